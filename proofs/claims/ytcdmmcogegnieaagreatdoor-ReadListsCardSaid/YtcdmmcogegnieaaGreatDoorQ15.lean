/- The program's reader: sentence.; The next token: what the machine of modes makes of the bytes where a token begins.; The next token: the scanner's next.; The scan's deferred closure: a scanner that gave up, or none.; lex's scan, Tokens: a text as tokens, or its place and error. -/
import Derived.Test.YtcdmmcogegnieaaGreatDoorQ13
import Derived.Test.YtcdmmcogegnieaaGreatDoorQ4
import Derived.Deep.RegionLaw
import Derived.Defers
import Derived.Recover
import Derived.Lib.Walk
set_option linter.unusedVariables false
set_option linter.unusedSimpArgs false
section
/- The program's reader: sentence. -/
namespace Go.Proofs.YtcdmmcogegnieaaGreatDoor.rd
open Go.RowKit
open Go.Proofs.YtcdmmcogegnieaaGreatDoor.op (bs strC Both Tb progI progP tupI lI lP)
open Go.Proofs.YtcdmmcogegnieaaGreatDoor.lx (Tok Tk tcell tcells cell_at ieq_yes ieq_no)
set_option maxRecDepth 20000

theorem tm_ok (r b : Nat) (tk : Value) (L : List Tok) (e : Nat) : ∀ f, TmOk r b tk L e f
  | 0 => term_zero
  | f + 1 => term_succ (tm_ok r b tk L e f)
/-- a sentence begins: no names yet -/
theorem Rd.fresh {r b b' e i : Nat} {tk nv : Value} {L : List Tok} {nm : List (List UInt8)} {w : World} (h : Rd r b tk L e i nv nm w) (hb : r < b') (hz : b' ≤ w.heap.size) : Rd r b' tk L e i (.slice none 0 0) [] (w.setCell ⟨r, 3, none⟩ (.slice none 0 0)) :=
  ⟨by rw [heap_set_at h.blk]; rfl, own_kept h.toks (kt_set h.blk (by decide)), World.ownsRow_nil _ _ _ _, h.le, Nat.zero_le _, both_low h.tb ((Below.refl 2 w).setCell (p := ⟨r, 3, none⟩) h.lo _), h.lo, hb, by simpa [World.setCell] using hz, h.good, h.en⟩
theorem Fr.low {r b : Nat} {w w' : World} (h : Fr r b w w') (hb : r < b) (hz : r < w.heap.size) : Below r w w' :=
  ⟨h.os, h.tape, h.output, h.size, fun k hk => h.block k (by omega) (by omega) (.inl (by omega))⟩
def SQ (r : Nat) (tk : Value) (L : List Tok) (e i : Nat) (w : World) (x : Except Nat ((T × List (List UInt8)) × List K)) (en : Ending) (w' : World) : Prop :=
  match x with
  | .ok ((t, nms), rest) => ∃ a nvs i' b', en = .returned (.agg #[.int .i64 (t.k : Nat), .int .i64 t.n, .string (bs t.s), a, nvs]) ∧ Rp (fun k => w.heap.size ≤ k) w' t a ∧ w'.ownsRow w.heap.size 9 1 nvs nms.length (strC (nms.map bs)) ∧
      rest = (ab L).drop i' ∧ i < i' ∧ Rd r b' tk L e i' nvs nms w' ∧ Fr r w.heap.size w w'
  | .error k => ∃ p : Nat, en = Wr p k ∧ Below r w w'
theorem sent_info : (Tryz.prog.info? 27).map (·.size) = some 5 := by kernel_rfl
theorem cells5 {W : World} {g : Nat} {t : TypeId} {a b c d e : Value} (h : W.heap[g]? = some (.cells #[a, b, c, d, e] t (0, 0))) :
    W.cell? ⟨g, 0, none⟩ = some a ∧ W.cell? ⟨g, 1, none⟩ = some b ∧ W.cell? ⟨g, 2, none⟩ = some c ∧ W.cell? ⟨g, 3, none⟩ = some d ∧ W.cell? ⟨g, 4, none⟩ = some e ∧ ∀ j, W.frozen? ⟨g, j, none⟩ = false :=
  ⟨by rw [cell_at h]; rfl, by rw [cell_at h]; rfl, by rw [cell_at h]; rfl, by rw [cell_at h]; rfl, by rw [cell_at h]; rfl, fun j => by simp [World.frozen?, h]⟩
theorem set5 {W : World} {g : Nat} {t : TypeId} {a0 a1 a2 a3 a4 : Value} (h : W.heap[g]? = some (.cells #[a0, a1, a2, a3, a4] t (0, 0))) (a b c d e : Value) :
    (((((W.setCell ⟨g, 0, none⟩ a).setCell ⟨g, 1, none⟩ b).setCell ⟨g, 2, none⟩ c).setCell ⟨g, 3, none⟩ d).setCell ⟨g, 4, none⟩ e).heap[g]? = some (.cells #[a, b, c, d, e] t (0, 0)) :=
  heap_set_at (heap_set_at (heap_set_at (heap_set_at (heap_set_at h))))
theorem ret_sent {fn : Func} {p : Tmp} (h : fn.results = #[.cell p 27]) (tmps : Array Value) (w : World) {g : Nat} {a b c d e : Value} (hp : tmps.getD p undef = .pointer (some ⟨g, 0, none⟩)) (hg : w.heap[g]? = some (.cells #[a, b, c, d, e] 27 (0, 0))) :
    (results fn tmps).run Tryz.prog w = .ok (.agg #[a, b, c, d, e]) w := results_cell_row h tmps w g _ _ _ _ hp hg Tryz.underlying27 rfl sent_info
theorem sent_end {r B e j : Nat} {tk nv : Value} {L : List Tok} {nm : List (List UInt8)} {w W : World} {a0 a1 a2 a3 a4 : Value} {t : T} {av : Value} {D : Nat → Prop} (hR : Rd r B tk L e j nv nm W) (hF : Fr r B w W)
    (hB : W.heap[B]? = some (.cells #[a0, a1, a2, a3, a4] 27 (0, 0))) (hBw : w.heap.size = B) (hr : r < B) (hT : Rp D W t av) (hD : ∀ k, D k → B ≤ k) (x0 x1 x2 x3 x4 : Value) :
    Rp (fun k => B ≤ k) (((((W.setCell ⟨B, 0, none⟩ x0).setCell ⟨B, 1, none⟩ x1).setCell ⟨B, 2, none⟩ x2).setCell ⟨B, 3, none⟩ x3).setCell ⟨B, 4, none⟩ x4).drew t av ∧
    (((((W.setCell ⟨B, 0, none⟩ x0).setCell ⟨B, 1, none⟩ x1).setCell ⟨B, 2, none⟩ x2).setCell ⟨B, 3, none⟩ x3).setCell ⟨B, 4, none⟩ x4).drew.ownsRow B 9 1 nv nm.length (strC (nm.map bs)) ∧
    Rd r B tk L e j nv nm (((((W.setCell ⟨B, 0, none⟩ x0).setCell ⟨B, 1, none⟩ x1).setCell ⟨B, 2, none⟩ x2).setCell ⟨B, 3, none⟩ x3).setCell ⟨B, 4, none⟩ x4).drew ∧
    Fr r B w (((((W.setCell ⟨B, 0, none⟩ x0).setCell ⟨B, 1, none⟩ x1).setCell ⟨B, 2, none⟩ x2).setCell ⟨B, 3, none⟩ x3).setCell ⟨B, 4, none⟩ x4).drew := by
  have p1 := heap_set_at (j := 0) (v := x0) hB
  have p2 := heap_set_at (j := 1) (v := x1) p1
  have p3 := heap_set_at (j := 2) (v := x2) p2
  have p4 := heap_set_at (j := 3) (v := x3) p3
  have kt : ∀ (ty : TypeId), ty ≠ 27 → Kt ty W (((((W.setCell ⟨B, 0, none⟩ x0).setCell ⟨B, 1, none⟩ x1).setCell ⟨B, 2, none⟩ x2).setCell ⟨B, 3, none⟩ x3).setCell ⟨B, 4, none⟩ x4) := fun ty hty =>
    ((((kt_set (p := ⟨B, 0, none⟩) hB hty).trans (kt_set (p := ⟨B, 1, none⟩) p1 hty)).trans (kt_set (p := ⟨B, 2, none⟩) p2 hty)).trans (kt_set (p := ⟨B, 3, none⟩) p3 hty)).trans (kt_set (p := ⟨B, 4, none⟩) p4 hty)
  have hbl : Below B W (((((W.setCell ⟨B, 0, none⟩ x0).setCell ⟨B, 1, none⟩ x1).setCell ⟨B, 2, none⟩ x2).setCell ⟨B, 3, none⟩ x3).setCell ⟨B, 4, none⟩ x4) :=
    (((((Below.refl B W).setCell (p := ⟨B, 0, none⟩) (Nat.le_refl _) x0).setCell (p := ⟨B, 1, none⟩) (Nat.le_refl _) x1).setCell (p := ⟨B, 2, none⟩) (Nat.le_refl _) x2).setCell (p := ⟨B, 3, none⟩) (Nat.le_refl _) x3).setCell (p := ⟨B, 4, none⟩) (Nat.le_refl _) x4
  generalize World.setCell _ _ x4 = W5 at *
  have kt' : ∀ (ty : TypeId), ty ≠ 27 → Kt ty W W5.drew := fun ty hty k cs fr h => kt ty hty k cs fr h
  have hbl' : Below B W W5.drew := hbl.drew
  exact ⟨(hT.kept (kt' _ (by decide))).imp fun k _ hk => hD k hk, own_kept hR.names (kt' _ (by decide)), hR.kept (hbl'.block r hr) (kt' _ (by decide)) (kt' _ (by decide)) (hbl'.mono (by omega)), hF.own hbl' (by omega)⟩
set_option maxHeartbeats 4000000 in
theorem sentence_c {r b e i : Nat} {tk nv : Value} {L : List Tok} {nm : List (List UInt8)} {w : World} (h : Rd r b tk L e i nv nm w) :
    Calls Tryz.prog 38 #[.pointer (some ⟨r, 0, none⟩)] w (SQ r tk L e i w (sentP ((ab L).drop i))) := by
  have H := Lib.hid h
  have hlt := h.lt
  have c3 : w.cell? ⟨r, 3, none⟩ = some nv := by rw [h.cell]; rfl
  have f3 := h.free 3
  have c3' : (w.alloc (.cells #[.int .i64 0, .int .i64 0, .string ⟨#[]⟩, .slice none 0 0, .slice none 0 0] 27)).cell? ⟨r, 3, none⟩ = some nv := by rw [(h.alloc _).cell]; rfl
  have f3' := (h.alloc (.cells #[.int .i64 0, .int .i64 0, .string ⟨#[]⟩, .slice none 0 0, .slice none 0 0] 27)).free 3
  have h0 := h.fresh (b' := w.heap.size) hlt (Nat.le_refl _)
  have hz0 : (w.setCell ⟨r, 3, none⟩ (.slice none 0 0)).heap.size = w.heap.size := by simp [World.setCell]
  have HR1 := Lib.hid (h0.alloc (.cells #[.int .i64 0, .int .i64 0, .string ⟨#[]⟩, .slice none 0 0, .slice none 0 0] 27))
  have hrb1 := heap_alloc_new (w.setCell ⟨r, 3, none⟩ (.slice none 0 0)) (.cells #[.int .i64 0, .int .i64 0, .string ⟨#[]⟩, .slice none 0 0, .slice none 0 0] 27)
  rw [hz0] at hrb1
  have Hrb1 := Lib.hid hrb1
  have HF1 := Lib.hid (((Fr.refl r w.heap.size w).set (p := ⟨r, 3, none⟩) (.inl rfl) (.slice none 0 0)).alloc (.cells #[.int .i64 0, .int .i64 0, .string ⟨#[]⟩, .slice none 0 0, .slice none 0 0] 27))
  have hw1 := size_alloc (w.setCell ⟨r, 3, none⟩ (.slice none 0 0)) (.cells #[.int .i64 0, .int .i64 0, .string ⟨#[]⟩, .slice none 0 0, .slice none 0 0] 27)
  rw [hz0] at hw1
  have Hw1 := Lib.hid hw1
  have kt := tm_ok r w.heap.size tk L e 65 1200 i 0 _ [] _ (by decide) (by decide) rfl HR1.out
  have hsp : sentP ((ab L).drop i) = match termP 65 1200 ((ab L).drop i, []) with | .error k => .error k | .ok (t, s) => if (nx s.1).kind = 6 then .ok ((t, s.2), s.1.tail) else .error 50 := rfl
  generalize sentP ((ab L).drop i) = X at *
  generalize termP 65 1200 ((ab L).drop i, []) = Y at *
  have HX := Lib.hid hsp
  clear h h0 hsp hrb1 hz0 hw1
  go_enter Tryz.func38, Tryz.ntmps38
  go_wp2_with fail
  refine kt.mono ?_
  rcases Y with k | ⟨t, s'⟩
  · rintro en w1 ⟨p, rfl, hb⟩
    have HB := Lib.hid ((HF1.out.low hlt hlt).trans hb)
    clear hb kt
    unfold Wr
    go_wp2
    exact ⟨rfl, by rw [HX.out]; exact ⟨p, rfl, HB.out⟩⟩
  · rintro en w1 ⟨a, i1, nv1, rfl, hT, hs, hi1, hR1, hF1⟩
    obtain ⟨ap, an, ac, rfl⟩ := hT.shape
    have hz1 := hF1.size
    rw [Hw1.out] at hz1
    have hrb2 := Lib.hid ((Lib.alloc_old w1 (.cells (tv t (.slice ap an ac)).toArray 25) w.heap.size (by omega)).trans (hF1.keep HR1.out (t := 27) (by decide) (by decide) _ _ _ Hrb1.out))
    have hl2 := Lib.hid (heap_alloc_new w1 (.cells (tv t (.slice ap an ac)).toArray 25))
    have HT := Lib.hid (Rp.kept (Kt.alloc (Kt.refl _ _) (.cells (tv t (.slice ap an ac)).toArray 25)) (hT.imp (D' := fun k => w.heap.size + 1 ≤ k ∧ k < w1.heap.size) fun k hk hh => ⟨by rw [Hw1.out] at hh; exact hh, hk⟩))
    have HR2 := Lib.hid (hR1.alloc (.cells (tv t (.slice ap an ac)).toArray 25))
    have HF2 := Lib.hid ((HF1.out.trans hF1).alloc (.cells (tv t (.slice ap an ac)).toArray 25))
    have Hs := Lib.hid hs
    have kn := next_c HR2.out
    have hnk := (nx_tok L e i1).1
    rw [← hs] at hnk
    have hf := field_k
    clear hT hs hR1 hF1 kt
    go_wp2_with fail
    refine kn.mono ?_
    rintro en w3 ⟨rfl, hb⟩
    have hrb3 := Lib.hid ((hb.block w.heap.size (lt_of hrb2.out)).trans hrb2.out)
    have hl3 := Lib.hid ((hb.block w1.heap.size (lt_of hl2.out)).trans hl2.out)
    have HT3 := Lib.hid (HT.out.kept (Kt.below hb))
    have HR3 := Lib.hid (HR2.out.stay hb)
    have HF3 := Lib.hid (HF2.out.trans (Fr.of_below hb))
    clear hb kn
    have hlk : ∀ k, (tokAt L e i1).kind = k → k ≠ 0 → i1 < L.length := fun k hk hk0 => lt_of_kind (e := e) (by omega)
    unfold tokV
    by_cases h6 : (tokAt L e i1).kind = 6
    · obtain ⟨x1, x2⟩ := ieq_yes (a := (tokAt L e i1).kind) 6 (by omega)
      have hil := hlk 6 h6 (by decide)
      have hXe := Lib.hid (HX.out.trans (if_pos (hnk.trans h6)))
      clear h6 hlk hnk HX
      obtain ⟨t0, t1, t2, t3, _⟩ := cells4 hl3.out
      have hll := HR3.out.good.len
      have c2 : w3.cell? ⟨r, 2, none⟩ = some (.int .i64 (i1 : Nat)) := by rw [HR3.out.cell]; rfl
      have f2 := HR3.out.free 2
      have i1' : IntKind.i64.wrap ((i1 : Int) + 1) = (i1 : Int) + 1 := IntWalk.i64_in _ (by omega)
      obtain ⟨na, nn, nc, rfl⟩ : ∃ a n c, nv1 = .slice a n c := by
        rcases HR3.out.names.2 with ⟨h1, _⟩ | ⟨g', cap, cur, h1, _⟩ <;> exact ⟨_, _, _, h1⟩
      have HR5 := Lib.hid (HR3.out.step hil)
      have hrb5 := Lib.hid ((Below.heap_setCell w3 ⟨r, 2, none⟩ (.int .i64 ((i1 : Int) + 1)) w.heap.size (by show w.heap.size ≠ r; omega)).trans hrb3.out)
      have hl5 := Lib.hid ((Below.heap_setCell w3 ⟨r, 2, none⟩ (.int .i64 ((i1 : Int) + 1)) w1.heap.size (by show w1.heap.size ≠ r; omega)).trans hl3.out)
      have HT5 := Lib.hid (HT3.out.kept (kt_set (v := .int .i64 ((i1 : Int) + 1)) (p := ⟨r, 2, none⟩) HR3.out.blk (by decide)))
      have HF5 := Lib.hid (HF3.out.set (p := ⟨r, 2, none⟩) (.inl rfl) (.int .i64 ((i1 : Int) + 1)))
      go_wp2
      clear t0 t1 t2 t3 c2 f2 hrb3 hl3 HT3 HR3 HF3
      generalize World.setCell w3 ⟨r, 2, none⟩ _ = W at *
      obtain ⟨t0, t1, t2, t3, _⟩ := cells4 hl5.out
      obtain ⟨r0, r1, r2, r3, r4, rf⟩ := cells5 hrb5.out
      have c3 : W.cell? ⟨r, 3, none⟩ = some (.slice na nn nc) := by rw [HR5.out.cell]; rfl
      have n1 : ¬ w.heap.size = w1.heap.size := by omega
      have n2 : ¬ w1.heap.size = w.heap.size := by omega
      generalize hBe : w.heap.size = B at *
      generalize hBl : w1.heap.size = B1 at *
      have HBe := Lib.hid hBe
      clear hBe hBl
      go_region
      all_goals
        go_wp2
        refine bodyPost_ret (ret_sent rfl _ _ rfl (set5 hrb5.out _ _ _ _ _)) rfl ?_
        have HE := sent_end HR5.out HF5.out hrb5.out HBe.out hlt HT5.out (fun k hk => by omega) (.int .i64 (t.k : Nat)) (.int .i64 t.n) (.string (bs t.s)) (.slice ap an ac) (.slice na nn nc)
        rw [hXe.out]
        exact ⟨_, _, i1 + 1, B, rfl, by rw [HBe.out]; exact HE.1, by rw [HBe.out]; exact HE.2.1, by rw [Hs.out, tail_drop], by omega, HE.2.2.1, by rw [HBe.out]; exact HE.2.2.2⟩
    · obtain ⟨x1, x2⟩ := ieq_no (a := (tokAt L e i1).kind) 6 (by omega)
      have hXe := Lib.hid (HX.out.trans (if_neg (by rw [hnk]; exact h6)))
      clear h6 hlk hnk HX
      go_wp2_with fail
      refine (here_c HR3.out 50).mono ?_
      rintro en w4 ⟨rfl, hb⟩
      have HB := Lib.hid ((HF3.out.low hlt hlt).trans (hb.mono (by have := HR3.out.lt; omega)))
      clear hb
      go_wp2
      exact ⟨rfl, by rw [hXe.out]; exact ⟨_, rfl, HB.out⟩⟩
end Go.Proofs.YtcdmmcogegnieaaGreatDoor.rd
end
section
/- The next token: what the machine of modes makes of the bytes where a token begins. -/
namespace Go.Proofs.YtcdmmcogegnieaaGreatDoor.lx
open Go.RowKit

theorem ans_start (M : Nat) (b : UInt8) (l : List UInt8) (ts : List Tok) (n : Nat) (h1 : cl b ≠ 1) (h2 : b ≠ 37) (h3 : b ≠ 47) :
    ans M (b :: l) ts n .btw = if cl b = 0 then .bad n 30 else if ts.length = M then .bad n 34 else match opening ts n b with | .go ts' m' => ans M l ts' (n + 1) m' | .bad p e => .bad p e := by
  rw [ans_cons, step, start, if_neg h1, if_neg h2, if_neg h3]
  by_cases h0 : cl b = 0
  · rw [if_pos h0, if_pos h0]
  · rw [if_neg h0, if_neg h0]
    by_cases hM : ts.length = M
    · rw [if_pos hM, if_pos hM]
    · rw [if_neg hM, if_neg hM]
      cases opening ts n b <;> rfl
theorem ans_slash (M : Nat) (l : List UInt8) (ts : List Tok) (n : Nat) (h : ∀ r, l ≠ 42 :: r) :
    ans M (47 :: l) ts n .btw = if ts.length = M then .bad n 34 else ans M l ts (n + 1) (.word 5 n [47]) := by
  rw [ans_cons, step, start, if_neg (by decide), if_neg (by decide), if_pos rfl]
  cases l with
  | nil =>
    simp only [ans_nil, fin]
    by_cases hM : ts.length = M
    · rw [if_pos hM, if_pos hM]
    · rw [if_neg hM, if_neg hM]; rfl
  | cons b r =>
    have hb : b ≠ 42 := fun e => h r (by rw [e])
    simp only [ans_cons, step]
    rw [if_neg hb]
    by_cases hM : ts.length = M
    · rw [if_pos hM, if_pos hM]
    · rw [if_neg hM, if_neg hM, (joinB_name (cl b)).2.2.2]
      by_cases h5 : cl b = 5
      · rw [if_pos h5, if_pos (by simpa using h5)]; rfl
      · rw [if_neg h5, if_neg (by simpa using h5)]; rfl
/-- a '.' that begins a token -/
theorem ans_dot (M : Nat) (l : List UInt8) (ts : List Tok) (n : Nat) :
    ans M l ts (n + 1) (.dot n) = if (match l with | [] => true | b :: _ => cl b == 1 || b == 37) = true then ans M l (ts ++ [⟨6, [46], n, n + 1⟩]) (n + 1) .btw else ans M l ts (n + 1) (.word 5 n [46]) := by
  cases l with
  | nil => rfl
  | cons b r =>
    simp only [ans_cons, step]
    rw [(joinB_name (cl b)).2.2.2]
    by_cases h5 : cl b = 5
    · have h37 : b ≠ 37 := fun e => by rw [e] at h5; exact absurd h5 (by decide)
      rw [if_pos h5, if_neg (by simp [h5, h37]), if_pos (by simpa using h5)]; rfl
    · rw [if_neg h5]
      by_cases h1 : cl b = 1 ∨ b = 37
      · rw [if_pos h1, if_pos (by simpa using h1)]
      · rw [if_neg h1, if_neg (by simpa using h1), if_neg (by simpa using h5)]; rfl
/-- a word, whole -/
theorem ans_word_all (M y : Nat) (s : ByteArray) (n : Nat) (ts : List Tok) (_hn : n < s.size) :
    ans M (s.data.toList.drop (n + 1)) ts (n + 1) (.word y n [bA s n]) =
      ans M (s.data.toList.drop (n + 1 + (wordL s n y).length)) (ts ++ [⟨kindOf y, bA s n :: wordL s n y, n, n + 1 + (wordL s n y).length⟩]) (n + 1 + (wordL s n y).length) .btw := by
  have hsp : s.data.toList.drop (n + 1) = wordL s n y ++ (s.data.toList.drop (n + 1)).dropWhile fun b => joinB y (cl b) := (List.takeWhile_append_dropWhile).symm
  have hd : s.data.toList.drop (n + 1 + (wordL s n y).length) = (s.data.toList.drop (n + 1)).dropWhile fun b => joinB y (cl b) := by
    rw [← List.drop_drop]
    conv => lhs; rw [hsp]
    rw [List.drop_left]
  rw [hd]
  conv => lhs; rw [hsp]
  rw [ans_word M y n (wordL s n y) _ _ _ _ (fun b hb => List.all_eq_true.1 (List.all_takeWhile (p := fun b => joinB y (cl b)) (l := s.data.toList.drop (n + 1))) b hb)]
  rw [ans_word_end]
  · rfl
  · intro b r hbr
    have := List.head?_dropWhile_not (fun b => joinB y (cl b)) (s.data.toList.drop (n + 1))
    rw [hbr] at this
    simpa using this

theorem wordL_none {s : ByteArray} {n y : Nat} (h : ∀ b r, s.data.toList.drop (n + 1) = b :: r → joinB y (cl b) = false) : wordL s n y = [] := by
  unfold wordL
  cases hd : s.data.toList.drop (n + 1) with
  | nil => rfl
  | cons b r => rw [List.takeWhile_cons, if_neg (by rw [h b r hd]; decide)]

theorem next_word (M : Nat) {s : ByteArray} {n : Nat} (ts : List Tok) (hn : n < s.size) (hst : Stop s n) (h0 : cl (bA s n) ≠ 0) (h6 : cl (bA s n) ≠ 6) (hM : ts.length ≠ M) :
    ans M (s.data.toList.drop n) ts n .btw = ans M (s.data.toList.drop (n + 1 + (wordL s n (cl (bA s n))).length))
      (ts ++ [⟨kindS s n ts (cl (bA s n)), bA s n :: wordL s n (cl (bA s n)), n, n + 1 + (wordL s n (cl (bA s n))).length⟩]) (n + 1 + (wordL s n (cl (bA s n))).length) .btw := by
  obtain ⟨h1, h2, h3⟩ := hst hn
  have hb := bA_le s n
  by_cases h47 : bA s n = 47
  · rw [drop_bA hn, h47, ans_slash, if_neg hM]
    · have e5 : cl (47 : UInt8) = 5 := by decide
      have hk : kindS s n ts 5 = kindOf 5 := by
        unfold kindS endsB; rw [h47]; rfl
      rw [e5, hk]
      have := ans_word_all M 5 s n ts hn
      rw [h47] at this; exact this
    · intro r hr
      rw [drop_bA hn, h47, hr] at h3
      exact absurd h3 (by simp [Lib.hasPrefix])
  rw [drop_bA hn, ans_start M _ _ ts n h1 h2 h47, if_neg h0, if_neg hM]
  unfold opening
  rw [if_neg h6]
  by_cases h7 : cl (bA s n) = 7
  · rw [if_pos h7]
    have hw : wordL s n (cl (bA s n)) = [] := wordL_none fun b r _ => by rw [h7]; rfl
    rw [hw, h7]; rfl
  rw [if_neg h7]
  by_cases h8 : cl (bA s n) = 8
  · rw [if_pos h8]
    have hw : wordL s n (cl (bA s n)) = [] := wordL_none fun b r _ => by rw [h8]; rfl
    rw [hw, h8]
    have hk : kindS s n ts 8 = if bA s n = 40 ∧ opens ts n = true then 4 else 5 := by
      unfold kindS
      rw [if_neg (by decide), if_neg (by decide), if_pos rfl]
      by_cases hp : bA s n = 40 ∧ opens ts n = true
      · rw [if_pos (by simp [hp]), if_pos hp]
      · rw [if_neg (by simpa using hp), if_neg hp]
    rw [hk]; rfl
  rw [if_neg h8]
  by_cases h46 : bA s n = 46
  · rw [if_pos h46]
    simp only
    have e5 : cl (bA s n) = 5 := by rw [h46]; decide
    rw [ans_dot, e5]
    have he : (match s.data.toList.drop (n + 1) with | [] => true | b :: _ => cl b == 1 || b == 37) = endsB s n := by
      unfold endsB
      rw [h46]
      by_cases hlt : n + 1 < s.size
      · rw [drop_bA hlt]
        simp only
        rw [show (n + 1 == s.size) = false from by simp; omega, Bool.false_or, Bool.or_comm]; rfl
      · rw [drop_end (k := n + 1) (by omega), show (n + 1 == s.size) = true from by simp; omega]; rfl
    rw [he]
    by_cases hE : endsB s n = true
    · rw [if_pos hE]
      have hw : wordL s n 5 = [] := wordL_none fun b r hbr => by
        rw [hbr] at he
        simp only at he
        rw [hE] at he
        rw [(joinB_name (cl b)).2.2.2]
        rcases Bool.or_eq_true_iff.1 he with h | h
        · rw [beq_iff_eq] at h; rw [h]; rfl
        · rw [beq_iff_eq] at h; rw [h]; decide
      have hk : kindS s n ts 5 = 6 := by unfold kindS; rw [if_neg (by decide), if_neg (by decide), if_neg (by decide), if_pos rfl, if_pos hE]
      rw [hw, hk, h46]; rfl
    · rw [if_neg hE]
      have hk : kindS s n ts 5 = kindOf 5 := by unfold kindS; rw [if_neg (by decide), if_neg (by decide), if_neg (by decide), if_pos rfl, if_neg hE]; rfl
      rw [hk]
      have := ans_word_all M 5 s n ts hn
      rw [h46] at this ⊢; exact this
  rw [if_neg h46]
  have hk : kindS s n ts (cl (bA s n)) = kindOf (cl (bA s n)) := by
    unfold kindS kindOf
    by_cases a3 : cl (bA s n) = 3
    · rw [if_pos a3, if_pos a3]
    rw [if_neg a3, if_neg a3]
    by_cases a4 : cl (bA s n) = 4
    · rw [if_pos a4, if_pos a4]
    rw [if_neg a4, if_neg a4, if_neg h8]
    by_cases a5 : cl (bA s n) = 5
    · rw [if_pos a5, if_neg]
      unfold endsB
      simp [h46]
    · rw [if_neg a5]
  rw [hk]
  exact ans_word_all M _ s n ts hn
theorem next_quote (M : Nat) {s : ByteArray} {n : Nat} (ts : List Tok) (hn : n < s.size) (h6 : cl (bA s n) = 6) (hM : ts.length ≠ M) :
    ans M (s.data.toList.drop n) ts n .btw = ans M (s.data.toList.drop (n + 1)) ts (n + 1) (.quo n []) := by
  have h37 : bA s n ≠ 37 := fun e => by rw [e] at h6; exact absurd h6 (by decide)
  have h47 : bA s n ≠ 47 := fun e => by rw [e] at h6; exact absurd h6 (by decide)
  rw [drop_bA hn, ans_start M _ _ ts n (by omega) h37 h47, if_neg (by omega), if_neg hM]
  unfold opening
  rw [if_pos h6]
theorem next_alien (M : Nat) {s : ByteArray} {n : Nat} (ts : List Tok) (hn : n < s.size) (hst : Stop s n) (h0 : cl (bA s n) = 0) : ans M (s.data.toList.drop n) ts n .btw = .bad n 30 := by
  obtain ⟨h1, h2, h3⟩ := hst hn
  have h47 : bA s n ≠ 47 := fun e => by rw [e] at h0; exact absurd h0 (by decide)
  rw [drop_bA hn, ans_start M _ _ ts n h1 h2 h47, if_pos h0]
theorem next_many (M : Nat) {s : ByteArray} {n : Nat} (ts : List Tok) (hn : n < s.size) (hst : Stop s n) (h0 : cl (bA s n) ≠ 0) (hM : ts.length = M) : ans M (s.data.toList.drop n) ts n .btw = .bad n 34 := by
  obtain ⟨h1, h2, h3⟩ := hst hn
  by_cases h47 : bA s n = 47
  · rw [drop_bA hn, h47, ans_slash, if_pos hM]
    intro r hr
    rw [drop_bA hn, h47, hr] at h3
    exact absurd h3 (by simp [Lib.hasPrefix])
  · rw [drop_bA hn, ans_start M _ _ ts n h1 h2 h47, if_neg h0, if_pos hM]
end Go.Proofs.YtcdmmcogegnieaaGreatDoor.lx
end
section
/- The next token: the scanner's next. -/
namespace Go.Proofs.YtcdmmcogegnieaaGreatDoor.lx
open Go.RowKit

def NextP (B c : Nat) (s : ByteArray) (ts : List Tok) (n : Nat) (w : World) (e : Ending) (w' : World) : Prop :=
  Below B w w' ∧ ((∃ m v' ts', e = .returned (.tuple #[]) ∧ Sc B c s m v' ts' w' ∧ n < m ∧ m ≤ s.size ∧ ts'.length ≤ 1000 ∧ ans 1000 (s.data.toList.drop n) ts n .btw = ans 1000 (s.data.toList.drop m) ts' m .btw) ∨
    (∃ p k, e = Wrong p k ∧ ans 1000 (s.data.toList.drop n) ts n .btw = .bad p k))

theorem tok_info : (Tryz.prog.info? 51).map (fun i => (i.zero, i.size, i.bytes)) = some (some (.agg #[.int .i64 0, .string ⟨#[]⟩, .int .i64 0, .int .i64 0]), 4, 40) := by kernel_rfl

/-- append to a slice of one's own, as one step of a region that draws -/
theorem step_append_own {P : Program} {ops : Array Oper} {o : Oper} {a : Act} {w : World} {K : Act → World → Prop} {Q : Exit → Act → World → Prop} {E : Prop} (hg : o.guard = none) (s x : Operand) (t : TypeId)
    (ho : o.op = .call { callee := .builtin .append, args := #[s, x], argTypes := #[t, t] })
    (base : Nat) (e : TypeId) (i : TypeInfo) (z : Value) (size bytes : Nat) (ht : P.underlying t = some (.slice e)) (hi : P.info? e = some i) (hz : i.zero = some z)
    (hsize : i.size = size) (hby : i.bytes = bytes) (hzs : z.cells.size = size) (hsz : 0 < size)
    (v : Value) (n : Nat) (xs : List Value) (hs : a.eval s = v) (hown : w.ownsRow base e size v n xs)
    (ad : Addr) (m c : Nat) (news : List Value) (hx : a.eval x = .slice (some ad) m c) (hl : news.length = m * size) (hnews : ∀ j u, news[j]? = some u → w.cell? (ad.add j) = some u) (h1 : ∀ u ∈ news, u.oneCell' = true)
    (h63 : n + m ≤ maxLen) (hbytes : (n + m) * bytes ≤ 140737488355328) (hbase : base ≤ w.heap.size)
    (h : ∀ v' w', w'.ownsRow base e size v' (n + m) (xs ++ news) → w.grownBy w' v.ownBlock → K (a.put o.dst v') w') :
    if Region.wanted o (yielded ops a.tmps) = true then Oper.wp P o a w K Q else E := by
  have hw : Region.wanted o (yielded ops a.tmps) = true := by simp [Region.wanted, hg]
  rw [if_pos hw]
  exact wp_append_own w s x t ho base e i z size bytes ht hi hz hsize hby hzs hsz v n xs hs hown ad m c news hx hl hnews h1 h63 hbytes hbase (fun v' w' a b _ => h v' w' a b)

theorem news_at (W : World) (T : Tok) : ∀ j u, (tcell T)[j]? = some u → ((W.alloc (.cells (tcell T).toArray 51)).drew).cell? ((⟨W.heap.size, 0, none⟩ : Addr).add j) = some u := by
  intro j u hj
  have e : (⟨W.heap.size, 0, none⟩ : Addr).add j = ⟨W.heap.size, j, none⟩ := by
    by_cases h0 : j = 0
    · subst h0; simp [Addr.add]
    · simp [Addr.add, h0]
  rw [e]
  have hb : ((W.alloc (.cells (tcell T).toArray 51)).drew).heap[W.heap.size]? = some (.cells (tcell T).toArray 51 (0, 0)) := heap_alloc_new W _
  rw [cell_at hb]
  simpa using hj
theorem news_one (T : Tok) : ∀ u ∈ tcell T, u.oneCell' = true := by
  intro u hu; simp [tcell] at hu; rcases hu with rfl | rfl | rfl | rfl <;> rfl
/-- a token more -/
theorem Sc.pushed {B c m : Nat} {s : ByteArray} {v : Value} {ts : List Tok} {W : World} (h : Sc B c s m v ts W) (hB : B ≤ W.heap.size) (o : Obj) (T : Tok) {v' : Value} {w4 : World}
    (hown : w4.ownsRow B 51 4 v' (ts.length + 1) (tcells ts ++ tcell T)) (hgr : ((W.alloc o).drew).grownBy w4 v.ownBlock) :
    (∃ a' cap', v' = .slice (some a') (ts.length + 1) cap') ∧ w4.cell? ⟨c, 2, none⟩ = some v ∧ w4.frozen? ⟨c, 2, none⟩ = false ∧ Below B W w4 ∧ Sc B c s m v' (ts ++ [T]) (w4.setCell ⟨c, 2, none⟩ v') := by
  have hlt := h.lt
  have hsz : W.heap.size < (W.alloc o).drew.heap.size := by show _ < (W.heap.push o).size; simp
  have hb4 : w4.heap[c]? = some (.cells #[.string s, .int .i64 (m : Nat), v] 81 (0, 0)) := by
    rw [hgr.block c (by omega) (fun e => h.other e.symm)]
    exact (Lib.alloc_old W o c hlt).trans h.block
  have hTk : Tk B w4 v' (ts ++ [T]) := by
    unfold Tk; rw [tcells_append, List.length_append]; simpa [tcells] using hown
  have hne : v'.ownBlock ≠ some c := by
    rcases hown.2 with ⟨h1, _⟩ | ⟨g, cap, cur, h1, _, h3, _⟩
    · rw [h1]; simp [Value.ownBlock]
    · rw [h1]; intro e; cases e
      rw [hb4] at h3; simp at h3
  refine ⟨?_, by rw [cell_at hb4]; rfl, by simp [World.frozen?, hb4], ?_, h.base, ?_, hTk.kp ((Kp.refl c w4).set 2 _) hne, hne⟩
  · rcases hown.2 with ⟨_, h1⟩ | ⟨g, cap, cur, h1, _⟩
    · omega
    · exact ⟨_, _, h1⟩
  · exact ((Below.refl B W).alloc hB o).drew.grown hgr (by omega) (fun k hk => ((World.ownsRow.lt h.row) k hk).1)
  · simp [World.setCell, Array.getElem?_modify, hb4]

set_option maxHeartbeats 4000000 in
theorem next_c {B c n : Nat} {s : ByteArray} {v : Value} {ts : List Tok} {w : World} (h : Sc B c s n v ts w) (hB : B ≤ w.heap.size) (hn : n < s.size) (hs : s.size ≤ 4096) (hst : Stop s n) (hts : ts.length ≤ 1000) :
    Calls Tryz.prog 47 #[.pointer (some ⟨c, 0, none⟩)] w (NextP B c s ts n w) := by
  obtain ⟨a, cap, rfl⟩ := h.row.shape
  obtain ⟨i0, hi, hz0, hz1, hz2⟩ := info_parts tok_info
  have c0 := h.c0
  have c1 := h.c1
  have hh := Lib.hid h
  have hgt := get_bA s
  have hn2 : (n : Int) < s.size := by omega
  have kc := class_c (bA s n).toNat (bA_le s _)
  clear h
  have hst' := Lib.hid hst
  clear hst
  go_enter Tryz.func47, Tryz.ntmps47
  go_wp2
  go_quiet ((go_at_call 59; exact still0 kc))
  generalize hw2 : World.drewN w _ = w2
  have hS := Lib.hid (show Sc B c s n (.slice a ts.length cap) ts w2 by rw [← hw2]; exact hh.out.drew _)
  have hK := Lib.hid (show Kp c w w2 by rw [← hw2]; exact Kp.drawn ..)
  clear hw2 c0 c1 hgt
  have c0 := hS.out.c0
  have c1 := hS.out.c1
  have c2 := hS.out.c2
  have hbel := Lib.hid (hK.out.below (Below.refl B w) hS.out.base hB)
  by_cases h0 : cl (bA s n) = 0
  · obtain ⟨a1, a2⟩ := ieq_yes (a := cls (bA s n).toNat) 0 (by unfold cl at h0; omega)
    have hq := Lib.hid (next_alien 1000 ts hn hst'.out h0)
    clear h0
    go_wp2
    exact ⟨rfl, hbel.out, .inr ⟨n, 30, rfl, hq.out⟩⟩
  obtain ⟨a1, a2⟩ := ieq_no (a := cls (bA s n).toNat) 0 (by unfold cl at h0; omega)
  have H0 := Lib.hid h0
  clear h0
  by_cases hM : ts.length = 1000
  · obtain ⟨b1, b2⟩ := ieq_yes (a := ts.length) 1000 (by omega)
    have hq := Lib.hid (next_many 1000 ts hn hst'.out H0.out hM)
    clear hM
    go_wp2
    exact ⟨rfl, hbel.out, .inr ⟨n, 34, rfl, hq.out⟩⟩
  obtain ⟨b1, b2⟩ := ieq_no (a := ts.length) 1000 (by omega)
  have HM := Lib.hid hM
  clear hM
  by_cases h6 : cl (bA s n) = 6
  · obtain ⟨d1, d2⟩ := ieq_yes (a := cls (bA s n).toNat) 6 (by unfold cl at h6; omega)
    have hq := Lib.hid (next_quote 1000 ts hn h6 HM.out)
    clear h6
    go_wp2_with fail
    refine (quoted_c hS.out hn hs).mono ?_
    rintro e w3 ⟨hk3, ⟨m, acc, rfl, hS3, hnm, hms, hqo⟩ | ⟨p, k, rfl, hqb⟩⟩
    · have HS := Lib.hid hS3
      have HK := Lib.hid hk3
      have HQ := Lib.hid hqo
      clear hS3 hk3 hqo c0 c1 c2
      have c1 := HS.out.c1
      have c2 := HS.out.c2
      go_wp2
      have c2' : ∀ o, (w3.alloc o).cell? ⟨c, 2, none⟩ = some (.slice a ts.length cap) := fun o => (HS.out.alloc o).c2
      have c1' : ∀ o, (w3.alloc o).cell? ⟨c, 1, none⟩ = some (.int .i64 (m : Nat)) := fun o => (HS.out.alloc o).c1
      have hz := Lib.hid (show B ≤ w3.heap.size by have := hbel.out.size; have := HK.out.size; omega)
      have hl := HM.out
      go_region_law ((refine step_append_own rfl (.tmp 50) (.tmp 59) 47 rfl B 51 i0 _ 4 40 Tryz.underlying47 hi hz0 hz1 hz2 rfl (by decide) (.slice a ts.length cap) ts.length (tcells ts) (by simp [Act.eval]) (World.ownsRow.alloc HS.out.row _) ⟨w3.heap.size, 0, none⟩ 1 1 (tcell ⟨1, acc, n, m⟩) (by simp [Act.eval]) rfl (news_at w3 ⟨1, acc, n, m⟩) (news_one _) (by unfold maxLen; omega) (by omega) (by have := hz.out; simp; omega) ?_; intro v' w4 hown hgr; obtain ⟨⟨a', cap', rfl⟩, g2, gf, gb, gs⟩ := HS.out.pushed hz.out _ ⟨1, acc, n, m⟩ hown hgr; have GB := Lib.hid gb; have GS := Lib.hid gs; clear gb gs hown hgr))
      all_goals
        go_end0
        refine ⟨((HK.out.below hbel.out HS.out.base (by have := hbel.out.size; omega)).trans GB.out).setCell HS.out.base _, .inl ⟨m, _, _, rfl, GS.out, hnm, hms, by rw [List.length_append, List.length_singleton]; omega, ?_⟩⟩
        rw [hq.out]; exact HQ.out 1000 ts
    · unfold Wrong
      exact ⟨rfl, hk3.below hbel.out hS.out.base (by have := hbel.out.size; omega), .inr ⟨p, k, rfl, by rw [hq.out]; exact hqb 1000 ts⟩⟩
  · obtain ⟨d1, d2⟩ := ieq_no (a := cls (bA s n).toNat) 6 (by unfold cl at h6; omega)
    have hq := Lib.hid (next_word 1000 ts hn hst'.out H0.out h6 HM.out)
    clear h6
    have kk := kind_c hS.out hn hs hts (cls (bA s n).toNat)
    go_wp2_with fail
    refine kk.mono ?_
    rintro e w3 ⟨rfl, hb3⟩
    have hS3 := Lib.hid (hS.out.stay hb3)
    have hb3' := Lib.hid (hbel.out.trans (hb3.mono (by have := hbel.out.size; omega)))
    clear hb3 kk
    go_wp2_with fail
    refine (word_c hS3.out hn hs (cls (bA s n).toNat)).mono ?_
    rintro e w4 ⟨rfl, hS4, hK4⟩
    have HS := Lib.hid hS4
    have HB4 := Lib.hid (hK4.below hb3'.out hS3.out.base (by have := hb3'.out.size; omega))
    have hmw := HS.out
    clear hS4 hK4 c0 c1 c2
    have hm4 : n + 1 + (wordL s n (cls (bA s n).toNat)).length ≤ s.size := by
      have := (List.takeWhile_prefix (l := s.data.toList.drop (n + 1)) fun b => joinB (cls (bA s n).toNat) (cl b)).length_le
      unfold wordL
      rw [List.length_drop] at this
      have hs2 : s.data.toList.length = s.size := by simp
      omega
    have hq2 := Lib.hid hq.out
    unfold cl at hq
    generalize hW : wordL s n (cls (bA s n).toNat) = W at *
    generalize hm : n + 1 + W.length = m at *
    have Hm := Lib.hid hm
    have HW := Lib.hid hW
    clear hm hW hmw
    generalize kindS s n ts (cls (bA s n).toNat) = kd at *
    have c1 := HS.out.c1
    have c2 := HS.out.c2
    have c2' : ∀ o, (w4.alloc o).cell? ⟨c, 2, none⟩ = some (.slice a ts.length cap) := fun o => (HS.out.alloc o).c2
    have c1' : ∀ o, (w4.alloc o).cell? ⟨c, 1, none⟩ = some (.int .i64 (m : Nat)) := fun o => (HS.out.alloc o).c1
    have hz := Lib.hid (show B ≤ w4.heap.size by have := HB4.out.size; omega)
    have hl := HM.out
    go_wp2
    go_region_law ((refine step_append_own rfl (.tmp 50) (.tmp 59) 47 rfl B 51 i0 _ 4 40 Tryz.underlying47 hi hz0 hz1 hz2 rfl (by decide) (.slice a ts.length cap) ts.length (tcells ts) (by simp [Act.eval]) (World.ownsRow.alloc HS.out.row _) ⟨w4.heap.size, 0, none⟩ 1 1 (tcell ⟨kd, bA s n :: W, n, m⟩) (by simp [Act.eval]) rfl (news_at w4 ⟨kd, bA s n :: W, n, m⟩) (news_one _) (by unfold maxLen; omega) (by omega) (by have := hz.out; simp; omega) ?_; intro v' w5 hown hgr; obtain ⟨⟨a', cap', rfl⟩, g2, gf, gb, gs⟩ := HS.out.pushed hz.out _ ⟨kd, bA s n :: W, n, m⟩ hown hgr; have GB := Lib.hid gb; have GS := Lib.hid gs; clear gb gs hown hgr))
    all_goals
      go_end0
      refine ⟨(HB4.out.trans GB.out).setCell HS.out.base _, .inl ⟨m, _, _, rfl, GS.out, by have := Hm.out; omega, hm4, by rw [List.length_append, List.length_singleton]; omega, ?_⟩⟩
      exact hq.out
end Go.Proofs.YtcdmmcogegnieaaGreatDoor.lx
end
section
/- The scan's deferred closure: a scanner that gave up, or none. -/
namespace Go.Proofs.YtcdmmcogegnieaaGreatDoor.lx
open Go.RowKit

theorem wpS_rest {P : Program} {fn : Func} {c₀ : Frame} {cs cs' : List Frame} {R : Ending → FrameMode → World → Prop} {u' : FrameMode} {c : Code} {a : Act} {w : World} (hcs : cs' = { c₀ with mode := u' } :: cs)
    (h : c.wp P (bodyPost P fn fun e w' => R e u' w') a w) : c.wpS P (bodyPostS P fn c₀ cs R) a cs' w := by
  refine wpS_of_wp fun b k cs2 => ?_
  obtain ⟨e, a', w', hq, hr⟩ := h b k cs2
  refine ⟨e, a', w', ?_, hr⟩
  cases e with
  | normal => exact ⟨hq.1, u', hcs, hq.2⟩
  | ret => exact ⟨hq.1, u', hcs, hq.2⟩
  | panic ch => exact ⟨hq.1, u', hcs, hq.2⟩
  | outgrown => exact ⟨u', hq⟩
  | exit id => exact hq
  | goto l => exact hq

set_option maxHeartbeats 1000000 in
theorem catch_idle (p q r : Addr) (w : World) :
    CallsD Tryz.prog 45 #[.pointer (some p), .pointer (some q), .pointer (some r)] .returning w fun e u' w' => e = .returned (.tuple #[]) ∧ u' = .returning ∧ w = w' := by
  refine callsD_of_wpS Tryz.func45 rfl fun c₀ cs hu => ?_
  apply wpS_seq
  apply wpS_region
  simp [wpOpsS, go_sem, recoverD, hu, Tryz.ntmps45, Exit.thenS]
  refine wpS_rest (u' := .returning) (by cases c₀; simp_all) ?_
  clear hu
  go_wp2
  go_end0
  exact ⟨rfl, rfl⟩

theorem catch_post (w : World) (a p k : Nat) (x0 : ∀ o, (w.alloc o).cell? ⟨a, 0, none⟩ = some (.slice none 0 0)) (x1 : ∀ o, (w.alloc o).cell? ⟨a + 1, 0, none⟩ = some (.int .i64 0)) (x2 : ∀ o, (w.alloc o).cell? ⟨a + 2, 0, none⟩ = some (.int .i64 0)) (hl : a + 2 < w.heap.size) {o : Obj} :
    Ending.returned (.tuple #[]) = .returned (.tuple #[]) ∧ FrameMode.panicking [{ v := .iface 78 (.agg #[.int .i64 (p : Nat), .int .i64 (k : Nat)]), recovered := true }] = FrameMode.panicking [{ v := .iface 78 (.agg #[.int .i64 (p : Nat), .int .i64 (k : Nat)]), recovered := true }] ∧
      (((((w.alloc o).setCell ⟨a, 0, none⟩ (.slice none 0 0)).setCell ⟨a + 1, 0, none⟩ (.int .i64 (p : Nat))).setCell ⟨a + 2, 0, none⟩ (.int .i64 (k : Nat))).drew).cell? ⟨a, 0, none⟩ = some (.slice none 0 0) ∧
      (((((w.alloc o).setCell ⟨a, 0, none⟩ (.slice none 0 0)).setCell ⟨a + 1, 0, none⟩ (.int .i64 (p : Nat))).setCell ⟨a + 2, 0, none⟩ (.int .i64 (k : Nat))).drew).cell? ⟨a + 1, 0, none⟩ = some (.int .i64 (p : Nat)) ∧
      (((((w.alloc o).setCell ⟨a, 0, none⟩ (.slice none 0 0)).setCell ⟨a + 1, 0, none⟩ (.int .i64 (p : Nat))).setCell ⟨a + 2, 0, none⟩ (.int .i64 (k : Nat))).drew).cell? ⟨a + 2, 0, none⟩ = some (.int .i64 (k : Nat)) ∧
      Below a w ((((w.alloc o).setCell ⟨a, 0, none⟩ (.slice none 0 0)).setCell ⟨a + 1, 0, none⟩ (.int .i64 (p : Nat))).setCell ⟨a + 2, 0, none⟩ (.int .i64 (k : Nat))).drew := by
  have n01 : (⟨a, 0, none⟩ : Addr) ≠ ⟨a + 1, 0, none⟩ := by intro e; cases e
  have n02 : (⟨a, 0, none⟩ : Addr) ≠ ⟨a + 2, 0, none⟩ := by intro e; injection e; omega
  have n12 : (⟨a + 1, 0, none⟩ : Addr) ≠ ⟨a + 2, 0, none⟩ := by intro e; injection e; omega
  have hx0 := x0 o
  have hx1 := x1 o
  have hx2 := x2 o
  refine ⟨rfl, rfl, ?_, ?_, ?_, ((((Below.refl a w).alloc (by omega) o).setCell (p := ⟨a, 0, none⟩) (Nat.le_refl _) _).setCell (p := ⟨a + 1, 0, none⟩) (Nat.le_succ _) _).setCell (p := ⟨a + 2, 0, none⟩) (by show a ≤ a + 2; omega) _ |>.drew⟩
  · show World.cell? (World.setCell _ _ _) _ = _
    rw [World.cell?_setCell_other _ _ _ _ n02.symm, World.cell?_setCell_other _ _ _ _ n01.symm, World.cell?_setCell_same _ _ _ hx0]
  · show World.cell? (World.setCell _ _ _) _ = _
    rw [World.cell?_setCell_other _ _ _ _ n12.symm, World.cell?_setCell_same _ _ _ ((World.cell?_setCell_other _ _ _ _ n01).trans hx1)]
  · show World.cell? (World.setCell _ _ _) _ = _
    rw [World.cell?_setCell_same _ _ _ ((World.cell?_setCell_other _ _ _ _ n12).trans ((World.cell?_setCell_other _ _ _ _ n02).trans hx2))]

set_option maxHeartbeats 1000000 in
theorem catch_wrong (a : Nat) (w : World) (p k : Nat) (h0 : w.cell? ⟨a, 0, none⟩ = some (.slice none 0 0)) (h1 : w.cell? ⟨a + 1, 0, none⟩ = some (.int .i64 0)) (h2 : w.cell? ⟨a + 2, 0, none⟩ = some (.int .i64 0))
    (f0 : w.frozen? ⟨a, 0, none⟩ = false) (f1 : w.frozen? ⟨a + 1, 0, none⟩ = false) (f2 : w.frozen? ⟨a + 2, 0, none⟩ = false) (hl : a + 2 < w.heap.size) :
    CallsD Tryz.prog 45 #[.pointer (some ⟨a, 0, none⟩), .pointer (some ⟨a + 1, 0, none⟩), .pointer (some ⟨a + 2, 0, none⟩)] (.panicking [{ v := .iface 78 (.agg #[.int .i64 (p : Nat), .int .i64 (k : Nat)]), recovered := false }]) w fun e u' w' =>
      e = .returned (.tuple #[]) ∧ u' = .panicking [{ v := .iface 78 (.agg #[.int .i64 (p : Nat), .int .i64 (k : Nat)]), recovered := true }] ∧
        w'.cell? ⟨a, 0, none⟩ = some (.slice none 0 0) ∧ w'.cell? ⟨a + 1, 0, none⟩ = some (.int .i64 (p : Nat)) ∧ w'.cell? ⟨a + 2, 0, none⟩ = some (.int .i64 (k : Nat)) ∧ Below a w w' := by
  refine callsD_of_wpS Tryz.func45 rfl fun c₀ cs hu => ?_
  apply wpS_seq
  apply wpS_region
  simp [wpOpsS, go_sem, recoverD, hu, Tryz.ntmps45, Exit.thenS]
  refine wpS_rest (u' := .panicking [{ v := .iface 78 (.agg #[.int .i64 (p : Nat), .int .i64 (k : Nat)]), recovered := true }]) (by cases c₀; simp_all) ?_
  clear hu
  rw [show (#[.pointer (some ⟨a, 0, none⟩), .pointer (some ⟨a + 1, 0, none⟩), .pointer (some ⟨a + 2, 0, none⟩)] ++ (Array.replicate 13 undef).setIfInBounds 3 (.iface 78 (.agg #[.int .i64 (p : Nat), .int .i64 (k : Nat)])) : Array Value) = #[.pointer (some ⟨a, 0, none⟩), .pointer (some ⟨a + 1, 0, none⟩), .pointer (some ⟨a + 2, 0, none⟩), undef, undef, undef, .iface 78 (.agg #[.int .i64 (p : Nat), .int .i64 (k : Nat)]), undef, undef, undef, undef, undef, undef, undef, undef, undef] from rfl]
  have x0 : ∀ o, (w.alloc o).cell? ⟨a, 0, none⟩ = some (.slice none 0 0) := fun o => (World.cell?_of_block (Lib.alloc_old w o a (by omega))).trans h0
  have x1 : ∀ o, (w.alloc o).cell? ⟨a + 1, 0, none⟩ = some (.int .i64 0) := fun o => (World.cell?_of_block (Lib.alloc_old w o (a + 1) (by omega))).trans h1
  have x2 : ∀ o, (w.alloc o).cell? ⟨a + 2, 0, none⟩ = some (.int .i64 0) := fun o => (World.cell?_of_block (Lib.alloc_old w o (a + 2) (by omega))).trans h2
  have y0 : ∀ o, (w.alloc o).frozen? ⟨a, 0, none⟩ = false := fun o => (World.frozen?_of_block (Lib.alloc_old w o a (by omega))).trans f0
  have y1 : ∀ o, (w.alloc o).frozen? ⟨a + 1, 0, none⟩ = false := fun o => (World.frozen?_of_block (Lib.alloc_old w o (a + 1) (by omega))).trans f1
  have y2 : ∀ o, (w.alloc o).frozen? ⟨a + 2, 0, none⟩ = false := fun o => (World.frozen?_of_block (Lib.alloc_old w o (a + 2) (by omega))).trans f2
  have z0 : ¬ a = w.heap.size := by omega
  have z1 : ¬ a + 1 = w.heap.size := by omega
  have z2 : ¬ a + 2 = w.heap.size := by omega
  have hta : ∀ w, (Instr.typeAssert (.iface 78 (.agg #[.int .i64 (p : Nat), .int .i64 (k : Nat)])) 20 78 true).run Tryz.prog w = .ok (.tuple #[.agg #[.int .i64 (p : Nat), .int .i64 (k : Nat)], .bool true]) w := fun _ => by kernel_rfl
  go_wp2
  go_region
  all_goals
    go_wp2
    go_end0
    exact ⟨rfl, (catch_post w a p k x0 x1 x2 hl).2.2⟩
end Go.Proofs.YtcdmmcogegnieaaGreatDoor.lx
end
section
/- lex's scan, Tokens: a text as tokens, or its place and error. -/
namespace Go.Proofs.YtcdmmcogegnieaaGreatDoor.lx
open Go.RowKit

/-- what Tokens hands back, as three values -/
def Gives (w w' : World) (v : Value) (p k : Nat) : Out → Prop
  | .ok ts => Tk w.heap.size w' v ts ∧ p = 0 ∧ k = 0
  | .bad q j => v = .slice none 0 0 ∧ p = q ∧ k = j
/-- the answer o, in memory of its own -/
def ToksP (o : Out) (w : World) (e : Ending) (w' : World) : Prop :=
  ∃ v p k, e = .returned (.tuple #[v, .int .i64 (p : Nat), .int .i64 (k : Nat)]) ∧ Gives w w' v p k o ∧ Below w.heap.size w w'

/-- what scan makes ahead of its work -/
structure Scan0 (a b d c : Nat) (s : ByteArray) (w W : World) : Prop where
  ha : a = w.heap.size
  hb : b = a + 1
  hd : d = a + 2
  hc : c = a + 3
  below : Below a w W
  size : W.heap.size = a + 4
  blk0 : W.heap[a]? = some (.cells #[.slice none 0 0] 47 (0, 0))
  blk1 : W.heap[b]? = some (.cells #[.int .i64 0] 3 (0, 0))
  blk2 : W.heap[d]? = some (.cells #[.int .i64 0] 28 (0, 0))
  sc : Sc c c s 0 (.slice none 0 0) [] W
theorem scan0 (s : ByteArray) (w : World) : Scan0 w.heap.size (w.heap.size + 1) (w.heap.size + 1 + 1) (w.heap.size + 1 + 1 + 1) s w
    ((((w.alloc (.cells #[.slice none 0 0] 47)).alloc (.cells #[.int .i64 0] 3)).alloc (.cells #[.int .i64 0] 28)).alloc (.cells #[.string s, .int .i64 0, .slice none 0 0] 81)) := by
  have z : ∀ (w : World) (o : Obj), (w.alloc o).heap.size = w.heap.size + 1 := fun w o => by show (w.heap.push o).size = _; simp
  have o1 : ∀ (w : World) (o : Obj) (k : Nat), k < w.heap.size → (w.alloc o).heap[k]? = w.heap[k]? := fun w o k h => Lib.alloc_old w o k h
  refine ⟨rfl, rfl, rfl, rfl, ?_, by simp only [z], ?_, ?_, ?_, ⟨Nat.le_refl _, ?_, Tk.nil _ _, by simp [Value.ownBlock]⟩⟩
  · exact ((((Below.refl _ w).alloc (Nat.le_refl _) _).alloc (by rw [z]; omega) _).alloc (by simp only [z]; omega) _).alloc (by simp only [z]; omega) _
  · rw [o1 _ _ _ (by simp only [z]; omega), o1 _ _ _ (by simp only [z]; omega), o1 _ _ _ (by simp only [z]; omega)]; exact heap_alloc_new w _
  · rw [o1 _ _ _ (by simp only [z]; omega), o1 _ _ _ (by simp only [z]; omega)]
    have := heap_alloc_new (w.alloc (.cells #[.slice none 0 0] 47)) (.cells #[.int .i64 0] 3)
    rwa [z] at this
  · rw [o1 _ _ _ (by simp only [z]; omega)]
    have := heap_alloc_new ((w.alloc (.cells #[.slice none 0 0] 47)).alloc (.cells #[.int .i64 0] 3)) (.cells #[.int .i64 0] 28)
    rwa [z, z] at this
  · have := heap_alloc_new (((w.alloc (.cells #[.slice none 0 0] 47)).alloc (.cells #[.int .i64 0] 3)).alloc (.cells #[.int .i64 0] 28)) (.cells #[.string s, .int .i64 0, .slice none 0 0] 81)
    rwa [z, z, z] at this
theorem catch_wrong3 {a b d c : Nat} {s : ByteArray} {w W wx : World} (h : Scan0 a b d c s w W) (hx : Below c W wx) (p k : Nat) :
    CallsD Tryz.prog 45 #[.pointer (some ⟨a, 0, none⟩), .pointer (some ⟨b, 0, none⟩), .pointer (some ⟨d, 0, none⟩)] (.panicking [{ v := .iface 78 (.agg #[.int .i64 (p : Nat), .int .i64 (k : Nat)]), recovered := false }]) wx fun e u' w' =>
      e = .returned (.tuple #[]) ∧ u' = .panicking [{ v := .iface 78 (.agg #[.int .i64 (p : Nat), .int .i64 (k : Nat)]), recovered := true }] ∧
        w'.cell? ⟨a, 0, none⟩ = some (.slice none 0 0) ∧ w'.cell? ⟨b, 0, none⟩ = some (.int .i64 (p : Nat)) ∧ w'.cell? ⟨d, 0, none⟩ = some (.int .i64 (k : Nat)) ∧ Below a wx w' := by
  obtain ⟨ha, rfl, rfl, rfl, hb, hz, b0, b1, b2, hs⟩ := h
  have hsz := hx.size
  have e0 := (hx.block a (by omega)).trans b0
  have e1 := (hx.block (a + 1) (by omega)).trans b1
  have e2 := (hx.block (a + 2) (by omega)).trans b2
  exact catch_wrong a wx p k (by rw [cell_at e0]; rfl) (by rw [cell_at e1]; rfl) (by rw [cell_at e2]; rfl) (by simp [World.frozen?, e0]) (by simp [World.frozen?, e1]) (by simp [World.frozen?, e2]) (by omega)

theorem bad_post {a b d c p k : Nat} {s : ByteArray} {w W wx w'' : World} (h : Scan0 a b d c s w W) (hx : Below c W wx) (hb : Below a wx w'') {o : Out} (ho : o = .bad p k) :
    ToksP o w (.returned (.tuple #[.slice none 0 0, .int .i64 (p : Nat), .int .i64 (k : Nat)])) w'' := by
  subst ho
  refine ⟨_, p, k, rfl, ⟨rfl, rfl, rfl⟩, ?_⟩
  have e := h.ha
  rw [← e]
  exact (h.below.trans (hx.mono (by have := h.hc; omega))).trans hb

theorem ok_facts {a b d c : Nat} {s : ByteArray} {w W wx : World} (h : Scan0 a b d c s w W) (hx : Below c W wx) :
    wx.cell? ⟨a, 0, none⟩ = some (.slice none 0 0) ∧ wx.cell? ⟨b, 0, none⟩ = some (.int .i64 0) ∧ wx.cell? ⟨d, 0, none⟩ = some (.int .i64 0) ∧
      wx.frozen? ⟨a, 0, none⟩ = false ∧ wx.frozen? ⟨b, 0, none⟩ = false ∧ wx.frozen? ⟨d, 0, none⟩ = false ∧ ¬ a = b ∧ ¬ a = d ∧ ¬ b = d := by
  obtain ⟨ha, rfl, rfl, rfl, hb, hz, b0, b1, b2, hs⟩ := h
  have e0 := (hx.block a (by omega)).trans b0
  have e1 := (hx.block (a + 1) (by omega)).trans b1
  have e2 := (hx.block (a + 2) (by omega)).trans b2
  exact ⟨by rw [cell_at e0]; rfl, by rw [cell_at e1]; rfl, by rw [cell_at e2]; rfl, by simp [World.frozen?, e0], by simp [World.frozen?, e1], by simp [World.frozen?, e2], by omega, by omega, by omega⟩
theorem ok_post {a b d c : Nat} {s : ByteArray} {w W wr : World} (h : Scan0 a b d c s w W) (hx : Below c W wr) {v : Value} {ts : List Tok} (hr : Tk c wr v ts) {o : Out} (ho : o = .ok ts) :
    ToksP o w (.returned (.tuple #[v, .int .i64 0, .int .i64 0])) (((wr.setCell ⟨a, 0, none⟩ v).setCell ⟨b, 0, none⟩ (.int .i64 0)).setCell ⟨d, 0, none⟩ (.int .i64 0)) := by
  subst ho
  have hne : ∀ k, k < c → v.ownBlock ≠ some k := fun k hk e => by have := ((World.ownsRow.lt hr) k e).1; omega
  obtain ⟨ha, rfl, rfl, rfl, hb, hz, b0, b1, b2, hs⟩ := h
  refine ⟨v, 0, 0, rfl, ⟨?_, rfl, rfl⟩, ?_⟩
  · rw [← ha]
    exact ((((hr.kp ((Kp.refl a _).set 0 _) (hne a (by omega))).kp ((Kp.refl (a + 1) _).set 0 _) (hne _ (by omega))).kp ((Kp.refl (a + 2) _).set 0 _) (hne _ (by omega)))).mono (by omega)
  · rw [← ha]
    exact (((hb.trans (hx.mono (by omega))).setCell (p := ⟨a, 0, none⟩) (Nat.le_refl _) _).setCell (p := ⟨a + 1, 0, none⟩) (Nat.le_succ _) _).setCell (p := ⟨a + 2, 0, none⟩) (by show a ≤ a + 2; omega) _

set_option maxRecDepth 100000 in
set_option maxHeartbeats 4000000 in
theorem scan_c (s : ByteArray) (w : World) (hg : GM w) (hs : s.size ≤ 4096) :
    Calls Tryz.prog 36 #[.string s] w (ToksP (toks s.data.toList) w) := by
  have hmf : ∀ (fn : Fn) (first cap : Array Value) (w : World), (Instr.makeFunc fn first cap).run Tryz.prog w = .ok (.func fn first cap) w := fun _ _ _ _ => rfl
  have H0 := Lib.hid (scan0 s w)
  have hp := Lib.hid (heap_pos hg)
  have Hg := Lib.hid hg
  clear hg
  go_enter_defers Tryz.func36, Tryz.ntmps36
  go_wp2_with fail
  generalize World.alloc (World.alloc (World.alloc (World.alloc w _) _) _) _ = W at *
  generalize hc : w.heap.size + 1 + 1 + 1 = c at *
  generalize hd : w.heap.size + 1 + 1 = d at *
  generalize hb : w.heap.size + 1 = b at *
  generalize ha : w.heap.size = a at *
  clear hb hc hd ha
  have hc0 : 2 < c := by have := H0.out.hc; omega
  refine (skip_c H0.out.sc (Hg.out.below H0.out.below (by have := H0.out.ha; have := hp.out; omega)) hc0 (Nat.zero_le _) hs).mono ?_
  rintro e w1 ⟨hk1, ⟨m, rfl, hS, hnm, hm, hst, hsame⟩ | ⟨p, k, rfl, hbad⟩⟩
  · have HS := Lib.hid hS
    have HB := Lib.hid (hk1.below (Below.refl c W) (Nat.le_refl _) (by have := H0.out.hc; have := H0.out.size; omega))
    have Hst := Lib.hid hst
    have Hsm := Lib.hid (show toks s.data.toList = ans 1000 (s.data.toList.drop m) [] m .btw from hsame 1000 [])
    clear hk1 hS hst hsame hnm
    go_wp2
    go_loopg [] (s.size - m) (fun k wr => ∃ (n : Nat) (v : Value) (ts : List Tok), k = s.size - n ∧ n ≤ s.size ∧ ts.length ≤ 1000 ∧ Hid (Stop s n) ∧ Hid (toks s.data.toList = ans 1000 (s.data.toList.drop n) ts n .btw) ∧ Hid (Sc c c s n v ts wr) ∧ Hid (Below c W wr))
    case atStart => exact ⟨m, _, _, rfl, hm, by simp, Hst, Hsm, HS, HB⟩
    case round =>
      clear HS HB Hst Hsm hm
      obtain ⟨n, v, ts, hgk, hn, hts, Hst, Hsm, HS, HB⟩ := hrel
      have c1 := HS.out.c1
      have c2 := HS.out.c2
      by_cases hlt : n < s.size
      · have hlt2 : (n : Int) < s.size := by omega
        go_wp2_with fail
        refine (next_c HS.out (by have := HS.out.lt; omega) hlt hs Hst.out hts).mono ?_
        rintro e w2 ⟨hb2, ⟨n2, v2, ts2, rfl, hS2, hn2, hns2, hts2, hans⟩ | ⟨p, k, rfl, hbad⟩⟩
        · have HB2 := Lib.hid (HB.out.trans hb2)
          have HS2 := Lib.hid hS2
          have Hsm2 := Lib.hid (Hsm.out.trans hans)
          clear hb2 hS2 hans c1 c2
          go_wp2_with fail
          refine (skip_c HS2.out ((Hg.out.below H0.out.below (by have := H0.out.ha; have := hp.out; omega)).below HB2.out hc0) hc0 hns2 hs).mono ?_
          rintro e w3 ⟨hk3, ⟨n3, rfl, hS3, hn3, hns3, hst3, hsame3⟩ | ⟨p, k, rfl, hbad⟩⟩
          · have HS3 := Lib.hid hS3
            have HB3 := Lib.hid (hk3.below HB2.out (Nat.le_refl _) (by have := HS2.out.lt; omega))
            have Hst3 := Lib.hid hst3
            have Hsm3 := Lib.hid (Hsm2.out.trans (hsame3 1000 ts2))
            clear hk3 hS3 hst3 hsame3
            go_wp2
            go_roundg (s.size - n3)
            case measure => omega
            case rel => exact ⟨n3, v2, ts2, rfl, hns3, hts2, Hst3, Hsm3, HS3, HB3⟩
          · have HB3 := Lib.hid (hk3.below HB2.out (Nat.le_refl _) (by have := HS2.out.lt; omega))
            have Hbd := Lib.hid (Hsm2.out.trans (hbad 1000 ts2))
            clear hk3 hbad
            unfold Wrong
            go_wp2
            refine leaves_cons (f := 45) (args := #[.pointer (some ⟨a, 0, none⟩), .pointer (some ⟨b, 0, none⟩), .pointer (some ⟨d, 0, none⟩)]) (by simp) (by simp [go_sem]) ?_
            refine (catch_wrong3 H0.out (HB3.out) p k).mono ?_
            rintro e u' w'' ⟨rfl, rfl, g0, g1, g2, gb⟩
            simp [Leaves, settle, results, Tryz.results36, go_sem, g0, g1, g2]
            exact bad_post H0.out (HB3.out) gb (Hbd.out)
        · have HB2 := Lib.hid (HB.out.trans hb2)
          have Hbd := Lib.hid (Hsm.out.trans hbad)
          clear hb2 hbad
          unfold Wrong
          go_wp2
          refine leaves_cons (f := 45) (args := #[.pointer (some ⟨a, 0, none⟩), .pointer (some ⟨b, 0, none⟩), .pointer (some ⟨d, 0, none⟩)]) (by simp) (by simp [go_sem]) ?_
          refine (catch_wrong3 H0.out (HB2.out) p k).mono ?_
          rintro e u' w'' ⟨rfl, rfl, g0, g1, g2, gb⟩
          simp [Leaves, settle, results, Tryz.results36, go_sem, g0, g1, g2]
          exact bad_post H0.out (HB2.out) gb (Hbd.out)
      · have hlt2 : ¬ ((n : Int) < s.size) := by omega
        obtain ⟨av, cv, rfl⟩ := HS.out.row.shape
        obtain ⟨x0, x1, x2, y0, y1, y2, z0, z1, z2⟩ := ok_facts H0.out HB.out
        have Hok := Lib.hid (show toks s.data.toList = .ok ts by rw [Hsm.out, drop_end (k := n) (by omega)]; rfl)
        go_wp2
        refine leaves_cons (f := 45) (args := #[.pointer (some ⟨a, 0, none⟩), .pointer (some ⟨b, 0, none⟩), .pointer (some ⟨d, 0, none⟩)]) (by simp) (by simp [go_sem]) ?_
        refine (catch_idle _ _ _ _).mono ?_
        rintro e u' w'' ⟨rfl, rfl, rfl⟩
        simp [Leaves, settle, results, Tryz.results36, go_sem, x0, x1, x2]
        exact ok_post H0.out HB.out HS.out.row Hok.out
  · have HB := Lib.hid (hk1.below (Below.refl c W) (Nat.le_refl _) (by have := H0.out.hc; have := H0.out.size; omega))
    have Hbd := Lib.hid (show toks s.data.toList = .bad p k from hbad 1000 [])
    clear hk1 hbad
    unfold Wrong
    go_wp2
    refine leaves_cons (f := 45) (args := #[.pointer (some ⟨a, 0, none⟩), .pointer (some ⟨b, 0, none⟩), .pointer (some ⟨d, 0, none⟩)]) (by simp) (by simp [go_sem]) ?_
    refine (catch_wrong3 H0.out (HB.out) p k).mono ?_
    rintro e u' w'' ⟨rfl, rfl, g0, g1, g2, gb⟩
    simp [Leaves, settle, results, Tryz.results36, go_sem, g0, g1, g2]
    exact bad_post H0.out (HB.out) gb (Hbd.out)

/-- the document's answer -/
def toksD (l : List UInt8) : Out := if l.length > 4096 then .bad 0 33 else toks l
/-- lex's Tokens -/
theorem tokens_c (s : ByteArray) (w : World) (hg : GM w) (hz : s.size ≤ 9223372036854775807) :
    Calls Tryz.prog 21 #[.string s] w (ToksP (toksD s.data.toList) w) := by
  have hl : s.data.toList.length = s.size := by simp
  unfold toksD
  rw [hl]
  by_cases hs : s.size > 4096
  · rw [if_pos hs]
    clear hg hl
    go_enter Tryz.func21, Tryz.ntmps21
    go_wp2
    go_ret3
    exact ⟨_, 0, 33, rfl, ⟨rfl, rfl, rfl⟩, Below.refl _ _⟩
  · rw [if_neg hs]
    have k := scan_c s w hg (by omega)
    clear hg hl
    go_enter Tryz.func21, Tryz.ntmps21
    go_wp2_with fail
    refine k.mono ?_
    rintro e w1 ⟨v, p, q, rfl, hG, hB⟩
    have HG := Lib.hid hG
    have HB := Lib.hid hB
    clear hG hB k
    go_wp2
    go_ret3
    exact ⟨v, p, q, rfl, HG.out, HB.out⟩
end Go.Proofs.YtcdmmcogegnieaaGreatDoor.lx
end
