/- lex's scan, Tokens: a text as tokens, or its place and error. -/
import Derived.Test.YtdcggedggngpoaaCatch
namespace Go.Proofs.Ytdcggedggngpoaa.lx
open Go.RowKit

/-- what Tokens hands back, as three values -/
def Gives (w w' : World) (v : Value) (p k : Nat) : Out → Prop
  | .ok ts => Tk w.heap.size w' v ts ∧ p = 0 ∧ k = 0
  | .bad q j => v = .slice none 0 0 ∧ p = q ∧ k = j
/-- the answer o, in memory of its own -/
def ToksP (o : Out) (w : World) (e : Ending) (w' : World) : Prop :=
  ∃ v p k, e = .returned (.tuple #[v, .int .i64 (p : Nat), .int .i64 (k : Nat)]) ∧ Gives w w' v p k o ∧ Below w.heap.size w w'

/-- what scan makes ahead of its work -/
structure Scan0 (a b d c : Nat) (s : ByteArray) (w W : World) : Prop where
  ha : a = w.heap.size
  hb : b = a + 1
  hd : d = a + 2
  hc : c = a + 3
  below : Below a w W
  size : W.heap.size = a + 4
  blk0 : W.heap[a]? = some (.cells #[.slice none 0 0] 23 (0, 0))
  blk1 : W.heap[b]? = some (.cells #[.int .i64 0] 3 (0, 0))
  blk2 : W.heap[d]? = some (.cells #[.int .i64 0] 24 (0, 0))
  sc : Sc c c s 0 (.slice none 0 0) [] W
theorem scan0 (s : ByteArray) (w : World) : Scan0 w.heap.size (w.heap.size + 1) (w.heap.size + 1 + 1) (w.heap.size + 1 + 1 + 1) s w
    ((((w.alloc (.cells #[.slice none 0 0] 23)).alloc (.cells #[.int .i64 0] 3)).alloc (.cells #[.int .i64 0] 24)).alloc (.cells #[.string s, .int .i64 0, .slice none 0 0] 46)) := by
  have z : ∀ (w : World) (o : Obj), (w.alloc o).heap.size = w.heap.size + 1 := fun w o => by show (w.heap.push o).size = _; simp
  have o1 : ∀ (w : World) (o : Obj) (k : Nat), k < w.heap.size → (w.alloc o).heap[k]? = w.heap[k]? := fun w o k h => Lib.alloc_old w o k h
  refine ⟨rfl, rfl, rfl, rfl, ?_, by simp only [z], ?_, ?_, ?_, ⟨Nat.le_refl _, ?_, Tk.nil _ _, by simp [Value.ownBlock]⟩⟩
  · exact ((((Below.refl _ w).alloc (Nat.le_refl _) _).alloc (by rw [z]; omega) _).alloc (by simp only [z]; omega) _).alloc (by simp only [z]; omega) _
  · rw [o1 _ _ _ (by simp only [z]; omega), o1 _ _ _ (by simp only [z]; omega), o1 _ _ _ (by simp only [z]; omega)]; exact heap_alloc_new w _
  · rw [o1 _ _ _ (by simp only [z]; omega), o1 _ _ _ (by simp only [z]; omega)]
    have := heap_alloc_new (w.alloc (.cells #[.slice none 0 0] 23)) (.cells #[.int .i64 0] 3)
    rwa [z] at this
  · rw [o1 _ _ _ (by simp only [z]; omega)]
    have := heap_alloc_new ((w.alloc (.cells #[.slice none 0 0] 23)).alloc (.cells #[.int .i64 0] 3)) (.cells #[.int .i64 0] 24)
    rwa [z, z] at this
  · have := heap_alloc_new (((w.alloc (.cells #[.slice none 0 0] 23)).alloc (.cells #[.int .i64 0] 3)).alloc (.cells #[.int .i64 0] 24)) (.cells #[.string s, .int .i64 0, .slice none 0 0] 46)
    rwa [z, z, z] at this
theorem catch_wrong3 {a b d c : Nat} {s : ByteArray} {w W wx : World} (h : Scan0 a b d c s w W) (hx : Below c W wx) (p k : Nat) :
    CallsD Try.prog 25 #[.pointer (some ⟨a, 0, none⟩), .pointer (some ⟨b, 0, none⟩), .pointer (some ⟨d, 0, none⟩)] (.panicking [{ v := .iface 43 (.agg #[.int .i64 (p : Nat), .int .i64 (k : Nat)]), recovered := false }]) wx fun e u' w' =>
      e = .returned (.tuple #[]) ∧ u' = .panicking [{ v := .iface 43 (.agg #[.int .i64 (p : Nat), .int .i64 (k : Nat)]), recovered := true }] ∧
        w'.cell? ⟨a, 0, none⟩ = some (.slice none 0 0) ∧ w'.cell? ⟨b, 0, none⟩ = some (.int .i64 (p : Nat)) ∧ w'.cell? ⟨d, 0, none⟩ = some (.int .i64 (k : Nat)) ∧ Below a wx w' := by
  obtain ⟨ha, rfl, rfl, rfl, hb, hz, b0, b1, b2, hs⟩ := h
  have hsz := hx.size
  have e0 := (hx.block a (by omega)).trans b0
  have e1 := (hx.block (a + 1) (by omega)).trans b1
  have e2 := (hx.block (a + 2) (by omega)).trans b2
  exact catch_wrong a wx p k (by rw [cell_at e0]; rfl) (by rw [cell_at e1]; rfl) (by rw [cell_at e2]; rfl) (by simp [World.frozen?, e0]) (by simp [World.frozen?, e1]) (by simp [World.frozen?, e2]) (by omega)

theorem bad_post {a b d c p k : Nat} {s : ByteArray} {w W wx w'' : World} (h : Scan0 a b d c s w W) (hx : Below c W wx) (hb : Below a wx w'') {o : Out} (ho : o = .bad p k) :
    ToksP o w (.returned (.tuple #[.slice none 0 0, .int .i64 (p : Nat), .int .i64 (k : Nat)])) w'' := by
  subst ho
  refine ⟨_, p, k, rfl, ⟨rfl, rfl, rfl⟩, ?_⟩
  have e := h.ha
  rw [← e]
  exact (h.below.trans (hx.mono (by have := h.hc; omega))).trans hb

theorem ok_facts {a b d c : Nat} {s : ByteArray} {w W wx : World} (h : Scan0 a b d c s w W) (hx : Below c W wx) :
    wx.cell? ⟨a, 0, none⟩ = some (.slice none 0 0) ∧ wx.cell? ⟨b, 0, none⟩ = some (.int .i64 0) ∧ wx.cell? ⟨d, 0, none⟩ = some (.int .i64 0) ∧
      wx.frozen? ⟨a, 0, none⟩ = false ∧ wx.frozen? ⟨b, 0, none⟩ = false ∧ wx.frozen? ⟨d, 0, none⟩ = false ∧ ¬ a = b ∧ ¬ a = d ∧ ¬ b = d := by
  obtain ⟨ha, rfl, rfl, rfl, hb, hz, b0, b1, b2, hs⟩ := h
  have e0 := (hx.block a (by omega)).trans b0
  have e1 := (hx.block (a + 1) (by omega)).trans b1
  have e2 := (hx.block (a + 2) (by omega)).trans b2
  exact ⟨by rw [cell_at e0]; rfl, by rw [cell_at e1]; rfl, by rw [cell_at e2]; rfl, by simp [World.frozen?, e0], by simp [World.frozen?, e1], by simp [World.frozen?, e2], by omega, by omega, by omega⟩
theorem ok_post {a b d c : Nat} {s : ByteArray} {w W wr : World} (h : Scan0 a b d c s w W) (hx : Below c W wr) {v : Value} {ts : List Tok} (hr : Tk c wr v ts) {o : Out} (ho : o = .ok ts) :
    ToksP o w (.returned (.tuple #[v, .int .i64 0, .int .i64 0])) (((wr.setCell ⟨a, 0, none⟩ v).setCell ⟨b, 0, none⟩ (.int .i64 0)).setCell ⟨d, 0, none⟩ (.int .i64 0)) := by
  subst ho
  have hne : ∀ k, k < c → v.ownBlock ≠ some k := fun k hk e => by have := ((World.ownsRow.lt hr) k e).1; omega
  obtain ⟨ha, rfl, rfl, rfl, hb, hz, b0, b1, b2, hs⟩ := h
  refine ⟨v, 0, 0, rfl, ⟨?_, rfl, rfl⟩, ?_⟩
  · rw [← ha]
    exact ((((hr.kp ((Kp.refl a _).set 0 _) (hne a (by omega))).kp ((Kp.refl (a + 1) _).set 0 _) (hne _ (by omega))).kp ((Kp.refl (a + 2) _).set 0 _) (hne _ (by omega)))).mono (by omega)
  · rw [← ha]
    exact (((hb.trans (hx.mono (by omega))).setCell (p := ⟨a, 0, none⟩) (Nat.le_refl _) _).setCell (p := ⟨a + 1, 0, none⟩) (Nat.le_succ _) _).setCell (p := ⟨a + 2, 0, none⟩) (by show a ≤ a + 2; omega) _

set_option maxRecDepth 100000 in
set_option maxHeartbeats 4000000 in
theorem scan_c (s : ByteArray) (w : World) (hg : GM w) (hs : s.size ≤ 4096) :
    Calls Try.prog 13 #[.string s] w (ToksP (toks s.data.toList) w) := by
  have hmf : ∀ (fn : Fn) (first cap : Array Value) (w : World), (Instr.makeFunc fn first cap).run Try.prog w = .ok (.func fn first cap) w := fun _ _ _ _ => rfl
  have H0 := Lib.hid (scan0 s w)
  have hp := Lib.hid (heap_pos hg)
  have Hg := Lib.hid hg
  clear hg
  go_enter_defers Try.func13, Try.ntmps13
  go_wp2_with fail
  generalize World.alloc (World.alloc (World.alloc (World.alloc w _) _) _) _ = W at *
  generalize hc : w.heap.size + 1 + 1 + 1 = c at *
  generalize hd : w.heap.size + 1 + 1 = d at *
  generalize hb : w.heap.size + 1 = b at *
  generalize ha : w.heap.size = a at *
  clear hb hc hd ha
  have hc0 : 0 < c := by have := H0.out.hc; omega
  refine (skip_c H0.out.sc (Hg.out.below H0.out.below (by have := H0.out.ha; have := hp.out; omega)) hc0 (Nat.zero_le _) hs).mono ?_
  rintro e w1 ⟨hk1, ⟨m, rfl, hS, hnm, hm, hst, hsame⟩ | ⟨p, k, rfl, hbad⟩⟩
  · have HS := Lib.hid hS
    have HB := Lib.hid (hk1.below (Below.refl c W) (Nat.le_refl _) (by have := H0.out.hc; have := H0.out.size; omega))
    have Hst := Lib.hid hst
    have Hsm := Lib.hid (show toks s.data.toList = ans 1000 (s.data.toList.drop m) [] m .btw from hsame 1000 [])
    clear hk1 hS hst hsame hnm
    go_wp2
    go_loopg [] (s.size - m) (fun k wr => ∃ (n : Nat) (v : Value) (ts : List Tok), k = s.size - n ∧ n ≤ s.size ∧ ts.length ≤ 1000 ∧ Hid (Stop s n) ∧ Hid (toks s.data.toList = ans 1000 (s.data.toList.drop n) ts n .btw) ∧ Hid (Sc c c s n v ts wr) ∧ Hid (Below c W wr))
    case atStart => exact ⟨m, _, _, rfl, hm, by simp, Hst, Hsm, HS, HB⟩
    case round =>
      clear HS HB Hst Hsm hm
      obtain ⟨n, v, ts, hgk, hn, hts, Hst, Hsm, HS, HB⟩ := hrel
      have c1 := HS.out.c1
      have c2 := HS.out.c2
      by_cases hlt : n < s.size
      · have hlt2 : (n : Int) < s.size := by omega
        go_wp2_with fail
        refine (next_c HS.out (by have := HS.out.lt; omega) hlt hs Hst.out hts).mono ?_
        rintro e w2 ⟨hb2, ⟨n2, v2, ts2, rfl, hS2, hn2, hns2, hts2, hans⟩ | ⟨p, k, rfl, hbad⟩⟩
        · have HB2 := Lib.hid (HB.out.trans hb2)
          have HS2 := Lib.hid hS2
          have Hsm2 := Lib.hid (Hsm.out.trans hans)
          clear hb2 hS2 hans c1 c2
          go_wp2_with fail
          refine (skip_c HS2.out ((Hg.out.below H0.out.below (by have := H0.out.ha; have := hp.out; omega)).below HB2.out hc0) hc0 hns2 hs).mono ?_
          rintro e w3 ⟨hk3, ⟨n3, rfl, hS3, hn3, hns3, hst3, hsame3⟩ | ⟨p, k, rfl, hbad⟩⟩
          · have HS3 := Lib.hid hS3
            have HB3 := Lib.hid (hk3.below HB2.out (Nat.le_refl _) (by have := HS2.out.lt; omega))
            have Hst3 := Lib.hid hst3
            have Hsm3 := Lib.hid (Hsm2.out.trans (hsame3 1000 ts2))
            clear hk3 hS3 hst3 hsame3
            go_wp2
            go_roundg (s.size - n3)
            case measure => omega
            case rel => exact ⟨n3, v2, ts2, rfl, hns3, hts2, Hst3, Hsm3, HS3, HB3⟩
          · have HB3 := Lib.hid (hk3.below HB2.out (Nat.le_refl _) (by have := HS2.out.lt; omega))
            have Hbd := Lib.hid (Hsm2.out.trans (hbad 1000 ts2))
            clear hk3 hbad
            unfold Wrong
            go_wp2
            refine leaves_cons (f := 25) (args := #[.pointer (some ⟨a, 0, none⟩), .pointer (some ⟨b, 0, none⟩), .pointer (some ⟨d, 0, none⟩)]) (by simp) (by simp [go_sem]) ?_
            refine (catch_wrong3 H0.out (HB3.out) p k).mono ?_
            rintro e u' w'' ⟨rfl, rfl, g0, g1, g2, gb⟩
            simp [Leaves, settle, results, Try.results13, go_sem, g0, g1, g2]
            exact bad_post H0.out (HB3.out) gb (Hbd.out)
        · have HB2 := Lib.hid (HB.out.trans hb2)
          have Hbd := Lib.hid (Hsm.out.trans hbad)
          clear hb2 hbad
          unfold Wrong
          go_wp2
          refine leaves_cons (f := 25) (args := #[.pointer (some ⟨a, 0, none⟩), .pointer (some ⟨b, 0, none⟩), .pointer (some ⟨d, 0, none⟩)]) (by simp) (by simp [go_sem]) ?_
          refine (catch_wrong3 H0.out (HB2.out) p k).mono ?_
          rintro e u' w'' ⟨rfl, rfl, g0, g1, g2, gb⟩
          simp [Leaves, settle, results, Try.results13, go_sem, g0, g1, g2]
          exact bad_post H0.out (HB2.out) gb (Hbd.out)
      · have hlt2 : ¬ ((n : Int) < s.size) := by omega
        obtain ⟨av, cv, rfl⟩ := HS.out.row.shape
        obtain ⟨x0, x1, x2, y0, y1, y2, z0, z1, z2⟩ := ok_facts H0.out HB.out
        have Hok := Lib.hid (show toks s.data.toList = .ok ts by rw [Hsm.out, drop_end (k := n) (by omega)]; rfl)
        go_wp2
        refine leaves_cons (f := 25) (args := #[.pointer (some ⟨a, 0, none⟩), .pointer (some ⟨b, 0, none⟩), .pointer (some ⟨d, 0, none⟩)]) (by simp) (by simp [go_sem]) ?_
        refine (catch_idle _ _ _ _).mono ?_
        rintro e u' w'' ⟨rfl, rfl, rfl⟩
        simp [Leaves, settle, results, Try.results13, go_sem, x0, x1, x2]
        exact ok_post H0.out HB.out HS.out.row Hok.out
  · have HB := Lib.hid (hk1.below (Below.refl c W) (Nat.le_refl _) (by have := H0.out.hc; have := H0.out.size; omega))
    have Hbd := Lib.hid (show toks s.data.toList = .bad p k from hbad 1000 [])
    clear hk1 hbad
    unfold Wrong
    go_wp2
    refine leaves_cons (f := 25) (args := #[.pointer (some ⟨a, 0, none⟩), .pointer (some ⟨b, 0, none⟩), .pointer (some ⟨d, 0, none⟩)]) (by simp) (by simp [go_sem]) ?_
    refine (catch_wrong3 H0.out (HB.out) p k).mono ?_
    rintro e u' w'' ⟨rfl, rfl, g0, g1, g2, gb⟩
    simp [Leaves, settle, results, Try.results13, go_sem, g0, g1, g2]
    exact bad_post H0.out (HB.out) gb (Hbd.out)

/-- the document's answer -/
def toksD (l : List UInt8) : Out := if l.length > 4096 then .bad 0 33 else toks l
/-- lex's Tokens -/
theorem tokens_c (s : ByteArray) (w : World) (hg : GM w) (hz : s.size ≤ 9223372036854775807) :
    Calls Try.prog 8 #[.string s] w (ToksP (toksD s.data.toList) w) := by
  have hl : s.data.toList.length = s.size := by simp
  unfold toksD
  rw [hl]
  by_cases hs : s.size > 4096
  · rw [if_pos hs]
    clear hg hl
    go_enter Try.func8, Try.ntmps8
    go_wp2
    go_ret3
    exact ⟨_, 0, 33, rfl, ⟨rfl, rfl, rfl⟩, Below.refl _ _⟩
  · rw [if_neg hs]
    have k := scan_c s w hg (by omega)
    clear hg hl
    go_enter Try.func8, Try.ntmps8
    go_wp2_with fail
    refine k.mono ?_
    rintro e w1 ⟨v, p, q, rfl, hG, hB⟩
    have HG := Lib.hid hG
    have HB := Lib.hid hB
    clear hG hB k
    go_wp2
    go_ret3
    exact ⟨v, p, q, rfl, HG.out, HB.out⟩
end Go.Proofs.Ytdcggedggngpoaa.lx
