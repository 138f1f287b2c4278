/- The contracts of finite, Clean and Mean at like weights of few digits. -/
import Derived.Test.YtpkokolhmcophaaFm
import Derived.Test.YtpkokolhmcophaaFArr
import Derived.Test.YtpkokolhmcophaaWOrd
namespace Go.Proofs.Ytpkokolhmcophaa.sl
open Go.RowKit Go.Proofs.Ytpkokolhmcophaa.fl

theorem finite_c {n : Int} (hn : n.natAbs < 2 ^ 40) (w : World) :
    Calls Try.prog 27 #[.float .f64 (F n 0)] w fun e w' => e = .returned (.float .f64 (F n 0)) ∧ w = w' := by
  have k1 := isNumber_c (F n 0)
  have hnan := F_nan (e := 0) hn (by omega) (by omega)
  rw [hnan] at k1
  have he := is_eq (F n 0) 0
  rw [hnan, nan0] at he
  by_cases h : n = 0
  · subst h
    rw [F_zero] at *
    have he' : (FloatKind.f64.format.order 0 0 == some .eq) = true := by rw [he, lt_irrefl]; rfl
    clear he hnan hn
    go_enter Try.func27, Try.ntmps27
    go_wp2_with fail
    refine (k1 _).mono ?_; rintro e w' ⟨rfl, rfl⟩; go_wp2_with fail
    go_ret
    exact ⟨rfl, rfl⟩
  · have he' : (FloatKind.f64.format.order (F n 0) 0 == some .eq) = false := by
      rw [he]
      rcases lt_zero_right (e := 0) hn (by omega) (by omega) h with c | c <;> rw [c] <;> simp
    obtain ⟨o1, o2⟩ := F_below (e := 0) hn (by omega) (by omega)
    have hmin : ∀ ts t W, (Builtin.min_ ts t #[.float .f64 (F n 0), .float .f64 9218868437227405311]).run Try.prog W = .ok (.float .f64 (F n 0)) W := fun ts t W => by
      simp [Builtin.min_, Builtin.min2, fmt64, o1]
    have hmax : ∀ ts t W, (Builtin.max_ ts t #[.float .f64 18442240474082181119, .float .f64 (F n 0)]).run Try.prog W = .ok (.float .f64 (F n 0)) W := fun ts t W => by
      simp [Builtin.max_, Builtin.max2, fmt64, o2]
    clear he hnan hn o1 o2 h
    generalize F n 0 = x at *
    go_enter Try.func27, Try.ntmps27
    go_wp2_with fail
    refine (k1 _).mono ?_; rintro e w' ⟨rfl, rfl⟩; go_wp2_with fail
    go_ret
    exact ⟨rfl, rfl⟩

theorem FlB.small {B : Nat} {w : World} {g cap : Nat} {l : List Nat} (h : FlB B w g cap l) : l.length ≤ cap ∧ cap ≤ maxLen := by
  rcases h.2 with ⟨h1, _⟩ | ⟨g', cap', cur, h1, _, _, h2, h3, _⟩
  · simp at h1
  · simp at h1; obtain ⟨rfl, rfl⟩ := h1; exact ⟨h2, h3⟩
theorem FlB.cell {B : Nat} {w : World} {g cap : Nat} {l : List Nat} (h : FlB B w g cap l) (j : Nat) (hj : j < l.length) : w.cell? ⟨g, j, none⟩ = some (.float .f64 l[j]) := by
  rw [World.ownsRow.cellAt h j (by omega)]; simp [flts, hj]
theorem FlB.free {B : Nat} {w : World} {g cap : Nat} {l : List Nat} (h : FlB B w g cap l) (j : Nat) : w.frozen? ⟨g, j, none⟩ = false := World.ownsRow.frozenAt h j
theorem FlB.store {B : Nat} {w : World} {g cap : Nat} {l : List Nat} (h : FlB B w g cap l) (j d : Nat) : FlB B (w.setCell ⟨g, j, none⟩ (.float .f64 d)) g cap (l.set j d) := by
  have := (World.ownsRow.stored h j (.float .f64 d)).1
  have e : (flts l).set j (.float .f64 d) = flts (l.set j d) := by simp [flts, List.map_set]
  rw [e] at this
  unfold FlB; rwa [List.length_set]
/-- 'make([]float64, n)' -/
theorem wpList_fzeros {ops : Array Oper} {rest : List Oper} {o : Oper} {a : Act} {Q : Exit → Act → World → Prop} (w : World) (hg : o.guard = none) (x y : Operand) (hop : o.op = Op.makeSlice 22 x y)
    (B n : Nat) (C D : Int) (hl : a.eval x = .int .i64 C) (hc : a.eval y = .int .i64 D) (hC : C = (n : Int)) (hD : D = (n : Int)) (hn : n ≤ 1000000) (hB : B ≤ w.heap.size)
    (h : ∀ w', FlB B w' w.heap.size n (List.replicate n 0) → Below w.heap.size w w' → wpList Try.prog ops Q rest (a.put o.dst (.slice (some ⟨w.heap.size, 0, none⟩) n n)) w') :
    wpList Try.prog ops Q (o :: rest) a w := by
  obtain ⟨i0, hi, hz0, hz1, hz2⟩ := info_parts info_flt
  refine wpList_make_full w hg x y 22 hop B 27 i0 (.float .f64 0) 1 Try.underlying22 hi hz0 hz1 .i64 .i64 C D n hl hc hC hD (by rw [hz2]; omega) (by unfold maxLen; omega) hB ?_
  intro w' hown hgr
  refine h w' ?_ ((Below.refl _ w).grown hgr (Nat.le_refl _) (fun k hk => by simp at hk))
  unfold FlB
  have e : flts (List.replicate n 0) = List.replicate n (.float .f64 0) := by simp [flts]
  rw [e, List.length_replicate]
  rw [show (Value.float .f64 0).cells = #[.float .f64 0] from rfl, Nat.mul_one, toList_madeCells_one] at hown
  exact hown

/-- an answer in new memory: the floats l -/
def Floats (w : World) (l : List Nat) (e : Ending) (w' : World) : Prop :=
  ∃ g cap, e = .returned (.slice (some ⟨g, 0, none⟩) l.length cap) ∧ FlB w.heap.size w' g cap l ∧ Below w.heap.size w w'
theorem store_flt (a : Addr) (m : Mode) (b : Nat) (W : World) : (store a (.float .f64 b) m).run Try.prog W = stored Try.prog W a (.float .f64 b) m := run_store Try.prog W a _ m rfl

theorem clean_c (w : World) (a : Option Addr) (cap : Nat) (fs : List Nat) (h : FRow w a cap fs) (hn : fs.length ≤ 1000)
    (ht : ∀ x ∈ fs, ∀ W, Calls Try.prog 27 #[.float .f64 x] W fun e w' => e = .returned (.float .f64 x) ∧ W = w') :
    Calls Try.prog 25 #[.slice a fs.length cap] w (Floats w fs) := by
  have hW := Lib.hid h
  have hcap := h.1
  have hm2 := h.2.1
  unfold maxLen at hm2
  clear h
  have Ht := Lib.hid ht
  clear ht
  have hst := store_flt
  go_enter Try.func25, Try.ntmps25
  go_wp2_with (at_make; refine wpList_fzeros _ rfl _ _ rfl w.heap.size fs.length _ _ rfl rfl ?c1 ?c2 ?c3 ?c4 ?c5)
  case c1 => rfl
  case c2 => rfl
  case c3 => omega
  case c4 => go_size
  case c5 =>
    intro w1 hz hb1
    go_wp2_with fail
    go_loopw [10] (fun u wr => ∃ (k : Nat) (c : List Nat), u = .int .i64 k ∧ k ≤ fs.length ∧ FlB w.heap.size wr w.heap.size fs.length c ∧ Hid (c.length = fs.length) ∧ Hid (∀ j, j < k → c[j]? = fs[j]?) ∧ Below w.heap.size w wr) (fun u _ => fs.length - (intOf u).toNat)
    case atStart => exact ⟨0, List.replicate fs.length 0, rfl, Nat.zero_le _, hz, Lib.hid (by simp), Lib.hid (fun j hj => by omega), hb1⟩
    case round =>
      clear hz hb1
      obtain ⟨k, c, rfl, hk, hz, hl, hc, hB⟩ := hrel
      by_cases hlt : k < fs.length
      · obtain ⟨ad, rfl, hcl⟩ := (hW.out.kept hB rfl).cells hlt
        have fk := hcl k hlt
        have ck := hz.cell k (by have := hl.out; omega)
        have rk := hz.free k
        have hs := hz.store k fs[k]
        have hc' : Hid (∀ j, j < k + 1 → (c.set k fs[k])[j]? = fs[j]?) := Lib.hid (fun j hj => by
          rw [List.getElem?_set]
          by_cases e : k = j
          · subst e; rw [if_pos rfl, if_pos (by have := hl.out; omega), List.getElem?_eq_getElem hlt]
          · rw [if_neg e]; exact hc.out j (by omega))
        have hl' : Hid ((c.set k fs[k]).length = fs.length) := Lib.hid (by rw [List.length_set, hl.out])
        have hcall := Ht.out fs[k] (List.getElem_mem hlt)
        have hB' := hB.setCell (p := ⟨w.heap.size, k, none⟩) (Nat.le_refl _) (.float .f64 fs[k])
        generalize c.set k fs[k] = c' at *
        generalize fs[k] = x at *
        clear hcl
        go_wp2_with fail
        refine (hcall _).mono ?_; rintro e w' ⟨rfl, rfl⟩; go_wp2_with fail
        exact ⟨⟨k + 1, c', by go_num, by omega, hs, hl', hc', hB'⟩, by first | (simp [intOf]; done) | (simp [intOf]; omega)⟩
      · obtain rfl : k = fs.length := by omega
        have hE : Hid (c = fs) := Lib.hid (List.ext_getElem? fun j => by
          by_cases e : j < fs.length
          · exact hc.out j e
          · rw [List.getElem?_eq_none (by have := hl.out; omega), List.getElem?_eq_none (by omega)])
        clear hc
        go_wp2_with fail
        go_ret
        refine ⟨w.heap.size, fs.length, rfl, ?_, hB⟩
        have h2 := hz
        rw [hE.out] at h2
        exact h2

set_option maxRecDepth 100000 in
theorem mean_c (w : World) (a : Option Addr) (cap : Nat) (n : Int) (t M : Nat) (hn : n.natAbs ≤ 32768) (ht : t ≤ 5) (hM : M = 2 ^ t) (h : FRow w a cap (List.replicate M (F n 0))) :
    Calls Try.prog 21 #[.slice a M cap] w fun e w' => e = .returned (.float .f64 (F n 0)) ∧ Below w.heap.size w w' := by
  have hM2 : 1 ≤ M ∧ M ≤ 32 := by
    subst hM
    have h1 := Nat.pow_le_pow_right (show 0 < 2 by omega) ht
    have h2 := Nat.two_pow_pos t
    omega
  have hlen : (List.replicate M (F n 0)).length = M := by simp
  have hcap := h.1
  rw [hlen] at hcap
  have hm2 := h.2.1
  unfold maxLen at hm2
  have k1 := clean_c w a cap _ h (by rw [hlen]; omega) (fun x hx W => by
    obtain rfl := (List.mem_replicate.1 hx).2
    exact finite_c (by omega) W)
  unfold Floats at k1
  rw [hlen] at k1
  have hconv : floatOfInt .f64 ((M : Nat) : Int) = F (2 ^ t) 0 := by
    rw [F_int, hM, Int.natCast_pow]; rfl
  have hq := fun W => run_float_arith (P := Try.prog) W .quo 27 .f64 _ _ _ (F_div (x := n) t (by omega) (by omega))
  have hadd : ∀ k : Nat, k ≤ 32 → floatBits .add .f64 (F (k * n) (-t)) (F n (-t)) = some (F ((k + 1 : Nat) * n) (-t)) := fun k hk => by
    have hb : ((k : Int) * n).natAbs ≤ 32 * 32768 := by
      rw [Int.natAbs_mul, Int.natAbs_natCast]; exact Nat.mul_le_mul hk hn
    have := F_add (x := k * n) (y := n) (e := -t) (by omega) (by omega) (by omega) (by omega)
    rw [this, Int.natCast_add, Int.add_mul]
    simp
  have hend : F ((M : Nat) * n) (-t) = F n 0 := by
    have := F_shift (z := n) (e := 0) t (by omega) (by omega)
    rw [← this, hM, Int.natCast_pow, Int.mul_comm]
    congr 1; omega
  have hstart : F ((0 : Nat) * n) (-t) = 0 := by
    rw [show ((0 : Nat) : Int) * n = 0 by simp]; exact F_zero _
  have HA := Lib.hid hadd
  have HE := Lib.hid hend
  have HS := Lib.hid hstart
  clear hadd hend hstart hn ht hM h hlen
  generalize F n (-t) = p at *
  generalize hs : (fun k : Nat => F (k * n) (-t)) = s at *
  have hs' : ∀ k : Nat, F (k * n) (-t) = s k := fun k => by rw [← hs]
  have HA' := Lib.hid (fun k (hk : k ≤ 32) => by have := HA.out k hk; rw [hs', hs'] at this; exact this)
  have HE' := Lib.hid (by have := HE.out; rw [hs'] at this; exact this)
  have HS' := Lib.hid (by have := HS.out; rw [hs'] at this; exact this)
  clear HA HE HS hs hs'
  generalize F (2 ^ t) 0 = d at *
  generalize hx : F n 0 = x at *
  clear hx
  go_enter Try.func21, Try.ntmps21
  go_wp2_with fail
  refine k1.mono ?_; rintro e w2 ⟨g, c, rfl, hfl, hB⟩
  clear k1
  have hsm := hfl.small
  have hln := Lib.hid (show (List.replicate M x).length = M by simp)
  rw [hln.out] at hsm
  obtain ⟨s1, s2⟩ := hsm
  unfold maxLen at s2
  go_wp2_with fail
  go_loopw [3, 9] (fun u v wr => ∃ k : Nat, v = .int .i64 k ∧ u = .float .f64 (s k) ∧ k ≤ M ∧ wr = w2) (fun _ v _ => M - (intOf v).toNat)
  case atStart => exact ⟨0, rfl, by rw [HS'.out], Nat.zero_le _, rfl⟩
  case round =>
    obtain ⟨k, rfl, rfl, hk, rfl⟩ := hrel
    by_cases hlt : k < M
    · have ck := hfl.cell k (by have := hln.out; omega)
      rw [List.getElem_replicate] at ck
      have ha := fun W => run_float_arith (P := Try.prog) W .add 27 .f64 _ _ _ (HA'.out k (by omega))
      generalize s k = sk at *
      generalize hsk : s (k + 1) = sk1 at *
      have hsk1 := Lib.hid hsk
      clear hsk
      go_wp2_with fail
      exact ⟨⟨k + 1, by go_num, by rw [hsk1.out], by omega, by first | rfl | trivial⟩, by first | (simp [intOf]; done) | (simp [intOf]; omega)⟩
    · obtain rfl : k = M := by omega
      go_wp2_with fail
      go_ret
      exact ⟨by rw [← HE'.out]; rfl, hB⟩
end Go.Proofs.Ytpkokolhmcophaa.sl
