/- Ranks: the program's, the reference's; the walk of WeighRanks. -/
import Derived.Test.YtpkokolhmcophaaWOrd
namespace Go.Proofs.Ytpkokolhmcophaa.sl
open Go.RowKit Go.Proofs.Ytpkokolhmcophaa.fl

/-- how many are ahead of what stands at x -/
def cnt (fs : List Nat) (x : Nat) : Nat := (List.range fs.length).countP fun z => ahead fs z x
def ranksL (fs : List Nat) : List Nat := (List.range fs.length).map (cnt fs)
theorem ranksL_len (fs : List Nat) : (ranksL fs).length = fs.length := by simp [ranksL]
theorem ranksL_getD {fs : List Nat} {i : Nat} (h : i < fs.length) : (ranksL fs).getD i 0 = cnt fs i := by
  unfold ranksL
  rw [List.getD_eq_getElem?_getD, List.getElem?_map, List.getElem?_range h]; rfl
theorem cnt_lt {fs : List Nat} {i k : Nat} (hi : i < fs.length) : decide (cnt fs i < cnt fs k) = ahead fs i k := by
  cases h : ahead fs i k
  · have : cnt fs k ≤ cnt fs i := List.countP_mono_left fun z _ hz => by
      rcases ahead_ntrans (y := i) hz with c | c
      · exact c
      · rw [h] at c; cases c
    simpa using this
  · have : cnt fs i < cnt fs k := countP_lt (fun z _ hz => ahead_trans hz h) (List.mem_range.2 hi) h (ahead_irrefl fs i)
    simpa using this
theorem cnt_le (fs : List Nat) (x : Nat) : cnt fs x ≤ fs.length := by
  have := List.countP_le_length (p := fun z => ahead fs z x) (l := List.range fs.length)
  simpa [cnt] using this

theorem bef_alike {fs : List Nat} {b x : Nat} (h1 : ahead fs b x = false) (h2 : ahead fs x b = false) : cnt fs x = cnt fs b := by
  unfold cnt
  apply List.countP_congr
  intro z _
  constructor
  · intro h
    rcases ahead_ntrans (y := b) h with c | c
    · exact c
    · rw [h1] at c; cases c
  · intro h
    rcases ahead_ntrans (y := x) h with c | c
    · exact c
    · rw [h2] at c; cases c
theorem at_rank {fs l : List Nat} (h : IsOrd fs l) {z : Nat} (hz : z < fs.length) : l.getD (rk fs z) 0 = z := rk_inj (h.2.1 _ (rk_bound hz)) hz (h.2.2 _ (rk_bound hz))
theorem cnt_first {fs l : List Nat} (h : IsOrd fs l) (hn : 0 < fs.length) : cnt fs (l.getD 0 0) = 0 := by
  unfold cnt
  rw [List.countP_eq_zero]
  intro z hz
  have hz' := List.mem_range.1 hz
  intro c
  have := rk_fwd fs _ _ hz' (h.2.1 0 hn) c
  rw [h.2.2 0 hn] at this; omega
theorem cnt_new {fs l : List Nat} (h : IsOrd fs l) {k : Nat} (hk : k + 1 < fs.length) (ha : ahead fs (l.getD k 0) (l.getD (k + 1) 0) = true) : cnt fs (l.getD (k + 1) 0) = k + 1 := by
  have hr := h.2.2 (k + 1) hk
  have hr0 := h.2.2 k (by omega)
  have hx := h.2.1 (k + 1) hk
  have hb := h.2.1 k (by omega)
  refine Eq.trans ?_ hr
  generalize l.getD (k + 1) 0 = x at *
  generalize hbb : l.getD k 0 = b at *
  unfold cnt rk
  apply List.countP_congr
  intro z hz
  have hz' := List.mem_range.1 hz
  constructor
  · intro c
    have : ahead fs z x = true := c
    show bef fs z x = true
    unfold bef; rw [this]; rfl
  · intro c
    have c' : bef fs z x = true := c
    have hlt := rk_lt hz' c'
    by_cases e : z = b
    · subst e; exact ha
    · have hzb : bef fs z b = true := by
        rcases bef_total fs e with g | g
        · exact g
        · have := rk_lt hb g; rw [hr, hr0] at *; omega
      unfold bef at hzb
      rcases ahead_ntrans (y := z) ha with g | g
      · rw [g] at hzb
        simp at hzb
        have := ahead_asymm g; rw [hzb] at this; cases this
      · exact g
theorem cnt_same {fs l : List Nat} (h : IsOrd fs l) {k : Nat} (hk : k + 1 < fs.length) (ha : ahead fs (l.getD k 0) (l.getD (k + 1) 0) = false) : cnt fs (l.getD (k + 1) 0) = cnt fs (l.getD k 0) := by
  refine bef_alike ha ?_
  cases e : ahead fs (l.getD (k + 1) 0) (l.getD k 0)
  · rfl
  · have := rk_fwd fs _ _ (h.2.1 (k + 1) hk) (h.2.1 k (by omega)) e
    rw [h.2.2 (k + 1) hk, h.2.2 k (by omega)] at this; omega

/-- the ranks of the first k of the order are laid -/
def Laid (fs l : List Nat) (k : Nat) (c : List Nat) : Prop := c.length = fs.length ∧ ∀ t, t < k → c.getD (l.getD t 0) 0 = cnt fs (l.getD t 0)
theorem laid_step {fs l : List Nat} {k v : Nat} {c : List Nat} (ho : IsOrd fs l) (h : Laid fs l k c) (hk : k < fs.length) (hv : v = cnt fs (l.getD k 0)) : Laid fs l (k + 1) (c.set (l.getD k 0) v) := by
  have hx := ho.2.1 k hk
  have hlx : l.getD k 0 < c.length := by have := h.1; omega
  refine ⟨by rw [List.length_set, h.1], fun t ht => ?_⟩
  rw [List.getD_eq_getElem?_getD, List.getElem?_set]
  by_cases e : l.getD k 0 = l.getD t 0
  · rw [if_pos e, if_pos hlx, hv, e]; rfl
  · rw [if_neg e, ← List.getD_eq_getElem?_getD]
    refine h.2 t ?_
    by_cases e2 : t = k
    · subst e2; exact absurd rfl e
    · omega
theorem laid_set {fs l : List Nat} {k x v v' : Nat} {c : List Nat} (h : Laid fs l (k + 1) ((c.set x v).set x v')) : Laid fs l (k + 1) ((c.set x v).set x v') := h
theorem laid_end {fs l : List Nat} {c : List Nat} (ho : IsOrd fs l) (h : Laid fs l fs.length c) : c = ranksL fs := by
  apply List.ext_getElem (by rw [h.1, ranksL_len])
  intro i h1 h2
  have hi : i < fs.length := by have := h.1; omega
  have e := h.2 (rk fs i) (rk_bound hi)
  rw [at_rank ho hi, ← ranksL_getD hi] at e
  simpa [h1, h2] using e

/-- an answer in new memory: the list r -/
def Lists (w : World) (r : List Nat) (e : Ending) (w' : World) : Prop :=
  ∃ g cap, e = .returned (.slice (some ⟨g, 0, none⟩) r.length cap) ∧ SlB w.heap.size w' g cap r ∧ Below w.heap.size w w'

set_option maxRecDepth 100000 in
theorem refRanks_c (w : World) (a : Option Addr) (cap : Nat) (fs : List Nat) (h : FRow w a cap fs) (hn : fs.length ≤ 1000) :
    Calls Try.prog 12 #[.slice a fs.length cap] w (Lists w (ranksL fs)) := by
  have hW := Lib.hid h
  have hcap := h.1
  have hm2 := h.2.1
  unfold maxLen at hm2
  clear h
  have HRL := Lib.hid (ranksL_len fs)
  go_enter Try.func12, Try.ntmps12
  go_wp2_with fail
  go_loopw [3, 4] (fun u v wr => ∃ (i g c : Nat) (o : List Nat), u = .slice (some ⟨g, 0, none⟩) i c ∧ v = .int .i64 i ∧ i ≤ fs.length ∧ SlB w.heap.size wr g c o ∧ Hid (o = (List.range i).map (cnt fs)) ∧ Below w.heap.size w wr) (fun _ v _ => fs.length - (intOf v).toNat)
  case atStart => exact ⟨0, w.heap.size, 0, [], rfl, rfl, Nat.zero_le _, SlB.empty _ _ (Nat.le_refl _), Lib.hid rfl, (Below.refl _ _).alloc (Nat.le_refl _) _⟩
  case round =>
    obtain ⟨i, g, c, o, rfl, rfl, hi, hsl, hri, hb⟩ := hrel
    have hol : Hid (o.length = i) := Lib.hid (by rw [hri.out]; simp)
    by_cases hlt : i < fs.length
    · obtain ⟨ad, rfl, hcl⟩ := (hW.out.kept hb rfl).cells hlt
      go_wp2_with fail
      go_loopw [5, 6] (fun u v wq => ∃ (m k nd : Nat), u = .int .i64 m ∧ v = .int .i64 k ∧ k ≤ fs.length ∧ m ≤ k ∧ wq = wr.drewN nd ∧ Hid (m = (List.range k).countP fun z => ahead fs z i)) (fun _ v _ => fs.length - (intOf v).toNat)
      case atStart => exact ⟨0, 0, 0, rfl, rfl, Nat.zero_le _, Nat.le_refl _, rfl, Lib.hid rfl⟩
      case round =>
        obtain ⟨m, k, nd, rfl, rfl, hk, hmk, rfl, hm⟩ := hrel
        by_cases hki : k < fs.length
        · have c1 := hcl i hlt
          have c2 := hcl k hki
          have hcall := refLess_c fs[k] fs[i]
          rw [show less fs[k] fs[i] = ahead fs k i by unfold ahead; rw [getD_get fs i hlt, getD_get fs k hki]] at hcall
          generalize fs[i] = x at *
          generalize fs[k] = y at *
          cases hd : ahead fs k i
          · rw [hd] at hcall
            have hm' := Lib.hid (show m = (List.range (k + 1)).countP fun z => ahead fs z i by rw [List.range_succ, List.countP_append, ← hm.out]; simp [hd])
            clear hd hcl hm
            go_wp2
            go_quiet ((go_at_call 19; first | exact still hcall | exact still0 hcall))
            go_wp2
            exact ⟨⟨m, k + 1, nd + nq, rfl, by go_num, by omega, by omega, by first | rfl | exact World.drewN_drewN .., hm'⟩, by first | (simp [intOf]; done) | (simp [intOf]; omega)⟩
          · rw [hd] at hcall
            have hm' := Lib.hid (show m + 1 = (List.range (k + 1)).countP fun z => ahead fs z i by rw [List.range_succ, List.countP_append, ← hm.out]; simp [hd])
            clear hd hcl hm
            go_wp2
            go_quiet ((go_at_call 19; first | exact still hcall | exact still0 hcall))
            go_wp2
            exact ⟨⟨m + 1, k + 1, nd + nq, by go_num, by go_num, by omega, by omega, by first | rfl | exact World.drewN_drewN .., hm'⟩, by first | (simp [intOf]; done) | (simp [intOf]; omega)⟩
        · obtain rfl : k = fs.length := by omega
          have hc : Hid (o ++ [m] = (List.range (i + 1)).map (cnt fs)) := Lib.hid (by rw [List.range_succ, List.map_append, hri.out, hm.out]; rfl)
          have hslW := hsl.drawn nd
          have hbW := hb.trans (below_drawn _ _ nd)
          clear hcl hsl hb
          generalize wr.drewN nd = W at *
          go_wp2_with (at_builtin; refine wpList_put rfl _ _ rfl w.heap.size _ g i c m o _ rfl hol.out hslW rfl rfl (by omega) hbW.size (i + 1) rfl ?b5)
          case b5 =>
            intro g2 cp2 w2 hs2 hb2
            go_wp2_with fail
            exact ⟨⟨i + 1, g2, cp2, o ++ [m], rfl, by go_num, by omega, hs2, hc, hbW.trans hb2⟩, by first | (simp [intOf]; done) | (simp [intOf]; omega)⟩
    · obtain rfl : i = fs.length := by omega
      have hE : Hid (o = ranksL fs) := hri
      clear hri
      go_wp2_with fail
      go_ret
      refine ⟨g, c, by rw [HRL.out]; rfl, ?_, hb⟩
      rw [← hE.out]; exact hsl

theorem SlB.other {B : Nat} {w : World} {g cap : Nat} {l : List Nat} (h : SlB B w g cap l) {a : Addr} (ha : a.block < B) (u : Value) : SlB B (w.setCell a u) g cap l := ownsRow_setCell_below h ha u

set_option maxRecDepth 100000 in
set_option maxHeartbeats 4000000 in
theorem ranks_c (w : World) (a : Option Addr) (cap : Nat) (fs : List Nat) (h : FRow w a cap fs) (hn : fs.length ≤ 1000) :
    Calls Try.prog 10 #[.slice a fs.length cap] w (Lists w (ranksL fs)) := by
  have hW := Lib.hid h
  have hcap := h.1
  have hm2 := h.2.1
  unfold maxLen at hm2
  clear h
  have HRL := Lib.hid (ranksL_len fs)
  go_enter Try.func10, Try.ntmps10
  go_wp2_with (at_make; refine wpList_zeros _ rfl _ _ rfl w.heap.size fs.length _ _ rfl rfl ?c1 ?c2 ?c3 ?c4 ?c5)
  case c1 => rfl
  case c2 => rfl
  case c3 => omega
  case c4 => go_size
  case c5 =>
    intro w1 hz hb1
    have hlt1 := hz.lt.2
    have k1 := order_c w1 a cap fs (hW.out.kept hb1 rfl) hn
    go_wp2_with fail
    refine k1.mono ?_; rintro e w2 ⟨g, c, l, rfl, ho, hsl, hb2⟩
    have Ho := Lib.hid ho
    have hzz := hz.kept hb2 hlt1
    have hB2 := hb1.trans (hb2.mono hb1.size)
    obtain ⟨s1, s2, s3⟩ := hsl.small
    unfold maxLen at s2
    have hl : Hid (l.length = fs.length) := Lib.hid Ho.out.1
    rw [hl.out] at s1
    clear ho k1 hz hb1
    go_wp2_with fail
    go_loopw [15] (fun u wr => ∃ (k : Nat) (cc : List Nat), u = .int .i64 k ∧ k ≤ fs.length ∧ SlB w.heap.size wr w.heap.size fs.length cc ∧ Hid (Laid fs l k cc) ∧ SlB w1.heap.size wr g c l ∧ Below w.heap.size w wr) (fun u _ => fs.length - (intOf u).toNat)
    case atStart => exact ⟨0, List.replicate fs.length 0, rfl, Nat.zero_le _, hzz, Lib.hid ⟨by simp, fun t ht => by omega⟩, hsl, hB2⟩
    case round =>
      clear hzz hsl hB2 s3 hb2
      obtain ⟨k, cc, rfl, hk, hzz, hla, hsl, hB⟩ := hrel
      by_cases hlt : k < fs.length
      · have hcl := Lib.hid hla.out.1
        have ck := hsl.at k (by have := hl.out; omega)
        have bk := Ho.out.2.1 k hlt
        have cx := hzz.at (l.getD k 0) (by have := hcl.out; omega)
        have fx := hzz.free (l.getD k 0)
        by_cases h0 : k = 0
        · subst h0
          have hs := Lib.hid (hzz.store (l.getD 0 0) 0)
          have hs2 := Lib.hid (hsl.other (a := ⟨w.heap.size, l.getD 0 0, none⟩) hlt1 (.int .i64 ((0 : Nat) : Int)))
          have hla' := Lib.hid (laid_step Ho.out hla.out hlt (cnt_first Ho.out hlt).symm)
          have hB' := hB.setCell (p := ⟨w.heap.size, l.getD 0 0, none⟩) (Nat.le_refl _) (.int .i64 ((0 : Nat) : Int))
          generalize cc.set (l.getD 0 0) 0 = c' at *
          generalize l.getD 0 0 = x at *
          clear hzz hsl hB hla
          go_wp2_with fail
          exact ⟨⟨1, c', by go_num, by omega, hs.out, hla', hs2.out, hB'⟩, by first | (simp [intOf]; done) | (simp [intOf]; omega)⟩
        · obtain ⟨m, rfl⟩ : ∃ m, k = m + 1 := ⟨k - 1, by omega⟩
          have cm := hsl.at m (by have := hl.out; omega)
          have bm := Ho.out.2.1 m (by omega)
          have hs1 := hzz.store (l.getD (m + 1) 0) (m + 1)
          have hso1 := hsl.other (a := ⟨w.heap.size, l.getD (m + 1) 0, none⟩) hlt1 (.int .i64 ((m + 1 : Nat) : Int))
          have cm1 := hso1.at m (by have := hl.out; omega)
          have hB1 := hB.setCell (p := ⟨w.heap.size, l.getD (m + 1) 0, none⟩) (Nat.le_refl _) (.int .i64 ((m + 1 : Nat) : Int))
          obtain ⟨ad, rfl, hcl2⟩ := (hW.out.kept hB1 rfl).cells hlt
          have f1 := hcl2 _ bm
          have f2 := hcl2 _ bk
          have hcall := less_c (fs[l.getD m 0]'bm) (fs[l.getD (m + 1) 0]'bk)
          rw [show less (fs[l.getD m 0]'bm) (fs[l.getD (m + 1) 0]'bk) = ahead fs (l.getD m 0) (l.getD (m + 1) 0) by unfold ahead; rw [getD_get fs _ bm, getD_get fs _ bk]] at hcall
          generalize fs[l.getD m 0]'bm = y at *
          generalize fs[l.getD (m + 1) 0]'bk = z at *
          cases hd : ahead fs (l.getD m 0) (l.getD (m + 1) 0)
          · -- alike
            have hne : l.getD m 0 ≠ l.getD (m + 1) 0 := fun e => by
              have e1 := Ho.out.2.2 m (by omega)
              have e2 := Ho.out.2.2 (m + 1) hlt
              rw [e, e2] at e1; omega
            have hv : cc.getD (l.getD m 0) 0 = cnt fs (l.getD m 0) := hla.out.2 m (by omega)
            have hcx : (cc.set (l.getD (m + 1) 0) (m + 1)).getD (l.getD m 0) 0 = cc.getD (l.getD m 0) 0 := by
              rw [List.getD_eq_getElem?_getD, List.getElem?_set, if_neg (fun e => hne e.symm), ← List.getD_eq_getElem?_getD]
            have cv := hs1.at (l.getD m 0) (by rw [List.length_set, hcl.out]; exact bm)
            rw [hcx] at cv
            have fx1 := hs1.free (l.getD (m + 1) 0)
            have cx1 := hs1.at (l.getD (m + 1) 0) (by rw [List.length_set, hcl.out]; exact bk)
            have hset := Lib.hid (show (cc.set (l.getD (m + 1) 0) (m + 1)).set (l.getD (m + 1) 0) (cc.getD (l.getD m 0) 0) = cc.set (l.getD (m + 1) 0) (cc.getD (l.getD m 0) 0) by rw [List.set_set])
            have hla' := Lib.hid (laid_step Ho.out hla.out hlt (hv.trans (cnt_same Ho.out hlt hd).symm))
            rw [hd] at hcall
            clear hd hv hcx hne hla hcl2 hzz hsl hB
            generalize cc.getD (l.getD m 0) 0 = v at *
            generalize cc.set (l.getD (m + 1) 0) v = c' at *
            generalize cc.set (l.getD (m + 1) 0) (m + 1) = c0 at *
            generalize l.getD m 0 = p at *
            generalize l.getD (m + 1) 0 = x at *
            rw [show ((m + 1 : Nat) : Int) = (m : Int) + 1 from by omega] at *
            have z1 : (0 : Int) ≤ (m : Int) + 1 := by omega
            have z3 : m < fs.length := by omega
            go_wp2_with fail
            clear ck cx fx cm
            generalize wr.setCell ⟨w.heap.size, x, none⟩ (.int .i64 ((m : Int) + 1)) = wq at *
            go_quiet ((first | (with_reducible exact still0 hcall) | (with_reducible exact still hcall)))
            have hs1q := hs1.drawn nq
            have hsoq := hso1.drawn nq
            have hBq := hB1.trans (below_drawn w.heap.size wq nq)
            go_wp2_with fail
            exact ⟨⟨m + 1 + 1, c', by go_num, by omega, (by rw [← hset.out]; exact hs1q.store x v), hla', hsoq.other hlt1 _, hBq.setCell (Nat.le_refl _) _⟩, by first | (simp [intOf]; done) | (simp [intOf]; omega)⟩
          · have hla' := Lib.hid (laid_step Ho.out hla.out hlt (cnt_new Ho.out hlt hd).symm)
            rw [hd] at hcall
            clear hd hla hcl2 hzz hsl hB
            generalize cc.set (l.getD (m + 1) 0) (m + 1) = c' at *
            generalize l.getD m 0 = p at *
            generalize l.getD (m + 1) 0 = x at *
            rw [show ((m + 1 : Nat) : Int) = (m : Int) + 1 from by omega] at *
            have z1 : (0 : Int) ≤ (m : Int) + 1 := by omega
            have z3 : m < fs.length := by omega
            go_wp2_with fail
            clear ck cx fx cm
            generalize wr.setCell ⟨w.heap.size, x, none⟩ (.int .i64 ((m : Int) + 1)) = wq at *
            go_quiet ((first | (with_reducible exact still0 hcall) | (with_reducible exact still hcall)))
            have hs1q := hs1.drawn nq
            have hsoq := hso1.drawn nq
            have hBq := hB1.trans (below_drawn w.heap.size wq nq)
            go_wp2_with fail
            exact ⟨⟨m + 1 + 1, c', by go_num, by omega, hs1q, hla', hsoq, hBq⟩, by first | (simp [intOf]; done) | (simp [intOf]; omega)⟩
      · obtain rfl : k = fs.length := by omega
        have hE := Lib.hid (laid_end Ho.out hla.out)
        clear hla
        go_wp2_with fail
        go_ret
        refine ⟨w.heap.size, fs.length, by rw [HRL.out]; rfl, ?_, hB⟩
        rw [← hE.out]; exact hzz
end Go.Proofs.Ytpkokolhmcophaa.sl
