/- The reference's Order: its contract. -/
import Derived.Test.YtpkokolhmcophaaOrder
namespace Go.Proofs.Ytpkokolhmcophaa.sl
open Go.RowKit Go.Proofs.Ytpkokolhmcophaa.fl

/-- i put in at place k -/
def insL (o : List Nat) (k i : Nat) : List Nat := o.take k ++ [i] ++ o.drop k
theorem insL_len {o : List Nat} {k i : Nat} (hk : k ≤ o.length) : (insL o k i).length = o.length + 1 := by unfold insL; simp; omega
theorem insL_getD {o : List Nat} {k i : Nat} (hk : k ≤ o.length) (j : Nat) : (insL o k i).getD j 0 = if j < k then o.getD j 0 else if j = k then i else o.getD (j - 1) 0 := by
  unfold insL
  simp only [List.getD_eq_getElem?_getD]
  have h1 : (o.take k).length = k := by simp; omega
  by_cases c1 : j < k
  · rw [if_pos c1, List.append_assoc, List.getElem?_append_left (by omega), List.getElem?_take_of_lt c1]
  · rw [if_neg c1, List.append_assoc, List.getElem?_append_right (by omega), h1]
    by_cases c2 : j = k
    · subst c2; simp
    · rw [if_neg c2, show j - k = (j - 1 - k) + 1 from by omega, List.cons_append, List.nil_append, List.getElem?_cons_succ, List.getElem?_drop, show k + (j - 1 - k) = j - 1 from by omega]
/-- the first i places, in the order of their ranks -/
def Rises (fs o : List Nat) (i : Nat) : Prop := o.length = i ∧ (∀ p, p < i → o.getD p 0 < i) ∧ ∀ p q, p < q → q < i → rk fs (o.getD p 0) < rk fs (o.getD q 0)
theorem rises_step {fs o : List Nat} {i k : Nat} (h : Rises fs o i) (hi : i < fs.length) (hk : k ≤ i) (hlo : ∀ t, t < k → ahead fs i (o.getD t 0) = false) (hhi : k = i ∨ (k < i ∧ ahead fs i (o.getD k 0) = true)) : Rises fs (insL o k i) (i + 1) := by
  obtain ⟨hl, h1, h2⟩ := h
  have hko : k ≤ o.length := by omega
  have lo : ∀ t, t < k → rk fs (o.getD t 0) < rk fs i := fun t ht => by
    have hf := rk_fair (fs := fs) (h1 t (by omega)) hi
    unfold Fair at hf
    rw [hlo t ht] at hf
    have hne : rk fs (o.getD t 0) ≠ rk fs i := fun e => by
      have hb := h1 t (by omega)
      have := rk_inj (by omega) hi e; omega
    have := of_decide_eq_false hf.symm
    omega
  have hi' : ∀ t, k ≤ t → t < i → rk fs i < rk fs (o.getD t 0) := fun t ht1 ht2 => by
    rcases hhi with e | ⟨e, hd⟩
    · omega
    · have hf : rk fs i < rk fs (o.getD k 0) := rk_fwd fs _ _ hi (by have := h1 k (by omega); omega) hd
      by_cases c : t = k
      · rw [c]; exact hf
      · have := h2 k t (by omega) ht2; omega
  refine ⟨by rw [insL_len hko, hl], fun p hp => ?_, fun p q hpq hq => ?_⟩
  · rw [insL_getD hko]
    split
    · have := h1 p (by omega); omega
    · split
      · omega
      · have := h1 (p - 1) (by omega); omega
  · rw [insL_getD hko, insL_getD hko]
    by_cases p1 : p < k
    · rw [if_pos p1]
      by_cases q1 : q < k
      · rw [if_pos q1]; exact h2 p q hpq (by omega)
      · rw [if_neg q1]
        by_cases q2 : q = k
        · rw [if_pos q2]; exact lo p p1
        · rw [if_neg q2]; exact h2 p (q - 1) (by omega) (by omega)
    · rw [if_neg p1, if_neg (show ¬ q < k by omega), if_neg (show ¬ q = k by omega)]
      by_cases p2 : p = k
      · rw [if_pos p2]; exact hi' (q - 1) (by omega) (by omega)
      · rw [if_neg p2]; exact h2 (p - 1) (q - 1) (by omega) (by omega)
theorem rises_end {fs o : List Nat} (h : Rises fs o fs.length) : IsOrd fs o := ord_of_strict h.1 h.2.1 h.2.2

/-- 'out = append(out, more...)' -/
theorem wpList_spread {ops : Array Oper} {rest : List Oper} {o : Oper} {a : Act} {Q : Exit → Act → World → Prop} (hgd : o.guard = none) (s x : Operand)
    (ho : o.op = .call { callee := .builtin .append, args := #[s, x], argTypes := #[23, 23] })
    (B : Nat) (w : World) (g n cap : Nat) (l : List Nat) (hs : a.eval s = .slice (some ⟨g, 0, none⟩) n cap) (hn : l.length = n) (hown : SlB B w g cap l)
    (ad : Addr) (m c : Nat) (l2 : List Nat) (hx : a.eval x = .slice (some ad) m c) (hm : l2.length = m) (hcells : ∀ j, j < m → w.cell? (ad.add j) = some (.int .i64 ((l2.getD j 0 : Nat) : Int))) (hlen : n + m ≤ 1000000) (hB : B ≤ w.heap.size)
    (r : Nat) (hr : n + m = r) (h : ∀ g' cap' w', SlB B w' g' cap' (l ++ l2) → Below B w w' → wpList Try.prog ops Q rest (a.put o.dst (.slice (some ⟨g', 0, none⟩) r cap')) w') :
    wpList Try.prog ops Q (o :: rest) a w := by
  obtain ⟨i0, hi, hz0, hz1, hz2⟩ := info_parts info_int
  subst hm hr hn
  refine wpList_append_own _ hgd s x 23 ho B 3 i0 (.int .i64 0) 1 8 Try.underlying23 hi hz0 hz1 hz2 rfl (by decide) _ l.length (nums l) hs hown ad l2.length c (nums l2) hx (by simp [nums]) ?_ ?_ ?_ ?_ hB ?_
  · intro j u hj
    have hj2 : j < l2.length := by
      have := (List.getElem?_eq_some_iff.1 hj).1
      rwa [nums_len] at this
    rw [hcells j hj2, ← hj]
    simp [nums, hj2]
  · intro u hu
    simp [nums] at hu
    obtain ⟨d, _, rfl⟩ := hu; rfl
  · unfold maxLen; omega
  · omega
  · intro v' w' hown' hgr hnil
    have e1 : nums l ++ nums l2 = nums (l ++ l2) := by simp [nums]
    rw [e1] at hown'
    have hb : Below B w w' := (Below.refl B w).grown hgr hB (fun k hk => by simp [Value.ownBlock] at hk; have := hown.lt.1; omega)
    rcases hown'.2 with ⟨h1, h2⟩ | ⟨g', cap', cur, h1, h2⟩
    · have := hnil.1 h1; simp at this
    · subst h1
      refine h g' cap' w' ?_ hb
      have : SlB B w' g' cap' (l ++ l2) := by unfold SlB; simpa using hown'
      exact this
/-- 'out = append(out, d)' behind the making of the slice of one element -/
theorem wpList_put {ops : Array Oper} {rest : List Oper} {o : Oper} {a : Act} {Q : Exit → Act → World → Prop} (hgd : o.guard = none) (s x : Operand)
    (ho : o.op = .call { callee := .builtin .append, args := #[s, x], argTypes := #[23, 23] })
    (B : Nat) (w : World) (g n cap d : Nat) (l : List Nat) (e : Int) (hs : a.eval s = .slice (some ⟨g, 0, none⟩) n cap) (hn : l.length = n) (hown : SlB B w g cap l)
    (hx : a.eval x = .slice (some ⟨w.heap.size, 0, none⟩) 1 1) (he : e = (d : Int)) (hlen : n ≤ 1000000) (hB : B ≤ w.heap.size)
    (r : Nat) (hr : n + 1 = r) (h : ∀ g' cap' w', SlB B w' g' cap' (l ++ [d]) → Below B w w' → wpList Try.prog ops Q rest (a.put o.dst (.slice (some ⟨g', 0, none⟩) r cap')) w') :
    wpList Try.prog ops Q (o :: rest) a (w.alloc (.cells #[.int .i64 e] 3)) := by
  subst hn hr
  exact wpList_push hgd s x ho B w g cap d l e hs hown hx he hlen hB h

theorem take_at {o : List Nat} {k j : Nat} (hj : j < k) : (o.take k).getD j 0 = o.getD j 0 := by
  rw [List.getD_eq_getElem?_getD, List.getElem?_take_of_lt hj, ← List.getD_eq_getElem?_getD]
theorem insL_eq (o : List Nat) (k i : Nat) : insL o k i = o.take k ++ i :: o.drop k := by simp [insL]
theorem take_len {o : List Nat} {k : Nat} (h : k ≤ o.length) : (o.take k).length = k := by rw [List.length_take]; omega
theorem take_len1 {o : List Nat} {k i : Nat} (h : k ≤ o.length) : (o.take k ++ [i]).length = k + 1 := by rw [List.length_append, take_len h]; rfl
theorem SlB.takes {B : Nat} {w : World} {g cap : Nat} {o : List Nat} (h : SlB B w g cap o) {k : Nat} (hk : k ≤ o.length) : ∀ j, j < k → w.cell? (Addr.add ⟨g, 0, none⟩ j) = some (.int .i64 (((o.take k).getD j 0 : Nat) : Int)) := by
  intro j hj
  rw [take_at hj, show (Addr.add ⟨g, 0, none⟩ j) = ⟨g, j, none⟩ from by simp [Addr.add]; omega]; exact h.at j (by omega)
theorem drop_at (o : List Nat) (k j : Nat) : (o.drop k).getD j 0 = o.getD (k + j) 0 := by
  rw [List.getD_eq_getElem?_getD, List.getElem?_drop, ← List.getD_eq_getElem?_getD]
theorem SlB.drops {B : Nat} {w : World} {g cap : Nat} {o : List Nat} (h : SlB B w g cap o) {i k : Nat} (hk : i ≤ o.length) : ∀ j, j < i - k → w.cell? (Addr.add ⟨g, k, none⟩ j) = some (.int .i64 (((o.drop k).getD j 0 : Nat) : Int)) := by
  intro j hj
  rw [drop_at, show (Addr.add ⟨g, k, none⟩ j) = ⟨g, k + j, none⟩ from by simp [Addr.add]]; exact h.at (k + j) (by omega)

set_option maxRecDepth 100000 in
theorem refOrder_c (w : World) (a : Option Addr) (cap : Nat) (fs : List Nat) (h : FRow w a cap fs) (hn : fs.length ≤ 1000) :
    Calls Try.prog 17 #[.slice a fs.length cap] w (Ordered w fs) := by
  have hW := Lib.hid h
  have hcap := h.1
  have hm2 := h.2.1
  unfold maxLen at hm2
  clear h
  go_enter Try.func17, Try.ntmps17
  go_wp2_with fail
  go_loopw [3, 4] (fun u v wr => ∃ (i g c : Nat) (o : List Nat), u = .slice (some ⟨g, 0, none⟩) i c ∧ v = .int .i64 i ∧ i ≤ fs.length ∧ SlB w.heap.size wr g c o ∧ Hid (Rises fs o i) ∧ Below w.heap.size w wr) (fun _ v _ => fs.length - (intOf v).toNat)
  case atStart => exact ⟨0, w.heap.size, 0, [], rfl, rfl, Nat.zero_le _, SlB.empty _ _ (Nat.le_refl _), Lib.hid ⟨rfl, fun p hp => by omega, fun p q hp hq => by omega⟩, (Below.refl _ _).alloc (Nat.le_refl _) _⟩
  case round =>
    obtain ⟨i, g, c, o, rfl, rfl, hi, hsl, hri, hb⟩ := hrel
    obtain ⟨s1, s2, s3⟩ := hsl.small
    unfold maxLen at s2
    have hol : Hid (o.length = i) := Lib.hid hri.out.1
    by_cases hlt : i < fs.length
    · obtain ⟨ad, rfl, hcl⟩ := (hW.out.kept hb rfl).cells hlt
      go_wp2_with fail
      go_loopw [5] (fun u wq => ∃ (k nd : Nat), u = .int .i64 k ∧ k ≤ i ∧ wq = wr.drewN nd ∧ Hid (∀ t, t < k → ahead fs i (o.getD t 0) = false)) (fun u _ => i - (intOf u).toNat)
      case atStart => exact ⟨0, 0, rfl, Nat.zero_le _, rfl, Lib.hid (fun t ht => by omega)⟩
      case round =>
        obtain ⟨k, nd, rfl, hk, rfl, hlo⟩ := hrel
        have hki2 : k ≤ c := by have := hol.out; omega
        by_cases hki : k < i
        · have c1 := hcl i hlt
          have c2 := hsl.at k (by have := hol.out; omega)
          have hlw := hri.out.2.1 k hki
          have c3 := hcl (o.getD k 0) (by omega)
          have hlw2 : ((o.getD k 0 : Nat) : Int) < fs.length := by omega
          have hcall := refLess_c fs[i] (fs[o.getD k 0]'(by omega))
          have hah : ahead fs i (o.getD k 0) = less fs[i] (fs[o.getD k 0]'(by omega)) := by unfold ahead; rw [getD_get fs i hlt, getD_get fs _ (by omega)]
          rw [← hah] at hcall
          generalize fs[o.getD k 0]'(by omega) = y at *
          generalize fs[i] = x at *
          have hkl : decide ((k : Int) < (i : Int)) = true := by simp; omega
          clear hah
          by_cases hd : ahead fs i (o.getD k 0) = true
          · rw [hd] at hcall
            have hri' := Lib.hid (rises_step hri.out hlt hk hlo.out (.inr ⟨hki, hd⟩))
            clear hd hcl
            generalize hz : o.getD k 0 = z at *
            clear hz
            go_wp2
            go_quiet ((go_at_call 19; first | exact still hcall | exact still0 hcall))
            try rw [World.drewN_drewN]
            have hslW := hsl.drawn (nd + nq)
            have hbW := hb.trans (below_drawn _ _ (nd + nq))
            have hgW : g < (wr.drewN (nd + nq)).heap.size := s3
            clear hcall c1 c2 c3 hlw hlw2 hkl
            clear hsl hb s3 hlo
            generalize wr.drewN (nd + nq) = W at *
            by_cases hck : c = k
            · exfalso; have := hol.out; omega
            · go_wp2_with (at_builtin; refine wpList_spread rfl _ _ rfl W.heap.size _ W.heap.size 0 0 [] rfl rfl (SlB.empty _ _ (Nat.le_refl _)) ⟨g, 0, none⟩ k c (o.take k) rfl (take_len (by have := hol.out; omega)) (SlB.takes (hslW.alloc _) (by have := hol.out; omega)) (by omega) (by go_size) k (Nat.zero_add _) ?a6)
              case a6 =>
                intro g1 cp1 w1 hs1 hb1
                try rw [List.nil_append] at hs1
                have hB1 : Below W.heap.size W w1 := ((Below.refl _ _).alloc (Nat.le_refl _) _).trans hb1
                go_wp2_with (at_builtin; refine wpList_put rfl _ _ rfl W.heap.size _ g1 k cp1 i (o.take k) _ rfl (take_len (by have := hol.out; omega)) hs1 rfl rfl (by omega) hB1.size (k + 1) rfl ?b5)
                case b5 =>
                  intro g2 cp2 w2 hs2 hb2
                  have hB2 : Below W.heap.size W w2 := hB1.trans hb2
                  have hsl2 := hslW.kept hB2 hgW
                  go_wp2_with (at_builtin; refine wpList_spread rfl _ _ rfl W.heap.size _ g2 (k + 1) cp2 (o.take k ++ [i]) rfl (take_len1 (by have := hol.out; omega)) hs2 ⟨g, k, none⟩ (i - k) (c - k) (o.drop k) rfl (by rw [List.length_drop, hol.out]) (SlB.drops hsl2 (by have := hol.out; omega)) (by omega) hB2.size (i + 1) (by omega) ?d8)
                  case d8 =>
                    intro g3 cp3 w3 hs3 hb3
                    have hB3 := hB2.trans hb3
                    have hs4 := hs3.mono hbW.size
                    go_wp2_with fail
                    exact ⟨⟨i + 1, g3, cp3, insL o k i, rfl, by go_num, by omega, (by first | exact hs4 | (rw [insL_eq]; exact hs4)), hri', hbW.trans (hB3.mono hbW.size)⟩, by first | (simp [intOf]; done) | (simp [intOf]; omega)⟩
          · have hd2 : ahead fs i (o.getD k 0) = false := by simpa using hd
            rw [hd2] at hcall
            have hlo' := Lib.hid (show ∀ t, t < k + 1 → ahead fs i (o.getD t 0) = false from fun t ht => by
              by_cases e : t = k
              · rw [e]; exact hd2
              · exact hlo.out t (by omega))
            clear hd hd2 hcl
            generalize hz : o.getD k 0 = z at *
            clear hz
            go_wp2
            go_quiet ((go_at_call 19; first | exact still hcall | exact still0 hcall))
            go_wp2
            exact ⟨⟨k + 1, nd + nq, by go_num, by omega, by first | rfl | exact World.drewN_drewN .., hlo'⟩, by first | (simp [intOf]; done) | (simp [intOf]; omega)⟩
        · obtain rfl : k = i := by omega
          have hkl : decide ((k : Int) < (k : Int)) = false := by simp
          have hri' := Lib.hid (rises_step hri.out hlt hk hlo.out (.inl rfl))
          clear hcl
          go_wp2
          go_quiet (fail)
          try rw [World.drewN_drewN]
          have hslW := hsl.drawn (nd + nq)
          have hbW := hb.trans (below_drawn _ _ (nd + nq))
          have hgW : g < (wr.drewN (nd + nq)).heap.size := s3
          clear hkl
          clear hsl hb s3 hlo
          generalize wr.drewN (nd + nq) = W at *
          by_cases hck : c = k
          · subst hck
            go_wp2_with (at_builtin; refine wpList_spread rfl _ _ rfl W.heap.size _ W.heap.size 0 0 [] rfl rfl (SlB.empty _ _ (Nat.le_refl _)) ⟨g, 0, none⟩ c c (o.take c) rfl (take_len (by have := hol.out; omega)) (SlB.takes (hslW.alloc _) (by have := hol.out; omega)) (by omega) (by go_size) c (Nat.zero_add _) ?a6)
            case a6 =>
              intro g1 cp1 w1 hs1 hb1
              try rw [List.nil_append] at hs1
              have hB1 : Below W.heap.size W w1 := ((Below.refl _ _).alloc (Nat.le_refl _) _).trans hb1
              go_wp2_with (at_builtin; refine wpList_put rfl _ _ rfl W.heap.size _ g1 c cp1 c (o.take c) _ rfl (take_len (by have := hol.out; omega)) hs1 rfl rfl (by omega) hB1.size (c + 1) rfl ?b5)
              case b5 =>
                intro g2 cp2 w2 hs2 hb2
                have hB2 : Below W.heap.size W w2 := hB1.trans hb2
                have hsl2 := hslW.kept hB2 hgW
                go_wp2_with (at_builtin; refine wpList_spread rfl _ _ rfl W.heap.size _ g2 (c + 1) cp2 (o.take c ++ [c]) rfl (take_len1 (by have := hol.out; omega)) hs2 ⟨g, 0, none⟩ 0 0 (o.drop c) rfl (by rw [List.length_drop, hol.out, Nat.sub_self]) (fun j hj => by omega) (by omega) hB2.size (c + 1) (by omega) ?d8)
                case d8 =>
                  intro g3 cp3 w3 hs3 hb3
                  have hB3 := hB2.trans hb3
                  have hs4 := hs3.mono hbW.size
                  go_wp2_with fail
                  exact ⟨⟨c + 1, g3, cp3, insL o c c, rfl, by go_num, by omega, (by first | exact hs4 | (rw [insL_eq]; exact hs4)), hri', hbW.trans (hB3.mono hbW.size)⟩, by first | (simp [intOf]; done) | (simp [intOf]; omega)⟩
          · go_wp2_with (at_builtin; refine wpList_spread rfl _ _ rfl W.heap.size _ W.heap.size 0 0 [] rfl rfl (SlB.empty _ _ (Nat.le_refl _)) ⟨g, 0, none⟩ k c (o.take k) rfl (take_len (by have := hol.out; omega)) (SlB.takes (hslW.alloc _) (by have := hol.out; omega)) (by omega) (by go_size) k (Nat.zero_add _) ?a6)
            case a6 =>
              intro g1 cp1 w1 hs1 hb1
              try rw [List.nil_append] at hs1
              have hB1 : Below W.heap.size W w1 := ((Below.refl _ _).alloc (Nat.le_refl _) _).trans hb1
              go_wp2_with (at_builtin; refine wpList_put rfl _ _ rfl W.heap.size _ g1 k cp1 k (o.take k) _ rfl (take_len (by have := hol.out; omega)) hs1 rfl rfl (by omega) hB1.size (k + 1) rfl ?b5)
              case b5 =>
                intro g2 cp2 w2 hs2 hb2
                have hB2 : Below W.heap.size W w2 := hB1.trans hb2
                have hsl2 := hslW.kept hB2 hgW
                go_wp2_with (at_builtin; refine wpList_spread rfl _ _ rfl W.heap.size _ g2 (k + 1) cp2 (o.take k ++ [k]) rfl (take_len1 (by have := hol.out; omega)) hs2 ⟨g, k, none⟩ 0 (c - k) (o.drop k) rfl (by rw [List.length_drop, hol.out, Nat.sub_self]) (fun j hj => by omega) (by omega) hB2.size (k + 1) (by omega) ?d8)
                case d8 =>
                  intro g3 cp3 w3 hs3 hb3
                  have hB3 := hB2.trans hb3
                  have hs4 := hs3.mono hbW.size
                  go_wp2_with fail
                  exact ⟨⟨k + 1, g3, cp3, insL o k k, rfl, by go_num, by omega, (by first | exact hs4 | (rw [insL_eq]; exact hs4)), hri', hbW.trans (hB3.mono hbW.size)⟩, by first | (simp [intOf]; done) | (simp [intOf]; omega)⟩
    · obtain rfl : i = fs.length := by omega
      have hio := Lib.hid (rises_end hri.out)
      go_wp2_with fail
      go_ret
      exact ⟨g, c, o, rfl, hio.out, hsl, hb⟩
end Go.Proofs.Ytpkokolhmcophaa.sl
