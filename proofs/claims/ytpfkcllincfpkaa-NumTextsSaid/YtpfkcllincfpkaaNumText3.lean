/- Texts of integers: num's Parse. -/
import Derived.Test.YtpfkcllincfpkaaNumText2
import Derived.PlainAid
import Derived.Lib.IndexBytes
import Derived.Lib.Strings
namespace Go.Proofs.Ytpfkcllincfpkaa.tx
open Go.RowKit Go.Proofs.Ytpfkcllincfpkaa.nm

theorem str_list (l : List UInt8) : (str l).data.toList = l := rfl
theorem str_size (l : List UInt8) : (str l).size = l.length := rfl
theorem str_get (l : List UInt8) (k : Nat) (h : k < l.length) : PlainAid.bt (str l) k = (l[k].toNat : Nat) := by
  unfold PlainAid.bt; rw [dif_pos (show k < (str l).size from h)]; rfl
theorem bytes_str {s : ByteArray} {l : List UInt8} (h : s.data.toList = l) : s = str l := WideShapes.bytes_inj h
theorem ret_str {s t : ByteArray} (h : s = t) : Ending.returned (.string s) = .returned (.string t) := by rw [h]

theorem trim_yes (t : List UInt8) (ht : t.length ≤ 100000) (w : World) :
    Calls Try.prog 60 #[.string (str (45 :: t)), .string { data := #[45] }] w fun e w' => e = .returned (.string (str t)) ∧ w = w' := by
  have h1 : (str (45 :: t)).size = t.length + 1 := rfl
  have h2 := Lib.hid (show (str (45 :: t)).extract 1 (str (45 :: t)).size = str t from bytes_str (by rw [Lib.extract_to_end, str_list]; rfl))
  have h3 : (((str (45 :: t)).extract 0 1).toList == [45]) = true := by rw [ByteArray.toList_eq, Lib.extract_data, str_list]; rfl
  generalize str (45 :: t) = s at *
  have hb : 1 ≤ s.size ∧ s.size ≤ 200000 := by omega
  clear h1
  go_enter Try.func60, Try.ntmps60
  go_wp2
  go_ret
  exact ⟨ret_str h2.out, rfl⟩
theorem trim_no (l : List UInt8) (hl : l.length ≤ 100000) (h : ∀ t, l ≠ 45 :: t) (w : World) :
    Calls Try.prog 60 #[.string (str l), .string { data := #[45] }] w fun e w' => e = .returned (.string (str l)) ∧ w = w' := by
  cases l with
  | nil =>
    have h1 : (str []).size = 0 := rfl
    generalize str [] = s at *
    go_enter Try.func60, Try.ntmps60
    go_wp2
    go_ret
    exact ⟨rfl, rfl⟩
  | cons c t =>
    have hc : c ≠ 45 := fun e => h t (by rw [e])
    have h1 : (str (c :: t)).size = t.length + 1 := rfl
    have h3 : (((str (c :: t)).extract 0 1).toList == [45]) = false := by
      rw [ByteArray.toList_eq, Lib.extract_data, str_list]
      show ([c] == [45]) = false
      simp [hc]
    generalize str (c :: t) = s at *
    have hb : 1 ≤ s.size ∧ s.size ≤ 200000 := by simp at hl; omega
    clear h1 h
    go_enter Try.func60, Try.ntmps60
    go_wp2
    go_ret
    exact ⟨rfl, rfl⟩

/-- what reckon answers of a text -/
def Reck (l : List UInt8) (w w' : World) (e : Ending) : Prop :=
  ∃ (n : Int) (ok : Bool), e = .returned (.tuple #[.int .i64 n, .bool ok]) ∧ Fit n ∧ (∀ a, Fit a → text a = l → ok = true ∧ n = a) ∧ w = w'

theorem reckon_core (l t : List UInt8) (neg : Bool) (_hl : l.length ≤ 100000) (ht : t.length ≤ 100000) (hn : neg = decide (t.length < l.length))
    (hT : ∀ a, Fit a → text a = l → dec a.natAbs = t ∧ (a < 0 ↔ neg = true)) (w : World)
    (htr : ∀ w, Calls Try.prog 60 #[.string (str l), .string { data := #[45] }] w fun e w' => e = .returned (.string (str t)) ∧ w = w') :
    Calls Try.prog 55 #[.string (str l)] w fun e w' => Reck l w w' e := by
  have HT := Lib.hid hT
  have HN := Lib.hid hn
  clear hT hn
  have s1 : (str l).size = l.length := rfl
  have s2 : (str t).size = t.length := rfl
  have hgt := PlainAid.get_bt (str t)
  have hbt := fun k h => str_get t k h
  generalize str l = sl at *
  generalize str t = st at *
  go_enter Try.func55, Try.ntmps55
  go_wp2_with fail
  refine (htr _).mono ?_; rintro e w' ⟨rfl, rfl⟩
  clear htr
  go_wp2_with fail
  go_loop [5, 15] (fun n i => ∃ k V : Nat, i = .int .i64 k ∧ n = .int .i64 (-(V : Int)) ∧ k ≤ t.length ∧ V ≤ 9223372036854775808 ∧ Hid (valF (t.take k) 0 = V) ∧ Hid (Digs (t.take k))) (fun _ i => t.length - (intOf i).toNat)
  case atStart => exact ⟨0, 0, rfl, rfl, by omega, by omega, Lib.hid rfl, Lib.hid (fun c hc => nomatch hc)⟩
  case round =>
    obtain ⟨k, V, rfl, rfl, hk, hV, hv, hd⟩ := hrel
    by_cases hkt : k < t.length
    · have hc := hbt k hkt
      have hs := Lib.hid (show t.take (k + 1) = t.take k ++ [t[k]] from List.take_succ_eq_append_getElem hkt)
      have hmem := Lib.hid (List.getElem_mem hkt)
      have hc2 := t[k].toNat_lt
      have hsp : Hid (t = t.take (k + 1) ++ t.drop (k + 1)) := Lib.hid (List.take_append_drop ..).symm
      generalize t[k] = ck at *
      generalize hcn : ck.toNat = c at *
      have Hcn := Lib.hid hcn
      clear hcn hbt
      have hbad : Hid (¬ (48 ≤ c ∧ c ≤ 57) → ∀ a, Fit a → text a = l → False) := Lib.hid fun hn a ha hta => by
        have h1 := digs_dec a.natAbs ck (by rw [(HT.out a ha hta).1]; exact hmem.out)
        rw [Hcn.out] at h1; exact hn h1
      by_cases h1 : c < 48
      · go_wp2
        go_ret2
        exact ⟨0, false, rfl, by unfold Fit; omega, fun a ha hta => (hbad.out (by omega) a ha hta).elim, rfl⟩
      · by_cases h2 : 57 < c
        · go_wp2
          go_ret2
          exact ⟨0, false, rfl, by unfold Fit; omega, fun a ha hta => (hbad.out (by omega) a ha hta).elim, rfl⟩
        · have hv' := Lib.hid (show valF (t.take (k + 1)) 0 = 10 * V + (c - 48) by rw [hs.out, valF_append, hv.out, valF_cons, valF_nil, Hcn.out])
          have hd' := Lib.hid (show Digs (t.take (k + 1)) by
            rw [hs.out]; intro x hx
            rcases List.mem_append.1 hx with hx | hx
            · exact hd.out x hx
            · rw [List.mem_singleton.1 hx, Hcn.out]; omega)
          have hbig : Hid (9223372036854775808 < 10 * V + (c - 48) → ∀ a, Fit a → text a = l → False) := Lib.hid fun hn a ha hta => by
            have h3 := val_dec a.natAbs
            rw [(HT.out a ha hta).1, hsp.out, valF_append, hv'.out] at h3
            have h4 := valF_mono (t.drop (k + 1)) (10 * V + (c - 48))
            unfold Fit at ha; omega
          clear hv hd hs hbad
          by_cases f1 : 10 * V ≤ 9223372036854775808
          · have m1 : Fit (-(V : Int) * 10) := by unfold Fit; omega
            have k1 := mul_c (-(V : Int)) 10 (by unfold Fit; omega) (by unfold Fit; omega)
            rw [val_of m1, err_of m1] at k1
            by_cases f2 : 10 * V + (c - 48) ≤ 9223372036854775808
            · have m2 : Fit (-(V : Int) * 10 - ((c : Int) - 48)) := by unfold Fit; omega
              have k2 := sub_c (-(V : Int) * 10) ((c : Int) - 48) m1 (by unfold Fit; omega)
              rw [val_of m2, err_of m2] at k2
              clear m1 m2
              go_wp2_with (first | (go_at_call 16; refine (k1 _).mono ?_; rintro e w' ⟨rfl, rfl⟩) | (go_at_call 15; refine (k2 _).mono ?_; rintro e w' ⟨rfl, rfl⟩))
              exact ⟨⟨k + 1, 10 * V + (c - 48), by go_num, by go_num, by omega, f2, hv', hd'⟩, by simp [intOf]; omega⟩
            · have m2 : ¬ Fit (-(V : Int) * 10 - ((c : Int) - 48)) := by unfold Fit; omega
              have k2 := sub_c (-(V : Int) * 10) ((c : Int) - 48) m1 (by unfold Fit; omega)
              rw [val_no m2, err_no m2] at k2
              clear m1 m2
              go_wp2_with (first | (go_at_call 16; refine (k1 _).mono ?_; rintro e w' ⟨rfl, rfl⟩) | (go_at_call 15; refine (k2 _).mono ?_; rintro e w' ⟨rfl, rfl⟩))
              go_ret2
              exact ⟨0, false, rfl, by unfold Fit; omega, fun a ha hta => (hbig.out (by omega) a ha hta).elim, rfl⟩
          · have m1 : ¬ Fit (-(V : Int) * 10) := by unfold Fit; omega
            have k1 := mul_c (-(V : Int)) 10 (by unfold Fit; omega) (by unfold Fit; omega)
            rw [val_no m1, err_no m1] at k1
            clear m1
            go_wp2_with (go_at_call 16; refine (k1 _).mono ?_; rintro e w' ⟨rfl, rfl⟩)
            go_ret2
            exact ⟨0, false, rfl, by unfold Fit; omega, fun a ha hta => (hbig.out (by omega) a ha hta).elim, rfl⟩
    · obtain rfl : k = t.length := by omega
      have hv2 := Lib.hid (show valF t 0 = V by have := hv.out; rwa [List.take_length] at this)
      have hval : Hid (∀ a, Fit a → text a = l → a.natAbs = V) := Lib.hid fun a ha hta => by
        have := val_dec a.natAbs; rw [(HT.out a ha hta).1, hv2.out] at this; exact this.symm
      clear hv hd hbt hgt
      by_cases hlt : t.length < l.length
      · have hn : neg = true := by rw [HN.out]; simp [hlt]
        have Hn := Lib.hid hn
        clear hn
        go_wp2
        go_ret2
        exact ⟨-(V : Int), true, rfl, by unfold Fit; omega, fun a ha hta => ⟨rfl, by
          have h1 := ((HT.out a ha hta).2).2 Hn.out
          have h2 := hval.out a ha hta
          omega⟩, rfl⟩
      · have hn : neg = false := by rw [HN.out]; simp [hlt]
        have Hn := Lib.hid hn
        clear hn
        have hneg : Hid (∀ a, Fit a → text a = l → a = (V : Int)) := Lib.hid fun a ha hta => by
          have h1 := (HT.out a ha hta).2
          rw [Hn.out] at h1
          have h2 := hval.out a ha hta
          have h3 : ¬ a < 0 := fun c => by simpa using h1.1 c
          omega
        have k1 := neg_c (-(V : Int)) (by unfold Fit; omega)
        rw [Int.neg_neg] at k1
        by_cases hf : Fit (V : Int)
        · rw [val_of hf, err_of hf] at k1
          have Hf := Lib.hid hf
          clear hf
          go_wp2_with (go_at_call 24; refine (k1 _).mono ?_; rintro e w' ⟨rfl, rfl⟩)
          go_ret2
          exact ⟨V, true, rfl, Hf.out, fun a ha hta => ⟨rfl, (hneg.out a ha hta).symm⟩, rfl⟩
        · rw [val_no hf, err_no hf] at k1
          have Hf := Lib.hid hf
          clear hf
          go_wp2_with (go_at_call 24; refine (k1 _).mono ?_; rintro e w' ⟨rfl, rfl⟩)
          go_ret2
          exact ⟨0, false, rfl, by unfold Fit; omega, fun a ha hta => by
            have := hneg.out a ha hta; rw [this] at ha; exact (Hf.out ha).elim, rfl⟩

theorem reckon_c (l : List UInt8) (hl : l.length ≤ 4096) (w : World) :
    Calls Try.prog 55 #[.string (str l)] w fun e w' => Reck l w w' e := by
  by_cases h : ∃ t, l = 45 :: t
  · obtain ⟨t, rfl⟩ := h
    simp at hl
    refine reckon_core (45 :: t) t true (by simp; omega) (by omega) (by simp) (fun a _ hta => ?_) w (trim_yes t (by omega))
    by_cases ha : a < 0
    · rw [text_neg ha] at hta; exact ⟨(List.cons.inj hta).2, by simp [ha]⟩
    · rw [text_pos ha] at hta; exact absurd rfl (dec_head hta)
  · refine reckon_core l l false (by omega) (by omega) (by simp) (fun a _ hta => ?_) w (trim_no l (by omega) fun t ht => h ⟨t, ht⟩)
    by_cases ha : a < 0
    · rw [text_neg ha] at hta; exact absurd ⟨_, hta.symm⟩ h
    · rw [text_pos ha] at hta; exact ⟨hta, by simp [ha]⟩

/-- num's Parse -/
theorem parse_c (l : List UInt8) (hl : l.length ≤ 4096) (w : World) :
    Calls Try.prog 40 #[.string (str l)] w fun e w' => e = .returned (.tuple #[.int .i64 (parseV l), .int .i64 (parseE l)]) ∧ Below w.heap.size w w' := by
  have rc := reckon_c l hl
  have hid := Lib.hid hl
  generalize hsl : str l = sl at *
  have Hsl := Lib.hid hsl
  clear hsl hl
  go_enter Try.func40, Try.ntmps40
  go_wp2_with fail
  refine (rc _).mono ?_; rintro e w' ⟨n, ok, rfl, hf, ha, rfl⟩
  have Ha := Lib.hid ha
  clear ha
  cases ok
  · have hp := Lib.hid (parse_no (s := l) fun a h1 h2 => by simpa using (Ha.out a h1 h2).1)
    go_wp2
    go_ret2
    exact ⟨ret2 hp.out.1.symm hp.out.2.symm, Below.refl _ _⟩
  · have pc := print_c n hf
    by_cases he : text n = l
    · have hp := Lib.hid (parse_yes hf he)
      have t1 : ((str (text n)).toList == sl.toList) = true := by rw [he, Hsl.out]; simp
      go_wp2_with fail
      refine (pc _).mono ?_; rintro e w1 ⟨rfl, b1⟩
      generalize str (text n) = st at *
      go_wp2_with fail
      go_ret2
      exact ⟨ret2 hp.out.1.symm hp.out.2.symm, b1⟩
    · have hp := Lib.hid (parse_no (s := l) fun a h1 h2 => he (by rw [(Ha.out a h1 h2).2]; exact h2))
      have t1 : ((str (text n)).toList == sl.toList) = false := by
        rw [← Hsl.out, ByteArray.toList_eq, ByteArray.toList_eq, str_list, str_list]; simpa using he
      go_wp2_with fail
      refine (pc _).mono ?_; rintro e w1 ⟨rfl, b1⟩
      generalize str (text n) = st at *
      go_wp2_with fail
      go_ret2
      exact ⟨ret2 hp.out.1.symm hp.out.2.symm, b1⟩

def two64 : Nat := 18446744073709551616
/-- the digits alone, round 2^64 -/
def valM (l : List UInt8) : Nat := l.foldl (fun n c => if 48 ≤ c.toNat ∧ c.toNat ≤ 57 then (10 * n + (c.toNat - 48)) % two64 else n) 0
theorem valM_snoc (l : List UInt8) (c : UInt8) : valM (l ++ [c]) = if 48 ≤ c.toNat ∧ c.toNat ≤ 57 then (10 * valM l + (c.toNat - 48)) % two64 else valM l := by
  unfold valM; rw [List.foldl_append]; rfl

theorem wrap_step {m c : Nat} (h : 48 ≤ c) : Value.int .u64 (IntKind.u64.wrap (IntKind.u64.wrap ((m : Int) * 10) + ((c : Int) - 48))) = .int .u64 (((10 * m + (c - 48)) % two64 : Nat) : Int) := by
  rw [IntKind.wrap_u64, IntKind.wrap_u64]; unfold two64; congr 1; omega
theorem valM_digs (l : List UInt8) : ∀ n, Digs l → valF l n < two64 → l.foldl (fun n c => if 48 ≤ c.toNat ∧ c.toNat ≤ 57 then (10 * n + (c.toNat - 48)) % two64 else n) n = valF l n := by
  induction l with
  | nil => intro n _ _; rw [List.foldl_nil, valF_nil]
  | cons c l ih =>
    intro n hd hv
    have h1 := hd c (List.mem_cons_self ..)
    rw [valF_cons] at hv ⊢
    have h2 := valF_mono l (10 * n + (c.toNat - 48))
    rw [List.foldl_cons, if_pos h1, Nat.mod_eq_of_lt (by omega)]
    exact ih _ (fun x hx => hd x (List.mem_cons_of_mem _ hx)) hv
theorem valM_dec {n : Nat} (h : n < two64) : valM (dec n) = n := by
  unfold valM; rw [valM_digs _ _ (digs_dec n) (by rw [val_dec]; exact h), val_dec]
theorem valM_neg (t : List UInt8) : valM (45 :: t) = valM t := by unfold valM; rw [List.foldl_cons]; rfl
theorem parse_m1 {l : List UInt8} {m : Nat} (hv : valM l = m) {r : List UInt8} (hl : l = 45 :: r) : ∀ a, Fit a → text a = l → wrap64 (-wrap64 (m : Int)) = a := by
  intro a ha hta
  by_cases h0 : a < 0
  · rw [text_neg h0] at hta
    have : m = a.natAbs := by rw [← hv, ← hta, valM_neg, valM_dec (by unfold two64; unfold Fit at ha; omega)]
    subst this
    unfold Fit at ha; unfold wrap64; omega
  · rw [text_pos h0, hl] at hta; exact absurd rfl (dec_head hta)
theorem parse_m0 {l : List UInt8} {m : Nat} (hv : valM l = m) {c : UInt8} {r : List UInt8} (hl : l = c :: r) (hc : c ≠ 45) : ∀ a, Fit a → text a = l → wrap64 (m : Int) = a := by
  intro a ha hta
  by_cases h0 : a < 0
  · rw [text_neg h0, hl] at hta; exact absurd (List.cons.inj hta).1.symm hc
  · rw [text_pos h0] at hta
    have : m = a.natAbs := by rw [← hv, ← hta, valM_dec (by unfold two64; unfold Fit at ha; omega)]
    subst this
    unfold Fit at ha; unfold wrap64; omega

set_option maxRecDepth 100000 in
/-- the reference's Parse -/
theorem parse_r (l : List UInt8) (hl : l.length ≤ 4096) (w : World) :
    Calls Try.prog 41 #[.string (str l)] w fun e w' => e = .returned (.tuple #[.int .i64 (parseV l), .int .i64 (parseE l)]) ∧ w = w' := by
  have s1 : (str l).size = l.length := rfl
  by_cases h1 : l.length < 1
  · have hp := Lib.hid (parse_no (s := l) fun a ha h => by have := text_len ha; rw [h] at this; omega)
    generalize str l = sl at *
    go_enter Try.func41, Try.ntmps41
    go_wp2
    go_ret2
    exact ⟨ret2 hp.out.1.symm hp.out.2.symm, rfl⟩
  · by_cases h2 : 20 < l.length
    · have hp := Lib.hid (parse_no (s := l) fun a ha h => by have := text_len ha; rw [h] at this; omega)
      generalize str l = sl at *
      go_enter Try.func41, Try.ntmps41
      go_wp2
      go_ret2
      exact ⟨ret2 hp.out.1.symm hp.out.2.symm, rfl⟩
    · have hgt := PlainAid.get_bt (str l)
      have hbt := fun k h => str_get l k h
      generalize hsl : str l = sl at *
      have Hsl := Lib.hid hsl
      clear hsl
      go_enter Try.func41, Try.ntmps41
      go_wp2
      go_loop [4, 5] (fun n i => ∃ k m : Nat, i = .int .i64 k ∧ n = .int .u64 m ∧ k ≤ l.length ∧ m < two64 ∧ Hid (valM (l.take k) = m)) (fun _ i => l.length - (intOf i).toNat)
      case atStart => exact ⟨0, 0, rfl, rfl, by omega, by unfold two64; omega, Lib.hid rfl⟩
      case round =>
        obtain ⟨k, m, rfl, rfl, hk, hm, hv⟩ := hrel
        by_cases hkl : k < l.length
        · have hc := hbt k hkl
          have hs := Lib.hid (show l.take (k + 1) = l.take k ++ [l[k]] from List.take_succ_eq_append_getElem hkl)
          have hc2 := l[k].toNat_lt
          generalize l[k] = ck at *
          generalize hcn : ck.toNat = c at *
          have Hcn := Lib.hid hcn
          clear hcn hbt
          by_cases h1 : 48 ≤ c
          · by_cases h2 : c ≤ 57
            · have hv' := Lib.hid (show valM (l.take (k + 1)) = (10 * m + (c - 48)) % two64 by rw [hs.out, valM_snoc, hv.out, Hcn.out, if_pos ⟨h1, h2⟩])
              go_wp2
              exact ⟨⟨k + 1, (10 * m + (c - 48)) % two64, by go_num, wrap_step h1, by omega, Nat.mod_lt _ (by unfold two64; omega), hv'⟩, by simp [intOf]; omega⟩
            · have hv' := Lib.hid (show valM (l.take (k + 1)) = m by rw [hs.out, valM_snoc, hv.out, Hcn.out, if_neg (by omega)])
              go_wp2
              exact ⟨⟨k + 1, m, by go_num, rfl, by omega, hm, hv'⟩, by simp [intOf]; omega⟩
          · have hv' := Lib.hid (show valM (l.take (k + 1)) = m by rw [hs.out, valM_snoc, hv.out, Hcn.out, if_neg (by omega)])
            go_wp2
            exact ⟨⟨k + 1, m, by go_num, rfl, by omega, hm, hv'⟩, by simp [intOf]; omega⟩
        · obtain rfl : k = l.length := by omega
          have hv2 := Lib.hid (show valM l = m by have := hv.out; rwa [List.take_length] at this)
          have hc := hbt 0 (by omega)
          have l0 := Lib.hid (show l = l[0] :: l.drop 1 by rw [List.getElem_cons_drop]; rfl)
          have hc2 := l[0].toNat_lt
          by_cases h45 : l[0] = 45
          · rw [h45] at hc l0
            have hc' : PlainAid.bt sl 0 = 45 := hc
            have hA := Lib.hid (parse_m1 hv2.out l0.out)
            have hpr := print_r (wrap64 (-wrap64 (m : Int))) (wrap_is_fit _) 
            by_cases he : text (wrap64 (-wrap64 (m : Int))) = l
            · have hp := Lib.hid (parse_yes (wrap_is_fit _) he)
              have t1 : ((str (text (wrap64 (-wrap64 (m : Int))))).toList == sl.toList) = true := by rw [he, Hsl.out]; simp
              generalize str (text (wrap64 (-wrap64 (m : Int)))) = st at *
              clear he hv
              go_wp2_with (go_at_call 42; refine (hpr _).mono ?_; rintro e w' ⟨rfl, rfl⟩)
              go_ret2
              exact ⟨ret2 hp.out.1.symm hp.out.2.symm, rfl⟩
            · have hp := Lib.hid (parse_no (s := l) fun a h1 h2 => he (by rw [hA.out a h1 h2]; exact h2))
              have t1 : ((str (text (wrap64 (-wrap64 (m : Int))))).toList == sl.toList) = false := by
                rw [← Hsl.out, ByteArray.toList_eq, ByteArray.toList_eq, str_list, str_list]; simpa using he
              generalize str (text (wrap64 (-wrap64 (m : Int)))) = st at *
              clear he hv
              go_wp2_with (go_at_call 42; refine (hpr _).mono ?_; rintro e w' ⟨rfl, rfl⟩)
              go_ret2
              exact ⟨ret2 hp.out.1.symm hp.out.2.symm, rfl⟩
          · have hne : l[0].toNat ≠ 45 := fun h => h45 (UInt8.toNat_inj.1 h)
            generalize hcn : l[0].toNat = c at *
            have t45 : ((c : Int) == 45) = false := by simp; omega
            have hA := Lib.hid (parse_m0 hv2.out l0.out h45)
            have hpr := print_r (wrap64 (m : Int)) (wrap_is_fit _) 
            by_cases he : text (wrap64 (m : Int)) = l
            · have hp := Lib.hid (parse_yes (wrap_is_fit _) he)
              have t1 : ((str (text (wrap64 (m : Int)))).toList == sl.toList) = true := by rw [he, Hsl.out]; simp
              generalize str (text (wrap64 (m : Int))) = st at *
              clear he hv
              go_wp2_with (go_at_call 42; refine (hpr _).mono ?_; rintro e w' ⟨rfl, rfl⟩)
              go_ret2
              exact ⟨ret2 hp.out.1.symm hp.out.2.symm, rfl⟩
            · have hp := Lib.hid (parse_no (s := l) fun a h1 h2 => he (by rw [hA.out a h1 h2]; exact h2))
              have t1 : ((str (text (wrap64 (m : Int)))).toList == sl.toList) = false := by
                rw [← Hsl.out, ByteArray.toList_eq, ByteArray.toList_eq, str_list, str_list]; simpa using he
              generalize str (text (wrap64 (m : Int))) = st at *
              clear he hv
              go_wp2_with (go_at_call 42; refine (hpr _).mono ?_; rintro e w' ⟨rfl, rfl⟩)
              go_ret2
              exact ⟨ret2 hp.out.1.symm hp.out.2.symm, rfl⟩

theorem numTexts_walk (a0 : Int) (a1 : ByteArray) (w : World) (w0 : (Lit.int .i64 a0).wf = true) (w1 : a1.size ≤ maxLen) :
    Calls Try.prog 10 #[.int .i64 a0, .string a1] w fun e w' => e = .returned (.bool true) ∧ Below w.heap.size w w' := by
  have ha := fit_wf w0
  unfold maxLen at w1
  by_cases h : 4096 < a1.size
  · go_enter Try.func10, Try.ntmps10
    go_wp2
    go_ret
    exact ⟨rfl, Below.refl _ _⟩
  · obtain ⟨l, rfl⟩ : ∃ l, a1 = str l := ⟨a1.data.toList, bytes_str rfl⟩
    have hl : l.length ≤ 4096 := by have : (str l).size = l.length := rfl; omega
    have hs : (str l).size ≤ 4096 := by omega
    have k1 := print_c a0 ha
    have k2 := parse_c (text a0) (by have := text_len ha; omega)
    have k3 := parse_c l hl
    have k4 := parse_r l hl
    have k5 := print_r a0 ha
    have hp := parse_yes ha (rfl : text a0 = text a0)
    rw [hp.1, hp.2] at k2
    clear hp ha w0 w1 h hl
    generalize str (text a0) = st at *
    generalize str l = sl at *
    generalize parseV l = x1 at *
    generalize parseE l = x2 at *
    have t1 : (st.toList == st.toList) = true := by simp
    go_enter Try.func10, Try.ntmps10
    go_wp2_with fail
    refine (k1 _).mono ?_; rintro e w1 ⟨rfl, b1⟩; go_wp2_with fail
    refine (k2 _).mono ?_; rintro e w2 ⟨rfl, b2⟩; go_wp2_with fail
    refine (k3 _).mono ?_; rintro e w3 ⟨rfl, b3⟩; go_wp2_with fail
    refine (k4 _).mono ?_; rintro e w' ⟨rfl, rfl⟩; go_wp2_with fail
    refine (k5 _).mono ?_; rintro e w' ⟨rfl, rfl⟩; go_wp2_with fail
    go_ret
    exact ⟨rfl, (b1.trans (b2.mono b1.size)).trans (b3.mono (Nat.le_trans b1.size b2.size))⟩
end Go.Proofs.Ytpfkcllincfpkaa.tx
