/- The reference: Tokens. -/
import Derived.Test.YtjccohcigopdfaaQ13
set_option linter.unusedVariables false
set_option linter.unusedSimpArgs false
section
/- The reference: Tokens. -/
namespace Go.Proofs.Ytjccohcigopdfaa.lx
open Go.RowKit

theorem cls6 {c : Nat} (hc : c ≤ 255) (h : cls c = 6) : c = 39 := by
  have := all_bytes (P := fun c => (cls c != 6) || c == 39) (by decide +kernel) hc
  rw [h] at this; simpa using this
theorem cls7 {c : Nat} (hc : c ≤ 255) (h : cls c = 7) : c = 33 ∨ c = 59 := by
  have := all_bytes (P := fun c => (cls c != 7) || c == 33 || c == 59) (by decide +kernel) hc
  rw [h] at this; simpa using this
theorem cls_le (c : Nat) : cls c ≤ 8 := by
  unfold cls
  repeat' split
  all_goals omega
theorem opens_get {ts : List Tok} (h0 : 0 < ts.length) (n : Nat) : opens ts n = (ts[ts.length - 1].kind == 1 && ts[ts.length - 1].to == n) := by
  unfold opens
  rw [List.getLast?_eq_getElem?, List.getElem?_eq_getElem (by omega)]
theorem endsB_cases {s : ByteArray} {f : Nat} (h : bA s f = 46) : endsB s f = (f + 1 == s.size || bA s (f + 1) == 37 || cl (bA s (f + 1)) == 1) := by
  unfold endsB; rw [h]; rfl

set_option maxRecDepth 100000 in
set_option maxHeartbeats 40000000 in
theorem rtoks_c (s : ByteArray) (w : World) (hs : s.size ≤ 4096) :
    Calls Try.prog 46 #[.string s] w (ToksP (toks s.data.toList) w) := by
  have hgt := get_bA s
  have hE := Lib.hid (Tk.empty w.heap.size w (Nat.le_refl _))
  go_enter Try.func46, Try.ntmps46
  go_wp2
  go_loopg [5, 6] s.size (fun k v i wr => ∃ (m : Nat) (ts : List Tok) (av : Option Addr) (cap : Nat), k = s.size - m ∧ m ≤ s.size ∧ ts.length ≤ 1000 ∧ v = .slice av ts.length cap ∧ i = .int .i64 m ∧ Hid (toks s.data.toList = ans 1000 (s.data.toList.drop m) ts m .btw) ∧ Hid (Tk w.heap.size wr (.slice av ts.length cap) ts) ∧ Hid (Below w.heap.size w wr))
  case atStart => exact ⟨0, [], some ⟨w.heap.size, 0, none⟩, 0, by omega, by omega, by simp, rfl, rfl, Lib.hid rfl, hE, Lib.hid ((Below.refl _ w).alloc (Nat.le_refl _) _)⟩
  case round =>
    clear hE
    obtain ⟨m, ts, av, cap, hgk, hm, hts, rfl, rfl, hj, hT, hb⟩ := hrel
    by_cases hlt : m < s.size
    · have hlt2 : (m : Int) < s.size := by omega
      go_wp2_with fail
      refine (between_c s m hm hs _).mono ?_
      rintro e w' ⟨rfl, ⟨f, rfl, hmf, hfs, hst, hsame⟩ | ⟨f, rfl, hbad⟩⟩
      · have Hst := Lib.hid hst
        have hj2 := Lib.hid (hj.out.trans (hsame 1000 ts))
        clear hst hsame hj
        by_cases hfe : f < s.size
        · have hfe2 : (f : Int) < s.size := by omega
          have hfe3 : ((f : Int) == (s.size : Int)) = false := by simp; omega
          by_cases hcl : cls (bA s f).toNat = 2
          · have k2 := small_c (bA s f).toNat (bA_le s _)
            rw [show (cls (bA s f).toNat == 2) = true from by rw [hcl]; rfl] at k2
            obtain ⟨a39, b39⟩ := ieq_no (a := (bA s f).toNat) 39 (by intro e; rw [show (bA s f).toNat = 39 by omega] at hcl; exact absurd hcl (by decide))
            obtain ⟨a46, b46⟩ := ieq_no (a := (bA s f).toNat) 46 (by intro e; rw [show (bA s f).toNat = 46 by omega] at hcl; exact absurd hcl (by decide))
            have h0 := Lib.hid (show cl (bA s f) ≠ 0 by unfold cl; omega)
            have kr := run1_c s f hfe hs (by unfold cl; rw [hcl]; rfl)
            have hq := Lib.hid (fun hM => next_word 1000 ts hfe Hst.out h0.out (by unfold cl; omega) hM)
            rw [show cl (bA s f) = 2 from hcl] at hq
            rw [show kindS s f ts 2 = 1 from rfl] at hq
            obtain ⟨hx, hx2⟩ := tok_text 2 hfe
            clear hcl
            generalize hW : wordL s f 2 = W at *
            generalize hm2 : f + 1 + W.length = m2 at *
            have Hm2 := Lib.hid hm2
            clear hW hm2
            have hfm : f < m2 := by have := Hm2.out; omega
            have hfm1 : (f : Int) ≤ m2 := by omega
            have hfm2 : (m2 : Int) ≤ s.size := by omega
            have hT2 := Lib.hid (fun o => World.ownsRow.alloc hT.out o)
            have hsz := Lib.hid hb.out.size
            have hne := Lib.hid (show some wr.heap.size ≠ (Value.slice av ts.length cap).ownBlock from fun e => by have := ((World.ownsRow.lt hT.out) _ e.symm).2; omega)
            go_wp2_with (first | (go_at_call 62; (with_reducible refine (k2 _).mono ?_); rintro e w' ⟨rfl, rfl⟩) | (go_at_call 63; refine (kr _).mono ?_; rintro e w' ⟨rfl, rfl⟩) | (at_builtin; refine wpList_pushTok rfl _ _ rfl w.heap.size (wr.alloc (.cells #[.int .i64 1, .string ⟨(bA s f :: W).toArray⟩, .int .i64 f, .int .i64 ((m2 : Nat) : Int)] 73)) av cap ts ⟨1, bA s f :: W, f, m2⟩ #[.int .i64 1, .string ⟨(bA s f :: W).toArray⟩, .int .i64 f, .int .i64 ((m2 : Nat) : Int)] rfl rfl (hT2.out _) (wr.heap.size + 1) (by show _ = (wr.heap.push _).size; simp) rfl hts (by have := hsz.out; show _ ≤ (wr.heap.push _).size; simp; omega) ?_; intro av' cap' w3 hT3 hg3 hb3; have c3 := hg3.cell (a := ⟨wr.heap.size, 3, none⟩) (v := .int .i64 ((m2 : Nat) : Int)) (by rw [cell_at (heap_alloc_new wr _)]; rfl) hne.out; have HT3 := Lib.hid hT3; have HB3 := Lib.hid ((hb.out.alloc hsz.out _).trans hb3); clear hT3 hg3 hb3))
            · go_ret3
              have hM : ts.length = 1000 := nat_beq (k := 1000) (by assumption)
              exact ⟨_, f, 34, rfl, by rw [hj2.out, next_many 1000 ts hfe Hst.out h0.out hM]; exact ⟨rfl, rfl, rfl⟩, hb.out.alloc hsz.out _⟩
            · have hM : ts.length ≠ 1000 := fun e => by
                have h : ((ts.length : Int) == 1000) = false := by assumption
                rw [e] at h; exact absurd h (by decide)
              have Hq := Lib.hid (hj2.out.trans (hq.out hM))
              have hts9 : ts.length + 1 ≤ 1000 := by omega
              clear hM
              go_roundg (s.size - m2)
              case measure => omega
              case rel => exact ⟨m2, ts ++ [⟨1, bA s f :: W, f, m2⟩], av', cap', rfl, by omega, by simp; omega, by simp, by go_num, Hq, Lib.hid (by rw [List.length_append]; exact HT3.out), HB3⟩
          by_cases hcl : cls (bA s f).toNat = 3
          · have k2 := small_c (bA s f).toNat (bA_le s _)
            rw [show (cls (bA s f).toNat == 2) = false from by rw [hcl]; rfl] at k2
            have k3 := great_c (bA s f).toNat (bA_le s _)
            rw [show (cls (bA s f).toNat == 3) = true from by rw [hcl]; rfl] at k3
            obtain ⟨a39, b39⟩ := ieq_no (a := (bA s f).toNat) 39 (by intro e; rw [show (bA s f).toNat = 39 by omega] at hcl; exact absurd hcl (by decide))
            obtain ⟨a46, b46⟩ := ieq_no (a := (bA s f).toNat) 46 (by intro e; rw [show (bA s f).toNat = 46 by omega] at hcl; exact absurd hcl (by decide))
            have h0 := Lib.hid (show cl (bA s f) ≠ 0 by unfold cl; omega)
            have kr := run1_c s f hfe hs (by unfold cl; rw [hcl]; rfl)
            have hq := Lib.hid (fun hM => next_word 1000 ts hfe Hst.out h0.out (by unfold cl; omega) hM)
            rw [show cl (bA s f) = 3 from hcl] at hq
            rw [show wordL s f 3 = wordL s f 2 from rfl] at hq
            rw [show kindS s f ts 3 = 2 from rfl] at hq
            obtain ⟨hx, hx2⟩ := tok_text 2 hfe
            clear hcl
            generalize hW : wordL s f 2 = W at *
            generalize hm2 : f + 1 + W.length = m2 at *
            have Hm2 := Lib.hid hm2
            clear hW hm2
            have hfm : f < m2 := by have := Hm2.out; omega
            have hfm1 : (f : Int) ≤ m2 := by omega
            have hfm2 : (m2 : Int) ≤ s.size := by omega
            have hT2 := Lib.hid (fun o => World.ownsRow.alloc hT.out o)
            have hsz := Lib.hid hb.out.size
            have hne := Lib.hid (show some wr.heap.size ≠ (Value.slice av ts.length cap).ownBlock from fun e => by have := ((World.ownsRow.lt hT.out) _ e.symm).2; omega)
            go_wp2_with (first | (go_at_call 62; (with_reducible refine (k2 _).mono ?_); rintro e w' ⟨rfl, rfl⟩) | (go_at_call 64; (with_reducible refine (k3 _).mono ?_); rintro e w' ⟨rfl, rfl⟩) | (go_at_call 63; refine (kr _).mono ?_; rintro e w' ⟨rfl, rfl⟩) | (at_builtin; refine wpList_pushTok rfl _ _ rfl w.heap.size (wr.alloc (.cells #[.int .i64 2, .string ⟨(bA s f :: W).toArray⟩, .int .i64 f, .int .i64 ((m2 : Nat) : Int)] 73)) av cap ts ⟨2, bA s f :: W, f, m2⟩ #[.int .i64 2, .string ⟨(bA s f :: W).toArray⟩, .int .i64 f, .int .i64 ((m2 : Nat) : Int)] rfl rfl (hT2.out _) (wr.heap.size + 1) (by show _ = (wr.heap.push _).size; simp) rfl hts (by have := hsz.out; show _ ≤ (wr.heap.push _).size; simp; omega) ?_; intro av' cap' w3 hT3 hg3 hb3; have c3 := hg3.cell (a := ⟨wr.heap.size, 3, none⟩) (v := .int .i64 ((m2 : Nat) : Int)) (by rw [cell_at (heap_alloc_new wr _)]; rfl) hne.out; have HT3 := Lib.hid hT3; have HB3 := Lib.hid ((hb.out.alloc hsz.out _).trans hb3); clear hT3 hg3 hb3))
            · go_ret3
              have hM : ts.length = 1000 := nat_beq (k := 1000) (by assumption)
              exact ⟨_, f, 34, rfl, by rw [hj2.out, next_many 1000 ts hfe Hst.out h0.out hM]; exact ⟨rfl, rfl, rfl⟩, hb.out.alloc hsz.out _⟩
            · have hM : ts.length ≠ 1000 := fun e => by
                have h : ((ts.length : Int) == 1000) = false := by assumption
                rw [e] at h; exact absurd h (by decide)
              have Hq := Lib.hid (hj2.out.trans (hq.out hM))
              have hts9 : ts.length + 1 ≤ 1000 := by omega
              clear hM
              go_roundg (s.size - m2)
              case measure => omega
              case rel => exact ⟨m2, ts ++ [⟨2, bA s f :: W, f, m2⟩], av', cap', rfl, by omega, by simp; omega, by simp, by go_num, Hq, Lib.hid (by rw [List.length_append]; exact HT3.out), HB3⟩
          by_cases hcl : cls (bA s f).toNat = 4
          · have k2 := small_c (bA s f).toNat (bA_le s _)
            rw [show (cls (bA s f).toNat == 2) = false from by rw [hcl]; rfl] at k2
            have k3 := great_c (bA s f).toNat (bA_le s _)
            rw [show (cls (bA s f).toNat == 3) = false from by rw [hcl]; rfl] at k3
            have k4 := digit_c (bA s f).toNat (bA_le s _)
            rw [show (cls (bA s f).toNat == 4) = true from by rw [hcl]; rfl] at k4
            obtain ⟨a39, b39⟩ := ieq_no (a := (bA s f).toNat) 39 (by intro e; rw [show (bA s f).toNat = 39 by omega] at hcl; exact absurd hcl (by decide))
            obtain ⟨a46, b46⟩ := ieq_no (a := (bA s f).toNat) 46 (by intro e; rw [show (bA s f).toNat = 46 by omega] at hcl; exact absurd hcl (by decide))
            have h0 := Lib.hid (show cl (bA s f) ≠ 0 by unfold cl; omega)
            have kr := run2_c s f hfe hs (by unfold cl; rw [hcl]; rfl)
            have hq := Lib.hid (fun hM => next_word 1000 ts hfe Hst.out h0.out (by unfold cl; omega) hM)
            rw [show cl (bA s f) = 4 from hcl] at hq
            rw [show kindS s f ts 4 = 3 from rfl] at hq
            obtain ⟨hx, hx2⟩ := tok_text 4 hfe
            clear hcl
            generalize hW : wordL s f 4 = W at *
            generalize hm2 : f + 1 + W.length = m2 at *
            have Hm2 := Lib.hid hm2
            clear hW hm2
            have hfm : f < m2 := by have := Hm2.out; omega
            have hfm1 : (f : Int) ≤ m2 := by omega
            have hfm2 : (m2 : Int) ≤ s.size := by omega
            have hT2 := Lib.hid (fun o => World.ownsRow.alloc hT.out o)
            have hsz := Lib.hid hb.out.size
            have hne := Lib.hid (show some wr.heap.size ≠ (Value.slice av ts.length cap).ownBlock from fun e => by have := ((World.ownsRow.lt hT.out) _ e.symm).2; omega)
            go_wp2_with (first | (go_at_call 62; (with_reducible refine (k2 _).mono ?_); rintro e w' ⟨rfl, rfl⟩) | (go_at_call 64; (with_reducible refine (k3 _).mono ?_); rintro e w' ⟨rfl, rfl⟩) | (go_at_call 65; (with_reducible refine (k4 _).mono ?_); rintro e w' ⟨rfl, rfl⟩) | (go_at_call 63; refine (kr _).mono ?_; rintro e w' ⟨rfl, rfl⟩) | (at_builtin; refine wpList_pushTok rfl _ _ rfl w.heap.size (wr.alloc (.cells #[.int .i64 3, .string ⟨(bA s f :: W).toArray⟩, .int .i64 f, .int .i64 ((m2 : Nat) : Int)] 73)) av cap ts ⟨3, bA s f :: W, f, m2⟩ #[.int .i64 3, .string ⟨(bA s f :: W).toArray⟩, .int .i64 f, .int .i64 ((m2 : Nat) : Int)] rfl rfl (hT2.out _) (wr.heap.size + 1) (by show _ = (wr.heap.push _).size; simp) rfl hts (by have := hsz.out; show _ ≤ (wr.heap.push _).size; simp; omega) ?_; intro av' cap' w3 hT3 hg3 hb3; have c3 := hg3.cell (a := ⟨wr.heap.size, 3, none⟩) (v := .int .i64 ((m2 : Nat) : Int)) (by rw [cell_at (heap_alloc_new wr _)]; rfl) hne.out; have HT3 := Lib.hid hT3; have HB3 := Lib.hid ((hb.out.alloc hsz.out _).trans hb3); clear hT3 hg3 hb3))
            · go_ret3
              have hM : ts.length = 1000 := nat_beq (k := 1000) (by assumption)
              exact ⟨_, f, 34, rfl, by rw [hj2.out, next_many 1000 ts hfe Hst.out h0.out hM]; exact ⟨rfl, rfl, rfl⟩, hb.out.alloc hsz.out _⟩
            · have hM : ts.length ≠ 1000 := fun e => by
                have h : ((ts.length : Int) == 1000) = false := by assumption
                rw [e] at h; exact absurd h (by decide)
              have Hq := Lib.hid (hj2.out.trans (hq.out hM))
              have hts9 : ts.length + 1 ≤ 1000 := by omega
              clear hM
              go_roundg (s.size - m2)
              case measure => omega
              case rel => exact ⟨m2, ts ++ [⟨3, bA s f :: W, f, m2⟩], av', cap', rfl, by omega, by simp; omega, by simp, by go_num, Hq, Lib.hid (by rw [List.length_append]; exact HT3.out), HB3⟩
          by_cases hcl : cls (bA s f).toNat = 5
          · as_aux_lemma =>
            by_cases h46 : (bA s f).toNat = 46
            · have e46 : bA s f = 46 := UInt8.toNat_inj.1 (by rw [h46]; rfl)
              obtain ⟨a46, b46⟩ := ieq_yes (a := (bA s f).toNat) 46 (by omega)
              have kb := blank_c (bA s (f + 1)).toNat (bA_le s _)
              have hEn := endsB_cases e46
              have hks : ∀ b, endsB s f = b → kindS s f ts 5 = if b = true then 6 else 1 := fun b hb2 => by unfold kindS; rw [if_neg (by decide), if_neg (by decide), if_neg (by decide), if_pos rfl, hb2]
              by_cases hend : f + 1 = s.size
              · have x1 : ((f : Int) + 1 == (s.size : Int)) = true := by simp; omega
                have hE : endsB s f = true := by rw [hEn, show (f + 1 == s.size) = true from by simpa using hend]; rfl
                clear hend
                obtain ⟨a39, b39⟩ := ieq_no (a := (bA s f).toNat) 39 (by intro e; rw [show (bA s f).toNat = 39 by omega] at hcl; exact absurd hcl (by decide))
                have h0 := Lib.hid (show cl (bA s f) ≠ 0 by unfold cl; omega)
                have hq := Lib.hid (fun hM => next_word 1000 ts hfe Hst.out h0.out (by unfold cl; omega) hM)
                rw [show cl (bA s f) = 5 from hcl, show wordL s f 5 = [] from ends_word hE, show kindS s f ts 5 = 6 from hks true hE] at hq
                have hx : s.extract f (f + 1) = ⟨#[bA s f]⟩ := by have := (tok_text 5 hfe).1; rwa [show wordL s f 5 = [] from ends_word hE] at this
                clear hks hEn hE e46 h46
                clear hcl
                have hfm1 : (f : Int) ≤ (f : Int) + 1 := by omega
                have hfm2 : (f : Int) + 1 ≤ s.size := by omega
                have hT2 := Lib.hid (fun o => World.ownsRow.alloc hT.out o)
                have hsz := Lib.hid hb.out.size
                have hne := Lib.hid (show some wr.heap.size ≠ (Value.slice av ts.length cap).ownBlock from fun e => by have := ((World.ownsRow.lt hT.out) _ e.symm).2; omega)
                go_wp2_with (first | (go_at_call 61; (with_reducible refine (kb _).mono ?_); rintro e w' ⟨rfl, rfl⟩) | (at_builtin; refine wpList_pushTok rfl _ _ rfl w.heap.size (wr.alloc (.cells #[.int .i64 6, .string ⟨([bA s f]).toArray⟩, .int .i64 f, .int .i64 (((f + 1) : Nat) : Int)] 73)) av cap ts ⟨6, [bA s f], f, (f + 1)⟩ #[.int .i64 6, .string ⟨([bA s f]).toArray⟩, .int .i64 f, .int .i64 (((f + 1) : Nat) : Int)] rfl rfl (hT2.out _) (wr.heap.size + 1) (by show _ = (wr.heap.push _).size; simp) rfl hts (by have := hsz.out; show _ ≤ (wr.heap.push _).size; simp; omega) ?_; intro av' cap' w3 hT3 hg3 hb3; have c3 := hg3.cell (a := ⟨wr.heap.size, 3, none⟩) (v := .int .i64 (((f + 1) : Nat) : Int)) (by rw [cell_at (heap_alloc_new wr _)]; rfl) hne.out; have HT3 := Lib.hid hT3; have HB3 := Lib.hid ((hb.out.alloc hsz.out _).trans hb3); clear hT3 hg3 hb3))
                · go_ret3
                  have hM : ts.length = 1000 := nat_beq (k := 1000) (by assumption)
                  exact ⟨_, f, 34, rfl, by rw [hj2.out, next_many 1000 ts hfe Hst.out h0.out hM]; exact ⟨rfl, rfl, rfl⟩, hb.out.alloc hsz.out _⟩
                · have hM : ts.length ≠ 1000 := fun e => by
                    have h : ((ts.length : Int) == 1000) = false := by assumption
                    rw [e] at h; exact absurd h (by decide)
                  have Hq := Lib.hid (hj2.out.trans (hq.out hM))
                  have hts9 : ts.length + 1 ≤ 1000 := by omega
                  clear hM
                  go_roundg (s.size - (f + 1))
                  case measure => omega
                  case rel => exact ⟨(f + 1), ts ++ [⟨6, [bA s f], f, (f + 1)⟩], av', cap', rfl, by omega, by simp; omega, by simp, by go_num, Hq, Lib.hid (by rw [List.length_append]; exact HT3.out), HB3⟩
              have hlt3 : f + 1 < s.size := by omega
              have hlt4 : (f : Int) + 1 < s.size := by omega
              have x1 : ((f : Int) + 1 == (s.size : Int)) = false := by simp; omega
              rw [show (f + 1 == s.size) = false from by simpa using hend] at hEn
              clear hend
              by_cases hbl : cls (bA s (f + 1)).toNat = 1
              · rw [show (cls (bA s (f + 1)).toNat == 1) = true from by simpa using hbl] at kb
                have hE : endsB s f = true := by rw [hEn, show (cl (bA s (f + 1)) == 1) = true from by unfold cl; simpa using hbl, Bool.or_true]
                clear hbl
                obtain ⟨a39, b39⟩ := ieq_no (a := (bA s f).toNat) 39 (by intro e; rw [show (bA s f).toNat = 39 by omega] at hcl; exact absurd hcl (by decide))
                have h0 := Lib.hid (show cl (bA s f) ≠ 0 by unfold cl; omega)
                have hq := Lib.hid (fun hM => next_word 1000 ts hfe Hst.out h0.out (by unfold cl; omega) hM)
                rw [show cl (bA s f) = 5 from hcl, show wordL s f 5 = [] from ends_word hE, show kindS s f ts 5 = 6 from hks true hE] at hq
                have hx : s.extract f (f + 1) = ⟨#[bA s f]⟩ := by have := (tok_text 5 hfe).1; rwa [show wordL s f 5 = [] from ends_word hE] at this
                clear hks hEn hE e46 h46
                clear hcl
                have hfm1 : (f : Int) ≤ (f : Int) + 1 := by omega
                have hfm2 : (f : Int) + 1 ≤ s.size := by omega
                have hT2 := Lib.hid (fun o => World.ownsRow.alloc hT.out o)
                have hsz := Lib.hid hb.out.size
                have hne := Lib.hid (show some wr.heap.size ≠ (Value.slice av ts.length cap).ownBlock from fun e => by have := ((World.ownsRow.lt hT.out) _ e.symm).2; omega)
                go_wp2_with (first | (go_at_call 61; (with_reducible refine (kb _).mono ?_); rintro e w' ⟨rfl, rfl⟩) | (at_builtin; refine wpList_pushTok rfl _ _ rfl w.heap.size (wr.alloc (.cells #[.int .i64 6, .string ⟨([bA s f]).toArray⟩, .int .i64 f, .int .i64 (((f + 1) : Nat) : Int)] 73)) av cap ts ⟨6, [bA s f], f, (f + 1)⟩ #[.int .i64 6, .string ⟨([bA s f]).toArray⟩, .int .i64 f, .int .i64 (((f + 1) : Nat) : Int)] rfl rfl (hT2.out _) (wr.heap.size + 1) (by show _ = (wr.heap.push _).size; simp) rfl hts (by have := hsz.out; show _ ≤ (wr.heap.push _).size; simp; omega) ?_; intro av' cap' w3 hT3 hg3 hb3; have c3 := hg3.cell (a := ⟨wr.heap.size, 3, none⟩) (v := .int .i64 (((f + 1) : Nat) : Int)) (by rw [cell_at (heap_alloc_new wr _)]; rfl) hne.out; have HT3 := Lib.hid hT3; have HB3 := Lib.hid ((hb.out.alloc hsz.out _).trans hb3); clear hT3 hg3 hb3))
                · go_ret3
                  have hM : ts.length = 1000 := nat_beq (k := 1000) (by assumption)
                  exact ⟨_, f, 34, rfl, by rw [hj2.out, next_many 1000 ts hfe Hst.out h0.out hM]; exact ⟨rfl, rfl, rfl⟩, hb.out.alloc hsz.out _⟩
                · have hM : ts.length ≠ 1000 := fun e => by
                    have h : ((ts.length : Int) == 1000) = false := by assumption
                    rw [e] at h; exact absurd h (by decide)
                  have Hq := Lib.hid (hj2.out.trans (hq.out hM))
                  have hts9 : ts.length + 1 ≤ 1000 := by omega
                  clear hM
                  go_roundg (s.size - (f + 1))
                  case measure => omega
                  case rel => exact ⟨(f + 1), ts ++ [⟨6, [bA s f], f, (f + 1)⟩], av', cap', rfl, by omega, by simp; omega, by simp, by go_num, Hq, Lib.hid (by rw [List.length_append]; exact HT3.out), HB3⟩
              rw [show (cls (bA s (f + 1)).toNat == 1) = false from by simpa using hbl] at kb
              rw [show (cl (bA s (f + 1)) == 1) = false from by unfold cl; simpa using hbl, Bool.or_false, Bool.false_or] at hEn
              clear hbl
              by_cases h37 : (bA s (f + 1)).toNat = 37
              · obtain ⟨y1, y2⟩ := ieq_yes (a := (bA s (f + 1)).toNat) 37 (by omega)
                have hE : endsB s f = true := by rw [hEn, show bA s (f + 1) = 37 from UInt8.toNat_inj.1 (by rw [h37]; rfl)]; rfl
                clear h37
                obtain ⟨a39, b39⟩ := ieq_no (a := (bA s f).toNat) 39 (by intro e; rw [show (bA s f).toNat = 39 by omega] at hcl; exact absurd hcl (by decide))
                have h0 := Lib.hid (show cl (bA s f) ≠ 0 by unfold cl; omega)
                have hq := Lib.hid (fun hM => next_word 1000 ts hfe Hst.out h0.out (by unfold cl; omega) hM)
                rw [show cl (bA s f) = 5 from hcl, show wordL s f 5 = [] from ends_word hE, show kindS s f ts 5 = 6 from hks true hE] at hq
                have hx : s.extract f (f + 1) = ⟨#[bA s f]⟩ := by have := (tok_text 5 hfe).1; rwa [show wordL s f 5 = [] from ends_word hE] at this
                clear hks hEn hE e46 h46
                clear hcl
                have hfm1 : (f : Int) ≤ (f : Int) + 1 := by omega
                have hfm2 : (f : Int) + 1 ≤ s.size := by omega
                have hT2 := Lib.hid (fun o => World.ownsRow.alloc hT.out o)
                have hsz := Lib.hid hb.out.size
                have hne := Lib.hid (show some wr.heap.size ≠ (Value.slice av ts.length cap).ownBlock from fun e => by have := ((World.ownsRow.lt hT.out) _ e.symm).2; omega)
                go_wp2_with (first | (go_at_call 61; (with_reducible refine (kb _).mono ?_); rintro e w' ⟨rfl, rfl⟩) | (at_builtin; refine wpList_pushTok rfl _ _ rfl w.heap.size (wr.alloc (.cells #[.int .i64 6, .string ⟨([bA s f]).toArray⟩, .int .i64 f, .int .i64 (((f + 1) : Nat) : Int)] 73)) av cap ts ⟨6, [bA s f], f, (f + 1)⟩ #[.int .i64 6, .string ⟨([bA s f]).toArray⟩, .int .i64 f, .int .i64 (((f + 1) : Nat) : Int)] rfl rfl (hT2.out _) (wr.heap.size + 1) (by show _ = (wr.heap.push _).size; simp) rfl hts (by have := hsz.out; show _ ≤ (wr.heap.push _).size; simp; omega) ?_; intro av' cap' w3 hT3 hg3 hb3; have c3 := hg3.cell (a := ⟨wr.heap.size, 3, none⟩) (v := .int .i64 (((f + 1) : Nat) : Int)) (by rw [cell_at (heap_alloc_new wr _)]; rfl) hne.out; have HT3 := Lib.hid hT3; have HB3 := Lib.hid ((hb.out.alloc hsz.out _).trans hb3); clear hT3 hg3 hb3))
                · go_ret3
                  have hM : ts.length = 1000 := nat_beq (k := 1000) (by assumption)
                  exact ⟨_, f, 34, rfl, by rw [hj2.out, next_many 1000 ts hfe Hst.out h0.out hM]; exact ⟨rfl, rfl, rfl⟩, hb.out.alloc hsz.out _⟩
                · have hM : ts.length ≠ 1000 := fun e => by
                    have h : ((ts.length : Int) == 1000) = false := by assumption
                    rw [e] at h; exact absurd h (by decide)
                  have Hq := Lib.hid (hj2.out.trans (hq.out hM))
                  have hts9 : ts.length + 1 ≤ 1000 := by omega
                  clear hM
                  go_roundg (s.size - (f + 1))
                  case measure => omega
                  case rel => exact ⟨(f + 1), ts ++ [⟨6, [bA s f], f, (f + 1)⟩], av', cap', rfl, by omega, by simp; omega, by simp, by go_num, Hq, Lib.hid (by rw [List.length_append]; exact HT3.out), HB3⟩
              obtain ⟨y1, y2⟩ := ieq_no (a := (bA s (f + 1)).toNat) 37 (by omega)
              have hE : endsB s f = false := by rw [hEn]; simp; intro e; exact h37 (by rw [e]; rfl)
              clear h37
              have k2 := small_c (bA s f).toNat (bA_le s _)
              rw [show (cls (bA s f).toNat == 2) = false from by rw [hcl]; rfl] at k2
              have k3 := great_c (bA s f).toNat (bA_le s _)
              rw [show (cls (bA s f).toNat == 3) = false from by rw [hcl]; rfl] at k3
              have k4 := digit_c (bA s f).toNat (bA_le s _)
              rw [show (cls (bA s f).toNat == 4) = false from by rw [hcl]; rfl] at k4
              have k5 := sign_c (bA s f).toNat (bA_le s _)
              rw [show (cls (bA s f).toNat == 5) = true from by rw [hcl]; rfl] at k5
              obtain ⟨a39, b39⟩ := ieq_no (a := (bA s f).toNat) 39 (by intro e; rw [show (bA s f).toNat = 39 by omega] at hcl; exact absurd hcl (by decide))
              have hks2 := hks false hE
              clear hks hEn e46 h46 hE
              have h0 := Lib.hid (show cl (bA s f) ≠ 0 by unfold cl; omega)
              have kr := run3_c s f hfe hs (by unfold cl; rw [hcl]; rfl)
              have hq := Lib.hid (fun hM => next_word 1000 ts hfe Hst.out h0.out (by unfold cl; omega) hM)
              rw [show cl (bA s f) = 5 from hcl] at hq
              rw [show kindS s f ts 5 = 1 from hks2] at hq
              obtain ⟨hx, hx2⟩ := tok_text 5 hfe
              clear hcl
              generalize hW : wordL s f 5 = W at *
              generalize hm2 : f + 1 + W.length = m2 at *
              have Hm2 := Lib.hid hm2
              clear hW hm2
              have hfm : f < m2 := by have := Hm2.out; omega
              have hfm1 : (f : Int) ≤ m2 := by omega
              have hfm2 : (m2 : Int) ≤ s.size := by omega
              have hT2 := Lib.hid (fun o => World.ownsRow.alloc hT.out o)
              have hsz := Lib.hid hb.out.size
              have hne := Lib.hid (show some wr.heap.size ≠ (Value.slice av ts.length cap).ownBlock from fun e => by have := ((World.ownsRow.lt hT.out) _ e.symm).2; omega)
              go_wp2_with (first | (go_at_call 62; (with_reducible refine (k2 _).mono ?_); rintro e w' ⟨rfl, rfl⟩) | (go_at_call 64; (with_reducible refine (k3 _).mono ?_); rintro e w' ⟨rfl, rfl⟩) | (go_at_call 65; (with_reducible refine (k4 _).mono ?_); rintro e w' ⟨rfl, rfl⟩) | (go_at_call 66; (with_reducible refine (k5 _).mono ?_); rintro e w' ⟨rfl, rfl⟩) | (go_at_call 63; refine (kr _).mono ?_; rintro e w' ⟨rfl, rfl⟩) | (go_at_call 61; (with_reducible refine (kb _).mono ?_); rintro e w' ⟨rfl, rfl⟩) | (at_builtin; refine wpList_pushTok rfl _ _ rfl w.heap.size (wr.alloc (.cells #[.int .i64 1, .string ⟨(bA s f :: W).toArray⟩, .int .i64 f, .int .i64 ((m2 : Nat) : Int)] 73)) av cap ts ⟨1, bA s f :: W, f, m2⟩ #[.int .i64 1, .string ⟨(bA s f :: W).toArray⟩, .int .i64 f, .int .i64 ((m2 : Nat) : Int)] rfl rfl (hT2.out _) (wr.heap.size + 1) (by show _ = (wr.heap.push _).size; simp) rfl hts (by have := hsz.out; show _ ≤ (wr.heap.push _).size; simp; omega) ?_; intro av' cap' w3 hT3 hg3 hb3; have c3 := hg3.cell (a := ⟨wr.heap.size, 3, none⟩) (v := .int .i64 ((m2 : Nat) : Int)) (by rw [cell_at (heap_alloc_new wr _)]; rfl) hne.out; have HT3 := Lib.hid hT3; have HB3 := Lib.hid ((hb.out.alloc hsz.out _).trans hb3); clear hT3 hg3 hb3))
              · go_ret3
                have hM : ts.length = 1000 := nat_beq (k := 1000) (by assumption)
                exact ⟨_, f, 34, rfl, by rw [hj2.out, next_many 1000 ts hfe Hst.out h0.out hM]; exact ⟨rfl, rfl, rfl⟩, hb.out.alloc hsz.out _⟩
              · have hM : ts.length ≠ 1000 := fun e => by
                  have h : ((ts.length : Int) == 1000) = false := by assumption
                  rw [e] at h; exact absurd h (by decide)
                have Hq := Lib.hid (hj2.out.trans (hq.out hM))
                have hts9 : ts.length + 1 ≤ 1000 := by omega
                clear hM
                go_roundg (s.size - m2)
                case measure => omega
                case rel => exact ⟨m2, ts ++ [⟨1, bA s f :: W, f, m2⟩], av', cap', rfl, by omega, by simp; omega, by simp, by go_num, Hq, Lib.hid (by rw [List.length_append]; exact HT3.out), HB3⟩
            · have n46 : bA s f ≠ 46 := fun e => h46 (by rw [e]; rfl)
              obtain ⟨a46, b46⟩ := ieq_no (a := (bA s f).toNat) 46 (by omega)
              have hE : endsB s f = false := by unfold endsB; simp [n46]
              have hks : kindS s f ts 5 = 1 := by unfold kindS; rw [if_neg (by decide), if_neg (by decide), if_neg (by decide), if_pos rfl, if_neg (by rw [hE]; decide)]
              clear n46 h46 hE
              have k2 := small_c (bA s f).toNat (bA_le s _)
              rw [show (cls (bA s f).toNat == 2) = false from by rw [hcl]; rfl] at k2
              have k3 := great_c (bA s f).toNat (bA_le s _)
              rw [show (cls (bA s f).toNat == 3) = false from by rw [hcl]; rfl] at k3
              have k4 := digit_c (bA s f).toNat (bA_le s _)
              rw [show (cls (bA s f).toNat == 4) = false from by rw [hcl]; rfl] at k4
              have k5 := sign_c (bA s f).toNat (bA_le s _)
              rw [show (cls (bA s f).toNat == 5) = true from by rw [hcl]; rfl] at k5
              obtain ⟨a39, b39⟩ := ieq_no (a := (bA s f).toNat) 39 (by intro e; rw [show (bA s f).toNat = 39 by omega] at hcl; exact absurd hcl (by decide))
              have h0 := Lib.hid (show cl (bA s f) ≠ 0 by unfold cl; omega)
              have kr := run3_c s f hfe hs (by unfold cl; rw [hcl]; rfl)
              have hq := Lib.hid (fun hM => next_word 1000 ts hfe Hst.out h0.out (by unfold cl; omega) hM)
              rw [show cl (bA s f) = 5 from hcl] at hq
              rw [show kindS s f ts 5 = 1 from hks] at hq
              obtain ⟨hx, hx2⟩ := tok_text 5 hfe
              clear hcl
              generalize hW : wordL s f 5 = W at *
              generalize hm2 : f + 1 + W.length = m2 at *
              have Hm2 := Lib.hid hm2
              clear hW hm2
              have hfm : f < m2 := by have := Hm2.out; omega
              have hfm1 : (f : Int) ≤ m2 := by omega
              have hfm2 : (m2 : Int) ≤ s.size := by omega
              have hT2 := Lib.hid (fun o => World.ownsRow.alloc hT.out o)
              have hsz := Lib.hid hb.out.size
              have hne := Lib.hid (show some wr.heap.size ≠ (Value.slice av ts.length cap).ownBlock from fun e => by have := ((World.ownsRow.lt hT.out) _ e.symm).2; omega)
              go_wp2_with (first | (go_at_call 62; (with_reducible refine (k2 _).mono ?_); rintro e w' ⟨rfl, rfl⟩) | (go_at_call 64; (with_reducible refine (k3 _).mono ?_); rintro e w' ⟨rfl, rfl⟩) | (go_at_call 65; (with_reducible refine (k4 _).mono ?_); rintro e w' ⟨rfl, rfl⟩) | (go_at_call 66; (with_reducible refine (k5 _).mono ?_); rintro e w' ⟨rfl, rfl⟩) | (go_at_call 63; refine (kr _).mono ?_; rintro e w' ⟨rfl, rfl⟩) | (at_builtin; refine wpList_pushTok rfl _ _ rfl w.heap.size (wr.alloc (.cells #[.int .i64 1, .string ⟨(bA s f :: W).toArray⟩, .int .i64 f, .int .i64 ((m2 : Nat) : Int)] 73)) av cap ts ⟨1, bA s f :: W, f, m2⟩ #[.int .i64 1, .string ⟨(bA s f :: W).toArray⟩, .int .i64 f, .int .i64 ((m2 : Nat) : Int)] rfl rfl (hT2.out _) (wr.heap.size + 1) (by show _ = (wr.heap.push _).size; simp) rfl hts (by have := hsz.out; show _ ≤ (wr.heap.push _).size; simp; omega) ?_; intro av' cap' w3 hT3 hg3 hb3; have c3 := hg3.cell (a := ⟨wr.heap.size, 3, none⟩) (v := .int .i64 ((m2 : Nat) : Int)) (by rw [cell_at (heap_alloc_new wr _)]; rfl) hne.out; have HT3 := Lib.hid hT3; have HB3 := Lib.hid ((hb.out.alloc hsz.out _).trans hb3); clear hT3 hg3 hb3))
              · go_ret3
                have hM : ts.length = 1000 := nat_beq (k := 1000) (by assumption)
                exact ⟨_, f, 34, rfl, by rw [hj2.out, next_many 1000 ts hfe Hst.out h0.out hM]; exact ⟨rfl, rfl, rfl⟩, hb.out.alloc hsz.out _⟩
              · have hM : ts.length ≠ 1000 := fun e => by
                  have h : ((ts.length : Int) == 1000) = false := by assumption
                  rw [e] at h; exact absurd h (by decide)
                have Hq := Lib.hid (hj2.out.trans (hq.out hM))
                have hts9 : ts.length + 1 ≤ 1000 := by omega
                clear hM
                go_roundg (s.size - m2)
                case measure => omega
                case rel => exact ⟨m2, ts ++ [⟨1, bA s f :: W, f, m2⟩], av', cap', rfl, by omega, by simp; omega, by simp, by go_num, Hq, Lib.hid (by rw [List.length_append]; exact HT3.out), HB3⟩
          by_cases hcl : cls (bA s f).toNat = 7
          · by_cases h33 : (bA s f).toNat = 33
            · obtain ⟨c33, d33⟩ := ieq_yes (a := (bA s f).toNat) 33 (by omega)
              have k2 := small_c (bA s f).toNat (bA_le s _)
              rw [show (cls (bA s f).toNat == 2) = false from by rw [hcl]; rfl] at k2
              have k3 := great_c (bA s f).toNat (bA_le s _)
              rw [show (cls (bA s f).toNat == 3) = false from by rw [hcl]; rfl] at k3
              have k4 := digit_c (bA s f).toNat (bA_le s _)
              rw [show (cls (bA s f).toNat == 4) = false from by rw [hcl]; rfl] at k4
              have k5 := sign_c (bA s f).toNat (bA_le s _)
              rw [show (cls (bA s f).toNat == 5) = false from by rw [hcl]; rfl] at k5
              obtain ⟨a46, b46⟩ := ieq_no (a := (bA s f).toNat) 46 (by intro e; rw [show (bA s f).toNat = 46 by omega] at hcl; exact absurd hcl (by decide))
              obtain ⟨a39, b39⟩ := ieq_no (a := (bA s f).toNat) 39 (by intro e; rw [show (bA s f).toNat = 39 by omega] at hcl; exact absurd hcl (by decide))
              have h0 := Lib.hid (show cl (bA s f) ≠ 0 by unfold cl; omega)
              have hq := Lib.hid (fun hM => next_word 1000 ts hfe Hst.out h0.out (by unfold cl; omega) hM)
              rw [show cl (bA s f) = 7 from hcl, show wordL s f 7 = [] from wordL_none fun b r _ => rfl, show kindS s f ts 7 = 1 from rfl] at hq
              have hx : s.extract f (f + 1) = ⟨#[bA s f]⟩ := by have := (tok_text 7 hfe).1; rwa [show wordL s f 7 = [] from wordL_none fun b r _ => rfl] at this
              clear h33
              clear hcl
              have hfm1 : (f : Int) ≤ (f : Int) + 1 := by omega
              have hfm2 : (f : Int) + 1 ≤ s.size := by omega
              have hT2 := Lib.hid (fun o => World.ownsRow.alloc hT.out o)
              have hsz := Lib.hid hb.out.size
              have hne := Lib.hid (show some wr.heap.size ≠ (Value.slice av ts.length cap).ownBlock from fun e => by have := ((World.ownsRow.lt hT.out) _ e.symm).2; omega)
              go_wp2_with (first | (go_at_call 62; (with_reducible refine (k2 _).mono ?_); rintro e w' ⟨rfl, rfl⟩) | (go_at_call 64; (with_reducible refine (k3 _).mono ?_); rintro e w' ⟨rfl, rfl⟩) | (go_at_call 65; (with_reducible refine (k4 _).mono ?_); rintro e w' ⟨rfl, rfl⟩) | (go_at_call 66; (with_reducible refine (k5 _).mono ?_); rintro e w' ⟨rfl, rfl⟩) | (at_builtin; refine wpList_pushTok rfl _ _ rfl w.heap.size (wr.alloc (.cells #[.int .i64 1, .string ⟨([bA s f]).toArray⟩, .int .i64 f, .int .i64 (((f + 1) : Nat) : Int)] 73)) av cap ts ⟨1, [bA s f], f, (f + 1)⟩ #[.int .i64 1, .string ⟨([bA s f]).toArray⟩, .int .i64 f, .int .i64 (((f + 1) : Nat) : Int)] rfl rfl (hT2.out _) (wr.heap.size + 1) (by show _ = (wr.heap.push _).size; simp) rfl hts (by have := hsz.out; show _ ≤ (wr.heap.push _).size; simp; omega) ?_; intro av' cap' w3 hT3 hg3 hb3; have c3 := hg3.cell (a := ⟨wr.heap.size, 3, none⟩) (v := .int .i64 (((f + 1) : Nat) : Int)) (by rw [cell_at (heap_alloc_new wr _)]; rfl) hne.out; have HT3 := Lib.hid hT3; have HB3 := Lib.hid ((hb.out.alloc hsz.out _).trans hb3); clear hT3 hg3 hb3))
              · go_ret3
                have hM : ts.length = 1000 := nat_beq (k := 1000) (by assumption)
                exact ⟨_, f, 34, rfl, by rw [hj2.out, next_many 1000 ts hfe Hst.out h0.out hM]; exact ⟨rfl, rfl, rfl⟩, hb.out.alloc hsz.out _⟩
              · have hM : ts.length ≠ 1000 := fun e => by
                  have h : ((ts.length : Int) == 1000) = false := by assumption
                  rw [e] at h; exact absurd h (by decide)
                have Hq := Lib.hid (hj2.out.trans (hq.out hM))
                have hts9 : ts.length + 1 ≤ 1000 := by omega
                clear hM
                go_roundg (s.size - (f + 1))
                case measure => omega
                case rel => exact ⟨(f + 1), ts ++ [⟨1, [bA s f], f, (f + 1)⟩], av', cap', rfl, by omega, by simp; omega, by simp, by go_num, Hq, Lib.hid (by rw [List.length_append]; exact HT3.out), HB3⟩
            have h59 : (bA s f).toNat = 59 := by
              have := cls7 (bA_le s f) hcl; omega
            obtain ⟨c33, d33⟩ := ieq_no (a := (bA s f).toNat) 33 (by omega)
            obtain ⟨c59, d59⟩ := ieq_yes (a := (bA s f).toNat) 59 (by omega)
            have k2 := small_c (bA s f).toNat (bA_le s _)
            rw [show (cls (bA s f).toNat == 2) = false from by rw [hcl]; rfl] at k2
            have k3 := great_c (bA s f).toNat (bA_le s _)
            rw [show (cls (bA s f).toNat == 3) = false from by rw [hcl]; rfl] at k3
            have k4 := digit_c (bA s f).toNat (bA_le s _)
            rw [show (cls (bA s f).toNat == 4) = false from by rw [hcl]; rfl] at k4
            have k5 := sign_c (bA s f).toNat (bA_le s _)
            rw [show (cls (bA s f).toNat == 5) = false from by rw [hcl]; rfl] at k5
            obtain ⟨a46, b46⟩ := ieq_no (a := (bA s f).toNat) 46 (by intro e; rw [show (bA s f).toNat = 46 by omega] at hcl; exact absurd hcl (by decide))
            obtain ⟨a39, b39⟩ := ieq_no (a := (bA s f).toNat) 39 (by intro e; rw [show (bA s f).toNat = 39 by omega] at hcl; exact absurd hcl (by decide))
            have h0 := Lib.hid (show cl (bA s f) ≠ 0 by unfold cl; omega)
            have hq := Lib.hid (fun hM => next_word 1000 ts hfe Hst.out h0.out (by unfold cl; omega) hM)
            rw [show cl (bA s f) = 7 from hcl, show wordL s f 7 = [] from wordL_none fun b r _ => rfl, show kindS s f ts 7 = 1 from rfl] at hq
            have hx : s.extract f (f + 1) = ⟨#[bA s f]⟩ := by have := (tok_text 7 hfe).1; rwa [show wordL s f 7 = [] from wordL_none fun b r _ => rfl] at this
            clear h33 h59
            clear hcl
            have hfm1 : (f : Int) ≤ (f : Int) + 1 := by omega
            have hfm2 : (f : Int) + 1 ≤ s.size := by omega
            have hT2 := Lib.hid (fun o => World.ownsRow.alloc hT.out o)
            have hsz := Lib.hid hb.out.size
            have hne := Lib.hid (show some wr.heap.size ≠ (Value.slice av ts.length cap).ownBlock from fun e => by have := ((World.ownsRow.lt hT.out) _ e.symm).2; omega)
            go_wp2_with (first | (go_at_call 62; (with_reducible refine (k2 _).mono ?_); rintro e w' ⟨rfl, rfl⟩) | (go_at_call 64; (with_reducible refine (k3 _).mono ?_); rintro e w' ⟨rfl, rfl⟩) | (go_at_call 65; (with_reducible refine (k4 _).mono ?_); rintro e w' ⟨rfl, rfl⟩) | (go_at_call 66; (with_reducible refine (k5 _).mono ?_); rintro e w' ⟨rfl, rfl⟩) | (at_builtin; refine wpList_pushTok rfl _ _ rfl w.heap.size (wr.alloc (.cells #[.int .i64 1, .string ⟨([bA s f]).toArray⟩, .int .i64 f, .int .i64 (((f + 1) : Nat) : Int)] 73)) av cap ts ⟨1, [bA s f], f, (f + 1)⟩ #[.int .i64 1, .string ⟨([bA s f]).toArray⟩, .int .i64 f, .int .i64 (((f + 1) : Nat) : Int)] rfl rfl (hT2.out _) (wr.heap.size + 1) (by show _ = (wr.heap.push _).size; simp) rfl hts (by have := hsz.out; show _ ≤ (wr.heap.push _).size; simp; omega) ?_; intro av' cap' w3 hT3 hg3 hb3; have c3 := hg3.cell (a := ⟨wr.heap.size, 3, none⟩) (v := .int .i64 (((f + 1) : Nat) : Int)) (by rw [cell_at (heap_alloc_new wr _)]; rfl) hne.out; have HT3 := Lib.hid hT3; have HB3 := Lib.hid ((hb.out.alloc hsz.out _).trans hb3); clear hT3 hg3 hb3))
            · go_ret3
              have hM : ts.length = 1000 := nat_beq (k := 1000) (by assumption)
              exact ⟨_, f, 34, rfl, by rw [hj2.out, next_many 1000 ts hfe Hst.out h0.out hM]; exact ⟨rfl, rfl, rfl⟩, hb.out.alloc hsz.out _⟩
            · have hM : ts.length ≠ 1000 := fun e => by
                have h : ((ts.length : Int) == 1000) = false := by assumption
                rw [e] at h; exact absurd h (by decide)
              have Hq := Lib.hid (hj2.out.trans (hq.out hM))
              have hts9 : ts.length + 1 ≤ 1000 := by omega
              clear hM
              go_roundg (s.size - (f + 1))
              case measure => omega
              case rel => exact ⟨(f + 1), ts ++ [⟨1, [bA s f], f, (f + 1)⟩], av', cap', rfl, by omega, by simp; omega, by simp, by go_num, Hq, Lib.hid (by rw [List.length_append]; exact HT3.out), HB3⟩
          by_cases hcl : cls (bA s f).toNat = 6
          · have k2 := small_c (bA s f).toNat (bA_le s _)
            rw [show (cls (bA s f).toNat == 2) = false from by rw [hcl]; rfl] at k2
            have k3 := great_c (bA s f).toNat (bA_le s _)
            rw [show (cls (bA s f).toNat == 3) = false from by rw [hcl]; rfl] at k3
            have k4 := digit_c (bA s f).toNat (bA_le s _)
            rw [show (cls (bA s f).toNat == 4) = false from by rw [hcl]; rfl] at k4
            have k5 := sign_c (bA s f).toNat (bA_le s _)
            rw [show (cls (bA s f).toNat == 5) = false from by rw [hcl]; rfl] at k5
            obtain ⟨a46, b46⟩ := ieq_no (a := (bA s f).toNat) 46 (by intro e; rw [show (bA s f).toNat = 46 by omega] at hcl; exact absurd hcl (by decide))
            obtain ⟨a33, b33⟩ := ieq_no (a := (bA s f).toNat) 33 (by intro e; rw [show (bA s f).toNat = 33 by omega] at hcl; exact absurd hcl (by decide))
            obtain ⟨a59, b59⟩ := ieq_no (a := (bA s f).toNat) 59 (by intro e; rw [show (bA s f).toNat = 59 by omega] at hcl; exact absurd hcl (by decide))
            have h39 : (bA s f).toNat = 39 := by have := cls6 (bA_le s f) hcl; omega
            obtain ⟨c39, d39⟩ := ieq_yes (a := (bA s f).toNat) 39 (by omega)
            have h0 := Lib.hid (show cl (bA s f) ≠ 0 by unfold cl; omega)
            have hq := Lib.hid (fun hM => next_quote 1000 ts hfe hcl hM)
            clear hcl h39
            have hT2 := Lib.hid (fun o => World.ownsRow.alloc hT.out o)
            have hsz := Lib.hid hb.out.size
            have hne := Lib.hid (show some wr.heap.size ≠ (Value.slice av ts.length cap).ownBlock from fun e => by have := ((World.ownsRow.lt hT.out) _ e.symm).2; omega)
            by_cases hM : ts.length = 1000
            · obtain ⟨z1, z2⟩ := ieq_yes (a := ts.length) 1000 (by omega)
              have HM := Lib.hid hM
              clear hM
              go_wp2_with (first | (go_at_call 62; (with_reducible refine (k2 _).mono ?_); rintro e w' ⟨rfl, rfl⟩) | (go_at_call 64; (with_reducible refine (k3 _).mono ?_); rintro e w' ⟨rfl, rfl⟩) | (go_at_call 65; (with_reducible refine (k4 _).mono ?_); rintro e w' ⟨rfl, rfl⟩) | (go_at_call 66; (with_reducible refine (k5 _).mono ?_); rintro e w' ⟨rfl, rfl⟩))
              go_ret3
              exact ⟨_, f, 34, rfl, by rw [hj2.out, next_many 1000 ts hfe Hst.out h0.out HM.out]; exact ⟨rfl, rfl, rfl⟩, hb.out.alloc hsz.out _⟩
            obtain ⟨z1, z2⟩ := ieq_no (a := ts.length) 1000 (by omega)
            have hq2 := Lib.hid (hj2.out.trans (hq.out hM))
            have hts9 : ts.length + 1 ≤ 1000 := by omega
            clear hM hq
            go_wp2_with (first | (go_at_call 62; (with_reducible refine (k2 _).mono ?_); rintro e w' ⟨rfl, rfl⟩) | (go_at_call 64; (with_reducible refine (k3 _).mono ?_); rintro e w' ⟨rfl, rfl⟩) | (go_at_call 65; (with_reducible refine (k4 _).mono ?_); rintro e w' ⟨rfl, rfl⟩) | (go_at_call 66; (with_reducible refine (k5 _).mono ?_); rintro e w' ⟨rfl, rfl⟩))
            refine (rquoted_c s f hfe hs _).mono ?_
            rintro e w2 ⟨hb2, ⟨m2, acc, rfl, hfm, hm2s, hqo⟩ | ⟨p, k, rfl, hk0, hk1, hqb⟩⟩
            · have Hq := Lib.hid (hq2.out.trans (hqo 1000 ts))
              have hTa : Tk w.heap.size (wr.alloc (.cells #[.int .i64 1, .string ⟨#[]⟩, .int .i64 (f : Nat), .int .i64 0] 73)) (.slice av ts.length cap) ts := World.ownsRow.alloc hT.out _
              have hT0 := Lib.hid (hTa.stay hb2)
              clear hTa
              have HB2 := Lib.hid ((hb.out.alloc hsz.out _).trans (hb2.mono (by have := hsz.out; show _ ≤ (wr.heap.push _).size; simp; omega)))
              have hblk : w2.heap[wr.heap.size]? = some (.cells #[.int .i64 1, .string ⟨#[]⟩, .int .i64 (f : Nat), .int .i64 0] 73 (0, 0)) := (hb2.block wr.heap.size (by show _ < (wr.heap.push _).size; simp)).trans (heap_alloc_new wr _)
              have c0 : w2.cell? ⟨wr.heap.size, 0, none⟩ = some (.int .i64 1) := by rw [cell_at hblk]; rfl
              have c1 : w2.cell? ⟨wr.heap.size, 1, none⟩ = some (.string ⟨#[]⟩) := by rw [cell_at hblk]; rfl
              have c2 : w2.cell? ⟨wr.heap.size, 2, none⟩ = some (.int .i64 (f : Nat)) := by rw [cell_at hblk]; rfl
              have c3 : w2.cell? ⟨wr.heap.size, 3, none⟩ = some (.int .i64 0) := by rw [cell_at hblk]; rfl
              have f1 : w2.frozen? ⟨wr.heap.size, 1, none⟩ = false := by simp [World.frozen?, hblk]
              have f3 : w2.frozen? ⟨wr.heap.size, 3, none⟩ = false := by simp [World.frozen?, hblk]
              have hT4 := Lib.hid ((hT0.out.kp ((Kp.refl wr.heap.size w2).set 1 (.string ⟨acc.toArray⟩)) (fun e => hne.out e.symm)).kp ((Kp.refl wr.heap.size _).set 3 (.int .i64 ((m2 : Nat) : Int))) (fun e => hne.out e.symm))
              have hlt9 : wr.heap.size < w2.heap.size := by
                rcases Nat.lt_or_ge wr.heap.size w2.heap.size with h' | h'
                · exact h'
                · simp [Array.getElem?_eq_none h'] at hblk
              have hz9 : ((w2.setCell ⟨wr.heap.size, 1, none⟩ (.string ⟨acc.toArray⟩)).setCell ⟨wr.heap.size, 3, none⟩ (.int .i64 ((m2 : Nat) : Int))).heap.size = w2.heap.size := by simp [World.setCell]
              have Hz9 := Lib.hid hz9
              have Hc3 := Lib.hid c3
              clear hqo hb2 hblk hz9 hT
              go_wp2_with (at_builtin; refine wpList_pushTok rfl _ _ rfl w.heap.size ((w2.setCell ⟨wr.heap.size, 1, none⟩ (.string ⟨acc.toArray⟩)).setCell ⟨wr.heap.size, 3, none⟩ (.int .i64 ((m2 : Nat) : Int))) av cap ts ⟨1, acc, f, m2⟩ #[.int .i64 1, .string ⟨acc.toArray⟩, .int .i64 f, .int .i64 ((m2 : Nat) : Int)] rfl rfl hT4.out w2.heap.size Hz9.out.symm rfl hts (by have := hsz.out; have := Hz9.out; omega) ?_; intro av' cap' w3 hT3 hg3 hb3; have d3 := hg3.cell (a := ⟨wr.heap.size, 3, none⟩) (v := .int .i64 ((m2 : Nat) : Int)) (World.cell?_setCell_same _ _ _ ((World.cell?_setCell_other _ _ _ _ (by intro e; injection e; omega)).trans Hc3.out)) hne.out; have HT3 := Lib.hid hT3; have HB3 := Lib.hid (((HB2.out.setCell (p := ⟨wr.heap.size, 1, none⟩) (by have := hsz.out; exact this) _).setCell (p := ⟨wr.heap.size, 3, none⟩) (by have := hsz.out; exact this) _).trans hb3); clear hT3 hg3 hb3)
              go_roundg (s.size - m2)
              case measure => omega
              case rel => exact ⟨m2, ts ++ [⟨1, acc, f, m2⟩], av', cap', rfl, by omega, by simp; omega, by simp, by go_num, Hq, Lib.hid (by rw [List.length_append]; exact HT3.out), HB3⟩
            · obtain ⟨z3, z4⟩ := ieq_no (a := k) 0 (by omega)
              have Hq := Lib.hid (hq2.out.trans (hqb 1000 ts))
              have HB2 := Lib.hid ((hb.out.alloc hsz.out _).trans (hb2.mono (by have := hsz.out; show _ ≤ (wr.heap.push _).size; simp; omega)))
              clear hqb hb2
              go_wp2
              go_ret3
              exact ⟨_, p, k, rfl, by rw [Hq.out]; exact ⟨rfl, rfl, rfl⟩, HB2.out⟩
          by_cases hcl : cls (bA s f).toNat = 8
          · have hk8 : ∀ b, (decide (bA s f = 40) && opens ts f) = b → kindS s f ts 8 = if b = true then 4 else 5 := fun b hb2 => by
              unfold kindS; rw [if_neg (by decide), if_neg (by decide), if_pos rfl, hb2]
            by_cases h40 : (bA s f).toNat = 40
            · have e40 : bA s f = 40 := UInt8.toNat_inj.1 (by rw [h40]; rfl)
              obtain ⟨c40, d40⟩ := ieq_yes (a := (bA s f).toNat) 40 (by omega)
              by_cases hnil : ts.length = 0
              · have n0 : ¬ ((0 : Int) < ts.length) := by omega
                have n1 : ¬ (0 < ts.length) := by omega
                have n2 : decide (0 < ts.length) = false := by simpa using n1
                have hks := hk8 false (by rw [List.length_eq_zero_iff.1 hnil, opens_nil, Bool.and_false])
                clear hk8 e40 h40 hnil
                have k2 := small_c (bA s f).toNat (bA_le s _)
                rw [show (cls (bA s f).toNat == 2) = false from by rw [hcl]; rfl] at k2
                have k3 := great_c (bA s f).toNat (bA_le s _)
                rw [show (cls (bA s f).toNat == 3) = false from by rw [hcl]; rfl] at k3
                have k4 := digit_c (bA s f).toNat (bA_le s _)
                rw [show (cls (bA s f).toNat == 4) = false from by rw [hcl]; rfl] at k4
                have k5 := sign_c (bA s f).toNat (bA_le s _)
                rw [show (cls (bA s f).toNat == 5) = false from by rw [hcl]; rfl] at k5
                have k8 := mark_c (bA s f).toNat (bA_le s _)
                rw [show (cls (bA s f).toNat == 8) = true from by rw [hcl]; rfl] at k8
                obtain ⟨a46, b46⟩ := ieq_no (a := (bA s f).toNat) 46 (by intro e; rw [show (bA s f).toNat = 46 by omega] at hcl; exact absurd hcl (by decide))
                obtain ⟨a39, b39⟩ := ieq_no (a := (bA s f).toNat) 39 (by intro e; rw [show (bA s f).toNat = 39 by omega] at hcl; exact absurd hcl (by decide))
                obtain ⟨a33, b33⟩ := ieq_no (a := (bA s f).toNat) 33 (by intro e; rw [show (bA s f).toNat = 33 by omega] at hcl; exact absurd hcl (by decide))
                obtain ⟨a59, b59⟩ := ieq_no (a := (bA s f).toNat) 59 (by intro e; rw [show (bA s f).toNat = 59 by omega] at hcl; exact absurd hcl (by decide))
                have h0 := Lib.hid (show cl (bA s f) ≠ 0 by unfold cl; omega)
                have hq := Lib.hid (fun hM => next_word 1000 ts hfe Hst.out h0.out (by unfold cl; omega) hM)
                rw [show cl (bA s f) = 8 from hcl, show wordL s f 8 = [] from wordL_none fun b r _ => rfl, show kindS s f ts 8 = 5 from hks] at hq
                have hx : s.extract f (f + 1) = ⟨#[bA s f]⟩ := by have := (tok_text 8 hfe).1; rwa [show wordL s f 8 = [] from wordL_none fun b r _ => rfl] at this
                clear hks
                clear hcl
                have hfm1 : (f : Int) ≤ (f : Int) + 1 := by omega
                have hfm2 : (f : Int) + 1 ≤ s.size := by omega
                have hT2 := Lib.hid (fun o => World.ownsRow.alloc hT.out o)
                have hsz := Lib.hid hb.out.size
                have hne := Lib.hid (show some wr.heap.size ≠ (Value.slice av ts.length cap).ownBlock from fun e => by have := ((World.ownsRow.lt hT.out) _ e.symm).2; omega)
                go_wp2_with (first | (go_at_call 62; (with_reducible refine (k2 _).mono ?_); rintro e w' ⟨rfl, rfl⟩) | (go_at_call 64; (with_reducible refine (k3 _).mono ?_); rintro e w' ⟨rfl, rfl⟩) | (go_at_call 65; (with_reducible refine (k4 _).mono ?_); rintro e w' ⟨rfl, rfl⟩) | (go_at_call 66; (with_reducible refine (k5 _).mono ?_); rintro e w' ⟨rfl, rfl⟩) | (go_at_call 67; (with_reducible refine (k8 _).mono ?_); rintro e w' ⟨rfl, rfl⟩) | (at_builtin; refine wpList_pushTok rfl _ _ rfl w.heap.size (wr.alloc (.cells #[.int .i64 5, .string ⟨([bA s f]).toArray⟩, .int .i64 f, .int .i64 (((f + 1) : Nat) : Int)] 73)) av cap ts ⟨5, [bA s f], f, (f + 1)⟩ #[.int .i64 5, .string ⟨([bA s f]).toArray⟩, .int .i64 f, .int .i64 (((f + 1) : Nat) : Int)] rfl rfl (hT2.out _) (wr.heap.size + 1) (by show _ = (wr.heap.push _).size; simp) rfl hts (by have := hsz.out; show _ ≤ (wr.heap.push _).size; simp; omega) ?_; intro av' cap' w3 hT3 hg3 hb3; have c3 := hg3.cell (a := ⟨wr.heap.size, 3, none⟩) (v := .int .i64 (((f + 1) : Nat) : Int)) (by rw [cell_at (heap_alloc_new wr _)]; rfl) hne.out; have HT3 := Lib.hid hT3; have HB3 := Lib.hid ((hb.out.alloc hsz.out _).trans hb3); clear hT3 hg3 hb3))
                · have hM : ts.length ≠ 1000 := fun e => by
                    have h : ((ts.length : Int) == 1000) = false := by assumption
                    rw [e] at h; exact absurd h (by decide)
                  have Hq := Lib.hid (hj2.out.trans (hq.out hM))
                  have hts9 : ts.length + 1 ≤ 1000 := by omega
                  clear hM
                  go_roundg (s.size - (f + 1))
                  case measure => omega
                  case rel => exact ⟨(f + 1), ts ++ [⟨5, [bA s f], f, (f + 1)⟩], av', cap', rfl, by omega, by simp; omega, by simp, by go_num, Hq, Lib.hid (by rw [List.length_append]; exact HT3.out), HB3⟩
              have hpos : 0 < ts.length := by omega
              have hpos2 : (0 : Int) < ts.length := by omega
              have hop := opens_get hpos f
              obtain ⟨g, gcap, hgv, _, hgB, hgl, hcell⟩ := hT.out.row hpos
              obtain ⟨p0, p1, p2, p3⟩ := hcell (ts.length - 1) (by omega)
              obtain ⟨rfl, rfl⟩ : av = some ⟨g, 0, none⟩ ∧ cap = gcap := by simp at hgv; exact ⟨hgv.1, hgv.2⟩
              clear hgv
              clear hcell p1 p2 hnil h40
              generalize hlast : ts[ts.length - 1] = tl at *
              clear hlast
              have q0 : ∀ o, (wr.alloc o).cell? ⟨g, (ts.length - 1) * 4, none⟩ = some (.int .i64 (tl.kind : Nat)) := fun o => (World.cell?_of_block (Lib.alloc_old wr o g hgl)).trans p0
              have q3 : ∀ o, (wr.alloc o).cell? ⟨g, (ts.length - 1) * 4 + 3, none⟩ = some (.int .i64 (tl.to : Nat)) := fun o => (World.cell?_of_block (Lib.alloc_old wr o g hgl)).trans p3
              have i1 : IntKind.i64.wrap ((ts.length : Int) - 1) = ((ts.length - 1 : Nat) : Int) := by rw [IntWalk.i64_in _ (by omega)]; omega
              have i2 : ts.length - 1 < ts.length := by omega
              by_cases hk1 : tl.kind = 1
              · obtain ⟨u1, u2⟩ := ieq_yes (a := tl.kind) 1 (by omega)
                by_cases hto : tl.to = f
                · have v1 : ((tl.to : Int) == (f : Int)) = true := by simp; omega
                  have hks := hk8 true (by rw [hop, hk1, hto, e40]; simp)
                  clear hk8 e40 hk1 hto hop
                  have k2 := small_c (bA s f).toNat (bA_le s _)
                  rw [show (cls (bA s f).toNat == 2) = false from by rw [hcl]; rfl] at k2
                  have k3 := great_c (bA s f).toNat (bA_le s _)
                  rw [show (cls (bA s f).toNat == 3) = false from by rw [hcl]; rfl] at k3
                  have k4 := digit_c (bA s f).toNat (bA_le s _)
                  rw [show (cls (bA s f).toNat == 4) = false from by rw [hcl]; rfl] at k4
                  have k5 := sign_c (bA s f).toNat (bA_le s _)
                  rw [show (cls (bA s f).toNat == 5) = false from by rw [hcl]; rfl] at k5
                  have k8 := mark_c (bA s f).toNat (bA_le s _)
                  rw [show (cls (bA s f).toNat == 8) = true from by rw [hcl]; rfl] at k8
                  obtain ⟨a46, b46⟩ := ieq_no (a := (bA s f).toNat) 46 (by intro e; rw [show (bA s f).toNat = 46 by omega] at hcl; exact absurd hcl (by decide))
                  obtain ⟨a39, b39⟩ := ieq_no (a := (bA s f).toNat) 39 (by intro e; rw [show (bA s f).toNat = 39 by omega] at hcl; exact absurd hcl (by decide))
                  obtain ⟨a33, b33⟩ := ieq_no (a := (bA s f).toNat) 33 (by intro e; rw [show (bA s f).toNat = 33 by omega] at hcl; exact absurd hcl (by decide))
                  obtain ⟨a59, b59⟩ := ieq_no (a := (bA s f).toNat) 59 (by intro e; rw [show (bA s f).toNat = 59 by omega] at hcl; exact absurd hcl (by decide))
                  have h0 := Lib.hid (show cl (bA s f) ≠ 0 by unfold cl; omega)
                  have hq := Lib.hid (fun hM => next_word 1000 ts hfe Hst.out h0.out (by unfold cl; omega) hM)
                  rw [show cl (bA s f) = 8 from hcl, show wordL s f 8 = [] from wordL_none fun b r _ => rfl, show kindS s f ts 8 = 4 from hks] at hq
                  have hx : s.extract f (f + 1) = ⟨#[bA s f]⟩ := by have := (tok_text 8 hfe).1; rwa [show wordL s f 8 = [] from wordL_none fun b r _ => rfl] at this
                  clear hks
                  clear hcl
                  have hfm1 : (f : Int) ≤ (f : Int) + 1 := by omega
                  have hfm2 : (f : Int) + 1 ≤ s.size := by omega
                  have hT2 := Lib.hid (fun o => World.ownsRow.alloc hT.out o)
                  have hsz := Lib.hid hb.out.size
                  have hne := Lib.hid (show some wr.heap.size ≠ (Value.slice (some ⟨g, 0, none⟩) ts.length cap).ownBlock from fun e => by have := ((World.ownsRow.lt hT.out) _ e.symm).2; omega)
                  go_wp2_with (first | (go_at_call 62; (with_reducible refine (k2 _).mono ?_); rintro e w' ⟨rfl, rfl⟩) | (go_at_call 64; (with_reducible refine (k3 _).mono ?_); rintro e w' ⟨rfl, rfl⟩) | (go_at_call 65; (with_reducible refine (k4 _).mono ?_); rintro e w' ⟨rfl, rfl⟩) | (go_at_call 66; (with_reducible refine (k5 _).mono ?_); rintro e w' ⟨rfl, rfl⟩) | (go_at_call 67; (with_reducible refine (k8 _).mono ?_); rintro e w' ⟨rfl, rfl⟩) | (at_builtin; refine wpList_pushTok rfl _ _ rfl w.heap.size (wr.alloc (.cells #[.int .i64 4, .string ⟨([bA s f]).toArray⟩, .int .i64 f, .int .i64 (((f + 1) : Nat) : Int)] 73)) (some ⟨g, 0, none⟩) cap ts ⟨4, [bA s f], f, (f + 1)⟩ #[.int .i64 4, .string ⟨([bA s f]).toArray⟩, .int .i64 f, .int .i64 (((f + 1) : Nat) : Int)] rfl rfl (hT2.out _) (wr.heap.size + 1) (by show _ = (wr.heap.push _).size; simp) rfl hts (by have := hsz.out; show _ ≤ (wr.heap.push _).size; simp; omega) ?_; intro av' cap' w3 hT3 hg3 hb3; have c3 := hg3.cell (a := ⟨wr.heap.size, 3, none⟩) (v := .int .i64 (((f + 1) : Nat) : Int)) (by rw [cell_at (heap_alloc_new wr _)]; rfl) hne.out; have HT3 := Lib.hid hT3; have HB3 := Lib.hid ((hb.out.alloc hsz.out _).trans hb3); clear hT3 hg3 hb3))
                  · go_ret3
                    have hM : ts.length = 1000 := nat_beq (k := 1000) (by assumption)
                    exact ⟨_, f, 34, rfl, by rw [hj2.out, next_many 1000 ts hfe Hst.out h0.out hM]; exact ⟨rfl, rfl, rfl⟩, hb.out.alloc hsz.out _⟩
                  · have hM : ts.length ≠ 1000 := fun e => by
                      have h : ((ts.length : Int) == 1000) = false := by assumption
                      rw [e] at h; exact absurd h (by decide)
                    have Hq := Lib.hid (hj2.out.trans (hq.out hM))
                    have hts9 : ts.length + 1 ≤ 1000 := by omega
                    clear hM
                    go_roundg (s.size - (f + 1))
                    case measure => omega
                    case rel => exact ⟨(f + 1), ts ++ [⟨4, [bA s f], f, (f + 1)⟩], av', cap', rfl, by omega, by simp; omega, by simp, by go_num, Hq, Lib.hid (by rw [List.length_append]; exact HT3.out), HB3⟩
                have v1 : ((tl.to : Int) == (f : Int)) = false := by simp; omega
                have hks := hk8 false (by rw [hop, hk1]; simp; exact fun _ => hto)
                clear hk8 e40 hk1 hto hop
                have k2 := small_c (bA s f).toNat (bA_le s _)
                rw [show (cls (bA s f).toNat == 2) = false from by rw [hcl]; rfl] at k2
                have k3 := great_c (bA s f).toNat (bA_le s _)
                rw [show (cls (bA s f).toNat == 3) = false from by rw [hcl]; rfl] at k3
                have k4 := digit_c (bA s f).toNat (bA_le s _)
                rw [show (cls (bA s f).toNat == 4) = false from by rw [hcl]; rfl] at k4
                have k5 := sign_c (bA s f).toNat (bA_le s _)
                rw [show (cls (bA s f).toNat == 5) = false from by rw [hcl]; rfl] at k5
                have k8 := mark_c (bA s f).toNat (bA_le s _)
                rw [show (cls (bA s f).toNat == 8) = true from by rw [hcl]; rfl] at k8
                obtain ⟨a46, b46⟩ := ieq_no (a := (bA s f).toNat) 46 (by intro e; rw [show (bA s f).toNat = 46 by omega] at hcl; exact absurd hcl (by decide))
                obtain ⟨a39, b39⟩ := ieq_no (a := (bA s f).toNat) 39 (by intro e; rw [show (bA s f).toNat = 39 by omega] at hcl; exact absurd hcl (by decide))
                obtain ⟨a33, b33⟩ := ieq_no (a := (bA s f).toNat) 33 (by intro e; rw [show (bA s f).toNat = 33 by omega] at hcl; exact absurd hcl (by decide))
                obtain ⟨a59, b59⟩ := ieq_no (a := (bA s f).toNat) 59 (by intro e; rw [show (bA s f).toNat = 59 by omega] at hcl; exact absurd hcl (by decide))
                have h0 := Lib.hid (show cl (bA s f) ≠ 0 by unfold cl; omega)
                have hq := Lib.hid (fun hM => next_word 1000 ts hfe Hst.out h0.out (by unfold cl; omega) hM)
                rw [show cl (bA s f) = 8 from hcl, show wordL s f 8 = [] from wordL_none fun b r _ => rfl, show kindS s f ts 8 = 5 from hks] at hq
                have hx : s.extract f (f + 1) = ⟨#[bA s f]⟩ := by have := (tok_text 8 hfe).1; rwa [show wordL s f 8 = [] from wordL_none fun b r _ => rfl] at this
                clear hks
                clear hcl
                have hfm1 : (f : Int) ≤ (f : Int) + 1 := by omega
                have hfm2 : (f : Int) + 1 ≤ s.size := by omega
                have hT2 := Lib.hid (fun o => World.ownsRow.alloc hT.out o)
                have hsz := Lib.hid hb.out.size
                have hne := Lib.hid (show some wr.heap.size ≠ (Value.slice (some ⟨g, 0, none⟩) ts.length cap).ownBlock from fun e => by have := ((World.ownsRow.lt hT.out) _ e.symm).2; omega)
                go_wp2_with (first | (go_at_call 62; (with_reducible refine (k2 _).mono ?_); rintro e w' ⟨rfl, rfl⟩) | (go_at_call 64; (with_reducible refine (k3 _).mono ?_); rintro e w' ⟨rfl, rfl⟩) | (go_at_call 65; (with_reducible refine (k4 _).mono ?_); rintro e w' ⟨rfl, rfl⟩) | (go_at_call 66; (with_reducible refine (k5 _).mono ?_); rintro e w' ⟨rfl, rfl⟩) | (go_at_call 67; (with_reducible refine (k8 _).mono ?_); rintro e w' ⟨rfl, rfl⟩) | (at_builtin; refine wpList_pushTok rfl _ _ rfl w.heap.size (wr.alloc (.cells #[.int .i64 5, .string ⟨([bA s f]).toArray⟩, .int .i64 f, .int .i64 (((f + 1) : Nat) : Int)] 73)) (some ⟨g, 0, none⟩) cap ts ⟨5, [bA s f], f, (f + 1)⟩ #[.int .i64 5, .string ⟨([bA s f]).toArray⟩, .int .i64 f, .int .i64 (((f + 1) : Nat) : Int)] rfl rfl (hT2.out _) (wr.heap.size + 1) (by show _ = (wr.heap.push _).size; simp) rfl hts (by have := hsz.out; show _ ≤ (wr.heap.push _).size; simp; omega) ?_; intro av' cap' w3 hT3 hg3 hb3; have c3 := hg3.cell (a := ⟨wr.heap.size, 3, none⟩) (v := .int .i64 (((f + 1) : Nat) : Int)) (by rw [cell_at (heap_alloc_new wr _)]; rfl) hne.out; have HT3 := Lib.hid hT3; have HB3 := Lib.hid ((hb.out.alloc hsz.out _).trans hb3); clear hT3 hg3 hb3))
                · go_ret3
                  have hM : ts.length = 1000 := nat_beq (k := 1000) (by assumption)
                  exact ⟨_, f, 34, rfl, by rw [hj2.out, next_many 1000 ts hfe Hst.out h0.out hM]; exact ⟨rfl, rfl, rfl⟩, hb.out.alloc hsz.out _⟩
                · have hM : ts.length ≠ 1000 := fun e => by
                    have h : ((ts.length : Int) == 1000) = false := by assumption
                    rw [e] at h; exact absurd h (by decide)
                  have Hq := Lib.hid (hj2.out.trans (hq.out hM))
                  have hts9 : ts.length + 1 ≤ 1000 := by omega
                  clear hM
                  go_roundg (s.size - (f + 1))
                  case measure => omega
                  case rel => exact ⟨(f + 1), ts ++ [⟨5, [bA s f], f, (f + 1)⟩], av', cap', rfl, by omega, by simp; omega, by simp, by go_num, Hq, Lib.hid (by rw [List.length_append]; exact HT3.out), HB3⟩
              obtain ⟨u1, u2⟩ := ieq_no (a := tl.kind) 1 (by omega)
              have hks := hk8 false (by rw [hop]; simp [hk1])
              clear hk8 e40 hk1 hop
              have k2 := small_c (bA s f).toNat (bA_le s _)
              rw [show (cls (bA s f).toNat == 2) = false from by rw [hcl]; rfl] at k2
              have k3 := great_c (bA s f).toNat (bA_le s _)
              rw [show (cls (bA s f).toNat == 3) = false from by rw [hcl]; rfl] at k3
              have k4 := digit_c (bA s f).toNat (bA_le s _)
              rw [show (cls (bA s f).toNat == 4) = false from by rw [hcl]; rfl] at k4
              have k5 := sign_c (bA s f).toNat (bA_le s _)
              rw [show (cls (bA s f).toNat == 5) = false from by rw [hcl]; rfl] at k5
              have k8 := mark_c (bA s f).toNat (bA_le s _)
              rw [show (cls (bA s f).toNat == 8) = true from by rw [hcl]; rfl] at k8
              obtain ⟨a46, b46⟩ := ieq_no (a := (bA s f).toNat) 46 (by intro e; rw [show (bA s f).toNat = 46 by omega] at hcl; exact absurd hcl (by decide))
              obtain ⟨a39, b39⟩ := ieq_no (a := (bA s f).toNat) 39 (by intro e; rw [show (bA s f).toNat = 39 by omega] at hcl; exact absurd hcl (by decide))
              obtain ⟨a33, b33⟩ := ieq_no (a := (bA s f).toNat) 33 (by intro e; rw [show (bA s f).toNat = 33 by omega] at hcl; exact absurd hcl (by decide))
              obtain ⟨a59, b59⟩ := ieq_no (a := (bA s f).toNat) 59 (by intro e; rw [show (bA s f).toNat = 59 by omega] at hcl; exact absurd hcl (by decide))
              have h0 := Lib.hid (show cl (bA s f) ≠ 0 by unfold cl; omega)
              have hq := Lib.hid (fun hM => next_word 1000 ts hfe Hst.out h0.out (by unfold cl; omega) hM)
              rw [show cl (bA s f) = 8 from hcl, show wordL s f 8 = [] from wordL_none fun b r _ => rfl, show kindS s f ts 8 = 5 from hks] at hq
              have hx : s.extract f (f + 1) = ⟨#[bA s f]⟩ := by have := (tok_text 8 hfe).1; rwa [show wordL s f 8 = [] from wordL_none fun b r _ => rfl] at this
              clear hks
              clear hcl
              have hfm1 : (f : Int) ≤ (f : Int) + 1 := by omega
              have hfm2 : (f : Int) + 1 ≤ s.size := by omega
              have hT2 := Lib.hid (fun o => World.ownsRow.alloc hT.out o)
              have hsz := Lib.hid hb.out.size
              have hne := Lib.hid (show some wr.heap.size ≠ (Value.slice (some ⟨g, 0, none⟩) ts.length cap).ownBlock from fun e => by have := ((World.ownsRow.lt hT.out) _ e.symm).2; omega)
              go_wp2_with (first | (go_at_call 62; (with_reducible refine (k2 _).mono ?_); rintro e w' ⟨rfl, rfl⟩) | (go_at_call 64; (with_reducible refine (k3 _).mono ?_); rintro e w' ⟨rfl, rfl⟩) | (go_at_call 65; (with_reducible refine (k4 _).mono ?_); rintro e w' ⟨rfl, rfl⟩) | (go_at_call 66; (with_reducible refine (k5 _).mono ?_); rintro e w' ⟨rfl, rfl⟩) | (go_at_call 67; (with_reducible refine (k8 _).mono ?_); rintro e w' ⟨rfl, rfl⟩) | (at_builtin; refine wpList_pushTok rfl _ _ rfl w.heap.size (wr.alloc (.cells #[.int .i64 5, .string ⟨([bA s f]).toArray⟩, .int .i64 f, .int .i64 (((f + 1) : Nat) : Int)] 73)) (some ⟨g, 0, none⟩) cap ts ⟨5, [bA s f], f, (f + 1)⟩ #[.int .i64 5, .string ⟨([bA s f]).toArray⟩, .int .i64 f, .int .i64 (((f + 1) : Nat) : Int)] rfl rfl (hT2.out _) (wr.heap.size + 1) (by show _ = (wr.heap.push _).size; simp) rfl hts (by have := hsz.out; show _ ≤ (wr.heap.push _).size; simp; omega) ?_; intro av' cap' w3 hT3 hg3 hb3; have c3 := hg3.cell (a := ⟨wr.heap.size, 3, none⟩) (v := .int .i64 (((f + 1) : Nat) : Int)) (by rw [cell_at (heap_alloc_new wr _)]; rfl) hne.out; have HT3 := Lib.hid hT3; have HB3 := Lib.hid ((hb.out.alloc hsz.out _).trans hb3); clear hT3 hg3 hb3))
              · go_ret3
                have hM : ts.length = 1000 := nat_beq (k := 1000) (by assumption)
                exact ⟨_, f, 34, rfl, by rw [hj2.out, next_many 1000 ts hfe Hst.out h0.out hM]; exact ⟨rfl, rfl, rfl⟩, hb.out.alloc hsz.out _⟩
              · have hM : ts.length ≠ 1000 := fun e => by
                  have h : ((ts.length : Int) == 1000) = false := by assumption
                  rw [e] at h; exact absurd h (by decide)
                have Hq := Lib.hid (hj2.out.trans (hq.out hM))
                have hts9 : ts.length + 1 ≤ 1000 := by omega
                clear hM
                go_roundg (s.size - (f + 1))
                case measure => omega
                case rel => exact ⟨(f + 1), ts ++ [⟨5, [bA s f], f, (f + 1)⟩], av', cap', rfl, by omega, by simp; omega, by simp, by go_num, Hq, Lib.hid (by rw [List.length_append]; exact HT3.out), HB3⟩
            · obtain ⟨c40, d40⟩ := ieq_no (a := (bA s f).toNat) 40 (by omega)
              have hks := hk8 false (by rw [decide_eq_false (fun e => h40 (by rw [e]; rfl))]; rfl)
              clear hk8 h40
              have k2 := small_c (bA s f).toNat (bA_le s _)
              rw [show (cls (bA s f).toNat == 2) = false from by rw [hcl]; rfl] at k2
              have k3 := great_c (bA s f).toNat (bA_le s _)
              rw [show (cls (bA s f).toNat == 3) = false from by rw [hcl]; rfl] at k3
              have k4 := digit_c (bA s f).toNat (bA_le s _)
              rw [show (cls (bA s f).toNat == 4) = false from by rw [hcl]; rfl] at k4
              have k5 := sign_c (bA s f).toNat (bA_le s _)
              rw [show (cls (bA s f).toNat == 5) = false from by rw [hcl]; rfl] at k5
              have k8 := mark_c (bA s f).toNat (bA_le s _)
              rw [show (cls (bA s f).toNat == 8) = true from by rw [hcl]; rfl] at k8
              obtain ⟨a46, b46⟩ := ieq_no (a := (bA s f).toNat) 46 (by intro e; rw [show (bA s f).toNat = 46 by omega] at hcl; exact absurd hcl (by decide))
              obtain ⟨a39, b39⟩ := ieq_no (a := (bA s f).toNat) 39 (by intro e; rw [show (bA s f).toNat = 39 by omega] at hcl; exact absurd hcl (by decide))
              obtain ⟨a33, b33⟩ := ieq_no (a := (bA s f).toNat) 33 (by intro e; rw [show (bA s f).toNat = 33 by omega] at hcl; exact absurd hcl (by decide))
              obtain ⟨a59, b59⟩ := ieq_no (a := (bA s f).toNat) 59 (by intro e; rw [show (bA s f).toNat = 59 by omega] at hcl; exact absurd hcl (by decide))
              have h0 := Lib.hid (show cl (bA s f) ≠ 0 by unfold cl; omega)
              have hq := Lib.hid (fun hM => next_word 1000 ts hfe Hst.out h0.out (by unfold cl; omega) hM)
              rw [show cl (bA s f) = 8 from hcl, show wordL s f 8 = [] from wordL_none fun b r _ => rfl, show kindS s f ts 8 = 5 from hks] at hq
              have hx : s.extract f (f + 1) = ⟨#[bA s f]⟩ := by have := (tok_text 8 hfe).1; rwa [show wordL s f 8 = [] from wordL_none fun b r _ => rfl] at this
              clear hks
              clear hcl
              have hfm1 : (f : Int) ≤ (f : Int) + 1 := by omega
              have hfm2 : (f : Int) + 1 ≤ s.size := by omega
              have hT2 := Lib.hid (fun o => World.ownsRow.alloc hT.out o)
              have hsz := Lib.hid hb.out.size
              have hne := Lib.hid (show some wr.heap.size ≠ (Value.slice av ts.length cap).ownBlock from fun e => by have := ((World.ownsRow.lt hT.out) _ e.symm).2; omega)
              go_wp2_with (first | (go_at_call 62; (with_reducible refine (k2 _).mono ?_); rintro e w' ⟨rfl, rfl⟩) | (go_at_call 64; (with_reducible refine (k3 _).mono ?_); rintro e w' ⟨rfl, rfl⟩) | (go_at_call 65; (with_reducible refine (k4 _).mono ?_); rintro e w' ⟨rfl, rfl⟩) | (go_at_call 66; (with_reducible refine (k5 _).mono ?_); rintro e w' ⟨rfl, rfl⟩) | (go_at_call 67; (with_reducible refine (k8 _).mono ?_); rintro e w' ⟨rfl, rfl⟩) | (at_builtin; refine wpList_pushTok rfl _ _ rfl w.heap.size (wr.alloc (.cells #[.int .i64 5, .string ⟨([bA s f]).toArray⟩, .int .i64 f, .int .i64 (((f + 1) : Nat) : Int)] 73)) av cap ts ⟨5, [bA s f], f, (f + 1)⟩ #[.int .i64 5, .string ⟨([bA s f]).toArray⟩, .int .i64 f, .int .i64 (((f + 1) : Nat) : Int)] rfl rfl (hT2.out _) (wr.heap.size + 1) (by show _ = (wr.heap.push _).size; simp) rfl hts (by have := hsz.out; show _ ≤ (wr.heap.push _).size; simp; omega) ?_; intro av' cap' w3 hT3 hg3 hb3; have c3 := hg3.cell (a := ⟨wr.heap.size, 3, none⟩) (v := .int .i64 (((f + 1) : Nat) : Int)) (by rw [cell_at (heap_alloc_new wr _)]; rfl) hne.out; have HT3 := Lib.hid hT3; have HB3 := Lib.hid ((hb.out.alloc hsz.out _).trans hb3); clear hT3 hg3 hb3))
              · go_ret3
                have hM : ts.length = 1000 := nat_beq (k := 1000) (by assumption)
                exact ⟨_, f, 34, rfl, by rw [hj2.out, next_many 1000 ts hfe Hst.out h0.out hM]; exact ⟨rfl, rfl, rfl⟩, hb.out.alloc hsz.out _⟩
              · have hM : ts.length ≠ 1000 := fun e => by
                  have h : ((ts.length : Int) == 1000) = false := by assumption
                  rw [e] at h; exact absurd h (by decide)
                have Hq := Lib.hid (hj2.out.trans (hq.out hM))
                have hts9 : ts.length + 1 ≤ 1000 := by omega
                clear hM
                go_roundg (s.size - (f + 1))
                case measure => omega
                case rel => exact ⟨(f + 1), ts ++ [⟨5, [bA s f], f, (f + 1)⟩], av', cap', rfl, by omega, by simp; omega, by simp, by go_num, Hq, Lib.hid (by rw [List.length_append]; exact HT3.out), HB3⟩
          have hcl : cls (bA s f).toNat = 0 := by
            have h1 := (Hst.out hfe).1
            have := cls_le (bA s f).toNat
            unfold cl at h1
            omega
          have k2 := small_c (bA s f).toNat (bA_le s _)
          rw [show (cls (bA s f).toNat == 2) = false from by rw [hcl]; rfl] at k2
          have k3 := great_c (bA s f).toNat (bA_le s _)
          rw [show (cls (bA s f).toNat == 3) = false from by rw [hcl]; rfl] at k3
          have k4 := digit_c (bA s f).toNat (bA_le s _)
          rw [show (cls (bA s f).toNat == 4) = false from by rw [hcl]; rfl] at k4
          have k5 := sign_c (bA s f).toNat (bA_le s _)
          rw [show (cls (bA s f).toNat == 5) = false from by rw [hcl]; rfl] at k5
          have k8 := mark_c (bA s f).toNat (bA_le s _)
          rw [show (cls (bA s f).toNat == 8) = false from by rw [hcl]; rfl] at k8
          obtain ⟨a46, b46⟩ := ieq_no (a := (bA s f).toNat) 46 (by intro e; rw [show (bA s f).toNat = 46 by omega] at hcl; exact absurd hcl (by decide))
          obtain ⟨a33, b33⟩ := ieq_no (a := (bA s f).toNat) 33 (by intro e; rw [show (bA s f).toNat = 33 by omega] at hcl; exact absurd hcl (by decide))
          obtain ⟨a59, b59⟩ := ieq_no (a := (bA s f).toNat) 59 (by intro e; rw [show (bA s f).toNat = 59 by omega] at hcl; exact absurd hcl (by decide))
          obtain ⟨a39, b39⟩ := ieq_no (a := (bA s f).toNat) 39 (by intro e; rw [show (bA s f).toNat = 39 by omega] at hcl; exact absurd hcl (by decide))
          obtain ⟨a40, b40⟩ := ieq_no (a := (bA s f).toNat) 40 (by intro e; rw [show (bA s f).toNat = 40 by omega] at hcl; exact absurd hcl (by decide))
          have hsz := Lib.hid hb.out.size
          have hq := Lib.hid (hj2.out.trans (next_alien 1000 ts hfe Hst.out hcl))
          clear hcl
          go_wp2_with (first | (go_at_call 62; (with_reducible refine (k2 _).mono ?_); rintro e w' ⟨rfl, rfl⟩) | (go_at_call 64; (with_reducible refine (k3 _).mono ?_); rintro e w' ⟨rfl, rfl⟩) | (go_at_call 65; (with_reducible refine (k4 _).mono ?_); rintro e w' ⟨rfl, rfl⟩) | (go_at_call 66; (with_reducible refine (k5 _).mono ?_); rintro e w' ⟨rfl, rfl⟩) | (go_at_call 67; (with_reducible refine (k8 _).mono ?_); rintro e w' ⟨rfl, rfl⟩))
          go_ret3
          exact ⟨_, f, 30, rfl, by rw [hq.out]; exact ⟨rfl, rfl, rfl⟩, hb.out.alloc hsz.out _⟩
        · have hfe2 : ¬ ((f : Int) < s.size) := by omega
          have hfe3 : ((f : Int) == (s.size : Int)) = true := by simp; omega
          go_wp2
          go_ret3
          exact ⟨_, 0, 0, rfl, by rw [hj2.out, drop_end (k := f) (by omega)]; exact ⟨hT.out, rfl, rfl⟩, hb.out⟩
      · go_wp2
        go_ret3
        exact ⟨_, f, 31, rfl, by rw [hj.out, hbad]; exact ⟨rfl, rfl, rfl⟩, hb.out⟩
    · have hlt2 : ¬ ((m : Int) < s.size) := by omega
      go_wp2
      go_ret3
      exact ⟨_, 0, 0, rfl, by rw [hj.out, drop_end (k := m) (by omega)]; exact ⟨hT.out, rfl, rfl⟩, hb.out⟩
end Go.Proofs.Ytjccohcigopdfaa.lx
end
