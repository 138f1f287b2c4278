/- OpsKnown: its walk. -/
import Derived.Test.YtnbbcegfcpcndaaDoorLawO
namespace Go.Proofs.YtnbbcegfcpcndaaDoor.op
open Go.RowKit

def namesR (l : List (List UInt8 × Int × Int)) : Array Value := (l.map fun r => .string (bs r.1)).toArray
/-- block g holds the names of the rows l -/
def Ns (g : Nat) (l : List (List UInt8 × Int × Int)) (w : World) : Prop := w.heap[g]? = some (.cells (namesR l) 9 (0, 0))
theorem Ns.kept {g : Nat} {l : List (List UInt8 × Int × Int)} {w w' : World} (h : Ns g l w) (hb : Below w.heap.size w w') : Ns g l w' := by
  unfold Ns at *
  have hg : g < w.heap.size := by
    by_cases hlt : g < w.heap.size
    · exact hlt
    · rw [Array.getElem?_eq_none (by omega)] at h; cases h
  rw [hb.block g hg]; exact h
theorem Ns.cell {g m : Nat} {l : List (List UInt8 × Int × Int)} {w : World} (h : Ns g l w) {r : List UInt8 × Int × Int} (hm : l[m]? = some r) : w.cell? ⟨g, m, none⟩ = some (.string (bs r.1)) := by
  rw [cell_at h]
  simp [namesR, hm]
theorem rowsI_known : ∀ r ∈ rowsI, (progI r.1).2.2.2 = true ∧ r.1.length ≤ 4 := by decide +kernel
theorem rowsP_known : ∀ r ∈ rowsP, (progP r.1).2.2 = true ∧ r.1.length ≤ 4 := by decide +kernel

set_option maxRecDepth 10000 in
set_option maxHeartbeats 4000000 in
theorem known_w (s : ByteArray) (w : World) (hz : s.size ≤ 9223372036854775807) (hb : Both w) :
    Calls Tryd.prog 5 #[.string s] w fun e w' => e = .returned (.bool true) ∧ Below w.heap.size w w' := by
  by_cases hbig : s.size > 1024
  · clear hb
    go_enter Tryd.func5, Tryd.ntmps5
    go_wp2
    go_ret
    exact ⟨rfl, Below.refl _ _⟩
  have hbig2 : s.size ≤ 1024 := by omega
  have Hb := Lib.hid hb
  clear hb
  have hlen : rowsI.length = 38 := by rfl
  have hlenP : rowsP.length = 4 := by rfl
  have HkI := Lib.hid rowsI_known
  have HkP := Lib.hid rowsP_known
  go_enter Tryd.func5, Tryd.ntmps5
  go_wp2_with fail
  generalize hw1 : World.alloc w _ = w1
  have HN := Lib.hid (show Ns w.heap.size rowsI w1 by rw [← hw1]; exact heap_alloc_new w _)
  have HB := Lib.hid (show Below w.heap.size w w1 by rw [← hw1]; exact (Below.refl _ _).alloc (Nat.le_refl _) _)
  clear hw1
  have hzs : w.heap.size < w1.heap.size := by
    have := HN.out
    unfold Ns at this
    by_cases hlt : w.heap.size < w1.heap.size
    · exact hlt
    · rw [Array.getElem?_eq_none (by omega)] at this; cases this
  go_loopg [4] 38 (fun k i wr => ∃ m : Nat, k = 38 - m ∧ m ≤ 38 ∧ i = .int .i64 m ∧ Hid (Below w.heap.size w wr) ∧ Hid (Ns w.heap.size rowsI wr))
  case atStart => exact ⟨0, by omega, by omega, rfl, HB, HN⟩
  case round =>
    clear HB HN hzs
    obtain ⟨m, hgk, hm, rfl, hB, hN⟩ := hrel
    by_cases hlt : m < 38
    · have hlt2 : (m : Int) < 38 := by omega
      obtain ⟨r, hr⟩ : ∃ r, rowsI[m]? = some r := ⟨_, List.getElem?_eq_getElem (by omega)⟩
      obtain ⟨hk, hl⟩ := HkI.out r (List.mem_of_getElem? hr)
      have Hr := Lib.hid hr
      clear hr
      have hc := hN.out.cell Hr.out
      have hsz : (bs r.1).size ≤ 4 := by simpa [bs, ByteArray.size] using hl
      have hdt : (bs r.1).data.toList = r.1 := by simp [bs]
      obtain ⟨p, l, q, hI⟩ : ∃ p l q, progI r.1 = (p, l, q, true) := ⟨_, _, _, by rw [← hk]⟩
      obtain ⟨p', l', q', b', hI'⟩ : ∃ p l q b, progI (bs r.1 ++ s).data.toList = (p, l, q, b) := ⟨_, _, _, _, rfl⟩
      rw [← hdt] at hI
      clear hdt hk hl
      have k1 := fun w h => lI (bs r.1) w h hI
      have k2 := fun w => rI (bs r.1) w hI
      have k3 := fun w h => lI (bs r.1 ++ s) w h hI'
      have k4 := fun w => rI (bs r.1 ++ s) w hI'
      generalize hT : bs r.1 = T at *
      have HT := Lib.hid hT
      clear hT hI hI'
      have e1 : (p != p) = false := by simp
      have e2 : (l != l) = false := by simp
      have e3 : (q != q) = false := by simp
      have e4 : (b' != b') = false := by simp
      go_wp2_with fail
      refine (k1 _ (Hb.out.kept hB.out).1).mono ?_
      rintro e w2 ⟨rfl, h2⟩
      have H2 := Lib.hid (hB.out.trans (h2.mono hB.out.size))
      have N2 := Lib.hid (hN.out.kept h2)
      clear h2 k1 hc
      have hc := Ns.cell N2.out Hr.out
      rw [HT.out] at hc
      go_wp2_with fail
      refine (k2 _).mono ?_
      rintro e w3 ⟨rfl, h3⟩
      have H3 := Lib.hid (H2.out.trans (h3.mono H2.out.size))
      have N3 := Lib.hid (N2.out.kept h3)
      clear h3 k2 hc
      have hc := Ns.cell N3.out Hr.out
      rw [HT.out] at hc
      go_wp2_with fail
      refine (k3 _ (Hb.out.kept H3.out).1).mono ?_
      rintro e w4 ⟨rfl, h4⟩
      have H4 := Lib.hid (H3.out.trans (h4.mono H3.out.size))
      have N4 := Lib.hid (N3.out.kept h4)
      clear h4 k3 hc
      have hc := Ns.cell N4.out Hr.out
      rw [HT.out] at hc
      go_wp2_with fail
      refine (k4 _).mono ?_
      rintro e w5 ⟨rfl, h5⟩
      have H5 := Lib.hid (H4.out.trans (h5.mono H4.out.size))
      have N5 := Lib.hid (N4.out.kept h5)
      clear h5 k4 hc
      go_wp2_with fail
      go_roundg (38 - (m + 1))
      case measure => omega
      case rel => exact ⟨m + 1, rfl, by omega, by go_num, H5, N5⟩
    · obtain rfl : m = 38 := by omega
      clear hlt
      go_wp2_with fail
      generalize hw1 : World.alloc wr _ = v1
      have MN := Lib.hid (show Ns wr.heap.size rowsP v1 by rw [← hw1]; exact heap_alloc_new wr _)
      have MB := Lib.hid (show Below w.heap.size w v1 by rw [← hw1]; exact hB.out.alloc hB.out.size _)
      clear hw1 hN hB
      have hzs : wr.heap.size < v1.heap.size := by
        have := MN.out
        unfold Ns at this
        by_cases hlt : wr.heap.size < v1.heap.size
        · exact hlt
        · rw [Array.getElem?_eq_none (by omega)] at this; cases this
      go_loopg [22] 4 (fun k i vr => ∃ m : Nat, k = 4 - m ∧ m ≤ 4 ∧ i = .int .i64 m ∧ Hid (Below w.heap.size w vr) ∧ Hid (Ns wr.heap.size rowsP vr))
      case atStart => exact ⟨0, by omega, by omega, rfl, MB, MN⟩
      case round =>
        clear MB MN hzs
        obtain ⟨m, hgk, hm, rfl, hB, hN⟩ := hrel
        by_cases hlt : m < 4
        · have hlt2 : (m : Int) < 4 := by omega
          obtain ⟨r, hr⟩ : ∃ r, rowsP[m]? = some r := ⟨_, List.getElem?_eq_getElem (by omega)⟩
          obtain ⟨hk, hl⟩ := HkP.out r (List.mem_of_getElem? hr)
          have Hr := Lib.hid hr
          clear hr
          have hc := hN.out.cell Hr.out
          have hdt : (bs r.1).data.toList = r.1 := by simp [bs]
          obtain ⟨p, l, hP⟩ : ∃ p l, progP r.1 = (p, l, true) := ⟨_, _, by rw [← hk]⟩
          rw [← hdt] at hP
          clear hdt hk hl
          have k1 := fun w h => lP (bs r.1) w h hP
          have k2 := fun w => rP (bs r.1) w hP
          generalize hT : bs r.1 = T at *
          have HT := Lib.hid hT
          clear hT hP
          have e1 : (p != p) = false := by simp
          have e2 : (l != l) = false := by simp
          go_wp2_with fail
          refine (k1 _ (Hb.out.kept hB.out).2).mono ?_
          rintro e w2 ⟨rfl, h2⟩
          have H2 := Lib.hid (hB.out.trans (h2.mono hB.out.size))
          have N2 := Lib.hid (hN.out.kept h2)
          clear h2 k1 hc
          have hc := Ns.cell N2.out Hr.out
          rw [HT.out] at hc
          go_wp2_with fail
          refine (k2 _).mono ?_
          rintro e w3 ⟨rfl, h3⟩
          have H3 := Lib.hid (H2.out.trans (h3.mono H2.out.size))
          have N3 := Lib.hid (N2.out.kept h3)
          clear h3 k2 hc
          go_wp2_with fail
          go_roundg (4 - (m + 1))
          case measure => omega
          case rel => exact ⟨m + 1, rfl, by omega, by go_num, H3, N3⟩
        · obtain rfl : m = 4 := by omega
          clear hlt
          obtain ⟨p, l, b, hP⟩ : ∃ p l b, progP (ByteArray.mk #[42] ++ s).data.toList = (p, l, b) := ⟨_, _, _, rfl⟩
          have k1 := lP (ByteArray.mk #[42] ++ s) wr (Hb.out.kept hB.out).2 hP
          have k2 := fun w => rP (ByteArray.mk #[42] ++ s) w hP
          clear hP
          have e1 : (b == b) = true := by simp
          go_wp2_with fail
          refine k1.mono ?_
          rintro e w2 ⟨rfl, h2⟩
          have H2 := Lib.hid (hB.out.trans (h2.mono hB.out.size))
          clear h2 k1
          go_wp2_with fail
          refine (k2 _).mono ?_
          rintro e w3 ⟨rfl, h3⟩
          have H3 := Lib.hid (H2.out.trans (h3.mono H2.out.size))
          clear h3 k2
          go_wp2
          go_ret
          exact ⟨rfl, H3.out⟩
end Go.Proofs.YtnbbcegfcpcndaaDoor.op
