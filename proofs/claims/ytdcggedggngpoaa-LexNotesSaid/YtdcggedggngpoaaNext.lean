/- The next token: the scanner's next. -/
import Derived.Test.YtdcggedggngpoaaNextM
import Derived.Deep.RegionLaw
namespace Go.Proofs.Ytdcggedggngpoaa.lx
open Go.RowKit

def NextP (B c : Nat) (s : ByteArray) (ts : List Tok) (n : Nat) (w : World) (e : Ending) (w' : World) : Prop :=
  Below B w w' ∧ ((∃ m v' ts', e = .returned (.tuple #[]) ∧ Sc B c s m v' ts' w' ∧ n < m ∧ m ≤ s.size ∧ ts'.length ≤ 1000 ∧ ans 1000 (s.data.toList.drop n) ts n .btw = ans 1000 (s.data.toList.drop m) ts' m .btw) ∨
    (∃ p k, e = Wrong p k ∧ ans 1000 (s.data.toList.drop n) ts n .btw = .bad p k))

theorem tok_info : (Try.prog.info? 29).map (fun i => (i.zero, i.size, i.bytes)) = some (some (.agg #[.int .i64 0, .string ⟨#[]⟩, .int .i64 0, .int .i64 0]), 4, 40) := by kernel_rfl

/-- append to a slice of one's own, as one step of a region that draws -/
theorem step_append_own {P : Program} {ops : Array Oper} {o : Oper} {a : Act} {w : World} {K : Act → World → Prop} {Q : Exit → Act → World → Prop} {E : Prop} (hg : o.guard = none) (s x : Operand) (t : TypeId)
    (ho : o.op = .call { callee := .builtin .append, args := #[s, x], argTypes := #[t, t] })
    (base : Nat) (e : TypeId) (i : TypeInfo) (z : Value) (size bytes : Nat) (ht : P.underlying t = some (.slice e)) (hi : P.info? e = some i) (hz : i.zero = some z)
    (hsize : i.size = size) (hby : i.bytes = bytes) (hzs : z.cells.size = size) (hsz : 0 < size)
    (v : Value) (n : Nat) (xs : List Value) (hs : a.eval s = v) (hown : w.ownsRow base e size v n xs)
    (ad : Addr) (m c : Nat) (news : List Value) (hx : a.eval x = .slice (some ad) m c) (hl : news.length = m * size) (hnews : ∀ j u, news[j]? = some u → w.cell? (ad.add j) = some u) (h1 : ∀ u ∈ news, u.oneCell' = true)
    (h63 : n + m ≤ maxLen) (hbytes : (n + m) * bytes ≤ 140737488355328) (hbase : base ≤ w.heap.size)
    (h : ∀ v' w', w'.ownsRow base e size v' (n + m) (xs ++ news) → w.grownBy w' v.ownBlock → K (a.put o.dst v') w') :
    if Region.wanted o (yielded ops a.tmps) = true then Oper.wp P o a w K Q else E := by
  have hw : Region.wanted o (yielded ops a.tmps) = true := by simp [Region.wanted, hg]
  rw [if_pos hw]
  exact wp_append_own w s x t ho base e i z size bytes ht hi hz hsize hby hzs hsz v n xs hs hown ad m c news hx hl hnews h1 h63 hbytes hbase (fun v' w' a b _ => h v' w' a b)

theorem news_at (W : World) (T : Tok) : ∀ j u, (tcell T)[j]? = some u → ((W.alloc (.cells (tcell T).toArray 29)).drew).cell? ((⟨W.heap.size, 0, none⟩ : Addr).add j) = some u := by
  intro j u hj
  have e : (⟨W.heap.size, 0, none⟩ : Addr).add j = ⟨W.heap.size, j, none⟩ := by
    by_cases h0 : j = 0
    · subst h0; simp [Addr.add]
    · simp [Addr.add, h0]
  rw [e]
  have hb : ((W.alloc (.cells (tcell T).toArray 29)).drew).heap[W.heap.size]? = some (.cells (tcell T).toArray 29 (0, 0)) := heap_alloc_new W _
  rw [cell_at hb]
  simpa using hj
theorem news_one (T : Tok) : ∀ u ∈ tcell T, u.oneCell' = true := by
  intro u hu; simp [tcell] at hu; rcases hu with rfl | rfl | rfl | rfl <;> rfl
/-- a token more -/
theorem Sc.pushed {B c m : Nat} {s : ByteArray} {v : Value} {ts : List Tok} {W : World} (h : Sc B c s m v ts W) (hB : B ≤ W.heap.size) (o : Obj) (T : Tok) {v' : Value} {w4 : World}
    (hown : w4.ownsRow B 29 4 v' (ts.length + 1) (tcells ts ++ tcell T)) (hgr : ((W.alloc o).drew).grownBy w4 v.ownBlock) :
    (∃ a' cap', v' = .slice (some a') (ts.length + 1) cap') ∧ w4.cell? ⟨c, 2, none⟩ = some v ∧ w4.frozen? ⟨c, 2, none⟩ = false ∧ Below B W w4 ∧ Sc B c s m v' (ts ++ [T]) (w4.setCell ⟨c, 2, none⟩ v') := by
  have hlt := h.lt
  have hsz : W.heap.size < (W.alloc o).drew.heap.size := by show _ < (W.heap.push o).size; simp
  have hb4 : w4.heap[c]? = some (.cells #[.string s, .int .i64 (m : Nat), v] 46 (0, 0)) := by
    rw [hgr.block c (by omega) (fun e => h.other e.symm)]
    exact (Lib.alloc_old W o c hlt).trans h.block
  have hTk : Tk B w4 v' (ts ++ [T]) := by
    unfold Tk; rw [tcells_append, List.length_append]; simpa [tcells] using hown
  have hne : v'.ownBlock ≠ some c := by
    rcases hown.2 with ⟨h1, _⟩ | ⟨g, cap, cur, h1, _, h3, _⟩
    · rw [h1]; simp [Value.ownBlock]
    · rw [h1]; intro e; cases e
      rw [hb4] at h3; simp at h3
  refine ⟨?_, by rw [cell_at hb4]; rfl, by simp [World.frozen?, hb4], ?_, h.base, ?_, hTk.kp ((Kp.refl c w4).set 2 _) hne, hne⟩
  · rcases hown.2 with ⟨_, h1⟩ | ⟨g, cap, cur, h1, _⟩
    · omega
    · exact ⟨_, _, h1⟩
  · exact ((Below.refl B W).alloc hB o).drew.grown hgr (by omega) (fun k hk => ((World.ownsRow.lt h.row) k hk).1)
  · simp [World.setCell, Array.getElem?_modify, hb4]

set_option maxHeartbeats 4000000 in
theorem next_c {B c n : Nat} {s : ByteArray} {v : Value} {ts : List Tok} {w : World} (h : Sc B c s n v ts w) (hB : B ≤ w.heap.size) (hn : n < s.size) (hs : s.size ≤ 4096) (hst : Stop s n) (hts : ts.length ≤ 1000) :
    Calls Try.prog 27 #[.pointer (some ⟨c, 0, none⟩)] w (NextP B c s ts n w) := by
  obtain ⟨a, cap, rfl⟩ := h.row.shape
  obtain ⟨i0, hi, hz0, hz1, hz2⟩ := info_parts tok_info
  have c0 := h.c0
  have c1 := h.c1
  have hh := Lib.hid h
  have hgt := get_bA s
  have hn2 : (n : Int) < s.size := by omega
  have kc := class_c (bA s n).toNat (bA_le s _)
  clear h
  have hst' := Lib.hid hst
  clear hst
  go_enter Try.func27, Try.ntmps27
  go_wp2
  go_quiet ((go_at_call 33; exact still0 kc))
  generalize hw2 : World.drewN w _ = w2
  have hS := Lib.hid (show Sc B c s n (.slice a ts.length cap) ts w2 by rw [← hw2]; exact hh.out.drew _)
  have hK := Lib.hid (show Kp c w w2 by rw [← hw2]; exact Kp.drawn ..)
  clear hw2 c0 c1 hgt
  have c0 := hS.out.c0
  have c1 := hS.out.c1
  have c2 := hS.out.c2
  have hbel := Lib.hid (hK.out.below (Below.refl B w) hS.out.base hB)
  by_cases h0 : cl (bA s n) = 0
  · obtain ⟨a1, a2⟩ := ieq_yes (a := cls (bA s n).toNat) 0 (by unfold cl at h0; omega)
    have hq := Lib.hid (next_alien 1000 ts hn hst'.out h0)
    clear h0
    go_wp2
    exact ⟨rfl, hbel.out, .inr ⟨n, 30, rfl, hq.out⟩⟩
  obtain ⟨a1, a2⟩ := ieq_no (a := cls (bA s n).toNat) 0 (by unfold cl at h0; omega)
  have H0 := Lib.hid h0
  clear h0
  by_cases hM : ts.length = 1000
  · obtain ⟨b1, b2⟩ := ieq_yes (a := ts.length) 1000 (by omega)
    have hq := Lib.hid (next_many 1000 ts hn hst'.out H0.out hM)
    clear hM
    go_wp2
    exact ⟨rfl, hbel.out, .inr ⟨n, 34, rfl, hq.out⟩⟩
  obtain ⟨b1, b2⟩ := ieq_no (a := ts.length) 1000 (by omega)
  have HM := Lib.hid hM
  clear hM
  by_cases h6 : cl (bA s n) = 6
  · obtain ⟨d1, d2⟩ := ieq_yes (a := cls (bA s n).toNat) 6 (by unfold cl at h6; omega)
    have hq := Lib.hid (next_quote 1000 ts hn h6 HM.out)
    clear h6
    go_wp2_with fail
    refine (quoted_c hS.out hn hs).mono ?_
    rintro e w3 ⟨hk3, ⟨m, acc, rfl, hS3, hnm, hms, hqo⟩ | ⟨p, k, rfl, hqb⟩⟩
    · have HS := Lib.hid hS3
      have HK := Lib.hid hk3
      have HQ := Lib.hid hqo
      clear hS3 hk3 hqo c0 c1 c2
      have c1 := HS.out.c1
      have c2 := HS.out.c2
      go_wp2
      have c2' : ∀ o, (w3.alloc o).cell? ⟨c, 2, none⟩ = some (.slice a ts.length cap) := fun o => (HS.out.alloc o).c2
      have c1' : ∀ o, (w3.alloc o).cell? ⟨c, 1, none⟩ = some (.int .i64 (m : Nat)) := fun o => (HS.out.alloc o).c1
      have hz := Lib.hid (show B ≤ w3.heap.size by have := hbel.out.size; have := HK.out.size; omega)
      have hl := HM.out
      go_region_law ((refine step_append_own rfl (.tmp 50) (.tmp 59) 23 rfl B 29 i0 _ 4 40 Try.underlying23 hi hz0 hz1 hz2 rfl (by decide) (.slice a ts.length cap) ts.length (tcells ts) (by simp [Act.eval]) (World.ownsRow.alloc HS.out.row _) ⟨w3.heap.size, 0, none⟩ 1 1 (tcell ⟨1, acc, n, m⟩) (by simp [Act.eval]) rfl (news_at w3 ⟨1, acc, n, m⟩) (news_one _) (by unfold maxLen; omega) (by omega) (by have := hz.out; simp; omega) ?_; intro v' w4 hown hgr; obtain ⟨⟨a', cap', rfl⟩, g2, gf, gb, gs⟩ := HS.out.pushed hz.out _ ⟨1, acc, n, m⟩ hown hgr; have GB := Lib.hid gb; have GS := Lib.hid gs; clear gb gs hown hgr))
      all_goals
        go_end0
        refine ⟨((HK.out.below hbel.out HS.out.base (by have := hbel.out.size; omega)).trans GB.out).setCell HS.out.base _, .inl ⟨m, _, _, rfl, GS.out, hnm, hms, by rw [List.length_append, List.length_singleton]; omega, ?_⟩⟩
        rw [hq.out]; exact HQ.out 1000 ts
    · unfold Wrong
      exact ⟨rfl, hk3.below hbel.out hS.out.base (by have := hbel.out.size; omega), .inr ⟨p, k, rfl, by rw [hq.out]; exact hqb 1000 ts⟩⟩
  · obtain ⟨d1, d2⟩ := ieq_no (a := cls (bA s n).toNat) 6 (by unfold cl at h6; omega)
    have hq := Lib.hid (next_word 1000 ts hn hst'.out H0.out h6 HM.out)
    clear h6
    have kk := kind_c hS.out hn hs hts (cls (bA s n).toNat)
    go_wp2_with fail
    refine kk.mono ?_
    rintro e w3 ⟨rfl, hb3⟩
    have hS3 := Lib.hid (hS.out.stay hb3)
    have hb3' := Lib.hid (hbel.out.trans (hb3.mono (by have := hbel.out.size; omega)))
    clear hb3 kk
    go_wp2_with fail
    refine (word_c hS3.out hn hs (cls (bA s n).toNat)).mono ?_
    rintro e w4 ⟨rfl, hS4, hK4⟩
    have HS := Lib.hid hS4
    have HB4 := Lib.hid (hK4.below hb3'.out hS3.out.base (by have := hb3'.out.size; omega))
    have hmw := HS.out
    clear hS4 hK4 c0 c1 c2
    have hm4 : n + 1 + (wordL s n (cls (bA s n).toNat)).length ≤ s.size := by
      have := (List.takeWhile_prefix (l := s.data.toList.drop (n + 1)) fun b => joinB (cls (bA s n).toNat) (cl b)).length_le
      unfold wordL
      rw [List.length_drop] at this
      have hs2 : s.data.toList.length = s.size := by simp
      omega
    have hq2 := Lib.hid hq.out
    unfold cl at hq
    generalize hW : wordL s n (cls (bA s n).toNat) = W at *
    generalize hm : n + 1 + W.length = m at *
    have Hm := Lib.hid hm
    have HW := Lib.hid hW
    clear hm hW hmw
    generalize kindS s n ts (cls (bA s n).toNat) = kd at *
    have c1 := HS.out.c1
    have c2 := HS.out.c2
    have c2' : ∀ o, (w4.alloc o).cell? ⟨c, 2, none⟩ = some (.slice a ts.length cap) := fun o => (HS.out.alloc o).c2
    have c1' : ∀ o, (w4.alloc o).cell? ⟨c, 1, none⟩ = some (.int .i64 (m : Nat)) := fun o => (HS.out.alloc o).c1
    have hz := Lib.hid (show B ≤ w4.heap.size by have := HB4.out.size; omega)
    have hl := HM.out
    go_wp2
    go_region_law ((refine step_append_own rfl (.tmp 50) (.tmp 59) 23 rfl B 29 i0 _ 4 40 Try.underlying23 hi hz0 hz1 hz2 rfl (by decide) (.slice a ts.length cap) ts.length (tcells ts) (by simp [Act.eval]) (World.ownsRow.alloc HS.out.row _) ⟨w4.heap.size, 0, none⟩ 1 1 (tcell ⟨kd, bA s n :: W, n, m⟩) (by simp [Act.eval]) rfl (news_at w4 ⟨kd, bA s n :: W, n, m⟩) (news_one _) (by unfold maxLen; omega) (by omega) (by have := hz.out; simp; omega) ?_; intro v' w5 hown hgr; obtain ⟨⟨a', cap', rfl⟩, g2, gf, gb, gs⟩ := HS.out.pushed hz.out _ ⟨kd, bA s n :: W, n, m⟩ hown hgr; have GB := Lib.hid gb; have GS := Lib.hid gs; clear gb gs hown hgr))
    all_goals
      go_end0
      refine ⟨(HB4.out.trans GB.out).setCell HS.out.base _, .inl ⟨m, _, _, rfl, GS.out, by have := Hm.out; omega, hm4, by rw [List.length_append, List.length_singleton]; omega, ?_⟩⟩
      exact hq.out
end Go.Proofs.Ytdcggedggngpoaa.lx
