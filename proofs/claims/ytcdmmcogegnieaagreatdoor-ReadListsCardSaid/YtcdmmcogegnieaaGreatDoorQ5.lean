/- Terms, names and the program's reader in memory; what a call of the reader's keeps.; The program's reader: next, here, isMark, passes, expect.; The program's reader: expect, atom, compound, infix, mayBegin.; The program's reader: integer, variable. -/
import Derived.Test.YtcdmmcogegnieaaGreatDoorQ2
import Derived.Test.YtcdmmcogegnieaaGreatDoorQ4
set_option linter.unusedVariables false
section
/- Terms, names and the program's reader in memory; what a call of the reader's keeps. -/
namespace Go.Proofs.YtcdmmcogegnieaaGreatDoor.rd
open Go.RowKit
open Go.Proofs.YtcdmmcogegnieaaGreatDoor.op (bs strC Both Tb)
open Go.Proofs.YtcdmmcogegnieaaGreatDoor.lx (Tok Tk tcell tcells cell_at)

/-! ### terms -/
def T.k : T → Nat
  | .leaf k _ _ => k
  | .cmp _ _ => 4
def T.n : T → Int
  | .leaf _ n _ => n
  | .cmp _ _ => 0
def T.s : T → List UInt8
  | .leaf _ _ s => s
  | .cmp s _ => s
/-- a term's four cells, a being the slice of its parts -/
def tv (t : T) (a : Value) : List Value := [.int .i64 (t.k : Nat), .int .i64 t.n, .string (bs t.s), a]
def tvs (l : List (T × Value)) : List Value := l.flatMap fun x => tv x.1 x.2
theorem tvs_append (a b : List (T × Value)) : tvs (a ++ b) = tvs a ++ tvs b := by simp [tvs]
theorem tvs_len (l : List (T × Value)) : (tvs l).length = l.length * 4 := by
  induction l with
  | nil => rfl
  | cons t l ih => rw [tvs, List.flatMap_cons, List.length_append, List.length_cons]; rw [tvs] at ih; rw [ih]; simp [tv]; omega
theorem tvs_get (l : List (T × Value)) (i j : Nat) (hi : i < l.length) (hj : j < 4) : (tvs l)[i * 4 + j]? = (tv l[i].1 l[i].2)[j]? := by
  induction l generalizing i with
  | nil => exact absurd hi (Nat.not_lt_zero _)
  | cons t l ih =>
    rw [tvs, List.flatMap_cons]
    cases i with
    | zero => rw [List.getElem?_append_left (by simp [tv]; omega)]; simp
    | succ i =>
      rw [List.getElem?_append_right (by simp [tv]; omega)]
      rw [show (i + 1) * 4 + j - (tv t.1 t.2).length = i * 4 + j from by simp [tv]; omega]
      rw [tvs] at ih
      rw [ih i (by simpa using hi)]; rfl
mutual
/-- a is the slice of the term's parts; all lies in blocks of D -/
def Rp (D : Nat → Prop) (w : World) : T → Value → Prop
  | .leaf _ _ _, a => a = .slice none 0 0
  | .cmp _ l, a => ∃ az : List Value, w.ownsRow 0 25 4 a l.length (tvs (l.zip az)) ∧ (∀ g, a.ownBlock = some g → D g) ∧ Rps D w l az
def Rps (D : Nat → Prop) (w : World) : List T → List Value → Prop
  | [], az => az = []
  | t :: l, az => ∃ a az', az = a :: az' ∧ Rp D w t a ∧ Rps D w l az'
end
section
variable {D D' : Nat → Prop} {w w' : World}
theorem Rps.len : ∀ {l : List T} {az : List Value}, Rps D w l az → az.length = l.length
  | [], az, h => by rw [Rps] at h; rw [h]; rfl
  | t :: l, az, h => by
    rw [Rps] at h
    obtain ⟨a, az', rfl, _, h⟩ := h
    simp [Rps.len h]
theorem Rps.append : ∀ {l m : List T} {az bs : List Value}, Rps D w l az → Rps D w m bs → Rps D w (l ++ m) (az ++ bs)
  | [], m, az, bs, h, k => by rw [Rps] at h; subst h; exact k
  | t :: l, m, az, bs, h, k => by
    rw [Rps] at h
    obtain ⟨a, az', rfl, h1, h2⟩ := h
    rw [List.cons_append, Rps]
    exact ⟨a, az' ++ bs, rfl, h1, Rps.append h2 k⟩
theorem Rps.nil : Rps D w [] [] := by rw [Rps]
theorem Rps.one {t : T} {a : Value} (h : Rp D w t a) : Rps D w [t] [a] := by
  rw [Rps]; exact ⟨a, [], rfl, h, Rps.nil⟩
theorem Rps.two {t u : T} {a b : Value} (h : Rp D w t a) (k : Rp D w u b) : Rps D w [t, u] [a, b] := by
  rw [Rps]; exact ⟨a, [b], rfl, h, Rps.one k⟩
theorem Rps.get : ∀ {l : List T} {az : List Value}, Rps D w l az → ∀ i (hi : i < l.length) (hj : i < az.length), Rp D w l[i] az[i]
  | [], az, _, i, hi, _ => absurd hi (Nat.not_lt_zero _)
  | t :: l, az, h, i, hi, hj => by
    rw [Rps] at h
    obtain ⟨a, az', rfl, h1, h2⟩ := h
    cases i with
    | zero => exact h1
    | succ i => exact Rps.get h2 i (by simpa using hi) (by simpa using hj)
mutual
theorem Rp.imp (hd : ∀ k, k < w.heap.size → D k → D' k) : ∀ {t : T} {a : Value}, Rp D w t a → Rp D' w t a
  | .leaf _ _ _, a, h => by rw [Rp] at h ⊢; exact h
  | .cmp _ l, a, h => by
    rw [Rp] at h ⊢
    obtain ⟨az, h1, h2, h3⟩ := h
    exact ⟨az, h1, fun g hg => hd g ((World.ownsRow.lt h1) g hg).2 (h2 g hg), Rps.imp hd h3⟩
theorem Rps.imp (hd : ∀ k, k < w.heap.size → D k → D' k) : ∀ {l : List T} {az : List Value}, Rps D w l az → Rps D' w l az
  | [], az, h => by rw [Rps] at h ⊢; exact h
  | t :: l, az, h => by
    rw [Rps] at h ⊢
    obtain ⟨a, az', h1, h2, h3⟩ := h
    exact ⟨a, az', h1, Rp.imp hd h2, Rps.imp hd h3⟩
end
end

/-! ### what is kept -/
/-- blocks of the type t lie az they lay -/
def Kt (t : TypeId) (w w' : World) : Prop := ∀ (k : Nat) (cs : Array Value) (fr : Nat × Nat), w.heap[k]? = some (.cells cs t fr) → w'.heap[k]? = some (.cells cs t fr)
theorem own_kept {w w' : World} {t : TypeId} {B z n : Nat} {v : Value} {xs : List Value} (h : w.ownsRow B t z v n xs) (hk : Kt t w w') : w'.ownsRow B t z v n xs := by
  refine ⟨h.1, ?_⟩
  rcases h.2 with hn | ⟨g, cap, cur, h1, h2, h3, h4⟩
  · exact .inl hn
  · exact .inr ⟨g, cap, cur, h1, h2, hk _ _ _ h3, h4⟩
/-- blocks of D of the type t lie as they lay -/
def Kd (D : Nat → Prop) (t : TypeId) (w w' : World) : Prop := ∀ (k : Nat) (cs : Array Value) (fr : Nat × Nat), D k → w.heap[k]? = some (.cells cs t fr) → w'.heap[k]? = some (.cells cs t fr)
theorem Kt.kd {t : TypeId} {w w' : World} (h : Kt t w w') (D : Nat → Prop) : Kd D t w w' := fun k cs fr _ hk => h k cs fr hk
theorem own_keptD {D : Nat → Prop} {w w' : World} {t : TypeId} {B z n : Nat} {v : Value} {xs : List Value} (h : w.ownsRow B t z v n xs) (hd : ∀ g, v.ownBlock = some g → D g) (hk : Kd D t w w') : w'.ownsRow B t z v n xs := by
  refine ⟨h.1, ?_⟩
  rcases h.2 with hn | ⟨g, cap, cur, h1, h2, h3, h4⟩
  · exact .inl hn
  · exact .inr ⟨g, cap, cur, h1, h2, hk _ _ _ (hd g (by rw [h1]; rfl)) h3, h4⟩
mutual
theorem Rp.keptD {D : Nat → Prop} {w w' : World} (hk : Kd D 25 w w') : ∀ {t : T} {a : Value}, Rp D w t a → Rp D w' t a
  | .leaf _ _ _, a, h => by rw [Rp] at h ⊢; exact h
  | .cmp _ l, a, h => by
    rw [Rp] at h ⊢
    obtain ⟨az, h2, h1, h3⟩ := h
    exact ⟨az, own_keptD h2 h1 hk, h1, Rps.keptD hk h3⟩
theorem Rps.keptD {D : Nat → Prop} {w w' : World} (hk : Kd D 25 w w') : ∀ {l : List T} {az : List Value}, Rps D w l az → Rps D w' l az
  | [], az, h => by rw [Rps] at h ⊢; exact h
  | t :: l, az, h => by
    rw [Rps] at h ⊢
    obtain ⟨a, az', h1, h2, h3⟩ := h
    exact ⟨a, az', h1, Rp.keptD hk h2, Rps.keptD hk h3⟩
end
theorem Rp.kept {D : Nat → Prop} {w w' : World} (hk : Kt 25 w w') {t : T} {a : Value} (h : Rp D w t a) : Rp D w' t a := h.keptD (hk.kd D)
theorem Rps.kept {D : Nat → Prop} {w w' : World} (hk : Kt 25 w w') {l : List T} {az : List Value} (h : Rps D w l az) : Rps D w' l az := h.keptD (hk.kd D)
theorem kd_set {D : Nat → Prop} {w : World} {t : TypeId} {p : Addr} (hp : ¬ D p.block) (v : Value) : Kd D t w (w.setCell p v) := fun k cs fr hd hk => by
  rw [Below.heap_setCell _ _ _ _ (fun e => by subst e; exact hp hd)]; exact hk
theorem Rp.set {D : Nat → Prop} {w : World} {t : T} {a : Value} (h : Rp D w t a) {p : Addr} (hp : ¬ D p.block) (v : Value) : Rp D (w.setCell p v) t a := h.keptD (kd_set hp v)
theorem Rps.set {D : Nat → Prop} {w : World} {l : List T} {az : List Value} (h : Rps D w l az) {p : Addr} (hp : ¬ D p.block) (v : Value) : Rps D (w.setCell p v) l az := h.keptD (kd_set hp v)
theorem lt_of {w : World} {k : Nat} {o : Obj} (h : w.heap[k]? = some o) : k < w.heap.size := (Array.getElem?_eq_some_iff.1 h).1
theorem Kt.alloc {t : TypeId} {w w' : World} (h : Kt t w w') (o : Obj) : Kt t w (w'.alloc o) := fun k cs fr hk => by
  have := h k cs fr hk
  rw [Lib.alloc_old w' o k (lt_of this)]; exact this
theorem Kt.refl (t : TypeId) (w : World) : Kt t w w := fun _ _ _ h => h
theorem Kt.trans {t : TypeId} {a b c : World} (h : Kt t a b) (k : Kt t b c) : Kt t a c := fun i cs fr hi => k i cs fr (h i cs fr hi)
theorem Kt.below {t : TypeId} {w w' : World} (h : Below w.heap.size w w') : Kt t w w' := fun k cs fr hk => by
  rw [h.block k (lt_of hk)]; exact hk

/-! ### tokens that may come -/
structure Good (L : List Tok) : Prop where
  len : L.length ≤ 1000
  text : ∀ t ∈ L, t.text.length ≤ 4096
  frm : ∀ t ∈ L, t.frm ≤ 4096
  to : ∀ t ∈ L, t.to ≤ 4096
  digs : ∀ t ∈ L, t.kind = 3 → t.text ≠ []
  kind : ∀ t ∈ L, 1 ≤ t.kind ∧ t.kind ≤ 6

/-! ### the reader -/
structure Rd (r b : Nat) (tk : Value) (L : List Tok) (e i : Nat) (nv : Value) (nm : List (List UInt8)) (w : World) : Prop where
  blk : w.heap[r]? = some (.cells #[tk, .int .i64 (e : Nat), .int .i64 (i : Nat), nv] 70 (0, 0))
  toks : Tk 0 w tk L
  names : w.ownsRow b 9 1 nv nm.length (strC (nm.map bs))
  le : i ≤ L.length
  nml : nm.length ≤ i
  tb : Both w
  lo : 2 ≤ r
  rb : r < b
  bz : b ≤ w.heap.size
  good : Good L
  en : e ≤ 4096
/-- what the reader's functions keep: all but the reader itself and the strings from b on -/
structure Fr (r b : Nat) (w w' : World) : Prop where
  os : w'.os = w.os
  tape : w'.tape = w.tape
  output : w'.output = w.output
  size : w.heap.size ≤ w'.heap.size
  block : ∀ k, k < w.heap.size → k ≠ r → (k < b ∨ ∀ cs fr, w.heap[k]? ≠ some (.cells cs 9 fr)) → w'.heap[k]? = w.heap[k]?
section
variable {r b e i : Nat} {tk nv nv' nv'' : Value} {L : List Tok} {nm : List (List UInt8)} {w w' w'' : World}
theorem Fr.refl (r b : Nat) (w : World) : Fr r b w w := ⟨rfl, rfl, rfl, Nat.le_refl _, fun _ _ _ _ => rfl⟩
theorem Fr.trans (h : Fr r b w w') (k : Fr r b w' w'') : Fr r b w w'' :=
  ⟨k.os.trans h.os, k.tape.trans h.tape, k.output.trans h.output, Nat.le_trans h.size k.size,
    fun j hj hr hn => (k.block j (Nat.lt_of_lt_of_le hj h.size) hr (hn.imp id fun hs cs fr e => hs cs fr (by rw [← h.block j hj hr hn]; exact e))).trans (h.block j hj hr hn)⟩
theorem Fr.of_below (h : Below w.heap.size w w') : Fr r b w w' := ⟨h.os, h.tape, h.output, h.size, fun k hk _ _ => h.block k hk⟩
theorem Fr.alloc (h : Fr r b w w') (o : Obj) : Fr r b w (w'.alloc o) := h.trans (Fr.of_below ((Below.refl _ _).alloc (Nat.le_refl _) o))
theorem Fr.drew (h : Fr r b w w') (k : Nat) : Fr r b w (w'.drewN k) := h.trans (Fr.of_below ⟨rfl, rfl, rfl, Nat.le_refl _, fun _ _ => rfl⟩)
theorem Fr.set (h : Fr r b w w') {p : Addr} (hp : p.block = r ∨ w.heap.size ≤ p.block) (v : Value) : Fr r b w (w'.setCell p v) :=
  ⟨h.os, h.tape, h.output, by simpa [World.setCell] using h.size, fun k hk hr hn => (Below.heap_setCell _ _ _ _ (by rcases hp with h1 | h1 <;> omega)).trans (h.block k hk hr hn)⟩
theorem Fr.own {B : Nat} (h : Fr r b w w') (hb : Below B w' w'') (hB : w.heap.size ≤ B) : Fr r b w w'' :=
  ⟨hb.os.trans h.os, hb.tape.trans h.tape, hb.output.trans h.output, Nat.le_trans h.size hb.size, fun k hk hr hn => (hb.block k (by omega)).trans (h.block k hk hr hn)⟩
/-- whatever is no reader and no strings lies as it lay -/
theorem Fr.keep (h : Fr r b w w') (hR : Rd r b tk L e i nv nm w) {t : TypeId} (h1 : t ≠ 70) (h2 : t ≠ 9) : Kt t w w' := fun k cs fr hk => by
  rw [h.block k (lt_of hk) (fun e => by subst e; rw [hR.blk] at hk; cases hk; exact h1 rfl) (.inr fun cs' fr' e => by rw [hk] at e; cases e; exact h2 rfl)]
  exact hk
/-- what lies ahead of the reader lies as it lay -/
theorem Fr.below (h : Fr r b w w') (hR : Rd r b tk L e i nv nm w) : Below r w w' :=
  ⟨h.os, h.tape, h.output, h.size, fun k hk => h.block k (by have := lt_of hR.blk; omega) (by omega) (.inl (by have := hR.rb; omega))⟩
theorem Rd.lt (h : Rd r b tk L e i nv nm w) : r < w.heap.size := lt_of h.blk
/-- the reader behind what turns none of it -/
theorem Rd.kept (h : Rd r b tk L e i nv nm w) (hb : w'.heap[r]? = w.heap[r]?) (hk : Kt 51 w w') (hs : Kt 9 w w') (hl : Below r w w') : Rd r b tk L e i nv nm w' :=
  ⟨hb.trans h.blk, own_kept h.toks hk, own_kept h.names hs, h.le, h.nml, by
    obtain ⟨⟨t0, f0, h0, _⟩, ⟨t1, f1, h1, _⟩⟩ := h.tb
    have := h.lo
    exact ⟨⟨t0, f0, by rw [hl.block 0 (by omega)]; exact h0, rfl⟩, ⟨t1, f1, by rw [hl.block 1 (by omega)]; exact h1, rfl⟩⟩, h.lo, h.rb, Nat.le_trans h.bz hl.size, h.good, h.en⟩
theorem Rd.stay (h : Rd r b tk L e i nv nm w) (hb : Below w.heap.size w w') : Rd r b tk L e i nv nm w' :=
  h.kept (hb.block r h.lt) (Kt.below hb) (Kt.below hb) (hb.mono (by have := h.lt; omega))
theorem Rd.alloc (h : Rd r b tk L e i nv nm w) (o : Obj) : Rd r b tk L e i nv nm (w.alloc o) := h.stay ((Below.refl _ _).alloc (Nat.le_refl _) o)
theorem Rd.drew (h : Rd r b tk L e i nv nm w) (k : Nat) : Rd r b tk L e i nv nm (w.drewN k) := h.stay ⟨rfl, rfl, rfl, Nat.le_refl _, fun _ _ => rfl⟩
theorem Rd.cell (h : Rd r b tk L e i nv nm w) (j : Nat) : w.cell? ⟨r, j, none⟩ = (#[tk, .int .i64 (e : Nat), .int .i64 (i : Nat), nv] : Array Value)[j]? := cell_at h.blk j
theorem Rd.free (h : Rd r b tk L e i nv nm w) (j : Nat) : w.frozen? ⟨r, j, none⟩ = false := by simp [World.frozen?, h.blk]
theorem kt_set {t u : TypeId} {p : Addr} {v : Value} {cs : Array Value} {fr : Nat × Nat} (hp : w.heap[p.block]? = some (.cells cs u fr)) (hn : t ≠ u) : Kt t w (w.setCell p v) := fun k cs' fr' hk => by
  rw [Below.heap_setCell _ _ _ _ (fun e => by subst e; rw [hp] at hk; cases hk; exact hn rfl)]; exact hk
/-- a store into a block of the call's own -/
theorem Rd.set (h : Rd r b tk L e i nv nm w) {p : Addr} {v : Value} {cs : Array Value} {u : TypeId} {fr : Nat × Nat} (hp : w.heap[p.block]? = some (.cells cs u fr)) (hr : r < p.block) (h1 : 51 ≠ u) (h2 : 9 ≠ u) :
    Rd r b tk L e i nv nm (w.setCell p v) :=
  h.kept (Below.heap_setCell _ _ _ _ (by omega)) (kt_set hp h1) (kt_set hp h2) ((Below.refl r w).setCell (by omega) _)
theorem heap_set_at {w : World} {k j : Nat} {v : Value} {cs : Array Value} {t : TypeId} (h : w.heap[k]? = some (.cells cs t (0, 0))) : (w.setCell ⟨k, j, none⟩ v).heap[k]? = some (.cells (cs.setIfInBounds j v) t (0, 0)) := by
  simp [World.setCell, Array.getElem?_modify, h]
/-- one token on -/
theorem Rd.step (h : Rd r b tk L e i nv nm w) (hi : i < L.length) : Rd r b tk L e (i + 1) nv nm (w.setCell ⟨r, 2, none⟩ (.int .i64 ((i : Int) + 1))) :=
  ⟨by rw [heap_set_at h.blk]; rfl, own_kept h.toks (kt_set h.blk (by decide)), own_kept h.names (kt_set h.blk (by decide)), hi, by have := h.nml; omega, by
    obtain ⟨⟨t0, f0, h0, _⟩, ⟨t1, f1, h1, _⟩⟩ := h.tb
    have := h.lo
    exact ⟨⟨t0, f0, by rw [Below.heap_setCell _ _ _ _ (by show 0 ≠ r; omega)]; exact h0, rfl⟩, ⟨t1, f1, by rw [Below.heap_setCell _ _ _ _ (by show 1 ≠ r; omega)]; exact h1, rfl⟩⟩, h.lo, h.rb, by simpa [World.setCell] using h.bz, h.good, h.en⟩
end
/-- the token at place i, behind the last one none -/
def tokAt (L : List Tok) (e i : Nat) : Tok := L.getD i ⟨0, [], e, e⟩
theorem nx_tok (L : List Tok) (e i : Nat) : (nx ((ab L).drop i)).kind = (tokAt L e i).kind ∧ (nx ((ab L).drop i)).text = (tokAt L e i).text := by
  induction L generalizing i with
  | nil => simp [ab, nx, tokAt, K0]
  | cons a L ih =>
    cases i with
    | zero => cases L <;> simp [ab, nx, tokAt]
    | succ i =>
      have h1 : (ab (a :: L)).drop (i + 1) = (ab L).drop i := by cases L <;> simp [ab]
      rw [h1]; simpa [tokAt] using ih i
theorem ab_len (L : List Tok) : (ab L).length = L.length := by
  induction L with
  | nil => rfl
  | cons a L ih => cases L <;> simp_all [ab]
theorem nx_near (L : List Tok) (e i : Nat) (hi : i + 1 < L.length) : (nx ((ab L).drop i)).near = nearB (tokAt L e i) (tokAt L e (i + 1)) := by
  induction L generalizing i with
  | nil => simp at hi
  | cons a L ih =>
    cases i with
    | zero =>
      cases L with
      | nil => simp at hi
      | cons b L => simp [ab, nx, tokAt]
    | succ i =>
      have h1 : (ab (a :: L)).drop (i + 1) = (ab L).drop i := by cases L <;> simp [ab]
      rw [h1]; simpa [tokAt] using ih i (by simpa using hi)
theorem nx_nil (L : List Tok) (i : Nat) (h : L.length ≤ i) : nx ((ab L).drop i) = K0 := by
  rw [List.drop_eq_nil_of_le (by rw [ab_len]; exact h)]; rfl
theorem lt_of_kind {L : List Tok} {e i : Nat} (h : (tokAt L e i).kind ≠ 0) : i < L.length := by
  rcases Nat.lt_or_ge i L.length with h1 | h1
  · exact h1
  · exfalso; apply h; simp [tokAt, List.getElem?_eq_none h1]

/-! ### what the functions give -/
def Wr (p k : Nat) : Ending := .panicked [{ v := .iface 67 (.agg #[.int .i64 (p : Nat), .int .i64 (k : Nat)]), recovered := false }]
/-- a term, and where the reader stands; or a panic -/
def TQ (r b : Nat) (tk : Value) (L : List Tok) (e i : Nat) (w : World) (x : Res T) (en : Ending) (w' : World) : Prop :=
  match x with
  | .ok (t, s) => ∃ a i' nv', en = .returned (.agg #[.int .i64 (t.k : Nat), .int .i64 t.n, .string (bs t.s), a]) ∧ Rp (fun k => w.heap.size ≤ k) w' t a ∧ s.1 = (ab L).drop i' ∧ i ≤ i' ∧ Rd r b tk L e i' nv' s.2 w' ∧ Fr r b w w'
  | .error k => ∃ p : Nat, en = Wr p k ∧ Below r w w'
def PQ (r b : Nat) (tk : Value) (L : List Tok) (e i : Nat) (w : World) (x : Res (T × Int)) (en : Ending) (w' : World) : Prop :=
  match x with
  | .ok ((t, q), s) => ∃ a i' nv', en = .returned (.tuple #[.agg #[.int .i64 (t.k : Nat), .int .i64 t.n, .string (bs t.s), a], .int .i64 q]) ∧ Rp (fun k => w.heap.size ≤ k) w' t a ∧ s.1 = (ab L).drop i' ∧ i ≤ i' ∧ Rd r b tk L e i' nv' s.2 w' ∧ Fr r b w w'
  | .error k => ∃ p : Nat, en = Wr p k ∧ Below r w w'
/-- the closure that takes a term within d others: what it has caught -/
structure Cl (r b d c : Nat) (w : World) : Prop where
  rd : w.heap[b]? = some (.cells #[.pointer (some ⟨r, 0, none⟩)] 68 (0, 0))
  dp : w.heap[c]? = some (.cells #[.int .i64 (d : Nat)] 3 (0, 0))
theorem Cl.kept {r b d c : Nat} {w w' : World} (h : Cl r b d c w) (h1 : Kt 68 w w') (h2 : Kt 3 w w') : Cl r b d c w' := ⟨h1 _ _ _ h.rd, h2 _ _ _ h.dp⟩
theorem Cl.stay {r b d c : Nat} {w w' : World} (h : Cl r b d c w) (hb : Below w.heap.size w w') : Cl r b d c w' := h.kept (Kt.below hb) (Kt.below hb)
def clV (b c : Nat) : Value := .func (.func 66) #[] #[.pointer (some ⟨b, 0, none⟩), .pointer (some ⟨c, 0, none⟩)]
/-- the closure does az the function x says -/
def WOk (r b cb cd d : Nat) (tk : Value) (L : List Tok) (e : Nat) (x : W) : Prop :=
  ∀ (most : Int) (i : Nat) (nv : Value) (nm : List (List UInt8)) (w : World), -10000 ≤ most → most ≤ 10000 → Cl r cb d cd w → Rd r b tk L e i nv nm w →
    Calls Tryz.prog 66 #[.int .i64 most, .pointer (some ⟨cb, 0, none⟩), .pointer (some ⟨cd, 0, none⟩)] w (TQ r b tk L e i w (x most ((ab L).drop i, nm)))
end Go.Proofs.YtcdmmcogegnieaaGreatDoor.rd
end
section
/- The program's reader: next, here, isMark, passes, expect. -/
namespace Go.Proofs.YtcdmmcogegnieaaGreatDoor.rd
open Go.RowKit
open Go.Proofs.YtcdmmcogegnieaaGreatDoor.op (bs strC Both Tb)
open Go.Proofs.YtcdmmcogegnieaaGreatDoor.lx (Tok Tk tcell tcells cell_at)
set_option maxRecDepth 20000

theorem term_info : (Tryz.prog.info? 25).map (·.size) = some 4 := by kernel_rfl
theorem tok_info : (Tryz.prog.info? 51).map (·.size) = some 4 := by kernel_rfl
theorem wrong_info : (Tryz.prog.info? 67).map (·.size) = some 2 := by kernel_rfl
theorem set4 {W : World} {g : Nat} {t : TypeId} {a0 a1 a2 a3 : Value} (h : W.heap[g]? = some (.cells #[a0, a1, a2, a3] t (0, 0))) (a b c d : Value) :
    ((((W.setCell ⟨g, 0, none⟩ a).setCell ⟨g, 1, none⟩ b).setCell ⟨g, 2, none⟩ c).setCell ⟨g, 3, none⟩ d).heap[g]? = some (.cells #[a, b, c, d] t (0, 0)) :=
  heap_set_at (heap_set_at (heap_set_at (heap_set_at h)))
theorem cells4 {W : World} {g : Nat} {t : TypeId} {a b c d : Value} (h : W.heap[g]? = some (.cells #[a, b, c, d] t (0, 0))) :
    W.cell? ⟨g, 0, none⟩ = some a ∧ W.cell? ⟨g, 1, none⟩ = some b ∧ W.cell? ⟨g, 2, none⟩ = some c ∧ W.cell? ⟨g, 3, none⟩ = some d ∧ ∀ j, W.frozen? ⟨g, j, none⟩ = false :=
  ⟨by rw [cell_at h]; rfl, by rw [cell_at h]; rfl, by rw [cell_at h]; rfl, by rw [cell_at h]; rfl, fun j => by simp [World.frozen?, h]⟩
theorem ret_tok {fn : Func} {p : Tmp} (h : fn.results = #[.cell p 51]) (tmps : Array Value) (w : World) {g : Nat} {a b c d : Value} (hp : tmps.getD p undef = .pointer (some ⟨g, 0, none⟩)) (hg : w.heap[g]? = some (.cells #[a, b, c, d] 51 (0, 0))) :
    (results fn tmps).run Tryz.prog w = .ok (.agg #[a, b, c, d]) w := results_cell_row h tmps w g _ _ _ _ hp hg Tryz.underlying51 rfl tok_info
theorem ret_term {fn : Func} {p : Tmp} (h : fn.results = #[.cell p 25]) (tmps : Array Value) (w : World) {g : Nat} {a b c d : Value} (hp : tmps.getD p undef = .pointer (some ⟨g, 0, none⟩)) (hg : w.heap[g]? = some (.cells #[a, b, c, d] 25 (0, 0))) :
    (results fn tmps).run Tryz.prog w = .ok (.agg #[a, b, c, d]) w := results_cell_row h tmps w g _ _ _ _ hp hg Tryz.underlying25 rfl term_info
theorem ret_wrong {fn : Func} {p : Tmp} (h : fn.results = #[.cell p 67]) (tmps : Array Value) (w : World) {g : Nat} {a b : Value} (hp : tmps.getD p undef = .pointer (some ⟨g, 0, none⟩)) (hg : w.heap[g]? = some (.cells #[a, b] 67 (0, 0))) :
    (results fn tmps).run Tryz.prog w = .ok (.agg #[a, b]) w := results_cell_row h tmps w g _ _ _ _ hp hg Tryz.underlying67 rfl wrong_info

theorem field_k (a b c d : Value) (w : World) : (Instr.field 51 (.agg #[a, b, c, d]) 0).run Tryz.prog w = .ok a w := by kernel_rfl
theorem field_x (a b c d : Value) (w : World) : (Instr.field 51 (.agg #[a, b, c, d]) 1).run Tryz.prog w = .ok b w := by kernel_rfl
theorem field_f (a b c d : Value) (w : World) : (Instr.field 51 (.agg #[a, b, c, d]) 2).run Tryz.prog w = .ok c w := by kernel_rfl

def tokV (t : Tok) : Value := .agg #[.int .i64 (t.kind : Nat), .string (bs t.text), .int .i64 (t.frm : Nat), .int .i64 (t.to : Nat)]
theorem below4 {B g : Nat} {w W : World} (h : Below B w W) (hg : B ≤ g) (a b c d : Value) : Below B w ((((W.setCell ⟨g, 0, none⟩ a).setCell ⟨g, 1, none⟩ b).setCell ⟨g, 2, none⟩ c).setCell ⟨g, 3, none⟩ d) :=
  (((h.setCell (p := ⟨g, 0, none⟩) hg _).setCell (p := ⟨g, 1, none⟩) hg _).setCell (p := ⟨g, 2, none⟩) hg _).setCell (p := ⟨g, 3, none⟩) hg _
theorem below_drawn (B : Nat) (w : World) (k : Nat) : Below B w (w.drewN k) := ⟨rfl, rfl, rfl, Nat.le_refl _, fun _ _ => rfl⟩
set_option maxRecDepth 10000 in
set_option maxHeartbeats 1000000 in
theorem next_c {r b e i : Nat} {tk nv : Value} {L : List Tok} {nm : List (List UInt8)} {w : World} (h : Rd r b tk L e i nv nm w) :
    Calls Tryz.prog 49 #[.pointer (some ⟨r, 0, none⟩)] w fun en w' => en = .returned (tokV (tokAt L e i)) ∧ Below w.heap.size w w' := by
  have hle := h.le
  have hlen := h.good.len
  have hlt := h.lt
  obtain ⟨a, cap, rfl⟩ := h.toks.shape
  have c0 : ∀ o, (w.alloc o).cell? ⟨r, 0, none⟩ = some (.slice a L.length cap) := fun o => by rw [(h.alloc o).cell]; rfl
  have c1 : ∀ o, (w.alloc o).cell? ⟨r, 1, none⟩ = some (.int .i64 (e : Nat)) := fun o => by rw [(h.alloc o).cell]; rfl
  have c2 : ∀ o, (w.alloc o).cell? ⟨r, 2, none⟩ = some (.int .i64 (i : Nat)) := fun o => by rw [(h.alloc o).cell]; rfl
  have H := Lib.hid h
  clear h
  by_cases hi : i < L.length
  · have hne : ((i : Int) == (L.length : Int)) = false := by rw [beq_eq_false_iff_ne]; omega
    obtain ⟨g, cap', hv, hcap, _, hgl, hcell⟩ := H.out.toks.row (by omega)
    obtain ⟨rfl, rfl⟩ : a = some ⟨g, 0, none⟩ ∧ cap = cap' := by simp at hv; exact hv
    obtain ⟨t0, t1, t2, t3⟩ := hcell i hi
    have hta : tokAt L e i = L[i] := by simp [tokAt, hi]
    have Hta := Lib.hid hta
    clear hta hcell hv
    generalize hT : L[i] = T at *
    clear hT
    have hlt2 : (i : Int) < (L.length : Int) := by omega
    go_enter Tryz.func49, Tryz.ntmps49
    go_wp2
    go_quiet (fail)
    go_wp2
    generalize hW : World.drewN _ _ = W
    have hB : Below w.heap.size w W := by rw [← hW]; exact ((Below.refl _ w).alloc (Nat.le_refl _) _).trans (below_drawn _ _ _)
    have hrb : W.heap[w.heap.size]? = some (.cells #[.int .i64 0, .string ⟨#[]⟩, .int .i64 0, .int .i64 0] 51 (0, 0)) := by rw [← hW]; exact heap_alloc_new w _
    have hz : w.heap.size < W.heap.size := lt_of hrb
    have hR := H.out.stay hB
    have d0 : W.cell? ⟨r, 0, none⟩ = some (.slice (some ⟨g, 0, none⟩) L.length cap) := by rw [hR.cell]; rfl
    have d2 : W.cell? ⟨r, 2, none⟩ = some (.int .i64 (i : Nat)) := by rw [hR.cell]; rfl
    have x2 : ∀ j, W.cell? ⟨g, j, none⟩ = w.cell? ⟨g, j, none⟩ := fun j => World.cell?_of_block (hB.block g hgl)
    rw [← x2] at t0 t1 t2 t3
    have r0 : W.cell? ⟨w.heap.size, 0, none⟩ = some (.int .i64 0) := by rw [cell_at hrb]; rfl
    have r1 : W.cell? ⟨w.heap.size, 1, none⟩ = some (.string ⟨#[]⟩) := by rw [cell_at hrb]; rfl
    have r2 : W.cell? ⟨w.heap.size, 2, none⟩ = some (.int .i64 0) := by rw [cell_at hrb]; rfl
    have r3 : W.cell? ⟨w.heap.size, 3, none⟩ = some (.int .i64 0) := by rw [cell_at hrb]; rfl
    have f0 : ∀ j, W.frozen? ⟨w.heap.size, j, none⟩ = false := fun j => by simp [World.frozen?, hrb]
    have HB := Lib.hid hB
    have HR := Lib.hid hrb
    clear hW hrb hR x2 c0 c1 c2 hB
    generalize hBe : w.heap.size = B at *
    have HBe := Lib.hid hBe
    clear hBe
    go_region
    all_goals
      go_wp2
      refine bodyPost_ret (ret_tok rfl _ _ rfl (set4 HR.out _ _ _ _)) rfl ?_
      exact ⟨by rw [Hta.out]; rfl, by rw [HBe.out]; exact (below4 HB.out (Nat.le_refl _) _ _ _ _).drew⟩
  · obtain rfl : i = L.length := by omega
    have hta : tokAt L e L.length = ⟨0, [], e, e⟩ := by simp [tokAt]
    have Hta := Lib.hid hta
    clear hta
    go_enter Tryz.func49, Tryz.ntmps49
    go_wp2
    go_quiet (fail)
    go_wp2
    generalize hW : World.drewN _ _ = W
    have hB : Below w.heap.size w W := by rw [← hW]; exact ((Below.refl _ w).alloc (Nat.le_refl _) _).trans (below_drawn _ _ _)
    have hrb : W.heap[w.heap.size]? = some (.cells #[.int .i64 0, .string ⟨#[]⟩, .int .i64 0, .int .i64 0] 51 (0, 0)) := by rw [← hW]; exact heap_alloc_new w _
    have hz : w.heap.size < W.heap.size := lt_of hrb
    have hR := H.out.stay hB
    have d1 : W.cell? ⟨r, 1, none⟩ = some (.int .i64 (e : Nat)) := by rw [hR.cell]; rfl
    have r0 : W.cell? ⟨w.heap.size, 0, none⟩ = some (.int .i64 0) := by rw [cell_at hrb]; rfl
    have r1 : W.cell? ⟨w.heap.size, 1, none⟩ = some (.string ⟨#[]⟩) := by rw [cell_at hrb]; rfl
    have r2 : W.cell? ⟨w.heap.size, 2, none⟩ = some (.int .i64 0) := by rw [cell_at hrb]; rfl
    have r3 : W.cell? ⟨w.heap.size, 3, none⟩ = some (.int .i64 0) := by rw [cell_at hrb]; rfl
    have f0 : ∀ j, W.frozen? ⟨w.heap.size, j, none⟩ = false := fun j => by simp [World.frozen?, hrb]
    have HB := Lib.hid hB
    have HR := Lib.hid hrb
    clear hW hrb hR c0 c1 c2 hB
    generalize hBe : w.heap.size = B at *
    have HBe := Lib.hid hBe
    clear hBe
    go_region
    all_goals
      go_wp2
      refine bodyPost_ret (ret_tok rfl _ _ rfl (set4 HR.out _ _ _ _)) rfl ?_
      exact ⟨by rw [Hta.out]; rfl, by rw [HBe.out]; exact (below4 HB.out (Nat.le_refl _) _ _ _ _).drew⟩

set_option maxHeartbeats 1000000 in
theorem here_c {r b e i : Nat} {tk nv : Value} {L : List Tok} {nm : List (List UInt8)} {w : World} (h : Rd r b tk L e i nv nm w) (k : Nat) :
    Calls Tryz.prog 50 #[.pointer (some ⟨r, 0, none⟩), .int .i64 (k : Nat)] w fun en w' => en = .returned (.agg #[.int .i64 ((tokAt L e i).frm : Nat), .int .i64 (k : Nat)]) ∧ Below w.heap.size w w' := by
  have H := Lib.hid h
  clear h
  have hf := field_f
  go_enter Tryz.func50, Tryz.ntmps50
  go_wp2_with fail
  refine (next_c (H.out.alloc _)).mono ?_
  rintro en w1 ⟨rfl, hb⟩
  have hB := Lib.hid (((Below.refl _ w).alloc (Nat.le_refl _) (.cells #[.int .i64 0, .int .i64 0] 67)).trans (hb.mono (by simp)))
  have hrb := (hb.block w.heap.size (by simp)).trans (heap_alloc_new w _)
  have r0 : w1.cell? ⟨w.heap.size, 0, none⟩ = some (.int .i64 0) := by rw [cell_at hrb]; rfl
  have r1 : w1.cell? ⟨w.heap.size, 1, none⟩ = some (.int .i64 0) := by rw [cell_at hrb]; rfl
  have f0 : ∀ j, w1.frozen? ⟨w.heap.size, j, none⟩ = false := fun j => by simp [World.frozen?, hrb]
  have HR := Lib.hid hrb
  clear hrb hb
  unfold tokV
  generalize hBe : w.heap.size = B at *
  have HBe := Lib.hid hBe
  clear hBe
  go_wp2
  (try simp only [Exit.inBlock, Exit.then])
  refine bodyPost_ret (ret_wrong rfl _ _ rfl (heap_set_at (heap_set_at HR.out))) rfl ?_
  exact ⟨rfl, by rw [HBe.out]; exact (hB.out.setCell (p := ⟨B, 0, none⟩) (Nat.le_refl _) _).setCell (p := ⟨B, 1, none⟩) (Nat.le_refl _) _⟩

set_option maxHeartbeats 1000000 in
theorem isMark_c (t : Tok) (m : List UInt8) (w : World) :
    Calls Tryz.prog 89 #[tokV t, .string (bs m)] w fun en w' => en = .returned (.bool (t.kind == 5 && t.text == m)) ∧ Below w.heap.size w w' := by
  unfold tokV
  by_cases h5 : t.kind = 5
  · have x1 : ((t.kind : Int) == 5) = true := by simp [h5]
    by_cases hm : t.text = m
    · have x2 : ((bs t.text).toList == (bs m).toList) = true := by simp [hm]
      have hq : (t.kind == 5 && t.text == m) = true := by simp [h5, hm]
      rw [hq]
      generalize bs t.text = a at *
      generalize bs m = b at *
      clear hq hm h5
      go_enter Tryz.func89, Tryz.ntmps89
      go_wp2
      go_ret
      exact ⟨rfl, (Below.refl _ _).alloc (Nat.le_refl _) _⟩
    · have x2 : ((bs t.text).toList == (bs m).toList) = false := by
        rw [ByteArray.toList_eq, ByteArray.toList_eq]; simpa [bs] using hm
      have hq : (t.kind == 5 && t.text == m) = false := by simp [hm]
      rw [hq]
      generalize bs t.text = a at *
      generalize bs m = b at *
      clear hq hm h5
      go_enter Tryz.func89, Tryz.ntmps89
      go_wp2
      go_ret
      exact ⟨rfl, (Below.refl _ _).alloc (Nat.le_refl _) _⟩
  · have x1 : ((t.kind : Int) == 5) = false := by rw [beq_eq_false_iff_ne]; omega
    have hq : (t.kind == 5 && t.text == m) = false := by simp [h5]
    rw [hq]
    generalize bs t.text = a at *
    generalize bs m = b at *
    clear hq h5
    go_enter Tryz.func89, Tryz.ntmps89
    go_wp2
    go_ret
    exact ⟨rfl, (Below.refl _ _).alloc (Nat.le_refl _) _⟩

set_option maxHeartbeats 1000000 in
/-- the mark that comes, or not: nothing, or one token on -/
theorem passes_c {r b e i : Nat} {tk nv : Value} {L : List Tok} {nm : List (List UInt8)} {w : World} (h : Rd r b tk L e i nv nm w) (m : List UInt8) :
    Calls Tryz.prog 102 #[.pointer (some ⟨r, 0, none⟩), .string (bs m)] w fun en w' =>
      en = .returned (.bool (isM (nx ((ab L).drop i)) m)) ∧ Fr r b w w' ∧ Rd r b tk L e (if isM (nx ((ab L).drop i)) m = true then i + 1 else i) nv nm w' := by
  have H := Lib.hid h
  clear h
  have hq : isM (nx ((ab L).drop i)) m = ((tokAt L e i).kind == 5 && (tokAt L e i).text == m) := by
    unfold isM; rw [(nx_tok L e i).1, (nx_tok L e i).2]
  have hlt : isM (nx ((ab L).drop i)) m = true → i < L.length := fun hh => by
    rw [hq] at hh; simp at hh; exact lt_of_kind (e := e) (by omega)
  have km := isMark_c (tokAt L e i) m
  rw [← hq] at km
  have Hlt := Lib.hid hlt
  clear hq hlt
  generalize isM (nx ((ab L).drop i)) m = q at *
  go_enter Tryz.func102, Tryz.ntmps102
  go_wp2_with fail
  refine (next_c H.out).mono ?_
  rintro en w1 ⟨rfl, hb1⟩
  have hR1 := Lib.hid (H.out.stay hb1)
  go_wp2_with fail
  refine (km _).mono ?_
  rintro en w2 ⟨rfl, hb2⟩
  have hR := hR1.out.stay hb2
  have hF := Lib.hid ((Fr.of_below (r := r) (b := b) hb1).trans (Fr.of_below hb2))
  clear hb1 hb2 km hR1
  cases q
  · have HR := Lib.hid hR
    clear hR
    go_wp2
    go_ret
    exact ⟨rfl, hF.out, HR.out⟩
  · have c2 : w2.cell? ⟨r, 2, none⟩ = some (.int .i64 (i : Nat)) := by rw [hR.cell]; rfl
    have f2 := hR.free 2
    have hi := Hlt.out rfl
    have hl := hR.good.len
    have i1 : IntKind.i64.wrap ((i : Int) + 1) = ((i + 1 : Nat) : Int) := by rw [IntWalk.i64_in _ (by omega)]; omega
    have HR := Lib.hid (hR.step hi)
    clear hR
    go_wp2
    go_ret
    exact ⟨rfl, hF.out.set (.inl rfl) _, HR.out⟩
end Go.Proofs.YtcdmmcogegnieaaGreatDoor.rd
end
section
/- The program's reader: expect, atom, compound, infix, mayBegin. -/
namespace Go.Proofs.YtcdmmcogegnieaaGreatDoor.rd
open Go.RowKit
open Go.Proofs.YtcdmmcogegnieaaGreatDoor.op (bs strC Both Tb progI progP tupI lI lP)
open Go.Proofs.YtcdmmcogegnieaaGreatDoor.lx (Tok Tk tcell tcells cell_at ieq_yes ieq_no)
set_option maxRecDepth 20000

set_option maxHeartbeats 1000000 in
theorem expect_c {r b e i : Nat} {tk nv : Value} {L : List Tok} {nm : List (List UInt8)} {w : World} (h : Rd r b tk L e i nv nm w) (m : List UInt8) :
    Calls Tryz.prog 95 #[.pointer (some ⟨r, 0, none⟩), .string (bs m)] w fun en w' =>
      (isM (nx ((ab L).drop i)) m = true ∧ en = .returned (.tuple #[]) ∧ Rd r b tk L e (i + 1) nv nm w' ∧ Fr r b w w') ∨ (isM (nx ((ab L).drop i)) m = false ∧ ∃ p : Nat, en = Wr p 50 ∧ Below r w w') := by
  have H := Lib.hid h
  have kp := passes_c h m
  clear h
  generalize bs m = bm at *
  generalize isM (nx ((ab L).drop i)) m = q at *
  go_enter Tryz.func95, Tryz.ntmps95
  go_wp2_with fail
  refine kp.mono ?_
  rintro en w1 ⟨rfl, hF, hR⟩
  have HF := Lib.hid hF
  have HR := Lib.hid hR
  clear hF hR kp
  cases q
  · have kh := fun w h => here_c (w := w) (r := r) (b := b) (e := e) (i := if false = true then i + 1 else i) (tk := tk) (nv := nv) (L := L) (nm := nm) h 50
    go_wp2_with fail
    refine (kh _ HR.out).mono ?_
    rintro en w2 ⟨rfl, hb⟩
    have HB := Lib.hid ((HF.out.below H.out).trans (hb.mono (by have := HR.out.lt; omega)))
    clear hb
    go_wp2
    exact ⟨rfl, ⟨_, rfl⟩, HB.out⟩
  · go_wp2
    go_end0
    exact ⟨rfl, HR.out, HF.out⟩

set_option maxHeartbeats 1000000 in
theorem atom_c (n : ByteArray) (w : World) :
    Calls Tryz.prog 98 #[.string n] w fun en w' => en = .returned (.agg #[.int .i64 3, .int .i64 0, .string n, .slice none 0 0]) ∧ Below w.heap.size w w' := by
  go_enter Tryz.func98, Tryz.ntmps98
  go_wp2
  (try simp only [Exit.inBlock, Exit.then])
  refine bodyPost_ret (ret_term rfl _ _ rfl (heap_alloc_new w _)) rfl ?_
  exact ⟨rfl, (Below.refl _ w).alloc (Nat.le_refl _) _⟩

set_option maxHeartbeats 1000000 in
theorem compound_c (n : ByteArray) (a : Option Addr) (k c : Nat) (w : World) :
    Calls Tryz.prog 69 #[.string n, .slice a k c] w fun en w' => en = .returned (.agg #[.int .i64 4, .int .i64 0, .string n, .slice a k c]) ∧ Below w.heap.size w w' := by
  go_enter Tryz.func69, Tryz.ntmps69
  go_wp2
  (try simp only [Exit.inBlock, Exit.then])
  refine bodyPost_ret (ret_term rfl _ _ rfl (heap_alloc_new w _)) rfl ?_
  exact ⟨rfl, (Below.refl _ w).alloc (Nat.le_refl _) _⟩

theorem both_low {w w' : World} (h : Both w) (hb : Below 2 w w') : Both w' := by
  obtain ⟨⟨t0, f0, h0, _⟩, ⟨t1, f1, h1, _⟩⟩ := h
  exact ⟨⟨t0, f0, by rw [hb.block 0 (by omega)]; exact h0, rfl⟩, ⟨t1, f1, by rw [hb.block 1 (by omega)]; exact h1, rfl⟩⟩
set_option maxHeartbeats 1000000 in
theorem infix_c (t : Tok) (b : Bool) (w : World) (hb : Both w) :
    Calls Tryz.prog 68 #[tokV t] w fun en w' => en = .returned (tupI (infixK ⟨t.kind, t.text, b⟩)) ∧ Below w.heap.size w w' := by
  unfold infixK
  have HB := Lib.hid hb
  clear hb
  by_cases h1 : t.kind = 1
  · rw [if_pos (.inl h1)]
    obtain ⟨x1, x2⟩ := ieq_yes (a := t.kind) 1 (by omega)
    obtain ⟨p, l, r, q, hI⟩ : ∃ p l r q, progI t.text = (p, l, r, q) := ⟨_, _, _, _, rfl⟩
    have ki := fun w h => lI (bs t.text) w h (p := p) (l := l) (r := r) (b := q) hI
    rw [hI]
    clear hI h1
    unfold tokV
    generalize bs t.text = tx at *
    go_enter Tryz.func68, Tryz.ntmps68
    go_wp2_with fail
    refine (ki _ (HB.out.kept ((Below.refl _ w).alloc (Nat.le_refl _) _)).1).mono ?_
    rintro en w1 ⟨rfl, hb⟩
    have hB := Lib.hid (((Below.refl _ w).alloc (Nat.le_refl _) (.cells #[.int .i64 (t.kind : Nat), .string tx, .int .i64 (t.frm : Nat), .int .i64 (t.to : Nat)] 51)).trans (hb.mono (by simp)))
    clear hb ki
    go_wp2
    (try simp only [Exit.inBlock, Exit.then]); refine bodyPost_ret (op.res4 rfl _ _ _) rfl ?_
    exact ⟨rfl, hB.out⟩
  · obtain ⟨x1, x2⟩ := ieq_no (a := t.kind) 1 (by omega)
    have km := isMark_c t [44]
    have hq : isM ⟨t.kind, t.text, b⟩ [44] = (t.kind == 5 && t.text == [44]) := rfl
    rw [← hq] at km
    have h1' := Lib.hid h1
    clear h1 hq
    generalize hm : isM ⟨t.kind, t.text, b⟩ [44] = m at *
    obtain ⟨p, l, r, q, hI⟩ : ∃ p l r q, progI t.text = (p, l, r, q) := ⟨_, _, _, _, rfl⟩
    have ki := fun w h => lI (bs t.text) w h (p := p) (l := l) (r := r) (b := q) hI
    rw [hI]
    clear hI hm
    unfold tokV at *
    generalize bs t.text = tx at *
    have kmm := Lib.hid km
    clear km
    cases m
    · rw [if_neg (by rintro (h | h); exact h1'.out h; cases h)]
      go_enter Tryz.func68, Tryz.ntmps68
      go_wp2_with fail
      refine (kmm.out _).mono ?_
      rintro en w1 ⟨rfl, hb⟩
      have hB := Lib.hid (((Below.refl _ w).alloc (Nat.le_refl _) (.cells #[.int .i64 (t.kind : Nat), .string tx, .int .i64 (t.frm : Nat), .int .i64 (t.to : Nat)] 51)).trans (hb.mono (by simp)))
      clear hb ki
      go_wp2
      (try simp only [Exit.inBlock, Exit.then]); refine bodyPost_ret (op.res4 rfl _ _ _) rfl ?_
      exact ⟨rfl, hB.out⟩
    · rw [if_pos (.inr rfl)]
      go_enter Tryz.func68, Tryz.ntmps68
      go_wp2_with fail
      refine (kmm.out _).mono ?_
      rintro en w1 ⟨rfl, hb⟩
      have hrb := (hb.block w.heap.size (by simp)).trans (heap_alloc_new w _)
      have hB := Lib.hid (((Below.refl _ w).alloc (Nat.le_refl _) (.cells #[.int .i64 (t.kind : Nat), .string tx, .int .i64 (t.frm : Nat), .int .i64 (t.to : Nat)] 51)).trans (hb.mono (by simp)))
      have c1 : w1.cell? ⟨w.heap.size, 1, none⟩ = some (.string tx) := by rw [cell_at hrb]; rfl
      clear hrb hb
      go_wp2_with fail
      refine (ki _ (HB.out.kept hB.out).1).mono ?_
      rintro en w2 ⟨rfl, hb⟩
      have hB2 := Lib.hid (hB.out.trans (hb.mono hB.out.size))
      clear hb ki
      go_wp2
      (try simp only [Exit.inBlock, Exit.then]); refine bodyPost_ret (op.res4 rfl _ _ _) rfl ?_
      exact ⟨rfl, hB2.out⟩

set_option maxHeartbeats 2000000 in
theorem mayBegin_c (t : Tok) (b : Bool) (w : World) (hb : Both w) :
    Calls Tryz.prog 97 #[tokV t] w fun en w' => en = .returned (.bool (mayB ⟨t.kind, t.text, b⟩)) ∧ Below w.heap.size w w' := by
  have HB := Lib.hid hb
  clear hb
  unfold mayB
  simp only
  have hrb := heap_alloc_new w (.cells #[.int .i64 (t.kind : Nat), .string (bs t.text), .int .i64 (t.frm : Nat), .int .i64 (t.to : Nat)] 51)
  have hB := Lib.hid ((Below.refl _ w).alloc (Nat.le_refl _) (.cells #[.int .i64 (t.kind : Nat), .string (bs t.text), .int .i64 (t.frm : Nat), .int .i64 (t.to : Nat)] 51))
  by_cases h2 : t.kind = 2
  · rw [if_pos (.inl h2)]
    obtain ⟨x1, x2⟩ := ieq_yes (a := t.kind) 2 (by omega)
    clear h2
    unfold tokV
    generalize bs t.text = tx at *
    go_enter Tryz.func97, Tryz.ntmps97
    go_wp2
    go_ret
    exact ⟨rfl, hB.out⟩
  obtain ⟨x1, x2⟩ := ieq_no (a := t.kind) 2 (by omega)
  by_cases h3 : t.kind = 3
  · rw [if_pos (.inr h3)]
    obtain ⟨y1, y2⟩ := ieq_yes (a := t.kind) 3 (by omega)
    clear h2 h3
    unfold tokV
    generalize bs t.text = tx at *
    go_enter Tryz.func97, Tryz.ntmps97
    go_wp2
    go_ret
    exact ⟨rfl, hB.out⟩
  obtain ⟨y1, y2⟩ := ieq_no (a := t.kind) 3 (by omega)
  rw [if_neg (by rintro (h | h); exact h2 h; exact h3 h)]
  by_cases h5 : t.kind = 5
  · rw [if_pos h5]
    obtain ⟨z1, z2⟩ := ieq_yes (a := t.kind) 5 (by omega)
    have e1 : (t.text == [40]) = ((bs t.text).toList == (bs [40]).toList) := by rw [ByteArray.toList_eq, ByteArray.toList_eq]; simp [bs]
    have e2 : (t.text == [91]) = ((bs t.text).toList == (bs [91]).toList) := by rw [ByteArray.toList_eq, ByteArray.toList_eq]; simp [bs]
    have e3 : (t.text == [123]) = ((bs t.text).toList == (bs [123]).toList) := by rw [ByteArray.toList_eq, ByteArray.toList_eq]; simp [bs]
    rw [e1, e2, e3]
    have Hb1 := Lib.hid (show (bs [40]).toList = [40] by rw [ByteArray.toList_eq]; rfl)
    have Hb2 := Lib.hid (show (bs [91]).toList = [91] by rw [ByteArray.toList_eq]; rfl)
    have Hb3 := Lib.hid (show (bs [123]).toList = [123] by rw [ByteArray.toList_eq]; rfl)
    clear h2 h3 h5 e1 e2 e3
    unfold tokV
    generalize bs t.text = tx at *
    go_enter Tryz.func97, Tryz.ntmps97
    go_wp2
    all_goals
      go_ret
      exact ⟨Go.Proofs.YtcdmmcogegnieaaGreatDoor.lx.ret_b (by rw [Hb1.out, Hb2.out, Hb3.out] <;> simp [*]), hB.out⟩
  rw [if_neg h5]
  obtain ⟨z1, z2⟩ := ieq_no (a := t.kind) 5 (by omega)
  by_cases h1 : t.kind = 1
  · rw [if_pos h1]
    obtain ⟨u1, u2⟩ := ieq_yes (a := t.kind) 1 (by omega)
    obtain ⟨p, l, r, q, hI⟩ : ∃ p l r q, progI t.text = (p, l, r, q) := ⟨_, _, _, _, rfl⟩
    have ki := fun w h => lI (bs t.text) w h (p := p) (l := l) (r := r) (b := q) hI
    obtain ⟨p2, l2, q2, hP⟩ : ∃ p l q, progP t.text = (p, l, q) := ⟨_, _, _, rfl⟩
    have kp := fun w h => lP (bs t.text) w h (p := p2) (l := l2) (b := q2) hP
    rw [hI, hP]
    clear h2 h3 h5 h1 hI hP
    unfold tokV
    generalize bs t.text = tx at *
    go_enter Tryz.func97, Tryz.ntmps97
    go_wp2_with fail
    refine (ki _ (HB.out.kept hB.out).1).mono ?_
    rintro en w1 ⟨rfl, hb⟩
    have hrb1 := (hb.block w.heap.size (by simp)).trans hrb
    have c1 : w1.cell? ⟨w.heap.size, 1, none⟩ = some (.string tx) := by rw [cell_at hrb1]; rfl
    have hB1 := Lib.hid (hB.out.trans (hb.mono hB.out.size))
    clear hb hrb1 ki
    go_wp2_with fail
    refine (kp _ (HB.out.kept hB1.out).2).mono ?_
    rintro en w2 ⟨rfl, hb⟩
    have hB2 := Lib.hid (hB1.out.trans (hb.mono hB1.out.size))
    clear hb kp
    cases q2 <;> cases q
    all_goals
      go_wp2
      go_ret
      exact ⟨rfl, hB2.out⟩
  · rw [if_neg h1]
    obtain ⟨u1, u2⟩ := ieq_no (a := t.kind) 1 (by omega)
    clear h2 h3 h5 h1
    unfold tokV
    generalize bs t.text = tx at *
    go_enter Tryz.func97, Tryz.ntmps97
    go_wp2
    go_ret
    exact ⟨rfl, hB.out⟩
end Go.Proofs.YtcdmmcogegnieaaGreatDoor.rd
end
section
/- The program's reader: integer, variable. -/
namespace Go.Proofs.YtcdmmcogegnieaaGreatDoor.rd
open Go.RowKit
open Go.Proofs.YtcdmmcogegnieaaGreatDoor.op (bs strC Both Tb progI progP tupI lI lP)
open Go.Proofs.YtcdmmcogegnieaaGreatDoor.lx (Tok Tk tcell tcells cell_at ieq_yes ieq_no)
open Go.Proofs.YtcdmmcogegnieaaGreatDoor.tx (parseV parseE parse_c)
set_option maxRecDepth 20000

theorem trim_eq (l : List UInt8) : Lib.trimLeftB l 48 = trim l := rfl
theorem tokAt_text {L : List Tok} {e i : Nat} (h : Good L) : (tokAt L e i).text.length ≤ 4096 := by
  unfold tokAt
  rcases Nat.lt_or_ge i L.length with h1 | h1
  · simp [h1]; exact h.text _ (List.getElem_mem h1)
  · simp [List.getElem?_eq_none h1]
theorem trim_len (l : List UInt8) : (trim l).length ≤ l.length := (List.dropWhile_suffix _).length_le
/-- one token on, as the list of what is left -/
theorem tail_drop (l : List K) (i : Nat) : (l.drop i).tail = l.drop (i + 1) := by rw [List.tail_drop]
theorem bs_empty : bs [] = ⟨#[]⟩ := rfl
theorem bs_append (a b : List UInt8) : bs a ++ bs b = bs (a ++ b) := by unfold bs; apply ByteArray.ext; simp
theorem bs_isEmpty (d : List UInt8) : (bs d).toList.isEmpty = d.isEmpty := by
  rw [ByteArray.toList_eq]; rfl
theorem Rd.set4 {r b e i B : Nat} {tk nv : Value} {L : List Tok} {nm : List (List UInt8)} {W : World} (h : Rd r b tk L e i nv nm W) {a0 a1 a2 a3 : Value} {u : TypeId} (hp : W.heap[B]? = some (.cells #[a0, a1, a2, a3] u (0, 0))) (hr : r < B) (h1 : 51 ≠ u) (h2 : 9 ≠ u) (x0 x1 x2 x3 : Value) :
    Rd r b tk L e i nv nm ((((W.setCell ⟨B, 0, none⟩ x0).setCell ⟨B, 1, none⟩ x1).setCell ⟨B, 2, none⟩ x2).setCell ⟨B, 3, none⟩ x3) := by
  have k1 := h.set (p := ⟨B, 0, none⟩) (v := x0) hp hr h1 h2
  have p1 := heap_set_at (j := 0) (v := x0) hp
  have k2 := k1.set (p := ⟨B, 1, none⟩) (v := x1) p1 hr h1 h2
  have p2 := heap_set_at (j := 1) (v := x1) p1
  have k3 := k2.set (p := ⟨B, 2, none⟩) (v := x2) p2 hr h1 h2
  have p3 := heap_set_at (j := 2) (v := x2) p2
  exact k3.set (p := ⟨B, 3, none⟩) (v := x3) p3 hr h1 h2
/-- the end of a function that gives a term -/
theorem fin_term {fn : Func} {p : Tmp} (hf : fn.results = #[.cell p 25]) {r b e i i' B : Nat} {tk nv' : Value} {L : List Tok} {nm' : List (List UInt8)} {w W : World} {tmps : Array Value} {a0 a1 a2 a3 : Value} {D : Nat → Prop}
    (hp : tmps.getD p undef = .pointer (some ⟨B, 0, none⟩)) (hR : Rd r b tk L e i' nv' nm' W) (hF : Fr r b w W) (hB : W.heap[B]? = some (.cells #[a0, a1, a2, a3] 25 (0, 0))) (hlo : w.heap.size ≤ B) (hr : r < w.heap.size)
    {t : T} {a : Value} (hT : Rp D W t a) (hD : ∀ k, D k → w.heap.size ≤ k ∧ k ≠ B) {X : Res T} (hX : X = .ok (t, ((ab L).drop i', nm'))) (hi : i ≤ i') :
    bodyPost Tryz.prog fn (TQ r b tk L e i w X) .ret { tmps := tmps, defers := [] } ((((W.setCell ⟨B, 0, none⟩ (.int .i64 (t.k : Nat))).setCell ⟨B, 1, none⟩ (.int .i64 t.n)).setCell ⟨B, 2, none⟩ (.string (bs t.s))).setCell ⟨B, 3, none⟩ a) := by
  subst hX
  refine bodyPost_ret (ret_term hf _ _ hp (Go.Proofs.YtcdmmcogegnieaaGreatDoor.rd.set4 hB _ _ _ _)) rfl ?_
  have hn : ¬ D B := fun h => (hD B h).2 rfl
  refine ⟨a, i', nv', rfl, ?_, rfl, hi, hR.set4 hB (by omega) (by decide) (by decide) _ _ _ _, ?_⟩
  · exact (((((hT.set (p := ⟨B, 0, none⟩) hn _).set (p := ⟨B, 1, none⟩) hn _).set (p := ⟨B, 2, none⟩) hn _).set (p := ⟨B, 3, none⟩) hn _)).imp fun k _ hk => (hD k hk).1
  · exact (((hF.set (p := ⟨B, 0, none⟩) (.inr hlo) _).set (p := ⟨B, 1, none⟩) (.inr hlo) _).set (p := ⟨B, 2, none⟩) (.inr hlo) _).set (p := ⟨B, 3, none⟩) (.inr hlo) _
set_option maxHeartbeats 1000000 in
theorem integer_c {r b e i : Nat} {tk nv : Value} {L : List Tok} {nm : List (List UInt8)} {w : World} (h : Rd r b tk L e i nv nm w) (sign : List UInt8) (hs : sign.length ≤ 1) (hk : (tokAt L e i).kind = 3) :
    Calls Tryz.prog 86 #[.pointer (some ⟨r, 0, none⟩), .string (bs sign)] w (TQ r b tk L e i w (intP sign ((ab L).drop i, nm))) := by
  have hi : i < L.length := lt_of_kind (e := e) (by omega)
  have htx := tokAt_text (e := e) (i := i) h.good
  have kt := Tryz.strings_TrimLeft_one (bs (tokAt L e i).text) 48 (by decide)
  have hkt : Lib.trimLeftB (bs (tokAt L e i).text).data.toList 48 = trim (tokAt L e i).text := trim_eq _
  rw [hkt] at kt
  have hlen := trim_len (tokAt L e i).text
  have hnx := (nx_tok L e i).2
  unfold intP
  rw [show (nx (((ab L).drop i, nm) : St).1).text = (tokAt L e i).text from hnx]
  simp only [tail_drop]
  have hf := field_x
  have H := Lib.hid h
  clear h hkt hnx
  generalize trim (tokAt L e i).text = d at *
  have hrb0 := heap_alloc_new w (.cells #[.int .i64 0, .int .i64 0, .string ⟨#[]⟩, .slice none 0 0] 25)
  have hd := bs_isEmpty d
  change ∀ w, Calls _ _ _ w fun e w' => e = .returned (.string (bs d)) ∧ w' = w at kt
  by_cases h0 : d = []
  · rw [if_pos h0]
    have hd1 : (bs d).toList.isEmpty = true := by rw [hd, h0]; rfl
    clear hd h0
    generalize bs d = bd at *
    go_enter Tryz.func86, Tryz.ntmps86
    go_wp2_with fail
    refine (next_c (H.out.alloc _)).mono ?_
    rintro en w1 ⟨rfl, hb⟩
    have hR1 := (H.out.alloc (.cells #[.int .i64 0, .int .i64 0, .string ⟨#[]⟩, .slice none 0 0] 25)).stay hb
    have hrb := Lib.hid ((hb.block w.heap.size (by simp)).trans hrb0)
    have hB := Lib.hid (((Below.refl _ w).alloc (Nat.le_refl _) (.cells #[.int .i64 0, .int .i64 0, .string ⟨#[]⟩, .slice none 0 0] 25)).trans (hb.mono (by simp)))
    have c2 : w1.cell? ⟨r, 2, none⟩ = some (.int .i64 (i : Nat)) := by rw [hR1.cell]; rfl
    have f2 := hR1.free 2
    have HR1 := Lib.hid hR1
    have hlt := H.out.lt
    clear hb hR1 hrb0
    unfold tokV
    go_wp2_with fail
    refine (kt _).mono ?_
    rintro en w2 ⟨rfl, rfl⟩
    have hl := H.out.good.len
    have i1 : IntKind.i64.wrap ((i : Int) + 1) = ((i + 1 : Nat) : Int) := by rw [IntWalk.i64_in _ (by omega)]; omega
    obtain ⟨r0, r1, r2, r3, f0⟩ := cells4 hrb.out
    generalize hBe : w.heap.size = B at *
    have HBe := Lib.hid hBe
    have n1 : ¬ r = B := by omega
    have n2 : ¬ B = r := by omega
    clear hBe
    go_wp2
    (try simp only [Exit.inBlock, Exit.then])
    refine fin_term (D := fun _ => False) (t := .leaf 2 0 []) rfl rfl (HR1.out.step hi) ((Fr.of_below (by rw [HBe.out]; exact hB.out)).set (p := ⟨r, 2, none⟩) (.inl rfl) _) ((Below.heap_setCell _ _ _ _ n2).trans hrb.out) (Nat.le_of_eq HBe.out) (by rw [HBe.out]; omega) (by rw [Rp]) (fun _ h => h.elim) rfl (by omega)
  · rw [if_neg h0]
    have hd1 : (bs d).toList.isEmpty = false := by rw [hd]; cases d <;> simp_all
    have kp := parse_c (sign ++ d) (by rw [List.length_append]; omega)
    change ∀ w, Calls _ _ #[.string (bs (sign ++ d))] w _ at kp
    rw [← bs_append] at kp
    have hz1 : (bs sign).size ≤ 1 := hs
    have hz2 : (bs d).size ≤ 4096 := by show d.length ≤ 4096; omega
    generalize parseE (sign ++ d) = pe at *
    generalize parseV (sign ++ d) = pv at *
    have hpe : pe = 0 ∨ pe ≠ 0 := by omega
    generalize hX : (if pe = 0 then Except.ok (T.leaf 2 pv [], (ab L).drop (i + 1), nm) else Except.error 51 : Res T) = X
    have HX := Lib.hid hX
    clear hX
    clear hd h0
    generalize bs d = bd at *
    generalize bs sign = bsg at *
    go_enter Tryz.func86, Tryz.ntmps86
    go_wp2_with fail
    refine (next_c (H.out.alloc _)).mono ?_
    rintro en w1 ⟨rfl, hb⟩
    have hR1 := (H.out.alloc (.cells #[.int .i64 0, .int .i64 0, .string ⟨#[]⟩, .slice none 0 0] 25)).stay hb
    have hrb := Lib.hid ((hb.block w.heap.size (by simp)).trans hrb0)
    have hB := Lib.hid (((Below.refl _ w).alloc (Nat.le_refl _) (.cells #[.int .i64 0, .int .i64 0, .string ⟨#[]⟩, .slice none 0 0] 25)).trans (hb.mono (by simp)))
    have HR1 := Lib.hid hR1
    have hlt := H.out.lt
    clear hb hR1 hrb0
    unfold tokV
    go_wp2_with fail
    refine (kt _).mono ?_
    rintro en w2 ⟨rfl, rfl⟩
    go_wp2_with fail
    refine (kp _).mono ?_
    rintro en w3 ⟨rfl, hb⟩
    have hz := lt_of hrb.out
    have hR3 := HR1.out.stay hb
    have hrb3 := Lib.hid ((hb.block w.heap.size hz).trans hrb.out)
    have hB3 := Lib.hid (hB.out.trans (hb.mono hB.out.size))
    have c2 : w3.cell? ⟨r, 2, none⟩ = some (.int .i64 (i : Nat)) := by rw [hR3.cell]; rfl
    have f2 := hR3.free 2
    have HR3 := Lib.hid hR3
    have hl := H.out.good.len
    have i1 : IntKind.i64.wrap ((i : Int) + 1) = ((i + 1 : Nat) : Int) := by rw [IntWalk.i64_in _ (by omega)]; omega
    clear hb hR3
    rcases hpe with rfl | hpe
    · obtain ⟨r0, r1, r2, r3, f0⟩ := cells4 hrb3.out
      generalize hBe : w.heap.size = B at *
      have HBe := Lib.hid hBe
      have n1 : ¬ r = B := by omega
      have n2 : ¬ B = r := by omega
      clear hBe
      go_wp2
      (try simp only [Exit.inBlock, Exit.then])
      refine fin_term (D := fun _ => False) (t := .leaf 2 pv []) rfl rfl (HR3.out.step hi) ((Fr.of_below (by rw [HBe.out]; exact hB3.out)).set (p := ⟨r, 2, none⟩) (.inl rfl) _) ((Below.heap_setCell _ _ _ _ n2).trans hrb3.out) (Nat.le_of_eq HBe.out) (by rw [HBe.out]; omega) (by rw [Rp]) (fun _ h => h.elim) (by rw [← HX.out]; rfl) (by omega)
    · have hp1 : (pe != 0) = true := by simpa using hpe
      go_wp2_with fail
      refine (here_c HR3.out 51).mono ?_
      rintro en w4 ⟨rfl, hb⟩
      have hbw := Lib.hid ((hB3.out.mono (by omega : r ≤ w.heap.size)).trans (hb.mono (by have := HR3.out.lt; omega)))
      clear hb
      go_wp2
      exact ⟨rfl, by rw [← HX.out, if_neg hpe]; exact ⟨_, rfl, hbw.out⟩⟩

/-- where the name stands among the names, or -1 -/
def idxV (nm : List (List UInt8)) (name : List UInt8) : Int := if nm.idxOf name = nm.length then -1 else ((nm.idxOf name : Nat) : Int)
theorem idx_eq (nm : List (List UInt8)) (name : List UInt8) : Lib.idxOfS ((nm.map bs).take nm.length) (bs name) = idxV nm name := by
  unfold idxV
  have hg : ∀ j, j < nm.length → (nm.map bs).getD j ByteArray.empty = bs (nm.getD j []) := fun j hj => by simp [hj]
  by_cases h : nm.idxOf name = nm.length
  · rw [if_pos h]
    refine Lib.idxOfS_miss _ _ _ fun j hj e => ?_
    rw [hg j hj, op.bs_inj] at e
    have hm : name ∈ nm := by rw [← e]; simp [hj]
    exact absurd h (by have := List.idxOf_lt_length_iff.2 hm; omega)
  · rw [if_neg h]
    have hle : nm.idxOf name ≤ nm.length := List.idxOf_le_length
    have hk : nm.idxOf name < nm.length := by omega
    refine Lib.idxOfS_hit _ _ _ _ hk (by simp) ?_ fun j hj e => ?_
    · rw [hg _ hk, op.bs_inj]; simp [hk]
    · rw [hg j (by omega), op.bs_inj] at e
      have h1 := List.not_of_lt_findIdx (xs := nm) (p := (· == name)) (i := j) hj
      simp at h1
      exact h1 (by simpa [show j < nm.length by omega] using e)
theorem index_c {b : Nat} {nv : Value} {nm : List (List UInt8)} {w : World} (h : w.ownsRow b 9 1 nv nm.length (strC (nm.map bs))) (name : List UInt8) (hl : nm.length ≤ 1000) :
    Calls Tryz.prog 99 #[nv, .string (bs name)] w fun en w' => en = .returned (.int .i64 (idxV nm name)) ∧ w' = w := by
  have hc := fun g hg => World.ownsRow.cells h (g := g) hg
  rcases h.2 with ⟨rfl, h2⟩ | ⟨g, cap, cur, rfl, _⟩
  · obtain rfl : nm = [] := List.eq_nil_of_length_eq_zero h2
    exact Tryz.slices_Index_string_empty none 0 (bs name) w
  · have := Tryz.slices_Index_string g 0 nm.length cap (nm.map bs) (bs name) w (by simp) (by omega) (fun j hj => by
      have h1 := hc g rfl j (.string ((nm.map bs).getD j ByteArray.empty)) (by
        simp at hj
        simp [strC, hj])
      rw [op.addr_add] at h1
      rw [Nat.zero_add]; exact h1)
    rw [idx_eq] at this
    exact this
/-- one name more -/
theorem wpList_name {ops : Array Oper} {rest : List Oper} {o : Oper} {a : Act} {Q : Exit → Act → World → Prop} (hgd : o.guard = none) (s x : Operand)
    (ho : o.op = .call { callee := .builtin .append, args := #[s, x], argTypes := #[22, 22] })
    (B : Nat) (w : World) (v : Value) (z : List (List UInt8)) (t : List UInt8) (hs : a.eval s = v) (hown : w.ownsRow B 9 1 v z.length (strC (z.map bs)))
    (hx : a.eval x = .slice (some ⟨w.heap.size, 0, none⟩) 1 1) (hlen : z.length ≤ 100000) (hB : B ≤ w.heap.size)
    (h : ∀ g' cap' w', w'.ownsRow B 9 1 (.slice (some ⟨g', 0, none⟩) (z.length + 1) cap') (z ++ [t]).length (strC ((z ++ [t]).map bs)) → (w.alloc (.cells #[.string (bs t)] 9)).grownBy w' v.ownBlock →
      wpList Tryz.prog ops Q rest (a.put o.dst (.slice (some ⟨g', 0, none⟩) (z.length + 1) cap')) w') :
    wpList Tryz.prog ops Q (o :: rest) a (w.alloc (.cells #[.string (bs t)] 9)) := by
  obtain ⟨i0, hi, hz0, hz1, hz2⟩ := info_parts op.str_info
  have hb0 : (w.alloc (.cells #[.string (bs t)] 9)).heap[w.heap.size]? = some (.cells #[.string (bs t)] 9 (0, 0)) := heap_alloc_new w _
  refine wpList_append_own _ hgd s x 22 ho B 9 i0 (.string ⟨#[]⟩) 1 16 Tryz.underlying22 hi hz0 hz1 hz2 rfl (by decide) v z.length (strC (z.map bs)) hs (World.ownsRow.alloc hown _) ⟨w.heap.size, 0, none⟩ 1 1 [.string (bs t)] hx rfl ?_ ?_ ?_ ?_ ?_ ?_
  · intro j u hj
    rw [op.addr_add, cell_at hb0, ← Array.getElem?_toList]; exact hj
  · intro u hu; simp at hu; subst hu; rfl
  · unfold maxLen; omega
  · omega
  · show B ≤ (w.heap.push _).size; simp; omega
  · intro v' w' hown' hgr _
    have e1 : strC (z.map bs) ++ [.string (bs t)] = strC ((z ++ [t]).map bs) := by simp [strC]
    rw [e1] at hown'
    rcases hown'.2 with ⟨_, h2⟩ | ⟨g', cap', cur, h1, h2⟩
    · omega
    · subst h1
      refine h g' cap' w' ?_ hgr
      rw [List.length_append]; exact hown'
end Go.Proofs.YtcdmmcogegnieaaGreatDoor.rd
end
