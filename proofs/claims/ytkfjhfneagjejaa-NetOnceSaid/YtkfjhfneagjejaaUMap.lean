/-
  Maps from numbers to numbers, or to yes and no, that the call makes: looked up, stored into, struck from, counted, ranged over; each as an equation on what the map holds.
-/
import Derived.Test.YtkfjhfneagjejaaUMath
import Derived.Test.YtkfjhfneagjejaaQRow
import Derived.Maps.OwnSet
import Derived.Maps.OwnOps
import Derived.Maps.RangeWalk
import Derived.WalkArith
namespace Go.Proofs.Ytkfjhfneagjejaa.Outbox
open Go.ChangeShapes Go.WideShapes Go.ChangeAt Go.RowKit Go.Shelf
open Go.Maps (Keyed)

/-- An element's kind: how it lies as a value, how it reads, what stands for none. -/
structure Kind (P : Program) (e : TypeId) (α : Type) where
  val : α → Value
  lit : α → Lit
  zero : α
  ok : α → Prop
  inj : ∀ {x y}, lit x = lit y → x = y
  reads : ∀ x, ok x → plainElem (H := Unit) P e (val x) = some (.lit (lit x), [])
  back : ∀ v y, plainElem (H := Unit) P e v = some y → ∃ x, v = val x ∧ y.1 = .lit (lit x)
  none : ∀ w, (zeroValue e).run P w = .ok (val zero) w
  okz : ok zero
def Kind.bool {P : Program} {e : TypeId} (he : P.underlying e = some .bool) (hz : ∀ w, (zeroValue e).run P w = .ok (.bool false) w) : Kind P e Bool where
  val := .bool
  lit := .bool
  zero := false
  ok := fun _ => True
  inj := fun h => by injection h
  reads := fun x _ => plainElem_bool he x
  back := fun v y h => by
    unfold plainElem at h
    rw [he] at h
    cases v <;> simp at h
    exact ⟨_, rfl, by rw [← h]⟩
  none := hz
  okz := trivial
def Kind.int {P : Program} {e : TypeId} (he : P.underlying e = some (.int .i64)) (hz : ∀ w, (zeroValue e).run P w = .ok (.int .i64 0) w) : Kind P e Int where
  val := .int .i64
  lit := .int .i64
  zero := 0
  ok := fun x => -9223372036854775808 ≤ x ∧ x ≤ 9223372036854775807
  inj := fun h => by injection h
  reads := fun x hx => plainElem_int he (WalkArith.wf_i64 hx)
  back := fun v y h => by
    obtain ⟨a, e1, e2, _⟩ := plainElem_int_inv he h
    exact ⟨a, e1, by rw [e2]⟩
  none := hz
  okz := ⟨by decide, by decide⟩

section
variable {P : Program} {k e t : TypeId} {α : Type} {K : Kind P e α} (hk : P.underlying k = some (.int .i64)) (ht : P.underlying t = some (.map k e))
def ky (y : Int) : Lit := .int .i64 y
theorem ky_inj {a b : Int} (h : ky a = ky b) : a = b := by unfold ky at h; injection h
theorem ky_is (y : Int) : WideAt.IsKeyLit (ky y) := trivial
def InI (y : Int) : Prop := -9223372036854775808 ≤ y ∧ y ≤ 9223372036854775807
include hk in
theorem ky_of {y : Int} (h : InI y) : keyOf P k (.int .i64 y) = some (ky y) := Maps.keyOf_int_mk hk (WalkArith.wf_i64 h)
/-- A block is a map that holds f, of keys that are h, so many. -/
def MapN (K : Kind P e α) (k : TypeId) (W : World) (B n : Nat) (f : Int → α) (h : Int → Bool) (m : Nat) : Prop :=
  ∃ D : DataW Unit, W.ownsMap P k (plainElem P e) B n D ∧ (∀ y, D.atKey (ky y) (.lit (K.lit K.zero)) = .lit (K.lit (f y))) ∧ (∀ y, Maps.has D (ky y) = h y) ∧ Maps.size D = m
theorem MapN.made (w : World) : MapN K k (w.alloc (.map #[] 0)) w.heap.size 0 (fun _ => K.zero) (fun _ => false) 0 :=
  ⟨.map [], World.ownsMap_made _ _ _ _, fun _ => rfl, fun _ => rfl, rfl⟩
variable {W : World} {B n m : Nat} {f : Int → α} {h : Int → Bool}
theorem MapN.lt (hm : MapN K k W B n f h m) : B < W.heap.size := by
  obtain ⟨D, ho, _⟩ := hm
  exact ho.lt
theorem MapN.mono (hm : MapN K k W B n f h m) {n' : Nat} (hn : n ≤ n') : MapN K k W B n' f h m := by
  obtain ⟨D, ho, hr⟩ := hm
  exact ⟨D, ho.mono hn, hr⟩
theorem MapN.kept {W' : World} (hm : MapN K k W B n f h m) {row : Option Nat} (hg : W.grownBy W' row) (hne : some B ≠ row) : MapN K k W' B n f h m := by
  obtain ⟨D, ho, hr⟩ := hm
  exact ⟨D, ho.kept hg hne, hr⟩
theorem grown_below {W W' : World} (hb : Below W.heap.size W W') : W.grownBy W' none := ⟨hb.os, hb.tape, hb.output, hb.size, fun k hk _ => hb.block k hk⟩
theorem MapN.below {W' : World} (hm : MapN K k W B n f h m) (hb : Below W.heap.size W W') : MapN K k W' B n f h m := hm.kept (grown_below hb) (by simp)
include hk ht in
theorem MapN.look (hm : MapN K k W B n f h m) {y : Int} (hy : InI y) : (Instr.lookup t (.map (some B)) (.int .i64 y) false).run P W = .ok (K.val (f y)) W := by
  obtain ⟨D, ⟨es, clock, hb, F, _, rfl⟩, hf, _⟩ := hm
  have h1 := hf y
  rcases Maps.fit_look false (Maps.int_keyed hk) ht (K.none W) hb F (ky_of hk hy) with ⟨hrun, _, hat⟩ | ⟨e0, y0, _, _, hrun, hRv, hat, _⟩
  · rw [hat] at h1
    have h2 : K.zero = f y := K.inj (by injection h1)
    rw [← h2]
    simpa using hrun
  · rw [hat] at h1
    obtain ⟨x, ex, e2⟩ := K.back _ _ hRv
    rw [e2] at h1
    have h2 : x = f y := K.inj (by injection h1)
    rw [← h2, ← ex]
    simpa using hrun
include ht in
theorem MapN.len (hm : MapN K k W B n f h m) (ty : TypeId) : (Builtin.len_ #[t] ty #[.map (some B)]).run P W = .ok (.int .i64 m) W := by
  obtain ⟨D, ho, _, _, hn⟩ := hm
  rw [← hn]
  exact ho.len ht ty
include hk ht in
theorem MapN.put (hm : MapN K k W B n f h m) (hn : n < 1000000) {y : Int} (hy : InI y) {v : α} (hv : K.ok v) :
    ∃ W', (Instr.mapUpdate t (.map (some B)) (.int .i64 y) (K.val v)).run P W = .ok () W' ∧ MapN K k W' B (n + 1) (fun z => if z = y then v else f z) (fun z => decide (z = y) || h z) (if h y = true then m else m + 1) ∧ W.grownBy W' (some B) ∧ W'.heap.size = W.heap.size := by
  obtain ⟨D, ho, hf, hh, hm⟩ := hm
  obtain ⟨W', hrun, ho', ht'⟩ := ho.store (Maps.int_keyed hk) ht (by unfold maxLen; omega) (ky_of hk hy) (K.reads v hv)
  refine ⟨W', hrun, ⟨_, ho', fun z => ?_, fun z => ?_, ?_⟩, ht'.grown, ?_⟩
  · dsimp only
    by_cases e : z = y
    · subst e
      rw [if_pos rfl, Maps.atKey_put_same ho.isMap (ky_is _)]
    · rw [if_neg e, Maps.atKey_put_other (fun c => e (ky_inj c))]
      exact hf z
  · dsimp only
    by_cases e : z = y
    · subst e
      rw [decide_eq_true rfl, Maps.has_put_same ho.isMap (ky_is _)]
      rfl
    · rw [decide_eq_false e, Maps.has_put_other (fun c => e (ky_inj c))]
      simpa using hh z
  · rw [Maps.size_put (ho.tidy (Maps.int_keyed hk)), hh y, hm]
  · obtain ⟨es, c, es', c', hb, rfl⟩ := ht'
    simp [Go.ChangeMaps.setBlock]
include hk ht in
theorem MapN.drop (hm : MapN K k W B n f h m) {y : Int} (hy : InI y) (ty : TypeId) :
    ∃ W', (Builtin.delete_ #[t, k] ty #[.map (some B), .int .i64 y]).run P W = .ok (.tuple #[]) W' ∧ MapN K k W' B n (fun z => if z = y then K.zero else f z) (fun z => !decide (z = y) && h z) (if h y = true then m - 1 else m) ∧ W.grownBy W' (some B) ∧ W'.heap.size = W.heap.size := by
  obtain ⟨D, ho, hf, hh, hm⟩ := hm
  obtain ⟨W', hrun, ho', ht'⟩ := ho.drop (Maps.int_keyed hk) ht (ky_of hk hy) ty
  refine ⟨W', hrun, ⟨_, ho', fun z => ?_, fun z => ?_, ?_⟩, ht'.grown, ?_⟩
  · dsimp only
    by_cases e : z = y
    · subst e
      rw [if_pos rfl, Maps.atKey_del_same]
    · rw [if_neg e, Maps.atKey_del_other (fun c => e (ky_inj c))]
      exact hf z
  · dsimp only
    by_cases e : z = y
    · subst e
      rw [decide_eq_true rfl, Maps.has_del_same]
      rfl
    · rw [decide_eq_false e, Maps.has_del_other (fun c => e (ky_inj c))]
      simpa using hh z
  · have := Maps.size_del (k := ky y) (ho.tidy (Maps.int_keyed hk))
    rw [hh y] at this
    split at this <;> rename_i hq <;> (try rw [if_pos hq]) <;> (try rw [if_neg hq]) <;> omega
  · obtain ⟨es, c, es', c', hb, rfl⟩ := ht'
    simp [Go.ChangeMaps.setBlock]
/-- An iterator over such a map: which keys are still to come, how many. -/
def RangeN (K : Kind P e α) (k : TypeId) (W : World) (B r n : Nat) (f : Int → α) (h left : Int → Bool) (cnt : Nat) : Prop :=
  ∃ (D : DataW Unit) (lf : Lit → Bool), W.ranges P k (plainElem P e) B r n D lf cnt ∧ (∀ y, D.atKey (ky y) (.lit (K.lit K.zero)) = .lit (K.lit (f y))) ∧ (∀ y, Maps.has D (ky y) = h y) ∧ (∀ y, lf (ky y) = left y)
include hk ht in
theorem MapN.range (hm : MapN K k W B n f h m) : ∃ W', (Instr.range t (.map (some B))).run P W = .ok (.pointer (some ⟨W.heap.size, 0, none⟩)) W' ∧ RangeN K k W' B W.heap.size n f h h m ∧ W.grownBy W' none ∧ W'.heap.size = W.heap.size + 1 := by
  obtain ⟨D, ho, hf, hh, hm⟩ := hm
  obtain ⟨W', r1, r2, r3, r4⟩ := ho.range (Maps.int_keyed hk) ht
  exact ⟨W', r1, ⟨D, _, hm ▸ r2, hf, hh, hh⟩, r3, r4⟩
variable {r cnt : Nat} {left : Int → Bool}
theorem RangeN.kept {W' : World} (hr : RangeN K k W B r n f h left cnt) {row : Option Nat} (hg : W.grownBy W' row) (hb : some B ≠ row) (hr' : some r ≠ row) : RangeN K k W' B r n f h left cnt := by
  obtain ⟨D, lf, h1, h2⟩ := hr
  exact ⟨D, lf, h1.kept hg hb hr', h2⟩
theorem RangeN.left_eq (hr : RangeN K k W B r n f h left cnt) : W.rangeLeft B r = cnt := by
  obtain ⟨D, lf, h1, _⟩ := hr
  exact h1.left_eq
include hk in
/-- Nothing is left; or one that is left has come. -/
theorem RangeN.next (hr : RangeN K k W B r n f h left cnt) (ty : TypeId) :
    (cnt = 0 ∧ (∀ y, left y = false) ∧ (Instr.next (.pointer (some ⟨r, 0, none⟩)) false ty).run P W = .ok (.tuple #[.bool false]) W) ∨
    ∃ y W' cnt', InI y ∧ left y = true ∧ (Instr.next (.pointer (some ⟨r, 0, none⟩)) false ty).run P W = .ok (.tuple #[.bool true, .int .i64 y, K.val (f y)]) W' ∧
      RangeN K k W' B r n f h (fun z => left z && !decide (z = y)) cnt' ∧ cnt' < cnt ∧ W.grownBy W' (some r) ∧ W'.heap.size = W.heap.size ∧ (Instr.entry (.pointer (some ⟨r, 0, none⟩))).run P W' = .ok (.tuple #[.int .i64 y, K.val (f y)]) W' := by
  obtain ⟨D, lf, h1, hf, hh, hl⟩ := hr
  rcases h1.next (Maps.int_keyed hk) ty with ⟨h0, hlf, hrun⟩ | ⟨key, v, kl, z, W', cnt', hkey, hlk, hv, hat, hrun, hrg, hlt, hgr, hsz, hen⟩
  · exact .inl ⟨h0, fun y => (hl y).symm.trans (hlf _), hrun⟩
  · obtain ⟨y, rfl, rfl, hwf⟩ := Maps.keyOf_int_inv hk hkey
    obtain ⟨x, rfl, e2⟩ := K.back _ _ hv
    have h2 := hf y
    rw [show ky y = Lit.int .i64 y from rfl, hat, e2] at h2
    obtain rfl : x = f y := K.inj (by injection h2)
    refine .inr ⟨y, W', cnt', ?_, (hl y).symm.trans hlk, hrun, ⟨D, _, hrg, hf, hh, fun z => ?_⟩, hlt, hgr, hsz, hen⟩
    · simp [Lit.wf, IntKind.min, IntKind.max, IntKind.bits, IntKind.signed] at hwf
      unfold InI
      omega
    · dsimp only
      rw [hl z]
      congr 1
      show (!(ky z).sameKey (ky y)) = !decide (z = y)
      congr 1
      unfold ky
      simp [Lit.sameKey]
end
end Go.Proofs.Ytkfjhfneagjejaa.Outbox
