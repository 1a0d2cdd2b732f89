/-
  Waits, as plain mathematics: which goes ahead, heaps, and what is sorted. No program in it.
-/
import Derived.Sort.LotB
namespace Go.Proofs.Ytkfjhfneagjejaa.Queue
open Go.Sort

/-- A wait: class, when it came, its number. -/
structure Wt where
  c : Int
  s : Int
  o : Int
instance : Inhabited Wt := ⟨⟨0, 0, 0⟩⟩
theorem Wt.same {a b : Wt} (h1 : a.c = b.c) (h2 : a.s = b.s) (h3 : a.o = b.o) : a = b := by cases a; cases b; cases h1; cases h2; cases h3; rfl
/-- Does one go ahead of another one? -/
def ltP (a b : Wt) : Prop := a.c < b.c ∨ (a.c = b.c ∧ (a.s < b.s ∨ (a.s = b.s ∧ a.o < b.o)))
instance (a b : Wt) : Decidable (ltP a b) := by unfold ltP; exact inferInstance
def ltB (a b : Wt) : Bool := decide (ltP a b)
theorem ltB_t {a b : Wt} : ltB a b = true ↔ ltP a b := by unfold ltB; exact decide_eq_true_iff
theorem ltB_f {a b : Wt} : ltB a b = false ↔ ¬ ltP a b := by unfold ltB; exact decide_eq_false_iff_not
theorem ltB_swo : SWO ltB where
  irrefl x := by rw [ltB_f]; unfold ltP; omega
  trans x y z h1 h2 := by rw [ltB_t] at *; unfold ltP at *; omega
  ntrans x y z h1 h2 := by rw [ltB_f] at *; unfold ltP at *; omega
theorem ltB_anti (x y : Wt) (h1 : ltB x y = false) (h2 : ltB y x = false) : x = y := by
  rw [ltB_f] at h1 h2
  unfold ltP at h1 h2
  exact Wt.same (by omega) (by omega) (by omega)
theorem ltB_asym {x y : Wt} (h : ltB x y = true) : ltB y x = false := ltB_swo.asym h
/-- The other way about. -/
def gtB (a b : Wt) : Bool := ltB b a
theorem gtB_swo : SWO gtB where
  irrefl x := ltB_swo.irrefl x
  trans x y z h1 h2 := ltB_swo.trans z y x h2 h1
  ntrans x y z h1 h2 := ltB_swo.ntrans z y x h2 h1

/-- They stand as a heap. -/
def Hp (d : Array Wt) : Prop := ∀ k, 1 ≤ k → k < d.size → ltB d[k]! d[(k - 1) / 2]! = false
theorem hp_ok {d : Array Wt} : Hp d ↔ ∀ i, i < d.size → Ok gtB 0 d.size d i := by
  constructor
  · intro h i _ k hk hkn
    rw [Nat.zero_add, Nat.zero_add]
    have := h k (by omega) hkn
    rwa [show (k - 1) / 2 = i by omega] at this
  · intro h k h1 hk
    have := h ((k - 1) / 2) (by omega) k (by omega) hk
    rwa [Nat.zero_add, Nat.zero_add] at this
theorem hp_root {d : Array Wt} (h : Hp d) (i : Nat) (hi : i < d.size) : ltB d[i]! d[0]! = false := by
  have := root_max gtB_swo (hp_ok.1 h) i i (Nat.le_refl _) hi
  rwa [Nat.add_zero, Nat.zero_add] at this

/-- From place j upwards. -/
def up (j : Nat) (d : Array Wt) : Array Wt :=
  if _h : 0 < j then if ltB d[j]! d[(j - 1) / 2]! then up ((j - 1) / 2) (swp d ((j - 1) / 2) j) else d else d
termination_by j
decreasing_by omega
theorem up_zero (d : Array Wt) : up 0 d = d := by rw [up, dif_neg (by omega)]
theorem up_stop {j : Nat} {d : Array Wt} (h : ltB d[j]! d[(j - 1) / 2]! = false) : up j d = d := by
  rw [up]
  by_cases h0 : 0 < j
  · rw [dif_pos h0, h, if_neg (by decide)]
  · rw [dif_neg h0]
theorem up_go {j : Nat} {d : Array Wt} (h0 : 0 < j) (h : ltB d[j]! d[(j - 1) / 2]! = true) : up j d = up ((j - 1) / 2) (swp d ((j - 1) / 2) j) := by
  rw [up, dif_pos h0, h, if_pos rfl]
theorem up_holds : ∀ (m j : Nat) (d : Array Wt), j ≤ m → j < d.size → (∀ k, 1 ≤ k → k < d.size → k ≠ j → ltB d[k]! d[(k - 1) / 2]! = false) →
    (0 < j → ∀ k, 1 ≤ k → k < d.size → (k - 1) / 2 = j → ltB d[k]! d[(j - 1) / 2]! = false) → Hp (up j d) ∧ PermIn 0 d.size d (up j d) := by
  intro m
  induction m with
  | zero =>
    intro j d hm hj h1 _
    obtain rfl : j = 0 := by omega
    rw [up_zero]
    exact ⟨fun k hk hkn => h1 k hk hkn (by omega), permIn_refl d _ _⟩
  | succ m ih =>
    intro j d hm hj h1 h2
    by_cases h0 : 0 < j
    · cases hlt : ltB d[j]! d[(j - 1) / 2]! with
      | false =>
        rw [up_stop hlt]
        refine ⟨fun k hk hkn => ?_, permIn_refl d _ _⟩
        by_cases e : k = j
        · subst e; exact hlt
        · exact h1 k hk hkn e
      | true =>
        rw [up_go h0 hlt]
        generalize hp : (j - 1) / 2 = p at *
        have hpj : p < j := by omega
        have gl : (swp d p j)[p]! = d[j]! := swp_left d _ _ (by omega) (by omega)
        have gr : (swp d p j)[j]! = d[p]! := swp_right d _ _ hj
        have go : ∀ k, k ≠ p → k ≠ j → (swp d p j)[k]! = d[k]! := fun k a b => swp_other d _ _ _ a b
        obtain ⟨r1, r2⟩ := ih p (swp d p j) (by omega) (by rw [size_swp]; omega)
          (fun k hk hkn hne => by
            rw [size_swp] at hkn
            by_cases e : k = j
            · subst e
              rw [gr, hp, gl]; exact ltB_asym hlt
            · rw [go k hne e]
              by_cases e2 : (k - 1) / 2 = p
              · rw [e2, gl]
                have := h1 k hk hkn e
                rw [e2] at this
                exact ltB_swo.ntrans _ _ _ this (ltB_asym hlt)
              · by_cases e3 : (k - 1) / 2 = j
                · rw [e3, gr]; exact h2 h0 k hk hkn e3
                · rw [go _ e2 e3]; exact h1 k hk hkn e)
          (fun hp0 k hk hkn he => by
            rw [size_swp] at hkn
            have hpp := h1 p hp0 (by omega) (by omega)
            rw [go ((p - 1) / 2) (by omega) (by omega)]
            by_cases e : k = j
            · subst e; rw [gr]; exact hpp
            · rw [go k (by omega) e]
              have := h1 k hk hkn e
              rw [he] at this
              exact ltB_swo.ntrans _ _ _ this hpp)
        rw [size_swp] at r2
        exact ⟨r1, permIn_trans _ _ _ _ _ (swp_permIn d 0 d.size p j (by omega) (by omega) (by omega) (by omega) (Nat.le_refl _)) r2⟩
    · obtain rfl : j = 0 := by omega
      rw [up_zero]
      exact ⟨fun k hk hkn => h1 k hk hkn (by omega), permIn_refl d _ _⟩
theorem permIn_perm {d d' : Array Wt} (h : PermIn 0 d.size d d') : d'.size = d.size ∧ d'.toList.Perm d.toList := by
  refine ⟨h.1, ?_⟩
  have h3 := h.2.2
  have e1 : d.extract 0 d.size = d := by simp
  have e2 : d'.extract 0 d.size = d' := by rw [← h.1]; simp
  rwa [e1, e2] at h3
/-- One more is put in. -/
theorem push_holds {d : Array Wt} (h : Hp d) (x : Wt) : Hp (up d.size (d.push x)) ∧ (up d.size (d.push x)).size = d.size + 1 ∧ (up d.size (d.push x)).toList.Perm (d.toList ++ [x]) := by
  have hs : (d.push x).size = d.size + 1 := by simp
  have hg : ∀ k, k < d.size → (d.push x)[k]! = d[k]! := fun k hk => by
    rw [getElem!_pos _ k (by omega), getElem!_pos d k hk, Array.getElem_push_lt hk]
  obtain ⟨h1, h2⟩ := up_holds d.size d.size (d.push x) (Nat.le_refl _) (by omega)
    (fun k hk hkn hne => by rw [hg k (by omega), hg _ (by omega)]; exact h k hk (by omega))
    (fun _ k hk hkn he => by omega)
  obtain ⟨h3, h4⟩ := permIn_perm h2
  exact ⟨h1, by rw [h3, hs], by simpa using h4⟩

/-- Down from place i, of n that stand. -/
def down (n i : Nat) (d : Array Wt) : Array Wt := siftDown gtB n 0 i d
theorem sd_size (n : Nat) : ∀ (m i : Nat) (d : Array Wt), n - i ≤ m → (siftDown gtB n 0 i d).size = d.size := by
  intro m
  induction m with
  | zero => intro i d h; rw [siftDown, dif_pos (by omega)]
  | succ m ih =>
    intro i d h
    rw [siftDown]
    split
    · rfl
    · split
      · split
        · rfl
        · split
          · rw [ih _ _ (by omega), size_swp]
          · rfl
      · split
        · rfl
        · rw [ih _ _ (by omega), size_swp]
theorem down_size (n i : Nat) (d : Array Wt) : (down n i d).size = d.size := sd_size n _ i d (Nat.le_refl _)
theorem dn_end {n i : Nat} (d : Array Wt) (h : n ≤ 2 * i + 1) : down n i d = d := by unfold down; rw [siftDown, dif_pos h]
theorem dn_right_stop {n i : Nat} (d : Array Wt) (h1 : 2 * i + 2 < n) (h2 : ltB d[2 * i + 2]! d[2 * i + 1]! = true) (h3 : ltB d[2 * i + 2]! d[i]! = false) : down n i d = d := by
  unfold down
  rw [siftDown, dif_neg (by omega), show 0 + (2 * i + 1) + 1 = 2 * i + 2 by omega, Nat.zero_add, Nat.zero_add, Nat.zero_add]
  unfold gtB
  rw [h2, h3]
  simp [show 2 * i + 1 + 1 < n by omega]
theorem dn_right_go {n i : Nat} (d : Array Wt) (h1 : 2 * i + 2 < n) (h2 : ltB d[2 * i + 2]! d[2 * i + 1]! = true) (h3 : ltB d[2 * i + 2]! d[i]! = true) : down n i d = down n (2 * i + 2) (swp d i (2 * i + 2)) := by
  unfold down
  rw [siftDown, dif_neg (by omega), show 0 + (2 * i + 1) + 1 = 2 * i + 2 by omega, Nat.zero_add, Nat.zero_add, Nat.zero_add, show gtB d[2 * i + 1]! d[2 * i + 2]! = true from h2, show gtB d[i]! d[2 * i + 2]! = true from h3]
  simp [show 2 * i + 1 + 1 < n by omega]
theorem dn_left_stop {n i : Nat} (d : Array Wt) (h0 : 2 * i + 1 < n) (h1 : 2 * i + 2 < n → ltB d[2 * i + 2]! d[2 * i + 1]! = false) (h3 : ltB d[2 * i + 1]! d[i]! = false) : down n i d = d := by
  unfold down
  rw [siftDown, dif_neg (by omega), show 0 + (2 * i + 1) + 1 = 2 * i + 2 by omega, Nat.zero_add, Nat.zero_add, Nat.zero_add, show gtB d[i]! d[2 * i + 1]! = false from h3]
  by_cases h : 2 * i + 2 < n
  · simp [show gtB d[2 * i + 1]! d[2 * i + 2]! = false from h1 h]
  · simp [show ¬ 2 * i + 1 + 1 < n by omega]
theorem dn_left_go {n i : Nat} (d : Array Wt) (h0 : 2 * i + 1 < n) (h1 : 2 * i + 2 < n → ltB d[2 * i + 2]! d[2 * i + 1]! = false) (h3 : ltB d[2 * i + 1]! d[i]! = true) : down n i d = down n (2 * i + 1) (swp d i (2 * i + 1)) := by
  unfold down
  rw [siftDown, dif_neg (by omega), show 0 + (2 * i + 1) + 1 = 2 * i + 2 by omega, Nat.zero_add, Nat.zero_add, Nat.zero_add, show gtB d[i]! d[2 * i + 1]! = true from h3]
  by_cases h : 2 * i + 2 < n
  · simp [show gtB d[2 * i + 1]! d[2 * i + 2]! = false from h1 h]
  · simp [show ¬ 2 * i + 1 + 1 < n by omega]

/-- Made to stand as a heap. -/
def build (k : Nat) (d : Array Wt) : Array Wt := heapBuild gtB d.size 0 k d
theorem build_holds (d : Array Wt) : Hp (heapBuild gtB d.size 0 (d.size / 2) d) ∧ (heapBuild gtB d.size 0 (d.size / 2) d).size = d.size ∧ (heapBuild gtB d.size 0 (d.size / 2) d).toList.Perm d.toList := by
  obtain ⟨h1, h2⟩ := Sort.build gtB_swo d.size 0 (d.size / 2) d (by omega) (fun i h1 h2 k hk hkn => by omega)
  rw [Nat.zero_add] at h2
  obtain ⟨h3, h4⟩ := permIn_perm h2
  exact ⟨hp_ok.2 (by rw [h3]; exact h1), h3, h4⟩

/-- The first one is taken out: the last one to its place, and down. -/
theorem pop_holds {d : Array Wt} (h : Hp d) (h0 : 0 < d.size) :
    let e := down (d.size - 1) 0 (swp d 0 (d.size - 1))
    e.size = d.size ∧ e[d.size - 1]! = d[0]! ∧ Hp e.pop ∧ e.pop.size = d.size - 1 ∧ (d[0]! :: e.pop.toList).Perm d.toList ∧ ∀ x ∈ d.toList, ltB x d[0]! = false := by
  intro e
  have hes : e.size = d.size := by rw [show e = down (d.size - 1) 0 (swp d 0 (d.size - 1)) from rfl, down_size, size_swp]
  have ho := hp_ok.1 h
  have g : ∀ k, k ≠ 0 → k ≠ d.size - 1 → (swp d 0 (d.size - 1))[k]! = d[k]! := fun k a b => swp_other d _ _ _ a b
  obtain ⟨r1, r2⟩ := sift gtB_swo (d.size - 1) 0 0 (d.size - 1) 0 (swp d 0 (d.size - 1)) (by omega) (by rw [size_swp]; omega) (Nat.le_refl _)
    (fun i _ hi hne k hk hkn => by
      rw [Nat.zero_add, Nat.zero_add, g i hne (by omega), g k (by omega) (by omega)]
      have := ho i (by omega) k hk (by omega)
      rwa [Nat.zero_add, Nat.zero_add] at this)
    (fun p hp hpk => by omega)
  change ∀ i, 0 ≤ i → i < d.size - 1 → Ok gtB 0 (d.size - 1) e i at r1
  change PermIn 0 (0 + (d.size - 1)) (swp d 0 (d.size - 1)) e at r2
  rw [Nat.zero_add] at r2
  have hl : e[d.size - 1]! = d[0]! := by
    rw [r2.2.1 _ (Or.inr (Nat.le_refl _))]
    exact swp_right d 0 (d.size - 1) (by omega)
  have hps : e.pop.size = d.size - 1 := by rw [Array.size_pop, hes]
  have hpg : ∀ k, k < d.size - 1 → e.pop[k]! = e[k]! := fun k hk => by
    rw [getElem!_pos _ k (by omega), getElem!_pos e k (by omega), Array.getElem_pop]
  have hpm : PermIn 0 d.size d e := permIn_trans _ _ _ _ _ (swp_permIn d 0 d.size 0 (d.size - 1) (by omega) (by omega) (by omega) (by omega) (Nat.le_refl _)) (permIn_mono _ _ 0 (d.size - 1) 0 d.size (Nat.le_refl _) (by omega) (by rw [size_swp]; exact Nat.le_refl _) r2)
  have hpe := (permIn_perm hpm).2
  refine ⟨hes, hl, fun k hk hkn => ?_, hps, ?_, fun x hx => ?_⟩
  · rw [hps] at hkn
    rw [hpg k hkn, hpg _ (by omega)]
    have := r1 ((k - 1) / 2) (Nat.zero_le _) (by omega) k (by omega) hkn
    rwa [Nat.zero_add, Nat.zero_add] at this
  · have hd : e.toList = e.pop.toList ++ [d[0]!] := by
      have hne : e.toList ≠ [] := by
        intro hc
        have : e.toList.length = 0 := by rw [hc]; rfl
        rw [Array.length_toList] at this
        omega
      rw [Array.toList_pop, ← hl, show e[d.size - 1]! = e.toList.getLast hne by
        rw [List.getLast_eq_getElem, getElem!_pos e _ (by omega), Array.getElem_toList]
        congr 1
        rw [Array.length_toList, hes]]
      exact (List.dropLast_concat_getLast hne).symm
    rw [hd] at hpe
    exact (List.perm_append_comm (l₁ := [d[0]!])).trans hpe
  · obtain ⟨i, hi, rfl⟩ := List.mem_iff_getElem.1 hx
    have hi' : i < d.size := by simpa using hi
    have := hp_root h i hi'
    rwa [getElem!_pos d i hi'] at this
end Go.Proofs.Ytkfjhfneagjejaa.Queue
