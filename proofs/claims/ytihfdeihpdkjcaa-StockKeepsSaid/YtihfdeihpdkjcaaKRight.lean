/-
  Contracts of package stock: which stock may be (addsUp, skus, areNames, unitsMayBe, Right).
-/
import Derived.Test.YtihfdeihpdkjcaaKFind
namespace Go.Proofs.Ytihfdeihpdkjcaa.Goods.Stk
open Go.ChangeShapes Go.WideShapes Go.ChangeAt Go.RowKit Go.Shelf

theorem unitsMayBe_any (n : Int) (w : World) : Calls Try.prog 22 #[.int .i64 n] w fun e w' => e = .returned (.bool (decide (unitP n))) ∧ w = w' := by
  by_cases h1 : 1 ≤ n
  · by_cases h2 : n ≤ 1073741824
    · rw [decide_eq_true (show unitP n from ⟨h1, h2⟩)]
      go_enter Try.func22, Try.ntmps22
      go_wp2
      go_ret
      exact ⟨rfl, rfl⟩
    · rw [decide_eq_false (show ¬ unitP n from fun h => h2 h.2)]
      go_enter Try.func22, Try.ntmps22
      go_wp2
      go_ret
      exact ⟨rfl, rfl⟩
  · rw [decide_eq_false (show ¬ unitP n from fun h => h1 h.1)]
    go_enter Try.func22, Try.ntmps22
    go_wp2
    go_ret
    exact ⟨rfl, rfl⟩

def inAll (x : Rw) : Prop := inP x.n ∧ inP x.f ∧ inP x.h ∧ inP x.p ∧ inP x.t
/-- The five numbers. -/
def five (x : Rw) (j : Nat) : Int := if j = 0 then x.n else if j = 1 then x.f else if j = 2 then x.h else if j = 3 then x.p else x.t
def FiveR (x : Rw) (k : Nat) : Prop := ∀ j, j < k → inP (five x j)
theorem five_all {x : Rw} (h : FiveR x 5) : inAll x := ⟨h 0 (by omega), h 1 (by omega), h 2 (by omega), h 3 (by omega), h 4 (by omega)⟩
theorem five_no {x : Rw} {j : Nat} (hj : j < 5) (h : ¬ inP (five x j)) : addB x = false := by
  refine decide_eq_false fun ha => h ?_
  obtain ⟨a, b, c, d, e, _⟩ := ha
  rcases (by omega : j = 0 ∨ j = 1 ∨ j = 2 ∨ j = 3 ∨ j = 4) with rfl | rfl | rfl | rfl | rfl
  · exact a
  · exact b
  · exact c
  · exact d
  · exact e
theorem five_succ {x : Rw} {j : Nat} (h : FiveR x j) (hi : inP (five x j)) : FiveR x (j + 1) := fun i hij => by
  by_cases e : i = j
  · subst e; exact hi
  · exact h i (by omega)

set_option maxRecDepth 100000 in
set_option maxHeartbeats 2000000 in
theorem addsUp_any (x : Rw) (w : World) : Calls Try.prog 32 #[rv x] w (BoolB (addB x) w) := by
  have hb := al w (.cells #[.string x.s, .int .i64 x.n, .int .i64 x.f, .int .i64 x.h, .int .i64 x.p, .int .i64 x.t] 25)
  have hx := Box.made w [.string x.s, .int .i64 x.n, .int .i64 x.f, .int .i64 x.h, .int .i64 x.p, .int .i64 x.t] 25
  have hb2 := below_trans hb (al (w.alloc (.cells #[.string x.s, .int .i64 x.n, .int .i64 x.f, .int .i64 x.h, .int .i64 x.p, .int .i64 x.t] 25)) (.cells #[.int .i64 x.n, .int .i64 x.f, .int .i64 x.h, .int .i64 x.p, .int .i64 x.t] 3))
  have hx2 := hx.below (al (w.alloc (.cells #[.string x.s, .int .i64 x.n, .int .i64 x.f, .int .i64 x.h, .int .i64 x.p, .int .i64 x.t] 25)) (.cells #[.int .i64 x.n, .int .i64 x.f, .int .i64 x.h, .int .i64 x.p, .int .i64 x.t] 3))
  have hy := Box.made (w.alloc (.cells #[.string x.s, .int .i64 x.n, .int .i64 x.f, .int .i64 x.h, .int .i64 x.p, .int .i64 x.t] 25)) [.int .i64 x.n, .int .i64 x.f, .int .i64 x.h, .int .i64 x.p, .int .i64 x.t] 3
  simp only [World.size_alloc] at hy
  obtain ⟨W0, hW0⟩ : ∃ W0, (w.alloc (.cells #[.string x.s, .int .i64 x.n, .int .i64 x.f, .int .i64 x.h, .int .i64 x.p, .int .i64 x.t] 25)).alloc (.cells #[.int .i64 x.n, .int .i64 x.f, .int .i64 x.h, .int .i64 x.p, .int .i64 x.t] 3) = W0 := ⟨_, rfl⟩
  have HB : Hid (Below w.heap.size w W0) := Lib.hid (hW0 ▸ hb2)
  have HX : Hid (Box w.heap.size [.string x.s, .int .i64 x.n, .int .i64 x.f, .int .i64 x.h, .int .i64 x.p, .int .i64 x.t] W0) := Lib.hid (hW0 ▸ hx2)
  have HY : Hid (Box (w.heap.size + 1) [.int .i64 x.n, .int .i64 x.f, .int .i64 x.h, .int .i64 x.p, .int .i64 x.t] W0) := Lib.hid (hW0 ▸ hy)
  clear hb hx hb2 hx2 hy
  unfold rv
  go_enter Try.func32, Try.ntmps32
  go_wp2
  clear hW0
  go_loop [4, 17] (fun _ i => ∃ k : Nat, k ≤ 5 ∧ i = .int .i64 k ∧ FiveR x k) (fun _ i => 5 - (Go.RowKit.intOf i).toNat)
  case atStart => exact ⟨0, by omega, rfl, fun _ h => by omega⟩
  case round =>
    obtain ⟨k, hk, rfl, hr⟩ := hrel
    have HR := Lib.hid hr
    clear hr
    by_cases hlt : k < 5
    · have hsz := HY.out.1
      have hcell : W0.cell? ⟨w.heap.size + 1, k, none⟩ = some (.int .i64 (five x k)) := by
        refine (HY.out.2 k _ ?_).1
        rcases (by omega : k = 0 ∨ k = 1 ∨ k = 2 ∨ k = 3 ∨ k = 4) with rfl | rfl | rfl | rfl | rfl <;> rfl
      have HS := Lib.hid (fun h => five_succ HR.out (j := k) h)
      have HN := Lib.hid (fun h => five_no (x := x) hlt h)
      generalize five x k = z at hcell HS HN
      by_cases hz0 : z < 0
      · have HNO := Lib.hid (HN.out (fun h => by have := h.1; omega))
        go_wp2
        go_ret
        exact ⟨ret_bool HNO.out.symm, HB.out⟩
      · by_cases hz1 : 1073741824 < z
        · have HNO := Lib.hid (HN.out (fun h => by have := h.2; omega))
          go_wp2
          go_ret
          exact ⟨ret_bool HNO.out.symm, HB.out⟩
        · have HS2 := Lib.hid (HS.out ⟨by omega, by omega⟩)
          go_wp2
          go_round
          case rel => exact ⟨k + 1, by omega, by go_num, HS2.out⟩
          case measure => simp [intOf]; omega
    · obtain rfl : k = 5 := by omega
      obtain ⟨⟨n1, n2⟩, ⟨f1, f2⟩, ⟨h1, h2⟩, ⟨p1, p2⟩, ⟨t1, t2⟩⟩ := five_all HR.out
      have HI := Lib.hid (five_all HR.out)
      have hs0 := HX.out.1
      have c1 := (HX.out.2 1 _ rfl).1
      have c2 := (HX.out.2 2 _ rfl).1
      have c3 := (HX.out.2 3 _ rfl).1
      have c4 := (HX.out.2 4 _ rfl).1
      have c5 := (HX.out.2 5 _ rfl).1
      go_wp2
      go_ret
      refine ⟨ret_bool ?_, HB.out⟩
      unfold addB
      by_cases he : x.n = x.f + x.h + x.p + x.t
      · rw [decide_eq_true (show addP x from ⟨HI.out.1, HI.out.2.1, HI.out.2.2.1, HI.out.2.2.2.1, HI.out.2.2.2.2, he⟩)]
        simp [he]
      · rw [decide_eq_false (show ¬ addP x from fun h => he h.2.2.2.2.2)]
        simp [he]
theorem right1_any (x : Rw) (w : World) : Calls Try.prog 31 #[rv x] w (BoolB (!addB x) w) := by
  have HC := Lib.hid (fun W => addsUp_any x W)
  have HB := Lib.hid (al w (.cells #[.string x.s, .int .i64 x.n, .int .i64 x.f, .int .i64 x.h, .int .i64 x.p, .int .i64 x.t] 25))
  unfold rv at HC ⊢
  generalize addB x = m at *
  go_enter Try.func31, Try.ntmps31
  go_wp2_with (go_at_call 32; (with_reducible refine (HC.out _).mono ?_); rintro e w' ⟨rfl, hz⟩; have HZ := Lib.hid (below_trans HB.out hz); clear hz)
  go_ret
  exact ⟨rfl, HZ.out⟩

set_option maxRecDepth 100000 in
set_option maxHeartbeats 1000000 in
theorem IndexFuncR_any {v : Value} {l : List Rw} {w : World} (h : SRow w v l) (_hl : l.length ≤ 1000) : Calls Try.prog 46 #[v, .func (.func 31) #[] #[]] w (IdxE (fun x => !addB x) l w) := by
  obtain ⟨a, cap, rfl⟩ := h.slice
  have H := Lib.hid h
  clear h
  go_enter Try.func46, Try.ntmps46
  go_wp2
  go_loopw [5, 8] (fun _ i wr => ∃ k : Nat, k ≤ l.length ∧ i = .int .i64 k ∧ IdxR (fun x => !addB x) l k w wr) (fun _ i _ => l.length - (Go.RowKit.intOf i).toNat)
  case atStart => exact ⟨0, Nat.zero_le _, rfl, by simp, Below.refl _ _⟩
  case round =>
    obtain ⟨k, hk, rfl, hr⟩ := hrel
    have HR := Lib.hid hr
    clear hr
    by_cases hlt : k < l.length
    · obtain ⟨b, off, rfl, hlc, hcap, hb, k0, k1, k2, k3, k4, k5⟩ := (H.out.below HR.out.2).at hlt
      have hn := right1_any l[k] wr
      unfold rv at hn
      have HAT := Lib.hid (any_take (p := fun x => !addB x) hlt)
      have HNA := Lib.hid (any_at (p := fun x => !addB x) hlt)
      cases hm : addB l[k] with
      | true =>
        rw [hm] at hn HAT
        have HN := Lib.hid hn
        clear hm HNA hn
        go_wp2_with fail
        (with_reducible refine HN.out.mono ?_)
        rintro e w' ⟨rfl, hz⟩
        have HZ := Lib.hid (below_trans HR.out.2 hz)
        clear hz
        go_wp2_with fail
        go_roundw
        case rel => exact ⟨k + 1, by omega, by go_num, by rw [HAT.out, HR.out.1]; rfl, HZ.out⟩
        case measure => simp [Go.RowKit.intOf]; omega
      | false =>
        rw [hm] at hn
        have HN := Lib.hid hn
        have HNA2 := Lib.hid (HNA.out (by rw [hm]; rfl))
        clear hm HNA hn HAT
        go_wp2_with fail
        (with_reducible refine HN.out.mono ?_)
        rintro e w' ⟨rfl, hz⟩
        have HZ := Lib.hid (below_trans HR.out.2 hz)
        clear hz
        go_wp2_with fail
        go_ret
        exact ⟨k, rfl, ⟨fun _ => HNA2.out, fun _ => by omega⟩, HZ.out⟩
    · obtain rfl : k = l.length := by omega
      have HA : Hid (l.any (fun x => !addB x) = false) := Lib.hid (by have := HR.out.1; rwa [List.take_length] at this)
      go_wp2
      go_ret
      exact ⟨-1, rfl, ⟨fun h => by omega, fun h => by rw [HA.out] at h; cases h⟩, HR.out.2⟩
set_option maxRecDepth 100000 in
theorem ContainsFuncR_any {v : Value} {l : List Rw} {w : World} (h : SRow w v l) (hl : l.length ≤ 1000) : Calls Try.prog 30 #[v, .func (.func 31) #[] #[]] w (BoolB (!l.all addB) w) := by
  have HI := Lib.hid (IndexFuncR_any h hl)
  have HE : Hid (l.any (fun x => !addB x) = !l.all addB) := Lib.hid (by rw [← any_not addB l, Bool.not_not])
  obtain ⟨a, cap, rfl⟩ := h.slice
  clear h
  go_enter Try.func30, Try.ntmps30
  go_wp2_with fail
  (with_reducible refine HI.out.mono ?_)
  rintro e w' ⟨z, rfl, hz, hb⟩
  have HZ := Lib.hid hz
  have HB := Lib.hid hb
  clear hz hb HI
  go_wp2_with fail
  go_ret
  refine ⟨ret_bool ?_, HB.out⟩
  rw [← HE.out]
  cases hm : l.any (fun x => !addB x) with
  | true => exact decide_eq_true (HZ.out.2 hm)
  | false => exact decide_eq_false (fun h => by rw [HZ.out.1 h] at hm; cases hm)

theorem names_take {l : List Rw} {k : Nat} (h : k < l.length) : names (l.take (k + 1)) = names (l.take k) ++ [l[k].s] := by
  unfold names
  rw [List.take_succ_eq_append_getElem h, List.map_append]
  rfl
theorem TRow.one' (w : World) (s : ByteArray) : TRow (w.alloc (.cells #[.string s] 9)) (.slice (some ⟨w.heap.size, 0, none⟩) 1 1) [s] := by
  refine ⟨_, 1, rfl, by simp, by omega, fun _ => ⟨_, 0, rfl, by simp, fun j hj => ?_⟩⟩
  obtain rfl : j = 0 := by simpa using hj
  simp
set_option maxRecDepth 100000 in
set_option maxHeartbeats 2000000 in
theorem skus_any {v : Value} {l : List Rw} {w : World} (h : SRow w v l) (hl : l.length ≤ 1000) : Calls Try.prog 29 #[v] w (NewT (names l) w) := by
  obtain ⟨a, cap, rfl⟩ := h.slice
  have H := Lib.hid h
  clear h
  go_enter Try.func29, Try.ntmps29
  go_wp2
  go_loopw [3, 5, 8] (fun u _ i wr => ∃ k : Nat, k ≤ l.length ∧ i = .int .i64 k ∧ OwnT w.heap.size u (names (l.take k)) wr ∧ Below w.heap.size w wr) (fun _ _ i _ => l.length - (Go.RowKit.intOf i).toNat)
  case atStart => exact ⟨0, Nat.zero_le _, rfl, OwnT.nil _ _, Below.refl _ _⟩
  case round =>
    obtain ⟨k, hk, rfl, ho, hb⟩ := hrel
    obtain ⟨ua, un, uc, rfl⟩ : ∃ a n c, u3 = .slice a n c := (by obtain ⟨a', c', e⟩ := ho.row.slice; exact ⟨a', _, c', e⟩)
    have HO := Lib.hid ho
    have HB := Lib.hid hb
    clear ho hb
    by_cases hlt : k < l.length
    · obtain ⟨b, off, rfl, hlc, hcap, hbl, k0, k1, k2, k3, k4, k5⟩ := (H.out.below HB.out).at hlt
      have HNT := Lib.hid (names_take hlt)
      have hlen : (names (l.take k)).length = k := by rw [names_len, List.length_take]; omega
      generalize l[k] = x at *
      have hba := al wr (.cells #[.string x.s, .int .i64 x.n, .int .i64 x.f, .int .i64 x.h, .int .i64 x.p, .int .i64 x.t] 25)
      have hbb := al (wr.alloc (.cells #[.string x.s, .int .i64 x.n, .int .i64 x.f, .int .i64 x.h, .int .i64 x.p, .int .i64 x.t] 25)) (.cells #[.string x.s] 9)
      have hone := TRow.one' (wr.alloc (.cells #[.string x.s, .int .i64 x.n, .int .i64 x.f, .int .i64 x.h, .int .i64 x.p, .int .i64 x.t] 25)) x.s
      simp only [World.size_alloc] at hone
      have HO2 := Lib.hid ((HO.out.below hba).below hbb)
      have HW2 := Lib.hid (below_trans HB.out (below_trans hba hbb))
      have HONE := Lib.hid hone
      have hsz := HW2.out.size
      have HLEN := Lib.hid hlen
      clear hba hbb hone hlen
      go_wp2_with (at_builtin; refine wpList_append_T rfl _ _ rfl w.heap.size _ (names (l.take k)) rfl HO2.out _ [x.s] rfl HONE.out (by rw [HLEN.out]; omega) (by simp) hsz ?_)
      intro v' w1 hown hbel
      obtain ⟨va, vn, vc, rfl⟩ : ∃ a n c, v' = .slice a n c := (by obtain ⟨a', c', e⟩ := hown.row.slice; exact ⟨a', _, c', e⟩)
      have HR := Lib.hid (And.intro hown (HW2.out.trans hbel))
      clear hown hbel
      go_wp2_with fail
      go_roundw
      case rel => exact ⟨k + 1, by omega, by go_num, by rw [HNT.out]; exact HR.out.1, HR.out.2⟩
      case measure => simp [intOf]; omega
    · obtain rfl : k = l.length := by omega
      go_wp2
      go_ret
      exact ⟨_, rfl, by have := HO.out; rwa [List.take_length] at this, HB.out⟩

theorem subsB_nil (s : List ByteArray) : subsB [] s = true := by unfold subsB twiceB risesB; simp
set_option maxRecDepth 100000 in
theorem areNames_any {v : Value} {l : List ByteArray} {w : World} (h : TRow w v l) (hl : l.length ≤ 1000) (hs : ∀ x ∈ l, x.size ≤ 1000000) : Calls Try.prog 23 #[v] w (BoolB (skusB l) w) := by
  have HR := Lib.hid (Right_any (v := v) (u := .slice none 0 0) (s := l) (l := []) ⟨h, GRow.nil w⟩ ⟨hl, by simp, hs, by simp⟩)
  have HE : Hid (rightB l [] = skusB l) := Lib.hid (by unfold rightB; rw [subsB_nil, Bool.and_true])
  rw [HE.out] at HR
  obtain ⟨a, cap, rfl⟩ := h.slice
  clear h HE
  generalize skusB l = m at *
  go_enter Try.func23, Try.ntmps23
  go_wp2_with (go_at_call 43; (with_reducible refine HR.out.mono ?_); rintro e w' ⟨rfl, hz⟩; have HZ := Lib.hid hz; clear hz)
  go_ret
  exact ⟨rfl, HZ.out⟩

/-- Stock that is not too long. -/
def Brief (l : List Rw) : Prop := l.length ≤ 1000 ∧ ∀ x ∈ l, x.s.size ≤ 1000000
set_option maxRecDepth 100000 in
set_option maxHeartbeats 2000000 in
theorem RightS_any {v : Value} {l : List Rw} {w : World} (h : SRow w v l) (hl : Brief l) : Calls Try.prog 11 #[v] w (BoolB (rightS l) w) := by
  have HS := Lib.hid (skus_any h hl.1)
  have HN := Lib.hid (fun (u : Value) W (hr : TRow W u (names l)) => areNames_any hr (by rw [names_len]; exact hl.1) (fun x hx => by obtain ⟨y, hy, rfl⟩ := List.mem_map.1 hx; exact hl.2 y hy))
  have HC := Lib.hid (fun W (hb : Below w.heap.size w W) => ContainsFuncR_any (h.below hb) hl.1)
  obtain ⟨a, cap, rfl⟩ := h.slice
  clear h hl
  unfold rightS
  generalize skusB (names l) = m at *
  generalize l.all addB = n at *
  by_cases h8 : l.length ≤ 8
  · rw [decide_eq_true h8, Bool.true_and]
    cases m with
    | false =>
      go_enter Try.func11, Try.ntmps11
      go_wp2_with fail
      (with_reducible refine HS.out.mono ?_)
      rintro e w1 ⟨u, rfl, ho, hz⟩
      have HZ := Lib.hid hz
      have HR := Lib.hid (HN.out _ _ ho.row)
      obtain ⟨ua, un, uc, rfl⟩ : ∃ a n c, u = .slice a n c := (by obtain ⟨a', c', e⟩ := ho.row.slice; exact ⟨a', _, c', e⟩)
      clear ho hz
      go_wp2_with fail
      (with_reducible refine HR.out.mono ?_)
      rintro e w2 ⟨rfl, hz⟩
      have HZ2 := Lib.hid (below_trans HZ.out hz)
      clear hz
      go_wp2_with fail
      go_ret
      exact ⟨rfl, HZ2.out⟩
    | true =>
      go_enter Try.func11, Try.ntmps11
      go_wp2_with fail
      (with_reducible refine HS.out.mono ?_)
      rintro e w1 ⟨u, rfl, ho, hz⟩
      have HZ := Lib.hid hz
      have HR := Lib.hid (HN.out _ _ ho.row)
      obtain ⟨ua, un, uc, rfl⟩ : ∃ a n c, u = .slice a n c := (by obtain ⟨a', c', e⟩ := ho.row.slice; exact ⟨a', _, c', e⟩)
      clear ho hz
      go_wp2_with fail
      (with_reducible refine HR.out.mono ?_)
      rintro e w2 ⟨rfl, hz⟩
      have HZ2 := Lib.hid (below_trans HZ.out hz)
      clear hz
      go_wp2_with fail
      (with_reducible refine (HC.out _ HZ2.out).mono ?_)
      rintro e w3 ⟨rfl, hz⟩
      have HZ3 := Lib.hid (below_trans HZ2.out hz)
      clear hz
      go_wp2_with fail
      go_ret
      exact ⟨ret_bool (by simp), HZ3.out⟩
  · rw [decide_eq_false h8, Bool.false_and]
    go_enter Try.func11, Try.ntmps11
    go_wp2_with fail
    go_ret
    exact ⟨rfl, Below.refl _ _⟩
end Go.Proofs.Ytihfdeihpdkjcaa.Goods.Stk
