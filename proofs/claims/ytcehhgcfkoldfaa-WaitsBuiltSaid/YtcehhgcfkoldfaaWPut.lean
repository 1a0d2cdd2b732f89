/-
  Contracts of package waits: one more put into an index (put), and one left out (without).
-/
import Derived.Test.YtcehhgcfkoldfaaWCat
namespace Go.Proofs.Ytcehhgcfkoldfaa.Waits
open Go.ChangeShapes Go.WideShapes Go.ChangeAt Go.RowKit Go.Shelf
open Go.Proofs.Ytcehhgcfkoldfaa.Goods
open Go.Proofs.Ytcehhgcfkoldfaa.Queue (Wt ltB wv QRow)

theorem LRow.cut {w : World} {b off cap k : Nat} {l : List Ln} (h : LRow w (.slice (some ⟨b, off, none⟩) l.length cap) l) (hk : k < l.length) : LRow w (.slice (some ⟨b, off + k * 4, none⟩) (l.length - k) (cap - k)) (l.drop k) := by
  have := h.drop (Nat.le_of_lt hk)
  rwa [addr_add] at this
theorem LRow.naught {w : World} {n c : Nat} {l : List Ln} (h : LRow w (.slice none n c) l) : l = [] ∧ n = 0 := by
  obtain rfl := h.no
  exact ⟨rfl, h.cap.1⟩
theorem LRow.void {w : World} (a : Option Addr) {c : Nat} (hc : c ≤ 9223372036854775807) : LRow w (.slice a 0 c) [] := ⟨a, c, rfl, Nat.zero_le _, hc, fun h => absurd h (Nat.lt_irrefl _)⟩
/-- What is put together in put. -/
theorem cat_L {w W : World} {l : List Ln} {k : Nat} {s1 s3 : Value} (x : Ln) (hw : Below w.heap.size w W) (h1 : LRow W s1 (l.take k)) (h3 : LRow W s3 (l.drop k)) (hl : l.length ≤ 1000) :
    Calls Try.prog 42 #[.slice (some ⟨W.heap.size + 1, 0, none⟩) 3 3] (((W.alloc (.cells #[.string x.k, .int .i64 x.w.c, .int .i64 x.w.s, .int .i64 x.w.o] 26)).alloc (.cells #[s1, .slice (some ⟨W.heap.size, 0, none⟩) 1 1, s3] 22)).drew) (fun e w' => ∃ v, e = .returned v ∧ OwnL w.heap.size v (l.take k ++ x :: l.drop k) w' ∧ Below w.heap.size w w' ∧ Below W.heap.size W w') := by
  have b1 := al W (.cells #[.string x.k, .int .i64 x.w.c, .int .i64 x.w.s, .int .i64 x.w.o] 26)
  have b2 := al (W.alloc (.cells #[.string x.k, .int .i64 x.w.c, .int .i64 x.w.s, .int .i64 x.w.o] 26)) (.cells #[s1, .slice (some ⟨W.heap.size, 0, none⟩) 1 1, s3] 22)
  have b3 := dr ((W.alloc (.cells #[.string x.k, .int .i64 x.w.c, .int .i64 x.w.s, .int .i64 x.w.o] 26)).alloc (.cells #[s1, .slice (some ⟨W.heap.size, 0, none⟩) 1 1, s3] 22))
  have b23 := below_trans b2 b3
  have b123 := below_trans b1 b23
  have hbx := (Box.made (W.alloc (.cells #[.string x.k, .int .i64 x.w.c, .int .i64 x.w.s, .int .i64 x.w.o] 26)) [s1, .slice (some ⟨W.heap.size, 0, none⟩) 1 1, s3] 22).below b3
  rw [World.size_alloc] at hbx
  refine (ConcatL_three hbx (Nat.le_refl _) (h1.below b123) ((LRow.one W x).below b23) (h3.below b123) (by rw [List.length_take]; omega) (by simp) (by rw [List.length_drop]; omega)).mono ?_
  rintro e w3 ⟨v, rfl, ho, hz⟩
  have hs := hw.size
  have hs2 := b123.size
  exact ⟨v, rfl, ho.mono (by omega), below_trans hw (below_trans b123 hz), below_trans b123 hz⟩
/-- .. and in without. -/
theorem cat_O {W : World} {l m : List Ln} {s1 s3 : Value} (h1 : LRow W s1 l) (h3 : LRow W s3 m) (hl : l.length ≤ 1000) (hm : m.length ≤ 1000) :
    Calls Try.prog 42 #[.slice (some ⟨W.heap.size, 0, none⟩) 2 2] ((W.alloc (.cells #[s1, s3] 22)).drew) (fun e w' => ∃ v, e = .returned v ∧ OwnL W.heap.size v (l ++ m) w' ∧ Below W.heap.size W w') := by
  have b2 := al W (.cells #[s1, s3] 22)
  have b3 := dr (W.alloc (.cells #[s1, s3] 22))
  have b23 := below_trans b2 b3
  have hbx := (Box.made W [s1, s3] 22).below b3
  refine (ConcatL_two hbx (Nat.le_refl _) (h1.below b23) (h3.below b23) hl hm).mono ?_
  rintro e w3 ⟨v, rfl, ho, hz⟩
  have hs2 := b23.size
  exact ⟨v, rfl, ho.mono (by omega), below_trans b23 hz⟩

set_option maxRecDepth 100000 in
set_option maxHeartbeats 2000000 in
theorem put_any {v : Value} {l : List Ln} {w : World} (h : LRow w v l) (hl : l.length ≤ 1000) (hs : Srt l) (x : Ln) : Calls Try.prog 30 #[v, lv x] w (NewL (insL x l) w) := by
  have hb1 := al w (.cells (lcs x).toArray 26)
  have HBX := Lib.hid (Box.made w (lcs x) 26)
  have HB1 := Lib.hid hb1
  have HP := Lib.hid (Waits.place_any (h.below hb1) hl hs x)
  have hk := posI_le x l
  have he := insL_pos x l
  have H := Lib.hid h
  obtain ⟨a, cap, rfl⟩ := h.slice
  obtain ⟨hlc, hcap⟩ := h.cap.2
  generalize posI x l = k at *
  have HE := Lib.hid he
  unfold lcs at HB1 HP
  unfold lv at HP ⊢
  clear h hs hb1 he
  have c1 : (0 : Int) ≤ k := by omega
  have c2 : (k : Int) ≤ l.length := by omega
  have c3 : (k : Int) ≤ cap := by omega
  have c4 : (l.length : Int) ≤ cap := by omega
  go_enter Try.func30, Try.ntmps30
  go_wp2_with fail
  (with_reducible refine HP.out.mono ?_)
  rintro e w' ⟨rfl, hz⟩
  have HZ := Lib.hid (below_trans HB1.out hz)
  have HI := Lib.hid (HBX.out.below hz)
  clear hz
  obtain ⟨x0, x1, x2, x3⟩ := box4 HI.out
  have hsx := HI.out.1
  by_cases hlt : k < l.length
  · obtain ⟨b, off, rfl, _, _, hb, k0, k1, k2, k3⟩ := (H.out.below HZ.out).at hlt
    have c5 : (cap = k) = False := eq_false (by omega)
    have HK := Lib.hid (cat_L x HZ.out ((H.out.below HZ.out).take (Nat.le_of_lt hlt)) ((H.out.below HZ.out).cut hlt) hl)
    clear k0 k1 k2 k3
    go_wp2_with fail
    go_region_held3 (fun w' => w'.cell? ⟨w.heap.size, 0, none⟩ = some (.string x.k) ∧ w'.cell? ⟨w.heap.size, 1, none⟩ = some (.int .i64 x.w.c) ∧ w'.cell? ⟨w.heap.size, 2, none⟩ = some (.int .i64 x.w.s) ∧ w'.cell? ⟨w.heap.size, 3, none⟩ = some (.int .i64 x.w.o)) (first | go_keep | exact ⟨u0, u1, u2, u3⟩ | fail)
      (first
        | (go_at_call 42; (with_reducible refine HK.out.mono ?_); rintro e w5 ⟨v5, rfl, ho5, hz5, hw5⟩; obtain ⟨u0, u1, u2, u3⟩ := box4 (HI.out.below hw5); obtain ⟨a5, n5, c5, rfl⟩ : ∃ a n c, v5 = .slice a n c := (by obtain ⟨a', c', e⟩ := ho5.row.slice; exact ⟨a', _, c', e⟩); have HO5 := Lib.hid ho5; have HZ5 := Lib.hid hz5; clear ho5 hz5 hw5)
        | fail)
    have ho6 := HO5.out
    rw [← HE.out] at ho6
    have HO6 := Lib.hid ho6
    clear ho6
    go_wp2_with fail
    go_ret
    exact ⟨_, rfl, HO6.out, HZ5.out⟩
  · obtain rfl : k = l.length := by omega
    have hd : l.drop l.length = [] := List.drop_length
    have ht : l.take l.length = l := List.take_length
    have hpe := HE.out
    rw [ht, hd] at hpe
    have HPE := Lib.hid hpe
    clear hpe
    cases a with
    | none =>
      obtain ⟨rfl, _⟩ := H.out.naught
      have HK := Lib.hid (cat_L (l := []) (k := 0) x HZ.out (LRow.void none (c := cap) hcap) (LRow.void none (c := cap) hcap) (by simp))
      go_wp2_with fail
      go_region_held3 (fun w' => w'.cell? ⟨w.heap.size, 0, none⟩ = some (.string x.k) ∧ w'.cell? ⟨w.heap.size, 1, none⟩ = some (.int .i64 x.w.c) ∧ w'.cell? ⟨w.heap.size, 2, none⟩ = some (.int .i64 x.w.s) ∧ w'.cell? ⟨w.heap.size, 3, none⟩ = some (.int .i64 x.w.o)) (first | go_keep | exact ⟨u0, u1, u2, u3⟩ | fail)
        (first
          | (go_at_call 42; (with_reducible refine HK.out.mono ?_); rintro e w5 ⟨v5, rfl, ho5, hz5, hw5⟩; obtain ⟨u0, u1, u2, u3⟩ := box4 (HI.out.below hw5); obtain ⟨a5, n5, c5, rfl⟩ : ∃ a n c, v5 = .slice a n c := (by obtain ⟨a', c', e⟩ := ho5.row.slice; exact ⟨a', _, c', e⟩); have HO5 := Lib.hid ho5; have HZ5 := Lib.hid hz5; clear ho5 hz5 hw5)
          | fail)
      go_wp2_with fail
      go_ret
      exact ⟨_, rfl, HO5.out, HZ5.out⟩
    | some ad =>
      obtain ⟨b, off, sp⟩ := ad
      have h1 : LRow w' (.slice (some ⟨b, off, sp⟩) l.length cap) (l.take l.length) := by rw [ht]; exact H.out.below HZ.out
      have h3 : ∀ a' c', c' ≤ 9223372036854775807 → LRow w' (.slice a' 0 c') (l.drop l.length) := fun a' c' hc' => by rw [hd]; exact LRow.void a' hc'
      have hk := fun a' c' hc' => cat_L x HZ.out h1 (h3 a' c' hc') hl
      rw [ht, hd] at hk
      have HK := Lib.hid hk
      clear h1 h3 hk
      clear hd ht
      by_cases hcl : cap = l.length
      · subst hcl
        go_wp2_with fail
        go_region_held3 (fun w' => w'.cell? ⟨w.heap.size, 0, none⟩ = some (.string x.k) ∧ w'.cell? ⟨w.heap.size, 1, none⟩ = some (.int .i64 x.w.c) ∧ w'.cell? ⟨w.heap.size, 2, none⟩ = some (.int .i64 x.w.s) ∧ w'.cell? ⟨w.heap.size, 3, none⟩ = some (.int .i64 x.w.o)) (first | go_keep | exact ⟨u0, u1, u2, u3⟩ | fail)
          (first
            | (go_at_call 42; (with_reducible refine (HK.out _ _ (by omega)).mono ?_); rintro e w5 ⟨v5, rfl, ho5, hz5, hw5⟩; obtain ⟨u0, u1, u2, u3⟩ := box4 (HI.out.below hw5); obtain ⟨a5, n5, c5, rfl⟩ : ∃ a n c, v5 = .slice a n c := (by obtain ⟨a', c', e⟩ := ho5.row.slice; exact ⟨a', _, c', e⟩); have HO5 := Lib.hid ho5; have HZ5 := Lib.hid hz5; clear ho5 hz5 hw5)
            | fail)
        have ho6 := HO5.out
        rw [← HPE.out] at ho6
        have HO6 := Lib.hid ho6
        clear ho6
        go_wp2_with fail
        go_ret
        exact ⟨_, rfl, HO6.out, HZ5.out⟩
      · have c5 : (cap = l.length) = False := eq_false hcl
        go_wp2_with fail
        go_region_held3 (fun w' => w'.cell? ⟨w.heap.size, 0, none⟩ = some (.string x.k) ∧ w'.cell? ⟨w.heap.size, 1, none⟩ = some (.int .i64 x.w.c) ∧ w'.cell? ⟨w.heap.size, 2, none⟩ = some (.int .i64 x.w.s) ∧ w'.cell? ⟨w.heap.size, 3, none⟩ = some (.int .i64 x.w.o)) (first | go_keep | exact ⟨u0, u1, u2, u3⟩ | fail)
          (first
            | (go_at_call 42; (with_reducible refine (HK.out _ _ (by omega)).mono ?_); rintro e w5 ⟨v5, rfl, ho5, hz5, hw5⟩; obtain ⟨u0, u1, u2, u3⟩ := box4 (HI.out.below hw5); obtain ⟨a5, n5, c5, rfl⟩ : ∃ a n c, v5 = .slice a n c := (by obtain ⟨a', c', e⟩ := ho5.row.slice; exact ⟨a', _, c', e⟩); have HO5 := Lib.hid ho5; have HZ5 := Lib.hid hz5; clear ho5 hz5 hw5)
            | fail)
        have ho6 := HO5.out
        rw [← HPE.out] at ho6
        have HO6 := Lib.hid ho6
        clear ho6
        go_wp2_with fail
        go_ret
        exact ⟨_, rfl, HO6.out, HZ5.out⟩

set_option maxRecDepth 100000 in
set_option maxHeartbeats 2000000 in
theorem without_any {v : Value} {l : List Ln} {w : World} (h : LRow w v l) (hl : l.length ≤ 1000) (k : Nat) (hk : k < l.length) : Calls Try.prog 38 #[v, .int .i64 k] w (NewL (l.take k ++ l.drop (k + 1)) w) := by
  have H := Lib.hid h
  obtain ⟨a, cap, rfl⟩ := h.slice
  obtain ⟨b, off, rfl, hlc, hcap, hb, _⟩ := h.at hk
  have c1 : (0 : Int) ≤ k := by omega
  have c2 : (k : Int) ≤ l.length := by omega
  have c3 : (k : Int) ≤ cap := by omega
  have c4 : (l.length : Int) ≤ cap := by omega
  have c6 : (0 : Int) ≤ (k : Int) + 1 := by omega
  have c7 : (k : Int) + 1 ≤ l.length := by omega
  have c8 : (k : Int) + 1 ≤ cap := by omega
  have c9 : IntKind.i64.wrap ((k : Int) + 1) = (k : Int) + 1 := IntWalk.i64_in _ (by omega)
  have c10 : ((k : Int) + 1).toNat = k + 1 := by omega
  clear h
  by_cases hlt : k + 1 < l.length
  · have c5 : (cap = k + 1) = False := eq_false (by omega)
    have HK := Lib.hid (cat_O (H.out.take (Nat.le_of_lt hk)) (H.out.cut hlt) (by rw [List.length_take]; omega) (by rw [List.length_drop]; omega))
    go_enter Try.func38, Try.ntmps38
    go_wp2_with fail
    go_region_held3 (fun w' => True) (trivial)
      (first
        | (go_at_call 42; (with_reducible refine HK.out.mono ?_); rintro e w5 ⟨v5, rfl, ho5, hz5⟩; obtain ⟨a5, n5, c5, rfl⟩ : ∃ a n c, v5 = .slice a n c := (by obtain ⟨a', c', e⟩ := ho5.row.slice; exact ⟨a', _, c', e⟩); have HO5 := Lib.hid ho5; have HZ5 := Lib.hid hz5; clear ho5 hz5)
        | fail)
    go_wp2_with fail
    go_ret
    exact ⟨_, rfl, HO5.out, HZ5.out⟩
  · have hd : l.drop (k + 1) = [] := List.drop_of_length_le (by omega)
    have hkk : l.length = k + 1 := by omega
    have HK := Lib.hid (fun a' c' (hc' : c' ≤ 9223372036854775807) => hd ▸ cat_O (H.out.take (Nat.le_of_lt hk)) (show LRow w (.slice a' 0 c') (l.drop (k + 1)) from hd ▸ LRow.void a' hc') (by rw [List.length_take]; omega) (by rw [hd]; simp))
    rw [hd]
    clear hd
    by_cases hcl : cap = k + 1
    · subst hcl
      have c11 : (k : Int) ≤ (k : Int) + 1 := by omega
      go_enter Try.func38, Try.ntmps38
      go_wp2_with fail
      go_region_held3 (fun w' => True) (trivial)
        (first
          | (go_at_call 42; (with_reducible refine (HK.out _ _ (by omega)).mono ?_); rintro e w5 ⟨v5, rfl, ho5, hz5⟩; obtain ⟨a5, n5, c5, rfl⟩ : ∃ a n c, v5 = .slice a n c := (by obtain ⟨a', c', e⟩ := ho5.row.slice; exact ⟨a', _, c', e⟩); have HO5 := Lib.hid ho5; have HZ5 := Lib.hid hz5; clear ho5 hz5)
          | fail)
      go_wp2_with fail
      go_ret
      exact ⟨_, rfl, HO5.out, HZ5.out⟩
    · have c5 : (cap = k + 1) = False := eq_false hcl
      go_enter Try.func38, Try.ntmps38
      go_wp2_with fail
      go_region_held3 (fun w' => True) (trivial)
        (first
          | (go_at_call 42; (with_reducible refine (HK.out _ _ (by omega)).mono ?_); rintro e w5 ⟨v5, rfl, ho5, hz5⟩; obtain ⟨a5, n5, c5, rfl⟩ : ∃ a n c, v5 = .slice a n c := (by obtain ⟨a', c', e⟩ := ho5.row.slice; exact ⟨a', _, c', e⟩); have HO5 := Lib.hid ho5; have HZ5 := Lib.hid hz5; clear ho5 hz5)
          | fail)
      go_wp2_with fail
      go_ret
      exact ⟨_, rfl, HO5.out, HZ5.out⟩
end Go.Proofs.Ytcehhgcfkoldfaa.Waits
