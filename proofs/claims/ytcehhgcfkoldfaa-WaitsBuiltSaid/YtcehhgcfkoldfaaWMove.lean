/-
  Contract of package waits: Move.
-/
import Derived.Test.YtcehhgcfkoldfaaWFind
namespace Go.Proofs.Ytcehhgcfkoldfaa.Waits
open Go.ChangeShapes Go.WideShapes Go.ChangeAt Go.RowKit Go.Shelf
open Go.Proofs.Ytcehhgcfkoldfaa.Goods
open Go.Proofs.Ytcehhgcfkoldfaa.Queue (Wt ltB wv QRow)

theorem move_bad {l : List Ln} {o c : Int} (h : ¬ (0 ≤ c ∧ c ≤ 3)) : moveE l o c = 1 ∧ moveO l o c = [] := by
  rcases move_ways l o c with ⟨_, e1, e2⟩ | ⟨_, _, e1, e2⟩ | ⟨_, h1, _⟩ | ⟨x, _, h1, _⟩
  · exact ⟨e1, e2⟩
  · exact ⟨e1, e2⟩
  · exact absurd h1 h
  · exact absurd h1 h
theorem bad_any {v : Value} {l : List Ln} {w : World} (h : LRow w v l) (o c : Int) (hc : ¬ (0 ≤ c ∧ c ≤ 3)) : Calls Try.prog 21 #[v, .int .i64 o, .int .i64 c] w (LinesE [] 1 w) := by
  obtain ⟨a, cap, rfl⟩ := h.slice
  clear h
  by_cases h1 : c < 0
  · clear hc
    go_enter Try.func21, Try.ntmps21
    go_wp2_with fail
    go_ret2
    exact ⟨_, rfl, LRow.nil _, Below.refl _ _⟩
  · have h2 : 3 < c := by omega
    clear hc
    go_enter Try.func21, Try.ntmps21
    go_wp2_with fail
    go_ret2
    exact ⟨_, rfl, LRow.nil _, Below.refl _ _⟩

set_option maxRecDepth 100000 in
set_option maxHeartbeats 2000000 in
theorem Move_any {v : Value} {l : List Ln} {w : World} (h : LRow w v l) (hl : Brief l) (o c : Int) : Calls Try.prog 21 #[v, .int .i64 o, .int .i64 c] w (LinesE (moveO l o c) (moveE l o c) w) := by
  by_cases hc : 0 ≤ c ∧ c ≤ 3
  case neg => rw [(move_bad hc).1, (move_bad hc).2]; exact bad_any h o c hc
  obtain ⟨hc0, hc3⟩ := hc
  have n1 : ¬ c < 0 := by omega
  have n2 : ¬ 3 < c := by omega
  have H := Lib.hid h
  have hlen := hl.1
  rcases move_ways l o c with ⟨e1, e2, e3⟩ | ⟨_, hh, _⟩ | ⟨e1, _, e2, e3, e4⟩ | ⟨x, e1, _, e2, e3, e4⟩
  · rw [e2, e3]
    have HP := Lib.hid (placeOf_no h hl o e1)
    obtain ⟨a, cap, rfl⟩ := h.slice
    clear h hl e1 e2 e3
    go_enter Try.func21, Try.ntmps21
    go_wp2_with fail
    (with_reducible refine HP.out.mono ?_)
    rintro e w' ⟨rfl, hz⟩
    have HZ := Lib.hid hz
    clear hz
    go_wp2_with fail
    go_ret2
    exact ⟨_, rfl, LRow.nil _, HZ.out⟩
  · exact absurd ⟨hc0, hc3⟩ hh
  · rw [e3, e4]
    have HP := Lib.hid (placeOf_is h hl o e1 (.inl ⟨getO_no e2, rfl, rfl⟩))
    obtain ⟨a, cap, rfl⟩ := h.slice
    clear h hl e1 e2 e3 e4
    go_enter Try.func21, Try.ntmps21
    go_wp2_with fail
    (with_reducible refine HP.out.mono ?_)
    rintro e w' ⟨rfl, hz⟩
    have HZ := Lib.hid hz
    clear hz
    go_wp2_with fail
    go_ret2
    exact ⟨_, rfl, LRow.nil _, HZ.out⟩
  · obtain ⟨i, hi, hx, hli, hwo⟩ := getO_idx (rightB_t.1 e1).1.2.2 e2
    have hsrt : Srt (withoutL l o) := without_srt (rightB_t.1 e1).srt o
    have hwl : (withoutL l o).length ≤ 1000 := Nat.le_trans (List.length_filter_le _ _) hlen
    have hmk : makeL (withoutL l o ++ [inClass x c]) = insL (inClass x c) (withoutL l o) := makeL_ins hsrt _
    rw [e3, e4, hmk]
    have HP := Lib.hid (placeOf_is h hl o e1 (.inr ⟨by rw [hx]; omega, hx.symm, rfl⟩))
    have HW := Lib.hid (fun W (hb : Below w.heap.size w W) => hwo.symm ▸ Waits.without_any (H.out.below hb) hlen i hi)
    generalize withoutL l o = m at *
    have HPT := Lib.hid (fun (u : Value) W (hr : LRow W u m) => Waits.put_any hr hwl hsrt (inClass x c))
    unfold lv inClass at HPT
    obtain ⟨a, cap, rfl⟩ := h.slice
    clear h hl e1 e2 e3 e4 hx hwo hsrt hwl hmk
    have hi2 : (i : Int) < l.length := by omega
    have hi3 : (0 : Int) ≤ i := by omega
    have HLI := Lib.hid hli
    clear hli
    go_enter Try.func21, Try.ntmps21
    go_wp2_with fail
    (with_reducible refine HP.out.mono ?_)
    rintro e w1 ⟨rfl, hz⟩
    obtain ⟨b, off, rfl, hlc, hcap, hbl, hfour⟩ := (H.out.below hz).at hi
    rw [HLI.out] at hfour
    obtain ⟨k0, k1, k2, k3⟩ := hfour
    have hba := al w1 (.cells #[.string x.k, .int .i64 c, .int .i64 x.w.s, .int .i64 x.w.o] 26)
    have hbx := Box.made w1 [.string x.k, .int .i64 c, .int .i64 x.w.s, .int .i64 x.w.o] 26
    obtain ⟨W1, hW1⟩ : ∃ W, w1.alloc (.cells #[.string x.k, .int .i64 c, .int .i64 x.w.s, .int .i64 x.w.o] 26) = W := ⟨_, rfl⟩
    rw [hW1] at hba
    have HX1 : Hid (Box w1.heap.size [.string x.k, .int .i64 c, .int .i64 x.w.s, .int .i64 x.w.o] W1) := Lib.hid (hW1 ▸ hbx)
    have HB1 := Lib.hid (below_trans hz hba)
    have HSF : Hid (∀ w', Below W1.heap.size W1 w' → w'.cell? ⟨w1.heap.size, 0, none⟩ = some (.string x.k) ∧ w'.cell? ⟨w1.heap.size, 1, none⟩ = some (.int .i64 c) ∧ w'.cell? ⟨w1.heap.size, 2, none⟩ = some (.int .i64 x.w.s) ∧ w'.cell? ⟨w1.heap.size, 3, none⟩ = some (.int .i64 x.w.o)) := Lib.hid (fun w' hz => by have hbb := HX1.out.below hz; exact ⟨(hbb.2 0 _ rfl).1, (hbb.2 1 _ rfl).1, (hbb.2 2 _ rfl).1, (hbb.2 3 _ rfl).1⟩)
    clear hz hba hbx
    go_upto_region 8 with (fail)
    clear hW1 k0 k1 k2 k3
    obtain ⟨d0, d1, d2, d3⟩ := HSF.out W1 (Below.refl _ _)
    have hsb := HX1.out.1
    go_region_held3 (fun w' => w'.cell? ⟨w1.heap.size, 0, none⟩ = some (.string x.k) ∧ w'.cell? ⟨w1.heap.size, 1, none⟩ = some (.int .i64 c) ∧ w'.cell? ⟨w1.heap.size, 2, none⟩ = some (.int .i64 x.w.s) ∧ w'.cell? ⟨w1.heap.size, 3, none⟩ = some (.int .i64 x.w.o)) (first | with_reducible exact HSF.out _ (dr W1) | with_reducible exact HSF.out _ HZ6.out | with_reducible exact HSF.out _ HZ5.out | fail)
      (first
        | (go_at_call 38; (with_reducible refine (HW.out _ (below_trans HB1.out (dr W1))).mono ?_); rintro e w5 ⟨v5, rfl, ho5, hz5⟩; obtain ⟨a5, n5, c5, rfl⟩ : ∃ a n c, v5 = .slice a n c := (by obtain ⟨a', c', e⟩ := ho5.row.slice; exact ⟨a', _, c', e⟩); have HO5 := Lib.hid ho5; have HZ5 := Lib.hid (below_trans (dr W1) hz5); clear ho5 hz5)
        | (go_at_call 30; (with_reducible refine (HPT.out _ _ HO5.out.row).mono ?_); rintro e w6 ⟨v6, rfl, ho6, hz6⟩; obtain ⟨a6, n6, c6, rfl⟩ : ∃ a n c, v6 = .slice a n c := (by obtain ⟨a', c', e⟩ := ho6.row.slice; exact ⟨a', _, c', e⟩); have HO6 := Lib.hid ho6; have HZ6 := Lib.hid (below_trans HZ5.out hz6); clear ho6 hz6)
        | fail)
    go_wp2_with fail
    go_ret2
    exact ⟨_, rfl, HO6.out.row, below_trans HB1.out HZ6.out⟩
end Go.Proofs.Ytcehhgcfkoldfaa.Waits
