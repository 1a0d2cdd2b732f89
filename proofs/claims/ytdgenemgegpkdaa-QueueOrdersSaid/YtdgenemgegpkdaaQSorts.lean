/-
  Contracts of the library's Sort over a row of waits, and of package queue's Sorted.
-/
import Derived.Test.YtdgenemgegpkdaaQSrtH
import Derived.Test.YtdgenemgegpkdaaQInit
namespace Go.Proofs.Ytdgenemgegpkdaa.Queue
open Go.ChangeShapes Go.WideShapes Go.ChangeAt Go.RowKit Go.Shelf Go.Sort

theorem pdqsort_any {B n : Nat} {v : Value} {w0 w : World} {d : Array Wt} {l : Nat} (h : LR B v n w0 d w) (hn : n ≤ 1000) (hl : l ≤ 64) :
    Calls Try.prog 35 #[.iface 40 v, .int .i64 0, .int .i64 n, .int .i64 l] w (PdE B v n w0 d 0 n) :=
  pdqsort_all (n + 1) (a0 := 0) (b0 := n) (by omega) h (Nat.zero_le _) (Nat.le_refl _) hn hl (.inl rfl)
set_option maxHeartbeats 4000000 in
set_option maxRecDepth 100000 in
theorem Sort_any {B n : Nat} {v : Value} {w0 w : World} {d : Array Wt} (h : LR B v n w0 d w) (hn : n ≤ 1000) :
    Calls Try.prog 24 #[.iface 40 v] w (PdE B v n w0 d 0 n) := by
  have gN := get_Len v
  have eN := ent_Len
  have H := Lib.hid h
  have hlen : Hid (∀ W, Calls Try.prog 71 #[v] W fun e w' => e = .returned (.int .i64 n) ∧ W = w') := Lib.hid (by
    obtain ⟨a, cap, rfl⟩ := h.1.row.slice
    rw [show d.toList.length = n by simpa using h.2.1]
    exact fun W => Len_any a n cap W)
  have HP := Lib.hid (fun l (hl : l ≤ 64) => pdqsort_any h hn hl)
  have HB : Hid (Lib.bitLen n ≤ 64) := Lib.hid (by have := Lib.bitLen_le n 10 (by omega) (by omega); omega)
  have HL := Lib.hid (Len_few n hn)
  clear h
  by_cases h1 : n ≤ 1
  · have h1' : (n : Int) ≤ 1 := by omega
    go_enter Try.func24, Try.ntmps24
    go_wp2_with (first
      | (go_at_fn 71; (with_reducible refine (hlen.out _).mono ?_); rintro e w1 ⟨rfl, rfl⟩))
    go_end0
    exact ⟨rfl, d, H.out, permIn_refl _ _ _, fun i j _ hij hj => by omega⟩
  · have h1' : ¬ (n : Int) ≤ 1 := by omega
    go_enter Try.func24, Try.ntmps24
    go_wp2_with (first
      | (go_at_fn 71; (with_reducible refine (hlen.out _).mono ?_); rintro e w1 ⟨rfl, rfl⟩)
      | (go_at_call 34; (with_reducible refine (HL.out _).mono ?_); rintro e w1 ⟨rfl, rfl⟩)
      | (go_at_call 35; (with_reducible refine (HP.out _ HB.out).mono ?_); rintro e w1 ⟨rfl, h1⟩; have H1 := Lib.hid h1; clear h1))
    go_end0
    exact ⟨rfl, H1.out⟩
theorem sorted_list {d R : Array Wt} {l : List Wt} (hd : d.toList = l) (hp : PermIn 0 d.size d R) (hs : SortedIn ltB 0 d.size R) : R.toList = sortL l := by
  obtain ⟨h1, h2⟩ := permIn_perm hp
  refine srt_eq ?_ (sortL_srt l) (h2.trans (hd ▸ (sortL_perm l).symm))
  refine List.pairwise_iff_getElem.2 fun i j hi hj hij => ?_
  have hi' : i < R.size := by simpa using hi
  have hj' : j < R.size := by simpa using hj
  have := hs i j (Nat.zero_le _) hij (by omega)
  rw [getElem!_pos R i hi', getElem!_pos R j hj'] at this
  simpa using this
set_option maxHeartbeats 4000000 in
set_option maxRecDepth 100000 in
theorem Sorted_yes {v : Value} {l : List Wt} {w : World} (h : QRow w v l) (ha : allB l = true) : Calls Try.prog 9 #[v] w (RowE (sortL l) 0 w) := by
  have hl : l.length ≤ 64 := by
    unfold allB at ha
    simp only [Bool.and_eq_true, decide_eq_true_eq] at ha
    exact ha.1
  have hmb := mayBe_any h (by omega)
  rw [ha] at hmb
  have HM := Lib.hid hmb
  have H := Lib.hid h
  obtain ⟨a, cap, rfl⟩ := h.slice
  clear h hmb ha
  go_enter Try.func9, Try.ntmps9
  go_wp2_with (first
    | (go_at_call 21; (with_reducible refine HM.out.mono ?_); rintro e w1 ⟨rfl, hz⟩; have HZ1 := Lib.hid hz; clear hz)
    | (go_at_call 22; (with_reducible refine (Clone_any (H.out.below HZ1.out) (by omega)).mono ?_); rintro e w2 ⟨v2, rfl, ho, hz⟩; have HO := Lib.hid ho; have HZ2 := Lib.hid (below_trans HZ1.out hz); have HS := Lib.hid (Sort_any (B := w1.heap.size) (v := v2) (n := l.length) (w0 := w2) (w := w2) (d := l.toArray) ⟨by simpa using ho, by simp, hz.size, RowKit.Below.refl _ _⟩ (by omega)); have hws := hz.size; clear ho hz)
    | (go_at_call 24; (with_reducible refine HS.out.mono ?_); rintro e w3 ⟨rfl, R, h3, p3, s3⟩; have H3 := Lib.hid h3; have HP3 := Lib.hid p3; have HS3 := Lib.hid s3; clear h3 p3 s3))
  have HE : Hid (R.toList = sortL l) := Lib.hid (sorted_list (d := l.toArray) rfl (by simpa using HP3.out) (by simpa using HS3.out))
  have HR := Lib.hid H3.out.1.row
  rw [HE.out] at HR
  have HB : Hid (RowKit.Below w.heap.size w w3) := Lib.hid (HZ2.out.trans (H3.out.2.2.2.mono HZ1.out.size))
  clear HP3 HS3 H3 HO HS HM
  go_ret2
  exact ⟨v2, rfl, HR.out, HB.out⟩
set_option maxRecDepth 100000 in
theorem Sorted_no {v : Value} {l : List Wt} {w : World} (h : QRow w v l) (hl : l.length ≤ 1000) (ha : allB l = false) : Calls Try.prog 9 #[v] w (RowE [] 1 w) := by
  have hmb := mayBe_any h hl
  rw [ha] at hmb
  have HM := Lib.hid hmb
  obtain ⟨a, cap, rfl⟩ := h.slice
  clear h hmb ha
  go_enter Try.func9, Try.ntmps9
  go_wp2_with (first
    | (go_at_call 21; (with_reducible refine HM.out.mono ?_); rintro e w1 ⟨rfl, hz⟩; have HZ1 := Lib.hid hz; clear hz))
  go_ret2
  exact ⟨_, rfl, nil_row _, HZ1.out⟩
end Go.Proofs.Ytdgenemgegpkdaa.Queue
