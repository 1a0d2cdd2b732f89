/-
  Contracts of the reference's Number and ReadNumber.
-/
import Derived.Test.YtbipkbcmcidalaaNum
import Derived.Test.YtbipkbcmcidalaaRead
namespace Go.Proofs.Ytbipkbcmcidalaa
open Go.ChangeShapes Go.WideShapes Go.ChangeAt Go.RowKit Go.Lib

set_option maxHeartbeats 1600000 in
set_option maxRecDepth 1000000 in
theorem RefNumber_any (n : Int) (w : World) (h1 : -1152921504606846976 ≤ n) (h2 : n ≤ 1152921504606846976) :
    Calls Try.prog 24 #[.int .i64 n] w (Text ⟨(digs (fold n)).toArray⟩ w) := by
  obtain ⟨i0, hi, hz0, hz1, hz2⟩ := info_parts Try.info5
  have hf := fold_le h1 h2
  have h9 := digs_len9 _ hf
  have HN := Lib.hid (fun h : n < 0 => fold_neg h)
  have HP := Lib.hid (fun h : ¬ n < 0 => fold_pos h)
  obtain ⟨u, hu⟩ : ∃ u, fold n = u := ⟨_, rfl⟩
  rw [hu] at HN HP hf h9 ⊢
  clear hu
  by_cases hn : n < 0
  all_goals
    first | (have d : decide (0 ≤ n) = false := by (simp; omega)) | skip
    go_enter Try.func24, Try.ntmps24
    go_wp2
    go_loopw [3, 4] (fun x v' wr => ∃ (k : Nat) (p : List UInt8), k ≤ 2305843009213693952 ∧ x = .int .i64 k ∧ p ++ digs k = digs u ∧ wr.ownsRow w.heap.size 5 1 v' p.length (bcells p) ∧ Below w.heap.size w wr)
      (fun x _ _ => (intOf x).toNat)
    case atStart => exact ⟨u, [], hf, v_int (by first | (have := HN.out (by omega); omega) | (have := HP.out (by omega); omega)), rfl, World.ownsRow_made _ _ _ (Nat.le_refl _) (by decide) rfl, (Below.refl _ _).alloc (Nat.le_refl _) _⟩
    case round =>
      obtain ⟨k, p, hk, rfl, hp, hown, hnx⟩ := hrel
      have hpl : p.length ≤ 9 := by
        have := congrArg List.length hp
        simp only [List.length_append] at this
        omega
      have HQ := Lib.hid hp
      clear hp
      have hsz := hnx.size
      by_cases hlt : k < 128
      · have HD := Lib.hid (digs_lt hlt)
        go_wp2_with (at_builtin; refine wpList_append_own _ rfl _ _ 39 rfl w.heap.size 5 i0 (.int .u8 0) 1 1 Try.underlying39 hi hz0 hz1 hz2 rfl (by decide) _ _ _ rfl (hown.alloc _) ⟨wr.heap.size, 0, none⟩ 1 1 [.int .u8 (k : Int)] rfl rfl ?c1 ?c2 ?c3 ?c4 ?c5 ?_)
        case c1 =>
          intro j y hj
          match j, hj with
          | 0, hj => simp at hj; subst hj; simp [Addr.add]
        case c2 => intro y hy; simp at hy; subst hy; rfl
        case c3 => unfold maxLen; omega
        case c4 => omega
        case c5 => simp; omega
        intro v' w1 hown' hgrow _
        have R := own_snoc (UInt8.ofNat k) (by simp; omega) (by omega) hown hnx hown' hgrow
        have hs := own_string (dst := 9) Try.underlying39 Try.underlying5 Try.underlying9 R.1 (by simp)
        have HR := Lib.hid R.2
        have e : p ++ [UInt8.ofNat k] = digs u := by rw [← HQ.out, HD.out]
        rw [e] at hs
        clear hown' hgrow hown R e hnx
        go_wp2
        go_ret
        exact ⟨rfl, HR.out⟩
      · have HD := Lib.hid (digs_ge hlt)
        go_wp2_with (at_builtin; refine wpList_append_own _ rfl _ _ 39 rfl w.heap.size 5 i0 (.int .u8 0) 1 1 Try.underlying39 hi hz0 hz1 hz2 rfl (by decide) _ _ _ rfl (hown.alloc _) ⟨wr.heap.size, 0, none⟩ 1 1 [.int .u8 (128 + (k : Int) % 128)] rfl rfl ?d1 ?d2 ?d3 ?d4 ?d5 ?_)
        case d1 =>
          intro j y hj
          match j, hj with
          | 0, hj => simp at hj; subst hj; simp [Addr.add]
        case d2 => intro y hy; simp at hy; subst hy; rfl
        case d3 => unfold maxLen; omega
        case d4 => omega
        case d5 => simp; omega
        intro v' w1 hown' hgrow _
        have R := own_snoc (UInt8.ofNat (k % 128 + 128)) (by simp; omega) (by omega) hown hnx hown' hgrow
        clear hown' hgrow hown
        go_wp2
        go_roundw
        case rel => exact ⟨k / 128, p ++ [UInt8.ofNat (k % 128 + 128)], by omega, by go_num, by rw [List.append_assoc, ← HQ.out, HD.out]; rfl, R.1, R.2⟩
        case measure => simp [intOf]; omega

def StructT (n : Int) (t : ByteArray) (b : Int) (w : World) (e : Ending) (w' : World) : Prop := e = .returned (.agg #[.int .i64 n, .string t, .int .i64 b]) ∧ Below w.heap.size w w'

set_option maxHeartbeats 1000000 in
set_option maxRecDepth 100000 in
theorem RefRead_short (s : ByteArray) (w : World) (h : NoLast s) (hs : s.size ≤ maxLen) :
    Calls Try.prog 20 #[.string s] w (StructT 0 ⟨#[]⟩ (shortE s) w) := by
  unfold maxLen at hs
  have H2 := Lib.hid h
  clear h
  obtain ⟨m, hmin, hm9, hmd⟩ : ∃ m : Nat, m ≤ s.size ∧ m ≤ 9 ∧ (s.size ≤ m ∨ 9 ≤ m) := by
    by_cases h : s.size ≤ 9
    · exact ⟨s.size, by omega, h, .inl (by omega)⟩
    · exact ⟨9, by omega, by omega, .inr (by omega)⟩
  have HM := Lib.hid hmd
  clear hmd
  go_enter Try.func20, Try.ntmps20
  go_wp2
  go_loop [3, 4] (fun l x => l = .int .i64 (-1) ∧ ∃ k : Nat, k ≤ m ∧ x = .int .i64 k) (fun _ x => m - (intOf x).toNat)
  case atStart => exact ⟨rfl, 0, Nat.zero_le _, rfl⟩
  case round =>
    obtain ⟨rfl, k, hk, rfl⟩ := hrel
    by_cases hlt : k < m
    · have HB := Lib.hid (H2.out k (by omega) (by omega))
      go_wp2
      · exfalso
        have := HB.out
        omega
      · go_round
        case rel => exact ⟨rfl, k + 1, by omega, by go_num⟩
        case measure => simp [intOf]; omega
    · by_cases h9 : s.size < 9
      · have hk2 : s.size ≤ k := by rcases HM.out with h | h <;> omega
        have HE := Lib.hid (show shortE s = 4 by unfold shortE; rw [if_pos h9])
        go_wp2
        exact bodyPost_ret (v := .agg #[.int .i64 0, .string ⟨#[]⟩, .int .i64 4]) (by simp [results, Try.results20, go_sem]) rfl ⟨by rw [HE.out], (Below.refl _ _).alloc (Nat.le_refl _) _⟩
      · have HE := Lib.hid (show shortE s = 3 by unfold shortE; rw [if_neg h9])
        have hk2 : 9 ≤ k := by rcases HM.out with h | h <;> omega
        by_cases hk3 : k < s.size
        all_goals
          go_wp2
          exact bodyPost_ret (v := .agg #[.int .i64 0, .string ⟨#[]⟩, .int .i64 3]) (by simp [results, Try.results20, go_sem]) rfl ⟨by rw [HE.out], (Below.refl _ _).alloc (Nat.le_refl _) _⟩

/-- What the text s, whose last digit is at place i, is read as. -/
def ReadAs (s : ByteArray) (i : Nat) (n : Int) (t : ByteArray) (b : Int) : Prop :=
  (0 < i ∧ (∀ hi : i < s.size, s[i].toNat = 0) ∧ n = 0 ∧ t = ⟨#[]⟩ ∧ b = 5) ∨
  ((i = 0 ∨ (0 < i ∧ ∀ hi : i < s.size, s[i].toNat ≠ 0)) ∧ mayB (rdN s i) = false ∧ n = 0 ∧ t = ⟨#[]⟩ ∧ b = 5) ∨
  ((i = 0 ∨ (0 < i ∧ ∀ hi : i < s.size, s[i].toNat ≠ 0)) ∧ mayB (rdN s i) = true ∧ n = rdN s i ∧ t = s.extract (i + 1) s.size ∧ b = 0)

theorem unf_odd {u : Nat} (h : u % 2 = 1) : unf u = -((u : Int) / 2) - 1 := by unfold unf; rw [if_pos h]; omega
theorem unf_even {u : Nat} (h : ¬ u % 2 = 1) : unf u = (u : Int) / 2 := by unfold unf; rw [if_neg h]; omega

theorem readAs_some (s : ByteArray) (i : Nat) (hi : i < s.size) : ∃ n t b, ReadAs s i n t b := by
  unfold ReadAs
  by_cases h : 0 < i ∧ s[i].toNat = 0
  · exact ⟨_, _, _, .inl ⟨h.1, fun _ => h.2, rfl, rfl, rfl⟩⟩
  · have hz : i = 0 ∨ (0 < i ∧ ∀ hi : i < s.size, s[i].toNat ≠ 0) := by
      by_cases h0 : i = 0
      · exact .inl h0
      · exact .inr ⟨by omega, fun _ hc => h ⟨by omega, hc⟩⟩
    cases hm : mayB (rdN s i) with
    | false => exact ⟨_, _, _, .inr (.inl ⟨hz, rfl, rfl, rfl, rfl⟩)⟩
    | true => exact ⟨_, _, _, .inr (.inr ⟨hz, rfl, rfl, rfl, rfl⟩)⟩

theorem ReadNumber_as {s : ByteArray} {i : Nat} (w : World) (h : IsLast s i) {n : Int} {t : ByteArray} {b : Int} (hr : ReadAs s i n t b) (hs : s.size ≤ maxLen) :
    Calls Try.prog 34 #[.string s] w (ThreeS n t b w) := by
  rcases hr with ⟨h0, hz, rfl, rfl, rfl⟩ | ⟨hz, hm, rfl, rfl, rfl⟩ | ⟨hz, hm, rfl, rfl, rfl⟩
  · exact ReadNumber_zero s i w h h0 hz hs
  · exact ReadNumber_far s i w h hz hm hs
  · exact ReadNumber_yes s i w h hz hm hs

set_option maxHeartbeats 4000000 in
set_option maxRecDepth 100000 in
theorem RefRead_as {s : ByteArray} {i : Nat} (w : World) (h : IsLast s i) {n : Int} {t : ByteArray} {b : Int} (hr : ReadAs s i n t b) (hs : s.size ≤ maxLen) :
    Calls Try.prog 20 #[.string s] w (StructT n t b w) := by
  unfold maxLen at hs
  have HR := Lib.hid hr
  clear hr
  obtain ⟨hi, h9, h1, h2⟩ := h
  have H2 := Lib.hid h2
  have H1 := Lib.hid h1
  clear h2 h1
  obtain ⟨m, hmin, hm9, hmi, hmd⟩ : ∃ m : Nat, m ≤ s.size ∧ m ≤ 9 ∧ i < m ∧ (s.size ≤ m ∨ 9 ≤ m) := by
    by_cases h : s.size ≤ 9
    · exact ⟨s.size, by omega, h, by omega, .inl (by omega)⟩
    · exact ⟨9, by omega, by omega, by omega, .inr (by omega)⟩
  have HM := Lib.hid hmd
  clear hmd
  go_enter Try.func20, Try.ntmps20
  go_wp2
  go_loop [3, 4] (fun l x => ∃ k : Nat, k ≤ m ∧ x = .int .i64 k ∧ ((k ≤ i ∧ l = .int .i64 (-1)) ∨ (i < k ∧ l = .int .i64 i))) (fun _ x => m - (intOf x).toNat)
  case atStart => exact ⟨0, Nat.zero_le _, rfl, .inl ⟨Nat.zero_le _, rfl⟩⟩
  case round =>
    obtain ⟨k, hk, rfl, hl⟩ := hrel
    by_cases hlt : k < m
    · rcases hl with ⟨hki, rfl⟩ | ⟨hki, rfl⟩
      · by_cases hke : k = i
        · obtain rfl : i = k := hke.symm
          go_wp2
          · go_round
            case rel => exact ⟨i + 1, by omega, by go_num, .inr ⟨by omega, rfl⟩⟩
            case measure => simp [intOf]; omega
          · exfalso
            have := H1.out
            omega
        · have HB := Lib.hid (H2.out k (by omega))
          go_wp2
          · exfalso
            have := HB.out
            omega
          · go_round
            case rel => exact ⟨k + 1, by omega, by go_num, .inl ⟨by omega, rfl⟩⟩
            case measure => simp [intOf]; omega
      · go_wp2
        go_round
        case rel => exact ⟨k + 1, by omega, by go_num, .inr ⟨by omega, rfl⟩⟩
        case measure => simp [intOf]; omega
    · rcases hl with ⟨hki, rfl⟩ | ⟨hki, rfl⟩
      · exfalso; omega
      · have hkk : k < s.size ∨ s.size ≤ k := by omega
        have hk9 : s.size ≤ k ∨ 9 ≤ k := by rcases HM.out with h | h <;> omega
        have hcs : (k < s.size ∧ 9 ≤ k) ∨ s.size ≤ k := by omega
        clear hkk hk9
        have hd : s.size ≤ k ∨ (k < s.size ∧ decide ((k : Int) < 9) = false) := by
          rcases hcs with h | h
          · right; exact ⟨h.1, by simp; omega⟩
          · left; exact h
        clear hcs
        rcases hd with hc1 | ⟨hc1, hd⟩
        all_goals
          go_wp2
          go_loop [5, 6] (fun x c => ∃ z : Int, -1 ≤ z ∧ z ≤ i ∧ c = .int .i64 z ∧ x = .int .i64 (val ((s.extract 0 (i + 1)).data.toList.drop (z + 1).toNat))) (fun _ c => (intOf c + 1).toNat)
          case atStart => exact ⟨i, by omega, by omega, rfl, by rw [List.drop_of_length_le (by have := ext_size s i hi; rw [← ByteArray.size_data] at this; simp; omega)]; rfl⟩
          case round =>
            obtain ⟨z, hz1, hz2, rfl, rfl⟩ := hrel
            by_cases h0 : z = -1
            · subst h0
              have hu : val (s.extract 0 (i + 1)).data.toList < 9223372036854775808 := rd_bd hi h9
              rw [show ((-1 : Int) + 1).toNat = 0 from rfl, List.drop_zero]
              have HR' := Lib.hid (show rdN s i = unf (val (s.extract 0 (i + 1)).data.toList) from rfl)
              generalize hg : val (s.extract 0 (i + 1)).data.toList = u at hu HR'
              clear hg
              rcases HR.out with ⟨hp, hz, rfl, rfl, rfl⟩ | ⟨hz, hm, rfl, rfl, rfl⟩ | ⟨hz, hm, rfl, rfl, rfl⟩
              · have hz0 : (((s[i].toNat : Nat) : Int) == 0) = true := by have := hz hi; simp [this]
                clear hz
                by_cases ho : u % 2 = 1
                · have h1 : (((u : Int) % 2) == 1) = true := by simp; omega
                  go_wp2
                  exact bodyPost_ret (v := .agg #[.int .i64 0, .string ⟨#[]⟩, .int .i64 5]) (by simp [results, Try.results20, go_sem]) rfl ⟨rfl, (Below.refl _ _).alloc (Nat.le_refl _) _⟩
                · have h1 : (((u : Int) % 2) == 1) = false := by simp; omega
                  go_wp2
                  exact bodyPost_ret (v := .agg #[.int .i64 0, .string ⟨#[]⟩, .int .i64 5]) (by simp [results, Try.results20, go_sem]) rfl ⟨rfl, (Below.refl _ _).alloc (Nat.le_refl _) _⟩
              · have hzz : (((s[i].toNat : Nat) : Int) == 0) = false ∨ ((((s[i].toNat : Nat) : Int) == 0) = true ∧ i ≤ 0) := by
                  rcases hz with hz | ⟨hp, hz⟩
                  · cases hc : (((s[i].toNat : Nat) : Int) == 0) with
                    | false => exact .inl rfl
                    | true => exact .inr ⟨rfl, by omega⟩
                  · left; have := hz hi; simp [this]
                clear hz
                by_cases ho : u % 2 = 1
                · have h1 : (((u : Int) % 2) == 1) = true := by simp; omega
                  have HF := Lib.hid (unf_odd ho)
                  have HMay := Lib.hid (show mayB (-((u : Int) / 2) - 1) = false by rw [← HF.out, ← HR'.out]; exact hm)
                  clear hm
                  rcases hzz with hzz | ⟨hzz, hi0⟩
                  all_goals
                    go_wp2_with (go_at_call 30; refine (May_any _ _).mono ?_; rintro e w' ⟨rfl, rfl⟩; rw [HMay.out])
                    exact bodyPost_ret (v := .agg #[.int .i64 0, .string ⟨#[]⟩, .int .i64 5]) (by simp [results, Try.results20, go_sem]) rfl ⟨rfl, (Below.refl _ _).alloc (Nat.le_refl _) _⟩
                · have h1 : (((u : Int) % 2) == 1) = false := by simp; omega
                  have HF := Lib.hid (unf_even ho)
                  have HMay := Lib.hid (show mayB ((u : Int) / 2) = false by rw [← HF.out, ← HR'.out]; exact hm)
                  clear hm
                  rcases hzz with hzz | ⟨hzz, hi0⟩
                  all_goals
                    go_wp2_with (go_at_call 30; refine (May_any _ _).mono ?_; rintro e w' ⟨rfl, rfl⟩; rw [HMay.out])
                    exact bodyPost_ret (v := .agg #[.int .i64 0, .string ⟨#[]⟩, .int .i64 5]) (by simp [results, Try.results20, go_sem]) rfl ⟨rfl, (Below.refl _ _).alloc (Nat.le_refl _) _⟩
              · have hzz : (((s[i].toNat : Nat) : Int) == 0) = false ∨ ((((s[i].toNat : Nat) : Int) == 0) = true ∧ i ≤ 0) := by
                  rcases hz with hz | ⟨hp, hz⟩
                  · cases hc : (((s[i].toNat : Nat) : Int) == 0) with
                    | false => exact .inl rfl
                    | true => exact .inr ⟨rfl, by omega⟩
                  · left; have := hz hi; simp [this]
                clear hz
                by_cases ho : u % 2 = 1
                · have h1 : (((u : Int) % 2) == 1) = true := by simp; omega
                  have HF := Lib.hid (unf_odd ho)
                  have HMay := Lib.hid (show mayB (-((u : Int) / 2) - 1) = true by rw [← HF.out, ← HR'.out]; exact hm)
                  clear hm
                  rcases hzz with hzz | ⟨hzz, hi0⟩
                  all_goals
                    go_wp2_with (go_at_call 30; refine (May_any _ _).mono ?_; rintro e w' ⟨rfl, rfl⟩; rw [HMay.out])
                    exact bodyPost_ret (v := .agg #[.int .i64 (-((u : Int) / 2) - 1), .string (s.extract (i + 1) s.size), .int .i64 0]) (by simp [results, Try.results20, go_sem]) rfl ⟨by rw [HR'.out, HF.out], (Below.refl _ _).alloc (Nat.le_refl _) _⟩
                · have h1 : (((u : Int) % 2) == 1) = false := by simp; omega
                  have HF := Lib.hid (unf_even ho)
                  have HMay := Lib.hid (show mayB ((u : Int) / 2) = true by rw [← HF.out, ← HR'.out]; exact hm)
                  clear hm
                  rcases hzz with hzz | ⟨hzz, hi0⟩
                  all_goals
                    go_wp2_with (go_at_call 30; refine (May_any _ _).mono ?_; rintro e w' ⟨rfl, rfl⟩; rw [HMay.out])
                    exact bodyPost_ret (v := .agg #[.int .i64 ((u : Int) / 2), .string (s.extract (i + 1) s.size), .int .i64 0]) (by simp [results, Try.results20, go_sem]) rfl ⟨by rw [HR'.out, HF.out], (Below.refl _ _).alloc (Nat.le_refl _) _⟩
            · obtain ⟨q, rfl⟩ : ∃ q : Nat, z = q := ⟨z.toNat, by omega⟩
              have hq : q < s.size := by omega
              have hv := Lib.hid (ext_step s i q hi (by omega))
              have hb := ext_step_lt s i q hi h9 (by omega)
              have hbyte : s[q].toNat < 256 := s[q].toNat_lt
              have e1 : ((q : Int) + 1).toNat = q + 1 := by omega
              rw [e1]
              clear e1
              generalize hg : val ((s.extract 0 (i + 1)).data.toList.drop (q + 1)) = V at hb
              have HG := Lib.hid hg
              clear hg
              go_wp2
              go_round
              case rel => exact ⟨(q : Int) - 1, by omega, by omega, rfl, v_int (by rw [show ((q : Int) - 1 + 1).toNat = q by omega, hv.out, HG.out]; omega)⟩
              case measure => simp [intOf]
end Go.Proofs.Ytbipkbcmcidalaa
