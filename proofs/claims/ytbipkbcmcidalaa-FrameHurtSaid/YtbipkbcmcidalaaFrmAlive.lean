/-
  Contract of the own alive of the laws of frame: a record of nothing has five bytes.
-/
import Derived.Test.YtbipkbcmcidalaaScan
namespace Go.Proofs.Ytbipkbcmcidalaa.Frame
open Go.ChangeShapes Go.WideShapes Go.ChangeAt Go.RowKit Go.Lib

theorem frm_nothing : (frm ⟨#[]⟩).length = 5 := by
  rw [frm_len, fold_nat, show (⟨#[]⟩ : ByteArray).size = 0 from rfl, digs, if_pos (by omega)]
  rfl
theorem scn_one (d : ByteArray) (h : d.size ≤ 4096) : Scn ⟨(frm d).toArray⟩ [d] ⟨#[]⟩ :=
  .more _ d ⟨#[]⟩ _ _ ⟨h, by rw [mk_list]; simp⟩ (.done _ (no_short (by simp [ByteArray.size])))

set_option maxRecDepth 100000 in
set_option maxHeartbeats 1000000 in
theorem alive_any (w : World) : Calls Try.prog 13 #[] w (BoolB true w) := by
  obtain ⟨f, HFm⟩ : ∃ f : ByteArray, Hid ((⟨(frm ⟨#[]⟩).toArray⟩ : ByteArray) = f) := ⟨_, rfl⟩
  have hf : f.size = 5 := by rw [← HFm.out, mk_size]; exact frm_nothing
  have HF : Hid (∀ W, Calls Try.prog 6 #[.string ⟨#[]⟩] W (TextI f 0 W)) := fun W => HFm.out ▸ Frame_yes ⟨#[]⟩ W (by simp [ByteArray.size])
  have hsc := scn_one ⟨#[]⟩ (by simp [ByteArray.size])
  rw [HFm.out] at hsc
  have HS : Hid (∀ W, Calls Try.prog 7 #[.string f] W (RowN [⟨#[]⟩] 5 W)) := fun W => by
    have := Scan_scn hsc (by omega) W
    rw [hf] at this
    exact this
  clear hsc
  go_enter Try.func13, Try.ntmps13
  go_wp2_with fail
  refine (HF.out _).mono ?_
  rintro e w1 ⟨rfl, hb1⟩
  go_wp2_with fail
  refine (HS.out _).mono ?_
  rintro e w2 ⟨v, rfl, ho, _, hb2⟩
  have hv : ∃ a cap, v = .slice a 1 cap := by
    obtain ⟨_, ⟨rfl, h⟩ | ⟨g, cap, _, rfl, _⟩⟩ := ho
    · simp at h
    · exact ⟨_, _, rfl⟩
  obtain ⟨a, cap, rfl⟩ := hv
  clear ho
  have HB := Lib.hid (below_trans hb1 hb2)
  clear hb1 hb2
  go_wp2
  go_ret
  exact ⟨rfl, HB.out⟩
end Go.Proofs.Ytbipkbcmcidalaa.Frame
