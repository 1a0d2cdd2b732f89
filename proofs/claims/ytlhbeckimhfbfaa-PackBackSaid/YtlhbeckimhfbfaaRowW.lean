/-
  Contracts of the reference's Row and of Row of package pack: a row's bytes.
-/
import Derived.Test.YtlhbeckimhfbfaaEnc
import Derived.Test.YtlhbeckimhfbfaaSRow
import Derived.Test.YtlhbeckimhfbfaaRefNum
namespace Go.Proofs.Ytlhbeckimhfbfaa
open Go.ChangeShapes Go.WideShapes Go.ChangeAt Go.RowKit Go.Lib Go.Conc

theorem refNum_nat (n : Nat) (hn : n ≤ 1000000) : ∃ d : ByteArray, d.data.toList = digs (fold n) ∧ d.size ≤ 9 ∧ Hid (∀ W, Calls Try.prog 16 #[.int .i64 n] W (Text d W)) := by
  refine ⟨⟨(digs (fold n)).toArray⟩, by simp, ?_, fun W => RefNumber_any n W (by omega) (by omega)⟩
  have := digs_len9 (fold n) (by rw [fold_nat]; omega)
  simpa [ByteArray.size] using this

set_option maxHeartbeats 1000000 in
set_option maxRecDepth 100000 in
theorem RefRow_any {v : Value} {ls : List ByteArray} {w : World} (hr : SRow w v ls) (hl : ls.length ≤ 256) (hsm : ∀ t ∈ ls, t.size ≤ 4100) : Calls Try.prog 23 #[v] w (Text ⟨(enc ls).toArray⟩ w) := by
  have HNum := Lib.hid (fun (n : Nat) (hn : n ≤ 1000000) (W : World) => RefNumber_any n W (by omega) (by omega))
  rcases hr with ⟨rfl, rfl⟩ | ⟨g, cap, rfl, hc, hg, hcell⟩
  · go_enter Try.func23, Try.ntmps23
    go_wp2_with fail
    refine (HNum.out 0 (by omega) _).mono ?_
    rintro e x1 ⟨rfl, hx1⟩
    go_wp2_with fail
    refine wp_loop_rounds 1 ?_
    rw [rounds_succ]
    go_wp2_with fail
    go_ret
    exact ⟨by simp [enc, encs], hx1⟩
  · have HCE := Lib.hid hcell
    have HSM := Lib.hid hsm
    clear hcell hsm
    go_enter Try.func23, Try.ntmps23
    go_wp2_with fail
    refine (HNum.out ls.length (by omega) _).mono ?_
    rintro e x1 ⟨rfl, hx1⟩
    have HX1 := Lib.hid hx1
    clear hx1
    go_wp2_with fail
    go_loopw [3, 11] (fun o i wr => ∃ (k : Nat) (x : ByteArray), k ≤ ls.length ∧ i = .int .i64 k ∧ o = .string x ∧ x.data.toList = digs (fold ls.length) ++ encs (ls.take k) ∧ Below w.heap.size w wr) (fun _ i _ => ls.length - (intOf i).toNat)
    case atStart => exact ⟨0, ⟨(digs (fold ls.length)).toArray⟩, Nat.zero_le _, rfl, rfl, by simp [encs], HX1.out⟩
    case round =>
      obtain ⟨k, x, hk, rfl, rfl, hx, hbe⟩ := hrel
      have HX := Lib.hid hx
      have hxs : x.size ≤ 2000000 := by
        have h1 : x.data.toList.length = x.size := by simp
        have h2 := digs_len9 (fold ls.length) (by rw [fold_nat]; omega)
        have h3 := encs_len (ls.take k) (fun t ht => HSM.out t (List.mem_of_mem_take ht))
        have h4 : (ls.take k).length ≤ k := List.length_take_le _ _
        rw [hx, List.length_append] at h1
        omega
      clear hx
      by_cases hlt : k < ls.length
      · have hce := (hbe.cell (p := ⟨g, k, none⟩) hg).trans (HCE.out k hlt)
        have hs1 := HSM.out ls[k] (List.getElem_mem hlt)
        have HT := Lib.hid (take_snoc' ls k hlt)
        have HBE := Lib.hid hbe
        clear hbe
        generalize ls[k] = y at hce hs1 HT
        obtain ⟨d, hd, hds, HN⟩ := refNum_nat y.size (by omega)
        have HD := Lib.hid hd
        clear hd
        go_wp2_with fail
        refine (HN.out _).mono ?_
        rintro e x2 ⟨rfl, hx2⟩
        have HX2 := Lib.hid hx2
        clear hx2
        go_wp2_with fail
        go_roundw
        case rel => exact ⟨k + 1, x ++ d ++ y, by omega, by go_num, rfl, by simp [HX.out, HD.out, HT.out, encs_snoc], below_trans HBE.out HX2.out⟩
        case measure => simp [intOf]; omega
      · have HBE := Lib.hid hbe
        clear hbe
        go_wp2_with fail
        go_ret
        exact ⟨by rw [bytes_eq HX.out, List.take_of_length_le (by omega)]; rfl, HBE.out⟩
end Go.Proofs.Ytlhbeckimhfbfaa
