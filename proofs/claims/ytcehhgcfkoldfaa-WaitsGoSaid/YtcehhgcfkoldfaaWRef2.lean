/-
  Contracts of the reference: Make, With, Right.
-/
import Derived.Test.YtcehhgcfkoldfaaWRef1
import Derived.Test.YtcehhgcfkoldfaaWPut
import Derived.Deep.CutBlock
namespace Go.Proofs.Ytcehhgcfkoldfaa.Waits
open Go.ChangeShapes Go.WideShapes Go.ChangeAt Go.RowKit Go.Shelf Go.Lib
open Go.Proofs.Ytcehhgcfkoldfaa.Goods
open Go.Proofs.Ytcehhgcfkoldfaa.Queue (Wt ltB wv QRow)

/-- Lines are returned. -/
def LinesR (l : List Ln) (w : World) (e : Ending) (w' : World) : Prop := ∃ v, e = .returned v ∧ LRow w' v l ∧ Below w.heap.size w w'
def MkR (l : List Ln) (k : Nat) (u : Value) (w W : World) : Prop := (∃ b off c, u = .slice (some ⟨b, off, none⟩) (makeL (l.take k)).length c) ∧ LRow W u (makeL (l.take k)) ∧ Below w.heap.size w W
def InR (x : Ln) (g : Nat) (w W : World) : Prop := Box g (lcs x) W ∧ Below w.heap.size w W

set_option maxRecDepth 100000 in
set_option maxHeartbeats 4000000 in
theorem refMake_any {v : Value} {l : List Ln} {w : World} (h : LRow w v l) (hl : Brief l) : Calls Try.prog 16 #[v] w (LinesR (makeL l) w) := by
  obtain ⟨a, cap, rfl⟩ := h.slice
  have H := Lib.hid h
  have HX := Lib.hid hl.2
  have hl1 := hl.1
  have hb0 := al w (.cells #[] 26)
  have HMS : Hid (MkR l 0 (.slice (some ⟨w.heap.size, 0, none⟩) 0 0) w (w.alloc (.cells #[] 26))) := Lib.hid ⟨⟨w.heap.size, 0, 0, rfl⟩, (OwnL.empty w (Nat.le_refl _)).row, hb0⟩
  clear h hl hb0
  go_enter Try.func16, Try.ntmps16
  go_wp2
  go_loopw [3, 5, 6, 7, 11] (fun u _ _ _ i wr => ∃ k : Nat, k ≤ l.length ∧ i = .int .i64 k ∧ MkR l k u w wr) (fun _ _ _ _ i _ => l.length - (Go.RowKit.intOf i).toNat)
  case atStart => exact ⟨0, Nat.zero_le _, rfl, HMS.out⟩
  case round =>
    obtain ⟨k, hk, rfl, hr⟩ := hrel
    by_cases hlt : k < l.length
    · have HSN := Lib.hid (makeL_take hlt)
      obtain ⟨⟨g, go, c0, rfl⟩, hro, hbw⟩ := hr
      have hol : (makeL (l.take k)).length = k := by rw [makeL_len, List.length_take]; omega
      obtain ⟨b, off, rfl, hlc, hcap, hb, k0, k1, k2, k3⟩ := (H.out.below hbw).at hlt
      have hxs := HX.out _ (List.getElem_mem hlt)
      have HOS : Hid (∀ y ∈ makeL (l.take k), y.k.size ≤ 1000000) := Lib.hid (fun y hy => HX.out y (List.mem_of_mem_take ((makeL_perm _).mem_iff.1 hy)))
      generalize makeL (l.take k) = out at *
      have HOL := Lib.hid hol
      clear hol
      generalize l[k] = x at *
      have HLS0 := Lib.hid (fun (y : Ln) (hy : y ∈ out) W => Waits.refLess_any y x (HOS.out y hy) hxs W)
      have HRO := Lib.hid hro
      have HBW := Lib.hid hbw
      have HIN := Lib.hid (insL_pos x out)
      have HPL := Lib.hid (posI_le x out)
      have HPT := Lib.hid (posI_lt x out)
      have HPA := Lib.hid (posI_at x out)
      have hbx := Box.made wr (lcs x) 26
      have hba := al wr (.cells (lcs x).toArray 26)
      have HIS : Hid (InR x wr.heap.size w (wr.alloc (.cells (lcs x).toArray 26))) := Lib.hid ⟨hbx, below_trans hbw hba⟩
      have HROA : Hid (LRow (wr.alloc (.cells (lcs x).toArray 26)) _ out) := Lib.hid (hro.below hba)
      unfold lcs at HIS HROA
      have hgo := hro.cap.2
      clear hro hbx hba hxs
      obtain ⟨W1, hW1⟩ : ∃ W, wr.alloc (.cells #[.string x.k, .int .i64 x.w.c, .int .i64 x.w.s, .int .i64 x.w.o] 26) = W := ⟨_, rfl⟩
      rw [hW1] at HIS HROA
      obtain ⟨gx, hgx⟩ : ∃ n, wr.heap.size = n := ⟨_, rfl⟩
      rw [hgx] at HIS
      have hwx : w.heap.size ≤ gx := by have := hbw.size; omega
      clear hbw
      go_upto_block 2 with (fail)
      clear hW1 hgx k0 k1 k2 k3
      go_cut [6] from 15 to 28 (fun c wx => c = .int .i64 (posI x out) ∧ Below W1.heap.size W1 wx)
      case first =>
        go_wp2_with fail
        go_loopw [6] (fun i W => ∃ j : Nat, j ≤ posI x out ∧ i = .int .i64 j ∧ Below W1.heap.size W1 W) (fun i _ => out.length + 1 - (Go.RowKit.intOf i).toNat)
        case atStart => exact ⟨0, Nat.zero_le _, rfl, Below.refl _ _⟩
        case round =>
          obtain ⟨j, hjp, rfl, hbz⟩ := hrel
          have HBZ := Lib.hid hbz
          have HSF : Hid (∀ w', Below wr.heap.size wr w' → w'.cell? ⟨gx, 0, none⟩ = some (.string x.k) ∧ w'.cell? ⟨gx, 1, none⟩ = some (.int .i64 x.w.c) ∧ w'.cell? ⟨gx, 2, none⟩ = some (.int .i64 x.w.s) ∧ w'.cell? ⟨gx, 3, none⟩ = some (.int .i64 x.w.o)) := Lib.hid (fun w' hz => box4 (x := x) (HIS.out.1.below (below_trans HBZ.out hz)))
          have HBS : Hid (∀ w', Below wr.heap.size wr w' → gx < w'.heap.size) := Lib.hid (fun w' hz => (HIS.out.1.below (below_trans HBZ.out hz)).1)
          clear hbz
          by_cases hjo : j < out.length
          · obtain ⟨g', go', eg, _, _, hgl, hfour⟩ := (HROA.out.below HBZ.out).at hjo
            cases eg
            have HPJ : Hid (ltL out[j] x = false → posI x out = j) := Lib.hid (fun hc => by
              rcases Nat.lt_or_ge j (posI x out) with h1 | h1
              · rw [HPT.out j hjo h1] at hc; cases hc
              · omega)
            have HPN : Hid (ltL out[j] x = true → j + 1 ≤ posI x out) := Lib.hid (fun hc => by
              rcases Nat.lt_or_ge j (posI x out) with h1 | h1
              · omega
              · have e : posI x out = j := by omega
                have := HPA.out (by rw [e]; exact hjo)
                simp only [e] at this
                rw [hc] at this
                cases this)
            have hls := HLS0.out out[j] (List.getElem_mem hjo)
            have HSY : Hid (∀ w', Below wr.heap.size wr w' → Four w' g (go + j * 4) out[j]) := Lib.hid (fun w' hz => hfour.below hgl hz)
            clear hfour
            generalize out[j] = y at *
            unfold lv at hls
            have hd0 : decide ((j : Int) < (out.length : Int)) = true := decide_eq_true (by omega)
            have ij0 : (0 : Int) ≤ (j : Int) := by omega
            have ij1 : (j : Int) < (out.length : Int) := by omega
            have HGL : Hid (∀ w', Below wr.heap.size wr w' → g < w'.heap.size) := Lib.hid (fun w' hz => Nat.lt_of_lt_of_le hgl hz.size)
            cases hm : ltL y x with
            | true =>
              rw [hm] at hls
              have HLS := Lib.hid hls
              have hjp2 := HPN.out hm
              clear hm hls HPJ HPN
              go_upto_region 6 with fail
              refine wp_region_noPanic ?_
              refine wp_region_held_drew (S := fun W' => Below wr.heap.size wr W') (by kernel_rfl) (dr wr) (fun hHeld => ?_)
              try simp only [Act.put, List.setIfInBounds_toArray, List.set_cons_zero, List.set_cons_succ]
              refine takeH 0 15 (.int .i64 j) calm_np rfl rfl (by kernel_rfl) (by kernel_rfl) (by kernel_rfl) (by rfl) (fun W' hSw => by go_simp) hHeld ?_
              try simp only [Act.put, List.setIfInBounds_toArray, List.set_cons_zero, List.set_cons_succ]
              refine takeH 1 16 (.slice (some ⟨g, go, none⟩) out.length c0) calm_np rfl rfl (by kernel_rfl) (by kernel_rfl) (by kernel_rfl) (by rfl) (fun W' hSw => by go_simp) hHeld ?_
              try simp only [Act.put, List.setIfInBounds_toArray, List.set_cons_zero, List.set_cons_succ]
              refine takeH 2 17 (.int .i64 out.length) calm_np rfl rfl (by kernel_rfl) (by kernel_rfl) (by kernel_rfl) (by rfl) (fun W' hSw => by go_simp) hHeld ?_
              try simp only [Act.put, List.setIfInBounds_toArray, List.set_cons_zero, List.set_cons_succ]
              refine takeH 3 18 (.bool true) calm_np rfl rfl (by kernel_rfl) (by kernel_rfl) (by kernel_rfl) (by rfl) (fun W' hSw => by go_simp) hHeld ?_
              try simp only [Act.put, List.setIfInBounds_toArray, List.set_cons_zero, List.set_cons_succ]
              refine takeH 4 19 (.bool true) calm_np rfl rfl (by kernel_rfl) (by kernel_rfl) (by kernel_rfl) (by rfl) (fun W' hSw => by go_simp) hHeld ?_
              try simp only [Act.put, List.setIfInBounds_toArray, List.set_cons_zero, List.set_cons_succ]
              refine takeH 5 20 (.slice (some ⟨g, go, none⟩) out.length c0) calm_np rfl rfl (by kernel_rfl) (by kernel_rfl) (by kernel_rfl) (by rfl) (fun W' hSw => by go_simp) hHeld ?_
              try simp only [Act.put, List.setIfInBounds_toArray, List.set_cons_zero, List.set_cons_succ]
              refine takeH 6 21 (.int .i64 j) calm_np rfl rfl (by kernel_rfl) (by kernel_rfl) (by kernel_rfl) (by rfl) (fun W' hSw => by go_simp) hHeld ?_
              try simp only [Act.put, List.setIfInBounds_toArray, List.set_cons_zero, List.set_cons_succ]
              refine takeH 7 22 (.pointer (some ⟨g, go + j * 4, none⟩)) calm_np rfl rfl (by kernel_rfl) (by kernel_rfl) (by kernel_rfl) (by rfl) (fun W' hSw => by go_simp) hHeld ?_
              try simp only [Act.put, List.setIfInBounds_toArray, List.set_cons_zero, List.set_cons_succ]
              refine takeH 8 23 (.agg #[.string y.k, .int .i64 y.w.c, .int .i64 y.w.s, .int .i64 y.w.o]) calm_np rfl rfl (by kernel_rfl) (by kernel_rfl) (by kernel_rfl) (by rfl) (fun W' hSw => by obtain ⟨g0, g1, g2, g3⟩ := HSY.out _ hSw; go_simp) hHeld ?_
              try simp only [Act.put, List.setIfInBounds_toArray, List.set_cons_zero, List.set_cons_succ]
              refine takeH 9 24 (.agg #[.string x.k, .int .i64 x.w.c, .int .i64 x.w.s, .int .i64 x.w.o]) calm_np rfl rfl (by kernel_rfl) (by kernel_rfl) (by kernel_rfl) (by rfl) (fun W' hSw => by obtain ⟨g0, g1, g2, g3⟩ := HSF.out _ hSw; go_simp) hHeld ?_
              try simp only [Act.put, List.setIfInBounds_toArray, List.set_cons_zero, List.set_cons_succ]
              refine wpAnyH_ready (rs := [10]) (by kernel_rfl) (by simp) (AllReadyH.cons rfl (fun K hK => ?_) AllReadyH.nil)
              go_simp
              refine (HLS.out _).mono ?_
              rintro e V1 ⟨rfl, hz⟩
              have hh := below_trans hHeld hz
              clear hz
              go_simp
              refine hK.out _ _ hh (fun hHeld => ?_)
              clear hK hh
              try simp only [Act.put, List.setIfInBounds_toArray, List.set_cons_zero, List.set_cons_succ]
              refine takeH 11 26 (.bool true) calm_np rfl rfl (by kernel_rfl) (by kernel_rfl) (by kernel_rfl) (by rfl) (fun W' hSw => by go_simp) hHeld ?_
              try simp only [Act.put, List.setIfInBounds_toArray, List.set_cons_zero, List.set_cons_succ]
              refine wpAnyH_done (by kernel_rfl) ?_ _
              refine NoPanic.normal ?_
              have HH := Lib.hid hHeld
              clear hHeld
              go_wp2_with fail
              go_roundw
              case rel => exact ⟨j + 1, hjp2, by go_num, below_trans HBZ.out HH.out⟩
              case measure => simp [Go.RowKit.intOf]; omega
            | false =>
              rw [hm] at hls
              have HLS := Lib.hid hls
              have hjp2 := HPJ.out hm
              clear hm hls HPJ HPN
              go_upto_region 6 with fail
              refine wp_region_noPanic ?_
              refine wp_region_held_drew (S := fun W' => Below wr.heap.size wr W') (by kernel_rfl) (dr wr) (fun hHeld => ?_)
              try simp only [Act.put, List.setIfInBounds_toArray, List.set_cons_zero, List.set_cons_succ]
              refine takeH 0 15 (.int .i64 j) calm_np rfl rfl (by kernel_rfl) (by kernel_rfl) (by kernel_rfl) (by rfl) (fun W' hSw => by go_simp) hHeld ?_
              try simp only [Act.put, List.setIfInBounds_toArray, List.set_cons_zero, List.set_cons_succ]
              refine takeH 1 16 (.slice (some ⟨g, go, none⟩) out.length c0) calm_np rfl rfl (by kernel_rfl) (by kernel_rfl) (by kernel_rfl) (by rfl) (fun W' hSw => by go_simp) hHeld ?_
              try simp only [Act.put, List.setIfInBounds_toArray, List.set_cons_zero, List.set_cons_succ]
              refine takeH 2 17 (.int .i64 out.length) calm_np rfl rfl (by kernel_rfl) (by kernel_rfl) (by kernel_rfl) (by rfl) (fun W' hSw => by go_simp) hHeld ?_
              try simp only [Act.put, List.setIfInBounds_toArray, List.set_cons_zero, List.set_cons_succ]
              refine takeH 3 18 (.bool true) calm_np rfl rfl (by kernel_rfl) (by kernel_rfl) (by kernel_rfl) (by rfl) (fun W' hSw => by go_simp) hHeld ?_
              try simp only [Act.put, List.setIfInBounds_toArray, List.set_cons_zero, List.set_cons_succ]
              refine takeH 4 19 (.bool true) calm_np rfl rfl (by kernel_rfl) (by kernel_rfl) (by kernel_rfl) (by rfl) (fun W' hSw => by go_simp) hHeld ?_
              try simp only [Act.put, List.setIfInBounds_toArray, List.set_cons_zero, List.set_cons_succ]
              refine takeH 5 20 (.slice (some ⟨g, go, none⟩) out.length c0) calm_np rfl rfl (by kernel_rfl) (by kernel_rfl) (by kernel_rfl) (by rfl) (fun W' hSw => by go_simp) hHeld ?_
              try simp only [Act.put, List.setIfInBounds_toArray, List.set_cons_zero, List.set_cons_succ]
              refine takeH 6 21 (.int .i64 j) calm_np rfl rfl (by kernel_rfl) (by kernel_rfl) (by kernel_rfl) (by rfl) (fun W' hSw => by go_simp) hHeld ?_
              try simp only [Act.put, List.setIfInBounds_toArray, List.set_cons_zero, List.set_cons_succ]
              refine takeH 7 22 (.pointer (some ⟨g, go + j * 4, none⟩)) calm_np rfl rfl (by kernel_rfl) (by kernel_rfl) (by kernel_rfl) (by rfl) (fun W' hSw => by go_simp) hHeld ?_
              try simp only [Act.put, List.setIfInBounds_toArray, List.set_cons_zero, List.set_cons_succ]
              refine takeH 8 23 (.agg #[.string y.k, .int .i64 y.w.c, .int .i64 y.w.s, .int .i64 y.w.o]) calm_np rfl rfl (by kernel_rfl) (by kernel_rfl) (by kernel_rfl) (by rfl) (fun W' hSw => by obtain ⟨g0, g1, g2, g3⟩ := HSY.out _ hSw; go_simp) hHeld ?_
              try simp only [Act.put, List.setIfInBounds_toArray, List.set_cons_zero, List.set_cons_succ]
              refine takeH 9 24 (.agg #[.string x.k, .int .i64 x.w.c, .int .i64 x.w.s, .int .i64 x.w.o]) calm_np rfl rfl (by kernel_rfl) (by kernel_rfl) (by kernel_rfl) (by rfl) (fun W' hSw => by obtain ⟨g0, g1, g2, g3⟩ := HSF.out _ hSw; go_simp) hHeld ?_
              try simp only [Act.put, List.setIfInBounds_toArray, List.set_cons_zero, List.set_cons_succ]
              refine wpAnyH_ready (rs := [10]) (by kernel_rfl) (by simp) (AllReadyH.cons rfl (fun K hK => ?_) AllReadyH.nil)
              go_simp
              refine (HLS.out _).mono ?_
              rintro e V1 ⟨rfl, hz⟩
              have hh := below_trans hHeld hz
              clear hz
              go_simp
              refine hK.out _ _ hh (fun hHeld => ?_)
              clear hK hh
              try simp only [Act.put, List.setIfInBounds_toArray, List.set_cons_zero, List.set_cons_succ]
              refine takeH 11 26 (.bool false) calm_np rfl rfl (by kernel_rfl) (by kernel_rfl) (by kernel_rfl) (by rfl) (fun W' hSw => by go_simp) hHeld ?_
              try simp only [Act.put, List.setIfInBounds_toArray, List.set_cons_zero, List.set_cons_succ]
              refine wpAnyH_done (by kernel_rfl) ?_ _
              refine NoPanic.normal ?_
              have HH := Lib.hid hHeld
              clear hHeld
              go_wp2_with fail
              go_meet
              exact ⟨by rw [hjp2], below_trans HBZ.out HH.out⟩
          · have hjp2 : posI x out = j := by have := HPL.out; omega
            have hd0 : decide ((j : Int) < (out.length : Int)) = false := decide_eq_false (by omega)
            have ij1 : ¬ (j : Int) < (out.length : Int) := by omega
            go_upto_region 6 with fail
            refine wp_region_noPanic ?_
            refine wp_region_held_drew (S := fun W' => Below wr.heap.size wr W') (by kernel_rfl) (dr wr) (fun hHeld => ?_)
            try simp only [Act.put, List.setIfInBounds_toArray, List.set_cons_zero, List.set_cons_succ]
            refine takeH 0 15 (.int .i64 j) calm_np rfl rfl (by kernel_rfl) (by kernel_rfl) (by kernel_rfl) (by rfl) (fun W' hSw => by go_simp) hHeld ?_
            try simp only [Act.put, List.setIfInBounds_toArray, List.set_cons_zero, List.set_cons_succ]
            refine takeH 1 16 (.slice (some ⟨g, go, none⟩) out.length c0) calm_np rfl rfl (by kernel_rfl) (by kernel_rfl) (by kernel_rfl) (by rfl) (fun W' hSw => by go_simp) hHeld ?_
            try simp only [Act.put, List.setIfInBounds_toArray, List.set_cons_zero, List.set_cons_succ]
            refine takeH 2 17 (.int .i64 out.length) calm_np rfl rfl (by kernel_rfl) (by kernel_rfl) (by kernel_rfl) (by rfl) (fun W' hSw => by go_simp) hHeld ?_
            try simp only [Act.put, List.setIfInBounds_toArray, List.set_cons_zero, List.set_cons_succ]
            refine takeH 3 18 (.bool false) calm_np rfl rfl (by kernel_rfl) (by kernel_rfl) (by kernel_rfl) (by rfl) (fun W' hSw => by go_simp) hHeld ?_
            try simp only [Act.put, List.setIfInBounds_toArray, List.set_cons_zero, List.set_cons_succ]
            refine takeH 4 19 (.bool false) calm_np rfl rfl (by kernel_rfl) (by kernel_rfl) (by kernel_rfl) (by rfl) (fun W' hSw => by go_simp) hHeld ?_
            try simp only [Act.put, List.setIfInBounds_toArray, List.set_cons_zero, List.set_cons_succ]
            refine skipH 5 20 calm_np rfl rfl (by kernel_rfl) (by kernel_rfl) (by kernel_rfl) (by rfl) hHeld ?_
            try simp only [Act.put, List.setIfInBounds_toArray, List.set_cons_zero, List.set_cons_succ]
            refine skipH 6 21 calm_np rfl rfl (by kernel_rfl) (by kernel_rfl) (by kernel_rfl) (by rfl) hHeld ?_
            try simp only [Act.put, List.setIfInBounds_toArray, List.set_cons_zero, List.set_cons_succ]
            refine skipH 7 22 calm_np rfl rfl (by kernel_rfl) (by kernel_rfl) (by kernel_rfl) (by rfl) hHeld ?_
            try simp only [Act.put, List.setIfInBounds_toArray, List.set_cons_zero, List.set_cons_succ]
            refine skipH 8 23 calm_np rfl rfl (by kernel_rfl) (by kernel_rfl) (by kernel_rfl) (by rfl) hHeld ?_
            try simp only [Act.put, List.setIfInBounds_toArray, List.set_cons_zero, List.set_cons_succ]
            refine skipH 9 24 calm_np rfl rfl (by kernel_rfl) (by kernel_rfl) (by kernel_rfl) (by rfl) hHeld ?_
            try simp only [Act.put, List.setIfInBounds_toArray, List.set_cons_zero, List.set_cons_succ]
            refine skipH 10 25 calm_np rfl rfl (by kernel_rfl) (by kernel_rfl) (by kernel_rfl) (by rfl) hHeld ?_
            try simp only [Act.put, List.setIfInBounds_toArray, List.set_cons_zero, List.set_cons_succ]
            refine takeH 11 26 (.bool false) calm_np rfl rfl (by kernel_rfl) (by kernel_rfl) (by kernel_rfl) (by rfl) (fun W' hSw => by go_simp) hHeld ?_
            try simp only [Act.put, List.setIfInBounds_toArray, List.set_cons_zero, List.set_cons_succ]
            refine wpAnyH_done (by kernel_rfl) ?_ _
            refine NoPanic.normal ?_
            have HH := Lib.hid hHeld
            clear hHeld
            go_wp2_with fail
            go_meet
            exact ⟨by rw [hjp2], below_trans HBZ.out HH.out⟩
      case rest =>
        obtain ⟨rfl, hbz⟩ := hcut
        rename World => wx
        have HBX := Lib.hid (show Box gx (lcs x) wx from HIS.out.1.below hbz)
        have HBZ := Lib.hid (below_trans HIS.out.2 hbz)
        have HROX := Lib.hid (HROA.out.below hbz)
        have HN0 := Lib.hid (OwnL.empty wx (Nat.le_refl _))
        have hqp := HPL.out
        have hok : out.length ≤ 1000 := by have := HOL.out; omega
        clear hbz HROA HIS HPT HPA HPL HLS0 HOS
        generalize posI x out = q at *
        have HTK := Lib.hid ((HROX.out.below (al wx (.cells #[] 26))).take hqp)
        obtain ⟨hgo1, hgo2⟩ := hgo
        have c1 : (0 : Int) ≤ q := by omega
        have c2 : (q : Int) ≤ out.length := by omega
        have c3 : (q : Int) ≤ c0 := by omega
        have c4 : (out.length : Int) ≤ c0 := by omega
        by_cases hqo : q < out.length
        · have c5 : (c0 = q) = False := eq_false (by omega)
          have HDR := Lib.hid (fun W (hb : Below wx.heap.size wx W) => (HROX.out.below hb).cut hqo)
          go_wp2_with (at_builtin; refine wpList_append_L rfl _ _ rfl wx.heap.size _ [] rfl HN0.out _ (out.take q) rfl HTK.out (by simp) (by rw [List.length_take]; omega) (by simp) ?_)
          intro v1 W2 ho1 hb1 _
          obtain ⟨a1, n1, c1, rfl⟩ : ∃ a n c, v1 = .slice a n c := (by obtain ⟨a', c', e⟩ := ho1.row.slice; exact ⟨a', _, c', e⟩)
          have HB1 := Lib.hid ((al wx (.cells #[] 26)).trans hb1)
          obtain ⟨x0, x1, x2, x3⟩ := box4 (HBX.out.below HB1.out)
          have hsx := (HBX.out.below HB1.out).1
          have HO1 := Lib.hid (ho1.below (al W2 (.cells #[.string x.k, .int .i64 x.w.c, .int .i64 x.w.s, .int .i64 x.w.o] 26)))
          have HB1A := Lib.hid (below_trans HB1.out (al W2 (.cells #[.string x.k, .int .i64 x.w.c, .int .i64 x.w.s, .int .i64 x.w.o] 26)))
          have hs1 := HB1A.out.size
          have HL1 : Hid ((out.take q).length ≤ 100000) := Lib.hid (by rw [List.length_take]; omega)
          clear ho1 hb1
          go_wp2_with (at_builtin; refine wpList_append_L rfl _ _ rfl wx.heap.size _ (out.take q) rfl HO1.out _ [x] rfl (LRow.one W2 x) HL1.out (by simp) hs1 ?_)
          intro v2 W3 ho2 hb2 _
          obtain ⟨a2, n2, c2, rfl⟩ : ∃ a n c, v2 = .slice a n c := (by obtain ⟨a', c', e⟩ := ho2.row.slice; exact ⟨a', _, c', e⟩)
          have HB2 := Lib.hid (HB1A.out.trans hb2)
          have HO2 := Lib.hid ho2
          have hs2 := HB2.out.size
          have HL2 : Hid ((out.take q ++ [x]).length ≤ 100000) := Lib.hid (by rw [List.length_append, List.length_take, List.length_singleton]; omega)
          clear ho2 hb2 x0 x1 x2 x3 hsx
          go_wp2_with (at_builtin; refine wpList_append_L rfl _ _ rfl wx.heap.size _ (out.take q ++ [x]) rfl HO2.out _ (out.drop q) rfl (HDR.out _ HB2.out) HL2.out (by rw [List.length_drop]; omega) hs2 ?_)
          intro v3 W4 ho3 hb3 _
          have hz3 := below_trans HBZ.out (HB2.out.trans hb3)
          try simp only [List.append_assoc, List.singleton_append, List.cons_append, List.nil_append, List.append_nil] at ho3
          rw [← HIN.out] at ho3
          have hrow := ho3.row
          obtain ⟨a3, c3, rfl⟩ := hrow.slice
          obtain ⟨b3, o3, ea3, _⟩ := hrow.at (q := 0) (by rw [insL_len]; omega)
          subst ea3
          have HFIN := Lib.hid (show MkR l (k + 1) (.slice (some ⟨b3, o3, none⟩) (insL x out).length c3) w W4 from ⟨⟨b3, o3, c3, by rw [HSN.out]⟩, by rw [HSN.out]; exact hrow, hz3⟩)
          clear ho3 hb3 hz3 hrow
          go_wp2_with fail
          go_roundw
          case rel => exact ⟨k + 1, by omega, by go_num, HFIN.out⟩
          case measure => simp [Go.RowKit.intOf]; omega
        · obtain rfl : q = out.length := by omega
          have hin2 := HIN.out
          rw [List.take_length, List.drop_length] at hin2
          have htk2 := HTK.out
          rw [List.take_length] at htk2
          have HIN := Lib.hid hin2
          have HTK := Lib.hid htk2
          clear hin2 htk2
          by_cases hcl : c0 = out.length
          · subst hcl
            go_wp2_with (at_builtin; refine wpList_append_L rfl _ _ rfl wx.heap.size _ [] rfl HN0.out _ (out) rfl HTK.out (by simp) (by omega) (by simp) ?_)
            intro v1 W2 ho1 hb1 _
            obtain ⟨a1, n1, c1, rfl⟩ : ∃ a n c, v1 = .slice a n c := (by obtain ⟨a', c', e⟩ := ho1.row.slice; exact ⟨a', _, c', e⟩)
            have HB1 := Lib.hid ((al wx (.cells #[] 26)).trans hb1)
            obtain ⟨x0, x1, x2, x3⟩ := box4 (HBX.out.below HB1.out)
            have hsx := (HBX.out.below HB1.out).1
            have HO1 := Lib.hid (ho1.below (al W2 (.cells #[.string x.k, .int .i64 x.w.c, .int .i64 x.w.s, .int .i64 x.w.o] 26)))
            have HB1A := Lib.hid (below_trans HB1.out (al W2 (.cells #[.string x.k, .int .i64 x.w.c, .int .i64 x.w.s, .int .i64 x.w.o] 26)))
            have hs1 := HB1A.out.size
            have HL1 : Hid ((out).length ≤ 100000) := Lib.hid (by omega)
            clear ho1 hb1
            go_wp2_with (at_builtin; refine wpList_append_L rfl _ _ rfl wx.heap.size _ (out) rfl HO1.out _ [x] rfl (LRow.one W2 x) HL1.out (by simp) hs1 ?_)
            intro v2 W3 ho2 hb2 _
            obtain ⟨a2, n2, c2, rfl⟩ : ∃ a n c, v2 = .slice a n c := (by obtain ⟨a', c', e⟩ := ho2.row.slice; exact ⟨a', _, c', e⟩)
            have HB2 := Lib.hid (HB1A.out.trans hb2)
            have HO2 := Lib.hid ho2
            have hs2 := HB2.out.size
            have HL2 : Hid ((out ++ [x]).length ≤ 100000) := Lib.hid (by rw [List.length_append, List.length_singleton]; omega)
            clear ho2 hb2 x0 x1 x2 x3 hsx
            go_wp2_with (at_builtin; refine wpList_append_L rfl _ _ rfl wx.heap.size _ (out ++ [x]) rfl HO2.out _ ([]) rfl (LRow.void _ (by omega)) HL2.out (by simp) hs2 ?_)
            intro v3 W4 ho3 hb3 _
            have hz3 := below_trans HBZ.out (HB2.out.trans hb3)
            try simp only [List.append_assoc, List.singleton_append, List.cons_append, List.nil_append, List.append_nil] at ho3
            rw [← HIN.out] at ho3
            have hrow := ho3.row
            obtain ⟨a3, c3, rfl⟩ := hrow.slice
            obtain ⟨b3, o3, ea3, _⟩ := hrow.at (q := 0) (by rw [insL_len]; omega)
            subst ea3
            have HFIN := Lib.hid (show MkR l (k + 1) (.slice (some ⟨b3, o3, none⟩) (insL x out).length c3) w W4 from ⟨⟨b3, o3, c3, by rw [HSN.out]⟩, by rw [HSN.out]; exact hrow, hz3⟩)
            clear ho3 hb3 hz3 hrow
            go_wp2_with fail
            go_roundw
            case rel => exact ⟨k + 1, by omega, by go_num, HFIN.out⟩
            case measure => simp [Go.RowKit.intOf]; omega
          · have c5 : (c0 = out.length) = False := eq_false hcl
            go_wp2_with (at_builtin; refine wpList_append_L rfl _ _ rfl wx.heap.size _ [] rfl HN0.out _ (out) rfl HTK.out (by simp) (by omega) (by simp) ?_)
            intro v1 W2 ho1 hb1 _
            obtain ⟨a1, n1, c1, rfl⟩ : ∃ a n c, v1 = .slice a n c := (by obtain ⟨a', c', e⟩ := ho1.row.slice; exact ⟨a', _, c', e⟩)
            have HB1 := Lib.hid ((al wx (.cells #[] 26)).trans hb1)
            obtain ⟨x0, x1, x2, x3⟩ := box4 (HBX.out.below HB1.out)
            have hsx := (HBX.out.below HB1.out).1
            have HO1 := Lib.hid (ho1.below (al W2 (.cells #[.string x.k, .int .i64 x.w.c, .int .i64 x.w.s, .int .i64 x.w.o] 26)))
            have HB1A := Lib.hid (below_trans HB1.out (al W2 (.cells #[.string x.k, .int .i64 x.w.c, .int .i64 x.w.s, .int .i64 x.w.o] 26)))
            have hs1 := HB1A.out.size
            have HL1 : Hid ((out).length ≤ 100000) := Lib.hid (by omega)
            clear ho1 hb1
            go_wp2_with (at_builtin; refine wpList_append_L rfl _ _ rfl wx.heap.size _ (out) rfl HO1.out _ [x] rfl (LRow.one W2 x) HL1.out (by simp) hs1 ?_)
            intro v2 W3 ho2 hb2 _
            obtain ⟨a2, n2, c2, rfl⟩ : ∃ a n c, v2 = .slice a n c := (by obtain ⟨a', c', e⟩ := ho2.row.slice; exact ⟨a', _, c', e⟩)
            have HB2 := Lib.hid (HB1A.out.trans hb2)
            have HO2 := Lib.hid ho2
            have hs2 := HB2.out.size
            have HL2 : Hid ((out ++ [x]).length ≤ 100000) := Lib.hid (by rw [List.length_append, List.length_singleton]; omega)
            clear ho2 hb2 x0 x1 x2 x3 hsx
            go_wp2_with (at_builtin; refine wpList_append_L rfl _ _ rfl wx.heap.size _ (out ++ [x]) rfl HO2.out _ ([]) rfl (LRow.void _ (by omega)) HL2.out (by simp) hs2 ?_)
            intro v3 W4 ho3 hb3 _
            have hz3 := below_trans HBZ.out (HB2.out.trans hb3)
            try simp only [List.append_assoc, List.singleton_append, List.cons_append, List.nil_append, List.append_nil] at ho3
            rw [← HIN.out] at ho3
            have hrow := ho3.row
            obtain ⟨a3, c3, rfl⟩ := hrow.slice
            obtain ⟨b3, o3, ea3, _⟩ := hrow.at (q := 0) (by rw [insL_len]; omega)
            subst ea3
            have HFIN := Lib.hid (show MkR l (k + 1) (.slice (some ⟨b3, o3, none⟩) (insL x out).length c3) w W4 from ⟨⟨b3, o3, c3, by rw [HSN.out]⟩, by rw [HSN.out]; exact hrow, hz3⟩)
            clear ho3 hb3 hz3 hrow
            go_wp2_with fail
            go_roundw
            case rel => exact ⟨k + 1, by omega, by go_num, HFIN.out⟩
            case measure => simp [Go.RowKit.intOf]; omega
    · obtain rfl : k = l.length := by omega
      obtain ⟨⟨g, go, c0, rfl⟩, hro, hbw⟩ := hr
      have HE : Hid (makeL (l.take l.length) = makeL l) := Lib.hid (by rw [List.take_length])
      have HRO := Lib.hid hro
      have HBW := Lib.hid hbw
      clear hro hbw
      go_wp2_with fail
      go_ret
      exact ⟨_, rfl, (congrArg (LRow wr (.slice (some ⟨g, go, none⟩) (makeL (l.take l.length)).length c0)) HE.out).mp HRO.out, HBW.out⟩
end Go.Proofs.Ytcehhgcfkoldfaa.Waits
