/-
  Contract of package net's cut: a copy of what is in flight, in three parts.
-/
import Derived.Test.YtkfjhfneagjejaaNHold
namespace Go.Proofs.Ytkfjhfneagjejaa.Net
open Go.ChangeShapes Go.WideShapes Go.ChangeAt Go.RowKit Go.Shelf Go.Lib
open Go.Proofs.Ytkfjhfneagjejaa.Queue (Box al dr below_trans ret_bool BoolB)

theorem NRow.upto {w : World} {a : Option Addr} {cap : Nat} {l : List Pc} (h : NRow w (.slice a l.length cap) l) {k : Nat} (hk : k ≤ l.length) : NRow w (.slice a k k) (l.take k) := by
  obtain ⟨a', cap', e, h1, h2, h3⟩ := h
  cases e
  have e1 : (l.take k).length = k := by rw [List.length_take]; omega
  refine ⟨a, k, by rw [e1], by omega, by omega, fun h0 => ?_⟩
  obtain ⟨b, off, ea, hbl, hc⟩ := h3 (by omega)
  exact ⟨b, off, ea, hbl, fun j hj => by
    rw [List.getElem_take]
    exact hc j (by omega)⟩
theorem NRow.one_at {w : World} {b off cap : Nat} {l : List Pc} (h : NRow w (.slice (some ⟨b, off, none⟩) l.length cap) l) {k : Nat} (hk : k < l.length) : NRow w (.slice (some ⟨b, off + k * 6, none⟩) 1 1) [l[k]] := by
  obtain ⟨b', off', e, _, _, hbl, hc⟩ := h.at hk
  cases e
  refine ⟨_, 1, rfl, Nat.le_refl _, by omega, fun _ => ⟨b, off + k * 6, rfl, hbl, fun j hj => ?_⟩⟩
  obtain rfl : j = 0 := by simpa using hj
  simpa using hc
theorem NRow.behind {w : World} {b off cap : Nat} {l : List Pc} (h : NRow w (.slice (some ⟨b, off, none⟩) l.length cap) l) {k : Nat} (hk : k ≤ l.length) : NRow w (.slice (some ⟨b, off + k * 6, none⟩) (l.length - k) (l.length - k)) (l.drop k) := by
  obtain ⟨a', cap', e, h1, h2, h3⟩ := h
  cases e
  have e1 : (l.drop k).length = l.length - k := List.length_drop
  refine ⟨_, l.length - k, by rw [e1], by omega, by omega, fun h0 => ?_⟩
  obtain ⟨b', off', ea, hbl, hc⟩ := h3 (by omega)
  cases ea
  refine ⟨b, off + k * 6, rfl, hbl, fun j hj => ?_⟩
  rw [List.getElem_drop, show off + k * 6 + j * 6 = off + (k + j) * 6 by omega]
  exact hc (k + j) (by omega)
theorem NRow.none_left {w : World} {a : Option Addr} {l : List Pc} {k : Nat} (hk : l.length ≤ k) : NRow w (.slice a 0 0) (l.drop k) := by
  rw [List.drop_of_length_le hk]
  exact ⟨a, 0, rfl, Nat.le_refl _, by omega, fun h => absurd h (Nat.lt_irrefl _)⟩
theorem OwnN.form {B : Nat} {v : Value} {l : List Pc} {w : World} (h : OwnN B v l w) (hn : 0 < l.length) : ∃ g cap, v = .slice (some ⟨g, 0, none⟩) l.length cap ∧ B ≤ g := by
  rcases h.2 with ⟨_, h0⟩ | ⟨g, cap, cur, hv, hb, _⟩
  · omega
  · exact ⟨g, cap, hv, hb⟩
/-- Refused. -/
def CutN (z : Int) (w : World) (e : Ending) (w' : World) : Prop := e = .returned (.tuple #[.slice none 0 0, .slice none 0 0, .slice none 0 0, .int .i64 z]) ∧ Below w.heap.size w w'
/-- Cut in three. -/
def CutY (l : List Pc) (k : Nat) (x : Pc) (w : World) (e : Ending) (w' : World) : Prop := ∃ g oa oi ob n, e = .returned (.tuple #[.slice (some ⟨g, oa, none⟩) k k, .slice (some ⟨g, oi, none⟩) 1 1, .slice (some ⟨g, ob, none⟩) n n, .int .i64 0]) ∧
  NRow w' (.slice (some ⟨g, oa, none⟩) k k) (l.take k) ∧ NRow w' (.slice (some ⟨g, oi, none⟩) 1 1) [x] ∧ NRow w' (.slice (some ⟨g, ob, none⟩) n n) (l.drop (k + 1)) ∧ w.heap.size ≤ g ∧ Below w.heap.size w w'

set_option maxRecDepth 100000 in
set_option maxHeartbeats 4000000 in
theorem cut_bad {v : Value} {l : List Pc} {w : World} (t i : Int) (h : NRow w v l) (hr : rightB l t = false) : Calls Try.prog 19 #[tv v t, .int .i64 i] w (CutN 1 w) := by
  obtain ⟨a, cap, rfl⟩ := h.slice
  have H := Lib.hid h
  have hx0 := Box.made w (tcs (.slice a l.length cap) t) 24
  have hb0 := al w (.cells #[.slice a l.length cap, .int .i64 t] 24)
  obtain ⟨W0, hW0⟩ : ∃ W, w.alloc (.cells #[.slice a l.length cap, .int .i64 t] 24) = W := ⟨_, rfl⟩
  have HX0 : Hid (Box w.heap.size (tcs (.slice a l.length cap) t) W0) := Lib.hid (hW0 ▸ hx0)
  have HB0 : Hid (Below w.heap.size w W0) := Lib.hid (hW0 ▸ hb0)
  have hri := Right_any (w := W0) t (h.below (hW0 ▸ hb0))
  rw [hr] at hri
  unfold tv at hri ⊢
  have HRI := Lib.hid hri
  clear h hx0 hb0 hri hr
  go_enter Try.func19, Try.ntmps19
  go_upto_region 1 with (fail)
  clear hW0
  obtain ⟨c0, c1⟩ := box2 HX0.out
  have hs0 := HX0.out.1
  go_wp2_with fail
  (with_reducible refine HRI.out.mono ?_)
  rintro e w1 ⟨rfl, hz⟩
  have HX1 := Lib.hid (HX0.out.below hz)
  have HB1 := Lib.hid (below_trans HB0.out hz)
  clear hz c0 c1 hs0 HRI
  obtain ⟨c0, c1⟩ := box2 HX1.out
  have hs0 := HX1.out.1
  go_wp2_with fail
  exact bodyPost_ret (by simp [results, Try.results19, go_sem]) rfl ⟨rfl, HB1.out⟩
set_option maxRecDepth 100000 in
set_option maxHeartbeats 4000000 in
theorem cut_none {v : Value} {l : List Pc} {w : World} (t i : Int) (h : NRow w v l) (hr : rightB l t = true) (hi : ¬ (0 ≤ i ∧ i < l.length)) : Calls Try.prog 19 #[tv v t, .int .i64 i] w (CutN 8 w) := by
  obtain ⟨a, cap, rfl⟩ := h.slice
  have H := Lib.hid h
  have hx0 := Box.made w (tcs (.slice a l.length cap) t) 24
  have hb0 := al w (.cells #[.slice a l.length cap, .int .i64 t] 24)
  obtain ⟨W0, hW0⟩ : ∃ W, w.alloc (.cells #[.slice a l.length cap, .int .i64 t] 24) = W := ⟨_, rfl⟩
  have HX0 : Hid (Box w.heap.size (tcs (.slice a l.length cap) t) W0) := Lib.hid (hW0 ▸ hx0)
  have HB0 : Hid (Below w.heap.size w W0) := Lib.hid (hW0 ▸ hb0)
  have hri := Right_any (w := W0) t (h.below (hW0 ▸ hb0))
  rw [hr] at hri
  unfold tv at hri ⊢
  have HRI := Lib.hid hri
  clear h hx0 hb0 hri hr
  by_cases h0 : i < 0
  · go_enter Try.func19, Try.ntmps19
    go_upto_region 1 with (fail)
    clear hW0
    obtain ⟨c0, c1⟩ := box2 HX0.out
    have hs0 := HX0.out.1
    go_wp2_with fail
    (with_reducible refine HRI.out.mono ?_)
    rintro e w1 ⟨rfl, hz⟩
    have HX1 := Lib.hid (HX0.out.below hz)
    have HB1 := Lib.hid (below_trans HB0.out hz)
    clear hz c0 c1 hs0 HRI
    obtain ⟨c0, c1⟩ := box2 HX1.out
    have hs0 := HX1.out.1
    go_wp2_with fail
    exact bodyPost_ret (by simp [results, Try.results19, go_sem]) rfl ⟨rfl, HB1.out⟩
  · have h1 : i ≥ (l.length : Int) := by omega
    go_enter Try.func19, Try.ntmps19
    go_upto_region 1 with (fail)
    clear hW0
    obtain ⟨c0, c1⟩ := box2 HX0.out
    have hs0 := HX0.out.1
    go_wp2_with fail
    (with_reducible refine HRI.out.mono ?_)
    rintro e w1 ⟨rfl, hz⟩
    have HX1 := Lib.hid (HX0.out.below hz)
    have HB1 := Lib.hid (below_trans HB0.out hz)
    clear hz c0 c1 hs0 HRI
    obtain ⟨c0, c1⟩ := box2 HX1.out
    have hs0 := HX1.out.1
    go_wp2_with fail
    exact bodyPost_ret (by simp [results, Try.results19, go_sem]) rfl ⟨rfl, HB1.out⟩
set_option maxRecDepth 100000 in
set_option maxHeartbeats 4000000 in
theorem cut_yes {v : Value} {l : List Pc} {w : World} (t : Int) {k : Nat} (h : NRow w v l) (hr : rightB l t = true) (hk : k < l.length) : Calls Try.prog 19 #[tv v t, .int .i64 k] w (CutY l k l[k] w) := by
  have hln := (rightB_t.1 hr).1
  obtain ⟨a, cap, rfl⟩ := h.slice
  have H := Lib.hid h
  have hx0 := Box.made w (tcs (.slice a l.length cap) t) 24
  have hb0 := al w (.cells #[.slice a l.length cap, .int .i64 t] 24)
  obtain ⟨W0, hW0⟩ : ∃ W, w.alloc (.cells #[.slice a l.length cap, .int .i64 t] 24) = W := ⟨_, rfl⟩
  have HX0 : Hid (Box w.heap.size (tcs (.slice a l.length cap) t) W0) := Lib.hid (hW0 ▸ hx0)
  have HB0 : Hid (Below w.heap.size w W0) := Lib.hid (hW0 ▸ hb0)
  have hri := Right_any (w := W0) t (h.below (hW0 ▸ hb0))
  rw [hr] at hri
  unfold tv at hri ⊢
  have HRI := Lib.hid hri
  clear h hx0 hb0 hri hr
  have h0 : ¬ ((k : Int) < 0) := by omega
  have h1 : ¬ ((k : Int) ≥ l.length) := by omega
  go_enter Try.func19, Try.ntmps19
  go_upto_region 1 with (fail)
  clear hW0
  obtain ⟨c0, c1⟩ := box2 HX0.out
  have hs0 := HX0.out.1
  go_wp2_with fail
  (with_reducible refine HRI.out.mono ?_)
  rintro e w1 ⟨rfl, hz⟩
  have HX1 := Lib.hid (HX0.out.below hz)
  have HB1 := Lib.hid (below_trans HB0.out hz)
  clear hz c0 c1 hs0 HRI
  obtain ⟨c0, c1⟩ := box2 HX1.out
  have hs0 := HX1.out.1
  have HCL := Lib.hid (fun W (hW : Below w1.heap.size w1 W) => Clone_any ((H.out.below HB1.out).below hW) (by omega))
  go_upto_region 5 with (fail)
  clear c0 c1 hs0
  refine wp_region_noPanic ?_
  refine wp_region_held_drew (S := fun W' => Below w1.heap.size w1 W') (by kernel_rfl) (dr w1) (fun hHeld => ?_)
  try simp only [Act.put, List.setIfInBounds_toArray, List.set_cons_zero, List.set_cons_succ]
  refine takeH 0 22 (.pointer (some ⟨w.heap.size, 0, none⟩)) calm_np rfl rfl (by kernel_rfl) (by kernel_rfl) (by kernel_rfl) (by rfl) (fun W' hSw => by go_simp) hHeld ?_
  try simp only [Act.put, List.setIfInBounds_toArray, List.set_cons_zero, List.set_cons_succ]
  refine takeH 1 23 (.slice a l.length cap) calm_np rfl rfl (by kernel_rfl) (by kernel_rfl) (by kernel_rfl) (by rfl) (fun W' hSw => by have g0 := (show _ = some (Value.slice a l.length cap) from (HX1.out.below hSw).at 0 rfl); have hsz := (HX1.out.below hSw).1; go_simp) hHeld ?_
  try simp only [Act.put, List.setIfInBounds_toArray, List.set_cons_zero, List.set_cons_succ]
  refine takeH 3 25 (.pointer (some ⟨w.heap.size, 0, none⟩)) calm_np rfl rfl (by kernel_rfl) (by kernel_rfl) (by kernel_rfl) (by rfl) (fun W' hSw => by go_simp) hHeld ?_
  try simp only [Act.put, List.setIfInBounds_toArray, List.set_cons_zero, List.set_cons_succ]
  refine takeH 4 26 (.slice a l.length cap) calm_np rfl rfl (by kernel_rfl) (by kernel_rfl) (by kernel_rfl) (by rfl) (fun W' hSw => by have g0 := (show _ = some (Value.slice a l.length cap) from (HX1.out.below hSw).at 0 rfl); have hsz := (HX1.out.below hSw).1; go_simp) hHeld ?_
  try simp only [Act.put, List.setIfInBounds_toArray, List.set_cons_zero, List.set_cons_succ]
  refine takeH 5 27 (.int .i64 l.length) calm_np rfl rfl (by kernel_rfl) (by kernel_rfl) (by kernel_rfl) (by rfl) (fun W' hSw => by go_simp) hHeld ?_
  try simp only [Act.put, List.setIfInBounds_toArray, List.set_cons_zero, List.set_cons_succ]
  refine wpAnyH_ready (rs := [2]) (by kernel_rfl) (by simp) (AllReadyH.cons rfl (fun K hK => ?_) AllReadyH.nil)
  go_simp
  (with_reducible refine (HCL.out _ hHeld).mono ?_)
  rintro e w2 ⟨v2, rfl, ho, hz⟩
  obtain ⟨g, c2, rfl, hlo⟩ := OwnN.form ho (by omega)
  have HO := Lib.hid ho
  have HLO := Lib.hid (Nat.le_trans (below_trans HB1.out hHeld).size hlo)
  have hh := below_trans hHeld hz
  clear hz ho hlo
  go_simp
  refine hK.out _ _ hh (fun hHeld => ?_)
  clear hK hh
  try simp only [Act.put, List.setIfInBounds_toArray, List.set_cons_zero, List.set_cons_succ]
  refine takeH 6 8 (.slice (some ⟨g, 0, none⟩) l.length c2) calm_np rfl rfl (by kernel_rfl) (by kernel_rfl) (by kernel_rfl) (by rfl) (fun W' hSw => by go_simp) hHeld ?_
  try simp only [Act.put, List.setIfInBounds_toArray, List.set_cons_zero, List.set_cons_succ]
  refine takeH 7 9 (.int .i64 l.length) calm_np rfl rfl (by kernel_rfl) (by kernel_rfl) (by kernel_rfl) (by rfl) (fun W' hSw => by go_simp) hHeld ?_
  try simp only [Act.put, List.setIfInBounds_toArray, List.set_cons_zero, List.set_cons_succ]
  refine wpAnyH_done (by kernel_rfl) ?_ _
  refine NoPanic.normal ?_
  have HH := Lib.hid hHeld
  clear hHeld
  have HB3 := Lib.hid (below_trans HB1.out HH.out)
  clear HH HCL
  rename World => w3
  have HN : Hid (NRow w3 (.slice (some ⟨g, 0, none⟩) l.length c2) l) := Lib.hid HO.out.row
  have hcc := (NRow.cap HN.out).2
  have d1 : (0 : Int) ≤ k := by omega
  have d2 : (k : Int) ≤ l.length := by omega
  have d3 : (k : Int) ≤ c2 := by omega
  have d4 : (l.length : Int) ≤ c2 := by omega
  have d5 : (k : Int) ≤ (k : Int) + 1 := by omega
  have d6 : (0 : Int) ≤ (k : Int) + 1 := by omega
  have d7 : (k : Int) + 1 ≤ l.length := by omega
  have d8 : (k : Int) + 1 ≤ c2 := by omega
  have d9 : IntKind.i64.wrap ((k : Int) + 1) = (k : Int) + 1 := IntWalk.i64_in _ (by omega)
  have d10 : ((k : Int) + 1).toNat = k + 1 := by omega
  have d11 : k + 1 - k = 1 := by omega
  have H1 : Hid (NRow w3 (.slice (some ⟨g, 0, none⟩) k k) (l.take k)) := Lib.hid (HN.out.upto (by omega))
  have H2 : Hid (NRow w3 (.slice (some ⟨g, 0 + k * 6, none⟩) 1 1) [l[k]]) := Lib.hid (HN.out.one_at hk)
  clear HO
  by_cases hcl : l.length = k + 1
  · have H3 : Hid (NRow w3 (.slice (some ⟨g, 0, none⟩) 0 0) (l.drop (k + 1))) := Lib.hid (NRow.none_left (by omega))
    rw [Nat.zero_add] at H2
    go_upto_region 6 with (fail)
    go_quiet (fail)
    go_wp2_with fail
    have HD := Lib.hid (Queue.below_dn w3 nq)
    exact bodyPost_ret (by simp [results, Try.results19, go_sem]) rfl ⟨g, 0, k * 6, 0, 0, rfl, H1.out.below HD.out, H2.out.below HD.out, H3.out.below HD.out, HLO.out, below_trans HB3.out HD.out⟩
  · have H3 : Hid (NRow w3 (.slice (some ⟨g, 0 + (k + 1) * 6, none⟩) (l.length - (k + 1)) (l.length - (k + 1))) (l.drop (k + 1))) := Lib.hid (HN.out.behind (by omega))
    rw [Nat.zero_add] at H2 H3
    go_upto_region 6 with (fail)
    go_quiet (fail)
    go_wp2_with fail
    have HD := Lib.hid (Queue.below_dn w3 nq)
    exact bodyPost_ret (by simp [results, Try.results19, go_sem]) rfl ⟨g, 0, k * 6, (k + 1) * 6, l.length - (k + 1), rfl, H1.out.below HD.out, H2.out.below HD.out, H3.out.below HD.out, HLO.out, below_trans HB3.out HD.out⟩
end Go.Proofs.Ytkfjhfneagjejaa.Net
