/-
  Joined: JHeadOf, JMayBe, JHeadAt.
-/
import Derived.Test.YtndakbjmahkjdaaMn
import Derived.Lib.BufferWrite
import Derived.ChangeKeysEq
import Derived.Laws.StructEq

/-
  Contracts of a head's own functions (package journal): its bytes as they are told, what bytes tell.
-/
namespace Go.Proofs.Ytndakbjmahkjdaa.Disk.Jn
open Go.ChangeShapes Go.WideShapes Go.ChangeAt Go.RowKit Go.Lib

theorem infoHead : (Try.prog.info? 70).map (fun i => (i.zero, i.size)) = some (some (.agg (Array.replicate 64 (.int .u8 0))), 64) := by kernel_rfl
theorem infoByte1 : (Try.prog.info? 5).map (·.size) = some 1 := by kernel_rfl
theorem ar_zero : ar (List.replicate 64 0) = Array.replicate 64 (.int .u8 0) := by simp only [ar, List.map_replicate]; rfl
/-- Bytes over others. -/
def spl (l : List UInt8) (o : Nat) (bs : List UInt8) : List UInt8 := l.take o ++ bs ++ l.drop (o + bs.length)
theorem ar_spl (l : List UInt8) (o : Nat) (bs : List UInt8) : ((ar l).toList.take o ++ (bs.map fun x => Value.int .u8 (x.toNat : Int)) ++ (ar l).toList.drop (o + bs.length)).toArray = ar (spl l o bs) := by
  simp [ar, spl, List.map_take, List.map_drop]
theorem Row.copied {g : Nat} {l : List UInt8} {w : World} (h : Row g l w) (o : Nat) (bs : List UInt8) : Row g (spl l o bs) (w.setRow g ((ar l).toList.take o ++ (bs.map fun x => Value.int .u8 (x.toNat : Int)) ++ (ar l).toList.drop (o + bs.length)).toArray) := by
  unfold Row
  rw [setRow_heap w g _ _ _ _ h, ar_spl]
theorem Row.made (w : World) (l : List UInt8) : Row w.heap.size l (w.alloc (.cells (ar l) 70)) := heap_alloc_new w _
theorem Row.other {g : Nat} {l : List UInt8} {w : World} (h : Row g l w) {a : Addr} (hne : g ≠ a.block) (v : Value) : Row g l (w.setCell a v) := by
  unfold Row
  rw [heap_setCell_other w a g v hne]; exact h

theorem Box.keep {b B : Nat} {vs : List Value} {w w' : World} (h : Box b vs w) (hb : Below B w w') (hlt : b < B) : Box b vs w' :=
  ⟨Nat.lt_of_lt_of_le h.1 hb.size, fun j v hj => ⟨(hb.cell (p := ⟨b, j, none⟩) hlt).trans (h.2 j v hj).1, (hb.frozen (p := ⟨b, j, none⟩) hlt).trans (h.2 j v hj).2⟩⟩
theorem Row.keep {g B : Nat} {l : List UInt8} {w w' : World} (h : Row g l w) (hb : Below B w w') (hlt : g < B) : Row g l w' := (hb.block g hlt).trans h
/-- headOf's blocks: what is told, the result, the array. -/
def HSt (w : World) (vs : List Value) (l0 l : List UInt8) (W : World) : Prop := Below w.heap.size w W ∧ Box w.heap.size vs W ∧ Row (w.heap.size + 1) l0 W ∧ Row (w.heap.size + 1 + 1) l W
theorem HSt.next {w W W' : World} {vs : List Value} {l0 l l' : List UInt8} (h : HSt w vs l0 l W) (hr : Row (w.heap.size + 1 + 1) l' W') (hb : Below (w.heap.size + 1 + 1) W W') : HSt w vs l0 l' W' :=
  ⟨h.1.trans (hb.mono (by omega)), h.2.1.keep hb (by omega), h.2.2.1.keep hb (by omega), hr⟩

/-- An array of bytes is returned. -/
def HeadB (l : List UInt8) (w : World) (e : Ending) (w' : World) : Prop := e = .returned (.agg (ar l)) ∧ Below w.heap.size w w'

theorem name_list : (⟨#[116, 97, 114, 114, 121]⟩ : ByteArray).data.toList = [116, 97, 114, 114, 121] := rfl
theorem head_steps' (h a0 a1 a2 a3 a4 a5 a6 a7 b0 b1 b2 b3 : UInt8) :
    spl (lay (lay ((spl (List.replicate 64 0) 0 [116, 97, 114, 114, 121]).set 5 h) 6 [a0, a1, a2, a3, a4, a5, a6, a7]) 14 [b0, b1, b2, b3]) 32 ((lay (lay ((spl (List.replicate 64 0) 0 [116, 97, 114, 114, 121]).set 5 h) 6 [a0, a1, a2, a3, a4, a5, a6, a7]) 14 [b0, b1, b2, b3]).take 32) =
    ([116, 97, 114, 114, 121] ++ (h :: ([a0, a1, a2, a3, a4, a5, a6, a7] ++ ([b0, b1, b2, b3] ++ List.replicate 14 0)))) ++ ([116, 97, 114, 114, 121] ++ (h :: ([a0, a1, a2, a3, a4, a5, a6, a7] ++ ([b0, b1, b2, b3] ++ List.replicate 14 0)))) := by kernel_rfl
theorem head_steps (t : Told) : spl (lay (lay ((spl (List.replicate 64 0) 0 [116, 97, 114, 114, 121]).set 5 (UInt8.ofNat t.half)) 6 (low t.seals 8)) 14 (low t.used 4)) 32 ((lay (lay ((spl (List.replicate 64 0) 0 [116, 97, 114, 114, 121]).set 5 (UInt8.ofNat t.half)) 6 (low t.seals 8)) 14 (low t.used 4)).take 32) = headL t := by
  have e8 : ∀ n, low n 8 = [UInt8.ofNat n, UInt8.ofNat (n / 256), UInt8.ofNat (n / 256 / 256), UInt8.ofNat (n / 256 / 256 / 256), UInt8.ofNat (n / 256 / 256 / 256 / 256), UInt8.ofNat (n / 256 / 256 / 256 / 256 / 256), UInt8.ofNat (n / 256 / 256 / 256 / 256 / 256 / 256), UInt8.ofNat (n / 256 / 256 / 256 / 256 / 256 / 256 / 256)] := fun n => rfl
  have e4 : ∀ n, low n 4 = [UInt8.ofNat n, UInt8.ofNat (n / 256), UInt8.ofNat (n / 256 / 256), UInt8.ofNat (n / 256 / 256 / 256)] := fun n => rfl
  unfold headL halfL
  rw [e8, e4]
  exact head_steps' _ _ _ _ _ _ _ _ _ _ _ _ _

set_option maxHeartbeats 1000000 in
set_option maxRecDepth 100000 in
theorem headOf_any (t : Told) (h1 : t.half ≤ 1) (h2 : t.seals < 9223372036854775808) (h3 : t.used < 9223372036854775808) (w : World) : Calls Try.prog 32 #[.agg #[.int .i64 t.half, .int .i64 t.seals, .int .i64 t.used]] w (HeadB (headL t) w) := by
  obtain ⟨hz, hi⟩ := zero_of_info infoHead
  have HI := Lib.hid hi
  clear hi
  go_enter Try.func32, Try.ntmps32
  go_upto_region 2 with (fail)
  rw [← ar_zero]
  clear hz
  have h0 : Below w.heap.size w (((w.alloc (.cells #[.int .i64 t.half, .int .i64 t.seals, .int .i64 t.used] 58)).alloc (.cells (ar (List.replicate 64 0)) 70)).alloc (.cells (ar (List.replicate 64 0)) 70)) := below_trans (below_trans (al _ _) (al _ _)) (al _ _)
  have h1' := Box.made w [.int .i64 t.half, .int .i64 t.seals, .int .i64 t.used] 58
  have h2' := Row.made (w.alloc (.cells #[.int .i64 t.half, .int .i64 t.seals, .int .i64 t.used] 58)) (List.replicate 64 0)
  have h3' := Row.made ((w.alloc (.cells #[.int .i64 t.half, .int .i64 t.seals, .int .i64 t.used] 58)).alloc (.cells (ar (List.replicate 64 0)) 70)) (List.replicate 64 0)
  have h1'' := (Box.below h1' (al _ (.cells (ar (List.replicate 64 0)) 70))).below (al _ (.cells (ar (List.replicate 64 0)) 70))
  have h2'' := h2'.below (al _ (.cells (ar (List.replicate 64 0)) 70))
  simp only [World.size_alloc] at h2'' h3'
  have HA : Hid (HSt w [.int .i64 t.half, .int .i64 t.seals, .int .i64 t.used] (List.replicate 64 0) (List.replicate 64 0) _) := ⟨h0, h1'', h2'', h3'⟩
  clear h0 h1' h2' h3' h1'' h2''
  generalize (((w.alloc (.cells #[.int .i64 t.half, .int .i64 t.seals, .int .i64 t.used] 58)).alloc (.cells (ar (List.replicate 64 0)) 70)).alloc (.cells (ar (List.replicate 64 0)) 70)) = W at HA ⊢
  have hcp := run_copy_row_string (P := Try.prog) W 46 9 3 5 (w.heap.size + 1 + 1) 0 64 64 ⟨#[116, 97, 114, 114, 121]⟩ (ar (List.replicate 64 0)) 70 Try.underlying46 infoByte1 HA.out.2.2.2 (by decide) (by rw [ar_size]; decide)
  have HS := Lib.hid (head_steps t)
  have HS0 : Hid ((spl (List.replicate 64 0) 0 [116, 97, 114, 114, 121]).length = 64) := rfl
  have HR1 := Lib.hid (HA.out.next (HA.out.2.2.2.copied 0 [116, 97, 114, 114, 121]) (below_setRow (Below.refl _ _) (Nat.le_refl _) _))
  change Hid (HSt w _ _ _ (W.setRow (w.heap.size + 1 + 1) ((ar (List.replicate 64 0)).toList.take 0 ++ byteCells (⟨#[116, 97, 114, 114, 121]⟩ : ByteArray).data.toList ++ (ar (List.replicate 64 0)).toList.drop (0 + (⟨#[116, 97, 114, 114, 121]⟩ : ByteArray).size)).toArray)) at HR1
  generalize (W.setRow (w.heap.size + 1 + 1) ((ar (List.replicate 64 0)).toList.take 0 ++ byteCells (⟨#[116, 97, 114, 114, 121]⟩ : ByteArray).data.toList ++ (ar (List.replicate 64 0)).toList.drop (0 + (⟨#[116, 97, 114, 114, 121]⟩ : ByteArray).size)).toArray) = W1 at hcp HR1
  generalize spl (List.replicate 64 0) 0 [116, 97, 114, 114, 121] = l1 at HS HS0 HR1
  go_upto_region 3 with (refine Lib.wpList_copy_run _ rfl _ _ 46 9 rfl _ _ rfl rfl hcp ?_)
  clear hcp
  obtain ⟨c0, c1, c2⟩ := HR1.out.2.1.c3
  have cR := HR1.out.2.2.2.cell (j := 5) (by rw [HS0.out]; decide)
  have fR := HR1.out.2.2.2.free 5
  go_upto_region 4 with (fail)
  have HR2 := Lib.hid (HR1.out.next (HR1.out.2.2.2.set 5 (UInt8.ofNat t.half) (x := (t.half : Int)) (by simp; omega)) ((Below.refl _ _).setCell (p := ⟨w.heap.size + 1 + 1, 5, none⟩) (Nat.le_refl _) _))
  generalize (W1.setCell ⟨w.heap.size + 1 + 1, 5, none⟩ (.int .u8 (t.half : Int))) = W2 at HR2 ⊢
  have HS2 : Hid ((l1.set 5 (UInt8.ofNat t.half)).length = 64) := by unfold Hid; rw [List.length_set]; exact HS0.out
  clear c0 c1 c2 cR fR HR1
  generalize l1.set 5 (UInt8.ofNat t.half) = l2 at HS HS2 HR2
  have HW1 := Lib.hid (fun W (h : Row (w.heap.size + 1 + 1) l2 W) => writeNumber_any (o := 6) (k := 8) (cap := 58) h t.seals h2 (by omega) (by rw [HS2.out]; omega))
  have HR2d : Hid (Row (w.heap.size + 1 + 1) l2 W2.drew) := HR2.out.2.2.2
  obtain ⟨c0, c1, c2⟩ := HR2.out.2.1.c3
  go_region_with (go_at_call 54; (with_reducible refine (HW1.out _ HR2d.out).mono ?_); rintro e x ⟨rfl, hx, hbx⟩; have HX := Lib.hid hx; have HBX := Lib.hid hbx; clear hx hbx)
  have HR3 := Lib.hid (HR2.out.next HX.out (Below.trans ((Below.refl _ _).drew) HBX.out))
  have HS3 : Hid ((lay l2 6 (low t.seals 8)).length = 64) := by unfold Hid; rw [lay_len]; exact HS2.out
  clear c0 c1 c2 HR2 HR2d HW1 HX HBX
  generalize lay l2 6 (low t.seals 8) = l3 at HS HS3 HR3
  have HW2 := Lib.hid (fun W (h : Row (w.heap.size + 1 + 1) l3 W) => writeNumber_any (o := 14) (k := 4) (cap := 50) h t.used h3 (by omega) (by rw [HS3.out]; omega))
  have HR3d : Hid (Row (w.heap.size + 1 + 1) l3 x.drew) := HR3.out.2.2.2
  obtain ⟨c0, c1, c2⟩ := HR3.out.2.1.c3
  go_wp2_with fail
  go_region_with (go_at_call 54; (with_reducible refine (HW2.out _ HR3d.out).mono ?_); rintro e y ⟨rfl, hx, hbx⟩; have HX := Lib.hid hx; have HBX := Lib.hid hbx; clear hx hbx)
  have HR4 := Lib.hid (HR3.out.next HX.out (Below.trans ((Below.refl _ _).drew) HBX.out))
  have HS4 : Hid ((lay l3 14 (low t.used 4)).length = 64) := by unfold Hid; rw [lay_len]; exact HS3.out
  clear c0 c1 c2 HR3 HR3d HW2 HX HBX
  generalize lay l3 14 (low t.used 4) = l4 at HS HS4 HR4
  have HR4d : Hid (HSt w [.int .i64 t.half, .int .i64 t.seals, .int .i64 t.used] (List.replicate 64 0) l4 y.drew) := HR4.out.next HR4.out.2.2.2 ((Below.refl _ _).drew)
  have hcp := run_copy_row (P := Try.prog) y.drew 46 46 3 5 (w.heap.size + 1 + 1) 32 32 32 ⟨w.heap.size + 1 + 1, 0, none⟩ 32 64 (ar l4) 70 ((l4.take 32).map fun x => Value.int .u8 (x.toNat : Int)) Try.underlying46 infoByte1 HR4d.out.2.2.2 (by simp [HS4.out])
    (by
      intro j v hj
      rw [addr_at, cell_of_row _ _ _ _ _ _ HR4d.out.2.2.2, ar_at]
      rw [List.getElem?_map, List.getElem?_take] at hj
      split at hj
      · exact hj
      · cases hj) (by rw [ar_size, List.length_map, List.length_take, HS4.out]; decide) (by intro v hv; obtain ⟨b, _, rfl⟩ := List.mem_map.1 hv; rfl)
  have HR5 := Lib.hid (HR4d.out.next (HR4d.out.2.2.2.copied 32 (l4.take 32)) (below_setRow (Below.refl _ _) (Nat.le_refl _) _))
  rw [List.length_map] at hcp
  go_wp2_with fail
  generalize (y.drew.setRow (w.heap.size + 1 + 1) ((ar l4).toList.take 32 ++ ((l4.take 32).map fun x => Value.int .u8 (x.toNat : Int)) ++ (ar l4).toList.drop (32 + (l4.take 32).length)).toArray) = W5 at hcp HR5
  rw [HS.out] at HR5
  clear HR4 HR4d
  go_region
  have HL : Hid (Option.map (fun x => x.size) (Try.prog.info? 70) = some (ar (headL t)).size) := by unfold Hid; rw [ar_size, headL_len]; exact HI.out
  have HL0 : Hid ((ar (headL t)).size = (ar (List.replicate 64 0)).size) := by unfold Hid; rw [ar_size, ar_size, headL_len]; rfl
  have hone := ar_one (headL t)
  have HFIN := Lib.hid (setRow_heap _ _ _ (ar (headL t)) _ _ HR5.out.2.2.1)
  have HEND := Lib.hid (below_setRow HR5.out.1 (by omega : w.heap.size ≤ w.heap.size + 1) (ar (headL t)))
  clear hcp HS HS4
  have HLD : Hid (W5.heap[w.heap.size + 1 + 1]? = some (.cells (ar (headL t)) 70 (0, 0))) := HR5.out.2.2.2
  have HST : Hid (W5.heap[w.heap.size + 1]? = some (.cells (ar (List.replicate 64 0)) 70 (0, 0))) := HR5.out.2.2.1
  clear HR5 HA
  generalize ar (List.replicate 64 0) = z at HL0 HLD HST
  generalize hAe : ar (headL t) = A at HL HL0 hone HFIN HEND HLD
  have HEQ := Lib.hid hAe
  clear hAe
  go_wp2_with (first
    | (refine wpList_load_row rfl 70 _ rfl (w.heap.size + 1 + 1) rfl 70 A (0, 0) _ HLD.out Try.underlying70 rfl HL.out ?_)
    | (refine wpList_store_row rfl 70 _ _ rfl (w.heap.size + 1) A rfl rfl 70 z HST.out HL.out HL0.out.symm hone ?_))
  exact bodyPost_ret (v := .agg A) (results_cell_row rfl _ _ (w.heap.size + 1) 70 A (0, 0) _ rfl HFIN.out Try.underlying70 rfl HL.out) rfl ⟨by rw [HEQ.out], HEND.out⟩

set_option maxHeartbeats 1000000 in
set_option maxRecDepth 100000 in
theorem text_any (l : List UInt8) (hl : l.length = 64) (w : World) : Calls Try.prog 33 #[.agg (ar l)] w (TextB ⟨l.toArray⟩ w) := by
  have hback := run_convert_bytes_back (P := Try.prog) (w.alloc (.cells (ar l) 70)) 46 9 5 ⟨w.heap.size, 0, none⟩ 64 l Try.underlying46 Try.underlying5 Try.underlying9 (by
    intro j hj
    rw [addr_at]
    exact (Row.made w l).cell hj)
  rw [hl] at hback
  generalize ar l = A at hback
  go_enter Try.func33, Try.ntmps33
  go_wp2
  go_ret
  exact ⟨rfl, al _ _⟩
/-- What 64 bytes tell, a head's or not. -/
def tellN (l : List UInt8) : Int × Int × Int := (((l.getD 5 0).toNat : Int), wrap64 (num (cut l 6 8) : Nat), wrap64 (num (cut l 14 4) : Nat))
def ToldB (x : Int × Int × Int) (w : World) (e : Ending) (w' : World) : Prop := e = .returned (.agg #[.int .i64 x.1, .int .i64 x.2.1, .int .i64 x.2.2]) ∧ Below w.heap.size w w'
set_option maxHeartbeats 1000000 in
set_option maxRecDepth 100000 in
theorem tells_any (l : List UInt8) (hl : l.length = 64) (w : World) : Calls Try.prog 64 #[.agg (ar l)] w (ToldB (tellN l) w) := by
  have hrow := (Row.made w l).below (al _ (.cells #[.int .i64 0, .int .i64 0, .int .i64 0] 58))
  have hbox := Box.made (w.alloc (.cells (ar l) 70)) [.int .i64 0, .int .i64 0, .int .i64 0] 58
  simp only [World.size_alloc] at hbox
  have hbe : Below w.heap.size w ((w.alloc (.cells (ar l) 70)).alloc (.cells #[.int .i64 0, .int .i64 0, .int .i64 0] 58)) := below_trans (al _ _) (al _ _)
  have HR := Lib.hid hrow
  have HX := Lib.hid hbox
  have HB := Lib.hid hbe
  clear hrow hbox hbe
  obtain ⟨x5, hx5⟩ : ∃ x, l.getD 5 0 = x := ⟨_, rfl⟩
  obtain ⟨n1, hn1⟩ : ∃ n, wrap64 (num (cut l 6 8) : Nat) = n := ⟨_, rfl⟩
  obtain ⟨n2, hn2⟩ : ∃ n, wrap64 (num (cut l 14 4) : Nat) = n := ⟨_, rfl⟩
  have ht : tellN l = ((x5.toNat : Int), n1, n2) := by unfold tellN; rw [hx5, hn1, hn2]
  have HC1 := Lib.hid (fun (W : World) (h : Row w.heap.size l W) => hn1 ▸ readNumber_any (o := 6) (k := 8) (cap := 58) h (by omega) (by omega))
  have HC2 := Lib.hid (fun (W : World) (h : Row w.heap.size l W) => hn2 ▸ readNumber_any (o := 14) (k := 4) (cap := 50) h (by omega) (by omega))
  have hc5 : ∀ W, Row w.heap.size l W → W.cell? ⟨w.heap.size, 5, none⟩ = some (.int .u8 (x5.toNat : Int)) := fun W h => by
    rw [h.cell (by omega), ← hx5, List.getD, List.getElem?_eq_getElem (by omega)]; rfl
  have HC5 := Lib.hid hc5
  rw [ht]
  clear hc5 ht hx5 hn1 hn2
  go_enter Try.func64, Try.ntmps64
  go_upto_region 1 with (fail)
  generalize (w.alloc (.cells (ar l) 70)).alloc (.cells #[.int .i64 0, .int .i64 0, .int .i64 0] 58) = W at HR HX HB ⊢
  generalize ar l = A
  have c5 := HC5.out _ HR.out
  have hb5 := x5.toNat_lt
  have hw5 : IntKind.i64.wrap (x5.toNat : Int) = x5.toNat := IntWalk.i64_in _ (by omega)
  have HZ := Lib.hid (HX.out.st3 (.int .i64 (x5.toNat : Int)) (.int .i64 n1) (.int .i64 n2)).c3
  have HRd : Hid (Row w.heap.size l W.drew) := HR.out
  obtain ⟨c0, c1, c2⟩ := HX.out.c3
  obtain ⟨f0, f1, f2⟩ := HX.out.f3
  go_region_with ((first
    | (go_at_call 76; (with_reducible refine (HC1.out _ HRd.out).mono ?_); rintro e x ⟨rfl, rfl⟩)
    | (go_at_call 76; (with_reducible refine (HC2.out _ HRd.out).mono ?_); rintro e x ⟨rfl, rfl⟩)))
  all_goals go_wp2_with fail
  all_goals
    obtain ⟨z0, z1, z2⟩ := HZ.out
    exact bodyPost_ret (v := .agg #[.int .i64 (x5.toNat : Int), .int .i64 n1, .int .i64 n2]) (by simp [results, Try.results64, go_sem, z0, z1, z2]) rfl ⟨rfl, (below_st3 HB.out (by omega) _ _ _).drew⟩
end Go.Proofs.Ytndakbjmahkjdaa.Disk.Jn

/-
  Contracts of mayBe, headAt and newest (package journal): which sector is a head, and which is the newest.
-/
namespace Go.Proofs.Ytndakbjmahkjdaa.Disk.Jn
open Go.ChangeShapes Go.WideShapes Go.ChangeAt Go.RowKit Go.Lib

theorem cells3 (w : World) (h s u : Int) (vS vW : Value) :
    Box w.heap.size [.int .i64 h, .int .i64 s, .int .i64 u] ((w.alloc (.cells #[.int .i64 h, .int .i64 s, .int .i64 u] 58)).alloc (.cells #[vS, vW] 25)) ∧
    Box (w.heap.size + 1) [vS, vW] ((w.alloc (.cells #[.int .i64 h, .int .i64 s, .int .i64 u] 58)).alloc (.cells #[vS, vW] 25)) ∧
    Below w.heap.size w ((w.alloc (.cells #[.int .i64 h, .int .i64 s, .int .i64 u] 58)).alloc (.cells #[vS, vW] 25)) := by
  have h1 := Box.made (w.alloc (.cells #[.int .i64 h, .int .i64 s, .int .i64 u] 58)) [vS, vW] 25
  simp only [World.size_alloc] at h1
  exact ⟨(Box.made w [.int .i64 h, .int .i64 s, .int .i64 u] 58).below (al _ _), h1, below_trans (al _ _) (al _ _)⟩
set_option maxHeartbeats 1000000 in
set_option maxRecDepth 100000 in
theorem mayBe_any (a : Option Addr) (n cap : Nat) (vW : Value) (h s u : Int) (w : World) (h2 : 2 ≤ n) (hn : n ≤ 1000) :
    Calls Try.prog 65 #[.agg #[.int .i64 h, .int .i64 s, .int .i64 u], .agg #[.slice a n cap, vW]] w (BoolB (decide (h ≤ 1) && decide (1 ≤ s) && decide (s ≤ 1099511627776) && decide (u ≤ roomN n)) w) := by
  have HA := Lib.hid (cells3 w h s u (.slice a n cap) vW)
  have HRM := Lib.hid (fun W => room_any a n cap vW W h2 hn)
  obtain ⟨b, hb⟩ : ∃ b : Bool, (decide (h ≤ 1) && decide (1 ≤ s) && decide (s ≤ 1099511627776) && decide (u ≤ roomN n)) = b := ⟨_, rfl⟩
  have HBB := Lib.hid hb
  rw [hb]
  clear hb
  go_enter Try.func65, Try.ntmps65
  go_upto_region 1 with (fail)
  generalize ((w.alloc (.cells #[.int .i64 h, .int .i64 s, .int .i64 u] 58)).alloc (.cells #[.slice a n cap, vW] 25)) = W at HA ⊢
  obtain ⟨c0, c1, c2⟩ := HA.out.1.c3
  obtain ⟨d0, d1⟩ := HA.out.2.1.c2
  by_cases g1 : h ≤ 1
  case neg =>
    have e1 : decide (h ≤ 1) = false := by simpa using g1
    go_quiet (fail)
    go_wp2_with fail
    go_ret
    exact ⟨ret_bool (by rw [← HBB.out, e1]; simp), below_trans HA.out.2.2 (below_dn _ _)⟩
  have e1 : decide (h ≤ 1) = true := by simpa using g1
  by_cases g2 : 1 ≤ s
  case neg =>
    have e2 : decide (1 ≤ s) = false := by simpa using g2
    go_quiet (fail)
    go_wp2_with fail
    go_ret
    exact ⟨ret_bool (by rw [← HBB.out, e2]; simp), below_trans HA.out.2.2 (below_dn _ _)⟩
  have e2 : decide (1 ≤ s) = true := by simpa using g2
  by_cases g3 : s ≤ 1099511627776
  case neg =>
    have e3 : decide (s ≤ 1099511627776) = false := by simpa using g3
    go_quiet (fail)
    go_wp2_with fail
    go_ret
    exact ⟨ret_bool (by rw [← HBB.out, e3]; simp), below_trans HA.out.2.2 (below_dn _ _)⟩
  have e3 : decide (s ≤ 1099511627776) = true := by simpa using g3
  have HE : Hid (b = decide (u ≤ roomN n)) := by unfold Hid; rw [← HBB.out, e1, e2, e3]; simp
  go_region_held3 (fun w' => w'.cell? ⟨w.heap.size, 0, none⟩ = some (.int .i64 h) ∧ w'.cell? ⟨w.heap.size, 1, none⟩ = some (.int .i64 s) ∧ w'.cell? ⟨w.heap.size, 2, none⟩ = some (.int .i64 u) ∧ w'.cell? ⟨w.heap.size + 1, 0, none⟩ = some (.slice a n cap) ∧ w'.cell? ⟨w.heap.size + 1, 1, none⟩ = some vW)
    (first | exact ⟨c0, c1, c2, d0, d1⟩ | exact ⟨x0, x1, x2, y0, y1⟩ | fail)
    (first | (go_at_call 52; (with_reducible refine (HRM.out _).mono ?_); rintro e x ⟨rfl, hx⟩; have HX := Lib.hid (below_trans ((Below.refl _ _).drew) hx); obtain ⟨x0, x1, x2⟩ := (HA.out.1.below HX.out).c3; obtain ⟨y0, y1⟩ := (HA.out.2.1.below HX.out).c2; clear hx) | fail)
  go_wp2_with fail
  go_ret
  exact ⟨ret_bool HE.out.symm, below_trans HA.out.2.2 HX.out⟩
end Go.Proofs.Ytndakbjmahkjdaa.Disk.Jn

/-
  Contracts of headAt and newest (package journal): which sector is a head, and which is the newest.
-/
namespace Go.Proofs.Ytndakbjmahkjdaa.Disk.Jn
open Go.ChangeShapes Go.WideShapes Go.ChangeAt Go.RowKit Go.Lib

theorem plainByte : Try.prog.plainKey 5 = true := by kernel_rfl
theorem cellsByte : Try.prog.cellsOf 5 = 1 := by kernel_rfl
theorem guardHead : Try.prog.eqGuardType Try.prog.depth 70 = false := by kernel_rfl
theorem eqItems_bytes (d : Nat) (l l' : List UInt8) (w : World) : ∀ is : List Nat, (∀ i ∈ is, i < l.length ∧ i < l'.length) → (Op.eqItems (d + 1) 5 1 (ar l) (ar l') is).run Try.prog w = .ok (decide (∀ i ∈ is, l[i]? = l'[i]?)) w
  | [], _ => by simp [Op.eqItems]
  | i :: is, h => by
    obtain ⟨h1, h2⟩ := h i (by simp)
    have p1 := run_part_plain (P := Try.prog) w plainByte (xs := ar l) (off := i * 1) (v := .int .u8 (l[i].toNat : Int)) (by rw [Nat.mul_one, ar_at, List.getElem?_eq_getElem h1]; rfl)
    have p2 := run_part_plain (P := Try.prog) w plainByte (xs := ar l') (off := i * 1) (v := .int .u8 (l'[i].toNat : Int)) (by rw [Nat.mul_one, ar_at, List.getElem?_eq_getElem h2]; rfl)
    have p3 := run_equalIn_int (P := Try.prog) w d 5 .u8 .u8 (l[i].toNat : Int) (l'[i].toNat : Int) Try.underlying5
    have ih := eqItems_bytes d l l' w is (fun j hj => h j (by simp [hj]))
    simp only [Op.eqItems, Sem.run_bind, p1, p2, p3, Result.andThen_ok]
    by_cases e : l[i] = l'[i]
    · have hb : ((l[i].toNat : Int) == (l'[i].toNat : Int)) = true := by rw [e]; simp
      have key : decide (∀ j ∈ is, l[j]? = l'[j]?) = decide (∀ j ∈ i :: is, l[j]? = l'[j]?) := decide_eq_decide.2 (by simp [List.getElem?_eq_getElem h1, List.getElem?_eq_getElem h2, e])
      rw [hb, ← key]
      simp only [Bool.not_true, Bool.false_eq_true, if_false, ih]
    · have hb : ((l[i].toNat : Int) == (l'[i].toNat : Int)) = false := by
        rw [beq_eq_false_iff_ne]
        intro c
        exact e (UInt8.toNat_inj.1 (by omega))
      have key : decide (∀ j ∈ i :: is, l[j]? = l'[j]?) = false := by
        rw [decide_eq_false_iff_not]
        intro c
        have := c i (by simp)
        rw [List.getElem?_eq_getElem h1, List.getElem?_eq_getElem h2] at this
        exact e (Option.some.inj this)
      rw [hb, key]
      simp only [Bool.not_false, if_true, Sem.run_pure]
theorem run_neq_head {l l' : List UInt8} (h : l.length = 64) (h' : l'.length = 64) (w : World) : (binOp .neq 70 (.agg (ar l)) (.agg (ar l'))).run Try.prog w = .ok (.bool (!decide (l = l'))) w := by
  obtain ⟨i, hi⟩ := info_of_underlying Try.underlying5
  rw [run_neq_struct, run_equalIn_array w 9999 (ar l) (ar l') Try.underlying70 hi, cellsByte, eqItems_bytes 9998 l l' w _ (fun i hi => by rw [List.mem_range] at hi; omega)]
  have e : decide (∀ i ∈ List.range 64, l[i]? = l'[i]?) = decide (l = l') := by
    apply decide_eq_decide.2
    constructor
    · intro e
      apply List.ext_getElem?
      intro i
      by_cases hi : i < 64
      · exact e i (List.mem_range.2 hi)
      · rw [List.getElem?_eq_none (by omega), List.getElem?_eq_none (by omega)]
    · rintro rfl i _
      rfl
  rw [e]
  rfl

theorem tell_head {n : Nat} {t : Told} (hn : n ≤ 1000) (h : mayP n t) : tellN (headL t) = ((t.half : Int), (t.seals : Int), (t.used : Int)) := by
  obtain ⟨h1, h2, h3, h4⟩ := h
  have e1 : cut (headL t) 6 8 = low t.seals 8 := by
    have : (headL t).drop 6 = low t.seals 8 ++ ((low t.used 4 ++ List.replicate 14 0) ++ halfL t) := by simp [headL, halfL]
    unfold cut
    rw [this, List.take_left' (low_len _ _)]
  have e2 : cut (headL t) 14 4 = low t.used 4 := by
    have : (headL t).drop 14 = low t.used 4 ++ (List.replicate 14 0 ++ halfL t) := by
      simp only [headL, halfL, List.append_assoc, List.cons_append, List.nil_append, List.drop_succ_cons]
      rw [List.drop_left' (low_len _ _)]
    unfold cut
    rw [this, List.take_left' (low_len _ _)]
  have e3 : (headL t).getD 5 0 = UInt8.ofNat t.half := rfl
  unfold roomN hsN at h4
  unfold tellN
  rw [e1, e2, e3, num_low, num_low]
  unfold wrap64
  simp only [Prod.mk.injEq]
  refine ⟨by simp; omega, by omega, by omega⟩

/-- What is told, or nothing. -/
def tv : Option Told → Value
  | some t => .agg #[.int .i64 t.half, .int .i64 t.seals, .int .i64 t.used]
  | none => .agg #[.int .i64 0, .int .i64 0, .int .i64 0]
def HeadE (o : Option Told) (w : World) (e : Ending) (w' : World) : Prop := e = .returned (.tuple #[tv o, .bool o.isSome]) ∧ Below w.heap.size w w'

/-- How it is found out whether a sector is a head. -/
theorem head_looks {n p : Nat} {s : ByteArray} (hn : n ≤ 1000) (hs : s.size = 64) {h x u : Int} (he : tellN s.data.toList = (h, x, u)) {o : Option Told} (ho : ∀ t, o = some t ↔ IsHead n p s t) :
    ((decide (h ≤ 1) && decide (1 ≤ x) && decide (x ≤ 1099511627776) && decide (u ≤ roomN n)) = false ∧ o = none) ∨
    ∃ t, mayP n t ∧ h = t.half ∧ x = t.seals ∧ u = t.used ∧ ((t.seals % 2 ≠ p ∧ o = none) ∨ (t.seals % 2 = p ∧ s.data.toList ≠ headL t ∧ o = none) ∨ (t.seals % 2 = p ∧ s.data.toList = headL t ∧ o = some t)) := by
  have hnone : (∀ t, ¬ IsHead n p s t) → o = none := fun h => by
    cases o with
    | none => rfl
    | some t => exact absurd ((ho t).1 rfl) (h t)
  have htell : ∀ t, IsHead n p s t → h = t.half ∧ x = t.seals ∧ u = t.used := fun t ht => by
    have := tell_head hn ht.1
    rw [← headB_list, ← ht.2.2, he] at this
    simpa using this
  have h0 : 0 ≤ h := by
    have := congrArg Prod.fst he
    simp only [tellN] at this
    omega
  have u0 : 0 ≤ u := by
    have := congrArg (fun q => q.2.2) he
    simp only [tellN] at this
    have hl := num_lt (cut s.data.toList 14 4)
    rw [cut_len (by rw [Go.Proofs.Ytndakbjmahkjdaa.Frame.size_list]; omega)] at hl
    unfold wrap64 at this
    omega
  by_cases hm : h ≤ 1 ∧ 1 ≤ x ∧ x ≤ 1099511627776 ∧ u ≤ roomN n
  · right
    obtain ⟨t, e1, e2, e3⟩ : ∃ t : Told, h = t.half ∧ x = t.seals ∧ u = t.used := ⟨⟨h.toNat, x.toNat, u.toNat⟩, by simp; omega, by simp; omega, by simp; omega⟩
    have hmay : mayP n t := ⟨by omega, by omega, by omega, by omega⟩
    have huni : ∀ t', IsHead n p s t' → t' = t := fun t' ht' => by
      obtain ⟨g1, g2, g3⟩ := htell t' ht'
      cases t; cases t'
      simp only [Told.mk.injEq]
      simp only at *
      omega
    refine ⟨t, hmay, e1, e2, e3, ?_⟩
    by_cases hp : t.seals % 2 = p
    · right
      by_cases hl : s.data.toList = headL t
      · right
        exact ⟨hp, hl, (ho t).2 ⟨hmay, hp, same_bytes (by rw [hl, headB_list])⟩⟩
      · left
        refine ⟨hp, hl, hnone fun t' ht' => hl ?_⟩
        have := huni t' ht'
        subst this
        rw [ht'.2.2, headB_list]
    · left
      refine ⟨hp, hnone fun t' ht' => hp ?_⟩
      have := huni t' ht'
      subst this
      exact ht'.2.1
  · left
    refine ⟨?_, hnone fun t' ht' => hm ?_⟩
    · rw [Bool.eq_false_iff]
      intro hc
      simp only [Bool.and_eq_true, decide_eq_true_eq] at hc
      exact hm ⟨hc.1.1.1, hc.1.1.2, hc.1.2, hc.2⟩
    · obtain ⟨g1, g2, g3⟩ := htell t' ht'
      obtain ⟨m1, m2, m3, m4⟩ := ht'.1
      exact ⟨by omega, by omega, by omega, by omega⟩
end Go.Proofs.Ytndakbjmahkjdaa.Disk.Jn
