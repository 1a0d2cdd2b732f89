/-
  Joined: FrmRef, DiskRef, DiskRefC, DiskLike.
-/
import Derived.Test.YtlpkalfbcphkmaaGreatMo
import Derived.Deep.RegionHeld3
import Derived.Test.YtlpkalfbcphkmaaGreatMc
import Derived.Test.YtlpkalfbcphkmaaGreatMa

/-
  Contracts of the reference's Frame, Whole and Scan (layer 4), and of strings.HasPrefix.
-/
namespace Go.Proofs.YtlpkalfbcphkmaaGreat.Frame
open Go.ChangeShapes Go.WideShapes Go.ChangeAt Go.RowKit Go.Lib
open Go.Proofs.YtlpkalfbcphkmaaGreat.Crc (four crcOn crcOn_lt refOf_any refBytes_any)

set_option maxHeartbeats 1000000 in
set_option maxRecDepth 100000 in
theorem refFrame_any (d : ByteArray) (w : World) (h : d.size ≤ 4096) : Calls Tryz.prog 22 #[.string d] w (Text ⟨(frm d).toArray⟩ w) := by
  obtain ⟨c, HC⟩ : ∃ c, Hid (crcOn 0 d.data.toList = c) := ⟨_, rfl⟩
  have hc : c < 4294967296 := HC.out ▸ crcOn_lt (by omega) _
  obtain ⟨a, HA⟩ : ∃ a : ByteArray, Hid ((⟨(digs (fold d.size)).toArray⟩ : ByteArray) = a) := ⟨_, rfl⟩
  obtain ⟨z, HZ⟩ : ∃ z : ByteArray, Hid ((⟨(four c).toArray⟩ : ByteArray) = z) := ⟨_, rfl⟩
  obtain ⟨f, HFm⟩ : ∃ f : ByteArray, Hid ((⟨(frm d).toArray⟩ : ByteArray) = f) := ⟨_, rfl⟩
  have HF : Hid (a ++ d ++ z = f) := by
    unfold Hid
    rw [← HA.out, ← HZ.out, ← HFm.out]
    exact same_bytes (by simp [frm, HC.out])
  have h9 : a.size ≤ 9 := by
    have := digs_len9 (fold d.size) (by rw [fold_nat]; omega)
    rw [← HA.out, mk_size]; exact this
  have h4 : z.size ≤ 4 := by rw [← HZ.out, mk_size]; exact Nat.le_of_eq (four_len c)
  have HN : Hid (∀ W, Calls Tryz.prog 51 #[.int .i64 (d.size : Int)] W (Text a W)) := fun W => HA.out ▸ RefNumber_any (d.size : Int) W (by omega) (by omega)
  have HO : Hid (∀ W, Calls Tryz.prog 53 #[.string d] W fun e W' => e = .returned (.int .u32 c) ∧ W = W') := fun W => HC.out ▸ refOf_any d (by unfold maxLen; omega) W
  have HB : Hid (∀ W, Calls Tryz.prog 52 #[.int .u32 c] W (Text z W)) := fun W => HZ.out ▸ refBytes_any c hc W
  rw [HFm.out]
  clear HC HA HZ HFm
  go_enter Tryz.func22, Tryz.ntmps22
  go_wp2_with fail
  refine (HN.out _).mono ?_
  rintro e w1 ⟨rfl, hb1⟩
  have HB1 := Lib.hid hb1
  clear hb1
  go_wp2_with fail
  refine (HO.out _).mono ?_
  rintro e w2 ⟨rfl, rfl⟩
  go_wp2_with fail
  refine (HB.out _).mono ?_
  rintro e w3 ⟨rfl, hb3⟩
  have HB3 := Lib.hid hb3
  clear hb3
  go_wp2_with fail
  rw [HF.out]
  go_ret
  exact ⟨rfl, below_trans HB1.out HB3.out⟩

theorem scn_no {s : ByteArray} {l : List ByteArray} {t : ByteArray} (h : Scn s l t) (hn : No s) : l = [] := (scn_det h (.done s hn)).1
theorem scn_is {s d r : ByteArray} {l : List ByteArray} {t : ByteArray} (h : Scn s l t) (hi : Is s d r) : ∃ l', l = d :: l' ∧ Scn r l' t := by
  cases h with
  | done _ hn => exact absurd hi (hn _ _)
  | more _ d' r' l' _ hi' hr =>
    obtain ⟨rfl, rfl⟩ := is_det hi hi'
    exact ⟨l', rfl, hr⟩

theorem owns_below {B : Nat} {e : TypeId} {n : Nat} {v : Value} {xs : List Value} {w w' : World} (h : w.ownsRow B e 1 v n xs) (hb : Below w.heap.size w w') : w'.ownsRow B e 1 v n xs := h.kept (grown_of_below hb) (by cases hv : v.ownBlock <;> simp)

theorem row_snoc {w wr w1 : World} {v v' : Value} {l : List ByteArray} {t : ByteArray} {o : Obj} (hown : wr.ownsRow w.heap.size 9 1 v l.length (scells l)) (hnx : Below w.heap.size w wr)
    (hown' : w1.ownsRow w.heap.size 9 1 v' (l.length + 1) (scells l ++ [.string t])) (hgrow : (wr.alloc o).grownBy w1 v.ownBlock) :
    w1.ownsRow w.heap.size 9 1 v' (l ++ [t]).length (scells (l ++ [t])) ∧ Below w.heap.size w w1 := by
  have hs := hnx.size
  exact ⟨by rw [scells_snoc]; simpa using hown', (hnx.alloc hs o).grown hgrow (by simp; omega) (fun j hj => (hown.lt j hj).1)⟩
theorem grown_cell {W w1 : World} {o : Obj} {row : Option Nat} {b j : Nat} {c : Value} (hg : (W.alloc o).grownBy w1 row) (hb : b < W.heap.size) (hne : some b ≠ row) (hc : W.cell? ⟨b, j, none⟩ = some c) : w1.cell? ⟨b, j, none⟩ = some c :=
  (World.cell?_of_block (a := ⟨b, j, none⟩) ((hg.block b (by simp; omega) hne).trans (Below.heap_alloc _ _ _ hb))).trans hc

/-- What stands at the head of the reference's loop. -/
def RefScanI (w : World) (total : List ByteArray) (z : Nat) (t : ByteArray) (rest out : Value) (wr : World) : Prop :=
  ∃ (s' : ByteArray) (l l' : List ByteArray), rest = .string s' ∧ s'.size ≤ z ∧ l ++ l' = total ∧ Scn s' l' t ∧ wr.ownsRow w.heap.size 9 1 out l.length (scells l) ∧ Below w.heap.size w wr

set_option maxHeartbeats 4000000 in
set_option maxRecDepth 100000 in
theorem refScan_any {s : ByteArray} {ls : List ByteArray} {t : ByteArray} (h : Scn s ls t) (hs : s.size ≤ 1000000) (w : World) :
    Calls Tryz.prog 38 #[.string s] w fun e w' => ∃ v, e = .returned v ∧ w'.ownsRow w.heap.size 9 1 v ls.length (scells ls) ∧ Below w.heap.size w w' := by
  obtain ⟨i0, hi, hz0, hz1, hz2⟩ := info_parts Tryz.info9
  have hll : ls.length ≤ 1000000 := by have := (scn_bytes h).2.2; omega
  have HH := Lib.hid h
  clear h
  go_enter Tryz.func38, Tryz.ntmps38
  go_wp2
  go_loopw [0, 3] (fun rest out wr => RefScanI w ls s.size t rest out wr) (fun rest _ _ => textLen rest)
  case atStart =>
    refine ⟨s, [], ls, rfl, Nat.le_refl _, rfl, HH.out, ?_, ?_⟩
    · exact World.ownsRow_made w #[] 0 (Nat.le_refl _) (by unfold maxLen; omega) rfl
    · exact (Below.refl _ w).alloc (Nat.le_refl _) _
  case round =>
    obtain ⟨s', l, l', rfl, hsz, htot, hsc, hown, hnx⟩ := hrel
    have HT := Lib.hid htot
    have HSC := Lib.hid hsc
    have HO := Lib.hid hown
    have HN := Lib.hid hnx
    have hls : l.length ≤ ls.length := by rw [← htot]; simp
    clear htot hsc hown hnx
    by_cases h0 : s'.size = 0
    · have hl' : l' = [] := by
        have := (scn_bytes HSC.out).2.2
        exact List.length_eq_zero_iff.1 (by omega)
      have hle : l = ls := by rw [← HT.out, hl', List.append_nil]
      have HL := Lib.hid hle
      clear hle hl' hls
      go_wp2
      go_ret
      exact ⟨_, rfl, by rw [← HL.out]; exact HO.out, HN.out⟩
    · obtain ⟨n, r, b, hr, hlk⟩ := looks s'
      have HR := Lib.hid (fun W => RefRead_rd hr (by unfold maxLen; omega) W)
      have hrs := rd_size hr
      have hsm : r.size ≤ 9223372036854775807 := by omega
      rcases hlk with ⟨h1, hno⟩ | ⟨rfl, h1, hno⟩ | ⟨rfl, h1, hno⟩ | ⟨k, rfl, rfl, h1, h2, hno⟩ | ⟨k, rfl, rfl, h1, h2, hne, hno⟩ | ⟨k, rfl, rfl, h1, h2, heq, his⟩
      · have HL := Lib.hid (show l = ls by rw [← HT.out, scn_no HSC.out hno, List.append_nil])
        have hx : (b != 0) = true := by simpa using h1
        clear hno h1 hr
        go_wp2_with (go_at_call 71; (with_reducible refine (HR.out _).mono ?_); rintro e x1 ⟨rfl, hx1⟩)
        go_ret
        exact ⟨_, rfl, by rw [← HL.out]; exact (owns_below HO.out hx1).alloc _, below_trans HN.out (below_trans hx1 ((Below.refl _ _).alloc (Nat.le_refl _) _))⟩
      iterate 3
        have HL := Lib.hid (show l = ls by rw [← HT.out, scn_no HSC.out hno, List.append_nil])
        clear hno hr
        go_wp2_with (go_at_call 71; (with_reducible refine (HR.out _).mono ?_); rintro e x1 ⟨rfl, hx1⟩)
        go_ret
        exact ⟨_, rfl, by rw [← HL.out]; exact (owns_below HO.out hx1).alloc _, below_trans HN.out (below_trans hx1 ((Below.refl _ _).alloc (Nat.le_refl _) _))⟩
      · have HL := Lib.hid (show l = ls by rw [← HT.out, scn_no HSC.out hno, List.append_nil])
        obtain ⟨c, HC⟩ : ∃ c, Hid (crcOn 0 (r.extract 0 k).data.toList = c) := ⟨_, rfl⟩
        have hc : c < 4294967296 := HC.out ▸ crcOn_lt (by omega) _
        obtain ⟨z, HZ⟩ : ∃ z : ByteArray, Hid ((⟨(four c).toArray⟩ : ByteArray) = z) := ⟨_, rfl⟩
        have hds : (r.extract 0 k).size ≤ maxLen := by unfold maxLen; rw [ByteArray.size_extract]; omega
        have HOf : Hid (∀ W, Calls Tryz.prog 53 #[.string (r.extract 0 k)] W fun e W' => e = .returned (.int .u32 c) ∧ W = W') := fun W => HC.out ▸ refOf_any _ hds W
        have HBy : Hid (∀ W, Calls Tryz.prog 52 #[.int .u32 c] W (Text z W)) := fun W => HZ.out ▸ refBytes_any c hc W
        rw [HC.out, HZ.out] at hne
        have HNE := Lib.hid (bytes_no hne)
        clear hno hr hne hds HC HZ
        go_wp2_with (go_at_call 71; (with_reducible refine (HR.out _).mono ?_); rintro e x1 ⟨rfl, hx1⟩)
        have hne := HNE.out
        have HX1 := Lib.hid hx1
        clear hx1
        generalize r.extract 0 k = d at HOf ⊢
        obtain ⟨q, hq⟩ : ∃ q, k + 4 = q := ⟨_, rfl⟩
        rw [hq] at hne
        have i1 : (0 : Int) ≤ (k : Int) := by omega
        have i2 : (k : Int) ≤ (q : Int) := by omega
        have i3 : (q : Int) ≤ (r.size : Int) := by omega
        have i4 : IntKind.i64.wrap ((k : Int) + 4) = (q : Int) := (IntWalk.i64_in _ (by omega)).trans (by omega)
        have i5 : wrap64 ((k : Int) + 4) = (q : Int) := (IntWalk.wrap64_in _ ⟨by omega, by omega⟩).trans (by omega)
        clear hq
        obtain ⟨p0, p1, -, -, -, -, hbz⟩ := three_cells (Below.refl _ (x1.alloc (.cells #[.int .i64 k, .string r, .int .i64 0] 106)))
        have hal := below_trans HX1.out ((Below.refl _ x1).alloc (Nat.le_refl _) (.cells #[.int .i64 k, .string r, .int .i64 0] 106))
        have HO1 := Lib.hid ((owns_below HO.out HX1.out).alloc (.cells #[.int .i64 k, .string r, .int .i64 0] 106))
        have HN1 := Lib.hid (below_trans HN.out hal)
        clear hal HX1 HO HN HR
        generalize x1.alloc (.cells #[.int .i64 k, .string r, .int .i64 0] 106) = X at p0 p1 hbz HO1 HN1 ⊢
        generalize x1.heap.size = bz at p0 p1 hbz ⊢
        generalize hyy : r.extract k q = y at hne
        go_region_held3 (fun w' => w'.cell? ⟨bz, 0, none⟩ = some (.int .i64 k) ∧ w'.cell? ⟨bz, 1, none⟩ = some (.string r)) (first | exact ⟨p0, p1⟩ | exact ⟨c0, c1⟩ | fail) ((first
          | (go_at_call 53; (with_reducible refine (HOf.out _).mono ?_); rintro e x2 ⟨rfl, rfl⟩)
          | (go_at_call 52; (with_reducible refine (HBy.out _).mono ?_); rintro e x3 ⟨rfl, hx3⟩; have c0 := (hx3.cell (p := ⟨bz, 0, none⟩) hbz).trans p0; have c1 := (hx3.cell (p := ⟨bz, 1, none⟩) hbz).trans p1)))
        go_wp2_with fail
        go_ret
        have hbx : Below X.heap.size X x3 := below_trans ((Below.refl _ X).drew) hx3
        exact ⟨_, rfl, by rw [← HL.out]; exact owns_below HO1.out hbx, below_trans HN1.out hbx⟩
      · obtain ⟨l2, hl2, hs2⟩ := scn_is HSC.out his
        have HL2 := Lib.hid hl2
        have HS2 := Lib.hid hs2
        have hll2 : l.length < ls.length := by rw [← HT.out, hl2]; simp
        have HQ1 : Hid ((r.extract (k + 4) r.size).size ≤ s.size) := by
          unfold Hid
          rw [ByteArray.size_extract]; omega
        have HQ2 : Hid (textLen (.string (r.extract (k + 4) r.size)) < textLen (.string s')) := by
          show (r.extract (k + 4) r.size).size < s'.size
          rw [ByteArray.size_extract]; omega
        clear hl2 hs2 hls
        obtain ⟨c, HC⟩ : ∃ c, Hid (crcOn 0 (r.extract 0 k).data.toList = c) := ⟨_, rfl⟩
        have hc : c < 4294967296 := HC.out ▸ crcOn_lt (by omega) _
        obtain ⟨z, HZ⟩ : ∃ z : ByteArray, Hid ((⟨(four c).toArray⟩ : ByteArray) = z) := ⟨_, rfl⟩
        have hds : (r.extract 0 k).size ≤ maxLen := by unfold maxLen; rw [ByteArray.size_extract]; omega
        have HOf : Hid (∀ W, Calls Tryz.prog 53 #[.string (r.extract 0 k)] W fun e W' => e = .returned (.int .u32 c) ∧ W = W') := fun W => HC.out ▸ refOf_any _ hds W
        have HBy : Hid (∀ W, Calls Tryz.prog 52 #[.int .u32 c] W (Text z W)) := fun W => HZ.out ▸ refBytes_any c hc W
        rw [HC.out, HZ.out] at heq
        clear his hr hds HC HZ
        go_wp2_with (go_at_call 71; (with_reducible refine (HR.out _).mono ?_); rintro e x1 ⟨rfl, hx1⟩)
        have HX1 := Lib.hid hx1
        clear hx1
        generalize r.extract 0 k = d at HOf HL2 ⊢
        obtain ⟨q, hq⟩ : ∃ q, k + 4 = q := ⟨_, rfl⟩
        rw [hq] at heq HS2 HQ1 HQ2
        subst heq
        have hee := bytes_yes (rfl : r.extract k q = r.extract k q)
        have i1 : (0 : Int) ≤ (k : Int) := by omega
        have i2 : (k : Int) ≤ (q : Int) := by omega
        have i3 : (q : Int) ≤ (r.size : Int) := by omega
        have i4 : IntKind.i64.wrap ((k : Int) + 4) = (q : Int) := (IntWalk.i64_in _ (by omega)).trans (by omega)
        have i5 : wrap64 ((k : Int) + 4) = (q : Int) := (IntWalk.wrap64_in _ ⟨by omega, by omega⟩).trans (by omega)
        clear hq
        obtain ⟨p0, p1, -, -, -, -, hbz⟩ := three_cells (Below.refl _ (x1.alloc (.cells #[.int .i64 k, .string r, .int .i64 0] 106)))
        have hal := below_trans HX1.out ((Below.refl _ x1).alloc (Nat.le_refl _) (.cells #[.int .i64 k, .string r, .int .i64 0] 106))
        have HO1 := Lib.hid ((owns_below HO.out HX1.out).alloc (.cells #[.int .i64 k, .string r, .int .i64 0] 106))
        have HN1 := Lib.hid (below_trans HN.out hal)
        have HOB := Lib.hid (fun j (hj : u3.ownBlock = some j) => ((owns_below HO.out HX1.out).lt j hj).2)
        clear hal HX1 HO HN HR
        generalize x1.alloc (.cells #[.int .i64 k, .string r, .int .i64 0] 106) = X at p0 p1 hbz HO1 HN1 ⊢
        generalize x1.heap.size = bz at p0 p1 hbz HOB ⊢
        generalize hyy : r.extract k q = y at hee HBy
        go_region_held3 (fun w' => w'.cell? ⟨bz, 0, none⟩ = some (.int .i64 k) ∧ w'.cell? ⟨bz, 1, none⟩ = some (.string r)) (first | exact ⟨p0, p1⟩ | exact ⟨c0, c1⟩ | fail) ((first
          | (go_at_call 53; (with_reducible refine (HOf.out _).mono ?_); rintro e x2 ⟨rfl, rfl⟩)
          | (go_at_call 52; (with_reducible refine (HBy.out _).mono ?_); rintro e x3 ⟨rfl, hx3⟩; have c0 := (hx3.cell (p := ⟨bz, 0, none⟩) hbz).trans p0; have c1 := (hx3.cell (p := ⟨bz, 1, none⟩) hbz).trans p1)))
        have HX3 := Lib.hid (below_trans ((Below.refl _ X).drew) hx3)
        have HO3 := Lib.hid (owns_below HO1.out HX3.out)
        have HN3 := Lib.hid (below_trans HN1.out HX3.out)
        have hbz3 : bz < x3.heap.size := Nat.lt_of_lt_of_le hbz HX3.out.size
        have hne3 : some bz ≠ u3.ownBlock := fun h => by have := HOB.out bz h.symm; omega
        have HG := Lib.hid (fun (w1 : World) (o : Obj) (hg : (x3.alloc o).grownBy w1 u3.ownBlock) => And.intro (grown_cell hg hbz3 hne3 c0) (grown_cell hg hbz3 hne3 c1))
        have hns := HN3.out.size
        clear hx3 p0 p1 c0 c1 HOB HO1 HN1 hne3
        go_wp2_with (at_builtin; refine wpList_append_own _ rfl _ _ 22 rfl w.heap.size 9 i0 (.string ⟨#[]⟩) 1 16 Tryz.underlying22 hi hz0 hz1 hz2 rfl (by decide) _ _ _ rfl (HO3.out.alloc _) ⟨x3.heap.size, 0, none⟩ 1 1 [.string d] rfl rfl ?c1 ?c2 ?c3 ?c4 ?c5 ?_)
        case c1 =>
          intro j y hj
          match j, hj with
          | 0, hj => simp at hj; subst hj; simp [Addr.add]
        case c2 => intro y hy; simp at hy; subst hy; rfl
        case c3 => unfold maxLen; omega
        case c4 => omega
        case c5 => simp; omega
        intro v' w1 hown' hgrow _
        have R := row_snoc HO3.out HN3.out hown' hgrow
        obtain ⟨c0, c1⟩ := HG.out w1 _ hgrow
        have HR := Lib.hid R
        clear R hown' hgrow
        go_wp2
        go_roundw
        case rel => exact ⟨_, l ++ [d], l2, rfl, HQ1.out, by rw [List.append_assoc, ← HT.out, HL2.out]; rfl, HS2.out, HR.out.1, HR.out.2⟩
        case measure => exact HQ2.out

/-- The bytes of records, one behind the other. -/
def bytesOf (l : List ByteArray) : ByteArray := ⟨(frms l).toArray⟩
theorem bytesOf_snoc (ls : List ByteArray) (k : Nat) (h : k < ls.length) : bytesOf (ls.take k) ++ ⟨(frm ls[k]).toArray⟩ = bytesOf (ls.take (k + 1)) := by
  rw [List.take_succ_eq_append_getElem h, bytesOf, bytesOf, frms_snoc]
  apply same_bytes
  simp
theorem frms_take (ls : List ByteArray) (k : Nat) : (frms (ls.take k)).length ≤ (frms ls).length := by
  have := congrArg List.length (congrArg frms (List.take_append_drop k ls))
  rw [frms_append, List.length_append] at this
  omega

set_option maxHeartbeats 1000000 in
set_option maxRecDepth 100000 in
theorem Whole_any {v : Value} {ls : List ByteArray} {w : World} (hr : SRow w v ls) (hd : ∀ d ∈ ls, d.size ≤ 4096) (hs : (frms ls).length ≤ 1000000) (hl : ls.length ≤ 1000000) : Calls Tryz.prog 21 #[v] w (Text (bytesOf ls) w) := by
  rcases hr with ⟨rfl, rfl⟩ | ⟨g, cap, rfl, hc, hg, hcell⟩
  · go_enter Tryz.func21, Tryz.ntmps21
    go_wp2
    refine wp_loop_rounds 1 ?_
    rw [rounds_succ]
    go_wp2
    go_ret
    exact ⟨rfl, Below.refl _ _⟩
  · have HCE := Lib.hid hcell
    have HD := Lib.hid hd
    have HS := Lib.hid hs
    clear hcell hd hs
    go_enter Tryz.func21, Tryz.ntmps21
    go_wp2
    go_loopw [3, 8] (fun all i wr => ∃ k : Nat, k ≤ ls.length ∧ i = .int .i64 k ∧ all = .string (bytesOf (ls.take k)) ∧ Below w.heap.size w wr) (fun _ i _ => ls.length - (Go.RowKit.intOf i).toNat)
    case atStart => exact ⟨0, Nat.zero_le _, rfl, by simp [bytesOf, frms], Below.refl _ _⟩
    case round =>
      obtain ⟨k, hk, rfl, rfl, hnx⟩ := hrel
      by_cases hlt : k < ls.length
      · have hce := (hnx.cell (p := ⟨g, k, none⟩) hg).trans (HCE.out k hlt)
        have HF := Lib.hid (refFrame_any ls[k] wr (HD.out _ (List.getElem_mem hlt)))
        have HSN := Lib.hid (bytesOf_snoc ls k hlt)
        have hz1 : (bytesOf (ls.take k)).size ≤ 1000000 := Nat.le_trans (by rw [bytesOf, mk_size]; exact frms_take ls k) HS.out
        have hz2 : (⟨(frm ls[k]).toArray⟩ : ByteArray).size ≤ 5000 := by
          have h1 := HD.out _ (List.getElem_mem hlt)
          have := frm_le ls[k] h1
          rw [mk_size]; omega
        have HN := Lib.hid hnx
        clear hnx
        generalize ls[k] = x at hce HF HSN hz2
        generalize (⟨(frm x).toArray⟩ : ByteArray) = f at HF HSN hz2
        generalize bytesOf (ls.take k) = b at HSN hz1 ⊢
        go_wp2_with fail
        refine HF.out.mono ?_
        rintro e x1 ⟨rfl, hx1⟩
        have HX := Lib.hid hx1
        clear hx1
        go_wp2_with fail
        rw [HSN.out]
        go_roundw
        case rel => exact ⟨k + 1, by omega, by go_num, rfl, below_trans HN.out HX.out⟩
        case measure => simp [Go.RowKit.intOf]; omega
      · obtain rfl : k = ls.length := by omega
        rw [List.take_length]
        go_wp2
        go_ret
        exact ⟨rfl, hnx⟩

set_option maxHeartbeats 1000000 in
set_option maxRecDepth 100000 in
theorem HasPrefix_yes {s p : ByteArray} (h : s.extract 0 p.size = p) (hp : p.size ≤ s.size) (w : World) : Calls Tryz.prog 94 #[.string s, .string p] w (BoolB true w) := by
  go_enter Tryz.func94, Tryz.ntmps94
  go_wp2
  go_ret
  exact ⟨rfl, Below.refl _ _⟩
end Go.Proofs.YtlpkalfbcphkmaaGreat.Frame

/-
  Contracts of the reference's Get, Set and Crash: as the document says.
-/
namespace Go.Proofs.YtlpkalfbcphkmaaGreat.Disk
open Go.ChangeShapes Go.WideShapes Go.ChangeAt Go.RowKit Go.Lib

/-- What holds at the head of the reference's loop over the writes, as it reads. -/
def Reading (w : World) (i : Int) (acc : ByteArray) (ws : List (Int × ByteArray)) (vS vW : Value) (o k : Value) (wr : World) : Prop :=
  ∃ q : Nat, q ≤ ws.length ∧ k = .int .i64 q ∧ o = .string (rd i acc (ws.take q)) ∧ Box2 w.heap.size vS vW wr ∧ Below w.heap.size w wr

set_option maxHeartbeats 1000000 in
set_option maxRecDepth 100000 in
theorem refGet_any {vS vW : Value} {ls : List ByteArray} {ws : List (Int × ByteArray)} {w : World} (hS : SRow w vS ls) (hW : WRow w vW ws) (hlw : ws.length ≤ 1000) (i : Nat) (hi : i < ls.length) : Calls Tryz.prog 70 #[.agg #[vS, vW], .int .i64 i] w (TextB (rd i ls[i] ws) w) := by
  obtain ⟨aS, cap, rfl⟩ := hS.slice
  obtain ⟨aW, capW, rfl⟩ := hW.slice
  obtain ⟨g, rfl, hc, hg, hce⟩ := hS.at hi
  have HW := Lib.hid hW
  have hbx := Box2.made w (.slice (some ⟨g, 0, none⟩) ls.length cap) (.slice aW ws.length capW) 25
  clear hS hW
  go_enter Tryz.func70, Tryz.ntmps70
  have HBX := Lib.hid hbx
  clear hbx
  generalize hacc : ls[i] = acc at hce ⊢
  clear hacc
  go_wp2
  go_loopw [5, 16] (fun o k wr => Reading w i acc ws (.slice (some ⟨g, 0, none⟩) ls.length cap) (.slice aW ws.length capW) o k wr) (fun _ k _ => ws.length - (RowKit.intOf k).toNat)
  case atStart => exact ⟨0, Nat.zero_le _, rfl, by simp [rd], HBX.out, al _ _⟩
  case round =>
    obtain ⟨q, hq, rfl, rfl, hbx, hbe⟩ := hrel
    have HB := Lib.hid hbe
    have HBX := Lib.hid hbx
    by_cases hlt : q < ws.length
    · obtain ⟨gw, rfl, hcw, hgw, c1, c2⟩ := (HW.out.below hbe).at hlt
      have HST : Hid (rd i acc (ws.take (q + 1)) = if ws[q].1 = i then ws[q].2 else rd i acc (ws.take q)) := by
        unfold Hid
        rw [List.take_succ_eq_append_getElem hlt, rd_snoc]
      have HRS := Lib.hid (round_step (c0 := .int .i64 ws[q].1) (c1 := .string ws[q].2) (T := 59) hbx hbe (Below.refl _ _)).2
      clear hbe hbx
      generalize ws[q] = y at c1 c2 HST HRS
      obtain ⟨ya, yd⟩ := y
      dsimp only at c1 c2 HST HRS
      generalize rd i acc (ws.take q) = r at HST ⊢
      by_cases h : ya = (i : Int)
      · subst h
        go_wp2
        go_roundw
        case rel => exact ⟨q + 1, by omega, by go_num, by rw [HST.out, if_pos rfl], HRS.out⟩
        case measure => simp [RowKit.intOf]; omega
      · have HN := Lib.hid h
        go_wp2
        go_roundw
        case rel => exact ⟨q + 1, by omega, by go_num, by rw [HST.out, if_neg HN.out], HRS.out⟩
        case measure => simp [RowKit.intOf]; omega
    · obtain rfl : q = ws.length := by omega
      rw [List.take_of_length_le (Nat.le_refl _)]
      clear hbe hbx
      go_wp2
      go_ret
      exact ⟨rfl, HB.out⟩

/-- The rows of l, up to place a, and behind it. -/
theorem set_parts {l : List ByteArray} {a : Nat} (h : a < l.length) (t : ByteArray) : l.set a t = l.take a ++ [t] ++ l.drop (a + 1) := by
  rw [List.set_eq_take_append_cons_drop, if_pos h]
  simp

theorem addr_off (b off j : Nat) : (⟨b, off, none⟩ : Addr).add j = ⟨b, off + j, none⟩ := by
  unfold Addr.add
  split
  · rename_i h; subst h; rfl
  · rfl
theorem set_own {B : Nat} {v : Value} {l : List ByteArray} {a : Nat} {d : ByteArray} {w : World} (h : w.ownsRow B 9 1 v (a + 1 + (l.length - (a + 1))) (scells (l.take a) ++ Value.string d :: scells (l.drop (a + 1)))) (ha : a < l.length) : OwnS B v (l.set a d) w := by
  unfold OwnS
  have e1 : scells (l.set a d) = scells (l.take a) ++ Value.string d :: scells (l.drop (a + 1)) := by rw [set_parts ha]; simp [scells]
  have e2 : (l.set a d).length = a + 1 + (l.length - (a + 1)) := by rw [List.length_set]; omega
  rw [e1, e2]
  exact h

set_option maxHeartbeats 1000000 in
set_option maxRecDepth 100000 in
theorem refSet_any {v : Value} {l : List ByteArray} {w : World} (hS : SRow w v l) (hl : l.length ≤ 1000) (a : Nat) (ha : a < l.length) (d : ByteArray) : Calls Tryz.prog 61 #[v, .int .i64 a, .string d] w (NewS (l.set a d) w) := by
  obtain ⟨i0, hi, hz0, hz1, hz2⟩ := info_parts Tryz.infoS
  have HS := Lib.hid hS
  obtain ⟨aS, cap, rfl⟩ := hS.slice
  obtain ⟨g, rfl, hc, hg, _⟩ := hS.at ha
  clear hS
  have HB0 := Lib.hid (al w (.cells #[] 9))
  have HN0 : Hid (∀ j u, (scells (l.take a))[j]? = some u → (w.alloc (.cells #[] 9)).cell? ((⟨g, 0, none⟩ : Addr).add j) = some u) := fun j u hj => by
    have hjl : j < a := by
      have := (List.getElem?_eq_some_iff.1 hj).1
      rw [scells_len, List.length_take] at this
      omega
    refine (HS.out.below (al w _)).news j u ?_
    rw [← hj]
    simp [scells, hjl]
  go_enter Tryz.func61, Tryz.ntmps61
  go_wp2_with (at_builtin; refine wpList_append_own _ rfl _ _ 22 rfl w.heap.size 9 i0 (.string ⟨#[]⟩) 1 16 Tryz.underlying22 hi hz0 hz1 hz2 rfl (by decide) _ 0 [] rfl (World.ownsRow_made w #[] 0 (Nat.le_refl _) (Nat.zero_le _) rfl) ⟨g, 0, none⟩ a cap (scells (l.take a)) rfl ?c0 HN0.out (scells_one _) ?c3 ?c4 ?c5 ?_)
  case c0 => rw [scells_len, List.length_take]; omega
  case c3 => unfold maxLen; omega
  case c4 => omega
  case c5 => simp
  intro v1 w1 hown1 hgrow1 _
  have HB1 := Lib.hid (HB0.out.grown hgrow1 (by simp) (fun j hj => by cases hj; exact Nat.le_refl _) : Below w.heap.size w w1)
  have HO1 := Lib.hid hown1
  clear hown1 hgrow1 HB0 HN0
  have HN1 : Hid (∀ j u, [Value.string d][j]? = some u → (w1.alloc (.cells #[.string d] 9)).cell? ((⟨w1.heap.size, 0, none⟩ : Addr).add j) = some u) := World.news_of_block (cs := #[.string d]) (t := 9) (fr := (0, 0)) (heap_alloc_new w1 _)
  have hsz1 := HB1.out.size
  go_wp2_with (at_builtin; refine wpList_append_own _ rfl _ _ 22 rfl w.heap.size 9 i0 (.string ⟨#[]⟩) 1 16 Tryz.underlying22 hi hz0 hz1 hz2 rfl (by decide) v1 a (scells (l.take a)) rfl (World.ownsRow.alloc HO1.out _) ⟨w1.heap.size, 0, none⟩ 1 1 [.string d] rfl rfl HN1.out (by simp [Value.oneCell']) ?e3 ?e4 ?e5 ?_)
  case e3 => unfold maxLen; omega
  case e4 => omega
  case e5 => simp; omega
  intro v2 w2 hown2 hgrow2 _
  have HB2 := Lib.hid ((HB1.out.alloc hsz1 _).grown hgrow2 (by simp; omega) (fun j hj => (World.ownsRow.lt HO1.out j hj).1) : Below w.heap.size w w2)
  have HO2 := Lib.hid hown2
  clear hown2 hgrow2 HN1 HO1 HB1 hsz1
  by_cases hcap : a + 1 = cap
  · have HD : Hid (l.drop (a + 1) = []) := List.drop_of_length_le (by omega)
    subst hcap
    have hll : l.length = a + 1 := by omega
    go_wp2_with (at_builtin; refine wpList_append_own _ rfl _ _ 22 rfl w.heap.size 9 i0 (.string ⟨#[]⟩) 1 16 Tryz.underlying22 hi hz0 hz1 hz2 rfl (by decide) v2 (a + 1) (scells (l.take a) ++ [.string d]) rfl HO2.out ⟨g, 0, none⟩ 0 0 [] rfl rfl (by simp) (by simp) ?f3 ?f4 ?f5 ?_)
    case f3 => unfold maxLen; omega
    case f4 => omega
    case f5 => exact HB2.out.size
    intro v3 w3 hown3 hgrow3 _
    have HB3 := Lib.hid (HB2.out.grown hgrow3 HB2.out.size (fun j hj => (World.ownsRow.lt HO2.out j hj).1) : Below w.heap.size w w3)
    have HO3 : Hid (OwnS w.heap.size v3 (l.set a d) w3) := by
      refine set_own ?_ ha
      rw [HD.out]
      have e : a + 1 + (l.length - (a + 1)) = a + 1 := by omega
      rw [e]
      simpa [scells] using hown3
    clear hown3 hgrow3
    go_wp2
    go_ret
    exact ⟨_, rfl, HO3.out, HB3.out⟩
  · have HN2 : Hid (∀ j u, (scells (l.drop (a + 1)))[j]? = some u → w2.cell? ((⟨g, a + 1, none⟩ : Addr).add j) = some u) := fun j u hj => by
      have hjl : a + 1 + j < l.length := by
        have := (List.getElem?_eq_some_iff.1 hj).1
        rw [scells_len, List.length_drop] at this
        omega
      rw [addr_off]
      have := (HS.out.below HB2.out).news (a + 1 + j) u (by rw [← hj]; simp [scells])
      rwa [addr_at] at this
    go_wp2_with (at_builtin; refine wpList_append_own _ rfl _ _ 22 rfl w.heap.size 9 i0 (.string ⟨#[]⟩) 1 16 Tryz.underlying22 hi hz0 hz1 hz2 rfl (by decide) v2 (a + 1) (scells (l.take a) ++ [.string d]) rfl HO2.out ⟨g, a + 1, none⟩ (l.length - (a + 1)) (cap - (a + 1)) (scells (l.drop (a + 1))) rfl ?h0 HN2.out (scells_one _) ?h3 ?h4 ?h5 ?_)
    case h0 => rw [scells_len, List.length_drop, Nat.mul_one]
    case h3 => unfold maxLen; omega
    case h4 => omega
    case h5 => exact HB2.out.size
    intro v3 w3 hown3 hgrow3 _
    have HB3 := Lib.hid (HB2.out.grown hgrow3 HB2.out.size (fun j hj => (World.ownsRow.lt HO2.out j hj).1) : Below w.heap.size w w3)
    have HO3 := Lib.hid (set_own hown3 ha)
    clear hown3 hgrow3
    go_wp2
    go_ret
    exact ⟨_, rfl, HO3.out, HB3.out⟩
end Go.Proofs.YtlpkalfbcphkmaaGreat.Disk

/-
  Contract of the reference's Crash: the sectors that the document says.
-/
namespace Go.Proofs.YtlpkalfbcphkmaaGreat.Disk
open Go.ChangeShapes Go.WideShapes Go.ChangeAt Go.RowKit Go.Lib

/-- A disk is returned. -/
def DiskD (ls : List ByteArray) (ws : List (Int × ByteArray)) (w : World) (e : Ending) (w' : World) : Prop :=
  ∃ vS vW, e = .returned (.agg #[vS, vW]) ∧ SRow w' vS ls ∧ WRow w' vW ws ∧ Below w.heap.size w w'

/-- The last that was lost, as the reference counts it. -/
def lastI (kp : Nat) (k : Nat) : Int := match lostO kp k with | none => -1 | some r => r
theorem lastI_bit {kp k : Nat} (h : bitB kp k = true) : lastI kp (k + 1) = lastI kp k := by unfold lastI; rw [show lostO kp (k + 1) = lostO kp k from if_pos h]
theorem lastI_not {kp k : Nat} (h : ¬ bitB kp k = true) : lastI kp (k + 1) = k := by unfold lastI; rw [show lostO kp (k + 1) = some k from if_neg h]
/-- The slice does not lie in block b. -/
def Off (b : Nat) (v : Value) : Prop := ∀ g o n cap, v = .slice (some ⟨g, o, none⟩) n cap → g ≠ b
theorem From.off {B b : Nat} {v : Value} (h : From B v) (hb : b < B) : Off b v := fun g o n cap e => by have := h g o n cap e; omega
theorem SRow.off {w : World} {v : Value} {ls : List ByteArray} (h : SRow w v ls) {b : Nat} (hb : w.heap.size ≤ b) : Off b v := fun g o n cap e => by
  rcases h with ⟨rfl, _⟩ | ⟨g', cap', rfl, _, hg, _⟩
  · cases e
  · cases e; omega
theorem SRow.storedOff {w : World} {b i : Nat} {v u : Value} {ls : List ByteArray} (h : SRow w v ls) (hf : Off b v) : SRow (w.setCell ⟨b, i, none⟩ u) v ls :=
  h.setBelow fun g n cap e => hf g 0 n cap e

theorem torn_cat {d s : ByteArray} {n : Nat} (hd : d.size = 64) (hs : s.size = 64) (hn : n ≤ 64) : d.extract 0 n ++ s.extract n 64 = torn s d n := by
  apply ByteArray.ext
  apply Array.toList_inj.1
  have hl : (d.data.toList.take n).length = n := by rw [List.length_take, bytes_size]; omega
  have hb := bytes_size s
  unfold torn over
  rw [hl]
  simp [ByteArray.data_extract]
  rw [List.take_of_length_le (by simp; omega)]

/-- What holds at the head of the reference's loop, as it crashes. -/
def Crashing (w : World) (kp : Nat) (ls : List ByteArray) (ws : List (Int × ByteArray)) (vS vW : Value) (v la i : Value) (wr : World) : Prop :=
  ∃ (k : Nat) (a : Option Addr) (cap : Nat), k ≤ ws.length ∧ i = .int .i64 k ∧ la = .int .i64 (lastI kp k) ∧ v = .slice a ls.length cap ∧ SRow wr v (keepTo kp ls ws k) ∧ Off (w.heap.size + 1) v ∧ D2 w vS vW wr

theorem refCrash_end {w W : World} {vS vW v : Value} {L : List ByteArray} (hD : D2 w vS vW W) (hS : SRow W v L) (hO : Off (w.heap.size + 1) v) :
    Box2 (w.heap.size + 1) v (.slice none 0 0) (d2St w W v (.slice none 0 0)) ∧ SRow (d2St w W v (.slice none 0 0)) v L ∧ Below w.heap.size w (d2St w W v (.slice none 0 0)) :=
  ⟨(hD.stored v (.slice none 0 0)).1, (hS.storedOff hO).storedOff hO, (hD.stored v (.slice none 0 0)).2⟩

set_option maxHeartbeats 2000000 in
set_option maxRecDepth 100000 in
theorem refCrash_any {vS vW : Value} {ls : List ByteArray} {ws : List (Int × ByteArray)} {w : World} (hS : SRow w vS ls) (hW : WRow w vW ws) (hb : rightB ls ws = true) (kp : Nat) (hkp : kp < 18446744073709551616) (t : Int) : Calls Tryz.prog 28 #[.agg #[vS, vW], .int .u64 kp, .int .i64 t] w (DiskD (crashL kp ls ws t) [] w) := by
  have hP := rightB_t.1 hb
  obtain ⟨aS, cap, rfl⟩ := hS.slice
  obtain ⟨aW, capW, rfl⟩ := hW.slice
  have HD := Lib.hid (D2.made w (.slice aS ls.length cap) (.slice aW ws.length capW))
  have HS := Lib.hid hS
  have HW := Lib.hid hW
  have HP := Lib.hid hP
  have hl1 := hP.1
  have hl2 := hP.2.1
  have hl3 := hP.2.2.1
  clear hS hW hP hb
  go_enter Tryz.func28, Tryz.ntmps28
  go_wp2_with fail
  go_loopw [7, 8, 17] (fun v la i wr => Crashing w kp ls ws (.slice aS ls.length cap) (.slice aW ws.length capW) v la i wr) (fun _ _ i _ => ws.length - (RowKit.intOf i).toNat)
  case atStart => exact ⟨0, aS, cap, Nat.zero_le _, rfl, rfl, rfl, HS.out.below HD.out.2.2, HS.out.off (by omega), HD.out⟩
  case round =>
    obtain ⟨k, av, capv, hk, rfl, rfl, rfl, hV, hO, hD⟩ := hrel
    clear HD
    have HD := Lib.hid hD
    have HV := Lib.hid hV
    have HOF := Lib.hid hO
    obtain ⟨⟨b0, b1, b2, b3, b4⟩, ⟨d0, d1, d2, d3, d4⟩, hbe⟩ := hD
    clear hV hO
    by_cases hlt : k < ws.length
    · obtain ⟨gw, rfl, hcw, hgw, c1, c2⟩ := (HW.out.below hbe).at hlt
      obtain ⟨y1, y2, y3⟩ := HP.out.2.2.2.2 k hlt
      obtain ⟨a, d, ha⟩ : ∃ (a : Nat) (d : ByteArray), ws[k] = ((a : Int), d) := ⟨ws[k].1.toNat, ws[k].2, by rw [Int.toNat_of_nonneg y1]⟩
      have HA := Lib.hid ha
      rw [ha] at c1 c2 y1 y2 y3
      dsimp only at c1 c2 y1 y2 y3
      have hal : a < ls.length := by omega
      have HI := Lib.hid (fun W => refKept_any kp k hkp (by omega) W)
      have hBn := al wr (.cells #[.int .i64 a, .string d] 59)
      have HDn := Lib.hid (HD.out.below hBn)
      have HVn := Lib.hid (HV.out.below hBn)
      clear hbe ha hBn
      by_cases hbit : bitB kp k = true
      · have HE : Hid (keepTo kp ls ws (k + 1) = (keepTo kp ls ws k).set a d) := by
          show (if bitB kp k = true then _ else _) = _
          rw [if_pos hbit, wat_at hlt, HA.out]
          rfl
        have HST := Lib.hid (refSet_any HVn.out (by rw [keepTo_len]; omega) a (by rw [keepTo_len]; exact hal) d)
        go_wp2_with (first
          | (go_at_call 60; refine (HI.out _).mono ?_; rintro e w2 ⟨rfl, rfl⟩; rw [hbit])
          | (go_at_call 61; refine HST.out.mono ?_; rintro e x ⟨v1, rfl, ho1, hx⟩; obtain ⟨a1, cap1, e1⟩ := ho1.row.slice; rw [List.length_set, keepTo_len] at e1; subst e1))
        have HOE := Lib.hid (And.intro (And.intro (show SRow x (.slice a1 ls.length cap1) (keepTo kp ls ws (k + 1)) by rw [HE.out]; exact ho1.row) ((from_ownS ho1).off (by simp; omega) : Off (w.heap.size + 1) (.slice a1 ls.length cap1))) (HDn.out.below hx))
        clear ho1 hx
        go_roundw
        case rel => exact ⟨k + 1, a1, cap1, by omega, by go_num, by rw [lastI_bit hbit], rfl, HOE.out.1.1, HOE.out.1.2, HOE.out.2⟩
        case measure => simp [RowKit.intOf]; omega
      · have HE : Hid (keepTo kp ls ws (k + 1) = keepTo kp ls ws k) := if_neg hbit
        have HLN := Lib.hid (lastI_not hbit)
        go_wp2_with (go_at_call 60; refine (HI.out _).mono ?_; rintro e w2 ⟨rfl, rfl⟩; rw [Bool.eq_false_iff.2 hbit])
        go_roundw
        case rel => exact ⟨k + 1, av, capv, by omega, by go_num, by rw [HLN.out], rfl, by rw [HE.out]; exact HVn.out, HOF.out, HDn.out⟩
        case measure => simp [RowKit.intOf]; omega
    · obtain rfl : k = ws.length := by omega
      have HE := Lib.hid (refCrash_end HD.out HV.out HOF.out)
      rcases hlo : lostO kp ws.length with _ | r
      · have HL2 : Hid (crashL kp ls ws t = keepTo kp ls ws ws.length) := by unfold Hid crashL; rw [hlo]
        have hla : lastI kp ws.length = -1 := by unfold lastI; rw [hlo]
        rw [hla]
        clear hbe
        go_wp2_with fail
        obtain ⟨⟨z0, z1, z2, _⟩, z3, z4⟩ := HE.out
        unfold d2St at z0 z1 z2
        exact bodyPost_ret (v := .agg #[.slice av ls.length capv, .slice none 0 0]) (by simp [results, Tryz.results28, go_sem, z1, z2]) rfl ⟨_, _, rfl, by rw [HL2.out]; exact z3, .inl ⟨rfl, rfl⟩, z4⟩
      · have hrl : r < ws.length := lostO_lt hlo
        have hla : lastI kp ws.length = (r : Int) := by unfold lastI; rw [hlo]
        rw [hla]
        by_cases ht : 0 < t ∧ t < 64
        · obtain ⟨gw, rfl, hcw, hgw, c1, c2⟩ := (HW.out.below hbe).at hrl
          obtain ⟨y1, y2, y3⟩ := HP.out.2.2.2.2 r hrl
          obtain ⟨a, d, ha⟩ : ∃ (a : Nat) (d : ByteArray), wat ws r = ((a : Int), d) := ⟨ws[r].1.toNat, ws[r].2, by rw [Int.toNat_of_nonneg y1, wat_at hrl]⟩
          have HL2 : Hid (crashL kp ls ws t = (keepTo kp ls ws ws.length).set a (torn ((keepTo kp ls ws ws.length).getD a ⟨#[]⟩) d t.toNat)) := by
            unfold Hid crashL
            rw [hlo]
            dsimp only
            rw [if_pos ht, ha]
            rfl
          rw [wat_at hrl] at ha
          rw [ha] at c1 c2 y1 y2 y3
          dsimp only at c1 c2 y1 y2 y3
          obtain ⟨tn, rfl⟩ : ∃ tn : Nat, t = tn := ⟨t.toNat, by omega⟩
          obtain ⟨t1, t2⟩ := ht
          have hal : a < (keepTo kp ls ws ws.length).length := by rw [keepTo_len]; omega
          have hals : a < ls.length := by omega
          have hB := al wr (.cells #[.int .i64 a, .string d] 59)
          have HDn := Lib.hid (HD.out.below hB)
          have HVn := Lib.hid (HV.out.below hB)
          have HBn := Lib.hid (Box2.made wr (.int .i64 a) (.string d) 59)
          clear hbe ha hB hla hlo
          go_upto_region 12 with (fail)
          clear b0 b1 b2 b3 b4 d0 d1 d2 d3 d4 c1 c2
          generalize wr.alloc (.cells #[.int .i64 a, .string d] 59) = X at HDn HVn HBn ⊢
          generalize wr.heap.size = zb at HBn ⊢
          obtain ⟨q0, q1, q2, _, _⟩ := HBn.out
          obtain ⟨gv, rfl, hcv, hgv, cv⟩ := SRow.at (show SRow X (.slice av (keepTo kp ls ws ws.length).length capv) (keepTo kp ls ws ws.length) by rw [keepTo_len]; exact HVn.out) hal
          have hsz : ((keepTo kp ls ws ws.length)[a]).size = 64 := keepTo_size HP.out _ (Nat.le_refl _) _
          have HGD : Hid ((keepTo kp ls ws ws.length).getD a ⟨#[]⟩ = (keepTo kp ls ws ws.length)[a]) := getD_eq hal
          rw [keepTo_len] at hcv
          generalize (keepTo kp ls ws ws.length)[a] = old at cv hsz HGD
          have i0 : (0 : Int) ≤ (tn : Int) := by omega
          have i1 : (tn : Int) ≤ 64 := by omega
          have i2 : tn ≤ 64 := by omega
          have i3 : ¬ (tn : Int) < 0 := by omega
          have i4 : ¬ (64 : Int) < (tn : Int) := by omega
          have i5 : (tn : Int) ≠ 64 := by omega
          have hcd : (d.extract 0 tn).size = tn := by rw [ByteArray.size_extract]; omega
          have hco : (old.extract tn 64).size = 64 - tn := by rw [ByteArray.size_extract]; omega
          have HSE := Lib.hid (refSet_any (w := X.drew) (HVn.out.below ((Below.refl _ X).drew)) (by rw [keepTo_len]; omega) a hal (d.extract 0 tn ++ old.extract tn 64))
          go_region_held3 (fun w' => w'.cell? ⟨zb, 0, none⟩ = some (.int .i64 a) ∧ w'.cell? ⟨zb, 1, none⟩ = some (.string d) ∧ w'.cell? ⟨gv, a, none⟩ = some (.string old)) (first | exact ⟨q1, q2, cv⟩ | exact ⟨p1, p2, p3⟩ | fail)
            (first | (go_at_call 61; (with_reducible refine HSE.out.mono ?_); rintro e x2 ⟨v1, rfl, ho1, hx2⟩; obtain ⟨a1, cap1, e1⟩ := ho1.row.slice; rw [List.length_set, keepTo_len] at e1; subst e1; have HX2 := Lib.hid (below_trans ((Below.refl _ X).drew) hx2 : Below X.heap.size X x2); have HO1 := Lib.hid ho1; have p1 := (HBn.out.below HX2.out).2.1; have p2 := (HBn.out.below HX2.out).2.2.1; have p3 := (HX2.out.cell (p := ⟨gv, a, none⟩) hgv).trans cv; clear ho1 hx2) | fail)
          have HFE := Lib.hid (refCrash_end (HDn.out.below HX2.out) HO1.out.row ((from_ownS HO1.out).off HDn.out.2.1.1))
          obtain ⟨⟨b0, b1, b2, b3, b4⟩, ⟨d0, d1, d2, d3, d4⟩, hbe⟩ := HDn.out.below HX2.out
          have HTC := Lib.hid (torn_cat y3 hsz i2)
          clear p1 p2 p3 q0 q1 q2 cv hbe i0 i1 i2 i3 i4 i5 hcd hco
          go_wp2_with fail
          obtain ⟨⟨z0, z1, z2, _⟩, z3, z4⟩ := HFE.out
          unfold d2St at z0 z1 z2
          exact bodyPost_ret (v := .agg #[.slice a1 ls.length cap1, .slice none 0 0]) (by simp [results, Tryz.results28, go_sem, z1, z2]) rfl ⟨_, _, rfl, by rw [HL2.out, HGD.out, Int.toNat_natCast, ← HTC.out]; exact z3, .inl ⟨rfl, rfl⟩, z4⟩
        · have HL2 : Hid (crashL kp ls ws t = keepTo kp ls ws ws.length) := by
            unfold Hid crashL
            rw [hlo]
            dsimp only
            rw [if_neg ht]
          clear hbe hla
          by_cases ht1 : 0 < t
          · have ht2 : ¬ t < 64 := fun h => ht ⟨ht1, h⟩
            clear ht
            go_wp2_with fail
            obtain ⟨⟨z0, z1, z2, _⟩, z3, z4⟩ := HE.out
            unfold d2St at z0 z1 z2
            exact bodyPost_ret (v := .agg #[.slice av ls.length capv, .slice none 0 0]) (by simp [results, Tryz.results28, go_sem, z1, z2]) rfl ⟨_, _, rfl, by rw [HL2.out]; exact z3, .inl ⟨rfl, rfl⟩, z4⟩
          · clear ht
            go_wp2_with fail
            obtain ⟨⟨z0, z1, z2, _⟩, z3, z4⟩ := HE.out
            unfold d2St at z0 z1 z2
            exact bodyPost_ret (v := .agg #[.slice av ls.length capv, .slice none 0 0]) (by simp [results, Tryz.results28, go_sem, z1, z2]) rfl ⟨_, _, rfl, by rw [HL2.out]; exact z3, .inl ⟨rfl, rfl⟩, z4⟩
end Go.Proofs.YtlpkalfbcphkmaaGreat.Disk

/-
  Contract of the reference's Like: two disks that hold the same are alike.
-/
namespace Go.Proofs.YtlpkalfbcphkmaaGreat.Disk
open Go.ChangeShapes Go.WideShapes Go.ChangeAt Go.RowKit Go.Lib

/-- At the head of Like's loops: the two boxes; nothing that lay has turned. -/
def Alike (w : World) (n : Nat) (aS aW bS bW : Value) (i : Value) (wr : World) : Prop :=
  ∃ k : Nat, k ≤ n ∧ i = .int .i64 k ∧ Box2 w.heap.size aS aW wr ∧ Box2 (w.heap.size + 1) bS bW wr ∧ Below w.heap.size w wr
theorem drawn_below (w : World) (n : Nat) : Below w.heap.size w (w.drewN n) := ⟨rfl, rfl, rfl, Nat.le_refl _, fun _ _ => rfl⟩

set_option maxHeartbeats 2000000 in
set_option maxRecDepth 100000 in
theorem Like_yes {aS aW bS bW : Value} {ls : List ByteArray} {ws : List (Int × ByteArray)} {w : World} (h1 : SRow w aS ls) (h2 : WRow w aW ws) (h3 : SRow w bS ls) (h4 : WRow w bW ws) (hl : ls.length ≤ 1000) (hw : ws.length ≤ 1000) : Calls Tryz.prog 27 #[.agg #[aS, aW], .agg #[bS, bW]] w (BoolB true w) := by
  obtain ⟨a1, c1, rfl⟩ := h1.slice
  obtain ⟨a2, c2, rfl⟩ := h2.slice
  obtain ⟨a3, c3, rfl⟩ := h3.slice
  obtain ⟨a4, c4, rfl⟩ := h4.slice
  have H1 := Lib.hid h1
  have H2 := Lib.hid h2
  have H3 := Lib.hid h3
  have H4 := Lib.hid h4
  have h0 : ∀ (W : World) o, Below W.heap.size W (W.alloc o) := fun W o => (Below.refl _ _).alloc (Nat.le_refl _) _
  have HB1 := Lib.hid ((Box2.made w (.slice a1 ls.length c1) (.slice a2 ws.length c2) 25).below (h0 _ (.cells #[.slice a3 ls.length c3, .slice a4 ws.length c4] 25)))
  have HB2 : Hid (Box2 (w.heap.size + 1) (.slice a3 ls.length c3) (.slice a4 ws.length c4) ((w.alloc (.cells #[.slice a1 ls.length c1, .slice a2 ws.length c2] 25)).alloc (.cells #[.slice a3 ls.length c3, .slice a4 ws.length c4] 25))) := by
    have := Box2.made (w.alloc (.cells #[.slice a1 ls.length c1, .slice a2 ws.length c2] 25)) (.slice a3 ls.length c3) (.slice a4 ws.length c4) 25
    simp only [World.size_alloc] at this
    exact this
  have HB3 := Lib.hid (below_trans (h0 w (.cells #[.slice a1 ls.length c1, .slice a2 ws.length c2] 25)) (h0 _ (.cells #[.slice a3 ls.length c3, .slice a4 ws.length c4] 25)))
  clear h0 h1 h2 h3 h4
  go_enter Tryz.func27, Tryz.ntmps27
  go_wp2
  go_loopw [26] (fun i wr => Alike w ls.length (.slice a1 ls.length c1) (.slice a2 ws.length c2) (.slice a3 ls.length c3) (.slice a4 ws.length c4) i wr) (fun i _ => ls.length - (RowKit.intOf i).toNat)
  case atStart => exact ⟨0, Nat.zero_le _, rfl, HB1.out, HB2.out, HB3.out⟩
  case round =>
    clear HB1 HB2 HB3
    obtain ⟨k, hk, rfl, hb1, hb2, hbe⟩ := hrel
    have HB1 := Lib.hid hb1
    have HB2 := Lib.hid hb2
    have HB3 := Lib.hid hbe
    obtain ⟨p0, p1, p2, p3, p4⟩ := hb1
    obtain ⟨q0, q1, q2, q3, q4⟩ := hb2
    by_cases hlt : k < ls.length
    · obtain ⟨g1, rfl, hc1, hg1, e1⟩ := (H1.out.below hbe).at hlt
      obtain ⟨g3, rfl, hc3, hg3, e3⟩ := (H3.out.below hbe).at hlt
      have i0 : (0 : Int) ≤ (k : Int) := by omega
      have i1 : (k : Int) < (ls.length : Int) := by omega
      generalize ls[k] = x at e1 e3
      clear hbe
      go_upto_region 6 with (fail)
      go_quiet (fail)
      have HD1 := Lib.hid (HB1.out.below (drawn_below wr nq))
      have HD2 := Lib.hid (HB2.out.below (drawn_below wr nq))
      have HD3 := Lib.hid (below_trans HB3.out (drawn_below wr nq))
      clear p0 p1 p2 p3 p4 q0 q1 q2 q3 q4 e1 e3 i0 i1
      go_wp2
      go_roundw
      case rel => exact ⟨k + 1, by omega, by go_num, HD1.out, HD2.out, HD3.out⟩
      case measure => simp [RowKit.intOf]; omega
    · clear hbe
      go_wp2
      go_loopw [44] (fun i wr => Alike w ws.length (.slice a1 ls.length c1) (.slice a2 ws.length c2) (.slice a3 ls.length c3) (.slice a4 ws.length c4) i wr) (fun i _ => ws.length - (RowKit.intOf i).toNat)
      case atStart => exact ⟨0, Nat.zero_le _, rfl, HB1.out, HB2.out, HB3.out⟩
      case round =>
        clear HB1 HB2 HB3 p0 p1 p2 p3 p4 q0 q1 q2 q3 q4
        obtain ⟨k, hk, rfl, hb1, hb2, hbe⟩ := hrel
        have HB1 := Lib.hid hb1
        have HB2 := Lib.hid hb2
        have HB3 := Lib.hid hbe
        obtain ⟨p0, p1, p2, p3, p4⟩ := hb1
        obtain ⟨q0, q1, q2, q3, q4⟩ := hb2
        by_cases hlt : k < ws.length
        · obtain ⟨g2, rfl, hc2, hg2, e1, e2⟩ := (H2.out.below hbe).at hlt
          obtain ⟨g4, rfl, hc4, hg4, e3, e4⟩ := (H4.out.below hbe).at hlt
          have i0 : (0 : Int) ≤ (k : Int) := by omega
          have i1 : (k : Int) < (ws.length : Int) := by omega
          generalize ws[k] = y at e1 e2 e3 e4
          obtain ⟨ya, yd⟩ := y
          dsimp only at e1 e2 e3 e4
          clear hbe
          go_upto_region 12 with (fail)
          go_quiet (fail)
          have HD1 := Lib.hid (HB1.out.below (drawn_below wr nq))
          have HD2 := Lib.hid (HB2.out.below (drawn_below wr nq))
          have HD3 := Lib.hid (below_trans HB3.out (drawn_below wr nq))
          clear p0 p1 p2 p3 p4 q0 q1 q2 q3 q4 e1 e2 e3 e4 i0 i1
          go_wp2
          go_roundw
          case rel => exact ⟨k + 1, by omega, by go_num, HD1.out, HD2.out, HD3.out⟩
          case measure => simp [RowKit.intOf]; omega
        · clear hbe
          go_wp2
          go_ret
          exact ⟨rfl, HB3.out⟩
end Go.Proofs.YtlpkalfbcphkmaaGreat.Disk
