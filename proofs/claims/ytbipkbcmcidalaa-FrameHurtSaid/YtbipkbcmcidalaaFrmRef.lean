/-
  Contracts of the reference's Frame, Whole and Scan (layer 4), and of strings.HasPrefix.
-/
import Derived.Test.YtbipkbcmcidalaaScan
import Derived.Deep.RegionHeld3
namespace Go.Proofs.Ytbipkbcmcidalaa.Frame
open Go.ChangeShapes Go.WideShapes Go.ChangeAt Go.RowKit Go.Lib
open Go.Proofs.Ytbipkbcmcidalaa.Crc (four crcOn crcOn_lt refOf_any refBytes_any)

set_option maxHeartbeats 1000000 in
set_option maxRecDepth 100000 in
theorem refFrame_any (d : ByteArray) (w : World) (h : d.size ≤ 4096) : Calls Try.prog 14 #[.string d] w (Text ⟨(frm d).toArray⟩ w) := by
  obtain ⟨c, HC⟩ : ∃ c, Hid (crcOn 0 d.data.toList = c) := ⟨_, rfl⟩
  have hc : c < 4294967296 := HC.out ▸ crcOn_lt (by omega) _
  obtain ⟨a, HA⟩ : ∃ a : ByteArray, Hid ((⟨(digs (fold d.size)).toArray⟩ : ByteArray) = a) := ⟨_, rfl⟩
  obtain ⟨z, HZ⟩ : ∃ z : ByteArray, Hid ((⟨(four c).toArray⟩ : ByteArray) = z) := ⟨_, rfl⟩
  obtain ⟨f, HFm⟩ : ∃ f : ByteArray, Hid ((⟨(frm d).toArray⟩ : ByteArray) = f) := ⟨_, rfl⟩
  have HF : Hid (a ++ d ++ z = f) := by
    unfold Hid
    rw [← HA.out, ← HZ.out, ← HFm.out]
    exact same_bytes (by simp [frm, HC.out])
  have h9 : a.size ≤ 9 := by
    have := digs_len9 (fold d.size) (by rw [fold_nat]; omega)
    rw [← HA.out, mk_size]; exact this
  have h4 : z.size ≤ 4 := by rw [← HZ.out, mk_size]; exact Nat.le_of_eq (four_len c)
  have HN : Hid (∀ W, Calls Try.prog 24 #[.int .i64 (d.size : Int)] W (Text a W)) := fun W => HA.out ▸ RefNumber_any (d.size : Int) W (by omega) (by omega)
  have HO : Hid (∀ W, Calls Try.prog 22 #[.string d] W fun e W' => e = .returned (.int .u32 c) ∧ W = W') := fun W => HC.out ▸ refOf_any d (by unfold maxLen; omega) W
  have HB : Hid (∀ W, Calls Try.prog 21 #[.int .u32 c] W (Text z W)) := fun W => HZ.out ▸ refBytes_any c hc W
  rw [HFm.out]
  clear HC HA HZ HFm
  go_enter Try.func14, Try.ntmps14
  go_wp2_with fail
  refine (HN.out _).mono ?_
  rintro e w1 ⟨rfl, hb1⟩
  have HB1 := Lib.hid hb1
  clear hb1
  go_wp2_with fail
  refine (HO.out _).mono ?_
  rintro e w2 ⟨rfl, rfl⟩
  go_wp2_with fail
  refine (HB.out _).mono ?_
  rintro e w3 ⟨rfl, hb3⟩
  have HB3 := Lib.hid hb3
  clear hb3
  go_wp2_with fail
  rw [HF.out]
  go_ret
  exact ⟨rfl, below_trans HB1.out HB3.out⟩

theorem scn_no {s : ByteArray} {l : List ByteArray} {t : ByteArray} (h : Scn s l t) (hn : No s) : l = [] := (scn_det h (.done s hn)).1
theorem scn_is {s d r : ByteArray} {l : List ByteArray} {t : ByteArray} (h : Scn s l t) (hi : Is s d r) : ∃ l', l = d :: l' ∧ Scn r l' t := by
  cases h with
  | done _ hn => exact absurd hi (hn _ _)
  | more _ d' r' l' _ hi' hr =>
    obtain ⟨rfl, rfl⟩ := is_det hi hi'
    exact ⟨l', rfl, hr⟩

theorem owns_below {B : Nat} {e : TypeId} {n : Nat} {v : Value} {xs : List Value} {w w' : World} (h : w.ownsRow B e 1 v n xs) (hb : Below w.heap.size w w') : w'.ownsRow B e 1 v n xs := h.kept (grown_of_below hb) (by cases hv : v.ownBlock <;> simp)

theorem row_snoc {w wr w1 : World} {v v' : Value} {l : List ByteArray} {t : ByteArray} {o : Obj} (hown : wr.ownsRow w.heap.size 9 1 v l.length (scells l)) (hnx : Below w.heap.size w wr)
    (hown' : w1.ownsRow w.heap.size 9 1 v' (l.length + 1) (scells l ++ [.string t])) (hgrow : (wr.alloc o).grownBy w1 v.ownBlock) :
    w1.ownsRow w.heap.size 9 1 v' (l ++ [t]).length (scells (l ++ [t])) ∧ Below w.heap.size w w1 := by
  have hs := hnx.size
  exact ⟨by rw [scells_snoc]; simpa using hown', (hnx.alloc hs o).grown hgrow (by simp; omega) (fun j hj => (hown.lt j hj).1)⟩
theorem grown_cell {W w1 : World} {o : Obj} {row : Option Nat} {b j : Nat} {c : Value} (hg : (W.alloc o).grownBy w1 row) (hb : b < W.heap.size) (hne : some b ≠ row) (hc : W.cell? ⟨b, j, none⟩ = some c) : w1.cell? ⟨b, j, none⟩ = some c :=
  (World.cell?_of_block (a := ⟨b, j, none⟩) ((hg.block b (by simp; omega) hne).trans (Below.heap_alloc _ _ _ hb))).trans hc

/-- What stands at the head of the reference's loop. -/
def RefScanI (w : World) (total : List ByteArray) (z : Nat) (t : ByteArray) (rest out : Value) (wr : World) : Prop :=
  ∃ (s' : ByteArray) (l l' : List ByteArray), rest = .string s' ∧ s'.size ≤ z ∧ l ++ l' = total ∧ Scn s' l' t ∧ wr.ownsRow w.heap.size 9 1 out l.length (scells l) ∧ Below w.heap.size w wr

set_option maxHeartbeats 4000000 in
set_option maxRecDepth 100000 in
theorem refScan_any {s : ByteArray} {ls : List ByteArray} {t : ByteArray} (h : Scn s ls t) (hs : s.size ≤ 1000000) (w : World) :
    Calls Try.prog 9 #[.string s] w fun e w' => ∃ v, e = .returned v ∧ w'.ownsRow w.heap.size 9 1 v ls.length (scells ls) ∧ Below w.heap.size w w' := by
  obtain ⟨i0, hi, hz0, hz1, hz2⟩ := info_parts Try.info9
  have hll : ls.length ≤ 1000000 := by have := (scn_bytes h).2.2; omega
  have HH := Lib.hid h
  clear h
  go_enter Try.func9, Try.ntmps9
  go_wp2
  go_loopw [0, 3] (fun rest out wr => RefScanI w ls s.size t rest out wr) (fun rest _ _ => textLen rest)
  case atStart =>
    refine ⟨s, [], ls, rfl, Nat.le_refl _, rfl, HH.out, ?_, ?_⟩
    · exact World.ownsRow_made w #[] 0 (Nat.le_refl _) (by unfold maxLen; omega) rfl
    · exact (Below.refl _ w).alloc (Nat.le_refl _) _
  case round =>
    obtain ⟨s', l, l', rfl, hsz, htot, hsc, hown, hnx⟩ := hrel
    have HT := Lib.hid htot
    have HSC := Lib.hid hsc
    have HO := Lib.hid hown
    have HN := Lib.hid hnx
    have hls : l.length ≤ ls.length := by rw [← htot]; simp
    clear htot hsc hown hnx
    by_cases h0 : s'.size = 0
    · have hl' : l' = [] := by
        have := (scn_bytes HSC.out).2.2
        exact List.length_eq_zero_iff.1 (by omega)
      have hle : l = ls := by rw [← HT.out, hl', List.append_nil]
      have HL := Lib.hid hle
      clear hle hl' hls
      go_wp2
      go_ret
      exact ⟨_, rfl, by rw [← HL.out]; exact HO.out, HN.out⟩
    · obtain ⟨n, r, b, hr, hlk⟩ := looks s'
      have HR := Lib.hid (fun W => RefRead_rd hr (by unfold maxLen; omega) W)
      have hrs := rd_size hr
      have hsm : r.size ≤ 9223372036854775807 := by omega
      rcases hlk with ⟨h1, hno⟩ | ⟨rfl, h1, hno⟩ | ⟨rfl, h1, hno⟩ | ⟨k, rfl, rfl, h1, h2, hno⟩ | ⟨k, rfl, rfl, h1, h2, hne, hno⟩ | ⟨k, rfl, rfl, h1, h2, heq, his⟩
      · have HL := Lib.hid (show l = ls by rw [← HT.out, scn_no HSC.out hno, List.append_nil])
        have hx : (b != 0) = true := by simpa using h1
        clear hno h1 hr
        go_wp2_with (go_at_call 20; (with_reducible refine (HR.out _).mono ?_); rintro e x1 ⟨rfl, hx1⟩)
        go_ret
        exact ⟨_, rfl, by rw [← HL.out]; exact (owns_below HO.out hx1).alloc _, below_trans HN.out (below_trans hx1 ((Below.refl _ _).alloc (Nat.le_refl _) _))⟩
      iterate 3
        have HL := Lib.hid (show l = ls by rw [← HT.out, scn_no HSC.out hno, List.append_nil])
        clear hno hr
        go_wp2_with (go_at_call 20; (with_reducible refine (HR.out _).mono ?_); rintro e x1 ⟨rfl, hx1⟩)
        go_ret
        exact ⟨_, rfl, by rw [← HL.out]; exact (owns_below HO.out hx1).alloc _, below_trans HN.out (below_trans hx1 ((Below.refl _ _).alloc (Nat.le_refl _) _))⟩
      · have HL := Lib.hid (show l = ls by rw [← HT.out, scn_no HSC.out hno, List.append_nil])
        obtain ⟨c, HC⟩ : ∃ c, Hid (crcOn 0 (r.extract 0 k).data.toList = c) := ⟨_, rfl⟩
        have hc : c < 4294967296 := HC.out ▸ crcOn_lt (by omega) _
        obtain ⟨z, HZ⟩ : ∃ z : ByteArray, Hid ((⟨(four c).toArray⟩ : ByteArray) = z) := ⟨_, rfl⟩
        have hds : (r.extract 0 k).size ≤ maxLen := by unfold maxLen; rw [ByteArray.size_extract]; omega
        have HOf : Hid (∀ W, Calls Try.prog 22 #[.string (r.extract 0 k)] W fun e W' => e = .returned (.int .u32 c) ∧ W = W') := fun W => HC.out ▸ refOf_any _ hds W
        have HBy : Hid (∀ W, Calls Try.prog 21 #[.int .u32 c] W (Text z W)) := fun W => HZ.out ▸ refBytes_any c hc W
        rw [HC.out, HZ.out] at hne
        have HNE := Lib.hid (bytes_no hne)
        clear hno hr hne hds HC HZ
        go_wp2_with (go_at_call 20; (with_reducible refine (HR.out _).mono ?_); rintro e x1 ⟨rfl, hx1⟩)
        have hne := HNE.out
        have HX1 := Lib.hid hx1
        clear hx1
        generalize r.extract 0 k = d at HOf ⊢
        obtain ⟨q, hq⟩ : ∃ q, k + 4 = q := ⟨_, rfl⟩
        rw [hq] at hne
        have i1 : (0 : Int) ≤ (k : Int) := by omega
        have i2 : (k : Int) ≤ (q : Int) := by omega
        have i3 : (q : Int) ≤ (r.size : Int) := by omega
        have i4 : IntKind.i64.wrap ((k : Int) + 4) = (q : Int) := (IntWalk.i64_in _ (by omega)).trans (by omega)
        have i5 : wrap64 ((k : Int) + 4) = (q : Int) := (IntWalk.wrap64_in _ ⟨by omega, by omega⟩).trans (by omega)
        clear hq
        obtain ⟨p0, p1, -, -, -, -, hbz⟩ := three_cells (Below.refl _ (x1.alloc (.cells #[.int .i64 k, .string r, .int .i64 0] 48)))
        have hal := below_trans HX1.out ((Below.refl _ x1).alloc (Nat.le_refl _) (.cells #[.int .i64 k, .string r, .int .i64 0] 48))
        have HO1 := Lib.hid ((owns_below HO.out HX1.out).alloc (.cells #[.int .i64 k, .string r, .int .i64 0] 48))
        have HN1 := Lib.hid (below_trans HN.out hal)
        clear hal HX1 HO HN HR
        generalize x1.alloc (.cells #[.int .i64 k, .string r, .int .i64 0] 48) = X at p0 p1 hbz HO1 HN1 ⊢
        generalize x1.heap.size = bz at p0 p1 hbz ⊢
        generalize hyy : r.extract k q = y at hne
        go_region_held3 (fun w' => w'.cell? ⟨bz, 0, none⟩ = some (.int .i64 k) ∧ w'.cell? ⟨bz, 1, none⟩ = some (.string r)) (first | exact ⟨p0, p1⟩ | exact ⟨c0, c1⟩ | fail) ((first
          | (go_at_call 22; (with_reducible refine (HOf.out _).mono ?_); rintro e x2 ⟨rfl, rfl⟩)
          | (go_at_call 21; (with_reducible refine (HBy.out _).mono ?_); rintro e x3 ⟨rfl, hx3⟩; have c0 := (hx3.cell (p := ⟨bz, 0, none⟩) hbz).trans p0; have c1 := (hx3.cell (p := ⟨bz, 1, none⟩) hbz).trans p1)))
        go_wp2_with fail
        go_ret
        have hbx : Below X.heap.size X x3 := below_trans ((Below.refl _ X).drew) hx3
        exact ⟨_, rfl, by rw [← HL.out]; exact owns_below HO1.out hbx, below_trans HN1.out hbx⟩
      · obtain ⟨l2, hl2, hs2⟩ := scn_is HSC.out his
        have HL2 := Lib.hid hl2
        have HS2 := Lib.hid hs2
        have hll2 : l.length < ls.length := by rw [← HT.out, hl2]; simp
        have HQ1 : Hid ((r.extract (k + 4) r.size).size ≤ s.size) := by
          unfold Hid
          rw [ByteArray.size_extract]; omega
        have HQ2 : Hid (textLen (.string (r.extract (k + 4) r.size)) < textLen (.string s')) := by
          show (r.extract (k + 4) r.size).size < s'.size
          rw [ByteArray.size_extract]; omega
        clear hl2 hs2 hls
        obtain ⟨c, HC⟩ : ∃ c, Hid (crcOn 0 (r.extract 0 k).data.toList = c) := ⟨_, rfl⟩
        have hc : c < 4294967296 := HC.out ▸ crcOn_lt (by omega) _
        obtain ⟨z, HZ⟩ : ∃ z : ByteArray, Hid ((⟨(four c).toArray⟩ : ByteArray) = z) := ⟨_, rfl⟩
        have hds : (r.extract 0 k).size ≤ maxLen := by unfold maxLen; rw [ByteArray.size_extract]; omega
        have HOf : Hid (∀ W, Calls Try.prog 22 #[.string (r.extract 0 k)] W fun e W' => e = .returned (.int .u32 c) ∧ W = W') := fun W => HC.out ▸ refOf_any _ hds W
        have HBy : Hid (∀ W, Calls Try.prog 21 #[.int .u32 c] W (Text z W)) := fun W => HZ.out ▸ refBytes_any c hc W
        rw [HC.out, HZ.out] at heq
        clear his hr hds HC HZ
        go_wp2_with (go_at_call 20; (with_reducible refine (HR.out _).mono ?_); rintro e x1 ⟨rfl, hx1⟩)
        have HX1 := Lib.hid hx1
        clear hx1
        generalize r.extract 0 k = d at HOf HL2 ⊢
        obtain ⟨q, hq⟩ : ∃ q, k + 4 = q := ⟨_, rfl⟩
        rw [hq] at heq HS2 HQ1 HQ2
        subst heq
        have hee := bytes_yes (rfl : r.extract k q = r.extract k q)
        have i1 : (0 : Int) ≤ (k : Int) := by omega
        have i2 : (k : Int) ≤ (q : Int) := by omega
        have i3 : (q : Int) ≤ (r.size : Int) := by omega
        have i4 : IntKind.i64.wrap ((k : Int) + 4) = (q : Int) := (IntWalk.i64_in _ (by omega)).trans (by omega)
        have i5 : wrap64 ((k : Int) + 4) = (q : Int) := (IntWalk.wrap64_in _ ⟨by omega, by omega⟩).trans (by omega)
        clear hq
        obtain ⟨p0, p1, -, -, -, -, hbz⟩ := three_cells (Below.refl _ (x1.alloc (.cells #[.int .i64 k, .string r, .int .i64 0] 48)))
        have hal := below_trans HX1.out ((Below.refl _ x1).alloc (Nat.le_refl _) (.cells #[.int .i64 k, .string r, .int .i64 0] 48))
        have HO1 := Lib.hid ((owns_below HO.out HX1.out).alloc (.cells #[.int .i64 k, .string r, .int .i64 0] 48))
        have HN1 := Lib.hid (below_trans HN.out hal)
        have HOB := Lib.hid (fun j (hj : u3.ownBlock = some j) => ((owns_below HO.out HX1.out).lt j hj).2)
        clear hal HX1 HO HN HR
        generalize x1.alloc (.cells #[.int .i64 k, .string r, .int .i64 0] 48) = X at p0 p1 hbz HO1 HN1 ⊢
        generalize x1.heap.size = bz at p0 p1 hbz HOB ⊢
        generalize hyy : r.extract k q = y at hee HBy
        go_region_held3 (fun w' => w'.cell? ⟨bz, 0, none⟩ = some (.int .i64 k) ∧ w'.cell? ⟨bz, 1, none⟩ = some (.string r)) (first | exact ⟨p0, p1⟩ | exact ⟨c0, c1⟩ | fail) ((first
          | (go_at_call 22; (with_reducible refine (HOf.out _).mono ?_); rintro e x2 ⟨rfl, rfl⟩)
          | (go_at_call 21; (with_reducible refine (HBy.out _).mono ?_); rintro e x3 ⟨rfl, hx3⟩; have c0 := (hx3.cell (p := ⟨bz, 0, none⟩) hbz).trans p0; have c1 := (hx3.cell (p := ⟨bz, 1, none⟩) hbz).trans p1)))
        have HX3 := Lib.hid (below_trans ((Below.refl _ X).drew) hx3)
        have HO3 := Lib.hid (owns_below HO1.out HX3.out)
        have HN3 := Lib.hid (below_trans HN1.out HX3.out)
        have hbz3 : bz < x3.heap.size := Nat.lt_of_lt_of_le hbz HX3.out.size
        have hne3 : some bz ≠ u3.ownBlock := fun h => by have := HOB.out bz h.symm; omega
        have HG := Lib.hid (fun (w1 : World) (o : Obj) (hg : (x3.alloc o).grownBy w1 u3.ownBlock) => And.intro (grown_cell hg hbz3 hne3 c0) (grown_cell hg hbz3 hne3 c1))
        have hns := HN3.out.size
        clear hx3 p0 p1 c0 c1 HOB HO1 HN1 hne3
        go_wp2_with (at_builtin; refine wpList_append_own _ rfl _ _ 25 rfl w.heap.size 9 i0 (.string ⟨#[]⟩) 1 16 Try.underlying25 hi hz0 hz1 hz2 rfl (by decide) _ _ _ rfl (HO3.out.alloc _) ⟨x3.heap.size, 0, none⟩ 1 1 [.string d] rfl rfl ?c1 ?c2 ?c3 ?c4 ?c5 ?_)
        case c1 =>
          intro j y hj
          match j, hj with
          | 0, hj => simp at hj; subst hj; simp [Addr.add]
        case c2 => intro y hy; simp at hy; subst hy; rfl
        case c3 => unfold maxLen; omega
        case c4 => omega
        case c5 => simp; omega
        intro v' w1 hown' hgrow _
        have R := row_snoc HO3.out HN3.out hown' hgrow
        obtain ⟨c0, c1⟩ := HG.out w1 _ hgrow
        have HR := Lib.hid R
        clear R hown' hgrow
        go_wp2
        go_roundw
        case rel => exact ⟨_, l ++ [d], l2, rfl, HQ1.out, by rw [List.append_assoc, ← HT.out, HL2.out]; rfl, HS2.out, HR.out.1, HR.out.2⟩
        case measure => exact HQ2.out

/-- The bytes of records, one behind the other. -/
def bytesOf (l : List ByteArray) : ByteArray := ⟨(frms l).toArray⟩
theorem bytesOf_snoc (ls : List ByteArray) (k : Nat) (h : k < ls.length) : bytesOf (ls.take k) ++ ⟨(frm ls[k]).toArray⟩ = bytesOf (ls.take (k + 1)) := by
  rw [List.take_succ_eq_append_getElem h, bytesOf, bytesOf, frms_snoc]
  apply same_bytes
  simp
theorem frms_take (ls : List ByteArray) (k : Nat) : (frms (ls.take k)).length ≤ (frms ls).length := by
  have := congrArg List.length (congrArg frms (List.take_append_drop k ls))
  rw [frms_append, List.length_append] at this
  omega

set_option maxHeartbeats 1000000 in
set_option maxRecDepth 100000 in
theorem Whole_any {v : Value} {ls : List ByteArray} {w : World} (hr : SRow w v ls) (hd : ∀ d ∈ ls, d.size ≤ 4096) (hs : (frms ls).length ≤ 1000000) (hl : ls.length ≤ 1000000) : Calls Try.prog 10 #[v] w (Text (bytesOf ls) w) := by
  rcases hr with ⟨rfl, rfl⟩ | ⟨g, cap, rfl, hc, hg, hcell⟩
  · go_enter Try.func10, Try.ntmps10
    go_wp2
    refine wp_loop_rounds 1 ?_
    rw [rounds_succ]
    go_wp2
    go_ret
    exact ⟨rfl, Below.refl _ _⟩
  · have HCE := Lib.hid hcell
    have HD := Lib.hid hd
    have HS := Lib.hid hs
    clear hcell hd hs
    go_enter Try.func10, Try.ntmps10
    go_wp2
    go_loopw [3, 8] (fun all i wr => ∃ k : Nat, k ≤ ls.length ∧ i = .int .i64 k ∧ all = .string (bytesOf (ls.take k)) ∧ Below w.heap.size w wr) (fun _ i _ => ls.length - (intOf i).toNat)
    case atStart => exact ⟨0, Nat.zero_le _, rfl, by simp [bytesOf, frms], Below.refl _ _⟩
    case round =>
      obtain ⟨k, hk, rfl, rfl, hnx⟩ := hrel
      by_cases hlt : k < ls.length
      · have hce := (hnx.cell (p := ⟨g, k, none⟩) hg).trans (HCE.out k hlt)
        have HF := Lib.hid (refFrame_any ls[k] wr (HD.out _ (List.getElem_mem hlt)))
        have HSN := Lib.hid (bytesOf_snoc ls k hlt)
        have hz1 : (bytesOf (ls.take k)).size ≤ 1000000 := Nat.le_trans (by rw [bytesOf, mk_size]; exact frms_take ls k) HS.out
        have hz2 : (⟨(frm ls[k]).toArray⟩ : ByteArray).size ≤ 5000 := by
          have h1 := HD.out _ (List.getElem_mem hlt)
          have := frm_le ls[k] h1
          rw [mk_size]; omega
        have HN := Lib.hid hnx
        clear hnx
        generalize ls[k] = x at hce HF HSN hz2
        generalize (⟨(frm x).toArray⟩ : ByteArray) = f at HF HSN hz2
        generalize bytesOf (ls.take k) = b at HSN hz1 ⊢
        go_wp2_with fail
        refine HF.out.mono ?_
        rintro e x1 ⟨rfl, hx1⟩
        have HX := Lib.hid hx1
        clear hx1
        go_wp2_with fail
        rw [HSN.out]
        go_roundw
        case rel => exact ⟨k + 1, by omega, by go_num, rfl, below_trans HN.out HX.out⟩
        case measure => simp [intOf]; omega
      · obtain rfl : k = ls.length := by omega
        rw [List.take_length]
        go_wp2
        go_ret
        exact ⟨rfl, hnx⟩

set_option maxHeartbeats 1000000 in
set_option maxRecDepth 100000 in
theorem HasPrefix_yes {s p : ByteArray} (h : s.extract 0 p.size = p) (hp : p.size ≤ s.size) (w : World) : Calls Try.prog 12 #[.string s, .string p] w (BoolB true w) := by
  go_enter Try.func12, Try.ntmps12
  go_wp2
  go_ret
  exact ⟨rfl, Below.refl _ _⟩
end Go.Proofs.Ytbipkbcmcidalaa.Frame
