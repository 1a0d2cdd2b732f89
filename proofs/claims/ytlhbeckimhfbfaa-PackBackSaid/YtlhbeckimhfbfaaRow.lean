/-
  Contract of Row of package pack: a row's bytes, or that it is too long.
-/
import Derived.Test.YtlhbeckimhfbfaaRowW
import Derived.Test.YtlhbeckimhfbfaaReadRow
import Derived.Lib.AppendStr
namespace Go.Proofs.Ytlhbeckimhfbfaa
open Go.ChangeShapes Go.WideShapes Go.ChangeAt Go.RowKit Go.Lib Go.Conc
set_option linter.unusedVariables false

set_option maxHeartbeats 1000000 in
set_option maxRecDepth 100000 in
theorem Row_nil (a : Option Addr) (cap : Nat) (w : World) : Calls Try.prog 18 #[.slice a 0 cap] w (TextI ⟨(enc []).toArray⟩ 0 w) := by
  have hmk := mkChan256
  have hcl := fun ats ty => run_close_open (P := Try.prog) (w := w.alloc (.chan 256 #[] false 0 0 false)) ats ty (heap_alloc_new _ _)
  go_enter Try.func18, Try.ntmps18
  go_wp2_with fail
  refine wp_loop_rounds 1 ?_
  rw [rounds_succ]
  go_wp2_with fail
  show Calls Try.prog 27 #[.slice none 0 0, .int .i64 0] ((w.alloc (.chan 256 #[] false 0 0 false)).setChan w.heap.size 256 #[] true 0 0 false) _
  have hch := heap_setChan (w.alloc (.chan 256 #[] false 0 0 false)) w.heap.size 256 #[] true 0 0 false (by simp)
  have hbe : Below w.heap.size w ((w.alloc (.chan 256 #[] false 0 0 false)).setChan w.heap.size 256 #[] true 0 0 false) := below_setChan ((Below.refl _ _).alloc (Nat.le_refl _) _) (Nat.le_refl _) _ _ _ _ _ _
  generalize (w.alloc (.chan 256 #[] false 0 0 false)).setChan w.heap.size 256 #[] true 0 0 false = W at hch hbe ⊢
  have hcs := lt_of_heap hch
  have HBE := Lib.hid hbe
  have HCH := Lib.hid hch
  clear hch hbe hmk hcl
  refine (appendNumber_any W.heap.size _ [] 0 W (by omega) (by omega) (World.ownsRow_nil _ _ _ _) (Nat.le_refl _) (by simp)).mono ?_
  rintro e x1 ⟨v, rfl, hown, hx1⟩
  have hch1 : x1.heap[w.heap.size]? = some (.chan 256 #[] true 0 0 false) := (hx1.block _ hcs).trans HCH.out
  have hs := own_string (dst := 9) Try.underlying53 Try.underlying5 Try.underlying9 hown (by simp [digs_ne])
  have HX1 := Lib.hid hx1
  have HS := Lib.hid hs
  have HCH1 := Lib.hid hch1
  clear hown hx1 hs hch1
  go_wp2_with fail
  refine wp_loop_rounds 1 ?_
  rw [rounds_succ]
  go_upto_region 12 with (fail)
  refine wp_recv_shut rfl (c := w.heap.size) (z := .string ⟨#[]⟩) ?_ HCH1.out ?_
  · simp [go_sem, execOp, rcase, Act.eval]
  · have hs := HS.out
    go_wp2_with fail
    go_ret2
    exact ⟨by simp [enc, encs], below_trans HBE.out HX1.out⟩

/-- What holds at the head of the loop that keeps a row's texts. -/
def Keeping (c : Nat) (ls : List ByteArray) (w : World) (i : Value) (wr : World) : Prop :=
  ∃ (k sd : Nat), k ≤ ls.length ∧ k ≤ 256 ∧ i = .int .i64 k ∧ (∀ j (h : j < ls.length), j < k → ls[j].size ≤ 4096) ∧ wr.heap[c]? = some (.chan 256 (scells (ls.take k)).toArray false sd 0 false) ∧ Below w.heap.size w wr

theorem keeping_next {c k sd : Nat} {ls : List ByteArray} {w wr : World} (hc : w.heap.size ≤ c) (hk : k < ls.length) (h256 : k < 256) (hall : ∀ j (h : j < ls.length), j < k → ls[j].size ≤ 4096) (hs : ls[k].size ≤ 4096)
    (hch : wr.heap[c]? = some (.chan 256 (scells (ls.take k)).toArray false sd 0 false)) (hbe : Below w.heap.size w wr) :
    Keeping c ls w (.int .i64 ((k : Int) + 1)) (wr.setChan c 256 ((scells (ls.take k)).toArray.push (.string ls[k])) false (sd + 1) 0 false) := by
  refine ⟨k + 1, sd + 1, by omega, by omega, v_int (by omega), ?_, ?_, below_setChan hbe hc _ _ _ _ _ _⟩
  · intro j hj hjk
    by_cases e : j = k
    · subst e; exact hs
    · exact hall j hj (by omega)
  · rw [take_snoc' ls k hk, ← scells_push]
    exact heap_setChan _ _ _ _ _ _ _ _ (lt_of_heap hch)

/-- What holds at the head of the loop that writes a row's texts. -/
def Writing (B c sd : Nat) (ls : List ByteArray) (w : World) (v : Value) (wr : World) : Prop :=
  ∃ (l m : List ByteArray) (r : Nat) (p : List UInt8), l ++ m = ls ∧ p = digs (fold ls.length) ++ encs l ∧ wr.heap[c]? = some (.chan 256 (scells m).toArray true sd r false) ∧
    wr.ownsRow B 5 1 v p.length (bcells p) ∧ Below w.heap.size w wr ∧ B ≤ wr.heap.size

theorem strCells_bcells (s : ByteArray) : strCells s = bcells s.data.toList := rfl

/-- A text behind the bytes. -/
theorem own_text {B c : Nat} {v v' : Value} {p : List UInt8} (t : ByteArray) {w wr w1 : World} {oc : Obj} (hcB : c < B) (hwB : w.heap.size ≤ c) (hB : B ≤ wr.heap.size)
    (hown : wr.ownsRow B 5 1 v p.length (bcells p)) (hc : wr.heap[c]? = some oc) (hnx : Below w.heap.size w wr)
    (hown' : w1.ownsRow B 5 1 v' (p.length + t.size) (bcells p ++ strCells t)) (hgrow : wr.grownBy w1 v.ownBlock) :
    w1.ownsRow B 5 1 v' (p ++ t.data.toList).length (bcells (p ++ t.data.toList)) ∧ w1.heap[c]? = some oc ∧ Below w.heap.size w w1 ∧ B ≤ w1.heap.size := by
  have hz := hgrow.size
  refine ⟨?_, ?_, hnx.grown hgrow (by omega) (fun j hj => by have := (hown.lt j hj).1; omega), by omega⟩
  · rw [bcells_append, ← strCells_bcells]
    have e : (p ++ t.data.toList).length = p.length + t.size := by simp
    rw [e]; exact hown'
  · rw [hgrow.block c (by omega) (fun h => by have := (hown.lt c h.symm).1; omega)]
    exact hc

set_option maxHeartbeats 4000000 in
set_option maxRecDepth 100000 in
theorem Row_some {g cap : Nat} {ls : List ByteArray} {w : World} (hc : ls.length ≤ cap) (hg : g < w.heap.size) (hcell : ∀ j (h : j < ls.length), w.cell? ⟨g, j, none⟩ = some (.string ls[j])) (hok : rowOk ls) :
    Calls Try.prog 18 #[.slice (some ⟨g, 0, none⟩) ls.length cap] w (TextI ⟨(enc ls).toArray⟩ 0 w) := by
  obtain ⟨i0, hi, hz0, hz1, hz2⟩ := info_parts Try.info5
  obtain ⟨h256, hall⟩ := hok
  have HCE := Lib.hid hcell
  have HA := Lib.hid hall
  have hmk := mkChan256
  clear hcell hall
  go_enter Try.func18, Try.ntmps18
  go_wp2_with fail
  clear hmk
  go_loopw [13] (fun i wr => Keeping w.heap.size ls w i wr) (fun i _ => ls.length - (intOf i).toNat)
  case atStart => exact ⟨0, 0, Nat.zero_le _, by omega, rfl, fun j _ h => by omega, heap_alloc_new _ _, (Below.refl _ _).alloc (Nat.le_refl _) _⟩
  case round =>
    obtain ⟨k, sd, hk, hk6, rfl, hal, hch, hbe⟩ := hrel
    by_cases hlt : k < ls.length
    · have hce := (hbe.cell (p := ⟨g, k, none⟩) hg).trans (HCE.out k hlt)
      have hsz := HA.out k hlt
      have HK := Lib.hid (keeping_next (Nat.le_refl _) hlt (by omega) hal hsz hch hbe)
      have HCH := Lib.hid hch
      have hroom : (scells (ls.take k)).toArray.size < 256 := by simp [scells]; omega
      clear hal hch hbe
      generalize ls[k] = y at hce hsz HK
      go_wp2_with fail
      (with_reducible refine (keep_room w.heap.size sd 0 256 (scells (ls.take k)).toArray false y wr hsz HCH.out hroom).mono ?_)
      rintro e x3 ⟨rfl, rfl⟩
      generalize wr.setChan w.heap.size 256 ((scells (ls.take k)).toArray.push (.string y)) false (sd + 1) 0 false = W at HK ⊢
      clear hce
      go_wp2_with fail
      go_roundw
      case rel => exact HK.out
      case measure => simp [intOf]; omega
    · have hcl := fun ats ty => run_close_open (P := Try.prog) (w := wr) ats ty hch
      have ek : ls.take k = ls := List.take_of_length_le (by omega)
      rw [ek] at hcl hch
      have hcs := lt_of_heap hch
      have HBE := Lib.hid hbe
      clear hal ek hbe
      go_wp2_with fail
      show Calls Try.prog 27 #[.slice none 0 0, .int .i64 ls.length] (wr.setChan w.heap.size 256 (scells ls).toArray true sd 0 false) _
      have hch1 := heap_setChan wr w.heap.size 256 (scells ls).toArray true sd 0 false hcs
      have hbe1 := below_setChan HBE.out (Nat.le_refl _) 256 (scells ls).toArray true sd 0 false
      generalize wr.setChan w.heap.size 256 (scells ls).toArray true sd 0 false = W at hch1 hbe1 ⊢
      have hcs1 := lt_of_heap hch1
      have HBE1 := Lib.hid hbe1
      have HCH1 := Lib.hid hch1
      clear hch1 hbe1 hcl hch
      refine (appendNumber_any W.heap.size _ [] ls.length W (by omega) (by omega) (World.ownsRow_nil _ _ _ _) (Nat.le_refl _) (by simp)).mono ?_
      rintro e x1 ⟨v, rfl, hown, hx1⟩
      have HI : Hid (Writing W.heap.size w.heap.size sd ls w v x1) := ⟨[], ls, 0, digs (fold ls.length), rfl, by simp [encs], (hx1.block _ hcs1).trans HCH1.out, hown, below_trans HBE1.out hx1, hx1.size⟩
      clear hown hx1
      go_wp2_with fail
      go_loopw [8] (fun v wr => Writing W.heap.size w.heap.size sd ls w v wr) (fun _ wr => chanLen w.heap.size wr)
      case atStart => exact HI.out
      case round =>
        clear HI
        obtain ⟨l, m, r', p, hlm, hp, hcr, hown, hnx, hBs⟩ := hrel
        have hpl : p.length ≤ 9 + 4109 * 256 := by
          have h2 := digs_len9 (fold ls.length) (by rw [fold_nat]; omega)
          have h3 := encs_len l (fun t ht => by
            obtain ⟨j, hj, rfl⟩ := List.mem_iff_getElem.1 (show t ∈ ls by rw [← hlm]; exact List.mem_append_left _ ht)
            have := HA.out j hj
            omega)
          have h4 : l.length ≤ ls.length := by rw [← hlm]; simp
          rw [hp, List.length_append]
          omega
        cases m with
        | nil =>
          rw [List.append_nil] at hlm
          subst hlm
          have hs := own_string (dst := 9) Try.underlying53 Try.underlying5 Try.underlying9 hown (by rw [hp]; simp [digs_ne])
          subst hp
          have HN := Lib.hid hnx
          have HS := Lib.hid hs
          clear hnx hown hs
          go_upto_region 12 with (fail)
          refine wp_recv_shut rfl (c := w.heap.size) (z := .string ⟨#[]⟩) ?_ hcr ?_
          · simp [go_sem, execOp, rcase, Act.eval]
          · have hs := HS.out
            clear hcr
            go_wp2_with fail
            go_ret2
            exact ⟨rfl, HN.out⟩
        | cons t m =>
          have HL := Lib.hid hlm
          have HP := Lib.hid hp
          have HCL := Lib.hid (chanLen_of hcr)
          have htz : t.size ≤ 4096 := by
            obtain ⟨j, hj, rfl⟩ := List.mem_iff_getElem.1 (show t ∈ ls by rw [← hlm]; simp)
            exact HA.out j hj
          clear hlm hp
          go_upto_region 12 with (fail)
          refine wp_recv_buf rfl (c := w.heap.size) (z := .string ⟨#[]⟩) ?_ hcr (by simp [scells]) ?_
          · simp [go_sem, execOp, rcase, Act.eval]
          · have e1 : (scells (t :: m)).toArray.getD 0 undef = .string t := by simp [scells]
            rw [e1, scells_tail]
            have hc1 := heap_setChan wr w.heap.size 256 (scells m).toArray true sd (r' + 1) false (by omega)
            have hown1 := own_setChan hcs1 hown 256 (scells m).toArray true sd (r' + 1) false
            have hnx1 := below_setChan hnx (Nat.le_refl _) 256 (scells m).toArray true sd (r' + 1) false
            have hs1 : W.heap.size ≤ (wr.setChan w.heap.size 256 (scells m).toArray true sd (r' + 1) false).heap.size := by rw [size_setChan]; exact hBs
            clear e1 hcr hown hnx
            generalize wr.setChan w.heap.size 256 (scells m).toArray true sd (r' + 1) false = X at hc1 hown1 hnx1 hs1 ⊢
            have HC1 := Lib.hid hc1
            have HO1 := Lib.hid hown1
            have HN1 := Lib.hid hnx1
            clear hc1 hown1 hnx1
            go_wp2_with fail
            refine (appendNumber_any W.heap.size _ p t.size X (by omega) (by omega) HO1.out hs1 (by omega)).mono ?_
            rintro e x2 ⟨v2, rfl, hown2, hx2⟩
            have hc2 : x2.heap[w.heap.size]? = some (.chan 256 (scells m).toArray true sd (r' + 1) false) := (hx2.block _ hcs1).trans HC1.out
            have hn2 : Below w.heap.size w x2 := HN1.out.trans (hx2.mono (by omega))
            have hs2 : W.heap.size ≤ x2.heap.size := by have := hx2.size; omega
            have hd9 := digs_len9 (fold t.size) (by rw [fold_nat]; omega)
            have hp2 : (p ++ digs (fold t.size)).length ≤ 18 + 4109 * 256 := by rw [List.length_append]; omega
            have HC2 := Lib.hid hc2
            have HN2 := Lib.hid hn2
            have HO2 := Lib.hid hown2
            clear hc2 hn2 hx2 hown2
            go_wp2_with (at_builtin; refine wpList_append_own_string _ rfl _ _ 53 9 rfl W.heap.size 5 i0 Try.underlying53 Try.underlying9 hi hz0 hz1 hz2 _ _ _ rfl HO2.out t rfl ?c3 ?c4 ?c5 ?_)
            case c3 => unfold maxLen; omega
            case c4 => omega
            case c5 => exact hs2
            intro v' w1 hown' hgrow _
            have R := own_text t hcs1 (Nat.le_refl _) hs2 HO2.out HC2.out HN2.out (by rw [List.length_append]; exact hown') hgrow
            have HR := Lib.hid R
            clear R hown' hgrow
            go_wp2_with fail
            go_roundw
            case rel => exact ⟨l ++ [t], m, r' + 1, _, by rw [List.append_assoc]; exact HL.out, by rw [HP.out, encs_snoc, List.append_assoc, List.append_assoc], HR.out.2.1, HR.out.1, HR.out.2.2.1, HR.out.2.2.2⟩
            case measure => rw [chanLen_of HR.out.2.1, HCL.out]; simp [scells]

set_option maxHeartbeats 4000000 in
set_option maxRecDepth 100000 in
theorem Row_no {g cap : Nat} {ls : List ByteArray} {w : World} (hc : ls.length ≤ cap) (hl : ls.length ≤ 1000000) (hg : g < w.heap.size) (hcell : ∀ j (h : j < ls.length), w.cell? ⟨g, j, none⟩ = some (.string ls[j])) (hok : ¬ rowOk ls)
    (hsm : ∀ j (h : j < ls.length), ls[j].size ≤ 1000000) :
    Calls Try.prog 18 #[.slice (some ⟨g, 0, none⟩) ls.length cap] w (TextI ⟨#[]⟩ 3 w) := by
  have HNO := Lib.hid (rowOk_not hok)
  have HCE := Lib.hid hcell
  have HSM := Lib.hid hsm
  have hmk := mkChan256
  clear hcell hok hsm
  go_enter Try.func18, Try.ntmps18
  go_wp2_with fail
  clear hmk
  go_loopw [13] (fun i wr => Keeping w.heap.size ls w i wr) (fun i _ => ls.length - (intOf i).toNat)
  case atStart => exact ⟨0, 0, Nat.zero_le _, by omega, rfl, fun j _ h => by omega, heap_alloc_new _ _, (Below.refl _ _).alloc (Nat.le_refl _) _⟩
  case round =>
    obtain ⟨k, sd, hk, hk6, rfl, hal, hch, hbe⟩ := hrel
    by_cases hlt : k < ls.length
    · have hce := (hbe.cell (p := ⟨g, k, none⟩) hg).trans (HCE.out k hlt)
      have hs6 := HSM.out k hlt
      have HK : Hid (k < 256 → ls[k].size ≤ 4096 → Keeping w.heap.size ls w (.int .i64 ((k : Int) + 1)) (wr.setChan w.heap.size 256 ((scells (ls.take k)).toArray.push (.string ls[k])) false (sd + 1) 0 false)) :=
        fun h1 h2 => keeping_next (Nat.le_refl _) hlt h1 hal h2 hch hbe
      have HCH := Lib.hid hch
      have HBE := Lib.hid hbe
      clear hal hch hbe
      generalize ls[k] = y at hce hs6 HK
      by_cases hsz : y.size ≤ 4096
      · by_cases h256 : k < 256
        · have hroom : (scells (ls.take k)).toArray.size < 256 := by simp [scells]; omega
          go_wp2_with fail
          (with_reducible refine (keep_room w.heap.size sd 0 256 (scells (ls.take k)).toArray false y wr hsz HCH.out hroom).mono ?_)
          rintro e x3 ⟨rfl, rfl⟩
          generalize wr.setChan w.heap.size 256 ((scells (ls.take k)).toArray.push (.string y)) false (sd + 1) 0 false = W at HK ⊢
          clear hce
          go_wp2_with fail
          go_roundw
          case rel => exact HK.out h256 hsz
          case measure => simp [intOf]; omega
        · have hfull : 256 ≤ (scells (ls.take k)).toArray.size := by simp [scells]; omega
          go_wp2_with fail
          (with_reducible refine (keep_full w.heap.size sd 0 256 (scells (ls.take k)).toArray false y wr hsz HCH.out hfull).mono ?_)
          rintro e x3 ⟨rfl, rfl⟩
          go_wp2_with fail
          go_ret2
          exact ⟨rfl, HBE.out⟩
      · go_wp2_with fail
        (with_reducible refine (keep_long w.heap.size y wr (by omega) (by unfold maxLen; omega)).mono ?_)
        rintro e x3 ⟨rfl, rfl⟩
        go_wp2_with fail
        go_ret2
        exact ⟨rfl, HBE.out⟩
    · exfalso
      rcases HNO.out with h | ⟨j, hj, h⟩
      · omega
      · have := hal j hj (by omega); omega

/-- Row, of a row that lies in memory: its bytes. -/
theorem Row_yes {v : Value} {ls : List ByteArray} {w : World} (hr : SRow w v ls) (hok : rowOk ls) : Calls Try.prog 18 #[v] w (TextI ⟨(enc ls).toArray⟩ 0 w) := by
  rcases hr with ⟨rfl, rfl⟩ | ⟨g, cap, rfl, hc, hg, hcell⟩
  · exact Row_nil none 0 w
  · exact Row_some hc hg hcell hok
/-- Row, of a row that is too long. -/
theorem Row_long {v : Value} {ls : List ByteArray} {w : World} (hr : SRow w v ls) (hok : ¬ rowOk ls) (hl : ls.length ≤ 1000000) (hsm : ∀ j (h : j < ls.length), ls[j].size ≤ 1000000) : Calls Try.prog 18 #[v] w (TextI ⟨#[]⟩ 3 w) := by
  rcases hr with ⟨rfl, rfl⟩ | ⟨g, cap, rfl, hc, hg, hcell⟩
  · exact absurd ⟨by simp, fun j hj => by simp at hj⟩ hok
  · exact Row_no hc hl hg hcell hok hsm
end Go.Proofs.Ytlhbeckimhfbfaa
