/-
  Contracts of package waits: Make, Put, where an order's line stands (placeOf), Drop.
-/
import Derived.Test.YtcehhgcfkoldfaaWPut
import Derived.Test.YtcehhgcfkoldfaaWRight
namespace Go.Proofs.Ytcehhgcfkoldfaa.Waits
open Go.ChangeShapes Go.WideShapes Go.ChangeAt Go.RowKit Go.Shelf
open Go.Proofs.Ytcehhgcfkoldfaa.Goods
open Go.Proofs.Ytcehhgcfkoldfaa.Queue (Wt ltB wv QRow)

/-- Lines and an error are returned. -/
def LinesE (l : List Ln) (z : Int) (w : World) (e : Ending) (w' : World) : Prop := ∃ v, e = .returned (.tuple #[v, .int .i64 z]) ∧ LRow w' v l ∧ Below w.heap.size w w'
def MakeR (l : List Ln) (k : Nat) (u : Value) (w W : World) : Prop := LRow W u (makeL (l.take k)) ∧ Below w.heap.size w W

set_option maxRecDepth 100000 in
set_option maxHeartbeats 1000000 in
theorem Make_any {v : Value} {l : List Ln} {w : World} (h : LRow w v l) (hl : Brief l) : Calls Try.prog 9 #[v] w (LinesE (makeO l) (makeE l) w) := by
  have hm := Waits.mayBe_any h hl
  have H := Lib.hid h
  have hl1 := hl.1
  obtain ⟨a, cap, rfl⟩ := h.slice
  unfold makeO makeE
  clear h hl
  cases ha : Waits.allB l with
  | false =>
    rw [ha] at hm
    have HM := Lib.hid hm
    clear hm ha
    go_enter Try.func9, Try.ntmps9
    go_wp2_with fail
    (with_reducible refine HM.out.mono ?_)
    rintro e w' ⟨rfl, hz⟩
    have HZ := Lib.hid hz
    clear hz
    go_wp2_with fail
    go_ret2
    exact ⟨_, rfl, LRow.nil _, HZ.out⟩
  | true =>
    rw [ha] at hm
    have HM := Lib.hid hm
    clear hm ha
    rw [if_pos rfl, if_pos rfl]
    go_enter Try.func9, Try.ntmps9
    go_wp2_with fail
    (with_reducible refine HM.out.mono ?_)
    rintro e w' ⟨rfl, hz⟩
    have HZ := Lib.hid hz
    clear hz
    go_wp2_with fail
    go_loopw [4, 6, 12] (fun u _ i wr => ∃ k : Nat, k ≤ l.length ∧ i = .int .i64 k ∧ MakeR l k u w wr) (fun _ _ i _ => l.length - (Go.RowKit.intOf i).toNat)
    case atStart => exact ⟨0, Nat.zero_le _, rfl, LRow.nil _, HZ.out⟩
    case round =>
      obtain ⟨k, hk, rfl, hr⟩ := hrel
      obtain ⟨ua, uc, rfl⟩ := hr.1.slice
      have HR := Lib.hid hr
      clear hr
      by_cases hlt : k < l.length
      · obtain ⟨b, off, rfl, hlc, hcap, hb, k0, k1, k2, k3⟩ := (H.out.below HR.out.2).at hlt
        have hlen : (makeL (l.take k)).length ≤ 1000 := by rw [makeL_len, List.length_take]; omega
        have HMT := Lib.hid (makeL_take hlt)
        have hb1 := al wr (.cells (lcs l[k]).toArray 26)
        have hp := Waits.put_any (HR.out.1.below hb1) hlen (makeL_srt _) l[k]
        unfold lcs at hp hb1
        unfold lv at hp
        have HP := Lib.hid hp
        have HB1 := Lib.hid (below_trans HR.out.2 hb1)
        clear hp hb1
        go_wp2_with fail
        (with_reducible refine HP.out.mono ?_)
        rintro e w2 ⟨v2, rfl, ho, hz⟩
        obtain ⟨va, vc, rfl⟩ := ho.row.slice
        have HR2 := Lib.hid (show MakeR l (k + 1) _ w w2 from ⟨by rw [HMT.out]; exact ho.row, below_trans HB1.out hz⟩)
        clear ho hz
        go_wp2_with fail
        go_roundw
        case rel => exact ⟨k + 1, by omega, by go_num, HR2.out⟩
        case measure => simp [intOf]; omega
      · obtain rfl : k = l.length := by omega
        have he : l.take l.length = l := List.take_length
        go_wp2
        go_ret2
        exact ⟨_, rfl, (congrArg (LRow wr (.slice ua (makeL (l.take l.length)).length uc)) (congrArg makeL he)).mp HR.out.1, HR.out.2⟩

set_option maxRecDepth 100000 in
set_option maxHeartbeats 2000000 in
theorem Put_any {v : Value} {l : List Ln} {w : World} (h : LRow w v l) (hl : Brief l) (x : Ln) (hx : x.k.size ≤ 1000000) : Calls Try.prog 10 #[v, lv x] w (LinesE (putO l x) (putE l x) w) := by
  have hw := put_ways l x
  have hb1 := al w (.cells (lcs x).toArray 26)
  have hbx := Box.made w (lcs x) 26
  have hr := Waits.Right_any (h.below hb1) hl
  have hm := fun W => lineMayBe_any x hx W
  have HC := Lib.hid (fun W (hb : Below w.heap.size w W) => clashes_any (h.below hb) hl.1 x)
  have HPT := Lib.hid (fun W (hb : Below w.heap.size w W) (hs : Srt l) => Waits.put_any (h.below hb) hl.1 hs x)
  have hlen := hl.1
  obtain ⟨a, cap, rfl⟩ := h.slice
  have HB1 := Lib.hid hb1
  have HX1 := Lib.hid hbx
  unfold lcs at HB1 hr
  unfold lv at hm HC HPT ⊢
  clear h hl hb1 hbx
  unfold putO
  rcases hw with ⟨e1, e2⟩ | ⟨e1, e2, e3⟩ | ⟨e1, e2, e3, e4⟩ | ⟨e1, e2, e3, e4, e5⟩ | ⟨e1, e2, e3, e4, e5, e6⟩
  · rw [e2, if_neg (by decide)]
    rw [e1] at hr
    have HR := Lib.hid hr
    clear hr hm e1 e2 HC HPT
    go_enter Try.func10, Try.ntmps10
    go_wp2_with fail
    (with_reducible refine HR.out.mono ?_)
    rintro e w1 ⟨rfl, hz⟩
    have HZ := Lib.hid (below_trans HB1.out hz)
    clear hz
    go_wp2_with fail
    go_ret2
    exact ⟨_, rfl, LRow.nil _, HZ.out⟩
  · rw [e3, if_neg (by decide)]
    rw [e1] at hr
    rw [e2] at hm
    have HR := Lib.hid hr
    have HM := Lib.hid hm
    clear hr hm e1 e2 e3 HC HPT
    go_enter Try.func10, Try.ntmps10
    go_wp2_with fail
    (with_reducible refine HR.out.mono ?_)
    rintro e w1 ⟨rfl, hz⟩
    have HZ := Lib.hid (below_trans HB1.out hz)
    obtain ⟨x0, x1, x2, x3⟩ := box4 (HX1.out.below hz)
    have hsx := (HX1.out.below hz).1
    clear hz
    go_wp2_with fail
    (with_reducible refine (HM.out _).mono ?_)
    rintro e w2 ⟨rfl, hz⟩
    have HZ2 := Lib.hid (below_trans HZ.out hz)
    clear hz
    go_wp2_with fail
    go_ret2
    exact ⟨_, rfl, LRow.nil _, HZ2.out⟩
  · rw [e4, if_neg (by decide)]
    rw [e1] at hr
    rw [e2] at hm
    rw [e3] at HC
    have HR := Lib.hid hr
    have HM := Lib.hid hm
    clear hr hm e1 e2 e3 e4 HPT
    go_enter Try.func10, Try.ntmps10
    go_wp2_with fail
    (with_reducible refine HR.out.mono ?_)
    rintro e w1 ⟨rfl, hz⟩
    have HZ := Lib.hid (below_trans HB1.out hz)
    have HXA := Lib.hid (HX1.out.below hz)
    obtain ⟨x0, x1, x2, x3⟩ := box4 HXA.out
    have hsx := HXA.out.1
    clear hz
    go_wp2_with fail
    (with_reducible refine (HM.out _).mono ?_)
    rintro e w2 ⟨rfl, hz⟩
    have HZ2 := Lib.hid (below_trans HZ.out hz)
    obtain ⟨y0, y1, y2, y3⟩ := box4 (HXA.out.below hz)
    have hsy := (HXA.out.below hz).1
    clear hz x0 x1 x2 x3 hsx
    go_wp2_with fail
    (with_reducible refine (HC.out _ HZ2.out).mono ?_)
    rintro e w3 ⟨rfl, hz⟩
    have HZ3 := Lib.hid (below_trans HZ2.out hz)
    clear hz
    go_wp2_with fail
    go_ret2
    exact ⟨_, rfl, LRow.nil _, HZ3.out⟩
  · rw [e5, if_neg (by decide)]
    rw [e1] at hr
    rw [e2] at hm
    rw [e3] at HC
    have HR := Lib.hid hr
    have HM := Lib.hid hm
    have e4' : (l.length : Int) = 32 := by omega
    have e4'' : ((l.length : Int) == 32) = true := by rw [e4']; rfl
    clear hr hm e1 e2 e3 e4 e5 e4' HPT hlen
    go_enter Try.func10, Try.ntmps10
    go_wp2_with fail
    (with_reducible refine HR.out.mono ?_)
    rintro e w1 ⟨rfl, hz⟩
    have HZ := Lib.hid (below_trans HB1.out hz)
    have HXA := Lib.hid (HX1.out.below hz)
    obtain ⟨x0, x1, x2, x3⟩ := box4 HXA.out
    have hsx := HXA.out.1
    clear hz
    go_wp2_with fail
    (with_reducible refine (HM.out _).mono ?_)
    rintro e w2 ⟨rfl, hz⟩
    have HZ2 := Lib.hid (below_trans HZ.out hz)
    obtain ⟨y0, y1, y2, y3⟩ := box4 (HXA.out.below hz)
    have hsy := (HXA.out.below hz).1
    clear hz x0 x1 x2 x3 hsx
    go_wp2_with fail
    (with_reducible refine (HC.out _ HZ2.out).mono ?_)
    rintro e w3 ⟨rfl, hz⟩
    have HZ3 := Lib.hid (below_trans HZ2.out hz)
    clear hz
    go_wp2_with fail
    go_ret2
    exact ⟨_, rfl, LRow.nil _, HZ3.out⟩
  · have hpo : (if putE l x = 0 then makeL (l ++ [x]) else []) = insL x l := e6
    rw [hpo, e5]
    have HPU := Lib.hid (fun W hb => HPT.out W hb (rightB_t.1 e1).srt)
    rw [e1] at hr
    rw [e2] at hm
    rw [e3] at HC
    have HR := Lib.hid hr
    have HM := Lib.hid hm
    have e4' : ¬ (l.length : Int) = 32 := by omega
    have e4'' : ((l.length : Int) == 32) = false := by simpa using e4'
    clear hr hm e1 e2 e3 e4 e5 e6 hpo e4' HPT hlen
    go_enter Try.func10, Try.ntmps10
    go_wp2_with fail
    (with_reducible refine HR.out.mono ?_)
    rintro e w1 ⟨rfl, hz⟩
    have HZ := Lib.hid (below_trans HB1.out hz)
    have HXA := Lib.hid (HX1.out.below hz)
    obtain ⟨x0, x1, x2, x3⟩ := box4 HXA.out
    have hsx := HXA.out.1
    clear hz
    go_wp2_with fail
    (with_reducible refine (HM.out _).mono ?_)
    rintro e w2 ⟨rfl, hz⟩
    have HZ2 := Lib.hid (below_trans HZ.out hz)
    have HXB := Lib.hid (HXA.out.below hz)
    obtain ⟨y0, y1, y2, y3⟩ := box4 HXB.out
    have hsy := HXB.out.1
    clear hz x0 x1 x2 x3 hsx
    go_wp2_with fail
    (with_reducible refine (HC.out _ HZ2.out).mono ?_)
    rintro e w3 ⟨rfl, hz⟩
    have HZ3 := Lib.hid (below_trans HZ2.out hz)
    obtain ⟨z0, z1, z2, z3⟩ := box4 (HXB.out.below hz)
    have hsz := (HXB.out.below hz).1
    clear hz y0 y1 y2 y3 hsy
    go_wp2_with fail
    (with_reducible refine (HPU.out _ HZ3.out).mono ?_)
    rintro e w4 ⟨v4, rfl, ho, hz⟩
    obtain ⟨va, vc, rfl⟩ := ho.row.slice
    have HO := Lib.hid ho.row
    have HZ4 := Lib.hid (below_trans HZ3.out hz)
    clear ho hz
    go_wp2_with fail
    go_ret2
    exact ⟨_, rfl, HO.out, HZ4.out⟩
end Go.Proofs.Ytcehhgcfkoldfaa.Waits
