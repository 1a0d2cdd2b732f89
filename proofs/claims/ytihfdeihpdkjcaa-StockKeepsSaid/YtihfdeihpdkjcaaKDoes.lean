/-
  Contracts of package stock: Get, Hold, Release, Ship, Lose; the law's own does, few, alive.
-/
import Derived.Test.YtihfdeihpdkjcaaKRefV
namespace Go.Proofs.Ytihfdeihpdkjcaa.Goods.Stk
open Go.ChangeShapes Go.WideShapes Go.ChangeAt Go.RowKit Go.Shelf Go.Lib

set_option maxRecDepth 100000 in
theorem Hold_any {v : Value} {l : List Rw} {w : World} (h : SRow w v l) (hl : Brief l) (k : ByteArray) (n : Int) : Calls Try.prog 18 #[v, .string k, .int .i64 n] w (RowsE (moveO 1 l k n) (moveE 1 l k n) w) := by
  have HC := Lib.hid (move_any 1 37 pick_hold (enters_of Try.func37 (by kernel_rfl) rfl) h hl k n)
  obtain ⟨a, cap, rfl⟩ := h.slice
  generalize moveO 1 l k n = m at *
  generalize moveE 1 l k n = z at *
  clear h hl
  go_enter Try.func18, Try.ntmps18
  go_wp2_with fail
  (with_reducible refine HC.out.mono ?_)
  rintro e w' ⟨v', rfl, hr, hz⟩
  have HR := Lib.hid hr
  have HZ := Lib.hid hz
  clear hr hz
  go_wp2_with fail
  go_ret2
  exact ⟨_, rfl, HR.out, HZ.out⟩
set_option maxRecDepth 100000 in
theorem Release_any {v : Value} {l : List Rw} {w : World} (h : SRow w v l) (hl : Brief l) (k : ByteArray) (n : Int) : Calls Try.prog 19 #[v, .string k, .int .i64 n] w (RowsE (moveO 2 l k n) (moveE 2 l k n) w) := by
  have HC := Lib.hid (move_any 2 38 pick_release (enters_of Try.func38 (by kernel_rfl) rfl) h hl k n)
  obtain ⟨a, cap, rfl⟩ := h.slice
  generalize moveO 2 l k n = m at *
  generalize moveE 2 l k n = z at *
  clear h hl
  go_enter Try.func19, Try.ntmps19
  go_wp2_with fail
  (with_reducible refine HC.out.mono ?_)
  rintro e w' ⟨v', rfl, hr, hz⟩
  have HR := Lib.hid hr
  have HZ := Lib.hid hz
  clear hr hz
  go_wp2_with fail
  go_ret2
  exact ⟨_, rfl, HR.out, HZ.out⟩
set_option maxRecDepth 100000 in
theorem Ship_any {v : Value} {l : List Rw} {w : World} (h : SRow w v l) (hl : Brief l) (k : ByteArray) (n : Int) : Calls Try.prog 20 #[v, .string k, .int .i64 n] w (RowsE (moveO 3 l k n) (moveE 3 l k n) w) := by
  have HC := Lib.hid (move_any 3 39 pick_ship (enters_of Try.func39 (by kernel_rfl) rfl) h hl k n)
  obtain ⟨a, cap, rfl⟩ := h.slice
  generalize moveO 3 l k n = m at *
  generalize moveE 3 l k n = z at *
  clear h hl
  go_enter Try.func20, Try.ntmps20
  go_wp2_with fail
  (with_reducible refine HC.out.mono ?_)
  rintro e w' ⟨v', rfl, hr, hz⟩
  have HR := Lib.hid hr
  have HZ := Lib.hid hz
  clear hr hz
  go_wp2_with fail
  go_ret2
  exact ⟨_, rfl, HR.out, HZ.out⟩
set_option maxRecDepth 100000 in
theorem Lose_any {v : Value} {l : List Rw} {w : World} (h : SRow w v l) (hl : Brief l) (k : ByteArray) (n : Int) : Calls Try.prog 35 #[v, .string k, .int .i64 n] w (RowsE (moveO 4 l k n) (moveE 4 l k n) w) := by
  have HC := Lib.hid (move_any 4 47 pick_lose (enters_of Try.func47 (by kernel_rfl) rfl) h hl k n)
  obtain ⟨a, cap, rfl⟩ := h.slice
  generalize moveO 4 l k n = m at *
  generalize moveE 4 l k n = z at *
  clear h hl
  go_enter Try.func35, Try.ntmps35
  go_wp2_with fail
  (with_reducible refine HC.out.mono ?_)
  rintro e w' ⟨v', rfl, hr, hz⟩
  have HR := Lib.hid hr
  have HZ := Lib.hid hz
  clear hr hz
  go_wp2_with fail
  go_ret2
  exact ⟨_, rfl, HR.out, HZ.out⟩

/-- Which move a number names. -/
def kq (d : Int) : Nat := if d = 1 then 1 else if d = 2 then 2 else if d = 3 then 3 else 4
set_option maxRecDepth 100000 in
set_option maxHeartbeats 1000000 in
theorem does_any {v : Value} {l : List Rw} {w : World} (h : SRow w v l) (hl : Brief l) (k : ByteArray) (n d : Int) : Calls Try.prog 15 #[v, .string k, .int .i64 n, .int .i64 d] w (RowsE (moveO (kq d) l k n) (moveE (kq d) l k n) w) := by
  have h1 := Hold_any h hl k n
  have h2 := Release_any h hl k n
  have h3 := Ship_any h hl k n
  have h4 := Lose_any h hl k n
  obtain ⟨a, cap, rfl⟩ := h.slice
  unfold kq
  by_cases d1 : d = 1
  · subst d1
    rw [if_pos rfl]
    have HC := Lib.hid h1
    clear h hl h1 h2 h3 h4
    generalize moveO 1 l k n = m at *
    generalize moveE 1 l k n = z at *
    go_enter Try.func15, Try.ntmps15
    go_wp2_with fail
    (with_reducible refine HC.out.mono ?_)
    rintro e w' ⟨v', rfl, hr, hz⟩
    have HR := Lib.hid hr
    have HZ := Lib.hid hz
    clear hr hz
    go_wp2_with fail
    go_ret2
    exact ⟨_, rfl, HR.out, HZ.out⟩
  rw [if_neg d1]
  by_cases d2 : d = 2
  · subst d2
    rw [if_pos rfl]
    have HC := Lib.hid h2
    clear h hl h1 h2 h3 h4 d1
    generalize moveO 2 l k n = m at *
    generalize moveE 2 l k n = z at *
    go_enter Try.func15, Try.ntmps15
    go_wp2_with fail
    (with_reducible refine HC.out.mono ?_)
    rintro e w' ⟨v', rfl, hr, hz⟩
    have HR := Lib.hid hr
    have HZ := Lib.hid hz
    clear hr hz
    go_wp2_with fail
    go_ret2
    exact ⟨_, rfl, HR.out, HZ.out⟩
  rw [if_neg d2]
  by_cases d3 : d = 3
  · subst d3
    rw [if_pos rfl]
    have HC := Lib.hid h3
    clear h hl h1 h2 h3 h4 d1 d2
    generalize moveO 3 l k n = m at *
    generalize moveE 3 l k n = z at *
    go_enter Try.func15, Try.ntmps15
    go_wp2_with fail
    (with_reducible refine HC.out.mono ?_)
    rintro e w' ⟨v', rfl, hr, hz⟩
    have HR := Lib.hid hr
    have HZ := Lib.hid hz
    clear hr hz
    go_wp2_with fail
    go_ret2
    exact ⟨_, rfl, HR.out, HZ.out⟩
  rw [if_neg d3]
  have HC := Lib.hid h4
  have b1 : (d == 1) = false := by simpa using d1
  have b2 : (d == 2) = false := by simpa using d2
  have b3 : (d == 3) = false := by simpa using d3
  clear h hl h1 h2 h3 h4 d1 d2 d3
  generalize moveO 4 l k n = m at *
  generalize moveE 4 l k n = z at *
  go_enter Try.func15, Try.ntmps15
  go_wp2_with fail
  (with_reducible refine HC.out.mono ?_)
  rintro e w' ⟨v', rfl, hr, hz⟩
  have HR := Lib.hid hr
  have HZ := Lib.hid hz
  clear hr hz
  go_wp2_with fail
  go_ret2
  exact ⟨_, rfl, HR.out, HZ.out⟩

/-- The row of a name, or an error. -/
def getE (l : List Rw) (k : ByteArray) : Int := if rightS l = false then 1 else if hasR k l = false then 8 else 0
def getV (l : List Rw) (k : ByteArray) : Rw := if rightS l = false then noR else (getL k l).getD noR
def GetE (x : Rw) (z : Int) (w : World) (e : Ending) (w' : World) : Prop := e = .returned (.tuple #[rv x, .int .i64 z]) ∧ Below w.heap.size w w'
set_option maxRecDepth 100000 in
set_option maxHeartbeats 2000000 in
theorem Get_any {v : Value} {l : List Rw} {w : World} (h : SRow w v l) (hl : Brief l) (k : ByteArray) : Calls Try.prog 8 #[v, .string k] w (GetE (getV l k) (getE l k) w) := by
  have hr := fun W (hb : Below w.heap.size w W) => RightS_any (h.below hb) hl
  have HPL := Lib.hid (fun W (hb : Below w.heap.size w W) hp => place_any (h.below hb) hl.1 hp k)
  have HH := Lib.hid h
  obtain ⟨a, cap, rfl⟩ := h.slice
  have hx0 := Box.made w [.string ⟨#[]⟩, .int .i64 0, .int .i64 0, .int .i64 0, .int .i64 0, .int .i64 0] 25
  have hb0 := al w (.cells #[.string ⟨#[]⟩, .int .i64 0, .int .i64 0, .int .i64 0, .int .i64 0, .int .i64 0] 25)
  obtain ⟨W0, hW0⟩ : ∃ W, w.alloc (.cells #[.string ⟨#[]⟩, .int .i64 0, .int .i64 0, .int .i64 0, .int .i64 0, .int .i64 0] 25) = W := ⟨_, rfl⟩
  rw [hW0] at hx0 hb0
  have HX0 := Lib.hid hx0
  have HB0 := Lib.hid hb0
  unfold getE getV GetE
  clear h hl hx0 hb0
  cases e1 : rightS l with
  | false =>
    rw [e1] at hr
    have HR := Lib.hid hr
    clear hr e1
    go_enter Try.func8, Try.ntmps8
    go_wp2_with fail
    clear hW0
    (with_reducible refine (HR.out _ HB0.out).mono ?_)
    rintro e w1 ⟨rfl, hz⟩
    obtain ⟨y0, y1, y2, y3, y4, y5⟩ := (HX0.out.below hz).c6
    obtain ⟨z0, z1, z2, z3, z4, z5⟩ := (HX0.out.below hz).z6
    have hsz := (HX0.out.below hz).1
    have HE := Lib.hid (below_six (b := w.heap.size) (.string ⟨#[]⟩) (.int .i64 0) (.int .i64 0) (.int .i64 0) (.int .i64 0) (.int .i64 0) (below_trans HB0.out hz) (Nat.le_refl _))
    clear hz
    go_wp2_with fail
    exact bodyPost_ret (by simp [results, Try.results8, go_sem, rv, noR, y0, y1, y2, y3, y4, y5]) rfl ⟨rfl, HE.out⟩
  | true =>
    rw [e1] at hr
    have HR := Lib.hid hr
    have hp := (rightS_t.1 e1).2.2.1
    have HP := Lib.hid (fun W hb => HPL.out W hb hp)
    rw [if_neg (by simp), if_neg (by simp)]
    unfold PlaceB at HP
    cases eg : getL k l with
    | none =>
      have HK : Hid (hasR k l = false) := Lib.hid (by unfold hasR; rw [eg]; rfl)
      rw [HK.out, if_pos rfl]
      rw [HK.out] at HP
      clear hr e1 hp HPL eg
      generalize posL k l = i at *
      go_enter Try.func8, Try.ntmps8
      go_wp2_with fail
      clear hW0
      (with_reducible refine (HR.out _ HB0.out).mono ?_)
      rintro e w1 ⟨rfl, hz⟩
      have HB1 := Lib.hid (below_trans HB0.out hz)
      have HX1 := Lib.hid (HX0.out.below hz)
      clear hz
      go_wp2_with fail
      (with_reducible refine (HP.out _ HB1.out).mono ?_)
      rintro e w2 ⟨rfl, hz⟩
      obtain ⟨y0, y1, y2, y3, y4, y5⟩ := (HX1.out.below hz).c6
      obtain ⟨z0, z1, z2, z3, z4, z5⟩ := (HX1.out.below hz).z6
      have hsz := (HX1.out.below hz).1
      have HE := Lib.hid (below_six (b := w.heap.size) (.string ⟨#[]⟩) (.int .i64 0) (.int .i64 0) (.int .i64 0) (.int .i64 0) (.int .i64 0) (below_trans HB1.out hz) (Nat.le_refl _))
      clear hz
      go_wp2_with fail
      exact bodyPost_ret (by simp [results, Try.results8, go_sem, rv, noR, y0, y1, y2, y3, y4, y5]) rfl ⟨rfl, HE.out⟩
    | some x =>
      have HK : Hid (hasR k l = true) := Lib.hid (by unfold hasR; rw [eg]; rfl)
      rw [HK.out, if_neg (by simp)]
      rw [HK.out] at HP
      obtain ⟨hi, hx, _⟩ := pos_some hp eg
      clear hr e1 hp HPL eg
      generalize posL k l = i at *
      have HXE := Lib.hid hx
      clear hx
      have HI := Lib.hid hi
      have hi2 : (i : Int) < l.length := by omega
      have hi3 : (0 : Int) ≤ i := by omega
      go_enter Try.func8, Try.ntmps8
      go_wp2_with fail
      clear hW0
      (with_reducible refine (HR.out _ HB0.out).mono ?_)
      rintro e w1 ⟨rfl, hz⟩
      have HB1 := Lib.hid (below_trans HB0.out hz)
      have HX1 := Lib.hid (HX0.out.below hz)
      clear hz
      go_wp2_with fail
      (with_reducible refine (HP.out _ HB1.out).mono ?_)
      rintro e w2 ⟨rfl, hz⟩
      have hb2 := below_trans HB1.out hz
      obtain ⟨y0, y1, y2, y3, y4, y5⟩ := (HX1.out.below hz).c6
      obtain ⟨z0, z1, z2, z3, z4, z5⟩ := (HX1.out.below hz).z6
      have hsz := (HX1.out.below hz).1
      obtain ⟨b, off, rfl, hlc, hcap, hbl, hsix⟩ := (HH.out.below hb2).at hi
      rw [HXE.out] at hsix
      obtain ⟨k0, k1, k2, k3, k4, k5⟩ := hsix
      have HE := Lib.hid (below_six (b := w.heap.size) (.string x.s) (.int .i64 x.n) (.int .i64 x.f) (.int .i64 x.h) (.int .i64 x.p) (.int .i64 x.t) hb2 (Nat.le_refl _))
      clear hz hb2
      go_wp2_with fail
      exact bodyPost_ret (by simp [results, Try.results8, go_sem, rv, y0, y1, y2, y3, y4, y5]) rfl ⟨rfl, HE.out⟩

/-- What came in; what few makes of it. -/
def ArgR (w : World) (v : Value) : Prop := ∃ l, SRow w v l ∧ ∀ x ∈ l, x.s.size ≤ 9223372036854775807
def Tiny (l : List Rw) : Prop := l.length ≤ 10 ∧ ∀ x ∈ l, x.s.size ≤ 18
theorem Tiny.brief {l : List Rw} (h : Tiny l) : Brief l := ⟨by have := h.1; omega, fun x hx => by have := h.2 x hx; omega⟩
def FewE (w : World) (e : Ending) (w' : World) : Prop := ∃ v l, e = .returned v ∧ Tiny l ∧ SRow w' v l ∧ Below w.heap.size w w'
set_option maxRecDepth 100000 in
set_option maxHeartbeats 4000000 in
theorem few_any {v : Value} {w : World} (h : ArgR w v) : Calls Try.prog 7 #[v] w (FewE w) := by
  obtain ⟨l0, h, hs⟩ := h
  obtain ⟨a, cap, rfl⟩ := h.slice
  obtain ⟨hca1, hca2⟩ := h.cap.2
  have HAC : Hid (∀ W, Below w.heap.size w W → ∀ q, q < l0.length → ∃ (b off : Nat) (y : Rw), a = some ⟨b, off, none⟩ ∧ b < W.heap.size ∧ Six W b (off + q * 6) y ∧ y.s.size ≤ 9223372036854775807) := Lib.hid fun W hW q hq => by
    obtain ⟨b, off, e, _, _, hb, hc⟩ := (h.below hW).at hq
    exact ⟨b, off, _, e, hb, hc, hs _ (List.getElem_mem hq)⟩
  obtain ⟨n, hn, hnl, hn10⟩ : ∃ n : Nat, min (l0.length : Int) 10 = n ∧ n ≤ l0.length ∧ n ≤ 10 := ⟨min l0.length 10, by omega, by omega, by omega⟩
  clear h hs
  generalize l0.length = len at *
  go_enter Try.func7, Try.ntmps7
  go_upto_region 2 with (fail)
  go_cut [10, 11, 12] from 6 to 12 (fun v z i wx => v = .slice a n cap ∧ z = .int .i64 n ∧ i = .int .i64 0 ∧ wx = w)
  case first =>
    have hc : (10 < len ∧ n = 10) ∨ (len ≤ 10 ∧ n = len) := by omega
    rcases hc with ⟨hc, rfl⟩ | ⟨hc, rfl⟩
    all_goals (
      clear hn
      go_wp2_with fail
      go_meet
      exact ⟨rfl, rfl, rfl, rfl⟩)
  case rest =>
  obtain ⟨rfl, rfl, rfl, rfl⟩ := hcut
  go_wp2_with fail
  go_loopw [3, 5, 12] (fun u _ i wr => ∃ l : List Rw, l.length ≤ n ∧ i = .int .i64 l.length ∧ (∀ x ∈ l, x.s.size ≤ 18) ∧ OwnR wc.heap.size u l wr ∧ Below wc.heap.size wc wr) (fun _ _ i _ => n - (RowKit.intOf i).toNat)
  case atStart => exact ⟨[], Nat.zero_le _, rfl, by simp, OwnR.nil _ _, Below.refl _ _⟩
  case round =>
    clear hn
    obtain ⟨l, hsn, rfl, hall, ho, hbe⟩ := hrel
    obtain ⟨ua, un, uc, rfl⟩ : ∃ a n c, u3 = .slice a n c := (by obtain ⟨a', c', e⟩ := ho.row.slice; exact ⟨a', _, c', e⟩)
    have HO := Lib.hid ho
    have HB := Lib.hid hbe
    have HAL := Lib.hid hall
    clear ho hbe hall
    by_cases hlt : l.length < n
    · obtain ⟨b, off, y, rfl, hb, ⟨k0, k1, k2, k3, k4, k5⟩, hsz0⟩ := HAC.out _ HB.out l.length (by omega)
      obtain ⟨q, hq, hqt, hq18⟩ : ∃ q : Nat, (if (18 : Int) < (y.s.size : Int) then (18 : Int) else (y.s.size : Int)) = q ∧ q ≤ y.s.size ∧ q ≤ 18 := ⟨min y.s.size 18, by split <;> omega, by omega, by omega⟩
      have i0 : (0 : Int) ≤ (q : Int) := by omega
      have i1 : (q : Int) ≤ (y.s.size : Int) := by omega
      obtain ⟨s, hs, hs18⟩ : ∃ s, y.s.extract 0 q = s ∧ s.size ≤ 18 := ⟨_, rfl, by rw [ByteArray.size_extract]; omega⟩
      have hone := SRow.one (wr.alloc (.cells #[.string s, .int .i64 y.n, .int .i64 y.f, .int .i64 y.h, .int .i64 y.p, .int .i64 y.t] 25)) { y with s := s }
      simp only [World.size_alloc] at hone
      have hba := al wr (.cells #[.string s, .int .i64 y.n, .int .i64 y.f, .int .i64 y.h, .int .i64 y.p, .int .i64 y.t] 25)
      have hbb := al (wr.alloc (.cells #[.string s, .int .i64 y.n, .int .i64 y.f, .int .i64 y.h, .int .i64 y.p, .int .i64 y.t] 25)) (.cells #[.string s, .int .i64 y.n, .int .i64 y.f, .int .i64 y.h, .int .i64 y.p, .int .i64 y.t] 25)
      have HONE := Lib.hid hone
      have HO2 := Lib.hid ((HO.out.below hba).below hbb)
      have HB2 := Lib.hid (below_trans HB.out (below_trans hba hbb))
      have hsw := HB2.out.size
      have HS18 := Lib.hid hs18
      clear hone hba hbb hs18 hsz0
      go_wp2_with (at_builtin; refine wpList_append_R rfl _ _ rfl wc.heap.size _ l rfl HO2.out _ [{ y with s := s }] rfl HONE.out (by omega) (by simp) hsw ?_)
      intro v' w1 hown hbel _
      obtain ⟨va, vn, vc, rfl⟩ : ∃ a n c, v' = .slice a n c := (by obtain ⟨a', c', e⟩ := hown.row.slice; exact ⟨a', _, c', e⟩)
      have HR := Lib.hid (And.intro hown (HB2.out.trans hbel))
      clear hown hbel
      go_wp2_with fail
      go_roundw
      case rel =>
        refine ⟨l ++ [{ y with s := s }], by simp; omega, by simp, ?_, HR.out.1, HR.out.2⟩
        intro x hx
        rcases List.mem_append.1 hx with h | h
        · exact HAL.out x h
        · obtain rfl := List.mem_singleton.1 h
          exact HS18.out
      case measure => simp [RowKit.intOf]; omega
    · go_wp2_with fail
      go_ret
      exact ⟨_, l, rfl, ⟨by omega, HAL.out⟩, HO.out.row, HB.out⟩

/-- 'cup'. -/
def cup : ByteArray := ⟨#[99, 117, 112]⟩
theorem cup_name : nameB cup = true := by decide
theorem al1 : recvE [] cup 5 = 0 ∧ recvO [] cup 5 = [⟨cup, 5, 5, 0, 0, 0⟩] := by
  have h0 : rightS [] = true := rightS_t.2 ⟨by simp, by simp, by simp, by simp⟩
  have h1 : recvE [] cup 5 = 0 := by unfold recvE; rw [h0, cup_name, decide_eq_true (by unfold unitP; omega)]; rfl
  refine ⟨h1, ?_⟩
  unfold recvO
  rw [if_pos h1]
  rfl
theorem al2 : moveE 1 [⟨cup, 5, 5, 0, 0, 0⟩] cup 2 = 0 ∧ moveO 1 [⟨cup, 5, 5, 0, 0, 0⟩] cup 2 = [⟨cup, 5, 3, 2, 0, 0⟩] := by
  have h0 : rightS [⟨cup, 5, 5, 0, 0, 0⟩] = true := rightS_t.2 ⟨by simp, by simp [cup_name], by simp, by simp [addP, inP]⟩
  have hg : getL cup [⟨cup, 5, 5, 0, 0, 0⟩] = some ⟨cup, 5, 5, 0, 0, 0⟩ := by rw [getL, if_pos rfl]
  have h1 : moveE 1 [⟨cup, 5, 5, 0, 0, 0⟩] cup 2 = 0 := by unfold moveE; rw [h0, decide_eq_true (by unfold unitP; omega), hg]; rfl
  refine ⟨h1, ?_⟩
  unfold moveO moveL
  rw [if_pos h1, hg]
  simp only [setL]
  rw [if_neg (by rw [mvR_s, ltT_self]; simp), if_pos (by rw [mvR_s])]
  rfl
set_option maxRecDepth 100000 in
set_option maxHeartbeats 1000000 in
theorem alive_any (w : World) : Calls Try.prog 14 #[] w (BoolB true w) := by
  have h1 := Receive_any (SRow.nil w) ⟨by simp, by simp⟩ cup (by decide) 5
  rw [al1.1, al1.2] at h1
  have h2 := fun (v : Value) W (h : SRow W v [⟨cup, 5, 5, 0, 0, 0⟩]) => Hold_any h ⟨by simp, (by intro x hx; rw [List.mem_singleton.1 hx]; decide)⟩ cup 2
  simp only [al2.1, al2.2] at h2
  have H1 := Lib.hid h1
  have H2 := Lib.hid h2
  have heq := fun W => eql_row ⟨cup, 5, 3, 2, 0, 0⟩ ⟨cup, 5, 3, 2, 0, 0⟩ W
  rw [decide_eq_true rfl] at heq
  unfold cup at H1 heq
  clear h1 h2
  go_enter Try.func14, Try.ntmps14
  go_wp2_with fail
  (with_reducible refine H1.out.mono ?_)
  rintro e w1 ⟨v1, rfl, hr, hz⟩
  have HR := Lib.hid (H2.out _ _ hr)
  have HZ := Lib.hid hz
  unfold cup at HR
  obtain ⟨va, vn, vc, rfl⟩ : ∃ a n c, v1 = .slice a n c := (by obtain ⟨a', c', e⟩ := hr.slice; exact ⟨a', _, c', e⟩)
  clear hr hz
  go_wp2_with fail
  (with_reducible refine HR.out.mono ?_)
  rintro e w2 ⟨v2, rfl, hr, hz⟩
  have HZ2 := Lib.hid (below_trans HZ.out hz)
  obtain ⟨a2, c2, rfl⟩ := hr.slice
  obtain ⟨b, off, rfl, hlc, hcap, hb, k0, k1, k2, k3, k4, k5⟩ := hr.at (q := 0) (by simp)
  simp only [List.length_cons, List.length_nil, List.getElem_cons_zero, Nat.zero_mul, Nat.add_zero, Nat.zero_add] at *
  clear hr hz
  go_wp2_with fail
  go_ret
  exact ⟨rfl, HZ2.out⟩
end Go.Proofs.Ytihfdeihpdkjcaa.Goods.Stk
