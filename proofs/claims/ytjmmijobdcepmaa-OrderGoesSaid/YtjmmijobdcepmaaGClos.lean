/-
  Contracts of package goods: how texts and rules stand (cmp.Compare, cmp.Less, cmp.Or, below), which rules have the same (sameRank, sameTo), and the closures over these.
-/
import Derived.Test.YtjmmijobdcepmaaGOrd
import Derived.Test.YtjmmijobdcepmaaGFunc
import Derived.Laws.Cover1
namespace Go.Proofs.Ytjmmijobdcepmaa.Goods
open Go.ChangeShapes Go.WideShapes Go.ChangeAt Go.RowKit

theorem isNaNS_any (x : ByteArray) (w : World) : Calls Try.prog 87 #[.string x] w fun e w' => e = .returned (.bool false) ∧ w = w' := by
  go_enter Try.func87, Try.ntmps87
  go_wp2
  have e1 := bytes_yes (rfl : x = x)
  go_wp2
  go_ret
  exact ⟨rfl, rfl⟩
theorem isNaN_any (x : Int) (w : World) : Calls Try.prog 99 #[.int .i64 x] w fun e w' => e = .returned (.bool false) ∧ w = w' := by
  go_enter Try.func99, Try.ntmps99
  go_wp2
  go_ret
  exact ⟨rfl, rfl⟩
/-- Compare's answer, of numbers, of texts. -/
def cmpZ (x y : Int) : Int := if x < y then -1 else if y < x then 1 else 0
def cmpT (x y : ByteArray) : Int := if ltT x y = true then -1 else if ltT y x = true then 1 else 0
def orZ (x y : Int) : Int := if x ≠ 0 then x else y
theorem orZ_below (a b : Sb) : orZ (cmpT a.f b.f) (cmpZ a.r b.r) < 0 ↔ belowB a b = true := by
  rw [belowB_t]
  unfold orZ cmpT
  by_cases h1 : ltT a.f b.f = true
  · simp [h1]
  by_cases h2 : ltT b.f a.f = true
  · have : a.f ≠ b.f := fun e => by rw [e, ltT_self] at h2; cases h2
    simp [h1, h2, this]
  have e : a.f = b.f := ltT_total (by simpa using h1) (by simpa using h2)
  simp only [e, ltT_self]
  unfold cmpZ
  by_cases h3 : a.r < b.r
  · simp [h3]
  · by_cases h4 : b.r < a.r
    · simp [h3, h4]
    · simp [h3, h4]
theorem cmpZ_bd (x y : Int) : -1 ≤ cmpZ x y ∧ cmpZ x y ≤ 1 := by
  unfold cmpZ
  split
  · omega
  · split <;> omega
theorem Compare_any (x y : Int) (w : World) : Calls Try.prog 93 #[.int .i64 x, .int .i64 y] w fun e w' => e = .returned (.int .i64 (cmpZ x y)) ∧ w = w' := by
  unfold cmpZ
  by_cases h1 : x < y
  · rw [if_pos h1]
    go_enter Try.func93, Try.ntmps93
    go_wp2_with (go_at_call 99; refine (isNaN_any _ _).mono ?_; rintro e w' ⟨rfl, rfl⟩)
    go_ret
    exact ⟨rfl, rfl⟩
  rw [if_neg h1]
  by_cases h2 : y < x
  · rw [if_pos h2]
    go_enter Try.func93, Try.ntmps93
    go_wp2_with (go_at_call 99; refine (isNaN_any _ _).mono ?_; rintro e w' ⟨rfl, rfl⟩)
    go_ret
    exact ⟨rfl, rfl⟩
  · rw [if_neg h2]
    have h3 : x ≤ y := by omega
    have h4 : y ≤ x := by omega
    go_enter Try.func93, Try.ntmps93
    go_wp2_with (go_at_call 99; refine (isNaN_any _ _).mono ?_; rintro e w' ⟨rfl, rfl⟩)
    go_ret
    exact ⟨rfl, rfl⟩
set_option maxRecDepth 100000 in
theorem CompareT_any (x y : ByteArray) (w : World) : Calls Try.prog 92 #[.string x, .string y] w fun e w' => e = .returned (.int .i64 (cmpT x y)) ∧ w = w' := by
  unfold cmpT
  by_cases h1 : ltT x y = true
  · rw [if_pos h1]
    have k1 : Op.bytesLess x.toList y.toList = true := h1
    clear h1
    go_enter Try.func92, Try.ntmps92
    go_wp2_with (go_at_call 87; refine (isNaNS_any _ _).mono ?_; rintro e w' ⟨rfl, rfl⟩)
    go_ret
    exact ⟨rfl, rfl⟩
  rw [if_neg h1]
  have k0 : ltT x y = false := by simpa using h1
  have k1 : Op.bytesLess x.toList y.toList = false := k0
  clear k0
  by_cases h2 : ltT y x = true
  · rw [if_pos h2]
    have k2 := bytes_no (ltT_ne h2).symm
    clear h1 h2
    go_enter Try.func92, Try.ntmps92
    go_wp2_with (go_at_call 87; refine (isNaNS_any _ _).mono ?_; rintro e w' ⟨rfl, rfl⟩)
    go_ret
    exact ⟨rfl, rfl⟩
  · rw [if_neg h2]
    have e : x = y := ltT_total (by simpa using h1) (by simpa using h2)
    have k2 := bytes_yes e
    clear h1 h2 e
    go_enter Try.func92, Try.ntmps92
    go_wp2_with (go_at_call 87; refine (isNaNS_any _ _).mono ?_; rintro e w' ⟨rfl, rfl⟩)
    go_ret
    exact ⟨rfl, rfl⟩
set_option maxRecDepth 100000 in
theorem LessT_any (x y : ByteArray) (w : World) : Calls Try.prog 76 #[.string x, .string y] w (BoolB (ltT x y) w) := by
  obtain ⟨m, hm⟩ : ∃ m, ltT x y = m := ⟨_, rfl⟩
  rw [hm]
  have k1 : Op.bytesLess x.toList y.toList = m := hm
  clear hm
  cases m
  all_goals (
    go_enter Try.func76, Try.ntmps76
    go_wp2_with (go_at_call 87; refine (isNaNS_any _ _).mono ?_; rintro e w' ⟨rfl, rfl⟩)
    go_ret
    exact ⟨rfl, Below.refl _ _⟩)

def OrR (x y : Int) (k : Nat) : Prop := (1 ≤ k → x = 0) ∧ (2 ≤ k → y = 0)
theorem Box.c2 {b : Nat} {c0 c1 : Value} {w : World} (h : Box b [c0, c1] w) : w.cell? ⟨b, 0, none⟩ = some c0 ∧ w.cell? ⟨b, 1, none⟩ = some c1 := ⟨(h.2 0 _ rfl).1, (h.2 1 _ rfl).1⟩
set_option maxRecDepth 100000 in
theorem Or_any {g cap : Nat} {x y : Int} {w : World} (h : Box g [.int .i64 x, .int .i64 y] w) : Calls Try.prog 91 #[.slice (some ⟨g, 0, none⟩) 2 cap] w fun e w' => e = .returned (.int .i64 (orZ x y)) ∧ w = w' := by
  obtain ⟨c0, c1⟩ := h.c2
  clear h
  go_enter Try.func91, Try.ntmps91
  go_wp2
  go_loop [5, 8] (fun _ i => ∃ k : Nat, k ≤ 2 ∧ i = .int .i64 k ∧ OrR x y k) (fun _ i => 2 - (Go.RowKit.intOf i).toNat)
  case atStart => exact ⟨0, by omega, rfl, ⟨by omega, by omega⟩⟩
  case round =>
    obtain ⟨k, hk, rfl, h0⟩ := hrel
    have HH := Lib.hid h0
    clear h0
    rcases (by omega : k = 0 ∨ k = 1 ∨ k = 2) with rfl | rfl | rfl
    · by_cases hx : x = 0
      · subst hx
        go_wp2
        go_round
        case rel => exact ⟨1, by omega, rfl, ⟨fun _ => rfl, by omega⟩⟩
        case measure => simp [Go.RowKit.intOf]
      · have HE : Hid (orZ x y = x) := Lib.hid (if_pos hx)
        have hx1 : (x == 0) = false := by simpa using hx
        have hx2 : (x != 0) = true := by simpa using hx
        clear hx
        go_wp2
        go_ret
        exact ⟨ret_int HE.out.symm, rfl⟩
    · have hx0 := HH.out.1 (by omega)
      by_cases hx : y = 0
      · subst hx
        clear hx0
        go_wp2
        go_round
        case rel => exact ⟨2, by omega, rfl, ⟨fun _ => HH.out.1 (by omega), fun _ => rfl⟩⟩
        case measure => simp [Go.RowKit.intOf]
      · have HE : Hid (orZ x y = y) := Lib.hid (by unfold orZ; rw [if_neg (by simp [hx0])])
        have hx1 : (y == 0) = false := by simpa using hx
        have hx2 : (y != 0) = true := by simpa using hx
        clear hx hx0
        go_wp2
        go_ret
        exact ⟨ret_int HE.out.symm, rfl⟩
    · have HE : Hid (orZ x y = 0) := Lib.hid (by unfold orZ; rw [if_neg (by simp [HH.out.1 (by omega)])]; exact HH.out.2 (by omega))
      go_wp2
      go_ret
      exact ⟨ret_int HE.out.symm, rfl⟩

def sl (x : Sb) : List Value := [.string x.f, .string x.t, .int .i64 x.r, .int .i64 x.n, .int .i64 x.d]
set_option maxRecDepth 100000 in
set_option maxHeartbeats 1000000 in
theorem below_any (a b : Sb) (w : World) : Calls Try.prog 82 #[sv a, sv b] w (BoolB (belowB a b) w) := by
  have HL := Lib.hid (orZ_below a b)
  have h1 := Box.made w (sl a) 100
  have HB1 := Lib.hid (h1.below (al _ (.cells (sl b).toArray 100)))
  have h2 := Box.made (w.alloc (.cells (sl a).toArray 100)) (sl b) 100
  simp only [World.size_alloc] at h2
  have HB2 := Lib.hid h2
  have HBW := Lib.hid (below_trans (al w (.cells (sl a).toArray 100)) (al _ (.cells (sl b).toArray 100)))
  obtain ⟨l1, u1⟩ := cmpZ_bd a.r b.r
  obtain ⟨k0, e0⟩ : ∃ k, cmpT a.f b.f = k := ⟨_, rfl⟩
  obtain ⟨k1, e1⟩ : ∃ k, cmpZ a.r b.r = k := ⟨_, rfl⟩
  have HC0 := Lib.hid (fun W => e0 ▸ CompareT_any a.f b.f W)
  have HC1 := Lib.hid (fun W => e1 ▸ Compare_any a.r b.r W)
  rw [e0, e1] at HL
  clear h1 h2 e0 e1 l1 u1
  generalize belowB a b = m at HL ⊢
  unfold sl at HB1 HB2 HBW
  unfold sv
  generalize a.f = af at *
  generalize a.t = at' at *
  generalize a.r = ar at *
  generalize a.n = an at *
  generalize a.d = ad at *
  generalize b.f = bf at *
  generalize b.t = bt at *
  generalize b.r = br at *
  generalize b.n = bn at *
  generalize b.d = bd at *
  go_enter Try.func82, Try.ntmps82
  go_upto_region 1 with (fail)
  generalize hW : (w.alloc (.cells #[.string af, .string at', .int .i64 ar, .int .i64 an, .int .i64 ad] 100)).alloc (.cells #[.string bf, .string bt, .int .i64 br, .int .i64 bn, .int .i64 bd] 100) = W at HB1 HB2 HBW ⊢
  clear hW
  obtain ⟨c0, _, c2, _, _⟩ := HB1.out.c5
  obtain ⟨d0, _, d2, _, _⟩ := HB2.out.c5
  have hs1 := HB1.out.1
  have hs2 := HB2.out.1
  go_region_held3 (fun w' => w'.cell? ⟨w.heap.size, 0, none⟩ = some (.string af) ∧ w'.cell? ⟨w.heap.size, 2, none⟩ = some (.int .i64 ar) ∧ w'.cell? ⟨w.heap.size + 1, 0, none⟩ = some (.string bf) ∧ w'.cell? ⟨w.heap.size + 1, 2, none⟩ = some (.int .i64 br)) (go_keep)
    (first
      | (go_at_call 92; (with_reducible refine (HC0.out _).mono ?_); rintro e w' ⟨rfl, rfl⟩)
      | (go_at_call 93; (with_reducible refine (HC1.out _).mono ?_); rintro e w' ⟨rfl, rfl⟩)
      | (go_at_call 91; refine (Or_any (x := k0) (y := k1) ((Box.made W [.int .i64 k0, .int .i64 k1] 3).below (dr _))).mono ?_; rintro e w' ⟨rfl, rfl⟩)
      | fail)
  go_wp2_with fail
  go_ret
  refine ⟨ret_bool ?_, below_trans (below_trans HBW.out (al W (.cells #[.int .i64 k0, .int .i64 k1] 3))) (dr _)⟩
  cases m with
  | true => exact decide_eq_true (HL.out.2 rfl)
  | false => exact decide_eq_false (fun h => by have := HL.out.1 h; cases this)

set_option maxRecDepth 100000 in
set_option maxHeartbeats 1000000 in
theorem sameTo_any (a b : Sb) (w : World) : Calls Try.prog 95 #[sv a, sv b] w (BoolB (toB a b) w) := by
  have HBW := Lib.hid (below_trans (al w (.cells #[.string a.f, .string a.t, .int .i64 a.r, .int .i64 a.n, .int .i64 a.d] 100)) (al _ (.cells #[.string b.f, .string b.t, .int .i64 b.r, .int .i64 b.n, .int .i64 b.d] 100)))
  unfold toB
  unfold sv
  by_cases h1 : a.f = b.f
  · have e1 := bytes_yes h1
    by_cases h2 : a.t = b.t
    · have HE : Hid (decide (a.f = b.f ∧ a.t = b.t) = true) := Lib.hid (decide_eq_true ⟨h1, h2⟩)
      have e2 := bytes_yes h2
      generalize decide (a.f = b.f ∧ a.t = b.t) = m at HE ⊢
      clear h1 h2
      go_enter Try.func95, Try.ntmps95
      go_wp2
      go_ret
      exact ⟨ret_bool HE.out.symm, HBW.out⟩
    · have HE : Hid (decide (a.f = b.f ∧ a.t = b.t) = false) := Lib.hid (decide_eq_false (fun h => h2 h.2))
      have e2 := bytes_no h2
      generalize decide (a.f = b.f ∧ a.t = b.t) = m at HE ⊢
      clear h1 h2
      go_enter Try.func95, Try.ntmps95
      go_wp2
      go_ret
      exact ⟨ret_bool HE.out.symm, HBW.out⟩
  · have e1 := bytes_no h1
    have HE : Hid (decide (a.f = b.f ∧ a.t = b.t) = false) := Lib.hid (decide_eq_false (fun h => h1 h.1))
    generalize decide (a.f = b.f ∧ a.t = b.t) = m at HE ⊢
    clear h1
    go_enter Try.func95, Try.ntmps95
    go_wp2
    go_ret
    exact ⟨ret_bool HE.out.symm, HBW.out⟩

set_option maxRecDepth 100000 in
theorem standTwice1_any (x s : Sb) {g : Nat} {w : World} (h : Box g (sl s) w) : Calls Try.prog 94 #[sv x, .pointer (some ⟨g, 0, none⟩)] w (BoolB (toB x s) w) := by
  have HC := Lib.hid (fun W => sameTo_any x s W)
  have HB := Lib.hid (al w (.cells #[.string x.f, .string x.t, .int .i64 x.r, .int .i64 x.n, .int .i64 x.d] 100))
  unfold sl at h
  have hg := h.1
  obtain ⟨c0, c1, c2, c3, c4⟩ := h.c5
  clear h
  unfold sv at HC ⊢
  generalize toB x s = m at HC ⊢
  go_enter Try.func94, Try.ntmps94
  go_wp2_with fail
  (with_reducible refine (HC.out _).mono ?_)
  rintro e w' ⟨rfl, hz⟩
  have HZ := Lib.hid (below_trans HB.out hz)
  clear hz
  go_wp2_with fail
  go_ret
  exact ⟨rfl, HZ.out⟩

/-- Do two rules clash? -/
def clashB (x s : Sb) : Bool := rankB x s || toB x s
/-- What the rules of goods must be. -/
def okS (s : List ByteArray) (x : Sb) : Bool := mayB x && amongB x s
set_option maxRecDepth 100000 in
theorem subs1_any (x : Sb) (hx : small x) {s : List ByteArray} (hl : s.length ≤ 1000) {v : Value} {g : Nat} {w : World} (h : Box g [v] w) (hr : TRow w v s) : Calls Try.prog 78 #[sv x, .pointer (some ⟨g, 0, none⟩)] w (BoolB (okS s x) w) := by
  have HC := Lib.hid (fun W => ruleMayBe_any x hx W)
  have HD := Lib.hid (fun W (hb : Below w.heap.size w W) => among_any x (hr.below hb) hl)
  have HB := Lib.hid (al w (.cells #[.string x.f, .string x.t, .int .i64 x.r, .int .i64 x.n, .int .i64 x.d] 100))
  have HX := Lib.hid (Box.made w [.string x.f, .string x.t, .int .i64 x.r, .int .i64 x.n, .int .i64 x.d] 100)
  have HG := Lib.hid h
  obtain ⟨a, cap, rfl⟩ := hr.slice
  clear h hr
  unfold okS
  unfold sv at HC HD ⊢
  generalize amongB x s = n at HD ⊢
  cases hm : mayB x with
  | false =>
    rw [hm] at HC
    clear hm HD HX HG
    go_enter Try.func78, Try.ntmps78
    go_wp2_with fail
    (with_reducible refine (HC.out _).mono ?_)
    rintro e w' ⟨rfl, hz⟩
    have HZ := Lib.hid (below_trans HB.out hz)
    clear hz
    go_wp2_with fail
    go_ret
    exact ⟨rfl, HZ.out⟩
  | true =>
    rw [hm] at HC
    clear hm
    go_enter Try.func78, Try.ntmps78
    go_wp2_with fail
    (with_reducible refine (HC.out _).mono ?_)
    rintro e w' ⟨rfl, hz⟩
    have HZ := Lib.hid (below_trans HB.out hz)
    obtain ⟨x0, x1, x2, x3, x4⟩ := (HX.out.below hz).c5
    have y0 := ((HG.out.below HZ.out).2 0 _ rfl).1
    have hs1 := (HX.out.below hz).1
    have hs2 := (HG.out.below HZ.out).1
    clear hz
    go_wp2_with fail
    (with_reducible refine (HD.out _ HZ.out).mono ?_)
    rintro e w'' ⟨rfl, hz⟩
    have HZ2 := Lib.hid (below_trans HZ.out hz)
    clear hz
    go_wp2_with fail
    go_ret
    exact ⟨rfl, HZ2.out⟩
end Go.Proofs.Ytjmmijobdcepmaa.Goods
