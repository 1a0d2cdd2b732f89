/-
  Contracts of package goods: whether each is such (all), whether a row rises (rises), whether something stands for the same twice (standTwice), which goods may be (Right).
-/
import Derived.Test.YtjmmijobdcepmaaGClos
namespace Go.Proofs.Ytjmmijobdcepmaa.Goods
open Go.ChangeShapes Go.WideShapes Go.ChangeAt Go.RowKit Go.Shelf

theorem makes (fn : Fn) (first cap : Array Value) (w : World) : (Instr.makeFunc fn first cap).run Try.prog w = .ok (.func fn first cap) w := rfl

set_option maxRecDepth 100000 in
theorem allT1_any (x : ByteArray) (hx : x.size ≤ 1000000) {g : Nat} {w : World} (h : Box g [.func (.func 74) #[] #[]] w) : Calls Try.prog 86 #[.string x, .pointer (some ⟨g, 0, none⟩)] w (BoolB (!nameB x) w) := by
  have HC := Lib.hid (fun W => isName_any x hx W)
  have hg := h.1
  have c0 := (h.2 0 _ rfl).1
  clear h
  generalize nameB x = m at HC ⊢
  go_enter Try.func86, Try.ntmps86
  go_wp2_with (go_at_call 74; (with_reducible refine (HC.out _).mono ?_); rintro e w' ⟨rfl, hz⟩; have HZ := Lib.hid hz; clear hz)
  go_ret
  exact ⟨rfl, HZ.out⟩
set_option maxRecDepth 100000 in
theorem allS1_any (x : Sb) (hx : small x) {s : List ByteArray} (hl : s.length ≤ 1000) {v : Value} {g g2 : Nat} {w : World} (h : Box g [.func (.func 78) #[] #[.pointer (some ⟨g2, 0, none⟩)]] w) (h2 : Box g2 [v] w) (hr : TRow w v s) : Calls Try.prog 89 #[sv x, .pointer (some ⟨g, 0, none⟩)] w (BoolB (!okS s x) w) := by
  have HB := Lib.hid (al w (.cells #[.string x.f, .string x.t, .int .i64 x.r, .int .i64 x.n, .int .i64 x.d] 100))
  have hc := subs1_any x hx hl (h2.below HB.out) (hr.below HB.out)
  have hg := h.1
  have c0 := (h.2 0 _ rfl).1
  clear h h2 hr
  generalize okS s x = m at hc ⊢
  unfold sv at hc ⊢
  have HC := Lib.hid hc
  clear hc
  go_enter Try.func89, Try.ntmps89
  go_wp2_with (go_at_call 78; (with_reducible refine HC.out.mono ?_); rintro e w' ⟨rfl, hz⟩; have HZ := Lib.hid (below_trans HB.out hz); clear hz)
  go_ret
  exact ⟨rfl, HZ.out⟩

theorem any_not {α : Type} (p : α → Bool) (l : List α) : (!l.any fun x => !p x) = l.all p := by
  induction l with
  | nil => rfl
  | cons a l ih => simp only [List.any_cons, List.all_cons, Bool.not_or, Bool.not_not, ih]

set_option maxRecDepth 100000 in
theorem allT_any {v : Value} {l : List ByteArray} {w : World} (h : TRow w v l) (hl : l.length ≤ 1000) (hs : ∀ x ∈ l, x.size ≤ 1000000) : Calls Try.prog 73 #[v, .func (.func 74) #[] #[]] w (BoolB (l.all nameB) w) := by
  have hb := al w (.cells #[.func (.func 74) #[] #[]] 61)
  have hx := Box.made w [.func (.func 74) #[] #[]] 61
  have HC := Lib.hid (ContainsFuncT_any 86 (enters_of Try.func86 (by kernel_rfl) rfl) w.heap.size (fun x => !nameB x) (fun x hm W hW => allT1_any x (hs x hm) (hx.below hW)) (h.below hb) hl)
  have HB := Lib.hid hb
  have HE := Lib.hid (any_not nameB l)
  obtain ⟨a, cap, rfl⟩ := h.slice
  have hmf := makes
  clear h hb hx
  generalize l.any (fun x => !nameB x) = m at HC HE
  rw [← HE.out]
  clear HE
  go_enter Try.func73, Try.ntmps73
  go_wp2_with fail
  (with_reducible refine HC.out.mono ?_)
  rintro e w' ⟨rfl, hz⟩
  have HZ := Lib.hid (below_trans HB.out hz)
  clear hz
  go_wp2_with fail
  go_ret
  exact ⟨rfl, HZ.out⟩
set_option maxRecDepth 100000 in
theorem allS_any {v u : Value} {l : List Sb} {s : List ByteArray} {g2 : Nat} {w : World} (h : GRow w v l) (hl : l.length ≤ 1000) (hs : ∀ x ∈ l, small x) (hsl : s.length ≤ 1000) (h2 : Box g2 [u] w) (hr : TRow w u s) : Calls Try.prog 77 #[v, .func (.func 78) #[] #[.pointer (some ⟨g2, 0, none⟩)]] w (BoolB (l.all (okS s)) w) := by
  have hb := al w (.cells #[.func (.func 78) #[] #[.pointer (some ⟨g2, 0, none⟩)]] 101)
  have hx := Box.made w [.func (.func 78) #[] #[.pointer (some ⟨g2, 0, none⟩)]] 101
  have HC := Lib.hid (ContainsFuncS_any 89 (enters_of Try.func89 (by kernel_rfl) rfl) w.heap.size (fun x => !okS s x) (fun x hm W hW => allS1_any x (hs x hm) hsl (hx.below hW) (h2.below (below_trans hb hW)) (hr.below (below_trans hb hW))) (h.below hb) hl)
  have HB := Lib.hid hb
  have HE := Lib.hid (any_not (okS s) l)
  obtain ⟨a, cap, rfl⟩ := h.slice
  have hmf := makes
  clear h hb hx h2 hr
  generalize l.any (fun x => !okS s x) = m at HC HE
  rw [← HE.out]
  clear HE
  go_enter Try.func77, Try.ntmps77
  go_wp2_with fail
  (with_reducible refine HC.out.mono ?_)
  rintro e w' ⟨rfl, hz⟩
  have HZ := Lib.hid (below_trans HB.out hz)
  clear hz
  go_wp2_with fail
  go_ret
  exact ⟨rfl, HZ.out⟩

def RiseR {α : Type} (lt : α → α → Bool) (l : List α) (k : Nat) (w W : World) : Prop := Upto lt l k ∧ Below w.heap.size w W

set_option maxRecDepth 100000 in
set_option maxHeartbeats 1000000 in
theorem risesT_any {v : Value} {l : List ByteArray} {w : World} (h : TRow w v l) (_hl : l.length ≤ 1000) : Calls Try.prog 75 #[v, .func (.func 76) #[] #[]] w (BoolB (risesB ltT l) w) := by
  obtain ⟨a, cap, rfl⟩ := h.slice
  have H := Lib.hid h
  clear h
  go_enter Try.func75, Try.ntmps75
  go_wp2
  go_loopw [5] (fun i wr => ∃ k : Nat, 1 ≤ k ∧ (k ≤ l.length ∨ k = 1) ∧ i = .int .i64 k ∧ RiseR ltT l k w wr) (fun i _ => l.length + 1 - (Go.RowKit.intOf i).toNat)
  case atStart => exact ⟨1, Nat.le_refl _, .inr rfl, rfl, fun j _ h => by omega, Below.refl _ _⟩
  case round =>
    obtain ⟨k, hk1, hk, rfl, hr⟩ := hrel
    have HR := Lib.hid hr
    clear hr
    by_cases hlt : k < l.length
    · obtain ⟨q, rfl⟩ : ∃ q, k = q + 1 := ⟨k - 1, by omega⟩
      have hq : q < l.length := by omega
      obtain ⟨b, off, rfl, hlc, hcap, hb, k0⟩ := (H.out.below HR.out.2).at hlt
      obtain ⟨b', off', e', _, _, _, m0⟩ := (H.out.below HR.out.2).at hq
      cases e'
      have hn := fun W => LessT_any l[q] l[q + 1] W
      have HUP := Lib.hid (fun e => upto_succ (lt := ltT) HR.out.1 hk1 hlt e)
      have HNO := Lib.hid (fun e => rises_no (lt := ltT) hk1 hlt e)
      simp only [Nat.add_sub_cancel] at HUP HNO
      have c2 : IntKind.i64.wrap (q : Int) = q := IntWalk.i64_in _ (by omega)
      have c3 : (0 : Int) ≤ q := by omega
      have c4 : (q : Int) < l.length := by omega
      have c5 : (0 : Int) ≤ (q : Int) + 1 := by omega
      have c6 : (q : Int) + 1 < l.length := by omega
      have HSF : Hid (∀ w', Below wr.heap.size wr w' → w'.cell? ⟨b, off + (q + 1), none⟩ = some (.string l[q + 1]) ∧ w'.cell? ⟨b, off + q, none⟩ = some (.string l[q])) := Lib.hid (fun w' hz => ⟨(hz.cell (p := ⟨b, _, none⟩) hb).trans k0, (hz.cell (p := ⟨b, _, none⟩) hb).trans m0⟩)
      generalize l[q] = x at *
      generalize l[q + 1] = y at *
      cases hm : ltT x y with
      | true =>
        rw [hm] at hn
        have HN := Lib.hid hn
        have HUP2 := Lib.hid (HUP.out hm)
        clear hm hn HNO HUP
        go_wp2_with fail
        go_region_held3 (fun w' => w'.cell? ⟨b, off + (q + 1), none⟩ = some (.string y) ∧ w'.cell? ⟨b, off + q, none⟩ = some (.string x)) (first | with_reducible exact HSF.out _ (dr wr) | with_reducible exact HSF.out _ HZ.out | fail)
          (first
            | (go_at_call 76; (with_reducible refine (HN.out _).mono ?_); rintro e w5 ⟨rfl, hz⟩; have HZ := Lib.hid (below_trans (dr wr) hz); clear hz)
            | fail)
        go_wp2_with fail
        go_roundw
        case rel => exact ⟨q + 1 + 1, by omega, by omega, by go_num, HUP2.out, below_trans HR.out.2 HZ.out⟩
        case measure => simp [Go.RowKit.intOf]; omega
      | false =>
        rw [hm] at hn
        have HN := Lib.hid hn
        have HNO2 := Lib.hid (HNO.out hm)
        clear hm hn HNO HUP
        go_wp2_with fail
        go_region_held3 (fun w' => w'.cell? ⟨b, off + (q + 1), none⟩ = some (.string y) ∧ w'.cell? ⟨b, off + q, none⟩ = some (.string x)) (first | with_reducible exact HSF.out _ (dr wr) | with_reducible exact HSF.out _ HZ.out | fail)
          (first
            | (go_at_call 76; (with_reducible refine (HN.out _).mono ?_); rintro e w5 ⟨rfl, hz⟩; have HZ := Lib.hid (below_trans (dr wr) hz); clear hz)
            | fail)
        go_wp2_with fail
        go_ret
        exact ⟨ret_bool HNO2.out.symm, below_trans HR.out.2 HZ.out⟩
    · have HY : Hid (risesB ltT l = true) := Lib.hid (rises_yes (lt := ltT) (fun _ _ _ h1 h2 => ltT_trans h1 h2) HR.out.1 (by omega))
      go_wp2
      go_ret
      exact ⟨ret_bool HY.out.symm, HR.out.2⟩

set_option maxRecDepth 100000 in
set_option maxHeartbeats 1000000 in
theorem risesS_any {v : Value} {l : List Sb} {w : World} (h : GRow w v l) (_hl : l.length ≤ 1000) : Calls Try.prog 81 #[v, .func (.func 82) #[] #[]] w (BoolB (risesB belowB l) w) := by
  obtain ⟨a, cap, rfl⟩ := h.slice
  have H := Lib.hid h
  clear h
  go_enter Try.func81, Try.ntmps81
  go_wp2
  go_loopw [5] (fun i wr => ∃ k : Nat, 1 ≤ k ∧ (k ≤ l.length ∨ k = 1) ∧ i = .int .i64 k ∧ RiseR belowB l k w wr) (fun i _ => l.length + 1 - (Go.RowKit.intOf i).toNat)
  case atStart => exact ⟨1, Nat.le_refl _, .inr rfl, rfl, fun j _ h => by omega, Below.refl _ _⟩
  case round =>
    obtain ⟨k, hk1, hk, rfl, hr⟩ := hrel
    have HR := Lib.hid hr
    clear hr
    by_cases hlt : k < l.length
    · obtain ⟨q, rfl⟩ : ∃ q, k = q + 1 := ⟨k - 1, by omega⟩
      have hq : q < l.length := by omega
      obtain ⟨b, off, rfl, hlc, hcap, hb, k0, k1, k2, k3, k4⟩ := (H.out.below HR.out.2).at hlt
      obtain ⟨b', off', e', _, _, _, m0, m1, m2, m3, m4⟩ := (H.out.below HR.out.2).at hq
      cases e'
      have hn := fun W => below_any l[q] l[q + 1] W
      unfold sv at hn
      have HUP := Lib.hid (fun e => upto_succ (lt := belowB) HR.out.1 hk1 hlt e)
      have HNO := Lib.hid (fun e => rises_no (lt := belowB) hk1 hlt e)
      simp only [Nat.add_sub_cancel] at HUP HNO
      have c2 : IntKind.i64.wrap (q : Int) = q := IntWalk.i64_in _ (by omega)
      have c3 : (0 : Int) ≤ q := by omega
      have c4 : (q : Int) < l.length := by omega
      have c5 : (0 : Int) ≤ (q : Int) + 1 := by omega
      have c6 : (q : Int) + 1 < l.length := by omega
      have HSF : Hid (∀ w', Below wr.heap.size wr w' → w'.cell? ⟨b, off + (q + 1) * 5, none⟩ = some (.string l[q + 1].f) ∧ w'.cell? ⟨b, off + (q + 1) * 5 + 1, none⟩ = some (.string l[q + 1].t) ∧ w'.cell? ⟨b, off + (q + 1) * 5 + 2, none⟩ = some (.int .i64 l[q + 1].r) ∧ w'.cell? ⟨b, off + (q + 1) * 5 + 3, none⟩ = some (.int .i64 l[q + 1].n) ∧ w'.cell? ⟨b, off + (q + 1) * 5 + 4, none⟩ = some (.int .i64 l[q + 1].d) ∧ w'.cell? ⟨b, off + q * 5, none⟩ = some (.string l[q].f) ∧ w'.cell? ⟨b, off + q * 5 + 1, none⟩ = some (.string l[q].t) ∧ w'.cell? ⟨b, off + q * 5 + 2, none⟩ = some (.int .i64 l[q].r) ∧ w'.cell? ⟨b, off + q * 5 + 3, none⟩ = some (.int .i64 l[q].n) ∧ w'.cell? ⟨b, off + q * 5 + 4, none⟩ = some (.int .i64 l[q].d)) := Lib.hid (fun w' hz => ⟨(hz.cell (p := ⟨b, _, none⟩) hb).trans k0, (hz.cell (p := ⟨b, _, none⟩) hb).trans k1, (hz.cell (p := ⟨b, _, none⟩) hb).trans k2, (hz.cell (p := ⟨b, _, none⟩) hb).trans k3, (hz.cell (p := ⟨b, _, none⟩) hb).trans k4, (hz.cell (p := ⟨b, _, none⟩) hb).trans m0, (hz.cell (p := ⟨b, _, none⟩) hb).trans m1, (hz.cell (p := ⟨b, _, none⟩) hb).trans m2, (hz.cell (p := ⟨b, _, none⟩) hb).trans m3, (hz.cell (p := ⟨b, _, none⟩) hb).trans m4⟩)
      generalize l[q] = x at *
      generalize l[q + 1] = y at *
      cases hm : belowB x y with
      | true =>
        rw [hm] at hn
        have HN := Lib.hid hn
        have HUP2 := Lib.hid (HUP.out hm)
        clear hm hn HNO HUP
        go_wp2_with fail
        go_region_held3 (fun w' => w'.cell? ⟨b, off + (q + 1) * 5, none⟩ = some (.string y.f) ∧ w'.cell? ⟨b, off + (q + 1) * 5 + 1, none⟩ = some (.string y.t) ∧ w'.cell? ⟨b, off + (q + 1) * 5 + 2, none⟩ = some (.int .i64 y.r) ∧ w'.cell? ⟨b, off + (q + 1) * 5 + 3, none⟩ = some (.int .i64 y.n) ∧ w'.cell? ⟨b, off + (q + 1) * 5 + 4, none⟩ = some (.int .i64 y.d) ∧ w'.cell? ⟨b, off + q * 5, none⟩ = some (.string x.f) ∧ w'.cell? ⟨b, off + q * 5 + 1, none⟩ = some (.string x.t) ∧ w'.cell? ⟨b, off + q * 5 + 2, none⟩ = some (.int .i64 x.r) ∧ w'.cell? ⟨b, off + q * 5 + 3, none⟩ = some (.int .i64 x.n) ∧ w'.cell? ⟨b, off + q * 5 + 4, none⟩ = some (.int .i64 x.d)) (first | with_reducible exact HSF.out _ (dr wr) | with_reducible exact HSF.out _ HZ.out | fail)
          (first
            | (go_at_call 82; (with_reducible refine (HN.out _).mono ?_); rintro e w5 ⟨rfl, hz⟩; have HZ := Lib.hid (below_trans (dr wr) hz); clear hz)
            | fail)
        go_wp2_with fail
        go_roundw
        case rel => exact ⟨q + 1 + 1, by omega, by omega, by go_num, HUP2.out, below_trans HR.out.2 HZ.out⟩
        case measure => simp [Go.RowKit.intOf]; omega
      | false =>
        rw [hm] at hn
        have HN := Lib.hid hn
        have HNO2 := Lib.hid (HNO.out hm)
        clear hm hn HNO HUP
        go_wp2_with fail
        go_region_held3 (fun w' => w'.cell? ⟨b, off + (q + 1) * 5, none⟩ = some (.string y.f) ∧ w'.cell? ⟨b, off + (q + 1) * 5 + 1, none⟩ = some (.string y.t) ∧ w'.cell? ⟨b, off + (q + 1) * 5 + 2, none⟩ = some (.int .i64 y.r) ∧ w'.cell? ⟨b, off + (q + 1) * 5 + 3, none⟩ = some (.int .i64 y.n) ∧ w'.cell? ⟨b, off + (q + 1) * 5 + 4, none⟩ = some (.int .i64 y.d) ∧ w'.cell? ⟨b, off + q * 5, none⟩ = some (.string x.f) ∧ w'.cell? ⟨b, off + q * 5 + 1, none⟩ = some (.string x.t) ∧ w'.cell? ⟨b, off + q * 5 + 2, none⟩ = some (.int .i64 x.r) ∧ w'.cell? ⟨b, off + q * 5 + 3, none⟩ = some (.int .i64 x.n) ∧ w'.cell? ⟨b, off + q * 5 + 4, none⟩ = some (.int .i64 x.d)) (first | with_reducible exact HSF.out _ (dr wr) | with_reducible exact HSF.out _ HZ.out | fail)
          (first
            | (go_at_call 82; (with_reducible refine (HN.out _).mono ?_); rintro e w5 ⟨rfl, hz⟩; have HZ := Lib.hid (below_trans (dr wr) hz); clear hz)
            | fail)
        go_wp2_with fail
        go_ret
        exact ⟨ret_bool HNO2.out.symm, below_trans HR.out.2 HZ.out⟩
    · have HY : Hid (risesB belowB l = true) := Lib.hid (rises_yes (lt := belowB) (fun _ _ _ h1 h2 => belowB_trans h1 h2) HR.out.1 (by omega))
      go_wp2
      go_ret
      exact ⟨ret_bool HY.out.symm, HR.out.2⟩

set_option maxRecDepth 100000 in
set_option maxHeartbeats 1000000 in
theorem standTwice_any {v : Value} {l : List Sb} {w : World} (h : GRow w v l) (hl : l.length ≤ 1000) : Calls Try.prog 83 #[v] w (BoolB (twiceB l) w) := by
  obtain ⟨a, cap, rfl⟩ := h.slice
  have H := Lib.hid h
  have hmf := makes
  clear h
  go_enter Try.func83, Try.ntmps83
  go_wp2
  go_loopw [3, 4, 7] (fun _ _ i wr => ∃ k : Nat, k ≤ l.length ∧ i = .int .i64 k ∧ OnceTo l k ∧ Below w.heap.size w wr) (fun _ _ i _ => l.length - (Go.RowKit.intOf i).toNat)
  case atStart => exact ⟨0, Nat.zero_le _, rfl, fun _ _ h => by omega, Below.refl _ _⟩
  case round =>
    obtain ⟨k, hk, rfl, hon, hbe⟩ := hrel
    have HO := Lib.hid hon
    have HBE := Lib.hid hbe
    clear hon hbe
    by_cases hlt : k < l.length
    · obtain ⟨hlc, hcap⟩ := H.out.cap.2
      obtain ⟨b, off, rfl, _, _, hb, k0, k1, k2, k3, k4⟩ := (H.out.below HBE.out).at hlt
      have hbx := Box.made wr (sl l[k]) 100
      have hb2 := al wr (.cells (sl l[k]).toArray 100)
      have HC := Lib.hid (ContainsFuncS_any 94 (enters_of Try.func94 (by kernel_rfl) rfl) wr.heap.size (fun x => toB x l[k]) (fun x _ W hW => standTwice1_any x l[k] (hbx.below hW)) ((((H.out.below HBE.out).below hb2).take (n := k) (by omega))) (by rw [List.length_take]; omega))
      have HB2 := Lib.hid (below_trans HBE.out hb2)
      have HON := Lib.hid (fun e => once_succ HO.out hlt e)
      have HTW := Lib.hid (fun e => twice_at hlt e)
      unfold sl at HC HB2
      clear hbx hb2
      generalize (l.take k).any (fun x => toB x l[k]) = m at HC HON HTW
      cases m with
      | true =>
        have HT := Lib.hid (HTW.out rfl)
        clear HON HTW
        go_wp2_with fail
        (with_reducible refine HC.out.mono ?_)
        rintro e w' ⟨rfl, hz⟩
        have HZ := Lib.hid (below_trans HB2.out hz)
        clear hz
        go_wp2_with fail
        go_ret
        exact ⟨ret_bool HT.out.symm, HZ.out⟩
      | false =>
        have HT := Lib.hid (HON.out rfl)
        clear HON HTW
        go_wp2_with fail
        (with_reducible refine HC.out.mono ?_)
        rintro e w' ⟨rfl, hz⟩
        have HZ := Lib.hid (below_trans HB2.out hz)
        clear hz
        go_wp2_with fail
        go_roundw
        case rel => exact ⟨k + 1, by omega, by go_num, HT.out, HZ.out⟩
        case measure => simp [Go.RowKit.intOf]; omega
    · have HT := Lib.hid (once_twice HO.out (by omega))
      go_wp2
      go_ret
      exact ⟨ret_bool HT.out.symm, HBE.out⟩

set_option maxRecDepth 100000 in
set_option maxHeartbeats 1000000 in
theorem skusMayBe_any {v : Value} {l : List ByteArray} {w : World} (h : TRow w v l) (hl : l.length ≤ 1000) (hs : ∀ x ∈ l, x.size ≤ 1000000) : Calls Try.prog 59 #[v] w (BoolB (skusB l) w) := by
  have HA := Lib.hid (allT_any h hl hs)
  have HR := Lib.hid (fun W (hb : Below w.heap.size w W) => risesT_any (h.below hb) hl)
  obtain ⟨a, cap, rfl⟩ := h.slice
  clear h
  unfold skusB
  generalize l.all nameB = m at HA ⊢
  generalize risesB ltT l = n at HR ⊢
  by_cases h8 : l.length ≤ 8
  · rw [decide_eq_true h8, Bool.true_and]
    cases m with
    | false =>
      go_enter Try.func59, Try.ntmps59
      go_wp2_with fail
      (with_reducible refine HA.out.mono ?_)
      rintro e w' ⟨rfl, hz⟩
      have HZ := Lib.hid hz
      clear hz
      go_wp2_with fail
      go_ret
      exact ⟨ret_bool (by simp), HZ.out⟩
    | true =>
      go_enter Try.func59, Try.ntmps59
      go_wp2_with fail
      (with_reducible refine HA.out.mono ?_)
      rintro e w' ⟨rfl, hz⟩
      have HZ := Lib.hid hz
      clear hz
      go_wp2_with fail
      (with_reducible refine (HR.out _ HZ.out).mono ?_)
      rintro e w'' ⟨rfl, hz⟩
      have HZ2 := Lib.hid (below_trans HZ.out hz)
      clear hz
      go_wp2_with fail
      go_ret
      exact ⟨ret_bool (by simp), HZ2.out⟩
  · rw [decide_eq_false h8, Bool.false_and, Bool.false_and]
    go_enter Try.func59, Try.ntmps59
    go_wp2_with fail
    go_ret
    exact ⟨rfl, Below.refl _ _⟩

set_option maxRecDepth 100000 in
set_option maxHeartbeats 2000000 in
theorem subsMayBe_any {v u : Value} {l : List Sb} {s : List ByteArray} {w : World} (h : GRow w v l) (hl : l.length ≤ 1000) (hs : ∀ x ∈ l, small x) (hr : TRow w u s) (hsl : s.length ≤ 1000) : Calls Try.prog 60 #[v, u] w (BoolB (subsB l s) w) := by
  have hb := al w (.cells #[u] 73)
  have hx := Box.made w [u] 73
  have HA := Lib.hid (allS_any (h.below hb) hl hs hsl hx (hr.below hb))
  have HR := Lib.hid (fun W (hb : Below w.heap.size w W) => risesS_any (h.below hb) hl)
  have HT := Lib.hid (fun W (hb : Below w.heap.size w W) => standTwice_any (h.below hb) hl)
  have HB := Lib.hid hb
  obtain ⟨a, cap, rfl⟩ := h.slice
  obtain ⟨a', cap', rfl⟩ := hr.slice
  have hmf := makes
  clear h hr hb hx
  have HE : Hid (subsB l s = (decide (l.length ≤ 16) && l.all (okS s) && risesB belowB l && !twiceB l)) := Lib.hid rfl
  rw [HE.out]
  clear HE
  generalize l.all (okS s) = m at HA ⊢
  generalize risesB belowB l = n at HR ⊢
  generalize twiceB l = t at HT ⊢
  by_cases h16 : l.length ≤ 16
  · rw [decide_eq_true h16, Bool.true_and]
    cases m with
    | false =>
      go_enter Try.func60, Try.ntmps60
      go_wp2_with fail
      (with_reducible refine HA.out.mono ?_)
      rintro e w' ⟨rfl, hz⟩
      have HZ := Lib.hid (below_trans HB.out hz)
      clear hz
      go_wp2_with fail
      go_ret
      exact ⟨ret_bool (by simp), HZ.out⟩
    | true =>
      cases n with
      | false =>
        go_enter Try.func60, Try.ntmps60
        go_wp2_with fail
        (with_reducible refine HA.out.mono ?_)
        rintro e w' ⟨rfl, hz⟩
        have HZ := Lib.hid (below_trans HB.out hz)
        clear hz
        go_wp2_with fail
        (with_reducible refine (HR.out _ HZ.out).mono ?_)
        rintro e w'' ⟨rfl, hz⟩
        have HZ2 := Lib.hid (below_trans HZ.out hz)
        clear hz
        go_wp2_with fail
        go_ret
        exact ⟨ret_bool (by simp), HZ2.out⟩
      | true =>
        go_enter Try.func60, Try.ntmps60
        go_wp2_with fail
        (with_reducible refine HA.out.mono ?_)
        rintro e w' ⟨rfl, hz⟩
        have HZ := Lib.hid (below_trans HB.out hz)
        clear hz
        go_wp2_with fail
        (with_reducible refine (HR.out _ HZ.out).mono ?_)
        rintro e w'' ⟨rfl, hz⟩
        have HZ2 := Lib.hid (below_trans HZ.out hz)
        clear hz
        go_wp2_with fail
        (with_reducible refine (HT.out _ HZ2.out).mono ?_)
        rintro e w3 ⟨rfl, hz⟩
        have HZ3 := Lib.hid (below_trans HZ2.out hz)
        clear hz
        go_wp2_with fail
        go_ret
        exact ⟨ret_bool (by simp), HZ3.out⟩
  · rw [decide_eq_false h16, Bool.false_and, Bool.false_and, Bool.false_and]
    go_enter Try.func60, Try.ntmps60
    go_wp2_with fail
    go_ret
    exact ⟨rfl, HB.out⟩

/-- Goods that lie in memory, and are not too long. -/
def GGood (w : World) (v u : Value) (s : List ByteArray) (l : List Sb) : Prop := TRow w v s ∧ GRow w u l
def Short (s : List ByteArray) (l : List Sb) : Prop := s.length ≤ 1000 ∧ l.length ≤ 1000 ∧ (∀ x ∈ s, x.size ≤ 1000000) ∧ ∀ x ∈ l, small x
theorem GGood.below {w w' : World} {v u : Value} {s : List ByteArray} {l : List Sb} (h : GGood w v u s l) (hb : Below w.heap.size w w') : GGood w' v u s l := ⟨h.1.below hb, h.2.below hb⟩

set_option maxRecDepth 100000 in
set_option maxHeartbeats 1000000 in
theorem Right_any {v u : Value} {s : List ByteArray} {l : List Sb} {w : World} (h : GGood w v u s l) (hs : Short s l) : Calls Try.prog 46 #[.agg #[v, u]] w (BoolB (rightB s l) w) := by
  obtain ⟨h1, h2⟩ := h
  obtain ⟨s1, s2, s3, s4⟩ := hs
  have hb := al w (.cells #[v, u] 76)
  have hx := Box.made w [v, u] 76
  have HA := Lib.hid (skusMayBe_any (h1.below hb) s1 s3)
  have HS := Lib.hid (fun W (hb : Below w.heap.size w W) => subsMayBe_any (h2.below hb) s2 s4 (h1.below hb) s1)
  have HB := Lib.hid hb
  have HX := Lib.hid hx
  obtain ⟨a, cap, rfl⟩ := h1.slice
  obtain ⟨a', cap', rfl⟩ := h2.slice
  clear h1 h2 hb hx
  unfold rightB
  generalize skusB s = m at HA ⊢
  generalize subsB l s = n at HS ⊢
  cases m with
  | false =>
    go_enter Try.func46, Try.ntmps46
    go_wp2_with fail
    (with_reducible refine HA.out.mono ?_)
    rintro e w' ⟨rfl, hz⟩
    have HZ := Lib.hid (below_trans HB.out hz)
    clear hz
    go_wp2_with fail
    go_ret
    exact ⟨ret_bool (by simp), HZ.out⟩
  | true =>
    go_enter Try.func46, Try.ntmps46
    go_wp2_with fail
    (with_reducible refine HA.out.mono ?_)
    rintro e w' ⟨rfl, hz⟩
    have HZ := Lib.hid (below_trans HB.out hz)
    obtain ⟨c0, c1⟩ := (HX.out.below hz).c2
    have hs1 := (HX.out.below hz).1
    clear hz
    go_wp2_with fail
    (with_reducible refine (HS.out _ HZ.out).mono ?_)
    rintro e w'' ⟨rfl, hz⟩
    have HZ2 := Lib.hid (below_trans HZ.out hz)
    clear hz
    go_wp2_with fail
    go_ret
    exact ⟨ret_bool (by simp), HZ2.out⟩
end Go.Proofs.Ytjmmijobdcepmaa.Goods
