/-
  Joined: Enc, SRow, Back.
-/
import Derived.Test.YtndakbjmahkjdaaMe
import Derived.Test.YtndakbjmahkjdaaMh
import Derived.Deep.QuietTactic
import Derived.BigQuiet
import Derived.Lib.Strings

/-
  Plain mathematics of rows' bytes: how many texts there are, then of each how long it is, and the text. Nothing of the program.
-/
namespace Go.Proofs.Ytndakbjmahkjdaa

def enc1 (t : ByteArray) : List UInt8 := digs (fold t.size) ++ t.data.toList
def encs : List ByteArray → List UInt8
  | [] => []
  | t :: r => enc1 t ++ encs r
def enc (ls : List ByteArray) : List UInt8 := digs (fold ls.length) ++ encs ls
theorem encs_append (a b : List ByteArray) : encs (a ++ b) = encs a ++ encs b := by
  induction a with
  | nil => rfl
  | cons x a ih => simp [encs, ih]
theorem encs_snoc (a : List ByteArray) (t : ByteArray) : encs (a ++ [t]) = encs a ++ (digs (fold t.size) ++ t.data.toList) := by
  rw [encs_append]; simp [encs, enc1]
theorem fold_nat (n : Nat) : fold n = 2 * n := by unfold fold; rw [if_neg (by omega)]; omega
theorem enc1_len (t : ByteArray) (h : t.size ≤ 4100) : (enc1 t).length ≤ 4109 := by
  have := digs_len9 (fold t.size) (by rw [fold_nat]; omega)
  have e : t.data.toList.length = t.size := by simp
  unfold enc1; rw [List.length_append, e]; omega
theorem encs_len (ls : List ByteArray) (h : ∀ t ∈ ls, t.size ≤ 4100) : (encs ls).length ≤ 4109 * ls.length := by
  induction ls with
  | nil => simp [encs]
  | cons t r ih =>
    have h1 := enc1_len t (h t (by simp))
    have h2 := ih (fun x hx => h x (by simp [hx]))
    simp only [encs, List.length_append, List.length_cons]; omega
theorem take_snoc' {α : Type} (l : List α) (k : Nat) (h : k < l.length) : l.take (k + 1) = l.take k ++ [l[k]] := List.take_succ_eq_append_getElem h
theorem bytes_eq {s : ByteArray} {l : List UInt8} (h : s.data.toList = l) : s = ⟨l.toArray⟩ := by
  subst h
  apply ByteArray.ext
  simp
end Go.Proofs.Ytndakbjmahkjdaa

/-
  Rows of texts that lie in memory; contracts of the reference's MayRow and Same.
-/
namespace Go.Proofs.Ytndakbjmahkjdaa
open Go.ChangeShapes Go.WideShapes Go.ChangeAt Go.RowKit Go.Lib Go.Conc

/-- The slice v is the row of texts ls. -/
def SRow (w : World) (v : Value) (ls : List ByteArray) : Prop :=
  (v = .slice none 0 0 ∧ ls = []) ∨ ∃ g cap, v = .slice (some ⟨g, 0, none⟩) ls.length cap ∧ ls.length ≤ cap ∧ g < w.heap.size ∧ ∀ j (h : j < ls.length), w.cell? ⟨g, j, none⟩ = some (.string ls[j])

theorem addr_at (g j : Nat) : (⟨g, 0, none⟩ : Addr).add j = ⟨g, j, none⟩ := by
  simp [Addr.add]
  intro h; exact h.symm
theorem srow_of_own {w : World} {B : Nat} {v : Value} {ls : List ByteArray} (h : w.ownsRow B 9 1 v ls.length (scells ls)) : SRow w v ls := by
  have hw := h
  obtain ⟨_, ⟨rfl, h2⟩ | ⟨g, cap, cur, rfl, hg, hh, hn, _⟩⟩ := h
  · exact .inl ⟨rfl, List.length_eq_zero_iff.1 h2⟩
  · refine .inr ⟨g, cap, rfl, hn, ?_, ?_⟩
    · apply Classical.byContradiction
      intro hc
      rw [Array.getElem?_eq_none (by omega)] at hh
      cases hh
    · intro j hj
      have := hw.cells (g := g) rfl j (.string ls[j]) (by simp [scells, List.getElem?_map, List.getElem?_eq_getElem hj])
      rwa [addr_at] at this
theorem srow_below {w w' : World} {v : Value} {ls : List ByteArray} (h : SRow w v ls) (hb : Below w.heap.size w w') : SRow w' v ls := by
  rcases h with h | ⟨g, cap, hv, hc, hg, hcell⟩
  · exact .inl h
  · exact .inr ⟨g, cap, hv, hc, Nat.lt_of_lt_of_le hg hb.size, fun j hj => (hb.cell (p := ⟨g, j, none⟩) hg).trans (hcell j hj)⟩

/-- A row that may be written. -/
def rowOk (ls : List ByteArray) : Prop := ls.length ≤ 256 ∧ ∀ j (h : j < ls.length), ls[j].size ≤ 4096
theorem rowOk_not {ls : List ByteArray} (h : ¬ rowOk ls) : 256 < ls.length ∨ ∃ j, ∃ h : j < ls.length, 4096 < ls[j].size := by
  by_cases h1 : ls.length ≤ 256
  · right
    apply Classical.byContradiction
    intro hc
    exact h ⟨h1, fun j hj => by
      apply Classical.byContradiction
      intro hn
      exact hc ⟨j, hj, by omega⟩⟩
  · left; omega

set_option maxHeartbeats 1000000 in
set_option maxRecDepth 100000 in
theorem Same_yes {va vb : Value} {ls : List ByteArray} {w : World} (ha : SRow w va ls) (hb : SRow w vb ls) (hl : ls.length ≤ 1000000) : Calls Try.prog 11 #[va, vb] w (BoolB true w) := by
  by_cases h0 : ls = []
  · subst h0
    have h1 : ∃ a cap, va = .slice a 0 cap := by
      rcases ha with ⟨rfl, _⟩ | ⟨g, cap, rfl, _⟩
      · exact ⟨none, 0, rfl⟩
      · exact ⟨some ⟨g, 0, none⟩, cap, rfl⟩
    have h2 : ∃ a cap, vb = .slice a 0 cap := by
      rcases hb with ⟨rfl, _⟩ | ⟨g, cap, rfl, _⟩
      · exact ⟨none, 0, rfl⟩
      · exact ⟨some ⟨g, 0, none⟩, cap, rfl⟩
    obtain ⟨a, cap, rfl⟩ := h1
    obtain ⟨a', cap', rfl⟩ := h2
    clear ha hb
    go_enter Try.func11, Try.ntmps11
    go_wp2
    refine wp_loop_rounds 1 ?_
    rw [rounds_succ]
    go_wp2
    go_ret
    exact ⟨rfl, Below.refl _ _⟩
  · rcases ha with ⟨_, rfl⟩ | ⟨g, cap, rfl, hc, hg, hcell⟩
    · exact absurd rfl h0
    rcases hb with ⟨_, rfl⟩ | ⟨g', cap', rfl, hc', hg', hcell'⟩
    · exact absurd rfl h0
    have HCE := Lib.hid hcell
    have HCE' := Lib.hid hcell'
    clear hcell hcell' h0
    go_enter Try.func11, Try.ntmps11
    go_wp2
    go_loopw [13] (fun i wr => ∃ k q : Nat, k ≤ ls.length ∧ i = .int .i64 k ∧ wr = w.drewN q) (fun i _ => ls.length - (Go.RowKit.intOf i).toNat)
    case atStart => exact ⟨0, 0, Nat.zero_le _, rfl, rfl⟩
    case round =>
      obtain ⟨k, q, hk, rfl, rfl⟩ := hrel
      by_cases hlt : k < ls.length
      · have hce := HCE.out k hlt
        have hce' := HCE'.out k hlt
        have b1 : (0 : Int) ≤ k := by omega
        have b2 : (k : Int) < ls.length := by omega
        generalize ls[k] = x at hce hce'
        go_wp2
        go_quiet (fail)
        go_wp2
        go_roundw
        case rel => exact ⟨k + 1, _, by omega, by go_num, rfl⟩
        case measure => simp [Go.RowKit.intOf]; omega
      · go_wp2
        go_ret
        exact ⟨rfl, bel_drewN _ _⟩
end Go.Proofs.Ytndakbjmahkjdaa

/-
  Plain mathematics of writing and reading: what is written is read, and what is read, written, is the same bytes. Nothing is walked here.
-/
namespace Go.Proofs.Ytndakbjmahkjdaa

theorem digs_spec (u : Nat) : ∃ pre last, digs u = pre ++ [last] ∧ (∀ b ∈ pre, 128 ≤ b.toNat) ∧ last.toNat < 128 ∧ (pre = [] ∨ last.toNat ≠ 0) := by
  induction u using Nat.strongRecOn with
  | _ u ih =>
    by_cases h : u < 128
    · exact ⟨[], UInt8.ofNat u, by rw [digs_lt h]; rfl, by simp, by simp; omega, .inl rfl⟩
    · obtain ⟨pre, last, he, hp, hl, hz⟩ := ih (u / 128) (by omega)
      refine ⟨UInt8.ofNat (u % 128 + 128) :: pre, last, by rw [digs_ge h, he]; rfl, ?_, hl, .inr ?_⟩
      · intro b hb
        rcases List.mem_cons.1 hb with rfl | hb
        · simp; omega
        · exact hp b hb
      · rcases hz with rfl | hz
        · intro h0
          by_cases h1 : u / 128 < 128
          · rw [digs_lt h1] at he
            simp at he
            subst he
            simp at h0
            omega
          · rw [digs_ge h1] at he
            have := digs_len_pos (u / 128 / 128)
            have e2 := congrArg List.length he
            simp at e2
            rw [e2] at this
            simp at this
        · exact hz
theorem val_digs (u : Nat) : val (digs u) = u := by
  induction u using Nat.strongRecOn with
  | _ u ih =>
    by_cases h : u < 128
    · rw [digs_lt h]; simp [val]; omega
    · rw [digs_ge h]
      simp only [val]
      rw [ih (u / 128) (by omega)]
      simp
      omega
theorem val_pos (pre : List UInt8) (last : UInt8) (h : last.toNat < 128) (hz : last.toNat ≠ 0) : 0 < val (pre ++ [last]) := by
  induction pre with
  | nil => simp [val]; omega
  | cons b pre ih => simp only [List.cons_append, val]; omega
theorem digs_val (pre : List UInt8) (last : UInt8) (hp : ∀ b ∈ pre, 128 ≤ b.toNat) (hl : last.toNat < 128) (hz : pre = [] ∨ last.toNat ≠ 0) : digs (val (pre ++ [last])) = pre ++ [last] := by
  induction pre with
  | nil =>
    have e : val [last] = last.toNat := by simp [val]; omega
    rw [List.nil_append, e, digs_lt hl]
    simp
  | cons b pre ih =>
    have hz' : last.toNat ≠ 0 := by
      rcases hz with h | h
      · cases h
      · exact h
    have h1 := val_pos pre last hl hz'
    have h2 := ih (fun x hx => hp x (by simp [hx])) (.inr hz')
    have hb := hp b (by simp)
    have hb2 : b.toNat < 256 := b.toNat_lt
    have e : val (b :: pre ++ [last]) = b.toNat % 128 + 128 * val (pre ++ [last]) := rfl
    rw [e, digs_ge (by omega)]
    have e1 : (b.toNat % 128 + 128 * val (pre ++ [last])) % 128 + 128 = b.toNat := by omega
    have e2 : (b.toNat % 128 + 128 * val (pre ++ [last])) / 128 = val (pre ++ [last]) := by omega
    rw [e1, e2, h2]
    simp
theorem unf_fold (n : Int) : unf (fold n) = n := by unfold unf fold; split <;> split <;> omega
theorem fold_unf (u : Nat) : fold (unf u) = u := by unfold unf fold; split <;> split <;> omega

theorem at_list (s : ByteArray) (i : Nat) (h : i < s.size) : s[i] = s.data.toList[i]'(by simpa using h) := rfl
theorem take_list (s : ByteArray) (i : Nat) : (s.extract 0 i).data.toList = s.data.toList.take i := by
  rw [Go.Lib.extract_data]; simp
theorem drop_list (s : ByteArray) (i : Nat) : (s.extract i s.size).data.toList = s.data.toList.drop i := by
  rw [Go.Lib.extract_data]
  exact List.take_of_length_le (by simp)
theorem same_bytes {a b : ByteArray} (h : a.data.toList = b.data.toList) : a = b := by
  apply ByteArray.ext
  exact Array.toList_inj.1 h

/-- What is written is read. -/
theorem rd_of {s r : ByteArray} {n : Int} (hm : mayB n = true) (h : s.data.toList = digs (fold n) ++ r.data.toList) : Rd s n r 0 := by
  have hm' := mayB_t.1 hm
  have h9 := digs_len9 _ (fold_le hm'.1 hm'.2)
  obtain ⟨pre, last, he, hp, hl, hz⟩ := digs_spec (fold n)
  have hlen : (digs (fold n)).length = pre.length + 1 := by rw [he]; simp
  have hs : s.size = pre.length + 1 + r.size := by
    have := congrArg List.length h
    rw [List.length_append, hlen] at this
    simpa using this
  have hi : pre.length < s.size := by omega
  have hat : ∀ j (hj : j < s.size) (hj' : j < (digs (fold n)).length), s[j] = (digs (fold n))[j] := by
    intro j hj hj'
    rw [at_list]
    have e2 : ∀ (l : List UInt8) (hl : j < l.length), s.data.toList = l → s.data.toList[j]'(by simpa using hj) = l[j] := fun l hl e => by subst e; rfl
    rw [e2 _ (by rw [List.length_append]; omega) h, List.getElem_append_left hj']
  have hlast : s[pre.length].toNat = last.toNat := by
    rw [hat pre.length hi (by omega)]
    simp [he]
  have htake : (s.extract 0 (pre.length + 1)).data.toList = digs (fold n) := by
    rw [take_list, h, ← hlen, List.take_left']
    rfl
  have hrd : rdN s pre.length = n := by
    unfold rdN
    rw [htake, val_digs, unf_fold]
  have hrest : s.extract (pre.length + 1) s.size = r := by
    apply same_bytes
    rw [drop_list, h, ← hlen, List.drop_left']
    rfl
  refine .inr ⟨pre.length, ⟨hi, by omega, by omega, ?_⟩, .inr (.inr ⟨?_, by rw [hrd]; exact hm, hrd.symm, hrest.symm, rfl⟩)⟩
  · intro j hj
    rw [hat j (by omega) (by omega)]
    have e : (digs (fold n))[j]'(by omega) = pre[j] := by
      simp [he, List.getElem_append_left hj]
    rw [e]
    exact hp _ (List.getElem_mem hj)
  · rcases hz with h0 | hz
    · left; rw [h0]; rfl
    · by_cases h0 : pre.length = 0
      · exact .inl h0
      · exact .inr ⟨by omega, fun _ => by omega⟩

/-- What is read, written, is the same bytes. -/
theorem rd_back {s r : ByteArray} {n : Int} (h : Rd s n r 0) : mayB n = true ∧ digs (fold n) ++ r.data.toList = s.data.toList := by
  obtain ⟨i, ⟨hi, h9, h1, h2⟩, hz, hm, rfl, rfl⟩ := rd_good h
  refine ⟨hm, ?_⟩
  have hl : s.data.toList.length = s.size := by simp
  have ht : s.data.toList.take (i + 1) = s.data.toList.take i ++ [s[i]] := by
    rw [List.take_succ_eq_append_getElem (by omega)]; rfl
  have hd : digs (fold (rdN s i)) = s.data.toList.take (i + 1) := by
    unfold rdN
    rw [fold_unf, take_list, ht]
    refine digs_val _ _ ?_ h1 ?_
    · intro b hb
      obtain ⟨j, hj, rfl⟩ := List.mem_iff_getElem.1 hb
      have hji : j < i := by rw [List.length_take] at hj; omega
      rw [List.getElem_take]
      exact h2 j hji
    · rcases hz with h0 | ⟨_, h0⟩
      · left; rw [h0]; rfl
      · right; exact h0 hi
  rw [hd, drop_list, List.take_append_drop]

theorem rdCount_of {most : Int} {s r : ByteArray} {n : Nat} (hn : (n : Int) ≤ most) (hb : n ≤ 1000000) (h : s.data.toList = digs (fold n) ++ r.data.toList) : RdCount most s n r 0 :=
  ⟨n, r, 0, rd_of (by rw [mayB_t]; omega) h, .inr (.inr (.inr ⟨rfl, hn, by omega, rfl, rfl, rfl⟩))⟩
theorem rdText_of {s x r : ByteArray} (hx : x.size ≤ 4096) (h : s.data.toList = enc1 x ++ r.data.toList) : RdText s x r 0 := by
  have hl : x.data.toList.length = x.size := by simp
  refine ⟨x.size, x ++ r, 0, rdCount_of (by omega) (by omega) (by rw [h]; simp [enc1]), .inr (.inr ⟨rfl, by simp; omega, ?_, ?_, rfl⟩)⟩
  · apply same_bytes
    rw [take_list, Int.toNat_natCast]
    simp
  · apply same_bytes
    rw [drop_list, Int.toNat_natCast]
    simp
theorem reads_of (ls : List ByteArray) : ∀ (s : ByteArray), (∀ t ∈ ls, t.size ≤ 4096) → s.data.toList = encs ls → ∃ fin : ByteArray, fin.size = 0 ∧ Reads ls.length s ls fin 0 := by
  induction ls with
  | nil =>
    intro s _ h
    have : s.data.toList.length = s.size := by simp
    rw [h] at this
    exact ⟨s, by simpa [encs] using this.symm, .done s⟩
  | cons x ls ih =>
    intro s hsm h
    obtain ⟨fin, hf, hr⟩ := ih ⟨(encs ls).toArray⟩ (fun t ht => hsm t (by simp [ht])) (by simp)
    exact ⟨fin, hf, .more _ s x ⟨(encs ls).toArray⟩ ls fin 0 (rdText_of (hsm x (by simp)) (by rw [h]; simp [encs])) hr⟩
/-- What is written as a row is read as that row. -/
theorem rdRow_of {ls : List ByteArray} (hok : rowOk ls) : RdRow ⟨(enc ls).toArray⟩ ls 0 := by
  obtain ⟨h256, hall⟩ := hok
  have hall' : ∀ t ∈ ls, t.size ≤ 4096 := fun t ht => by
    obtain ⟨j, hj, rfl⟩ := List.mem_iff_getElem.1 ht
    exact hall j hj
  obtain ⟨fin, hf, hr⟩ := reads_of ls ⟨(encs ls).toArray⟩ hall' (by simp)
  refine ⟨ls.length, ⟨(encs ls).toArray⟩, 0, rdCount_of (by omega) (by omega) (by simp [enc]), .inr ⟨rfl, ls, fin, 0, ?_, .inr (.inr ⟨rfl, hf, rfl, rfl⟩)⟩⟩
  rw [Int.toNat_natCast]; exact hr

theorem reads_back {k : Nat} {s : ByteArray} {us : List ByteArray} {fin : ByteArray} {e : Int} (h : Reads k s us fin e) : e = 0 → us.length = k ∧ (∀ t ∈ us, t.size ≤ 4096) ∧ encs us ++ fin.data.toList = s.data.toList := by
  induction h with
  | done s => intro _; exact ⟨rfl, by simp, by simp [encs]⟩
  | bad _ _ _ _ _ _ hb => intro h0; exact absurd h0 hb
  | more k s x t us fin e hx hr ih =>
    intro h0
    obtain ⟨h1, h2, h3⟩ := ih h0
    obtain ⟨n, t0, hc, hn, hn', rfl, rfl⟩ := rdText_good hx
    obtain ⟨hrd, _, _⟩ := rdCount_good hc
    obtain ⟨_, hb⟩ := rd_back hrd
    have hsz : (t0.extract 0 n).size = n := by rw [ByteArray.size_extract]; omega
    refine ⟨by simp [h1], ?_, ?_⟩
    · intro y hy
      rcases List.mem_cons.1 hy with rfl | hy
      · omega
      · exact h2 y hy
    · simp only [encs, enc1]
      rw [hsz, List.append_assoc, List.append_assoc, h3, take_list, drop_list, List.take_append_drop, hb]
/-- What is read as a row, written, is the same bytes. -/
theorem rdRow_back {s : ByteArray} {ts : List ByteArray} (h : RdRow s ts 0) : rowOk ts ∧ enc ts = s.data.toList := by
  obtain ⟨n, t, b1, hc, ⟨h1, _, h2⟩ | ⟨rfl, us, fin, e, hr, hb⟩⟩ := h
  · exact absurd h2.symm h1
  · obtain ⟨hrd, h2, h3⟩ := rdCount_good hc
    obtain ⟨_, hbk⟩ := rd_back hrd
    rcases hb with ⟨h, _, h'⟩ | ⟨_, _, _, h'⟩ | ⟨rfl, hf, rfl, _⟩
    · exact absurd h'.symm h
    · omega
    · obtain ⟨k1, k2, k3⟩ := reads_back hr rfl
      refine ⟨⟨by omega, fun j hj => k2 _ (List.getElem_mem hj)⟩, ?_⟩
      have hfin : fin.data.toList = [] := List.length_eq_zero_iff.1 (by simpa using hf)
      rw [hfin, List.append_nil] at k3
      unfold enc
      rw [k1, k3, Int.toNat_of_nonneg h2]
      exact hbk
end Go.Proofs.Ytndakbjmahkjdaa
