/-
  Joined: Enc, SRow, Back, Crc.
-/
import Derived.Test.YtlpkalfbcphkmaaGreatMd
import Derived.Test.YtlpkalfbcphkmaaGreatMf
import Derived.Deep.QuietTactic
import Derived.BigQuiet
import Derived.Lib.Strings
import Derived.Below

/-
  Plain mathematics of rows' bytes: how many texts there are, then of each how long it is, and the text. Nothing of the program.
-/
namespace Go.Proofs.YtlpkalfbcphkmaaGreat

def enc1 (t : ByteArray) : List UInt8 := digs (fold t.size) ++ t.data.toList
def encs : List ByteArray → List UInt8
  | [] => []
  | t :: r => enc1 t ++ encs r
def enc (ls : List ByteArray) : List UInt8 := digs (fold ls.length) ++ encs ls
theorem encs_append (a b : List ByteArray) : encs (a ++ b) = encs a ++ encs b := by
  induction a with
  | nil => rfl
  | cons x a ih => simp [encs, ih]
theorem encs_snoc (a : List ByteArray) (t : ByteArray) : encs (a ++ [t]) = encs a ++ (digs (fold t.size) ++ t.data.toList) := by
  rw [encs_append]; simp [encs, enc1]
theorem fold_nat (n : Nat) : fold n = 2 * n := by unfold fold; rw [if_neg (by omega)]; omega
theorem enc1_len (t : ByteArray) (h : t.size ≤ 4100) : (enc1 t).length ≤ 4109 := by
  have := digs_len9 (fold t.size) (by rw [fold_nat]; omega)
  have e : t.data.toList.length = t.size := by simp
  unfold enc1; rw [List.length_append, e]; omega
theorem encs_len (ls : List ByteArray) (h : ∀ t ∈ ls, t.size ≤ 4100) : (encs ls).length ≤ 4109 * ls.length := by
  induction ls with
  | nil => simp [encs]
  | cons t r ih =>
    have h1 := enc1_len t (h t (by simp))
    have h2 := ih (fun x hx => h x (by simp [hx]))
    simp only [encs, List.length_append, List.length_cons]; omega
theorem take_snoc' {α : Type} (l : List α) (k : Nat) (h : k < l.length) : l.take (k + 1) = l.take k ++ [l[k]] := List.take_succ_eq_append_getElem h
theorem bytes_eq {s : ByteArray} {l : List UInt8} (h : s.data.toList = l) : s = ⟨l.toArray⟩ := by
  subst h
  apply ByteArray.ext
  simp
end Go.Proofs.YtlpkalfbcphkmaaGreat

/-
  Rows of texts that lie in memory; contracts of the reference's MayRow and Same.
-/
namespace Go.Proofs.YtlpkalfbcphkmaaGreat
open Go.ChangeShapes Go.WideShapes Go.ChangeAt Go.RowKit Go.Lib Go.Conc

/-- The slice v is the row of texts ls. -/
def SRow (w : World) (v : Value) (ls : List ByteArray) : Prop :=
  (v = .slice none 0 0 ∧ ls = []) ∨ ∃ g cap, v = .slice (some ⟨g, 0, none⟩) ls.length cap ∧ ls.length ≤ cap ∧ g < w.heap.size ∧ ∀ j (h : j < ls.length), w.cell? ⟨g, j, none⟩ = some (.string ls[j])

theorem addr_at (g j : Nat) : (⟨g, 0, none⟩ : Addr).add j = ⟨g, j, none⟩ := by
  simp [Addr.add]
  intro h; exact h.symm
theorem srow_of_own {w : World} {B : Nat} {v : Value} {ls : List ByteArray} (h : w.ownsRow B 9 1 v ls.length (scells ls)) : SRow w v ls := by
  have hw := h
  obtain ⟨_, ⟨rfl, h2⟩ | ⟨g, cap, cur, rfl, hg, hh, hn, _⟩⟩ := h
  · exact .inl ⟨rfl, List.length_eq_zero_iff.1 h2⟩
  · refine .inr ⟨g, cap, rfl, hn, ?_, ?_⟩
    · apply Classical.byContradiction
      intro hc
      rw [Array.getElem?_eq_none (by omega)] at hh
      cases hh
    · intro j hj
      have := hw.cells (g := g) rfl j (.string ls[j]) (by simp [scells, List.getElem?_map, List.getElem?_eq_getElem hj])
      rwa [addr_at] at this
theorem srow_below {w w' : World} {v : Value} {ls : List ByteArray} (h : SRow w v ls) (hb : Below w.heap.size w w') : SRow w' v ls := by
  rcases h with h | ⟨g, cap, hv, hc, hg, hcell⟩
  · exact .inl h
  · exact .inr ⟨g, cap, hv, hc, Nat.lt_of_lt_of_le hg hb.size, fun j hj => (hb.cell (p := ⟨g, j, none⟩) hg).trans (hcell j hj)⟩

/-- A row that may be written. -/
def rowOk (ls : List ByteArray) : Prop := ls.length ≤ 256 ∧ ∀ j (h : j < ls.length), ls[j].size ≤ 4096
theorem rowOk_not {ls : List ByteArray} (h : ¬ rowOk ls) : 256 < ls.length ∨ ∃ j, ∃ h : j < ls.length, 4096 < ls[j].size := by
  by_cases h1 : ls.length ≤ 256
  · right
    apply Classical.byContradiction
    intro hc
    exact h ⟨h1, fun j hj => by
      apply Classical.byContradiction
      intro hn
      exact hc ⟨j, hj, by omega⟩⟩
  · left; omega

set_option maxHeartbeats 1000000 in
set_option maxRecDepth 100000 in
theorem Same_yes {va vb : Value} {ls : List ByteArray} {w : World} (ha : SRow w va ls) (hb : SRow w vb ls) (hl : ls.length ≤ 1000000) : Calls Tryz.prog 39 #[va, vb] w (BoolB true w) := by
  by_cases h0 : ls = []
  · subst h0
    have h1 : ∃ a cap, va = .slice a 0 cap := by
      rcases ha with ⟨rfl, _⟩ | ⟨g, cap, rfl, _⟩
      · exact ⟨none, 0, rfl⟩
      · exact ⟨some ⟨g, 0, none⟩, cap, rfl⟩
    have h2 : ∃ a cap, vb = .slice a 0 cap := by
      rcases hb with ⟨rfl, _⟩ | ⟨g, cap, rfl, _⟩
      · exact ⟨none, 0, rfl⟩
      · exact ⟨some ⟨g, 0, none⟩, cap, rfl⟩
    obtain ⟨a, cap, rfl⟩ := h1
    obtain ⟨a', cap', rfl⟩ := h2
    clear ha hb
    go_enter Tryz.func39, Tryz.ntmps39
    go_wp2
    refine wp_loop_rounds 1 ?_
    rw [rounds_succ]
    go_wp2
    go_ret
    exact ⟨rfl, Below.refl _ _⟩
  · rcases ha with ⟨_, rfl⟩ | ⟨g, cap, rfl, hc, hg, hcell⟩
    · exact absurd rfl h0
    rcases hb with ⟨_, rfl⟩ | ⟨g', cap', rfl, hc', hg', hcell'⟩
    · exact absurd rfl h0
    have HCE := Lib.hid hcell
    have HCE' := Lib.hid hcell'
    clear hcell hcell' h0
    go_enter Tryz.func39, Tryz.ntmps39
    go_wp2
    go_loopw [13] (fun i wr => ∃ k q : Nat, k ≤ ls.length ∧ i = .int .i64 k ∧ wr = w.drewN q) (fun i _ => ls.length - (Go.RowKit.intOf i).toNat)
    case atStart => exact ⟨0, 0, Nat.zero_le _, rfl, rfl⟩
    case round =>
      obtain ⟨k, q, hk, rfl, rfl⟩ := hrel
      by_cases hlt : k < ls.length
      · have hce := HCE.out k hlt
        have hce' := HCE'.out k hlt
        have b1 : (0 : Int) ≤ k := by omega
        have b2 : (k : Int) < ls.length := by omega
        generalize ls[k] = x at hce hce'
        go_wp2
        go_quiet (fail)
        go_wp2
        go_roundw
        case rel => exact ⟨k + 1, _, by omega, by go_num, rfl⟩
        case measure => simp [Go.RowKit.intOf]; omega
      · go_wp2
        go_ret
        exact ⟨rfl, bel_drewN _ _⟩
end Go.Proofs.YtlpkalfbcphkmaaGreat

/-
  Plain mathematics of writing and reading: what is written is read, and what is read, written, is the same bytes. Nothing is walked here.
-/
namespace Go.Proofs.YtlpkalfbcphkmaaGreat

theorem digs_spec (u : Nat) : ∃ pre last, digs u = pre ++ [last] ∧ (∀ b ∈ pre, 128 ≤ b.toNat) ∧ last.toNat < 128 ∧ (pre = [] ∨ last.toNat ≠ 0) := by
  induction u using Nat.strongRecOn with
  | _ u ih =>
    by_cases h : u < 128
    · exact ⟨[], UInt8.ofNat u, by rw [digs_lt h]; rfl, by simp, by simp; omega, .inl rfl⟩
    · obtain ⟨pre, last, he, hp, hl, hz⟩ := ih (u / 128) (by omega)
      refine ⟨UInt8.ofNat (u % 128 + 128) :: pre, last, by rw [digs_ge h, he]; rfl, ?_, hl, .inr ?_⟩
      · intro b hb
        rcases List.mem_cons.1 hb with rfl | hb
        · simp; omega
        · exact hp b hb
      · rcases hz with rfl | hz
        · intro h0
          by_cases h1 : u / 128 < 128
          · rw [digs_lt h1] at he
            simp at he
            subst he
            simp at h0
            omega
          · rw [digs_ge h1] at he
            have := digs_len_pos (u / 128 / 128)
            have e2 := congrArg List.length he
            simp at e2
            rw [e2] at this
            simp at this
        · exact hz
theorem val_digs (u : Nat) : val (digs u) = u := by
  induction u using Nat.strongRecOn with
  | _ u ih =>
    by_cases h : u < 128
    · rw [digs_lt h]; simp [val]; omega
    · rw [digs_ge h]
      simp only [val]
      rw [ih (u / 128) (by omega)]
      simp
      omega
theorem val_pos (pre : List UInt8) (last : UInt8) (h : last.toNat < 128) (hz : last.toNat ≠ 0) : 0 < val (pre ++ [last]) := by
  induction pre with
  | nil => simp [val]; omega
  | cons b pre ih => simp only [List.cons_append, val]; omega
theorem digs_val (pre : List UInt8) (last : UInt8) (hp : ∀ b ∈ pre, 128 ≤ b.toNat) (hl : last.toNat < 128) (hz : pre = [] ∨ last.toNat ≠ 0) : digs (val (pre ++ [last])) = pre ++ [last] := by
  induction pre with
  | nil =>
    have e : val [last] = last.toNat := by simp [val]; omega
    rw [List.nil_append, e, digs_lt hl]
    simp
  | cons b pre ih =>
    have hz' : last.toNat ≠ 0 := by
      rcases hz with h | h
      · cases h
      · exact h
    have h1 := val_pos pre last hl hz'
    have h2 := ih (fun x hx => hp x (by simp [hx])) (.inr hz')
    have hb := hp b (by simp)
    have hb2 : b.toNat < 256 := b.toNat_lt
    have e : val (b :: pre ++ [last]) = b.toNat % 128 + 128 * val (pre ++ [last]) := rfl
    rw [e, digs_ge (by omega)]
    have e1 : (b.toNat % 128 + 128 * val (pre ++ [last])) % 128 + 128 = b.toNat := by omega
    have e2 : (b.toNat % 128 + 128 * val (pre ++ [last])) / 128 = val (pre ++ [last]) := by omega
    rw [e1, e2, h2]
    simp
theorem unf_fold (n : Int) : unf (fold n) = n := by unfold unf fold; split <;> split <;> omega
theorem fold_unf (u : Nat) : fold (unf u) = u := by unfold unf fold; split <;> split <;> omega

theorem at_list (s : ByteArray) (i : Nat) (h : i < s.size) : s[i] = s.data.toList[i]'(by simpa using h) := rfl
theorem take_list (s : ByteArray) (i : Nat) : (s.extract 0 i).data.toList = s.data.toList.take i := by
  rw [Go.Lib.extract_data]; simp
theorem drop_list (s : ByteArray) (i : Nat) : (s.extract i s.size).data.toList = s.data.toList.drop i := by
  rw [Go.Lib.extract_data]
  exact List.take_of_length_le (by simp)
theorem same_bytes {a b : ByteArray} (h : a.data.toList = b.data.toList) : a = b := by
  apply ByteArray.ext
  exact Array.toList_inj.1 h

/-- What is written is read. -/
theorem rd_of {s r : ByteArray} {n : Int} (hm : mayB n = true) (h : s.data.toList = digs (fold n) ++ r.data.toList) : Rd s n r 0 := by
  have hm' := mayB_t.1 hm
  have h9 := digs_len9 _ (fold_le hm'.1 hm'.2)
  obtain ⟨pre, last, he, hp, hl, hz⟩ := digs_spec (fold n)
  have hlen : (digs (fold n)).length = pre.length + 1 := by rw [he]; simp
  have hs : s.size = pre.length + 1 + r.size := by
    have := congrArg List.length h
    rw [List.length_append, hlen] at this
    simpa using this
  have hi : pre.length < s.size := by omega
  have hat : ∀ j (hj : j < s.size) (hj' : j < (digs (fold n)).length), s[j] = (digs (fold n))[j] := by
    intro j hj hj'
    rw [at_list]
    have e2 : ∀ (l : List UInt8) (hl : j < l.length), s.data.toList = l → s.data.toList[j]'(by simpa using hj) = l[j] := fun l hl e => by subst e; rfl
    rw [e2 _ (by rw [List.length_append]; omega) h, List.getElem_append_left hj']
  have hlast : s[pre.length].toNat = last.toNat := by
    rw [hat pre.length hi (by omega)]
    simp [he]
  have htake : (s.extract 0 (pre.length + 1)).data.toList = digs (fold n) := by
    rw [take_list, h, ← hlen, List.take_left']
    rfl
  have hrd : rdN s pre.length = n := by
    unfold rdN
    rw [htake, val_digs, unf_fold]
  have hrest : s.extract (pre.length + 1) s.size = r := by
    apply same_bytes
    rw [drop_list, h, ← hlen, List.drop_left']
    rfl
  refine .inr ⟨pre.length, ⟨hi, by omega, by omega, ?_⟩, .inr (.inr ⟨?_, by rw [hrd]; exact hm, hrd.symm, hrest.symm, rfl⟩)⟩
  · intro j hj
    rw [hat j (by omega) (by omega)]
    have e : (digs (fold n))[j]'(by omega) = pre[j] := by
      simp [he, List.getElem_append_left hj]
    rw [e]
    exact hp _ (List.getElem_mem hj)
  · rcases hz with h0 | hz
    · left; rw [h0]; rfl
    · by_cases h0 : pre.length = 0
      · exact .inl h0
      · exact .inr ⟨by omega, fun _ => by omega⟩

/-- What is read, written, is the same bytes. -/
theorem rd_back {s r : ByteArray} {n : Int} (h : Rd s n r 0) : mayB n = true ∧ digs (fold n) ++ r.data.toList = s.data.toList := by
  obtain ⟨i, ⟨hi, h9, h1, h2⟩, hz, hm, rfl, rfl⟩ := rd_good h
  refine ⟨hm, ?_⟩
  have hl : s.data.toList.length = s.size := by simp
  have ht : s.data.toList.take (i + 1) = s.data.toList.take i ++ [s[i]] := by
    rw [List.take_succ_eq_append_getElem (by omega)]; rfl
  have hd : digs (fold (rdN s i)) = s.data.toList.take (i + 1) := by
    unfold rdN
    rw [fold_unf, take_list, ht]
    refine digs_val _ _ ?_ h1 ?_
    · intro b hb
      obtain ⟨j, hj, rfl⟩ := List.mem_iff_getElem.1 hb
      have hji : j < i := by rw [List.length_take] at hj; omega
      rw [List.getElem_take]
      exact h2 j hji
    · rcases hz with h0 | ⟨_, h0⟩
      · left; rw [h0]; rfl
      · right; exact h0 hi
  rw [hd, drop_list, List.take_append_drop]

theorem rdCount_of {most : Int} {s r : ByteArray} {n : Nat} (hn : (n : Int) ≤ most) (hb : n ≤ 1000000) (h : s.data.toList = digs (fold n) ++ r.data.toList) : RdCount most s n r 0 :=
  ⟨n, r, 0, rd_of (by rw [mayB_t]; omega) h, .inr (.inr (.inr ⟨rfl, hn, by omega, rfl, rfl, rfl⟩))⟩
theorem rdText_of {s x r : ByteArray} (hx : x.size ≤ 4096) (h : s.data.toList = enc1 x ++ r.data.toList) : RdText s x r 0 := by
  have hl : x.data.toList.length = x.size := by simp
  refine ⟨x.size, x ++ r, 0, rdCount_of (by omega) (by omega) (by rw [h]; simp [enc1]), .inr (.inr ⟨rfl, by simp; omega, ?_, ?_, rfl⟩)⟩
  · apply same_bytes
    rw [take_list, Int.toNat_natCast]
    simp
  · apply same_bytes
    rw [drop_list, Int.toNat_natCast]
    simp
theorem reads_of (ls : List ByteArray) : ∀ (s : ByteArray), (∀ t ∈ ls, t.size ≤ 4096) → s.data.toList = encs ls → ∃ fin : ByteArray, fin.size = 0 ∧ Reads ls.length s ls fin 0 := by
  induction ls with
  | nil =>
    intro s _ h
    have : s.data.toList.length = s.size := by simp
    rw [h] at this
    exact ⟨s, by simpa [encs] using this.symm, .done s⟩
  | cons x ls ih =>
    intro s hsm h
    obtain ⟨fin, hf, hr⟩ := ih ⟨(encs ls).toArray⟩ (fun t ht => hsm t (by simp [ht])) (by simp)
    exact ⟨fin, hf, .more _ s x ⟨(encs ls).toArray⟩ ls fin 0 (rdText_of (hsm x (by simp)) (by rw [h]; simp [encs])) hr⟩
/-- What is written as a row is read as that row. -/
theorem rdRow_of {ls : List ByteArray} (hok : rowOk ls) : RdRow ⟨(enc ls).toArray⟩ ls 0 := by
  obtain ⟨h256, hall⟩ := hok
  have hall' : ∀ t ∈ ls, t.size ≤ 4096 := fun t ht => by
    obtain ⟨j, hj, rfl⟩ := List.mem_iff_getElem.1 ht
    exact hall j hj
  obtain ⟨fin, hf, hr⟩ := reads_of ls ⟨(encs ls).toArray⟩ hall' (by simp)
  refine ⟨ls.length, ⟨(encs ls).toArray⟩, 0, rdCount_of (by omega) (by omega) (by simp [enc]), .inr ⟨rfl, ls, fin, 0, ?_, .inr (.inr ⟨rfl, hf, rfl, rfl⟩)⟩⟩
  rw [Int.toNat_natCast]; exact hr

theorem reads_back {k : Nat} {s : ByteArray} {us : List ByteArray} {fin : ByteArray} {e : Int} (h : Reads k s us fin e) : e = 0 → us.length = k ∧ (∀ t ∈ us, t.size ≤ 4096) ∧ encs us ++ fin.data.toList = s.data.toList := by
  induction h with
  | done s => intro _; exact ⟨rfl, by simp, by simp [encs]⟩
  | bad _ _ _ _ _ _ hb => intro h0; exact absurd h0 hb
  | more k s x t us fin e hx hr ih =>
    intro h0
    obtain ⟨h1, h2, h3⟩ := ih h0
    obtain ⟨n, t0, hc, hn, hn', rfl, rfl⟩ := rdText_good hx
    obtain ⟨hrd, _, _⟩ := rdCount_good hc
    obtain ⟨_, hb⟩ := rd_back hrd
    have hsz : (t0.extract 0 n).size = n := by rw [ByteArray.size_extract]; omega
    refine ⟨by simp [h1], ?_, ?_⟩
    · intro y hy
      rcases List.mem_cons.1 hy with rfl | hy
      · omega
      · exact h2 y hy
    · simp only [encs, enc1]
      rw [hsz, List.append_assoc, List.append_assoc, h3, take_list, drop_list, List.take_append_drop, hb]
/-- What is read as a row, written, is the same bytes. -/
theorem rdRow_back {s : ByteArray} {ts : List ByteArray} (h : RdRow s ts 0) : rowOk ts ∧ enc ts = s.data.toList := by
  obtain ⟨n, t, b1, hc, ⟨h1, _, h2⟩ | ⟨rfl, us, fin, e, hr, hb⟩⟩ := h
  · exact absurd h2.symm h1
  · obtain ⟨hrd, h2, h3⟩ := rdCount_good hc
    obtain ⟨_, hbk⟩ := rd_back hrd
    rcases hb with ⟨h, _, h'⟩ | ⟨_, _, _, h'⟩ | ⟨rfl, hf, rfl, _⟩
    · exact absurd h'.symm h
    · omega
    · obtain ⟨k1, k2, k3⟩ := reads_back hr rfl
      refine ⟨⟨by omega, fun j hj => k2 _ (List.getElem_mem hj)⟩, ?_⟩
      have hfin : fin.data.toList = [] := List.length_eq_zero_iff.1 (by simpa using hf)
      rw [hfin, List.append_nil] at k3
      unfold enc
      rw [k1, k3, Int.toNat_of_nonneg h2]
      exact hbk
end Go.Proofs.YtlpkalfbcphkmaaGreat

/-
  Plain mathematics of the check (CRC-32C): one bit off, eight bits off, a row of bytes; it is linear; a change within 32 bits is never lost. Nothing of the program.
-/
namespace Go.Proofs.YtlpkalfbcphkmaaGreat.Crc

/-- One bit off, of any natural number. -/
def bit1 (c : Nat) : Nat := c / 2 ^^^ (if c % 2 = 1 then 2197175160 else 0)
theorem bit1_odd {c : Nat} (h : c % 2 = 1) : bit1 c = c / 2 ^^^ 2197175160 := by unfold bit1; rw [if_pos h]
theorem bit1_even {c : Nat} (h : ¬ c % 2 = 1) : bit1 c = c / 2 := by unfold bit1; rw [if_neg h]; simp
theorem bit1_two (m : Nat) : bit1 (2 * m) = m := by rw [bit1_even (by omega)]; omega
theorem xor_mod2 (x y : Nat) : (x ^^^ y) % 2 = (x % 2) ^^^ (y % 2) := by simpa using Nat.xor_mod_two_pow (a := x) (b := y) (n := 1)
theorem bit1_xor (x y : Nat) : bit1 (x ^^^ y) = bit1 x ^^^ bit1 y := by
  have hx := xor_mod2 x y
  have e : (x ^^^ y) / 2 = x / 2 ^^^ y / 2 := Nat.xor_div_two
  rcases Nat.mod_two_eq_zero_or_one x with h | h <;> rcases Nat.mod_two_eq_zero_or_one y with h' | h' <;> rw [h, h'] at hx
  · rw [bit1_even (by rw [hx]; decide), bit1_even (by omega), bit1_even (by omega), e]
  · rw [bit1_odd (hx.trans rfl), bit1_even (by omega), bit1_odd h', e, Nat.xor_assoc]
  · rw [bit1_odd (hx.trans rfl), bit1_odd h, bit1_even (by omega), e, Nat.xor_assoc, Nat.xor_assoc, Nat.xor_comm (y / 2)]
  · rw [bit1_even (by rw [hx]; decide), bit1_odd h, bit1_odd h', e]
    rw [show x / 2 ^^^ 2197175160 ^^^ (y / 2 ^^^ 2197175160) = x / 2 ^^^ y / 2 ^^^ (2197175160 ^^^ 2197175160) by ac_rfl, Nat.xor_self, Nat.xor_zero]
theorem bit1_lt {c : Nat} (h : c < 4294967296) : bit1 c < 4294967296 := by
  by_cases h' : c % 2 = 1
  · rw [bit1_odd h']; exact Nat.xor_lt_two_pow (n := 32) (by omega) (by omega)
  · rw [bit1_even h']; omega
theorem bit1_pos {c : Nat} (h : c < 4294967296) (hp : 0 < c) : 0 < bit1 c := by
  by_cases h' : c % 2 = 1
  · rw [bit1_odd h']
    refine Nat.pos_of_ne_zero fun e => ?_
    have e2 : c / 2 = 2197175160 := by
      have := congrArg (· ^^^ 2197175160) e
      simpa [Nat.xor_assoc] using this
    omega
  · rw [bit1_even h']; omega

/-- So many bits off. -/
def off : Nat → Nat → Nat
  | 0, c => c
  | k + 1, c => off k (bit1 c)
theorem off_zero (c : Nat) : off 0 c = c := rfl
theorem off_succ (k c : Nat) : off (k + 1) c = off k (bit1 c) := rfl
theorem off_succ' (k : Nat) : ∀ c, off (k + 1) c = bit1 (off k c) := by
  induction k with
  | zero => intro c; rfl
  | succ k ih => intro c; rw [off_succ, ih, ← off_succ]
theorem off_add (j k c : Nat) : off (j + k) c = off k (off j c) := by
  induction k with
  | zero => rfl
  | succ k ih => rw [← Nat.add_assoc, off_succ', ih, off_succ']
theorem off_xor (k : Nat) : ∀ x y, off k (x ^^^ y) = off k x ^^^ off k y := by
  induction k with
  | zero => intro x y; rfl
  | succ k ih => intro x y; rw [off_succ, bit1_xor, ih, ← off_succ, ← off_succ]
theorem off_lt (k : Nat) : ∀ {c}, c < 4294967296 → off k c < 4294967296 := by
  induction k with
  | zero => intro c h; exact h
  | succ k ih => intro c h; exact ih (bit1_lt h)
theorem off_pos (k : Nat) : ∀ {c}, c < 4294967296 → 0 < c → 0 < off k c := by
  induction k with
  | zero => intro c h hp; exact hp
  | succ k ih => intro c h hp; exact ih (bit1_lt h) (bit1_pos h hp)
theorem off_pow (k : Nat) : ∀ m, off k (2 ^ k * m) = m := by
  induction k with
  | zero => intro m; simp [off]
  | succ k ih =>
    intro m
    rw [off_succ, show 2 ^ (k + 1) * m = 2 * (2 ^ k * m) by rw [Nat.pow_succ]; ac_rfl, bit1_two, ih]

theorem add_xor (d m : Nat) (h : d < 256) : d + 256 * m = d ^^^ 256 * m := by
  have h1 := Nat.two_pow_add_eq_or_of_lt (i := 8) (b := d) (by omega) m
  apply Nat.eq_of_testBit_eq
  intro i
  have h2 : d + 256 * m = 2 ^ 8 * m + d := by omega
  rw [h2, h1, Nat.testBit_xor, Nat.testBit_or, show 256 * m = 2 ^ 8 * m from rfl]
  by_cases hi : i < 8
  · rw [Nat.testBit_two_pow_mul]; simp [show ¬ 8 ≤ i by omega]
  · rw [Nat.testBit_lt_two_pow (Nat.lt_of_lt_of_le (show d < 2 ^ 8 by omega) (Nat.pow_le_pow_right (by omega) (by omega)))]; simp

/-- The table's way is the same: the low byte through the table, the rest moved right. -/
theorem off8_table (c b : Nat) : c / 256 ^^^ off 8 (c % 256 ^^^ b) = off 8 (c ^^^ b) := by
  have e : c = c % 256 ^^^ 256 * (c / 256) := by rw [← add_xor _ _ (by omega)]; omega
  conv => rhs; rw [e, show c % 256 ^^^ 256 * (c / 256) ^^^ b = (c % 256 ^^^ b) ^^^ 2 ^ 8 * (c / 256) by simp; ac_rfl, off_xor, off_pow]
  rw [Nat.xor_comm]

/-- The check's number behind a row of bytes. -/
def onL : Nat → List UInt8 → Nat
  | c, [] => c
  | c, b :: l => onL (off 8 (c ^^^ b.toNat)) l
theorem onL_append (l m : List UInt8) : ∀ c, onL c (l ++ m) = onL (onL c l) m := by
  induction l with
  | nil => intro c; rfl
  | cons b l ih => intro c; exact ih _
theorem onL_snoc (l : List UInt8) (b : UInt8) (c : Nat) : onL c (l ++ [b]) = off 8 (onL c l ^^^ b.toNat) := by rw [onL_append]; rfl
theorem onL_lt (l : List UInt8) : ∀ {c}, c < 4294967296 → onL c l < 4294967296 := by
  induction l with
  | nil => intro c h; exact h
  | cons b l ih => intro c h; exact ih (off_lt 8 (Nat.xor_lt_two_pow (n := 32) (by omega) (by have := b.toNat_lt; omega)))

/-- A row of bytes as one number, the lowest first. -/
def val : List UInt8 → Nat
  | [] => 0
  | b :: l => b.toNat + 256 * val l
theorem val_cons (b : UInt8) (l : List UInt8) : val (b :: l) = b.toNat ^^^ 256 * val l := add_xor _ _ (by have := b.toNat_lt; omega)
theorem onL_val (l : List UInt8) : ∀ c, onL c l = off (8 * l.length) (c ^^^ val l) := by
  induction l with
  | nil => intro c; simp [onL, val, off]
  | cons b l ih =>
    intro c
    rw [show 8 * (b :: l).length = 8 + 8 * l.length by simp; omega, off_add, val_cons, ← Nat.xor_assoc, off_xor 8, show 256 * val l = 2 ^ 8 * val l from rfl, off_pow]
    exact ih _
theorem val_inj : ∀ (l m : List UInt8), l.length = m.length → val l = val m → l = m := by
  intro l
  induction l with
  | nil => intro m h _; exact (List.length_eq_zero_iff.1 h.symm).symm
  | cons b l ih =>
    intro m h e
    cases m with
    | nil => simp at h
    | cons d m =>
      have h1 := b.toNat_lt
      have h2 := d.toNat_lt
      unfold val at e
      have e1 : b.toNat = d.toNat := by omega
      rw [UInt8.toNat_inj.1 e1, ih m (by simpa using h) (by omega)]
theorem val_lt (l : List UInt8) : val l < 2 ^ (8 * l.length) := by
  induction l with
  | nil => simp [val]
  | cons b l ih =>
    have h1 := b.toNat_lt
    rw [show 8 * (b :: l).length = 8 * l.length + 8 by simp; omega, Nat.pow_add]
    unfold val
    omega

/-- The check. -/
def crcOn (c : Nat) (l : List UInt8) : Nat := onL (c ^^^ 4294967295) l ^^^ 4294967295
theorem crcOn_lt {c : Nat} (h : c < 4294967296) (l : List UInt8) : crcOn c l < 4294967296 :=
  Nat.xor_lt_two_pow (n := 32) (onL_lt l (Nat.xor_lt_two_pow (n := 32) (by omega) (by omega))) (by omega)
theorem xor_twice (c d : Nat) : c ^^^ d ^^^ d = c := by rw [Nat.xor_assoc, Nat.xor_self, Nat.xor_zero]
theorem crcOn_append (c : Nat) (l m : List UInt8) : crcOn (crcOn c l) m = crcOn c (l ++ m) := by
  unfold crcOn; rw [xor_twice, onL_append]
theorem crcOn_nil (c : Nat) : crcOn c [] = c := xor_twice _ _
theorem crc_known : crcOn 0 [49, 50, 51, 52, 53, 54, 55, 56, 57] = 3808858755 := by decide +kernel

/-- A change within 32 bits is seen. -/
theorem crc_burst (l m : List UInt8) (h : l.length = m.length) (at' W : Nat) (hat : at' ≤ 8 * l.length) (hW : W < 4294967296) (hd : val m = val l ^^^ 2 ^ at' * W) : m = l ∨ crcOn 0 m ≠ crcOn 0 l := by
  by_cases h0 : W = 0
  · left
    subst h0
    exact val_inj _ _ h.symm (by rw [hd]; simp)
  · right
    intro e
    unfold crcOn at e
    have e1 : onL (0 ^^^ 4294967295) m = onL (0 ^^^ 4294967295) l := by
      have := congrArg (· ^^^ 4294967295) e
      simpa only [xor_twice] using this
    rw [onL_val, onL_val, ← h, hd, ← Nat.xor_assoc, off_xor _ (_ ^^^ val l)] at e1
    have e2 : off (8 * l.length) (2 ^ at' * W) = 0 := by
      generalize off (8 * l.length) ((0 ^^^ 4294967295) ^^^ val l) = x at e1
      generalize off (8 * l.length) (2 ^ at' * W) = y at e1
      have := congrArg (x ^^^ ·) e1
      simpa [← Nat.xor_assoc] using this
    obtain ⟨r, hr⟩ : ∃ r, 8 * l.length = at' + r := ⟨8 * l.length - at', by omega⟩
    rw [hr, off_add, off_pow] at e2
    have := off_pos r hW (by omega)
    omega

theorem xor_mul (k a b : Nat) : 2 ^ k * a ^^^ 2 ^ k * b = 2 ^ k * (a ^^^ b) := by
  apply Nat.eq_of_testBit_eq
  intro i
  simp only [Nat.testBit_xor, Nat.testBit_two_pow_mul]
  by_cases h : k ≤ i <;> simp [h]

/-- One bit of one byte turned. -/
theorem val_set (l : List UInt8) : ∀ (p : Nat) (h : p / 8 < l.length) (x : UInt8), x.toNat = l[p / 8].toNat ^^^ 2 ^ (p % 8) → val (l.set (p / 8) x) = val l ^^^ 2 ^ p := by
  induction l with
  | nil => intro p h; simp at h
  | cons b l ih =>
    intro p h x hx
    by_cases h8 : p < 8
    · have e : p / 8 = 0 := by omega
      have e' : p % 8 = p := by omega
      simp only [e, e', List.getElem_cons_zero, List.set_cons_zero] at hx ⊢
      rw [val_cons, val_cons, hx]
      ac_rfl
    · obtain ⟨q, rfl⟩ : ∃ q, p = q + 8 := ⟨p - 8, by omega⟩
      have e : (q + 8) / 8 = q / 8 + 1 := by omega
      have e' : (q + 8) % 8 = q % 8 := by omega
      simp only [e, e', List.getElem_cons_succ, List.set_cons_succ, List.length_cons] at hx h ⊢
      rw [val_cons, val_cons, ih q (by omega) x hx, Nat.xor_assoc]
      congr 1
      rw [show (256 : Nat) = 2 ^ 8 from rfl, ← xor_mul, Nat.pow_add, Nat.mul_comm (2 ^ q)]

/-- A bit more of the change. -/
theorem burst_step {l : List UInt8} {v at' k W p : Nat} (hW : W < 2 ^ k) (hd : val l = v ^^^ 2 ^ at' * W) (hp : p = at' + k) (h : p / 8 < l.length) {x : UInt8} (hx : x.toNat = l[p / 8].toNat ^^^ 2 ^ (p % 8)) :
    ∃ W' < 2 ^ (k + 1), val (l.set (p / 8) x) = v ^^^ 2 ^ at' * W' := by
  refine ⟨W ^^^ 2 ^ k, Nat.xor_lt_two_pow (Nat.lt_trans hW (Nat.pow_lt_pow_right (by omega) (by omega))) (Nat.pow_lt_pow_right (by omega) (by omega)), ?_⟩
  rw [val_set l p h x hx, hd, ← xor_mul, hp, Nat.pow_add, Nat.xor_assoc]

/-- Three rows of one length, xored. -/
theorem onL_xor3 : ∀ (a b c x : List UInt8), a.length = x.length → b.length = x.length → c.length = x.length →
    (∀ i (h : i < x.length) (ha : i < a.length) (hb : i < b.length) (hc : i < c.length), x[i].toNat = a[i].toNat ^^^ b[i].toNat ^^^ c[i].toNat) →
    ∀ p q r, onL (p ^^^ q ^^^ r) x = onL p a ^^^ onL q b ^^^ onL r c := by
  intro a
  induction a with
  | nil =>
    intro b c x ha hb hc _ p q r
    obtain rfl := List.length_eq_zero_iff.1 ha.symm
    obtain rfl := List.length_eq_zero_iff.1 hb
    obtain rfl := List.length_eq_zero_iff.1 hc
    rfl
  | cons a0 a ih =>
    intro b c x ha hb hc he p q r
    cases x with
    | nil => simp at ha
    | cons x0 x =>
    cases b with
    | nil => simp at hb
    | cons b0 b =>
    cases c with
    | nil => simp at hc
    | cons c0 c =>
    have e0 := he 0 (by simp) (by simp) (by simp) (by simp)
    simp only [List.getElem_cons_zero] at e0
    show onL (off 8 ((p ^^^ q ^^^ r) ^^^ x0.toNat)) x = onL (off 8 (p ^^^ a0.toNat)) a ^^^ onL (off 8 (q ^^^ b0.toNat)) b ^^^ onL (off 8 (r ^^^ c0.toNat)) c
    rw [← ih b c x (by simpa using ha) (by simpa using hb) (by simpa using hc) (fun i h h1 h2 h3 => by
      have := he (i + 1) (by simpa using h) (by simpa using h1) (by simpa using h2) (by simpa using h3)
      simpa using this), ← off_xor, ← off_xor, e0]
    congr 2
    ac_rfl
theorem crc_xor3 (a b c x : List UInt8) (ha : a.length = x.length) (hb : b.length = x.length) (hc : c.length = x.length)
    (he : ∀ i (h : i < x.length) (ha : i < a.length) (hb : i < b.length) (hc : i < c.length), x[i].toNat = a[i].toNat ^^^ b[i].toNat ^^^ c[i].toNat) :
    crcOn 0 x = crcOn 0 a ^^^ crcOn 0 b ^^^ crcOn 0 c := by
  unfold crcOn
  have := onL_xor3 a b c x ha hb hc he (0 ^^^ 4294967295) (0 ^^^ 4294967295) (0 ^^^ 4294967295)
  rw [show (0 ^^^ 4294967295) ^^^ (0 ^^^ 4294967295) ^^^ (0 ^^^ 4294967295) = (0 ^^^ 4294967295 : Nat) by decide] at this
  rw [this]
  generalize onL _ a = A
  generalize onL _ b = B
  generalize onL _ c = C
  have e : A ^^^ 4294967295 ^^^ (B ^^^ 4294967295) ^^^ (C ^^^ 4294967295) = A ^^^ B ^^^ C ^^^ 4294967295 ^^^ (4294967295 ^^^ 4294967295) := by ac_rfl
  rw [e, Nat.xor_self, Nat.xor_zero]

/-- The other bits. -/
theorem ones_sub {c : Nat} (h : c < 4294967296) : 4294967295 - c = c ^^^ 4294967295 := by
  have h1 : (~~~ (BitVec.ofNat 32 c)).toNat = 2 ^ 32 - 1 - c := by rw [BitVec.toNat_not, BitVec.toNat_ofNat, Nat.mod_eq_of_lt (by omega)]
  have h2 : (BitVec.ofNat 32 c ^^^ BitVec.allOnes 32).toNat = c ^^^ 4294967295 := by rw [BitVec.toNat_xor, BitVec.toNat_ofNat, Nat.mod_eq_of_lt (by omega)]; rfl
  rw [BitVec.xor_allOnes, h1] at h2
  exact h2
end Go.Proofs.YtlpkalfbcphkmaaGreat.Crc
