/-
  Rules for a region whose first operation is a communication on a channel of the goroutine's own: a receive from a buffer, a receive from a closed channel, a select of one send with a default. Over any program.
-/
import Derived.WalkKit
import Derived.Conc.LoneCalls
import Derived.Conc.LoneSelect
namespace Go.Proofs.Ytbipkbcmcidalaa
open Go.RowKit Go.Conc

section
variable {P : Program} {b : Frame} {a : Act} {k : List Item} {cs : List Frame} {w : World}

theorem comm_any {ops : Array Oper} {i : Nat} {rest : List Nat} {o : Oper} {cases : Array CommCase} {blocking : Bool} {shape : CommShape} {w' : World} (ho : ops[i]? = some o) (hw : Region.wanted o (yielded ops a.tmps) = true)
    (hr : (execOp a.eval o).run P w = .ok (.comm cases blocking shape) w') :
    ∃ es, stepG P true (G (b.at a (.inRegion ops (i :: rest) :: k)) cs) w = .comm (G (b.at a (.inRegion ops (i :: rest) :: k)) cs) cases blocking shape w' es := by
  by_cases hk : b.kind = .early
  · refine ⟨seen P b.fn #[], ?_⟩
    rw [stepG_oper ho hw]
    simp [stepG.apply, hr, G, Frame.at, hk, GStep.after]
  · exact ⟨_, stepG_comm ho hw hk hr⟩
end

/-- A region whose first operation is a step of the machine that yields v. -/
theorem wp_region_first {P : Program} {id : Nat} {o : Oper} {l : List Oper} {Q : Exit → Act → World → Prop} {a : Act} {w w' : World} {v : Value} (ops : Array Oper) (hops : ops = (o :: l).toArray)
    (hstep : ∀ (b : Frame) (k : List Item) (cs : List Frame) (rest : List Nat), step P (lone (b.at a (.inRegion ops (0 :: rest) :: k)) cs w) = .next (lone ((b.at a (.inRegion ops (0 :: rest) :: k)).finish v) cs w'))
    (h : wpList P (o :: l).toArray Q l (a.put o.dst v) w') : (Code.region id ops false).wp P Q a w := by
  subst hops
  intro b k cs
  have e : wpOps P (o :: l).toArray Q (List.range' 1 l.length) = wpList P (o :: l).toArray Q l := wpOps_eq_wpList l 1 (fun j => by simp [Nat.add_comm 1 j])
  rw [← e] at h
  obtain ⟨x, a', w'', hq, harr⟩ := wp_ops _ _ _ h b k cs
  refine ⟨x, a', w'', hq, .of_steps (.head step_region (.one ?_)) harr⟩
  have hr : List.range (o :: l).toArray.size = 0 :: List.range' 1 l.length := by
    rw [List.range_eq_range']; simp [List.range'_succ]
  rw [hr, hstep b k cs, Frame.finish_at]
  rfl

section
variable {P : Program} {id : Nat} {o : Oper} {l : List Oper} {Q : Exit → Act → World → Prop} {a : Act} {w : World} {c cap s r : Nat} {buf : Array Value} {z v : Value} {tm closed : Bool}

theorem wp_recv_buf (hg : o.guard = none) (hr : (execOp a.eval o).run P w = .ok (.comm #[rcase c z] true (.recv true)) w) (hc : w.heap[c]? = some (.chan cap buf closed s r tm)) (hsome : 0 < buf.size)
    (h : wpList P (o :: l).toArray Q l (a.put o.dst (.tuple #[buf.getD 0 undef, .bool true])) (w.setChan c cap (buf.extract 1 buf.size) closed s (r + 1) tm)) : (Code.region id (o :: l).toArray false).wp P Q a w := by
  refine wp_region_first _ rfl (fun b k cs rest => ?_) h
  obtain ⟨es, hs⟩ := comm_any (P := P) (b := b) (k := k) (cs := cs) (rest := rest) (ops := (o :: l).toArray) (i := 0) (by simp) (by simp [Region.wanted, hg]) hr
  exact step_lone_recv_buf true hs hc hsome
theorem wp_recv_shut (hg : o.guard = none) (hr : (execOp a.eval o).run P w = .ok (.comm #[rcase c z] true (.recv true)) w) (hc : w.heap[c]? = some (.chan cap #[] true s r tm))
    (h : wpList P (o :: l).toArray Q l (a.put o.dst (.tuple #[z, .bool false])) w) : (Code.region id (o :: l).toArray false).wp P Q a w := by
  refine wp_region_first _ rfl (fun b k cs rest => ?_) h
  obtain ⟨es, hs⟩ := comm_any (P := P) (b := b) (k := k) (cs := cs) (rest := rest) (ops := (o :: l).toArray) (i := 0) (by simp) (by simp [Region.wanted, hg]) hr
  exact step_lone_recv_shut true hs hc
theorem wp_send_room (hg : o.guard = none) (hr : (execOp a.eval o).run P w = .ok (.comm #[scase c v z] false .select) w) (hc : w.heap[c]? = some (.chan cap buf false s r tm)) (hroom : buf.size < cap)
    (h : wpList P (o :: l).toArray Q l (a.put o.dst (.tuple #[goInt 0, .bool false])) (w.setChan c cap (buf.push v) false (s + 1) r tm)) : (Code.region id (o :: l).toArray false).wp P Q a w := by
  refine wp_region_first _ rfl (fun b k cs rest => ?_) h
  obtain ⟨es, hs⟩ := comm_any (P := P) (b := b) (k := k) (cs := cs) (rest := rest) (ops := (o :: l).toArray) (i := 0) (by simp) (by simp [Region.wanted, hg]) hr
  exact step_lone_select_send_room hs hc hroom
theorem wp_send_full (hg : o.guard = none) (hr : (execOp a.eval o).run P w = .ok (.comm #[scase c v z] false .select) w) (hc : w.heap[c]? = some (.chan cap buf false s r tm)) (hfull : cap ≤ buf.size)
    (h : wpList P (o :: l).toArray Q l (a.put o.dst (.tuple #[goInt (-1), .bool false])) w) : (Code.region id (o :: l).toArray false).wp P Q a w := by
  refine wp_region_first _ rfl (fun b k cs rest => ?_) h
  obtain ⟨es, hs⟩ := comm_any (P := P) (b := b) (k := k) (cs := cs) (rest := rest) (ops := (o :: l).toArray) (i := 0) (by simp) (by simp [Region.wanted, hg]) hr
  exact step_lone_select_send_full hs hc hfull
end
end Go.Proofs.Ytbipkbcmcidalaa
