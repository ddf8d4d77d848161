import Derived.Test.YtkjhlgnpohamnaaGreatDoorStR
import Derived.Test.YtkjhlgnpohamnaaGreatDoorMEi
namespace Go.Proofs.YtkjhlgnpohamnaaGreatDoor
set_option linter.unusedVariables false
set_option linter.unusedSimpArgs false
open Go.RowKit
def St.wfs : St → Prop
 | .mk k a nm ty an e l r => e.wfx ∧ l.length ≤ 1000000 ∧ r.length ≤ 1000000 ∧ (∀ x (h : x ∈ l),x.wfs) ∧ (∀ x (h : x ∈ r),x.wfs)
termination_by s => SizeOf.sizeOf s
decreasing_by
 ·exact St.lt_l h
 ·exact St.lt_r h
section
variable {P : Program} {md : Region.Mode} {ops : Array Oper} {Q : Exit → Act → World → Prop} {S : World → Prop} {m : Nat}
end
theorem wpList_ldW {P : Program} {ops : Array Oper} {rest : List Oper} {o : Oper} {a : Act} {Q : Exit → Act → World → Prop} {w : World} (hgd : Region.wanted o (yielded ops a.tmps) = true) (T : TypeId) (x : Operand) (ho : o.op = .load T x) (G off : Nat) (hx : a.eval x = .pointer (some ⟨G,off,none⟩)) (cs : List Value) {d : TypeDesc} (hs : w.rangeAt G off cs) (hu : P.underlying T = some d) (hd : d.isRow = true)
  (hT : (P.info? T).map (·.size) = some cs.length) (h : wpList P ops Q rest (a.put o.dst (.agg cs.toArray)) w) : wpList P ops Q (o :: rest) a w:=
 wpList_wanted hgd fun _ hK => wp_load_mid T x ho G off hx cs d hs hu hd hT (hK _ _ h)
theorem Var.all {w : World} {G : Nat} {cs us : List Value} (h : Var w G cs) (hl : us.length = cs.length) : Var (w.setCells G 0 us) G us:=by
 have:=h.sets 0 us (by omega)
 have e : spl cs 0 us = us:=by
  unfold spl
  rw [List.take_zero,List.nil_append,Nat.zero_add,hl,List.drop_length,List.append_nil]
 rwa [e] at this
end Go.Proofs.YtkjhlgnpohamnaaGreatDoor
