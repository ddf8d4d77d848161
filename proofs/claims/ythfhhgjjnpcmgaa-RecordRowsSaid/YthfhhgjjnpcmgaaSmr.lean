/-
  A SUMMER OF LAYER 2 IN MEMORY: the block of a Summer: its cells; what turns in that block alone.
-/
import Derived.Test.YthfhhgjjnpcmgaaSame
import Derived.Test.YthfhhgjjnpcmgaaCrcMath
import Derived.Laws.LoneSync
import Derived.Laws.NewBlocks
namespace Go.Proofs.Ythfhhgjjnpcmgaa
set_option linter.unusedVariables false
set_option linter.unusedSimpArgs false
open Go.RowKit

/-- Only cells of the block g turn; the streams, the other blocks and all marks stay. -/
structure Only (g : Nat) (w w' : World) : Prop where
  os : w'.os = w.os
  tape : w'.tape = w.tape
  output : w'.output = w.output
  size : w'.heap.size = w.heap.size
  block : ∀ k, k ≠ g → w'.heap[k]? = w.heap[k]?
  frozen : ∀ a, w'.frozen? a = w.frozen? a
section
variable {g : Nat} {a b c : World}
theorem Only.refl (g : Nat) (w : World) : Only g w w := ⟨rfl, rfl, rfl, rfl, fun _ _ => rfl, fun _ => rfl⟩
theorem Only.trans (h : Only g a b) (k : Only g b c) : Only g a c :=
  ⟨k.os.trans h.os, k.tape.trans h.tape, k.output.trans h.output, k.size.trans h.size, fun i hi => (k.block i hi).trans (h.block i hi), fun p => (k.frozen p).trans (h.frozen p)⟩
theorem Only.drew (h : Only g a b) : Only g a b.drew := ⟨h.os, h.tape, h.output, h.size, h.block, h.frozen⟩
theorem Only.quiet (h : Only g a b) (hq : Quiet b c) : Only g a c := by
  obtain ⟨q, rfl⟩ := hq
  exact ⟨h.os, h.tape, h.output, h.size, h.block, h.frozen⟩
theorem Only.setCell (h : Only g a b) (j : Nat) (v : Value) : Only g a (b.setCell ⟨g, j, none⟩ v) :=
  h.trans ⟨rfl, rfl, rfl, by simp, fun k hk => Below.heap_setCell _ _ _ _ hk, fun p => World.frozen?_setCell _ _ _ _⟩
theorem Only.cell (h : Only g a b) {p : Addr} (hp : p.block ≠ g) : b.cell? p = a.cell? p := World.cell?_of_block (w := a) (h.block p.block hp)
theorem Only.below (h : Only g a b) {B : Nat} (hB : B ≤ g) : Below B a b := ⟨h.os, h.tape, h.output, Nat.le_of_eq h.size.symm, fun k hk => h.block k (by omega)⟩
end

/-- What the table holds at i, once it is made (d), and before. -/
def tabv (d : Bool) (i : Nat) : Int := match d with | true => (stps 8 i : Nat) | false => 0
def donev (d : Bool) : Int := match d with | true => 1 | false => 0
/-- The block g is a summer: is its table made (d); how many calls (k). -/
structure Smr (w : World) (g : Nat) (d : Bool) (k : Nat) : Prop where
  nf : ∀ j, w.frozen? ⟨g, j, none⟩ = false
  c0 : w.cell? ⟨g, 0, none⟩ = some (.int .u32 (donev d))
  c1 : w.cell? ⟨g, 1, none⟩ = some (.int .i32 0)
  ct : ∀ i, i < 256 → w.cell? ⟨g, 3 + i, none⟩ = some (.int .u32 (tabv d i))
  cc : w.cell? ⟨g, 259, none⟩ = some (.int .i64 (k : Int))
section
variable {g h k : Nat} {d : Bool} {a b : World}
theorem Smr.lt (s : Smr a g d k) : g < a.heap.size := World.block_lt_of_cell? _ _ s.c0
theorem Smr.keep (s : Smr a g d k) (hc : ∀ j, b.cell? ⟨g, j, none⟩ = a.cell? ⟨g, j, none⟩) (hf : ∀ j, b.frozen? ⟨g, j, none⟩ = a.frozen? ⟨g, j, none⟩) : Smr b g d k :=
  ⟨fun j => (hf j).trans (s.nf j), (hc _).trans s.c0, (hc _).trans s.c1, fun i hi => (hc _).trans (s.ct i hi), (hc _).trans s.cc⟩
theorem Smr.only (s : Smr a g d k) (ho : Only h a b) (hne : g ≠ h) : Smr b g d k := s.keep (fun j => ho.cell hne) (fun j => ho.frozen _)
theorem Smr.below (s : Smr a g d k) {B : Nat} (hb : Below B a b) (hB : g < B) : Smr b g d k := s.keep (fun j => hb.cell hB) (fun j => hb.frozen hB)
theorem Smr.quiet (s : Smr a g d k) (hq : Quiet a b) : Smr b g d k := s.below (hq.below (g + 1)) (Nat.lt_succ_self _)
theorem Smr.drew (s : Smr a g d k) : Smr a.drew g d k := s.quiet (Quiet.one a 1)
theorem Smr.alloc (s : Smr a g d k) (o : Obj) : Smr (a.alloc o) g d k := s.below ((Below.refl (g + 1) a).alloc s.lt o) (Nat.lt_succ_self _)
end

/-- A new summer's cells. -/
def zl : List Value := [.int .u32 0, .int .i32 0, .int .u32 0] ++ (List.replicate 256 (.int .u32 0) ++ [.int .i64 0])
theorem row_in (p q : List Value) (v : Value) (n i : Nat) (hi : i < n) : (p ++ (List.replicate n v ++ q))[p.length + i]? = some v := by
  rw [List.getElem?_append_right (by omega), Nat.add_sub_cancel_left, List.getElem?_append_left (by simpa using hi), List.getElem?_replicate, if_pos hi]
theorem zl_tab (i : Nat) (hi : i < 256) : zl[3 + i]? = some (.int .u32 0) := row_in [.int .u32 0, .int .i32 0, .int .u32 0] [.int .i64 0] (.int .u32 0) 256 i hi
theorem zero_smr (w : World) : (zeroValue 70).run Try.prog w = .ok (.agg zl.toArray) w := by
  have h : (Try.prog.info? 70).map (fun i => i.zero) = some (some (.agg zl.toArray)) := by kernel_rfl
  obtain ⟨i, hi, hz⟩ := Option.map_eq_some_iff.1 h
  simp [zeroValue, typeInfo, hi, hz]
theorem Smr.new (w : World) (t : TypeId) : Smr (w.alloc (.cells zl.toArray t)) w.heap.size false 0 := by
  have h : ∀ j, (w.alloc (.cells zl.toArray t)).cell? ⟨w.heap.size, j, none⟩ = zl[j]? := fun j => by
    rw [World.cell?_alloc_at _ _ _ _ rfl, List.getElem?_toArray]
  exact ⟨fun j => World.frozen?_alloc_at _ _ _ _ rfl, (h _).trans rfl, (h _).trans rfl, fun i hi => (h _).trans (zl_tab i hi), (h _).trans rfl⟩

set_option maxHeartbeats 400000 in
theorem new_any (w : World) : Calls Try.prog 9 #[] w fun e w' => e = .returned (.pointer (some ⟨w.heap.size, 0, none⟩)) ∧ w' = w.alloc (.cells zl.toArray 70) := by
  have hb := zero_smr
  go_enter Try.func9, Try.ntmps9
  go_wp2
  go_ret
  exact ⟨rfl, rfl⟩
end Go.Proofs.Ythfhhgjjnpcmgaa
