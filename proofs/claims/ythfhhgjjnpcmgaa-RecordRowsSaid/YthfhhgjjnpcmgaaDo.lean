/-
  CONTRACT OF sync.Once.Do, met by a summer: the table is made, or is there already.
-/
import Derived.Test.YthfhhgjjnpcmgaaOnce
namespace Go.Proofs.Ythfhhgjjnpcmgaa
set_option linter.unusedVariables false
set_option linter.unusedSimpArgs false
open Go.RowKit

theorem not_bool (x : Bool) (w : World) : (Op.unary .not (.bool x)).run Try.prog w = .ok (.bool (!x)) w := rfl

/-- '(*sync/atomic.Bool).Load'. -/
theorem load_no (a : Addr) (w : World) (h0 : w.cell? a = some (.int .u32 0)) :
    Calls Try.prog 35 #[.pointer (some a)] w fun e w' => e = .returned (.bool false) ∧ w = w' := by
  have hl := run_call_load (P := Try.prog) Try.func37 (by kernel_rfl) (by kernel_rfl) (by kernel_rfl) .u32 (by kernel_rfl) h0
  go_enter Try.func35, Try.ntmps35
  go_wp2
  go_ret
  exact ⟨rfl, rfl⟩
theorem load_yes (a : Addr) (w : World) (h0 : w.cell? a = some (.int .u32 1)) :
    Calls Try.prog 35 #[.pointer (some a)] w fun e w' => e = .returned (.bool true) ∧ w = w' := by
  have hl := run_call_load (P := Try.prog) Try.func37 (by kernel_rfl) (by kernel_rfl) (by kernel_rfl) .u32 (by kernel_rfl) h0
  go_enter Try.func35, Try.ntmps35
  go_wp2
  go_ret
  exact ⟨rfl, rfl⟩

/-- Behind the table: the two deferred calls. -/
theorem Smr.made {w w2 : World} {g k : Nat} (s : Smr w g false k) (p : Part (w.setCell ⟨g, 1, none⟩ (.int .i32 1)) w2 g 256) :
    Smr ((w2.drew.setCell ⟨g, 0, none⟩ (.int .u32 1)).setCell ⟨g, 1, none⟩ (.int .i32 0)) g true k ∧ Only g w ((w2.drew.setCell ⟨g, 0, none⟩ (.int .u32 1)).setCell ⟨g, 1, none⟩ (.int .i32 0)) := by
  have ho : Only g w w2.drew := (((Only.refl g w).setCell 1 _).trans p.only).drew
  refine ⟨⟨fun j => ?_, ?_, ?_, fun i hi => ?_, ?_⟩, (ho.setCell 0 _).setCell 1 _⟩
  · exact (((ho.setCell 0 _).setCell 1 _).frozen _).trans (s.nf j)
  · rw [World.cell?_setCell_other _ _ _ _ (off_ne (by omega))]
    exact World.cell?_setCell_same _ _ _ ((p.out 0 (by omega)).trans ((World.cell?_setCell_other _ _ _ _ (off_ne (by omega))).trans s.c0))
  · refine World.cell?_setCell_same _ _ _ ((World.cell?_setCell_other _ _ _ _ (off_ne (by omega))).trans ((p.out 1 (by omega)).trans (World.cell?_setCell_same _ _ _ s.c1)))
  · rw [World.cell?_setCell_other _ _ _ _ (off_ne (by omega)), World.cell?_setCell_other _ _ _ _ (off_ne (by omega))]
    exact p.laid i hi
  · rw [World.cell?_setCell_other _ _ _ _ (off_ne (by omega)), World.cell?_setCell_other _ _ _ _ (off_ne (by omega))]
    exact (p.out 259 (by omega)).trans ((World.cell?_setCell_other _ _ _ _ (off_ne (by omega))).trans s.cc)
theorem Part.c0 {w w2 : World} {g k : Nat} (s : Smr w g false k) (p : Part (w.setCell ⟨g, 1, none⟩ (.int .i32 1)) w2 g 256) : w2.cell? ⟨g, 0, none⟩ = some (.int .u32 0) :=
  (p.out 0 (by omega)).trans ((World.cell?_setCell_other _ _ _ _ (off_ne (by omega))).trans s.c0)
theorem Part.c1 {w w2 : World} {g k : Nat} (s : Smr w g false k) (p : Part (w.setCell ⟨g, 1, none⟩ (.int .i32 1)) w2 g 256) :
    (w2.drew.setCell ⟨g, 0, none⟩ (.int .u32 1)).cell? ⟨g, 1, none⟩ = some (.int .i32 1) :=
  (World.cell?_setCell_other _ _ _ _ (off_ne (by omega))).trans ((p.out 1 (by omega)).trans (World.cell?_setCell_same _ _ _ s.c1))
theorem Part.nf {w w2 : World} {g k : Nat} (s : Smr w g false k) (p : Part (w.setCell ⟨g, 1, none⟩ (.int .i32 1)) w2 g 256) (j : Nat) : w2.frozen? ⟨g, j, none⟩ = false :=
  (p.only.frozen _).trans ((World.frozen?_setCell _ _ _ _).trans (s.nf j))

set_option maxRecDepth 100000 in
set_option maxHeartbeats 1600000 in
/-- 'doSlow', not yet done. -/
theorem slow_any (g k : Nat) (w : World) (h : Smr w g false k) :
    Calls Try.prog 36 #[.pointer (some ⟨g, 0, none⟩), .func (.func 33) #[.pointer (some ⟨g, 0, none⟩)] #[]] w fun e w' => e = .returned (.tuple #[]) ∧ Smr w' g true k ∧ Only g w w' := by
  have h0 := h.c0
  have h1 := h.c1
  have f0 := h.nf 0
  have f1 := h.nf 1
  have c1 : (w.setCell ⟨g, 1, none⟩ (.int .i32 1)).cell? ⟨g, 0, none⟩ = some (.int .u32 0) := (World.cell?_setCell_other _ _ _ _ (off_ne (by omega))).trans h0
  have hnot := not_bool
  have ht := table_any g (w.setCell ⟨g, 1, none⟩ (.int .i32 1)) (fun j => (World.frozen?_setCell _ _ _ _).trans (h.nf j)) (fun i hi => ⟨_, (World.cell?_setCell_other _ _ _ _ (off_ne (by omega))).trans (h.ct i hi)⟩)
  have HT := Lib.hid ht
  have C1 := Lib.hid c1
  have HS := Lib.hid h
  clear ht h c1
  go_enter_defers Try.func36, Try.ntmps36
  go_wp2_with (first | (go_at_call 38; refine (lock_free ⟨g, 1, none⟩ _ (by go_simp) (by go_simp)).mono ?_; rintro e w' ⟨rfl, rfl⟩) | (go_at_call 35; refine (load_no ⟨g, 0, none⟩ _ C1.out).mono ?_; rintro e w' ⟨rfl, rfl⟩) | (go_at_call 33; refine HT.out.mono ?_; rintro e w2 ⟨rfl, hp⟩; have HP := Lib.hid hp; clear hp))
  refine leaves_cons (f := 40) (args := #[.pointer (some ⟨g, 0, none⟩), .bool true]) (by simp) (by simp [go_sem]) ?_
  refine (store_deferred ⟨g, 0, none⟩ (.int .u32 0) .returning _ (Part.c0 HS.out HP.out) (Part.nf HS.out HP.out 0)).mono ?_
  rintro e u' w'' ⟨rfl, rfl, rfl⟩
  refine leaves_cons (f := 39) (args := #[.pointer (some ⟨g, 1, none⟩)]) (by simp [settle]) (by simp [go_sem]) ?_
  refine (unlock_deferred ⟨g, 1, none⟩ _ _ (Part.c1 HS.out HP.out) ((World.frozen?_setCell _ _ _ _).trans (Part.nf HS.out HP.out 1))).mono ?_
  rintro e u' w'' ⟨rfl, rfl, rfl⟩
  have HM := Lib.hid (HS.out.made HP.out)
  clear h0 h1 f0 f1 hnot
  simp [Leaves, settle, results, Try.results36]
  exact HM.out

set_option maxRecDepth 100000 in
set_option maxHeartbeats 1600000 in
/-- 'Do', whether or not it is done. -/
theorem do_any (g k : Nat) (d : Bool) (w : World) (h : Smr w g d k) :
    Calls Try.prog 32 #[.pointer (some ⟨g, 0, none⟩), .func (.func 33) #[.pointer (some ⟨g, 0, none⟩)] #[]] w fun e w' => e = .returned (.tuple #[]) ∧ Smr w' g true k ∧ Only g w w' := by
  have hnot := not_bool
  cases d with
  | false =>
    have HS := Lib.hid h
    clear h
    go_enter Try.func32, Try.ntmps32
    go_wp2_with (first | (go_at_call 35; refine (load_no ⟨g, 0, none⟩ _ HS.out.c0).mono ?_; rintro e w' ⟨rfl, rfl⟩) | (go_at_call 36; refine (slow_any g k _ HS.out).mono ?_; rintro e w2 ⟨rfl, hm⟩; have HM := Lib.hid hm; clear hm))
    go_end0
    exact ⟨rfl, HM.out⟩
  | true =>
    have HS := Lib.hid h
    clear h
    go_enter Try.func32, Try.ntmps32
    go_wp2_with (go_at_call 35; refine (load_yes ⟨g, 0, none⟩ _ HS.out.c0).mono ?_; rintro e w' ⟨rfl, rfl⟩)
    go_end0
    exact ⟨rfl, HS.out, Only.refl _ _⟩
end Go.Proofs.Ythfhhgjjnpcmgaa
