/-
  THE DOCUMENT'S DISK, NEW: what is done with it answers, and turns nothing but it.
-/
import Derived.Test.YtfhbolhmfhgeaaaDOpen
namespace Go.Proofs.Ytfhbolhmfhgeaaa
set_option linter.unusedVariables false
set_option linter.unusedSimpArgs false
open Go.RowKit Go.Maps

theorem grown_set' {a b : World} {g j : Nat} {v : Value} (h : a.grownBy b (some g)) : a.grownBy (b.setCell ⟨g, j, none⟩ v) (some g) := grown_trans h (grown_set b g j v)
theorem grown_alloc' {a b : World} {row : Option Nat} {o : Obj} (h : a.grownBy b row) : a.grownBy (b.alloc o) row := grown_trans h (World.grownBy_alloc b o row)
theorem grown_drew' {a b : World} {row : Option Nat} {q : Nat} (h : a.grownBy b row) : a.grownBy (b.drewN q) row := grown_trans h (Quiet.grown ⟨q, rfl⟩ row)
def zeros : List Value := [.slice none 0 0, .slice none 0 0, .slice none 0 0, .slice none 0 0, .int .i64 0, .bool false, .int .i64 0, .int .i64 0, .int .i64 0, .int .i64 0]
/-- A disk of the document's lies at r, new. -/
def RZ (w : World) (r : Nat) : Prop := Blk w r 52 zeros

set_option maxRecDepth 10000 in
set_option maxHeartbeats 800000 in
theorem rz_begin {w : World} {r : Nat} (h : RZ w r) : Calls Try.prog 67 #[.pointer (some ⟨r, 0, none⟩)] w fun e w' => e = .returned (.int .i64 0) ∧ w' = w.setCell ⟨r, 6, none⟩ (.int .i64 1) := by
  have c5 : w.cell? ⟨r, 5, none⟩ = some (.bool false) := h.cell 5
  have c6 : w.cell? ⟨r, 6, none⟩ = some (.int .i64 0) := h.cell 6
  have c7 : w.cell? ⟨r, 7, none⟩ = some (.int .i64 0) := h.cell 7
  have c8 : w.cell? ⟨r, 8, none⟩ = some (.int .i64 0) := h.cell 8
  have f6 := h.nf 6
  clear h
  go_enter Try.func67, Try.ntmps67
  go_wp2
  go_ret
  exact ⟨rfl, rfl⟩
theorem find_nil (s : ByteArray) (w : World) : Calls Try.prog 38 #[.slice none 0 0, .string s] w fun e w' => e = .returned (.int .i64 (-1)) ∧ w = w' := by
  go_enter Try.func38, Try.ntmps38
  go_wp2
  go_loopw [5] (fun i wr => i = .int .i64 0 ∧ w = wr) (fun i _ => 0)
  case atStart => exact ⟨rfl, rfl⟩
  case round =>
    obtain ⟨rfl, rfl⟩ := hrel
    go_wp2
    go_ret
    exact ⟨rfl, rfl⟩
theorem arm_any (n : Int) (w : World) : Calls Try.prog 46 #[.int .i64 n] w fun e w' => (∃ m : Int, e = .returned (.int .i64 m)) ∧ w = w' := by
  go_enter Try.func46, Try.ntmps46
  go_wp2
  all_goals
    go_ret
    exact ⟨⟨_, rfl⟩, rfl⟩
set_option maxRecDepth 10000 in
set_option maxHeartbeats 800000 in
theorem rz_append {w : World} {r : Nat} (h : RZ w r) (s : ByteArray) (v : Value) : Calls Try.prog 41 #[.pointer (some ⟨r, 0, none⟩), .string s, v] w fun e w' => (∃ n : Int, e = .returned (.int .i64 n)) ∧ w.grownBy w' (some r) := by
  have c0 : w.cell? ⟨r, 0, none⟩ = some (.slice none 0 0) := h.cell 0
  have c1 : w.cell? ⟨r, 1, none⟩ = some (.slice none 0 0) := h.cell 1
  have c2 : w.cell? ⟨r, 2, none⟩ = some (.slice none 0 0) := h.cell 2
  have c3 : w.cell? ⟨r, 3, none⟩ = some (.slice none 0 0) := h.cell 3
  have c8 : w.cell? ⟨r, 8, none⟩ = some (.int .i64 0) := h.cell 8
  have c9 : w.cell? ⟨r, 9, none⟩ = some (.int .i64 0) := h.cell 9
  have c5 : w.cell? ⟨r, 5, none⟩ = some (.bool false) := h.cell 5
  have f0 := h.nf 0
  have f1 := h.nf 1
  have f2 := h.nf 2
  have f3 := h.nf 3
  have f8 := h.nf 8
  have f9 := h.nf 9
  have HB := Lib.hid (rz_begin h)
  clear h
  go_enter Try.func41, Try.ntmps41
  go_wp2_with (first
    | (go_at_call 67; refine HB.out.mono ?_; rintro e w1 ⟨rfl, rfl⟩)
    | (go_at_call 38; refine (find_nil _ _).mono ?_; rintro e w2 ⟨rfl, rfl⟩)
    | (go_at_call 46; refine (arm_any _ _).mono ?_; rintro e w2 ⟨⟨n, rfl⟩, rfl⟩)
    | fail)
  all_goals
    go_ret
    refine ⟨?_, ?_⟩
    · exact ⟨_, rfl⟩
    · (repeat (first | exact grown_refl _ _ | assumption | apply grown_set' | apply grown_alloc' | apply grown_drew'))
set_option maxRecDepth 10000 in
set_option maxHeartbeats 800000 in
theorem rz_sync {w : World} {r : Nat} (h : RZ w r) (s : ByteArray) : Calls Try.prog 42 #[.pointer (some ⟨r, 0, none⟩), .string s] w fun e w' => (∃ n : Int, e = .returned (.int .i64 n)) ∧ w.grownBy w' (some r) := by
  have c0 : w.cell? ⟨r, 0, none⟩ = some (.slice none 0 0) := h.cell 0
  have c1 : w.cell? ⟨r, 1, none⟩ = some (.slice none 0 0) := h.cell 1
  have c2 : w.cell? ⟨r, 2, none⟩ = some (.slice none 0 0) := h.cell 2
  have c3 : w.cell? ⟨r, 3, none⟩ = some (.slice none 0 0) := h.cell 3
  have c8 : w.cell? ⟨r, 8, none⟩ = some (.int .i64 0) := h.cell 8
  have c9 : w.cell? ⟨r, 9, none⟩ = some (.int .i64 0) := h.cell 9
  have c5 : w.cell? ⟨r, 5, none⟩ = some (.bool false) := h.cell 5
  have f0 := h.nf 0
  have f1 := h.nf 1
  have f2 := h.nf 2
  have f3 := h.nf 3
  have f8 := h.nf 8
  have f9 := h.nf 9
  have HB := Lib.hid (rz_begin h)
  clear h
  go_enter Try.func42, Try.ntmps42
  go_wp2_with (first
    | (go_at_call 67; refine HB.out.mono ?_; rintro e w1 ⟨rfl, rfl⟩)
    | (go_at_call 38; refine (find_nil _ _).mono ?_; rintro e w2 ⟨rfl, rfl⟩)
    | (go_at_call 46; refine (arm_any _ _).mono ?_; rintro e w2 ⟨⟨n, rfl⟩, rfl⟩)
    | fail)
  all_goals
    go_ret
    refine ⟨?_, ?_⟩
    · exact ⟨_, rfl⟩
    · (repeat (first | exact grown_refl _ _ | assumption | apply grown_set' | apply grown_alloc' | apply grown_drew'))
set_option maxRecDepth 10000 in
set_option maxHeartbeats 800000 in
theorem rz_syncDir {w : World} {r : Nat} (h : RZ w r) : Calls Try.prog 43 #[.pointer (some ⟨r, 0, none⟩)] w fun e w' => (∃ n : Int, e = .returned (.int .i64 n)) ∧ w.grownBy w' (some r) := by
  have c0 : w.cell? ⟨r, 0, none⟩ = some (.slice none 0 0) := h.cell 0
  have c1 : w.cell? ⟨r, 1, none⟩ = some (.slice none 0 0) := h.cell 1
  have c2 : w.cell? ⟨r, 2, none⟩ = some (.slice none 0 0) := h.cell 2
  have c3 : w.cell? ⟨r, 3, none⟩ = some (.slice none 0 0) := h.cell 3
  have c8 : w.cell? ⟨r, 8, none⟩ = some (.int .i64 0) := h.cell 8
  have c9 : w.cell? ⟨r, 9, none⟩ = some (.int .i64 0) := h.cell 9
  have c5 : w.cell? ⟨r, 5, none⟩ = some (.bool false) := h.cell 5
  have f0 := h.nf 0
  have f1 := h.nf 1
  have f2 := h.nf 2
  have f3 := h.nf 3
  have f8 := h.nf 8
  have f9 := h.nf 9
  have HB := Lib.hid (rz_begin h)
  clear h
  go_enter Try.func43, Try.ntmps43
  go_wp2_with (first
    | (go_at_call 67; refine HB.out.mono ?_; rintro e w1 ⟨rfl, rfl⟩)
    | (go_at_call 38; refine (find_nil _ _).mono ?_; rintro e w2 ⟨rfl, rfl⟩)
    | (go_at_call 46; refine (arm_any _ _).mono ?_; rintro e w2 ⟨⟨n, rfl⟩, rfl⟩)
    | fail)
  all_goals
    go_ret
    refine ⟨?_, ?_⟩
    · exact ⟨_, rfl⟩
    · (repeat (first | exact grown_refl _ _ | assumption | apply grown_set' | apply grown_alloc' | apply grown_drew'))
set_option maxRecDepth 10000 in
set_option maxHeartbeats 800000 in
theorem rz_rename {w : World} {r : Nat} (h : RZ w r) (s t : ByteArray) : Calls Try.prog 44 #[.pointer (some ⟨r, 0, none⟩), .string s, .string t] w fun e w' => (∃ n : Int, e = .returned (.int .i64 n)) ∧ w.grownBy w' (some r) := by
  have c0 : w.cell? ⟨r, 0, none⟩ = some (.slice none 0 0) := h.cell 0
  have c1 : w.cell? ⟨r, 1, none⟩ = some (.slice none 0 0) := h.cell 1
  have c2 : w.cell? ⟨r, 2, none⟩ = some (.slice none 0 0) := h.cell 2
  have c3 : w.cell? ⟨r, 3, none⟩ = some (.slice none 0 0) := h.cell 3
  have c8 : w.cell? ⟨r, 8, none⟩ = some (.int .i64 0) := h.cell 8
  have c9 : w.cell? ⟨r, 9, none⟩ = some (.int .i64 0) := h.cell 9
  have c5 : w.cell? ⟨r, 5, none⟩ = some (.bool false) := h.cell 5
  have f0 := h.nf 0
  have f1 := h.nf 1
  have f2 := h.nf 2
  have f3 := h.nf 3
  have f8 := h.nf 8
  have f9 := h.nf 9
  have HB := Lib.hid (rz_begin h)
  clear h
  go_enter Try.func44, Try.ntmps44
  go_wp2_with (first
    | (go_at_call 67; refine HB.out.mono ?_; rintro e w1 ⟨rfl, rfl⟩)
    | (go_at_call 38; refine (find_nil _ _).mono ?_; rintro e w2 ⟨rfl, rfl⟩)
    | (go_at_call 46; refine (arm_any _ _).mono ?_; rintro e w2 ⟨⟨n, rfl⟩, rfl⟩)
    | fail)
  all_goals
    go_ret
    refine ⟨?_, ?_⟩
    · exact ⟨_, rfl⟩
    · (repeat (first | exact grown_refl _ _ | assumption | apply grown_set' | apply grown_alloc' | apply grown_drew'))
set_option maxRecDepth 10000 in
set_option maxHeartbeats 800000 in
theorem rz_remove {w : World} {r : Nat} (h : RZ w r) (s : ByteArray) : Calls Try.prog 45 #[.pointer (some ⟨r, 0, none⟩), .string s] w fun e w' => (∃ n : Int, e = .returned (.int .i64 n)) ∧ w.grownBy w' (some r) := by
  have c0 : w.cell? ⟨r, 0, none⟩ = some (.slice none 0 0) := h.cell 0
  have c1 : w.cell? ⟨r, 1, none⟩ = some (.slice none 0 0) := h.cell 1
  have c2 : w.cell? ⟨r, 2, none⟩ = some (.slice none 0 0) := h.cell 2
  have c3 : w.cell? ⟨r, 3, none⟩ = some (.slice none 0 0) := h.cell 3
  have c8 : w.cell? ⟨r, 8, none⟩ = some (.int .i64 0) := h.cell 8
  have c9 : w.cell? ⟨r, 9, none⟩ = some (.int .i64 0) := h.cell 9
  have c5 : w.cell? ⟨r, 5, none⟩ = some (.bool false) := h.cell 5
  have f0 := h.nf 0
  have f1 := h.nf 1
  have f2 := h.nf 2
  have f3 := h.nf 3
  have f8 := h.nf 8
  have f9 := h.nf 9
  have HB := Lib.hid (rz_begin h)
  clear h
  go_enter Try.func45, Try.ntmps45
  go_wp2_with (first
    | (go_at_call 67; refine HB.out.mono ?_; rintro e w1 ⟨rfl, rfl⟩)
    | (go_at_call 38; refine (find_nil _ _).mono ?_; rintro e w2 ⟨rfl, rfl⟩)
    | (go_at_call 46; refine (arm_any _ _).mono ?_; rintro e w2 ⟨⟨n, rfl⟩, rfl⟩)
    | fail)
  all_goals
    go_ret
    refine ⟨?_, ?_⟩
    · exact ⟨_, rfl⟩
    · (repeat (first | exact grown_refl _ _ | assumption | apply grown_set' | apply grown_alloc' | apply grown_drew'))
set_option maxRecDepth 10000 in
set_option maxHeartbeats 800000 in
theorem rz_boot {w : World} {r : Nat} (h : RZ w r) (n : Int) (v : Value) : Calls Try.prog 48 #[.pointer (some ⟨r, 0, none⟩), .int .i64 n, v] w fun e w' => (∃ n : Int, e = .returned (.int .i64 n)) ∧ w.grownBy w' (some r) := by
  have c0 : w.cell? ⟨r, 0, none⟩ = some (.slice none 0 0) := h.cell 0
  have c1 : w.cell? ⟨r, 1, none⟩ = some (.slice none 0 0) := h.cell 1
  have c2 : w.cell? ⟨r, 2, none⟩ = some (.slice none 0 0) := h.cell 2
  have c3 : w.cell? ⟨r, 3, none⟩ = some (.slice none 0 0) := h.cell 3
  have c8 : w.cell? ⟨r, 8, none⟩ = some (.int .i64 0) := h.cell 8
  have c9 : w.cell? ⟨r, 9, none⟩ = some (.int .i64 0) := h.cell 9
  have c5 : w.cell? ⟨r, 5, none⟩ = some (.bool false) := h.cell 5
  have f0 := h.nf 0
  have f1 := h.nf 1
  have f2 := h.nf 2
  have f3 := h.nf 3
  have f8 := h.nf 8
  have f9 := h.nf 9
  have HB := Lib.hid (rz_begin h)
  clear h
  go_enter Try.func48, Try.ntmps48
  go_wp2_with (first
    | (go_at_call 67; refine HB.out.mono ?_; rintro e w1 ⟨rfl, rfl⟩)
    | (go_at_call 38; refine (find_nil _ _).mono ?_; rintro e w2 ⟨rfl, rfl⟩)
    | (go_at_call 46; refine (arm_any _ _).mono ?_; rintro e w2 ⟨⟨n, rfl⟩, rfl⟩)
    | fail)
  all_goals
    go_ret
    refine ⟨?_, ?_⟩
    · exact ⟨_, rfl⟩
    · (repeat (first | exact grown_refl _ _ | assumption | apply grown_set' | apply grown_alloc' | apply grown_drew'))
set_option maxRecDepth 10000 in
set_option maxHeartbeats 800000 in
theorem rz_fault {w : World} {r : Nat} (h : RZ w r) (n z : Int) : Calls Try.prog 47 #[.pointer (some ⟨r, 0, none⟩), .int .i64 n, .int .i64 z] w fun e w' => (e = .returned (.tuple #[])) ∧ w.grownBy w' (some r) := by
  have c0 : w.cell? ⟨r, 0, none⟩ = some (.slice none 0 0) := h.cell 0
  have c1 : w.cell? ⟨r, 1, none⟩ = some (.slice none 0 0) := h.cell 1
  have c2 : w.cell? ⟨r, 2, none⟩ = some (.slice none 0 0) := h.cell 2
  have c3 : w.cell? ⟨r, 3, none⟩ = some (.slice none 0 0) := h.cell 3
  have c8 : w.cell? ⟨r, 8, none⟩ = some (.int .i64 0) := h.cell 8
  have c9 : w.cell? ⟨r, 9, none⟩ = some (.int .i64 0) := h.cell 9
  have c5 : w.cell? ⟨r, 5, none⟩ = some (.bool false) := h.cell 5
  have f0 := h.nf 0
  have f1 := h.nf 1
  have f2 := h.nf 2
  have f3 := h.nf 3
  have f8 := h.nf 8
  have f9 := h.nf 9
  have HB := Lib.hid (rz_begin h)
  clear h
  go_enter Try.func47, Try.ntmps47
  go_wp2_with (first
    | (go_at_call 67; refine HB.out.mono ?_; rintro e w1 ⟨rfl, rfl⟩)
    | (go_at_call 38; refine (find_nil _ _).mono ?_; rintro e w2 ⟨rfl, rfl⟩)
    | (go_at_call 46; refine (arm_any _ _).mono ?_; rintro e w2 ⟨⟨n, rfl⟩, rfl⟩)
    | fail)
  all_goals
    first | go_ret | go_end0 | refine bodyPost_ret (results_none rfl _ _ _) rfl ?_
    refine ⟨?_, ?_⟩
    · rfl
    · (repeat (first | exact grown_refl _ _ | assumption | apply grown_set' | apply grown_alloc' | apply grown_drew'))
end Go.Proofs.Ytfhbolhmfhgeaaa
