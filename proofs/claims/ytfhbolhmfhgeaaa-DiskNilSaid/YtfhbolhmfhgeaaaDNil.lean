/-
  CONTRACTS OF THE CALLS OF A DISK THAT IS NONE; THE WALK OF ITS LAW. It holds for every act.
-/
import Derived.Test.YtfhbolhmfhgeaaaActs
namespace Go.Proofs.Ytfhbolhmfhgeaaa
set_option linter.unusedVariables false
set_option linter.unusedSimpArgs false
open Go.RowKit Go.Maps

set_option maxRecDepth 10000
set_option maxHeartbeats 800000

theorem nil_begin (w : World) : Calls Try.prog 51 #[.pointer none] w fun e w' => e = .returned (.int .i64 1) ∧ w = w' := by
  go_enter Try.func51, Try.ntmps51
  go_wp2
  go_ret
  exact ⟨rfl, rfl⟩
theorem nil_fuse (n : Int) (w : World) : Calls Try.prog 24 #[.pointer none, .int .i64 n] w fun e w' => e = .returned (.tuple #[]) ∧ w = w' := by
  go_enter Try.func24, Try.ntmps24
  go_wp2
  first | go_ret | go_end0
  exact ⟨rfl, rfl⟩
theorem nil_fault (n x : Int) (w : World) : Calls Try.prog 28 #[.pointer none, .int .i64 n, .int .i64 x] w fun e w' => e = .returned (.tuple #[]) ∧ w = w' := by
  go_enter Try.func28, Try.ntmps28
  go_wp2
  first | go_ret | go_end0 | refine bodyPost_ret (results_none rfl _ _ _) rfl ?_
  exact ⟨rfl, rfl⟩
theorem nil_read (s : ByteArray) (w : World) : Calls Try.prog 15 #[.pointer none, .string s] w fun e w' => e = .returned (.tuple #[.slice none 0 0, .int .i64 1]) ∧ w = w' := by
  go_enter Try.func15, Try.ntmps15
  go_wp2
  go_ret2
  exact ⟨rfl, rfl⟩
theorem nil_create (s : ByteArray) (w : World) : Calls Try.prog 20 #[.pointer none, .string s] w fun e w' => e = .returned (.int .i64 1) ∧ Below w.heap.size w w' := by
  go_enter Try.func20, Try.ntmps20
  go_wp2_with (first
    | (go_at_call 51; refine (nil_begin _).mono ?_; rintro e w1 ⟨rfl, rfl⟩)
    | fail)
  go_ret
  exact ⟨rfl, by first | exact Below.refl _ _ | exact (Below.refl _ _).alloc (Nat.le_refl _) _ | exact bel_alloc ((Below.refl _ _).alloc (Nat.le_refl _) _) (Nat.le_refl _) _⟩
theorem nil_append (s : ByteArray) (v : Value) (w : World) : Calls Try.prog 21 #[.pointer none, .string s, v] w fun e w' => e = .returned (.int .i64 1) ∧ Below w.heap.size w w' := by
  go_enter Try.func21, Try.ntmps21
  go_wp2_with (first
    | (go_at_call 51; refine (nil_begin _).mono ?_; rintro e w1 ⟨rfl, rfl⟩)
    | fail)
  go_ret
  exact ⟨rfl, by first | exact Below.refl _ _ | exact (Below.refl _ _).alloc (Nat.le_refl _) _ | exact bel_alloc ((Below.refl _ _).alloc (Nat.le_refl _) _) (Nat.le_refl _) _⟩
theorem nil_sync (s : ByteArray) (w : World) : Calls Try.prog 22 #[.pointer none, .string s] w fun e w' => e = .returned (.int .i64 1) ∧ Below w.heap.size w w' := by
  go_enter Try.func22, Try.ntmps22
  go_wp2_with (first
    | (go_at_call 51; refine (nil_begin _).mono ?_; rintro e w1 ⟨rfl, rfl⟩)
    | fail)
  go_ret
  exact ⟨rfl, by first | exact Below.refl _ _ | exact (Below.refl _ _).alloc (Nat.le_refl _) _ | exact bel_alloc ((Below.refl _ _).alloc (Nat.le_refl _) _) (Nat.le_refl _) _⟩
theorem nil_syncDir (w : World) : Calls Try.prog 23 #[.pointer none] w fun e w' => e = .returned (.int .i64 1) ∧ Below w.heap.size w w' := by
  go_enter Try.func23, Try.ntmps23
  go_wp2_with (first
    | (go_at_call 51; refine (nil_begin _).mono ?_; rintro e w1 ⟨rfl, rfl⟩)
    | fail)
  go_ret
  exact ⟨rfl, by first | exact Below.refl _ _ | exact (Below.refl _ _).alloc (Nat.le_refl _) _ | exact bel_alloc ((Below.refl _ _).alloc (Nat.le_refl _) _) (Nat.le_refl _) _⟩
theorem nil_rename (s r : ByteArray) (w : World) : Calls Try.prog 29 #[.pointer none, .string s, .string r] w fun e w' => e = .returned (.int .i64 1) ∧ Below w.heap.size w w' := by
  go_enter Try.func29, Try.ntmps29
  go_wp2_with (first
    | (go_at_call 51; refine (nil_begin _).mono ?_; rintro e w1 ⟨rfl, rfl⟩)
    | fail)
  go_ret
  exact ⟨rfl, by first | exact Below.refl _ _ | exact (Below.refl _ _).alloc (Nat.le_refl _) _ | exact bel_alloc ((Below.refl _ _).alloc (Nat.le_refl _) _) (Nat.le_refl _) _⟩
theorem nil_remove (s : ByteArray) (w : World) : Calls Try.prog 30 #[.pointer none, .string s] w fun e w' => e = .returned (.int .i64 1) ∧ Below w.heap.size w w' := by
  go_enter Try.func30, Try.ntmps30
  go_wp2_with (first
    | (go_at_call 51; refine (nil_begin _).mono ?_; rintro e w1 ⟨rfl, rfl⟩)
    | fail)
  go_ret
  exact ⟨rfl, by first | exact Below.refl _ _ | exact (Below.refl _ _).alloc (Nat.le_refl _) _ | exact bel_alloc ((Below.refl _ _).alloc (Nat.le_refl _) _) (Nat.le_refl _) _⟩
theorem nil_boot (n : Int) (v : Value) (w : World) : Calls Try.prog 25 #[.pointer none, .int .i64 n, v] w fun e w' => e = .returned (.int .i64 1) ∧ w = w' := by
  go_enter Try.func25, Try.ntmps25
  go_wp2
  go_ret
  exact ⟨rfl, rfl⟩
theorem nil_list (w : World) : Calls Try.prog 31 #[.pointer none] w fun e w' => e = .returned (.slice none 0 0) ∧ w = w' := by
  go_enter Try.func31, Try.ntmps31
  go_wp2
  go_ret
  exact ⟨rfl, rfl⟩
theorem nil_used (w : World) : Calls Try.prog 32 #[.pointer none] w fun e w' => e = .returned (.int .i64 0) ∧ w = w' := by
  go_enter Try.func32, Try.ntmps32
  go_wp2
  go_ret
  exact ⟨rfl, rfl⟩
theorem nil_dead (w : World) : Calls Try.prog 33 #[.pointer none] w fun e w' => e = .returned (.bool false) ∧ w = w' := by
  go_enter Try.func33, Try.ntmps33
  go_wp2
  go_ret
  exact ⟨rfl, rfl⟩
theorem nil_calls (w : World) : Calls Try.prog 34 #[.pointer none] w fun e w' => e = .returned (.int .i64 0) ∧ w = w' := by
  go_enter Try.func34, Try.ntmps34
  go_wp2
  go_ret
  exact ⟨rfl, rfl⟩

theorem acts_one (w : World) (x : Ac) (hx : x.ok w w.heap.size) : ActsIn (w.alloc (.cells x.vals.toArray 36)) (w.heap.size + 1) (some ⟨w.heap.size, 0, none⟩) 1 [x] := by
  refine ⟨rfl, fun k y hy => ?_⟩
  have hk : k = 0 := by
    have := (List.getElem?_eq_some_iff.1 hy).1
    simpa using this
  subst hk
  cases hy
  refine ⟨⟨w.heap.size, 0, rfl, by omega, fun j v hv => ?_⟩, (hx.below ((Below.refl _ _).alloc (Nat.le_refl _) _)).more (by omega)⟩
  rw [World.cell?_alloc_at _ _ _ _ rfl]
  simpa using hv

set_option maxRecDepth 100000 in
set_option maxHeartbeats 3200000 in
theorem diskNil_walk (x : Ac) (w : World) (hx : x.ok w w.heap.size) :
    Calls Try.prog 6 #[.agg x.vals.toArray] w fun e w' => e = .returned (.bool true) ∧ Below w.heap.size w w' := by
  obtain ⟨kind, s, r, A, n, c, b, z, e, K, m, d, nums⟩ := x
  obtain ⟨w1, hw1⟩ : ∃ w1, w1 = w.alloc (.cells #[.int .i64 kind, .string s, .string r, .slice A n c, .int .i64 z, .int .i64 e, .slice K m d] 36) := ⟨_, rfl⟩
  have hb1 : Below w.heap.size w w1 := by rw [hw1]; exact (Below.refl _ _).alloc (Nat.le_refl _) _
  obtain ⟨g, hg⟩ : ∃ g, g = w.heap.size := ⟨_, rfl⟩
  have hcell : ∀ j v, (Ac.vals ⟨kind, s, r, A, n, c, b, z, e, K, m, d, nums⟩)[j]? = some v → w1.cell? ⟨g, j, none⟩ = some v := fun j v hv => by
    rw [hw1, hg, World.cell?_alloc_at _ _ _ _ rfl]
    simpa [Ac.vals] using hv
  have c0 := hcell 0 _ rfl
  have c1 := hcell 1 _ rfl
  have c2 := hcell 2 _ rfl
  have c3 := hcell 3 _ rfl
  have c4 := hcell 4 _ rfl
  have c5 := hcell 5 _ rfl
  have c6 := hcell 6 _ rfl
  have HI := Lib.hid (acts_one w1 _ ((hx.below hb1).more hb1.size))
  have hB1 := Lib.hid hb1
  have HW := Lib.hid hw1.symm
  have HG := Lib.hid hg
  have HS : Hid (w.heap.size + 1 = w1.heap.size) := Lib.hid (by rw [hw1]; simp)
  clear hcell hb1 hw1 hg hx
  unfold Ac.vals at HI ⊢
  go_enter Try.func6, Try.ntmps6
  go_wp2_with fail
  rw [HW.out, HS.out, ← HG.out]
  refine (great_any _ _ _ _ _ _ HI.out (by unfold maxLen; omega)).mono ?_
  rintro e w2' ⟨rfl, q2, rfl⟩
  obtain ⟨w3, hw3⟩ : ∃ w3, w3 = (w1.alloc (.cells #[.int .i64 kind, .string s, .string r, .slice A n c, .int .i64 z, .int .i64 e, .slice K m d] 36)).drewN q2 := ⟨_, rfl⟩
  rw [← hw3]
  have hb3 : Below w1.heap.size w1 w3 := by rw [hw3]; exact ((Below.refl _ _).alloc (Nat.le_refl _) _).trans (Quiet.below ⟨q2, rfl⟩ _)
  have hgl : g < w1.heap.size := by have := HS.out; have := HG.out; omega
  have CELLS : Hid (∀ w', Below w3.heap.size w3 w' → w'.cell? ⟨g, 0, none⟩ = some (.int .i64 kind) ∧ w'.cell? ⟨g, 1, none⟩ = some (.string s) ∧ w'.cell? ⟨g, 2, none⟩ = some (.string r) ∧ w'.cell? ⟨g, 3, none⟩ = some (.slice A n c) ∧ w'.cell? ⟨g, 4, none⟩ = some (.int .i64 z) ∧ w'.cell? ⟨g, 5, none⟩ = some (.int .i64 e) ∧ w'.cell? ⟨g, 6, none⟩ = some (.slice K m d)) := Lib.hid fun w' hb => by
    have hb' := hb3.trans (hb.mono hb3.size)
    exact ⟨(hb'.cell (p := ⟨g, 0, none⟩) hgl).trans c0, (hb'.cell (p := ⟨g, 1, none⟩) hgl).trans c1, (hb'.cell (p := ⟨g, 2, none⟩) hgl).trans c2, (hb'.cell (p := ⟨g, 3, none⟩) hgl).trans c3, (hb'.cell (p := ⟨g, 4, none⟩) hgl).trans c4, (hb'.cell (p := ⟨g, 5, none⟩) hgl).trans c5, (hb'.cell (p := ⟨g, 6, none⟩) hgl).trans c6⟩
  have W3 := Lib.hid (hB1.out.trans (hb3.mono hB1.out.size))
  have B3 := Lib.hid (Below.refl w3.heap.size w3)
  clear hw3 hb3 hgl c0 c1 c2 c3 c4 c5 c6
  obtain ⟨c0, c1, c2, c3, c4, c5, c6⟩ := CELLS.out _ B3.out
  obtain ⟨gb, hgb⟩ : ∃ gb, gb = greatB [⟨kind, s, r, A, n, c, b, z, e, K, m, d, nums⟩] := ⟨_, rfl⟩
  rw [← hgb]
  clear hgb HI
  cases gb
  · go_wp2_with (first
      | (go_at_call 24; refine (nil_fuse z _).mono ?_; rintro e w' ⟨rfl, rfl⟩)
      | (go_at_call 28; refine (nil_fault z e _).mono ?_; rintro e w' ⟨rfl, rfl⟩)
      | (go_at_call 15; refine (nil_read s _).mono ?_; rintro e w' ⟨rfl, rfl⟩)
      | (go_at_call 20; refine (nil_create s _).mono ?_; rintro e w4 ⟨rfl, hb⟩; have B4 := Lib.hid (B3.out.trans (hb.mono B3.out.size)); obtain ⟨c0, c1, c2, c3, c4, c5, c6⟩ := CELLS.out _ B4.out; clear hb)
      | (go_at_call 21; refine (nil_append s _ _).mono ?_; rintro e w5 ⟨rfl, hb⟩; have B5 := Lib.hid (B4.out.trans (hb.mono B4.out.size)); obtain ⟨c0, c1, c2, c3, c4, c5, c6⟩ := CELLS.out _ B5.out; clear hb)
      | (go_at_call 22; refine (nil_sync s _).mono ?_; rintro e w6 ⟨rfl, hb⟩; have B6 := Lib.hid (B5.out.trans (hb.mono B5.out.size)); obtain ⟨c0, c1, c2, c3, c4, c5, c6⟩ := CELLS.out _ B6.out; clear hb)
      | (go_at_call 23; refine (nil_syncDir  _).mono ?_; rintro e w7 ⟨rfl, hb⟩; have B7 := Lib.hid (B6.out.trans (hb.mono B6.out.size)); obtain ⟨c0, c1, c2, c3, c4, c5, c6⟩ := CELLS.out _ B7.out; clear hb)
      | (go_at_call 29; refine (nil_rename s r _).mono ?_; rintro e w8 ⟨rfl, hb⟩; have B8 := Lib.hid (B7.out.trans (hb.mono B7.out.size)); obtain ⟨c0, c1, c2, c3, c4, c5, c6⟩ := CELLS.out _ B8.out; clear hb)
      | (go_at_call 30; refine (nil_remove s _).mono ?_; rintro e w9 ⟨rfl, hb⟩; have B9 := Lib.hid (B8.out.trans (hb.mono B8.out.size)); obtain ⟨c0, c1, c2, c3, c4, c5, c6⟩ := CELLS.out _ B9.out; clear hb)
      | (go_at_call 25; refine (nil_boot z _ _).mono ?_; rintro e w' ⟨rfl, rfl⟩)
      | (go_at_call 31; refine (nil_list  _).mono ?_; rintro e w' ⟨rfl, rfl⟩)
      | (go_at_call 32; refine (nil_used  _).mono ?_; rintro e w' ⟨rfl, rfl⟩)
      | (go_at_call 33; refine (nil_dead  _).mono ?_; rintro e w' ⟨rfl, rfl⟩)
      | (go_at_call 34; refine (nil_calls  _).mono ?_; rintro e w' ⟨rfl, rfl⟩)
      | (go_at_call 10; refine (awake_any _).mono ?_; rintro e w10 ⟨rfl, hb⟩; have BA := Lib.hid (B9.out.trans (hb.mono B9.out.size)); clear hb)
      | fail)
    go_ret
    exact ⟨rfl, W3.out.trans (BA.out.mono W3.out.size)⟩
  · go_wp2_with (first
      | (go_at_call 10; refine (awake_any _).mono ?_; rintro e w10 ⟨rfl, hb⟩; have BA := Lib.hid (B3.out.trans (hb.mono B3.out.size)); clear hb)
      | fail)
    go_ret
    exact ⟨rfl, W3.out.trans (BA.out.mono W3.out.size)⟩
end Go.Proofs.Ytfhbolhmfhgeaaa
