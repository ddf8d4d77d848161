/-
  CONTRACTS OF the summer's calls More, Of, Calls of layer 2.
-/
import Derived.Test.YthfhhgjjnpcmgaaDo
import Derived.IntWalk
namespace Go.Proofs.Ythfhhgjjnpcmgaa
set_option linter.unusedVariables false
set_option linter.unusedSimpArgs false
open Go.RowKit

/-- A slice's block is not g. -/
def Off (A : Option Addr) (n g : Nat) : Prop := 0 < n → ∀ a, A = some a → a.block ≠ g
theorem Off.nil (n g : Nat) : Off none n g := fun _ a h => by cases h
theorem Off.some {b o n g : Nat} (h : b ≠ g) : Off (some ⟨b, o, none⟩) n g := fun _ a e => by cases e; exact h
theorem Sh.off {w : World} {U g n : Nat} {A : Option Addr} {xs : List Value} (h : Sh w U A n xs) (hg : U ≤ g) : Off A n g := fun hn a ha => by
  obtain ⟨b, off, e, hb, _⟩ := h.2 hn
  rw [e] at ha
  cases ha
  simp only
  omega
theorem Sh.only {w w' : World} {U g n : Nat} {A : Option Addr} {xs : List Value} (h : Sh w U A n xs) (ho : Only g w w') (hA : Off A n g) : Sh w' U A n xs :=
  ⟨h.1, fun hn => by
    obtain ⟨b, off, e, hb, hc⟩ := h.2 hn
    exact ⟨b, off, e, hb, fun k u hu => (ho.cell (p := ⟨b, off + k, none⟩) (hA hn ⟨b, off, none⟩ e)).trans (hc k u hu)⟩⟩

theorem all_xor (s : Nat) (hs : s < 4294967296) : 4294967295 ^^^ s = 4294967295 - s := by
  have h := congrArg BitVec.toNat (BitVec.allOnes_xor (x := BitVec.ofNat 32 s))
  rw [BitVec.toNat_xor, BitVec.toNat_not, BitVec.toNat_allOnes, BitVec.toNat_ofNat, Nat.mod_eq_of_lt (by simpa using hs)] at h
  simpa using h
theorem u32_not (s : Nat) (hs : s < 4294967296) : bits .xor .u32 IntKind.u32.max (s : Int) = ((4294967295 - s : Nat) : Int) := by
  rw [← all_xor s hs, show IntKind.u32.max = 4294967295 by decide]
  exact u32_xor_nat 4294967295 s (by omega) hs
theorem u8_way (x y : Nat) (hy : y < 256) : bits .xor .u8 ((x : Int) % 256) (y : Int) = ((x % 256 ^^^ y : Nat) : Int) := by
  have := u8_xor_nat (x % 256) y (by omega) hy
  simpa using this
theorem u32_way (x u : Nat) (hx : x < 4294967296) (hu : u < 4294967296) : bits .xor .u32 ((x : Int) / 256) (u : Int) = ((x / 256 ^^^ u : Nat) : Int) := by
  have := u32_xor_nat (x / 256) u (by omega) hu
  simpa using this

theorem val_u32 {a b : Nat} (h : a = b) : Value.int .u32 (a : Int) = .int .u32 (b : Int) := by rw [h]
theorem ret_u32 {a b : Nat} (h : a = b) : Ending.returned (.int .u32 (a : Int)) = .returned (.int .u32 (b : Int)) := by rw [h]

/-- '(*sync/atomic.Int64).Add(1)'. -/
theorem count_any (a : Addr) (k : Nat) (w : World) (h0 : w.cell? a = some (.int .i64 (k : Int))) (hz : w.frozen? a = false) (hk : k ≤ 1000000000) :
    Calls Try.prog 31 #[.pointer (some a), .int .i64 1] w fun e w' => e = .returned (.int .i64 ((k : Int) + 1)) ∧ w' = w.setCell a (.int .i64 ((k : Int) + 1)) := by
  have hadd := run_call_add (P := Try.prog) Try.func34 (by kernel_rfl) (by kernel_rfl) (by kernel_rfl) .i64 (by kernel_rfl) (y := 1) (s := (k : Int) + 1) h0 hz (by simp [go_sem, IntWalk.i64_in ((k : Int) + 1) (by omega)])
  go_enter Try.func31, Try.ntmps31
  go_wp2
  go_ret
  exact ⟨rfl, rfl⟩
theorem Smr.count {w : World} {g k : Nat} {d : Bool} (s : Smr w g d k) : Smr (w.setCell ⟨g, 259, none⟩ (.int .i64 ((k : Int) + 1))) g d (k + 1) := by
  refine ⟨fun j => (World.frozen?_setCell _ _ _ _).trans (s.nf j), ?_, ?_, fun i hi => ?_, ?_⟩
  · rw [World.cell?_setCell_other _ _ _ _ (off_ne (by omega))]; exact s.c0
  · rw [World.cell?_setCell_other _ _ _ _ (off_ne (by omega))]; exact s.c1
  · rw [World.cell?_setCell_other _ _ _ _ (off_ne (by omega))]; exact s.ct i hi
  · exact World.cell?_setCell_same _ _ _ s.cc

set_option maxRecDepth 100000 in
set_option maxHeartbeats 1600000 in
theorem more_any (g k : Nat) (d : Bool) (s : Nat) (A : Option Addr) (n c : Nat) (xs : List Int) (w : World) (U : Nat) (h : Smr w g d k) (hk : k ≤ 1000000000) (hs : s < 4294967296)
    (hx : Sh w U A n (by8 xs)) (hA : Off A n g) (hb : Byt xs) (hn : n ≤ 1000000) :
    Calls Try.prog 27 #[.pointer (some ⟨g, 0, none⟩), .int .u32 (s : Int), .slice A n c] w fun e w' => e = .returned (.int .u32 (crcOf s xs : Nat)) ∧ Smr w' g true (k + 1) ∧ Only g w w' := by
  have hnl : xs.length = n := by have := hx.len; rwa [by8_len] at this
  have hno := u32_not s hs
  have hc0 : 4294967295 - s < 4294967296 := by omega
  obtain ⟨c0, hc⟩ : ∃ c0, c0 = 4294967295 - s := ⟨_, rfl⟩
  rw [← hc] at hno hc0
  have HC := Lib.hid hc
  have HN := Lib.hid hnl
  have HS := Lib.hid h
  have HX := Lib.hid hx
  have HA := Lib.hid hA
  have HB := Lib.hid hb
  clear hc hnl h hx hA hb
  go_enter Try.func27, Try.ntmps27
  go_wp2_with (first | (go_at_call 31; refine (count_any ⟨g, 259, none⟩ k _ HS.out.cc (HS.out.nf _) hk).mono ?_; rintro e w' ⟨rfl, rfl⟩) | (go_at_call 32; refine (do_any g (k + 1) d _ HS.out.count).mono ?_; rintro e w3 ⟨rfl, hm, ho⟩; have HM := Lib.hid hm; have HO := Lib.hid (((Only.refl g w).setCell 259 _).trans ho); clear hm ho))
  go_loop [7, 26] (fun x i => ∃ q : Nat, q ≤ n ∧ i = .int .i64 q ∧ x = .int .u32 (fld c0 (xs.take q) : Nat)) (fun _ i => n - (intOf i).toNat)
  case atStart => exact ⟨0, Nat.zero_le _, rfl, rfl⟩
  case round =>
    obtain ⟨q, hq, rfl, rfl⟩ := hrel
    have hx : fld c0 (xs.take q) < 4294967296 := fld_lt hc0 (HB.out.take q)
    have HQ := Lib.hid (fld_snoc c0 (xs.take q) (xs.getD q 0))
    obtain ⟨x, hx0⟩ : ∃ x, x = fld c0 (xs.take q) := ⟨_, rfl⟩
    rw [← hx0] at hx ⊢
    have HX0 := Lib.hid hx0
    clear hx0
    by_cases hlt : q < n
    · obtain ⟨b, off, rfl, hb, hcell⟩ := (HX.out.only HO.out HA.out).byte hlt
      have hy := HB.out.at (k := q) (by rw [HN.out]; exact hlt)
      have HTS := Lib.hid (take_snoc' xs q (by rw [HN.out]; exact hlt))
      obtain ⟨y, hy0⟩ : ∃ y : Nat, xs.getD q 0 = (y : Int) := ⟨(xs.getD q 0).toNat, by omega⟩
      rw [hy0] at hy hcell
      have HY := Lib.hid hy0
      clear hy0
      have hy2 : y < 256 := by omega
      have h8 := u8_way x y hy2
      have ht : x % 256 ^^^ y < 256 := xor_lt8 (by omega) hy2
      have hbt := by_table x y hy2
      obtain ⟨t, ht0⟩ : ∃ t, t = x % 256 ^^^ y := ⟨_, rfl⟩
      rw [← ht0] at h8 ht hbt
      have HT0 := Lib.hid ht0
      clear ht0
      have hcT : w3.cell? ⟨g, 3 + t, none⟩ = some (.int .u32 (stps 8 t : Nat)) := HM.out.ct t ht
      have hu : stps 8 t < 4294967296 := stps_lt (by omega) 8
      obtain ⟨u, hu0⟩ : ∃ u, u = stps 8 t := ⟨_, rfl⟩
      rw [← hu0] at hcT hu hbt
      have h32 := u32_way x u hx hu
      have HU := Lib.hid hu0
      have HBT := Lib.hid hbt
      clear hu0 hbt
      go_wp2
      go_round
      case rel =>
        refine ⟨q + 1, by omega, by go_num, val_u32 ?_⟩
        have e := HQ.out
        rw [← HTS.out, ← HX0.out, HY.out, Int.toNat_natCast, HBT.out] at e
        exact e.symm
      case measure => simp [intOf]; omega
    · obtain rfl : q = n := by omega
      have hnx := u32_not x hx
      go_wp2
      go_ret
      refine ⟨ret_u32 ?_, HM.out, HO.out⟩
      have e := HX0.out
      rw [List.take_of_length_le (by rw [HN.out]; exact Nat.le_refl _), HC.out] at e
      rw [e]
      rfl

/-- 'Of'. -/
theorem of_any (g k : Nat) (d : Bool) (A : Option Addr) (n c : Nat) (xs : List Int) (w : World) (U : Nat) (h : Smr w g d k) (hk : k ≤ 1000000000)
    (hx : Sh w U A n (by8 xs)) (hA : Off A n g) (hb : Byt xs) (hn : n ≤ 1000000) :
    Calls Try.prog 28 #[.pointer (some ⟨g, 0, none⟩), .slice A n c] w fun e w' => e = .returned (.int .u32 (crcOf 0 xs : Nat)) ∧ Smr w' g true (k + 1) ∧ Only g w w' := by
  have HM := Lib.hid (more_any g k d 0 A n c xs w U h hk (by omega) hx hA hb hn)
  clear h hx hA hb
  go_enter Try.func28, Try.ntmps28
  go_wp2_with (go_at_call 27; refine HM.out.mono ?_; rintro e w1 ⟨rfl, h1⟩; have H1 := Lib.hid h1; clear h1)
  go_ret
  exact ⟨rfl, H1.out⟩
/-- Of no summer. -/
theorem more_nil (s : Int) (v : Value) (w : World) : Calls Try.prog 27 #[.pointer none, .int .u32 s, v] w fun e w' => e = .returned (.int .u32 0) ∧ w = w' := by
  go_enter Try.func27, Try.ntmps27
  go_wp2
  go_ret
  exact ⟨rfl, rfl⟩
theorem of_nil (v : Value) (w : World) : Calls Try.prog 28 #[.pointer none, v] w fun e w' => e = .returned (.int .u32 0) ∧ w = w' := by
  go_enter Try.func28, Try.ntmps28
  go_wp2_with (go_at_call 27; refine (more_nil 0 v _).mono ?_; rintro e w1 ⟨rfl, rfl⟩)
  go_ret
  exact ⟨rfl, rfl⟩
/-- A new summer. -/
theorem new_smr (w : World) : Calls Try.prog 9 #[] w fun e w' => ∃ g, e = .returned (.pointer (some ⟨g, 0, none⟩)) ∧ w.heap.size ≤ g ∧ Smr w' g false 0 ∧ Below w.heap.size w w' :=
  (new_any w).mono fun e w' ⟨he, hw⟩ => by
    subst hw
    exact ⟨_, he, Nat.le_refl _, Smr.new _ _, (Below.refl _ _).alloc (Nat.le_refl _) _⟩
end Go.Proofs.Ythfhhgjjnpcmgaa
