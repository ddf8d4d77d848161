/-
  FILES THAT ARE HANDED IN; CONTRACT OF fits.
-/
import Derived.Test.YtfhbolhmfhgeaaaDBoot2
namespace Go.Proofs.Ytfhbolhmfhgeaaa
set_option linter.unusedVariables false
set_option linter.unusedSimpArgs false
open Go.RowKit Go.Maps

/-- A file that is handed in: its name and its bytes. -/
structure FIn where
  s : ByteArray
  d : List Int
/-- The slice shows the files l; all of it lies below U. -/
def InAt (w : World) (U : Nat) (A : Option Addr) (n : Nat) (l : List FIn) : Prop :=
  l.length = n ∧ ∀ k f, l[k]? = some f → ∃ b off D c, A = some ⟨b, off, none⟩ ∧ b < U ∧ w.cell? ⟨b, off + k * 2, none⟩ = some (.string f.s) ∧ w.cell? ⟨b, off + k * 2 + 1, none⟩ = some (.slice D f.d.length c) ∧ Sh w U D f.d.length (by8 f.d) ∧ f.s.size ≤ maxLen ∧ f.d.length ≤ maxLen
theorem InAt.below {w w' : World} {U : Nat} {A : Option Addr} {n : Nat} {l : List FIn} (h : InAt w U A n l) (hb : Below U w w') : InAt w' U A n l :=
  ⟨h.1, fun k f hf => by
    obtain ⟨b, off, D, c, e, hU, h1, h2, h3, h4⟩ := h.2 k f hf
    exact ⟨b, off, D, c, e, hU, (hb.cell (p := ⟨b, off + k * 2, none⟩) hU).trans h1, (hb.cell (p := ⟨b, off + k * 2 + 1, none⟩) hU).trans h2, h3.below hb, h4⟩⟩
theorem InAt.at {w : World} {U : Nat} {A : Option Addr} {n : Nat} {l : List FIn} (h : InAt w U A n l) {k : Nat} (hk : k < n) :
    ∃ b off D c f, l[k]? = some f ∧ A = some ⟨b, off, none⟩ ∧ b < U ∧ w.cell? ⟨b, off + k * 2, none⟩ = some (.string f.s) ∧ w.cell? ⟨b, off + k * 2 + 1, none⟩ = some (.slice D f.d.length c) ∧ Sh w U D f.d.length (by8 f.d) ∧ f.s.size ≤ maxLen ∧ f.d.length ≤ maxLen := by
  have hl : k < l.length := by rw [h.1]; exact hk
  obtain ⟨b, off, D, c, r⟩ := h.2 k l[k] (List.getElem?_eq_getElem hl)
  exact ⟨b, off, D, c, l[k], List.getElem?_eq_getElem hl, r⟩
def sizeF (l : List FIn) : Nat := (l.map fun f => f.d.length).sum
theorem sizeF_snoc {l : List FIn} {k : Nat} {f : FIn} (h : l[k]? = some f) : sizeF (l.take (k + 1)) = sizeF (l.take k) + f.d.length := by
  obtain ⟨h1, h2⟩ := List.getElem?_eq_some_iff.1 h
  unfold sizeF
  rw [List.take_succ_eq_append_getElem h1, h2, List.map_append, List.sum_append]
  simp
theorem sizeF_le (l : List FIn) (k : Nat) : sizeF (l.take k) ≤ sizeF l := by
  have h : l = l.take k ++ l.drop k := (List.take_append_drop k l).symm
  have : sizeF l = sizeF (l.take k) + sizeF (l.drop k) := by
    unfold sizeF
    rw [← List.sum_append, ← List.map_append, List.take_append_drop]
  omega
def fitsB (l : List FIn) (cap : Int) : Bool := decide (0 ≤ cap ∧ cap ≤ 1048576 ∧ l.length ≤ 64 ∧ (sizeF l : Int) ≤ cap)
theorem bel_alloc {U : Nat} {w w' : World} (h : Below U w w') (hU : U ≤ w.heap.size) (o : Obj) : Below U w (w'.alloc o) := h.alloc (Nat.le_trans hU h.size) o

set_option maxRecDepth 10000 in
set_option maxHeartbeats 1600000 in
theorem fits_any (A : Option Addr) (n c : Nat) (l : List FIn) (cap : Int) (w : World) (h : InAt w w.heap.size A n l) (hn : n ≤ maxLen) :
    Calls Try.prog 35 #[.slice A n c, .int .i64 cap] w fun e w' => e = .returned (.bool (fitsB l cap)) ∧ Below w.heap.size w w' := by
  have hl := h.1
  unfold maxLen at hn
  by_cases h1 : cap < 0
  · have H := Lib.hid (show fitsB l cap = false by unfold fitsB; rw [decide_eq_false (by omega)])
    clear h hl
    go_enter Try.func35, Try.ntmps35
    go_wp2
    go_ret
    exact ⟨ret_bool H.out.symm, Below.refl _ _⟩
  · by_cases h2 : 1048576 < cap
    · have H := Lib.hid (show fitsB l cap = false by unfold fitsB; rw [decide_eq_false (by omega)])
      clear h hl
      go_enter Try.func35, Try.ntmps35
      go_wp2
      go_ret
      exact ⟨ret_bool H.out.symm, Below.refl _ _⟩
    · by_cases h3 : 64 < n
      · have H := Lib.hid (show fitsB l cap = false by unfold fitsB; rw [decide_eq_false (by omega)])
        clear h hl
        go_enter Try.func35, Try.ntmps35
        go_wp2
        go_ret
        exact ⟨ret_bool H.out.symm, Below.refl _ _⟩
      · have HL := Lib.hid hl
        have HI := Lib.hid h
        have hzero : ∀ w : World, (zeroValue 58).run Try.prog w = .ok (.agg #[.string ByteArray.empty, .slice none 0 0]) w := fun w => by kernel_rfl
        have hh1 : 0 ≤ cap := by omega
        have hh2 : cap ≤ 1048576 := by omega
        have hh3 : n ≤ 64 := by omega
        clear h hl
        go_enter Try.func35, Try.ntmps35
        go_wp2
        go_loopw [5, 22] (fun x i wr => ∃ (k : Nat) (z : Nat), k ≤ n ∧ i = .int .i64 k ∧ x = .int .i64 (z : Int) ∧ Hid ((z : Int) = cap - (sizeF (l.take k) : Int)) ∧ (z : Int) ≤ cap ∧ Below w.heap.size w wr) (fun _ i _ => n - (intOf i).toNat)
        case atStart => exact ⟨0, cap.toNat, Nat.zero_le _, rfl, by rw [Int.toNat_of_nonneg hh1], by show ((cap.toNat : Nat) : Int) = _; rw [Int.toNat_of_nonneg hh1]; simp [sizeF], by omega, Below.refl _ _⟩
        case round =>
          obtain ⟨k, z, hk, rfl, rfl, hz, hzc, hb⟩ := hrel
          by_cases hlt : k < n
          · obtain ⟨b, off, D, cd, f, hf, rfl, hbU, hc0, hc1, hsh, hs, hd⟩ := (HI.out.below hb).at hlt
            have hsn := sizeF_snoc hf
            have hsl := sizeF_le l (k + 1)
            obtain ⟨len, hlen⟩ : ∃ len, len = f.d.length := ⟨_, rfl⟩
            rw [← hlen] at hc1 hsn hd
            have HSN := Lib.hid hsn
            have HSL := Lib.hid hsl
            have hbs := Lib.hid hb
            unfold maxLen at hd
            clear hf hlen hsn hsl hb hsh
            by_cases hgt : z < len
            · have H := Lib.hid (show fitsB l cap = false by
                unfold fitsB
                rw [decide_eq_false]
                have := HSN.out
                have := HSL.out
                have := hz.out
                omega)
              go_wp2
              go_ret
              exact ⟨ret_bool H.out.symm, bel_alloc hbs.out (Nat.le_refl _) _⟩
            · have hzl : len ≤ z := by omega
              go_wp2
              go_roundw
              case rel =>
                refine ⟨k + 1, z - len, by omega, by go_num, by go_num, ?_, by omega, bel_alloc hbs.out (Nat.le_refl _) _⟩
                show ((z - len : Nat) : Int) = _
                have := HSN.out
                have := hz.out
                omega
              case measure => simp [intOf]; omega
          · obtain rfl : k = n := by omega
            have H := Lib.hid (show fitsB l cap = true by
              have := hz.out
              rw [List.take_of_length_le (by rw [HL.out]; exact Nat.le_refl _)] at this
              have := HL.out
              unfold fitsB
              rw [decide_eq_true]
              omega)
            go_wp2
            go_ret
            exact ⟨ret_bool H.out.symm, hb⟩
end Go.Proofs.Ytfhbolhmfhgeaaa
