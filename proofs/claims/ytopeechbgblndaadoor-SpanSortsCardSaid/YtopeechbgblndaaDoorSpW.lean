/-
  'awake' of layer 7: the document's example: true.
-/
import Derived.Test.YtopeechbgblndaaDoorSpA
import Derived.Test.YtopeechbgblndaaDoorLent
import Derived.Lib.SmallJoins
import Derived.Lib.ConvBytes
import Derived.BigRegion
namespace Go.Proofs.YtopeechbgblndaaDoor
set_option linter.unusedVariables false
set_option linter.unusedSimpArgs false
open Go.RowKit

theorem cell_mark6 (w : World) (C : Array Value) (t : TypeId) (fr : Nat × Nat) (g j : Nat) (hg : g = w.heap.size) : (w.alloc (.cells C t fr)).cell? ⟨g, j, none⟩ = C[j]? := by
  subst hg
  exact World.cell?_alloc_mark w C t fr j
theorem Sh.mark6 (w : World) (xs : List Value) (e : TypeId) (fr : Nat × Nat) : Sh (w.alloc (.cells xs.toArray e fr)) (w.heap.size + 1) (some ⟨w.heap.size, 0, none⟩) xs.length xs :=
  ⟨rfl, fun _ => ⟨w.heap.size, 0, rfl, by omega, fun k u hu => by
    rw [Nat.zero_add, cell_mark6 _ _ _ _ _ _ rfl]
    simpa using hu⟩⟩
theorem convC {w : World} {B : Nat} (xs : List Int) (n : Nat) (hn : xs.length = n) (hB : B ≤ w.heap.size) : ∃ wl, (convert 22 22 (.slice (some ⟨w.heap.size, 0, none⟩) n n)).run Tryd.prog (w.alloc (.cells (by8 xs).toArray 5)) = .ok (.slice (some ⟨w.heap.size, 0, none⟩) n n) wl ∧
    Sh wl wl.heap.size (some ⟨w.heap.size, 0, none⟩) n (by8 xs) ∧ Below B w wl := by
  refine ⟨w.alloc (.cells (by8 xs).toArray 5 (n, n + 1)), ?_, ?_, (Below.refl _ _).alloc hB _⟩
  · have h := Joins.run_convert_bytes_const_at (P := Tryd.prog) w 22 5 (by8 xs).toArray n n w.heap.size rfl Tryd.underlying22 (by kernel_rfl)
    have hsz : (by8 xs).toArray.size = n := by simp [by8, hn]
    rw [hsz] at h
    exact h
  · have := Sh.mark6 w (by8 xs) 5 (n, n + 1)
    rw [by8_len, hn] at this
    exact this.more (by simp)

def exE : List Ed := [(1, 2, [120, 121])]
theorem exE_chk : chk ((3 : Nat) : Int) exE = 0 := chk_ok (by decide) fun k hk x hx => by
  have hk0 : k = 0 := by
    have : k < 1 := hk
    omega
  subst hk0
  cases hx
  exact ⟨by decide, fun j y hj => by omega⟩
theorem exE_appl : appl [97, 98, 99] 0 exE = [97, 120, 121, 99] := by decide
theorem exE_byt : BytE exE := fun x hx => by
  have : x = (1, 2, [120, 121]) := by simpa [exE] using hx
  subst this
  intro y hy
  simp at hy
  omega

set_option maxRecDepth 10000 in
set_option maxHeartbeats 1600000 in
theorem awake_any (w : World) : Calls Tryd.prog 9 #[] w fun e w' => e = .returned (.bool true) ∧ Below w.heap.size w w' := by
  obtain ⟨wl, hcv, hx, hb⟩ := convC (w := w) (B := w.heap.size) [97, 98, 99] 3 rfl (Nat.le_refl _)
  have hsh := ShE.lit wl (1, 2, [120, 121]) 38
  have hsz : (wl.alloc (.cells #[.int .i64 1, .int .i64 2, .string (strOfNums [120, 121])] 38)).heap.size = wl.heap.size + 1 := by simp
  have hm := apply_any _ _ 3 3 1 1 [97, 98, 99] exE (wl.alloc (.cells #[.int .i64 1, .int .i64 2, .string (strOfNums [120, 121])] 38)) ((hx.alloc (Nat.le_refl _) _).more (by rw [hsz]; omega)) (hsh.more (by rw [hsz]; exact Nat.le_refl _)) (by omega) (by omega) (by unfold maxLen; omega) (.inr ⟨_, _, rfl⟩) (by omega) (fun x hx => by
    have : x = (1, 2, [120, 121]) := by simpa [exE] using hx
    subst this
    decide) exE_byt
  have HM := Lib.hid hm
  have HB := Lib.hid (hb.alloc hb.size (.cells #[.int .i64 1, .int .i64 2, .string (strOfNums [120, 121])] 38))
  have hstr : strOfNums [120, 121] = ⟨#[120, 121]⟩ := rfl
  rw [hstr] at HM HB
  simp only [by8, List.map] at hcv
  clear hx hm hb hsh hsz hstr
  go_enter Tryd.func9, Tryd.ntmps9
  go_wp2_with (fail)
  with_reducible refine HM.out.mono ?_
  intro e w1 h
  unfold ApTo at h
  rw [if_pos exE_chk, exE_appl] at h
  obtain ⟨v1, rfl, ho1, b1⟩ := h
  obtain ⟨A1, c1, rfl⟩ := ho1.form
  have hcs := convert_sh ho1.sh c1
  have HB1 := Lib.hid (HB.out.trans (b1.mono HB.out.size))
  have hstr2 : strOfNums [97, 120, 121, 99] = ⟨#[97, 120, 121, 99]⟩ := rfl
  rw [hstr2] at hcs
  clear ho1 b1 HM HB hcv hstr2
  have hlen : ([97, 120, 121, 99] : List Int).length = 4 := rfl
  rw [hlen] at hcs ⊢
  go_wp2
  go_ret
  exact ⟨rfl, HB1.out⟩
end Go.Proofs.YtopeechbgblndaaDoor
