/-
  'awake' of layer 8: the document's examples: true.
-/
import Derived.Test.YtbpmgghonnoooaaDoorEpE
import Derived.Test.YtbpmgghonnoooaaDoorLent
import Derived.Lib.SmallJoins
import Derived.Lib.ConvBytes
import Derived.BigRegion
namespace Go.Proofs.YtbpmgghonnoooaaDoor
set_option linter.unusedVariables false
set_option linter.unusedSimpArgs false
open Go.RowKit

theorem cell_mark6 (w : World) (C : Array Value) (t : TypeId) (fr : Nat × Nat) (g j : Nat) (hg : g = w.heap.size) : (w.alloc (.cells C t fr)).cell? ⟨g, j, none⟩ = C[j]? := by
  subst hg
  exact World.cell?_alloc_mark w C t fr j
theorem Sh.mark6 (w : World) (xs : List Value) (e : TypeId) (fr : Nat × Nat) : Sh (w.alloc (.cells xs.toArray e fr)) (w.heap.size + 1) (some ⟨w.heap.size, 0, none⟩) xs.length xs :=
  ⟨rfl, fun _ => ⟨w.heap.size, 0, rfl, by omega, fun k u hu => by
    rw [Nat.zero_add, cell_mark6 _ _ _ _ _ _ rfl]
    simpa using hu⟩⟩
theorem convC {w : World} {B : Nat} (xs : List Int) (n : Nat) (hn : xs.length = n) (hB : B ≤ w.heap.size) : ∃ wl, (convert 22 22 (.slice (some ⟨w.heap.size, 0, none⟩) n n)).run Tryd.prog (w.alloc (.cells (by8 xs).toArray 5)) = .ok (.slice (some ⟨w.heap.size, 0, none⟩) n n) wl ∧
    Sh wl wl.heap.size (some ⟨w.heap.size, 0, none⟩) n (by8 xs) ∧ Below B w wl := by
  refine ⟨w.alloc (.cells (by8 xs).toArray 5 (n, n + 1)), ?_, ?_, (Below.refl _ _).alloc hB _⟩
  · have h := Joins.run_convert_bytes_const_at (P := Tryd.prog) w 22 5 (by8 xs).toArray n n w.heap.size rfl Tryd.underlying22 (by kernel_rfl)
    have hsz : (by8 xs).toArray.size = n := by simp [by8, hn]
    rw [hsz] at h
    exact h
  · have := Sh.mark6 w (by8 xs) 5 (n, n + 1)
    rw [by8_len, hn] at this
    exact this.more (by simp)


theorem exT_byt : Byt8 exT := fun x hx => by simp [exT] at hx; omega
theorem exF_byt : Byt8 exF := fun x hx => by simp [exF] at hx; omega
set_option maxRecDepth 10000 in
set_option maxHeartbeats 1600000 in
theorem awake_any (w : World) (hv : Vars w) : Calls Tryd.prog 8 #[] w fun e w' => e = .returned (.bool true) ∧ Below w.heap.size w w' := by
  have hvs := hv.size
  obtain ⟨wl, hcv, hx, hb⟩ := convC (w := w) (B := w.heap.size) exT 5 rfl (Nat.le_refl _)
  have hm := parse_any _ 5 5 exT wl hx exT_byt (by omega) (by omega) (by unfold maxLen; omega) (hv.under hb hvs) 100 (by omega)
  rw [parseT] at hm
  have HM := Lib.hid hm
  have HB := Lib.hid hb
  have HV := Lib.hid hv
  simp only [by8, List.map, exT] at hcv
  have HM2 : Hid (∀ W : World, Below w.heap.size w W → ∃ wl, (convert 22 22 (.slice (some ⟨W.heap.size, 0, none⟩) 2 2)).run Tryd.prog (W.alloc (.cells #[.int .u8 102, .int .u8 40] 5)) = .ok (.slice (some ⟨W.heap.size, 0, none⟩) 2 2) wl ∧ Below W.heap.size W wl ∧
      Calls Tryd.prog 10 #[.slice (some ⟨W.heap.size, 0, none⟩) 2 2] wl (ParseTo (Ex.nul, 2, 11) wl)) := Lib.hid fun W hW => by
    obtain ⟨wl, hcv, hx, hb⟩ := convC (w := W) (B := W.heap.size) exF 2 rfl (Nat.le_refl _)
    have hm := parse_any _ 2 2 exF wl hx exF_byt (by omega) (by omega) (by unfold maxLen; omega) ((HV.out.under hW hvs).under hb (Nat.lt_of_lt_of_le hvs hW.size)) 100 (by omega)
    rw [parseF] at hm
    simp only [by8, List.map, exF] at hcv
    exact ⟨wl, hcv, hb, hm⟩
  clear hm hb hx
  go_enter Tryd.func8, Tryd.ntmps8
  go_wp2_with (first
    | (go_at_call 10; refine HM.out.mono ?_; rintro e w2 ⟨lv, rfl, hx2, hb2⟩; have hone2 := hx2.one; have HX2 := Lib.hid hx2; have HB2 := Lib.hid (HB.out.trans (hb2.mono HB.out.size)); clear hx2 hb2; dsimp only; refine Hid.out ?_)
    | fail)
  obtain ⟨A2, c2, rfl, _⟩ := HX2.out.len
  have hl2 : (eTop, ((5 : Int), (0 : Int))).1.l.length = 2 := rfl
  rw [hl2] at HX2 ⊢
  obtain ⟨b, off, x, lv2, rfl, hx, _, hrange, _, _, hbl⟩ := HX2.out.at (j := 1) (by omega)
  obtain rfl : x = e2x := by
    have : (eTop, ((5 : Int), (0 : Int))).1.l[1]? = some e2x := rfl
    rw [this] at hx
    exact (Option.some.inj hx).symm
  have HR := Lib.hid hrange
  clear hx hrange
  refine Lib.hid ?_
  go_wp2_with (first
    | (refine wpList_stx rfl (.tmp 1) (.tmp 11) rfl w2.heap.size rfl (entry_slot w2) (e := eTop) (lv := .slice (some ⟨b, off, none⟩) 2 c2) rfl rfl ?_; intro w3 hg3 hs3; have HG3 := Lib.hid hg3; have HS3 := Lib.hid hs3; have HB3 := Lib.hid (bel_fr (HB2.out.trans ((entry_below w2).mono HB2.out.size)) hg3 HB2.out.size (by rw [entry_size]; have := HB2.out.size; omega)); have hz3 := hg3.size; rw [entry_size] at hz3; clear hg3 hs3; refine Hid.out ?_)
    | fail)
  obtain ⟨wl2, hcv2, hb4, hp4⟩ := HM2.out w3 HB3.out
  have HB4 := Lib.hid hb4
  have HP4 := Lib.hid hp4
  have hz4 := hb4.size
  clear hb4 hp4
  refine Lib.hid ?_
  go_wp2_with (first
    | (go_at_call 10; refine HP4.out.mono ?_; rintro e w5 ⟨lv5, rfl, hx5, hb5⟩; have hone5 := hx5.one; have HB5 := Lib.hid hb5; have hz5 := hb5.size; clear hx5 hb5; dsimp only)
    | (refine wpList_stx rfl (.tmp 4) (.tmp 18) rfl w5.heap.size rfl (entry_slot w5) (e := Ex.nul) (lv := lv5) rfl hone5 ?_; intro w6 hg6 hs6; have HG6 := Lib.hid hg6; have hz6 := hg6.size; rw [entry_size] at hz6; clear hs6 hg6; refine Hid.out ?_)
    | fail)
  have hkeep : ∀ k, k < w3.heap.size → w6.heap[k]? = w3.heap[k]? := fun k hk => by
    rw [HG6.out.block k (by rw [entry_size]; omega) (fun e => by injection e; omega), (entry_below w5).block k (by omega), HB5.out.block k (by omega), HB4.out.block k hk]
  have HS6 := Lib.hid (HS3.out.keep (hkeep w2.heap.size (by omega)) (by omega))
  have c3 : w6.cell? ⟨w2.heap.size, 3, none⟩ = some (.string ⟨#[43]⟩) := HS6.out.cs 3 _ rfl
  have c5 : w6.cell? ⟨w2.heap.size, 5, none⟩ = some (.slice (some ⟨b, off, none⟩) 2 c2) := HS6.out.cs 5 _ rfl
  have hb3' : w3.heap[b]? = w2.heap[b]? := by
    rw [HG3.out.block b (by rw [entry_size]; omega) (fun e => by injection e; omega), (entry_below w2).block b hbl]
  have k9 : w6.cell? ⟨b, off + 6 + 3, none⟩ = some (.string ⟨#[42]⟩) := by
    rw [World.cell?_of_block (a := ⟨b, off + 6 + 3, none⟩) ((hkeep b (by omega)).trans hb3')]
    exact HR.out 3 _ rfl
  have k9' : w6.cell? ⟨b, off + 9, none⟩ = some (.string ⟨#[42]⟩) := k9
  have HBF : Hid (Below w.heap.size w w6) := Lib.hid (bel_fr ((HB3.out.trans (HB4.out.mono HB3.out.size)).trans ((HB5.out.mono (Nat.le_trans HB3.out.size HB4.out.size)).trans ((entry_below w5).mono (by have := HB3.out.size; omega)))) HG6.out (by have := HB3.out.size; omega) (by rw [entry_size]; have := HB3.out.size; omega))
  clear hkeep hb3'
  refine Lib.hid ?_
  go_wp2
  go_ret
  exact ⟨rfl, HBF.out⟩
end Go.Proofs.YtbpmgghonnoooaaDoor
