/-
  CONTRACT OF 'span.Sort'.
-/
import Derived.Test.YtopeechbgblndaaDoorSoT
import Derived.Test.YtopeechbgblndaaDoorSpE
import Derived.Lib.Builder
namespace Go.Proofs.YtopeechbgblndaaDoor
set_option linter.unusedVariables false
set_option linter.unusedSimpArgs false
open Go.RowKit Go.Lib Go.Sort

theorem ecs_get {L : List Ed} {j : Nat} {u : Value} (h : (ecs L)[j]? = some u) : ∃ t, L[j / 3]? = some t ∧ (ecell t)[j % 3]? = some u := by
  have hlt := (List.getElem?_eq_some_iff.1 h).1
  rw [ecs_len] at hlt
  obtain ⟨t, ht⟩ : ∃ t, L[j / 3]? = some t := ⟨_, List.getElem?_eq_getElem (by omega)⟩
  refine ⟨t, ht, ?_⟩
  obtain ⟨h0, h1, h2⟩ := ecs_at ht
  have hj : j = j / 3 * 3 + j % 3 := by omega
  have h3 : j % 3 < 3 := Nat.mod_lt _ (by decide)
  rcases (show j % 3 = 0 ∨ j % 3 = 1 ∨ j % 3 = 2 by omega) with e | e | e
  · rw [e] at hj ⊢; rw [hj, Nat.add_zero, h0] at h; rw [← h]; rfl
  · rw [e] at hj ⊢; rw [hj, h1] at h; rw [← h]; rfl
  · rw [e] at hj ⊢; rw [hj, h2] at h; rw [← h]; rfl
/-- The cells of a slice that shows edits. -/
theorem ShE.cells {w : World} {B n : Nat} {A : Option Addr} {L : List Ed} (h : ShE w B A n L) {b off : Nat} (hA : A = some ⟨b, off, none⟩) : ∀ j u, (ecs L)[j]? = some u → w.cell? ⟨b, off + j, none⟩ = some u := by
  intro j u hu
  obtain ⟨t, ht, hc⟩ := ecs_get hu
  have hk := (List.getElem?_eq_some_iff.1 ht).1
  obtain ⟨b', off', e, _, hcell⟩ := h.2 (by rw [← h.1]; omega)
  rw [hA] at e
  cases e
  obtain ⟨h0, h1, h2⟩ := hcell _ _ ht
  have hj : j = j / 3 * 3 + j % 3 := by omega
  rcases (show j % 3 = 0 ∨ j % 3 = 1 ∨ j % 3 = 2 by omega) with e | e | e
  · rw [e] at hj hc; rw [hj, Nat.add_zero]; rw [← hc]; exact h0
  · rw [e] at hj hc; rw [hj, ← Nat.add_assoc]; rw [← hc]; exact h1
  · rw [e] at hj hc; rw [hj, ← Nat.add_assoc]; rw [← hc]; exact h2
theorem holds_of {w : World} {B g n cap : Nat} {L : List Ed} (h : w.ownsRow B 38 3 (.slice (some ⟨g, 0, none⟩) n cap) n (ecs L)) (hl : L.length = n) : HoldsK ecell 3 w g 0 L.toArray ∧ g < w.heap.size ∧ B ≤ g := by
  rcases h.2 with ⟨h1, _⟩ | ⟨g', cap', cur, h1, hB, hg, hn, hm, hs, ht⟩
  · cases h1
  · injection h1 with h1 _ _
    injection h1 with h1
    injection h1 with h1 _ _
    subst h1
    refine ⟨fun j hj => ?_, (Array.getElem?_eq_some_iff.1 hg).1, hB⟩
    rw [size_flatK] at hj
    have hjl : j < L.length * 3 := by simpa using hj
    rw [get_flatK _ _ _ _ hj]
    have hk : j / 3 < L.length := by omega
    have e1 : (L.toArray)[j / 3]! = L[j / 3] := by rw [getElem!_pos _ _ (by simpa using hk)]; simp
    have hu : (ecs L)[j]? = some ((ecell L[j / 3])[j % 3]!) := by
      obtain ⟨u, hu⟩ : ∃ u, (ecs L)[j]? = some u := ⟨_, List.getElem?_eq_getElem (by rw [ecs_len]; omega)⟩
      obtain ⟨t, ht, hc⟩ := ecs_get hu
      have : t = L[j / 3] := by rw [List.getElem?_eq_getElem hk] at ht; exact (Option.some.inj ht).symm
      subst this
      rw [hu, ← hc]
      have h3 : j % 3 < (ecell L[j / 3]).length := Nat.mod_lt _ (by decide)
      rw [getElem!_pos (ecell L[j / 3]) (j % 3) h3, List.getElem?_eq_getElem h3]
    rw [e1]
    refine ⟨?_, Lib.frozen_of_heap hg _⟩
    have := h.cells (g := g) rfl j _ hu
    rwa [Addr.add_lit] at this
theorem ShE.of_holds {w : World} {g : Nat} {d : Array Ed} {L : List Ed} (h : HoldsK ecell 3 w g 0 d) (hd : d.toList = L) (hg : g < w.heap.size) : ShE w w.heap.size (some ⟨g, 0, none⟩) L.length L := by
  refine ⟨rfl, fun _ => ⟨g, 0, rfl, hg, fun k t ht => ?_⟩⟩
  obtain ⟨hk, hx⟩ := get_at hd ht
  have := (ed_cells h hk hx).1
  rw [Nat.zero_add]
  exact this

theorem sortFn_any (g cap : Nat) (d0 : Array Ed) (w0 w : World) (D : List Ed) (hR : RowK ecell 3 w0 g 0 d0) (n : Nat) (hn : n = d0.size) (hS : SWE w0 g D w) (hs : D.length = n) (hsz : n ≤ 100000) :
    Calls Tryd.prog 27 #[.slice (some ⟨g, 0, none⟩) n cap, cmpV] w fun e w' => e = .returned (.tuple #[]) ∧ ∃ L, SWE w0 g L w' ∧ Srt L ∧ Fl L D := by
  have HST := Lib.hid (stable_any g cap d0 w0 w D hR n hn hS hs hsz)
  clear hS hs hn
  go_enter Tryd.func27, Tryd.ntmps27
  go_wp2_with (first
    | (go_at_call 31; refine HST.out.mono ?_; rintro e w1 ⟨rfl, H1⟩; have H1 := Lib.hid H1)
    | fail)
  go_end0
  exact ⟨rfl, H1.out⟩
theorem sortFn_none (A : Option Addr) (c : Nat) (w : World) :
    Calls Tryd.prog 27 #[.slice A 0 c, cmpV] w fun e w' => e = .returned (.tuple #[]) ∧ w = w' := by
  go_enter Tryd.func27, Tryd.ntmps27
  go_wp2_with (first
    | (go_at_call 31; refine (stable_none _ _).mono ?_; rintro e w1 ⟨rfl, rfl⟩)
    | fail)
  go_end0
  exact ⟨rfl, rfl⟩

/-- Sort's answer: in new memory. -/
def SoTo (L : List Ed) (w : World) (e : Ending) (w' : World) : Prop := ∃ A c K, e = .returned (.slice A L.length c) ∧ ShE w' w'.heap.size A L.length K ∧ Srt K ∧ Fl K L ∧ Below w.heap.size w w'
theorem clone_any (b off m d : Nat) (L : List Ed) (w : World) (hx : ShE w w.heap.size (some ⟨b, off, none⟩) m L) (hm : m ≤ 600) :
    Calls Tryd.prog 26 #[.slice (some ⟨b, off, none⟩) m d] w fun e w' => ∃ v, e = .returned v ∧ Own w' w.heap.size 38 3 v m (ecs L) ∧ Below w.heap.size w w' := by
  obtain ⟨ht, i, z, hi, hz, hsize, hbytes, hzs, hpos⟩ := rowEd
  have hl := hx.1
  have := AnyE.slices_Clone Tryd.edClone i z 3 32 hi hz hsize hbytes hzs hpos Tryd.sizeOf38 b off m d (ecs L) w (by rw [ecs_len, hl]) (by unfold maxLen; omega) (by omega) (hx.cells rfl) (fun u hu => by
    obtain ⟨t, _, ht⟩ := List.mem_flatMap.1 hu
    exact ecell_one t u ht)
  refine (this : Calls Tryd.prog 26 _ _ _).mono ?_
  rintro e w' ⟨v, he, ho, _, hb⟩
  exact ⟨v, he, ⟨ho, hb.size⟩, hb⟩

set_option maxHeartbeats 1000000 in
theorem sort_any (b off m d : Nat) (L : List Ed) (w : World) (hx : ShE w w.heap.size (some ⟨b, off, none⟩) m L) (hm : m ≤ 600) :
    Calls Tryd.prog 18 #[.slice (some ⟨b, off, none⟩) m d] w (SoTo L w) := by
  have hl := hx.1
  have HCL := Lib.hid (clone_any b off m d L w hx hm)
  have HL := Lib.hid hl
  clear hx hl
  go_enter Tryd.func18, Tryd.ntmps18
  go_wp2_with fail
  refine HCL.out.mono ?_
  rintro e w1 ⟨v, rfl, ho, b1⟩
  have B1 := Lib.hid b1
  rcases Nat.eq_zero_or_pos m with h0 | h0
  · subst h0
    obtain ⟨A, c, rfl⟩ := ho.form
    clear ho b1
    go_wp2_with (first
      | (go_at_call 27; refine (sortFn_none _ _ _).mono ?_; rintro e w2 ⟨rfl, rfl⟩)
      | fail)
    go_ret
    have hn : L = [] := List.eq_nil_of_length_eq_zero HL.out
    subst hn
    exact ⟨A, c, [], rfl, ShE.nil _ _ _, List.Pairwise.nil, Fl.refl _, B1.out⟩
  · obtain ⟨g, cap, rfl, _, _⟩ := ho.1.form h0
    obtain ⟨hH, hg, hB⟩ := holds_of ho.1 HL.out
    have hR : RowK ecell 3 w1 g 0 L.toArray := ⟨fun _ => rfl, ecell_one, hH, hg⟩
    have HST := Lib.hid (sortFn_any g cap L.toArray w1 w1 L hR m (by simp [HL.out]) ⟨L.toArray, by simp, SWK.start hH⟩ HL.out (by omega))
    have HG := Lib.hid hg
    have HR := Lib.hid hR
    clear ho b1 hH hR hg
    go_wp2_with (first
      | (go_at_call 27; refine HST.out.mono ?_; rintro e w2 ⟨rfl, H2⟩; have H2 := Lib.hid H2)
      | fail)
    go_ret
    obtain ⟨K, ⟨dk, hdk, hw⟩, k1, k2⟩ := H2.out
    have hlk := k2.1
    have h3 := ShE.of_holds (hw.holds HR.out.hblk HR.out.hH (by rw [size_of hdk, hlk]; simp)) hdk (hw.lt HR.out.hblk)
    rw [hlk] at h3
    have hb2 := below_SWK (B := w.heap.size) hw hB B1.out.size
    have e1 := HL.out
    subst e1
    exact ⟨_, _, K, rfl, h3, k1, k2, B1.out.trans hb2⟩
theorem sort_nil (d : Nat) (w : World) : Calls Tryd.prog 18 #[.slice none 0 d] w (SoTo [] w) := by
  have HCL : Hid (Calls Tryd.prog 26 #[.slice none 0 d] w fun e w' => e = .returned (.slice none 0 0) ∧ w' = w) := Lib.hid (AnyE.slices_Clone_nil Tryd.edClone 0 d w)
  go_enter Tryd.func18, Tryd.ntmps18
  go_wp2_with (first
    | (go_at_call 26; refine HCL.out.mono ?_; rintro e w1 ⟨rfl, rfl⟩)
    | (go_at_call 27; refine (sortFn_none _ _ _).mono ?_; rintro e w2 ⟨rfl, rfl⟩)
    | fail)
  go_ret
  exact ⟨_, _, [], rfl, ShE.nil _ _ _, List.Pairwise.nil, Fl.refl _, Below.refl _ _⟩
theorem sort_own (A : Option Addr) (m d : Nat) (L : List Ed) (w : World) (hx : ShE w w.heap.size A m L) (hm : m ≤ 600) (hA : (A = none ∧ m = 0) ∨ ∃ b off, A = some ⟨b, off, none⟩) : Calls Tryd.prog 18 #[.slice A m d] w (SoTo L w) := by
  rcases hA with ⟨rfl, rfl⟩ | ⟨b, off, rfl⟩
  · have : L = [] := List.eq_nil_of_length_eq_zero hx.1
    subst this
    exact sort_nil d w
  · exact sort_any b off m d L w hx hm
end Go.Proofs.YtopeechbgblndaaDoor
