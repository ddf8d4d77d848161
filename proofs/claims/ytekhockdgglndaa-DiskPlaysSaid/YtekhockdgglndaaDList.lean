/-
  CONTRACT OF List: the names, rising.
-/
import Derived.Test.YtekhockdgglndaaShelf
import Derived.Test.YtekhockdgglndaaDM4
namespace Go.Proofs.Ytekhockdgglndaa
set_option linter.unusedVariables false
set_option linter.unusedSimpArgs false
open Go.RowKit Go.Maps Go.Shelf Go.Sort

theorem bb_lt : ∀ {a b : Nm}, bytesBefore a b = true → a < b
  | [], [], h => by cases h
  | [], _ :: _, _ => List.Lex.nil
  | _ :: _, [], h => by cases h
  | x :: r, y :: s, h => by
    unfold bytesBefore at h
    simp only [Bool.or_eq_true, Bool.and_eq_true, decide_eq_true_eq, beq_iff_eq] at h
    rcases h with h1 | ⟨h2, h3⟩
    · exact List.Lex.rel h1
    · subst h2
      exact List.Lex.cons (bb_lt h3)
theorem ris_sorted {N : NL} (h : Ris N) {ss : List Nm} (hp : ss.Perm (N.map (·.1))) : (ss.mergeSort fun x y => decide (x ≤ y)) = N.map (·.1) := by
  have h1 := mergeSort_of_perm hp
  have h2 : (N.map (·.1)).Pairwise fun x y => leB x y = true := by
    rw [List.pairwise_map]
    refine h.imp fun {p q} hb => ?_
    simp only [leB, decide_eq_true_eq]
    exact List.le_of_lt (bb_lt hb)
  exact h1.trans (List.mergeSort_of_pairwise h2)
theorem strKeys_toD (N : NL) : strKeys (toD N) = N.map (·.1) := by
  show (N.map entD).map (fun p => strOf p.1) = _
  rw [List.map_map]
  rfl
/-- Names, as cells. -/
def strs (N : NL) : List Value := N.map fun p => .string ⟨p.1.toArray⟩
section
theorem diskSorts (m : Nat) : AnyZ.SortsIn Try.prog Try.strSorted_ren Fence.wide m :=
  ⟨fun blk off cap ss W hH hblk hsz => callsIn_wide.2 (AnyM.slices_Sort_string Try.strSort blk off cap ss W hH hblk hsz),
   fun p cap W => callsIn_wide.2 (AnyM.slices_Sort_string_none Try.strSort p cap W)⟩
theorem keys_any (mb : Option Nat) (W : World) : Calls Try.prog 65 #[.map mb] W fun e w' => e = .returned (.func (.func 73) #[] #[.pointer (some ⟨W.heap.size, 0, none⟩)]) ∧ w' = W.alloc (.cells #[.map mb] 52) :=
  callsIn_wide.1 (AnyZ.keys_in Try.diskKeys Fence.wide 5 trivial rfl mb W)
set_option maxHeartbeats 1000000 in
theorem sorted_any (b : Nat) (N : NL) (w : World) (hown : NamesAt w b N) (hn : N.length ≤ 1000) :
    Calls Try.prog 64 #[.func (.func 73) #[] #[.pointer (some ⟨w.heap.size, 0, none⟩)]] (w.alloc (.cells #[.map (some b)] 52)) fun e w' => ∃ (v : Value) (ss : List Nm), e = .returned v ∧ ss.Perm (strKeys (toD N)) ∧
      w'.ownsRow (w.alloc (.cells #[.map (some b)] 52)).heap.size 9 1 v ss.length ((ss.mergeSort (fun x y => decide (x ≤ y))).map Go.Proofs.encStr) ∧ (v = .slice none 0 0 ↔ ss = []) ∧ Below (w.alloc (.cells #[.map (some b)] 52)).heap.size (w.alloc (.cells #[.map (some b)] 52)) w' := by
  have hbl := hown.lt
  have hsz : Maps.size (toD N) = N.length := toD_size N
  have hseq : SeqGives Fence.wide 2 Try.prog 73 #[.pointer (some ⟨w.heap.size, 0, none⟩)] Go.Proofs.encStr (fun ss => ss.Perm (strKeys (toD N))) (Maps.size (toD N)) (w.alloc (.cells #[.map (some b)] 52)) :=
    AnyZ.keys_gives (ρ := Try.diskKeys_ren) { Try.diskKeys with } Fence.wide _ trivial rfl (by omega) w.heap.size b N.length (toD N) _ (by simp) (by simp) (by
      obtain ⟨es, clock, hb, Ft, hs, hD⟩ := hown
      exact ⟨es, clock, (Below.heap_alloc _ _ b hbl).trans hb, Ft, hs, hD⟩)
  exact callsIn_wide.1 (AnyZ.sorted_in Try.strSorted Fence.wide 5 trivial trivial trivial trivial rfl (by omega) (diskSorts _) (enters_of Try.func72 (by kernel_rfl) rfl) 73 #[.pointer (some ⟨w.heap.size, 0, none⟩)] trivial (enters_of Try.func73 (by kernel_rfl) rfl) _ _ (by rw [hsz]; unfold maxLen; omega) (by rw [hsz]; omega) _ hseq)
variable {w : World} {X : Nat → Prop} {g : Nat} {L : Lay} {S : St}
/-- What List answers. -/
def St.list (S : St) : NL := if S.dead = true then [] else S.names
def Names (w : World) (N : NL) (e : Ending) (w' : World) : Prop := ∃ v, e = .returned v ∧ Own w' w.heap.size 9 1 v N.length (strs N) ∧ Below w.heap.size w w'
set_option maxHeartbeats 800000 in
theorem list_any (h : DAt w X g L S) (hn : S.names.length ≤ 1000) : Calls Try.prog 41 #[ptrTo g] w (Names w S.list) := by
  have c9 := h.c9
  have c2 := h.c2
  have hnm := h.nm
  by_cases hd : S.dead = true
  · have HS := Lib.hid (show S.list = [] by unfold St.list; rw [if_pos hd])
    rw [hd] at c9
    clear h hd
    unfold ptrTo
    go_enter Try.func41, Try.ntmps41
    go_wp2
    go_ret
    exact ⟨.slice none 0 0, rfl, by rw [HS.out]; exact Own.nil _ _ _ _ (Nat.le_refl _), Below.refl _ _⟩
  · have hd' : S.dead = false := by simpa using hd
    have HS := Lib.hid (show S.list = S.names by unfold St.list; rw [if_neg hd])
    rw [hd'] at c9
    have HK := Lib.hid (keys_any (some L.nm) w)
    have HSO := Lib.hid (sorted_any L.nm S.names w hnm hn)
    have HR := Lib.hid hnm.ris
    clear h hd hd'
    unfold ptrTo
    go_enter Try.func41, Try.ntmps41
    go_wp2_with (first
      | (go_at_call 65; refine HK.out.mono ?_; rintro e w1 ⟨rfl, rfl⟩)
      | (go_at_call 64; refine HSO.out.mono ?_; rintro e w2 ⟨v, ss, rfl, hp, ho, _, hb⟩; have HP := Lib.hid hp; have HO := Lib.hid ho; have HB := Lib.hid hb; clear hp ho hb)
      | go_in)
    go_ret
    have hp := HP.out
    rw [strKeys_toD] at hp
    have hlen : ss.length = S.names.length := by rw [hp.length_eq]; simp
    have ho := HO.out
    rw [ris_sorted HR.out hp, hlen] at ho
    refine ⟨v, rfl, ?_, ((Below.refl _ w).alloc (Nat.le_refl _) _).trans (HB.out.mono (by simp))⟩
    rw [HS.out]
    have hsz : w.heap.size ≤ w2.heap.size := by
      have := HB.out.size
      simp at this
      omega
    have : Own w2 (w.alloc (.cells #[.map (some L.nm)] 52)).heap.size 9 1 v S.names.length (strs S.names) := ⟨by
      unfold strs
      rw [List.map_map] at ho
      exact ho, HB.out.size⟩
    exact this.lower (by simp)
end
end Go.Proofs.Ytekhockdgglndaa
