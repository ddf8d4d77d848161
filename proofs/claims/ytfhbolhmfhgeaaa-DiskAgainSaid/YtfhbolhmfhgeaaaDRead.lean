/-
  CONTRACTS OF slices.Clone and Read.
-/
import Derived.Test.YtfhbolhmfhgeaaaDUsed
import Derived.Lib.SliceRun
namespace Go.Proofs.Ytfhbolhmfhgeaaa
set_option linter.unusedVariables false
set_option linter.unusedSimpArgs false
open Go.RowKit Go.Maps

theorem ret_pair {v : Value} {a b : Int} (h : a = b) : Ending.returned (.tuple #[v, .int .i64 a]) = .returned (.tuple #[v, .int .i64 b]) := by rw [h]
set_option maxRecDepth 10000 in
set_option maxHeartbeats 800000 in
theorem clone_any (A : Option Addr) (n c : Nat) (xs : List Int) (w : World) (U : Nat) (hx : Sh w U A n (by8 xs)) (hU : U ≤ w.heap.size) (hn : n ≤ 10000000) :
    Calls Try.prog 36 #[.slice A n c] w fun e w' => ∃ v, e = .returned v ∧ Own w' w.heap.size 5 1 v n (by8 xs) ∧ Below w.heap.size w w' := by
  have heq := fun (w : World) (a : Option Addr) (n c : Nat) => Lib.run_eql_slice_nil (P := Try.prog) w 32 5 a n c 0 0 Try.underlying32
  cases A with
  | none =>
    have h0 : n = 0 := by
      rcases Nat.eq_zero_or_pos n with h | h
      · exact h
      · obtain ⟨b, off, e, _⟩ := hx.2 h
        cases e
    subst h0
    have hxs : xs = [] := by
      have := hx.len
      rw [by8_len] at this
      exact List.eq_nil_of_length_eq_zero this
    subst hxs
    clear hx
    go_enter Try.func36, Try.ntmps36
    go_wp2
    go_ret
    exact ⟨_, rfl, Own.nil _ _ _ _ (Nat.le_refl _), Below.refl _ _⟩
  | some ad =>
    go_enter Try.func36, Try.ntmps36
    go_wp2_with (first
      | (at_builtin; refine wpList_more rfl (.tmp 5) (.tmp 6) 32 rfl rowB w (w.alloc (.cells #[] 5)) w.heap.size _ 0 [] (by8 xs) rfl (Own.empty w w.heap.size 5 1 (Nat.le_refl _)) U (some ad) n c rfl (hx.alloc hU _) (by8_one _) ((Below.refl _ _).alloc (Nat.le_refl _) _) (by omega) (by omega) ?_; intro v1 w1 ho1 hb1; have ho1 := ho1.cast (Nat.zero_add _) (List.nil_append _); obtain ⟨G, d, rfl⟩ := ho1.form)
      | go_in)
    go_ret
    exact ⟨_, rfl, ho1, hb1⟩

section
variable {w : World} {X : Nat → Prop} {g : Nat} {L : Lay} {S : St}
/-- What Read answers. -/
def St.read (S : St) (k : Nm) : List Int × Int :=
  if S.dead = true then ([], 9) else match nat? k S.names with
  | none => ([], 6)
  | some b => match S.fs.find? fun f => f.blk == b with | some f => (f.data, 0) | none => ([], 6)

/-- Bytes of the call's own, and an error. -/
def Answers (w : World) (r : List Int × Int) (e : Ending) (w' : World) : Prop := ∃ v, e = .returned (.tuple #[v, .int .i64 r.2]) ∧ Own w' w.heap.size 5 1 v r.1.length (by8 r.1) ∧ Below w.heap.size w w'
set_option maxHeartbeats 800000 in
theorem read_any (h : DAt w X g L S) (s : ByteArray) (hs : s.size ≤ maxLen) (hcl : Closed S.names S.fs) (hl : ∀ f ∈ S.fs, f.data.length ≤ 1048576) :
    Calls Try.prog 15 #[ptrTo g, .string s] w (Answers w (S.read s.data.toList)) := by
  have c9 := h.c9
  have c2 := h.c2
  have hnm := h.nm
  by_cases hd : S.dead = true
  · have HS := Lib.hid (show S.read s.data.toList = ([], 9) by unfold St.read; rw [if_pos hd])
    rw [hd] at c9
    clear h hd hcl hl
    unfold ptrTo
    go_enter Try.func15, Try.ntmps15
    go_wp2
    go_ret2
    exact ⟨.slice none 0 0, ret_pair (by rw [HS.out]), by rw [HS.out]; exact Own.nil _ _ _ _ (Nat.le_refl _), Below.refl _ _⟩
  · have hd' : S.dead = false := by simpa using hd
    rw [hd'] at c9
    cases hk : nat? s.data.toList S.names with
    | none =>
      have HS := Lib.hid (show S.read s.data.toList = ([], 6) by unfold St.read; rw [if_neg hd, hk])
      have HN := Lib.hid (show ptrOf (nat? s.data.toList S.names) = .pointer none by rw [hk]; rfl)
      clear h hd hd' hcl hl hk
      unfold ptrTo
      go_enter Try.func15, Try.ntmps15
      go_wp2_with (first
        | (at_lookup; refine wpList_look _ rfl _ _ rfl rfl hnm rfl hs ?_; rw [HN.out])
        | go_in)
      go_ret2
      exact ⟨.slice none 0 0, ret_pair (by rw [HS.out]), by rw [HS.out]; exact Own.nil _ _ _ _ (Nat.le_refl _), Below.refl _ _⟩
    | some b =>
      obtain ⟨i, f, hi, hfb⟩ := hcl.at hk
      have hfm := List.mem_of_getElem? hi
      have hfa := h.fo f hfm
      have hfind := find_blk h.nd hfm
      rw [hfb] at hfind
      have HS := Lib.hid (show S.read s.data.toList = (f.data, 0) by unfold St.read; rw [if_neg hd, hk]; simp only [hfind])
      have HN := Lib.hid (show ptrOf (nat? s.data.toList S.names) = .pointer (some ⟨b, 0, none⟩) by rw [hk]; rfl)
      have f0 := hfa.c0
      have hrow := hfa.row
      rw [hfb] at f0 hrow
      obtain ⟨A, cc, hv, _, _⟩ := hrow.form
      rw [hv] at f0 hrow
      have hll := hl f hfm
      have HC := Lib.hid (clone_any A f.data.length cc f.data w _ hrow.sh (Nat.le_refl _) (by omega))
      clear h hd hd' hcl hl hk hi hfb hfm hfa hfind hv hrow
      unfold ptrTo
      go_enter Try.func15, Try.ntmps15
      go_wp2_with (first
        | (at_lookup; refine wpList_look _ rfl _ _ rfl rfl hnm rfl hs ?_; rw [HN.out])
        | (go_at_call 36; refine HC.out.mono ?_; rintro e w1 ⟨v, rfl, ho, hb⟩; obtain ⟨G, d, rfl⟩ := ho.form; have HO := Lib.hid ho; have HBW := Lib.hid hb; clear ho hb)
        | go_in)
      go_ret2
      exact ⟨_, ret_pair (by rw [HS.out]), by rw [HS.out]; exact HO.out, HBW.out⟩
end
end Go.Proofs.Ytfhbolhmfhgeaaa
