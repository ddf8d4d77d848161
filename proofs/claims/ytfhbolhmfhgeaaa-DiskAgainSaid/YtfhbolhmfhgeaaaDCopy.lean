/-
  RANGING OVER NAMES; CONTRACTS OF 'maps.Copy' and 'disk.copied'.
-/
import Derived.Test.YtfhbolhmfhgeaaaDTurns
import Derived.Maps.RangeWalk
import Derived.IntWalk
namespace Go.Proofs.Ytfhbolhmfhgeaaa
set_option linter.unusedVariables false
set_option linter.unusedSimpArgs false
open Go.RowKit Go.Maps

/-- What is left, said of names, as it is said of keys. -/
def lf (left : Nm → Bool) : Lit → Bool
  | .string b => left b
  | _ => false
theorem lf_start (N : NL) : Maps.has (toD N) = lf fun k => (nat? k N).isSome := by
  funext l
  cases l
  case string k => exact toD_has k N
  all_goals
    unfold Maps.has toD lf
    simp [List.any_eq_false, entD, Lit.sameKey]
theorem lf_step (left : Nm → Bool) (k : Nm) : (fun z : Lit => lf left z && !z.sameKey (.string k)) = lf fun m => left m && !(m == k) := by
  funext l
  cases l <;> rfl
/-- A range over names: left: which are to come; cnt: how many. -/
def NRange (w : World) (b r : Nat) (N : NL) (left : Nm → Bool) (cnt : Nat) : Prop := w.ranges Try.prog 9 ptrElem b r N.length (toD N) (lf left) cnt
section
variable {w w' : World} {b r : Nat} {N : NL} {left : Nm → Bool} {cnt : Nat}
theorem NRange.owns (h : NRange w b r N left cnt) : NamesAt w b N := World.ranges.owns h
theorem NRange.lt (h : NRange w b r N left cnt) : r < w.heap.size := World.ranges.lt h
theorem NRange.keep (h : NRange w b r N left cnt) {row : Option Nat} (hg : w.grownBy w' row) (h1 : row ≠ some b) (h2 : row ≠ some r) : NRange w' b r N left cnt := World.ranges.kept h hg h1.symm h2.symm
theorem NRange.left_eq (h : NRange w b r N left cnt) : w.rangeLeft b r = cnt := World.ranges.left_eq h
variable {ops : Array Oper} {rest : List Oper} {o : Oper} {a : Act} {Q : Exit → Act → World → Prop}
theorem wpList_range_names (w : World) (hg : o.guard = none) (m : Operand) (hop : o.op = Op.range 68 m) {b : Nat} {N : NL} (hm : a.eval m = .map (some b)) (h : NamesAt w b N)
    (hK : ∀ w', NRange w' b w.heap.size N (fun k => (nat? k N).isSome) N.length → w.grownBy w' none → w'.heap.size = w.heap.size + 1 → wpList Try.prog ops Q rest (a.put o.dst (.pointer (some ⟨w.heap.size, 0, none⟩))) w') : wpList Try.prog ops Q (o :: rest) a w :=
  wpList_range_own w hg m 68 hop 9 78 strLaw underlyingM ptrElem b N.length (toD N) hm h fun w' h1 h2 h3 => hK w' (by rw [lf_start, toD_size] at h1; exact h1) h2 h3
theorem wpList_next_names (w : World) (hg : o.guard = none) (it : Operand) (hop : o.op = Op.next it false) {b r : Nat} {N : NL} {left : Nm → Bool} {cnt : Nat} (hit : a.eval it = .pointer (some ⟨r, 0, none⟩)) (h : NRange w b r N left cnt)
    (hDone : cnt = 0 → (∀ k, left k = false) → wpList Try.prog ops Q rest (a.put o.dst (.tuple #[.bool false])) w)
    (hMore : ∀ (s : ByteArray) (c : Nat) (w' : World) (cnt' : Nat), s.size ≤ maxLen → left s.data.toList = true → (s.data.toList, c) ∈ N → NRange w' b r N (fun m => left m && !(m == s.data.toList)) cnt' → cnt' < cnt → w.grownBy w' (some r) → w'.heap.size = w.heap.size →
      (Instr.entry (.pointer (some ⟨r, 0, none⟩))).run Try.prog w' = .ok (.tuple #[.string s, ptrTo c]) w' → wpList Try.prog ops Q rest (a.put o.dst (.tuple #[.bool true, .string s, ptrTo c])) w') : wpList Try.prog ops Q (o :: rest) a w := by
  refine wpList_next_ranges w hg it hop 9 strLaw ptrElem Value.string ptrOf (fun key kl hk => ?_) (fun v y hv => ?_) b r N.length (toD N) (lf left) cnt hit h (fun h0 hl => hDone h0 fun k => hl (.string k)) ?_
  · obtain ⟨s, rfl, _, _⟩ := WideMaps.string_of_keyOf Try.underlying9 hk
    exact ⟨s, rfl⟩
  · rcases ptrElem_inv hv with ⟨rfl, _⟩ | ⟨c, rfl, _⟩
    · exact ⟨none, rfl⟩
    · exact ⟨some c, rfl⟩
  · intro s c kl y w' cnt' hkey hlk hv hat hrg hlt hgr hsz hen
    obtain ⟨s', e, rfl, hs⟩ := WideMaps.string_of_keyOf Try.underlying9 hkey
    cases e
    simp only [toD_at] at hat
    cases hn : nat? s.data.toList N with
    | none =>
      rw [hn] at hat
      have h1 := hat .nil
      have h2 := hat (.slice [] [])
      rw [← h1] at h2
      cases h2
    | some d =>
      rw [hn] at hat
      have hd : c = some d := by
        have h3 := hat .nil
        rcases ptrElem_inv hv with ⟨h1, h2⟩ | ⟨c', h1, h2⟩
        · rw [h2] at h3
          simp at h3
        · rw [h2] at h3
          simp at h3
          have : c' = d := by omega
          subst this
          cases c with
          | none => cases h1
          | some c'' =>
            unfold ptrOf ptrTo at h1
            simp at h1
            rw [h1]
      subst hd
      rw [lf_step] at hrg
      exact hMore s d w' cnt' hs hlk (nat?_some hn) hrg hlt hgr hsz hen
end
/-- Those that have come, at the start and at the end. -/
theorem come_start {N : NL} (h : Ris N) : (N.filter fun p => !(nat? p.1 N).isSome) = [] := by
  rw [List.filter_eq_nil_iff]
  intro p hp
  have := h.at (k := p.1) (b := p.2) hp
  simp [this]
theorem come_end {N : NL} {left : Nm → Bool} (h : ∀ k, left k = false) : (N.filter fun p => !left p.1) = N := by
  rw [List.filter_eq_self]
  intro p _
  simp [h]

set_option maxHeartbeats 400000 in
theorem copy_any (d b : Nat) (N : NL) (w : World) (hd : NamesAt w d []) (hb : NamesAt w b N) (hne : d ≠ b) (hn : N.length ≤ 1000000) :
    Calls Try.prog 66 #[.map (some d), .map (some b)] w fun e w' => e = .returned (.tuple #[]) ∧ NamesAt w' d N ∧ w.grownBy w' (some d) := by
  have hris := hb.ris
  have hdl := hd.lt
  have hbl := hb.lt
  have HN := Lib.hid hne
  clear hne
  go_enter Try.func66, Try.ntmps66
  go_wp2_with (first
    | (at_range; refine wpList_range_names _ rfl _ rfl rfl hb ?_; intro w0 hrg0 hg0 hs0)
    | go_in)
  go_frame
  go_loopw [4, 5] (fun _ _ wr => ∃ (left : Nm → Bool) (cnt : Nat), NRange wr b w.heap.size N left cnt ∧ NamesAt wr d (N.filter fun p => !left p.1) ∧ w.grownBy wr (some d)) (fun _ _ wr => wr.rangeLeft b w.heap.size)
  case atStart => exact ⟨_, _, hrg0, by rw [come_start hris]; exact hd.keep hg0 (by simp), hg0.but _⟩
  case round =>
    obtain ⟨left, cnt, hrg, hout, hgr⟩ := hrel
    have hsz := hgr.size
    go_wp2_with (first
      | (at_next; refine wpList_next_names _ rfl _ rfl rfl hrg ?_ ?_)
      | go_in)
    · intro hc0 hl0
      go_wp2
      first | go_ret | go_end0
      refine ⟨rfl, ?_, hgr⟩
      rw [come_end hl0] at hout
      exact hout
    · intro s c w1 cnt1 hs hlx hm hrg1 hlt hg1 hs1 hen
      have hout1 := hout.keep hg1 (by intro e; injection e with e; omega)
      have hlen : (N.filter fun p => !left p.1).length < maxLen := by
        have := List.length_filter_le (fun p : Nm × Nat => !left p.1) N
        unfold maxLen
        omega
      have HR := Lib.hid hris
      have HM := Lib.hid hm
      clear hs1 hm
      go_wp2_with (first
        | (at_mapUpdate; refine wpList_put _ rfl _ _ _ rfl rfl hout1 hlen rfl hs rfl ?_; intro w2 hout2 hg2; go_frame)
        | go_in)
      have hrg2 := hrg1.keep hg2 (by intro e; injection e with e; exact HN.out e) (by intro e; injection e with e; omega)
      go_roundw
      case rel =>
        refine ⟨_, cnt1, hrg2, ?_, ?_⟩
        · rw [← put_left HR.out HM.out]
          exact hout2
        · refine grown_trans (hgr.andThen hg1 fun j hj => ?_) hg2
          cases hj
          exact .inl (Nat.le_refl _)
      case measure => rw [hrg2.left_eq, hrg.left_eq]; exact hlt

theorem run_makeMap_some (n : Int) (w : World) : (Instr.makeMap 68 (some (.int .i64 n))).run Try.prog w = .ok (.map (some w.heap.size)) (w.alloc (.map #[] 0)) := by
  simp [Instr.makeMap, run_underlying underlyingM, go_sem]
theorem copied_any (b : Nat) (N : NL) (w : World) (hb : NamesAt w b N) (hn : N.length ≤ 1000000) :
    Calls Try.prog 37 #[.map (some b)] w fun e w' => e = .returned (.map (some w.heap.size)) ∧ NamesAt w' w.heap.size N ∧ Below w.heap.size w w' := by
  have hmm := run_makeMap_some
  have hl := hb.len 3
  have hbl := hb.lt
  have HC := Lib.hid (copy_any w.heap.size b N (w.alloc (.map #[] 0)) (NamesAt.made w) (hb.keep (World.grownBy_alloc w _ none) (by simp)) (by omega) hn)
  clear hb
  go_enter Try.func37, Try.ntmps37
  go_wp2_with (go_at_call 66; refine HC.out.mono ?_; rintro e w1 ⟨rfl, h1, h2⟩; have H1 := Lib.hid h1; have H2 := Lib.hid h2; clear h1 h2)
  go_ret
  exact ⟨rfl, H1.out, ((Below.refl _ w).alloc (Nat.le_refl _) _).grown H2.out (by simp) (fun k hk => by cases hk; exact Nat.le_refl _)⟩
end Go.Proofs.Ytfhbolhmfhgeaaa
