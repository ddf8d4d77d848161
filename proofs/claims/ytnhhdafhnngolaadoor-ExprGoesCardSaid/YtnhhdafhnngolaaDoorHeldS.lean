/-
  A REGION THAT DRAWS ITS ORDER, WHOSE LAST OPERATION WAITS FOR ALL OTHERS, AND WHOSE LOADS READ CELLS THAT STAY TILL THEN: what looks at memory is taken first, too; behind each operation but the last one the cells are shown anew.
-/
import Derived.Test.YtnhhdafhnngolaaDoorRegion
import Derived.Deep.RegionHeld3
namespace Go.Proofs.YtnhhdafhnngolaaDoor
set_option linter.unusedVariables false
set_option linter.unusedSimpArgs false
open Go.RowKit

section
variable {P : Program} {ops : Array Oper} {Q : Exit → Act → World → Prop} {md : Region.Mode} {S : World → Prop} {z : Nat}

/-- What was listed had all listed that it waits for. -/
def Down (md : Region.Mode) (ops : Array Oper) (ls : Array Bool) : Prop := ∀ k o, ops[k]? = some o → ls.getD k false = true → ∀ e ∈ o.after, Region.binds md e = true → ls.getD e.on false = true
theorem Down.start (n : Nat) : Down md ops (Array.replicate n false) := fun k o _ h => by
  rcases Nat.lt_or_ge k n with h' | h'
  · simp [Array.getD, h'] at h
  · simp [Array.getD] at h
theorem Down.set {ls : Array Bool} (h : Down md ops ls) {j : Nat} (hj : j ∈ Region.ready md ops ls) : Down md ops (ls.setIfInBounds j true) := fun k o ho hk e he hb => by
  obtain ⟨_, oj, hoj, hall⟩ := mem_ready.1 hj
  by_cases e1 : j = k
  · subst e1
    rw [hoj] at ho
    cases ho
    exact getD_set_true (hall e he hb)
  · rw [getD_set_ne false e1] at hk
    exact getD_set_true (h k o ho hk e he hb)
/-- Each operation but z is waited for by a later one. -/
def usedB (md : Region.Mode) (ops : Array Oper) (z : Nat) : Bool :=
  (List.range ops.size).all fun k => k == z || (List.range ops.size).any fun u => decide (k < u) && (match ops[u]? with | some o => o.after.any fun e => Region.binds md e && e.on == k | none => false)
theorem last_alone {ls : Array Bool} (h : Down md ops ls) (hu : usedB md ops z = true) (hz : z ∈ Region.ready md ops ls) {i : Nat} (hi : i ∈ Region.ready md ops ls) : i = z := by
  obtain ⟨_, oz, hoz, hallz⟩ := mem_ready.1 hz
  obtain ⟨hi0, oi, hoi, _⟩ := mem_ready.1 hi
  have key : ∀ d k, ops.size - k ≤ d → k < ops.size → k ≠ z → ls.getD k false = true := by
    intro d
    induction d with
    | zero => intro k h1 h2 _; omega
    | succ d ih =>
      intro k h1 h2 h3
      have := List.all_eq_true.1 hu k (List.mem_range.2 h2)
      simp only [Bool.or_eq_true, beq_iff_eq] at this
      rcases this with h4 | h4
      · exact absurd h4 h3
      · obtain ⟨u, hu1, hu2⟩ := List.any_eq_true.1 h4
        simp only [Bool.and_eq_true, decide_eq_true_eq] at hu2
        obtain ⟨hku, hu3⟩ := hu2
        have hus := List.mem_range.1 hu1
        have hou : ops[u]? = some ops[u] := Array.getElem?_eq_getElem hus
        rw [hou] at hu3
        obtain ⟨e, he, hbe⟩ := Array.any_eq_true'.1 hu3
        simp only [Bool.and_eq_true, beq_iff_eq] at hbe
        obtain ⟨hb, rfl⟩ := hbe
        by_cases huz : u = z
        · subst huz
          rw [hou] at hoz
          cases hoz
          exact hallz e he hb
        · exact h u _ hou (ih u (by omega) hus huz) e he hb
  by_cases hne : i = z
  · exact hne
  · have hlt : i < ops.size := (Array.getElem?_eq_some_iff.1 hoi).1
    have := key _ i (Nat.le_refl _) hlt hne
    rcases Nat.lt_or_ge i ls.size with h' | h'
    · simp [Array.getD, h'] at this hi0
      rw [this] at hi0
      cases hi0
    · simp only [Array.getD] at hi0
      rw [dif_neg (by omega)] at hi0
      cases hi0

/-- Whatever comes up; behind each operation but z S holds. -/
def wpAnyLh (P : Program) (md : Region.Mode) (ops : Array Oper) (Q : Exit → Act → World → Prop) (S : World → Prop) (z : Nat) : Nat → Array Bool → Act → World → Prop
  | 0, ls, a, w => Region.ready md ops ls = [] ∧ Q .normal a w
  | n + 1, ls, a, w => (Region.ready md ops ls = [] → Q .normal a w) ∧
    ∀ i ∈ Region.ready md ops ls, wpOp P ops Q i (fun a' w' => (S w' ∨ i = z) ∧ wpAnyLh P md ops Q S z n (ls.setIfInBounds i true) a' w') a w
theorem wpAny_of_Lh : ∀ (n : Nat) (ls : Array Bool) (a : Act) (w : World), wpAnyLh P md ops Q S z n ls a w → wpAny P md ops Q n ls a w
  | 0, _, _, _, h => h
  | n + 1, _, _, _, h => ⟨h.1, fun i hi => wpOp_mono (fun a' w' h' => wpAny_of_Lh n _ a' w' h'.2) (h.2 i hi)⟩

theorem wpAnyLh_first {i : Nat} {oi : Oper} {v : Value} (hu : usedB md ops z = true) (hiz : i ≠ z) (hi : ops[i]? = some oi) (hsel : ∀ (j : Nat) (o : Oper) cs b, ops[j]? = some o → o.op ≠ .select cs b)
    (hQ : ∀ c a w, Q (.panic c) (a.put oi.dst v) w → Q (.panic c) a w) : ∀ (n : Nat) (ls : Array Bool) (a : Act) (w : World), Down md ops ls →
      (∀ j oj, ops[j]? = some oj → j ≠ i → ls.getD j true = false → (∀ e ∈ oj.after, Region.binds md e = true → e.on ≠ i) → oi.apart ops oj = true) →
      i ∈ Region.ready md ops ls → YieldsIf P ops S oi v a → S w →
      wpAnyLh P md ops Q S z n (ls.setIfInBounds i true) (a.put oi.dst v) w → wpAnyLh P md ops Q S z (n + 1) ls a w
  | n, ls, a, w, hd, hfree, hr, hy, hS, H => by
    refine ⟨fun h => absurd hr (by rw [h]; exact List.not_mem_nil), fun j hj => ?_⟩
    by_cases hji : j = i
    · subst hji
      exact hy.wpOp hi hS ⟨.inl hS, H⟩
    · have hmj := ready_mono hj hji
      have hjz : j ≠ z := fun e => hiz (last_alone hd hu (e ▸ hj) hr)
      match n, H with
      | 0, H => rw [H.1] at hmj; exact absurd hmj List.not_mem_nil
      | m + 1, H =>
        obtain ⟨hjun, oj, hoj, hall⟩ := mem_ready.1 hj
        have hnot : ∀ e ∈ oj.after, Region.binds md e = true → e.on ≠ i := fun e he hb heq => by
          have q1 := hall e he hb
          have q0 := (mem_ready.1 hr).1
          rw [heq] at q1
          rcases Nat.lt_or_ge i ls.size with h' | h'
          · simp [Array.getD, h'] at q0 q1
            rw [q1] at q0
            cases q0
          · simp only [Array.getD] at q0
            rw [dif_neg (by omega)] at q0
            cases q0
        refine wpOp_mono (fun a' w' h3 => ?_) (wpOp_putIf hoj (hfree j oj hoj hji hjun hnot) (fun cs b => hsel i oi cs b hi) (fun cs b => hsel j oj cs b hoj) hQ hy (H.2 j hmj))
        obtain ⟨hy', hS', hrest⟩ := h3
        have hSw : S w' := hS'.elim id fun e => absurd e hjz
        refine ⟨.inl hSw, wpAnyLh_first hu hiz hi hsel hQ m (ls.setIfInBounds j true) a' w' (hd.set hj) (fun k ok hk hki hun hno => ?_) (ready_mono hr (Ne.symm hji)) hy' hSw (by rw [Array.setIfInBounds_comm _ _ hji]; exact hrest)⟩
        refine hfree k ok hk hki ?_ hno
        by_cases hjk : j = k
        · subst hjk; exact hjun
        · rwa [getD_set_ne true hjk] at hun

/-- A world that meets S. -/
structure SW (S : World → Prop) where
  w : World
  h : S w
/-- The same, of rows of what was listed that are closed. -/
def wpL (P : Program) (md : Region.Mode) (ops : Array Oper) (Q : Exit → Act → World → Prop) (S : World → Prop) (z : Nat) (n : Nat) (ls : Array Bool) (a : Act) (w : World) : Prop := Down md ops ls → wpAnyLh P md ops Q S z n ls a w

/-- An operation that enters no function, and only reads. -/
def tameL (o : Oper) : Bool := match o.op with
  | .load _ _ | .nilCheck _ | .build _ _ => true
  | _ => tame o
theorem upon_of {C : World → Prop} {w : World} {v : Value} {r : Result Next} (h : Oper.quietUpon P C w v r) (hn : ∀ u w', r = .ok u w' → ∃ x, u = .value x) : r = .ok (.value v) w := by
  cases r with
  | ok u w' =>
    obtain ⟨x, rfl⟩ := hn u w' rfl
    simp only [Oper.quietUpon] at h
    rw [h.1, h.2]
  | halt x w' => simp [Oper.quietUpon] at h
theorem andThen_ok {α β : Type} {r : Result α} {f : α → World → Result β} {u : β} {w' : World} (h : r.andThen f = .ok u w') : ∃ a w'', f a w'' = .ok u w' := by
  cases r with
  | ok a w => exact ⟨a, w, h⟩
  | halt x w => simp [Result.andThen] at h
theorem tameL_value {o : Oper} {a : Act} {C : World → Prop} {w : World} {v : Value} (ht : tameL o = true) (h : o.quietAt P a C w v) : (execOp a.eval o).run P w = .ok (.value v) w := by
  unfold tameL at ht
  split at ht
  case h_1 t x ho => unfold Oper.quietAt at h; simp only [execOp, ho] at h ⊢; exact upon_value h
  case h_2 x ho =>
    unfold Oper.quietAt at h
    refine upon_of h fun u w' e => ?_
    simp only [execOp, ho] at e
    split at e
    case h_4 =>
      split at e
      · simp [runtimePanic] at e
      · simp only [Sem.run_bind, Sem.run_pure] at e
        obtain ⟨_, _, e⟩ := andThen_ok e
        obtain ⟨b, _, e⟩ := andThen_ok e
        split at e
        · simp only [Sem.run_bind] at e
          obtain ⟨_, _, e⟩ := andThen_ok e
          simp only [Sem.run_pure] at e; cases e; exact ⟨_, rfl⟩
        · simp only [Sem.run_pure] at e; cases e; exact ⟨_, rfl⟩
      · simp only [Sem.run_pure] at e; cases e; exact ⟨_, rfl⟩
    all_goals first | (simp [runtimePanic] at e; done) | (simp only [Sem.run_pure] at e; cases e; exact ⟨_, rfl⟩)
  case h_3 t x ho => unfold Oper.quietAt at h; simp only [execOp, ho] at h ⊢; exact upon_value h
  case h_4 => exact tame_value ht h

/-- May the operations k, k + 1, .. (m of them) be taken first, one behind the other? -/
def segL (md : Region.Mode) (ops : Array Oper) (z : Nat) : Nat → Nat → Array Bool → Bool
  | 0, _, _ => true
  | m + 1, k, ls => (Region.ready md ops ls).contains k && Region.free md ops ls k && (match ops[k]? with | some o => tameL o | none => false) && (k != z) && segL md ops z m (k + 1) (ls.setIfInBounds k true)
theorem wpL_seg (hu : usedB md ops z = true) (hs : Region.noSelect ops = true) (hQ : ∀ c (a : Act) d v w, Q (.panic c) (a.put d v) w → Q (.panic c) a w) (w : World) (hS : S w) (fuel : Nat) : ∀ (l : List Oper) (k : Nat) (ls : Array Bool) (a : Act),
    (∀ j, j < l.length → l[j]? = ops[k + j]?) → segL md ops z l.length k ls = true →
    wpQuiet P ops (fun w' => ∃ s : SW S, w' = s.w) (fun a' => wpL P md ops Q S z fuel (markN l.length k ls) a' w) l a → wpL P md ops Q S z (fuel + l.length) ls a w
  | [], _, _, _, _, _, h => h
  | o :: l, k, ls, a, hl, hB, h => fun hd => by
    have h0 : ops[k]? = some o := by simpa using (hl 0 (by simp)).symm
    simp only [List.length_cons, segL, Bool.and_eq_true, h0, bne_iff_ne, ne_eq] at hB
    obtain ⟨⟨⟨⟨hr, hf⟩, ht⟩, hkz⟩, hB'⟩ := hB
    have hr' : k ∈ Region.ready md ops ls := by simpa using hr
    have hl' : ∀ j, j < l.length → l[j]? = ops[k + 1 + j]? := fun j hj => by
      have := hl (j + 1) (by simp; omega)
      simpa [Nat.add_assoc, Nat.add_comm 1 j] using this
    have next : ∀ v, YieldsIf P ops S o v a → wpQuiet P ops (fun w' => ∃ s : SW S, w' = s.w) (fun a' => wpL P md ops Q S z fuel (markN (l.length + 1) k ls) a' w) l (a.put o.dst v) → wpAnyLh P md ops Q S z (fuel + (l.length + 1)) ls a w := fun v hy hK =>
      wpAnyLh_first hu hkz h0 (Region.noSelect_spec hs) (fun c a' w' hp => hQ c _ _ _ w' hp) (fuel + l.length) ls a w hd (Region.free_spec h0 hf) hr' hy hS
        (wpL_seg hu hs hQ w hS fuel l (k + 1) _ _ hl' hB' hK (hd.set hr'))
    unfold wpQuiet at h
    by_cases hw : Region.wanted o (yielded ops a.tmps) = true
    · rw [if_pos hw] at h
      obtain ⟨v, hv, hK⟩ := h
      exact next v (.inl ⟨hw, fun w' hs' => tameL_value ht (hv w' ⟨⟨w', hs'⟩, rfl⟩)⟩) hK
    · rw [if_neg hw] at h
      exact next undef (.inr ⟨by simpa using hw, rfl⟩) h
/-- The next m operations, from k on, are taken first. -/
theorem wpL_next {L : List Oper} (k m fuel : Nat) {ls : Array Bool} {a : Act} {w : World} (hB : (usedB md L.toArray z && Region.noSelect L.toArray && segL md L.toArray z m k ls && decide (k + m ≤ L.length)) = true)
    (hQ : ∀ c (a : Act) d v w, Q (.panic c) (a.put d v) w → Q (.panic c) a w) (hS : S w)
    (h : Nonempty (SW S) → wpQuiet P L.toArray (fun w' => ∃ s : SW S, w' = s.w) (fun a' => wpL P md L.toArray Q S z fuel (markN m k ls) a' w) ((L.drop k).take m) a) : wpL P md L.toArray Q S z (fuel + m) ls a w := by
  simp only [Bool.and_eq_true, decide_eq_true_eq] at hB
  obtain ⟨⟨⟨hu, hs⟩, hB⟩, hle⟩ := hB
  have hlen : ((L.drop k).take m).length = m := by simp; omega
  have hseg := wpL_seg (P := P) (md := md) hu hs hQ w hS fuel ((L.drop k).take m) k ls a (fun j hj => by
    rw [hlen] at hj
    simp [List.getElem?_take, hj, List.getElem?_drop]) (by rw [hlen]; exact hB) (by rw [hlen]; exact h ⟨⟨w, hS⟩⟩)
  rwa [hlen] at hseg
/-- The one operation that may come up; behind it the cells are as they were. -/
theorem wpL_one {L : List Oper} {i : Nat} {o : Oper} {fuel : Nat} {ls : Array Bool} {a : Act} {w : World} (hr : Region.ready md L.toArray ls = [i]) (ho : L[i]? = some o)
    (h : ∀ K : Act → World → Prop, (∀ a w, S w → wpL P md L.toArray Q S z fuel (ls.setIfInBounds i true) a w → K a w) → if Region.wanted o (yielded L.toArray a.tmps) = true then Oper.wp P o a w K Q else K (a.put o.dst undef) w) :
    wpL P md L.toArray Q S z (fuel + 1) ls a w := fun hd => by
  have hm : i ∈ Region.ready md L.toArray ls := by rw [hr]; exact List.mem_singleton.2 rfl
  refine ⟨fun h0 => absurd hm (by rw [h0]; exact List.not_mem_nil), fun j hj => ?_⟩
  rw [hr] at hj
  obtain rfl := List.mem_singleton.1 hj
  exact wpOp_step (by simpa using ho) fun K hK => h K fun a' w' hS hW => hK a' w' ⟨.inl hS, hW (hd.set hm)⟩
/-- The last operation. -/
theorem wpL_last {L : List Oper} {o : Oper} {fuel : Nat} {ls : Array Bool} {a : Act} {w : World} (hr : Region.ready md L.toArray ls = [z]) (hr' : Region.ready md L.toArray (ls.setIfInBounds z true) = []) (ho : L[z]? = some o)
    (h : ∀ K : Act → World → Prop, (∀ a w, Q .normal a w → K a w) → if Region.wanted o (yielded L.toArray a.tmps) = true then Oper.wp P o a w K Q else K (a.put o.dst undef) w) :
    wpL P md L.toArray Q S z (fuel + 1) ls a w := fun hd => by
  have hm : z ∈ Region.ready md L.toArray ls := by rw [hr]; exact List.mem_singleton.2 rfl
  refine ⟨fun h0 => absurd hm (by rw [h0]; exact List.not_mem_nil), fun j hj => ?_⟩
  rw [hr] at hj
  obtain rfl := List.mem_singleton.1 hj
  exact wpOp_step (by simpa using ho) fun K hK => h K fun a' w' hW => hK a' w' ⟨.inr rfl, by
    cases fuel with
    | zero => exact ⟨hr', hW⟩
    | succ n => exact ⟨fun _ => hW, by rw [hr']; intro i hi; cases hi⟩⟩
theorem regionH_start {L : List Oper} {id : Nat} {a : Act} {w : World} (hm : P.follows .mixedOrders = true) (n : Nat) (hn : L.length = n) (S : World → Prop) (z : Nat)
    (h : wpL P .any L.toArray Q S z n (Array.replicate n false) a w.drew) : (Code.region id L.toArray true).wp P Q a w :=
  wp_region_any hm (wpAny_of_Lh _ _ _ _ (by
    have := h (Down.start n)
    simpa [hn] using this))
end
end Go.Proofs.YtnhhdafhnngolaaDoor
