/-
  A REGION THAT DRAWS ITS ORDER, AND HOLDS CALLS THAT MAKE MEMORY: the operations that look at no memory are taken first, in the order of the text; a call that is then alone is taken in the world as it stands.
-/
import Derived.Deep.Quiet
import Derived.BigQuiet
import Derived.RegionTactic
namespace Go.Proofs.Ythdfoahnkkkbmaa
set_option linter.unusedVariables false
set_option linter.unusedSimpArgs false
open Go.RowKit

/-- An operation that enters no function. -/
def tame (o : Oper) : Bool := match o.op with
  | .move _ | .assign _ | .pick .. | .binOp .. | .unOp .. | .convert .. | .slice .. | .fieldAddr .. | .field .. | .indexAddr .. | .index .. | .extract .. => true
  | .call c => (match c.callee with | .builtin .len => true | _ => false)
  | _ => false

section
variable {P : Program} {ops : Array Oper} {md : Region.Mode}

theorem upon_value {s : Sem Value} {C : World → Prop} {w : World} {v : Value}
    (h : Oper.quietUpon P C w v ((do pure (Next.value (← s)) : Sem Next).run P w)) : (do pure (Next.value (← s)) : Sem Next).run P w = .ok (.value v) w := by
  simp only [Sem.run_bind, Sem.run_pure] at h ⊢
  cases hs : s.run P w with
  | ok x w' =>
    rw [hs] at h
    simp only [Result.andThen, Oper.quietUpon] at h ⊢
    obtain ⟨rfl, rfl⟩ := h
    rfl
  | halt x w' =>
    rw [hs] at h
    simp [Result.andThen, Oper.quietUpon] at h

theorem tame_value {o : Oper} {a : Act} {C : World → Prop} {w : World} {v : Value} (ht : tame o = true) (h : o.quietAt P a C w v) : (execOp a.eval o).run P w = .ok (.value v) w := by
  unfold Oper.quietAt at h
  unfold tame at ht
  split at ht
  case h_1 x ho => simp only [execOp, ho] at h ⊢; simp only [Sem.run_pure, Oper.quietUpon] at h ⊢; rw [h.2]
  case h_2 x ho => simp only [execOp, ho] at h ⊢; simp only [Sem.run_pure, Oper.quietUpon] at h ⊢; rw [h.2]
  case h_3 c x y ho =>
    simp only [execOp, ho] at h ⊢
    simp only [Sem.run_bind, Sem.run_pure] at h ⊢
    cases hs : (asBool (a.eval c)).run P w with
    | ok b w' =>
      rw [hs] at h
      simp only [Result.andThen, Oper.quietUpon] at h ⊢
      obtain ⟨rfl, rfl⟩ := h
      rfl
    | halt x w' =>
      rw [hs] at h
      simp [Result.andThen, Oper.quietUpon] at h
  case h_4 ho => simp only [execOp, ho] at h ⊢; exact upon_value h
  case h_5 ho => simp only [execOp, ho] at h ⊢; exact upon_value h
  case h_6 ho => simp only [execOp, ho] at h ⊢; exact upon_value h
  case h_7 ho => simp only [execOp, ho] at h ⊢; exact upon_value h
  case h_8 ho => simp only [execOp, ho] at h ⊢; exact upon_value h
  case h_9 ho => simp only [execOp, ho] at h ⊢; exact upon_value h
  case h_10 ho => simp only [execOp, ho] at h ⊢; exact upon_value h
  case h_11 ho => simp only [execOp, ho] at h ⊢; exact upon_value h
  case h_12 ho => simp only [execOp, ho] at h ⊢; exact upon_value h
  case h_13 c ho =>
    split at ht
    · rename_i hc
      simp only [execOp, ho, resolve, hc, Sem.run_bind, Sem.run_pure, Result.andThen_ok, invoke, builtin] at h ⊢
      have h' := upon_value (s := Builtin.len_ c.argTypes o.type (c.args.map a.eval)) (by simpa only [Sem.run_bind, Sem.run_pure] using h)
      simpa only [Sem.run_bind, Sem.run_pure] using h'
    · cases ht
  case h_14 => cases ht

/-- May the operations k, k + 1, .. (m of them) be taken first, one behind the other? -/
def segB (md : Region.Mode) (ops : Array Oper) : Nat → Nat → Array Bool → Bool
  | 0, _, _ => true
  | m + 1, k, listed => (Region.ready md ops listed).contains k && Region.free md ops listed k && (match ops[k]? with | some o => tame o | none => false) && segB md ops m (k + 1) (listed.setIfInBounds k true)
def markN : Nat → Nat → Array Bool → Array Bool
  | 0, _, listed => listed
  | m + 1, k, listed => markN m (k + 1) (listed.setIfInBounds k true)

variable {Q : Exit → Act → World → Prop}
theorem wpAny_seg (hs : Region.noSelect ops = true) (hQ : ∀ c (a : Act) d v w, Q (.panic c) (a.put d v) w → Q (.panic c) a w) (w : World) (fuel : Nat) : ∀ (l : List Oper) (k : Nat) (listed : Array Bool) (a : Act),
    (∀ j, j < l.length → l[j]? = ops[k + j]?) → segB md ops l.length k listed = true →
    wpQuiet P ops (fun _ => True) (fun a' => wpAny P md ops Q fuel (markN l.length k listed) a' w) l a → wpAny P md ops Q (fuel + l.length) listed a w
  | [], _, _, _, _, _, h => h
  | o :: l, k, listed, a, hl, hB, h => by
    have h0 : ops[k]? = some o := by simpa using (hl 0 (by simp)).symm
    simp only [List.length_cons, segB, Bool.and_eq_true, h0] at hB
    obtain ⟨⟨⟨hr, hf⟩, ht⟩, hB'⟩ := hB
    have hl' : ∀ j, j < l.length → l[j]? = ops[k + 1 + j]? := fun j hj => by
      have := hl (j + 1) (by simp; omega)
      simpa [Nat.add_assoc, Nat.add_comm 1 j] using this
    have next : ∀ v, Yields P ops o v a → wpQuiet P ops (fun _ => True) (fun a' => wpAny P md ops Q fuel (markN (l.length + 1) k listed) a' w) l (a.put o.dst v) → wpAny P md ops Q (fuel + (l.length + 1)) listed a w := fun v hy hK =>
      wpAny_take h0 hs hf hr (fun c a' w' hp => hQ c _ _ _ w' hp) hy (wpAny_seg hs hQ w fuel l (k + 1) _ _ hl' hB' hK)
    unfold wpQuiet at h
    by_cases hw : Region.wanted o (yielded ops a.tmps) = true
    · rw [if_pos hw] at h
      obtain ⟨v, hv, hK⟩ := h
      exact next v (.inl ⟨hw, fun w' => tame_value ht (hv w' trivial)⟩) hK
    · rw [if_neg hw] at h
      exact next undef (.inr ⟨by simpa using hw, rfl⟩) h

/-- The next m operations, from k on, are taken first. -/
theorem wpAny_next {L : List Oper} (k m fuel : Nat) {listed : Array Bool} {a : Act} {w : World} (hB : (Region.noSelect L.toArray && segB md L.toArray m k listed && decide (k + m ≤ L.length)) = true)
    (hQ : ∀ c (a : Act) d v w, Q (.panic c) (a.put d v) w → Q (.panic c) a w)
    (h : wpQuiet P L.toArray (fun _ => True) (fun a' => wpAny P md L.toArray Q fuel (markN m k listed) a' w) ((L.drop k).take m) a) : wpAny P md L.toArray Q (fuel + m) listed a w := by
  simp only [Bool.and_eq_true, decide_eq_true_eq] at hB
  obtain ⟨⟨hs, hB⟩, hle⟩ := hB
  have hlen : ((L.drop k).take m).length = m := by simp; omega
  have hseg := wpAny_seg (P := P) (md := md) hs hQ w fuel ((L.drop k).take m) k listed a (fun j hj => by
    rw [hlen] at hj
    simp [List.getElem?_take, hj, List.getElem?_drop]) (by rw [hlen]; exact hB) (by rw [hlen]; exact h)
  rwa [hlen] at hseg

/-- The one operation that may come up. -/
theorem wpAny_one {L : List Oper} {i : Nat} {o : Oper} {fuel : Nat} {listed : Array Bool} {a : Act} {w : World} (hr : Region.ready md L.toArray listed = [i]) (ho : L[i]? = some o)
    (h : ∀ K : Act → World → Prop, (∀ a w, wpAny P md L.toArray Q fuel (listed.setIfInBounds i true) a w → K a w) → if Region.wanted o (yielded L.toArray a.tmps) = true then Oper.wp P o a w K Q else K (a.put o.dst undef) w) :
    wpAny P md L.toArray Q (fuel + 1) listed a w :=
  wpAny_ready hr (by simp) (AllReady.cons (by simpa using ho) h AllReady.nil)

theorem region_start {L : List Oper} {id : Nat} {a : Act} {w : World} (hm : P.follows .mixedOrders = true) (n : Nat) (hn : L.length = n)
    (h : wpAny P .any L.toArray Q n (Array.replicate n false) a w.drew) : (Code.region id L.toArray true).wp P Q a w :=
  wp_region_any hm (by simpa [hn] using h)
end
end Go.Proofs.Ythdfoahnkkkbmaa
