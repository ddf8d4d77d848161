/-
  append ONTO rows of one-cell elements that lie outside X.
-/
import Derived.Test.YthdfoahnkkkbmaaDState
namespace Go.Proofs.Ythdfoahnkkkbmaa
set_option linter.unusedVariables false
set_option linter.unusedSimpArgs false
open Go.RowKit Go.Maps

section
variable {P : Program} {ops : Array Oper} {rest : List Oper} {o : Oper} {a : Act} {Q : Exit → Act → World → Prop}
/-- 'x = append(x, u)'. -/
theorem wp_rowpush {K : Act → World → Prop} (s x : Operand) (t : TypeId) (ho : o.op = .call { callee := .builtin .append, args := #[s, x], argTypes := #[t, t] }) {e : TypeId} {bytes : Nat} (hT : RowT P t e 1 bytes)
    (w : World) (X : Nat → Prop) (v : Value) (n : Nat) (xs : List Value) (u : Value) (hs : a.eval s = v) (hown : Row w X e v n xs) (hx : a.eval x = .slice (some ⟨w.heap.size, 0, none⟩) 1 1) (h1 : u.oneCell' = true) (hX : ∀ b, X b → b < w.heap.size)
    (hlen : n ≤ 1099511627776) (hby : bytes ≤ 64)
    (h : ∀ v' w', Row w' X e v' (n + 1) (xs ++ [u]) → (w.alloc (.cells #[u] e)).grownBy w' v.ownBlock → (v'.ownBlock = v.ownBlock ∨ v'.ownBlock = some (w.heap.size + 1)) → K (a.put o.dst v') w') : o.wp P a (w.alloc (.cells #[u] e)) K Q := by
  obtain ⟨ht, i, z, hi, hz, hsize, hbytes, hzs, hpos⟩ := hT
  have hbb : (n + 1) * bytes ≤ 140737488355328 := Nat.le_trans (Nat.mul_le_mul (show n + 1 ≤ 1099511627777 by omega) hby) (by decide)
  obtain ⟨v', w', hr, h2, h3, _, h5⟩ := run_append_own_at (P := P) (w.alloc (.cells #[u] e)) 0 t o.type e i z 1 bytes ht hi hz hsize hbytes hzs hpos v n xs (hown.1.alloc _) ⟨w.heap.size, 0, none⟩ 1 1 [u] rfl
    (fun j y hj => by
      rw [Addr.add_lit, Nat.zero_add, World.cell?_alloc_at _ _ _ _ rfl]
      simpa using hj) (fun y hy => by rw [List.mem_singleton.1 hy]; exact h1) (by unfold maxLen; omega) hbb (Nat.zero_le _)
  unfold Oper.wp execOp
  simp only [ho, resolve, invoke, builtin, Sem.run_bind, Sem.run_pure, Result.andThen_ok, List.map_toArray, List.map_cons, List.map_nil, hs, hx, hr]
  refine h v' w' ⟨h2, fun j hj => ?_⟩ h3 (by simpa using h5)
  rcases h5 with h5 | h5
  · exact hown.2 j (by rw [← h5]; exact hj)
  · intro hXj
    have := hX j hXj
    rw [h5] at hj
    simp at hj
    omega
theorem wpList_rowpush (hgd : Region.wanted o (yielded ops a.tmps) = true) (s x : Operand) (t : TypeId) (ho : o.op = .call { callee := .builtin .append, args := #[s, x], argTypes := #[t, t] }) {e : TypeId} {bytes : Nat} (hT : RowT P t e 1 bytes)
    (w : World) (X : Nat → Prop) (v : Value) (n : Nat) (xs : List Value) (u : Value) (hs : a.eval s = v) (hown : Row w X e v n xs) (hx : a.eval x = .slice (some ⟨w.heap.size, 0, none⟩) 1 1) (h1 : u.oneCell' = true) (hX : ∀ b, X b → b < w.heap.size)
    (hlen : n ≤ 1099511627776) (hby : bytes ≤ 64)
    (h : ∀ v' w', Row w' X e v' (n + 1) (xs ++ [u]) → (w.alloc (.cells #[u] e)).grownBy w' v.ownBlock → (v'.ownBlock = v.ownBlock ∨ v'.ownBlock = some (w.heap.size + 1)) → wpList P ops Q rest (a.put o.dst v') w') : wpList P ops Q (o :: rest) a (w.alloc (.cells #[u] e)) :=
  wpList_wanted hgd fun _ hK => wp_rowpush s x t ho hT w X v n xs u hs hown hx h1 hX hlen hby fun v' w' h2 h3 h4 => hK _ _ (h v' w' h2 h3 h4)
/-- 'x = append(x, us...)', us shown. -/
theorem wpList_rowmore (hgd : Region.wanted o (yielded ops a.tmps) = true) (s x : Operand) (t : TypeId) (ho : o.op = .call { callee := .builtin .append, args := #[s, x], argTypes := #[t, t] }) {e : TypeId} {bytes : Nat} (hT : RowT P t e 1 bytes)
    (w : World) (X : Nat → Prop) (v : Value) (n : Nat) (xs us : List Value) (hs : a.eval s = v) (hown : Row w X e v n xs) (U : Nat) (A : Option Addr) (m c : Nat) (hx : a.eval x = .slice A m c) (hsh : Sh w U A m us) (h1 : ∀ u ∈ us, u.oneCell' = true) (hX : ∀ b, X b → b < w.heap.size)
    (hlen : n + m ≤ 1099511627776) (hby : bytes ≤ 64)
    (h : ∀ v' w', Row w' X e v' (n + m) (xs ++ us) → w.grownBy w' v.ownBlock → (v'.ownBlock = v.ownBlock ∨ v'.ownBlock = some w.heap.size) → wpList P ops Q rest (a.put o.dst v') w') : wpList P ops Q (o :: rest) a w := by
  obtain ⟨ht, i, z, hi, hz, hsize, hbytes, hzs, hpos⟩ := hT
  have hbb : (n + m) * bytes ≤ 140737488355328 := Nat.le_trans (Nat.mul_le_mul hlen hby) (by decide)
  have hful : ∀ ad : Addr, (∀ k u, us[k]? = some u → w.cell? (ad.add k) = some u) → a.eval x = .slice (some ad) m c → wpList P ops Q (o :: rest) a w := by
    intro ad hc hx'
    refine wpList_wanted hgd fun K hK => ?_
    obtain ⟨v', w', hr, h2, h3, _, h5⟩ := run_append_own_at (P := P) w 0 t o.type e i z 1 bytes ht hi hz hsize hbytes hzs hpos v n xs hown.1 ad m c us (by have := hsh.len; omega) hc h1 (by unfold maxLen; omega) hbb (Nat.zero_le _)
    unfold Oper.wp execOp
    simp only [ho, resolve, invoke, builtin, Sem.run_bind, Sem.run_pure, Result.andThen_ok, List.map_toArray, List.map_cons, List.map_nil, hs, hx', hr]
    refine hK _ _ (h v' w' ⟨h2, fun j hj => ?_⟩ h3 h5)
    rcases h5 with h5 | h5
    · exact hown.2 j (by rw [← h5]; exact hj)
    · intro hXj
      have := hX j hXj
      rw [h5] at hj
      simp at hj
      omega
  rcases Nat.eq_zero_or_pos m with h0 | h0
  · subst h0
    have hn : us = [] := List.eq_nil_of_length_eq_zero hsh.len
    subst hn
    rcases A with _ | ad
    · refine wpList_wanted hgd fun K hK => ?_
      have hrun : (Builtin.append_ #[t, t] o.type #[v, .slice none 0 c]).run P w = .ok v w := by
        rcases hown.1.2 with ⟨rfl, rfl⟩ | ⟨g, cap, cur, rfl, _, _, hnc, _⟩
        · simp [Builtin.append_, run_underlying ht, sizeOf, typeInfo, hi, Builtin.lenOf, Builtin.firstCells]
        · simp [Builtin.append_, run_underlying ht, sizeOf, typeInfo, hi, Builtin.lenOf, Builtin.firstCells, hnc, storeCells]
      unfold Oper.wp
      simp [execOp, ho, resolve, invoke, builtin, hs, hx, hrun, Result.andThen]
      exact hK _ _ (h v w (by simpa using hown) (grown_refl _ _) (.inl rfl))
    · exact hful ad (by simp) hx
  · obtain ⟨b, off, rfl, _, hc⟩ := hsh.2 h0
    refine hful ⟨b, off, none⟩ (fun k u hu => ?_) hx
    rw [Addr.add_lit]
    exact hc k u hu
end
end Go.Proofs.Ythdfoahnkkkbmaa
