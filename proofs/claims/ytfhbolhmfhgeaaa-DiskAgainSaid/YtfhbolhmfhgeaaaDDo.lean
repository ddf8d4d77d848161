/-
  append ONTO a disk's rows; CONTRACTS OF the turns' closures and of 'do'.
-/
import Derived.Test.YtfhbolhmfhgeaaaDBegin
import Derived.Test.YtfhbolhmfhgeaaaDCopy
namespace Go.Proofs.Ytfhbolhmfhgeaaa
set_option linter.unusedVariables false
set_option linter.unusedSimpArgs false
open Go.RowKit Go.Maps

section
variable {P : Program} {ops : Array Oper} {rest : List Oper} {o : Oper} {a : Act} {Q : Exit → Act → World → Prop}
/-- 'x = append(x, u)'. -/
theorem wp_rowpush {K : Act → World → Prop} (s x : Operand) (t : TypeId) (ho : o.op = .call { callee := .builtin .append, args := #[s, x], argTypes := #[t, t] }) {e : TypeId} {bytes : Nat} (hT : RowT P t e 1 bytes)
    (w : World) (X : Nat → Prop) (v : Value) (n : Nat) (xs : List Value) (u : Value) (hs : a.eval s = v) (hown : Row w X e v n xs) (hx : a.eval x = .slice (some ⟨w.heap.size, 0, none⟩) 1 1) (h1 : u.oneCell' = true) (hX : ∀ b, X b → b < w.heap.size)
    (hlen : n ≤ 1099511627776) (hby : bytes ≤ 64)
    (h : ∀ v' w', Row w' X e v' (n + 1) (xs ++ [u]) → (w.alloc (.cells #[u] e)).grownBy w' v.ownBlock → (v'.ownBlock = v.ownBlock ∨ v'.ownBlock = some (w.heap.size + 1)) → K (a.put o.dst v') w') : o.wp P a (w.alloc (.cells #[u] e)) K Q := by
  obtain ⟨ht, i, z, hi, hz, hsize, hbytes, hzs, hpos⟩ := hT
  have hbb : (n + 1) * bytes ≤ 140737488355328 := Nat.le_trans (Nat.mul_le_mul (show n + 1 ≤ 1099511627777 by omega) hby) (by decide)
  obtain ⟨v', w', hr, h2, h3, _, h5⟩ := run_append_own_at (P := P) (w.alloc (.cells #[u] e)) 0 t o.type e i z 1 bytes ht hi hz hsize hbytes hzs hpos v n xs (hown.1.alloc _) ⟨w.heap.size, 0, none⟩ 1 1 [u] rfl
    (fun j y hj => by
      rw [Addr.add_lit, Nat.zero_add, World.cell?_alloc_at _ _ _ _ rfl]
      simpa using hj) (fun y hy => by rw [List.mem_singleton.1 hy]; exact h1) (by unfold maxLen; omega) hbb (Nat.zero_le _)
  unfold Oper.wp execOp
  simp only [ho, resolve, invoke, builtin, Sem.run_bind, Sem.run_pure, Result.andThen_ok, List.map_toArray, List.map_cons, List.map_nil, hs, hx, hr]
  refine h v' w' ⟨h2, fun j hj => ?_⟩ h3 (by simpa using h5)
  rcases h5 with h5 | h5
  · exact hown.2 j (by rw [← h5]; exact hj)
  · intro hXj
    have := hX j hXj
    rw [h5] at hj
    simp at hj
    omega
theorem wpList_rowpush (hgd : Region.wanted o (yielded ops a.tmps) = true) (s x : Operand) (t : TypeId) (ho : o.op = .call { callee := .builtin .append, args := #[s, x], argTypes := #[t, t] }) {e : TypeId} {bytes : Nat} (hT : RowT P t e 1 bytes)
    (w : World) (X : Nat → Prop) (v : Value) (n : Nat) (xs : List Value) (u : Value) (hs : a.eval s = v) (hown : Row w X e v n xs) (hx : a.eval x = .slice (some ⟨w.heap.size, 0, none⟩) 1 1) (h1 : u.oneCell' = true) (hX : ∀ b, X b → b < w.heap.size)
    (hlen : n ≤ 1099511627776) (hby : bytes ≤ 64)
    (h : ∀ v' w', Row w' X e v' (n + 1) (xs ++ [u]) → (w.alloc (.cells #[u] e)).grownBy w' v.ownBlock → (v'.ownBlock = v.ownBlock ∨ v'.ownBlock = some (w.heap.size + 1)) → wpList P ops Q rest (a.put o.dst v') w') : wpList P ops Q (o :: rest) a (w.alloc (.cells #[u] e)) :=
  wpList_wanted hgd fun _ hK => wp_rowpush s x t ho hT w X v n xs u hs hown hx h1 hX hlen hby fun v' w' h2 h3 h4 => hK _ _ (h v' w' h2 h3 h4)
/-- 'x = append(x, us...)', us shown. -/
theorem wpList_rowmore (hgd : Region.wanted o (yielded ops a.tmps) = true) (s x : Operand) (t : TypeId) (ho : o.op = .call { callee := .builtin .append, args := #[s, x], argTypes := #[t, t] }) {e : TypeId} {bytes : Nat} (hT : RowT P t e 1 bytes)
    (w : World) (X : Nat → Prop) (v : Value) (n : Nat) (xs us : List Value) (hs : a.eval s = v) (hown : Row w X e v n xs) (U : Nat) (A : Option Addr) (m c : Nat) (hx : a.eval x = .slice A m c) (hsh : Sh w U A m us) (h1 : ∀ u ∈ us, u.oneCell' = true) (hX : ∀ b, X b → b < w.heap.size)
    (hlen : n + m ≤ 1099511627776) (hby : bytes ≤ 64)
    (h : ∀ v' w', Row w' X e v' (n + m) (xs ++ us) → w.grownBy w' v.ownBlock → (v'.ownBlock = v.ownBlock ∨ v'.ownBlock = some w.heap.size) → wpList P ops Q rest (a.put o.dst v') w') : wpList P ops Q (o :: rest) a w := by
  obtain ⟨ht, i, z, hi, hz, hsize, hbytes, hzs, hpos⟩ := hT
  have hbb : (n + m) * bytes ≤ 140737488355328 := Nat.le_trans (Nat.mul_le_mul hlen hby) (by decide)
  have hful : ∀ ad : Addr, (∀ k u, us[k]? = some u → w.cell? (ad.add k) = some u) → a.eval x = .slice (some ad) m c → wpList P ops Q (o :: rest) a w := by
    intro ad hc hx'
    refine wpList_wanted hgd fun K hK => ?_
    obtain ⟨v', w', hr, h2, h3, _, h5⟩ := run_append_own_at (P := P) w 0 t o.type e i z 1 bytes ht hi hz hsize hbytes hzs hpos v n xs hown.1 ad m c us (by have := hsh.len; omega) hc h1 (by unfold maxLen; omega) hbb (Nat.zero_le _)
    unfold Oper.wp execOp
    simp only [ho, resolve, invoke, builtin, Sem.run_bind, Sem.run_pure, Result.andThen_ok, List.map_toArray, List.map_cons, List.map_nil, hs, hx', hr]
    refine hK _ _ (h v' w' ⟨h2, fun j hj => ?_⟩ h3 h5)
    rcases h5 with h5 | h5
    · exact hown.2 j (by rw [← h5]; exact hj)
    · intro hXj
      have := hX j hXj
      rw [h5] at hj
      simp at hj
      omega
  rcases Nat.eq_zero_or_pos m with h0 | h0
  · subst h0
    have hn : us = [] := List.eq_nil_of_length_eq_zero hsh.len
    subst hn
    rcases A with _ | ad
    · refine wpList_wanted hgd fun K hK => ?_
      have hrun : (Builtin.append_ #[t, t] o.type #[v, .slice none 0 c]).run P w = .ok v w := by
        rcases hown.1.2 with ⟨rfl, rfl⟩ | ⟨g, cap, cur, rfl, _, _, hnc, _⟩
        · simp [Builtin.append_, run_underlying ht, sizeOf, typeInfo, hi, Builtin.lenOf, Builtin.firstCells]
        · simp [Builtin.append_, run_underlying ht, sizeOf, typeInfo, hi, Builtin.lenOf, Builtin.firstCells, hnc, storeCells]
      unfold Oper.wp
      simp [execOp, ho, resolve, invoke, builtin, hs, hx, hrun, Result.andThen]
      exact hK _ _ (h v w (by simpa using hown) (grown_refl _ _) (.inl rfl))
    · exact hful ad (by simp) hx
  · obtain ⟨b, off, rfl, _, hc⟩ := hsh.2 h0
    refine hful ⟨b, off, none⟩ (fun k u hu => ?_) hx
    rw [Addr.add_lit]
    exact hc k u hu
end

theorem rowT : RowT Try.prog 70 99 1 8 := RowT.mk (z := .nilFunc) Try.underlying70 (by kernel_rfl) rfl (by omega)
theorem rowF : RowT Try.prog 69 78 1 8 := RowT.mk (z := .pointer none) Try.underlying69 (by kernel_rfl) rfl (by omega)

/-! ### the turns' closures -/
theorem create1_any (nm p q b : Nat) (s : ByteArray) (N : NL) (w : World) (h : NamesAt w nm N) (hp : Blk w p 78 [ptrTo b]) (hq : Blk w q 9 [.string s]) (hs : s.size ≤ maxLen) (hn : N.length ≤ 1000000) :
    Calls Try.prog 53 #[.map (some nm), ptrTo p, ptrTo q] w fun e w' => e = .returned (.tuple #[]) ∧ NamesAt w' nm (nput s.data.toList b N) ∧ w.grownBy w' (some nm) := by
  have cp : w.cell? ⟨p, 0, none⟩ = some (ptrTo b) := hp.cell 0
  have cq : w.cell? ⟨q, 0, none⟩ = some (.string s) := hq.cell 0
  have hlen : N.length < maxLen := by unfold maxLen; omega
  unfold ptrTo at *
  go_enter Try.func53, Try.ntmps53
  go_wp2_with (first
    | (at_mapUpdate; refine wpList_put _ rfl _ _ _ rfl rfl h hlen rfl hs rfl ?_; intro w1 h1 hg1)
    | go_in)
  first | go_ret | go_end0
  exact ⟨rfl, h1, hg1⟩
theorem rename1_any (nm p q b : Nat) (s r : ByteArray) (N : NL) (w : World) (h : NamesAt w nm N) (hp : Blk w p 9 [.string s]) (hq : Blk w q 9 [.string r]) (hs : s.size ≤ maxLen) (hr : r.size ≤ maxLen) (hb : nat? s.data.toList N = some b) (hn : N.length ≤ 1000000) :
    Calls Try.prog 61 #[.map (some nm), ptrTo p, ptrTo q] w fun e w' => e = .returned (.tuple #[]) ∧ NamesAt w' nm (nput r.data.toList b (ndel s.data.toList N)) ∧ w.grownBy w' (some nm) := by
  have hpn := h.ne_blk hp
  have hqn := h.ne_blk hq
  have cp : w.cell? ⟨p, 0, none⟩ = some (.string s) := hp.cell 0
  have cq : w.cell? ⟨q, 0, none⟩ = some (.string r) := hq.cell 0
  have HL := Lib.hid (show ptrOf (nat? s.data.toList N) = ptrTo b by rw [hb]; rfl)
  have hlen : (ndel s.data.toList N).length < maxLen := by
    have := len_ndel_le s.data.toList N
    unfold maxLen
    omega
  have K := Lib.hid (fun w1 (hg : w.grownBy w1 (some nm)) => ((hp.keep hg (by simpa using hpn)).cell 0 : w1.cell? ⟨p, 0, none⟩ = some (.string s)))
  have K2 := Lib.hid (fun w1 (hg : w.grownBy w1 (some nm)) => ((hq.keep hg (by simpa using hqn)).cell 0 : w1.cell? ⟨q, 0, none⟩ = some (.string r)))
  clear hpn hqn hb
  unfold ptrTo
  go_enter Try.func61, Try.ntmps61
  go_wp2_with (first
    | (at_lookup; refine wpList_look _ rfl _ _ rfl rfl h rfl hs ?_; rw [HL.out])
    | (at_delete; refine wpList_del _ rfl _ _ rfl rfl h rfl hs ?_; intro w1 h1 hg1; have c1 := K.out w1 hg1; have c2 := K2.out w1 hg1)
    | (at_mapUpdate; refine wpList_put _ rfl _ _ _ rfl rfl h1 hlen rfl hr rfl ?_; intro w2 h2 hg2)
    | go_in)
  first | go_ret | go_end0
  exact ⟨rfl, h2, grown_trans hg1 hg2⟩
theorem remove1_any (nm p : Nat) (s : ByteArray) (N : NL) (w : World) (h : NamesAt w nm N) (hp : Blk w p 9 [.string s]) (hs : s.size ≤ maxLen) :
    Calls Try.prog 62 #[.map (some nm), ptrTo p] w fun e w' => e = .returned (.tuple #[]) ∧ NamesAt w' nm (ndel s.data.toList N) ∧ w.grownBy w' (some nm) := by
  have cp : w.cell? ⟨p, 0, none⟩ = some (.string s) := hp.cell 0
  unfold ptrTo
  go_enter Try.func62, Try.ntmps62
  go_wp2_with (first
    | (at_delete; refine wpList_del _ rfl _ _ rfl rfl h rfl hs ?_; intro w1 h1 hg1)
    | go_in)
  first | go_ret | go_end0
  exact ⟨rfl, h1, hg1⟩
/-- A turn's closure does the turn. -/
def Turns (w : World) (nm : Nat) (N : NL) (t : Tn) (e : Ending) (w' : World) : Prop := e = .returned (.tuple #[]) ∧ NamesAt w' nm (t.act N) ∧ w.grownBy w' (some nm)
end Go.Proofs.Ytfhbolhmfhgeaaa
