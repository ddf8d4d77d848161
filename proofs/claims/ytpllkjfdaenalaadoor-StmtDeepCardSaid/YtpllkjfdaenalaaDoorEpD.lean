/-
  THE WORDS OF A TEXT WITH BLANKS AHEAD are those of the text, as many places later; so is what Parse says of it.
-/
import Derived.Test.YtpllkjfdaenalaaDoorEpB
import Derived.Test.YtpllkjfdaenalaaDoorEpI
namespace Go.Proofs.YtpllkjfdaenalaaDoor
set_option linter.unusedVariables false
set_option linter.unusedSimpArgs false
open Go.RowKit

theorem wdT_shift (P T : ByteArray) (L : List Tk) (k : Nat) (hk : P.size = k) (hL : ∀ t ∈ L, 0 ≤ t.2.1 ∧ 0 ≤ t.2.2) (i : Nat) : wdT (P ++ T) (L.map (shift (k : Int))) i = wdT T L i := by
  unfold wdT
  rw [List.getElem?_map]
  cases h : L[i]? with
  | none => rfl
  | some t =>
    obtain ⟨h1, h2⟩ := hL t (List.mem_of_getElem? h)
    show (P ++ T).extract (t.2.1 + (k : Int)).toNat (t.2.2 + (k : Int)).toNat = T.extract t.2.1.toNat t.2.2.toNat
    rw [show (t.2.1 + (k : Int)).toNat = k + t.2.1.toNat by omega, show (t.2.2 + (k : Int)).toNat = k + t.2.2.toNat by omega]
    exact ByteArray.extract_append_size_add' hk.symm
theorem find_shift (L : List Tk) (c : Int) : ((L.map (shift c)).find? fun t => t.1 == 5) = ((L.find? fun t => t.1 == 5)).map (shift c) := by
  rw [List.find?_map]
  rfl
theorem isBad_shift (L : List Tk) (c : Int) : isBad (L.map (shift c)) = isBad L := by
  unfold isBad
  rw [find_shift, Option.isSome_map]
theorem badOf_shift (L : List Tk) (c : Int) (h : isBad L = true) : (badOf (L.map (shift c))).2.1 = (badOf L).2.1 + c := by
  unfold isBad at h
  unfold badOf
  rw [find_shift]
  obtain ⟨t, ht⟩ := Option.isSome_iff_exists.1 h
  rw [ht]
  rfl
section
variable {P : Program} {ops : Array Oper} {rest : List Oper} {o : Oper} {a : Act} {Q : Exit → Act → World → Prop}
/-- Append of many, its frame told whole. -/
theorem wp_more_g {K : Act → World → Prop} (s x : Operand) (t : TypeId) (ho : o.op = .call { callee := .builtin .append, args := #[s, x], argTypes := #[t, t] })
    {e : TypeId} {bytes : Nat} (hT : RowT P t e 1 bytes) (w : World) (B : Nat) (v : Value) (n : Nat) (xs us : List Value) (hs : a.eval s = v) (hown : Own w B e 1 v n xs)
    (U : Nat) (A : Option Addr) (m c : Nat) (hx : a.eval x = .slice A m c) (hsh : Sh w U A m us) (h1 : ∀ u ∈ us, u.oneCell' = true)
    (hlen : n + m ≤ 1099511627776) (hby : bytes ≤ 64)
    (h : ∀ v' w', Own w' B e 1 v' (n + m) (xs ++ us) → w.grownBy w' v.ownBlock → K (a.put o.dst v') w') :
    o.wp P a w K Q := by
  obtain ⟨ht, i, z, hi, hz, hsize, hbytes, hzs, hpos⟩ := hT
  have hbb : (n + m) * bytes ≤ 140737488355328 := Nat.le_trans (Nat.mul_le_mul hlen hby) (by decide)
  have hful : ∀ ad : Addr, (∀ k u, us[k]? = some u → w.cell? (ad.add k) = some u) → a.eval x = .slice (some ad) m c → o.wp P a w K Q := by
    intro ad hc hx'
    refine wp_append_own _ s x t ho B e i z 1 bytes ht hi hz hsize hbytes hzs hpos v n xs hs hown.1 ad m c us hx' (by have := hsh.len; omega) hc h1
      (by unfold maxLen; omega) hbb hown.2 ?_
    intro v' w' ho' hg' _
    exact h v' w' ⟨ho', Nat.le_trans hown.2 hg'.size⟩ hg'
  rcases Nat.eq_zero_or_pos m with h0 | h0
  · subst h0
    have hn : us = [] := List.eq_nil_of_length_eq_zero hsh.len
    subst hn
    rcases A with _ | ad
    · have hrun : (Builtin.append_ #[t, t] o.type #[v, .slice none 0 c]).run P w = .ok v w := by
        rcases hown.1.2 with ⟨rfl, rfl⟩ | ⟨g, cap, cur, rfl, _, _, hnc, _⟩
        · simp [Builtin.append_, run_underlying ht, sizeOf, typeInfo, hi, Builtin.lenOf, Builtin.firstCells]
        · simp [Builtin.append_, run_underlying ht, sizeOf, typeInfo, hi, Builtin.lenOf, Builtin.firstCells, hnc, storeCells]
      unfold Oper.wp
      simp [execOp, ho, resolve, invoke, builtin, hs, hx, hrun, Result.andThen]
      exact h v w (by simpa using hown) (World.grownBy.refl _ _)
    · exact hful ad (by simp) hx
  · obtain ⟨b, off, rfl, _, hc⟩ := hsh.2 h0
    refine hful ⟨b, off, none⟩ (fun k u hu => ?_) hx
    rw [Addr.add_lit]
    exact hc k u hu
theorem wpList_more_g (hgd : Region.wanted o (yielded ops a.tmps) = true) (s x : Operand) (t : TypeId) (ho : o.op = .call { callee := .builtin .append, args := #[s, x], argTypes := #[t, t] })
    {e : TypeId} {bytes : Nat} (hT : RowT P t e 1 bytes) (w : World) (B : Nat) (v : Value) (n : Nat) (xs us : List Value) (hs : a.eval s = v) (hown : Own w B e 1 v n xs)
    (U : Nat) (A : Option Addr) (m c : Nat) (hx : a.eval x = .slice A m c) (hsh : Sh w U A m us) (h1 : ∀ u ∈ us, u.oneCell' = true)
    (hlen : n + m ≤ 1099511627776) (hby : bytes ≤ 64)
    (h : ∀ v' w', Own w' B e 1 v' (n + m) (xs ++ us) → w.grownBy w' v.ownBlock → wpList P ops Q rest (a.put o.dst v') w') :
    wpList P ops Q (o :: rest) a w :=
  wpList_wanted hgd fun _ hK => wp_more_g s x t ho hT w B v n xs us hs hown U A m c hx hsh h1 hlen hby fun v' w' h2 h3 => hK _ _ (h v' w' h2 h3)
end
/-- Blanks ahead. -/
def spaced (k : Nat) (bs : List Int) : List Int := List.replicate k 32 ++ bs
theorem live_spaced (k : Nat) (bs : List Int) : live (spaced k bs) 0 = (live bs 0).map (shift (k : Int)) := by
  have h : ∀ j, j ≤ k → live (spaced k bs) 0 = live (spaced k bs) j := by
    intro j
    induction j with
    | zero => intro _; rfl
    | succ j ih =>
      intro hj
      rw [ih (by omega)]
      refine live_blank (c := 32) (r := List.replicate (k - (j + 1)) 32 ++ bs) ?_ (by decide)
      unfold spaced
      rw [List.drop_append_of_le_length (by simp; omega), List.drop_replicate, show k - j = (k - (j + 1)) + 1 by omega, List.replicate_succ]
      rfl
  rw [h k (Nat.le_refl _)]
  have := live_shift (List.replicate k 32) bs 0
  rw [List.length_replicate] at this
  exact this
theorem byt8_spaced {k : Nat} {bs : List Int} (h : Byt8 bs) : Byt8 (spaced k bs) := fun x hx => by
  rcases List.mem_append.1 hx with hx | hx
  · rw [List.eq_of_mem_replicate hx]; decide
  · exact h x hx
theorem late_spaced {k : Nat} {bs : List Int} (h : Byt8 bs) : Late (rowT (strOfNums bs) (live bs 0)) (rowT (strOfNums (spaced k bs)) (live (spaced k bs) 0)) (k : Int) := by
  have hT : strOfNums (spaced k bs) = strOfNums (List.replicate k 32) ++ strOfNums bs := (str_append _ _).symm
  have hs : (strOfNums (List.replicate k 32)).size = k := by rw [str_len, List.length_replicate]
  rw [live_spaced, hT]
  have hL : ∀ t ∈ live bs 0, 0 ≤ t.2.1 ∧ 0 ≤ t.2.2 := fun t ht => by
    obtain ⟨v, _, rfl⟩ := mem_live ht
    exact ⟨by show (0 : Int) ≤ (v : Int); omega, by show (0 : Int) ≤ ((v + tl (bs.drop v) : Nat) : Int); omega⟩
  refine ⟨fun i => wdT_shift _ _ _ k hs hL i, fun i => ?_, fun i => ?_, fun i => ?_⟩
  · show (match ((live bs 0).map (shift (k : Int)))[i]? with | some t => t.1 | none => 0) = (match (live bs 0)[i]? with | some t => t.1 | none => 0)
    rw [List.getElem?_map]
    cases (live bs 0)[i]? <;> rfl
  · show idB _ = idB _
    rw [wdT_shift _ _ _ k hs hL i]
  · show (match ((live bs 0).map (shift (k : Int)))[i]? with | some t => t.2.1 | none => (((strOfNums (List.replicate k 32) ++ strOfNums bs).size : Nat) : Int)) = (match (live bs 0)[i]? with | some t => t.2.1 | none => ((strOfNums bs).size : Int)) + (k : Int)
    rw [List.getElem?_map]
    cases (live bs 0)[i]? with
    | some t => rfl
    | none =>
      show (((strOfNums (List.replicate k 32) ++ strOfNums bs).size : Nat) : Int) = ((strOfNums bs).size : Int) + (k : Int)
      rw [ByteArray.size_append, hs]
      omega
theorem parse_late {R R' : Rw} {L L' : List Tk} {c : Int} (hL : Late R R' c) (hn : R'.n = R.n) (hb : isBad L' = isBad L) (hbo : isBad L = true → (badOf L').2.1 = (badOf L).2.1 + c) (f : Nat) :
    (parseG R' L' f).2.2 = (parseG R L f).2.2 ∧ (parseG R' L' f).2.1 = (parseG R L f).2.1 + c ∧ ((parseG R L f).2.2 = 0 → (parseG R' L' f).1 = (parseG R L f).1.sh c) := by
  have h : LateR c (rd R f (.lev 1) 0 0) (rd R' f (.lev 1) 0 0) := rd_late hL f (.lev 1) 0 0
  unfold parseG
  generalize rd R f (.lev 1) 0 0 = g at h ⊢
  generalize rd R' f (.lev 1) 0 0 = g' at h ⊢
  obtain ⟨h1, h2, h3⟩ := h
  rw [hb, hn, h1, h2, hL.ps]
  by_cases hbd : isBad L = true
  · rw [if_pos hbd, if_pos hbd]
    exact ⟨rfl, hbo hbd, fun h => by cases h⟩
  · rw [if_neg hbd, if_neg hbd]
    by_cases hc : g.r = 0 ∧ g.p ≠ R.n
    · rw [if_pos hc, if_pos hc]
      exact ⟨rfl, rfl, fun h => by cases h⟩
    · rw [if_neg hc, if_neg hc]
      exact ⟨rfl, rfl, h3⟩
/-- What Parse says of a text with blanks ahead. -/
theorem parse_spaced {k : Nat} {bs : List Int} (h : Byt8 bs) (f : Nat) :
    (parseG (rowT (strOfNums (spaced k bs)) (live (spaced k bs) 0)) (live (spaced k bs) 0) f).2.2 = (parseG (rowT (strOfNums bs) (live bs 0)) (live bs 0) f).2.2 ∧
    (parseG (rowT (strOfNums (spaced k bs)) (live (spaced k bs) 0)) (live (spaced k bs) 0) f).2.1 = (parseG (rowT (strOfNums bs) (live bs 0)) (live bs 0) f).2.1 + (k : Int) ∧
    ((parseG (rowT (strOfNums bs) (live bs 0)) (live bs 0) f).2.2 = 0 → (parseG (rowT (strOfNums (spaced k bs)) (live (spaced k bs) 0)) (live (spaced k bs) 0) f).1 = (parseG (rowT (strOfNums bs) (live bs 0)) (live bs 0) f).1.sh (k : Int)) := by
  refine parse_late (late_spaced h) ?_ ?_ ?_ f
  · show (live (spaced k bs) 0).length = (live bs 0).length
    rw [live_spaced, List.length_map]
  · rw [live_spaced, isBad_shift]
  · intro hb
    rw [live_spaced, badOf_shift _ _ hb]
end Go.Proofs.YtpllkjfdaenalaaDoor
