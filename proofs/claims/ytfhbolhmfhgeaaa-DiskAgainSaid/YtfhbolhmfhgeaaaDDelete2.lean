/-
  CONTRACT OF slices.DeleteFunc at files.
-/
import Derived.Test.YtfhbolhmfhgeaaaDDelete
namespace Go.Proofs.Ytfhbolhmfhgeaaa
set_option linter.unusedVariables false
set_option linter.unusedSimpArgs false
open Go.RowKit Go.Maps

def ptrs (fs : List Fl) : List Value := fs.map fun f => ptrTo f.blk
def keep (p : Fl → Bool) (fs : List Fl) : List Fl := fs.filter fun f => !p f
section
variable {w : World} {X : Nat → Prop} {t : TypeId} {g n c : Nat} {xs : List Value}
theorem Row.set (h : Row w X t (.slice (some ⟨g, 0, none⟩) n c) n xs) (j : Nat) (u : Value) : Row (w.setCell ⟨g, j, none⟩ u) X t (.slice (some ⟨g, 0, none⟩) n c) n (xs.set j u) ∧ w.grownBy (w.setCell ⟨g, j, none⟩ u) (some g) :=
  ⟨⟨(h.1.stored j u).1, h.2⟩, (h.1.stored j u).2⟩
theorem Row.sets : ∀ (vs : List Value) (o : Nat) {w : World} {xs : List Value}, Row w X t (.slice (some ⟨g, 0, none⟩) n c) n xs → ∀ i, i ≤ o → ∃ xs', Row (w.setCells g o vs) X t (.slice (some ⟨g, 0, none⟩) n c) n xs' ∧ xs'.take i = xs.take i ∧ w.grownBy (w.setCells g o vs) (some g)
  | [], o, w, xs, h, i, hi => ⟨xs, h, rfl, grown_refl _ _⟩
  | v :: r, o, w, xs, h, i, hi => by
    obtain ⟨h1, h2⟩ := h.set o v
    obtain ⟨xs', h3, h4, h5⟩ := Row.sets r (o + 1) h1 i (by omega)
    refine ⟨xs', h3, ?_, grown_trans h2 h5⟩
    rw [h4, List.take_set, List.set_eq_of_length_le (by simp; omega)]
theorem Row.ptr {A : Option Addr} {fs : List Fl} (h : Row w X t (.slice A n c) n (ptrs fs)) : Ptrs w A n fs := by
  refine ⟨by have := h.len; simpa [ptrs] using this, fun k hk => ?_⟩
  obtain ⟨b, off, u, e, _, hu, hc⟩ := h.sh.at hk
  unfold ptrs at hu
  rw [List.getElem?_map] at hu
  obtain ⟨f, hf', rfl⟩ := Option.map_eq_some_iff.1 hu
  exact ⟨b, off, f, e, hf', hc⟩
theorem Row.cellAt (h : Row w X t (.slice (some ⟨g, 0, none⟩) n c) n xs) {k : Nat} (hk : k < n) : ∃ u, xs[k]? = some u ∧ w.cell? ⟨g, k, none⟩ = some u ∧ w.frozen? ⟨g, k, none⟩ = false := by
  have h1 := h.1.cellAt k (by omega)
  have h2 := h.1.frozenAt k
  have hl : k < xs.length := by rw [h.len]; exact hk
  refine ⟨xs[k], List.getElem?_eq_getElem hl, ?_, h2⟩
  rw [h1, List.getElem?_eq_getElem hl]
end
theorem keep_snoc (p : Fl → Bool) {fs : List Fl} {j : Nat} {f : Fl} (hf : fs[j]? = some f) : keep p (fs.take (j + 1)) = keep p (fs.take j) ++ (if p f = true then [] else [f]) := by
  obtain ⟨h1, h2⟩ := List.getElem?_eq_some_iff.1 hf
  rw [List.take_succ_eq_append_getElem h1, h2]
  unfold keep
  rw [List.filter_append]
  congr 1
  cases h : p f <;> simp [h]
theorem keep_len (p : Fl → Bool) (fs : List Fl) (j : Nat) : (keep p (fs.take j)).length ≤ j := by
  unfold keep
  have := List.length_filter_le (fun f => !p f) (fs.take j)
  have := List.length_take_le j fs
  omega
/-- How far DeleteFunc has come: the first i cells are the files that stay of the first j ones; the others, from j on, are as they were. -/
structure Come (w w' : World) (X : Nat → Prop) (g n c : Nat) (p : Fl → Bool) (fs : List Fl) (i j : Nat) (cs : List Value) : Prop where
  row : Row w' X 78 (.slice (some ⟨g, 0, none⟩) n c) n cs
  head : cs.take i = ptrs (keep p (fs.take j))
  tail : cs.drop j = ptrs (fs.drop j)
  len : (keep p (fs.take j)).length = i
  lt : i < j
  le : j ≤ n
  grown : w.grownBy w' (some g)
section
variable {w w' : World} {X : Nat → Prop} {g n c i j : Nat} {p : Fl → Bool} {fs : List Fl} {cs : List Value}
theorem Come.at (h : Come w w' X g n c p fs i j cs) (hn : fs.length = n) (hj : j < n) : ∃ f, fs[j]? = some f ∧ w'.cell? ⟨g, j, none⟩ = some (ptrTo f.blk) := by
  obtain ⟨u, h1, h2, _⟩ := h.row.cellAt hj
  have e : cs[j]? = (ptrs (fs.drop j))[0]? := by rw [← h.tail, List.getElem?_drop]; rfl
  unfold ptrs at e
  rw [List.getElem?_map, List.getElem?_drop, h1] at e
  obtain ⟨f, hf, hfe⟩ := Option.map_eq_some_iff.1 e.symm
  exact ⟨f, hf, by rw [h2, ← hfe]⟩
theorem Come.skip (h : Come w w' X g n c p fs i j cs) (hj : j < n) {f : Fl} (hf : fs[j]? = some f) (hp : p f = true) : Come w w' X g n c p fs i (j + 1) cs := by
  have e := keep_snoc p hf
  rw [if_pos hp, List.append_nil] at e
  refine ⟨h.row, by rw [e]; exact h.head, ?_, by rw [e]; exact h.len, by have := h.lt; omega, by omega, h.grown⟩
  have := congrArg (List.drop 1) h.tail
  unfold ptrs at this ⊢
  rw [List.drop_drop, ← List.map_drop, List.drop_drop] at this
  exact this
theorem Come.take (h : Come w w' X g n c p fs i j cs) (hj : j < n) {f : Fl} (hf : fs[j]? = some f) (hp : p f = false) : ∃ cs', Come w (w'.setCell ⟨g, i, none⟩ (ptrTo f.blk)) X g n c p fs (i + 1) (j + 1) cs' := by
  have e := keep_snoc p hf
  rw [if_neg (by rw [hp]; simp)] at e
  obtain ⟨h1, h2⟩ := h.row.set i (ptrTo f.blk)
  have hlt := h.lt
  have hl : cs.length = n := h.row.len
  refine ⟨cs.set i (ptrTo f.blk), h1, ?_, ?_, by rw [e, List.length_append, h.len]; rfl, by omega, by omega, grown_trans h.grown h2⟩
  · rw [e]
    unfold ptrs
    rw [List.map_append, List.take_succ_eq_append_getElem (by simp; omega), List.getElem_set_self, List.take_set, List.set_eq_of_length_le (by simp; omega), h.head]
    rfl
  · rw [List.drop_set_of_lt (by omega)]
    have := congrArg (List.drop 1) h.tail
    unfold ptrs at this ⊢
    rw [List.drop_drop, ← List.map_drop, List.drop_drop] at this
    exact this
end

set_option maxRecDepth 10000 in
set_option maxHeartbeats 3200000 in
theorem delete_any (F : FuncId) (hF : F = 73 ∨ F = 60) (p : Fl → Bool) (A : Option Addr) (n c : Nat) (fs : List Fl) (w : World) (X : Nat → Prop) (hn : n ≤ 1000000)
    (hrow : Row w X 78 (.slice A n c) n (ptrs fs)) (hr : ∀ w', w.grownBy w' (Value.ownBlock (.slice A n c)) → ∀ f ∈ fs, Reads w' f) (hT : Tests F p fs) :
    Calls Try.prog 59 #[.slice A n c, .func (.func F) #[] #[]] w fun e w' => e = .returned (.slice A (keep p fs).length c) ∧ Row w' X 78 (.slice A (keep p fs).length c) (keep p fs).length (ptrs (keep p fs)) ∧ w.grownBy w' (Value.ownBlock (.slice A n c)) := by
  have hlen : fs.length = n := by have := hrow.len; simpa [ptrs] using this
  have HI := Lib.hid (index_any F hF p A n c fs w hn hrow.ptr (hr w (grown_refl _ _)) hT)
  have HT := Lib.hid hT
  have HR := Lib.hid hr
  have HW := Lib.hid hrow
  have HL := Lib.hid hlen
  clear hT hr
  cases hfi : fs.findIdx? p with
  | none =>
    have hk : keep p fs = fs := by
      rw [List.findIdx?_eq_none_iff] at hfi
      unfold keep
      rw [List.filter_eq_self]
      intro f hf
      simp [hfi f hf]
    have hv : firstGone p fs = -1 := by unfold firstGone; rw [hfi]
    rw [hv] at HI
    have HK := Lib.hid hk
    clear hk hv hfi hrow hlen
    go_enter Try.func59, Try.ntmps59
    go_wp2_with (first | (go_at_call 74; refine HI.out.mono ?_; rintro e w' ⟨rfl, rfl⟩) | go_in)
    go_ret
    rw [HK.out, HL.out]
    exact ⟨rfl, HW.out, grown_refl _ _⟩
  | some i0 =>
    have hv : firstGone p fs = (i0 : Int) := by unfold firstGone; rw [hfi]
    rw [List.findIdx?_eq_some_iff_getElem] at hfi
    obtain ⟨hi0, hp0, hall⟩ := hfi
    rw [hv] at HI
    obtain ⟨g, hA⟩ : ∃ g, A = some ⟨g, 0, none⟩ := by
      obtain ⟨g', cap', e, _⟩ := hrow.1.form (by omega)
      injection e with e _ _
      exact ⟨g', e⟩
    subst hA
    have hgc : n ≤ c ∧ c ≤ maxLen := by
      obtain ⟨A', c', e, h1, h2⟩ := hrow.form
      injection e with _ _ e
      subst e
      exact ⟨h1, h2⟩
    have hstart : Come w w X g n c p fs i0 (i0 + 1) (ptrs fs) := by
      have e0 : keep p (fs.take i0) = fs.take i0 := by
        unfold keep
        rw [List.filter_eq_self]
        intro f hf
        obtain ⟨j, hj⟩ := List.getElem?_of_mem hf
        have hj1 : j < i0 := by have := (List.getElem?_eq_some_iff.1 hj).1; simp at this; omega
        have := hall j hj1
        rw [List.getElem?_take, if_pos hj1, List.getElem?_eq_getElem (by omega)] at hj
        cases hj
        simpa using this
      have e := keep_snoc p (List.getElem?_eq_getElem hi0)
      rw [if_pos hp0, List.append_nil, e0] at e
      refine ⟨hrow, ?_, ?_, ?_, by omega, by omega, grown_refl _ _⟩
      · rw [e]
        unfold ptrs
        rw [List.map_take]
      · unfold ptrs
        rw [List.map_drop]
      · rw [e, List.length_take]
        omega
    have HS := Lib.hid hstart
    have hi0n : i0 < n := by omega
    have hn2 : c ≤ 9223372036854775807 := by unfold maxLen at hgc; omega
    have hnc : n ≤ c := hgc.1
    clear hv hi0 hp0 hall hstart hrow hlen hgc
    rcases hF with rfl | rfl
    all_goals
      go_enter Try.func59, Try.ntmps59
      have hne : ((i0 : Int) == -1) = false := by simp
      go_wp2_with (first | (go_at_call 74; refine HI.out.mono ?_; rintro e w' ⟨rfl, rfl⟩) | go_in)
      go_loopw [5, 6] (fun x y wr => ∃ (i j : Nat) (cs : List Value), x = .int .i64 i ∧ y = .int .i64 j ∧ Come w wr X g n c p fs i j cs) (fun _ y _ => n - (intOf y).toNat)
      case atStart => exact ⟨i0, i0 + 1, _, rfl, by go_num, HS.out⟩
      case round =>
        obtain ⟨i, j, cs, rfl, rfl, hc⟩ := hrel
        have hij := hc.lt
        have hjn := hc.le
        by_cases hlt : j < n
        · obtain ⟨f, hf, hcell⟩ := hc.at HL.out hlt
          obtain ⟨u, _, hci, hfz⟩ := hc.row.cellAt (k := i) (by omega)
          have HC := Lib.hid (HT.out f (List.mem_of_getElem? hf) wr (HR.out wr hc.grown f (List.mem_of_getElem? hf)))
          have HSK := Lib.hid (hc.skip hlt hf)
          have HTK := Lib.hid (hc.take hlt hf)
          obtain ⟨v, hv⟩ : ∃ v, v = p f := ⟨_, rfl⟩
          rw [← hv] at HC HSK HTK
          clear hc hf hv
          unfold ptrTo at *
          cases v with
          | true =>
            go_wp2_with (first | (go_at_call 73; refine HC.out.mono ?_; rintro e w' ⟨rfl, rfl⟩) | (go_at_call 60; refine HC.out.mono ?_; rintro e w' ⟨rfl, rfl⟩) | go_in)
            go_roundw
            case rel => exact ⟨i, j + 1, cs, rfl, by go_num, HSK.out trivial⟩
            case measure => simp [intOf]; omega
          | false =>
            go_wp2_with (first | (go_at_call 73; refine HC.out.mono ?_; rintro e w' ⟨rfl, rfl⟩) | (go_at_call 60; refine HC.out.mono ?_; rintro e w' ⟨rfl, rfl⟩) | go_in)
            go_roundw
            case rel =>
              obtain ⟨cs', h'⟩ := HTK.out trivial
              exact ⟨i + 1, j + 1, cs', by go_num, by go_num, h'⟩
            case measure => simp [intOf]; omega
        · obtain rfl : j = n := by omega
          obtain ⟨w9, hw9⟩ : ∃ w9, w9 = wr.setCells g i (List.replicate (j - i) (.pointer none)) := ⟨_, rfl⟩
          have hclr : ∀ ty, (Builtin.clear_ #[69] ty #[.slice (some ⟨g, i, none⟩) (j - i) (c - i)]).run Try.prog wr = .ok (.tuple #[]) w9 := fun ty => by
            rw [hw9]
            exact Lib.run_clear_slice wr 69 78 ty (.pointer none) Try.underlying69 zeroPtr rfl rfl g i (j - i) (c - i) (by omega)
              (fun q hq => by obtain ⟨u, _, h2, _⟩ := hc.row.cellAt (k := i + q) (by omega); rw [h2]; rfl) (fun q hq => by obtain ⟨u, _, _, h3⟩ := hc.row.cellAt (k := i + q) (by omega); exact h3)
          have hend : Row w9 X 78 (.slice (some ⟨g, 0, none⟩) i c) i (ptrs (keep p fs)) ∧ w.grownBy w9 (some g) ∧ (keep p fs).length = i := by
            obtain ⟨xs', h1, h2, h3⟩ := Row.sets (List.replicate (j - i) (.pointer none)) i hc.row i (Nat.le_refl _)
            rw [← hw9] at h1 h3
            have h4 := h1.head (k := i) (by omega)
            have h5 := hc.head
            have h6 := hc.len
            have h7 : fs.take j = fs := List.take_of_length_le (by rw [HL.out]; exact Nat.le_refl _)
            rw [h7] at h5 h6
            rw [h2, h5] at h4
            exact ⟨h4, grown_trans hc.grown h3, h6⟩
          have HE := Lib.hid hend
          clear hc hw9 hend
          go_wp2
          go_ret
          rw [HE.out.2.2]
          exact ⟨rfl, HE.out.1, HE.out.2.1⟩
end Go.Proofs.Ytfhbolhmfhgeaaa
