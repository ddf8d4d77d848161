/-
  CONTRACTS OF the document's order: Find, names, reached.
  CONTRACT OF the document's 'reached'.
  CONTRACT OF the document's 'New': words.
-/
import Derived.Test.YtnhdpegjkkaabaaOqM
import Derived.Test.YtnhdpegjkkaabaaOrO
import Derived.Deep.DeepCutAuto
import Derived.Deep.MidRow
import Derived.Deep.RegionLaw
namespace Go.Proofs.Ytnhdpegjkkaabaa
set_option linter.unusedVariables false
set_option linter.unusedSimpArgs false
open Go.RowKit

/-- Strings, as cells. -/
def strs (l : List ByteArray) : List Value := l.map Value.string
theorem strs_snoc (l : List ByteArray) (s : ByteArray) : strs (l ++ [s]) = strs l ++ [.string s] := by simp [strs]
theorem strs_at {l : List ByteArray} {k : Nat} {u : Value} (h : (strs l)[k]? = some u) : u = .string (l.getD k ⟨#[]⟩) := by
  unfold strs at h
  rw [List.getElem?_map] at h
  cases e : l[k]? with
  | none => rw [e] at h; cases h
  | some x => rw [e] at h; cases h; simp [List.getD, e]
def rfindI (l : List ByteArray) (s : ByteArray) : Int := match opos l s with | some i => (i : Int) | none => -1
theorem rfind_in {l : List ByteArray} {s : ByteArray} (h : s ∈ l) : rfindI l s = (rnum l s : Int) := by
  obtain ⟨i, hi⟩ := opos_mem h
  unfold rfindI rnum
  rw [hi]
  rfl
theorem rfind_out {l : List ByteArray} {s : ByteArray} (h : s ∉ l) : rfindI l s = -1 := by
  unfold rfindI
  rw [opos_none.2 h]
theorem opos_first {l : List ByteArray} {s : ByteArray} {k : Nat} (hk : k < l.length) (h : l[k] = s) (hno : ∀ j (hj : j < k), l[j]'(by omega) ≠ s) : opos l s = some k := by
  unfold opos
  rw [List.findIdx?_eq_some_iff_getElem]
  exact ⟨hk, by simpa using h, fun j hj => by simpa using hno j hj⟩
theorem str_eq {s t : ByteArray} : (s.toList == t.toList) = decide (s = t) := by
  rw [ByteArray.toList_eq, ByteArray.toList_eq]
  by_cases h : s = t
  · subst h; simp
  · have : ¬ s.data.toList = t.data.toList := fun e => h (bytes_inj e)
    simp [h]
    intro e
    exact this (by rw [e])
set_option maxHeartbeats 400000 in
theorem rfind_any (A : Option Addr) (n c : Nat) (l : List ByteArray) (s : ByteArray) (w : World) (U : Nat) (h : Sh w U A n (strs l)) (hn : n ≤ maxLen) :
    Calls Try.prog 43 #[.slice A n c, .string s] w fun e w' => e = .returned (.int .i64 (rfindI l s)) ∧ w = w' := by
  unfold maxLen at hn
  have hl : l.length = n := by have := h.len; simpa [strs] using this
  have HL := Lib.hid hl
  clear hl
  go_enter Try.func43, Try.ntmps43
  go_wp2
  go_loopw [5] (fun i wr => ∃ k : Nat, i = .int .i64 (k : Int) ∧ k ≤ n ∧ Hid (∀ j, j < k → l.getD j ⟨#[]⟩ ≠ s) ∧ wr = w) (fun i _ => n - (intOf i).toNat)
  case atStart => exact ⟨0, rfl, Nat.zero_le _, Lib.hid (fun j hj => absurd hj (Nat.not_lt_zero _)), rfl⟩
  case round =>
    obtain ⟨k, rfl, hk, HNO, rfl⟩ := hrel
    by_cases hlt : k < n
    · obtain ⟨b, off, u, rfl, hb, hu, hc⟩ := h.at hlt
      rw [strs_at hu] at hc
      have hkl : k < l.length := by rw [HL.out]; exact hlt
      have hg : ∀ j (hj : j < l.length), l.getD j ⟨#[]⟩ = l[j] := fun j hj => by simp [List.getD, hj]
      have HE := Lib.hid (fun e : l.getD k ⟨#[]⟩ = s => (by
        unfold rfindI
        rw [opos_first hkl (by rw [← hg k hkl]; exact e) (fun j hj => by rw [← hg j (by omega)]; exact HNO.out j hj)] : rfindI l s = (k : Int)))
      obtain ⟨x, hx⟩ : ∃ x, l.getD k ⟨#[]⟩ = x := ⟨_, rfl⟩
      rw [hx] at hc HE
      have HX := Lib.hid hx
      clear hx hu hg
      by_cases e : x = s
      · subst e
        have ht : (x.toList == x.toList) = true := by simp
        have HR := Lib.hid (HE.out rfl)
        go_wp2
        go_ret
        exact ⟨ret_i64 HR.out.symm, rfl⟩
      · have ht : (x.toList == s.toList) = false := by rw [str_eq]; simpa using e
        have HN2 := Lib.hid (show ∀ j, j < k + 1 → l.getD j ⟨#[]⟩ ≠ s from fun j hj => by
          rcases Nat.lt_or_ge j k with h | h
          · exact HNO.out j h
          · obtain rfl : j = k := by omega
            rw [HX.out]; exact e)
        clear e
        go_wp2
        go_roundw
        case rel => exact ⟨k + 1, by go_num, hlt, HN2, (by trivial)⟩
        case measure => simp [intOf]; omega
    · obtain rfl : k = n := by omega
      have HR := Lib.hid (show rfindI l s = -1 from rfind_out fun hm => by
        obtain ⟨j, hj, e⟩ := List.getElem_of_mem hm
        have := HNO.out j (by rw [← HL.out]; exact hj)
        apply this
        simp [List.getD, hj, e])
      go_wp2
      go_ret
      exact ⟨ret_i64 HR.out.symm, rfl⟩

/-- Names that were laid: as many as there are, the call's own. -/
def NmsTo (w : World) (N : List ByteArray) (e : Ending) (w' : World) : Prop := ∃ v, e = .returned v ∧ Own w' w.heap.size 9 1 v N.length (strs N) ∧ Below w.heap.size w w'
set_option maxRecDepth 10000 in
set_option maxHeartbeats 800000 in
theorem rnames_any (A : Option Addr) (n c : Nat) (L : List OPa) (w : World) (hL : ShP w w.heap.size A n L) (hn : n ≤ 1000000) :
    Calls Try.prog 41 #[.slice A n c] w (NmsTo w (rnames (L.map (·.1)))) := by
  have HLn := Lib.hid hL.len
  go_enter Try.func41, Try.ntmps41
  go_wp2
  go_loopw [3, 4] (fun v i wr => ∃ k : Nat, i = .int .i64 (k : Int) ∧ k ≤ n ∧ Hid (Own wr w.heap.size 9 1 v (rnames ((L.take k).map (·.1))).length (strs (rnames ((L.take k).map (·.1))))) ∧ (rnames ((L.take k).map (·.1))).length ≤ 2 * k ∧ Hid (Below w.heap.size w wr)) (fun _ i _ => n - (intOf i).toNat)
  case atStart => exact ⟨0, rfl, Nat.zero_le _, Lib.hid (Own.nil _ _ _ _ (Nat.le_refl _)), Nat.le_refl _, Lib.hid (Below.refl _ _)⟩
  case round =>
    obtain ⟨k, rfl, hk, HV, hle, HB⟩ := hrel
    obtain ⟨wa, hwa⟩ : ∃ wa, wa = wr := ⟨_, rfl⟩
    subst hwa
    by_cases hlt : k < n
    · obtain ⟨b, off, t, rfl, hb, hget, hdr, c0, c1, c2⟩ := hL.at hlt
      have cc0 := fun (wx : World) (hB : Below w.heap.size w wx) => (hB.cell (p := ⟨b, off + k * 3, none⟩) hb).trans c0
      have cc1 := fun (wx : World) (hB : Below w.heap.size w wx) => (hB.cell (p := ⟨b, off + k * 3 + 1, none⟩) hb).trans c1
      obtain ⟨⟨lo, hi⟩, at_⟩ := t
      dsimp only at cc0 cc1
      have htk : (L.take (k + 1)).map (·.1) = (L.take k).map (·.1) ++ [(lo, hi)] := by
        rw [List.take_add_one, hget, List.map_append]
        rfl
      have HTK := Lib.hid (show rnames ((L.take (k + 1)).map (·.1)) = rstep (rnames ((L.take k).map (·.1))) (lo, hi) by rw [htk, rnames_snoc])
      have hst := rstep_le (rnames ((L.take k).map (·.1))) (lo, hi)
      obtain ⟨N, hN⟩ : ∃ N, rnames ((L.take k).map (·.1)) = N := ⟨_, rfl⟩
      rw [hN] at HV hle HTK hst
      obtain ⟨A3, c3, rfl⟩ := HV.out.form
      have d0 := cc0 wa HB.out
      have d1 := cc1 wa HB.out
      have HC1 := Lib.hid cc1
      have HF1 := Lib.hid (fun s => rfind_any A3 N.length c3 N s wa wa.heap.size HV.out.sh (by unfold maxLen; omega))
      clear htk hget hdr c0 c1 c2 cc0 cc1 hN
      by_cases h1 : lo ∈ N
      · have f1 := HF1.out lo
        rw [rfind_in h1] at f1
        have F1 := Lib.hid f1
        have hp1 : ¬ ((rnum N lo : Int) < 0) := by omega
        have e1 := rput_old h1
        by_cases h0 : hi.size = 0
        · have hz : (hi.toList == []) = true := by rw [toList_nil]; simpa using h0
          have HR := Lib.hid (show rstep N (lo, hi) = N by unfold rstep; rw [if_pos h0, e1])
          clear f1 h0 e1
          go_wp2_with (first
            | (go_at_call 43; with_reducible refine F1.out.mono ?_; rintro e wx ⟨rfl, rfl⟩)
            | go_in)
          go_roundw
          case rel => exact ⟨k + 1, by go_num, hlt, by rw [HTK.out, HR.out]; exact HV, by rw [HTK.out]; omega, HB⟩
          case measure => simp [intOf]; omega
        · have hz : (hi.toList == []) = false := by rw [toList_nil]; simpa using h0
          have hS := show rstep N (lo, hi) = rput N hi by unfold rstep; rw [if_neg h0, e1]
          by_cases h2 : hi ∈ N
          · have f2 := HF1.out hi
            rw [rfind_in h2] at f2
            have F2 := Lib.hid f2
            have hp2 : ¬ ((rnum N hi : Int) < 0) := by omega
            have HR := Lib.hid (show rstep N (lo, hi) = N by rw [hS, rput_old h2])
            clear f1 f2 h0 e1 hS
            go_wp2_with (first
              | (go_at_call 43; with_reducible refine F1.out.mono ?_; rintro e wx ⟨rfl, rfl⟩)
              | (go_at_call 43; with_reducible refine F2.out.mono ?_; rintro e wx ⟨rfl, rfl⟩)
              | go_in)
            go_roundw
            case rel => exact ⟨k + 1, by go_num, hlt, by rw [HTK.out, HR.out]; exact HV, by rw [HTK.out]; omega, HB⟩
            case measure => simp [intOf]; omega
          · have f2 := HF1.out hi
            rw [rfind_out h2] at f2
            have F2 := Lib.hid f2
            have HR := Lib.hid (show rstep N (lo, hi) = N ++ [hi] by rw [hS, rput_new h2])
            have hown := HV.out
            clear f1 f2 h0 e1 hS
            go_wp2_with (first
              | (go_at_call 43; with_reducible refine F1.out.mono ?_; rintro e wx ⟨rfl, rfl⟩)
              | (go_at_call 43; with_reducible refine F2.out.mono ?_; rintro e wx ⟨rfl, rfl⟩)
              | (at_builtin; refine wpList_push rfl (.tmp 43) (.tmp 49) 27 rfl rowS w _ w.heap.size _ _ _ [.string hi] rfl hown rfl rfl (by intro u hu; rw [List.mem_singleton.1 hu]; rfl) HB.out (by omega) (by omega) ?_; intro v2 w2 ho2 hb2)
              | go_in)
            refine ⟨⟨k + 1, by go_num, hlt, ?_, by rw [HTK.out]; omega, Lib.hid hb2⟩, by simp [intOf]; omega⟩
            rw [HTK.out, HR.out]
            exact Lib.hid (ho2.cast (by simp) (strs_snoc _ _).symm)
      · have f1 := HF1.out lo
        rw [rfind_out h1] at f1
        have F1 := Lib.hid f1
        have e1 := rput_new h1
        have hown := HV.out
        obtain ⟨M, hM⟩ : ∃ M, N ++ [lo] = M := ⟨_, rfl⟩
        have hMl : M.length = N.length + 1 := by rw [← hM]; simp
        have HMs := Lib.hid (show strs N ++ [.string lo] = strs M by rw [← hM, strs_snoc])
        rw [hM] at e1
        have HMl := Lib.hid hMl
        have HF2 := Lib.hid (fun (w2 : World) (A4 : Option Addr) (c4 : Nat) (ho : Own w2 w.heap.size 9 1 (.slice A4 (N.length + 1) c4) (N.length + 1) (strs N ++ [.string lo])) (s : ByteArray) => rfind_any A4 (N.length + 1) c4 M s w2 w2.heap.size (by rw [← HMs.out]; exact ho.sh) (by unfold maxLen; omega))
        clear hM f1
        by_cases h0 : hi.size = 0
        · have hz : (hi.toList == []) = true := by rw [toList_nil]; simpa using h0
          have HR := Lib.hid (show rstep N (lo, hi) = M by unfold rstep; rw [if_pos h0, e1])
          clear h0 e1 hMl
          go_wp2_with (first
            | (go_at_call 43; with_reducible refine F1.out.mono ?_; rintro e wx ⟨rfl, rfl⟩)
            | (at_builtin; refine wpList_push rfl (.tmp 19) (.tmp 25) 27 rfl rowS w _ w.heap.size _ _ _ [.string lo] rfl hown rfl rfl (by intro u hu; rw [List.mem_singleton.1 hu]; rfl) HB.out (by omega) (by omega) ?_; intro v2 w2 ho2 hb2; have d1 := HC1.out w2 hb2)
            | go_in)
          refine ⟨⟨k + 1, by go_num, hlt, ?_, by rw [HTK.out]; omega, Lib.hid hb2⟩, by simp [intOf]; omega⟩
          rw [HTK.out, HR.out]
          exact Lib.hid (ho2.cast HMl.out.symm HMs.out)
        · have hz : (hi.toList == []) = false := by rw [toList_nil]; simpa using h0
          have hS := show rstep N (lo, hi) = rput M hi by unfold rstep; rw [if_neg h0, e1]
          by_cases h2 : hi ∈ M
          · have HI := Lib.hid (rfind_in h2)
            have hp2 : ¬ ((rnum M hi : Int) < 0) := by omega
            have HR := Lib.hid (show rstep N (lo, hi) = M by rw [hS, rput_old h2])
            clear h0 e1 hS hMl
            go_wp2_with (first
              | (go_at_call 43; with_reducible refine F1.out.mono ?_; rintro e wx ⟨rfl, rfl⟩)
              | (go_at_call 43; with_reducible refine F2.out.mono ?_; rintro e wx ⟨rfl, rfl⟩; rw [HI.out])
              | (at_builtin; refine wpList_push rfl (.tmp 19) (.tmp 25) 27 rfl rowS w _ w.heap.size _ _ _ [.string lo] rfl hown rfl rfl (by intro u hu; rw [List.mem_singleton.1 hu]; rfl) HB.out (by omega) (by omega) ?_; intro v2 w2 ho2 hb2; obtain ⟨A4, c4, rfl⟩ := ho2.form; have d1 := HC1.out w2 hb2; have F2 := Lib.hid (HF2.out w2 A4 c4 ho2 hi))
              | go_in)
            go_roundw
            case rel => exact ⟨k + 1, by go_num, hlt, by rw [HTK.out, HR.out]; exact Lib.hid (ho2.cast HMl.out.symm HMs.out), by rw [HTK.out]; omega, Lib.hid hb2⟩
            case measure => simp [intOf]; omega
          · have HI := Lib.hid (rfind_out h2)
            have HR := Lib.hid (show rstep N (lo, hi) = M ++ [hi] by rw [hS, rput_new h2])
            clear h0 e1 hS hMl
            go_wp2_with (first
              | (go_at_call 43; with_reducible refine F1.out.mono ?_; rintro e wx ⟨rfl, rfl⟩)
              | (go_at_call 43; with_reducible refine F2.out.mono ?_; rintro e wx ⟨rfl, rfl⟩; rw [HI.out])
              | (at_builtin; refine wpList_push rfl (.tmp 19) (.tmp 25) 27 rfl rowS w _ w.heap.size _ _ _ [.string lo] rfl hown rfl rfl (by intro u hu; rw [List.mem_singleton.1 hu]; rfl) HB.out (by omega) (by omega) ?_; intro v2 w2 ho2 hb2; obtain ⟨A4, c4, rfl⟩ := ho2.form; have d1 := HC1.out w2 hb2; have F2 := Lib.hid (HF2.out w2 A4 c4 ho2 hi))
              | (at_builtin; refine wpList_push rfl (.tmp 43) (.tmp 49) 27 rfl rowS w _ w.heap.size _ _ _ [.string hi] rfl ho2 rfl rfl (by intro u hu; rw [List.mem_singleton.1 hu]; rfl) hb2 (by omega) (by omega) ?_; intro v5 w5 ho5 hb5)
              | go_in)
            refine ⟨⟨k + 1, by go_num, hlt, ?_, by rw [HTK.out]; omega, Lib.hid hb5⟩, by simp [intOf]; omega⟩
            rw [HTK.out, HR.out]
            refine Lib.hid (ho5.cast (by rw [List.length_append, HMl.out]; rfl) (by rw [HMs.out, strs_snoc]))
    · obtain rfl : k = n := by omega
      have hV := HV.out
      rw [List.take_of_length_le (by rw [HLn.out]; exact Nat.le_refl _)] at hV
      have HV2 := Lib.hid hV
      clear hV HV hle
      go_wp2
      go_ret
      exact ⟨_, rfl, HV2.out, HB.out⟩
end Go.Proofs.Ytnhdpegjkkaabaa
namespace Go.Proofs.Ytnhdpegjkkaabaa
set_option linter.unusedVariables false
set_option linter.unusedSimpArgs false
open Go.RowKit

/-- So many Booleans, as cells. -/
def bools (n : Nat) (S : Nat → Bool) : List Value := (List.range n).map fun j => Value.bool (S j)
theorem bools_len (n : Nat) (S : Nat → Bool) : (bools n S).length = n := by simp [bools]
theorem bools_at {n : Nat} {S : Nat → Bool} {k : Nat} {u : Value} (h : (bools n S)[k]? = some u) : u = .bool (S k) := by
  unfold bools at h
  rw [List.getElem?_map] at h
  cases e : (List.range n)[k]? with
  | none => rw [e] at h; cases h
  | some x =>
    rw [e] at h
    obtain ⟨_, e⟩ := List.getElem?_eq_some_iff.1 e
    simp at e
    cases h
    rw [e]
theorem bools_set (n : Nat) (S : Nat → Bool) {k : Nat} (hk : k < n) : (bools n S).set k (.bool true) = bools n (rset S k) := by
  apply List.ext_getElem?
  intro j
  rw [List.getElem?_set, bools_len]
  unfold bools
  rw [List.getElem?_map, List.getElem?_map]
  by_cases hj : j < n
  · rw [List.getElem?_range hj]
    unfold rset
    by_cases e : k = j
    · subst e; simp [hj]
    · rw [if_neg e]
      have e' : ¬ j = k := fun h => e h.symm
      simp [e']
  · have : (List.range n)[j]? = none := List.getElem?_eq_none (by simp; omega)
    rw [this]
    by_cases e : k = j
    · subst e; omega
    · rw [if_neg e]; rfl
theorem Own.set1q {w : World} {B n size g c : Nat} {e : TypeId} {xs : List Value} (h : Own w B e size (.slice (some ⟨g, 0, none⟩) n c) n xs) (j : Nat) (hj : j < n * size) (u : Value) : Own (w.setCell ⟨g, j, none⟩ u) B e size (.slice (some ⟨g, 0, none⟩) n c) n (xs.set j u) := by
  refine ⟨⟨by rw [List.length_set]; exact h.1.1, ?_⟩, by simpa using h.2⟩
  rcases h.1.2 with ⟨e1, e2⟩ | ⟨g', cap, cur, e1, h1, h2, h3, h4, h5, h6⟩
  · cases e1
  · injection e1 with a1 a2 a3
    injection a1 with a1
    injection a1 with a1
    subst a1
    subst a3
    refine .inr ⟨g, c, cur.setIfInBounds j u, rfl, h1, heap_setCell_same w g j cur e u h2, h3, h4, by simpa using h5, ?_⟩
    rw [← h6, Array.toList_setIfInBounds, List.take_set]
theorem rowBo : RowT Try.prog 52 4 1 1 := RowT.mk (z := .bool false) Try.underlying52 (by kernel_rfl) rfl (by omega)
theorem made_bools (n : Nat) : (madeCells (Value.bool false).cells (n * 1)).toList = bools n (fun _ => false) := by
  unfold madeCells bools
  rw [Nat.mul_one, Array.toList_map, Array.toList_range]
  refine List.map_congr_left fun i _ => ?_
  have : i % (Value.bool false).cells.size = 0 := Nat.mod_one i
  rw [this]
  rfl
theorem make_bools (w : World) (m : Nat) (hm : m ≤ 1000000) : ∃ w1, (Instr.makeSlice 52 (.int .i64 (m : Int)) (.int .i64 (m : Int))).run Try.prog w = .ok (.slice (some ⟨w.heap.size, 0, none⟩) m m) w1 ∧ Own w1 w.heap.size 4 1 (.slice (some ⟨w.heap.size, 0, none⟩) m m) m (bools m (fun _ => false)) ∧ Below w.heap.size w w1 := by
  obtain ⟨ht, i, z, hi, hz, hsize, hbytes, hzs, hpos⟩ := rowBo
  have hzz : z = .bool false := by
    have h : (Try.prog.info? 4).map (fun i => i.zero) = some (some (.bool false)) := by kernel_rfl
    rw [hi] at h
    simp only [Option.map_some, Option.some.injEq] at h
    rw [hz] at h
    exact Option.some.inj h
  obtain ⟨w1, hr, ho, hg⟩ := run_makeSlice_full (P := Try.prog) (w := w) w.heap.size 52 4 i z 1 ht hi hz hsize .i64 .i64 m (by omega) (by rw [hbytes]; omega) (by unfold maxLen; omega) (Nat.le_refl _)
  rw [hzz, made_bools] at ho
  exact ⟨w1, hr, ⟨ho, hg.size⟩, (Below.refl _ _).grown hg (Nat.le_refl _) (fun k hk => by cases hk)⟩
def RchTo (w : World) (N : List ByteArray) (l : List OPr) (f : Nat) (e : Ending) (w' : World) : Prop := ∃ v, e = .returned v ∧ Own w' w.heap.size 4 1 v N.length (bools N.length (rturns N l f N.length)) ∧ Below w.heap.size w w'
set_option maxRecDepth 10000 in
set_option maxHeartbeats 800000 in
theorem reached_any (A B : Option Addr) (n m c d : Nat) (L : List OPa) (N : List ByteArray) (f : Nat) (w : World) (hL : ShP w w.heap.size A n L) (hn : n ≤ 1000000) (hB : Sh w w.heap.size B m (strs N)) (hm : m ≤ 1000000) (hf : f < m) (hR : Rnm N (L.map (·.1))) :
    Calls Try.prog 42 #[.slice A n c, .slice B m d, .int .i64 (f : Int)] w (RchTo w N (L.map (·.1)) f) := by
  have HLn := Lib.hid hL.len
  have hNm : N.length = m := by have := hB.len; simpa [strs] using this
  obtain ⟨w1, hmk, ho1, hb1⟩ := make_bools w m hm
  have HB1 := Lib.hid hb1
  have HFIND := Lib.hid (fun (wx : World) (b : Below w.heap.size w wx) (s : ByteArray) (hs : s ∈ N) => (by
    have := rfind_any B m d N s wx w.heap.size (hB.below b) (by unfold maxLen; omega)
    rw [rfind_in hs] at this
    exact this : Calls Try.prog 43 #[.slice B m d, .string s] wx fun e w' => e = .returned (.int .i64 (rnum N s : Int)) ∧ wx = w'))
  -- cells of the row
  have HCEL := Lib.hid (fun (wx : World) (S : Nat → Bool) (ho : Own wx w.heap.size 4 1 (.slice (some ⟨w.heap.size, 0, none⟩) m m) m (bools m S)) (j : Nat) (hj : j < m) => (by
    obtain ⟨b, off, u, e, hb, hu, hc⟩ := ho.sh.at hj
    cases e
    rw [bools_at hu, Nat.zero_add] at hc
    refine ⟨hc, ?_⟩
    rcases ho.1.2 with ⟨e1, _⟩ | ⟨g, cap, cur, e1, _, hh, _⟩
    · cases e1
    · cases e1
      simp [World.frozen?, hh] : wx.cell? ⟨w.heap.size, j, none⟩ = some (.bool (S j)) ∧ wx.frozen? ⟨w.heap.size, j, none⟩ = false))
  have HSET := Lib.hid (fun (wx : World) (S : Nat → Bool) (ho : Own wx w.heap.size 4 1 (.slice (some ⟨w.heap.size, 0, none⟩) m m) m (bools m S)) (j : Nat) (hj : j < m) => (by
    have := ho.set1q j (by omega) (.bool true)
    rw [bools_set m S hj] at this
    exact this : Own (wx.setCell ⟨w.heap.size, j, none⟩ (.bool true)) w.heap.size 4 1 (.slice (some ⟨w.heap.size, 0, none⟩) m m) m (bools m (rset S j))))
  obtain ⟨cf, ff⟩ := HCEL.out w1 _ ho1 f hf
  have O1 := Lib.hid (show Own (w1.setCell ⟨w.heap.size, f, none⟩ (.bool true)) w.heap.size 4 1 (.slice (some ⟨w.heap.size, 0, none⟩) m m) m (bools m (rturns N (L.map (·.1)) f 0)) from by
    have := HSET.out w1 _ ho1 f hf
    have e : rset (fun _ => false) f = rturns N (L.map (·.1)) f 0 := by
      funext k
      unfold rset rturns
      by_cases h : k = f <;> simp [h]
    rwa [e] at this)
  have HB2 := Lib.hid (HB1.out.setCell (p := ⟨w.heap.size, f, none⟩) (Nat.le_refl _) (.bool true))
  have HNm := Lib.hid hNm
  have HRR := Lib.hid hR
  clear ho1 hb1 hB hNm hR
  go_enter Try.func42, Try.ntmps42
  go_wp2
  obtain ⟨w2, hw2⟩ : ∃ w2, w1.setCell ⟨w.heap.size, f, none⟩ (.bool true) = w2 := ⟨_, rfl⟩
  rw [hw2] at O1 HB2
  rw [hw2]
  clear hw2 cf ff hmk
  go_loopw [8] (fun i wr => ∃ t : Nat, i = .int .i64 (t : Int) ∧ t ≤ m ∧ Hid (Own wr w.heap.size 4 1 (.slice (some ⟨w.heap.size, 0, none⟩) m m) m (bools m (rturns N (L.map (·.1)) f t))) ∧ Hid (Below w.heap.size w wr)) (fun i _ => m - (intOf i).toNat)
  case atStart => exact ⟨0, rfl, Nat.zero_le _, O1, HB2⟩
  case round =>
    obtain ⟨t, rfl, ht, HO, HB⟩ := hrel
    obtain ⟨wa, hwa⟩ : ∃ wa, wa = wr := ⟨_, rfl⟩
    subst hwa
    by_cases hlt : t < m
    · have HT := Lib.hid (show rturns N (L.map (·.1)) f (t + 1) = rpass N (L.map (·.1)) (rturns N (L.map (·.1)) f t) from rfl)
      obtain ⟨S, hS⟩ : ∃ S, rturns N (L.map (·.1)) f t = S := ⟨_, rfl⟩
      rw [hS] at HO HT
      clear hS
      go_wp2
      go_loopw [9] (fun i wr => ∃ k : Nat, i = .int .i64 (k : Int) ∧ k ≤ n ∧ Hid (Own wr w.heap.size 4 1 (.slice (some ⟨w.heap.size, 0, none⟩) m m) m (bools m (rpass N ((L.take k).map (·.1)) S))) ∧ Hid (Below w.heap.size w wr)) (fun i _ => n - (intOf i).toNat)
      case atStart => exact ⟨0, rfl, Nat.zero_le _, HO, HB⟩
      case round =>
        obtain ⟨k, rfl, hk, HO2, HBB⟩ := hrel
        obtain ⟨wb, hwb⟩ : ∃ wb, wb = wr := ⟨_, rfl⟩
        subst hwb
        by_cases hlt2 : k < n
        · obtain ⟨b, off, p, rfl, hb, hget, hdr, c0, c1, c2⟩ := (hL.below HBB.out).at hlt2
          obtain ⟨⟨lo, hi⟩, at_⟩ := p
          dsimp only at c0 c1
          have hmem : (lo, hi) ∈ L.map (·.1) := List.mem_map.2 ⟨((lo, hi), at_), List.mem_of_getElem? hget, rfl⟩
          have htk : (L.take (k + 1)).map (·.1) = (L.take k).map (·.1) ++ [(lo, hi)] := by
            rw [List.take_add_one, hget, List.map_append]
            rfl
          obtain ⟨S2, hS2⟩ : ∃ S2, rpass N ((L.take k).map (·.1)) S = S2 := ⟨_, rfl⟩
          have HP := Lib.hid (show rpass N ((L.take (k + 1)).map (·.1)) S = rone N S2 (lo, hi) by rw [htk, ← hS2]; unfold rpass; rw [List.foldl_append]; rfl)
          rw [hS2] at HO2
          have m1 : lo ∈ N := HRR.out.men _ ⟨_, hmem, .inl rfl⟩
          have F1 := Lib.hid (HFIND.out wb HBB.out lo m1)
          have l1 : rnum N lo < m := by rw [← HNm.out]; exact rnum_lt m1
          by_cases h0 : hi.size = 0
          · have hz : (hi.toList == []) = true := by rw [toList_nil]; simpa using h0
            have HR1 := Lib.hid (show rone N S2 (lo, hi) = S2 by unfold rone; simp [h0])
            clear hget hdr htk hmem hS2 h0
            go_wp2
            go_roundw
            case rel => exact ⟨k + 1, by go_num, hlt2, by rw [HP.out, HR1.out]; exact HO2, HBB⟩
            case measure => simp [intOf]; omega
          · have hz : (hi.toList == []) = false := by rw [toList_nil]; simpa using h0
            have m2 : hi ∈ N := HRR.out.men _ ⟨_, hmem, .inr ⟨h0, rfl⟩⟩
            have F2 := Lib.hid (HFIND.out wb HBB.out hi m2)
            have l2 : rnum N hi < m := by rw [← HNm.out]; exact rnum_lt m2
            obtain ⟨ca, _⟩ := HCEL.out wb S2 HO2.out _ l1
            obtain ⟨cb, fb⟩ := HCEL.out wb S2 HO2.out _ l2
            have HSB := Lib.hid (HSET.out wb S2 HO2.out _ l2)
            have hr := show rone N S2 (lo, hi) = if S2 (rnum N lo) = true then rset S2 (rnum N hi) else S2 by unfold rone; simp [h0]
            obtain ⟨x, hx⟩ : ∃ x, rnum N lo = x := ⟨_, rfl⟩
            obtain ⟨y, hy⟩ : ∃ y, rnum N hi = y := ⟨_, rfl⟩
            rw [hx] at F1 l1 ca hr
            rw [hy] at F2 l2 cb fb HSB hr
            clear hget hdr htk hmem hS2 h0 hx hy
            cases hs : S2 x with
            | true =>
              rw [hs, if_pos rfl] at hr
              rw [hs] at ca
              have HR1 := Lib.hid hr
              clear hr hs
              go_wp2_with (first
                | (go_at_call 43; with_reducible refine F1.out.mono ?_; rintro e wx ⟨rfl, rfl⟩)
                | (go_at_call 43; with_reducible refine F2.out.mono ?_; rintro e wx ⟨rfl, rfl⟩)
                | go_in)
              go_roundw
              case rel => exact ⟨k + 1, by go_num, hlt2, by rw [HP.out, HR1.out]; exact HSB, Lib.hid (HBB.out.setCell (p := ⟨w.heap.size, y, none⟩) (Nat.le_refl _) _)⟩
              case measure => simp [intOf]; omega
            | false =>
              rw [hs, if_neg (by decide)] at hr
              rw [hs] at ca
              have HR1 := Lib.hid hr
              clear hr hs
              go_wp2_with (first
                | (go_at_call 43; with_reducible refine F1.out.mono ?_; rintro e wx ⟨rfl, rfl⟩)
                | go_in)
              go_roundw
              case rel => exact ⟨k + 1, by go_num, hlt2, by rw [HP.out, HR1.out]; exact HO2, HBB⟩
              case measure => simp [intOf]; omega
        · obtain rfl : k = n := by omega
          have hO := HO2.out
          rw [List.take_of_length_le (by rw [HLn.out]; exact Nat.le_refl _)] at hO
          have HO3 := Lib.hid hO
          clear hO HO2
          go_wp2
          go_roundw
          case rel => exact ⟨t + 1, by go_num, hlt, by rw [HT.out]; exact HO3, HBB⟩
          case measure => simp [intOf]; omega
    · obtain rfl : t = m := by omega
      go_wp2
      go_ret
      have h := HO.out
      rw [← HNm.out] at h
      exact ⟨_, rfl, by rw [HNm.out] at h ⊢; exact h, HB.out⟩
end Go.Proofs.Ytnhdpegjkkaabaa
namespace Go.Proofs.Ytnhdpegjkkaabaa
set_option linter.unusedVariables false
set_option linter.unusedSimpArgs false
open Go.RowKit

theorem zeroRO (w : World) : (zeroValue 30).run Try.prog w = .ok (.agg #[.slice none 0 0, .slice none 0 0]) w := by kernel_rfl
theorem results_ro {tmps : Array Value} {w : World} {G : Nat} {x v y z : Value} (hp : tmps.getD 2 undef = .pointer (some ⟨G, 0, none⟩)) (hy : tmps.getD 3 undef = y) (hz : tmps.getD 4 undef = z)
    (c0 : w.cell? ⟨G, 0, none⟩ = some x) (c1 : w.cell? ⟨G, 1, none⟩ = some v) : (results Try.f27 tmps).run Try.prog w = .ok (.tuple #[.agg #[x, v], y, z]) w := by
  have hr : Try.f27.results = #[.cell 2 30, .tmp 3, .tmp 4] := rfl
  have hl : (loadVar 30 ⟨G, 0, none⟩).run Try.prog w = .ok (.agg #[x, v]) w := run_loadVar_mid w G 0 30 [x, v] _ (fun j u hj => by
    match j, hj with
    | 0, hj => cases hj; exact c0
    | 1, hj => cases hj; exact c1
    | j + 2, hj => simp at hj) Try.underlying30 rfl (by kernel_rfl)
  have hp' : tmps[2]?.getD undef = .pointer (some ⟨G, 0, none⟩) := by simpa using hp
  subst hy
  subst hz
  simp [results, hr, hp', asAddr, hl]
theorem off_ne1 {G : Nat} : (⟨G, 1, none⟩ : Addr) ≠ ⟨G, 0, none⟩ := by intro h; injection h with _ h _; cases h
/-- A table of Booleans: rows of slices. -/
def MatAt (w : World) (M : Option Addr) (n : Nat) (F : Nat → Nat → Bool) : Prop :=
  0 < n → ∃ b off, M = some ⟨b, off, none⟩ ∧ b < w.heap.size ∧ ∀ a, a < n → ∃ P c, w.cell? ⟨b, off + a, none⟩ = some (.slice P n c) ∧ Sh w w.heap.size P n (bools n (F a))
/-- The document's order in memory: its two slices. -/
structure RefAt (w : World) (o : Od) (v m : Value) : Prop where
  wf : o.Wf
  nm : ∃ A c, v = .slice A o.ns.length c ∧ Sh w w.heap.size A o.ns.length (strs o.ns)
  mt : ∃ M c, m = .slice M o.ns.length c ∧ MatAt w M o.ns.length (fun a b => o.most a b)
theorem Sh.grow {w w' : World} {A : Option Addr} {n : Nat} {xs : List Value} (h : Sh w w.heap.size A n xs) (b : Below w.heap.size w w') : Sh w' w'.heap.size A n xs := (h.below b).more b.size
theorem MatAt.stay {w w' : World} {M : Option Addr} {n : Nat} {F : Nat → Nat → Bool} (h : MatAt w M n F) (hb : Below w.heap.size w w') : MatAt w' M n F := fun hn => by
  obtain ⟨b, off, e, hlt, hc⟩ := h hn
  refine ⟨b, off, e, Nat.lt_of_lt_of_le hlt hb.size, fun a ha => ?_⟩
  obtain ⟨P, c, h1, h2⟩ := hc a ha
  exact ⟨P, c, (hb.cell (p := ⟨b, off + a, none⟩) hlt).trans h1, h2.grow hb⟩
theorem RefAt.stay {w w' : World} {o : Od} {v m : Value} (h : RefAt w o v m) (hb : Below w.heap.size w w') : RefAt w' o v m := by
  obtain ⟨hw, ⟨A, c, e, h1⟩, ⟨M, d, e2, h2⟩⟩ := h
  exact ⟨hw, ⟨A, c, e, h1.grow hb⟩, ⟨M, d, e2, h2.stay hb⟩⟩
/-- An element of the table. -/
theorem MatAt.at {w : World} {M : Option Addr} {n : Nat} {F : Nat → Nat → Bool} (h : MatAt w M n F) {a b : Nat} (ha : a < n) (hb : b < n) : ∃ mb mo pb po c, M = some ⟨mb, mo, none⟩ ∧ w.cell? ⟨mb, mo + a, none⟩ = some (.slice (some ⟨pb, po, none⟩) n c) ∧ w.cell? ⟨pb, po + b, none⟩ = some (.bool (F a b)) := by
  obtain ⟨mb, mo, e, _, hc⟩ := h (by omega)
  obtain ⟨P, c, h1, h2⟩ := hc a ha
  obtain ⟨pb, po, u, rfl, _, hu, hcell⟩ := h2.at hb
  rw [bools_at hu] at hcell
  exact ⟨mb, mo, pb, po, c, e, h1, hcell⟩
/-- Rows of Booleans, each the call's own. -/
def RowsAt (w : World) (B n : Nat) (F : Nat → Nat → Bool) (rows : List Value) : Prop := ∀ j, j < rows.length → ∃ P c, rows[j]? = some (.slice P n c) ∧ Own w B 4 1 (.slice P n c) n (bools n (F j))
theorem MatAt.of_rows {w : World} {B n : Nat} {F : Nat → Nat → Bool} {rows : List Value} {M : Option Addr} {c : Nat} (hv : Own w B 52 1 (.slice M n c) n rows) (hl : rows.length = n) (h : RowsAt w B n F rows) : MatAt w M n F := fun hn => by
  obtain ⟨b, off, e, hb, hc⟩ := hv.sh.2 hn
  refine ⟨b, off, e, hb, fun a ha => ?_⟩
  obtain ⟨P, d, h1, h2⟩ := h a (by rw [hl]; exact ha)
  exact ⟨P, d, hc a _ h1, h2.sh⟩
/-- The document's order, in blocks of the call's own. -/
def RefOwn (w : World) (B : Nat) (o : Od) (v m : Value) : Prop := o.Wf ∧ ∃ (B1 : Nat) (A : Option Addr) (c : Nat) (M : Option Addr) (d B2 : Nat) (rows : List Value), B ≤ B1 ∧ B ≤ B2 ∧ v = .slice A o.ns.length c ∧ m = .slice M o.ns.length d ∧
  Own w B1 9 1 (.slice A o.ns.length c) o.ns.length (strs o.ns) ∧ Own w B2 52 1 (.slice M o.ns.length d) o.ns.length rows ∧ rows.length = o.ns.length ∧ RowsAt w B2 o.ns.length (fun a b => o.most a b) rows
theorem RefOwn.ref {w : World} {B : Nat} {o : Od} {v m : Value} (h : RefOwn w B o v m) : RefAt w o v m := by
  obtain ⟨hw, B1, A, c, M, d, B2, rows, _, _, rfl, rfl, h1, h2, h3, h4⟩ := h
  exact ⟨hw, ⟨A, c, rfl, h1.sh⟩, ⟨M, d, rfl, MatAt.of_rows h2 h3 h4⟩⟩
def RnewTo (w : World) (l : List OPr) (e : Ending) (w' : World) : Prop :=
  Below w.heap.size w w' ∧ match newO l with
    | (none, i, x) => e = .returned (.tuple #[.agg #[.slice none 0 0, .slice none 0 0], .int .i64 (i : Int), .int .i64 (x : Int)])
    | (some o, _, _) => ∃ v m, e = .returned (.tuple #[.agg #[v, m], .int .i64 0, .int .i64 0]) ∧ RefAt w' o v m ∧ RefOwn w' w.heap.size o v m
theorem rnewTo_add {w w' : World} {l : List OPr} {o : Od} {k : Nat} {p : OPr} {r : List OPr} (h : Od.zero.adds l 0 = o.adds (p :: r) k) (he : (o.add p).2 ≠ 0) (hb : Below w.heap.size w w') :
    RnewTo w l (.returned (.tuple #[.agg #[.slice none 0 0, .slice none 0 0], .int .i64 (k : Int), .int .i64 ((o.add p).2 : Int)])) w' := by
  refine ⟨hb, ?_⟩
  have e1 : Od.zero.adds l 0 = (o, k, (o.add p).2) := by rw [h, Od.adds, if_pos he]
  have e2 : newO l = (none, k, (o.add p).2) := by unfold newO; rw [e1, if_pos he]
  rw [e2]
theorem rnewTo_bad {w w' : World} {l : List OPr} {o : Od} {k : Nat} (h : Od.zero.adds l 0 = (o, 0, 0)) (he : o.fol.bad l 0 = some k) (hb : Below w.heap.size w w') :
    RnewTo w l (.returned (.tuple #[.agg #[.slice none 0 0, .slice none 0 0], .int .i64 (k : Int), .int .i64 16])) w' := by
  refine ⟨hb, ?_⟩
  have e2 : newO l = (none, k, 16) := by unfold newO; rw [h, if_neg (fun h => h rfl)]; dsimp only; rw [he]
  rw [e2]
  rfl
theorem rnewTo_ok {w w' : World} {l : List OPr} {o : Od} {v m : Value} (h : Od.zero.adds l 0 = (o, 0, 0)) (he : o.fol.bad l 0 = none) (hb : Below w.heap.size w w') (ho : RefAt w' o.fol v m ∧ RefOwn w' w.heap.size o.fol v m) :
    RnewTo w l (.returned (.tuple #[.agg #[v, m], .int .i64 0, .int .i64 0])) w' := by
  refine ⟨hb, ?_⟩
  have e2 : newO l = (some o.fol, 0, 0) := by unfold newO; rw [h, if_neg (fun h => h rfl)]; dsimp only; rw [he]
  rw [e2]
  exact ⟨v, m, rfl, ho⟩
theorem Own.setq {a : World} {B n size : Nat} {e : TypeId} {v : Value} {xs : List Value} (h : Own a B e size v n xs) {p : Addr} (hp : p.block < B) (u : Value) : Own (a.setCell p u) B e size v n xs := by
  refine ⟨⟨h.1.1, ?_⟩, by simpa using h.2⟩
  rcases h.1.2 with h1 | ⟨q, cap, cur, h1, h2, h3, h4⟩
  · exact .inl h1
  · exact .inr ⟨q, cap, cur, h1, h2, (Below.heap_setCell _ _ _ _ (by omega)).trans h3, h4⟩
theorem RowsAt.below {w w' : World} {B n : Nat} {F : Nat → Nat → Bool} {rows : List Value} (h : RowsAt w B n F rows) (hb : Below w.heap.size w w') : RowsAt w' B n F rows := fun j hj => by
  obtain ⟨P, c, e, ho⟩ := h j hj
  exact ⟨P, c, e, ho.below hb⟩
theorem RowsAt.other {w w' : World} {B n : Nat} {F : Nat → Nat → Bool} {rows xs : List Value} {v : Value} {B' m size : Nat} {t : TypeId} (h : RowsAt w B n F rows) (hv : Own w B' t size v m xs) (hne : 4 ≠ t) (hg : w.grownBy w' v.ownBlock) : RowsAt w' B n F rows := fun j hj => by
  obtain ⟨P, c, e, ho⟩ := h j hj
  exact ⟨P, c, e, ho.other hv hne hg⟩
theorem RowsAt.set {w : World} {B n : Nat} {F : Nat → Nat → Bool} {rows : List Value} (h : RowsAt w B n F rows) {p : Addr} (hp : p.block < B) (u : Value) : RowsAt (w.setCell p u) B n F rows := fun j hj => by
  obtain ⟨P, c, e, ho⟩ := h j hj
  exact ⟨P, c, e, ho.setq hp u⟩
theorem RowsAt.snoc {w : World} {B n : Nat} {F : Nat → Nat → Bool} {rows : List Value} (h : RowsAt w B n F rows) {P : Option Addr} {c : Nat} (ho : Own w B 4 1 (.slice P n c) n (bools n (F rows.length))) : RowsAt w B n F (rows ++ [.slice P n c]) := fun j hj => by
  rcases Nat.lt_or_ge j rows.length with e | e
  · obtain ⟨Q, d, h1, h2⟩ := h j e
    exact ⟨Q, d, by rw [List.getElem?_append_left e]; exact h1, h2⟩
  · have : j = rows.length := by simp at hj; omega
    subst this
    exact ⟨P, c, by simp, ho⟩
theorem rowBB : RowT Try.prog 28 52 1 24 := RowT.mk (z := .slice none 0 0) Try.underlying28 (by kernel_rfl) rfl (by omega)
theorem ShP.head {w : World} {B n : Nat} {A : Option Addr} {L : List OPa} (h : ShP w B A n L) {k : Nat} (hk : k ≤ n) : ShP w B A k (L.take k) := by
  refine ⟨by rw [List.length_take, h.1]; omega, fun hn => ?_⟩
  obtain ⟨b, off, e, hb, hc⟩ := h.2 (by omega)
  refine ⟨b, off, e, hb, fun j t ht => hc j t ?_⟩
  rw [List.getElem?_take] at ht
  split at ht
  · exact ht
  · cases ht
theorem ShP.more {w : World} {B B' n : Nat} {A : Option Addr} {L : List OPa} (h : ShP w B A n L) (hB : B ≤ B') : ShP w B' A n L := ⟨h.1, fun hn => by
  obtain ⟨b, off, e, hb, hc⟩ := h.2 hn
  exact ⟨b, off, e, by omega, hc⟩⟩
/-- What is reached, row by row, is the order. -/
theorem rows_most {o : Od} {l : List OPr} (h : Oiv o l) {j : Nat} (hj : j < o.ns.length) : bools o.ns.length (rturns o.ns l j o.ns.length) = bools o.ns.length (fun b => o.fol.most j b) := by
  have hR : Rnm o.ns l := ⟨h.wf.nd, fun s hs => (h.men s).2 hs⟩
  unfold bools
  refine List.map_congr_left fun b hb => ?_
  have hb := List.mem_range.1 hb
  congr 1
  rw [Bool.eq_iff_iff, rturns_all hR hj hb, h.most j b]
  exact ⟨fun h => ⟨hj, hb, h⟩, fun ⟨_, _, h⟩ => h⟩
theorem step_push_q {P : Program} {ops : Array Oper} {o : Oper} {a : Act} {Q : Exit → Act → World → Prop} {K : Act → World → Prop} {E : Prop} (hgd : Region.wanted o (yielded ops a.tmps) = true) (s x : Operand) (t : TypeId) (ho : o.op = .call { callee := .builtin .append, args := #[s, x], argTypes := #[t, t] })
    {e : TypeId} {size bytes : Nat} (hT : RowT P t e size bytes) (w : World) (B : Nat) (v : Value) (n : Nat) (xs us : List Value) (hs : a.eval s = v) (hown : Own w B e size v n xs)
    {G : Nat} (hx : a.eval x = .slice (some ⟨G, 0, none⟩) 1 1) (hG : G = w.heap.size) (hl : us.length = size) (h1 : ∀ u ∈ us, u.oneCell' = true)
    (hlen : n ≤ 1099511627776) (hby : bytes ≤ 64)
    (h : ∀ v' w', Own w' B e size v' (n + 1) (xs ++ us) → (w.alloc (.cells us.toArray e)).grownBy w' v.ownBlock → K (a.put o.dst v') w') :
    if Region.wanted o (yielded ops a.tmps) = true then Oper.wp P o a (w.alloc (.cells us.toArray e)) K Q else E := by
  rw [if_pos hgd]
  exact wp_push_g s x t ho hT w B v n xs us hs hown hx hG hl h1 hlen hby h
theorem row_block {w2 w3 : World} {O B n size : Nat} {e t : TypeId} {v : Value} {xs ys us : List Value} (hb : Blk w2 O t ys) (hv : Own w2 B e size v n xs) (hB : O < B) (hg : (w2.alloc (.cells us.toArray e)).grownBy w3 v.ownBlock) : Blk w3 O t ys := by
  have h1 : Blk (w2.alloc (.cells us.toArray e)) O t ys := hb.stay (Below.heap_alloc _ _ _ hb.lt)
  exact h1.keep hg (fun e => by have := hv.block_ge O e; omega)
/-- What a round of the document's rows leaves. -/
theorem row_close {w4 w2 w3 : World} {O n a : Nat} {F : Nat → Nat → Bool} {rows : List Value} {x v v3 : Value} {P : Option Addr} {c : Nat}
    (hb : Blk w2 O 30 [x, v]) (hv : Own w2 (O + 1) 52 1 v a rows) (hr : RowsAt w2 (O + 1) n F rows) (hl : rows.length = a) (hrow : Own w2 (O + 1) 4 1 (.slice P n c) n (bools n (F a))) (hB : Below O w4 w2)
    (h3 : Own w3 (O + 1) 52 1 v3 (a + 1) (rows ++ [.slice P n c])) (hg : (w2.alloc (.cells #[.slice P n c] 52)).grownBy w3 v.ownBlock) :
    Own (w3.setCell ⟨O, 1, none⟩ v3) (O + 1) 52 1 v3 (a + 1) (rows ++ [.slice P n c]) ∧ RowsAt (w3.setCell ⟨O, 1, none⟩ v3) (O + 1) n F (rows ++ [.slice P n c]) ∧ Blk (w3.setCell ⟨O, 1, none⟩ v3) O 30 [x, v3] ∧ Below O w4 (w3.setCell ⟨O, 1, none⟩ v3) := by
  have hb3 : Blk w3 O 30 [x, v] := row_block (us := [.slice P n c]) hb hv (by omega) hg
  have hva : Own (w2.alloc (.cells #[.slice P n c] 52)) (O + 1) 52 1 v a rows := hv.alloc _
  have hr3 : RowsAt w3 (O + 1) n F (rows ++ [.slice P n c]) := by
    have h1 : RowsAt (w2.alloc (.cells #[.slice P n c] 52)) (O + 1) n F rows := hr.below ((Below.refl _ _).alloc (Nat.le_refl _) _)
    have h2 := h1.other hva (by decide) hg
    refine h2.snoc ?_
    rw [hl]
    exact (hrow.alloc _).other hva (by decide) hg
  refine ⟨h3.setq (by show O < O + 1; omega) _, hr3.set (by show O < O + 1; omega) _, hb3.set 1 v3, ?_⟩
  have h1 := hB.alloc (Nat.le_of_lt hb.lt) (.cells #[.slice P n c] 52)
  exact (h1.grown hg (by simp; have := hb.lt; omega) (fun k hk => by have := hv.block_ge k hk; omega)).setCell (p := ⟨O, 1, none⟩) (Nat.le_refl _) _
theorem ref_close {W : World} {B O R : Nat} {o : Od} {A M : Option Addr} {c d : Nat} {rows : List Value} {x y : Value} (hw : o.Wf) (hn : Own W B 9 1 (.slice A o.ns.length c) o.ns.length (strs o.ns))
    (hv : Own W (O + 1) 52 1 (.slice M o.ns.length d) o.ns.length rows) (hl : rows.length = o.ns.length) (hr : RowsAt W (O + 1) o.ns.length (fun a b => o.most a b) rows) (h1 : R < B) (h2 : R < O + 1) :
    RefAt ((W.setCell ⟨R, 0, none⟩ x).setCell ⟨R, 1, none⟩ y) o (.slice A o.ns.length c) (.slice M o.ns.length d) ∧ RefOwn ((W.setCell ⟨R, 0, none⟩ x).setCell ⟨R, 1, none⟩ y) R o (.slice A o.ns.length c) (.slice M o.ns.length d) := by
  have n2 := (hn.setq (p := ⟨R, 0, none⟩) h1 x).setq (p := ⟨R, 1, none⟩) h1 y
  have v2 := (hv.setq (p := ⟨R, 0, none⟩) h2 x).setq (p := ⟨R, 1, none⟩) h2 y
  have r2 := (hr.set (p := ⟨R, 0, none⟩) h2 x).set (p := ⟨R, 1, none⟩) h2 y
  have ho : RefOwn ((W.setCell ⟨R, 0, none⟩ x).setCell ⟨R, 1, none⟩ y) R o (.slice A o.ns.length c) (.slice M o.ns.length d) := ⟨hw, B, A, c, M, d, O + 1, rows, Nat.le_of_lt h1, Nat.le_of_lt h2, rfl, rfl, n2, v2, hl, r2⟩
  exact ⟨ho.ref, ho⟩
/-- The result's block takes what is stored, and is handed back. -/
theorem ro_done {Q : Ending → World → Prop} {w0 W : World} {R : Nat} {x v y z p q : Value} {a : Act} (hp : a.tmps.getD 2 undef = .pointer (some ⟨R, 0, none⟩)) (h3 : a.tmps.getD 3 undef = y) (h4 : a.tmps.getD 4 undef = z) (hd : a.defers = [])
    (hR : Blk w0 R 30 [p, q]) (hb : Below w0.heap.size w0 W) (hQ : Q (.returned (.tuple #[.agg #[x, v], y, z])) ((W.setCell ⟨R, 0, none⟩ x).setCell ⟨R, 1, none⟩ v)) :
    bodyPost Try.prog Try.f27 Q Exit.ret a ((W.setCell ⟨R, 0, none⟩ x).setCell ⟨R, 1, none⟩ v) := by
  have hW : Blk W R 30 [p, q] := hR.stay (hb.block _ hR.lt)
  have h2 := (hW.set 0 x).set 1 v
  exact bodyPost_ret (results_ro hp h3 h4 (h2.cell 0) (h2.cell 1)) hd hQ
theorem ro_cells {w0 W : World} {R : Nat} {p q : Value} (hR : Blk w0 R 30 [p, q]) (hb : Below w0.heap.size w0 W) : W.cell? ⟨R, 0, none⟩ = some p ∧ W.cell? ⟨R, 1, none⟩ = some q ∧ W.frozen? ⟨R, 0, none⟩ = false ∧ W.frozen? ⟨R, 1, none⟩ = false := by
  have hW : Blk W R 30 [p, q] := hR.stay (hb.block _ hR.lt)
  exact ⟨hW.cell 0, hW.cell 1, hW.nf 0, hW.nf 1⟩
end Go.Proofs.Ytnhdpegjkkaabaa
