/-
  CONTRACT OF Sorted.
-/
import Derived.Test.YtnbgaenajehbkaaOrE
namespace Go.Proofs.Ytnbgaenajehbkaa
set_option linter.unusedVariables false
set_option linter.unusedSimpArgs false
open Go.RowKit Go.Maps

theorem osorted_nil (w : World) : Calls Try.prog 13 #[.pointer none] w fun e w' => e = .returned (.slice none 0 0) ∧ w = w' := by
  have h0 := Lib.hid (olen_nil w)
  go_enter Try.func13, Try.ntmps13
  go_wp2_with (first
    | (go_at_call 10; with_reducible refine h0.out.mono ?_; rintro e w2 ⟨rfl, rfl⟩)
    | go_in)
  go_wp2
  go_step3
  go_wp2_with (first
    | (go_at_call 10; with_reducible refine h0.out.mono ?_; rintro e w2 ⟨rfl, rfl⟩)
    | go_in)
  go_step3
  go_wp2_with (first
    | (go_at_call 10; with_reducible refine h0.out.mono ?_; rintro e w2 ⟨rfl, rfl⟩)
    | go_in)
  go_loopw [3, 4, 8] (fun v d i wr => v = .slice none 0 0 ∧ i = .int .i64 0 ∧ wr = w) (fun _ _ _ _ => 0)
  case atStart => exact ⟨rfl, rfl, rfl⟩
  case round =>
    obtain ⟨rfl, rfl, rfl⟩ := hrel
    go_wp2
    rw [Exit.noGoto_ret]
    go_ret
    exact ⟨rfl, rfl⟩

/-- Is i the next one, where these are done? -/
def opickB (o : Od) (done i : Nat) : Bool := bits .andNot .u64 (o.be i : Int) (done : Int) == (obitN i : Int)
def osrt (o : Od) : Nat → List Nat × Nat
  | 0 => ([], 0)
  | k + 1 => match (List.range o.ns.length).find? (opickB o (osrt o k).2) with
    | some i => ((osrt o k).1 ++ [i], (osrt o k).2 ||| 2 ^ i)
    | none => osrt o k
theorem osrt_len (o : Od) : ∀ k, (osrt o k).1.length ≤ k
  | 0 => Nat.le_refl _
  | k + 1 => by
    have := osrt_len o k
    unfold osrt
    split
    · simp; omega
    · omega
theorem osrt_lt {o : Od} (h : o.Wf) : ∀ k, (osrt o k).2 < 2 ^ 64
  | 0 => by simp [osrt]
  | k + 1 => by
    have := osrt_lt h k
    unfold osrt
    split
    · rename_i i hi
      have hm := List.mem_of_find?_eq_some hi
      have hl := h.len
      have := List.mem_range.1 hm
      exact Nat.or_lt_two_pow (osrt_lt h k) (pow_lt64 (by omega))
    · exact osrt_lt h k
theorem osrt_yes {o : Od} {k i : Nat} (hi : i < o.ns.length) (h : opickB o (osrt o k).2 i = true) (hno : ∀ j, j < i → opickB o (osrt o k).2 j = false) : osrt o (k + 1) = ((osrt o k).1 ++ [i], (osrt o k).2 ||| 2 ^ i) := by
  have : (List.range o.ns.length).find? (opickB o (osrt o k).2) = some i := by
    rw [List.find?_range_eq_some]
    exact ⟨h, List.mem_range.2 hi, fun j hj => by rw [hno j hj]; rfl⟩
  rw [osrt, this]
theorem osrt_no {o : Od} {k : Nat} (hno : ∀ j, j < o.ns.length → opickB o (osrt o k).2 j = false) : osrt o (k + 1) = osrt o k := by
  have : (List.range o.ns.length).find? (opickB o (osrt o k).2) = none := by
    rw [List.find?_range_eq_none]
    exact fun j hj => by rw [hno j hj]; rfl
  rw [osrt, this]
def ints (l : List Nat) : List Value := l.map fun (i : Nat) => Value.int .i64 (i : Int)
theorem ints_snoc (l : List Nat) (i : Nat) : ints (l ++ [i]) = ints l ++ [.int .i64 (i : Int)] := by simp [ints]
theorem rowI : RowT Try.prog 35 3 1 8 := RowT.mk (z := .int .i64 0) Try.underlying35 (by kernel_rfl) rfl (by omega)
def SrtTo (w : World) (l : List Nat) (e : Ending) (w' : World) : Prop := ∃ v, e = .returned v ∧ Own w' w.heap.size 3 1 v l.length (ints l) ∧ Below w.heap.size w w'
section
variable {w : World} {X : Nat → Prop} {g : Nat} {o : Od}
set_option maxRecDepth 100000 in
set_option maxHeartbeats 1600000 in
theorem osorted_any (h : OrdAt w X g o) : Calls Try.prog 13 #[.pointer (some ⟨g, 0, none⟩)] w (SrtTo w (osrt o o.ns.length).1) := by
  have hl := h.wf.len
  have HL := Lib.hid (fun (w1 : World) (b : Below w.heap.size w w1) => olen_any (h.stay b))
  have hL0 := Lib.hid (olen_any h)
  have HO := Lib.hid h
  have HW := Lib.hid (osrt_lt h.wf)
  clear h
  go_enter Try.func13, Try.ntmps13
  go_wp2_with (first
    | (go_at_call 10; with_reducible refine hL0.out.mono ?_; rintro e w2 ⟨rfl, rfl⟩)
    | go_in)
  go_step3
  go_wp2_with (first
    | (go_at_call 10; with_reducible refine hL0.out.mono ?_; rintro e w2 ⟨rfl, rfl⟩)
    | go_in)
  go_step3
  go_wp2_with (first
    | (go_at_call 10; with_reducible refine hL0.out.mono ?_; rintro e w2 ⟨rfl, rfl⟩)
    | go_in)
  go_loopw [3, 4, 8] (fun v d i wr => ∃ k : Nat, i = .int .i64 (k : Int) ∧ k ≤ o.ns.length ∧ d = .int .u64 ((osrt o k).2 : Int) ∧ Hid (Own wr w.heap.size 3 1 v (osrt o k).1.length (ints (osrt o k).1)) ∧ Hid (Below w.heap.size w wr)) (fun _ _ i _ => o.ns.length - (intOf i).toNat)
  case atStart => exact ⟨0, rfl, Nat.zero_le _, rfl, Lib.hid (Own.nil w _ _ _ (Nat.le_refl _)), Lib.hid (Below.refl _ _)⟩
  case round =>
    obtain ⟨k, rfl, hk, rfl, HV, HB⟩ := hrel
    obtain ⟨wa, hwa⟩ : ∃ wa, wa = wr := ⟨_, rfl⟩
    subst hwa
    obtain ⟨V, hV⟩ : ∃ V, V = u3 := ⟨_, rfl⟩
    subst hV
    by_cases hlt : k < o.ns.length
    · have hlen : (osrt o k).1.length ≤ 64 := Nat.le_trans (osrt_len o k) (by omega)
      have hdl := Lib.hid (HW.out k)
      have HY := Lib.hid (fun j hj h1 h2 => osrt_yes (o := o) (k := k) (i := j) hj h1 h2)
      have HNO := Lib.hid (fun h2 => osrt_no (o := o) (k := k) h2)
      obtain ⟨D, hD⟩ : ∃ D, (osrt o k).2 = D := ⟨_, rfl⟩
      obtain ⟨S, hS⟩ : ∃ S, (osrt o k).1 = S := ⟨_, rfl⟩
      rw [hD] at hdl HY HNO
      rw [hS] at hlen HV HY
      rw [hD]
      have HD := Lib.hid hD
      have HSS := Lib.hid hS
      clear hD hS
      go_wp2_with (first
        | (go_at_call 10; with_reducible refine (HL.out _ HB.out).mono ?_; rintro e w2 ⟨rfl, rfl⟩)
        | go_in)
      go_loopw [3, 4, 12] (fun v' d i wr => ∃ j : Nat, v' = V ∧ d = .int .u64 (D : Int) ∧ i = .int .i64 (j : Int) ∧ j ≤ o.ns.length ∧ Hid (∀ m, m < j → opickB o D m = false) ∧ Hid (Quiet wa wr)) (fun _ _ i _ => o.ns.length - (intOf i).toNat)
      case atStart => exact ⟨0, rfl, rfl, rfl, Nat.zero_le _, Lib.hid (fun m hm => absurd hm (Nat.not_lt_zero _)), Lib.hid (Quiet.refl _)⟩
      case round =>
        obtain ⟨j, rfl, rfl, rfl, hj, HNF, HQ⟩ := hrel
        obtain ⟨wb, hwb⟩ : ∃ wb, wb = wr := ⟨_, rfl⟩
        subst hwb
        by_cases hlt2 : j < o.ns.length
        · have hj64 : j < 64 := by omega
          have hO1 := (HO.out.stay HB.out).quiet HQ.out
          have cb := hO1.cb hj64
          have HBIT := Lib.hid (fun q => obit_any (wb.drewN q) j hj64)
          clear hO1
          cases hp : opickB o D j with
          | true =>
            have HY2 := Lib.hid (HY.out j hlt2 hp HNF.out)
            have ht : (bits .andNot .u64 (o.be j : Int) (D : Int) == (obitN j : Int)) = true := hp
            have hown := HV.out.quiet HQ.out
            have HB1 := Lib.hid (HB.out.trans ((HQ.out.below w.heap.size)))
            clear hp
            go_wp2
            go_quiet ((go_at_call 21; exact Calls.quiet_of_same ((HBIT.out _).mono fun e w' ⟨h1, h2⟩ => ⟨h1, h2.symm⟩)))
            have hown := hown.drewN nq
            have hb1 := Lib.hid (HB1.out.trans ((Quiet.one _ nq).below _))
            obtain ⟨wc, hwc⟩ : ∃ wc, wb.drewN nq = wc := ⟨_, rfl⟩
            rw [hwc] at hown hb1
            rw [hwc]
            clear hwc
            go_wp2_with (first
              | (at_builtin; refine wpList_push rfl (.tmp 26) (.tmp 28) 35 rfl rowI w wc w.heap.size _ _ _ [.int .i64 (j : Int)] rfl hown rfl rfl (by intro u hu; rw [List.mem_singleton.1 hu]; rfl) hb1.out (by omega) (by omega) ?_; intro v2 w2 ho2 hb2)
              | (go_at_call 21; refine (obit_any _ j hj64).mono ?_; rintro e w3 ⟨rfl, rfl⟩)
              | go_in)
            refine ⟨⟨k + 1, by go_num, hlt, ?_, ?_, Lib.hid hb2⟩, by simp [intOf]; omega⟩
            · rw [HY2.out, or_u64 hdl.out (show obitN j < 2 ^ 64 from pow_lt64 hj64)]
              rfl
            · rw [HY2.out]
              exact Lib.hid (ho2.cast (by simp) (ints_snoc _ _).symm)
          | false =>
            have ht : (bits .andNot .u64 (o.be j : Int) (D : Int) == (obitN j : Int)) = false := hp
            have HN2 := Lib.hid (show ∀ m, m < j + 1 → opickB o D m = false from fun m hm => by
              rcases Nat.lt_or_ge m j with e | e
              · exact HNF.out m e
              · obtain rfl : m = j := by omega
                exact hp)
            clear hp
            go_wp2
            go_quiet ((go_at_call 21; exact Calls.quiet_of_same ((HBIT.out _).mono fun e w' ⟨h1, h2⟩ => ⟨h1, h2.symm⟩)))
            go_wp2
            go_roundw
            case rel => exact ⟨j + 1, rfl, rfl, by go_num, hlt2, HN2, Lib.hid (HQ.out.trans (Quiet.one _ _))⟩
            case measure => simp [intOf]; omega
        · obtain rfl : j = o.ns.length := by omega
          have HE := Lib.hid (HNO.out HNF.out)
          go_wp2
          go_roundw
          case rel => exact ⟨k + 1, by go_num, hlt, by rw [HE.out, HD.out], by rw [HE.out, HSS.out]; exact Lib.hid (HV.out.quiet HQ.out), Lib.hid (HB.out.trans (HQ.out.below _))⟩
          case measure => simp [intOf]; omega
    · obtain rfl : k = o.ns.length := by omega
      go_wp2
      rw [Exit.noGoto_ret]
      go_ret
      exact ⟨_, rfl, HV.out, HB.out⟩
end
end Go.Proofs.Ytnbgaenajehbkaa
