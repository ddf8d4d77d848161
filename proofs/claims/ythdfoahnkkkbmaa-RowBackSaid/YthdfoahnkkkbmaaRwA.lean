/-
  A TABLE OF EFFECTS in memory: its names as a row and as a map; CONTRACTS of what only reads (the trial's row.go, in the style of order.go).
-/
import Derived.Test.YthdfoahnkkkbmaaRwC
namespace Go.Proofs.Ythdfoahnkkkbmaa
set_option linter.unusedVariables false
set_option linter.unusedSimpArgs false
open Go.RowKit Go.Maps

structure RwAt (w : World) (X : Nat → Prop) (g : Nat) (ns : List ByteArray) : Prop where
  gX : ¬ X g
  old : ∀ b, X b → b < w.heap.size
  lay : ∃ v m, Blk w g 96 [v, .map (some m)] ∧ Row w X 9 v ns.length (ns.map Value.string) ∧ NumAt w m ns ∧ ¬ X m
  nd : ns.Nodup
  h64 : ns.length ≤ 64
  sz : ∀ s ∈ ns, s.size ≤ maxLen
section
variable {w w' : World} {X : Nat → Prop} {g : Nat} {ns : List ByteArray}
theorem RwAt.stay (h : RwAt w X g ns) (hb : Below w.heap.size w w') : RwAt w' X g ns := by
  obtain ⟨h1, h2, ⟨v, m, hc, hr, hm, hx⟩, h4, h5, h6⟩ := h
  exact ⟨h1, fun b hb' => Nat.lt_of_lt_of_le (h2 b hb') hb.size, ⟨v, m, hc.stay (hb.block _ hc.lt), hr.stay (fun j hj => hb.block _ (hr.lt hj)), hm.stay (hb.block _ hm.lt), hx⟩, h4, h5, h6⟩
theorem RwAt.c0 (h : RwAt w X g ns) : ∃ A c, w.cell? ⟨g, 0, none⟩ = some (.slice A ns.length c) ∧ Sh w w.heap.size A ns.length (strs ns) := by
  obtain ⟨v, m, hc, hr, _⟩ := h.lay
  obtain ⟨A, c, rfl, _⟩ := hr.form
  exact ⟨A, c, hc.cell 0, hr.sh⟩
theorem RwAt.c1 (h : RwAt w X g ns) : ∃ m, w.cell? ⟨g, 1, none⟩ = some (.map (some m)) ∧ NumAt w m ns := by
  obtain ⟨v, m, hc, hr, hm, _⟩ := h.lay
  exact ⟨m, hc.cell 1, hm⟩
theorem rwlen_any (h : RwAt w X g ns) : Calls Try.prog 25 #[.pointer (some ⟨g, 0, none⟩)] w fun e w' => e = .returned (.int .i64 (ns.length : Int)) ∧ w = w' := by
  obtain ⟨A, c, c0, _⟩ := h.c0
  go_enter Try.func25, Try.ntmps25
  go_wp2
  go_ret
  exact ⟨rfl, rfl⟩
theorem rwlen_nil (w : World) : Calls Try.prog 25 #[.pointer none] w fun e w' => e = .returned (.int .i64 0) ∧ w = w' := by
  go_enter Try.func25, Try.ntmps25
  go_wp2
  go_ret
  exact ⟨rfl, rfl⟩
theorem rwfind_nil (w : World) (s : ByteArray) : Calls Try.prog 49 #[.pointer none, .string s] w fun e w' => e = .returned (.tuple #[.int .i64 0, .bool false]) ∧ w = w' := by
  go_enter Try.func49, Try.ntmps49
  go_wp2
  go_ret2
  exact ⟨rfl, rfl⟩
theorem rwfind_any (h : RwAt w X g ns) (s : ByteArray) (hs : s.size ≤ maxLen) : Calls Try.prog 49 #[.pointer (some ⟨g, 0, none⟩), .string s] w fun e w' => e = .returned (.tuple #[.int .i64 (((opos ns s).getD 0 : Nat) : Int), .bool (opos ns s).isSome]) ∧ w = w' := by
  obtain ⟨m, c1, hm⟩ := h.c1
  have hl := hm.looks hs
  go_enter Try.func49, Try.ntmps49
  go_wp2
  go_ret2
  exact ⟨rfl, rfl⟩
end
theorem andNot_zero {a b : Nat} (ha : a < 2 ^ 64) (hb : b < 2 ^ 64) : (bits .andNot .u64 (a : Int) (b : Int) == 0) = decide (a &&& b = a) := by
  rw [u64_andNot_nat a b ha hb, Bool.eq_iff_iff, beq_iff_eq, decide_eq_true_eq, within_iff]
  have e : 18446744073709551615 - b = 2 ^ 64 - (b + 1) := by omega
  rw [e]
  constructor
  · intro h i hi
    have h0 : a &&& (2 ^ 64 - (b + 1)) = 0 := by omega
    have := congrArg (fun z => z.testBit i) h0
    simp only [Nat.testBit_and, Nat.zero_testBit, Nat.testBit_two_pow_sub_succ hb, hi, Bool.true_and] at this
    by_cases h64 : i < 64
    · simpa [h64] using this
    · rw [bits_high ha (by omega)] at hi
      cases hi
  · intro h
    have : a &&& (2 ^ 64 - (b + 1)) = 0 := by
      refine Nat.eq_of_testBit_eq fun i => ?_
      rw [Nat.testBit_and, Nat.testBit_two_pow_sub_succ hb, Nat.zero_testBit]
      cases e : a.testBit i with
      | false => rfl
      | true => rw [h i e]; simp
    omega
theorem rwwithin_any (w : World) (a b : Nat) (ha : a < 2 ^ 64) (hb : b < 2 ^ 64) : Calls Try.prog 27 #[.int .u64 (a : Int), .int .u64 (b : Int)] w fun e w' => e = .returned (.bool (decide (a &&& b = a))) ∧ Below w.heap.size w w' := by
  have hq := andNot_zero ha hb
  obtain ⟨z, hz⟩ : ∃ z, decide (a &&& b = a) = z := ⟨_, rfl⟩
  rw [hz] at hq ⊢
  have HQ := Lib.hid hq
  clear hz hq
  go_enter Try.func27, Try.ntmps27
  go_wp2
  go_ret
  exact ⟨ret_bool HQ.out, Below.refl _ _⟩
theorem rwcount_any (w : World) (s : Nat) (hs : s < 2 ^ 64) : Calls Try.prog 28 #[.int .u64 (s : Int)] w fun e w' => e = .returned (.int .i64 (popB 64 s : Int)) ∧ Below w.heap.size w w' := by
  have HP := Lib.hid (ones_any s hs w)
  go_enter Try.func28, Try.ntmps28
  go_wp2_with (first
    | (go_at_call 48; (with_reducible refine HP.out.mono ?_); rintro e w2 ⟨rfl, rfl⟩)
    | go_in)
  go_ret
  exact ⟨rfl, Below.refl _ _⟩
set_option maxRecDepth 10000 in
set_option maxHeartbeats 800000 in
theorem rwnames_nil (w : World) (s : Int) : Calls Try.prog 31 #[.pointer none, .int .u64 s] w fun e w' => ∃ A c, e = .returned (.slice A 0 c) ∧ Below w.heap.size w w' := by
  have HN := Lib.hid (rwlen_nil w)
  go_enter Try.func31, Try.ntmps31
  go_wp2_with (first
    | (go_at_call 25; (with_reducible refine HN.out.mono ?_); rintro e w2 ⟨rfl, rfl⟩)
    | go_in)
  go_loopw [5, 9] (fun v i wr => v = .slice none 0 0 ∧ i = .int .i64 0 ∧ wr = w) (fun _ _ _ => 0)
  case atStart => exact ⟨rfl, rfl, rfl⟩
  case round =>
    obtain ⟨rfl, rfl, rfl⟩ := hrel
    go_wp2
    go_ret
    exact ⟨_, _, rfl, Below.refl _ _⟩
theorem zeroName16 : ∀ w : World, (zeroValue 44).run Try.prog w = .ok (.agg #[.string ⟨#[]⟩, .int .i64 0]) w := fun w => by kernel_rfl
theorem or_pow {x i : Nat} (hx : x < 2 ^ 64) (hi : i < 64) : bits .or .u64 (x : Int) (IntKind.u64.wrap (2 ^ i)) = ((x ||| 2 ^ i : Nat) : Int) := by
  have h : (2 : Nat) ^ i < 18446744073709551616 := pow_lt64 hi
  rw [opow hi, u64_or_nat x (2 ^ i) hx h]
set_option maxRecDepth 100000 in
set_option maxHeartbeats 800000 in
theorem rwset_any {w : World} {X : Nat → Prop} {g : Nat} {ns : List ByteArray} (h : RwAt w X g ns) (A : Option Addr) (n c : Nat) (L : List OPn) (hL : ShW w w.heap.size A n L) (hn : n ≤ 1000) (hs : ∀ t ∈ L, t.1.size ≤ 1000) :
    Calls Try.prog 30 #[.pointer (some ⟨g, 0, none⟩), .slice A n c] w (RSetTo ns (L.map (·.1)) w) := by
  have HF := Lib.hid (fun (w1 : World) (b : Below w.heap.size w w1) (s : ByteArray) (hs : s.size ≤ maxLen) => rwfind_any (h.stay b) s hs)
  have h64 := h.h64
  have HZN := Lib.hid hL.len
  clear h
  unfold RSetTo
  obtain ⟨R, hR⟩ : ∃ R, tset ns (L.map (·.1)) 0 0 = R := ⟨_, rfl⟩
  rw [hR]
  have HR := Lib.hid hR
  clear hR
  have hzn := zeroName16
  go_enter Try.func30, Try.ntmps30
  go_wp2
  go_loopw [4, 13] (fun v i wr => ∃ x k : Nat, v = .int .u64 (x : Int) ∧ i = .int .i64 (k : Int) ∧ k ≤ n ∧ x < 18446744073709551616 ∧ Hid (tset ns ((L.map (·.1)).drop k) x k = R) ∧ Hid (Below w.heap.size w wr)) (fun _ i _ => n - (intOf i).toNat)
  case atStart => exact ⟨0, 0, rfl, rfl, Nat.zero_le _, by decide, HR, Lib.hid (Below.refl _ _)⟩
  case round =>
    obtain ⟨x, k, rfl, rfl, hk, hx, HT, HB⟩ := hrel
    obtain ⟨wa, hwa⟩ : ∃ wa, wa = wr := ⟨_, rfl⟩
    subst hwa
    by_cases hlt : k < n
    · obtain ⟨b, off, t, rfl, hb, hget, hdr, c0, c1⟩ := (hL.below HB.out).at hlt
      obtain ⟨s, at_⟩ := t
      have hss := hs _ (List.mem_of_getElem? hget)
      dsimp only at c0 c1 hss
      have ht := HT.out
      rw [← List.map_drop, hdr, List.map_cons] at ht
      have ba := (Below.refl wa.heap.size wa).alloc (Nat.le_refl _) (.cells #[.string s, .int .i64 at_] 44)
      have BA := Lib.hid (HB.out.trans (ba.mono HB.out.size))
      have HFo := HF.out _ BA.out s (by unfold maxLen; omega)
      cases hp : opos ns s with
      | none =>
        rw [hp] at HFo
        have HFo := Lib.hid HFo
        rw [tset, hp] at ht
        have HT2 := Lib.hid ht
        clear ht hget hdr hp ba
        go_wp2_with (first
          | (go_at_call 49; (with_reducible refine HFo.out.mono ?_); rintro e w2 ⟨rfl, rfl⟩)
          | go_in)
        go_ret3
        rw [← HT2.out]
        exact ⟨rfl, BA.out⟩
      | some i =>
        rw [hp] at HFo
        have HFo := Lib.hid HFo
        have hi64 : i < 64 := Nat.lt_of_lt_of_le (opos_lt hp) h64
        have hi0 : 0 ≤ (i : Int) := by omega
        rw [tset, hp] at ht
        have HT2 := Lib.hid ht
        have HO := Lib.hid (or_pow hx hi64)
        have hol : x ||| 2 ^ i < 18446744073709551616 := Nat.or_lt_two_pow hx (Nat.pow_lt_pow_right (by omega) hi64)
        clear ht hget hdr hp ba
        go_wp2_with (first
          | (go_at_call 49; (with_reducible refine HFo.out.mono ?_); rintro e w2 ⟨rfl, rfl⟩)
          | go_in)
        go_roundw
        case rel => exact ⟨x ||| 2 ^ i, k + 1, congrArg (Value.int .u64) (by first | exact HO.out | simpa using HO.out), by go_num, hlt, hol, Lib.hid (by rw [← List.map_drop]; exact HT2.out), BA⟩
        case measure => simp [intOf]; omega
    · obtain rfl : k = n := by omega
      have ht := HT.out
      rw [List.drop_eq_nil_of_le (by rw [List.length_map, HZN.out]; exact Nat.le_refl _), tset] at ht
      have HT2 := Lib.hid ht
      clear ht
      go_wp2
      go_ret3
      rw [← HT2.out]
      exact ⟨rfl, HB.out⟩
set_option maxRecDepth 10000 in
set_option maxHeartbeats 800000 in
theorem rwset_nil (w : World) (A : Option Addr) (n c : Nat) (L : List OPn) (hL : ShW w w.heap.size A n L) (hn : n ≤ 1000) :
    Calls Try.prog 30 #[.pointer none, .slice A n c] w fun e w' => e = .returned (.tuple #[.int .u64 0, .int .i64 0, .int .i64 (if n = 0 then 0 else 13)]) ∧ Below w.heap.size w w' := by
  have HF := Lib.hid (fun (w1 : World) (s : ByteArray) => rwfind_nil w1 s)
  have hzn := zeroName16
  obtain ⟨z, hz⟩ : ∃ z : Int, (if n = 0 then (0 : Int) else 13) = z := ⟨_, rfl⟩
  rw [hz]
  have HZ := Lib.hid hz
  clear hz
  go_enter Try.func30, Try.ntmps30
  go_wp2
  go_loopw [4, 13] (fun v i wr => v = .int .u64 0 ∧ i = .int .i64 0 ∧ wr = w) (fun _ _ _ => 0)
  case atStart => exact ⟨rfl, rfl, rfl⟩
  case round =>
    obtain ⟨rfl, rfl, rfl⟩ := hrel
    obtain ⟨wa, hwa⟩ : ∃ wa, wa = wr := ⟨_, rfl⟩
    subst hwa
    by_cases hlt : 0 < n
    · obtain ⟨b, off, t, rfl, hb, hget, hdr, c0, c1⟩ := hL.at hlt
      obtain ⟨s, at_⟩ := t
      dsimp only at c0 c1
      rw [show off + 0 * 2 = off by omega] at c0 c1
      have ba := Lib.hid ((Below.refl wa.heap.size wa).alloc (Nat.le_refl _) (.cells #[.string s, .int .i64 at_] 44))
      clear hget hdr
      go_wp2_with (first
        | (go_at_call 49; (with_reducible refine (HF.out _ _).mono ?_); rintro e w2 ⟨rfl, rfl⟩)
        | go_in)
      go_ret3
      rw [← HZ.out, if_neg (by omega)]
      exact ⟨rfl, ba.out⟩
    · obtain rfl : n = 0 := by omega
      go_wp2
      go_ret3
      rw [← HZ.out]
      exact ⟨rfl, Below.refl _ _⟩
def pickN (ns : List ByteArray) (s k : Nat) : List ByteArray := ((List.range k).filter fun i => s.testBit i).map fun i => ns.getD i ⟨#[]⟩
theorem pickN_all (ns : List ByteArray) (s : Nat) : pickN ns s ns.length = selN ns s := rfl
theorem pickN_succ (ns : List ByteArray) (s k : Nat) : pickN ns s (k + 1) = pickN ns s k ++ if s.testBit k = true then [ns.getD k ⟨#[]⟩] else [] := by
  unfold pickN
  rw [List.range_succ, List.filter_append, List.map_append]
  congr 1
  rw [List.filter_cons]
  split <;> rfl
theorem pickN_len (ns : List ByteArray) (s k : Nat) : (pickN ns s k).length ≤ k := by
  unfold pickN
  rw [List.length_map]
  have := List.length_filter_le (fun i => s.testBit i) (List.range k)
  simpa using this
theorem strs_app (l m : List ByteArray) : strs (l ++ m) = strs l ++ strs m := by simp [strs]
set_option maxRecDepth 100000 in
set_option maxHeartbeats 800000 in
theorem rwnames_any {w : World} {X : Nat → Prop} {g : Nat} {ns : List ByteArray} (h : RwAt w X g ns) (s : Nat) (hs : s < 2 ^ 64) :
    Calls Try.prog 31 #[.pointer (some ⟨g, 0, none⟩), .int .u64 (s : Int)] w (RNamesTo ns s w) := by
  have HN := Lib.hid (rwlen_any h)
  have HA := Lib.hid (fun (w1 : World) (b : Below w.heap.size w w1) (k : Nat) (hk : k < ns.length) => (by
    obtain ⟨A, c, c0, hsh⟩ := (h.stay b).c0
    obtain ⟨lb, lo, u, rfl, _, hu, c1⟩ := hsh.at hk
    have e : u = .string (ns.getD k ⟨#[]⟩) := by
      unfold strs at hu
      rw [List.getElem?_map, List.getElem?_eq_getElem hk] at hu
      cases hu
      rw [List.getD_eq_getElem?_getD, List.getElem?_eq_getElem hk]
      rfl
    rw [e] at c1
    exact ⟨lb, lo, c, c0, c1⟩ : ∃ lb lo c, w1.cell? ⟨g, 0, none⟩ = some (.slice (some ⟨lb, lo, none⟩) ns.length c) ∧ w1.cell? ⟨lb, lo + k, none⟩ = some (.string (ns.getD k ⟨#[]⟩))))
  have h64 := h.h64
  clear h
  unfold RNamesTo
  rw [← pickN_all]
  go_enter Try.func31, Try.ntmps31
  go_wp2_with (first
    | (go_at_call 25; (with_reducible refine HN.out.mono ?_); rintro e w2 ⟨rfl, rfl⟩)
    | go_in)
  go_loopw [5, 9] (fun v i wr => ∃ k : Nat, i = .int .i64 (k : Int) ∧ k ≤ ns.length ∧ Hid (Own wr w.heap.size 9 1 v (pickN ns s k).length (strs (pickN ns s k))) ∧ Hid (Below w.heap.size w wr)) (fun _ i _ => ns.length - (intOf i).toNat)
  case atStart => exact ⟨0, rfl, Nat.zero_le _, Lib.hid (Own.nil _ _ _ _ (Nat.le_refl _)), Lib.hid (Below.refl _ _)⟩
  case round =>
    obtain ⟨k, rfl, hk, HV, HB⟩ := hrel
    obtain ⟨wa, hwa⟩ : ∃ wa, wa = wr := ⟨_, rfl⟩
    subst hwa
    by_cases hlt : k < ns.length
    · have ht := otest (x := s) (i := k) hs (by omega)
      have HE := Lib.hid (pickN_succ ns s k)
      have hsl := pickN_len ns s k
      cases hb : s.testBit k with
      | false =>
        rw [hb] at ht HE
        go_wp2
        go_roundw
        case rel => exact ⟨k + 1, by go_num, hlt, by rw [HE.out]; simpa using HV, HB⟩
        case measure => simp [intOf]; omega
      | true =>
        rw [hb] at ht HE
        obtain ⟨lb, lo, c, c0, c1⟩ := HA.out wa HB.out k hlt
        obtain ⟨t, hte⟩ : ∃ t, ns.getD k ⟨#[]⟩ = t := ⟨_, rfl⟩
        rw [hte] at c1 HE
        have hown := HV.out
        clear hte hb
        go_wp2_with (first
          | (at_builtin; refine Hid.out ?_)
          | go_in)
        refine Lib.hid ?_
        refine wpList_push rfl (.tmp 17) (.tmp 25) 56 rfl rowS w _ w.heap.size _ _ _ [.string t] rfl hown (by simp [Act.eval]) rfl (by intro u hu; simp at hu; subst hu; rfl) HB.out (by omega) (by omega) ?_
        intro v2 w2 ho2 hb2
        go_wp2
        refine ⟨⟨k + 1, by go_num, hlt, ?_, Lib.hid hb2⟩, by simp [intOf]; omega⟩
        rw [HE.out, if_pos (by trivial), strs_app, List.length_append]
        exact Lib.hid ho2
    · obtain e : k = ns.length := by omega
      subst e
      have hV := HV.out
      obtain ⟨A, c, rfl⟩ := hV.form
      have HVo := Lib.hid hV
      clear hV HV
      go_wp2
      go_ret
      exact ⟨A, c, rfl, HVo.out, HB.out⟩
end Go.Proofs.Ythdfoahnkkkbmaa
