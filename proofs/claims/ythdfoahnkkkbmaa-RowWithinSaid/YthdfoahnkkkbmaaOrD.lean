/-
  CONTRACT OF add: a pair's names, and what it says of them.
  CONTRACT OF follow: what follows is found element by element.
-/
import Derived.Test.YthdfoahnkkkbmaaOrB
import Derived.Deep.DeepCutAuto
namespace Go.Proofs.Ythdfoahnkkkbmaa
set_option linter.unusedVariables false
set_option linter.unusedSimpArgs false
open Go.RowKit Go.Maps

section
variable {w w1 w2 : World} {X : Nat → Prop} {g : Nat} {o o' o'' : Od}
theorem OrTo.later (h : OrTo w X g o w1) (b : Below w1.heap.size w1 w2) : OrTo w X g o w2 :=
  ⟨h.1.stay b, h.2.grown (grown_of_below b none) h.1.old (fun k hk => by cases hk)⟩
theorem OrTo.trans (h : OrTo w X g o w1) (k : OrTo w1 X g o' w2) : OrTo w X g o' w2 := ⟨k.1, h.2.trans k.2⟩
theorem OrTo.drewN (h : OrTo w X g o w1) (q : Nat) : OrTo w X g o (w1.drewN q) := h.later ((Quiet.one w1 q).below _)
theorem OrTo.box (h : OrTo w X g o w1) {B : Nat} {t : TypeId} {xs : List Value} (hb : Blk w B t xs) (hX : X B) (j : Nat) : w1.cell? ⟨B, j, none⟩ = xs[j]? := (hb.stay (h.2.block B hX)).cell j
/-- Behind the argument's box. -/
theorem OrTo.unbox {ob : Obj} (h : OrTo (w.alloc ob) (fun k => X k ∨ k = w.heap.size) g o w1) (hX : ∀ b, X b → b < w.heap.size) : OrTo w X g o w1 :=
  ⟨h.1.fewer fun b hb => .inl hb, ⟨h.2.os, h.2.tape, h.2.output, Nat.le_trans (by simp) h.2.size, fun k hk => (h.2.block k (.inl hk)).trans (Below.heap_alloc w ob k (hX k hk))⟩⟩
theorem OrdAt.setA (h : OrdAt w X g o) {i x : Nat} (hi : i < 64) (hx : x < 2 ^ 64) {v : Int} (hv : v = (x : Int)) : OrTo w X g ⟨o.ns, o.be, oup o.ab i x⟩ (w.setCell ⟨g, 66 + i, none⟩ (.int .u64 v)) := by
  subst hv
  have hold := h.old
  have hgX := h.gX
  obtain ⟨v, m, hc, hr, hm, hX⟩ := h.lay
  have hb := hc.set (66 + i) (.int .u64 (x : Int))
  rw [ocells_seta hi] at hb
  have g0 := grown_set w g (66 + i) (.int .u64 (x : Int))
  refine ⟨⟨hgX, fun b hb => by simpa using hold b hb, ⟨v, m, hb, hr.stay fun j hj => g0.block j (hr.lt hj) (fun e => hr.ne_blk hc (by decide) (by rw [hj, e])), hm.keep g0 (fun e => hm.ne_blk hc (by injection e with e; exact e.symm)), hX⟩, ⟨h.wf.nd, h.wf.len, h.wf.be, oup_lt h.wf.ab hx _⟩, h.sz⟩, ?_⟩
  exact (Keeps.refl X w).grown g0 hold (fun k hk => by cases hk; exact hgX)
theorem OrdAt.setB (h : OrdAt w X g o) {i x : Nat} (hi : i < 64) (hx : x < 2 ^ 64) {v : Int} (hv : v = (x : Int)) : OrTo w X g ⟨o.ns, oup o.be i x, o.ab⟩ (w.setCell ⟨g, 2 + i, none⟩ (.int .u64 v)) := by
  subst hv
  have hold := h.old
  have hgX := h.gX
  obtain ⟨v, m, hc, hr, hm, hX⟩ := h.lay
  have hb := hc.set (2 + i) (.int .u64 (x : Int))
  rw [ocells_setb hi] at hb
  have g0 := grown_set w g (2 + i) (.int .u64 (x : Int))
  refine ⟨⟨hgX, fun b hb => by simpa using hold b hb, ⟨v, m, hb, hr.stay fun j hj => g0.block j (hr.lt hj) (fun e => hr.ne_blk hc (by decide) (by rw [hj, e])), hm.keep g0 (fun e => hm.ne_blk hc (by injection e with e; exact e.symm)), hX⟩, ⟨h.wf.nd, h.wf.len, oup_lt h.wf.be hx _, h.wf.ab⟩, h.sz⟩, ?_⟩
  exact (Keeps.refl X w).grown g0 hold (fun k hk => by cases hk; exact hgX)
theorem OrdAt.nfA (h : OrdAt w X g o) (i : Nat) : w.frozen? ⟨g, i, none⟩ = false := by
  obtain ⟨v, m, hc, _⟩ := h.lay
  exact hc.nf i
theorem OrdAt.looks (h : OrdAt w X g o) : ∃ m, w.cell? ⟨g, 1, none⟩ = some (.map (some m)) ∧ ∀ (s : ByteArray), s.size ≤ maxLen → ∀ q, (Instr.lookup 61 (.map (some m)) (.string s) false).run Try.prog (w.drewN q) = .ok (.int .i64 (o.num s : Int)) (w.drewN q) := by
  obtain ⟨m, c1, hm⟩ := h.c1
  refine ⟨m, c1, fun s hs q => ?_⟩
  have h' : NumAt (w.drewN q) m o.ns := hm
  exact h'.look hs
theorem or_u64 {a b : Nat} (ha : a < 2 ^ 64) (hb : b < 2 ^ 64) : bits .or .u64 (a : Int) (b : Int) = ((a ||| b : Nat) : Int) := u64_or_nat a b ha hb

def AddTo (w : World) (X : Nat → Prop) (g : Nat) (r : Od × Nat) (e : Ending) (w' : World) : Prop := e = .returned (.int .i64 (r.2 : Int)) ∧ (r.2 = 0 → OrdAt w' X g r.1) ∧ Keeps X w w'
theorem ret_i64 {a b : Int} (h : a = b) : Ending.returned (.int .i64 a) = .returned (.int .i64 b) := by rw [h]

set_option maxRecDepth 100000 in
set_option maxHeartbeats 1600000 in
theorem oadd_any (h : OrdAt w X g o) (lo hi : ByteArray) (at_ : Int) (hs1 : lo.size ≤ maxLen) (hs2 : hi.size ≤ maxLen) :
    Calls Try.prog 33 #[.pointer (some ⟨g, 0, none⟩), .agg #[.string lo, .string hi, .int .i64 at_]] w (AddTo w X g (o.add (lo, hi))) := by
  have HX := Lib.hid h.old
  have T0 : OrTo (w.alloc (.cells #[.string lo, .string hi, .int .i64 at_] 25)) (fun k => X k ∨ k = w.heap.size) g o (w.alloc (.cells #[.string lo, .string hi, .int .i64 at_] 25)) := OrTo.refl (h.box _)
  have HBX := Lib.hid (show Blk (w.alloc (.cells #[.string lo, .string hi, .int .i64 at_] 25)) w.heap.size 25 [.string lo, .string hi, .int .i64 at_] from Blk.new w _ _)
  have HU := Lib.hid (fun (o' : Od) (w1 : World) (T : OrTo (w.alloc (.cells #[.string lo, .string hi, .int .i64 at_] 25)) (fun k => X k ∨ k = w.heap.size) g o' w1) => T.unbox HX.out)
  have HC := Lib.hid (fun (o' : Od) (w1 : World) (T : OrTo (w.alloc (.cells #[.string lo, .string hi, .int .i64 at_] 25)) (fun k => X k ∨ k = w.heap.size) g o' w1) =>
    (⟨T.box HBX.out (.inr rfl) 0, T.box HBX.out (.inr rfl) 1⟩ : w1.cell? ⟨w.heap.size, 0, none⟩ = some (.string lo) ∧ w1.cell? ⟨w.heap.size, 1, none⟩ = some (.string hi)))
  obtain ⟨c0, c1⟩ := HC.out _ _ T0
  have T := Lib.hid T0
  clear T0 HBX h
  unfold AddTo
  by_cases hb : oBad (lo, hi) = true
  · have HR := Lib.hid (show o.add (lo, hi) = (o, 1) by unfold Od.add; rw [if_pos hb])
    cases i1 : idB lo with
    | false =>
      have I1 := Lib.hid i1
      clear hb i1
      go_enter Try.func33, Try.ntmps33
      cases hz : (hi.toList == []) with
      | _ =>
        go_wp2_with (first
          | (go_at_call 50; refine (ident_any _ _).mono ?_; rintro e w2 ⟨rfl, b2⟩; rw [I1.out]; have T := Lib.hid (T.out.later b2); clear b2)
          | go_in)
        go_ret
        rw [HR.out]
        exact ⟨rfl, fun e => Nat.noConfusion e, (HU.out _ _ T.out).2⟩
    | true =>
      have I1 := Lib.hid i1
      have hz : (hi.toList == []) = false := by
        rw [toList_nil]
        unfold oBad at hb
        simp [i1] at hb
        simpa using hb.1
      have i2 : idB hi = false := by
        unfold oBad at hb
        simp [i1] at hb
        exact hb.2
      have I2 := Lib.hid i2
      clear hb i1 i2
      go_enter Try.func33, Try.ntmps33
      go_wp2_with (first
        | (go_at_call 50; with_reducible refine (ident_any lo _).mono ?_; rintro e w2 ⟨rfl, b2⟩; rw [I1.out]; have T := Lib.hid (T.out.later b2); obtain ⟨k0, k1⟩ := HC.out _ _ T.out; clear b2)
        | (go_at_call 50; with_reducible refine (ident_any hi _).mono ?_; rintro e w2 ⟨rfl, b2⟩; rw [I2.out]; have T := Lib.hid (T.out.later b2); clear b2)
        | go_in)
      go_ret
      rw [HR.out]
      exact ⟨rfl, fun e => Nat.noConfusion e, (HU.out _ _ T.out).2⟩
  · have i1 : idB lo = true := by
      unfold oBad at hb
      simp at hb
      exact hb.1
    have I1 := Lib.hid i1
    have HA := Lib.hid (show o.add (lo, hi) = if (o.know lo).2 = false then (o, 8) else if hi.size = 0 then ((o.know lo).1, 0) else if ((o.know lo).1.know hi).2 = false then (o, 8)
      else (((o.know lo).1.know hi).1.edge (((o.know lo).1.know hi).1.num lo) (((o.know lo).1.know hi).1.num hi), 0) by unfold Od.add; rw [if_neg hb])
    have HK1 := Lib.hid (fun (w1 : World) (T : OrTo (w.alloc (.cells #[.string lo, .string hi, .int .i64 at_] 25)) (fun k => X k ∨ k = w.heap.size) g o w1) => know_any T.1 lo hs1)
    have HK2 := Lib.hid (fun (w1 : World) (T : OrTo (w.alloc (.cells #[.string lo, .string hi, .int .i64 at_] 25)) (fun k => X k ∨ k = w.heap.size) g (o.know lo).1 w1) => know_any T.1 hi hs2)
    by_cases h0 : hi.size = 0
    · have hz : (hi.toList == []) = true := by rw [toList_nil]; simpa using h0
      cases hk : (o.know lo).2 with
      | false =>
        have HR := Lib.hid (show o.add (lo, hi) = (o, 8) by rw [HA.out, if_pos hk])
        have K1 := Lib.hid hk
        clear hb i1 h0 hk HA HK2
        go_enter Try.func33, Try.ntmps33
        go_wp2_with (first
          | (go_at_call 50; with_reducible refine (ident_any lo _).mono ?_; rintro e w2 ⟨rfl, b2⟩; rw [I1.out]; have T := Lib.hid (T.out.later b2); obtain ⟨k0, k1⟩ := HC.out _ _ T.out; clear b2)
          | (go_at_call 51; with_reducible refine (HK1.out _ T.out).mono ?_; rintro e w2 ⟨rfl, b2⟩; rw [K1.out]; have T := Lib.hid (T.out.trans b2); obtain ⟨k0, k1⟩ := HC.out _ _ T.out; clear b2)
          | go_in)
        go_ret
        rw [HR.out]
        exact ⟨rfl, fun e => Nat.noConfusion e, (HU.out _ _ T.out).2⟩
      | true =>
        have HR := Lib.hid (show o.add (lo, hi) = ((o.know lo).1, 0) by rw [HA.out, if_neg (by rw [hk]; decide), if_pos h0])
        have K1 := Lib.hid hk
        clear hb i1 h0 hk HA HK2
        go_enter Try.func33, Try.ntmps33
        go_wp2_with (first
          | (go_at_call 50; with_reducible refine (ident_any lo _).mono ?_; rintro e w2 ⟨rfl, b2⟩; rw [I1.out]; have T := Lib.hid (T.out.later b2); obtain ⟨k0, k1⟩ := HC.out _ _ T.out; clear b2)
          | (go_at_call 51; with_reducible refine (HK1.out _ T.out).mono ?_; rintro e w2 ⟨rfl, b2⟩; rw [K1.out]; have T := Lib.hid (T.out.trans b2); obtain ⟨k0, k1⟩ := HC.out _ _ T.out; clear b2)
          | go_in)
        go_ret
        rw [HR.out]
        exact ⟨rfl, fun _ => (HU.out _ _ T.out).1, (HU.out _ _ T.out).2⟩
    · have hz : (hi.toList == []) = false := by rw [toList_nil]; simpa using h0
      have i2 : idB hi = true := by
        unfold oBad at hb
        simp [i1, h0] at hb
        exact hb
      have I2 := Lib.hid i2
      cases hk : (o.know lo).2 with
      | false =>
        have HR := Lib.hid (show o.add (lo, hi) = (o, 8) by rw [HA.out, if_pos hk])
        have K1 := Lib.hid hk
        clear hb i1 i2 h0 hk HA HK2
        go_enter Try.func33, Try.ntmps33
        go_wp2_with (first
          | (go_at_call 50; with_reducible refine (ident_any lo _).mono ?_; rintro e w2 ⟨rfl, b2⟩; rw [I1.out]; have T := Lib.hid (T.out.later b2); obtain ⟨k0, k1⟩ := HC.out _ _ T.out; clear b2)
          | (go_at_call 50; with_reducible refine (ident_any hi _).mono ?_; rintro e w2 ⟨rfl, b2⟩; rw [I2.out]; have T := Lib.hid (T.out.later b2); obtain ⟨k0, k1⟩ := HC.out _ _ T.out; clear b2)
          | (go_at_call 51; with_reducible refine (HK1.out _ T.out).mono ?_; rintro e w2 ⟨rfl, b2⟩; rw [K1.out]; have T := Lib.hid (T.out.trans b2); obtain ⟨k0, k1⟩ := HC.out _ _ T.out; clear b2)
          | go_in)
        go_ret
        rw [HR.out]
        exact ⟨rfl, fun e => Nat.noConfusion e, (HU.out _ _ T.out).2⟩
      | true =>
        have K1 := Lib.hid hk
        cases hk2 : ((o.know lo).1.know hi).2 with
        | false =>
          have HR := Lib.hid (show o.add (lo, hi) = (o, 8) by rw [HA.out, if_neg (by rw [hk]; decide), if_neg h0, if_pos hk2])
          have K2 := Lib.hid hk2
          clear hb i1 i2 h0 hk hk2 HA
          go_enter Try.func33, Try.ntmps33
          go_wp2_with (first
            | (go_at_call 50; with_reducible refine (ident_any lo _).mono ?_; rintro e w2 ⟨rfl, b2⟩; rw [I1.out]; have T := Lib.hid (T.out.later b2); obtain ⟨k0, k1⟩ := HC.out _ _ T.out; clear b2)
            | (go_at_call 50; with_reducible refine (ident_any hi _).mono ?_; rintro e w2 ⟨rfl, b2⟩; rw [I2.out]; have T := Lib.hid (T.out.later b2); obtain ⟨k0, k1⟩ := HC.out _ _ T.out; clear b2)
            | (go_at_call 51; with_reducible refine (HK1.out _ T.out).mono ?_; rintro e w2 ⟨rfl, b2⟩; rw [K1.out]; have T := Lib.hid (T.out.trans b2); obtain ⟨k0, k1⟩ := HC.out _ _ T.out; clear b2)
            | (go_at_call 51; with_reducible refine (HK2.out _ T.out).mono ?_; rintro e w2 ⟨rfl, b2⟩; rw [K2.out]; have T := Lib.hid (T.out.trans b2); clear b2)
            | go_in)
          go_ret
          rw [HR.out]
          exact ⟨rfl, fun e => Nat.noConfusion e, (HU.out _ _ T.out).2⟩
        | true =>
          have HR := Lib.hid (show o.add (lo, hi) = (((o.know lo).1.know hi).1.edge (((o.know lo).1.know hi).1.num lo) (((o.know lo).1.know hi).1.num hi), 0) by rw [HA.out, if_neg (by rw [hk]; decide), if_neg h0, if_neg (by rw [hk2]; decide)])
          have K2 := Lib.hid hk2
          have m1 := Od.num_lt (Od.know_sub (s := hi) (Od.know_mem hk))
          have m2 := Od.num_lt (Od.know_mem hk2)
          obtain ⟨o2, ho2⟩ : ∃ o2, ((o.know lo).1.know hi).1 = o2 := ⟨_, rfl⟩
          obtain ⟨na, hna⟩ : ∃ n, o2.num lo = n := ⟨_, rfl⟩
          obtain ⟨nb, hnb⟩ : ∃ n, o2.num hi = n := ⟨_, rfl⟩
          rw [ho2] at HR m1 m2 HK2
          rw [hna] at m1 HR
          rw [hnb] at m2 HR
          have NA := Lib.hid hna
          have NB := Lib.hid hnb
          clear hb i1 i2 h0 hk hk2 HA ho2 hna hnb
          go_enter Try.func33, Try.ntmps33
          go_wp2_with (first
            | (go_at_call 50; with_reducible refine (ident_any lo _).mono ?_; rintro e w2 ⟨rfl, b2⟩; rw [I1.out]; have T := Lib.hid (T.out.later b2); obtain ⟨k0, k1⟩ := HC.out _ _ T.out; clear b2)
            | (go_at_call 50; with_reducible refine (ident_any hi _).mono ?_; rintro e w2 ⟨rfl, b2⟩; rw [I2.out]; have T := Lib.hid (T.out.later b2); obtain ⟨k0, k1⟩ := HC.out _ _ T.out; clear b2)
            | (go_at_call 51; with_reducible refine (HK1.out _ T.out).mono ?_; rintro e w2 ⟨rfl, b2⟩; rw [K1.out]; have T := Lib.hid (T.out.trans b2); obtain ⟨k0, k1⟩ := HC.out _ _ T.out; clear b2)
            | (go_at_call 51; with_reducible refine (HK2.out _ T.out).mono ?_; rintro e w2 ⟨rfl, b2⟩; rw [K2.out]; have T := Lib.hid (T.out.trans b2); obtain ⟨k0, k1⟩ := HC.out _ _ T.out; clear b2)
            | go_in)
          obtain ⟨m, cm, lk⟩ := T.out.1.looks
          have l1 := lk lo hs1
          have l2 := lk hi hs2
          rw [NA.out] at l1
          rw [NB.out] at l2
          clear lk
          go_quiet (fail)
          have T4 := Lib.hid (T.out.drewN nq)
          obtain ⟨w4, hw4⟩ : ∃ w4, w2.drewN nq = w4 := ⟨_, rfl⟩
          rw [hw4] at T4
          rw [hw4]
          have hl := T4.out.1.wf.len
          have na64 : na < 64 := by omega
          have nb64 : nb < 64 := by omega
          clear hw4 l1 l2 cm c0 c1 k0 k1 hl
          have ca := T4.out.1.ca na64
          have fa := T4.out.1.nfA (66 + na)
          go_upto_region 8 with fail
          go_cut [4] (fun s wx => s = .int .i64 0 ∧ wx = (w4.setCell ⟨g, 66 + na, none⟩ (.int .u64 (bits .or .u64 (o2.ab na : Int) (obitN nb : Int)))).drew)
          case first =>
            go_region_with (first
              | (go_at_call 52; refine (obit_any _ _ nb64).mono ?_; rintro e w1 ⟨rfl, rfl⟩)
              | fail)
            all_goals
              go_wp2_with fail
              go_meet
              exact ⟨rfl, rfl⟩
          case rest =>
            obtain ⟨rfl, rfl⟩ := hcut
            have wf4 := T4.out.1.wf
            have T5 := Lib.hid ((T4.out.trans (T4.out.1.setA na64 (Nat.or_lt_two_pow (wf4.ab na) (pow_lt64 nb64)) (or_u64 (wf4.ab na) (pow_lt64 nb64)))).drewN 1)
            obtain ⟨w5, hw5⟩ : ∃ w5, (w4.setCell ⟨g, 66 + na, none⟩ (.int .u64 (bits .or .u64 (o2.ab na : Int) (obitN nb : Int)))).drew = w5 := ⟨_, rfl⟩
            have T6 : Hid (OrTo (w.alloc (.cells #[.string lo, .string hi, .int .i64 at_] 25)) (fun k => X k ∨ k = w.heap.size) g ⟨o2.ns, o2.be, oup o2.ab na (o2.ab na ||| 2 ^ nb)⟩ w5) := by rw [← hw5]; exact T5
            rw [hw5]
            clear hw5 T5 wf4 ca fa
            have ca := T6.out.1.cb nb64
            have fa := T6.out.1.nfA (2 + nb)
            go_upto_region 9 with fail
            go_cut [4] (fun s wx => s = .int .i64 0 ∧ wx = (w5.setCell ⟨g, 2 + nb, none⟩ (.int .u64 (bits .or .u64 (o2.be nb : Int) (obitN na : Int)))).drew)
            case first =>
              go_region_with (first
                | (go_at_call 52; refine (obit_any _ _ na64).mono ?_; rintro e w1 ⟨rfl, rfl⟩)
                | fail)
              all_goals
                go_wp2_with fail
                go_meet
                exact ⟨rfl, rfl⟩
            case rest =>
              obtain ⟨rfl, rfl⟩ := hcut
              have wf4 := T6.out.1.wf
              have T7 := Lib.hid ((T6.out.trans (T6.out.1.setB nb64 (Nat.or_lt_two_pow (wf4.be nb) (pow_lt64 na64)) (or_u64 (wf4.be nb) (pow_lt64 na64)))).drewN 1)
              go_wp2_with fail
              go_ret
              rw [HR.out]
              exact ⟨rfl, fun _ => (HU.out _ _ T7.out).1, (HU.out _ _ T7.out).2⟩
end
end Go.Proofs.Ythdfoahnkkkbmaa
namespace Go.Proofs.Ythdfoahnkkkbmaa
set_option linter.unusedVariables false
set_option linter.unusedSimpArgs false
open Go.RowKit Go.Maps

section
variable {w w1 : World} {X : Nat → Prop} {g : Nat} {o : Od} {ns : List ByteArray} {f a : Nat → Nat} {n k i : Nat}
theorem ofol_b (T : OrTo w X g ⟨ns, opart n k i f, a⟩ w1) (hn : n ≤ 64) (hi : i < n) (hk : k < n) : w1.cell? ⟨g, 2 + i, none⟩ = some (.int .u64 (f i : Int)) ∧ w1.cell? ⟨g, 2 + k, none⟩ = some (.int .u64 (f k : Int)) ∧ w1.frozen? ⟨g, 2 + i, none⟩ = false ∧
    (bits .and .u64 ((f i : Int) / 2 ^ k) 1 == 1) = (f i).testBit k ∧ ((f i).testBit k = true → OrTo w X g ⟨ns, opart n k (i + 1) f, a⟩ (w1.setCell ⟨g, 2 + i, none⟩ (.int .u64 (bits .or .u64 (f i : Int) (f k : Int)))).drew) ∧
    ((f i).testBit k = false → OrTo w X g ⟨ns, opart n k (i + 1) f, a⟩ w1) := by
  have e1 : opart n k i f i = f i := opart_at n k i f
  have e2 : opart n k i f k = f k := opart_self n k i f
  have b1 := T.1.wf.be i
  have b2 := T.1.wf.be k
  have c1 := T.1.cb (i := i) (by omega)
  have c2 := T.1.cb (i := k) (by omega)
  dsimp only at b1 b2 c1 c2
  rw [e1] at b1 c1
  rw [e2] at b2 c2
  refine ⟨c1, c2, T.1.nfA _, otest b1 (by omega), fun h => ?_, fun h => ?_⟩
  · have := (T.trans (T.1.setB (i := i) (by omega) (Nat.or_lt_two_pow b1 b2) (or_u64 b1 b2))).drewN 1
    dsimp only at this
    rw [opart_yes hi h] at this
    exact this
  · rw [← opart_no h]
    exact T
theorem ofol_a {b : Nat → Nat} (T : OrTo w X g ⟨ns, b, opart n k i f⟩ w1) (hn : n ≤ 64) (hi : i < n) (hk : k < n) : w1.cell? ⟨g, 66 + i, none⟩ = some (.int .u64 (f i : Int)) ∧ w1.cell? ⟨g, 66 + k, none⟩ = some (.int .u64 (f k : Int)) ∧ w1.frozen? ⟨g, 66 + i, none⟩ = false ∧
    (bits .and .u64 ((f i : Int) / 2 ^ k) 1 == 1) = (f i).testBit k ∧ ((f i).testBit k = true → OrTo w X g ⟨ns, b, opart n k (i + 1) f⟩ (w1.setCell ⟨g, 66 + i, none⟩ (.int .u64 (bits .or .u64 (f i : Int) (f k : Int)))).drew) ∧
    ((f i).testBit k = false → OrTo w X g ⟨ns, b, opart n k (i + 1) f⟩ w1) := by
  have e1 : opart n k i f i = f i := opart_at n k i f
  have e2 : opart n k i f k = f k := opart_self n k i f
  have b1 := T.1.wf.ab i
  have b2 := T.1.wf.ab k
  have c1 := T.1.ca (i := i) (by omega)
  have c2 := T.1.ca (i := k) (by omega)
  dsimp only at b1 b2 c1 c2
  rw [e1] at b1 c1
  rw [e2] at b2 c2
  refine ⟨c1, c2, T.1.nfA _, otest b1 (by omega), fun h => ?_, fun h => ?_⟩
  · have := (T.trans (T.1.setA (i := i) (by omega) (Nat.or_lt_two_pow b1 b2) (or_u64 b1 b2))).drewN 1
    dsimp only at this
    rw [opart_yes hi h] at this
    exact this
  · rw [← opart_no h]
    exact T

set_option maxRecDepth 100000 in
set_option maxHeartbeats 3200000 in
theorem ofollow_any (h : OrdAt w X g o) : Calls Try.prog 34 #[.pointer (some ⟨g, 0, none⟩)] w fun e w' => e = .returned (.tuple #[]) ∧ OrTo w X g o.fol w' := by
  have hl := h.wf.len
  have HL := Lib.hid (fun (w1 : World) (b a : Nat → Nat) (T : OrTo w X g ⟨o.ns, b, a⟩ w1) => olen_any T.1)
  have hL0 := Lib.hid (olen_any h)
  have H0 : Hid (OrTo w X g ⟨o.ns, orun o.ns.length o.be 0, orun o.ns.length o.ab 0⟩ w) := Lib.hid (OrTo.refl h)
  clear h
  go_enter Try.func34, Try.ntmps34
  go_wp2_with (first
    | (go_at_call 12; with_reducible refine hL0.out.mono ?_; rintro e w2 ⟨rfl, rfl⟩)
    | go_in)
  go_loopw [6] (fun i wr => ∃ k : Nat, i = .int .i64 (k : Int) ∧ k ≤ o.ns.length ∧ Hid (OrTo w X g ⟨o.ns, orun o.ns.length o.be k, orun o.ns.length o.ab k⟩ wr)) (fun i _ => o.ns.length - (intOf i).toNat)
  case atStart => exact ⟨0, rfl, Nat.zero_le _, H0⟩
  case round =>
    obtain ⟨k, rfl, hk, T0⟩ := hrel
    obtain ⟨wa, hwa⟩ : ∃ wa, wa = wr := ⟨_, rfl⟩
    subst hwa
    by_cases hlt : k < o.ns.length
    · go_wp2_with (first
        | (go_at_call 12; with_reducible refine (HL.out _ _ _ T0.out).mono ?_; rintro e w2 ⟨rfl, rfl⟩)
        | go_in)
      have HS := Lib.hid (show orun o.ns.length o.be (k + 1) = opart o.ns.length k o.ns.length (orun o.ns.length o.be k) by rw [opart_full]; rfl)
      have HT := Lib.hid (show orun o.ns.length o.ab (k + 1) = opart o.ns.length k o.ns.length (orun o.ns.length o.ab k) by rw [opart_full]; rfl)
      have T1 : Hid (OrTo w X g ⟨o.ns, opart o.ns.length k 0 (orun o.ns.length o.be k), opart o.ns.length k 0 (orun o.ns.length o.ab k)⟩ wa) := by rw [opart_zero, opart_zero]; exact T0
      obtain ⟨fb, hfb⟩ : ∃ f, orun o.ns.length o.be k = f := ⟨_, rfl⟩
      obtain ⟨fa, hfa⟩ : ∃ f, orun o.ns.length o.ab k = f := ⟨_, rfl⟩
      rw [hfb, hfa] at T1
      rw [hfb] at HS
      rw [hfa] at HT
      clear hfb hfa T0
      go_loopw [11] (fun i wr => ∃ j : Nat, i = .int .i64 (j : Int) ∧ j ≤ o.ns.length ∧ Hid (OrTo w X g ⟨o.ns, opart o.ns.length k j fb, opart o.ns.length k j fa⟩ wr)) (fun i _ => o.ns.length - (intOf i).toNat)
      case atStart => exact ⟨0, rfl, Nat.zero_le _, T1⟩
      case round =>
        obtain ⟨j, rfl, hj, T2⟩ := hrel
        obtain ⟨wb, hwb⟩ : ∃ wb, wb = wr := ⟨_, rfl⟩
        subst hwb
        by_cases hlt2 : j < o.ns.length
        · obtain ⟨c1, c2, nf, ht, hy, hn⟩ := ofol_b T2.out hl hlt2 hlt
          cases hb : (fb j).testBit k with
          | true =>
            rw [hb] at ht
            have T3 := Lib.hid (hy hb)
            have HB := Lib.hid hb
            clear hy hn hb
            go_wp2
            go_region
            obtain ⟨wc, hwc⟩ : ∃ wc, (wb.setCell ⟨g, 2 + j, none⟩ (.int .u64 (bits .or .u64 (fb j : Int) (fb k : Int)))).drew = wc := ⟨_, rfl⟩
            rw [hwc] at T3
            rw [hwc]
            clear hwc c1 c2 nf
            obtain ⟨c1', c2', nf', ht', hy', hn'⟩ := ofol_a T3.out hl hlt2 hlt
            cases ha : (fa j).testBit k with
            | true =>
              rw [ha] at ht'
              have T4 := Lib.hid (hy' ha)
              have HA := Lib.hid ha
              clear hy' hn' ha
              go_wp2
              go_region
              go_wp2
              go_roundw
              case rel => exact ⟨j + 1, by go_num, hlt2, T4⟩
              case measure => simp [intOf]; omega
            | false =>
              rw [ha] at ht'
              have T4 := Lib.hid (hn' ha)
              have HA := Lib.hid ha
              clear hy' hn' ha
              go_wp2
              go_roundw
              case rel => exact ⟨j + 1, by go_num, hlt2, T4⟩
              case measure => simp [intOf]; omega
          | false =>
            rw [hb] at ht
            have T3 := Lib.hid (hn hb)
            have HB := Lib.hid hb
            clear hy hn hb
            obtain ⟨c1', c2', nf', ht', hy', hn'⟩ := ofol_a T3.out hl hlt2 hlt
            cases ha : (fa j).testBit k with
            | true =>
              rw [ha] at ht'
              have T4 := Lib.hid (hy' ha)
              have HA := Lib.hid ha
              clear hy' hn' ha
              go_wp2
              go_region
              go_wp2
              go_roundw
              case rel => exact ⟨j + 1, by go_num, hlt2, T4⟩
              case measure => simp [intOf]; omega
            | false =>
              rw [ha] at ht'
              have T4 := Lib.hid (hn' ha)
              have HA := Lib.hid ha
              clear hy' hn' ha
              go_wp2
              go_roundw
              case rel => exact ⟨j + 1, by go_num, hlt2, T4⟩
              case measure => simp [intOf]; omega
        · obtain rfl : j = o.ns.length := by omega
          go_wp2
          go_roundw
          case rel => exact ⟨k + 1, by go_num, hlt, by rw [HS.out, HT.out]; exact T2⟩
          case measure => simp [intOf]; omega
    · obtain rfl : k = o.ns.length := by omega
      go_wp2
      first | go_ret | go_end0
      exact ⟨rfl, T0.out⟩
end
end Go.Proofs.Ythdfoahnkkkbmaa
