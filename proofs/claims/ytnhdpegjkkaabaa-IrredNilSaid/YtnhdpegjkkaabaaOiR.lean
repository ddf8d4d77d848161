/-
  CONTRACT OF blazonlaw15.right: do pairs make a lattice?
-/
import Derived.Test.YtnhdpegjkkaabaaOlQ
import Derived.Test.YtnhdpegjkkaabaaOqD
namespace Go.Proofs.Ytnhdpegjkkaabaa
set_option linter.unusedVariables false
set_option linter.unusedSimpArgs false
open Go.RowKit

theorem zero_ref (w : World) : RefAt w Od.zero (.slice none 0 0) (.slice none 0 0) :=
  ⟨Od.Wf.zero, ⟨none, 0, rfl, (Own.nil w w.heap.size 9 1 (Nat.le_refl _)).sh⟩, ⟨none, 0, rfl, fun h => absurd h (Nat.lt_irrefl 0)⟩⟩
/-- New's answer in one form. -/
theorem rlnew_one {w : World} {o : Od} {v m : Value} (h : RefAt w o v m) : Calls Try.prog 28 #[.agg #[v, m]] w fun e w' => Below w.heap.size w w' ∧ ∃ (A M J K : Option Addr) (n1 c1 n2 c2 n3 c3 n4 c4 a b c : Nat), LNew o.ns.length (rmost o) a b c ∧
    e = .returned (.tuple #[.agg #[.slice A n1 c1, .slice M n2 c2, .slice J n3 c3, .slice K n4 c4], .int .i64 (a : Int), .int .i64 (b : Int), .int .i64 (c : Int)]) ∧ (c = 0 → LatAt w' o (.slice A n1 c1) (.slice M n2 c2) (.slice J n3 c3) (.slice K n4 c4)) := by
  refine (rlnew_any h).mono ?_
  rintro e w' ⟨hb, a, b, c, hn, he⟩
  refine ⟨hb, ?_⟩
  by_cases hc : c = 0
  · rw [if_pos hc] at he
    obtain ⟨js, ms, rfl, hl, _⟩ := he
    obtain ⟨A, cA, rfl, _⟩ := hl.ref.nm
    obtain ⟨M, cM, rfl, _⟩ := hl.ref.mt
    obtain ⟨J, cJ, rfl, _⟩ := hl.jt
    obtain ⟨K, cK, rfl, _⟩ := hl.mt
    subst hc
    have : a = 0 ∧ b = 0 := by cases hn; exact ⟨rfl, rfl⟩
    obtain ⟨rfl, rfl⟩ := this
    exact ⟨A, M, J, K, _, cA, _, cM, _, cJ, _, cK, 0, 0, 0, hn, rfl, fun _ => hl⟩
  · rw [if_neg hc] at he
    exact ⟨none, none, none, none, 0, 0, 0, 0, 0, 0, 0, 0, a, b, c, hn, he, fun h => absurd h hc⟩
/-- Pairs' order is a lattice. -/
def RightP (l : List OPr) : Prop := ∃ o, (newO l).1 = some o ∧ 0 < o.ns.length ∧ Lat o.ns.length (rmost o) (jn (rmost o) o.ns.length) (mn (rmost o) o.ns.length)
theorem right_no {l : List OPr} (h : (newO l).1 = none) : ¬ RightP l := by
  rintro ⟨o, ho, _⟩
  rw [h] at ho
  cases ho
theorem right_iff {l : List OPr} {o : Od} (h : (newO l).1 = some o) {a b c : Nat} (k : LNew o.ns.length (rmost o) a b c) : c = 0 ↔ RightP l := by
  have z := k.zero_iff (newO_osd h).pord
  constructor
  · intro e
    exact ⟨o, h, (z.1 e).1, (z.1 e).2⟩
  · rintro ⟨o', h', h1, h2⟩
    rw [h] at h'
    cases h'
    exact z.2 ⟨h1, h2⟩
theorem zeroLA2 (w : World) : (zeroValue 33).run Try.prog w = .ok (.agg #[.slice none 0 0, .slice none 0 0, .slice none 0 0, .slice none 0 0]) w := zeroLA w
set_option maxRecDepth 100000 in
set_option maxHeartbeats 800000 in
theorem right_any (A : Option Addr) (n c : Nat) (L : List OPa) (w : World) (hL : ShP w w.heap.size A n L) (hn : n ≤ 1000) (hnc : n ≤ c) (hs : ∀ t ∈ L, t.1.1.size ≤ 1000000 ∧ t.1.2.size ≤ 1000000) :
    Calls Try.prog 9 #[.slice A n c] w fun e w' => Below w.heap.size w w' ∧ ∃ b : Bool, e = .returned (.bool b) ∧ (b = true ↔ RightP (L.map (·.1))) := by
  have hz := zeroRO
  have hz2 := zeroLA
  have hN0 := rnew_any A n c L w hL hn hnc hs
  have hnat := newO_nat (l := L.map (·.1))
  have HRN := Lib.hid (fun h => right_no (l := L.map (·.1)) h)
  have HRI := Lib.hid (fun (o : Od) (h : (newO (L.map (·.1))).1 = some o) (a b c : Nat) (k : LNew o.ns.length (rmost o) a b c) => right_iff h k)
  obtain ⟨l, hl⟩ : ∃ l, L.map (·.1) = l := ⟨_, rfl⟩
  rw [hl] at hN0 hnat HRN HRI ⊢
  clear hl hL hs
  rcases hNN : newO l with ⟨_ | o, i, x⟩
  · unfold RnewTo at hN0
    rw [hNN] at hN0 hnat
    have hx0 : ¬ x = 0 := fun e => by
      obtain ⟨o, ho⟩ := hnat.1 e
      cases ho
    have hxi : ((x : Int) == 0) = false := by simpa using hx0
    have HN := Lib.hid hN0
    have HP := Lib.hid (HRN.out (by rw [hNN]))
    clear hnat hN0
    go_enter Try.func9, Try.ntmps9
    go_wp2_with (first
      | (go_at_call 27; (with_reducible refine HN.out.mono ?_); rintro e w2 ⟨b2, rfl⟩; have HB2 := Lib.hid b2; have HC := Lib.hid (fun wx => rlnew_one (zero_ref wx)); clear b2)
      | (go_at_call 28; (with_reducible refine (HC.out _).mono ?_); rintro e w5 ⟨b5, A1, M1, J1, K1, n1, c1, n2, c2, n3, c3, n4, c4, aa, bb, cc, hln, rfl, _⟩; have HB5 := Lib.hid b5; clear b5)
      | go_in)
    have hA := HB2.out.alloc HB2.out.size (.cells #[.slice none 0 0, .slice none 0 0] 30)
    have hB := hA.trans (HB5.out.mono hA.size)
    go_ret
    exact ⟨hB.alloc hB.size _, false, rfl, ⟨fun h => (by cases h), fun h => absurd h HP.out⟩⟩
  · unfold RnewTo at hN0
    rw [hNN] at hN0 hnat
    have HN := Lib.hid hN0
    have HRO := Lib.hid (HRI.out o (by rw [hNN]))
    clear hnat hN0
    go_enter Try.func9, Try.ntmps9
    go_wp2_with (first
      | (go_at_call 27; (with_reducible refine HN.out.mono ?_); rintro e w2 ⟨b2, v, m, rfl, href, _⟩; obtain ⟨Ao, co, rfl, _⟩ := href.nm; obtain ⟨Mo, cm, rfl, _⟩ := href.mt; have HB2 := Lib.hid b2; have HC := Lib.hid (fun (wx : World) (bx : Below w2.heap.size w2 wx) => rlnew_one (href.stay bx)); clear b2 href)
      | (go_at_call 28; (with_reducible refine (HC.out _ ((Below.refl _ _).alloc (Nat.le_refl _) _)).mono ?_); rintro e w5 ⟨b5, A1, M1, J1, K1, n1, c1, n2, c2, n3, c3, n4, c4, aa, bb, cc, hln, rfl, _⟩; have HB5 := Lib.hid b5; have HLN := Lib.hid hln; clear b5 hln)
      | go_in)
    have hA := HB2.out.alloc HB2.out.size (.cells #[.slice Ao o.ns.length co, .slice Mo o.ns.length cm] 30)
    have hB := hA.trans (HB5.out.mono hA.size)
    go_ret
    refine ⟨hB.alloc hB.size _, ((cc : Int) == 0), rfl, ?_⟩
    rw [beq_iff_eq, ← HRO.out _ _ _ HLN.out]
    omega
end Go.Proofs.Ytnhdpegjkkaabaa
