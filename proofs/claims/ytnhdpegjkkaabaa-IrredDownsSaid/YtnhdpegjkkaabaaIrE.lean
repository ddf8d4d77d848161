/-
  CONTRACT OF layer 15's 'awake'; where the laws begin.
-/
import Derived.Test.YtnhdpegjkkaabaaIrC
namespace Go.Proofs.Ytnhdpegjkkaabaa
set_option linter.unusedVariables false
set_option linter.unusedSimpArgs false
open Go.RowKit Go.Maps

set_option maxRecDepth 100000 in
set_option maxHeartbeats 800000 in
theorem awake15_any (HI : IrNew) (w : World) : Calls Try.prog 10 #[] w fun e w' => e = .returned (.bool true) ∧ Below w.heap.size w w' := by
  obtain ⟨o, ho, hn4, hq, _, hir, hset⟩ := sq_new
  have hz := hq.zero_iff (newO_osd ho).pord
  obtain ⟨h0, hLt⟩ := hz.1 rfl
  have HM := Lib.hid (fun (w : World) => made_any HI (some ⟨w.heap.size, 0, none⟩) 4 4 [((sbo, sl), 0), ((sbo, sr), 0), ((sl, sto), 0), ((sr, sto), 0)] _ (pairs_four w sbo sl sbo sr sl sto sr sto) (by decide) (by decide) (by decide) ho h0 hLt)
  unfold o4b sbo sl sr sto at HM
  have e1 : ((irr (rmost o) o.ns.length).length : Int) = 2 := by rw [hir]; rfl
  have e2 : irElem o 0 = 1 := by
    have := irElem_in (o := o) (i := 0) (by rw [hir]; decide)
    unfold ir at this
    rw [hir] at this
    exact this
  have e3 : irElem o 1 = 2 := by
    have := irElem_in (o := o) (i := 1) (by rw [hir]; decide)
    unfold ir at this
    rw [hir] at this
    exact this
  have e4 : ((irSet o 3 : Nat) : Int) = 3 := by
    have := irSet_in (o := o) (e := 3) (by omega)
    rw [hset] at this
    have h3 : irSet o 3 = 3 := this
    rw [h3]
    rfl
  have E1 := Lib.hid e1
  have E2 := Lib.hid e2
  have E3 := Lib.hid e3
  have E4 := Lib.hid e4
  clear ho hn4 hq hir hset hz h0 hLt e1 e2 e3 e4
  go_enter Try.func10, Try.ntmps10
  go_wp2_with (first
    | (go_at_call 11; (with_reducible refine (HM.out _).mono ?_); rintro e w2 ⟨b2, g, B, M, D, N, P, w5, A1, A2, A3, A4, c1, c2, c3, c4, rfl, hc, hp, hM, hr⟩; have HS := Lib.hid (IrS.start ((Below.refl w.heap.size w).alloc (Nat.le_refl _) _ |>.trans (b2.mono (by simp))) hc hp (by simp) hM hr); clear b2 hc hp hM hr)
    | (go_at_call 13; (with_reducible refine (HS.out.c.len HS.out.p).mono ?_); rintro e w7 ⟨rfl, hp, ht⟩; rw [E1.out]; have HS := Lib.hid (HS.out.tr hp ht); clear hp ht)
    | (go_at_call 14; (with_reducible refine (HS.out.c.elem 0 HS.out.p).mono ?_); rintro e w7 ⟨rfl, hp, ht⟩; rw [E2.out]; have HS := Lib.hid (HS.out.tr hp ht); clear hp ht)
    | (go_at_call 14; (with_reducible refine (HS.out.c.elem 1 HS.out.p).mono ?_); rintro e w7 ⟨rfl, hp, ht⟩; rw [E3.out]; have HS := Lib.hid (HS.out.tr hp ht); clear hp ht)
    | (go_at_call 15; (with_reducible refine (HS.out.c.set 3 HS.out.p).mono ?_); rintro e w7 ⟨rfl, hp, ht⟩; rw [E4.out]; have HS := Lib.hid (HS.out.tr hp ht); clear hp ht)
    | go_in)
  go_ret
  exact ⟨rfl, HS.out.b⟩
/-- Pairs that make a lattice. -/
theorem right_cases {l : List OPr} : (∃ o, (newO l).1 = some o ∧ 0 < o.ns.length ∧ Lat o.ns.length (rmost o) (jn (rmost o) o.ns.length) (mn (rmost o) o.ns.length)) ∨ ¬ RightP l := by
  by_cases h : RightP l
  · exact .inl h
  · exact .inr h
/-- 'right', in each of both. -/
theorem right_yes (A : Option Addr) (n c : Nat) (L : List OPa) (w : World) (hL : ShP w w.heap.size A n L) (hn : n ≤ 1000) (hnc : n ≤ c) (hs : ∀ t ∈ L, t.1.1.size ≤ 1000000 ∧ t.1.2.size ≤ 1000000) (h : RightP (L.map (·.1))) :
    Calls Try.prog 9 #[.slice A n c] w fun e w' => e = .returned (.bool true) ∧ Below w.heap.size w w' :=
  (right_any A n c L w hL hn hnc hs).mono fun e w' ⟨hb, b, he, hi⟩ => ⟨by rw [he, hi.2 h], hb⟩
theorem right_not (A : Option Addr) (n c : Nat) (L : List OPa) (w : World) (hL : ShP w w.heap.size A n L) (hn : n ≤ 1000) (hnc : n ≤ c) (hs : ∀ t ∈ L, t.1.1.size ≤ 1000000 ∧ t.1.2.size ≤ 1000000) (h : ¬ RightP (L.map (·.1))) :
    Calls Try.prog 9 #[.slice A n c] w fun e w' => e = .returned (.bool false) ∧ Below w.heap.size w w' :=
  (right_any A n c L w hL hn hnc hs).mono fun e w' ⟨hb, b, he, hi⟩ => ⟨by
    cases b with
    | true => exact absurd (hi.1 rfl) h
    | false => exact he, hb⟩
/-- Of none. -/
structure IrNil : Prop where
  new : ∀ w, Calls Try.prog 24 #[.pointer none] w fun e w' => e = .returned (.pointer none) ∧ Below w.heap.size w w'
  len : ∀ w, Calls Try.prog 13 #[.pointer none] w fun e w' => e = .returned (.int .i64 0) ∧ w = w'
  elem : ∀ w (i : Int), Calls Try.prog 14 #[.pointer none, .int .i64 i] w fun e w' => e = .returned (.int .i64 (-1)) ∧ w = w'
  set : ∀ w (i : Int), Calls Try.prog 15 #[.pointer none, .int .i64 i] w fun e w' => e = .returned (.int .u64 0) ∧ w = w'
  of : ∀ w (s : Int), Calls Try.prog 19 #[.pointer none, .int .u64 s] w fun e w' => e = .returned (.int .i64 (-1)) ∧ w = w'
  down : ∀ w (s : Int), Calls Try.prog 21 #[.pointer none, .int .u64 s] w fun e w' => e = .returned (.int .u64 0) ∧ w = w'
  is_ : ∀ w (s : Int), Calls Try.prog 23 #[.pointer none, .int .u64 s] w fun e w' => e = .returned (.bool false) ∧ w = w'
  apart : ∀ w (a b : Int), Calls Try.prog 17 #[.pointer none, .int .i64 a, .int .i64 b] w fun e w' => e = .returned (.int .i64 (-1)) ∧ w = w'
end Go.Proofs.Ytnhdpegjkkaabaa
