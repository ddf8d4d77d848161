/-
  ACTS THAT ARE HANDED IN; CONTRACT OF great.
-/
import Derived.Test.YtekhockdgglndaaDAwake
namespace Go.Proofs.Ytekhockdgglndaa
set_option linter.unusedVariables false
set_option linter.unusedSimpArgs false
open Go.RowKit Go.Maps

/-- An act: its numbers, names, and the slices with what they show. -/
structure Ac where
  kind : Int
  s : ByteArray
  r : ByteArray
  A : Option Addr
  n : Nat
  c : Nat
  b : List Int
  z : Int
  e : Int
  K : Option Addr
  m : Nat
  d : Nat
  nums : List Int
def Ac.vals (x : Ac) : List Value := [.int .i64 x.kind, .string x.s, .string x.r, .slice x.A x.n x.c, .int .i64 x.z, .int .i64 x.e, .slice x.K x.m x.d]
/-- All that it shows lies below U. -/
structure Ac.ok (w : World) (U : Nat) (x : Ac) : Prop where
  kind : (Lit.int .i64 x.kind).wf = true
  s : x.s.size ≤ maxLen
  r : x.r.size ≤ maxLen
  b : Sh w U x.A x.n (by8 x.b)
  n : x.n ≤ maxLen
  byt : ∀ y ∈ x.b, (Lit.int .u8 y).wf = true
  z : (Lit.int .i64 x.z).wf = true
  e : (Lit.int .i64 x.e).wf = true
  nums : Sh w U x.K x.m (by64 x.nums)
  m : x.m ≤ maxLen
theorem Ac.ok.below {w w' : World} {U : Nat} {x : Ac} (h : x.ok w U) (hb : Below U w w') : x.ok w' U := ⟨h.kind, h.s, h.r, h.b.below hb, h.n, h.byt, h.z, h.e, h.nums.below hb, h.m⟩
theorem Ac.ok.more {w : World} {U V : Nat} {x : Ac} (h : x.ok w U) (hb : U ≤ V) : x.ok w V := ⟨h.kind, h.s, h.r, h.b.more hb, h.n, h.byt, h.z, h.e, h.nums.more hb, h.m⟩
/-- More than is looked at. -/
def Ac.big (x : Ac) : Bool := decide (100 < x.s.size ∨ 100 < x.r.size ∨ 500 < x.n ∨ 60 < x.m)
theorem Ac.small {x : Ac} (h : x.big = false) : x.s.size ≤ 100 ∧ x.r.size ≤ 100 ∧ x.n ≤ 500 ∧ x.m ≤ 60 := by
  have := of_decide_eq_false h
  omega

/-- The slice shows the acts l; all of it lies below U. -/
def ActsIn (w : World) (U : Nat) (A : Option Addr) (n : Nat) (l : List Ac) : Prop :=
  l.length = n ∧ ∀ k x, l[k]? = some x → (∃ b off, A = some ⟨b, off, none⟩ ∧ b < U ∧ ∀ j v, x.vals[j]? = some v → w.cell? ⟨b, off + k * 7 + j, none⟩ = some v) ∧ x.ok w U
theorem ActsIn.below {w w' : World} {U : Nat} {A : Option Addr} {n : Nat} {l : List Ac} (h : ActsIn w U A n l) (hb : Below U w w') : ActsIn w' U A n l :=
  ⟨h.1, fun k x hx => by
    obtain ⟨⟨b, off, e, hU, hc⟩, ho⟩ := h.2 k x hx
    exact ⟨⟨b, off, e, hU, fun j v hv => (hb.cell (p := ⟨b, off + k * 7 + j, none⟩) hU).trans (hc j v hv)⟩, ho.below hb⟩⟩
theorem ActsIn.at {w : World} {U : Nat} {A : Option Addr} {n : Nat} {l : List Ac} (h : ActsIn w U A n l) {k : Nat} (hk : k < n) :
    ∃ x b off, l[k]? = some x ∧ A = some ⟨b, off, none⟩ ∧ b < U ∧ w.cell? ⟨b, off + k * 7, none⟩ = some (.int .i64 x.kind) ∧ w.cell? ⟨b, off + k * 7 + 1, none⟩ = some (.string x.s) ∧ w.cell? ⟨b, off + k * 7 + 2, none⟩ = some (.string x.r) ∧ w.cell? ⟨b, off + k * 7 + 3, none⟩ = some (.slice x.A x.n x.c) ∧ w.cell? ⟨b, off + k * 7 + 4, none⟩ = some (.int .i64 x.z) ∧ w.cell? ⟨b, off + k * 7 + 5, none⟩ = some (.int .i64 x.e) ∧ w.cell? ⟨b, off + k * 7 + 6, none⟩ = some (.slice x.K x.m x.d) ∧ x.ok w U := by
  have hl : k < l.length := by rw [h.1]; exact hk
  obtain ⟨⟨b, off, e, hU, hc⟩, ho⟩ := h.2 k l[k] (List.getElem?_eq_getElem hl)
  exact ⟨l[k], b, off, List.getElem?_eq_getElem hl, e, hU, hc 0 _ rfl, hc 1 _ rfl, hc 2 _ rfl, hc 3 _ rfl, hc 4 _ rfl, hc 5 _ rfl, hc 6 _ rfl, ho⟩
def greatB (l : List Ac) : Bool := (l.take 60).any Ac.big || decide (60 < l.length)
theorem greatB_no {l : List Ac} (h : greatB l = false) : l.length ≤ 60 ∧ ∀ x ∈ l, x.s.size ≤ 100 ∧ x.r.size ≤ 100 ∧ x.n ≤ 500 ∧ x.m ≤ 60 := by
  unfold greatB at h
  rw [Bool.or_eq_false_iff] at h
  have h2 := of_decide_eq_false h.2
  have h1 := h.1
  rw [List.take_of_length_le (by omega)] at h1
  refine ⟨by omega, fun x hx => Ac.small ?_⟩
  cases hb : x.big with
  | false => rfl
  | true => rw [List.any_eq_false] at h1; exact absurd hb (by simpa using h1 x hx)
theorem greatB_yes {l : List Ac} {k : Nat} {x : Ac} (hk : k < 60) (hx : l[k]? = some x) (h : 100 < x.s.size ∨ 100 < x.r.size ∨ 500 < x.n ∨ 60 < x.m) : greatB l = true := by
  unfold greatB
  rw [Bool.or_eq_true_iff]
  refine .inl (List.any_eq_true.2 ⟨x, ?_, decide_eq_true h⟩)
  refine List.mem_of_getElem? (i := k) ?_
  rw [List.getElem?_take, if_pos hk]
  exact hx

set_option maxRecDepth 10000 in
set_option maxHeartbeats 1600000 in
theorem great_any (A : Option Addr) (n c : Nat) (l : List Ac) (w : World) (U : Nat) (h : ActsIn w U A n l) (hn : n ≤ maxLen) :
    Calls Try.prog 5 #[.slice A n c] w fun e w' => e = .returned (.bool (greatB l)) ∧ Quiet w w' := by
  have HL := Lib.hid h.1
  have HI := Lib.hid h
  unfold maxLen at hn
  clear h
  go_enter Try.func5, Try.ntmps5
  go_wp2
  go_loopw [3] (fun i wr => ∃ k : Nat, k ≤ n ∧ k ≤ 60 ∧ i = .int .i64 k ∧ Hid (∀ x ∈ l.take k, x.big = false) ∧ Quiet w wr) (fun i _ => n - (intOf i).toNat)
  case atStart => exact ⟨0, Nat.zero_le _, Nat.zero_le _, rfl, Lib.hid (fun x hx => by simp at hx), Quiet.refl _⟩
  case round =>
    obtain ⟨k, hk, hk60, rfl, hno, hq⟩ := hrel
    obtain ⟨q, rfl⟩ := hq
    by_cases hlt : k < n
    · by_cases hlt2 : k < 60
      · obtain ⟨x, b, off, hx, rfl, hbU, _, c1, c2, c3, _, _, c6, ho⟩ := HI.out.at hlt
        have z1 := ho.s
        have z2 := ho.r
        have z3 := ho.n
        have z6 := ho.m
        unfold maxLen at z1 z2 z3 z6
        have HX := Lib.hid hx
        have HG := Lib.hid (fun hh => greatB_yes hlt2 hx hh)
        clear ho hx
        by_cases g1 : 100 < x.s.size
        · go_wp2
          go_ret
          exact ⟨ret_bool (HG.out (by omega)).symm, ⟨_, rfl⟩⟩
        · by_cases g2 : 100 < x.r.size
          · go_wp2
            go_ret
            exact ⟨ret_bool (HG.out (by omega)).symm, ⟨_, rfl⟩⟩
          · by_cases g3 : 500 < x.n
            · go_wp2
              go_ret
              exact ⟨ret_bool (HG.out (by omega)).symm, ⟨_, rfl⟩⟩
            · by_cases g6 : 60 < x.m
              · go_wp2
                go_ret
                exact ⟨ret_bool (HG.out (by omega)).symm, ⟨_, rfl⟩⟩
              · go_wp2
                go_roundw
                case rel =>
                  refine ⟨k + 1, by omega, by omega, by go_num, Lib.hid (fun y hy => ?_), ⟨_, rfl⟩⟩
                  obtain ⟨h1, h2⟩ := List.getElem?_eq_some_iff.1 HX.out
                  rw [List.take_succ_eq_append_getElem h1, h2] at hy
                  rcases List.mem_append.1 hy with h3 | h3
                  · exact hno.out y h3
                  · rw [List.mem_singleton.1 h3]
                    exact decide_eq_false (by omega)
                case measure => simp [intOf]; omega
      · have hG : greatB l = true := by
          unfold greatB
          rw [Bool.or_eq_true_iff]
          exact .inr (decide_eq_true (by rw [HL.out]; omega))
        have HG := Lib.hid hG
        clear hG
        go_wp2
        go_ret
        exact ⟨ret_bool ((decide_eq_true (by omega)).trans HG.out.symm), ⟨_, rfl⟩⟩
    · obtain rfl : n = k := by omega
      have hG : greatB l = false := by
        unfold greatB
        rw [Bool.or_eq_false_iff]
        refine ⟨List.any_eq_false.2 fun x hx => ?_, decide_eq_false (by rw [HL.out]; omega)⟩
        rw [hno.out x (by rw [List.take_of_length_le (by rw [HL.out]; exact Nat.le_refl _)]; exact List.mem_of_mem_take hx)]
        exact Bool.false_ne_true
      have HG := Lib.hid hG
      clear hG
      go_wp2
      go_ret
      exact ⟨ret_bool ((decide_eq_false (by omega)).trans HG.out.symm), ⟨_, rfl⟩⟩
end Go.Proofs.Ytekhockdgglndaa
