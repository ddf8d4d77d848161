/-
  CONTRACTS OF 'span.Place', 'span.Back', 'blazonref07.Apply', 'blazonref07.Same'.
-/
import Derived.Test.YtopeechbgblndaaDoorSpA
import Derived.BigQuiet
import Derived.Laws.Concat
namespace Go.Proofs.YtopeechbgblndaaDoor
set_option linter.unusedVariables false
set_option linter.unusedSimpArgs false
open Go.RowKit

/-- Edits of a text of n bytes, of short texts. -/
def EdB (n : Nat) (L : List Ed) : Prop := ∀ x ∈ L, 0 ≤ x.1 ∧ x.1 ≤ x.2.1 ∧ x.2.1 ≤ n ∧ x.2.2.length ≤ 1000
theorem EdB_of {n : Nat} {L : List Ed} (h : chk n L = 0) (hs : ∀ x ∈ L, x.2.2.length ≤ 1000) : EdB n L := fun x hx => by
  obtain ⟨k, hk, rfl⟩ := List.mem_iff_getElem.1 hx
  have := ((chk_zero h).2 k hk _ (List.getElem?_eq_getElem hk)).1
  exact ⟨this.1, this.2.1, this.2.2, hs _ hx⟩
theorem shift_snoc (i : Int) (L : List Ed) (x : Ed) : shiftE i (L ++ [x]) = shiftE i L + (if x.2.1 ≤ i then grow x else 0) := by
  induction L with
  | nil => show (if x.2.1 ≤ i then grow x else 0) + 0 = 0 + _; omega
  | cons y r ih => show _ + shiftE i (r ++ [x]) = _; rw [ih]; show _ = _ + shiftE i r + _; omega
theorem take_snocE (L : List Ed) (k : Nat) (t : Ed) (h : L[k]? = some t) : L.take (k + 1) = L.take k ++ [t] := by
  obtain ⟨hlt, rfl⟩ := List.getElem?_eq_some_iff.1 h
  rw [List.take_succ_eq_append_getElem hlt]
theorem shift_bound {n : Nat} {L : List Ed} (h : EdB n L) (i : Int) : -((n : Int) * L.length) ≤ shiftE i L ∧ shiftE i L ≤ 1000 * L.length := by
  induction L with
  | nil => exact ⟨by simp [shiftE], by simp [shiftE]⟩
  | cons x r ih =>
    have h1 := ih fun y hy => h y (List.mem_cons_of_mem _ hy)
    obtain ⟨a, b, c, d⟩ := h x List.mem_cons_self
    have hc : ((x :: r).length : Int) = r.length + 1 := by simp
    rw [hc, Int.mul_add, Int.mul_add]
    unfold shiftE
    split
    · unfold grow; omega
    · omega

set_option maxRecDepth 10000 in
set_option maxHeartbeats 1600000 in
theorem place_any (P : Option Addr) (n m d i : Nat) (L : List Ed) (w : World) (hx : ShE w w.heap.size P m L) (hn : n ≤ 100000) (hm : m ≤ 600) (hB : EdB n L) (hi : i ≤ 100000) :
    Calls Tryd.prog 17 #[.slice P m d, .int .i64 (i : Int)] w fun e w' => e = .returned (.int .i64 ((i : Int) + shiftE i L)) ∧ Below w.heap.size w w' := by
  have hl : L.length = m := hx.1
  have HL := Lib.hid hl
  have HX := Lib.hid hx
  have HBD := Lib.hid hB
  have hz := zeroEd
  clear hl hx hB
  have HSB : Hid (∀ k, k ≤ m → -(600 * 100000) ≤ shiftE i (L.take k) ∧ shiftE i (L.take k) ≤ 600 * 100000) := Lib.hid fun k hk => by
    have h1 := shift_bound (n := n) (L := L.take k) (fun x hx => HBD.out x (List.mem_of_mem_take hx)) i
    have hlen : (L.take k).length ≤ 600 := by rw [List.length_take]; omega
    have h3 : n * (L.take k).length ≤ 60000000 := Nat.le_trans (Nat.mul_le_mul hn hlen) (by decide)
    have h2 : (n : Int) * ((L.take k).length : Int) ≤ 60000000 := by
      rw [← Int.natCast_mul]
      exact Int.ofNat_le.2 h3
    omega
  go_enter Tryd.func17, Tryd.ntmps17
  go_wp2
  go_loopw [5, 10] (fun a v wr => ∃ (k : Nat) (z : Int), v = .int .i64 (k : Int) ∧ a = .int .i64 z ∧ k ≤ m ∧ z = shiftE i (L.take k) ∧ Below w.heap.size w wr) (fun _ v _ => m - (intOf v).toNat)
  case atStart => exact ⟨0, 0, rfl, rfl, Nat.zero_le _, by simp [shiftE], Below.refl _ _⟩
  case round =>
    obtain ⟨k, z, rfl, rfl, hk, hz1, hb⟩ := hrel
    have HB := Lib.hid hb
    have hge := hb.size
    have hzb := HSB.out k hk
    rw [← hz1] at hzb
    obtain ⟨hz0, hz2⟩ := hzb
    have HZ := Lib.hid hz1
    clear hb hz1
    by_cases hlt : k < m
    · obtain ⟨b, off, x, rfl, hbb, hx, c0, c1, c2⟩ := (HX.out.up HB.out (Nat.le_refl _)).at hlt
      have HS := Lib.hid (take_snocE L k x hx)
      obtain ⟨f, t, s⟩ := x
      dsimp only at c0 c1 c2
      obtain ⟨q0, q1, q2, q3⟩ := HBD.out _ (List.mem_of_getElem? hx)
      dsimp only at q0 q1 q2 q3
      have hsz : (strOfNums s).size = s.length := strOfNums_size _
      have HBA := Lib.hid (HB.out.alloc hge (.cells #[.int .i64 f, .int .i64 t, .string (strOfNums s)] 38))
      have HG : Hid (∀ W, Calls Tryd.prog 25 #[.agg #[.int .i64 f, .int .i64 t, .string (strOfNums s)]] W fun e w' => e = .returned (.int .i64 (grow (f, t, s))) ∧ Below W.heap.size W w') := Lib.hid fun W => by
        have := growth_any f t (strOfNums s) W q0 q1 (by omega) (by omega)
        rw [hsz] at this
        exact this
      have hgb : -200000 ≤ grow (f, t, s) ∧ grow (f, t, s) ≤ 200000 := by unfold grow; dsimp only; omega
      obtain ⟨G, hG⟩ : ∃ G, grow (f, t, s) = G := ⟨_, rfl⟩
      rw [hG] at HG hgb
      have HGG := Lib.hid hG
      obtain ⟨hg1, hg2⟩ := hgb
      clear hx hsz hG
      by_cases hti : t ≤ (i : Int)
      · go_wp2_with (first
          | (go_at_call 25; refine (HG.out _).mono ?_; rintro e w2 ⟨rfl, b2⟩; have B2 := Lib.hid b2; clear b2)
          | fail)
        go_roundw
        case rel =>
          refine ⟨k + 1, z + G, by go_num, by go_num, by omega, ?_, HBA.out.trans (B2.out.mono HBA.out.size)⟩
          rw [HS.out, shift_snoc, ← HZ.out, if_pos hti, HGG.out]
        case measure => simp [intOf]; omega
      · go_wp2
        go_roundw
        case rel =>
          refine ⟨k + 1, z, by go_num, rfl, by omega, ?_, HBA.out⟩
          rw [HS.out, shift_snoc, ← HZ.out, if_neg hti]
          omega
        case measure => simp [intOf]; omega
    · obtain rfl : k = m := by omega
      have HE : Hid (z = shiftE i L) := Lib.hid (by
        have := HZ.out
        rwa [List.take_of_length_le (by rw [HL.out]; exact Nat.le_refl _)] at this)
      go_wp2
      go_ret
      exact ⟨ret_int (by rw [HE.out]), HB.out⟩
end Go.Proofs.YtopeechbgblndaaDoor
