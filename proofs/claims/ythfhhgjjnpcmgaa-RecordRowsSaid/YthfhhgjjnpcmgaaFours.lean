/-
  CONTRACTS OF 'num.Put4', 'num.Get4', 'blazonref01.Four', 'blazonref01.Number'.
-/
import Derived.Test.YthfhhgjjnpcmgaaGrown
import Derived.Test.YthfhhgjjnpcmgaaBytes
import Derived.Laws.BitsAll
namespace Go.Proofs.Ythfhhgjjnpcmgaa
set_option linter.unusedVariables false
set_option linter.unusedSimpArgs false
open Go.RowKit

/-- Below 2^32, behind a name. -/
def U32 (n : Nat) : Prop := n < 4294967296
theorem U32.quo {n : Nat} (h : U32 n) : IntKind.u32.wrap ((n : Int) / 256) = (n : Int) / 256 := IntWalk.u32_in _ (by unfold U32 at h; omega)
theorem U32.div {n : Nat} (h : U32 n) (k : Nat) : U32 (n / k) := Nat.lt_of_le_of_lt (Nat.div_le_self _ _) h

/-- The j least digits of n to the base 256. -/
def digs : Nat → Nat → List Int
  | 0, _ => []
  | j + 1, n => ((n % 256 : Nat) : Int) :: digs j (n / 256)
theorem digs_len (j : Nat) : ∀ n, (digs j n).length = j := by
  induction j with
  | zero => intro n; rfl
  | succ j ih => intro n; simp [digs, ih]
theorem digs4 (n : Nat) : digs 4 n = [((n % 256 : Nat) : Int), ((n / 256 % 256 : Nat) : Int), ((n / 65536 % 256 : Nat) : Int), ((n / 16777216 % 256 : Nat) : Int)] := by
  simp [digs, Nat.div_div_eq_div_mul]
theorem digs_bytes (j : Nat) : ∀ n, Bytes (digs j n) := by
  induction j with
  | zero => intro n x hx; simp [digs] at hx
  | succ j ih =>
    intro n x hx
    rw [digs, List.mem_cons] at hx
    rcases hx with rfl | hx
    · omega
    · exact ih _ x hx

set_option maxRecDepth 10000 in
set_option maxHeartbeats 800000 in
theorem put4_any (A : Option Addr) (n c : Nat) (xs : List Int) (k : Nat) (w : World) (U : Nat) (hx : Sh w U A n (by8 xs)) (hn : n ≤ 1000000) (hk : U32 k) :
    Calls Try.prog 19 #[.slice A n c, .int .u32 k] w fun e w' => ∃ v, e = .returned v ∧ Own w' w.heap.size 5 1 v (n + 4) (by8 (xs ++ digs 4 k)) ∧ Below w.heap.size w w' := by
  go_enter Try.func19, Try.ntmps19
  go_wp2_with fail
  refine (grown_any A n c xs 4 w U hx (by omega) (by omega) (by omega)).mono ?_
  rintro e w1 ⟨v1, rfl, ho1, hb1⟩
  go_wp2_with (at_builtin; refine wpList_more rfl (.tmp 6) (.tmp 18) 22 rfl rowB w _ w.heap.size _ n (by8 xs) (by8 (digs 4 k)) rfl (ho1.alloc _) (w1.heap.size + 1) (some ⟨w1.heap.size, 0, none⟩) 4 4 rfl (by rw [digs4]; exact Sh.lit w1 _ _) (by8_one _) (hb1.alloc hb1.size _) (by omega) (by omega) ?_; intro v2 w2 ho2 hb2)
  go_ret
  exact ⟨_, rfl, ho2.cast rfl (by8_append _ _).symm, hb2⟩

/-- The number of digits to the base 256. -/
def val : List Int → Nat
  | [] => 0
  | x :: r => x.toNat + 256 * val r

theorem or32 (a b k : Nat) (m : Int) (hm : m = ((2 ^ k : Nat) : Int)) (ha : a < 2 ^ k) (hb : a + b * 2 ^ k < 4294967296) :
    bits .or .u32 (a : Int) ((b : Int) * m) = ((a + b * 2 ^ k : Nat) : Int) := by
  subst hm
  have e : (b : Int) * ((2 ^ k : Nat) : Int) = ((b * 2 ^ k : Nat) : Int) := by simp
  rw [e]
  refine (u32_or_nat a (b * 2 ^ k) (by omega) (by omega)).trans ?_
  congr 1
  rw [Nat.or_comm, Nat.mul_comm, ← Nat.two_pow_add_eq_or_of_lt ha b, Nat.mul_comm, Nat.add_comm]

theorem or_four (x0 x1 x2 x3 : Nat) (h0 : x0 ≤ 255) (h1 : x1 ≤ 255) (h2 : x2 ≤ 255) (h3 : x3 ≤ 255) :
    bits .or .u32 (bits .or .u32 (bits .or .u32 (x0 : Int) ((x1 : Int) * 256)) ((x2 : Int) * 65536)) ((x3 : Int) * 16777216) = ((x0 + 256 * x1 + 65536 * x2 + 16777216 * x3 : Nat) : Int) := by
  rw [or32 x0 x1 8 256 rfl (by omega) (by omega), or32 (x0 + x1 * 2 ^ 8) x2 16 65536 rfl (by omega) (by omega), or32 (x0 + x1 * 2 ^ 8 + x2 * 2 ^ 16) x3 24 16777216 rfl (by omega) (by omega)]
  congr 1
  omega

theorem ret_two {k : IntKind} {a b : Int} {r : Value} (h : a = b) : Ending.returned (.tuple #[.int k a, r]) = .returned (.tuple #[.int k b, r]) := by rw [h]

set_option maxRecDepth 10000 in
set_option maxHeartbeats 800000 in
theorem get4_short (A : Option Addr) (n c : Nat) (w : World) (hn : n < 4) :
    Calls Try.prog 24 #[.slice A n c] w fun e w' => e = .returned (.tuple #[.int .u32 0, .int .i64 2]) ∧ w = w' := by
  go_enter Try.func24, Try.ntmps24
  go_wp2
  go_ret2
  exact ⟨rfl, rfl⟩

set_option maxRecDepth 10000 in
set_option maxHeartbeats 800000 in
theorem get4_any (A : Option Addr) (n c : Nat) (xs : List Int) (w : World) (U : Nat) (hx : Sh w U A n (by8 xs)) (hn : n ≤ 1000000) (h4 : 4 ≤ n) (hw : Bytes xs) :
    Calls Try.prog 24 #[.slice A n c] w fun e w' => e = .returned (.tuple #[.int .u32 ((val (xs.take 4) : Nat) : Int), .int .i64 0]) ∧ Quiet w w' := by
  have hnl : xs.length = n := by have := hx.len; rwa [by8_len] at this
  obtain ⟨b, off, rfl, hb, h0⟩ := hx.byte (k := 0) (by omega)
  obtain ⟨_, _, e1, _, h1⟩ := hx.byte (k := 1) (by omega)
  obtain ⟨_, _, e2, _, h2⟩ := hx.byte (k := 2) (by omega)
  obtain ⟨_, _, e3, _, h3⟩ := hx.byte (k := 3) (by omega)
  cases e1; cases e2; cases e3
  have b0 := hw.get (k := 0) (by omega)
  have b1 := hw.get (k := 1) (by omega)
  have b2 := hw.get (k := 2) (by omega)
  have b3 := hw.get (k := 3) (by omega)
  have hv : val (xs.take 4) = (xs.getD 0 0).toNat + 256 * (xs.getD 1 0).toNat + 65536 * (xs.getD 2 0).toNat + 16777216 * (xs.getD 3 0).toNat := by
    match xs, hnl with
    | x0 :: x1 :: x2 :: x3 :: r, _ => simp [val]; omega
    | [], h => simp at h; omega
    | [_], h => simp at h; omega
    | [_, _], h => simp at h; omega
    | [_, _, _], h => simp at h; omega
  obtain ⟨x0, g0⟩ : ∃ x : Nat, xs.getD 0 0 = x := ⟨(xs.getD 0 0).toNat, by omega⟩
  obtain ⟨x1, g1⟩ : ∃ x : Nat, xs.getD 1 0 = x := ⟨(xs.getD 1 0).toNat, by omega⟩
  obtain ⟨x2, g2⟩ : ∃ x : Nat, xs.getD 2 0 = x := ⟨(xs.getD 2 0).toNat, by omega⟩
  obtain ⟨x3, g3⟩ : ∃ x : Nat, xs.getD 3 0 = x := ⟨(xs.getD 3 0).toNat, by omega⟩
  rw [g0] at h0 b0 hv
  rw [g1] at h1 b1 hv
  rw [g2] at h2 b2 hv
  rw [g3] at h3 b3 hv
  clear g0 g1 g2 g3
  have HV := Lib.hid hv
  clear hv hx hnl hw
  have i0 : 0 < n := by omega
  rw [Nat.add_zero] at h0
  have i1 : (1 : Int) < n := by omega
  have i2 : (2 : Int) < n := by omega
  have i3 : (3 : Int) < n := by omega
  go_enter Try.func24, Try.ntmps24
  go_wp2
  go_quiet (fail)
  go_wp2
  go_ret2
  exact ⟨ret_two (by rw [HV.out]; exact or_four x0 x1 x2 x3 (by omega) (by omega) (by omega) (by omega)), Quiet.one _ _⟩

set_option maxRecDepth 10000 in
set_option maxHeartbeats 800000 in
theorem four_any (k : Nat) (w : World) (hk : U32 k) :
    Calls Try.prog 22 #[.int .u32 k] w fun e w' => ∃ v, e = .returned v ∧ Own w' w.heap.size 5 1 v 4 (by8 (digs 4 k)) ∧ Below w.heap.size w w' := by
  go_enter Try.func22, Try.ntmps22
  go_wp2
  go_loopw [0, 3, 4] (fun m v i wr => ∃ (q : Nat) (m' : Nat) (out : List Int), q ≤ 4 ∧ i = .int .i64 q ∧ U32 m' ∧ m = .int .u32 m' ∧ out ++ digs (4 - q) m' = digs 4 k ∧ Own wr w.heap.size 5 1 v q (by8 out) ∧ Below w.heap.size w wr) (fun _ _ i _ => 4 - (intOf i).toNat)
  case atStart => exact ⟨0, k, [], by omega, rfl, hk, rfl, rfl, Own.nil _ _ _ _ (Nat.le_refl _), Below.refl _ _⟩
  case round =>
    obtain ⟨q, m, out, hq, rfl, hm, rfl, hs, ho, hb⟩ := hrel
    by_cases hlt : q < 4
    · have hs2 : (out ++ [((m % 256 : Nat) : Int)]) ++ digs (4 - (q + 1)) (m / 256) = digs 4 k := by
        have e : 4 - q = (4 - (q + 1)) + 1 := by omega
        rw [e, digs] at hs
        rw [← hs, List.append_assoc]
        rfl
      have HS := Lib.hid hs2
      clear hs hs2
      have hquo := hm.quo
      go_wp2_with (at_builtin; refine wpList_push rfl (.tmp 9) (.tmp 13) 22 rfl rowB w wr w.heap.size _ q (by8 out) [_] rfl ho rfl rfl (by intro u hu; simp at hu; subst hu; rfl) hb (by omega) (by omega) ?_; intro v2 w2 ho2 hb2)
      go_roundw
      case rel => exact ⟨q + 1, m / 256, _, by omega, by go_num, hm.div 256, by go_num, HS.out, ho2.cast rfl (by rw [by8_append]; simp [by8]), hb2⟩
      case measure => simp [intOf]; omega
    · obtain rfl : q = 4 := by omega
      have hs3 : out = digs 4 k := by rw [← hs]; simp [digs]
      have HS := Lib.hid hs3
      clear hs hs3
      go_wp2
      go_ret
      exact ⟨_, rfl, ho.cast rfl (by rw [HS.out]), hb⟩

theorem val_lt (l : List Int) (h : Bytes l) : val l < 256 ^ l.length := by
  induction l with
  | nil => simp [val]
  | cons x r ih =>
    have h1 := ih (fun y hy => h y (List.mem_cons_of_mem _ hy))
    have h2 := h x (List.mem_cons_self ..)
    simp only [val, List.length_cons, Nat.pow_succ]
    omega

set_option maxRecDepth 10000 in
set_option maxHeartbeats 800000 in
theorem number_any (A : Option Addr) (n c : Nat) (xs : List Int) (w : World) (U : Nat) (hx : Sh w U A n (by8 xs)) (hn : n ≤ 1000000) (h4 : 4 ≤ n) (hw : Bytes xs) :
    Calls Try.prog 25 #[.slice A n c] w fun e w' => e = .returned (.int .u32 ((val (xs.take 4) : Nat) : Int)) ∧ w = w' := by
  have hnl : xs.length = n := by have := hx.len; rwa [by8_len] at this
  go_enter Try.func25, Try.ntmps25
  go_wp2
  go_loop [3, 4] (fun v i => ∃ (q m : Nat), q ≤ 4 ∧ i = .int .i64 ((q : Int) - 1) ∧ v = .int .u32 m ∧ m = val ((xs.take 4).drop q)) (fun _ i => (intOf i + 1).toNat)
  case atStart => exact ⟨4, 0, by omega, rfl, rfl, by simp [val]⟩
  case round =>
    obtain ⟨q, m, hq, rfl, rfl, hm⟩ := hrel
    have HN := Lib.hid hnl
    clear hnl
    by_cases hlt : 0 < q
    · obtain ⟨b, off, rfl, hb, hc⟩ := hx.byte (k := q - 1) (by omega)
      have hby := hw.get (k := q - 1) (by rw [HN.out]; omega)
      have hd := drop_cons' (xs.take 4) (q - 1) (by rw [List.length_take, HN.out]; omega)
      have hg : (xs.take 4).getD (q - 1) 0 = xs.getD (q - 1) 0 := by
        simp [List.getD, List.getElem?_take, show q - 1 < 4 by omega]
      rw [hg, show q - 1 + 1 = q by omega] at hd
      have hvl := val_lt ((xs.take 4).drop q) ((hw.take 4).drop q)
      have hmlt : m < 16777216 := by
        rw [hm]
        refine Nat.lt_of_lt_of_le hvl (Nat.le_trans (Nat.pow_le_pow_right (by omega) (show _ ≤ 3 by simp; omega)) (by decide))
      obtain ⟨x, hx0⟩ : ∃ x, x = xs.getD (q - 1) 0 := ⟨_, rfl⟩
      rw [← hx0] at hc hd hby
      have hv : 256 * m + x.toNat = val ((xs.take 4).drop (q - 1)) := by rw [hd, val, ← hm]; omega
      have HV := Lib.hid hv
      clear hx0 hd hv hg hm hvl
      obtain ⟨x, rfl⟩ : ∃ y : Nat, x = y := ⟨x.toNat, by omega⟩
      go_wp2
      go_round
      case rel => exact ⟨q - 1, 256 * m + x, by omega, congrArg (Value.int .i64) (by omega), congrArg (Value.int .u32) (by omega), HV.out⟩
      case measure => simp [intOf]; omega
    · obtain rfl : q = 0 := by omega
      have HM := Lib.hid hm
      clear hm
      go_wp2
      go_ret
      exact ⟨congrArg (fun i => Ending.returned (.int .u32 i)) (by rw [HM.out, List.drop_zero]), rfl⟩
end Go.Proofs.Ythfhhgjjnpcmgaa
