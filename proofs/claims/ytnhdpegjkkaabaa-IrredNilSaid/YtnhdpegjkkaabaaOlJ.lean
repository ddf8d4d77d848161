/-
  CONTRACTS OF the document's Join and Meet.
-/
import Derived.Test.YtnhdpegjkkaabaaOqD
namespace Go.Proofs.Ytnhdpegjkkaabaa
set_option linter.unusedVariables false
set_option linter.unusedSimpArgs false
open Go.RowKit

/-- All rows of a table at once. -/
theorem MatAt.rows {w : World} {M : Option Addr} {n : Nat} {F : Nat → Nat → Bool} (h : MatAt w M n F) : 0 < n → ∃ (mb mo : Nat) (rb ro rc : Nat → Nat), M = some ⟨mb, mo, none⟩ ∧ ∀ x, x < n → w.cell? ⟨mb, mo + x, none⟩ = some (.slice (some ⟨rb x, ro x, none⟩) n (rc x)) ∧ ∀ y, y < n → w.cell? ⟨rb x, ro x + y, none⟩ = some (.bool (F x y)) := by
  intro hn
  obtain ⟨mb, mo, e, _, hc⟩ := h hn
  have h2 : ∀ x, ∃ r : Nat × Nat × Nat, x < n → w.cell? ⟨mb, mo + x, none⟩ = some (.slice (some ⟨r.1, r.2.1, none⟩) n r.2.2) ∧ ∀ y, y < n → w.cell? ⟨r.1, r.2.1 + y, none⟩ = some (.bool (F x y)) := by
    intro x
    by_cases hx : x < n
    · obtain ⟨P, c, h1, h2⟩ := hc x hx
      obtain ⟨pb, po, u, rfl, _, _, _⟩ := h2.at hn
      refine ⟨(pb, po, c), fun _ => ⟨h1, fun y hy => ?_⟩⟩
      obtain ⟨pb', po', u, e', _, hu, hcell⟩ := h2.at hy
      cases e'
      rw [bools_at hu] at hcell
      exact hcell
    · exact ⟨(0, 0, 0), fun h => absurd h hx⟩
  obtain ⟨f, hf⟩ := Classical.axiomOfChoice h2
  exact ⟨mb, mo, fun x => (f x).1, fun x => (f x).2.1, fun x => (f x).2.2, e, hf⟩
/-- Both are at most i, and i is at most each that both are at most. -/
def jall (F : Nat → Nat → Bool) (a b i m : Nat) : Bool := (List.range m).all fun k => !(F a k && F b k) || F i k
def jcand (F : Nat → Nat → Bool) (n a b i : Nat) : Bool := (F a i && F b i) && jall F a b i n
def rjoinI (F : Nat → Nat → Bool) (n a b : Nat) : Int := match (List.range n).find? (jcand F n a b) with | some i => (i : Int) | none => -1
def oflip (F : Nat → Nat → Bool) : Nat → Nat → Bool := fun a b => F b a
theorem jall_zero (F : Nat → Nat → Bool) (a b i : Nat) : jall F a b i 0 = true := rfl
theorem jall_succ (F : Nat → Nat → Bool) (a b i m : Nat) : jall F a b i (m + 1) = (jall F a b i m && (!(F a m && F b m) || F i m)) := by
  unfold jall
  rw [List.range_succ, List.all_append]
  simp
theorem rjoin_yes {F : Nat → Nat → Bool} {n a b i : Nat} (hi : i < n) (h : jcand F n a b i = true) (hno : ∀ j, j < i → jcand F n a b j = false) : rjoinI F n a b = (i : Int) := by
  have : (List.range n).find? (jcand F n a b) = some i := by
    rw [List.find?_range_eq_some]
    exact ⟨h, List.mem_range.2 hi, fun j hj => by rw [hno j hj]; rfl⟩
  unfold rjoinI
  rw [this]
theorem rjoin_no {F : Nat → Nat → Bool} {n a b : Nat} (hno : ∀ j, j < n → jcand F n a b j = false) : rjoinI F n a b = -1 := by
  have : (List.range n).find? (jcand F n a b) = none := by
    rw [List.find?_range_eq_none]
    exact fun j hj => by rw [hno j hj]; rfl
  unfold rjoinI
  rw [this]

set_option maxRecDepth 10000 in
set_option maxHeartbeats 800000 in
theorem rjoin_any {w : World} {o : Od} {v m : Value} (h : RefAt w o v m) {a b : Nat} (ha : a < o.ns.length) (hb : b < o.ns.length) :
    Calls Try.prog 44 #[.agg #[v, m], .int .i64 (a : Int), .int .i64 (b : Int)] w fun e w' => e = .returned (.int .i64 (rjoinI (fun a b => o.most a b) o.ns.length a b)) ∧ Below w.heap.size w w' := by
  have hl := h.wf.len
  obtain ⟨F, hF⟩ : ∃ F : Nat → Nat → Bool, (fun a b => o.most a b) = F := ⟨_, rfl⟩
  rw [hF]
  have hBX : Blk (w.alloc (.cells #[v, m] 30)) w.heap.size 30 [v, m] := Blk.new _ _ _
  have hb1 : Below w.heap.size w (w.alloc (.cells #[v, m] 30)) := (Below.refl _ _).alloc (Nat.le_refl _) _
  have h1 := h.stay hb1
  obtain ⟨A, cA, rfl, _⟩ := h1.nm
  obtain ⟨M, cM, rfl, hM⟩ := h1.mt
  have d0 := hBX.cell 0
  have d1 := hBX.cell 1
  have HB1 := Lib.hid hb1
  obtain ⟨mb, mo, rb, ro, rc, rfl, hrows⟩ := hM.rows (Nat.lt_of_le_of_lt (Nat.zero_le _) ha)
  have HM := Lib.hid (fun (x : Nat) (hx : x < o.ns.length) => (hrows x hx).1)
  have HC := Lib.hid (fun (x y : Nat) (hx : x < o.ns.length) (hy : y < o.ns.length) => (by
    have := (hrows x hx).2 y hy
    rw [show o.most x y = F x y from by rw [← hF]] at this
    exact this : (w.alloc (.cells #[.slice A o.ns.length cA, .slice (some ⟨mb, mo, none⟩) o.ns.length cM] 30)).cell? ⟨rb x, ro x + y, none⟩ = some (.bool (F x y))))
  obtain ⟨n, hn⟩ : ∃ n, o.ns.length = n := ⟨_, rfl⟩
  rw [hn] at ha hb hl d0 d1 HB1 HM HC ⊢
  clear hF hBX hb1 h h1 hM hn hrows
  go_enter Try.func44, Try.ntmps44
  go_wp2
  obtain ⟨w1, hw1⟩ : ∃ w1, w.alloc (.cells #[.slice A n cA, .slice (some ⟨mb, mo, none⟩) n cM] 30) = w1 := ⟨_, rfl⟩
  rw [hw1] at d0 d1 HB1 HM HC
  rw [hw1]
  clear hw1
  go_loopw [7] (fun i wr => ∃ k : Nat, i = .int .i64 (k : Int) ∧ k ≤ n ∧ Hid (∀ j, j < k → jcand F n a b j = false) ∧ wr = w1) (fun i _ => n - (intOf i).toNat)
  case atStart => exact ⟨0, rfl, Nat.zero_le _, Lib.hid (fun j hj => absurd hj (Nat.not_lt_zero _)), rfl⟩
  case round =>
    obtain ⟨k, rfl, hk, HNO, rfl⟩ := hrel
    obtain ⟨wz, hwz⟩ : ∃ wz, wz = wr := ⟨_, rfl⟩
    subst hwz
    by_cases hlt : k < n
    · have r1 := HM.out a ha
      have r2 := HM.out b hb
      have r3 := HM.out k hlt
      have e2 := HC.out a k ha hlt
      have g2 := HC.out b k hb hlt
      have HNX := Lib.hid (fun h : jcand F n a b k = false => (fun j hj => (by
        rcases Nat.lt_or_ge j k with e | e
        · exact HNO.out j e
        · obtain rfl : j = k := by omega
          exact h : jcand F n a b j = false) : ∀ j, j < k + 1 → jcand F n a b j = false))
      have HJ := Lib.hid (show jcand F n a b k = ((F a k && F b k) && jall F a b k n) from rfl)
      have HYES := Lib.hid (fun h : jcand F n a b k = true => rjoin_yes hlt h HNO.out)
      obtain ⟨x, hx⟩ : ∃ x, F a k = x := ⟨_, rfl⟩
      obtain ⟨y, hy⟩ : ∃ y, F b k = y := ⟨_, rfl⟩
      rw [hx] at e2 HJ
      rw [hy] at g2 HJ
      clear hx hy
      cases x with
      | false =>
        have HN2 := Lib.hid (HNX.out (by rw [HJ.out]; rfl))
        go_wp2
        go_roundw
        case rel => exact ⟨k + 1, by go_num, hlt, HN2, (by trivial)⟩
        case measure => simp [intOf]; omega
      | true =>
        cases y with
        | false =>
          have HN2 := Lib.hid (HNX.out (by rw [HJ.out]; rfl))
          go_wp2
          go_roundw
          case rel => exact ⟨k + 1, by go_num, hlt, HN2, (by trivial)⟩
          case measure => simp [intOf]; omega
        | true =>
          go_wp2
          go_loopw [8, 9] (fun l i wr => ∃ j : Nat, l = .bool (jall F a b k j) ∧ i = .int .i64 (j : Int) ∧ j ≤ n ∧ wr = wz) (fun _ i _ => n - (intOf i).toNat)
          case atStart => exact ⟨0, rfl, rfl, Nat.zero_le _, rfl⟩
          case round =>
            obtain ⟨j, rfl, rfl, hj, rfl⟩ := hrel
            by_cases hlt2 : j < n
            · have r4 := HM.out j hlt2
              have f2 := HC.out a j ha hlt2
              have s2 := HC.out b j hb hlt2
              have t2 := HC.out k j hlt hlt2
              have HS := Lib.hid (jall_succ F a b k j)
              obtain ⟨p, hp⟩ : ∃ p, F a j = p := ⟨_, rfl⟩
              obtain ⟨q, hq⟩ : ∃ q, F b j = q := ⟨_, rfl⟩
              obtain ⟨r, hr⟩ : ∃ r, F k j = r := ⟨_, rfl⟩
              obtain ⟨z, hz⟩ : ∃ z, jall F a b k j = z := ⟨_, rfl⟩
              rw [hp, hq, hr, hz] at HS
              rw [hp] at f2
              rw [hq] at s2
              rw [hr] at t2
              rw [hz]
              clear hp hq hr hz
              have hcs : p = false ∨ (p = true ∧ q = false) ∨ (p = true ∧ q = true ∧ r = true) ∨ (p = true ∧ q = true ∧ r = false) := by
                cases p <;> cases q <;> cases r <;> simp
              rcases hcs with rfl | ⟨rfl, rfl⟩ | ⟨rfl, rfl, rfl⟩ | ⟨rfl, rfl, rfl⟩
              all_goals
                go_wp2
                go_roundw
                case rel => exact ⟨j + 1, by rw [HS.out]; simp, by go_num, hlt2, (by trivial)⟩
                case measure => simp [intOf]; omega
            · obtain rfl : j = n := by omega
              cases hz : jall F a b k j with
              | true =>
                have HR := Lib.hid (HYES.out (by rw [HJ.out, hz]; rfl))
                clear hz
                go_wp2
                go_ret
                exact ⟨ret_i64 HR.out.symm, HB1.out⟩
              | false =>
                have HN2 := Lib.hid (HNX.out (by rw [HJ.out, hz]; rfl))
                clear hz
                go_wp2
                go_roundw
                case rel => exact ⟨k + 1, by go_num, hlt, HN2, (by trivial)⟩
                case measure => simp [intOf]; omega
    · obtain rfl : k = n := by omega
      have HR := Lib.hid (rjoin_no HNO.out)
      go_wp2
      go_ret
      exact ⟨ret_i64 HR.out.symm, HB1.out⟩

set_option maxRecDepth 10000 in
set_option maxHeartbeats 800000 in
theorem rmeet_any {w : World} {o : Od} {v m : Value} (h : RefAt w o v m) {a b : Nat} (ha : a < o.ns.length) (hb : b < o.ns.length) :
    Calls Try.prog 45 #[.agg #[v, m], .int .i64 (a : Int), .int .i64 (b : Int)] w fun e w' => e = .returned (.int .i64 (rjoinI (oflip (fun a b => o.most a b)) o.ns.length a b)) ∧ Below w.heap.size w w' := by
  have hl := h.wf.len
  obtain ⟨F, hF⟩ : ∃ F : Nat → Nat → Bool, (oflip (fun a b => o.most a b)) = F := ⟨_, rfl⟩
  rw [hF]
  have hBX : Blk (w.alloc (.cells #[v, m] 30)) w.heap.size 30 [v, m] := Blk.new _ _ _
  have hb1 : Below w.heap.size w (w.alloc (.cells #[v, m] 30)) := (Below.refl _ _).alloc (Nat.le_refl _) _
  have h1 := h.stay hb1
  obtain ⟨A, cA, rfl, _⟩ := h1.nm
  obtain ⟨M, cM, rfl, hM⟩ := h1.mt
  have d0 := hBX.cell 0
  have d1 := hBX.cell 1
  have HB1 := Lib.hid hb1
  obtain ⟨mb, mo, rb, ro, rc, rfl, hrows⟩ := hM.rows (Nat.lt_of_le_of_lt (Nat.zero_le _) ha)
  have HM := Lib.hid (fun (x : Nat) (hx : x < o.ns.length) => (hrows x hx).1)
  have HC := Lib.hid (fun (x y : Nat) (hx : x < o.ns.length) (hy : y < o.ns.length) => (by
    have := (hrows y hy).2 x hx
    rw [show o.most y x = F x y from by rw [← hF]; rfl] at this
    exact this : (w.alloc (.cells #[.slice A o.ns.length cA, .slice (some ⟨mb, mo, none⟩) o.ns.length cM] 30)).cell? ⟨rb y, ro y + x, none⟩ = some (.bool (F x y))))
  obtain ⟨n, hn⟩ : ∃ n, o.ns.length = n := ⟨_, rfl⟩
  rw [hn] at ha hb hl d0 d1 HB1 HM HC ⊢
  clear hF hBX hb1 h h1 hM hn hrows
  go_enter Try.func45, Try.ntmps45
  go_wp2
  obtain ⟨w1, hw1⟩ : ∃ w1, w.alloc (.cells #[.slice A n cA, .slice (some ⟨mb, mo, none⟩) n cM] 30) = w1 := ⟨_, rfl⟩
  rw [hw1] at d0 d1 HB1 HM HC
  rw [hw1]
  clear hw1
  go_loopw [7] (fun i wr => ∃ k : Nat, i = .int .i64 (k : Int) ∧ k ≤ n ∧ Hid (∀ j, j < k → jcand F n a b j = false) ∧ wr = w1) (fun i _ => n - (intOf i).toNat)
  case atStart => exact ⟨0, rfl, Nat.zero_le _, Lib.hid (fun j hj => absurd hj (Nat.not_lt_zero _)), rfl⟩
  case round =>
    obtain ⟨k, rfl, hk, HNO, rfl⟩ := hrel
    obtain ⟨wz, hwz⟩ : ∃ wz, wz = wr := ⟨_, rfl⟩
    subst hwz
    by_cases hlt : k < n
    · have r1 := HM.out a ha
      have r2 := HM.out b hb
      have r3 := HM.out k hlt
      have e2 := HC.out a k ha hlt
      have g2 := HC.out b k hb hlt
      have HNX := Lib.hid (fun h : jcand F n a b k = false => (fun j hj => (by
        rcases Nat.lt_or_ge j k with e | e
        · exact HNO.out j e
        · obtain rfl : j = k := by omega
          exact h : jcand F n a b j = false) : ∀ j, j < k + 1 → jcand F n a b j = false))
      have HJ := Lib.hid (show jcand F n a b k = ((F a k && F b k) && jall F a b k n) from rfl)
      have HYES := Lib.hid (fun h : jcand F n a b k = true => rjoin_yes hlt h HNO.out)
      obtain ⟨x, hx⟩ : ∃ x, F a k = x := ⟨_, rfl⟩
      obtain ⟨y, hy⟩ : ∃ y, F b k = y := ⟨_, rfl⟩
      rw [hx] at e2 HJ
      rw [hy] at g2 HJ
      clear hx hy
      cases x with
      | false =>
        have HN2 := Lib.hid (HNX.out (by rw [HJ.out]; rfl))
        go_wp2
        go_roundw
        case rel => exact ⟨k + 1, by go_num, hlt, HN2, (by trivial)⟩
        case measure => simp [intOf]; omega
      | true =>
        cases y with
        | false =>
          have HN2 := Lib.hid (HNX.out (by rw [HJ.out]; rfl))
          go_wp2
          go_roundw
          case rel => exact ⟨k + 1, by go_num, hlt, HN2, (by trivial)⟩
          case measure => simp [intOf]; omega
        | true =>
          go_wp2
          go_loopw [8, 9] (fun l i wr => ∃ j : Nat, l = .bool (jall F a b k j) ∧ i = .int .i64 (j : Int) ∧ j ≤ n ∧ wr = wz) (fun _ i _ => n - (intOf i).toNat)
          case atStart => exact ⟨0, rfl, rfl, Nat.zero_le _, rfl⟩
          case round =>
            obtain ⟨j, rfl, rfl, hj, rfl⟩ := hrel
            by_cases hlt2 : j < n
            · have r4 := HM.out j hlt2
              have f2 := HC.out a j ha hlt2
              have s2 := HC.out b j hb hlt2
              have t2 := HC.out k j hlt hlt2
              have HS := Lib.hid (jall_succ F a b k j)
              obtain ⟨p, hp⟩ : ∃ p, F a j = p := ⟨_, rfl⟩
              obtain ⟨q, hq⟩ : ∃ q, F b j = q := ⟨_, rfl⟩
              obtain ⟨r, hr⟩ : ∃ r, F k j = r := ⟨_, rfl⟩
              obtain ⟨z, hz⟩ : ∃ z, jall F a b k j = z := ⟨_, rfl⟩
              rw [hp, hq, hr, hz] at HS
              rw [hp] at f2
              rw [hq] at s2
              rw [hr] at t2
              rw [hz]
              clear hp hq hr hz
              have hcs : p = false ∨ (p = true ∧ q = false) ∨ (p = true ∧ q = true ∧ r = true) ∨ (p = true ∧ q = true ∧ r = false) := by
                cases p <;> cases q <;> cases r <;> simp
              rcases hcs with rfl | ⟨rfl, rfl⟩ | ⟨rfl, rfl, rfl⟩ | ⟨rfl, rfl, rfl⟩
              all_goals
                go_wp2
                go_roundw
                case rel => exact ⟨j + 1, by rw [HS.out]; simp, by go_num, hlt2, (by trivial)⟩
                case measure => simp [intOf]; omega
            · obtain rfl : j = n := by omega
              cases hz : jall F a b k j with
              | true =>
                have HR := Lib.hid (HYES.out (by rw [HJ.out, hz]; rfl))
                clear hz
                go_wp2
                go_ret
                exact ⟨ret_i64 HR.out.symm, HB1.out⟩
              | false =>
                have HN2 := Lib.hid (HNX.out (by rw [HJ.out, hz]; rfl))
                clear hz
                go_wp2
                go_roundw
                case rel => exact ⟨k + 1, by go_num, hlt, HN2, (by trivial)⟩
                case measure => simp [intOf]; omega
    · obtain rfl : k = n := by omega
      have HR := Lib.hid (rjoin_no HNO.out)
      go_wp2
      go_ret
      exact ⟨ret_i64 HR.out.symm, HB1.out⟩
end Go.Proofs.Ytnhdpegjkkaabaa
