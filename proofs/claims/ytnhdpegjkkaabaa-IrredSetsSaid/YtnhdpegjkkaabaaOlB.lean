/-
  CONTRACTS OF the document's Bottom, Top, JoinAll; its lattice in memory.
-/
import Derived.Test.YtnhdpegjkkaabaaOlM
namespace Go.Proofs.Ytnhdpegjkkaabaa
set_option linter.unusedVariables false
set_option linter.unusedSimpArgs false
open Go.RowKit

/-- A row of numbers. -/
def tints (n : Nat) (f : Nat → Int) : List Value := (List.range n).map fun j => Value.int .i64 (f j)
theorem tints_len (n : Nat) (f : Nat → Int) : (tints n f).length = n := by simp [tints]
theorem tints_snoc (n : Nat) (f : Nat → Int) : tints (n + 1) f = tints n f ++ [.int .i64 (f n)] := by simp [tints, List.range_succ]
theorem tints_at {n : Nat} {f : Nat → Int} {k : Nat} {u : Value} (h : (tints n f)[k]? = some u) : u = .int .i64 (f k) := by
  unfold tints at h
  rw [List.getElem?_map] at h
  cases e : (List.range n)[k]? with
  | none => rw [e] at h; cases h
  | some x =>
    rw [e] at h
    obtain ⟨_, e⟩ := List.getElem?_eq_some_iff.1 e
    simp at e
    cases h
    rw [e]
/-- A table of numbers: rows of slices. -/
def TabAt (w : World) (M : Option Addr) (n : Nat) (f : Nat → Nat → Int) : Prop :=
  0 < n → ∃ b off, M = some ⟨b, off, none⟩ ∧ b < w.heap.size ∧ ∀ a, a < n → ∃ P c, w.cell? ⟨b, off + a, none⟩ = some (.slice P n c) ∧ Sh w w.heap.size P n (tints n (f a))
theorem TabAt.stay {w w' : World} {M : Option Addr} {n : Nat} {f : Nat → Nat → Int} (h : TabAt w M n f) (hb : Below w.heap.size w w') : TabAt w' M n f := fun hn => by
  obtain ⟨b, off, e, hlt, hc⟩ := h hn
  refine ⟨b, off, e, Nat.lt_of_lt_of_le hlt hb.size, fun a ha => ?_⟩
  obtain ⟨P, c, h1, h2⟩ := hc a ha
  exact ⟨P, c, (hb.cell (p := ⟨b, off + a, none⟩) hlt).trans h1, h2.grow hb⟩
theorem TabAt.rows {w : World} {M : Option Addr} {n : Nat} {f : Nat → Nat → Int} (h : TabAt w M n f) : 0 < n → ∃ (mb mo : Nat) (rb ro rc : Nat → Nat), M = some ⟨mb, mo, none⟩ ∧ ∀ x, x < n → w.cell? ⟨mb, mo + x, none⟩ = some (.slice (some ⟨rb x, ro x, none⟩) n (rc x)) ∧ ∀ y, y < n → w.cell? ⟨rb x, ro x + y, none⟩ = some (.int .i64 (f x y)) := by
  intro hn
  obtain ⟨mb, mo, e, _, hc⟩ := h hn
  have h2 : ∀ x, ∃ r : Nat × Nat × Nat, x < n → w.cell? ⟨mb, mo + x, none⟩ = some (.slice (some ⟨r.1, r.2.1, none⟩) n r.2.2) ∧ ∀ y, y < n → w.cell? ⟨r.1, r.2.1 + y, none⟩ = some (.int .i64 (f x y)) := by
    intro x
    by_cases hx : x < n
    · obtain ⟨P, c, h1, h2⟩ := hc x hx
      obtain ⟨pb, po, u, rfl, _, _, _⟩ := h2.at hn
      refine ⟨(pb, po, c), fun _ => ⟨h1, fun y hy => ?_⟩⟩
      obtain ⟨pb', po', u, e', _, hu, hcell⟩ := h2.at hy
      cases e'
      rw [tints_at hu] at hcell
      exact hcell
    · exact ⟨(0, 0, 0), fun h => absurd h hx⟩
  obtain ⟨g, hg⟩ := Classical.axiomOfChoice h2
  exact ⟨mb, mo, fun x => (g x).1, fun x => (g x).2.1, fun x => (g x).2.2, e, hg⟩
def rmost (o : Od) : Nat → Nat → Bool := fun a b => o.most a b
/-- The document's lattice: its order, its tables. -/
structure LatAt (w : World) (o : Od) (v m js ms : Value) : Prop where
  ref : RefAt w o v m
  jt : ∃ J c, js = .slice J o.ns.length c ∧ TabAt w J o.ns.length (rjoinI (rmost o) o.ns.length)
  mt : ∃ M c, ms = .slice M o.ns.length c ∧ TabAt w M o.ns.length (rjoinI (oflip (rmost o)) o.ns.length)
theorem LatAt.stay {w w' : World} {o : Od} {v m js ms : Value} (h : LatAt w o v m js ms) (hb : Below w.heap.size w w') : LatAt w' o v m js ms := by
  obtain ⟨h1, ⟨J, c, e, h2⟩, ⟨M, d, e2, h3⟩⟩ := h
  exact ⟨h1.stay hb, ⟨J, c, e, h2.stay hb⟩, ⟨M, d, e2, h3.stay hb⟩⟩

set_option maxRecDepth 10000 in
set_option maxHeartbeats 800000 in
theorem rbottom_any {w : World} {o : Od} {v m js ms : Value} (h : LatAt w o v m js ms) :
    Calls Try.prog 25 #[.agg #[v, m, js, ms]] w fun e w' => e = .returned (.int .i64 (botI (fun a b => o.most a b) o.ns.length)) ∧ Below w.heap.size w w' := by
  have hl := h.ref.wf.len
  obtain ⟨F, hF⟩ : ∃ F : Nat → Nat → Bool, (fun a b => o.most a b) = F := ⟨_, rfl⟩
  rw [hF]
  obtain ⟨⟨J, cJ, rfl, _⟩, ⟨K, cK, rfl, _⟩⟩ := And.intro h.jt h.mt
  have hBX : Blk (w.alloc (.cells #[v, m, .slice J o.ns.length cJ, .slice K o.ns.length cK] 33)) w.heap.size 33 [v, m, .slice J o.ns.length cJ, .slice K o.ns.length cK] := Blk.new _ _ _
  have hb1 : Below w.heap.size w (w.alloc (.cells #[v, m, .slice J o.ns.length cJ, .slice K o.ns.length cK] 33)) := (Below.refl _ _).alloc (Nat.le_refl _) _
  have h1 := h.ref.stay hb1
  obtain ⟨A, cA, rfl, _⟩ := h1.nm
  obtain ⟨M, cM, rfl, hM⟩ := h1.mt
  have d0 := hBX.cell 0
  have d1 := hBX.cell 1
  have HB1 := Lib.hid hb1
  have HR := Lib.hid (fun hn : 0 < o.ns.length => (by
    obtain ⟨mb, mo, rb, ro, rc, e, hr⟩ := hM.rows hn
    refine ⟨mb, mo, rb, ro, rc, e, fun x hx => (hr x hx).1, fun x y hx hy => ?_⟩
    have := (hr x hx).2 y hy
    rw [show o.most x y = F x y from by rw [← hF]] at this
    exact this : ∃ (mb mo : Nat) (rb ro rc : Nat → Nat), M = some ⟨mb, mo, none⟩ ∧ (∀ x, x < o.ns.length → (w.alloc (.cells #[.slice A o.ns.length cA, .slice M o.ns.length cM, .slice J o.ns.length cJ, .slice K o.ns.length cK] 33)).cell? ⟨mb, mo + x, none⟩ = some (.slice (some ⟨rb x, ro x, none⟩) o.ns.length (rc x))) ∧ ∀ x y, x < o.ns.length → y < o.ns.length → (w.alloc (.cells #[.slice A o.ns.length cA, .slice M o.ns.length cM, .slice J o.ns.length cJ, .slice K o.ns.length cK] 33)).cell? ⟨rb x, ro x + y, none⟩ = some (.bool (F x y))))
  obtain ⟨n, hn⟩ : ∃ n, o.ns.length = n := ⟨_, rfl⟩
  rw [hn] at hl d0 d1 HB1 HR ⊢
  clear hF hBX hb1 h h1 hM hn
  go_enter Try.func25, Try.ntmps25
  go_wp2
  obtain ⟨w1, hw1⟩ : ∃ w1, w.alloc (.cells #[.slice A n cA, .slice M n cM, .slice J n cJ, .slice K n cK] 33) = w1 := ⟨_, rfl⟩
  rw [hw1] at d0 d1 HB1 HR
  rw [hw1]
  clear hw1
  go_loopw [3] (fun i wr => ∃ k : Nat, i = .int .i64 (k : Int) ∧ k ≤ n ∧ Hid (∀ j, j < k → brow F j n = false) ∧ wr = w1) (fun i _ => n - (intOf i).toNat)
  case atStart => exact ⟨0, rfl, Nat.zero_le _, Lib.hid (fun j hj => absurd hj (Nat.not_lt_zero _)), rfl⟩
  case round =>
    obtain ⟨k, rfl, hk, HNO, rfl⟩ := hrel
    obtain ⟨wz, hwz⟩ : ∃ wz, wz = wr := ⟨_, rfl⟩
    subst hwz
    by_cases hlt : k < n
    · obtain ⟨mb, mo, rb, ro, rc, rfl, hr1, hr2⟩ := HR.out (by omega)
      have HM := Lib.hid hr1
      have HC := Lib.hid hr2
      clear hr1 hr2
      have HNX := Lib.hid (fun h : brow F k n = false => (fun j hj => (by
        rcases Nat.lt_or_ge j k with e | e
        · exact HNO.out j e
        · obtain rfl : j = k := by omega
          exact h : brow F j n = false) : ∀ j, j < k + 1 → brow F j n = false))
      have HYES := Lib.hid (fun h : brow F k n = true => botI_yes hlt h HNO.out)
      go_wp2
      go_loopw [4, 5] (fun l i wr => ∃ j : Nat, l = .bool (brow F k j) ∧ i = .int .i64 (j : Int) ∧ j ≤ n ∧ wr = wz) (fun _ i _ => n - (intOf i).toNat)
      case atStart => exact ⟨0, rfl, rfl, Nat.zero_le _, rfl⟩
      case round =>
        obtain ⟨j, rfl, rfl, hj, rfl⟩ := hrel
        by_cases hlt2 : j < n
        · have r1 := HM.out k hlt
          have r2 := HM.out j hlt2
          have f2 := HC.out k j hlt hlt2
          have HS := Lib.hid (brow_succ F k j)
          obtain ⟨p, hp⟩ : ∃ p, F k j = p := ⟨_, rfl⟩
          obtain ⟨z, hz⟩ : ∃ z, brow F k j = z := ⟨_, rfl⟩
          rw [hp, hz] at HS
          rw [hp] at f2
          rw [hz]
          clear hp hz
          cases z
          all_goals
            go_wp2
            go_roundw
            case rel => exact ⟨j + 1, by rw [HS.out]; simp, by go_num, hlt2, (by trivial)⟩
            case measure => simp [intOf]; omega
        · obtain rfl : j = n := by omega
          cases hz : brow F k j with
          | true =>
            have HR2 := Lib.hid (HYES.out hz)
            clear hz
            go_wp2
            go_ret
            exact ⟨ret_i64 HR2.out.symm, HB1.out⟩
          | false =>
            have HN2 := Lib.hid (HNX.out hz)
            clear hz
            go_wp2
            go_roundw
            case rel => exact ⟨k + 1, by go_num, hlt, HN2, (by trivial)⟩
            case measure => simp [intOf]; omega
    · obtain rfl : k = n := by omega
      have HR2 := Lib.hid (botI_no HNO.out)
      go_wp2
      go_ret
      exact ⟨ret_i64 HR2.out.symm, HB1.out⟩

set_option maxRecDepth 10000 in
set_option maxHeartbeats 800000 in
theorem rtop_any {w : World} {o : Od} {v m js ms : Value} (h : LatAt w o v m js ms) :
    Calls Try.prog 26 #[.agg #[v, m, js, ms]] w fun e w' => e = .returned (.int .i64 (botI (oflip (fun a b => o.most a b)) o.ns.length)) ∧ Below w.heap.size w w' := by
  have hl := h.ref.wf.len
  obtain ⟨F, hF⟩ : ∃ F : Nat → Nat → Bool, (oflip (fun a b => o.most a b)) = F := ⟨_, rfl⟩
  rw [hF]
  obtain ⟨⟨J, cJ, rfl, _⟩, ⟨K, cK, rfl, _⟩⟩ := And.intro h.jt h.mt
  have hBX : Blk (w.alloc (.cells #[v, m, .slice J o.ns.length cJ, .slice K o.ns.length cK] 33)) w.heap.size 33 [v, m, .slice J o.ns.length cJ, .slice K o.ns.length cK] := Blk.new _ _ _
  have hb1 : Below w.heap.size w (w.alloc (.cells #[v, m, .slice J o.ns.length cJ, .slice K o.ns.length cK] 33)) := (Below.refl _ _).alloc (Nat.le_refl _) _
  have h1 := h.ref.stay hb1
  obtain ⟨A, cA, rfl, _⟩ := h1.nm
  obtain ⟨M, cM, rfl, hM⟩ := h1.mt
  have d0 := hBX.cell 0
  have d1 := hBX.cell 1
  have HB1 := Lib.hid hb1
  have HR := Lib.hid (fun hn : 0 < o.ns.length => (by
    obtain ⟨mb, mo, rb, ro, rc, e, hr⟩ := hM.rows hn
    refine ⟨mb, mo, rb, ro, rc, e, fun x hx => (hr x hx).1, fun x y hx hy => ?_⟩
    have := (hr y hy).2 x hx
    rw [show o.most y x = F x y from by rw [← hF]; rfl] at this
    exact this : ∃ (mb mo : Nat) (rb ro rc : Nat → Nat), M = some ⟨mb, mo, none⟩ ∧ (∀ x, x < o.ns.length → (w.alloc (.cells #[.slice A o.ns.length cA, .slice M o.ns.length cM, .slice J o.ns.length cJ, .slice K o.ns.length cK] 33)).cell? ⟨mb, mo + x, none⟩ = some (.slice (some ⟨rb x, ro x, none⟩) o.ns.length (rc x))) ∧ ∀ x y, x < o.ns.length → y < o.ns.length → (w.alloc (.cells #[.slice A o.ns.length cA, .slice M o.ns.length cM, .slice J o.ns.length cJ, .slice K o.ns.length cK] 33)).cell? ⟨rb y, ro y + x, none⟩ = some (.bool (F x y))))
  obtain ⟨n, hn⟩ : ∃ n, o.ns.length = n := ⟨_, rfl⟩
  rw [hn] at hl d0 d1 HB1 HR ⊢
  clear hF hBX hb1 h h1 hM hn
  go_enter Try.func26, Try.ntmps26
  go_wp2
  obtain ⟨w1, hw1⟩ : ∃ w1, w.alloc (.cells #[.slice A n cA, .slice M n cM, .slice J n cJ, .slice K n cK] 33) = w1 := ⟨_, rfl⟩
  rw [hw1] at d0 d1 HB1 HR
  rw [hw1]
  clear hw1
  go_loopw [3] (fun i wr => ∃ k : Nat, i = .int .i64 (k : Int) ∧ k ≤ n ∧ Hid (∀ j, j < k → brow F j n = false) ∧ wr = w1) (fun i _ => n - (intOf i).toNat)
  case atStart => exact ⟨0, rfl, Nat.zero_le _, Lib.hid (fun j hj => absurd hj (Nat.not_lt_zero _)), rfl⟩
  case round =>
    obtain ⟨k, rfl, hk, HNO, rfl⟩ := hrel
    obtain ⟨wz, hwz⟩ : ∃ wz, wz = wr := ⟨_, rfl⟩
    subst hwz
    by_cases hlt : k < n
    · obtain ⟨mb, mo, rb, ro, rc, rfl, hr1, hr2⟩ := HR.out (by omega)
      have HM := Lib.hid hr1
      have HC := Lib.hid hr2
      clear hr1 hr2
      have HNX := Lib.hid (fun h : brow F k n = false => (fun j hj => (by
        rcases Nat.lt_or_ge j k with e | e
        · exact HNO.out j e
        · obtain rfl : j = k := by omega
          exact h : brow F j n = false) : ∀ j, j < k + 1 → brow F j n = false))
      have HYES := Lib.hid (fun h : brow F k n = true => botI_yes hlt h HNO.out)
      go_wp2
      go_loopw [4, 5] (fun l i wr => ∃ j : Nat, l = .bool (brow F k j) ∧ i = .int .i64 (j : Int) ∧ j ≤ n ∧ wr = wz) (fun _ i _ => n - (intOf i).toNat)
      case atStart => exact ⟨0, rfl, rfl, Nat.zero_le _, rfl⟩
      case round =>
        obtain ⟨j, rfl, rfl, hj, rfl⟩ := hrel
        by_cases hlt2 : j < n
        · have r1 := HM.out k hlt
          have r2 := HM.out j hlt2
          have f2 := HC.out k j hlt hlt2
          have HS := Lib.hid (brow_succ F k j)
          obtain ⟨p, hp⟩ : ∃ p, F k j = p := ⟨_, rfl⟩
          obtain ⟨z, hz⟩ : ∃ z, brow F k j = z := ⟨_, rfl⟩
          rw [hp, hz] at HS
          rw [hp] at f2
          rw [hz]
          clear hp hz
          cases z
          all_goals
            go_wp2
            go_roundw
            case rel => exact ⟨j + 1, by rw [HS.out]; simp, by go_num, hlt2, (by trivial)⟩
            case measure => simp [intOf]; omega
        · obtain rfl : j = n := by omega
          cases hz : brow F k j with
          | true =>
            have HR2 := Lib.hid (HYES.out hz)
            clear hz
            go_wp2
            go_ret
            exact ⟨ret_i64 HR2.out.symm, HB1.out⟩
          | false =>
            have HN2 := Lib.hid (HNX.out hz)
            clear hz
            go_wp2
            go_roundw
            case rel => exact ⟨k + 1, by go_num, hlt, HN2, (by trivial)⟩
            case measure => simp [intOf]; omega
    · obtain rfl : k = n := by omega
      have HR2 := Lib.hid (botI_no HNO.out)
      go_wp2
      go_ret
      exact ⟨ret_i64 HR2.out.symm, HB1.out⟩

set_option maxRecDepth 10000 in
set_option maxHeartbeats 800000 in
theorem rjoinAll_any {w : World} {o : Od} {v m js ms : Value} (h : LatAt w o v m js ms) (hL : Lat o.ns.length (rmost o) (jn (rmost o) o.ns.length) (mn (rmost o) o.ns.length)) (h0 : 0 < o.ns.length) (S : Option Addr) (c : Nat) (s : List Nat) (hs : Sh w w.heap.size S s.length (ints s)) (hi : ∀ a ∈ s, a < o.ns.length) (hsl : s.length ≤ 1000000) :
    Calls Try.prog 31 #[.agg #[v, m, js, ms], .slice S s.length c] w fun e w' => e = .returned (.int .i64 (jfold (rmost o) o.ns.length s (botI (rmost o) o.ns.length).toNat : Nat)) ∧ Below w.heap.size w w' := by
  have hl := h.ref.wf.len
  obtain ⟨F, hF⟩ : ∃ F : Nat → Nat → Bool, rmost o = F := ⟨_, rfl⟩
  obtain ⟨⟨J, cJ, rfl, hJ⟩, ⟨K, cK, rfl, _⟩⟩ := And.intro h.jt h.mt
  obtain ⟨⟨A, cA, rfl, _⟩, ⟨M, cM, rfl, _⟩⟩ := And.intro h.ref.nm h.ref.mt
  have hBX : Blk (w.alloc (.cells #[.slice A o.ns.length cA, .slice M o.ns.length cM, .slice J o.ns.length cJ, .slice K o.ns.length cK] 33)) w.heap.size 33 [.slice A o.ns.length cA, .slice M o.ns.length cM, .slice J o.ns.length cJ, .slice K o.ns.length cK] := Blk.new _ _ _
  have hb1 : Below w.heap.size w (w.alloc (.cells #[.slice A o.ns.length cA, .slice M o.ns.length cM, .slice J o.ns.length cJ, .slice K o.ns.length cK] 33)) := (Below.refl _ _).alloc (Nat.le_refl _) _
  have h1 := h.stay hb1
  have hJ1 := hJ.stay hb1
  have hbot := rbottom_any h1
  rw [show (fun a b => o.most a b) = F from hF] at hbot
  rw [hF] at hJ1 hL ⊢
  obtain ⟨bt, hbt, ebt, _, _⟩ := hL.bot h0
  rw [ebt] at hbot
  rw [ebt]
  have d0 := hBX.cell 0
  have d1 := hBX.cell 1
  have d2 := hBX.cell 2
  have d3 := hBX.cell 3
  have HB1 := Lib.hid hb1
  have HBT := Lib.hid hbot
  have HBX := Lib.hid hBX
  have HS := Lib.hid (hs.more (B' := (w.alloc (.cells #[.slice A o.ns.length cA, .slice M o.ns.length cM, .slice J o.ns.length cJ, .slice K o.ns.length cK] 33)).heap.size) (by simp))
  have hS1 : Sh (w.alloc (.cells #[.slice A o.ns.length cA, .slice M o.ns.length cM, .slice J o.ns.length cJ, .slice K o.ns.length cK] 33)) (w.alloc (.cells #[.slice A o.ns.length cA, .slice M o.ns.length cM, .slice J o.ns.length cJ, .slice K o.ns.length cK] 33)).heap.size S s.length (ints s) := hs.grow hb1
  clear HS
  have HS := Lib.hid hS1
  have HJ := Lib.hid hJ1
  have HLT := Lib.hid hL
  have HI := Lib.hid hi
  obtain ⟨n, hn⟩ : ∃ n, o.ns.length = n := ⟨_, rfl⟩
  rw [hn] at hl d0 d1 d2 d3 HB1 HBT HBX HS HJ HLT HI h0 hbt ⊢
  clear hF hBX hb1 h h1 hJ hJ1 hn hs hi hS1 hL hbot ebt
  obtain ⟨q, hq⟩ : ∃ q, s.length = q := ⟨_, rfl⟩
  have HQ := Lib.hid hq
  rw [hq] at hsl HS
  rw [hq]
  clear hq
  go_enter Try.func31, Try.ntmps31
  go_wp2_with (first
    | (go_at_call 25; (with_reducible refine HBT.out.mono ?_); rintro e w2 ⟨rfl, b2⟩; have HB2 := Lib.hid b2; clear b2)
    | go_in)
  obtain ⟨w1, hw1⟩ : ∃ w1, w.alloc (.cells #[.slice A n cA, .slice M n cM, .slice J n cJ, .slice K n cK] 33) = w1 := ⟨_, rfl⟩
  rw [hw1] at d0 d1 d2 d3 HB1 HBT HBX HS HJ HB2
  clear hw1
  go_loopw [5, 6] (fun x i wr => ∃ k : Nat, x = .int .i64 (jfold F n (s.take k) bt : Nat) ∧ i = .int .i64 (k : Int) ∧ k ≤ q ∧ Hid (Quiet w2 wr)) (fun _ i _ => q - (intOf i).toNat)
  case atStart => exact ⟨0, rfl, rfl, Nat.zero_le _, Lib.hid (Quiet.refl _)⟩
  case round =>
    obtain ⟨k, rfl, rfl, hk, HQT⟩ := hrel
    obtain ⟨wz, hwz⟩ : ∃ wz, wz = wr := ⟨_, rfl⟩
    subst hwz
    by_cases hlt : k < q
    · have hB := HB2.out.trans ((HQT.out.below _).mono HB2.out.size)
      have hS2 := HS.out.grow (w' := wz) (by simpa using hB)
      obtain ⟨sb, so, u, rfl, _, hu, c0⟩ := hS2.at hlt
      have hJ2 := HJ.out.stay (w' := wz) (by simpa using hB)
      obtain ⟨mb, mo, rb, ro, rc, rfl, hr⟩ := hJ2.rows h0
      have hks : k < s.length := by rw [HQ.out]; exact hlt
      rw [show u = .int .i64 ((s[k] : Nat) : Int) from by
        unfold ints at hu
        rw [List.getElem?_map, List.getElem?_eq_getElem hks] at hu
        cases hu; rfl] at c0
      have hsk := HI.out _ (List.getElem_mem hks)
      have htl := jfold_lt HLT.out (l := s.take k) hbt (fun a ha => HI.out a (List.mem_of_mem_take ha))
      have HTK := Lib.hid (show jfold F n (s.take (k + 1)) bt = jn F n (jfold F n (s.take k) bt) s[k] by rw [List.take_add_one, List.getElem?_eq_getElem hks]; exact jfold_snoc _ _ _)
      obtain ⟨x, hx⟩ : ∃ x, jfold F n (s.take k) bt = x := ⟨_, rfl⟩
      obtain ⟨y, hy⟩ : ∃ y, s[k] = y := ⟨_, rfl⟩
      rw [hx, hy] at HTK
      rw [hx] at htl
      rw [hy] at c0 hsk
      rw [hx]
      have r1 := (hr x htl).1
      have r2 := (hr x htl).2 y hsk
      rw [show rjoinI F n x y = ((jn F n x y : Nat) : Int) from by rw [(HLT.out.j htl hsk).rjoin HLT.out.ord]] at r2
      have HE := Lib.hid (show wz.cell? ⟨w.heap.size, 2, none⟩ = some (.slice (some ⟨mb, mo, none⟩) n cJ) from (hB.cell (p := ⟨w.heap.size, 2, none⟩) HBX.out.lt).trans d2)
      have e2 := HE.out
      clear hx hy hu hr hJ2 hS2 hB d0 d1 d2 d3
      go_wp2
      go_quiet (fail)
      go_wp2
      go_roundw
      case rel => exact ⟨k + 1, by rw [HTK.out], by go_num, hlt, Lib.hid (HQT.out.trans (Quiet.one _ _))⟩
      case measure => simp [intOf]; omega
    · obtain rfl : k = q := by omega
      have hB := HB1.out.trans ((HB2.out.trans ((HQT.out.below _).mono HB2.out.size)).mono HB1.out.size)
      have HE := Lib.hid hB
      have HT := Lib.hid (show s.take k = s from List.take_of_length_le (by rw [HQ.out]; exact Nat.le_refl _))
      clear hB
      go_wp2
      go_ret
      exact ⟨by rw [HT.out]; rfl, HE.out⟩
end Go.Proofs.Ytnhdpegjkkaabaa
