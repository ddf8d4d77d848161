/-
  A LATTICE IN MEMORY: its order, its tables; the calls that count.
  CONTRACTS OF common, makeTables: the tables of joins and meets are made.
  WORDS FOR makeTables: what is made so far.
-/
import Derived.Test.YtnhdpegjkkaabaaLtM
import Derived.Test.YtnhdpegjkkaabaaOnceG
import Derived.Laws.LoneSync
import Derived.Laws.NewBlocks
import Derived.Tactics
import Derived.Tactics2
import Derived.Defers
import Derived.Laws.Pointers
import Derived.RegionTactic
import Derived.RegionCalls
import Derived.IntWalk
namespace Go.Proofs.Ytnhdpegjkkaabaa
set_option linter.unusedVariables false
set_option linter.unusedSimpArgs false
open Go.RowKit Go.Maps

theorem OrdAt.only {w w' : World} {X : Nat → Prop} {og g : Nat} {o : Od} (h : OrdAt w X og o) (hX : X g) (ho : Only g w w') : OrdAt w' X og o := by
  obtain ⟨h1, h2, ⟨v, m, hc, hr, hm, hx⟩, h4, h5⟩ := h
  exact ⟨h1, fun b hb' => by rw [ho.size]; exact h2 b hb', ⟨v, m, hc.stay (ho.block _ fun e => h1 (e ▸ hX)), ⟨(hr.stay (fun j hj => ho.block _ fun e => hr.2 j hj (e ▸ hX))).1, hr.2⟩, hm.stay (ho.block _ fun e => hx (e ▸ hX)), hx⟩, h4, h5⟩

def upto (d : Bool) (n : Nat) : Nat := match d with | true => n | false => 0
/-- Where a table's entry lies. -/
def tat (base a b : Nat) : Nat := base + a * 64 + b
theorem tat_inj {p a b c d : Nat} (hb : b < 64) (hd : d < 64) (h : tat p a b = tat p c d) : a = c ∧ b = d := by
  unfold tat at h
  omega
theorem tat_lt {a b : Nat} (ha : a < 64) (hb : b < 64) : 6 ≤ tat 6 a b ∧ tat 6 a b < 4102 ∧ 4102 ≤ tat 4102 a b ∧ tat 4102 a b < 8198 := by
  unfold tat
  omega
/-- The tables, as far as rows below m, and in row m places below q (joins), r (meets), are made. -/
structure LtT (w : World) (g : Nat) (o : Od) (m q r : Nat) : Prop where
  jx : ∀ a b, a < 64 → b < 64 → ∃ v, w.cell? ⟨g, tat 6 a b, none⟩ = some v
  mx : ∀ a b, a < 64 → b < 64 → ∃ v, w.cell? ⟨g, tat 4102 a b, none⟩ = some v
  js : ∀ a b, a < o.ns.length → b < o.ns.length → (a < m ∨ a = m ∧ b < q) → w.cell? ⟨g, tat 6 a b, none⟩ = some (.int .i8 (rjoinI (rmost o) o.ns.length a b))
  ms : ∀ a b, a < o.ns.length → b < o.ns.length → (a < m ∨ a = m ∧ b < r) → w.cell? ⟨g, tat 4102 a b, none⟩ = some (.int .i8 (rjoinI (oflip (rmost o)) o.ns.length a b))
/-- Bottom and top among the elements below m, below r. -/
structure LtB (w : World) (g : Nat) (o : Od) (m r : Nat) : Prop where
  bot : ∃ b : Nat, w.cell? ⟨g, 8198, none⟩ = some (.int .i64 (b : Int)) ∧ ∀ i, i < m → (∀ k, k < o.ns.length → rmost o i k = true) → b = i
  top : ∃ b : Nat, w.cell? ⟨g, 8199, none⟩ = some (.int .i64 (b : Int)) ∧ ∀ i, i < r → (∀ k, k < o.ns.length → rmost o k i = true) → b = i
/-- What lies around the tables. -/
structure LtC (w : World) (X : Nat → Prop) (g og : Nat) (o : Od) (k : Nat) : Prop where
  gX : X g
  ord : OrdAt w X og o
  osd : Osd o
  osa : Osa o
  nf : ∀ j, w.frozen? ⟨g, j, none⟩ = false
  c0 : w.cell? ⟨g, 0, none⟩ = some (.pointer (some ⟨og, 0, none⟩))
  c1 : w.cell? ⟨g, 1, none⟩ = some (.int .i64 (k : Int))
/-- The lattice of the order o (which lies at og) lies at g; are its tables made (d); what was asked (k). -/
structure LtAt (w : World) (X : Nat → Prop) (g og : Nat) (o : Od) (d : Bool) (k : Nat) : Prop where
  c : LtC w X g og o k
  c2 : w.cell? ⟨g, 2, none⟩ = some (.int .u32 (donev d))
  c3 : w.cell? ⟨g, 3, none⟩ = some (.int .i32 0)
  c5 : ∃ v, w.cell? ⟨g, 5, none⟩ = some v ∧ (d = true → v = .int .i64 (o.ns.length : Int))
  t : LtT w g o (upto d o.ns.length) 0 0
  b : LtB w g o (upto d o.ns.length) (upto d o.ns.length)
section
variable {w w' : World} {X : Nat → Prop} {g og k m q r : Nat} {o : Od} {d : Bool}
theorem LtC.lt (h : LtC w X g og o k) : g < w.heap.size := World.block_lt_of_cell? _ _ h.c0
theorem LtT.keep (h : LtT w g o m q r) (hc : ∀ j, 6 ≤ j → j < 8198 → w'.cell? ⟨g, j, none⟩ = w.cell? ⟨g, j, none⟩) (hl : o.ns.length ≤ 64) : LtT w' g o m q r := by
  refine ⟨fun a b ha hb => ?_, fun a b ha hb => ?_, fun a b ha hb hm => ?_, fun a b ha hb hm => ?_⟩
  · have := tat_lt ha hb
    rw [hc _ (by omega) (by omega)]; exact h.jx a b ha hb
  · have := tat_lt ha hb
    rw [hc _ (by omega) (by omega)]; exact h.mx a b ha hb
  · have := @tat_lt a b (by omega) (by omega)
    rw [hc _ (by omega) (by omega)]; exact h.js a b ha hb hm
  · have := @tat_lt a b (by omega) (by omega)
    rw [hc _ (by omega) (by omega)]; exact h.ms a b ha hb hm
theorem LtB.keep (h : LtB w g o m r) (hb : w'.cell? ⟨g, 8198, none⟩ = w.cell? ⟨g, 8198, none⟩) (ht : w'.cell? ⟨g, 8199, none⟩ = w.cell? ⟨g, 8199, none⟩) : LtB w' g o m r :=
  ⟨by rw [hb]; exact h.bot, by rw [ht]; exact h.top⟩
theorem LtC.keep (h : LtC w X g og o k) (ho : OrdAt w' X og o) (hf : ∀ j, w'.frozen? ⟨g, j, none⟩ = w.frozen? ⟨g, j, none⟩) (h0 : w'.cell? ⟨g, 0, none⟩ = w.cell? ⟨g, 0, none⟩) (h1 : w'.cell? ⟨g, 1, none⟩ = w.cell? ⟨g, 1, none⟩) : LtC w' X g og o k :=
  ⟨h.gX, ho, h.osd, h.osa, fun j => (hf j).trans (h.nf j), h0.trans h.c0, h1.trans h.c1⟩
theorem LtAt.keep (h : LtAt w X g og o d k) (ho : OrdAt w' X og o) (hc : ∀ j, w'.cell? ⟨g, j, none⟩ = w.cell? ⟨g, j, none⟩) (hf : ∀ j, w'.frozen? ⟨g, j, none⟩ = w.frozen? ⟨g, j, none⟩) : LtAt w' X g og o d k :=
  ⟨h.c.keep ho hf (hc 0) (hc 1), (hc 2).trans h.c2, (hc 3).trans h.c3, by rw [hc]; exact h.c5, h.t.keep (fun j _ _ => hc j) h.c.osd.wf.len, h.b.keep (hc _) (hc _)⟩
theorem LtAt.stay (h : LtAt w X g og o d k) (hb : Below w.heap.size w w') : LtAt w' X g og o d k :=
  h.keep (h.c.ord.stay hb) (fun j => hb.cell (p := ⟨g, j, none⟩) h.c.lt) (fun j => hb.frozen (p := ⟨g, j, none⟩) h.c.lt)
theorem LtAt.only {f : Nat} (h : LtAt w X g og o d k) (ho : Only f w w') (hX : X f) (hne : g ≠ f) : LtAt w' X g og o d k :=
  h.keep (h.c.ord.only hX ho) (fun j => ho.cell hne) (fun j => ho.frozen _)
theorem LtAt.quiet (h : LtAt w X g og o d k) (hq : Quiet w w') : LtAt w' X g og o d k := h.stay (hq.below _)
/-- One more was asked. -/
theorem LtAt.count (h : LtAt w X g og o d k) : LtAt (w.setCell ⟨g, 1, none⟩ (.int .i64 ((k : Int) + 1))) X g og o d (k + 1) := by
  have ho := (Only.refl g w).setCell 1 (.int .i64 ((k : Int) + 1))
  have hc : ∀ j, j ≠ 1 → (w.setCell ⟨g, 1, none⟩ (.int .i64 ((k : Int) + 1))).cell? ⟨g, j, none⟩ = w.cell? ⟨g, j, none⟩ := fun j hj => World.cell?_setCell_other _ _ _ _ (off_ne hj.symm)
  exact ⟨⟨h.c.gX, h.c.ord.only h.c.gX ho, h.c.osd, h.c.osa, fun j => (ho.frozen _).trans (h.c.nf j), (hc 0 (by omega)).trans h.c.c0, World.cell?_setCell_same _ _ _ h.c.c1⟩, (hc 2 (by omega)).trans h.c2, (hc 3 (by omega)).trans h.c3, by rw [hc 5 (by omega)]; exact h.c5, h.t.keep (fun j h6 _ => hc j (by omega)) h.c.osd.wf.len, h.b.keep (hc _ (by omega)) (hc _ (by omega))⟩
end

/-- A lattice's zero. -/
def tabN : Nat := 8192
theorem tabN_eq : tabN = 8192 := rfl
def lzl : List Value := [.pointer none, .int .i64 0, .int .u32 0, .int .i32 0, .int .u32 0, .int .i64 0] ++ (List.replicate tabN (.int .i8 0) ++ [.int .i64 0, .int .i64 0])
theorem lzl_len : lzl.length = 8200 := by
  unfold lzl
  rw [List.length_append, List.length_append, List.length_replicate, tabN_eq]
  rfl
def zP (v : Value) : Bool := match v with | .pointer none => true | _ => false
def z64 (v : Value) : Bool := match v with | .int .i64 (.ofNat 0) => true | _ => false
def z32 (v : Value) : Bool := match v with | .int .u32 (.ofNat 0) => true | _ => false
def zi32 (v : Value) : Bool := match v with | .int .i32 (.ofNat 0) => true | _ => false
def z8 (v : Value) : Bool := match v with | .int .i8 (.ofNat 0) => true | _ => false
def zHd (t : Value → Bool) (l : List Value) : Option (List Value) := match l with | x :: xs => (match t x with | true => some xs | false => none) | [] => none
def zRun : Nat → List Value → Option (List Value)
  | 0, l => zHd z8 l
  | k + 1, l => match zRun k l with | some r => zRun k r | none => none
theorem zHd_eq {t : Value → Bool} {v : Value} (ht : ∀ x, t x = true → x = v) {l r : List Value} (h : zHd t l = some r) : l = v :: r := by
  unfold zHd at h
  cases l with
  | nil => cases h
  | cons x xs =>
    dsimp only at h
    cases e : t x with
    | false => rw [e] at h; cases h
    | true => rw [e] at h; cases h; rw [ht x e]
theorem zP_eq (x : Value) (h : zP x = true) : x = .pointer none := by unfold zP at h; split at h <;> first | rfl | cases h
theorem z64_eq (x : Value) (h : z64 x = true) : x = .int .i64 0 := by unfold z64 at h; split at h <;> first | rfl | cases h
theorem z32_eq (x : Value) (h : z32 x = true) : x = .int .u32 0 := by unfold z32 at h; split at h <;> first | rfl | cases h
theorem zi32_eq (x : Value) (h : zi32 x = true) : x = .int .i32 0 := by unfold zi32 at h; split at h <;> first | rfl | cases h
theorem z8_eq (x : Value) (h : z8 x = true) : x = .int .i8 0 := by unfold z8 at h; split at h <;> first | rfl | cases h
theorem zRun_eq : ∀ (k : Nat) {l r : List Value}, zRun k l = some r → l = List.replicate (2 ^ k) (.int .i8 0) ++ r
  | 0, l, r, h => zHd_eq z8_eq h
  | k + 1, l, r, h => by
    unfold zRun at h
    cases e : zRun k l with
    | none => rw [e] at h; cases h
    | some m =>
      rw [e] at h
      rw [zRun_eq k e, zRun_eq k h, Nat.pow_succ, Nat.mul_two, ← List.replicate_append_replicate, List.append_assoc]
def zAll (l : List Value) : Option (List Value) :=
  (zHd zP l).bind fun l => (zHd z64 l).bind fun l => (zHd z32 l).bind fun l => (zHd zi32 l).bind fun l => (zHd z32 l).bind fun l => (zHd z64 l).bind fun l => (zRun 13 l).bind fun l => (zHd z64 l).bind fun l => zHd z64 l
theorem zAll_eq {l : List Value} (h : zAll l = some []) : l = lzl := by
  unfold zAll at h
  simp only [Option.bind_eq_some_iff] at h
  obtain ⟨l1, h1, l2, h2, l3, h3, l4, h4, l5, h5, l6, h6, l7, h7, l8, h8, h9⟩ := h
  rw [zHd_eq zP_eq h1, zHd_eq z64_eq h2, zHd_eq z32_eq h3, zHd_eq zi32_eq h4, zHd_eq z32_eq h5, zHd_eq z64_eq h6, zRun_eq 13 h7, zHd_eq z64_eq h8, zHd_eq z64_eq h9]
  rfl
def zNil (l : Option (List Value)) : Bool := match l with | some [] => true | _ => false
theorem zero_info : ∃ a : Array Value, (Try.prog.info? 110).map (fun i => i.zero) = some (some (.agg a)) ∧ zNil (zAll a.toList) = true :=
  ⟨match Try.t110.zero with | some (.agg a) => a | _ => #[], by kernel_rfl, by decide +kernel⟩
theorem zero_lat (w : World) : (zeroValue 110).run Try.prog w = .ok (.agg lzl.toArray) w := by
  obtain ⟨a, h, h1⟩ := zero_info
  have h2 : zAll a.toList = some [] := by
    cases e : zAll a.toList with
    | none => rw [e] at h1; cases h1
    | some l =>
      cases l with
      | nil => rfl
      | cons x xs => rw [e] at h1; cases h1
  have h3 : a = lzl.toArray := Array.ext' (zAll_eq h2)
  obtain ⟨i, hi, hz⟩ := Option.map_eq_some_iff.1 h
  rw [h3] at hz
  simp [zeroValue, typeInfo, hi, hz]
theorem lzl_tab {i : Nat} (h6 : 6 ≤ i) (hi : i < 8198) (v : Value) : (lzl.set 0 v)[i]? = some (.int .i8 0) := by
  have hN := tabN_eq
  rw [List.getElem?_set_ne (by omega)]
  unfold lzl
  rw [List.getElem?_append_right (by simpa using h6), List.getElem?_append_left (by rw [List.length_replicate, hN]; simp; omega), List.getElem?_replicate, if_pos (by rw [hN]; simp; omega)]
theorem lzl_end (v : Value) : (lzl.set 0 v)[8198]? = some (.int .i64 0) ∧ (lzl.set 0 v)[8199]? = some (.int .i64 0) := by
  have hN := tabN_eq
  have key : ∀ j, (lzl.set 0 v)[8198 + j]? = [Value.int .i64 0, .int .i64 0][j]? := fun j => by
    rw [List.getElem?_set_ne (by omega)]
    unfold lzl
    rw [List.getElem?_append_right (by simp; omega), List.getElem?_append_right (by rw [List.length_replicate, hN]; simp; omega), List.length_replicate, hN]
    have e : 8198 + j - [Value.pointer none, .int .i64 0, .int .u32 0, .int .i32 0, .int .u32 0, .int .i64 0].length - 8192 = j := by
      rw [show [Value.pointer none, .int .i64 0, .int .u32 0, .int .i32 0, .int .u32 0, .int .i64 0].length = 6 from rfl]
      omega
    rw [e]
  exact ⟨key 0, key 1⟩
end Go.Proofs.Ytnhdpegjkkaabaa
namespace Go.Proofs.Ytnhdpegjkkaabaa
set_option linter.unusedVariables false
set_option linter.unusedSimpArgs false
open Go.RowKit Go.Maps

set_option maxRecDepth 10000 in
set_option maxHeartbeats 800000 in
theorem common_above (g og n : Nat) (S : Nat → Nat) (w : World) (c5 : w.cell? ⟨g, 5, none⟩ = some (.int .i64 (n : Int))) (hn : n ≤ 64) (hS : ∀ i, S i < 18446744073709551616)
    (hf : ∀ i : Nat, i < n → Calls Try.prog 83 #[.pointer (some ⟨og, 0, none⟩), .int .i64 (i : Int)] w fun e w' => e = .returned (.int .u64 (S i : Int)) ∧ w = w') (a b : Nat) (ha : a < n) (hb : b < n) :
    Calls Try.prog 82 #[.pointer (some ⟨g, 0, none⟩), .func (.func 83) #[.pointer (some ⟨og, 0, none⟩)] #[], .int .i64 (a : Int), .int .i64 (b : Int)] w fun e w' => e = .returned (.int .i64 (cmnI S n (S a &&& S b))) ∧ w = w' := by
  have HFA := Lib.hid (hf a ha)
  have HFB := Lib.hid (hf b hb)
  have HF := Lib.hid hf
  have hand := u64_and_nat (S a) (S b) (hS a) (hS b)
  obtain ⟨x, hx⟩ : ∃ x, S a &&& S b = x := ⟨_, rfl⟩
  rw [hx] at hand
  rw [hx]
  have HSS := Lib.hid hS
  clear hx hf hS ha hb
  go_enter Try.func82, Try.ntmps82
  go_wp2_with (first
    | (go_at_call 83; (with_reducible refine HFA.out.mono ?_); rintro e w1 ⟨rfl, rfl⟩)
    | (go_at_call 83; (with_reducible refine HFB.out.mono ?_); rintro e w1 ⟨rfl, rfl⟩)
    | go_in)
  go_loopw [22] (fun i wr => ∃ k : Nat, i = .int .i64 (k : Int) ∧ k ≤ n ∧ Hid (∀ j, j < k → ¬ S j = x) ∧ wr = w) (fun i _ => n - (intOf i).toNat)
  case atStart => exact ⟨0, rfl, Nat.zero_le _, Lib.hid (fun j hj => absurd hj (Nat.not_lt_zero _)), rfl⟩
  case round =>
    obtain ⟨k, rfl, hk, HNO, rfl⟩ := hrel
    obtain ⟨wz, hwz⟩ : ∃ wz, wz = wr := ⟨_, rfl⟩
    subst hwz
    by_cases hlt : k < n
    · have HFK := Lib.hid (HF.out k hlt)
      by_cases he : S k = x
      · have HR := Lib.hid (cmnI_yes hlt he HNO.out)
        rw [he] at HFK
        have d : ((x : Int) == (x : Int)) = true := by simp
        clear he
        go_wp2_with (first
          | (go_at_call 83; (with_reducible refine HFK.out.mono ?_); rintro e w1 ⟨rfl, rfl⟩)
          | go_in)
        go_ret
        exact ⟨ret_i64 HR.out.symm, rfl⟩
      · have d : ((S k : Int) == (x : Int)) = false := by simp; omega
        have HN2 := Lib.hid (show ∀ j, j < k + 1 → ¬ S j = x from fun j hj => by
          rcases Nat.lt_or_ge j k with e | e
          · exact HNO.out j e
          · obtain rfl : j = k := by omega
            exact he)
        obtain ⟨y, hy⟩ : ∃ y, S k = y := ⟨_, rfl⟩
        rw [hy] at HFK d
        clear he hy
        go_wp2_with (first
          | (go_at_call 83; (with_reducible refine HFK.out.mono ?_); rintro e w1 ⟨rfl, rfl⟩)
          | go_in)
        go_roundw
        case rel => exact ⟨k + 1, by go_num, hlt, HN2, (by trivial)⟩
        case measure => simp [intOf]; omega
    · obtain rfl : k = n := by omega
      have HR := Lib.hid (cmnI_no HNO.out)
      go_wp2
      go_ret
      exact ⟨ret_i64 HR.out.symm, rfl⟩

set_option maxRecDepth 10000 in
set_option maxHeartbeats 800000 in
theorem common_below (g og n : Nat) (S : Nat → Nat) (w : World) (c5 : w.cell? ⟨g, 5, none⟩ = some (.int .i64 (n : Int))) (hn : n ≤ 64) (hS : ∀ i, S i < 18446744073709551616)
    (hf : ∀ i : Nat, i < n → Calls Try.prog 63 #[.pointer (some ⟨og, 0, none⟩), .int .i64 (i : Int)] w fun e w' => e = .returned (.int .u64 (S i : Int)) ∧ w = w') (a b : Nat) (ha : a < n) (hb : b < n) :
    Calls Try.prog 82 #[.pointer (some ⟨g, 0, none⟩), .func (.func 63) #[.pointer (some ⟨og, 0, none⟩)] #[], .int .i64 (a : Int), .int .i64 (b : Int)] w fun e w' => e = .returned (.int .i64 (cmnI S n (S a &&& S b))) ∧ w = w' := by
  have HFA := Lib.hid (hf a ha)
  have HFB := Lib.hid (hf b hb)
  have HF := Lib.hid hf
  have hand := u64_and_nat (S a) (S b) (hS a) (hS b)
  obtain ⟨x, hx⟩ : ∃ x, S a &&& S b = x := ⟨_, rfl⟩
  rw [hx] at hand
  rw [hx]
  have HSS := Lib.hid hS
  clear hx hf hS ha hb
  go_enter Try.func82, Try.ntmps82
  go_wp2_with (first
    | (go_at_call 63; (with_reducible refine HFA.out.mono ?_); rintro e w1 ⟨rfl, rfl⟩)
    | (go_at_call 63; (with_reducible refine HFB.out.mono ?_); rintro e w1 ⟨rfl, rfl⟩)
    | go_in)
  go_loopw [22] (fun i wr => ∃ k : Nat, i = .int .i64 (k : Int) ∧ k ≤ n ∧ Hid (∀ j, j < k → ¬ S j = x) ∧ wr = w) (fun i _ => n - (intOf i).toNat)
  case atStart => exact ⟨0, rfl, Nat.zero_le _, Lib.hid (fun j hj => absurd hj (Nat.not_lt_zero _)), rfl⟩
  case round =>
    obtain ⟨k, rfl, hk, HNO, rfl⟩ := hrel
    obtain ⟨wz, hwz⟩ : ∃ wz, wz = wr := ⟨_, rfl⟩
    subst hwz
    by_cases hlt : k < n
    · have HFK := Lib.hid (HF.out k hlt)
      by_cases he : S k = x
      · have HR := Lib.hid (cmnI_yes hlt he HNO.out)
        rw [he] at HFK
        have d : ((x : Int) == (x : Int)) = true := by simp
        clear he
        go_wp2_with (first
          | (go_at_call 63; (with_reducible refine HFK.out.mono ?_); rintro e w1 ⟨rfl, rfl⟩)
          | go_in)
        go_ret
        exact ⟨ret_i64 HR.out.symm, rfl⟩
      · have d : ((S k : Int) == (x : Int)) = false := by simp; omega
        have HN2 := Lib.hid (show ∀ j, j < k + 1 → ¬ S j = x from fun j hj => by
          rcases Nat.lt_or_ge j k with e | e
          · exact HNO.out j e
          · obtain rfl : j = k := by omega
            exact he)
        obtain ⟨y, hy⟩ : ∃ y, S k = y := ⟨_, rfl⟩
        rw [hy] at HFK d
        clear he hy
        go_wp2_with (first
          | (go_at_call 63; (with_reducible refine HFK.out.mono ?_); rintro e w1 ⟨rfl, rfl⟩)
          | go_in)
        go_roundw
        case rel => exact ⟨k + 1, by go_num, hlt, HN2, (by trivial)⟩
        case measure => simp [intOf]; omega
    · obtain rfl : k = n := by omega
      have HR := Lib.hid (cmnI_no HNO.out)
      go_wp2
      go_ret
      exact ⟨ret_i64 HR.out.symm, rfl⟩
end Go.Proofs.Ytnhdpegjkkaabaa
namespace Go.Proofs.Ytnhdpegjkkaabaa
set_option linter.unusedVariables false
set_option linter.unusedSimpArgs false
open Go.RowKit Go.Maps

structure LtK (w wr : World) (X : Nat → Prop) (g og : Nat) (o : Od) (k m q r mb mt : Nat) : Prop where
  only : Only g w wr
  c : LtC wr X g og o k
  c2 : wr.cell? ⟨g, 2, none⟩ = w.cell? ⟨g, 2, none⟩
  c3 : wr.cell? ⟨g, 3, none⟩ = w.cell? ⟨g, 3, none⟩
  c5 : wr.cell? ⟨g, 5, none⟩ = some (.int .i64 (o.ns.length : Int))
  t : LtT wr g o m q r
  b : LtB wr g o mb mt
section
variable {w wr : World} {X : Nat → Prop} {g og k m q r mb mt : Nat} {o : Od}
theorem LtC.set (h : LtC w X g og o k) (j : Nat) (hj : 2 ≤ j) (v : Value) : LtC (w.setCell ⟨g, j, none⟩ v) X g og o k :=
  h.keep (h.ord.only h.gX ((Only.refl g w).setCell j v)) (fun i => World.frozen?_setCell _ _ _ _) (World.cell?_setCell_other _ _ _ _ (off_ne (by omega))) (World.cell?_setCell_other _ _ _ _ (off_ne (by omega)))
theorem LtK.start (h : LtC w X g og o k) (h5 : ∃ v, w.cell? ⟨g, 5, none⟩ = some v) (ht : LtT w g o 0 0 0) (hb : LtB w g o 0 0) : LtK w (w.setCell ⟨g, 5, none⟩ (.int .i64 (o.ns.length : Int))) X g og o k 0 0 0 0 0 := by
  obtain ⟨v, h5⟩ := h5
  have hc : ∀ j, j ≠ 5 → (w.setCell ⟨g, 5, none⟩ (.int .i64 (o.ns.length : Int))).cell? ⟨g, j, none⟩ = w.cell? ⟨g, j, none⟩ := fun j hj => World.cell?_setCell_other _ _ _ _ (off_ne hj.symm)
  exact ⟨(Only.refl g w).setCell _ _, h.set 5 (by omega) _, hc _ (by omega), hc _ (by omega), World.cell?_setCell_same _ _ _ h5, ht.keep (fun j h6 _ => hc j (by omega)) h.osd.wf.len, hb.keep (hc _ (by omega)) (hc _ (by omega))⟩
theorem LtK.quiet {wq : World} (h : LtK w wr X g og o k m q r mb mt) (hq : Quiet wr wq) : LtK w wq X g og o k m q r mb mt := by
  obtain ⟨n, rfl⟩ := hq
  exact ⟨h.only.quiet (Quiet.one _ n), ⟨h.c.gX, h.c.ord.drewN n, h.c.osd, h.c.osa, h.c.nf, h.c.c0, h.c.c1⟩, h.c2, h.c3, h.c5, ⟨h.t.jx, h.t.mx, h.t.js, h.t.ms⟩, ⟨h.b.bot, h.b.top⟩⟩
theorem LtK.drew (h : LtK w wr X g og o k m q r mb mt) : LtK w wr.drew X g og o k m q r mb mt := h.quiet (Quiet.one _ 1)
theorem LtK.setJ (h : LtK w wr X g og o k m q r mb mt) (hm : m < o.ns.length) (hq : q < o.ns.length) : LtK w (wr.setCell ⟨g, tat 6 m q, none⟩ (.int .i8 (rjoinI (rmost o) o.ns.length m q))) X g og o k m (q + 1) r mb mt := by
  have hl := h.c.osd.wf.len
  have hT := @tat_lt m q (by omega) (by omega)
  have hc : ∀ j, j ≠ tat 6 m q → (wr.setCell ⟨g, tat 6 m q, none⟩ (.int .i8 (rjoinI (rmost o) o.ns.length m q))).cell? ⟨g, j, none⟩ = wr.cell? ⟨g, j, none⟩ := fun j hj => World.cell?_setCell_other _ _ _ _ (off_ne hj.symm)
  obtain ⟨v, hv⟩ := h.t.jx m q (by omega) (by omega)
  have hs : (wr.setCell ⟨g, tat 6 m q, none⟩ (.int .i8 (rjoinI (rmost o) o.ns.length m q))).cell? ⟨g, tat 6 m q, none⟩ = some (.int .i8 (rjoinI (rmost o) o.ns.length m q)) := World.cell?_setCell_same _ _ _ hv
  refine ⟨h.only.setCell _ _, h.c.set _ (by omega) _, (hc _ (by omega)).trans h.c2, (hc _ (by omega)).trans h.c3, (hc _ (by omega)).trans h.c5, ⟨fun a b ha hb => ?_, fun a b ha hb => ?_, fun a b ha hb hm2 => ?_, fun a b ha hb hm2 => ?_⟩, h.b.keep (hc _ (by omega)) (hc _ (by omega))⟩
  · by_cases e : tat 6 a b = tat 6 m q
    · rw [e]; exact ⟨_, hs⟩
    · rw [hc _ e]; exact h.t.jx a b ha hb
  · have := tat_lt ha hb
    rw [hc _ (by omega)]; exact h.t.mx a b ha hb
  · by_cases e : tat 6 a b = tat 6 m q
    · obtain ⟨rfl, rfl⟩ := tat_inj (by omega) (by omega) e
      exact hs
    · rw [hc _ e]
      refine h.t.js a b ha hb ?_
      rcases hm2 with e2 | ⟨rfl, e2⟩
      · exact .inl e2
      · refine .inr ⟨rfl, ?_⟩
        rcases Nat.lt_or_ge b q with e3 | e3
        · exact e3
        · obtain rfl : b = q := by omega
          exact absurd rfl e
  · have := @tat_lt a b (by omega) (by omega)
    rw [hc _ (by omega)]; exact h.t.ms a b ha hb hm2
theorem LtK.setM (h : LtK w wr X g og o k m q r mb mt) (hm : m < o.ns.length) (hq : r < o.ns.length) : LtK w (wr.setCell ⟨g, tat 4102 m r, none⟩ (.int .i8 (rjoinI (oflip (rmost o)) o.ns.length m r))) X g og o k m q (r + 1) mb mt := by
  have hl := h.c.osd.wf.len
  have hT := @tat_lt m r (by omega) (by omega)
  have hc : ∀ j, j ≠ tat 4102 m r → (wr.setCell ⟨g, tat 4102 m r, none⟩ (.int .i8 (rjoinI (oflip (rmost o)) o.ns.length m r))).cell? ⟨g, j, none⟩ = wr.cell? ⟨g, j, none⟩ := fun j hj => World.cell?_setCell_other _ _ _ _ (off_ne hj.symm)
  obtain ⟨v, hv⟩ := h.t.mx m r (by omega) (by omega)
  have hs : (wr.setCell ⟨g, tat 4102 m r, none⟩ (.int .i8 (rjoinI (oflip (rmost o)) o.ns.length m r))).cell? ⟨g, tat 4102 m r, none⟩ = some (.int .i8 (rjoinI (oflip (rmost o)) o.ns.length m r)) := World.cell?_setCell_same _ _ _ hv
  refine ⟨h.only.setCell _ _, h.c.set _ (by omega) _, (hc _ (by omega)).trans h.c2, (hc _ (by omega)).trans h.c3, (hc _ (by omega)).trans h.c5, ⟨fun a b ha hb => ?_, fun a b ha hb => ?_, fun a b ha hb hm2 => ?_, fun a b ha hb hm2 => ?_⟩, h.b.keep (hc _ (by omega)) (hc _ (by omega))⟩
  · have := tat_lt ha hb
    rw [hc _ (by omega)]; exact h.t.jx a b ha hb
  · by_cases e : tat 4102 a b = tat 4102 m r
    · rw [e]; exact ⟨_, hs⟩
    · rw [hc _ e]; exact h.t.mx a b ha hb
  · have := @tat_lt a b (by omega) (by omega)
    rw [hc _ (by omega)]; exact h.t.js a b ha hb hm2
  · by_cases e : tat 4102 a b = tat 4102 m r
    · obtain ⟨rfl, rfl⟩ := tat_inj (by omega) (by omega) e
      exact hs
    · rw [hc _ e]
      refine h.t.ms a b ha hb ?_
      rcases hm2 with e2 | ⟨rfl, e2⟩
      · exact .inl e2
      · refine .inr ⟨rfl, ?_⟩
        rcases Nat.lt_or_ge b r with e3 | e3
        · exact e3
        · obtain rfl : b = r := by omega
          exact absurd rfl e
theorem LtK.row (h : LtK w wr X g og o k m o.ns.length o.ns.length mb mt) : LtK w wr X g og o k (m + 1) 0 0 mb mt :=
  ⟨h.only, h.c, h.c2, h.c3, h.c5, ⟨h.t.jx, h.t.mx, fun a b ha hb hm => h.t.js a b ha hb (by omega), fun a b ha hb hm => h.t.ms a b ha hb (by omega)⟩, h.b⟩
theorem LtK.zero (h : LtK w wr X g og o k m 0 0 mb mt) : LtK w wr X g og o k m 0 0 mb mt := h
theorem LtK.botY (h : LtK w wr X g og o k m q r mb mt) (hm : mb < o.ns.length) (hy : ∀ c, c < o.ns.length → rmost o mb c = true) : LtK w (wr.setCell ⟨g, 8198, none⟩ (.int .i64 (mb : Int))) X g og o k m q r (mb + 1) mt := by
  have hc : ∀ j, j ≠ 8198 → (wr.setCell ⟨g, 8198, none⟩ (.int .i64 (mb : Int))).cell? ⟨g, j, none⟩ = wr.cell? ⟨g, j, none⟩ := fun j hj => World.cell?_setCell_other _ _ _ _ (off_ne hj.symm)
  obtain ⟨b, hb, _⟩ := h.b.bot
  obtain ⟨b2, hb2, hu⟩ := h.b.top
  refine ⟨h.only.setCell _ _, h.c.set _ (by omega) _, (hc _ (by omega)).trans h.c2, (hc _ (by omega)).trans h.c3, (hc _ (by omega)).trans h.c5, h.t.keep (fun j _ h8 => hc j (by omega)) h.c.osd.wf.len, ⟨⟨mb, World.cell?_setCell_same _ _ _ hb, fun i hi hk => ?_⟩, ⟨b2, (hc _ (by omega)).trans hb2, hu⟩⟩⟩
  exact h.c.osd.pord.anti hm (by omega) (hy i (by omega)) (hk mb hm)
theorem LtK.botN (h : LtK w wr X g og o k m q r mb mt) (hn : ¬ ∀ c, c < o.ns.length → rmost o mb c = true) : LtK w wr X g og o k m q r (mb + 1) mt := by
  obtain ⟨b, hb, hu⟩ := h.b.bot
  refine ⟨h.only, h.c, h.c2, h.c3, h.c5, h.t, ⟨⟨b, hb, fun i hi hk => ?_⟩, h.b.top⟩⟩
  rcases Nat.lt_or_ge i mb with e | e
  · exact hu i e hk
  · obtain rfl : i = mb := by omega
    exact absurd hk hn
theorem LtK.topY (h : LtK w wr X g og o k m q r mb mt) (hm : mt < o.ns.length) (hy : ∀ c, c < o.ns.length → rmost o c mt = true) : LtK w (wr.setCell ⟨g, 8199, none⟩ (.int .i64 (mt : Int))) X g og o k m q r mb (mt + 1) := by
  have hc : ∀ j, j ≠ 8199 → (wr.setCell ⟨g, 8199, none⟩ (.int .i64 (mt : Int))).cell? ⟨g, j, none⟩ = wr.cell? ⟨g, j, none⟩ := fun j hj => World.cell?_setCell_other _ _ _ _ (off_ne hj.symm)
  obtain ⟨b, hb, hu⟩ := h.b.bot
  obtain ⟨b2, hb2, _⟩ := h.b.top
  refine ⟨h.only.setCell _ _, h.c.set _ (by omega) _, (hc _ (by omega)).trans h.c2, (hc _ (by omega)).trans h.c3, (hc _ (by omega)).trans h.c5, h.t.keep (fun j _ h8 => hc j (by omega)) h.c.osd.wf.len, ⟨⟨b, (hc _ (by omega)).trans hb, hu⟩, ⟨mt, World.cell?_setCell_same _ _ _ hb2, fun i hi hk => ?_⟩⟩⟩
  exact h.c.osd.pord.anti hm (by omega) (hk mt hm) (hy i (by omega))
theorem LtK.topN (h : LtK w wr X g og o k m q r mb mt) (hn : ¬ ∀ c, c < o.ns.length → rmost o c mt = true) : LtK w wr X g og o k m q r mb (mt + 1) := by
  obtain ⟨b, hb, hu⟩ := h.b.top
  refine ⟨h.only, h.c, h.c2, h.c3, h.c5, h.t, ⟨h.b.bot, ⟨b, hb, fun i hi hk => ?_⟩⟩⟩
  rcases Nat.lt_or_ge i mt with e | e
  · exact hu i e hk
  · obtain rfl : i = mt := by omega
    exact absurd hk hn
end
/-- What two elements have in common, asked of an order. -/
theorem oabove_nat {w : World} {X : Nat → Prop} {g : Nat} {o : Od} (h : OrdAt w X g o) {i : Nat} (hi : i < o.ns.length) : Calls Try.prog 83 #[.pointer (some ⟨g, 0, none⟩), .int .i64 (i : Int)] w fun e w' => e = .returned (.int .u64 (o.ab i : Int)) ∧ w = w' := by
  have := oabove_any h (i : Int)
  rwa [show o.high (i : Int) = o.ab i by unfold Od.high; rw [if_pos (by omega)]; rfl] at this
theorem obelow_nat {w : World} {X : Nat → Prop} {g : Nat} {o : Od} (h : OrdAt w X g o) {i : Nat} (hi : i < o.ns.length) : Calls Try.prog 63 #[.pointer (some ⟨g, 0, none⟩), .int .i64 (i : Int)] w fun e w' => e = .returned (.int .u64 (o.be i : Int)) ∧ w = w' := by
  have := obelow_any h (i : Int)
  rwa [show o.low (i : Int) = o.be i by unfold Od.low; rw [if_pos (by omega)]; rfl] at this
section
variable {w wr : World} {X : Nat → Prop} {g og k m q r mb mt : Nat} {o : Od}
theorem LtK.cmnJ (h : LtK w wr X g og o k m q r mb mt) {a b : Nat} (ha : a < o.ns.length) (hb : b < o.ns.length) : Calls Try.prog 82 #[.pointer (some ⟨g, 0, none⟩), .func (.func 83) #[.pointer (some ⟨og, 0, none⟩)] #[], .int .i64 (a : Int), .int .i64 (b : Int)] wr fun e w' => e = .returned (.int .i64 (rjoinI (rmost o) o.ns.length a b)) ∧ wr = w' := by
  have := common_above g og o.ns.length o.ab wr h.c5 h.c.osd.wf.len h.c.osd.wf.ab (fun i hi => oabove_nat h.c.ord hi) a b ha hb
  rwa [(sets_above h.c.osd h.c.osa).cmn ha hb] at this
theorem LtK.cmnM (h : LtK w wr X g og o k m q r mb mt) {a b : Nat} (ha : a < o.ns.length) (hb : b < o.ns.length) : Calls Try.prog 82 #[.pointer (some ⟨g, 0, none⟩), .func (.func 63) #[.pointer (some ⟨og, 0, none⟩)] #[], .int .i64 (a : Int), .int .i64 (b : Int)] wr fun e w' => e = .returned (.int .i64 (rjoinI (oflip (rmost o)) o.ns.length a b)) ∧ wr = w' := by
  have := common_below g og o.ns.length o.be wr h.c5 h.c.osd.wf.len h.c.osd.wf.be (fun i hi => obelow_nat h.c.ord hi) a b ha hb
  rwa [(sets_below h.c.osd).cmn ha hb] at this
end
theorem rjoin_lt {F : Nat → Nat → Bool} {n a b : Nat} (hn : n ≤ 64) : -1 ≤ rjoinI F n a b ∧ rjoinI F n a b ≤ 63 := by
  rcases rjoin_cases F n a b with ⟨i, e, hi⟩ | ⟨e, _⟩
  · rw [e]; have := hi.lt; omega
  · rw [e]; omega
end Go.Proofs.Ytnhdpegjkkaabaa
