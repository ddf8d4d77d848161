/-
  CREATE OF THE DOCUMENT'S DISK, NEW.
-/
import Derived.Test.YtfhbolhmfhgeaaaDZero
import Derived.BigRegion
import Derived.Deep.RegionHeld3
import Derived.Deep.RegionWith
import Derived.Deep.RegionLaw
namespace Go.Proofs.Ytfhbolhmfhgeaaa
set_option linter.unusedVariables false
set_option linter.unusedSimpArgs false
open Go.RowKit Go.Maps

theorem grown_drew1 {a b : World} {row : Option Nat} (h : a.grownBy b row) : a.grownBy b.drew row := grown_trans h (Quiet.grown ⟨1, rfl⟩ row)
theorem rowEn : RowT Try.prog 49 87 2 24 := RowT.mk (z := .agg #[.string ⟨#[]⟩, .int .i64 0]) Try.underlying49 (by kernel_rfl) rfl (by omega)
theorem rowFi : RowT Try.prog 48 84 2 32 := RowT.mk (z := .agg #[.slice none 0 0, .int .i64 0]) Try.underlying48 (by kernel_rfl) rfl (by omega)
theorem rowTu : RowT Try.prog 50 111 3 40 := RowT.mk (z := .agg #[.string ⟨#[]⟩, .string ⟨#[]⟩, .int .i64 0]) Try.underlying50 (by kernel_rfl) rfl (by omega)

set_option maxRecDepth 10000 in
set_option maxHeartbeats 800000 in
theorem put_nil (s : ByteArray) (f : Int) (w : World) : Calls Try.prog 39 #[.slice none 0 0, .agg #[.string s, .int .i64 f]] w fun e w' => (∃ A n c, e = .returned (.slice A n c)) ∧ w.grownBy w' none := by
  go_enter Try.func39, Try.ntmps39
  go_wp2
  go_loopw [7, 6, 5] (fun i d o wr => i = .int .i64 0 ∧ d = .bool false ∧ o = .slice none 0 0 ∧ wr = w.alloc (.cells #[.string s, .int .i64 f] 87)) (fun i _ _ _ => 0)
  case atStart => exact ⟨rfl, rfl, rfl, rfl⟩
  case round =>
    obtain ⟨rfl, rfl, rfl, rfl⟩ := hrel
    go_wp2_with (fail)
    go_ret
    refine ⟨⟨_, _, _, rfl⟩, ?_⟩
    (repeat (first | exact grown_refl _ _ | assumption | apply grown_set' | apply grown_alloc' | apply grown_drew1 | apply grown_drew'))

set_option maxRecDepth 10000 in
set_option maxHeartbeats 800000 in
theorem do_nil (s : ByteArray) (f : Nat) (w : World) (hf : f ≤ 1000000) : Calls Try.prog 70 #[.slice none 0 0, .agg #[.string ⟨#[]⟩, .string s, .int .i64 (f : Int)]] w fun e w' => (∃ A n c, e = .returned (.slice A n c)) ∧ w.grownBy w' none := by
  go_enter Try.func70, Try.ntmps70
  go_wp2_with (first
    | (go_at_call 39; refine (put_nil _ _ _).mono ?_; rintro e w2 ⟨⟨A, n, c, rfl⟩, hg⟩)
    | fail)
  all_goals
    go_ret
    refine ⟨⟨_, _, _, rfl⟩, ?_⟩
    first | exact grown_trans (World.grownBy_alloc _ _ _) (by assumption) | (repeat (first | exact grown_refl _ _ | assumption | apply grown_set' | apply grown_alloc' | apply grown_drew1 | apply grown_drew'))

/-- An empty row of the call's own at q, and one element at p, made since w3. -/
structure Lit (w3 w : World) (q p : Nat) (e : TypeId) (size : Nat) (us : List Value) : Prop where
  below : Below w3.heap.size w3 w
  hq : w3.heap.size ≤ q
  own : w.ownsRow 0 e size (.slice (some ⟨q, 0, none⟩) 0 0) 0 []
  cells : ∀ k u, us[k]? = some u → w.cell? ⟨p, k, none⟩ = some u
theorem Lit.a (w3 : World) (e e' : TypeId) (size : Nat) (us : List Value) : Lit w3 ((w3.alloc (.cells us.toArray e')).alloc (.cells #[] e)).drew (w3.heap.size + 1) w3.heap.size e size us := by
  have hs : (w3.alloc (.cells us.toArray e')).heap.size = w3.heap.size + 1 := by simp
  refine ⟨(((Below.refl _ _).alloc (Nat.le_refl _) _).alloc (by simp) _).drew, Nat.le_succ _, ?_, fun k u hu => ?_⟩
  · have := (Own.empty (w3.alloc (.cells us.toArray e')) 0 e size (Nat.zero_le _)).1
    rw [hs] at this
    exact this
  · show ((w3.alloc (.cells us.toArray e')).alloc (.cells #[] e)).cell? ⟨w3.heap.size, k, none⟩ = some u
    rw [World.cell?_alloc_past _ _ _ (by simp), World.cell?_alloc_at _ _ _ _ rfl]
    simpa using hu
theorem Lit.b (w3 : World) (e e' : TypeId) (size : Nat) (us : List Value) : Lit w3 ((w3.alloc (.cells #[] e)).alloc (.cells us.toArray e')).drew w3.heap.size (w3.heap.size + 1) e size us := by
  have hs : (w3.alloc (.cells #[] e)).heap.size = w3.heap.size + 1 := by simp
  refine ⟨(((Below.refl _ _).alloc (Nat.le_refl _) _).alloc (by simp) _).drew, Nat.le_refl _, ?_, fun k u hu => ?_⟩
  · exact ((Own.empty w3 0 e size (Nat.zero_le _)).alloc (.cells us.toArray e')).1
  · show ((w3.alloc (.cells #[] e)).alloc (.cells us.toArray e')).cell? ⟨w3.heap.size + 1, k, none⟩ = some u
    rw [World.cell?_alloc_at _ _ _ _ hs.symm]
    simpa using hu
theorem Lit.c (w3 : World) (e e' : TypeId) (size : Nat) (us : List Value) : Lit w3 ((w3.alloc (.cells #[] e)).alloc (.cells us.toArray e')) w3.heap.size (w3.heap.size + 1) e size us := by
  have h := Lit.b w3 e e' size us
  have hs : (w3.alloc (.cells #[] e)).heap.size = w3.heap.size + 1 := by simp
  exact ⟨((Below.refl _ _).alloc (Nat.le_refl _) _).alloc (by simp) _, h.hq, h.own, h.cells⟩
section
variable {P : Program} {ops : Array Oper} {rest : List Oper} {o : Oper} {a : Act} {Q : Exit → Act → World → Prop}
theorem wp_lit {K : Act → World → Prop} (s x : Operand) (t : TypeId) (ho : o.op = .call { callee := .builtin .append, args := #[s, x], argTypes := #[t, t] })
    {e : TypeId} {size bytes : Nat} (hT : RowT P t e size bytes) (w0 w3 w : World) (r j : Nat) (v0 : Value) (q p : Nat) (us : List Value) (hs : a.eval s = .slice (some ⟨q, 0, none⟩) 0 0)
    (hx : a.eval x = .slice (some ⟨p, 0, none⟩) 1 1) (hl : us.length = size) (h1 : ∀ u ∈ us, u.oneCell' = true) (hL : Lit w3 w q p e size us) (hby : bytes ≤ 64)
    (hc : w3.cell? ⟨r, j, none⟩ = some v0) (hz : w3.frozen? ⟨r, j, none⟩ = false) (hg : w0.grownBy w3 (some r))
    (h : ∀ A n c w', w'.cell? ⟨r, j, none⟩ = some v0 → w'.frozen? ⟨r, j, none⟩ = false → w0.grownBy w' (some r) → K (a.put o.dst (.slice A n c)) w') : o.wp P a w K Q := by
  obtain ⟨ht, i, z, hi, hz', hsize, hbytes, hzs, hpos⟩ := hT
  have hbb : (0 + 1) * bytes ≤ 140737488355328 := Nat.le_trans (Nat.mul_le_mul (Nat.le_refl _) hby) (by decide)
  refine wp_append_own _ s x t ho 0 e i z size bytes ht hi hz' hsize hbytes hzs hpos _ 0 [] hs hL.own ⟨p, 0, none⟩ 1 1 us hx (by simpa using hl) ?_ h1
    (by unfold maxLen; omega) hbb (Nat.zero_le _) ?_
  · intro k u hu
    rw [Addr.add_lit, Nat.zero_add]
    exact hL.cells k u hu
  · intro v' w' ho' hg' _
    have hr : r < w3.heap.size := World.block_lt_of_cell? _ _ hc
    have hr' : r < w.heap.size := Nat.lt_of_lt_of_le hr hL.below.size
    have hq := hL.hq
    have hne : some r ≠ Value.ownBlock (.slice (some ⟨q, 0, none⟩) 0 0) := fun e => by
      have : r = q := by simpa [Value.ownBlock] using e
      omega
    have hvf : ∃ A n c, v' = .slice A n c := by
      rcases ho'.2 with ⟨rfl, _⟩ | ⟨g, cap, cur, rfl, _⟩
      · exact ⟨_, _, _, rfl⟩
      · exact ⟨_, _, _, rfl⟩
    obtain ⟨A, n, c, rfl⟩ := hvf
    refine h A n c w' ?_ ?_ ?_
    · exact (World.cell?_of_block (a := ⟨r, j, none⟩) (hg'.block r hr' hne)).trans ((hL.below.cell (p := ⟨r, j, none⟩) hr).trans hc)
    · exact (World.frozen?_of_block (a := ⟨r, j, none⟩) (hg'.block r hr' hne)).trans ((hL.below.frozen (p := ⟨r, j, none⟩) hr).trans hz)
    · have g1 : w0.grownBy w (some r) := grown_trans hg (grown_of_below hL.below _)
      refine g1.andThen hg' (fun k hk => .inl ?_)
      have : q = k := by simpa [Value.ownBlock] using hk
      have := hg.size
      omega
theorem step_lit {K : Act → World → Prop} {E : Prop} (hgd : Region.wanted o (yielded ops a.tmps) = true) (s x : Operand) (t : TypeId) (ho : o.op = .call { callee := .builtin .append, args := #[s, x], argTypes := #[t, t] })
    {e : TypeId} {size bytes : Nat} (hT : RowT P t e size bytes) (w0 w3 w : World) (r j : Nat) (v0 : Value) (q p : Nat) (us : List Value) (hs : a.eval s = .slice (some ⟨q, 0, none⟩) 0 0)
    (hx : a.eval x = .slice (some ⟨p, 0, none⟩) 1 1) (hl : us.length = size) (h1 : ∀ u ∈ us, u.oneCell' = true) (hL : Lit w3 w q p e size us) (hby : bytes ≤ 64)
    (hc : w3.cell? ⟨r, j, none⟩ = some v0) (hz : w3.frozen? ⟨r, j, none⟩ = false) (hg : w0.grownBy w3 (some r))
    (h : ∀ A n c w', w'.cell? ⟨r, j, none⟩ = some v0 → w'.frozen? ⟨r, j, none⟩ = false → w0.grownBy w' (some r) → K (a.put o.dst (.slice A n c)) w') :
    if Region.wanted o (yielded ops a.tmps) = true then Oper.wp P o a w K Q else E := by
  rw [if_pos hgd]
  exact wp_lit s x t ho hT w0 w3 w r j v0 q p us hs hx hl h1 hL hby hc hz hg h
theorem wpList_lit (hgd : Region.wanted o (yielded ops a.tmps) = true) (s x : Operand) (t : TypeId) (ho : o.op = .call { callee := .builtin .append, args := #[s, x], argTypes := #[t, t] })
    {e : TypeId} {size bytes : Nat} (hT : RowT P t e size bytes) (w0 w3 w : World) (r j : Nat) (v0 : Value) (q p : Nat) (us : List Value) (hs : a.eval s = .slice (some ⟨q, 0, none⟩) 0 0)
    (hx : a.eval x = .slice (some ⟨p, 0, none⟩) 1 1) (hl : us.length = size) (h1 : ∀ u ∈ us, u.oneCell' = true) (hL : Lit w3 w q p e size us) (hby : bytes ≤ 64)
    (hc : w3.cell? ⟨r, j, none⟩ = some v0) (hz : w3.frozen? ⟨r, j, none⟩ = false) (hg : w0.grownBy w3 (some r))
    (h : ∀ A n c w', w'.cell? ⟨r, j, none⟩ = some v0 → w'.frozen? ⟨r, j, none⟩ = false → w0.grownBy w' (some r) → wpList P ops Q rest (a.put o.dst (.slice A n c)) w') : wpList P ops Q (o :: rest) a w :=
  wpList_wanted hgd fun _ hK => wp_lit s x t ho hT w0 w3 w r j v0 q p us hs hx hl h1 hL hby hc hz hg fun A n c w' h1 h2 h3 => hK _ _ (h A n c w' h1 h2 h3)
end

structure TZ (w : World) (r : Nat) (w' : World) : Prop where
  c3 : w'.cell? ⟨r, 3, none⟩ = some (.slice none 0 0)
  f1 : w'.frozen? ⟨r, 1, none⟩ = false
  f3 : w'.frozen? ⟨r, 3, none⟩ = false
  g : w.grownBy w' (some r)
  lt : r < w'.heap.size
theorem TZ.drew {w : World} {r : Nat} {w' : World} (h : TZ w r w') : TZ w r w'.drew := ⟨h.c3, h.f1, h.f3, grown_drew1 h.g, h.lt⟩
set_option maxRecDepth 10000 in
set_option maxHeartbeats 1600000 in
theorem turn_nil (s : ByteArray) (f : Nat) (w : World) (r : Nat) (hf : f ≤ 1000000) (h1 : w.cell? ⟨r, 1, none⟩ = some (.slice none 0 0)) (h3 : w.cell? ⟨r, 3, none⟩ = some (.slice none 0 0)) (f1 : w.frozen? ⟨r, 1, none⟩ = false) (f3 : w.frozen? ⟨r, 3, none⟩ = false) (hr : r < w.heap.size) :
    Calls Try.prog 68 #[.pointer (some ⟨r, 0, none⟩), .agg #[.string ⟨#[]⟩, .string s, .int .i64 (f : Int)]] w fun e w' => e = .returned (.tuple #[]) ∧ w.grownBy w' (some r) := by
  obtain ⟨w1, hw1⟩ : ∃ w1, w1 = w.alloc (.cells #[.string ⟨#[]⟩, .string s, .int .i64 (f : Int)] 111) := ⟨_, rfl⟩
  obtain ⟨b, hb⟩ : ∃ b, b = w.heap.size := ⟨_, rfl⟩
  have hg1 : w.grownBy w1 (some r) := by rw [hw1]; exact World.grownBy_alloc _ _ _
  have hB : Below w.heap.size w w1 := by rw [hw1]; exact (Below.refl _ _).alloc (Nat.le_refl _) _
  have c1 : w1.cell? ⟨r, 1, none⟩ = some (.slice none 0 0) := (hB.cell (p := ⟨r, 1, none⟩) hr).trans h1
  have c3 : w1.cell? ⟨r, 3, none⟩ = some (.slice none 0 0) := (hB.cell (p := ⟨r, 3, none⟩) hr).trans h3
  have b0 : w1.cell? ⟨b, 0, none⟩ = some (.string ⟨#[]⟩) := by rw [hw1, hb, World.cell?_alloc_at _ _ _ _ rfl]; rfl
  have b1 : w1.cell? ⟨b, 1, none⟩ = some (.string s) := by rw [hw1, hb, World.cell?_alloc_at _ _ _ _ rfl]; rfl
  have b2 : w1.cell? ⟨b, 2, none⟩ = some (.int .i64 (f : Int)) := by rw [hw1, hb, World.cell?_alloc_at _ _ _ _ rfl]; rfl
  have hbl : b < w1.heap.size := by rw [hw1, hb]; simp
  have hrl : r < w1.heap.size := Nat.lt_of_lt_of_le hr hB.size
  have z1 : w1.frozen? ⟨r, 1, none⟩ = false := by
    rw [hw1]
    exact (World.frozen?_alloc_past _ _ _ hr).trans f1
  have z3 : w1.frozen? ⟨r, 3, none⟩ = false := by
    rw [hw1]
    exact (World.frozen?_alloc_past _ _ _ hr).trans f3
  have HDO : Hid (Calls Try.prog 70 #[.slice none 0 0, .agg #[.string ⟨#[]⟩, .string s, .int .i64 (f : Int)]] w1.drew fun e w' => (∃ A n c, e = .returned (.slice A n c)) ∧ w'.cell? ⟨r, 1, none⟩ = some (.slice none 0 0) ∧ w'.cell? ⟨b, 0, none⟩ = some (.string ⟨#[]⟩) ∧ w'.cell? ⟨b, 1, none⟩ = some (.string s) ∧ w'.cell? ⟨b, 2, none⟩ = some (.int .i64 (f : Int)) ∧ TZ w r w') := by
    refine Lib.hid ((do_nil s f w1.drew hf).mono ?_)
    rintro e w' ⟨h, hg⟩
    have hb' : Below w1.heap.size w1 w' := ⟨hg.os, hg.tape, hg.output, hg.size, fun k hk => hg.block k hk (by simp)⟩
    refine ⟨h, (hb'.cell (p := ⟨r, 1, none⟩) hrl).trans c1, (hb'.cell (p := ⟨b, 0, none⟩) hbl).trans b0, (hb'.cell (p := ⟨b, 1, none⟩) hbl).trans b1, (hb'.cell (p := ⟨b, 2, none⟩) hbl).trans b2, ⟨(hb'.cell (p := ⟨r, 3, none⟩) hrl).trans c3, (hb'.frozen (p := ⟨r, 1, none⟩) hrl).trans z1, (hb'.frozen (p := ⟨r, 3, none⟩) hrl).trans z3, grown_trans hg1 ((grown_drew1 (grown_refl _ _)).andThen hg (fun j hj => by cases hj)), Nat.lt_of_lt_of_le hrl hb'.size⟩⟩
  have HW := Lib.hid hw1.symm
  have T1 : TZ w r w1 := ⟨c3, z1, z3, hg1, hrl⟩
  have HB := Lib.hid hb
  have HBR : Hid (b ≠ r) := Lib.hid (by omega)
  clear hw1 hg1 h1 h3 hB c3 z1 z3 f1 f3
  go_enter Try.func68, Try.ntmps68
  go_wp2_with fail
  rw [HW.out]
  rw [← hb]
  clear hb hbl hrl hr
  go_region_with (first
    | (go_at_call 70; refine HDO.out.mono ?_; rintro e w2 ⟨⟨A, n, c, rfl⟩, c1, b0, b1, b2, T2⟩; have f1 := T2.f1)
    | fail)
  all_goals
    obtain ⟨w3, hw3⟩ : ∃ w3, w3 = w2.setCell ⟨r, 1, none⟩ (.slice A n c) := ⟨_, rfl⟩
    have d0 : w3.cell? ⟨b, 0, none⟩ = some (.string ⟨#[]⟩) := by rw [hw3, World.cell?_setCell_other _ _ _ _ (fun e => by injection e with e1 _; exact HBR.out e1.symm)]; assumption
    have d1 : w3.cell? ⟨b, 1, none⟩ = some (.string s) := by rw [hw3, World.cell?_setCell_other _ _ _ _ (fun e => by injection e with e1 _; exact HBR.out e1.symm)]; assumption
    have d2 : w3.cell? ⟨b, 2, none⟩ = some (.int .i64 (f : Int)) := by rw [hw3, World.cell?_setCell_other _ _ _ _ (fun e => by injection e with e1 _; exact HBR.out e1.symm)]; assumption
    have d3 : w3.cell? ⟨r, 3, none⟩ = some (.slice none 0 0) := by rw [hw3, World.cell?_setCell_other _ _ _ _ (fun e => by injection e with _ e2; exact absurd e2 (by decide))]; exact T2.c3
    have z3 : w3.frozen? ⟨r, 3, none⟩ = false := by rw [hw3, World.frozen?_setCell]; exact T2.f3
    have g3 : w.grownBy w3 (some r) := by rw [hw3]; exact grown_set' T2.g
    have hr3 : r < w3.heap.size := by rw [hw3]; simpa using T2.lt
    have hb3 : b < w3.heap.size := World.block_lt_of_cell? _ _ d0
    rw [← hw3]
    have G3 := Lib.hid g3
    have ONE : Hid (∀ u ∈ [Value.string ⟨#[]⟩, .string s, .int .i64 (f : Int)], u.oneCell' = true) := Lib.hid (by intro u hu; simp at hu; rcases hu with rfl | rfl | rfl <;> rfl)
    clear hw3 T2 T1 HDO c1 b0 b1 b2 f1 g3
    go_wp2
    go_region_law (first
      | (refine step_lit rfl (.tmp 19) (.tmp 21) 50 rfl rowTu w w3 _ r 3 _ (w3.heap.size + 1) w3.heap.size [.string ⟨#[]⟩, .string s, .int .i64 (f : Int)] rfl rfl rfl ONE.out (Lit.a w3 _ _ _ _) (by decide) d3 z3 G3.out ?_; intro A4 n4 c4 w4 e3 y3 g4; have G4 := Lib.hid g4; clear g4)
      | (refine step_lit rfl (.tmp 19) (.tmp 21) 50 rfl rowTu w w3 _ r 3 _ w3.heap.size (w3.heap.size + 1) [.string ⟨#[]⟩, .string s, .int .i64 (f : Int)] rfl rfl rfl ONE.out (Lit.b w3 _ _ _ _) (by decide) d3 z3 G3.out ?_; intro A4 n4 c4 w4 e3 y3 g4; have G4 := Lib.hid g4; clear g4))
    all_goals
      go_wp2
      first | go_end0 | skip
      refine ⟨rfl, ?_⟩
      have g4 := G4.out
      (repeat (first | exact grown_refl _ _ | assumption | apply grown_set' | apply grown_alloc' | apply grown_drew1 | apply grown_drew'))
end Go.Proofs.Ytfhbolhmfhgeaaa
