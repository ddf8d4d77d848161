/-
  CONTRACTS OF what makes the tables once, and of what reads them.
  CONTRACTS OF lacking, undistributed, first: the first two elements that fail.
-/
import Derived.Test.YtnhdpegjkkaabaaLtD
namespace Go.Proofs.Ytnhdpegjkkaabaa
set_option linter.unusedVariables false
set_option linter.unusedSimpArgs false
open Go.RowKit Go.Maps

section
variable {w w2 : World} {X : Nat → Prop} {g og k : Nat} {o : Od}
theorem LtAt.locked (h : LtAt w X g og o false k) : LtC (w.setCell ⟨g, 3, none⟩ (.int .i32 1)) X g og o k ∧ (∃ v, (w.setCell ⟨g, 3, none⟩ (.int .i32 1)).cell? ⟨g, 5, none⟩ = some v) ∧ LtT (w.setCell ⟨g, 3, none⟩ (.int .i32 1)) g o 0 0 0 ∧ LtB (w.setCell ⟨g, 3, none⟩ (.int .i32 1)) g o 0 0 := by
  have hc : ∀ j, j ≠ 3 → (w.setCell ⟨g, 3, none⟩ (.int .i32 1)).cell? ⟨g, j, none⟩ = w.cell? ⟨g, j, none⟩ := fun j hj => World.cell?_setCell_other _ _ _ _ (off_ne hj.symm)
  obtain ⟨v, hv, _⟩ := h.c5
  exact ⟨h.c.set 3 (by omega) _, ⟨v, (hc 5 (by omega)).trans hv⟩, h.t.keep (fun j h6 _ => hc j (by omega)) h.c.osd.wf.len, h.b.keep (hc _ (by omega)) (hc _ (by omega))⟩
theorem LtAt.d0 (h : LtAt w X g og o false k) (p : LtK (w.setCell ⟨g, 3, none⟩ (.int .i32 1)) w2 X g og o k o.ns.length 0 0 o.ns.length o.ns.length) : w2.cell? ⟨g, 2, none⟩ = some (.int .u32 0) :=
  p.c2.trans ((World.cell?_setCell_other _ _ _ _ (off_ne (by omega))).trans h.c2)
theorem LtAt.d1 (h : LtAt w X g og o false k) (p : LtK (w.setCell ⟨g, 3, none⟩ (.int .i32 1)) w2 X g og o k o.ns.length 0 0 o.ns.length o.ns.length) : (w2.drew.setCell ⟨g, 2, none⟩ (.int .u32 1)).cell? ⟨g, 3, none⟩ = some (.int .i32 1) :=
  (World.cell?_setCell_other _ _ _ _ (off_ne (by omega))).trans (p.c3.trans (World.cell?_setCell_same _ _ _ h.c3))
theorem LtAt.made (h : LtAt w X g og o false k) (p : LtK (w.setCell ⟨g, 3, none⟩ (.int .i32 1)) w2 X g og o k o.ns.length 0 0 o.ns.length o.ns.length) :
    LtAt ((w2.drew.setCell ⟨g, 2, none⟩ (.int .u32 1)).setCell ⟨g, 3, none⟩ (.int .i32 0)) X g og o true k ∧ Only g w ((w2.drew.setCell ⟨g, 2, none⟩ (.int .u32 1)).setCell ⟨g, 3, none⟩ (.int .i32 0)) := by
  have ho : Only g w w2.drew := (((Only.refl g w).setCell 3 _).trans p.only).drew
  have hc : ∀ j, j ≠ 2 → j ≠ 3 → ((w2.drew.setCell ⟨g, 2, none⟩ (.int .u32 1)).setCell ⟨g, 3, none⟩ (.int .i32 0)).cell? ⟨g, j, none⟩ = w2.cell? ⟨g, j, none⟩ := fun j h2 h3 =>
    (World.cell?_setCell_other _ _ _ _ (off_ne h3.symm)).trans (World.cell?_setCell_other _ _ _ _ (off_ne h2.symm))
  refine ⟨⟨(p.drew.c.set 2 (by omega) _).set 3 (by omega) _, ?_, World.cell?_setCell_same _ _ _ (h.d1 p), ⟨_, (hc 5 (by omega) (by omega)).trans p.c5, fun _ => rfl⟩, p.t.keep (fun j h6 _ => hc j (by omega) (by omega)) p.c.osd.wf.len, p.b.keep (hc _ (by omega) (by omega)) (hc _ (by omega) (by omega))⟩, (ho.setCell 2 _).setCell 3 _⟩
  exact (World.cell?_setCell_other _ _ _ _ (off_ne (by omega))).trans (World.cell?_setCell_same _ _ _ (h.d0 p.drew))
theorem LtAt.nf2 (h : LtAt w X g og o false k) (p : LtK (w.setCell ⟨g, 3, none⟩ (.int .i32 1)) w2 X g og o k o.ns.length 0 0 o.ns.length o.ns.length) (j : Nat) : w2.frozen? ⟨g, j, none⟩ = false := p.c.nf j
end

set_option maxRecDepth 100000 in
set_option maxHeartbeats 1600000 in
/-- 'doSlow', not yet done. -/
theorem slowLat_any (g og k : Nat) (X : Nat → Prop) (o : Od) (w : World) (h : LtAt w X g og o false k) :
    Calls Try.prog 81 #[.pointer (some ⟨g, 2, none⟩), .func (.func 71) #[.pointer (some ⟨g, 0, none⟩)] #[]] w fun e w' => e = .returned (.tuple #[]) ∧ LtAt w' X g og o true k ∧ Only g w w' := by
  have h0 : w.cell? ⟨g, 2, none⟩ = some (.int .u32 0) := h.c2
  have h1 := h.c3
  have f0 := h.c.nf 2
  have f1 := h.c.nf 3
  have c1 : (w.setCell ⟨g, 3, none⟩ (.int .i32 1)).cell? ⟨g, 2, none⟩ = some (.int .u32 0) := (World.cell?_setCell_other _ _ _ _ (off_ne (by omega))).trans h0
  have hnot := not_bool
  obtain ⟨k1, k2, k3, k4⟩ := h.locked
  have ht := makeTables_any g og k X o (w.setCell ⟨g, 3, none⟩ (.int .i32 1)) k1 k2 k3 k4
  have HT := Lib.hid ht
  have C1 := Lib.hid c1
  have HS := Lib.hid h
  clear ht h c1 k1 k2 k3 k4
  go_enter_defers Try.func81, Try.ntmps81
  go_wp2_with (first | (go_at_call 85; refine (lock_free ⟨g, 3, none⟩ _ (by go_simp) (by go_simp)).mono ?_; rintro e w' ⟨rfl, rfl⟩) | (go_at_call 80; refine (load_no ⟨g, 2, none⟩ _ C1.out).mono ?_; rintro e w' ⟨rfl, rfl⟩) | (go_at_call 71; refine HT.out.mono ?_; rintro e w2 ⟨rfl, hp⟩; have HP := Lib.hid hp; clear hp))
  refine leaves_cons (f := 87) (args := #[.pointer (some ⟨g, 2, none⟩), .bool true]) (by simp) (by simp [go_sem]) ?_
  refine (store_deferred ⟨g, 2, none⟩ (.int .u32 0) .returning _ (LtAt.d0 HS.out HP.out) (LtAt.nf2 HS.out HP.out 2)).mono ?_
  rintro e u' w'' ⟨rfl, rfl, rfl⟩
  refine leaves_cons (f := 86) (args := #[.pointer (some ⟨g, 3, none⟩)]) (by simp [settle]) (by simp [go_sem]) ?_
  refine (unlock_deferred ⟨g, 3, none⟩ _ _ (LtAt.d1 HS.out HP.out) ((World.frozen?_setCell _ _ _ _).trans (LtAt.nf2 HS.out HP.out 3))).mono ?_
  rintro e u' w'' ⟨rfl, rfl, rfl⟩
  have HM := Lib.hid (HS.out.made HP.out)
  clear h0 h1 f0 f1 hnot
  simp [Leaves, settle, results, Try.results81]
  exact HM.out

set_option maxRecDepth 100000 in
set_option maxHeartbeats 1600000 in
/-- 'Do', whether or not it is done. -/
theorem onceLat_any (g og k : Nat) (X : Nat → Prop) (o : Od) (d : Bool) (w : World) (h : LtAt w X g og o d k) :
    Calls Try.prog 70 #[.pointer (some ⟨g, 2, none⟩), .func (.func 71) #[.pointer (some ⟨g, 0, none⟩)] #[]] w fun e w' => e = .returned (.tuple #[]) ∧ LtAt w' X g og o true k ∧ Only g w w' := by
  have hnot := not_bool
  cases d with
  | false =>
    have HS := Lib.hid h
    clear h
    go_enter Try.func70, Try.ntmps70
    go_wp2_with (first | (go_at_call 80; refine (load_no ⟨g, 2, none⟩ _ HS.out.c2).mono ?_; rintro e w' ⟨rfl, rfl⟩) | (go_at_call 81; refine (slowLat_any g og k X o _ HS.out).mono ?_; rintro e w2 ⟨rfl, hm⟩; have HM := Lib.hid hm; clear hm))
    go_end0
    exact ⟨rfl, HM.out⟩
  | true =>
    have HS := Lib.hid h
    clear h
    go_enter Try.func70, Try.ntmps70
    go_wp2_with (go_at_call 80; refine (load_yes ⟨g, 2, none⟩ _ HS.out.c2).mono ?_; rintro e w' ⟨rfl, rfl⟩)
    go_end0
    exact ⟨rfl, HS.out, Only.refl _ _⟩

/-- What a call leaves: the lattice with its tables made. -/
def LtTo (w : World) (X : Nat → Prop) (g og : Nat) (o : Od) (k : Nat) (v : Value) (e : Ending) (w' : World) : Prop := e = .returned v ∧ LtAt w' X g og o true k ∧ Only g w w'
section
variable {w : World} {X : Nat → Prop} {g og k : Nat} {o : Od} {d : Bool}
set_option maxHeartbeats 800000 in
theorem lelems_any (h : LtAt w X g og o d k) : Calls Try.prog 64 #[.pointer (some ⟨g, 0, none⟩)] w (LtTo w X g og o k (.int .i64 (o.ns.length : Int))) := by
  have HS := Lib.hid h
  clear h
  go_enter Try.func64, Try.ntmps64
  go_wp2_with (first
    | (go_at_call 70; (with_reducible refine (onceLat_any g og k X o d _ HS.out).mono ?_); rintro e w2 ⟨rfl, hm, ho⟩; obtain ⟨v5, c5, h5⟩ := hm.c5; have h5' := h5 rfl; clear h5; subst h5'; have HM := Lib.hid hm; have HO := Lib.hid ho; clear hm ho)
    | go_in)
  go_ret
  exact ⟨rfl, HM.out, HO.out⟩
theorem lelems_nil (w : World) : Calls Try.prog 64 #[.pointer none] w fun e w' => e = .returned (.int .i64 0) ∧ w = w' := by
  go_enter Try.func64, Try.ntmps64
  go_wp2
  go_ret
  exact ⟨rfl, rfl⟩
set_option maxHeartbeats 800000 in
theorem lhas_any (h : LtAt w X g og o true k) (i : Int) : Calls Try.prog 72 #[.pointer (some ⟨g, 0, none⟩), .int .i64 i] w (LtTo w X g og o k (.bool (inI o.ns.length i))) := by
  unfold inI LtTo
  by_cases h0 : 0 ≤ i
  · have d0 : decide (0 ≤ i) = true := by simpa using h0
    have HS := Lib.hid (lelems_any h)
    clear h
    go_enter Try.func72, Try.ntmps72
    go_wp2_with (first
      | (go_at_call 64; (with_reducible refine HS.out.mono ?_); rintro e w2 ⟨rfl, hm, ho⟩; have HM := Lib.hid hm; have HO := Lib.hid ho; clear hm ho)
      | go_in)
    go_ret
    exact ⟨ret_bool (by simp [h0]), HM.out, HO.out⟩
  · have d0 : decide (0 ≤ i) = false := by simpa using h0
    have HS := Lib.hid h
    clear h
    go_enter Try.func72, Try.ntmps72
    go_wp2
    go_ret
    exact ⟨ret_bool (by simp [h0]), HS.out, Only.refl _ _⟩
theorem lhas_nil (w : World) (i : Int) : Calls Try.prog 72 #[.pointer none, .int .i64 i] w fun e w' => e = .returned (.bool false) ∧ w = w' := by
  by_cases h0 : 0 ≤ i
  · have d0 : decide (0 ≤ i) = true := by simpa using h0
    have d1 : decide (i < 0) = false := by simpa using h0
    go_enter Try.func72, Try.ntmps72
    go_wp2_with (first
      | (go_at_call 64; (with_reducible refine (lelems_nil _).mono ?_); rintro e w2 ⟨rfl, rfl⟩)
      | go_in)
    go_ret
    exact ⟨rfl, rfl⟩
  · have d0 : decide (0 ≤ i) = false := by simpa using h0
    go_enter Try.func72, Try.ntmps72
    go_wp2
    go_ret
    exact ⟨rfl, rfl⟩
end
section
variable {w : World} {X : Nat → Prop} {g og k : Nat} {o : Od}

set_option maxRecDepth 10000 in
set_option maxHeartbeats 800000 in
theorem ljoin_any (h : LtAt w X g og o true k) (a b : Int) : Calls Try.prog 65 #[.pointer (some ⟨g, 0, none⟩), .int .i64 a, .int .i64 b] w (LtTo w X g og o k (.int .i64 (ltJ (rmost o) o.ns.length a b))) := by
  unfold LtTo
  have HS := Lib.hid h
  have hl := h.c.osd.wf.len
  have HA := Lib.hid (fun (w : World) (h : LtAt w X g og o true k) => lhas_any h a)
  have HB := Lib.hid (fun (w : World) (h : LtAt w X g og o true k) => lhas_any h b)
  unfold LtTo at HA HB
  clear h
  have hcs : (inI o.ns.length a = true ∧ inI o.ns.length b = true ∧ ∃ x y : Nat, a = (x : Int) ∧ b = (y : Int) ∧ x < o.ns.length ∧ y < o.ns.length) ∨ (inI o.ns.length a = true ∧ inI o.ns.length b = false) ∨ inI o.ns.length a = false := by
    cases ha : inI o.ns.length a with
    | false => exact .inr (.inr rfl)
    | true =>
      cases hb : inI o.ns.length b with
      | false => exact .inr (.inl ⟨rfl, rfl⟩)
      | true =>
        unfold inI at ha hb
        simp at ha hb
        exact .inl ⟨rfl, rfl, a.toNat, b.toNat, by omega, by omega, by omega, by omega⟩
  rcases hcs with ⟨d1, d2, x, y, rfl, rfl, hx, hy⟩ | ⟨d1, d2⟩ | d1
  · rw [d1] at HA
    rw [d2] at HB
    have HR := Lib.hid (ltJ_nat (F := (rmost o)) hx hy)
    have HT := Lib.hid (fun (w2 : World) (h : LtAt w2 X g og o true k) => h.t.js x y hx hy (.inl (show x < upto true o.ns.length from hx)))
    unfold tat at HT
    obtain ⟨l1, l2⟩ := rjoin_lt (F := (rmost o)) (a := x) (b := y) hl
    obtain ⟨v, hv⟩ : ∃ v, rjoinI (rmost o) o.ns.length x y = v := ⟨_, rfl⟩
    rw [hv] at HT HR l1 l2
    have hx64 : (x : Int) < 64 := by omega
    have hy64 : (y : Int) < 64 := by omega
    have hw : IntKind.i64.wrap v = v := IntWalk.i64_in v (by omega)
    clear hv d1 d2 hx hy
    go_enter Try.func65, Try.ntmps65
    go_wp2_with (first
      | (go_at_call 72; (with_reducible refine (HA.out _ HS.out).mono ?_); rintro e w2 ⟨rfl, hm, ho⟩; have HM := Lib.hid hm; have HO := Lib.hid ho; clear hm ho)
      | (go_at_call 72; (with_reducible refine (HB.out _ HM.out).mono ?_); rintro e w3 ⟨rfl, hm, ho⟩; have HM3 := Lib.hid hm; have HO3 := Lib.hid ho; have c0 := HT.out _ hm; clear hm ho)
      | go_in)
    go_ret
    exact ⟨ret_i64 HR.out.symm, HM3.out, HO.out.trans HO3.out⟩
  · have HR := Lib.hid (ltJ_out (F := (rmost o)) (n := o.ns.length) (a := a) (b := b) (.inr d2))
    rw [d1] at HA
    rw [d2] at HB
    clear d1 d2
    go_enter Try.func65, Try.ntmps65
    go_wp2_with (first
      | (go_at_call 72; (with_reducible refine (HA.out _ HS.out).mono ?_); rintro e w2 ⟨rfl, hm, ho⟩; have HM := Lib.hid hm; have HO := Lib.hid ho; clear hm ho)
      | (go_at_call 72; (with_reducible refine (HB.out _ HM.out).mono ?_); rintro e w3 ⟨rfl, hm, ho⟩; have HM3 := Lib.hid hm; have HO3 := Lib.hid ho; clear hm ho)
      | go_in)
    go_ret
    exact ⟨ret_i64 HR.out.symm, HM3.out, HO.out.trans HO3.out⟩
  · have HR := Lib.hid (ltJ_out (F := (rmost o)) (n := o.ns.length) (a := a) (b := b) (.inl d1))
    rw [d1] at HA
    clear d1
    go_enter Try.func65, Try.ntmps65
    go_wp2_with (first
      | (go_at_call 72; (with_reducible refine (HA.out _ HS.out).mono ?_); rintro e w2 ⟨rfl, hm, ho⟩; have HM := Lib.hid hm; have HO := Lib.hid ho; clear hm ho)
      | go_in)
    go_ret
    exact ⟨ret_i64 HR.out.symm, HM.out, HO.out⟩

set_option maxRecDepth 10000 in
set_option maxHeartbeats 800000 in
theorem lmeet_any (h : LtAt w X g og o true k) (a b : Int) : Calls Try.prog 66 #[.pointer (some ⟨g, 0, none⟩), .int .i64 a, .int .i64 b] w (LtTo w X g og o k (.int .i64 (ltJ (oflip (rmost o)) o.ns.length a b))) := by
  unfold LtTo
  have HS := Lib.hid h
  have hl := h.c.osd.wf.len
  have HA := Lib.hid (fun (w : World) (h : LtAt w X g og o true k) => lhas_any h a)
  have HB := Lib.hid (fun (w : World) (h : LtAt w X g og o true k) => lhas_any h b)
  unfold LtTo at HA HB
  clear h
  have hcs : (inI o.ns.length a = true ∧ inI o.ns.length b = true ∧ ∃ x y : Nat, a = (x : Int) ∧ b = (y : Int) ∧ x < o.ns.length ∧ y < o.ns.length) ∨ (inI o.ns.length a = true ∧ inI o.ns.length b = false) ∨ inI o.ns.length a = false := by
    cases ha : inI o.ns.length a with
    | false => exact .inr (.inr rfl)
    | true =>
      cases hb : inI o.ns.length b with
      | false => exact .inr (.inl ⟨rfl, rfl⟩)
      | true =>
        unfold inI at ha hb
        simp at ha hb
        exact .inl ⟨rfl, rfl, a.toNat, b.toNat, by omega, by omega, by omega, by omega⟩
  rcases hcs with ⟨d1, d2, x, y, rfl, rfl, hx, hy⟩ | ⟨d1, d2⟩ | d1
  · rw [d1] at HA
    rw [d2] at HB
    have HR := Lib.hid (ltJ_nat (F := (oflip (rmost o))) hx hy)
    have HT := Lib.hid (fun (w2 : World) (h : LtAt w2 X g og o true k) => h.t.ms x y hx hy (.inl (show x < upto true o.ns.length from hx)))
    unfold tat at HT
    obtain ⟨l1, l2⟩ := rjoin_lt (F := (oflip (rmost o))) (a := x) (b := y) hl
    obtain ⟨v, hv⟩ : ∃ v, rjoinI (oflip (rmost o)) o.ns.length x y = v := ⟨_, rfl⟩
    rw [hv] at HT HR l1 l2
    have hx64 : (x : Int) < 64 := by omega
    have hy64 : (y : Int) < 64 := by omega
    have hw : IntKind.i64.wrap v = v := IntWalk.i64_in v (by omega)
    clear hv d1 d2 hx hy
    go_enter Try.func66, Try.ntmps66
    go_wp2_with (first
      | (go_at_call 72; (with_reducible refine (HA.out _ HS.out).mono ?_); rintro e w2 ⟨rfl, hm, ho⟩; have HM := Lib.hid hm; have HO := Lib.hid ho; clear hm ho)
      | (go_at_call 72; (with_reducible refine (HB.out _ HM.out).mono ?_); rintro e w3 ⟨rfl, hm, ho⟩; have HM3 := Lib.hid hm; have HO3 := Lib.hid ho; have c0 := HT.out _ hm; clear hm ho)
      | go_in)
    go_ret
    exact ⟨ret_i64 HR.out.symm, HM3.out, HO.out.trans HO3.out⟩
  · have HR := Lib.hid (ltJ_out (F := (oflip (rmost o))) (n := o.ns.length) (a := a) (b := b) (.inr d2))
    rw [d1] at HA
    rw [d2] at HB
    clear d1 d2
    go_enter Try.func66, Try.ntmps66
    go_wp2_with (first
      | (go_at_call 72; (with_reducible refine (HA.out _ HS.out).mono ?_); rintro e w2 ⟨rfl, hm, ho⟩; have HM := Lib.hid hm; have HO := Lib.hid ho; clear hm ho)
      | (go_at_call 72; (with_reducible refine (HB.out _ HM.out).mono ?_); rintro e w3 ⟨rfl, hm, ho⟩; have HM3 := Lib.hid hm; have HO3 := Lib.hid ho; clear hm ho)
      | go_in)
    go_ret
    exact ⟨ret_i64 HR.out.symm, HM3.out, HO.out.trans HO3.out⟩
  · have HR := Lib.hid (ltJ_out (F := (oflip (rmost o))) (n := o.ns.length) (a := a) (b := b) (.inl d1))
    rw [d1] at HA
    clear d1
    go_enter Try.func66, Try.ntmps66
    go_wp2_with (first
      | (go_at_call 72; (with_reducible refine (HA.out _ HS.out).mono ?_); rintro e w2 ⟨rfl, hm, ho⟩; have HM := Lib.hid hm; have HO := Lib.hid ho; clear hm ho)
      | go_in)
    go_ret
    exact ⟨ret_i64 HR.out.symm, HM.out, HO.out⟩
end
end Go.Proofs.Ytnhdpegjkkaabaa
namespace Go.Proofs.Ytnhdpegjkkaabaa
set_option linter.unusedVariables false
set_option linter.unusedSimpArgs false
open Go.RowKit Go.Maps

section
variable {w : World} {X : Nat → Prop} {g og k : Nat} {o : Od}
set_option maxHeartbeats 800000 in
theorem lacking_any (h : LtAt w X g og o true k) (a b : Nat) : Calls Try.prog 51 #[.pointer (some ⟨g, 0, none⟩), .int .i64 (a : Int), .int .i64 (b : Int)] w (LtTo w X g og o k (.bool (ltP1 (rmost o) o.ns.length a b))) := by
  unfold LtTo ltP1
  have HJ := Lib.hid (ljoin_any h (a : Int) (b : Int))
  have HM := Lib.hid (fun (w : World) (h : LtAt w X g og o true k) => lmeet_any h (a : Int) (b : Int))
  unfold LtTo at HJ HM
  clear h
  obtain ⟨u, hu⟩ : ∃ u, ltJ (rmost o) o.ns.length (a : Int) (b : Int) = u := ⟨_, rfl⟩
  obtain ⟨v, hv⟩ : ∃ v, ltJ (oflip (rmost o)) o.ns.length (a : Int) (b : Int) = v := ⟨_, rfl⟩
  rw [hu] at HJ
  rw [hv] at HM
  rw [hu, hv]
  clear hu hv
  by_cases h1 : u = -1
  · have d : (u == (-1 : Int)) = true := by simp [h1]
    go_enter Try.func51, Try.ntmps51
    go_wp2_with (first
      | (go_at_call 65; (with_reducible refine HJ.out.mono ?_); rintro e w2 ⟨rfl, hm, ho⟩; have H2 := Lib.hid hm; have HO := Lib.hid ho; clear hm ho)
      | go_in)
    go_ret
    exact ⟨ret_bool (by simp [h1]), H2.out, HO.out⟩
  · have d : (u == (-1 : Int)) = false := by simpa using h1
    go_enter Try.func51, Try.ntmps51
    go_wp2_with (first
      | (go_at_call 65; (with_reducible refine HJ.out.mono ?_); rintro e w2 ⟨rfl, hm, ho⟩; have H2 := Lib.hid (HM.out _ hm); have HO := Lib.hid ho; clear hm ho)
      | (go_at_call 66; (with_reducible refine H2.out.mono ?_); rintro e w3 ⟨rfl, hm, ho⟩; have H3 := Lib.hid hm; have HO3 := Lib.hid ho; clear hm ho)
      | go_in)
    go_ret
    exact ⟨ret_bool (by rw [decide_eq_false h1, Bool.false_or]; by_cases e : v = -1 <;> simp [e]), H3.out, HO.out.trans HO3.out⟩
theorem ltP2_no {F : Nat → Nat → Bool} {n a b : Nat} (h : ∀ c, c < n → ltQ F n a b c = false) : ltP2 F n a b = false := by
  unfold ltP2
  rw [List.any_eq_false]
  intro c hc
  rw [h c (List.mem_range.1 hc)]
  decide
theorem ltP2_yes {F : Nat → Nat → Bool} {n a b c : Nat} (hc : c < n) (h : ltQ F n a b c = true) : ltP2 F n a b = true := by
  unfold ltP2
  rw [List.any_eq_true]
  exact ⟨c, List.mem_range.2 hc, h⟩
set_option maxRecDepth 10000 in
set_option maxHeartbeats 800000 in
theorem undist_any (h : LtAt w X g og o true k) (a b : Nat) : Calls Try.prog 52 #[.pointer (some ⟨g, 0, none⟩), .int .i64 (a : Int), .int .i64 (b : Int)] w (LtTo w X g og o k (.bool (ltP2 (rmost o) o.ns.length a b))) := by
  unfold LtTo
  have hl := h.c.osd.wf.len
  have HE := Lib.hid (lelems_any h)
  have HJ := Lib.hid (fun (w : World) (h : LtAt w X g og o true k) (a b : Int) => ljoin_any h a b)
  have HM := Lib.hid (fun (w : World) (h : LtAt w X g og o true k) (a b : Int) => lmeet_any h a b)
  have HQ := Lib.hid (show ∀ c : Nat, ltQ (rmost o) o.ns.length a b c = !decide (ltJ (oflip (rmost o)) o.ns.length a (ltJ (rmost o) o.ns.length b c) = ltJ (rmost o) o.ns.length (ltJ (oflip (rmost o)) o.ns.length a b) (ltJ (oflip (rmost o)) o.ns.length a c)) from fun c => rfl)
  have HY := Lib.hid (fun c => @ltP2_yes (rmost o) o.ns.length a b c)
  have HNo := Lib.hid (@ltP2_no (rmost o) o.ns.length a b)
  unfold LtTo at HE HJ HM
  clear h
  obtain ⟨J, hJ⟩ : ∃ J, ltJ (rmost o) o.ns.length = J := ⟨_, rfl⟩
  obtain ⟨M, hM⟩ : ∃ M, ltJ (oflip (rmost o)) o.ns.length = M := ⟨_, rfl⟩
  obtain ⟨Q, hQ⟩ : ∃ Q, ltQ (rmost o) o.ns.length a b = Q := ⟨_, rfl⟩
  obtain ⟨p, hp⟩ : ∃ p, ltP2 (rmost o) o.ns.length a b = p := ⟨_, rfl⟩
  obtain ⟨n, hn⟩ : ∃ n, o.ns.length = n := ⟨_, rfl⟩
  rw [hJ, hM, hQ] at HQ
  rw [hJ] at HJ
  rw [hM] at HM
  rw [hQ, hp] at HY HNo
  rw [hp]
  rw [hn] at HE HY HNo hl
  clear hJ hM hQ hp hn
  go_enter Try.func52, Try.ntmps52
  go_wp2_with (first
    | (go_at_call 64; (with_reducible refine HE.out.mono ?_); rintro e w1 ⟨rfl, hm, ho⟩; have H1 := Lib.hid hm; have HO := Lib.hid ho; clear hm ho)
    | go_in)
  go_loopw [10] (fun i wr => ∃ c : Nat, i = .int .i64 (c : Int) ∧ c ≤ n ∧ Hid (∀ j, j < c → Q j = false) ∧ Hid (LtAt wr X g og o true k) ∧ Hid (Only g w wr)) (fun i _ => n - (intOf i).toNat)
  case atStart => exact ⟨0, rfl, Nat.zero_le _, Lib.hid (fun j hj => absurd hj (Nat.not_lt_zero _)), H1, HO⟩
  case round =>
    obtain ⟨c, rfl, hc, HNO, HL, HON⟩ := hrel
    obtain ⟨wz, hwz⟩ : ∃ wz, wz = wr := ⟨_, rfl⟩
    subst hwz
    by_cases hlt : c < n
    · have HQc := Lib.hid (HQ.out c)
      have C1 := Lib.hid (HJ.out wz HL.out (b : Int) (c : Int))
      obtain ⟨x1, hx1⟩ : ∃ x, J (b : Int) (c : Int) = x := ⟨_, rfl⟩
      have C2 := Lib.hid (fun w h => HM.out w h (a : Int) x1)
      obtain ⟨x2, hx2⟩ : ∃ x, M (a : Int) x1 = x := ⟨_, rfl⟩
      have C3 := Lib.hid (fun w h => HM.out w h (a : Int) (b : Int))
      obtain ⟨x3, hx3⟩ : ∃ x, M (a : Int) (b : Int) = x := ⟨_, rfl⟩
      have C4 := Lib.hid (fun w h => HM.out w h (a : Int) (c : Int))
      obtain ⟨x4, hx4⟩ : ∃ x, M (a : Int) (c : Int) = x := ⟨_, rfl⟩
      have C5 := Lib.hid (fun w h => HJ.out w h x3 x4)
      obtain ⟨x5, hx5⟩ : ∃ x, J x3 x4 = x := ⟨_, rfl⟩
      rw [hx1, hx2, hx3, hx4, hx5] at HQc
      rw [hx1] at C1
      rw [hx2] at C2
      rw [hx3] at C3
      rw [hx4] at C4
      rw [hx5] at C5
      clear hx1 hx2 hx3 hx4 hx5
      by_cases he : x2 = x5
      · have d : (x2 != x5) = false := by simp [he]
        have HN2 := Lib.hid (show ∀ j, j < c + 1 → Q j = false from fun j hj => by
          rcases Nat.lt_or_ge j c with e | e
          · exact HNO.out j e
          · obtain rfl : j = c := by omega
            rw [HQc.out, decide_eq_true he]; rfl)
        clear he
        go_wp2_with (first
          | (go_at_call 65; (with_reducible refine C1.out.mono ?_); rintro e w1 ⟨rfl, hm, ho⟩; have D2 := Lib.hid (C2.out _ hm); have HO1 := Lib.hid (HON.out.trans ho); clear hm ho)
          | (go_at_call 66; (with_reducible refine D2.out.mono ?_); rintro e w2 ⟨rfl, hm, ho⟩; have D3 := Lib.hid (C3.out _ hm); have HO2 := Lib.hid (HO1.out.trans ho); clear hm ho)
          | (go_at_call 66; (with_reducible refine D3.out.mono ?_); rintro e w3 ⟨rfl, hm, ho⟩; have D4 := Lib.hid (C4.out _ hm); have HO3 := Lib.hid (HO2.out.trans ho); clear hm ho)
          | (go_at_call 66; (with_reducible refine D4.out.mono ?_); rintro e w4 ⟨rfl, hm, ho⟩; have D5 := Lib.hid (C5.out _ hm); have HO4 := Lib.hid (HO3.out.trans ho); clear hm ho)
          | (go_at_call 65; (with_reducible refine D5.out.mono ?_); rintro e w5 ⟨rfl, hm, ho⟩; have HLE := Lib.hid hm; have HO5 := Lib.hid (HO4.out.trans ho); clear hm ho)
          | go_in)
        go_roundw
        case rel => exact ⟨c + 1, by go_num, hlt, HN2, HLE, HO5⟩
        case measure => simp [intOf]; omega
      · have d : (x2 != x5) = true := by simpa using he
        have HR := Lib.hid (HY.out c hlt (by rw [HQc.out, decide_eq_false he]; rfl))
        clear he
        go_wp2_with (first
          | (go_at_call 65; (with_reducible refine C1.out.mono ?_); rintro e w1 ⟨rfl, hm, ho⟩; have D2 := Lib.hid (C2.out _ hm); have HO1 := Lib.hid (HON.out.trans ho); clear hm ho)
          | (go_at_call 66; (with_reducible refine D2.out.mono ?_); rintro e w2 ⟨rfl, hm, ho⟩; have D3 := Lib.hid (C3.out _ hm); have HO2 := Lib.hid (HO1.out.trans ho); clear hm ho)
          | (go_at_call 66; (with_reducible refine D3.out.mono ?_); rintro e w3 ⟨rfl, hm, ho⟩; have D4 := Lib.hid (C4.out _ hm); have HO3 := Lib.hid (HO2.out.trans ho); clear hm ho)
          | (go_at_call 66; (with_reducible refine D4.out.mono ?_); rintro e w4 ⟨rfl, hm, ho⟩; have D5 := Lib.hid (C5.out _ hm); have HO4 := Lib.hid (HO3.out.trans ho); clear hm ho)
          | (go_at_call 65; (with_reducible refine D5.out.mono ?_); rintro e w5 ⟨rfl, hm, ho⟩; have HLE := Lib.hid hm; have HO5 := Lib.hid (HO4.out.trans ho); clear hm ho)
          | go_in)
        go_ret
        exact ⟨ret_bool HR.out.symm, HLE.out, HO5.out⟩
    · obtain rfl : n = c := by omega
      have HR := Lib.hid (HNo.out HNO.out)
      go_wp2
      go_ret
      exact ⟨ret_bool HR.out.symm, HL.out, HON.out⟩
end
/-- What 'first' answers. -/
def FsTo (P : Nat → Nat → Bool) (n : Nat) (e : Ending) : Prop :=
  (∃ a b : Nat, e = .returned (.tuple #[.int .i64 (a : Int), .int .i64 (b : Int), .bool true]) ∧ Fst P n a b) ∨ (e = .returned (.tuple #[.int .i64 0, .int .i64 0, .bool false]) ∧ ∀ x y, x < n → y < n → P x y = false)

set_option maxRecDepth 10000 in
set_option maxHeartbeats 800000 in
theorem first1_any (g og k : Nat) (X : Nat → Prop) (o : Od) (dd : Bool) (w : World) (h : LtAt w X g og o dd k) :
    Calls Try.prog 50 #[.pointer (some ⟨g, 0, none⟩), .func (.func 51) #[.pointer (some ⟨g, 0, none⟩)] #[]] w fun e w' => FsTo (ltP1 (rmost o) o.ns.length) o.ns.length e ∧ LtAt w' X g og o true k ∧ Only g w w' := by
  have hl := h.c.osd.wf.len
  have HE := Lib.hid (lelems_any h)
  have HE2 := Lib.hid (fun (w : World) (h : LtAt w X g og o true k) => lelems_any h)
  have HP := Lib.hid (fun (w : World) (h : LtAt w X g og o true k) (a b : Nat) => lacking_any h a b)
  unfold LtTo at HE HE2 HP
  clear h
  obtain ⟨P, hP⟩ : ∃ P, ltP1 (rmost o) o.ns.length = P := ⟨_, rfl⟩
  rw [hP] at HP
  rw [hP]
  obtain ⟨n, hn⟩ : ∃ n, o.ns.length = n := ⟨_, rfl⟩
  rw [hn] at HE HE2 hl
  rw [hn]
  clear hP hn
  go_enter Try.func50, Try.ntmps50
  go_wp2_with (first
    | (go_at_call 64; (with_reducible refine HE.out.mono ?_); rintro e w1 ⟨rfl, hm, ho⟩; have H1 := Lib.hid hm; have HO := Lib.hid ho; clear hm ho)
    | go_in)
  go_loopw [11] (fun i wr => ∃ a : Nat, i = .int .i64 (a : Int) ∧ a ≤ n ∧ Hid (∀ x y, x < a → y < n → P x y = false) ∧ Hid (LtAt wr X g og o true k) ∧ Hid (Only g w wr)) (fun i _ => n - (intOf i).toNat)
  case atStart => exact ⟨0, rfl, Nat.zero_le _, Lib.hid (fun x y hx => absurd hx (Nat.not_lt_zero _)), H1, HO⟩
  case round =>
    obtain ⟨a, rfl, ha, HNO, HL, HON⟩ := hrel
    obtain ⟨wz, hwz⟩ : ∃ wz, wz = wr := ⟨_, rfl⟩
    subst hwz
    by_cases hlt : a < n
    · have HEz := Lib.hid (HE2.out _ HL.out)
      go_wp2_with (first
        | (go_at_call 64; (with_reducible refine HEz.out.mono ?_); rintro e wb ⟨rfl, hm, ho⟩; have HLb := Lib.hid hm; have HOb := Lib.hid (HON.out.trans ho); clear hm ho)
        | go_in)
      go_loopw [16] (fun i wr => ∃ b : Nat, i = .int .i64 (b : Int) ∧ b ≤ n ∧ Hid (∀ y, y < b → P a y = false) ∧ Hid (LtAt wr X g og o true k) ∧ Hid (Only g w wr)) (fun i _ => n - (intOf i).toNat)
      case atStart => exact ⟨0, rfl, Nat.zero_le _, Lib.hid (fun y hy => absurd hy (Nat.not_lt_zero _)), HLb, HOb⟩
      case round =>
        obtain ⟨b, rfl, hb, HNO2, HL2, HON2⟩ := hrel
        obtain ⟨wy, hwy⟩ : ∃ wy, wy = wr := ⟨_, rfl⟩
        subst hwy
        by_cases hlt2 : b < n
        · have HPz := Lib.hid (HP.out _ HL2.out a b)
          cases hp : P a b with
          | true =>
            have HR := Lib.hid (Fst.mk hlt hlt2 hp (fun x y hx hy hxy => by
              rcases hxy with e | ⟨e, e2⟩
              · exact HNO.out x y e hy
              · subst e; exact HNO2.out y e2))
            rw [hp] at HPz
            clear hp
            go_wp2_with (first
              | (go_at_call 51; (with_reducible refine HPz.out.mono ?_); rintro e w1 ⟨rfl, hm, ho⟩; have H1 := Lib.hid hm; have HO := Lib.hid (HON2.out.trans ho); clear hm ho)
              | go_in)
            go_ret3
            exact ⟨.inl ⟨a, b, rfl, HR.out⟩, H1.out, HO.out⟩
          | false =>
            have HN2 := Lib.hid (show ∀ y, y < b + 1 → P a y = false from fun y hy => by
              rcases Nat.lt_or_ge y b with e | e
              · exact HNO2.out y e
              · obtain rfl : y = b := by omega
                exact hp)
            rw [hp] at HPz
            clear hp
            go_wp2_with (first
              | (go_at_call 51; (with_reducible refine HPz.out.mono ?_); rintro e w1 ⟨rfl, hm, ho⟩; have H1 := Lib.hid hm; have HO := Lib.hid (HON2.out.trans ho); clear hm ho)
              | go_in)
            go_roundw
            case rel => exact ⟨b + 1, by go_num, hlt2, HN2, H1, HO⟩
            case measure => simp [intOf]; omega
        · obtain rfl : n = b := by omega
          have HN2 := Lib.hid (show ∀ x y, x < a + 1 → y < n → P x y = false from fun x y hx hy => by
            rcases Nat.lt_or_ge x a with e | e
            · exact HNO.out x y e hy
            · obtain rfl : x = a := by omega
              exact HNO2.out y hy)
          go_wp2
          go_roundw
          case rel => exact ⟨a + 1, by go_num, hlt, HN2, HL2, HON2⟩
          case measure => simp [intOf]; omega
    · obtain rfl : n = a := by omega
      go_wp2
      go_ret3
      exact ⟨.inr ⟨rfl, HNO.out⟩, HL.out, HON.out⟩

set_option maxRecDepth 10000 in
set_option maxHeartbeats 800000 in
theorem first2_any (g og k : Nat) (X : Nat → Prop) (o : Od) (dd : Bool) (w : World) (h : LtAt w X g og o dd k) :
    Calls Try.prog 50 #[.pointer (some ⟨g, 0, none⟩), .func (.func 52) #[.pointer (some ⟨g, 0, none⟩)] #[]] w fun e w' => FsTo (ltP2 (rmost o) o.ns.length) o.ns.length e ∧ LtAt w' X g og o true k ∧ Only g w w' := by
  have hl := h.c.osd.wf.len
  have HE := Lib.hid (lelems_any h)
  have HE2 := Lib.hid (fun (w : World) (h : LtAt w X g og o true k) => lelems_any h)
  have HP := Lib.hid (fun (w : World) (h : LtAt w X g og o true k) (a b : Nat) => undist_any h a b)
  unfold LtTo at HE HE2 HP
  clear h
  obtain ⟨P, hP⟩ : ∃ P, ltP2 (rmost o) o.ns.length = P := ⟨_, rfl⟩
  rw [hP] at HP
  rw [hP]
  obtain ⟨n, hn⟩ : ∃ n, o.ns.length = n := ⟨_, rfl⟩
  rw [hn] at HE HE2 hl
  rw [hn]
  clear hP hn
  go_enter Try.func50, Try.ntmps50
  go_wp2_with (first
    | (go_at_call 64; (with_reducible refine HE.out.mono ?_); rintro e w1 ⟨rfl, hm, ho⟩; have H1 := Lib.hid hm; have HO := Lib.hid ho; clear hm ho)
    | go_in)
  go_loopw [11] (fun i wr => ∃ a : Nat, i = .int .i64 (a : Int) ∧ a ≤ n ∧ Hid (∀ x y, x < a → y < n → P x y = false) ∧ Hid (LtAt wr X g og o true k) ∧ Hid (Only g w wr)) (fun i _ => n - (intOf i).toNat)
  case atStart => exact ⟨0, rfl, Nat.zero_le _, Lib.hid (fun x y hx => absurd hx (Nat.not_lt_zero _)), H1, HO⟩
  case round =>
    obtain ⟨a, rfl, ha, HNO, HL, HON⟩ := hrel
    obtain ⟨wz, hwz⟩ : ∃ wz, wz = wr := ⟨_, rfl⟩
    subst hwz
    by_cases hlt : a < n
    · have HEz := Lib.hid (HE2.out _ HL.out)
      go_wp2_with (first
        | (go_at_call 64; (with_reducible refine HEz.out.mono ?_); rintro e wb ⟨rfl, hm, ho⟩; have HLb := Lib.hid hm; have HOb := Lib.hid (HON.out.trans ho); clear hm ho)
        | go_in)
      go_loopw [16] (fun i wr => ∃ b : Nat, i = .int .i64 (b : Int) ∧ b ≤ n ∧ Hid (∀ y, y < b → P a y = false) ∧ Hid (LtAt wr X g og o true k) ∧ Hid (Only g w wr)) (fun i _ => n - (intOf i).toNat)
      case atStart => exact ⟨0, rfl, Nat.zero_le _, Lib.hid (fun y hy => absurd hy (Nat.not_lt_zero _)), HLb, HOb⟩
      case round =>
        obtain ⟨b, rfl, hb, HNO2, HL2, HON2⟩ := hrel
        obtain ⟨wy, hwy⟩ : ∃ wy, wy = wr := ⟨_, rfl⟩
        subst hwy
        by_cases hlt2 : b < n
        · have HPz := Lib.hid (HP.out _ HL2.out a b)
          cases hp : P a b with
          | true =>
            have HR := Lib.hid (Fst.mk hlt hlt2 hp (fun x y hx hy hxy => by
              rcases hxy with e | ⟨e, e2⟩
              · exact HNO.out x y e hy
              · subst e; exact HNO2.out y e2))
            rw [hp] at HPz
            clear hp
            go_wp2_with (first
              | (go_at_call 52; (with_reducible refine HPz.out.mono ?_); rintro e w1 ⟨rfl, hm, ho⟩; have H1 := Lib.hid hm; have HO := Lib.hid (HON2.out.trans ho); clear hm ho)
              | go_in)
            go_ret3
            exact ⟨.inl ⟨a, b, rfl, HR.out⟩, H1.out, HO.out⟩
          | false =>
            have HN2 := Lib.hid (show ∀ y, y < b + 1 → P a y = false from fun y hy => by
              rcases Nat.lt_or_ge y b with e | e
              · exact HNO2.out y e
              · obtain rfl : y = b := by omega
                exact hp)
            rw [hp] at HPz
            clear hp
            go_wp2_with (first
              | (go_at_call 52; (with_reducible refine HPz.out.mono ?_); rintro e w1 ⟨rfl, hm, ho⟩; have H1 := Lib.hid hm; have HO := Lib.hid (HON2.out.trans ho); clear hm ho)
              | go_in)
            go_roundw
            case rel => exact ⟨b + 1, by go_num, hlt2, HN2, H1, HO⟩
            case measure => simp [intOf]; omega
        · obtain rfl : n = b := by omega
          have HN2 := Lib.hid (show ∀ x y, x < a + 1 → y < n → P x y = false from fun x y hx hy => by
            rcases Nat.lt_or_ge x a with e | e
            · exact HNO.out x y e hy
            · obtain rfl : x = a := by omega
              exact HNO2.out y hy)
          go_wp2
          go_roundw
          case rel => exact ⟨a + 1, by go_num, hlt, HN2, HL2, HON2⟩
          case measure => simp [intOf]; omega
    · obtain rfl : n = a := by omega
      go_wp2
      go_ret3
      exact ⟨.inr ⟨rfl, HNO.out⟩, HL.out, HON.out⟩
end Go.Proofs.Ytnhdpegjkkaabaa
