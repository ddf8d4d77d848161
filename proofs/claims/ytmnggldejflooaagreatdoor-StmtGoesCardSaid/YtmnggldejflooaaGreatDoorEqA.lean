import Derived.Test.YtmnggldejflooaaGreatDoorSq
import Derived.Test.YtmnggldejflooaaGreatDoorMEi
import Derived.Test.YtmnggldejflooaaGreatDoorMLl
import Derived.Test.YtmnggldejflooaaGreatDoorLxQ
set_option maxHeartbeats 1600000
namespace Go.Proofs.YtmnggldejflooaaGreatDoor
set_option linter.unusedVariables false
set_option linter.unusedSimpArgs false
open Go.RowKit
structure Ry where
 T : ByteArray
 A : Option Addr
 c : Nat
 L : List Tk
abbrev Ry.R (X : Ry) : Rw := rowT X.T X.L
abbrev Ry.val (X : Ry) : Value := .agg #[.string X.T, .slice X.A X.L.length X.c]
def Ry.In (X : Ry) (w : World) (U : Nat) : Prop := ShT w U X.A X.L.length X.L ∧ TokOk X.T X.L
theorem Ry.In.up {X : Ry} {w w' : World} {U V : Nat} (h : X.In w U) (hb : Below V w w') (hV : U ≤ V) : X.In w' U := ⟨h.1.up hb hV, h.2⟩
theorem Ry.In.more {X : Ry} {w : World} {U V : Nat} (h : X.In w U) (hV : U ≤ V) : X.In w V := ⟨h.1.more hV, h.2⟩
theorem Ry.at_ (X : Ry) {w : World} {U i : Nat} (h : X.In w U) (hi : i < X.L.length) : ∃ (b off x y : Nat), X.A = some ⟨b, off, none⟩ ∧ b < U ∧ X.R.ps i = (x : Int) ∧ x ≤ y ∧ y ≤ X.T.size ∧ X.T.extract x y = X.R.wd i ∧
  w.cell? ⟨b, off + i * 3, none⟩ = some (.int .i64 (X.R.kd i)) ∧ w.cell? ⟨b, off + i * 3 + 1, none⟩ = some (.int .i64 (x : Int)) ∧ w.cell? ⟨b, off + i * 3 + 2, none⟩ = some (.int .i64 (y : Int)) := by
 obtain ⟨b, off, t, hA, hb, ht, c0, c1, c2⟩ := h.1.at hi
 obtain ⟨h0, h1, h2⟩ := h.2.tok t (List.mem_of_getElem? ht)
 have e1 : ((t.2.1.toNat : Nat) : Int) = t.2.1 := by omega
 have e2 : ((t.2.2.toNat : Nat) : Int) = t.2.2 := by omega
 refine ⟨b, off, t.2.1.toNat, t.2.2.toNat, hA, hb, ?_, by omega, by omega, ?_, ?_, ?_, ?_⟩
 ·simp only [Ry.R, rowT, ht]
  exact e1.symm
 ·show _ = wdT X.T X.L i
  simp only [wdT, ht]
 ·rw [c0]
  simp only [Ry.R, rowT, ht]
 ·rw [c1, e1]
 ·rw [c2, e2]
theorem row_size (w : World) (v : Array Value) (t : TypeId) : (w.alloc (.cells v t)).heap.size = w.heap.size + 1 := by simp
set_option maxRecDepth 10000 in
theorem rAt_any (X : Ry) (i : Nat) (w : World) (h : X.In w w.heap.size) (hi : i ≤ 10000000) :
  CP 14 #[X.val, .int .i64 (i : Int)] w fun e w' => e = .returned (.string (X.R.wd i)) ∧ Below w.heap.size w w' := by
 have hln := h.2.len
 have hsz := h.2.sz
 by_cases hlt : i < X.L.length
 ·obtain ⟨b, off, x, y, hA, hbU, _, hxy, hy, hwd, c0, c1, c2⟩ := X.at_ h hlt
  obtain ⟨n, hn⟩ : ∃ n, X.L.length = n := ⟨_, rfl⟩
  have hv : X.val = .agg #[.string X.T, .slice (some ⟨b, off, none⟩) n X.c] := by unfold Ry.val; rw [hA, hn]
  rw [hv]
  rw [hn] at hlt hln
  have HWD := Lh hwd
  obtain ⟨T, hT⟩ : ∃ T, X.T = T := ⟨_, rfl⟩
  rw [hT] at hy HWD hsz ⊢
  obtain ⟨s, hs⟩ : ∃ s, X.R.wd i = s := ⟨_, rfl⟩
  rw [hs] at HWD ⊢
  obtain ⟨c, hc⟩ : ∃ c, X.c = c := ⟨_, rfl⟩
  rw [hc]
  clear h hA hn hv hT hs hc hwd c0
  go_enter Tryz.func14, Tryz.ntmps14
  go_wp2_with fail
  obtain ⟨w3, hw3⟩ : ∃ w3, w3 = w.alloc (.cells #[.string T, .slice (some ⟨b, off, none⟩) n c] 26) := ⟨_, rfl⟩
  rw [← hw3]
  have k0 : w3.cell? ⟨w.heap.size, 0, none⟩ = some (.string T) := by rw [hw3, World.cell?_alloc_at _ _ _ _ rfl]; rfl
  have k1 : w3.cell? ⟨w.heap.size, 1, none⟩ = some (.slice (some ⟨b, off, none⟩) n c) := by rw [hw3, World.cell?_alloc_at _ _ _ _ rfl]; rfl
  have k2 : w3.cell? ⟨b, off + i * 3 + 1, none⟩ = some (.int .i64 (x : Int)) := by rw [hw3, World.cell?_alloc_past _ _ _ (by show b < _; omega)]; exact c1
  have k3 : w3.cell? ⟨b, off + i * 3 + 2, none⟩ = some (.int .i64 (y : Int)) := by rw [hw3, World.cell?_alloc_past _ _ _ (by show b < _; omega)]; exact c2
  have HB3 : Hid (Below w.heap.size w w3) := Lh (by rw [hw3]; exact (Below.refl _ w).alloc nLe _)
  clear hw3 c1 c2
  go_quiet (fail)
  go_wp2
  go_ret
  exact ⟨by show Ending.returned (.string (T.extract x y)) = _; rw [HWD.out], HB3.out.trans (Quiet.below ⟨_, rfl⟩ _)⟩
 ·have hwd : X.R.wd i = ⟨#[]⟩ := (row_ok X.T X.L).end_is i (by show X.L.length ≤ i; omega)
  rw [hwd]
  obtain ⟨n, hn⟩ : ∃ n, X.L.length = n := ⟨_, rfl⟩
  have hge : (n : Int) ≤ (i : Int) := by omega
  unfold Ry.val
  rw [hn]
  clear h hwd hn
  go_enter Tryz.func14, Tryz.ntmps14
  go_wp2
  go_ret
  exact ⟨rfl, (Below.refl _ w).alloc nLe _⟩
set_option maxRecDepth 10000 in
theorem rPos_any (X : Ry) (i : Nat) (w : World) (h : X.In w w.heap.size) (hi : i ≤ 10000000) :
  CP 23 #[X.val, .int .i64 (i : Int)] w fun e w' => e = .returned (.int .i64 (X.R.ps i)) ∧ Below w.heap.size w w' := by
 have hln := h.2.len
 have hsz := h.2.sz
 by_cases hlt : i < X.L.length
 ·obtain ⟨b, off, x, y, hA, hbU, hps, hxy, hy, _, c0, c1, c2⟩ := X.at_ h hlt
  obtain ⟨n, hn⟩ : ∃ n, X.L.length = n := ⟨_, rfl⟩
  have hv : X.val = .agg #[.string X.T, .slice (some ⟨b, off, none⟩) n X.c] := by unfold Ry.val; rw [hA, hn]
  rw [hv, hps]
  rw [hn] at hlt hln
  have k2 : (w.alloc (.cells #[.string X.T, .slice (some ⟨b, off, none⟩) n X.c] 26)).cell? ⟨b, off + i * 3 + 1, none⟩ = some (.int .i64 (x : Int)) := by rw [World.cell?_alloc_past _ _ _ (by show b < _; omega)]; exact c1
  obtain ⟨T, hT⟩ : ∃ T, X.T = T := ⟨_, rfl⟩
  rw [hT] at k2 ⊢
  obtain ⟨c, hc⟩ : ∃ c, X.c = c := ⟨_, rfl⟩
  rw [hc] at k2 ⊢
  clear h hA hn hv hT hc c0 c1 c2 hps
  go_enter Tryz.func23, Tryz.ntmps23
  go_wp2
  go_ret
  exact ⟨rfl, (Below.refl _ w).alloc nLe _⟩
 ·have hps : X.R.ps i = (X.T.size : Int) := by
   simp only [Ry.R, rowT, List.getElem?_eq_none (show X.L.length ≤ i by omega)]
  rw [hps]
  obtain ⟨n, hn⟩ : ∃ n, X.L.length = n := ⟨_, rfl⟩
  have hge : (n : Int) ≤ (i : Int) := by omega
  unfold Ry.val
  rw [hn]
  clear h hps hn
  go_enter Tryz.func23, Tryz.ntmps23
  go_wp2
  go_ret
  exact ⟨rfl, (Below.refl _ w).alloc nLe _⟩
set_option maxRecDepth 10000 in
theorem rNum_any (X : Ry) (i : Nat) (w : World) (h : X.In w w.heap.size) (hi : i ≤ 10000000) :
  CP 154 #[X.val, .int .i64 (i : Int)] w fun e w' => e = .returned (.bool (X.R.kd i == 3)) ∧ Below w.heap.size w w' := by
 have hln := h.2.len
 have hsz := h.2.sz
 by_cases hlt : i < X.L.length
 ·obtain ⟨b, off, x, y, hA, hbU, hps, hxy, hy, _, c0, c1, c2⟩ := X.at_ h hlt
  obtain ⟨n, hn⟩ : ∃ n, X.L.length = n := ⟨_, rfl⟩
  have hv : X.val = .agg #[.string X.T, .slice (some ⟨b, off, none⟩) n X.c] := by unfold Ry.val; rw [hA, hn]
  rw [hv]
  rw [hn] at hlt hln
  have k2 : (w.alloc (.cells #[.string X.T, .slice (some ⟨b, off, none⟩) n X.c] 26)).cell? ⟨b, off + i * 3, none⟩ = some (.int .i64 (X.R.kd i)) := by rw [World.cell?_alloc_past _ _ _ (by show b < _; omega)]; exact c0
  obtain ⟨kk, hkk⟩ : ∃ kk, X.R.kd i = kk := ⟨_, rfl⟩
  rw [hkk] at k2 ⊢
  obtain ⟨T, hT⟩ : ∃ T, X.T = T := ⟨_, rfl⟩
  rw [hT] at k2 ⊢
  obtain ⟨c, hc⟩ : ∃ c, X.c = c := ⟨_, rfl⟩
  rw [hc] at k2 ⊢
  clear h hA hn hv hT hc c0 c1 c2 hps hkk
  go_enter Tryz.func154, Tryz.ntmps154
  go_wp2
  go_ret
  exact ⟨rfl, (Below.refl _ w).alloc nLe _⟩
 ·have hkd : (X.R.kd i == 3) = false := by
   rw [(row_ok X.T X.L).end_kd i (by show X.L.length ≤ i; omega)]; rfl
  rw [hkd]
  obtain ⟨n, hn⟩ : ∃ n, X.L.length = n := ⟨_, rfl⟩
  have hge : ¬ (i : Int) < (n : Int) := by omega
  unfold Ry.val
  rw [hn]
  clear h hkd hn
  go_enter Tryz.func154, Tryz.ntmps154
  go_wp2
  go_ret
  exact ⟨rfl, (Below.refl _ w).alloc nLe _⟩
abbrev gV (e : Ex) (lv : Value) (p r : Int) : Value := .agg #[.int .i64 e.k, .int .i64 e.a, .int .i64 e.m, .string e.nm, .string e.lb, lv, .int .i64 p, .int .i64 r]
def gC (e : Ex) (lv : Value) (p r : Int) : List Value := exC e lv ++ [.int .i64 p, .int .i64 r]
theorem zeroGot (w : World) : (zeroValue 99).run Tryz.prog w = .ok (.agg #[.int .i64 0, .int .i64 0, .int .i64 0, .string ⟨#[]⟩, .string ⟨#[]⟩, .slice none 0 0, .int .i64 0, .int .i64 0]) w := by kernel_rfl
theorem info_got : (Tryz.prog.info? 99).map (·.size) = some 8 := by kernel_rfl
structure Gar (w : World) (G : Nat) (x : Ex) (lv : Value) (p r : Int) : Prop where
 cs : w.rangeAt G 0 (gC x lv p r)
 fz : ∀ j, j < 8 → w.frozen? ⟨G, j, none⟩ = false
 lt : G < w.heap.size
section
variable {w w' : World} {G : Nat} {x : Ex} {lv : Value} {p r : Int}
theorem gC_len : (gC x lv p r).length = 8 := rfl
theorem Gar.there (h : Gar w G x lv p r) : w.there G 0 8 := fun j hj => by
 refine ⟨?_, by rw [Nat.zero_add]; exact h.fz j hj⟩
 obtain ⟨v, hv⟩ : ∃ v, (gC x lv p r)[j]? = some v := ⟨_, List.getElem?_eq_getElem (by rw [gC_len]; exact hj)⟩
 rw [h.cs j v hv]
 rfl
theorem Gar.keep (h : Gar w G x lv p r) (hk : w'.heap[G]? = w.heap[G]?) (hs : w.heap.size ≤ w'.heap.size) : Gar w' G x lv p r :=
 ⟨fun j v hv => (World.cell?_of_block (a := ⟨G, _, none⟩) hk).trans (h.cs j v hv), fun j hj => (World.frozen?_of_block (a := ⟨G, j, none⟩) hk).trans (h.fz j hj), Nat.lt_of_lt_of_le h.lt hs⟩
theorem Gar.grown {q : Option Nat} (h : Gar w G x lv p r) (hg : w.grownBy w' q) (hr : some G ≠ q) : Gar w' G x lv p r := h.keep (hg.block G h.lt hr) hg.size
theorem Gar.below {B : Nat} (h : Gar w G x lv p r) (hg : Below B w w') (hr : G < B) : Gar w' G x lv p r := h.keep (hg.block G hr) hg.size
theorem Gar.new (w : World) (x : Ex) (lv : Value) (p r : Int) (t : TypeId) {C : Array Value} (hC : C = (gC x lv p r).toArray) : Gar (w.alloc (.cells C t)) w.heap.size x lv p r := by
 subst hC
 refine ⟨fun j v hv => by rw [Nat.zero_add, World.cell?_alloc_at _ _ _ _ rfl]; simpa using hv, fun j hj => World.frozen?_alloc_new w _ _ j, by simp⟩
theorem gC_one (h : lv.oneCell' = true) : ∀ u ∈ gC x lv p r, u.oneCell' = true := by
 intro u hu
 rcases List.mem_append.1 hu with hu | hu
 ·exact exC_one x h u hu
 ·simp at hu
  rcases hu with rfl | rfl <;> rfl
end
section
variable {ops : Array Oper} {rest : List Oper} {o : Oper} {a : Act} {w : World} {Q : Exit → Act → World → Prop}
theorem wpList_stg (hgd : o.guard = none) (x y : Operand) (ho : o.op = .store 99 x y) (G : Nat) (hx : a.eval x = .pointer (some ⟨G, 0, none⟩)) {z e : Ex} {zv lv : Value} {zp zr p r : Int} (hs : Gar w G z zv zp zr) (hy : a.eval y = gV e lv p r) (h1 : lv.oneCell' = true)
  (h : ∀ w', w.grownBy w' (some G) → Gar w' G e lv p r → wpList Tryz.prog ops Q rest (a.put o.dst undef) w') : wpList Tryz.prog ops Q (o :: rest) a w := by
 refine wpList_store_mid hgd 99 x y ho G 0 (gC e lv p r).toArray hx hy hs.there info_got (all_oneCell_toArray (gC_one h1)) ?_
 refine h _ ?_ ⟨World.rangeAt_setCells_same w G 0 _ hs.there, fun j hj => by rw [World.frozen?_setCells]; exact hs.fz j hj, ?_⟩
 ·have : ∀ (vs : List Value) (o : Nat) (w : World), w.grownBy (w.setCells G o vs) (some G) := by
   intro vs
   induction vs with
   | nil => intro o w; exact World.grownBy.refl _ _
   | cons v r ih =>
    intro o w
    have h1 : w.grownBy (w.setCell ⟨G, o, none⟩ v) (some G) := ⟨rfl, rfl, rfl, by simp, fun k hk hne => heap_setCell_other _ _ _ _ (fun e => hne (by rw [e]))⟩
    exact h1.trans (ih (o + 1) _)
  exact this _ _ _
 ·have : ∀ (vs : List Value) (o : Nat) (w : World), (w.setCells G o vs).heap.size = w.heap.size := by
   intro vs
   induction vs with
   | nil => intro o w; rfl
   | cons v r ih => intro o w; exact (ih (o + 1) _).trans (by simp)
  rw [this]; exact hs.lt
theorem wpList_ldg (hgd : o.guard = none) (x : Operand) (ho : o.op = .load 99 x) (G : Nat) (hx : a.eval x = .pointer (some ⟨G, 0, none⟩)) {e : Ex} {lv : Value} {p r : Int} (hs : Gar w G e lv p r)
  (h : wpList Tryz.prog ops Q rest (a.put o.dst (gV e lv p r)) w) : wpList Tryz.prog ops Q (o :: rest) a w :=
 wpList_load_mid hgd 99 x ho G 0 hx (gC e lv p r) _ hs.cs Tryz.underlying99 rfl info_got h
end
theorem ld_g {w : World} {G : Nat} {e : Ex} {lv : Value} {p r : Int} (hs : Gar w G e lv p r) : (loadVar 99 ⟨G, 0, none⟩).run Tryz.prog w = .ok (gV e lv p r) w :=
 run_loadVar_mid w G 0 99 (gC e lv p r) _ hs.cs Tryz.underlying99 rfl info_got
theorem g_ret {F : Func} {i : Nat} (hr : F.results = #[.cell i 99]) {a : Act} {W : World} {G : Nat} {x : Ex} {lv : Value} {p r : Int} {Q : Ending → World → Prop} (hp : a.tmps.getD i undef = .pointer (some ⟨G, 0, none⟩)) (hd : a.defers = []) (hs : Gar W G x lv p r)
  (hQ : Q (.returned (gV x lv p r)) W) : bodyPost Tryz.prog F Q Exit.ret a W := by
 have hl := ld_g hs
 have hp' : a.tmps[i]?.getD undef = .pointer (some ⟨G, 0, none⟩) := by simpa using hp
 exact bodyPost_ret (v := gV x lv p r) (by simp [results, hr, hp', asAddr, hl]) hd hQ
theorem gar_entry (w : World) : Gar (w.alloc (.cells z8 99)) w.heap.size Ex.nul (.slice none 0 0) 0 0 := Gar.new w Ex.nul (.slice none 0 0) 0 0 99 rfl
set_option maxRecDepth 10000 in
theorem rSign_any (X : Ry) (i l : Nat) (w : World) (h : X.In w w.heap.size) (hi : i ≤ 10000000) (hl : 1 ≤ l) (hl5 : l ≤ 5) :
  CP 94 #[X.val, .int .i64 (i : Int), .int .i64 (l : Int)] w fun e w' => e = .returned (.bool (sgnL l (X.R.wd i))) ∧ Below w.heap.size w w' := by
 have HA : Hid (∀ W, Below w.heap.size w W → CP 14 #[X.val, .int .i64 (i : Int)] W fun e w' => e = .returned (.string (X.R.wd i)) ∧ Below W.heap.size W w') := Lh fun W hW => rAt_any X i W ((h.up hW nLe).more hW.size) hi
 have HB := Lh ((Below.refl w.heap.size w).alloc nLe (.cells #[.string X.T, .slice X.A X.L.length X.c] 26))
 clear h
 obtain ⟨s, hs⟩ : ∃ s, X.R.wd i = s := ⟨_, rfl⟩
 rw [hs] at HA ⊢
 clear hs
 unfold Ry.val at HA ⊢
 unfold sgnL
 obtain ⟨T, hT⟩ : ∃ T, X.T = T := ⟨_, rfl⟩
 obtain ⟨A, hA⟩ : ∃ A, X.A = A := ⟨_, rfl⟩
 obtain ⟨n, hn⟩ : ∃ n, X.L.length = n := ⟨_, rfl⟩
 obtain ⟨c, hc⟩ : ∃ c, X.c = c := ⟨_, rfl⟩
 rw [hT, hA, hn, hc] at HA HB ⊢
 clear hT hA hn hc
 obtain rfl | rfl | rfl | rfl | rfl : l = 1 ∨ l = 2 ∨ l = 3 ∨ l = 4 ∨ l = 5 := by omega
 all_goals
  go_enter Tryz.func94, Tryz.ntmps94
  go_wp2_with (first
   | (go_at_call 14; refine (HA.out _ HB.out).mono ?_; rintro e wt ⟨rfl, b⟩; have HB' := Lh (bTr HB b); clear b; dsimp only)
   | fail)
  all_goals
   go_ret
   refine ⟨?_, HB'.out⟩
   simp
theorem zeroRow (w : World) : (zeroValue 26).run Tryz.prog w = .ok (.agg #[.string ⟨#[]⟩, .slice none 0 0]) w := by kernel_rfl
def RNewTo (T : ByteArray) (bs : List Int) (w : World) (e : Ending) (w' : World) : Prop :=
 ∃ X : Ry, e = .returned X.val ∧ X.T = T ∧ X.L = live bs 0 ∧ X.In w' w'.heap.size ∧ Below w.heap.size w w'
set_option maxRecDepth 10000 in
theorem rNew_any (T : ByteArray) (bs : List Int) (w : World) (hb : bts T = bs) (hm : T.size ≤ 1000000) :
  CP 10 #[.string T] w (RNewTo T bs w) := by
 have hz := zeroRow
 have hl : bs.length = T.size := by rw [← hb, bts_len]
 have htl := toks_len bs bs.length 0 (by omega)
 have hok := live_ok hb (by omega)
 have HA : Hid (∀ W, CP 42 #[.string T] W (ToksTo (toks bs 0) W)) := Lh fun W => refAll_any T bs W hb hm
 have HLV : Hid (∀ W A n c, ShT W W.heap.size A n (toks bs 0) → CP 41 #[.slice A n c] W (ToksTo (live bs 0) W)) := Lh fun W A n c h => rlive_any A n c (toks bs 0) W h (by have := h.1; omega)
 have HOK := Lh hok
 have HB := Lh (((Below.refl w.heap.size w).alloc nLe (.cells #[.string ⟨#[]⟩, .slice none 0 0] 26)))
 have HC : Hid (∀ W, Below (w.heap.size + 1) (w.alloc (.cells #[.string ⟨#[]⟩, .slice none 0 0] 26)) W → W.cell? ⟨w.heap.size, 0, none⟩ = some (.string ⟨#[]⟩) ∧ W.cell? ⟨w.heap.size, 1, none⟩ = some (.slice none 0 0) ∧ W.frozen? ⟨w.heap.size, 0, none⟩ = false ∧ W.frozen? ⟨w.heap.size, 1, none⟩ = false) := Lh fun W hW => by
  have hk := hW.block w.heap.size (by omega)
  refine ⟨(World.cell?_of_block (a := ⟨w.heap.size, 0, none⟩) hk).trans ?_, (World.cell?_of_block (a := ⟨w.heap.size, 1, none⟩) hk).trans ?_, (World.frozen?_of_block (a := ⟨w.heap.size, 0, none⟩) hk).trans (World.frozen?_alloc_new _ _ _ _), (World.frozen?_of_block (a := ⟨w.heap.size, 1, none⟩) hk).trans (World.frozen?_alloc_new _ _ _ _)⟩
  ·rw [World.cell?_alloc_at _ _ _ _ rfl]; rfl
  ·rw [World.cell?_alloc_at _ _ _ _ rfl]; rfl
 clear hb hok hl
 go_enter Tryz.func10, Tryz.ntmps10
 go_wp2_with (first
  | (go_at_call 42; refine (HA.out _).mono ?_; rintro e w2 ⟨v2, rfl, ho2, b2⟩; obtain ⟨A2, c2, rfl⟩ := ho2.form; have HO2 := Lh ho2; have HB2 := Lh (bTr HB b2); have hs2 := b2.size; simp only [row_size] at hs2 b2; have HD2 := Lh b2; clear b2 ho2)
  | (go_at_call 41; refine (HLV.out _ _ _ _ (HO2.out.tok rfl)).mono ?_; rintro e w3 ⟨v3, rfl, ho3, b3⟩; obtain ⟨A3, c3, rfl⟩ := ho3.form; have HO3 := Lh ho3; have HB3 := Lh (bTr HB2 b3); have hs3 := b3.size; obtain ⟨k0, k1, k2, k3⟩ := HC.out _ (HD2.out.trans (b3.mono hs2)); clear b3 ho3)
  | fail)
 have hr : Tryz.f10.results = #[.cell 2 26] := by kernel_rfl
 obtain ⟨w4, hw4⟩ : ∃ w4, w4 = (w3.setCell ⟨w.heap.size, 0, none⟩ (.string T)).setCell ⟨w.heap.size, 1, none⟩ (.slice A3 (live bs 0).length c3) := ⟨_, rfl⟩
 rw [← hw4]
 have g4 : w3.grownBy w4 (some w.heap.size) := by
  rw [hw4]
  exact (show w3.grownBy (w3.setCell ⟨w.heap.size, 0, none⟩ (.string T)) (some w.heap.size) from ⟨rfl, rfl, rfl, by simp, fun k hk hne => heap_setCell_other _ _ _ _ (fun e => hne (by rw [e]))⟩).trans ⟨rfl, rfl, rfl, by simp, fun k hk hne => heap_setCell_other _ _ _ _ (fun e => hne (by rw [e]))⟩
 have hra : w4.rangeAt w.heap.size 0 [.string T, .slice A3 (live bs 0).length c3] := fun i u hu => by
  match i, hu with
  | 0, hu =>
   rw [hw4, Nat.zero_add, World.cell?_setCell_other _ _ _ _ (fun e => by injection e with _ e1; cases e1), World.cell?_setCell_same _ _ _ k0]
   exact hu
  | 1, hu =>
   have h1 : (w3.setCell ⟨w.heap.size, 0, none⟩ (.string T)).cell? ⟨w.heap.size, 1, none⟩ = some (.slice none 0 0) := by
    rw [World.cell?_setCell_other _ _ _ _ (fun e => by injection e with _ e1; cases e1)]; exact k1
   rw [hw4, Nat.zero_add, World.cell?_setCell_same _ _ _ h1]
   exact hu
  | i + 2, hu => simp at hu
 have hl := run_loadVar_mid (P := Tryz.prog) w4 w.heap.size 0 26 [.string T, .slice A3 (live bs 0).length c3] _ hra Tryz.underlying26 rfl (by kernel_rfl)
 refine bodyPost_ret (v := .agg #[.string T, .slice A3 (live bs 0).length c3]) (by simp [results, hr, asAddr, hl]) rfl ?_
 refine ⟨⟨T, A3, c3, live bs 0⟩, rfl, rfl, rfl, ⟨?_, HOK.out⟩, ?_⟩
 ·exact (HO3.out.gb g4 (by omega)).tok rfl
 ·exact bel_fr HB3.out g4 nLe HB3.out.size
theorem hts_snoc (l : List Ex) (x : Ex) : hts (l ++ [x]) = max (hts l) x.ht := by
 rw [hts_app, hts_cons, hts_nil]
 omega
theorem hts_take {l : List Ex} {i : Nat} {x : Ex} (h : l[i]? = some x) : hts (l.take (i + 1)) = max (hts (l.take i)) x.ht := by
 rw [List.take_add_one, h]
 exact hts_snoc _ _
def RHtC (e : Ex) : Prop := ∀ (lv : Value) (w : World) (S : Nat → Prop), Shx w S lv e.l →
  CP 130 #[exV e lv] w fun r w' => r = .returned (.int .i64 (e.ht : Int)) ∧ Below w.heap.size w w'
set_option maxRecDepth 10000 in
theorem rHeight_any : ∀ e : Ex, e.wfx → e.ht ≤ 1000000 → RHtC e := by
 refine Ex.ind fun k a m nm lb l ih => ?_
 intro hwf hht lv w S hx
 have hwf' := (Ex.wfx_eq _).1 hwf
 have hh : (Ex.mk k a m nm lb l).ht = hts l + 1 := Ex.ht_eq _
 rw [hh] at hht ⊢
 have hle : ∀ x ∈ l, x.ht ≤ hts l := fun x hx => hts_mem hx
 have IH : Hid (∀ x ∈ l, RHtC x) := Lh fun x hx' => ih x hx' (hwf'.2.2 x hx') (by have := hle x hx'; omega)
 have HLE : Hid (∀ i x, l[i]? = some x → (hts (l.take i) ≤ 1000000 ∧ x.ht ≤ 1000000)) := Lh fun i x h => by
  have h1 := hle x (List.mem_of_getElem? h)
  have h2 : ∀ (l : List Ex) i, hts (l.take i) ≤ hts l := by
   intro l
   induction l with
   | nil => intro i; simp
   | cons y l ih =>
    intro i
    cases i with
    | zero => exact Nat.zero_le _
    | succ i => rw [List.take_succ_cons, hts_cons, hts_cons]; have := ih i; omega
  have := h2 l i
  omega
 have hln : l.length ≤ 1000000 := hwf'.2.1
 obtain ⟨A, c, rfl, _⟩ := hx.len
 obtain ⟨n, hn⟩ : ∃ n, l.length = n := ⟨_, rfl⟩
 have hll : (Ex.mk k a m nm lb l).l.length = n := hn
 rw [hll] at hx ⊢
 rw [hn] at hln
 have HN := Lh hn
 obtain ⟨w1, hw1⟩ : ∃ w1, w.alloc (.cells #[.int .i64 k, .int .i64 a, .int .i64 m, .string nm, .string lb, .slice A n c] 46) = w1 := ⟨_, rfl⟩
 have hb1 : Below w.heap.size w w1 := by rw [← hw1]; exact (Below.refl _ w).alloc nLe _
 have hs1 : w1.heap.size = w.heap.size + 1 := by rw [← hw1]; simp
 have hx1 : Shx w1 S (.slice A n c) l := hx.under hb1 (fun b _ hb => hb)
 have hsl : Slot w1 w.heap.size (.mk k a m nm lb l) (.slice A n c) := by rw [← hw1]; exact Slot.new w (.mk k a m nm lb l) (.slice A n c) 46 rfl
 have HX1 := Lh hx1
 have HB1 := Lh hb1
 have HSL := Lh hsl
 have HW1 := Lh hw1
 obtain ⟨hh', hhh⟩ : ∃ h', hts l = h' := ⟨_, rfl⟩
 have HHH := Lh hhh
 rw [hhh] at hht ⊢
 clear ih hwf hwf' hx hx1 hb1 hsl hw1 hn hh hle hhh
 show CP 130 #[.agg #[.int .i64 k, .int .i64 a, .int .i64 m, .string nm, .string lb, .slice A n c]] w _
 go_enter Tryz.func130, Tryz.ntmps130
 go_wp2_with fail
 rw [HW1.out]
 go_loopw [3, 4] (fun hv iv wr => ∃ (i q : Nat), hv = .int .i64 (q : Int) ∧ iv = .int .i64 (i : Int) ∧ i ≤ n ∧ Hid (q = hts (l.take i)) ∧ Below w1.heap.size w1 wr) (fun _ iv _ => n - (intOf iv).toNat)
 case atStart => exact ⟨0, 0, rfl, rfl, Nat.zero_le _, Lh rfl, Below.refl _ _⟩
 case round =>
  obtain ⟨i, q, rfl, rfl, hi, HQ, hb⟩ := hrel
  have HB := Lh hb
  have c5 : wr.cell? ⟨w.heap.size, 5, none⟩ = some (.slice A n c) := (HSL.out.below hb HSL.out.lt).cs 5 _ rfl
  have hszr := hb.size
  clear hb
  by_cases hin : i < n
  ·obtain ⟨b, off, x, lv2, hA, hxi, _, hrange, hys, _, hbl⟩ := (HX1.out.under HB.out (fun b _ hb => hb)).at hin
   subst hA
   have hbd := HLE.out i x hxi
   rw [← HQ.out] at hbd
   have hq1 : IntKind.i64.wrap (max (q : Int) (x.ht : Int)) = max (q : Int) (x.ht : Int) := IntWalk.i64_in _ (by omega)
   have HIH := Lh (IH.out x (List.mem_of_getElem? hxi) lv2)
   have HY := Lh hys
   have HR := Lh hrange
   have HQ2 : Hid (max q x.ht = hts (l.take (i + 1))) := Lh (by rw [hts_take hxi, HQ.out])
   obtain ⟨A3, c3, rfl, _⟩ := hys.len
   clear hys hrange hxi
   go_wp2_with (first
    | (refine wpList_ldx' rfl (.tmp 16) rfl b (off + i * 6) rfl HR.out ?_)
    | (go_at_call 130; refine (HIH.out _ _ HY.out).mono ?_; rintro e w5 ⟨rfl, b5⟩; have HB5 := Lh b5; clear b5; dsimp only)
    | fail)
   refine ⟨⟨i + 1, max q x.ht, by rw [show ((max q x.ht : Nat) : Int) = max (q : Int) (x.ht : Int) by omega], by go_num, hin, HQ2, HB.out.trans (HB5.out.mono hszr)⟩, by simp [intOf]; omega⟩
  ·obtain rfl : i = n := by omega
   have hq : q = hh' := by rw [HQ.out, ← HHH.out, ← HN.out, List.take_length]
   subst hq
   go_wp2
   go_ret
   exact ⟨by simp, HB1.out.trans (HB.out.mono (by omega))⟩
def RgTo (w : World) (G : Gt) (e : Ending) (w' : World) : Prop := ∃ lv, e = .returned (gV G.e lv (G.p : Int) G.r) ∧ Shx w' (fun b => w.heap.size ≤ b) lv G.e.l ∧ Below w.heap.size w w'
set_option maxRecDepth 10000 in
theorem held_high (x : Ex) (lv : Value) (p q : Nat) (w : World) (S : Nat → Prop) (hwf : x.wfx) (hht : x.ht ≤ 1000000) (h : Shx w S lv x.l) (h32 : 32 < x.ht) :
  CP 95 #[exV x lv, .int .i64 (p : Int), .int .i64 (q : Int)] w fun e w' => e = .returned (gV Ex.nul (.slice none 0 0) (q : Int) 12) ∧ Below w.heap.size w w' := by
 have hz := zeroGot
 have hone := h.one
 obtain ⟨A, c, rfl, _⟩ := h.len
 have hb1 : Below w.heap.size w ((w.alloc (.cells #[.int .i64 x.k, .int .i64 x.a, .int .i64 x.m, .string x.nm, .string x.lb, .slice A x.l.length c] 46)).alloc (.cells z8 99)) := ((Below.refl _ w).alloc nLe _).alloc (by simp) _
 have hsl := (Slot.new w x (.slice A x.l.length c) 46 (C := #[.int .i64 x.k, .int .i64 x.a, .int .i64 x.m, .string x.nm, .string x.lb, .slice A x.l.length c]) rfl).below ((Below.refl (w.heap.size + 1) _).alloc (by simp) (.cells z8 99)) (Nat.lt_succ_self _)
 have hga := gar_entry (w.alloc (.cells #[.int .i64 x.k, .int .i64 x.a, .int .i64 x.m, .string x.nm, .string x.lb, .slice A x.l.length c] 46))
 obtain ⟨w1, hw1⟩ : ∃ w1, ((w.alloc (.cells #[.int .i64 x.k, .int .i64 x.a, .int .i64 x.m, .string x.nm, .string x.lb, .slice A x.l.length c] 46)).alloc (.cells z8 99)) = w1 := ⟨_, rfl⟩
 have hs1 : w1.heap.size = w.heap.size + 2 := by rw [← hw1]; simp
 rw [hw1] at hb1 hsl hga
 rw [row_size] at hga
 have HH : Hid (RHtC x) := Lh (rHeight_any x hwf hht)
 have HX := Lh (h.under hb1 (by intro b _ hb; exact hb))
 have HB1 := Lh hb1
 have HSL := Lh hsl
 have HGA := Lh hga
 have HW1 := Lh hw1
 clear h hwf hb1 hsl hga hw1
 have d1 : (32 : Int) < (x.ht : Int) := by omega
 unfold exV
 go_enter Tryz.func95, Tryz.ntmps95
 go_wp2_with (first
  | (refine wpList_ldx' rfl (.tmp 3) rfl w.heap.size 0 rfl HSL.out.cs ?_)
  | (go_at_call 130; rw [HW1.out]; refine (HH.out _ _ _ HX.out).mono ?_; rintro e w2 ⟨rfl, b2⟩; have HB2 := Lh (HB1.out.trans (b2.mono (by omega))); have HSL := Lh (HSL.out.below b2 (by omega)); have HGA := Lh (HGA.out.below b2 (by omega)); have hs2 := b2.size; clear b2; dsimp only)
  | (refine wpList_stg rfl (.tmp 6) (.tmp 11) rfl (w.heap.size + 1) rfl HGA.out (e := Ex.nul) (lv := .slice none 0 0) (p := (q : Int)) (r := 12) rfl rfl ?_; intro w3 hg3 hs3; have HG3 := Lh hs3; have HB3 := Lh (bel_fr HB2.out hg3 (by omega) HB2.out.size); clear hg3 hs3)
  | fail)
 refine g_ret (i := 6) (by kernel_rfl) rfl rfl HG3.out ⟨rfl, HB3.out⟩
set_option maxRecDepth 10000 in
theorem held_good (x : Ex) (lv : Value) (p q : Nat) (w : World) (S : Nat → Prop) (hwf : x.wfx) (hht : x.ht ≤ 1000000) (h : Shx w S lv x.l) (h32 : ¬ 32 < x.ht) :
  CP 95 #[exV x lv, .int .i64 (p : Int), .int .i64 (q : Int)] w fun e w' => e = .returned (gV x lv (p : Int) 0) ∧ Below w.heap.size w w' := by
 have hz := zeroGot
 have hone := h.one
 obtain ⟨A, c, rfl, _⟩ := h.len
 have hb1 : Below w.heap.size w ((w.alloc (.cells #[.int .i64 x.k, .int .i64 x.a, .int .i64 x.m, .string x.nm, .string x.lb, .slice A x.l.length c] 46)).alloc (.cells z8 99)) := ((Below.refl _ w).alloc nLe _).alloc (by simp) _
 have hsl := (Slot.new w x (.slice A x.l.length c) 46 (C := #[.int .i64 x.k, .int .i64 x.a, .int .i64 x.m, .string x.nm, .string x.lb, .slice A x.l.length c]) rfl).below ((Below.refl (w.heap.size + 1) _).alloc (by simp) (.cells z8 99)) (Nat.lt_succ_self _)
 have hga := gar_entry (w.alloc (.cells #[.int .i64 x.k, .int .i64 x.a, .int .i64 x.m, .string x.nm, .string x.lb, .slice A x.l.length c] 46))
 obtain ⟨w1, hw1⟩ : ∃ w1, ((w.alloc (.cells #[.int .i64 x.k, .int .i64 x.a, .int .i64 x.m, .string x.nm, .string x.lb, .slice A x.l.length c] 46)).alloc (.cells z8 99)) = w1 := ⟨_, rfl⟩
 have hs1 : w1.heap.size = w.heap.size + 2 := by rw [← hw1]; simp
 rw [hw1] at hb1 hsl hga
 rw [row_size] at hga
 have HH : Hid (RHtC x) := Lh (rHeight_any x hwf hht)
 have HX := Lh (h.under hb1 (by intro b _ hb; exact hb))
 have HB1 := Lh hb1
 have HSL := Lh hsl
 have HGA := Lh hga
 have HW1 := Lh hw1
 clear h hwf hb1 hsl hga hw1
 have d1 : ¬ (32 : Int) < (x.ht : Int) := by omega
 unfold exV
 go_enter Tryz.func95, Tryz.ntmps95
 go_wp2_with (first
  | (refine wpList_ldx' rfl (.tmp 3) rfl w.heap.size 0 rfl HSL.out.cs ?_)
  | (go_at_call 130; rw [HW1.out]; refine (HH.out _ _ _ HX.out).mono ?_; rintro e w2 ⟨rfl, b2⟩; have HB2 := Lh (HB1.out.trans (b2.mono (by omega))); have HSL := Lh (HSL.out.below b2 (by omega)); have HGA := Lh (HGA.out.below b2 (by omega)); have hs2 := b2.size; clear b2; dsimp only)
  | (refine wpList_stg rfl (.tmp 6) (.tmp 14) rfl (w.heap.size + 1) rfl HGA.out (e := x) (lv := .slice A x.l.length c) (p := (p : Int)) (r := 0) rfl hone ?_; intro w3 hg3 hs3; have HG3 := Lh hs3; have HB3 := Lh (bel_fr HB2.out hg3 (by omega) HB2.out.size); clear hg3 hs3)
  | fail)
 refine g_ret (i := 6) (by kernel_rfl) rfl rfl HG3.out ⟨rfl, HB3.out⟩
end Go.Proofs.YtmnggldejflooaaGreatDoor
