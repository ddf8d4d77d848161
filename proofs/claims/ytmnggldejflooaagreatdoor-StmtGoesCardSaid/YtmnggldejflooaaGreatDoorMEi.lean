import Derived.Test.YtmnggldejflooaaGreatDoorSq
import Derived.Test.YtmnggldejflooaaGreatDoorMEu
import Derived.Test.YtmnggldejflooaaGreatDoorLent
import Derived.Lib.SmallJoins
import Derived.Lib.ConvBytes
import Derived.BigRegion
import Derived.Test.YtmnggldejflooaaGreatDoorMEp
set_option maxHeartbeats 1600000
namespace Go.Proofs.YtmnggldejflooaaGreatDoor
set_option linter.unusedVariables false
set_option linter.unusedSimpArgs false
open Go.RowKit
section
variable {R : Rw} {f l a d p q : Nat} {e : Ex}
theorem up_good (h : rd R f (.lev (l + 1)) a d = good e p) (hl : l < 6) (hs : sgnL l (R.wd p) = false) (hf : 1 ≤ f) : rd R (f + 1) (.lev l) a d = good e p := by
 obtain ⟨k, rfl⟩ : ∃ k, f = k + 1 := ⟨f - 1, by omega⟩
 rw [rd_lev (by omega), h, if_pos (show (good e p).r = 0 from rfl)]
 exact rd_loop_no hs
theorem up_bad {r : Int} (h : rd R f (.lev (l + 1)) a d = bad p r) (hl : l < 6) (hr : r ≠ 0) : rd R (f + 1) (.lev l) a d = bad p r := by
 rw [rd_lev (by omega), h, if_neg (show ¬ (bad p r).r = 0 from hr)]
 rfl
end
theorem low_pr {R : Rw} {f a d : Nat} (hs : (R.is a [33] || R.is a [45]) = false) : rd R (f + 2) (.lev 6) a d = rd R f .pr a d := by
 rw [rd_lev6 nLe, rd_sg_no hs]
def exT : List Int := [49, 43, 50, 42, 120]
def exF : List Int := [102, 40]
abbrev RT : Rw := rowT (strOfNums exT) [(3, 0, 1), (4, 1, 2), (3, 2, 3), (4, 3, 4), (2, 4, 5)]
abbrev RF : Rw := rowT (strOfNums exF) [(2, 0, 1), (4, 1, 2)]
theorem t4 : RT.wd 4 = ⟨#[120]⟩ := by rfl
theorem t5 : RT.wd 5 = ⟨#[]⟩ := by rfl
theorem f0 : RF.wd 0 = ⟨#[102]⟩ := by rfl
theorem f1 : RF.wd 1 = ⟨#[40]⟩ := by rfl
theorem f2 : RF.wd 2 = ⟨#[]⟩ := by rfl
theorem isT (R : Rw) (i : Nat) (a : List UInt8) (l : List UInt8) {s : ByteArray} (h : R.wd i = s) (hs : s.data.toList = a) : R.is i l = (a == l) := by unfold Rw.is; rw [h, ByteArray.toList_eq, hs]
theorem idb_x : idB ⟨#[120]⟩ = true := by
 simp [idB, kwB, kws, ByteArray.toList_eq, identL, bts, kd]
 decide
theorem idb_f : idB ⟨#[102]⟩ = true := by
 simp [idB, kwB, kws, ByteArray.toList_eq, identL, bts, kd]
 decide
theorem idb_e : idB ⟨#[]⟩ = false := by simp [idB, identL, bts]
theorem sgn_no {l : Nat} {s : ByteArray} (h : ∀ x ∈ [[124, 124], [38, 38], [61, 61], [60], [43], [45], [(42 : UInt8)]], (s.toList == x) = false) : sgnL l s = false := by
 simp at h
 unfold sgnL
 simp [h]
theorem name_T4 : RT.name 4 = (true, ⟨#[120]⟩, 5) := by
 have h : RT.idn 4 = true := by show idB (RT.wd 4) = true; rw [t4]; exact idb_x
 have h5 : RT.is 5 [46] = false := by rw [isT RT 5 [] _ t5 rfl]; decide
 unfold Rw.name
 rw [if_neg (by rw [h]; decide), if_neg (by rw [h5]; decide), t4]
theorem T4 (f : Nat) : rd RT (f + 4) (.lev 6) 4 0 = good (eName 4 ⟨#[120]⟩) 5 := by
 have hi : ∀ l, RT.is 4 l = ([120] == l) := fun l => isT RT 4 [120] l t4 rfl
 have hi5 : RT.is 5 [40] = false := by rw [isT RT 5 [] _ t5 rfl]; decide
 rw [low_pr (by rw [hi, hi]; decide), rd_pr_named (by decide) (by rw [hi]; decide) (by rw [hi]; decide) (by rw [hi]; decide) (by rw [hi]; decide), rd_nm name_T4 rfl, if_pos rfl, if_neg (by show ¬ RT.is 5 [40] = true; rw [hi5]; decide)]
 rfl
theorem nameF2 : RF.name 2 = (false, ⟨#[]⟩, 2) := by
 have h : RF.idn 2 = false := by show idB (RF.wd 2) = false; rw [f2]; exact idb_e
 unfold Rw.name
 rw [if_pos h]
theorem nameF0 : RF.name 0 = (true, ⟨#[102]⟩, 1) := by
 have h : RF.idn 0 = true := by show idB (RF.wd 0) = true; rw [f0]; exact idb_f
 have h5 : RF.is 1 [46] = false := by rw [isT RF 1 [40] _ f1 rfl]; decide
 unfold Rw.name
 rw [if_neg (by rw [h]; decide), if_neg (by rw [h5]; decide), f0]
theorem F2 (f : Nat) : rd RF (f + 9) (.lev 1) 2 1 = bad 2 11 := by
 have hi : ∀ l, RF.is 2 l = ([] == l) := fun l => isT RF 2 [] l f2 rfl
 have h6 : rd RF (f + 4) (.lev 6) 2 1 = bad 2 11 := by
  rw [low_pr (by rw [hi, hi]; decide), rd_pr_named (by decide) (by rw [hi]; decide) (by rw [hi]; decide) (by rw [hi]; decide) (by rw [hi]; decide), rd_nm nameF2 rfl, if_neg (by decide)]
 exact up_bad (up_bad (up_bad (up_bad (up_bad h6 (by omega) (by decide)) (by omega) (by decide)) (by omega) (by decide)) (by omega) (by decide)) (by omega) (by decide)
theorem F0 (f : Nat) : rd RF (f + 20) (.lev 1) 0 0 = bad 2 11 := by
 have hi : ∀ l, RF.is 0 l = ([102] == l) := fun l => isT RF 0 [102] l f0 rfl
 have hi1 : RF.is 1 [40] = true := by rw [isT RF 1 [40] _ f1 rfl]; decide
 have hi2 : RF.is 2 [41] = false := by rw [isT RF 2 [] _ f2 rfl]; decide
 have har : rd RF (f + 11) .ar 1 0 = bad 2 11 := by
  rw [rd_ar_yes (by decide) hi2, rd_an (F2 f), if_neg (by decide)]
  rfl
 have h6 : rd RF (f + 15) (.lev 6) 0 0 = bad 2 11 := by
  rw [low_pr (f := f + 13) (by rw [hi, hi]; decide), rd_pr_named (by decide) (by rw [hi]; decide) (by rw [hi]; decide) (by rw [hi]; decide) (by rw [hi]; decide), rd_nm nameF0 har, if_pos rfl, if_pos hi1, if_neg (by decide)]
  rfl
 exact up_bad (up_bad (up_bad (up_bad (up_bad h6 (by omega) (by decide)) (by omega) (by decide)) (by omega) (by decide)) (by omega) (by decide)) (by omega) (by decide)
theorem cell_mark6 (w : World) (C : Array Value) (t : TypeId) (fr : Nat × Nat) (g j : Nat) (hg : g = w.heap.size) : (w.alloc (.cells C t fr)).cell? ⟨g, j, none⟩ = C[j]? := by
 subst hg
 exact World.cell?_alloc_mark w C t fr j
theorem Sh.mark6 (w : World) (xs : List Value) (e : TypeId) (fr : Nat × Nat) : Sh (w.alloc (.cells xs.toArray e fr)) (w.heap.size + 1) (some ⟨w.heap.size, 0, none⟩) xs.length xs :=
 ⟨rfl, fun _ => ⟨w.heap.size, 0, rfl, by omega, fun k u hu => by
  rw [Nat.zero_add, cell_mark6 _ _ _ _ _ _ rfl]
  simpa using hu⟩⟩
theorem convC {w : World} {B : Nat} (xs : List Int) (n : Nat) (hn : xs.length = n) (hB : B ≤ w.heap.size) : ∃ wl, (convert 22 22 (.slice (some ⟨w.heap.size, 0, none⟩) n n)).run Tryz.prog (w.alloc (.cells (by8 xs).toArray 5)) = .ok (.slice (some ⟨w.heap.size, 0, none⟩) n n) wl ∧
  Sh wl wl.heap.size (some ⟨w.heap.size, 0, none⟩) n (by8 xs) ∧ Below B w wl := by
 refine ⟨w.alloc (.cells (by8 xs).toArray 5 (n, n + 1)), ?_, ?_, bRf.alloc hB _⟩
 ·have h := Joins.run_convert_bytes_const_at (P := Tryz.prog) w 22 5 (by8 xs).toArray n n w.heap.size rfl Tryz.underlying22 (by kernel_rfl)
  have hsz : (by8 xs).toArray.size = n := by simp [by8, hn]
  rw [hsz] at h
  exact h
 ·have := Sh.mark6 w (by8 xs) 5 (n, n + 1)
  rw [by8_len, hn] at this
  exact this.more (by simp)
end Go.Proofs.YtmnggldejflooaaGreatDoor
namespace Go.Proofs.YtmnggldejflooaaGreatDoor
set_option linter.unusedVariables false
set_option linter.unusedSimpArgs false
end Go.Proofs.YtmnggldejflooaaGreatDoor
namespace Go.Proofs.YtmnggldejflooaaGreatDoor
set_option linter.unusedVariables false
set_option linter.unusedSimpArgs false
open Go.RowKit
def SameC (e : Ex) : Prop := ∀ (lv kv : Value) (w : World) (S K : Nat → Prop), Shx w S lv e.l → Shx w K kv e.l →
  CP 54 #[exV e lv, exV e kv] w fun r w' => r = .returned (.bool true) ∧ Below w.heap.size w w'
set_option maxRecDepth 10000 in
theorem sameAll_any (l : List Ex) (hl : l.length ≤ 1000000) (IHl : ∀ x ∈ l, SameC x) (lv kv : Value) (w : World) (S K : Nat → Prop) (h : Shx w S lv l) (k : Shx w K kv l) :
  CP 96 #[lv, kv] w fun r w' => r = .returned (.bool true) ∧ Below w.heap.size w w' := by
 have IH := Lh IHl
 obtain ⟨A, c, rfl, _⟩ := h.len
 obtain ⟨A', c', rfl, _⟩ := k.len
 obtain ⟨n, hn⟩ : ∃ n, l.length = n := ⟨_, rfl⟩
 rw [hn] at h k hl ⊢
 have HX := Lh h
 have HK := Lh k
 clear h k hn IHl
 go_enter Tryz.func96, Tryz.ntmps96
 go_wp2
 go_loopw [5] (fun iv wr => ∃ i : Nat, iv = .int .i64 (i : Int) ∧ i ≤ n ∧ Below w.heap.size w wr) (fun iv _ => n - (intOf iv).toNat)
 case atStart => exact ⟨0, rfl, Nat.zero_le _, Below.refl _ _⟩
 case round =>
  obtain ⟨i, rfl, hi, hb⟩ := hrel
  have HB := Lh hb
  clear hb
  by_cases hin : i < n
  ·obtain ⟨b, off, x, lv2, hA, hxi, _, hrange, hys, _, hbl⟩ := (HX.out.under HB.out (fun b _ hb => hb)).at hin
   obtain ⟨b', off', x', kv2, hA', hxi', _, hrange', hys', _, hbl'⟩ := (HK.out.under HB.out (fun b _ hb => hb)).at hin
   obtain rfl : x = x' := by rw [hxi] at hxi'; exact Option.some.inj hxi'
   subst hA; subst hA'
   have HIH := Lh (IH.out x (List.mem_of_getElem? hxi) lv2 kv2)
   have HY := Lh hys
   have HY' := Lh hys'
   obtain ⟨A3, c3, rfl, _⟩ := hys.len
   obtain ⟨A4, c4, rfl, _⟩ := hys'.len
   have KS : Hid (∀ W, Below wr.heap.size wr W → W.cell? ⟨b, off + i * 6, none⟩ = some (.int .i64 x.k) ∧ W.cell? ⟨b, off + i * 6 + 1, none⟩ = some (.int .i64 x.a) ∧ W.cell? ⟨b, off + i * 6 + 2, none⟩ = some (.int .i64 x.m) ∧ W.cell? ⟨b, off + i * 6 + 3, none⟩ = some (.string x.nm) ∧ W.cell? ⟨b, off + i * 6 + 4, none⟩ = some (.string x.lb) ∧ W.cell? ⟨b, off + i * 6 + 5, none⟩ = some (.slice A3 x.l.length c3) ∧
     W.cell? ⟨b', off' + i * 6, none⟩ = some (.int .i64 x.k) ∧ W.cell? ⟨b', off' + i * 6 + 1, none⟩ = some (.int .i64 x.a) ∧ W.cell? ⟨b', off' + i * 6 + 2, none⟩ = some (.int .i64 x.m) ∧ W.cell? ⟨b', off' + i * 6 + 3, none⟩ = some (.string x.nm) ∧ W.cell? ⟨b', off' + i * 6 + 4, none⟩ = some (.string x.lb) ∧ W.cell? ⟨b', off' + i * 6 + 5, none⟩ = some (.slice A4 x.l.length c4)) := Lh fun W hW => by
    have hb1 := hW.block b hbl
    have hb0 := hW.block b' hbl'
    exact ⟨(World.cell?_of_block (a := ⟨b, _, none⟩) hb1).trans (hrange 0 _ rfl), (World.cell?_of_block (a := ⟨b, _, none⟩) hb1).trans (hrange 1 _ rfl), (World.cell?_of_block (a := ⟨b, _, none⟩) hb1).trans (hrange 2 _ rfl), (World.cell?_of_block (a := ⟨b, _, none⟩) hb1).trans (hrange 3 _ rfl), (World.cell?_of_block (a := ⟨b, _, none⟩) hb1).trans (hrange 4 _ rfl), (World.cell?_of_block (a := ⟨b, _, none⟩) hb1).trans (hrange 5 _ rfl),
     (World.cell?_of_block (a := ⟨b', _, none⟩) hb0).trans (hrange' 0 _ rfl), (World.cell?_of_block (a := ⟨b', _, none⟩) hb0).trans (hrange' 1 _ rfl), (World.cell?_of_block (a := ⟨b', _, none⟩) hb0).trans (hrange' 2 _ rfl), (World.cell?_of_block (a := ⟨b', _, none⟩) hb0).trans (hrange' 3 _ rfl), (World.cell?_of_block (a := ⟨b', _, none⟩) hb0).trans (hrange' 4 _ rfl), (World.cell?_of_block (a := ⟨b', _, none⟩) hb0).trans (hrange' 5 _ rfl)⟩
   have HBD := Lh (below_drew wr wr.heap.size)
   clear hys hys' hrange hrange'
   go_wp2_with fail
   obtain ⟨k0, k1, k2, k3, k4, k5, m0, m1, m2, m3, m4, m5⟩ := KS.out _ HBD.out
   go_region_held3 (fun W => W.cell? ⟨b, off + i * 6, none⟩ = some (.int .i64 x.k) ∧ W.cell? ⟨b, off + i * 6 + 1, none⟩ = some (.int .i64 x.a) ∧ W.cell? ⟨b, off + i * 6 + 2, none⟩ = some (.int .i64 x.m) ∧ W.cell? ⟨b, off + i * 6 + 3, none⟩ = some (.string x.nm) ∧ W.cell? ⟨b, off + i * 6 + 4, none⟩ = some (.string x.lb) ∧ W.cell? ⟨b, off + i * 6 + 5, none⟩ = some (.slice A3 x.l.length c3) ∧
     W.cell? ⟨b', off' + i * 6, none⟩ = some (.int .i64 x.k) ∧ W.cell? ⟨b', off' + i * 6 + 1, none⟩ = some (.int .i64 x.a) ∧ W.cell? ⟨b', off' + i * 6 + 2, none⟩ = some (.int .i64 x.m) ∧ W.cell? ⟨b', off' + i * 6 + 3, none⟩ = some (.string x.nm) ∧ W.cell? ⟨b', off' + i * 6 + 4, none⟩ = some (.string x.lb) ∧ W.cell? ⟨b', off' + i * 6 + 5, none⟩ = some (.slice A4 x.l.length c4)) (((try dsimp only); first | (with_reducible exact KS.out _ HBD.out) | (with_reducible exact KS.out _ HB5.out) | ((repeat' apply And.intro) <;> first | (with_reducible assumption) | go_keep))) (first
    | (go_at_call 54; refine (HIH.out _ _ _ (HY.out.under HBD.out (by intro b _ hb; exact hb)) (HY'.out.under HBD.out (by intro b _ hb; exact hb))).mono ?_; rintro e w5 ⟨rfl, b5⟩; have HB5 := Lh (HBD.out.trans b5); clear b5)
    | fail)
   go_wp2
   go_roundw
   case rel => exact ⟨i + 1, by go_num, hin, HB.out.trans (HB5.out.mono HB.out.size)⟩
   case measure => simp [intOf]; omega
  ·obtain rfl : i = n := by omega
   go_wp2
   go_ret
   exact ⟨rfl, HB.out⟩
set_option maxRecDepth 10000 in
theorem sameX_any : ∀ e : Ex, e.wfx → SameC e := by
 refine Ex.ind fun k a m nm lb l ih => ?_
 intro hwf lv kv w S K hx hk
 have hwf' := (Ex.wfx_eq _).1 hwf
 have HA : Hid (∀ W, Below w.heap.size w W → CP 96 #[lv, kv] W fun r w' => r = .returned (.bool true) ∧ Below W.heap.size W w') := Lh fun W hW =>
  sameAll_any l hwf'.2.1 (fun x hx => ih x hx (hwf'.2.2 x hx)) lv kv W S K (hx.under hW (fun b _ hb => hb)) (hk.under hW (fun b _ hb => hb))
 have HB : Hid (Below w.heap.size w ((w.alloc (.cells #[.int .i64 k, .int .i64 a, .int .i64 m, .string nm, .string lb, lv] 46)).alloc (.cells #[.int .i64 k, .int .i64 a, .int .i64 m, .string nm, .string lb, kv] 46))) := Lh (((Below.refl _ w).alloc nLe _).alloc (by simp) _)
 have e1 : (nm.toList == nm.toList) = true := by simp
 have e2 : (lb.toList == lb.toList) = true := by simp
 obtain ⟨A, c, rfl, _⟩ := hx.len
 obtain ⟨A', c', rfl, _⟩ := hk.len
 clear ih hwf hwf' hx hk
 show CP 54 #[.agg #[.int .i64 k, .int .i64 a, .int .i64 m, .string nm, .string lb, .slice A _ c], .agg #[.int .i64 k, .int .i64 a, .int .i64 m, .string nm, .string lb, .slice A' _ c']] w _
 go_enter Tryz.func54, Tryz.ntmps54
 go_wp2_with (first
  | (go_at_call 96; refine (HA.out _ HB.out).mono ?_; rintro e wt ⟨rfl, b⟩; have HB := Lh (bTr HB b); clear b; dsimp only)
  | fail)
 go_ret
 exact ⟨rfl, HB.out⟩
theorem Slot.setc {w : World} {G : Nat} {x y : Ex} {lv kv v : Value} (h : Slot w G x lv) (j : Nat) (hj : j < 6) (hy : ∀ i u, (exC y kv)[i]? = some u → (i = j ∧ u = v) ∨ (i ≠ j ∧ (exC x lv)[i]? = some u)) : Slot (w.setCell ⟨G, j, none⟩ v) G y kv := by
 refine ⟨fun i u hu => ?_, fun i hi => by rw [World.frozen?_setCell]; exact h.fz i hi, by simpa using h.lt⟩
 rw [Nat.zero_add]
 rcases hy i u hu with ⟨rfl, rfl⟩ | ⟨hne, hu'⟩
 ·obtain ⟨z, hz⟩ := Option.isSome_iff_exists.1 (h.there i hj).1
  rw [Nat.zero_add] at hz
  exact World.cell?_setCell_same _ _ _ hz
 ·rw [World.cell?_setCell_other _ _ _ _ (fun e => by injection e with _ e1; first | exact hne e1 | exact hne e1.symm)]
  have := h.cs i u hu'
  rwa [Nat.zero_add] at this
theorem gb_set (w : World) (G j : Nat) (v : Value) : w.grownBy (w.setCell ⟨G, j, none⟩ v) (some G) := ⟨rfl, rfl, rfl, by simp, fun k hk hne => heap_setCell_other _ _ _ _ (fun e => hne (by rw [e]))⟩
theorem bel_own {B : Nat} {w w1 w2 : World} {r : Option Nat} (h : Below B w w1) (k : w1.grownBy w2 r) (hg : ∀ j, r = some j → B ≤ j) (hB : B ≤ w1.heap.size) : Below B w w2 :=
 h.trans ⟨k.os, k.tape, k.output, k.size, fun j hj => k.block j (by omega) (fun e => by have := hg j e.symm; omega)⟩
end Go.Proofs.YtmnggldejflooaaGreatDoor
namespace Go.Proofs.YtmnggldejflooaaGreatDoor
set_option linter.unusedVariables false
set_option linter.unusedSimpArgs false
end Go.Proofs.YtmnggldejflooaaGreatDoor
namespace Go.Proofs.YtmnggldejflooaaGreatDoor
set_option linter.unusedVariables false
set_option linter.unusedSimpArgs false
open Go.RowKit
section
variable {P : Program} {ops : Array Oper} {rest : List Oper} {o : Oper} {a : Act} {Q : Exit → Act → World → Prop}
end
end Go.Proofs.YtmnggldejflooaaGreatDoor
