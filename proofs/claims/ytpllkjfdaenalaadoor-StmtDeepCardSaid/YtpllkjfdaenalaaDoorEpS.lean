/-
  CONTRACTS OF blazonref08.Same, SameAll (of like trees: true), and of 'later' of layer 8's law.
-/
import Derived.Test.YtpllkjfdaenalaaDoorEpI
import Derived.Test.YtpllkjfdaenalaaDoorEpX
namespace Go.Proofs.YtpllkjfdaenalaaDoor
set_option linter.unusedVariables false
set_option linter.unusedSimpArgs false
open Go.RowKit

def SameC (e : Ex) : Prop := ∀ (lv kv : Value) (w : World) (S K : Nat → Prop), Shx w S lv e.l → Shx w K kv e.l →
    Calls Tryd.prog 18 #[exV e lv, exV e kv] w fun r w' => r = .returned (.bool true) ∧ Below w.heap.size w w'
set_option maxRecDepth 10000 in
set_option maxHeartbeats 1600000 in
theorem sameAll_any (l : List Ex) (hl : l.length ≤ 1000000) (IHl : ∀ x ∈ l, SameC x) (lv kv : Value) (w : World) (S K : Nat → Prop) (h : Shx w S lv l) (k : Shx w K kv l) :
    Calls Tryd.prog 27 #[lv, kv] w fun r w' => r = .returned (.bool true) ∧ Below w.heap.size w w' := by
  have IH := Lib.hid IHl
  obtain ⟨A, c, rfl, _⟩ := h.len
  obtain ⟨A', c', rfl, _⟩ := k.len
  obtain ⟨n, hn⟩ : ∃ n, l.length = n := ⟨_, rfl⟩
  rw [hn] at h k hl ⊢
  have HX := Lib.hid h
  have HK := Lib.hid k
  clear h k hn IHl
  go_enter Tryd.func27, Tryd.ntmps27
  go_wp2
  go_loopw [5] (fun iv wr => ∃ i : Nat, iv = .int .i64 (i : Int) ∧ i ≤ n ∧ Below w.heap.size w wr) (fun iv _ => n - (intOf iv).toNat)
  case atStart => exact ⟨0, rfl, Nat.zero_le _, Below.refl _ _⟩
  case round =>
    obtain ⟨i, rfl, hi, hb⟩ := hrel
    have HB := Lib.hid hb
    clear hb
    by_cases hin : i < n
    · obtain ⟨b, off, x, lv2, hA, hxi, _, hrange, hys, _, hbl⟩ := (HX.out.under HB.out (fun b _ hb => hb)).at hin
      obtain ⟨b', off', x', kv2, hA', hxi', _, hrange', hys', _, hbl'⟩ := (HK.out.under HB.out (fun b _ hb => hb)).at hin
      obtain rfl : x = x' := by rw [hxi] at hxi'; exact Option.some.inj hxi'
      subst hA; subst hA'
      have HIH := Lib.hid (IH.out x (List.mem_of_getElem? hxi) lv2 kv2)
      have HY := Lib.hid hys
      have HY' := Lib.hid hys'
      obtain ⟨A3, c3, rfl, _⟩ := hys.len
      obtain ⟨A4, c4, rfl, _⟩ := hys'.len
      have KS : Hid (∀ W, Below wr.heap.size wr W → W.cell? ⟨b, off + i * 6, none⟩ = some (.int .i64 x.k) ∧ W.cell? ⟨b, off + i * 6 + 1, none⟩ = some (.int .i64 x.a) ∧ W.cell? ⟨b, off + i * 6 + 2, none⟩ = some (.int .i64 x.m) ∧ W.cell? ⟨b, off + i * 6 + 3, none⟩ = some (.string x.nm) ∧ W.cell? ⟨b, off + i * 6 + 4, none⟩ = some (.string x.lb) ∧ W.cell? ⟨b, off + i * 6 + 5, none⟩ = some (.slice A3 x.l.length c3) ∧
          W.cell? ⟨b', off' + i * 6, none⟩ = some (.int .i64 x.k) ∧ W.cell? ⟨b', off' + i * 6 + 1, none⟩ = some (.int .i64 x.a) ∧ W.cell? ⟨b', off' + i * 6 + 2, none⟩ = some (.int .i64 x.m) ∧ W.cell? ⟨b', off' + i * 6 + 3, none⟩ = some (.string x.nm) ∧ W.cell? ⟨b', off' + i * 6 + 4, none⟩ = some (.string x.lb) ∧ W.cell? ⟨b', off' + i * 6 + 5, none⟩ = some (.slice A4 x.l.length c4)) := Lib.hid fun W hW => by
        have hb1 := hW.block b hbl
        have hb0 := hW.block b' hbl'
        exact ⟨(World.cell?_of_block (a := ⟨b, _, none⟩) hb1).trans (hrange 0 _ rfl), (World.cell?_of_block (a := ⟨b, _, none⟩) hb1).trans (hrange 1 _ rfl), (World.cell?_of_block (a := ⟨b, _, none⟩) hb1).trans (hrange 2 _ rfl), (World.cell?_of_block (a := ⟨b, _, none⟩) hb1).trans (hrange 3 _ rfl), (World.cell?_of_block (a := ⟨b, _, none⟩) hb1).trans (hrange 4 _ rfl), (World.cell?_of_block (a := ⟨b, _, none⟩) hb1).trans (hrange 5 _ rfl),
          (World.cell?_of_block (a := ⟨b', _, none⟩) hb0).trans (hrange' 0 _ rfl), (World.cell?_of_block (a := ⟨b', _, none⟩) hb0).trans (hrange' 1 _ rfl), (World.cell?_of_block (a := ⟨b', _, none⟩) hb0).trans (hrange' 2 _ rfl), (World.cell?_of_block (a := ⟨b', _, none⟩) hb0).trans (hrange' 3 _ rfl), (World.cell?_of_block (a := ⟨b', _, none⟩) hb0).trans (hrange' 4 _ rfl), (World.cell?_of_block (a := ⟨b', _, none⟩) hb0).trans (hrange' 5 _ rfl)⟩
      have HBD := Lib.hid (below_drew wr wr.heap.size)
      clear hys hys' hrange hrange'
      go_wp2_with fail
      obtain ⟨k0, k1, k2, k3, k4, k5, m0, m1, m2, m3, m4, m5⟩ := KS.out _ HBD.out
      go_region_held3 (fun W => W.cell? ⟨b, off + i * 6, none⟩ = some (.int .i64 x.k) ∧ W.cell? ⟨b, off + i * 6 + 1, none⟩ = some (.int .i64 x.a) ∧ W.cell? ⟨b, off + i * 6 + 2, none⟩ = some (.int .i64 x.m) ∧ W.cell? ⟨b, off + i * 6 + 3, none⟩ = some (.string x.nm) ∧ W.cell? ⟨b, off + i * 6 + 4, none⟩ = some (.string x.lb) ∧ W.cell? ⟨b, off + i * 6 + 5, none⟩ = some (.slice A3 x.l.length c3) ∧
          W.cell? ⟨b', off' + i * 6, none⟩ = some (.int .i64 x.k) ∧ W.cell? ⟨b', off' + i * 6 + 1, none⟩ = some (.int .i64 x.a) ∧ W.cell? ⟨b', off' + i * 6 + 2, none⟩ = some (.int .i64 x.m) ∧ W.cell? ⟨b', off' + i * 6 + 3, none⟩ = some (.string x.nm) ∧ W.cell? ⟨b', off' + i * 6 + 4, none⟩ = some (.string x.lb) ∧ W.cell? ⟨b', off' + i * 6 + 5, none⟩ = some (.slice A4 x.l.length c4)) (((try dsimp only); first | (with_reducible exact KS.out _ HBD.out) | (with_reducible exact KS.out _ HB5.out) | ((repeat' apply And.intro) <;> first | (with_reducible assumption) | go_keep))) (first
        | (go_at_call 18; refine (HIH.out _ _ _ (HY.out.under HBD.out (by intro b _ hb; exact hb)) (HY'.out.under HBD.out (by intro b _ hb; exact hb))).mono ?_; rintro e w5 ⟨rfl, b5⟩; have HB5 := Lib.hid (HBD.out.trans b5); clear b5)
        | fail)
      go_wp2
      go_roundw
      case rel => exact ⟨i + 1, by go_num, hin, HB.out.trans (HB5.out.mono HB.out.size)⟩
      case measure => simp [intOf]; omega
    · obtain rfl : i = n := by omega
      go_wp2
      go_ret
      exact ⟨rfl, HB.out⟩
set_option maxRecDepth 10000 in
set_option maxHeartbeats 1600000 in
theorem sameX_any : ∀ e : Ex, e.wfx → SameC e := by
  refine Ex.ind fun k a m nm lb l ih => ?_
  intro hwf lv kv w S K hx hk
  have hwf' := (Ex.wfx_eq _).1 hwf
  have HA : Hid (∀ W, Below w.heap.size w W → Calls Tryd.prog 27 #[lv, kv] W fun r w' => r = .returned (.bool true) ∧ Below W.heap.size W w') := Lib.hid fun W hW =>
    sameAll_any l hwf'.2.1 (fun x hx => ih x hx (hwf'.2.2 x hx)) lv kv W S K (hx.under hW (fun b _ hb => hb)) (hk.under hW (fun b _ hb => hb))
  have HB : Hid (Below w.heap.size w ((w.alloc (.cells #[.int .i64 k, .int .i64 a, .int .i64 m, .string nm, .string lb, lv] 39)).alloc (.cells #[.int .i64 k, .int .i64 a, .int .i64 m, .string nm, .string lb, kv] 39))) := Lib.hid (((Below.refl _ w).alloc (Nat.le_refl _) _).alloc (by simp) _)
  have e1 : (nm.toList == nm.toList) = true := by simp
  have e2 : (lb.toList == lb.toList) = true := by simp
  obtain ⟨A, c, rfl, _⟩ := hx.len
  obtain ⟨A', c', rfl, _⟩ := hk.len
  clear ih hwf hwf' hx hk
  show Calls Tryd.prog 18 #[.agg #[.int .i64 k, .int .i64 a, .int .i64 m, .string nm, .string lb, .slice A _ c], .agg #[.int .i64 k, .int .i64 a, .int .i64 m, .string nm, .string lb, .slice A' _ c']] w _
  go_enter Tryd.func18, Tryd.ntmps18
  go_wp2_with (first
    | (go_at_call 27; refine (HA.out _ HB.out).mono ?_; rintro e wt ⟨rfl, b⟩; have HB := Lib.hid (HB.out.trans (b.mono HB.out.size)); clear b; dsimp only)
    | fail)
  go_ret
  exact ⟨rfl, HB.out⟩

theorem ex_ret {F : Func} {i : Nat} (hr : F.results = #[.cell i 39]) {a : Act} {W : World} {G : Nat} {x : Ex} {lv : Value} {Q : Ending → World → Prop} (hp : a.tmps.getD i undef = .pointer (some ⟨G, 0, none⟩)) (hd : a.defers = []) (hs : Slot W G x lv)
    (hQ : Q (.returned (exV x lv)) W) : bodyPost Tryd.prog F Q Exit.ret a W := by
  have hl := ld_ex hs.cs
  have hp' : a.tmps[i]?.getD undef = .pointer (some ⟨G, 0, none⟩) := by simpa using hp
  exact bodyPost_ret (v := exV x lv) (by simp [results, hr, hp', asAddr, hl]) hd hQ
theorem Slot.setc {w : World} {G : Nat} {x y : Ex} {lv kv v : Value} (h : Slot w G x lv) (j : Nat) (hj : j < 6) (hy : ∀ i u, (exC y kv)[i]? = some u → (i = j ∧ u = v) ∨ (i ≠ j ∧ (exC x lv)[i]? = some u)) : Slot (w.setCell ⟨G, j, none⟩ v) G y kv := by
  refine ⟨fun i u hu => ?_, fun i hi => by rw [World.frozen?_setCell]; exact h.fz i hi, by simpa using h.lt⟩
  rw [Nat.zero_add]
  rcases hy i u hu with ⟨rfl, rfl⟩ | ⟨hne, hu'⟩
  · obtain ⟨z, hz⟩ := Option.isSome_iff_exists.1 (h.there i hj).1
    rw [Nat.zero_add] at hz
    exact World.cell?_setCell_same _ _ _ hz
  · rw [World.cell?_setCell_other _ _ _ _ (fun e => by injection e with _ e1; first | exact hne e1 | exact hne e1.symm)]
    have := h.cs i u hu'
    rwa [Nat.zero_add] at this
theorem gb_set (w : World) (G j : Nat) (v : Value) : w.grownBy (w.setCell ⟨G, j, none⟩ v) (some G) := ⟨rfl, rfl, rfl, by simp, fun k hk hne => heap_setCell_other _ _ _ _ (fun e => hne (by rw [e]))⟩
theorem bel_own {B : Nat} {w w1 w2 : World} {r : Option Nat} (h : Below B w w1) (k : w1.grownBy w2 r) (hg : ∀ j, r = some j → B ≤ j) (hB : B ≤ w1.heap.size) : Below B w w2 :=
  h.trans ⟨k.os, k.tape, k.output, k.size, fun j hj => k.block j (by omega) (fun e => by have := hg j e.symm; omega)⟩
end Go.Proofs.YtpllkjfdaenalaaDoor
