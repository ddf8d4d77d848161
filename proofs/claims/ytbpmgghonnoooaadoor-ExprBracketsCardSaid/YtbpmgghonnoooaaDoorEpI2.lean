/-
  CONTRACT OF 'inside' of layer 8's law; of a cursor that is none.
-/
import Derived.Test.YtbpmgghonnoooaaDoorEpI
import Derived.Test.YtbpmgghonnoooaaDoorEpX
namespace Go.Proofs.YtbpmgghonnoooaaDoor
set_option linter.unusedVariables false
set_option linter.unusedSimpArgs false
open Go.RowKit

set_option maxRecDepth 10000 in
set_option maxHeartbeats 1600000 in
theorem inside_any (N : Int) : ∀ e : Ex, e.ins N → e.wfx → ∀ (lv : Value) (w : World) (S : Nat → Prop), Shx w S lv e.l →
    Calls Tryd.prog 31 #[exV e lv, .int .i64 N] w fun r w' => r = .returned (.bool true) ∧ Below w.heap.size w w' := by
  refine Ex.ind fun k a m nm lb l ih => ?_
  intro hins hwf lv w S hx
  have hins' := (Ex.ins_eq N _).1 hins
  have hwf' := (Ex.wfx_eq _).1 hwf
  have IH : Hid (∀ x ∈ l, ∀ (lv : Value) (w : World) (S : Nat → Prop), Shx w S lv x.l → Calls Tryd.prog 31 #[exV x lv, .int .i64 N] w fun r w' => r = .returned (.bool true) ∧ Below w.heap.size w w') := Lib.hid fun x hx' => ih x hx' (hins' x hx').2.2 (hwf'.2.2 x hx')
  have HI : Hid (∀ x ∈ l, a ≤ x.a ∧ x.a < N) := Lib.hid fun x hx' => ⟨(hins' x hx').1, (hins' x hx').2.1⟩
  have hln : l.length ≤ 1000000 := hwf'.2.1
  have hone := hx.one
  obtain ⟨A, c, rfl, hlc⟩ := hx.len
  obtain ⟨n, hn⟩ : ∃ n, l.length = n := ⟨_, rfl⟩
  have HN := Lib.hid hn
  have hx' : Shx w S (.slice A n c) l := by rw [← hn]; exact hx
  have b1 : Below w.heap.size w (w.alloc (.cells #[.int .i64 k, .int .i64 a, .int .i64 m, .string nm, .string lb, .slice A n c] 27)) := (Below.refl _ w).alloc (Nat.le_refl _) _
  have HX := Lib.hid (hx'.under b1 (fun b _ hb => hb))
  have HB1 := Lib.hid b1
  have HSL := Lib.hid (show Slot (w.alloc (.cells #[.int .i64 k, .int .i64 a, .int .i64 m, .string nm, .string lb, .slice A n c] 27)) w.heap.size (.mk k a m nm lb l) (.slice A n c) from Slot.new w (.mk k a m nm lb l) (.slice A n c) 27 rfl)
  obtain ⟨w1, hw1⟩ : ∃ w1, w.alloc (.cells #[.int .i64 k, .int .i64 a, .int .i64 m, .string nm, .string lb, .slice A n c] 27) = w1 := ⟨_, rfl⟩
  have hs1 : w1.heap.size = w.heap.size + 1 := by rw [← hw1]; simp
  rw [hw1] at HX HB1 HSL
  have HW1 := Lib.hid hw1
  have hll : (Ex.mk k a m nm lb l).l.length = n := hn
  rw [hll]
  rw [hn] at hln
  clear ih hins hwf hins' hwf' hx hx' hn b1 hw1
  unfold exV
  show Calls Tryd.prog 31 #[.agg #[.int .i64 k, .int .i64 a, .int .i64 m, .string nm, .string lb, .slice A n c], .int .i64 N] w _
  go_enter Tryd.func31, Tryd.ntmps31
  go_wp2_with fail
  rw [HW1.out]
  go_loopw [5] (fun iv wr => ∃ i : Nat, iv = .int .i64 (i : Int) ∧ i ≤ n ∧ Below w1.heap.size w1 wr) (fun iv _ => n - (intOf iv).toNat)
  case atStart => exact ⟨0, rfl, Nat.zero_le _, Below.refl _ _⟩
  case round =>
    obtain ⟨i, rfl, hi, hb⟩ := hrel
    have HB := Lib.hid hb
    have c1 : wr.cell? ⟨w.heap.size, 1, none⟩ = some (.int .i64 a) := (HSL.out.below hb HSL.out.lt).cs 1 _ rfl
    have c5 : wr.cell? ⟨w.heap.size, 5, none⟩ = some (.slice A n c) := (HSL.out.below hb HSL.out.lt).cs 5 _ rfl
    have hszr := hb.size
    clear hb
    by_cases hin : i < n
    · have hss := HX.out.under HB.out (fun b _ hb => hb)
      obtain ⟨b, off, x, lv2, hA, hxi, _, hrange, hys, _, hbl⟩ := hss.at hin
      subst hA
      obtain ⟨hxa, hxN⟩ := HI.out x (List.mem_of_getElem? hxi)
      have HIH := Lib.hid (IH.out x (List.mem_of_getElem? hxi) lv2)
      have HYS := Lib.hid hys
      have hone2 := hys.one
      obtain ⟨A3, c3, rfl, _⟩ := hys.len
      have d1 : decide (x.a < a) = false := by simp; omega
      have d2 : decide (N ≤ x.a) = false := by simp; omega
      have KS : Hid (∀ W, Below wr.heap.size wr W → W.cell? ⟨w.heap.size, 1, none⟩ = some (.int .i64 a) ∧ W.cell? ⟨w.heap.size, 5, none⟩ = some (.slice (some ⟨b, off, none⟩) n c) ∧ W.cell? ⟨b, off + i * 6, none⟩ = some (.int .i64 x.k) ∧ W.cell? ⟨b, off + i * 6 + 1, none⟩ = some (.int .i64 x.a) ∧ W.cell? ⟨b, off + i * 6 + 2, none⟩ = some (.int .i64 x.m) ∧ W.cell? ⟨b, off + i * 6 + 3, none⟩ = some (.string x.nm) ∧ W.cell? ⟨b, off + i * 6 + 4, none⟩ = some (.string x.lb) ∧ W.cell? ⟨b, off + i * 6 + 5, none⟩ = some (.slice A3 x.l.length c3)) := Lib.hid fun W hW => by
        have hb1 := hW.block b hbl
        have hb0 := hW.block w.heap.size (by omega)
        refine ⟨(World.cell?_of_block (a := ⟨_, 1, none⟩) hb0).trans c1, (World.cell?_of_block (a := ⟨_, 5, none⟩) hb0).trans c5, (World.cell?_of_block (a := ⟨b, _, none⟩) hb1).trans (hrange 0 _ rfl), (World.cell?_of_block (a := ⟨b, _, none⟩) hb1).trans (hrange 1 _ rfl), (World.cell?_of_block (a := ⟨b, _, none⟩) hb1).trans (hrange 2 _ rfl), (World.cell?_of_block (a := ⟨b, _, none⟩) hb1).trans (hrange 3 _ rfl), (World.cell?_of_block (a := ⟨b, _, none⟩) hb1).trans (hrange 4 _ rfl), (World.cell?_of_block (a := ⟨b, _, none⟩) hb1).trans (hrange 5 _ rfl)⟩
      have HBD := Lib.hid (below_drew wr wr.heap.size)
      clear hss hys hrange c1
      go_wp2_with fail
      obtain ⟨c1, c5', k0, k1, k2, k3, k4, k5⟩ := KS.out _ HBD.out
      go_region_held3 (fun W => W.cell? ⟨w.heap.size, 1, none⟩ = some (.int .i64 a) ∧ W.cell? ⟨w.heap.size, 5, none⟩ = some (.slice (some ⟨b, off, none⟩) n c) ∧ W.cell? ⟨b, off + i * 6, none⟩ = some (.int .i64 x.k) ∧ W.cell? ⟨b, off + i * 6 + 1, none⟩ = some (.int .i64 x.a) ∧ W.cell? ⟨b, off + i * 6 + 2, none⟩ = some (.int .i64 x.m) ∧ W.cell? ⟨b, off + i * 6 + 3, none⟩ = some (.string x.nm) ∧ W.cell? ⟨b, off + i * 6 + 4, none⟩ = some (.string x.lb) ∧ W.cell? ⟨b, off + i * 6 + 5, none⟩ = some (.slice A3 x.l.length c3)) (((try dsimp only); first | (with_reducible exact KS.out _ HBD.out) | (with_reducible exact KS.out _ HB5.out) | ((repeat' apply And.intro) <;> first | (with_reducible assumption) | go_keep))) (first
        | (go_at_call 31; refine (HIH.out _ _ (HYS.out.under HBD.out (by intro b _ hb; exact hb))).mono ?_; rintro e w5 ⟨rfl, b5⟩; have HB5 := Lib.hid (HBD.out.trans b5); clear b5)
        | fail)
      go_wp2
      go_roundw
      case rel => exact ⟨i + 1, by go_num, hin, HB.out.trans (HB5.out.mono hszr)⟩
      case measure => simp [intOf]; omega
    · obtain rfl : i = n := by omega
      go_wp2
      go_ret
      exact ⟨rfl, HB1.out.trans (HB.out.mono (by omega))⟩
end Go.Proofs.YtbpmgghonnoooaaDoor
