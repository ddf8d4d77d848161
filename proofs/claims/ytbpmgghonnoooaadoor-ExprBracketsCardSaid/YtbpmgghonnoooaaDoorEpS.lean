/-
  CONTRACTS OF blazonref08.Same, SameAll (of like trees: true), and of 'later' of layer 8's law.
-/
import Derived.Test.YtbpmgghonnoooaaDoorEpI2
namespace Go.Proofs.YtbpmgghonnoooaaDoor
set_option linter.unusedVariables false
set_option linter.unusedSimpArgs false
open Go.RowKit

def SameC (e : Ex) : Prop := ∀ (lv kv : Value) (w : World) (S K : Nat → Prop), Shx w S lv e.l → Shx w K kv e.l →
    Calls Tryd.prog 12 #[exV e lv, exV e kv] w fun r w' => r = .returned (.bool true) ∧ Below w.heap.size w w'
set_option maxRecDepth 10000 in
set_option maxHeartbeats 1600000 in
theorem sameAll_any (l : List Ex) (hl : l.length ≤ 1000000) (IHl : ∀ x ∈ l, SameC x) (lv kv : Value) (w : World) (S K : Nat → Prop) (h : Shx w S lv l) (k : Shx w K kv l) :
    Calls Tryd.prog 35 #[lv, kv] w fun r w' => r = .returned (.bool true) ∧ Below w.heap.size w w' := by
  have IH := Lib.hid IHl
  obtain ⟨A, c, rfl, _⟩ := h.len
  obtain ⟨A', c', rfl, _⟩ := k.len
  obtain ⟨n, hn⟩ : ∃ n, l.length = n := ⟨_, rfl⟩
  rw [hn] at h k hl ⊢
  have HX := Lib.hid h
  have HK := Lib.hid k
  clear h k hn IHl
  go_enter Tryd.func35, Tryd.ntmps35
  go_wp2
  go_loopw [5] (fun iv wr => ∃ i : Nat, iv = .int .i64 (i : Int) ∧ i ≤ n ∧ Below w.heap.size w wr) (fun iv _ => n - (intOf iv).toNat)
  case atStart => exact ⟨0, rfl, Nat.zero_le _, Below.refl _ _⟩
  case round =>
    obtain ⟨i, rfl, hi, hb⟩ := hrel
    have HB := Lib.hid hb
    clear hb
    by_cases hin : i < n
    · obtain ⟨b, off, x, lv2, hA, hxi, _, hrange, hys, _, hbl⟩ := (HX.out.under HB.out (fun b _ hb => hb)).at hin
      obtain ⟨b', off', x', kv2, hA', hxi', _, hrange', hys', _, hbl'⟩ := (HK.out.under HB.out (fun b _ hb => hb)).at hin
      obtain rfl : x = x' := by rw [hxi] at hxi'; exact Option.some.inj hxi'
      subst hA; subst hA'
      have HIH := Lib.hid (IH.out x (List.mem_of_getElem? hxi) lv2 kv2)
      have HY := Lib.hid hys
      have HY' := Lib.hid hys'
      obtain ⟨A3, c3, rfl, _⟩ := hys.len
      obtain ⟨A4, c4, rfl, _⟩ := hys'.len
      have KS : Hid (∀ W, Below wr.heap.size wr W → W.cell? ⟨b, off + i * 6, none⟩ = some (.int .i64 x.k) ∧ W.cell? ⟨b, off + i * 6 + 1, none⟩ = some (.int .i64 x.a) ∧ W.cell? ⟨b, off + i * 6 + 2, none⟩ = some (.int .i64 x.m) ∧ W.cell? ⟨b, off + i * 6 + 3, none⟩ = some (.string x.nm) ∧ W.cell? ⟨b, off + i * 6 + 4, none⟩ = some (.string x.lb) ∧ W.cell? ⟨b, off + i * 6 + 5, none⟩ = some (.slice A3 x.l.length c3) ∧
          W.cell? ⟨b', off' + i * 6, none⟩ = some (.int .i64 x.k) ∧ W.cell? ⟨b', off' + i * 6 + 1, none⟩ = some (.int .i64 x.a) ∧ W.cell? ⟨b', off' + i * 6 + 2, none⟩ = some (.int .i64 x.m) ∧ W.cell? ⟨b', off' + i * 6 + 3, none⟩ = some (.string x.nm) ∧ W.cell? ⟨b', off' + i * 6 + 4, none⟩ = some (.string x.lb) ∧ W.cell? ⟨b', off' + i * 6 + 5, none⟩ = some (.slice A4 x.l.length c4)) := Lib.hid fun W hW => by
        have hb1 := hW.block b hbl
        have hb0 := hW.block b' hbl'
        exact ⟨(World.cell?_of_block (a := ⟨b, _, none⟩) hb1).trans (hrange 0 _ rfl), (World.cell?_of_block (a := ⟨b, _, none⟩) hb1).trans (hrange 1 _ rfl), (World.cell?_of_block (a := ⟨b, _, none⟩) hb1).trans (hrange 2 _ rfl), (World.cell?_of_block (a := ⟨b, _, none⟩) hb1).trans (hrange 3 _ rfl), (World.cell?_of_block (a := ⟨b, _, none⟩) hb1).trans (hrange 4 _ rfl), (World.cell?_of_block (a := ⟨b, _, none⟩) hb1).trans (hrange 5 _ rfl),
          (World.cell?_of_block (a := ⟨b', _, none⟩) hb0).trans (hrange' 0 _ rfl), (World.cell?_of_block (a := ⟨b', _, none⟩) hb0).trans (hrange' 1 _ rfl), (World.cell?_of_block (a := ⟨b', _, none⟩) hb0).trans (hrange' 2 _ rfl), (World.cell?_of_block (a := ⟨b', _, none⟩) hb0).trans (hrange' 3 _ rfl), (World.cell?_of_block (a := ⟨b', _, none⟩) hb0).trans (hrange' 4 _ rfl), (World.cell?_of_block (a := ⟨b', _, none⟩) hb0).trans (hrange' 5 _ rfl)⟩
      have HBD := Lib.hid (below_drew wr wr.heap.size)
      clear hys hys' hrange hrange'
      go_wp2_with fail
      obtain ⟨k0, k1, k2, k3, k4, k5, m0, m1, m2, m3, m4, m5⟩ := KS.out _ HBD.out
      go_region_held3 (fun W => W.cell? ⟨b, off + i * 6, none⟩ = some (.int .i64 x.k) ∧ W.cell? ⟨b, off + i * 6 + 1, none⟩ = some (.int .i64 x.a) ∧ W.cell? ⟨b, off + i * 6 + 2, none⟩ = some (.int .i64 x.m) ∧ W.cell? ⟨b, off + i * 6 + 3, none⟩ = some (.string x.nm) ∧ W.cell? ⟨b, off + i * 6 + 4, none⟩ = some (.string x.lb) ∧ W.cell? ⟨b, off + i * 6 + 5, none⟩ = some (.slice A3 x.l.length c3) ∧
          W.cell? ⟨b', off' + i * 6, none⟩ = some (.int .i64 x.k) ∧ W.cell? ⟨b', off' + i * 6 + 1, none⟩ = some (.int .i64 x.a) ∧ W.cell? ⟨b', off' + i * 6 + 2, none⟩ = some (.int .i64 x.m) ∧ W.cell? ⟨b', off' + i * 6 + 3, none⟩ = some (.string x.nm) ∧ W.cell? ⟨b', off' + i * 6 + 4, none⟩ = some (.string x.lb) ∧ W.cell? ⟨b', off' + i * 6 + 5, none⟩ = some (.slice A4 x.l.length c4)) (((try dsimp only); first | (with_reducible exact KS.out _ HBD.out) | (with_reducible exact KS.out _ HB5.out) | ((repeat' apply And.intro) <;> first | (with_reducible assumption) | go_keep))) (first
        | (go_at_call 12; refine (HIH.out _ _ _ (HY.out.under HBD.out (by intro b _ hb; exact hb)) (HY'.out.under HBD.out (by intro b _ hb; exact hb))).mono ?_; rintro e w5 ⟨rfl, b5⟩; have HB5 := Lib.hid (HBD.out.trans b5); clear b5)
        | fail)
      go_wp2
      go_roundw
      case rel => exact ⟨i + 1, by go_num, hin, HB.out.trans (HB5.out.mono HB.out.size)⟩
      case measure => simp [intOf]; omega
    · obtain rfl : i = n := by omega
      go_wp2
      go_ret
      exact ⟨rfl, HB.out⟩
set_option maxRecDepth 10000 in
set_option maxHeartbeats 1600000 in
theorem sameX_any : ∀ e : Ex, e.wfx → SameC e := by
  refine Ex.ind fun k a m nm lb l ih => ?_
  intro hwf lv kv w S K hx hk
  have hwf' := (Ex.wfx_eq _).1 hwf
  have HA : Hid (∀ W, Below w.heap.size w W → Calls Tryd.prog 35 #[lv, kv] W fun r w' => r = .returned (.bool true) ∧ Below W.heap.size W w') := Lib.hid fun W hW =>
    sameAll_any l hwf'.2.1 (fun x hx => ih x hx (hwf'.2.2 x hx)) lv kv W S K (hx.under hW (fun b _ hb => hb)) (hk.under hW (fun b _ hb => hb))
  have HB : Hid (Below w.heap.size w ((w.alloc (.cells #[.int .i64 k, .int .i64 a, .int .i64 m, .string nm, .string lb, lv] 27)).alloc (.cells #[.int .i64 k, .int .i64 a, .int .i64 m, .string nm, .string lb, kv] 27))) := Lib.hid (((Below.refl _ w).alloc (Nat.le_refl _) _).alloc (by simp) _)
  have e1 : (nm.toList == nm.toList) = true := by simp
  have e2 : (lb.toList == lb.toList) = true := by simp
  obtain ⟨A, c, rfl, _⟩ := hx.len
  obtain ⟨A', c', rfl, _⟩ := hk.len
  clear ih hwf hwf' hx hk
  show Calls Tryd.prog 12 #[.agg #[.int .i64 k, .int .i64 a, .int .i64 m, .string nm, .string lb, .slice A _ c], .agg #[.int .i64 k, .int .i64 a, .int .i64 m, .string nm, .string lb, .slice A' _ c']] w _
  go_enter Tryd.func12, Tryd.ntmps12
  go_wp2_with (first
    | (go_at_call 35; refine (HA.out _ HB.out).mono ?_; rintro e wt ⟨rfl, b⟩; have HB := Lib.hid (HB.out.trans (b.mono HB.out.size)); clear b; dsimp only)
    | fail)
  go_ret
  exact ⟨rfl, HB.out⟩

/-- What 'later' answers: the tree a place later, in new memory. -/
def LatC (e : Ex) : Prop := ∀ (lv : Value) (w : World) (S : Nat → Prop), Shx w S lv e.l →
    Calls Tryd.prog 32 #[exV e lv] w fun r w' => ∃ kv, r = .returned (exV (e.sh 1) kv) ∧ Shx w' (fun b => w.heap.size ≤ b) kv (e.sh 1).l ∧ Below w.heap.size w w'
theorem ex_ret {F : Func} {i : Nat} (hr : F.results = #[.cell i 27]) {a : Act} {W : World} {G : Nat} {x : Ex} {lv : Value} {Q : Ending → World → Prop} (hp : a.tmps.getD i undef = .pointer (some ⟨G, 0, none⟩)) (hd : a.defers = []) (hs : Slot W G x lv)
    (hQ : Q (.returned (exV x lv)) W) : bodyPost Tryd.prog F Q Exit.ret a W := by
  have hl := ld_ex hs.cs
  have hp' : a.tmps[i]?.getD undef = .pointer (some ⟨G, 0, none⟩) := by simpa using hp
  exact bodyPost_ret (v := exV x lv) (by simp [results, hr, hp', asAddr, hl]) hd hQ
theorem Slot.setc {w : World} {G : Nat} {x y : Ex} {lv kv v : Value} (h : Slot w G x lv) (j : Nat) (hj : j < 6) (hy : ∀ i u, (exC y kv)[i]? = some u → (i = j ∧ u = v) ∨ (i ≠ j ∧ (exC x lv)[i]? = some u)) : Slot (w.setCell ⟨G, j, none⟩ v) G y kv := by
  refine ⟨fun i u hu => ?_, fun i hi => by rw [World.frozen?_setCell]; exact h.fz i hi, by simpa using h.lt⟩
  rw [Nat.zero_add]
  rcases hy i u hu with ⟨rfl, rfl⟩ | ⟨hne, hu'⟩
  · obtain ⟨z, hz⟩ := Option.isSome_iff_exists.1 (h.there i hj).1
    rw [Nat.zero_add] at hz
    exact World.cell?_setCell_same _ _ _ hz
  · rw [World.cell?_setCell_other _ _ _ _ (fun e => by injection e with _ e1; first | exact hne e1 | exact hne e1.symm)]
    have := h.cs i u hu'
    rwa [Nat.zero_add] at this
theorem gb_set (w : World) (G j : Nat) (v : Value) : w.grownBy (w.setCell ⟨G, j, none⟩ v) (some G) := ⟨rfl, rfl, rfl, by simp, fun k hk hne => heap_setCell_other _ _ _ _ (fun e => hne (by rw [e]))⟩
theorem bel_own {B : Nat} {w w1 w2 : World} {r : Option Nat} (h : Below B w w1) (k : w1.grownBy w2 r) (hg : ∀ j, r = some j → B ≤ j) (hB : B ≤ w1.heap.size) : Below B w w2 :=
  h.trans ⟨k.os, k.tape, k.output, k.size, fun j hj => k.block j (by omega) (fun e => by have := hg j e.symm; omega)⟩
set_option maxRecDepth 10000 in
set_option maxHeartbeats 3200000 in
theorem later_any (N : Int) (hN : N ≤ 2000000) : ∀ e : Ex, e.ins N → 0 ≤ e.a → e.a < N → e.wfx → LatC e := by
  refine Ex.ind fun k a m nm lb l ih => ?_
  intro hins ha0 haN hwf lv w S hx
  have hins' := (Ex.ins_eq N _).1 hins
  have hwf' := (Ex.wfx_eq _).1 hwf
  have ha0' : 0 ≤ a := ha0
  have haN' : a < N := haN
  have IH : Hid (∀ x ∈ l, LatC x) := Lib.hid fun x hx' => ih x hx' (hins' x hx').2.2 (by have h1 := (hins' x hx').1; have h2 : a ≤ x.a := h1; omega) (hins' x hx').2.1 (hwf'.2.2 x hx')
  have hln : l.length ≤ 1000000 := hwf'.2.1
  have hz := zeroEx'
  have hw1 : IntKind.i64.wrap (a + 1) = a + 1 := IntWalk.i64_in _ (by omega)
  have hone := hx.one
  obtain ⟨A, c, rfl, hlc⟩ := hx.len
  obtain ⟨n, hn⟩ : ∃ n, l.length = n := ⟨_, rfl⟩
  have hll : (Ex.mk k a m nm lb l).l.length = n := hn
  rw [hll] at hx hone ⊢
  rw [hn] at hln
  have HN := Lib.hid hn
  obtain ⟨W1, hW1⟩ : ∃ W1, ((w.alloc (.cells #[.int .i64 k, .int .i64 (a + 1), .int .i64 m, .string nm, .string lb, .slice A n c] 27)).alloc (.cells #[.int .i64 0, .int .i64 0, .int .i64 0, .string ⟨#[]⟩, .string ⟨#[]⟩, .slice none 0 0] 27)) = W1 := ⟨_, rfl⟩
  have hsz1 : W1.heap.size = w.heap.size + 2 := by rw [← hW1]; simp
  have hb1 : Below w.heap.size w W1 := by rw [← hW1]; exact ((Below.refl _ w).alloc (Nat.le_refl _) _).alloc (by simp) _
  have hs1 : Slot W1 w.heap.size (.mk k (a + 1) m nm lb l) (.slice A n c) := by rw [← hW1]; exact (Slot.new w (.mk k (a + 1) m nm lb l) (.slice A n c) 27 rfl).below (entry_below _) (by simp)
  have hs2 : Slot W1 (w.heap.size + 1) Ex.nul (.slice none 0 0) := by
    have h := entry_slot (w.alloc (.cells #[.int .i64 k, .int .i64 (a + 1), .int .i64 m, .string nm, .string lb, .slice A n c] 27))
    rw [hW1] at h
    simpa using h
  have hx1 : Shx W1 (fun b => b < w.heap.size) (.slice A n c) l := ((Shx.weak (S' := fun b => b < w.heap.size) hx fun b _ h => h).under hb1 (fun b h _ => h))
  have HW1 := Lib.hid hW1
  have H1 := Lib.hid hs1
  have H2 := Lib.hid hs2
  have HX1 := Lib.hid hx1
  have HB1 := Lib.hid hb1
  have HSZ1 := Lib.hid hsz1
  clear ih hins hwf hins' hwf' hx hn hs1 hs2 hx1 hb1 ha0 haN hsz1 hW1
  show Calls Tryd.prog 32 #[.agg #[.int .i64 k, .int .i64 a, .int .i64 m, .string nm, .string lb, .slice A n c]] w _
  go_enter Tryd.func32, Tryd.ntmps32
  go_wp2_with fail
  rw [HW1.out]
  go_loopw [3, 4] (fun lv iv wr => ∃ (L : List (Ex × Value)) (i : Nat), iv = .int .i64 (i : Int) ∧ i ≤ n ∧ L.map (·.1) = (l.take i).map (Ex.sh 1) ∧ Own wr W1.heap.size 27 6 lv L.length (xcs L) ∧ (∀ x ∈ L, Shx wr (fun b => W1.heap.size ≤ b ∧ lv.ownBlock ≠ some b) x.2 x.1.l) ∧ Below W1.heap.size W1 wr) (fun _ iv _ => n - (intOf iv).toNat)
  case atStart => exact ⟨[], 0, rfl, Nat.zero_le _, rfl, Own.nil _ _ _ _ (Nat.le_refl _), (fun x hx => by cases hx), Below.refl _ _⟩
  case round =>
    obtain ⟨L, i, rfl, hi, hm, ho, htr, hb⟩ := hrel
    have hwr := hb.size
    have hLi : L.length = i := by
      have h1 := congrArg List.length hm
      rw [List.length_map, List.length_map, List.length_take] at h1
      have h2 := HN.out
      omega
    have HM := Lib.hid hm
    have HO := Lib.hid ho
    have HTR := Lib.hid htr
    have HB := Lib.hid hb
    have c5 : wr.cell? ⟨w.heap.size, 5, none⟩ = some (.slice A n c) := (H1.out.below hb H1.out.lt).cs 5 _ rfl
    clear hm ho htr hb
    have hsz := HSZ1.out
    by_cases hin : i < n
    · obtain ⟨b, off, x, lv2, hA, hxi, _, hrange, hys, _, hbl⟩ := (HX1.out.under HB.out (fun b h _ => by have h : b < w.heap.size := h; omega)).at hin
      subst hA
      have HIH := Lib.hid (IH.out x (List.mem_of_getElem? hxi) lv2)
      have HY := Lib.hid hys
      have HR := Lib.hid hrange
      have HXI := Lib.hid hxi
      obtain ⟨A3, c3, rfl, _⟩ := hys.len
      clear hys hrange hxi
      go_wp2_with (first
        | (refine wpList_ldx' rfl (.tmp 20) rfl b (off + i * 6) rfl HR.out ?_)
        | (go_at_call 32; refine (HIH.out _ _ HY.out).mono ?_; rintro e w5 ⟨kv, rfl, hx5, b5⟩; obtain ⟨A5, c5', rfl, _⟩ := hx5.len; have hone5 := hx5.one; have HX5 := Lib.hid hx5; have HB5 := Lib.hid b5; have hs5 := b5.size; clear hx5 b5; dsimp only [exV])
        | (at_builtin; refine wpList_push_h rfl (.tmp 16) (.tmp 23) 25 rfl rowEx w5 W1.heap.size _ L.length (xcs L) (exC (x.sh 1) (.slice A5 (x.sh 1).l.length c5')) rfl (HO.out.gn (below_fr HB5.out (some wr.heap.size)) (Nat.le_refl _)) rfl rfl rfl (exC_one (x.sh 1) hone5) (by omega) (by omega) ?_; intro v7 w7 ho7 hg7 hv7; have HO7 := Lib.hid ho7; have HG7' := Lib.hid hg7; have HV7 := Lib.hid hv7; have hs7 := hg7.size; simp at hs7; clear ho7 hg7 hv7)
        | fail)
      have hownlt : ∀ j, u3.ownBlock = some j → W1.heap.size ≤ j ∧ j < wr.heap.size := fun j hj => HO.out.1.lt j hj
      have HO8 : Hid (Own w7 W1.heap.size 27 6 v7 (L ++ [(x.sh 1, Value.slice A5 (x.sh 1).l.length c5')]).length (xcs (L ++ [(x.sh 1, Value.slice A5 (x.sh 1).l.length c5')]))) := Lib.hid (HO7.out.cast (by simp) (xcs_snoc L (x.sh 1, Value.slice A5 (x.sh 1).l.length c5')).symm)
      have hg7 : (w5.alloc (.cells (exC (x.sh 1) (.slice A5 (x.sh 1).l.length c5')).toArray 27)).grownBy w7 u3.ownBlock := HG7'.out
      have hv7 : v7.ownBlock = u3.ownBlock ∨ v7.ownBlock = some (w5.heap.size + 1) := HV7.out
      have hold : ∀ (zs : Value) (zl : List Ex), Shx w5 (fun b => W1.heap.size ≤ b ∧ u3.ownBlock ≠ some b ∧ b < w5.heap.size) zs zl → Shx w7 (fun b => W1.heap.size ≤ b ∧ v7.ownBlock ≠ some b) zs zl := fun zs zl hh => by
        refine ((hh.under ((Below.refl _ _).alloc (Nat.le_refl _) _) (by intro b _ hb; exact hb)).grown hg7 (by intro b hb _ e; exact hb.2.1 e.symm)).weak ?_
        intro b hb _
        refine ⟨hb.1, fun e => ?_⟩
        rcases hv7 with h | h
        · exact hb.2.1 (h ▸ e)
        · rw [h] at e
          injection e with e
          omega
      have hmap : (L ++ [(x.sh 1, Value.slice A5 (x.sh 1).l.length c5')]).map (·.1) = (l.take (i + 1)).map (Ex.sh 1) := by
        rw [List.map_append, HM.out, List.take_add_one, HXI.out, List.map_append]
        rfl
      refine ⟨⟨L ++ [(x.sh 1, Value.slice A5 (x.sh 1).l.length c5')], i + 1, by go_num, hin, hmap, HO8.out, fun y hy => ?_, ?_⟩, by simp [intOf]; omega⟩
      · rcases List.mem_append.1 hy with hy | hy
        · exact hold _ _ (((HTR.out y hy).weak (S' := fun b => (W1.heap.size ≤ b ∧ u3.ownBlock ≠ some b) ∧ b < wr.heap.size) (fun b h1 h2 => ⟨h1, h2⟩)).under HB5.out (fun b h _ => h.2) |>.weak fun b h1 h2 => ⟨h1.1.1, h1.1.2, h2⟩)
        · rw [List.mem_singleton.1 hy]
          exact hold _ _ (HX5.out.weak fun b h1 h2 => ⟨Nat.le_trans hwr h1, fun e => by have h1 : wr.heap.size ≤ b := h1; have := (hownlt b e).2; omega, h2⟩)
      · exact bel_own ((HB.out.trans (HB5.out.mono hwr)).alloc (by omega) _) hg7 (fun j hj => (hownlt j hj).1) (by simp; omega)
    · obtain rfl : i = n := by omega
      obtain ⟨A3, c3, h3⟩ := HO.out.form
      rw [hLi] at h3
      subst h3
      have f5 := (H1.out.below HB.out (by omega)).fz 5 (by omega)
      have HS1 : Hid (Slot (wr.setCell ⟨w.heap.size, 5, none⟩ (.slice A3 i c3)) w.heap.size (.mk k (a + 1) m nm lb (l.map (Ex.sh 1))) (.slice A3 i c3)) := Lib.hid ((H1.out.below HB.out (by omega)).setc 5 (by omega) (fun i u hu => by
        match i, hu with
        | 0, hu => exact .inr ⟨by omega, hu⟩
        | 1, hu => exact .inr ⟨by omega, hu⟩
        | 2, hu => exact .inr ⟨by omega, hu⟩
        | 3, hu => exact .inr ⟨by omega, hu⟩
        | 4, hu => exact .inr ⟨by omega, hu⟩
        | 5, hu => exact .inl ⟨rfl, by simpa [exC] using hu.symm⟩
        | i + 6, hu => simp [exC] at hu))
      have HG1 := Lib.hid (gb_set wr w.heap.size 5 (.slice A3 i c3))
      have HS2 : Hid (Slot (wr.setCell ⟨w.heap.size, 5, none⟩ (.slice A3 i c3)) (w.heap.size + 1) Ex.nul (.slice none 0 0)) := Lib.hid ((H2.out.below HB.out (by omega)).grown HG1.out (by intro e; injection e; omega))
      have HT : Hid (Shx wr (fun b => W1.heap.size ≤ b) (.slice A3 i c3) (l.map (Ex.sh 1))) := Lib.hid (by
        have h1 := Shx.of_own (S := fun b => W1.heap.size ≤ b) HO.out rfl (fun x hx => (HTR.out x hx).weak fun b hb _ => hb.1) (fun b hb _ _ => hb)
        rw [HM.out, show l.take i = l by rw [← HN.out, List.take_length]] at h1
        exact h1)
      go_wp2_with (first
        | (refine wpList_ldx' rfl (.tmp 1) rfl w.heap.size 0 rfl HS1.out.cs ?_)
        | (refine wpList_stx rfl (.tmp 2) (.tmp 27) rfl (w.heap.size + 1) rfl HS2.out (e := (.mk k (a + 1) m nm lb (l.map (Ex.sh 1)))) (lv := .slice A3 i c3) rfl rfl ?_; intro w6 hg6 hs6; have HG6 := Lib.hid hg6; have HS6 := Lib.hid hs6; clear hg6 hs6)
        | fail)
      refine ex_ret (i := 2) (by kernel_rfl) rfl rfl HS6.out ?_
      refine ⟨.slice A3 i c3, by rw [Ex.sh_eq], ?_, ?_⟩
      · rw [Ex.sh_eq]
        exact (((HT.out.grown HG1.out (by intro b hb _ e; injection e; have hb : W1.heap.size ≤ b := hb; omega)).grown HG6.out (by intro b hb _ e; injection e; have hb : W1.heap.size ≤ b := hb; omega))).weak (fun b hb _ => by have hb : W1.heap.size ≤ b := hb; show w.heap.size ≤ b; omega)
      · exact bel_fr (bel_fr (HB1.out.trans (HB.out.mono (by omega))) HG1.out (Nat.le_refl _) (by omega)) HG6.out (by omega) (by simp; omega)
end Go.Proofs.YtbpmgghonnoooaaDoor
