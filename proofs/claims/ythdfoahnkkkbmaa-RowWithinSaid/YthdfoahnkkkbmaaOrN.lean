/-
  CONTRACT OF New.
  CONTRACT OF the law's 'awake': the document's examples.
-/
import Derived.Test.YthdfoahnkkkbmaaOrD
import Derived.Deep.QuietTactic
import Derived.BigQuiet
namespace Go.Proofs.Ythdfoahnkkkbmaa
set_option linter.unusedVariables false
set_option linter.unusedSimpArgs false
open Go.RowKit Go.Maps

/-! ### rows of pairs -/
abbrev OPa := OPr × Int
def ShP (w : World) (B : Nat) (A : Option Addr) (n : Nat) (L : List OPa) : Prop :=
  L.length = n ∧ (0 < n → ∃ b off, A = some ⟨b, off, none⟩ ∧ b < B ∧ ∀ k t, L[k]? = some t → w.cell? ⟨b, off + k * 3, none⟩ = some (.string t.1.1) ∧ w.cell? ⟨b, off + k * 3 + 1, none⟩ = some (.string t.1.2) ∧ w.cell? ⟨b, off + k * 3 + 2, none⟩ = some (.int .i64 t.2))
section
variable {w w' : World} {B n : Nat} {A : Option Addr} {L : List OPa}
theorem ShP.nil (w : World) (B : Nat) (A : Option Addr) : ShP w B A 0 [] := ⟨rfl, fun h => absurd h (by omega)⟩
theorem ShP.len (h : ShP w B A n L) : L.length = n := h.1
theorem ShP.below (h : ShP w B A n L) (hb : Below B w w') : ShP w' B A n L :=
  ⟨h.1, fun hn => by
    obtain ⟨b, off, e, hB, hc⟩ := h.2 hn
    refine ⟨b, off, e, hB, fun k t ht => ?_⟩
    have hk := fun j => hb.cell (p := ⟨b, off + k * 3 + j, none⟩) hB
    obtain ⟨h0, h1, h2⟩ := hc k t ht
    exact ⟨(hk 0).trans h0, (hk 1).trans h1, (hk 2).trans h2⟩⟩
theorem ShP.at (h : ShP w B A n L) {k : Nat} (hk : k < n) : ∃ b off t, A = some ⟨b, off, none⟩ ∧ b < B ∧ L[k]? = some t ∧ L.drop k = t :: L.drop (k + 1) ∧ w.cell? ⟨b, off + k * 3, none⟩ = some (.string t.1.1) ∧ w.cell? ⟨b, off + k * 3 + 1, none⟩ = some (.string t.1.2) ∧ w.cell? ⟨b, off + k * 3 + 2, none⟩ = some (.int .i64 t.2) := by
  obtain ⟨b, off, e, hB, hc⟩ := h.2 (by omega)
  have hl : k < L.length := by rw [h.1]; exact hk
  have hg : L[k]? = some L[k] := List.getElem?_eq_getElem hl
  exact ⟨b, off, L[k], e, hB, hg, List.drop_eq_getElem_cons hl, hc k _ hg⟩
end

def NewTo (w : World) (l : List OPr) (e : Ending) (w' : World) : Prop :=
  Below w.heap.size w w' ∧ match newO l with
    | (none, i, x) => e = .returned (.tuple #[.pointer none, .int .i64 (i : Int), .int .i64 (x : Int)])
    | (some o, _, _) => ∃ g, e = .returned (.tuple #[.pointer (some ⟨g, 0, none⟩), .int .i64 0, .int .i64 0]) ∧ OrdAt w' (fun b => b < w.heap.size) g o
theorem newTo_add {w w' : World} {l : List OPr} {o : Od} {k : Nat} {p : OPr} {r : List OPr} (h : Od.zero.adds l 0 = o.adds (p :: r) k) (he : (o.add p).2 ≠ 0) (hb : Below w.heap.size w w') :
    NewTo w l (.returned (.tuple #[.pointer none, .int .i64 (k : Int), .int .i64 ((o.add p).2 : Int)])) w' := by
  refine ⟨hb, ?_⟩
  have e1 : Od.zero.adds l 0 = (o, k, (o.add p).2) := by rw [h, Od.adds, if_pos he]
  have e2 : newO l = (none, k, (o.add p).2) := by unfold newO; rw [e1, if_pos he]
  rw [e2]
theorem newTo_bad {w w' : World} {l : List OPr} {o : Od} {k : Nat} (h : Od.zero.adds l 0 = (o, 0, 0)) (he : o.fol.bad l 0 = some k) (hb : Below w.heap.size w w') :
    NewTo w l (.returned (.tuple #[.pointer none, .int .i64 (k : Int), .int .i64 16])) w' := by
  refine ⟨hb, ?_⟩
  have e2 : newO l = (none, k, 16) := by unfold newO; rw [h, if_neg (fun h => h rfl)]; dsimp only; rw [he]
  rw [e2]
  rfl
theorem newTo_ok {w w' : World} {l : List OPr} {o : Od} {g : Nat} (h : Od.zero.adds l 0 = (o, 0, 0)) (he : o.fol.bad l 0 = none) (hb : Below w.heap.size w w') (ho : OrdAt w' (fun b => b < w.heap.size) g o.fol) :
    NewTo w l (.returned (.tuple #[.pointer (some ⟨g, 0, none⟩), .int .i64 0, .int .i64 0])) w' := by
  refine ⟨hb, ?_⟩
  have e2 : newO l = (some o.fol, 0, 0) := by unfold newO; rw [h, if_neg (fun h => h rfl)]; dsimp only; rw [he]
  rw [e2]
  exact ⟨g, rfl, ho⟩

/-- An order's zero. -/
def ozl : List Value := .slice none 0 0 :: .map none :: (List.replicate 128 (.int .u64 0))
theorem zero_ord (w : World) : (zeroValue 65).run Try.prog w = .ok (.agg ozl.toArray) w := by
  have h : (Try.prog.info? 65).map (fun i => i.zero) = some (some (.agg ozl.toArray)) := by kernel_rfl
  obtain ⟨i, hi, hz⟩ := Option.map_eq_some_iff.1 h
  simp [zeroValue, typeInfo, hi, hz]

theorem ozl_cells (m : Nat) : ozl.set 1 (.map (some m)) = ocells (.slice none 0 0) m (fun _ => 0) (fun _ => 0) := by
  unfold ocells ozl
  rw [List.set_cons_succ, List.set_cons_zero]
  rfl
theorem ord_zero (w : World) : OrdAt ((w.alloc (.map #[] 0)).alloc (.cells (ozl.set 1 (.map (some w.heap.size))).toArray 65)) (fun b => b < w.heap.size) (w.heap.size + 1) Od.zero := by
  have hm : NumAt (w.alloc (.map #[] 0)) w.heap.size [] := NumAt.made w
  have hb := Blk.new (w.alloc (.map #[] 0)) 65 (ozl.set 1 (.map (some w.heap.size)))
  refine ⟨by omega, fun b hb => by simp; omega, ⟨.slice none 0 0, w.heap.size, ?_, Row.nil _ _ _, hm.stay ?_, by omega⟩, Od.Wf.zero, fun s hs => by cases hs⟩
  · rw [ozl_cells] at hb
    have e : (w.alloc (.map #[] 0)).heap.size = w.heap.size + 1 := by simp
    rw [e] at hb
    rw [ozl_cells]
    exact hb
  · exact Below.heap_alloc _ _ _ (by simp)

set_option maxRecDepth 100000 in
set_option maxHeartbeats 800000 in
theorem onew_any (A : Option Addr) (n c : Nat) (L : List OPa) (w : World) (hL : ShP w w.heap.size A n L) (hn : n ≤ maxLen) (hs : ∀ t ∈ L, t.1.1.size ≤ maxLen ∧ t.1.2.size ≤ maxLen) :
    Calls Try.prog 10 #[.slice A n c] w (NewTo w (L.map (·.1))) := by
  unfold maxLen at hn
  have hz := zero_ord
  have hoz : ¬ ozl.length < 2 := by decide
  have hmm := @run_makeMap Try.prog
  have HLn := Lib.hid hL.len
  have HS := Lib.hid hs
  have HN1 := Lib.hid (fun (o : Od) (k : Nat) (p : OPr) (r : List OPr) (w' : World) => newTo_add (w := w) (w' := w') (l := L.map (·.1)) (o := o) (k := k) (p := p) (r := r))
  have HN2 := Lib.hid (fun (o : Od) (k : Nat) (w' : World) => newTo_bad (w := w) (w' := w') (l := L.map (·.1)) (o := o) (k := k))
  have HN3 := Lib.hid (fun (o : Od) (g : Nat) (w' : World) => newTo_ok (w := w) (w' := w') (l := L.map (·.1)) (o := o) (g := g))
  have HZ := Lib.hid (ord_zero w)
  have HB0 : Hid (Below w.heap.size w ((w.alloc (.map #[] 0)).alloc (.cells (ozl.set 1 (.map (some w.heap.size))).toArray 65))) := Lib.hid (((Below.refl _ _).alloc (Nat.le_refl _) _).alloc (by simp) _)
  have hlen : n ≤ 2 ^ 63 - 1 := hn
  clear hs
  go_enter Try.func10, Try.ntmps10
  go_wp2
  obtain ⟨g, hg⟩ : ∃ g, w.heap.size + 1 = g := ⟨_, rfl⟩
  rw [hg] at HZ
  rw [hg]
  have HG := Lib.hid hg
  clear hg
  go_loopw [2, 14] (fun p i wr => ∃ (k : Nat) (o : Od), p = .pointer (some ⟨g, 0, none⟩) ∧ i = .int .i64 (k : Int) ∧ k ≤ n ∧ Hid (Od.zero.adds (L.map (·.1)) 0 = o.adds ((L.map (·.1)).drop k) k) ∧ Hid (OrdAt wr (fun b => b < w.heap.size) g o) ∧ Hid (Below w.heap.size w wr)) (fun _ i _ => n - (intOf i).toNat)
  case atStart => exact ⟨0, Od.zero, rfl, rfl, Nat.zero_le _, Lib.hid rfl, HZ, HB0⟩
  case round =>
    obtain ⟨k, o, rfl, rfl, hk, HE, HO, HB⟩ := hrel
    obtain ⟨wa, hwa⟩ : ∃ wa, wa = wr := ⟨_, rfl⟩
    subst hwa
    by_cases hlt : k < n
    · obtain ⟨b, off, t, rfl, hb, hget, hdr, c0, c1, c2⟩ := (hL.below HB.out).at hlt
      obtain ⟨⟨lo, hi⟩, at_⟩ := t
      dsimp only at c0 c1 c2
      have hsz := HS.out _ (List.mem_of_getElem? hget)
      dsimp only at hsz
      have HD := Lib.hid (show (L.map (·.1)).drop k = (lo, hi) :: (L.map (·.1)).drop (k + 1) by rw [← List.map_drop, hdr, List.map_cons, List.map_drop])
      have BW : Below wa.heap.size wa (wa.alloc (.cells #[.string lo, .string hi, .int .i64 at_] 25)) := (Below.refl _ _).alloc (Nat.le_refl _) _
      have HADD := Lib.hid (oadd_any (HO.out.stay BW) lo hi at_ hsz.1 hsz.2)
      have HB1 := Lib.hid (HB.out.trans (BW.mono HB.out.size))
      unfold AddTo at HADD
      have HK := Lib.hid (fun (w2 : World) (K : Keeps (fun b => b < w.heap.size) (wa.alloc (.cells #[.string lo, .string hi, .int .i64 at_] 25)) w2) => HB1.out.trans (K.below (B := w.heap.size) (fun _ h => h)))
      clear hget hdr hsz BW hL
      obtain ⟨r, hr⟩ : ∃ r, o.add (lo, hi) = r := ⟨_, rfl⟩
      rw [hr] at HADD
      obtain ⟨o', e'⟩ := r
      dsimp only at HADD
      have HR := Lib.hid hr
      clear hr
      by_cases he : e' = 0
      · subst he
        have HE2 := Lib.hid (show Od.zero.adds (L.map (·.1)) 0 = o'.adds ((L.map (·.1)).drop (k + 1)) (k + 1) by rw [HE.out, HD.out, Od.adds, HR.out]; rfl)
        go_wp2_with (first
          | (go_at_call 33; with_reducible refine HADD.out.mono ?_; rintro e w2 ⟨rfl, hO2, hK2⟩; have HO2 := Lib.hid (hO2 rfl); have HK2 := Lib.hid (HK.out _ hK2); clear hO2 hK2)
          | go_in)
        go_roundw
        case rel => exact ⟨k + 1, o', rfl, by go_num, hlt, HE2, HO2, HK2⟩
        case measure => simp [intOf]; omega
      · have hne : ((e' : Int) != 0) = true := by simp; omega
        have HNT := Lib.hid (fun (w2 : World) (hb : Below w.heap.size w w2) => HN1.out o k (lo, hi) ((L.map (·.1)).drop (k + 1)) w2 (by rw [HE.out, HD.out]) (by rw [HR.out]; exact he) hb)
        rw [HR.out] at HNT
        dsimp only at HNT
        go_wp2_with (first
          | (go_at_call 33; with_reducible refine HADD.out.mono ?_; rintro e w2 ⟨rfl, hO2, hK2⟩; have HK2 := Lib.hid (HK.out _ hK2); clear hO2 hK2)
          | go_in)
        go_ret3
        exact HNT.out _ HK2.out
    · obtain rfl : k = n := by omega
      have HE3 := Lib.hid (show Od.zero.adds (L.map (·.1)) 0 = (o, 0, 0) by rw [HE.out, List.drop_of_length_le (by rw [List.length_map, HLn.out]; exact Nat.le_refl _)]; rfl)
      have HF := Lib.hid (ofollow_any HO.out)
      have HB2 := Lib.hid (fun (w2 : World) (K : Keeps (fun b => b < w.heap.size) wa w2) => HB.out.trans (K.below (B := w.heap.size) (fun _ h => h)))
      go_wp2_with (first
        | (go_at_call 34; refine Hid.out ?_)
        | go_in)
      refine Lib.hid ?_
      with_reducible refine HF.out.mono ?_
      rintro e w2 ⟨rfl, hO2, hK2⟩
      have HO2 := Lib.hid hO2
      have HK2 := Lib.hid (HB2.out _ hK2)
      clear hO2 hK2
      go_wp2
      clear HO HE HB HF HB2 HN1
      obtain ⟨of, hof⟩ : ∃ of, o.fol = of := ⟨_, rfl⟩
      have HOF := Lib.hid hof
      rw [hof] at HO2
      clear hof
      go_loopw [2, 31] (fun p i wr => ∃ j : Nat, p = .pointer (some ⟨g, 0, none⟩) ∧ i = .int .i64 (j : Int) ∧ j ≤ k ∧ Hid (of.bad (L.map (·.1)) 0 = of.bad ((L.map (·.1)).drop j) j) ∧ Hid (OrdAt wr (fun b => b < w.heap.size) g of) ∧ Hid (Below w.heap.size w wr)) (fun _ i _ => k - (intOf i).toNat)
      case atStart => exact ⟨0, rfl, rfl, Nat.zero_le _, Lib.hid rfl, HO2, HK2⟩
      case round =>
        obtain ⟨j, rfl, rfl, hj, HE, HO, HB⟩ := hrel
        obtain ⟨wb, hwb⟩ : ∃ wb, wb = wr := ⟨_, rfl⟩
        subst hwb
        by_cases hlt2 : j < k
        · obtain ⟨b, off, t, rfl, hb, hget, hdr, c0, c1, c2⟩ := (hL.below HB.out).at hlt2
          obtain ⟨⟨lo, hi⟩, at_⟩ := t
          dsimp only at c0 c1 c2
          have hsz := HS.out _ (List.mem_of_getElem? hget)
          dsimp only at hsz
          have HD := Lib.hid (show (L.map (·.1)).drop j = (lo, hi) :: (L.map (·.1)).drop (j + 1) by rw [← List.map_drop, hdr, List.map_cons, List.map_drop])
          have BW : Below wb.heap.size wb (wb.alloc (.cells #[.string lo, .string hi, .int .i64 at_] 25)) := (Below.refl _ _).alloc (Nat.le_refl _) _
          have hO1 := HO.out.stay BW
          have HO1 := Lib.hid hO1
          have HB1 := Lib.hid (HB.out.trans (BW.mono HB.out.size))
          have HMO := Lib.hid (fun q => omost_any (hO1.drewN q) (of.num hi : Int) (of.num lo : Int))
          rw [Od.mostI_nat] at HMO
          obtain ⟨m, cm, lk⟩ := hO1.looks
          have l1 := lk hi hsz.2
          have l2 := lk lo hsz.1
          have hnew : Blk (wb.alloc (.cells #[.string lo, .string hi, .int .i64 at_] 25)) wb.heap.size 25 [.string lo, .string hi, .int .i64 at_] := Blk.new _ _ _
          have d0 := hnew.cell 0
          have d1 := hnew.cell 1
          have HST := Lib.hid (show of.bad ((L.map (·.1)).drop j) j = if !(decide (hi.size = 0)) && of.most (of.num hi) (of.num lo) then some j else of.bad ((L.map (·.1)).drop (j + 1)) (j + 1) by rw [HD.out]; rfl)
          obtain ⟨M, hM⟩ : ∃ M, of.most (of.num hi) (of.num lo) = M := ⟨_, rfl⟩
          rw [hM] at HMO HST
          clear hM hget hdr hsz BW hO1 lk hnew hL
          by_cases h0 : hi.size = 0
          · have hz : (hi.toList == []) = true := by rw [toList_nil]; simpa using h0
            have HE2 := Lib.hid (show of.bad (L.map (·.1)) 0 = of.bad ((L.map (·.1)).drop (j + 1)) (j + 1) by rw [HE.out, HST.out]; simp [h0])
            go_wp2
            obtain ⟨wc, hwc⟩ : ∃ wc, wb.alloc (.cells #[.string lo, .string hi, .int .i64 at_] 25) = wc := ⟨_, rfl⟩
            rw [hwc] at HO1 HB1 d0 d1 l1 l2 cm HMO
            rw [hwc]
            clear hwc h0
            go_quiet (fail)
            go_wp2
            go_roundw
            case rel => exact ⟨j + 1, rfl, by go_num, hlt2, HE2, Lib.hid (HO1.out.drewN _), Lib.hid (HB1.out.trans ((Quiet.one _ _).below _))⟩
            case measure => simp [intOf]; omega
          · have hz : (hi.toList == []) = false := by rw [toList_nil]; simpa using h0
            cases M with
            | false =>
              have HE2 := Lib.hid (show of.bad (L.map (·.1)) 0 = of.bad ((L.map (·.1)).drop (j + 1)) (j + 1) by rw [HE.out, HST.out]; simp)
              go_wp2
              obtain ⟨wc, hwc⟩ : ∃ wc, wb.alloc (.cells #[.string lo, .string hi, .int .i64 at_] 25) = wc := ⟨_, rfl⟩
              rw [hwc] at HO1 HB1 d0 d1 l1 l2 cm HMO
              rw [hwc]
              clear hwc h0
              go_quiet ((go_at_call 13; exact Calls.quiet_of_same ((HMO.out _).mono fun e w' ⟨h1, h2⟩ => ⟨h1, h2.symm⟩)))
              go_wp2
              go_roundw
              case rel => exact ⟨j + 1, rfl, by go_num, hlt2, HE2, Lib.hid (HO1.out.drewN _), Lib.hid (HB1.out.trans ((Quiet.one _ _).below _))⟩
              case measure => simp [intOf]; omega
            | true =>
              have HE2 := Lib.hid (show of.bad (L.map (·.1)) 0 = some j by rw [HE.out, HST.out]; simp [h0])
              go_wp2
              obtain ⟨wc, hwc⟩ : ∃ wc, wb.alloc (.cells #[.string lo, .string hi, .int .i64 at_] 25) = wc := ⟨_, rfl⟩
              rw [hwc] at HO1 HB1 d0 d1 l1 l2 cm HMO
              rw [hwc]
              clear hwc h0
              go_quiet ((go_at_call 13; exact Calls.quiet_of_same ((HMO.out _).mono fun e w' ⟨h1, h2⟩ => ⟨h1, h2.symm⟩)))
              go_wp2
              go_ret3
              exact HN2.out o j _ HE3.out (by rw [HOF.out]; exact HE2.out) (HB1.out.trans ((Quiet.one _ _).below _))
        · obtain rfl : j = k := by omega
          have HE2 := Lib.hid (show of.bad (L.map (·.1)) 0 = none by rw [HE.out, List.drop_of_length_le (by rw [List.length_map, HLn.out]; exact Nat.le_refl _)]; rfl)
          go_wp2
          go_ret3
          exact HN3.out o g _ HE3.out (by rw [HOF.out]; exact HE2.out) HB.out (by rw [HOF.out]; exact HO.out)
end Go.Proofs.Ythdfoahnkkkbmaa
namespace Go.Proofs.Ythdfoahnkkkbmaa
set_option linter.unusedVariables false
set_option linter.unusedSimpArgs false
open Go.RowKit Go.Maps

def oa : ByteArray := ⟨#[97]⟩
def ob : ByteArray := ⟨#[98]⟩
def oc : ByteArray := ⟨#[99]⟩
theorem aw_one : (newO [(oa, ob), (ob, oc)]).1.map (fun o => o.low 2) = some 7 := by decide +kernel
theorem aw_two : (newO [(oa, ob), (ob, oa)]).2 = (0, 16) := by decide +kernel
theorem aw_two1 : (newO [(oa, ob), (ob, oa)]).1.isNone = true := by decide +kernel
theorem newTo_some {w w' : World} {l : List OPr} {e : Ending} (h : NewTo w l e w') {o : Od} (ho : (newO l).1 = some o) : Below w.heap.size w w' ∧ ∃ g, e = .returned (.tuple #[.pointer (some ⟨g, 0, none⟩), .int .i64 0, .int .i64 0]) ∧ OrdAt w' (fun b => b < w.heap.size) g o := by
  obtain ⟨h1, h2⟩ := h
  refine ⟨h1, ?_⟩
  split at h2
  · rename_i heq
    rw [heq] at ho
    cases ho
  · rename_i heq
    rw [heq] at ho
    cases ho
    exact h2
theorem newTo_none {w w' : World} {l : List OPr} {e : Ending} (h : NewTo w l e w') (ho : (newO l).1 = none) : Below w.heap.size w w' ∧ e = .returned (.tuple #[.pointer none, .int .i64 ((newO l).2.1 : Int), .int .i64 ((newO l).2.2 : Int)]) := by
  obtain ⟨h1, h2⟩ := h
  refine ⟨h1, ?_⟩
  split at h2
  · rename_i heq
    rw [heq]
    exact h2
  · rename_i heq
    rw [heq] at ho
    cases ho

/-- Two pairs, in the block that they were just laid in. -/
def o2b (a b c d : ByteArray) : Obj := .cells #[.string a, .string b, .int .i64 0, .string c, .string d, .int .i64 0] 25
theorem pairs_two (w : World) (a b c d : ByteArray) : ShP (w.alloc (o2b a b c d)) (w.alloc (o2b a b c d)).heap.size (some ⟨w.heap.size, 0, none⟩) 2 [((a, b), 0), ((c, d), 0)] := by
  have hb : Blk (w.alloc (o2b a b c d)) w.heap.size 25 [.string a, .string b, .int .i64 0, .string c, .string d, .int .i64 0] := Blk.new _ _ _
  refine ⟨rfl, fun _ => ⟨w.heap.size, 0, rfl, by simp, fun k t ht => ?_⟩⟩
  match k, ht with
  | 0, ht => cases ht; exact ⟨hb.cell 0, hb.cell 1, hb.cell 2⟩
  | 1, ht => cases ht; exact ⟨hb.cell 3, hb.cell 4, hb.cell 5⟩

set_option maxRecDepth 100000 in
set_option maxHeartbeats 800000 in
theorem awake13_any (w : World) : Calls Try.prog 11 #[] w fun e w' => e = .returned (.bool true) ∧ Below w.heap.size w w' := by
  obtain ⟨o, ho, hlow⟩ := Option.map_eq_some_iff.1 aw_one
  have H1 := Lib.hid (fun (w : World) => (onew_any (some ⟨w.heap.size, 0, none⟩) 2 2 [((oa, ob), 0), ((ob, oc), 0)] _ (pairs_two w oa ob ob oc) (by decide) (by decide)).mono fun e w' h => newTo_some h ho)
  have H2 := Lib.hid (fun (w : World) => (onew_any (some ⟨w.heap.size, 0, none⟩) 2 2 [((oa, ob), 0), ((ob, oa), 0)] _ (pairs_two w oa ob ob oa) (by decide) (by decide)).mono fun e w' h => newTo_none h (by simpa using aw_two1))
  unfold o2b oa ob oc at H1
  unfold o2b oa ob at H2
  have e2 := aw_two
  unfold oa ob at e2
  rw [show [((⟨#[97]⟩ : ByteArray), (⟨#[98]⟩ : ByteArray)), (⟨#[98]⟩, ⟨#[97]⟩)] = List.map (·.1) [(((⟨#[97]⟩ : ByteArray), (⟨#[98]⟩ : ByteArray)), (0 : Int)), ((⟨#[98]⟩, ⟨#[97]⟩), 0)] from rfl] at e2
  have E2 := Lib.hid e2
  have HL := Lib.hid hlow
  clear e2 hlow
  go_enter Try.func11, Try.ntmps11
  go_wp2_with (first
    | (go_at_call 10; with_reducible refine (H1.out _).mono ?_; rintro e w1 ⟨b1, g, rfl, hO⟩; have B1 := Lib.hid (((Below.refl w.heap.size w).alloc (Nat.le_refl _) _).trans (b1.mono (by simp))); have HO := Lib.hid hO; clear b1 hO)
    | (go_at_call 10; with_reducible refine (H2.out _).mono ?_; rintro e w2 ⟨b2, rfl⟩; rw [E2.out]; have B2 := Lib.hid (((Below.refl w1.heap.size w1).alloc (Nat.le_refl _) _).trans (b2.mono (by simp))); clear b2)
    | (go_at_call 35; refine (obelow_any (HO.out.stay B2.out) 2).mono ?_; rintro e w3 ⟨rfl, rfl⟩; rw [HL.out])
    | go_in)
  go_ret
  exact ⟨rfl, B1.out.trans (B2.out.mono B1.out.size)⟩
end Go.Proofs.Ythdfoahnkkkbmaa
