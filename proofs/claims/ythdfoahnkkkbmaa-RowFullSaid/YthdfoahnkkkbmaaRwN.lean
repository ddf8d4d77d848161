/-
  CONTRACT OF row.New, over add's; all that is asked of tables (the trial's row.go).
-/
import Derived.Test.YthdfoahnkkkbmaaRwA
namespace Go.Proofs.Ythdfoahnkkkbmaa
set_option linter.unusedVariables false
set_option linter.unusedSimpArgs false
open Go.RowKit Go.Maps

def RAddTo (w : World) (X : Nat → Prop) (g : Nat) (ns : List ByteArray) (s : ByteArray) (e : Ending) (w' : World) : Prop := e = .returned (.int .i64 (tbad ns s : Int)) ∧ (tbad ns s = 0 → RwAt w' X g (ns ++ [s])) ∧ Keeps X w w'
/-- What is asked of add. -/
def RAdd : Prop := ∀ (w : World) (X : Nat → Prop) (g : Nat) (ns : List ByteArray) (s : ByteArray), RwAt w X g ns → s.size ≤ 1000 → Calls Try.prog 46 #[.pointer (some ⟨g, 0, none⟩), .string s] w (RAddTo w X g ns s)
theorem zero_tab (w : World) : (zeroValue 96).run Try.prog w = .ok (.agg #[.slice none 0 0, .map none]) w := by kernel_rfl
theorem tab_zero (w : World) : RwAt ((w.alloc (.map #[] 0)).alloc (.cells #[.slice none 0 0, .map (some w.heap.size)] 96)) (fun b => b < w.heap.size) (w.heap.size + 1) [] := by
  have hm : NumAt (w.alloc (.map #[] 0)) w.heap.size [] := NumAt.made w
  have hb := Blk.new (w.alloc (.map #[] 0)) 96 [.slice none 0 0, .map (some w.heap.size)]
  have e : (w.alloc (.map #[] 0)).heap.size = w.heap.size + 1 := by simp
  rw [e] at hb
  refine ⟨by omega, fun b hb => by simp; omega, ⟨.slice none 0 0, w.heap.size, hb, Row.nil _ _ _, hm.stay ?_, by omega⟩, List.nodup_nil, Nat.zero_le _, fun s hs => by cases hs⟩
  exact Below.heap_alloc _ _ _ (by simp)
theorem rwC_of {X : Nat → Prop} {g : Nat} {ns : List ByteArray} : RwC ns g (fun w => RwAt w X g ns) where
  stay := fun h b => h.stay b
  len := fun h => (rwlen_any h).mono fun e w' ⟨h1, h2⟩ => ⟨h1, h2 ▸ Below.refl _ _⟩
  set := fun A n c L h hL hn hs => rwset_any h A n c L hL hn hs
  names := fun s hs h => rwnames_any h s hs
def RNewTo (w : World) (l : List ByteArray) (e : Ending) (w' : World) : Prop := Below w.heap.size w w' ∧ match newT l with
    | (some ns, _, _) => ∃ g P, e = .returned (.tuple #[.pointer (some ⟨g, 0, none⟩), .int .i64 0, .int .i64 0]) ∧ RwC ns g P ∧ P w'
    | (none, i, x) => e = .returned (.tuple #[.pointer none, .int .i64 (i : Int), .int .i64 (x : Int)])
theorem rnewTo_yes {w w' : World} {l ns : List ByteArray} {X : Nat → Prop} {g : Nat} (h : newT l = (some ns, 0, 0)) (hb : Below w.heap.size w w') (ha : RwAt w' X g ns) : RNewTo w l (.returned (.tuple #[.pointer (some ⟨g, 0, none⟩), .int .i64 0, .int .i64 0])) w' := by
  refine ⟨hb, ?_⟩
  rw [h]
  exact ⟨g, _, rfl, rwC_of, ha⟩
theorem rnewTo_no {w w' : World} {l : List ByteArray} {i x : Nat} (h : newT l = (none, i, x)) (hb : Below w.heap.size w w') : RNewTo w l (.returned (.tuple #[.pointer none, .int .i64 (i : Int), .int .i64 (x : Int)])) w' := by
  refine ⟨hb, ?_⟩
  rw [h]
set_option maxRecDepth 100000 in
set_option maxHeartbeats 800000 in
theorem rwnew_any (HADD : RAdd) (w : World) (A : Option Addr) (n c : Nat) (L : List OPn) (hL : ShW w w.heap.size A n L) (hn : n ≤ 1000) (hs : ∀ t ∈ L, t.1.size ≤ 1000) :
    Calls Try.prog 23 #[.slice A n c] w (RNewTo w (L.map (·.1))) := by
  have hz := zero_tab
  have hzn := zeroName16
  have hmm := @run_makeMap Try.prog
  have HLn := Lib.hid hL.len
  have HS := Lib.hid hs
  have HZ := Lib.hid (tab_zero w)
  have HB0 : Hid (Below w.heap.size w ((w.alloc (.map #[] 0)).alloc (.cells #[.slice none 0 0, .map (some w.heap.size)] 96))) := Lib.hid (((Below.refl _ _).alloc (Nat.le_refl _) _).alloc (by simp) _)
  have HY := Lib.hid (fun (w' : World) (ns : List ByteArray) (X : Nat → Prop) (g : Nat) => rnewTo_yes (w := w) (w' := w') (l := L.map (·.1)) (ns := ns) (X := X) (g := g))
  have HNO := Lib.hid (fun (w' : World) (i x : Nat) => rnewTo_no (w := w) (w' := w') (l := L.map (·.1)) (i := i) (x := x))
  unfold newT at HY HNO
  clear hs
  go_enter Try.func23, Try.ntmps23
  go_wp2
  obtain ⟨g, hg⟩ : ∃ g, w.heap.size + 1 = g := ⟨_, rfl⟩
  rw [hg] at HZ
  rw [hg]
  clear hg
  go_loopw [2, 12] (fun p i wr => ∃ (k : Nat) (ns : List ByteArray), p = .pointer (some ⟨g, 0, none⟩) ∧ i = .int .i64 (k : Int) ∧ k ≤ n ∧ Hid (tadds [] (L.map (·.1)) 0 = tadds ns ((L.map (·.1)).drop k) k) ∧ Hid (RwAt wr (fun b => b < w.heap.size) g ns) ∧ Hid (Below w.heap.size w wr)) (fun _ i _ => n - (intOf i).toNat)
  case atStart => exact ⟨0, [], rfl, rfl, Nat.zero_le _, Lib.hid rfl, HZ, HB0⟩
  case round =>
    obtain ⟨k, ns, rfl, rfl, hk, HE, HO, HB⟩ := hrel
    obtain ⟨wa, hwa⟩ : ∃ wa, wa = wr := ⟨_, rfl⟩
    subst hwa
    by_cases hlt : k < n
    · obtain ⟨b, off, t, rfl, hb, hget, hdr, c0, c1⟩ := (hL.below HB.out).at hlt
      obtain ⟨s, at_⟩ := t
      dsimp only at c0 c1
      have hsz := HS.out _ (List.mem_of_getElem? hget)
      dsimp only at hsz
      have hD : (L.map (·.1)).drop k = s :: (L.map (·.1)).drop (k + 1) := by rw [← List.map_drop, hdr, List.map_cons, List.map_drop]
      have BW : Below wa.heap.size wa (wa.alloc (.cells #[.string s, .int .i64 at_] 44)) := (Below.refl _ _).alloc (Nat.le_refl _) _
      have HA := Lib.hid (HADD _ _ _ _ s (HO.out.stay BW) hsz)
      have HB1 := Lib.hid (HB.out.trans (BW.mono HB.out.size))
      unfold RAddTo at HA
      have HK := Lib.hid (fun (w2 : World) (K : Keeps (fun b => b < w.heap.size) (wa.alloc (.cells #[.string s, .int .i64 at_] 44)) w2) => HB1.out.trans (K.below (B := w.heap.size) (fun _ h => h)))
      have he := HE.out
      rw [hD, tadds] at he
      clear hget hdr hsz BW hD
      by_cases hb0 : tbad ns s = 0
      · rw [if_pos hb0] at he
        have HE2 := Lib.hid he
        rw [hb0] at HA
        clear he hb0 HE
        go_wp2_with (first
          | (go_at_call 46; with_reducible refine HA.out.mono ?_; rintro e w2 ⟨rfl, hO2, hK2⟩; have HO2 := Lib.hid (hO2 rfl); have HK2 := Lib.hid (HK.out _ hK2); clear hO2 hK2)
          | go_in)
        go_roundw
        case rel => exact ⟨k + 1, ns ++ [s], rfl, by go_num, hlt, HE2, HO2, HK2⟩
        case measure => simp [intOf]; omega
      · rw [if_neg hb0] at he
        have HE2 := Lib.hid he
        obtain ⟨x, hx⟩ : ∃ x, tbad ns s = x := ⟨_, rfl⟩
        rw [hx] at HA HE2 hb0
        have hne : ((x : Int) != 0) = true := by simp; omega
        have hnq : ¬ (x : Int) = 0 := by omega
        clear he hx HE
        go_wp2_with (first
          | (go_at_call 46; with_reducible refine HA.out.mono ?_; rintro e w2 ⟨rfl, hO2, hK2⟩; have HK2 := Lib.hid (HK.out _ hK2); clear hO2 hK2)
          | go_in)
        go_ret3
        exact HNO.out _ _ _ HE2.out HK2.out
    · obtain rfl : k = n := by omega
      have HE3 := Lib.hid (show tadds [] (L.map (·.1)) 0 = (some ns, 0, 0) by rw [HE.out, List.drop_of_length_le (by rw [List.length_map, HLn.out]; exact Nat.le_refl _)]; rfl)
      clear HE
      go_wp2
      go_ret3
      exact HY.out _ _ _ _ HE3.out HB.out HO.out
theorem rw_all (HADD : RAdd) : RwAll where
  new := fun w A n c L hL hn hs => rwnew_any HADD w A n c L hL hn hs
  nlen := fun w => (rwlen_nil w).mono fun e w' ⟨h1, h2⟩ => ⟨h1, h2 ▸ Below.refl _ _⟩
  nnames := fun w s => rwnames_nil w s
  nset := fun w A n c L hL hn hs => rwset_nil w A n c L hL hn
  within := fun w a b ha hb => rwwithin_any w a b ha hb
  count := fun w s hs => rwcount_any w s hs
end Go.Proofs.Ythdfoahnkkkbmaa
