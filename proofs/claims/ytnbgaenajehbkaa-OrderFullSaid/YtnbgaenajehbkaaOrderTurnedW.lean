/-
  blazonlaw13.OrderTurned is true for every input: pairs the other way about make the order the other way about: one is at most another one just if that was at most it.
  Of more than 40 pairs, or names of more than 100 bytes, it says that the document's examples hold.
-/
import Derived.Test.YtnbgaenajehbkaaOrT
import Derived.Test.YtnbgaenajehbkaaOrO
namespace Go.Proofs.Ytnbgaenajehbkaa
set_option linter.unusedVariables false
set_option linter.unusedSimpArgs false
open Go.RowKit

theorem zeroPair (w : World) : (zeroValue 25).run Try.prog w = .ok (.agg #[.string ⟨#[]⟩, .string ⟨#[]⟩, .int .i64 0]) w := by kernel_rfl
theorem rowP : RowT Try.prog 22 25 3 40 := RowT.mk (z := .agg #[.string ⟨#[]⟩, .string ⟨#[]⟩, .int .i64 0]) Try.underlying22 (by kernel_rfl) rfl (by omega)
/-- Pairs as cells. -/
def prcs (L : List OPa) : List Value := L.flatMap fun t => [.string t.1.1, .string t.1.2, .int .i64 t.2]
theorem prcs_len (L : List OPa) : (prcs L).length = L.length * 3 := by
  unfold prcs
  induction L with
  | nil => rfl
  | cons a L ih => simp only [List.flatMap_cons, List.length_append, ih, List.length_cons, List.length_nil]; omega
theorem prcs_snoc (L : List OPa) (t : OPa) : prcs (L ++ [t]) = prcs L ++ [.string t.1.1, .string t.1.2, .int .i64 t.2] := by simp [prcs]
theorem prcs_at : ∀ {L : List OPa} {k : Nat} {t : OPa}, L[k]? = some t → (prcs L)[k * 3]? = some (.string t.1.1) ∧ (prcs L)[k * 3 + 1]? = some (.string t.1.2) ∧ (prcs L)[k * 3 + 2]? = some (.int .i64 t.2)
  | [], k, t, h => by cases h
  | a :: L, 0, t, h => by cases h; exact ⟨rfl, rfl, rfl⟩
  | a :: L, k + 1, t, h => by
    have := prcs_at (L := L) (k := k) (t := t) (by simpa using h)
    have e : prcs (a :: L) = [.string a.1.1, .string a.1.2, .int .i64 a.2] ++ prcs L := rfl
    rw [e]
    have hj : ∀ j, ([Value.string a.1.1, .string a.1.2, .int .i64 a.2] ++ prcs L)[3 + j]? = (prcs L)[j]? := fun j => by
      rw [List.getElem?_append_right (by simp)]
      congr 1
      simp
    rw [show (k + 1) * 3 = 3 + k * 3 by omega, hj, show 3 + k * 3 + 1 = 3 + (k * 3 + 1) by omega, hj, show 3 + k * 3 + 2 = 3 + (k * 3 + 2) by omega, hj]
    exact this
theorem ShP.of_own {w : World} {B n : Nat} {A : Option Addr} {c : Nat} {L : List OPa} (h : Own w B 25 3 (.slice A n c) n (prcs L)) (hl : L.length = n) : ShP w w.heap.size A n L := by
  refine ⟨hl, fun hn => ?_⟩
  obtain ⟨g, cap, hv, _, hlt⟩ := h.1.form hn
  have hA : A = some ⟨g, 0, none⟩ := by injection hv
  subst hA
  refine ⟨g, 0, rfl, hlt, fun k t ht => ?_⟩
  have hc := fun j u (hu : (prcs L)[j]? = some u) => h.1.cells (g := g) rfl j u hu
  obtain ⟨h0, h1, h2⟩ := prcs_at ht
  have a0 := hc _ _ h0
  have a1 := hc _ _ h1
  have a2 := hc _ _ h2
  rw [Addr.add_lit] at a0 a1 a2
  exact ⟨a0, a1, a2⟩
/-- A pair the other way about, as the law lays it. -/
def opturn (t : OPa) : OPa := if t.1.2.size = 0 then t else ((t.1.2, t.1.1), 0)
theorem opturn_map (L : List OPa) : (L.map opturn).map (·.1) = (L.map (·.1)).map oturn := by
  rw [List.map_map, List.map_map]
  refine List.map_congr_left fun t _ => ?_
  show (opturn t).1 = oturn t.1
  unfold opturn oturn
  split <;> rfl
theorem opturn_size {L : List OPa} (hs : ∀ t ∈ L, t.1.1.size ≤ maxLen ∧ t.1.2.size ≤ maxLen) : ∀ t ∈ L.map opturn, t.1.1.size ≤ maxLen ∧ t.1.2.size ≤ maxLen := by
  intro u hu
  obtain ⟨t, ht, rfl⟩ := List.mem_map.1 hu
  have := hs t ht
  unfold opturn
  split
  · exact this
  · exact ⟨this.2, this.1⟩

set_option maxRecDepth 100000 in
set_option maxHeartbeats 800000 in
theorem orderTurned_walk (A : Option Addr) (n c : Nat) (L : List OPa) (w : World) (hn : n ≤ maxLen) (hL : ShP w w.heap.size A n L) (hs : ∀ t ∈ L, t.1.1.size ≤ maxLen ∧ t.1.2.size ≤ maxLen) :
    Calls Try.prog 6 #[.slice A n c] w fun e w' => e = .returned (.bool true) ∧ Below w.heap.size w w' := by
  have HG := Lib.hid (ogreat_any A n c 40 L w hL hn (by decide) hs)
  cases hg : oGreat (L.map (·.1)) 40 with
  | true =>
    rw [hg] at HG
    clear hg
    go_enter Try.func6, Try.ntmps6
    go_wp2_with (first
      | (go_at_call 12; refine HG.out.mono ?_; rintro e w1 ⟨rfl, b1⟩; have B1 := Lib.hid b1; clear b1)
      | (go_at_call 9; refine (awake13_any _).mono ?_; rintro e w2 ⟨rfl, b2⟩)
      | go_in)
    go_ret
    exact ⟨rfl, B1.out.trans (b2.mono B1.out.size)⟩
  | false =>
    rw [hg] at HG
    have hn40 : n ≤ 40 := by have := (oGreat_no hg).1; rw [List.length_map, hL.len] at this; exact this
    clear hg
    have hzp := zeroPair
    have HLn := Lib.hid hL.len
    have HS := Lib.hid hs
    have HLL := Lib.hid hL
    go_enter Try.func6, Try.ntmps6
    go_wp2_with (first
      | (go_at_call 12; refine HG.out.mono ?_; rintro e w1 ⟨rfl, b1⟩; have B1 := Lib.hid b1; clear b1)
      | go_in)
    go_loopw [3, 4] (fun v i wr => ∃ k : Nat, i = .int .i64 (k : Int) ∧ k ≤ n ∧ Hid (Own wr w.heap.size 25 3 v k (prcs ((L.take k).map opturn))) ∧ Hid (Below w.heap.size w wr)) (fun _ i _ => n - (intOf i).toNat)
    case atStart => exact ⟨0, rfl, Nat.zero_le _, Lib.hid (Own.nil _ _ _ _ B1.out.size), B1⟩
    case round =>
      obtain ⟨k, rfl, hk, HV, HB⟩ := hrel
      obtain ⟨wa, hwa⟩ : ∃ wa, wa = wr := ⟨_, rfl⟩
      subst hwa
      by_cases hlt : k < n
      · obtain ⟨b, off, t, rfl, hb, hget, hdr, c0, c1, c2⟩ := (hL.below HB.out).at hlt
        obtain ⟨⟨lo, hi⟩, at_⟩ := t
        dsimp only at c0 c1 c2
        have htk : (L.take (k + 1)).map opturn = (L.take k).map opturn ++ [opturn ((lo, hi), at_)] := by
          rw [List.take_add_one, hget, List.map_append]
          rfl
        have HTK := Lib.hid htk
        have hown := HV.out
        clear htk hget hdr hL
        by_cases h0 : hi.size = 0
        · have hz : (hi.toList == []) = true := by rw [toList_nil]; simpa using h0
          have HE := Lib.hid (show opturn ((lo, hi), at_) = ((lo, hi), at_) by unfold opturn; rw [if_pos h0])
          have hb1 := Lib.hid (HB.out.trans ((Below.refl w.heap.size wa).alloc HB.out.size (.cells #[.string lo, .string hi, .int .i64 at_] 25)))
          go_wp2_with (first
            | (at_builtin; refine Hid.out ?_)
            | go_in)
          refine Lib.hid ?_
          refine wpList_push rfl (.tmp 40) (.tmp 42) 22 rfl rowP w _ w.heap.size _ k _ [.string lo, .string hi, .int .i64 at_] rfl (hown.alloc _) (by simp [Act.eval]) rfl (by intro u hu; simp at hu; rcases hu with rfl | rfl | rfl <;> rfl) hb1.out (by omega) (by omega) ?_
          intro v2 w2 ho2 hb2
          go_wp2
          refine ⟨⟨k + 1, by go_num, hlt, ?_, Lib.hid hb2⟩, by simp [intOf]; omega⟩
          rw [HTK.out, HE.out, prcs_snoc]
          exact Lib.hid ho2
        · have hz : (hi.toList == []) = false := by rw [toList_nil]; simpa using h0
          have HE := Lib.hid (show opturn ((lo, hi), at_) = ((hi, lo), 0) by unfold opturn; rw [if_neg h0])
          have hb1 := Lib.hid (HB.out.trans ((Below.refl w.heap.size wa).alloc HB.out.size (.cells #[.string hi, .string lo, .int .i64 0] 25)))
          go_wp2_with (first
            | (at_builtin; refine Hid.out ?_)
            | go_in)
          refine Lib.hid ?_
          refine wpList_push rfl (.tmp 40) (.tmp 42) 22 rfl rowP w _ w.heap.size _ k _ [.string hi, .string lo, .int .i64 0] rfl (hown.alloc _) (by simp [Act.eval]) rfl (by intro u hu; simp at hu; rcases hu with rfl | rfl | rfl <;> rfl) hb1.out (by omega) (by omega) ?_
          intro v2 w2 ho2 hb2
          go_wp2
          refine ⟨⟨k + 1, by go_num, hlt, ?_, Lib.hid hb2⟩, by simp [intOf]; omega⟩
          rw [HTK.out, HE.out, prcs_snoc]
          exact Lib.hid ho2
      · obtain rfl : k = n := by omega
        have hV := HV.out
        rw [List.take_of_length_le (by rw [HLn.out]; exact Nat.le_refl _)] at hV
        obtain ⟨A3, c3, rfl⟩ := hV.form
        have HV3 := Lib.hid hV
        have hN1 := onew_any A k c L wa (by
          have := hL.below HB.out
          exact ⟨this.1, fun hn => by
            obtain ⟨bb, off, e, hB, hc⟩ := this.2 hn
            exact ⟨bb, off, e, Nat.lt_of_lt_of_le hB HB.out.size, hc⟩⟩) hn HS.out
        have hN2 := fun (w2 : World) (b2 : Below wa.heap.size wa w2) => onew_any A3 k c3 (L.map opturn) w2 (ShP.of_own (HV3.out.below b2) (by rw [List.length_map]; exact HLn.out)) hn (opturn_size HS.out)
        simp only [opturn_map] at hN2
        have hleft := newO_left (l := L.map (·.1))
        have hboth := turned_both (l := L.map (·.1))
        have hsame := turned_same (l := L.map (·.1))
        have hlen0 : (L.map (·.1)).length = k := by rw [List.length_map, HLn.out]
        have hxnat := newO_nat (l := L.map (·.1))
        have hynat := newO_nat (l := (L.map (·.1)).map oturn)
        have HMEM : Hid (∀ p ∈ L.map (·.1), ∃ j, j < k ∧ ∃ t, L[j]? = some t ∧ t.1 = p) := Lib.hid fun p hp => by
          obtain ⟨t, ht, rfl⟩ := List.mem_map.1 hp
          obtain ⟨j, hj, rfl⟩ := List.getElem_of_mem ht
          exact ⟨j, by rw [← HLn.out]; exact hj, _, List.getElem?_eq_getElem hj, rfl⟩
        obtain ⟨lx, hlx⟩ : ∃ lx, L.map (·.1) = lx := ⟨_, rfl⟩
        rw [hlx] at hN1 hN2 hleft hboth hsame hxnat hynat HMEM
        have HXR := Lib.hid (fun o (h : (newO lx).1 = some o) => hxnat.2 ⟨o, h⟩)
        have HX0 := Lib.hid (show (newO lx).1 = none → ¬ (newO lx).2.2 = 0 from fun h e => by obtain ⟨o, ho⟩ := hxnat.1 e; rw [h] at ho; cases ho)
        have HY0 := Lib.hid (show (newO (lx.map oturn)).1 = none → ¬ (newO (lx.map oturn)).2.2 = 0 from fun h e => by obtain ⟨o, ho⟩ := hynat.1 e; rw [h] at ho; cases ho)
        have HYR := Lib.hid (fun o (h : (newO (lx.map oturn)).1 = some o) => hynat.2 ⟨o, h⟩)
        clear hxnat hynat hlx hlen0 HV hV HS
        cases hx : (newO lx).1 with
        | some x =>
          have hne : ∀ p ∈ lx, p.1.size ≠ 0 := Classical.byContradiction fun h => by
            have := hleft h
            have := HXR.out x hx
            omega
          cases hy : (newO (lx.map oturn)).1 with
          | none =>
            exact absurd ((hboth hne).1.1 (HXR.out x hx)) (HY0.out hy)
          | some y =>
            have H1 := Lib.hid (hN1.mono fun e w' h => newTo_some h hx)
            have H2 := Lib.hid (fun (w2 : World) (b2 : Below wa.heap.size wa w2) => (hN2 w2 b2).mono fun e w' h => newTo_some h hy)
            have hsm := hsame hne hx hy
            have HSM := Lib.hid hsm.2
            have HLE := Lib.hid hsm.1
            clear hN1 hN2 hleft hboth hsame hx hy hne hsm
            go_wp2_with (first
              | (go_at_call 8; with_reducible refine H1.out.mono ?_; rintro e w2 ⟨b2, g1, rfl, hO⟩; have B2 := Lib.hid b2; have O1 := Lib.hid hO; have H2' := Lib.hid (H2.out _ b2); clear b2 hO)
              | (go_at_call 8; with_reducible refine H2'.out.mono ?_; rintro e w3 ⟨b3, g2, rfl, hO⟩; have B3 := Lib.hid (B2.out.trans (b3.mono B2.out.size)); have O2 := Lib.hid hO; have O1 := Lib.hid (O1.out.stay b3); clear b3 hO)
              | go_in)
            have B4 := Lib.hid (HB.out.trans (B3.out.mono HB.out.size))
            have HLX := Lib.hid (olen_any O1.out)
            have HLY := Lib.hid (olen_any O2.out)
            have hxl := O1.out.wf.len
            obtain ⟨NX, hNX⟩ : ∃ NX, x.ns.length = NX := ⟨_, rfl⟩
            rw [← HLE.out, hNX] at HLY
            rw [hNX] at HLX hxl
            have HNX := Lib.hid hNX
            clear hNX H1 H2 H2' HXR HX0 HY0 HYR HMEM
            go_loopw [13] (fun i wr => ∃ a : Nat, i = .int .i64 (a : Int) ∧ a ≤ NX ∧ wr = w3) (fun i _ => NX - (intOf i).toNat)
            case atStart => exact ⟨0, rfl, Nat.zero_le _, rfl⟩
            case round =>
              obtain ⟨a, rfl, ha, rfl⟩ := hrel
              obtain ⟨wz, hwz⟩ : ∃ wz, wz = wr := ⟨_, rfl⟩
              subst hwz
              by_cases hlta : a < NX
              · go_wp2_with (first
                  | (go_at_call 10; with_reducible refine HLX.out.mono ?_; rintro e wx ⟨rfl, rfl⟩)
                  | go_in)
                go_loopw [14] (fun i wr => ∃ b : Nat, i = .int .i64 (b : Int) ∧ b ≤ NX ∧ wr = wz) (fun i _ => NX - (intOf i).toNat)
                case atStart => exact ⟨0, rfl, Nat.zero_le _, rfl⟩
                case round =>
                  obtain ⟨b, rfl, hb, rfl⟩ := hrel
                  by_cases hltb : b < NX
                  · have hla : a < x.ns.length := by rw [HNX.out]; exact hlta
                    have hlb : b < x.ns.length := by rw [HNX.out]; exact hltb
                    have ea : x.name (a : Int) = x.ns[a] := by unfold Od.name; rw [if_pos (by omega)]; simp [hla]
                    have eb : x.name (b : Int) = x.ns[b] := by unfold Od.name; rw [if_pos (by omega)]; simp [hlb]
                    have n1 := oname_any O1.out (a : Int)
                    have n2 := oname_any O1.out (b : Int)
                    rw [ea] at n1
                    rw [eb] at n2
                    have f1 := ofind_any O2.out x.ns[a] (O1.out.sz _ (List.getElem_mem _))
                    have f2 := ofind_any O2.out x.ns[b] (O1.out.sz _ (List.getElem_mem _))
                    have m1 := omost_any O1.out (a : Int) (b : Int)
                    have m2 := omost_any O2.out (y.num x.ns[b] : Int) (y.num x.ns[a] : Int)
                    rw [Od.mostI_nat] at m1 m2
                    rw [← HSM.out a b hla hlb] at m2
                    obtain ⟨M, hM⟩ : ∃ M, x.most a b = M := ⟨_, rfl⟩
                    obtain ⟨sa, hsa⟩ : ∃ s, x.ns[a] = s := ⟨_, rfl⟩
                    obtain ⟨sb, hsb⟩ : ∃ s, x.ns[b] = s := ⟨_, rfl⟩
                    rw [hM] at m1 m2
                    rw [hsa] at n1 f1 m2
                    rw [hsb] at n2 f2 m2
                    obtain ⟨na, hna⟩ : ∃ s, y.num sa = s := ⟨_, rfl⟩
                    obtain ⟨nb, hnb⟩ : ∃ s, y.num sb = s := ⟨_, rfl⟩
                    obtain ⟨ba, hba⟩ : ∃ s, (opos y.ns sa).isSome = s := ⟨_, rfl⟩
                    obtain ⟨bb, hbb⟩ : ∃ s, (opos y.ns sb).isSome = s := ⟨_, rfl⟩
                    rw [hna, hba] at f1
                    rw [hnb, hbb] at f2
                    rw [hna, hnb] at m2
                    have N1 := Lib.hid n1
                    have N2 := Lib.hid n2
                    have F1 := Lib.hid f1
                    have F2 := Lib.hid f2
                    have M1 := Lib.hid m1
                    have M2 := Lib.hid m2
                    clear n1 n2 f1 f2 m1 m2 hM hsa hsb hna hnb hba hbb ea eb hla hlb
                    have hMM : (M != M) = false := by simp
                    go_wp2_with (first
                      | (go_at_call 10; with_reducible refine HLX.out.mono ?_; rintro e wx ⟨rfl, rfl⟩)
                      | (go_at_call 15; with_reducible refine N1.out.mono ?_; rintro e wx ⟨rfl, rfl⟩)
                      | (go_at_call 15; with_reducible refine N2.out.mono ?_; rintro e wx ⟨rfl, rfl⟩)
                      | (go_at_call 14; with_reducible refine F1.out.mono ?_; rintro e wx ⟨rfl, rfl⟩)
                      | (go_at_call 14; with_reducible refine F2.out.mono ?_; rintro e wx ⟨rfl, rfl⟩)
                      | (go_at_call 11; with_reducible refine M1.out.mono ?_; rintro e wx ⟨rfl, rfl⟩)
                      | (go_at_call 11; with_reducible refine M2.out.mono ?_; rintro e wx ⟨rfl, rfl⟩)
                      | go_in)
                    go_roundw
                    case rel => exact ⟨b + 1, by go_num, hltb, (by trivial)⟩
                    case measure => simp [intOf]; omega
                  · obtain rfl : b = NX := by omega
                    go_wp2_with (first
                      | (go_at_call 10; with_reducible refine HLX.out.mono ?_; rintro e wx ⟨rfl, rfl⟩)
                      | go_in)
                    go_roundw
                    case rel => exact ⟨a + 1, by go_num, hlta, (by trivial)⟩
                    case measure => simp [intOf]; omega
              · obtain rfl : a = NX := by omega
                go_wp2_with (first
                  | (go_at_call 10; with_reducible refine HLX.out.mono ?_; rintro e wx ⟨rfl, rfl⟩)
                  | (go_at_call 10; with_reducible refine HLY.out.mono ?_; rintro e wx ⟨rfl, rfl⟩)
                  | (go_at_call 9; refine (awake13_any _).mono ?_; rintro e w5 ⟨rfl, b5⟩)
                  | go_in)
                go_ret
                exact ⟨rfl, B4.out.trans (b5.mono B4.out.size)⟩
        | none =>
          have hex := HX0.out hx
          have H1 := Lib.hid (hN1.mono fun e w' h => newTo_none h hx)
          cases hy : (newO (lx.map oturn)).1 with
          | some y =>
            have H2 := Lib.hid (fun (w2 : World) (b2 : Below wa.heap.size wa w2) => (hN2 w2 b2).mono fun e w' h => newTo_some h hy)
            have hnn : ¬ ∀ p ∈ lx, p.1.size ≠ 0 := fun h => hex ((hboth h).1.2 (HYR.out y hy))
            have hf : ∃ j, j < k ∧ ∃ t, L[j]? = some t ∧ t.1.1.size = 0 := Classical.byContradiction fun h => hnn fun p hp hz => by
              obtain ⟨j, hj, t, ht, rfl⟩ := HMEM.out p hp
              exact h ⟨j, hj, t, ht, hz⟩
            have HF := Lib.hid hf
            obtain ⟨R1, hR1⟩ : ∃ R, (newO lx).2.1 = R := ⟨_, rfl⟩
            obtain ⟨E1, hE1⟩ : ∃ R, (newO lx).2.2 = R := ⟨_, rfl⟩
            rw [hR1, hE1] at H1
            rw [hE1] at hex
            have hne1 : ((E1 : Int) == 0) = false := by simp; exact hex
            clear hN1 hN2 hleft hboth hsame hx hy hnn hf hR1 hE1 hex
            go_wp2_with (first
              | (go_at_call 8; with_reducible refine H1.out.mono ?_; rintro e w2 ⟨b2, rfl⟩; have B2 := Lib.hid b2; have H2' := Lib.hid (H2.out _ b2); clear b2)
              | (go_at_call 8; with_reducible refine H2'.out.mono ?_; rintro e w3 ⟨b3, g, rfl, hO⟩; have B3 := Lib.hid (B2.out.trans (b3.mono B2.out.size)); clear b3 hO)
              | go_in)
            have B4 := Lib.hid (HB.out.trans (B3.out.mono HB.out.size))
            go_loopw [12] (fun i wr => ∃ j : Nat, i = .int .i64 (j : Int) ∧ j ≤ k ∧ Hid (∀ m, m < j → ∀ t, L[m]? = some t → ¬ t.1.1.size = 0) ∧ wr = w3) (fun i _ => k - (intOf i).toNat)
            case atStart => exact ⟨0, rfl, Nat.zero_le _, Lib.hid (fun m hm => absurd hm (Nat.not_lt_zero _)), rfl⟩
            case round =>
              obtain ⟨j, rfl, hj, HNO, rfl⟩ := hrel
              by_cases hlt2 : j < k
              · obtain ⟨b, off, t, rfl, hb, hget, hdr, c0, c1, c2⟩ := (hL.below B4.out).at hlt2
                obtain ⟨⟨lo, hi⟩, at_⟩ := t
                dsimp only at c0
                by_cases h0 : lo.size = 0
                · have hz : (lo.toList == []) = true := by rw [toList_nil]; simpa using h0
                  clear hget hdr h0
                  go_wp2_with (first
                    | (go_at_call 9; refine (awake13_any _).mono ?_; rintro e w5 ⟨rfl, b5⟩)
                    | go_in)
                  go_ret
                  exact ⟨rfl, B4.out.trans (b5.mono B4.out.size)⟩
                · have hz : (lo.toList == []) = false := by rw [toList_nil]; simpa using h0
                  have HN' := Lib.hid (show ∀ m, m < j + 1 → ∀ t, L[m]? = some t → ¬ t.1.1.size = 0 from fun m hm t ht => by
                    rcases Nat.lt_or_ge m j with e | e
                    · exact HNO.out m e t ht
                    · obtain rfl : m = j := by omega
                      rw [hget] at ht
                      cases ht
                      exact h0)
                  clear hget hdr h0
                  go_wp2
                  go_roundw
                  case rel => exact ⟨j + 1, by go_num, hlt2, HN', (by trivial)⟩
                  case measure => simp [intOf]; omega
              · exfalso
                obtain ⟨m, hm, t, ht, hz⟩ := HF.out
                exact HNO.out m (by omega) t ht hz
          | none =>
            have hey := HY0.out hy
            have H2 := Lib.hid (fun (w2 : World) (b2 : Below wa.heap.size wa w2) => (hN2 w2 b2).mono fun e w' h => newTo_none h hy)
            have h16 : (newO lx).2.2 ≠ 16 ∨ ((newO lx).2.2 = 16 ∧ (newO (lx.map oturn)).2.2 ≠ 16) ∨ ((newO lx).2.2 = 16 ∧ (newO (lx.map oturn)).2.2 = 16 ∧ (newO lx).2.1 = (newO (lx.map oturn)).2.1) := by
              by_cases h1 : (newO lx).2.2 = 16
              · by_cases h2 : (newO (lx.map oturn)).2.2 = 16
                · refine .inr (.inr ⟨h1, h2, (hboth (Classical.byContradiction fun h => ?_)).2 h1 h2⟩)
                  have := hleft h
                  omega
                · exact .inr (.inl ⟨h1, h2⟩)
              · exact .inl h1
            obtain ⟨R1, hR1⟩ : ∃ R, (newO lx).2.1 = R := ⟨_, rfl⟩
            obtain ⟨E1, hE1⟩ : ∃ R, (newO lx).2.2 = R := ⟨_, rfl⟩
            obtain ⟨R2, hR2⟩ : ∃ R, (newO (lx.map oturn)).2.1 = R := ⟨_, rfl⟩
            obtain ⟨E2, hE2⟩ : ∃ R, (newO (lx.map oturn)).2.2 = R := ⟨_, rfl⟩
            rw [hR1, hE1] at H1
            rw [hE1] at hex
            rw [hR2, hE2] at H2
            rw [hE2] at hey
            rw [hE1, hE2, hR1, hR2] at h16
            have hne1 : ((E1 : Int) == 0) = false := by simp; exact hex
            have hne2 : ((E2 : Int) == 0) = false := by simp; exact hey
            have hne3 : ((E1 : Int) != 0) = true := by simp; exact hex
            have hcs : ((E1 : Int) != 16) = true ∨ (((E1 : Int) != 16) = false ∧ ((E2 : Int) != 16) = true) ∨ (((E1 : Int) != 16) = false ∧ ((E2 : Int) != 16) = false ∧ ((R1 : Int) == (R2 : Int)) = true) := by
              rcases h16 with h | ⟨h, h'⟩ | ⟨h, h', h''⟩
              · exact .inl (by simp; omega)
              · exact .inr (.inl ⟨by simp; omega, by simp; omega⟩)
              · exact .inr (.inr ⟨by simp; omega, by simp; omega, by simp; omega⟩)
            clear hN1 hN2 hleft hboth hsame hx hy hR1 hE1 hex hey hR2 hE2 h16
            rcases hcs with d1 | ⟨d1, d2⟩ | ⟨d1, d2, d3⟩
            all_goals
              go_wp2_with (first
                | (go_at_call 8; with_reducible refine H1.out.mono ?_; rintro e w2 ⟨b2, rfl⟩; have B2 := Lib.hid b2; have H2' := Lib.hid (H2.out _ b2); clear b2)
                | (go_at_call 8; with_reducible refine H2'.out.mono ?_; rintro e w3 ⟨b3, rfl⟩; have B3 := Lib.hid (B2.out.trans (b3.mono B2.out.size)); clear b3)
                | (go_at_call 9; refine (awake13_any _).mono ?_; rintro e w5 ⟨rfl, b5⟩)
                | go_in)
              go_ret
              exact ⟨rfl, (HB.out.trans (B3.out.mono HB.out.size)).trans (b5.mono (HB.out.trans (B3.out.mono HB.out.size)).size)⟩
end Go.Proofs.Ytnbgaenajehbkaa
