/-
  CONTRACT OF 'expr.Height', 'expr.alone'.
-/
import Derived.Test.YtnhhdafhnngolaaDoorEpL
import Derived.Test.YtnhhdafhnngolaaDoorEpN
namespace Go.Proofs.YtnhhdafhnngolaaDoor
set_option linter.unusedVariables false
set_option linter.unusedSimpArgs false
open Go.RowKit

theorem alone_any (k : Int) (w : World) (h : ¬ (k = 0 ∨ k = 1 ∨ k = 2)) : Calls Tryd.prog 46 #[.int .i64 k] w fun e w' => e = .returned (.bool false) ∧ w = w' := by
  have e0 : (k == 0) = false := by simp; omega
  have e1 : (k == 1) = false := by simp; omega
  have e2 : (k == 2) = false := by simp; omega
  clear h
  go_enter Tryd.func46, Tryd.ntmps46
  go_wp2
  go_ret
  exact ⟨by simp [e0, e1, e2], rfl⟩

theorem rowXs : RowT Tryd.prog 86 25 1 24 := RowT.mk (z := .slice none 0 0) Tryd.underlying86 (by kernel_rfl) rfl (by omega)
/-- A row of rows that is shown: its slices, what they show. -/
def ShR (w : World) (A : Option Addr) (n : Nat) (PL : List (Value × List Ex)) : Prop := Sh w w.heap.size A n (PL.map (·.1)) ∧ PL.length = n ∧ ∀ p ∈ PL, p.2 ≠ [] ∧ Shx w (fun _ => True) p.1 p.2
def flat (PL : List (Value × List Ex)) : List Ex := (PL.map (·.2)).flatten
theorem flat_cons (p : Value × List Ex) (PL : List (Value × List Ex)) : flat (p :: PL) = p.2 ++ flat PL := by simp [flat]
theorem flat_snoc (PL : List (Value × List Ex)) (p : Value × List Ex) : flat (PL ++ [p]) = flat PL ++ p.2 := by simp [flat]
theorem flat_split (PL : List (Value × List Ex)) (k : Nat) : flat PL = flat (PL.take k) ++ flat (PL.drop k) := by
  unfold flat
  rw [← List.flatten_append, ← List.map_append, List.take_append_drop]
theorem flat_ne {PL : List (Value × List Ex)} (h : ∀ p ∈ PL, p.2 ≠ []) (hn : 0 < PL.length) : flat PL ≠ [] := by
  cases PL with
  | nil => simp at hn
  | cons p PL =>
    have := h p (by simp)
    unfold flat
    simp [this]
theorem flat_take {PL : List (Value × List Ex)} {k : Nat} {p : Value × List Ex} (h : PL[k]? = some p) : flat (PL.take (k + 1)) = flat (PL.take k) ++ p.2 := by
  rw [List.take_add_one, h]
  exact flat_snoc _ _

/-- A load of an expression, its cells told. -/
theorem wpList_ldx' {ops : Array Oper} {rest : List Oper} {o : Oper} {a : Act} {w : World} {Q : Exit → Act → World → Prop} (hgd : o.guard = none) (x : Operand) (ho : o.op = .load 27 x) (G off : Nat) (hx : a.eval x = .pointer (some ⟨G, off, none⟩)) {e : Ex} {lv : Value} (hs : w.rangeAt G off (exC e lv))
    (h : wpList Tryd.prog ops Q rest (a.put o.dst (.agg #[.int .i64 e.k, .int .i64 e.a, .int .i64 e.m, .string e.nm, .string e.lb, lv])) w) : wpList Tryd.prog ops Q (o :: rest) a w :=
  wpList_ldx hgd x ho G off hx hs h

set_option maxRecDepth 10000 in
set_option maxHeartbeats 1600000 in
theorem height_any (x : Ex) (hx : x.wfx) (hc : x.cnt ≤ 1000000) (lv : Value) (w : World) (S : Nat → Prop) (h : Shx w S lv x.l) :
    Calls Tryd.prog 15 #[exV x lv] w fun e w' => e = .returned (.int .i64 (x.ht : Int)) ∧ Below w.heap.size w w' := by
  have h1 := h.one
  have hz := zeroEx'
  have hht : x.ht ≤ 1000000 := Nat.le_trans (by
    have : ∀ e : Ex, e.ht ≤ e.cnt := Ex.ind fun k a m nm lb l ih => by
      rw [Ex.ht_eq, Ex.cnt_eq]
      show hts l + 1 ≤ cnts l + 1
      have : ∀ l : List Ex, (∀ x ∈ l, x.ht ≤ x.cnt) → hts l ≤ cnts l := by
        intro l
        induction l with
        | nil => intro _; exact Nat.le_refl _
        | cons y l ih =>
          intro h
          rw [hts_cons, cnts_cons]
          have h1 := h y (by simp)
          have h2 := ih fun z hz => h z (by simp [hz])
          omega
      have := this l ih
      omega
    exact this x) hc
  unfold exV
  go_enter Tryd.func15, Tryd.ntmps15
  go_wp2_with fail
  obtain ⟨w1, hw1⟩ : ∃ w1, w1 = ((w.alloc (.cells #[.int .i64 x.k, .int .i64 x.a, .int .i64 x.m, .string x.nm, .string x.lb, lv] 27)).alloc (.cells #[.int .i64 x.k, .int .i64 x.a, .int .i64 x.m, .string x.nm, .string x.lb, lv] 27)).alloc (.cells #[.slice (some ⟨w.heap.size + 1, 0, none⟩) 1 1] 25) := ⟨_, rfl⟩
  have hb1 : Below w.heap.size w w1 := by rw [hw1]; exact (((Below.refl _ w).alloc (Nat.le_refl _) _).alloc (by simp) _).alloc (by simp; omega) _
  have hs1 : ShR w1 (some ⟨w.heap.size + 1 + 1, 0, none⟩) 1 [(.slice (some ⟨w.heap.size + 1, 0, none⟩) 1 1, [x])] := by
    refine ⟨?_, rfl, ?_⟩
    · have := Sh.lit ((w.alloc (.cells #[.int .i64 x.k, .int .i64 x.a, .int .i64 x.m, .string x.nm, .string x.lb, lv] 27)).alloc (.cells #[.int .i64 x.k, .int .i64 x.a, .int .i64 x.m, .string x.nm, .string x.lb, lv] 27)) [.slice (some ⟨w.heap.size + 1, 0, none⟩) 1 1] 25
      rw [hw1]
      simpa using this
    · intro p hp
      obtain rfl : p = (.slice (some ⟨w.heap.size + 1, 0, none⟩) 1 1, [x]) := by simpa using hp
      refine ⟨by simp, ?_⟩
      have hA : Shx (w.alloc (.cells #[.int .i64 x.k, .int .i64 x.a, .int .i64 x.m, .string x.nm, .string x.lb, lv] 27)) (fun _ => True) lv x.l := (h.weak (S' := fun _ => True) fun _ _ _ => trivial).under ((Below.refl _ w).alloc (Nat.le_refl _) _) (fun b _ hb => hb)
      have hB := Shx.lit [(x, lv)] (by simp) (fun p hp => by obtain rfl : p = (x, lv) := by simpa using hp
                                                             exact hA) trivial (C := #[.int .i64 x.k, .int .i64 x.a, .int .i64 x.m, .string x.nm, .string x.lb, lv]) rfl
      have hC := hB.under ((Below.refl _ _).alloc (Nat.le_refl _) (.cells #[.slice (some ⟨w.heap.size + 1, 0, none⟩) 1 1] 25)) (fun b _ hb => hb)
      rw [hw1]
      simpa using hC
  have hf1 : x.ht = hts (flat [((.slice (some ⟨w.heap.size + 1, 0, none⟩) 1 1 : Value), [x])]) := by
    show _ = max x.ht 0
    omega
  have hf2 : cnts (flat [((.slice (some ⟨w.heap.size + 1, 0, none⟩) 1 1 : Value), [x])]) ≤ 1000000 := by
    show x.cnt + 0 ≤ _
    omega
  have hf3 : wfs (flat [((.slice (some ⟨w.heap.size + 1, 0, none⟩) 1 1 : Value), [x])]) := fun y hy => by
    have : y = x := by simpa [flat] using hy
    rw [this]; exact hx
  rw [← hw1]
  have HB1 := Lib.hid hb1
  have HS1 := Lib.hid hs1
  have HF1 := Lib.hid hf1
  have HF3 := Lib.hid hf3
  clear hw1 hb1 hs1 hf1 hf3 h hx
  go_loopw [3, 4] (fun hv rv wr => ∃ (k n : Nat) (A : Option Addr) (c : Nat) (PL : List (Value × List Ex)), hv = .int .i64 (k : Int) ∧ rv = .slice A n c ∧ ShR wr A n PL ∧ k + hts (flat PL) = x.ht ∧ cnts (flat PL) ≤ 1000000 ∧ wfs (flat PL) ∧ Below w.heap.size w wr) (fun hv _ _ => x.ht - (intOf hv).toNat)
  case atStart => exact ⟨0, 1, _, 1, _, rfl, rfl, HS1.out, by rw [← HF1.out]; omega, hf2, HF3.out, HB1.out⟩
  case round =>
    obtain ⟨k, n, A, c, PL, rfl, rfl, hsr, hk, hcn, hwf, hb⟩ := hrel
    have HSR := Lib.hid hsr
    have HK := Lib.hid hk
    have HWF := Lib.hid hwf
    have HB := Lib.hid hb
    have hnl : n ≤ 1000000 := by
      have h1 : ∀ PL : List (Value × List Ex), (∀ p ∈ PL, p.2 ≠ []) → PL.length ≤ (flat PL).length := by
        intro PL
        induction PL with
        | nil => intro _; exact Nat.le_refl _
        | cons p PL ih =>
          intro h
          have h1 := ih fun q hq => h q (by simp [hq])
          have h2 : 0 < p.2.length := List.length_pos_iff.2 (h p (by simp))
          rw [flat_cons, List.length_append, List.length_cons]
          omega
      have h2 := h1 PL fun p hp => (hsr.2.2 p hp).1
      have h3 := cnts_len (flat PL)
      have := hsr.2.1
      omega
    have hkh : k ≤ x.ht := by omega
    have HHT := Lib.hid hht
    clear hsr hk hwf hb HS1 HF1 HF3 hf2 HB1
    by_cases h0 : n = 0
    · subst h0
      have HP : Hid (PL = []) := Lib.hid (List.eq_nil_of_length_eq_zero HSR.out.2.1)
      go_wp2
      go_ret
      refine ⟨?_, HB.out⟩
      have := HK.out
      rw [HP.out] at this
      rw [← this]
      rfl
    · have hpos : decide ((0 : Int) < (n : Int)) = true := by simp; omega
      have hposn : decide (0 < n) = true := by simp; omega
      have h0n : 0 < n := by omega
      have H0N := Lib.hid h0n
      clear h0n h0
      go_wp2
      obtain ⟨wo, rfl⟩ : ∃ wo, wo = wr := ⟨_, rfl⟩
      obtain ⟨B, hB⟩ : ∃ B, wo.heap.size = B := ⟨_, rfl⟩
      have HBB := Lib.hid hB
      have htr : ∀ p ∈ PL, p.2 ≠ [] ∧ Shx wo (fun b => b < B) p.1 p.2 := fun p hp => ⟨(HSR.out.2.2 p hp).1, (HSR.out.2.2 p hp).2.weak fun b _ hb => by omega⟩
      have HTR := Lib.hid htr
      have hlen : PL.length = n := HSR.out.2.1
      have HLEN := Lib.hid hlen
      clear htr hlen hB
      obtain ⟨b, off, _, hA, hbb, _, _⟩ := HSR.out.1.at H0N.out
      subst hA
      go_loopw [5, 20] (fun bv iv wm => ∃ (j : Nat) (PM : List (Value × List Ex)), iv = .int .i64 (j : Int) ∧ j ≤ n ∧ Own wm B 25 1 bv PM.length (PM.map (·.1)) ∧ (∀ p ∈ PM, p.2 ≠ [] ∧ Shx wm (fun b => b < B) p.1 p.2) ∧ flat PM = under (flat (PL.take j)) ∧ PM.length ≤ (flat (PL.take j)).length ∧ Below B wo wm) (fun _ iv _ => n - (intOf iv).toNat)
      case atStart => exact ⟨0, [], rfl, Nat.zero_le _, Own.nil _ _ _ _ (by rw [HBB.out]; exact Nat.le_refl _), (fun p hp => by cases hp), rfl, Nat.zero_le _, Below.refl _ _⟩
      case round =>
        obtain ⟨j, PM, rfl, hj, ho, hpm, hfl, hpl, hbm⟩ := hrel
        have HO := Lib.hid ho
        have HPM := Lib.hid hpm
        have HFL := Lib.hid hfl
        have HPL := Lib.hid hpl
        have HBM := Lib.hid hbm
        clear ho hpm hfl hpl hbm
        by_cases hjn : j < n
        · obtain ⟨_, _, u, hA, _, hu, hcell⟩ := (HSR.out.1.below (by rw [HBB.out]; exact HBM.out)).at hjn
          cases hA
          rw [List.getElem?_map] at hu
          obtain ⟨p, hp, rfl⟩ := Option.map_eq_some_iff.1 hu
          obtain ⟨v, l⟩ := p
          obtain ⟨hpn, hps⟩ := HTR.out _ (List.mem_of_getElem? hp)
          dsimp only at hpn hps hcell
          obtain ⟨A2, c2, rfl, hlc⟩ := hps.len
          have HP := Lib.hid hp
          have HPS := Lib.hid hps
          have hfj : (flat (PL.take j)).length + l.length ≤ 1000000 := by
            have h1 := congrArg List.length (flat_take hp)
            have h2 := congrArg List.length (flat_split PL (j + 1))
            have h3 := cnts_len (flat PL)
            rw [List.length_append] at h1 h2
            dsimp only at h1
            omega
          have hll : l.length ≤ 1000000 := by omega
          have hlpos : 0 < l.length := List.length_pos_iff.2 hpn
          obtain ⟨b2, off2, _, _, hA2, _, _, _, _, _, _⟩ := hps.at hlpos
          subst hA2
          have HPN := Lib.hid hpn
          have HFJ := Lib.hid hfj
          have HLW : Hid (wfs l) := Lib.hid (fun y hy => HWF.out y (by
            unfold flat
            exact List.mem_flatten.2 ⟨l, List.mem_map.2 ⟨_, List.mem_of_getElem? hp, rfl⟩, hy⟩))
          obtain ⟨m, hm⟩ : ∃ m, l.length = m := ⟨_, rfl⟩
          have HM := Lib.hid hm
          rw [hm] at hlc hll hfj HPS hcell
          clear hp hps hpn hu hm hfj
          go_wp2
          obtain ⟨wi, rfl⟩ : ∃ wi, wi = wr := ⟨_, rfl⟩
          go_loopw [5, 26] (fun bv iv wq => ∃ (q : Nat) (PM : List (Value × List Ex)), iv = .int .i64 (q : Int) ∧ q ≤ m ∧ Own wq B 25 1 bv PM.length (PM.map (·.1)) ∧ (∀ p ∈ PM, p.2 ≠ [] ∧ Shx wq (fun b => b < B) p.1 p.2) ∧ flat PM = under (flat (PL.take j) ++ l.take q) ∧ PM.length ≤ (flat (PL.take j)).length + q ∧ Below B wo wq) (fun _ iv _ => m - (intOf iv).toNat)
          case atStart => exact ⟨0, PM, rfl, Nat.zero_le _, HO.out, HPM.out, by rw [List.take_zero, List.append_nil]; exact HFL.out, HPL.out, HBM.out⟩
          case round =>
            obtain ⟨q, PN, rfl, hq, ho, hpm, hfl, hpl, hbm⟩ := hrel
            have HON := Lib.hid ho
            have HPN2 := Lib.hid hpm
            have HFN := Lib.hid hfl
            have HPLN := Lib.hid hpl
            have HBN := Lib.hid hbm
            clear ho hpm hfl hpl hbm
            by_cases hqm : q < m
            · have hss : Shx wr (fun b => b < B) (.slice (some ⟨b2, off2, none⟩) m c2) l := HPS.out.under HBN.out (fun b h1 _ => h1)
              obtain ⟨_, _, y, lv2, hA2, hy, _, hrange, hys, _, _⟩ := hss.at hqm
              cases hA2
              have HR := Lib.hid hrange
              have HYS := Lib.hid hys
              have HY := Lib.hid hy
              have hone := hys.one
              obtain ⟨A3, c3, rfl, hlc3⟩ := hys.len
              have hwy := HLW.out y (List.mem_of_getElem? hy)
              have hwy1 := ((y.wfx_eq).1 hwy).1
              have hwy2 := ((y.wfx_eq).1 hwy).2.1
              have hge := HON.out.2
              have hpn3 : PN.length ≤ 1000000 := by have := HPLN.out; have := HFJ.out; rw [HM.out] at this; omega
              obtain ⟨r, hr⟩ : ∃ r, y.l.length = r := ⟨_, rfl⟩
              have HRL := Lib.hid hr
              rw [hr] at HR HYS hlc3 hwy2
              have HLF := Lib.hid hwy1
              have hb9 : ∀ t, Below B wo (wr.alloc (.cells #[.int .i64 y.k, .int .i64 y.a, .int .i64 y.m, .string y.nm, .string y.lb, .slice A3 r c3] t)) := fun t => HBN.out.alloc (by omega) _
              have HB9 := Lib.hid hb9
              clear hss hrange hys hy hr hwy1 hwy hb9
              have hFq : flat (PL.take j) ++ l.take (q + 1) = (flat (PL.take j) ++ l.take q) ++ [y] := by
                rw [List.take_add_one, HY.out, List.append_assoc]; rfl
              have HFQ := Lib.hid hFq
              clear hFq
              by_cases hr0 : r = 0
              · subst hr0
                have HL0 : Hid (y.l = []) := Lib.hid (List.eq_nil_of_length_eq_zero HRL.out)
                go_wp2_with (first
                  | (refine wpList_ldx' rfl (.tmp 28) rfl b2 (off2 + q * 6) rfl HR.out ?_)
                  | fail)
                go_roundw
                case rel =>
                  refine ⟨q + 1, PN, by go_num, hqm, HON.out.alloc _, fun p hp => ⟨(HPN2.out p hp).1, (HPN2.out p hp).2.under ((Below.refl B wr).alloc hge _) (fun b h1 _ => h1)⟩, ?_, by have := HPLN.out; omega, HB9.out _⟩
                  rw [HFQ.out, under_app, under_one, HL0.out, List.append_nil]
                  exact HFN.out
                case measure => simp [intOf]; omega
              · have hpos2 : (0 : Int) < (r : Int) := by omega
                have hal : ¬ (y.k = 0 ∨ y.k = 1 ∨ y.k = 2) := fun h => hr0 (by have := HLF.out h; have h2 := HRL.out; rw [this] at h2; exact h2.symm)
                have HAL := Lib.hid hal
                clear hal
                go_wp2_with (first
                  | (refine wpList_ldx' rfl (.tmp 28) rfl b2 (off2 + q * 6) rfl HR.out ?_)
                  | (go_at_call 46; refine (alone_any _ _ HAL.out).mono ?_; rintro e w9 ⟨rfl, rfl⟩)
                  | (at_builtin; refine wpList_push_g rfl (.tmp 40) (.tmp 43) 86 rfl rowXs _ B _ PN.length (PN.map (·.1)) [.slice A3 r c3] rfl (HON.out.alloc _) rfl (by simp) rfl (by intro z hz; simp at hz; subst hz; rfl) (by omega) (by omega) ?_; intro v2 w2 ho2 hg2)
                  | fail)
                go_roundw
                case rel =>
                  have hsz : wr.heap.size ≤ w2.heap.size := by have := hg2.size; simp at this; omega
                  have hbelow : Below B wr w2 := ((((Below.refl B wr).alloc hge _).alloc (by simp; omega) _).grown hg2 (by simp; omega) (fun k hk => (HON.out.1.lt k hk).1))
                  refine ⟨q + 1, PN ++ [(.slice A3 r c3, y.l)], by go_num, hqm, ?_, ?_, ?_, by have := HPLN.out; simp; omega, HBN.out.trans hbelow⟩
                  · exact ho2.cast (by simp) (by simp)
                  · intro p hp
                    rcases List.mem_append.1 hp with hp | hp
                    · exact ⟨(HPN2.out p hp).1, (HPN2.out p hp).2.under hbelow (fun b h1 _ => h1)⟩
                    · obtain rfl : p = (.slice A3 r c3, y.l) := by simpa using hp
                      exact ⟨fun e => hr0 (by have h9 : y.l.length = r := HRL.out; have e' : y.l = [] := e; rw [e'] at h9; exact h9.symm), HYS.out.under hbelow (fun b h1 _ => h1)⟩
                  · rw [HFQ.out, under_app, under_one, flat_snoc, HFN.out]
                case measure => simp [intOf]; omega
            · obtain rfl : q = m := by omega
              go_wp2
              go_roundw
              case rel =>
                have e1 : flat (PL.take j) ++ l.take q = flat (PL.take (j + 1)) := by
                  rw [flat_take HP.out, List.take_of_length_le (l := l) (by rw [HM.out]; exact Nat.le_refl _)]
                refine ⟨j + 1, PN, by go_num, hjn, HON.out, HPN2.out, by rw [← e1]; exact HFN.out, ?_, HBN.out⟩
                have h2 := congrArg List.length (flat_take HP.out)
                rw [List.length_append] at h2
                dsimp only at h2
                have := HPLN.out
                have := HM.out
                omega
              case measure => simp [intOf]; omega
        · obtain rfl : j = n := by omega
          obtain ⟨A9, c9, rfl⟩ := HO.out.form
          go_wp2
          go_roundw
          case rel =>
            have e1 : PL.take j = PL := List.take_of_length_le (by rw [HLEN.out]; exact Nat.le_refl _)
            have hF := HFL.out
            rw [e1] at hF
            have hne : flat PL ≠ [] := flat_ne (fun p hp => (HTR.out p hp).1) (by rw [HLEN.out]; exact H0N.out)
            have hh := under_hts hne
            have hcc := under_cnt (flat PL)
            have hK := HK.out
            refine ⟨k + 1, PM.length, A9, c9, PM, by go_num, rfl, ⟨HO.out.sh, rfl, fun p hp => ⟨(HPM.out p hp).1, (HPM.out p hp).2.weak fun _ _ _ => trivial⟩⟩, ?_, ?_, ?_, HB.out.trans (HBM.out.mono (by rw [← HBB.out]; exact HB.out.size))⟩
            · rw [hF]; omega
            · rw [hF]; omega
            · rw [hF]; exact under_wfs HWF.out
          case measure =>
            have e1 : PL.take j = PL := List.take_of_length_le (by rw [HLEN.out]; exact Nat.le_refl _)
            have hne : flat PL ≠ [] := flat_ne (fun p hp => (HTR.out p hp).1) (by rw [HLEN.out]; exact H0N.out)
            have hh := under_hts hne
            have hK := HK.out
            have hk1 : IntKind.i64.wrap ((k : Int) + 1) = (k : Int) + 1 := IntWalk.i64_in _ (by have := HHT.out; omega)
            simp [intOf, hk1]
            omega
end Go.Proofs.YtnhhdafhnngolaaDoor
