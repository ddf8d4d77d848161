/-
  Whatever is done with any disk, whenever its power goes off, and whatever is kept then, each call answers, and the disk shows, what the document says. It holds for all files, acts and numbers; of more than is looked at it says that the document's example holds.
-/
import Derived.Test.YtekhockdgglndaaPlays0
import Derived.Test.YtekhockdgglndaaDBulk
namespace Go.Proofs.Ytekhockdgglndaa
set_option linter.unusedVariables false
set_option linter.unusedSimpArgs false
open Go.RowKit Go.Maps

/-- What both answer of a name. -/
theorem Fine.read {S : St} {R : RS} {n : Nat} (F : Fine S R n) (s : ByteArray) : (S.read s.data.toList).2 = (R.read s).2 ∧ (match (R.read s).1 with | some r => r.data = (S.read s.data.toList).1 ∧ r.data.length = r.n | none => (S.read s.data.toList).1 = []) := by
  obtain ⟨ι, h⟩ := F.sim
  unfold St.read RS.read
  by_cases hd : S.dead = true
  · rw [if_pos hd, if_pos (by rw [h.dead]; exact hd)]
    exact ⟨rfl, rfl⟩
  · rw [if_neg hd, if_neg (by rw [h.dead]; exact hd)]
    have hf := h.find s
    cases hk : nat? s.data.toList S.names with
    | none =>
      rw [hk] at hf
      have hf : rfind R.now s = -1 := hf
      rw [if_pos (by omega)]
      exact ⟨rfl, rfl⟩
    | some b =>
      rw [hk] at hf
      have hf : rfind R.now s = (ι b : Int) := hf
      rw [if_neg (by rw [hf]; exact Int.not_lt.2 (Int.natCast_nonneg _)), hf, Int.toNat_natCast]
      obtain ⟨f, r, hfm, hb, hr, m, hdd⟩ := h.place F.inv hk
      have hfind : S.fs.find? (fun f => f.blk == b) = some f := by
        cases hq2 : S.fs.find? (fun f => f.blk == b) with
        | none =>
          have := List.find?_eq_none.1 hq2 f hfm
          simp [hb] at this
        | some g =>
          have hg := List.mem_of_find?_eq_some hq2
          have hgb : g.blk = b := by simpa using List.find?_some hq2
          rw [h.fr.inj g hg f hfm (by rw [hgb, hb])]
      rw [hr]
      simp only [hfind]
      first | exact ⟨rfl, hdd.symm, m.len⟩ | exact ⟨trivial, hdd.symm, m.len⟩
/-- Where the law stands behind k acts. -/
def Stand (U g x : Nat) (w wr : World) (k : Nat) : Prop := ∃ (X : Nat → Prop) (L : Lay) (V : RL) (S : St) (R : RS), (∀ z, z < U → X z) ∧ DAt wr X g L S ∧ RAt wr X x V R ∧ Fine S R k ∧ Below U w wr
theorem Stand.same {U g x k : Nat} {w wr w' : World} {X : Nat → Prop} {L : Lay} {V : RL} {S : St} {R : RS} (h0 : ∀ z, z < U → X z) (h1 : DAt wr X g L S) (h2 : RAt wr X x V R) (h3 : Fine S R k) (h4 : Below U w wr) (hU : U ≤ w.heap.size) (hb : Below wr.heap.size wr w') : Stand U g x w w' k :=
  ⟨X, L, V, S, R, h0, h1.foreign (grown_of_below hb none) (fun j e => by cases e), h2.below hb, h3, h4.trans (hb.mono (Nat.le_trans hU h4.size))⟩

set_option maxRecDepth 100000 in
set_option maxHeartbeats 6400000 in
theorem diskPlays_walk (A B : Option Addr) (n c m d : Nat) (cap : Int) (nm : ByteArray) (lf : List FIn) (l : List Ac) (w : World) (hf : InAt w w.heap.size A n lf) (hfx : InX w (Low w.heap.size) A n lf) (hn : n ≤ maxLen) (hl : ActsIn w w.heap.size B m l) (hm : m ≤ maxLen) (hs : nm.size ≤ maxLen) :
    Calls Try.prog 3 #[.slice A n c, .int .i64 cap, .slice B m d, .string nm] w fun e w' => e = .returned (.bool true) ∧ Below w.heap.size w w' := by
  have HBK := Lib.hid (bulk_any A n c lf w w.heap.size hf hn)
  have HF := Lib.hid hf
  have HFX := Lib.hid hfx
  have HL := Lib.hid hl
  have HN := Lib.hid hn
  have HM := Lib.hid hm
  have HNS := Lib.hid hs
  unfold maxLen at hn hm hs
  clear hf hl hfx
  go_enter Try.func3, Try.ntmps3
  go_wp2_with fail
  refine HBK.out.mono ?_
  rintro e w1 ⟨⟨z, rfl, hz, hsm⟩, q1, rfl⟩
  by_cases h1 : 2000 < z
  · clear hsm
    go_wp2_with (first
      | (go_at_call 6; refine (awake_any _).mono ?_; rintro e w4 ⟨rfl, hb4⟩)
      | fail)
    go_ret
    exact ⟨rfl, (Quiet.below ⟨q1, rfl⟩ _).trans hb4⟩
  · have HSM := Lib.hid (hsm (by omega))
    clear hsm HBK
    have HG := Lib.hid (great_any B m d l (w.drewN q1) w.heap.size (HL.out.below (Quiet.below ⟨q1, rfl⟩ _)) HM.out)
    obtain ⟨gb, hgb⟩ : ∃ gb, gb = greatB l := ⟨_, rfl⟩
    rw [← hgb] at HG
    cases gb
    rotate_left
    · clear hgb
      go_wp2_with (first
        | (go_at_call 5; refine HG.out.mono ?_; rintro e w1 ⟨rfl, q2, rfl⟩)
        | (go_at_call 6; refine (awake_any _).mono ?_; rintro e w4 ⟨rfl, hb4⟩)
        | fail)
      go_ret
      exact ⟨rfl, (Quiet.below ⟨q1 + q2, rfl⟩ _).trans hb4⟩
    · by_cases h3 : 100 < nm.size
      · clear hgb
        go_wp2_with (first
          | (go_at_call 5; refine HG.out.mono ?_; rintro e w1 ⟨rfl, q2, rfl⟩)
          | (go_at_call 6; refine (awake_any _).mono ?_; rintro e w4 ⟨rfl, hb4⟩)
          | fail)
        go_ret
        exact ⟨rfl, (Quiet.below ⟨q1 + q2, rfl⟩ _).trans hb4⟩
      · have hg := greatB_no hgb.symm
        have hml : l.length = m := HL.out.1
        have hm60 : m ≤ 60 := by omega
        have HS := Lib.hid hg.2
        clear hg hml hgb
        go_wp2_with fail
        refine HG.out.mono ?_
        rintro e w0 ⟨rfl, q2, rfl⟩
        obtain ⟨w0, hw0⟩ : ∃ w0, w0 = (w.drewN q1).drewN q2 := ⟨_, rfl⟩
        rw [← hw0]
        have B0 : Hid (Below w.heap.size w w0) := Lib.hid (by rw [hw0]; exact (Quiet.below ⟨q1, rfl⟩ _).trans (Quiet.below ⟨q2, rfl⟩ _))
        have hs0 : w0.heap.size = w.heap.size := by rw [hw0]; rfl
        have HW0 := Lib.hid hw0
        clear hw0 HG
        have HNEW := Lib.hid (new_any A n c lf cap w0 (by rw [hs0]; exact HF.out.below B0.out) HN.out)
        go_wp2_with (fail)
        refine HNEW.out.mono ?_
        rintro e w1 ⟨hb1, hnew⟩
        have hs1 := hb1.size
        have HB1 := Lib.hid (B0.out.trans (by rw [← hs0]; exact hb1))
        have HREF := Lib.hid (rnew_any (Low w.heap.size) A n c lf cap w1 (fun b hb => by unfold Low at hb; omega) (HFX.out.stay fun b hb => HB1.out.block b hb) HN.out)
        have HNW := Lib.hid hnew
        clear HNEW hnew hb1
        obtain ⟨fb, hfb⟩ : ∃ fb, fb = (fitsB lf cap && namesB lf) := ⟨_, rfl⟩
        cases fb
        · obtain ⟨hh, rfl⟩ : (fitsB lf cap && namesB lf) = false ∧ e = .returned (.pointer none) := by
            rcases HNW.out with ⟨hh, _⟩ | hh
            · rw [hh] at hfb; cases hfb
            · exact hh
          have HFB := Lib.hid hfb
          clear hh hfb HNW
          go_wp2_with fail
          refine HREF.out.mono ?_
          rintro e w2 ⟨hb2, ⟨hh, _⟩ | ⟨hh, rfl⟩⟩
          · rw [← HFB.out] at hh; cases hh
          · have HB2 := Lib.hid (HB1.out.trans (hb2.mono HB1.out.size))
            clear hh hb2 HREF
            go_wp2_with (first
              | (go_at_call 6; refine (awake_any _).mono ?_; rintro e w4 ⟨rfl, hb4⟩)
              | fail)
            go_ret
            exact ⟨rfl, HB2.out.trans (hb4.mono HB2.out.size)⟩
        · obtain ⟨g, L, fs, rfl, hnew⟩ : ∃ g L fs, e = .returned (ptrTo g) ∧ IsNew w0 w1 lf cap g L fs := by
            rcases HNW.out with ⟨_, hh⟩ | ⟨hh, _⟩
            · exact hh
            · rw [hh] at hfb; cases hfb
          have HFB := Lib.hid hfb
          have HIN := Lib.hid hnew
          clear hfb HNW hnew
          unfold ptrTo
          go_wp2_with fail
          refine HREF.out.mono ?_
          rintro e w2 ⟨hb2, ⟨hh, x, V, F, hx, rfl, hR, hFM⟩ | ⟨hh, rfl⟩⟩
          · rw [Bool.and_eq_true] at hh
            have hfb := of_decide_eq_true hh.1
            have hD1 : DAt w1 (Low w.heap.size) g L (newSt cap fs (namesZ lf fs [])) := by rw [← hs0]; exact HIN.out.at_
            have hD2 : DAt w2 (wid (Low w.heap.size) w1 w2) g L (newSt cap fs (namesZ lf fs [])) := hD1.wider (grown_of_below hb2 none) (fun j e => by cases e)
            have hST : Hid (Stand w.heap.size g x w w2 0) := Lib.hid ⟨_, L, V, _, _, fun z hz => .inl hz, hD2, hR, fine_new hD2 HIN.out.made hFM hfb.2.2.1 HSM.out.2.1 ⟨hfb.1, hfb.2.1⟩ hh.2, HB1.out.trans (hb2.mono HB1.out.size)⟩
            have hxU : w.heap.size ≤ x := by omega
            clear hh hfb hD1 hD2 hR hFM HREF HIN hb2
            go_wp2_with fail
            go_loopw [11, 12, 13, 14, 15] (fun i bb ee cc ff wr => ∃ k : Nat, k ≤ m ∧ i = .int .i64 k ∧ (∃ z, bb = z) ∧ (∃ z, ee = z) ∧ (∃ z, cc = z) ∧ (∃ z, ff = z) ∧ Hid (Stand w.heap.size g x w wr k)) (fun i _ _ _ _ _ => m - (intOf i).toNat)
            case atStart => exact ⟨0, Nat.zero_le _, rfl, ⟨_, rfl⟩, ⟨_, rfl⟩, ⟨_, rfl⟩, ⟨_, rfl⟩, hST⟩
            case round =>
              obtain ⟨k, hk, rfl, ⟨zb, rfl⟩, ⟨ze, rfl⟩, ⟨zc, rfl⟩, ⟨zf, rfl⟩, hst⟩ := hrel
              by_cases hlt : k < m
              · obtain ⟨X, L2, V2, S, R, hXU, hD, hR, hFN, hB⟩ := hst.out
                obtain ⟨a, b, off, ha, rfl, hbU, c0, c1, c2, c3, c4, c5, c6, hok⟩ := (HL.out.below hB).at hlt
                have hsz := HS.out a (List.mem_of_getElem? ha)
                have HDO := Lib.hid (do_two a hok hD hR hFN (by omega) hXU hxU hB.size hsz.2.2.1 hsz.2.2.2)
                have HLT : Hid (k + 1 ≤ m) := Lib.hid hlt
                have hkm : (k : Int) < (m : Int) := by omega
                obtain ⟨kd, s, r', Aa, na, ca, ba, za, ea, Ka, ma, da, numa⟩ := a
                simp only [Ac.vals, List.toArray] at HDO c0 c1 c2 c3 c4 c5 c6
                have HXU := Lib.hid hXU
                have HB := Lib.hid hB
                clear hst hXU hD hR hFN hB ha hok hsz
                go_wp2_with fail
                refine HDO.out.mono ?_
                rintro e w5 ⟨rfl, X5, L5, V5, S5, R5, hX5, hD5, hR5, hF5, hB5⟩
                have HAL := Lib.hid (alike_yes hD5 hR5 hF5 (by omega))
                have HST5 : Hid (∀ w', Below w5.heap.size w5 w' → Stand w.heap.size g x w w' (k + 1)) := Lib.hid fun w' hb => Stand.same (fun z hz => hX5 z (HXU.out z hz)) hD5 hR5 hF5 (HB.out.trans hB5) (Nat.le_refl _) hb
                clear hX5 hD5 hR5 hF5 hB5 HDO
                go_wp2_with fail
                refine HAL.out.mono ?_
                rintro e w6 ⟨rfl, hb6⟩
                obtain ⟨X6, L6, V6, S6, R6, hX6, hD6, hR6, hF6, hB6⟩ := HST5.out w6 hb6
                have hcl6 := hF6.calls
                have HRF := Lib.hid (hF6.fits (by omega))
                have HRD := Lib.hid (read_any hD6 nm HNS.out hF6.inv.closed (inv_dl hF6.inv (by omega)))
                have HFR := Lib.hid (hF6.read nm)
                have HR6 := Lib.hid hR6
                have HST6 : Hid (∀ w', Below w6.heap.size w6 w' → Stand w.heap.size g x w w' (k + 1)) := Lib.hid fun w' hb => Stand.same hX6 hD6 hR6 hF6 hB6 (Nat.le_refl _) hb
                unfold ptrTo at HRD
                obtain ⟨rd, hrd⟩ : ∃ rd, rd = S6.read nm.data.toList := ⟨_, rfl⟩
                rw [← hrd] at HRD HFR
                obtain ⟨dat, er⟩ := rd
                clear hX6 hD6 hR6 hF6 hB6 hb6 hrd HAL HST5
                go_wp2_with fail
                refine HRD.out.mono ?_
                rintro e w7 ⟨v7, rfl, ho7, hb7⟩
                replace ho7 : Own w7 w6.heap.size 5 1 v7 dat.length (by8 dat) := ho7
                obtain ⟨A7, c7, rfl⟩ := ho7.form
                have HRR := Lib.hid (rread_any X6 x V6 R6 nm w7 (HR6.out.below hb7) (by have := HRF.out.now; omega) HRF.out.at_)
                have HO7 := Lib.hid ho7
                have HB7 := Lib.hid hb7
                have hle7 : dat.length ≤ maxLen := by have := ho7.cap; omega
                have HLE7 := Lib.hid hle7
                obtain ⟨R7, hR7⟩ : ∃ R7, R7 = R6.read nm := ⟨_, rfl⟩
                rw [← hR7] at HRR HFR
                obtain ⟨ro, re⟩ := R7
                have hre : er = re := HFR.out.1
                subst hre
                have HRO := Lib.hid hR7
                clear ho7 hb7 hR7 HRD hle7
                go_wp2_with fail
                refine HRR.out.mono ?_
                rintro e w8 ⟨⟨A8, n8, c8, rfl, hm8⟩, rfl⟩
                have hR7' : RAt w7 X6 x V6 R6 := HR6.out.below HB7.out
                have hsh8 : Sh w7 w7.heap.size A8 n8 (by8 dat) ∧ n8 ≤ maxLen := by
                  have h2 := HFR.out.2
                  cases ro with
                  | none =>
                    simp only at h2 hm8
                    subst h2
                    subst hm8
                    exact ⟨Sh.nil _ _ _, Nat.zero_le _⟩
                  | some r =>
                    simp only at h2 hm8
                    obtain ⟨rfl, rfl, rfl, hmem⟩ := hm8
                    have hok := hR7'.fo r hmem
                    refine ⟨⟨by rw [by8_len, ← h2.1]; exact h2.2, fun hn0 => ?_⟩, by have := hok.le; have := hok.cm; omega⟩
                    obtain ⟨b', off', e', hX', hc'⟩ := hok.sh.2 hn0
                    exact ⟨b', off', e', hR7'.old b' hX'.1, fun j u hu => hc' j u (by rw [h2.1]; exact hu)⟩
                have HSA := Lib.hid (same_yes A7 A8 dat.length n8 c7 c8 dat dat w7 _ _ HO7.out.sh hsh8.1 HLE7.out rfl)
                have HNA := Lib.hid (fun w => name_any nm w HNS.out)
                have HNB := Lib.hid (fun w => refName_any nm w HNS.out)
                obtain ⟨nb, hnb⟩ : ∃ nb, nb = nameB nm.data.toList := ⟨_, rfl⟩
                rw [← hnb] at HNA HNB
                have hnn : (nb != nb) = false := bne_self_eq_false _
                have hee : (er != er) = false := bne_self_eq_false _
                clear hm8 hR7' hsh8 hnb HRR
                go_wp2_with (first
                  | (go_at_call 13; refine HSA.out.mono ?_; rintro e w9 ⟨rfl, q9, rfl⟩)
                  | (go_at_call 14; refine (HNA.out _).mono ?_; rintro e w' ⟨rfl, rfl⟩)
                  | (go_at_call 15; refine (HNB.out _).mono ?_; rintro e w' ⟨rfl, rfl⟩)
                  | fail)
                go_roundw
                case rel => exact ⟨k + 1, HLT.out, by go_num, ⟨_, rfl⟩, ⟨_, rfl⟩, ⟨_, rfl⟩, ⟨_, rfl⟩, Lib.hid (HST6.out _ (HB7.out.trans (Quiet.below ⟨q9, rfl⟩ _)))⟩
                case measure =>
                  have h5 := HLT.out
                  simp [intOf]
                  omega
              · obtain rfl : k = m := by omega
                obtain ⟨X, L2, V2, S, R, hXU, hD, hR, hFN, hB⟩ := hst.out
                have HBB := Lib.hid hB
                clear hst hXU hD hR hFN hB
                go_wp2_with (first
                  | (go_at_call 6; refine (awake_any _).mono ?_; rintro e w17 ⟨rfl, hb17⟩)
                  | fail)
                go_ret
                exact ⟨rfl, HBB.out.trans (hb17.mono HBB.out.size)⟩
          · rw [← HFB.out] at hh; cases hh
end Go.Proofs.Ytekhockdgglndaa
