/-
  blazonlaw16.RowBack: the walk, over what is asked of tables.
-/
import Derived.Test.YthdfoahnkkkbmaaRowFullV
namespace Go.Proofs.Ythdfoahnkkkbmaa
set_option linter.unusedVariables false
set_option linter.unusedSimpArgs false
open Go.RowKit

def bkN (N : List ByteArray) (j : Nat) : List OPn := (N.take j).map fun s => (s, 0)
theorem bkN_succ {N : List ByteArray} {j : Nat} {t : ByteArray} (h : N[j]? = some t) : bkN N (j + 1) = bkN N j ++ [(t, 0)] := by
  unfold bkN
  rw [List.take_add_one, h, List.map_append]
  rfl
theorem bkN_all (N : List ByteArray) : (bkN N N.length).map (·.1) = N := by
  unfold bkN
  rw [List.take_length, List.map_map]
  exact List.map_id _
theorem strs_get {N : List ByteArray} {j : Nat} {u : Value} (h : (strs N)[j]? = some u) : ∃ t, N[j]? = some t ∧ u = .string t := by
  unfold strs at h
  rw [List.getElem?_map] at h
  cases e : N[j]? with
  | none => rw [e] at h; cases h
  | some t => rw [e] at h; cases h; exact ⟨t, rfl, rfl⟩
set_option maxRecDepth 100000 in
set_option maxHeartbeats 800000 in
theorem rowBack_over (HI : RwAll) (A1 : Option Addr) (n1 c1 : Nat) (L1 : List OPn) (A2 : Option Addr) (n2 c2 : Nat) (L2 : List OPn) (w : World) (hn1 : n1 ≤ maxLen) (hL1 : ShW w w.heap.size A1 n1 L1) (hs1 : ∀ t ∈ L1, t.1.size ≤ maxLen)
    (hn2 : n2 ≤ maxLen) (hL2 : ShW w w.heap.size A2 n2 L2) (hs2 : ∀ t ∈ L2, t.1.size ≤ maxLen) :
    Calls Try.prog 7 #[.slice A1 n1 c1, .slice A2 n2 c2] w fun e w' => e = .returned (.bool true) ∧ Below w.heap.size w w' := by
  have HG1 := Lib.hid (show Calls Try.prog 29 #[.slice A1 n1 c1, .int .i64 80] w fun e w' => e = .returned (.bool (wGreat (L1.map (·.1)) 80)) ∧ Below w.heap.size w w' from wgreat_any A1 n1 c1 80 L1 w hL1 hn1 (by decide) hs1)
  have HG2 := Lib.hid (fun (w1 : World) (b : Below w.heap.size w w1) => (show Calls Try.prog 29 #[.slice A2 n2 c2, .int .i64 80] w1 fun e w' => e = .returned (.bool (wGreat (L2.map (·.1)) 80)) ∧ Below w1.heap.size w1 w' from wgreat_any A2 n2 c2 80 L2 w1 (hL2.up b) hn2 (by decide) hs2))
  cases hg1 : wGreat (L1.map (·.1)) 80 with
  | true =>
    rw [hg1] at HG1
    clear hg1 hL1 hs1 hL2 hs2
    go_enter Try.func7, Try.ntmps7
    go_wp2_with (first
      | (go_at_call 29; (with_reducible refine HG1.out.mono ?_); rintro e wx ⟨rfl, b⟩; have BB := Lib.hid b; clear b)
      | (go_at_call 24; (with_reducible refine (awake16_any HI _).mono ?_); rintro e wx ⟨rfl, b⟩; have BB := Lib.hid (BB.out.trans (b.mono BB.out.size)); clear b)
      | go_in)
    go_ret
    exact ⟨rfl, BB.out⟩
  | false =>
    rw [hg1] at HG1
    cases hg2 : wGreat (L2.map (·.1)) 80 with
    | true =>
      rw [hg2] at HG2
      clear hg1 hg2 hL1 hs1 hL2 hs2
      go_enter Try.func7, Try.ntmps7
      go_wp2_with (first
        | (go_at_call 29; (with_reducible refine HG1.out.mono ?_); rintro e wx ⟨rfl, b⟩; have BB := Lib.hid b; clear b)
        | (go_at_call 29; (with_reducible refine (HG2.out _ BB.out).mono ?_); rintro e wx ⟨rfl, b⟩; have BB := Lib.hid (BB.out.trans (b.mono BB.out.size)); clear b)
        | (go_at_call 24; (with_reducible refine (awake16_any HI _).mono ?_); rintro e wx ⟨rfl, b⟩; have BB := Lib.hid (BB.out.trans (b.mono BB.out.size)); clear b)
        | go_in)
      go_ret
      exact ⟨rfl, BB.out⟩
    | false =>
      rw [hg2] at HG2
      obtain ⟨g1, k1⟩ := wGreat_no hg1
      obtain ⟨g2, k2⟩ := wGreat_no hg2
      rw [List.length_map, hL1.len] at g1
      rw [List.length_map, hL2.len] at g2
      have k1' : ∀ t ∈ L1, t.1.size ≤ 1000 := fun t ht => by have := k1 t.1 (List.mem_map_of_mem ht); omega
      have k2' : ∀ t ∈ L2, t.1.size ≤ 1000 := fun t ht => by have := k2 t.1 (List.mem_map_of_mem ht); omega
      have HNS := Lib.hid (fun (w1 : World) (b : Below w.heap.size w w1) => HI.nset w1 A2 n2 c2 L2 (hL2.up b) (by omega) k2')
      obtain ⟨z, hz⟩ : ∃ z : Int, (if n2 = 0 then (0 : Int) else 13) = z := ⟨_, rfl⟩
      rw [hz] at HNS
      have hzq : (z == 0) = ((n2 : Int) == 0) := by
        rw [← hz]
        by_cases h : n2 = 0
        · rw [if_pos h, h]; rfl
        · rw [if_neg h]
          have : ((n2 : Int) == 0) = false := by simp; omega
          rw [this]
          rfl
      obtain ⟨q, hq⟩ : ∃ q, ((n2 : Int) == 0) = q := ⟨_, rfl⟩
      rw [hq] at hzq
      have hqq : (q != q) = false := by simp
      clear hz hg1 hg2 hs1 hs2
      rcases newT_cases (L1.map (·.1)) with ⟨h, hd, h64⟩ | ⟨i, x, h, hx⟩
      · have HNW := Lib.hid (fun (w1 : World) (b : Below w.heap.size w w1) => HI.yes (c := c1) (hL1.up b) (by omega) k1' h)
        by_cases hin : ∀ s ∈ L2.map (·.1), s ∈ L1.map (·.1)
        · obtain ⟨x, hx, _⟩ := tset_ok hd (x := 0) 0 hin
          obtain ⟨q1, q2, q3, q4⟩ := tset_back hd h64 hin hx
          have HST := Lib.hid (fun (w1 : World) (b : Below w.heap.size w w1) (g : Nat) (P : World → Prop) (hc : RwC (L1.map (·.1)) g P) (hp : P w1) => (by
            have := hc.set A2 n2 c2 L2 hp (hL2.up b) (by omega) k2'
            unfold RSetTo at this
            rw [hx] at this
            exact this : Calls Try.prog 30 #[.pointer (some ⟨g, 0, none⟩), .slice A2 n2 c2] w1 fun e w' => e = .returned (.tuple #[.int .u64 (x : Int), .int .i64 0, .int .i64 0]) ∧ Below w1.heap.size w1 w'))
          have HNM := Lib.hid (fun (w1 : World) (g : Nat) (P : World → Prop) (hc : RwC (L1.map (·.1)) g P) (hp : P w1) => hc.names x q4 hp)
          have HK := Lib.hid (fun w1 => HI.count w1 x q4)
          rw [← q3] at HK
          have hml : ∀ s ∈ selN (L1.map (·.1)) x, s.size ≤ 1000 := fun s hs => by
            obtain ⟨i, hi, _, e⟩ := selN_mem.1 hs
            have := k1 (L1.map (·.1))[i] (List.getElem_mem _)
            rw [e] at this
            omega
          have hnl : (selN (L1.map (·.1)) x).length ≤ 64 := by rw [q3]; exact popB_le _ _
          have HBK := Lib.hid (fun (w1 : World) (g : Nat) (P : World → Prop) (A : Option Addr) (c : Nat) (hc : RwC (L1.map (·.1)) g P) (hp : P w1) (hS : ShW w1 w1.heap.size A (selN (L1.map (·.1)) x).length (bkN (selN (L1.map (·.1)) x) (selN (L1.map (·.1)) x).length)) => (by
            have := hc.set A _ c _ hp hS (by omega) (fun t ht => by
              unfold bkN at ht
              obtain ⟨s, hs, rfl⟩ := List.mem_map.1 ht
              exact hml s (List.mem_of_mem_take hs))
            unfold RSetTo at this
            rw [bkN_all, q2] at this
            exact this : Calls Try.prog 30 #[.pointer (some ⟨g, 0, none⟩), .slice A (selN (L1.map (·.1)) x).length c] w1 fun e w' => e = .returned (.tuple #[.int .u64 (x : Int), .int .i64 0, .int .i64 0]) ∧ Below w1.heap.size w1 w'))
          obtain ⟨N, hN⟩ : ∃ N, selN (L1.map (·.1)) x = N := ⟨_, rfl⟩
          unfold RNamesTo at HNM
          rw [hN] at q1 HNM HK hnl HBK
          obtain ⟨ln, hln⟩ : ∃ ln, N.length = ln := ⟨_, rfl⟩
          rw [hln] at HNM HK hnl HBK
          have HLN := Lib.hid hln
          have HMM := Lib.hid q1
          have hxx : ((x : Int) == (x : Int)) = true := by simp
          have hll : ((ln : Int) == (ln : Int)) = true := by simp
          clear hx q1 q2 q3 q4 hml hN hln h hd h64 hin k1 k2 k1' k2' hL1
          go_enter Try.func7, Try.ntmps7
          go_wp2_with (first
            | (go_at_call 29; (with_reducible refine HG1.out.mono ?_); rintro e wx ⟨rfl, b⟩; have BB := Lib.hid b; clear b)
            | (go_at_call 29; (with_reducible refine (HG2.out _ BB.out).mono ?_); rintro e wx ⟨rfl, b⟩; have BB := Lib.hid (BB.out.trans (b.mono BB.out.size)); clear b)
            | (go_at_call 30; (with_reducible refine (HNS.out _ BB.out).mono ?_); rintro e wx ⟨rfl, b⟩; have BB := Lib.hid (BB.out.trans (b.mono BB.out.size)); clear b)
            | (go_at_call 25; (with_reducible refine (HI.nlen _).mono ?_); rintro e wx ⟨rfl, b⟩; have BB := Lib.hid (BB.out.trans (b.mono BB.out.size)); clear b)
            | (go_at_call 31; (with_reducible refine (HI.nnames _ _).mono ?_); rintro e wx ⟨An, cn, rfl, b⟩; have BB := Lib.hid (BB.out.trans (b.mono BB.out.size)); clear b)
            | (go_at_call 23; (with_reducible refine (HNW.out _ BB.out).mono ?_); rintro e wx ⟨b, g, P, rfl, hc, hp⟩; have BB := Lib.hid (BB.out.trans (b.mono BB.out.size)); have HC := Lib.hid hc; have HP := Lib.hid hp; clear hc hp; clear b)
            | (go_at_call 30; (with_reducible refine (HST.out _ BB.out _ _ HC.out HP.out).mono ?_); rintro e wx ⟨rfl, b⟩; have BB := Lib.hid (BB.out.trans (b.mono BB.out.size)); have HP := Lib.hid (HC.out.stay HP.out b); clear b)
            | (go_at_call 31; (with_reducible refine (HNM.out _ _ _ HC.out HP.out).mono ?_); rintro e wx ⟨A3, c3, rfl, ho, b⟩; have BB := Lib.hid (BB.out.trans (b.mono BB.out.size)); have HP := Lib.hid (HC.out.stay HP.out b); have HO := Lib.hid ho; clear ho; have HW5 := Lib.hid (rfl : wx = wx); clear b)
            | go_in)
          obtain ⟨w5, hw5⟩ : ∃ w5, w5 = wx := ⟨_, rfl⟩
          subst hw5
          have hb50 := BB.out.size
          go_loopw [16, 17] (fun v i wr => ∃ j : Nat, i = .int .i64 (j : Int) ∧ j ≤ ln ∧ Hid (Own wr w5.heap.size 44 2 v j (ncs (bkN N j))) ∧ Hid (Below w5.heap.size w5 wr)) (fun _ i _ => ln - (intOf i).toNat)
          case atStart => exact ⟨0, rfl, Nat.zero_le _, Lib.hid (Own.nil _ _ _ _ (Nat.le_refl _)), Lib.hid (Below.refl _ _)⟩
          case round =>
            obtain ⟨j, rfl, hj, HV, HB⟩ := hrel
            obtain ⟨wa, hwa⟩ : ∃ wa, wa = wr := ⟨_, rfl⟩
            subst hwa
            by_cases hlt : j < ln
            · obtain ⟨lb, lo, u, rfl, _, hu, c0⟩ := (HO.out.below HB.out).sh.at hlt
              obtain ⟨t, ht, rfl⟩ := strs_get hu
              have HE := Lib.hid (bkN_succ ht)
              have hown := HV.out
              clear hu ht
              go_wp2_with (first
                | (at_builtin; refine Hid.out ?_)
                | go_in)
              refine Lib.hid ?_
              refine wpList_push rfl (.tmp 82) (.tmp 88) 41 rfl rowN w5 _ w5.heap.size _ _ _ [.string t, .int .i64 0] rfl hown (by simp [Act.eval]) rfl (by intro u hu; simp at hu; rcases hu with rfl | rfl <;> rfl) HB.out (by omega) (by omega) ?_
              intro v2 w2 ho2 hb3
              go_wp2
              refine ⟨⟨j + 1, by go_num, hlt, ?_, Lib.hid hb3⟩, by simp [intOf]; omega⟩
              rw [HE.out, ncs_snoc]
              exact Lib.hid ho2
            · obtain rfl : j = ln := by omega
              have hV := HV.out
              obtain ⟨A4, c4, rfl⟩ := hV.form
              have hS := ShW.of_own hV (show (bkN N j).length = j by unfold bkN; rw [List.length_map, List.length_take, HLN.out]; omega)
              have HSo := Lib.hid (HBK.out wa g P A4 c4 HC.out (HC.out.stay HP.out HB.out) hS)
              have HOo := Lib.hid (HO.out.below HB.out)
              have HL2 := Lib.hid (hL2.below (BB.out.trans (HB.out.mono BB.out.size)))
              have BB := Lib.hid (BB.out.trans (HB.out.mono BB.out.size))
              have hnlt : ¬ (j : Int) < (j : Int) := by omega
              clear hV HV hS HBK HST HNM HNW HNS HG1 HG2
              go_wp2_with fail
              go_loopw [18] (fun i wr => ∃ k : Nat, i = .int .i64 (k : Int) ∧ k ≤ n2 ∧ wr = wa) (fun i _ => n2 - (intOf i).toNat)
              case atStart => exact ⟨0, rfl, Nat.zero_le _, rfl⟩
              case round =>
                obtain ⟨k, rfl, hk, rfl⟩ := hrel
                by_cases hlt : k < n2
                · obtain ⟨b, off, t, rfl, hb, hget, hdr, c0, _⟩ := HL2.out.at hlt
                  have hm : t.1 ∈ N := HMM.out _ (List.mem_map_of_mem (List.mem_of_getElem? hget))
                  have HF := Lib.hid (rfind_any A3 j c3 N t.1 wr _ HOo.out.sh (by unfold maxLen; omega))
                  rw [rfind_in hm] at HF
                  obtain ⟨r, hr⟩ : ∃ r, rnum N t.1 = r := ⟨_, rfl⟩
                  rw [hr] at HF
                  have hr0 : ¬ (r : Int) < 0 := by omega
                  obtain ⟨s, hs⟩ : ∃ s, t.1 = s := ⟨_, rfl⟩
                  rw [hs] at HF c0
                  clear hm hr hs hget hdr
                  go_wp2_with (first
                    | (go_at_call 32; (with_reducible refine HF.out.mono ?_); rintro e wx ⟨rfl, rfl⟩)
                    | go_in)
                  go_roundw
                  case rel => exact ⟨k + 1, by go_num, hlt, (by trivial)⟩
                  case measure => simp [intOf]; omega
                · obtain e : k = n2 := by omega
                  subst e
                  have hnlt2 : ¬ (k : Int) < (k : Int) := by omega
                  go_wp2_with (first
                    | (go_at_call 30; (with_reducible refine (HSo.out).mono ?_); rintro e wx ⟨rfl, b⟩; have BB := Lib.hid (BB.out.trans (b.mono BB.out.size)); clear b)
                    | (go_at_call 28; (with_reducible refine (HK.out _).mono ?_); rintro e wx ⟨rfl, b⟩; have BB := Lib.hid (BB.out.trans (b.mono BB.out.size)); clear b)
                    | (go_at_call 24; (with_reducible refine (awake16_any HI _).mono ?_); rintro e wx ⟨rfl, b⟩; have BB := Lib.hid (BB.out.trans (b.mono BB.out.size)); clear b)
                    | go_in)
                  go_ret
                  exact ⟨rfl, BB.out⟩
        · obtain ⟨i, _, hi, _⟩ := tset_no (x := 0) 0 hin
          rw [Nat.zero_add] at hi
          have HST := Lib.hid (fun (w1 : World) (b : Below w.heap.size w w1) (g : Nat) (P : World → Prop) (hc : RwC (L1.map (·.1)) g P) (hp : P w1) => (by
            have := hc.set A2 n2 c2 L2 hp (hL2.up b) (by omega) k2'
            unfold RSetTo at this
            rw [hi] at this
            exact this : Calls Try.prog 30 #[.pointer (some ⟨g, 0, none⟩), .slice A2 n2 c2] w1 fun e w' => e = .returned (.tuple #[.int .u64 0, .int .i64 (i : Int), .int .i64 13]) ∧ Below w1.heap.size w1 w'))
          clear hi h hd h64 hin k1 k2 k1' k2' hL1 hL2
          go_enter Try.func7, Try.ntmps7
          go_wp2_with (first
            | (go_at_call 29; (with_reducible refine HG1.out.mono ?_); rintro e wx ⟨rfl, b⟩; have BB := Lib.hid b; clear b)
            | (go_at_call 29; (with_reducible refine (HG2.out _ BB.out).mono ?_); rintro e wx ⟨rfl, b⟩; have BB := Lib.hid (BB.out.trans (b.mono BB.out.size)); clear b)
            | (go_at_call 30; (with_reducible refine (HNS.out _ BB.out).mono ?_); rintro e wx ⟨rfl, b⟩; have BB := Lib.hid (BB.out.trans (b.mono BB.out.size)); clear b)
            | (go_at_call 25; (with_reducible refine (HI.nlen _).mono ?_); rintro e wx ⟨rfl, b⟩; have BB := Lib.hid (BB.out.trans (b.mono BB.out.size)); clear b)
            | (go_at_call 31; (with_reducible refine (HI.nnames _ _).mono ?_); rintro e wx ⟨An, cn, rfl, b⟩; have BB := Lib.hid (BB.out.trans (b.mono BB.out.size)); clear b)
            | (go_at_call 23; (with_reducible refine (HNW.out _ BB.out).mono ?_); rintro e wx ⟨b, g, P, rfl, hc, hp⟩; have BB := Lib.hid (BB.out.trans (b.mono BB.out.size)); have HC := Lib.hid hc; have HP := Lib.hid hp; clear hc hp; clear b)
            | (go_at_call 30; (with_reducible refine (HST.out _ BB.out _ _ HC.out HP.out).mono ?_); rintro e wx ⟨rfl, b⟩; have BB := Lib.hid (BB.out.trans (b.mono BB.out.size)); have HP := Lib.hid (HC.out.stay HP.out b); clear b)
            | (go_at_call 24; (with_reducible refine (awake16_any HI _).mono ?_); rintro e wx ⟨rfl, b⟩; have BB := Lib.hid (BB.out.trans (b.mono BB.out.size)); clear b)
            | go_in)
          go_ret
          exact ⟨rfl, BB.out⟩
      · have HNW := Lib.hid (fun (w1 : World) (b : Below w.heap.size w w1) => HI.no (c := c1) (hL1.up b) (by omega) k1' h)
        have hx0 : ((x : Int) == 0) = false := by simpa using hx
        have hx1 : ((x : Int) != 0) = true := by simpa using hx
        clear h hx k1 k2 k1' k2' hL1 hL2
        go_enter Try.func7, Try.ntmps7
        go_wp2_with (first
          | (go_at_call 29; (with_reducible refine HG1.out.mono ?_); rintro e wx ⟨rfl, b⟩; have BB := Lib.hid b; clear b)
          | (go_at_call 29; (with_reducible refine (HG2.out _ BB.out).mono ?_); rintro e wx ⟨rfl, b⟩; have BB := Lib.hid (BB.out.trans (b.mono BB.out.size)); clear b)
          | (go_at_call 30; (with_reducible refine (HNS.out _ BB.out).mono ?_); rintro e wx ⟨rfl, b⟩; have BB := Lib.hid (BB.out.trans (b.mono BB.out.size)); clear b)
          | (go_at_call 25; (with_reducible refine (HI.nlen _).mono ?_); rintro e wx ⟨rfl, b⟩; have BB := Lib.hid (BB.out.trans (b.mono BB.out.size)); clear b)
          | (go_at_call 31; (with_reducible refine (HI.nnames _ _).mono ?_); rintro e wx ⟨An, cn, rfl, b⟩; have BB := Lib.hid (BB.out.trans (b.mono BB.out.size)); clear b)
          | (go_at_call 23; (with_reducible refine (HNW.out _ BB.out).mono ?_); rintro e wx ⟨b, rfl⟩; have BB := Lib.hid (BB.out.trans (b.mono BB.out.size)); clear b)
          | (go_at_call 24; (with_reducible refine (awake16_any HI _).mono ?_); rintro e wx ⟨rfl, b⟩; have BB := Lib.hid (BB.out.trans (b.mono BB.out.size)); clear b)
          | go_in)
        go_ret
        exact ⟨rfl, BB.out⟩
end Go.Proofs.Ythdfoahnkkkbmaa
