/-
  What is there when the power comes back is sure: where it goes off again at once, whatever is said to be kept, all is the same. It holds for all files, acts and numbers; of more than is looked at it says that the document's example holds.
-/
import Derived.Test.YtfhbolhmfhgeaaaDAgainM
import Derived.Test.YtfhbolhmfhgeaaaDBulk
import Derived.Test.YtfhbolhmfhgeaaaDiskSureW
import Derived.Test.YtfhbolhmfhgeaaaDiskOwnW
namespace Go.Proofs.Ytfhbolhmfhgeaaa
set_option linter.unusedVariables false
set_option linter.unusedSimpArgs false
open Go.RowKit Go.Maps

/-- What holds of a disk behind n acts. -/
structure Going (n : Nat) (S : St) : Prop where
  inv : Inv S
  keys : Keys S
  calls : S.calls ≤ n
theorem Going.more {n m : Nat} {S : St} (h : Going n S) (hm : n ≤ m) : Going m S := ⟨h.inv, h.keys, Nat.le_trans h.calls hm⟩
theorem again_round {U : Nat} {wr : World} {g : Nat} {L : Lay} {S : St} {n : Nat} (x : Ac) (hx : x.ok wr U) (hD : DAt wr (Low U) g L S) (hK : Going n S) (hn : n ≤ 900) (hU : U ≤ wr.heap.size)
    (hs : x.s.size ≤ 100 ∧ x.r.size ≤ 100 ∧ x.n ≤ 500 ∧ x.m ≤ 60) :
    Calls Try.prog 13 #[.pointer (some ⟨g, 0, none⟩), .pointer (some ⟨wr.heap.size, 0, none⟩), .agg x.vals.toArray] (wr.alloc (.cells zeros.toArray 52)) fun e w' =>
      (∃ v : Bool, e = .returned (.bool v)) ∧ (∃ L' S', DAt w' (Low U) g L' S' ∧ Going (n + 1) S') ∧ Below U wr w' := by
  obtain ⟨w2, hw2⟩ : ∃ w2, w2 = wr.alloc (.cells zeros.toArray 52) := ⟨_, rfl⟩
  have hs2 : w2.heap.size = wr.heap.size + 1 := by rw [hw2]; simp
  have hb : Below wr.heap.size wr w2 := by
    rw [hw2]
    exact (Below.refl _ _).alloc (Nat.le_refl _) _
  have hz : RZ w2 wr.heap.size := by rw [hw2]; exact Blk.new wr _ zeros
  rw [← hw2]
  have hlow : ∀ k, k < U → With (Low U) wr w2 k := fun k hk => .inl hk
  have hbl : x.b.length ≤ 500 := by
    have := hx.b.len
    rw [by8_len] at this
    omega
  refine (act_any x (hx.below (hb.mono hU)) (hD.wide hb) hK.inv (by have := hK.calls; omega) hz hlow (.inr ⟨by omega, by omega⟩) (by omega) (by omega) hs).mono ?_
  rintro e w' ⟨h1, ⟨b, L', h2⟩, h4⟩
  refine ⟨h1, ⟨L', _, h2.fewer (fun k hk => .inl hk), hK.inv.act x hbl b, hK.keys.act hK.inv x b, ?_⟩, (hb.mono hU).trans h4⟩
  have := act_calls S x b
  have := hK.calls
  omega

theorem rowBB : RowT Try.prog 65 32 1 24 := RowT.mk (z := .slice none 0 0) Try.underlying65 (by kernel_rfl) rfl (by omega)
/-- The bytes of the first k names, in rows made since w10. -/
def Rows2 (w10 wr : World) (S : St) (v : Value) (k : Nat) : Prop :=
  ∃ (Y : Nat → Prop) (xs : List Value), (∀ b, Y b → w10.heap.size ≤ b ∧ b < wr.heap.size) ∧ Row wr Y 32 v k xs ∧ (∀ j, v.ownBlock = some j → w10.heap.size ≤ j) ∧
    ∀ i p, i < k → S.names[i]? = some p → ∃ A c, xs[i]? = some (.slice A (S.read p.1).1.length c) ∧ ShX wr Y A (S.read p.1).1.length (by8 (S.read p.1).1)
theorem ShX.mono {w w' : World} {X Y : Nat → Prop} {A : Option Addr} {n : Nat} {xs : List Value} (h : ShX w X A n xs) (hk : ∀ b, X b → w'.heap[b]? = w.heap[b]? ∧ Y b) : ShX w' Y A n xs :=
  ⟨h.1, fun hn => by
    obtain ⟨b, off, e, hb, hc⟩ := h.2 hn
    exact ⟨b, off, e, (hk b hb).2, fun k u hu => (World.cell?_of_block (a := ⟨b, off + k, none⟩) (hk b hb).1).trans (hc k u hu)⟩⟩
theorem Rows2.mid {w10 wr w2 : World} {v : Value} {k : Nat} {Y : Nat → Prop} {xs : List Value} (hr : Row wr Y 32 v k xs) (hb2 : Below wr.heap.size wr w2) : Row w2 (With Y wr w2) 32 v k xs := by
  have h := hr.stay (w' := w2) fun j hj => hb2.block j (hr.lt hj)
  refine ⟨h.1, fun j hj hY => ?_⟩
  rcases hY with hY | ⟨h1, _⟩
  · exact hr.2 j hj hY
  · have := hr.lt hj
    omega
theorem Rows2.push {w10 wr w2 w3 : World} {S : St} {v v3 : Value} {k : Nat} {Y : Nat → Prop} {xs : List Value} {p : Nm × Nat} {A : Option Addr} {c : Nat}
    (hY : ∀ b, Y b → w10.heap.size ≤ b ∧ b < wr.heap.size) (hr : Row wr Y 32 v k xs) (hv : ∀ j, v.ownBlock = some j → w10.heap.size ≤ j)
    (hrows : ∀ i p, i < k → S.names[i]? = some p → ∃ A c, xs[i]? = some (.slice A (S.read p.1).1.length c) ∧ ShX wr Y A (S.read p.1).1.length (by8 (S.read p.1).1))
    (hp : S.names[k]? = some p) (hw : w10.heap.size ≤ wr.heap.size) (hb2 : Below wr.heap.size wr w2) (ho : Own w2 wr.heap.size 5 1 (.slice A (S.read p.1).1.length c) (S.read p.1).1.length (by8 (S.read p.1).1))
    (hrow3 : Row w3 (With Y wr w2) 32 v3 (k + 1) (xs ++ [.slice A (S.read p.1).1.length c])) (hg3 : (w2.alloc (.cells #[.slice A (S.read p.1).1.length c] 32)).grownBy w3 v.ownBlock)
    (hl3 : v3.ownBlock = v.ownBlock ∨ v3.ownBlock = some (w2.heap.size + 1)) : Rows2 w10 w3 S v3 (k + 1) := by
  have hs2 := hb2.size
  have hs3 : w2.heap.size ≤ w3.heap.size := Nat.le_trans (by simp) hg3.size
  have hxl : xs.length = k := hr.len
  have keep : ∀ b, With Y wr w2 b → w3.heap[b]? = w2.heap[b]? ∧ With Y wr w2 b := fun b hb => by
    have hlt : b < w2.heap.size := by
      rcases hb with hb | hb
      · have := (hY b hb).2; omega
      · exact hb.2
    refine ⟨(hg3.block b (by simp; omega) (fun e => ?_)).trans (Below.heap_alloc _ _ b hlt), hb⟩
    rcases hb with hb | hb
    · exact hr.2 b e.symm hb
    · have := hr.lt e.symm
      omega
  refine ⟨With Y wr w2, _, fun b hb => ?_, hrow3, fun j hj => ?_, fun i q hi hq => ?_⟩
  · rcases hb with hb | hb
    · have := hY b hb; omega
    · omega
  · rcases hl3 with e | e
    · exact hv j (by rw [← e]; exact hj)
    · rw [e] at hj
      cases hj
      omega
  · by_cases hik : i < k
    · obtain ⟨A', c', h1, h2⟩ := hrows i q hik hq
      refine ⟨A', c', by rw [List.getElem?_append_left (by omega)]; exact h1, ?_⟩
      exact (h2.mono (Y := With Y wr w2) fun b hb => ⟨hb2.block b (hY b hb).2, .inl hb⟩).mono keep
    · have : i = k := by omega
      subst this
      rw [hp] at hq
      cases hq
      refine ⟨A, c, by rw [List.getElem?_append_right (by omega), hxl, Nat.sub_self]; rfl, ?_⟩
      have hsh := ho.sh
      have hX : ShX w2 (With Y wr w2) A (S.read p.1).1.length (by8 (S.read p.1).1) := ⟨hsh.1, fun hn => by
        obtain ⟨b, off, e, hb, hc⟩ := hsh.2 hn
        exact ⟨b, off, e, .inr (by have := ho.1.lt b (by rw [e]; rfl); exact this), hc⟩⟩
      exact hX.mono keep
theorem read_ok {S : St} (I : Inv S) (hd : S.dead = false) {p : Nm × Nat} (hp : p ∈ S.names) : (S.read p.1).2 = 0 := by
  obtain ⟨f, h1, h2, _⟩ := I.snd p hp
  have hn : nat? p.1 S.names = some p.2 := I.risN.at (by simpa using hp)
  unfold St.read
  rw [hd, if_neg Bool.false_ne_true, hn]
  show (match fileAt S.fs p.2 with | some f => (f.data, (0 : Int)) | none => ([], 6)).2 = 0
  cases e : fileAt S.fs p.2 with
  | some f => rfl
  | none =>
    have := List.find?_eq_none.1 e f h1
    simp [h2] at this
theorem nmB_len {l : Nm} (h : nameB l = true) : l.length ≤ 24 := by
  unfold nameB at h
  rw [Bool.and_eq_true] at h
  exact (of_decide_eq_true h.1).2

set_option maxRecDepth 100000 in
set_option maxHeartbeats 6400000 in
theorem diskAgain_walk (A B K : Option Addr) (n c m d p q : Nat) (turns : Int) (lf : List FIn) (l : List Ac) (nums : List Int) (w : World) (hf : InAt w w.heap.size A n lf) (hn : n ≤ maxLen) (hl : ActsIn w w.heap.size B m l) (hm : m ≤ maxLen) (hk : Sh w w.heap.size K p (by64 nums)) (hp : p ≤ maxLen) :
    Calls Try.prog 7 #[.slice A n c, .slice B m d, .int .i64 turns, .slice K p q] w fun e w' => e = .returned (.bool true) ∧ Below w.heap.size w w' := by
  have HBK := Lib.hid (bulk_any A n c lf w w.heap.size hf hn)
  have HF := Lib.hid hf
  have HL := Lib.hid hl
  have HK := Lib.hid hk
  have HN := Lib.hid hn
  have HM := Lib.hid hm
  unfold maxLen at hn hm hp
  clear hf hl hk
  go_enter Try.func7, Try.ntmps7
  go_wp2_with fail
  refine HBK.out.mono ?_
  rintro e w1 ⟨⟨z, rfl, hz, hsm⟩, q1, rfl⟩
  by_cases h1 : 2000 < z
  · clear hsm
    go_wp2_with (first
      | (go_at_call 10; refine (awake_any _).mono ?_; rintro e w4 ⟨rfl, hb4⟩)
      | fail)
    go_ret
    exact ⟨rfl, (Quiet.below ⟨q1, rfl⟩ _).trans hb4⟩
  · have HSM := Lib.hid (hsm (by omega))
    clear hsm HBK
    have HG := Lib.hid (great_any B m d l (w.drewN q1) w.heap.size (HL.out.below (Quiet.below ⟨q1, rfl⟩ _)) HM.out)
    obtain ⟨gb, hgb⟩ : ∃ gb, gb = greatB l := ⟨_, rfl⟩
    rw [← hgb] at HG
    cases gb
    rotate_left
    · clear hgb
      go_wp2_with (first
        | (go_at_call 9; refine HG.out.mono ?_; rintro e w1 ⟨rfl, q2, rfl⟩)
        | (go_at_call 10; refine (awake_any _).mono ?_; rintro e w4 ⟨rfl, hb4⟩)
        | fail)
      go_ret
      exact ⟨rfl, (Quiet.below ⟨q1 + q2, rfl⟩ _).trans hb4⟩
    · by_cases h3 : 60 < p
      · clear hgb
        go_wp2_with (first
          | (go_at_call 9; refine HG.out.mono ?_; rintro e w1 ⟨rfl, q2, rfl⟩)
          | (go_at_call 10; refine (awake_any _).mono ?_; rintro e w4 ⟨rfl, hb4⟩)
          | fail)
        go_ret
        exact ⟨rfl, (Quiet.below ⟨q1 + q2, rfl⟩ _).trans hb4⟩
      · have hg := greatB_no hgb.symm
        have hml : l.length = m := HL.out.1
        have hm60 : m ≤ 60 := by omega
        have HS := Lib.hid hg.2
        clear hg hml hgb
        go_wp2_with fail
        refine HG.out.mono ?_
        rintro e w0 ⟨rfl, q2, rfl⟩
        obtain ⟨w0, hw0⟩ : ∃ w0, w0 = (w.drewN q1).drewN q2 := ⟨_, rfl⟩
        rw [← hw0]
        have B0 : Hid (Below w.heap.size w w0) := Lib.hid (by rw [hw0]; exact (Quiet.below ⟨q1, rfl⟩ _).trans (Quiet.below ⟨q2, rfl⟩ _))
        have hs0 : w0.heap.size = w.heap.size := by rw [hw0]; rfl
        have HW0 := Lib.hid hw0
        clear hw0 HG
        have HNEW := Lib.hid (new_any A n c lf 1048576 w0 (by rw [hs0]; exact HF.out.below B0.out) HN.out)
        go_wp2_with (fail)
        refine HNEW.out.mono ?_
        rintro e w1 ⟨hb1, ⟨hfit, g, L, fs, rfl, hnew⟩ | ⟨h0, rfl⟩⟩
        rotate_left
        · clear HNEW
          go_wp2_with (first
            | (go_at_call 10; refine (awake_any _).mono ?_; rintro e w4 ⟨rfl, hb4⟩)
            | fail)
          go_ret
          have hb := B0.out.trans (by rw [← hs0]; exact hb1)
          exact ⟨rfl, hb.trans (hb4.mono hb.size)⟩
        · have hD1 : DAt w1 (Low w.heap.size) g L (newSt 1048576 fs (namesZ lf fs [])) := by rw [← hs0]; exact hnew.at_
          have hG1 : Going 0 (newSt 1048576 fs (namesZ lf fs [])) := by
            rw [Bool.and_eq_true] at hfit
            have hfb := of_decide_eq_true hfit.1
            exact ⟨inv_new hnew.made hfb.2.2.1 HSM.out.2.1 (by omega), keys_new hfit.2, Nat.le_refl _⟩
          have D1 := Lib.hid hD1
          have G1 := Lib.hid hG1
          have B1 := Lib.hid (B0.out.trans (by rw [← hs0]; exact hb1))
          clear hnew hb1 HNEW hD1 hG1 hfit
          have hzd : ∀ w : World, (zeroValue 52).run Try.prog w = .ok (.agg #[.slice none 0 0, .slice none 0 0, .slice none 0 0, .slice none 0 0, .int .i64 0, .bool false, .int .i64 0, .int .i64 0, .int .i64 0, .int .i64 0]) w := fun w => by kernel_rfl
          unfold ptrTo
          go_wp2_with fail
          go_loopw [10] (fun i wr => ∃ k : Nat, k ≤ m ∧ i = .int .i64 k ∧ Hid ((∃ L S, DAt wr (Low w.heap.size) g L S ∧ Going k S) ∧ Below w.heap.size w wr)) (fun i _ => m - (intOf i).toNat)
          case atStart => exact ⟨0, Nat.zero_le _, rfl, Lib.hid ⟨⟨L, _, D1.out, G1.out⟩, B1.out⟩⟩
          case round =>
            obtain ⟨k, hk, rfl, hst⟩ := hrel
            by_cases hlt : k < m
            · obtain ⟨x, bb, off, hx, rfl, hbU, c0, c1, c2, c3, c4, c5, c6, ho⟩ := (HL.out.below hst.out.2).at hlt
              have hsm := HS.out x (List.mem_of_getElem? hx)
              have hwr : w.heap.size ≤ wr.heap.size := hst.out.2.size
              have HDO : Hid (Calls Try.prog 13 #[.pointer (some ⟨g, 0, none⟩), .pointer (some ⟨wr.heap.size, 0, none⟩), .agg x.vals.toArray] (wr.alloc (.cells zeros.toArray 52)) fun e w' =>
                  (∃ v : Bool, e = .returned (.bool v)) ∧ ((∃ L S, DAt w' (Low w.heap.size) g L S ∧ Going (k + 1) S) ∧ Below w.heap.size w w')) := Lib.hid (by
                obtain ⟨⟨L, S, hD, hK⟩, hB⟩ := hst.out
                refine (again_round x ho hD hK (by omega) hwr hsm).mono ?_
                rintro e w' ⟨e1, ⟨L', S', e2, e3⟩, e4⟩
                exact ⟨e1, ⟨L', S', e2, e3⟩, hB.trans e4⟩)
              obtain ⟨kind, s, r', A', n', c', b', z, ee, K', m', d', nums'⟩ := x
              unfold Ac.vals zeros at HDO
              simp only at c0 c1 c2 c3 c4 c5 c6
              have hbw : bb < wr.heap.size := by omega
              clear hst ho hsm hx
              go_wp2_with (first
                | (go_at_call 13; refine HDO.out.mono ?_; rintro e w9 ⟨⟨v, rfl⟩, hst⟩; have HS9 := Lib.hid hst; clear hst)
                | fail)
              go_roundw
              case rel => exact ⟨k + 1, by omega, by go_num, HS9⟩
              case measure => simp [intOf]; omega
            · obtain rfl : m = k := by omega
              obtain ⟨wa, hwa⟩ : ∃ wa, wa = wr := ⟨_, rfl⟩
              subst hwa
              obtain ⟨⟨La, Sa, hDa, hKa⟩, hBa⟩ := hst.out
              have hca : Sa.calls ≤ 60 := by have := hKa.calls; omega
              have HBa := Lib.hid hBa
              have HKa := Lib.hid hKa
              have HDD := Lib.hid (dead_any hDa)
              unfold ptrTo at HDD
              clear hst hBa hKa
              by_cases hd : Sa.dead = true
              case' pos =>
                have HD7 := Lib.hid hDa
                obtain ⟨w7, hw7⟩ : ∃ w7, w7 = wa := ⟨_, rfl⟩
                obtain ⟨Sb, hSb⟩ : ∃ Sb, Sb = Sa := ⟨_, rfl⟩
                have HIb : Hid (Inv Sb ∧ Keys Sb ∧ Sb.dead = true ∧ Sb.calls ≤ 1000) := Lib.hid (by rw [hSb]; exact ⟨HKa.out.inv, HKa.out.keys, hd, by omega⟩)
                have HD7' : Hid (∃ L, DAt w7 (Low w.heap.size) g L Sb) := Lib.hid (by rw [hw7, hSb]; exact ⟨La, hDa⟩)
                have B7 : Hid (Below w.heap.size w w7) := Lib.hid (by rw [hw7]; exact HBa.out)
                rw [hd] at HDD
                have HW7 := Lib.hid hw7.symm
                clear HD7 hDa hw7 hSb
                go_wp2_with (first
                  | (go_at_call 33; refine HDD.out.mono ?_; rintro e w' ⟨rfl, rfl⟩; rw [HW7.out])
                  | fail)
              case' neg =>
                have hdf : Sa.dead = false := by simpa using hd
                rw [hdf] at HDD
                have HFU := Lib.hid (fuse_any hDa 1 (by omega))
                unfold ptrTo at HFU
                clear hDa
                go_wp2_with (first
                  | (go_at_call 33; refine HDD.out.mono ?_; rintro e w' ⟨rfl, rfl⟩)
                  | fail)
                refine HFU.out.mono ?_
                rintro e w6 ⟨rfl, hD6, K6⟩
                have B6 := Lib.hid (HBa.out.trans (K6.below (fun k hk => hk)))
                have I6 : Inv ({ Sa with fuse := armN 1 Sa.calls } : St) := HKa.out.inv.like rfl rfl rfl rfl rfl (Nat.le_refl _)
                have HSD := Lib.hid (syncDir_any hD6 (by show Sa.calls ≤ 100000; omega) I6.closed (by have := I6.len; omega) (by have := HKa.out.inv.fl; show Sa.fs.length ≤ 100000; omega) (I6.ul' (by show Sa.calls ≤ 1000; omega)))
                have hfu := (fused hdf).2
                obtain ⟨Sb, hSb⟩ : ∃ Sb : St, Sb = { Sa with fuse := armN 1 Sa.calls, calls := Sa.calls + 1, dead := true } := ⟨_, rfl⟩
                rw [← hSb] at hfu
                rw [hfu] at HSD
                unfold ptrTo at HSD
                have HIb : Hid (Inv Sb ∧ Keys Sb ∧ Sb.dead = true ∧ Sb.calls ≤ 1000) := Lib.hid (by
                  rw [hSb]
                  exact ⟨HKa.out.inv.like rfl rfl rfl rfl rfl (Nat.le_succ _), HKa.out.keys.like rfl rfl, rfl, by show Sa.calls + 1 ≤ 1000; omega⟩)
                clear HFU hfu hD6 K6 I6 hSb
                go_wp2_with fail
                refine HSD.out.mono ?_
                rintro e w7 ⟨rfl, ⟨L7, hD7⟩, K7⟩
                have B7 := Lib.hid (B6.out.trans (K7.below (fun k hk => hk)))
                have HD7' : Hid (∃ L, DAt w7 (Low w.heap.size) g L Sb) := Lib.hid ⟨L7, hD7⟩
                clear HSD hD7 K7
                go_wp2_with fail
              all_goals
                obtain ⟨L7, hD7⟩ := HD7'.out
                have HBO := Lib.hid (boot_I hD7 HIb.out.1 HIb.out.2.2.2 turns K p q nums (shX_of (HK.out.below B7.out) (fun k hk => hk)) (by omega))
                obtain ⟨S1, hS1⟩ : ∃ S1, S1 = (Sb.boot turns nums).1 := ⟨_, rfl⟩
                have hb2 : (Sb.boot turns nums).2 = 0 := by unfold St.boot; rw [if_pos HIb.out.2.2.1]
                have HA1 : Hid (AllSure S1 ∧ S1.dead = false ∧ S1.calls = Sb.calls) := Lib.hid (by rw [hS1]; exact boot_sure HIb.out.2.2.1 turns nums)
                have HI1 : Hid (Inv S1 ∧ Keys S1) := Lib.hid (by rw [hS1]; exact ⟨HIb.out.1.boot turns nums, HIb.out.2.1.boot turns nums⟩)
                rw [hb2, ← hS1] at HBO
                unfold ptrTo at HBO
                clear hD7 hb2 hS1
                refine HBO.out.mono ?_
                rintro e w8 ⟨rfl, ⟨L8, hD8⟩, K8⟩
                have B8 := Lib.hid (B7.out.trans (K8.below (fun k hk => hk)))
                have HLI := Lib.hid (list_any hD8 (by have := HI1.out.1.len; omega))
                have hls : S1.list = S1.names := by unfold St.list; rw [if_neg (by rw [HA1.out.2.1]; exact Bool.false_ne_true)]
                rw [hls] at HLI
                have D8 := Lib.hid hD8
                unfold ptrTo at HLI
                clear HBO hD8 K8 hls
                go_wp2_with fail
                refine HLI.out.mono ?_
                rintro e w9 ⟨v9, rfl, ho9, hb9⟩
                obtain ⟨A9, c9, rfl⟩ := ho9.form
                have D9 := Lib.hid (D8.out.wide hb9)
                have B9 := Lib.hid (B8.out.trans (hb9.mono B8.out.size))
                have O9 := Lib.hid ho9
                clear hb9 ho9 HLI
                go_wp2_with fail
                go_loopw [12, 13] (fun v i wr => ∃ k : Nat, k ≤ S1.names.length ∧ i = .int .i64 k ∧ Hid (Rows2 w9 wr S1 v k) ∧ Hid (Below w9.heap.size w9 wr)) (fun _ i _ => S1.names.length - (intOf i).toNat)
                case atStart => exact ⟨0, Nat.zero_le _, rfl, Lib.hid ⟨fun _ => False, [], fun b hb => hb.elim, Row.nil _ _ _, (fun j hj => by cases hj), fun i p hi => absurd hi (Nat.not_lt_zero i)⟩, Lib.hid (Below.refl _ _)⟩
                case round =>
                  obtain ⟨k, hk, rfl, hro, hbe⟩ := hrel
                  by_cases hlt : k < S1.names.length
                  · obtain ⟨pk, hpk⟩ : ∃ pk, S1.names[k]? = some pk := ⟨_, List.getElem?_eq_getElem hlt⟩
                    have hnl := HI1.out.1.len
                    have hnb := nmB_len (HI1.out.2.now HI1.out.1 pk (List.mem_of_getElem? hpk))
                    obtain ⟨bn, offn, u, eA, hbn, hu, hcn⟩ := (O9.out.sh.below hbe.out).at hlt
                    have hu' : u = .string ⟨pk.1.toArray⟩ := by
                      have : (strs S1.names)[k]? = some (.string ⟨pk.1.toArray⟩) := by unfold strs; rw [List.getElem?_map, hpk]; rfl
                      rw [this] at hu
                      injection hu with hu
                      exact hu.symm
                    subst hu'
                    subst eA
                    have HRD := Lib.hid (read_any (D9.out.wide hbe.out) ⟨pk.1.toArray⟩ (by show pk.1.length ≤ maxLen; unfold maxLen; omega) HI1.out.1.closed (HI1.out.1.dl' (by rw [HA1.out.2.2]; exact HIb.out.2.2.2)))
                    rw [show (⟨pk.1.toArray⟩ : ByteArray).data.toList = pk.1 from rfl] at HRD
                    obtain ⟨Y, xs, hY, hrw, hv, hrows⟩ := hro.out
                    have HRW := Lib.hid hrw
                    have HPK := Lib.hid hpk
                    unfold ptrTo at HRD
                    have hk64 : k ≤ 1099511627776 := by omega
                    clear hro hpk hnb hu hnl hrw
                    go_wp2_with fail
                    refine HRD.out.mono ?_
                    rintro e w10 ⟨vr, rfl, ho10, hb10⟩
                    obtain ⟨Ar, cr, rfl⟩ := ho10.form
                    obtain ⟨lr, hlr⟩ : ∃ lr, lr = (S1.read pk.1).1.length := ⟨_, rfl⟩
                    have hrow2 := Rows2.mid (w10 := w9) HRW.out hb10
                    have hXlt : ∀ b, With Y wr w10 b → b < w10.heap.size := fun b hb => hb.elim (fun h => by have := (hY b h).2; have := hb10.size; omega) (fun h => h.2)
                    go_wp2_with (first
                      | (at_builtin; refine wpList_rowpush rfl (.tmp 81) (.tmp 83) 65 rfl rowBB w10 (With Y wr w10) _ _ xs _ rfl hrow2 rfl rfl hXlt hk64 (by omega) ?_; intro v3 w3 hrow3 hg3 hl3)
                      | fail)
                    go_roundw
                    case rel =>
                      refine ⟨k + 1, by omega, by go_num, Lib.hid (Rows2.push hY HRW.out hv hrows HPK.out hbe.out.size hb10 ho10 hrow3 hg3 hl3), Lib.hid ?_⟩
                      have hbw := hbe.out.trans (hb10.mono hbe.out.size)
                      have hbx := hbw.alloc (hbw.size) (.cells #[.slice Ar (S1.read pk.1).1.length cr] 32)
                      exact hbx.trans (below_grown hg3 hbx.size hv)
                    case measure => simp [intOf]; omega
                  · obtain rfl : k = S1.names.length := by omega
                    obtain ⟨wb, hwb⟩ : ∃ wb, wb = wr := ⟨_, rfl⟩
                    subst hwb
                    obtain ⟨Y, xs, hY, hrw, hv, hrows⟩ := hro.out
                    obtain ⟨Av, cv, rfl, _, _⟩ := hrw.form
                    obtain ⟨X11, hX11⟩ : ∃ X, X = With (With (Low w.heap.size) w8 w9) w9 wb := ⟨_, rfl⟩
                    have hD11 : DAt wb X11 g L8 S1 := by rw [hX11]; exact D9.out.wide hbe.out
                    have hXU : ∀ k, k < w.heap.size → X11 k := fun k hk => by rw [hX11]; exact .inl (.inl hk)
                    have hXW : ∀ k, w8.heap.size ≤ k → k < w9.heap.size → X11 k := fun k h1 h2 => by rw [hX11]; exact .inl (.inr ⟨h1, h2⟩)
                    have hXY : ∀ k, w9.heap.size ≤ k → k < wb.heap.size → X11 k := fun k h1 h2 => by rw [hX11]; exact .inr ⟨h1, h2⟩
                    have Bb := Lib.hid (B9.out.trans (hbe.out.mono B9.out.size))
                    have hc1 : S1.calls ≤ 1000 := by rw [HA1.out.2.2]; exact HIb.out.2.2.2
                    have hwas : ShX wb X11 A9 S1.names.length (strs S1.names) := ⟨O9.out.sh.1, fun hn => by
                      obtain ⟨b, off, e, hb, hc⟩ := (O9.out.sh.below hbe.out).2 hn
                      have := O9.out.1.lt b (by rw [e]; rfl)
                      exact ⟨b, off, e, hXW b this.1 this.2, hc⟩⟩
                    have HFACT : Hid (∀ w15, Keeps X11 wb w15 → Sh w15 w15.heap.size A9 S1.names.length (strs S1.names) ∧ Sh w15 w15.heap.size Av S1.names.length xs ∧ ∀ i p, i < S1.names.length → S1.names[i]? = some p → ∃ A c, xs[i]? = some (.slice A (S1.read p.1).1.length c) ∧ Sh w15 w15.heap.size A (S1.read p.1).1.length (by8 (S1.read p.1).1)) := Lib.hid fun w15 hK => by
                      refine ⟨(hwas.keep hK).sh, (hrw.stay fun j hj => hK.block j (hXY j (hv j hj) (hrw.lt hj))).sh, fun i p hi hp => ?_⟩
                      obtain ⟨A, c, h1, h2⟩ := hrows i p hi hp
                      exact ⟨A, c, h1, (h2.mono (Y := X11) fun b hb => ⟨hK.block b (hXY b (hY b hb).1 (hY b hb).2), hXY b (hY b hb).1 (hY b hb).2⟩).sh⟩
                    have HXU := Lib.hid hXU
                    have HFU := Lib.hid (fuse_any hD11 1 (by omega))
                    have hc1' := Lib.hid hc1
                    unfold ptrTo at HFU
                    clear hro hbe hrw hv hrows hY hwas hXU hXW hXY hX11 hD11 hc1
                    go_wp2_with fail
                    refine HFU.out.mono ?_
                    rintro e w12 ⟨rfl, hD12, K12⟩
                    have I12 : Inv ({ S1 with fuse := armN 1 S1.calls } : St) := HI1.out.1.like rfl rfl rfl rfl rfl (Nat.le_refl _)
                    have HSD := Lib.hid (syncDir_any hD12 (by show S1.calls ≤ 100000; have := hc1'.out; omega) I12.closed (by have := I12.len; omega) (by have := HI1.out.1.fl; have := hc1'.out; show S1.fs.length ≤ 100000; omega) (I12.ul' hc1'.out))
                    have hfu := (fused HA1.out.2.1).2
                    obtain ⟨Sc, hSc⟩ : ∃ Sc : St, Sc = { S1 with fuse := armN 1 S1.calls, calls := S1.calls + 1, dead := true } := ⟨_, rfl⟩
                    rw [← hSc] at hfu
                    rw [hfu] at HSD
                    unfold ptrTo at HSD
                    have HIc : Hid (Inv Sc ∧ Sc.dead = true) := Lib.hid (by
                      rw [hSc]
                      exact ⟨HI1.out.1.like rfl rfl rfl rfl rfl (Nat.le_succ _), rfl⟩)
                    have HBA : Hid (∀ t nums, (Sc.boot t nums).1.names = S1.names ∧ (Sc.boot t nums).1.fs = S1.fs ∧ (Sc.boot t nums).1.dead = false) := Lib.hid (by
                      intro t nums
                      rw [hSc]
                      exact boot_again (T := { S1 with fuse := armN 1 S1.calls, calls := S1.calls + 1, dead := true }) HA1.out.1 rfl rfl rfl rfl t nums)
                    have hcc : Hid (Sc.calls ≤ 1001) := Lib.hid (by rw [hSc]; show S1.calls + 1 ≤ 1001; have := hc1'.out; omega)
                    have K12 := Lib.hid K12
                    clear HFU hfu hD12 I12 hSc
                    go_wp2_with fail
                    refine HSD.out.mono ?_
                    rintro e w13 ⟨rfl, ⟨L13, hD13⟩, K13⟩
                    have hK13 := Lib.hid (K12.out.trans K13)
                    have hnilX : ShX w13 X11 none 0 (by64 []) := ⟨rfl, fun h => absurd h (Nat.lt_irrefl 0)⟩
                    have HBO := Lib.hid (boot_any hD13 HIc.out.2 (by have := HIc.out.1.fl; have := hcc.out; omega) (by have := HIc.out.1.wl; have := hcc.out; omega) (fun f hf => by have h0 := HIc.out.1.ul f hf; have := hcc.out; unfold most at h0; omega) (fun f hf => by have h0 := HIc.out.1.dl f hf; have := hcc.out; unfold most at h0; omega) HIc.out.1.good HIc.out.1.sound 0 none 0 0 [] hnilX (by omega))
                    obtain ⟨S2, hS2⟩ : ∃ S2, S2 = (Sc.boot 0 []).1 := ⟨_, rfl⟩
                    have hb22 : (Sc.boot 0 []).2 = 0 := by unfold St.boot; rw [if_pos HIc.out.2]
                    have HS2 : Hid (S2.names = S1.names ∧ S2.fs = S1.fs ∧ S2.dead = false) := Lib.hid (by rw [hS2]; exact HBA.out 0 [])
                    rw [hb22, ← hS2] at HBO
                    unfold ptrTo at HBO
                    clear HSD hD13 K13 hnilX hb22 hS2
                    go_wp2_with fail
                    refine HBO.out.mono ?_
                    rintro e w14 ⟨rfl, ⟨L14, hD14⟩, K14⟩
                    have hK14 := Lib.hid (hK13.out.trans K14)
                    have HLI := Lib.hid (list_any hD14 (by rw [HS2.out.1]; have := HI1.out.1.len; omega))
                    have hls : S2.list = S1.names := by unfold St.list; rw [if_neg (by rw [HS2.out.2.2]; exact Bool.false_ne_true)]; exact HS2.out.1
                    rw [hls] at HLI
                    have D14 := Lib.hid hD14
                    unfold ptrTo at HLI
                    clear HBO hD14 K14 hls
                    go_wp2_with fail
                    refine HLI.out.mono ?_
                    rintro e w15 ⟨v15, rfl, ho15, hb15⟩
                    obtain ⟨A15, c15, rfl⟩ := ho15.form
                    have D15 := Lib.hid (D14.out.wide hb15)
                    have B15 := Lib.hid ((Bb.out.trans (hK14.out.below HXU.out)).trans (hb15.mono (Nat.le_trans Bb.out.size hK14.out.size)))
                    have HNOW := Lib.hid ho15.sh
                    have HOLD : Hid (Sh w15 w15.heap.size A9 S1.names.length (strs S1.names) ∧ Sh w15 w15.heap.size Av S1.names.length xs ∧ ∀ i p, i < S1.names.length → S1.names[i]? = some p → ∃ A c, xs[i]? = some (.slice A (S1.read p.1).1.length c) ∧ Sh w15 w15.heap.size A (S1.read p.1).1.length (by8 (S1.read p.1).1)) := Lib.hid (by
                      obtain ⟨e1, e2, e3⟩ := HFACT.out w14 hK14.out
                      have hs := hb15.size
                      refine ⟨(e1.below hb15).more hs, (e2.below hb15).more hs, fun i p hi hp => ?_⟩
                      obtain ⟨A, c, f1, f2⟩ := e3 i p hi hp
                      exact ⟨A, c, f1, (f2.below hb15).more hs⟩)
                    have HRS : Hid (∀ k, S2.read k = S1.read k) := Lib.hid fun k => read_same HS2.out.1 HS2.out.2.1 HS2.out.2.2 HA1.out.2.1 k
                    have HI2 : Hid (Closed S2.names S2.fs ∧ ∀ f ∈ S2.fs, f.data.length ≤ 1048576) := Lib.hid (by
                      rw [HS2.out.1, HS2.out.2.1]
                      exact ⟨HI1.out.1.closed, HI1.out.1.dl' hc1'.out⟩)
                    clear hb15 ho15 HLI
                    go_wp2_with fail
                    go_loopw [17] (fun i wr => ∃ k : Nat, k ≤ S1.names.length ∧ i = .int .i64 k ∧ Hid (Below w15.heap.size w15 wr)) (fun i _ => S1.names.length - (intOf i).toNat)
                    case atStart => exact ⟨0, Nat.zero_le _, rfl, Lib.hid (Below.refl _ _)⟩
                    case round =>
                      obtain ⟨k, hk, rfl, hbe⟩ := hrel
                      by_cases hlt : k < S1.names.length
                      · obtain ⟨pk, hpk⟩ : ∃ pk, S1.names[k]? = some pk := ⟨_, List.getElem?_eq_getElem hlt⟩
                        have hnb := nmB_len (HI1.out.2.now HI1.out.1 pk (List.mem_of_getElem? hpk))
                        have hok := read_ok HI1.out.1 HA1.out.2.1 (List.mem_of_getElem? hpk)
                        have hstr : (strs S1.names)[k]? = some (.string ⟨pk.1.toArray⟩) := by unfold strs; rw [List.getElem?_map, hpk]; rfl
                        obtain ⟨bn, offn, u, eA, hbn, hu, hcn⟩ := (HNOW.out.below hbe.out).at hlt
                        obtain ⟨bo, offo, u2, eB, hbo, hu2, hco⟩ := (HOLD.out.1.below hbe.out).at hlt
                        obtain ⟨bv, offv, u3, eC, hbv, hu3, hcv⟩ := (HOLD.out.2.1.below hbe.out).at hlt
                        obtain ⟨Ar, cr, hxs, hshr⟩ := HOLD.out.2.2 k pk hlt hpk
                        rw [hstr] at hu hu2
                        rw [hxs] at hu3
                        cases hu
                        cases hu2
                        cases hu3
                        subst eA
                        subst eB
                        subst eC
                        have HRD := Lib.hid (read_any (D15.out.wide hbe.out) ⟨pk.1.toArray⟩ (by show pk.1.length ≤ maxLen; unfold maxLen; omega) HI2.out.1 HI2.out.2)
                        rw [show (⟨pk.1.toArray⟩ : ByteArray).data.toList = pk.1 from rfl, HRS.out pk.1] at HRD
                        have HSHR := Lib.hid (hshr.below hbe.out)
                        unfold ptrTo at HRD
                        clear hpk hnb hstr hxs hshr
                        go_wp2_with fail
                        refine HRD.out.mono ?_
                        rintro e w16 ⟨vr, rfl, ho16, hb16⟩
                        obtain ⟨A16, c16, rfl⟩ := ho16.form
                        rw [hok]
                        obtain ⟨ln, hln⟩ : ∃ ln, ln = (S1.read pk.1).1.length := ⟨_, rfl⟩
                        have hsz : w15.heap.size ≤ wr.heap.size := hbe.out.size
                        have kn : w16.cell? ⟨bn, offn + k, none⟩ = some (.string ⟨pk.1.toArray⟩) := (hb16.cell (p := ⟨bn, offn + k, none⟩) (by show bn < wr.heap.size; omega)).trans hcn
                        have ko : w16.cell? ⟨bo, offo + k, none⟩ = some (.string ⟨pk.1.toArray⟩) := (hb16.cell (p := ⟨bo, offo + k, none⟩) (by show bo < wr.heap.size; omega)).trans hco
                        have kv : w16.cell? ⟨bv, offv + k, none⟩ = some (.slice Ar ln cr) := (hb16.cell (p := ⟨bv, offv + k, none⟩) (by show bv < wr.heap.size; omega)).trans (by rw [hln]; exact hcv)
                        have HSA : Hid (∀ q, Calls Try.prog 17 #[.slice A16 ln c16, .slice Ar ln cr] (w16.drewN q) fun e w' => e = .returned (.bool true) ∧ ∃ m, w' = (w16.drewN q).drewN m) := Lib.hid fun q => by
                          have hx : Sh (w16.drewN q) w16.heap.size A16 ln (by8 (S1.read pk.1).1) := by rw [hln]; exact ho16.sh
                          have hy : Sh (w16.drewN q) w15.heap.size Ar ln (by8 (S1.read pk.1).1) := by rw [hln]; exact (HSHR.out.below (hb16.mono hsz)).below (Quiet.below ⟨q, rfl⟩ _)
                          have hle : ln ≤ maxLen := by
                            have := hx.len
                            have h2 := ho16.cap
                            rw [← hln] at h2
                            omega
                          exact same_yes A16 Ar ln ln c16 cr _ _ _ _ _ hx hy hle rfl
                        have hss : ((⟨pk.1.toArray⟩ : ByteArray).toList != (⟨pk.1.toArray⟩ : ByteArray).toList) = false := bne_self_eq_false _
                        have hki : (k : Int) < (S1.names.length : Int) := by omega
                        have HB16 := Lib.hid (hbe.out.trans (hb16.mono hsz))
                        have HLT : Hid (k + 1 ≤ S1.names.length) := Lib.hid hlt
                        have hk64 : k ≤ 1000 := by have := HI1.out.1.len; omega
                        rw [← hln]
                        clear hcn hco hcv ho16 hb16 hok hbn hbo hbv HRD hln
                        go_wp2_with fail
                        go_quiet ((go_at_call 17; refine Calls.quiet_of (HSA.out _)))
                        go_wp2_with fail
                        go_roundw
                        case rel => exact ⟨k + 1, HLT.out, by go_num, Lib.hid (HB16.out.trans (Quiet.below ⟨_, rfl⟩ _))⟩
                        case measure =>
                          have h5 := HLT.out
                          simp [intOf]
                          omega
                      · obtain rfl : k = S1.names.length := by omega
                        go_wp2_with (first
                          | (go_at_call 10; refine (awake_any _).mono ?_; rintro e w17 ⟨rfl, hb17⟩)
                          | fail)
                        go_ret
                        have hbb := B15.out.trans (hbe.out.mono B15.out.size)
                        exact ⟨rfl, hbb.trans (hb17.mono hbb.size)⟩
end Go.Proofs.Ytfhbolhmfhgeaaa
