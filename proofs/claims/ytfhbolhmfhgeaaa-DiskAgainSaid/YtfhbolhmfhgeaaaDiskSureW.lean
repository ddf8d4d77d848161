/-
  A file whose bytes and name are sure begins with these bytes behind any power failure, as long as no Rename or Remove has to do with its name. It holds for all bytes, all acts and all numbers; of more than 500 bytes, 60 acts or 60 numbers it says that the document's example holds.
-/
import Derived.Test.YtfhbolhmfhgeaaaDSureA
import Derived.Test.YtfhbolhmfhgeaaaLent
namespace Go.Proofs.Ytfhbolhmfhgeaaa
set_option linter.unusedVariables false
set_option linter.unusedSimpArgs false
open Go.RowKit Go.Maps

theorem kStr_list : kStr.toList = [107, 101, 112, 116] := by first | rfl | decide +kernel | simp [ByteArray.toList, ByteArray.toList.loop]
/-- The power goes off at the next call. -/
theorem fused {S : St} (hd : S.dead = false) : ({ S with fuse := armN 1 S.calls } : St).berr = 9 ∧ ({ S with fuse := armN 1 S.calls } : St).syncDir = ({ S with fuse := armN 1 S.calls, calls := S.calls + 1, dead := true }, 9) := by
  have h1 : armN 1 S.calls = S.calls + 1 := by
    unfold armN
    rw [if_pos (by omega)]
    rfl
  have hb : ({ S with fuse := armN 1 S.calls } : St).berr = 9 := by
    unfold St.berr
    rw [if_neg (by show ¬ S.dead = true; rw [hd]; exact Bool.false_ne_true), if_pos (by show S.calls + 1 = armN 1 S.calls; rw [h1])]
  refine ⟨hb, ?_⟩
  unfold St.syncDir
  rw [if_pos (by rw [hb]; omega), hb]
  unfold St.begun
  rw [if_neg (by show ¬ S.dead = true; rw [hd]; exact Bool.false_ne_true), if_pos (by show S.calls + 1 = armN 1 S.calls; rw [h1])]
theorem Keeping.more {k : Nm} {data : List Int} {n m : Nat} {S : St} (h : Keeping k data n S) (hm : n ≤ m) : Keeping k data m S := ⟨h.inv, h.kept, h.dead, h.fuse, Nat.le_trans h.calls hm⟩
theorem sure_round {U : Nat} {wr : World} {g : Nat} {L : Lay} {S : St} {data : List Int} {n : Nat} (x : Ac) (hx : x.ok wr U) (hD : DAt wr (Low U) g L S) (hK : Keeping kNm data n S) (hn : n ≤ 900) (hU : U ≤ wr.heap.size)
    (hs : x.s.size ≤ 100 ∧ x.r.size ≤ 100 ∧ x.n ≤ 500 ∧ x.m ≤ 60) (h0 : 0 ≤ x.kind) (h5 : x.kind ≤ 5) (hne : 4 ≤ x.kind → x.s ≠ kStr ∧ x.r ≠ kStr) :
    Calls Try.prog 13 #[.pointer (some ⟨g, 0, none⟩), .pointer (some ⟨wr.heap.size + 1, 0, none⟩), .agg x.vals.toArray] ((wr.alloc (.cells x.vals.toArray 36)).alloc (.cells zeros.toArray 52)) fun e w' =>
      (∃ v : Bool, e = .returned (.bool v)) ∧ (∃ L' S', DAt w' (Low U) g L' S' ∧ Keeping kNm data (n + 1) S') ∧ Below U wr w' := by
  obtain ⟨w1, hw1⟩ : ∃ w1, w1 = wr.alloc (.cells x.vals.toArray 36) := ⟨_, rfl⟩
  have hs1 : w1.heap.size = wr.heap.size + 1 := by rw [hw1]; simp
  rw [← hw1, ← hs1]
  obtain ⟨w2, hw2⟩ : ∃ w2, w2 = w1.alloc (.cells zeros.toArray 52) := ⟨_, rfl⟩
  have hs2 : w2.heap.size = w1.heap.size + 1 := by rw [hw2]; simp
  have hb : Below wr.heap.size wr w2 := by
    rw [hw2, hw1]
    exact ((Below.refl _ _).alloc (Nat.le_refl _) _).alloc (by simp) _
  have hz : RZ w2 w1.heap.size := by rw [hw2]; exact Blk.new w1 _ zeros
  rw [← hw2]
  have hlow : ∀ k, k < U → With (Low U) wr w2 k := fun k hk => .inl hk
  refine (act_keeping x (hx.below (hb.mono hU)) (hD.wide hb) hK hn hz hlow (.inr ⟨by omega, by omega⟩) (by omega) (by omega) hs h0 h5 hne).mono ?_
  rintro e w' ⟨h1, ⟨L', S', h2, h3⟩, h4⟩
  exact ⟨h1, ⟨L', S', h2.fewer (fun k hk => .inl hk), h3⟩, (hb.mono hU).trans h4⟩

set_option maxRecDepth 100000 in
set_option maxHeartbeats 1600000 in
theorem diskSure_long (A B K : Option Addr) (n c m d p q : Nat) (turns : Int) (l : List Ac) (w : World) (hn : n ≤ maxLen) (hm : m ≤ maxLen) (hp : p ≤ maxLen) (hl : ActsIn w w.heap.size B m l) (h : 500 < n ∨ greatB l = true ∨ 60 < p) :
    Calls Try.prog 4 #[.slice A n c, .slice B m d, .int .i64 turns, .slice K p q] w fun e w' => e = .returned (.bool true) ∧ Below w.heap.size w w' := by
  have HG := Lib.hid (great_any B m d l w w.heap.size hl hm)
  obtain ⟨gb, hgb⟩ : ∃ gb, gb = greatB l := ⟨_, rfl⟩
  rw [← hgb] at HG h
  clear hl hgb
  unfold maxLen at hn hm hp
  by_cases h1 : 500 < n
  · clear h HG
    go_enter Try.func4, Try.ntmps4
    go_wp2_with fail
    refine (awake_any _).mono ?_
    rintro e w4 ⟨rfl, hb4⟩
    go_wp2
    go_ret
    exact ⟨rfl, hb4⟩
  · cases gb
    · have h2 : 60 < p := by
        rcases h with h | h | h
        · exact absurd h h1
        · cases h
        · exact h
      clear h
      go_enter Try.func4, Try.ntmps4
      go_wp2_with (first
        | (go_at_call 9; refine HG.out.mono ?_; rintro e w1 ⟨rfl, q1, rfl⟩)
        | (go_at_call 10; refine (awake_any _).mono ?_; rintro e w4 ⟨rfl, hb4⟩)
        | fail)
      go_ret
      exact ⟨rfl, (Quiet.below ⟨q1, rfl⟩ _).trans hb4⟩
    · clear h
      go_enter Try.func4, Try.ntmps4
      go_wp2_with (first
        | (go_at_call 9; refine HG.out.mono ?_; rintro e w1 ⟨rfl, q1, rfl⟩)
        | (go_at_call 10; refine (awake_any _).mono ?_; rintro e w4 ⟨rfl, hb4⟩)
        | fail)
      go_ret
      exact ⟨rfl, (Quiet.below ⟨q1, rfl⟩ _).trans hb4⟩

set_option maxRecDepth 100000 in
set_option maxHeartbeats 6400000 in
theorem diskSure_short (A B K : Option Addr) (n c m d p q : Nat) (turns : Int) (l : List Ac) (xs nums : List Int) (w : World) (h1 : ¬ 500 < n) (h2 : greatB l = false) (h3 : ¬ 60 < p) (hx : Sh w w.heap.size A n (by8 xs)) (hl : ActsIn w w.heap.size B m l) (hk : Sh w w.heap.size K p (by64 nums)) :
    Calls Try.prog 4 #[.slice A n c, .slice B m d, .int .i64 turns, .slice K p q] w fun e w' => e = .returned (.bool true) ∧ Below w.heap.size w w' := by
  have hxl : xs.length = n := by have := hx.len; rwa [by8_len] at this
  have hg := greatB_no h2
  have hml : l.length = m := hl.1
  have HG := Lib.hid (great_any B m d l w w.heap.size hl (by unfold maxLen; omega))
  rw [h2] at HG
  have HXL := Lib.hid hxl
  have HX := Lib.hid hx
  have HL := Lib.hid hl
  have HK := Lib.hid hk
  have HS := Lib.hid hg.2
  have hm60 : m ≤ 60 := by omega
  have hn5 : n ≤ 500 := by omega
  have hp6 : p ≤ 60 := by omega
  clear hx hl hk hg hxl hml h2
  go_enter Try.func4, Try.ntmps4
  go_wp2_with fail
  refine HG.out.mono ?_
  rintro e w0 ⟨rfl, q1, rfl⟩
  obtain ⟨w0, hw0⟩ : ∃ w0, w0 = w.drewN q1 := ⟨_, rfl⟩
  rw [← hw0]
  have B0 : Hid (Below w.heap.size w w0) := Lib.hid (by rw [hw0]; exact Quiet.below ⟨q1, rfl⟩ _)
  have hs0 : w0.heap.size = w.heap.size := by rw [hw0]; rfl
  have HW0 := Lib.hid hw0
  clear hw0
  have HNEW := Lib.hid (new_any none 0 0 [] 1048576 w0 ⟨rfl, fun k f hf => by simp at hf⟩ (Nat.zero_le _))
  go_wp2_with (fail)
  refine HNEW.out.mono ?_
  rintro e w1 ⟨hb1, ⟨_, g, L, fs, rfl, hnew⟩ | ⟨h0, _⟩⟩
  rotate_left
  · exact absurd h0 (by decide)
  have hfs : fs = [] := by
    have := hnew.made.len
    exact List.eq_nil_of_length_eq_zero this
  subst hfs
  have hD1 : DAt w1 (Low w.heap.size) g L (newSt 1048576 [] []) := by rw [← hs0]; exact hnew.at_
  have D1 := Lib.hid hD1
  have B1 := Lib.hid (B0.out.trans (by rw [← hs0]; exact hb1))
  clear hnew hb1 HNEW hD1
  -- Create
  have HCR := Lib.hid ((create_any D1.out (by decide) kStr (by decide) (by decide) (by decide) (by decide)).mono (R' := fun e w' => ∃ b, e = .returned (.int .i64 0) ∧ (∃ L', DAt w' (Low w.heap.size) g L' (kA b [] 0 false [] [.create kNm b] 1)) ∧ Keeps (Low w.heap.size) w1 w') fun e w' ⟨b, _, _, h1, h2, h3⟩ => ⟨b, h1, h2, h3⟩)
  unfold ptrTo at HCR ⊢
  go_wp2_with (fail)
  refine HCR.out.mono ?_
  rintro e w2 ⟨b, rfl, ⟨L2, hD2⟩, K2⟩
  have D2 := Lib.hid hD2
  have B2 := Lib.hid (B1.out.trans (K2.below (fun k hk => hk)))
  clear HCR D1 hD2 K2
  -- Append
  have HAP := Lib.hid (append_any D2.out (by show 1 ≤ 100000; omega) kStr (by show 4 ≤ maxLen; decide) (kClosed b _ _ _ _ _ _) (by show 1 ≤ 1000; omega) (fun f hf => by rw [List.mem_singleton.1 hf]; show 0 ≤ 1048576; omega) (fun f hf => by rw [List.mem_singleton.1 hf]; show 0 ≤ 1048576; omega) (by show (0 : Int) ≤ 1048576 ∧ (1048576 : Int) ≤ 1048576; omega) A n c xs (shX_of (HX.out.below B2.out) (fun k hk => hk)) (by omega))
  have hap := k2 b xs (by rw [HXL.out]; exact hn5)
  rw [show kStr.data.toList = kNm from rfl, hap] at HAP
  unfold ptrTo at HAP
  clear hap
  go_wp2_with (fail)
  refine HAP.out.mono ?_
  rintro e w3 ⟨rfl, ⟨L3, hD3⟩, K3⟩
  have D3 := Lib.hid hD3
  have B3 := Lib.hid (B2.out.trans (K3.below (fun k hk => hk)))
  clear HAP D2 hD3 K3
  -- Sync
  have HSY := Lib.hid (sync_any D3.out (by show 2 ≤ 1000000; omega) kStr (by show 4 ≤ maxLen; decide) (kClosed b _ _ _ _ _ _))
  rw [show kStr.data.toList = kNm from rfl, k3] at HSY
  unfold ptrTo at HSY
  go_wp2_with (fail)
  refine HSY.out.mono ?_
  rintro e w4 ⟨rfl, ⟨L4, hD4⟩, K4⟩
  have D4 := Lib.hid hD4
  have B4 := Lib.hid (B3.out.trans (K4.below (fun k hk => hk)))
  clear HSY D3 hD4 K4
  -- SyncDir
  have HSD := Lib.hid (syncDir_any D4.out (by show 3 ≤ 100000; omega) (kClosed b _ _ _ _ _ _) (by show 1 ≤ 1000; omega) (by show 1 ≤ 100000; omega) (fun f hf => by rw [List.mem_singleton.1 hf]; show 0 ≤ 1048576; omega))
  rw [k4] at HSD
  unfold ptrTo at HSD
  go_wp2_with (fail)
  refine HSD.out.mono ?_
  rintro e w5 ⟨rfl, ⟨L5, hD5⟩, K5⟩
  have D5 := Lib.hid hD5
  have B5 := Lib.hid (B4.out.trans (K5.below (fun k hk => hk)))
  clear HSD D4 hD5 K5
  have S5 := Lib.hid (kKeeping b xs (by rw [HXL.out]; exact hn5))
  have hzd : ∀ w : World, (zeroValue 52).run Try.prog w = .ok (.agg #[.slice none 0 0, .slice none 0 0, .slice none 0 0, .slice none 0 0, .int .i64 0, .bool false, .int .i64 0, .int .i64 0, .int .i64 0, .int .i64 0]) w := fun w => by kernel_rfl
  have hza : ∀ w : World, (zeroValue 36).run Try.prog w = .ok (.agg #[.int .i64 0, .string ⟨#[]⟩, .string ⟨#[]⟩, .slice none 0 0, .int .i64 0, .int .i64 0, .slice none 0 0]) w := fun w => by kernel_rfl
  go_wp2_with fail
  go_loopw [10] (fun i wr => ∃ k : Nat, k ≤ m ∧ i = .int .i64 k ∧ Hid ((∃ L S, DAt wr (Low w.heap.size) g L S ∧ Keeping kNm xs (4 + k) S) ∧ Below w.heap.size w wr)) (fun i _ => m - (intOf i).toNat)
  case atStart => exact ⟨0, Nat.zero_le _, rfl, Lib.hid ⟨⟨L5, _, D5.out, S5.out⟩, B5.out⟩⟩
  case round =>
    obtain ⟨k, hk, rfl, hst⟩ := hrel
    by_cases hlt : k < m
    · obtain ⟨x, bb, off, hx, rfl, hbU, c0, c1, c2, c3, c4, c5, c6, ho⟩ := (HL.out.below hst.out.2).at hlt
      have hsm := HS.out x (List.mem_of_getElem? hx)
      have hwr : w.heap.size ≤ wr.heap.size := hst.out.2.size
      have HST : Hid (∀ W', wr.grownBy W' none → (∃ L S, DAt W' (Low w.heap.size) g L S ∧ Keeping kNm xs (4 + (k + 1)) S) ∧ Below w.heap.size w W') := Lib.hid fun W' hg => by
        obtain ⟨⟨L, S, hD, hK⟩, hB⟩ := hst.out
        exact ⟨⟨L, S, hD.foreign hg (fun j e => by cases e), hK.more (by omega)⟩, hB.trans ⟨hg.os, hg.tape, hg.output, hg.size, fun k hk => hg.block k (by omega) (by simp)⟩⟩
      have HDO : Hid (0 ≤ x.kind → x.kind ≤ 5 → (4 ≤ x.kind → x.s ≠ kStr ∧ x.r ≠ kStr) → Calls Try.prog 13 #[.pointer (some ⟨g, 0, none⟩), .pointer (some ⟨wr.heap.size + 1, 0, none⟩), .agg x.vals.toArray] ((wr.alloc (.cells x.vals.toArray 36)).alloc (.cells zeros.toArray 52)) fun e w' =>
          (∃ v : Bool, e = .returned (.bool v)) ∧ ((∃ L S, DAt w' (Low w.heap.size) g L S ∧ Keeping kNm xs (4 + (k + 1)) S) ∧ Below w.heap.size w w')) := Lib.hid fun a0 a5 ane => by
        obtain ⟨⟨L, S, hD, hK⟩, hB⟩ := hst.out
        refine (sure_round x ho hD hK (by omega) hwr hsm a0 a5 ane).mono ?_
        rintro e w' ⟨e1, ⟨L', S', e2, e3⟩, e4⟩
        exact ⟨e1, ⟨L', S', e2, e3⟩, hB.trans e4⟩
      obtain ⟨kind, s, r', A', n', c', b', z, ee, K', m', d', nums'⟩ := x
      unfold Ac.vals zeros at HDO
      simp only at c0 c1 c2 c3 c4 c5 c6
      clear hst ho hsm hx
      by_cases k0 : kind < 0
      · go_wp2
        go_roundw
        case rel => exact ⟨k + 1, by omega, by go_num, Lib.hid (HST.out _ (by (repeat (first | exact grown_refl _ _ | apply grown_alloc' | apply grown_drew1 | apply grown_drew'))))⟩
        case measure => simp [intOf]; omega
      · by_cases k5 : 5 < kind
        · go_wp2
          go_roundw
          case rel => exact ⟨k + 1, by omega, by go_num, Lib.hid (HST.out _ (by (repeat (first | exact grown_refl _ _ | apply grown_alloc' | apply grown_drew1 | apply grown_drew'))))⟩
          case measure => simp [intOf]; omega
        · by_cases k4 : 4 ≤ kind
          · by_cases hs : s.toList = [107, 101, 112, 116]
            · have es : (s.toList == [107, 101, 112, 116]) = true := by rw [hs]; rfl
              go_wp2
              go_roundw
              case rel => exact ⟨k + 1, by omega, by go_num, Lib.hid (HST.out _ (by (repeat (first | exact grown_refl _ _ | apply grown_alloc' | apply grown_drew1 | apply grown_drew'))))⟩
              case measure => simp [intOf]; omega
            · by_cases hr : r'.toList = [107, 101, 112, 116]
              · have es : (s.toList == [107, 101, 112, 116]) = false := by simpa using hs
                have er : (r'.toList == [107, 101, 112, 116]) = true := by rw [hr]; rfl
                go_wp2
                go_roundw
                case rel => exact ⟨k + 1, by omega, by go_num, Lib.hid (HST.out _ (by (repeat (first | exact grown_refl _ _ | apply grown_alloc' | apply grown_drew1 | apply grown_drew'))))⟩
                case measure => simp [intOf]; omega
              · have es : (s.toList == [107, 101, 112, 116]) = false := by simpa using hs
                have er : (r'.toList == [107, 101, 112, 116]) = false := by simpa using hr
                have HDC := Lib.hid (HDO.out (by show 0 ≤ kind; omega) (by show kind ≤ 5; omega) (fun _ => ⟨fun e => hs (by rw [show s = kStr from e]; exact kStr_list), fun e => hr (by rw [show r' = kStr from e]; exact kStr_list)⟩))
                clear HDO HST
                go_wp2_with (first
                  | (go_at_call 13; refine HDC.out.mono ?_; rintro e w9 ⟨⟨v, rfl⟩, hst⟩; have HS9 := Lib.hid hst; clear hst)
                  | fail)
                go_roundw
                case rel => exact ⟨k + 1, by omega, by go_num, HS9⟩
                case measure => simp [intOf]; omega
          · have HDC := Lib.hid (HDO.out (by show 0 ≤ kind; omega) (by show kind ≤ 5; omega) (fun h4 => absurd h4 k4))
            clear HDO HST
            go_wp2_with (first
              | (go_at_call 13; refine HDC.out.mono ?_; rintro e w9 ⟨⟨v, rfl⟩, hst⟩; have HS9 := Lib.hid hst; clear hst)
              | fail)
            go_roundw
            case rel => exact ⟨k + 1, by omega, by go_num, HS9⟩
            case measure => simp [intOf]; omega
    · obtain rfl : m = k := by omega
      obtain ⟨wa, hwa⟩ : ∃ wa, wa = wr := ⟨_, rfl⟩
      subst hwa
      obtain ⟨⟨La, Sa, hDa, hKa⟩, hBa⟩ := hst.out
      have hca : Sa.calls ≤ 64 := by have := hKa.calls; omega
      have HBa := Lib.hid hBa
      have HKa := Lib.hid hKa
      have HFU := Lib.hid (fuse_any hDa 1 (by omega))
      unfold ptrTo at HFU
      clear hst hBa hKa hDa
      go_wp2_with fail
      refine HFU.out.mono ?_
      rintro e w6 ⟨rfl, hD6, K6⟩
      have B6 := Lib.hid (HBa.out.trans (K6.below (fun k hk => hk)))
      have I6 : Inv ({ Sa with fuse := armN 1 Sa.calls } : St) := HKa.out.inv.like rfl rfl rfl rfl rfl (Nat.le_refl _)
      have HSD := Lib.hid (syncDir_any hD6 (by show Sa.calls ≤ 100000; omega) I6.closed (by have := I6.len; omega) (by have := I6.fl; show Sa.fs.length ≤ 100000; have e : ({ Sa with fuse := armN 1 Sa.calls } : St).fs = Sa.fs := rfl; rw [e] at this; have e2 : ({ Sa with fuse := armN 1 Sa.calls } : St).calls = Sa.calls := rfl; rw [e2] at this; omega) (I6.ul' (by show Sa.calls ≤ 1000; omega)))
      have hfu := (fused HKa.out.dead).2
      obtain ⟨Sb, hSb⟩ : ∃ Sb : St, Sb = { Sa with fuse := armN 1 Sa.calls, calls := Sa.calls + 1, dead := true } := ⟨_, rfl⟩
      rw [← hSb] at hfu
      rw [hfu] at HSD
      unfold ptrTo at HSD
      have Ib : Inv Sb := by rw [hSb]; exact HKa.out.inv.like rfl rfl rfl rfl rfl (Nat.le_succ _)
      have Kb : KeptAt kNm xs Sb := by rw [hSb]; exact HKa.out.kept.like rfl rfl rfl
      have db : Sb.dead = true := by rw [hSb]
      have cb : Sb.calls ≤ 1000 := by rw [hSb]; show Sa.calls + 1 ≤ 1000; omega
      have HIb := Lib.hid Ib
      have HKb := Lib.hid Kb
      clear HFU hfu hD6 K6 I6 Ib Kb
      go_wp2_with fail
      refine HSD.out.mono ?_
      rintro e w7 ⟨rfl, ⟨L7, hD7⟩, K7⟩
      have B7 := Lib.hid (B6.out.trans (K7.below (fun k hk => hk)))
      have HBO := Lib.hid (boot_I hD7 HIb.out cb turns K p q nums (shX_of (HK.out.below B7.out) (fun k hk => hk)) (by omega))
      obtain ⟨Sc, hSc⟩ : ∃ Sc, Sc = (Sb.boot turns nums).1 := ⟨_, rfl⟩
      have hb2 : (Sb.boot turns nums).2 = 0 := by unfold St.boot; rw [if_pos db]
      have Ic : Inv Sc := by rw [hSc]; exact HIb.out.boot turns nums
      obtain ⟨r, hr⟩ := HKb.out.read_boot db turns nums
      rw [hb2, ← hSc] at HBO
      rw [← hSc] at hr
      have cc : Sc.calls ≤ 1000 := by
        rw [hSc]
        unfold St.boot
        rw [if_pos db]
        exact cb
      unfold ptrTo at HBO
      have HR := Lib.hid hr
      have HIc := Lib.hid Ic
      clear HSD hD7 K7 hr Ic hb2 hSc hSb
      go_wp2_with fail
      refine HBO.out.mono ?_
      rintro e w8 ⟨rfl, ⟨L8, hD8⟩, K8⟩
      have B8 := Lib.hid (B7.out.trans (K8.below (fun k hk => hk)))
      have HRD := Lib.hid (read_any hD8 kStr (by show 4 ≤ maxLen; decide) HIc.out.closed (HIc.out.dl' cc))
      rw [show kStr.data.toList = kNm from rfl, HR.out] at HRD
      unfold ptrTo at HRD
      have hlen : (xs ++ r).length = n + r.length := by rw [List.length_append, HXL.out]
      have HRE : Hid (Calls Try.prog 15 #[.pointer (some ⟨g, 0, none⟩), .string ⟨#[107, 101, 112, 116]⟩] w8 fun e w' => ∃ A9 c9, e = .returned (.tuple #[.slice A9 (n + r.length) c9, .int .i64 0]) ∧ Own w' w8.heap.size 5 1 (.slice A9 (n + r.length) c9) (n + r.length) (by8 (xs ++ r)) ∧ Below w8.heap.size w8 w') := Lib.hid (HRD.out.mono (by
        rintro e w' ⟨v, rfl, ho, hb⟩
        obtain ⟨A9, c9, rfl⟩ := ho.form
        have ho' : Own w' w8.heap.size 5 1 (.slice A9 ((xs ++ r).length) c9) ((xs ++ r).length) (by8 (xs ++ r)) := ho
        rw [hlen] at ho'
        refine ⟨A9, c9, ?_, ho', hb⟩
        show Ending.returned (.tuple #[.slice A9 ((xs ++ r).length) c9, .int .i64 0]) = _
        rw [hlen]))
      have HLN := Lib.hid hlen
      clear HBO hD8 K8 HRD hlen
      go_wp2_with fail
      refine HRE.out.mono ?_
      rintro e w9 ⟨A9, c9, rfl, ho9, hb9⟩
      have hcap := ho9.cap
      have B9 := Lib.hid (B8.out.trans (hb9.mono B8.out.size))
      have hsh : Sh w9 w9.heap.size A9 n (by8 xs) := by
        have h0 := ho9.sh.head (k := n) (by omega)
        rwa [by8_take, List.take_append_of_le_length (by rw [HXL.out]; exact Nat.le_refl _), List.take_of_length_le (by rw [HXL.out]; exact Nat.le_refl _)] at h0
      have HSH := Lib.hid hsh
      have HX9 := Lib.hid (HX.out.below B9.out)
      have hge : (n : Int) ≤ ((n + r.length : Nat) : Int) := by omega
      clear HRE ho9 hb9 hsh
      go_wp2_with (first
        | (go_at_call 17; refine (same_yes A9 A n n _ c xs xs w9 _ _ HSH.out HX9.out (by unfold maxLen; omega) rfl).mono ?_; rintro e w10 ⟨rfl, q10, rfl⟩)
        | (go_at_call 10; refine (awake_any _).mono ?_; rintro e w11 ⟨rfl, hb11⟩)
        | fail)
      go_ret
      exact ⟨rfl, B9.out.trans ((Quiet.below ⟨q10, rfl⟩ _).trans (hb11.mono B9.out.size))⟩

theorem diskSure_walk (a0 : Option Addr) (len0 cap0 : Nat) (z0 : List Int) (B : Option Addr) (m d : Nat) (l : List Ac) (turns : Int) (a3 : Option Addr) (len3 cap3 : Nat) (z3 : List Int) (w : World) (w0 : IsRow .u8 w a0 len0 cap0 z0) (hm : m ≤ maxLen) (hl : ActsIn w w.heap.size B m l) (w3 : IsRow .i64 w a3 len3 cap3 z3) :
    Calls Try.prog 4 #[.slice a0 len0 cap0, .slice B m d, .int .i64 turns, .slice a3 len3 cap3] w fun e w' => e = .returned (.bool true) ∧ Below w.heap.size w w' := by
  obtain ⟨l0, m0, _, s0, b0⟩ := w0.sh
  obtain ⟨l3, m3, _, s3, b3⟩ := w3.sh
  by_cases h : 500 < len0 ∨ greatB l = true ∨ 60 < len3
  · exact diskSure_long _ _ _ _ _ _ _ _ _ _ _ _ (by omega) hm (by omega) hl h
  · have h1 : ¬ 500 < len0 := fun e => h (.inl e)
    have h3 : ¬ 60 < len3 := fun e => h (.inr (.inr e))
    have h2 : greatB l = false := by
      cases e : greatB l with
      | false => rfl
      | true => exact absurd (.inr (.inl e)) h
    exact diskSure_short _ _ _ _ _ _ _ _ _ _ _ _ _ _ h1 h2 h3 s0 hl s3
end Go.Proofs.Ytfhbolhmfhgeaaa
