/-
  CONTRACT OF 'span.Apply'.
-/
import Derived.Test.YtopeechbgblndaaDoorSpB
namespace Go.Proofs.YtopeechbgblndaaDoor
set_option linter.unusedVariables false
set_option linter.unusedSimpArgs false
open Go.RowKit

theorem zeroBuf (w : World) : (zeroValue 45).run Tryd.prog w = .ok (.agg #[.slice none 0 0, .int .i64 0, .int .i8 0]) w := by kernel_rfl
theorem sh_seg {w : World} {B n : Nat} {A : Option Addr} {bs : List Int} (h : Sh w B A n (by8 bs)) {p q : Nat} (hpq : p ≤ q) (hq : q ≤ n) {T : Option Addr} (hT : ∀ b off, A = some ⟨b, off, none⟩ → p < q → T = some ⟨b, off + p, none⟩) : Sh w B T (q - p) (by8 (seg bs p q)) := by
  have := h.piece hpq hq hT
  rw [by8_take, by8_drop] at this
  unfold seg
  simpa using this
/-- What a call answers that makes a row of bytes and an error. -/
def ApTo (n : Int) (bs : List Int) (L : List Ed) (w : World) (e : Ending) (w' : World) : Prop :=
  if chk n L = 0 then ∃ v, e = .returned (.tuple #[v, .int .i64 0]) ∧ Own w' w.heap.size 5 1 v (appl bs 0 L).length (by8 (appl bs 0 L)) ∧ Below w.heap.size w w'
  else e = .returned (.tuple #[.slice none 0 0, .int .i64 (chk n L)]) ∧ Below w.heap.size w w'
theorem ApTo.bad {n : Int} {bs : List Int} {L : List Ed} {w w' : World} {e : Ending} (h : chk n L ≠ 0) (he : e = .returned (.tuple #[.slice none 0 0, .int .i64 (chk n L)])) (hb : Below w.heap.size w w') : ApTo n bs L w e w' := by
  unfold ApTo; rw [if_neg h]; exact ⟨he, hb⟩
theorem ApTo.good {n : Int} {bs : List Int} {L : List Ed} {w w' : World} {e : Ending} (h : chk n L = 0) (hh : ∃ v, e = .returned (.tuple #[v, .int .i64 0]) ∧ Own w' w.heap.size 5 1 v (appl bs 0 L).length (by8 (appl bs 0 L)) ∧ Below w.heap.size w w') : ApTo n bs L w e w' := by
  unfold ApTo; rw [if_pos h]; exact hh

theorem ret_tup {v : Value} {a b : Int} (h : a = b) : Ending.returned (.tuple #[v, .int .i64 a]) = .returned (.tuple #[v, .int .i64 b]) := by rw [h]
theorem appl_drop {bs : List Int} {L : List Ed} {k : Nat} {x : Ed} (h : L[k]? = some x) (p : Int) : appl bs p (L.drop k) = seg bs p x.1 ++ x.2.2 ++ appl bs x.2.1 (L.drop (k + 1)) := by
  obtain ⟨hk, rfl⟩ := List.getElem?_eq_some_iff.1 h
  rw [List.drop_eq_getElem_cons hk]
  rfl
theorem WOk_drop {n p : Int} {L : List Ed} {k : Nat} {x : Ed} (h : L[k]? = some x) (hw : WOk n p (L.drop k)) : p ≤ x.1 ∧ x.1 ≤ x.2.1 ∧ x.2.1 ≤ n ∧ WOk n x.2.1 (L.drop (k + 1)) := by
  obtain ⟨hk, rfl⟩ := List.getElem?_eq_some_iff.1 h
  rw [List.drop_eq_getElem_cons hk] at hw
  exact hw

set_option maxRecDepth 10000 in
set_option maxHeartbeats 3200000 in
theorem apply_any (A P : Option Addr) (n c m d : Nat) (bs : List Int) (L : List Ed) (w : World) (hb : Sh w w.heap.size A n (by8 bs)) (hx : ShE w w.heap.size P m L) (hn : n ≤ 100000) (hnc : n ≤ c) (hcm : c ≤ maxLen) (hcA : c = 0 ∨ ∃ b off, A = some ⟨b, off, none⟩)
    (hm : m ≤ 600) (hs : ∀ x ∈ L, x.2.2.length ≤ 1000) (hby : BytE L) :
    Calls Tryd.prog 11 #[.slice A n c, .slice P m d] w (ApTo n bs L w) := by
  have hlb : bs.length = n := by have := hb.len; rwa [by8_len] at this
  have hl : L.length = m := hx.1
  unfold maxLen at hcm
  have HLB := Lib.hid hlb
  have HL := Lib.hid hl
  have HBY := Lib.hid hby
  have HS := Lib.hid hs
  have HX := Lib.hid (fun w' (b : Below w.heap.size w w') => hx.up b (Nat.le_refl _))
  have HBB := Lib.hid (fun w' (b : Below w.heap.size w w') => hb.below b)
  have HCK := Lib.hid (check_any P n m d L w hx (by omega) (by omega))
  have hz := zeroEd
  have hzb := zeroBuf
  obtain ⟨ck, hck⟩ : ∃ ck, chk n L = ck := ⟨_, rfl⟩
  rw [hck] at HCK
  have HK := Lib.hid hck
  clear hlb hl hby hs hx hb hck
  by_cases h0 : ck = 0
  · subst h0
    have HW := Lib.hid (WOk_zero (chk_zero HK.out).2)
    go_enter Tryd.func11, Tryd.ntmps11
    go_wp2_with (go_at_call 13; refine HCK.out.mono ?_; rintro e w1 ⟨rfl, b1⟩; have B1 := Lib.hid b1; have hs1 := b1.size; clear b1)
    have hbuf := Lib.fresh_isBuffer 45 5 w1
    have hfr : Hid (Below w.heap.size w (w1.alloc (.cells #[.slice none 0 0, .int .i64 0, .int .i8 0] 45))) := Lib.hid (B1.out.alloc hs1 _)
    obtain ⟨g, hg⟩ : ∃ g, w1.heap.size = g := ⟨_, rfl⟩
    rw [hg] at hbuf hs1 ⊢
    have hgs : (w1.alloc (.cells #[.slice none 0 0, .int .i64 0, .int .i8 0] 45)).heap.size = g + 1 := by simp [hg]
    obtain ⟨wb, hwb⟩ : ∃ wb, w1.alloc (.cells #[.slice none 0 0, .int .i64 0, .int .i8 0] 45) = wb := ⟨_, rfl⟩
    rw [hwb] at hbuf hfr hgs ⊢
    have HBUF := Lib.hid hbuf
    clear hwb hg hbuf B1
    have hgs2 : g < wb.heap.size := by omega
    clear hgs
    go_loopw [8, 20] (fun a i wr => ∃ (k p : Nat) (acc : List Int), i = .int .i64 (k : Int) ∧ a = .int .i64 (p : Int) ∧ k ≤ m ∧ p ≤ n ∧ Buf g acc wr ∧ acc ++ appl bs p (L.drop k) = appl bs 0 L ∧ WOk n p (L.drop k) ∧ acc.length ≤ k * 101000 ∧ Below w.heap.size w wr ∧ g < wr.heap.size) (fun _ i _ => m - (intOf i).toNat)
    case atStart => exact ⟨0, 0, [], rfl, rfl, Nat.zero_le _, Nat.zero_le _, HBUF.out, rfl, HW.out, Nat.zero_le _, hfr.out, hgs2⟩
    case round =>
      obtain ⟨k, p, acc, rfl, rfl, hk, hp, hbf, hac, hwo, hal, hbl, hgr⟩ := hrel
      have HB := Lib.hid hbl
      have HBF := Lib.hid hbf
      have HAC := Lib.hid hac
      have HWO := Lib.hid hwo
      have HAL := Lib.hid hal
      clear hac hwo hbf hbl hal
      by_cases hlt : k < m
      · obtain ⟨b, off, x, rfl, hbb, hx, c0, c1, c2⟩ := (HX.out wr HB.out).at hlt
        have HXX := Lib.hid hx
        obtain ⟨f, t, s⟩ := x
        dsimp only at c0 c1 c2
        obtain ⟨q1, q2, q3, q4⟩ := WOk_drop hx HWO.out
        dsimp only at q1 q2 q3 q4
        have HQ4 := Lib.hid q4
        have hsl := HS.out _ (List.mem_of_getElem? hx)
        dsimp only at hsl
        have hsb := HBY.out.get hx
        dsimp only at hsb
        have HSB := Lib.hid hsb
        have HAD := Lib.hid (appl_drop (bs := bs) hx (p : Int))
        obtain ⟨F, rfl⟩ : ∃ F : Nat, f = F := ⟨f.toNat, by omega⟩
        obtain ⟨T, rfl⟩ : ∃ T : Nat, t = T := ⟨t.toNat, by omega⟩
        have hpF : p ≤ F := by omega
        have hFT : F ≤ T := by omega
        have hTn : T ≤ n := by omega
        clear hx q1 q2 q3 q4 hsb
        have HSEG : Hid (∀ w' (b : Below w.heap.size w w') S, (∀ b off, A = some ⟨b, off, none⟩ → p < F → S = some ⟨b, off + p, none⟩) → Sh w' w.heap.size S (F - p) (by8 (seg bs p F))) := Lib.hid fun w' b S hS => sh_seg (HBB.out w' b) hpF (by omega) hS
        have hk2 : k * 101000 ≤ 600 * 101000 := Nat.mul_le_mul_right _ (by omega)
        have HLS : Hid (acc.length + (F - p) ≤ 100000000) := Lib.hid (by have := HAL.out; omega)
        have HZ : Hid ((wr.alloc (.cells #[.int .i64 (F : Int), .int .i64 (T : Int), .string (strOfNums s)] 38)).heap.size = wr.heap.size + 1) := Lib.hid (by simp)
        have HWR : Hid (∀ W, W = wr.alloc (.cells #[.int .i64 (F : Int), .int .i64 (T : Int), .string (strOfNums s)] 38) → ∀ S e, (∀ b off, A = some ⟨b, off, none⟩ → p < F → S = some ⟨b, off + p, none⟩) → Calls Tryd.prog 20 #[.pointer (some ⟨g, 0, none⟩), .slice S (F - p) e] W fun e w' =>
            e = .returned (.tuple #[.int .i64 (F - p : Nat), .nilIface]) ∧ w'.cell? ⟨wr.heap.size, 0, none⟩ = some (.int .i64 (F : Int)) ∧ w'.cell? ⟨wr.heap.size, 1, none⟩ = some (.int .i64 (T : Int)) ∧ w'.cell? ⟨wr.heap.size, 2, none⟩ = some (.string (strOfNums s)) ∧
            Hid (Buf g (acc ++ seg bs p F) w' ∧ Below w.heap.size w w' ∧ g < w'.heap.size ∧ w'.heap[wr.heap.size]? = some (.cells #[.int .i64 (F : Int), .int .i64 (T : Int), .string (strOfNums s)] 38 (0, 0)))) := Lib.hid fun W hW S e hS => by
          have hB0 : Below w.heap.size w W := by rw [hW]; exact HB.out.alloc HB.out.size _
          have hnew : W.heap[wr.heap.size]? = some (.cells #[.int .i64 (F : Int), .int .i64 (T : Int), .string (strOfNums s)] 38 (0, 0)) := by rw [hW]; exact heap_alloc_new wr _
          have hsz : W.heap.size = wr.heap.size + 1 := by rw [hW]; exact HZ.out
          refine (bufWrite_any g acc (seg bs p F) S (F - p) e w.heap.size W (by rw [hW]; exact HBF.out.alloc _) (by omega) (HSEG.out W hB0 S hS) hs1 HLS.out).mono ?_
          rintro e' w' ⟨he, hb', hw⟩
          have hh := hw.heap hnew (by decide) (by omega)
          have hc : ∀ j, w'.cell? ⟨wr.heap.size, j, none⟩ = #[.int .i64 (F : Int), .int .i64 (T : Int), .string (strOfNums s)][j]? := fun j => Lib.cell_of_heap hh j
          exact ⟨he, hc 0, hc 1, hc 2, Lib.hid ⟨hb', hB0.trans (hw.1.mono hs1), by have := hw.1.size; omega, hh⟩⟩
        have HST : Hid (∀ w', Buf g (acc ++ seg bs p F) w' → Below w.heap.size w w' → g < w'.heap.size → w'.heap[wr.heap.size]? = some (.cells #[.int .i64 (F : Int), .int .i64 (T : Int), .string (strOfNums s)] 38 (0, 0)) →
            Calls Tryd.prog 21 #[.pointer (some ⟨g, 0, none⟩), .string (strOfNums s)] w' fun e w'' => (∃ k, e = .returned (.tuple #[.int .i64 k, .nilIface])) ∧ w''.cell? ⟨wr.heap.size, 0, none⟩ = some (.int .i64 (F : Int)) ∧ w''.cell? ⟨wr.heap.size, 1, none⟩ = some (.int .i64 (T : Int)) ∧ w''.cell? ⟨wr.heap.size, 2, none⟩ = some (.string (strOfNums s)) ∧
            Hid (Buf g (acc ++ seg bs p F ++ s) w'' ∧ Below w.heap.size w w'' ∧ g < w''.heap.size)) := Lib.hid fun w' hb' hB' hg' hh => by
          have hlen : (acc ++ seg bs p F).length + s.length ≤ 100000000 := by
            have := seg_len (bs := bs) (p := p) (q := F) (by omega) (by omega) (by rw [HLB.out]; omega)
            have h2 := HAL.out
            rw [List.length_append]
            omega
          refine (bufString_any g _ s w' hb' (by omega) HSB.out hlen).mono ?_
          rintro e' w'' ⟨he, hb'', hw⟩
          have hh' := hw.heap hh (by decide) (by omega)
          have hc : ∀ j, w''.cell? ⟨wr.heap.size, j, none⟩ = #[.int .i64 (F : Int), .int .i64 (T : Int), .string (strOfNums s)][j]? := fun j => Lib.cell_of_heap hh' j
          exact ⟨he, hc 0, hc 1, hc 2, Lib.hid ⟨hb'', hB'.trans (hw.1.mono hs1), by have := hw.1.size; omega⟩⟩
        have HEND : Hid (acc ++ seg bs p F ++ s ++ appl bs (T : Int) (L.drop (k + 1)) = appl bs 0 L ∧ (acc ++ seg bs p F ++ s).length ≤ (k + 1) * 101000) := Lib.hid (by
          refine ⟨?_, ?_⟩
          · rw [← HAC.out, HAD.out]
            simp [List.append_assoc]
          · have := seg_len (bs := bs) (p := p) (q := F) (by omega) (by omega) (by rw [HLB.out]; omega)
            have h2 := HAL.out
            rw [List.length_append, List.length_append]
            omega)
        by_cases hcp : c = p
        · have en : p = n := by omega
          have eF : p = F := by omega
          have eT : p = T := by omega
          have ec : p = c := hcp.symm
          clear hcp
          subst en
          subst eF
          subst eT
          subst ec
          have hE : p - p = 0 := Nat.sub_self _
          rw [hE] at HWR
          clear hcA
          go_wp2_with (first
            | (go_at_call 20; refine (HWR.out _ rfl _ _ (fun _ _ _ h => absurd h (Nat.lt_irrefl _))).mono ?_; rintro e w2 ⟨rfl, d0, d1, d2, H2⟩)
            | (go_at_call 21; refine (HST.out _ H2.out.1 H2.out.2.1 H2.out.2.2.1 H2.out.2.2.2).mono ?_; rintro e w3 ⟨⟨_, rfl⟩, e0, e1, e2, H3⟩)
            | fail)
          go_roundw
          case rel => exact ⟨k + 1, p, _, by go_num, rfl, by omega, by omega, H3.out.1, HEND.out.1, HQ4.out, HEND.out.2, H3.out.2.1, H3.out.2.2⟩
          case measure => simp [intOf]; omega
        · obtain ⟨b1, o1, rfl⟩ : ∃ b off, A = some ⟨b, off, none⟩ := by
            rcases hcA with h | h
            · omega
            · exact h
          clear hcA
          go_wp2_with (first
            | (go_at_call 20; refine (HWR.out _ rfl _ _ (fun _ _ h _ => by cases h; rfl)).mono ?_; rintro e w2 ⟨rfl, d0, d1, d2, H2⟩)
            | (go_at_call 21; refine (HST.out _ H2.out.1 H2.out.2.1 H2.out.2.2.1 H2.out.2.2.2).mono ?_; rintro e w3 ⟨⟨_, rfl⟩, e0, e1, e2, H3⟩)
            | fail)
          go_roundw
          case rel => exact ⟨k + 1, T, _, by go_num, rfl, by omega, by omega, H3.out.1, HEND.out.1, HQ4.out, HEND.out.2, H3.out.2.1, H3.out.2.2⟩
          case measure => simp [intOf]; omega
      · obtain rfl : k = m := by omega
        have hkl : L.drop k = [] := by rw [List.drop_eq_nil_iff, HL.out]; exact Nat.le_refl _
        have HE : Hid (acc ++ seg bs p n = appl bs 0 L) := Lib.hid (by
          have h1 := HAC.out
          rw [hkl] at h1
          have h2 : acc ++ seg bs p bs.length = appl bs 0 L := h1
          rwa [HLB.out] at h2)
        have HLS : Hid (acc.length + (n - p) ≤ 100000000) := Lib.hid (by
          have := HAL.out
          have hk2 : k * 101000 ≤ 600 * 101000 := Nat.mul_le_mul_right _ (by omega)
          omega)
        have HWR : Hid (∀ S e, (∀ b off, A = some ⟨b, off, none⟩ → p < n → S = some ⟨b, off + p, none⟩) → Calls Tryd.prog 20 #[.pointer (some ⟨g, 0, none⟩), .slice S (n - p) e] wr fun e w' =>
            e = .returned (.tuple #[.int .i64 (n - p : Nat), .nilIface]) ∧ Hid (Buf g (appl bs 0 L) w' ∧ Below w.heap.size w w' ∧ g < w'.heap.size)) := Lib.hid fun S e hS => by
          refine (bufWrite_any g acc (seg bs p n) S (n - p) e w.heap.size wr HBF.out (by omega) (sh_seg (HBB.out wr HB.out) hp (Nat.le_refl _) hS) hs1 HLS.out).mono ?_
          rintro e' w' ⟨he, hb', hw⟩
          rw [HE.out] at hb'
          exact ⟨he, Lib.hid ⟨hb', HB.out.trans (hw.1.mono hs1), by have := hw.1.size; omega⟩⟩
        clear hkl
        by_cases hcp : c = p
        · have en : p = n := by omega
          have ec : p = c := hcp.symm
          clear hcp
          subst en
          subst ec
          have hE : p - p = 0 := Nat.sub_self _
          rw [hE] at HWR
          clear hcA
          go_wp2_with (first
            | (go_at_call 20; refine (HWR.out _ _ (fun _ _ _ h => absurd h (Nat.lt_irrefl _))).mono ?_; rintro e w2 ⟨rfl, H2⟩)
            | (go_at_call 22; refine (bufBytes_any g _ _ H2.out.1 (Nat.le_of_lt H2.out.2.2)).mono ?_; rintro e w3 ⟨v, rfl, ho, ⟨q, rfl⟩⟩)
            | fail)
          go_ret2
          exact ApTo.good HK.out ⟨v, rfl, ho.lower hs1, H2.out.2.1.trans ((Quiet.one _ q).below _)⟩
        · obtain ⟨b1, o1, rfl⟩ : ∃ b off, A = some ⟨b, off, none⟩ := by
            rcases hcA with h | h
            · omega
            · exact h
          clear hcA
          go_wp2_with (first
            | (go_at_call 20; refine (HWR.out _ _ (fun _ _ h _ => by cases h; rfl)).mono ?_; rintro e w2 ⟨rfl, H2⟩)
            | (go_at_call 22; refine (bufBytes_any g _ _ H2.out.1 (Nat.le_of_lt H2.out.2.2)).mono ?_; rintro e w3 ⟨v, rfl, ho, ⟨q, rfl⟩⟩)
            | fail)
          go_ret2
          exact ApTo.good HK.out ⟨v, rfl, ho.lower hs1, H2.out.2.1.trans ((Quiet.one _ q).below _)⟩
  · have h0' : (ck != 0) = true := by simpa using h0
    have HN := Lib.hid h0
    clear h0
    go_enter Tryd.func11, Tryd.ntmps11
    go_wp2_with (go_at_call 13; refine HCK.out.mono ?_; rintro e w1 ⟨rfl, b1⟩; have B1 := Lib.hid b1; clear b1)
    go_ret2
    exact ApTo.bad (by rw [HK.out]; exact HN.out) (ret_tup HK.out.symm) B1.out
end Go.Proofs.YtopeechbgblndaaDoor
