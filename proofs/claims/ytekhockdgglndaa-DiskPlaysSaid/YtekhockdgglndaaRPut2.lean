/-
  CONTRACT OF the document's 'put'.
-/
import Derived.Test.YtekhockdgglndaaRPut
import Derived.Laws.Cover1
namespace Go.Proofs.Ytekhockdgglndaa
set_option linter.unusedVariables false
set_option linter.unusedSimpArgs false
open Go.RowKit

/-- Is the one ahead of the other? -/
def lesss (s t : ByteArray) : Bool := Op.bytesLess s.toList t.toList
/-- One more of the names that there are: what was put out, and whether the new one was. -/
def pstep (x : RE) (st : List RE × Bool) (p : RE) : List RE × Bool :=
  if eqs p.1 x.1 = true then st else if st.2 = false ∧ lesss p.1 x.1 = false then (st.1 ++ [x, p], true) else (st.1 ++ [p], st.2)
def pfold (N : List RE) (x : RE) : List RE × Bool := N.foldl (pstep x) ([], false)
/-- Names with one. -/
def rput (N : List RE) (x : RE) : List RE := if (pfold N x).2 = true then (pfold N x).1 else (pfold N x).1 ++ [x]
theorem pfold_next {N : List RE} {k : Nat} {p x : RE} (h : N[k]? = some p) : pfold (N.take (k + 1)) x = pstep x (pfold (N.take k) x) p := by
  rw [take_more h]; simp [pfold, List.foldl_append]
theorem pstep_len (x : RE) (st : List RE × Bool) (p : RE) : (pstep x st p).1.length ≤ st.1.length + 2 := by
  unfold pstep
  split
  · omega
  · split <;> simp
theorem pfold_len (N : List RE) (x : RE) (k : Nat) : (pfold (N.take k) x).1.length ≤ 2 * k := by
  induction k with
  | zero => simp [pfold]
  | succ k ih =>
    rcases Nat.lt_or_ge k N.length with hlt | hge
    · rw [pfold_next (List.getElem?_eq_getElem hlt)]
      have := pstep_len x (pfold (N.take k) x) N[k]
      omega
    · rw [List.take_of_length_le (by omega), ← List.take_of_length_le hge]
      omega

set_option maxRecDepth 10000 in
set_option maxHeartbeats 1600000 in
theorem put_any (X : Nat → Prop) (A : Option Addr) (n c : Nat) (N : List RE) (x : RE) (w : World) (hX : ∀ b, X b → b < w.heap.size) (hl : N.length = n) (hn : n ≤ 1000) (h : SX w X A n 2 (recells N)) :
    Calls Try.prog 26 #[.slice A n c, .agg #[.string x.1, .int .i64 (x.2 : Int)]] w fun e w' => ∃ v, e = .returned v ∧ Own w' w.heap.size 77 2 v (rput N x).length (recells (rput N x)) ∧ Below w.heap.size w w' := by
  obtain ⟨W0, hW0⟩ : ∃ W0, W0 = w.alloc (.cells #[.string x.1, .int .i64 (x.2 : Int)] 77) := ⟨_, rfl⟩
  have HW0 := Lib.hid hW0
  have hsz : W0.heap.size = w.heap.size + 1 := by rw [hW0]; simp
  have hb0 : Below w.heap.size w W0 := by rw [hW0]; exact (Below.refl _ _).alloc (Nat.le_refl _) _
  have HB0 := Lib.hid hb0
  have HL := Lib.hid hl
  have HN := Lib.hid (fun w' (hb : Below W0.heap.size W0 w') (j : Nat) (q : RE) (hq : N[j]? = some q) => NX.at (h.stay fun b hx => (hb.block b (by have := hX b hx; omega)).trans (hb0.block b (hX b hx))) hl hq)
  have HC : Hid (∀ w', Below W0.heap.size W0 w' → w'.cell? ⟨w.heap.size, 0, none⟩ = some (.string x.1) ∧ w'.cell? ⟨w.heap.size, 1, none⟩ = some (.int .i64 (x.2 : Int))) := Lib.hid fun w' b => by
    have e1 : ∀ j, w'.cell? ⟨w.heap.size, j, none⟩ = W0.cell? ⟨w.heap.size, j, none⟩ := fun j => b.cell (p := ⟨w.heap.size, j, none⟩) (by simp only; omega)
    refine ⟨?_, ?_⟩
    · rw [e1, hW0, World.cell?_alloc_at _ _ _ _ rfl]; rfl
    · rw [e1, hW0, World.cell?_alloc_at _ _ _ _ rfl]; rfl
  clear hl h hW0 hb0
  go_enter Try.func26, Try.ntmps26
  go_wp2
  rw [← HW0.out]
  go_loopw [5, 6, 7] (fun v d i wr => ∃ k : Nat, k ≤ n ∧ i = .int .i64 k ∧ d = .bool (pfold (N.take k) x).2 ∧ Own wr W0.heap.size 77 2 v (pfold (N.take k) x).1.length (recells (pfold (N.take k) x).1) ∧ Below W0.heap.size W0 wr) (fun _ _ i _ => n - (intOf i).toNat)
  case atStart => exact ⟨0, Nat.zero_le _, rfl, rfl, Own.nil _ _ _ _ (Nat.le_refl _), Below.refl _ _⟩
  case round =>
    obtain ⟨k, hk, rfl, rfl, ho, hb⟩ := hrel
    obtain ⟨b0, b1⟩ := HC.out wr hb
    by_cases hlt : k < n
    · obtain ⟨q, hq⟩ : ∃ q, N[k]? = some q := ⟨_, List.getElem?_eq_getElem (by rw [HL.out]; exact hlt)⟩
      obtain ⟨b, off, rfl, _, c0, c1⟩ := HN.out wr hb k q hq
      have HF := Lib.hid (pfold_next (x := x) hq)
      have hlen := pfold_len N x k
      obtain ⟨st, hst⟩ : ∃ st, st = pfold (N.take k) x := ⟨_, rfl⟩
      rw [← hst] at ho hlen HF ⊢
      obtain ⟨out, done⟩ := st
      simp only at ho hlen HF ⊢
      have HO := Lib.hid ho
      have HC2 : Hid (∀ w', Below W0.heap.size W0 w' → w'.cell? ⟨b, off + k * 2, none⟩ = some (.string q.1) ∧ w'.cell? ⟨b, off + k * 2 + 1, none⟩ = some (.int .i64 (q.2 : Int))) := Lib.hid fun w' hb' => by
        obtain ⟨b', off', e, _, d0, d1⟩ := HN.out w' hb' k q hq
        cases e
        exact ⟨d0, d1⟩
      clear hst hq
      by_cases he : eqs q.1 x.1 = true
      · have he' : (q.1.toList == x.1.toList) = true := he
        have HE := Lib.hid he
        clear he
        go_wp2
        go_quiet (fail)
        go_wp2
        go_roundw
        case rel => exact ⟨k + 1, by omega, by go_num, by rw [HF.out]; simp [pstep, HE.out], by rw [HF.out]; simp only [pstep, HE.out, if_true]; exact HO.out.quiet (Quiet.one _ _), hb.trans ((Quiet.one _ _).below _)⟩
        case measure => simp [intOf]; omega
      · have he' : (q.1.toList == x.1.toList) = false := by simpa [eqs] using he
        have HE : Hid (eqs q.1 x.1 = false) := Lib.hid (by simpa using he)
        clear he
        cases done
        · by_cases hls : lesss q.1 x.1 = true
          · have hls' : Op.bytesLess q.1.toList x.1.toList = true := hls
            have HX2 := Lib.hid hls
            clear hls
            go_wp2
            go_quiet (fail)
            go_wp2_with fail
            go_quiet (fail)
            go_wp2_with (at_builtin; refine wpList_push_g rfl (.tmp 38) (.tmp 43) 68 rfl rowE _ W0.heap.size _ out.length (recells out) [.string q.1, .int .i64 (q.2 : Int)] rfl (HO.out.quiet (Quiet.one _ _)) rfl rfl rfl (by intro z hz; simp at hz; rcases hz with rfl | rfl <;> rfl) (by omega) (by omega) ?_; intro v2 w2 ho2 hg2)
            have hge := HO.out.block_ge
            go_roundw
            case rel =>
              refine ⟨k + 1, by omega, by go_num, by rw [HF.out]; simp [pstep, HE.out, HX2.out], ?_, ?_⟩
              · rw [HF.out]
                refine ho2.cast (by simp [pstep, HE.out, HX2.out]) ?_
                simp only [pstep, HE.out, HX2.out]
                simp [recells, RE.cells]
              · exact (((hb.trans ((Quiet.one _ _).below _)).alloc (by have := hb.size; simp; omega) _).grown hg2 (by have := hb.size; simp; omega) hge)
            case measure => simp [intOf]; omega
          · have hls' : Op.bytesLess q.1.toList x.1.toList = false := by simpa [lesss] using hls
            have HX2 : Hid (lesss q.1 x.1 = false) := Lib.hid (by simpa using hls)
            clear hls
            go_wp2
            go_quiet (fail)
            go_wp2_with fail
            go_quiet (fail)
            go_wp2_with (first
              | (at_builtin; refine wpList_push_g rfl (.tmp 34) (.tmp 36) 68 rfl rowE _ W0.heap.size _ out.length (recells out) [.string x.1, .int .i64 (x.2 : Int)] rfl (HO.out.quiet (Quiet.one _ _)) rfl rfl rfl (by intro z hz; simp at hz; rcases hz with rfl | rfl <;> rfl) (by omega) (by omega) ?_; intro v2 w2 ho2 hg2; have hb2 := (((hb.trans ((Quiet.one _ _).below _)).alloc (by have := hb.size; simp; omega) _).grown hg2 (by have := hb.size; simp; omega) HO.out.block_ge); obtain ⟨d0, d1⟩ := HC2.out w2 hb2; have O2 := Lib.hid ho2; have B2 := Lib.hid hb2; clear ho2 hb2)
              | (at_builtin; refine wpList_push_g rfl (.tmp 38) (.tmp 43) 68 rfl rowE _ W0.heap.size _ (out.length + 1) _ [.string q.1, .int .i64 (q.2 : Int)] rfl O2.out rfl rfl rfl (by intro z hz; simp at hz; rcases hz with rfl | rfl <;> rfl) (by omega) (by omega) ?_; intro v3 w3 ho3 hg3))
            have hge := O2.out.block_ge
            go_roundw
            case rel =>
              refine ⟨k + 1, by omega, by go_num, by rw [HF.out]; simp [pstep, HE.out, HX2.out], ?_, ?_⟩
              · rw [HF.out]
                refine ho3.cast (by simp [pstep, HE.out, HX2.out]) ?_
                simp only [pstep, HE.out, HX2.out]
                simp [recells, RE.cells]
              · exact ((B2.out.alloc B2.out.size _).grown hg3 (by have := B2.out.size; simp; omega) hge)
            case measure => simp [intOf]; omega
        · have HX2 : Hid (True) := Lib.hid trivial
          go_wp2
          go_quiet (fail)
          go_wp2_with fail
          go_quiet (fail)
          go_wp2_with (at_builtin; refine wpList_push_g rfl (.tmp 38) (.tmp 43) 68 rfl rowE _ W0.heap.size _ out.length (recells out) [.string q.1, .int .i64 (q.2 : Int)] rfl (HO.out.quiet (Quiet.one _ _)) rfl rfl rfl (by intro z hz; simp at hz; rcases hz with rfl | rfl <;> rfl) (by omega) (by omega) ?_; intro v2 w2 ho2 hg2)
          have hge := HO.out.block_ge
          go_roundw
          case rel =>
            refine ⟨k + 1, by omega, by go_num, by rw [HF.out]; simp [pstep, HE.out, HX2.out], ?_, ?_⟩
            · rw [HF.out]
              refine ho2.cast (by simp [pstep, HE.out, HX2.out]) ?_
              simp only [pstep, HE.out, HX2.out]
              simp [recells, RE.cells]
            · exact (((hb.trans ((Quiet.one _ _).below _)).alloc (by have := hb.size; simp; omega) _).grown hg2 (by have := hb.size; simp; omega) hge)
          case measure => simp [intOf]; omega
    · obtain rfl : k = n := by omega
      have HT : Hid (N.take k = N) := Lib.hid (List.take_of_length_le (by rw [HL.out]; exact Nat.le_refl _))
      rw [HT.out] at ho ⊢
      have hlen := pfold_len N x k
      rw [HT.out] at hlen
      have hW : w.heap.size ≤ W0.heap.size := by omega
      obtain ⟨st, hst⟩ : ∃ st, pfold N x = st := ⟨_, rfl⟩
      rw [hst] at ho hlen ⊢
      have HST := Lib.hid hst
      obtain ⟨out, done⟩ := st
      simp only at ho hlen ⊢
      clear hst
      have HO := Lib.hid ho
      cases done
      · go_wp2_with (at_builtin; refine wpList_push_g rfl (.tmp 47) (.tmp 49) 68 rfl rowE _ W0.heap.size _ out.length (recells out) [.string x.1, .int .i64 (x.2 : Int)] rfl HO.out rfl rfl rfl (by intro z hz; simp at hz; rcases hz with rfl | rfl <;> rfl) (by omega) (by omega) ?_; intro v2 w2 ho2 hg2; have hb2 := ((hb.alloc hb.size _).grown hg2 (by have := hb.size; simp; omega) HO.out.block_ge))
        go_ret
        exact ⟨_, rfl, (ho2.cast (by simp [rput, HST.out]) (by simp [rput, HST.out, recells, RE.cells])).lower hW, HB0.out.trans (hb2.mono hW)⟩
      · go_wp2
        go_ret
        exact ⟨_, rfl, (HO.out.cast (by simp [rput, HST.out]) (by simp [rput, HST.out])).lower hW, HB0.out.trans (hb.mono hW)⟩
end Go.Proofs.Ytekhockdgglndaa
