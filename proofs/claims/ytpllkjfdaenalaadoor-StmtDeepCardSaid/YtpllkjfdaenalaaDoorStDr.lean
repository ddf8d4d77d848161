/-
  THE WORDS OF TWO TEXTS, one behind the other; what Parse says of both.
-/
import Derived.Test.YtpllkjfdaenalaaDoorStDq
namespace Go.Proofs.YtpllkjfdaenalaaDoor
set_option linter.unusedVariables false
set_option linter.unusedSimpArgs false
open Go.RowKit

theorem win_pre (T P : ByteArray) (L K : List Tk) (hL : ∀ t ∈ L, t.2.2.toNat ≤ T.size) : Win (rowT T L) (rowT (T ++ P) (L ++ K)) 0 0 L.length := by
  have hat : ∀ i, i < L.length → ∃ t, L[i]? = some t ∧ (L ++ K)[i]? = some t := fun i hi => ⟨_, List.getElem?_eq_getElem hi, by rw [List.getElem?_append_left hi, List.getElem?_eq_getElem hi]⟩
  have hwd : ∀ i, i < L.length → wdT (T ++ P) (L ++ K) i = wdT T L i := fun i hi => by
    obtain ⟨t, h1, h2⟩ := hat i hi
    have h3 := hL t (List.mem_of_getElem? h1)
    unfold wdT
    rw [h1, h2]
    show (T ++ P).extract t.2.1.toNat t.2.2.toNat = T.extract t.2.1.toNat t.2.2.toNat
    rw [ByteArray.extract_append, show t.2.2.toNat - T.size = 0 by omega]
    apply ByteArray.ext
    simp
  refine ⟨fun i hi => hwd i hi, fun i hi => ?_, fun i hi => ?_, fun i hi => ?_⟩
  · obtain ⟨t, h1, h2⟩ := hat i hi
    simp only [rowT, Nat.add_zero, h1, h2]
  · show idB (wdT _ _ (i + 0)) = idB (wdT _ _ i)
    rw [Nat.add_zero, hwd i hi]
  · obtain ⟨t, h1, h2⟩ := hat i hi
    simp only [rowT, Nat.add_zero, h1, h2, Int.add_zero]
theorem win_suf (P T : ByteArray) (K L : List Tk) {c : Nat} (hc : P.size = c) (hL : ∀ t ∈ L, 0 ≤ t.2.1 ∧ 0 ≤ t.2.2) : Win (rowT T L) (rowT (P ++ T) (K ++ L.map (shift (c : Int)))) K.length (c : Int) (L.length + 1) := by
  have hat : ∀ i, (K ++ L.map (shift (c : Int)))[i + K.length]? = (L[i]?).map (shift (c : Int)) := fun i => by
    rw [List.getElem?_append_right (by omega), Nat.add_sub_cancel, List.getElem?_map]
  have hwd : ∀ i, wdT (P ++ T) (K ++ L.map (shift (c : Int))) (i + K.length) = wdT T L i := fun i => by
    unfold wdT
    rw [hat]
    cases h : L[i]? with
    | none => rfl
    | some t =>
      obtain ⟨h1, h2⟩ := hL t (List.mem_of_getElem? h)
      show (P ++ T).extract (t.2.1 + (c : Int)).toNat (t.2.2 + (c : Int)).toNat = T.extract t.2.1.toNat t.2.2.toNat
      rw [show (t.2.1 + (c : Int)).toNat = c + t.2.1.toNat by omega, show (t.2.2 + (c : Int)).toNat = c + t.2.2.toNat by omega]
      exact ByteArray.extract_append_size_add' hc.symm
  refine ⟨fun i _ => hwd i, fun i _ => ?_, fun i _ => ?_, fun i _ => ?_⟩
  · show (match (K ++ L.map (shift (c : Int)))[i + K.length]? with | some t => t.1 | none => 0) = (match L[i]? with | some t => t.1 | none => 0)
    rw [hat]
    cases L[i]? <;> rfl
  · show idB (wdT _ _ _) = idB (wdT _ _ _)
    rw [hwd i]
  · show (match (K ++ L.map (shift (c : Int)))[i + K.length]? with | some t => t.2.1 | none => (((P ++ T).size : Nat) : Int)) = (match L[i]? with | some t => t.2.1 | none => (T.size : Int)) + (c : Int)
    rw [hat]
    cases L[i]? with
    | some t => rfl
    | none =>
      show (((P ++ T).size : Nat) : Int) = (T.size : Int) + (c : Int)
      rw [ByteArray.size_append, hc]
      omega
/-- No statement begins with else. -/
theorem else_bad {T : ByteArray} {bs : List Int} (hb : bts T = bs) {f p : Nat} (h : (rowT T (live bs 0)).is p lElse = true) : rd (rowT T (live bs 0)) (f + 9) (.lev 1) p 0 = bad p 11 := by
  obtain ⟨R, hR⟩ : ∃ R, rowT T (live bs 0) = R := ⟨_, rfl⟩
  have hdg := live_dig (T := T) (bs := bs) hb p
  have hidn : (rowT T (live bs 0)).idn p = idB ((rowT T (live bs 0)).wd p) := rfl
  rw [hR] at h hdg hidn ⊢
  have hl : (R.wd p).toList = lElse := by
    unfold Rw.is at h
    simpa using h
  have hk : ¬ R.kd p = 3 := fun hk => by
    obtain ⟨_, h2⟩ := hdg hk
    have := h2 101 (by rw [← ByteArray.toList_eq, hl]; exact List.mem_cons_self)
    exact absurd this.2 (by decide)
  have hid : R.idn p = false := by
    rw [hidn]
    have : kwB (R.wd p) = true := by
      unfold kwB
      rw [hl]
      decide
    unfold idB
    rw [this]
    simp
  have hn : R.name p = (false, ⟨#[]⟩, p) := by
    unfold Rw.name
    rw [if_pos hid]
  have hi : ∀ l, l ≠ lElse → R.is p l = false := fun l hl => is_one h hl
  have h6 : rd R (f + 4) (.lev 6) p 0 = bad p 11 := by
    rw [low_pr (by rw [hi _ (by decide), hi _ (by decide)]; rfl), rd_pr_named hk (hi _ (by decide)) (hi _ (by decide)) (hi _ (by decide)) (hi _ (by decide)), rd_nm hn rfl, if_neg (show ¬ (false = true) by decide)]
  exact up_bad (up_bad (up_bad (up_bad (up_bad h6 (by omega) (by decide)) (by omega) (by decide)) (by omega) (by decide)) (by omega) (by decide)) (by omega) (by decide)
theorem row_else {T : ByteArray} {bs : List Int} (hb : bts T = bs) {F f : Nat} (hF : 9 ≤ F) (hr : (rs (rowT T (live bs 0)) F f (.row []) 0 0).r = 0) : (rowT T (live bs 0)).is 0 lElse = false := by
  cases h : (rowT T (live bs 0)).is 0 lElse with
  | false => rfl
  | true =>
    have hok := row_ok T (live bs 0)
    obtain ⟨F', rfl⟩ : ∃ F', F = F' + 9 := ⟨F - 9, by omega⟩
    have hb1 := else_bad (f := F') hb h
    obtain ⟨R, hR⟩ : ∃ R, rowT T (live bs 0) = R := ⟨_, rfl⟩
    rw [hR] at hr h hb1 hok
    have hhd : ¬ (hdS R (F' + 9) 0).2.2 = 0 := by
      unfold hdS
      rw [if_neg (by rw [is_one h (by decide)]; decide), if_neg (by rw [is_one h (by decide)]; decide), if_neg (by rw [is_one h (by decide)]; decide), if_neg (by rw [is_one h (by decide)]; decide)]
      unfold plS pex exS
      rw [if_pos rfl, hb1]
      show ¬ (11 : Int) = 0
      decide
    cases f with
    | zero =>
      have : rs R (F' + 9) 0 (.row []) 0 0 = bads 0 99 := rfl
      rw [this] at hr; cases hr
    | succ f =>
      rw [rs_row] at hr
      by_cases he : endsB R 0 = true
      · have := ends_else hok he
        rw [h] at this; cases this
      · rw [if_neg he] at hr
        have hst : ¬ (rs R (F' + 9) f .st 0 0).r = 0 := by
          cases f with
          | zero => show ¬ (99 : Int) = 0; decide
          | succ f =>
            rw [rs_st, if_neg hhd]
            exact hhd
        rw [if_neg hst] at hr
        exact absurd hr hst
theorem rs_join {A B R' : Rw} {F f : Nat} {cb : Int} (hA : A.Ok) (hB : B.Ok) (hR' : R'.Ok) (hn : R'.n = A.n + B.n) (hWA : Win A R' 0 0 A.n) (hWB : Win B R' A.n cb (B.n + 1)) (hf : 3 * R'.n + 3 ≤ f)
    (hb0 : B.is 0 lElse = false) (hA0 : (rs A F f (.row []) 0 0).r = 0) (hAp : (rs A F f (.row []) 0 0).p = A.n) (hB0 : (rs B F f (.row []) 0 0).r = 0) (hBp : (rs B F f (.row []) 0 0).p = B.n) :
    (rs R' F f (.row []) 0 0).r = 0 ∧ (rs R' F f (.row []) 0 0).l = (rs A F f (.row []) 0 0).l ++ (rs B F f (.row []) 0 0).l.map (St.sh cb) ∧ (rs R' F f (.row []) 0 0).p = R'.n := by
  have hj : ∀ m, EndsS R' F 0 (dnRow R') (mc0 0) m → m = ⟨(rs A F f (.row []) 0 0).l ++ (rs B F f (.row []) 0 0).l.map (St.sh cb), [], R'.n, 0⟩ := fun m hm => rows_join hA hB hR' hn hWA hWB hf hb0 hA0 hAp hB0 hBp hm
  obtain ⟨a1, a2⟩ := (sim_all (R := R') (F := F) (D := 0) (dn := dnRow R') hR' dnRow_op f).2.1 0 [] [] 0 (by simp) (by omega) (Nat.zero_le _) (fun row p h => by unfold dnRow; rw [h]; rfl)
  by_cases h0 : (rs R' F f (.row []) 0 0).r = 0
  · obtain ⟨c1, c2, c3, c4⟩ := a1 h0
    have e := hj _ (c1 _ (.here _ (by unfold dnRow; rw [c2]; rfl)))
    injection e with e1 e2 e3
    exact ⟨h0, e1, e3⟩
  · obtain ⟨_, x, h1, h2, h3⟩ := a2 h0
    have e := hj _ h1
    rw [e] at h3
    exact absurd h3.symm h0
theorem isBad_app (a b : List Tk) (ha : isBad a = false) (hb : isBad b = false) : isBad (a ++ b) = false := by
  unfold isBad at *
  rw [List.find?_append]
  cases h : a.find? (fun t => t.1 == 5) with
  | some t => rw [h] at ha; cases ha
  | none => rw [Option.none_or]; exact hb
/-- What Parse says of two texts with a line's end between. -/
theorem parseS_join {xs ys : List Int} (hx : Byt8 xs) (hy : Byt8 ys) (hnx : xs.length ≤ 100000) (hny : ys.length ≤ 100000) {F f : Nat} (hF : 9 ≤ F) (hf : 3 * (xs.length + ys.length) + 3 ≤ f)
    (h1 : (parseS (rowT (strOfNums xs) (live xs 0)) (live xs 0) F f).2.2 = 0) (h2 : (parseS (rowT (strOfNums ys) (live ys 0)) (live ys 0) F f).2.2 = 0) :
    parseS (rowT (strOfNums (xs ++ 10 :: ys)) (live (xs ++ 10 :: ys) 0)) (live (xs ++ 10 :: ys) 0) F f =
      ((parseS (rowT (strOfNums xs) (live xs 0)) (live xs 0) F f).1 ++ (parseS (rowT (strOfNums ys) (live ys 0)) (live ys 0) F f).1.map (St.sh ((xs.length : Int) + 1)), (xs.length : Int) + 1 + (ys.length : Int), 0) := by
  have hsx : (strOfNums xs).size = xs.length := str_len xs
  have hT : strOfNums (xs ++ 10 :: ys) = strOfNums xs ++ (strOfNums [10] ++ strOfNums ys) := by
    rw [str_append, str_append]; rfl
  have hT2 : strOfNums (xs ++ 10 :: ys) = (strOfNums xs ++ strOfNums [10]) ++ strOfNums ys := by
    rw [str_append, str_append]; simp
  have hP : (strOfNums xs ++ strOfNums [10]).size = xs.length + 1 := by
    rw [ByteArray.size_append, hsx]; rfl
  have hLx : ∀ t ∈ live xs 0, t.2.2.toNat ≤ (strOfNums xs).size := fun t ht => by
    have := (live_ok (bts_str hx) (by omega)).tok t ht
    omega
  have hLy : ∀ t ∈ live ys 0, 0 ≤ t.2.1 ∧ 0 ≤ t.2.2 := fun t ht => by
    have := (live_ok (bts_str hy) (by omega)).tok t ht
    omega
  have hW1 := win_pre (strOfNums xs) (strOfNums [10] ++ strOfNums ys) (live xs 0) ((live ys 0).map (shift ((xs.length : Int) + 1))) hLx
  have hW2 := win_suf (strOfNums xs ++ strOfNums [10]) (strOfNums ys) (live xs 0) (live ys 0) hP hLy
  rw [← hT, ← live_two] at hW1
  rw [← hT2, show (((xs.length + 1 : Nat)) : Int) = (xs.length : Int) + 1 by omega, ← live_two] at hW2
  have hnn : (live (xs ++ 10 :: ys) 0).length = (live xs 0).length + (live ys 0).length := by rw [live_two, List.length_append, List.length_map]
  have hlx := live_len xs
  have hly := live_len ys
  have hps : (rowT (strOfNums (xs ++ 10 :: ys)) (live (xs ++ 10 :: ys) 0)).ps (live (xs ++ 10 :: ys) 0).length = (xs.length : Int) + 1 + (ys.length : Int) := by
    have : (rowT (strOfNums (xs ++ 10 :: ys)) (live (xs ++ 10 :: ys) 0)).ps (live (xs ++ 10 :: ys) 0).length = ((strOfNums (xs ++ 10 :: ys)).size : Int) := by simp only [rowT, List.getElem?_eq_none (Nat.le_refl _)]
    rw [this, str_len]
    simp
    omega
  have hbb : isBad (live xs 0) = false ∧ isBad (live ys 0) = false := by
    constructor
    · cases hb : isBad (live xs 0) with
      | false => rfl
      | true => unfold parseS at h1; rw [if_pos hb] at h1; cases h1
    · cases hb : isBad (live ys 0) with
      | false => rfl
      | true => unfold parseS at h2; rw [if_pos hb] at h2; cases h2
  have hbl : isBad (live (xs ++ 10 :: ys) 0) = false := by
    rw [live_two]
    exact isBad_app _ _ hbb.1 (by rw [isBad_shift]; exact hbb.2)
  have inv : ∀ (bs : List Int), isBad (live bs 0) = false → (parseS (rowT (strOfNums bs) (live bs 0)) (live bs 0) F f).2.2 = 0 →
      (rs (rowT (strOfNums bs) (live bs 0)) F f (.row []) 0 0).r = 0 ∧ (rs (rowT (strOfNums bs) (live bs 0)) F f (.row []) 0 0).p = (rowT (strOfNums bs) (live bs 0)).n ∧ (parseS (rowT (strOfNums bs) (live bs 0)) (live bs 0) F f).1 = (rs (rowT (strOfNums bs) (live bs 0)) F f (.row []) 0 0).l := fun bs hb h => by
    unfold parseS at h ⊢
    rw [if_neg (by rw [hb]; decide)] at h ⊢
    by_cases h0 : (rs (rowT (strOfNums bs) (live bs 0)) F f (.row []) 0 0).r = 0
    · rw [if_pos h0] at h ⊢
      by_cases hp : (rs (rowT (strOfNums bs) (live bs 0)) F f (.row []) 0 0).p = (rowT (strOfNums bs) (live bs 0)).n
      · rw [if_pos hp]
        exact ⟨h0, hp, rfl⟩
      · rw [if_neg hp] at h; cases h
    · rw [if_neg h0] at h; exact absurd h h0
  obtain ⟨a1, a2, a3⟩ := inv xs hbb.1 h1
  obtain ⟨b1, b2, b3⟩ := inv ys hbb.2 h2
  have hel := row_else (bts_str hy) hF b1
  obtain ⟨j1, j2, j3⟩ := rs_join (row_ok _ _) (row_ok _ _) (row_ok _ _) hnn hW1 hW2 (by show 3 * (live (xs ++ 10 :: ys) 0).length + 3 ≤ f; omega) hel a1 a2 b1 b2
  rw [a3, b3]
  show parseS _ _ F f = _
  unfold parseS
  rw [if_neg (by rw [hbl]; decide), if_pos j1, if_pos j3, j2, j3]
  rw [show (rowT (strOfNums (xs ++ 10 :: ys)) (live (xs ++ 10 :: ys) 0)).n = (live (xs ++ 10 :: ys) 0).length from rfl, hps]
end Go.Proofs.YtpllkjfdaenalaaDoor
