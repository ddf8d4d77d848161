/-
  CONTRACT OF 'span.Back'.
-/
import Derived.Test.YtopeechbgblndaaDoorSpP
import Derived.Test.YtopeechbgblndaaDoorHeld
namespace Go.Proofs.YtopeechbgblndaaDoor
set_option linter.unusedVariables false
set_option linter.unusedSimpArgs false
open Go.RowKit

theorem step_push_g {P : Program} {ops : Array Oper} {o : Oper} {a : Act} {Q : Exit → Act → World → Prop} {K : Act → World → Prop} {E : Prop} (hgd : Region.wanted o (yielded ops a.tmps) = true) (s x : Operand) (t : TypeId) (ho : o.op = .call { callee := .builtin .append, args := #[s, x], argTypes := #[t, t] })
    {e : TypeId} {size bytes : Nat} (hT : RowT P t e size bytes) (w : World) (B : Nat) (v : Value) (n : Nat) (xs us : List Value) (hs : a.eval s = v) (hown : Own w B e size v n xs)
    {G : Nat} (hx : a.eval x = .slice (some ⟨G, 0, none⟩) 1 1) (hG : G = w.heap.size) (hl : us.length = size) (h1 : ∀ u ∈ us, u.oneCell' = true)
    (hlen : n ≤ 1099511627776) (hby : bytes ≤ 64)
    (h : ∀ v' w', Own w' B e size v' (n + 1) (xs ++ us) → (w.alloc (.cells us.toArray e)).grownBy w' v.ownBlock → K (a.put o.dst v') w') :
    if Region.wanted o (yielded ops a.tmps) = true then Oper.wp P o a (w.alloc (.cells us.toArray e)) K Q else E := by
  rw [if_pos hgd]
  exact wp_push_g s x t ho hT w B v n xs us hs hown hx hG hl h1 hlen hby h

/-- Back's answer. -/
def BkTo (n : Int) (bs : List Int) (L : List Ed) (w : World) (e : Ending) (w' : World) : Prop :=
  if chk n L = 0 then ∃ v, e = .returned (.tuple #[v, .int .i64 0]) ∧ Own w' w.heap.size 38 3 v L.length (ecs (back bs 0 L)) ∧ Below w.heap.size w w'
  else e = .returned (.tuple #[.slice none 0 0, .int .i64 (chk n L)]) ∧ Below w.heap.size w w'
theorem BkTo.bad {n : Int} {bs : List Int} {L : List Ed} {w w' : World} {e : Ending} (h : chk n L ≠ 0) (he : e = .returned (.tuple #[.slice none 0 0, .int .i64 (chk n L)])) (hb : Below w.heap.size w w') : BkTo n bs L w e w' := by
  unfold BkTo; rw [if_neg h]; exact ⟨he, hb⟩
theorem BkTo.good {n : Int} {bs : List Int} {L : List Ed} {w w' : World} {e : Ending} (h : chk n L = 0) (hh : ∃ v, e = .returned (.tuple #[v, .int .i64 0]) ∧ Own w' w.heap.size 38 3 v L.length (ecs (back bs 0 L)) ∧ Below w.heap.size w w') : BkTo n bs L w e w' := by
  unfold BkTo; rw [if_pos h]; exact hh
theorem back_drop {bs : List Int} {L : List Ed} {k : Nat} {x : Ed} (h : L[k]? = some x) (lon : Int) : back bs lon (L.drop k) = (x.1 + lon, x.1 + lon + x.2.2.length, seg bs x.1 x.2.1) :: back bs (lon + grow x) (L.drop (k + 1)) := by
  obtain ⟨hk, rfl⟩ := List.getElem?_eq_some_iff.1 h
  rw [List.drop_eq_getElem_cons hk]
  rfl

set_option maxRecDepth 10000 in
set_option maxHeartbeats 3200000 in
theorem back_any (A P : Option Addr) (n c m d : Nat) (bs : List Int) (L : List Ed) (w : World) (hb : Sh w w.heap.size A n (by8 bs)) (hx : ShE w w.heap.size P m L) (hn : n ≤ 100000) (hnc : n ≤ c) (hcm : c ≤ maxLen) (hcA : c = 0 ∨ ∃ b off, A = some ⟨b, off, none⟩)
    (hm : m ≤ 600) (hs : ∀ x ∈ L, x.2.2.length ≤ 1000) (hby : BytE L) :
    Calls Tryd.prog 16 #[.slice A n c, .slice P m d] w (BkTo n bs L w) := by
  have hlb : bs.length = n := by have := hb.len; rwa [by8_len] at this
  have hl : L.length = m := hx.1
  unfold maxLen at hcm
  have HLB := Lib.hid hlb
  have HL := Lib.hid hl
  have HBY := Lib.hid hby
  have HS := Lib.hid hs
  have HX := Lib.hid (fun w' (b : Below w.heap.size w w') => hx.up b (Nat.le_refl _))
  have HBB := Lib.hid (fun w' (b : Below w.heap.size w w') => hb.below b)
  have HCK := Lib.hid (check_any P n m d L w hx (by omega) (by omega))
  have hz := zeroEd
  obtain ⟨ck, hck⟩ : ∃ ck, chk n L = ck := ⟨_, rfl⟩
  rw [hck] at HCK
  have HK := Lib.hid hck
  clear hlb hl hby hs hx hb hck
  by_cases h0 : ck = 0
  · subst h0
    have HBD := Lib.hid (EdB_of HK.out HS.out)
    go_enter Tryd.func16, Tryd.ntmps16
    go_wp2_with (go_at_call 13; refine HCK.out.mono ?_; rintro e w1 ⟨rfl, b1⟩; have B1 := Lib.hid b1; have hs1 := b1.size; clear b1)
    go_loopw [7, 8, 21] (fun v a i wr => ∃ (vv : Value) (k : Nat) (z : Int) (K : List Ed), vv = v ∧ i = .int .i64 (k : Int) ∧ a = .int .i64 z ∧ k ≤ m ∧ -(1000000 * (k : Int)) ≤ z ∧ z ≤ 1000000 * (k : Int) ∧ K.length = k ∧ Own wr w.heap.size 38 3 v k (ecs K) ∧ K ++ back bs z (L.drop k) = back bs 0 L ∧ Below w.heap.size w wr) (fun _ _ i _ => m - (intOf i).toNat)
    case atStart => exact ⟨_, 0, 0, [], rfl, rfl, rfl, Nat.zero_le _, by omega, by omega, rfl, Own.nil _ _ _ _ hs1, rfl, B1.out⟩
    case round =>
      obtain ⟨v, k, z, K, rfl, rfl, rfl, hk, hz0, hz2, hkl, ho, hbk, hbl⟩ := hrel
      have HB := Lib.hid hbl
      have HO := Lib.hid ho
      have HBK := Lib.hid hbk
      have HKL := Lib.hid hkl
      have hge := ho.2
      clear ho hbk hbl hkl
      by_cases hlt : k < m
      · obtain ⟨b, off, x, rfl, hbb, hx, c0, c1, c2⟩ := (HX.out wr HB.out).at hlt
        have HBKD := Lib.hid (back_drop (bs := bs) hx z)
        obtain ⟨f, t, s⟩ := x
        dsimp only at c0 c1 c2
        obtain ⟨q0, q1, q2, q3⟩ := HBD.out _ (List.mem_of_getElem? hx)
        dsimp only at q0 q1 q2 q3
        have hsz : (strOfNums s).size = s.length := strOfNums_size _
        obtain ⟨S, hS⟩ : ∃ S, strOfNums s = S := ⟨_, rfl⟩
        rw [hS] at hsz c2
        have HSS := Lib.hid hS
        have HBA := Lib.hid (HB.out.alloc hge (.cells #[.int .i64 f, .int .i64 t, .string S] 38))
        have HG : Hid (∀ W, Calls Tryd.prog 25 #[.agg #[.int .i64 f, .int .i64 t, .string S]] W fun e w' => e = .returned (.int .i64 (grow (f, t, s))) ∧ Below W.heap.size W w') := Lib.hid fun W => by
          have := growth_any f t S W q0 q1 (by omega) (by omega)
          rw [hsz] at this
          exact this
        have hgb : -200000 ≤ grow (f, t, s) ∧ grow (f, t, s) ≤ 200000 := by unfold grow; dsimp only; omega
        obtain ⟨G, hG⟩ : ∃ G, grow (f, t, s) = G := ⟨_, rfl⟩
        rw [hG] at HG hgb
        have HGG := Lib.hid hG
        obtain ⟨hg1, hg2⟩ := hgb
        obtain ⟨F, rfl⟩ : ∃ F : Nat, f = F := ⟨f.toNat, by omega⟩
        obtain ⟨T, rfl⟩ : ∃ T : Nat, t = T := ⟨t.toNat, by omega⟩
        have hFT : F ≤ T := by omega
        have hTn : T ≤ n := by omega
        have HSZ := Lib.hid hsz
        have hSs : S.size ≤ 1000 := by omega
        clear hx hsz hG hS q0 q1 q2
        have HCV : Hid (∀ w' U e, Below w.heap.size w w' → (∀ b off, A = some ⟨b, off, none⟩ → F < T → U = some ⟨b, off + F, none⟩) → (convert 22 9 (.slice U (T - F) e)).run Tryd.prog w' = .ok (.string (strOfNums (seg bs F T))) w') := Lib.hid fun w' U e b hU => convert_sh (sh_seg (HBB.out w' b) hFT hTn hU) e
        have hk2 : (k : Int) ≤ 600 := by omega
        have hzf : IntKind.i64.wrap ((F : Int) + z) = (F : Int) + z := IntWalk.i64_in _ (by omega)
        have hzs : IntKind.i64.wrap ((F : Int) + z + (S.size : Int)) = (F : Int) + z + (S.size : Int) := IntWalk.i64_in _ (by omega)
        have hzG : IntKind.i64.wrap (z + G) = z + G := IntWalk.i64_in _ (by omega)
        obtain ⟨X, hX⟩ : ∃ X, strOfNums (seg bs F T) = X := ⟨_, rfl⟩
        rw [hX] at HCV
        have HXE := Lib.hid hX
        clear hX
        have hbox : ∀ j, (wr.alloc (.cells #[.int .i64 (F : Int), .int .i64 (T : Int), .string S] 38)).cell? ⟨wr.heap.size, j, none⟩ = #[.int .i64 (F : Int), .int .i64 (T : Int), .string S][j]? := fun j => World.cell?_alloc_at _ _ _ _ rfl
        have HBOX := Lib.hid hbox
        clear hbox
        obtain ⟨S0, hS0⟩ : ∃ S0 : World → Prop, S0 = fun w' => (w'.cell? ⟨wr.heap.size, 0, none⟩ = some (.int .i64 (F : Int)) ∧ w'.cell? ⟨wr.heap.size, 1, none⟩ = some (.int .i64 (T : Int)) ∧ w'.cell? ⟨wr.heap.size, 2, none⟩ = some (.string S)) ∧ Below w.heap.size w w' := ⟨_, rfl⟩
        have HSI : Hid (∀ w', (∀ j, w'.cell? ⟨wr.heap.size, j, none⟩ = #[.int .i64 (F : Int), .int .i64 (T : Int), .string S][j]?) → Below w.heap.size w w' → S0 w') := Lib.hid fun w' hc b' => by
          rw [hS0]
          exact ⟨⟨hc 0, hc 1, hc 2⟩, b'⟩
        have hSF : ∀ w', S0 w' → (w'.cell? ⟨wr.heap.size, 0, none⟩ = some (.int .i64 (F : Int)) ∧ w'.cell? ⟨wr.heap.size, 1, none⟩ = some (.int .i64 (T : Int)) ∧ w'.cell? ⟨wr.heap.size, 2, none⟩ = some (.string S)) ∧ Below w.heap.size w w' := by rw [hS0]; exact fun w' h => h
        have s0 : ∀ s : SW S0, s.w.cell? ⟨wr.heap.size, 0, none⟩ = some (.int .i64 (F : Int)) := fun s => (hSF _ s.h).1.1
        have s1 : ∀ s : SW S0, s.w.cell? ⟨wr.heap.size, 1, none⟩ = some (.int .i64 (T : Int)) := fun s => (hSF _ s.h).1.2.1
        have s2 : ∀ s : SW S0, s.w.cell? ⟨wr.heap.size, 2, none⟩ = some (.string S) := fun s => (hSF _ s.h).1.2.2
        have HSC : Hid (∀ (s : SW S0) U e, (∀ b off, A = some ⟨b, off, none⟩ → F < T → U = some ⟨b, off + F, none⟩) → (convert 22 9 (.slice U (T - F) e)).run Tryd.prog s.w = .ok (.string X) s.w) := Lib.hid fun s U e hU => HCV.out s.w U e (hSF _ s.h).2 hU
        clear hS0 hSF
        have hsz1 : (wr.alloc (.cells #[.int .i64 (F : Int), .int .i64 (T : Int), .string S] 38)).heap.size = wr.heap.size + 1 := by simp
        have OB : Hid (Own (wr.alloc (.cells #[.int .i64 (F : Int), .int .i64 (T : Int), .string S] 38)) w.heap.size 38 3 v k (ecs K)) := Lib.hid (HO.out.alloc _)
        have hvb : v.ownBlock ≠ some wr.heap.size := fun e => absurd (HO.out.1.lt _ e).2 (by omega)
        have HVB := Lib.hid hvb
        clear hvb
        by_cases hcp : c = F
        · have en : F = n := by omega
          have eT : F = T := by omega
          have ec : F = c := hcp.symm
          clear hcp
          subst en
          subst eT
          subst ec
          have scv : ∀ (s : SW S0) U, (convert 22 9 (.slice U 0 0)).run Tryd.prog s.w = .ok (.string X) s.w := fun s U => by
            have := HSC.out s U 0 (fun _ _ _ h => absurd h (Nat.lt_irrefl _))
            rwa [Nat.sub_self] at this
          clear hcA
          go_wp2
          obtain ⟨W, hW⟩ : ∃ W, wr.alloc (.cells #[.int .i64 (F : Int), .int .i64 (F : Int), .string S] 38) = W := ⟨_, rfl⟩
          rw [hW] at HBA HBOX hsz1 OB ⊢
          have BWD : Hid (Below w.heap.size w W.drew) := Lib.hid (HBA.out.trans ⟨rfl, rfl, rfl, Nat.le_refl _, fun _ _ => rfl⟩)
          have hS1 : S0 W.drew := HSI.out _ HBOX.out BWD.out
          clear hW
          refine regionL_start (by kernel_rfl) 18 rfl S0 17 ?_
          refine wpL_next 0 15 3 (by kernel_rfl) (fun _ _ d _ _ h => by cases d <;> exact h) hS1 (fun hne => ?_)
          simp only [List.drop_succ_cons, List.drop_zero, List.take_succ_cons, List.take_zero]
          repeat (go_big_quiet_step (fail))
          refine wpQuiet_nil ?_
          refine wpL_one (i := 15) (fuel := 2) (by kernel_rfl) rfl (fun KK hKK => ?_)
          go_simp
          refine hKK _ _ (HSI.out _ (fun j => (World.cell?_alloc_past _ wr.heap.size j (by show wr.heap.size < W.heap.size; omega)).trans (HBOX.out j)) (BWD.out.alloc BWD.out.size _)) ?_
          clear hKK KK
          refine wpL_one (i := 16) (fuel := 1) (by kernel_rfl) rfl (fun KK hKK => ?_)
          refine step_push_g rfl (.tmp 29) (.tmp 44) 23 rfl rowEd W.drew w.heap.size v k (ecs K) [.int .i64 ((F : Int) + z), .int .i64 ((F : Int) + z + (S.size : Int)), .string X] rfl OB.out.drew rfl (show wr.heap.size + 1 = W.drew.heap.size from hsz1.symm) rfl (by intro z hz; simp at hz; rcases hz with rfl | rfl | rfl <;> rfl) (by omega) (by omega) ?_
          intro v6 w6 ho6 hg6
          have hc6 : ∀ j, w6.cell? ⟨wr.heap.size, j, none⟩ = #[.int .i64 (F : Int), .int .i64 (F : Int), .string S][j]? := fun j =>
            ((World.cell?_of_block (a := ⟨wr.heap.size, j, none⟩) (hg6.block wr.heap.size (by simp; show wr.heap.size < W.heap.size + 1; omega) (fun e => HVB.out e.symm))).trans (World.cell?_alloc_past _ wr.heap.size j (by show wr.heap.size < W.heap.size; omega))).trans (HBOX.out j)
          have HB6 : Hid (Below w.heap.size w w6) := Lib.hid ((BWD.out.alloc BWD.out.size _).grown hg6 (by have := BWD.out.size; simp; omega) (fun q hq => (HO.out.1.lt q hq).1))
          have HO6 := Lib.hid ho6
          have d0 := hc6 0
          have d1 := hc6 1
          have d2 := hc6 2
          refine hKK _ _ (HSI.out _ hc6 HB6.out) ?_
          clear hKK KK ho6 hg6 hc6 hS1 s0 s1 s2 scv
          refine wpL_last (fuel := 0) (by kernel_rfl) (by kernel_rfl) rfl (fun KK hKK => ?_)
          go_simp
          refine hKK _ _ ?_
          clear hKK KK
          go_wp2_with (first
            | (go_at_call 25; refine (HG.out _).mono ?_; rintro e w7 ⟨rfl, b7⟩; have B7 := Lib.hid b7; clear b7)
            | fail)
          go_roundw
          case rel =>
            refine ⟨_, k + 1, z + G, K ++ [((F : Int) + z, (F : Int) + z + s.length, seg bs F F)], rfl, by go_num, by go_num, by omega, by omega, by omega, by simp [HKL.out], ?_, ?_, HB6.out.trans (B7.out.mono HB6.out.size)⟩
            · refine (HO6.out.below B7.out).cast rfl ?_
              rw [ecs_snoc]
              unfold ecell
              dsimp only
              rw [HXE.out, HSZ.out]
            · rw [← HBK.out, HBKD.out, List.append_assoc, HGG.out]
              rfl
          case measure => simp [intOf]; omega
        · obtain ⟨b1, o1, rfl⟩ : ∃ b off, A = some ⟨b, off, none⟩ := by
            rcases hcA with h | h
            · omega
            · exact h
          clear hcA
          have scv : ∀ s : SW S0, (convert 22 9 (.slice (some ⟨b1, o1 + F, none⟩) (T - F) (c - F))).run Tryd.prog s.w = .ok (.string X) s.w := fun s => HSC.out s _ _ (fun _ _ h _ => by cases h; rfl)
          go_wp2
          obtain ⟨W, hW⟩ : ∃ W, wr.alloc (.cells #[.int .i64 (F : Int), .int .i64 (T : Int), .string S] 38) = W := ⟨_, rfl⟩
          rw [hW] at HBA HBOX hsz1 OB ⊢
          have BWD : Hid (Below w.heap.size w W.drew) := Lib.hid (HBA.out.trans ⟨rfl, rfl, rfl, Nat.le_refl _, fun _ _ => rfl⟩)
          have hS1 : S0 W.drew := HSI.out _ HBOX.out BWD.out
          clear hW
          refine regionL_start (by kernel_rfl) 18 rfl S0 17 ?_
          refine wpL_next 0 15 3 (by kernel_rfl) (fun _ _ d _ _ h => by cases d <;> exact h) hS1 (fun hne => ?_)
          simp only [List.drop_succ_cons, List.drop_zero, List.take_succ_cons, List.take_zero]
          repeat (go_big_quiet_step (fail))
          refine wpQuiet_nil ?_
          refine wpL_one (i := 15) (fuel := 2) (by kernel_rfl) rfl (fun KK hKK => ?_)
          go_simp
          refine hKK _ _ (HSI.out _ (fun j => (World.cell?_alloc_past _ wr.heap.size j (by show wr.heap.size < W.heap.size; omega)).trans (HBOX.out j)) (BWD.out.alloc BWD.out.size _)) ?_
          clear hKK KK
          refine wpL_one (i := 16) (fuel := 1) (by kernel_rfl) rfl (fun KK hKK => ?_)
          refine step_push_g rfl (.tmp 29) (.tmp 44) 23 rfl rowEd W.drew w.heap.size v k (ecs K) [.int .i64 ((F : Int) + z), .int .i64 ((F : Int) + z + (S.size : Int)), .string X] rfl OB.out.drew rfl (show wr.heap.size + 1 = W.drew.heap.size from hsz1.symm) rfl (by intro z hz; simp at hz; rcases hz with rfl | rfl | rfl <;> rfl) (by omega) (by omega) ?_
          intro v6 w6 ho6 hg6
          have hc6 : ∀ j, w6.cell? ⟨wr.heap.size, j, none⟩ = #[.int .i64 (F : Int), .int .i64 (T : Int), .string S][j]? := fun j =>
            ((World.cell?_of_block (a := ⟨wr.heap.size, j, none⟩) (hg6.block wr.heap.size (by simp; show wr.heap.size < W.heap.size + 1; omega) (fun e => HVB.out e.symm))).trans (World.cell?_alloc_past _ wr.heap.size j (by show wr.heap.size < W.heap.size; omega))).trans (HBOX.out j)
          have HB6 : Hid (Below w.heap.size w w6) := Lib.hid ((BWD.out.alloc BWD.out.size _).grown hg6 (by have := BWD.out.size; simp; omega) (fun q hq => (HO.out.1.lt q hq).1))
          have HO6 := Lib.hid ho6
          have d0 := hc6 0
          have d1 := hc6 1
          have d2 := hc6 2
          refine hKK _ _ (HSI.out _ hc6 HB6.out) ?_
          clear hKK KK ho6 hg6 hc6 hS1 s0 s1 s2 scv
          refine wpL_last (fuel := 0) (by kernel_rfl) (by kernel_rfl) rfl (fun KK hKK => ?_)
          go_simp
          refine hKK _ _ ?_
          clear hKK KK
          go_wp2_with (first
            | (go_at_call 25; refine (HG.out _).mono ?_; rintro e w7 ⟨rfl, b7⟩; have B7 := Lib.hid b7; clear b7)
            | fail)
          go_roundw
          case rel =>
            refine ⟨_, k + 1, z + G, K ++ [((F : Int) + z, (F : Int) + z + s.length, seg bs F T)], rfl, by go_num, by go_num, by omega, by omega, by omega, by simp [HKL.out], ?_, ?_, HB6.out.trans (B7.out.mono HB6.out.size)⟩
            · refine (HO6.out.below B7.out).cast rfl ?_
              rw [ecs_snoc]
              unfold ecell
              dsimp only
              rw [HXE.out, HSZ.out]
            · rw [← HBK.out, HBKD.out, List.append_assoc, HGG.out]
              rfl
          case measure => simp [intOf]; omega
      · obtain rfl : k = m := by omega
        have HE : Hid (K = back bs 0 L) := Lib.hid (by
          have h1 := HBK.out
          rw [List.drop_eq_nil_iff.2 (by rw [HL.out]; exact Nat.le_refl _)] at h1
          have h2 : K ++ [] = back bs 0 L := h1
          rwa [List.append_nil] at h2)
        go_wp2
        go_ret2
        refine BkTo.good HK.out ⟨_, rfl, ?_, HB.out⟩
        rw [HL.out, ← HE.out]
        exact HO.out
  · have h0' : (ck != 0) = true := by simpa using h0
    have HN := Lib.hid h0
    clear h0
    go_enter Tryd.func16, Tryd.ntmps16
    go_wp2_with (go_at_call 13; refine HCK.out.mono ?_; rintro e w1 ⟨rfl, b1⟩; have B1 := Lib.hid b1; clear b1)
    go_ret2
    exact BkTo.bad (by rw [HK.out]; exact HN.out) (ret_tup HK.out.symm) B1.out
end Go.Proofs.YtopeechbgblndaaDoor
