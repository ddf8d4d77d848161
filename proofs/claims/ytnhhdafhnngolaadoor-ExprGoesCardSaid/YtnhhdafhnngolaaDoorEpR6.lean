/-
  CONTRACT OF (*expr.Cursor).arguments, from those of less fuel.
-/
import Derived.Test.YtnhhdafhnngolaaDoorEpR5
namespace Go.Proofs.YtnhhdafhnngolaaDoor
set_option linter.unusedVariables false
set_option linter.unusedSimpArgs false
open Go.RowKit

section
variable {P : Program} {ops : Array Oper} {rest : List Oper} {o : Oper} {a : Act} {Q : Exit → Act → World → Prop}
theorem wpList_push_h (hgd : Region.wanted o (yielded ops a.tmps) = true) (s x : Operand) (t : TypeId) (ho : o.op = .call { callee := .builtin .append, args := #[s, x], argTypes := #[t, t] })
    {e : TypeId} {size bytes : Nat} (hT : RowT P t e size bytes) (w : World) (B : Nat) (v : Value) (n : Nat) (xs us : List Value) (hs : a.eval s = v) (hown : Own w B e size v n xs)
    {G : Nat} (hx : a.eval x = .slice (some ⟨G, 0, none⟩) 1 1) (hG : G = w.heap.size) (hl : us.length = size) (h1 : ∀ u ∈ us, u.oneCell' = true)
    (hlen : n ≤ 1000000000) (hby : bytes ≤ 128)
    (h : ∀ v' w', Own w' B e size v' (n + 1) (xs ++ us) → (w.alloc (.cells us.toArray e)).grownBy w' v.ownBlock → (v'.ownBlock = v.ownBlock ∨ v'.ownBlock = some (w.heap.size + 1)) → wpList P ops Q rest (a.put o.dst v') w') :
    wpList P ops Q (o :: rest) a (w.alloc (.cells us.toArray e)) := by
  refine wpList_wanted hgd fun K hK => ?_
  subst hG
  obtain ⟨ht, i, z, hi, hz, hsize, hbytes, hzs, hpos⟩ := hT
  have hbb : (n + 1) * bytes ≤ 140737488355328 := Nat.le_trans (Nat.mul_le_mul (show n + 1 ≤ 1000000001 by omega) hby) (by decide)
  obtain ⟨v', w', hr, h2, h3, _, h5⟩ := run_append_own_at (P := P) (w.alloc (.cells us.toArray e)) B t o.type e i z size bytes ht hi hz hsize hbytes hzs hpos v n xs (hown.1.alloc _) ⟨w.heap.size, 0, none⟩ 1 1 us (by simpa using hl)
    (fun j y hj => by
      rw [Addr.add_lit, Nat.zero_add, World.cell?_alloc_at _ _ _ _ rfl]
      simpa using hj) h1 (by unfold maxLen; omega) hbb (by have := hown.2; simp; omega)
  have hge : B ≤ (w.alloc (.cells us.toArray e)).heap.size := by have := hown.2; simp; omega
  unfold Oper.wp execOp
  simp only [ho, resolve, invoke, builtin, Sem.run_bind, Sem.run_pure, Result.andThen_ok, List.map_toArray, List.map_cons, List.map_nil, hs, hx, hr]
  exact hK _ _ (h v' w' ⟨h2, Nat.le_trans hge h3.size⟩ h3 (by simpa using h5))
end
theorem Own.gb {w w' : World} {B n size g : Nat} {e : TypeId} {v : Value} {xs : List Value} (h : Own w B e size v n xs) (hg : w.grownBy w' (some g)) (hB : g < B) : Own w' B e size v n xs :=
  ⟨h.1.kept hg (.inr fun he => by have := h.block_ge g he; omega), Nat.le_trans h.2 hg.size⟩
theorem Own.gn {w w' : World} {B n size g : Nat} {e : TypeId} {v : Value} {xs : List Value} (h : Own w B e size v n xs) (hg : w.grownBy w' (some g)) (hB : w.heap.size ≤ g) : Own w' B e size v n xs :=
  ⟨h.1.kept hg (.inr fun he => by have := (h.1.lt g he).2; omega), Nat.le_trans h.2 hg.size⟩
theorem Own.newvar {w w' : World} {B n size : Nat} {e : TypeId} {v : Value} {xs : List Value} (h : Own w B e size v n xs) (o : Obj) (hg : (w.alloc o).grownBy w' (some w.heap.size)) : Own w' B e size v n xs :=
  ⟨(h.alloc o).1.kept hg (.inr fun he => by have := (h.1.lt _ he).2; omega), Nat.le_trans (h.alloc o).2 hg.size⟩
theorem rowE80 : RowT Tryd.prog 25 27 6 80 := rowEx

theorem rd_ar_deep {R : Rw} {f a d : Nat} (hd : d = 32) : rd R (f + 1) .ar a d = bad a 12 := by
  simp only [rd]
  rw [if_pos hd]
theorem rd_ar_none {R : Rw} {f a d : Nat} (hd : ¬ d = 32) (h : R.is (a + 1) [41] = true) : rd R (f + 1) .ar a d = good (eList []) (a + 2) := by
  simp only [rd]
  rw [if_neg hd, if_pos h]
theorem rd_ar_yes {R : Rw} {f a d : Nat} (hd : ¬ d = 32) (h : R.is (a + 1) [41] = false) : rd R (f + 1) .ar a d = rd R f (.an []) (a + 1) (d + 1) := by
  simp only [rd]
  rw [if_neg hd, if_neg (by rw [h]; decide)]
theorem rd_an {R : Rw} {f a d : Nat} {acc : List Ex} {g : Gt} (hg : rd R f (.lev 1) a d = g) : rd R (f + 1) (.an acc) a d =
    if g.r = 0 then (if R.is g.p [44] = true then rd R f (.an (acc ++ [g.e])) (g.p + 1) d else if R.is g.p [41] = true then good (eList (acc ++ [g.e])) (g.p + 1) else bad g.p 11) else bad g.p g.r := by
  simp only [rd]
  rw [hg]

set_option maxRecDepth 10000 in
set_option maxHeartbeats 1600000 in
theorem args_step (C : Cx) (hC : TokOk C.T C.L) (f : Nat) (hB : ∀ f' ≤ f, BinC C f') : ArC C (f + 1) := by
  intro d p w hd h h40 hf
  have hz := zeroEx'
  have hlt := h.lt
  have hln := hC.len
  have hplt : p < C.L.length := (row_ok C.T C.L).is_lt h40
  have HC0 := Lib.hid h
  have HD := Lib.hid (deeper_any C hC p d _ HC0.out ⟨#[40]⟩ (by decide) hd)
  rw [deep_40, if_pos h40] at HD
  clear h
  by_cases h32 : d = 32
  · rw [if_pos h32] at HD
    have HX := Lib.hid (rd_ar_deep (R := C.R) (f := f) (a := p) h32)
    subst h32
    go_enter Tryd.func102, Tryd.ntmps102
    go_wp2_with (first
      | (go_at_call 82; refine HD.out.mono ?_; rintro e w4 ⟨rfl, hc4, hg4⟩; have HC4 := Lib.hid hc4; have HG4 := Lib.hid hg4; clear hc4 hg4; dsimp only)
      | fail)
    go_ret2
    rw [HX.out]
    exact ⟨_, rfl, (fun h => by cases h), HG4.out, HC4.out⟩
  · rw [if_neg h32] at HD
    have HTK : Hid (∀ W, Cur C W (p + 1) → Calls Tryd.prog 27 #[C.ptr, .string ⟨#[41]⟩] W (TakeTo C (p + 1) (C.R.is (p + 1) [41]) W)) := Lib.hid fun W hc => by
      have := takeL C hC (p + 1) W hc ⟨#[41]⟩ (by decide)
      rwa [tl41] at this
    cases h41 : C.R.is (p + 1) [41] with
    | true =>
      have HX := Lib.hid (rd_ar_none (f := f) h32 h41)
      go_enter Tryd.func102, Tryd.ntmps102
      go_wp2_with (first
        | (go_at_call 82; refine HD.out.mono ?_; rintro e w4 ⟨rfl, hc4, hg4⟩; have HC4 := Lib.hid hc4; have HG4 := Lib.hid hg4; clear hc4 hg4; dsimp only)
        | (go_at_call 27; refine (HTK.out _ HC4.out).mono ?_; rintro e w7 ⟨rfl, hc7, hg7, _⟩; have HC7 := Lib.hid (show Cur C w7 (p + 2) from (by simpa [h41] using hc7)); have HG7 := Lib.hid hg7; clear hc7 hg7; rw [h41]; dsimp only)
        | fail)
      go_ret2
      rw [HX.out]
      exact ⟨_, rfl, fun _ => .nil, gb_trans HG4.out HG7.out, HC7.out⟩
    | false =>
      have HX0 := Lib.hid (rd_ar_yes (f := f) h32 h41)
      obtain ⟨X, hX⟩ : ∃ X, rd C.R (f + 1) .ar p d = X := ⟨_, rfl⟩
      rw [hX] at HX0 ⊢
      have HBB := Lib.hid hB
      have hw1 : IntKind.i64.wrap ((d : Int) + 1) = ((d + 1 : Nat) : Int) := by rw [IntWalk.i64_in _ (by omega)]; omega
      clear hX hB
      go_enter Tryd.func102, Tryd.ntmps102
      go_wp2_with (first
        | (go_at_call 82; refine HD.out.mono ?_; rintro e w4 ⟨rfl, hc4, hg4⟩; have HC4 := Lib.hid hc4; have HG4 := Lib.hid hg4; clear hc4 hg4; dsimp only)
        | (go_at_call 27; refine (HTK.out _ HC4.out).mono ?_; rintro e w7 ⟨rfl, hc7, hg7, _⟩; have HC7 := Lib.hid (show Cur C w7 (p + 1) from (by simpa [h41] using hc7)); have HG7 := Lib.hid (gb_trans HG4.out hg7); clear hc7 hg7; rw [h41]; dsimp only)
        | fail)
      clear HD HTK HC4 HG4 HC0
      go_loopw [7] (fun lv wr => ∃ (L : List (Ex × Value)) (q f' : Nat), Own wr w.heap.size 27 6 lv L.length (xcs L) ∧ (∀ x ∈ L, Shx wr (fun b => w.heap.size ≤ b ∧ lv.ownBlock ≠ some b) x.2 x.1.l) ∧ L.length ≤ q ∧ Cur C wr q ∧ w.grownBy wr (some C.g) ∧ f' ≤ f ∧ 16 * (C.L.length - q) + 10 ≤ f' ∧ rd C.R f' (.an (L.map (·.1))) q (d + 1) = X) (fun _ wr => C.L.length - placeOf wr C.g)
      case atStart => exact ⟨[], p + 1, f, Own.nil _ _ _ _ HG7.out.size, (fun x hx => by cases hx), Nat.zero_le _, HC7.out, HG7.out, Nat.le_refl _, by omega, HX0.out.symm⟩
      case round =>
        obtain ⟨L, q, f', ho, htr, hLq, hc, hg, hf1, hf2, hrd⟩ := hrel
        have HO := Lib.hid ho
        have HTR := Lib.hid htr
        have HC := Lib.hid hc
        have HG := Lib.hid hg
        have HRD := Lib.hid hrd
        have hpl := placeOf_eq hc
        have hql := hc.le
        have hwr := hg.size
        obtain ⟨f'', rfl⟩ : ∃ f'', f' = f'' + 1 := ⟨f' - 1, by omega⟩
        obtain ⟨g, hgg⟩ : ∃ g, rd C.R f'' (.lev 1) q (d + 1) = g := ⟨_, rfl⟩
        have hin := rd_in (row_ok C.T C.L) f'' (.lev 1) q (d + 1) hql (fun h => by cases h)
        have HAN := Lib.hid (rd_an (acc := L.map (·.1)) hgg)
        rw [HRD.out] at HAN
        have HBC : Hid (∀ W, Cur C W q → Calls Tryd.prog 57 #[C.ptr, .int .i64 1, .int .i64 ((d + 1 : Nat) : Int)] W (RdTo C W g)) := Lib.hid fun W hW => by
          have := HBB.out f'' (by omega) 1 (d + 1) q W (by omega) (by omega) (by omega) hW (by omega)
          rwa [hgg] at this
        rw [hgg] at hin
        have hgp : g.p ≤ C.L.length := hin.2.1
        have HIN := Lib.hid hin
        clear ho htr hc hg hrd hgg hin
        by_cases hr : g.r = 0
        · have hr2' : (g.r == 0) = true := by simp [hr]
          have hr2'' : decide (g.r = 0) = true := by simp [hr]
          have hqg : q < g.p := HIN.out.2.2 hr rfl
          have HT44 : Hid (∀ W, Cur C W g.p → Calls Tryd.prog 27 #[C.ptr, .string ⟨#[44]⟩] W (TakeTo C g.p (C.R.is g.p [44]) W)) := Lib.hid fun W hc => by
            have := takeL C hC g.p W hc ⟨#[44]⟩ (by decide)
            rwa [tl44] at this
          cases h44 : C.R.is g.p [44] with
          | true =>
            have h44l : g.p < C.L.length := (row_ok C.T C.L).is_lt h44
            have HX2 : Hid (rd C.R f'' (.an (L.map (·.1) ++ [g.e])) (g.p + 1) (d + 1) = X) := Lib.hid (by rw [HAN.out, if_pos hr, if_pos h44])
            go_wp2_with (first
              | (go_at_call 57; refine (HBC.out _ HC.out).mono ?_; rintro e w5 ⟨zv, rfl, hx5, hg5, hc5⟩; have hone5 := hx5.one; have HX5 := Lib.hid hx5; have HG5 := Lib.hid hg5; have HC5 := Lib.hid hc5; have hs5 := hg5.size; clear hx5 hg5 hc5; dsimp only [exV])
              | (refine wpList_stx rfl (.tmp 8) (.tmp 23) rfl w5.heap.size rfl (entry_slot w5) (e := g.e) (lv := zv) rfl hone5 ?_; intro w6 hg6 hs6; have HG6 := Lib.hid hg6; have HS6 := Lib.hid hs6; have hz6 := hg6.size; rw [entry_size] at hz6; clear hg6 hs6)
              | (refine wpList_ldx' rfl (.tmp 8) rfl w5.heap.size 0 rfl HS6.out.cs ?_)
              | (at_builtin; refine wpList_push_h rfl (.tmp 28) (.tmp 30) 25 rfl rowEx w6 w.heap.size _ L.length (xcs L) (exC g.e zv) rfl ((HO.out.gb HG5.out (by omega)).newvar _ HG6.out) rfl rfl rfl (exC_one g.e hone5) (by omega) (by omega) ?_; intro v7 w7 ho7 hg7 hv7; have HO7 := Lib.hid ho7; have HG7' := Lib.hid hg7; have HV7 := Lib.hid hv7; have hs7 := hg7.size; simp at hs7; clear ho7 hg7 hv7)
              | (go_at_call 27; have HC7 : Hid (Cur C w7 g.p) := Lib.hid (((((HC5.out.under (entry_below w5)).grown HG6.out (by intro k e; cases e; omega)).under ((Below.refl _ _).alloc (Nat.le_refl _) _)).grown HG7'.out (by intro k hk; have := HO.out.block_ge k hk; omega))); refine (HT44.out _ HC7.out).mono ?_; rintro e w8 ⟨rfl, hc8, hg8, _⟩; have HC8 := Lib.hid (show Cur C w8 (g.p + 1) from (by simpa [h44] using hc8)); have HG8 := Lib.hid hg8; have hs8 := hg8.size; clear hc8 hg8; rw [h44]; dsimp only)
              | fail)
            have hownlt : ∀ k, u7.ownBlock = some k → w.heap.size ≤ k ∧ k < wr.heap.size := fun k hk => HO.out.1.lt k hk
            have HO8 : Hid (Own w8 w.heap.size 27 6 v7 (L ++ [(g.e, zv)]).length (xcs (L ++ [(g.e, zv)]))) := Lib.hid ((HO7.out.gb HG8.out (by omega)).cast (by simp) (xcs_snoc L (g.e, zv)).symm)
            have hsz7 : w6.heap.size + 1 ≤ w7.heap.size := by have := HG7'.out.size; simp at this; omega
            have hold : ∀ (S : Nat → Prop) (zs : Value) (zl : List Ex), Shx w5 (fun b => S b ∧ w.heap.size ≤ b ∧ u7.ownBlock ≠ some b ∧ b < w5.heap.size) zs zl → Shx w8 (fun b => w.heap.size ≤ b ∧ v7.ownBlock ≠ some b) zs zl := fun S zs zl hh => by
              refine (((((hh.under (entry_below w5) (by intro b _ hb; exact hb)).grown HG6.out (by intro b hb _ e; injection e with e; omega)).under ((Below.refl _ _).alloc (Nat.le_refl _) _) (by intro b _ hb; exact hb)).grown HG7'.out (by intro b hb _ e; exact hb.2.2.1 e.symm)).grown HG8.out (by intro b hb _ e; injection e with e; omega)).weak ?_
              intro b hb _
              refine ⟨hb.2.1, fun e => ?_⟩
              rcases HV7.out with h | h
              · exact hb.2.2.1 (h ▸ e)
              · rw [h] at e
                injection e with e
                omega
            have HTR8 : Hid (∀ x ∈ L ++ [(g.e, zv)], Shx w8 (fun b => w.heap.size ≤ b ∧ v7.ownBlock ≠ some b) x.2 x.1.l) := Lib.hid (fun x hx => by
              rcases List.mem_append.1 hx with hx | hx
              · refine hold (fun _ => True) _ _ ((((HTR.out x hx).weak (S' := fun b => (w.heap.size ≤ b ∧ u7.ownBlock ≠ some b) ∧ b < wr.heap.size) (fun b h1 h2 => ⟨h1, h2⟩)).grown HG5.out (by intro b hb _ e; injection e with e; omega)).weak fun b h1 h2 => ⟨trivial, h1.1.1, h1.1.2, h2⟩)
              · rw [List.mem_singleton.1 hx]
                exact hold (fun _ => True) _ _ (HX5.out.weak fun b h1 h2 => ⟨trivial, by omega, fun e => by have := (hownlt b e).2; omega, h2⟩))
            have HF8 : Hid (w.grownBy w8 (some C.g)) := Lib.hid (gb_trans (gb_then (gb_trans (fr_new (gb_trans (gb_trans HG.out HG5.out) (below_fr (entry_below w5) _)) HG6.out (by omega)) (below_fr ((Below.refl _ _).alloc (Nat.le_refl _) _) _)) HG7'.out (fun k hk => .inl (hownlt k hk).1)) HG8.out)
            clear hold hownlt
            have hpl8 := placeOf_eq HC8.out
            go_roundw
            case rel => exact ⟨L ++ [(g.e, zv)], g.p + 1, f'', HO8.out, HTR8.out, by simp; omega, HC8.out, HF8.out, by omega, by omega, by rw [List.map_append]; exact HX2.out⟩
            case measure => rw [hpl8, hpl]; omega
          | false =>
            obtain ⟨M, hM⟩ : ∃ M : Nat × Int, (if C.R.is g.p [41] = true then (g.p + 1, 0) else (g.p, 11)) = M := ⟨_, rfl⟩
            have HM : Hid (∀ W, Cur C W g.p → Calls Tryd.prog 97 #[C.ptr, .slice (some ⟨W.heap.size, 0, none⟩) 1 1] (W.alloc (.cells #[.string ⟨#[41]⟩] 9)) (MustTo C M (W.alloc (.cells #[.string ⟨#[41]⟩] 9)))) := Lib.hid fun W hc => by
              have h1 := must_any C hC g.p (W.alloc (.cells #[.string ⟨#[41]⟩] 9)) (hc.under ((Below.refl _ _).alloc (Nat.le_refl _) _)) [⟨#[41]⟩] (fun t ht => by rw [List.mem_singleton.1 ht]; decide) (some ⟨W.heap.size, 0, none⟩) 1 1 (by
                have := Sh.lit W [.string ⟨#[41]⟩] 9
                simpa using this) (by omega) (fun b off e => by cases e; have := hc.lt; omega)
              rwa [must_one C.R g.p _ _ tl41, hM] at h1
            have HX2 : Hid (X.r = M.2 ∧ X.p = M.1 ∧ (X.r = 0 → X.e.l = L.map (·.1) ++ [g.e])) := Lib.hid (by
              have h1 := HAN.out
              rw [if_pos hr, if_neg (by rw [h44]; decide)] at h1
              by_cases h41 : C.R.is g.p [41] = true
              · rw [if_pos h41] at h1 hM
                rw [h1, ← hM]
                exact ⟨rfl, rfl, fun _ => rfl⟩
              · rw [if_neg h41] at h1 hM
                rw [h1, ← hM]
                exact ⟨rfl, rfl, fun h => by cases h⟩)
            clear hM
            go_wp2_with (first
              | (go_at_call 57; refine (HBC.out _ HC.out).mono ?_; rintro e w5 ⟨zv, rfl, hx5, hg5, hc5⟩; have hone5 := hx5.one; have HX5 := Lib.hid hx5; have HG5 := Lib.hid hg5; have HC5 := Lib.hid hc5; have hs5 := hg5.size; clear hx5 hg5 hc5; dsimp only [exV])
              | (refine wpList_stx rfl (.tmp 8) (.tmp 23) rfl w5.heap.size rfl (entry_slot w5) (e := g.e) (lv := zv) rfl hone5 ?_; intro w6 hg6 hs6; have HG6 := Lib.hid hg6; have HS6 := Lib.hid hs6; have hz6 := hg6.size; rw [entry_size] at hz6; clear hg6 hs6)
              | (refine wpList_ldx' rfl (.tmp 8) rfl w5.heap.size 0 rfl HS6.out.cs ?_)
              | (at_builtin; refine wpList_push_h rfl (.tmp 28) (.tmp 30) 25 rfl rowEx w6 w.heap.size _ L.length (xcs L) (exC g.e zv) rfl ((HO.out.gb HG5.out (by omega)).newvar _ HG6.out) rfl rfl rfl (exC_one g.e hone5) (by omega) (by omega) ?_; intro v7 w7 ho7 hg7 hv7; have HO7 := Lib.hid ho7; have HG7' := Lib.hid hg7; have HV7 := Lib.hid hv7; have hs7 := hg7.size; simp at hs7; clear ho7 hg7 hv7)
              | (go_at_call 27; have HC7 : Hid (Cur C w7 g.p) := Lib.hid (((((HC5.out.under (entry_below w5)).grown HG6.out (by intro k e; cases e; omega)).under ((Below.refl _ _).alloc (Nat.le_refl _) _)).grown HG7'.out (by intro k hk; have := HO.out.block_ge k hk; omega))); refine (HT44.out _ HC7.out).mono ?_; rintro e w8 ⟨rfl, hc8, hg8, _⟩; have HC8 := Lib.hid (show Cur C w8 g.p from (by simpa [h44] using hc8)); have HG8 := Lib.hid hg8; have hs8 := hg8.size; clear hc8 hg8; rw [h44]; dsimp only)
              | (go_at_call 97; refine (HM.out _ HC8.out).mono ?_; rintro e w9 ⟨rfl, hc9, hg9⟩; have HC9 := Lib.hid hc9; have HG9 := Lib.hid hg9; clear hc9 hg9; dsimp only)
              | fail)
            have hownlt : ∀ k, u7.ownBlock = some k → w.heap.size ≤ k ∧ k < wr.heap.size := fun k hk => HO.out.1.lt k hk
            have HO8 : Hid (Own w8 w.heap.size 27 6 v7 (L ++ [(g.e, zv)]).length (xcs (L ++ [(g.e, zv)]))) := Lib.hid ((HO7.out.gb HG8.out (by omega)).cast (by simp) (xcs_snoc L (g.e, zv)).symm)
            have hsz7 : w6.heap.size + 1 ≤ w7.heap.size := by have := HG7'.out.size; simp at this; omega
            have hold : ∀ (S : Nat → Prop) (zs : Value) (zl : List Ex), Shx w5 (fun b => S b ∧ w.heap.size ≤ b ∧ u7.ownBlock ≠ some b ∧ b < w5.heap.size) zs zl → Shx w8 (fun b => w.heap.size ≤ b ∧ v7.ownBlock ≠ some b) zs zl := fun S zs zl hh => by
              refine (((((hh.under (entry_below w5) (by intro b _ hb; exact hb)).grown HG6.out (by intro b hb _ e; injection e with e; omega)).under ((Below.refl _ _).alloc (Nat.le_refl _) _) (by intro b _ hb; exact hb)).grown HG7'.out (by intro b hb _ e; exact hb.2.2.1 e.symm)).grown HG8.out (by intro b hb _ e; injection e with e; omega)).weak ?_
              intro b hb _
              refine ⟨hb.2.1, fun e => ?_⟩
              rcases HV7.out with h | h
              · exact hb.2.2.1 (h ▸ e)
              · rw [h] at e
                injection e with e
                omega
            have HTR8 : Hid (∀ x ∈ L ++ [(g.e, zv)], Shx w8 (fun b => w.heap.size ≤ b ∧ v7.ownBlock ≠ some b) x.2 x.1.l) := Lib.hid (fun x hx => by
              rcases List.mem_append.1 hx with hx | hx
              · refine hold (fun _ => True) _ _ ((((HTR.out x hx).weak (S' := fun b => (w.heap.size ≤ b ∧ u7.ownBlock ≠ some b) ∧ b < wr.heap.size) (fun b h1 h2 => ⟨h1, h2⟩)).grown HG5.out (by intro b hb _ e; injection e with e; omega)).weak fun b h1 h2 => ⟨trivial, h1.1.1, h1.1.2, h2⟩)
              · rw [List.mem_singleton.1 hx]
                exact hold (fun _ => True) _ _ (HX5.out.weak fun b h1 h2 => ⟨trivial, by omega, fun e => by have := (hownlt b e).2; omega, h2⟩))
            have HF8 : Hid (w.grownBy w8 (some C.g)) := Lib.hid (gb_trans (gb_then (gb_trans (fr_new (gb_trans (gb_trans HG.out HG5.out) (below_fr (entry_below w5) _)) HG6.out (by omega)) (below_fr ((Below.refl _ _).alloc (Nat.le_refl _) _) _)) HG7'.out (fun k hk => .inl (hownlt k hk).1)) HG8.out)
            go_ret2
            refine ⟨v7, by rw [HX2.out.1]; rfl, fun h0 => ?_, gb_trans (gb_trans HF8.out (below_fr ((Below.refl _ _).alloc (Nat.le_refl _) _) _)) HG9.out, by rw [HX2.out.2.1]; exact HC9.out⟩
            rw [HX2.out.2.2 h0]
            have h1 : Shx w8 (fun b => w.heap.size ≤ b) v7 ((L ++ [(g.e, zv)]).map (·.1)) := Shx.of_own HO8.out rfl (fun x hx => (HTR8.out x hx).weak fun b hb _ => hb.1) (fun b hb _ _ => hb)
            have h2 := (h1.under ((Below.refl _ _).alloc (Nat.le_refl _) (.cells #[.string ⟨#[41]⟩] 9)) (by intro b _ hb; exact hb)).grown HG9.out (by intro b hb _ e; injection e with e; omega)
            rw [List.map_append] at h2
            exact h2
        · have hr2' : (g.r == 0) = false := by simp [hr]
          have hr2'' : decide (g.r = 0) = false := by simp [hr]
          have HX2 : Hid (X = bad g.p g.r) := Lib.hid (by rw [HAN.out, if_neg hr])
          go_wp2_with (first
            | (go_at_call 57; refine (HBC.out _ HC.out).mono ?_; rintro e w5 ⟨zv, rfl, hx5, hg5, hc5⟩; have hone5 := hx5.one; have HX5 := Lib.hid hx5; have HG5 := Lib.hid hg5; have HC5 := Lib.hid hc5; have hs5 := hg5.size; clear hx5 hg5 hc5; dsimp only [exV])
            | (refine wpList_stx rfl (.tmp 8) (.tmp 23) rfl w5.heap.size rfl (entry_slot w5) (e := g.e) (lv := zv) rfl hone5 ?_; intro w6 hg6 hs6; have HG6 := Lib.hid hg6; have HS6 := Lib.hid hs6; have hz6 := hg6.size; rw [entry_size] at hz6; clear hg6 hs6)
            | fail)
          go_ret2
          rw [HX2.out]
          exact ⟨_, rfl, (fun h => absurd h hr), fr_new (gb_trans (gb_trans HG.out HG5.out) (below_fr (entry_below w5) _)) HG6.out (by omega), (HC5.out.under (entry_below w5)).grown HG6.out (by intro k e; cases e; omega)⟩
end Go.Proofs.YtnhhdafhnngolaaDoor
