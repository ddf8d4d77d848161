/-
  CONTRACT OF the document's 'turn'.
-/
import Derived.Test.YtekhockdgglndaaRSync
namespace Go.Proofs.Ytekhockdgglndaa
set_option linter.unusedVariables false
set_option linter.unusedSimpArgs false
open Go.RowKit

theorem below_drewR (B : Nat) (w : World) : Below B w w.drew := ⟨rfl, rfl, rfl, Nat.le_refl _, fun _ _ => rfl⟩
theorem wcells_len (l : List RT) : (wcells l).length = l.length * 3 := by
  induction l with
  | nil => rfl
  | cons f l ih =>
    have e : wcells (f :: l) = .string f.fr :: .string f.to :: .int .i64 f.file :: wcells l := by simp [wcells, RT.cells]
    rw [e]; simp [ih]; omega

theorem step_push_g {P : Program} {ops : Array Oper} {o : Oper} {a : Act} {Q : Exit → Act → World → Prop} {K : Act → World → Prop} {E : Prop} (hgd : Region.wanted o (yielded ops a.tmps) = true) (s x : Operand) (t : TypeId) (ho : o.op = .call { callee := .builtin .append, args := #[s, x], argTypes := #[t, t] })
    {e : TypeId} {size bytes : Nat} (hT : RowT P t e size bytes) (w : World) (B : Nat) (v : Value) (n : Nat) (xs us : List Value) (hs : a.eval s = v) (hown : Own w B e size v n xs)
    {G : Nat} (hx : a.eval x = .slice (some ⟨G, 0, none⟩) 1 1) (hG : G = w.heap.size) (hl : us.length = size) (h1 : ∀ u ∈ us, u.oneCell' = true)
    (hlen : n ≤ 1099511627776) (hby : bytes ≤ 64)
    (h : ∀ v' w', Own w' B e size v' (n + 1) (xs ++ us) → (w.alloc (.cells us.toArray e)).grownBy w' v.ownBlock → K (a.put o.dst v') w') :
    if Region.wanted o (yielded ops a.tmps) = true then Oper.wp P o a (w.alloc (.cells us.toArray e)) K Q else E := by
  rw [if_pos hgd]
  exact wp_push_g s x t ho hT w B v n xs us hs hown hx hG hl h1 hlen hby h
theorem SX.any {w w' : World} {X : Nat → Prop} {b : Nat} {n c size : Nat} {xs : List Value} (h : SX w X (some ⟨b, 0, none⟩) n size xs) {row : Option Nat} (hg : w.grownBy w' row) (hb : b < w.heap.size) (hr : row ≠ some b) : SX w' X (some ⟨b, 0, none⟩) n size xs :=
  ⟨h.1, fun hn => by
    obtain ⟨b', off, e, hX, hc⟩ := h.2 hn
    cases e
    exact ⟨b, 0, rfl, hX, fun k u hu => (World.cell?_of_block (w := w) (a := ⟨b, 0 + k, none⟩) (hg.block b hb (fun e => hr e.symm))).trans (hc k u hu)⟩⟩

theorem turn_end {X : Nat → Prop} {x : Nat} {V3 : RL} {R3 : RS} {w w3 w5 : World} {t : RT} {A5 : Option Addr} {c5 : Nat} {e : TypeId} (H : RAt w3 (wid X w w3) x V3 R3) (G : w.grownBy w3 (some x)) (B : Below w3.heap.size w3 w5)
    (O : Own w5 w3.heap.size e 3 (.slice A5 (R3.waits.length + 1) c5) (R3.waits.length + 1) (wcells R3.waits ++ [.string t.fr, .string t.to, .int .i64 t.file])) :
    (∃ V', RAt (w5.setCell ⟨x, 3, none⟩ (.slice A5 (R3.waits.length + 1) c5)) (wid X w (w5.setCell ⟨x, 3, none⟩ (.slice A5 (R3.waits.length + 1) c5))) x V' { R3 with waits := R3.waits ++ [t] }) ∧ w.grownBy (w5.setCell ⟨x, 3, none⟩ (.slice A5 (R3.waits.length + 1) c5)) (some x) := by
  have hlen : (R3.waits ++ [t]).length = R3.waits.length + 1 := by simp
  have hx := H.lt
  have h5 : RAt w5 (wid X w w5) x V3 R3 := (H.wider B).more (fun b hb => wid_trans G.size B.size hb) (fun b hb => by
    rcases hb with hb | hb
    · have := H.old b (.inl hb)
      have := B.size
      omega
    · exact hb.2)
  refine ⟨⟨{ V3 with wA := A5, wc := c5 }, ?_⟩, grownx_set (grownx_below G B) 3 _⟩
  have key := RAt.widSet (w0 := w) (h5.setWaits (l := R3.waits ++ [t]) (A := A5) (c := c5) ⟨?_, by rw [hlen]; exact O.cap.1, O.cap.2⟩)
  · rw [hlen] at key
    exact key
  · rw [hlen]
    refine SX.of_own (c := c5) (e := e) (O.cast rfl (wcells_snoc _ _).symm) fun k h1 h2 => ⟨.inr ⟨by have := G.size; omega, h2⟩, by omega⟩

set_option maxRecDepth 10000 in
set_option maxHeartbeats 3200000 in
theorem rturn_any (X : Nat → Prop) (x : Nat) (V : RL) (R : RS) (t : RT) (w : World) (h : RAt w X x V R) (hn : R.now.length ≤ 800) (hwl : R.waits.length ≤ 1000) :
    Calls Try.prog 57 #[.pointer (some ⟨x, 0, none⟩), .agg #[.string t.fr, .string t.to, .int .i64 t.file]] w fun e w' => e = .returned (.tuple #[]) ∧ (∃ V', RAt w' (wid X w w') x V' { R with now := rdo R.now t, waits := R.waits ++ [t] }) ∧ w.grownBy w' (some x) := by
  obtain ⟨w1, hw1⟩ : ∃ w1, w1 = w.alloc (.cells #[.string t.fr, .string t.to, .int .i64 t.file] 102) := ⟨_, rfl⟩
  obtain ⟨b, hb⟩ : ∃ b, b = w.heap.size := ⟨_, rfl⟩
  have hB : Below w.heap.size w w1 := by rw [hw1]; exact (Below.refl _ _).alloc (Nat.le_refl _) _
  have hsz : w1.heap.size = w.heap.size + 1 := by rw [hw1]; simp
  have hx := h.lt
  have h1 : RAt w1 X x V R := h.below hB
  have c1 : w1.drew.cell? ⟨x, 1, none⟩ = some (.slice V.nA R.now.length V.nc) := h1.cell 1
  have b0 : w1.drew.cell? ⟨b, 0, none⟩ = some (.string t.fr) := by show w1.cell? _ = _; rw [hw1, hb, World.cell?_alloc_at _ _ _ _ rfl]; rfl
  have b1 : w1.drew.cell? ⟨b, 1, none⟩ = some (.string t.to) := by show w1.cell? _ = _; rw [hw1, hb, World.cell?_alloc_at _ _ _ _ rfl]; rfl
  have b2 : w1.drew.cell? ⟨b, 2, none⟩ = some (.int .i64 t.file) := by show w1.cell? _ = _; rw [hw1, hb, World.cell?_alloc_at _ _ _ _ rfl]; rfl
  have HDO : Hid (Calls Try.prog 61 #[.slice V.nA R.now.length V.nc, .agg #[.string t.fr, .string t.to, .int .i64 t.file]] w1.drew fun e w' => ∃ A c, e = .returned (.slice A (rdo R.now t).length c) ∧
      w'.cell? ⟨x, 1, none⟩ = some (.slice V.nA R.now.length V.nc) ∧ w'.frozen? ⟨x, 1, none⟩ = false ∧ w'.cell? ⟨b, 0, none⟩ = some (.string t.fr) ∧ w'.cell? ⟨b, 1, none⟩ = some (.string t.to) ∧ w'.cell? ⟨b, 2, none⟩ = some (.int .i64 t.file) ∧
      Hid (Below w1.heap.size w1 w' ∧ RRow w' (wid (out X x) w1 w') A (rdo R.now t).length c 2 (recells (rdo R.now t)))) := by
    refine Lib.hid ((rdo_any (out X x) V.nA R.now.length V.nc R.now t w1.drew (fun k hk => h1.old k hk.1) rfl (by omega) h1.nr.le h1.nr.cm h1.drew.nr.sh).mono ?_)
    rintro e w' ⟨A, c, he, hle, hcm, hsx, hbw⟩
    have hb' : Below w1.heap.size w1 w' := ⟨hbw.os, hbw.tape, hbw.output, hbw.size, hbw.block⟩
    exact ⟨A, c, he, (hb'.cell (p := ⟨x, 1, none⟩) (by simp only; omega)).trans c1, (hb'.frozen (p := ⟨x, 1, none⟩) (by simp only; omega)).trans (h1.nf 1), (hb'.cell (p := ⟨b, 0, none⟩) (by simp only; omega)).trans b0, (hb'.cell (p := ⟨b, 1, none⟩) (by simp only; omega)).trans b1, (hb'.cell (p := ⟨b, 2, none⟩) (by simp only; omega)).trans b2, Lib.hid ⟨hb', hsx, hle, hcm⟩⟩
  have HW := Lib.hid hw1.symm
  have H := Lib.hid h
  have HB := Lib.hid hB
  have HBb := Lib.hid hb
  have HX := Lib.hid hx
  have HSZ := Lib.hid hsz
  clear h h1 hB hw1 hx hsz
  go_enter Try.func57, Try.ntmps57
  go_wp2_with fail
  rw [HW.out]
  rw [← hb]
  clear hb
  go_region_with (first
    | (go_at_call 61; refine HDO.out.mono ?_; rintro e w2 ⟨A, c, rfl, k1, f1, b0, b1, b2, T2⟩)
    | fail)
  all_goals
    have hb2 := T2.out.1
    have hb12 : Below w.heap.size w w2 := HB.out.trans (hb2.mono (by have := HSZ.out; omega))
    have hxl := HX.out
    have hbn : b ≠ x := by have := HBb.out; omega
    have hrow : RRow w2 (out (wid X w w2) x) A (rdo R.now t).length c 2 (recells (rdo R.now t)) := T2.out.2.go fun k hk => ⟨rfl, by
      rcases hk with hk | hk
      · exact ⟨.inl hk.1, hk.2⟩
      · have := HSZ.out
        exact ⟨.inr ⟨by omega, hk.2⟩, by omega⟩⟩
    have h3 := RAt.widSet (w0 := w) ((H.out.wider hb12).setNow hrow)
    obtain ⟨w3, hw3⟩ : ∃ w3, w3 = w2.setCell ⟨x, 1, none⟩ (.slice A (rdo R.now t).length c) := ⟨_, rfl⟩
    have d0 : w3.cell? ⟨b, 0, none⟩ = some (.string t.fr) := by rw [hw3, World.cell?_setCell_other _ _ _ _ (fun e => by injection e with e1 _; exact hbn e1.symm)]; assumption
    have d1 : w3.cell? ⟨b, 1, none⟩ = some (.string t.to) := by rw [hw3, World.cell?_setCell_other _ _ _ _ (fun e => by injection e with e1 _; exact hbn e1.symm)]; assumption
    have d2 : w3.cell? ⟨b, 2, none⟩ = some (.int .i64 t.file) := by rw [hw3, World.cell?_setCell_other _ _ _ _ (fun e => by injection e with e1 _; exact hbn e1.symm)]; assumption
    have g3 : w.grownBy w3 (some x) := by rw [hw3]; exact grownx_set (grownx_below (grownx_refl w x) hb12) 1 _
    rw [← hw3] at h3 ⊢
    have H3 := Lib.hid h3
    have G3 := Lib.hid g3
    have HBL' : Hid (b < w3.heap.size) := Lib.hid (World.block_lt_of_cell? _ _ d0)
    have HK : Hid (∀ w', Below w3.heap.size w3 w' → (w'.cell? ⟨b, 0, none⟩ = some (.string t.fr) ∧ w'.cell? ⟨b, 1, none⟩ = some (.string t.to) ∧ w'.cell? ⟨b, 2, none⟩ = some (.int .i64 t.file)) ∧ w'.cell? ⟨x, 3, none⟩ = some (.slice V.wA R.waits.length V.wc) ∧ w'.frozen? ⟨x, 3, none⟩ = false) := Lib.hid fun w' hb' =>
      ⟨⟨(hb'.cell (p := ⟨b, 0, none⟩) HBL'.out).trans d0, (hb'.cell (p := ⟨b, 1, none⟩) HBL'.out).trans d1, (hb'.cell (p := ⟨b, 2, none⟩) HBL'.out).trans d2⟩, (hb'.cell (p := ⟨x, 3, none⟩) h3.lt).trans (h3.cell 3), (hb'.frozen (p := ⟨x, 3, none⟩) h3.lt).trans (h3.nf 3)⟩
    have HWA : Hid (∀ w', Below w3.heap.size w3 w' → SX w' (out (wid X w w3) x) V.wA R.waits.length 3 (wcells R.waits)) := Lib.hid fun w' hb' => h3.wr.sh.stay fun k hk => hb'.block k (h3.old k hk.1)
    have hx3 : x < w3.heap.size := h3.lt
    have hb3 := HBL'.out
    have ba : Below w3.heap.size w3 (w3.drew.alloc (.cells #[] 102)) := (below_drewR _ w3).trans ((Below.refl w3.heap.size w3.drew).alloc (Nat.le_refl _) _)
    have bb : Below w3.heap.size w3 ((w3.drew.alloc (.cells #[] 102)).alloc (.cells #[.string t.fr, .string t.to, .int .i64 t.file] 102)) := ba.alloc (by simp) _
    have bc : Below w3.heap.size w3 ((w3.drew.alloc (.cells #[.string t.fr, .string t.to, .int .i64 t.file] 102)).alloc (.cells #[] 102)) := ((below_drewR _ w3).trans ((Below.refl w3.heap.size w3.drew).alloc (Nat.le_refl _) _)).alloc (by simp) _
    have BA := Lib.hid ba
    have BB := Lib.hid bb
    have BC := Lib.hid bc
    have OA : Hid (Own (w3.drew.alloc (.cells #[] 102)) w3.heap.size 102 3 (.slice (some ⟨w3.heap.size, 0, none⟩) 0 0) 0 []) := Lib.hid (Own.empty w3.drew w3.heap.size 102 3 (Nat.le_refl _))
    have OB : Hid (Own ((w3.drew.alloc (.cells #[] 102)).alloc (.cells #[.string t.fr, .string t.to, .int .i64 t.file] 102)) w3.heap.size 102 3 (.slice (some ⟨w3.heap.size, 0, none⟩) 0 0) 0 []) := Lib.hid (OA.out.alloc _)
    have OC : Hid (Own ((w3.drew.alloc (.cells #[.string t.fr, .string t.to, .int .i64 t.file] 102)).alloc (.cells #[] 102)) w3.heap.size 102 3 (.slice (some ⟨w3.heap.size + 1, 0, none⟩) 0 0) 0 []) := Lib.hid (by
      have := Own.empty (w3.drew.alloc (.cells #[.string t.fr, .string t.to, .int .i64 t.file] 102)) w3.heap.size 102 3 (by simp)
      simpa using this)
    have LB : Hid (SX ((w3.drew.alloc (.cells #[] 102)).alloc (.cells #[.string t.fr, .string t.to, .int .i64 t.file] 102)) (fun _ => True) (some ⟨w3.heap.size + 1, 0, none⟩) 1 3 [.string t.fr, .string t.to, .int .i64 t.file]) := Lib.hid (by
      have := SX.lit (w3.drew.alloc (.cells #[] 102)) (fun _ => True) [.string t.fr, .string t.to, .int .i64 t.file] 102 1 3 rfl trivial
      simpa using this)
    have LC : Hid (SX ((w3.drew.alloc (.cells #[.string t.fr, .string t.to, .int .i64 t.file] 102)).alloc (.cells #[] 102)) (fun _ => True) (some ⟨w3.heap.size, 0, none⟩) 1 3 [.string t.fr, .string t.to, .int .i64 t.file]) := Lib.hid (by
      have := SX.lit w3.drew (fun _ => True) [.string t.fr, .string t.to, .int .i64 t.file] 102 1 3 rfl trivial
      exact this.any (c := 0) (World.grownBy_alloc _ _ none) (by simp) (by simp))
    have e3 : w3.cell? ⟨x, 3, none⟩ = some (.slice V.wA R.waits.length V.wc) := h3.cell 3
    clear hw3 T2 HDO k1 f1 b0 b1 b2 g3 hrow hb12 hb2 h3 c1 ba bb bc
    go_wp2_with fail
    go_region_law (first
      | (refine step_more_s rfl (.tmp 14) (.tmp 18) 69 rfl rowTu (w3.drew.alloc (.cells #[] 102)) w3.heap.size _ 0 [] (wcells R.waits) rfl OA.out (out (wid X w w3) x) V.wA R.waits.length V.wc rfl (HWA.out _ BA.out) (wcells_one _) (by omega) (by omega) ?_; intro v4 w4 ho4 hg4; have hb4 := BA.out.grown hg4 BA.out.size OA.out.block_ge; obtain ⟨⟨d0, d1, d2⟩, e4, z4⟩ := HK.out w4 hb4; have hx4 : x < w4.heap.size := Nat.lt_of_lt_of_le hx3 hb4.size; have hb4' : b < w4.heap.size := Nat.lt_of_lt_of_le hb3 hb4.size; have O4 := Lib.hid (ho4.cast (Nat.zero_add _) (List.nil_append _)); have B4 := Lib.hid hb4; clear ho4 hb4 hg4)
      | (refine step_more_s rfl (.tmp 14) (.tmp 18) 69 rfl rowTu ((w3.drew.alloc (.cells #[] 102)).alloc (.cells #[.string t.fr, .string t.to, .int .i64 t.file] 102)) w3.heap.size (.slice (some ⟨w3.heap.size, 0, none⟩) 0 0) 0 [] (wcells R.waits) rfl OB.out (out (wid X w w3) x) V.wA R.waits.length V.wc rfl (HWA.out _ BB.out) (wcells_one _) (by omega) (by omega) ?_; intro v4 w4 ho4 hg4; have hb4 := BB.out.grown hg4 BB.out.size OB.out.block_ge; obtain ⟨⟨d0, d1, d2⟩, e4, z4⟩ := HK.out w4 hb4; have hx4 : x < w4.heap.size := Nat.lt_of_lt_of_le hx3 hb4.size; have O4 := Lib.hid (ho4.cast (Nat.zero_add _) (List.nil_append _)); have B4 := Lib.hid hb4; have L4 := Lib.hid (LB.out.any (c := 0) hg4 (by simp) (by simp [Value.ownBlock])); clear ho4 hb4 hg4)
      | (refine step_more_s rfl (.tmp 14) (.tmp 18) 69 rfl rowTu ((w3.drew.alloc (.cells #[.string t.fr, .string t.to, .int .i64 t.file] 102)).alloc (.cells #[] 102)) w3.heap.size (.slice (some ⟨w3.heap.size + 1, 0, none⟩) 0 0) 0 [] (wcells R.waits) rfl OC.out (out (wid X w w3) x) V.wA R.waits.length V.wc rfl (HWA.out _ BC.out) (wcells_one _) (by omega) (by omega) ?_; intro v4 w4 ho4 hg4; have hb4 := BC.out.grown hg4 BC.out.size OC.out.block_ge; obtain ⟨⟨d0, d1, d2⟩, e4, z4⟩ := HK.out w4 hb4; have hx4 : x < w4.heap.size := Nat.lt_of_lt_of_le hx3 hb4.size; have O4 := Lib.hid (ho4.cast (Nat.zero_add _) (List.nil_append _)); have B4 := Lib.hid hb4; have L4 := Lib.hid (LC.out.any (c := 0) hg4 (by simp; omega) (by simp [Value.ownBlock])); clear ho4 hb4 hg4)
      | (refine step_push_g rfl (.tmp 19) (.tmp 21) 69 rfl rowTu w4 w3.heap.size _ R.waits.length (wcells R.waits) [.string t.fr, .string t.to, .int .i64 t.file] rfl O4.out rfl rfl rfl (by intro z hz; simp at hz; rcases hz with rfl | rfl | rfl <;> rfl) (by omega) (by omega) ?_; intro v5 w5 ho5 hg5; have hb5 := (B4.out.alloc B4.out.size _).grown hg5 (by have := B4.out.size; simp; omega) O4.out.block_ge; obtain ⟨_, e5, z5⟩ := HK.out w5 hb5; obtain ⟨A5, c5, rfl⟩ := ho5.form; have O5 := Lib.hid ho5; have B5 := Lib.hid hb5; clear ho5 hb5 hg5)
      | (refine step_more_s rfl (.tmp 19) (.tmp 21) 69 rfl rowTu w4 w3.heap.size _ R.waits.length (wcells R.waits) [.string t.fr, .string t.to, .int .i64 t.file] rfl O4.out (fun _ => True) _ 1 1 rfl L4.out (by intro z hz; simp at hz; rcases hz with rfl | rfl | rfl <;> rfl) (by omega) (by omega) ?_; intro v5 w5 ho5 hg5; have hb5 := B4.out.grown hg5 B4.out.size O4.out.block_ge; obtain ⟨_, e5, z5⟩ := HK.out w5 hb5; obtain ⟨A5, c5, rfl⟩ := ho5.form; have O5 := Lib.hid ho5; have B5 := Lib.hid hb5; clear ho5 hb5 hg5))
  all_goals
    go_wp2
    first | go_end0 | skip
    exact ⟨rfl, turn_end H3.out G3.out B5.out O5.out⟩
end Go.Proofs.Ytekhockdgglndaa
