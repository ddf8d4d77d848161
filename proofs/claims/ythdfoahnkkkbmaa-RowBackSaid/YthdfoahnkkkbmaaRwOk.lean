/-
  CONTRACT OF add; what is asked of the program's tables of effects.
-/
import Derived.Test.YthdfoahnkkkbmaaRwN
import Derived.Test.YthdfoahnkkkbmaaLxZ
import Derived.Test.YthdfoahnkkkbmaaOrB
import Derived.Test.YthdfoahnkkkbmaaMHd
namespace Go.Proofs.Ythdfoahnkkkbmaa
set_option linter.unusedVariables false
set_option linter.unusedSimpArgs false
open Go.RowKit Go.Maps

/-- The pieces of add, behind the map's. -/
theorem add_push {w : World} {X : Nat → Prop} {g : Nat} {ns : List ByteArray} (h : RwAt w X g ns) {v : Value} {m : Nat} (hc : Blk w g 96 [v, .map (some m)]) (hr : Row w X 9 v ns.length (ns.map Value.string)) (hm : NumAt w m ns) (hx : ¬ X m) {s : ByteArray} (hb : tbad ns s = 0) (hs : s.size ≤ maxLen)
    {w1 : World} (hg1 : w.grownBy w1 (some m)) (hn1 : NumAt w1 m (ns ++ [s])) :
    Blk w1 g 96 [v, .map (some m)] ∧ Row w1 X 9 v ns.length (ns.map Value.string) ∧ (∀ b, X b → b < w1.heap.size) ∧
    ∀ v2 w2, Row w2 X 9 v2 (ns.length + 1) (ns.map Value.string ++ [.string s]) → (w1.alloc (.cells #[.string s] 9)).grownBy w2 v.ownBlock →
      Blk w2 g 96 [v, .map (some m)] ∧ RwAt (w2.setCell ⟨g, 0, none⟩ v2) X g (ns ++ [s]) ∧ Keeps X w (w2.setCell ⟨g, 0, none⟩ v2) := by
  have gm : m ≠ g := hm.ne_blk hc
  have vm : v.ownBlock ≠ some m := hm.ne_row hr.1
  have hc1 : Blk w1 g 96 [v, .map (some m)] := hc.keep hg1 (fun e => gm (by injection e))
  have hr1 : Row w1 X 9 v ns.length (ns.map Value.string) := hr.stay fun j hj => hg1.block j (hr.lt hj) (fun e => vm (by rw [hj, e]))
  have ho1 : ∀ b, X b → b < w1.heap.size := fun b hb => Nat.lt_of_lt_of_le (h.old b hb) hg1.size
  have K0 : Keeps X w w1 := (Keeps.refl X w).grown hg1 h.old (fun k hk => by cases hk; exact hx)
  refine ⟨hc1, hr1, ho1, fun v2 w2 hr2 hg2 => ?_⟩
  have B0 : Below w1.heap.size w1 (w1.alloc (.cells #[.string s] 9)) := (Below.refl _ _).alloc (Nat.le_refl _) _
  have hc1' : Blk (w1.alloc (.cells #[.string s] 9)) g 96 [v, .map (some m)] := hc1.stay (B0.block _ hc1.lt)
  have hm1' : NumAt (w1.alloc (.cells #[.string s] 9)) m (ns ++ [s]) := hn1.stay (B0.block _ hn1.lt)
  have hc2 := hc1'.keep hg2 (fun e => hr1.ne_blk hc1 (by decide) e)
  have hm2 := hm1'.keep hg2 vm
  have rg : v2.ownBlock ≠ some g := hr2.ne_blk hc2 (by decide)
  have rm : v2.ownBlock ≠ some m := hm2.ne_row hr2.1
  obtain ⟨t1, t2, t3⟩ := tbad_zero.1 hb
  have K1 : Keeps X w w2 := by
    have := K0.grown (row := none) (grown_of_below B0 none) ho1 (fun k hk => by cases hk)
    exact this.grown hg2 (fun k hk => Nat.lt_of_lt_of_le (ho1 k hk) B0.size) (fun k hk => hr.2 k hk)
  have o2 : ∀ k, X k → k < w2.heap.size := fun k hk => Nat.lt_of_lt_of_le (h.old k hk) K1.size
  refine ⟨hc2, ⟨h.gX, fun b hb => by simpa using o2 b hb, ⟨v2, m, hc2.set 0 v2, (hr2.cast (by simp) (by simp)).stay fun j hj => (grown_set w2 g 0 v2).block j (hr2.lt hj) (fun e => rg (by rw [hj, e])), hm2.keep (grown_set w2 g 0 v2) (fun e => gm (by injection e with e; exact e.symm)), hx⟩, ?_, ?_, ?_⟩, K1.grown (grown_set w2 g 0 v2) o2 (fun k hk => by cases hk; exact h.gX)⟩
  · rw [List.nodup_append]
    exact ⟨h.nd, by simp, fun a ha b hb => by
      simp at hb
      subst hb
      exact fun e => t2 (e ▸ ha)⟩
  · have := h.h64
    simp
    omega
  · intro t ht
    rcases List.mem_append.1 ht with ht | ht
    · exact h.sz t ht
    · rw [List.mem_singleton.1 ht]; exact hs
theorem RwAt.drew {w : World} {X : Nat → Prop} {g : Nat} {ns : List ByteArray} (h : RwAt w X g ns) : RwAt w.drew X g ns := h.stay (Quiet.below (⟨1, rfl⟩ : Quiet w w.drew) _)
/-- 'm[name] = number' alone. -/
theorem wp_num {Q : Exit → Act → World → Prop} {o : Oper} {a : Act} {K : Act → World → Prop} (w : World) (m x v : Operand) (hop : o.op = Op.mapUpdate 61 m x v) {b : Nat} {l : List ByteArray} (hm : a.eval m = .map (some b)) (h : NumAt w b l) (hn : l.length ≤ 64) {s : ByteArray} (hx : a.eval x = .string s) (hs : s.size ≤ maxLen)
    (hnew : s ∉ l) (hv : a.eval v = .int .i64 (l.length : Int))
    (hK : ∀ w', NumAt w' b (l ++ [s]) → w.grownBy w' (some b) → K (a.put o.dst undef) w') : Oper.wp Try.prog o a w K Q := by
  obtain ⟨N, hN, hR, hl, hat⟩ := h
  obtain ⟨w', hrun, r1, r2⟩ := World.ownsMap.update hN strLaw underlyingSI (by unfold maxLen; omega) (keyStr hs) (val := .int .i64 (l.length : Int)) (R := intElem) rfl
  unfold Oper.wp
  simp [execOp, hop, hm, hx, hv, hrun, Result.andThen]
  refine hK _ ?_ r2
  rw [toD_put] at r1
  have hle := len_nput_le s.data.toList l.length N
  refine ⟨nput s.data.toList l.length N, ?_, hR.put _ _, by simp; omega, fun t => ?_⟩
  · obtain ⟨es, clock, hb, F, hs', hD⟩ := r1
    refine ⟨es, clock, hb, F, ?_, hD⟩
    have := congrArg Maps.size hD
    rw [toD_size] at this
    rw [this]
    simp [Maps.size, length_sorted]
  · rw [opos_app hnew]
    by_cases e : t = s
    · subst e
      rw [if_pos rfl]
      exact nat?_put_same hR
    · rw [if_neg e, nat?_put_other hR (fun h => e (bytes_inj h))]
      exact hat t
set_option maxRecDepth 100000 in
set_option maxHeartbeats 1600000 in
theorem rwadd_any : RAdd := by
  intro w X g ns s h hs0
  have hs : s.size ≤ maxLen := by unfold maxLen; omega
  unfold RAddTo
  have HI := Lib.hid (ident_any s)
  have HFI := Lib.hid (rwfind_any h s hs)
  have hns := h.h64
  cases hid : idB s with
  | false =>
    have hb : tbad ns s = 1 := by unfold tbad; rw [hid]; rfl
    rw [hb]
    have HB := Lib.hid h.old
    rw [hid] at HI
    clear hid hb h
    go_enter Try.func46, Try.ntmps46
    go_wp2_with (first
      | (go_at_call 49; (with_reducible refine HFI.out.mono ?_); rintro e w2 ⟨rfl, rfl⟩)
      | (go_at_call 50; (with_reducible refine (HI.out _).mono ?_); rintro e w2 ⟨rfl, b2⟩; have HB2 := Lib.hid b2; clear b2)
      | go_in)
    go_ret
    exact ⟨rfl, fun e => absurd e (by decide), (Keeps.refl X _).grown (row := none) (grown_of_below HB2.out none) HB.out (fun k hk => by cases hk)⟩
  | true =>
    cases hp : opos ns s with
    | some i =>
      have hb : tbad ns s = 7 := by unfold tbad; rw [hid, hp]; rfl
      rw [hb]
      have HB := Lib.hid h.old
      rw [hid] at HI
      rw [hp] at HFI
      clear hid hb h hp
      go_enter Try.func46, Try.ntmps46
      go_wp2_with (first
        | (go_at_call 49; (with_reducible refine HFI.out.mono ?_); rintro e w2 ⟨rfl, rfl⟩)
        | (go_at_call 50; (with_reducible refine (HI.out _).mono ?_); rintro e w2 ⟨rfl, b2⟩; have HB2 := Lib.hid b2; clear b2)
        | go_in)
      go_ret
      exact ⟨rfl, fun e => absurd e (by decide), (Keeps.refl X _).grown (row := none) (grown_of_below HB2.out none) HB.out (fun k hk => by cases hk)⟩
    | none =>
      by_cases h64 : ns.length = 64
      · have hb : tbad ns s = 8 := by unfold tbad; rw [hid, hp, if_pos rfl, if_neg (by simp), if_pos h64]
        rw [hb]
        have HB := Lib.hid h.old
        have HL := Lib.hid (fun (w1 : World) (b : Below w.heap.size w w1) => rwlen_any (h.stay b))
        rw [h64] at HL
        rw [hid] at HI
        rw [hp] at HFI
        clear hid hb h hp h64
        go_enter Try.func46, Try.ntmps46
        go_wp2_with (first
          | (go_at_call 49; (with_reducible refine HFI.out.mono ?_); rintro e w2 ⟨rfl, rfl⟩)
          | (go_at_call 50; (with_reducible refine (HI.out _).mono ?_); rintro e w2 ⟨rfl, b2⟩; have HB2 := Lib.hid b2; have HLi := Lib.hid (HL.out _ b2); clear b2)
          | (go_at_call 25; (with_reducible refine HLi.out.mono ?_); rintro e w2 ⟨rfl, rfl⟩)
          | go_in)
        go_ret
        exact ⟨rfl, fun e => absurd e (by decide), (Keeps.refl X _).grown (row := none) (grown_of_below HB2.out none) HB.out (fun k hk => by cases hk)⟩
      · have hb : tbad ns s = 0 := by unfold tbad; rw [hid, hp, if_pos rfl, if_neg (by simp), if_neg h64]
        have hin : s ∉ ns := (tbad_zero.1 hb).2.1
        rw [hb]
        have hf : ((ns.length : Int) == 64) = false := by simp; omega
        have HO := Lib.hid h
        have HL := Lib.hid (fun (w1 : World) (b : Below w.heap.size w w1) => rwlen_any (h.stay b))
        have HS := Lib.hid (fun (w1 : World) (b : Below w.heap.size w w1) => (h.stay b).drew)
        rw [hid] at HI
        rw [hp] at HFI
        have HTB := Lib.hid hb
        have HOLD := Lib.hid h.old
        clear hid hb h hp h64
        go_enter Try.func46, Try.ntmps46
        go_wp2_with (first
          | (go_at_call 49; (with_reducible refine HFI.out.mono ?_); rintro e w2 ⟨rfl, rfl⟩)
          | (go_at_call 50; (with_reducible refine (HI.out _).mono ?_); rintro e w2 ⟨rfl, b2⟩; have HB2 := Lib.hid b2; have HLi := Lib.hid (HL.out _ b2); have hd := HS.out _ b2; clear b2)
          | (go_at_call 25; (with_reducible refine HLi.out.mono ?_); rintro e w2 ⟨rfl, rfl⟩)
          | go_in)
        obtain ⟨wd, hwd⟩ : ∃ wd, wd = w2.drew := ⟨_, rfl⟩
        rw [← hwd] at hd
        have HLd := Lib.hid (rwlen_any hd)
        obtain ⟨v, m, hc, hr, hm, hx⟩ := hd.lay
        have HP := Lib.hid (fun (w3 : World) (hg : wd.grownBy w3 (some m)) (hN : NumAt w3 m (ns ++ [s])) => add_push hd hc hr hm hx HTB.out hs hg hN)
        have HKd : Hid (Keeps X w wd) := Lib.hid (by
          rw [hwd]
          exact ((Keeps.refl X w).grown (row := none) (grown_of_below HB2.out none) HOLD.out (fun k hk => by cases hk)).quiet ⟨1, rfl⟩)
        obtain ⟨A, c, rfl, _⟩ := hr.form
        obtain ⟨SS, hSd⟩ : ∃ SS : World → Prop, SS = fun W => W = wd := ⟨_, rfl⟩
        have hSF : ∀ W, SS W → W = wd := by rw [hSd]; exact fun W h => h
        have hS0 : SS wd := by rw [hSd]
        have q1 : ∀ z : SW SS, z.w.cell? ⟨g, 1, none⟩ = some (.map (some m)) := fun z => by rw [hSF _ z.h]; exact hc.cell 1
        clear hSd hSF hc hr hd HLi HL HS
        refine regionH_start (by kernel_rfl) 8 rfl SS 7 ?_
        rw [← hwd]
        clear hwd
        refine wpL_next 0 6 2 (by kernel_rfl) (fun _ _ d _ _ h => by cases d <;> exact h) hS0 (fun hne => ?_)
        simp only [List.drop_succ_cons, List.drop_zero, List.take_succ_cons, List.take_zero]
        repeat (go_big_quiet_step (fail))
        refine wpQuiet_nil ?_
        refine wpL_one (i := 6) (fuel := 1) (by kernel_rfl) rfl (fun KK hKK => ?_)
        go_simp
        refine HLd.out.mono ?_
        rintro e w3 ⟨rfl, rfl⟩
        refine hKK _ _ hS0 ?_
        clear hKK KK
        refine wpL_last (fuel := 0) (by kernel_rfl) (by kernel_rfl) rfl (fun KK hKK => ?_)
        rw [if_pos (by kernel_rfl)]
        refine wp_num wd _ _ _ rfl rfl hm hns rfl hs hin rfl ?_
        intro w3 hN3 hg3
        obtain ⟨B1, R1, O1, P1⟩ := HP.out w3 hg3 hN3
        have k0 : w3.cell? ⟨g, 0, none⟩ = some (.slice A ns.length c) := B1.cell 0
        have P1 := Lib.hid P1
        refine hKK _ _ ?_
        clear hKK KK HP q1 hS0 hN3 hg3 hm hx
        go_wp2_with (first
          | (at_builtin; refine wpList_rowpush rfl (.tmp 34) (.tmp 36) 56 rfl rowS w3 X _ _ _ _ rfl R1 rfl rfl O1 (by omega) (by omega) ?_; intro v2 w4 hrow2 hg2 hl2; obtain ⟨A2, cc2, rfl, _, _⟩ := hrow2.form; obtain ⟨B2, RA, K4⟩ := P1.out _ w4 hrow2 hg2; have k0 : w4.cell? ⟨g, 0, none⟩ = some (.slice A ns.length c) := B2.cell 0; have f0 := B2.nf 0; have RA := Lib.hid RA; have K4 := Lib.hid K4; clear hg2 hl2 B2)
          | go_in)
        go_ret
        exact ⟨rfl, fun _ => RA.out, HKd.out.trans K4.out⟩
theorem rw_ok : RwAll := rw_all rwadd_any
end Go.Proofs.Ythdfoahnkkkbmaa
