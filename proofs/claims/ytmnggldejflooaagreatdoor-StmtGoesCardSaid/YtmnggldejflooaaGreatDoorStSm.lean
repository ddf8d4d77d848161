import Derived.Test.YtmnggldejflooaaGreatDoorSq
import Derived.Test.YtmnggldejflooaaGreatDoorStR
import Derived.Test.YtmnggldejflooaaGreatDoorMEi
namespace Go.Proofs.YtmnggldejflooaaGreatDoor
set_option linter.unusedVariables false
set_option linter.unusedSimpArgs false
open Go.RowKit
def St.wfs : St → Prop
 | .mk k a nm ty an e l r => e.wfx ∧ l.length ≤ 1000000 ∧ r.length ≤ 1000000 ∧ (∀ x (h : x ∈ l), x.wfs) ∧ (∀ x (h : x ∈ r), x.wfs)
termination_by s => SizeOf.sizeOf s
decreasing_by
 ·exact St.lt_l h
 ·exact St.lt_r h
theorem St.wfs_eq (s : St) : s.wfs ↔ s.e.wfx ∧ s.l.length ≤ 1000000 ∧ s.r.length ≤ 1000000 ∧ (∀ x ∈ s.l, x.wfs) ∧ (∀ x ∈ s.r, x.wfs) := by
 cases s
 rw [St.wfs]
 rfl
def SamS (l : List St) : Prop := ∀ (lv kv : Value) (w : World) (S K : Nat → Prop), ShS w S lv l → ShS w K kv l →
  CP 21 #[lv, kv] w fun r w' => r = .returned (.bool true) ∧ Below w.heap.size w w'
section
variable {P : Program} {md : Region.Mode} {ops : Array Oper} {Q : Exit → Act → World → Prop} {S : World → Prop} {m : Nat}
theorem wpM_two {L : List Oper} {i j : Nat} {o o' : Oper} {fuel : Nat} {ls : Array Bool} {a : Act} {w : World} (hr : Region.ready md L.toArray ls = [i, j]) (hi : i < m) (hj : j < m) (ho : L[i]? = some o) (ho' : L[j]? = some o')
  (h : ∀ K : Act → World → Prop, (∀ a w, S w → wpM P md L.toArray Q S m fuel (ls.setIfInBounds i true) a w → K a w) → if Region.wanted o (yielded L.toArray a.tmps) = true then Oper.wp P o a w K Q else K (a.put o.dst undef) w)
  (h' : ∀ K : Act → World → Prop, (∀ a w, S w → wpM P md L.toArray Q S m fuel (ls.setIfInBounds j true) a w → K a w) → if Region.wanted o' (yielded L.toArray a.tmps) = true then Oper.wp P o' a w K Q else K (a.put o'.dst undef) w) :
  wpM P md L.toArray Q S m (fuel + 1) ls a w := fun hd => by
 have hm : i ∈ Region.ready md L.toArray ls := by rw [hr]; exact List.mem_cons_self
 have hm' : j ∈ Region.ready md L.toArray ls := by rw [hr]; exact List.mem_cons_of_mem _ (List.mem_singleton.2 rfl)
 refine ⟨fun h0 => absurd hm (by rw [h0]; exact List.not_mem_nil), fun q hq => ?_⟩
 rw [hr] at hq
 rcases List.mem_cons.1 hq with rfl | hq
 ·exact wpOp_step (by simpa using ho) fun K hK => h K fun a' w' hS hW => hK a' w' ⟨fun _ => ⟨hS, hW (hd.set hm)⟩, fun h => by omega⟩
 ·obtain rfl := List.mem_singleton.1 hq
  exact wpOp_step (by simpa using ho') fun K hK => h' K fun a' w' hS hW => hK a' w' ⟨fun _ => ⟨hS, hW (hd.set hm')⟩, fun h => by omega⟩
end
theorem wpList_ldW {P : Program} {ops : Array Oper} {rest : List Oper} {o : Oper} {a : Act} {Q : Exit → Act → World → Prop} {w : World} (hgd : Region.wanted o (yielded ops a.tmps) = true) (T : TypeId) (x : Operand) (ho : o.op = .load T x) (G off : Nat) (hx : a.eval x = .pointer (some ⟨G, off, none⟩)) (cs : List Value) {d : TypeDesc} (hs : w.rangeAt G off cs) (hu : P.underlying T = some d) (hd : d.isRow = true)
  (hT : (P.info? T).map (·.size) = some cs.length) (h : wpList P ops Q rest (a.put o.dst (.agg cs.toArray)) w) : wpList P ops Q (o :: rest) a w :=
 wpList_wanted hgd fun _ hK => wp_load_mid T x ho G off hx cs d hs hu hd hT (hK _ _ h)
theorem Var.all {w : World} {G : Nat} {cs us : List Value} (h : Var w G cs) (hl : us.length = cs.length) : Var (w.setCells G 0 us) G us := by
 have := h.sets 0 us (by omega)
 have e : spl cs 0 us = us := by
  unfold spl
  rw [List.take_zero, List.nil_append, Nat.zero_add, hl, List.drop_length, List.append_nil]
 rwa [e] at this
theorem rg_mid {w : World} {G : Nat} {a b c : List Value} (h : w.rangeAt G 0 (a ++ b ++ c)) {k : Nat} (hk : k = a.length) : w.rangeAt G k b := fun j v hv => by
 have := h (k + j) v (by
  rw [List.append_assoc, List.getElem?_append_right (by omega), hk, Nat.add_sub_cancel_left, List.getElem?_append_left (List.getElem?_eq_some_iff.1 hv).1]
  exact hv)
 rwa [Nat.zero_add] at this
set_option maxRecDepth 100000 in
set_option maxHeartbeats 1000000 in
theorem samS_any (l : List St) (hl : l.length ≤ 1000000) (IHl : ∀ x ∈ l, SamS x.l ∧ SamS x.r ∧ x.e.wfx) : SamS l := by
 intro lv kv w S K h k
 have hz := zeroSt
 have IH := Lh IHl
 obtain ⟨A, c, rfl, _⟩ := h.len
 obtain ⟨A', c', rfl, _⟩ := k.len
 obtain ⟨n, hn⟩ : ∃ n, l.length = n := ⟨_, rfl⟩
 rw [hn] at h k hl ⊢
 have HX := Lh h
 have HK := Lh k
 clear h k hn IHl
 go_enter Tryz.func21, Tryz.ntmps21
 go_wp2
 go_loopw [5] (fun iv wr => ∃ i : Nat, iv = .int .i64 (i : Int) ∧ i ≤ n ∧ Below w.heap.size w wr) (fun iv _ => n - (intOf iv).toNat)
 case atStart => exact ⟨0, rfl, Nat.zero_le _, Below.refl _ _⟩
 case round =>
  obtain ⟨i, rfl, hi, hb⟩ := hrel
  have HB := Lh hb
  clear hb
  by_cases hin : i < n
  ·obtain ⟨b, off, x, tv, hA, hxi, _, hrg, htr, _, hbl⟩ := (HX.out.under HB.out).at hin
   obtain ⟨b', off', x', tw, hA', hxi', _, hrg', htr', _, hbl'⟩ := (HK.out.under HB.out).at hin
   obtain rfl : x = x' := by rw [hxi] at hxi'; exact Option.some.inj hxi'
   subst hA; subst hA'
   obtain ⟨IHA, IHB, hwf⟩ := IH.out x (List.mem_of_getElem? hxi)
   have HIA : Hid (∀ (lv kv : Value) (w : World) (S K : Nat → Prop), ShS w S lv x.l → ShS w K kv x.l → CP 21 #[lv, kv] w fun r w' => r = .returned (.bool true) ∧ Below w.heap.size w w') := Lh IHA
   have HIB : Hid (∀ (lv kv : Value) (w : World) (S K : Nat → Prop), ShS w S lv x.r → ShS w K kv x.r → CP 21 #[lv, kv] w fun r w' => r = .returned (.bool true) ∧ Below w.heap.size w w') := Lh IHB
   have HSX : Hid (∀ (lv kv : Value) (w : World) (S K : Nat → Prop), Shx w S lv x.e.l → Shx w K kv x.e.l → CP 54 #[.agg (exC x.e lv).toArray, .agg (exC x.e kv).toArray] w fun r w' => r = .returned (.bool true) ∧ Below w.heap.size w w') := Lh (sameX_any x.e hwf)
   have HTR := Lh htr
   have HTR' := Lh htr'
   have h1 := htr.one
   have h1' := htr'.one
   obtain ⟨ve, vl, vr⟩ := tv
   obtain ⟨ve', vl', vr'⟩ := tw
   obtain ⟨Ae, ce, rfl, _⟩ := htr.e.len
   obtain ⟨Al, cl, rfl, _⟩ := htr.l.len
   obtain ⟨Ar, cr, rfl, _⟩ := htr.r.len
   obtain ⟨Ae', ce', rfl, _⟩ := htr'.e.len
   obtain ⟨Al', cl', rfl, _⟩ := htr'.l.len
   obtain ⟨Ar', cr', rfl, _⟩ := htr'.r.len
   have HRG : Hid (∀ W, Below wr.heap.size wr W → W.rangeAt b (off + i * 17) (stC x ⟨.slice Ae x.e.l.length ce, .slice Al x.l.length cl, .slice Ar x.r.length cr⟩) ∧ W.rangeAt b' (off' + i * 17) (stC x ⟨.slice Ae' x.e.l.length ce', .slice Al' x.l.length cl', .slice Ar' x.r.length cr'⟩)) := Lh fun W hW =>
    ⟨fun j v hv => (World.cell?_of_block (a := ⟨b, _, none⟩) (hW.block b hbl)).trans (hrg j v hv), fun j v hv => (World.cell?_of_block (a := ⟨b', _, none⟩) (hW.block b' hbl')).trans (hrg' j v hv)⟩
   have HBD := Lh (below_drew wr wr.heap.size)
   clear htr htr' IHA IHB hwf hrg hrg'
   go_wp2_with fail
   obtain ⟨SS, hSd⟩ : ∃ SS : World → Prop, SS = fun W => Below wr.heap.size wr W := ⟨_, rfl⟩
   have hSF : ∀ W, SS W → Below wr.heap.size wr W := by rw [hSd]; exact fun W h => h
   have hSB : ∀ W, Below wr.heap.size wr W → SS W := by rw [hSd]; exact fun W h => h
   have hS0 : SS wr.drew := hSB _ HBD.out
   clear hSd
   obtain ⟨Wd, hWd⟩ : ∃ Wd, wr.drew = Wd := ⟨_, rfl⟩
   have hszd : wr.heap.size ≤ Wd.heap.size := by rw [← hWd]; exact Nat.le_refl _
   rw [hWd] at HBD hS0
   obtain ⟨cs1, hcs1⟩ : ∃ cs, cs = stC x ⟨.slice Ae x.e.l.length ce, .slice Al x.l.length cl, .slice Ar x.r.length cr⟩ := ⟨_, rfl⟩
   obtain ⟨cs2, hcs2⟩ : ∃ cs, cs = stC x ⟨.slice Ae' x.e.l.length ce', .slice Al' x.l.length cl', .slice Ar' x.r.length cr'⟩ := ⟨_, rfl⟩
   have hlc1 : cs1.length = 17 := by rw [hcs1]; rfl
   have hlc2 : cs2.length = 17 := by rw [hcs2]; rfl
   rw [← hcs1, ← hcs2] at HRG
   rw [← hcs1] at h1
   rw [← hcs2] at h1'
   obtain ⟨zc, hzc⟩ : ∃ zc : Array Value, zc = #[.int .i64 0, .int .i64 0, .string ⟨#[]⟩, .int .i64 0, .bool false, .bool false, .string ⟨#[]⟩, .int .i64 0, .int .i64 0, .int .i64 0, .int .i64 0, .int .i64 0, .string ⟨#[]⟩, .string ⟨#[]⟩, .slice none 0 0, .slice none 0 0, .slice none 0 0] := ⟨_, rfl⟩
   have hzl : zc.toList.length = 17 := by rw [hzc]; rfl
   rw [← hzc] at hz
   have HC1 := Lh hcs1
   have HC2 := Lh hcs2
   clear hcs1 hcs2 hzc
   refine region_start (by kernel_rfl) 12 rfl ?_
   rw [hWd]
   clear hWd
   refine wpAny_hold SS 11 (by kernel_rfl) ?_
   refine wpM_next 0 3 9 (by kernel_rfl) (fun _ _ d _ _ h => by cases d <;> exact h) hS0 (fun hne => ?_)
   simp only [sD, sE, sF, sG]
   repeat (go_big_quiet_step (fail))
   refine wpQuiet_nil ?_
   refine wpM_take 3 (.agg cs1.toArray) (by kernel_rfl) (fun _ _ d _ _ h => by cases d <;> exact h) rfl hS0 (yieldsIf_load_mid rfl 49 (.tmp 21) rfl b (off + i * 17) rfl _ _ (fun W hW => (HRG.out W (hSF W hW)).1) Tryz.underlying49 rfl (by rw [hlc1]; exact info_st)) ?_
   simp only [Act.put, sA, sB, sC]
   refine wpM_next 4 3 5 (by kernel_rfl) (fun _ _ d _ _ h => by cases d <;> exact h) hS0 (fun hne => ?_)
   simp only [sD, sE, sF, sG]
   repeat (go_big_quiet_step (fail))
   refine wpQuiet_nil ?_
   refine wpM_take 7 (.agg cs2.toArray) (by kernel_rfl) (fun _ _ d _ _ h => by cases d <;> exact h) rfl hS0 (yieldsIf_load_mid rfl 49 (.tmp 25) rfl b' (off' + i * 17) rfl _ _ (fun W hW => (HRG.out W (hSF W hW)).2) Tryz.underlying49 rfl (by rw [hlc2]; exact info_st)) ?_
   simp only [Act.put, sA, sB, sC]
   refine wpM_two (i := 8) (j := 9) (fuel := 3) (by kernel_rfl) (by omega) (by omega) rfl rfl (fun KK hKK => ?_) (fun KK hKK => ?_)
   ·go_simp
    have hvA := Var.new Wd zc.toList 49 (c := zc) (by simp)
    have hbA := HBD.out.alloc hszd (.cells zc 49)
    have hzA : (Wd.alloc (.cells zc 49)).heap.size = Wd.heap.size + 1 := by simp
    obtain ⟨W1, hW1⟩ : ∃ W1, Wd.alloc (.cells zc 49) = W1 := ⟨_, rfl⟩
    rw [hW1] at hvA hbA hzA ⊢
    clear hW1
    have HZA := Lh hzA
    clear hzA
    refine hKK _ _ (hSB _ hbA) ?_
    clear hKK KK
    refine wpM_one (i := 9) (fuel := 2) (by kernel_rfl) (by omega) rfl (fun KK hKK => ?_)
    go_simp
    have hvB := Var.new W1 zc.toList 49 (c := zc) (by simp)
    have hvA' := hvA.under (bRf.alloc nLe (.cells zc 49))
    have hbB := hbA.alloc (by have := HZA.out; omega) (.cells zc 49)
    obtain ⟨W2, hW2⟩ : ∃ W2, W1.alloc (.cells zc 49) = W2 := ⟨_, rfl⟩
    rw [hW2] at hvB hvA' hbB ⊢
    clear hW2
    refine hKK _ _ (hSB _ hbB) ?_
    clear hKK KK
    obtain ⟨G6, hGA⟩ : ∃ G, Wd.heap.size = G := ⟨_, rfl⟩
    obtain ⟨G7, hGB⟩ : ∃ G, W1.heap.size = G := ⟨_, rfl⟩
    have hne : G6 ≠ G7 := by have := HZA.out; omega
    have hg6 : wr.heap.size ≤ G6 := by have := HZA.out; omega
    have hg7 : wr.heap.size ≤ G7 := by have := HZA.out; omega
    have hv6 : Hid (Var W2 G6 zc.toList) := Lh (by first | (rw [← hGA]; exact hvA') | (rw [← hGB]; exact hvB))
    have hv7 : Hid (Var W2 G7 zc.toList) := Lh (by first | (rw [← hGA]; exact hvA') | (rw [← hGB]; exact hvB))
    rw [hGA, hGB]
    clear hGA hGB HZA hvA hvB hvA' hbA
    refine wpM_one (i := 10) (fuel := 1) (by kernel_rfl) (by omega) rfl (fun KK hKK => ?_)
    refine step_stm rfl 49 (.tmp 6) (.tmp 22) rfl G6 0 cs1 rfl rfl (by rw [hlc1]; exact hv6.out.there (by omega)) (by rw [hlc1]; exact info_st) h1 ?_
    have hv6b := hv6.out.all (us := cs1) (by omega)
    have ht6 := Tn.sets (M := fun k => k = G6) G6 cs1 rfl 0 W2
    have hv7b := hv7.out.turn ht6 (fun e => hne e.symm)
    have hb8 := hbB.trans (ht6.below hbB.size (fun k hk e => by omega))
    obtain ⟨W3, hW3⟩ : ∃ W3, W2.setCells G6 0 cs1 = W3 := ⟨_, rfl⟩
    rw [hW3] at hv6b ht6 hv7b hb8 ⊢
    clear hW3
    refine hKK _ _ (hSB _ hb8) ?_
    clear hKK KK
    refine wpM_late (i := 11) (fuel := 0) (by kernel_rfl) (by omega) rfl (fun KK hKK => ?_)
    refine step_stm rfl 49 (.tmp 7) (.tmp 26) rfl G7 0 cs2 rfl rfl (by rw [hlc2]; exact hv7b.there (by omega)) (by rw [hlc2]; exact info_st) h1' ?_
    have hv7c := hv7b.all (us := cs2) (by omega)
    have ht7 := Tn.sets (M := fun k => k = G7) G7 cs2 rfl 0 W3
    have HV6 := Lh (hv6b.turn ht7 hne)
    have HV7 := Lh hv7c
    have HBW := Lh (hb8.trans (ht7.below hb8.size (fun k hk e => by omega)))
    obtain ⟨W4, hW4⟩ : ∃ W4, W3.setCells G7 0 cs2 = W4 := ⟨_, rfl⟩
    rw [hW4] at HV6 HV7 HBW ⊢
    clear hW4 hv7c ht7 hv6b ht6 hv7b hb8 hv7 hv6 hbB hS0 hSB hSF
    refine hKK _ _ ?_
    clear hKK KK
    simp only [Act.put, sA, sB, sC]
    refine wpAny_done (by kernel_rfl) ?_ _
    rw [HC1.out] at HV6
    rw [HC2.out] at HV7
    have hr6 := HV6.out.rg
    have hr7 := HV7.out.rg
    have p0 : W4.cell? ⟨G6, 0, none⟩ = some (.int .i64 x.k) := HV6.out.at 0 rfl
    have p1 : W4.cell? ⟨G6, 1, none⟩ = some (.int .i64 x.a) := HV6.out.at 1 rfl
    have p2 : W4.cell? ⟨G6, 2, none⟩ = some (.string x.nm) := HV6.out.at 2 rfl
    have p3 : W4.cell? ⟨G6, 3, none⟩ = some (.int .i64 x.ty) := HV6.out.at 3 rfl
    have q0 : W4.cell? ⟨G7, 0, none⟩ = some (.int .i64 x.k) := HV7.out.at 0 rfl
    have q1 : W4.cell? ⟨G7, 1, none⟩ = some (.int .i64 x.a) := HV7.out.at 1 rfl
    have q2 : W4.cell? ⟨G7, 2, none⟩ = some (.string x.nm) := HV7.out.at 2 rfl
    have q3 : W4.cell? ⟨G7, 3, none⟩ = some (.int .i64 x.ty) := HV7.out.at 3 rfl
    have HA6 := Lh (rg_mid (a := [.int .i64 x.k, .int .i64 x.a, .string x.nm, .int .i64 x.ty]) (b := anC x.an) (c := exC x.e (.slice Ae x.e.l.length ce) ++ [.slice Al x.l.length cl, .slice Ar x.r.length cr]) (k := 4) hr6 rfl)
    have HA7 := Lh (rg_mid (a := [.int .i64 x.k, .int .i64 x.a, .string x.nm, .int .i64 x.ty]) (b := anC x.an) (c := exC x.e (.slice Ae' x.e.l.length ce') ++ [.slice Al' x.l.length cl', .slice Ar' x.r.length cr']) (k := 4) hr7 rfl)
    have HE6 := Lh (rg_mid (a := [.int .i64 x.k, .int .i64 x.a, .string x.nm, .int .i64 x.ty] ++ anC x.an) (b := exC x.e (.slice Ae x.e.l.length ce)) (c := [.slice Al x.l.length cl, .slice Ar x.r.length cr]) (k := 9) hr6 rfl)
    have HE7 := Lh (rg_mid (a := [.int .i64 x.k, .int .i64 x.a, .string x.nm, .int .i64 x.ty] ++ anC x.an) (b := exC x.e (.slice Ae' x.e.l.length ce')) (c := [.slice Al' x.l.length cl', .slice Ar' x.r.length cr']) (k := 9) hr7 rfl)
    have enm : (x.nm.toList == x.nm.toList) = true := by simp
    have elb : (x.an.lb.toList == x.an.lb.toList) = true := by simp
    clear hr6 hr7
    go_wp2_with (first
     | (refine wpList_ldW rfl 38 (.tmp 54) rfl G6 4 rfl (anC x.an) HA6.out Tryz.underlying38 rfl info_an ?_)
     | (refine wpList_ldW rfl 38 (.tmp 56) rfl G7 4 rfl (anC x.an) HA7.out Tryz.underlying38 rfl info_an ?_; simp only [anC])
     | (refine wpList_ldW rfl 46 (.tmp 61) rfl G6 9 rfl (exC x.e (.slice Ae x.e.l.length ce)) HE6.out Tryz.underlying46 rfl (by kernel_rfl) ?_)
     | (refine wpList_ldW rfl 46 (.tmp 63) rfl G7 9 rfl (exC x.e (.slice Ae' x.e.l.length ce')) HE7.out Tryz.underlying46 rfl (by kernel_rfl) ?_)
     | (go_at_call 54; (with_reducible refine (HSX.out _ _ _ _ _ (HTR.out.e.keep (S' := fun _ => True) (fun b _ hb => ⟨trivial, Nat.lt_of_lt_of_le hb HBW.out.size, HBW.out.block b hb⟩)) (HTR'.out.e.keep (S' := fun _ => True) (fun b _ hb => ⟨trivial, Nat.lt_of_lt_of_le hb HBW.out.size, HBW.out.block b hb⟩))).mono ?_); rintro e W5 ⟨rfl, b5⟩; have HV6 := Lh (HV6.out.under b5); have HV7 := Lh (HV7.out.under b5); have HBW := Lh (bTr HBW b5); clear b5; have p15 : W5.cell? ⟨G6, 15, none⟩ = some (.slice Al x.l.length cl) := HV6.out.at 15 rfl; have q15 : W5.cell? ⟨G7, 15, none⟩ = some (.slice Al' x.l.length cl') := HV7.out.at 15 rfl; refine Hid.out ?_)
     | fail)
    refine Lh ?_
    go_wp2_with (first
     | (go_at_call 21; (with_reducible refine (HIA.out _ _ _ _ _ (HTR.out.l.keep (S' := fun _ => True) (fun b _ hb => ⟨trivial, Nat.lt_of_lt_of_le hb HBW.out.size, HBW.out.block b hb⟩)) (HTR'.out.l.keep (S' := fun _ => True) (fun b _ hb => ⟨trivial, Nat.lt_of_lt_of_le hb HBW.out.size, HBW.out.block b hb⟩))).mono ?_); rintro e W6 ⟨rfl, b6⟩; have HV6 := Lh (HV6.out.under b6); have HV7 := Lh (HV7.out.under b6); have HBW := Lh (bTr HBW b6); clear b6; have p16 : W6.cell? ⟨G6, 16, none⟩ = some (.slice Ar x.r.length cr) := HV6.out.at 16 rfl; have q16 : W6.cell? ⟨G7, 16, none⟩ = some (.slice Ar' x.r.length cr') := HV7.out.at 16 rfl; refine Hid.out ?_)
     | fail)
    refine Lh ?_
    go_wp2_with (first
     | (go_at_call 21; (with_reducible refine (HIB.out _ _ _ _ _ (HTR.out.r.keep (S' := fun _ => True) (fun b _ hb => ⟨trivial, Nat.lt_of_lt_of_le hb HBW.out.size, HBW.out.block b hb⟩)) (HTR'.out.r.keep (S' := fun _ => True) (fun b _ hb => ⟨trivial, Nat.lt_of_lt_of_le hb HBW.out.size, HBW.out.block b hb⟩))).mono ?_); rintro e W7 ⟨rfl, b7⟩; have HBW := Lh (bTr HBW b7); clear b7)
     | fail)
    go_roundw
    case rel => exact ⟨i + 1, by go_num, hin, HB.out.trans (HBW.out.mono HB.out.size)⟩
    case measure => simp [intOf]; omega
   ·go_simp
    have hvA := Var.new Wd zc.toList 49 (c := zc) (by simp)
    have hbA := HBD.out.alloc hszd (.cells zc 49)
    have hzA : (Wd.alloc (.cells zc 49)).heap.size = Wd.heap.size + 1 := by simp
    obtain ⟨W1, hW1⟩ : ∃ W1, Wd.alloc (.cells zc 49) = W1 := ⟨_, rfl⟩
    rw [hW1] at hvA hbA hzA ⊢
    clear hW1
    have HZA := Lh hzA
    clear hzA
    refine hKK _ _ (hSB _ hbA) ?_
    clear hKK KK
    refine wpM_one (i := 8) (fuel := 2) (by kernel_rfl) (by omega) rfl (fun KK hKK => ?_)
    go_simp
    have hvB := Var.new W1 zc.toList 49 (c := zc) (by simp)
    have hvA' := hvA.under (bRf.alloc nLe (.cells zc 49))
    have hbB := hbA.alloc (by have := HZA.out; omega) (.cells zc 49)
    obtain ⟨W2, hW2⟩ : ∃ W2, W1.alloc (.cells zc 49) = W2 := ⟨_, rfl⟩
    rw [hW2] at hvB hvA' hbB ⊢
    clear hW2
    refine hKK _ _ (hSB _ hbB) ?_
    clear hKK KK
    obtain ⟨G7, hGA⟩ : ∃ G, Wd.heap.size = G := ⟨_, rfl⟩
    obtain ⟨G6, hGB⟩ : ∃ G, W1.heap.size = G := ⟨_, rfl⟩
    have hne : G6 ≠ G7 := by have := HZA.out; omega
    have hg6 : wr.heap.size ≤ G6 := by have := HZA.out; omega
    have hg7 : wr.heap.size ≤ G7 := by have := HZA.out; omega
    have hv6 : Hid (Var W2 G6 zc.toList) := Lh (by first | (rw [← hGA]; exact hvA') | (rw [← hGB]; exact hvB))
    have hv7 : Hid (Var W2 G7 zc.toList) := Lh (by first | (rw [← hGA]; exact hvA') | (rw [← hGB]; exact hvB))
    rw [hGA, hGB]
    clear hGA hGB HZA hvA hvB hvA' hbA
    refine wpM_one (i := 10) (fuel := 1) (by kernel_rfl) (by omega) rfl (fun KK hKK => ?_)
    refine step_stm rfl 49 (.tmp 6) (.tmp 22) rfl G6 0 cs1 rfl rfl (by rw [hlc1]; exact hv6.out.there (by omega)) (by rw [hlc1]; exact info_st) h1 ?_
    have hv6b := hv6.out.all (us := cs1) (by omega)
    have ht6 := Tn.sets (M := fun k => k = G6) G6 cs1 rfl 0 W2
    have hv7b := hv7.out.turn ht6 (fun e => hne e.symm)
    have hb8 := hbB.trans (ht6.below hbB.size (fun k hk e => by omega))
    obtain ⟨W3, hW3⟩ : ∃ W3, W2.setCells G6 0 cs1 = W3 := ⟨_, rfl⟩
    rw [hW3] at hv6b ht6 hv7b hb8 ⊢
    clear hW3
    refine hKK _ _ (hSB _ hb8) ?_
    clear hKK KK
    refine wpM_late (i := 11) (fuel := 0) (by kernel_rfl) (by omega) rfl (fun KK hKK => ?_)
    refine step_stm rfl 49 (.tmp 7) (.tmp 26) rfl G7 0 cs2 rfl rfl (by rw [hlc2]; exact hv7b.there (by omega)) (by rw [hlc2]; exact info_st) h1' ?_
    have hv7c := hv7b.all (us := cs2) (by omega)
    have ht7 := Tn.sets (M := fun k => k = G7) G7 cs2 rfl 0 W3
    have HV6 := Lh (hv6b.turn ht7 hne)
    have HV7 := Lh hv7c
    have HBW := Lh (hb8.trans (ht7.below hb8.size (fun k hk e => by omega)))
    obtain ⟨W4, hW4⟩ : ∃ W4, W3.setCells G7 0 cs2 = W4 := ⟨_, rfl⟩
    rw [hW4] at HV6 HV7 HBW ⊢
    clear hW4 hv7c ht7 hv6b ht6 hv7b hb8 hv7 hv6 hbB hS0 hSB hSF
    refine hKK _ _ ?_
    clear hKK KK
    simp only [Act.put, sA, sB, sC]
    refine wpAny_done (by kernel_rfl) ?_ _
    rw [HC1.out] at HV6
    rw [HC2.out] at HV7
    have hr6 := HV6.out.rg
    have hr7 := HV7.out.rg
    have p0 : W4.cell? ⟨G6, 0, none⟩ = some (.int .i64 x.k) := HV6.out.at 0 rfl
    have p1 : W4.cell? ⟨G6, 1, none⟩ = some (.int .i64 x.a) := HV6.out.at 1 rfl
    have p2 : W4.cell? ⟨G6, 2, none⟩ = some (.string x.nm) := HV6.out.at 2 rfl
    have p3 : W4.cell? ⟨G6, 3, none⟩ = some (.int .i64 x.ty) := HV6.out.at 3 rfl
    have q0 : W4.cell? ⟨G7, 0, none⟩ = some (.int .i64 x.k) := HV7.out.at 0 rfl
    have q1 : W4.cell? ⟨G7, 1, none⟩ = some (.int .i64 x.a) := HV7.out.at 1 rfl
    have q2 : W4.cell? ⟨G7, 2, none⟩ = some (.string x.nm) := HV7.out.at 2 rfl
    have q3 : W4.cell? ⟨G7, 3, none⟩ = some (.int .i64 x.ty) := HV7.out.at 3 rfl
    have HA6 := Lh (rg_mid (a := [.int .i64 x.k, .int .i64 x.a, .string x.nm, .int .i64 x.ty]) (b := anC x.an) (c := exC x.e (.slice Ae x.e.l.length ce) ++ [.slice Al x.l.length cl, .slice Ar x.r.length cr]) (k := 4) hr6 rfl)
    have HA7 := Lh (rg_mid (a := [.int .i64 x.k, .int .i64 x.a, .string x.nm, .int .i64 x.ty]) (b := anC x.an) (c := exC x.e (.slice Ae' x.e.l.length ce') ++ [.slice Al' x.l.length cl', .slice Ar' x.r.length cr']) (k := 4) hr7 rfl)
    have HE6 := Lh (rg_mid (a := [.int .i64 x.k, .int .i64 x.a, .string x.nm, .int .i64 x.ty] ++ anC x.an) (b := exC x.e (.slice Ae x.e.l.length ce)) (c := [.slice Al x.l.length cl, .slice Ar x.r.length cr]) (k := 9) hr6 rfl)
    have HE7 := Lh (rg_mid (a := [.int .i64 x.k, .int .i64 x.a, .string x.nm, .int .i64 x.ty] ++ anC x.an) (b := exC x.e (.slice Ae' x.e.l.length ce')) (c := [.slice Al' x.l.length cl', .slice Ar' x.r.length cr']) (k := 9) hr7 rfl)
    have enm : (x.nm.toList == x.nm.toList) = true := by simp
    have elb : (x.an.lb.toList == x.an.lb.toList) = true := by simp
    clear hr6 hr7
    go_wp2_with (first
     | (refine wpList_ldW rfl 38 (.tmp 54) rfl G6 4 rfl (anC x.an) HA6.out Tryz.underlying38 rfl info_an ?_)
     | (refine wpList_ldW rfl 38 (.tmp 56) rfl G7 4 rfl (anC x.an) HA7.out Tryz.underlying38 rfl info_an ?_; simp only [anC])
     | (refine wpList_ldW rfl 46 (.tmp 61) rfl G6 9 rfl (exC x.e (.slice Ae x.e.l.length ce)) HE6.out Tryz.underlying46 rfl (by kernel_rfl) ?_)
     | (refine wpList_ldW rfl 46 (.tmp 63) rfl G7 9 rfl (exC x.e (.slice Ae' x.e.l.length ce')) HE7.out Tryz.underlying46 rfl (by kernel_rfl) ?_)
     | (go_at_call 54; (with_reducible refine (HSX.out _ _ _ _ _ (HTR.out.e.keep (S' := fun _ => True) (fun b _ hb => ⟨trivial, Nat.lt_of_lt_of_le hb HBW.out.size, HBW.out.block b hb⟩)) (HTR'.out.e.keep (S' := fun _ => True) (fun b _ hb => ⟨trivial, Nat.lt_of_lt_of_le hb HBW.out.size, HBW.out.block b hb⟩))).mono ?_); rintro e W5 ⟨rfl, b5⟩; have HV6 := Lh (HV6.out.under b5); have HV7 := Lh (HV7.out.under b5); have HBW := Lh (bTr HBW b5); clear b5; have p15 : W5.cell? ⟨G6, 15, none⟩ = some (.slice Al x.l.length cl) := HV6.out.at 15 rfl; have q15 : W5.cell? ⟨G7, 15, none⟩ = some (.slice Al' x.l.length cl') := HV7.out.at 15 rfl; refine Hid.out ?_)
     | fail)
    refine Lh ?_
    go_wp2_with (first
     | (go_at_call 21; (with_reducible refine (HIA.out _ _ _ _ _ (HTR.out.l.keep (S' := fun _ => True) (fun b _ hb => ⟨trivial, Nat.lt_of_lt_of_le hb HBW.out.size, HBW.out.block b hb⟩)) (HTR'.out.l.keep (S' := fun _ => True) (fun b _ hb => ⟨trivial, Nat.lt_of_lt_of_le hb HBW.out.size, HBW.out.block b hb⟩))).mono ?_); rintro e W6 ⟨rfl, b6⟩; have HV6 := Lh (HV6.out.under b6); have HV7 := Lh (HV7.out.under b6); have HBW := Lh (bTr HBW b6); clear b6; have p16 : W6.cell? ⟨G6, 16, none⟩ = some (.slice Ar x.r.length cr) := HV6.out.at 16 rfl; have q16 : W6.cell? ⟨G7, 16, none⟩ = some (.slice Ar' x.r.length cr') := HV7.out.at 16 rfl; refine Hid.out ?_)
     | fail)
    refine Lh ?_
    go_wp2_with (first
     | (go_at_call 21; (with_reducible refine (HIB.out _ _ _ _ _ (HTR.out.r.keep (S' := fun _ => True) (fun b _ hb => ⟨trivial, Nat.lt_of_lt_of_le hb HBW.out.size, HBW.out.block b hb⟩)) (HTR'.out.r.keep (S' := fun _ => True) (fun b _ hb => ⟨trivial, Nat.lt_of_lt_of_le hb HBW.out.size, HBW.out.block b hb⟩))).mono ?_); rintro e W7 ⟨rfl, b7⟩; have HBW := Lh (bTr HBW b7); clear b7)
     | fail)
    go_roundw
    case rel => exact ⟨i + 1, by go_num, hin, HB.out.trans (HBW.out.mono HB.out.size)⟩
    case measure => simp [intOf]; omega
  ·obtain rfl : i = n := by omega
   go_wp2
   go_ret
   exact ⟨rfl, HB.out⟩
theorem samT_any : ∀ s : St, s.wfs → SamS s.l ∧ SamS s.r := by
 refine St.ind fun k a nm ty an e l r ihl ihr => ?_
 intro h
 obtain ⟨h1, h2, h3, h4, h5⟩ := (St.wfs_eq _).1 h
 exact ⟨samS_any l h2 fun x hx => ⟨(ihl x hx (h4 x hx)).1, (ihl x hx (h4 x hx)).2, ((St.wfs_eq x).1 (h4 x hx)).1⟩, samS_any r h3 fun x hx => ⟨(ihr x hx (h5 x hx)).1, (ihr x hx (h5 x hx)).2, ((St.wfs_eq x).1 (h5 x hx)).1⟩⟩
theorem sameS_any (l : List St) (hl : l.length ≤ 1000000) (h : ∀ x ∈ l, x.wfs) : SamS l := samS_any l hl fun x hx => ⟨(samT_any x (h x hx)).1, (samT_any x (h x hx)).2, ((St.wfs_eq x).1 (h x hx)).1⟩
end Go.Proofs.YtmnggldejflooaaGreatDoor
