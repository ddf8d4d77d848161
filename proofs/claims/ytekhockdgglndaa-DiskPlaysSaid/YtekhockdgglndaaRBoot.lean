/-
  CONTRACT OF the document's Boot.
-/
import Derived.Test.YtekhockdgglndaaRGone
namespace Go.Proofs.Ytekhockdgglndaa
set_option linter.unusedVariables false
set_option linter.unusedSimpArgs false
open Go.RowKit

/-- Names behind turns. -/
def rdos (N : List RE) (l : List RT) : List RE := l.foldl rdo N
theorem rdos_next {N : List RE} {l : List RT} {k : Nat} {t : RT} (h : l[k]? = some t) : rdos N (l.take (k + 1)) = rdo (rdos N (l.take k)) t := by
  obtain ⟨hk, e⟩ := List.getElem?_eq_some_iff.1 h
  rw [List.take_succ_eq_append_getElem hk, e]
  simp [rdos, List.foldl_append]
theorem rdos_len (N : List RE) : ∀ l : List RT, (rdos N l).length ≤ N.length + l.length
  | [] => Nat.le_refl _
  | t :: l => by
    have e : rdos N (t :: l) = rdos (rdo N t) l := rfl
    have h1 := rdos_len (rdo N t) l
    have h2 := rdo_len N t
    rw [e, List.length_cons]
    omega
/-- How many turns are kept. -/
def keptT (turns : Int) (m : Nat) : Nat := min turns.toNat m
/-- How many of a file's unsure bytes are kept, the j-th that has some. -/
def keepOf (nums : List Int) (j : Nat) (f : RFl) : Nat := if j < nums.length ∧ 0 < nums.getD j 0 then min (nums.getD j 0).toNat (f.n - f.sure) else 0
def RFl.cut (f : RFl) (k : Nat) : RFl := ⟨f.A, f.sure + k, f.c, f.data.take (f.sure + k), f.sure + k⟩
def bootFs (nums : List Int) : Nat → List RFl → List RFl
  | _, [] => []
  | j, f :: l => if f.n = f.sure then f :: bootFs nums j l else f.cut (keepOf nums j f) :: bootFs nums (j + 1) l
def cntU (l : List RFl) : Nat := (l.filter fun f => !(f.n == f.sure)).length
theorem cntU_snoc (l : List RFl) (f : RFl) : cntU (l ++ [f]) = cntU l + if f.n = f.sure then 0 else 1 := by
  unfold cntU
  rw [List.filter_append, List.length_append]
  by_cases h : f.n = f.sure <;> simp [h]
theorem bootFs_snoc (nums : List Int) (f : RFl) : ∀ (j : Nat) (l : List RFl), bootFs nums j (l ++ [f]) = bootFs nums j l ++ [if f.n = f.sure then f else f.cut (keepOf nums (j + cntU l) f)]
  | j, [] => by
    by_cases h : f.n = f.sure <;> simp [bootFs, h, cntU]
  | j, g :: l => by
    have e : cntU (g :: l) = (if g.n = g.sure then 0 else 1) + cntU l := by
      unfold cntU
      by_cases h : g.n = g.sure
      · rw [List.filter_cons_of_neg (by simpa using h)]; simp [h]
      · rw [List.filter_cons_of_pos (by simpa using h)]; simp [h]; omega
    have h1 := bootFs_snoc nums f j l
    have h2 := bootFs_snoc nums f (j + 1) l
    rw [List.cons_append, e]
    by_cases h : g.n = g.sure
    · simp only [bootFs, h, if_true, List.cons_append]
      rw [h1]
      simp
    · simp only [bootFs, h, if_false, List.cons_append]
      rw [h2]
      simp [Nat.add_assoc, Nat.add_comm 1]
theorem bootFs_len (nums : List Int) : ∀ (j : Nat) (l : List RFl), (bootFs nums j l).length = l.length
  | _, [] => rfl
  | j, f :: l => by
    simp only [bootFs]
    split <;> simp [bootFs_len nums _ l]
theorem cntU_le (l : List RFl) : cntU l ≤ l.length := List.length_filter_le _ _
/-- The files behind the first k. -/
def RS.booting (R : RS) (nums : List Int) (k : Nat) : RS := { R with files := bootFs nums 0 (R.files.take k) ++ R.files.drop k }
theorem booting_same {R : RS} {nums : List Int} {k : Nat} {f : RFl} (h : R.files[k]? = some f) (he : f.n = f.sure) : R.booting nums (k + 1) = R.booting nums k := by
  obtain ⟨hk, e⟩ := List.getElem?_eq_some_iff.1 h
  unfold RS.booting
  rw [List.take_succ_eq_append_getElem hk, e, bootFs_snoc, if_pos he, List.drop_eq_getElem_cons hk, e]
  simp
theorem booting_cut {R : RS} {nums : List Int} {k : Nat} {f : RFl} (h : R.files[k]? = some f) (he : f.n ≠ f.sure) : R.booting nums (k + 1) = (R.booting nums k).setFile k (f.cut (keepOf nums (cntU (R.files.take k)) f)) := by
  obtain ⟨hk, e⟩ := List.getElem?_eq_some_iff.1 h
  unfold RS.booting RS.setFile
  rw [List.take_succ_eq_append_getElem hk, e, bootFs_snoc, if_neg he, List.drop_eq_getElem_cons hk, e]
  have hl : (bootFs nums 0 (R.files.take k)).length = k := by rw [bootFs_len, List.length_take]; omega
  simp only [List.set_append, hl, Nat.lt_irrefl, if_false, Nat.sub_self, List.set_cons_zero, Nat.zero_add, List.append_assoc, List.cons_append, List.nil_append]
theorem booting_at {R : RS} {nums : List Int} {k : Nat} : (R.booting nums k).files[k]? = R.files[k]? := by
  unfold RS.booting
  rcases Nat.lt_or_ge k R.files.length with h | h
  · have hl : (bootFs nums 0 (R.files.take k)).length = k := by rw [bootFs_len, List.length_take]; omega
    rw [List.getElem?_append_right (by omega), hl, Nat.sub_self, List.getElem?_drop, Nat.add_zero]
  · rw [List.getElem?_eq_none (by rw [List.length_append, bootFs_len, List.length_take, List.length_drop]; omega), List.getElem?_eq_none h]
theorem booting_zero (R : RS) (nums : List Int) : R.booting nums 0 = R := by simp [RS.booting, bootFs]
theorem booting_flen (R : RS) (nums : List Int) (k : Nat) : (R.booting nums k).files.length = R.files.length := by
  simp [RS.booting, bootFs_len]; omega
/-- What Boot answers, and what it leaves. -/
def RS.boot (R : RS) (turns : Int) (nums : List Int) : Int × RS :=
  if R.dead = true then
    (0, { ((R.booting nums R.files.length).goned (rdos R.sure (R.waits.take (keptT turns R.waits.length)))) with dead := false, fuse := 0, fault := 0, waits := [] })
  else (1, R)
theorem wcells_at {l : List RT} {j : Nat} {t : RT} (h : l[j]? = some t) : (wcells l)[j * 3]? = some (.string t.fr) ∧ (wcells l)[j * 3 + 1]? = some (.string t.to) ∧ (wcells l)[j * 3 + 2]? = some (.int .i64 t.file) := by
  induction l generalizing j with
  | nil => simp at h
  | cons p l ih =>
    have e : wcells (p :: l) = .string p.fr :: .string p.to :: .int .i64 p.file :: wcells l := by simp [wcells, RT.cells]
    cases j with
    | zero => cases h; rw [e]; exact ⟨rfl, rfl, rfl⟩
    | succ j =>
      have := ih (j := j) (by simpa using h)
      rw [e, show (j + 1) * 3 = j * 3 + 1 + 1 + 1 by omega]
      simpa using this
theorem RAt.wait {w : World} {X : Nat → Prop} {x : Nat} {V : RL} {R : RS} (h : RAt w X x V R) {j : Nat} {t : RT} (hf : R.waits[j]? = some t) :
    ∃ b off, V.wA = some ⟨b, off, none⟩ ∧ w.cell? ⟨b, off + j * 3, none⟩ = some (.string t.fr) ∧ w.cell? ⟨b, off + j * 3 + 1, none⟩ = some (.string t.to) ∧ w.cell? ⟨b, off + j * 3 + 2, none⟩ = some (.int .i64 t.file) := by
  have hj : j < R.waits.length := (List.getElem?_eq_some_iff.1 hf).1
  obtain ⟨b, off, e, _, hc⟩ := h.wr.sh.2 (by omega)
  obtain ⟨h0, h1, h2⟩ := wcells_at hf
  exact ⟨b, off, e, hc _ _ h0, hc _ _ h1, hc _ _ h2⟩
/-- Names that lie outside the disk. -/
abbrev NR (w : World) (X : Nat → Prop) (x : Nat) (A : Option Addr) (c : Nat) (N : List RE) : Prop := RRow w (out X x) A N.length c 2 (recells N)

theorem RAt.up {w wr W : World} {X : Nat → Prop} {x : Nat} {V : RL} {R : RS} (h : RAt wr (wid X w wr) x V R) (hs : w.heap.size ≤ wr.heap.size) (ho : ∀ b, X b → b < w.heap.size) (b : Below wr.heap.size wr W) : RAt W (wid X w W) x V R := wid_wid (h.wider b) hs b.size ho
theorem RRow.up {w wr W : World} {X : Nat → Prop} {x : Nat} {A : Option Addr} {n c size : Nat} {xs : List Value} (h : RRow wr (out (wid X w wr) x) A n c size xs) (hs : w.heap.size ≤ wr.heap.size) (ho : ∀ b, X b → b < w.heap.size) (b : Below wr.heap.size wr W) : RRow W (out (wid X w W) x) A n c size xs :=
  h.go fun z hz => ⟨b.block z (wid_old ho hs z hz.1), hz.1.elim .inl (fun q => .inr ⟨q.1, Nat.lt_of_lt_of_le q.2 b.size⟩), hz.2⟩
theorem calls_as {P : Program} {F : Nat} {args args' : Array Value} {w : World} {Q Q' : Ending → World → Prop} (h : Calls P F args w Q) (ha : args = args') (hq : ∀ e w', Q e w' → Q' e w') : Calls P F args' w Q' := by
  subst ha
  exact h.mono hq

theorem boot_end {X : Nat → Prop} {x : Nat} {V6 : RL} {R6 : RS} {w w6 : World} (H : RAt w6 (wid X w w6) x V6 R6) (G : w.grownBy w6 (some x)) :
    (∃ V', RAt ((((w6.setCell ⟨x, 5, none⟩ (.bool false)).setCell ⟨x, 7, none⟩ (.int .i64 0)).setCell ⟨x, 8, none⟩ (.int .i64 0)).setCell ⟨x, 3, none⟩ (.slice none 0 0)) (wid X w ((((w6.setCell ⟨x, 5, none⟩ (.bool false)).setCell ⟨x, 7, none⟩ (.int .i64 0)).setCell ⟨x, 8, none⟩ (.int .i64 0)).setCell ⟨x, 3, none⟩ (.slice none 0 0))) x V'
      { R6 with dead := false, fuse := 0, fault := 0, waits := [] }) ∧ w.grownBy ((((w6.setCell ⟨x, 5, none⟩ (.bool false)).setCell ⟨x, 7, none⟩ (.int .i64 0)).setCell ⟨x, 8, none⟩ (.int .i64 0)).setCell ⟨x, 3, none⟩ (.slice none 0 0)) (some x) := by
  have h1 := H.set 5 (.bool false) (R' := { R6 with dead := false }) rfl rfl rfl rfl rfl
  have h2 := h1.set 7 (.int .i64 0) (R' := { R6 with dead := false, fuse := 0 }) rfl rfl rfl rfl rfl
  have h3 := h2.set 8 (.int .i64 0) (R' := { R6 with dead := false, fuse := 0, fault := 0 }) rfl rfl rfl rfl rfl
  have h4 := h3.setWaits (A := none) (c := 0) (l := []) ⟨SX.nil _ _ none 3, Nat.le_refl 0, Nat.zero_le _⟩
  refine ⟨?_, grownx_set (grownx_set (grownx_set (grownx_set G 5 _) 7 _) 8 _) 3 _⟩
  have e : wid X w ((((w6.setCell ⟨x, 5, none⟩ (.bool false)).setCell ⟨x, 7, none⟩ (.int .i64 0)).setCell ⟨x, 8, none⟩ (.int .i64 0)).setCell ⟨x, 3, none⟩ (.slice none 0 0)) = wid X w w6 := by funext b; simp [wid]
  rw [e]
  exact ⟨_, h4⟩

set_option maxRecDepth 10000 in
set_option maxHeartbeats 3200000 in
theorem rboot_any (X : Nat → Prop) (x : Nat) (V : RL) (R : RS) (w : World) (h : RAt w X x V R) (turns : Int) (K : Option Addr) (m c : Nat) (nums : List Int) (hK : SX w (out X x) K m 1 (nums.map (Value.int .i64))) (hm : m ≤ 1000)
    (hsl : R.sure.length ≤ 200) (hwl : R.waits.length ≤ 200) (hnf : R.files.length ≤ 900) (hfn : ∀ f ∈ R.files, f.n ≤ 1100000 ∧ f.sure ≤ f.n) :
    Calls Try.prog 38 #[.pointer (some ⟨x, 0, none⟩), .int .i64 turns, .slice K m c] w (RTo X x w (R.boot turns nums)) := by
  have c5 : w.cell? ⟨x, 5, none⟩ = some (.bool R.dead) := h.cell 5
  obtain ⟨d, hd⟩ : ∃ d, R.dead = d := ⟨_, rfl⟩
  rw [hd] at c5
  cases d
  · have HR : Hid (R.boot turns nums = (1, R)) := Lib.hid (by simp [RS.boot, hd])
    rw [HR.out]
    have H := Lib.hid h
    clear h hd
    go_enter Try.func38, Try.ntmps38
    go_wp2
    go_ret
    exact ⟨rfl, ⟨_, H.out.widen w⟩, grownx_refl w x⟩
  · have HR : Hid (R.boot turns nums = (0, { ((R.booting nums R.files.length).goned (rdos R.sure (R.waits.take (keptT turns R.waits.length)))) with dead := false, fuse := 0, fault := 0, waits := [] })) := Lib.hid (by simp [RS.boot, hd])
    rw [HR.out]
    have hxl := h.lt
    obtain ⟨nw, hnw⟩ : ∃ nw, nw = R.waits.length := ⟨_, rfl⟩
    obtain ⟨nf, hnn⟩ : ∃ nf, nf = R.files.length := ⟨_, rfl⟩
    have c2 : w.cell? ⟨x, 2, none⟩ = some (.slice V.sA R.sure.length V.sc) := h.cell 2
    have HC : Hid (∀ w', Below w.heap.size w w' → w'.cell? ⟨x, 3, none⟩ = some (.slice V.wA nw V.wc)) := Lib.hid fun w' b => by
      rw [hnw]
      exact (b.cell (p := ⟨x, 3, none⟩) hxl).trans (h.cell 3)
    rw [← hnw] at hwl
    rw [← hnn] at hnf
    have HNW := Lib.hid hnw
    have HNF := Lib.hid hnn
    have H := Lib.hid h
    have HFN := Lib.hid hfn
    have HKK := Lib.hid hK
    have HRL : Hid (∀ k, (rdos R.sure (R.waits.take k)).length ≤ 200 + nw) := Lib.hid fun k => by
      have := rdos_len R.sure (R.waits.take k)
      rw [List.length_take] at this
      omega
    clear h hd hnw hnn hfn hK
    go_enter Try.func38, Try.ntmps38
    go_wp2
    go_loopw [7, 8] (fun v i wr => ∃ k : Nat, k ≤ nw ∧ i = .int .i64 k ∧ k ≤ turns.toNat ∧ (∃ A c, v = .slice A (rdos R.sure (R.waits.take k)).length c ∧ NR wr (wid X w wr) x A c (rdos R.sure (R.waits.take k))) ∧ Below w.heap.size w wr) (fun _ i _ => nw - (intOf i).toNat)
    case atStart => exact ⟨0, Nat.zero_le _, rfl, Nat.zero_le _, ⟨_, _, rfl, H.out.sr.go fun b hb => ⟨rfl, .inl hb.1, hb.2⟩⟩, Below.refl _ _⟩
    case round =>
      obtain ⟨k, hk, rfl, hkt, ⟨A, cA, rfl, hN⟩, hb⟩ := hrel
      have e3 := HC.out wr hb
      obtain ⟨wa, hwa⟩ : ∃ wa, wa = wr := ⟨_, rfl⟩
      subst hwa
      by_cases hgo : k < nw ∧ (k : Int) < turns
      · obtain ⟨hlt, hltt⟩ := hgo
        obtain ⟨t, ht⟩ : ∃ t, R.waits[k]? = some t := ⟨_, List.getElem?_eq_getElem (by rw [← HNW.out]; exact hlt)⟩
        obtain ⟨b, off, hA, d0, d1, d2⟩ := (H.out.below hb).wait ht
        rw [hA] at e3
        have HX := Lib.hid (rdos_next (N := R.sure) ht)
        have hrl := HRL.out k
        obtain ⟨N, hNN⟩ : ∃ N, N = rdos R.sure (R.waits.take k) := ⟨_, rfl⟩
        rw [← hNN] at hN HX hrl ⊢
        have HB := Lib.hid hb
        have HDO := Lib.hid (rdo_any (out (wid X w wa) x) A N.length cA N t wa (fun z hz => (wid_old H.out.old hb.size) z hz.1) rfl (by omega) hN.le hN.cm hN.sh)
        have hltd : decide ((k : Int) < turns) = true := decide_eq_true hltt
        have hwd : decide ((k : Int) < (nw : Int)) = true := decide_eq_true (by omega)
        clear ht hA hNN hN hb
        go_wp2_with (first
          | (go_at_call 61; refine HDO.out.mono ?_; rintro e w2 ⟨A2, c2, rfl, hle2, hcm2, hs2, hb2⟩)
          | fail)
        go_roundw
        case rel => exact ⟨k + 1, by omega, by go_num, by omega, ⟨A2, c2, by rw [HX.out], by rw [HX.out]; exact ⟨hs2.more fun z hz => by
          rcases hz with hz | hz
          · exact ⟨hz.1.elim .inl fun q => .inr ⟨q.1, by have := hb2.size; omega⟩, hz.2⟩
          · exact ⟨.inr ⟨by have := HB.out.size; omega, hz.2⟩, by have := HB.out.size; omega⟩, hle2, hcm2⟩⟩, HB.out.trans (hb2.mono HB.out.size)⟩
        case measure => simp [intOf]; omega
      · have HK2 : Hid (R.waits.take k = R.waits.take (keptT turns R.waits.length)) := Lib.hid (by
          rw [← HNW.out]
          unfold keptT
          by_cases h1 : k < nw
          · have : ¬ (k : Int) < turns := fun h2 => hgo ⟨h1, h2⟩
            congr 1
            omega
          · have e1 : k = nw := by omega
            have e2 : min turns.toNat nw = nw := by omega
            rw [e2, e1])
        rw [HK2.out] at hN ⊢
        obtain ⟨N, hNN⟩ : ∃ N, N = rdos R.sure (R.waits.take (keptT turns R.waits.length)) := ⟨_, rfl⟩
        have hnl : N.length ≤ 400 := by rw [hNN]; have := HRL.out (keptT turns R.waits.length); omega
        rw [← hNN] at hN ⊢
        have HN := Lib.hid hN
        have HB := Lib.hid hb
        have HNNH := Lib.hid hNN
        clear hNN hN hb HK2
        by_cases hkw : k < nw
        · have hwd : decide ((k : Int) < (nw : Int)) = true := decide_eq_true (by omega)
          have hltd : decide ((k : Int) < turns) = false := decide_eq_false (fun h2 => hgo ⟨hkw, h2⟩)
          go_wp2
          go_loopw [9, 10, 11, 12] (fun kk i fb kp wr => ∃ j : Nat, j ≤ nf ∧ i = .int .i64 j ∧ kk = .int .i64 (cntU (R.files.take j) : Nat) ∧ (∃ z, fb = z) ∧ (∃ z, kp = z) ∧ (∃ V', RAt wr (wid X w wr) x V' (R.booting nums j)) ∧ NR wr (wid X w wr) x A cA N ∧ w.grownBy wr (some x)) (fun _ i _ _ _ => nf - (intOf i).toNat)
          case atStart => exact ⟨0, Nat.zero_le _, rfl, rfl, ⟨_, rfl⟩, ⟨_, rfl⟩, ⟨V, by rw [booting_zero]; exact H.out.wider HB.out⟩, HN.out, grownx_below (grownx_refl w x) HB.out⟩
          case round =>
            obtain ⟨j, hj, rfl, rfl, ⟨zb, rfl⟩, ⟨zk, rfl⟩, ⟨V1, h1⟩, hN1, hg1⟩ := hrel
            have e0 : wr.cell? ⟨x, 0, none⟩ = some (.slice V1.fA nf V1.fc) := by rw [HNF.out, ← booting_flen R nums j]; exact h1.cell 0
            have hcu : cntU (R.files.take j) ≤ 900 := Nat.le_trans (cntU_le _) (by rw [List.length_take]; omega)
            obtain ⟨cu, hcun⟩ : ∃ cu, cu = cntU (R.files.take j) := ⟨_, rfl⟩
            rw [← hcun] at hcu ⊢
            have HCU := Lib.hid hcun
            clear hcun
            obtain ⟨wq, hwq⟩ : ∃ wq, wq = wr := ⟨_, rfl⟩
            subst hwq
            by_cases hlt : j < nf
            · obtain ⟨f, hf⟩ : ∃ f, R.files[j]? = some f := ⟨_, List.getElem?_eq_getElem (by rw [← HNF.out]; exact hlt)⟩
              have hf1 : (R.booting nums j).files[j]? = some f := by rw [booting_at]; exact hf
              obtain ⟨b2, off2, hA2, d0, d1⟩ := h1.file hf1
              rw [hA2] at e0
              have hfn := HFN.out f (List.mem_of_getElem? hf)
              have hfo := h1.fo f (List.mem_of_getElem? hf1)
              have HCT : Hid (cntU (R.files.take (j + 1)) = cntU (R.files.take j) + if f.n = f.sure then 0 else 1) := Lib.hid (by
                obtain ⟨hk, e⟩ := List.getElem?_eq_some_iff.1 hf
                rw [List.take_succ_eq_append_getElem hk, e, cntU_snoc])
              have H1 := Lib.hid h1
              have HN1 := Lib.hid hN1
              have HG1 := Lib.hid hg1
              have HF := Lib.hid hf
              have HF1 := Lib.hid hf1
              have HFO := Lib.hid hfo
              obtain ⟨hfn1, hfn2⟩ := hfn
              clear h1 hN1 hg1 hf hf1 hA2 hfo
              by_cases he : f.n = f.sure
              · have hed : ((f.n : Int) == (f.sure : Int)) = true := by simp [he]
                have HE := Lib.hid he
                clear he
                go_wp2
                go_roundw
                case rel =>
                  have hba : Below wq.heap.size wq (wq.alloc (.cells #[.slice f.A f.n f.c, .int .i64 (f.sure : Int)] 74)) := (Below.refl _ _).alloc (Nat.le_refl _) _
                  exact ⟨j + 1, by omega, by go_num, by rw [HCT.out, if_pos HE.out, HCU.out]; rfl, ⟨_, rfl⟩, ⟨_, rfl⟩, ⟨V1, by rw [booting_same HF.out HE.out]; exact H1.out.up HG1.out.size H.out.old hba⟩, HN1.out.up HG1.out.size H.out.old hba, grownx_below HG1.out hba⟩
                case measure => simp [intOf]; omega
              · have hed : ((f.n : Int) == (f.sure : Int)) = false := by simp; omega
                have HE := Lib.hid he
                have hslt : f.sure < f.n := by omega
                obtain ⟨bf, offf, hfA, _, _⟩ := HFO.out.sh.2 (by omega)
                have hfle := HFO.out.le
                have hfcm := HFO.out.cm
                unfold maxLen at hfcm
                obtain ⟨g, hgg⟩ : ∃ g, g = wq.heap.size := ⟨_, rfl⟩
                obtain ⟨W, hW⟩ : ∃ W, W = wq.alloc (.cells #[.slice (some ⟨bf, offf, none⟩) f.n f.c, .int .i64 (f.sure : Int)] 74) := ⟨_, rfl⟩
                have hba : Below wq.heap.size wq W := by rw [hW]; exact (Below.refl _ _).alloc (Nat.le_refl _) _
                have g0 : W.cell? ⟨g, 0, none⟩ = some (.slice (some ⟨bf, offf, none⟩) f.n f.c) := by rw [hW, hgg, World.cell?_alloc_at _ _ _ _ rfl]; rfl
                have g1 : W.cell? ⟨g, 1, none⟩ = some (.int .i64 (f.sure : Int)) := by rw [hW, hgg, World.cell?_alloc_at _ _ _ _ rfl]; rfl
                have HSTEP : Hid (∀ (kp : Nat) (W2 : World), kp = keepOf nums cu f → Below wq.heap.size wq W2 → Calls Try.prog 58 #[.pointer (some ⟨x, 0, none⟩), .int .i64 (j : Int), .agg #[.slice (some ⟨bf, offf, none⟩) (f.sure + kp) f.c, .int .i64 ((f.sure + kp : Nat) : Int)]] W2 fun e w' => e = .returned (.tuple #[]) ∧ Hid ((∃ V', RAt w' (wid X w w') x V' (R.booting nums (j + 1))) ∧ NR w' (wid X w w') x A cA N ∧ w.grownBy w' (some x))) := Lib.hid fun kp W2 hkp b2 => by
                  have hk : kp ≤ f.n - f.sure := by
                    rw [hkp]
                    unfold keepOf
                    split <;> omega
                  have h2 := H1.out.up HG1.out.size H.out.old b2
                  have hn2 := HN1.out.up HG1.out.size H.out.old b2
                  have hfo2 := h2.fo f (List.mem_of_getElem? HF1.out)
                  refine calls_as (rwith_any (wid X w W2) x V1 (R.booting nums j) j (f.cut kp) W2 h2 ⟨?_, ?_, hfo2.cm, ?_⟩ (by rw [booting_flen, ← HNF.out]; exact hlt) (by rw [booting_flen, ← HNF.out]; omega)) ?_ ?_
                  · have := hfo2.sh.head (k := f.sure + kp) (by omega)
                    rwa [Nat.mul_one, by8_take] at this
                  · have := hfo2.le
                    show f.sure + kp ≤ f.c
                    omega
                  · exact fun y hy => hfo2.by_ y (List.mem_of_mem_take hy)
                  · simp only [RFl.cut, hfA]
                  · rintro e w' ⟨he', ⟨A6, c6, h6⟩, g6⟩
                    have hsz : w.heap.size ≤ W2.heap.size := Nat.le_trans HG1.out.size b2.size
                    have h7 := wid_wid h6 hsz g6.size H.out.old
                    have hbc := booting_cut (nums := nums) HF.out HE.out
                    rw [← HCU.out, ← hkp] at hbc
                    rw [hbc]
                    exact ⟨he', Lib.hid ⟨⟨_, h7⟩, hn2.go fun z hz => ⟨g6.block z (wid_old H.out.old hsz z hz.1) (fun e => hz.2 (by injection e)), hz.1.elim .inl (fun q => .inr ⟨q.1, Nat.lt_of_lt_of_le q.2 g6.size⟩), hz.2⟩, grownx_trans (grownx_below HG1.out b2) g6⟩⟩
                have HREL : Hid (((cu : Int) + 1) = ((cntU (R.files.take (j + 1)) : Nat) : Int)) := Lib.hid (by rw [HCT.out, if_neg HE.out, HCU.out]; omega)
                have HWW := Lib.hid hW.symm
                have HGG := Lib.hid hgg.symm
                have HBA := Lib.hid hba
                clear hgg hW hba
                obtain ⟨fA, fn, fc, fd, fs⟩ := f
                simp only at *
                subst hfA
                have hfsc : (fs : Int) ≤ (fc : Int) := by omega
                have hml : nums.length = m := by have := HKK.out.1; simp at this; omega
                by_cases hkm : cu < m
                · obtain ⟨bk, offk, hKA, hkX, hkc⟩ := HKK.out.2 (by omega)
                  obtain ⟨z, hzz⟩ : ∃ z, z = nums.getD cu 0 := ⟨_, rfl⟩
                  have hkw : w.cell? ⟨bk, offk + cu, none⟩ = some (.int .i64 z) := hkc cu _ (by rw [hzz]; simp [show cu < nums.length by omega])
                  have HKW : Hid (∀ W2, Below wq.heap.size wq W2 → W2.cell? ⟨bk, offk + cu, none⟩ = some (.int .i64 z)) := Lib.hid fun W2 b2 => by
                    have hbl := H.out.old bk hkX.1
                    exact ((b2.cell (p := ⟨bk, offk + cu, none⟩) (Nat.lt_of_lt_of_le hbl HG1.out.size)).trans (World.cell?_of_block (w := w) (a := ⟨bk, offk + cu, none⟩) (HG1.out.block bk hbl (fun e => hkX.2 (by injection e))))).trans hkw
                  have k9 : (wq.alloc (.cells #[.slice (some ⟨bf, offf, none⟩) fn fc, .int .i64 (fs : Int)] 74)).cell? ⟨bk, offk + cu, none⟩ = some (.int .i64 z) := by rw [HWW.out]; exact HKW.out W HBA.out
                  have hkmd : decide ((cu : Int) < (m : Int)) = true := decide_eq_true (by omega)
                  have hkmi : (cu : Int) < (m : Int) := by omega
                  subst hKA
                  by_cases hz : 0 < z
                  · have hzd : decide (0 < z) = true := decide_eq_true hz
                    by_cases hzle : z ≤ (fn : Int) - (fs : Int)
                    · obtain ⟨kp, hkp⟩ : ∃ kp : Nat, z = (kp : Int) := ⟨z.toNat, by omega⟩
                      have HKP : Hid (kp = keepOf nums cu ⟨some ⟨bf, offf, none⟩, fn, fc, fd, fs⟩) := Lib.hid (by
                        unfold keepOf
                        rw [if_pos ⟨by omega, by rw [← hzz]; exact hz⟩, ← hzz, hkp, Int.toNat_natCast]
                        simp only
                        omega)
                      clear hkc hkw hzz
                      subst hkp
                      go_wp2
                      rw [HWW.out, HGG.out]
                      rw [HWW.out] at k9
                      go_quiet (fail)
                      go_wp2
                      have k0 : W.cell? ⟨g, 0, none⟩ = some (.slice (some ⟨bf, offf, none⟩) fn fc) := g0
                      have k1 : W.cell? ⟨g, 1, none⟩ = some (.int .i64 (fs : Int)) := g1
                      obtain ⟨W3, hW3⟩ : ∃ W3, W3 = W.drewN nq := ⟨_, rfl⟩
                      have HB3 : Hid (Below wq.heap.size wq W3) := Lib.hid (by rw [hW3]; exact HBA.out.trans (((Quiet.one W nq).below W.heap.size).mono HBA.out.size))
                      have k0 : W3.drew.cell? ⟨g, 0, none⟩ = some (.slice (some ⟨bf, offf, none⟩) fn fc) := by rw [hW3]; exact g0
                      have k1 : W3.drew.cell? ⟨g, 1, none⟩ = some (.int .i64 (fs : Int)) := by rw [hW3]; exact g1
                      rw [← hW3]
                      clear hW3
                      obtain ⟨S, hSd⟩ : ∃ S : World → Prop, S = fun w' => w'.cell? ⟨g, 0, none⟩ = some (.slice (some ⟨bf, offf, none⟩) fn fc) ∧ w'.cell? ⟨g, 1, none⟩ = some (.int .i64 (fs : Int)) := ⟨_, rfl⟩
                      have hSF : ∀ w', S w' → w'.cell? ⟨g, 0, none⟩ = some (.slice (some ⟨bf, offf, none⟩) fn fc) ∧ w'.cell? ⟨g, 1, none⟩ = some (.int .i64 (fs : Int)) := by rw [hSd]; exact fun w' h => h
                      have s0 : ∀ s : SW S, s.w.cell? ⟨g, 0, none⟩ = some (.slice (some ⟨bf, offf, none⟩) fn fc) := fun s => (hSF _ s.h).1
                      have s1 : ∀ s : SW S, s.w.cell? ⟨g, 1, none⟩ = some (.int .i64 (fs : Int)) := fun s => (hSF _ s.h).2
                      have hS0 : S W3.drew := by rw [hSd]; exact ⟨k0, k1⟩
                      clear hSd hSF
                      refine regionL_start (by kernel_rfl) 15 rfl S 14 ?_
                      refine wpL_next 0 13 2 (by kernel_rfl) (fun _ _ d _ _ h => by cases d <;> exact h) hS0 (fun hne => ?_)
                      simp only [List.drop_succ_cons, List.drop_zero, List.take_succ_cons, List.take_zero]
                      repeat (go_big_quiet_step (fail))
                      refine wpQuiet_nil ?_
                      refine wpL_one (i := 13) (fuel := 1) (by kernel_rfl) rfl (fun KK hKK => ?_)
                      go_simp
                      refine hKK _ _ hS0 ?_
                      clear hKK KK
                      refine wpL_last (fuel := 0) (by kernel_rfl) (by kernel_rfl) rfl (fun KK hKK => ?_)
                      go_simp
                      have HS3 := HSTEP.out kp W3.drew HKP.out (HB3.out.trans ((below_drewR W3.heap.size W3).mono HB3.out.size))
                      refine calls_as HS3 ?_ ?_
                      · first | rfl | (simp; done) | (simp; omega)
                      rintro e w6 ⟨rfl, H6⟩
                      refine hKK _ _ ?_
                      clear hKK KK
                      obtain ⟨⟨V6, h6⟩, n6, g6⟩ := H6.out
                      go_wp2
                      go_roundw
                      case rel => exact ⟨j + 1, by omega, by go_num, congrArg (Value.int .i64) HREL.out, ⟨_, rfl⟩, ⟨_, rfl⟩, ⟨V6, h6⟩, n6, g6⟩
                      case measure => simp [intOf]; omega
                    · obtain ⟨kp, hkp⟩ : ∃ kp : Nat, fn = fs + kp := ⟨fn - fs, by omega⟩
                      have HKP : Hid (kp = keepOf nums cu ⟨some ⟨bf, offf, none⟩, fn, fc, fd, fs⟩) := Lib.hid (by
                        unfold keepOf
                        rw [if_pos ⟨by omega, by rw [← hzz]; exact hz⟩, ← hzz]
                        simp only
                        omega)
                      have hsub : ((fs + kp : Nat) : Int) - (fs : Int) = (kp : Int) := by omega
                      clear hkc hkw hzz
                      subst hkp
                      go_wp2
                      rw [HWW.out, HGG.out]
                      rw [HWW.out] at k9
                      go_quiet (fail)
                      go_wp2
                      have k0 : W.cell? ⟨g, 0, none⟩ = some (.slice (some ⟨bf, offf, none⟩) (fs + kp) fc) := g0
                      have k1 : W.cell? ⟨g, 1, none⟩ = some (.int .i64 (fs : Int)) := g1
                      obtain ⟨W3, hW3⟩ : ∃ W3, W3 = W.drewN nq := ⟨_, rfl⟩
                      have HB3 : Hid (Below wq.heap.size wq W3) := Lib.hid (by rw [hW3]; exact HBA.out.trans (((Quiet.one W nq).below W.heap.size).mono HBA.out.size))
                      have k0 : W3.drew.cell? ⟨g, 0, none⟩ = some (.slice (some ⟨bf, offf, none⟩) (fs + kp) fc) := by rw [hW3]; exact g0
                      have k1 : W3.drew.cell? ⟨g, 1, none⟩ = some (.int .i64 (fs : Int)) := by rw [hW3]; exact g1
                      rw [← hW3]
                      clear hW3
                      obtain ⟨S, hSd⟩ : ∃ S : World → Prop, S = fun w' => w'.cell? ⟨g, 0, none⟩ = some (.slice (some ⟨bf, offf, none⟩) (fs + kp) fc) ∧ w'.cell? ⟨g, 1, none⟩ = some (.int .i64 (fs : Int)) := ⟨_, rfl⟩
                      have hSF : ∀ w', S w' → w'.cell? ⟨g, 0, none⟩ = some (.slice (some ⟨bf, offf, none⟩) (fs + kp) fc) ∧ w'.cell? ⟨g, 1, none⟩ = some (.int .i64 (fs : Int)) := by rw [hSd]; exact fun w' h => h
                      have s0 : ∀ s : SW S, s.w.cell? ⟨g, 0, none⟩ = some (.slice (some ⟨bf, offf, none⟩) (fs + kp) fc) := fun s => (hSF _ s.h).1
                      have s1 : ∀ s : SW S, s.w.cell? ⟨g, 1, none⟩ = some (.int .i64 (fs : Int)) := fun s => (hSF _ s.h).2
                      have hS0 : S W3.drew := by rw [hSd]; exact ⟨k0, k1⟩
                      clear hSd hSF
                      refine regionL_start (by kernel_rfl) 15 rfl S 14 ?_
                      refine wpL_next 0 13 2 (by kernel_rfl) (fun _ _ d _ _ h => by cases d <;> exact h) hS0 (fun hne => ?_)
                      simp only [List.drop_succ_cons, List.drop_zero, List.take_succ_cons, List.take_zero]
                      repeat (go_big_quiet_step (fail))
                      refine wpQuiet_nil ?_
                      refine wpL_one (i := 13) (fuel := 1) (by kernel_rfl) rfl (fun KK hKK => ?_)
                      go_simp
                      refine hKK _ _ hS0 ?_
                      clear hKK KK
                      refine wpL_last (fuel := 0) (by kernel_rfl) (by kernel_rfl) rfl (fun KK hKK => ?_)
                      go_simp
                      have HS3 := HSTEP.out kp W3.drew HKP.out (HB3.out.trans ((below_drewR W3.heap.size W3).mono HB3.out.size))
                      refine calls_as HS3 ?_ ?_
                      · first | rfl | (simp; done) | (simp; omega)
                      rintro e w6 ⟨rfl, H6⟩
                      refine hKK _ _ ?_
                      clear hKK KK
                      obtain ⟨⟨V6, h6⟩, n6, g6⟩ := H6.out
                      go_wp2
                      go_roundw
                      case rel => exact ⟨j + 1, by omega, by go_num, congrArg (Value.int .i64) HREL.out, ⟨_, rfl⟩, ⟨_, rfl⟩, ⟨V6, h6⟩, n6, g6⟩
                      case measure => simp [intOf]; omega
                  · have hzd : decide (0 < z) = false := decide_eq_false hz
                    obtain ⟨kp, hkp⟩ : ∃ kp : Nat, kp = 0 := ⟨_, rfl⟩
                    have HKP : Hid (kp = keepOf nums cu ⟨some ⟨bf, offf, none⟩, fn, fc, fd, fs⟩) := Lib.hid (by unfold keepOf; rw [if_neg (fun h => hz (by rw [hzz]; exact h.2)), hkp])
                    clear hkc hkw hzz
                    go_wp2
                    rw [HWW.out, HGG.out]
                    have k0 : W.drew.cell? ⟨g, 0, none⟩ = some (.slice (some ⟨bf, offf, none⟩) fn fc) := g0
                    have k1 : W.drew.cell? ⟨g, 1, none⟩ = some (.int .i64 (fs : Int)) := g1
                    obtain ⟨W3, hW3⟩ : ∃ W3, W3 = W := ⟨_, rfl⟩
                    rw [← hW3] at k0 k1 HBA ⊢
                    clear hW3
                    have HB3 := HBA
                    obtain ⟨S, hSd⟩ : ∃ S : World → Prop, S = fun w' => w'.cell? ⟨g, 0, none⟩ = some (.slice (some ⟨bf, offf, none⟩) fn fc) ∧ w'.cell? ⟨g, 1, none⟩ = some (.int .i64 (fs : Int)) := ⟨_, rfl⟩
                    have hSF : ∀ w', S w' → w'.cell? ⟨g, 0, none⟩ = some (.slice (some ⟨bf, offf, none⟩) fn fc) ∧ w'.cell? ⟨g, 1, none⟩ = some (.int .i64 (fs : Int)) := by rw [hSd]; exact fun w' h => h
                    have s0 : ∀ s : SW S, s.w.cell? ⟨g, 0, none⟩ = some (.slice (some ⟨bf, offf, none⟩) fn fc) := fun s => (hSF _ s.h).1
                    have s1 : ∀ s : SW S, s.w.cell? ⟨g, 1, none⟩ = some (.int .i64 (fs : Int)) := fun s => (hSF _ s.h).2
                    have hS0 : S W3.drew := by rw [hSd]; exact ⟨k0, k1⟩
                    clear hSd hSF
                    refine regionL_start (by kernel_rfl) 15 rfl S 14 ?_
                    refine wpL_next 0 13 2 (by kernel_rfl) (fun _ _ d _ _ h => by cases d <;> exact h) hS0 (fun hne => ?_)
                    simp only [List.drop_succ_cons, List.drop_zero, List.take_succ_cons, List.take_zero]
                    repeat (go_big_quiet_step (fail))
                    refine wpQuiet_nil ?_
                    refine wpL_one (i := 13) (fuel := 1) (by kernel_rfl) rfl (fun KK hKK => ?_)
                    go_simp
                    refine hKK _ _ hS0 ?_
                    clear hKK KK
                    refine wpL_last (fuel := 0) (by kernel_rfl) (by kernel_rfl) rfl (fun KK hKK => ?_)
                    go_simp
                    have HS3 := HSTEP.out kp W3.drew HKP.out (HB3.out.trans ((below_drewR W3.heap.size W3).mono HB3.out.size))
                    refine calls_as HS3 ?_ ?_
                    · rw [hkp]; simp
                    rintro e w6 ⟨rfl, H6⟩
                    refine hKK _ _ ?_
                    clear hKK KK
                    obtain ⟨⟨V6, h6⟩, n6, g6⟩ := H6.out
                    go_wp2
                    go_roundw
                    case rel => exact ⟨j + 1, by omega, by go_num, congrArg (Value.int .i64) HREL.out, ⟨_, rfl⟩, ⟨_, rfl⟩, ⟨V6, h6⟩, n6, g6⟩
                    case measure => simp [intOf]; omega
                · have hkmd : decide ((cu : Int) < (m : Int)) = false := decide_eq_false (by omega)
                  obtain ⟨kp, hkp⟩ : ∃ kp : Nat, kp = 0 := ⟨_, rfl⟩
                  have HKP : Hid (kp = keepOf nums cu ⟨some ⟨bf, offf, none⟩, fn, fc, fd, fs⟩) := Lib.hid (by unfold keepOf; rw [if_neg (fun h => hkm (by omega)), hkp])
                  go_wp2
                  rw [HWW.out, HGG.out]
                  have k0 : W.drew.cell? ⟨g, 0, none⟩ = some (.slice (some ⟨bf, offf, none⟩) fn fc) := g0
                  have k1 : W.drew.cell? ⟨g, 1, none⟩ = some (.int .i64 (fs : Int)) := g1
                  obtain ⟨W3, hW3⟩ : ∃ W3, W3 = W := ⟨_, rfl⟩
                  rw [← hW3] at k0 k1 HBA ⊢
                  clear hW3
                  have HB3 := HBA
                  obtain ⟨S, hSd⟩ : ∃ S : World → Prop, S = fun w' => w'.cell? ⟨g, 0, none⟩ = some (.slice (some ⟨bf, offf, none⟩) fn fc) ∧ w'.cell? ⟨g, 1, none⟩ = some (.int .i64 (fs : Int)) := ⟨_, rfl⟩
                  have hSF : ∀ w', S w' → w'.cell? ⟨g, 0, none⟩ = some (.slice (some ⟨bf, offf, none⟩) fn fc) ∧ w'.cell? ⟨g, 1, none⟩ = some (.int .i64 (fs : Int)) := by rw [hSd]; exact fun w' h => h
                  have s0 : ∀ s : SW S, s.w.cell? ⟨g, 0, none⟩ = some (.slice (some ⟨bf, offf, none⟩) fn fc) := fun s => (hSF _ s.h).1
                  have s1 : ∀ s : SW S, s.w.cell? ⟨g, 1, none⟩ = some (.int .i64 (fs : Int)) := fun s => (hSF _ s.h).2
                  have hS0 : S W3.drew := by rw [hSd]; exact ⟨k0, k1⟩
                  clear hSd hSF
                  refine regionL_start (by kernel_rfl) 15 rfl S 14 ?_
                  refine wpL_next 0 13 2 (by kernel_rfl) (fun _ _ d _ _ h => by cases d <;> exact h) hS0 (fun hne => ?_)
                  simp only [List.drop_succ_cons, List.drop_zero, List.take_succ_cons, List.take_zero]
                  repeat (go_big_quiet_step (fail))
                  refine wpQuiet_nil ?_
                  refine wpL_one (i := 13) (fuel := 1) (by kernel_rfl) rfl (fun KK hKK => ?_)
                  go_simp
                  refine hKK _ _ hS0 ?_
                  clear hKK KK
                  refine wpL_last (fuel := 0) (by kernel_rfl) (by kernel_rfl) rfl (fun KK hKK => ?_)
                  go_simp
                  have HS3 := HSTEP.out kp W3.drew HKP.out (HB3.out.trans ((below_drewR W3.heap.size W3).mono HB3.out.size))
                  refine calls_as HS3 ?_ ?_
                  · rw [hkp]; simp
                  rintro e w6 ⟨rfl, H6⟩
                  refine hKK _ _ ?_
                  clear hKK KK
                  obtain ⟨⟨V6, h6⟩, n6, g6⟩ := H6.out
                  go_wp2
                  go_roundw
                  case rel => exact ⟨j + 1, by omega, by go_num, congrArg (Value.int .i64) HREL.out, ⟨_, rfl⟩, ⟨_, rfl⟩, ⟨V6, h6⟩, n6, g6⟩
                  case measure => simp [intOf]; omega
            · obtain rfl : j = nf := by omega
              have hn1 := H.out.old
              have HGO := Lib.hid (rgone_any (wid X w wq) x V1 (R.booting nums j) wq h1 A N.length cA N rfl (by omega) hN1.sh (by rw [booting_flen, ← HNF.out]; omega))
              have HG1 := Lib.hid hg1
              clear h1 hN1 hg1
              go_wp2_with (first
                | (go_at_call 62; refine HGO.out.mono ?_; rintro e w6 ⟨rfl, ⟨V6, h6⟩, g6⟩; have h6 := wid_wid h6 HG1.out.size g6.size H.out.old; have G6 := Lib.hid (grownx_trans HG1.out g6); have hnf6 := h6.nf; have c3 : w6.cell? ⟨x, 3, none⟩ = some (.slice V6.wA ((R.booting nums j).goned N).waits.length V6.wc) := h6.cell 3; have c5 : w6.cell? ⟨x, 5, none⟩ = some (.bool ((R.booting nums j).goned N).dead) := h6.cell 5; have c7 : w6.cell? ⟨x, 7, none⟩ = some (.int .i64 (((R.booting nums j).goned N).fuse : Int)) := h6.cell 7; have c8 : w6.cell? ⟨x, 8, none⟩ = some (.int .i64 (((R.booting nums j).goned N).fault : Int)) := h6.cell 8; have H6 := Lib.hid h6; clear h6 g6)
                | fail)
              go_ret
              have := boot_end H6.out G6.out
              rw [← HNF.out, ← HNNH.out]
              exact ⟨rfl, this.1, this.2⟩
        · have hwd : decide ((k : Int) < (nw : Int)) = false := decide_eq_false (by omega)
          go_wp2
          go_loopw [9, 10, 11, 12] (fun kk i fb kp wr => ∃ j : Nat, j ≤ nf ∧ i = .int .i64 j ∧ kk = .int .i64 (cntU (R.files.take j) : Nat) ∧ (∃ z, fb = z) ∧ (∃ z, kp = z) ∧ (∃ V', RAt wr (wid X w wr) x V' (R.booting nums j)) ∧ NR wr (wid X w wr) x A cA N ∧ w.grownBy wr (some x)) (fun _ i _ _ _ => nf - (intOf i).toNat)
          case atStart => exact ⟨0, Nat.zero_le _, rfl, rfl, ⟨_, rfl⟩, ⟨_, rfl⟩, ⟨V, by rw [booting_zero]; exact H.out.wider HB.out⟩, HN.out, grownx_below (grownx_refl w x) HB.out⟩
          case round =>
            obtain ⟨j, hj, rfl, rfl, ⟨zb, rfl⟩, ⟨zk, rfl⟩, ⟨V1, h1⟩, hN1, hg1⟩ := hrel
            have e0 : wr.cell? ⟨x, 0, none⟩ = some (.slice V1.fA nf V1.fc) := by rw [HNF.out, ← booting_flen R nums j]; exact h1.cell 0
            have hcu : cntU (R.files.take j) ≤ 900 := Nat.le_trans (cntU_le _) (by rw [List.length_take]; omega)
            obtain ⟨cu, hcun⟩ : ∃ cu, cu = cntU (R.files.take j) := ⟨_, rfl⟩
            rw [← hcun] at hcu ⊢
            have HCU := Lib.hid hcun
            clear hcun
            obtain ⟨wq, hwq⟩ : ∃ wq, wq = wr := ⟨_, rfl⟩
            subst hwq
            by_cases hlt : j < nf
            · obtain ⟨f, hf⟩ : ∃ f, R.files[j]? = some f := ⟨_, List.getElem?_eq_getElem (by rw [← HNF.out]; exact hlt)⟩
              have hf1 : (R.booting nums j).files[j]? = some f := by rw [booting_at]; exact hf
              obtain ⟨b2, off2, hA2, d0, d1⟩ := h1.file hf1
              rw [hA2] at e0
              have hfn := HFN.out f (List.mem_of_getElem? hf)
              have hfo := h1.fo f (List.mem_of_getElem? hf1)
              have HCT : Hid (cntU (R.files.take (j + 1)) = cntU (R.files.take j) + if f.n = f.sure then 0 else 1) := Lib.hid (by
                obtain ⟨hk, e⟩ := List.getElem?_eq_some_iff.1 hf
                rw [List.take_succ_eq_append_getElem hk, e, cntU_snoc])
              have H1 := Lib.hid h1
              have HN1 := Lib.hid hN1
              have HG1 := Lib.hid hg1
              have HF := Lib.hid hf
              have HF1 := Lib.hid hf1
              have HFO := Lib.hid hfo
              obtain ⟨hfn1, hfn2⟩ := hfn
              clear h1 hN1 hg1 hf hf1 hA2 hfo
              by_cases he : f.n = f.sure
              · have hed : ((f.n : Int) == (f.sure : Int)) = true := by simp [he]
                have HE := Lib.hid he
                clear he
                go_wp2
                go_roundw
                case rel =>
                  have hba : Below wq.heap.size wq (wq.alloc (.cells #[.slice f.A f.n f.c, .int .i64 (f.sure : Int)] 74)) := (Below.refl _ _).alloc (Nat.le_refl _) _
                  exact ⟨j + 1, by omega, by go_num, by rw [HCT.out, if_pos HE.out, HCU.out]; rfl, ⟨_, rfl⟩, ⟨_, rfl⟩, ⟨V1, by rw [booting_same HF.out HE.out]; exact H1.out.up HG1.out.size H.out.old hba⟩, HN1.out.up HG1.out.size H.out.old hba, grownx_below HG1.out hba⟩
                case measure => simp [intOf]; omega
              · have hed : ((f.n : Int) == (f.sure : Int)) = false := by simp; omega
                have HE := Lib.hid he
                have hslt : f.sure < f.n := by omega
                obtain ⟨bf, offf, hfA, _, _⟩ := HFO.out.sh.2 (by omega)
                have hfle := HFO.out.le
                have hfcm := HFO.out.cm
                unfold maxLen at hfcm
                obtain ⟨g, hgg⟩ : ∃ g, g = wq.heap.size := ⟨_, rfl⟩
                obtain ⟨W, hW⟩ : ∃ W, W = wq.alloc (.cells #[.slice (some ⟨bf, offf, none⟩) f.n f.c, .int .i64 (f.sure : Int)] 74) := ⟨_, rfl⟩
                have hba : Below wq.heap.size wq W := by rw [hW]; exact (Below.refl _ _).alloc (Nat.le_refl _) _
                have g0 : W.cell? ⟨g, 0, none⟩ = some (.slice (some ⟨bf, offf, none⟩) f.n f.c) := by rw [hW, hgg, World.cell?_alloc_at _ _ _ _ rfl]; rfl
                have g1 : W.cell? ⟨g, 1, none⟩ = some (.int .i64 (f.sure : Int)) := by rw [hW, hgg, World.cell?_alloc_at _ _ _ _ rfl]; rfl
                have HSTEP : Hid (∀ (kp : Nat) (W2 : World), kp = keepOf nums cu f → Below wq.heap.size wq W2 → Calls Try.prog 58 #[.pointer (some ⟨x, 0, none⟩), .int .i64 (j : Int), .agg #[.slice (some ⟨bf, offf, none⟩) (f.sure + kp) f.c, .int .i64 ((f.sure + kp : Nat) : Int)]] W2 fun e w' => e = .returned (.tuple #[]) ∧ Hid ((∃ V', RAt w' (wid X w w') x V' (R.booting nums (j + 1))) ∧ NR w' (wid X w w') x A cA N ∧ w.grownBy w' (some x))) := Lib.hid fun kp W2 hkp b2 => by
                  have hk : kp ≤ f.n - f.sure := by
                    rw [hkp]
                    unfold keepOf
                    split <;> omega
                  have h2 := H1.out.up HG1.out.size H.out.old b2
                  have hn2 := HN1.out.up HG1.out.size H.out.old b2
                  have hfo2 := h2.fo f (List.mem_of_getElem? HF1.out)
                  refine calls_as (rwith_any (wid X w W2) x V1 (R.booting nums j) j (f.cut kp) W2 h2 ⟨?_, ?_, hfo2.cm, ?_⟩ (by rw [booting_flen, ← HNF.out]; exact hlt) (by rw [booting_flen, ← HNF.out]; omega)) ?_ ?_
                  · have := hfo2.sh.head (k := f.sure + kp) (by omega)
                    rwa [Nat.mul_one, by8_take] at this
                  · have := hfo2.le
                    show f.sure + kp ≤ f.c
                    omega
                  · exact fun y hy => hfo2.by_ y (List.mem_of_mem_take hy)
                  · simp only [RFl.cut, hfA]
                  · rintro e w' ⟨he', ⟨A6, c6, h6⟩, g6⟩
                    have hsz : w.heap.size ≤ W2.heap.size := Nat.le_trans HG1.out.size b2.size
                    have h7 := wid_wid h6 hsz g6.size H.out.old
                    have hbc := booting_cut (nums := nums) HF.out HE.out
                    rw [← HCU.out, ← hkp] at hbc
                    rw [hbc]
                    exact ⟨he', Lib.hid ⟨⟨_, h7⟩, hn2.go fun z hz => ⟨g6.block z (wid_old H.out.old hsz z hz.1) (fun e => hz.2 (by injection e)), hz.1.elim .inl (fun q => .inr ⟨q.1, Nat.lt_of_lt_of_le q.2 g6.size⟩), hz.2⟩, grownx_trans (grownx_below HG1.out b2) g6⟩⟩
                have HREL : Hid (((cu : Int) + 1) = ((cntU (R.files.take (j + 1)) : Nat) : Int)) := Lib.hid (by rw [HCT.out, if_neg HE.out, HCU.out]; omega)
                have HWW := Lib.hid hW.symm
                have HGG := Lib.hid hgg.symm
                have HBA := Lib.hid hba
                clear hgg hW hba
                obtain ⟨fA, fn, fc, fd, fs⟩ := f
                simp only at *
                subst hfA
                have hfsc : (fs : Int) ≤ (fc : Int) := by omega
                have hml : nums.length = m := by have := HKK.out.1; simp at this; omega
                by_cases hkm : cu < m
                · obtain ⟨bk, offk, hKA, hkX, hkc⟩ := HKK.out.2 (by omega)
                  obtain ⟨z, hzz⟩ : ∃ z, z = nums.getD cu 0 := ⟨_, rfl⟩
                  have hkw : w.cell? ⟨bk, offk + cu, none⟩ = some (.int .i64 z) := hkc cu _ (by rw [hzz]; simp [show cu < nums.length by omega])
                  have HKW : Hid (∀ W2, Below wq.heap.size wq W2 → W2.cell? ⟨bk, offk + cu, none⟩ = some (.int .i64 z)) := Lib.hid fun W2 b2 => by
                    have hbl := H.out.old bk hkX.1
                    exact ((b2.cell (p := ⟨bk, offk + cu, none⟩) (Nat.lt_of_lt_of_le hbl HG1.out.size)).trans (World.cell?_of_block (w := w) (a := ⟨bk, offk + cu, none⟩) (HG1.out.block bk hbl (fun e => hkX.2 (by injection e))))).trans hkw
                  have k9 : (wq.alloc (.cells #[.slice (some ⟨bf, offf, none⟩) fn fc, .int .i64 (fs : Int)] 74)).cell? ⟨bk, offk + cu, none⟩ = some (.int .i64 z) := by rw [HWW.out]; exact HKW.out W HBA.out
                  have hkmd : decide ((cu : Int) < (m : Int)) = true := decide_eq_true (by omega)
                  have hkmi : (cu : Int) < (m : Int) := by omega
                  subst hKA
                  by_cases hz : 0 < z
                  · have hzd : decide (0 < z) = true := decide_eq_true hz
                    by_cases hzle : z ≤ (fn : Int) - (fs : Int)
                    · obtain ⟨kp, hkp⟩ : ∃ kp : Nat, z = (kp : Int) := ⟨z.toNat, by omega⟩
                      have HKP : Hid (kp = keepOf nums cu ⟨some ⟨bf, offf, none⟩, fn, fc, fd, fs⟩) := Lib.hid (by
                        unfold keepOf
                        rw [if_pos ⟨by omega, by rw [← hzz]; exact hz⟩, ← hzz, hkp, Int.toNat_natCast]
                        simp only
                        omega)
                      clear hkc hkw hzz
                      subst hkp
                      go_wp2
                      rw [HWW.out, HGG.out]
                      rw [HWW.out] at k9
                      go_quiet (fail)
                      go_wp2
                      have k0 : W.cell? ⟨g, 0, none⟩ = some (.slice (some ⟨bf, offf, none⟩) fn fc) := g0
                      have k1 : W.cell? ⟨g, 1, none⟩ = some (.int .i64 (fs : Int)) := g1
                      obtain ⟨W3, hW3⟩ : ∃ W3, W3 = W.drewN nq := ⟨_, rfl⟩
                      have HB3 : Hid (Below wq.heap.size wq W3) := Lib.hid (by rw [hW3]; exact HBA.out.trans (((Quiet.one W nq).below W.heap.size).mono HBA.out.size))
                      have k0 : W3.drew.cell? ⟨g, 0, none⟩ = some (.slice (some ⟨bf, offf, none⟩) fn fc) := by rw [hW3]; exact g0
                      have k1 : W3.drew.cell? ⟨g, 1, none⟩ = some (.int .i64 (fs : Int)) := by rw [hW3]; exact g1
                      rw [← hW3]
                      clear hW3
                      obtain ⟨S, hSd⟩ : ∃ S : World → Prop, S = fun w' => w'.cell? ⟨g, 0, none⟩ = some (.slice (some ⟨bf, offf, none⟩) fn fc) ∧ w'.cell? ⟨g, 1, none⟩ = some (.int .i64 (fs : Int)) := ⟨_, rfl⟩
                      have hSF : ∀ w', S w' → w'.cell? ⟨g, 0, none⟩ = some (.slice (some ⟨bf, offf, none⟩) fn fc) ∧ w'.cell? ⟨g, 1, none⟩ = some (.int .i64 (fs : Int)) := by rw [hSd]; exact fun w' h => h
                      have s0 : ∀ s : SW S, s.w.cell? ⟨g, 0, none⟩ = some (.slice (some ⟨bf, offf, none⟩) fn fc) := fun s => (hSF _ s.h).1
                      have s1 : ∀ s : SW S, s.w.cell? ⟨g, 1, none⟩ = some (.int .i64 (fs : Int)) := fun s => (hSF _ s.h).2
                      have hS0 : S W3.drew := by rw [hSd]; exact ⟨k0, k1⟩
                      clear hSd hSF
                      refine regionL_start (by kernel_rfl) 15 rfl S 14 ?_
                      refine wpL_next 0 13 2 (by kernel_rfl) (fun _ _ d _ _ h => by cases d <;> exact h) hS0 (fun hne => ?_)
                      simp only [List.drop_succ_cons, List.drop_zero, List.take_succ_cons, List.take_zero]
                      repeat (go_big_quiet_step (fail))
                      refine wpQuiet_nil ?_
                      refine wpL_one (i := 13) (fuel := 1) (by kernel_rfl) rfl (fun KK hKK => ?_)
                      go_simp
                      refine hKK _ _ hS0 ?_
                      clear hKK KK
                      refine wpL_last (fuel := 0) (by kernel_rfl) (by kernel_rfl) rfl (fun KK hKK => ?_)
                      go_simp
                      have HS3 := HSTEP.out kp W3.drew HKP.out (HB3.out.trans ((below_drewR W3.heap.size W3).mono HB3.out.size))
                      refine calls_as HS3 ?_ ?_
                      · first | rfl | (simp; done) | (simp; omega)
                      rintro e w6 ⟨rfl, H6⟩
                      refine hKK _ _ ?_
                      clear hKK KK
                      obtain ⟨⟨V6, h6⟩, n6, g6⟩ := H6.out
                      go_wp2
                      go_roundw
                      case rel => exact ⟨j + 1, by omega, by go_num, congrArg (Value.int .i64) HREL.out, ⟨_, rfl⟩, ⟨_, rfl⟩, ⟨V6, h6⟩, n6, g6⟩
                      case measure => simp [intOf]; omega
                    · obtain ⟨kp, hkp⟩ : ∃ kp : Nat, fn = fs + kp := ⟨fn - fs, by omega⟩
                      have HKP : Hid (kp = keepOf nums cu ⟨some ⟨bf, offf, none⟩, fn, fc, fd, fs⟩) := Lib.hid (by
                        unfold keepOf
                        rw [if_pos ⟨by omega, by rw [← hzz]; exact hz⟩, ← hzz]
                        simp only
                        omega)
                      have hsub : ((fs + kp : Nat) : Int) - (fs : Int) = (kp : Int) := by omega
                      clear hkc hkw hzz
                      subst hkp
                      go_wp2
                      rw [HWW.out, HGG.out]
                      rw [HWW.out] at k9
                      go_quiet (fail)
                      go_wp2
                      have k0 : W.cell? ⟨g, 0, none⟩ = some (.slice (some ⟨bf, offf, none⟩) (fs + kp) fc) := g0
                      have k1 : W.cell? ⟨g, 1, none⟩ = some (.int .i64 (fs : Int)) := g1
                      obtain ⟨W3, hW3⟩ : ∃ W3, W3 = W.drewN nq := ⟨_, rfl⟩
                      have HB3 : Hid (Below wq.heap.size wq W3) := Lib.hid (by rw [hW3]; exact HBA.out.trans (((Quiet.one W nq).below W.heap.size).mono HBA.out.size))
                      have k0 : W3.drew.cell? ⟨g, 0, none⟩ = some (.slice (some ⟨bf, offf, none⟩) (fs + kp) fc) := by rw [hW3]; exact g0
                      have k1 : W3.drew.cell? ⟨g, 1, none⟩ = some (.int .i64 (fs : Int)) := by rw [hW3]; exact g1
                      rw [← hW3]
                      clear hW3
                      obtain ⟨S, hSd⟩ : ∃ S : World → Prop, S = fun w' => w'.cell? ⟨g, 0, none⟩ = some (.slice (some ⟨bf, offf, none⟩) (fs + kp) fc) ∧ w'.cell? ⟨g, 1, none⟩ = some (.int .i64 (fs : Int)) := ⟨_, rfl⟩
                      have hSF : ∀ w', S w' → w'.cell? ⟨g, 0, none⟩ = some (.slice (some ⟨bf, offf, none⟩) (fs + kp) fc) ∧ w'.cell? ⟨g, 1, none⟩ = some (.int .i64 (fs : Int)) := by rw [hSd]; exact fun w' h => h
                      have s0 : ∀ s : SW S, s.w.cell? ⟨g, 0, none⟩ = some (.slice (some ⟨bf, offf, none⟩) (fs + kp) fc) := fun s => (hSF _ s.h).1
                      have s1 : ∀ s : SW S, s.w.cell? ⟨g, 1, none⟩ = some (.int .i64 (fs : Int)) := fun s => (hSF _ s.h).2
                      have hS0 : S W3.drew := by rw [hSd]; exact ⟨k0, k1⟩
                      clear hSd hSF
                      refine regionL_start (by kernel_rfl) 15 rfl S 14 ?_
                      refine wpL_next 0 13 2 (by kernel_rfl) (fun _ _ d _ _ h => by cases d <;> exact h) hS0 (fun hne => ?_)
                      simp only [List.drop_succ_cons, List.drop_zero, List.take_succ_cons, List.take_zero]
                      repeat (go_big_quiet_step (fail))
                      refine wpQuiet_nil ?_
                      refine wpL_one (i := 13) (fuel := 1) (by kernel_rfl) rfl (fun KK hKK => ?_)
                      go_simp
                      refine hKK _ _ hS0 ?_
                      clear hKK KK
                      refine wpL_last (fuel := 0) (by kernel_rfl) (by kernel_rfl) rfl (fun KK hKK => ?_)
                      go_simp
                      have HS3 := HSTEP.out kp W3.drew HKP.out (HB3.out.trans ((below_drewR W3.heap.size W3).mono HB3.out.size))
                      refine calls_as HS3 ?_ ?_
                      · first | rfl | (simp; done) | (simp; omega)
                      rintro e w6 ⟨rfl, H6⟩
                      refine hKK _ _ ?_
                      clear hKK KK
                      obtain ⟨⟨V6, h6⟩, n6, g6⟩ := H6.out
                      go_wp2
                      go_roundw
                      case rel => exact ⟨j + 1, by omega, by go_num, congrArg (Value.int .i64) HREL.out, ⟨_, rfl⟩, ⟨_, rfl⟩, ⟨V6, h6⟩, n6, g6⟩
                      case measure => simp [intOf]; omega
                  · have hzd : decide (0 < z) = false := decide_eq_false hz
                    obtain ⟨kp, hkp⟩ : ∃ kp : Nat, kp = 0 := ⟨_, rfl⟩
                    have HKP : Hid (kp = keepOf nums cu ⟨some ⟨bf, offf, none⟩, fn, fc, fd, fs⟩) := Lib.hid (by unfold keepOf; rw [if_neg (fun h => hz (by rw [hzz]; exact h.2)), hkp])
                    clear hkc hkw hzz
                    go_wp2
                    rw [HWW.out, HGG.out]
                    have k0 : W.drew.cell? ⟨g, 0, none⟩ = some (.slice (some ⟨bf, offf, none⟩) fn fc) := g0
                    have k1 : W.drew.cell? ⟨g, 1, none⟩ = some (.int .i64 (fs : Int)) := g1
                    obtain ⟨W3, hW3⟩ : ∃ W3, W3 = W := ⟨_, rfl⟩
                    rw [← hW3] at k0 k1 HBA ⊢
                    clear hW3
                    have HB3 := HBA
                    obtain ⟨S, hSd⟩ : ∃ S : World → Prop, S = fun w' => w'.cell? ⟨g, 0, none⟩ = some (.slice (some ⟨bf, offf, none⟩) fn fc) ∧ w'.cell? ⟨g, 1, none⟩ = some (.int .i64 (fs : Int)) := ⟨_, rfl⟩
                    have hSF : ∀ w', S w' → w'.cell? ⟨g, 0, none⟩ = some (.slice (some ⟨bf, offf, none⟩) fn fc) ∧ w'.cell? ⟨g, 1, none⟩ = some (.int .i64 (fs : Int)) := by rw [hSd]; exact fun w' h => h
                    have s0 : ∀ s : SW S, s.w.cell? ⟨g, 0, none⟩ = some (.slice (some ⟨bf, offf, none⟩) fn fc) := fun s => (hSF _ s.h).1
                    have s1 : ∀ s : SW S, s.w.cell? ⟨g, 1, none⟩ = some (.int .i64 (fs : Int)) := fun s => (hSF _ s.h).2
                    have hS0 : S W3.drew := by rw [hSd]; exact ⟨k0, k1⟩
                    clear hSd hSF
                    refine regionL_start (by kernel_rfl) 15 rfl S 14 ?_
                    refine wpL_next 0 13 2 (by kernel_rfl) (fun _ _ d _ _ h => by cases d <;> exact h) hS0 (fun hne => ?_)
                    simp only [List.drop_succ_cons, List.drop_zero, List.take_succ_cons, List.take_zero]
                    repeat (go_big_quiet_step (fail))
                    refine wpQuiet_nil ?_
                    refine wpL_one (i := 13) (fuel := 1) (by kernel_rfl) rfl (fun KK hKK => ?_)
                    go_simp
                    refine hKK _ _ hS0 ?_
                    clear hKK KK
                    refine wpL_last (fuel := 0) (by kernel_rfl) (by kernel_rfl) rfl (fun KK hKK => ?_)
                    go_simp
                    have HS3 := HSTEP.out kp W3.drew HKP.out (HB3.out.trans ((below_drewR W3.heap.size W3).mono HB3.out.size))
                    refine calls_as HS3 ?_ ?_
                    · rw [hkp]; simp
                    rintro e w6 ⟨rfl, H6⟩
                    refine hKK _ _ ?_
                    clear hKK KK
                    obtain ⟨⟨V6, h6⟩, n6, g6⟩ := H6.out
                    go_wp2
                    go_roundw
                    case rel => exact ⟨j + 1, by omega, by go_num, congrArg (Value.int .i64) HREL.out, ⟨_, rfl⟩, ⟨_, rfl⟩, ⟨V6, h6⟩, n6, g6⟩
                    case measure => simp [intOf]; omega
                · have hkmd : decide ((cu : Int) < (m : Int)) = false := decide_eq_false (by omega)
                  obtain ⟨kp, hkp⟩ : ∃ kp : Nat, kp = 0 := ⟨_, rfl⟩
                  have HKP : Hid (kp = keepOf nums cu ⟨some ⟨bf, offf, none⟩, fn, fc, fd, fs⟩) := Lib.hid (by unfold keepOf; rw [if_neg (fun h => hkm (by omega)), hkp])
                  go_wp2
                  rw [HWW.out, HGG.out]
                  have k0 : W.drew.cell? ⟨g, 0, none⟩ = some (.slice (some ⟨bf, offf, none⟩) fn fc) := g0
                  have k1 : W.drew.cell? ⟨g, 1, none⟩ = some (.int .i64 (fs : Int)) := g1
                  obtain ⟨W3, hW3⟩ : ∃ W3, W3 = W := ⟨_, rfl⟩
                  rw [← hW3] at k0 k1 HBA ⊢
                  clear hW3
                  have HB3 := HBA
                  obtain ⟨S, hSd⟩ : ∃ S : World → Prop, S = fun w' => w'.cell? ⟨g, 0, none⟩ = some (.slice (some ⟨bf, offf, none⟩) fn fc) ∧ w'.cell? ⟨g, 1, none⟩ = some (.int .i64 (fs : Int)) := ⟨_, rfl⟩
                  have hSF : ∀ w', S w' → w'.cell? ⟨g, 0, none⟩ = some (.slice (some ⟨bf, offf, none⟩) fn fc) ∧ w'.cell? ⟨g, 1, none⟩ = some (.int .i64 (fs : Int)) := by rw [hSd]; exact fun w' h => h
                  have s0 : ∀ s : SW S, s.w.cell? ⟨g, 0, none⟩ = some (.slice (some ⟨bf, offf, none⟩) fn fc) := fun s => (hSF _ s.h).1
                  have s1 : ∀ s : SW S, s.w.cell? ⟨g, 1, none⟩ = some (.int .i64 (fs : Int)) := fun s => (hSF _ s.h).2
                  have hS0 : S W3.drew := by rw [hSd]; exact ⟨k0, k1⟩
                  clear hSd hSF
                  refine regionL_start (by kernel_rfl) 15 rfl S 14 ?_
                  refine wpL_next 0 13 2 (by kernel_rfl) (fun _ _ d _ _ h => by cases d <;> exact h) hS0 (fun hne => ?_)
                  simp only [List.drop_succ_cons, List.drop_zero, List.take_succ_cons, List.take_zero]
                  repeat (go_big_quiet_step (fail))
                  refine wpQuiet_nil ?_
                  refine wpL_one (i := 13) (fuel := 1) (by kernel_rfl) rfl (fun KK hKK => ?_)
                  go_simp
                  refine hKK _ _ hS0 ?_
                  clear hKK KK
                  refine wpL_last (fuel := 0) (by kernel_rfl) (by kernel_rfl) rfl (fun KK hKK => ?_)
                  go_simp
                  have HS3 := HSTEP.out kp W3.drew HKP.out (HB3.out.trans ((below_drewR W3.heap.size W3).mono HB3.out.size))
                  refine calls_as HS3 ?_ ?_
                  · rw [hkp]; simp
                  rintro e w6 ⟨rfl, H6⟩
                  refine hKK _ _ ?_
                  clear hKK KK
                  obtain ⟨⟨V6, h6⟩, n6, g6⟩ := H6.out
                  go_wp2
                  go_roundw
                  case rel => exact ⟨j + 1, by omega, by go_num, congrArg (Value.int .i64) HREL.out, ⟨_, rfl⟩, ⟨_, rfl⟩, ⟨V6, h6⟩, n6, g6⟩
                  case measure => simp [intOf]; omega
            · obtain rfl : j = nf := by omega
              have hn1 := H.out.old
              have HGO := Lib.hid (rgone_any (wid X w wq) x V1 (R.booting nums j) wq h1 A N.length cA N rfl (by omega) hN1.sh (by rw [booting_flen, ← HNF.out]; omega))
              have HG1 := Lib.hid hg1
              clear h1 hN1 hg1
              go_wp2_with (first
                | (go_at_call 62; refine HGO.out.mono ?_; rintro e w6 ⟨rfl, ⟨V6, h6⟩, g6⟩; have h6 := wid_wid h6 HG1.out.size g6.size H.out.old; have G6 := Lib.hid (grownx_trans HG1.out g6); have hnf6 := h6.nf; have c3 : w6.cell? ⟨x, 3, none⟩ = some (.slice V6.wA ((R.booting nums j).goned N).waits.length V6.wc) := h6.cell 3; have c5 : w6.cell? ⟨x, 5, none⟩ = some (.bool ((R.booting nums j).goned N).dead) := h6.cell 5; have c7 : w6.cell? ⟨x, 7, none⟩ = some (.int .i64 (((R.booting nums j).goned N).fuse : Int)) := h6.cell 7; have c8 : w6.cell? ⟨x, 8, none⟩ = some (.int .i64 (((R.booting nums j).goned N).fault : Int)) := h6.cell 8; have H6 := Lib.hid h6; clear h6 g6)
                | fail)
              go_ret
              have := boot_end H6.out G6.out
              rw [← HNF.out, ← HNNH.out]
              exact ⟨rfl, this.1, this.2⟩
end Go.Proofs.Ytekhockdgglndaa
