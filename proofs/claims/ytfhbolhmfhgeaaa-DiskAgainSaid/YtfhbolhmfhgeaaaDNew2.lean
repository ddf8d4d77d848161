/-
  CONTRACT OF New.
-/
import Derived.Test.YtfhbolhmfhgeaaaDNew
namespace Go.Proofs.Ytfhbolhmfhgeaaa
set_option linter.unusedVariables false
set_option linter.unusedSimpArgs false
open Go.RowKit Go.Maps

/-- What New answers: a disk with the files that were handed in, or nil. -/
structure IsNew (w w' : World) (l : List FIn) (cap : Int) (g : Nat) (L : Lay) (fs : List Fl) : Prop where
  at_ : DAt w' (Low w.heap.size) g L (newSt cap fs (namesZ l fs []))
  made : Made fs l
def Newd (w : World) (l : List FIn) (cap : Int) (e : Ending) (w' : World) : Prop :=
  Below w.heap.size w w' ∧ ((fitsB l cap && namesB l) = true ∧ (∃ g L fs, e = .returned (ptrTo g) ∧ IsNew w w' l cap g L fs) ∨ (fitsB l cap && namesB l) = false ∧ e = .returned (.pointer none))
theorem zeroDisk (w : World) : (zeroValue 77).run Try.prog w = .ok (.agg #[.int .i64 0, .slice none 0 0, .map none, .map none, .slice none 0 0, .int .i64 0, .int .i64 0, .int .i64 0, .int .i64 0, .bool false]) w := by kernel_rfl
theorem zeroIn (w : World) : (zeroValue 58).run Try.prog w = .ok (.agg #[.string ByteArray.empty, .slice none 0 0]) w := by kernel_rfl
theorem Own.toRow {w : World} {B U : Nat} {e : TypeId} {v : Value} {n : Nat} {xs : List Value} (h : Own w B e 1 v n xs) (hU : U ≤ B) : Row w (Low U) e v n xs := by
  refine ⟨?_, fun j hj => ?_⟩
  · refine ⟨h.1.1, ?_⟩
    rcases h.1.2 with h1 | ⟨g, cap, cur, h1, h2, h3⟩
    · exact .inl h1
    · exact .inr ⟨g, cap, cur, h1, Nat.zero_le _, h3⟩
  · have := (h.1.lt j hj).1
    unfold Low
    omega
/-- 'm[k] = p', as a run. -/
theorem NamesAt.update {w : World} {b : Nat} {N : NL} (h : NamesAt w b N) (hn : N.length < maxLen) {s : ByteArray} (hs : s.size ≤ maxLen) (c : Nat) :
    ∃ w', (Instr.mapUpdate 68 (.map (some b)) (.string s) (ptrTo c)).run Try.prog w = .ok () w' ∧ NamesAt w' b (nput s.data.toList c N) ∧ w.grownBy w' (some b) := by
  obtain ⟨w', h1, h2, h3⟩ := World.ownsMap.update h strLaw underlyingM hn (keyStr hs) (ptrElem_to c)
  refine ⟨w', h1, ?_, h3⟩
  rw [toD_put] at h2
  exact ownsMap_tight h2
section
variable {U g : Nat} {L : Lay} {cap : Int} {fs : List Fl} {N : NL}
theorem NAt.c2 {w : World} (h : NAt w U g L cap fs N) : w.cell? ⟨g, 2, none⟩ = some (.map (some L.nm)) := h.cells.cell 2
theorem NAt.c1 {w : World} (h : NAt w U g L cap fs N) : w.cell? ⟨g, 1, none⟩ = some L.fr := h.cells.cell 1
/-- A round of New, behind the copy of the bytes. -/
theorem new_file {u2 u3 u5 : World} (h : NAt u2 U g L cap fs N) (hU : U ≤ u2.heap.size) {v : Value} {d : List Int} (ho : Own u3 u2.heap.size 5 1 v d.length (by8 d)) (hb : Below u2.heap.size u2 u3) {N' : NL}
    (hn : NamesAt u5 L.nm N') (hg : ((u3.alloc (.cells #[v, .int .i64 0, .bool false] 80)).drew).grownBy u5 (some L.nm)) :
    NAt u5 U g L cap fs N' ∧ FileAt u5 (Low U) v ⟨u3.heap.size, d, 0, false⟩ ∧ Free fs u3.heap.size ∧ (∀ f2 ∈ fs, ∀ j, v.ownBlock = some j → (L.row f2.blk).ownBlock ≠ some j) ∧ g < u5.heap.size ∧
      ∀ (w6 : World) (v6 : Value), Row w6 (Low U) 78 v6 (fs.length + 1) (ptrs fs ++ [ptrTo u3.heap.size]) → (u5.alloc (.cells #[ptrTo u3.heap.size] 78)).grownBy w6 L.fr.ownBlock →
        w6.cell? ⟨g, 1, none⟩ = some L.fr ∧ w6.frozen? ⟨g, 1, none⟩ = false ∧ NAt (w6.setCell ⟨g, 1, none⟩ v6) U g { L.up u3.heap.size v with fr := v6 } cap (fs ++ [⟨u3.heap.size, d, 0, false⟩]) N' := by
  have h4 : NAt ((u3.alloc (.cells #[v, .int .i64 0, .bool false] 80)).drew) U g L cap fs N := ((h.grown (grown_of_below hb none)).grown (World.grownBy_alloc _ _ none)).grown ((Quiet.one _ 1).grown none)
  have h5 := h4.put hg hn
  have hrow0 : Row ((u3.alloc (.cells #[v, .int .i64 0, .bool false] 80)).drew) (Low U) 5 v d.length (by8 d) := (ho.toRow hU).stay fun j hj => Below.heap_alloc _ _ _ ((ho.toRow hU).lt hj)
  have hb0 : Blk ((u3.alloc (.cells #[v, .int .i64 0, .bool false] 80)).drew) u3.heap.size 80 (fileCells v ⟨u3.heap.size, d, 0, false⟩) := Blk.new u3 _ _
  have hsz := hb.size
  have hfa : FileAt u5 (Low U) v ⟨u3.heap.size, d, 0, false⟩ := ⟨hb0.keep hg (fun e => h4.nm.ne_blk hb0 (by injection e)), by unfold Low; show ¬ u3.heap.size < U; omega,
    hrow0.stay fun j hj => hg.block j (hrow0.lt hj) (fun e => hrow0.ne_names h4.nm (by rw [hj]; exact e))⟩
  have hfree : Free fs u3.heap.size := fun f hf e => by
    have := (h.fo f hf).blk.lt
    omega
  have hv : ∀ f2 ∈ fs, ∀ j, v.ownBlock = some j → (L.row f2.blk).ownBlock ≠ some j := fun f2 h2 j hj e => by
    have h3 := (h.fo f2 h2).row.lt e
    have h6 := (ho.1.lt j hj).1
    omega
  refine ⟨h5, hfa, hfree, hv, h5.cells.lt, fun w6 v6 hr6 hg6 => ?_⟩
  have hga := grown_trans (World.grownBy_alloc u5 (.cells #[ptrTo u3.heap.size] 78) L.fr.ownBlock) hg6
  have hc6 := h5.cells.keep hga (fun e => h5.fr.ne_blk h5.cells (by decide) e)
  exact ⟨hc6.cell 1, hc6.nf 1, h5.push hfa hfree hv hr6 hg6⟩
end

theorem namesZ_len : ∀ (l : List FIn) (fs : List Fl) (N : NL), (namesZ l fs N).length ≤ N.length + l.length
  | [], [], N => by simp [namesZ]
  | [], _ :: _, N => by simp [namesZ]
  | _ :: _, [], N => by simp [namesZ]
  | x :: l, f :: fs, N => by
    have h1 := namesZ_len l fs (nput x.s.data.toList f.blk N)
    have h2 := len_nput_le x.s.data.toList f.blk N
    show (namesZ l fs (nput x.s.data.toList f.blk N)).length ≤ _
    simp only [List.length_cons]
    omega
/-- How far New has come. -/
structure Under (w wr : World) (g : Nat) (l : List FIn) (cap : Int) (k : Nat) (L : Lay) (fs : List Fl) : Prop where
  at_ : NAt wr w.heap.size g L cap fs (namesZ (l.take k) fs [])
  made : Made fs (l.take k)
  good : ∀ j x, j < k → l[j]? = some x → nameB (keyF x) = true ∧ ∀ y ∈ l.take j, keyF y ≠ keyF x
  below : Below w.heap.size w wr

set_option maxRecDepth 100000 in
set_option maxHeartbeats 6400000 in
theorem new_any (A : Option Addr) (n c : Nat) (l : List FIn) (cap : Int) (w : World) (h : InAt w w.heap.size A n l) (hn : n ≤ maxLen) :
    Calls Try.prog 11 #[.slice A n c, .int .i64 cap] w (Newd w l cap) := by
  have hmm := @run_makeMap Try.prog
  have hzd := zeroDisk
  have hzi := zeroIn
  have hzf := zeroFile
  have HF := Lib.hid (fits_any A n c l cap w h hn)
  have HI := Lib.hid h
  have HL := Lib.hid h.1
  have HNM := Lib.hid hn
  cases hfit : fitsB l cap with
  | false =>
    rw [hfit] at HF
    have HFI := Lib.hid hfit
    clear h hn hfit
    go_enter Try.func11, Try.ntmps11
    go_wp2_with (first
      | (go_at_call 35; refine HF.out.mono ?_; rintro e w1 ⟨rfl, hb1⟩; have HB1 := Lib.hid hb1; clear hb1)
      | go_in)
    go_ret
    exact ⟨HB1.out, .inr ⟨by rw [HFI.out]; rfl, rfl⟩⟩
  | true =>
    rw [hfit] at HF
    have hn64 : n ≤ 64 := by
      have h1 := h.1
      unfold fitsB at hfit
      have := of_decide_eq_true hfit
      omega
    have HFI := Lib.hid hfit
    clear h hn hfit
    go_enter Try.func11, Try.ntmps11
    go_wp2_with (first
      | (go_at_call 35; refine HF.out.mono ?_; rintro e w1 ⟨rfl, hb1⟩; have HB1 := Lib.hid hb1; clear hb1)
      | go_in)
    obtain ⟨wS, hwS⟩ : ∃ wS, wS = (w1.alloc (.map #[] 0)).alloc (.cells #[.int .i64 cap, .slice none 0 0, .map (some w1.heap.size), .map none, .slice none 0 0, .int .i64 0, .int .i64 0, .int .i64 0, .int .i64 0, .bool false] 77) := ⟨_, rfl⟩
    have hst : Under w wS (w1.heap.size + 1) l cap 0 { fr := .slice none 0 0, wr := .slice none 0 0, nm := w1.heap.size, sm := 0, row := fun _ => .slice none 0 0 } [] := by
      have hsz := HB1.out.size
      have hb2 : Below w.heap.size w wS := by
        rw [hwS]
        exact (HB1.out.alloc hsz _).alloc (by simp; omega) _
      have hnm : NamesAt wS w1.heap.size [] := by
        rw [hwS]
        exact (NamesAt.made w1).keep (World.grownBy_alloc _ _ none) (by simp)
      have hcl : Blk wS (w1.heap.size + 1) 77 [.int .i64 cap, .slice none 0 0, .map (some w1.heap.size), .map none, .slice none 0 0, .int .i64 0, .int .i64 0, .int .i64 0, .int .i64 0, .bool false] := by
        rw [hwS]
        have := Blk.new (w1.alloc (.map #[] 0)) 77 [.int .i64 cap, .slice none 0 0, .map (some w1.heap.size), .map none, .slice none 0 0, .int .i64 0, .int .i64 0, .int .i64 0, .int .i64 0, .bool false]
        simpa using this
      refine ⟨⟨by omega, hcl, Row.nil _ _ _, hnm, hsz, (fun f hf => by cases hf), List.Pairwise.nil⟩, trivial, (fun j x hj _ => by omega), hb2⟩
    have HST := Lib.hid hst
    rw [← hwS]
    clear hst hwS
    obtain ⟨g, hg⟩ : ∃ g, g = w1.heap.size + 1 := ⟨_, rfl⟩
    have hg' : ((w1.heap.size + 1 : Nat)) = g := hg.symm
    rw [hg'] at HST ⊢
    clear hg hg'
    go_loopw [19] (fun i wr => ∃ (k : Nat) (L : Lay) (fs : List Fl), k ≤ n ∧ i = .int .i64 k ∧ Under w wr g l cap k L fs) (fun i _ => n - (intOf i).toNat)
    case atStart => exact ⟨0, _, [], Nat.zero_le _, rfl, HST.out⟩
    case round =>
      obtain ⟨k, L, fs, hk, rfl, hu⟩ := hrel
      obtain ⟨wq, hwq⟩ : ∃ wq, wq = wr := ⟨_, rfl⟩
      subst hwq
      have hszU := hu.below.size
      by_cases hlt : k < n
      · obtain ⟨b, off, D, cd, f, hf, rfl, hbU, hc0, hc1, hsh, hs, hd⟩ := (HI.out.below hu.below).at hlt
        have hU := Lib.hid hu
        have hfs : fs.length = k := by have := hu.made.len; have h1 := HL.out; rw [List.length_take] at this; omega
        have hnk : (namesZ (l.take k) fs []).length ≤ 64 := by
          have := namesZ_len (l.take k) fs []
          rw [List.length_take] at this
          simp at this
          omega
        have hdl : f.d.length ≤ 1048576 := by
          have h1 := sizeF_le l (k + 1)
          rw [sizeF_snoc hf] at h1
          have h2 := HFI.out
          unfold fitsB at h2
          have := of_decide_eq_true h2
          omega
        obtain ⟨u1, hu1⟩ : ∃ u1, u1 = wq.alloc (.cells #[.string f.s, .slice D f.d.length cd] 58) := ⟨_, rfl⟩
        have hb1' : Below w.heap.size w u1 := by rw [hu1]; exact hu.below.alloc hszU _
        have hN1 : NAt u1 w.heap.size g L cap fs (namesZ (l.take k) fs []) := by rw [hu1]; exact hu.at_.grown (World.grownBy_alloc _ _ none)
        have hbox : Blk u1 wq.heap.size 58 [.string f.s, .slice D f.d.length cd] := by rw [hu1]; exact Blk.new wq _ _
        have hsh1 : Sh u1 w.heap.size D f.d.length (by8 f.d) := by rw [hu1]; exact hsh.alloc hszU _
        have x0 := hbox.cell 0
        have x1 := hbox.cell 1
        have c2 := hN1.c2
        have HBX := Lib.hid hbox
        have HN1 := Lib.hid hN1
        have HSH := Lib.hid hsh1
        have HB1' := Lib.hid hb1'
        have HFF := Lib.hid hf
        have HFS := Lib.hid hfs
        have HK := Lib.hid (namesZ_none (k := keyF f) (l := l.take k) (fs := fs) (N := []) Ris.nil (by have := hu.made.len; exact this))
        have HU1 := Lib.hid hu1.symm
        clear hu hf hu1 hN1 hbox hsh hsh1 hb1' hfs
        cases hlk : nat? (keyF f) (namesZ (l.take k) fs []) with
        | some b0 =>
          have hbad : namesB l = false := by
            refine namesB_bad HFF.out (.inr ?_)
            refine Classical.byContradiction fun hno => ?_
            have : nat? (keyF f) (namesZ (l.take k) fs []) = none := HK.out.2 ⟨rfl, fun x hx e => hno ⟨x, hx, e⟩⟩
            rw [hlk] at this
            cases this
          have hl := looks HN1.out.nm hs (v := .pointer (some ⟨b0, 0, none⟩)) (by unfold keyF at hlk; rw [hlk]; rfl)
          have HBAD := Lib.hid hbad
          clear hbad hlk
          go_wp2
          rw [HU1.out]
          go_quiet (fail)
          go_wp2
          go_ret
          exact ⟨HB1'.out.trans ((Quiet.one u1 _).below _), .inr ⟨by rw [HBAD.out, Bool.and_false], rfl⟩⟩
        | none =>
          have hl := looks HN1.out.nm hs (v := .pointer none) (by unfold keyF at hlk; rw [hlk]; rfl)
          have hnew := HK.out.1 hlk
          have HNEW := Lib.hid hnew
          have HLK := Lib.hid hlk
          clear hnew hlk
          cases hnb : nameB f.s.data.toList with
          | false =>
            have hbad : namesB l = false := namesB_bad HFF.out (.inl hnb)
            have HBAD := Lib.hid hbad
            have HNA := Lib.hid (fun w => name_any f.s w hs)
            rw [hnb] at HNA
            clear hbad hnb
            go_wp2
            rw [HU1.out]
            go_quiet ((go_at_call 18; exact Calls.quiet_of_same ((HNA.out _).mono fun e w' ⟨h1, h2⟩ => ⟨h1, h2.symm⟩)))
            go_wp2
            go_ret
            exact ⟨HB1'.out.trans ((Quiet.one u1 _).below _), .inr ⟨by rw [HBAD.out, Bool.and_false], rfl⟩⟩
          | true =>
            have HNB := Lib.hid hnb
            have HNA := Lib.hid (fun w => name_any f.s w hs)
            rw [hnb] at HNA
            clear hnb
            go_wp2
            rw [HU1.out]
            go_quiet ((go_at_call 18; exact Calls.quiet_of_same ((HNA.out _).mono fun e w' ⟨h1, h2⟩ => ⟨h1, h2.symm⟩)))
            obtain ⟨u2, hu2⟩ : ∃ u2, u2 = u1.drewN nq := ⟨_, rfl⟩
            have hN2 : NAt u2 w.heap.size g L cap fs (namesZ (l.take k) fs []) := by rw [hu2]; exact HN1.out.grown ((Quiet.one u1 nq).grown none)
            have hbox2 : Blk u2 wq.heap.size 58 [.string f.s, .slice D f.d.length cd] := by rw [hu2]; exact HBX.out
            have hb2 : Below w.heap.size w u2 := by rw [hu2]; exact HB1'.out.trans ((Quiet.one u1 nq).below _)
            have HCL := Lib.hid (clone_any D f.d.length cd f.d u2 w.heap.size (by rw [hu2]; exact HSH.out) hb2.size (by omega))
            have y1 := hbox2.cell 1
            have hlt2 := hbox2.lt
            have HN2 := Lib.hid hN2
            have HBX2 := Lib.hid hbox2
            have HB2 := Lib.hid hb2
            rw [← hu2]
            clear hu2 hN2 hbox2 hb2 hl x0 x1 c2
            go_wp2_with (first
              | (go_at_call 36; refine HCL.out.mono ?_; rintro e u3 ⟨v3, rfl, ho3, hb3⟩; obtain ⟨A3, c3, rfl⟩ := ho3.form; have HO3 := Lib.hid ho3; have HB3 := Lib.hid hb3; clear ho3 hb3)
              | fail)
            obtain ⟨u4, hu4⟩ : ∃ u4, u4 = u3.alloc (.cells #[.slice A3 f.d.length c3, .int .i64 0, .bool false] 80) := ⟨_, rfl⟩
            have hgr3 : u2.grownBy u3 none := grown_of_below HB3.out none
            have hbox4 : Blk u4 wq.heap.size 58 [.string f.s, .slice D f.d.length cd] := by rw [hu4]; exact (HBX2.out.keep hgr3 (by simp)).keep (World.grownBy_alloc _ _ none) (by simp)
            have hN4 : NAt u4 w.heap.size g L cap fs (namesZ (l.take k) fs []) := by rw [hu4]; exact (HN2.out.grown hgr3).grown (World.grownBy_alloc _ _ none)
            obtain ⟨u5, hrun, hn5, hg5⟩ := (show NamesAt u4.drew L.nm (namesZ (l.take k) fs []) from hN4.nm).update (by unfold maxLen; omega) hs u3.heap.size
            have d0 := hbox4.cell 0
            have d2 := hN4.c2
            have hfile := new_file HN2.out HB2.out.size HO3.out HB3.out hn5 (by rw [← hu4]; exact hg5)
            obtain ⟨hN5, hfa, hfree, hvv, hg5l, hfin⟩ := hfile
            have e1 := hN5.c1
            have hr5 := hN5.fr
            have hold5 : ∀ b, Low w.heap.size b → b < u5.heap.size := fun b hb => by
              have h1 := HB2.out.size
              have h2 := hgr3.size
              have h3 := hg5.size
              have h4 : u4.drew.heap.size = u3.heap.size + 1 := by rw [hu4]; simp
              unfold Low at hb
              omega
            have HFIN := Lib.hid hfin
            have HBEL := Lib.hid (show Below w.heap.size w u5 by
              have h1 : Below w.heap.size w u4 := by rw [hu4]; exact (HB2.out.trans (HB3.out.mono HB2.out.size)).alloc (by have := HB2.out.size; have := hgr3.size; omega) _
              exact (h1.trans ((Quiet.one u4 1).below _)).grown hg5 h1.size (fun j hj => by cases hj; exact hN4.nmU))
            have HGU := Lib.hid hN5.gU
            have HU4 := Lib.hid hu4.symm
            rw [HU4.out]
            have hfl5 : fs.length ≤ 1099511627776 := by have := HFS.out; omega
            clear hgr3 hbox4 hN4 hn5 hg5 hfa hfree hvv hfin hN5 hu4 y1 hlt2
            unfold ptrs ptrTo at hr5
            unfold ptrs ptrTo at HFIN
            unfold ptrTo at hrun
            go_region
            go_wp2_with (first
              | (at_builtin; refine wpList_rowpush rfl (.tmp 53) (.tmp 55) 69 rfl rowF u5 (Low w.heap.size) L.fr _ _ _ rfl hr5 rfl rfl hold5 hfl5 (by omega) ?_; intro v6 w6 hrow6 hg6 hl6; obtain ⟨A6, cc6, rfl, _, _⟩ := hrow6.form; obtain ⟨m1, z1, hN6⟩ := HFIN.out w6 _ hrow6 hg6; have HN6 := Lib.hid hN6; have HG6 := Lib.hid hg6; clear hN6)
              | go_in)
            go_roundw
            case rel =>
              have hmk : Made fs (l.take k) := hU.out.made
              have htk : l.take (k + 1) = l.take k ++ [f] := by
                obtain ⟨a1, a2⟩ := List.getElem?_eq_some_iff.1 HFF.out
                rw [List.take_succ_eq_append_getElem a1, a2]
              refine ⟨k + 1, { L.up u3.heap.size (.slice A3 f.d.length c3) with fr := .slice A6 (fs.length + 1) cc6 }, fs ++ [⟨u3.heap.size, f.d, 0, false⟩], by omega, by go_num, ⟨?_, ?_, ?_, ?_⟩⟩
              · have e := namesZ_snoc (⟨u3.heap.size, f.d, 0, false⟩ : Fl) f ([] : NL) hmk.len
                rw [htk, e]
                exact HN6.out
              · rw [htk]
                exact hmk.snoc ⟨rfl, rfl, rfl⟩
              · intro j x hj hx
                by_cases e : j = k
                · subst e
                  rw [HFF.out] at hx
                  cases hx
                  exact ⟨HNB.out, HNEW.out.2⟩
                · exact hU.out.good j x (by omega) hx
              · exact (HBEL.out.grown (grown_trans (World.grownBy_alloc u5 _ _) HG6.out) HBEL.out.size (fun j hj => by
                  have := hr5.2 j hj
                  unfold Low at this
                  omega)).setCell (p := ⟨g, 1, none⟩) HGU.out _
            case measure => simp [intOf]; omega
      · obtain rfl : k = n := by omega
        have htl : l.take k = l := List.take_of_length_le (by rw [HL.out]; exact Nat.le_refl _)
        have hN := hu.at_
        have hMd := hu.made
        have hgd := hu.good
        rw [htl] at hN hMd
        have hok : (fitsB l cap && namesB l) = true := by
          rw [HFI.out, Bool.true_and]
          exact namesB_all fun j x hx => hgd j x (by have := (List.getElem?_eq_some_iff.1 hx).1; have := HL.out; omega) hx
        have hlen : (namesZ l fs []).length ≤ 1000000 := by
          have h1 := namesZ_len l fs []
          have h2 := HL.out
          simp at h1
          omega
        have c2 := hN.c2
        have HCP := Lib.hid (copied_any L.nm (namesZ l fs []) wq hN.nm hlen)
        have HDK := Lib.hid (fun w8 (hs : NamesAt w8 wq.heap.size (namesZ l fs [])) (hb : Below wq.heap.size wq w8) => hN.disk hs (Nat.le_refl _) hb hszU)
        have HGU := Lib.hid hN.gU
        have HMD := Lib.hid hMd
        have HOK := Lib.hid hok
        have HBW := Lib.hid hu.below
        clear hu hN hMd hgd hok htl
        go_wp2_with (first
          | (go_at_call 37; refine HCP.out.mono ?_; rintro e w8 ⟨rfl, h8, hb8⟩; obtain ⟨m3, z3, hd8⟩ := HDK.out w8 h8 hb8; have HD8 := Lib.hid hd8; have HB8 := Lib.hid hb8; clear h8 hb8 hd8)
          | go_in)
        go_ret
        exact ⟨(HBW.out.trans (HB8.out.mono HBW.out.size)).setCell (p := ⟨g, 3, none⟩) HGU.out _, .inl ⟨HOK.out, g, _, fs, rfl, HD8.out, HMD.out⟩⟩
end Go.Proofs.Ytfhbolhmfhgeaaa
