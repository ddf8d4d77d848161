import Derived.Test.YtjoclbeoafeebaaSq
import Derived.Test.YtjoclbeoafeebaaScopeOrdersV
set_option maxHeartbeats 6400000
set_option maxRecDepth 100000
namespace Go.Proofs.Ytjoclbeoafeebaa
set_option linter.unusedVariables false
set_option linter.unusedSimpArgs false
open Go.RowKit
def Qif:ByteArray:=⟨#[97]⟩
def Qig:ByteArray:=⟨#[98]⟩
def Qfe:MoT:=⟨[⟨Qig,7⟩],true,[],false,[],[],[]⟩
def mb17:MoT:=⟨[⟨Qif,9⟩],false,[],false,[],[],[]⟩
def Qjt(i:Nat):MoV:=⟨.slice (some ⟨i,0,none⟩) 1 1,Qk,Qk,Qk,Qk⟩
theorem aw17_new:Qe8 [Qif,Qig] [Qfe.sm,MoT.nul.sm]=none:=by decide +kernel
theorem aw17_ord:Qnr [Qif,Qig] [Qfe.sm,MoT.nul.sm]=[1,0]:=by decide +kernel
theorem aw17_bad:Qe8 [Qif,Qig] [Qfe.sm,mb17.sm]=some (0,7,14):=by decide +kernel
theorem aw17_a:idB Qif=true:=by decide +kernel
theorem aw17_b:idB Qig=true:=by decide +kernel
theorem fine_a:Qfe.Fine∧Qfe.Cap 1000:=⟨⟨fun x hx=>by simp [Qfe] at hx;rw [hx];exact aw17_b,fun x hx=>by simp [Qfe] at hx,fun x hx=>by simp [Qfe] at hx⟩,by decide,by decide,by decide,by decide,by decide⟩
theorem fine_b:mb17.Fine∧mb17.Cap 1000:=⟨⟨fun x hx=>by simp [mb17] at hx;rw [hx];exact aw17_a,fun x hx=>by simp [mb17] at hx,fun x hx=>by simp [mb17] at hx⟩,by decide,by decide,by decide,by decide,by decide⟩
theorem fine_0:MoT.nul.Fine∧MoT.nul.Cap 1000:=⟨MoT.nul_fine,MoT.nul_cap.up (by decide)⟩
theorem Qn9{w:World}{i:Nat}{m:MoT}{x:NmT}(hx:m.im=[x])(h1:m.la=[])(h2:m.ef=[])(h3:m.va=[])(h4:m.fn=[])(hb:Var w i [.string x.nm,.int .i64 x.a]):Zx w (fun _=>True) m (Qjt i):=by
 refine ⟨?_,by rw [h1];exact .nil,by rw [h2];exact .nil,by rw [h3];exact .nil,[],by rw [h4];rfl,.nil,fun q hq=>by cases hq⟩
 rw [hx]
 refine ⟨_,_,rfl,Nat.le_refl _,fun _=>⟨i,0,rfl,trivial,hb.lt,fun j u hu=>?_⟩⟩
 exact hb.rg j u hu
theorem sh2{w:World}{i:Nat}{a b:ByteArray}(h:Var w i [.string a,.string b]):Sh w w.heap.size (some ⟨i,0,none⟩) 2 (Z0 [a,b]):=by
 refine ⟨rfl,fun _=>⟨i,0,rfl,h.lt,fun k u hu=>?_⟩⟩
 exact h.rg k u hu
theorem shmo2{w:World}{i:Nat}{m1 m2:MoT}{v1 v2:MoV}(h:Var w i (mos [(m1,v1),(m2,v2)]))(h1:Zx w (fun _=>True) m1 v1)(h2:Zx w (fun _=>True) m2 v2):Y4 w (fun _=>True) (some ⟨i,0,none⟩) 2 [(m1,v1),(m2,v2)]:=by
 refine ⟨rfl,fun _=>⟨i,0,rfl,trivial,h.lt,h.rg⟩,fun q hq=>?_⟩
 rcases List.mem_cons.1 hq with rfl | hq
 ·exact h1
 ·rw [List.mem_singleton.1 hq];exact h2
@[reducible] def aw6 (w:World):World:=((((((w.alloc (.cells #[.string ⟨#[98]⟩,.int .i64 7] 53)).alloc (.cells #[.slice (some ⟨w.heap.size,0,none⟩) 1 1,.bool true,.slice none 0 0,.bool false,.slice none 0 0,.slice none 0 0,.slice none 0 0] 51)).alloc (.cells #[.string ⟨#[97]⟩,.int .i64 9] 53)).alloc (.cells #[.slice (some ⟨w.heap.size+1+1,0,none⟩) 1 1,.bool false,.slice none 0 0,.bool false,.slice none 0 0,.slice none 0 0,.slice none 0 0] 51)).alloc (.cells #[.string ⟨#[97]⟩,.string ⟨#[98]⟩] 9)).alloc (.cells #[.slice (some ⟨w.heap.size,0,none⟩) 1 1,.bool true,.slice none 0 0,.bool false,.slice none 0 0,.slice none 0 0,.slice none 0 0,.slice none 0 0,.bool false,.slice none 0 0,.bool false,.slice none 0 0,.slice none 0 0,.slice none 0 0] 51))
@[reducible] def aw2 (X w:World):World:=((X.alloc (.cells #[.string ⟨#[97]⟩,.string ⟨#[98]⟩] 9)).alloc (.cells #[.slice (some ⟨w.heap.size,0,none⟩) 1 1,.bool true,.slice none 0 0,.bool false,.slice none 0 0,.slice none 0 0,.slice none 0 0,.slice (some ⟨w.heap.size+1+1,0,none⟩) 1 1,.bool false,.slice none 0 0,.bool false,.slice none 0 0,.slice none 0 0,.slice none 0 0] 51))
theorem aw_hv(w:World):Var (aw6 w) w.heap.size [.string Qig,.int .i64 7]∧Var (aw6 w) (w.heap.size+1) (moC true false (Qjt w.heap.size))∧Var (aw6 w) (w.heap.size+1+1) [.string Qif,.int .i64 9]∧Var (aw6 w) (w.heap.size+1+1+1) (moC false false (Qjt (w.heap.size+1+1)))∧Var (aw6 w) (w.heap.size+1+1+1+1) [.string Qif,.string Qig]∧Var (aw6 w) (w.heap.size+1+1+1+1+1) (mos [(Qfe,Qjt w.heap.size),(MoT.nul,MoV.nul)])∧Below w.heap.size w (aw6 w):=by
 unfold aw6
 have V1:=Var.new w [.string Qig,.int .i64 7] 53 (c:=#[.string ⟨#[98]⟩,.int .i64 7]) rfl
 have B1:Below w.heap.size w (w.alloc (.cells #[.string ⟨#[98]⟩,.int .i64 7] 53)):=bAl
 obtain ⟨X1,h1⟩:∃ X,w.alloc (.cells #[.string ⟨#[98]⟩,.int .i64 7] 53)=X:=⟨_,rfl⟩
 have s1:X1.heap.size=w.heap.size+1:=by rw [← h1];simp
 rw [h1] at V1 B1 ⊢
 have V2:=Var.new X1 (moC true false (Qjt w.heap.size)) 51 (c:=#[.slice (some ⟨w.heap.size,0,none⟩) 1 1,.bool true,.slice none 0 0,.bool false,.slice none 0 0,.slice none 0 0,.slice none 0 0]) rfl
 have V1:=V1.under (w':=X1.alloc (.cells #[.slice (some ⟨w.heap.size,0,none⟩) 1 1,.bool true,.slice none 0 0,.bool false,.slice none 0 0,.slice none 0 0,.slice none 0 0] 51)) bAl
 have B2:Below w.heap.size w (X1.alloc (.cells #[.slice (some ⟨w.heap.size,0,none⟩) 1 1,.bool true,.slice none 0 0,.bool false,.slice none 0 0,.slice none 0 0,.slice none 0 0] 51)):=B1.alloc B1.size _
 obtain ⟨X2,h2⟩:∃ X,X1.alloc (.cells #[.slice (some ⟨w.heap.size,0,none⟩) 1 1,.bool true,.slice none 0 0,.bool false,.slice none 0 0,.slice none 0 0,.slice none 0 0] 51)=X:=⟨_,rfl⟩
 have s2:X2.heap.size=w.heap.size+1+1:=by rw [← h2];simp [s1]
 rw [h2] at V1 V2 B2 ⊢
 rw [s1] at V2
 have V3:=Var.new X2 [.string Qif,.int .i64 9] 53 (c:=#[.string ⟨#[97]⟩,.int .i64 9]) rfl
 have V1:=V1.under (w':=X2.alloc (.cells #[.string ⟨#[97]⟩,.int .i64 9] 53)) bAl
 have V2:=V2.under (w':=X2.alloc (.cells #[.string ⟨#[97]⟩,.int .i64 9] 53)) bAl
 have B3:Below w.heap.size w (X2.alloc (.cells #[.string ⟨#[97]⟩,.int .i64 9] 53)):=B2.alloc B2.size _
 obtain ⟨X3,h3⟩:∃ X,X2.alloc (.cells #[.string ⟨#[97]⟩,.int .i64 9] 53)=X:=⟨_,rfl⟩
 have s3:X3.heap.size=w.heap.size+1+1+1:=by rw [← h3];simp [s2]
 rw [h3] at V1 V2 V3 B3 ⊢
 rw [s2] at V3
 have V4:=Var.new X3 (moC false false (Qjt (w.heap.size+1+1))) 51 (c:=#[.slice (some ⟨w.heap.size+1+1,0,none⟩) 1 1,.bool false,.slice none 0 0,.bool false,.slice none 0 0,.slice none 0 0,.slice none 0 0]) rfl
 have V1:=V1.under (w':=X3.alloc (.cells #[.slice (some ⟨w.heap.size+1+1,0,none⟩) 1 1,.bool false,.slice none 0 0,.bool false,.slice none 0 0,.slice none 0 0,.slice none 0 0] 51)) bAl
 have V2:=V2.under (w':=X3.alloc (.cells #[.slice (some ⟨w.heap.size+1+1,0,none⟩) 1 1,.bool false,.slice none 0 0,.bool false,.slice none 0 0,.slice none 0 0,.slice none 0 0] 51)) bAl
 have V3:=V3.under (w':=X3.alloc (.cells #[.slice (some ⟨w.heap.size+1+1,0,none⟩) 1 1,.bool false,.slice none 0 0,.bool false,.slice none 0 0,.slice none 0 0,.slice none 0 0] 51)) bAl
 have B4:Below w.heap.size w (X3.alloc (.cells #[.slice (some ⟨w.heap.size+1+1,0,none⟩) 1 1,.bool false,.slice none 0 0,.bool false,.slice none 0 0,.slice none 0 0,.slice none 0 0] 51)):=B3.alloc B3.size _
 obtain ⟨X4,h4⟩:∃ X,X3.alloc (.cells #[.slice (some ⟨w.heap.size+1+1,0,none⟩) 1 1,.bool false,.slice none 0 0,.bool false,.slice none 0 0,.slice none 0 0,.slice none 0 0] 51)=X:=⟨_,rfl⟩
 have s4:X4.heap.size=w.heap.size+1+1+1+1:=by rw [← h4];simp [s3]
 rw [h4] at V1 V2 V3 V4 B4 ⊢
 rw [s3] at V4
 have V5:=Var.new X4 [.string Qif,.string Qig] 9 (c:=#[.string ⟨#[97]⟩,.string ⟨#[98]⟩]) rfl
 have V1:=V1.under (w':=X4.alloc (.cells #[.string ⟨#[97]⟩,.string ⟨#[98]⟩] 9)) bAl
 have V2:=V2.under (w':=X4.alloc (.cells #[.string ⟨#[97]⟩,.string ⟨#[98]⟩] 9)) bAl
 have V3:=V3.under (w':=X4.alloc (.cells #[.string ⟨#[97]⟩,.string ⟨#[98]⟩] 9)) bAl
 have V4:=V4.under (w':=X4.alloc (.cells #[.string ⟨#[97]⟩,.string ⟨#[98]⟩] 9)) bAl
 have B5:Below w.heap.size w (X4.alloc (.cells #[.string ⟨#[97]⟩,.string ⟨#[98]⟩] 9)):=B4.alloc B4.size _
 obtain ⟨X5,h5⟩:∃ X,X4.alloc (.cells #[.string ⟨#[97]⟩,.string ⟨#[98]⟩] 9)=X:=⟨_,rfl⟩
 have s5:X5.heap.size=w.heap.size+1+1+1+1+1:=by rw [← h5];simp [s4]
 rw [h5] at V1 V2 V3 V4 V5 B5 ⊢
 rw [s4] at V5
 have V6:=Var.new X5 (mos [(Qfe,Qjt w.heap.size),(MoT.nul,MoV.nul)]) 51 (c:=#[.slice (some ⟨w.heap.size,0,none⟩) 1 1,.bool true,.slice none 0 0,.bool false,.slice none 0 0,.slice none 0 0,.slice none 0 0,.slice none 0 0,.bool false,.slice none 0 0,.bool false,.slice none 0 0,.slice none 0 0,.slice none 0 0]) rfl
 rw [s5] at V6
 exact ⟨V1.under bAl,V2.under bAl,V3.under bAl,V4.under bAl,V5.under bAl,V6,B5.alloc B5.size _⟩
theorem aw_n1(HI:Qid)(w:World):CP 9 #[.slice (some ⟨w.heap.size+1+1+1+1,0,none⟩) 2 2,.slice (some ⟨w.heap.size+1+1+1+1+1,0,none⟩) 2 2] (aw6 w) fun e w'=>Below (aw6 w).heap.size (aw6 w) w'∧∃ g P,e=.returned (.tuple #[.pointer (some ⟨g,0,none⟩),.int .i64 0,.int .i64 0,.int .i64 0])∧ScC [Qif,Qig] [Qfe.sm,MoT.nul.sm] g w'.heap.size P∧P w':=by
 obtain ⟨V1,V2,V3,V4,V5,V6,VB⟩:=aw_hv w
 obtain ⟨X,hX⟩:∃ X,(aw6 w)=X:=⟨_,rfl⟩
 rw [hX] at V1 V5 V6 ⊢
 have:=HI.new X _ _ 2 2 2 2 _ [Qif,Qig] (fun _=>True) (shmo2 V6 (Qn9 (m:=Qfe) rfl rfl rfl rfl rfl V1) Zx.nul) (by decide) (by decide) (sh2 V5) (by decide) (by decide) (by decide) (fun q hq=>by
  rcases List.mem_cons.1 hq with rfl | hq
  ·exact fine_a
  ·rw [List.mem_singleton.1 hq];exact fine_0)
 unfold Qk0 at this
 rw [show Qm [(Qfe,Qjt w.heap.size),(MoT.nul,MoV.nul)]=[Qfe.sm,MoT.nul.sm] from rfl,aw17_new] at this
 exact this
theorem aw_n2(HI:Qid)(w:World)(X:World)(V1:Var X w.heap.size [.string Qig,.int .i64 7])(V3:Var X (w.heap.size+1+1) [.string Qif,.int .i64 9]):CP 9 #[.slice (some ⟨X.heap.size,0,none⟩) 2 2,.slice (some ⟨X.heap.size+1,0,none⟩) 2 2] (aw2 X w) fun e w'=>Below (aw2 X w).heap.size (aw2 X w) w'∧e=.returned (.tuple #[.pointer none,.int .i64 0,.int .i64 7,.int .i64 14]):=by
 have V5:=(Var.new X [.string Qif,.string Qig] 9 (c:=#[.string ⟨#[97]⟩,.string ⟨#[98]⟩]) rfl).under (w':=(X.alloc (.cells #[.string ⟨#[97]⟩,.string ⟨#[98]⟩] 9)).alloc (.cells #[.slice (some ⟨w.heap.size,0,none⟩) 1 1,.bool true,.slice none 0 0,.bool false,.slice none 0 0,.slice none 0 0,.slice none 0 0,.slice (some ⟨w.heap.size+1+1,0,none⟩) 1 1,.bool false,.slice none 0 0,.bool false,.slice none 0 0,.slice none 0 0,.slice none 0 0] 51)) bAl
 have s1:(X.alloc (.cells #[.string ⟨#[97]⟩,.string ⟨#[98]⟩] 9)).heap.size=X.heap.size+1:=by simp
 have V6:=Var.new (X.alloc (.cells #[.string ⟨#[97]⟩,.string ⟨#[98]⟩] 9)) (mos [(Qfe,Qjt w.heap.size),(mb17,Qjt (w.heap.size+1+1))]) 51 (c:=#[.slice (some ⟨w.heap.size,0,none⟩) 1 1,.bool true,.slice none 0 0,.bool false,.slice none 0 0,.slice none 0 0,.slice none 0 0,.slice (some ⟨w.heap.size+1+1,0,none⟩) 1 1,.bool false,.slice none 0 0,.bool false,.slice none 0 0,.slice none 0 0,.slice none 0 0]) rfl
 rw [s1] at V6
 have V1:=(V1.under (w':=X.alloc (.cells #[.string ⟨#[97]⟩,.string ⟨#[98]⟩] 9)) bAl).under (w':=(X.alloc (.cells #[.string ⟨#[97]⟩,.string ⟨#[98]⟩] 9)).alloc (.cells #[.slice (some ⟨w.heap.size,0,none⟩) 1 1,.bool true,.slice none 0 0,.bool false,.slice none 0 0,.slice none 0 0,.slice none 0 0,.slice (some ⟨w.heap.size+1+1,0,none⟩) 1 1,.bool false,.slice none 0 0,.bool false,.slice none 0 0,.slice none 0 0,.slice none 0 0] 51)) bAl
 have V3:=(V3.under (w':=X.alloc (.cells #[.string ⟨#[97]⟩,.string ⟨#[98]⟩] 9)) bAl).under (w':=(X.alloc (.cells #[.string ⟨#[97]⟩,.string ⟨#[98]⟩] 9)).alloc (.cells #[.slice (some ⟨w.heap.size,0,none⟩) 1 1,.bool true,.slice none 0 0,.bool false,.slice none 0 0,.slice none 0 0,.slice none 0 0,.slice (some ⟨w.heap.size+1+1,0,none⟩) 1 1,.bool false,.slice none 0 0,.bool false,.slice none 0 0,.slice none 0 0,.slice none 0 0] 51)) bAl
 have:=HI.new (aw2 X w) _ _ 2 2 2 2 _ [Qif,Qig] (fun _=>True) (shmo2 V6 (Qn9 (m:=Qfe) rfl rfl rfl rfl rfl V1) (Qn9 (m:=mb17) rfl rfl rfl rfl rfl V3)) (by decide) (by decide) (sh2 V5) (by decide) (by decide) (by decide) (fun q hq=>by
  rcases List.mem_cons.1 hq with rfl | hq
  ·exact fine_a
  ·rw [List.mem_singleton.1 hq];exact fine_b)
 unfold Qk0 at this
 rw [show Qm [(Qfe,Qjt w.heap.size),(mb17,Qjt (w.heap.size+1+1))]=[Qfe.sm,mb17.sm] from rfl,aw17_bad] at this
 exact this
theorem aw_od(g B:Nat)(P:World→Prop)(hc:ScC [Qif,Qig] [Qfe.sm,MoT.nul.sm] g B P)(X:World)(hp:P X):CP 20 #[.pointer (some ⟨g,0,none⟩)] X fun e w'=>∃ b c,e=.returned (.slice (some ⟨b,0,none⟩) 2 c)∧w'.cell? ⟨b,0,none⟩=some (.int .i64 1)∧w'.cell? ⟨b,1,none⟩=some (.int .i64 0)∧Below X.heap.size X w':=by
 have:=hc.ord hp
 rw [aw17_ord] at this
 unfold Qbs at this
 exact this.mono fun e w' ⟨v,h1,h2,h3⟩=>(by
  obtain ⟨A,c,rfl⟩:=h2.form
  obtain ⟨b,rfl,c0⟩:=Qbb h2 (i:=0) (a:=1) rfl
  obtain ⟨b2,hb2,c1⟩:=Qbb h2 (i:=1) (a:=0) rfl
  cases hb2
  exact ⟨b,c,h1,c0,c1,h3⟩)
theorem aw_l1{w3 w:World}(V2:Var w3 (w.heap.size+1) (moC true false (Qjt w.heap.size)))(X:World)(h:Below w3.heap.size w3 X):X.rangeAt (w.heap.size+1) 0 [.slice (some ⟨w.heap.size,0,none⟩) 1 1,.bool true,.slice none 0 0,.bool false,.slice none 0 0,.slice none 0 0,.slice none 0 0]:=(V2.under h).rg
theorem aw_l2{w3 w:World}(V4:Var w3 (w.heap.size+1+1+1) (moC false false (Qjt (w.heap.size+1+1))))(X:World)(h:Below w3.heap.size w3 X):X.rangeAt (w.heap.size+1+1+1) 0 [.slice (some ⟨w.heap.size+1+1,0,none⟩) 1 1,.bool false,.slice none 0 0,.bool false,.slice none 0 0,.slice none 0 0,.slice none 0 0]:=(V4.under h).rg
theorem U4(HI:Qid):Aw17:=by
 intro w
 have hzn:=Qba
 have hzm:=Qbg
 have HV:=Lh (aw_hv w)
 have HN1:=Lh (aw_n1 HI w)
 have HN2:=Lh (aw_n2 HI w)
 clear HI
 go_enter Try.func8,Try.ntmps8
 go_wp2_with (first
  | (go_at_call 9;with_reducible refine HN1.out.mono ?_;rintro e w3 ⟨b3,g,P,rfl,hc,hp⟩;have HC:=Lh hc;have HP:=Lh hp;have V1:=Lh (HV.out.1.under b3);have V2:=Lh (HV.out.2.1.under b3);have V3:=Lh (HV.out.2.2.1.under b3);have V4:=Lh (HV.out.2.2.2.1.under b3);have HB:=Lh (HV.out.2.2.2.2.2.2.trans (b3.mono HV.out.2.2.2.2.2.2.size));have L1:=Lh (aw_l1 V2.out);have L2:=Lh (aw_l2 V4.out);clear b3 hc hp)
  | (go_at_call 9;with_reducible refine (HN2.out w3 V1.out V3.out).mono ?_;rintro e w4 ⟨b4,rfl⟩;have bb:Below w3.heap.size w3 ((w3.alloc (.cells #[.string ⟨#[97]⟩,.string ⟨#[98]⟩] 9)).alloc (.cells #[.slice (some ⟨w.heap.size,0,none⟩) 1 1,.bool true,.slice none 0 0,.bool false,.slice none 0 0,.slice none 0 0,.slice none 0 0,.slice (some ⟨w.heap.size+1+1,0,none⟩) 1 1,.bool false,.slice none 0 0,.bool false,.slice none 0 0,.slice none 0 0,.slice none 0 0] 51)):=bAl.alloc (by simp) _;have b5:=Lh (bb.trans (b4.mono bb.size));have HP:=Lh (HC.out.stay HP.out b5.out);have HB:=Lh (HB.out.trans (b5.out.mono HB.out.size));clear b4 bb)
  | (go_at_call 20;with_reducible refine (aw_od g _ P HC.out _ HP.out).mono ?_;rintro e w5 ⟨lb,lc,rfl,l0,l1,b6⟩;have HB:=Lh (bTr HB b6);clear b6)
  | (refine Qb rfl 51 (.tmp 1) rfl (w.heap.size+1) 0 rfl [.slice (some ⟨w.heap.size,0,none⟩) 1 1,.bool true,.slice none 0 0,.bool false,.slice none 0 0,.slice none 0 0,.slice none 0 0] (L1.out _ bAl) Try.underlying51 rfl Q7 ?_)
  | (refine Qb rfl 51 (.tmp 2) rfl (w.heap.size+1+1+1) 0 rfl [.slice (some ⟨w.heap.size+1+1,0,none⟩) 1 1,.bool false,.slice none 0 0,.bool false,.slice none 0 0,.slice none 0 0,.slice none 0 0] (L2.out _ bAl) Try.underlying51 rfl Q7 ?_)
  | fail)
 go_ret
 exact ⟨rfl,HB.out⟩
end Go.Proofs.Ytjoclbeoafeebaa
