/- Several texts of one proof, in their order. -/
import Derived.Test.YtajmnlhfnhbleaaGreatSSum26
import Derived.Test.YtajmnlhfnhbleaaGreatSSum23
namespace Go.Proofs.YtajmnlhfnhbleaaGreat
open Go.RowKit Go.Maps CurveMath
set_option linter.unusedVariables false
set_option maxHeartbeats 8000000
set_option maxRecDepth 10000
theorem stable_small(vo fv:Value)(n:Nat)(hn:n≤8)(w:World)(R:World→Prop)(hv:∃a c,vo=.slice a n c)(hf:∃f a b,fv=.func f a b)
 (hp:Calls Tryz.prog 190 #[vo,.int .i64 0,.int .i64 (n:Int),fv] w fun e w'=>e=.returned (.tuple #[])∧R w') :
 Calls Tryz.prog 171 #[vo,.int .i64 (n:Int),fv] w fun e w'=>e=.returned (.tuple #[])∧R w':=by
 obtain⟨a,c,rfl⟩:=hv
 obtain⟨f,fa,fb,rfl⟩:=hf
 have HP:=hid hp
 clear hp
 have h1:¬(20:Int)≤(n:Int):=by omega
 have h2:¬(20:Int)<(n:Int):=by omega
 go_enter Tryz.func171,Tryz.ntmps171
 go_wp2
 refine wp_loop_rounds 1 ?_
 rw[rounds_succ]
 go_wp2_with fail
 refine Calls.mono HP.out ?_
 rintro e w2 ⟨rfl,hR⟩
 have HR:=hid hR
 clear hR
 go_wp2
 refine wp_loop_rounds 1 ?_
 rw[rounds_succ]
 go_wp2
 go_end0
 exact⟨rfl,HR.out⟩
theorem stable_func(vo fv:Value)(n:Nat)(hn:n≤8)(w:World)(R:World→Prop)(hv:∃a c,vo=.slice a n c)(hf:∃f a b,fv=.func f a b)
 (hp:Calls Tryz.prog 190 #[vo,.int .i64 0,.int .i64 (n:Int),fv] w fun e w'=>e=.returned (.tuple #[])∧R w') :
 Calls Tryz.prog 151 #[vo,fv] w fun e w'=>e=.returned (.tuple #[])∧R w':=by
 have HP:=hid (stable_small vo fv n hn w R hv hf hp)
 obtain⟨a,c,rfl⟩:=hv
 obtain⟨f,fa,fb,rfl⟩:=hf
 clear hp
 go_enter Tryz.func151,Tryz.ntmps151
 go_wp2_with fail
 refine Calls.mono HP.out ?_
 rintro e w2 ⟨rfl,hR⟩
 have HR:=hid hR
 clear hR
 go_wp2
 go_end0
 exact⟨rfl,HR.out⟩
theorem plAsk(bx:Nat)(ver:Int)(th:Bool)(room:Int)(vk:Value)(m:Nat)(UV:Nat→Value)(t:Kt)(w:World)(hk:KeSl w w.heap.size vk m UV t)(hx:w.cell? ⟨bx,0,none⟩=some (.int .i64 ver))(h1:0≤room∧room≤20)(h2:(m:Int)≤room):
 Calls Tryz.prog 149 #[peerV th room vk,.pointer (some ⟨bx,0,none⟩)] w fun e w'=>e=.returned (.bool (th&&(decide (0<room-(m:Int))&&decide (fstAt t.V ver m 0<0))))∧Below w.heap.size w w':=by
 have HK:=hid hk
 obtain⟨ak,ck,rfl,_,_⟩:=hk
 have hb:=below_alloc w (.cells #[.bool th,.int .i64 room,.slice ak m ck] 41)
 have k0:=heap_alloc_new w (.cells #[.bool th,.int .i64 room,.slice ak m ck] 41)
 obtain⟨W,hW⟩:∃W,w.alloc (.cells #[.bool th,.int .i64 room,.slice ak m ck] 41)=W:=⟨_,rfl⟩
 rw[hW]at hb k0
 obtain⟨c0,c1,c2⟩:=three_at k0
 have HB:=hid hb
 have HK0:=hid k0
 have HX:Hid (W.cell? ⟨bx,0,none⟩=some (.int .i64 ver)):=by show W.cell? _=_;rw[hb.cell (cell_lt hx)];exact hx
 have CL:=hid (plLeft th room ak m ck W h1 h2)
 unfold peerV at CL
 unfold peerV
 obtain⟨fa,hfa⟩:∃x,fstAt t.V ver m 0=x:=⟨_,rfl⟩
 rw[hfa]
 have HFa:=hid hfa
 clear hb k0 hx hfa
 cases th with
 |false =>
  rw[Bool.false_and];go_enter Tryz.func149,Tryz.ntmps149;go_wp2;go_ret;exact⟨rfl,HB.out⟩
 |true =>
  rw[Bool.true_and];by_cases hle:0<room-(m:Int)
  ·rw[decide_eq_true hle,Bool.true_and]
   go_enter Tryz.func149,Tryz.ntmps149;go_wp2_with fail
   refine Calls.mono CL.out ?_;rintro e w2 ⟨rfl,hw2⟩;have hb2:Below W.heap.size W w2:=by rw[hw2];exact below_alloc _ _
   have HB2:=hid (HB.out.trans (hb2.mono HB.out.size));obtain⟨d0,d1,d2⟩:=three_at (stayB HK0.out hb2);have hx2:w2.cell? ⟨bx,0,none⟩=some (.int .i64 ver):=by rw[hb2.cell (cell_lt HX.out)];exact HX.out
   have CF:=hid (peFind true room _ m UV t ver w2 (HK.out.up HB2.out));unfold peerV at CF;rw[HFa.out]at CF;clear hw2 hb2 c0 c1 c2;go_wp2_with fail
   refine Calls.mono CF.out ?_;rintro e w3 ⟨rfl,hb3⟩;have HB3:=hid (HB2.out.trans (hb3.mono HB2.out.size));clear hb3;go_wp2;go_ret;exact⟨rfl,HB3.out⟩
  rw[decide_eq_false hle,Bool.false_and];go_enter Tryz.func149,Tryz.ntmps149;go_wp2_with fail
  refine Calls.mono CL.out ?_;rintro e w2 ⟨rfl,hw2⟩;have hb2:Below W.heap.size W w2:=by rw[hw2];exact below_alloc _ _
  have HB2:=hid (HB.out.trans (hb2.mono HB.out.size));clear hw2 hb2;go_wp2;go_ret;exact⟨rfl,HB2.out⟩
theorem plThose(bx:Nat)(vl:Value)(np:Nat)(KV:Nat→Value)(UV:Nat→Nat→Value)(P:Ps)(p:Nat→Bool)(hn:np≤8)(w:World)(h:PsSl w w.heap.size vl np KV UV P)
 (hp:∀i,i<np→∀w',Below w.heap.size w w'→Calls Tryz.prog 149 #[peerV (P.th i) (P.rm i) (KV i),.pointer (some ⟨bx,0,none⟩)] w' fun e w''=>e=.returned (.bool (p i))∧Below w'.heap.size w' w'') :
 Calls Tryz.prog 148 #[vl,.func (.func 149) #[] #[.pointer (some ⟨bx,0,none⟩)]] w fun e w'=>∃vo,e=.returned vo∧OwnL w w' vo (pickL p np):=by
 have HL:=hid h
 have HP:=hid hp
 obtain⟨al,cl,rfl,⟨hcl,hbig⟩,_⟩:=h
 obtain⟨ii,hii,hzz0,hzz1,hzz2⟩:=info_parts Tryz.infoInt
 clear hp
 go_enter Tryz.func148,Tryz.ntmps148
 go_wp2
 go_loopw [5,10] (fun vo iv wr=>∃k:Nat,k≤np∧iv=.int .i64 k∧Hid (OwnL w wr vo (pickL p k))) (fun _ iv _=>np-(intOf iv).toNat)
 case atStart=>exact⟨0,Nat.zero_le _,rfl,OwnL.nil _⟩
 case round =>
  obtain⟨k,hk,rfl,OW⟩:=hrel;by_cases hlt:k<np
  ·have hki:(k:Int)<(np:Int):=by omega
   obtain⟨bl,off,rfl,hbl,g0,g1,g2,g3⟩:=(HL.out.up OW.out.2).at hlt;obtain⟨ak,ck,hke,_,_⟩:=g3;rw[hke]at g2;have hbA:=below_alloc wr (.cells #[.bool (P.th k),.int .i64 (P.rm k),.slice ak (P.m k) ck] 41);have kz:=heap_alloc_new wr (.cells #[.bool (P.th k),.int .i64 (P.rm k),.slice ak (P.m k) ck] 41);obtain⟨Z,hZ⟩:∃Z,wr.alloc (.cells #[.bool (P.th k),.int .i64 (P.rm k),.slice ak (P.m k) ck] 41)=Z:=⟨_,rfl⟩;rw[hZ]at hbA kz;obtain⟨z0,z1,z2⟩:=three_at kz;have OZ:=hid (OW.out.up hbA);have HAk:=hid (HP.out k hlt Z OZ.out.2);rw[hke]at HAk;unfold peerV at HAk;have hsc:=pickL_succ p k;have hll:=pickL_len p k;clear hke hbA kz;cases hf:p k with
   |false =>
    rw[hf,if_neg (by decide),List.append_nil]at hsc;rw[hf]at HAk;have HSc:=hid hsc;clear hsc hf;go_wp2_with fail
    refine Calls.mono HAk.out ?_;rintro e w2 ⟨rfl,hb2⟩;have O2:=hid (OZ.out.up hb2);clear hb2;go_wp2;go_roundw
    case rel=>exact⟨k+1,by omega,by go_num,by rw[HSc.out];exact O2.out⟩
    case measure=>simp only[intOf];omega
   |true =>
    rw[hf,if_pos rfl]at hsc;rw[hf]at HAk;have HSc:=hid hsc;clear hsc hf;go_wp2_with fail
    refine Calls.mono HAk.out ?_;rintro e w2 ⟨rfl,hb2⟩;have O2:=hid (OZ.out.up hb2);have hge:w.heap.size≤w2.heap.size:=O2.out.2.size;clear hb2;go_wp2_with(at_builtin;go_must(refine wpList_append_own _ rfl (.tmp 18) (.tmp 20) 28 rfl w.heap.size 3 ii (.int .i64 0) 1 8 Tryz.underlying28 hii hzz0 hzz1 hzz2 rfl (by decide) _ _ _ rfl (World.ownsRow.alloc O2.out.1 _) ⟨_,0,none⟩ 1 1 [.int .i64 (k:Int)] rfl rfl (newCell _ _ _) (oneCell _) (by unfold maxLen;omega) (by omega) (by simp;omega) ?_;intro v1 w6 ho6 hg6 _;have O6:=hid (O2.out.push ho6 hg6);clear ho6 hg6))
    go_roundw
    case rel=>exact⟨k+1,by omega,by go_num,by rw[HSc.out];exact O6.out⟩
    case measure=>simp only[intOf];omega
  have hke:np=k:=by omega
  subst hke;go_wp2;go_ret;exact⟨_,rfl,OW.out⟩
theorem plCheck(vb:Value)(n:Nat)(PV:Nat→Value)(b:Bk)(vl:Value)(np:Nat)(KV:Nat→Value)(UV:Nat→Nat→Value)(P:Ps)(w:World)(hv:VeSl w w.heap.size vb n PV b)(hl:PsSl w w.heap.size vl np KV UV P):
 Calls Tryz.prog 62 #[bookV vb,vl] w fun e w'=>e=.returned (.int .i64 (peersE n b np P))∧Below w.heap.size w w':=by
 have HV:=hid hv
 have HL:=hid hl
 obtain⟨ad,cap,rfl,_,_⟩:=hv
 obtain⟨al,cl,rfl,⟨hcl,hbig⟩,_⟩:=hl
 have hbx:=below_alloc w (.cells #[.slice ad n cap] 24)
 have HCk:=hid (bkCheck _ n PV b _ (HV.out.up hbx))
 have k0:=heap_alloc_new w (.cells #[.slice ad n cap] 24)
 have c0:(w.alloc (.cells #[.slice ad n cap] 24)).cell? ⟨w.heap.size,0,none⟩=some (.slice ad n cap):=cell_at k0 rfl
 have HK0:=hid k0
 have HBx:=hid hbx
 obtain⟨ans,hans⟩:∃c,peersE n b np P=c:=⟨_,rfl⟩
 rw[hans]
 unfold peersE at hans
 obtain⟨c,hcc⟩:∃c,bookE n b=c:=⟨_,rfl⟩
 rw[hcc]at HCk hans
 have HA:=hid hans
 clear hbx hans hcc k0
 unfold bookV at HCk
 unfold bookV
 go_enter Tryz.func62,Tryz.ntmps62
 go_wp2_with fail
 refine Calls.mono HCk.out ?_
 rintro e W ⟨rfl,hbW⟩
 have HBW:=hid (HBx.out.trans (hbW.mono HBx.out.size))
 have HKW:=hid (stayB HK0.out hbW)
 clear hbW HCk c0
 by_cases hc0:c=0
 ·subst hc0
  have ha:=HA.out;rw[if_pos rfl]at ha;by_cases h8:np≤8
  ·rw[if_pos h8]at ha
   have HS0:=hid ha;clear ha HA;have h8i:¬(8:Int)<(np:Int):=by omega
   go_wp2;go_loopw [19] (fun iv wr=>∃k:Nat,k≤np∧iv=.int .i64 k∧Hid (Below W.heap.size W wr)∧Hid (scanP n b P (np-k) k=ans)) (fun iv _=>np-(intOf iv).toNat)
   case atStart=>exact⟨0,Nat.zero_le _,rfl,Below.refl _ _,HS0⟩
   case round =>
    obtain⟨k,hk,rfl,HB,HS⟩:=hrel;by_cases hlt:k<np
    ·have hki:(k:Int)<(np:Int):=by omega
     have HBr:=hid (HBW.out.trans (HB.out.mono HBW.out.size));obtain⟨bl,off,rfl,hbl,g0,g1,g2,g3⟩:=(HL.out.up HBr.out).at hlt;have G3:=hid g3;obtain⟨ak,ck,hke,_,_⟩:=g3;rw[hke]at g2 G3;have hbA:=below_alloc wr (.cells #[.bool (P.th k),.int .i64 (P.rm k),.slice ak (P.m k) ck] 41);have hstep:=HS.out;rw[show np-k=(np-(k+1))+1 by omega]at hstep;simp only[scanP]at hstep;have HCp:=hid (peChecked _ n PV b (P.th k) (P.rm k) _ (P.m k) (UV k) (P.t k) _ ((HV.out.up HBr.out).up hbA) (G3.out.up hbA));have cb:wr.cell? ⟨w.heap.size,0,none⟩=some (.slice ad n cap):=cell_at (stayB HKW.out HB.out) rfl;have cb2:(wr.alloc (.cells #[.bool (P.th k),.int .i64 (P.rm k),.slice ak (P.m k) ck] 41)).cell? ⟨w.heap.size,0,none⟩=some (.slice ad n cap):=by rw[hbA.cell (cell_lt cb)];exact cb
     have HBA:=hid (HB.out.trans (hbA.mono HB.out.size));obtain⟨ep,hep⟩:∃x,peerE n b (P.rm k) (P.m k) (P.t k)=x:=⟨_,rfl⟩;rw[hep]at HCp hstep;have HSt:=hid hstep;clear hep hstep hbA hke;unfold bookV peerV at HCp;go_wp2_with fail
     refine Calls.mono HCp.out ?_;rintro e w2 ⟨rfl,hb2⟩;have HB2:=hid (HBA.out.trans (hb2.mono HBA.out.size));clear hb2 HCp cb cb2 g0 g1 g2;by_cases he:ep=0
     ·have hst:=HSt.out
      rw[if_pos he]at hst;have HNx:=hid hst;have heb:(ep != 0)=false:=by rw[bne_eq_false_iff_eq];exact he
      clear hst he;go_wp2;go_roundw
      case rel=>exact⟨k+1,by omega,by go_num,HB2,HNx⟩
      case measure=>simp only[intOf];omega
     have hst:=HSt.out;rw[if_neg he]at hst;have heb:(ep != 0)=true:=by simpa using he
     have HFn:=hid hst;clear hst he;go_wp2;go_ret;exact⟨by rw[HFn.out];rfl,HBW.out.trans (HB2.out.mono HBW.out.size)⟩
    have hke:np=k:=by omega
    subst hke;have hst:=HS.out;rw[Nat.sub_self]at hst;have HFin:Hid ((0:Int)=ans):=hst;clear hst;go_wp2;go_ret;exact⟨by rw[←HFin.out];rfl,HBW.out.trans (HB.out.mono HBW.out.size)⟩
  rw[if_neg h8]at ha;subst ha;have h8i:(8:Int)<(np:Int):=by omega
  clear HA;go_wp2;go_ret;exact⟨rfl,HBW.out⟩
 ·have hcb:(c != 0)=true:=by simpa using hc0
  have ha:=HA.out;rw[if_neg hc0]at ha;subst ha;clear hc0 HA;go_wp2;go_ret;exact⟨rfl,HBW.out⟩
theorem heap_three(w:World)(o1 o2 o3:Obj):(((w.alloc o1).alloc o2).alloc o3).heap[w.heap.size]?=some o1∧(((w.alloc o1).alloc o2).alloc o3).heap[w.heap.size+1]?=some o2∧(((w.alloc o1).alloc o2).alloc o3).heap[w.heap.size+2]?=some o3:=by
 have h1:(w.alloc o1).heap.size=w.heap.size+1:=by simp
 have h2:((w.alloc o1).alloc o2).heap.size=w.heap.size+2:=by simp
 refine⟨?_,?_,?_⟩;·rw[heap_alloc_old _ _ (by omega),heap_alloc_old _ _ (by omega)];exact heap_alloc_new w o1
 ·rw[heap_alloc_old _ _ (by omega)];have:=heap_alloc_new (w.alloc o1) o2;rwa [h1]at this
 have:=heap_alloc_new ((w.alloc o1).alloc o2) o3;rwa [h2]at this
theorem plFor(vb:Value)(n:Nat)(PV:Nat→Value)(b:Bk)(vl:Value)(np:Nat)(KV:Nat→Value)(UV:Nat→Nat→Value)(P:Ps)(ver many:Int)(w:World)(hv:VeSl w w.heap.size vb n PV b)(hl:PsSl w w.heap.size vl np KV UV P):
 Calls Tryz.prog 116 #[bookV vb,vl,.int .i64 ver,.int .i64 many] w (LiPost w (if peersE n b np P=0 then forL P ver np many else[]) (forE n b P ver np many)):=by
 have HV:=hid hv
 have HL:=hid hl
 obtain⟨ad,cap,rfl,_,_⟩:=hv
 obtain⟨al,cl,rfl,⟨hcl,hbig⟩,_⟩:=hl
 have hb0:=(((Below.refl w.heap.size w).alloc (Nat.le_refl _) (.cells #[.slice ad n cap] 24)).alloc (by simp) (.cells #[.slice al np cl] 25)).alloc (by simp;omega) (.cells #[.int .i64 ver] 3)
 obtain⟨k1,k2,k3⟩:=heap_three w (.cells #[.slice ad n cap] 24) (.cells #[.slice al np cl] 25) (.cells #[.int .i64 ver] 3)
 obtain⟨W0,hW0⟩:∃W,((w.alloc (.cells #[.slice ad n cap] 24)).alloc (.cells #[.slice al np cl] 25)).alloc (.cells #[.int .i64 ver] 3)=W:=⟨_,rfl⟩
 rw[hW0]at hb0 k1 k2 k3
 have CK:=hid (plCheck _ n PV b _ np KV UV P W0 (HV.out.up hb0) (HL.out.up hb0))
 have c1:W0.cell? ⟨w.heap.size,0,none⟩=some (.slice ad n cap):=cell_at k1 rfl
 have c2:W0.cell? ⟨w.heap.size+1,0,none⟩=some (.slice al np cl):=cell_at k2 rfl
 have K2:=hid k2
 have K3:=hid k3
 have B0:=hid hb0
 unfold forE
 have HR:Hid (peersE n b np P=0→RightP n b np P):=rightP_of
 obtain⟨c,hcc⟩:∃c,peersE n b np P=c:=⟨_,rfl⟩
 rw[hcc]at CK HR ⊢
 clear hcc k1 k2 k3 hb0
 unfold bookV at CK
 unfold bookV
 by_cases hc0:c=0
 ·subst hc0
  rw[if_pos rfl,if_pos rfl];have hR:=HR.out rfl;have h8:=hR.le;have HRm:Hid (∀k,k<np→(0≤P.rm k∧P.rm k≤20)∧(P.m k:Int)≤P.rm k):=fun k hk=>hR.room hk;clear hR HR;unfold forL;obtain⟨er,her⟩:∃e,manyE P ver np many=e:=⟨_,rfl⟩;rw[her];unfold manyE at her;obtain⟨lo,hlo⟩:∃l,(if er=0 then(orderL P ver np).take many.toNat else[])=l:=⟨_,rfl⟩;rw[hlo];have HEr:=hid her;have HLo:=hid hlo;clear her hlo;by_cases hm:0≤many∧many≤8
  ·obtain⟨q,rfl⟩:∃q:Nat,many=q:=⟨many.toNat,by omega⟩
   have hm1:¬(q:Int)<0:=by omega
   have hm2:¬(8:Int)<(q:Int):=by omega
   have hE:=HEr.out;rw[if_pos hm]at hE;have HE2:=hid hE;clear hE HEr;go_enter Tryz.func116,Tryz.ntmps116;go_wp2_with fail
   refine Calls.mono CK.out ?_;rintro e W ⟨rfl,hbW⟩;have BW:=hid (B0.out.trans (hbW.mono B0.out.size));have KW2:=hid (stayB K2.out hbW);have KW3:=hid (stayB K3.out hbW);have d2:W.cell? ⟨w.heap.size+1,0,none⟩=some (.slice al np cl):=cell_at KW2.out rfl;have CT:=hid (plThose (w.heap.size+2) _ np KV UV P (canK P ver) h8 W (HL.out.up BW.out) (fun i hi w' hb'=>by
    have hlt:w.heap.size+2<W.heap.size:=(Array.getElem?_eq_some_iff.1 KW3.out).1;obtain⟨bl,off,_,_,_,_,_,g3⟩:=((HL.out.up BW.out).up hb').at hi;have:=HRm.out i hi;exact plAsk (w.heap.size+2) ver (P.th i) (P.rm i) (KV i) (P.m i) (UV i) (P.t i) w' g3 (by rw[hb'.cell hlt];exact cell_at KW3.out rfl) this.1 this.2))
   clear hbW c1 c2 CK;go_wp2_with fail
   refine Calls.mono CT.out ?_;rintro e w2 ⟨vo,rfl,ow⟩;have OW:=hid ow;have hpl:=pickL_len (canK P ver) np;have hs:=OW.out.isl (by omega);have CS:=hid (plStable (w.heap.size+1) al cl np KV UV P ver h8 HRm.out W w2 vo (HL.out.up BW.out) d2 OW.out);obtain⟨ao,co,rfl,⟨hco,_⟩,_⟩:=hs;replace CS:=hid (stable_func _ _ _ (by omega) w2 _ ⟨_,_,rfl⟩ ⟨_,_,_,rfl⟩ CS.out);have hol:(orderL P ver np).length=(pickL (canK P ver) np).length:=by
    rcases Nat.eq_zero_or_pos np with h0|h0
    ·subst h0
     have e0:orderL P ver 0=[]:=by
      rw[List.eq_nil_iff_forall_not_mem];intro x hx;obtain⟨k,_,h,_⟩:=mem_lefts.1 hx;omega
     rw[e0];rfl
    haveI:Inhabited (Fin np):=⟨⟨0,h0⟩⟩
    obtain⟨hos,hord⟩:=sorted_order P ver np (fun k hk=>by unfold leftK;have:=HRm.out k hk;omega) _ rfl;rw[←hord,List.length_map,Array.length_toList,hos,←canF_pick,List.length_map]
   obtain⟨z,hz⟩:∃z,(pickL (canK P ver) np).length=z:=⟨_,rfl⟩;have hE:=HE2.out;rw[hol,hz]at hE;rw[hz]at CS hco hpl;have HOl:=hid (hol.trans hz);have BV:=hid (BW.out.trans (OW.out.2.mono BW.out.size));rw[hz];clear ow CT hol hz d2 HE2;by_cases hsh:(z:Int)<(q:Int)
   ·rw[if_pos hsh]at hE
    subst hE;have hL:=HLo.out;rw[if_neg (by decide)]at hL;subst hL;go_wp2;go_ret2;exact liPost_nil BV.out
   rw[if_neg hsh]at hE;subst hE;have hL:=HLo.out;rw[if_pos rfl,Int.toNat_natCast]at hL;have HLl:=hid hL;clear hL;go_wp2_with fail
   refine Calls.mono CS.out ?_;rintro e w3 ⟨rfl,hb3,hi3,_⟩;have B3:=hid (BW.out.trans (hb3.mono BW.out.size));have I3:=hid hi3;have hqc:(q:Int)≤(co:Int):=by omega
   clear hb3 hi3;go_wp2;go_ret2;refine⟨B3.out,_,rfl,?_⟩;rw[←HLl.out];have h4:=I3.out;refine isl_take (by have h5:=HOl.out;rw[h5];rw[h5]at h4;exact h4) (by have:=HOl.out;omega)
  have hE:=HEr.out;rw[if_neg hm]at hE;subst hE;have hL:=HLo.out;rw[if_neg (by decide)]at hL;subst hL;clear HEr;by_cases hm1:many<0
  ·go_enter Tryz.func116,Tryz.ntmps116
   go_wp2_with fail
   refine Calls.mono CK.out ?_;rintro e W ⟨rfl,hbW⟩;have BW:=hid (B0.out.trans (hbW.mono B0.out.size));clear hbW;go_wp2;go_ret2;exact liPost_nil BW.out
  have hm2:(8:Int)<many:=by omega
  clear hm;go_enter Tryz.func116,Tryz.ntmps116;go_wp2_with fail
  refine Calls.mono CK.out ?_;rintro e W ⟨rfl,hbW⟩;have BW:=hid (B0.out.trans (hbW.mono B0.out.size));clear hbW;go_wp2;go_ret2;exact liPost_nil BW.out
 ·rw[if_neg hc0,if_neg hc0]
  have hcb:(c != 0)=true:=by simpa using hc0
  clear hc0;go_enter Tryz.func116,Tryz.ntmps116;go_wp2_with fail
  refine Calls.mono CK.out ?_;rintro e W ⟨rfl,hbW⟩;have BW:=hid (B0.out.trans (hbW.mono B0.out.size));clear hbW;go_wp2;go_ret2;exact liPost_nil BW.out
section
def hasV(th:Bool)(t:Kt)(ver:Int)(m:Nat):Bool:=th&&decide (0≤fstAt t.V ver m 0)
def shownV(th:Bool)(UV:Nat→Value)(t:Kt)(ver:Int)(m:Nat):Value:=if hasV th t ver m=true then .agg #[.int .i64 (t.N (fstAt t.V ver m 0).toNat),UV (fstAt t.V ver m 0).toNat]else .agg #[.int .i64 0,.slice none 0 0]
theorem msShows(th:Bool)(room:Int)(v:Value)(m:Nat)(UV:Nat→Value)(t:Kt)(ver:Int)(w:World)(h:KeSl w w.heap.size v m UV t):
 Calls Tryz.prog 108 #[peerV th room v,.int .i64 ver] w fun e w'=>e=.returned (.tuple #[shownV th UV t ver m,.bool (hasV th t ver m)])∧Below w.heap.size w w':=by
 have hb:=((Below.refl w.heap.size w).alloc (Nat.le_refl _) (.cells #[.bool th,.int .i64 room,v] 41)).alloc (by simp) (.cells #[.int .i64 0,.slice none 0 0] 81)
 have k0:=heap_two_old w (.cells #[.bool th,.int .i64 room,v] 41) (.cells #[.int .i64 0,.slice none 0 0] 81)
 have k1:=heap_two_new w (.cells #[.bool th,.int .i64 room,v] 41) (.cells #[.int .i64 0,.slice none 0 0] 81)
 have HK:=hid h
 obtain⟨ak,ck,rfl,_,hx⟩:=h
 obtain⟨W,hW⟩:∃W,(w.alloc (.cells #[.bool th,.int .i64 room,.slice ak m ck] 41)).alloc (.cells #[.int .i64 0,.slice none 0 0] 81)=W:=⟨_,rfl⟩
 rw[hW]at hb k0 k1
 have CF:=hid (peFind th room _ m UV t ver W (HK.out.up hb))
 obtain⟨q0,q1,q2⟩:=three_at k0
 have HB:=hid hb
 have K0:=hid k0
 have K1:=hid k1
 have HX:=hid hx
 obtain⟨fa,hfa⟩:∃x,fstAt t.V ver m 0=x:=⟨_,rfl⟩
 obtain⟨hv,hhv⟩:∃x,hasV th t ver m=x:=⟨_,rfl⟩
 obtain⟨sv,hsv⟩:∃x,shownV th UV t ver m=x:=⟨_,rfl⟩
 have hpl:0≤fa→∃i:Nat,fa=(i:Int)∧i<m:=fun h9=>by
  rw[←hfa]at h9;obtain⟨i,e1,_,e2,_⟩:=fstAt_place _ _ _ _ h9;exact⟨i,by rw[←hfa];exact e1,by omega⟩
 rw[hfa]at CF
 rw[hsv,hhv]
 unfold shownV at hsv
 rw[hhv]at hsv
 unfold hasV at hhv
 rw[hfa]at hsv hhv
 have HSv:=hid hsv
 have HHv:=hid hhv
 have HPl:=hid hpl
 clear hb k0 k1 hx hfa hsv hhv hpl
 unfold peerV at CF
 unfold peerV
 go_enter Tryz.func108,Tryz.ntmps108
 go_wp2_with fail
 refine Calls.mono CF.out ?_
 rintro e w2 ⟨rfl,hb2⟩
 have B2:=hid (HB.out.trans (hb2.mono HB.out.size))
 have d0:=stayB K0.out hb2
 have d1:=stayB K1.out hb2
 have D1:=hid d1
 have HK2:=hid (HK.out.up B2.out)
 clear q0 q1 q2
 obtain⟨q0,q1,q2⟩:=three_at d0
 obtain⟨r0,r1⟩:=two_at d1
 have f0:=frozen_at (i:=0) d1
 have f1:=frozen_at (i:=1) d1
 clear hb2 d0 d1 CF
 cases th with
 |false =>
  have e1:=HHv.out;rw[Bool.false_and]at e1;subst e1;have e2:=HSv.out;rw[if_neg (by decide)]at e2;subst e2;go_wp2;refine ret2 (put2_whole D1.out _ _) Tryz.underlying81 ?_;exact⟨rfl,put2_below B2.out (by omega)⟩
 |true =>
  by_cases hf:0≤fa
  ·obtain⟨i,rfl,him⟩:=HPl.out hf
   have e1:=HHv.out;rw[Bool.true_and,decide_eq_true hf]at e1;subst e1;have e2:=HSv.out;rw[if_pos rfl,Int.toNat_natCast]at e2;subst e2;rcases HX.out with h0|⟨bl,off,rfl,hbl,hx⟩;·omega
   obtain⟨x0,x1,x2,x3⟩:=hx i him;obtain⟨au,cu,hue,_,_⟩:=x3;rw[hue]at x2;have y1:w2.cell? ⟨bl,off+i*3+1,none⟩=some (.int .i64 (t.N i)):=by rw[B2.out.cell hbl];exact x1
   have y2:w2.cell? ⟨bl,off+i*3+2,none⟩=some (.slice au (t.L i) cu):=by rw[B2.out.cell hbl];exact x2
   have hii:(i:Int)<(m:Int):=by omega
   have HU:=hid hue;clear x0 x1 x2 hx hf hue;go_wp2;refine ret2 (put2_whole D1.out _ _) Tryz.underlying81 ?_;exact⟨by rw[HU.out];rfl,put2_below B2.out (by omega)⟩
  have hf2:fa<0:=by omega
  have e1:=HHv.out;rw[Bool.true_and,decide_eq_false hf]at e1;subst e1;have e2:=HSv.out;rw[if_neg (by decide)]at e2;subst e2;clear hf;go_wp2;refine ret2 (put2_whole D1.out _ _) Tryz.underlying81 ?_;exact⟨rfl,put2_below B2.out (by omega)⟩
structure PrInv(w wr:World)(vb vl:Value)(P:Ps)(UV:Nat→Nat→Value)(l s:List (Nat×Nat))(M:Nat)(vo:Value):Prop where
 below:Below w.heap.size w wr
 box:wr.heap[w.heap.size]?=some (.cells #[vb,vl] 27 (0,0))
 map:∃(mm:Nat) (c:Int→Int),mm≤M∧CntM wr (w.heap.size+1) mm c∧(∀x,0≤c x∧c x≤(M:Int))∧∀x,c x=0↔seenN P s x=false
 own:wr.ownsRow (w.heap.size+2) 81 2 vo l.length (flatS l.length (nL P l) (vaL UV l))
section
variable {w wr w' : World} {vb vl : Value} {P : Ps} {UV : Nat → Nat → Value} {l s s' : List (Nat × Nat)} {M : Nat} {vo : Value}
theorem PrInv.up(h:PrInv w wr vb vl P UV l s M vo)(hb:Below wr.heap.size wr w'):PrInv w w' vb vl P UV l s M vo:=by
 obtain⟨mm,c,h0,h1,h2⟩:=h.map;exact⟨h.below.trans (hb.mono h.below.size),stayB h.box hb,⟨mm,c,h0,h1.up hb,h2⟩,owns_below h.own hb⟩
theorem PrInv.ne(h:PrInv w wr vb vl P UV l s M vo):some (w.heap.size+1)≠vo.ownBlock∧some w.heap.size≠vo.ownBlock:=by
 refine⟨fun e=>?_,fun e=>?_⟩;·have:=(h.own.lt _ e.symm).1;omega
 have:=(h.own.lt _ e.symm).1;omega
theorem PrInv.push(h:PrInv w wr vb vl P UV l s M vo){k i:Nat}{v1:Value}{o:Obj}(ho:w'.ownsRow (w.heap.size+2) 81 2 v1 (l.length+1) (flatS l.length (nL P l) (vaL UV l)++[.int .i64 ((P.t k).N i),UV k i]))(hg:(wr.alloc o).grownBy w' vo.ownBlock):PrInv w w' vb vl P UV (l++[(k,i)]) s M v1:=by
 have hA:=h.up (below_alloc wr o);obtain⟨mm,c,h0,h1,h2⟩:=hA.map;refine⟨hA.below.grown hg hA.below.size (fun g hgg=>by have:=(hA.own.lt g hgg).1;omega),?_,⟨mm,c,h0,h1.kept hg hA.ne.1,h2⟩,?_⟩;·rw[hg.block _ (Array.getElem?_eq_some_iff.1 hA.box).1 hA.ne.2];exact hA.box
 rw[flatS_snoc,List.length_append];exact ho
theorem PrInv.count(h:PrInv w wr vb vl P UV l s M vo)(hg:wr.grownBy w' (some (w.heap.size+1))){mm:Nat}{c:Int→Int}(hmm:mm≤M+1)(hm:CntM w' (w.heap.size+1) mm c)(hc:(∀x,0≤c x∧c x≤((M+1:Nat):Int))∧∀x,c x=0↔seenN P s' x=false):PrInv w w' vb vl P UV l s' (M+1) vo:=by
 refine⟨h.below.grown hg h.below.size (fun g hgg=>by injection hgg with hgg;omega),?_,⟨mm,c,hmm,hm,hc.1,hc.2⟩,?_⟩;·rw[hg.block _ (Array.getElem?_eq_some_iff.1 h.box).1 (by intro e;injection e with e;omega)];exact h.box
 exact h.own.kept hg (Or.inr fun e=>h.ne.1 e.symm)
end
theorem msPresent(vb:Value)(n:Nat)(b:Bk)(vl:Value)(np:Nat)(KV:Nat→Value)(UV:Nat→Nat→Value)(P:Ps)(ver:Int)(w:World)(hvb:∃a n c,vb=.slice a n c)(hl:PsSl w w.heap.size vl np KV UV P)(hR:MeshR n b np P):
 Calls Tryz.prog 73 #[meshV vb vl,.int .i64 ver] w fun e w'=>Below w.heap.size w w'∧∃vo,e=.returned vo∧ShSl w' w'.heap.size vo (thereL P ver np).length (nL P (thereL P ver np)) (vaL UV (thereL P ver np)) (lL P (thereL P ver np)) (xL P (thereL P ver np)):=by
 obtain⟨ab,nb,cb,rfl⟩:=hvb
 have HL:=hid hl
 have HR:=hid hR
 have h8:=hR.few
 obtain⟨al,cl,rfl,_,_⟩:=hl
 obtain⟨ii,hii,hz0,hz1,hz2⟩:=info_parts Tryz.infoShare
 have hb0:=((Below.refl w.heap.size w).alloc (Nat.le_refl _) (.cells #[.slice ab nb cb,.slice al np cl] 27)).alloc (by simp) (.map #[] 0)
 have k0:=heap_two_old w (.cells #[.slice ab nb cb,.slice al np cl] 27) (.map #[] 0)
 have hcm:CntM ((w.alloc (.cells #[.slice ab nb cb,.slice al np cl] 27)).alloc (.map #[] 0)) (w.heap.size+1) 0 (fun _=>0):=by
  have:=cntM_made (w.alloc (.cells #[.slice ab nb cb,.slice al np cl] 27));simpa using this
 have J0:Hid (PrInv w ((w.alloc (.cells #[.slice ab nb cb,.slice al np cl] 27)).alloc (.map #[] 0)) (.slice ab nb cb) (.slice al np cl) P UV (thAll P ver 0) (thAll P ver 0) 0 (.slice none 0 0)) :=
  ⟨hb0,k0,⟨0,_,Nat.le_refl _,hcm,fun x=>⟨Int.le_refl _,Int.le_refl _⟩,fun x=>⟨fun _=>rfl,fun _=>rfl⟩⟩,World.ownsRow_nil _ _ _ _⟩
 have c1:=(two_at k0).2
 have HStep:Hid (∀k,k<np→thAll P ver (k+1)=if(hasK P ver k && !seenN P (thAll P ver k) (numK P ver k))=true then thAll P ver k++[(k,atK P ver k)]else thAll P ver k):=fun k hk=>thAll_has HR.out ver hk
 have HLen:Hid (∀k,k≤np→(thAll P ver k).length≤k):=thAll_len HR.out ver
 clear hb0 k0 hcm hR
 unfold meshV thereL
 go_enter Tryz.func73,Tryz.ntmps73
 have hmm:=@run_makeMap Tryz.prog
 go_wp2
 clear hmm c1
 go_loopw [6,15] (fun vo kv wr=>∃k:Nat,k≤np∧kv=.int .i64 k∧Hid (PrInv w wr (.slice ab nb cb) (.slice al np cl) P UV (thAll P ver k) (thAll P ver k) k vo)) (fun _ kv _=>np-(intOf kv).toNat)
 case atStart=>exact⟨0,Nat.zero_le _,rfl,J0⟩
 case round =>
  obtain⟨k,hk,rfl,J⟩:=hrel;by_cases hlt:k<np
  ·have hki:(k:Int)<(np:Int):=by omega
   obtain⟨bl,off,rfl,hbl,g0,g1,g2,g3⟩:=(HL.out.up J.out.below).at hlt;have G3:=hid g3;obtain⟨ak,ck,hke,_,_⟩:=g3;rw[hke]at g2 G3;have hbA:=below_alloc wr (.cells #[.bool (P.th k),.int .i64 (P.rm k),.slice ak (P.m k) ck] 41);have kp:=heap_alloc_new wr (.cells #[.bool (P.th k),.int .i64 (P.rm k),.slice ak (P.m k) ck] 41);obtain⟨W1,hW1⟩:∃u,wr.alloc (.cells #[.bool (P.th k),.int .i64 (P.rm k),.slice ak (P.m k) ck] 41)=u:=⟨_,rfl⟩;rw[hW1]at hbA kp;obtain⟨p0,p1,p2⟩:=three_at kp;have JA:=hid (J.out.up hbA);have CS:=hid (msShows (P.th k) (P.rm k) _ (P.m k) (UV k) (P.t k) ver W1 (G3.out.up hbA));have hst:=HStep.out k hlt;have hln:=HLen.out k (by omega);have hhk:hasV (P.th k) (P.t k) ver (P.m k)=hasK P ver k:=rfl
   have hsk:shownV (P.th k) (UV k) (P.t k) ver (P.m k)=if hasK P ver k=true then .agg #[.int .i64 (numK P ver k),UV k (atK P ver k)]else .agg #[.int .i64 0,.slice none 0 0]:=rfl
   rw[hhk,hsk]at CS;have HNum:Hid (hasK P ver k=true→(0≤numK P ver k∧numK P ver k<8)∧∃a c,UV k (atK P ver k)=.slice a ((P.t k).L (atK P ver k)) c):=fun hh=>by
    obtain⟨_,h1,_⟩:=hasK_at hh;refine⟨HR.out.num k _ hlt h1,?_⟩;obtain⟨a,c,e,_⟩:=HL.out.ints hlt h1;exact⟨a,c,e⟩
   unfold peerV at CS;clear hbA kp hke hhk hsk J G3;cases hh:hasK P ver k with
   |false =>
    rw[hh,if_neg (by decide)]at CS;rw[hh,Bool.false_and,if_neg (by decide)]at hst;have HSt:=hid hst;clear hst hh;go_wp2_with fail
    refine Calls.mono CS.out ?_;rintro e w2 ⟨rfl,hb2⟩;have hb3:=hb2.alloc hb2.size (.cells #[.int .i64 0,.slice none 0 0] 81);have JB:=hid (JA.out.up hb3);clear hb2 hb3 CS p0 p1 p2;go_wp2;go_roundw
    case rel =>
     refine⟨k+1,by omega,by go_num,?_⟩;show PrInv _ _ _ _ _ _ _ _ _ _;rw[HSt.out];obtain⟨mm,c,h0,h1,h2,h3⟩:=JB.out.map;exact⟨JB.out.below,JB.out.box,⟨mm,c,by omega,h1,fun x=>by have:=h2 x;omega,h3⟩,JB.out.own⟩
    case measure=>simp only[intOf];omega
   |true =>
    obtain⟨hNb,au,cu,hue⟩:=HNum.out hh;obtain⟨q,hq⟩:∃q:Nat,numK P ver k=(q:Int):=⟨(numK P ver k).toNat,by omega⟩;have hq8:(q:Int)<8:=by omega
    have hqk:0≤(q:Int)∧(q:Int)≤1000:=by omega
    rw[hh,if_pos rfl,hq,hue]at CS;rw[hh,Bool.true_and,hq]at hst;have HQ:=hid hq;have HU:=hid hue;clear hh hq hue hNb;go_wp2_with fail
    refine Calls.mono CS.out ?_;rintro e w2 ⟨rfl,hb2⟩;have HOb:Hid (some w2.heap.size≠(u6:Value).ownBlock):=fun e=>by have:=((JA.out.up hb2).own.lt _ e.symm).2;omega
    have hb3:=hb2.alloc hb2.size (.cells #[.int .i64 (q:Int),.slice au ((P.t k).L (atK P ver k)) cu] 81);have k9:=heap_alloc_new w2 (.cells #[.int .i64 (q:Int),.slice au ((P.t k).L (atK P ver k)) cu] 81);obtain⟨W3,hW3⟩:∃u,w2.alloc (.cells #[.int .i64 (q:Int),.slice au ((P.t k).L (atK P ver k)) cu] 81)=u:=⟨_,rfl⟩;rw[hW3]at hb3 k9;have JB:=hid (JA.out.up hb3);have K9:=hid k9;obtain⟨s0,s1⟩:=two_at k9;obtain⟨mm,c,h0,hcm,hc2,hc3⟩:=JB.out.map;obtain⟨D,hD,hat⟩:=hcm;have HD:=hid hD;have HAt:=hid hat;have HC2:=hid hc2;have HC3:=hid hc3;have HK:=hid (keyInt hqk);obtain⟨cx,hcx⟩:∃cx,c (q:Int)=cx:=⟨_,rfl⟩;have HCx:=hid hcx;have hbd:=hc2 (q:Int);rw[hcx]at hbd;have hcq:=hc3 (q:Int);rw[hcx]at hcq;have HLst:=hid hst;clear hb2 hb3 CS p0 p1 p2 hD hat hc2 hc3 hcx k9
    have hge:w.heap.size+2≤W3.heap.size:=by have h9:=HD.out.lt;omega
    by_cases hc0:cx=0
    ·have hs:=hcq.1 hc0
     have hst2:=hst;rw[hs,Bool.not_false,if_pos rfl]at hst2;have hcb:(cx==0)=true:=by rw[beq_iff_eq];exact hc0
     have HSt:=hid hst2;have hl9:(thAll P ver k).length≤8:=by omega
     clear hst hst2 hs hcq hc0;go_wp2_with(first
      |(at_builtin;go_must(refine wpList_append_own _ rfl (.tmp 32) (.tmp 34) 103 rfl (w.heap.size+2) 81 ii (.agg #[.int .i64 0,.slice none 0 0]) 2 32 Tryz.underlying103 hii hz0 hz1 hz2 rfl (by decide) _ _ _ rfl (World.ownsRow.alloc JB.out.own _) ⟨_,0,none⟩ 1 1 [.int .i64 (q:Int),.slice au ((P.t k).L (atK P ver k)) cu] rfl rfl (cells_pr _ _ _ _) (by intro u hu;simp at hu;rcases hu with rfl|rfl<;>rfl) (by unfold maxLen;omega) (by omega) (by simp;omega) ?_;intro v1 w6 ho6 hg6 _;have hb5:=below_alloc W3 (.cells #[.int .i64 (q:Int),.slice au ((P.t k).L (atK P ver k)) cu] 81);have h5:=stayB K9.out hb5;rw[←hg6.block _ (Array.getElem?_eq_some_iff.1 h5).1 HOb.out]at h5;obtain⟨t0,t1⟩:=two_at h5;have HD6:=hid ((HD.out.kept (grown_of_below hb5 none) (by intro e;cases e)).kept hg6 JB.out.ne.1);have J6:=hid (JB.out.push (k:=k) (i:=atK P ver k) (by rw[show(P.t k).N (atK P ver k)=(q:Int)from HQ.out,HU.out];exact ho6) hg6);have hge6:w.heap.size+2≤w6.heap.size:=HD6.out.lt;clear ho6 hg6 hb5 h5 s0 s1))
      |(at_lookup;refine wpList_lookup_own_int _ rfl _ _ 102 rfl 3 3 .i64 keyedInt Tryz.underlying102 Tryz.underlying3 (zeroInt _) (w.heap.size+1) mm _ rfl HD.out _ _ rfl HK.out ?_;intro cz hat0 hwc;obtain rfl:=(cnt_val HAt.out hat0).trans HCx.out;clear hat0 hwc)
      |(at_lookup;refine wpList_lookup_own_int _ rfl _ _ 102 rfl 3 3 .i64 keyedInt Tryz.underlying102 Tryz.underlying3 (zeroInt _) (w.heap.size+1) mm _ rfl HD6.out _ _ rfl HK.out ?_;intro cz hat0 hwc;obtain rfl:=(cnt_val HAt.out hat0).trans HCx.out;clear hat0 hwc)
      |(at_mapUpdate;refine wpList_mapUpdate_own _ rfl _ _ _ 102 rfl 3 3 keyedInt Tryz.underlying102 _ (w.heap.size+1) mm _ rfl HD6.out (by unfold maxLen;omega) _ _ _ rfl rfl HK.out _ [] (plainElem_int Tryz.underlying3 (by first|exact wrap64_wf _|exact WalkArith.wf_i64 (by omega))) ?_;intro w7 hown7 hgrow7;have HO7:=hid hown7;have HG7:=hid hgrow7;clear hown7 hgrow7))
     go_roundw
     case rel =>
      refine⟨k+1,by omega,by go_num,?_⟩;show PrInv _ _ _ _ _ _ _ _ _ _;have hst9:=HLst.out;rw[HSt.out];rw[HSt.out]at hst9;refine J6.out.count HG7.out (by omega) (cntM_put HD6.out HAt.out HO7.out) ?_;have h9:=seen_hit (M:=k) (c:=c) HC2.out HC3.out HQ.out hst9;rw[HCx.out]at h9;exact h9
     case measure=>simp only[intOf];omega
    have hs:seenN P (thAll P ver k) (q:Int)=true:=by
     cases h9:seenN P (thAll P ver k) (q:Int)with
     |true=>rfl
     |false=>exact absurd (hcq.2 h9) hc0
    have hst2:=hst;rw[hs,Bool.not_true,if_neg (by decide)]at hst2;have hcb:(cx==0)=false:=by rw[beq_eq_false_iff_ne];exact hc0
    have HSt:=hid hst2;clear hst hst2 hs hcq hc0;go_wp2_with(first
     |(at_lookup;refine wpList_lookup_own_int _ rfl _ _ 102 rfl 3 3 .i64 keyedInt Tryz.underlying102 Tryz.underlying3 (zeroInt _) (w.heap.size+1) mm _ rfl HD.out _ _ rfl HK.out ?_;intro cz hat0 hwc;obtain rfl:=(cnt_val HAt.out hat0).trans HCx.out;clear hat0 hwc)
     |(at_mapUpdate;refine wpList_mapUpdate_own _ rfl _ _ _ 102 rfl 3 3 keyedInt Tryz.underlying102 _ (w.heap.size+1) mm _ rfl HD.out (by unfold maxLen;omega) _ _ _ rfl rfl HK.out _ [] (plainElem_int Tryz.underlying3 (by first|exact wrap64_wf _|exact WalkArith.wf_i64 (by omega))) ?_;intro w7 hown7 hgrow7;have HO7:=hid hown7;have HG7:=hid hgrow7;clear hown7 hgrow7))
    go_roundw
    case rel =>
     refine⟨k+1,by omega,by go_num,?_⟩;show PrInv _ _ _ _ _ _ _ _ _ _;have hst9:=HLst.out;rw[HSt.out];rw[HSt.out]at hst9;refine JB.out.count HG7.out (by omega) (cntM_put HD.out HAt.out HO7.out) ?_;have h9:=seen_hit (M:=k) (c:=c) HC2.out HC3.out HQ.out hst9;rw[HCx.out]at h9;exact h9
    case measure=>simp only[intOf];omega
  have hke:np=k:=by omega
  subst hke;have hlen:=HLen.out np (Nat.le_refl _);have hsl:ShSl wr wr.heap.size u6 (thAll P ver np).length (nL P (thAll P ver np)) (vaL UV (thAll P ver np)) (lL P (thAll P ver np)) (xL P (thAll P ver np)):=by
   refine OwnS.shl (w0:=w) ⟨owns_base J.out.own (by omega),J.out.below⟩ (by omega) fun j hj=>?_;obtain⟨h1,h2,_⟩:=(thAll_ok P ver np np (Nat.le_refl _)).at_ ((thAll P ver np).getD j (0,0)) (by rw[List.getD_eq_getElem?_getD,List.getElem?_eq_getElem hj];exact List.getElem_mem hj);exact(HL.out.up J.out.below).ints h1 h2
  have HS:=hid hsl;clear hsl;go_wp2;go_ret;exact⟨J.out.below,_,rfl,HS.out⟩
end
end Go.Proofs.YtajmnlhfnhbleaaGreat
