/- Several texts of one proof, in their order. -/
import Derived.Test.YtajmnlhfnhbleaaGreatKw20
namespace Go.Proofs.YtajmnlhfnhbleaaGreat
open Go.RowKit
set_option linter.unusedVariables false
set_option maxHeartbeats 4000000
theorem stable_small(vo fv:Value)(n:Nat)(hn:n≤8)(w:World)(R:World→Prop)(hv:∃a c,vo=.slice a n c)(hf:∃f a b,fv=.func f a b)
 (hp:Calls Tryz.prog 190 #[vo,.int .i64 0,.int .i64 (n:Int),fv] w fun e w'=>e=.returned (.tuple #[])∧R w') :
 Calls Tryz.prog 171 #[vo,.int .i64 (n:Int),fv] w fun e w'=>e=.returned (.tuple #[])∧R w':=by
 obtain⟨a,c,rfl⟩:=hv
 obtain⟨f,fa,fb,rfl⟩:=hf
 have HP:=hid hp
 clear hp
 have h1:¬(20:Int)≤(n:Int):=by omega
 have h2:¬(20:Int)<(n:Int):=by omega
 go_enter Tryz.func171,Tryz.ntmps171
 go_wp2
 refine wp_loop_rounds 1 ?_
 rw[rounds_succ]
 go_wp2_with fail
 refine Calls.mono HP.out ?_
 rintro e w2 ⟨rfl,hR⟩
 have HR:=hid hR
 clear hR
 go_wp2
 refine wp_loop_rounds 1 ?_
 rw[rounds_succ]
 go_wp2
 go_end0
 exact⟨rfl,HR.out⟩
theorem stable_func(vo fv:Value)(n:Nat)(hn:n≤8)(w:World)(R:World→Prop)(hv:∃a c,vo=.slice a n c)(hf:∃f a b,fv=.func f a b)
 (hp:Calls Tryz.prog 190 #[vo,.int .i64 0,.int .i64 (n:Int),fv] w fun e w'=>e=.returned (.tuple #[])∧R w') :
 Calls Tryz.prog 151 #[vo,fv] w fun e w'=>e=.returned (.tuple #[])∧R w':=by
 have HP:=hid (stable_small vo fv n hn w R hv hf hp)
 obtain⟨a,c,rfl⟩:=hv
 obtain⟨f,fa,fb,rfl⟩:=hf
 clear hp
 go_enter Tryz.func151,Tryz.ntmps151
 go_wp2_with fail
 refine Calls.mono HP.out ?_
 rintro e w2 ⟨rfl,hR⟩
 have HR:=hid hR
 clear hR
 go_wp2
 go_end0
 exact⟨rfl,HR.out⟩
theorem plAsk(bx:Nat)(ver:Int)(th:Bool)(room:Int)(vk:Value)(m:Nat)(UV:Nat→Value)(t:Kt)(w:World)(hk:KeSl w w.heap.size vk m UV t)(hx:w.cell? ⟨bx,0,none⟩=some (.int .i64 ver))(h1:0≤room∧room≤20)(h2:(m:Int)≤room):
 Calls Tryz.prog 149 #[peerV th room vk,.pointer (some ⟨bx,0,none⟩)] w fun e w'=>e=.returned (.bool (th&&(decide (0<room-(m:Int))&&decide (fstAt t.V ver m 0<0))))∧Below w.heap.size w w':=by
 have HK:=hid hk
 obtain⟨ak,ck,rfl,_,_⟩:=hk
 have hb:=below_alloc w (.cells #[.bool th,.int .i64 room,.slice ak m ck] 41)
 have k0:=heap_alloc_new w (.cells #[.bool th,.int .i64 room,.slice ak m ck] 41)
 obtain⟨W,hW⟩:∃W,w.alloc (.cells #[.bool th,.int .i64 room,.slice ak m ck] 41)=W:=⟨_,rfl⟩
 rw[hW]at hb k0
 obtain⟨c0,c1,c2⟩:=three_at k0
 have HB:=hid hb
 have HK0:=hid k0
 have HX:Hid (W.cell? ⟨bx,0,none⟩=some (.int .i64 ver)):=by show W.cell? _=_;rw[hb.cell (cell_lt hx)];exact hx
 have CL:=hid (plLeft th room ak m ck W h1 h2)
 unfold peerV at CL
 unfold peerV
 obtain⟨fa,hfa⟩:∃x,fstAt t.V ver m 0=x:=⟨_,rfl⟩
 rw[hfa]
 have HFa:=hid hfa
 clear hb k0 hx hfa
 cases th with
 |false =>
  rw[Bool.false_and];go_enter Tryz.func149,Tryz.ntmps149;go_wp2;go_ret;exact⟨rfl,HB.out⟩
 |true =>
  rw[Bool.true_and];by_cases hle:0<room-(m:Int)
  ·rw[decide_eq_true hle,Bool.true_and]
   go_enter Tryz.func149,Tryz.ntmps149;go_wp2_with fail
   refine Calls.mono CL.out ?_;rintro e w2 ⟨rfl,hw2⟩;have hb2:Below W.heap.size W w2:=by rw[hw2];exact below_alloc _ _
   have HB2:=hid (HB.out.trans (hb2.mono HB.out.size));obtain⟨d0,d1,d2⟩:=three_at (stayB HK0.out hb2);have hx2:w2.cell? ⟨bx,0,none⟩=some (.int .i64 ver):=by rw[hb2.cell (cell_lt HX.out)];exact HX.out
   have CF:=hid (peFind true room _ m UV t ver w2 (HK.out.up HB2.out));unfold peerV at CF;rw[HFa.out]at CF;clear hw2 hb2 c0 c1 c2;go_wp2_with fail
   refine Calls.mono CF.out ?_;rintro e w3 ⟨rfl,hb3⟩;have HB3:=hid (HB2.out.trans (hb3.mono HB2.out.size));clear hb3;go_wp2;go_ret;exact⟨rfl,HB3.out⟩
  rw[decide_eq_false hle,Bool.false_and];go_enter Tryz.func149,Tryz.ntmps149;go_wp2_with fail
  refine Calls.mono CL.out ?_;rintro e w2 ⟨rfl,hw2⟩;have hb2:Below W.heap.size W w2:=by rw[hw2];exact below_alloc _ _
  have HB2:=hid (HB.out.trans (hb2.mono HB.out.size));clear hw2 hb2;go_wp2;go_ret;exact⟨rfl,HB2.out⟩
theorem plThose(bx:Nat)(vl:Value)(np:Nat)(KV:Nat→Value)(UV:Nat→Nat→Value)(P:Ps)(p:Nat→Bool)(hn:np≤8)(w:World)(h:PsSl w w.heap.size vl np KV UV P)
 (hp:∀i,i<np→∀w',Below w.heap.size w w'→Calls Tryz.prog 149 #[peerV (P.th i) (P.rm i) (KV i),.pointer (some ⟨bx,0,none⟩)] w' fun e w''=>e=.returned (.bool (p i))∧Below w'.heap.size w' w'') :
 Calls Tryz.prog 148 #[vl,.func (.func 149) #[] #[.pointer (some ⟨bx,0,none⟩)]] w fun e w'=>∃vo,e=.returned vo∧OwnL w w' vo (pickL p np):=by
 have HL:=hid h
 have HP:=hid hp
 obtain⟨al,cl,rfl,⟨hcl,hbig⟩,_⟩:=h
 obtain⟨ii,hii,hzz0,hzz1,hzz2⟩:=info_parts Tryz.infoInt
 clear hp
 go_enter Tryz.func148,Tryz.ntmps148
 go_wp2
 go_loopw [5,10] (fun vo iv wr=>∃k:Nat,k≤np∧iv=.int .i64 k∧Hid (OwnL w wr vo (pickL p k))) (fun _ iv _=>np-(intOf iv).toNat)
 case atStart=>exact⟨0,Nat.zero_le _,rfl,OwnL.nil _⟩
 case round =>
  obtain⟨k,hk,rfl,OW⟩:=hrel;by_cases hlt:k<np
  ·have hki:(k:Int)<(np:Int):=by omega
   obtain⟨bl,off,rfl,hbl,g0,g1,g2,g3⟩:=(HL.out.up OW.out.2).at hlt;obtain⟨ak,ck,hke,_,_⟩:=g3;rw[hke]at g2;have hbA:=below_alloc wr (.cells #[.bool (P.th k),.int .i64 (P.rm k),.slice ak (P.m k) ck] 41);have kz:=heap_alloc_new wr (.cells #[.bool (P.th k),.int .i64 (P.rm k),.slice ak (P.m k) ck] 41);obtain⟨Z,hZ⟩:∃Z,wr.alloc (.cells #[.bool (P.th k),.int .i64 (P.rm k),.slice ak (P.m k) ck] 41)=Z:=⟨_,rfl⟩;rw[hZ]at hbA kz;obtain⟨z0,z1,z2⟩:=three_at kz;have OZ:=hid (OW.out.up hbA);have HAk:=hid (HP.out k hlt Z OZ.out.2);rw[hke]at HAk;unfold peerV at HAk;have hsc:=pickL_succ p k;have hll:=pickL_len p k;clear hke hbA kz;cases hf:p k with
   |false =>
    rw[hf,if_neg (by decide),List.append_nil]at hsc;rw[hf]at HAk;have HSc:=hid hsc;clear hsc hf;go_wp2_with fail
    refine Calls.mono HAk.out ?_;rintro e w2 ⟨rfl,hb2⟩;have O2:=hid (OZ.out.up hb2);clear hb2;go_wp2;go_roundw
    case rel=>exact⟨k+1,by omega,by go_num,by rw[HSc.out];exact O2.out⟩
    case measure=>simp only[intOf];omega
   |true =>
    rw[hf,if_pos rfl]at hsc;rw[hf]at HAk;have HSc:=hid hsc;clear hsc hf;go_wp2_with fail
    refine Calls.mono HAk.out ?_;rintro e w2 ⟨rfl,hb2⟩;have O2:=hid (OZ.out.up hb2);have hge:w.heap.size≤w2.heap.size:=O2.out.2.size;clear hb2;go_wp2_with(at_builtin;go_must(refine wpList_append_own _ rfl (.tmp 18) (.tmp 20) 28 rfl w.heap.size 3 ii (.int .i64 0) 1 8 Tryz.underlying28 hii hzz0 hzz1 hzz2 rfl (by decide) _ _ _ rfl (World.ownsRow.alloc O2.out.1 _) ⟨_,0,none⟩ 1 1 [.int .i64 (k:Int)] rfl rfl (newCell _ _ _) (oneCell _) (by unfold maxLen;omega) (by omega) (by simp;omega) ?_;intro v1 w6 ho6 hg6 _;have O6:=hid (O2.out.push ho6 hg6);clear ho6 hg6))
    go_roundw
    case rel=>exact⟨k+1,by omega,by go_num,by rw[HSc.out];exact O6.out⟩
    case measure=>simp only[intOf];omega
  have hke:np=k:=by omega
  subst hke;go_wp2;go_ret;exact⟨_,rfl,OW.out⟩
theorem plCheck(vb:Value)(n:Nat)(PV:Nat→Value)(b:Bk)(vl:Value)(np:Nat)(KV:Nat→Value)(UV:Nat→Nat→Value)(P:Ps)(w:World)(hv:VeSl w w.heap.size vb n PV b)(hl:PsSl w w.heap.size vl np KV UV P):
 Calls Tryz.prog 62 #[bookV vb,vl] w fun e w'=>e=.returned (.int .i64 (peersE n b np P))∧Below w.heap.size w w':=by
 have HV:=hid hv
 have HL:=hid hl
 obtain⟨ad,cap,rfl,_,_⟩:=hv
 obtain⟨al,cl,rfl,⟨hcl,hbig⟩,_⟩:=hl
 have hbx:=below_alloc w (.cells #[.slice ad n cap] 24)
 have HCk:=hid (bkCheck _ n PV b _ (HV.out.up hbx))
 have k0:=heap_alloc_new w (.cells #[.slice ad n cap] 24)
 have c0:(w.alloc (.cells #[.slice ad n cap] 24)).cell? ⟨w.heap.size,0,none⟩=some (.slice ad n cap):=cell_at k0 rfl
 have HK0:=hid k0
 have HBx:=hid hbx
 obtain⟨ans,hans⟩:∃c,peersE n b np P=c:=⟨_,rfl⟩
 rw[hans]
 unfold peersE at hans
 obtain⟨c,hcc⟩:∃c,bookE n b=c:=⟨_,rfl⟩
 rw[hcc]at HCk hans
 have HA:=hid hans
 clear hbx hans hcc k0
 unfold bookV at HCk
 unfold bookV
 go_enter Tryz.func62,Tryz.ntmps62
 go_wp2_with fail
 refine Calls.mono HCk.out ?_
 rintro e W ⟨rfl,hbW⟩
 have HBW:=hid (HBx.out.trans (hbW.mono HBx.out.size))
 have HKW:=hid (stayB HK0.out hbW)
 clear hbW HCk c0
 by_cases hc0:c=0
 ·subst hc0
  have ha:=HA.out;rw[if_pos rfl]at ha;by_cases h8:np≤8
  ·rw[if_pos h8]at ha
   have HS0:=hid ha;clear ha HA;have h8i:¬(8:Int)<(np:Int):=by omega
   go_wp2;go_loopw [19] (fun iv wr=>∃k:Nat,k≤np∧iv=.int .i64 k∧Hid (Below W.heap.size W wr)∧Hid (scanP n b P (np-k) k=ans)) (fun iv _=>np-(intOf iv).toNat)
   case atStart=>exact⟨0,Nat.zero_le _,rfl,Below.refl _ _,HS0⟩
   case round =>
    obtain⟨k,hk,rfl,HB,HS⟩:=hrel;by_cases hlt:k<np
    ·have hki:(k:Int)<(np:Int):=by omega
     have HBr:=hid (HBW.out.trans (HB.out.mono HBW.out.size));obtain⟨bl,off,rfl,hbl,g0,g1,g2,g3⟩:=(HL.out.up HBr.out).at hlt;have G3:=hid g3;obtain⟨ak,ck,hke,_,_⟩:=g3;rw[hke]at g2 G3;have hbA:=below_alloc wr (.cells #[.bool (P.th k),.int .i64 (P.rm k),.slice ak (P.m k) ck] 41);have hstep:=HS.out;rw[show np-k=(np-(k+1))+1 by omega]at hstep;simp only[scanP]at hstep;have HCp:=hid (peChecked _ n PV b (P.th k) (P.rm k) _ (P.m k) (UV k) (P.t k) _ ((HV.out.up HBr.out).up hbA) (G3.out.up hbA));have cb:wr.cell? ⟨w.heap.size,0,none⟩=some (.slice ad n cap):=cell_at (stayB HKW.out HB.out) rfl;have cb2:(wr.alloc (.cells #[.bool (P.th k),.int .i64 (P.rm k),.slice ak (P.m k) ck] 41)).cell? ⟨w.heap.size,0,none⟩=some (.slice ad n cap):=by rw[hbA.cell (cell_lt cb)];exact cb
     have HBA:=hid (HB.out.trans (hbA.mono HB.out.size));obtain⟨ep,hep⟩:∃x,peerE n b (P.rm k) (P.m k) (P.t k)=x:=⟨_,rfl⟩;rw[hep]at HCp hstep;have HSt:=hid hstep;clear hep hstep hbA hke;unfold bookV peerV at HCp;go_wp2_with fail
     refine Calls.mono HCp.out ?_;rintro e w2 ⟨rfl,hb2⟩;have HB2:=hid (HBA.out.trans (hb2.mono HBA.out.size));clear hb2 HCp cb cb2 g0 g1 g2;by_cases he:ep=0
     ·have hst:=HSt.out
      rw[if_pos he]at hst;have HNx:=hid hst;have heb:(ep != 0)=false:=by rw[bne_eq_false_iff_eq];exact he
      clear hst he;go_wp2;go_roundw
      case rel=>exact⟨k+1,by omega,by go_num,HB2,HNx⟩
      case measure=>simp only[intOf];omega
     have hst:=HSt.out;rw[if_neg he]at hst;have heb:(ep != 0)=true:=by simpa using he
     have HFn:=hid hst;clear hst he;go_wp2;go_ret;exact⟨by rw[HFn.out];rfl,HBW.out.trans (HB2.out.mono HBW.out.size)⟩
    have hke:np=k:=by omega
    subst hke;have hst:=HS.out;rw[Nat.sub_self]at hst;have HFin:Hid ((0:Int)=ans):=hst;clear hst;go_wp2;go_ret;exact⟨by rw[←HFin.out];rfl,HBW.out.trans (HB.out.mono HBW.out.size)⟩
  rw[if_neg h8]at ha;subst ha;have h8i:(8:Int)<(np:Int):=by omega
  clear HA;go_wp2;go_ret;exact⟨rfl,HBW.out⟩
 ·have hcb:(c != 0)=true:=by simpa using hc0
  have ha:=HA.out;rw[if_neg hc0]at ha;subst ha;clear hc0 HA;go_wp2;go_ret;exact⟨rfl,HBW.out⟩
theorem heap_three(w:World)(o1 o2 o3:Obj):(((w.alloc o1).alloc o2).alloc o3).heap[w.heap.size]?=some o1∧(((w.alloc o1).alloc o2).alloc o3).heap[w.heap.size+1]?=some o2∧(((w.alloc o1).alloc o2).alloc o3).heap[w.heap.size+2]?=some o3:=by
 have h1:(w.alloc o1).heap.size=w.heap.size+1:=by simp
 have h2:((w.alloc o1).alloc o2).heap.size=w.heap.size+2:=by simp
 refine⟨?_,?_,?_⟩;·rw[heap_alloc_old _ _ (by omega),heap_alloc_old _ _ (by omega)];exact heap_alloc_new w o1
 ·rw[heap_alloc_old _ _ (by omega)];have:=heap_alloc_new (w.alloc o1) o2;rwa [h1]at this
 have:=heap_alloc_new ((w.alloc o1).alloc o2) o3;rwa [h2]at this
theorem plFor(vb:Value)(n:Nat)(PV:Nat→Value)(b:Bk)(vl:Value)(np:Nat)(KV:Nat→Value)(UV:Nat→Nat→Value)(P:Ps)(ver many:Int)(w:World)(hv:VeSl w w.heap.size vb n PV b)(hl:PsSl w w.heap.size vl np KV UV P):
 Calls Tryz.prog 116 #[bookV vb,vl,.int .i64 ver,.int .i64 many] w (LiPost w (if peersE n b np P=0 then forL P ver np many else[]) (forE n b P ver np many)):=by
 have HV:=hid hv
 have HL:=hid hl
 obtain⟨ad,cap,rfl,_,_⟩:=hv
 obtain⟨al,cl,rfl,⟨hcl,hbig⟩,_⟩:=hl
 have hb0:=(((Below.refl w.heap.size w).alloc (Nat.le_refl _) (.cells #[.slice ad n cap] 24)).alloc (by simp) (.cells #[.slice al np cl] 25)).alloc (by simp;omega) (.cells #[.int .i64 ver] 3)
 obtain⟨k1,k2,k3⟩:=heap_three w (.cells #[.slice ad n cap] 24) (.cells #[.slice al np cl] 25) (.cells #[.int .i64 ver] 3)
 obtain⟨W0,hW0⟩:∃W,((w.alloc (.cells #[.slice ad n cap] 24)).alloc (.cells #[.slice al np cl] 25)).alloc (.cells #[.int .i64 ver] 3)=W:=⟨_,rfl⟩
 rw[hW0]at hb0 k1 k2 k3
 have CK:=hid (plCheck _ n PV b _ np KV UV P W0 (HV.out.up hb0) (HL.out.up hb0))
 have c1:W0.cell? ⟨w.heap.size,0,none⟩=some (.slice ad n cap):=cell_at k1 rfl
 have c2:W0.cell? ⟨w.heap.size+1,0,none⟩=some (.slice al np cl):=cell_at k2 rfl
 have K2:=hid k2
 have K3:=hid k3
 have B0:=hid hb0
 unfold forE
 have HR:Hid (peersE n b np P=0→RightP n b np P):=rightP_of
 obtain⟨c,hcc⟩:∃c,peersE n b np P=c:=⟨_,rfl⟩
 rw[hcc]at CK HR ⊢
 clear hcc k1 k2 k3 hb0
 unfold bookV at CK
 unfold bookV
 by_cases hc0:c=0
 ·subst hc0
  rw[if_pos rfl,if_pos rfl];have hR:=HR.out rfl;have h8:=hR.le;have HRm:Hid (∀k,k<np→(0≤P.rm k∧P.rm k≤20)∧(P.m k:Int)≤P.rm k):=fun k hk=>hR.room hk;clear hR HR;unfold forL;obtain⟨er,her⟩:∃e,manyE P ver np many=e:=⟨_,rfl⟩;rw[her];unfold manyE at her;obtain⟨lo,hlo⟩:∃l,(if er=0 then(orderL P ver np).take many.toNat else[])=l:=⟨_,rfl⟩;rw[hlo];have HEr:=hid her;have HLo:=hid hlo;clear her hlo;by_cases hm:0≤many∧many≤8
  ·obtain⟨q,rfl⟩:∃q:Nat,many=q:=⟨many.toNat,by omega⟩
   have hm1:¬(q:Int)<0:=by omega
   have hm2:¬(8:Int)<(q:Int):=by omega
   have hE:=HEr.out;rw[if_pos hm]at hE;have HE2:=hid hE;clear hE HEr;go_enter Tryz.func116,Tryz.ntmps116;go_wp2_with fail
   refine Calls.mono CK.out ?_;rintro e W ⟨rfl,hbW⟩;have BW:=hid (B0.out.trans (hbW.mono B0.out.size));have KW2:=hid (stayB K2.out hbW);have KW3:=hid (stayB K3.out hbW);have d2:W.cell? ⟨w.heap.size+1,0,none⟩=some (.slice al np cl):=cell_at KW2.out rfl;have CT:=hid (plThose (w.heap.size+2) _ np KV UV P (canK P ver) h8 W (HL.out.up BW.out) (fun i hi w' hb'=>by
    have hlt:w.heap.size+2<W.heap.size:=(Array.getElem?_eq_some_iff.1 KW3.out).1;obtain⟨bl,off,_,_,_,_,_,g3⟩:=((HL.out.up BW.out).up hb').at hi;have:=HRm.out i hi;exact plAsk (w.heap.size+2) ver (P.th i) (P.rm i) (KV i) (P.m i) (UV i) (P.t i) w' g3 (by rw[hb'.cell hlt];exact cell_at KW3.out rfl) this.1 this.2))
   clear hbW c1 c2 CK;go_wp2_with fail
   refine Calls.mono CT.out ?_;rintro e w2 ⟨vo,rfl,ow⟩;have OW:=hid ow;have hpl:=pickL_len (canK P ver) np;have hs:=OW.out.isl (by omega);have CS:=hid (plStable (w.heap.size+1) al cl np KV UV P ver h8 HRm.out W w2 vo (HL.out.up BW.out) d2 OW.out);obtain⟨ao,co,rfl,⟨hco,_⟩,_⟩:=hs;replace CS:=hid (stable_func _ _ _ (by omega) w2 _ ⟨_,_,rfl⟩ ⟨_,_,_,rfl⟩ CS.out);have hol:(orderL P ver np).length=(pickL (canK P ver) np).length:=by
    rcases Nat.eq_zero_or_pos np with h0|h0
    ·subst h0
     have e0:orderL P ver 0=[]:=by
      rw[List.eq_nil_iff_forall_not_mem];intro x hx;obtain⟨k,_,h,_⟩:=mem_lefts.1 hx;omega
     rw[e0];rfl
    haveI:Inhabited (Fin np):=⟨⟨0,h0⟩⟩
    obtain⟨hos,hord⟩:=sorted_order P ver np (fun k hk=>by unfold leftK;have:=HRm.out k hk;omega) _ rfl;rw[←hord,List.length_map,Array.length_toList,hos,←canF_pick,List.length_map]
   obtain⟨z,hz⟩:∃z,(pickL (canK P ver) np).length=z:=⟨_,rfl⟩;have hE:=HE2.out;rw[hol,hz]at hE;rw[hz]at CS hco hpl;have HOl:=hid (hol.trans hz);have BV:=hid (BW.out.trans (OW.out.2.mono BW.out.size));rw[hz];clear ow CT hol hz d2 HE2;by_cases hsh:(z:Int)<(q:Int)
   ·rw[if_pos hsh]at hE
    subst hE;have hL:=HLo.out;rw[if_neg (by decide)]at hL;subst hL;go_wp2;go_ret2;exact liPost_nil BV.out
   rw[if_neg hsh]at hE;subst hE;have hL:=HLo.out;rw[if_pos rfl,Int.toNat_natCast]at hL;have HLl:=hid hL;clear hL;go_wp2_with fail
   refine Calls.mono CS.out ?_;rintro e w3 ⟨rfl,hb3,hi3,_⟩;have B3:=hid (BW.out.trans (hb3.mono BW.out.size));have I3:=hid hi3;have hqc:(q:Int)≤(co:Int):=by omega
   clear hb3 hi3;go_wp2;go_ret2;refine⟨B3.out,_,rfl,?_⟩;rw[←HLl.out];have h4:=I3.out;refine isl_take (by have h5:=HOl.out;rw[h5];rw[h5]at h4;exact h4) (by have:=HOl.out;omega)
  have hE:=HEr.out;rw[if_neg hm]at hE;subst hE;have hL:=HLo.out;rw[if_neg (by decide)]at hL;subst hL;clear HEr;by_cases hm1:many<0
  ·go_enter Tryz.func116,Tryz.ntmps116
   go_wp2_with fail
   refine Calls.mono CK.out ?_;rintro e W ⟨rfl,hbW⟩;have BW:=hid (B0.out.trans (hbW.mono B0.out.size));clear hbW;go_wp2;go_ret2;exact liPost_nil BW.out
  have hm2:(8:Int)<many:=by omega
  clear hm;go_enter Tryz.func116,Tryz.ntmps116;go_wp2_with fail
  refine Calls.mono CK.out ?_;rintro e W ⟨rfl,hbW⟩;have BW:=hid (B0.out.trans (hbW.mono B0.out.size));clear hbW;go_wp2;go_ret2;exact liPost_nil BW.out
 ·rw[if_neg hc0,if_neg hc0]
  have hcb:(c != 0)=true:=by simpa using hc0
  clear hc0;go_enter Tryz.func116,Tryz.ntmps116;go_wp2_with fail
  refine Calls.mono CK.out ?_;rintro e W ⟨rfl,hbW⟩;have BW:=hid (B0.out.trans (hbW.mono B0.out.size));clear hbW;go_wp2;go_ret2;exact liPost_nil BW.out
end Go.Proofs.YtajmnlhfnhbleaaGreat
