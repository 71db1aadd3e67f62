/- Several texts of one proof, in their order. -/
import Derived.Test.YtajmnlhfnhbleaaGreatKw19
import Derived.Test.YtajmnlhfnhbleaaGreatKw16
namespace Go.Proofs.YtajmnlhfnhbleaaGreat
open Go.RowKit Go.Shelf Go.Lib Go.Sort
set_option linter.unusedVariables false
set_option maxHeartbeats 4000000
def canK(P:Ps)(ver:Int)(k:Nat):Bool:=P.th k&&(decide (0<leftK P k)&&noneK P ver k)
theorem canK_iff(P:Ps)(ver:Int)(k:Nat):canK P ver k=true↔mayK P ver k∧0<leftK P k:=by
 unfold canK noneK mayK;rw[Bool.and_eq_true,Bool.and_eq_true,decide_eq_true_iff,decide_eq_true_iff];constructor;·rintro⟨h1,h2,h3⟩;exact⟨⟨h1,h3⟩,h2⟩
 rintro⟨⟨h1,h3⟩,h2⟩;exact⟨h1,h2,h3⟩
def LexK(P:Ps)(x y:Int):Prop:=leftK P y.toNat<leftK P x.toNat∨(leftK P y.toNat=leftK P x.toNat∧x<y)
theorem lefts_lex(P:Ps)(ver:Int)(np r:Nat):List.Pairwise (LexK P) (lefts P ver np r):=by
 induction r with
 |zero=>exact List.Pairwise.nil
 |succ r ih =>
  simp only[lefts];rw[List.pairwise_append];have hl:∀x,x∈pickL (fitK P ver ((r+1:Nat):Int)) np→leftK P x.toNat=((r+1:Nat):Int):=fun x hx=>by
   obtain⟨k,_,h2,rfl⟩:=mem_pickL.1 hx;rw[Int.toNat_natCast];exact((fitK_iff _ _ _ _).1 h2).2
  refine⟨?_,ih,fun x hx y hy=>?_⟩
  ·refine(pickL_rise (fitK P ver ((r+1:Nat):Int)) np).imp_of_mem fun {x y} hx hy hxy=>?_
   exact Or.inr ⟨by rw[hl x hx,hl y hy],hxy⟩
  have h1:=hl x hx;obtain⟨k,rfl,_,_,_,h4⟩:=mem_lefts.1 hy;have h2:leftK P (k:Int).toNat≤(r:Int):=by rw[Int.toNat_natCast];exact h4
  exact Or.inl (by omega)
def canF(P:Ps)(ver:Int)(np:Nat):List (Fin np):=(List.finRange np).filter fun x=>canK P ver x.val
theorem canF_pick(P:Ps)(ver:Int)(np:Nat):(canF P ver np).map (fun x=>(x.val:Int))=pickL (canK P ver) np:=by
 unfold canF pickL;rw[show List.range np=(List.finRange np).map Fin.val from(List.ext_getElem (by simp) (by simp)),List.filter_map,List.map_map];rfl
theorem canF_rise(P:Ps)(ver:Int)(np:Nat):(canF P ver np).Pairwise (fun x y=>x.val<y.val):=by
 have h:=pickL_rise (canK P ver) np;rw[←canF_pick,List.pairwise_map]at h;exact h.imp fun {a b} h=>by omega
def cfK(P:Ps){np:Nat}(x y:Fin np):Int:=cmpZ (leftK P y.val) (leftK P x.val)
theorem ltOf_cfK(P:Ps){np:Nat}(x y:Fin np):ltOf (cfK P) x y=decide (leftK P y.val<leftK P x.val):=by
 unfold ltOf cfK cmpZ;by_cases h:leftK P y.val<leftK P x.val;·rw[if_pos h];simp[h]
 rw[if_neg h];by_cases h2:leftK P x.val<leftK P y.val;·rw[if_pos h2];simp[h]
 rw[if_neg h2];simp[h]
def ltX(P:Ps){np:Nat}(x y:Fin np):Bool:=decide (leftK P y.val<leftK P x.val∨(leftK P y.val=leftK P x.val∧x.val<y.val))
theorem ltX_swo(P:Ps){np:Nat}:SWO (ltX P (np:=np)):=by
 refine⟨fun x=>?_,fun x y z h1 h2=>?_,fun x y z h1 h2=>?_⟩;·unfold ltX;simp
 ·unfold ltX at *;simp at *;omega
 unfold ltX at *;simp at *;omega
theorem sorted_order(P:Ps)(ver:Int)(np:Nat)[Inhabited (Fin np)](hr:∀k,k<np→leftK P k≤20)(r:Array (Fin np))(he:r=insertionSort (ltOf (cfK P)) (canF P ver np).toArray 0 (canF P ver np).toArray.size):
 r.size=(canF P ver np).length∧r.toList.map (fun x=>(x.val:Int))=orderL P ver np:=by
 have hst:=insertionSort_stable (α:=Fin np) (fun x=>x.val) (ltOf (cfK P)) (ltX P) (fun x y h=>by
  rw[ltOf_cfK];unfold ltX;by_cases c:leftK P y.val<leftK P x.val;·simp[c]
  ·have:¬(leftK P y.val<leftK P x.val∨(leftK P y.val=leftK P x.val∧x.val<y.val)):=by omega
   rw[decide_eq_false c,decide_eq_false this]) (ltX_swo P) (canF P ver np).toArray (fun i j hij hj=>by
  have hj':j<(canF P ver np).length:=by simpa using hj
  have h:=List.pairwise_iff_getElem.1 (canF_rise P ver np) i j (by omega) hj' hij;rw[getElem!_pos _ i (by simp;omega),getElem!_pos _ j hj];simpa using h)
 rw[←he]at hst
 obtain⟨hp,hs⟩:=hst
 have hsz:r.size=(canF P ver np).length:=by rw[hp.1];simp
 refine⟨hsz,?_⟩
 have hperm:r.toList.Perm (canF P ver np):=by
  have h3:=hp.2.2;rw[Array.extract_eq_self_of_le (by rw[hsz];simp),Array.extract_eq_self_of_le (Nat.le_refl _)]at h3;exact h3
 have hnd:(canF P ver np).Nodup:=(canF_rise P ver np).imp fun {a b} h e=>by rw[e]at h;omega
 have hpw:(r.toList.map (fun x=>(x.val:Int))).Pairwise (LexK P):=by
  rw[List.pairwise_map,List.pairwise_iff_getElem];intro i j hi hj hij;have hi':i<r.size:=by simpa using hi
  have hj':j<r.size:=by simpa using hj
  have h4:=hs i j (Nat.zero_le _) hij (by rw[←hp.1];exact hj');rw[getElem!_pos r j hj',getElem!_pos r i hi']at h4;have h5:=of_decide_eq_false h4;have hne:r[i].val≠r[j].val:=fun e=>by
   have h6:r.toList.Nodup:=hperm.nodup_iff.2 hnd;have:=(List.getElem_inj (h₀:=hi) (h₁:=hj) h6).1 (by simpa using Fin.ext e);omega
  simp only[Array.getElem_toList];unfold LexK;rw[Int.toNat_natCast,Int.toNat_natCast];omega
 have hpp:(r.toList.map (fun x=>(x.val:Int))).Perm (orderL P ver np):=by
  refine(hperm.map _).trans ?_;rw[canF_pick];have n1:(pickL (canK P ver) np).Nodup:=(pickL_rise (canK P ver) np).imp fun {a b} h=>by omega
  have n2:(orderL P ver np).Nodup:=(lefts_ahead P ver np 20).imp fun {a b} h=>h.1;refine(List.perm_ext_iff_of_nodup n1 n2).2 fun x=>?_;unfold orderL;rw[mem_pickL,mem_lefts];constructor
  ·rintro⟨k,h1,h2,rfl⟩
   obtain⟨h3,h4⟩:=(canK_iff _ _ _).1 h2;exact⟨k,rfl,h1,h3,by omega,hr k h1⟩
  rintro⟨k,rfl,h1,h2,h3,_⟩;exact⟨k,h1,(canK_iff _ _ _).2 ⟨h2,by omega⟩,rfl⟩
 refine hpp.eq_of_pairwise (le:=LexK P) (fun a b _ _ h1 h2=>?_) hpw (lefts_lex P ver np 20)
 unfold LexK at h1 h2
 omega
theorem insNone(ad:Option Addr)(cap:Nat)(fv:Value)(w:World)(hf:∃f a b,fv=.func f a b):Calls Tryz.prog 190 #[.slice ad 0 cap,.int .i64 0,.int .i64 0,fv] w fun e w'=>e=.returned (.tuple #[])∧w'=w:=by
 obtain⟨f,a,b,rfl⟩:=hf;go_enter Tryz.func190,Tryz.ntmps190;go_wp2;refine wp_loop_rounds 1 ?_;rw[rounds_succ];go_wp2;go_end0
 exact⟨rfl,rfl⟩
theorem sortW_below{α:Type}[Inhabited α](enc:α→Value){w0 wr:World}{g m:Nat}{dk:Array α}{os:Array Obj}(hb:RowKit.Below w0.heap.size w0 wr)(hg:w0.heap.size≤g):RowKit.Below w0.heap.size w0 (sortWorld enc wr g 0 m dk os):=by
 have hsz:(sortWorld enc wr g 0 m dk os).heap.size=wr.heap.size+os.size:=by simp[sortWorld,putRow,mapBlock,Sort.ahead,grow]
 refine hb.trans ⟨rfl,rfl,rfl,by omega,fun k hk=>?_⟩;have hl:=hb.size;unfold sortWorld;rw[heap_grow_old _ _ (by simp[putRow,mapBlock,Sort.ahead];omega)];have:g≠k:=by omega
 simp[putRow,mapBlock,Sort.ahead,Array.getElem?_modify,this]
theorem plStable(bx:Nat)(a:Option Addr)(c:Nat)(np:Nat)(KV:Nat→Value)(UV:Nat→Nat→Value)(P:Ps)(ver:Int)(hn:np≤8)(hr:∀k,k<np→(0≤P.rm k∧P.rm k≤20)∧(P.m k:Int)≤P.rm k)(w0 wr:World)(vo:Value)
 (hl:PsSl w0 w0.heap.size (.slice a np c) np KV UV P) (hx:w0.cell? ⟨bx,0,none⟩=some (.slice a np c)) (ho:OwnL w0 wr vo (pickL (canK P ver) np)) :
 Calls Tryz.prog 190 #[vo,.int .i64 0,.int .i64 ((pickL (canK P ver) np).length:Int),.func (.func 152) #[] #[.pointer (some ⟨bx,0,none⟩)]] wr fun e w'=>e=.returned (.tuple #[]) ∧
  RowKit.Below w0.heap.size w0 w'∧IntSl w' w'.heap.size vo (orderL P ver np).length (fun j=>(orderL P ver np).getD j 0)∧(orderL P ver np).length=(pickL (canK P ver) np).length:=by
 have hleft:∀k,k<np→leftK P k≤20:=fun k hk=>by unfold leftK;have:=hr k hk;omega
 by_cases h0:np=0
 ·subst h0
  have hs:=ho.isl (by rw[show pickL (canK P ver) 0=[]from rfl];simp);obtain⟨ad,cap,rfl,_,_⟩:=hs;have e0:orderL P ver 0=[]:=by
   rw[List.eq_nil_iff_forall_not_mem];intro x hx;obtain⟨k,_,h,_⟩:=mem_lefts.1 hx;omega
  rw[e0];refine(insNone ad cap _ wr ⟨_,_,_,rfl⟩).mono ?_;rintro e w' ⟨he,rfl⟩;exact⟨he,ho.2,⟨ad,cap,rfl,⟨Nat.zero_le _,by decide⟩,Or.inl rfl⟩,rfl⟩
 haveI:Inhabited (Fin np):=⟨⟨0,by omega⟩⟩
 obtain⟨hos,hord⟩:=sorted_order P ver np hleft _ rfl
 generalize hR:insertionSort (ltOf (cfK P)) (canF P ver np).toArray 0 (canF P ver np).toArray.size=R at hos hord
 have hcl:(canF P ver np).length=(pickL (canK P ver) np).length:=by rw[←canF_pick,List.length_map]
 have hol:(orderL P ver np).length=(pickL (canK P ver) np).length:=by rw[←hord,List.length_map,Array.length_toList,hos,hcl]
 have hple:=pickL_len (canK P ver) np
 obtain⟨hlen,hrow⟩:=ho.1
 rcases hrow with⟨rfl,hnil⟩|⟨g,cap,cur,rfl,hg,hblk,hnc,hcm,hcs,htk⟩
 ·have e0:orderL P ver np=[]:=List.length_eq_zero_iff.1 (by omega)
  rw[hnil,e0];refine(insNone none 0 _ wr ⟨_,_,_,rfl⟩).mono ?_;rintro e w' ⟨he,rfl⟩;exact⟨he,ho.2,⟨none,0,rfl,⟨Nat.zero_le _,by decide⟩,Or.inl rfl⟩,rfl⟩
 ·have hsz:(canF P ver np).toArray.size=(pickL (canK P ver) np).length:=by rw[←hcl];simp
  have hH:Holds (fun x:Fin np=>Value.int .i64 (x.val:Int)) wr g 0 (canF P ver np).toArray:=fun j hj=>by
   have hj':j<(canF P ver np).length:=by simpa using hj
   refine⟨?_,frozen_at hblk⟩;rw[Nat.zero_add,getElem!_pos _ j hj];rw[cell_of_row wr g j cur 3 (0,0) hblk];have h1:(cur.toList.take ((pickL (canK P ver) np).length*1))[j]?=some (Value.int .i64 (((canF P ver np).toArray[j]).val:Int)):=by
    rw[htk,←canF_pick];simp[hj']
   rw[List.getElem?_take]at h1;split at h1;·simpa using h1
   cases h1
  have hlt:g<wr.heap.size:=(Array.getElem?_eq_some_iff.1 hblk).1;have R1:Row1 (fun x:Fin np=>Value.int .i64 (x.val:Int)) wr g 0 (canF P ver np).toArray:=⟨fun _=>rfl,hH,hlt⟩;have hcmp:CmpLays1 Tryz.prog 152 #[.pointer (some ⟨bx,0,none⟩)] (fun x:Fin np=>Value.int .i64 (x.val:Int)) (cfK P) g 0 (canF P ver np).toArray.size wr:=fun m os dk hs x y=>by
   have hb:=sortW_below (fun x:Fin np=>Value.int .i64 (x.val:Int)) (m:=m) (dk:=dk) (os:=os) ho.2 hg;refine(plComp bx a c np KV UV P x.val y.val x.isLt y.isLt hr _ (hl.up hb) (by rw[hb.cell (cell_lt hx)];exact hx)).mono ?_;rintro e w' ⟨he,hw⟩;exact⟨he,hw⟩
  have hcon:=Any.insertionSortCmpFunc_s Tryz.insInts (fun x:Fin np=>Value.int .i64 (x.val:Int)) (cfK P) 152 #[.pointer (some ⟨bx,0,none⟩)] g 0 cap 0 (canF P ver np).toArray.size (canF P ver np).toArray (canF P ver np).toArray wr wr (enters_of Tryz.func152 (by kernel_rfl) rfl) hcmp R1 rfl (SW.start hH) (Nat.zero_le _) (Nat.le_refl _) (by omega);rw[hR,hsz]at hcon;refine hcon.mono ?_;rintro e w' ⟨he,hS⟩;obtain⟨m,os,hw⟩:=hS;have hRs:R.size=(canF P ver np).toArray.size:=by rw[hos];simp
  have hHR:Holds (fun x:Fin np=>Value.int .i64 (x.val:Int)) w' g 0 R:=SW.holds ⟨m,os,hw⟩ hlt hH hRs;refine⟨he,by rw[hw];exact sortW_below _ ho.2 hg,?_,hol⟩;rw[←hol]at hnc;rw[←hol];have hgw:g<w'.heap.size:=by rw[hw];simp[sortWorld,putRow,mapBlock,Sort.ahead,grow];omega
  refine⟨some ⟨g,0,none⟩,cap,rfl,⟨hnc,by omega⟩,Or.inr ⟨g,0,rfl,hgw,fun j hj=>?_⟩⟩;have hjR:j<R.size:=by rw[hos,hcl];omega
  rw[(hHR j hjR).1,getElem!_pos R j hjR,←hord];simp[List.getD_eq_getElem?_getD,hjR]
def stepK(n:Nat)(b:Bk)(t:Kt)(k:Nat):Int :=
 if t.V k<0∨(n:Int)≤t.V k then 4 else if 0<k∧t.V k≤t.V (k-1)then 5 else oneK b t k
theorem scanK_step{n:Nat}{b:Bk}{t:Kt}{f k:Nat}{last:Int}(hl:last=if k=0 then -1 else t.V (k-1)):
 scanK n b t (f+1) k last=if stepK n b t k=0 then scanK n b t f (k+1) (t.V k)else stepK n b t k:=by
 by_cases c1:t.V k<0∨(n:Int)≤t.V k
 ·have h1:stepK n b t k=4:=by unfold stepK;rw[if_pos c1]
  rw[h1,if_neg (by decide)];simp only[scanK];rw[if_pos c1]
 ·by_cases c2:t.V k≤last
  ·have c3:0<k∧t.V k≤t.V (k-1):=by
    by_cases h0:k=0;·rw[if_pos h0]at hl;omega
    ·rw[if_neg h0]at hl;exact⟨by omega,by omega⟩
   have h1:stepK n b t k=5:=by unfold stepK;rw[if_neg c1,if_pos c3]
   rw[h1,if_neg (by decide)];simp only[scanK];rw[if_neg c1,if_pos c2]
  have c3:¬(0<k∧t.V k≤t.V (k-1)):=by
   rintro⟨h0,h1⟩;rw[if_neg (by omega)]at hl;omega
  have h1:stepK n b t k=oneK b t k:=by unfold stepK;rw[if_neg c1,if_neg c3]
  rw[h1];simp only[scanK];rw[if_neg c1,if_neg c2]
theorem peOne(vb:Value)(n:Nat)(PV:Nat→Value)(b:Bk)(vk:Value)(m:Nat)(UV:Nat→Value)(t:Kt)(k:Nat)(hlt:k<m)(w:World)(hv:VeSl w w.heap.size vb n PV b)(hk:KeSl w w.heap.size vk m UV t):
 Calls Tryz.prog 136 #[bookV vb,vk,.int .i64 (k:Int)] w fun e w'=>e=.returned (.int .i64 (stepK n b t k))∧Below w.heap.size w w':=by
 obtain⟨ad,cap,rfl,⟨hc,hr⟩,hX⟩:=hv
 obtain⟨ak,capk,rfl,⟨hck,hrk⟩,hXk⟩:=hk
 rcases hXk with h0|⟨bl,off,rfl,hbl,hxk⟩
 ·omega
 obtain⟨x0,x1,x2,x3⟩:=hxk k hlt
 have zq0:∀k',k=k'+1→w.cell? ⟨bl,off+k'*3,none⟩=some (.int .i64 (t.V k')):=fun k' e=>(hxk k' (by omega)).1
 obtain⟨ans,hans⟩:∃a,stepK n b t k=a:=⟨_,rfl⟩
 rw[hans]
 unfold stepK at hans
 have hki:(k:Int)<(m:Int):=by omega
 have hbW:=below_alloc w (.cells #[.slice ad n cap] 24)
 have kb:=heap_alloc_new w (.cells #[.slice ad n cap] 24)
 obtain⟨W,hW⟩:∃W,w.alloc (.cells #[.slice ad n cap] 24)=W:=⟨_,rfl⟩
 rw[hW]at hbW kb
 have HIs:Hid (∀u,Below w.heap.size w u→IntSl u u.heap.size (UV k) (t.L k) (t.X k)):=fun u hb=>x3.up hb
 obtain⟨ap,cp,hpe,_,_⟩:=x3
 rw[hpe]at x2 HIs
 have g0:W.cell? ⟨bl,off+k*3,none⟩=some (.int .i64 (t.V k)):=by rw[hbW.cell hbl];exact x0
 have g1:W.cell? ⟨bl,off+k*3+1,none⟩=some (.int .i64 (t.N k)):=by rw[hbW.cell hbl];exact x1
 have g2:W.cell? ⟨bl,off+k*3+2,none⟩=some (.slice ap (t.L k) cp):=by rw[hbW.cell hbl];exact x2
 obtain⟨Z,hZ⟩:∃Z,W.alloc (.cells #[.int .i64 (t.V k),.int .i64 (t.N k),.slice ap (t.L k) cp] 83)=Z:=⟨_,rfl⟩
 have hbZ:Below W.heap.size W Z:=by rw[←hZ];exact below_alloc _ _
 have BZ:=hid (hbW.trans (hbZ.mono hbW.size))
 obtain⟨z0,z1,z2⟩:Z.cell? ⟨W.heap.size,0,none⟩=_∧Z.cell? ⟨W.heap.size,1,none⟩=_∧Z.cell? ⟨W.heap.size,2,none⟩=_:=three_at (by rw[←hZ];exact heap_alloc_new W _)
 have zb:Z.cell? ⟨w.heap.size,0,none⟩=some (.slice ad n cap):=by rw[hbZ.cell (Array.getElem?_eq_some_iff.1 kb).1];exact cell_at kb rfl
 have zq:∀k',k=k'+1→Z.cell? ⟨bl,off+k'*3,none⟩=some (.int .i64 (t.V k')):=fun k' e=>by rw[BZ.out.cell hbl];exact zq0 k' e
 have HBk:=hid hbl
 obtain⟨x,hxx⟩:∃x,t.V k=x:=⟨_,rfl⟩
 rw[hxx]at g0 z0 hans hZ
 have HX:=hid hX
 have HOk:Hid (oneK b t k=oneE (b.nd x.toNat) (b.of x.toNat) (b.sz x.toNat) (t.N k) (t.L k) (t.X k)):=by show _=_;unfold oneK;rw[hxx]
 have HXx:=hid hxx
 clear x0 x1 x2 hxk hpe hbZ hxx hX kb hbW zq0 hbl
 unfold bookV
 by_cases c1:x<0∨(n:Int)≤x
 ·rw[if_pos c1]at hans
  have HFin:=hid hans;clear hans zq;by_cases c2:x<0
  ·go_enter Tryz.func136,Tryz.ntmps136
   go_wp2;go_ret;exact⟨by rw[←HFin.out];rfl,BZ.out⟩
  have c3:(n:Int)≤x:=by omega
  go_enter Tryz.func136,Tryz.ntmps136;go_wp2;go_ret;exact⟨by rw[←HFin.out];rfl,BZ.out⟩
 ·rw[if_neg c1]at hans
  have c2:¬x<0:=fun h=>c1 (Or.inl h);have c3:¬(n:Int)≤x:=fun h=>c1 (Or.inr h);clear c1;by_cases c4:0<k∧x≤t.V (k-1)
  ·rw[if_pos c4]at hans
   have HFin:=hid hans;obtain⟨k',rfl⟩:∃k',k=k'+1:=⟨k-1,by omega⟩;have c5:=c4.2;rw[Nat.add_sub_cancel]at c5;have zr:=zq k' rfl;obtain⟨last,hlast⟩:∃l,t.V k'=l:=⟨_,rfl⟩;rw[hlast]at zr c5;have hkp:(0:Int)<((k'+1:Nat):Int):=by omega
   have hk1:((k'+1:Nat):Int)-1=(k':Int):=by omega
   have hk2:(k':Int)<(m:Int):=by omega
   clear hans zq c4 hlast;go_enter Tryz.func136,Tryz.ntmps136;go_wp2_with fail
   go_quiet (fail);go_wp2;go_ret;exact⟨by rw[←HFin.out];rfl,BZ.out.trans ((drewK_below Z _).mono BZ.out.size)⟩
  rw[if_neg c4,HOk.out]at hans;obtain⟨y,rfl⟩:∃y:Nat,x=y:=⟨x.toNat,by omega⟩;rw[Int.toNat_natCast]at hans;have hyn:y<n:=by omega
  have hyi:(y:Int)<(n:Int):=by omega
  rcases HX.out with h0|⟨bv,ov,rfl,hbv,hxv⟩;·omega
  obtain⟨_,v1,v2,v3,_⟩:=hxv y hyn;have q1:Z.cell? ⟨bv,ov+y*4+1,none⟩=some (.int .i64 (b.nd y)):=by rw[BZ.out.cell hbv];exact v1
  have q2:Z.cell? ⟨bv,ov+y*4+2,none⟩=some (.int .i64 (b.of y)):=by rw[BZ.out.cell hbv];exact v2
  have q3:Z.cell? ⟨bv,ov+y*4+3,none⟩=some (.int .i64 (b.sz y)):=by rw[BZ.out.cell hbv];exact v3
  have hne:Nonempty (Of (Below Z.heap.size Z)):=⟨⟨Z,Below.refl _ _⟩⟩;have F0:∀u:Of (Below Z.heap.size Z),u.val.cell? ⟨W.heap.size,0,none⟩=some (.int .i64 (y:Int)):=fun u=>by rw[u.is.cell (cell_lt z0)];exact z0
  have F1:∀u:Of (Below Z.heap.size Z),u.val.cell? ⟨W.heap.size,1,none⟩=some (.int .i64 (t.N k)):=fun u=>by rw[u.is.cell (cell_lt z1)];exact z1
  have F2:∀u:Of (Below Z.heap.size Z),u.val.cell? ⟨W.heap.size,2,none⟩=some (.slice ap (t.L k) cp):=fun u=>by rw[u.is.cell (cell_lt z2)];exact z2
  have F3:∀u:Of (Below Z.heap.size Z),u.val.cell? ⟨w.heap.size,0,none⟩=some (.slice (some ⟨bv,ov,none⟩) n cap):=fun u=>by rw[u.is.cell (cell_lt zb)];exact zb
  have F4:∀u:Of (Below Z.heap.size Z),u.val.cell? ⟨bv,ov+y*4+1,none⟩=some (.int .i64 (b.nd y)):=fun u=>by rw[u.is.cell (cell_lt q1)];exact q1
  have F5:∀u:Of (Below Z.heap.size Z),u.val.cell? ⟨bv,ov+y*4+2,none⟩=some (.int .i64 (b.of y)):=fun u=>by rw[u.is.cell (cell_lt q2)];exact q2
  have F6:∀u:Of (Below Z.heap.size Z),u.val.cell? ⟨bv,ov+y*4+3,none⟩=some (.int .i64 (b.sz y)):=fun u=>by rw[u.is.cell (cell_lt q3)];exact q3
  have CS:Hid (∀u,Below Z.heap.size Z u→Calls Tryz.prog 164 #[planV (b.nd y) (b.of y) (b.sz y),shareV (t.N k) (.slice ap (t.L k) cp)] u fun e u'=>e=.returned (.int .i64 (oneE (b.nd y) (b.of y) (b.sz y) (t.N k) (t.L k) (t.X k)))∧Below u.heap.size u u'):=fun u hbu=>shOne (b.nd y) (b.of y) (b.sz y) (t.N k) _ (t.L k) (t.X k) u (HIs.out _ (BZ.out.trans (hbu.mono BZ.out.size)));rw[hans]at CS;unfold planV shareV at CS;clear hxv hans v1 v2 v3 q1 q2 q3;by_cases hk0:k=0
  ·subst hk0
   have hkz:¬(0:Int)<((0:Nat):Int):=by omega
   simp only[Nat.zero_mul,Nat.add_zero]at g0 g1 g2;clear zq c4;go_enter Tryz.func136,Tryz.ntmps136;go_wp2_with fail
   go_quiet (fail);go_wp2_with fail
   have HD1:Hid (Below Z.heap.size Z (Z.drewN nq).drew):=⟨rfl,rfl,rfl,Nat.le_refl _,fun _ _=>rfl⟩;refine region_mixed (Below Z.heap.size Z) [([0,1,2,3,4,5,6,7,8],9)] [10] (by kernel_rfl) (by kernel_rfl) HD1.out ?_;refine mixO_cons ?_;repeat(go_big_quiet_step (fail))
   refine wpQuiet_nil ?_;intro K hK;go_wp2_with fail
   refine Calls.mono (CS.out _ HD1.out) ?_;rintro e w5 ⟨rfl,hb5⟩;have H5:Hid (Below Z.heap.size Z w5):=HD1.out.trans (hb5.mono HD1.out.size);clear hb5;go_wp2;refine⟨rfl,hK _ _ H5.out ?_⟩;clear hK K;refine mixO_nil ?_;repeat(go_big_quiet_step (fail))
   refine wpQuiet_nil ?_;have B5:=hid (BZ.out.trans (H5.out.mono BZ.out.size));clear F0 F1 F2 F3 F4 F5 F6 hne;go_wp2;go_ret;exact⟨rfl,B5.out⟩
  obtain⟨k',rfl⟩:∃k',k=k'+1:=⟨k-1,by omega⟩;have c5:¬(y:Int)≤t.V k':=fun h=>c4 ⟨by omega,by rw[Nat.add_sub_cancel];exact h⟩;have zr:=zq k' rfl;obtain⟨last,hlast⟩:∃l,t.V k'=l:=⟨_,rfl⟩;rw[hlast]at zr c5;have hkp:(0:Int)<((k'+1:Nat):Int):=by omega
  have hk1:((k'+1:Nat):Int)-1=(k':Int):=by omega
  have hk2:(k':Int)<(m:Int):=by omega
  clear zq c4 hlast hk0;go_enter Tryz.func136,Tryz.ntmps136;go_wp2_with fail
  go_quiet (fail);go_wp2_with fail
  have HD1:Hid (Below Z.heap.size Z (Z.drewN nq).drew):=⟨rfl,rfl,rfl,Nat.le_refl _,fun _ _=>rfl⟩;refine region_mixed (Below Z.heap.size Z) [([0,1,2,3,4,5,6,7,8],9)] [10] (by kernel_rfl) (by kernel_rfl) HD1.out ?_;refine mixO_cons ?_;repeat(go_big_quiet_step (fail))
  refine wpQuiet_nil ?_;intro K hK;go_wp2_with fail
  refine Calls.mono (CS.out _ HD1.out) ?_;rintro e w5 ⟨rfl,hb5⟩;have H5:Hid (Below Z.heap.size Z w5):=HD1.out.trans (hb5.mono HD1.out.size);clear hb5;go_wp2;refine⟨rfl,hK _ _ H5.out ?_⟩;clear hK K;refine mixO_nil ?_;repeat(go_big_quiet_step (fail))
  refine wpQuiet_nil ?_;have B5:=hid (BZ.out.trans (H5.out.mono BZ.out.size));clear F0 F1 F2 F3 F4 F5 F6 hne;go_wp2;go_ret;exact⟨rfl,B5.out⟩
theorem peChecked(vb:Value)(n:Nat)(PV:Nat→Value)(b:Bk)(th:Bool)(room:Int)(vk:Value)(m:Nat)(UV:Nat→Value)(t:Kt)(w:World)(hv:VeSl w w.heap.size vb n PV b)(hk:KeSl w w.heap.size vk m UV t):
 Calls Tryz.prog 101 #[bookV vb,peerV th room vk] w fun e w'=>e=.returned (.int .i64 (peerE n b room m t))∧Below w.heap.size w w':=by
 have HV:=hid hv
 have HK:=hid hk
 obtain⟨ad,cap,rfl,_,_⟩:=hv
 obtain⟨ak,capk,rfl,⟨hck,hrk⟩,_⟩:=hk
 have hb0:=((Below.refl w.heap.size w).alloc (Nat.le_refl _) (.cells #[.slice ad n cap] 24)).alloc (by simp) (.cells #[.bool th,.int .i64 room,.slice ak m capk] 41)
 have k1:=heap_two_old w (.cells #[.slice ad n cap] 24) (.cells #[.bool th,.int .i64 room,.slice ak m capk] 41)
 have k2:=heap_two_new w (.cells #[.slice ad n cap] 24) (.cells #[.bool th,.int .i64 room,.slice ak m capk] 41)
 obtain⟨W0,hW0⟩:∃W,(w.alloc (.cells #[.slice ad n cap] 24)).alloc (.cells #[.bool th,.int .i64 room,.slice ak m capk] 41)=W:=⟨_,rfl⟩
 rw[hW0]at hb0 k1 k2
 obtain⟨ans,hans⟩:∃a,peerE n b room m t=a:=⟨_,rfl⟩
 rw[hans]
 unfold peerE at hans
 have CK:=hid (bkCheck _ n PV b W0 (HV.out.up hb0))
 obtain⟨c,hcc⟩:∃c,bookE n b=c:=⟨_,rfl⟩
 rw[hcc]at hans CK
 have HA:=hid hans
 have B0:=hid hb0
 have K1:=hid k1
 have K2:=hid k2
 have c1:W0.cell? ⟨w.heap.size,0,none⟩=some (.slice ad n cap):=cell_at k1 rfl
 clear hb0 k1 k2 hans hcc
 unfold bookV at CK
 unfold bookV peerV
 go_enter Tryz.func101,Tryz.ntmps101
 go_wp2_with fail
 refine Calls.mono CK.out ?_
 rintro e W ⟨rfl,hbW⟩
 have B1:=hid (B0.out.trans (hbW.mono B0.out.size))
 have k1:W.heap[w.heap.size]?=some (.cells #[.slice ad n cap] 24 (0,0)):=by rw[hbW.block _ (Array.getElem?_eq_some_iff.1 K1.out).1];exact K1.out
 have k2:W.heap[w.heap.size+1]?=some (.cells #[.bool th,.int .i64 room,.slice ak m capk] 41 (0,0)):=by rw[hbW.block _ (Array.getElem?_eq_some_iff.1 K2.out).1];exact K2.out
 have KW1:=hid k1
 have KW2:=hid k2
 obtain⟨p0,p1,p2⟩:=three_at k2
 clear hbW B0 K1 K2 k1 k2 c1 CK
 by_cases hc0:c=0
 ·subst hc0
  have hA:=HA.out;rw[if_pos rfl]at hA;by_cases hr:0≤room∧room≤20
  ·rw[if_pos hr]at hA
   have hr1:¬room<0:=by omega
   have hr2:¬(20:Int)<room:=by omega
   by_cases hm:(m:Int)≤room
   ·rw[if_pos hm]at hA
    have HA2:=hid hA;clear hA;have hmr:¬room<(m:Int):=by omega
    go_wp2;clear p0 p1 p2;go_loopw [30] (fun iv wr=>∃(k:Nat) (last:Int),k≤m∧iv=.int .i64 k∧Hid (last=if k=0 then -1 else t.V (k-1))∧Hid (Below W.heap.size W wr)∧Hid (scanK n b t (m-k) k last=ans)) (fun iv _=>m-(intOf iv).toNat)
    case atStart=>exact⟨0,-1,Nat.zero_le _,rfl,rfl,Below.refl _ _,HA2⟩
    case round =>
     obtain⟨k,last,hk,rfl,HLast,HB,HS⟩:=hrel;by_cases hlt:k<m
     ·have hki:(k:Int)<(m:Int):=by omega
      have hstep:=HS.out;rw[show m-k=(m-(k+1))+1 by omega,scanK_step HLast.out]at hstep;have BR:=hid (B1.out.trans (HB.out.mono B1.out.size));have g0:wr.cell? ⟨w.heap.size,0,none⟩=some (.slice ad n cap):=by rw[HB.out.cell (Array.getElem?_eq_some_iff.1 KW1.out).1];exact cell_at KW1.out rfl
      have g1:wr.cell? ⟨w.heap.size+1,2,none⟩=some (.slice ak m capk):=by rw[HB.out.cell (Array.getElem?_eq_some_iff.1 KW2.out).1];exact(three_at KW2.out).2.2
      have CO:=hid (peOne _ n PV b _ m UV t k hlt wr (HV.out.up BR.out) (HK.out.up BR.out));unfold bookV at CO;obtain⟨er,her⟩:∃er,stepK n b t k=er:=⟨_,rfl⟩;rw[her]at CO hstep;have HSt:=hid hstep;clear her hstep;go_wp2_with fail
      refine Calls.mono CO.out ?_;rintro e w5 ⟨rfl,hb5⟩;have B5:=hid (HB.out.trans (hb5.mono HB.out.size));clear hb5 g0 g1;by_cases he0:er=0
      ·subst he0
       have hs:=HSt.out;rw[if_pos rfl]at hs;have HNx:=hid hs;clear hs;go_wp2;go_roundw
       case rel=>exact⟨k+1,t.V k,by omega,by go_num,(by rw[if_neg (by omega),Nat.add_sub_cancel]:t.V k=if k+1=0 then -1 else t.V (k+1-1)),B5,HNx⟩
       case measure=>simp only[intOf];omega
      have hs:=HSt.out;rw[if_neg he0]at hs;have heb:(er != 0)=true:=by simpa using he0
      have HFin:=hid hs;clear hs he0;go_wp2;go_ret;exact⟨by rw[←HFin.out];rfl,B1.out.trans (B5.out.mono B1.out.size)⟩
     have hke:m=k:=by omega
     subst hke;have hst:=HS.out;rw[Nat.sub_self]at hst;have HFin:Hid ((0:Int)=ans):=hst;clear hst;go_wp2;go_ret;exact⟨by rw[←HFin.out];rfl,B1.out.trans (HB.out.mono B1.out.size)⟩
   rw[if_neg hm]at hA;have HFin:=hid hA;have hmr:room<(m:Int):=by omega
   clear hA hm;go_wp2;go_ret;exact⟨by rw[←HFin.out];rfl,B1.out⟩
  rw[if_neg hr]at hA;have HFin:=hid hA;clear hA;by_cases hr1:room<0
  ·clear hr
   go_wp2;go_ret;exact⟨by rw[←HFin.out];rfl,B1.out⟩
  have hr2:(20:Int)<room:=by omega
  clear hr;go_wp2;go_ret;exact⟨by rw[←HFin.out];rfl,B1.out⟩
 ·have hA:=HA.out
  rw[if_neg hc0]at hA;have hcb:(c != 0)=true:=by simpa using hc0
  have HFin:=hid hA;clear hA hc0;go_wp2;go_ret;exact⟨by rw[←HFin.out];rfl,B1.out⟩
end Go.Proofs.YtajmnlhfnhbleaaGreat
