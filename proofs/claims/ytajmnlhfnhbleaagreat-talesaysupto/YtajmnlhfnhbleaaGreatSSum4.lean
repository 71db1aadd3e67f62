/- Several texts of one proof, in their order. -/
import Derived.Test.YtajmnlhfnhbleaaGreatSSum3
namespace Go.Proofs.YtajmnlhfnhbleaaGreat
open Go.RowKit Go.Shelf Go.Lib Go.Sort
set_option linter.unusedVariables false
set_option maxHeartbeats 2000000
theorem ltK(a c:Int):decide (cmpK a c<0)=decide (a<c):=by
 unfold cmpK;by_cases h:a<c;·rw[if_pos h];simp[h]
 rw[if_neg h];simp[h]
structure RowK(wr:World)(g K:Nat)(UV:Nat→Value)(t:Kt)(l:List Nat):Prop where
 len:l.length=K
 cell:∀j,j<K→wr.cell? ⟨g,j*3,none⟩=some (.int .i64 (t.V (l.getD j 0)))∧wr.cell? ⟨g,j*3+1,none⟩=some (.int .i64 (t.N (l.getD j 0)))∧wr.cell? ⟨g,j*3+2,none⟩=some (UV (l.getD j 0))
 free:∀i,i<K*3→wr.frozen? ⟨g,i,none⟩=false
 lt:g<wr.heap.size
theorem sortT{wr:World}{g K cap:Nat}{UV:Nat→Value}{t:Kt}(h:RowK wr g K UV t (List.range K))(hK:1≤K)(hK2:K≤1000)(hd:∀i j,i<K→j<K→t.V i=t.V j→i=j)(hu:∀i,i<K→∃a n c,UV i=.slice a n c):
 Calls Tryz.prog 156 #[.slice (some ⟨g,0,none⟩) K cap,.func (.func 157) #[] #[]] wr fun e w'=>e=.returned (.tuple #[]) ∧
  (∀(B:Nat) (w0:World),Below B w0 wr→B≤g→Below B w0 w')∧(∀a:Addr,a.block≠g→a.block<wr.heap.size→w'.cell? a=wr.cell? a)∧wr.heap.size≤w'.heap.size ∧
  ∃l:List Nat,l.Perm (List.range K)∧l.Pairwise (fun a c=>t.V a<t.V c)∧RowK w' g K UV t l:=by
 haveI:Inhabited (Fin K):=⟨⟨0,by omega⟩⟩
 have hget:∀j (hj:j<K),(List.finRange K).toArray[j]! = ⟨j,hj⟩:=fun j hj=>by
  rw[getElem!_pos _ _ (by simpa using hj)];simp
 have hsize:(List.finRange K).toArray.size=K:=by simp
 have hrg:∀j,j<K→(List.range K).getD j 0=j:=fun j hj=>by simp[List.getD_eq_getElem?_getD,hj]
 have hO:SWO (ltOf fun x y:Fin K=>cmpK (t.V x.val) (t.V y.val)):=by
  refine⟨fun x=>?_,fun x y z h1 h2=>?_,fun x y z h1 h2=>?_⟩
  ·show decide (cmpK (t.V x.val) (t.V x.val)<0)=false
   rw[ltK];simp
  ·replace h1:decide (cmpK (t.V x.val) (t.V y.val)<0)=true:=h1
   replace h2:decide (cmpK (t.V y.val) (t.V z.val)<0)=true:=h2;show decide (cmpK (t.V x.val) (t.V z.val)<0)=true;rw[ltK]at *;simp at *;omega
  replace h1:decide (cmpK (t.V x.val) (t.V y.val)<0)=false:=h1;replace h2:decide (cmpK (t.V y.val) (t.V z.val)<0)=false:=h2;show decide (cmpK (t.V x.val) (t.V z.val)<0)=false;rw[ltK]at *;simp at *;omega
 have hcmp:CmpLays Tryz.prog 157 #[] (fun x:Fin K=>[Value.int .i64 (t.V x.val),.int .i64 (t.N x.val),UV x.val]) 3 (fun x y=>cmpK (t.V x.val) (t.V y.val)) g 0 (List.finRange K).toArray.size wr:=fun m os dk hs x y=>by
  refine(cmpKept_any (t.V x.val) (t.V y.val) (t.N x.val) (t.N y.val) (UV x.val) (UV y.val) _ (hu _ x.isLt) (hu _ y.isLt)).mono ?_;rintro e w' ⟨he,hw⟩;refine⟨he,0,#[.cells #[.int .i64 (t.V x.val),.int .i64 (t.N x.val),UV x.val] 83,.cells #[.int .i64 (t.V y.val),.int .i64 (t.N y.val),UV y.val] 83],?_⟩;rw[hw,alloc_eq_grow,alloc_eq_grow,grow_grow];rfl
 have hH:HoldsK (fun x:Fin K=>[Value.int .i64 (t.V x.val),.int .i64 (t.N x.val),UV x.val]) 3 wr g 0 (List.finRange K).toArray:=fun i hi=>by
  rw[size_flatK,hsize]at hi;rw[Nat.zero_add,get_flatK _ _ _ _ (by rw[hsize];exact hi),hget _ (by omega)];refine⟨?_,h.free i hi⟩;obtain⟨q1,q2,q3⟩:=h.cell (i/3) (by omega);rw[hrg _ (by omega)]at q1 q2 q3;rcases(show i%3=0∨i%3=1∨i%3=2 by omega)with e|e|e;·rw[show i/3*3=i by omega]at q1;rw[e];exact q1
  ·rw[show i/3*3+1=i by omega]at q2;rw[e];exact q2
  rw[show i/3*3+2=i by omega]at q3;rw[e];exact q3
 have hcon:=AnyQ.slices_SortFunc Tryz.sortKept 3 Tryz.isAgg83 Tryz.sizeOf83 (fun x:Fin K=>[Value.int .i64 (t.V x.val),.int .i64 (t.N x.val),UV x.val]) (fun _=>rfl) (fun x v hv=>by
  simp only[List.mem_cons,List.not_mem_nil,or_false]at hv;rcases hv with rfl|rfl|rfl;·rfl
  ·rfl
  obtain⟨a,n,c,e⟩:=hu _ x.isLt;rw[e];rfl) (fun x y=>cmpK (t.V x.val) (t.V y.val)) hO 157 #[] g 0 cap (List.finRange K).toArray wr (enters_of Tryz.func157 (by kernel_rfl) rfl) hcmp hH h.lt (by rw[hsize];omega)
 rw[hsize]at hcon
 refine hcon.mono ?_
 rintro e w' ⟨he,d',n,os,hp,hs,hw⟩
 have hds:d'.size=K:=by rw[hp.1,hsize]
 have hperm:d'.toList.Perm (List.finRange K):=by
  have h3:=hp.2.2;rw[Array.extract_eq_self_of_le (by omega),Array.extract_eq_self_of_le (by rw[hsize];omega)]at h3;exact h3
 have hHA:HoldsK (fun x:Fin K=>[Value.int .i64 (t.V x.val),.int .i64 (t.N x.val),UV x.val]) 3 w' g 0 d':=by
  rw[hw];exact holdsK_grow _ _ _ _ _ _ _ (by rw[size_putRowK];exact h.lt) (holdsK_putRowK _ _ _ _ _ (List.finRange K).toArray d' hH (by rw[hds,hsize]))
 have hsz:w'.heap.size=wr.heap.size+os.size:=by rw[hw];simp[sortWorldK,putRowK,putRow,mapBlock,Sort.ahead,grow]
 have hblk:∀k,k≠g→k<wr.heap.size→w'.heap[k]?=wr.heap[k]?:=fun k hk hl=>by
  rw[hw];unfold sortWorldK;rw[heap_grow_old _ _ (by simpa[putRowK,putRow,mapBlock,Sort.ahead]using hl)];simp[putRowK,putRow,mapBlock,Sort.ahead,Array.getElem?_modify,Ne.symm hk]
 refine⟨he,fun B w0 hb hB=>?_,fun a ha hl=>World.cell?_of_block (hblk _ ha hl),by omega,d'.toList.map Fin.val,?_,?_,⟨by simp[hds],fun j hj=>?_,fun i hi=>?_,by have:=h.lt;omega⟩⟩
 ·refine hb.trans ⟨by rw[hw];rfl,by rw[hw];rfl,by rw[hw];rfl,by omega,fun k hk=>hblk k (by omega) (by have:=h.lt;omega)⟩
 ·have:=hperm.map Fin.val
  rwa [show(List.finRange K).map Fin.val=List.range K from List.ext_getElem (by simp) (by simp)]at this
 ·rw[List.pairwise_map,List.pairwise_iff_getElem]
  intro i j hi hj hij;have hi':i<d'.size:=by simpa using hi
  have hj':j<d'.size:=by simpa using hj
  have h4:=hs i j (Nat.zero_le _) hij (by rw[hds]at hj';exact hj');rw[getElem!_pos d' j hj',getElem!_pos d' i hi']at h4;replace h4:decide (cmpK (t.V d'[j].val) (t.V d'[i].val)<0)=false:=h4;rw[ltK]at h4;have h5:¬t.V d'[j].val<t.V d'[i].val:=of_decide_eq_false h4;have hne:t.V d'[i].val≠t.V d'[j].val:=fun e=>by
   have e2:=Fin.ext (hd _ _ d'[i].isLt d'[j].isLt e);have hnd:d'.toList.Nodup:=hperm.nodup_iff.2 (List.nodup_finRange K);have:=(List.getElem_inj (h₀:=hi) (h₁:=hj) hnd).1 (by simpa using e2);omega
  simp only[Array.getElem_toList];omega
 ·have hjd:j<d'.size:=by omega
  have q0:=(hHA.cell hjd (show 0<3 by omega)).1;have q1:=(hHA.cell hjd (show 1<3 by omega)).1;have q2:=(hHA.cell hjd (show 2<3 by omega)).1;rw[Nat.zero_add]at q0 q1 q2;have e:(d'.toList.map Fin.val).getD j 0=(d'[j]!).val:=by
   rw[getElem!_pos d' j hjd];simp[List.getD_eq_getElem?_getD,hjd]
  rw[e];exact⟨q0,q1,q2⟩
 ·have hjd:i/3<d'.size:=by omega
  have q:=(hHA.cell hjd (show i%3<3 by omega)).2;rw[Nat.zero_add,show i/3*3+i%3=i by omega]at q;exact q
section
variable {P : Program} {ops : Array Oper} {md : Region.Mode} {D : World → Prop}
def anyL(P:Program)(md:Region.Mode)(ops:Array Oper)(D:World→Prop)(sE:Array Bool)(R:Act→World→Prop):Nat→Array Bool→Act→World→Prop
 |0,seen,a,w=>seen=sE∧R a w
 |f+1,seen,a,w=>Region.ready md ops seen≠[]∧∀i∈Region.ready md ops seen,wpOp P ops (endN R) i (fun a' w'=>D w'∧anyL P md ops D sE R f (seen.setIfInBounds i true) a' w') a w
theorem any_of_anyL{R:Act→World→Prop}{Q:Exit→Act→World→Prop}{sE:Array Bool}{c:Nat}(hE:Region.ready md ops sE=[c])(hE2:Region.ready md ops (sE.setIfInBounds c true)=[])(hR:∀a w,R a w→wpOp P ops Q c (fun a' w'=>Q .normal a' w') a w)(f:Nat):
 ∀(seen:Array Bool) (a:Act) (w:World),anyL P md ops D sE R f seen a w→wpAny P md ops Q (f+1) seen a w:=by
 induction f with
 |zero =>
  intro seen a w h;obtain⟨rfl,h⟩:=h;refine⟨fun h0=>(by rw[hE]at h0;cases h0),fun i hi=>?_⟩;rw[hE]at hi;obtain rfl:i=c:=by simpa using hi
  exact wpOp_mono (fun a' w' h'=>⟨hE2,h'⟩) (hR a w h)
 |succ f ih =>
  intro seen a w h;refine⟨fun h0=>absurd h0 h.1,fun i hi=>?_⟩;exact wpOp_ends (fun a' w' h'=>ih _ a' w' h'.2) (h.2 i hi)
theorem anyL_first{R:Act→World→Prop}{sE:Array Bool}{c i:Nat}{oi oc:Oper}{v:Value}(hE:Region.ready md ops sE=[c])(hc:ops[c]?=some oc)(hedge:∃e∈oc.after,Region.binds md e=true∧e.on=i)
 (hi:ops[i]?=some oi) (hsel:∀(j:Nat) (o:Oper) cs b,ops[j]?=some o→o.op≠.select cs b) (f:Nat) :
 ∀(seen:Array Bool) (a:Act) (w:World),D w →
  (∀j oj,ops[j]?=some oj→j≠i→seen.getD j true=false→(∀e∈oj.after,Region.binds md e=true→e.on≠i)→oi.apart ops oj=true) →
  i∈Region.ready md ops seen→StillIn P ops D oi v a →
  anyL P md ops D sE R f (seen.setIfInBounds i true) (a.put oi.dst v) w→anyL P md ops D sE R (f+1) seen a w:=by
 induction f with
 |zero =>
  intro seen a w hD _ hr hy H;refine⟨List.ne_nil_of_mem hr,fun j hj=>?_⟩;by_cases hji:j=i;·subst hji;exact hy.wpOp hi hD ⟨hD,H⟩
  have h1:=ready_mono hj hji;rw[H.1,hE]at h1;obtain rfl:j=c:=by simpa using h1
  obtain⟨hjun,oj,hoj,hall⟩:=mem_ready.1 hj;rw[hc]at hoj;injection hoj with hoj;subst hoj;obtain⟨e,he,hb,hon⟩:=hedge;have h2:=hall e he hb;rw[hon,getD_both (mem_ready.1 hr).1]at h2;cases h2
 |succ f ih =>
  intro seen a w hD hfree hr hy H;refine⟨List.ne_nil_of_mem hr,fun j hj=>?_⟩;by_cases hji:j=i;·subst hji;exact hy.wpOp hi hD ⟨hD,H⟩
  have h1:=H.2 j (ready_mono hj hji);obtain⟨hjun,oj,hoj,hall⟩:=mem_ready.1 hj;have hun:=(mem_ready.1 hr).1;have hnot:∀e∈oj.after,Region.binds md e=true→e.on≠i:=by
   intro e he hb heq;have h2:=hall e he hb;rw[heq,getD_both hun]at h2;cases h2
  have h2:=wpOp_put hoj (hfree j oj hoj hji hjun hnot) (fun cs b=>hsel i oi cs b hi) (fun cs b=>hsel j oj cs b hoj) hy h1;refine wpOp_mono (fun a' w' h3=>⟨h3.2.1,ih (seen.setIfInBounds j true) a' w' h3.2.1 ?_ (ready_mono hr (Ne.symm hji)) h3.1 ?_⟩) h2
  ·intro k ok hk hki hunk hno
   refine hfree k ok hk hki ?_ hno;by_cases hjk:j=k
   ·subst hjk
    exact hjun
   rw[getD_set_ne true hjk]at hunk;exact hunk
  rw[Array.setIfInBounds_comm _ _ hji];exact h3.2.2
def ordL(md:Region.Mode)(ops:Array Oper)(c:Nat):List (Nat×Bool)→Array Bool→Bool
 |[],seen=>(Region.ready md ops seen==[c])&&(Region.ready md ops (seen.setIfInBounds c true)).isEmpty
 |(i,true)::r,seen=>(Region.ready md ops seen).contains i&&Region.free md ops seen i&&(match ops[c]? with|some o=>o.after.any (fun e=>Region.binds md e&&e.on==i)|none=>false)&&ordL md ops c r (seen.setIfInBounds i true)
 |(i,false)::r,seen=>(Region.ready md ops seen==[i])&&ordL md ops c r (seen.setIfInBounds i true)
def seenBy:List (Nat×Bool)→Array Bool→Array Bool
 |[],seen=>seen
 |(i,_)::r,seen=>seenBy r (seen.setIfInBounds i true)
theorem ordL_end{c:Nat}:∀(l:List (Nat×Bool)) (seen:Array Bool),ordL md ops c l seen=true→Region.ready md ops (seenBy l seen)=[c]∧Region.ready md ops ((seenBy l seen).setIfInBounds c true)=[]
 |[],seen,h=>by simpa[ordL,seenBy]using h
 |(i,true)::r,seen,h=>by
  simp only[ordL,Bool.and_eq_true]at h;exact ordL_end r _ h.2
 |(i,false)::r,seen,h=>by
  simp only[ordL,Bool.and_eq_true]at h;exact ordL_end r _ h.2
theorem anyL_of_walk{R:Act→World→Prop}{c:Nat}{sE:Array Bool}(hs:Region.noSelect ops=true)(hE:Region.ready md ops sE=[c]):∀(l:List (Nat×Bool)) (seen:Array Bool) (a:Act) (w:World),D w→seenBy l seen=sE →
 ordL md ops c l seen=true→walkF P ops D R l a w→anyL P md ops D sE R l.length seen a w
 |[],_,_,_,_,hq,hB,h=>⟨hq,h⟩
 |(i,true)::r,seen,a,w,hD,hq,hB,h=>by
  simp only[ordL,Bool.and_eq_true]at hB;obtain⟨⟨⟨hr,hf⟩,he⟩,hB'⟩:=hB;obtain⟨o,v,ho,hy,hK⟩:=h;cases hc:ops[c]? with
  |none=>simp[hc]at he
  |some oc =>
   simp only[hc,Array.any_eq_true]at he;obtain⟨x,hx,hb⟩:=he;simp only[Bool.and_eq_true,beq_iff_eq]at hb;exact anyL_first hE hc ⟨oc.after[x],Array.getElem_mem hx,hb.1,hb.2⟩ ho (Region.noSelect_spec hs) r.length seen a w hD (Region.free_spec ho hf) (by simpa using hr) hy (anyL_of_walk hs hE r _ _ w hD hq hB' hK)
 |(i,false)::r,seen,a,w,hD,hq,hB,h=>by
  simp only[ordL,Bool.and_eq_true,beq_iff_eq]at hB;obtain⟨hr,hB'⟩:=hB;refine⟨by rw[hr];exact List.cons_ne_nil _ _,fun j hj=>?_⟩;rw[hr]at hj;obtain rfl:j=i:=by simpa using hj
  exact wpOp_mono (fun a' w' h'=>⟨h'.1,anyL_of_walk hs hE r _ a' w' h'.1 hq hB' h'.2⟩) h
theorem region_mixed_last{id:Nat}{Q:Exit→Act→World→Prop}{a:Act}{w:World}{l:List Oper}(D:World→Prop)(s:List (List Nat×Nat))(last:List Nat)(c:Nat)(hm:P.follows .mixedOrders=true)
 (hB:(Region.noSelect l.toArray&&fitB l s last&&(l[c]?).isSome&&decide ((flatO s last).length+1=l.length)&&ordL .any l.toArray c (flatO s last) (Array.replicate l.length false))=true) (hD:D w.drew)
 (h:mixO P l D (fun a' w'=>wpList P l.toArray Q (pickO l [c]) a' w') s last a w.drew):(Code.region id l.toArray true).wp P Q a w:=by
 simp only[Bool.and_eq_true,decide_eq_true_eq]at hB
 obtain⟨⟨⟨⟨hsel,hf⟩,hcs⟩,hlen⟩,hord⟩:=hB
 obtain⟨oc,hoc⟩:=Option.isSome_iff_exists.1 hcs
 obtain⟨hE1,hE2⟩:=ordL_end _ _ hord
 refine wp_region_any hm ?_
 have h1:=anyL_of_walk (md:=.any) (c:=c) hsel hE1 (flatO s last) _ a w.drew hD rfl hord (walk_of_mix last s a w.drew hf h)
 have h2:=any_of_anyL (Q:=Q) hE1 hE2 (fun a' w' h'=>by
  have h0:l.toArray[c]?=some oc:=by simpa using hoc
  simp only[pickO,hoc,wpList]at h';unfold wpOp;simp only[h0];exact h') _ _ _ _ h1
 rw[hlen]at h2
 simpa using h2
theorem mixO_last{l lq:List Oper}{lc:List Oper}{Q:Exit→Act→World→Prop}{last:List Nat}{c:Nat}{a:Act}{w:World}(h:wpQuiet P l.toArray (fun w'=>∃u:Of D,w'=u.val) (fun a'=>wpList P l.toArray Q lc a' w) lq a)
 (hq:pickO l last=lq:=by simp only[pickO,List.getElem?_cons_zero,List.getElem?_cons_succ];exact rfl) (hc:pickO l [c]=lc:=by simp only[pickO,List.getElem?_cons_zero,List.getElem?_cons_succ];exact rfl):mixO P l D (fun a' w'=>wpList P l.toArray Q (pickO l [c]) a' w') [] last a w:=by
 subst hq hc
 exact h
end
section
variable {P : Program} {D : World → Prop}
theorem anyL_pick{l:List Oper}{md:Region.Mode}{R:Act→World→Prop}{f:Nat}{seen sE:Array Bool}{a:Act}{w:World}(rs:List Nat)(hr:Region.ready md l.toArray seen=rs)(hne:rs≠[])
 (h:∀i∈rs,∃o,l[i]?=some o∧∀K:Act→World→Prop,(∀a'' w'',D w''→anyL P md l.toArray D sE R f (seen.setIfInBounds i true) a'' w''→K a'' w'')→wpList P l.toArray (endN K) [o] a w) :
 anyL P md l.toArray D sE R (f+1) seen a w:=by
 refine⟨by rw[hr];exact hne,fun i hi=>?_⟩
 rw[hr]at hi
 obtain⟨o,ho,hK⟩:=h i hi
 have h0:l.toArray[i]?=some o:=by simpa using ho
 have hw:=hK (fun a'' w''=>D w''∧anyL P md l.toArray D sE R f (seen.setIfInBounds i true) a'' w'') (fun a'' w'' g1 g2=>⟨g1,g2⟩)
 simp only[wpList]at hw
 unfold wpOp
 simp only[h0]
 split
 ·rename_i hwt
  simp only[hwt,if_true]at hw;rcases hw with hw|hw;·exact Or.inl (upon_ends (fun v w1 hh=>hh.2) (fun d w1 hh=>hh.2) hw)
  exact absurd hw.2 letsOut_endN
 ·rename_i hwt
  simp only[hwt]at hw;exact hw.2
def waitsB(md:Region.Mode)(ops:Array Oper)(c:Nat)(q:List Nat):Bool :=
 match ops[c]? with
 |some o=>q.all fun i=>o.after.any fun e=>Region.binds md e&&e.on==i
 |none=>false
theorem anyL_reads{l:List Oper}{md:Region.Mode}{R:Act→World→Prop}{f:Nat}{sE:Array Bool}{w:World}{c:Nat}(hs:Region.noSelect l.toArray=true)(hE:Region.ready md l.toArray sE=[c])(hD:D w):∀(q:List Nat) (seen:Array Bool) (a:Act),waitsB md l.toArray c q=true→ordQ md l.toArray q seen=true →
 (q.all (fun i=>match l[i]? with|some o=>plainB o|none=>false))=true →
 wpQuiet P l.toArray (fun w'=>∃u:Of D,w'=u.val) (fun a'=>anyL P md l.toArray D sE R f (seenQ q seen) a' w) (pickO l q) a→anyL P md l.toArray D sE R (f+q.length) seen a w
 |[],seen,a,_,_,_,h=>h
 |i::q,seen,a,hw,ho,hq,h=>by
  simp only[List.all_cons,Bool.and_eq_true]at hq;obtain⟨h1,h2⟩:=hq;simp only[ordQ,Bool.and_eq_true]at ho;obtain⟨⟨hr,hf⟩,ho'⟩:=ho;unfold waitsB at hw;cases hoc:l.toArray[c]? with
  |none=>simp only[hoc]at hw;cases hw
  |some oc =>
   simp only[hoc,List.all_cons,Bool.and_eq_true]at hw;obtain⟨hw1,hw2⟩:=hw;obtain⟨x,hx,hb⟩:=Array.any_eq_true.1 hw1;simp only[Bool.and_eq_true,beq_iff_eq]at hb;cases hoi:l[i]? with
   |none=>simp[hoi]at h1
   |some o =>
    simp only[hoi]at h1;simp only[pickO,hoi]at h;have h0:l.toArray[i]?=some o:=by simpa using hoi
    have hst:qOp P l.toArray (fun w'=>∃u:Of D,w'=u.val) i (wpQuiet P l.toArray (fun w'=>∃u:Of D,w'=u.val) (fun a'=>anyL P md l.toArray D sE R f (seenQ (i::q) seen) a' w) (pickO l q)) a:=by unfold qOp;simp only[h0];exact h
    obtain⟨v,hy,hK⟩:=yieldsIn_of_qOp h0 hst;exact anyL_first hE hoc ⟨oc.after[x],Array.getElem_mem hx,hb.1,hb.2⟩ h0 (Region.noSelect_spec hs) (f+q.length) seen a w hD (Region.free_spec h0 hf) (by simpa using hr) (still_of_yields h1 hy) (anyL_reads hs hE hD q _ _ (by unfold waitsB;simp only[hoc];exact hw2) ho' h2 hK)
theorem anyL_end{l:List Oper}{md:Region.Mode}{R:Act→World→Prop}{seen sE:Array Bool}{a:Act}{w:World}(hs:seen=sE)(h:R a w):anyL P md l.toArray D sE R 0 seen a w:=⟨hs,h⟩
theorem region_tree_last{id:Nat}{Q:Exit→Act→World→Prop}{a:Act}{w:World}{l lc:List Oper}(D:World→Prop)(c:Nat)(sE:Array Bool)(f:Nat)(hm:P.follows .mixedOrders=true)(hE:Region.ready .any l.toArray sE=[c])(hE2:Region.ready .any l.toArray (sE.setIfInBounds c true)=[])(hf:f+1=l.length)(hc:pickO l [c]=lc)(hcs:(l[c]?).isSome=true)
 (h:anyL P .any l.toArray D sE (fun a' w'=>wpList P l.toArray Q lc a' w') f (Array.replicate l.length false) a w.drew):(Code.region id l.toArray true).wp P Q a w:=by
 obtain⟨oc,hoc⟩:=Option.isSome_iff_exists.1 hcs
 refine wp_region_any hm ?_
 have h2:=any_of_anyL (Q:=Q) hE hE2 (fun a' w' h'=>by
  have h0:l.toArray[c]?=some oc:=by simpa using hoc
  rw[←hc]at h';simp only[pickO,hoc,wpList]at h';unfold wpOp;simp only[h0];exact h') _ _ _ _ h
 rw[hf]at h2
 simpa using h2
end
def snocT(m:Nat)(t:Kt)(ver N:Int)(L:Nat)(X:Nat→Int):Kt:=⟨fun j=>if j=m then ver else t.V j,fun j=>if j=m then N else t.N j,fun j=>if j=m then L else t.L j,fun j=>if j=m then X else t.X j⟩
def InOrder(t:Kt)(K:Nat)(l:List Nat):Prop:=l.Perm (List.range K)∧l.Pairwise fun a c=>t.V a<t.V c
theorem inOrder_uniq{t:Kt}{K:Nat}{l l':List Nat}(h:InOrder t K l)(h':InOrder t K l'):l=l':=by
 refine List.Perm.eq_of_pairwise (le:=fun a c=>t.V a<t.V c) (fun a c _ _ h1 h2=>?_) h.2 h'.2 (h.1.trans h'.1.symm);omega
def KeepsTo(n:Nat)(b:Bk)(th:Bool)(room:Int)(m:Nat)(t:Kt)(ver N:Int)(L:Nat)(X:Nat→Int)(er:Int)(th':Bool)(room':Int)(m':Nat)(t':Kt):Prop :=
 (peerE n b room m t≠0∧er=peerE n b room m t∧th'=false∧room'=0∧m'=0) ∨
 (peerE n b room m t=0∧room≤(m:Int)∧er=8∧th'=false∧room'=0∧m'=0) ∨
 (peerE n b room m t=0∧(m:Int)<room∧0≤fstAt t.V ver m 0∧er=5∧th'=false∧room'=0∧m'=0) ∨
 (peerE n b room m t=0∧(m:Int)<room∧fstAt t.V ver m 0<0∧∃l,InOrder (snocT m t ver N L X) (m+1) l∧er=peerE n b room (m+1) (selT (snocT m t ver N L X) l) ∧
  ((er=0∧th'=th∧room'=room∧m'=m+1∧t'=selT (snocT m t ver N L X) l)∨(er≠0∧th'=false∧room'=0∧m'=0)))
theorem fstAt_none{X:Nat→Int}{v:Int}{m:Nat}(h:fstAt X v m 0<0):∀j,j<m→X j≠v:=fun j hj e=>by
 have:=(fstAt_neg X v m 0).2 ⟨j,Nat.zero_le _,by omega,e⟩;omega
theorem scanK_rise{n:Nat}{b:Bk}{t:Kt}:∀f k last,scanK n b t f k last=0→(∀j,k≤j→j<k+f→last<t.V j)∧∀j,k≤j→j+1<k+f→t.V j<t.V (j+1):=by
 intro f;induction f with
 |zero=>intro k last _;exact⟨fun j h1 h2=>by omega,fun j h1 h2=>by omega⟩
 |succ f ih =>
  intro k last h;simp only[scanK]at h;by_cases c1:t.V k<0∨(n:Int)≤t.V k;·rw[if_pos c1]at h;omega
  rw[if_neg c1]at h;by_cases c2:t.V k≤last;·rw[if_pos c2]at h;omega
  rw[if_neg c2]at h;by_cases c3:oneK b t k=0
  ·rw[if_pos c3]at h
   obtain⟨h1,h2⟩:=ih (k+1) (t.V k) h;refine⟨fun j g1 g2=>?_,fun j g1 g2=>?_⟩
   ·by_cases e:j=k
    ·subst e;omega
    have:=h1 j (by omega) (by omega);omega
   by_cases e:j=k;·subst e;exact h1 (j+1) (by omega) (by omega)
   exact h2 j (by omega) (by omega)
  rw[if_neg c3]at h;exact absurd h c3
theorem rise_far{X:Nat→Int}{m:Nat}(h:∀j,j+1<m→X j<X (j+1)):∀i j,i<j→j<m→X i<X j:=by
 intro i j;induction j with
 |zero=>intro h1;omega
 |succ j ih =>
  intro h1 h2;by_cases e:i=j;·subst e;exact h i h2
  have h3:=ih (by omega) (by omega);have h4:=h j h2;omega
theorem peerE_ok{n:Nat}{b:Bk}{room:Int}{m:Nat}{t:Kt}(h:peerE n b room m t=0):bookE n b=0∧(0≤room∧room≤20)∧(m:Int)≤room∧scanK n b t m 0 (-1)=0:=by
 unfold peerE at h;by_cases h1:bookE n b=0
 ·rw[if_pos h1]at h
  by_cases h2:0≤room∧room≤20
  ·rw[if_pos h2]at h
   by_cases h3:(m:Int)≤room;·rw[if_pos h3]at h;exact⟨h1,h2,h3,h⟩
   rw[if_neg h3]at h;omega
  rw[if_neg h2]at h;omega
 rw[if_neg h1]at h;exact absurd h h1
theorem snocT_inj{n:Nat}{b:Bk}{room:Int}{m:Nat}{t:Kt}{ver N:Int}{L:Nat}{X:Nat→Int}(h:peerE n b room m t=0)(hf:fstAt t.V ver m 0<0):∀i j,i<m+1→j<m+1→(snocT m t ver N L X).V i=(snocT m t ver N L X).V j→i=j:=by
 have hr:=rise_far (X:=t.V) (m:=m) (fun j hj=>(scanK_rise m 0 (-1) (peerE_ok h).2.2.2).2 j (Nat.zero_le _) (by omega));have hn:=fstAt_none hf;intro i j hi hj e;simp only[snocT]at e;by_cases ei:i=m
 ·by_cases ej:j=m
  ·omega
  rw[if_pos ei,if_neg ej]at e;exact absurd e.symm (hn j (by omega))
 by_cases ej:j=m
 ·rw[if_neg ei,if_pos ej]at e
  exact absurd e (hn i (by omega))
 rw[if_neg ei,if_neg ej]at e;rcases Nat.lt_trichotomy i j with h1|h1|h1;·have:=hr i j h1 (by omega);omega
 ·exact h1
 have:=hr j i h1 (by omega);omega
def agL(p:Nat→Bool)(m:Nat):List Nat:=(List.range m).filter p
theorem agL_succ(p:Nat→Bool)(m:Nat):agL p (m+1)=agL p m++(if p m=true then[m]else[]):=by
 unfold agL;rw[List.range_succ,List.filter_append];cases h:p m<;>simp[h]
theorem agL_len(p:Nat→Bool)(m:Nat):(agL p m).length≤m:=by
 unfold agL;refine Nat.le_trans (List.length_filter_le _ _) ?_;simp
theorem agL_lt{p:Nat→Bool}{m i:Nat}(h:i∈agL p m):i<m:=by
 unfold agL at h;exact List.mem_range.1 (List.mem_filter.1 h).1
theorem agL_notin(p:Nat→Bool)(m:Nat):m∉agL p m:=fun h=>by have:=agL_lt h;omega
def ahB(t:Kt)(ver:Int)(j:Nat):Bool:=decide (t.V j<ver)
def bhB(t:Kt)(ver:Int)(j:Nat):Bool:=decide (ver<t.V j)
theorem put_order{t:Kt}{m:Nat}{ver N:Int}{L:Nat}{X:Nat→Int}(hr:∀i j,i<j→j<m→t.V i<t.V j)(hn:∀j,j<m→t.V j≠ver):
 InOrder (snocT m t ver N L X) (m+1) ((agL (ahB t ver) m++[m])++agL (bhB t ver) m):=by
 have hsub:∀p:Nat→Bool,(agL p m).Pairwise (fun a c=>(snocT m t ver N L X).V a<(snocT m t ver N L X).V c):=fun p=>by
  have h1:(agL p m).Pairwise (fun a c:Nat=>a<c):=List.Pairwise.filter p List.pairwise_lt_range;refine h1.imp_of_mem ?_;intro a c ha hc hac;have la:=agL_lt ha;have lc:=agL_lt hc;have e1:(snocT m t ver N L X).V a=t.V a:=by simp only[snocT];rw[if_neg (by omega)]
  have e2:(snocT m t ver N L X).V c=t.V c:=by simp only[snocT];rw[if_neg (by omega)]
  rw[e1,e2];exact hr a c hac lc
 have hv:∀i,i<m→(snocT m t ver N L X).V i=t.V i:=fun i hi=>by simp only[snocT];rw[if_neg (by omega)]
 have hm:(snocT m t ver N L X).V m=ver:=by simp only[snocT];rw[if_pos trivial]
 refine⟨?_,?_⟩
 ·have e:agL (bhB t ver) m=agL (fun j => !(ahB t ver j)) m:=by
   unfold agL;refine List.filter_congr ?_;intro j hj;have hj:=List.mem_range.1 hj;have:=hn j hj;unfold ahB bhB;by_cases h1:t.V j<ver
   ·have h2:¬ver<t.V j:=by omega
    simp[h1,h2]
   ·have h2:ver<t.V j:=by omega
    simp[h1,h2]
  rw[e,List.range_succ];have hp:(agL (ahB t ver) m++agL (fun j => !(ahB t ver j)) m).Perm (List.range m):=List.filter_append_perm _ _;have h3:((agL (ahB t ver) m++[m])++agL (fun j => !(ahB t ver j)) m).Perm ((agL (ahB t ver) m++agL (fun j => !(ahB t ver j)) m)++[m]):=by
   rw[List.append_assoc,List.append_assoc];exact List.Perm.append_left _ List.perm_append_comm
  exact h3.trans (hp.append_right _)
 ·rw[List.pairwise_append,List.pairwise_append]
  refine⟨⟨hsub _,by simp,?_⟩,hsub _,?_⟩
  ·intro a ha c hc
   have hc:c=m:=by simpa using hc
   subst hc;rw[hv a (agL_lt ha),hm];have:=(List.mem_filter.1 ha).2;exact of_decide_eq_true this
  intro a ha c hc;rw[hv c (agL_lt hc)];have hc2:ver<t.V c:=of_decide_eq_true (List.mem_filter.1 hc).2;rcases List.mem_append.1 ha with ha|ha
  ·rw[hv a (agL_lt ha)]
   have:t.V a<ver:=of_decide_eq_true (List.mem_filter.1 ha).2;omega
  have ha:a=m:=by simpa using ha
  subst ha;rw[hm];exact hc2
theorem anyPar_iff(b:Bk)(n k:Nat):anyB (parB b k) n 0=true↔∃j,j<n∧∃i,i<b.PL j∧b.PX j i=(k:Int):=by
 rw[anyB_iff];constructor
 ·rintro⟨j,_,h2,h3⟩
  obtain⟨i,hi,e⟩:=(hasB_iff _ _ _).1 h3;exact⟨j,by omega,i,hi,e⟩
 rintro⟨j,hj,i,hi,e⟩;exact⟨j,Nat.zero_le _,by omega,(hasB_iff _ _ _).2 ⟨i,hi,e⟩⟩
def pickL(p:Nat→Bool)(j:Nat):List Int:=((List.range j).filter p).map fun(x:Nat)=>(x:Int)
theorem pickL_succ(p:Nat→Bool)(j:Nat):pickL p (j+1)=pickL p j++(if p j=true then[(j:Int)]else[]):=by
 unfold pickL;rw[List.range_succ,List.filter_append,List.map_append];cases h:p j<;>simp[h]
theorem pickL_len(p:Nat→Bool)(j:Nat):(pickL p j).length≤j:=by
 unfold pickL;rw[List.length_map];refine Nat.le_trans (List.length_filter_le _ _) ?_;simp
theorem pickL_congr{p q:Nat→Bool}{j:Nat}(h:∀x,x<j→p x=q x):pickL p j=pickL q j:=by
 unfold pickL;rw[List.filter_congr (fun x hx=>h x (List.mem_range.1 hx))]
theorem mem_pickL{p:Nat→Bool}{j:Nat}{x:Int}:x∈pickL p j↔∃k:Nat,k<j∧p k=true∧x=k:=by
 unfold pickL;simp only[List.mem_map,List.mem_filter,List.mem_range];constructor;·rintro⟨k,⟨h1,h2⟩,rfl⟩;exact⟨k,h1,h2,rfl⟩
 rintro⟨k,h1,h2,rfl⟩;exact⟨k,⟨h1,h2⟩,rfl⟩
theorem behL_pick(b:Bk)(f k j:Nat):behL b f k j=pickL (fun old=>frm b f k old) j:=rfl
theorem headsL_pick(b:Bk)(n j:Nat):headsL b n j=pickL (fun k => !anyB (parB b k) n 0) j:=rfl
theorem Right.few{n:Nat}{b:Bk}(h:Right n b){k:Nat}(hk:k<n):b.PL k≤k:=by
 have key:∀i,i<b.PL k→(i:Int)≤b.PX k i:=by
  intro i;induction i with
  |zero=>intro hi;have:=(h.elder k hk 0 hi).1;omega
  |succ i ih =>
   intro hi;have h1:=ih (by omega);have h2:=h.rise k hk i hi;omega
 rcases Nat.lt_or_ge k (b.PL k)with h1|h1
 ·have h2:=key k h1
  have h3:=(h.elder k hk k h1).2;omega
 exact h1
def HInvP(b:Bk)(k:Nat)(c:Int→Int):Prop:=(∀x,0≤c x∧c x≤((k*12:Nat):Int))∧∀x,c x=0↔∀j,j<k→∀i,i<b.PL j→b.PX j i≠x
theorem heads_of{b:Bk}{n:Nat}{c:Int→Int}(h:HInvP b n c):pickL (fun k=>decide (c (k:Int)=0)) n=headsL b n n:=by
 rw[headsL_pick];refine pickL_congr fun x hx=>?_;have h1:=h.2 (x:Int);have h2:=anyPar_iff b n x;cases ha:anyB (parB b x) n 0 with
 |true =>
  obtain⟨j,hj,i,hi,e⟩:=h2.1 ha;exact decide_eq_false fun h0=>h1.1 h0 j hj i hi e
 |false =>
  refine decide_eq_true (h1.2 fun j hj i hi e=>?_);rw[h2.2 ⟨j,hj,i,hi,e⟩]at ha;cases ha
section
structure Ps where
 th:Nat→Bool
 rm:Nat→Int
 m:Nat→Nat
 t:Nat→Kt
def PsSl(w:World)(B:Nat)(v:Value)(n:Nat)(KV:Nat→Value)(UV:Nat→Nat→Value)(P:Ps):Prop :=
 ∃(ad:Option Addr) (cap:Nat),v=.slice ad n cap∧(n≤cap∧n*40≤140737488351232)∧(n=0∨∃bl off,ad=some ⟨bl,off,none⟩∧bl<B∧∀j,j<n →
  w.cell? ⟨bl,off+j*3,none⟩=some (.bool (P.th j))∧w.cell? ⟨bl,off+j*3+1,none⟩=some (.int .i64 (P.rm j))∧w.cell? ⟨bl,off+j*3+2,none⟩=some (KV j)∧KeSl w B (KV j) (P.m j) (UV j) (P.t j))
section
variable {w w' : World} {B B' : Nat} {v : Value} {n : Nat} {KV : Nat → Value} {UV : Nat → Nat → Value} {P : Ps}
theorem PsSl.below(h:PsSl w B v n KV UV P)(hb:Below B w w'):PsSl w' B v n KV UV P:=by
 obtain⟨ad,cap,h1,h0,h2⟩:=h;refine⟨ad,cap,h1,h0,?_⟩;rcases h2 with h2|⟨bl,off,h3,h4,h5⟩;·exact Or.inl h2
 refine Or.inr ⟨bl,off,h3,h4,fun j hj=>?_⟩;obtain⟨g1,g2,g3,g4⟩:=h5 j hj;exact⟨by rw[hb.cell h4];exact g1,by rw[hb.cell h4];exact g2,by rw[hb.cell h4];exact g3,g4.below hb⟩
theorem PsSl.mono(h:PsSl w B v n KV UV P)(hb:B≤B'):PsSl w B' v n KV UV P:=by
 obtain⟨ad,cap,h1,h0,h2⟩:=h;refine⟨ad,cap,h1,h0,?_⟩;rcases h2 with h2|⟨bl,off,h3,h4,h5⟩;·exact Or.inl h2
 refine Or.inr ⟨bl,off,h3,by omega,fun j hj=>?_⟩;obtain⟨g1,g2,g3,g4⟩:=h5 j hj;exact⟨g1,g2,g3,g4.mono hb⟩
theorem PsSl.up(h:PsSl w w.heap.size v n KV UV P)(hb:Below w.heap.size w w'):PsSl w' w'.heap.size v n KV UV P:=(h.below hb).mono hb.size
theorem PsSl.at{a:Option Addr}{c:Nat}(h:PsSl w B (.slice a n c) n KV UV P){i:Nat}(hi:i<n):
 ∃bl off,a=some ⟨bl,off,none⟩∧bl<B∧w.cell? ⟨bl,off+i*3,none⟩=some (.bool (P.th i))∧w.cell? ⟨bl,off+i*3+1,none⟩=some (.int .i64 (P.rm i))∧w.cell? ⟨bl,off+i*3+2,none⟩=some (KV i)∧KeSl w B (KV i) (P.m i) (UV i) (P.t i):=by
 obtain⟨ad,cap,he,_,h2⟩:=h
 injection he with e1 _ e3
 subst e1 e3
 rcases h2 with h2|⟨bl,off,rfl,h4,h5⟩
 ·omega
 ·obtain⟨g1,g2,g3,g4⟩:=h5 i hi
  exact⟨bl,off,rfl,h4,g1,g2,g3,g4⟩
end
def scanP(n:Nat)(b:Bk)(P:Ps):Nat→Nat→Int
 |0,_=>0
 |f+1,k=>if peerE n b (P.rm k) (P.m k) (P.t k)=0 then scanP n b P f (k+1)else peerE n b (P.rm k) (P.m k) (P.t k)
def peersE(n:Nat)(b:Bk)(np:Nat)(P:Ps):Int:=if bookE n b=0 then(if np≤8 then scanP n b P np 0 else 1)else bookE n b
def leftK(P:Ps)(k:Nat):Int:=P.rm k-(P.m k:Int)
def noneK(P:Ps)(ver:Int)(k:Nat):Bool:=decide (fstAt (P.t k).V ver (P.m k) 0<0)
def fitK(P:Ps)(ver left:Int)(k:Nat):Bool:=P.th k&&(decide (leftK P k=left)&&noneK P ver k)
def lefts(P:Ps)(ver:Int)(np:Nat):Nat→List Int
 |0=>[]
 |r+1=>pickL (fitK P ver ((r+1:Nat):Int)) np++lefts P ver np r
def orderL(P:Ps)(ver:Int)(np:Nat):List Int:=lefts P ver np 20
def manyE(P:Ps)(ver:Int)(np:Nat)(many:Int):Int:=if 0≤many∧many≤8 then(if((orderL P ver np).length:Int)<many then 7 else 0)else 2
def forL(P:Ps)(ver:Int)(np:Nat)(many:Int):List Int:=if manyE P ver np many=0 then(orderL P ver np).take many.toNat else[]
def forE(n:Nat)(b:Bk)(P:Ps)(ver:Int)(np:Nat)(many:Int):Int:=if peersE n b np P=0 then manyE P ver np many else peersE n b np P
theorem scanP_ok{n:Nat}{b:Bk}{P:Ps}:∀f k,scanP n b P f k=0→∀j,k≤j→j<k+f→peerE n b (P.rm j) (P.m j) (P.t j)=0:=by
 intro f;induction f with
 |zero=>intro k _ j h1 h2;omega
 |succ f ih =>
  intro k h j h1 h2;simp only[scanP]at h;by_cases c:peerE n b (P.rm k) (P.m k) (P.t k)=0
  ·rw[if_pos c]at h
   by_cases e:j=k;·subst e;exact c
   exact ih (k+1) h j (by omega) (by omega)
  rw[if_neg c]at h;exact absurd h c
structure RightP(n:Nat)(b:Bk)(np:Nat)(P:Ps):Prop where
 book:bookE n b=0
 le:np≤8
 each:∀k,k<np→peerE n b (P.rm k) (P.m k) (P.t k)=0
theorem rightP_of{n:Nat}{b:Bk}{np:Nat}{P:Ps}(h:peersE n b np P=0):RightP n b np P:=by
 unfold peersE at h;by_cases h1:bookE n b=0
 ·rw[if_pos h1]at h
  by_cases h2:np≤8
  ·rw[if_pos h2]at h
   exact⟨h1,h2,fun k hk=>scanP_ok np 0 h k (Nat.zero_le _) (by omega)⟩
  rw[if_neg h2]at h;omega
 rw[if_neg h1]at h;exact absurd h h1
theorem peerE_room{n:Nat}{b:Bk}{room:Int}{m:Nat}{t:Kt}(h:peerE n b room m t=0):(0≤room∧room≤20)∧(m:Int)≤room:=by
 unfold peerE at h;by_cases h1:bookE n b=0
 ·rw[if_pos h1]at h
  by_cases h2:0≤room∧room≤20
  ·rw[if_pos h2]at h
   by_cases h3:(m:Int)≤room;·exact⟨h2,h3⟩
   rw[if_neg h3]at h;omega
  rw[if_neg h2]at h;omega
 rw[if_neg h1]at h;exact absurd h h1
theorem RightP.room{n:Nat}{b:Bk}{np:Nat}{P:Ps}(h:RightP n b np P){k:Nat}(hk:k<np):(0≤P.rm k∧P.rm k≤20)∧(P.m k:Int)≤P.rm k:=peerE_room (h.each k hk)
end
section
def rightK(n:Nat)(b:Bk)(t:Kt)(j:Nat):Prop:=(0≤t.V j∧t.V j<(n:Int))∧oneK b t j=0
theorem scanK_zero{n:Nat}{b:Bk}{t:Kt}:∀f k last,(∀j,k≤j→j<k+f→rightK n b t j)→(∀j,k≤j→j+1<k+f→t.V j<t.V (j+1))→(0<f→last<t.V k)→scanK n b t f k last=0:=by
 intro f;induction f with
 |zero=>intro k last _ _ _;rfl
 |succ f ih =>
  intro k last h1 h2 h3;obtain⟨⟨a1,a2⟩,a3⟩:=h1 k (Nat.le_refl _) (by omega);simp only[scanK];rw[if_neg (by omega),if_neg (by have:=h3 (by omega);omega),if_pos a3];refine ih (k+1) (t.V k) (fun j g1 g2=>h1 j (by omega) (by omega)) (fun j g1 g2=>h2 j (by omega) (by omega)) (fun hf=>h2 k (Nat.le_refl _) (by omega))
theorem scanK_right{n:Nat}{b:Bk}{t:Kt}:∀f k last,scanK n b t f k last=0→∀j,k≤j→j<k+f→rightK n b t j:=by
 intro f;induction f with
 |zero=>intro k last _ j h1 h2;omega
 |succ f ih =>
  intro k last h j h1 h2;simp only[scanK]at h;by_cases c1:t.V k<0∨(n:Int)≤t.V k;·rw[if_pos c1]at h;omega
  rw[if_neg c1]at h;by_cases c2:t.V k≤last;·rw[if_pos c2]at h;omega
  rw[if_neg c2]at h;by_cases c3:oneK b t k=0
  ·rw[if_pos c3]at h
   by_cases e:j=k;·subst e;exact⟨⟨by omega,by omega⟩,c3⟩
   exact ih (k+1) (t.V k) h j (by omega) (by omega)
  rw[if_neg c3]at h;exact absurd h c3
structure PeerR(n:Nat)(b:Bk)(room:Int)(m:Nat)(t:Kt):Prop where
 book:bookE n b=0
 room_:0≤room∧room≤20
 few:(m:Int)≤room
 right:∀j,j<m→rightK n b t j
 rise:∀i j,i<j→j<m→t.V i<t.V j
theorem peerR_of{n:Nat}{b:Bk}{room:Int}{m:Nat}{t:Kt}(h:peerE n b room m t=0):PeerR n b room m t:=by
 obtain⟨h1,h2,h3,h4⟩:=peerE_ok h;exact⟨h1,h2,h3,fun j hj=>scanK_right m 0 (-1) h4 j (Nat.zero_le _) (by omega),rise_far fun j hj=>(scanK_rise m 0 (-1) h4).2 j (Nat.zero_le _) (by omega)⟩
theorem PeerR.e{n:Nat}{b:Bk}{room:Int}{m:Nat}{t:Kt}(h:PeerR n b room m t):peerE n b room m t=0:=by
 unfold peerE;rw[if_pos h.book,if_pos h.room_,if_pos h.few];exact scanK_zero m 0 (-1) (fun j _ hj=>h.right j (by omega)) (fun j _ hj=>h.rise j (j+1) (by omega) (by omega)) (fun hm=>by have:=(h.right 0 hm).1;omega)
def keepL(t:Kt)(ver:Int)(m:Nat):List Nat:=(agL (ahB t ver) m++[m])++agL (bhB t ver) m
def keepT(t:Kt)(m:Nat)(ver N:Int)(L:Nat)(X:Nat→Int):Kt:=selT (snocT m t ver N L X) (keepL t ver m)
theorem getD_in{α:Type}{l:List α}{j:Nat}{d:α}(h:j<l.length):l.getD j d∈l:=by
 rw[List.getD_eq_getElem?_getD,List.getElem?_eq_getElem h];exact List.getElem_mem h
theorem pairwise_getD{α:Type}{R:α→α→Prop}{l:List α}{d:α}(h:l.Pairwise R){i j:Nat}(hij:i<j)(hj:j<l.length):R (l.getD i d) (l.getD j d):=by
 rw[List.getD_eq_getElem?_getD,List.getD_eq_getElem?_getD,List.getElem?_eq_getElem (by omega),List.getElem?_eq_getElem hj];exact List.pairwise_iff_getElem.1 h i j (by omega) hj hij
section
variable {n : Nat} {b : Bk} {room : Int} {m : Nat} {t : Kt} {ver N : Int} {L : Nat} {X : Nat → Int}
theorem keepL_order(h:PeerR n b room m t)(hf:fstAt t.V ver m 0<0):InOrder (snocT m t ver N L X) (m+1) (keepL t ver m):=put_order h.rise (fstAt_none hf)
theorem keepL_len(h:PeerR n b room m t)(hf:fstAt t.V ver m 0<0):(keepL t ver m).length=m+1:=by
 rw[(keepL_order (N:=0) (L:=0) (X:=fun _=>0) h hf).1.length_eq];simp
theorem keepT_right(h:PeerR n b room m t)(hm:(m:Int)<room)(hf:fstAt t.V ver m 0<0)(hv:0≤ver∧ver<(n:Int))(hs:oneE (b.nd ver.toNat) (b.of ver.toNat) (b.sz ver.toNat) N L X=0):PeerR n b room (m+1) (keepT t m ver N L X):=by
 have ho:=keepL_order (N:=N) (L:=L) (X:=X) h hf;have hl:=keepL_len h hf;refine⟨h.book,h.room_,by omega,fun j hj=>?_,fun i j hij hj=>pairwise_getD ho.2 hij (by omega)⟩;have hq:(keepL t ver m).getD j 0<m+1:=List.mem_range.1 (ho.1.mem_iff.1 (getD_in (by omega)));obtain⟨q,hqe⟩:∃q,(keepL t ver m).getD j 0=q:=⟨_,rfl⟩;rw[hqe]at hq;have e1:(keepT t m ver N L X).V j=(snocT m t ver N L X).V q:=by simp only[keepT,selT];rw[hqe]
 have e2:oneK b (keepT t m ver N L X) j=oneK b (snocT m t ver N L X) q:=by unfold oneK;simp only[keepT,selT];rw[hqe]
 unfold rightK;rw[e1,e2];by_cases e:q=m
 ·subst e
  have e3:(snocT q t ver N L X).V q=ver:=by simp[snocT]
  have e4:oneK b (snocT q t ver N L X) q=oneE (b.nd ver.toNat) (b.of ver.toNat) (b.sz ver.toNat) N L X:=by unfold oneK;simp[snocT]
  rw[e3,e4];exact⟨hv,hs⟩
 have e3:(snocT m t ver N L X).V q=t.V q:=by simp[snocT,e]
 have e4:oneK b (snocT m t ver N L X) q=oneK b t q:=by unfold oneK;simp[snocT,e]
 rw[e3,e4];exact h.right q (by omega)
theorem keepsTo_ok{th:Bool}{er:Int}{th':Bool}{room':Int}{m':Nat}{t':Kt}(hk:KeepsTo n b th room m t ver N L X er th' room' m' t')(h:PeerR n b room m t)(hm:(m:Int)<room)(hf:fstAt t.V ver m 0<0)(hv:0≤ver∧ver<(n:Int))(hs:oneE (b.nd ver.toNat) (b.of ver.toNat) (b.sz ver.toNat) N L X=0):
 er=0∧th'=th∧room'=room∧m'=m+1∧t'=keepT t m ver N L X:=by
 unfold KeepsTo at hk
 rcases hk with⟨a0,_⟩|⟨_,a1,_⟩|⟨_,_,a2,_⟩|⟨a0,a1,a2,l,a3,a4,a5⟩
 ·exact absurd h.e a0
 ·omega
 ·omega
 ·have hl:=inOrder_uniq a3 (keepL_order h hf)
  subst hl;have he:er=0:=by rw[a4];exact(keepT_right h hm hf hv hs).e
  rcases a5 with⟨_,d1,d2,d3,d4⟩|⟨d0,_⟩;·exact⟨he,d1,d2,d3,d4⟩
  exact absurd he d0
end
theorem PeerR.snoc{n:Nat}{b:Bk}{room:Int}{m:Nat}{t:Kt}{lp:Nat}{X:Nat→Int}{nd of sz:Int}(h:PeerR n b room m t)(hb:bookE (n+1) (snocB n b lp X nd of sz)=0):PeerR (n+1) (snocB n b lp X nd of sz) room m t:=by
 refine⟨hb,h.room_,h.few,fun j hj=>?_,h.rise⟩;obtain⟨h1,h2⟩:=h.right j hj;refine⟨⟨h1.1,by omega⟩,?_⟩;have hne:(t.V j).toNat≠n:=by omega
 unfold oneK at h2 ⊢;simp only[snocB,if_neg hne];exact h2
theorem fstAt_succ(X:Nat→Int)(v:Int):∀m k,fstAt X v (m+1) k=if 0≤fstAt X v m k then fstAt X v m k else if X (k+m)=v then((k+m:Nat):Int)else -1:=by
 intro m;induction m with
 |zero =>
  intro k;have e0:fstAt X v 0 k = -1:=rfl;have e1:fstAt X v (0+1) k=if v=X k then(k:Int)else -1:=rfl
  rw[e0,e1,if_neg (by decide:¬(0:Int) ≤ -1),Nat.add_zero];by_cases h:v=X k;·rw[if_pos h,if_pos h.symm]
  rw[if_neg h,if_neg (fun e=>h e.symm)]
 |succ m ih =>
  intro k;have e:=ih (k+1);rw[show fstAt X v (m+1+1) k=if v=X k then(k:Int)else fstAt X v (m+1) (k+1)from rfl,show fstAt X v (m+1) k=if v=X k then(k:Int)else fstAt X v m (k+1)from rfl];by_cases h:v=X k;·rw[if_pos h,if_pos h,if_pos (by omega)]
  rw[if_neg h,if_neg h,e,show k+1+m=k+(m+1) by omega]
def giveP(P:Ps)(ver:Int)(A:Nat→Int)(SN:Nat→Int)(SL:Nat→Nat)(SX:Nat→Nat→Int)(i:Nat):Ps :=
 ⟨P.th,P.rm,fun k=>if 0≤fstAt A (k:Int) i 0 then P.m k+1 else P.m k,
  fun k=>if 0≤fstAt A (k:Int) i 0 then keepT (P.t k) (P.m k) ver (SN (fstAt A (k:Int) i 0).toNat) (SL (fstAt A (k:Int) i 0).toNat) (SX (fstAt A (k:Int) i 0).toNat)else P.t k⟩
theorem giveP_zero(P:Ps)(ver:Int)(A:Nat→Int)(SN:Nat→Int)(SL:Nat→Nat)(SX:Nat→Nat→Int):giveP P ver A SN SL SX 0=P:=by
 unfold giveP;simp only[fstAt];simp
section
variable {P : Ps} {ver : Int} {A : Nat → Int} {SN : Nat → Int} {SL : Nat → Nat} {SX : Nat → Nat → Int} {i q : Nat}
theorem giveP_old{i k:Nat}(h:∀j,j<i→A j≠(k:Int)):(giveP P ver A SN SL SX i).m k=P.m k∧(giveP P ver A SN SL SX i).t k=P.t k:=by
 have h1:¬0≤fstAt A (k:Int) i 0:=fun h2=>by
  obtain⟨j,_,hj,e⟩:=(fstAt_neg A (k:Int) i 0).1 h2;exact h j (by omega) e
 simp only[giveP];rw[if_neg h1,if_neg h1];exact⟨rfl,rfl⟩
theorem giveP_succ{k:Nat}(hd:∀j,j<i→A j≠A i):(giveP P ver A SN SL SX (i+1)).m k=(if A i=(k:Int)then P.m k+1 else(giveP P ver A SN SL SX i).m k) ∧
 (giveP P ver A SN SL SX (i+1)).t k=(if A i=(k:Int)then keepT (P.t k) (P.m k) ver (SN i) (SL i) (SX i)else(giveP P ver A SN SL SX i).t k):=by
 have e:=fstAt_succ A (k:Int) i 0
 rw[Nat.zero_add]at e
 by_cases h:A i=(k:Int)
 ·have h1:¬0≤fstAt A (k:Int) i 0:=fun h2=>by
   obtain⟨j,_,hj,e⟩:=(fstAt_neg A (k:Int) i 0).1 h2;exact hd j (by omega) (by rw[e,h])
  rw[if_neg h1,if_pos h]at e;simp only[giveP];rw[e];refine⟨?_,?_⟩;·rw[if_pos (by omega),if_pos h]
  rw[if_pos (by omega),if_pos h,Int.toNat_natCast]
 ·by_cases h1:0≤fstAt A (k:Int) i 0
  ·rw[if_pos h1]at e
   simp only[giveP];rw[e,if_neg h,if_neg h];exact⟨rfl,rfl⟩
  rw[if_neg h1,if_neg h]at e;simp only[giveP];rw[e];refine⟨?_,?_⟩;·rw[if_neg (by decide),if_neg h,if_neg h1]
  rw[if_neg (by decide),if_neg h,if_neg h1]
end
end
end Go.Proofs.YtajmnlhfnhbleaaGreat
