/- Several texts of one proof, in their order. -/
import Derived.Test.YtajmnlhfnhbleaaGreatRSum15
namespace Go.Proofs.YtajmnlhfnhbleaaGreat
open Go.RowKit CurveMath
set_option linter.unusedVariables false
set_option maxHeartbeats 2000000
def dnX:Nat→Int:=fun i=>[(2:Int),2,2].getD i 0
def dnM:Ms:=⟨0,noB,3,freshP dnX⟩
def dn0:Nat→Int:=fun _=>0
def dnA:Nat→Int:=fun i=>[(1:Int),2].getD i 0
def dnB:Nat→Int:=fun i=>[(3:Int)].getD i 0
def dnC:Nat→Int:=fun i=>[(0:Int)].getD i 0
def dnL:List Hp:=[⟨1,0,0,2,dnA,0,dn0,1,2⟩,⟨2,0,0,0,dn0,0,dn0,0,0⟩,⟨2,0,0,0,dn0,0,dn0,0,0⟩,⟨6,0,0,0,dn0,0,dn0,0,0⟩,⟨3,0,0,0,dn0,0,dn0,0,0⟩,⟨5,2,0,0,dn0,0,dn0,0,0⟩,
 ⟨1,0,0,1,dnB,1,dnC,1,1⟩,⟨7,0,0,0,dn0,0,dn0,0,0⟩,⟨7,1,0,0,dn0,0,dn0,0,0⟩,⟨4,1,0,0,dn0,0,dn0,0,0⟩]
theorem dn_new:newE 3 dnX=0:=by decide +kernel
theorem dn_run:runE dnM 10=0:=by decide +kernel
theorem dn_said:runS dnM dnL=[0,0,6,0,0,0,0,6,0,0]:=by decide +kernel
theorem dn_end:(runM dnM dnL).n=2∧(runM dnM dnL).np=3∧(runM dnM dnL).P.m 1=0∧(runM dnM dnL).P.m 0=1∧1≤(runM dnM dnL).P.m 2∧1≤((runM dnM dnL).P.t 2).L 0∧((runM dnM dnL).P.t 2).X 0 0=2:=by decide +kernel
section
variable {P : Program} {D : World → Prop}
def depL(md:Region.Mode)(l:List Oper)(j:Nat):List Nat:=match l[j]? with
 |some o=>(o.after.toList.filter fun e=>Region.binds md e).map fun e=>e.on
 |none=>[]
def closL(md:Region.Mode)(l:List Oper):Nat→List Nat→List Nat
 |0,s=>s
 |f+1,s=>closL md l f (s++s.flatMap (depL md l)).eraseDups
def fullA(n1 m:Nat):Array Bool:=((List.range m).map fun i=>decide (i<n1)).toArray
def coverB(md:Region.Mode)(l:List Oper)(n1:Nat):Bool :=
 (List.range n1).all (fun j=>(depL md l j).all fun k=>decide (k<j)) &&
 (List.range l.length).all fun j=>decide (j<n1)||(depL md l j).any (fun k=>decide (n1≤k))||(List.range n1).all fun i=>(closL md l n1 (depL md l j)).contains i
theorem mem_ready{md:Region.Mode}{l:List Oper}{seen:Array Bool}{i:Nat}:i∈Region.ready md l.toArray seen↔i<l.length∧seen.getD i true=false∧∀k,k∈depL md l i→seen.getD k false=true:=by
 unfold Region.ready depL;rw[List.mem_filter,List.mem_range];simp only[List.size_toArray,List.getElem?_toArray,Bool.and_eq_true,Bool.not_eq_true'];constructor
 ·rintro⟨h1,h2,h3⟩
  refine⟨h1,h2,?_⟩;rw[List.getElem?_eq_getElem h1]at h3 ⊢;simp only[Option.map_some,Option.getD_some,Array.all_eq_true_iff_forall_mem,Bool.or_eq_true,Bool.not_eq_true']at h3;intro k hk;simp only[List.mem_map,List.mem_filter,Array.mem_toList_iff]at hk;obtain⟨e,⟨he,hb⟩,rfl⟩:=hk;rcases h3 e he with h4|h4;·rw[hb]at h4;cases h4
  exact h4
 rintro⟨h1,h2,h3⟩;refine⟨h1,h2,?_⟩;rw[List.getElem?_eq_getElem h1]at h3 ⊢;simp only[Option.map_some,Option.getD_some,Array.all_eq_true_iff_forall_mem,Bool.or_eq_true,Bool.not_eq_true'];intro e he;cases hb:Region.binds md e with
 |false=>exact Or.inl rfl
 |true=>exact Or.inr (h3 e.on (by simp only[List.mem_map,List.mem_filter,Array.mem_toList_iff];exact⟨e,⟨he,hb⟩,rfl⟩))
theorem closL_seen{md:Region.Mode}{l:List Oper}{s:Nat→Bool}(hc:∀j,s j=true→∀k,k∈depL md l j→s k=true):∀f (t:List Nat),(∀k,k∈t→s k=true)→∀k,k∈closL md l f t→s k=true:=by
 intro f;induction f with
 |zero=>intro t h;exact h
 |succ f ih =>
  intro t h;refine ih _ fun k hk=>?_;rw[List.mem_eraseDups,List.mem_append,List.mem_flatMap]at hk;rcases hk with hk|⟨j,hj,hk⟩;·exact h k hk
  exact hc j (h j hj) k hk
theorem getD_set{a:Array Bool}{i k:Nat}(h:i<a.size):(a.setIfInBounds i true).getD k false=if k=i then true else a.getD k false:=by
 by_cases e:k=i
 ·subst e
  rw[if_pos rfl];simp[Array.getD,h]
 rw[if_neg e];by_cases hk:k<a.size;·simp[Array.getD,hk,Ne.symm e]
 simp[Array.getD,hk]
theorem count_less{s:Nat→Bool}{i:Nat}:∀m,i<m→s i=false→(List.range m).countP (fun k => !(if k=i then true else s k))+1=(List.range m).countP fun k => !s k:=by
 intro m;induction m with
 |zero=>intro h;omega
 |succ m ih =>
  intro h hs;rw[List.range_succ,List.countP_append,List.countP_append];by_cases e:i=m
  ·subst e
   have h1:(List.range i).countP (fun k => !(if k=i then true else s k))=(List.range i).countP fun k => !s k:=List.countP_congr fun k hk=>by
    have:k≠i:=by have:=List.mem_range.1 hk;omega
    simp[this]
   rw[h1];simp[hs]
  have h2:=ih (by omega) hs;have h3:¬m=i:=fun h=>e h.symm;simp only[List.countP_cons,List.countP_nil,if_neg h3];omega
theorem anyM_inv{l:List Oper}{md:Region.Mode}{R:Act→World→Prop}(n1 f2:Nat)(I:(Nat→Bool)→Act→World→Prop)(hn:n1≤l.length)(hcov:coverB md l n1=true)
 (hstep:∀i,i<n1→∀s a w,I s a w→s i=false→(∀k,k∈depL md l i→s k=true)→∃o,l[i]?=some o∧∀K:Act→World→Prop,(∀a'' w'',D w''→I (fun k=>if k=i then true else s k) a'' w''→K a'' w'')→wpList P l.toArray (endN K) [o] a w)
 (hdone:∀s a w,I s a w→(∀i,i<n1→s i=true)→anyM P md l.toArray D R f2 (fullA n1 l.length) a w) :
 ∀f (seen:Array Bool) a w,I (fun k=>seen.getD k false) a w→seen.size=l.length→(∀j,n1≤j→seen.getD j false=false)→(∀j,seen.getD j false=true→∀k,k∈depL md l j→seen.getD k false=true) →
  (List.range n1).countP (fun i => !seen.getD i false)=f→anyM P md l.toArray D R (f+f2) seen a w:=by
 unfold coverB at hcov
 rw[Bool.and_eq_true,List.all_eq_true,List.all_eq_true]at hcov
 obtain⟨hord,hcv⟩:=hcov
 intro f
 induction f with
 |zero =>
  intro seen a w hI hs hr hc hf;have hall:∀i,i<n1→seen.getD i false=true:=fun i hi=>by
   have h0:=List.countP_eq_zero.1 hf i (List.mem_range.2 hi);simpa using h0
  have he:seen=fullA n1 l.length:=by
   refine Array.ext (by unfold fullA;simp[hs]) fun i h1 h2=>?_;have h3:seen[i]=seen.getD i false:=by simp[Array.getD,h1]
   have h4:(fullA n1 l.length)[i]=decide (i<n1):=by
    simp only[fullA,List.getElem_toArray,List.getElem_map,List.getElem_range]
   rw[h3,h4];by_cases hi:i<n1;·rw[hall i hi,decide_eq_true hi]
   rw[hr i (by omega),decide_eq_false hi]
  rw[Nat.zero_add,he];rw[he]at hI hall;exact hdone _ a w hI hall
 |succ f ih =>
  intro seen a w hI hs hr hc hf;have hex:∃i,i<n1∧seen.getD i false=false:=by
   refine Classical.byContradiction fun hno=>?_;have h0:(List.range n1).countP (fun i => !seen.getD i false)=0:=List.countP_eq_zero.2 fun i hi=>by
    intro h;exact hno ⟨i,List.mem_range.1 hi,by simpa using h⟩
   omega
  have htrue:∀i,i<l.length→seen.getD i false=false→seen.getD i true=false:=fun i hi h=>by
   have h9:i<seen.size:=by omega
   simp only[Array.getD,h9,dif_pos]at h ⊢;exact h
  have hrd:Region.ready md l.toArray seen≠[]:=by
   have hmin:∀m i,i≤m→i<n1→seen.getD i false=false→∃j,j∈Region.ready md l.toArray seen:=by
    intro m;induction m with
    |zero =>
     intro i hi h1 h2;obtain rfl:i=0:=by omega
     refine⟨0,mem_ready.2 ⟨by omega,htrue 0 (by omega) h2,fun k hk=>?_⟩⟩;have h3:=of_decide_eq_true (List.all_eq_true.1 (hord 0 (List.mem_range.2 h1)) k hk);omega
    |succ m ihm =>
     intro i hi h1 h2;rcases Classical.em (∀k,k∈depL md l i→seen.getD k false=true)with h3|h3;·exact⟨i,mem_ready.2 ⟨by omega,htrue i (by omega) h2,h3⟩⟩
     obtain⟨k,hk⟩:=Classical.not_forall.1 h3;obtain⟨hk1,hk2⟩:=Classical.not_imp.1 hk;have h4:=of_decide_eq_true (List.all_eq_true.1 (hord i (List.mem_range.2 h1)) k hk1);exact ihm k (by omega) (by omega) (by simpa using hk2)
   obtain⟨i,h1,h2⟩:=hex;obtain⟨j,hj⟩:=hmin i i (Nat.le_refl _) h1 h2;exact List.ne_nil_of_mem hj
  rw[show f+1+f2=f+f2+1 by omega];refine anyM_pick (Region.ready md l.toArray seen) rfl hrd fun i hi=>?_;obtain⟨h1,h2,h3⟩:=mem_ready.1 hi;have h2':seen.getD i false=false:=by
   have h9:i<seen.size:=by omega
   simp only[Array.getD,h9,dif_pos]at h2 ⊢;exact h2
  have hin:i<n1:=by
   refine Classical.byContradiction fun hge=>?_;have h4:=hcv i (List.mem_range.2 h1);rw[Bool.or_eq_true,Bool.or_eq_true]at h4;rcases h4 with(h4|h4)|h4;·exact hge (of_decide_eq_true h4)
   ·obtain⟨k,hk1,hk2⟩:=List.any_eq_true.1 h4
    have h5:=h3 k hk1;rw[hr k (of_decide_eq_true hk2)]at h5;cases h5
   obtain⟨j,hj1,hj2⟩:=hex;have h5:=List.all_eq_true.1 h4 j (List.mem_range.2 hj1);have h6:=closL_seen (s:=fun k=>seen.getD k false) hc n1 (depL md l i) h3 j (List.contains_iff_mem.1 h5);rw[hj2]at h6;cases h6
  obtain⟨o,ho,hk⟩:=hstep i hin _ a w hI h2' h3;refine⟨o,ho,fun K hK=>hk K fun a'' w'' hD hI'=>hK a'' w'' hD (ih (seen.setIfInBounds i true) a'' w'' ?_ (by simp[hs]) (fun j hj=>?_) (fun j hj k hkd=>?_) ?_)⟩
  ·have e:(fun k=>(seen.setIfInBounds i true).getD k false)=fun k=>if k=i then true else seen.getD k false:=funext fun k=>getD_set (by omega)
   rw[e];exact hI'
  ·rw[getD_set (by omega),if_neg (by omega)]
   exact hr j hj
  ·rw[getD_set (by omega)]at hj ⊢
   by_cases e:k=i;·rw[if_pos e]
   rw[if_neg e];by_cases e2:j=i;·subst e2;exact h3 k hkd
   rw[if_neg e2]at hj;exact hc j hj k hkd
  have e:(List.range n1).countP (fun k => !(seen.setIfInBounds i true).getD k false)=(List.range n1).countP fun k => !(if k=i then true else seen.getD k false):=List.countP_congr fun k _=>by rw[getD_set (by omega)]
  have h9:=count_less (s:=fun k=>seen.getD k false) n1 hin h2';rw[e];omega
theorem region_inv{id:Nat}{Q:Exit→Act→World→Prop}{a:Act}{w:World}{l:List Oper}(n1 f2:Nat)(D:World→Prop)(I:(Nat→Bool)→Act→World→Prop)(hm:P.follows .mixedOrders=true)(hn:n1+f2=l.length)(hcov:coverB .any l n1=true)
 (hI:I (fun _=>false) a w.drew)
 (hstep:∀i,i<n1→∀s a w,I s a w→s i=false→(∀k,k∈depL .any l i→s k=true)→∃o,l[i]?=some o∧∀K:Act→World→Prop,(∀a'' w'',D w''→I (fun k=>if k=i then true else s k) a'' w''→K a'' w'')→wpList P l.toArray (endN K) [o] a w)
 (hdone:∀s a w,I s a w→(∀i,i<n1→s i=true)→anyM P .any l.toArray D (fun a' w'=>Q .normal a' w') f2 (fullA n1 l.length) a w):(Code.region id l.toArray true).wp P Q a w:=by
 refine region_tree D hm ?_
 have hfalse:∀k,(Array.replicate l.length false).getD k false=false:=fun k=>by
  simp only[Array.getD];split;·simp
  rfl
 have h:=anyM_inv (R:=fun a' w'=>Q .normal a' w') n1 f2 I (by omega) hcov hstep hdone n1 (Array.replicate l.length false) a w.drew (by
  have e:(fun k=>(Array.replicate l.length false).getD k false)=fun _=>false:=funext hfalse;rw[e];exact hI) (by simp) (fun j _=>hfalse j) (fun j hj=>by rw[hfalse j]at hj;cases hj) (by
  have e:(fun i => !(Array.replicate l.length false).getD i false)=fun _=>true:=funext fun k=>by rw[hfalse k];rfl
  rw[e];simp)
 rw[hn]at h
 exact h
end
theorem equal_errs{w:World}{v1 v2:Value}{n m:Nat}{X Y:Nat→Int}(h1:IntSl w w.heap.size v1 n X)(h2:IntSl w w.heap.size v2 m Y):
 Calls Tryz.prog 23 #[v1,v2] w fun e w'=>e=.returned (.bool (eqB n m X Y))∧Below w.heap.size w w':=by
 obtain⟨a1,c1,rfl,_,hx⟩:=h1
 obtain⟨a2,c2,rfl,_,hy⟩:=h2
 have HX:=hid hx
 have HY:=hid hy
 clear hx hy
 obtain⟨eb,heb⟩:∃q,eqB n m X Y=q:=⟨_,rfl⟩
 rw[heb]
 have HEb:=hid heb
 clear heb
 by_cases hnm:n=m
 ·subst hnm
  have hbn:((n:Int) != (n:Int))=false:=by simp
  go_enter Tryz.func23,Tryz.ntmps23;go_wp2;go_loopw [13] (fun iv wr=>∃j:Nat,j≤n∧iv=.int .i64 j∧Hid (∀i,i<j→X i=Y i)∧Hid (Below w.heap.size w wr)) (fun iv _=>n-(intOf iv).toNat)
  case atStart=>exact⟨0,Nat.zero_le _,rfl,fun i hi=>absurd hi (Nat.not_lt_zero _),Below.refl _ _⟩
  case round =>
   obtain⟨j,hj,rfl,HS,HB⟩:=hrel;by_cases hlt:j<n
   ·have hji:(j:Int)<(n:Int):=by omega
    rcases HX.out with h0|⟨b1,o1,rfl,hb1,hx⟩;·omega
    rcases HY.out with h0|⟨b2,o2,rfl,hb2,hy⟩;·omega
    have q1:=hx j hlt;have q2:=hy j hlt;obtain⟨x,hxe⟩:∃x,X j=x:=⟨_,rfl⟩;obtain⟨y,hye⟩:∃y,Y j=y:=⟨_,rfl⟩;rw[hxe]at q1;rw[hye]at q2;have HXe:=hid hxe;have HYe:=hid hye;have HD:Hid (∀k,Below wr.heap.size wr (wr.drewN k)):=fun k=>⟨rfl,rfl,rfl,Nat.le_refl _,fun _ _=>rfl⟩;have c1:wr.cell? ⟨b1,o1+j,none⟩=some (.int .i64 x):=by rw[HB.out.cell hb1];exact q1
    have c2:wr.cell? ⟨b2,o2+j,none⟩=some (.int .i64 y):=by rw[HB.out.cell hb2];exact q2
    clear hx hy q1 q2 hxe hye;by_cases hxy:x=y
    ·subst hxy
     have hb:(x != x)=false:=by simp
     have HS2:Hid (∀i,i<j+1→X i=Y i):=fun i hi=>by
      by_cases e:i=j;·rw[e,HXe.out,HYe.out]
      exact HS.out i (by omega)
     go_wp2_with fail
     go_quiet (fail);go_wp2;go_roundw
     case rel=>exact⟨j+1,by omega,by go_num,HS2,HB.out.trans ((HD.out nq).mono HB.out.size)⟩
     case measure=>simp only[intOf];omega
    have hb:(x != y)=true:=by simpa using hxy
    have he:Hid (eb=false):=by
     show eb=false;rw[←HEb.out];exact decide_eq_false fun h=>hxy (by rw[←HXe.out,←HYe.out];exact h.2 j hlt)
    clear hxy;go_wp2_with fail
    go_quiet (fail);go_wp2;go_ret;exact⟨by rw[he.out];rfl,HB.out.trans ((HD.out nq).mono HB.out.size)⟩
   have hje:n=j:=by omega
   subst hje;have hjn:¬(n:Int)<(n:Int):=by omega
   have he:Hid (eb=true):=by
    show eb=true;rw[←HEb.out];exact decide_eq_true ⟨rfl,fun i hi=>HS.out i hi⟩
   go_wp2;go_ret;exact⟨by rw[he.out];rfl,HB.out⟩
 ·have he:eb=false:=by
   rw[←HEb.out];exact decide_eq_false fun h=>hnm h.1
  subst he;have hbn:((n:Int) != (m:Int))=true:=by simp;omega
  go_enter Tryz.func23,Tryz.ntmps23;go_wp2;go_ret;exact⟨rfl,Below.refl _ _⟩
end Go.Proofs.YtajmnlhfnhbleaaGreat
