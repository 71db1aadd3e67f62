/- Several texts of one proof, in their order. -/
import Derived.Test.YtajmnlhfnhbleaaGreatKw12
namespace Go.Proofs.YtajmnlhfnhbleaaGreat
open Go.RowKit CurveMath
set_option linter.unusedVariables false
section
def hapV(x:Hp)(vd vp:Value):Value:=.agg #[.int .i64 x.kd,.int .i64 x.N,.int .i64 x.M,vd,vp,.int .i64 x.need,.int .i64 x.of]
def HpAt(w:World)(B:Nat)(x:Hp)(vd vp:Value):Prop:=IntSl w B vd x.len x.D∧IntSl w B vp x.lp x.X
def HpSl(w:World)(B:Nat)(v:Value)(n:Nat)(DV QV:Nat→Value)(H:Nat→Hp):Prop :=
 ∃(ad:Option Addr) (cap:Nat),v=.slice ad n cap∧(n≤cap∧n*88≤140737488351232)∧(n=0∨∃bl off,ad=some ⟨bl,off,none⟩∧bl<B∧∀j,j<n →
  (w.cell? ⟨bl,off+j*7,none⟩=some (.int .i64 (H j).kd)∧w.cell? ⟨bl,off+j*7+1,none⟩=some (.int .i64 (H j).N)∧w.cell? ⟨bl,off+j*7+2,none⟩=some (.int .i64 (H j).M)∧w.cell? ⟨bl,off+j*7+3,none⟩=some (DV j) ∧
   w.cell? ⟨bl,off+j*7+4,none⟩=some (QV j)∧w.cell? ⟨bl,off+j*7+5,none⟩=some (.int .i64 (H j).need)∧w.cell? ⟨bl,off+j*7+6,none⟩=some (.int .i64 (H j).of))∧HpAt w B (H j) (DV j) (QV j))
section
variable {w w' : World} {B B' : Nat} {v : Value} {n : Nat} {DV QV : Nat → Value} {H : Nat → Hp} {x : Hp} {vd vp : Value}
theorem HpAt.below(h:HpAt w B x vd vp)(hb:Below B w w'):HpAt w' B x vd vp:=⟨h.1.below hb,h.2.below hb⟩
theorem HpAt.mono(h:HpAt w B x vd vp)(hb:B≤B'):HpAt w B' x vd vp:=⟨h.1.mono hb,h.2.mono hb⟩
theorem HpAt.up(h:HpAt w w.heap.size x vd vp)(hb:Below w.heap.size w w'):HpAt w' w'.heap.size x vd vp:=(h.below hb).mono hb.size
theorem HpSl.below(h:HpSl w B v n DV QV H)(hb:Below B w w'):HpSl w' B v n DV QV H:=by
 obtain⟨ad,cap,h1,h0,h2⟩:=h;refine⟨ad,cap,h1,h0,?_⟩;rcases h2 with h2|⟨bl,off,h3,h4,h5⟩;·exact Or.inl h2
 refine Or.inr ⟨bl,off,h3,h4,fun j hj=>?_⟩;obtain⟨⟨g0,g1,g2,g3,g4,g5,g6⟩,g7⟩:=h5 j hj;exact⟨⟨by rw[hb.cell h4];exact g0,by rw[hb.cell h4];exact g1,by rw[hb.cell h4];exact g2,by rw[hb.cell h4];exact g3,by rw[hb.cell h4];exact g4,by rw[hb.cell h4];exact g5,by rw[hb.cell h4];exact g6⟩,g7.below hb⟩
theorem HpSl.mono(h:HpSl w B v n DV QV H)(hb:B≤B'):HpSl w B' v n DV QV H:=by
 obtain⟨ad,cap,h1,h0,h2⟩:=h;refine⟨ad,cap,h1,h0,?_⟩;rcases h2 with h2|⟨bl,off,h3,h4,h5⟩;·exact Or.inl h2
 exact Or.inr ⟨bl,off,h3,by omega,fun j hj=>⟨(h5 j hj).1,(h5 j hj).2.mono hb⟩⟩
theorem HpSl.up(h:HpSl w w.heap.size v n DV QV H)(hb:Below w.heap.size w w'):HpSl w' w'.heap.size v n DV QV H:=(h.below hb).mono hb.size
theorem HpSl.at{a:Option Addr}{c:Nat}(h:HpSl w B (.slice a n c) n DV QV H){j:Nat}(hj:j<n):
 ∃bl off,a=some ⟨bl,off,none⟩∧bl<B∧(w.cell? ⟨bl,off+j*7,none⟩=some (.int .i64 (H j).kd)∧w.cell? ⟨bl,off+j*7+1,none⟩=some (.int .i64 (H j).N)∧w.cell? ⟨bl,off+j*7+2,none⟩=some (.int .i64 (H j).M)∧w.cell? ⟨bl,off+j*7+3,none⟩=some (DV j) ∧
  w.cell? ⟨bl,off+j*7+4,none⟩=some (QV j)∧w.cell? ⟨bl,off+j*7+5,none⟩=some (.int .i64 (H j).need)∧w.cell? ⟨bl,off+j*7+6,none⟩=some (.int .i64 (H j).of))∧HpAt w B (H j) (DV j) (QV j):=by
 obtain⟨ad,cap,e,_,h2⟩:=h
 injection e with e1
 subst e1
 rcases h2 with h2|⟨bl,off,rfl,h4,h5⟩
 ·omega
 ·exact⟨bl,off,rfl,h4,(h5 j hj).1,(h5 j hj).2⟩
theorem HpSl.front(h:HpSl w B v n DV QV H){k:Nat}(hk:k≤n):∃ad cap,v=.slice ad n cap∧HpSl w B (.slice ad k cap) k DV QV H:=by
 obtain⟨ad,cap,h1,⟨h0,hr⟩,h2⟩:=h;refine⟨ad,cap,h1,ad,cap,rfl,⟨by omega,by omega⟩,?_⟩;rcases h2 with h2|⟨bl,off,h3,h4,h5⟩;·exact Or.inl (by omega)
 exact Or.inr ⟨bl,off,h3,h4,fun j hj=>h5 j (by omega)⟩
theorem HpSl.back{a:Option Addr}{c:Nat}(h:HpSl w B (.slice a n c) n DV QV H){k:Nat}(hk:k<n):∃bl off,a=some ⟨bl,off,none⟩∧HpSl w B (.slice (some ⟨bl,off+k*7,none⟩) (n-k) (c-k)) (n-k) (fun j=>DV (k+j)) (fun j=>QV (k+j)) (fun j=>H (k+j)):=by
 obtain⟨ad,cap,e,⟨h0,hr⟩,h2⟩:=h;injection e with e1 _ e3;subst e1 e3;rcases h2 with h2|⟨bl,off,rfl,h4,h5⟩;·omega
 refine⟨bl,off,rfl,_,_,rfl,⟨by omega,by omega⟩,Or.inr ⟨bl,off+k*7,rfl,h4,fun j hj=>?_⟩⟩;have e9:off+k*7+j*7=off+(k+j)*7:=by omega
 rw[e9];exact h5 (k+j) (by omega)
end
def hapL(H:Nat→Hp)(n:Nat):List Hp:=(List.range n).map H
theorem hapL_succ(H:Nat→Hp)(n:Nat):hapL H (n+1)=hapL H n++[H n]:=by unfold hapL;rw[List.range_succ,List.map_append];rfl
theorem hapL_len(H:Nat→Hp)(n:Nat):(hapL H n).length=n:=by unfold hapL;simp
def MsPost(w:World)(er:Int)(m:Ms)(e:Ending)(w':World):Prop:=MeshPost w er m.n m.b m.np m.P e w'
def RunPost(w:World)(er:Int)(m:Ms)(said:List Int)(e:Ending)(w':World):Prop :=
 Below w.heap.size w w'∧∃(vb vl vo:Value) (n' np' k:Nat) (PV KV:Nat→Value) (UV:Nat→Nat→Value),e=.returned (.tuple #[meshV vb vl,vo,.int .i64 er])∧n'=(if er=0 then m.n else 0)∧np'=(if er=0 then m.np else 0)∧k=(if er=0 then said.length else 0) ∧
  VeSl w' w'.heap.size vb n' PV m.b∧PsSl w' w'.heap.size vl np' KV UV m.P∧IntSl w' w'.heap.size vo k (fun j=>said.getD j 0)
structure WorldOwes:Prop where
 does:∀(vb:Value) (n:Nat) (PV:Nat→Value) (b:Bk) (vl:Value) (np:Nat) (KV:Nat→Value) (UV:Nat→Nat→Value) (P:Ps) (x:Hp) (vd vp:Value) (w:World),VeSl w w.heap.size vb n PV b→PsSl w w.heap.size vl np KV UV P→HpAt w w.heap.size x vd vp →
  Calls Tryz.prog 12 #[meshV vb vl,hapV x vd vp] w (MsPost w (doE ⟨n,b,np,P⟩ x) (happM ⟨n,b,np,P⟩ x))
 run:∀(vb:Value) (n:Nat) (PV:Nat→Value) (b:Bk) (vl:Value) (np:Nat) (KV:Nat→Value) (UV:Nat→Nat→Value) (P:Ps) (vs:Value) (len:Nat) (DV QV:Nat→Value) (H:Nat→Hp) (w:World),VeSl w w.heap.size vb n PV b→PsSl w w.heap.size vl np KV UV P→HpSl w w.heap.size vs len DV QV H →
  Calls Tryz.prog 22 #[meshV vb vl,vs] w (RunPost w (runE ⟨n,b,np,P⟩ len) (runM ⟨n,b,np,P⟩ (hapL H len)) (runS ⟨n,b,np,P⟩ (hapL H len)))
end
section
variable {P : Program} {D : World → Prop}
def depL(md:Region.Mode)(l:List Oper)(j:Nat):List Nat:=match l[j]? with
 |some o=>(o.after.toList.filter fun e=>Region.binds md e).map fun e=>e.on
 |none=>[]
def closL(md:Region.Mode)(l:List Oper):Nat→List Nat→List Nat
 |0,s=>s
 |f+1,s=>closL md l f (s++s.flatMap (depL md l)).eraseDups
def fullA(n1 m:Nat):Array Bool:=((List.range m).map fun i=>decide (i<n1)).toArray
def coverB(md:Region.Mode)(l:List Oper)(n1:Nat):Bool :=
 (List.range n1).all (fun j=>(depL md l j).all fun k=>decide (k<j)) &&
 (List.range l.length).all fun j=>decide (j<n1)||(depL md l j).any (fun k=>decide (n1≤k))||(List.range n1).all fun i=>(closL md l n1 (depL md l j)).contains i
theorem mem_ready{md:Region.Mode}{l:List Oper}{seen:Array Bool}{i:Nat}:i∈Region.ready md l.toArray seen↔i<l.length∧seen.getD i true=false∧∀k,k∈depL md l i→seen.getD k false=true:=by
 unfold Region.ready depL;rw[List.mem_filter,List.mem_range];simp only[List.size_toArray,List.getElem?_toArray,Bool.and_eq_true,Bool.not_eq_true'];constructor
 ·rintro⟨h1,h2,h3⟩
  refine⟨h1,h2,?_⟩;rw[List.getElem?_eq_getElem h1]at h3 ⊢;simp only[Option.map_some,Option.getD_some,Array.all_eq_true_iff_forall_mem,Bool.or_eq_true,Bool.not_eq_true']at h3;intro k hk;simp only[List.mem_map,List.mem_filter,Array.mem_toList_iff]at hk;obtain⟨e,⟨he,hb⟩,rfl⟩:=hk;rcases h3 e he with h4|h4;·rw[hb]at h4;cases h4
  exact h4
 rintro⟨h1,h2,h3⟩;refine⟨h1,h2,?_⟩;rw[List.getElem?_eq_getElem h1]at h3 ⊢;simp only[Option.map_some,Option.getD_some,Array.all_eq_true_iff_forall_mem,Bool.or_eq_true,Bool.not_eq_true'];intro e he;cases hb:Region.binds md e with
 |false=>exact Or.inl rfl
 |true=>exact Or.inr (h3 e.on (by simp only[List.mem_map,List.mem_filter,Array.mem_toList_iff];exact⟨e,⟨he,hb⟩,rfl⟩))
theorem closL_seen{md:Region.Mode}{l:List Oper}{s:Nat→Bool}(hc:∀j,s j=true→∀k,k∈depL md l j→s k=true):∀f (t:List Nat),(∀k,k∈t→s k=true)→∀k,k∈closL md l f t→s k=true:=by
 intro f;induction f with
 |zero=>intro t h;exact h
 |succ f ih =>
  intro t h;refine ih _ fun k hk=>?_;rw[List.mem_eraseDups,List.mem_append,List.mem_flatMap]at hk;rcases hk with hk|⟨j,hj,hk⟩;·exact h k hk
  exact hc j (h j hj) k hk
theorem getD_set{a:Array Bool}{i k:Nat}(h:i<a.size):(a.setIfInBounds i true).getD k false=if k=i then true else a.getD k false:=by
 by_cases e:k=i
 ·subst e
  rw[if_pos rfl];simp[Array.getD,h]
 rw[if_neg e];by_cases hk:k<a.size;·simp[Array.getD,hk,Ne.symm e]
 simp[Array.getD,hk]
theorem count_less{s:Nat→Bool}{i:Nat}:∀m,i<m→s i=false→(List.range m).countP (fun k => !(if k=i then true else s k))+1=(List.range m).countP fun k => !s k:=by
 intro m;induction m with
 |zero=>intro h;omega
 |succ m ih =>
  intro h hs;rw[List.range_succ,List.countP_append,List.countP_append];by_cases e:i=m
  ·subst e
   have h1:(List.range i).countP (fun k => !(if k=i then true else s k))=(List.range i).countP fun k => !s k:=List.countP_congr fun k hk=>by
    have:k≠i:=by have:=List.mem_range.1 hk;omega
    simp[this]
   rw[h1];simp[hs]
  have h2:=ih (by omega) hs;have h3:¬m=i:=fun h=>e h.symm;simp only[List.countP_cons,List.countP_nil,if_neg h3];omega
theorem anyM_inv{l:List Oper}{md:Region.Mode}{R:Act→World→Prop}(n1 f2:Nat)(I:(Nat→Bool)→Act→World→Prop)(hn:n1≤l.length)(hcov:coverB md l n1=true)
 (hstep:∀i,i<n1→∀s a w,I s a w→s i=false→(∀k,k∈depL md l i→s k=true)→∃o,l[i]?=some o∧∀K:Act→World→Prop,(∀a'' w'',D w''→I (fun k=>if k=i then true else s k) a'' w''→K a'' w'')→wpList P l.toArray (endN K) [o] a w)
 (hdone:∀s a w,I s a w→(∀i,i<n1→s i=true)→anyM P md l.toArray D R f2 (fullA n1 l.length) a w) :
 ∀f (seen:Array Bool) a w,I (fun k=>seen.getD k false) a w→seen.size=l.length→(∀j,n1≤j→seen.getD j false=false)→(∀j,seen.getD j false=true→∀k,k∈depL md l j→seen.getD k false=true) →
  (List.range n1).countP (fun i => !seen.getD i false)=f→anyM P md l.toArray D R (f+f2) seen a w:=by
 unfold coverB at hcov
 rw[Bool.and_eq_true,List.all_eq_true,List.all_eq_true]at hcov
 obtain⟨hord,hcv⟩:=hcov
 intro f
 induction f with
 |zero =>
  intro seen a w hI hs hr hc hf;have hall:∀i,i<n1→seen.getD i false=true:=fun i hi=>by
   have h0:=List.countP_eq_zero.1 hf i (List.mem_range.2 hi);simpa using h0
  have he:seen=fullA n1 l.length:=by
   refine Array.ext (by unfold fullA;simp[hs]) fun i h1 h2=>?_;have h3:seen[i]=seen.getD i false:=by simp[Array.getD,h1]
   have h4:(fullA n1 l.length)[i]=decide (i<n1):=by
    simp only[fullA,List.getElem_toArray,List.getElem_map,List.getElem_range]
   rw[h3,h4];by_cases hi:i<n1;·rw[hall i hi,decide_eq_true hi]
   rw[hr i (by omega),decide_eq_false hi]
  rw[Nat.zero_add,he];rw[he]at hI hall;exact hdone _ a w hI hall
 |succ f ih =>
  intro seen a w hI hs hr hc hf;have hex:∃i,i<n1∧seen.getD i false=false:=by
   refine Classical.byContradiction fun hno=>?_;have h0:(List.range n1).countP (fun i => !seen.getD i false)=0:=List.countP_eq_zero.2 fun i hi=>by
    intro h;exact hno ⟨i,List.mem_range.1 hi,by simpa using h⟩
   omega
  have htrue:∀i,i<l.length→seen.getD i false=false→seen.getD i true=false:=fun i hi h=>by
   have h9:i<seen.size:=by omega
   simp only[Array.getD,h9,dif_pos]at h ⊢;exact h
  have hrd:Region.ready md l.toArray seen≠[]:=by
   have hmin:∀m i,i≤m→i<n1→seen.getD i false=false→∃j,j∈Region.ready md l.toArray seen:=by
    intro m;induction m with
    |zero =>
     intro i hi h1 h2;obtain rfl:i=0:=by omega
     refine⟨0,mem_ready.2 ⟨by omega,htrue 0 (by omega) h2,fun k hk=>?_⟩⟩;have h3:=of_decide_eq_true (List.all_eq_true.1 (hord 0 (List.mem_range.2 h1)) k hk);omega
    |succ m ihm =>
     intro i hi h1 h2;rcases Classical.em (∀k,k∈depL md l i→seen.getD k false=true)with h3|h3;·exact⟨i,mem_ready.2 ⟨by omega,htrue i (by omega) h2,h3⟩⟩
     obtain⟨k,hk⟩:=Classical.not_forall.1 h3;obtain⟨hk1,hk2⟩:=Classical.not_imp.1 hk;have h4:=of_decide_eq_true (List.all_eq_true.1 (hord i (List.mem_range.2 h1)) k hk1);exact ihm k (by omega) (by omega) (by simpa using hk2)
   obtain⟨i,h1,h2⟩:=hex;obtain⟨j,hj⟩:=hmin i i (Nat.le_refl _) h1 h2;exact List.ne_nil_of_mem hj
  rw[show f+1+f2=f+f2+1 by omega];refine anyM_pick (Region.ready md l.toArray seen) rfl hrd fun i hi=>?_;obtain⟨h1,h2,h3⟩:=mem_ready.1 hi;have h2':seen.getD i false=false:=by
   have h9:i<seen.size:=by omega
   simp only[Array.getD,h9,dif_pos]at h2 ⊢;exact h2
  have hin:i<n1:=by
   refine Classical.byContradiction fun hge=>?_;have h4:=hcv i (List.mem_range.2 h1);rw[Bool.or_eq_true,Bool.or_eq_true]at h4;rcases h4 with(h4|h4)|h4;·exact hge (of_decide_eq_true h4)
   ·obtain⟨k,hk1,hk2⟩:=List.any_eq_true.1 h4
    have h5:=h3 k hk1;rw[hr k (of_decide_eq_true hk2)]at h5;cases h5
   obtain⟨j,hj1,hj2⟩:=hex;have h5:=List.all_eq_true.1 h4 j (List.mem_range.2 hj1);have h6:=closL_seen (s:=fun k=>seen.getD k false) hc n1 (depL md l i) h3 j (List.contains_iff_mem.1 h5);rw[hj2]at h6;cases h6
  obtain⟨o,ho,hk⟩:=hstep i hin _ a w hI h2' h3;refine⟨o,ho,fun K hK=>hk K fun a'' w'' hD hI'=>hK a'' w'' hD (ih (seen.setIfInBounds i true) a'' w'' ?_ (by simp[hs]) (fun j hj=>?_) (fun j hj k hkd=>?_) ?_)⟩
  ·have e:(fun k=>(seen.setIfInBounds i true).getD k false)=fun k=>if k=i then true else seen.getD k false:=funext fun k=>getD_set (by omega)
   rw[e];exact hI'
  ·rw[getD_set (by omega),if_neg (by omega)]
   exact hr j hj
  ·rw[getD_set (by omega)]at hj ⊢
   by_cases e:k=i;·rw[if_pos e]
   rw[if_neg e];by_cases e2:j=i;·subst e2;exact h3 k hkd
   rw[if_neg e2]at hj;exact hc j hj k hkd
  have e:(List.range n1).countP (fun k => !(seen.setIfInBounds i true).getD k false)=(List.range n1).countP fun k => !(if k=i then true else seen.getD k false):=List.countP_congr fun k _=>by rw[getD_set (by omega)]
  have h9:=count_less (s:=fun k=>seen.getD k false) n1 hin h2';rw[e];omega
theorem region_inv{id:Nat}{Q:Exit→Act→World→Prop}{a:Act}{w:World}{l:List Oper}(n1 f2:Nat)(D:World→Prop)(I:(Nat→Bool)→Act→World→Prop)(hm:P.follows .mixedOrders=true)(hn:n1+f2=l.length)(hcov:coverB .any l n1=true)
 (hI:I (fun _=>false) a w.drew)
 (hstep:∀i,i<n1→∀s a w,I s a w→s i=false→(∀k,k∈depL .any l i→s k=true)→∃o,l[i]?=some o∧∀K:Act→World→Prop,(∀a'' w'',D w''→I (fun k=>if k=i then true else s k) a'' w''→K a'' w'')→wpList P l.toArray (endN K) [o] a w)
 (hdone:∀s a w,I s a w→(∀i,i<n1→s i=true)→anyM P .any l.toArray D (fun a' w'=>Q .normal a' w') f2 (fullA n1 l.length) a w):(Code.region id l.toArray true).wp P Q a w:=by
 refine region_tree D hm ?_
 have hfalse:∀k,(Array.replicate l.length false).getD k false=false:=fun k=>by
  simp only[Array.getD];split;·simp
  rfl
 have h:=anyM_inv (R:=fun a' w'=>Q .normal a' w') n1 f2 I (by omega) hcov hstep hdone n1 (Array.replicate l.length false) a w.drew (by
  have e:(fun k=>(Array.replicate l.length false).getD k false)=fun _=>false:=funext hfalse;rw[e];exact hI) (by simp) (fun j _=>hfalse j) (fun j hj=>by rw[hfalse j]at hj;cases hj) (by
  have e:(fun i => !(Array.replicate l.length false).getD i false)=fun _=>true:=funext fun k=>by rw[hfalse k];rfl
  rw[e];simp)
 rw[hn]at h
 exact h
end
def wX:Nat→Int:=fun i=>[(2:Int),2,2,2,2].getD i 0
def wD:Nat→Int:=fun i=>[(5:Int),7,9].getD i 0
def w0:Nat→Int:=fun _=>0
def wB:Bk:=saveB 0 noB 2 4 3 0 w0
def wP(t0:Bool)(x:Int):Ps:=⟨fun k=>if k=0 then t0 else true,fun _=>2,fun k=>if k<4 then 1 else 0,fun k=>⟨fun _=>0,fun _=>(k:Int),fun _=>2,fun _ r=>if k=1∧r=0 then x else([[(5:Int),9],[7,0],[9,22],[11,13]].getD k []).getD r 0⟩⟩
theorem cell_set_lit{w:World}{g o g' o':Nat}(h:g'≠g∨o'≠o)(u:Value):(w.setCell ⟨g,o,none⟩ u).cell? ⟨g',o',none⟩=w.cell? ⟨g',o',none⟩:=by
 by_cases hg:g'=g
 ·subst hg
  have ho:o'≠o:=by rcases h with h|h;exact absurd rfl h;exact h
  unfold World.cell? World.setCell;simp only[Array.getElem?_modify];cases hb:w.heap[g']? with
  |none=>simp
  |some x =>
   cases x<;>simp[Array.getElem?_setIfInBounds_ne (Ne.symm ho)]
 exact World.cell?_of_block (Below.heap_setCell _ _ _ _ (by show g'≠g;exact hg))
theorem cell_set_same{w:World}{g o:Nat}{v:Value}(h:w.cell? ⟨g,o,none⟩=some v)(u:Value):(w.setCell ⟨g,o,none⟩ u).cell? ⟨g,o,none⟩=some u:=by
 unfold World.cell? at h;unfold World.cell? World.setCell;simp only[Array.getElem?_modify];cases hb:w.heap[g]? with
 |none=>rw[hb]at h;simp at h
 |some x =>
  rw[hb]at h;cases x with
  |cells c e f =>
   simp at h;have ho:o<c.size:=(Array.getElem?_eq_some_iff.1 h).1;simp[ho]
  |_=>simp at h
theorem world_eq{w w':World}(h1:w'.heap=w.heap)(h2:w'.tape=w.tape)(h3:w'.drawn=w.drawn)(h4:w'.os=w.os)(h5:w'.output=w.output):w'=w:=by
 cases w';cases w;simp_all
theorem setCell_same{w:World}{g o:Nat}{u:Value}(h:w.cell? ⟨g,o,none⟩=some u):w.setCell ⟨g,o,none⟩ u=w:=by
 refine world_eq ?_ rfl rfl rfl rfl;unfold World.cell? at h;unfold World.setCell;apply Array.ext_getElem?;intro i;simp only[Array.getElem?_modify];by_cases hi:g=i
 ·subst hi
  rw[if_pos rfl];cases hb:w.heap[g]? with
  |none=>rfl
  |some x =>
   rw[hb]at h;cases x with
   |cells c e f =>
    simp at h;obtain⟨ho,hoe⟩:=Array.getElem?_eq_some_iff.1 h;simp only[Option.map_some,Option.isSome_none,Bool.false_eq_true,if_false,Option.some.injEq,Obj.cells.injEq,and_true];apply Array.ext_getElem?;intro j;rw[Array.getElem?_setIfInBounds];by_cases hj:o=j;·subst hj;rw[if_pos rfl,if_pos ho,h]
    rw[if_neg hj]
   |_=>rfl
 rw[if_neg hi]
theorem frozen_set{w:World}{a b:Addr}{u:Value}:(w.setCell a u).frozen? b=w.frozen? b:=by
 unfold World.frozen? World.setCell;simp only[Array.getElem?_modify];by_cases h:a.block=b.block
 ·rw[if_pos h]
  cases hb:w.heap[b.block]? with
  |none=>rfl
  |some x=>cases x<;>rfl
 rw[if_neg h]
theorem isl_slice{w:World}{B g o:Nat}{v:Value}{m:Nat}{X:Nat→Int}{a:Option Addr}{n c:Nat}(h:IntSl w B v m X)(hc:w.cell? ⟨g,o,none⟩=some (.slice a n c))(u:Value):IntSl (w.setCell ⟨g,o,none⟩ u) B v m X:=by
 obtain⟨ad,cap,rfl,h0,h2⟩:=h;refine⟨ad,cap,rfl,h0,?_⟩;rcases h2 with h2|⟨b,off,rfl,h4,h5⟩;·exact Or.inl h2
 refine Or.inr ⟨b,off,rfl,h4,fun j hj=>?_⟩;have h6:=h5 j hj;rw[cell_set_lit];·exact h6
 by_cases e1:b=g
 ·right
  intro e2;rw[e1,e2,hc]at h6;injection h6 with h6;cases h6
 exact Or.inl e1
theorem kel_slice{w:World}{B g o:Nat}{v:Value}{m:Nat}{UV:Nat→Value}{t:Kt}{a:Option Addr}{n c:Nat}{th:Bool}(h:KeSl w B v m UV t)(hc:w.cell? ⟨g,o+2,none⟩=some (.slice a n c))(hb:w.cell? ⟨g,o,none⟩=some (.bool th))(u:Value):KeSl (w.setCell ⟨g,o+2,none⟩ u) B v m UV t:=by
 obtain⟨ad,cap,rfl,h0,h2⟩:=h;refine⟨ad,cap,rfl,h0,?_⟩;rcases h2 with h2|⟨b,off,rfl,h4,h5⟩;·exact Or.inl h2
 refine Or.inr ⟨b,off,rfl,h4,fun j hj=>?_⟩;obtain⟨x0,x1,x2,x3⟩:=h5 j hj;refine⟨?_,?_,?_,isl_slice x3 hc u⟩
 ·rw[cell_set_lit]
  ·exact x0
  by_cases e1:b=g;·right;intro e2;rw[e1,e2,hc]at x0;injection x0 with x0;cases x0
  exact Or.inl e1
 ·rw[cell_set_lit]
  ·exact x1
  by_cases e1:b=g;·right;intro e2;rw[e1,e2,hc]at x1;injection x1 with x1;cases x1
  exact Or.inl e1
 rw[cell_set_lit];·exact x2
 by_cases e1:b=g
 ·right
  intro e2;have e3:off+j*3=o:=by omega
  rw[e1,e3,hb]at x0;injection x0 with x0;cases x0
 exact Or.inl e1
def flatP(KV:Nat→Value)(P:Ps)(np:Nat):List Value:=(List.range np).flatMap fun k=>[.bool (P.th k),.int .i64 (P.rm k),KV k]
theorem flatP_len(KV:Nat→Value)(P:Ps)(np:Nat):(flatP KV P np).length=np*3:=by
 induction np with
 |zero=>rfl
 |succ np ih =>
  unfold flatP at ih ⊢;rw[List.range_succ,List.flatMap_append,List.length_append,ih];simp;omega
theorem flatP_succ(KV:Nat→Value)(P:Ps)(np:Nat):flatP KV P (np+1)=flatP KV P np++[.bool (P.th np),.int .i64 (P.rm np),KV np]:=by
 unfold flatP;rw[List.range_succ,List.flatMap_append];simp
theorem flatP_get(KV:Nat→Value)(P:Ps):∀(np k:Nat),k<np→(flatP KV P np)[k*3]?=some (.bool (P.th k))∧(flatP KV P np)[k*3+1]?=some (.int .i64 (P.rm k))∧(flatP KV P np)[k*3+2]?=some (KV k):=by
 intro np;induction np with
 |zero=>intro k hk;omega
 |succ np ih =>
  intro k hk;rw[flatP_succ];by_cases e:k=np
  ·subst e
   have hl:=flatP_len KV P k;refine⟨?_,?_,?_⟩;·rw[List.getElem?_append_right (by omega),hl,Nat.sub_self];rfl
   ·rw[List.getElem?_append_right (by omega),hl,show k*3+1-k*3=1 by omega];rfl
   rw[List.getElem?_append_right (by omega),hl,show k*3+2-k*3=2 by omega];rfl
  have hl:=flatP_len KV P np;obtain⟨h1,h2,h3⟩:=ih k (by omega);refine⟨?_,?_,?_⟩;·rw[List.getElem?_append_left (by omega)];exact h1
  ·rw[List.getElem?_append_left (by omega)];exact h2
  rw[List.getElem?_append_left (by omega)];exact h3
theorem flatP_one{KV:Nat→Value}{P:Ps}{np:Nat}(h:∀k,k<np→(KV k).oneCell'=true):∀u∈flatP KV P np,u.oneCell'=true:=by
 intro u hu;unfold flatP at hu;obtain⟨i,hi,hu⟩:=List.mem_flatMap.1 hu;simp only[List.mem_cons,List.not_mem_nil,or_false]at hu;rcases hu with rfl|rfl|rfl;·rfl
 ·rfl
 exact h i (List.mem_range.1 hi)
structure RowP(wr:World)(g np:Nat)(KV:Nat→Value)(P:Ps):Prop where
 cell:∀k,k<np→wr.cell? ⟨g,k*3,none⟩=some (.bool (P.th k))∧wr.cell? ⟨g,k*3+1,none⟩=some (.int .i64 (P.rm k))∧wr.cell? ⟨g,k*3+2,none⟩=some (KV k)
 free:∀i,i<np*3→wr.frozen? ⟨g,i,none⟩=false
 lt:g<wr.heap.size
theorem RowP.up{wr w':World}{g np:Nat}{KV:Nat→Value}{P:Ps}(h:RowP wr g np KV P)(hb:Below wr.heap.size wr w'):RowP w' g np KV P :=
 ⟨fun k hk=>by
  obtain⟨h1,h2,h3⟩:=h.cell k hk;exact⟨by rw[hb.cell h.lt];exact h1,by rw[hb.cell h.lt];exact h2,by rw[hb.cell h.lt];exact h3⟩,
  fun i hi=>by rw[←h.free i hi];exact World.frozen?_of_block (hb.block g h.lt),Nat.lt_of_lt_of_le h.lt hb.size⟩
theorem RowP.kel{wr:World}{g np cap:Nat}{KV:Nat→Value}{P:Ps}{UV:Nat→Nat→Value}(h:RowP wr g np KV P)(hc:np≤cap)(hr:np*40≤140737488351232)(hk:∀k,k<np→KeSl wr wr.heap.size (KV k) (P.m k) (UV k) (P.t k)):PsSl wr wr.heap.size (.slice (some ⟨g,0,none⟩) np cap) np KV UV P:=by
 refine⟨_,cap,rfl,⟨hc,hr⟩,Or.inr ⟨g,0,rfl,h.lt,fun k hk'=>?_⟩⟩;obtain⟨h1,h2,h3⟩:=h.cell k hk';rw[Nat.zero_add];exact⟨h1,h2,h3,hk k hk'⟩
theorem RowP.put{wr:World}{g np q:Nat}{KV:Nat→Value}{P P':Ps}(h:RowP wr g np KV P)(hq:q<np)(u:Value)(e1:∀k,k<np→P'.th k=P.th k)(e2:∀k,k<np→P'.rm k=P.rm k):RowP (wr.setCell ⟨g,q*3+2,none⟩ u) g np (fun k=>if k=q then u else KV k) P' :=
 ⟨fun k hk=>by
  obtain⟨h1,h2,h3⟩:=h.cell k hk;rw[e1 k hk,e2 k hk];refine⟨by rw[cell_set_lit (Or.inr (by omega))];exact h1,by rw[cell_set_lit (Or.inr (by omega))];exact h2,?_⟩;show _=some (if k=q then u else KV k);by_cases e:k=q;·subst e;rw[if_pos rfl];exact cell_set_same h3 u
  rw[if_neg e,cell_set_lit (Or.inr (by omega))];exact h3,
  fun i hi=>by rw[frozen_set];exact h.free i hi,by simpa[World.setCell]using h.lt⟩
theorem rowP_of{wr:World}{base:Nat}{v:Value}{np:Nat}{KV:Nat→Value}{P:Ps}(h:wr.ownsRow base 41 3 v np (flatP KV P np))(hn:1≤np):∃g cap,v=.slice (some ⟨g,0,none⟩) np cap∧base≤g∧np≤cap∧RowP wr g np KV P:=by
 obtain⟨hl,h2⟩:=h;rcases h2 with⟨rfl,h0⟩|⟨g,cap,cur,rfl,hg,hh,hc1,hc2,hsz,hcur⟩;·omega
 have key:∀i u,i<np*3→(flatP KV P np)[i]?=some u→wr.cell? ⟨g,i,none⟩=some u:=fun i u hi h3=>by
  rw[←hcur,List.getElem?_take,if_pos hi]at h3;exact cell_at hh (by simpa using h3)
 refine⟨g,cap,rfl,hg,hc1,fun k hk=>?_,fun i hi=>frozen_at hh,(Array.getElem?_eq_some_iff.1 hh).1⟩;obtain⟨q1,q2,q3⟩:=flatP_get KV P np k hk;exact⟨key _ _ (by omega) q1,key _ _ (by omega) q2,key _ _ (by omega) q3⟩
theorem rowP_any{wr:World}{base g0:Nat}{v:Value}{np:Nat}{KV:Nat→Value}{P:Ps}(h:wr.ownsRow base 41 3 v np (flatP KV P np))(hg0:g0<wr.heap.size):∃av g cap,v=.slice av np cap∧(1≤np→av=some ⟨g,0,none⟩∧base≤g)∧np≤cap∧RowP wr g np KV P:=by
 by_cases hn:1≤np
 ·obtain⟨g,cap,e,h1,h2,h3⟩:=rowP_of h hn
  exact⟨_,g,cap,e,fun _=>⟨rfl,h1⟩,h2,h3⟩
 have h0:np=0:=by omega
 subst h0;rcases h.2 with⟨rfl,_⟩|⟨g,cap,cur,rfl,_,_,hc1,_⟩;·exact⟨none,g0,0,rfl,fun h=>absurd h hn,Nat.le_refl _,fun k hk=>(by omega),fun i hi=>(by omega),hg0⟩
 exact⟨_,g0,cap,rfl,fun h=>absurd h hn,hc1,fun k hk=>(by omega),fun i hi=>(by omega),hg0⟩
theorem RowP.sl{wr:World}{av:Option Addr}{g np cap:Nat}{KV:Nat→Value}{P:Ps}{UV:Nat→Nat→Value}(h:RowP wr g np KV P)(ha:1≤np→av=some ⟨g,0,none⟩)(hc:np≤cap)(hr:np*40≤140737488351232)(hk:∀k,k<np→KeSl wr wr.heap.size (KV k) (P.m k) (UV k) (P.t k)):PsSl wr wr.heap.size (.slice av np cap) np KV UV P:=by
 by_cases hn:1≤np;·rw[ha hn];exact h.kel hc hr hk
 exact⟨av,cap,rfl,⟨hc,hr⟩,Or.inl (by omega)⟩
theorem Tryz.infoPeer:(Tryz.prog.info? 41).map (fun i=>(i.zero,i.size,i.bytes))=some (some (.agg #[.bool false,.int .i64 0,.slice none 0 0]),3,40):=by kernel_rfl
theorem cloneP{w:World}{v:Value}{m:Nat}{KV:Nat→Value}{UV:Nat→Nat→Value}{P:Ps}(h:PsSl w w.heap.size v m KV UV P)(hn:m≤1000):
 Calls Tryz.prog 57 #[v] w fun e w'=>∃v',e=.returned v'∧w'.ownsRow w.heap.size 41 3 v' m (flatP KV P m)∧Below w.heap.size w w':=by
 obtain⟨ad,cap,rfl,⟨hc,hr⟩,hx⟩:=h
 have q34:∀(w:World) (a:Option Addr) (n c:Nat),(binOp .eql 25 (.slice a n c) (.slice none 0 0)).run Tryz.prog w=.ok (.bool a.isNone) w:=fun w a n c=>Lib.run_eql_slice_nil w _ _ a n c 0 0 Tryz.underlying25
 cases ad with
 |none =>
  have h0:m=0:=by
   rcases hx with h0|⟨bl,off,e,_⟩;·exact h0
   cases e
  subst h0;clear hx;go_enter Tryz.func57,Tryz.ntmps57;go_wp2;go_ret;exact⟨_,rfl,World.ownsRow_nil _ _ _ _,Below.refl _ _⟩
 |some a =>
  have hnews:∀j u,(flatP KV P m)[j]?=some u→w.cell? (Addr.add a j)=some u:=by
   intro j u hu;have hj:j<m*3:=by
    have:=(List.getElem?_eq_some_iff.1 hu).1;rw[flatP_len]at this;exact this
   rcases hx with h0|⟨bl,off,e,hbl,hx⟩;·omega
   injection e with e;subst e;obtain⟨g1,g2,g3,_⟩:=hx (j/3) (by omega);obtain⟨q1,q2,q3⟩:=flatP_get KV P m (j/3) (by omega);rw[Addr.add_lit];rcases(show j=j/3*3∨j=j/3*3+1∨j=j/3*3+2 by omega)with e|e|e
   ·rw[e]at hu ⊢
    rw[q1]at hu;rw[g1,←hu]
   ·rw[e]at hu ⊢
    rw[q2]at hu;rw[←Nat.add_assoc,g2,←hu]
   rw[e]at hu ⊢;rw[q3]at hu;rw[←Nat.add_assoc,g3,←hu]
  have h1:∀u∈flatP KV P m,u.oneCell'=true:=flatP_one fun i hi=>by
   rcases hx with h0|⟨bl,off,e,hbl,hx⟩;·omega
   obtain⟨ap,cp,e2,_⟩:=(hx i hi).2.2.2;rw[e2];rfl
  have HNw:=hid hnews;have H1:=hid h1;obtain⟨ii,hi,hz0,hz1,hz2⟩:=info_parts Tryz.infoPeer;have HLn:Hid ((flatP KV P m).length=m*3):=flatP_len KV P m;obtain⟨F,hF⟩:∃F,flatP KV P m=F:=⟨_,rfl⟩;rw[hF]at HNw H1 HLn;have HF:=hid hF;clear hx hnews h1 hF;go_enter Tryz.func57,Tryz.ntmps57;go_wp2_with(at_builtin;go_must(refine wpList_append_own _ rfl _ _ 25 rfl w.heap.size 41 ii (.agg #[.bool false,.int .i64 0,.slice none 0 0]) 3 40 Tryz.underlying25 hi hz0 hz1 hz2 rfl (by decide) _ _ _ rfl (World.ownsRow_made w #[] 0 (Nat.le_refl _) (Nat.zero_le _) (by simp)) a m cap F rfl HLn.out (fun j u hu=>Lib.cell?_alloc_some _ (HNw.out j u hu)) H1.out (by unfold maxLen;omega) (by omega) (by simp) ?_;intro v1 w2 ho hg _;have HO:=hid ho;have HG:=hid hg;clear ho hg))
  go_ret;refine⟨_,rfl,?_,?_⟩
  ·have h:=HO.out
   rw[Nat.zero_add,List.nil_append,←HF.out]at h;exact h
  exact((Below.refl _ _).alloc (Nat.le_refl _) _).grown HG.out (by simp) (fun k hk=>by cases hk;exact Nat.le_refl _)
end Go.Proofs.YtajmnlhfnhbleaaGreat
