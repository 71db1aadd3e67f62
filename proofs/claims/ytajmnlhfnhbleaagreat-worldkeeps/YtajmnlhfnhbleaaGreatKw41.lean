/- Several texts of one proof, in their order. -/
import Derived.Test.YtajmnlhfnhbleaaGreatKw40
namespace Go.Proofs.YtajmnlhfnhbleaaGreat
open Go.ChangeShapes Go.WideShapes Go.ChangeAt Go.RowKit Go.Deep
set_option linter.unusedVariables false
section
variable {H : Type} {enc : TypeId × Value → H} {W : World}
theorem Tryz.cellsVer:Tryz.prog.cellsOf 61=4:=by kernel_rfl
theorem Tryz.cellsVers:Tryz.prog.cellsOf 22=1:=by kernel_rfl
theorem Tryz.cellsBook:Tryz.prog.cellsOf 24=1:=by kernel_rfl
theorem Tryz.bytesVer:Tryz.prog.bytesOf 61=48:=by kernel_rfl
theorem plan_cells{fuel:Nat}{cs:List Value}{x:DataW H×List MemPlace}(h:DataW.trod enc Tryz.prog W 0 (fun _=>true) true fuel 59 cs=some x):
 ∃nd of sz:Int,cs=[.int .i64 nd,.int .i64 of,.int .i64 sz]:=by
 obtain⟨y0,y1,y2,n,hx,hl,h0,h1,h2⟩:=trod_struct3 Tryz.underlying59 h
 rw[Tryz.cellsPlan]at hl
 rw[Tryz.cellsInt]at h0 h1 h2
 obtain⟨a,e0,_,b0⟩:=DataW.trod_int Tryz.underlying3 h0
 obtain⟨b,e1,_,b1⟩:=DataW.trod_int Tryz.underlying3 h1
 obtain⟨c,e2,_,b2⟩:=DataW.trod_int Tryz.underlying3 h2
 refine⟨a,b,c,?_⟩
 match cs,hl with
 |[u0,u1,u2],_ =>
  simp at e0 e1 e2;subst e0 e1 e2;rfl
theorem ver_cells{fuel:Nat}{cs:List Value}{x:DataW H×List MemPlace}(h:DataW.trod enc Tryz.prog W 0 (fun _=>true) true fuel 61 cs=some x)(hs:∀y∈x.1.weights Tryz.prog 61,y≤reachBytes):
 ∃(a:Option Addr) (len cap:Nat) (X:Nat→Int) (nd of sz:Int),cs=[.slice a len cap,.int .i64 nd,.int .i64 of,.int .i64 sz]∧SlArg W a len cap X:=by
 obtain⟨y0,y1,n,hx,hl,h0,h1⟩:=trod_struct2 Tryz.underlying61 h
 rw[Tryz.cellsVer]at hl
 rw[Tryz.cellsInts]at h0
 rw[Tryz.cellsPlan]at h1
 have hd:x.1=.agg [y0.1,y1.1]:=congrArg Prod.fst hx
 obtain⟨a,len,cap,X,e0,hX⟩:=isl_cell h0 (fun y hy=>hs y (by
  rw[hd];simp only[DataW.weights,Tryz.underlying61,List.map_cons,List.map_nil,DataW.weightsEach,List.mem_append];exact Or.inl hy))
 obtain⟨nd,of,sz,e1⟩:=plan_cells h1
 refine⟨a,len,cap,X,nd,of,sz,?_,hX⟩
 match cs,hl with
 |[u0,u1,u2,u3],_ =>
  simp at e0 e1;obtain⟨rfl,rfl,rfl⟩:=e1;subst e0;rfl
theorem vers_cell{fuel:Nat}{cs:List Value}{x:DataW H×List MemPlace}(h:DataW.trod enc Tryz.prog W 0 (fun _=>true) true fuel 22 cs=some x)(hs:∀y∈x.1.weights Tryz.prog 22,y≤reachBytes):
 ∃v n PV b,cs=[v]∧VeSl W W.heap.size v n PV b:=by
 rcases open_slice Tryz.underlying22 h with⟨hcs,_⟩|⟨ad,len,cap,m,n,D,Pl,hcs,_,hl,hm,hmm,hx,hall⟩
 ·exact⟨_,0,fun _=>undef,⟨fun _=>0,fun _ _=>0,fun _=>0,fun _=>0,fun _=>0⟩,hcs,none,0,rfl,⟨Nat.le_refl _,by omega⟩,Or.inl rfl⟩
 ·simp only[if_true]at hmm
  subst hmm;have hd:x.1=.slice ((List.range len).map D) ((List.range (m-len)).map fun j=>D (len+j)):=congrArg Prod.fst hx;rw[Tryz.cellsVer]at hall;have each:∀i,i<len→∃q:Value×Nat×(Nat→Int)×Int×Int×Int,W.cell? (Addr.add ad (i*4))=some q.1∧W.cell? (Addr.add ad (i*4+1))=some (.int .i64 q.2.2.2.1)∧W.cell? (Addr.add ad (i*4+2))=some (.int .i64 q.2.2.2.2.1)∧W.cell? (Addr.add ad (i*4+3))=some (.int .i64 q.2.2.2.2.2)∧IntSl W W.heap.size q.1 q.2.1 q.2.2.1:=by
   intro i hi;obtain⟨cs',h1,h2⟩:=hall i (by omega);obtain⟨_,_,hcell⟩:=World.cells?_some h1;obtain⟨a1,l1,c1,X1,nd,of,sz,e,hX⟩:=ver_cells h2 (fun y hy=>hs y (by
    rw[hd];simp only[DataW.weights,Tryz.underlying22,List.mem_cons,List.mem_append];exact Or.inr (Or.inl (weightsAll_mem (d:=D i) (List.mem_map.2 ⟨i,List.mem_range.2 hi,rfl⟩) hy))))
   subst e;have e0:=hcell 0 (by omega);have e1:=hcell 1 (by omega);have e2:=hcell 2 (by omega);have e3:=hcell 3 (by omega);rw[add_add]at e0 e1 e2 e3;exact⟨⟨.slice a1 l1 c1,l1,X1,nd,of,sz⟩,e0,e1,e2,e3,hX.isl⟩
  obtain⟨q,hq⟩:=choose_lt each;have hr:(len+(m-len))*48≤140737488351232:=by
   have h1:=hs ((len+(m-len))*Tryz.prog.bytesOf 61) (by
    rw[hd];simp[DataW.weights,Tryz.underlying22])
   rw[Tryz.bytesVer]at h1;simpa[reachBytes]using h1
  refine⟨_,len,fun i=>(q i).1,⟨fun i=>(q i).2.1,fun i=>(q i).2.2.1,fun i=>(q i).2.2.2.1,fun i=>(q i).2.2.2.2.1,fun i=>(q i).2.2.2.2.2⟩,hcs,some ad,m,rfl,⟨hl,by omega⟩,?_⟩;by_cases h0:len=0;·exact Or.inl h0
  obtain⟨b,off,spot⟩:=ad;have hspot:spot=none:=by simpa[Addr.add]using World.cell?_spot (hq 0 (by omega)).1
  subst hspot;refine Or.inr ⟨b,off,rfl,?_,fun j hj=>?_⟩
  ·have h1:=cell_lt (hq 0 (by omega)).1
   simpa[Addr.add]using h1
  obtain⟨c0,c1,c2,c3,hi⟩:=hq j hj;rw[Go.WideShapes.add_plain]at c0 c1 c2 c3;exact⟨c0,by simpa[Nat.add_assoc]using c1,by simpa[Nat.add_assoc]using c2,by simpa[Nat.add_assoc]using c3,hi⟩
end
section
variable {H : Type} {enc : TypeId × Value → H} {W : World}
theorem Tryz.cellsBool:Tryz.prog.cellsOf 4=1:=by kernel_rfl
theorem Tryz.cellsShr:Tryz.prog.cellsOf 81=2:=by kernel_rfl
theorem Tryz.cellsKept:Tryz.prog.cellsOf 83=3:=by kernel_rfl
theorem Tryz.cellsKepts:Tryz.prog.cellsOf 39=1:=by kernel_rfl
theorem Tryz.cellsPeer:Tryz.prog.cellsOf 41=3:=by kernel_rfl
theorem Tryz.bytesKept:Tryz.prog.bytesOf 83=40:=by kernel_rfl
theorem shr_cells{fuel:Nat}{cs:List Value}{x:DataW H×List MemPlace}(h:DataW.trod enc Tryz.prog W 0 (fun _=>true) true fuel 81 cs=some x)(hs:∀y∈x.1.weights Tryz.prog 81,y≤reachBytes):
 ∃(N:Int) (a:Option Addr) (len cap:Nat) (X:Nat→Int),cs=[.int .i64 N,.slice a len cap]∧SlArg W a len cap X:=by
 obtain⟨y0,y1,n,hx,hl,h0,h1⟩:=trod_struct2 Tryz.underlying81 h
 rw[Tryz.cellsShr]at hl
 rw[Tryz.cellsInt]at h0
 rw[Tryz.cellsInts]at h1
 obtain⟨N,e0,_,b0⟩:=DataW.trod_int Tryz.underlying3 h0
 have hd:x.1=.agg [y0.1,y1.1]:=congrArg Prod.fst hx
 obtain⟨a,len,cap,X,e1,hX⟩:=isl_cell h1 (fun y hy=>hs y (by
  rw[hd];simp only[DataW.weights,Tryz.underlying81,List.map_cons,List.map_nil,DataW.weightsEach,List.mem_append];exact Or.inr (Or.inl hy)))
 refine⟨N,a,len,cap,X,?_,hX⟩
 match cs,hl with
 |[u0,u1],_ =>
  simp at e0 e1;subst e0 e1;rfl
theorem kept_cells{fuel:Nat}{cs:List Value}{x:DataW H×List MemPlace}(h:DataW.trod enc Tryz.prog W 0 (fun _=>true) true fuel 83 cs=some x)(hs:∀y∈x.1.weights Tryz.prog 83,y≤reachBytes):
 ∃(ver N:Int) (a:Option Addr) (len cap:Nat) (X:Nat→Int),cs=[.int .i64 ver,.int .i64 N,.slice a len cap]∧SlArg W a len cap X:=by
 obtain⟨y0,y1,n,hx,hl,h0,h1⟩:=trod_struct2 Tryz.underlying83 h
 rw[Tryz.cellsKept]at hl
 rw[Tryz.cellsInt]at h0
 rw[Tryz.cellsShr]at h1
 obtain⟨ver,e0,_,b0⟩:=DataW.trod_int Tryz.underlying3 h0
 have hd:x.1=.agg [y0.1,y1.1]:=congrArg Prod.fst hx
 obtain⟨N,a,len,cap,X,e1,hX⟩:=shr_cells h1 (fun y hy=>hs y (by
  rw[hd];simp only[DataW.weights,Tryz.underlying83,List.map_cons,List.map_nil,DataW.weightsEach,List.mem_append];exact Or.inr (Or.inl hy)))
 refine⟨ver,N,a,len,cap,X,?_,hX⟩
 match cs,hl with
 |[u0,u1,u2],_ =>
  simp at e0 e1;obtain⟨rfl,rfl⟩:=e1;subst e0;rfl
theorem kepts_cell{fuel:Nat}{cs:List Value}{x:DataW H×List MemPlace}(h:DataW.trod enc Tryz.prog W 0 (fun _=>true) true fuel 39 cs=some x)(hs:∀y∈x.1.weights Tryz.prog 39,y≤reachBytes):
 ∃v n UV t,cs=[v]∧KeSl W W.heap.size v n UV t:=by
 rcases open_slice Tryz.underlying39 h with⟨hcs,_⟩|⟨ad,len,cap,m,n,D,Pl,hcs,_,hl,hm,hmm,hx,hall⟩
 ·exact⟨_,0,fun _=>undef,⟨fun _=>0,fun _=>0,fun _=>0,fun _ _=>0⟩,hcs,none,0,rfl,⟨Nat.le_refl _,by omega⟩,Or.inl rfl⟩
 ·simp only[if_true]at hmm
  subst hmm;have hd:x.1=.slice ((List.range len).map D) ((List.range (m-len)).map fun j=>D (len+j)):=congrArg Prod.fst hx;rw[Tryz.cellsKept]at hall;have each:∀i,i<len→∃q:Int×Int×Value×Nat×(Nat→Int),W.cell? (Addr.add ad (i*3))=some (.int .i64 q.1)∧W.cell? (Addr.add ad (i*3+1))=some (.int .i64 q.2.1)∧W.cell? (Addr.add ad (i*3+2))=some q.2.2.1∧IntSl W W.heap.size q.2.2.1 q.2.2.2.1 q.2.2.2.2:=by
   intro i hi;obtain⟨cs',h1,h2⟩:=hall i (by omega);obtain⟨_,_,hcell⟩:=World.cells?_some h1;obtain⟨ver,N,a1,l1,c1,X1,e,hX⟩:=kept_cells h2 (fun y hy=>hs y (by
    rw[hd];simp only[DataW.weights,Tryz.underlying39,List.mem_cons,List.mem_append];exact Or.inr (Or.inl (weightsAll_mem (d:=D i) (List.mem_map.2 ⟨i,List.mem_range.2 hi,rfl⟩) hy))))
   subst e;have e0:=hcell 0 (by omega);have e1:=hcell 1 (by omega);have e2:=hcell 2 (by omega);rw[add_add]at e0 e1 e2;exact⟨⟨ver,N,.slice a1 l1 c1,l1,X1⟩,e0,e1,e2,hX.isl⟩
  obtain⟨q,hq⟩:=choose_lt each;have hr:(len+(m-len))*40≤140737488351232:=by
   have h1:=hs ((len+(m-len))*Tryz.prog.bytesOf 83) (by
    rw[hd];simp[DataW.weights,Tryz.underlying39])
   rw[Tryz.bytesKept]at h1;simpa[reachBytes]using h1
  refine⟨_,len,fun i=>(q i).2.2.1,⟨fun i=>(q i).1,fun i=>(q i).2.1,fun i=>(q i).2.2.2.1,fun i=>(q i).2.2.2.2⟩,hcs,some ad,m,rfl,⟨hl,by omega⟩,?_⟩;by_cases h0:len=0;·exact Or.inl h0
  obtain⟨b,off,spot⟩:=ad;have hspot:spot=none:=by simpa[Addr.add]using World.cell?_spot (hq 0 (by omega)).1
  subst hspot;refine Or.inr ⟨b,off,rfl,?_,fun j hj=>?_⟩
  ·have h1:=cell_lt (hq 0 (by omega)).1
   simpa[Addr.add]using h1
  obtain⟨c0,c1,c2,hi⟩:=hq j hj;rw[Go.WideShapes.add_plain]at c0 c1 c2;exact⟨c0,by simpa[Nat.add_assoc]using c1,by simpa[Nat.add_assoc]using c2,hi⟩
end
section
variable {H : Type} {enc : TypeId × Value → H} {W : World}
theorem Tryz.bytesPeer:Tryz.prog.bytesOf 41=40:=by kernel_rfl
theorem Tryz.cellsPeers:Tryz.prog.cellsOf 25=1:=by kernel_rfl
theorem peer_cells{fuel:Nat}{cs:List Value}{x:DataW H×List MemPlace}(h:DataW.trod enc Tryz.prog W 0 (fun _=>true) true fuel 41 cs=some x)(hs:∀y∈x.1.weights Tryz.prog 41,y≤reachBytes):
 ∃(th:Bool) (room:Int) (vk:Value) (m:Nat) (UV:Nat→Value) (t:Kt),cs=[.bool th,.int .i64 room,vk]∧KeSl W W.heap.size vk m UV t:=by
 obtain⟨y0,y1,y2,n,hx,hl,h0,h1,h2⟩:=trod_struct3 Tryz.underlying41 h
 rw[Tryz.cellsPeer]at hl
 rw[Tryz.cellsBool]at h0
 rw[Tryz.cellsInt]at h1
 rw[Tryz.cellsKepts]at h2
 obtain⟨th,e0,_⟩:=DataW.trod_bool Tryz.underlying4 h0
 obtain⟨room,e1,_,b1⟩:=DataW.trod_int Tryz.underlying3 h1
 have hd:x.1=.agg [y0.1,y1.1,y2.1]:=congrArg Prod.fst hx
 obtain⟨vk,m,UV,t,e2,hk⟩:=kepts_cell h2 (fun y hy=>hs y (by
  rw[hd];simp only[DataW.weights,Tryz.underlying41,List.map_cons,List.map_nil,DataW.weightsEach,List.mem_append];exact Or.inr (Or.inr (Or.inl hy))))
 refine⟨th,room,vk,m,UV,t,?_,hk⟩
 match cs,hl with
 |[u0,u1,u2],_ =>
  simp at e0 e1 e2;subst e0 e1 e2;rfl
theorem peers_cell{fuel:Nat}{cs:List Value}{x:DataW H×List MemPlace}(h:DataW.trod enc Tryz.prog W 0 (fun _=>true) true fuel 25 cs=some x)(hs:∀y∈x.1.weights Tryz.prog 25,y≤reachBytes):
 ∃v n KV UV P,cs=[v]∧PsSl W W.heap.size v n KV UV P:=by
 rcases open_slice Tryz.underlying25 h with⟨hcs,_⟩|⟨ad,len,cap,m,n,D,Pl,hcs,_,hl,hm,hmm,hx,hall⟩
 ·exact⟨_,0,fun _=>undef,fun _ _=>undef,⟨fun _=>false,fun _=>0,fun _=>0,fun _=>⟨fun _=>0,fun _=>0,fun _=>0,fun _ _=>0⟩⟩,hcs,none,0,rfl,⟨Nat.le_refl _,by omega⟩,Or.inl rfl⟩
 ·simp only[if_true]at hmm
  subst hmm;have hd:x.1=.slice ((List.range len).map D) ((List.range (m-len)).map fun j=>D (len+j)):=congrArg Prod.fst hx;rw[Tryz.cellsPeer]at hall;have each:∀i,i<len→∃q:Bool×Int×Value×Nat×(Nat→Value)×Kt,W.cell? (Addr.add ad (i*3))=some (.bool q.1)∧W.cell? (Addr.add ad (i*3+1))=some (.int .i64 q.2.1)∧W.cell? (Addr.add ad (i*3+2))=some q.2.2.1∧KeSl W W.heap.size q.2.2.1 q.2.2.2.1 q.2.2.2.2.1 q.2.2.2.2.2:=by
   intro i hi;obtain⟨cs',h1,h2⟩:=hall i (by omega);obtain⟨_,_,hcell⟩:=World.cells?_some h1;obtain⟨th,room,vk,mk,UV,t,e,hX⟩:=peer_cells h2 (fun y hy=>hs y (by
    rw[hd];simp only[DataW.weights,Tryz.underlying25,List.mem_cons,List.mem_append];exact Or.inr (Or.inl (weightsAll_mem (d:=D i) (List.mem_map.2 ⟨i,List.mem_range.2 hi,rfl⟩) hy))))
   subst e;have e0:=hcell 0 (by omega);have e1:=hcell 1 (by omega);have e2:=hcell 2 (by omega);rw[add_add]at e0 e1 e2;exact⟨⟨th,room,vk,mk,UV,t⟩,e0,e1,e2,hX⟩
  haveI:Inhabited Kt:=⟨⟨fun _=>0,fun _=>0,fun _=>0,fun _ _=>0⟩⟩
  obtain⟨q,hq⟩:=choose_lt each;have hr:(len+(m-len))*40≤140737488351232:=by
   have h1:=hs ((len+(m-len))*Tryz.prog.bytesOf 41) (by
    rw[hd];simp[DataW.weights,Tryz.underlying25])
   rw[Tryz.bytesPeer]at h1;simpa[reachBytes]using h1
  refine⟨_,len,fun i=>(q i).2.2.1,fun i=>(q i).2.2.2.2.1,⟨fun i=>(q i).1,fun i=>(q i).2.1,fun i=>(q i).2.2.2.1,fun i=>(q i).2.2.2.2.2⟩,hcs,some ad,m,rfl,⟨hl,by omega⟩,?_⟩;by_cases h0:len=0;·exact Or.inl h0
  obtain⟨b,off,spot⟩:=ad;have hspot:spot=none:=by simpa[Addr.add]using World.cell?_spot (hq 0 (by omega)).1
  subst hspot;refine Or.inr ⟨b,off,rfl,?_,fun j hj=>?_⟩
  ·have h1:=cell_lt (hq 0 (by omega)).1
   simpa[Addr.add]using h1
  obtain⟨c0,c1,c2,hi⟩:=hq j hj;rw[Go.WideShapes.add_plain]at c0 c1 c2;exact⟨c0,by simpa[Nat.add_assoc]using c1,by simpa[Nat.add_assoc]using c2,hi⟩
end
section
variable {H : Type} {enc : TypeId × Value → H} {W : World}
theorem Tryz.cellsMesh:Tryz.prog.cellsOf 27=2:=by kernel_rfl
theorem book_cell{fuel:Nat}{cs:List Value}{x:DataW H×List MemPlace}(h:DataW.trod enc Tryz.prog W 0 (fun _=>true) true fuel 24 cs=some x)(hs:∀y∈x.1.weights Tryz.prog 24,y≤reachBytes):
 ∃vs n PV b,cs=[vs]∧VeSl W W.heap.size vs n PV b:=by
 obtain⟨y0,n,hx,hl,h0⟩:=trod_struct1 Tryz.underlying24 h
 rw[Tryz.cellsBook]at hl
 rw[Tryz.cellsVers]at h0
 have hd:x.1=.agg [y0.1]:=congrArg Prod.fst hx
 obtain⟨vs,m,PV,b,e,hv⟩:=vers_cell h0 (fun y hy=>hs y (by
  rw[hd];simp only[DataW.weights,Tryz.underlying24,List.map_cons,List.map_nil,DataW.weightsEach,List.mem_append];exact Or.inl hy))
 refine⟨vs,m,PV,b,?_,hv⟩
 match cs,hl with
 |[u0],_ =>
  simp at e;subst e;rfl
theorem mesh_arg{v:Value}{d:DataW H}{p:List MemPlace}(h:DataW.Trod enc Tryz.prog W 0 (fun _=>true) true 27 v d p)(hs:∀y∈d.weights Tryz.prog 27,y≤reachBytes):
 ∃vb n PV b vl np KV UV P,v=meshV vb vl∧VeSl W W.heap.size vb n PV b∧PsSl W W.heap.size vl np KV UV P:=by
 obtain⟨fuel,hf⟩:=h
 obtain⟨y0,y1,n,hx,hl,h0,h1⟩:=trod_struct2 Tryz.underlying27 hf
 rw[Tryz.cellsMesh]at hl
 have hv:=agg_of (by omega) hl
 rw[Tryz.cellsBook]at h0
 rw[Tryz.cellsPeers]at h1
 have hd:d=.agg [y0.1,y1.1]:=congrArg Prod.fst hx
 obtain⟨vb,nb,PV,b,e0,hb⟩:=book_cell h0 (fun y hy=>hs y (by
  rw[hd];simp only[DataW.weights,Tryz.underlying27,List.map_cons,List.map_nil,DataW.weightsEach,List.mem_append];exact Or.inl hy))
 obtain⟨vl,np,KV,UV,P,e1,hp⟩:=peers_cell h1 (fun y hy=>hs y (by
  rw[hd];simp only[DataW.weights,Tryz.underlying27,List.map_cons,List.map_nil,DataW.weightsEach,List.mem_append];exact Or.inr (Or.inl hy)))
 refine⟨vb,nb,PV,b,vl,np,KV,UV,P,?_,hb,hp⟩
 rw[hv]
 generalize v.cells=cs at *
 obtain⟨l⟩:=cs
 match l,hl with
 |[u0,u1],_ =>
  simp at e0 e1;subst e0 e1;rfl
end
section
variable {H : Type} {enc : TypeId × Value → H} {W : World}
theorem Tryz.cellsHap:Tryz.prog.cellsOf 30=7:=by kernel_rfl
theorem Tryz.cellsHaps:Tryz.prog.cellsOf 45=1:=by kernel_rfl
theorem Tryz.bytesHap:Tryz.prog.bytesOf 30=88:=by kernel_rfl
theorem trod_struct7{P:Program}{w:World}{base:Nat}{spare:Nat→Bool}{held:Bool}{t:TypeId}{f0 f1 f2 f3 f4 f5 f6:Field}{fuel:Nat}{cs:List Value}{x:DataW H×List MemPlace}(ht:P.underlying t=some (.struct #[f0,f1,f2,f3,f4,f5,f6]))(h:DataW.trod enc P w base spare held fuel t cs=some x):
 ∃y0 y1 y2 y3 y4 y5 y6 n,x.1=.agg [y0.1,y1.1,y2.1,y3.1,y4.1,y5.1,y6.1]∧cs.length=P.cellsOf t∧DataW.trod enc P w base spare held n f0.type ((cs.drop f0.offset).take (P.cellsOf f0.type))=some y0 ∧
  DataW.trod enc P w base spare held n f1.type ((cs.drop f1.offset).take (P.cellsOf f1.type))=some y1∧DataW.trod enc P w base spare held n f2.type ((cs.drop f2.offset).take (P.cellsOf f2.type))=some y2 ∧
  DataW.trod enc P w base spare held n f3.type ((cs.drop f3.offset).take (P.cellsOf f3.type))=some y3∧DataW.trod enc P w base spare held n f4.type ((cs.drop f4.offset).take (P.cellsOf f4.type))=some y4 ∧
  DataW.trod enc P w base spare held n f5.type ((cs.drop f5.offset).take (P.cellsOf f5.type))=some y5∧DataW.trod enc P w base spare held n f6.type ((cs.drop f6.offset).take (P.cellsOf f6.type))=some y6:=by
 obtain⟨xs,n,_,rfl,hl,hlen,hf⟩:=DataW.trod_struct ht h
 match xs,hlen with
 |[y0,y1,y2,y3,y4,y5,y6],_=>exact⟨y0,y1,y2,y3,y4,y5,y6,n,by simp,hl,by simpa using hf 0 f0 rfl,by simpa using hf 1 f1 rfl,by simpa using hf 2 f2 rfl,by simpa using hf 3 f3 rfl,by simpa using hf 4 f4 rfl,by simpa using hf 5 f5 rfl,by simpa using hf 6 f6 rfl⟩
theorem hap_cells{fuel:Nat}{cs:List Value}{x:DataW H×List MemPlace}(h:DataW.trod enc Tryz.prog W 0 (fun _=>true) true fuel 30 cs=some x)(hs:∀y∈x.1.weights Tryz.prog 30,y≤reachBytes):
 ∃(p:Hp) (a1 a2:Option Addr) (c1 c2:Nat),cs=[.int .i64 p.kd,.int .i64 p.N,.int .i64 p.M,.slice a1 p.len c1,.slice a2 p.lp c2,.int .i64 p.need,.int .i64 p.of]∧SlArg W a1 p.len c1 p.D∧SlArg W a2 p.lp c2 p.X:=by
 obtain⟨y0,y1,y2,y3,y4,y5,y6,n,hd,hl,h0,h1,h2,h3,h4,h5,h6⟩:=trod_struct7 Tryz.underlying30 h
 rw[Tryz.cellsHap]at hl
 rw[Tryz.cellsInt]at h0 h1 h2 h5 h6
 rw[Tryz.cellsInts]at h3 h4
 obtain⟨z0,e0,_,_⟩:=DataW.trod_int Tryz.underlying3 h0
 obtain⟨z1,e1,_,_⟩:=DataW.trod_int Tryz.underlying3 h1
 obtain⟨z2,e2,_,_⟩:=DataW.trod_int Tryz.underlying3 h2
 obtain⟨z5,e5,_,_⟩:=DataW.trod_int Tryz.underlying3 h5
 obtain⟨z6,e6,_,_⟩:=DataW.trod_int Tryz.underlying3 h6
 obtain⟨a1,l1,c1,X1,e3,s1⟩:=isl_cell h3 (fun y hy=>hs y (by
  rw[hd];simp only[DataW.weights,Tryz.underlying30,List.map_cons,List.map_nil,DataW.weightsEach,List.mem_append];exact Or.inr (Or.inr (Or.inr (Or.inl hy)))))
 obtain⟨a2,l2,c2,X2,e4,s2⟩:=isl_cell h4 (fun y hy=>hs y (by
  rw[hd];simp only[DataW.weights,Tryz.underlying30,List.map_cons,List.map_nil,DataW.weightsEach,List.mem_append];exact Or.inr (Or.inr (Or.inr (Or.inr (Or.inl hy))))))
 refine⟨⟨z0,z1,z2,l1,X1,l2,X2,z5,z6⟩,a1,a2,c1,c2,?_,s1,s2⟩
 match cs,hl with
 |[u0,u1,u2,u3,u4,u5,u6],_ =>
  simp at e0 e1 e2 e3 e4 e5 e6;subst e0 e1 e2 e3 e4 e5 e6;rfl
theorem hap_open{v:Value}{d:DataW H}{p:List MemPlace}(h:DataW.Trod enc Tryz.prog W 0 (fun _=>true) true 30 v d p)(hs:∀y∈d.weights Tryz.prog 30,y≤reachBytes):
 ∃(x:Hp) (vd vp:Value),v=hapV x vd vp∧HpAt W W.heap.size x vd vp:=by
 obtain⟨fuel,hf⟩:=h
 obtain⟨x,a1,a2,c1,c2,e,s1,s2⟩:=hap_cells hf hs
 have hv:=agg_of (n:=7) (by omega) (by rw[e];rfl)
 refine⟨x,_,_,?_,s1.isl,s2.isl⟩
 rw[hv]
 generalize v.cells=cs at *
 obtain⟨l⟩:=cs
 have e':l=_:=e
 subst e'
 rfl
theorem haps_cell{fuel:Nat}{cs:List Value}{x:DataW H×List MemPlace}(h:DataW.trod enc Tryz.prog W 0 (fun _=>true) true fuel 45 cs=some x)(hs:∀y∈x.1.weights Tryz.prog 45,y≤reachBytes):
 ∃(v:Value) (n:Nat) (DV QV:Nat→Value) (X:Nat→Hp),cs=[v]∧HpSl W W.heap.size v n DV QV X:=by
 rcases open_slice Tryz.underlying45 h with⟨hcs,_⟩|⟨ad,len,cap,m,n,D,Pl,hcs,_,hl,hm,hmm,hx,hall⟩
 ·exact⟨_,0,fun _=>undef,fun _=>undef,fun _=>⟨0,0,0,0,fun _=>0,0,fun _=>0,0,0⟩,hcs,none,0,rfl,⟨Nat.le_refl _,by omega⟩,Or.inl rfl⟩
 ·simp only[if_true]at hmm
  subst hmm;have hd:x.1=.slice ((List.range len).map D) ((List.range (m-len)).map fun j=>D (len+j)):=congrArg Prod.fst hx;rw[Tryz.cellsHap]at hall;have each:∀i,i<len→∃q:Hp×Value×Value,(W.cell? (Addr.add ad (i*7))=some (.int .i64 q.1.kd)∧W.cell? (Addr.add ad (i*7+1))=some (.int .i64 q.1.N)∧W.cell? (Addr.add ad (i*7+2))=some (.int .i64 q.1.M)∧W.cell? (Addr.add ad (i*7+3))=some q.2.1 ∧
   W.cell? (Addr.add ad (i*7+4))=some q.2.2∧W.cell? (Addr.add ad (i*7+5))=some (.int .i64 q.1.need)∧W.cell? (Addr.add ad (i*7+6))=some (.int .i64 q.1.of))∧HpAt W W.heap.size q.1 q.2.1 q.2.2:=by
   intro i hi
   obtain⟨cs',h1,h2⟩:=hall i (by omega)
   obtain⟨_,_,hcell⟩:=World.cells?_some h1
   obtain⟨z,a1,a2,c1,c2,e,s1,s2⟩:=hap_cells h2 (fun y hy=>hs y (by
    rw[hd];simp only[DataW.weights,Tryz.underlying45,List.mem_cons,List.mem_append];exact Or.inr (Or.inl (weightsAll_mem (d:=D i) (List.mem_map.2 ⟨i,List.mem_range.2 hi,rfl⟩) hy))))
   subst e
   have e0:=hcell 0 (by omega)
   have e1:=hcell 1 (by omega)
   have e2:=hcell 2 (by omega)
   have e3:=hcell 3 (by omega)
   have e4:=hcell 4 (by omega)
   have e5:=hcell 5 (by omega)
   have e6:=hcell 6 (by omega)
   rw[add_add]at e0 e1 e2 e3 e4 e5 e6
   exact⟨⟨z,.slice a1 z.len c1,.slice a2 z.lp c2⟩,⟨e0,e1,e2,e3,e4,e5,e6⟩,s1.isl,s2.isl⟩
  haveI:Inhabited Hp:=⟨⟨0,0,0,0,fun _=>0,0,fun _=>0,0,0⟩⟩
  obtain⟨q,hq⟩:=choose_lt each;have hr:(len+(m-len))*88≤140737488351232:=by
   have h1:=hs ((len+(m-len))*Tryz.prog.bytesOf 30) (by
    rw[hd];simp[DataW.weights,Tryz.underlying45])
   rw[Tryz.bytesHap]at h1;simpa[reachBytes]using h1
  refine⟨_,len,fun i=>(q i).2.1,fun i=>(q i).2.2,fun i=>(q i).1,hcs,some ad,m,rfl,⟨hl,by omega⟩,?_⟩;by_cases h0:len=0;·exact Or.inl h0
  obtain⟨b,off,spot⟩:=ad;have hspot:spot=none:=by simpa[Addr.add]using World.cell?_spot (hq 0 (by omega)).1.1
  subst hspot;refine Or.inr ⟨b,off,rfl,?_,fun j hj=>?_⟩
  ·have h1:=cell_lt (hq 0 (by omega)).1.1
   simpa[Addr.add]using h1
  obtain⟨⟨c0,c1,c2,c3,c4,c5,c6⟩,hi⟩:=hq j hj;rw[Go.WideShapes.add_plain]at c0 c1 c2 c3 c4 c5 c6;exact⟨⟨c0,by simpa[Nat.add_assoc]using c1,by simpa[Nat.add_assoc]using c2,by simpa[Nat.add_assoc]using c3,by simpa[Nat.add_assoc]using c4,by simpa[Nat.add_assoc]using c5,by simpa[Nat.add_assoc]using c6⟩,hi⟩
theorem haps_open{v:Value}{d:DataW H}{p:List MemPlace}(h:DataW.Trod enc Tryz.prog W 0 (fun _=>true) true 45 v d p)(hv:v.cells=#[v])(hs:∀y∈d.weights Tryz.prog 45,y≤reachBytes):
 ∃(n:Nat) (DV QV:Nat→Value) (X:Nat→Hp),HpSl W W.heap.size v n DV QV X:=by
 obtain⟨fuel,hf⟩:=h
 obtain⟨u,n,DV,QV,X,e,hk⟩:=haps_cell hf hs
 rw[hv]at e
 injection e with e1
 subst e1
 exact⟨n,DV,QV,X,hk⟩
end
end Go.Proofs.YtajmnlhfnhbleaaGreat
