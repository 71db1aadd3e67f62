/- Several texts of one proof, in their order. -/
import Derived.Test.YtajmnlhfnhbleaaGreatKw26
namespace Go.Proofs.YtajmnlhfnhbleaaGreat
open Go.RowKit CurveMath
set_option linter.unusedVariables false
def hpN(kd N M:Int):Hp:=⟨kd,N,M,0,fun _=>0,0,fun _=>0,0,0⟩
theorem doE_of{m:Ms}{x:Hp}(h:msE m=0)(h2:happE m x=0):doE m x=0:=by unfold doE;rw[if_pos h];exact h2
theorem turn_do{n:Nat}{b:Bk}{np:Nat}{P:Ps}{k:Nat}(hR:MeshR n b np P)(hk:k<np):
 (P.th k=true→doE ⟨n,b,np,P⟩ (hpN 2 k 0)=0∧happM ⟨n,b,np,P⟩ (hpN 2 k 0)=⟨n,b,np,putB P k false⟩) ∧
 (P.th k=false→doE ⟨n,b,np,P⟩ (hpN 3 k 0)=0∧happM ⟨n,b,np,P⟩ (hpN 3 k 0)=⟨n,b,np,putB P k true⟩):=by
 have hm:msE ⟨n,b,np,P⟩=0:=hR.e
 have e0:¬((k:Int)<0∨(np:Int)≤(k:Int)):=by omega
 refine⟨fun h=>⟨doE_of hm ?_,?_⟩,fun h=>⟨doE_of hm ?_,?_⟩⟩
 ·simp[happE,lonE,hpN,h];omega
 ·simp[happM,lonP,hpN]
 ·simp[happE,lonE,hpN,h];omega
 ·simp[happM,lonP,hpN]
theorem bend_do{n:Nat}{b:Bk}{np:Nat}{P:Ps}{k i:Nat}(hR:MeshR n b np P)(hk:k<np)(hi:i<P.m k):
 doE ⟨n,b,np,P⟩ (hpN 5 k i)=0∧happM ⟨n,b,np,P⟩ (hpN 5 k i)=⟨n,b,np,putT P k (P.m k) (benT (P.t k) i 1)⟩:=by
 have hm:msE ⟨n,b,np,P⟩=0:=hR.e
 refine⟨doE_of hm ?_,?_⟩
 ·simp[happE,lonE,hpN];omega
 ·simp[happM,lonP,hpN]
theorem MeshR.first{n:Nat}{b:Bk}{np:Nat}{P:Ps}(h:MeshR n b np P){k i:Nat}(hk:k<np)(hi:i<P.m k):1≤(P.t k).L i∧0≤(P.t k).X i 0∧(P.t k).X i 0≤30:=by
 obtain⟨g1,g2,g3,g4⟩:=oneE_ok ((h.peer k hk).right i hi).2;obtain⟨s1,s2,s3⟩:=planOk_spec g1;have hL:1≤(P.t k).L i:=by
  unfold rowsN at g3;have h1:1≤(b.sz (((P.t k).V i).toNat)+b.nd (((P.t k).V i).toNat)-1)/b.nd (((P.t k).V i).toNat):=by
   rw[Int.le_ediv_iff_mul_le (by omega)];omega
  omega
 have h5:=of_decide_eq_true g4 0 (by omega);unfold isNum at h5;rw[decide_eq_true_iff]at h5;exact⟨hL,by omega,by omega⟩
theorem benN_zero{P:Ps}{k i:Nat}(hX:0≤(P.t k).X i 0∧(P.t k).X i 0≤30):benN P k i 0=P:=by
 have et:benT (P.t k) i ((0:Nat):Int)=P.t k:=by
  unfold benT;have:(fun j=>if j=i then fun r=>if r=0 then((P.t k).X j 0+((0:Nat):Int))%31 else(P.t k).X j r else(P.t k).X j)=(P.t k).X:=by
   funext j;by_cases cj:j=i
   ·subst cj
    rw[if_pos rfl];funext r;by_cases cr:r=0;·subst cr;rw[if_pos rfl];omega
    rw[if_neg cr]
   rw[if_neg cj]
  rw[this]
 unfold benN;rw[et];unfold putT;have e1:(fun j=>if j=k then P.m k else P.m j)=P.m:=by
  funext j;by_cases c:j=k;·subst c;rw[if_pos rfl]
  rw[if_neg c]
 have e2:(fun j=>if j=k then P.t k else P.t j)=P.t:=by
  funext j;by_cases c:j=k;·subst c;rw[if_pos rfl]
  rw[if_neg c]
 rw[e1,e2]
theorem benN_right{n:Nat}{b:Bk}{np:Nat}{P:Ps}(h:MeshR n b np P){k:Nat}(hk:k<np)(i j:Nat):MeshR n b np (benN P k i j):=h.putT ((h.peer k hk).ben i j)
structure BkSt(W w:World)(g:Nat)(ab:Option Addr)(n cb:Nat)(PV:Nat→Value)(b:Bk)(al:Option Addr)(np cl:Nat)(KV:Nat→Value)(UV:Nat→Nat→Value)(P:Ps):Prop where
 below:Below W.heap.size W w
 ge:W.heap.size≤g
 at_:MsAt w g ab n cb PV b al np cl KV UV P
theorem BkSt.up{W w w':World}{g:Nat}{ab:Option Addr}{n cb:Nat}{PV:Nat→Value}{b:Bk}{al:Option Addr}{np cl:Nat}{KV:Nat→Value}{UV:Nat→Nat→Value}{P:Ps}(h:BkSt W w g ab n cb PV b al np cl KV UV P)(hb:Below w.heap.size w w'):BkSt W w' g ab n cb PV b al np cl KV UV P :=
 ⟨h.below.trans (hb.mono h.below.size),h.ge,h.at_.up hb⟩
theorem bk_store{W V:World}{g:Nat}{ab:Option Addr}{n cb:Nat}{PV:Nat→Value}{b:Bk}{al:Option Addr}{np cl:Nat}{KV:Nat→Value}{UV:Nat→Nat→Value}{P:Ps}{a0 a1:Option Addr}{n0 c0 n1 c1:Nat}(hb:Below W.heap.size W V)(hg:W.heap.size≤g)(k0:V.heap[g]?=some (.cells #[.slice a0 n0 c0,.slice a1 n1 c1] 27 (0,0)))
 (hv:VeSl V V.heap.size (.slice ab n cb) n PV b) (hl:PsSl V V.heap.size (.slice al np cl) np KV UV P):BkSt W (put2 V g (.slice ab n cb) (.slice al np cl)) g ab n cb PV b al np cl KV UV P :=
 ⟨put2_below hb hg,hg,put2_whole k0 _ _,ve_put2 k0 hv _,ps_put2 k0 hl _ _⟩
def DidOpen(u':World)(n:Nat)(b:Bk)(np:Nat)(Q:Ps)(e:Ending):Prop :=
 ∃(a:Option Addr) (c:Nat) (PV:Nat→Value) (l:Option Addr) (d:Nat) (KV:Nat→Value) (UV:Nat→Nat→Value),e=.returned (.tuple #[.agg #[.slice a n c,.slice l np d],.int .i64 0])∧VeSl u' u'.heap.size (.slice a n c) n PV b∧PsSl u' u'.heap.size (.slice l np d) np KV UV Q
theorem did{u:World}(hW:WorldOwes){ab:Option Addr}{n cb:Nat}{PV:Nat→Value}{b:Bk}{al:Option Addr}{np cl:Nat}{KV:Nat→Value}{UV:Nat→Nat→Value}{P Q:Ps}{kd N M:Int}(h:doE ⟨n,b,np,P⟩ (hpN kd N M)=0∧happM ⟨n,b,np,P⟩ (hpN kd N M)=⟨n,b,np,Q⟩)(hv:VeSl u u.heap.size (.slice ab n cb) n PV b)(hl:PsSl u u.heap.size (.slice al np cl) np KV UV P):
 Calls Tryz.prog 12 #[.agg #[.slice ab n cb,.slice al np cl],.agg #[.int .i64 kd,.int .i64 N,.int .i64 M,.slice none 0 0,.slice none 0 0,.int .i64 0,.int .i64 0]] u fun e u'=>Below u.heap.size u u'∧DidOpen u' n b np Q e:=by
 have hz:∀D:Nat→Int,IntSl u u.heap.size (.slice none 0 0) 0 D:=fun D=>⟨none,0,rfl,⟨Nat.le_refl _,by omega⟩,Or.inl rfl⟩
 have h9:=hW.does _ n PV b _ np KV UV P (hpN kd N M) _ _ u hv hl ⟨hz _,hz _⟩
 rw[h.1,h.2]at h9
 refine Calls.mono h9 fun e u' hM=>?_
 obtain⟨hb,a,n',c,PV',l,np',d,KV',UV',rfl,hn,hp,hv9,hl9⟩:=mesh_open (show MeshPost _ _ _ _ _ _ _ _ from hM)
 rw[if_pos rfl]at hn hp
 have hn':n'=n:=hn
 have hp':np'=np:=hp
 subst hn' hp'
 exact⟨hb,a,c,PV',l,d,KV',UV',rfl,hv9,hl9⟩
end Go.Proofs.YtajmnlhfnhbleaaGreat
