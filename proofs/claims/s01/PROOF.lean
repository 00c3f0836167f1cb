import PyProof.Rows.All
import VbpcanSpec
import PyVbpcan
import PyFlatLaws
import Wide.All
import OpenK.AllK
import Wide.FinOn
import PyProof.EqAt
import PyProof.EqKinds
import PyProof.TupleCall
import KE.BitLaws
import Open.SpecLaws
import KE.OsHead
import KE.OsGo
import PyProof.WalkInts
import KE.KMinKey
import PyProof.Rows.SortShellAny
import KE.KSortTupAny
import KE.KSortTupG
import PySem.Challenge.RW_pinchannel_s01_answers
set_option Elab.async false
set_option linter.all false
set_option maxRecDepth 100000
set_option maxHeartbeats 4000000
section
namespace Pc
theorem gC:∀(n:Nat) (l:List Nat),l.Nodup->(∀x,x∈l->x<n)->l.length<=n
 | 0,[],_,_=>Nat.le_refl 0
 | 0,x::l,_,h=>absurd (h x (by simp)) (Nat.not_lt_zero x)
 | n+1,l,hn,h=>by
  have h1:=gC n (l.erase n) (hn.erase n) fun x hx=>by
   have:=(List.Nodup.mem_erase_iff hn).mp hx;have:=h x this.2;lia
  have h2:=List.length_erase (a:=n) (l:=l);by_cases hm:n∈l
  ·rw[if_pos hm]at h2;lia
  ·rw[if_neg hm]at h2;lia
theorem Io:∀(n:Nat) (l:List Nat),l.Nodup->(∀x,x∈l->x<n)->n<=l.length->∀x,x<n->x∈l:=by
 intro n l hn h hl x hx;apply Classical.byContradiction;intro hno;have h1:(x::l).Nodup:=List.nodup_cons.mpr ⟨hno,hn⟩;have h2:=gC n (x::l) h1 fun y hy=>by
  rcases List.mem_cons.mp hy with q | q
  ·rw[q];exact hx
  ·exact h y q
 simp at h2;lia
theorem EC{α:Type}{lt:α->α->Prop}(irr:∀a,¬lt a a)(tr:∀a b c,lt a b->lt b c->lt a c):∀{l m:List α},l.Pairwise lt->m.Pairwise lt->(∀x,x∈l↔x∈m)->l=m
 | [],[],_,_,_=>rfl
 | [],y::m,_,_,h=>absurd ((h y).mpr (by simp)) (by simp)
 | x::l,[],_,_,h=>absurd ((h x).mp (by simp)) (by simp)
 | x::l,y::m,hl,hm,h=>by
  rw[List.pairwise_cons]at hl hm;have e:x=y:=by
   rcases List.mem_cons.mp ((h x).mp (by simp))with q | q
   ·exact q
   ·rcases List.mem_cons.mp ((h y).mpr (by simp))with r | r
    ·exact r.symm
    ·exact absurd (tr _ _ _ (hl.1 y r) (hm.1 x q)) (irr x)
  subst e;have e2:l=m:=by
   refine EC irr tr hl.2 hm.2 fun z=>?_
   constructor
   ·intro hz;rcases List.mem_cons.mp ((h z).mp (List.mem_cons_of_mem _ hz))with q | q
    ·subst q;exact absurd (hl.1 z hz) (irr z)
    ·exact q
   ·intro hz;rcases List.mem_cons.mp ((h z).mpr (List.mem_cons_of_mem _ hz))with q | q
    ·subst q;exact absurd (hm.1 z hz) (irr z)
    ·exact q
  rw[e2]
def zZ(a b:Nat×Nat):Prop:=a.1<b.1∨(a.1=b.1∧a.2<b.2)
theorem Kw{l m:List (Nat×Nat)}(hl:l.Pairwise zZ)(hm:m.Pairwise zZ)(h:∀x,x∈l↔x∈m):l=m:=
 EC (fun a=>by unfold zZ;lia) (fun _ _ _=>by unfold zZ;lia) hl hm h
theorem aQ{α:Type}{l:List α}{i:Nat}{x:α}(h:l[i]? = some x):l.take (i+1)=l.take i++[x]:=by
 rw[List.take_add_one,h];rfl
theorem z0{l:List Nat}(hl:l.Pairwise (· < ·)){p:Nat->Bool}{x:Nat}(hx:x∈l)(hp:p x=true)(hm:∀y,y∈l->p y=true->x<=y):l.find? p=some x:=by
 induction l with
 | nil=>simp at hx
 | cons y l ih=>
  rw[List.pairwise_cons]at hl;cases e:p y with
  | true=>
   rw[List.find?_cons_of_pos e];have h1:=hm y (by simp) e;rcases List.mem_cons.mp hx with q | q
   ·rw[q]
   ·have:=hl.1 x q;lia
  | false=>
   rw[List.find?_cons_of_neg (by simp[e])];refine ih hl.2 ?_ fun z hz=>hm z (List.mem_cons_of_mem _ hz)
   rcases List.mem_cons.mp hx with q | q
   ·subst q;rw[hp]at e;cases e
   ·exact q
theorem Ls{l m:List Nat}(hl:l.Pairwise (· < ·))(hm:m.Pairwise (· < ·)){p q:Nat->Bool}(h:∀x,(x∈l∧p x=true)↔(x∈m∧q x=true)):l.find? p=m.find? q:=by
 cases e:l.find? p with
 | none=>
  rw[List.find?_eq_none]at e
  symm
  rw[List.find?_eq_none];intro x hx hq;have:=(h x).mpr ⟨hx,hq⟩;exact e x this.1 this.2
 | some x=>
  obtain⟨hp,as,bs,rfl,hno⟩:=List.find?_eq_some_iff_append.mp e
  symm
  have h1:=(h x).mp ⟨by simp,hp⟩;refine z0 hm h1.1 h1.2 fun y hy hqy=>?_
  have h2:=(h y).mpr ⟨hy,hqy⟩;rw[List.pairwise_append]at hl;rcases List.mem_append.mp h2.1 with z | z
  ·have:=hno y z;rw[h2.2]at this;cases this
  ·rcases List.mem_cons.mp z with z | z
   ·lia
   ·have:=(List.pairwise_cons.mp hl.2.1).1 y z;lia
end Pc
end
section
namespace Pc
open Vbpcan
def Walk(g:Graph):Nat->Nat->Nat->Prop
 | 0,u,v=>u=v
 | k+1,u,v=>∃w,(u,w)∈g∧Walk g k w v
def Small(g:Graph)(n:Nat):Prop:=∀a b,(a,b)∈g->a<n∧b<n
theorem Walk.trans{g:Graph}:∀{j k u v w},Walk g j u v->Walk g k v w->Walk g (j+k) u w
 | 0,k,u,v,w,h1,h2=>by
  have e:u=v:=h1;subst e;rw[Nat.zero_add];exact h2
 | j+1,k,u,v,w,⟨x,h,h1⟩,h2=>by
  rw[Nat.add_right_comm];exact⟨x,h,Walk.trans h1 h2⟩
theorem Walk.one{g:Graph}{u v:Nat}(h:(u,v)∈g):Walk g 1 u v:=⟨v,h,rfl⟩
theorem Walk.snoc{g:Graph}{k u v w:Nat}(h:Walk g k u v)(e:(v,w)∈g):Walk g (k+1) u w:=Walk.trans h (Walk.one e)
theorem Walk.NO{g:Graph}:∀{k u w},Walk g (k+1) u w->∃v,Walk g k u v∧(v,w)∈g
 | 0,u,w,⟨x,h,e⟩=>by
  have e':x=w:=e;subst e';exact⟨u,rfl,h⟩
 | k+1,u,w,⟨x,h,e⟩=>by
  obtain⟨v,h1,h2⟩:=Walk.NO e;exact⟨v,⟨x,h,h1⟩,h2⟩
theorem Walk.lt{g:Graph}{n:Nat}(S:Small g n):∀{k u v},Walk g k u v->v<n->u<n
 | 0,u,v,h,hv=>by
  have e:u=v:=h;rw[e];exact hv
 | k+1,u,v,⟨x,h,_⟩,_=>(S _ _ h).1
def lay(g:Graph)(n:Nat)(l:List Nat):Nat->List Nat
 | 0=>l
 | i+1=>lay g n (ahead g n l) i
theorem my(g:Graph)(n:Nat):∀k l,(layersFrom g n k l).length=k+1
 | 0,_=>rfl
 | k+1,l=>by
  show(layersFrom g n k (ahead g n l)).length+1=k+2
  rw[my g n k]
theorem pU(g:Graph)(n:Nat):∀k l i,i<=k->(layersFrom g n k l)[i]? = some (lay g n l i)
 | 0,l,0,_=>rfl
 | k+1,l,0,_=>rfl
 | k+1,l,i+1,h=>by
  show(layersFrom g n k (ahead g n l))[i]? = some (lay g n (ahead g n l) i)
  exact pU g n k _ i (Nat.le_of_succ_le_succ h)
theorem DJ{g:Graph}{n u:Nat}{l:List Nat}:u∈ahead g n l↔u<n∧∃w,(u,w)∈g∧w∈l:=by
 unfold ahead;rw[List.mem_filter,List.mem_range,List.any_eq_true];constructor
 ·rintro ⟨h,⟨a,b⟩,hm,he⟩
  simp at he;refine⟨h,b,?_,he.2⟩;rw[<-he.1];exact hm
 ·rintro ⟨h,w,hm,hw⟩
  exact⟨h,(u,w),hm,by simp[hw]⟩
theorem Kx{g:Graph}{n:Nat}(S:Small g n):∀{i u} {l:List Nat},u∈lay g n l i↔∃v,v∈l∧Walk g i u v
 | 0,u,l=>by
  show u∈l↔∃v,v∈l∧u=v;constructor
  ·intro h;exact⟨u,h,rfl⟩
  ·rintro ⟨v,h,rfl⟩;exact h
 | i+1,u,l=>by
  show u∈lay g n (ahead g n l) i↔_;rw[Kx S];constructor
  ·rintro ⟨v,hv,hw⟩
   obtain⟨_,w,e,hm⟩:=DJ.mp hv;exact⟨w,hm,hw.snoc e⟩
  ·rintro ⟨v,hv,hw⟩
   obtain⟨x,h1,e⟩:=Walk.NO hw;exact⟨x,DJ.mpr ⟨(S _ _ e).1,v,e,hv⟩,h1⟩
theorem z4{g:Graph}{n v i:Nat}(h:i<=n):(layers g n v).getD i []=lay g n [v] i:=by
 rw[List.getD_eq_getElem?_getD,layers,pU g n n [v] i h];rfl
theorem mz{g:Graph}{n v i u:Nat}(S:Small g n)(h:i<=n):u∈(layers g n v).getD i []↔Walk g i u v:=by
 rw[z4 h,Kx S];constructor
 ·rintro ⟨w,hw,r⟩
  have e:w=v:=by simpa using hw
  rw[<-e];exact r
 ·intro r;exact⟨v,by simp,r⟩
theorem z5(g:Graph)(n:Nat):∀i l,l.Pairwise (· < ·)->(lay g n l i).Pairwise (· < ·)
 | 0,_,h=>h
 | i+1,l,_=>by
  refine z5 g n i _ ?_;unfold ahead;exact List.Pairwise.filter _ List.pairwise_lt_range
theorem Cn{g:Graph}{n v i:Nat}(h:i<=n):((layers g n v).getD i []).Pairwise (· < ·):=by
 rw[z4 h];exact z5 g n i _ (by simp)
theorem kT{g:Graph}{n u d:Nat}(S:Small g n)(h:turnOf g n u=some d):1<=d∧d<=n∧Walk g d u u∧∀k,1<=k->k<d->¬Walk g k u u:=by
 unfold turnOf at h;rw[Option.map_eq_some_iff]at h;obtain⟨i,hi,rfl⟩:=h;rw[List.findIdx?_eq_some_iff_getElem]at hi;obtain⟨hl,hc,hno⟩:=hi;have hlen:(layers g n u).length=n+1:=my g n n _;have hl':i<n:=by
  rw[List.length_drop,hlen]at hl;lia
 have mem:∀j,j<n->(∀(hj:j<((layers g n u).drop 1).length),(((layers g n u).drop 1)[j]).contains u=true↔Walk g (j+1) u u):=by
  intro j hj hj';rw[List.getElem_drop,List.contains_iff_mem];have:=mz (g:=g) (v:=u) (u:=u) S (i:=j+1) (by lia);rw[<-this,List.getD_eq_getElem?_getD,List.getElem?_eq_getElem (by lia)];simp[Nat.add_comm]
 refine⟨by lia,by lia,(mem i hl' hl).mp hc,fun k h1 h2 hw=>?_⟩;have hk:k - 1<i:=by lia
 have:=hno (k - 1) hk;apply this;have hjl:k - 1<((layers g n u).drop 1).length:=by lia
 have e:k - 1+1=k:=by lia
 exact(mem (k - 1) (by lia) hjl).mpr (by rw[e];exact hw)
theorem xX{g:Graph}{n u:Nat}(S:Small g n)(h:turnOf g n u=none):∀k,1<=k->k<=n->¬Walk g k u u:=by
 intro k h1 h2 hw;unfold turnOf at h;rw[Option.map_eq_none_iff,List.findIdx?_eq_none_iff]at h;have hlen:(layers g n u).length=n+1:=my g n n _;have hm:=(mz (g:=g) (v:=u) (u:=u) S (i:=k) h2).mpr hw;rw[List.getD_eq_getElem?_getD,List.getElem?_eq_getElem (by lia)]at hm;have hin:(layers g n u)[k]∈(layers g n u).drop 1:=by
  rw[List.mem_iff_getElem];refine⟨k - 1,by rw[List.length_drop];lia,?_⟩;rw[List.getElem_drop]
  congr 1
  lia
 have:=h _ hin;simp at hm;rw[List.contains_eq_mem]at this;simp at this;exact this hm
theorem Lu{g:Graph}{n u d:Nat}(S:Small g n)(h1:1<=d)(h2:d<=n)(hw:Walk g d u u)(hm:∀k,1<=k->k<d->¬Walk g k u u):turnOf g n u=some d:=by
 cases e:turnOf g n u with
 | none=>exact absurd hw (xX S e d h1 h2)
 | some b=>
  obtain⟨b1,b2,b3,b4⟩:=kT S e;have:b=d:=by
   rcases Nat.lt_trichotomy b d with q | q | q
   ·exact absurd b3 (hm b b1 q)
   ·exact q
   ·exact absurd hw (b4 d h1 q)
  rw[this]
theorem DK{g:Graph}{n u:Nat}(S:Small g n)(h:∀k,1<=k->k<=n->¬Walk g k u u):turnOf g n u=none:=by
 cases e:turnOf g n u with
 | none=>rfl
 | some b=>
  obtain⟨b1,b2,b3,b4⟩:=kT S e;exact absurd b3 (h b b1 b2)
end Pc
end
section
namespace Pc
open Vbpcan
def below(g:Graph)(u:Nat):List Nat:=(g.filter fun e=>e.1 == u).map (·.2)
def bH(g:Graph)(u:Nat):List Nat:=(g.filter fun e=>e.2 == u).map (·.1)
theorem gh{g:Graph}{u w:Nat}:w∈below g u↔(u,w)∈g:=by
 unfold below;rw[List.mem_map];constructor
 ·rintro ⟨⟨a,b⟩,h,rfl⟩
  rw[List.mem_filter]at h;have e:a=u:=by simpa using h.2
  rw[<-e];exact h.1
 ·intro h;exact⟨(u,w),List.mem_filter.mpr ⟨h,by simp⟩,rfl⟩
theorem c9{g:Graph}{u w:Nat}:w∈bH g u↔(w,u)∈g:=by
 unfold bH;rw[List.mem_map];constructor
 ·rintro ⟨⟨a,b⟩,h,rfl⟩
  rw[List.mem_filter]at h;have e:b=u:=by simpa using h.2
  rw[<-e];exact h.1
 ·intro h;exact⟨(w,u),List.mem_filter.mpr ⟨h,by simp⟩,rfl⟩
structure z6(g:Graph)(n goal i:Nat)(rs:List (Nat×Nat)):Prop where
 nd:(rs.map (·.1)).Nodup
 lt:∀p k,(p,k)∈rs->p<n
 zero:rs[0]? = some (goal,0)
 way:∀p k,(p,k)∈rs->Walk g k p goal
 up:(rs.map (·.2)).Pairwise (·<=·)
 ix:∀(j:Nat) p k,rs[j]? = some (p,k)->k<=j
 near:∀q kq,rs[i]? = some (q,kq)->∀p k,(p,k)∈rs->k<=kq+1
 closed:∀(j:Nat) q kq,j<i->rs[j]? = some (q,kq)->∀p,(p,q)∈g->∃k,(p,k)∈rs∧k<=kq+1
 le:i<=rs.length
structure yB(g:Graph)(n goal i q kq j:Nat)(rs:List (Nat×Nat)):Prop where
 nd:(rs.map (·.1)).Nodup
 lt:∀p k,(p,k)∈rs->p<n
 zero:rs[0]? = some (goal,0)
 way:∀p k,(p,k)∈rs->Walk g k p goal
 up:(rs.map (·.2)).Pairwise (·<=·)
 ix:∀(j:Nat) p k,rs[j]? = some (p,k)->k<=j
 here:rs[i]? = some (q,kq)
 near:∀p k,(p,k)∈rs->k<=kq+1
 closed:∀(j:Nat) q kq,j<i->rs[j]? = some (q,kq)->∀p,(p,q)∈g->∃k,(p,k)∈rs∧k<=kq+1
 part:∀p,p∈(bH g q).take j->∃k,(p,k)∈rs∧k<=kq+1
theorem z6.init{g:Graph}{n goal:Nat}(h:goal<n):z6 g n goal 0 [(goal,0)]:=by
 constructor
 ·simp
 ·intro p k hm;simp at hm;lia
 ·rfl
 ·intro p k hm;simp at hm;obtain⟨rfl,rfl⟩:=hm;rfl
 ·simp
 ·intro j p k hj;cases j with
  | zero=>simp at hj;lia
  | succ j=>simp at hj
 ·intro q kq _ p k hm;simp at hm;lia
 ·intro j q kq hj;lia
 ·simp
theorem z6.start{g:Graph}{n goal i q kq:Nat}{rs:List (Nat×Nat)}(B:z6 g n goal i rs)(h:rs[i]? = some (q,kq)):yB g n goal i q kq 0 rs:=
 ⟨B.nd,B.lt,B.zero,B.way,B.up,B.ix,h,fun p k hm=>B.near q kq h p k hm,B.closed,fun p hp=>by simp at hp⟩
theorem yB.old{g:Graph}{n goal i q kq j p:Nat}{rs:List (Nat×Nat)}(B:yB g n goal i q kq j rs)(h:(bH g q)[j]? = some p)(hp:p∈rs.map (·.1)):yB g n goal i q kq (j+1) rs:=by
 refine { B with part:=?_ };intro p' hp';rw[aQ h,List.mem_append]at hp';rcases hp' with hp' | hp'
 ·exact B.part p' hp'
 ·have e:p'=p:=by simpa using hp'
  subst e;rw[List.mem_map]at hp;obtain⟨⟨a,b⟩,hm,rfl⟩:=hp;exact⟨b,hm,B.near a b hm⟩
theorem yB.new{g:Graph}{n goal i q kq j p:Nat}{rs:List (Nat×Nat)}(S:Small g n)(B:yB g n goal i q kq j rs)(h:(bH g q)[j]? = some p)(hp:p ∉ rs.map (·.1)):yB g n goal i q kq (j+1) (rs++[(p,kq+1)]):=by
 have edge:(p,q)∈g:=c9.mp (List.mem_of_getElem? h);have il:i<rs.length:=(List.getElem?_eq_some_iff.mp B.here).1;constructor
 ·rw[List.map_append,List.nodup_append];refine⟨B.nd,by simp,?_⟩;intro a ha b hb e;simp at hb;subst hb;exact hp (e ▸ ha)
 ·intro p' k hm;rw[List.mem_append]at hm;rcases hm with hm | hm
  ·exact B.lt _ _ hm
  ·simp at hm;rw[hm.1];exact(S _ _ edge).1
 ·rw[List.getElem?_append_left (by lia)];exact B.zero
 ·intro p' k hm;rw[List.mem_append]at hm;rcases hm with hm | hm
  ·exact B.way _ _ hm
  ·simp at hm;obtain⟨rfl,rfl⟩:=hm;exact⟨q,edge,B.way _ _ (List.mem_of_getElem? B.here)⟩
 ·rw[List.map_append,List.pairwise_append];refine⟨B.up,by simp,?_⟩;intro a ha b hb;simp at hb;subst hb;rw[List.mem_map]at ha;obtain⟨⟨x,y⟩,hm,rfl⟩:=ha;exact B.near x y hm
 ·intro j' p' k hj;by_cases hlt:j'<rs.length
  ·rw[List.getElem?_append_left hlt]at hj;exact B.ix j' p' k hj
  ·rw[List.getElem?_append_right (by lia)]at hj;have:j' - rs.length=0:=by
    cases e:j' - rs.length with
    | zero=>rfl
    | succ m=>rw[e]at hj;simp at hj
   rw[this]at hj;simp at hj;have:=B.ix i q kq B.here;lia
 ·rw[List.getElem?_append_left il];exact B.here
 ·intro p' k hm;rw[List.mem_append]at hm;rcases hm with hm | hm
  ·exact B.near _ _ hm
  ·simp at hm;lia
 ·intro j' q' kq' hj h' p' e;rw[List.getElem?_append_left (by lia)]at h';obtain⟨k,hm,hk⟩:=B.closed j' q' kq' hj h' p' e;exact⟨k,List.mem_append_left _ hm,hk⟩
 ·intro p' hp';rw[aQ h,List.mem_append]at hp';rcases hp' with hp' | hp'
  ·obtain⟨k,hm,hk⟩:=B.part p' hp';exact⟨k,List.mem_append_left _ hm,hk⟩
  ·have e:p'=p:=by simpa using hp'
   subst e;exact⟨kq+1,List.mem_append_right _ (by simp),Nat.le_refl _⟩
theorem yB.done{g:Graph}{n goal i q kq j:Nat}{rs:List (Nat×Nat)}(B:yB g n goal i q kq j rs)(h:(bH g q).length<=j):z6 g n goal (i+1) rs:=by
 have il:i<rs.length:=(List.getElem?_eq_some_iff.mp B.here).1;refine⟨B.nd,B.lt,B.zero,B.way,B.up,B.ix,?_,?_,by lia⟩
 ·intro q' kq' h' p k hm;have a:=B.near p k hm;have b:kq<=kq':=by
   have hp:=List.pairwise_iff_getElem.mp B.up;obtain⟨l1,e1⟩:=List.getElem?_eq_some_iff.mp B.here;obtain⟨l2,e2⟩:=List.getElem?_eq_some_iff.mp h';have:=hp i (i+1) (by simpa using l1) (by simpa using l2) (by lia);simp[e1,e2]at this;exact this
  lia
 ·intro j' q' kq' hj h' p e;rcases Nat.lt_or_ge j' i with q1 | q1
  ·exact B.closed j' q' kq' q1 h' p e
  ·have:j'=i:=by lia
   subst this;rw[B.here]at h';have e2:=Option.some.inj h';injection e2 with e3 e4
   subst e3 e4;refine B.part p ?_;rw[List.take_of_length_le h];exact c9.mpr e
theorem z6.length_le{g:Graph}{n goal i:Nat}{rs:List (Nat×Nat)}(B:z6 g n goal i rs):rs.length<=n:=by
 have h:=gC n (rs.map (·.1)) B.nd fun x hx=>by
  rw[List.mem_map]at hx;obtain⟨⟨a,b⟩,hm,rfl⟩:=hx;exact B.lt _ _ hm
 simpa using h
theorem yB.length_le{g:Graph}{n goal i q kq j:Nat}{rs:List (Nat×Nat)}(B:yB g n goal i q kq j rs):rs.length<=n:=by
 have h:=gC n (rs.map (·.1)) B.nd fun x hx=>by
  rw[List.mem_map]at hx;obtain⟨⟨a,b⟩,hm,rfl⟩:=hx;exact B.lt _ _ hm
 simpa using h
structure Co(g:Graph)(n goal:Nat)(rs:List (Nat×Nat)):Prop where
 nd:(rs.map (·.1)).Nodup
 lt:∀p k,(p,k)∈rs->p<n∧k<n
 way:∀p k,(p,k)∈rs->Walk g k p goal
 least:∀k p,Walk g k p goal->∃j,(p,j)∈rs∧j<=k
theorem z6.end_{g:Graph}{n goal i:Nat}{rs:List (Nat×Nat)}(B:z6 g n goal i rs)(h:rs.length<=i):Co g n goal rs:=by
 refine⟨B.nd,fun p k hm=>⟨B.lt p k hm,?_⟩,B.way,?_⟩
 ·obtain⟨j,hj⟩:=List.mem_iff_getElem?.mp hm;have h1:=B.ix j p k hj;have h2:=(List.getElem?_eq_some_iff.mp hj).1;have h3:=B.length_le;lia
 ·intro k
  induction k with
  | zero=>
   intro p hw;have e:p=goal:=hw;subst e;exact⟨0,List.mem_of_getElem? B.zero,Nat.le_refl _⟩
  | succ k ih=>
   rintro p ⟨w,e,hw⟩
   obtain⟨j,hj,hjk⟩:=ih w hw;obtain⟨m,hm⟩:=List.mem_iff_getElem?.mp hj;have hml:=(List.getElem?_eq_some_iff.mp hm).1;obtain⟨k',hk',hle⟩:=B.closed m w j (by lia) hm p e;exact⟨k',hk',by lia⟩
def rounds(g:Graph)(goal:Nat)(rs:List (Nat×Nat)):List Nat:=(below g goal).filterMap fun q=>(rs.lookup q).map (·+1)
theorem mi{rs:List (Nat×Nat)}(nd:(rs.map (·.1)).Nodup){p k:Nat}:rs.lookup p=some k↔(p,k)∈rs:=by
 induction rs with
 | nil=>simp
 | cons x rs ih=>
  obtain⟨a,b⟩:=x;rw[List.map_cons,List.nodup_cons]at nd;rw[List.lookup_cons];by_cases e:p=a
  ·subst e;simp;constructor
   ·intro h;exact .inl h.symm
   ·rintro (h | h)
    ·exact h.symm
    ·exact absurd (List.mem_map.mpr ⟨_,h,rfl⟩) nd.1
  ·rw[beq_eq_false_iff_ne.mpr e];simp only;rw[ih nd.2];simp[e]
theorem Co.round{g:Graph}{n goal:Nat}{rs:List (Nat×Nat)}(S:Small g n)(D:Co g n goal rs){d:Nat}(hd:d∈rounds g goal rs)(hmin:∀x,x∈rounds g goal rs->d<=x):turnOf g n goal=some d:=by
 unfold rounds at hd hmin;rw[List.mem_filterMap]at hd;obtain⟨q,hq,he⟩:=hd;rw[Option.map_eq_some_iff]at he;obtain⟨k,hk,rfl⟩:=he;rw[mi D.nd]at hk;have e:=gh.mp hq;refine Lu S (by lia) (D.lt _ _ hk).2 ⟨q,e,D.way _ _ hk⟩ fun j h1 h2 hw=>?_
 obtain⟨j,rfl⟩:∃i,j=i+1:=⟨j - 1,by lia⟩;obtain⟨w,ew,hw⟩:=hw;obtain⟨k',hk',hle⟩:=D.least j w hw;have:=hmin (k'+1) (List.mem_filterMap.mpr ⟨w,gh.mpr ew,by rw[(mi D.nd).mpr hk'];rfl⟩);lia
theorem Co.Qg{g:Graph}{n goal:Nat}{rs:List (Nat×Nat)}(S:Small g n)(D:Co g n goal rs)(h:rounds g goal rs=[]):turnOf g n goal=none:=by
 refine DK S fun k h1 _ hw=>?_
 obtain⟨k,rfl⟩:∃i,k=i+1:=⟨k - 1,by lia⟩;obtain⟨w,ew,hw⟩:=hw;obtain⟨k',hk',hle⟩:=D.least k w hw;have hm:(k'+1)∈rounds g goal rs:=List.mem_filterMap.mpr ⟨w,gh.mpr ew,by rw[(mi D.nd).mpr hk'];rfl⟩;rw[h]at hm;simp at hm
def Up(g:Graph):Prop:=g.Pairwise zZ
theorem F_{g:Graph}(h:Up g)(u:Nat):(below g u).Pairwise (· < ·):=by
 unfold below;rw[List.pairwise_map,List.pairwise_filter];refine h.imp ?_;intro a b hab h1 h2;unfold zZ at hab;simp at h1 h2;lia
theorem DL{g:Graph}(h:Up g)(u:Nat):(bH g u).Pairwise (· < ·):=by
 unfold bH;rw[List.pairwise_map,List.pairwise_filter];refine h.imp ?_;intro a b hab h1 h2;unfold zZ at hab;simp at h1 h2;lia
theorem Qh{g:Graph}{n s u j left d:Nat}{rs:List (Nat×Nat)}(S:Small g n)(U:Up g)(D:Co g n s rs)(hj:Walk g j s u)(hd:j+left+1=d)(hn:left<=n)
  (hmin:∀k,1<=k->k<d->¬Walk g k s s):((layers g n s).getD left []).find? (fun x=>g.contains (u,x))=(below g u).find? (fun q=>rs.lookup q == some left):=by
 refine Ls (Cn hn) (F_ U u) fun x=>?_
 rw[mz S hn,List.contains_iff_mem,gh];constructor
 ·rintro ⟨hw,e⟩
  refine⟨e,?_⟩;obtain⟨k,hk,hle⟩:=D.least left x hw;have h1:Walk g (j+1+k) s s:=(hj.snoc e).trans (D.way _ _ hk);have h2:¬j+1+k<d:=fun h=>hmin _ (by lia) h h1
  have h3:k=left:=by lia
  rw[(mi D.nd).mpr hk,h3];simp
 ·rintro ⟨e,hl⟩
  have hl':rs.lookup x=some left:=by simpa using hl
  exact⟨D.way _ _ ((mi D.nd).mp hl'),e⟩
theorem DM{g:Graph}{n s u left:Nat}(S:Small g n)(hn:left<=n)(hw:Walk g (left+1) u s):∃x,((layers g n s).getD left []).find? (fun x=>g.contains (u,x))=some x∧(u,x)∈g∧Walk g left x s:=by
 obtain⟨w,e,hw⟩:=hw;cases h:((layers g n s).getD left []).find? (fun x=>g.contains (u,x))with
 | none=>
  rw[List.find?_eq_none]at h;have:=h w ((mz S hn).mpr hw);rw[List.contains_iff_mem]at this;exact absurd e this
 | some x=>
  refine⟨x,rfl,?_,?_⟩
  ·have:=List.find?_some h
   rwa [List.contains_iff_mem]at this
  ·have:=List.mem_of_find?_eq_some h;exact(mz S hn).mp this
structure Cp(g:Graph)(n s d left:Nat)(ring:List Nat)(u:Nat):Prop where
 last:ring.getLast? = some u
 SJ:Walk g (ring.length - 1) s u
 rest:Walk g (left+1) u s
 len:ring.length+left=d
 eq:ring.dropLast++walk g (layers g n s) (left+1) u=walk g (layers g n s) d s
theorem Cp.init{g:Graph}{n s d left:Nat}(hd:left+1=d)(hw:Walk g d s s):Cp g n s d left [s] s:=by
 subst hd;exact⟨rfl,rfl,hw,by simp;lia,rfl⟩
theorem Cp.step{g:Graph}{n s d left u:Nat}{ring:List Nat}{rs:List (Nat×Nat)}(S:Small g n)(U:Up g)(D:Co g n s rs)(hn:d<=n)(hmin:∀k,1<=k->k<d->¬Walk g k s s)
  (R:Cp g n s d (left+1) ring u):∃x,(below g u).find? (fun q=>rs.lookup q == some (left+1))=some x∧Cp g n s d left (ring++[x]) x:=by
 have hl:left+1<=n:=by have:=R.len;lia
 obtain⟨x,hx,e,hw⟩:=DM S hl R.rest;have h0:0<ring.length:=by
  cases ring with
  | nil=>have:=R.last;simp at this
  | cons a l=>simp
 have hn:=Qh S U D R.SJ (left:=left+1) (d:=d) (by have:=R.len;lia) hl hmin;refine⟨x,by rw[<-hn];exact hx,?_⟩;constructor
 ·simp
 ·have h1:=R.SJ.snoc e;rw[List.length_append,List.length_singleton];have h2:ring.length - 1+1=ring.length+1 - 1:=by lia
  rw[<-h2];exact h1
 ·exact hw
 ·have:=R.len;rw[List.length_append,List.length_singleton];lia
 ·rw[List.dropLast_concat,<-R.eq];have e1:walk g (layers g n s) (left+1+1) u=u::walk g (layers g n s) (left+1) x:=by
   show u::(match ((layers g n s).getD (left+1) []).find? fun x=>g.contains (u,x)with
    | some x=>walk g (layers g n s) (left+1) x
    | none=>[])=_
   rw[hx]
  rw[e1];have e2:ring=ring.dropLast++[u]:=by
   obtain⟨ys,rfl⟩:=List.getLast?_eq_some_iff.mp R.last;simp
  conv=>lhs;rw[e2]
  rw[List.append_assoc];rfl
theorem Cp.end_{g:Graph}{n s d u:Nat}{ring:List Nat}(R:Cp g n s d 0 ring u):ring=walk g (layers g n s) d s:=by
 rw[<-R.eq];have e1:walk g (layers g n s) (0+1) u=[u]:=by
  show u::(match ((layers g n s).getD 0 []).find? fun x=>g.contains (u,x)with
   | some x=>walk g (layers g n s) 0 x
   | none=>[])=_
  split <;> rfl
 rw[e1];have:=R.last;rw[List.getLast?_eq_some_iff]at this;obtain⟨ys,rfl⟩:=this;simp
def better(b:Option Turn)(t:Turn):Option Turn:=match b with
 | none=>some t
 | some e=>if t.d<e.d then some t else some e
def best(g:Graph)(n i:Nat):Option Turn:=((List.range i).filterMap fun u=>(turnOf g n u).map fun d=>(⟨d,u⟩:Turn)).foldl better none
def told(g:Graph)(n:Nat):Option Turn->List Nat
 | none=>[]
 | some t=>walk g (layers g n t.u) t.d t.u
theorem vX(g:Graph)(n:Nat):Vbpcan.ring g n=told g n (best g n n):=by
 unfold Vbpcan.ring told best better;rfl
theorem rl(g:Graph)(n i:Nat):best g n (i+1)=match turnOf g n i with
  | none=>best g n i
  | some d=>better (best g n i) ⟨d,i⟩:=by
 unfold best;rw[List.range_succ,List.filterMap_append,List.foldl_append];cases e:turnOf g n i with
 | none=>simp[e]
 | some d=>simp[e]
theorem vY{g:Graph}{n:Nat}:∀{i t},best g n i=some t->turnOf g n t.u=some t.d∧t.u<i
 | 0,t,h=>by
  have:best g n 0=none:=rfl;rw[this]at h;cases h
 | i+1,t,h=>by
  rw[rl]at h;cases e:turnOf g n i with
  | none=>
   rw[e]at h;have:=vY (i:=i) h;exact⟨this.1,by lia⟩
  | some d=>
   rw[e]at h;simp only at h;cases e2:best g n i with
   | none=>
    rw[e2]at h;have:(⟨d,i⟩:Turn)=t:=Option.some.inj h;rw[<-this];exact⟨e,by show i<i+1;lia⟩
   | some b=>
    rw[e2]at h;have hb:=vY e2;unfold better at h;simp only at h
    split at h
    ·have:(⟨d,i⟩:Turn)=t:=Option.some.inj h;rw[<-this];exact⟨e,by show i<i+1;lia⟩
    ·have:b=t:=Option.some.inj h;rw[<-this];exact⟨hb.1,by lia⟩
theorem Ga{g:Graph}{n s:Nat}(S:Small g n):∀{d u},d<=n->Walk g d u s->(walk g (layers g n s) d u).length=d
 | 0,_,_,_=>rfl
 | d+1,u,hd,hw=>by
  obtain⟨x,hx,_,hw'⟩:=DM S (by lia:d<=n) hw;have e1:walk g (layers g n s) (d+1) u=u::walk g (layers g n s) d x:=by
   show u::(match ((layers g n s).getD d []).find? fun x=>g.contains (u,x)with
    | some x=>walk g (layers g n s) d x
    | none=>[])=_
   rw[hx]
  rw[e1,List.length_cons,Ga S (by lia) hw']
theorem uB{g:Graph}{n i:Nat}{t:Turn}(S:Small g n)(h:best g n i=some t):(told g n (some t)).length=t.d∧1<=t.d∧t.d<=n:=by
 have h1:=kT S (vY h).1;exact⟨Ga S h1.2.1 h1.2.2.1,h1.1,h1.2.1⟩
theorem Lv{g:Graph}{n i:Nat}(S:Small g n)(h:turnOf g n i=none∨∃d,turnOf g n i=some d∧(told g n (best g n i)).length≠0∧(told g n (best g n i)).length<=d):told g n (best g n (i+1))=told g n (best g n i):=by
 rw[rl];rcases h with h | ⟨d,h,h0,hle⟩
 ·rw[h]
 ·rw[h];cases e:best g n i with
  | none=>rw[e]at h0;exact absurd rfl h0
  | some t=>
   rw[e]at hle;have:=(uB S e).1;unfold better;simp only;rw[if_neg (by lia)]
theorem NP{g:Graph}{n i d:Nat}(S:Small g n)(h:turnOf g n i=some d)(hb:(told g n (best g n i)).length=0∨d<(told g n (best g n i)).length):told g n (best g n (i+1))=walk g (layers g n i) d i:=by
 rw[rl,h];cases e:best g n i with
 | none=>rfl
 | some t=>
  rw[e]at hb;have:=uB S e;unfold better;simp only;rw[if_pos (by lia)];rfl
theorem uC{g:Graph}{n:Nat}(S:Small g n):Vbpcan.ring g n=[]↔∀u,u<n->turnOf g n u=none:=by
 rw[vX];have key:∀i,best g n i=none↔∀u,u<i->turnOf g n u=none:=by
  intro i
  induction i with
  | zero=>simp[best]
  | succ i ih=>
   rw[rl];cases e:turnOf g n i with
   | none=>
    simp only;rw[ih];constructor
    ·intro h u hu;rcases Nat.lt_or_ge u i with q | q
     ·exact h u q
     ·have:u=i:=by lia
      rw[this];exact e
    ·intro h u hu;exact h u (by lia)
   | some d=>
    simp only;constructor
    ·intro h;unfold better at h
     split at h
     ·cases h
     ·split at h <;> cases h
    ·intro h;have:=h i (by lia);rw[e]at this;cases this
 rw[<-key n];cases e:best g n n with
 | none=>simp[told]
 | some t=>
  have:=uB S e;constructor
  ·intro h;rw[h]at this;simp at this;lia
  ·intro h;cases h
end Pc
end
section
namespace Pc
open Vbpcan
theorem fh{α:Type}[BEq α][LawfulBEq α]:∀{l m:List α},l.Nodup->(∀x,x∈l->x∈m)->l.length<=m.length
 | [],_,_,_=>Nat.zero_le _
 | x::l,m,hl,h=>by
  rw[List.nodup_cons]at hl;have hx:x∈m:=h x (by simp);have h1:=fh (m:=m.erase x) hl.2 fun y hy=>by
   have hne:y≠x:=fun e=>hl.1 (e ▸ hy)
   exact(List.mem_erase_of_ne hne).mpr (h y (List.mem_cons_of_mem _ hy))
  have h2:=List.length_erase (a:=x) (l:=m);rw[if_pos hx]at h2;have h3:0<m.length:=List.length_pos_of_mem hx;rw[List.length_cons];lia
def z7{α:Type}(f:α->Nat)(l:List α):Nat:=l.foldl (fun m e=>max m (f e)) 1
theorem mB{α:Type}(f:α->Nat):∀(l:List α) (a:Nat),a<=l.foldl (fun m e=>max m (f e)) a
 | [],a=>Nat.le_refl a
 | x::l,a=>by
  have:=mB f l (max a (f x));simp only[List.foldl_cons];lia
theorem kU{α:Type}(f:α->Nat):∀(l:List α) (a:Nat) (x:α),x∈l->f x<=l.foldl (fun m e=>max m (f e)) a
 | y::l,a,x,h=>by
  simp only[List.foldl_cons];rcases List.mem_cons.mp h with q | q
  ·have:=mB f l (max a (f y));subst q;lia
  ·exact kU f l _ x q
theorem sT{α:Type}(f:α->Nat):∀(l:List α) (a b:Nat),a<=b->(∀x,x∈l->f x<=b)->l.foldl (fun m e=>max m (f e)) a<=b
 | [],a,b,h,_=>h
 | y::l,a,b,h,hx=>by
  simp only[List.foldl_cons];refine sT f l _ b ?_ fun x hm=>hx x (List.mem_cons_of_mem _ hm)
  have:=hx y (by simp);lia
theorem vZ{α:Type}{f h:α->Nat}{l m:List α}(e:∀x,x∈l↔x∈m)(hf:∀x,x∈l->f x=h x):z7 f l=z7 h m:=by
 apply Nat.le_antisymm
 ·refine sT f l _ _ (mB h m 1) fun x hx=>?_
  rw[hf x hx];exact kU h m 1 x ((e x).mp hx)
 ·refine sT h m _ _ (mB f l 1) fun x hx=>?_
  rw[<-hf x ((e x).mpr hx)];exact kU f l 1 x ((e x).mpr hx)
theorem Lw{α:Type}(f:α->Nat)(l:List α)(x:α):z7 f (l++[x])=max (z7 f l) (f x):=by
 unfold z7;rw[List.foldl_append];rfl
def into(g:Graph)(q:Nat):Graph:=g.filter fun e=>e.2 == q
theorem gD{g:Graph}{q:Nat}{e:Nat×Nat}:e∈into g q↔e∈g∧e.2=q:=by
 unfold into;rw[List.mem_filter];simp
theorem Ip(g:Graph)(q:Nat):(bH g q).length=(into g q).length:=by
 unfold bH into;rw[List.length_map]
def dD(l:List Nat)(u:Nat):Nat:=l.getD u 0
structure Iq(g:Graph)(n:Nat)(es:Graph)(ready aR lv:List Nat)(m:Nat):Prop where
 wl:aR.length=n
 ll:lv.length=n
 nd:ready.Nodup
 lt:∀v,v∈ready->v<n
 sub:∀e,e∈es->e∈g
 end_:es.Nodup
 src:∀e,e∈es->e.1∈ready
 wt:∀q,q<n->dD aR q+(into es q).length=(into g q).length
 Uc:∀q,q<n->(q∈ready↔dD aR q=0)
 eq:∀q,q<n->dD lv q=z7 (fun e=>dD lv e.1+1) (into es q)
 pos:∀(i:Nat) v,ready[i]? = some v->dD lv v<=i+1
 SK:∀q,q<n->dD lv q<=m+1
 le:m<=ready.length
theorem m8{l:List Nat}{q x u:Nat}(h:q<l.length):dD (l.set q x) u=if u=q then x else dD l u:=by
 unfold dD;rw[List.getD_eq_getElem?_getD,List.getD_eq_getElem?_getD,List.getElem?_set];by_cases e:q=u
 ·subst e;simp[h]
 ·rw[if_neg e,if_neg (fun z=>e z.symm)]
theorem DO(es:Graph)(p q u:Nat):into (es++[(p,q)]) u=if q=u then into es u++[(p,q)]else into es u:=by
 unfold into;rw[List.filter_append];by_cases e:q=u
 ·subst e;simp
 ·simp[e]
theorem Iq.room{g:Graph}{n m p q:Nat}{es:Graph}{ready aR lv:List Nat}(K:Iq g n es ready aR lv m)(hq:q<n)(he:(p,q)∈g)(hn:(p,q) ∉ es):1<=dD aR q:=by
 have h1:((p,q)::into es q).length<=(into g q).length:=by
  refine fh (List.nodup_cons.mpr ⟨fun h=>hn (gD.mp h).1,?_⟩) fun x hx=>?_
  ·exact K.end_.filter _
  ·rcases List.mem_cons.mp hx with z | z
   ·subst z;exact gD.mpr ⟨he,rfl⟩
   ·have:=gD.mp z;exact gD.mpr ⟨K.sub _ this.1,this.2⟩
 have h2:=K.wt q hq;rw[List.length_cons]at h1;lia
theorem Iq.take{g:Graph}{n m p q:Nat}{es:Graph}{ready aR lv:List Nat}(S:Small g n)(K:Iq g n es ready aR lv m)(he:(p,q)∈g)(hn:(p,q) ∉ es)(hp:p∈ready)(hm:dD lv p<=m) :
  Iq g n (es++[(p,q)]) (if dD aR q - 1=0 then ready++[q]else ready) (aR.set q (dD aR q - 1)) (lv.set q (max (dD lv q) (dD lv p+1))) m:=by
 have hq:q<n:=(S _ _ he).2;have hr:=K.room hq he hn;have hqr:q ∉ ready:=fun h=>by have:=(K.Uc q hq).mp h;lia
 have hwl:q<aR.length:=by rw[K.wl];exact hq
 have hll:q<lv.length:=by rw[K.ll];exact hq
 have hpq:p≠q:=fun e=>hqr (e ▸ hp)
 have lv':∀u,u∈ready->dD (lv.set q (max (dD lv q) (dD lv p+1))) u=dD lv u:=fun u hu=>by
  have hne:u≠q:=fun e=>hqr (e ▸ hu)
  rw[m8 hll,if_neg hne]
 have sub':∀v,v∈ready->v∈(if dD aR q - 1=0 then ready++[q]else ready):=fun v hv=>by
  split
  ·exact List.mem_append_left _ hv
  ·exact hv
 constructor
 ·rw[List.length_set];exact K.wl
 ·rw[List.length_set];exact K.ll
 ·split
  ·rw[List.nodup_append];refine⟨K.nd,by simp,?_⟩;intro a ha b hb e;have:b=q:=by simpa using hb
   exact hqr (this ▸ e ▸ ha)
  ·exact K.nd
 ·intro v hv
  split at hv
  ·rcases List.mem_append.mp hv with z | z
   ·exact K.lt v z
   ·have:v=q:=by simpa using z
    rw[this];exact hq
  ·exact K.lt v hv
 ·intro e hm;rcases List.mem_append.mp hm with z | z
  ·exact K.sub e z
  ·have:e=(p,q):=by simpa using z
   rw[this];exact he
 ·rw[List.nodup_append];refine⟨K.end_,by simp,?_⟩;intro a ha b hb e;have:b=(p,q):=by simpa using hb
  exact hn (this ▸ e ▸ ha)
 ·intro e hm;rcases List.mem_append.mp hm with z | z
  ·exact sub' _ (K.src e z)
  ·have:e=(p,q):=by simpa using z
   rw[this];exact sub' _ hp
 ·intro u hu;rw[m8 hwl,DO];have:=K.wt u hu;by_cases e:u=q
  ·subst e;rw[if_pos rfl,if_pos rfl,List.length_append,List.length_singleton];lia
  ·rw[if_neg e,if_neg (fun z=>e z.symm)];exact this
 ·intro u hu;rw[m8 hwl];have:=K.Uc u hu;by_cases e:u=q
  ·subst e;rw[if_pos rfl]
   split
   ·rename_i h0;constructor
    ·intro _;exact h0
    ·intro _;exact List.mem_append_right _ (by simp)
   ·rename_i h0;constructor
    ·intro h;exact absurd h hqr
    ·intro h;exact absurd h h0
  ·rw[if_neg e,<-this]
   split
   ·rw[List.mem_append];constructor
    ·rintro (z | z)
     ·exact z
     ·have:u=q:=by simpa using z
      exact absurd this e
    ·intro z;exact .inl z
   ·exact Iff.rfl
 ·intro u hu;have hfc:∀l:Graph,(∀e,e∈l->e∈es++[(p,q)])->z7 (fun e=>dD (lv.set q (max (dD lv q) (dD lv p+1))) e.1+1) l=z7 (fun e=>dD lv e.1+1) l:=fun l hl=>
   vZ (fun _=>Iff.rfl) fun e hm=>by
    show dD _ e.1+1=dD lv e.1+1;rw[lv' e.1 ?_];rcases List.mem_append.mp (hl e hm)with z | z
    ·exact K.src e z
    ·have:e=(p,q):=by simpa using z
     rw[this];exact hp
  rw[hfc _ fun e hm=>(gD.mp hm).1,DO,m8 hll];by_cases e:u=q
  ·subst e;rw[if_pos rfl,if_pos rfl,Lw,<-K.eq u hu]
  ·rw[if_neg e,if_neg (fun z=>e z.symm)];exact K.eq u hu
 ·intro i v hv;by_cases e:v=q
  ·subst e;rw[m8 hll,if_pos rfl]
   split at hv
   ·have hi:i=ready.length:=by
     rcases Nat.lt_or_ge i ready.length with z | z
     ·rw[List.getElem?_append_left z]at hv;exact absurd (List.mem_of_getElem? hv) hqr
     ·have:=(List.getElem?_eq_some_iff.mp hv).1;simp at this;lia
    have h1:=K.SK v hq;have h2:=K.le;lia
   ·exact absurd (List.mem_of_getElem? hv) hqr
  ·rw[m8 hll,if_neg e]
   split at hv
   ·rcases Nat.lt_or_ge i ready.length with z | z
    ·rw[List.getElem?_append_left z]at hv;exact K.pos i v hv
    ·rw[List.getElem?_append_right z]at hv;have:v∈[q]:=List.mem_of_getElem? hv;have:v=q:=by simpa using this
     exact absurd this e
   ·exact K.pos i v hv
 ·intro u hu;rw[m8 hll]
  split
  ·have:=K.SK q hq;lia
  ·exact K.SK u hu
 ·have:=K.le
  split
  ·rw[List.length_append];lia
  ·exact this
def Ky(g:Graph)(p:Nat):Graph:=(below g p).map fun q=>(p,q)
def proc(g:Graph)(l:List Nat):Graph:=l.flatMap (Ky g)
theorem DQ{g:Graph}{p:Nat}{e:Nat×Nat}:e∈Ky g p↔e∈g∧e.1=p:=by
 unfold Ky;rw[List.mem_map];constructor
 ·rintro ⟨q,hq,rfl⟩
  exact⟨gh.mp hq,rfl⟩
 ·rintro ⟨h,rfl⟩
  exact⟨e.2,gh.mpr h,rfl⟩
theorem z8{g:Graph}{l:List Nat}{e:Nat×Nat}:e∈proc g l↔e∈g∧e.1∈l:=by
 unfold proc;rw[List.mem_flatMap];constructor
 ·rintro ⟨p,hp,he⟩
  have:=DQ.mp he;exact⟨this.1,this.2 ▸ hp⟩
 ·rintro ⟨h,hm⟩
  exact⟨e.1,hm,DQ.mpr ⟨h,rfl⟩⟩
def uD(g:Graph)(n i:Nat)(ready aR lv:List Nat):Prop:=Iq g n (proc g (ready.take i)) ready aR lv i
structure z9(g:Graph)(n i p j:Nat)(ready aR lv:List Nat):Prop where
 st:Iq g n (proc g (ready.take i)++((below g p).take j).map fun q=>(p,q)) ready aR lv (i+1)
 here:ready[i]? = some p
theorem uD.start{g:Graph}{n i p:Nat}{ready aR lv:List Nat}(K:uD g n i ready aR lv)(h:ready[i]? = some p):z9 g n i p 0 ready aR lv:=by
 have hl:=(List.getElem?_eq_some_iff.mp h).1;have K':Iq g n (proc g (ready.take i)) ready aR lv i:=K;refine⟨?_,h⟩;rw[List.take_zero,List.map_nil,List.append_nil];exact { K' with SK:=fun q hq=>by have:=K'.SK q hq;lia,le:=hl }
theorem z9.NQ{g:Graph}{n i p j q:Nat}{ready aR lv:List Nat}(U:Up g)(K:z9 g n i p j ready aR lv)(h:(below g p)[j]? = some q):(p,q) ∉ proc g (ready.take i)++((below g p).take j).map fun q=>(p,q):=by
 intro hm;have hlt:=(List.getElem?_eq_some_iff.mp h).1;rcases List.mem_append.mp hm with z | z
 ·have:=(z8.mp z).2;obtain⟨k,hk⟩:=List.mem_iff_getElem?.mp this;rw[List.getElem?_take]at hk
  split at hk
  ·rename_i hki;obtain⟨l1,e1⟩:=List.getElem?_eq_some_iff.mp hk;obtain⟨l2,e2⟩:=List.getElem?_eq_some_iff.mp K.here;have:=(List.getElem_inj (h₀:=l1) (h₁:=l2) K.st.nd).mp (e1.trans e2.symm);lia
  ·cases hk
 ·rw[List.mem_map]at z;obtain⟨x,hx,e⟩:=z;injection e with _ e
  subst e;obtain⟨k,hk⟩:=List.mem_iff_getElem?.mp hx;rw[List.getElem?_take]at hk
  split at hk
  ·rename_i hki;obtain⟨l1,e1⟩:=List.getElem?_eq_some_iff.mp hk;obtain⟨l2,e2⟩:=List.getElem?_eq_some_iff.mp h;have:=List.pairwise_iff_getElem.mp (F_ U p) k j l1 l2 hki;lia
  ·cases hk
theorem z9.aR{g:Graph}{n i p j q:Nat}{ready aR lv:List Nat}(S:Small g n)(U:Up g)(K:z9 g n i p j ready aR lv)(h:(below g p)[j]? = some q):1<=dD aR q:=
 K.st.room (S _ _ (gh.mp (List.mem_of_getElem? h))).2 (gh.mp (List.mem_of_getElem? h)) (K.NQ U h)
theorem z9.step{g:Graph}{n i p j q:Nat}{ready aR lv:List Nat}(S:Small g n)(U:Up g)(K:z9 g n i p j ready aR lv)(h:(below g p)[j]? = some q) :
  z9 g n i p (j+1) (if dD aR q - 1=0 then ready++[q]else ready) (aR.set q (dD aR q - 1)) (lv.set q (max (dD lv q) (dD lv p+1))):=by
 have hil:=(List.getElem?_eq_some_iff.mp K.here).1;have hpos:=K.st.pos i p K.here;have st:=K.st.take S (gh.mp (List.mem_of_getElem? h)) (K.NQ U h) (List.mem_of_getElem? K.here) (by lia);have et:(if dD aR q - 1=0 then ready++[q]else ready).take i=ready.take i:=by
  split
  ·rw[List.take_append_of_le_length (by lia)]
  ·rfl
 refine⟨?_,?_⟩
 ·rw[et,aQ h,List.map_append,<-List.append_assoc];exact st
 ·split
  ·rw[List.getElem?_append_left hil];exact K.here
  ·exact K.here
theorem z9.done{g:Graph}{n i p j:Nat}{ready aR lv:List Nat}(K:z9 g n i p j ready aR lv)(h:(below g p).length<=j):uD g n (i+1) ready aR lv:=by
 have st:=K.st;rw[List.take_of_length_le h]at st;have e:proc g (ready.take (i+1))=proc g (ready.take i)++(below g p).map fun q=>(p,q):=by
  rw[aQ K.here];unfold proc;rw[List.flatMap_append];simp[Ky]
 show Iq g n (proc g (ready.take (i+1))) ready aR lv (i+1);rw[e];exact st
theorem uD.init{g:Graph}{n:Nat}{ready aR:List Nat}(hw:aR=(List.range n).map fun q=>(bH g q).length)(hr:ready=(List.range n).filter fun k=>dD aR k == 0):uD g n 0 ready aR (List.replicate n 1):=by
 have hwl:aR.length=n:=by rw[hw];simp
 have hwt:∀q,q<n->dD aR q=(into g q).length:=fun q hq=>by
  rw[hw];unfold dD;rw[List.getD_eq_getElem?_getD,List.getElem?_map,List.getElem?_range hq];exact Ip g q
 have hl1:∀q,q<n->dD (List.replicate n 1) q=1:=fun q hq=>by
  unfold dD;rw[List.getD_eq_getElem?_getD,List.getElem?_replicate,if_pos hq];rfl
 show Iq g n (proc g (ready.take 0)) ready aR (List.replicate n 1) 0;have e0:proc g (ready.take 0)=[]:=rfl;rw[e0];constructor
 ·exact hwl
 ·simp
 ·rw[hr];exact List.nodup_range.filter _
 ·intro v hv;rw[hr]at hv;exact List.mem_range.mp (List.mem_filter.mp hv).1
 ·intro e he;cases he
 ·exact List.nodup_nil
 ·intro e he;cases he
 ·intro q hq;rw[hwt q hq];rfl
 ·intro q hq;rw[hr,List.mem_filter,List.mem_range];simp[hq]
 ·intro q hq;rw[hl1 q hq];rfl
 ·intro i v hv;have hm:v∈ready:=List.mem_of_getElem? hv;rw[hr]at hm;rw[hl1 v (List.mem_range.mp (List.mem_filter.mp hm).1)];lia
 ·intro q hq;rw[hl1 q hq];lia
 ·exact Nat.zero_le _
theorem uD.len{g:Graph}{n i:Nat}{ready aR lv:List Nat}(K:uD g n i ready aR lv):ready.length<=n:=gC n ready (Iq.nd K) (Iq.lt K)
theorem ED{g:Graph}{n:Nat}{lv:List Nat}(S:Small g n)(hl:lv.length=n)(he:∀q,q<n->dD lv q=z7 (fun e=>dD lv e.1+1) (into g q))(hb:∀q,q<n->dD lv q<=n+1):Vbpcan.levels g n=lv:=by
 have ge1:∀q,q<n->1<=dD lv q:=fun q hq=>by rw[he q hq];exact mB _ _ 1
 have len:∀k,(levelsFrom g n k).length=n:=fun k=>by
  cases k with
  | zero=>simp[levelsFrom]
  | succ k=>simp[levelsFrom]
 have key:∀k q,q<n->dD lv q<=k+1->dD (levelsFrom g n k) q=dD lv q:=by
  intro k
  induction k with
  | zero=>
   intro q hq h;have:=ge1 q hq;have e:dD (levelsFrom g n 0) q=1:=by
    unfold dD levelsFrom;rw[List.getD_eq_getElem?_getD,List.getElem?_replicate,if_pos hq];rfl
   lia
  | succ k ih=>
   intro q hq h;have e:dD (levelsFrom g n (k+1)) q=z7 (fun e=>dD (levelsFrom g n k) e.1+1) (into g q):=by
    show dD ((List.range n).map fun u=>(g.filter fun e=>e.2 == u).foldl (fun m e=>max m ((levelsFrom g n k).getD e.1 0+1)) 1) q=_;unfold dD;rw[List.getD_eq_getElem?_getD,List.getElem?_map,List.getElem?_range hq];rfl
   rw[e,he q hq];refine vZ (fun _=>Iff.rfl) fun x hx=>?_
   have hx':=gD.mp hx;have h1:=(S x.1 x.2 hx'.1).1;have h2:dD lv x.1+1<=dD lv q:=by
    rw[he q hq];exact kU (fun e=>dD lv e.1+1) _ 1 x hx
   show dD (levelsFrom g n k) x.1+1=dD lv x.1+1;rw[ih x.1 h1 (by lia)]
 unfold Vbpcan.levels;apply List.ext_getElem?;intro i;rcases Nat.lt_or_ge i n with h | h
 ·have:=key n i h (hb i h);unfold dD at this;rw[List.getD_eq_getElem?_getD,List.getD_eq_getElem?_getD,List.getElem?_eq_getElem (by rw[len];exact h),List.getElem?_eq_getElem (by rw[hl];exact h)]at this;rw[List.getElem?_eq_getElem (by rw[len];exact h),List.getElem?_eq_getElem (by rw[hl];exact h)];exact congrArg some this
 ·rw[List.getElem?_eq_none (by rw[len];exact h),List.getElem?_eq_none (by rw[hl];exact h)]
theorem uD.full{g:Graph}{n i:Nat}{ready aR lv:List Nat}(S:Small g n)(K:uD g n i ready aR lv)(h:ready.length<=i)(hf:n<=i):Vbpcan.levels g n=lv∧Vbpcan.ring g n=[]:=by
 have K':Iq g n (proc g (ready.take i)) ready aR lv i:=K;have hi:=K'.le;have hln:=K.len;have hall:∀v,v<n->v∈ready:=Io n ready K'.nd K'.lt (by lia);rw[List.take_of_length_le h]at K';have hes:∀e,e∈proc g ready↔e∈g:=fun e=>by
  rw[z8];constructor
  ·intro z;exact z.1
  ·intro z;exact⟨z,hall _ (S e.1 e.2 z).1⟩
 have heq:∀q,q<n->dD lv q=z7 (fun e=>dD lv e.1+1) (into g q):=fun q hq=>by
  rw[K'.eq q hq];refine vZ (fun x=>?_) fun _ _=>rfl
  rw[gD,gD,hes]
 refine⟨ED S K'.ll heq fun q hq=>?_,?_⟩
 ·obtain⟨j,hj⟩:=List.mem_iff_getElem?.mp (hall q hq);have:=K'.pos j q hj;have:=(List.getElem?_eq_some_iff.mp hj).1;lia
 ·rw[uC S];intro u hu;refine DK S fun k h1 _ hw=>?_
  have grow:∀k u v,Walk g k u v->u<n->dD lv u+k<=dD lv v:=by
   intro k
   induction k with
   | zero=>
    intro u v hw _;have e:u=v:=hw;rw[e];lia
   | succ k ih=>
    rintro u v ⟨w,e,hw⟩ hu
    have hwn:=(S _ _ e).2;have:=ih w v hw hwn;have h2:dD lv u+1<=dD lv w:=by
     rw[heq w hwn];exact kU (fun e=>dD lv e.1+1) _ 1 (u,w) (gD.mpr ⟨e,rfl⟩)
    lia
  have:=grow k u u hw hu;lia
theorem v_{g:Graph}{n:Nat}(S:Small g n)(bad:Nat->Prop)(hb:∀v,bad v->v<n)(back:∀v,bad v->∃u,bad u∧(u,v)∈g){v:Nat}(hv:bad v):Vbpcan.ring g n≠[]:=by
 have chain:∀k,∃xs:List Nat,xs.length=k+1∧(∀x,x∈xs->bad x)∧∀(i j a b:Nat),i<j->xs[i]? = some a->xs[j]? = some b->Walk g (j - i) b a:=by
  intro k
  induction k with
  | zero=>
   refine⟨[v],rfl,fun x hx=>?_,fun i j a b hij ha hb=>?_⟩
   ·have:x=v:=by simpa using hx
    rw[this];exact hv
   ·have:=(List.getElem?_eq_some_iff.mp hb).1;simp at this;lia
  | succ k ih=>
   obtain⟨xs,hl,hbad,hw⟩:=ih;obtain⟨y,hy⟩:∃y,xs[k]? = some y:=⟨xs[k]'(by lia),List.getElem?_eq_getElem (by lia)⟩;obtain⟨u,hu,e⟩:=back y (hbad y (List.mem_of_getElem? hy));refine⟨xs++[u],by simp[hl],fun x hx=>?_,fun i j a b hij ha hb=>?_⟩
   ·rcases List.mem_append.mp hx with z | z
    ·exact hbad x z
    ·have:x=u:=by simpa using z
     rw[this];exact hu
   ·have hjl:=(List.getElem?_eq_some_iff.mp hb).1;simp[hl]at hjl;rw[List.getElem?_append_left (by lia)]at ha;rcases Nat.lt_or_ge j xs.length with q | q
    ·rw[List.getElem?_append_left q]at hb;exact hw i j a b hij ha hb
    ·rw[List.getElem?_append_right q]at hb;have hj:j=k+1:=by lia
     subst hj;rw[hl,Nat.sub_self]at hb;have hbu:u=b:=by simpa using hb
     subst hbu;rcases Nat.lt_or_ge i k with z | z
     ·have h1:=hw i k a y z ha hy;have e2:k+1 - i=(k - i)+1:=by lia
      rw[e2];exact⟨y,e,h1⟩
     ·have hi:i=k:=by lia
      subst hi;rw[hy]at ha;have:y=a:=Option.some.inj ha;subst this;have e2:i+1 - i=1:=by lia
      rw[e2];exact Walk.one e
 obtain⟨xs,hl,hbad,hw⟩:=chain n;intro hr;rw[uC S]at hr;have hnd:xs.Nodup:=by
  unfold List.Nodup;rw[List.pairwise_iff_getElem];intro i j hi hj hij e;have h1:=hw i j xs[i] xs[j] hij (List.getElem?_eq_getElem hi) (List.getElem?_eq_getElem hj);rw[<-e]at h1;have hbi:=hb _ (hbad xs[i] (List.getElem_mem hi));exact xX S (hr xs[i] hbi) (j - i) (by lia) (by lia) h1
 have:=gC n xs hnd fun x hx=>hb x (hbad x hx)
 lia
theorem uD.stuck{g:Graph}{n i:Nat}{ready aR lv:List Nat}(S:Small g n)(U:Up g)(K:uD g n i ready aR lv)(h:ready.length<=i)(hf:i<n):Vbpcan.ring g n≠[]:=by
 have K':Iq g n (proc g (ready.take i)) ready aR lv i:=K;rw[List.take_of_length_le h]at K';obtain⟨v,hv,hvn⟩:∃v,v<n∧v ∉ ready:=by
  apply Classical.byContradiction;intro hno;have hall:∀x,x<n->x∈ready:=fun x hx=>Classical.byContradiction fun hn=>hno ⟨x,hx,hn⟩
  have:=fh (l:=List.range n) (m:=ready) List.nodup_range fun x hx=>hall x (List.mem_range.mp hx)
  simp at this;lia
 refine v_ S (fun v=>v<n∧v ∉ ready) (fun v h=>h.1) (fun v ⟨hv,hvn⟩=>?_) ⟨hv,hvn⟩;have hw:dD aR v≠0:=fun e=>hvn ((K'.Uc v hv).mpr e)
 have h1:=K'.wt v hv;have h2:∃e,e∈into g v∧e ∉ into (proc g ready) v:=by
  apply Classical.byContradiction;intro hno;have hsub:∀e,e∈into g v->e∈into (proc g ready) v:=fun e he=>Classical.byContradiction fun hn=>hno ⟨e,he,hn⟩
  have hnd:(into g v).Nodup:=by
   refine List.Pairwise.filter _ ?_;refine U.imp ?_;intro a b hab e;subst e;unfold zZ at hab;lia
  have:=fh hnd hsub;lia
 obtain⟨⟨a,b⟩,he,hne⟩:=h2;have he':=gD.mp he;have hb:b=v:=he'.2;subst hb;refine⟨a,⟨(S _ _ he'.1).1,fun hr=>hne ?_⟩,he'.1⟩;exact gD.mpr ⟨z8.mpr ⟨he'.1,hr⟩,rfl⟩
end Pc
end
section
namespace Pc
open Vbpcan
theorem sU{z:Nat}:∀{l:List Nat} {x:Nat},x∈putNat z l↔x=z∨x∈l
 | [],x=>by simp[putNat]
 | y::l,x=>by
  unfold putNat
  split
  ·simp
  ·split
   ·rename_i h;subst h;simp
   ·rw[List.mem_cons,sU,List.mem_cons];constructor
    ·rintro (h | h | h)
     ·exact .inr (.inl h)
     ·exact .inl h
     ·exact .inr (.inr h)
    ·rintro (h | h | h)
     ·exact .inr (.inl h)
     ·exact .inl h
     ·exact .inr (.inr h)
theorem DR{z:Nat}:∀{l:List Nat},l.Pairwise (· < ·)->(putNat z l).Pairwise (· < ·)
 | [],_=>by simp[putNat]
 | y::l,h=>by
  unfold putNat;have h':=List.pairwise_cons.mp h
  split
  ·rename_i hz;refine List.pairwise_cons.mpr ⟨fun x hx=>?_,h⟩;rcases List.mem_cons.mp hx with q | q
   ·rw[q];exact hz
   ·have:=h'.1 x q;lia
  ·split
   ·exact h
   ·refine List.pairwise_cons.mpr ⟨fun x hx=>?_,DR h'.2⟩;rcases sU.mp hx with q | q
    ·lia
    ·exact h'.1 x q
theorem uE:∀(l acc:List Nat),acc.Pairwise (· < ·)->(l.foldl (fun l n=>if n=0 then l else putNat n l) acc).Pairwise (· < ·)∧∀x,x∈l.foldl (fun l n=>if n=0 then l else putNat n l) acc↔x∈acc∨(x≠0∧x∈l)
 | [],acc,h=>⟨h,fun x=>by simp⟩
 | y::l,acc,h=>by
  simp only[List.foldl_cons];by_cases e:y=0
  ·rw[if_pos e];have:=uE l acc h;refine⟨this.1,fun x=>?_⟩;rw[this.2,List.mem_cons];constructor
   ·rintro (q | ⟨q,r⟩)
    ·exact .inl q
    ·exact .inr ⟨q,.inr r⟩
   ·rintro (q | ⟨q,r | r⟩)
    ·exact .inl q
    ·exact absurd (r.trans e) q
    ·exact .inr ⟨q,r⟩
  ·rw[if_neg e];have:=uE l (putNat y acc) (DR h);refine⟨this.1,fun x=>?_⟩;rw[this.2,List.mem_cons,sU];constructor
   ·rintro ((q | q) | ⟨q,r⟩)
    ·exact .inr ⟨q ▸ e,.inl q⟩
    ·exact .inl q
    ·exact .inr ⟨q,.inr r⟩
   ·rintro (q | ⟨q,r | r⟩)
    ·exact .inl (.inr q)
    ·exact .inl (.inl r)
    ·exact .inr ⟨q,r⟩
theorem Kz(s:State):(nets s).Pairwise (· < ·):=(uE _ [] List.Pairwise.nil).1
theorem mC{s:State}{n:Nat}:n∈nets s↔n≠0∧(n∈s.top∨n∈s.low):=by
 unfold nets;rw[(uE _ [] List.Pairwise.nil).2];simp
structure Cq(s:State):Prop where
 len:s.low.length=s.top.length
 cols:s.top.length<=48
 top:∀x,x∈s.top->x<=999
 low:∀x,x∈s.low->x<=999
theorem mD{s:State}{n c:Nat}:c∈pinsOf s n↔c<s.top.length∧(at_ s.top c=n∨at_ s.low c=n):=by
 unfold pinsOf columns;rw[List.mem_filter,List.mem_range];simp
theorem DS(s:State)(n:Nat):(pinsOf s n).Pairwise (· < ·):=List.Pairwise.filter _ List.pairwise_lt_range
theorem NR{l:List Nat}{c:Nat}(h:c<l.length):at_ l c∈l:=by
 unfold at_;rw[List.getD_eq_getElem?_getD,List.getElem?_eq_getElem h];exact List.getElem_mem h
theorem NS{l:List Nat}{x:Nat}(h:x∈l):∃c,c<l.length∧at_ l c=x:=by
 obtain⟨c,hc,e⟩:=List.mem_iff_getElem.mp h;refine⟨c,hc,?_⟩;unfold at_;rw[List.getD_eq_getElem?_getD,List.getElem?_eq_getElem hc];exact e
theorem mj{s:State}{n:Nat}(F:Cq s)(h:n∈nets s):pinsOf s n≠[]:=by
 obtain⟨_,h⟩:=mC.mp h;have:∃c,c∈pinsOf s n:=by
  rcases h with h | h
  ·obtain⟨c,hc,e⟩:=NS h;exact⟨c,mD.mpr ⟨hc,.inl e⟩⟩
  ·obtain⟨c,hc,e⟩:=NS h;exact⟨c,mD.mpr ⟨by rw[<-F.len];exact hc,.inr e⟩⟩
 intro e;obtain⟨c,hc⟩:=this;rw[e]at hc;cases hc
def cQ(s:State)(i n:Nat):List Nat:=(List.range i).filter fun c=>at_ s.top c == n || at_ s.low c == n
def half(s:State)(i:Nat)(n:Nat):List Nat:=cQ s i n++(if Vbpcan.at_ s.top i=n then [i]else [])
theorem DT{s:State}{i n c:Nat}(h:c∈cQ s i n):c<i:=by
 unfold cQ at h;exact List.mem_range.mp (List.mem_filter.mp h).1
theorem Gb(s:State)(i n:Nat):cQ s (i+1) n=if i∈half s i n then half s i n else half s i n++(if Vbpcan.at_ s.low i=n then [i]else []):=by
 have hni:i ∉ cQ s i n:=fun h=>Nat.lt_irrefl i (DT h)
 unfold half;unfold cQ at hni ⊢;rw[List.range_succ,List.filter_append];by_cases h1:Vbpcan.at_ s.top i=n
 ·simp[h1]
 ·by_cases h2:Vbpcan.at_ s.low i=n
  ·simp[h1,h2]
  ·simp[h1,h2]
theorem Gd{c:Nat}{r:List Nat}:(c::r)[r.length]? = some (r.getLastD c):=by
 rw[List.getLastD_eq_getLast?,List.getLast?_eq_getElem?];cases r with
 | nil=>rfl
 | cons x r=>
  simp
theorem l6{s:State}{n:Nat}(h:s.cut=true)(hl:1<(pinsOf s n).length):piecesOf s n=(List.range ((pinsOf s n).length - 1)).map fun k=>⟨n,(pinsOf s n).getD k 0,(pinsOf s n).getD (k+1) 0⟩:=by
 unfold piecesOf
 split
 ·rename_i e;rw[e]at hl;simp at hl
 ·rename_i c e;rw[e]at hl;simp at hl
 ·rename_i c r hr e;rw[if_pos h,e];apply List.ext_getElem?;intro i;rw[List.getElem?_map,List.getElem?_map];rcases Nat.lt_or_ge i r.length with q | q
  ·rw[List.getElem?_range (by simp;exact q)];have h1:((c::r).zip r)[i]? = some ((c::r)[i]'(by simp;lia),r[i]):=by
    rw[List.getElem?_zip_eq_some];exact⟨List.getElem?_eq_getElem _,List.getElem?_eq_getElem _⟩
   rw[h1];simp only[Option.map_some]
   congr 2
   ·rw[List.getD_eq_getElem?_getD,List.getElem?_eq_getElem (by simp;lia)];rfl
   ·rw[List.getD_eq_getElem?_getD,List.getElem?_cons_succ,List.getElem?_eq_getElem q];rfl
  ·have h1:((c::r).zip r)[i]? = none:=by
    rw[List.getElem?_eq_none_iff,List.length_zip];simp;lia
   have h2:(List.range ((c::r).length - 1))[i]? = none:=by
    rw[List.getElem?_eq_none_iff];simp;lia
   rw[h1,h2];rfl
theorem jR{s:State}{n:Nat}(h:s.cut=false∨¬1<(pinsOf s n).length)(hne:pinsOf s n≠[]):piecesOf s n=[⟨n,(pinsOf s n).getD 0 0,(pinsOf s n).getD ((pinsOf s n).length - 1) 0⟩]:=by
 unfold piecesOf
 split
 ·rename_i e;exact absurd e hne
 ·rename_i c e;rw[e];rfl
 ·rename_i c r hr e;have hc:¬s.cut=true:=by
   rcases h with h | h
   ·rw[h];simp
   ·rw[e]at h;cases r with
    | nil=>exact absurd rfl hr
    | cons x r=>simp at h
  rw[if_neg hc,e];have:=Gd (c:=c) (r:=r);rw[List.getD_eq_getElem?_getD,List.getD_eq_getElem?_getD,List.length_cons,Nat.add_sub_cancel,this];rfl
theorem getD_mem{l:List Nat}{i:Nat}(h:i<l.length):l.getD i 0∈l:=by
 rw[List.getD_eq_getElem?_getD,List.getElem?_eq_getElem h];exact List.getElem_mem h
theorem EE{l:List Nat}(hl:l.Pairwise (· < ·)){i j:Nat}(h:i<=j)(hj:j<l.length):l.getD i 0<=l.getD j 0:=by
 rcases Nat.lt_or_ge i j with q | q
 ·have:=List.pairwise_iff_getElem.mp hl i j (by lia) hj q;rw[List.getD_eq_getElem?_getD,List.getD_eq_getElem?_getD,List.getElem?_eq_getElem hj,List.getElem?_eq_getElem (by lia:i<l.length)];simp;lia
 ·have:i=j:=by lia
  rw[this];lia
theorem EF{s:State}{n:Nat}{p:Piece}(h:p∈piecesOf s n):p.net=n∧p.l∈pinsOf s n∧p.r∈pinsOf s n∧p.l<=p.r:=by
 have hup:=DS s n;by_cases hne:pinsOf s n=[]
 ·unfold piecesOf at h;rw[hne]at h;cases h
 ·have hl:0<(pinsOf s n).length:=List.length_pos_iff.mpr hne;by_cases hc:s.cut=true∧1<(pinsOf s n).length
  ·rw[l6 hc.1 hc.2,List.mem_map]at h;obtain⟨k,hk,rfl⟩:=h;rw[List.mem_range]at hk;exact⟨rfl,getD_mem (by lia),getD_mem (by lia),EE hup (by lia) (by lia)⟩
  ·rw[jR (by
    by_cases z:s.cut=true
    ·exact .inr fun q=>hc ⟨z,q⟩
    ·exact .inl (by simpa using z)) hne]at h
   have:=List.mem_singleton.mp h;subst this;exact⟨rfl,getD_mem (by lia),getD_mem (by lia),EE hup (by lia) (by lia)⟩
theorem sV{s:State}{p:Piece}(h:p∈pieces s):p.net∈nets s∧p.net≠0∧p.l<=p.r∧p.r<s.top.length∧p.l∈pinsOf s p.net∧p.r∈pinsOf s p.net:=by
 unfold pieces at h;rw[List.mem_flatMap]at h;obtain⟨n,hn,hp⟩:=h;obtain⟨h1,h2,h3,h4⟩:=EF hp;rw[h1];exact⟨hn,(mC.mp hn).1,h4,(mD.mp h3).1,h2,h3⟩
theorem uF(s:State)(n:Nat):(piecesOf s n).length<=(pinsOf s n).length:=by
 by_cases hne:pinsOf s n=[]
 ·unfold piecesOf;rw[hne];simp
 ·have hl:0<(pinsOf s n).length:=List.length_pos_iff.mpr hne;by_cases hc:s.cut=true∧1<(pinsOf s n).length
  ·rw[l6 hc.1 hc.2];simp
  ·rw[jR (by
    by_cases z:s.cut=true
    ·exact .inr fun q=>hc ⟨z,q⟩
    ·exact .inl (by simpa using z)) hne]
   simp
   lia
def aT(s:State)(n c:Nat):List Nat:=(List.range (pieces s).length).filter fun k=>match (pieces s)[k]? with
 | some p=>p.net == n && covers p c
 | none=>false
theorem l7{s:State}{n c k:Nat}:k∈aT s n c↔∃p,(pieces s)[k]? = some p∧p.net=n∧p.l<=c∧c<=p.r:=by
 unfold aT;rw[List.mem_filter,List.mem_range];constructor
 ·rintro ⟨h,hm⟩
  rw[List.getElem?_eq_getElem h]at hm;simp[covers]at hm;exact⟨_,List.getElem?_eq_getElem h,hm.1,hm.2.1,hm.2.2⟩
 ·rintro ⟨p,hp,h1,h2,h3⟩
  refine⟨(List.getElem?_eq_some_iff.mp hp).1,?_⟩;rw[hp];simp[covers,h1,h2,h3]
theorem cX{α:Type}{l:List α}{x:Nat×α}:x∈(List.range l.length).zip l↔l[x.1]? = some x.2:=by
 constructor
 ·intro h;obtain⟨i,hi⟩:=List.mem_iff_getElem?.mp h;rw[List.getElem?_zip_eq_some]at hi;have hl:=(List.getElem?_eq_some_iff.mp hi.2).1;rw[List.getElem?_range hl]at hi;have:i=x.1:=Option.some.inj hi.1;rw[<-this];exact hi.2
 ·intro h;have hl:=(List.getElem?_eq_some_iff.mp h).1;refine List.mem_iff_getElem?.mpr ⟨x.1,?_⟩;rw[List.getElem?_zip_eq_some,List.getElem?_range hl];exact⟨rfl,h⟩
theorem jI{α:Type}(l:List α):((List.range l.length).zip l).Pairwise fun a b=>a.1<b.1:=by
 rw[List.pairwise_iff_getElem];intro i j hi hj hij;rw[List.getElem_zip,List.getElem_zip];simp;exact hij
theorem pV{s:State}{p q:Nat}:(p,q)∈graphOf s↔∃P Q,(pieces s)[p]? = some P∧(pieces s)[q]? = some Q∧above s P Q=true:=by
 unfold graphOf;simp only[List.mem_flatMap,List.mem_filterMap];constructor
 ·rintro ⟨⟨a,P⟩,ha,⟨b,Q⟩,hb,he⟩
  split at he
  ·rename_i hab;injection he with he
   injection he with e1 e2
   have h1:=cX.mp ha;have h2:=cX.mp hb;simp only at e1 e2 h1 h2;subst e1 e2;exact⟨P,Q,h1,h2,hab⟩
  ·cases he
 ·rintro ⟨P,Q,h1,h2,hab⟩
  refine⟨(p,P),cX.mpr h1,(q,Q),cX.mpr h2,?_⟩;rw[if_pos hab]
theorem a8(s:State):Small (graphOf s) (pieces s).length:=by
 intro a b h;obtain⟨P,Q,h1,h2,_⟩:=pV.mp h;exact⟨(List.getElem?_eq_some_iff.mp h1).1,(List.getElem?_eq_some_iff.mp h2).1⟩
theorem z_{α:Type}{l:List (Nat×α)}(hl:l.Pairwise fun a b=>a.1<b.1)(f:Nat×α->List (Nat×Nat))(h1:∀x e,e∈f x->e.1=x.1)(h2:∀x,x∈l->(f x).Pairwise zZ):(l.flatMap f).Pairwise zZ:=by
 induction l with
 | nil=>simp
 | cons x l ih=>
  rw[List.pairwise_cons]at hl;rw[List.flatMap_cons,List.pairwise_append];refine⟨h2 x (by simp),ih hl.2 fun y hy=>h2 y (List.mem_cons_of_mem _ hy),?_⟩;intro a ha b hb;rw[List.mem_flatMap]at hb;obtain⟨y,hy,hb⟩:=hb;have:=hl.1 y hy;have e1:=h1 x a ha;have e2:=h1 y b hb;unfold zZ;lia
theorem jw(s:State):Up (graphOf s):=by
 unfold graphOf Up;refine z_ (jI _) _ ?_ ?_
 ·intro x e he;rw[List.mem_filterMap]at he;obtain⟨y,_,he⟩:=he
  split at he
  ·injection he with he
   rw[<-he]
  ·cases he
 ·intro x _;rw[List.pairwise_filterMap];refine(jI _).imp ?_;intro a b hab e he e' he'
  split at he
  ·split at he'
   ·injection he with he
    injection he' with he'
    rw[<-he,<-he'];exact .inr ⟨rfl,hab⟩
   ·cases he'
  ·cases he
theorem uG{s:State}{p q:Nat}:(p,q)∈graphOf s↔∃c,c<s.top.length∧at_ s.top c≠at_ s.low c∧p∈aT s (at_ s.top c) c∧q∈aT s (at_ s.low c) c:=by
 rw[pV];simp only[l7];constructor
 ·rintro ⟨P,Q,h1,h2,h⟩
  unfold above at h;simp[columns,covers]at h;obtain⟨hne,c,hc,e1,e2,h3,h4⟩:=h;exact⟨c,hc,by rw[e1,e2];exact hne,⟨P,h1,e1.symm,h3.1,h3.2⟩,⟨Q,h2,e2.symm,h4.1,h4.2⟩⟩
 ·rintro ⟨c,hc,hne,⟨P,h1,e1,h3,h3'⟩,⟨Q,h2,e2,h4,h4'⟩⟩
  refine⟨P,Q,h1,h2,?_⟩;unfold above;simp[columns,covers];rw[e1,e2];exact⟨hne,c,hc,rfl,rfl,⟨h3,h3'⟩,⟨h4,h4'⟩⟩
def spans(s:State)(c n:Nat):Bool:=match pinsOf s n with
 | []=>false
 | d::r=>decide (d<=c∧c<=r.getLastD d)
theorem Qi(s:State)(c:Nat):over s c=((nets s).filter (spans s c)).length:=rfl
theorem Ge{s:State}{c n:Nat}(h:pinsOf s n≠[]):spans s c n=decide ((pinsOf s n).getD 0 0<=c∧c<=(pinsOf s n).getD ((pinsOf s n).length - 1) 0):=by
 unfold spans
 split
 ·rename_i e;exact absurd e h
 ·rename_i d r e;rw[e];have:=Gd (c:=d) (r:=r);rw[List.getD_eq_getElem?_getD,List.getD_eq_getElem?_getD,List.length_cons,Nat.add_sub_cancel,this];rfl
def jS(s:State)(i c:Nat):Nat:=(((nets s).take i).filter (spans s c)).length
theorem Gf{s:State}{i n c:Nat}(h:(nets s)[i]? = some n):jS s (i+1) c=jS s i c+if spans s c n=true then 1 else 0:=by
 unfold jS;rw[aQ h,List.filter_append,List.length_append]
 congr 1
 by_cases e:spans s c n=true
 ·simp[e]
 ·simp[e]
theorem Ir(s:State)(c:Nat):jS s (nets s).length c=over s c:=by
 unfold jS;rw[List.take_length];rfl
theorem Aa(s:State):density s=((columns s).map (over s)).foldl max 0:=by
 unfold density;rw[List.foldl_map]
end Pc
end
section
namespace Pc
open Vbpcan
theorem RB{l:List Nat}(h:l.Nodup)(a b:Nat):(l.filter fun n=>a == n || b == n).length<=2:=by
 have h1:(l.filter fun n=>a == n || b == n).Nodup:=List.Pairwise.filter _ h;have h2:=fh (m:=[a,b]) h1 fun x hx=>by
  have:=(List.mem_filter.mp hx).2;simp at this ⊢;rcases this with q | q
  ·exact .inl q.symm
  ·exact .inr q.symm
 simpa using h2
theorem sW(s:State){l:List Nat}(h:l.Nodup):∀i,(l.map fun n=>(cQ s i n).length).sum<=2 * i
 | 0=>by
  have:(l.map fun n=>(cQ s 0 n).length)=l.map fun _=>0:=List.map_congr_left fun n _=>rfl
  rw[this]
  clear this h
  induction l with
  | nil=>simp
  | cons x l ih=>simpa using ih
 | i+1=>by
  have ih:=sW s h i;have e:∀n,(cQ s (i+1) n).length=(cQ s i n).length+if (at_ s.top i == n || at_ s.low i == n)=true then 1 else 0:=fun n=>by
   unfold cQ;rw[List.range_succ,List.filter_append,List.length_append]
   congr 1
   by_cases q:(at_ s.top i == n || at_ s.low i == n)=true
   ·rw[if_pos q,List.filter_cons,if_pos q];rfl
   ·rw[if_neg q,List.filter_cons,if_neg q];rfl
  have e2:∀l:List Nat,(l.map fun n=>(cQ s (i+1) n).length).sum=(l.map fun n=>(cQ s i n).length).sum+(l.filter fun n=>at_ s.top i == n || at_ s.low i == n).length:=by
   intro l
   induction l with
   | nil=>rfl
   | cons x l ih=>
    rw[List.map_cons,List.map_cons,List.sum_cons,List.sum_cons,ih,e x,List.filter_cons];by_cases q:(at_ s.top i == x || at_ s.low i == x)=true
    ·rw[if_pos q,if_pos q,List.length_cons];lia
    ·rw[if_neg q,if_neg q];lia
  have:=RB h (at_ s.top i) (at_ s.low i);rw[e2];lia
theorem sX(s:State):(nets s).Nodup:=(Kz s).imp fun h e=>by lia
theorem pW{α β:Type}(f:α->List β)(k:α->Nat):∀(l:List α),(∀x,x∈l->(f x).length<=k x)->(l.flatMap f).length<=(l.map k).sum
 | [],_=>by simp
 | x::l,h=>by
  rw[List.flatMap_cons,List.length_append,List.map_cons,List.sum_cons];have h1:=h x (by simp);have h2:=pW f k l fun y hy=>h y (List.mem_cons_of_mem _ hy)
  lia
theorem dz{s:State}(F:Cq s):(pieces s).length<=96:=by
 have h1:=pW (piecesOf s) (fun n=>(cQ s s.top.length n).length) (nets s) fun n _=>uF s n
 have h2:=sW s (sX s) s.top.length;have h3:=F.cols;unfold pieces;lia
theorem Gg{s:State}(F:Cq s):((nets s).map fun n=>(pinsOf s n).length).sum<=96:=by
 have h2:=sW s (sX s) s.top.length;have h3:=F.cols;have:((nets s).map fun n=>(pinsOf s n).length)=(nets s).map fun n=>(cQ s s.top.length n).length:=rfl
 rw[this];lia
theorem Ab{α:Type}(k:α->Nat):∀(l:List α),(∀x,x∈l->1<=k x)->l.length<=(l.map k).sum
 | [],_=>by simp
 | x::l,h=>by
  rw[List.length_cons,List.map_cons,List.sum_cons];have h1:=h x (by simp);have h2:=Ab k l fun y hy=>h y (List.mem_cons_of_mem _ hy)
  lia
theorem EG{s:State}(F:Cq s):(nets s).length<=96:=by
 have h1:=Ab (fun n=>(pinsOf s n).length) (nets s) fun n hn=>List.length_pos_iff.mpr (mj F hn)
 have h2:=Gg F;lia
theorem rm{s:State}(F:Cq s)(n:Nat):(pinsOf s n).length<=48:=by
 unfold pinsOf columns;have:=List.length_filter_le (fun c=>at_ s.top c == n || at_ s.low c == n) (List.range s.top.length);rw[List.length_range]at this;have:=F.cols;lia
theorem bT{α β:Type}(f:α->List β)(k:Nat):∀(l:List α),(∀x,x∈l->(f x).length<=k)->(l.flatMap f).length<=l.length * k
 | [],_=>by simp
 | x::l,h=>by
  rw[List.flatMap_cons,List.length_append,List.length_cons,Nat.succ_mul];have h1:=h x (by simp);have h2:=bT f k l fun y hy=>h y (List.mem_cons_of_mem _ hy)
  lia
theorem kW{s:State}(F:Cq s):(graphOf s).length<=9216:=by
 have hp:=dz F;have h1:(graphOf s).length<=((List.range (pieces s).length).zip (pieces s)).length * (pieces s).length:=by
  unfold graphOf;refine bT _ _ _ fun x _=>?_
  refine Nat.le_trans (List.length_filterMap_le _ _) ?_;rw[List.length_zip,List.length_range];lia
 rw[List.length_zip,List.length_range,Nat.min_self]at h1;have h2:(pieces s).length * (pieces s).length<=96 * 96:=Nat.mul_le_mul hp hp;lia
theorem RC{s:State}(F:Cq s)(c:Nat):at_ s.top c<=999:=by
 unfold at_;rw[List.getD_eq_getElem?_getD];cases e:s.top[c]? with
 | none=>simp
 | some x=>exact F.top x (List.mem_of_getElem? e)
theorem RD{s:State}(F:Cq s)(c:Nat):at_ s.low c<=999:=by
 unfold at_;rw[List.getD_eq_getElem?_getD];cases e:s.low[c]? with
 | none=>simp
 | some x=>exact F.low x (List.mem_of_getElem? e)
end Pc
end
section
namespace Pc
open Vbpcan
theorem mE:∀{r:List Nat} {u t:Nat},u<r.length->t<r.getD u 0->(r.set u t).sum<r.sum
 | [],u,t,h,_=>by simp at h
 | x::r,0,t,_,h=>by
  have h':t<x:=by simpa using h
  simp
  exact h'
 | x::r,u+1,t,h,h'=>by
  have ih:=mE (r:=r) (u:=u) (t:=t) (by simpa using h) (by simpa using h');simp;exact ih
theorem EH{ps:List Piece}{g:Graph}{r q:Row}(h:liftOne ps g r=some q):∃u t,u<r.length∧t+1<trackOf r u∧mayBe ps g r u (t+1)=true∧q=r.set u (t+1):=by
 unfold liftOne at h;obtain⟨u,hu,he⟩:=List.exists_of_findSome?_eq_some h;rw[Option.map_eq_some_iff]at he;obtain⟨t,ht,rfl⟩:=he;have h1:=List.mem_of_find?_eq_some ht;have h2:=List.find?_some ht;rw[List.mem_range]at h1 hu;exact⟨u,t,hu,by lia,h2,rfl⟩
theorem jT{ps:List Piece}{g:Graph}{r q:Row}(h:liftOne ps g r=some q):q.sum<r.sum∧q.length=r.length:=by
 obtain⟨u,t,h1,h2,_,rfl⟩:=EH h;exact⟨mE h1 h2,by simp⟩
theorem xY{ps:List Piece}{g:Graph}:∀(k j:Nat) (r:Row),r.sum<=k->r.sum<=j->lifted ps g k r=lifted ps g j r
 | 0,0,_,_,_=>rfl
 | 0,j+1,r,h,_=>by
  show r=(match liftOne ps g r with | some q=>lifted ps g j q | none=>r);cases e:liftOne ps g r with
  | none=>rfl
  | some q=>have:=jT e;lia
 | k+1,0,r,_,h=>by
  show(match liftOne ps g r with | some q=>lifted ps g k q | none=>r)=r
  cases e:liftOne ps g r with
  | none=>rfl
  | some q=>have:=jT e;lia
 | k+1,j+1,r,h1,h2=>by
  show(match liftOne ps g r with | some q=>lifted ps g k q | none=>r)=(match liftOne ps g r with | some q=>lifted ps g j q | none=>r)
  cases e:liftOne ps g r with
  | none=>rfl
  | some q=>
   have:=jT e;exact xY k j q (by lia) (by lia)
theorem Gh{ps:List Piece}{g:Graph}{r q:Row}(h:liftOne ps g r=some q):lifted ps g r.sum r=lifted ps g q.sum q:=by
 have hl:=jT h;obtain⟨k,hk⟩:∃k,r.sum=k+1:=⟨r.sum - 1,by lia⟩;rw[hk]
 show(match liftOne ps g r with | some q=>lifted ps g k q | none=>r)=_
 rw[h];exact xY k q.sum q (by lia) (Nat.le_refl _)
theorem Iu{ps:List Piece}{g:Graph}{r:Row}(h:liftOne ps g r=none):lifted ps g r.sum r=r:=by
 cases hk:r.sum with
 | zero=>rfl
 | succ k=>
  show(match liftOne ps g r with | some q=>lifted ps g k q | none=>r)=_
  rw[h]
theorem l8{p:Nat×Piece}:∀{l:List (Nat×Piece)} {x:Nat×Piece},x∈putPiece p l↔x=p∨x∈l
 | [],x=>by simp[putPiece]
 | q::l,x=>by
  unfold putPiece
  split
  ·simp
  ·rw[List.mem_cons,l8,List.mem_cons];constructor
   ·rintro (h | h | h)
    ·exact .inr (.inl h)
    ·exact .inl h
    ·exact .inr (.inr h)
   ·rintro (h | h | h)
    ·exact .inr (.inl h)
    ·exact .inl h
    ·exact .inr (.inr h)
def EI(a b:Nat×Piece):Prop:=a.2.l<b.2.l∨(a.2.l=b.2.l∧(a.2.r<b.2.r∨(a.2.r=b.2.r∧a.1<b.1)))
theorem Ac{a b:Nat×Piece}:sooner a b=true↔EI a b:=by
 unfold sooner EI;simp
theorem DU{a b c:Nat×Piece}(h1:EI a b)(h2:EI b c):EI a c:=by
 unfold EI at *;lia
theorem xZ{p:Nat×Piece}:∀{l:List (Nat×Piece)},l.Pairwise EI->(∀x,x∈l->x.1≠p.1)->(putPiece p l).Pairwise EI
 | [],_,_=>by simp[putPiece]
 | q::l,h,hn=>by
  have h':=List.pairwise_cons.mp h;unfold putPiece
  split
  ·rename_i hs;rw[Ac]at hs;refine List.pairwise_cons.mpr ⟨fun x hx=>?_,h⟩;rcases List.mem_cons.mp hx with z | z
   ·rw[z];exact hs
   ·exact DU hs (h'.1 x z)
  ·rename_i hs;rw[Ac]at hs;refine List.pairwise_cons.mpr ⟨fun x hx=>?_,xZ h'.2 fun x hx=>hn x (List.mem_cons_of_mem _ hx)⟩;rcases l8.mp hx with z | z
   ·subst z;have:=hn q (by simp);unfold EI at *;lia
   ·exact h'.1 x z
theorem sY:∀(l acc:List (Nat×Piece)),l.Pairwise (fun a b=>a.1<b.1)->acc.Pairwise EI->(∀x y,x∈acc->y∈l->x.1<y.1) →
  (l.foldl (fun l p=>putPiece p l) acc).Pairwise EI∧∀x,x∈l.foldl (fun l p=>putPiece p l) acc↔x∈acc∨x∈l
 | [],acc,_,h,_=>⟨h,fun x=>by simp⟩
 | p::l,acc,hl,h,hlt=>by
  rw[List.pairwise_cons]at hl;have ih:=sY l (putPiece p acc) hl.2 (xZ h fun x hx=>by have:=hlt x p hx (by simp);lia) fun x y hx hy=>by
   rcases l8.mp hx with z | z
   ·rw[z];exact hl.1 y hy
   ·exact hlt x y z (List.mem_cons_of_mem _ hy)
  simp only[List.foldl_cons];refine⟨ih.1,fun x=>?_⟩;rw[ih.2,l8,List.mem_cons];constructor
  ·rintro ((z | z) | z)
   ·exact .inr (.inl z)
   ·exact .inl z
   ·exact .inr (.inr z)
  ·rintro (z | z | z)
   ·exact .inl (.inr z)
   ·exact .inl (.inl z)
   ·exact .inr z
theorem DV(s:State):(byLeft s).Pairwise EI:=(sY _ [] (jI _) List.Pairwise.nil (by simp)).1
theorem jx{s:State}{x:Nat×Piece}:x∈byLeft s↔(pieces s)[x.1]? = some x.2:=by
 unfold byLeft;rw[(sY _ [] (jI _) List.Pairwise.nil (by simp)).2,cX];simp
theorem Ly{s:State}{l:List (Nat×Piece)}(h:l.Pairwise EI)(hm:∀x,x∈l↔(pieces s)[x.1]? = some x.2):l=byLeft s:=
 EC (lt:=EI) (fun a=>by unfold EI;lia) (fun _ _ _=>DU) h (DV s) fun x=>by rw[hm,jx]
theorem uH{p:Nat×Piece}:∀{l:List (Nat×Piece)},(putPiece p l).length=l.length+1
 | []=>rfl
 | q::l=>by
  unfold putPiece
  split
  ·rfl
  ·rw[List.length_cons,uH,List.length_cons]
theorem oO(s:State):(byLeft s).length=(pieces s).length:=by
 have key:∀(l acc:List (Nat×Piece)),(l.foldl (fun l p=>putPiece p l) acc).length=acc.length+l.length:=by
  intro l
  induction l with
  | nil=>intro acc;simp
  | cons p l ih=>intro acc;simp only[List.foldl_cons];rw[ih,uH,List.length_cons];lia
 unfold byLeft;rw[key,List.length_zip,List.length_range];simp
end Pc
end
section
namespace Pc
open Vbpcan
def Lx(r q:Row):Prop:=∃i,(∀j,j<i->trackOf r j=trackOf q j)∧trackOf r i<trackOf q i
def Le(r q:Row):Prop:=r=q∨Lx r q
theorem Lx.asymm{r q:Row}(h:Lx r q)(k:Lx q r):False:=by
 obtain⟨i,h1,h2⟩:=h;obtain⟨j,k1,k2⟩:=k;rcases Nat.lt_trichotomy i j with z | z | z
 ·have:=k1 i z;lia
 ·subst z;lia
 ·have:=h1 j z;lia
theorem Lx.trans{r q x:Row}(h:Lx r q)(k:Lx q x):Lx r x:=by
 obtain⟨i,h1,h2⟩:=h;obtain⟨j,k1,k2⟩:=k;rcases Nat.lt_trichotomy i j with z | z | z
 ·exact⟨i,fun a ha=>(h1 a ha).trans (k1 a (by lia)),by have:=k1 i z;lia⟩
 ·subst z;exact⟨i,fun a ha=>(h1 a ha).trans (k1 a ha),by lia⟩
 ·exact⟨j,fun a ha=>(h1 a (by lia)).trans (k1 a ha),by have:=h1 j z;lia⟩
theorem Le.trans{r q x:Row}(h:Le r q)(k:Le q x):Le r x:=by
 rcases h with rfl | h
 ·exact k
 ·rcases k with rfl | k
  ·exact .inr h
  ·exact .inr (h.trans k)
theorem Le.antisymm{r q:Row}(h:Le r q)(k:Le q r):r=q:=by
 rcases h with h | h
 ·exact h
 ·rcases k with k | k
  ·exact k.symm
  ·exact(h.asymm k).elim
theorem rn{r q:Row}(hl:r.length=q.length)(h:∀u,u<r.length->trackOf r u=trackOf q u):r=q:=by
 refine List.ext_getElem hl fun i h1 h2=>?_
 have:=h i h1;unfold trackOf at this;rw[List.getD_eq_getElem?_getD,List.getD_eq_getElem?_getD,List.getElem?_eq_getElem h1,List.getElem?_eq_getElem h2]at this;exact this
theorem Lx.total{r q:Row}(hl:r.length=q.length):r=q∨Lx r q∨Lx q r:=by
 by_cases h:∃i,i<r.length∧trackOf r i≠trackOf q i
 ·have key:∀n i,i<=n->trackOf r i≠trackOf q i->∃j,(∀a,a<j->trackOf r a=trackOf q a)∧trackOf r j≠trackOf q j:=by
   intro n
   induction n with
   | zero=>intro i hi hne;exact⟨i,fun a ha=>by lia,hne⟩
   | succ n ih=>
    intro i hi hne;by_cases hx:∃a,a<i∧trackOf r a≠trackOf q a
    ·obtain⟨a,ha,hb⟩:=hx;exact ih a (by lia) hb
    ·exact⟨i,fun a ha=>Classical.byContradiction fun z=>hx ⟨a,ha,z⟩,hne⟩
  obtain⟨i,hi,hne⟩:=h;obtain⟨j,h1,h2⟩:=key i i (Nat.le_refl _) hne;rcases Nat.lt_trichotomy (trackOf r j) (trackOf q j)with z | z | z
  ·exact .inr (.inl ⟨j,h1,z⟩)
  ·exact absurd z h2
  ·exact .inr (.inr ⟨j,fun a ha=>(h1 a ha).symm,z⟩)
 ·exact .inl (rn hl fun u hu=>Classical.byContradiction fun z=>h ⟨u,hu,z⟩)
theorem sZ{r:Row}{u:Nat}(h:r.length<=u):trackOf r u=0:=by
 unfold trackOf;rw[List.getD_eq_getElem?_getD,List.getElem?_eq_none h];rfl
theorem cg{r:Row}{u t v:Nat}(h:u<r.length):trackOf (r.set u t) v=if v=u then t else trackOf r v:=by
 unfold trackOf;rw[List.getD_eq_getElem?_getD,List.getD_eq_getElem?_getD];by_cases e:v=u
 ·subst e;rw[if_pos rfl,List.getElem?_set_self h];rfl
 ·rw[if_neg e,List.getElem?_set_ne (fun z=>e z.symm)]
theorem m9{n u:Nat}(f:Nat->Nat)(h:u<n):trackOf ((List.range n).map f) u=f u:=by
 unfold trackOf;rw[List.getD_eq_getElem?_getD,List.getElem?_map,List.getElem?_range h];rfl
structure Val(n:Nat)(C:Nat->Nat->Bool)(g:Graph)(S:Nat->Bool)(k:Nat)(r:Row):Prop where
 len:r.length=n
 put:∀u,u<n->S u=true->trackOf r u=0
 lo:∀u,u<n->S u=false->1<=trackOf r u
 hi:∀u,u<n->S u=false->trackOf r u<=k
 cl:∀u v,u<n->v<n->S u=false->S v=false->C u v=true->trackOf r u≠trackOf r v
 ab:∀u v,(u,v)∈g->S u=false->S v=false->trackOf r u<trackOf r v
def kX(n:Nat)(C:Nat->Nat->Bool)(g:Graph)(S:Nat->Bool)(k:Nat):Option Row->Prop
 | none=>∀r,¬Val n C g S k r
 | some r=>Val n C g S k r∧∀q,Val n C g S k q->Le r q
def Ready(n:Nat)(g:Graph)(S:Nat->Bool)(u:Nat):Prop:=u<n∧S u=false∧∀p,(p,u)∈g->S p=true
structure RE(n:Nat)(C:Nat->Nat->Bool)(g:Graph)(S F:Nat->Bool):Prop where
 rd:∀u,F u=true->Ready n g S u
 ind:∀u v,F u=true->F v=true->C u v=false
def Full(n:Nat)(C:Nat->Nat->Bool)(g:Graph)(S F:Nat->Bool):Prop:=∀u,Ready n g S u->F u=true∨∃v,F v=true∧C u v=true
def bI(F:Nat->Bool)(m:Row):Row:=(List.range m.length).map fun u=>if F u=true then 1 else if 0<trackOf m u then trackOf m u+1 else 0
def x8(S F:Nat->Bool):Nat->Bool:=fun u=>S u || F u
section
variable{n k:Nat}{C:Nat->Nat->Bool}{g:Graph}{S F:Nat->Bool}{m r q:Row}
theorem kY:(bI F m).length=m.length:=by simp[bI]
theorem kl{u:Nat}(h:u<m.length):trackOf (bI F m) u=if F u=true then 1 else if 0<trackOf m u then trackOf m u+1 else 0:=m9 _ h
theorem Val.with(sm:Small g n)(T:RE n C g S F)(V:Val n C g (x8 S F) k m):Val n C g S (k+1) (bI F m):=by
 have hl:=V.len;have at_:∀u,u<n->trackOf (bI F m) u=if F u=true then 1 else if 0<trackOf m u then trackOf m u+1 else 0:=fun u hu=>kl (by lia)
 have nf:∀u,u<n->S u=false->F u=false->trackOf (bI F m) u=trackOf m u+1∧1<=trackOf m u∧trackOf m u<=k:=fun u hu hs hf=>by
  have h0:x8 S F u=false:=by unfold x8;rw[hs,hf];rfl
  have h1:=V.lo u hu h0;have h2:=V.hi u hu h0;rw[at_ u hu,hf,if_neg (by decide),if_pos (by lia)];exact⟨rfl,h1,h2⟩
 have yf:∀u,u<n->F u=true->trackOf (bI F m) u=1:=fun u hu hf=>by rw[at_ u hu,if_pos hf]
 refine⟨kY.trans hl,fun u hu hs=>?_,fun u hu hs=>?_,fun u hu hs=>?_,fun u v hu hv hs hs' hc=>?_,fun u v he hs hs'=>?_⟩
 ·have hf:¬F u=true:=fun hf=>by have:=(T.rd u hf).2.1;rw[hs]at this;cases this
  have:=V.put u hu (by unfold x8;rw[hs];rfl);rw[at_ u hu,if_neg hf,if_neg (by lia)]
 ·cases hf:F u with
  | true=>rw[yf u hu hf];exact Nat.le_refl _
  | false=>have:=nf u hu hs hf;lia
 ·cases hf:F u with
  | true=>rw[yf u hu hf];lia
  | false=>have:=nf u hu hs hf;lia
 ·cases hf:F u with
  | true=>
   cases hf':F v with
   | true=>have:=T.ind u v hf hf';rw[hc]at this;cases this
   | false=>have h1:=nf v hv hs' hf';rw[yf u hu hf];lia
  | false=>
   have h1:=nf u hu hs hf;cases hf':F v with
   | true=>rw[yf v hv hf'];lia
   | false=>
    have h2:=nf v hv hs' hf';have:=V.cl u v hu hv (by unfold x8;rw[hs,hf];rfl) (by unfold x8;rw[hs',hf'];rfl) hc;lia
 ·have hu:=(sm u v he).1;have hv:=(sm u v he).2;cases hf':F v with
  | true=>have:=(T.rd v hf').2.2 u he;rw[hs]at this;cases this
  | false=>
   have h2:=nf v hv hs' hf';cases hf:F u with
   | true=>rw[yf u hu hf];lia
   | false=>
    have h1:=nf u hu hs hf;have:=V.ab u v he (by unfold x8;rw[hs,hf];rfl) (by unfold x8;rw[hs',hf'];rfl);lia
def kZ(r:Row):Nat->Bool:=fun u=>trackOf r u == 1
theorem Val.one(sm:Small g n)(V:Val n C g S k r):RE n C g S (kZ r):=by
 have lt:∀u,kZ r u=true->u<n:=fun u h=>by
  have h':trackOf r u=1:=eq_of_beq h;rcases Nat.lt_or_ge u r.length with z | z
  ·rw[<-V.len];exact z
  ·rw[sZ z]at h';cases h'
 have ns:∀u,kZ r u=true->S u=false:=fun u h=>by
  have h':trackOf r u=1:=eq_of_beq h;cases e:S u with
  | false=>rfl
  | true=>rw[V.put u (lt u h) e]at h';cases h'
 refine⟨fun u h=>⟨lt u h,ns u h,fun p hp=>?_⟩,fun u v hu hv=>?_⟩
 ·cases e:S p with
  | true=>rfl
  | false=>
   have h1:=V.ab p u hp e (ns u h);have h2:=V.lo p (sm p u hp).1 e;have h':trackOf r u=1:=eq_of_beq h;lia
 ·cases e:C u v with
  | false=>rfl
  | true=>
   have h1:trackOf r u=1:=eq_of_beq hu;have h2:trackOf r v=1:=eq_of_beq hv;exact absurd (h1.trans h2.symm) (V.cl u v (lt u hu) (lt v hv) (ns u hu) (ns v hv) e)
theorem Val.better(sm:Small g n)(sy:∀u v,C u v=C v u)(ir:∀u,C u u=false):∀(b:Nat) {r:Row},r.sum<=b->Val n C g S k r->∃q,Le q r∧Val n C g S k q∧Full n C g S (kZ q):=by
 intro b
 induction b with
 | zero=>
  intro r hb V;refine⟨r,.inl rfl,V,fun u hu=>?_⟩;have h1:=V.lo u hu.1 hu.2.1;have h2:=mE (r:=r) (u:=u) (t:=0) (by rw[V.len];exact hu.1) h1;lia
 | succ b ih=>
  intro r hb V;by_cases hF:Full n C g S (kZ r)
  ·exact⟨r,.inl rfl,V,hF⟩
  ·obtain⟨v,hv,hn⟩:∃v,Ready n g S v∧¬(kZ r v=true∨∃w,kZ r w=true∧C v w=true):=by
    apply Classical.byContradiction;intro z;exact hF fun u hu=>Classical.byContradiction fun y=>z ⟨u,hu,y⟩
   have hvl:v<r.length:=by rw[V.len];exact hv.1
   have h1:=V.lo v hv.1 hv.2.1;have h2:trackOf r v≠1:=fun z=>hn (.inl (by unfold kZ;rw[z];rfl))
   have h3:∀w,trackOf r w=1->C v w=false:=fun w hw=>by
    cases e:C v w with
    | false=>rfl
    | true=>exact absurd (.inr ⟨w,by unfold kZ;rw[hw];rfl,e⟩) hn
   have at_:∀u,trackOf (r.set v 1) u=if u=v then 1 else trackOf r u:=fun u=>cg hvl
   have V':Val n C g S k (r.set v 1):=by
    refine⟨by rw[List.length_set];exact V.len,fun u hu hs=>?_,fun u hu hs=>?_,fun u hu hs=>?_,fun u w hu hw hs hs' hc=>?_,fun u w he hs hs'=>?_⟩
    ·have hne:u≠v:=fun z=>by subst z;rw[hv.2.1]at hs;cases hs
     rw[at_,if_neg hne];exact V.put u hu hs
    ·rw[at_];split
     ·exact Nat.le_refl _
     ·exact V.lo u hu hs
    ·rw[at_];split
     ·have:=V.hi v hv.1 hv.2.1;lia
     ·exact V.hi u hu hs
    ·rw[at_,at_];by_cases e1:u=v
     ·by_cases e2:w=v
      ·subst e1;subst e2;rw[ir]at hc;cases hc
      ·rw[if_pos e1,if_neg e2];intro z;have:=h3 w z.symm;rw[<-e1,hc]at this;cases this
     ·by_cases e2:w=v
      ·rw[if_neg e1,if_pos e2];intro z;have:=h3 u z;rw[<-e2,sy,hc]at this;cases this
      ·rw[if_neg e1,if_neg e2];exact V.cl u w hu hw hs hs' hc
    ·rw[at_,at_];by_cases e2:w=v
     ·subst e2;have:=hv.2.2 u he;rw[hs]at this;cases this
     ·rw[if_neg e2];have:=V.ab u w he hs hs';by_cases e1:u=v
      ·rw[if_pos e1];subst e1;lia
      ·rw[if_neg e1];exact this
   have hs:=mE (r:=r) (u:=v) (t:=1) hvl (show 1<trackOf r v by lia);obtain⟨q,q1,q2,q3⟩:=ih (by lia) V';refine⟨q,q1.trans (.inr ⟨v,fun j hj=>?_,?_⟩),q2,q3⟩
   ·rw[at_,if_neg (by lia)]
   ·rw[at_,if_pos rfl];lia
def lower(r:Row):Row:=(List.range r.length).map fun u=>trackOf r u - 1
theorem Val.lower(sm:Small g n)(V:Val n C g S (k+1) r):Val n C g (x8 S (kZ r)) k (lower r):=by
 have hl:=V.len;have at_:∀u,u<n->trackOf (Pc.lower r) u=trackOf r u - 1:=fun u hu=>m9 _ (by lia)
 have un:∀u,u<n->x8 S (kZ r) u=false->S u=false∧1<trackOf r u:=fun u hu h=>by
  unfold x8 kZ at h;rw[Bool.or_eq_false_iff]at h;have h1:=V.lo u hu h.1;have h2:trackOf r u≠1:=fun z=>by rw[z]at h;exact absurd h.2 (by decide)
  exact⟨h.1,by lia⟩
 refine⟨by simp[Pc.lower,hl],fun u hu hs=>?_,fun u hu hs=>?_,fun u hu hs=>?_,fun u v hu hv hs hs' hc=>?_,fun u v he hs hs'=>?_⟩
 ·rw[at_ u hu];unfold x8 kZ at hs;rw[Bool.or_eq_true]at hs;rcases hs with z | z
  ·rw[V.put u hu z]
  ·have h:trackOf r u=1:=eq_of_beq z;rw[h]
 ·have:=un u hu hs;rw[at_ u hu];lia
 ·have:=un u hu hs;have:=V.hi u hu this.1;rw[at_ u hu];lia
 ·have h1:=un u hu hs;have h2:=un v hv hs';have:=V.cl u v hu hv h1.1 h2.1 hc;rw[at_ u hu,at_ v hv];lia
 ·have hu:=(sm u v he).1;have hv:=(sm u v he).2;have h1:=un u hu hs;have h2:=un v hv hs';have:=V.ab u v he h1.1 h2.1;rw[at_ u hu,at_ v hv];lia
theorem Cr(V:Val n C g S (k+1) r):bI (kZ r) (lower r)=r:=by
 have hl:(lower r).length=r.length:=by simp[lower]
 refine rn (kY.trans hl) fun u hu=>?_
 rw[kY,hl]at hu;rw[kl (by lia)];have h0:trackOf (lower r) u=trackOf r u - 1:=m9 _ hu;rw[h0];unfold kZ;by_cases h:trackOf r u=1
 ·rw[h];rfl
 ·rw[if_neg (by intro z;exact h (eq_of_beq z))];by_cases h':0<trackOf r u - 1
  ·rw[if_pos h'];lia
  ·rw[if_neg h'];lia
theorem Iv{m':Row}(hl:m.length=m'.length)(hp:∀u,u<m.length->F u=true->trackOf m u=trackOf m' u)(h:Le m m'):Le (bI F m) (bI F m'):=by
 rcases h with rfl | ⟨i,h1,h2⟩
 ·exact .inl rfl
 ·have hi:i<m'.length:=by
   rcases Nat.lt_or_ge i m'.length with z | z
   ·exact z
   ·rw[sZ z]at h2;lia
  refine .inr ⟨i,fun j hj=>?_,?_⟩
  ·rw[kl (by lia),kl (by lia),h1 j hj]
  ·rw[kl (by lia),kl (by lia)];have hf:¬F i=true:=fun z=>by have:=hp i (by lia) z;lia
   rw[if_neg hf,if_neg hf]
   split <;> split <;> lia
theorem Val.congr{S':Nat->Bool}(h:∀u,u<n->S u=S' u)(sm:Small g n)(V:Val n C g S k r):Val n C g S' k r:=
 ⟨
  V.len,fun u hu hs=>V.put u hu (by rw[h u hu];exact hs),fun u hu hs=>V.lo u hu (by rw[h u hu];exact hs),fun u hu hs=>V.hi u hu (by rw[h u hu];exact hs),
  fun u v hu hv hs hs'=>V.cl u v hu hv (by rw[h u hu];exact hs) (by rw[h v hv];exact hs'),fun u v he hs hs'=>V.ab u v he (by rw[h u (sm u v he).1];exact hs) (by rw[h v (sm u v he).2];exact hs')⟩
theorem Iw(sm:Small g n)(sy:∀u v,C u v=C v u)(ir:∀u,C u u=false){ts:List Nat}{res:Nat->Option Row}{bits:Nat->Nat->Bool}
  (sound:∀t,t∈ts->RE n C g S (bits t)) (compl:∀F,RE n C g S F->Full n C g S F->∃t,t∈ts∧∀u,u<n->bits t u=F u)
  (hres:∀t,t∈ts->kX n C g (x8 S (bits t)) k (res t)) {found:Option Row}
  (h0:found=none->∀t,t∈ts->res t=none)
  (h1:∀r,found=some r->(∃t m,t∈ts∧res t=some m∧r=bI (bits t) m)∧∀t m,t∈ts->res t=some m->Le r (bI (bits t) m)):kX n C g S (k+1) found:=by
 have cand:∀q,Val n C g S (k+1) q->∃t m,t∈ts∧res t=some m∧Le (bI (bits t) m) q:=by
  intro q V;obtain⟨q',l1,V',fu⟩:=V.better sm sy ir q.sum (Nat.le_refl _);obtain⟨t,ht,hb⟩:=compl _ (V'.one sm) fu;have W:=V'.lower sm;have W':Val n C g (x8 S (bits t)) k (lower q'):=W.congr (fun u hu=>by unfold x8;rw[hb u hu]) sm;have L:=hres t ht;cases e:res t with
  | none=>rw[e]at L;exact absurd W' (L _)
  | some m=>
   rw[e]at L;refine⟨t,m,ht,e,Le.trans ?_ l1⟩;have e1:bI (kZ q') (lower q')=q':=Cr V';have e2:bI (bits t) (lower q')=bI (kZ q') (lower q'):=by
    unfold bI;refine List.map_congr_left fun u hu=>?_
    rw[List.mem_range]at hu;rw[hb u (by rw[<-W.len];exact hu)]
   rw[<-e1,<-e2];refine Iv (by rw[L.1.len,W.len]) (fun u hu hf=>?_) (L.2 _ W');have hn:u<n:=by rw[<-L.1.len];exact hu
   rw[L.1.put u hn (by unfold x8;rw[hf,Bool.or_true]),W'.put u hn (by unfold x8;rw[hf,Bool.or_true])]
 cases e:found with
 | none=>
  intro q V;obtain⟨t,m,ht,hm,_⟩:=cand q V;rw[h0 e t ht]at hm;cases hm
 | some r=>
  obtain⟨⟨t,m,ht,hm,er⟩,hmin⟩:=h1 r e;refine⟨?_,fun q V=>?_⟩
  ·have L:=hres t ht;rw[hm]at L;rw[er];exact L.1.with sm (sound t ht)
  ·obtain⟨t',m',ht',hm',l⟩:=cand q V;exact(hmin t' m' ht' hm').trans l
theorem wb(h:∀u,u<n->S u=true)(sm:Small g n):kX n C g S k (some (List.replicate n 0)):=by
 have z:∀u,trackOf (List.replicate n 0) u=0:=fun u=>by
  unfold trackOf;rw[List.getD_eq_getElem?_getD,List.getElem?_replicate]
  split <;> rfl
 refine⟨⟨by simp,fun u _ _=>z u,fun u hu hs=>?_,fun u hu hs=>?_,fun u v hu _ hs _ _=>?_,fun u v he hs _=>?_⟩,fun q V=>.inl (rn (by simp[V.len]) fun u hu=>?_)⟩
 ·rw[h u hu]at hs;cases hs
 ·rw[h u hu]at hs;cases hs
 ·rw[h u hu]at hs;cases hs
 ·rw[h u (sm u v he).1]at hs;cases hs
 ·simp at hu;rw[z,V.put u hu (h u hu)]
theorem Iy{u:Nat}(hu:u<n)(h:S u=false):kX n C g S 0 none:=by
 intro r V;have h1:=V.lo u hu h;have h2:=V.hi u hu h;lia
theorem KA(sm:Small g n)(ir:∀u,C u u=false)(hr:Vbpcan.ring g n=[]):∀(j:Nat) (S:Nat->Bool),((List.range n).filter fun u=>!S u).length<=j->∃r,Val n C g S j r:=by
 intro j
 induction j with
 | zero=>
  intro S h;have all:∀u,u<n->S u=true:=fun u hu=>by
   cases e:S u with
   | true=>rfl
   | false=>
    have:u∈(List.range n).filter fun u=>!S u:=List.mem_filter.mpr ⟨List.mem_range.mpr hu,by rw[e];rfl⟩
    have:=List.length_pos_of_mem this;lia
  exact⟨_,(wb all sm).1⟩
 | succ j ih=>
  intro S h;by_cases hx:∃u,u<n∧S u=false
  ·obtain⟨v,hv⟩:∃v,Ready n g S v:=by
    apply Classical.byContradiction;intro z;obtain⟨u,hu,hs⟩:=hx;refine v_ sm (fun v=>v<n∧S v=false) (fun v h=>h.1) (fun v hv=>?_) ⟨hu,hs⟩ hr;apply Classical.byContradiction;intro y;refine z ⟨v,hv.1,hv.2,fun p hp=>?_⟩;cases e:S p with
    | true=>rfl
    | false=>exact absurd ⟨p,⟨(sm p v hp).1,e⟩,hp⟩ y
   let F:Nat->Bool:=fun u=>u == v
   have T:RE n C g S F:=⟨fun u hu=>by have e:u=v:=eq_of_beq hu;rw[e];exact hv,fun u w hu hw=>by
    have e:u=v:=eq_of_beq hu;have e':w=v:=eq_of_beq hw;rw[e,e'];exact ir v⟩
   obtain⟨m,V⟩:=ih (x8 S F) (by
    have:((List.range n).filter fun u=>!x8 S F u).length<((List.range n).filter fun u=>!S u).length:=by
     have sub:∀l:List Nat,l.Nodup->(l.filter fun u=>!x8 S F u).length+(if v∈l then 1 else 0)=(l.filter fun u=>!S u).length:=by
      intro l hl
      induction l with
      | nil=>rfl
      | cons a l ihl=>
       rw[List.nodup_cons]at hl;have ih':=ihl hl.2;by_cases e:a=v
       ·subst e;have h1:((!x8 S F a)=true)=False:=by simp[x8,F]
        have h2:((!S a)=true)=True:=by simp[hv.2.1]
        simp only[List.filter_cons,h1,h2,if_true,if_false,List.length_cons];rw[if_neg hl.1]at ih';rw[if_pos (by simp)];lia
       ·have h1:(!x8 S F a)=(!S a):=by simp[x8,F,e]
        have h2:(v∈a::l)↔v∈l:=by simp[Ne.symm e]
        simp only[List.filter_cons,h1]
        split
        ·simp only[List.length_cons];by_cases hm:v∈l
         ·rw[if_pos (h2.mpr hm)];rw[if_pos hm]at ih';lia
         ·rw[if_neg (fun z=>hm (h2.mp z))];rw[if_neg hm]at ih';lia
        ·by_cases hm:v∈l
         ·rw[if_pos (h2.mpr hm)];rw[if_pos hm]at ih';lia
         ·rw[if_neg (fun z=>hm (h2.mp z))];rw[if_neg hm]at ih';lia
     have:=sub (List.range n) List.nodup_range;rw[if_pos (List.mem_range.mpr hv.1)]at this;lia
    lia)
   exact⟨_,V.with sm T⟩
  ·have all:∀u,u<n->S u=true:=fun u hu=>by
    cases e:S u with
    | true=>rfl
    | false=>exact absurd ⟨u,hu,e⟩ hx
   exact⟨_,(wb all sm).1⟩
end
end Pc
end
section
namespace Pc
open Vbpcan
def apart(ps:List Piece)(i j:Nat):Bool:=match ps[i]?,ps[j]? with
 | some P,some Q=>clash P Q
 | _,_=>false
theorem iC{ps:List Piece}{i j:Nat}:apart ps i j=true↔∃P Q,ps[i]? = some P∧ps[j]? = some Q∧clash P Q=true:=by
 unfold apart;cases e1:ps[i]? with
 | none=>simp
 | some P=>
  cases e2:ps[j]? with
  | none=>simp
  | some Q=>simp
theorem ml{P Q:Piece}:clash P Q=true↔P.net≠Q.net∧P.l<=P.r∧P.l<=Q.r∧Q.l<=P.r∧Q.l<=Q.r:=by
 unfold clash;simp;intro _;lia
theorem Iz(P Q:Piece):clash P Q=clash Q P:=by
 rw[Bool.eq_iff_iff,ml,ml];lia
theorem IA(P:Piece):clash P P=false:=by
 cases e:clash P P with
 | false=>rfl
 | true=>exact absurd rfl (ml.mp e).1
theorem fi(ps:List Piece)(i j:Nat):apart ps i j=apart ps j i:=by
 unfold apart;cases ps[i]? <;> cases ps[j]? <;> first | rfl | exact Iz _ _
theorem cR(ps:List Piece)(i:Nat):apart ps i i=false:=by
 unfold apart;cases ps[i]? with
 | none=>rfl
 | some P=>exact IA P
theorem nT{ps:List Piece}{i j:Nat}(h:apart ps i j=true):i<ps.length∧j<ps.length:=by
 obtain⟨P,Q,h1,h2,_⟩:=iC.mp h;exact⟨(List.getElem?_eq_some_iff.mp h1).1,(List.getElem?_eq_some_iff.mp h2).1⟩
theorem x9{s:State}{p q:Nat}(h:(p,q)∈graphOf s):apart (pieces s) p q=true:=by
 obtain⟨P,Q,h1,h2,h3⟩:=pV.mp h;refine iC.mpr ⟨P,Q,h1,h2,?_⟩;unfold above at h3;rw[Bool.and_eq_true,List.any_eq_true]at h3;obtain⟨hn,c,_,hc⟩:=h3;simp[covers]at hc;rw[ml];refine⟨by simpa using hn,?_⟩;lia
theorem Lz{s:State}(p:Nat):(p,p) ∉ graphOf s:=fun h=>by
 have:=x9 h;rw[cR]at this;cases this
structure Pre(n:Nat)(C:Nat->Nat->Bool)(g:Graph)(k:Nat)(r:Row):Prop where
 RF:∀u,u<r.length->1<=trackOf r u∧trackOf r u<=k
 cl:∀u v,u<r.length->v<r.length->C u v=true->trackOf r u≠trackOf r v
 ab:∀u v,(u,v)∈g->u<r.length->v<r.length->trackOf r u<trackOf r v
def Agree(r q:Row):Prop:=∀u,u<r.length->trackOf r u=trackOf q u
theorem dE{r:Row}{t u:Nat}:trackOf (r++[t]) u=if u=r.length then t else trackOf r u:=by
 unfold trackOf;rw[List.getD_eq_getElem?_getD,List.getD_eq_getElem?_getD];rcases Nat.lt_trichotomy u r.length with h | h | h
 ·rw[List.getElem?_append_left h,if_neg (by lia)]
 ·rw[if_pos h,List.getElem?_append_right (by lia),h,Nat.sub_self];rfl
 ·rw[if_neg (by lia),List.getElem?_eq_none (by simp;lia),List.getElem?_eq_none (by lia)]
abbrev EJ:Nat->Bool:=fun _=>false
section
variable{ps:List Piece}{g:Graph}{k:Nat}{r q:Row}
theorem Gi{t:Nat}(hu:r.length<ps.length):goes ps g r t=true↔(∀i,i<r.length->apart ps i r.length=true->trackOf r i≠t)∧(∀i,(i,r.length)∈g->i<r.length->trackOf r i<t)∧(∀i,(r.length,i)∈g->i<r.length->t<trackOf r i):=by
 unfold goes;obtain⟨p,hp⟩:∃p,ps[r.length]? = some p:=⟨_,List.getElem?_eq_getElem hu⟩;simp only[hp];rw[Bool.and_eq_true,List.all_eq_true,List.all_eq_true];refine and_congr ⟨fun h i hi ha e=>?_,fun h x hx=>?_⟩ ⟨fun h=>⟨fun i he hi=>?_,fun i he hi=>?_⟩,fun h e he=>?_⟩
 ·obtain⟨P,Q,h1,h2,h3⟩:=iC.mp ha;rw[hp]at h2;cases h2;have hm:(P,i)∈ps.zipIdx.take r.length:=by
   refine List.mem_iff_getElem?.mpr ⟨i,?_⟩;rw[List.getElem?_take,if_pos hi,List.getElem?_zipIdx,h1];simp
  have:=h (P,i) hm;simp[e,h3]at this
 ·obtain⟨i,hi⟩:=List.mem_iff_getElem?.mp hx;rw[List.getElem?_take]at hi
  split at hi
  ·rename_i hlt;rw[List.getElem?_zipIdx,Option.map_eq_some_iff]at hi;obtain⟨P,hP,rfl⟩:=hi;simp only[Nat.zero_add];cases ec:clash P p with
   | false=>simp
   | true=>
    have:=h i hlt (iC.mpr ⟨P,p,hP,hp,ec⟩);simp[this]
  ·cases hi
 ·have:=h _ he;simp at this;lia
 ·have:=h _ he;simp at this;lia
 ·obtain⟨a,b⟩:=e;rw[Bool.and_eq_true,Bool.or_eq_true,Bool.or_eq_true,Bool.or_eq_true,Bool.or_eq_true];refine⟨?_,?_⟩
  ·by_cases e1:b=r.length
   ·subst e1;by_cases e2:a<r.length
    ·have:=h.1 a he e2;exact .inr (.inr (by simpa using this))
    ·exact .inr (.inl (by simp;lia))
   ·exact .inl (by simpa using e1)
  ·by_cases e1:a=r.length
   ·subst e1;by_cases e2:b<r.length
    ·have:=h.2 b he e2;exact .inr (.inr (by simpa using this))
    ·exact .inr (.inl (by simp;lia))
   ·exact .inl (by simpa using e1)
theorem Pre.grow{t:Nat}(ig:∀p,(p,p) ∉ g)(hu:r.length<ps.length)(P:Pre ps.length (apart ps) g k r)(ht:1<=t∧t<=k)(hg:goes ps g r t=true):Pre ps.length (apart ps) g k (r++[t]):=by
 obtain⟨g1,g2,g3⟩:=(Gi hu).mp hg;have hl:(r++[t]).length=r.length+1:=by simp
 refine⟨fun u h=>?_,fun u v h h' hc=>?_,fun u v he h h'=>?_⟩
 ·rw[dE]
  split
  ·exact ht
  ·exact P.RF u (by lia)
 ·rw[dE,dE];by_cases e1:u=r.length
  ·by_cases e2:v=r.length
   ·rw[e1,e2,cR]at hc;cases hc
   ·rw[if_pos e1,if_neg e2];rw[e1,fi]at hc;exact fun z=>g1 v (by lia) hc z.symm
  ·by_cases e2:v=r.length
   ·rw[if_neg e1,if_pos e2];rw[e2]at hc;exact g1 u (by lia) hc
   ·rw[if_neg e1,if_neg e2];exact P.cl u v (by lia) (by lia) hc
 ·rw[dE,dE];by_cases e1:u=r.length
  ·by_cases e2:v=r.length
   ·rw[e1,e2]at he;exact absurd he (ig _)
   ·rw[if_pos e1,if_neg e2];rw[e1]at he;exact g3 v he (by lia)
  ·by_cases e2:v=r.length
   ·rw[if_neg e1,if_pos e2];rw[e2]at he;exact g2 u he (by lia)
   ·rw[if_neg e1,if_neg e2];exact P.ab u v he (by lia) (by lia)
theorem Agree.next(hu:r.length<ps.length)(V:Val ps.length (apart ps) g EJ k q)(A:Agree r q):1<=trackOf q r.length∧trackOf q r.length<=k∧goes ps g r (trackOf q r.length)=true∧Agree (r++[trackOf q r.length]) q:=by
 refine⟨V.lo _ hu rfl,V.hi _ hu rfl,(Gi hu).mpr ⟨fun i hi ha=>?_,fun i he hi=>?_,fun i he hi=>?_⟩,fun u h=>?_⟩
 ·rw[A i hi];exact V.cl _ _ (by lia) hu rfl rfl ha
 ·rw[A i hi];exact V.ab _ _ he rfl rfl
 ·rw[A i hi];exact V.ab _ _ he rfl rfl
 ·rw[dE]
  split
  ·rename_i e;rw[e]
  ·simp at h;exact A u (by lia)
theorem Gj{n a:Nat}{l1 l2:List Nat}(h:List.range n=l1++a::l2):a<n∧∀t,t<a->t∈l1:=by
 have hm:a∈List.range n:=by rw[h];simp
 have ha:=List.mem_range.mp hm;refine⟨ha,fun t ht=>?_⟩;have hp:(l1++a::l2).Pairwise (· < ·):=by rw[<-h];exact List.pairwise_lt_range
 have ht':t∈l1++a::l2:=by rw[<-h];exact List.mem_range.mpr (by lia)
 rcases List.mem_append.mp ht' with z | z
 ·exact z
 ·rcases List.mem_cons.mp z with z | z
  ·lia
  ·have:=(List.pairwise_cons.mp (List.pairwise_append.mp hp).2.1).1 t z;lia
theorem m_(sm:Small g ps.length)(ig:∀p,(p,p) ∉ g):∀(m:Nat) (r:Row),r.length+m=ps.length->Pre ps.length (apart ps) g k r →
  match search ps g k m r with
  | none=>∀q,Val ps.length (apart ps) g EJ k q->¬Agree r q
  | some q=>Val ps.length (apart ps) g EJ k q∧Agree r q∧∀x,Val ps.length (apart ps) g EJ k x->Agree r x->Le q x
 | 0,r,hl,P=>by
  show Val ps.length (apart ps) g EJ k r∧Agree r r∧_;have hl':r.length=ps.length:=by lia
  refine⟨⟨hl',fun u _ h=>(by cases h),fun u hu _=>(P.RF u (by lia)).1,fun u hu _=>(P.RF u (by lia)).2,fun u v hu hv _ _ hc=>P.cl u v (by lia) (by lia) hc,fun u v he _ _=>?_⟩,fun u _=>rfl,fun x V A=>.inl (rn (by rw[V.len];lia) A)⟩;have:=sm u v he;exact P.ab u v he (by lia) (by lia)
 | m+1,r,hl,P=>by
  have hu:r.length<ps.length:=by lia
  cases e:search ps g k (m+1) r with
  | none=>
   intro q V A;obtain⟨a1,a2,a3,a4⟩:=A.next hu V;have hf:=List.findSome?_eq_none_iff.mp e (trackOf q r.length - 1) (List.mem_range.mpr (by lia));rw[show trackOf q r.length - 1+1=trackOf q r.length by lia,if_pos a3]at hf;have ih:=m_ sm ig m (r++[trackOf q r.length]) (by simp;lia) (P.grow ig hu ⟨a1,a2⟩ a3);rw[hf]at ih;exact ih q V a4
  | some q=>
   obtain⟨l1,t,l2,h1,h2,h3⟩:=List.findSome?_eq_some_iff.mp e;obtain⟨ht,hb⟩:=Gj h1
   split at h2
   ·rename_i hg;have ih:=m_ sm ig m (r++[t+1]) (by simp;lia) (P.grow ig hu ⟨by lia,by lia⟩ hg);rw[h2]at ih;obtain⟨i1,i2,i3⟩:=ih;have qa:trackOf q r.length=t+1:=by
     have:=i2 r.length (by simp);rw[dE,if_pos rfl]at this;exact this.symm
    have ag:Agree r q:=fun u h=>by
     have:=i2 u (by simp;lia);rw[dE,if_neg (by lia)]at this;exact this
    refine⟨i1,ag,fun x V A=>?_⟩;obtain⟨a1,a2,a3,a4⟩:=A.next hu V;rcases Nat.lt_trichotomy (trackOf x r.length) (t+1)with z | z | z
    ·have hf:=h3 (trackOf x r.length - 1) (hb _ (by lia));rw[show trackOf x r.length - 1+1=trackOf x r.length by lia,if_pos a3]at hf;have ih:=m_ sm ig m (r++[trackOf x r.length]) (by simp;lia) (P.grow ig hu ⟨a1,a2⟩ a3);rw[hf]at ih;exact absurd a4 (ih x V)
    ·rw[z]at a4;exact i3 x V a4
    ·exact .inr ⟨r.length,fun j hj=>(ag j hj).symm.trans (A j hj),by lia⟩
   ·cases h2
theorem Val.mono{n:Nat}{C:Nat->Nat->Bool}{S:Nat->Bool}{j:Nat}(h:k<=j)(V:Val n C g S k r):Val n C g S j r:=
 ⟨V.len,V.put,V.lo,fun u hu hs=>Nat.le_trans (V.hi u hu hs) h,V.cl,V.ab⟩
theorem EK(sm:Small g ps.length)(ig:∀p,(p,p) ∉ g):kX ps.length (apart ps) g EJ k (search ps g k ps.length []):=by
 have h:=m_ (k:=k) sm ig ps.length [] (by simp) ⟨fun u h=>(by simp at h),fun u v h=>(by simp at h),fun u v _ h=>(by simp at h)⟩;have ag:∀q,Agree [] q:=fun q u hu=>by simp at hu
 cases e:search ps g k ps.length []with
 | none=>rw[e]at h;exact fun q V=>h q V (ag q)
 | some q=>rw[e]at h;exact⟨h.1,fun x V=>h.2.2 x V (ag x)⟩
theorem kX.uniq{n:Nat}{C:Nat->Nat->Bool}{S:Nat->Bool}:∀{o o':Option Row},kX n C g S k o->kX n C g S k o'->o=o'
 | none,none,_,_=>rfl
 | none,some r,h,h'=>absurd h'.1 (h r)
 | some r,none,h,h'=>absurd h.1 (h' r)
 | some r,some q,h,h'=>by rw[Le.antisymm (h.2 q h'.1) (h'.2 r h.1)]
end
theorem between(f:Nat->Nat)(c:Nat):∀m,1<=m->f 0<=c->c<=f m->∃k,k<m∧f k<=c∧c<=f (k+1)
 | 0,h,_,_=>by lia
 | 1,_,h0,h1=>⟨0,by lia,h0,h1⟩
 | m+2,_,h0,h1=>by
  by_cases h:c<=f (m+1)
  ·obtain⟨k,k1,k2⟩:=between f c (m+1) (by lia) h0 h;exact⟨k,by lia,k2⟩
  ·exact⟨m+1,by lia,by lia,h1⟩
theorem Gk{s:State}{c n:Nat}(F:Cq s)(hn:n∈nets s)(h:spans s c n=true):∃P,P∈pieces s∧P.net=n∧P.l<=c∧c<=P.r:=by
 have hne:=mj F hn;rw[Ge hne,decide_eq_true_eq]at h;have mem:∀P,P∈piecesOf s n->P∈pieces s:=fun P hP=>List.mem_flatMap.mpr ⟨n,hn,hP⟩
 by_cases hc:s.cut=true∧1<(pinsOf s n).length
 ·have e:=l6 hc.1 hc.2;obtain⟨k,k1,k2,k3⟩:=between (fun k=>(pinsOf s n).getD k 0) c ((pinsOf s n).length - 1) (by lia) h.1 h.2;refine⟨⟨n,(pinsOf s n).getD k 0,(pinsOf s n).getD (k+1) 0⟩,mem _ ?_,rfl,k2,k3⟩;rw[e];exact List.mem_map.mpr ⟨k,List.mem_range.mpr k1,rfl⟩
 ·have e:=jR (s:=s) (n:=n) (by
   cases hb:s.cut with
   | false=>exact .inl rfl
   | true=>exact .inr fun z=>hc ⟨hb,z⟩) hne
  refine⟨⟨n,(pinsOf s n).getD 0 0,(pinsOf s n).getD ((pinsOf s n).length - 1) 0⟩,mem _ ?_,rfl,h.1,h.2⟩;rw[e];simp
theorem Qj{s:State}{k c:Nat}{r:Row}(F:Cq s)(V:Val (pieces s).length (apart (pieces s)) (graphOf s) EJ k r):over s c<=k:=by
 rw[Qi]
 let pick:Nat->Nat:=fun n=>((List.range (pieces s).length).find? fun i=>match (pieces s)[i]? with
  | some P=>P.net == n && (decide (P.l<=c) && decide (c<=P.r))
  | none=>false).getD 0
 have hpick:∀n,n∈(nets s).filter (spans s c)->∃P,(pieces s)[pick n]? = some P∧P.net=n∧P.l<=c∧c<=P.r:=by
  intro n hn;rw[List.mem_filter]at hn;obtain⟨P,hP,h1,h2,h3⟩:=Gk F hn.1 hn.2;obtain⟨i,hi⟩:=List.mem_iff_getElem?.mp hP;have hil:=(List.getElem?_eq_some_iff.mp hi).1;cases e:(List.range (pieces s).length).find? fun i=>match (pieces s)[i]? with
   | some P=>P.net == n && (decide (P.l<=c) && decide (c<=P.r))
   | none=>false with
  | none=>
   have:=List.find?_eq_none.mp e i (List.mem_range.mpr hil);simp[hi,h1,h2,h3]at this
  | some j=>
   have hj:=List.find?_some e;have ep:pick n=j:=by show(Option.getD _ 0)=j;rw[e];rfl
   rw[ep];cases e2:(pieces s)[j]? with
   | none=>rw[e2]at hj;cases hj
   | some Q=>
    rw[e2]at hj;simp at hj;exact⟨Q,rfl,hj.1,hj.2.1,hj.2.2⟩
 have nd:(((nets s).filter (spans s c)).map fun n=>trackOf r (pick n) - 1).Nodup:=by
  have hnd:((nets s).filter (spans s c)).Nodup:=List.Pairwise.filter _ (sX s);refine List.Pairwise.map _ (fun a b hab=>hab) (R:=fun a b=>trackOf r (pick a) - 1≠trackOf r (pick b) - 1) ?_;refine List.Pairwise.imp_of_mem (R:=fun a b=>a≠b) (fun {a b} ha hb hab=>?_) hnd;obtain⟨P,p1,p2,p3,p4⟩:=hpick a ha;obtain⟨Q,q1,q2,q3,q4⟩:=hpick b hb;have la:=(List.getElem?_eq_some_iff.mp p1).1;have lb:=(List.getElem?_eq_some_iff.mp q1).1;have h:=V.cl (pick a) (pick b) la lb rfl rfl (iC.mpr ⟨P,Q,p1,q1,ml.mpr ⟨by rw[p2,q2];exact hab,by lia⟩⟩);have h1:=V.lo _ la rfl;have h2:=V.lo _ lb rfl;lia
 have:=gC k _ nd fun x hx=>by
  obtain⟨n,hn,rfl⟩:=List.mem_map.mp hx;obtain⟨P,p1,_⟩:=hpick n hn;have la:=(List.getElem?_eq_some_iff.mp p1).1;have h1:=V.lo _ la rfl;have h2:=V.hi _ la rfl;lia
 rw[List.length_map]at this;exact this
theorem uI:∀(l:List Nat) (a k:Nat),a<=k->(∀x,x∈l->x<=k)->l.foldl max a<=k
 | [],a,k,h,_=>h
 | x::l,a,k,h,h'=>uI l (max a x) k (by have:=h' x (by simp);lia) fun y hy=>h' y (List.mem_cons_of_mem _ hy)
theorem Ad{s:State}{k:Nat}{r:Row}(F:Cq s)(V:Val (pieces s).length (apart (pieces s)) (graphOf s) EJ k r):density s<=k:=by
 rw[Aa];refine uI _ _ _ (Nat.zero_le _) fun x hx=>?_
 obtain⟨c,_,rfl⟩:=List.mem_map.mp hx;exact Qj F V
abbrev c_(s:State)(S:Nat->Bool)(k:Nat)(o:Option Row):Prop:=kX (pieces s).length (apart (pieces s)) (graphOf s) S k o
theorem x_{s:State}{k:Nat}(hr:Vbpcan.ring (graphOf s) (pieces s).length=[])(h:c_ s EJ k none):k<(pieces s).length:=by
 rcases Nat.lt_or_ge k (pieces s).length with z | z
 ·exact z
 ·obtain⟨r,V⟩:=KA (C:=apart (pieces s)) (a8 s) (cR _) hr (pieces s).length EJ (by
   refine Nat.le_trans (List.length_filter_le _ _) ?_;rw[List.length_range];exact Nat.le_refl _)
  exact absurd (V.mono z) (h r)
theorem NT{s:State}{k:Nat}{r:Row}(F:Cq s)(hr:Vbpcan.ring (graphOf s) (pieces s).length=[])(hno:∀j,density s<=j->j<k->c_ s EJ j none)(hL:c_ s EJ k (some r)):Vbpcan.least s (graphOf s)=some (k,r):=by
 have no:∀j,j<k->c_ s EJ j none:=fun j hj=>by
  rcases Nat.lt_or_ge j (density s)with z | z
  ·intro q V;have:=Ad F V;lia
  ·exact hno j z hj
 have hk:k<=(pieces s).length:=by
  rcases Nat.lt_or_ge (pieces s).length k with z | z
  ·have:=x_ hr (no _ z);lia
  ·exact z
 have sr:∀j,c_ s EJ j (search (pieces s) (graphOf s) j (pieces s).length []):=fun j=>EK (a8 s) Lz
 unfold Vbpcan.least;refine List.findSome?_eq_some_iff.mpr ⟨List.range k,k,(List.range' (k+1) ((pieces s).length - k)),?_,?_,fun x hx=>?_⟩
 ·rw[List.range_eq_range',List.range_eq_range',<-List.range'_succ,show(pieces s).length+1=k+((pieces s).length - k+1) by lia];rw[<-List.range'_append];simp
 ·rw[kX.uniq (sr k) hL];rfl
 ·rw[List.mem_range]at hx;rw[kX.uniq (sr x) (no x hx)];rfl
def grow(par:Nat->Nat)(ts:List Nat)(k:Nat):List Nat:=ts++(ts.filter fun t=>t &&& par k == 0).map fun t=>t ||| 2 ^ k
def cS(par:Nat->Nat)(l:List Nat):List Nat:=l.foldl (grow par) [0]
theorem kJ(par:Nat->Nat)(l:List Nat)(k:Nat):cS par (l++[k])=grow par (cS par l) k:=by
 unfold cS;rw[List.foldl_append];rfl
theorem and_zero{a b:Nat}:a &&& b=0↔∀u,a.testBit u=true->b.testBit u=false:=by
 constructor
 ·intro h u hu;have:=congrArg (fun x=>x.testBit u) h;simp only[Nat.testBit_and,Nat.zero_testBit]at this;rw[hu,Bool.true_and]at this;exact this
 ·intro h;refine Nat.eq_of_testBit_eq fun u=>?_
  rw[Nat.testBit_and,Nat.zero_testBit];cases e:a.testBit u with
  | false=>rfl
  | true=>rw[h u e];rfl
theorem NU{t k u:Nat}:(t ||| 2 ^ k).testBit u=(t.testBit u || decide (u=k)):=by
 rw[Nat.testBit_or,Nat.testBit_two_pow]
 congr 1
 by_cases e:u=k
 ·subst e;simp
 ·rw[decide_eq_false e,decide_eq_false (fun z=>e z.symm)]
section
variable{C:Nat->Nat->Bool}{par:Nat->Nat}(sy:∀u v,C u v=C v u)(ir:∀u,C u u=false)
include sy ir
theorem EL:∀(n:Nat) (l:List Nat),l.length=n->(∀k,k∈l->∀v,(par k).testBit v=C k v)->∀t,t∈cS par l->(∀u,t.testBit u=true->u∈l)∧∀u v,t.testBit u=true->t.testBit v=true->C u v=false:=by
 intro n
 induction n with
 | zero=>
  intro l hl _ t ht;have:l=[]:=List.length_eq_zero_iff.mp hl;subst this;have:t=0:=by simpa[cS]using ht
  subst this;simp
 | succ n ih=>
  intro l hl hp t ht;obtain⟨l',k,rfl⟩:∃l' k,l=l'++[k]:=by
   rcases List.eq_nil_or_concat l with e | ⟨a,b,e⟩
   ·subst e;simp at hl
   ·exact⟨a,b,by rw[e];simp⟩
  have ih':=ih l' (by simpa using hl) fun k hk=>hp k (by simp[hk])
  rw[kJ]at ht;unfold grow at ht;rcases List.mem_append.mp ht with z | z
  ·have:=ih' t z;exact⟨fun u hu=>by simp[this.1 u hu],this.2⟩
  ·obtain⟨t',h1,rfl⟩:=List.mem_map.mp z;rw[List.mem_filter]at h1;have h2:=and_zero.mp (eq_of_beq h1.2);have h3:=ih' t' h1.1;have hk:=hp k (by simp);have bt:∀u,(t' ||| 2 ^ k).testBit u=true->t'.testBit u=true∨u=k:=fun u hu=>by rw[NU]at hu;simpa using hu
   refine⟨fun u hu=>?_,fun u v hu hv=>?_⟩
   ·rcases bt u hu with z | z
    ·simp[h3.1 u z]
    ·simp[z]
   ·rcases bt u hu with z | z
    ·rcases bt v hv with y | y
     ·exact h3.2 u v z y
     ·rw[y,sy,<-hk];exact h2 u z
    ·rcases bt v hv with y | y
     ·rw[z,<-hk];exact h2 v y
     ·rw[z,y];exact ir k
theorem EM:∀(n:Nat) (l:List Nat),l.length=n->(∀k,k∈l->∀v,(par k).testBit v=C k v)->∀F:Nat->Bool,(∀u,F u=true->u∈l)->(∀u v,F u=true->F v=true->C u v=false)->∃t,t∈cS par l∧∀u,t.testBit u=F u:=by
 intro n
 induction n with
 | zero=>
  intro l hl _ F hF _;have:l=[]:=List.length_eq_zero_iff.mp hl;subst this;refine⟨0,by simp[cS],fun u=>?_⟩;cases e:F u with
  | false=>simp
  | true=>exact absurd (hF u e) (by simp)
 | succ n ih=>
  intro l hl hp F hF hi;obtain⟨l',k,rfl⟩:∃l' k,l=l'++[k]:=by
   rcases List.eq_nil_or_concat l with e | ⟨a,b,e⟩
   ·subst e;simp at hl
   ·exact⟨a,b,by rw[e];simp⟩
  have ih':=ih l' (by simpa using hl) fun k hk=>hp k (by simp[hk])
  cases ek:F k with
  | false=>
   obtain⟨t,h1,h2⟩:=ih' F (fun u hu=>by
    have:=hF u hu;rw[List.mem_append,List.mem_singleton]at this;rcases this with z | z
    ·exact z
    ·rw[z,ek]at hu;cases hu) hi
   exact⟨t,by rw[kJ];unfold grow;exact List.mem_append_left _ h1,h2⟩
  | true=>
   obtain⟨t,h1,h2⟩:=ih' (fun u=>F u && !decide (u=k)) (fun u hu=>by
    simp at hu;have:=hF u hu.1;rw[List.mem_append,List.mem_singleton]at this;rcases this with z | z
    ·exact z
    ·exact absurd z hu.2) (fun u v hu hv=>by simp at hu hv;exact hi u v hu.1 hv.1)
   refine⟨t ||| 2 ^ k,?_,fun u=>?_⟩
   ·rw[kJ];unfold grow;refine List.mem_append_right _ (List.mem_map.mpr ⟨t,List.mem_filter.mpr ⟨h1,?_⟩,rfl⟩);have:t &&& par k=0:=and_zero.mpr fun u hu=>by
     rw[h2]at hu;simp at hu;rw[hp k (by simp)];exact hi k u ek hu.1
    simp[this]
   ·rw[NU,h2];by_cases e:u=k
    ·subst e;simp[ek]
    ·simp[e]
end
theorem EN(par:Nat->Nat)(l:List Nat):(cS par l).length<=2 ^ l.length:=by
 have key:∀(l ts:List Nat),(l.foldl (grow par) ts).length<=ts.length * 2 ^ l.length:=by
  intro l
  induction l with
  | nil=>intro ts;simp
  | cons k l ih=>
   intro ts;have h1:=ih (grow par ts k);have h2:(grow par ts k).length<=ts.length * 2:=by
    unfold grow;rw[List.length_append,List.length_map];have:=List.length_filter_le (fun t=>t &&& par k == 0) ts;lia
   have h3:(grow par ts k).length * 2 ^ l.length<=ts.length * 2 * 2 ^ l.length:=Nat.mul_le_mul_right _ h2;have h4:ts.length * 2 ^ (k::l).length=ts.length * 2 * 2 ^ l.length:=by rw[List.length_cons,Nat.pow_succ,Nat.mul_assoc,Nat.mul_comm 2]
   rw[h4];exact Nat.le_trans h1 h3
 have:=key l [0];simpa[cS]using this
def DW(par:Nat->Nat)(ready:List Nat)(t:Nat):Bool:=ready.all fun k=>t &&& (2 ^ k ||| par k) != 0
theorem EO{a b:Nat}:(a &&& b != 0)=true↔∃u,a.testBit u=true∧b.testBit u=true:=by
 rw[bne_iff_ne,Ne,and_zero];constructor
 ·intro h;apply Classical.byContradiction;intro z;refine h fun u hu=>?_
  cases e:b.testBit u with
  | false=>rfl
  | true=>exact absurd ⟨u,hu,e⟩ z
 ·rintro ⟨u,h1,h2⟩ h
  rw[h u h1]at h2;cases h2
theorem LA{n:Nat}{C:Nat->Nat->Bool}{g:Graph}{S:Nat->Bool}{par:Nat->Nat}{ready:List Nat}{t:Nat}(hr:∀u,u∈ready↔Ready n g S u)(hp:∀k,k∈ready->∀v,(par k).testBit v=C k v):DW par ready t=true↔Full n C g S t.testBit:=by
 unfold DW;rw[List.all_eq_true];constructor
 ·intro h u hu;obtain⟨v,h1,h2⟩:=EO.mp (h u ((hr u).mpr hu));rw[Nat.testBit_or,Bool.or_eq_true,hp u ((hr u).mpr hu)]at h2;rcases h2 with z | z
  ·rw[Nat.testBit_two_pow]at z;have e:u=v:=by simpa using z
   subst e;exact .inl h1
  ·exact .inr ⟨v,h1,z⟩
 ·intro h k hk;refine EO.mpr ?_;rcases h k ((hr k).mp hk)with z | ⟨v,h1,h2⟩
  ·exact⟨k,z,by rw[Nat.testBit_or,Nat.testBit_two_pow];simp⟩
  ·exact⟨v,h1,by rw[Nat.testBit_or,hp k hk,h2,Bool.or_true]⟩
end Pc
end
section
namespace Pc
open Vbpcan
def skip(l:List Nat)(t:Nat):Nat:=l.foldl (fun t x=>if x=t then t+1 else t) t
theorem wc:∀{l:List Nat} (t:Nat),l.Pairwise (·<=·)->t<=skip l t∧skip l t ∉ l∧∀x,t<=x->x<skip l t->x∈l
 | [],t,_=>⟨Nat.le_refl _,by simp,fun x h1 h2=>by have:x<t:=h2;lia⟩
 | a::l,t,h=>by
  have h':=List.pairwise_cons.mp h;have e:skip (a::l) t=skip l (if a=t then t+1 else t):=rfl;rw[e];by_cases ha:a=t
  ·rw[if_pos ha];obtain⟨i1,i2,i3⟩:=wc (t+1) h'.2;refine⟨by lia,fun z=>?_,fun x h1 h2=>?_⟩
   ·rcases List.mem_cons.mp z with y | y
    ·lia
    ·exact i2 y
   ·by_cases hx:x=t
    ·rw[hx,ha];simp
    ·exact List.mem_cons_of_mem _ (i3 x (by lia) h2)
  ·rw[if_neg ha];obtain⟨i1,i2,i3⟩:=wc t h'.2;refine⟨i1,fun z=>?_,fun x h1 h2=>List.mem_cons_of_mem _ (i3 x h1 h2)⟩;rcases List.mem_cons.mp z with y | y
   ·rcases Nat.lt_or_ge t (skip l t)with w | w
    ·have:=h'.1 t (i3 t (Nat.le_refl _) w);lia
    ·lia
   ·exact i2 y
section
variable{ps:List Piece}{g:Graph}{k:Nat}{r:Row}
theorem mn{u t:Nat}(hu:u<ps.length):mayBe ps g r u t=true↔(∀v,v≠u->apart ps u v=true->trackOf r v≠t)∧(∀v,(u,v)∈g->t<trackOf r v)∧(∀v,(v,u)∈g->trackOf r v<t):=by
 unfold mayBe;obtain⟨p,hp⟩:∃p,ps[u]? = some p:=⟨_,List.getElem?_eq_getElem hu⟩;simp only[hp];rw[Bool.and_eq_true,List.all_eq_true,List.all_eq_true];refine and_congr ⟨fun h v hv ha e=>?_,fun h x hx=>?_⟩ ⟨fun h=>⟨fun v he=>?_,fun v he=>?_⟩,fun h e he=>?_⟩
 ·obtain⟨P,Q,h1,h2,h3⟩:=iC.mp ha;rw[hp]at h1;cases h1;have:=h (Q,v) (List.mem_zipIdx_iff_getElem?.mpr h2);simp[hv,e,h3]at this
 ·obtain⟨Q,v⟩:=x;have h2:ps[v]? = some Q:=List.mem_zipIdx_iff_getElem?.mp hx;by_cases e:v=u
  ·simp[e]
  ·cases ec:clash p Q with
   | false=>simp[ec]
   | true=>
    have:=h v e (iC.mpr ⟨p,Q,hp,h2,ec⟩);simp[this]
 ·have:=h _ he;simp at this;exact this.1
 ·have:=h _ he;simp at this;exact this.2
 ·obtain⟨a,b⟩:=e;simp;refine⟨?_,?_⟩
  ·by_cases e1:a=u
   ·subst e1;exact .inr (h.1 b he)
   ·exact .inl e1
  ·by_cases e1:b=u
   ·subst e1;exact .inr (h.2 a he)
   ·exact .inl e1
def ng(ps:List Piece)(g:Graph)(r:Row)(u:Nat):Prop:=∃t,1<=t∧t<trackOf r u∧mayBe ps g r u t=true
structure k5(ps:List Piece)(g:Graph)(r:Row)(u T:Nat):Prop where
 pos:1<=T
 U1:∀v,(v,u)∈g->trackOf r v<T
 free:∀v,apart ps u v=true->trackOf r v≠T
 low:∀x,1<=x->x<T->(∀v,(v,u)∈g->trackOf r v<x)->∃v,apart ps u v=true∧trackOf r v=x
abbrev wd(ps:List Piece)(g:Graph)(k:Nat)(r:Row):Prop:=Val ps.length (apart ps) g EJ k r
theorem k5.le{u T:Nat}(sm:Small g ps.length)(V:wd ps g k r)(hu:u<ps.length)(I:k5 ps g r u T):T<=trackOf r u:=by
 rcases Nat.lt_or_ge (trackOf r u) T with z | z
 ·obtain⟨v,h1,h2⟩:=I.low _ (V.lo u hu rfl) z fun v he=>V.ab v u he rfl rfl
  exact absurd h2.symm (V.cl u v hu (nT h1).2 rfl rfl h1)
 ·exact z
theorem k5.no{u T:Nat}(V:wd ps g k r)(hu:u<ps.length)(I:k5 ps g r u T){x:Nat}(h1:1<=x)(h2:x<T):mayBe ps g r u x=false:=by
 cases e:mayBe ps g r u x with
 | false=>rfl
 | true=>
  obtain⟨m1,m2,m3⟩:=(mn hu).mp e;obtain⟨v,h3,h4⟩:=I.low x h1 h2 m3;have hv:v≠u:=fun z=>by rw[z,cR]at h3;cases h3
  exact absurd h4 (m1 v hv h3)
theorem k5.may{u T:Nat}(sm:Small g ps.length)(V:wd ps g k r)(hu:u<ps.length)(I:k5 ps g r u T):mayBe ps g r u T=true:=by
 have hl:=I.le sm V hu;exact(mn hu).mpr ⟨fun v _ ha=>I.free v ha,fun v he=>by have:=V.ab u v he rfl rfl;lia,I.U1⟩
theorem k5.l9{u:Nat}(V:wd ps g k r)(hu:u<ps.length)(I:k5 ps g r u (trackOf r u)):¬ng ps g r u:=fun⟨t,h1,h2,h3⟩=>by
 rw[I.no V hu h1 h2]at h3;cases h3
theorem IB{p:Nat->Bool}{n a:Nat}(ha:a<n)(hp:p a=true)(hn:∀x,x<a->p x=false):(List.range n).find? p=some a:=
 z0 List.pairwise_lt_range (List.mem_range.mpr ha) hp fun y _ hy=>by
  rcases Nat.lt_or_ge y a with z | z
  ·rw[hn y z]at hy;cases hy
  ·exact z
theorem Ae{β:Type}{f:Nat->Option β}{n a:Nat}{b:β}(ha:a<n)(hp:f a=some b)(hn:∀x,x<a->f x=none):(List.range n).findSome? f=some b:=by
 refine List.findSome?_eq_some_iff.mpr ⟨List.range a,a,List.range' (a+1) (n - a - 1),?_,hp,fun x hx=>hn x (List.mem_range.mp hx)⟩;rw[List.range_eq_range',List.range_eq_range',<-List.range'_succ,show n=a+(n - a - 1+1) by lia,<-List.range'_append];simp
theorem NV{u:Nat}(h:¬ng ps g r u):((List.range (trackOf r u - 1)).find? fun t=>mayBe ps g r u (t+1))=none:=by
 refine List.find?_eq_none.mpr fun t ht=>?_
 rw[List.mem_range]at ht;intro z;exact h ⟨t+1,by lia,by lia,z⟩
theorem IC{u T:Nat}(sm:Small g ps.length)(V:wd ps g k r)(hu:u<ps.length)(I:k5 ps g r u T)(hT:T<trackOf r u)(hb:∀j,j<u->¬ng ps g r j):liftOne ps g r=some (r.set u T):=by
 unfold liftOne;refine Ae (a:=u) (by rw[V.len];exact hu) ?_ fun x hx=>?_
 ·have:=I.pos;have e:((List.range (trackOf r u - 1)).find? fun t=>mayBe ps g r u (t+1))=some (T - 1):=by
   refine IB (by lia) ?_ fun x hx=>I.no V hu (by lia) (by lia)
   rw[show T - 1+1=T by lia];exact I.may sm V hu
  rw[e];show some (r.set u (T - 1+1))=_;rw[show T - 1+1=T by lia]
 ·rw[NV (hb x hx)];rfl
theorem ER(V:wd ps g k r)(h:∀j,j<ps.length->¬ng ps g r j):liftOne ps g r=none:=by
 unfold liftOne;refine List.findSome?_eq_none_iff.mpr fun u hu=>?_
 rw[List.mem_range,V.len]at hu;rw[NV (h u hu)];rfl
theorem Val.lift{u T:Nat}(sm:Small g ps.length)(V:wd ps g k r)(hu:u<ps.length)(I:k5 ps g r u T):wd ps g k (r.set u T):=by
 have hul:u<r.length:=by rw[V.len];exact hu
 have at_:∀v,trackOf (r.set u T) v=if v=u then T else trackOf r v:=fun v=>cg hul
 have hle:=I.le sm V hu;refine⟨by rw[List.length_set];exact V.len,fun _ _ h=>(by cases h),fun v hv _=>?_,fun v hv _=>?_,fun v w hv hw _ _ hc=>?_,fun v w he _ _=>?_⟩
 ·rw[at_];split
  ·exact I.pos
  ·exact V.lo v hv rfl
 ·rw[at_];split
  ·have:=V.hi u hu rfl;lia
  ·exact V.hi v hv rfl
 ·rw[at_,at_];by_cases e1:v=u
  ·by_cases e2:w=u
   ·rw[e1,e2,cR]at hc;cases hc
   ·rw[if_pos e1,if_neg e2];rw[e1]at hc;exact fun z=>I.free w hc z.symm
  ·by_cases e2:w=u
   ·rw[if_neg e1,if_pos e2];rw[e2,fi]at hc;exact I.free v hc
   ·rw[if_neg e1,if_neg e2];exact V.cl v w hv hw rfl rfl hc
 ·rw[at_,at_];have:=V.ab v w he rfl rfl;by_cases e1:v=u
  ·by_cases e2:w=u
   ·rw[e1,e2]at this;lia
   ·rw[if_pos e1,if_neg e2];rw[e1]at this;lia
  ·by_cases e2:w=u
   ·rw[if_neg e1,if_pos e2];rw[e2]at he;exact I.U1 v he
   ·rw[if_neg e1,if_neg e2];exact this
theorem ng.back{u T q:Nat}(hga:∀p q,(p,q)∈g->apart ps p q=true)(sm:Small g ps.length)(V:wd ps g k r)(hu:u<ps.length)(hq:q<ps.length)(I:k5 ps g r u T)(hT:T<trackOf r u)(hqu:q≠u)
  (h:ng ps g (r.set u T) q) (hn:¬(apart ps u q=true∧trackOf r u<trackOf r q)):ng ps g r q:=by
 have hul:u<r.length:=by rw[V.len];exact hu
 have at_:∀v,trackOf (r.set u T) v=if v=u then T else trackOf r v:=fun v=>cg hul
 obtain⟨t,h1,h2,h3⟩:=h;rw[at_,if_neg hqu]at h2;obtain⟨m1,m2,m3⟩:=(mn hq).mp h3;refine⟨t,h1,h2,(mn hq).mpr ⟨fun v hv ha e=>?_,fun v he=>?_,fun v he=>?_⟩⟩
 ·by_cases ev:v=u
  ·subst ev;exact hn ⟨by rw[fi];exact ha,by lia⟩
  ·have:=m1 v hv ha;rw[at_,if_neg ev]at this;exact this e
 ·have:=m2 v he;rw[at_]at this;by_cases ev:v=u
  ·subst ev;rw[if_pos rfl]at this;lia
  ·rw[if_neg ev]at this;exact this
 ·have:=m3 v he;rw[at_]at this;by_cases ev:v=u
  ·subst ev;exact absurd ⟨hga _ _ he,V.ab v q he rfl rfl⟩ hn
  ·rw[if_neg ev]at this;exact this
end
structure pX(ps:List Piece)(g:Graph)(r0 r:Row)(may:List Bool)(k:Nat):Prop where
 val:wd ps g 200 r
 len:may.length=ps.length
 eq:lifted ps g r0.sum r0=lifted ps g r.sum r
 no:∀q,q<ps.length->may.getD q true=false->¬ng ps g r q
 T3:∀j,j<k->may.getD j true=false
section
variable{ps:List Piece}{g:Graph}{r0 r:Row}{may:List Bool}{k T:Nat}
theorem pX.init(V:wd ps g 200 r):pX ps g r r (List.replicate ps.length true) 0:=
 ⟨V,by simp,rfl,(fun q hq h=>by
  rw[List.getD_eq_getElem?_getD,List.getElem?_replicate]at h
  split at h
  ·cases h
  ·cases h),fun j hj=>by lia⟩
theorem pX.skip(L:pX ps g r0 r may k)(h:may.getD k true=false):pX ps g r0 r may (k+1):=
 ⟨L.val,L.len,L.eq,L.no,fun j hj=>by
  by_cases e:j=k
  ·rw[e];exact h
  ·exact L.T3 j (by lia)⟩
theorem rB{l:List Bool}{i j:Nat}{b:Bool}(h:i<l.length):(l.set i b).getD j true=if j=i then b else l.getD j true:=by
 rw[List.getD_eq_getElem?_getD,List.getD_eq_getElem?_getD];by_cases e:j=i
 ·subst e;rw[if_pos rfl,List.getElem?_set_self h];rfl
 ·rw[if_neg e,List.getElem?_set_ne (fun z=>e z.symm)]
theorem pX.same(L:pX ps g r0 r may k)(hk:k<ps.length)(I:k5 ps g r k (trackOf r k)):pX ps g r0 r (may.set k false) (k+1):=by
 have hkl:k<may.length:=by rw[L.len];exact hk
 refine⟨L.val,by rw[List.length_set];exact L.len,L.eq,fun q hq h=>?_,fun j hj=>?_⟩
 ·rw[rB hkl]at h;by_cases e:q=k
  ·rw[e];exact I.l9 L.val hk
  ·rw[if_neg e]at h;exact L.no q hq h
 ·rw[rB hkl];by_cases e:j=k
  ·rw[if_pos e]
  ·rw[if_neg e];exact L.T3 j (by lia)
theorem pX.rise{may':List Bool}(hga:∀p q,(p,q)∈g->apart ps p q=true)(sm:Small g ps.length)(L:pX ps g r0 r may k)(hk:k<ps.length)(I:k5 ps g r k T)(hT:T<trackOf r k)(hl:may'.length=ps.length)
  (hm:∀q,q<ps.length->may'.getD q true=false->((q=k∨may.getD q true=false)∧¬(apart ps k q=true∧trackOf r k<trackOf r q))):pX ps g r0 (r.set k T) may' 0:=by
 refine⟨L.val.lift sm hk I,hl,?_,fun q hq h=>?_,fun j hj=>by lia⟩
 ·rw[L.eq];refine Gh (IC sm L.val hk I hT fun j hj=>L.no j (by lia) (L.T3 j hj))
 ·obtain⟨h1,h2⟩:=hm q hq h;intro cl;by_cases e:q=k
  ·subst e;obtain⟨t,t1,t2,t3⟩:=cl;have hql:q<r.length:=by rw[L.val.len];exact hk
   rw[cg hql,if_pos rfl]at t2;have:mayBe ps g r q t=true:=by
    obtain⟨m1,m2,m3⟩:=(mn hk).mp t3;refine(mn hk).mpr ⟨fun v hv ha=>?_,fun v he=>?_,fun v he=>?_⟩
    ·have:=m1 v hv ha;rw[cg hql,if_neg hv]at this;exact this
    ·have hv:v≠q:=fun z=>by subst z;have:=L.val.ab _ _ he rfl rfl;lia
     have:=m2 v he;rw[cg hql,if_neg hv]at this;exact this
    ·have hv:v≠q:=fun z=>by subst z;have:=L.val.ab _ _ he rfl rfl;lia
     have:=m3 v he;rw[cg hql,if_neg hv]at this;exact this
   rw[I.no L.val hk t1 t2]at this;cases this
  ·have hno:=L.no q hq (h1.resolve_left e);exact hno (cl.back hga sm L.val hk hq I hT e h2)
theorem pX.end_(L:pX ps g r0 r may k)(hk:ps.length<=k):lifted ps g r0.sum r0=r:=by
 rw[L.eq];refine Iu (ER L.val fun j hj=>L.no j hj (L.T3 j (by lia)))
end
theorem RG{ps:List Piece}{g:Graph}{r:Row}{u b:Nat}{taken:List Nat}(hs:taken.Pairwise (·<=·))(ht:∀x,x∈taken↔∃v,apart ps u v=true∧trackOf r v=x)
  (hb:∀v,(v,u)∈g->trackOf r v<=b) (hb':b=0∨∃v,(v,u)∈g∧trackOf r v=b):k5 ps g r u (skip taken (1+b)):=by
 obtain⟨s1,s2,s3⟩:=wc (1+b) hs;refine⟨by lia,fun v he=>by have:=hb v he;lia,fun v ha e=>s2 ((ht _).mpr ⟨v,ha,e⟩),fun x h1 h2 h3=>(ht x).mp (s3 x ?_ h2)⟩;rcases hb' with z | ⟨v,h4,h5⟩
 ·lia
 ·have:=h3 v h4;lia
end Pc
end
section
namespace Pc
open Vbpcan
def fits(last:Option Piece)(p:Piece):Bool:=match last with
 | none=>true
 | some q=>decide (q.r<p.l) || (q.net == p.net && q.r == p.l)
def freeOf(g:Graph)(done:List Nat)(u:Nat):Bool:=g.all fun e=>e.2 != u || done.contains e.1
theorem Af{g:Graph}{done:List Nat}{u:Nat}:freeOf g done u=true↔∀p,(p,u)∈g->p∈done:=by
 unfold freeOf;rw[List.all_eq_true];constructor
 ·intro h p hp;have:=h _ hp;simpa using this
 ·rintro h ⟨a,b⟩ he
  by_cases e:b=u
  ·subst e;simp[h a he]
  ·simp[e]
theorem km(g:Graph)(done:List Nat)(last:Option Piece)(p:Nat×Piece)(l:List (Nat×Piece)):fill g done last (p::l)=if done.contains p.1=false∧freeOf g done p.1=true∧fits last p.2=true then p.1::fill g done (some p.2) l else fill g done last l:=by
 cases last <;> rfl
theorem nh(g:Graph)(done:List Nat):∀(l:List (Nat×Piece)) (last:Option Piece),fill g done last l=fill g done last (l.filter fun p=>!done.contains p.1)
 | [],_=>rfl
 | p::l,last=>by
  rw[km,List.filter_cons];cases e:done.contains p.1 with
  | true=>
   rw[if_neg (by simp)];exact nh g done l last
  | false=>
   rw[show(!false)=true from rfl,if_pos rfl,km,e]
   split
   ·rw[nh g done l]
   ·exact nh g done l last
theorem nU(g:Graph)(done:List Nat):∀(l:List (Nat×Piece)) (last:Option Piece),∀u,u∈fill g done last l->u∈l.map (·.1)∧u ∉ done
 | [],_,u,h=>by simp[fill]at h
 | p::l,last,u,h=>by
  rw[km]at h
  split at h
  ·rename_i hc;rcases List.mem_cons.mp h with z | z
   ·rw[z];exact⟨by simp,by simpa using hc.1⟩
   ·have:=nU g done l _ u z;exact⟨by rw[List.map_cons];exact List.mem_cons_of_mem _ this.1,this.2⟩
  ·have:=nU g done l _ u h;exact⟨by rw[List.map_cons];exact List.mem_cons_of_mem _ this.1,this.2⟩
theorem s_(g:Graph)(done:List Nat):∀(l:List (Nat×Piece)) (last:Option Piece),(l.map (·.1)).Nodup->(fill g done last l).Nodup
 | [],_,_=>by simp[fill]
 | p::l,last,h=>by
  rw[List.map_cons,List.nodup_cons]at h;rw[km]
  split
  ·exact List.nodup_cons.mpr ⟨fun z=>h.1 (nU g done l _ _ z).1,s_ g done l _ h.2⟩
  ·exact s_ g done l _ h.2
theorem KC(g:Graph)(done:List Nat):∀(l:List (Nat×Piece)),(∃p,p∈l∧p.1 ∉ done∧freeOf g done p.1=true)->fill g done none l≠[]
 | [],⟨p,h,_⟩=>by simp at h
 | q::l,⟨p,h,h1,h2⟩=>by
  rw[km]
  split
  ·simp
  ·rename_i hc;rcases List.mem_cons.mp h with z | z
   ·subst z;exact absurd ⟨by simpa using h1,h2,rfl⟩ hc
   ·exact KC g done l ⟨p,z,h1,h2⟩
theorem NW(g:Graph)(done:List Nat){l:List (Nat×Piece)}(last:Option Piece)(h:∀p,p∈l->p.1∈done):fill g done last l=[]:=by
 cases e:fill g done last l with
 | nil=>rfl
 | cons u r=>
  have:=nU g done l last u (by rw[e];simp);obtain⟨p,hp,rfl⟩:=List.mem_map.mp this.1;exact absurd (h p hp) this.2
def gE(n:Nat)(l:List (Nat×Nat)):Row:=(List.range n).map fun u=>((l.find? fun x=>x.1 == u).map fun x=>x.2).getD 0
theorem ES{n u:Nat}{l:List (Nat×Nat)}(h:u<n):trackOf (gE n l) u=((l.find? fun x=>x.1 == u).map fun x=>x.2).getD 0:=m9 _ h
theorem NX{put:List Nat}{u t:Nat}:((put.map fun u=>(u,t)).find? fun x=>x.1 == u)=if u∈put then some (u,t)else none:=by
 induction put with
 | nil=>rfl
 | cons a l ih=>
  rw[List.map_cons,List.find?_cons];by_cases e:a=u
  ·subst e;simp
  ·have:((a,t).1 == u)=false:=by simpa using e
   rw[this];simp only[ih,List.mem_cons];by_cases h:u∈l
   ·rw[if_pos h,if_pos (.inr h)]
   ·rw[if_neg h,if_neg (by rintro (z | z);exact e z.symm;exact h z)]
structure rW(s:State)(g:Graph)(i:Nat)(l:List (Nat×Nat)):Prop where
 eq:leftFrom g (byLeft s) (byLeft s).length 1 []=l++leftFrom g (byLeft s) ((byLeft s).length - i) (i+1) (l.map (·.1))
 nd:(l.map (·.1)).Nodup
 lt:∀u,u∈l.map (·.1)->u<(pieces s).length
 tr:∀x,x∈l->1<=x.2∧x.2<=i
 many:i<=l.length
theorem ya(s:State):((byLeft s).map (·.1)).Nodup:=by
 have h:=DV s;refine List.Pairwise.map _ (fun a b hab=>hab) (R:=fun a b=>a.1≠b.1) ?_;refine List.Pairwise.imp_of_mem (fun {a b} ha hb hab e=>?_) h;have h1:=jx.mp ha;have h2:=jx.mp hb;rw[e,h2]at h1;have:a.2=b.2:=(Option.some.inj h1).symm;unfold EI at hab;rw[this,e]at hab;lia
section
variable{s:State}{g:Graph}{i:Nat}{l:List (Nat×Nat)}
theorem rW.init:rW s g 0 []:=⟨rfl,by simp,fun u h=>by simp at h,fun x h=>by simp at h,Nat.le_refl _⟩
abbrev k6(s:State)(g:Graph)(l:List (Nat×Nat)):List Nat:=fill g (l.map (·.1)) none (byLeft s)
theorem mF{u:Nat}:u∈(byLeft s).map (·.1)↔u<(pieces s).length:=by
 constructor
 ·intro h;obtain⟨p,hp,rfl⟩:=List.mem_map.mp h;exact(List.getElem?_eq_some_iff.mp (jx.mp hp)).1
 ·intro h;exact List.mem_map.mpr ⟨(u,(pieces s)[u]),jx.mpr (List.getElem?_eq_getElem h),rfl⟩
theorem rW.aR(E:rW s g i l){u:Nat}(hu:u<(pieces s).length)(hn:u ∉ l.map (·.1)):i<(pieces s).length:=by
 have h1:(u::l.map (·.1)).Nodup:=List.nodup_cons.mpr ⟨hn,E.nd⟩;have h2:=gC (pieces s).length _ h1 fun x hx=>by
  rcases List.mem_cons.mp hx with z | z
  ·rw[z];exact hu
  ·exact E.lt x z
 have:=E.many;simp at h2;lia
theorem rW.some(E:rW s g i l)(sm:Small g (pieces s).length)(hr:Vbpcan.ring g (pieces s).length=[]){u:Nat}(hu:u<(pieces s).length)(hn:u ∉ l.map (·.1)):k6 s g l≠[]:=by
 apply KC;apply Classical.byContradiction;intro z;refine v_ sm (fun v=>v<(pieces s).length∧v ∉ l.map (·.1)) (fun v h=>h.1) (fun v hv=>?_) ⟨hu,hn⟩ hr;apply Classical.byContradiction;intro y;obtain⟨p,hp,e⟩:=List.mem_map.mp (mF.mpr hv.1);refine z ⟨p,hp,by rw[e];exact hv.2,Af.mpr fun a ha=>?_⟩;rw[e]at ha;exact Classical.byContradiction fun w=>y ⟨a,⟨(sm a v ha).1,w⟩,ha⟩
theorem rW.step(E:rW s g i l)(sm:Small g (pieces s).length)(hr:Vbpcan.ring g (pieces s).length=[]){u:Nat}(hu:u<(pieces s).length)(hn:u ∉ l.map (·.1)):rW s g (i+1) (l++(k6 s g l).map fun u=>(u,i+1)):=by
 have hi:=E.aR hu hn;have hne:=E.some sm hr hu hn;have em:((l++(k6 s g l).map fun u=>(u,i+1)).map (·.1))=l.map (·.1)++k6 s g l:=by
  rw[List.map_append,List.map_map]
  congr 1
  exact List.map_id' _
 refine⟨?_,?_,fun u hu=>?_,fun x hx=>?_,?_⟩
 ·rw[E.eq,em,show(byLeft s).length - i=((byLeft s).length - (i+1))+1 by rw[oO];lia];rw[List.append_assoc];rfl
 ·rw[em];refine List.nodup_append.mpr ⟨E.nd,s_ _ _ _ _ (ya s),fun a ha b hb e=>?_⟩;subst e;exact(nU _ _ _ _ _ hb).2 ha
 ·rw[em]at hu;rcases List.mem_append.mp hu with z | z
  ·exact E.lt u z
  ·exact mF.mp (nU _ _ _ _ _ z).1
 ·rcases List.mem_append.mp hx with z | z
  ·have:=E.tr x z;lia
  ·obtain⟨a,_,rfl⟩:=List.mem_map.mp z;exact⟨by show 1<=i+1;lia,Nat.le_refl _⟩
 ·have:=E.many;have:0<(k6 s g l).length:=List.length_pos_iff.mpr hne;rw[List.length_append,List.length_map];lia
theorem uJ(g:Graph){ps:List (Nat×Piece)}{done:List Nat}(h:∀p,p∈ps->p.1∈done):∀k t,leftFrom g ps k t done=[]
 | 0,_=>rfl
 | k+1,t=>by
  show(fill g done none ps).map (fun u=>(u,t))++leftFrom g ps k (t+1) (done++fill g done none ps)=[]
  rw[NW g done none h,List.append_nil];exact uJ g h k (t+1)
theorem rW.end_(E:rW s g i l)(h:∀u,u<(pieces s).length->u∈l.map (·.1)):leftEdge s g=gE (pieces s).length l:=by
 have e:leftFrom g (byLeft s) (byLeft s).length 1 []=l:=by
  rw[E.eq,uJ g (fun p hp=>h p.1 (mF.mp (List.mem_map.mpr ⟨p,hp,rfl⟩))),List.append_nil]
 show(List.range (byLeft s).length).map _=_
 rw[e,oO];rfl
theorem rW.row(E:rW s g i l){u:Nat}(hu:u<(pieces s).length):(u∈l.map (·.1)->1<=trackOf (gE (pieces s).length l) u∧trackOf (gE (pieces s).length l) u<=i)∧(u ∉ l.map (·.1)->trackOf (gE (pieces s).length l) u=0):=by
 rw[ES hu];constructor
 ·intro h;obtain⟨x,hx,e⟩:=List.mem_map.mp h;cases ef:l.find? fun x=>x.1 == u with
  | none=>
   have:=List.find?_eq_none.mp ef x hx;simp[e]at this
  | some y=>exact E.tr y (List.mem_of_find?_eq_some ef)
 ·intro h;cases ef:l.find? fun x=>x.1 == u with
  | none=>rfl
  | some y=>
   have h1:=List.mem_of_find?_eq_some ef;have h2:=List.find?_some ef;have e:y.1=u:=by simpa using h2
   exact absurd (List.mem_map.mpr ⟨y,h1,e⟩) h
theorem Ag{n t u:Nat}{put:List Nat}(hu:u<n)(hn:∀v,v∈put->v ∉ l.map (·.1)):trackOf (gE n (l++put.map fun u=>(u,t))) u=if u∈put then t else trackOf (gE n l) u:=by
 rw[ES hu,ES hu,List.find?_append,NX];by_cases h:u∈put
 ·rw[if_pos h,if_pos h];cases ef:l.find? fun x=>x.1 == u with
  | none=>rfl
  | some y=>
   have h1:=List.mem_of_find?_eq_some ef;have h2:=List.find?_some ef;have e:y.1=u:=by simpa using h2
   exact absurd (List.mem_map.mpr ⟨y,h1,e⟩) (hn u h)
 ·rw[if_neg h,if_neg h,Option.or_none]
end
structure yC(g:Graph)(done:List Nat)(w:List (Nat×Piece))(j:Nat)(put:List Nat)(last:Option Piece):Prop where
 eq:fill g done none w=put++fill g done last (w.drop j)
section
variable{g:Graph}{done:List Nat}{w:List (Nat×Piece)}{j:Nat}{put:List Nat}{last:Option Piece}{p:Nat×Piece}
theorem yC.init:yC g done w 0 [] none:=⟨rfl⟩
theorem KD{α:Type}{l:List α}{j:Nat}{p:α}(h:l[j]? = some p):l.drop j=p::l.drop (j+1):=by
 obtain⟨hl,e⟩:=List.getElem?_eq_some_iff.mp h;rw[<-e,<-List.drop_eq_getElem_cons hl]
theorem yC.here(T:yC g done w j put last)(h:w[j]? = some p)(hd:p.1 ∉ done)(hf:freeOf g done p.1=true)(ht:fits last p.2=true):yC g done w (j+1) (put++[p.1]) (some p.2):=by
 refine⟨?_⟩;rw[T.eq,KD h,km,if_pos ⟨by simpa using hd,hf,ht⟩,List.append_assoc];rfl
theorem yC.skip(T:yC g done w j put last)(h:w[j]? = some p)(hf:¬(freeOf g done p.1=true∧fits last p.2=true)):yC g done w (j+1) put last:=by
 refine⟨?_⟩;rw[T.eq,KD h,km,if_neg (fun z=>hf z.2)]
theorem yC.end_(T:yC g done w w.length put last):fill g done none w=put:=by
 rw[T.eq,List.drop_length];cases last <;> simp[fill]
end
end Pc
end
section
namespace Pc
open Vbpcan
def bD(ps:List Piece):List (Nat×Nat):=(List.range ps.length).flatMap fun p=>((List.range' (p+1) (ps.length - (p+1))).filter (apart ps p)).map fun q=>(p,q)
theorem d_{ps:List Piece}{p q:Nat}:(p,q)∈bD ps↔p<q∧apart ps p q=true:=by
 unfold bD;rw[List.mem_flatMap];constructor
 ·rintro ⟨a,ha,hb⟩
  obtain⟨b,hb,e⟩:=List.mem_map.mp hb;cases e;rw[List.mem_filter,List.mem_range'_1]at hb;exact⟨by lia,hb.2⟩
 ·rintro ⟨h1,h2⟩
  have:=nT h2;exact⟨p,List.mem_range.mpr this.1,List.mem_map.mpr ⟨q,List.mem_filter.mpr ⟨List.mem_range'_1.mpr (by lia),h2⟩,rfl⟩⟩
theorem we{n:Nat}(f:Nat->List (Nat×Nat))(h1:∀x e,e∈f x->e.1=x)(h2:∀x,(f x).Pairwise zZ):((List.range n).flatMap f).Pairwise zZ:=by
 induction n with
 | zero=>simp
 | succ n ih=>
  rw[List.range_succ,List.flatMap_append];refine List.pairwise_append.mpr ⟨ih,by simpa using h2 n,fun a ha b hb=>?_⟩;obtain⟨x,hx,hax⟩:=List.mem_flatMap.mp ha;have hb':b∈f n:=by simpa using hb
  have e1:=h1 x a hax;have e2:=h1 n b hb';rw[List.mem_range]at hx;exact .inl (by lia)
theorem DX(ps:List Piece):(bD ps).Pairwise zZ:=by
 refine we _ (fun x e he=>?_) fun x=>?_
 ·obtain⟨b,_,rfl⟩:=List.mem_map.mp he;rfl
 ·refine List.Pairwise.map _ (fun a b hab=>?_) (R:=fun a b=>a<b) (List.Pairwise.filter _ List.pairwise_lt_range');exact .inr ⟨rfl,hab⟩
theorem nV{ps:List Piece}{p q:Nat}(h:(p,q)∈bD ps):p<ps.length∧q<ps.length:=nT (d_.mp h).2
theorem rC(ps:List Piece):(bD ps).length<=ps.length * ps.length:=by
 have:=bT (fun p=>((List.range' (p+1) (ps.length - (p+1))).filter (apart ps p)).map fun q=>(p,q)) ps.length (List.range ps.length) fun x _=>by
  rw[List.length_map];refine Nat.le_trans (List.length_filter_le _ _) ?_;rw[List.length_range'];lia
 rw[List.length_range]at this;exact this
def gx(es:List (Nat×Nat))(u:Nat):List Nat:=es.filterMap fun e=>if e.1=u then some e.2 else if e.2=u then some e.1 else none
theorem ID(es:List (Nat×Nat))(p q u:Nat):gx (es++[(p,q)]) u=gx es u++(if p=u then [q]else if q=u then [p]else []):=by
 unfold gx;rw[List.filterMap_append]
 congr 1
 by_cases h:p=u
 ·simp[h]
 ·by_cases h':q=u
  ·simp[h,h']
  ·simp[h,h']
theorem ko{ps:List Piece}{u v:Nat}:v∈gx (bD ps) u↔apart ps u v=true:=by
 unfold gx;rw[List.mem_filterMap];constructor
 ·rintro ⟨⟨a,b⟩,he,h⟩
  have:=d_.mp he;by_cases h1:a=u
  ·simp[h1]at h;rw[<-h,<-h1];exact this.2
  ·by_cases h2:b=u
   ·simp[h1,h2]at h;rw[<-h,<-h2,fi];exact this.2
   ·simp[h1,h2]at h
 ·intro h;rcases Nat.lt_trichotomy u v with z | z | z
  ·exact⟨(u,v),d_.mpr ⟨z,h⟩,by simp⟩
  ·rw[z,cR]at h;cases h
  ·exact⟨(v,u),d_.mpr ⟨z,by rw[fi];exact h⟩,by simp;lia⟩
theorem wg(es:List (Nat×Nat))(u:Nat):(gx es u).length<=es.length:=List.length_filterMap_le _ _
def rD(ps:List Piece)(r:Row):List (Nat×Nat):=(bD ps).filter fun e=>trackOf r e.1 == trackOf r e.2
def mG(g:Graph)(r:Row):List (Nat×Nat):=g.filter fun e=>decide (trackOf r e.2<=trackOf r e.1)
def brk(k:Nat)(e:Nat×Nat):Broken:=⟨k,e.1,e.2⟩
theorem rE(s:State)(g:Graph)(r:Row):broken s g r=(rD (pieces s) r).map (brk 1)++(mG g r).map (brk 2):=by
 unfold broken;show _++_=_;refine congr (congrArg _ ?_) ?_
 ·have e:((List.range (pieces s).length).zip (pieces s)).flatMap (fun x=>((List.range (pieces s).length).zip (pieces s)).filterMap fun y=>if x.1<y.1∧clash x.2 y.2=true∧trackOf r x.1=trackOf r y.1 then some (x.1,y.1)else none)=rD (pieces s) r:=by
   refine Kw ?_ (List.Pairwise.filter _ (DX _)) fun e=>?_
   ·refine z_ (jI _) _ (fun x e he=>?_) fun x hx=>?_
    ·obtain⟨y,_,hy⟩:=List.mem_filterMap.mp he
     split at hy
     ·cases hy;rfl
     ·cases hy
    ·refine List.Pairwise.filterMap _ (fun a b hab e he e' he'=>?_) (jI (pieces s))
     split at he
     ·split at he'
      ·cases he;cases he';exact .inr ⟨rfl,hab⟩
      ·cases he'
     ·cases he
   ·obtain⟨p,q⟩:=e;unfold rD;rw[List.mem_filter,d_,List.mem_flatMap];constructor
    ·rintro ⟨x,hx,h⟩
     obtain⟨y,hy,h⟩:=List.mem_filterMap.mp h
     split at h
     ·rename_i hc;cases h;exact⟨⟨hc.1,iC.mpr ⟨x.2,y.2,cX.mp hx,cX.mp hy,hc.2.1⟩⟩,by simpa using hc.2.2⟩
     ·cases h
    ·rintro ⟨⟨h1,h2⟩,h3⟩
     obtain⟨P,Q,h4,h5,h6⟩:=iC.mp h2;refine⟨(p,P),cX.mpr h4,List.mem_filterMap.mpr ⟨(q,Q),cX.mpr h5,?_⟩⟩;rw[if_pos ⟨h1,h6,by simpa using h3⟩]
  rw[<-e,List.map_flatMap]
  congr 1
  funext x
  rw[List.map_filterMap]
  congr 1
  funext y
  split <;> rfl
 ·unfold mG;rw[<-List.filterMap_eq_filter,List.map_filterMap]
  congr 1
  funext e
  by_cases h:trackOf r e.1<trackOf r e.2
  ·rw[if_pos h];simp[Option.guard,h]
  ·rw[if_neg h];have h':trackOf r e.2<=trackOf r e.1:=by lia
   simp[Option.guard,h',brk]
theorem RH{s:State}{r:Row}(hl:r.length=(pieces s).length)(h1:∀t,t∈r->1<=t∧t<=200)(hb:broken s (graphOf s) r=[]):wd (pieces s) (graphOf s) 200 r:=by
 rw[rE,List.append_eq_nil_iff,List.map_eq_nil_iff,List.map_eq_nil_iff]at hb;have at_:∀u,u<(pieces s).length->trackOf r u∈r:=fun u hu=>getD_mem (by lia)
 have cl:∀u v,u<v->apart (pieces s) u v=true->trackOf r u≠trackOf r v:=fun u v h ha e=>by
  have:(u,v)∈rD (pieces s) r:=List.mem_filter.mpr ⟨d_.mpr ⟨h,ha⟩,by simp[e]⟩;rw[hb.1]at this;cases this
 refine⟨hl,fun _ _ h=>(by cases h),fun u hu _=>(h1 _ (at_ u hu)).1,fun u hu _=>(h1 _ (at_ u hu)).2,fun u v hu hv _ _ ha=>?_,fun u v he _ _=>?_⟩
 ·rcases Nat.lt_trichotomy u v with z | z | z
  ·exact cl u v z ha
  ·rw[z,cR]at ha;cases ha
  ·exact fun e=>cl v u z (by rw[fi];exact ha) e.symm
 ·apply Classical.byContradiction;intro z;have:(u,v)∈mG (graphOf s) r:=List.mem_filter.mpr ⟨he,by simp;lia⟩;rw[hb.2]at this;cases this
theorem LB{s:State}{r:Row}(hl:r.length=(pieces s).length):across s r=(List.range (pieces s).length).map fun k=>let P:=(pieces s).getD k ⟨0,0,0⟩;⟨P.net,P.l,trackOf r k,P.r,trackOf r k⟩:=by
 unfold across;refine List.ext_getElem? fun i=>?_
 rw[List.getElem?_map,List.getElem?_map];rcases Nat.lt_or_ge i (pieces s).length with h | h
 ·rw[List.getElem?_range h];have h':i<r.length:=by lia
  have hz:((pieces s).zip r)[i]? = some ((pieces s)[i],r[i]):=by
   rw[List.getElem?_zip_eq_some];exact⟨List.getElem?_eq_getElem h,List.getElem?_eq_getElem h'⟩
  rw[hz];simp[trackOf,List.getD_eq_getElem?_getD,h,h']
 ·rw[List.getElem?_eq_none (by simp;lia),List.getElem?_eq_none (by simp;lia)];rfl
def ed(s:State)(c:Nat):List Nat:=(if at_ s.top c=0 then []else [at_ s.top c])++(if at_ s.low c=0∨at_ s.low c=at_ s.top c then []else [at_ s.low c])
theorem DY(s:State)(c:Nat):ed s c=(if at_ s.top c=at_ s.low c then [at_ s.top c]else [at_ s.top c,at_ s.low c]).filter fun n=>n != 0:=by
 unfold ed
 generalize at_ s.top c=a
 generalize at_ s.low c=b
 by_cases h:a=b
 ·subst h;by_cases h0:a=0
  ·simp[h0]
  ·simp[h0]
 ·have h':¬b=a:=fun z=>h z.symm
  by_cases h0:a=0
  ·subst h0;simp[h,h']
  ·by_cases h1:b=0
   ·subst h1;simp[h0]
   ·simp[h0,h1,h,h']
theorem pY(s:State)(r:Row)(k:Nat):uprights s r k=(columns s).flatMap fun c=>(ed s c).map (upright s r k c):=by
 unfold uprights ed
 congr 1
 funext c
 rw[List.map_append]
 congr 1
 ·split <;> rfl
 ·split <;> rfl
theorem Ah{s:State}{c n:Nat}(h:n∈ed s c):n≠0∧(at_ s.top c=n∨at_ s.low c=n):=by
 unfold ed at h;rcases List.mem_append.mp h with z | z
 ·split at z
  ·cases z
  ·rename_i hn;have:n=at_ s.top c:=by simpa using z
   exact⟨by rw[this];exact hn,.inl this.symm⟩
 ·split at z
  ·cases z
  ·rename_i hn;have:n=at_ s.low c:=by simpa using z
   exact⟨by rw[this];exact fun y=>hn (.inl y),.inr this.symm⟩
def gy(s:State)(r:Row)(k c n:Nat):List Nat:=(aT s n c).map (trackOf r)++((if at_ s.top c=n then [0]else [])++(if at_ s.low c=n then [k+1]else []))
def allOf(s:State)(r:Row)(k c n:Nat):List Nat:=(if at_ s.top c=n then [0]else [])++((if at_ s.low c=n then [k+1]else [])++(((pieces s).zip r).filter fun x=>x.1.net == n && touches s x.1 c).map fun x=>x.2)
theorem Ai(s:State)(r:Row)(k c n:Nat):upright s r k c n=⟨n,c,(allOf s r k c n).foldl min (k+1),c,(allOf s r k c n).foldl max 0⟩:=rfl
theorem ni{s:State}{r:Row}{k c n x:Nat}(hl:r.length=(pieces s).length)(hn:at_ s.top c=n∨at_ s.low c=n):x∈gy s r k c n↔x∈allOf s r k c n:=by
 have key:x∈(aT s n c).map (trackOf r)↔x∈(((pieces s).zip r).filter fun x=>x.1.net == n && touches s x.1 c).map fun x=>x.2:=by
  rw[List.mem_map,List.mem_map];constructor
  ·rintro ⟨i,hi,rfl⟩
   obtain⟨P,h1,h2,h3,h4⟩:=l7.mp hi;have hil:=(List.getElem?_eq_some_iff.mp h1).1;have hr:r[i]? = some (trackOf r i):=by
    have:i<r.length:=by lia
    rw[List.getElem?_eq_getElem this];simp[trackOf,List.getD_eq_getElem?_getD,this]
   refine⟨(P,trackOf r i),List.mem_filter.mpr ⟨List.mem_iff_getElem?.mpr ⟨i,List.getElem?_zip_eq_some.mpr ⟨h1,hr⟩⟩,?_⟩,rfl⟩;simp[touches,covers,h2,h3,h4,hn]
  ·rintro ⟨⟨P,t⟩,hx,rfl⟩
   rw[List.mem_filter]at hx;obtain⟨hm,hc⟩:=hx;obtain⟨i,hi⟩:=List.mem_iff_getElem?.mp hm;obtain⟨h1,h2⟩:=List.getElem?_zip_eq_some.mp hi;simp[touches,covers]at hc;refine⟨i,l7.mpr ⟨P,h1,hc.1,hc.2.1.1,hc.2.1.2⟩,?_⟩;unfold trackOf;rw[List.getD_eq_getElem?_getD,h2];rfl
 unfold gy allOf;rw[List.mem_append,List.mem_append,List.mem_append,List.mem_append,key];constructor
 ·rintro (h | h | h)
  ·exact .inr (.inr h)
  ·exact .inl h
  ·exact .inr (.inl h)
 ·rintro (h | h | h)
  ·exact .inr (.inl h)
  ·exact .inr (.inr h)
  ·exact .inl h
theorem Aj{m:Nat}:∀(l:List Nat) (a:Nat),(∀x,x∈l->m<=x)->m<=a->(m∈l∨m=a)->l.foldl min a=m
 | [],a,_,_,h=>by rcases h with h | h;cases h;exact h.symm
 | x::l,a,h1,h2,h3=>by
  have hx:=h1 x (by simp);refine Aj l (min a x) (fun y hy=>h1 y (List.mem_cons_of_mem _ hy)) (by lia) ?_;rcases h3 with h | h
  ·rcases List.mem_cons.mp h with z | z
   ·exact .inr (by lia)
   ·exact .inl z
  ·exact .inr (by lia)
theorem tf{m:Nat}:∀(l:List Nat) (a:Nat),(∀x,x∈l->x<=m)->a<=m->(m∈l∨m=a)->l.foldl max a=m
 | [],a,_,_,h=>by rcases h with h | h;cases h;exact h.symm
 | x::l,a,h1,h2,h3=>by
  have hx:=h1 x (by simp);refine tf l (max a x) (fun y hy=>h1 y (List.mem_cons_of_mem _ hy)) (by lia) ?_;rcases h3 with h | h
  ·rcases List.mem_cons.mp h with z | z
   ·exact .inr (by lia)
   ·exact .inl z
  ·exact .inr (by lia)
theorem pZ:∀(l:List Nat) (a:Nat),a<=l.foldl max a∧∀x,x∈l->x<=l.foldl max a
 | [],a=>⟨Nat.le_refl _,fun x h=>by cases h⟩
 | y::l,a=>by
  have:=pZ l (max a y);refine⟨by simp only[List.foldl_cons];lia,fun x hx=>?_⟩;simp only[List.foldl_cons];rcases List.mem_cons.mp hx with z | z
  ·lia
  ·exact this.2 x z
theorem LC{r:Row}{u:Nat}:trackOf r u<=tracks r:=by
 rcases Nat.lt_or_ge u r.length with h | h
 ·exact(pZ r 0).2 _ (getD_mem h)
 ·rw[sZ h];exact Nat.zero_le _
theorem Ak{s:State}{r:Row}{k c n:Nat}(hn:at_ s.top c=n∨at_ s.low c=n):gy s r k c n≠[]:=by
 unfold gy;rcases hn with h | h
 ·rw[if_pos h];simp
 ·rw[if_pos h];simp
theorem IE{s:State}{r:Row}{c n lo hi:Nat}(hl:r.length=(pieces s).length)(hn:at_ s.top c=n∨at_ s.low c=n)
  (h1:lo∈gy s r (tracks r) c n) (h2:∀x,x∈gy s r (tracks r) c n->lo<=x) (h3:hi∈gy s r (tracks r) c n) (h4:∀x,x∈gy s r (tracks r) c n->x<=hi):upright s r (tracks r) c n=⟨n,c,lo,c,hi⟩:=by
 rw[Ai];have e1:(allOf s r (tracks r) c n).foldl min (tracks r+1)=lo:=by
  refine Aj _ _ (fun x hx=>h2 x ((ni hl hn).mpr hx)) ?_ (.inl ((ni hl hn).mp h1));unfold gy at h1;rcases List.mem_append.mp h1 with z | z
  ·obtain⟨i,_,rfl⟩:=List.mem_map.mp z;have:=LC (r:=r) (u:=i);lia
  ·rcases List.mem_append.mp z with z | z
   ·split at z
    ·have:lo=0:=by simpa using z
     lia
    ·cases z
   ·split at z
    ·have:lo=tracks r+1:=by simpa using z
     lia
    ·cases z
 have e2:(allOf s r (tracks r) c n).foldl max 0=hi:=tf _ _ (fun x hx=>h4 x ((ni hl hn).mpr hx)) (Nat.zero_le _) (.inl ((ni hl hn).mp h3));rw[e1,e2]
theorem yb{α β:Type}(R:α->β->Bool):∀(l:List α) (m:List β),(l.map fun p=>(m.filter (R p)).length).sum=(m.map fun c=>(l.filter fun p=>R p c).length).sum
 | [],m=>by
  have:(m.map fun c=>(([]:List α).filter fun p=>R p c).length)=m.map fun _=>0:=List.map_congr_left fun c _=>rfl
  rw[this]
  clear this
  induction m with
  | nil=>rfl
  | cons c m ih=>simpa using ih
 | p::l,m=>by
  rw[List.map_cons,List.sum_cons,yb R l m];have key:∀m:List β,(m.filter (R p)).length+(m.map fun c=>(l.filter fun p=>R p c).length).sum=(m.map fun c=>((p::l).filter fun p=>R p c).length).sum:=by
   intro m
   induction m with
   | nil=>rfl
   | cons c m ih=>
    rw[List.map_cons,List.map_cons,List.sum_cons,List.sum_cons,<-ih,List.filter_cons,List.filter_cons]
    split
    ·simp only[List.length_cons];lia
    ·lia
  exact key m
theorem LD{α:Type}(f:α->Bool)(l:List α):((List.range l.length).filter fun k=>match l[k]? with
  | some p=>f p
  | none=>false).length=(l.filter f).length:=by
 have key:∀(l:List α) (m:List α),((List.range l.length).filter fun k=>match (l++m)[k]? with
  | some p=>f p
  | none=>false).length=(l.filter f).length:=by
  intro l
  generalize hn:l.length=n
  induction n generalizing l with
  | zero=>
   intro m;have:l=[]:=List.length_eq_zero_iff.mp hn;subst this;rfl
  | succ n ih=>
   intro m;obtain⟨l',x,rfl⟩:∃l' x,l=l'++[x]:=by
    rcases List.eq_nil_or_concat l with e | ⟨a,b,e⟩
    ·subst e;simp at hn
    ·exact⟨a,b,by rw[e];simp⟩
   have hl:l'.length=n:=by simpa using hn
   rw[List.range_succ,List.filter_append,List.filter_append,List.length_append,List.length_append,List.append_assoc,ih l' hl]
   congr 1
   have:(l'++([x]++m))[n]? = some x:=by
    rw[List.getElem?_append_right (by lia),hl,Nat.sub_self];rfl
   simp only[List.filter_cons,this,List.filter_nil];cases f x <;> rfl
 have:=key l [];rw[List.append_nil]at this;exact this
theorem l_(s:State)(n c:Nat):(aT s n c).length=((pieces s).filter fun p=>p.net == n && covers p c).length:=by
 rw[<-LD]
 congr 1
 unfold aT;refine List.filter_congr fun k _=>?_
 cases (pieces s)[k]? with
 | none=>rfl
 | some p=>simp[covers]
theorem Gm{α:Type}(f h:α->Bool):∀(l:List α),(∀x,x∈l->¬(f x=true∧h x=true))->(l.filter fun x=>f x || h x).length=(l.filter f).length+(l.filter h).length
 | [],_=>rfl
 | x::l,hd=>by
  have ih:=Gm f h l fun y hy=>hd y (List.mem_cons_of_mem _ hy)
  have h0:=hd x (by simp);rw[List.filter_cons,List.filter_cons,List.filter_cons];cases e1:f x <;> cases e2:h x
  ·simpa using ih
  ·simp;lia
  ·simp;lia
  ·exact absurd ⟨e1,e2⟩ h0
theorem Gn(s:State)(c:Nat):((pieces s).filter fun p=>touches s p c).length=((ed s c).map fun n=>(aT s n c).length).sum:=by
 have zero:((pieces s).filter fun p=>p.net == 0 && covers p c).length=0:=by
  rw[List.length_eq_zero_iff];refine List.filter_eq_nil_iff.mpr fun p hp=>?_
  have:=(sV hp).2.1;simp[this]
 have e:((pieces s).filter fun p=>touches s p c)=(pieces s).filter fun p=>(p.net == at_ s.top c && covers p c) || (p.net == at_ s.low c && covers p c):=by
  refine List.filter_congr fun p _=>?_
  unfold touches;rw[Bool.eq_iff_iff];simp;constructor
  ·rintro ⟨h1,h2 | h2⟩
   ·exact .inl ⟨h2.symm,h1⟩
   ·exact .inr ⟨h2.symm,h1⟩
  ·rintro (⟨h1,h2⟩ | ⟨h1,h2⟩)
   ·exact⟨h2,.inl h1.symm⟩
   ·exact⟨h2,.inr h1.symm⟩
 have q:∀n,(if n=0 then []else [n]).map (fun n=>(aT s n c).length)=if n=0 then []else [(aT s n c).length]:=fun n=>by split <;> rfl
 have q2:∀n,(if n=0 then([]:List Nat)else [(aT s n c).length]).sum=(aT s n c).length:=fun n=>by
  split
  ·rename_i h;rw[h,l_,zero];rfl
  ·simp
 rw[e];unfold ed;by_cases h:at_ s.low c=at_ s.top c
 ·rw[if_pos (show at_ s.low c=0∨at_ s.low c=at_ s.top c from .inr h),List.append_nil,q,q2,l_,h]
  congr 1
  refine List.filter_congr fun p _=>?_
  rw[Bool.or_self]
 ·rw[Gm _ _ _ fun p _ z=>h (by
   simp at z;exact z.2.1.symm.trans z.1.1)]
  rw[<-l_,<-l_,List.map_append,List.sum_append,q,q2]
  congr 1
  have e2:(if at_ s.low c=0∨at_ s.low c=at_ s.top c then []else [at_ s.low c])=if at_ s.low c=0 then []else [at_ s.low c]:=by
   by_cases h0:at_ s.low c=0
   ·rw[if_pos (.inl h0),if_pos h0]
   ·rw[if_neg (by rintro (z | z);exact h0 z;exact h z),if_neg h0]
  rw[e2,q,q2]
def touched(s:State)(i:Nat):Nat:=((List.range i).map fun c=>((ed s c).map fun n=>(aT s n c).length).sum).sum
theorem Qk(s:State):vias s=touched s s.top.length:=by
 unfold vias touched;rw[yb]
 show((List.range s.top.length).map _).sum=_
 congr 1
 refine List.map_congr_left fun c _=>Gn s c
theorem ET(s:State)(i:Nat):touched s (i+1)=touched s i+((ed s i).map fun n=>(aT s n i).length).sum:=by
 unfold touched;rw[List.range_succ,List.map_append,List.sum_append];simp
theorem KG{s:State}{n:Int}:((nets s).any fun k=>(k:Int) == n)=true↔n≠0∧(n∈s.top.map (fun k:Nat=>(k:Int))∨n∈s.low.map (fun k:Nat=>(k:Int))):=by
 rw[List.any_eq_true];constructor
 ·rintro ⟨k,hk,e⟩
  have e:(k:Int)=n:=by simpa using e
  have:=mC.mp hk;refine⟨by lia,?_⟩;rcases this.2 with z | z
  ·exact .inl (List.mem_map.mpr ⟨k,z,e⟩)
  ·exact .inr (List.mem_map.mpr ⟨k,z,e⟩)
 ·rintro ⟨h0,h | h⟩
  ·obtain⟨k,hk,rfl⟩:=List.mem_map.mp h;exact⟨k,mC.mpr ⟨by lia,.inl hk⟩,by simp⟩
  ·obtain⟨k,hk,rfl⟩:=List.mem_map.mp h;exact⟨k,mC.mpr ⟨by lia,.inr hk⟩,by simp⟩
end Pc
end
section
namespace Pc
open Vbpcan
theorem NY:∀c:List (List Int),PyVbpcan.whole c=c
 | []=>rfl
 | []::_=>rfl
 | (k::u)::t=>by
  by_cases e0:k=0
  ·subst e0;rcases u with _ | ⟨z,y⟩ <;> rcases t with _ | ⟨a,_ | ⟨b,_ | ⟨z,y⟩⟩⟩ <;> rfl
  by_cases e1:k=1
  ·subst e1;rcases u with _ | ⟨p,_ | ⟨z,y⟩⟩ <;> rcases t with _ | ⟨z,y⟩ <;> rfl
  by_cases e2:k=2
  ·subst e2;rcases u with _ | ⟨p,_ | ⟨q,_ | ⟨v,_ | ⟨z,y⟩⟩⟩⟩ <;> rcases t with _ | ⟨z,y⟩ <;> rfl
  by_cases e3:k=3
  ·subst e3;cases u <;> cases t <;> rfl
  by_cases e4:k=4
  ·subst e4;cases u <;> cases t <;> rfl
  by_cases e5:k=5
  ·subst e5;cases u <;> cases t <;> rfl
  by_cases e6:k=6
  ·subst e6;cases u <;> cases t <;> rfl
  by_cases e7:k=7
  ·subst e7;cases u <;> cases t <;> rfl
  by_cases e8:k=8
  ·subst e8;cases u <;> cases t <;> rfl
  by_cases e9:k=9
  ·subst e9;cases u <;> cases t <;> rfl
  by_cases e10:k=10
  ·subst e10;cases u <;> cases t <;> rfl
  by_cases e11:k=11
  ·subst e11;rcases u with _ | ⟨z,y⟩ <;> rcases t with _ | ⟨a,_ | ⟨z,y⟩⟩ <;> rfl
  by_cases e12:k=12
  ·subst e12;rcases u with _ | ⟨z,y⟩ <;> rcases t with _ | ⟨a,_ | ⟨z,y⟩⟩ <;> rfl
  by_cases e13:k=13
  ·subst e13;rcases u with _ | ⟨z,y⟩ <;> rcases t with _ | ⟨a,_ | ⟨z,y⟩⟩ <;> rfl
  by_cases e14:k=14
  ·subst e14;rcases u with _ | ⟨z,y⟩ <;> rcases t with _ | ⟨a,_ | ⟨z,y⟩⟩ <;> rfl
  by_cases e15:k=15
  ·subst e15;cases u <;> cases t <;> rfl
  by_cases e16:k=16
  ·subst e16;cases u <;> cases t <;> rfl
  by_cases e17:k=17
  ·subst e17;rcases u with _ | ⟨p,_ | ⟨q,_ | ⟨z,y⟩⟩⟩ <;> rcases t with _ | ⟨z,y⟩ <;> rfl
  delta PyVbpcan.whole PyVbpcan.whole.match_1 PyVbpcan.whole._sparseCasesOn_1
  dsimp only
  rw[dif_neg e0,dif_neg e1,dif_neg e2,dif_neg e3,dif_neg e4,dif_neg e5,dif_neg e6,dif_neg e7,dif_neg e8,dif_neg e9,dif_neg e10,dif_neg e11,dif_neg e12,dif_neg e13,dif_neg e14,dif_neg e15,dif_neg e16,dif_neg e17]
abbrev gF:=List (List Int)
structure SM(l:List Int)(cs:List gF):Prop where
 put:l=PyFlat.put cs
 ok:∀c,c∈cs->PyFlat.okCall PyVbpcan.shape c
 each:∀c,c∈cs->VbpcanNeutral.asked1 c=true
 most:cs.length<=400
 Ud:(cs.filter fun(c:gF)=>match c with
  | [[11],_]=>true
  | _=>false).length<=45
 Vb:PyVbpcan.answers l=PyFlat.told (PyFlat.played VbpcanNeutral.step VbpcanNeutral.start cs)
theorem NZ{l:List Int}(h:PyVbpcan.answers_asked l=true):∃cs,SM l cs:=by
 unfold PyVbpcan.answers_asked at h;cases e:PyVbpcan.calls l with
 | none=>rw[e]at h;cases h
 | some cs=>
  rw[e]at h;have h':(PyFlat.atMost 400 cs && VbpcanNeutral.asked cs)=true:=h;rw[Bool.and_eq_true]at h';obtain⟨h1,h2⟩:=h';unfold VbpcanNeutral.asked at h2;rw[Bool.and_eq_true,Bool.and_eq_true,Bool.and_eq_true]at h2;obtain⟨h3,h4,h5,h6⟩:=h2;have ec:PyFlat.calls PyVbpcan.shape l.length l=some cs:=by
   unfold PyVbpcan.calls at e;cases e2:PyFlat.calls PyVbpcan.shape l.length l with
   | none=>rw[e2]at e;cases e
   | some ds=>
    rw[e2]at e;have e':some (ds.map PyVbpcan.whole)=some cs:=e;have:ds.map PyVbpcan.whole=ds:=by
     conv=>rhs;rw[<-List.map_id ds]
     exact List.map_congr_left fun c _=>NY c
    rw[this]at e';exact e'
  obtain⟨p1,p2⟩:=PyFlat.put_calls _ _ _ ec;refine⟨cs,p1,p2,List.all_eq_true.mp h3,of_decide_eq_true h5,of_decide_eq_true h6,?_⟩;unfold PyVbpcan.answers;rw[e]
def Al(l:List Int):Prop:=(∀z,z∈l->-2147483648<=z∧z<=2147483647)∧l.length<=10000
def yc(z:Int):Prop:=-2147483648<=z∧z<=2147483647
theorem oP{z:Int}(h:VbpcanNeutral.whole32 z=true):yc z:=by
 unfold VbpcanNeutral.whole32 at h;rw[Bool.and_eq_true,decide_eq_true_eq,decide_eq_true_eq]at h;unfold yc;lia
theorem nW{l:List Int}(h:(l.all (fun(z:Int)=>VbpcanNeutral.whole32 z) && decide (l.length<=10000))=true):Al l:=by
 rw[Bool.and_eq_true,List.all_eq_true]at h;exact⟨fun z hz=>oP (h.1 z hz),of_decide_eq_true h.2⟩
inductive Kind:gF->Vbpcan.Call->Prop
 | rows (a b:List Int):Al a->Al b->Kind [[0],a,b] (.rows a b)
 | mode (k:Int):yc k->Kind [[1,k]] (.mode k)
 | pin (a b c:Int):yc a->yc b->yc c->Kind [[2,a,b,c]] (.pin a b c)
 | nets:Kind [[3]] .nets
 | pieces:Kind [[4]] .pieces
 | density:Kind [[5]] .density
 | above:Kind [[6]] .above
 | levels:Kind [[7]] .levels
 | ring:Kind [[8]] .ring
 | left:Kind [[9]] .left
 | least:Kind [[10]] .least
 | check (a:List Int):Al a->Kind [[11],a] (.check a)
 | lift (a:List Int):Al a->Kind [[12],a] (.lift a)
 | draw (a:List Int):Al a->Kind [[13],a] (.draw a)
 | length (a:List Int):Al a->Kind [[14],a] (.length a)
 | mirror:Kind [[15]] .mirror
 | turn:Kind [[16]] .turn
 | rename (a b:Int):yc a->yc b->Kind [[17,a,b]] (.rename a b)
theorem KH:∀{c:gF},VbpcanNeutral.asked1 c=true->∃d,Kind c d
 | [],h=>Bool.noConfusion h
 | []::_,h=>Bool.noConfusion h
 | (k::u)::t,h=>by
  by_cases e0:k=0
  ·subst e0;rcases u with _ | ⟨z,y⟩ <;> rcases t with _ | ⟨a,_ | ⟨b,_ | ⟨z,y⟩⟩⟩ <;> first | exact Bool.noConfusion h | exact⟨_,.rows _ _ (nW (Bool.and_eq_true_iff.mp h).1) (nW (Bool.and_eq_true_iff.mp h).2)⟩
  by_cases e1:k=1
  ·subst e1;rcases u with _ | ⟨p,_ | ⟨z,y⟩⟩ <;> rcases t with _ | ⟨z,y⟩ <;> first | exact Bool.noConfusion h | exact⟨_,.mode _ (oP h)⟩
  by_cases e2:k=2
  ·subst e2;rcases u with _ | ⟨p,_ | ⟨q,_ | ⟨v,_ | ⟨z,y⟩⟩⟩⟩ <;> rcases t with _ | ⟨z,y⟩ <;> first | exact Bool.noConfusion h | exact⟨_,.pin _ _ _ (oP (Bool.and_eq_true_iff.mp h).1) (oP (Bool.and_eq_true_iff.mp (Bool.and_eq_true_iff.mp h).2).1) (oP (Bool.and_eq_true_iff.mp (Bool.and_eq_true_iff.mp h).2).2)⟩
  by_cases e3:k=3
  ·subst e3;cases u <;> cases t <;> first | exact Bool.noConfusion h | exact⟨_,.nets⟩
  by_cases e4:k=4
  ·subst e4;cases u <;> cases t <;> first | exact Bool.noConfusion h | exact⟨_,.pieces⟩
  by_cases e5:k=5
  ·subst e5;cases u <;> cases t <;> first | exact Bool.noConfusion h | exact⟨_,.density⟩
  by_cases e6:k=6
  ·subst e6;cases u <;> cases t <;> first | exact Bool.noConfusion h | exact⟨_,.above⟩
  by_cases e7:k=7
  ·subst e7;cases u <;> cases t <;> first | exact Bool.noConfusion h | exact⟨_,.levels⟩
  by_cases e8:k=8
  ·subst e8;cases u <;> cases t <;> first | exact Bool.noConfusion h | exact⟨_,.ring⟩
  by_cases e9:k=9
  ·subst e9;cases u <;> cases t <;> first | exact Bool.noConfusion h | exact⟨_,.left⟩
  by_cases e10:k=10
  ·subst e10;cases u <;> cases t <;> first | exact Bool.noConfusion h | exact⟨_,.least⟩
  by_cases e11:k=11
  ·subst e11;rcases u with _ | ⟨z,y⟩ <;> rcases t with _ | ⟨a,_ | ⟨z,y⟩⟩ <;> first | exact Bool.noConfusion h | exact⟨_,.check _ (nW h)⟩
  by_cases e12:k=12
  ·subst e12;rcases u with _ | ⟨z,y⟩ <;> rcases t with _ | ⟨a,_ | ⟨z,y⟩⟩ <;> first | exact Bool.noConfusion h | exact⟨_,.lift _ (nW h)⟩
  by_cases e13:k=13
  ·subst e13;rcases u with _ | ⟨z,y⟩ <;> rcases t with _ | ⟨a,_ | ⟨z,y⟩⟩ <;> first | exact Bool.noConfusion h | exact⟨_,.draw _ (nW h)⟩
  by_cases e14:k=14
  ·subst e14;rcases u with _ | ⟨z,y⟩ <;> rcases t with _ | ⟨a,_ | ⟨z,y⟩⟩ <;> first | exact Bool.noConfusion h | exact⟨_,.length _ (nW h)⟩
  by_cases e15:k=15
  ·subst e15;cases u <;> cases t <;> first | exact Bool.noConfusion h | exact⟨_,.mirror⟩
  by_cases e16:k=16
  ·subst e16;cases u <;> cases t <;> first | exact Bool.noConfusion h | exact⟨_,.turn⟩
  by_cases e17:k=17
  ·subst e17;rcases u with _ | ⟨p,_ | ⟨q,_ | ⟨z,y⟩⟩⟩ <;> rcases t with _ | ⟨z,y⟩ <;> first | exact Bool.noConfusion h | exact⟨_,.rename _ _ (oP (Bool.and_eq_true_iff.mp h).1) (oP (Bool.and_eq_true_iff.mp h).2)⟩
  delta VbpcanNeutral.asked1 VbpcanNeutral.asked1.match_1 VbpcanNeutral.made._sparseCasesOn_1 at h
  dsimp only at h
  rw[dif_neg e0,dif_neg e1,dif_neg e2,dif_neg e3,dif_neg e4,dif_neg e5,dif_neg e6,dif_neg e7,dif_neg e8,dif_neg e9,dif_neg e10,dif_neg e11,dif_neg e12,dif_neg e13,dif_neg e14,dif_neg e15,dif_neg e16,dif_neg e17]at h;exact Bool.noConfusion h
theorem Kind.step{c:gF}{d:Vbpcan.Call}(k:Kind c d)(s:State):VbpcanNeutral.step s c=Vbpcan.step s d:=by
 cases k <;> rfl
def after(s:State)(cs:List gF):State:=cs.foldl (fun s c=>(VbpcanNeutral.step s c).1) s
theorem IF(s:State)(cs:List gF)(c:gF):after s (cs++[c])=(VbpcanNeutral.step (after s cs) c).1:=by
 unfold after;rw[List.foldl_append];rfl
theorem yd:∀(cs:List gF) (s:State) (c:gF),PyFlat.played VbpcanNeutral.step s (cs++[c])=PyFlat.played VbpcanNeutral.step s cs++[(VbpcanNeutral.step (after s cs) c).2]
 | [],s,c=>rfl
 | d::cs,s,c=>by
  show(VbpcanNeutral.step s d).2::PyFlat.played VbpcanNeutral.step (VbpcanNeutral.step s d).1 (cs++[c])=_
  rw[yd cs];rfl
theorem LF(l:List (List Int))(a:List Int):PyFlat.told (l++[a])=PyFlat.told l++((a.length:Int)::a):=by
 unfold PyFlat.told;rw[List.flatMap_append];simp
theorem Am(cs ds:List gF):PyFlat.put (cs++ds)=PyFlat.put cs++PyFlat.put ds:=by
 induction cs with
 | nil=>rfl
 | cons c cs ih=>
  show PyFlat.put1 c++PyFlat.put (cs++ds)=(PyFlat.put1 c++PyFlat.put cs)++PyFlat.put ds;rw[ih,List.append_assoc]
theorem DZ{cs:List gF}{i:Nat}{c:gF}(h:cs[i]? = some c):PyFlat.put cs=PyFlat.put (cs.take i)++(PyFlat.put1 c++PyFlat.put (cs.drop (i+1))):=by
 have e:cs=cs.take i++(c::cs.drop (i+1)):=by
  obtain⟨hl,e⟩:=List.getElem?_eq_some_iff.mp h;rw[<-e,<-List.drop_eq_getElem_cons hl,List.take_append_drop]
 conv=>lhs;rw[e]
 rw[Am];rfl
theorem Kind.KI{c:gF}{d:Vbpcan.Call}(k:Kind c d):0<(PyFlat.put1 c).length:=by
 cases k <;> simp[PyFlat.put1]
end Pc
end
section
namespace L2
open PySem PySem.Spec PyProof.Rows
abbrev Key:=Sum Int Str
def An:Key->Value->Bool
 | .inl k,v=>Value.isInt k v
 | .inr x,v=>Value.isStrOf x v
def Ue(w:World):Key->Int
 | .inl k=>hashInt k
 | .inr x=>hashStr w x
theorem c5:∀{k:Key} {v:Value},An k v=true->(∃i t,k=Sum.inl i∧v=Value.int i t)∨(∃x t,k=Sum.inr x∧v=Value.str x t)
 | .inl i,v,h=>by
  obtain⟨t,e⟩:=Value.isInt_shape (k:=i) (v:=v) h;exact .inl ⟨i,t,rfl,e⟩
 | .inr x,v,h=>by
  obtain⟨t,e⟩:=Value.isStrOf_shape (x:=x) (v:=v) h;exact .inr ⟨x,t,rfl,e⟩
theorem LG(i:Int)(t:Tok):An (.inl i) (.int i t)=true:=by simp[An,Value.isInt]
theorem LH(x:Str)(t:Tok):An (.inr x) (.str x t)=true:=by simp[An,Value.isStrOf]
theorem RI(a b:Int):decide ((Sum.inl a:Key)=Sum.inl b)=(a == b):=by
 by_cases e:a=b
 ·subst e;simp
 ·have h:¬(Sum.inl a:Key)=Sum.inl b:=fun q=>e (Sum.inl.inj q)
  rw[decide_eq_false h];exact(beq_eq_false_iff_ne.mpr e).symm
theorem RJ(a b:Str):decide ((Sum.inr a:Key)=Sum.inr b)=decide (a=b):=by
 by_cases e:a=b
 ·subst e;simp
 ·have h:¬(Sum.inr a:Key)=Sum.inr b:=fun q=>e (Sum.inr.inj q)
  rw[decide_eq_false h,decide_eq_false e]
theorem RK(a:Int)(b:Str):decide ((Sum.inl a:Key)=Sum.inr b)=false:=decide_eq_false (fun q=>nomatch q)
theorem RL(a:Str)(b:Int):decide ((Sum.inr a:Key)=Sum.inl b)=false:=decide_eq_false (fun q=>nomatch q)
def cO(prog:Program)(w:World):PySem.KeyKind prog w Key where
 is:=An
 hash:=Ue w
 inj:=fun v a b ha hb=>by
  rcases c5 ha with ⟨i,t,rfl,rfl⟩ | ⟨x,t,rfl,rfl⟩
  ·rcases c5 hb with ⟨j,u,rfl,e⟩ | ⟨y,u,rfl,e⟩
   ·injection e with e1 _;rw[e1]
   ·exact nomatch e
  ·rcases c5 hb with ⟨j,u,rfl,e⟩ | ⟨y,u,rfl,e⟩
   ·exact nomatch e
   ·injection e with e1 _;rw[e1]
 byValue:=fun k v h=>by
  rcases c5 h with ⟨i,t,rfl,rfl⟩ | ⟨x,t,rfl,rfl⟩ <;> rfl
 pyHash:=fun hv h=>by
  rcases c5 hv with ⟨i,t,rfl,rfl⟩ | ⟨x,t,rfl,rfl⟩
  ·exact wpAny_pyHash_int h
  ·exact wpAny_pyHash_str h
 eqBool:=fun hu hv h=>by
  rcases c5 hu with ⟨i,t,rfl,rfl⟩ | ⟨x,t,rfl,rfl⟩
  ·rcases c5 hv with ⟨j,u,rfl,rfl⟩ | ⟨y,u,rfl,rfl⟩
   ·rw[RI]at h;exact wpAny_eqBool_int h
   ·rw[RK]at h;exact SeqAt.EqAt.int_str i t y u _ _ _ _ h
  ·rcases c5 hv with ⟨j,u,rfl,rfl⟩ | ⟨y,u,rfl,rfl⟩
   ·rw[RL]at h;exact SeqAt.EqAt.str_int x t j u _ _ _ _ h
   ·rw[RJ]at h;exact wpAny_eqBool_str h
 «strs»:=fun k x t v h=>by
  rcases c5 h with ⟨i,u,rfl,e⟩ | ⟨y,u,rfl,e⟩
  ·exact nomatch e
  ·injection e with e1 _
   subst e1;cases v <;> rfl
theorem Gp(prog:Program)(w:World)(i:Int)(t:Tok):(cO prog w).is (.inl i) (.int i t)=true:=LG i t
theorem Gq(prog:Program)(w:World)(x:Str)(t:Tok):(cO prog w).is (.inr x) (.str x t)=true:=LH x t
end L2
namespace L2
open PySem PySem.Spec PyProof.Rows
inductive V where
 | gi | bl (b:Bool) | int (i:Int) | str (x:Str) | F8 (b:Array UInt8) | RM (b:UInt64) | ref (a:Addr) | ty (n:String)
 deriving DecidableEq
def RelV:V->Value->Prop
 | .gi,u=>u=Value.none
 | .bl b,u=>u=Value.bool b
 | .int i,u=>∃t,u=Value.int i t
 | .str x,u=>∃t,u=Value.str x t
 | .F8 b,u=>∃t,u=Value.bytes b t
 | .RM b,u=>∃t,u=Value.float b t
 | .ref a,u=>u=Value.ref a
 | .ty n,u=>u=Value.type n
abbrev Vals:List V->List Value->Prop:=Paired RelV
theorem Vals.length{xs:List V}{us:List Value}(r:Vals xs us):xs.length=us.length:=Paired.length r
theorem Vals.get:∀{xs:List V} {us:List Value} {i:Nat} {x:V},Vals xs us->xs[i]? = some x->∃u,us[i]? = some u∧RelV x u
 | _,_,_,_,.nil,e=>by simp at e
 | _,_,0,_,.cons r _,e=>by simp at e;subst e;exact⟨_,rfl,r⟩
 | _,_,i+1,x,.cons _ t,e=>by
  obtain⟨u,h1,h2⟩:=Vals.get (i:=i) (x:=x) t (by simpa using e);exact⟨u,by simpa using h1,h2⟩
theorem Vals.set{x:V}{u:Value}(r:RelV x u):∀{xs:List V} {us:List Value} (i:Nat),Vals xs us->Vals (xs.set i x) (us.set i u)
 | _,_,_,.nil=>.nil
 | _,_,0,.cons _ t=>.cons r t
 | _,_,i+1,.cons q t=>.cons q (Vals.set r i t)
theorem Vals.append:∀{xs ys:List V} {us ws:List Value},Vals xs us->Vals ys ws->Vals (xs++ys) (us++ws)
 | _,_,_,_,.nil,s=>s
 | _,_,_,_,.cons r t,s=>.cons r (Vals.append t s)
theorem Vals.take:∀{xs:List V} {us:List Value} (n:Nat),Vals xs us->Vals (xs.take n) (us.take n)
 | _,_,0,_=>.nil
 | _,_,_+1,.nil=>.nil
 | _,_,n+1,.cons r t=>.cons r (Vals.take n t)
theorem Vals.drop:∀{xs:List V} {us:List Value} (n:Nat),Vals xs us->Vals (xs.drop n) (us.drop n)
 | _,_,0,r=>r
 | _,_,_+1,.nil=>.nil
 | _,_,n+1,.cons _ t=>Vals.drop n t
def pN:Option V->Option Value->Prop
 | some v,some u=>RelV v u
 | none,none=>True
 | _,_=>False
def KV{κ:Type}:List (κ×V)->List (κ×Value)->Prop:=Paired fun(p:κ×V) (q:κ×Value)=>p.1=q.1∧RelV p.2 q.2
def kV:Key->V
 | .inl i=>.int i
 | .inr x=>.str x
inductive HO where
 | lst (xs:List V)
 | tup (xs:List V)
 | dK (kvs:List (Key×V)) | dT (kvs:List (List Key×V))
 | set (S:Int->Bool) (n:Nat)
 | ins (C dx:Addr) (fs:List (Str×V))
 | own (x:Addr)
 | xd (fs:List (Str×V))
 | met (f x:Addr)
 | RF (lo hi:Int)
 | ye (o:Obj) (u:HO)
 | RN (ps:Array Value)
 | ext (φ:Heap->Prop)
abbrev Hp:=Addr->Option HO
def upd(H:Hp)(a:Addr)(o:HO):Hp:=fun b=>if b=a then some o else H b
theorem ah{H:Hp}{a:Addr}{o:HO}:upd H a o a=some o:=by unfold upd;rw[if_pos rfl]
theorem ak{H:Hp}{a b:Addr}{o:HO}(h:b≠a):upd H a o b=H b:=by unfold upd;rw[if_neg h]
theorem cj{H:Hp}{a b:Addr}{o u:HO}(h:H a=some o)(h':H b=some u)(d:o≠u):a≠b:=by
 intro e;subst e;rw[h]at h';exact d (Option.some.inj h')
theorem ao{H:Hp}{a b:Addr}{o:HO}(h:H a=some o)(h':H b=none):a≠b:=by
 intro e;subst e;rw[h]at h';cases h'
section
variable(P:Program)(w:World)
def cT(H:Hp)(h:Heap)(a:Addr):HO->Prop
 | .lst xs=>xs.length<=sizeLine∧∃(its:List Value) (n:Nat),Vals xs its∧h.get? a=some { cls:=.type "list",data:=.seq its.toArray n }
 | .tup xs=>xs.length<=sizeLine∧∃its:List Value,Vals xs its∧IsTup h a its.toArray
 | .dK kvs=>kvs.length<=sizeLine∧(a == sysModules)=false∧∃vs,KV kvs vs∧h.DictOf (cO P w) a vs
 | .dT kvs=>kvs.length<=sizeLine∧(a == sysModules)=false∧∃xs:List (List Key×Addr×Value),
   Paired (fun(p:List Key×V) (q:List Key×Addr×Value)=>p.1=q.1∧H q.2.1=some (.tup (p.1.map kV))∧RelV p.2 q.2.2) kvs xs∧
   ∃o es ep,h.get? a=some o∧o.ExactDict∧o.data=.dict es ep∧es.toList=xs.map (entryOfKey (tupleKind (cO P w)))∧(xs.map (·.1)).Nodup
 | .set S n=>h.SetOf (intKind P w) a S n
 | .ins C dx fs=>H dx=some (.own a)∧fs.length<=1000∧dx≠a∧h.get? a=some (W.instObj C dx)∧
   ∃mA,h.Ns1 dx mA∧(∀f,pN (fs.lookup f) (mA f))∧PySem.Within mA (fs.map (·.1))
 | .own _=>∃o,h.get? a=some o
 | .xd fs=>∃mA,h.Ns1 a mA∧∀f,pN (fs.lookup f) (mA f)
 | .RF lo hi=>∃t u v,h.get? a=some { cls:=.type "range",data:=.fields #[.int lo t,.int hi u,.int 1 v] }
 | .ye o u=>h.get? a=some o∧cT H h a u
 | .RN ps=>h.get? a=some { cls:=.none,data:=.fields ps }
 | .met f x=>h.get? a=some (W.methodObj (.ref f) (.ref x))
 | .ext φ=>φ h∧(∃o,h.get? a=some o)∧∀h1 h2:Heap,φ h1->(∀o,h1.get? a=some o->h2.get? a=some o)->φ h2
def p5(H:Hp)(h:Heap):Prop:=∀a o,H a=some o->cT P w H h a o
end
section
variable{P:Program}{w:World}{H H':Hp}{h h':Heap}{a:Addr}{o:HO}
theorem cT.lt(x:cT P w H h a o):a<h.objs.size:=by
 cases o with
 | lst xs=>obtain⟨_,_,_,_,e⟩:=x;exact Heap.lt_size e
 | tup xs=>obtain⟨_,_,_,p⟩:=x;exact p.lt
 | dK kvs=>obtain⟨_,_,_,_,o,_,_,e,_⟩:=x;exact Heap.lt_size e
 | dT kvs=>obtain⟨_,_,_,_,o,_,_,e,_⟩:=x;exact Heap.lt_size e
 | set S n=>obtain⟨o,_,_,_,e,_⟩:=x;exact Heap.lt_size e
 | ins C dx fs=>obtain⟨_,_,_,e,_⟩:=x;exact Heap.lt_size e
 | own y=>obtain⟨_,e⟩:=x;exact Heap.lt_size e
 | xd fs=>obtain⟨_,⟨_,_,_,e,_⟩,_⟩:=x;exact Heap.lt_size e
 | RF lo hi=>obtain⟨_,_,_,e⟩:=x;exact Heap.lt_size e
 | ye ob u=>obtain⟨e,_⟩:=x;exact Heap.lt_size e
 | RN ps=>exact Heap.lt_size (show h.get? a=some _ from x)
 | met f y=>exact Heap.lt_size (show h.get? a=some _ from x)
 | ext φ=>obtain⟨_,⟨_,e⟩,_⟩:=x;exact Heap.lt_size e
theorem Paired.RO{α β:Type}{F G:α->β->Prop}:∀{l₁:List α} {l₂:List β},Paired F l₁ l₂->(∀a b,F a b->G a b)->Paired G l₁ l₂
 | _,_,.nil,_=>.nil
 | _,_,.cons r t,f=>.cons (f _ _ r) (Paired.RO t f)
theorem cT.l9(x:cT P w H h a o)(k:∀b u,(b=a∨H b=some (.own a))->h.get? b=some u->h'.get? b=some u)
  (ho:∀b,H b=some (.own a)->H' b=some (.own a)) (ht:∀b xs,H b=some (.tup xs)->H' b=some (.tup xs)):cT P w H' h' a o:=by
 induction o with
 | lst xs=>obtain⟨z,its,n,r,e⟩:=x;exact⟨z,its,n,r,k _ _ (.inl rfl) e⟩
 | tup xs=>obtain⟨z,its,r,ob,e,c⟩:=x;exact⟨z,its,r,ob,k _ _ (.inl rfl) e,c⟩
 | dK kvs=>obtain⟨z,y,vs,r,ob,es,ep,e,c⟩:=x;exact⟨z,y,vs,r,ob,es,ep,k _ _ (.inl rfl) e,c⟩
 | dT kvs=>
  obtain⟨z,y,xs,r,ob,es,ep,e,c⟩:=x;exact⟨z,y,xs,Paired.RO r fun p q z=>⟨z.1,ht _ _ z.2.1,z.2.2⟩,ob,es,ep,k _ _ (.inl rfl) e,c⟩
 | set S n=>obtain⟨ob,es,ep,t,e,c⟩:=x;exact⟨ob,es,ep,t,k _ _ (.inl rfl) e,c⟩
 | ins C dx fs=>
  obtain⟨d,z,ne,e,mA,⟨od,es,ep,e2,c⟩,r⟩:=x;exact⟨ho _ d,z,ne,k _ _ (.inl rfl) e,mA,⟨od,es,ep,k _ _ (.inr d) e2,c⟩,r⟩
 | own y=>obtain⟨ob,e⟩:=x;exact⟨ob,k _ _ (.inl rfl) e⟩
 | xd fs=>obtain⟨mA,⟨od,es,ep,e,c⟩,r⟩:=x;exact⟨mA,⟨od,es,ep,k _ _ (.inl rfl) e,c⟩,r⟩
 | RF lo hi=>obtain⟨t,u,v,e⟩:=x;exact⟨t,u,v,k _ _ (.inl rfl) e⟩
 | ye ob u ih=>obtain⟨e,q⟩:=x;exact⟨k _ _ (.inl rfl) e,ih q⟩
 | RN ps=>
  have e:h.get? a=some { cls:=.none,data:=.fields ps }:=x;show h'.get? a=some { cls:=.none,data:=.fields ps };exact k a _ (.inl rfl) e
 | met f y=>
  have e:h.get? a=some (W.methodObj (.ref f) (.ref y)):=x;show h'.get? a=some (W.methodObj (.ref f) (.ref y));exact k a _ (.inl rfl) e
 | ext φ=>obtain⟨p,⟨o,e⟩,st⟩:=x;exact⟨st _ _ p fun o q=>k _ _ (.inl rfl) q,⟨o,k _ _ (.inl rfl) e⟩,st⟩
theorem p5.lt(x:p5 P w H h)(e:H a=some o):a<h.objs.size:=(x a o e).lt
theorem p5.fresh(x:p5 P w H h)(e:h.objs.size<=a):H a=none:=by
 cases q:H a with
 | none=>rfl
 | some u=>exact absurd (Nat.lt_of_lt_of_le (x.lt q) e) (Nat.lt_irrefl _)
theorem p5.kept(x:p5 P w H h)(k:∀b u,h.get? b=some u->h'.get? b=some u):p5 P w H h':=fun a o e=>
 (x a o e).l9 (fun b u _ q=>k b u q) (fun _ q=>q) fun _ _ q=>q
theorem p5.laid(x:p5 P w H h)(k:∀b u,h.get? b=some u->h'.get? b=some u)(hp:h.objs.size<=a)(new:cT P w (upd H a o) h' a o):p5 P w (upd H a o) h':=fun b u e=>by
 have hn:=x.fresh hp;by_cases hb:b=a
 ·subst hb;rw[ah]at e;cases e;exact new
 ·rw[ak hb]at e;exact(x b u e).l9 (fun c v _ q=>k c v q) (fun c q=>by rw[ak (ao q hn)];exact q) fun c xs q=>by rw[ak (ao q hn)];exact q
end
def Rd(H:Hp)(a:Addr)(u:HO):Prop:=H a=some u∨∃o,H a=some (.ye o u)
theorem Rd.ok{P:Program}{w:World}{H:Hp}{h:Heap}{a:Addr}{u:HO}(r:Rd H a u)(x:p5 P w H h):cT P w H h a u:=by
 rcases r with r | ⟨o,r⟩
 ·exact x a u r
 ·obtain⟨_,q⟩:=x a _ r;exact q
def SN:Option HO->Prop
 | some (.lst _)=>True
 | some (.dK _)=>True
 | some (.dT _)=>True
 | some (.set _ _)=>True
 | some (.ins _ _ _)=>True
 | some (.ext _)=>True
 | _=>False
section
variable{P:Program}{w:World}{H:Hp}{h h':Heap}{x e:Addr}{o':HO}
theorem p5.write(ok:p5 P w H h)(mu:SN (H x))(he:e=x∨H e=some (.own x))(k:∀b u,b≠e->h.get? b=some u->h'.get? b=some u)(heo:∃u,h'.get? e=some u)
  (new:cT P w (upd H x o') h' x o'):p5 P w (upd H x o') h':=fun b u q=>by
 have nown:∀c y,H c=some (.own y)->c≠x:=fun c y r z=>by subst z;rw[r]at mu;exact mu
 have ntup:∀c xs,H c=some (.tup xs)->c≠x:=fun c xs r z=>by subst z;rw[r]at mu;exact mu
 by_cases hb:b=x
 ·subst hb;rw[ah]at q;cases q;exact new
 ·rw[ak hb]at q;by_cases hbe:b=e
  ·have q':H b=some (.own x):=by
    rcases he with z | z
    ·exact absurd (hbe.trans z) hb
    ·rw[hbe];exact z
   rw[q]at q';cases q';obtain⟨v,hv⟩:=heo;exact⟨v,by rw[hbe];exact hv⟩
  ·refine(ok b u q).l9 (fun c v hc r=>k c v ?_ r) (fun c r=>by rw[ak (nown c b r)];exact r) fun c xs r=>by rw[ak (ntup c xs r)];exact r
   rcases hc with rfl | hc
   ·exact hbe
   ·rintro rfl
    rcases he with z | z
    ·exact nown c b hc z
    ·rw[hc]at z;cases z;exact hb rfl
end
structure Un(fs ex:List Addr)(H H':Hp)(h h':Heap):Prop where
 keep:∀b o,h.get? b=some o->H b=none->b ∉ fs->b ∉ ex->h'.get? b=some o
 slot:∀b o,h.get? b=some o->H b=none->b∈fs->b ∉ ex->∃sl,h'.get? b=some { o with slots:=sl }
 free:∀b o,h.get? b=some o->H b=none->b ∉ ex->H' b=none
 there:∀b o,h.get? b=some o->b ∉ ex->∃o',h'.get? b=some o'
 Gr:∀b xs,H b=some (.tup xs)->H' b=some (.tup xs)
 EU:∀b o u,H b=some (.ye o u)->H' b=some (.ye o u)
 Gs:∀b ps,H b=some (.RN ps)->∃more,H' b=some (.RN (ps++more))
section
variable{fs fs' ex ex':List Addr}{H H1 H2:Hp}{h h1 h2 h':Heap}{a x e:Addr}{o:HO}
theorem Un.any(u:Un fs ex H H1 h h1){b:Addr}{ob:Obj}(q:h.get? b=some ob)(n:H b=none)(hx:b ∉ ex):∃sl,h1.get? b=some { ob with slots:=sl }:=by
 by_cases hb:b∈fs
 ·exact u.slot b ob q n hb hx
 ·exact⟨ob.slots,u.keep b ob q n hb hx⟩
theorem Un.kept(k:∀b u,h.get? b=some u->h'.get? b=some u):Un fs ex H H h h':=
 ⟨fun b ob q _ _ _=>k b ob q,fun b ob q _ _ _=>⟨ob.slots,k b ob q⟩,fun _ _ _ n _=>n,fun b ob q _=>⟨ob,k b ob q⟩,fun _ _ q=>q,fun _ _ _ q=>q,fun _ ps q=>⟨#[],by rw[q];simp⟩⟩
theorem Un.refl:Un fs ex H H h h:=Un.kept fun _ _ q=>q
theorem Un.laid(k:∀b u,h.get? b=some u->h'.get? b=some u)(hp:h.objs.size<=a)(hn:H a=none):Un fs ex H (upd H a o) h h' where
 keep:=fun b u q _ _ _=>k b u q
 slot:=fun b u q _ _ _=>⟨u.slots,k b u q⟩
 free:=fun b u q n _=>by rw[ak (Nat.ne_of_lt (Nat.lt_of_lt_of_le (Heap.lt_size q) hp))];exact n
 there:=fun b u q _=>⟨u,k b u q⟩
 Gr:=fun b xs q=>by rw[ak (ao q hn)];exact q
 EU:=fun b u xs q=>by rw[ak (ao q hn)];exact q
 Gs:=fun b ps q=>⟨#[],by rw[ak (ao q hn),q];simp⟩
theorem Un.write(mu:SN (H x))(he:e=x∨H e=some (.own x))(k:∀b u,b≠e->h.get? b=some u->h'.get? b=some u)(heo:∃u,h'.get? e=some u):Un fs ex H (upd H x o) h h':=by
 have hx:∀b,H b=none->b≠x:=fun b n z=>by subst z;rw[n]at mu;exact mu
 have hb:∀b,H b=none->b≠e:=fun b n z=>by
  subst z;rcases he with r | r
  ·exact hx b n r
  ·rw[n]at r;cases r
 have hm:∀b u,H b=some u->¬SN (some u)->b≠x:=fun b u q nm z=>by subst z;rw[q]at mu;exact nm mu
 refine⟨fun b u q n _ _=>k b u (hb b n) q,fun b u q n _ _=>⟨u.slots,k b u (hb b n) q⟩,fun b u q n _=>by rw[ak (hx b n)];exact n,fun b u q _=>?_,
  fun b xs q=>by rw[ak (hm b _ q fun z=>z)];exact q,fun b u xs q=>by rw[ak (hm b _ q fun z=>z)];exact q,fun b ps q=>⟨#[],by rw[ak (hm b _ q fun z=>z),q];simp⟩⟩
 by_cases hbe:b=e
 ·subst hbe;exact heo
 ·exact⟨u,k b u hbe q⟩
end
def SE(h:Heap)(H:Hp):List Addr:=(List.range h.objs.size).filter fun a=>(H a).isSome
def EV(h:Heap)(H:Hp):Heap:=W.hideAll h (SE h H)
theorem LI(h:Heap)(H:Hp):(EV h H).objs.size=h.objs.size:=W.hideAll_size _ _
theorem N1{h:Heap}{H:Hp}{b:Addr}{o:Obj}(e:h.get? b=some o)(n:H b=none):(EV h H).get? b=some o:=
 W.hideAll_get _ e fun hm=>by
  have q:(H b).isSome=true:=(List.mem_filter.mp hm).2;rw[n]at q;simp at q
theorem Ql{h:Heap}{H:Hp}{b:Addr}{o:Obj}(e:(EV h H).get? b=some o):h.get? b=some o∧H b=none:=by
 have e':h.get? b=some o:=W.of_hideAll (SE h H) e;refine⟨e',?_⟩;cases q:H b with
 | none=>rfl
 | some x=>
  have hm:b∈SE h H:=List.mem_filter.mpr ⟨List.mem_range.mpr (Heap.lt_size e'),by simp[q]⟩;have z:(EV h H).get? b=none:=W.hideAll_none (SE h H) hm;rw[z]at e;cases e
end L2
namespace L2
open PySem PySem.Spec PyProof.Rows
structure Mod(K:W.Frag)(mg:Str->Option Value)(base:Heap):Prop where
 SO:K.In base
 glob:base.Ns mainGlobals mg
 blt:∃mb,base.Ns builtinsNs mb∧∀x:Str,x≠"__name__"->mb x=bootBuiltins x
 nolimit:base.NoLimit
structure Cx where
 prog:Program
 w:World
 K:W.Frag
 mg:Str->Option Value
 base:Heap
 A:Around
 N:List Str
 D0:Shared
 SQ:Hp
 env:Env
 outer:List Env
 stack:List Env
 ex:List Addr
 fn:Str->Bool
 calm:Bool
 pn:List (Addr×Obj)
 xe:Value->Shared->Prop
def N2(l:List Env):List Addr:=l.filterMap (·.frame)
abbrev Cx.fs(X:Cx):List Addr:=N2 X.outer
def SF(sc:Scope)(x:Str):Prop:=sc.names.lookup x=some .local∨sc.names.lookup x=some .cell∨sc.names.lookup x=some .free
def Loc(sc:Scope)(x:Str):Prop:=sc.names.lookup x=some .local∨sc.names.lookup x=some .cell
def Look(env:Env)(h:Heap)(m:Str->Option Value)(x:Str)(u:Value):Prop:=
 (env.kindOf x=some .local∧m x=some u)∨((env.kindOf x=some .cell∨env.kindOf x=some .free)∧∃c,env.cells.lookup x=some c∧h.IsCell c (some u))
structure Cx.Ok(X:Cx):Prop where
 mod:Mod X.K X.mg X.base
 kind:X.env.scope.kind=.function
 glob:X.env.globals=mainGlobals
 blt:X.env.builtins=builtinsNs
 above:X.D0.heap.objs.size<=X.env.locals
 inj:∀x y c,X.env.cells.lookup x=some c->X.env.cells.lookup y=some c->x=y
 has:∀x,(X.env.kindOf x=some .cell∨X.env.kindOf x=some .free)->∃c,X.env.cells.lookup x=some c
 SR:∀x c,X.fn x=true->X.env.cells.lookup x=some c->X.D0.heap.objs.size<=c
 hd:X.calm=true->X.A.handled=none
 frames:X.A.frames=some X.stack
 T4:X.stack=X.outer∨(X.stack=X.env::X.outer∧X.env.frame=some X.env.locals)
 T5:∀b∈X.ex,b≠X.env.locals∧∀x c,X.env.cells.lookup x=some c->c≠b
 bs:∀b o,X.base.get? b=some o->X.D0.heap.get? b=some o∧X.SQ b=none
 Qm:X.base.objs.size<=X.D0.heap.objs.size
 N3:∀b o,X.base.get? b=some o->b ∉ X.ex
 N4:∀b∈X.ex,b ∉ X.fs
 yD:X.D0.heap.FunFrames X.base X.outer
 RP:∀b∈X.fs,X.SQ b=none
structure Inv(X:Cx)(pins:List (Addr×Obj))(σ:List (Option V))(H:Hp)(s:Shared):Prop where
 ok:X.Ok
 os:s.os=X.D0.os
 bare:AllBare s.gens
 base:Un X.fs X.ex X.SQ H X.D0.heap s.heap
 loc:∃m,s.heap.Ns X.env.locals m∧∀(i:Nat) (x:Str) (v:V),X.N[i]? = some x->σ[i]? = some (some v)->SF X.env.scope x->∃u,RelV v u∧Look X.env s.heap m x u
 cell:∀x c,X.env.cells.lookup x=some c->∃v,s.heap.IsCell c v
 free:H X.env.locals=none
 p6:∀x c,X.env.cells.lookup x=some c->H c=none
 pin:∀p∈X.pn++pins,s.heap.get? p.1=some p.2∧H p.1=none∧p.1≠X.env.locals∧p.1 ∉ X.fs∧∀v,p.2.data≠.cell v
 ck:p5 X.prog X.w H s.heap
 len:σ.length=X.N.length
section
variable{X:Cx}{pins:List (Addr×Obj)}{σ:List (Option V)}{H H':Hp}{s:Shared}{h':Heap}
theorem Cx.Ok.Ug(ok:X.Ok){b:Addr}{o:Obj}(e:X.base.get? b=some o):b ∉ X.fs:=fun hb=>by
 have:=(ok.yD.mem hb).1;rw[e]at this;cases this
theorem Inv.bs(I:Inv X pins σ H s):∀b o,X.base.get? b=some o->s.heap.get? b=some o∧H b=none:=fun b o e=>
 ⟨I.base.keep b o (I.ok.bs b o e).1 (I.ok.bs b o e).2 (I.ok.Ug e) (I.ok.N3 b o e),I.base.free b o (I.ok.bs b o e).1 (I.ok.bs b o e).2 (I.ok.N3 b o e)⟩
theorem Inv.bk(I:Inv X pins σ H s):∀b o,X.base.get? b=some o->s.heap.get? b=some o:=fun b o e=>(I.bs b o e).1
theorem Inv.mod(I:Inv X pins σ H s):Mod X.K X.mg X.base:=I.ok.mod
theorem Inv.yg(I:Inv X pins σ H s):X.K.In s.heap:=I.ok.mod.SO.keeps I.bk
theorem Inv.lt(I:Inv X pins σ H s):X.env.locals<s.heap.objs.size:=let ⟨_,hn,_⟩:=I.loc;hn.lt
theorem Inv.sz(I:Inv X pins σ H s):X.D0.heap.objs.size<=s.heap.objs.size:=Nat.le_trans I.ok.above (Nat.le_of_lt I.lt)
theorem Inv.Uh(I:Inv X pins σ H s){a:Addr}(h:s.heap.objs.size<=a):a ∉ X.fs:=fun hb=>by
 obtain⟨_,o,ho,_⟩:=I.ok.yD.mem hb;exact absurd (Nat.lt_of_lt_of_le (Heap.lt_size ho) (Nat.le_trans I.sz h)) (Nat.lt_irrefl _)
theorem Inv.RQ(I:Inv X pins σ H s):∀x c,X.env.cells.lookup x=some c->c≠X.env.locals:=fun x c e z=>by
 obtain⟨v,o,ho,hd⟩:=I.cell x c e;obtain⟨m,⟨o',es,ep,ho',hd',_⟩,_⟩:=I.loc;rw[z,ho']at ho;cases ho;rw[hd']at hd;cases hd
theorem Inv.yD(I:Inv X pins σ H s):s.heap.FunFrames X.base X.outer:=by
 have all:∀(l:List Env),(∀b∈N2 l,b∈X.fs)->X.D0.heap.FunFrames X.base l->s.heap.FunFrames X.base l:=by
  intro l
  induction l with
  | nil=>intro _ _;trivial
  | cons env r ih=>
   intro hs hl;obtain⟨hk,⟨L,o,hf,hn,ho,hd⟩,hr⟩:=hl;have hL:L∈X.fs:=hs L (by unfold N2;rw[List.filterMap_cons,hf];exact List.mem_cons_self);obtain⟨sl,e⟩:=I.base.slot L o ho (I.ok.RP L hL) hL fun z=>I.ok.N4 L z hL
   exact⟨hk,⟨L,_,hf,hn,e,hd⟩,ih (fun b hb=>hs b (by unfold N2;rw[List.filterMap_cons,hf];exact List.mem_cons_of_mem _ hb)) hr⟩
 exact all X.outer (fun _ hb=>hb) I.ok.yD
theorem Inv.stack(I:Inv X pins σ H s):s.heap.FunFrames X.base X.stack:=by
 rcases I.ok.T4 with e | ⟨e,hf⟩
 ·rw[e];exact I.yD
 ·rw[e];obtain⟨m,hn,_⟩:=I.loc;refine .cons (by rw[I.ok.kind];decide) hf hn ?_ I.yD;exact Heap.get?_none_of_le (Nat.le_trans I.ok.Qm I.ok.above)
theorem Inv.IG(I:Inv X pins σ H s):∀b∈N2 X.stack,b∈X.env.locals::X.fs:=fun b hb=>by
 rcases I.ok.T4 with e | ⟨e,hf⟩
 ·rw[e]at hb;exact List.mem_cons_of_mem _ hb
 ·rw[e]at hb;unfold N2 at hb;rw[List.filterMap_cons,hf]at hb;exact hb
theorem Inv.KJ(I:Inv X pins σ H s):∀b∈N2 X.stack,H b=none:=fun b hb=>by
 rcases List.mem_cons.mp (I.IG b hb)with e | hb
 ·rw[e];exact I.free
 ·obtain⟨_,o,ho,_⟩:=I.ok.yD.mem hb;exact I.base.free b o ho (I.ok.RP b hb) fun z=>I.ok.N4 b z hb
theorem Inv.step{g':Array GenState}{t':Nat}{d':Drawn}{ch:List Addr}(I:Inv X pins σ H s)
  (hch:∀b∈ch,(b∈X.ex∨X.D0.heap.objs.size<=b)∧b≠X.env.locals∧(∀x c,X.env.cells.lookup x=some c->c≠b)∧∀p∈X.pn++pins,p.1≠b)
  (keep:∀b o,b≠X.env.locals->b ∉ X.fs->b ∉ ch->s.heap.get? b=some o->H b=none->h'.get? b=some o)
  (slot:∀b o,b≠X.env.locals->b∈X.fs->b ∉ ch->s.heap.get? b=some o->H b=none->∃sl,h'.get? b=some { o with slots:=sl }) (free:∀b o,b ∉ ch->s.heap.get? b=some o->H b=none->H' b=none)
  (there:∀b o,b ∉ ch->s.heap.get? b=some o->∃o',h'.get? b=some o')
  (Gr:∀b xs,H b=some (.tup xs)->H' b=some (.tup xs)) (EU:∀b o u,H b=some (.ye o u)->H' b=some (.ye o u)) (Gs:∀b ps,H b=some (.RN ps)->∃more,H' b=some (.RN (ps++more)))
  (ns:∀m,s.heap.Ns X.env.locals m->h'.Ns X.env.locals m) (ck:p5 X.prog X.w H' h') (hg:AllBare g') :
  Inv X pins σ H' { s with heap:=h',gens:=g',drawn:=d',toks:=t' }:=by
 have neL:∀b o,X.D0.heap.get? b=some o->b≠X.env.locals:=fun b o e=>Nat.ne_of_lt (Nat.lt_of_lt_of_le (Heap.lt_size e) I.ok.above)
 have neC:∀b o,X.D0.heap.get? b=some o->b ∉ X.ex->b ∉ ch:=fun b o e hx hb=>by
  rcases(hch b hb).1 with z | z
  ·exact hx z
  ·exact absurd (Nat.lt_of_lt_of_le (Heap.lt_size e) z) (Nat.lt_irrefl _)
 have cellK:∀x c,X.env.cells.lookup x=some c->∀v,s.heap.IsCell c v->h'.IsCell c v:=fun x c e v ⟨o,ho,hd⟩=>by
  have nch:c ∉ ch:=fun z=>(hch c z).2.2.1 x c e rfl
  by_cases hc:c∈X.fs
  ·obtain⟨sl,q⟩:=slot c o (I.RQ x c e) hc nch ho (I.p6 x c e);exact⟨_,q,hd⟩
  ·exact⟨o,keep c o (I.RQ x c e) hc nch ho (I.p6 x c e),hd⟩
 refine⟨I.ok,I.os,hg,⟨fun b o e n hb hx=>?_,fun b o e n hb hx=>?_,fun b o e n hx=>?_,fun b o e hx=>?_,fun b xs e=>Gr b xs (I.base.Gr b xs e),fun b o xs e=>EU b o xs (I.base.EU b o xs e),fun b ps e=>?_⟩,?_,fun x c e=>?_,?_,fun x c e=>?_,fun p hp=>?_,ck,I.len⟩
 ·exact keep b o (neL b o e) hb (neC b o e hx) (I.base.keep b o e n hb hx) (I.base.free b o e n hx)
 ·obtain⟨sl,e1⟩:=I.base.slot b o e n hb hx;obtain⟨sl',e2⟩:=slot b _ (neL b o e) hb (neC b o e hx) e1 (I.base.free b o e n hx);exact⟨sl',e2⟩
 ·obtain⟨o',e1⟩:=I.base.there b o e hx;exact free b o' (neC b o e hx) e1 (I.base.free b o e n hx)
 ·obtain⟨o',e1⟩:=I.base.there b o e hx;exact there b o' (neC b o e hx) e1
 ·obtain⟨m1,e1⟩:=I.base.Gs b ps e;obtain⟨m2,e2⟩:=Gs b _ e1;exact⟨m1++m2,by rw[e2,Array.append_assoc]⟩
 ·obtain⟨m,hn,hl⟩:=I.loc;refine⟨m,ns m hn,fun i x v e1 e2 e3=>?_⟩;obtain⟨u,r,l⟩:=hl i x v e1 e2 e3;refine⟨u,r,?_⟩;rcases l with l | ⟨k,c,e,z⟩
  ·exact .inl l
  ·exact .inr ⟨k,c,e,cellK x c e _ z⟩
 ·obtain⟨v,z⟩:=I.cell x c e;exact⟨v,cellK x c e v z⟩
 ·obtain⟨m,⟨o,_,_,ho,_⟩,_⟩:=I.loc;exact free _ o (fun z=>(hch _ z).2.1 rfl) ho I.free
 ·obtain⟨v,o,ho,hd⟩:=I.cell x c e;exact free c o (fun z=>(hch c z).2.2.1 x c e rfl) ho (I.p6 x c e)
 ·obtain⟨e,n,ne,nf,d⟩:=I.pin p hp;have nch:p.1 ∉ ch:=fun z=>(hch p.1 z).2.2.2 p hp rfl
  exact⟨keep p.1 p.2 ne nf nch e n,free p.1 p.2 nch e n,ne,nf,d⟩
theorem Inv.un{t':Nat}(I:Inv X pins σ H s)(u:Un X.fs [] H H' s.heap h')(ck:p5 X.prog X.w H' h'):Inv X pins σ H' { s with heap:=h',toks:=t' }:=by
 obtain⟨m,⟨o,es,ep,ho,r⟩,_⟩:=id I.loc;obtain⟨sl,hL⟩:=u.any ho I.free (by simp);exact I.step (g':=s.gens) (d':=s.drawn) (ch:=[]) (fun _ z=>nomatch z) (fun b o _ hb _ e n=>u.keep b o e n hb (by simp)) (fun b o _ hb _ e n=>u.slot b o e n hb (by simp)) (fun b o _ e n=>u.free b o e n (by simp)) (fun b o _ e=>u.there b o e (by simp)) u.Gr u.EU u.Gs (fun m' hm=>by
  obtain⟨o',es',ep',ho',r'⟩:=hm;rw[ho]at ho';cases ho';exact⟨_,es',ep',hL,r'⟩) ck I.bare
theorem Inv.call{g':Array GenState}{t':Nat}{d':Drawn}{ch:List Addr}(I:Inv X pins σ H s)(u:Un (N2 X.stack) ch H H' s.heap h')(ck:p5 X.prog X.w H' h')(hg:AllBare g')
  (hch:∀b∈ch,(b∈X.ex∨X.D0.heap.objs.size<=b)∧b≠X.env.locals∧(∀x c,X.env.cells.lookup x=some c->c≠b)∧∀p∈X.pn++pins,p.1≠b) :
  Inv X pins σ H' { s with heap:=h',gens:=g',drawn:=d',toks:=t' }:=by
 obtain⟨m,⟨o,es,ep,ho,r⟩,_⟩:=id I.loc;obtain⟨sl,hL⟩:=u.any ho I.free fun z=>(hch _ z).2.1 rfl
 exact I.step (ch:=ch) hch (fun b o hL hb hc e n=>u.keep b o e n (fun z=>(List.mem_cons.mp (I.IG b z)).elim hL hb) hc) (fun b o _ _ hc e n=>u.any e n hc) (fun b o hc e n=>u.free b o e n hc) (fun b o hc e=>u.there b o e hc) u.Gr u.EU u.Gs (fun m' hm=>by
  obtain⟨o',es',ep',ho',r'⟩:=hm;rw[ho]at ho';cases ho';exact⟨_,es',ep',hL,r'⟩) ck hg
theorem Inv.turned{t':Nat}{it:Addr}(I:Inv X pins σ H s)(k:∀b o,b≠it->s.heap.get? b=some o->h'.get? b=some o)(hn:H it=none)(hL:it≠X.env.locals)
  (h1:it∈X.ex∨X.D0.heap.objs.size<=it) (h2:∀x c,X.env.cells.lookup x=some c->c≠it) (h3:∀p∈X.pn++pins,p.1≠it):Inv X pins σ H { s with heap:=h',toks:=t' }:=by
 have nit:∀b u,H b=some u->b≠it:=fun b u e z=>by rw[z,hn]at e;cases e
 refine I.step (g':=s.gens) (d':=s.drawn) (ch:=[it]) (fun b hb=>?_) (fun b o _ _ hc e _=>k b o (fun z=>hc (by simp[z])) e) (fun b o _ _ hc e _=>⟨o.slots,k b o (fun z=>hc (by simp[z])) e⟩) (fun _ _ _ _ n=>n)
  (fun b o hc e=>⟨o,k b o (fun z=>hc (by simp[z])) e⟩) (fun _ _ e=>e) (fun _ _ _ e=>e) (fun b ps e=>⟨#[],by rw[e];simp⟩) (fun m hm=>?_) (fun b u e=>?_) I.bare
 ·have e:b=it:=by simpa using hb
  subst e;exact⟨h1,hL,h2,h3⟩
 ·obtain⟨o,es,ep,ho,r⟩:=hm;exact⟨o,es,ep,k _ o (Ne.symm hL) ho,r⟩
 ·refine(I.ck b u e).l9 (fun c v hc q=>k c v ?_ q) (fun _ q=>q) fun _ _ q=>q
  rcases hc with z | z
  ·rw[z];exact nit b u e
  ·exact nit c _ z
theorem Inv.tok(I:Inv X pins σ H s)(t:Nat):Inv X pins σ H { s with toks:=t }:=I.un (h':=s.heap) (t':=t) Un.refl I.ck
theorem Inv.kept{t':Nat}(I:Inv X pins σ H s)(k:∀b u,s.heap.get? b=some u->h'.get? b=some u):Inv X pins σ H { s with heap:=h',toks:=t' }:=I.un (Un.kept k) (I.ck.kept k)
theorem Inv.laid{a:Addr}{o:HO}{t':Nat}(I:Inv X pins σ H s)(k:∀b u,s.heap.get? b=some u->h'.get? b=some u)(hp:s.heap.objs.size<=a)(new:cT X.prog X.w (upd H a o) h' a o) :
  Inv X pins σ (upd H a o) { s with heap:=h',toks:=t' }:=I.un (Un.laid k hp (I.ck.fresh hp)) (I.ck.laid k hp new)
theorem Inv.write{x e:Addr}{o:HO}{t':Nat}(I:Inv X pins σ H s)(mu:SN (H x))(he:e=x∨H e=some (.own x))(k:∀b u,b≠e->s.heap.get? b=some u->h'.get? b=some u)(heo:∃u,h'.get? e=some u)
  (new:cT X.prog X.w (upd H x o) h' x o):Inv X pins σ (upd H x o) { s with heap:=h',toks:=t' }:=I.un (Un.write mu he k heo) (I.ck.write mu he k heo new)
theorem Inv.weak{σ':List (Option V)}(I:Inv X pins σ H s)(hl:σ'.length=σ.length)(w:∀(i:Nat) v,σ'[i]? = some (some v)->σ[i]? = some (some v)):Inv X pins σ' H s:=
 ⟨I.ok,I.os,I.bare,I.base,let ⟨m,hn,hl'⟩:=I.loc;⟨m,hn,fun i x v e1 e2 e3=>hl' i x v e1 (w i v e2) e3⟩,I.cell,I.free,I.p6,I.pin,I.ck,hl.trans I.len⟩
theorem Inv.KL{pins':List (Addr×Obj)}(I:Inv X pins σ H s)(h:∀p∈pins',s.heap.get? p.1=some p.2∧H p.1=none∧p.1≠X.env.locals∧p.1 ∉ X.fs∧∀v,p.2.data≠.cell v):Inv X pins' σ H s:=
 ⟨I.ok,I.os,I.bare,I.base,I.loc,I.cell,I.free,I.p6,fun p hp=>(List.mem_append.mp hp).elim (fun z=>I.pin p (List.mem_append_left _ z)) (h p),I.ck,I.len⟩
theorem Ao{N:List Str}(hN:N.Nodup){i j:Nat}{x:Str}(a:N[i]? = some x)(b:N[j]? = some x):i=j:=by
 obtain⟨h1,e1⟩:=List.getElem?_eq_some_iff.mp a;obtain⟨h2,e2⟩:=List.getElem?_eq_some_iff.mp b;exact(List.getElem_inj hN).mp (e1.trans e2.symm)
theorem D1{M:Model}{A:Around}{E:Value->Shared->Prop}{i:Nat}{x:Str}{v:V}{u:Value}{Q:Unit->Shared->Prop}(I:Inv X pins σ H s)(hN:X.N.Nodup)(hi:X.N[i]? = some x)(hx:Loc X.env.scope x)(r:RelV v u)
  (h:∀s',Inv X pins (σ.set i (some v)) H s'->(∃a,Heap.SameBut a s.heap s'.heap∧(a=X.env.locals∨X.env.cells.lookup x=some a))->Q () s') (hf:X.fn x=true∨X.env.scope.names.lookup x=some .local:=by first | exact .inl rfl | exact .inr rfl | assumption):wpAny M A (storeName X.env x u) Q E s:=by
 obtain⟨m,hn,hl⟩:=id I.loc;have hcls:(X.env.scope.kind == .class || (X.env.scope.kind == .module && X.env.locals != X.env.globals))=false:=by rw[I.ok.kind];rfl
 have hiσ:i<σ.length:=by rw[I.len];exact(List.getElem?_eq_some_iff.mp hi).1
 have RQ:=I.RQ;have tracked:∀{a:Addr} {h':Heap},(∃o,s.heap.get? a=some o∧H a=none)->Heap.SameBut a s.heap h'->p5 X.prog X.w H h':=fun {a h'} ha hs b ob e=>by
  obtain⟨_,_,hfree⟩:=ha;refine(I.ck b ob e).l9 (fun c w' hc q=>(hs.2 c ?_).trans q) (fun _ q=>q) fun _ _ q=>q
  rintro rfl
  rcases hc with rfl | hc
  ·rw[hfree]at e;cases e
  ·rw[hfree]at hc;cases hc
 rcases hx with hk | hk
 ·refine wpAny_storeName_local hk hn (fun h' hn' hs=>?_) hcls;obtain⟨oL,_,_,hoL,_⟩:=id hn;refine h _ ⟨I.ok,I.os,I.bare,⟨fun b o e n hb hx=>?_,fun b o e n hb hx=>?_,I.base.free,fun b o e hx=>?_,I.base.Gr,I.base.EU,I.base.Gs⟩,⟨_,hn',fun j y v' e1 e2 e3=>?_⟩,fun y c e=>?_,I.free,I.p6,fun p hp=>?_,tracked ⟨oL,hoL,I.free⟩ hs,by simpa using I.len⟩ ⟨_,hs,.inl rfl⟩
  ·exact(hs.2 b (Nat.ne_of_lt (Nat.lt_of_lt_of_le (Heap.lt_size e) I.ok.above))).trans (I.base.keep b o e n hb hx)
  ·obtain⟨sl,e1⟩:=I.base.slot b o e n hb hx;exact⟨sl,(hs.2 b (Nat.ne_of_lt (Nat.lt_of_lt_of_le (Heap.lt_size e) I.ok.above))).trans e1⟩
  ·obtain⟨o',e1⟩:=I.base.there b o e hx;exact⟨o',(hs.2 b (Nat.ne_of_lt (Nat.lt_of_lt_of_le (Heap.lt_size e) I.ok.above))).trans e1⟩
  ·by_cases hj:j=i
   ·subst hj;rw[hi]at e1;cases e1;rw[List.getElem?_set_self hiσ]at e2;cases e2;exact⟨u,r,.inl ⟨hk,by simp⟩⟩
   ·rw[List.getElem?_set_ne (Ne.symm hj)]at e2;obtain⟨u',r',q⟩:=hl j y v' e1 e2 e3;refine⟨u',r',?_⟩;rcases q with ⟨k,e⟩ | ⟨k,c,e,z⟩
    ·refine .inl ⟨k,?_⟩;have:y≠x:=fun e=>hj (Ao hN e1 (e ▸ hi))
     simp[this,e]
    ·exact .inr ⟨k,c,e,z.sameBut hs (RQ y c e)⟩
  ·obtain⟨w',z⟩:=I.cell y c e;exact⟨w',z.sameBut hs (RQ y c e)⟩
  ·obtain⟨e,n,ne,nf,d⟩:=I.pin p hp;exact⟨(hs.2 p.1 ne).trans e,n,ne,nf,d⟩
 ·have hfn:X.fn x=true:=by
   rcases hf with z | z
   ·exact z
   ·rw[z]at hk;cases hk
  obtain⟨c,hc⟩:=I.ok.has x (.inl hk);obtain⟨w',z⟩:=I.cell x c hc;refine wpAny_storeName_cell I.ok.kind hk hc z (fun h' hc' hs=>?_);obtain⟨oc,hoc,hocd⟩:=id z;refine h { s with heap:=h' } ⟨I.ok,I.os,I.bare,⟨fun b o e n hb hx=>?_,fun b o e n hb hx=>?_,I.base.free,fun b o e hx=>?_,I.base.Gr,I.base.EU,I.base.Gs⟩,⟨m,hn.sameBut hs (Ne.symm (RQ x c hc)),fun j y v' e1 e2 e3=>?_⟩,fun y c' e=>?_,I.free,I.p6,fun p hp=>?_,tracked ⟨oc,hoc,I.p6 x c hc⟩ hs,by simpa using I.len⟩ ⟨c,hs,.inr hc⟩
  ·exact(hs.2 b (Nat.ne_of_lt (Nat.lt_of_lt_of_le (Heap.lt_size e) (I.ok.SR x c hfn hc)))).trans (I.base.keep b o e n hb hx)
  ·obtain⟨sl,e1⟩:=I.base.slot b o e n hb hx;exact⟨sl,(hs.2 b (Nat.ne_of_lt (Nat.lt_of_lt_of_le (Heap.lt_size e) (I.ok.SR x c hfn hc)))).trans e1⟩
  ·obtain⟨o',e1⟩:=I.base.there b o e hx;exact⟨o',(hs.2 b (Nat.ne_of_lt (Nat.lt_of_lt_of_le (Heap.lt_size e) (I.ok.SR x c hfn hc)))).trans e1⟩
  ·by_cases hj:j=i
   ·subst hj;rw[hi]at e1;cases e1;rw[List.getElem?_set_self hiσ]at e2;cases e2;exact⟨u,r,.inr ⟨.inl hk,c,hc,hc'⟩⟩
   ·rw[List.getElem?_set_ne (Ne.symm hj)]at e2;obtain⟨u',r',q⟩:=hl j y v' e1 e2 e3;refine⟨u',r',?_⟩;rcases q with q | ⟨k,c',e,z'⟩
    ·exact .inl q
    ·refine .inr ⟨k,c',e,z'.sameBut hs ?_⟩
     rintro rfl
     exact hj (Ao hN e1 (I.ok.inj _ _ _ e hc ▸ hi))
  ·by_cases hcc:c'=c
   ·subst hcc;exact⟨_,hc'⟩
   ·obtain⟨w2,z2⟩:=I.cell y c' e;exact⟨w2,z2.sameBut hs hcc⟩
  ·obtain⟨e,n,ne,nf,d⟩:=I.pin p hp;refine⟨(hs.2 p.1 ?_).trans e,n,ne,nf,d⟩;intro q;rw[q,hoc]at e;have q':oc=p.2:=Option.some.inj e;exact d w' (by rw[<-q'];exact hocd)
theorem Ap{M:Model}{A:Around}{E:Value->Shared->Prop}{i:Nat}{x:Str}{v:V}{u:Value}{Q:Unit->Shared->Prop}(I:Inv X pins σ H s)(hN:X.N.Nodup)(hi:X.N[i]? = some x)(hx:Loc X.env.scope x)(r:RelV v u)
  (h:∀s',Inv X pins (σ.set i (some v)) H s'->Q () s') (hf:X.fn x=true∨X.env.scope.names.lookup x=some .local:=by first | exact .inl rfl | exact .inr rfl | assumption):wpAny M A (storeName X.env x u) Q E s:=
 D1 I hN hi hx r (fun s' I' _=>h s' I') hf
theorem Inv.SS{s':Shared}{ch:List Addr}(I:Inv X pins σ H s)(ho:s'.os=s.os)(u:Un (N2 X.stack) ch H H' s.heap s'.heap)(ck:p5 X.prog X.w H' s'.heap)(hg:AllBare s'.gens)
  (hch:∀b∈ch,(b∈X.ex∨X.D0.heap.objs.size<=b)∧b≠X.env.locals∧(∀x c,X.env.cells.lookup x=some c->c≠b)∧∀p∈X.pn++pins,p.1≠b):Inv X pins σ H' s':=by
 obtain⟨h',g',d',t',o'⟩:=s';have e:o'=s.os:=ho;subst e;exact I.call (g':=g') (t':=t') (d':=d') u ck hg hch
end
abbrev XK:=Value->Option Addr->Hp->Prop
abbrev St:=List (Option V)
abbrev VK:=V->Hp->Prop
abbrev TE:=St->Hp->VK->Prop
abbrev TT:=St->Hp->(Bool->Hp->Prop)->Prop
abbrev TA:=St->Hp->(List V->Hp->Prop)->Prop
structure Ends where
 nx:St->Hp->Prop
 rt:VK
 bk:St->Hp->Prop:=fun _ _=>False
 ct:St->Hp->Prop:=fun _ _=>False
abbrev TS:=Ends->St->Hp->Prop
def EP(X:Cx)(pins:List (Addr×Obj))(σ:St)(Q:VK)(u:Value)(s':Shared):Prop:=∃v H',Inv X pins σ H' s'∧RelV v u∧Q v H'
def TP(X:Cx)(pins:List (Addr×Obj))(σ:St)(Q:Bool->Hp->Prop)(b:Bool)(s':Shared):Prop:=∃H',Inv X pins σ H' s'∧Q b H'
def AP(X:Cx)(pins:List (Addr×Obj))(σ:St)(Q:List V->Hp->Prop)(us:List Value)(s':Shared):Prop:=∃vs H',Inv X pins σ H' s'∧Vals vs us∧Q vs H'
def SP(X:Cx)(pins:List (Addr×Obj))(D:Ends)(f:Flow)(s':Shared):Prop:=
 match f with
 | .next=>∃σ' H',Inv X pins σ' H' s'∧D.nx σ' H'
 | .brk=>∃σ' H',Inv X pins σ' H' s'∧D.bk σ' H'
 | .cont=>∃σ' H',Inv X pins σ' H' s'∧D.ct σ' H'
 | .ret u=>∃v σ' H',Inv X pins σ' H' s'∧RelV v u∧D.rt v H'
def PE(X:Cx)(e:Expr)(t:TE):Prop:=
 ∀(pins:List (Addr×Obj)) (s:Shared) (σ:St) (H:Hp) (Q:VK),Inv X pins σ H s->t σ H Q->wpAny (model X.prog X.w) X.A (eval e X.env) (EP X pins σ Q) X.xe s
def PT(X:Cx)(e:Expr)(t:TT):Prop:=
 ∀(pins:List (Addr×Obj)) (s:Shared) (σ:St) (H:Hp) (Q:Bool->Hp->Prop),Inv X pins σ H s->t σ H Q->wpAny (model X.prog X.w) X.A (isTrue e X.env (eval e X.env)) (TP X pins σ Q) X.xe s
def PW(X:Cx)(e:Expr)(t:TT):Prop:=
 ∀(whole:Sem Value) (pins:List (Addr×Obj)) (s:Shared) (σ:St) (H:Hp) (Q:Bool->Hp->Prop),Inv X pins σ H s->t σ H Q->wpAny (model X.prog X.w) X.A (isTrue e X.env whole) (TP X pins σ Q) X.xe s
theorem PW.pt{X:Cx}{e:Expr}{t:TT}(h:PW X e t):PT X e t:=h _
def PA(X:Cx)(es:List Expr)(t:TA):Prop:=
 ∀(pos:Pos) (pins:List (Addr×Obj)) (s:Shared) (σ:St) (H:Hp) (Q:List V->Hp->Prop),Inv X pins σ H s->t σ H Q->wpAny (model X.prog X.w) X.A (spliced (backTo pos (starEach es X.env))) (AP X pins σ Q) X.xe s
def PS(X:Cx)(st:Stmt)(t:TS):Prop:=
 ∀(pins:List (Addr×Obj)) (s:Shared) (σ:St) (H:Hp) (D:Ends),Inv X pins σ H s->t D σ H->wpAny (model X.prog X.w) X.A (exec st X.env) (SP X pins D) X.xe s
def LJ(X:Cx)(st:List Stmt)(t:TS):Prop:=
 ∀(pins:List (Addr×Obj)) (s:Shared) (σ:St) (H:Hp) (D:Ends),Inv X pins σ H s->t D σ H->wpAny (model X.prog X.w) X.A (execs st X.env) (SP X pins D) X.xe s
theorem cx{α:Type}{t:Sem α}{Q Q':α->Shared->Prop}{M:Model}{A:Around}{E:Value->Shared->Prop}{s:Shared}(h:wpAny M A t Q E s)(hQ:∀a s,Q a s->Q' a s):wpAny M A t Q' E s:=wpAny_mono h hQ fun _ _ x=>x
end L2
namespace L2
open PySem PySem.Spec PyProof.Rows
section
variable{X:Cx}
def SU(i:Nat):TE:=fun σ H Q=>∃v,σ[i]? = some (some v)∧Q v H
def tC(v:V):TE:=fun _ H Q=>Q v H
theorem RR{i:Nat}{x:Str}{pos:Pos}(hN:X.N[i]? = some x)(hv:SF X.env.scope x)(hd:(x == ("__debug__" : Str))=false:=by decide)(hcd:(x == ("__classdict__" : Str))=false:=by decide):PE X (.Name x pos) (SU i):=by
 intro pins s σ H Q I h;obtain⟨v,e,h⟩:=h;obtain⟨m,hn,hl⟩:=I.loc;obtain⟨u,r,l⟩:=hl i x v hN e hv;have fin:EP X pins σ Q u s:=⟨v,H,I,r,h⟩;rcases l with ⟨hk,hm⟩ | ⟨hk,c,hc,hcell⟩
 ·exact wpAny_Name (wpAny_loadName_local I.ok.kind hk hn hm fin) hd
 ·rcases hk with hk | hk
  ·exact wpAny_Name (wpAny_loadName_cell I.ok.kind hk hc hcell fin) hd
  ·exact wpAny_Name (wpAny_loadName_free I.ok.kind hk hc hcell fin hcd) hd
theorem aC{i j pos}:PE X (.Constant (.int i) j pos) (tC (.int i)):=fun _ _ _ H _ I h=>wpAny_Constant_int ⟨.int i,H,I.tok _,⟨_,rfl⟩,h⟩
theorem N5{b j pos}:PE X (.Constant (.bool b) j pos) (tC (.bl b)):=fun _ _ _ H _ I h=>Constant_bool ⟨.bl b,H,I,rfl,h⟩
theorem mH{j pos}:PE X (.Constant .none j pos) (tC .gi):=fun _ _ _ H _ I h=>Constant_none ⟨.gi,H,I,rfl,h⟩
def Gl(X:Cx)(x:Str):Prop:=X.env.kindOf x=some .globalImplicit
theorem zJ{E:Value->Shared->Prop}{pins:List (Addr×Obj)}{s:Shared}{σ:St}{H:Hp}{x:Str}{u:Value}{pos:Pos}{Q:Value->Shared->Prop}(I:Inv X pins σ H s)(hg:Gl X x)(hm:X.mg x=some u)(h:Q u s)
  (hd:(x == ("__debug__" : Str))=false:=by decide):wpAny (model X.prog X.w) X.A (eval (.Name x pos) X.env) Q E s:=
 Calls.Name_function_global I.ok.kind hg (Calls.loadGlobal_global (by rw[I.ok.glob];exact I.mod.glob.keeps I.bk) hm h) hd
theorem nE{E:Value->Shared->Prop}{pins:List (Addr×Obj)}{s:Shared}{σ:St}{H:Hp}{x:Str}{u:Value}{pos:Pos}{Q:Value->Shared->Prop}(I:Inv X pins σ H s)(hg:Gl X x)(hm:X.mg x=none)(hv:bootBuiltins x=some u)(h:Q u s)
  (hn:x≠"__name__":=by decide) (hd:(x == ("__debug__" : Str))=false:=by decide):wpAny (model X.prog X.w) X.A (eval (.Name x pos) X.env) Q E s:=by
 obtain⟨mb,h1,h2⟩:=I.mod.blt;exact Calls.Name_function_global I.ok.kind hg (Calls.loadGlobal_builtin (by rw[I.ok.glob];exact I.mod.glob.keeps I.bk) hm (by rw[I.ok.blt];exact h1.keeps I.bk) ((h2 x hn).trans hv) h) hd
theorem aL{x:Str}{v:V}{u:Value}{pos:Pos}(hg:Gl X x)(hm:X.mg x=some u)(r:RelV v u)(hd:(x == ("__debug__" : Str))=false:=by decide):PE X (.Name x pos) (tC v):=
 fun _ _ _ H _ I h=>zJ I hg hm ⟨v,H,I,r,h⟩ hd
theorem Qn{x:Str}{v:V}{u:Value}{pos:Pos}(hg:Gl X x)(hm:X.mg x=none)(hv:bootBuiltins x=some u)(r:RelV v u)(hn:x≠"__name__":=by decide)(hd:(x == ("__debug__" : Str))=false:=by decide):PE X (.Name x pos) (tC v):=
 fun _ _ _ H _ I h=>nE I hg hm hv ⟨v,H,I,r,h⟩ hn hd
variable{a b:Expr}{ta tb:TE}{pos:Pos}
def PC(X:Cx)(op:CmpOp)(a b:Expr)(t:TE):Prop:=
 ∀
  (pins:List (Addr×Obj)) (s:Shared) (σ:St) (H:Hp) (Q:VK),Inv X pins σ H s->t σ H Q →
  wpAny (model X.prog X.w) X.A (eval a X.env) (fun v s₁=>wpAny (model X.prog X.w) X.A (eval b X.env) (fun u s₂=>wpAny (model X.prog X.w) X.A (compareOp op v u) (EP X pins σ Q) X.xe s₂) X.xe s₁) X.xe s
def tB(t:TE):TT:=fun σ H Q=>t σ H fun x H1=>∃c,x=.bl c∧Q c H1
theorem IH{op:CmpOp}{t:TE}(h:PC X op a b t)(h1:behindInMarks op b=false:=by first | exact SV _ (by decide) (by decide) | rfl):PT X (.Compare a [op] [b] pos) (tB t):=by
 intro pins s σ H Q I hw;refine wpAny_isTrue_Compare1 (cx (h pins s σ H _ I hw) fun v s1 h1=>cx h1 fun u s2 h2=>cx h2 fun c s3 ⟨x,H1,I1,r1,q1⟩=>?_) h1;obtain⟨d,rfl,q⟩:=q1;cases r1;exact wpAny_truthy_bool ⟨H1,I1,q⟩
theorem jU{e:Expr}{t:TE}(h:PE X e t)(he:∀whole,isTrue e X.env whole=(do let v <-whole;standAt e.pos;holding [v] (truthy v)):=by intro _;rfl):PT X e (tB t):=by
 intro pins s σ H Q I hw;refine isTrue_plain (cx (h pins s σ H _ I hw) fun v s1 ⟨x,H1,I1,r1,q1⟩=>?_) (he _);obtain⟨d,rfl,q⟩:=q1;cases r1;exact wpAny_truthy_bool ⟨H1,I1,q⟩
variable{tA tB':TT}{rest:List Expr}
def Ui(t u:TT):TT:=fun σ H Q=>t σ H fun c H1=>if c=true then u σ H1 Q else Q false H1
def Vc(t u:TT):TT:=fun σ H Q=>t σ H fun c H1=>if c=true then Q true H1 else u σ H1 Q
def Uj(t:TT):TT:=fun σ H Q=>t σ H fun c H1=>Q (!c) H1
theorem ma(ha:PT X a tA):PW X (.BoolOp .And [a] pos) tA:=by
 intro wh pins s σ H Q I h;refine isTrue_and (cx (ha pins s σ H Q I h) fun c s1 e=>?_);cases c with
 | true=>exact isTrue_and_nil e
 | false=>exact e
theorem wj(ha:PT X a tA):PW X (.BoolOp .Or [a] pos) tA:=by
 intro wh pins s σ H Q I h;refine isTrue_or (cx (ha pins s σ H Q I h) fun c s1 e=>?_);cases c with
 | false=>exact isTrue_or_nil e
 | true=>exact e
theorem oQ(ha:PT X a tA)(hb:PW X (.BoolOp .And (b::rest) pos) tB'):PW X (.BoolOp .And (a::b::rest) pos) (Ui tA tB'):=by
 intro wh pins s σ H Q I h;refine isTrue_and (cx (ha pins s σ H _ I h) fun c s1 ⟨H1,I1,q1⟩=>?_);cases c with
 | true=>exact hb wh pins s1 σ H1 Q I1 q1
 | false=>exact⟨H1,I1,q1⟩
theorem D3(ha:PT X a tA)(hb:PW X (.BoolOp .Or (b::rest) pos) tB'):PW X (.BoolOp .Or (a::b::rest) pos) (Vc tA tB'):=by
 intro wh pins s σ H Q I h;refine isTrue_or (cx (ha pins s σ H _ I h) fun c s1 ⟨H1,I1,q1⟩=>?_);cases c with
 | true=>exact⟨H1,I1,q1⟩
 | false=>exact hb wh pins s1 σ H1 Q I1 q1
theorem p7(ha:PT X a tA):PT X (.UnaryOp .Not a pos) (Uj tA):=by
 intro pins s σ H Q I h;exact isTrue_not (ha pins s σ H (fun c H1=>Q (!c) H1) I h)
def SW(ta tb:TE):TE:=fun σ H Q=>ta σ H fun x H1=>∃c,x=.bl c∧if c=true then tb σ H1 Q else Q (.bl false) H1
def Uk(ta tb:TE):TE:=fun σ H Q=>ta σ H fun x H1=>∃c,x=.bl c∧if c=true then Q (.bl true) H1 else tb σ H1 Q
theorem p8{op}{t:TE}(h:PE X a t):PE X (.BoolOp op [a] pos) t:=fun pins s σ H Q I hw=>BoolOp_one (h pins s σ H Q I hw)
theorem Aq(ha:PE X a ta)(hb:PE X (.BoolOp .And (b::rest) pos) tb):PE X (.BoolOp .And (a::b::rest) pos) (SW ta tb):=by
 intro pins s σ H Q I h;refine BoolOp_and (cx (ha pins s σ H _ I h) fun v s1 ⟨x,H1,I1,r1,q1⟩=>?_);obtain⟨c,rfl,q1⟩:=q1;cases r1;refine wpAny_truthy_bool ?_;cases c with
 | true=>exact hb pins s1 σ H1 Q I1 q1
 | false=>exact⟨.bl false,H1,I1,rfl,q1⟩
theorem KN(ha:PE X a ta)(hb:PE X (.BoolOp .Or (b::rest) pos) tb):PE X (.BoolOp .Or (a::b::rest) pos) (Uk ta tb):=by
 intro pins s σ H Q I h;refine BoolOp_or (cx (ha pins s σ H _ I h) fun v s1 ⟨x,H1,I1,r1,q1⟩=>?_);obtain⟨c,rfl,q1⟩:=q1;cases r1;refine wpAny_truthy_bool ?_;cases c with
 | false=>exact hb pins s1 σ H1 Q I1 q1
 | true=>exact⟨.bl true,H1,I1,rfl,q1⟩
def Vd(t:TT)(ta tb:TE):TE:=fun σ H Q=>t σ H fun c H1=>if c=true then ta σ H1 Q else tb σ H1 Q
theorem Gu{c:Expr}(hc:PT X c tA)(ha:PE X a ta)(hb:PE X b tb):PE X (.IfExp c a b pos) (Vd tA ta tb):=by
 intro pins s σ H Q I h;refine wpAny_IfExp (cx (hc pins s σ H _ I h) fun d s1 ⟨H1,I1,q1⟩=>?_);cases d with
 | true=>exact ha pins s1 σ H1 Q I1 q1
 | false=>exact hb pins s1 σ H1 Q I1 q1
end
end L2
namespace L2
open PySem PySem.Spec PyProof.Rows
def aP(K:W.Frag)(H:Hp)(a:Addr)(xs:List V):Prop:=
 Rd H a (.lst xs)∨
  ∃(o:Obj) (its:Array Value) (n:Nat),K.lookup a=some o∧o.cls=.type "list"∧o.dict=none∧o.data=.seq its n∧its.size<=sizeLine∧Vals xs its.toList
def jP(K:W.Frag)(H:Hp)(a:Addr)(xs:List V):Prop:=
 Rd H a (.tup xs)∨
  ∃(o:Obj) (its:Array Value) (n:Nat),K.lookup a=some o∧o.cls=.type "tuple"∧o.data=.seq its n∧its.size<=sizeLine∧Vals xs its.toList
def Ul:Value->Option V
 | .none=>some .gi
 | .bool b=>some (.bl b)
 | .int i _=>some (.int i)
 | .str x _=>some (.str x)
 | .bytes b _=>some (.F8 b)
 | .float b _=>some (.RM b)
 | .ref a=>some (.ref a)
 | .type n=>some (.ty n)
 | _=>none
theorem RelV.abs{x:V}{u:Value}(r:RelV x u):Ul u=some x:=by
 cases x with
 | gi=>cases r;rfl
 | bl _=>cases r;rfl
 | int _=>obtain⟨t,rfl⟩:=r;rfl
 | str _=>obtain⟨t,rfl⟩:=r;rfl
 | F8 _=>obtain⟨t,rfl⟩:=r;rfl
 | RM _=>obtain⟨t,rfl⟩:=r;rfl
 | ref _=>cases r;rfl
 | ty _=>cases r;rfl
theorem RelV.inj{x y:V}{u:Value}(r:RelV x u)(q:RelV y u):x=y:=Option.some.inj (r.abs.symm.trans q.abs)
theorem Vals.inj:∀{xs ys:List V} {us:List Value},Vals xs us->Vals ys us->xs=ys
 | _,_,_,.nil,.nil=>rfl
 | _,_,_,.cons r t,.cons r' t'=>by rw[r.inj r',Vals.inj t t']
section
variable{X:Cx}{pins:List (Addr×Obj)}{σ:St}{H:Hp}{s:Shared}{a:Addr}{xs ys:List V}
theorem aP.of{K:W.Frag}(h:H a=some (.lst xs)):aP K H a xs:=.inl (.inl h)
theorem jP.of{K:W.Frag}(h:H a=some (.tup xs)):jP K H a xs:=.inl (.inl h)
theorem Inv.list(I:Inv X pins σ H s)(h:aP X.K H a xs):∃its:List Value,Vals xs its∧PlainL s.heap a its.toArray∧xs.length<=sizeLine:=by
 rcases h with h | ⟨o,its,n,hk,hc,hd,hs,hz,r⟩
 ·obtain⟨z,its,n,r,e⟩:=h.ok I.ck;exact⟨its,r,⟨_,n,e,rfl,rfl,rfl⟩,z⟩
 ·refine⟨its.toList,r,⟨o,n,I.yg a o hk,hc,hd,by simpa using hs⟩,?_⟩;have e:=r.length;simp only[Array.length_toList]at e;lia
theorem Inv.tuple(I:Inv X pins σ H s)(h:jP X.K H a xs):∃its:List Value,Vals xs its∧IsTup s.heap a its.toArray∧xs.length<=sizeLine:=by
 rcases h with h | ⟨o,its,n,hk,hc,hs,hz,r⟩
 ·obtain⟨z,its,r,p⟩:=h.ok I.ck;exact⟨its,r,p,z⟩
 ·refine⟨its.toList,r,⟨o,I.yg a o hk,hc,n,by simpa using hs⟩,?_⟩;have e:=r.length;simp only[Array.length_toList]at e;lia
theorem Inv.N6(I:Inv X pins σ H s)(h:aP X.K H a xs)(h':aP X.K H a ys):xs=ys:=by
 obtain⟨its,r,⟨o,n,e,_,_,d⟩,_⟩:=I.list h;obtain⟨its',r',⟨o',n',e',_,_,d'⟩,_⟩:=I.list h';rw[e]at e';cases e';rw[d]at d';injection d' with d1 _
 have:its=its':=by simpa using congrArg Array.toList d1
 subst this;exact r.inj r'
theorem Inv.LK(I:Inv X pins σ H s)(h:jP X.K H a xs)(h':jP X.K H a ys):xs=ys:=by
 obtain⟨its,r,⟨o,e,_,n,d⟩,_⟩:=I.tuple h;obtain⟨its',r',⟨o',e',_,n',d'⟩,_⟩:=I.tuple h';rw[e]at e';cases e';rw[d]at d';injection d' with d1 _
 have:its=its':=by simpa using congrArg Array.toList d1
 subst this;exact r.inj r'
end
abbrev Cx.Cs(X:Cx)(E:Value->Shared->Prop):Cx:={ X with xe:=E }
abbrev Cx.T6(X:Cx):Cx:=X.Cs fun _ _=>False
theorem Cx.Ok.Cs{X:Cx}(ok:X.Ok)(E:Value->Shared->Prop):(X.Cs E).Ok:=
 ⟨ok.mod,ok.kind,ok.glob,ok.blt,ok.above,ok.inj,ok.has,ok.SR,ok.hd,ok.frames,ok.T4,ok.T5,ok.bs,ok.Qm,ok.N3,ok.N4,ok.yD,ok.RP⟩
theorem Cx.Ok.p9{X:Cx}{E:Value->Shared->Prop}(ok:(X.Cs E).Ok):X.Ok:=
 ⟨ok.mod,ok.kind,ok.glob,ok.blt,ok.above,ok.inj,ok.has,ok.SR,ok.hd,ok.frames,ok.T4,ok.T5,ok.bs,ok.Qm,ok.N3,ok.N4,ok.yD,ok.RP⟩
section
variable{X:Cx}{pins:List (Addr×Obj)}{σ:St}{H:Hp}{s:Shared}{E:Value->Shared->Prop}
theorem Inv.Cs(I:Inv X pins σ H s)(E:Value->Shared->Prop):Inv (X.Cs E) pins σ H s:=⟨I.ok.Cs E,I.os,I.bare,I.base,I.loc,I.cell,I.free,I.p6,I.pin,I.ck,I.len⟩
theorem Inv.p9(I:Inv (X.Cs E) pins σ H s):Inv X pins σ H s:=⟨I.ok.p9,I.os,I.bare,I.base,I.loc,I.cell,I.free,I.p6,I.pin,I.ck,I.len⟩
theorem SP.p9{D:Ends}{f:Flow}{s':Shared}(h:SP (X.Cs E) pins D f s'):SP X pins D f s':=by
 cases f with
 | next=>obtain⟨σ',H',I,q⟩:=h;exact⟨σ',H',I.p9,q⟩
 | brk=>obtain⟨σ',H',I,q⟩:=h;exact⟨σ',H',I.p9,q⟩
 | cont=>obtain⟨σ',H',I,q⟩:=h;exact⟨σ',H',I.p9,q⟩
 | ret u=>obtain⟨v,σ',H',I,r,q⟩:=h;exact⟨v,σ',H',I.p9,r,q⟩
theorem LJ.T6{st:List Stmt}{t:TS}(h:LJ X.T6 st t):LJ X st t:=fun pins s σ H D I hw=>
 wpAny_mono (h pins s σ H D (I.Cs _) hw) (fun _ _ q=>q.p9) fun _ _ z=>False.elim z
end
section
variable{X:Cx}{st:Stmt}{rest:List Stmt}{t u:TS}{e:Expr}{te:TE}{pos:Pos}
def SX:TS:=fun D σ H=>D.nx σ H
def Um(t u:TS):TS:=fun D σ H=>t { D with nx:=u D } σ H
theorem aS:LJ X [] SX:=fun _ _ σ H _ I h=>wpAny_execs_nil ⟨σ,H,I,h⟩
theorem ae(h1:PS X st t)(h2:LJ X rest u):LJ X (st::rest) (Um t u):=by
 intro pins s σ H D I h;refine wpAny_execs_cons (cx (h1 pins s σ H { D with nx:=u D } I h) fun f s1 q=>?_);cases f with
 | next=>
  obtain⟨σ',H',I',q⟩:=q;exact h2 pins s1 σ' H' D I' q
 | ret v=>exact q
 | brk=>exact q
 | cont=>exact q
theorem ai(h1:PS X st t):LJ X [st] t:=by
 intro pins s σ H D I h;refine wpAny_execs_cons (cx (h1 pins s σ H D I h) fun f s1 q=>?_);cases f with
 | next=>exact wpAny_execs_nil q
 | ret v=>exact q
 | brk=>exact q
 | cont=>exact q
theorem Inv.quiet{pins:List (Addr×Obj)}{σ:St}{H:Hp}{s:Shared}(I:Inv X pins σ H s):interactive X.env=false:=by simp[interactive,I.ok.kind]
def SY(te:TE):TS:=fun D σ H=>te σ H fun _ H1=>D.nx σ H1
theorem cA(he:PE X e te)(hs:swapsWith e none pos.line X.env=pure false:=by rfl):PS X (.Expr e pos) (SY te):=by
 intro pins s σ H D I h;exact wpAny_Expr_any (cx (he pins s σ H _ I h) fun v s1 ⟨x,H1,I1,r1,q1⟩=>⟨σ,H1,I1,q1⟩) I.quiet hs
def Uo(te:TE):TS:=fun D σ H=>te σ H D.rt
theorem ay(he:PE X e te):PS X (.Return (some e) pos) (Uo te):=by
 intro pins s σ H D I h;exact wpAny_Return_some (cx (he pins s σ H _ I h) fun v s1 ⟨x,H1,I1,r1,q1⟩=>⟨x,σ,H1,I1,r1,q1⟩)
def Uq(c:TT)(t u:TS):TS:=fun D σ H=>c σ H fun b H1=>if b=true then t D σ H1 else u D σ H1
theorem br{c:Expr}{a b:List Stmt}{tc:TT}(hc:PT X c tc)(ha:LJ X a t)(hb:LJ X b u):PS X (.If c a b pos) (Uq tc t u):=by
 intro pins s σ H D I h;refine wpAny_If (cx (hc pins s σ H _ I h) fun d s1 ⟨H1,I1,q1⟩=>?_);cases d with
 | true=>exact ha pins s1 σ H1 D I1 q1
 | false=>exact hb pins s1 σ H1 D I1 q1
def RS:TS:=fun _ _ _=>False
theorem N7:PS X st RS:=fun _ _ _ _ _ _ h=>h.elim
end
abbrev TG:=V->St->Hp->(St->Hp->Prop)->Prop
abbrev Rf:=List V->St->Hp->(St->Hp->Prop)->Prop
def PG(X:Cx)(target:Expr)(t:TG):Prop:=
 ∀
  (pins:List (Addr×Obj)) (s:Shared) (σ:St) (H:Hp) (v:V) (u:Value) (Q:St->Hp->Prop),Inv X pins σ H s->RelV v u->t v σ H Q →
  wpAny (model X.prog X.w) X.A (assign target X.env u) (fun _ s'=>∃σ' H',Inv X pins σ' H' s'∧Q σ' H') X.xe s
def S0(X:Cx)(ts:List Expr)(t:Rf):Prop:=
 ∀
  (pins:List (Addr×Obj)) (s:Shared) (σ:St) (H:Hp) (vs:List V) (us:List Value) (Q:St->Hp->Prop),Inv X pins σ H s->Vals vs us->t vs σ H Q →
  wpAny (model X.prog X.w) X.A (assignInOrder ((assignEach ts X.env).map (·.2)) us) (fun _ s'=>∃σ' H',Inv X pins σ' H' s'∧Q σ' H') X.xe s
abbrev N8:=V->V->V->Hp->(Hp->Prop)->Prop
def RT(X:Cx)(t:N8):Prop:=
 ∀
  (pins:List (Addr×Obj)) (s:Shared) (σ:St) (H:Hp) (o i v:V) (ov iv u:Value) (Q:Hp->Prop),Inv X pins σ H s->RelV o ov->RelV i iv->RelV v u->t o i v H Q →
  wpAny (model X.prog X.w) X.A (setItem ov iv u) (fun _ s'=>∃H',Inv X pins σ H' s'∧Q H') X.xe s
abbrev SG:=V->V->Hp->VK->Prop
def T7(X:Cx)(op:Operator)(t:SG):Prop:=
 ∀
  (pins:List (Addr×Obj)) (s:Shared) (σ:St) (H:Hp) (x y:V) (v u:Value) (Q:VK),Inv X pins σ H s->RelV x v->RelV y u->t x y H Q →
  wpAny (model X.prog X.w) X.A (inplaceOp op v u) (EP X pins σ Q) X.xe s
section
variable{X:Cx}{pos:Pos}
def Gv(i:Nat):TG:=fun v σ H Q=>Q (σ.set i (some v)) H
theorem aG{i:Nat}{x:Str}(hN:X.N.Nodup)(hi:X.N[i]? = some x)(hx:Loc X.env.scope x)(hf:X.fn x=true∨X.env.scope.names.lookup x=some .local:=by first | exact .inl rfl | exact .inr rfl | assumption):PG X (.Name x pos) (Gv i):=by
 intro pins s σ H v u Q I r h;exact wpAny_assign_Name (Ap I hN hi hx r (fun s' I'=>⟨_,H,I',h⟩) hf)
def Ur:Rf:=fun vs σ H Q=>vs=[]∧Q σ H
def S1(t:TG)(u:Rf):Rf:=fun vs σ H Q=>∃v r,vs=v::r∧t v σ H fun σ' H'=>u r σ' H' Q
theorem md:S0 X [] Ur:=by
 intro pins s σ H vs us Q I r h;obtain⟨e,h⟩:=h;subst e;cases r;exact assignInOrder_nil ⟨σ,H,I,h⟩
theorem bV{e:Expr}{es:List Expr}{t:TG}{u:Rf}(h1:PG X e t)(h2:S0 X es u)
  (hs:(assignEach (e::es) X.env).map (·.2)=assign e X.env::(assignEach es X.env).map (·.2):=by rfl):S0 X (e::es) (S1 t u):=by
 intro pins s σ H vs us Q I r h;obtain⟨v,vr,e1,h⟩:=h;subst e1;cases r with
 | cons r rr=>
  rw[hs];refine assignInOrder_cons (cx (h1 pins s σ H _ _ _ I r h) fun _ s1 ⟨σ1,H1,I1,q1⟩=>?_);exact h2 pins s1 σ1 H1 _ _ Q I1 rr q1
def S2(K:W.Frag)(n:Nat)(t:Rf):TG:=fun v σ H Q=>∃a xs,v=.ref a∧jP K H a xs∧xs.length=n∧t xs σ H Q
theorem tj{es:List Expr}{k:Nat}{t:Rf}{n:Nat}(hc:X.calm=true)(h:S0 X es t)
  (hn:(assignEach es X.env).length=n:=by rfl) (hst:(assignEach es X.env).findIdx? (·.1)=none:=by rfl):PG X (.Tuple es k pos) (S2 X.K n t):=by
 intro pins s σ H v u Q I r hw;obtain⟨a,xs,e1,hq,hl,hw⟩:=hw;subst e1;cases r;obtain⟨its,rv,ht,hz⟩:=I.tuple hq;refine assign_Tuple_tuple (I.ok.hd hc) ht (by simp[hn,<-hl,rv.length]) hst fun h' hx=>?_
 have I1:Inv X pins σ H { s with heap:=h' }:=I.kept (t':=s.toks) fun b o e=>hx b o (Nat.ne_of_lt (Heap.lt_size e)) e
 exact h pins _ σ H xs _ Q I1 (by simpa using rv) hw
def Us(to ti:TE)(t:N8):TG:=fun v σ H Q=>to σ H fun o H1=>ti σ H1 fun i H2=>t o i v H2 fun H3=>Q σ H3
theorem tm{o i:Expr}{to ti:TE}{t:N8}(ho:PE X o to)(hi:PE X i ti)(hs:RT X t)
  (ha:∀v,assign (.Subscript o i pos) X.env v=(do
   let ov <-holding [v] (eval o X.env)
   let iv <-holding [v,ov] (eval i X.env)
   standAt pos
   holding [v,ov,iv] (setItem ov iv v)
   release [v,ov,iv] []):=by intro _;rfl):PG X (.Subscript o i pos) (Us to ti t):=by
 intro pins s σ H v u Q I r h;rw[ha];refine wpAny_bind (wpAny_holding (cx (ho pins s σ H _ I h) fun ov s1 ⟨x,H1,I1,r1,q1⟩=>?_));refine wpAny_bind (wpAny_holding (cx (hi pins s1 σ H1 _ I1 q1) fun iv s2 ⟨y,H2,I2,r2,q2⟩=>?_));refine wpAny_bind (wpAny_standAt (wpAny_bind (wpAny_holding (cx (hs pins s2 σ H2 x y v ov iv u _ I2 r1 r2 r q2) fun _ s3 ⟨H3,I3,q3⟩=>?_))));exact wpAny_release ⟨σ,H3,I3,q3⟩
def RU(te:TE)(g:TG):TS:=fun D σ H=>te σ H fun x H1=>g x σ H1 D.nx
theorem tp{tg e:Expr}{te:TE}{g:TG}(he:PE X e te)(hg:PG X tg g)(hs:swapsWithSole [tg] e pos.line X.env=pure false:=by rfl)(hw:swappedStores [tg] e X.env=pure none:=by rfl)
  (h1:(assignEach [tg] X.env).map (·.2)=[assign tg X.env]:=by rfl):PS X (.Assign [tg] e pos) (RU te g):=by
 intro pins s σ H D I h;refine wpAny_Assign_stores (cx (he pins s σ H _ I h) fun v s1 ⟨x,H1,I1,r1,q1⟩=>?_) hs hw;rw[h1];exact cx (hg pins s1 σ H1 x v _ I1 r1 q1) fun _ s2 q=>q
theorem aI{i:Nat}{x:Str}{e:Expr}{te:TE}{pos':Pos}(hN:X.N.Nodup)(hi:X.N[i]? = some x)(hx:Loc X.env.scope x)(he:PE X e te)(hs:swapsWith e (some (.Name x pos')) pos.line X.env=pure false:=by rfl)(hf:X.fn x=true∨X.env.scope.names.lookup x=some .local:=by first | exact .inl rfl | exact .inr rfl | assumption) :
  PS X (.Assign [.Name x pos'] e pos) (RU te (Gv i)):=by
 intro pins s σ H D I h;refine wpAny_Assign_Name (cx (he pins s σ H _ I h) fun v s1 ⟨y,H1,I1,r1,q1⟩=>?_) hs;exact Ap I1 hN hi hx r1 (fun s2 I2=>⟨_,H1,I2,q1⟩) hf
def Ut(i:Nat)(te:TE)(ti:SG):TS:=fun D σ H=>∃x,σ[i]? = some (some x)∧te σ H fun y H1=>ti x y H1 fun z H2=>D.nx (σ.set i (some z)) H2
theorem tq{i:Nat}{x:Str}{e:Expr}{te:TE}{op:Operator}{ti:SG}{pos':Pos}(hN:X.N.Nodup)(hi:X.N[i]? = some x)(hx:Loc X.env.scope x)(he:PE X e te)(ho:T7 X op ti)(hf:X.fn x=true∨X.env.scope.names.lookup x=some .local:=by first | exact .inl rfl | exact .inr rfl | assumption) :
  PS X (.AugAssign (.Name x pos') op e pos) (Ut i te ti):=by
 intro pins s σ H D I h;obtain⟨v,e1,h⟩:=h;obtain⟨m,hn,hl⟩:=I.loc;have vis:SF X.env.scope x:=by rcases hx with k | k;exact .inl k;exact .inr (.inl k)
 obtain⟨u,r,l⟩:=hl i x v hi e1 vis;refine wpAny_AugAssign_Name ?_;have go:wpAny (model X.prog X.w) X.A (eval e X.env) (fun w s₂=>wpAny (model X.prog X.w) X.A (inplaceOp op u w) (fun r s₃=>wpAny (model X.prog X.w) X.A (storeName X.env x r) (fun _=>SP X pins D .next) X.xe s₃) X.xe s₂) X.xe s:=by
  refine cx (he pins s σ H _ I h) fun w s1 ⟨y,H1,I1,r1,q1⟩=>?_
  refine cx (ho pins s1 σ H1 v y u w _ I1 r r1 q1) fun z s2 ⟨zv,H2,I2,r2,q2⟩=>?_
  exact Ap I2 hN hi hx r2 (fun s3 I3=>⟨_,H2,I3,q2⟩) hf
 rcases l with ⟨hk,hm⟩ | ⟨hk,c,hc,hcell⟩
 ·exact wpAny_loadName_local I.ok.kind hk hn hm go
 ·rcases hk with hk | hk
  ·exact wpAny_loadName_cell I.ok.kind hk hc hcell go
  ·rcases hx with k | k
   ·have:X.env.scope.names.lookup x=some .free:=hk;rw[k]at this;cases this
   ·have:X.env.scope.names.lookup x=some .free:=hk;rw[k]at this;cases this
def S3(to ti te:TE)(tget:V->V->Hp->VK->Prop)(tip:SG)(tset:N8):TS:=fun D σ H=>to σ H fun o H1=>ti σ H1 fun i H2=>tget o i H2 fun x H3=>te σ H3 fun y H4=>tip x y H4 fun z H5=>tset o i z H5 fun H6=>D.nx σ H6
def S4(X:Cx)(t:V->V->Hp->VK->Prop):Prop:=
 ∀
  (pins:List (Addr×Obj)) (s:Shared) (σ:St) (H:Hp) (o i:V) (ov iv:Value) (Q:VK),Inv X pins σ H s->RelV o ov->RelV i iv->t o i H Q →
  wpAny (model X.prog X.w) X.A (getItem ov iv) (EP X pins σ Q) X.xe s
theorem KO{o i e:Expr}{to ti te:TE}{tget:V->V->Hp->VK->Prop}{tip:SG}{tset:N8}{op:Operator}{tpos:Pos}(ho:PE X o to)(hi:PE X i ti)(hg:S4 X tget)(he:PE X e te)(hp:T7 X op tip)(hs:RT X tset)
  (ha:∀ov iv new,augStore i ov iv new=(do holding [new,ov,iv] (setItem ov iv new);release [new,ov,iv] [];pure .next):=by intros;rfl):PS X (.AugAssign (.Subscript o i tpos) op e pos) (S3 to ti te tget tip tset):=by
 intro pins s σ H D I h;refine wpAny_AugAssign_SubscriptAny (cx (ho pins s σ H _ I h) fun ov s1 ⟨x1,H1,I1,r1,q1⟩=>?_) ha;refine cx (hi pins s1 σ H1 _ I1 q1) fun iv s2 ⟨x2,H2,I2,r2,q2⟩=>?_
 refine cx (hg pins s2 σ H2 x1 x2 ov iv _ I2 r1 r2 q2) fun old s3 ⟨x3,H3,I3,r3,q3⟩=>?_
 refine cx (he pins s3 σ H3 _ I3 q3) fun v s4 ⟨x4,H4,I4,r4,q4⟩=>?_
 refine cx (hp pins s4 σ H4 x3 x4 old v _ I4 r3 r4 q4) fun new s5 ⟨x5,H5,I5,r5,q5⟩=>?_
 exact cx (hs pins s5 σ H5 x1 x2 x5 ov iv new _ I5 r1 r2 r5 q5) fun _ s6 ⟨H6,I6,q6⟩=>⟨σ,H6,I6,q6⟩
def U2(f:Int->Int->Int):SG:=fun x y H Q=>∃i j,x=.int i∧y=.int j∧Q (.int (f i j)) H
theorem p_:T7 X .Add (U2 fun i j=>i+j):=by
 intro pins s σ H x y v u Q I r1 r2 h;obtain⟨i,j,e1,e2,q⟩:=h;subst e1;subst e2;obtain⟨t,rfl⟩:=r1;obtain⟨t',rfl⟩:=r2;exact iadd_int ⟨.int _,H,I.tok _,⟨_,rfl⟩,q⟩
theorem RV:T7 X .Sub (U2 fun i j=>i - j):=by
 intro pins s σ H x y v u Q I r1 r2 h;obtain⟨i,j,e1,e2,q⟩:=h;subst e1;subst e2;obtain⟨t,rfl⟩:=r1;obtain⟨t',rfl⟩:=r2;exact isub_int ⟨.int _,H,I.tok _,⟨_,rfl⟩,q⟩
end
section
variable{X:Cx}{pos:Pos}
def N9(c:TT)(tb:TS):TS:=fun D σ H=>∃W:Nat->St->Hp->Prop,(∃m,W m σ H)∧∀m σ H,W m σ H →
 c σ H fun b H1=>if b=true then ∃N:St->Hp->Prop,(∀σ' H',N σ' H'->∃m',m'<m∧W m' σ' H')∧tb { D with nx:=N,ct:=N,bk:=D.nx } σ H1 else D.nx σ H1
theorem nX{c:Expr}{body:List Stmt}{tc:TT}{tb:TS}(hp:PassesOwn (model X.prog X.w) X.A X.env X.xe)(hc:PT X c tc)(hb:LJ X body tb):PS X (.While c body [] pos) (N9 tc tb):=by
 intro pins s σ H D I h;obtain⟨W,⟨m0,w0⟩,turn⟩:=h;refine wpAny_While (codeAny_whileLoop (fun n s'=>∃σ' H',Inv X pins σ' H' s'∧W n σ' H') ?_ m0 ⟨σ,H,I,w0⟩)
 rintro n s1 ⟨σ1,H1,I1,w1⟩
 refine wpAny_passesOwn hp (cx (hc pins s1 σ1 H1 _ I1 (turn n σ1 H1 w1)) fun b s2 ⟨H2,I2,q2⟩=>?_);cases b with
 | true=>
  obtain⟨N,hN,q2⟩:=q2;rw[if_pos rfl];refine wpAny_passesOwn hp (cx (hb pins s2 σ1 H2 _ I2 q2) fun f s3 q3=>?_);cases f with
  | next=>
   obtain⟨σ3,H3,I3,n3⟩:=q3;obtain⟨m',hm,w3⟩:=hN σ3 H3 n3;exact⟨m',hm,σ3,H3,I3,w3⟩
  | cont=>
   obtain⟨σ3,H3,I3,n3⟩:=q3;obtain⟨m',hm,w3⟩:=hN σ3 H3 n3;exact⟨m',hm,σ3,H3,I3,w3⟩
  | brk=>exact q3
  | ret v=>exact q3
 | false=>
  rw[if_neg Bool.false_ne_true];exact wpAny_execs_nil ⟨σ1,H2,I2,q2⟩
end
structure It where
 go:Nat->Hp->Prop
 NK:Nat->Hp->V->Hp->Prop
 stop:Nat->Hp->Prop
def Ct(X:Cx)(pins:List (Addr×Obj))(H:Hp)(b:Addr):Prop:=
 H b=none∧b≠X.env.locals∧b ∉ X.fs∧(b∈X.ex∨X.D0.heap.objs.size<=b)∧(∀x c,X.env.cells.lookup x=some c->c≠b)∧∀p∈X.pn++pins,p.1≠b
theorem Inv.N_{X:Cx}{pins:List (Addr×Obj)}{σ:St}{H H':Hp}{s:Shared}{b:Addr}(I:Inv X pins σ H s)(hb:s.heap.objs.size<=b)(hn:H' b=none):Ct X pins H' b:=by
 refine⟨hn,Nat.ne_of_gt (Nat.lt_of_lt_of_le I.lt hb),I.Uh hb,.inr (Nat.le_trans I.sz hb),fun x c e z=>?_,fun p hp z=>?_⟩
 ·obtain⟨v,q⟩:=I.cell x c e;exact absurd (Nat.lt_of_lt_of_le q.lt (by rw[z];exact hb)) (Nat.lt_irrefl _)
 ·exact absurd (Nat.lt_of_lt_of_le (Heap.lt_size (I.pin p hp).1) (by rw[z];exact hb)) (Nat.lt_irrefl _)
structure Turn(P:Program)(w:World)(K:W.Frag)(tg:Expr)(J:It)(fp:List Addr)(it:Addr)(tn:Nat->Heap->Prop):Prop where
 mem:it∈fp
 obj:∀i h,tn i h->∀b∈fp,∃o,h.get? b=some o∧∀v,o.data≠.cell v
 keep:∀i h h',tn i h->(∀b∈fp,∀o,h.get? b=some o->h'.get? b=some o)->tn i h'
 item:∀(X:Cx),X.prog=P->X.w=w->X.K=K->X.calm=true->∀(i:Nat) (pins:List (Addr×Obj)) (s:Shared) (σ:St) (H:Hp) (E:Value->Shared->Prop),Inv X pins σ H s->(∀b∈fp,Ct X pins H b)->tn i s.heap->J.go i H →
  wpAny (model P w) X.A (pyNext (.ref it)) (fun r s1=>∃u,r=some u∧
   wpAny (model P w) X.A (letOwnedTupleGo tg (.ref it) u) (fun _ s2=>∃x H',Inv X pins σ H' s2∧RelV x u∧J.NK i H x H'∧tn (i+1) s2.heap∧∀b∈fp,H' b=none) E s1) E s
 done:∀(X:Cx),X.prog=P->X.w=w->X.K=K->X.calm=true->∀(i:Nat) (pins:List (Addr×Obj)) (s:Shared) (σ:St) (H:Hp) (E:Value->Shared->Prop),Inv X pins σ H s->(∀b∈fp,Ct X pins H b)->tn i s.heap->J.stop i H →
  wpAny (model P w) X.A (pyNext (.ref it)) (fun r s1=>r=none∧Inv X pins σ H s1) E s
 self:∀(A:Around) (i:Nat) (s:Shared) (Q:Value->Shared->Prop) (E:Value->Shared->Prop),tn i s.heap->Q (.ref it) s->wpAny (model P w) A (pyIter (.ref it)) Q E s
abbrev TI:=St->Hp->(It->Hp->Prop)->Prop
def Uu(X:Cx)(pins:List (Addr×Obj))(σ:St)(tg:Expr)(R:It->Hp->Prop)(itv:Value)(s2:Shared):Prop:=
 ∃(it:Addr) (fp:List Addr) (tn:Nat->Heap->Prop) (J:It) (H':Hp),itv=.ref it∧Inv X pins σ H' s2∧Turn X.prog X.w X.K tg J fp it tn∧tn 0 s2.heap∧(∀b∈fp,Ct X pins H' b)∧R J H'
def PI(X:Cx)(tg iter:Expr)(wi:TI):Prop:=
 ∀
  (pins:List (Addr×Obj)) (s:Shared) (σ:St) (H:Hp) (R:It->Hp->Prop),Inv X pins σ H s->wi σ H R →
  wpAny (model X.prog X.w) X.A (eval iter X.env) (fun v s1=>wpAny (model X.prog X.w) X.A (pyIter v) (Uu X pins σ tg R) X.xe s1) X.xe s
theorem KP{M:Model}{A:Around}{E:Value->Shared->Prop}{s:Shared}{tg:Expr}{it:Addr}{u:Value}{o:Obj}{n:String}{vs:Array Value}{Q:Unit->Shared->Prop}(ho:s.heap.get? it=some o)(hc:o.cls=.type n)(hd:o.data=.fields vs)
  (hn:["enumerate","zip","dict_itemiterator","dict_reverseitemiterator","odict_iterator","itertools.zip_longest","itertools.pairwise"].contains n=false) (hQ:Q () s):wpAny M A (letOwnedTupleGo tg (.ref it) u) Q E s:=by
 unfold letOwnedTupleGo;cases tg <;> first
  | exact wpAny_pure hQ
  | (cases u <;> first
    | exact wpAny_pure hQ
    | (
      refine wpAny_bind (wpAny_load ho ?_);rw[hc,hd];show wpAny M A (if (["enumerate","zip","dict_itemiterator","dict_reverseitemiterator","odict_iterator","itertools.zip_longest","itertools.pairwise"].contains n && vs[0]? == some (rawInt _))=true then _ else _) Q E s;rw[if_neg (by intro h;rw[hn,Bool.false_and]at h;cases h)];exact wpAny_pure hQ))
def Oa(K:W.Frag)(a:Addr):It:=
 ⟨fun i H=>∃xs x,aP K H a xs∧xs[i]? = some x,fun i H x H'=>H'=H∧∀xs,aP K H a xs->xs[i]? = some x,fun i H=>∃xs,aP K H a xs∧xs.length<=i⟩
def S5(K:W.Frag)(a:Addr):It:=
 ⟨fun i H=>∃xs x,jP K H a xs∧xs[i]? = some x,fun i H x H'=>H'=H∧∀xs,jP K H a xs->xs[i]? = some x,fun i H=>∃xs,jP K H a xs∧xs.length<=i⟩
def Il(lo:Int)(n:Nat):It:=⟨fun i _=>i<n,fun i H x H'=>H'=H∧x=.int (lo+i),fun i _=>n<=i⟩
theorem LL{P:Program}{w:World}{K:W.Frag}{tg:Expr}(a it:Addr):Turn P w K tg (Oa K a) [it] it (fun i h=>h.IsListIter it a i) where
 mem:=by simp
 obj:=fun i h st b hb=>by
  have e:b=it:=by simpa using hb
  subst e;obtain⟨o,e,c,d⟩:=st;exact⟨o,e,fun v z=>by rw[d]at z;cases z⟩
 keep:=fun i h h' st k=>st.at fun o e=>k it (by simp) o e
 item:=by
  intro X hP hw hK hc i pins s σ H E I hf st hg;subst hP hw hK;obtain⟨xs,x,hq,hx⟩:=hg;obtain⟨its,rv,p,hz⟩:=I.list hq;obtain⟨u,hu,ru⟩:=rv.get hx;obtain⟨f0,f1,f2,f3,f4,f5⟩:=hf it (by simp);refine wpAny_pyNext_list_item st p.isList (x:=u) (by simpa using hu) fun h' st' sb=>?_
  have I1:Inv X pins σ H { s with heap:=h' }:=I.turned (t':=s.toks) (fun b o hb e=>(sb.2 b hb).trans e) f0 f1 f3 f4 f5;obtain⟨o,e,c,d⟩:=id st';exact⟨u,rfl,KP (s:={ s with heap:=h' }) e c d (by decide) ⟨x,H,I1,ru,⟨rfl,fun ys hy=>by rw[I.N6 hy hq];exact hx⟩,st',fun b hb=>(hf b hb).1⟩⟩
 done:=by
  intro X hP hw hK hc i pins s σ H E I hf st hg;subst hP hw hK;obtain⟨xs,hq,hx⟩:=hg;obtain⟨its,rv,p,hz⟩:=I.list hq;obtain⟨f0,f1,f2,f3,f4,f5⟩:=hf it (by simp);have hl:=rv.length;exact wpAny_pyNext_list_end (I.ok.hd hc) st p.isList (by simp;lia) fun h' eb=>⟨rfl,I.turned (t':=s.toks) (fun b o hb e=>eb b o hb e) f0 f1 f3 f4 f5⟩
 self:=fun _ _ _ _ _ st h=>wpAny_pyIter_listiter st h
theorem II{P:Program}{w:World}{K:W.Frag}{tg:Expr}(a it:Addr):Turn P w K tg (S5 K a) [it] it (fun i h=>h.IsTupleIter it a i) where
 mem:=by simp
 obj:=fun i h st b hb=>by
  have e:b=it:=by simpa using hb
  subst e;obtain⟨o,e,c,d⟩:=st;exact⟨o,e,fun v z=>by rw[d]at z;cases z⟩
 keep:=fun i h h' st k=>st.at fun o e=>k it (by simp) o e
 item:=by
  intro X hP hw hK hc i pins s σ H E I hf st hg;subst hP hw hK;obtain⟨xs,x,hq,hx⟩:=hg;obtain⟨its,rv,p,hz⟩:=I.tuple hq;obtain⟨u,hu,ru⟩:=rv.get hx;obtain⟨f0,f1,f2,f3,f4,f5⟩:=hf it (by simp);refine wpAny_pyNext_tuple_item st (show s.heap.IsTuple a its.toArray from p) (x:=u) (by simpa using hu) fun h' st' sb=>?_
  have I1:Inv X pins σ H { s with heap:=h' }:=I.turned (t':=s.toks) (fun b o hb e=>(sb.2 b hb).trans e) f0 f1 f3 f4 f5;obtain⟨o,e,c,d⟩:=id st';exact⟨u,rfl,KP (s:={ s with heap:=h' }) e c d (by decide) ⟨x,H,I1,ru,⟨rfl,fun ys hy=>by rw[I.LK hy hq];exact hx⟩,st',fun b hb=>(hf b hb).1⟩⟩
 done:=by
  intro X hP hw hK hc i pins s σ H E I hf st hg;subst hP hw hK;obtain⟨xs,hq,hx⟩:=hg;obtain⟨its,rv,p,hz⟩:=I.tuple hq;obtain⟨f0,f1,f2,f3,f4,f5⟩:=hf it (by simp);have hl:=rv.length;exact wpAny_pyNext_tuple_end (I.ok.hd hc) st (show s.heap.IsTuple a its.toArray from p) (by simp;lia) fun h' eb=>⟨rfl,I.turned (t':=s.toks) (fun b o hb e=>eb b o hb e) f0 f1 f3 f4 f5⟩
 self:=fun _ _ _ _ _ st h=>wpAny_pyIter_tupleiter st h
theorem IJ{P:Program}{w:World}{K:W.Frag}{tg:Expr}(it:Addr)(lo:Int)(n:Nat):Turn P w K tg (Il lo n) [it] it (fun i h=>IsRangeIter h it (lo+(i:Nat) * 1) ((n:Int) - (i:Nat)) 1) where
 mem:=by simp
 obj:=fun i h st b hb=>by
  have e:b=it:=by simpa using hb
  subst e;exact⟨_,st,fun v z=>by
   have z':Data.fields _=Data.cell v:=z;cases z'⟩
 keep:=fun i h h' st k=>k it (by simp) _ st
 item:=by
  intro X hP hw hK hc i pins s σ H E I hf st hg;subst hP hw hK;obtain⟨f0,f1,f2,f3,f4,f5⟩:=hf it (by simp);have W:=Walks.range (prog:=X.prog) (w:=X.w) (I.ok.hd hc) it lo 1 n;refine W.item i s _ _ hg st fun v h' tk hv st' kk=>?_
  obtain⟨t,rfl⟩:=hv;have I1:Inv X pins σ H { s with heap:=h',toks:=tk }:=I.turned (fun b o hb e=>kk b o (by simpa using hb) e) f0 f1 f3 f4 f5;refine⟨_,rfl,KP (s:={ s with heap:=h',toks:=tk }) (n:="range_iterator") st' rfl rfl (by decide) ⟨.int (lo+i),H,I1,⟨t,?_⟩,⟨rfl,rfl⟩,st',fun b hb=>(hf b hb).1⟩⟩;rw[Int.mul_one]
 done:=by
  intro X hP hw hK hc i pins s σ H E I hf st hg;subst hP hw hK;obtain⟨f0,f1,f2,f3,f4,f5⟩:=hf it (by simp);exact wpAny_pyNext_range_end (I.ok.hd hc) st (by have:n<=i:=hg;lia) fun h' eb=>⟨rfl,I.turned (t':=s.toks) (fun b o hb e=>eb b o hb e) f0 f1 f3 f4 f5⟩
 self:=fun _ _ _ _ _ st h=>wpAny_pyIter_rangeiter st h
end L2
namespace L2
open PySem PySem.Spec PyProof.Rows
section
variable{X:Cx}{tg:Expr}
def S6(K:W.Frag)(tl:TE):TI:=fun σ H R=>tl σ H fun x H1=>∃a,x=.ref a∧(∃xs,aP K H1 a xs)∧R (Oa K a) H1
def Uv(K:W.Frag)(tl:TE):TI:=fun σ H R=>tl σ H fun x H1=>∃a,x=.ref a∧(∃xs,jP K H1 a xs)∧R (S5 K a) H1
theorem aX{l:Expr}{tl:TE}(hl:PE X l tl):PI X tg l (S6 X.K tl):=by
 intro pins s σ H R I h;refine cx (hl pins s σ H _ I h) fun v s1 ⟨x,H1,I1,r1,q1⟩=>?_
 obtain⟨a,e,⟨xs,hq⟩,q⟩:=q1;subst e;cases r1;obtain⟨its,rv,p,hz⟩:=I1.list hq;refine wpAny_pyIter_list p.isList ?_;refine⟨s1.heap.objs.size,[s1.heap.objs.size],_,_,H1,rfl,I1.kept (t':=s1.toks) fun b o e=>Heap.get?_push_of_some _ e,LL a _,⟨_,Heap.get?_push_size _ rfl,rfl,rfl⟩,fun b hb=>?_,q⟩;have e:b=s1.heap.objs.size:=by simpa using hb
 subst e;exact I1.N_ (Nat.le_refl _) (I1.ck.fresh (Nat.le_refl _))
theorem RW{l:Expr}{tl:TE}(hl:PE X l tl):PI X tg l (Uv X.K tl):=by
 intro pins s σ H R I h;refine cx (hl pins s σ H _ I h) fun v s1 ⟨x,H1,I1,r1,q1⟩=>?_
 obtain⟨a,e,⟨xs,hq⟩,q⟩:=q1;subst e;cases r1;obtain⟨its,rv,p,hz⟩:=I1.tuple hq;refine wpAny_pyIter_tuple (show s1.heap.IsTuple a its.toArray from p) ?_;refine⟨s1.heap.objs.size,[s1.heap.objs.size],_,_,H1,rfl,I1.kept (t':=s1.toks) fun b o e=>Heap.get?_push_of_some _ e,II a _,⟨_,Heap.get?_push_size _ rfl,rfl,rfl⟩,fun b hb=>?_,q⟩;have e:b=s1.heap.objs.size:=by simpa using hb
 subst e;exact I1.N_ (Nat.le_refl _) (I1.ck.fresh (Nat.le_refl _))
theorem Gw{pins:List (Addr×Obj)}{σ:St}{H:Hp}{s:Shared}{R:It->Hp->Prop}{E:Value->Shared->Prop}{lo hi:Int}{t u v:Tok}{tk:Nat}(I:Inv X pins σ H s)(h1:-(2 ^ 62)<=lo)(h2:lo<2 ^ 62)(h3:-(2 ^ 62)<=hi)(h4:hi<2 ^ 62)
  (q:R (Il lo (hi - lo).toNat) H):wpAny (model X.prog X.w) X.A (pyIter (.ref s.heap.objs.size)) (Uu X pins σ tg R) E { s with heap:=s.heap.push { cls:=.type "range",data:=.fields #[.int lo t,.int hi u,.int 1 v] },toks:=tk }:=by
 refine wpAny_pyIter_range (IsRange.new ..) (small_one h1 h2 h3 h4) ?_;have I1:Inv X pins σ H { s with heap:=s.heap.push { cls:=.type "range",data:=.fields #[.int lo t,.int hi u,.int 1 v] },toks:=tk }:=I.kept fun b o e=>Heap.get?_push_of_some _ e
 refine⟨(s.heap.push { cls:=.type "range",data:=.fields #[.int lo t,.int hi u,.int 1 v] }).objs.size,[(s.heap.push { cls:=.type "range",data:=.fields #[.int lo t,.int hi u,.int 1 v] }).objs.size],_,_,H,rfl,
  I1.kept (t':=tk) fun b o e=>Heap.get?_push_of_some _ e,IJ _ lo (hi - lo).toNat,?_,fun b hb=>?_,q⟩
 ·have e1:lo+((0:Nat):Int) * 1=lo:=by simp
  have e2:(((hi - lo).toNat:Nat):Int) - ((0:Nat):Int)=Builtin.Range.rangeSize lo hi 1:=by rw[rangeSize_one];split <;> lia
  show IsRangeIter _ _ (lo+((0:Nat):Int) * 1) ((((hi - lo).toNat:Nat):Int) - ((0:Nat):Int)) 1;rw[e1,e2];exact Heap.get?_push_size _ rfl
 ·have e:b=(s.heap.push { cls:=.type "range",data:=.fields #[.int lo t,.int hi u,.int 1 v] }).objs.size:=by simpa using hb
  subst e;exact I1.N_ (Nat.le_refl _) (I1.ck.fresh (Nat.le_refl _))
def S7(ta:TA):TI:=fun σ H R=>ta σ H fun vs H1=>∃j:Int,vs=[.int j]∧-(2 ^ 62)<=j∧j<2 ^ 62∧R (Il 0 j.toNat) H1
def S8(ta:TA):TI:=fun σ H R=>ta σ H fun vs H1=>∃i j:Int,vs=[.int i,.int j]∧(-(2 ^ 62)<=i∧i<2 ^ 62∧-(2 ^ 62)<=j∧j<2 ^ 62)∧R (Il i (j - i).toNat) H1
theorem b_{a:Expr}{ta:TA}{p pos:Pos}(hg:Gl X "range")(hm:X.mg "range" = none)(ha:PA X [a] ta)(hs:starEach [a] X.env=[(false,eval a X.env)]:=by rfl):PI X tg (.Call (.Name "range" p) [a] [] pos) (S7 ta):=by
 intro pins s σ H R I h;refine Call_ (nE I hg hm boot_range (PyProof.Rows.callWith_type1 (cx (ha pos pins s σ H _ I h) fun us s1 ⟨vs,H1,I1,r1,q1⟩=>?_) hs rfl));obtain⟨j,e,q1,q2,q⟩:=q1;subst e;cases r1 with
 | cons r rr=>
  cases rr;obtain⟨t,rfl⟩:=r
  exact call_range_1 (Gw I1 (by lia) (by lia) q1 q2 (by simpa using q))
theorem D4{a b:Expr}{ta:TA}{p pos:Pos}(hg:Gl X "range")(hm:X.mg "range" = none)(ha:PA X [a,b] ta)(hs:starEach [a,b] X.env=[(false,eval a X.env),(false,eval b X.env)]:=by rfl)(hs2:starEach [b] X.env=[(false,eval b X.env)]:=by rfl) :
  PI X tg (.Call (.Name "range" p) [a,b] [] pos) (S8 ta):=by
 intro pins s σ H R I h;refine Call_ (nE I hg hm boot_range (PyProof.Rows.callWith_type1 (cx (ha pos pins s σ H _ I h) fun us s1 ⟨vs,H1,I1,r1,q1⟩=>?_) (by rw[hs,hs2]) (by rw[hs2];rfl)));obtain⟨i,j,e,⟨q1,q2,q3,q4⟩,q⟩:=q1;subst e;cases r1 with
 | cons r rr=>
  cases rr with
  | cons r' rr=>
   cases rr;obtain⟨t,rfl⟩:=r
   obtain⟨t',rfl⟩:=r';exact call_range_2 (Gw I1 q1 q2 q3 q4 q)
def Uw(wi:TI)(g:TG)(tb:TS):TS:=fun D σ H=>wi σ H fun J H1=>∃W:Nat->Nat->St->Hp->Prop,(∃m,W 0 m σ H1)∧∀i m σ H,W i m σ H →
 (J.stop i H∧D.nx σ H)∨(J.go i H∧∃N:St->Hp->Prop,(∀σ' H',N σ' H'->∃m',m'<m∧W (i+1) m' σ' H')∧∀x H',J.NK i H x H'->g x σ H' fun σ2 H2=>tb { D with nx:=N,ct:=N,bk:=D.nx } σ2 H2)
def Ar(fp:List Addr)(h:Heap):List (Addr×Obj):=fp.filterMap fun b=>(h.get? b).map fun o=>(b,o)
theorem tw{fp:List Addr}{h:Heap}{b:Addr}{o:Obj}(hb:b∈fp)(e:h.get? b=some o):(b,o)∈Ar fp h:=List.mem_filterMap.mpr ⟨b,hb,by rw[e];rfl⟩
theorem LM{fp:List Addr}{h:Heap}{p:Addr×Obj}(hp:p∈Ar fp h):p.1∈fp∧h.get? p.1=some p.2:=by
 obtain⟨b,hb,e⟩:=List.mem_filterMap.mp hp;cases q:h.get? b with
 | none=>rw[q]at e;cases e
 | some o=>
  rw[q]at e;have e':(b,o)=p:=Option.some.inj e;subst e';exact⟨hb,q⟩
theorem Inv.pinned{pins:List (Addr×Obj)}{σ:St}{H:Hp}{s:Shared}{fp:List Addr}(I:Inv X pins σ H s)(hf:∀b∈fp,Ct X pins H b)(ho:∀b∈fp,∃o,s.heap.get? b=some o∧∀v,o.data≠.cell v):Inv X (pins++Ar fp s.heap) σ H s:=
 I.KL fun p hp=>(List.mem_append.mp hp).elim (fun z=>I.pin p (List.mem_append_right _ z)) fun z=>by
  obtain⟨hb,e⟩:=LM z;obtain⟨f0,f1,f2,_⟩:=hf p.1 hb;obtain⟨o,e',d⟩:=ho p.1 hb;rw[e]at e';cases e';exact⟨e,f0,f1,f2,d⟩
theorem Inv.uK{pins pl:List (Addr×Obj)}{σ:St}{H:Hp}{s:Shared}(I:Inv X (pins++pl) σ H s):Inv X pins σ H s:=I.KL fun p hp=>I.pin p (List.mem_append_right _ (List.mem_append_left _ hp))
theorem cF{iter:Expr}{body:List Stmt}{wi:TI}{g:TG}{tb:TS}{pos:Pos}(hp:PassesOwn (model X.prog X.w) X.A X.env X.xe)(hc:X.calm=true)(hi:PI X tg iter wi)(hg:PG X tg g)(hb:LJ X body tb)
  (hs:∀x,foldedSetIterable iter X.env x=pure x:=by intro _;rfl):PS X (.For tg iter body [] pos) (Uw wi g tb):=by
 intro pins s σ H D I h;refine wpAny_For (cx (hi pins s σ H _ I h) fun v s1 h1=>cx h1 fun itv s2 h2=>?_) hs;obtain⟨it,fp,tn,J,H2,e,I2,T,st2,f2,W,⟨m0,w0⟩,turn⟩:=h2;subst e;have stat:∀{H':Hp},(∀b∈fp,H' b=none)->∀b∈fp,Ct X pins H' b:=fun hn b hb=>⟨hn b hb,(f2 b hb).2⟩
 refine codeAny_forLoop_any (fun n s'=>∃i σ' H',Inv X pins σ' H' s'∧tn i s'.heap∧(∀b∈fp,H' b=none)∧W i n σ' H') ?_ m0 ⟨0,σ,H2,I2,st2,fun b hb=>(f2 b hb).1,w0⟩
 rintro n s3 ⟨i,σ3,H3,I3,st3,fr3,w3⟩
 rcases turn i n σ3 H3 w3 with ⟨stop,qn⟩ | ⟨go,N,hN,step⟩
 ·refine wpAny_passesOwn hp (cx (T.done X rfl rfl rfl hc i pins s3 σ3 H3 X.xe I3 (stat fr3) st3 stop) fun r s4 ⟨hr,I4⟩=>?_);subst hr;exact wpAny_execs_nil ⟨σ3,H3,I4,qn⟩
 ·refine wpAny_passesOwn hp (cx (T.item X rfl rfl rfl hc i pins s3 σ3 H3 X.xe I3 (stat fr3) st3 go) fun r s4 ⟨u,hr,h4⟩=>?_);subst hr;refine wpAny_passesOwn hp (cx h4 fun _ s5 ⟨x,H5,I5,r5,y5,st5,fr5⟩=>?_);have I5':=I5.pinned (stat fr5) (T.obj _ _ st5);refine wpAny_passesOwn hp (cx (hg _ s5 σ3 H5 x u _ I5' r5 (step x H5 y5)) fun _ s6 ⟨σ6,H6,I6,q6⟩=>?_);refine wpAny_passesOwn hp (cx (hb _ s6 σ6 H6 _ I6 q6) fun f s7 q7=>?_);have again:∀{σ7:St} {H7:Hp},Inv X (pins++Ar fp s5.heap) σ7 H7 s7->N σ7 H7->∃m,m<n∧∃i σ' H',Inv X pins σ' H' s7∧tn i s7.heap∧(∀b∈fp,H' b=none)∧W i m σ' H':=fun {σ7 H7} I7 n7=>by
   obtain⟨m',hm,w7⟩:=hN σ7 H7 n7;refine⟨m',hm,i+1,σ7,H7,I7.uK,T.keep _ _ _ st5 fun b hb o e=>(I7.pin (b,o) (List.mem_append_right _ (List.mem_append_right _ (tw hb e)))).1,fun b hb=>?_,w7⟩;obtain⟨o,e,d⟩:=T.obj _ _ st5 b hb;exact(I7.pin (b,o) (List.mem_append_right _ (List.mem_append_right _ (tw hb e)))).2.1
  cases f with
  | next=>obtain⟨σ7,H7,I7,n7⟩:=q7;exact again I7 n7
  | cont=>obtain⟨σ7,H7,I7,n7⟩:=q7;exact again I7 n7
  | brk=>obtain⟨σ7,H7,I7,q7⟩:=q7;exact⟨σ7,H7,I7.uK,q7⟩
  | ret v=>obtain⟨x7,σ7,H7,I7,r7,q7⟩:=q7;exact⟨x7,σ7,H7,I7.uK,r7,q7⟩
end
theorem cU{K:W.Frag}{a:Addr}{xs:List V}{g:TG}{tb:TS}{D:Ends}{σ:St}{H:Hp}(Pv:Nat->St->Hp->Prop)(h0:Pv 0 σ H)(hl:∀i σ H,i<=xs.length->Pv i σ H->aP K H a xs)
  (hs:∀i x σ H,xs[i]? = some x->Pv i σ H->g x σ H fun σ2 H2=>tb { D with nx:=Pv (i+1),ct:=Pv (i+1),bk:=D.nx } σ2 H2) (hd:∀σ H,Pv xs.length σ H->D.nx σ H) :
  ∃
   W:Nat->Nat->St->Hp->Prop,(∃m,W 0 m σ H)∧∀i m σ H,W i m σ H →
   ((Oa K a).stop i H∧D.nx σ H)∨((Oa K a).go i H∧∃N:St->Hp->Prop,(∀σ' H',N σ' H'->∃m',m'<m∧W (i+1) m' σ' H')∧∀x H',(Oa K a).NK i H x H'->g x σ H' fun σ2 H2=>tb { D with nx:=N,ct:=N,bk:=D.nx } σ2 H2):=by
 refine⟨fun i m σ H=>m=xs.length - i∧i<=xs.length∧Pv i σ H,⟨xs.length,by simp,Nat.zero_le _,h0⟩,?_⟩
 rintro i m σ H ⟨rfl,hi,p⟩
 have q:=hl i σ H hi p;by_cases hlt:i<xs.length
 ·refine .inr ⟨⟨xs,xs[i],q,by simp[hlt]⟩,Pv (i+1),fun σ' H' p'=>⟨xs.length - (i+1),by lia,rfl,hlt,p'⟩,fun x H' y=>?_⟩;obtain⟨e,y⟩:=y;subst e;exact hs i x σ _ (y xs q) p
 ·have e:i=xs.length:=by lia
  subst e;exact .inl ⟨⟨xs,q,Nat.le_refl _⟩,hd σ H p⟩
theorem Qo{K:W.Frag}{a:Addr}{xs:List V}{g:TG}{tb:TS}{D:Ends}{σ:St}{H:Hp}(Pv:Nat->St->Hp->Prop)(h0:Pv 0 σ H)(hl:∀i σ H,i<=xs.length->Pv i σ H->jP K H a xs)
  (hs:∀i x σ H,xs[i]? = some x->Pv i σ H->g x σ H fun σ2 H2=>tb { D with nx:=Pv (i+1),ct:=Pv (i+1),bk:=D.nx } σ2 H2) (hd:∀σ H,Pv xs.length σ H->D.nx σ H) :
  ∃
   W:Nat->Nat->St->Hp->Prop,(∃m,W 0 m σ H)∧∀i m σ H,W i m σ H →
   ((S5 K a).stop i H∧D.nx σ H)∨((S5 K a).go i H∧∃N:St->Hp->Prop,(∀σ' H',N σ' H'->∃m',m'<m∧W (i+1) m' σ' H')∧∀x H',(S5 K a).NK i H x H'->g x σ H' fun σ2 H2=>tb { D with nx:=N,ct:=N,bk:=D.nx } σ2 H2):=by
 refine⟨fun i m σ H=>m=xs.length - i∧i<=xs.length∧Pv i σ H,⟨xs.length,by simp,Nat.zero_le _,h0⟩,?_⟩
 rintro i m σ H ⟨rfl,hi,p⟩
 have q:=hl i σ H hi p;by_cases hlt:i<xs.length
 ·refine .inr ⟨⟨xs,xs[i],q,by simp[hlt]⟩,Pv (i+1),fun σ' H' p'=>⟨xs.length - (i+1),by lia,rfl,hlt,p'⟩,fun x H' y=>?_⟩;obtain⟨e,y⟩:=y;subst e;exact hs i x σ _ (y xs q) p
 ·have e:i=xs.length:=by lia
  subst e;exact .inl ⟨⟨xs,q,Nat.le_refl _⟩,hd σ H p⟩
theorem jJ{lo:Int}{n:Nat}{g:TG}{tb:TS}{D:Ends}{σ:St}{H:Hp}(Pv:Nat->St->Hp->Prop)(h0:Pv 0 σ H)
  (hs:∀i σ H,i<n->Pv i σ H->g (.int (lo+i)) σ H fun σ2 H2=>tb { D with nx:=Pv (i+1),ct:=Pv (i+1),bk:=D.nx } σ2 H2) (hd:∀σ H,Pv n σ H->D.nx σ H) :
  ∃
   W:Nat->Nat->St->Hp->Prop,(∃m,W 0 m σ H)∧∀i m σ H,W i m σ H →
   ((Il lo n).stop i H∧D.nx σ H)∨((Il lo n).go i H∧∃N:St->Hp->Prop,(∀σ' H',N σ' H'->∃m',m'<m∧W (i+1) m' σ' H')∧∀x H',(Il lo n).NK i H x H'->g x σ H' fun σ2 H2=>tb { D with nx:=N,ct:=N,bk:=D.nx } σ2 H2):=by
 refine⟨fun i m σ H=>m=n - i∧i<=n∧Pv i σ H,⟨n,by simp,Nat.zero_le _,h0⟩,?_⟩
 rintro i m σ H ⟨rfl,hi,p⟩
 by_cases hlt:i<n
 ·refine .inr ⟨hlt,Pv (i+1),fun σ' H' p'=>⟨n - (i+1),by lia,rfl,hlt,p'⟩,fun x H' y=>?_⟩;obtain⟨e,y⟩:=y;subst e y;exact hs i σ _ hlt p
 ·have e:i=n:=by lia
  subst e;exact .inl ⟨Nat.le_refl _,hd σ H p⟩
theorem nY{c:TT}{tb:TS}{D:Ends}{σ:St}{H:Hp}(Pv:St->Hp->Prop)(μ:St->Hp->Nat)(h0:Pv σ H)
  (hs:∀σ H,Pv σ H->c σ H fun b H1=>if b=true then tb { D with nx:=fun σ' H'=>Pv σ' H'∧μ σ' H'<μ σ H,ct:=fun σ' H'=>Pv σ' H'∧μ σ' H'<μ σ H,bk:=D.nx } σ H1 else D.nx σ H1)
  (mono:∀σ H Q Q',(∀b H1,Q b H1->Q' b H1)->c σ H Q->c σ H Q'):N9 c tb D σ H:=by
 refine⟨fun m σ H=>m=μ σ H∧Pv σ H,⟨_,rfl,h0⟩,?_⟩
 rintro m σ H ⟨rfl,p⟩
 refine mono σ H _ _ (fun b H1 q=>?_) (hs σ H p);cases b with
 | true=>exact⟨_,fun σ' H' ⟨p',l⟩=>⟨_,l,rfl,p'⟩,q⟩
 | false=>exact q
end L2
namespace L2
open PySem PySem.Spec PyProof.Rows
abbrev R2:=V->V->Hp->VK->Prop
def vW(X:Cx)(f:Value->Value->Sem Value)(r:R2):Prop:=
 ∀
  (pins:List (Addr×Obj)) (s:Shared) (σ:St) (H:Hp) (x y:V) (v u:Value) (Q:VK),Inv X pins σ H s->RelV x v->RelV y u->r x y H Q →
  wpAny (model X.prog X.w) X.A (f v u) (EP X pins σ Q) X.xe s
def Ux(X:Cx)(f:Value->Sem Value)(r:V->Hp->VK->Prop):Prop:=
 ∀
  (pins:List (Addr×Obj)) (s:Shared) (σ:St) (H:Hp) (x:V) (v:Value) (Q:VK),Inv X pins σ H s->RelV x v->r x H Q →
  wpAny (model X.prog X.w) X.A (f v) (EP X pins σ Q) X.xe s
def nj(X:Cx)(f:Value)(r:List V->Hp->VK->Prop):Prop:=
 ∀
  (pins:List (Addr×Obj)) (s:Shared) (σ:St) (H:Hp) (xs:List V) (us:List Value) (Q:VK),Inv X pins σ H s->Vals xs us->r xs H Q →
  wpAny (model X.prog X.w) X.A (call f us) (EP X pins σ Q) X.xe s
def Uy(X:Cx)(r:V->Hp->(Bool->Hp->Prop)->Prop):Prop:=
 ∀
  (pins:List (Addr×Obj)) (s:Shared) (σ:St) (H:Hp) (x:V) (v:Value) (Q:Bool->Hp->Prop),Inv X pins σ H s->RelV x v->r x H Q →
  wpAny (model X.prog X.w) X.A (truthy v) (TP X pins σ Q) X.xe s
def T8(r:R2)(ta tb:TE):TE:=fun σ H Q=>ta σ H fun x H1=>tb σ H1 fun y H2=>r x y H2 Q
def Ve(r:V->Hp->VK->Prop)(ta:TE):TE:=fun σ H Q=>ta σ H fun x H1=>r x H1 Q
def rI(C:Int->Int->Prop)(g:Int->Int->V):R2:=fun x y H Q=>∃i j,x=.int i∧y=.int j∧C i j∧Q (g i j) H
def Qb(g:Int->Int->V):R2:=fun x y H Q=>∃i j,x=.int i∧y=.int j∧Q (g i j) H
def rU(g:Int->V):V->Hp->VK->Prop:=fun x H Q=>∃i,x=.int i∧Q (g i) H
section
variable{X:Cx}{a b c:Expr}{ta tb tc:TE}{pos:Pos}
theorem RX(ha:PE X a ta)(hb:PE X b tb){pins:List (Addr×Obj)}{s:Shared}{σ:St}{H:Hp}{R:V->V->Hp->Prop}(I:Inv X pins σ H s)
  (h:ta σ H fun x H1=>tb σ H1 fun y H2=>R x y H2) {Q:Value->Shared->Prop} {f:Value->Value->Sem Value}
  (hf:∀v u s2 x y H2,Inv X pins σ H2 s2->RelV x v->RelV y u->R x y H2->wpAny (model X.prog X.w) X.A (f v u) Q X.xe s2) :
  wpAny (model X.prog X.w) X.A (eval a X.env) (fun v s₁=>wpAny (model X.prog X.w) X.A (eval b X.env) (fun u s₂=>wpAny (model X.prog X.w) X.A (f v u) Q X.xe s₂) X.xe s₁) X.xe s:=by
 refine cx (ha pins s σ H _ I h) fun v s1 ⟨x,H1,I1,r1,q1⟩=>?_
 refine cx (hb pins s1 σ H1 _ I1 q1) fun u s2 ⟨y,H2,I2,r2,q2⟩=>?_
 exact hf v u s2 x y H2 I2 r1 r2 q2
theorem bL{op:Operator}{r:R2}(ho:vW X (binaryOp op) r)(ha:PE X a ta)(hb:PE X b tb):PE X (.BinOp a op b pos) (T8 r ta tb):=by
 intro pins s σ H Q I h;exact wpAny_BinOp (RX ha hb I h fun v u s2 x y H2 I2 rx ry q=>ho pins s2 σ H2 x y v u Q I2 rx ry q)
theorem KQ{op:UnaryOp}{r:V->Hp->VK->Prop}(ho:Ux X (unaryOp op) r)(ha:PE X a ta):PE X (.UnaryOp op a pos) (Ve r ta):=by
 intro pins s σ H Q I h;exact UnaryOp_ (cx (ha pins s σ H _ I h) fun v s1 ⟨x,H1,I1,r1,q1⟩=>ho pins s1 σ H1 x v Q I1 r1 q1)
theorem Vf{f:Value->Value->Sem Value}{C:Int->Int->Prop}{g:Int->Int->Int}
  (rule:∀(i j:Int) (t u:Tok) (s:Shared) (Q:Value->Shared->Prop) (E:Value->Shared->Prop),C i j->Q (.int (g i j) s.toks) { s with toks:=s.toks+1 }->wpAny (model X.prog X.w) X.A (f (.int i t) (.int j u)) Q E s) :
  vW X f (rI C fun i j=>.int (g i j)):=by
 intro pins s σ H x y v u Q I rx ry h;obtain⟨i,j,rfl,rfl,hc,q⟩:=h;obtain⟨t,rfl⟩:=rx;obtain⟨t',rfl⟩:=ry;exact rule i j t t' s _ _ hc ⟨.int (g i j),H,I.tok _,⟨_,rfl⟩,q⟩
theorem Qp{f:Value->Value->Sem Value}{g:Int->Int->Int}
  (rule:∀(i j:Int) (t u:Tok) (s:Shared) (Q:Value->Shared->Prop) (E:Value->Shared->Prop),Q (.int (g i j) s.toks) { s with toks:=s.toks+1 }->wpAny (model X.prog X.w) X.A (f (.int i t) (.int j u)) Q E s) :
  vW X f (Qb fun i j=>.int (g i j)):=by
 intro pins s σ H x y v u Q I rx ry h;obtain⟨i,j,rfl,rfl,q⟩:=h;obtain⟨t,rfl⟩:=rx;obtain⟨t',rfl⟩:=ry;exact rule i j t t' s _ _ ⟨.int (g i j),H,I.tok _,⟨_,rfl⟩,q⟩
theorem Qq{f:Value->Value->Sem Value}{g:Int->Int->Bool}
  (rule:∀(i j:Int) (t u:Tok) (s:Shared) (Q:Value->Shared->Prop) (E:Value->Shared->Prop),Q (.bool (g i j)) s->wpAny (model X.prog X.w) X.A (f (.int i t) (.int j u)) Q E s) :
  vW X f (Qb fun i j=>.bl (g i j)):=by
 intro pins s σ H x y v u Q I rx ry h;obtain⟨i,j,rfl,rfl,q⟩:=h;obtain⟨t,rfl⟩:=rx;obtain⟨t',rfl⟩:=ry;exact rule i j t t' s _ _ ⟨.bl (g i j),H,I,rfl,q⟩
def Uz(i j:Int):Prop:=0<=j∧j<=1000000∧i.natAbs<2 ^ 64
theorem mI:vW X (binaryOp .Add) (Qb fun i j=>.int (i+j)):=Qp fun _ _ _ _ _ _ _ q=>add_int q
theorem wk:vW X (binaryOp .Sub) (Qb fun i j=>.int (i - j)):=Qp fun _ _ _ _ _ _ _ q=>sub_int q
theorem wm:vW X (binaryOp .LShift) (rI Uz fun i j=>.int (i * 2 ^ j.toNat)):=Vf fun _ _ _ _ _ _ _ hc q=>lshift_int_small hc.1 hc.2.1 hc.2.2 q
theorem As:vW X (binaryOp .BitAnd) (Qb fun i j=>.int (Builtin.bitAnd i j)):=Qp fun _ _ _ _ _ _ _ q=>and_int q
theorem Ob:vW X (binaryOp .BitOr) (Qb fun i j=>.int (Builtin.bitOr i j)):=Qp fun _ _ _ _ _ _ _ q=>or_int q
theorem Vg{f:Value->Sem Value}{g:Int->Int}
  (rule:∀(i:Int) (t:Tok) (s:Shared) (Q:Value->Shared->Prop) (E:Value->Shared->Prop),Q (.int (g i) s.toks) { s with toks:=s.toks+1 }->wpAny (model X.prog X.w) X.A (f (.int i t)) Q E s) :
  Ux X f (rU fun i=>.int (g i)):=by
 intro pins s σ H x v Q I rx h;obtain⟨i,rfl,q⟩:=h;obtain⟨t,rfl⟩:=rx;exact rule i t s _ _ ⟨.int (g i),H,I.tok _,⟨_,rfl⟩,q⟩
theorem EW:Ux X (unaryOp .USub) (rU fun i=>.int (-i)):=Vg fun _ _ _ _ _ q=>neg_int q
end
def S9:V->V->Bool
 | .gi,.gi=>true | .gi,.int _=>true | .int _,.gi=>true | .gi,.bl _=>true | .bl _,.gi=>true | .gi,.str _=>true | .str _,.gi=>true
 | .int _,.int _=>true | .bl _,.bl _=>true | .str _,.str _=>true | .F8 _,.F8 _=>true
 | .int _,.str _=>true | .str _,.int _=>true | .bl _,.str _=>true | .str _,.bl _=>true
 | _,_=>false
def Vh:R2:=fun x y H Q=>S9 x y=true∧Q (.bl (decide (x=y))) H
def Vi:R2:=fun x y H Q=>S9 x y=true∧Q (.bl (!decide (x=y))) H
theorem KR{i j:Int}:decide (V.int i=V.int j)=(i == j):=by
 rw[Bool.eq_iff_iff];simp
theorem Oc{i j:Bool}:decide (V.bl i=V.bl j)=(i == j):=by
 rw[Bool.eq_iff_iff];simp
theorem KS{i j:Str}:decide (V.str i=V.str j)=(i == j):=by
 rw[Bool.eq_iff_iff];simp
theorem KU{i j:Array UInt8}:decide (V.F8 i=V.F8 j)=(i.toList == j.toList):=by
 rw[Bool.eq_iff_iff];cases i;cases j;simp
section
variable{X:Cx}{a b c:Expr}{ta tb tc:TE}{pos:Pos}
theorem bM{pins:List (Addr×Obj)}{σ:St}{H:Hp}{s:Shared}{Q:VK}{k k':Bool}(I:Inv X pins σ H s)(q:Q (.bl k) H)(e:k=k'):EP X pins σ Q (.bool k') s:=by
 subst e;exact⟨.bl k,H,I,rfl,q⟩
theorem bW:vW X (compareOp .Eq) Vh:=by
 intro pins s σ H x y v u Q I rx ry h;obtain⟨hs,q⟩:=h;cases x with
 | gi=>
  cases rx;cases y with
  | gi=>cases ry;exact PySem.EqNone.eq_none_none (bM I q (by simp))
  | bl j=>cases ry;exact PySem.EqNone.eq_none_bool (bM I q (by simp))
  | int j=>obtain⟨t',rfl⟩:=ry;exact PySem.EqNone.eq_none_int (bM I q (by simp))
  | str j=>obtain⟨t',rfl⟩:=ry;exact PySem.EqNone.eq_none_str (bM I q (by simp))
  | _=>exact absurd (show false=true from hs) Bool.false_ne_true
 | bl i=>
  cases rx;cases y with
  | gi=>cases ry;exact PySem.EqNone.eq_bool_none (bM I q (by simp))
  | bl j=>cases ry;exact eq_bool (bM I q Oc)
  | str j=>obtain⟨t',rfl⟩:=ry;exact PySem.EqMixed.eq_bool_str (bM I q (by simp))
  | _=>exact absurd (show false=true from hs) Bool.false_ne_true
 | int i=>
  obtain⟨t,rfl⟩:=rx;cases y with
  | gi=>cases ry;exact PySem.EqNone.eq_int_none (bM I q (by simp))
  | int j=>obtain⟨t',rfl⟩:=ry;exact eq_int (bM I q KR)
  | str j=>obtain⟨t',rfl⟩:=ry;exact PySem.EqMixed.eq_int_str (bM I q (by simp))
  | _=>exact absurd (show false=true from hs) Bool.false_ne_true
 | str i=>
  obtain⟨t,rfl⟩:=rx;cases y with
  | gi=>cases ry;exact PySem.EqNone.eq_str_none (bM I q (by simp))
  | bl j=>cases ry;exact PySem.EqMixed.eq_str_bool (bM I q (by simp))
  | int j=>obtain⟨t',rfl⟩:=ry;exact PySem.EqMixed.eq_str_int (bM I q (by simp))
  | str j=>obtain⟨t',rfl⟩:=ry;exact eq_str (bM I q KS)
  | _=>exact absurd (show false=true from hs) Bool.false_ne_true
 | F8 i=>
  obtain⟨t,rfl⟩:=rx;cases y with
  | F8 j=>obtain⟨t',rfl⟩:=ry;exact W.eq_bytes (bM I q KU)
  | _=>exact absurd (show false=true from hs) Bool.false_ne_true
 | _=>cases y <;> exact absurd (show false=true from hs) Bool.false_ne_true
theorem pB:vW X (compareOp .NotEq) Vi:=by
 intro pins s σ H x y v u Q I rx ry h;obtain⟨hs,q⟩:=h;cases x with
 | gi=>
  cases rx;cases y with
  | gi=>cases ry;exact PySem.EqNone.ne_none_none (bM I q (by simp))
  | bl j=>cases ry;exact PySem.EqNone.ne_none_bool (bM I q (by simp))
  | int j=>obtain⟨t',rfl⟩:=ry;exact PySem.EqNone.ne_none_int (bM I q (by simp))
  | str j=>obtain⟨t',rfl⟩:=ry;exact PySem.EqNone.ne_none_str (bM I q (by simp))
  | _=>exact absurd (show false=true from hs) Bool.false_ne_true
 | bl i=>
  cases rx;cases y with
  | gi=>cases ry;exact PySem.EqNone.ne_bool_none (bM I q (by simp))
  | bl j=>cases ry;exact ne_bool (bM I q (congrArg not Oc))
  | str j=>obtain⟨t',rfl⟩:=ry;exact PySem.EqMixed.ne_bool_str (bM I q (by simp))
  | _=>exact absurd (show false=true from hs) Bool.false_ne_true
 | int i=>
  obtain⟨t,rfl⟩:=rx;cases y with
  | gi=>cases ry;exact PySem.EqNone.ne_int_none (bM I q (by simp))
  | int j=>obtain⟨t',rfl⟩:=ry;exact ne_int (bM I q (congrArg not KR))
  | str j=>obtain⟨t',rfl⟩:=ry;exact PySem.EqMixed.ne_int_str (bM I q (by simp))
  | _=>exact absurd (show false=true from hs) Bool.false_ne_true
 | str i=>
  obtain⟨t,rfl⟩:=rx;cases y with
  | gi=>cases ry;exact PySem.EqNone.ne_str_none (bM I q (by simp))
  | bl j=>cases ry;exact PySem.EqMixed.ne_str_bool (bM I q (by simp))
  | int j=>obtain⟨t',rfl⟩:=ry;exact PySem.EqMixed.ne_str_int (bM I q (by simp))
  | str j=>obtain⟨t',rfl⟩:=ry;exact ne_str (bM I q (congrArg not KS))
  | _=>exact absurd (show false=true from hs) Bool.false_ne_true
 | F8 i=>
  obtain⟨t,rfl⟩:=rx;cases y with
  | F8 j=>obtain⟨t',rfl⟩:=ry;exact W.ne_bytes (bM I q (congrArg not KU))
  | _=>exact absurd (show false=true from hs) Bool.false_ne_true
 | _=>cases y <;> exact absurd (show false=true from hs) Bool.false_ne_true
theorem uL:vW X (compareOp .Lt) (Qb fun i j=>.bl (decide (i<j))):=Qq fun _ _ _ _ _ _ _ q=>lt_int q
theorem yh:vW X (compareOp .LtE) (Qb fun i j=>.bl (decide (i<=j))):=Qq fun _ _ _ _ _ _ _ q=>le_int q
theorem yi:vW X (compareOp .Gt) (Qb fun i j=>.bl (decide (j<i))):=Qq fun _ _ _ _ _ _ _ q=>gt_int q
theorem Od:vW X (compareOp .GtE) (Qb fun i j=>.bl (decide (j<=i))):=Qq fun _ _ _ _ _ _ _ q=>ge_int q
theorem wo:vW X (compareOp .Is) (fun x y H Q=>y=.gi∧Q (.bl (decide (x=.gi))) H):=by
 intro pins s σ H x y v u Q I rx ry h;obtain⟨rfl,q⟩:=h;cases ry;refine is_none_gen (bM I q ?_);cases x <;> first
  | (cases rx;rfl)
  | (obtain⟨t,rfl⟩:=rx;rfl)
theorem Qr:vW X (compareOp .IsNot) (fun x y H Q=>y=.gi∧Q (.bl (!decide (x=.gi))) H):=by
 intro pins s σ H x y v u Q I rx ry h;obtain⟨rfl,q⟩:=h;cases ry;refine isnot_none_gen (bM I q ?_);cases x <;> first
  | (cases rx;rfl)
  | (obtain⟨t,rfl⟩:=rx;rfl)
theorem aM(b:Expr){op:CmpOp}(h:op≠.In:=by decide)(h2:op≠.NotIn:=by decide):behindInMarks op b=false:=by
 have e1:(op == CmpOp.In)=false:=by cases op <;> first | rfl | exact absurd rfl h
 have e2:(op == CmpOp.NotIn)=false:=by cases op <;> first | rfl | exact absurd rfl h2
 cases b <;> simp[behindInMarks,e1,e2]
theorem gz{op:CmpOp}{r:R2}(ho:vW X (compareOp op) r)(ha:PE X a ta)(hb:PE X b tb)(hm:behindInMarks op b=false):PE X (.Compare a [op] [b] pos) (T8 r ta tb):=by
 intro pins s σ H Q I h;exact wpAny_Compare1 (RX ha hb I h fun v u s2 x y H2 I2 rx ry q=>ho pins s2 σ H2 x y v u Q I2 rx ry q) hm
def Rg(t:TE):TT:=fun σ H Q=>t σ H fun x H'=>∃k,x=.bl k∧Q k H'
theorem aH{op:CmpOp}{r:R2}(ho:vW X (compareOp op) r)(ha:PE X a ta)(hb:PE X b tb)(hm:behindInMarks op b=false):PT X (.Compare a [op] [b] pos) (Rg (T8 r ta tb)):=by
 intro pins s σ H Q I h;refine wpAny_isTrue_Compare1 (cx (ha pins s σ H _ I h) fun v s1 ⟨x,H1,I1,r1,q1⟩=>cx (hb pins s1 σ H1 _ I1 q1) fun u s2 ⟨y,H2,I2,r2,q2⟩=>
  cx (ho pins s2 σ H2 x y v u _ I2 r1 r2 q2) fun c s3 ⟨z,H3,I3,r3,k,e,q3⟩=>?_) hm
 subst e;cases r3;exact wpAny_truthy_bool ⟨H3,I3,q3⟩
def Oe(r r':R2)(ta tb tc:TE):TE:=fun σ H Q=>ta σ H fun x H1=>tb σ H1 fun y H2=>r x y H2 fun z H3=>∃k,z=.bl k∧
 (if k=true then tc σ H3 fun w' H4=>r' y w' H4 Q else Q (.bl false) H3)
theorem Au{op op':CmpOp}{r r':R2}(ho:vW X (compareOp op) r)(ho':vW X (compareOp op') r')(ha:PE X a ta)(hb:PE X b tb)(hc:PE X c tc)
  (hm:lastMarks [op,op'] [b,c]=false:=by with_unfolding_all rfl):PE X (.Compare a [op,op'] [b,c] pos) (Oe r r' ta tb tc):=by
 intro pins s σ H Q I h;refine Compare_chain (cx (ha pins s σ H _ I h) fun v s1 ⟨x,H1,I1,r1,q1⟩=>chain_link (cx (hb pins s1 σ H1 _ I1 q1) fun u s2 ⟨y,H2,I2,r2,q2⟩=>
  cx (ho pins s2 σ H2 x y v u _ I2 r1 r2 q2) fun d s3 ⟨z,H3,I3,r3,k,e,q3⟩=>?_)) hm
 subst e;cases r3;refine wpAny_truthy_bool ?_;cases k with
 | false=>exact ite_ff ⟨.bl false,H3,I3,rfl,q3⟩
 | true=>exact ite_tt (chain_last (cx (hc pins s3 σ H3 _ I3 q3) fun w' s4 ⟨z',H4,I4,r4,q4⟩=>ho' pins s4 σ H4 y z' u w' Q I4 r2 r4 q4))
theorem Of{op op':CmpOp}{r r':R2}(ho:vW X (compareOp op) r)(ho':vW X (compareOp op') r')(ha:PE X a ta)(hb:PE X b tb)(hc:PE X c tc)
  (hm:lastMarks [op,op'] [b,c]=false:=by with_unfolding_all rfl):PT X (.Compare a [op,op'] [b,c] pos) (Rg (Oe r r' ta tb tc)):=by
 intro pins s σ H Q I h;refine isTrue_chain (cx (ha pins s σ H _ I h) fun v s1 ⟨x,H1,I1,r1,q1⟩=>test_link (cx (hb pins s1 σ H1 _ I1 q1) fun u s2 ⟨y,H2,I2,r2,q2⟩=>
  cx (ho pins s2 σ H2 x y v u _ I2 r1 r2 q2) fun d s3 ⟨z,H3,I3,r3,k,e,q3⟩=>?_)) hm
 subst e;cases r3;refine wpAny_truthy_bool ?_;cases k with
 | false=>
  obtain⟨k',e',q'⟩:=q3;cases e';exact ite_ff ⟨H3,I3,q'⟩
 | true=>
  refine ite_tt (test_last (cx (hc pins s3 σ H3 _ I3 q3) fun w' s4 ⟨z',H4,I4,r4,q4⟩=>cx (ho' pins s4 σ H4 y z' u w' _ I4 r2 r4 q4) fun d' s5 ⟨z2,H5,I5,r5,k2,e2,q5⟩=>?_));subst e2;cases r5;exact wpAny_truthy_bool ⟨H5,I5,q5⟩
def RY(K:W.Frag)(x:V)(H:Hp)(k:Bool):Prop:=
 match x with
 | .gi=>k=false
 | .bl b=>k=b
 | .int i=>k=(i != 0)
 | .str y=>y.length<=sizeLine∧k=((y.length:Int) != 0)
 | .F8 y=>y.size<=sizeLine∧k=((y.size:Int) != 0)
 | .ref p=>(∃xs,aP K H p xs∧k=!xs.isEmpty)∨(∃xs,jP K H p xs∧k=!xs.isEmpty)∨∃kvs,H p=some (.dK kvs)∧k=!kvs.isEmpty
 | _=>False
theorem IK{κ:Type}{kvs:List (κ×V)}{vs:List (κ×Value)}(r:KV kvs vs):(!vs.isEmpty)=!kvs.isEmpty:=by
 cases r <;> rfl
theorem Av{xs:List V}{its:List Value}(r:Vals xs its):(!its.toArray.isEmpty)=!xs.isEmpty:=by
 cases r <;> simp
theorem wq:(sizeLine:Nat)<2 ^ 63:=by rw[sizeLine_eq];decide
theorem RZ:Uy X (fun x H Q=>∃k,RY X.K x H k∧Q k H):=by
 intro pins s σ H x v Q I rx h;obtain⟨k,e,q⟩:=h;have hl:=wq;have hs:sizeLine=16777216:=sizeLine_eq;cases x with
 | gi=>
  cases rx;have e':k=false:=e
  subst e';exact truthy_none ⟨H,I,q⟩
 | bl b=>
  cases rx;have e':k=b:=e
  subst e';exact wpAny_truthy_bool ⟨H,I,q⟩
 | int i=>
  obtain⟨t,rfl⟩:=rx;have e':k=(i != 0):=e;subst e';exact PySem.P.truthy_int ⟨H,I,q⟩
 | str y=>
  obtain⟨t,rfl⟩:=rx;obtain⟨hy,e'⟩:y.length<=sizeLine∧k=((y.length:Int) != 0):=e;subst e';exact PySem.P.truthy_str (by lia) ⟨H,I.tok _,q⟩
 | F8 y=>
  obtain⟨t,rfl⟩:=rx;obtain⟨hy,e'⟩:y.size<=sizeLine∧k=((y.size:Int) != 0):=e;subst e';exact W.truthy_bytes (by lia) ⟨H,I.tok _,q⟩
 | ref p=>
  cases rx;have e':(∃xs,aP X.K H p xs∧k=!xs.isEmpty)∨(∃xs,jP X.K H p xs∧k=!xs.isEmpty)∨∃kvs,H p=some (.dK kvs)∧k=!kvs.isEmpty:=e
  rcases e' with ⟨xs,hx,e'⟩ | ⟨xs,hx,e'⟩ | ⟨kvs,hx,e'⟩
  ·subst e';obtain⟨its,r,pl,hz⟩:=I.list hx;have hlen:=r.length;exact wpAny_truthy_list pl.isList (by simp only[List.size_toArray];lia) ⟨H,I.tok _,by rw[Av r];exact q⟩
  ·subst e';obtain⟨its,r,pl,hz⟩:=I.tuple hx;have hlen:=r.length;exact truthy_tuple pl (by simp only[List.size_toArray];lia) ⟨H,I.tok _,by rw[Av r];exact q⟩
  ·subst e';obtain⟨hz,hS,vs,r,m⟩:kvs.length<=sizeLine∧(p == sysModules)=false∧∃vs,KV kvs vs∧s.heap.DictOf (cO X.prog X.w) p vs:=I.ck p _ hx;have hlen:kvs.length=vs.length:=Paired.length r;exact wpAny_truthy_dict hS m (by lia) ⟨H,I.tok _,by rw[IK r];exact q⟩
 | _=>exact(show False from e).elim
theorem Gx(ha:PE X a ta)(he:∀whole,isTrue a X.env whole=(do let v <-whole;standAt a.pos;holding [v] (truthy v))) :
  PT X a (fun σ H Q=>ta σ H fun x H'=>∃k,RY X.K x H' k∧Q k H'):=by
 intro pins s σ H Q I h;exact isTrue_plain (cx (ha pins s σ H _ I h) fun v s1 ⟨x,H1,I1,r1,q1⟩=>RZ pins s1 σ H1 x v Q I1 r1 q1) (he _)
theorem vals1{x:V}{us:List Value}(r:Vals [x] us):∃u,us=[u]∧RelV x u:=by
 cases r with
 | cons r1 r2=>cases r2;exact⟨_,rfl,r1⟩
theorem vals2{x y:V}{us:List Value}(r:Vals [x,y] us):∃u w',us=[u,w']∧RelV x u∧RelV y w':=by
 cases r with
 | cons r1 r2=>
  cases r2 with
  | cons r3 r4=>cases r4;exact⟨_,_,rfl,r1,r3⟩
theorem LN(hc:X.calm=true):nj X (.builtin "max") (fun xs H Q=>∃i j,xs=[.int i,.int j]∧Q (.int (if j > i then j else i)) H):=by
 intro pins s σ H xs us Q I r h;obtain⟨i,j,rfl,q⟩:=h;obtain⟨u,w',rfl,⟨t,rfl⟩,⟨t',rfl⟩⟩:=vals2 r;refine max_two_ints (I.ok.hd hc) fun h' tk k=>⟨_,H,I.kept k,?_,q⟩
 by_cases hj:j > i
 ·rw[if_pos hj,if_pos hj];exact⟨_,rfl⟩
 ·rw[if_neg hj,if_neg hj];exact⟨_,rfl⟩
end
end L2
namespace L2
open PySem PySem.Spec PyProof.Rows
structure IL(h:Heap)(x dx C:Addr)(mA:Str->Option Value):Prop where
 obj:h.get? x=some (W.instObj C dx)
 ns:h.Ns1 dx mA
 ne:dx≠x
theorem LO{h:Heap}{dx:Addr}{mA:Str->Option Value}(n:h.Ns1 dx mA):∃od,h.get? dx=some od∧∀name,W.lookIn name od=some (mA name):=by
 obtain⟨o,es,ep,ho,hd,hk,_,hm⟩:=n;refine⟨o,ho,fun name=>?_⟩;have e:=hm name;unfold nsFind findBy at e;rw[<-Array.find?_toList]at e;unfold W.lookIn;rw[hd]
 dsimp only
 split
 ·rename_i y q;rw[q]at e;exact congrArg some e
 ·rename_i q;rw[q]at e;have a:es.toList.any (·.refKey)=false:=by
   rw[List.any_eq_false];intro y hy;obtain⟨z,t,hkey⟩:=hk y (Array.mem_toList_iff.mp hy);simp[DictEntry.refKey,hkey]
  have a':¬es.toList.any (·.refKey)=true:=by rw[a];exact Bool.false_ne_true
  rw[if_neg a'];exact congrArg some e
theorem IL.look{h:Heap}{x dx C:Addr}{mA:Str->Option Value}(I:IL h x dx C mA):∃od,W.InstAt h x (W.instObj C dx) C (some od)∧∀name,W.lookIn name od=some (mA name):=
 let ⟨od,ho,hl⟩:=LO I.ns
 ⟨od,⟨I.obj,rfl,rfl,ho⟩,hl⟩
section
variable{prog:Program}{w:World}{A:Around}{E:Value->Shared->Prop}{s:Shared}{K:W.Frag}{x dx C f:Addr}{mA:Str->Option Value}{name:Str}{v:Value}
theorem get_map{expr:Bool}{Q:Value->Shared->Prop}(X:K.In s.heap)(I:IL s.heap x dx C mA)(hg:W.plainGet K C name=true)(hh:W.hasDictIn K C=true)
  (ha:W.findIn K (.ref C) name=some none) (hv:mA name=some v) (hv':W.handedIn v=true) (h:Q v { s with toks:=s.toks+1 }) :
  wpAny (model prog w) A (getAttr (.ref x) name expr) Q E s:=by
 obtain⟨od,J,hl⟩:=I.look;exact W.get_value X J (W.plainGet_of hg).1 (W.findObj_own hh ha rfl (by rw[hl,hv])) hv' h
theorem Og{pl:Sem Bool}{Q:Value×List Value->Shared->Prop}(X:K.In s.heap)(I:IL s.heap x dx C mA)(hg:W.plainGet K C name=true)
  (hf:W.findIn K (.ref C) name=some (some (.ref f))) (ht:W.isFn K (.ref f)=true) (hv:mA name=none) (h:Q (.ref f,[.ref x]) s) :
  wpAny (model prog w) A (getMethod (.ref x) name pl) Q E s:=by
 obtain⟨od,J,hl⟩:=I.look;exact W.method_fn X J (W.plainGet_of hg).1 (W.plainGet_of hg).2 hf (beq_iff_eq.mp ht) (by show(W.lookIn name od).map (·.isSome)=some false;rw[hl,hv];rfl) h
theorem Qs{ns:List Str}{Q:Unit->Shared->Prop}(X:K.In s.heap)(I:IL s.heap x dx C mA)
  (hs:W.findIn K (.ref C) "__setattr__" = some (some (.builtin "object.__setattr__"))) (hp:W.plainOver K C=true) (ht:W.takerIn K C name=some none) (hh:W.hasDictIn K C=true)
  (hw:PySem.Within mA ns) (hsz:ns.length<=sizeLine)
  (h:∀h',IL h' x dx C (fun y=>if y=name then some v else mA y)->Heap.SameBut dx s.heap h'->Q () { s with heap:=h',toks:=s.toks+2 }) :
  wpAny (model prog w) A (setAttr (.ref x) name v) Q E s:=by
 obtain⟨od,J,hl⟩:=I.look;refine W.set_plain X J hs (W.osa_open (s:={ s with toks:=s.toks+1 }) (r:=none) X J hp ht fun b=>?_);obtain⟨cd,hc,hd'⟩:=W.any_some hh;have hx:s.heap.get? x=some ⟨.ref C,some dx,.plain,#[]⟩:=I.obj;refine wpAny_bind (wpAny_pure (wpAny_bind (wpAny_bind (wpAny_loadPart hx (wpAny_bind (W.Looks.here (s:={ s with toks:=s.toks+1 }) (W.looks_clsIn X hc) ?_))))));rw[hd'];refine wpAny_pure (a:=some dx) (wpAny_bind (wpAny_pure (wpAny_bind ?_)));refine wpAny_nsSet1 (s:={ s with toks:=s.toks+1 }) I.ns fun h' hn2 hs2=>?_
 obtain⟨oD,esD,epD,hoD,hdD,hcD⟩:=hn2.count (PySem.Within.cons name v hw);refine wpAny_bind (wpAny_lookBehind hoD (by rw[hdD];exact pastItsLine_dict (Nat.le_trans hcD (by rw[List.length_cons];lia))) ?_);exact wpAny_pure (h _ ⟨(hs2.2 _ (Ne.symm I.ne)).trans I.obj,hn2,I.ne⟩ hs2)
theorem Oh{R:Result->Shared->Prop}{vs:List Value}{kw:List (Str×Value)}(X:K.In s.heap)(hm:W.makesIn K C=true)
  (hi:W.findIn K (.ref C) "__init__" = some (some (.ref f))) (hf:W.typeIn K (.ref f)=some (.type "function"))
  (h:codeAny (model prog w) (A.under (.builtin "type.__call__" ⟨.ref C::vs,kw⟩)) (.call (.ref f) ⟨.ref (s.heap.objs.size+1)::vs,kw⟩) (W.InitBack (s.heap.objs.size+1) R)
   { s with heap:=(s.heap.push W.emptyDict).push (W.instObj C s.heap.objs.size) }) :
  codeAny (model prog w) A (.call (.ref C) ⟨vs,kw⟩) R s:=by
 obtain⟨hh,g,d,t,os⟩:=s;exact W.make_core (W.makes_of X hm) (W.looks_findIn X hi) (fun self=>W.bind_fn X self hf) (.inl rfl) h
end
def mJ(f:Str)(v:V):List (Str×V)->List (Str×V)
 | []=>[(f,v)]
 | (g,x)::r=>if g=f then(g,v)::r else(g,x)::mJ f v r
theorem yj(f g:Str)(v:V):∀fs:List (Str×V),(mJ f v fs).lookup g=if g=f then some v else fs.lookup g
 | []=>by
  show List.lookup g [(f,v)]=_;by_cases h:g=f
  ·have hb:(g == f)=true:=beq_iff_eq.mpr h;simp only[List.lookup,hb,if_pos h]
  ·have hb:(g == f)=false:=beq_eq_false_iff_ne.mpr h;simp only[List.lookup,hb,if_neg h]
 | (k,x)::r=>by
  have ih:=yj f g v r;rw[show mJ f v ((k,x)::r)=(if k=f then(k,v)::r else(k,x)::mJ f v r) from rfl];by_cases hk:k=f
  ·rw[if_pos hk];by_cases h:g=k
   ·have hb:(g == k)=true:=beq_iff_eq.mpr h;simp only[List.lookup,hb,if_pos (h.trans hk)]
   ·have hb:(g == k)=false:=beq_eq_false_iff_ne.mpr h;simp only[List.lookup,hb,if_neg (fun e:g=f=>h (e.trans hk.symm))]
  ·rw[if_neg hk];by_cases h:g=k
   ·have hb:(g == k)=true:=beq_iff_eq.mpr h;simp only[List.lookup,hb,if_neg (fun e:g=f=>hk (h.symm.trans e))]
   ·have hb:(g == k)=false:=beq_eq_false_iff_ne.mpr h;simp only[List.lookup,hb];exact ih
theorem wu(f:Str)(v:V):∀fs:List (Str×V),f∈(mJ f v fs).map (·.1)∧∀g,g∈fs.map (·.1)->g∈(mJ f v fs).map (·.1)
 | []=>⟨by simp[mJ],fun g h=>by simp at h⟩
 | (k,x)::r=>by
  obtain⟨i1,i2⟩:=wu f v r;rw[show mJ f v ((k,x)::r)=(if k=f then(k,v)::r else(k,x)::mJ f v r) from rfl];by_cases hk:k=f
  ·rw[if_pos hk];subst hk;exact⟨by simp,fun g h=>by simpa using h⟩
  ·rw[if_neg hk];refine⟨?_,fun g h=>?_⟩
   ·rw[List.map_cons];exact List.mem_cons_of_mem _ i1
   ·rw[List.map_cons]at h ⊢;rcases List.mem_cons.mp h with e | e
    ·exact List.mem_cons.mpr (.inl e)
    ·exact List.mem_cons_of_mem _ (i2 g e)
theorem yk(f:Str)(v:V):∀fs:List (Str×V),(mJ f v fs).length<=fs.length+1
 | []=>by simp[mJ]
 | (k,x)::r=>by
  have ih:=yk f v r;rw[show mJ f v ((k,x)::r)=(if k=f then(k,v)::r else(k,x)::mJ f v r) from rfl];by_cases hk:k=f
  ·rw[if_pos hk,List.length_cons,List.length_cons];lia
  ·rw[if_neg hk,List.length_cons,List.length_cons];lia
theorem pN.some_of{v:V}{o:Option Value}(r:pN (some v) o):∃u,o=some u∧RelV v u:=by
 cases o with
 | none=>exact(show False from r).elim
 | some u=>exact⟨u,rfl,r⟩
theorem pN.none_of{o:Option Value}(r:pN none o):o=none:=by
 cases o with
 | none=>rfl
 | some u=>exact(show False from r).elim
theorem LP{v:V}{u:Value}(r:RelV v u):W.handedIn u=true:=by
 cases v with
 | gi=>cases (show u=Value.none from r);rfl
 | bl b=>cases (show u=Value.bool b from r);rfl
 | int i=>obtain⟨t,e⟩:=(show ∃t,u=Value.int i t from r);cases e;rfl
 | str x=>obtain⟨t,e⟩:=(show ∃t,u=Value.str x t from r);cases e;rfl
 | F8 b=>obtain⟨t,e⟩:=(show ∃t,u=Value.bytes b t from r);cases e;rfl
 | RM b=>obtain⟨t,e⟩:=(show ∃t,u=Value.float b t from r);cases e;rfl
 | ref a=>cases (show u=Value.ref a from r);rfl
 | ty n=>cases (show u=Value.type n from r);rfl
section
variable{P:Program}{w:World}{H H':Hp}{h h':Heap}{a C dx:Addr}{fs fs':List (Str×V)}
theorem zK(ck:p5 P w H h)(e:H a=some (.ins C dx fs)):∃mA,IL h a dx C mA∧(∀f,pN (fs.lookup f) (mA f))∧PySem.Within mA (fs.map (·.1))∧fs.length<=1000∧H dx=some (.own a):=by
 obtain⟨d,z,ne,ob,mA,n,r,q⟩:=(show cT P w H h a (.ins C dx fs) from ck a _ e);exact⟨mA,⟨ob,n,ne⟩,r,q,z,d⟩
end
structure KW(K:W.Frag)(C:Addr):Prop where
 pg:W.plainGet K C Str.empty=true
 hd:W.hasDictIn K C=true
 po:W.plainOver K C=true
 sa:W.findIn K (.ref C) "__setattr__" = some (some (.builtin "object.__setattr__"))
theorem KW.get{K:W.Frag}{C:Addr}(c:KW K C)(f:Str):W.plainGet K C f=true:=c.pg
def gH(K:W.Frag)(C:Addr)(f:Str):Prop:=W.findIn K (.ref C) f=some none
theorem gH.S_{K:W.Frag}{C:Addr}{f:Str}(n:gH K C f):W.takerIn K C f=some none:=by
 unfold W.takerIn;rw[show W.findIn K (.ref C) f=some none from n];rfl
structure Meth(K:W.Frag)(C:Addr)(m:Str)(f:Addr):Prop where
 at_:W.findIn K (.ref C) m=some (some (.ref f))
 fn:W.isFn K (.ref f)=true
 kp:W.keepIn K (.ref f)=true
section
variable{X:Cx}{pins:List (Addr×Obj)}{σ:St}{H:Hp}{s:Shared}{a C dx:Addr}{fs:List (Str×V)}{f:Str}{v:V}{A:Around}{E:Value->Shared->Prop}
theorem Aw{b:Bool}{Q:Value->Shared->Prop}(I:Inv X pins σ H s)(e:H a=some (.ins C dx fs))(c:KW X.K C)(n:gH X.K C f)(l:fs.lookup f=some v)
  (h:∀u s',Inv X pins σ H s'->RelV v u->Q u s'):wpAny (model X.prog X.w) A (getAttr (.ref a) f b) Q E s:=by
 obtain⟨mA,O,r,_,_,_⟩:=zK I.ck e;obtain⟨u,hu,ru⟩:=pN.some_of (v:=v) (o:=mA f) (by rw[<-l];exact r f);exact get_map I.yg O (c.get f) c.hd n hu (LP ru) (h u _ (I.tok _) ru)
theorem Ax{m:Str}{g:Addr}{pl:Sem Bool}{Q:Value×List Value->Shared->Prop}(I:Inv X pins σ H s)(e:H a=some (.ins C dx fs))(c:KW X.K C)(k:Meth X.K C m g)(l:fs.lookup m=none)
  (h:Q (.ref g,[.ref a]) s):wpAny (model X.prog X.w) A (getMethod (.ref a) m pl) Q E s:=by
 obtain⟨mA,O,r,_,_,_⟩:=zK I.ck e;have hn:mA m=none:=pN.none_of (by rw[<-l];exact r m);exact Og I.yg O (c.get m) k.at_ k.fn hn h
theorem Ay{y:V}{u:Value}{Q:Unit->Shared->Prop}(I:Inv X pins σ H s)(e:H a=some (.ins C dx fs))(c:KW X.K C)(n:gH X.K C f)(hl:fs.length<1000)(ry:RelV y u)
  (h:∀s',Inv X pins σ (upd H a (.ins C dx (mJ f y fs))) s'->Q () s'):wpAny (model X.prog X.w) A (setAttr (.ref a) f u) Q E s:=by
 obtain⟨mA,O,r,wi,_,ho⟩:=zK I.ck e;have hz:(fs.map (·.1)).length<=sizeLine:=by rw[List.length_map,sizeLine_eq];lia
 refine Qs I.yg O c.sa c.po n.S_ c.hd wi hz fun h' O' sb=>h _ ?_
 have hd:∃o,h'.get? dx=some o:=let ⟨o,_,_,e',_⟩:=O'.ns;⟨o,e'⟩
 refine I.write (x:=a) (e:=dx) (by rw[e];exact True.intro) (.inr ho) (fun b q hb z=>(sb.2 b hb).trans z) hd ?_;refine⟨by rw[ak O.ne];exact ho,?_,O.ne,O'.obj,_,O'.ns,fun g=>?_,fun g hg=>?_⟩
 ·have:=yk f y fs;lia
 ·show pN ((mJ f y fs).lookup g) (if g=f then some u else mA g);rw[yj];by_cases q:g=f
  ·rw[if_pos q,if_pos q];exact ry
  ·rw[if_neg q,if_neg q];exact r g
 ·by_cases q:g=f
  ·rw[q];exact(wu f y fs).1
  ·refine(wu f y fs).2 g (wi g fun z=>hg ?_)
   show(if g=f then some u else mA g)=none
   rw[if_neg q];exact z
theorem Inv.made(I:Inv X pins σ H s):Inv X pins σ (upd (upd H s.heap.objs.size (.own (s.heap.objs.size+1))) (s.heap.objs.size+1) (.ins C s.heap.objs.size []))
  { s with heap:=(s.heap.push W.emptyDict).push (W.instObj C s.heap.objs.size) }:=by
 have e1:(s.heap.push W.emptyDict).get? s.heap.objs.size=some W.emptyDict:=Heap.get?_push_size s.heap rfl;have e2:((s.heap.push W.emptyDict).push (W.instObj C s.heap.objs.size)).get? (s.heap.objs.size+1)=some (W.instObj C s.heap.objs.size):=by
  have:=Heap.get?_push_size (s.heap.push W.emptyDict) (o:=W.instObj C s.heap.objs.size) rfl
  rwa [Heap.size_push]at this
 have e3:(s.heap.push W.emptyDict).Ns s.heap.objs.size (fun _=>none):=⟨W.emptyDict,#[],_,e1,rfl,(fun e he=>absurd he (by simp)),fun _=>rfl⟩;have I1:=I.laid (a:=s.heap.objs.size) (o:=.own (s.heap.objs.size+1)) (h':=s.heap.push W.emptyDict) (t':=s.toks) (fun b u q=>Heap.get?_push_of_some _ q) (Nat.le_refl _) ⟨_,e1⟩;refine I1.laid (a:=s.heap.objs.size+1) (o:=.ins C s.heap.objs.size []) (t':=s.toks) (fun b u q=>Heap.get?_push_of_some _ q) (Nat.le_of_eq (Heap.size_push _ _)) ?_;have ne:s.heap.objs.size≠s.heap.objs.size+1:=Nat.ne_of_lt (Nat.lt_succ_self _);refine⟨by rw[ak ne,ah],Nat.zero_le _,ne,e2,fun _=>none,(Heap.Ns1.of_empty e3).at fun o q=>Heap.get?_push_of_some _ q,fun _=>True.intro,fun y hy=>absurd rfl hy⟩
theorem Qt{prog:Program}{w:World}{env:Env}{e:Expr}{f:Str}{pos:Pos}{s:Shared}{Q:Value->Shared->Prop}(hb:attributeBase e f env (eval e env)=eval e env)
  (h:wpAny (model prog w) A (eval e env) (fun o s₁=>wpAny (model prog w) A (getAttr o f true) Q E s₁) E s):wpAny (model prog w) A (eval (.Attribute e f pos) env) Q E s:=
 Attribute_any_ h (by rw[arm_eval_Attribute,hb])
end
def Ta(K:W.Frag)(ta:TE)(f:Str):TE:=fun σ H Q=>ta σ H fun x H1=>∃a C dx fs v,x=.ref a∧H1 a=some (.ins C dx fs)∧KW K C∧gH K C f∧fs.lookup f=some v∧Q v H1
def UA(K:W.Frag)(ta tv:TE)(f:Str):TS:=fun D σ H=>tv σ H fun y H1=>ta σ H1 fun x H2=>∃a C dx fs,x=.ref a∧H2 a=some (.ins C dx fs)∧KW K C∧gH K C f∧fs.length<1000∧
 D.nx σ (upd H2 a (.ins C dx (mJ f y fs)))
def Tb(X:Cx)(op:Operator)(rd:V->V->Hp->VK->Prop):Prop:=
 ∀(pins:List (Addr×Obj)) (s:Shared) (σ:St) (H:Hp) (x y:V) (u v:Value) (Q:VK),Inv X pins σ H s->RelV x u->RelV y v->rd x y H Q->wpAny (model X.prog X.w) X.A (inplaceOp op u v) (EP X pins σ Q) X.xe s
def Qu(K:W.Frag)(ta tv:TE)(rd:V->V->Hp->VK->Prop)(f:Str):TS:=fun D σ H=>ta σ H fun x H1=>∃a C dx fs v,x=.ref a∧H1 a=some (.ins C dx fs)∧KW K C∧gH K C f∧fs.lookup f=some v∧
 tv σ H1 fun y H2=>rd v y H2 fun z H3=>∃dx' fs',H3 a=some (.ins C dx' fs')∧fs'.length<1000∧D.nx σ (upd H3 a (.ins C dx' (mJ f z fs')))
section
variable{X:Cx}{o e value:Expr}{f:Str}{pos pos' tpos:Pos}{ta tv:TE}
theorem bC(he:PE X e ta)(hb:attributeBase e f X.env (eval e X.env)=eval e X.env):PE X (.Attribute e f pos) (Ta X.K ta f):=by
 intro pins s σ H Q I h;refine Qt hb (cx (he pins s σ H _ I h) fun u s1 ⟨x,H1,I1,rx,a,C,dx,fs,v,ex,ea,c,n,l,q⟩=>?_);subst ex;obtain rfl:u=Value.ref a:=rx;exact Aw I1 ea c n l fun u' s2 I2 ru=>⟨v,H1,I2,ru,q⟩
theorem fj(ha:PE X o ta)(hv:PE X value tv)(hs:swapsWith value (some (.Attribute o f pos')) pos.line X.env=pure false):PS X (.Assign [.Attribute o f pos'] value pos) (UA X.K ta tv f):=by
 intro pins s σ H D I h;refine plainObj_wpAny_Assign_Attribute (cx (hv pins s σ H _ I h) fun u s1 ⟨y,H1,I1,ry,q⟩=>cx (ha pins s1 σ H1 _ I1 q) fun ov s2 ⟨x,H2,I2,rx,a,C,dx,fs,ex,ea,c,n,l,q2⟩=>?_) hs;subst ex;obtain rfl:ov=Value.ref a:=rx;exact Ay I2 ea c n l ry fun s3 I3=>⟨σ,_,I3,q2⟩
theorem D5{op:Operator}{rd:V->V->Hp->VK->Prop}(ha:PE X o ta)(hv:PE X value tv)(hop:Tb X op rd):PS X (.AugAssign (.Attribute o f tpos) op value pos) (Qu X.K ta tv rd f):=by
 intro pins s σ H D I h;refine wpAny_AugAssign_AttributeAny (cx (ha pins s σ H _ I h) fun ov s1 ⟨x,H1,I1,rx,a,C,dx,fs,v,ex,ea,c,n,l,q⟩=>?_);subst ex;obtain rfl:ov=Value.ref a:=rx;refine Aw I1 ea c n l fun u s2 I2 ru=>cx (hv pins s2 σ H1 _ I2 q) fun w3 s3 ⟨y,H2,I3,ry,q3⟩=>cx (hop pins s3 σ H2 v y u w3 _ I3 ru ry q3) fun w4 s4 ⟨z,H3,I4,rz,dx',fs',ea',l',q4⟩=>?_
 exact Ay I4 ea' c n l' rz fun s5 I5=>⟨σ,_,I5,q4⟩
def UB:V->V->Hp->VK->Prop:=fun x y H Q=>∃i j,x=.int i∧y=.int j∧Q (.int (i+j)) H
theorem Oi:Tb X .Add UB:=by
 rintro pins s σ H x y u v Q I rx ry ⟨i,j,rfl,rfl,q⟩
 obtain⟨t,rfl⟩:=(show ∃t,u=Value.int i t from rx);obtain⟨t',rfl⟩:=(show ∃t',v=Value.int j t' from ry);exact PyProof.Rows.iadd_int ⟨.int (i+j),H,I.tok _,⟨_,rfl⟩,q⟩
end
section
variable{X:Cx}{pins:List (Addr×Obj)}{σ:St}{H:Hp}{s:Shared}{A:Around}{E:Value->Shared->Prop}{Q:Value->Shared->Prop}{c:Value}{b:Bool}
inductive tD(K:W.Frag)(H:Hp):V->Value->Prop where
 | gi:tD K H .gi (.type "NoneType")
 | bl (x:Bool):tD K H (.bl x) (.type "bool")
 | int (i:Int):tD K H (.int i) (.type "int")
 | str (x:Str):tD K H (.str x) (.type "str")
 | RM (x:UInt64):tD K H (.RM x) (.type "float")
 | lst {a:Addr} {xs:List V} (e:H a=some (.lst xs)):tD K H (.ref a) (.type "list")
 | ye {a:Addr} {o:Obj} {xs:List V} (e:H a=some (.ye o (.lst xs))):tD K H (.ref a) (.type "list")
 | tup {a:Addr} {xs:List V} (e:H a=some (.tup xs)):tD K H (.ref a) (.type "tuple")
 | dK {a:Addr} {kvs:List (Key×V)} (e:H a=some (.dK kvs)):tD K H (.ref a) (.type "dict")
 | dT {a:Addr} {kvs:List (List Key×V)} (e:H a=some (.dT kvs)):tD K H (.ref a) (.type "dict")
 | ins {a C dx:Addr} {fs:List (Str×V)} (e:H a=some (.ins C dx fs)) (cl:KW K C) (ha:W.findIn K (.ref C) "__class__" = some (some (.builtin "object.__class__")))
   (hn:W.specialIn K (.builtin "object.__class__") "__get__" = some (some (.builtin "getset_descriptor.__get__"))) (htk:W.takesIn K (.builtin "object.__class__")=some true)
   (hm:W.mroIn K C (.type "object")=some true):tD K H (.ref a) (.ref C)
theorem LQ{x:V}{u t:Value}(I:Inv X pins σ H s)(rx:RelV x u)(ty:tD X.K H x t)(e:W.kitOne X.K t c=some b)(h:∀tk,Q (.bool b) { s with toks:=tk }) :
  wpAny (model X.prog X.w) A (call (.builtin "isinstance") [u,c]) Q E s:=by
 cases ty with
 | gi=>cases (show u=Value.none from rx);exact W.kia_one W.kitx_none I.yg True.intro e (fun z=>nomatch z) h
 | bl y=>cases (show u=Value.bool y from rx);exact W.kia_one W.kitx_bool I.yg True.intro e (fun z=>nomatch z) h
 | int i=>obtain⟨t,q⟩:=(show ∃t,u=Value.int i t from rx);cases q;exact W.kia_one W.kitx_int I.yg True.intro e (fun z=>nomatch z) h
 | str y=>obtain⟨t,q⟩:=(show ∃t,u=Value.str y t from rx);cases q;exact W.kia_one W.kitx_str I.yg True.intro e (fun z=>nomatch z) h
 | RM y=>obtain⟨t,q⟩:=(show ∃t,u=Value.float y t from rx);cases q;exact W.kia_one W.kitx_float I.yg True.intro e (fun z=>nomatch z) h
 | @lst a xs ea=>
  cases (show u=Value.ref a from rx)
  obtain⟨_,_,n,_,h1⟩:=(show cT X.prog X.w H s.heap a (.lst xs) from I.ck a _ ea);exact W.kia_one W.kitx_list I.yg ⟨_,h1,rfl⟩ e (fun z=>nomatch z) h
 | @ye a ob xs ea=>
  cases (show u=Value.ref a from rx)
  obtain⟨_,_,_,n,_,h1⟩:=(show cT X.prog X.w H s.heap a (.ye ob (.lst xs)) from I.ck a _ ea);exact W.kia_one W.kitx_list I.yg ⟨_,h1,rfl⟩ e (fun z=>nomatch z) h
 | @tup a xs ea=>
  cases (show u=Value.ref a from rx)
  obtain⟨_,_,_,p⟩:=(show cT X.prog X.w H s.heap a (.tup xs) from I.ck a _ ea);obtain⟨o,h1,h2,_⟩:=p;exact W.kia_one W.kitx_tuple I.yg ⟨o,h1,h2⟩ e (fun z=>nomatch z) h
 | @dK a kvs ea=>
  cases (show u=Value.ref a from rx)
  obtain⟨_,_,vs,_,p⟩:=(show cT X.prog X.w H s.heap a (.dK kvs) from I.ck a _ ea);obtain⟨o,es,ep,h1,h2,_⟩:=p;exact W.kia_one W.kitx_dict I.yg ⟨o,h1,h2.1⟩ e (fun z=>nomatch z) h
 | @dT a kvs ea=>
  cases (show u=Value.ref a from rx)
  obtain⟨_,_,xs,_,o,es,ep,h1,h2,_⟩:=(show cT X.prog X.w H s.heap a (.dT kvs) from I.ck a _ ea);exact W.kia_one W.kitx_dict I.yg ⟨o,h1,h2.1⟩ e (fun z=>nomatch z) h
 | @ins a C dx fs ea cl ha hn htk hm=>
  cases (show u=Value.ref a from rx)
  obtain⟨mA,O,_⟩:=zK I.ck ea;obtain⟨od,J,_⟩:=O.look;exact W.kia_one (W.kitx_own (cl.get _) cl.hd ha hn htk hm) I.yg J e (fun z=>nomatch z) h
end
end L2
namespace L2
open PySem PySem.Spec PyProof.Rows
structure jV(k:Nat)(A:Around):Prop where
 hd:A.handled=none
 dp:A.depth+3 * k+5<recursionLimit
 un:A.units+16 * k+200<cLine
theorem jV.mono{j k:Nat}{A:Around}(r:jV k A)(h:j<=k):jV j A:=⟨r.hd,by have:=r.dp;lia,by have:=r.un;lia⟩
theorem jV.deeper{k:Nat}{A:Around}(r:jV (k+1) A)(env:Env):jV k (A.deeper env):=
 ⟨r.hd,by have:=r.dp;show A.depth+1+3 * k+5<_;lia,by have:=r.un;show A.units+3+16 * k+200<_;lia⟩
theorem IM{A:Around}{C:Addr}{us:List Value}{kw:List (Str×Value)}:(A.under (.builtin "type.__call__" ⟨.ref C::us,kw⟩)).depth=A.depth+1:=by
 first | rfl | simp[Around.under,Code.weight,Code.isCreation,Code.isGuard,Code.isCaller,Code.frames,Code.isFrame,guardIds]
theorem IP{A:Around}{C:Addr}{us:List Value}{kw:List (Str×Value)}:(A.under (.builtin "type.__call__" ⟨.ref C::us,kw⟩)).units=A.units+1:=by
 first | rfl | simp[Around.under,Code.cUnits,Code.frames,Code.isFrame]
theorem jV.make{k:Nat}{A:Around}(r:jV (k+1) A)(C:Addr)(us:List Value)(kw:List (Str×Value)):jV k (A.under (.builtin "type.__call__" ⟨.ref C::us,kw⟩)):=
 ⟨r.hd,by have:=r.dp;rw[IM];lia,by have:=r.un;rw[IP];lia⟩
theorem jV.depth{k:Nat}{A:Around}(r:jV k A):A.depth<recursionLimit:=by have:=r.dp;lia
theorem jV.units{k:Nat}{A:Around}(r:jV k A):A.units+64<cLine:=by have:=r.un;lia
def Qv:TA:=fun _ H Q=>Q [] H
def Tc(ta:TE)(tr:TA):TA:=fun σ H Q=>ta σ H fun x H1=>tr σ H1 fun xs H2=>Q (x::xs) H2
section
variable{X:Cx}{e:Expr}{es:List Expr}{te:TE}{t:TA}{pos:Pos}
theorem af:PA X [] Qv:=fun _ _ _ _ H Q I h=>Calls.spliced_nil ⟨[],H,I,.nil,h⟩
theorem aa(ha:PE X e te)(hr:PA X es t)(hs:starEach (e::es) X.env=(false,eval e X.env)::starEach es X.env:=by rfl):PA X (e::es) (Tc te t):=by
 intro pos pins s σ H Q I h;rw[hs];show wpAny _ _ (spliced ((false,eval e X.env)::backTo pos (starEach es X.env))) _ _ s;refine Calls.spliced_cons (cx (ha pins s σ H _ I h) fun u s1 ⟨x,H1,I1,r1,q1⟩=>?_);exact cx (hr pos pins s1 σ H1 _ I1 q1) fun us s2 ⟨xs,H2,I2,r2,q2⟩=>⟨x::xs,H2,I2,.cons r1 r2,q2⟩
def UC(t:TA):TE:=fun σ H Q=>t σ H fun xs H1=>xs.length<=sizeLine∧∀p,H1 p=none->Q (.ref p) (upd H1 p (.tup xs))
def Td(t:TA):TE:=fun σ H Q=>t σ H fun xs H1=>xs.length<=sizeLine∧∀p,H1 p=none->Q (.ref p) (upd H1 p (.lst xs))
theorem iJ{x1}(h:PA X es t):PE X (.Tuple es x1 pos) (UC t):=by
 intro pins s σ H Q I hq;refine wpAny_Tuple_spliced (cx (h pos pins s σ H _ I hq) fun us s1 ⟨xs,H1,I1,r,z,q⟩=>⟨by rw[<-r.length];exact z,?_⟩);have hf:H1 s1.heap.objs.size=none:=I1.ck.fresh (Nat.le_refl _);refine⟨.ref s1.heap.objs.size,upd H1 s1.heap.objs.size (.tup xs),I1.laid (t':=s1.toks) (fun b u e=>Heap.get?_push_of_some _ e) (Nat.le_refl _) ?_,rfl,q _ hf⟩;exact⟨z,us,r,⟨_,Heap.get?_push_size _ rfl,rfl,_,rfl⟩⟩
theorem bE(h:PA X es t):PE X (.List es pos) (Td t):=by
 intro pins s σ H Q I hq;refine wpAny_List_spliced (cx (h pos pins s σ H _ I hq) fun us s1 ⟨xs,H1,I1,r,z,q⟩=>⟨by rw[<-r.length];exact z,?_⟩);have hf:H1 s1.heap.objs.size=none:=I1.ck.fresh (Nat.le_refl _);refine⟨.ref s1.heap.objs.size,upd H1 s1.heap.objs.size (.lst xs),I1.laid (t':=s1.toks) (fun b u e=>Heap.get?_push_of_some _ e) (Nat.le_refl _) ?_,rfl,q _ hf⟩;exact⟨z,us,0,r,Heap.get?_push_size _ rfl⟩
end
abbrev Sp:=List V->Hp->VK->XK->Prop
abbrev NL:=List Env->Hp->Shared->XK->Value->Shared->Prop
structure IQ(P:Program)(w:World)(K:W.Frag)(mg:Str->Option Value)(base:Heap)(A:Around)(outer:List Env)(s:Shared)(H:Hp):Prop where
 frames:A.frames=some outer
 mod:Mod K mg base
 bs:∀b o,base.get? b=some o->s.heap.get? b=some o∧H b=none
 Qm:base.objs.size<=s.heap.objs.size
 yD:s.heap.FunFrames base outer
 RP:∀b∈N2 outer,H b=none
 ck:p5 P w H s.heap
 bare:AllBare s.gens
def CE(outer:List Env)(P:Program)(w:World)(H:Hp)(s:Shared)(Q:VK)(u:Value)(s':Shared):Prop:=
 ∃v H',s'.os=s.os∧AllBare s'.gens∧Un (N2 outer) [] H H' s.heap s'.heap∧p5 P w H' s'.heap∧RelV v u∧Q v H'
def CR(CX:NL)(outer:List Env)(P:Program)(w:World)(H:Hp)(s:Shared)(Q:VK)(E:XK)(r:Result)(s':Shared):Prop:=
 match r with
 | .ok (.ret u)=>CE outer P w H s Q u s'
 | .ok _=>False
 | .error e=>CX outer H s E e s'
structure a6(P:Program)(w:World)(K:W.Frag)(mg:Str->Option Value)(base:Heap)(CX:NL)(k:Nat)(f:Addr)(fd:FuncData)(ps:List Str)(sp:Sp):Prop where
 len:∀vs H Q E,sp vs H Q E->vs.length=ps.length
 run:∀(A:Around) (outer:List Env) (s:Shared) (H:Hp) (args:Args) (us:List Value) (vs:List V) (Q:VK) (E:XK),jV k A->IQ P w K mg base A outer s H->BindsTo s fd args (ps.zip us)->Vals vs us->sp vs H Q E →
  codeAny (model P w) A (.call (.ref f) args) (CR CX outer P w H s Q E) s
theorem a6.mono{P:Program}{w:World}{K:W.Frag}{mg:Str->Option Value}{base:Heap}{CX:NL}{j k:Nat}{f:Addr}{fd:FuncData}{ps:List Str}{sp:Sp}(F:a6 P w K mg base CX j f fd ps sp)(h:j<=k) :
  a6 P w K mg base CX k f fd ps sp:=⟨F.len,fun A outer s H args us vs Q E hr=>F.run A outer s H args us vs Q E (hr.mono h)⟩
theorem IQ.make{P:Program}{w:World}{K:W.Frag}{mg:Str->Option Value}{base:Heap}{A:Around}{outer:List Env}{s:Shared}{H:Hp}(e:IQ P w K mg base A outer s H)(C:Addr)(us:List Value)(kw:List (Str×Value)) :
  IQ P w K mg base (A.under (.builtin "type.__call__" ⟨.ref C::us,kw⟩)) outer s H:=⟨by first | exact e.frames | (simpa[Around.under,Code.envs,Code.isFrame,pushEnvs]using e.frames),e.mod,e.bs,e.Qm,e.yD,e.RP,e.ck,e.bare⟩
section
variable{X:Cx}{pins:List (Addr×Obj)}{σ:St}{H:Hp}{s s':Shared}
theorem Inv.Te(I:Inv X pins σ H s):IQ X.prog X.w X.K X.mg X.base X.A X.stack s H:=
 ⟨I.ok.frames,I.ok.mod,I.bs,Nat.le_trans I.ok.Qm I.sz,I.stack,I.KJ,I.ck,I.bare⟩
theorem Inv.after{Q:VK}{u:Value}(I:Inv X pins σ H s)(h:CE X.stack X.prog X.w H s Q u s'):EP X pins σ Q u s':=by
 obtain⟨v,H',os,bare,un,ck,r,q⟩:=h;obtain⟨hh,g,d,t,os'⟩:=s';obtain rfl:os'=s.os:=os;exact⟨v,H',I.call (h':=hh) (g':=g) (d':=d) (t':=t) (ch:=[]) un ck bare (fun b z=>absurd z (by simp)),r,q⟩
end
def Tf(sp:Sp)(dvs:List V)(E:XK)(t:TA):TE:=fun σ H Q=>t σ H fun vs H1=>sp (vs++dvs) H1 Q E
def Rh(C:Addr)(m:Str)(sp:Sp)(dvs:List V)(E:XK)(ta:TE)(t:TA):TE:=fun σ H Q=>ta σ H fun x H1=>∃a dx fs,x=.ref a∧H1 a=some (.ins C dx fs)∧fs.lookup m=none∧
 t σ H1 fun vs H2=>sp (x::(vs++dvs)) H2 Q E
def Ri(C:Addr)(sp:Sp)(dvs:List V)(E:XK)(t:TA):TE:=fun σ H Q=>t σ H fun vs H1=>∀x dx,H1 x=none->H1 dx=none->dx≠x →
 sp (.ref x::(vs++dvs)) (upd (upd H1 dx (.own x)) x (.ins C dx [])) (fun v H2=>v=.gi∧Q (.ref x) H2) E
def Binds(K:W.Frag)(fd:FuncData)(ps:List Str)(ds:List Value):Prop:=
 ∀(s:Shared) (us:List Value),K.In s.heap->(us++ds).length=ps.length->BindsTo s fd ⟨us,[]⟩ (ps.zip (us++ds))
theorem Binds.all{K:W.Frag}{fd:FuncData}{ps:List Str}(h:∀us:List Value,us.length=ps.length->bindArgs fd ⟨us,[]⟩=pure (ps.zip us)):Binds K fd ps []:=fun s us _ hl=>by
 rw[List.append_nil]at hl ⊢;exact .of_eq (h us hl)
def Passes(CX:NL)(X:Cx)(E:XK):Prop:=∀(pins:List (Addr×Obj)) (σ:St) (H:Hp) (s:Shared) (e:Value) (s':Shared),Inv X pins σ H s->CX X.stack H s E e s'->X.xe e s'
section
variable{X:Cx}{CX:NL}{k:Nat}{f C:Addr}{fd:FuncData}{ps:List Str}{sp:Sp}{dvs:List V}{ds:List Value}{E:XK}{x m:Str}{p pos apos:Pos}{e o:Expr}{es:List Expr}{ta:TE}{t:TA}
theorem IS{pins:List (Addr×Obj)}{σ:St}{H:Hp}{s:Shared}{Q:VK}{us:List Value}{vs:List V}(F:a6 X.prog X.w X.K X.mg X.base CX k f fd ps sp)(hr:jV k X.A)(hb:Binds X.K fd ps ds)(hd:Vals dvs ds)(hx:Passes CX X E)
  (I:Inv X pins σ H s) (r:Vals vs us) (h:sp (vs++dvs) H Q E):wpAny (model X.prog X.w) X.A (call (.ref f) us) (EP X pins σ Q) X.xe s:=by
 have r2:Vals (vs++dvs) (us++ds):=r.append hd;have hl:(us++ds).length=ps.length:=by rw[<-r2.length];exact F.len _ _ _ _ h
 refine wpAny_call (codeAny_mono (F.run X.A X.stack s H ⟨us,[]⟩ (us++ds) (vs++dvs) Q E hr I.Te (hb s us I.yg hl) r2 h) fun r s' hq=>?_);cases r with
 | error e=>exact hx pins σ H s e s' I hq
 | ok fl=>
  cases fl with
  | ret u=>exact I.after hq
  | next=>exact False.elim hq
  | brk=>exact False.elim hq
  | cont=>exact False.elim hq
theorem au(F:a6 X.prog X.w X.K X.mg X.base CX k f fd ps sp)(hr:jV k X.A)(hg:Gl X x)(hm:X.mg x=some (.ref f))(hk:W.keepIn X.K (.ref f)=true)(hb:Binds X.K fd ps ds)(hd:Vals dvs ds)(hx:Passes CX X E)
  (ha:PA X (e::es) t) (hdb:(x == ("__debug__" : Str))=false:=by decide) (he:starEach (e::es) X.env=(false,eval e X.env)::starEach es X.env:=by rfl) (hpl:(backTo pos (starEach es X.env)).any (·.1)=false:=by rfl) :
  PE X (.Call (.Name x p) (e::es) [] pos) (Tf sp dvs E t):=by
 intro pins s σ H Q I h;refine wpAny_Call_Name_kw (zJ I hg hm ?_ hdb);refine W.callWith_K (h₀:=X.base) I.ok.mod.SO hk (cx (ha pos pins s σ H _ I h) fun us s1 ⟨vs,H1,I1,r,q⟩=>⟨I1.yg,?_⟩) he hpl;exact IS F hr hb hd hx I1 r q
theorem iD{pl:Sem Bool}(he:PE X o ta)(c:KW X.K C)(hm:Meth X.K C m f)(F:a6 X.prog X.w X.K X.mg X.base CX k f fd ps sp)(hr:jV k X.A)(hb:Binds X.K fd ps ds)(hd:Vals dvs ds)(hx:Passes CX X E)(ha:PA X (e::es) t)
  (hst:starEach (e::es) X.env=(false,eval e X.env)::starEach es X.env:=by rfl) (hpl:(backTo pos (starEach es X.env)).any (·.1)=false:=by rfl)
  (ht:eval (.Call (.Attribute o m apos) (e::es) [] pos) X.env=(do
   let ov <-eval o X.env
   standAt apos.atName
   let (f,first) <-holding [ov] (getMethod ov m pl)
   callWith pos f first (backTo pos (starEach (e::es) X.env)) (backToKw pos (keywordEach [] X.env))):=by rfl) :
  PE X (.Call (.Attribute o m apos) (e::es) [] pos) (Rh C m sp dvs E ta t):=by
 intro pins s σ H Q I h;refine W.methodCall_KW (pl:=pl) (cx (he pins s σ H _ I h) fun u s1 ⟨x,H1,I1,rx,a,dx,fs,ex,ea,l,q⟩=>?_) ht;subst ex;obtain rfl:u=Value.ref a:=rx;refine Ax I1 ea c hm l ?_;refine W.callWith_K (first:=[.ref a]) (h₀:=X.base) I.ok.mod.SO hm.kp (cx (ha pos pins s1 σ H1 _ I1 q) fun us s2 ⟨vs,H2,I2,r,q2⟩=>⟨I2.yg,?_⟩) hst hpl;exact IS (us:=.ref a::us) (vs:=.ref a::vs) F hr hb hd hx I2 (.cons rfl r) q2
theorem dF{pl:Sem Bool}(he:PE X o ta)(c:KW X.K C)(hm:Meth X.K C m f)(F:a6 X.prog X.w X.K X.mg X.base CX k f fd ps sp)(hr:jV k X.A)(hb:Binds X.K fd ps ds)(hd:Vals dvs ds)(hx:Passes CX X E)
  (ht:eval (.Call (.Attribute o m apos) [] [] pos) X.env=(do
   let ov <-eval o X.env
   standAt apos.atName
   let (f,first) <-holding [ov] (getMethod ov m pl)
   callWith pos f first (backTo pos (starEach [] X.env)) (backToKw pos (keywordEach [] X.env))):=by rfl) :
  PE X (.Call (.Attribute o m apos) [] [] pos) (Rh C m sp dvs E ta Qv):=by
 intro pins s σ H Q I h;refine W.methodCall_KW (pl:=pl) (cx (he pins s σ H _ I h) fun u s1 ⟨x,H1,I1,rx,a,dx,fs,ex,ea,l,q⟩=>?_) ht;subst ex;obtain rfl:u=Value.ref a:=rx;refine Ax I1 ea c hm l ?_;exact W.callWith_K0 (first:=[.ref a]) I1.yg hm.kp (IS (us:=[.ref a]) (vs:=[.ref a]) F hr hb hd hx I1 (.cons rfl .nil) q)
structure Mk(K:W.Frag)(C f:Addr):Prop where
 makes:W.makesIn K C=true
 init:W.findIn K (.ref C) "__init__" = some (some (.ref f))
 fn:W.isFn K (.ref f)=true
 kp:W.keepIn K (.ref C)=true
theorem Gy{pins:List (Addr×Obj)}{σ:St}{H:Hp}{s:Shared}{Q:VK}{us:List Value}{vs:List V}(M:Mk X.K C f)(F:a6 X.prog X.w X.K X.mg X.base CX k f fd ps sp)(hr:jV (k+1) X.A)(hb:Binds X.K fd ps ds)(hd:Vals dvs ds)
  (hx:Passes CX X E) (I:Inv X pins σ H s) (r:Vals vs us)
  (h:∀x dx,H x=none->H dx=none->dx≠x->sp (.ref x::(vs++dvs)) (upd (upd H dx (.own x)) x (.ins C dx [])) (fun v H2=>v=.gi∧Q (.ref x) H2) E) :
  wpAny (model X.prog X.w) X.A (call (.ref C) us) (EP X pins σ Q) X.xe s:=by
 have hq:=h (s.heap.objs.size+1) s.heap.objs.size (I.ck.fresh (Nat.le_succ _)) (I.ck.fresh (Nat.le_refl _)) (Nat.ne_of_lt (Nat.lt_succ_self _));have I2:=Inv.made (C:=C) I;have r2:Vals (V.ref (s.heap.objs.size+1)::(vs++dvs)) (Value.ref (s.heap.objs.size+1)::(us++ds)):=.cons rfl (r.append hd);have hl:(Value.ref (s.heap.objs.size+1)::us++ds).length=ps.length:=by
  have e:=r2.length;rw[F.len _ _ _ _ hq]at e;exact e.symm
 refine wpAny_call (Oh (f:=f) I.yg M.makes M.init (beq_iff_eq.mp M.fn) (codeAny_mono (F.run _ X.stack _ _ ⟨Value.ref (s.heap.objs.size+1)::us,[]⟩ (Value.ref (s.heap.objs.size+1)::(us++ds)) _ _ E (hr.make C us [])
  (I2.Te.make C us []) (hb _ (Value.ref (s.heap.objs.size+1)::us) I2.yg hl) r2 hq) fun r s' hq'=>?_))
 cases r with
 | error e=>exact hx pins σ _ _ e s' I2 hq'
 | ok fl=>
  cases fl with
  | ret u=>
   obtain⟨v,H',I3,rv,ev,q3⟩:=I2.after hq';subst ev;exact⟨rv,⟨V.ref (s.heap.objs.size+1),H',I3,rfl,q3⟩⟩
  | next=>exact False.elim hq'
  | brk=>exact False.elim hq'
  | cont=>exact False.elim hq'
theorem KY(M:Mk X.K C f)(F:a6 X.prog X.w X.K X.mg X.base CX k f fd ps sp)(hr:jV (k+1) X.A)(hg:Gl X x)(hm:X.mg x=some (.ref C))(hb:Binds X.K fd ps ds)(hd:Vals dvs ds)(hx:Passes CX X E)
  (ha:PA X (e::es) t) (hdb:(x == ("__debug__" : Str))=false:=by decide) (he:starEach (e::es) X.env=(false,eval e X.env)::starEach es X.env:=by rfl) (hpl:(backTo pos (starEach es X.env)).any (·.1)=false:=by rfl) :
  PE X (.Call (.Name x p) (e::es) [] pos) (Ri C sp dvs E t):=by
 intro pins s σ H Q I h;refine wpAny_Call_Name_kw (zJ I hg hm ?_ hdb);refine W.callWith_K (h₀:=X.base) I.ok.mod.SO M.kp (cx (ha pos pins s σ H _ I h) fun us s1 ⟨vs,H1,I1,r,q⟩=>⟨I1.yg,?_⟩) he hpl;exact Gy M F hr hb hd hx I1 r q
theorem Oj(M:Mk X.K C f)(F:a6 X.prog X.w X.K X.mg X.base CX k f fd ps sp)(hr:jV (k+1) X.A)(hg:Gl X x)(hm:X.mg x=some (.ref C))(hb:Binds X.K fd ps ds)(hd:Vals dvs ds)(hx:Passes CX X E)
  (hdb:(x == ("__debug__" : Str))=false:=by decide):PE X (.Call (.Name x p) [] [] pos) (Ri C sp dvs E Qv):=by
 intro pins s σ H Q I h;refine wpAny_Call_Name_kw (zJ I hg hm ?_ hdb);exact W.callWith_K0 I.yg M.kp (Gy (us:=[]) M F hr hb hd hx I .nil h)
end
structure aE(N P:List Str)(sc:Scope):Prop where
 kind:sc.kind=.function
 co:sc.isCoroutine=false
 gen:sc.isGenerator=false
 nd:N.Nodup
 pre:N.take P.length=P
 par:∀x∈P,sc.names.lookup x=some .local∨sc.names.lookup x=some .cell
 R0:∀y∈sc.names,y.2≠.free
theorem D6{kindOf:Str->Option NameKind}{x:Str}:∀{binds:List (Str×Value)} {m:Str->Option Value},(∀v,(x,v) ∉ binds)->bindL kindOf binds m x=m x
 | [],_,_=>rfl
 | (n,v)::r,m,h=>by
  unfold bindL;rw[D6 fun w hw=>h w (List.mem_cons_of_mem _ hw)]
  split
  ·have:x≠n:=by rintro rfl;exact h v List.mem_cons_self
   simp[this]
  ·rfl
theorem D7{kindOf:Str->Option NameKind}{x:Str}:∀{binds:List (Str×Value)} {m:Str->Option Value},(∀v,(x,v) ∉ binds)->bindC kindOf binds m x=m x
 | [],_,_=>rfl
 | (n,v)::r,m,h=>by
  unfold bindC;rw[D7 fun w hw=>h w (List.mem_cons_of_mem _ hw)]
  split
  ·rfl
  ·have:x≠n:=by rintro rfl;exact h v List.mem_cons_self
   simp[this]
theorem D8{kindOf:Str->Option NameKind}{x:Str}{v:Value}:∀{P:List Str} {vs:List Value} {i:Nat} {m:Str->Option Value},P.Nodup->P[i]? = some x->vs[i]? = some v->kindOf x=some .local →
  bindL kindOf (P.zip vs) m x=some v
 | [],_,_,_,_,h,_,_=>by simp at h
 | _::_,[],_,_,_,_,h,_=>by simp at h
 | p::P,w::vs,0,m,nd,h1,h2,hk=>by
  simp at h1 h2;subst h1;subst h2;show bindL kindOf ((p,w)::P.zip vs) m p=_;unfold bindL;rw[D6 fun v hv=>(List.nodup_cons.mp nd).1 (List.of_mem_zip hv).1,if_pos hk];simp
 | p::P,w::vs,i+1,m,nd,h1,h2,hk=>by
  show bindL kindOf ((p,w)::P.zip vs) m x=_;unfold bindL;exact D8 (i:=i) (List.nodup_cons.mp nd).2 (by simpa using h1) (by simpa using h2) hk
theorem D9{kindOf:Str->Option NameKind}{x:Str}{v:Value}:∀{P:List Str} {vs:List Value} {i:Nat} {m:Str->Option Value},P.Nodup->P[i]? = some x->vs[i]? = some v->kindOf x≠some .local →
  bindC kindOf (P.zip vs) m x=some v
 | [],_,_,_,_,h,_,_=>by simp at h
 | _::_,[],_,_,_,_,h,_=>by simp at h
 | p::P,w::vs,0,m,nd,h1,h2,hk=>by
  simp at h1 h2;subst h1;subst h2;show bindC kindOf ((p,w)::P.zip vs) m p=_;unfold bindC;rw[D7 fun v hv=>(List.nodup_cons.mp nd).1 (List.of_mem_zip hv).1,if_neg hk];simp
 | p::P,w::vs,i+1,m,nd,h1,h2,hk=>by
  show bindC kindOf ((p,w)::P.zip vs) m x=_;unfold bindC;exact D9 (i:=i) (List.nodup_cons.mp nd).2 (by simpa using h1) (by simpa using h2) hk
def start(N:List Str)(vs:List V):St:=vs.map some++List.replicate (N.length - vs.length) none
def LR(CX:NL)(P:Program)(w:World)(K:W.Frag)(mg:Str->Option Value)(base:Heap)(N:List Str)(qual:Str)(scope:Scope)(f:Addr)(cd:Value)(A:Around)(outer:List Env)(s:Shared)(H:Hp)(E:XK):Cx where
 prog:=P
 w:=w
 K:=K
 mg:=mg
 base:=base
 A:=A.deeper (envOfC qual scope s.heap.objs.size f cd)
 N:=N
 D0:=s
 SQ:=H
 env:=envOfC qual scope s.heap.objs.size f cd
 outer:=outer
 stack:=envOfC qual scope s.heap.objs.size f cd::outer
 ex:=[]
 calm:=true
 fn:=fun _=>true
 pn:=[]
 xe:=fun e s'=>wpAny (model P w) (A.deeper (envOfC qual scope s.heap.objs.size f cd)) (leaving (envOfC qual scope s.heap.objs.size f cd) e) (fun _ s''=>CX outer H s E e s'') (fun e' s''=>CX outer H s E e' s'') s'
theorem Gz{sc:Scope}{n:Nat}{x:Str}(h:sc.names.lookup x=some .cell):∃c,(cellsFrom n sc.names []).lookup x=some c:=by
 have q:=W.cellsFrom_some sc.names n [] (.inl h);exact Option.isSome_iff_exists.mp q
theorem LS{CX:NL}{P:Program}{w:World}{K:W.Frag}{mg:Str->Option Value}{base:Heap}{N ps:List Str}{qual:Str}{scope:Scope}{f:Addr}{cd:Value}{A:Around}{outer:List Env}{s s1:Shared}{H:Hp}{E:XK}{us:List Value}{vs:List V}
  (S:aE N ps scope) (hd:A.handled=none) (e0:IQ P w K mg base A outer s H) (hl:vs.length=ps.length) (r:Vals vs us)
  (x:InCallC s s.heap.objs.size (bindL (envOfC qual scope s.heap.objs.size f cd).kindOf (ps.zip us) fun _=>none) (cellsFrom (s.heap.objs.size+1) scope.names []) (bindC (envOfC qual scope s.heap.objs.size f cd).kindOf (ps.zip us) fun _=>none) s1) :
  Inv (LR CX P w K mg base N qual scope f cd A outer s H E) [] (start N vs) H s1:=by
 have hpl:ps.length<=N.length:=by have:=congrArg List.length S.pre;rw[List.length_take]at this;lia
 obtain⟨h1,tk,rfl,hk⟩:=x.done;have noA:∀b:Addr,b ∉ (LR CX P w K mg base N qual scope f cd A outer s H E).ex:=fun b z=>absurd (show b∈([]:List Addr) from z) (by simp)
 refine⟨⟨e0.mod,S.kind,rfl,rfl,Nat.le_refl _,fun y z c h1 h2=>?_,fun y hy=>?_,fun y c _ h=>?_,fun _=>hd,Around.frames_deeper e0.frames,.inr ⟨rfl,rfl⟩,fun b z=>absurd z (noA b),e0.bs,e0.Qm,fun b _ _=>noA b,fun b z=>absurd z (noA b),e0.yD,e0.RP⟩,
  rfl,e0.bare,Un.kept hk,⟨_,x.toInCall.ns,fun i y v h1 h2 h3=>?_⟩,fun y c h=>⟨_,x.cell y c h⟩,e0.ck.fresh (Nat.le_refl _),fun y c h=>?_,fun p hp=>absurd (show p∈([]:List (Addr×Obj)) from hp) (by simp),e0.ck.kept hk,?_⟩
 ·exact name_of_addr x.apart (PySem.mem_of_lookup h1) (PySem.mem_of_lookup h2)
 ·have hy:scope.names.lookup y=some .cell∨scope.names.lookup y=some .free:=hy;rcases hy with hy | hy
  ·exact Gz hy
  ·exact absurd rfl (S.R0 _ (PySem.mem_of_lookup hy))
 ·exact Nat.le_of_lt (x.above y c (PySem.mem_of_lookup h))
 ·have hi:i<vs.length:=by
   unfold start at h2;by_cases hi:i<vs.length
   ·exact hi
   ·rw[List.getElem?_append_right (by simpa using hi)]at h2;rw[List.getElem?_replicate]at h2
    split at h2 <;> cases h2
  have ha:vs[i]? = some v:=by
   unfold start at h2;rw[List.getElem?_append_left (by simpa using hi),List.getElem?_map]at h2;cases e:vs[i]? with
   | none=>rw[e]at h2;cases h2
   | some a=>rw[e]at h2;cases h2;rfl
  obtain⟨u,hu,rv⟩:=r.get ha;have hp:ps[i]? = some y:=by
   rw[<-S.pre,List.getElem?_take_of_lt (by lia)];exact h1
  have ndP:ps.Nodup:=by rw[<-S.pre];exact S.nd.sublist (List.take_sublist _ _)
  refine⟨u,rv,?_⟩;rcases S.par y (List.mem_of_getElem? hp)with k | k
  ·exact .inl ⟨k,D8 ndP hp hu k⟩
  ·obtain⟨c,e⟩:=Gz (n:=s.heap.objs.size+1) k;refine .inr ⟨.inl k,c,e,?_⟩;have q:=x.cell y c e;rw[D9 ndP hp hu (by show scope.names.lookup y≠_;rw[k];decide)]at q;exact q
 ·exact e0.ck.fresh (Nat.le_of_lt (x.above y c (PySem.mem_of_lookup h)))
 ·unfold start;show _=N.length;rw[List.length_append,List.length_map,List.length_replicate];lia
theorem Tg{CX:NL}{P:Program}{w:World}{K:W.Frag}{mg:Str->Option Value}{base:Heap}{k:Nat}{f:Addr}{name qual:Str}{params:Arguments}{body:List Stmt}{scope:Scope}{dV kV doc pm cdv ct oc:Value}{an od:Option Addr}
  {osl:Array (Option Value)} {N ps:List Str} {sp:Sp} (lk:K.lookup f=some ⟨oc,od,.func (W.fnOf name qual params body scope dV kV doc pm an cdv ct),osl⟩) (hcd:W.codeIn K cdv qual=true) (S:aE N ps scope)
  (len:∀vs H Q E,sp vs H Q E->vs.length=ps.length)
  (hbody:∀(A:Around) (outer:List Env) (s:Shared) (H:Hp) (vs:List V) (Q:VK) (E:XK),jV k (A.deeper (envOfC qual scope s.heap.objs.size f cdv))->sp vs H Q E →
   ∃t,LJ (LR CX P w K mg base N qual scope f cdv A outer s H E) body t∧t { nx:=fun _ H'=>Q .gi H',rt:=Q } (start N vs) H) :
  a6 P w K mg base CX (k+1) f (W.fnOf name qual params body scope dV kV doc pm an cdv ct) ps sp:=by
 refine⟨len,fun A outer s H args us vs Q E hr e0 hb r hsp=>?_⟩;have hl:=len _ _ _ _ hsp;have KX:K.In s.heap:=e0.mod.SO.keeps fun b o e=>(e0.bs b o e).1
 have lim:s.heap.NoLimit:=e0.mod.nolimit.keeps fun b o e=>(e0.bs b o e).1
 have hkind:∀y∈ps.zip us,scope.names.lookup y.1=some .local∨(scope.names.lookup y.1=some .cell∧((cellsFrom (s.heap.objs.size+1) scope.names []).lookup y.1).isSome=true):=fun⟨n,v⟩ hy=>by
  rcases S.par n (List.of_mem_zip hy).1 with q | q
  ·exact .inl q
  ·exact .inr ⟨q,W.cellsFrom_some _ _ _ (.inl q)⟩
 refine codeAny_call_function hr.depth (KX _ _ lk) rfl S.co S.gen rfl (W.codeRec_of KX hcd) (hb _ _ _ _ ?_);refine wpAny_newFunctionEnv_cells S.kind hkind fun env he s1 x=>?_
 subst he;refine⟨lim.keeps x.toInCall.keep,codeAny_func ?_⟩;obtain⟨t,ht,hq⟩:=hbody A outer s H vs Q E (hr.deeper _) hsp;have I:Inv (LR CX P w K mg base N qual scope f cdv A outer s H E) [] (start N vs) H s1:=LS S hr.hd e0 hl r x;refine wpAny_mono (ht [] s1 (start N vs) H _ I hq) (fun fl s' hs=>?_) fun e s' hs=>hs
 have fin:∀{σ':St} {H':Hp} {v:V} {u:Value},Inv (LR CX P w K mg base N qual scope f cdv A outer s H E) [] σ' H' s'->RelV v u->Q v H'->CE outer P w H s Q u s':=
  fun {σ' H' v u} J rv q=>⟨v,H',J.os,J.bare,J.base,J.ck,rv,q⟩
 cases fl with
 | ret u=>
  obtain⟨v,σ',H',J,rv,q⟩:=hs;exact fin J rv q
 | next=>
  obtain⟨σ',H',J,q⟩:=hs;exact fin (v:=V.gi) (u:=Value.none) J rfl q
 | brk=>
  obtain⟨_,_,_,q⟩:=hs;exact False.elim q
 | cont=>
  obtain⟨_,_,_,q⟩:=hs;exact False.elim q
end L2
namespace L2
open PySem PySem.Spec PyProof.Rows
section
variable{X:Cx}{x:Str}{p pos:Pos}{e:Expr}{es:List Expr}{t:TA}{id T:String}{r:List V->Hp->VK->Prop}
def U3(r:List V->Hp->VK->Prop)(t:TA):TE:=fun σ H Q=>t σ H fun vs H1=>r vs H1 Q
theorem aK(hc:nj X (.builtin id) r)(hg:Gl X x)(hm:X.mg x=none)(hv:bootBuiltins x=some (.builtin id))(ha:PA X (e::es) t)(hn:x≠"__name__":=by decide)(hdb:(x == ("__debug__" : Str))=false:=by decide)
  (he:starEach (e::es) X.env=(false,eval e X.env)::starEach es X.env:=by rfl) (hpl:(backTo pos (starEach es X.env)).any (·.1)=false:=by rfl):PE X (.Call (.Name x p) (e::es) [] pos) (U3 r t):=by
 intro pins s σ H Q I h;refine wpAny_Call_Name_kw (nE I hg hm hv ?_ hn hdb);exact PyProof.Rows.callWith_builtin1 (cx (ha pos pins s σ H _ I h) fun us s1 ⟨vs,H1,I1,r1,q1⟩=>hc pins s1 σ H1 vs us Q I1 r1 q1) he hpl
theorem wx(hc:nj X (.type T) r)(hg:Gl X x)(hm:X.mg x=none)(hv:bootBuiltins x=some (.type T))(ha:PA X (e::es) t)(hn:x≠"__name__":=by decide)(hdb:(x == ("__debug__" : Str))=false:=by decide)
  (he:starEach (e::es) X.env=(false,eval e X.env)::starEach es X.env:=by rfl) (hpl:(backTo pos (starEach es X.env)).any (·.1)=false:=by rfl):PE X (.Call (.Name x p) (e::es) [] pos) (U3 r t):=by
 intro pins s σ H Q I h;refine wpAny_Call_Name_kw (nE I hg hm hv ?_ hn hdb);exact PyProof.Rows.callWith_type1 (cx (ha pos pins s σ H _ I h) fun us s1 ⟨vs,H1,I1,r1,q1⟩=>hc pins s1 σ H1 vs us Q I1 r1 q1) he hpl
end
end L2
namespace HT
open PySem PyProof.Rows
def lexLt:List Int->List Int->Bool
 | [],[]=>false
 | [],_::_=>true
 | _::_,[]=>false
 | x::xs,y::ys=>if x=y then lexLt xs ys else decide (x<y)
theorem Az(x y:Int)(xs ys:List Int):lexLt (x::xs) (y::ys)=if x=y then lexLt xs ys else decide (x<y):=rfl
theorem Ol(A:Around)(s:Shared)(a:Int)(t:Tok)(c:Int)(u:Tok):∃e,SeqAt.EqAt A s (.int a t) (.int c u) e∧(e=true↔a=c):=
 ⟨(a == c),SeqAt.EqAt.int_int a t c u,by simp⟩
theorem Om(A:Around)(s:Shared)(a:Int)(t:Tok)(c:Int)(u:Tok)(prog:Program)(w:World)(E:Value->Shared->Prop)(Q:Value->Shared->Prop)(h:Q (.bool (decide (a<c))) s) :
  wpAny (model prog w) A (richCompare .Lt (.int a t) (.int c u)) Q E s:=
 (PyProof.Rows.lt_int h:wpAny (model prog w) A (compareOp .Lt (.int a t) (.int c u)) Q E s)
section
variable{prog:Program}{w:World}{A:Around}{E:Value->Shared->Prop}{s:Shared}
def Im(n d:Nat):Option Int->Nat
 | none=>d
 | some v=>if v<0 then(v+(n:Int)).toNat else min v.toNat n
theorem KZ(n d k:Nat):Im n d (some (k:Int))=min k n:=by
 show(if (k:Int)<0 then((k:Int)+(n:Int)).toNat else min (k:Int).toNat n)=min k n
 rw[if_neg (by lia),Int.toNat_natCast]
end
end HT
namespace L2
open PySem PySem.Spec PyProof.Rows
abbrev TO:=St->Hp->(Option Int->Hp->Prop)->Prop
def PO(X:Cx)(e:Option Expr)(t:TO):Prop:=
 ∀
  (pins:List (Addr×Obj)) (s:Shared) (σ:St) (H:Hp) (Q:Option Int->Hp->Prop),Inv X pins σ H s->t σ H Q →
  wpAny (model X.prog X.w) X.A (evalPart e X.env) (fun u s'=>∃o H',Inv X pins σ H' s'∧IsPart u o∧Q o H') X.xe s
def Th(t:TE):TO:=fun σ H Q=>t σ H fun x H1=>∃i,x=.int i∧Q (some i) H1
theorem intsAre_of{ns:List Int}:∀{us:List Value},Vals (ns.map V.int) us->IntsAre us ns:=by
 induction ns with
 | nil=>intro us r;rw[List.map_nil]at r;cases r;exact .nil
 | cons n ns ih=>
  intro us r;rw[List.map_cons]at r;cases r with
  | cons r1 r2=>
   obtain⟨t,e⟩:=r1;subst e;exact .cons n t (ih r2)
section
variable{X:Cx}{e:Expr}{te:TE}{lo hi:Option Expr}{tl th:TO}{pos p2:Pos}
theorem K0(h:PE X e te):PO X (some e) (Th te):=by
 intro pins s σ H Q I hw;rw[evalPart_some];refine cx (h pins s σ H _ I hw) fun u s1 ⟨x,H1,I1,r1,q1⟩=>?_
 obtain⟨i,rfl,q⟩:=q1;obtain⟨t,rfl⟩:=r1;exact⟨some i,H1,I1,.int i t,q⟩
def U4(X:Cx)(r:V->Option Int->Option Int->Hp->VK->Prop):Prop:=
 ∀
  (pins:List (Addr×Obj)) (s:Shared) (σ:St) (H:Hp) (x:V) (v vl vu:Value) (lo hi:Option Int) (sl:Addr) (Q:VK),Inv X pins σ H s->RelV x v->s.heap.IsSliceOf sl vl vu .none->IsPart vl lo->IsPart vu hi->r x lo hi H Q →
  ∃T id,typeLookup (.type T) "__getitem__" = pure (some (.builtin id))∧s.TypeIs v T∧wpAny (model X.prog X.w) X.A (getItem v (.ref sl)) (EP X pins σ Q) X.xe s
def Vj(r:V->Option Int->Option Int->Hp->VK->Prop)(te:TE)(tl th:TO):TE:=fun σ H Q=>te σ H fun x H1=>tl σ H1 fun l H2=>th σ H2 fun u H3=>r x l u H3 Q
theorem Oo{r:V->Option Int->Option Int->Hp->VK->Prop}(hr:U4 X r)(he:PE X e te)(hl:PO X lo tl)(hu:PO X hi th):PE X (.Subscript e (.Slice lo hi none p2) pos) (Vj r te tl th):=by
 intro pins s σ H Q I h;refine Subscript_ (cx (he pins s σ H _ I h) fun v s1 ⟨x,H1,I1,r1,q1⟩=>?_);refine wpAny_Slice (cx (hl pins s1 σ H1 _ I1 q1) fun vl s2 ⟨l,H2,I2,pl,q2⟩=>cx (hu pins s2 σ H2 _ I2 q2) fun vu s3 ⟨u,H3,I3,pu,q3⟩=>?_);rw[evalPart_none];refine wpAny_pure ?_;have I4:Inv X pins σ H3 { s3 with heap:=s3.heap.push { cls:=.type "slice",data:=.fields #[vl,vu,.none] } }:=I3.kept (t':=s3.toks) fun b ob q=>Heap.get?_push_of_some _ q
 obtain⟨T,id,hT,ht,hg⟩:=hr pins { s3 with heap:=s3.heap.push { cls:=.type "slice",data:=.fields #[vl,vu,.none] } } σ H3 x v vl vu l u s3.heap.objs.size Q I4 r1 (Heap.IsSliceOf.new ..) pl pu q3;show wpAny (model X.prog X.w) X.A (subscriptTail e (.Slice lo hi none p2) v (.ref s3.heap.objs.size)) (EP X pins σ Q) X.xe { s3 with heap:=s3.heap.push { cls:=.type "slice",data:=.fields #[vl,vu,.none] } };exact tail_any (ops:=[.ref s3.heap.objs.size,v]) ht hT hg (by with_unfolding_all rfl)
def IT(xs:List V)(lo hi:Option Int):List V:=(xs.drop (HT.Im xs.length 0 lo)).take (HT.Im xs.length xs.length hi - HT.Im xs.length 0 lo)
theorem GA(xs:List V)(lo hi:Option Int):(IT xs lo hi).length<=xs.length:=by
 unfold IT;rw[List.length_take,List.length_drop];lia
end
end L2
namespace L2
open PySem PySem.Spec PyProof.Rows
def Qc(n:Nat)(i:Int):Option Nat:=if 0<=i then(if i<n then some i.toNat else none)else if -(n:Int)<=i then some (i+n).toNat else none
def EX{α:Type}(xs:List α)(i:Int):Option α:=(Qc xs.length i).bind fun j=>xs[j]?
theorem K1{n:Nat}{i:Int}{j:Nat}(h:Qc n i=some j):seqIndex? i n=some j∧j<n∧-(n:Int)<=i∧i<n:=by
 unfold Qc at h;by_cases h0:0<=i
 ·rw[if_pos h0]at h;by_cases h1:i<n
  ·rw[if_pos h1]at h;have e:i.toNat=j:=Option.some.inj h;exact⟨by rw[seqIndex_of h0 h1,e],by lia,by lia,h1⟩
  ·rw[if_neg h1]at h;cases h
 ·rw[if_neg h0]at h;by_cases h1:-(n:Int)<=i
  ·rw[if_pos h1]at h;have e:(i+n).toNat=j:=Option.some.inj h;exact⟨by rw[seqIndex_neg (by lia) h1,e],by lia,h1,by lia⟩
  ·rw[if_neg h1]at h;cases h
theorem EY{α:Type}{xs:List α}{i:Int}{v:α}(h:EX xs i=some v):∃j,seqIndex? i xs.length=some j∧xs[j]? = some v∧j<xs.length∧-(xs.length:Int)<=i∧i<xs.length:=by
 unfold EX at h;cases e:Qc xs.length i with
 | none=>rw[e]at h;cases h
 | some j=>
  rw[e]at h;obtain⟨h1,h2,h3,h4⟩:=K1 e;exact⟨j,h1,h,h2,h3,h4⟩
theorem Qw{α:Type}{xs:List α}{j:Nat}{v:α}(h:xs[j]? = some v):EX xs (j:Int)=some v:=by
 have hj:j<xs.length:=(List.getElem?_eq_some_iff.mp h).1;have e:Qc xs.length (j:Int)=some j:=by
  unfold Qc;rw[if_pos (by lia),if_pos (by lia)];simp
 unfold EX;rw[e];exact h
def Qx(b:Expr):Prop:=∀o i,subscripted b false o i=operate [o,i] (getItem o i)
def UD(X:Cx)(r:R2):Prop:=
 ∀
  (value slice:Expr) (pins:List (Addr×Obj)) (s:Shared) (σ:St) (H:Hp) (x y:V) (v u:Value) (Q:VK),Inv X pins σ H s->RelV x v->RelV y u->r x y H Q →
  subscripted slice false v u=operate [v,u] (getItem v u)->wpAny (model X.prog X.w) X.A (subscriptTail value slice v u) (EP X pins σ Q) X.xe s
def U5(X:Cx)(id:String)(r:V->List V->Hp->VK->Prop):Prop:=
 ∀
  (pins:List (Addr×Obj)) (s:Shared) (σ:St) (H:Hp) (x:V) (xs:List V) (v:Value) (us:List Value) (Q:VK),Inv X pins σ H s->RelV x v->Vals xs us->r x xs H Q →
  wpAny (model X.prog X.w) X.A (call (.builtin id) (v::us)) (EP X pins σ Q) X.xe s
section
variable{X:Cx}{a b:Expr}{ta tb:TE}{pos:Pos}
theorem aO{r:R2}(hr:UD X r)(ha:PE X a ta)(hb:PE X b tb)(hs:Qx b):PE X (.Subscript a b pos) (T8 r ta tb):=by
 intro pins s σ H Q I h;exact Subscript_ (RX ha hb I h fun v u s2 x y H2 I2 rx ry q=>hr a b pins s2 σ H2 x y v u Q I2 rx ry q (hs _ _))
def jQ(K:W.Frag):R2:=fun x y H Q=>∃p xs i v,x=.ref p∧y=.int i∧aP K H p xs∧EX xs i=some v∧Q v H
def EZ(K:W.Frag):R2:=fun x y H Q=>∃p xs i v,x=.ref p∧y=.int i∧jP K H p xs∧EX xs i=some v∧Q v H
theorem aJ:UD X (jQ X.K):=by
 intro value slice pins s σ H x y v u Q I rx ry h hs;obtain⟨p,xs,i,z,rfl,rfl,hq,he,q⟩:=h;cases rx;obtain⟨t,rfl⟩:=ry;obtain⟨its,r,pl,hz⟩:=I.list hq;obtain⟨j,h1,h2,h3,h4,h5⟩:=EY he;obtain⟨w,ew,rw'⟩:=r.get h2;have hl:=r.length;have hn:=wq;have fin:EP X pins σ Q w s:=⟨z,H,I,rw',q⟩;by_cases h0:0<=i
 ·have hj:i.toNat=j:=by
   rw[seqIndex_of h0 h5]at h1;exact Option.some.inj h1
  exact item_listR pl.isList h0 (by lia) (by rw[hj];simpa using ew) fin hs
 ·have hj:(i+(its.toArray.size:Int)).toNat=j:=by
   rw[seqIndex_neg (by lia) h4]at h1;rw[List.size_toArray,<-hl];exact Option.some.inj h1
  exact subscriptTail_builtinR (x:=w) pl.isList.typeIs slot_list_getitem.lookup
   (wpAny_getItem_list_neg (Q:=fun r s'=>r=w∧EP X pins σ Q r s') pl.isList (by lia) (by rw[List.size_toArray] <;> lia) (by lia) (by rw[hj];simpa using ew) ⟨rfl,fin⟩) hs
theorem cY:UD X (EZ X.K):=by
 intro value slice pins s σ H x y v u Q I rx ry h hs;obtain⟨p,xs,i,z,rfl,rfl,hq,he,q⟩:=h;cases rx;obtain⟨t,rfl⟩:=ry;obtain⟨its,r,pl,hz⟩:=I.tuple hq;obtain⟨j,h1,h2,h3,h4,h5⟩:=EY he;obtain⟨w,ew,rw'⟩:=r.get h2;have hl:=r.length;have hn:=wq;have fin:EP X pins σ Q w s:=⟨z,H,I,rw',q⟩;exact subscriptTail_builtinR (x:=w) pl.typeIs slot_tuple_getitem.lookup
  (getItem_tuple (j:=j) (Q:=fun r s'=>r=w∧EP X pins σ Q r s') pl (by lia) (by lia) (by rw[List.size_toArray,<-hl];exact h1) (by simpa using ew) ⟨rfl,fin⟩) hs
theorem IU(its:List Value)(n j:Nat)(u:Value):Obj.mapSeq (·.setIfInBounds j u) { cls:=.type "list",data:=.seq its.toArray n }={ cls:=.type "list",data:=.seq (its.set j u).toArray n }:=by
 simp[Obj.mapSeq]
theorem Inv.lst{pins:List (Addr×Obj)}{σ:St}{H:Hp}{s:Shared}{p:Addr}{xs:List V}(I:Inv X pins σ H s)(h:H p=some (.lst xs)) :
  ∃(its:List Value) (n:Nat),Vals xs its∧s.heap.get? p=some { cls:=.type "list",data:=.seq its.toArray n }∧xs.length<=sizeLine:=by
 obtain⟨z,its,n,r,e⟩:=I.ck p _ h;exact⟨its,n,r,e,z⟩
theorem Inv.R1{pins:List (Addr×Obj)}{σ:St}{H:Hp}{s:Shared}{p:Addr}{xs ys:List V}{its its':List Value}{n n':Nat}{f:Obj->Obj}(I:Inv X pins σ H s)(h:H p=some (.lst xs))
  (ho:s.heap.get? p=some { cls:=.type "list",data:=.seq its.toArray n }) (hf:f { cls:=.type "list",data:=.seq its.toArray n }={ cls:=.type "list",data:=.seq its'.toArray n' }) (r:Vals ys its') (hz:ys.length<=sizeLine) (t:Nat) :
  Inv X pins σ (upd H p (.lst ys)) { s with heap:=s.heap.update p f,toks:=t }:=by
 have e:(s.heap.update p f).get? p=some { cls:=.type "list",data:=.seq its'.toArray n' }:=by
  rw[Heap.get?_update_self f ho (by rw[hf] <;> rfl),hf]
 refine I.write (x:=p) (e:=p) (by rw[h];trivial) (.inl rfl) (fun b u hb q=>(Heap.get?_update_other _ _ (Ne.symm hb)).trans q) ⟨_,e⟩ ?_;exact⟨hz,its',n',r,e⟩
def Ti:V->V->V->Hp->(Hp->Prop)->Prop:=fun o i v H Q=>∃p xs k j,o=.ref p∧i=.int k∧H p=some (.lst xs)∧Qc xs.length k=some j∧Q (upd H p (.lst (xs.set j v)))
theorem set_list:RT X Ti:=by
 intro pins s σ H o i v ov iv u Q I ro ri rv h;obtain⟨p,xs,k,j,rfl,rfl,hp,hj,q⟩:=h;cases ro;obtain⟨t,rfl⟩:=ri;obtain⟨its,n,r,ho,hz⟩:=I.lst hp;obtain⟨h1,h2,h3,h4⟩:=K1 hj;have hl:=r.length;have hn:=wq;have I':Inv X pins σ (upd H p (.lst (xs.set j v))) { s with heap:=s.heap.update p (Obj.mapSeq (·.setIfInBounds j u)) }:=
  I.R1 hp ho (IU its n j u) (r.set rv j) (by rw[List.length_set];exact hz) s.toks
 by_cases h0:0<=k
 ·have hk:k.toNat=j:=by
   rw[seqIndex_of h0 h4]at h1;exact Option.some.inj h1
  exact W.ki_setAt ho h0 (by lia) (by rw[List.size_toArray,<-hl];exact h4) (by rw[hk];exact⟨_,I',q⟩)
 ·have hk:(k+(its.toArray.size:Int)).toNat=j:=by
   rw[seqIndex_neg (by lia) h3]at h1;rw[List.size_toArray,<-hl];exact Option.some.inj h1
  exact W.ki_setBack ho (by lia) (by rw[List.size_toArray,<-hl];exact h3) (by lia) (by rw[hk];exact⟨_,I',q⟩)
theorem E3(lo hi:Option Int)(n:Nat):(sliceBounds lo hi none n).1=((HT.Im n 0 lo:Nat):Int)∧(sliceBounds lo hi none n).2.1=((HT.Im n n hi:Nat):Int)∧(sliceBounds lo hi none n).2.2=1:=by
 refine⟨?_,?_,rfl⟩
 ·cases lo with
  | none=>simp[sliceBounds,HT.Im]
  | some i=>
   simp only[sliceBounds,HT.Im,Option.getD_none,show(1:Int) > 0 by decide,if_true];by_cases h:i<0
   ·simp only[h,if_true] <;> lia
   ·simp only[h,if_false] <;> lia
 ·cases hi with
  | none=>simp[sliceBounds,HT.Im]
  | some i=>
   simp only[sliceBounds,HT.Im,Option.getD_none,show(1:Int) > 0 by decide,if_true];by_cases h:i<0
   ·simp only[h,if_true] <;> lia
   ·simp only[h,if_false] <;> lia
theorem Cu(its:List Value)(lo hi:Option Int):slicePick its.toArray lo hi none=((its.drop (HT.Im its.length 0 lo)).take (HT.Im its.length its.length hi - HT.Im its.length 0 lo)).toArray:=by
 obtain⟨h1,h2,h3⟩:=E3 lo hi its.toArray.size;unfold slicePick;rw[h1,h2,h3];simp only[sliceRange_one,pick_run,List.size_toArray] <;> rfl
def UE(K:W.Frag):V->Option Int->Option Int->Hp->VK->Prop:=fun x lo hi H Q=>∃a xs,x=.ref a∧aP K H a xs∧∀p,H p=none->Q (.ref p) (upd H p (.lst (IT xs lo hi)))
theorem Qy:U4 X (UE X.K):=by
 intro pins s σ H x v vl vu lo hi sl Q I rx hs pl pu h;obtain⟨a,xs,rfl,hx,q⟩:=h;cases rx;obtain⟨its,r,ht,hz⟩:=I.list hx;have hlen:=r.length;refine⟨"list",_,slot_list_getitem.lookup,ht.isList.typeIs,?_⟩;refine wpAny_getItem_list_slice ht.isList hs pl pu .none (by simp) ?_ (by rw[List.size_toArray] <;> lia);rw[Cu,<-hlen];refine⟨.ref s.heap.objs.size,_,I.laid (t':=s.toks) (o:=.lst (IT xs lo hi)) (fun b ob q=>Heap.get?_push_of_some _ q) (Nat.le_refl _) ?_,rfl,q _ (I.ck.fresh (Nat.le_refl _))⟩;exact⟨Nat.le_trans (GA xs lo hi) hz,_,0,(r.drop (HT.Im xs.length 0 lo)).take (HT.Im xs.length xs.length hi - HT.Im xs.length 0 lo),Heap.get?_push_size _ rfl⟩
def uM:V->Bool
 | .gi=>true
 | .bl _=>true
 | .int _=>true
 | .str _=>true
 | _=>false
def Rj:V->V->Bool
 | .gi,.gi=>true
 | .bl a,.bl b=>a == b
 | .bl a,.int b=>(if a then 1 else 0) == b
 | .int a,.bl b=>a == (if b then 1 else 0)
 | .int a,.int b=>a == b
 | .str a,.str b=>a == b
 | _,_=>false
theorem R3{A:Around}{s:Shared}{y x:V}{u v:Value}(ry:RelV y u)(rx:RelV x v)(fy:uM y=true)(fx:uM x=true):SeqAt.EqAt A s u v (Rj y x):=by
 cases y with
 | gi=>
  cases ry;cases x with
  | gi=>cases rx;exact SeqAt.EqAt.same _
  | bl b=>cases rx;exact SeqAt.EqAt.none_bool b
  | int b=>obtain⟨t,rfl⟩:=rx;exact SeqAt.EqAt.none_int b t
  | str b=>obtain⟨t,rfl⟩:=rx;exact SeqAt.EqAt.none_str b t
  | _=>exact absurd (show false=true from fx) Bool.false_ne_true
 | bl a=>
  cases ry;cases x with
  | gi=>cases rx;exact SeqAt.EqAt.bool_none a
  | bl b=>cases rx;exact SeqAt.EqAt.bool_bool a b
  | int b=>obtain⟨t,rfl⟩:=rx;exact SeqAt.EqAt.bool_int a b t
  | str b=>obtain⟨t,rfl⟩:=rx;exact SeqAt.EqAt.bool_str a b t
  | _=>exact absurd (show false=true from fx) Bool.false_ne_true
 | int a=>
  obtain⟨t',rfl⟩:=ry;cases x with
  | gi=>cases rx;exact SeqAt.EqAt.int_none a t'
  | bl b=>cases rx;exact SeqAt.EqAt.int_bool a t' b
  | int b=>obtain⟨t,rfl⟩:=rx;exact SeqAt.EqAt.int_int a t' b t
  | str b=>obtain⟨t,rfl⟩:=rx;exact SeqAt.EqAt.int_str a t' b t
  | _=>exact absurd (show false=true from fx) Bool.false_ne_true
 | str a=>
  obtain⟨t',rfl⟩:=ry;cases x with
  | gi=>cases rx;exact SeqAt.EqAt.str_none a t'
  | bl b=>cases rx;exact SeqAt.EqAt.str_bool a t' b
  | int b=>obtain⟨t,rfl⟩:=rx;exact SeqAt.EqAt.str_int a t' b t
  | str b=>obtain⟨t,rfl⟩:=rx;exact SeqAt.EqAt.str_str a t' b t
  | _=>exact absurd (show false=true from fx) Bool.false_ne_true
 | _=>exact absurd (show false=true from fy) Bool.false_ne_true
def IV(x:V)(u:Value):Bool:=match u with
 | .none=>Rj .gi x
 | .bool b=>Rj (.bl b) x
 | .int i _=>Rj (.int i) x
 | .str z _=>Rj (.str z) x
 | _=>false
theorem Oq{x y:V}{u:Value}(r:RelV y u)(f:uM y=true):IV x u=Rj y x:=by
 cases y with
 | gi=>cases r;rfl
 | bl b=>cases r;rfl
 | int i=>obtain⟨t,rfl⟩:=r;rfl
 | str z=>obtain⟨t,rfl⟩:=r;rfl
 | _=>exact absurd (show false=true from f) Bool.false_ne_true
theorem uN{x:V}:∀{xs:List V} {us:List Value},Vals xs us->xs.all uM=true->us.any (IV x)=xs.any fun y=>Rj y x
 | _,_,.nil,_=>rfl
 | y::xs,u::us,.cons r t,f=>by
  rw[List.all_cons,Bool.and_eq_true]at f;rw[List.any_cons,List.any_cons,Oq r f.1,uN t f.2]
theorem qb{A:Around}{s:Shared}{x:V}{v:Value}(rx:RelV x v)(fx:uM x=true):∀{xs:List V} {us:List Value},Vals xs us->xs.all uM=true->∀u∈us,SeqAt.EqAt A s u v (IV x u)
 | _,_,.nil,_=>fun u hu=>by cases hu
 | y::xs,u::us,.cons r t,f=>fun u' hu=>by
  rw[List.all_cons,Bool.and_eq_true]at f;rcases List.mem_cons.mp hu with rfl | hu
  ·rw[Oq r f.1];exact R3 r rx f.1 fx
  ·exact qb rx fx t f.2 u' hu
def Ot(x:V)(xs:List V):Bool:=xs.any fun y=>Rj y x
def U6(K:W.Frag)(neg:Bool):R2:=fun x y H Q=>∃p xs,y=.ref p∧(aP K H p xs∨jP K H p xs)∧uM x=true∧xs.all uM=true∧Q (.bl (if neg then !Ot x xs else Ot x xs)) H
theorem rF:vW X (compareOp .In) (U6 X.K false):=by
 intro pins s σ H x y v u Q I rx ry h;obtain⟨p,xs,rfl,hq,fx,fs,q⟩:=h;cases ry;rcases hq with hq | hq
 ·obtain⟨its,r,pl,hz⟩:=I.list hq;refine SeqAt.in_listAt (IV x) pl.isList (fun w hw=>qb rx fx r fs w (by simpa using hw)) ⟨.bl _,H,I,rfl,?_⟩;rw[show its.toArray.any (IV x)=its.any (IV x) by simp,uN r fs];exact q
 ·obtain⟨its,r,pl,hz⟩:=I.tuple hq;refine SeqAt.in_tupleAt (IV x) pl (fun w hw=>qb rx fx r fs w (by simpa using hw)) ⟨.bl _,H,I,rfl,?_⟩;rw[show its.toArray.any (IV x)=its.any (IV x) by simp,uN r fs];exact q
theorem E4:vW X (compareOp .NotIn) (U6 X.K true):=by
 intro pins s σ H x y v u Q I rx ry h;obtain⟨p,xs,rfl,hq,fx,fs,q⟩:=h;cases ry;rcases hq with hq | hq
 ·obtain⟨its,r,pl,hz⟩:=I.list hq;refine SeqAt.notIn_listAt (IV x) pl.isList (fun w hw=>qb rx fx r fs w (by simpa using hw)) ⟨.bl _,H,I,rfl,?_⟩;rw[show its.toArray.any (IV x)=its.any (IV x) by simp,uN r fs];exact q
 ·obtain⟨its,r,pl,hz⟩:=I.tuple hq;refine SeqAt.notIn_tupleAt (IV x) pl (fun w hw=>qb rx fx r fs w (by simpa using hw)) ⟨.bl _,H,I,rfl,?_⟩;rw[show its.toArray.any (IV x)=its.any (IV x) by simp,uN r fs];exact q
theorem ax:nj X (.builtin "len") (fun xs H Q=>∃p ys,xs=[.ref p]∧(aP X.K H p ys∨jP X.K H p ys)∧Q (.int ys.length) H):=by
 intro pins s σ H xs us Q I r h;obtain⟨p,ys,rfl,hq,q⟩:=h;obtain⟨u,rfl,rx⟩:=vals1 r;cases rx;have hn:=wq;rcases hq with hq | hq
 ·obtain⟨its,r',pl,hz⟩:=I.list hq;have hlen:=r'.length;exact Calls.call_len_list pl.isList (by simp only[List.size_toArray] <;> lia) ⟨.int ys.length,H,I.tok _,⟨s.toks+1,by rw[List.size_toArray,hlen]⟩,q⟩
 ·obtain⟨its,r',pl,hz⟩:=I.tuple hq;have hlen:=r'.length;exact len_tuple pl (by simp only[List.size_toArray] <;> lia) ⟨.int ys.length,H,I.tok _,⟨s.toks+1,by rw[List.size_toArray,hlen]⟩,q⟩
theorem oR:nj X (.type "list") (fun xs H Q=>∃p ys,xs=[.ref p]∧(aP X.K H p ys∨jP X.K H p ys)∧∀l,H l=none->Q (.ref l) (upd H l (.lst ys))):=by
 intro pins s σ H xs us Q I r h;obtain⟨p,ys,rfl,hq,q⟩:=h;obtain⟨u,rfl,rx⟩:=vals1 r;cases rx;have fin:∀(its:List Value),Vals ys its->ys.length<=sizeLine->∀(h':Heap) (c':Nat),(∀b o',s.heap.get? b=some o'->h'.get? b=some o') →
   h'.get? s.heap.objs.size=some { cls:=.type "list",dict:=none,data:=.seq its.toArray c',slots:=#[] }->EP X pins σ Q (.ref s.heap.objs.size) { s with heap:=h' }:=fun its r' hz h' c' kp e=>
  ⟨.ref s.heap.objs.size,_,I.laid (t':=s.toks) kp (Nat.le_refl _) (show cT X.prog X.w _ h' _ (.lst ys) from⟨hz,its,c',r',e⟩),rfl,q _ (I.ck.fresh (Nat.le_refl _))⟩
 rcases hq with hq | hq
 ·obtain⟨its,r',pl,hz⟩:=I.list hq;have hlen:=r'.length;obtain⟨o,ho,hc,n,hd⟩:=pl.isList;exact call_list_seq p (.inl rfl) ho hc hd (fun h' c' kp e=>fin its r' hz h' c' kp e) (by simp only[List.size_toArray] <;> lia)
 ·obtain⟨its,r',pl,hz⟩:=I.tuple hq;have hlen:=r'.length;obtain⟨o,ho,hc,n,hd⟩:=pl;exact call_list_seq p (.inr rfl) ho hc hd (fun h' c' kp e=>fin its r' hz h' c' kp e) (by simp only[List.size_toArray] <;> lia)
def U7(K:W.Frag)(T:String)(x:V)(H:Hp):Prop:=match x with
 | .str _=>T="str"
 | .int _=>T="int"
 | .ref p=>(T="list"∧∃xs,aP K H p xs)∨(T="tuple"∧∃o,K.lookup p=some o∧o.cls=.type "tuple"∧o.dict=none)∨
   (T="dict"∧((∃kvs,H p=some (.dK kvs))∨∃kvs,H p=some (.dT kvs)))∨(T="set"∧∃S n,H p=some (.set S n))
 | _=>False
theorem R4{pins:List (Addr×Obj)}{σ:St}{H:Hp}{s:Shared}{T:String}{x:V}{v:Value}(I:Inv X pins σ H s)(r:RelV x v)(ty:U7 X.K T x H) :
  s.TypeIs v T∧∀a,v=.ref a->∃ob,s.heap.get? a=some ob∧ob.dict=none:=by
 cases x with
 | str z=>
  obtain⟨t,rfl⟩:=r;cases (show T="str" from ty);exact⟨typeIs_str s z t,fun _ e=>nomatch e⟩
 | int i=>
  obtain⟨t,rfl⟩:=r;cases (show T="int" from ty);exact⟨typeIs_int s i t,fun _ e=>nomatch e⟩
 | ref p=>
  cases r;rcases ty with ⟨rfl,xs,hq⟩ | ⟨rfl,o,hk,hc,hd⟩ | ⟨rfl,hk⟩ | ⟨rfl,S,n,hk⟩
  ·obtain⟨its,_,pl,_⟩:=I.list hq;refine⟨pl.isList.typeIs,fun a e=>?_⟩;cases e;obtain⟨o,n,e,c,hd,_⟩:=pl;exact⟨o,e,hd⟩
  ·refine⟨⟨o,I.yg p o hk,hc⟩,fun a e=>?_⟩;cases e;exact⟨o,I.yg _ o hk,hd⟩
  ·have z:∃o,s.heap.get? p=some o∧o.ExactDict:=by
    rcases hk with ⟨kvs,hk⟩ | ⟨kvs,hk⟩
    ·obtain⟨_,_,_,_,o,_,_,e,ex,_⟩:=I.ck p _ hk;exact⟨o,e,ex⟩
    ·obtain⟨_,_,_,_,o,_,_,e,ex,_⟩:=I.ck p _ hk;exact⟨o,e,ex⟩
   obtain⟨o,e,ex⟩:=z;refine⟨⟨o,e,ex.1⟩,fun a e2=>?_⟩;cases e2;exact⟨o,e,ex.2.1⟩
  ·obtain⟨o,_,_,_,e,ex,_⟩:=I.ck p _ hk;refine⟨⟨o,e,ex.1⟩,fun a e2=>?_⟩;cases e2;exact⟨o,e,ex.2.1⟩
 | _=>exact False.elim ty
def Vk(K:W.Frag)(T:String)(r:V->List V->Hp->VK->Prop)(to:TE)(t:TA):TE:=fun σ H Q=>to σ H fun x H1=>U7 K T x H1∧t σ H1 fun xs H2=>r x xs H2 Q
variable{o e:Expr}{es:List Expr}{to:TE}{t:TA}{name:Str}{apos cpos:Pos}{T id:String}{r:V->List V->Hp->VK->Prop}
theorem jK(pa:PlainAttrs T)(slot:Slot T name id)(hty:typeOf (.builtin id)=pure (.type "method_descriptor"))(hm:U5 X id r)(ho:PE X o to)(ha:PA X (e::es) t)
  (hbase:attributeBase o name X.env (eval o X.env)=eval o X.env:=by rfl)
  (hfew:((backTo cpos (starEach (e::es) X.env)).all (fun x=>!x.1) && (backToKw cpos (keywordEach [] X.env)).all (fun x=>x.1.isSome)
   && decide ((e::es).length+([]:List Keyword).length+(if ([]:List Keyword).isEmpty then 0 else 1)<30))=true:=by rfl)
  (hline:(apos.endLine == cpos.line)=true:=by rfl) (hs:starEach (e::es) X.env=(false,eval e X.env)::starEach es X.env:=by rfl) (hplain:(backTo cpos (starEach es X.env)).any (·.1)=false:=by rfl) :
  PE X (.Call (.Attribute o name apos) (e::es) [] cpos) (Vk X.K T r to t):=by
 intro pins s σ H Q I h;refine wpAny_Call_method_late hbase hfew hline rfl (cx (ho pins s σ H _ I h) fun v s1 ⟨x,H1,I1,r1,ty,q1⟩=>?_);obtain⟨h1,h2⟩:=R4 I1 r1 ty;refine⟨T,id,pa,slot,hty,h1,h2,?_⟩;have hA:=ha cpos pins s1 σ H1 _ I1 q1;rw[hs]at hA ⊢;refine Calls.callWith_builtin (by show(false || (backTo cpos (starEach es X.env)).any (·.1))=false;rw[hplain] <;> rfl) (Calls.evalArgs_plain ?_);exact cx hA fun us s2 ⟨vs,H2,I2,r2,q2⟩=>hm pins s2 σ H2 x vs v us Q I2 r1 r2 q2
end
end L2
namespace L2
open PySem PySem.Spec PyProof.Rows
def U8(X:Cx)(id:String)(r:V->List V->Hp->VK->Prop):Prop:=
 ∀
  (pins:List (Addr×Obj)) (s:Shared) (σ:St) (H:Hp) (x:V) (xs:List V) (v:Value) (us:List Value) (Q:VK),Inv X pins σ H s->RelV x v->Vals xs us->r x xs H Q →
  wpAny (model X.prog X.w) X.A (call (.builtin id) (v::us)) (EP X pins σ Q) X.xe s
theorem Vals.one:∀{x:V} {us:List Value},Vals [x] us->∃u,us=[u]∧RelV x u
 | _,_,.cons r .nil=>⟨_,rfl,r⟩
theorem Vals.reverse{xs:List V}{us:List Value}(h:Vals xs us):Vals xs.reverse us.reverse:=by
 induction h with
 | nil=>exact .nil
 | cons r t ih=>rw[List.reverse_cons,List.reverse_cons];exact Vals.append ih (.cons r .nil)
theorem Vals.rep{xs:List V}{us:List Value}(h:Vals xs us):∀k:Nat,Vals (List.replicate k xs).flatten (List.replicate k us).flatten
 | 0=>.nil
 | k+1=>by
  rw[List.replicate_succ,List.replicate_succ,List.flatten_cons,List.flatten_cons];exact Vals.append h (Vals.rep h k)
theorem foldl_rep(its:List Value):∀(k:Nat) (acc:List Value),
  List.foldl (fun x1 x2=>x1++x2) acc.toArray (List.replicate k its.toArray)=(acc++(List.replicate k its).flatten).toArray
 | 0,acc=>by simp
 | k+1,acc=>by
  have e:acc.toArray++its.toArray=(acc++its).toArray:=by simp
  have e2:(acc++its)++(List.replicate k its).flatten=acc++(List.replicate (k+1) its).flatten:=by
   rw[List.replicate_succ,List.flatten_cons,List.append_assoc]
  rw[<-e2,<-foldl_rep its k (acc++its),<-e,List.replicate_succ,List.foldl_cons]
section
variable{X:Cx}{pins:List (Addr×Obj)}{σ:St}{H:Hp}{s:Shared}{l b:Addr}{xs ys zs:List V}
theorem Inv.R5{its its':List Value}{n:Nat}{f:Array Value->Array Value}{t':Nat}(I:Inv X pins σ H s)(hH:H l=some (.lst xs))
  (e:s.heap.get? l=some { cls:=.type "list",data:=.seq its.toArray n }) (hf:f its.toArray=its'.toArray) (hv:Vals ys its') (hz:ys.length<=sizeLine) :
  Inv X pins σ (upd H l (.lst ys)) { s with heap:=s.heap.update l (Obj.mapSeq f),toks:=t' }:=by
 have q:=PySem.IsL.update e f;rw[hf]at q;refine I.write (x:=l) (e:=l) (by rw[hH];exact trivial) (.inl rfl) (fun b' u hb hu=>(Heap.get?_update_other s.heap (Obj.mapSeq f) (Ne.symm hb)).trans hu) ⟨_,q⟩ ?_;exact⟨hz,its',_,hv,q⟩
theorem Inv.Tj{its:List Value}{t':Nat}(I:Inv X pins σ H s)(hv:Vals ys its)(hz:ys.length<=sizeLine) :
  Inv X pins σ (upd H s.heap.objs.size (.lst ys)) { s with heap:=s.heap.push { cls:=.type "list",data:=.seq its.toArray },toks:=t' }:=
 I.laid (fun _ _ q=>Heap.get?_push_of_some _ q) (Nat.le_refl _) ⟨hz,its,0,hv,Heap.get?_push_size _ rfl⟩
theorem Inv.fresh(I:Inv X pins σ H s):H s.heap.objs.size=none:=I.ck.fresh (Nat.le_refl _)
theorem Inv.IW(I:Inv X pins σ H s)(hH:H l=some (.lst xs)):xs.length<=sizeLine∧∃(its:List Value) (n:Nat),Vals xs its∧xs.length=its.length∧s.heap.get? l=some { cls:=.type "list",data:=.seq its.toArray n }:=by
 obtain⟨z,its,n,r,e⟩:=I.ck l _ hH;exact⟨z,its,n,r,r.length,e⟩
theorem AA{n:Nat}(h:n<=sizeLine):Builtin.List.listTooLong n=false:=by
 unfold Builtin.List.listTooLong;exact decide_eq_false (by lia)
end
section
variable{X:Cx}
def Qz:V->List V->Hp->VK->Prop:=fun x vs H Q=>∃l xs y,x=.ref l∧vs=[y]∧H l=some (.lst xs)∧xs.length<sizeLine∧Q .gi (upd H l (.lst (xs++[y])))
theorem cP:U8 X "list.append" Qz:=by
 intro pins s σ H x vs v us Q I rx rv h;obtain⟨l,xs,y,rfl,rfl,hH,hz,q⟩:=h;cases rx;obtain⟨u,rfl,ru⟩:=rv.one;obtain⟨z,its,n,r,hl,e⟩:=I.IW hH;refine call_meets F.slot_list_append ⟨_,e,rfl⟩ F.entry_list_append (F.args_list_append_2 _ _) (PySem.list_append l its.toArray n u (by rw[List.size_toArray];lia)) ⟨e,?_⟩;refine⟨.gi,_,I.R5 (its':=its++[u]) hH e (by simp) (r.append (.cons ru .nil)) ?_,rfl,q⟩;rw[List.length_append,List.length_singleton];lia
def QA:V->List V->Hp->VK->Prop:=fun x vs H Q=>∃l b xs zs,x=.ref l∧vs=[.ref b]∧H l=some (.lst xs)∧H b=some (.lst zs)∧xs.length+zs.length<=sizeLine∧Q .gi (upd H l (.lst (xs++zs)))
theorem nZ:U8 X "list.extend" QA:=by
 intro pins s σ H x vs v us Q I rx rv h;obtain⟨l,b,xs,zs,rfl,rfl,hH,hB,hz,q⟩:=h;cases rx;obtain⟨u,rfl,ru⟩:=rv.one;cases ru;obtain⟨z,its,n,r,hl,e⟩:=I.IW hH;obtain⟨z2,its2,n2,r2,hl2,e2⟩:=I.IW hB;have hsz:its.toArray.size+its2.toArray.size<=sizeLine:=by rw[List.size_toArray,List.size_toArray];lia
 have hlong:¬(!its.toArray.isEmpty && Builtin.List.listTooLong (its.toArray.size+its2.toArray.size))=true:=by
  rw[AA hsz,Bool.and_false];exact Bool.false_ne_true
 refine call_meets F.slot_list_extend ⟨_,e,rfl⟩ F.entry_list_extend (F.args_list_extend_2 _ _)
  (AutoSeq1.list_extend_list_list_0 l its.toArray n b its2.toArray n2 hlong (by rw[List.size_toArray];lia) (by lia)) ⟨e,e2,?_⟩
 refine⟨.gi,_,I.R5 (its':=its++its2) hH e (by simp) (r.append r2) ?_,rfl,q⟩;rw[List.length_append];lia
def UG:R2:=fun x y H Q=>∃l b xs zs,x=.ref l∧y=.ref b∧H l=some (.lst xs)∧H b=some (.lst zs)∧xs.length+zs.length<=sizeLine∧∀p,H p=none->Q (.ref p) (upd H p (.lst (xs++zs)))
theorem tE:vW X (binaryOp .Add) UG:=by
 intro pins s σ H x y v u Q I rx ry h;obtain⟨l,b,xs,zs,rfl,rfl,hH,hB,hz,q⟩:=h;cases rx;cases ry;obtain⟨z,its,n,r,hl,e⟩:=I.IW hH;obtain⟨z2,its2,n2,r2,hl2,e2⟩:=I.IW hB;refine PySem.P.add_list e e2 ?_ (by rw[List.size_toArray,List.size_toArray];lia);have ea:its.toArray++its2.toArray=(its++its2).toArray:=by simp
 rw[ea];exact⟨.ref _,_,I.Tj (t':=s.toks) (r.append r2) (by rw[List.length_append];lia),rfl,q _ I.fresh⟩
def UH:R2:=fun x y H Q=>∃l k xs,x=.ref l∧y=.int k∧H l=some (.lst xs)∧-(2 ^ 63)<=k∧k<2 ^ 63∧xs.length * k.toNat<=sizeLine∧
 ∀p,H p=none->Q (.ref p) (upd H p (.lst (List.replicate k.toNat xs).flatten))
theorem len_rep{α:Type}(xs:List α)(k:Nat):(List.replicate k xs).flatten.length=k * xs.length:=by
 induction k with
 | zero=>simp
 | succ k ih=>rw[List.replicate_succ,List.flatten_cons,List.length_append,ih,Nat.succ_mul,Nat.add_comm]
theorem AB:vW X (binaryOp .Mult) UH:=by
 intro pins s σ H x y v u Q I rx ry h;obtain⟨l,k,xs,rfl,rfl,hH,h1,h2,hz,q⟩:=h;cases rx;obtain⟨t,rfl⟩:=ry;obtain⟨z,its,n,r,hl,e⟩:=I.IW hH;have hlen:its.toArray.size * k.toNat<=sizeLine:=by rw[List.size_toArray,<-hl];exact hz
 have hcap:¬its.toArray.size * k.toNat > (2 ^ 63 - 1) / 8:=by
  have:(sizeLine:Nat)<=(2 ^ 63 - 1) / 8:=by decide
  lia
 have hfit:¬(!Builtin.List.listFitsIndex k)=true:=by
  rw[fitsIndex_both h1 h2];exact Bool.false_ne_true
 have hlong:¬Builtin.List.listTooLong (its.toArray.size * k.toNat)=true:=by
  rw[AA hlen];exact Bool.false_ne_true
 have hnew:List.foldl (fun x1 x2=>x1++x2) #[] (List.replicate (if its.toArray.isEmpty=true then 0 else k.toNat) its.toArray)=(List.replicate k.toNat its).flatten.toArray:=by
  have f0:∀m:Nat,List.foldl (fun x1 x2=>x1++x2) #[] (List.replicate m its.toArray)=(List.replicate m its).flatten.toArray:=fun m=>by
   have:=foldl_rep its m [];rw[List.nil_append]at this;exact this
  rw[f0];cases its with
  | nil=>simp
  | cons a r'=>rw[if_neg (by simp)]
 refine wpAny_binaryOp_repeat_ref (T:="list") (U:="int") (by decide) ⟨_,e,rfl⟩ (fun s'=>typeIs_int s' k t) noFill_list_mul F.fills_int_mul F.slot_int_rmul repeat_list F.slot_int_index.lookup
  (call_meets F.slot_int_rmul (typeIs_int s k t) F.entry_int_rmul (F.args_int_rmul_2 _ _) (int___rmul___int_list k t l its.toArray n)
   ⟨e,rfl,⟨_,e,rfl⟩,call_meets F.slot_list_mul ⟨_,e,rfl⟩ F.entry_list_mul (F.args_list_mul_2 _ _) (AutoListH.list___mul___list_int_3 l its.toArray n k t hfit hcap hlong) ⟨e,?_⟩⟩)
 rw[hnew];exact⟨.ref _,_,I.Tj (t':=s.toks) (r.rep k.toNat) (by rw[len_rep,Nat.mul_comm];exact hz),rfl,q _ I.fresh⟩
end
end L2
namespace L2
open PySem PySem.Spec PyProof.Rows
theorem Vals.ints:∀{ns:List Int} {us:List Value},Vals (ns.map V.int) us->IntsAre us ns
 | [],us,h=>by
  rw[List.map_nil]at h;cases h;exact IntsAre.nil
 | n::ns,us,h=>by
  rw[List.map_cons]at h;cases h with
  | cons r t=>
   obtain⟨k,rfl⟩:=r;exact IntsAre.cons n k (Vals.ints t)
theorem oS:∀{us:List Value} {ns:List Int},IntsAre us ns->Vals (ns.map V.int) us
 | _,_,.nil=>by rw[List.map_nil];exact Paired.nil
 | _,_,.cons n t h=>by rw[List.map_cons];exact Paired.cons (show RelV (V.int n) (Value.int n t) from⟨t,rfl⟩) (oS h)
theorem Vals.U9:∀{bs:List Bool} {us:List Value},Vals (bs.map V.bl) us->us=bs.map Value.bool
 | [],us,h=>by
  rw[List.map_nil]at h;cases h;rfl
 | b::bs,us,h=>by
  rw[List.map_cons]at h;cases h with
  | cons r t=>
   cases r;rw[Vals.U9 t,List.map_cons]
theorem Vals.AD{a:Addr}{us:List Value}(r:Vals [V.ref a] us):us=[Value.ref a]:=by
 cases r with
 | cons r t=>
  cases t;cases r
  rfl
section
variable{prog:Program}{w:World}{A:Around}{E:Value->Shared->Prop}{s:Shared}{l:Addr}{its:List Value}{ns:List Int}{Q:Value->Shared->Prop}
theorem QB(hh:A.handled=none)(hl:s.heap.IsList l its.toArray)(hi:IntsAre its ns)
  (h:∀h' tk t',(∀b o,s.heap.get? b=some o->h'.get? b=some o)->Q (.int ns.sum t') { s with heap:=h',toks:=tk }):wpAny (model prog w) A (call (.builtin "sum") [.ref l]) Q E s:=by
 obtain⟨xs,e⟩:=hi.allInts.items;have hn:numsOf (intItems xs).toList=ns:=by rw[<-e];exact hi.numsOf
 rw[nums_intItems]at hn;rw[e]at hl;refine PySem.sum_intListG hh hl fun h' tk t' hk=>?_
 have:=h h' tk t' hk;rw[preSum_eq,List.take_of_length_le (by simp),hn];exact this
theorem QC(hh:A.handled=none)(hl:s.heap.IsList l its.toArray)(hi:IntsAre its ns)(hne:0<ns.length)
  (h:∀h' tk M t',(∀b o,s.heap.get? b=some o->h'.get? b=some o)->M∈ns->(∀a,a∈ns->a<=M)->Q (.int M t') { s with heap:=h',toks:=tk }):wpAny (model prog w) A (call (.builtin "max") [.ref l]) Q E s:=by
 obtain⟨xs,e⟩:=hi.allInts.items;have hn:numsOf (intItems xs).toList=ns:=by rw[<-e];exact hi.numsOf
 rw[nums_intItems]at hn;subst hn;rw[e]at hl;have hsz:0<xs.size:=by simpa using hne
 refine PySem.max_intList hh hl hsz fun v h' tk hv hk=>?_
 obtain⟨t,rfl⟩:=intItems_at hv;obtain⟨h1,h2⟩:=argBest_gt (numAt xs) (xs.size - 1);refine h h' tk _ t hk ?_ fun a ha=>?_
 ·rw[numAt_eq];exact PySem.getD_mem (by rw[List.length_map,Array.length_toList];lia)
 ·obtain⟨j,hj,rfl⟩:=mem_getD ha;rw[List.length_map,Array.length_toList]at hj;rw[<-numAt_eq];exact h2 j (by lia)
theorem QD(hh:A.handled=none)(hl:s.heap.IsList l its.toArray)(hi:IntsAre its ns)(hne:0<ns.length)
  (h:∀h' tk M t',(∀b o,s.heap.get? b=some o->h'.get? b=some o)->M∈ns->(∀a,a∈ns->M<=a)->Q (.int M t') { s with heap:=h',toks:=tk }):wpAny (model prog w) A (call (.builtin "min") [.ref l]) Q E s:=by
 obtain⟨xs,e⟩:=hi.allInts.items;have hn:numsOf (intItems xs).toList=ns:=by rw[<-e];exact hi.numsOf
 rw[nums_intItems]at hn;subst hn;rw[e]at hl;have hsz:0<xs.size:=by simpa using hne
 refine PySem.min_intList hh hl hsz fun v h' tk hv hk=>?_
 obtain⟨t,rfl⟩:=intItems_at hv;obtain⟨h1,h2⟩:=argBest_lt (numAt xs) (xs.size - 1);refine h h' tk _ t hk ?_ fun a ha=>?_
 ·rw[numAt_eq];exact PySem.getD_mem (by rw[List.length_map,Array.length_toList];lia)
 ·obtain⟨j,hj,rfl⟩:=mem_getD ha;rw[List.length_map,Array.length_toList]at hj;rw[<-numAt_eq];exact h2 j (by lia)
end
section
variable{X:Cx}
def UI(K:W.Frag):List V->Hp->VK->Prop:=fun vs H Q=>∃(a:Addr) (ns:List Int),vs=[V.ref a]∧aP K H a (ns.map V.int)∧Q (.int ns.sum) H
def UJ(K:W.Frag):List V->Hp->VK->Prop:=fun vs H Q=>∃(a:Addr) (ns:List Int),vs=[V.ref a]∧aP K H a (ns.map V.int)∧0<ns.length∧∀m,m∈ns->(∀y,y∈ns->y<=m)->Q (.int m) H
def UK(K:W.Frag):List V->Hp->VK->Prop:=fun vs H Q=>∃(a:Addr) (ns:List Int),vs=[V.ref a]∧aP K H a (ns.map V.int)∧0<ns.length∧∀m,m∈ns->(∀y,y∈ns->m<=y)->Q (.int m) H
theorem IX(hc:X.calm=true):nj X (.builtin "sum") (UI X.K):=by
 intro pins s σ H vs us Q I r h;obtain⟨a,ns,rfl,hs,q⟩:=h;obtain⟨its,rv,hl,_⟩:=I.list hs;rw[Vals.AD r];exact QB (I.ok.hd hc) hl.isList rv.ints fun h' tk t' hk=>⟨.int _,H,I.kept hk,⟨_,rfl⟩,q⟩
theorem R6(hc:X.calm=true):nj X (.builtin "max") (UJ X.K):=by
 intro pins s σ H vs us Q I r h;obtain⟨a,ns,rfl,hs,hne,q⟩:=h;obtain⟨its,rv,hl,_⟩:=I.list hs;rw[Vals.AD r];exact QC (I.ok.hd hc) hl.isList rv.ints hne fun h' tk m t' hk h1 h2=>⟨.int _,H,I.kept hk,⟨_,rfl⟩,q m h1 h2⟩
theorem R7(hc:X.calm=true):nj X (.builtin "min") (UK X.K):=by
 intro pins s σ H vs us Q I r h;obtain⟨a,ns,rfl,hs,hne,q⟩:=h;obtain⟨its,rv,hl,_⟩:=I.list hs;rw[Vals.AD r];exact QD (I.ok.hd hc) hl.isList rv.ints hne fun h' tk m t' hk h1 h2=>⟨.int _,H,I.kept hk,⟨_,rfl⟩,q m h1 h2⟩
end
theorem Ou{prog:Program}{w:World}{A:Around}{E:Value->Shared->Prop}{s:Shared}{l:Addr}{items:Array Value}{Q:Value->Shared->Prop}(hl:s.heap.IsList l items)
  (h:∀s₂:Shared,s₂={ s with heap:=s.heap.push { cls:=.type "list_iterator",data:=.fields #[.ref l,.int 0 0] } } →
   (s₂.heap.IsListIter s.heap.objs.size l 0∧s₂.heap.IsList l items)->l≠s.heap.objs.size->Q (.ref s.heap.objs.size) s₂):wpAny (model prog w) A (pyIter (.ref l)) Q E s:=by
 have hlt:l<s.heap.objs.size:=by obtain⟨_,e,_⟩:=hl;exact Heap.lt_size e
 exact wpAny_pyIter_list hl (h _ rfl ⟨⟨_,Heap.get?_push_size _ rfl,rfl,rfl⟩,hl.push _⟩ (Nat.ne_of_lt hlt))
theorem GB{prog:Program}{w:World}{A:Around}{bs:List Bool}{its:List Value}(e:its=bs.map Value.bool) :
  TruthOf prog w A (fun i v=>its.toArray[i]? = some v) (fun i=>bs.getD i false):=fun i v s Q E hv hq=>by
 have hv':its[i]? = some v:=by simpa using hv
 rw[e,List.getElem?_map]at hv';obtain⟨b,hb,rfl⟩:=Option.map_eq_some_iff.mp hv';have hg:bs.getD i false=b:=by rw[List.getD_eq_getElem?_getD,hb] <;> rfl
 have hq':Q (bs.getD i false) s:=hq;rw[hg]at hq';exact wpAny_truthy_bool hq'
theorem all_range:∀bs:List Bool,(List.range bs.length).all (fun i=>bs.getD i false)=bs.all id
 | []=>rfl
 | b::bs=>by
  rw[List.length_cons,List.range_succ_eq_map,List.all_cons,List.all_map,List.all_cons,<-all_range bs]
  all_goals rfl
section
variable{X:Cx}
def UL(K:W.Frag):List V->Hp->VK->Prop:=fun vs H Q=>∃(a:Addr) (bs:List Bool),vs=[V.ref a]∧aP K H a (bs.map V.bl)∧Q (.bl (bs.all id)) H
theorem E5(hc:X.calm=true):nj X (.builtin "all") (UL X.K):=by
 intro pins s σ H vs us Q I r h;obtain⟨a,bs,rfl,hs,q⟩:=h;obtain⟨its,rv,hl,_⟩:=I.list hs;rw[Vals.AD r];have hb:=rv.U9;refine call_all_walk (Ou hl.isList fun s₂ e2 st hne=>?_);subst e2;refine⟨_,_,_,_,_,_,_,rfl,Walks.list (A:=X.A.in1) (I.ok.hd hc) _ a hne its.toArray,st,GB hb,fun h' tk hk=>?_⟩;refine⟨.bl _,H,I.kept fun b o eo=>hk b o (fun hmem=>?_) (Heap.get?_push_of_some _ eo),?_,q⟩
 ·rcases List.mem_cons.mp hmem with e1 | hmem
  ·exact absurd (e1 ▸ Heap.lt_size eo) (Nat.lt_irrefl _)
  ·cases hmem
 ·show Value.bool _=Value.bool _;rw[<-all_range,hb,List.size_toArray,List.length_map]
end
end L2
namespace L2
open PySem PySem.Spec PyProof.Rows
abbrev Ov(h:Heap)(c:Addr)(v:Option Value):Prop:=h.IsCell c v
def UM(scope sc:Scope):Scope:=
 { scope with names:=scope.names.map fun(n,k)=>if (k == .free && sc.kind == .function && sc.names.lookup n == some .cell)then(n,.cell)else(n,k) }
def cB(cells:List (Str×Addr)):List (Str×NameKind)->List (Str×Addr)->List (Str×Addr)
 | [],acc=>acc
 | (n,k)::r,acc=>if k == .free then cB cells r ((n,(cells.lookup n).getD 0)::acc)else cB cells r acc
theorem uO(env:Env)(f:Str×NameKind->List (Str×Addr)->Sem (ForInStep (List (Str×Addr))))
  (hf:∀n k c,f (n,k) c=if k == .free then(do let a <-cellOf env n;pure (.yield ((n,a)::c)))else pure (.yield c)) :
  ∀(names:List (Str×NameKind)) (acc:List (Str×Addr)),(∀y∈names,y.2=.free->∃c,env.cells.lookup y.1=some c)->forIn names acc f=pure (cB env.cells names acc)
 | [],acc,_=>by rw[List.forIn_nil];rfl
 | (n,k)::r,acc,h=>by
  rw[List.forIn_cons,hf];have ih:=fun acc=>uO env f hf r acc fun y hy=>h y (List.mem_cons_of_mem _ hy)
  unfold cB;by_cases hk:(k == NameKind.free)=true
  ·rw[if_pos hk,if_pos hk];obtain⟨c,hc⟩:=h (n,k) List.mem_cons_self (by simpa using hk);have e:cellOf env n=pure c:=by unfold cellOf;rw[hc]
   rw[e];have e2:(env.cells.lookup n).getD 0=c:=by rw[hc];rfl
   rw[e2];exact ih _
  ·rw[if_neg hk,if_neg hk];exact ih _
theorem IY{scope:Scope}{env:Env}(h:∀y∈scope.names,y.2=.free->∃c,env.cells.lookup y.1=some c):closureFor scope env=pure (cB env.cells scope.names []):=by
 simp only[closureFor];rw[uO env _ (fun n k c=>rfl) scope.names [] h];rfl
theorem mem_lookup{α:Type}:∀{l:List (Str×α)} {n:Str} {c:α},(n,c)∈l->∃c',l.lookup n=some c'
 | (k,v)::r,n,c,h=>by
  rw[List.lookup_cons];cases hb:n == k with
  | true=>exact⟨_,rfl⟩
  | false=>
   rcases List.mem_cons.mp h with e | h
   ·cases e;simp at hb
   ·exact mem_lookup h
theorem nk{cells:List (Str×Addr)}:∀{names:List (Str×NameKind)} {acc:List (Str×Addr)} {n:Str} {c:Addr},(n,c)∈cB cells names acc->(n,c)∈acc∨((n,.free)∈names∧c=(cells.lookup n).getD 0)
 | [],_,_,_,h=>.inl h
 | (m,k)::r,acc,n,c,h=>by
  unfold cB at h
  split at h
  ·rename_i hk;have hk:k=.free:=by simpa using hk
   rcases nk h with h | ⟨h1,h2⟩
   ·rcases List.mem_cons.mp h with e | h
    ·cases e;exact .inr ⟨hk ▸ List.mem_cons_self,rfl⟩
    ·exact .inl h
   ·exact .inr ⟨List.mem_cons_of_mem _ h1,h2⟩
  ·rcases nk h with h | ⟨h1,h2⟩
   ·exact .inl h
   ·exact .inr ⟨List.mem_cons_of_mem _ h1,h2⟩
theorem qc{cells:List (Str×Addr)}:∀{names:List (Str×NameKind)} {acc:List (Str×Addr)} {p:Str×Addr},p∈acc->p∈cB cells names acc
 | [],_,_,h=>h
 | (m,k)::r,acc,p,h=>by
  unfold cB
  split
  ·exact qc (List.mem_cons_of_mem _ h)
  ·exact qc h
theorem qd{cells:List (Str×Addr)}:∀{names:List (Str×NameKind)} {acc:List (Str×Addr)} {n:Str},(n,.free)∈names->(n,(cells.lookup n).getD 0)∈cB cells names acc
 | (m,k)::r,acc,n,h=>by
  unfold cB;rcases List.mem_cons.mp h with e | h
  ·cases e;exact qc List.mem_cons_self
  ·split
   ·exact qd h
   ·exact qd h
theorem n0:∀{names:List (Str×NameKind)} {h:Heap} {acc:List (Str×Addr)} {x:Str} {c:Addr},(x,c)∈cellsFrom h.objs.size names acc →
  (x,c)∈acc∨((x,.cell)∈names∧h.objs.size<=c∧Ov (pushCells h names) c none)
 | [],_,_,_,_,h=>.inl h
 | (n,k)::r,h,acc,x,c,hm=>by
  unfold cellsFrom at hm;unfold pushCells
  split at hm
  ·rename_i hk;rw[if_pos hk];have hk:k=.cell:=by simpa using hk
   rw[<-Heap.size_push h { cls:=.type "cell",data:=.cell none }]at hm;rcases n0 hm with hm | ⟨h1,h2,h3⟩
   ·rcases List.mem_cons.mp hm with e | hm
    ·cases e;exact .inr ⟨hk ▸ List.mem_cons_self,Nat.le_refl _,_,pushCells_keeps r _ _ _ (Heap.get?_push_size _ rfl),rfl⟩
    ·exact .inl hm
   ·rw[Heap.size_push]at h2;exact .inr ⟨List.mem_cons_of_mem _ h1,Nat.le_of_succ_le h2,h3⟩
  ·rename_i hk;rw[if_neg hk];rcases n0 hm with hm | ⟨h1,h2,h3⟩
   ·exact .inl hm
   ·exact .inr ⟨List.mem_cons_of_mem _ h1,h2,h3⟩
theorem rH:∀{names:List (Str×NameKind)} {n:Nat} {acc:List (Str×Addr)} {p:Str×Addr},p∈acc->p∈cellsFrom n names acc
 | [],_,_,_,h=>h
 | (m,k)::r,n,acc,p,h=>by
  unfold cellsFrom
  split
  ·exact rH (List.mem_cons_of_mem _ h)
  ·exact rH h
theorem wy:∀{names:List (Str×NameKind)} {n:Nat} {acc:List (Str×Addr)} {x:Str},(x,.cell)∈names->∃c,(x,c)∈cellsFrom n names acc
 | (m,k)::r,n,acc,x,h=>by
  unfold cellsFrom;rcases List.mem_cons.mp h with e | h
  ·cases e;exact⟨n,rH List.mem_cons_self⟩
  ·split
   ·exact wy h
   ·exact wy h
theorem wz:∀{names:List (Str×NameKind)} {h:Heap} {acc:List (Str×Addr)} {x y:Str} {c:Addr},(∀p∈acc,p.2<h.objs.size)->(∀x y c,(x,c)∈acc->(y,c)∈acc->x=y) →
  (x,c)∈cellsFrom h.objs.size names acc->(y,c)∈cellsFrom h.objs.size names acc->x=y
 | [],_,_,_,_,_,_,hi,h1,h2=>hi _ _ _ h1 h2
 | (n,k)::r,h,acc,x,y,c,hl,hi,h1,h2=>by
  unfold cellsFrom at h1 h2
  split at h1
  ·rename_i hk;rw[if_pos hk]at h2;rw[<-Heap.size_push h { cls:=.type "cell",data:=.cell none }]at h1 h2;refine wz (h:=h.push _) (fun p hp=>?_) (fun x y c a b=>?_) h1 h2
   ·rw[Heap.size_push];rcases List.mem_cons.mp hp with rfl | hp
    ·exact Nat.lt_succ_self _
    ·exact Nat.lt_succ_of_lt (hl p hp)
   ·rcases List.mem_cons.mp a with e | a <;> rcases List.mem_cons.mp b with e' | b
    ·cases e;cases e';rfl
    ·cases e;exact absurd (hl _ b) (Nat.lt_irrefl _)
    ·cases e';exact absurd (hl _ a) (Nat.lt_irrefl _)
    ·exact hi _ _ _ a b
  ·rename_i hk;rw[if_neg hk]at h2;exact wz hl hi h1 h2
theorem GC{M:Model}{A:Around}{E:Value->Shared->Prop}{s:Shared}{scope:Scope}{globals:Addr}{closure:List (Str×Addr)}{qual:Str}{func:Option Addr}{code:Value}{around:Env}{builtins:Addr}{Q:Env->Shared->Prop}
  (h:Q (newEnv scope s.heap.objs.size globals (cellsFrom (s.heap.objs.size+1) scope.names closure) qual func code (some around) builtins)
   { s with heap:=pushCells (s.heap.push { cls:=.type "dict",data:=.dict #[] }) scope.names }) :
  wpAny M A (newFunctionEnv scope globals closure [] qual func code (some around) builtins) Q E s:=by
 simp only[newFunctionEnv,Option.isSome_some,if_true];refine wpAny_bind (wpAny_alloc ?_);refine wpAny_bind (wpAny_layCells _ (fun n k c=>rfl) scope.names closure _ _ ?_);rw[show({ s with heap:=s.heap.push { cls:=.type "dict",data:=.dict #[] } }:Shared).heap.objs.size=s.heap.objs.size+1 from Heap.size_push ..];rw[List.forIn_nil];exact wpAny_bind (wpAny_pure (wpAny_pure h))
theorem qe{sc:Scope}:∀{names:List (Str×NameKind)} {x:Str} {k:NameKind},
  (names.map fun(n,k)=>if (k == NameKind.free && sc.kind == .function && sc.names.lookup n == some .cell)then(n,NameKind.cell)else(n,k)).lookup x=some k →
  ∃k',names.lookup x=some k'∧(k=k'∨(k'=.free∧k=.cell))
 | [],_,_,h=>by simp at h
 | (n,k₀)::r,x,k,h=>by
  have ih:=@qe sc r x k;have h':List.lookup x ((if (k₀ == NameKind.free && sc.kind == .function && sc.names.lookup n == some .cell)=true then(n,NameKind.cell)else(n,k₀))::(r.map _))=some k:=h;cases hx:x == n with
  | true=>
   simp only[List.lookup_cons,hx];by_cases hc:(k₀ == NameKind.free && sc.kind == .function && sc.names.lookup n == some .cell)=true
   ·rw[if_pos hc]at h';simp only[List.lookup_cons,hx]at h';cases h';simp only[Bool.and_eq_true,beq_iff_eq]at hc;exact⟨k₀,rfl,.inr ⟨hc.1.1,rfl⟩⟩
   ·rw[if_neg hc]at h';simp only[List.lookup_cons,hx]at h';cases h';exact⟨_,rfl,.inl rfl⟩
  | false=>
   simp only[List.lookup_cons,hx];by_cases hc:(k₀ == NameKind.free && sc.kind == .function && sc.names.lookup n == some .cell)=true
   ·rw[if_pos hc]at h';simp only[List.lookup_cons,hx]at h';exact ih h'
   ·rw[if_neg hc]at h';simp only[List.lookup_cons,hx]at h';exact ih h'
structure GD(N:List Str)(sc scope:Scope)(own:List (Str×Nat)):Prop where
 kind:scope.kind=.function
 uniq:∀y∈scope.names,scope.names.lookup y.1=some y.2
 ix:∀p∈own,N[p.2]? = some p.1
 free:∀y∈scope.names,y.2=.free->sc.names.lookup y.1=some .cell∨sc.names.lookup y.1=some .free
 own:∀y∈scope.names,y.2=.local∨y.2=.cell->y.1∈own.map (·.1)∨y.1 ∉ N
def wipe(σ:St):List Nat->St
 | []=>σ
 | v::vs=>(wipe σ vs).set v none
theorem qf(σ:St):∀vs:List Nat,(wipe σ vs).length=σ.length
 | []=>rfl
 | v::vs=>by unfold wipe;rw[List.length_set,qf σ vs]
theorem wA{σ:St}{i:Nat}{x:V}:∀{vs:List Nat},(wipe σ vs)[i]? = some (some x)->σ[i]? = some (some x)∧i ∉ vs
 | [],h=>⟨h,by simp⟩
 | v::vs,h=>by
  unfold wipe at h;by_cases hi:v=i
  ·subst hi;by_cases hv:v<(wipe σ vs).length
   ·rw[List.getElem?_set_self hv]at h;cases h
   ·rw[List.getElem?_eq_none (by simpa using hv)]at h;cases h
  ·rw[List.getElem?_set_ne hi]at h;obtain⟨h1,h2⟩:=wA h;exact⟨h1,by simp only[List.mem_cons,not_or];exact⟨fun e=>hi e.symm,h2⟩⟩
abbrev Cx.E6(X:Cx)(s:Shared)(H:Hp)(scope:Scope)(cenv:Env)(fp:List Addr):Cx:={ X with D0:=s,SQ:=H,env:=cenv,outer:=X.stack,ex:=fp,fn:=fun x=>scope.names.lookup x == some .cell,pn:=[],xe:=fun _ _=>False }
section
variable{X:Cx}{pins:List (Addr×Obj)}{σ:St}{H:Hp}{s:Shared}
theorem GF{scope:Scope}{own:List (Str×Nat)}{fp:List Addr}(I:Inv X pins σ H s)(ok:GD X.N X.env.scope scope own)(hN:X.N.Nodup)(hfp:∀b∈fp,Ct X pins H b∧b<s.heap.objs.size) :
  Inv (X.E6 s H scope (compEnvC scope (cellsFrom (s.heap.objs.size+1) scope.names (cB X.env.cells scope.names [])) s.heap.objs.size X.env) fp) [] (wipe σ (own.map (·.2))) H { s with heap:=pushCells (s.heap.push { cls:=.type "dict",data:=.dict #[] }) scope.names }:=by
 have hfree:∀y∈scope.names,y.2=.free->∃c,X.env.cells.lookup y.1=some c:=fun y hy e=>by
  rcases ok.free y hy e with k | k
  ·exact I.ok.has _ (.inl k)
  ·exact I.ok.has _ (.inr k)
 generalize hcenv:compEnvC scope (cellsFrom (s.heap.objs.size+1) scope.names (cB X.env.cells scope.names [])) s.heap.objs.size X.env=cenv
 have kp:∀b o,s.heap.get? b=some o->(pushCells (s.heap.push { cls:=.type "dict",data:=.dict #[] }) scope.names).get? b=some o:=fun b o e=>pushCells_keeps _ _ _ _ (Heap.get?_push_of_some _ e)
 have hL:cenv.locals=s.heap.objs.size:=by rw[<-hcenv];rfl
 have hcl:cenv.cells=cellsFrom (s.heap.objs.size+1) scope.names (cB X.env.cells scope.names []):=by rw[<-hcenv];rfl
 have hsc:cenv.scope=UM scope X.env.scope:=by rw[<-hcenv];rfl
 rw[<-Heap.size_push s.heap { cls:=.type "dict",data:=.dict #[] }]at hcl;have cm:∀{y c},(y,c)∈cB X.env.cells scope.names []->X.env.cells.lookup y=some c∧c<s.heap.objs.size:=fun {y c} hm=>by
  rcases nk hm with hm | ⟨h1,rfl⟩
  ·cases hm
  ·obtain⟨c,hc⟩:=hfree _ h1 rfl;rw[hc];obtain⟨w,z⟩:=I.cell _ _ hc;exact⟨rfl,z.lt⟩
 have mem:∀{y c},cenv.cells.lookup y=some c->(X.env.cells.lookup y=some c∧c<s.heap.objs.size)∨(s.heap.objs.size+1<=c∧Ov (pushCells (s.heap.push { cls:=.type "dict",data:=.dict #[] }) scope.names) c none):=fun {y c} e=>by
  rw[hcl]at e;rcases n0 (PySem.mem_of_lookup e)with hm | ⟨_,h2,h3⟩
  ·exact .inl (cm hm)
  ·rw[Heap.size_push]at h2;exact .inr ⟨h2,h3⟩
 have look:∀{y},scope.names.lookup y=some .free->∃c,cenv.cells.lookup y=some c∧X.env.cells.lookup y=some c:=fun {y} hl=>by
  have hy:(y,NameKind.free)∈scope.names:=PySem.mem_of_lookup hl;obtain⟨c',e'⟩:=mem_lookup (rH (names:=scope.names) (n:=(s.heap.push { cls:=.type "dict",data:=.dict #[] }).objs.size) (qd (cells:=X.env.cells) (acc:=[]) hy));rw[<-hcl]at e';refine⟨c',e',?_⟩;rw[hcl]at e';rcases n0 (PySem.mem_of_lookup e')with hm | ⟨h1,_,_⟩
  ·exact(cm hm).1
  ·have:=ok.uniq _ h1;rw[hl]at this;cases this
 have okB:(X.E6 s H scope cenv fp).Ok:=by
  refine⟨I.ok.mod,by show cenv.scope.kind=_;rw[hsc];exact ok.kind,by show cenv.globals=_;rw[<-hcenv];exact I.ok.glob,by show cenv.builtins=_;rw[<-hcenv];exact I.ok.blt,by show s.heap.objs.size<=cenv.locals;rw[hL];exact Nat.le_refl _,
   fun y z c e1 e2=>?_,fun y hy=>?_,fun y c z e=>?_,I.ok.hd,I.ok.frames,.inl rfl,fun b hb=>⟨?_,fun y c e z=>?_⟩,I.bs,Nat.le_trans I.ok.Qm I.sz,fun b o e hb=>?_,fun b hb z=>?_,I.stack,I.KJ⟩
  ·have e1:cenv.cells.lookup y=some c:=e1;have e2:cenv.cells.lookup z=some c:=e2;rw[hcl]at e1 e2;refine wz (fun p hp=>?_) (fun y z c a b=>I.ok.inj y z c (cm a).1 (cm b).1) (PySem.mem_of_lookup e1) (PySem.mem_of_lookup e2);rw[Heap.size_push];exact Nat.lt_succ_of_lt (cm (y:=p.1) (c:=p.2) hp).2
  ·show ∃c,cenv.cells.lookup y=some c;have key:∀k,cenv.kindOf y=some k->(k=.cell∨k=.free)->∃c,cenv.cells.lookup y=some c:=fun k hk hk'=>by
    unfold Env.kindOf at hk;rw[hsc]at hk;obtain⟨k',e,r⟩:=qe hk;have:k'=.cell∨k'=.free:=by
     rcases r with rfl | ⟨rfl,_⟩
     ·exact hk'
     ·exact .inr rfl
    rcases this with rfl | rfl
    ·obtain⟨c,hm⟩:=wy (n:=(s.heap.push { cls:=.type "dict",data:=.dict #[] }).objs.size) (acc:=cB X.env.cells scope.names []) (PySem.mem_of_lookup e);obtain⟨c',e'⟩:=mem_lookup hm;exact⟨c',by rw[hcl];exact e'⟩
    ·obtain⟨c,h1,_⟩:=look e;exact⟨c,h1⟩
   rcases hy with hy | hy
   ·exact key _ hy (.inl rfl)
   ·exact key _ hy (.inr rfl)
  ·have z:(scope.names.lookup y == some NameKind.cell)=true:=z;have z:scope.names.lookup y=some .cell:=by simpa using z
   have e:cenv.cells.lookup y=some c:=e;rw[hcl]at e;rcases n0 (PySem.mem_of_lookup e)with hm | ⟨_,h2,_⟩
   ·rcases nk hm with hm | ⟨h1,_⟩
    ·cases hm
    ·have q:=ok.uniq _ h1;rw[z]at q;cases q
   ·rw[Heap.size_push]at h2;exact Nat.le_of_succ_le h2
  ·show b≠cenv.locals;rw[hL];exact Nat.ne_of_lt (hfp b hb).2
  ·have e:cenv.cells.lookup y=some c:=e;rcases mem e with ⟨h1,_⟩ | ⟨h1,_⟩
   ·exact(hfp b hb).1.2.2.2.2.1 y c h1 z
   ·have h2:s.heap.objs.size+1<=b:=by rw[<-z];exact h1
    exact absurd (Nat.lt_of_lt_of_le (hfp b hb).2 (Nat.le_of_succ_le h2)) (Nat.lt_irrefl _)
  ·rcases(hfp b hb).1.2.2.2.1 with z | z
   ·exact I.ok.N3 b o e z
   ·exact absurd (Nat.lt_of_lt_of_le (Heap.lt_size e) (Nat.le_trans I.ok.Qm z)) (Nat.lt_irrefl _)
  ·rcases List.mem_cons.mp (I.IG b z)with z | z
   ·exact(hfp b hb).1.2.1 z
   ·exact(hfp b hb).1.2.2.1 z
 refine⟨okB,rfl,I.bare,Un.kept kp,⟨fun _=>none,?_,fun i y av e1 e2 e3=>?_⟩,fun y c e=>?_,?_,fun y c e=>?_,fun p hp=>?_,I.ck.kept kp,by rw[qf];exact I.len⟩
 ·show Heap.Ns _ cenv.locals _;rw[hL];exact Heap.Ns.keeps (Heap.Ns.new ..) fun b o e=>pushCells_keeps _ _ _ _ e
 ·obtain⟨e2,hne⟩:=wA e2;have hfr:scope.names.lookup y=some .free∧(cenv.kindOf y=some .cell∨cenv.kindOf y=some .free):=by
   have key:∀k,cenv.scope.names.lookup y=some k->k=.local∨k=.cell∨k=.free->scope.names.lookup y=some .free∧(cenv.kindOf y=some .cell∨cenv.kindOf y=some .free):=fun k hk hk'=>by
    have hk0:=hk;rw[hsc]at hk;obtain⟨k',e,r⟩:=qe hk;have no:¬(k'=.local∨k'=.cell):=fun hh=>by
     rcases ok.own _ (PySem.mem_of_lookup e) hh with e' | e'
     ·obtain⟨p,hp,hpy⟩:=List.mem_map.mp e';have e3:=ok.ix p hp;have:p.1=y:=hpy;rw[this]at e3;exact hne (List.mem_map.mpr ⟨p,hp,Ao hN e3 e1⟩)
     ·exact e' (List.mem_of_getElem? e1)
    rcases r with rfl | ⟨rfl,rfl⟩
    ·rcases hk' with rfl | rfl | rfl
     ·exact absurd (.inl rfl) no
     ·exact absurd (.inr rfl) no
     ·exact⟨e,.inr hk0⟩
    ·exact⟨e,.inl hk0⟩
   have e3:SF cenv.scope y:=e3;rcases e3 with e3 | e3 | e3
   ·exact key _ e3 (.inl rfl)
   ·exact key _ e3 (.inr (.inl rfl))
   ·exact key _ e3 (.inr (.inr rfl))
  obtain⟨m,hn,hl⟩:=I.loc;have hvis:SF X.env.scope y:=(ok.free _ (PySem.mem_of_lookup hfr.1) rfl).elim (fun k=>.inr (.inl k)) (fun k=>.inr (.inr k));obtain⟨w,r,q⟩:=hl i y av e1 e2 hvis;refine⟨w,r,.inr ⟨hfr.2,?_⟩⟩;obtain⟨c,h1,h2⟩:=look hfr.1;rcases q with ⟨k,_⟩ | ⟨_,c',e',z⟩
  ·have k:X.env.scope.names.lookup y=some .local:=k;rcases ok.free _ (PySem.mem_of_lookup hfr.1) rfl with k' | k' <;> rw[show X.env.scope.names.lookup y=_ from k']at k <;> cases k
  ·rw[h2]at e';cases e';exact⟨c,h1,z.keeps kp⟩
 ·have e:cenv.cells.lookup y=some c:=e;rcases mem e with ⟨h1,_⟩ | ⟨_,z⟩
  ·obtain⟨w,z⟩:=I.cell y c h1;exact⟨w,z.keeps kp⟩
  ·exact⟨_,z⟩
 ·show H cenv.locals=none;rw[hL];exact I.ck.fresh (Nat.le_refl _)
 ·have e:cenv.cells.lookup y=some c:=e;rcases mem e with ⟨h1,_⟩ | ⟨h1,_⟩
  ·exact I.p6 y c h1
  ·exact I.ck.fresh (Nat.le_of_succ_le h1)
 ·exact absurd (show p∈([]:List (Addr×Obj))++[] from hp) (by simp)
theorem R8{E:Value->Shared->Prop}{D:Addr}{xs:List V}{y:V}{v:Value}{Q:Value->Shared->Prop}(I:Inv X pins σ H s)(hD:H D=some (.lst xs))(hz:xs.length<sizeLine)(r:RelV y v)
  (h:∀s',Inv X pins σ (upd H D (.lst (xs++[y]))) s'->Q .none s'):wpAny (model X.prog X.w) X.A (call (.builtin "list.append") [.ref D,v]) Q E s:=by
 obtain⟨hz',its,n,ri,e⟩:=I.ck D _ hD;have hl:=ri.length;refine append_at (hsz:=by rw[List.size_toArray];lia) e fun h' sb ho'=>?_
 refine h { s with heap:=h' } (I.write (t':=s.toks) (by rw[hD];trivial) (.inl rfl) (fun b u hb q=>(sb.2 b hb).trans q) ⟨_,ho'⟩ ⟨by rw[List.length_append];exact hz,its++[v],n+1,ri.append (.cons r .nil),?_⟩);rw[ho'];simp
def Tn(X:Cx)(ifs:List Expr)(t:TT):Prop:=
 ∀
  (pins:List (Addr×Obj)) (s:Shared) (σ:St) (H:Hp) (Q:Bool->Hp->Prop),Inv X pins σ H s->t σ H Q →
  wpAny (model X.prog X.w) X.A (forIn ifs true fun c r=>if r=true then do let ok <-isTrue c X.env (eval c X.env);pure (ForInStep.yield ok)else pure (ForInStep.yield r)) (TP X pins σ Q) X.xe s
def R9:TT:=fun _ H Q=>Q true H
theorem bX:Tn X [] R9:=fun _ _ _ H _ I h=>wpAny_tests_nil ⟨H,I,h⟩
theorem jr{c:Expr}{t:TT}(h:PT X c t):Tn X [c] t:=fun pins s σ H Q I hw=>wpAny_tests_one (h pins s σ H Q I hw)
end
theorem LU{α:Type}{t:Sem α}{Q Q':α->Shared->Prop}{M:Model}{A:Around}{E:Value->Shared->Prop}{s:Shared}(h:wpAny M A t Q (fun _ _=>False) s)(hQ:∀a s,Q a s->Q' a s):wpAny M A t Q' E s:=wpAny_mono h hQ fun _ _ z=>False.elim z
theorem E7{prog:Program}{w:World}{A:Around}{R:Result->Shared->Prop}{s:Shared}{elt target iter:Expr}{ifs:List Expr}{scope:Scope}{pos:Pos}{it acc:Value}{env:Env}(I:Nat->Shared->Prop)
  (turn:∀n s,I n s->wpAny (model prog w) A (pyNext it) (fun r s₁=>match r with
   | none=>R (.ok .next) s₁
   | some v=>wpAny (model prog w) A (letOwnedTupleGo target it v) (fun _ s₁'=>wpAny (model prog w) A (assign target env v) (fun _ s₂=>
     wpAny (model prog w) A (forIn ifs true fun c r=>if r=true then do let ok <-isTrue c env (eval c env);pure (ForInStep.yield ok)else pure (ForInStep.yield r)) (fun ok s₃=>
      if ok=true then wpAny (model prog w) A (eval elt env) (fun x s₄=>
       wpAny (model prog w) A (call (.builtin "list.append") [acc,x]) (fun _ s₅=>∃m,m<n∧I m s₅) (notedBy (model prog w) A env fun e s'=>R (.error e) s') s₄) (notedBy (model prog w) A env fun e s'=>R (.error e) s') s₃
      else ∃m,m<n∧I m s₃) (notedBy (model prog w) A env fun e s'=>R (.error e) s') s₂) (notedBy (model prog w) A env fun e s'=>R (.error e) s') s₁') (notedBy (model prog w) A env fun e s'=>R (.error e) s') s₁) (notedBy (model prog w) A env fun e s'=>R (.error e) s') s)
  (n:Nat) (h:I n s) :
  codeAny (model prog w) A (.compLoop (.ListComp elt [⟨target,iter,ifs,0⟩] scope pos) 0 it acc env) R s:=by
 refine codeAny_loop rfl I (fun n s hI=>?_) n h;show wpAny _ A ((compTurn (.ListComp elt [⟨target,iter,ifs,0⟩] scope pos) 0 it acc env).onRaise (fun x=>do noteFrame x env;theTreesLotGoes x)) _ _ s;refine wpAny_noted ?_;rw[compTurn_list];refine wpAny_bind (wpAny_standAt (wpAny_bind (wpAny_mono (turn n s hI) (fun r s₁ h₁=>?_) fun _ _ h'=>h')));cases r with
 | none=>exact wpAny_pure h₁
 | some v=>
  refine wpAny_bind (wpAny_mono h₁ (fun _ s₁' h₁'=>?_) fun _ _ h'=>h');refine wpAny_bind (wpAny_mono h₁' (fun _ s₂ h₂=>wpAny_bind (wpAny_mono h₂ (fun ok s₃ h₃=>?_) fun _ _ h'=>h')) fun _ _ h'=>h');cases ok with
  | false=>exact wpAny_pure ⟨rfl,h₃⟩
  | true=>
   exact wpAny_bind (wpAny_bind (wpAny_mono h₃ (fun x s₄ h₄=>wpAny_bind (wpAny_mono h₄ (fun _ s₅ h₅=>wpAny_pure (wpAny_pure ⟨rfl,h₅⟩)) fun _ _ h'=>h')) fun _ _ h'=>h'))
section
variable{X:Cx}
def T9(wi:TI)(g:TG)(tt:TT)(te:TE)(vs:List Nat):TE:=fun σ H Q=>wi σ H fun J H1=>∀D,H1 D=none->∃W:Nat->Nat->Hp->Prop,(∃m,W 0 m (upd H1 D (.lst [])))∧∀i m H,W i m H →
 (J.stop i H∧Q (.ref D) H)∨(J.go i H∧∃Nx:Hp->Prop,(∀H',Nx H'->∃m',m'<m∧W (i+1) m' H')∧∀x H',J.NK i H x H'->g x (wipe σ vs) H' fun σ2 H2=>wipe σ2 vs=wipe σ vs∧tt σ2 H2 fun b H3=>
  if b=true then te σ2 H3 fun y H4=>∃acc,H4 D=some (.lst acc)∧acc.length<sizeLine∧Nx (upd H4 D (.lst (acc++[y])))else Nx H3)
theorem K2{pins:List (Addr×Obj)}{s:Shared}{σ:St}{H:Hp}{Q:VK}{elt tg iter:Expr}{ifs:List Expr}{scope:Scope}{own:List (Str×Nat)}{pos pos':Pos}{wi:TI}{g:TG}{tt:TT}{te:TE}{use:Option (Value->Sem Unit)}{Qf:Value->Shared->Prop}
  (hc:X.calm=true) (hN:X.N.Nodup) (I:Inv X pins σ H s) (hi:PI X tg iter wi) (ok:GD X.N X.env.scope scope own)
  (hg:∀(s:Shared) (H:Hp) (C:Addr) (cl:List (Str×Addr)) (fp:List Addr),PG (X.E6 s H scope (compEnvC scope cl C X.env) fp) tg g) (ht:∀(s:Shared) (H:Hp) (C:Addr) (cl:List (Str×Addr)) (fp:List Addr),Tn (X.E6 s H scope (compEnvC scope cl C X.env) fp) ifs tt)
  (he:∀(s:Shared) (H:Hp) (C:Addr) (cl:List (Str×Addr)) (fp:List Addr),PE (X.E6 s H scope (compEnvC scope cl C X.env) fp) elt te) (hs:∀x,foldedSetIterable iter X.env x=pure x)
  (h:T9 wi g tt te (own.map (·.2)) σ H Q)
  (hRR:∀D C s' m H',Inv X pins σ H' s'->Q (.ref D) H'->s'.heap.Ns C m->Ct X pins H' C->compPost (model X.prog X.w) X.A X.xe use Qf (.ref D) C (.ok .next) s') :
  wpAny (model X.prog X.w) X.A (comprehension (.ListComp elt [⟨tg,iter,ifs,0⟩] scope pos) scope X.env pos' (newList []) false (eval iter X.env) use) Qf X.xe s:=by
 have hfree:∀y∈scope.names,y.2=.free->∃c,X.env.cells.lookup y.1=some c:=fun y hy e=>by
  rcases ok.free y hy e with k | k
  ·exact I.ok.has _ (.inl k)
  ·exact I.ok.has _ (.inr k)
 refine wpAny_comprehension_free (use:=use) rfl hs (IY hfree) ok.kind (fun y hy e=>by rw[ok.uniq y hy,e])
  (cx (hi pins s σ H _ I h) fun xv s1 hx=>cx hx fun itv s2 h2=>?_)
 obtain⟨it,fp,tn,J,H2,e,I2,T,st2,f2,q⟩:=h2;subst e;refine wpAny_newObj_type (GC ?_) (by show 0<=sizeLine;decide)
 generalize hD:s2.heap.objs.size=D
 have hDn:H2 D=none:=I2.ck.fresh (Nat.le_of_eq hD);obtain⟨W,⟨m0,w0⟩,turn⟩:=q D hDn
 generalize hs3:({ s2 with heap:=s2.heap.push { cls:=.type "list",data:=.seq ([]:List Value).toArray } }:Shared)=s3
 have I3:Inv X pins σ (upd H2 D (.lst [])) s3:=by
  rw[<-hs3];refine I2.laid (t':=s2.toks) (fun b o e=>Heap.get?_push_of_some _ e) (Nat.le_of_eq hD) ⟨Nat.zero_le _,[],0,.nil,?_⟩;rw[<-hD];exact Heap.get?_push_size _ rfl
 have h3:s3.heap=s2.heap.push { cls:=.type "list",data:=.seq ([]:List Value).toArray }:=by rw[<-hs3]
 have sz:∀b∈fp,b<s2.heap.objs.size:=fun b hb=>by
  obtain⟨o,e,_⟩:=T.obj _ _ st2 b hb;exact Heap.lt_size e
 have f3:∀b∈fp,Ct X pins (upd H2 D (.lst [])) b∧b<s3.heap.objs.size:=fun b hb=>by
  have hlt:=sz b hb;refine⟨⟨?_,(f2 b hb).2⟩,by rw[h3,Heap.size_push];exact Nat.lt_succ_of_lt hlt⟩;rw[ak (by rw[<-hD];exact Nat.ne_of_lt hlt)];exact(f2 b hb).1
 have st3:tn 0 s3.heap:=T.keep _ _ _ st2 fun b _ o e=>by rw[h3];exact Heap.get?_push_of_some _ e
 have I4:=GF I3 ok hN f3;have pg:=hg s3 (upd H2 D (.lst [])) s3.heap.objs.size (cellsFrom (s3.heap.objs.size+1) scope.names (cB X.env.cells scope.names [])) fp;have pt:=ht s3 (upd H2 D (.lst [])) s3.heap.objs.size (cellsFrom (s3.heap.objs.size+1) scope.names (cB X.env.cells scope.names [])) fp;have pe:=he s3 (upd H2 D (.lst [])) s3.heap.objs.size (cellsFrom (s3.heap.objs.size+1) scope.names (cB X.env.cells scope.names [])) fp;show codeAny _ _ (.compStart (.ListComp elt [⟨tg,iter,ifs,0⟩] scope pos) 0 (.ref it) (.ref D) (compEnvC scope (cellsFrom (s3.heap.objs.size+1) scope.names (cB X.env.cells scope.names [])) s3.heap.objs.size X.env)) (compPost (model X.prog X.w) X.A X.xe use Qf (.ref D) s3.heap.objs.size) { s3 with heap:=pushCells (s3.heap.push { cls:=.type "dict",data:=.dict #[] }) scope.names };have nfp:∀b∈fp,(upd H2 D (.lst [])) b=none:=fun b hb=>(f3 b hb).1.1
 generalize hce:compEnvC scope (cellsFrom (s3.heap.objs.size+1) scope.names (cB X.env.cells scope.names [])) s3.heap.objs.size X.env=ce at I4 pg pt pe ⊢
 have cL:ce.locals=s3.heap.objs.size:=by subst hce;rfl
 generalize hH3:upd H2 D (.lst [])=H3 at I3 I4 pg pt pe w0 nfp f3
 generalize hs4:({ s3 with heap:=pushCells (s3.heap.push { cls:=.type "dict",data:=.dict #[] }) scope.names }:Shared)=s4 at I4 ⊢
 have st4:tn 0 s4.heap:=T.keep _ _ _ st3 fun b _ o e=>by rw[<-hs4];exact pushCells_keeps _ _ _ _ (Heap.get?_push_of_some _ e)
 have stat:∀{σ':St} {H':Hp} {s':Shared},Inv (X.E6 s3 H3 scope ce fp) [] σ' H' s'->(∀b∈fp,H' b=none)->∀b∈fp,Ct (X.E6 s3 H3 scope ce fp) [] H' b:=fun {σ' H' s'} I' hn b hb=>
  ⟨hn b hb,(I'.ok.T5 b hb).1,I'.ok.N4 b hb,.inl hb,fun x c e=>(I'.ok.T5 b hb).2 x c e,fun p hp=>absurd (show p∈([]:List (Addr×Obj))++[] from hp) (by simp)⟩
 have loop:codeAny (model X.prog X.w) X.A (.compLoop (.ListComp elt [⟨tg,iter,ifs,0⟩] scope pos) 0 (.ref it) (.ref D) ce) (compPost (model X.prog X.w) X.A X.xe use Qf (.ref D) s3.heap.objs.size) s4:=by
  refine E7 (fun n s'=>∃i H',Inv (X.E6 s3 H3 scope ce fp) [] (wipe σ (own.map (·.2))) H' s'∧tn i s'.heap∧(∀b∈fp,H' b=none)∧W i n H') ?_ m0 ⟨0,H3,I4,st4,nfp,w0⟩
  rintro n s5 ⟨i,H5,I5,st5,n5,w5⟩
  rcases turn i n H5 w5 with ⟨stop,qq⟩ | ⟨go,Nx,hNx,step⟩
  ·have td:=T.done (X.E6 s3 H3 scope ce fp) rfl rfl rfl hc i [] s5 _ H5 (fun _ _=>False) I5 (stat I5 n5) st5 stop;refine LU td fun r s6 ⟨hr,I6⟩=>?_
   subst hr;have I7:Inv X pins σ H5 s6:=I3.SS (ch:=fp) I6.os I6.base I6.ck I6.bare fun b hb=>⟨(f3 b hb).1.2.2.2.1,(f3 b hb).1.2.1,(f3 b hb).1.2.2.2.2.1,(f3 b hb).1.2.2.2.2.2⟩
   have nC:H5 s3.heap.objs.size=none:=by
    have z:H5 ce.locals=none:=I6.free;rw[cL]at z;exact z
   obtain⟨m,hn,_⟩:=I6.loc;have hn:s6.heap.Ns ce.locals m:=hn;rw[cL]at hn;exact hRR D s3.heap.objs.size s6 m H5 I7 qq hn (I3.N_ (Nat.le_refl _) nC)
  ·have ti:=T.item (X.E6 s3 H3 scope ce fp) rfl rfl rfl hc i [] s5 _ H5 (fun _ _=>False) I5 (stat I5 n5) st5 go;refine LU ti fun r s6 ⟨u,hr,h6⟩=>?_
   subst hr;refine LU h6 fun _ s7 ⟨x,H7,I7,r7,y7,st7,n7⟩=>?_
   have I7':=I7.pinned (stat I7 n7) (T.obj _ _ st7);refine LU (pg _ s7 _ H7 x u _ I7' r7 (step x H7 y7)) fun _ s8 ⟨σ8,H8,I8,hw8,q8⟩=>?_
   refine LU (pt _ s8 σ8 H8 _ I8 q8) fun b s9 ⟨H9,I9,q9⟩=>?_
   have fin:∀{s':Shared} {H':Hp},Inv (X.E6 s3 H3 scope ce fp) ([]++Ar fp s7.heap) σ8 H' s'->Nx H'->∃m,m<n∧∃i H',Inv (X.E6 s3 H3 scope ce fp) [] (wipe σ (own.map (·.2))) H' s'∧tn i s'.heap∧(∀b∈fp,H' b=none)∧W i m H':=fun {s' H'} I' nx=>by
    obtain⟨m',hm,w'⟩:=hNx H' nx;have pin':∀b∈fp,∀o,s7.heap.get? b=some o->s'.heap.get? b=some o∧H' b=none:=fun b hb o e=>
     let z:=I'.pin (b,o) (List.mem_append_right _ (List.mem_append_right _ (tw hb e)))
     ⟨z.1,z.2.1⟩
    have hl:(wipe σ (own.map (·.2))).length=σ8.length:=by rw[<-hw8,qf]
    refine⟨m',hm,i+1,H',(I'.uK (pins:=[])).weak hl (fun j v e=>?_),T.keep _ _ _ st7 fun b hb o e=>(pin' b hb o e).1,fun b hb=>?_,w'⟩
    ·rw[<-hw8]at e;exact(wA e).1
    ·obtain⟨o,e,_⟩:=T.obj _ _ st7 b hb;exact(pin' b hb o e).2
   cases b with
   | false=>
    simp only[Bool.false_eq_true,if_false]at q9 ⊢;exact fin I9 q9
   | true=>
    simp only[if_true]at q9 ⊢;refine LU (pe _ s9 σ8 H9 _ I9 q9) fun z s10 ⟨yv,H10,I10,r10,acc,hD10,hz10,nx⟩=>?_
    exact R8 (X:=X.E6 s3 H3 scope ce fp) I10 hD10 hz10 r10 fun s11 I11=>fin I11 nx
 exact codeAny_compStart_list loop (T.self X.A 0 _ _ _ st4 loop)
theorem fq{elt tg iter:Expr}{ifs:List Expr}{scope:Scope}{own:List (Str×Nat)}{pos:Pos}{wi:TI}{g:TG}{tt:TT}{te:TE}(hc:X.calm=true)(hN:X.N.Nodup)(hi:PI X tg iter wi)(ok:GD X.N X.env.scope scope own)
  (hg:∀(s:Shared) (H:Hp) (C:Addr) (cl:List (Str×Addr)) (fp:List Addr),PG (X.E6 s H scope (compEnvC scope cl C X.env) fp) tg g) (ht:∀(s:Shared) (H:Hp) (C:Addr) (cl:List (Str×Addr)) (fp:List Addr),Tn (X.E6 s H scope (compEnvC scope cl C X.env) fp) ifs tt)
  (he:∀(s:Shared) (H:Hp) (C:Addr) (cl:List (Str×Addr)) (fp:List Addr),PE (X.E6 s H scope (compEnvC scope cl C X.env) fp) elt te) (hs:∀x,foldedSetIterable iter X.env x=pure x:=by intro _;rfl) :
  PE X (.ListComp elt [⟨tg,iter,ifs,0⟩] scope pos) (T9 wi g tt te (own.map (·.2))):=by
 intro pins s σ H Q I h;rw[eval_ListComp];refine K2 hc hN I hi ok hg ht he hs h fun D C s' m H' I' q hn f=>⟨m,hn,fun h'' sb=>?_⟩
 obtain⟨f0,f1,f2,f3,f4,f5⟩:=f;exact⟨.ref D,H',I'.turned (t':=s'.toks) (fun b o hb e=>(sb.2 b hb).trans e) f0 f1 f3 f4 f5,rfl,q⟩
theorem iM{i:Nat}{y:Str}{py:Pos}{elt tg iter:Expr}{ifs:List Expr}{scope:Scope}{own:List (Str×Nat)}{pos spos:Pos}{wi:TI}{g:TG}{tt:TT}{te:TE}(hc:X.calm=true)(hN:X.N.Nodup)(hy:X.N[i]? = some y)(hyl:X.env.scope.names.lookup y=some .local)
  (hsw:swapsWith (.ListComp elt [⟨tg,iter,ifs,0⟩] scope pos) (some (.Name y py)) spos.line X.env=pure true) (hi:PI X tg iter wi) (ok:GD X.N X.env.scope scope own)
  (hg:∀(s:Shared) (H:Hp) (C:Addr) (cl:List (Str×Addr)) (fp:List Addr),PG (X.E6 s H scope (compEnvC scope cl C X.env) fp) tg g) (ht:∀(s:Shared) (H:Hp) (C:Addr) (cl:List (Str×Addr)) (fp:List Addr),Tn (X.E6 s H scope (compEnvC scope cl C X.env) fp) ifs tt)
  (he:∀(s:Shared) (H:Hp) (C:Addr) (cl:List (Str×Addr)) (fp:List Addr),PE (X.E6 s H scope (compEnvC scope cl C X.env) fp) elt te) (hs:∀x,foldedSetIterable iter X.env x=pure x:=by intro _;rfl) :
  PS X (.Assign [.Name y py] (.ListComp elt [⟨tg,iter,ifs,0⟩] scope pos) spos) (RU (T9 wi g tt te (own.map (·.2))) (Gv i)):=by
 intro pins s σ H D I h;rw[exec_Assign_Name_used _ _ _ _ hsw];refine wpAny_bind (wpAny_standAt (wpAny_bind ?_));show wpAny _ X.A (do let _ <-comprehension (.ListComp elt [⟨tg,iter,ifs,0⟩] scope pos) scope X.env (firstIterPos [⟨tg,iter,ifs,0⟩] pos) (newList []) false (eval iter X.env) (some (assign (.Name y py) X.env))) _ _ s;have h:T9 wi g tt te (own.map (·.2)) σ H (fun x H1=>Gv i x σ H1 D.nx):=h;refine wpAny_bind (cx (K2 (Qf:=fun _ s'=>SP X pins D .next s') hc hN I hi ok hg ht he hs h fun L C s' m H' I' q hn f=>?_) fun _ s' hq=>wpAny_pure (wpAny_pure hq));show wpAny _ _ (assign (.Name y py) X.env (.ref L)) _ _ _;refine wpAny_assign_Name (D1 (v:=V.ref L) I' hN hy (.inl hyl) rfl (fun s2 I2 ⟨a,sb,ha⟩=>?_) (.inr hyl));obtain⟨f0,f1,f2,f3,f4,f5⟩:=f;have haC:C≠a:=by
  rcases ha with z | z
  ·rw[z];exact f1
  ·exact fun e=>f4 y a z e.symm
 refine⟨m,hn.sameBut sb haC,fun h3 sb3=>?_⟩;exact⟨_,H',I2.turned (t':=s2.toks) (fun b o hb e=>(sb3.2 b hb).trans e) f0 f1 f3 f4 f5,q⟩
theorem kK{elt:Expr}{gs:List Comprehension}{scope:Scope}{pos py:Pos}{y:Str}{l:Nat}{env:Env}(hk:env.scope.kind=.function)(hy:env.scope.names.lookup y=some .local)(hl:(py.line == pos.line)=true)
  (ha:(scope.names.any fun(n,k)=>n == y && (k == .local || k == .cell))=false):swapsWith (.ListComp elt gs scope pos) (some (.Name y py)) l env=pure true:=by
 have ky:env.kindOf y=some .local:=hy;have hb:env.blockKind=.function:=by unfold Env.blockKind;rw[hk];rfl
 unfold swapsWith;simp only[hb,ky,ha,Expr.pos,hl];rfl
end
theorem GG{lo:Int}{n:Nat}{g:TG}{tt:TT}{te:TE}{vs:List Nat}{σ:St}{H1:Hp}{D:Addr}{Qd:Hp->Prop}(Pv:Nat->Hp->Prop)(h0:Pv 0 (upd H1 D (.lst [])))
  (hs:∀i H,i<n->Pv i H->g (.int (lo+i)) (wipe σ vs) H fun σ2 H2=>wipe σ2 vs=wipe σ vs∧tt σ2 H2 fun b H3=>
   if b=true then te σ2 H3 fun y H4=>∃acc,H4 D=some (.lst acc)∧acc.length<sizeLine∧Pv (i+1) (upd H4 D (.lst (acc++[y])))else Pv (i+1) H3) (hd:∀H,Pv n H->Qd H) :
  ∃
   W:Nat->Nat->Hp->Prop,(∃m,W 0 m (upd H1 D (.lst [])))∧∀i m H,W i m H →
   ((
    Il lo n).stop i H∧Qd H)∨((Il lo n).go i H∧∃Nx:Hp->Prop,(∀H',Nx H'->∃m',m'<m∧W (i+1) m' H')∧∀x H',(Il lo n).NK i H x H'->g x (wipe σ vs) H' fun σ2 H2=>wipe σ2 vs=wipe σ vs∧tt σ2 H2 fun b H3=>
    if b=true then te σ2 H3 fun y H4=>∃acc,H4 D=some (.lst acc)∧acc.length<sizeLine∧Nx (upd H4 D (.lst (acc++[y])))else Nx H3):=by
 refine⟨fun i m H=>m=n - i∧i<=n∧Pv i H,⟨n,by simp,Nat.zero_le _,h0⟩,?_⟩
 rintro i m H ⟨rfl,hi,p⟩
 by_cases hlt:i<n
 ·refine .inr ⟨hlt,Pv (i+1),fun H' p'=>⟨n - (i+1),by lia,rfl,hlt,p'⟩,fun x H' y=>?_⟩;obtain⟨e,y⟩:=y;subst e y;exact hs i _ hlt p
 ·have e:i=n:=by lia
  subst e;exact .inl ⟨Nat.le_refl _,hd H p⟩
theorem QE{K:W.Frag}{a:Addr}{xs:List V}{g:TG}{tt:TT}{te:TE}{vs:List Nat}{σ:St}{H1:Hp}{D:Addr}{Qd:Hp->Prop}(Pv:Nat->Hp->Prop)(h0:Pv 0 (upd H1 D (.lst [])))(hl:∀i H,i<=xs.length->Pv i H->aP K H a xs)
  (hs:∀i x H,xs[i]? = some x->Pv i H->g x (wipe σ vs) H fun σ2 H2=>wipe σ2 vs=wipe σ vs∧tt σ2 H2 fun b H3=>
   if b=true then te σ2 H3 fun y H4=>∃acc,H4 D=some (.lst acc)∧acc.length<sizeLine∧Pv (i+1) (upd H4 D (.lst (acc++[y])))else Pv (i+1) H3) (hd:∀H,Pv xs.length H->Qd H) :
  ∃
   W:Nat->Nat->Hp->Prop,(∃m,W 0 m (upd H1 D (.lst [])))∧∀i m H,W i m H →
   ((
    Oa K a).stop i H∧Qd H)∨((Oa K a).go i H∧∃Nx:Hp->Prop,(∀H',Nx H'->∃m',m'<m∧W (i+1) m' H')∧∀x H',(Oa K a).NK i H x H'->g x (wipe σ vs) H' fun σ2 H2=>wipe σ2 vs=wipe σ vs∧tt σ2 H2 fun b H3=>
    if b=true then te σ2 H3 fun y H4=>∃acc,H4 D=some (.lst acc)∧acc.length<sizeLine∧Nx (upd H4 D (.lst (acc++[y])))else Nx H3):=by
 refine⟨fun i m H=>m=xs.length - i∧i<=xs.length∧Pv i H,⟨xs.length,by simp,Nat.zero_le _,h0⟩,?_⟩
 rintro i m H ⟨rfl,hi,p⟩
 have q:=hl i H hi p;by_cases hlt:i<xs.length
 ·refine .inr ⟨⟨xs,xs[i],q,by simp[hlt]⟩,Pv (i+1),fun H' p'=>⟨xs.length - (i+1),by lia,rfl,hlt,p'⟩,fun x H' y=>?_⟩;obtain⟨e,y⟩:=y;subst e;exact hs i x _ (y xs q) p
 ·have e:i=xs.length:=by lia
  subst e;exact .inl ⟨⟨xs,q,Nat.le_refl _⟩,hd H p⟩
def gu(N:List Str)(sc scope:Scope)(own:List (Str×Nat)):Bool:=
 (match scope.kind with | .function=>true | _=>false) && (scope.names.all fun y=>decide (scope.names.lookup y.1=some y.2)) && (own.all fun p=>decide (N[p.2]? = some p.1)) &&
  (scope.names.all fun y=>match y.2 with
   | .free=>(match sc.names.lookup y.1 with | some .cell=>true | some .free=>true | _=>false)
   | .local=>decide (y.1∈own.map (·.1)) || decide (y.1 ∉ N)
   | .cell=>decide (y.1∈own.map (·.1)) || decide (y.1 ∉ N)
   | _=>true)
theorem aW{N:List Str}{sc scope:Scope}{own:List (Str×Nat)}(h:gu N sc scope own=true):GD N sc scope own:=by
 unfold gu at h;simp only[Bool.and_eq_true,List.all_eq_true,decide_eq_true_eq]at h;obtain⟨⟨⟨h1,h2⟩,h3⟩,h4⟩:=h;refine⟨?_,h2,h3,fun y hy e=>?_,fun y hy e=>?_⟩
 ·split at h1
  ·assumption
  ·cases h1
 ·have q:=h4 y hy;simp only[e]at q
  split at q <;> first | exact .inl (by assumption) | exact .inr (by assumption) | cases q
 ·have q:=h4 y hy;rcases e with e | e <;> (simp only[e,Bool.or_eq_true,decide_eq_true_eq]at q;exact q)
end L2
namespace L2
open PySem PySem.Spec PyProof.Rows
section
variable{κ:Type}[DecidableEq κ]
def gv(kvs:List (κ×V))(k:κ):Option V:=(kvs.find? fun kv=>decide (kv.1=k)).map (·.2)
def putK(kvs:List (κ×V))(k:κ)(v:V):List (κ×V):=
 if (kvs.any fun kv=>decide (kv.1=k))=true then kvs.map (fun kv=>if kv.1=k then(kv.1,v)else kv)else kvs++[(k,v)]
theorem ft{p:κ×V}{r:List (κ×V)}{k:κ}(e:p.1=k):gv (p::r) k=some p.2:=by simp[gv,List.find?_cons,e]
theorem fw{p:κ×V}{r:List (κ×V)}{k:κ}(e:¬p.1=k):gv (p::r) k=gv r k:=by simp[gv,List.find?_cons,e]
theorem mK(k:κ):∀kvs:List (κ×V),(kvs.any fun kv=>decide (kv.1=k))=(gv kvs k).isSome
 | []=>rfl
 | p::r=>by
  rw[List.any_cons];by_cases e:p.1=k
  ·simp only[ft e,decide_eq_true e,Bool.true_or,Option.isSome_some]
  ·rw[fw e,decide_eq_false e,Bool.false_or];exact mK k r
theorem GH(k j:κ)(y:V):∀kvs:List (κ×V),gv (kvs.map fun kv=>if kv.1=k then(kv.1,y)else kv) j=(gv kvs j).map fun x=>if j=k then y else x
 | []=>rfl
 | p::r=>by
  have ih:=GH k j y r;rw[List.map_cons];by_cases h:p.1=k
  ·rw[if_pos h];by_cases e:p.1=j
   ·rw[ft (p:=(p.1,y)) e,ft e,Option.map_some,if_pos (e.symm.trans h)]
   ·rw[fw (p:=(p.1,y)) e,fw e,ih]
  ·rw[if_neg h];by_cases e:p.1=j
   ·rw[ft (p:=p) e,ft e,Option.map_some,if_neg (fun z=>h (e.trans z))]
   ·rw[fw (p:=p) e,fw e,ih]
theorem D_(k j:κ)(y:V):∀kvs:List (κ×V),gv kvs k=none->gv (kvs++[(k,y)]) j=if j=k then some y else gv kvs j
 | [],_=>by
  by_cases e:k=j
  ·rw[if_pos e.symm];exact ft (p:=(k,y)) e
  ·rw[if_neg (fun z=>e z.symm)];exact fw (p:=(k,y)) e
 | p::r,hn=>by
  rw[List.cons_append];have hk:¬p.1=k:=fun z=>by rw[ft z]at hn;cases hn
  rw[fw hk]at hn;have ih:=D_ k j y r hn;by_cases e:p.1=j
  ·rw[ft e,ft e,if_neg (fun z=>hk (e.trans z))]
  ·rw[fw e,fw e,ih]
theorem uP(kvs:List (κ×V))(k j:κ)(y:V):gv (putK kvs k y) j=if j=k then some y else gv kvs j:=by
 unfold putK;by_cases a:(kvs.any fun kv=>decide (kv.1=k))=true
 ·rw[if_pos a,GH];rw[mK]at a;by_cases e:j=k
  ·obtain⟨x,hx⟩:=Option.isSome_iff_exists.mp a;rw[if_pos e,e,hx,Option.map_some,if_pos rfl]
  ·rw[if_neg e];cases gv kvs j with
   | none=>rfl
   | some x=>rw[Option.map_some,if_neg e]
 ·rw[if_neg a];refine D_ k j y kvs ?_;rw[mK]at a;cases q:gv kvs k with
  | none=>rfl
  | some x=>rw[q]at a;exact(a rfl).elim
theorem qh(kvs:List (κ×V))(k:κ)(v:V):(putK kvs k v).length<=kvs.length+1:=by
 unfold putK
 split
 ·rw[List.length_map];lia
 ·rw[List.length_append,List.length_cons,List.length_nil];lia
theorem AE{kvs:List (κ×V)}{k:κ}(v:V)(h:gv kvs k=none):putK kvs k v=kvs++[(k,v)]:=by
 unfold putK;rw[mK,h];exact if_neg (by decide)
theorem pN.n6{o:Option V}{u:Option Value}(r:pN o u):o.isSome=u.isSome:=by
 cases o with
 | none=>cases u with
  | none=>rfl
  | some _=>exact(show False from r).elim
 | some _=>cases u with
  | none=>exact(show False from r).elim
  | some _=>rfl
theorem pN.getD{o:Option V}{u:Option Value}{d:V}{d':Value}(r:pN o u)(rd:RelV d d'):RelV (o.getD d) (u.getD d'):=by
 cases o with
 | none=>cases u with
  | none=>exact rd
  | some _=>exact(show False from r).elim
 | some _=>cases u with
  | none=>exact(show False from r).elim
  | some _=>exact r
theorem KV.val{kvs:List (κ×V)}{vs:List (κ×Value)}(r:KV kvs vs)(k:κ):pN (gv kvs k) (valueAt vs k):=by
 unfold KV at r
 induction r with
 | nil=>exact True.intro
 | @cons p q ps qs h t ih=>
  obtain⟨h1,h2⟩:=h;by_cases e:p.1=k
  ·have e':q.1=k:=h1.symm.trans e;have b:valueAt (q::qs) k=some q.2:=by simp[valueAt,List.find?_cons,e']
   rw[ft e,b];exact h2
  ·have e':¬q.1=k:=fun z=>e (h1.trans z)
   have b:valueAt (q::qs) k=valueAt qs k:=by simp[valueAt,List.find?_cons,e']
   rw[fw e,b];exact ih
theorem KV.any{kvs:List (κ×V)}{vs:List (κ×Value)}(r:KV kvs vs)(k:κ):(kvs.any fun kv=>decide (kv.1=k))=vs.any fun kv=>decide (kv.1=k):=by
 unfold KV at r
 induction r with
 | nil=>rfl
 | cons h t ih=>rw[List.any_cons,List.any_cons,ih,h.1]
theorem KV.R_{kvs:List (κ×V)}{vs:List (κ×Value)}(r:KV kvs vs)(k:κ){y:V}{u:Value}(ry:RelV y u) :
  KV (kvs.map fun kv=>if kv.1=k then(kv.1,y)else kv) (vs.map fun kv=>if kv.1=k then(kv.1,u)else kv):=by
 unfold KV at r ⊢
 induction r with
 | nil=>exact .nil
 | @cons p q ps qs h t ih=>
  rw[List.map_cons,List.map_cons];refine .cons ?_ ih;obtain⟨h1,h2⟩:=h;by_cases e:p.1=k
  ·rw[if_pos e,if_pos (h1.symm.trans e)];exact⟨h1,ry⟩
  ·rw[if_neg e,if_neg (fun z=>e (h1.trans z))];exact⟨h1,h2⟩
theorem KV.put{kvs:List (κ×V)}{vs:List (κ×Value)}(r:KV kvs vs)(k:κ){y:V}{u:Value}(ry:RelV y u):KV (putK kvs k y) (stored vs k u):=by
 unfold putK stored;rw[r.any k];by_cases e:(vs.any fun kv=>decide (kv.1=k))=true
 ·rw[if_pos e,if_pos e];exact r.R_ k ry
 ·rw[if_neg e,if_neg e];exact Paired.snoc r ⟨rfl,ry⟩
theorem KV.length{kvs:List (κ×V)}{vs:List (κ×Value)}(r:KV kvs vs):kvs.length=vs.length:=Paired.length r
end
theorem yl{P:Program}{w:World}{k:Key}{u:Value}(r:RelV (kV k) u):(cO P w).is k u=true:=by
 cases k with
 | inl i=>obtain⟨t,e⟩:=(show ∃t,u=Value.int i t from r);subst e;exact Gp P w i t
 | inr x=>obtain⟨t,e⟩:=(show ∃t,u=Value.str x t from r);subst e;exact Gq P w x t
theorem Ea{P:Program}{w:World}:∀{ks:List Key} {us:List Value},Vals (ks.map kV) us->ItemsAre (cO P w) ks us
 | [],_,r=>by rw[List.map_nil]at r;cases r;exact .nil
 | k::ks,_,r=>by
  rw[List.map_cons]at r;cases r with
  | cons h t=>exact .cons (yl h) (Ea t)
abbrev KT(H:Hp):List (List Key×V)->List (List Key×Addr×Value)->Prop:=Paired fun p q=>p.1=q.1∧H q.2.1=some (.tup (p.1.map kV))∧RelV p.2 q.2.2
theorem KT.val{H:Hp}{kvs:List (List Key×V)}{xs:List (List Key×Addr×Value)}(r:KT H kvs xs)(k:List Key):pN (gv kvs k) ((atKey xs k).map (·.2)):=by
 induction r with
 | nil=>exact True.intro
 | @cons p q ps qs h t ih=>
  obtain⟨h1,_,h2⟩:=h;by_cases e:p.1=k
  ·have e':q.1=k:=h1.symm.trans e;have b:atKey (q::qs) k=some q.2:=by simp[atKey,List.find?_cons,e']
   rw[ft e,b];exact h2
  ·have e':¬q.1=k:=fun z=>e (h1.trans z)
   have b:atKey (q::qs) k=atKey qs k:=by simp[atKey,List.find?_cons,e']
   rw[fw e,b];exact ih
theorem KT.R_{H:Hp}{kvs:List (List Key×V)}{xs:List (List Key×Addr×Value)}(r:KT H kvs xs)(k:List Key){y:V}{u:Value}(ry:RelV y u) :
  KT H (kvs.map fun kv=>if kv.1=k then(kv.1,y)else kv) (xs.map (putAt k u)):=by
 induction r with
 | nil=>exact .nil
 | @cons p q ps qs h t ih=>
  rw[List.map_cons,List.map_cons];refine .cons ?_ ih;obtain⟨h1,h2,h3⟩:=h;unfold putAt;by_cases e:p.1=k
  ·rw[if_pos e,if_pos (h1.symm.trans e)];exact⟨h1,h2,ry⟩
  ·rw[if_neg e,if_neg (fun z=>e (h1.trans z))];exact⟨h1,h2,h3⟩
theorem KT.put{H:Hp}{kvs:List (List Key×V)}{xs:List (List Key×Addr×Value)}(r:KT H kvs xs)(k:List Key){b:Addr}{y:V}{u:Value}(hb:H b=some (.tup (k.map kV)))(ry:RelV y u) :
  KT H (putK kvs k y) (storedH xs k b u):=by
 have e:(kvs.any fun kv=>decide (kv.1=k))=(atKey xs k).isSome:=by
  rw[mK,(r.val k).n6,Option.isSome_map]
 unfold putK storedH;rw[e];by_cases q:(atKey xs k).isSome=true
 ·rw[if_pos q,if_pos q];exact r.R_ k ry
 ·rw[if_neg q,if_neg q];exact Paired.snoc r ⟨rfl,hb,ry⟩
theorem KT.keeps{H H':Hp}{kvs:List (List Key×V)}{xs:List (List Key×Addr×Value)}(r:KT H kvs xs)(ht:∀b ys,H b=some (.tup ys)->H' b=some (.tup ys)):KT H' kvs xs:=
 Paired.RO r fun _ _ z=>⟨z.1,ht _ _ z.2.1,z.2.2⟩
section
variable{P:Program}{w:World}{H:Hp}{h:Heap}{a:Addr}
theorem Rk{u:HO}(ok:p5 P w H h)(e:Rd H a u):cT P w H h a u:=e.ok ok
theorem ym{kvs:List (Key×V)}(ok:p5 P w H h)(e:Rd H a (.dK kvs)):kvs.length<=sizeLine∧(a == sysModules)=false∧∃vs,KV kvs vs∧h.DictOf (cO P w) a vs:=
 show cT P w H h a (.dK kvs) from Rk ok e
theorem Rl{kvs:List (Key×V)}(ok:p5 P w H h)(e:H a=some (.dK kvs)):kvs.length<=sizeLine∧(a == sysModules)=false∧∃vs,KV kvs vs∧h.DictOf (cO P w) a vs:=ym ok (.inl e)
theorem tF{ks:List Key}(ok:p5 P w H h)(e:H a=some (.tup (ks.map kV))):(tupleKind (cO P w)).is h ks a:=by
 obtain⟨_,its,r,o,h1,h2,n,h3⟩:=(show cT P w H h a (.tup (ks.map kV)) from ok a _ e);exact⟨o,its.toArray,n,h1,h2,h3,by simpa using Ea r⟩
theorem yn{kvs:List (List Key×V)}(ok:p5 P w H h)(e:Rd H a (.dT kvs)):kvs.length<=sizeLine∧(a == sysModules)=false∧
  ∃xs,KT H kvs xs∧h.DictOfH (tupleKind (cO P w)) a xs:=by
 obtain⟨z,y,xs,r,o,es,ep,h1,h2,h3,h4,h5⟩:=(show cT P w H h a (.dT kvs) from Rk ok e);refine⟨z,y,xs,r,o,es,ep,h1,h2,h3,h4,fun x hx=>?_,h5⟩;have all:∀{l:List (List Key×V)} {m:List (List Key×Addr×Value)},KT H l m->∀x∈m,(tupleKind (cO P w)).is h x.1 x.2.1:=by
  intro l m q
  induction q with
  | nil=>intro x hx;exact nomatch hx
  | @cons p q ps qs hq t ih=>
   intro x hx;rcases List.mem_cons.mp hx with e | hx
   ·subst e;exact tF ok (by rw[<-hq.1];exact hq.2.1)
   ·exact ih x hx
 exact all r x hx
theorem To{kvs:List (List Key×V)}(ok:p5 P w H h)(e:H a=some (.dT kvs)):kvs.length<=sizeLine∧(a == sysModules)=false∧
  ∃xs,KT H kvs xs∧h.DictOfH (tupleKind (cO P w)) a xs:=yn ok (.inl e)
end
def kg(H:Hp)(a:Addr)(y:V)(r:Option V):Prop:=
 (∃kvs k,Rd H a (.dK kvs)∧y=kV k∧r=gv kvs k)∨∃kvs k b,Rd H a (.dT kvs)∧y=.ref b∧H b=some (.tup (k.map kV))∧r=gv kvs k
def AF(H:Hp)(a:Addr)(y v:V)(H':Hp):Prop:=
 (∃kvs k,H a=some (.dK kvs)∧y=kV k∧kvs.length<sizeLine∧H'=upd H a (.dK (putK kvs k v)))∨
 ∃kvs k b,H a=some (.dT kvs)∧y=.ref b∧H b=some (.tup (k.map kV))∧kvs.length<sizeLine∧H'=upd H a (.dT (putK kvs k v))
theorem kg.k{H:Hp}{a:Addr}{kvs:List (Key×V)}{k:Key}(e:H a=some (.dK kvs)):kg H a (kV k) (gv kvs k):=.inl ⟨kvs,k,.inl e,rfl,rfl⟩
theorem kg.t{H:Hp}{a b:Addr}{kvs:List (List Key×V)}{k:List Key}(e:H a=some (.dT kvs))(eb:H b=some (.tup (k.map kV))):kg H a (.ref b) (gv kvs k):=.inr ⟨kvs,k,b,.inl e,rfl,eb,rfl⟩
theorem AF.k{H:Hp}{a:Addr}{kvs:List (Key×V)}{k:Key}{v:V}(e:H a=some (.dK kvs))(hl:kvs.length<sizeLine):AF H a (kV k) v (upd H a (.dK (putK kvs k v))):=.inl ⟨kvs,k,e,rfl,hl,rfl⟩
theorem AF.t{H:Hp}{a b:Addr}{kvs:List (List Key×V)}{k:List Key}{v:V}(e:H a=some (.dT kvs))(eb:H b=some (.tup (k.map kV)))(hl:kvs.length<sizeLine) :
  AF H a (.ref b) v (upd H a (.dT (putK kvs k v))):=.inr ⟨kvs,k,b,e,rfl,eb,hl,rfl⟩
section
variable{X:Cx}{pins:List (Addr×Obj)}{σ:St}{H:Hp}{s:Shared}{a:Addr}{y v:V}{u r:Value}{o:Option V}{A:Around}{E:Value->Shared->Prop}
theorem Inv.big(I:Inv X pins σ H s):sysModules<s.heap.objs.size:=by
 have h:mainGlobals<s.heap.objs.size:=(I.mod.glob.keeps I.bk).lt;exact Nat.lt_trans (by decide) h
theorem LV{Q:Value->Shared->Prop}(hu:A.units+1<cLine)(I:Inv X pins σ H s)(g:kg H a y (some v))(ry:RelV y u)(h:∀w' s',Inv X pins σ H s'->RelV v w'->Q w' s') :
  wpAny (model X.prog X.w) A (getItem (.ref a) u) Q E s:=by
 rcases g with ⟨kvs,k,e,ey,l⟩ | ⟨kvs,k,b,e,ey,eb,l⟩
 ·subst ey;obtain⟨z,hd,vs,rel,dd⟩:=ym I.ck e;obtain⟨w',hw,rw'⟩:=pN.some_of (v:=v) (o:=valueAt vs k) (by rw[l];exact rel.val k);exact wpAny_getItem_of (yl ry) dd.mapOf hw (h w' _ (I.tok _) rw')
 ·subst ey;cases (show u=Value.ref b from ry);obtain⟨z,hd,xs,rel,dd⟩:=yn I.ck e;obtain⟨w',hw,rw'⟩:=pN.some_of (v:=v) (o:=(atKey xs k).map (·.2)) (by rw[l];exact rel.val k);obtain⟨p,hp,hp2⟩:=Option.map_eq_some_iff.mp hw;refine wpAny_getItem_heap (tupleKind_room_in1 hu) (tF I.ck eb) dd hp ?_;rw[hp2];exact h w' _ (I.tok _) rw'
theorem UN{Q:Value->Shared->Prop}(hu:A.units+1<cLine)(I:Inv X pins σ H s)(g:kg H a y o)(ry:RelV y u)(h:∀s',Inv X pins σ H s'->Q (.bool o.isSome) s') :
  wpAny (model X.prog X.w) A (compareOp .In u (.ref a)) Q E s:=by
 rcases g with ⟨kvs,k,e,ey,l⟩ | ⟨kvs,k,b,e,ey,eb,l⟩
 ·subst ey;obtain⟨z,hd,vs,rel,dd⟩:=ym I.ck e;refine wpAny_in_of (yl ry) hd dd.mapOf ?_;rw[<-(rel.val k).n6,<-l];exact h _ (I.tok _)
 ·subst ey;cases (show u=Value.ref b from ry);obtain⟨z,hd,xs,rel,dd⟩:=yn I.ck e;refine wpAny_in_heap (tupleKind_room_in1 hu) (tF I.ck eb) hd dd ?_;have q:=(rel.val k).n6;rw[Option.isSome_map]at q;rw[<-q,<-l];exact h _ (I.tok _)
theorem QF{Q:Value->Shared->Prop}(hu:A.units+1<cLine)(I:Inv X pins σ H s)(g:kg H a y o)(ry:RelV y u)(h:∀s',Inv X pins σ H s'->Q (.bool (!o.isSome)) s') :
  wpAny (model X.prog X.w) A (compareOp .NotIn u (.ref a)) Q E s:=by
 rcases g with ⟨kvs,k,e,ey,l⟩ | ⟨kvs,k,b,e,ey,eb,l⟩
 ·subst ey;obtain⟨z,hd,vs,rel,dd⟩:=ym I.ck e;refine wpAny_notIn_of (yl ry) hd dd.mapOf ?_;rw[<-(rel.val k).n6,<-l];exact h _ (I.tok _)
 ·subst ey;cases (show u=Value.ref b from ry);obtain⟨z,hd,xs,rel,dd⟩:=yn I.ck e;refine wpAny_notIn_heap (tupleKind_room_in1 hu) (tF I.ck eb) hd dd ?_;have q:=(rel.val k).n6;rw[Option.isSome_map]at q;rw[<-q,<-l];exact h _ (I.tok _)
theorem E8{h':Heap}{t':Nat}{ob:HO}(I:Inv X pins σ H s)(mu:SN (H a))(hs:Heap.SameBut a s.heap h')(he:∃q,h'.get? a=some q)(new:cT X.prog X.w (upd H a ob) h' a ob) :
  Inv X pins σ (upd H a ob) { s with heap:=h',toks:=t' }:=
 I.write (x:=a) (e:=a) mu (.inl rfl) (fun b q hb z=>(hs.2 b hb).trans z) he new
theorem Ow{P:Program}{w:World}{H':Hp}{h':Heap}{kvs:List (Key×V)}{vs:List (Key×Value)}(z:kvs.length<=sizeLine)(hd:(a == sysModules)=false)(rel:KV kvs vs)(dd:h'.DictOf (cO P w) a vs) :
  cT P w H' h' a (.dK kvs):=⟨z,hd,vs,rel,dd⟩
theorem LW{H':Hp}{Q:Unit->Shared->Prop}(hu:A.units+1<cLine)(I:Inv X pins σ H s)(g:AF H a y v H')(ry:RelV y u)(rv:RelV v r)(h:∀s',Inv X pins σ H' s'->Q () s') :
  wpAny (model X.prog X.w) A (setItem (.ref a) u r) Q E s:=by
 rcases g with ⟨kvs,k,e,ey,l,eH⟩ | ⟨kvs,k,b,e,ey,eb,l,eH⟩
 ·subst ey eH;obtain⟨z,hd,vs,rel,dd⟩:=Rl I.ck e;have hz:vs.length<=sizeLine:=by rw[<-rel.length];exact z
  have hl:(putK kvs k v).length<=sizeLine:=by have:=qh kvs k v;lia
  refine wpAny_setItem_pairs (hsz:=hz) (yl ry) dd fun h' dd' hs=>h _ ?_
  have he:∃q,h'.get? a=some q:=let ⟨q,_,_,hq,_⟩:=dd';⟨q,hq⟩
  exact E8 I (by rw[e];exact True.intro) hs he (Ow hl hd (rel.put k rv) dd')
 ·subst ey eH;cases (show u=Value.ref b from ry);obtain⟨z,hd,xs,rel,dd⟩:=To I.ck e;have hz:xs.length<=sizeLine:=by rw[<-Paired.length rel];exact z
  have hl:(putK kvs k v).length<=sizeLine:=by have:=qh kvs k v;lia
  refine wpAny_setItem_heap (hsz:=hz) (tupleKind_room_in1 hu) (tF I.ck eb) dd fun h' dd' hs=>h _ ?_
  obtain⟨q,es,ep,hq,h2,h3,h4,_,h5⟩:=dd';refine E8 I (by rw[e];exact True.intro) hs ⟨q,hq⟩ ⟨hl,hd,_,(rel.put k eb rv).keeps fun c ys ec=>?_,q,es,ep,hq,h2,h3,h4,h5⟩;rw[ak (cj ec e (fun z=>nomatch z))];exact ec
end
def Tp(i:Expr):Prop:=∀ov iv,subscripted i false ov iv=operate [ov,iv] (getItem ov iv)
theorem QG{prog:Program}{w:World}{A:Around}{E:Value->Shared->Prop}{s:Shared}{env:Env}{value slice:Expr}{pos:Pos}{T id:String}{Q:Value->Shared->Prop}
  (hl:typeLookup (.type T) "__getitem__" = pure (some (.builtin id))) (hs:Tp slice)
  (h:wpAny (model prog w) A (eval value env) (fun o s₁=>wpAny (model prog w) A (eval slice env) (fun i s₂=>s₂.TypeIs o T∧wpAny (model prog w) A (getItem o i) Q E s₂) E s₁) E s) :
  wpAny (model prog w) A (eval (.Subscript value slice pos) env) Q E s:=by
 refine Subscript_ (wpAny_mono h (fun o s₁ h₁=>wpAny_mono h₁ (fun i s₂ h₂=>?_) fun _ _ x=>x) fun _ _ x=>x);obtain⟨hT,h₂⟩:=h₂;unfold subscriptTail;refine wpAny_bind ?_;rw[getitemInPython_of_ne hT.not_modules];refine wpAny_bind (wpAny_specialOf hT hl ?_);have fin:wpAny (model prog w) A (subscripted slice false o i) (fun r s₃=>wpAny (model prog w) A (letTemporaryGo value o r >>= fun _=>pure r) Q E s₃) E s₂:=by
  rw[hs o i];exact wpAny_operating (wpAny_mono h₂ (fun r s₃ h₃=>wpAny_bind (wpAny_letTemporaryGo (wpAny_pure h₃))) fun _ _ x=>x)
 first
  | exact wpAny_pure (wpAny_bind fin)
  | exact wpAny_bind (wpAny_pure (wpAny_bind fin))
  | exact wpAny_bind fin
theorem GI{X:Cx}{pins:List (Addr×Obj)}{σ:St}{H:Hp}{s:Shared}{a:Addr}{y:V}{o:Option V}(I:Inv X pins σ H s)(g:kg H a y o):s.TypeIs (.ref a) "dict":=by
 rcases g with ⟨kvs,k,e,_,_⟩ | ⟨kvs,k,b,e,_,_,_⟩
 ·obtain⟨_,_,vs,_,dd⟩:=ym I.ck e;exact dd.typeIs
 ·obtain⟨_,_,xs,_,dd⟩:=yn I.ck e;exact dd.typeIs
def Tq(td ty:TE):TE:=fun σ H Q=>td σ H fun x H1=>ty σ H1 fun y H2=>∃a v,x=.ref a∧kg H2 a y (some v)∧Q v H2
def UO(ty td:TE):TE:=fun σ H Q=>ty σ H fun y H1=>td σ H1 fun x H2=>∃a o,x=.ref a∧kg H2 a y o∧Q (.bl o.isSome) H2
def QH(ty td:TE):TE:=fun σ H Q=>ty σ H fun y H1=>td σ H1 fun x H2=>∃a o,x=.ref a∧kg H2 a y o∧Q (.bl (!o.isSome)) H2
def Tr(td ty tv:TE):TS:=fun D σ H=>tv σ H fun v H1=>td σ H1 fun x H2=>ty σ H2 fun y H3=>∃a H4,x=.ref a∧AF H3 a y v H4∧D.nx σ H4
section
variable{X:Cx}{o i e value:Expr}{pos pos' tpos:Pos}{td ty tv:TE}
theorem zL(hu:X.A.units+1<cLine)(ho:PE X o td)(hi:PE X i ty)(hs:Tp i):PE X (.Subscript o i pos) (Tq td ty):=by
 intro pins s σ H Q I h;refine QG F.slot_dict_getitem.lookup hs (cx (ho pins s σ H _ I h) fun u s1 ⟨x,H1,I1,rx,q1⟩=>cx (hi pins s1 σ H1 _ I1 q1) fun iv s2 ⟨y,H2,I2,ry,a,v,ex,g,q2⟩=>?_);subst ex;obtain rfl:u=Value.ref a:=rx;exact⟨GI I2 g,LV hu I2 g ry fun w' s3 I3 rw'=>⟨v,H2,I3,rw',q2⟩⟩
theorem Sa(hu:X.A.units+1<cLine)(hi:PE X i ty)(ho:PE X o td):PC X .In i o (UO ty td):=by
 intro pins s σ H Q I h;refine cx (hi pins s σ H _ I h) fun iv s1 ⟨y,H1,I1,ry,q1⟩=>cx (ho pins s1 σ H1 _ I1 q1) fun u s2 ⟨x,H2,I2,rx,a,ov,ex,g,q2⟩=>?_
 subst ex;obtain rfl:u=Value.ref a:=rx;exact UN hu I2 g ry fun s3 I3=>⟨.bl ov.isSome,H2,I3,rfl,q2⟩
theorem Eb(hu:X.A.units+1<cLine)(hi:PE X i ty)(ho:PE X o td):PC X .NotIn i o (QH ty td):=by
 intro pins s σ H Q I h;refine cx (hi pins s σ H _ I h) fun iv s1 ⟨y,H1,I1,ry,q1⟩=>cx (ho pins s1 σ H1 _ I1 q1) fun u s2 ⟨x,H2,I2,rx,a,ov,ex,g,q2⟩=>?_
 subst ex;obtain rfl:u=Value.ref a:=rx;exact QF hu I2 g ry fun s3 I3=>⟨.bl (!ov.isSome),H2,I3,rfl,q2⟩
theorem zM(hu:X.A.units+1<cLine)(ho:PE X o td)(hi:PE X i ty)(hv:PE X value tv)(hs:swapsWith value (some (.Subscript o i pos')) pos.line X.env=pure false) :
  PS X (.Assign [.Subscript o i pos'] value pos) (Tr td ty tv):=by
 intro pins s σ H D I h;refine wpAny_Assign_Subscript (cx (hv pins s σ H _ I h) fun r s1 ⟨v,H1,I1,rv,q1⟩=>cx (ho pins s1 σ H1 _ I1 q1) fun u s2 ⟨x,H2,I2,rx,q2⟩=>cx (hi pins s2 σ H2 _ I2 q2) fun iv s3 ⟨y,H3,I3,ry,a,H4,ex,g,q3⟩=>?_) hs;subst ex;obtain rfl:u=Value.ref a:=rx;exact LW hu I3 g ry rv fun s4 I4=>⟨σ,H4,I4,q3⟩
end
theorem GJ{P:Program}{w:World}{H:Hp}(h:Heap)(hb:sysModules<h.objs.size):cT P w H (h.push { cls:=.type "dict",data:=.dict #[] }) h.objs.size (.dK []):=
 ⟨Nat.zero_le _,beq_eq_false_iff_ne.mpr (Ne.symm (Nat.ne_of_lt hb)),[],.nil,Heap.DictOf.new h⟩
theorem Ox{P:Program}{w:World}{H:Hp}(h:Heap)(hb:sysModules<h.objs.size):cT P w H (h.push { cls:=.type "dict",data:=.dict #[] }) h.objs.size (.dT []):=
 ⟨Nat.zero_le _,beq_eq_false_iff_ne.mpr (Ne.symm (Nat.ne_of_lt hb)),[],.nil,_,#[],0,Heap.get?_push_size _ rfl,⟨rfl,rfl,rfl⟩,rfl,rfl,List.nodup_nil⟩
def Sb:TE:=fun _ H Q=>∀p,H p=none->Q (.ref p) (upd H p (.dK []))
def Sd:TE:=fun _ H Q=>∀p,H p=none->Q (.ref p) (upd H p (.dT []))
section
variable{X:Cx}{pos:Pos}
theorem Oy:PE X (.Dict [] [] pos) Sb:=fun pins s σ H Q I h=>
 wpAny_Dict_empty ⟨.ref s.heap.objs.size,_,I.laid (a:=s.heap.objs.size) (o:=.dK []) (t':=s.toks) (fun _ _ q=>Heap.get?_push_of_some _ q) (Nat.le_refl _) (GJ s.heap I.big),rfl,h _ (I.ck.fresh (Nat.le_refl _))⟩
theorem GK:PE X (.Dict [] [] pos) Sd:=fun pins s σ H Q I h=>
 wpAny_Dict_empty ⟨.ref s.heap.objs.size,_,I.laid (a:=s.heap.objs.size) (o:=.dT []) (t':=s.toks) (fun _ _ q=>Heap.get?_push_of_some _ q) (Nat.le_refl _) (Ox s.heap I.big),rfl,h _ (I.ck.fresh (Nat.le_refl _))⟩
end
def IZ:List (TE×TE)->St->Hp->(List (V×V)->Hp->Prop)->Prop
 | [],_,H,Q=>Q [] H
 | (tk,tv)::r,σ,H,Q=>tk σ H fun x H1=>tv σ H1 fun y H2=>IZ r σ H2 fun ps H3=>Q ((x,y)::ps) H3
abbrev VV:List (V×V)->List (Value×Value)->Prop:=Paired fun p q=>RelV p.1 q.1∧RelV p.2 q.2
def T_(X:Cx)(pos:Pos)(keys:List (Option Expr))(values:List Expr)(trs:List (TE×TE)):Prop:=
 ∀
  (pins:List (Addr×Obj)) (s:Shared) (σ:St) (H:Hp) (Q:List (V×V)->Hp->Prop),Inv X pins σ H s->IZ trs σ H Q →
  wpAny (model X.prog X.w) X.A (evalPairs (pairTrees keys values X.env pos)) (fun vs s'=>∃ps H',Inv X pins σ H' s'∧VV ps vs∧Q ps H') X.xe s
theorem QI{X:Cx}{pos:Pos}:T_ X pos [] [] []:=fun pins s σ H Q I h=>pairTrees_nil_walk ⟨[],H,I,.nil,h⟩
theorem Oz{X:Cx}{pos:Pos}{k v:Expr}{ks:List (Option Expr)}{vs:List Expr}{tk tv:TE}{trs:List (TE×TE)}(hk:PE X k tk)(hv:PE X v tv)(hr:T_ X pos ks vs trs) :
  T_ X pos (some k::ks) (v::vs) ((tk,tv)::trs):=fun pins s σ H Q I h=>
 pairTrees_cons_walk (cx (hk pins s σ H _ I h) fun u s1 ⟨x,H1,I1,rx,q1⟩=>cx (hv pins s1 σ H1 _ I1 q1) fun w2 s2 ⟨y,H2,I2,ry,q2⟩=>
  cx (hr pins s2 σ H2 _ I2 q2) fun ws s3 ⟨ps,H3,I3,rel,q3⟩=>⟨(x,y)::ps,H3,I3,.cons ⟨rx,ry⟩ rel,q3⟩)
def wB(kvs more:List (Key×V)):List (Key×V):=more.foldl (fun acc kv=>putK acc kv.1 kv.2) kvs
theorem KV.merge:∀{more:List (Key×V)} {rs:List (Key×Value)} {kvs:List (Key×V)} {vs:List (Key×Value)},KV more rs->KV kvs vs->KV (wB kvs more) (merged vs rs):=by
 intro more rs kvs vs r;unfold KV at r
 induction r generalizing kvs vs with
 | nil=>intro q;exact q
 | @cons p q ps qs h t ih=>
  intro r0;have e:KV (putK kvs p.1 p.2) (stored vs q.1 q.2):=by
   have:=r0.put p.1 h.2;rw[<-h.1];exact this
  exact ih e
theorem sE:∀(more kvs:List (Key×V)),(wB kvs more).length<=kvs.length+more.length
 | [],kvs=>by show kvs.length<=kvs.length+0;lia
 | p::r,kvs=>by
  have h1:=sE r (putK kvs p.1 p.2);have h2:=qh kvs p.1 p.2
  show(wB (putK kvs p.1 p.2) r).length<=_
  rw[List.length_cons];lia
theorem AG{P:Program}{w:World}:∀{kvs:List (Key×V)} {ws:List (Value×Value)},VV (kvs.map fun kv=>(kV kv.1,kv.2)) ws->∃rs,Carries (cO P w) ws rs∧KV kvs rs
 | [],_,r=>by rw[List.map_nil]at r;cases r;exact⟨[],True.intro,.nil⟩
 | p::kvs,_,r=>by
  rw[List.map_cons]at r;cases r with
  | @cons a b as bs h t=>
   obtain⟨rs,c,q⟩:=AG (P:=P) (w:=w) t;obtain⟨b1,b2⟩:=b;exact⟨(p.1,b2)::rs,⟨yl h.1,rfl,c⟩,.cons ⟨rfl,h.2⟩ q⟩
def Ts(trs:List (TE×TE)):TE:=fun σ H Q=>∀p,H p=none->IZ trs σ (upd H p (.dK [])) fun ps H2=>H2 p=some (.dK [])∧∃kvs:List (Key×V),ps=kvs.map (fun kv=>(kV kv.1,kv.2))∧kvs.length<=15∧Q (.ref p) (upd H2 p (.dK (wB [] kvs)))
theorem QJ{X:Cx}{pos:Pos}{keys:List (Option Expr)}{values:List Expr}{trs:List (TE×TE)}(h:T_ X pos keys values trs)(hall:keys.all (·.isSome)=true)(hl:keys.length=values.length)(h0:keys≠[])
  (h15:keys.length<=15):PE X (.Dict keys values pos) (Ts trs):=by
 intro pins s σ H Q I q;have hn:=I.ck.fresh (Nat.le_refl s.heap.objs.size);have I1:=I.laid (a:=s.heap.objs.size) (o:=.dK []) (h':=s.heap.push { cls:=.type "dict",data:=.dict #[] }) (t':=s.toks) (fun _ _ q=>Heap.get?_push_of_some _ q) (Nat.le_refl _) (GJ s.heap I.big);refine wpAny_Dict_walk (knd:=cO X.prog X.w) hall hl h0 h15 (cx (h pins _ σ _ _ I1 (q _ hn)) fun ws s2 ⟨ps,H2,I2,rel,e,kvs,ep,lk,q2⟩=>?_);subst ep;obtain⟨rs,c,rk⟩:=AG (P:=X.prog) (w:=X.w) rel;obtain⟨z,hd,vs0,r0,dd⟩:=Rl I2.ck e;cases r0;refine⟨rs,c,dd,fun h' dd' hs=>⟨.ref s.heap.objs.size,_,?_,rfl,q2⟩⟩;have hz:(wB [] kvs).length<=sizeLine:=by
  have h1:=sE kvs [];rw[List.length_nil]at h1;rw[sizeLine_eq];lia
 have he:∃q,h'.get? s.heap.objs.size=some q:=let ⟨q,_,_,hq,_⟩:=dd';⟨q,hq⟩
 exact E8 I2 (by rw[e];exact True.intro) hs he (Ow hz hd (rk.merge .nil) dd')
structure M1(X:Cx)(o:Expr)(m:Str)(apos:Pos)(e:Expr)(cpos:Pos):Prop where
 base:attributeBase o m X.env (eval o X.env)=eval o X.env
 Tt:((backTo cpos (starEach [e] X.env)).all (fun x=>!x.1) && (backToKw cpos (keywordEach [] X.env)).all (fun x=>x.1.isSome)
  && decide (([e]:List Expr).length+([]:List Keyword).length+(if ([]:List Keyword).isEmpty then 0 else 1)<30))=true
 line:(apos.endLine == cpos.line)=true
 trees:backTo cpos (starEach [e] X.env)=[(false,eval e X.env)]
structure M2(X:Cx)(o:Expr)(m:Str)(apos:Pos)(e f:Expr)(cpos:Pos):Prop where
 base:attributeBase o m X.env (eval o X.env)=eval o X.env
 Tt:((backTo cpos (starEach [e,f] X.env)).all (fun x=>!x.1) && (backToKw cpos (keywordEach [] X.env)).all (fun x=>x.1.isSome)
  && decide (([e,f]:List Expr).length+([]:List Keyword).length+(if ([]:List Keyword).isEmpty then 0 else 1)<30))=true
 line:(apos.endLine == cpos.line)=true
 trees:backTo cpos (starEach [e,f] X.env)=[(false,eval e X.env),(false,eval f X.env)]
def UP(H:Hp)(a:Addr):Prop:=(∃kvs,Rd H a (.dK kvs))∨∃kvs,Rd H a (.dT kvs)
theorem OA{X:Cx}{pins:List (Addr×Obj)}{σ:St}{H:Hp}{s:Shared}{a:Addr}(I:Inv X pins σ H s)(d:UP H a) :
  s.TypeIs (.ref a) "dict"∧(∀b,Value.ref a=.ref b->∃ob,s.heap.get? b=some ob∧ob.dict=none)∧(a == sysModules)=false:=by
 rcases d with ⟨kvs,e⟩ | ⟨kvs,e⟩
 ·obtain⟨_,hd,vs,_,dd⟩:=ym I.ck e;refine⟨dd.typeIs,fun b q=>?_,hd⟩;cases q;obtain⟨ob,_,_,h1,h2,_⟩:=dd;exact⟨ob,h1,h2.2.1⟩
 ·obtain⟨_,hd,xs,_,dd⟩:=yn I.ck e;refine⟨dd.typeIs,fun b q=>?_,hd⟩;cases q;obtain⟨ob,_,_,h1,h2,_⟩:=dd;exact⟨ob,h1,h2.2.1⟩
section
variable{X:Cx}{pins:List (Addr×Obj)}{σ:St}{H:Hp}{s:Shared}{a:Addr}{y d:V}{u r:Value}{o:Option V}{A:Around}{E:Value->Shared->Prop}
theorem Se{Q:Value->Shared->Prop}(hu:A.units+1<cLine)(I:Inv X pins σ H s)(g:kg H a y o)(ry:RelV y u)(h:∀w' s',Inv X pins σ H s'->RelV (o.getD .gi) w'->Q w' s') :
  wpAny (model X.prog X.w) A (call (.builtin "dict.get") [.ref a,u]) Q E s:=by
 rcases g with ⟨kvs,k,e,ey,l⟩ | ⟨kvs,k,b,e,ey,eb,l⟩
 ·subst ey;obtain⟨z,hd,vs,rel,dd⟩:=ym I.ck e;refine call_meetsIn F.slot_dict_get dd.typeIs F.entry_dict_get (F.args_dict_get_2 _ _) (meets_dict_get (cO X.prog X.w) a (yl ry) hd) ⟨_,dd.mapOf,h _ _ (I.tok _) ?_⟩;rw[l];exact(rel.val k).getD rfl
 ·subst ey;cases (show u=Value.ref b from ry);obtain⟨z,hd,xs,rel,dd⟩:=yn I.ck e;refine call_meetsIn F.slot_dict_get dd.typeIs F.entry_dict_get (F.args_dict_get_2 _ _) (meetsH_dict_get (tupleKind (cO X.prog X.w)) a b hd) ⟨tupleKind_room_in1 hu,k,xs,tF I.ck eb,dd,h _ _ (I.tok _) ?_⟩;rw[l];exact(rel.val k).getD rfl
theorem Sf{Q:Value->Shared->Prop}(hu:A.units+1<cLine)(I:Inv X pins σ H s)(g:kg H a y o)(ry:RelV y u)(rd:RelV d r)(h:∀w' s',Inv X pins σ H s'->RelV (o.getD d) w'->Q w' s') :
  wpAny (model X.prog X.w) A (call (.builtin "dict.get") [.ref a,u,r]) Q E s:=by
 rcases g with ⟨kvs,k,e,ey,l⟩ | ⟨kvs,k,b,e,ey,eb,l⟩
 ·subst ey;obtain⟨z,hd,vs,rel,dd⟩:=ym I.ck e;refine call_meetsIn F.slot_dict_get dd.typeIs F.entry_dict_get (F.args_dict_get_3 _ _ _) (meets_dict_get_default (cO X.prog X.w) a (yl ry) hd r) ⟨_,dd.mapOf,h _ _ (I.tok _) ?_⟩;rw[l];exact(rel.val k).getD rd
 ·subst ey;cases (show u=Value.ref b from ry);obtain⟨z,hd,xs,rel,dd⟩:=yn I.ck e;refine call_meetsIn F.slot_dict_get dd.typeIs F.entry_dict_get (F.args_dict_get_3 _ _ _) (meetsH_dict_get_default (tupleKind (cO X.prog X.w)) a b hd r) ⟨tupleKind_room_in1 hu,k,xs,tF I.ck eb,dd,h _ _ (I.tok _) ?_⟩;rw[l];exact(rel.val k).getD rd
end
def Sg(td ty:TE):TE:=fun σ H Q=>td σ H fun x H1=>∃a,x=.ref a∧UP H1 a∧ty σ H1 fun y H2=>∃o,kg H2 a y o∧Q (o.getD .gi) H2
def Sh(td ty tx:TE):TE:=fun σ H Q=>td σ H fun x H1=>∃a,x=.ref a∧UP H1 a∧ty σ H1 fun y H2=>tx σ H2 fun z H3=>∃o,kg H3 a y o∧Q (o.getD z) H3
section
variable{X:Cx}{o e f:Expr}{apos cpos:Pos}{td ty tx:TE}
theorem OB(hu:X.A.units+1<cLine)(ho:PE X o td)(he:PE X e ty)(m:M1 X o "get" apos e cpos):PE X (.Call (.Attribute o "get" apos) [e] [] cpos) (Sg td ty):=by
 intro pins s σ H Q I h;refine wpAny_Call_method m.base m.Tt m.line F.plainAttrs_dict F.slot_dict_get F.type_dict_get (cx (ho pins s σ H _ I h) fun u s1 ⟨x,H1,I1,rx,a,ex,d,q1⟩=>?_);subst ex;obtain rfl:u=Value.ref a:=rx;obtain⟨t1,t2,_⟩:=OA I1 d;refine⟨t1,t2,?_⟩;rw[m.trees];refine Calls.callWith_builtin rfl (Calls.evalArgs_plain (Calls.spliced_cons (cx (he pins s1 σ H1 _ I1 q1) fun iv s2 ⟨y,H2,I2,ry,ov,g,q2⟩=>Calls.spliced_nil ?_)));exact Se hu I2 g ry fun w' s3 I3 rw'=>⟨_,H2,I3,rw',q2⟩
theorem OC(hu:X.A.units+1<cLine)(ho:PE X o td)(he:PE X e ty)(hf:PE X f tx)(m:M2 X o "get" apos e f cpos):PE X (.Call (.Attribute o "get" apos) [e,f] [] cpos) (Sh td ty tx):=by
 intro pins s σ H Q I h;refine wpAny_Call_method m.base m.Tt m.line F.plainAttrs_dict F.slot_dict_get F.type_dict_get (cx (ho pins s σ H _ I h) fun u s1 ⟨x,H1,I1,rx,a,ex,d,q1⟩=>?_);subst ex;obtain rfl:u=Value.ref a:=rx;obtain⟨t1,t2,_⟩:=OA I1 d;refine⟨t1,t2,?_⟩;rw[m.trees];refine Calls.callWith_builtin rfl (Calls.evalArgs_plain (Calls.spliced_cons (cx (he pins s1 σ H1 _ I1 q1) fun iv s2 ⟨y,H2,I2,ry,q2⟩=>
  Calls.spliced_cons (cx (hf pins s2 σ H2 _ I2 q2) fun fv s3 ⟨z,H3,I3,rz,ov,g,q3⟩=>Calls.spliced_nil ?_))))
 exact Sf hu I3 g ry rz fun w' s4 I4 rw'=>⟨_,H3,I4,rw',q3⟩
end
end L2
namespace L2
open PySem PySem.Spec PyProof.Rows
theorem AH:bootBuiltins "reversed" = some (.type "reversed"):=by decide +kernel
section
variable{X:Cx}
theorem Si{tg:Expr}{pins:List (Addr×Obj)}{σ:St}{H:Hp}{s:Shared}{R:It->Hp->Prop}{J:It}{tn:Nat->Heap->Prop}{tk:Nat}(I:Inv X pins σ H s)(o:Obj)
  (T:Turn X.prog X.w X.K tg J [s.heap.objs.size] s.heap.objs.size tn) (st:tn 0 (s.heap.push o)) (q:R J H):Uu X pins σ tg R (.ref s.heap.objs.size) { s with heap:=s.heap.push o,toks:=tk }:=by
 refine⟨s.heap.objs.size,[s.heap.objs.size],tn,J,H,rfl,I.kept fun b ob e=>Heap.get?_push_of_some _ e,T,st,fun b hb=>?_,q⟩;have e:b=s.heap.objs.size:=by simpa using hb
 subst e;exact I.N_ (Nat.le_refl _) (I.ck.fresh (Nat.le_refl _))
end
def Tu(lo c:Int)(n:Nat):It:=⟨fun i _=>i<n,fun i H x H'=>H'=H∧x=.int (lo+(i:Nat) * c),fun i _=>n<=i⟩
theorem GL{P:Program}{w:World}{K:W.Frag}{tg:Expr}(it:Addr)(lo c:Int)(n:Nat):Turn P w K tg (Tu lo c n) [it] it (fun i h=>IsRangeIter h it (lo+(i:Nat) * c) ((n:Int) - (i:Nat)) c) where
 mem:=by simp
 obj:=fun i h st b hb=>by
  have e:b=it:=by simpa using hb
  subst e;exact⟨_,st,fun v z=>nomatch z⟩
 keep:=fun i h h' st k=>k it (by simp) _ st
 item:=by
  intro X hP hw hK hc i pins s σ H E I hf st hg;subst hP hw hK;obtain⟨f0,f1,f2,f3,f4,f5⟩:=hf it (by simp);have W:=Walks.range (prog:=X.prog) (w:=X.w) (I.ok.hd hc) it lo c n;refine W.item i s _ _ hg st fun v h' tk hv st' kk=>?_
  obtain⟨t,rfl⟩:=hv;have I1:Inv X pins σ H { s with heap:=h',toks:=tk }:=I.turned (fun b o hb e=>kk b o (by simpa using hb) e) f0 f1 f3 f4 f5;exact⟨_,rfl,KP (s:={ s with heap:=h',toks:=tk }) (n:="range_iterator") st' rfl rfl (by decide) ⟨.int (lo+(i:Nat) * c),H,I1,⟨t,rfl⟩,⟨rfl,rfl⟩,st',fun b hb=>(hf b hb).1⟩⟩
 done:=by
  intro X hP hw hK hc i pins s σ H E I hf st hg;subst hP hw hK;obtain⟨f0,f1,f2,f3,f4,f5⟩:=hf it (by simp);exact wpAny_pyNext_range_end (I.ok.hd hc) st (by have:n<=i:=hg;lia) fun h' eb=>⟨rfl,I.turned (t':=s.toks) (fun b o hb e=>eb b o hb e) f0 f1 f3 f4 f5⟩
 self:=fun A i s Q E st h=>wpAny_pyIter_rangeiter st h
def Ua(i j c:Int)(n:Nat):Prop:=c≠0∧c.natAbs<1073741824∧Builtin.Range.small i j c=true∧Builtin.Range.rangeSize i j c=n
theorem Ua.neg{i j:Int}(ha:-(2 ^ 62)<=i)(ha':i<2 ^ 62)(hb:-(2 ^ 62)<=j)(hb':j<2 ^ 62):Ua i j (-1) (i - j).toNat:=
 ⟨by decide,by decide,W.small_down ha ha' hb hb',W.rangeSize_downNat i j⟩
def Tv(ta:TA):TI:=fun σ H R=>ta σ H fun vs H1=>∃(i j c:Int) (n:Nat),vs=[.int i,.int j,.int c]∧Ua i j c n∧R (Tu i c n) H1
section
variable{X:Cx}{tg:Expr}
theorem LX{a b c:Expr}{ta:TA}{p pos:Pos}(hg:Gl X "range")(hm:X.mg "range" = none)(ha:PA X [a,b,c] ta)
  (hs:starEach [a,b,c] X.env=(false,eval a X.env)::starEach [b,c] X.env:=by rfl) (hpl:(backTo pos (starEach [b,c] X.env)).any (·.1)=false:=by rfl) :
  PI X tg (.Call (.Name "range" p) [a,b,c] [] pos) (Tv ta):=by
 intro pins s σ H R I h;refine Call_ (nE I hg hm boot_range (PyProof.Rows.callWith_type1 (cx (ha pos pins s σ H _ I h) fun us s1 ⟨vs,H1,I1,r1,q1⟩=>?_) hs hpl));obtain⟨i,j,k,n,e,⟨c0,c1,c2,c3⟩,q⟩:=q1;subst e;cases r1 with
 | cons r rr=>
  cases rr with
  | cons r' rr=>
   cases rr with
   | cons r'' rr=>
    cases rr;obtain⟨t,rfl⟩:=r
    obtain⟨t',rfl⟩:=r';obtain⟨t'',rfl⟩:=r'';refine call_range_3 c0 ?_ (.inl (PyProof.noPylong_small c1));refine wpAny_pyIter_range (IsRange.new ..) c2 ?_;have I2:Inv X pins σ H1 { s1 with heap:=s1.heap.push { cls:=.type "range",data:=.fields #[.int i t,.int j t',.int k t''] } }:=I1.kept (t':=s1.toks) fun b o e=>Heap.get?_push_of_some _ e
    refine Si (tk:=s1.toks) I2 _ (GL _ i k n) ?_ q;have e1:i+((0:Nat):Int) * k=i:=by simp
    have e2:(n:Int) - ((0:Nat):Int)=Builtin.Range.rangeSize i j k:=by rw[c3];simp
    show IsRangeIter _ _ (i+((0:Nat):Int) * k) ((n:Int) - ((0:Nat):Int)) k;rw[e1,e2];exact Heap.get?_push_size _ rfl
end
theorem I0{lo c:Int}{n:Nat}{g:TG}{tb:TS}{D:Ends}{σ:St}{H:Hp}(Pv:Nat->St->Hp->Prop)(h0:Pv 0 σ H)
  (hs:∀i σ H,i<n->Pv i σ H->g (.int (lo+(i:Nat) * c)) σ H fun σ2 H2=>tb { D with nx:=Pv (i+1),ct:=Pv (i+1),bk:=D.nx } σ2 H2) (hd:∀σ H,Pv n σ H->D.nx σ H) :
  ∃
   W:Nat->Nat->St->Hp->Prop,(∃m,W 0 m σ H)∧∀i m σ H,W i m σ H →
   ((Tu lo c n).stop i H∧D.nx σ H)∨((Tu lo c n).go i H∧∃N:St->Hp->Prop,(∀σ' H',N σ' H'->∃m',m'<m∧W (i+1) m' σ' H')∧∀x H',(Tu lo c n).NK i H x H'->g x σ H' fun σ2 H2=>tb { D with nx:=N,ct:=N,bk:=D.nx } σ2 H2):=by
 refine⟨fun i m σ H=>m=n - i∧i<=n∧Pv i σ H,⟨n,by simp,Nat.zero_le _,h0⟩,?_⟩
 rintro i m σ H ⟨rfl,hi,p⟩
 by_cases hlt:i<n
 ·refine .inr ⟨hlt,Pv (i+1),fun σ' H' p'=>⟨n - (i+1),by lia,rfl,hlt,p'⟩,fun x H' y=>?_⟩;obtain⟨e,y⟩:=y;subst e y;exact hs i σ _ hlt p
 ·have e:i=n:=by lia
  subst e;exact .inl ⟨Nat.le_refl _,hd σ H p⟩
section
variable{prog:Program}{w:World}{A:Around}{E:Value->Shared->Prop}{s:Shared}
theorem LY{d:Addr}{o:Obj}{es:Array DictEntry}{ep:Nat}{Q:Value->Shared->Prop}(hd:(d == sysModules)=false)(ho:s.heap.get? d=some o)(hc:o.ExactDict)(hdat:o.data=.dict es ep)
  (hQ:Q (.ref s.heap.objs.size) { s with heap:=s.heap.push { cls:=.type "dict_keyiterator",data:=.fields #[.ref d,.int 0 0,.int es.size 0,.int ep 0] } }) :
  wpAny (model prog w) A (pyIter (.ref d)) Q E s:=by
 have hT:s.TypeIs (.ref d) "dict":=⟨o,ho,hc.1⟩;refine wpAny_pyIter_slot hT F.slot_dict_iter (wpAny_call_entry F.slot_dict_iter hT F.entry_dict_iter ?_ (F.args_dict_iter_1 _));unfold Builtin.«dict.__iter__»;refine wpAny_bind ?_;unfold Builtin.Dict.dictSlotNone;refine wpAny_bind (wpAny_notOrdered_dict hT ?_);show wpAny _ _ (pure (Value.ref d)) _ _ s;refine wpAny_pure ?_;show wpAny _ _ (Builtin.Dict.showsAll d >>= _) _ _ s;unfold Builtin.Dict.showsAll;rw[if_neg (by rw[hd];exact Bool.false_ne_true)];refine wpAny_bind (wpAny_pure ?_);refine wpAny_bind (wpAny_dictEntries ho hdat ?_);refine wpAny_bind (wpAny_dictEpoch ho hdat ?_);refine wpAny_bind (wpAny_newObj_type (wpAny_pure ⟨_,rfl,"dict_keyiterator",_,⟨_,Heap.get?_push_size _ rfl,rfl⟩,F.slot_dict_keyiterator_next.lookup,?_⟩));simpa[rawInt]using hQ
theorem Cv{it d:Addr}{i n ep:Nat}{od:Obj}{es:Array DictEntry}{en:DictEntry}{Q:Option Value->Shared->Prop}(hit:s.heap.IsKeyIter it d i n ep)(hod:s.heap.get? d=some od)(hdd:od.data=.dict es ep)
  (hsz:es.size=n) (hx:es[i]? = some en) (hQ:∀h',h'.IsKeyIter it d (i+1) n ep->Heap.SameBut it s.heap h'->Q (some en.key) { s with heap:=h' }):wpAny (model prog w) A (pyNext (.ref it)) Q E s:=by
 obtain⟨o,ho,hc,hd⟩:=id hit;unfold pyNext;refine wpAny_bind (wpAny_attempt (wpAny_callSpecial?_slot (name:=Str.ofString "__next__") hit.typeIs F.slot_dict_keyiterator_next
  (wpAny_call_entry F.slot_dict_keyiterator_next hit.typeIs F.entry_dict_keyiterator_next ?_ (F.args_dict_keyiterator_next_1 _))))
 refine wpAny_bind (wpAny_pure ?_);refine wpAny_bind ?_;refine wpAny_bind ?_
 first | refine wpAny_bind (wpAny_typeNameOfWhole_keyiter hit.typeIs (wpAny_pure ?_)) | refine wpAny_bind (wpAny_typeNameOf_keyiter hit.typeIs (wpAny_pure ?_))
 refine wpAny_bind (wpAny_fieldsOf ho hd ?_);have hown:Builtin.Dict_items.ownsTuple "dict_keyiterator" = false:=by decide
 simp only[hown,Bool.false_eq_true,if_false];show wpAny _ _ (if (Value.ref d == Value.none)=true then _ else _) _ _ s;rw[if_neg (show ¬((Value.ref d == Value.none)=true) from Bool.false_ne_true)];refine wpAny_bind (wpAny_pure ?_);refine wpAny_bind (wpAny_dictEntries hod hdd ?_);rw[if_neg (by rw[hsz];simp)];refine wpAny_bind (wpAny_pure ?_);refine wpAny_bind (wpAny_dictEpoch hod hdd ?_);rw[if_neg (by simp)];refine wpAny_pure ?_;obtain⟨hlt',hen⟩:=Array.getElem?_eq_some_iff.mp hx;simp only[show ¬((i:Int)<0) from by lia,if_false,Int.toNat_natCast,Array.getElem?_eq_getElem hlt'];refine wpAny_bind ?_
 first | refine wpAny_bind (wpAny_typeNameOfWhole_keyiter hit.typeIs (wpAny_pure ?_)) | refine wpAny_bind (wpAny_typeNameOf_keyiter hit.typeIs (wpAny_pure ?_))
 refine wpAny_bind (wpAny_isOneOf_keyiter hit.typeIs ?_);show wpAny _ _ (setField (.ref it) 1 (rawInt ((i:Int)+1)) >>= _) _ _ s;refine wpAny_bind (wpAny_setField ho hd (by simp) ?_);have hit':(s.heap.update it (Obj.mapFields (·.setIfInBounds 1 (rawInt ((i:Int)+1))))).IsKeyIter it d (i+1) n ep:=
  ⟨_,Heap.get?_update_self _ ho (Obj.isFreed_of_fields (Obj.data_mapFields hd _)),(Obj.cls_mapFields ..).trans hc,by rw[Obj.data_mapFields hd];simp[rawInt]⟩
 refine wpAny_bind (wpAny_holding ?_);refine wpAny_bind (wpAny_isOneOf_keyiter (s:={ s with heap:=s.heap.update it (Obj.mapFields (·.setIfInBounds 1 (rawInt ((i:Int)+1)))) }) hit'.typeIs ?_);show wpAny _ _ (pure es[i].key) _ _ _;rw[hen];exact wpAny_pure (wpAny_pure ⟨_,rfl,wpAny_pure (hQ _ hit' (Heap.SameBut.update ..))⟩)
theorem E9{it d:Addr}{i n ep:Nat}{od:Obj}{es:Array DictEntry}{Q:Option Value->Shared->Prop}(hh:A.handled=none)(hit:s.heap.IsKeyIter it d i n ep)(hod:s.heap.get? d=some od)(hdd:od.data=.dict es ep)
  (hsz:es.size=n) (hge:n<=i) (hQ:∀h',Heap.ExtBut it s.heap h'->Q none { s with heap:=h' }):wpAny (model prog w) A (pyNext (.ref it)) Q E s:=by
 obtain⟨o,ho,hc,hd⟩:=id hit;unfold pyNext;refine wpAny_bind (wpAny_attempt (wpAny_callSpecial?_slot (name:=Str.ofString "__next__") hit.typeIs F.slot_dict_keyiterator_next
  (wpAny_call_entry F.slot_dict_keyiterator_next hit.typeIs F.entry_dict_keyiterator_next ?_ (F.args_dict_keyiterator_next_1 _))))
 refine wpAny_bind (wpAny_pure ?_);refine wpAny_bind ?_;refine wpAny_bind ?_
 first | refine wpAny_bind (wpAny_typeNameOfWhole_keyiter hit.typeIs (wpAny_pure ?_)) | refine wpAny_bind (wpAny_typeNameOf_keyiter hit.typeIs (wpAny_pure ?_))
 refine wpAny_bind (wpAny_fieldsOf ho hd ?_);have hown:Builtin.Dict_items.ownsTuple "dict_keyiterator" = false:=by decide
 simp only[hown,Bool.false_eq_true,if_false];show wpAny _ _ (if (Value.ref d == Value.none)=true then _ else _) _ _ s;rw[if_neg (show ¬((Value.ref d == Value.none)=true) from Bool.false_ne_true)];refine wpAny_bind (wpAny_pure ?_);refine wpAny_bind (wpAny_dictEntries hod hdd ?_);rw[if_neg (by rw[hsz];simp)];refine wpAny_bind (wpAny_pure ?_);refine wpAny_bind (wpAny_dictEpoch hod hdd ?_);rw[if_neg (by simp)];refine wpAny_pure ?_;have hge':es.size<=i:=by rw[hsz];exact hge
 simp only[show ¬((i:Int)<0) from by lia,if_false,Int.toNat_natCast,Array.getElem?_eq_none hge'];refine wpAny_bind ?_
 first | refine wpAny_bind (wpAny_typeNameOfWhole_keyiter hit.typeIs (wpAny_pure ?_)) | refine wpAny_bind (wpAny_typeNameOf_keyiter hit.typeIs (wpAny_pure ?_))
 show wpAny _ _ (setField (.ref it) 0 .none >>= _) _ _ s;refine wpAny_bind (wpAny_setField ho hd (by simp) ?_);show wpAny _ _ (newExc (.type "StopIteration") [] >>= _) _ _ _;refine wpAny_bind ?_;simp only[newExc,newTuple];refine wpAny_bind (wpAny_newObj_type ?_ (by size_fits));refine wpAny_bind (m:=firstArgMember _ _) (wpAny_of_eq (a:=Value.none) (by first | rfl | (simp only[firstArgMember];rfl)) ?_);refine wpAny_newObj_type ?_ (by size_fits);simp only[raiseNew];refine wpAny_bind (wpAny_handled ?_);rw[show A.in1.handled=none from hh];refine wpAny_bind (wpAny_pure (wpAny_throw ?_));refine wpAny_bind (wpAny_isInstance (T:="StopIteration") (b:=true) ⟨_,Heap.get?_push_size _ rfl,rfl⟩ isSubtype_stop ?_);exact wpAny_pure (hQ _ (((Heap.SameBut.update ..).extBut.push _).push _))
end
theorem Sj{κ:Type}{kvs:List (κ×V)}{vs:List (κ×Value)}(h:KV kvs vs):∀{i:Nat} {k:κ} {v:V},kvs[i]? = some (k,v)->∃u,vs[i]? = some (k,u)∧RelV v u:=by
 unfold KV at h
 induction h with
 | nil=>intro i k v e;simp at e
 | @cons a b l₁ l₂ r t ih=>
  intro i k v e;cases i with
  | zero=>
   simp only[List.getElem?_cons_zero,Option.some.injEq]at e;subst e;refine⟨b.2,?_,r.2⟩;simp only[List.getElem?_cons_zero];exact congrArg some (Prod.ext r.1.symm rfl)
  | succ j=>
   simp only[List.getElem?_cons_succ]at e ⊢;exact ih e
theorem I_{α β:Type}{G:α->β->Prop}{l₁:List α}{l₂:List β}(h:Paired G l₁ l₂):∀{i:Nat} {a:α},l₁[i]? = some a->∃b,l₂[i]? = some b∧G a b:=by
 induction h with
 | nil=>intro i a e;simp at e
 | @cons a b l₁ l₂ r t ih=>
  intro i a' e;cases i with
  | zero=>
   simp only[List.getElem?_cons_zero,Option.some.injEq]at e;subst e;exact⟨b,rfl,r⟩
  | succ j=>
   simp only[List.getElem?_cons_succ]at e ⊢;exact ih e
end L2
namespace L2
open PySem PySem.Spec PyProof.Rows
def inClass(s:Stmt)(j:Nat):Stmt:=match s with
 | .ClassDef _ _ _ body _ _ _ _ _ _ _=>body.getD j (.Pass ⟨0,0,0,0⟩)
 | _=>.Pass ⟨0,0,0,0⟩
def rJ(s:Stmt):Arguments:=match s with
 | .FunctionDef _ a _ _ _ _ _ _ _ _=>a
 | _=>{ posonlyargs:=[],args:=[],vararg:=none,kwonlyargs:=[],kw_defaults:=[],kwarg:=none,defaults:=[] }
def oT(s:Stmt):List Stmt:=match s with
 | .FunctionDef _ _ b _ _ _ _ _ _ _=>b
 | _=>[]
def aj(s:Stmt):Scope:=match s with
 | .FunctionDef _ _ _ _ _ _ sc _ _ _=>sc
 | _=>{ kind:=.function,names:=[],isGenerator:=false,isCoroutine:=false }
abbrev fe:NL:=fun _ _ _ _ _ _=>False
abbrev E0:XK:=fun _ _ _=>False
theorem aA{X:Cx}:Passes fe X E0:=fun _ _ _ _ _ _ _ h=>h.elim
structure fk(K:W.Frag)(x qual:Str)(st:Stmt)(f:Addr)(fd:FuncData):Prop where
 ex:∃(oc:Value) (od:Option Addr) (kV doc pm:Value) (an:Option Addr) (cdv ct:Value) (osl:Array (Option Value)),
  fd=W.fnOf x qual (rJ st) (oT st) (aj st) .none kV doc pm an cdv ct∧K.lookup f=some ⟨oc,od,.func fd,osl⟩∧W.codeIn K cdv qual=true
 kp:W.keepIn K (.ref f)=true
section
variable{P:Program}{w:World}{K:W.Frag}{mg:Str->Option Value}{base:Heap}
theorem fk.ok{x qual:Str}{st:Stmt}{f:Addr}{fd:FuncData}{N ps:List Str}{k:Nat}{sp:Sp}(F:fk K x qual st f fd)(S:aE N ps (aj st))(len:∀vs H Q E,sp vs H Q E->vs.length=ps.length)
  (hbody:∀(cdv:Value) (A:Around) (outer:List Env) (s:Shared) (H:Hp) (vs:List V) (Q:VK) (E:XK),jV k (A.deeper (envOfC qual (aj st) s.heap.objs.size f cdv))->sp vs H Q E →
   ∃t,LJ (LR fe P w K mg base N qual (aj st) f cdv A outer s H E).T6 (oT st) t∧t { nx:=fun _ H'=>Q .gi H',rt:=Q } (start N vs) H):a6 P w K mg base fe (k+1) f fd ps sp:=by
 obtain⟨oc,od,kV,doc,pm,an,cdv,ct,osl,rfl,lk,hcd⟩:=F.ex;refine Tg lk hcd S len fun A outer s H vs Q E hr hsp=>?_
 obtain⟨t,h,q⟩:=hbody cdv A outer s H vs Q E hr hsp;exact⟨t,h.T6,q⟩
theorem fk.binds{x qual:Str}{st:Stmt}{f:Addr}{fd:FuncData}{ps:List Str}(F:fk K x qual st f fd)
  (h:∀(kV doc pm:Value) (an:Option Addr) (cdv ct:Value) (us:List Value),us.length=ps.length->bindArgs (W.fnOf x qual (rJ st) (oT st) (aj st) .none kV doc pm an cdv ct) ⟨us,[]⟩=pure (ps.zip us)):Binds K fd ps []:=by
 obtain⟨oc,od,kV,doc,pm,an,cdv,ct,osl,rfl,lk,hcd⟩:=F.ex;exact .all (h kV doc pm an cdv ct)
end
theorem nq{A:Around}{k:Nat}(hr:jV k A):A.units+1<cLine:=Nat.lt_of_le_of_lt (Nat.add_le_add_left (by decide:1<=64) _) hr.units
section
variable{X:Cx}
theorem pv(i:Nat){x:Str}{pos:Pos}(hN:X.N[i]? = some x:=by rfl)(hv:SF X.env.scope x:=by first | exact Or.inl rfl | exact Or.inr (Or.inl rfl) | exact Or.inr (Or.inr rfl))(hd:(x == ("__debug__" : Str))=false:=by decide)
  (hcd:(x == ("__classdict__" : Str))=false:=by decide):PE X (.Name x pos) (SU i):=RR hN hv hd hcd
end
theorem uQ{A B:Prop}(h:B):if false=true then A else B:=by
 rw[if_neg Bool.false_ne_true];exact h
theorem rX{A B:Prop}(h:A):if true=true then A else B:=by
 rw[if_pos rfl];exact h
def aq(H H':Hp):Prop:=∀b o,H b=some o->H' b=some o
theorem aq.refl(H:Hp):aq H H:=fun _ _ h=>h
theorem aq.trans{H H1 H2:Hp}(a:aq H H1)(b:aq H1 H2):aq H H2:=fun c o h=>b c o (a c o h)
theorem aq.free{H H':Hp}(e:aq H H'){l:Addr}(h:H' l=Option.none):H l=Option.none:=by
 cases q:H l with
 | none=>rfl
 | some o=>
  rw[e l o q]at h;cases h
theorem aq.seq{K:W.Frag}{H H':Hp}{a:Addr}{xs:List V}(e:aq H H')(h:aP K H a xs):aP K H' a xs:=by
 rcases h with (h | ⟨o,h⟩) | h
 ·exact .inl (.inl (e _ _ h))
 ·exact .inl (.inr ⟨o,e _ _ h⟩)
 ·exact .inr h
section
variable{κ:Type}[DecidableEq κ]
theorem K3{kvs:List (κ×V)}{k:κ}{v:V}(h:gv kvs k=some v):k∈kvs.map (·.1):=by
 have q:(kvs.any fun kv=>decide (kv.1=k))=true:=by
  rw[mK,h]
  all_goals rfl
 obtain⟨p,hp,e⟩:=List.any_eq_true.mp q;exact List.mem_map.mpr ⟨p,hp,of_decide_eq_true e⟩
end
theorem at_of{xs:List V}{z:Int}{j:Nat}{v:V}(e:z=(j:Int))(h:xs[j]? = some v):EX xs z=some v:=by
 rw[e];exact Qw h
theorem Rm{α:Type}{l:List α}(hN:l.Nodup){i j:Nat}{x:α}(a:l[i]? = some x)(b:l[j]? = some x):i=j:=by
 obtain⟨h1,e1⟩:=List.getElem?_eq_some_iff.mp a;obtain⟨h2,e2⟩:=List.getElem?_eq_some_iff.mp b;exact(List.getElem_inj hN).mp (e1.trans e2.symm)
end L2
end
section
namespace L2
open PySem PySem.Spec PyProof.Rows
open PySem.W (WData Codec OpenSpec Well WellAll ReadsW ReadsAllW)
mutual
inductive Dw(K:W.Frag)(H:Hp):V->WData->Prop
 | gi:Dw K H .gi .none
 | bl (b:Bool):Dw K H (.bl b) (.bool b)
 | int (i:Int):Dw K H (.int i) (.int i)
 | str (x:Str):Dw K H (.str x) (.str x)
 | F8 (b:Array UInt8):Dw K H (.F8 b) (.bytes b.toList)
 | lst {a:Addr} {xs:List V} {ds:List WData}:aP K H a xs->pC K H xs ds->Dw K H (.ref a) (.list ds)
 | tup {a:Addr} {xs:List V} {ds:List WData}:jP K H a xs->pC K H xs ds->Dw K H (.ref a) (.tuple ds)
inductive pC(K:W.Frag)(H:Hp):List V->List WData->Prop
 | nil:pC K H [] []
 | cons {v:V} {vs:List V} {d:WData} {ds:List WData}:Dw K H v d->pC K H vs ds->pC K H (v::vs) (d::ds)
end
theorem K4{K:W.Frag}{H:Hp}:∀ns:List Int,pC K H (ns.map V.int) (ns.map WData.int)
 | []=>.nil
 | n::r=>.cons (.int n) (K4 r)
theorem K5{K:W.Frag}{H:Hp}:∀(ns:List Int) (xs:List V),pC K H xs (ns.map WData.int)->xs=ns.map V.int
 | [],xs,h=>by
  cases h;rfl
 | n::r,xs,h=>by
  cases h with
  | cons h1 h2=>
   cases h1;rw[K5 r _ h2] <;> rfl
section
variable{P:Program}{w:World}{K:W.Frag}{H:Hp}{h:Heap}{R:W.WRecords}{cl:Str->Option Addr}
theorem Sk{a:Addr}{xs:List V}(ck:p5 P w H h)(KX:K.In h)(q:aP K H a xs):∃(its:List Value) (o:Obj) (n:Nat),Vals xs its∧h.get? a=some o∧o.cls=.type "list"∧o.data=.seq its.toArray n:=by
 rcases q with q | ⟨o,its,n,e,hc,_,hd,_,hv⟩
 ·obtain⟨_,its,n,hv,e⟩:=(show cT P w H h a (.lst xs) from q.ok ck);exact⟨its,_,n,hv,e,rfl,rfl⟩
 ·exact⟨its.toList,o,n,hv,KX _ _ e,hc,by simp[hd]⟩
theorem Sl{a:Addr}{xs:List V}(ck:p5 P w H h)(KX:K.In h)(q:jP K H a xs):∃(its:List Value) (o:Obj) (n:Nat),Vals xs its∧h.get? a=some o∧o.cls=.type "tuple"∧o.data=.seq its.toArray n:=by
 rcases q with q | ⟨o,its,n,e,hc,hd,_,hv⟩
 ·obtain⟨_,its,hv,o,e,hc,n,hd⟩:=(show cT P w H h a (.tup xs) from q.ok ck);exact⟨its,o,n,hv,e,hc,hd⟩
 ·exact⟨its.toList,o,n,hv,KX _ _ e,hc,by simp[hd]⟩
mutual
theorem Dw.reads(ck:p5 P w H h)(KX:K.In h):∀(d:WData) (v:V) (u:Value),Dw K H v d->RelV v u->∃as,ReadsW R cl h u d as
 | .none,_,_,x,r=>by
  cases x;cases r
  exact⟨_,ReadsW.none⟩
 | .bool b,_,_,x,r=>by
  cases x;cases r
  exact⟨_,ReadsW.bool b⟩
 | .int i,_,_,x,r=>by
  cases x;obtain⟨t,rfl⟩:=r
  exact⟨_,ReadsW.int i t⟩
 | .str s,_,_,x,r=>by
  cases x;obtain⟨t,rfl⟩:=r
  exact⟨_,ReadsW.str s t⟩
 | .bytes b,_,_,x,r=>by
  cases x;obtain⟨t,rfl⟩:=r
  exact⟨_,ReadsW.bytes _ t⟩
 | .list ds,_,_,x,r=>by
  cases x with
  | lst hs ha=>
   cases r;obtain⟨its,o,n,rv,ho,hc,hd⟩:=Sk ck KX hs
   obtain⟨as,hr⟩:=Dw.readsAll ck KX ds _ its ha rv;exact⟨_,ReadsW.list ho hc hd hr⟩
 | .tuple ds,_,_,x,r=>by
  cases x with
  | tup hs ha=>
   cases r;obtain⟨its,o,n,rv,ho,hc,hd⟩:=Sl ck KX hs
   obtain⟨as,hr⟩:=Dw.readsAll ck KX ds _ its ha rv;exact⟨_,ReadsW.tuple ho hc hd hr⟩
 | .float _,_,_,x,_=>by cases x
 | .dict _,_,_,x,_=>by cases x
 | .bytearray _,_,_,x,_=>by cases x
 | .set _,_,_,x,_=>by cases x
 | .frozenset _,_,_,x,_=>by cases x
 | .obj _ _,_,_,x,_=>by cases x
theorem Dw.readsAll(ck:p5 P w H h)(KX:K.In h):∀(ds:List WData) (vs:List V) (us:List Value),pC K H vs ds->Vals vs us->∃as,ReadsAllW R cl h us ds as
 | [],_,_,x,r=>by
  cases x;cases r
  exact⟨_,ReadsAllW.nil⟩
 | d::ds,_,_,x,r=>by
  cases x with
  | cons h1 h2=>
   cases r with
   | cons r1 r2=>
    obtain⟨as,q1⟩:=Dw.reads ck KX d _ _ h1 r1;obtain⟨bs,q2⟩:=Dw.readsAll ck KX ds _ _ h2 r2;exact⟨_,ReadsAllW.cons q1 q2⟩
end
end
mutual
def K6:WData->Bool
 | .none=>true
 | .bool _=>true
 | .int _=>true
 | .str _=>true
 | .bytes _=>true
 | .list xs=>yE xs
 | .tuple xs=>yE xs
 | _=>false
def yE:List WData->Bool
 | []=>true
 | x::r=>K6 x && yE r
end
theorem GN{α:Type}{f:α->WData}(h:∀a,K6 (f a)=true):∀l:List α,yE (l.map f)=true
 | []=>rfl
 | x::r=>by
  show(K6 (f x) && yE (r.map f))=true
  rw[h x,GN h r] <;> rfl
theorem qi:∀(c:Codec) (a:c.denote),K6 (c.enc a)=true
 | .unit,_=>rfl
 | .bool,_=>rfl
 | .int _ _,_=>rfl
 | .nat _ _,_=>rfl
 | .u8,_=>rfl
 | .bytes _ _,_=>rfl
 | .text _ _ _ _,_=>rfl
 | .list _ _ c,a=>GN (fun x=>qi c x) a
 | .pair c d,a=>by
  show(K6 (c.enc a.1) && (K6 (d.enc a.2) && true))=true
  rw[qi c a.1,qi d a.2] <;> rfl
 | .triple c d e,a=>by
  show(K6 (c.enc a.1) && (K6 (d.enc a.2.1) && (K6 (e.enc a.2.2) && true)))=true
  rw[qi c a.1,qi d a.2.1,qi e a.2.2] <;> rfl
 | .option c,none=>rfl
 | .option c,some x=>qi c x
theorem Ec:∀(cs:List Codec) (a:Codec.denoteAll cs),yE (Codec.encAll cs a)=true
 | [],_=>rfl
 | c::cs,a=>by
  show(K6 (c.enc a.1) && yE (Codec.encAll cs a.2))=true
  rw[qi c a.1,Ec cs a.2] <;> rfl
theorem tG:∀{xs:List WData} {d:WData},d∈xs->d.weight<=WData.weightAll xs
 | [],d,h=>absurd h (by simp)
 | x::r,d,h=>by
  show d.weight<=x.weight+1+WData.weightAll r;rcases List.mem_cons.mp h with e | m
  ·rw[e];lia
  ·have z:=tG m;lia
def toV:Value->V
 | .none=>.gi
 | .bool b=>.bl b
 | .int i _=>.int i
 | .str x _=>.str x
 | .bytes b _=>.F8 b
 | .ref a=>.ref a
 | _=>.gi
def LZ(A:List Addr):Value->Prop
 | .none=>True
 | .bool _=>True
 | .int _ _=>True
 | .str _ _=>True
 | .bytes _ _=>True
 | .ref a=>a∈A
 | _=>False
theorem LZ.mono{A B:List Addr}(h:∀a∈A,a∈B):∀{u:Value},LZ A u->LZ B u:=fun {u} x=>by
 cases u with
 | ref a=>exact h a x
 | none=>trivial
 | bool b=>trivial
 | int i t=>trivial
 | str s t=>trivial
 | bytes b t=>trivial
 | _=>exact False.elim x
theorem OD{A:List Addr}{u:Value}(x:LZ A u):RelV (toV u) u:=by
 cases u with
 | ref a=>rfl
 | none=>rfl
 | bool b=>rfl
 | int i t=>exact⟨t,rfl⟩
 | str s t=>exact⟨t,rfl⟩
 | bytes b t=>exact⟨t,rfl⟩
 | _=>exact False.elim x
theorem n8{A:List Addr}:∀{vs:List Value},(∀u∈vs,LZ A u)->Vals (vs.map toV) vs
 | [],_=>.nil
 | u::r,h=>.cons (OD (h u (List.mem_cons_self ..))) (n8 fun x hx=>h x (List.mem_cons_of_mem _ hx))
def pD(h:Heap)(A:List Addr)(a:Addr):Prop:=∃vs:List Value,vs.length<=sizeLine∧(∀u∈vs,LZ A u)∧
 (h.get? a=some { cls:=.type "list",data:=.seq vs.toArray }∨h.get? a=some { cls:=.type "tuple",data:=.seq vs.toArray })
theorem pD.mono{h:Heap}{A B:List Addr}{a:Addr}(k:∀a∈A,a∈B)(x:pD h A a):pD h B a:=by
 obtain⟨vs,h1,h2,h3⟩:=x;exact⟨vs,h1,fun u hu=>(h2 u hu).mono k,h3⟩
theorem nt{P:Params}{h:Heap}:∀{vs:List Value} {ds:List WData},WellAll P h vs ds->vs.length=ds.length
 | _,_,.nil=>rfl
 | _,_,.cons _ b=>by
  show _+1=_+1;rw[nt b]
theorem Ed{P:Params}{h:Heap}{v:Value}{ds:List WData}(x:Well P h v (.list ds)):∃(a:Addr) (vs:List Value),v=.ref a∧h.get? a=some { cls:=.type "list",data:=.seq vs.toArray }∧WellAll P h vs ds:=by
 cases x with
 | list ho hall=>exact⟨_,_,rfl,ho,hall⟩
theorem AI{P:Params}{h:Heap}{v:Value}{ds:List WData}(x:Well P h v (.tuple ds)):∃(a:Addr) (vs:List Value),v=.ref a∧h.get? a=some { cls:=.type "tuple",data:=.seq vs.toArray }∧WellAll P h vs ds:=by
 cases x with
 | tuple ho hall=>exact⟨_,_,rfl,ho,hall⟩
theorem Ee{P:Params}{h:Heap}{us:List Value}{d:WData}{ds:List WData}(x:WellAll P h us (d::ds)):∃(v:Value) (vs:List Value),us=v::vs∧Well P h v d∧WellAll P h vs ds:=by
 cases x with
 | cons a b=>exact⟨_,_,rfl,a,b⟩
theorem K7{n:Nat}(h:n<=1048576):n<=sizeLine:=Nat.le_trans h (by decide)
section
variable{P:Params}{h:Heap}
mutual
theorem OE:∀(d:WData) (v:Value),Well P h v d->K6 d=true->d.weight<=1048576->∃A:List Addr,LZ A v∧∀a∈A,pD h A a
 | .none,_,x,_,_=>by
  cases x;exact⟨[],trivial,fun a m=>absurd m (by simp)⟩
 | .bool b,_,x,_,_=>by
  cases x;exact⟨[],trivial,fun a m=>absurd m (by simp)⟩
 | .int i,_,x,_,_=>by
  cases x;exact⟨[],trivial,fun a m=>absurd m (by simp)⟩
 | .str s,_,x,_,_=>by
  cases x;exact⟨[],trivial,fun a m=>absurd m (by simp)⟩
 | .bytes b,_,x,_,_=>by
  cases x;exact⟨[],trivial,fun a m=>absurd m (by simp)⟩
 | .list ds,_,x,p,z=>by
  obtain⟨a,vs,rfl,ho,hall⟩:=Ed x;have z2:WData.weightAll ds<=1048576:=z;obtain⟨A,h1,h2⟩:=uR ds _ hall p fun d hd=>Nat.le_trans (tG hd) z2
  have k:∀b∈A,b∈a::A:=fun b hb=>List.mem_cons_of_mem _ hb
  refine⟨a::A,List.mem_cons_self ..,fun b hb=>?_⟩;rcases List.mem_cons.mp hb with e | m
  ·rw[e];exact⟨vs,K7 (by rw[nt hall];exact Nat.le_trans (W.length_le_weightAllW ds) z2),fun u hu=>(h1 u hu).mono k,.inl ho⟩
  ·exact(h2 b m).mono k
 | .tuple ds,_,x,p,z=>by
  obtain⟨a,vs,rfl,ho,hall⟩:=AI x;have z2:WData.weightAll ds<=1048576:=z;obtain⟨A,h1,h2⟩:=uR ds _ hall p fun d hd=>Nat.le_trans (tG hd) z2
  have k:∀b∈A,b∈a::A:=fun b hb=>List.mem_cons_of_mem _ hb
  refine⟨a::A,List.mem_cons_self ..,fun b hb=>?_⟩;rcases List.mem_cons.mp hb with e | m
  ·rw[e];exact⟨vs,K7 (by rw[nt hall];exact Nat.le_trans (W.length_le_weightAllW ds) z2),fun u hu=>(h1 u hu).mono k,.inr ho⟩
  ·exact(h2 b m).mono k
 | .float _,_,_,p,_=>Bool.noConfusion (show false=true from p)
 | .dict _,_,_,p,_=>Bool.noConfusion (show false=true from p)
 | .bytearray _,_,_,p,_=>Bool.noConfusion (show false=true from p)
 | .set _,_,_,p,_=>Bool.noConfusion (show false=true from p)
 | .frozenset _,_,_,p,_=>Bool.noConfusion (show false=true from p)
 | .obj _ _,_,_,p,_=>Bool.noConfusion (show false=true from p)
theorem uR:∀(ds:List WData) (vs:List Value),WellAll P h vs ds->yE ds=true->(∀d∈ds,d.weight<=1048576)->∃A:List Addr,(∀u∈vs,LZ A u)∧∀a∈A,pD h A a
 | [],_,x,_,_=>by
  cases x;exact⟨[],fun u m=>absurd m (by simp),fun a m=>absurd m (by simp)⟩
 | d::ds,_,x,p,z=>by
  obtain⟨v,vs,rfl,x1,x2⟩:=Ee x;have q:K6 d=true∧yE ds=true:=Bool.and_eq_true_iff.mp p;obtain⟨A,a1,a2⟩:=OE d v x1 q.1 (z d (List.mem_cons_self ..));obtain⟨B,b1,b2⟩:=uR ds vs x2 q.2 fun e he=>z e (List.mem_cons_of_mem _ he)
  have kA:∀b∈A,b∈A++B:=fun b hb=>List.mem_append.mpr (.inl hb)
  have kB:∀b∈B,b∈A++B:=fun b hb=>List.mem_append.mpr (.inr hb)
  refine⟨A++B,fun u hu=>?_,fun b hb=>?_⟩
  ·rcases List.mem_cons.mp hu with e | m
   ·rw[e];exact a1.mono kA
   ·exact(b1 u m).mono kB
  ·rcases List.mem_append.mp hb with m | m
   ·exact(a2 b m).mono kA
   ·exact(b2 b m).mono kB
end
end
def QK(o:Obj):Option HO:=match o.data with
 | .seq vs _=>if (o.cls == Value.type "list")=true then some (.ye o (.lst (vs.toList.map toV)))else some (.ye o (.tup (vs.toList.map toV)))
 | _=>none
def oU(K:W.Frag)(h:Heap)(A:List Addr):Hp:=fun b=>if b∈A then(if (K.lookup b).isNone=true then(h.get? b).bind QK else none)else none
def Ef(H:Hp):Prop:=∀b,H b=none∨∃o u,H b=some (.ye o u)
theorem GO(vs:List Value):QK { cls:=.type "list",data:=.seq vs.toArray }=some (.ye { cls:=.type "list",data:=.seq vs.toArray } (.lst (vs.map toV))):=by
 show(if (Value.type "list" == Value.type "list")=true then some (HO.ye { cls:=.type "list",data:=.seq vs.toArray } (.lst (vs.toArray.toList.map toV)))else some (HO.ye { cls:=.type "list",data:=.seq vs.toArray } (.tup (vs.toArray.toList.map toV))))=_
 rw[if_pos (beq_self_eq_true _)]
theorem GP(vs:List Value):QK { cls:=.type "tuple",data:=.seq vs.toArray }=some (.ye { cls:=.type "tuple",data:=.seq vs.toArray } (.tup (vs.map toV))):=by
 show(if (Value.type "tuple" == Value.type "list")=true then some (HO.ye { cls:=.type "tuple",data:=.seq vs.toArray } (.lst (vs.toArray.toList.map toV)))else some (HO.ye { cls:=.type "tuple",data:=.seq vs.toArray } (.tup (vs.toArray.toList.map toV))))=_
 rw[if_neg (by decide)]
section
variable{P:Program}{w:World}{K:W.Frag}{h:Heap}{A:List Addr}
theorem zN{b:Addr}{o:Obj}(hb:b∈A)(hk:K.lookup b=none)(e:h.get? b=some o):oU K h A b=QK o:=by
 unfold oU;rw[if_pos hb,hk,if_pos (show(none:Option Obj).isNone=true from rfl),e] <;> rfl
theorem QL{b:Addr}{u:HO}(q:oU K h A b=some u):b∈A∧K.lookup b=none:=by
 unfold oU at q;by_cases hb:b∈A
 ·rw[if_pos hb]at q;cases hk:K.lookup b with
  | none=>exact⟨hb,rfl⟩
  | some o=>
   rw[hk,if_neg (by simp)]at q;cases q
 ·rw[if_neg hb]at q;cases q
theorem zO(ar:∀a∈A,pD h A a){b:Addr}{u:HO}(q:oU K h A b=some u):K.lookup b=none∧∃vs:List Value,vs.length<=sizeLine∧(∀u∈vs,LZ A u)∧
  (
   (h.get? b=some { cls:=.type "list",data:=.seq vs.toArray }∧u=.ye { cls:=.type "list",data:=.seq vs.toArray } (.lst (vs.map toV)))∨
   (h.get? b=some { cls:=.type "tuple",data:=.seq vs.toArray }∧u=.ye { cls:=.type "tuple",data:=.seq vs.toArray } (.tup (vs.map toV)))):=by
 obtain⟨hb,hk⟩:=QL q;obtain⟨vs,h1,h2,h3⟩:=ar b hb;refine⟨hk,vs,h1,h2,?_⟩;rcases h3 with e | e
 ·rw[zN hb hk e,GO]at q;exact .inl ⟨e,(Option.some.inj q).symm⟩
 ·rw[zN hb hk e,GP]at q;exact .inr ⟨e,(Option.some.inj q).symm⟩
theorem L0(ar:∀a∈A,pD h A a):Ef (oU K h A):=fun b=>by
 cases q:oU K h A b with
 | none=>exact .inl rfl
 | some u=>
  obtain⟨_,vs,_,_,⟨_,e⟩ | ⟨_,e⟩⟩:=zO ar q
  ·exact .inr ⟨_,_,by rw[e]⟩
  ·exact .inr ⟨_,_,by rw[e]⟩
theorem QM(ar:∀a∈A,pD h A a):p5 P w (oU K h A) h:=fun b u q=>by
 obtain⟨_,vs,h1,h2,⟨e,rfl⟩ | ⟨e,rfl⟩⟩:=zO ar q
 ·exact⟨e,by rw[List.length_map];exact h1,vs,_,n8 h2,e⟩
 ·exact⟨e,by rw[List.length_map];exact h1,vs,n8 h2,_,e,rfl,_,rfl⟩
theorem zP{c c':Value}{vs us:List Value}(e:(some { cls:=c,data:=.seq vs.toArray }:Option Obj)=some { cls:=c',data:=.seq us.toArray }):c=c'∧vs=us:=by
 have e1:=Option.some.inj e;have e2:c=c':=congrArg Obj.cls e1;have e3:Data.seq vs.toArray=Data.seq us.toArray:=congrArg Obj.data e1;injection e3 with e4
 refine⟨e2,?_⟩;have e5:=congrArg Array.toList e4;simpa using e5
theorem UQ(KX:K.In h)(ar:∀a∈A,pD h A a){a:Addr}{vs:List Value}(ha:a∈A)(e:h.get? a=some { cls:=.type "list",data:=.seq vs.toArray }):(∀u∈vs,LZ A u)∧aP K (oU K h A) a (vs.map toV):=by
 obtain⟨us,h1,h2,h3⟩:=ar a ha;have hu:us=vs:=by
  rcases h3 with q | q
  ·rw[e]at q;exact(zP q).2.symm
  ·rw[e]at q;exact absurd (Value.type.inj (zP q).1) (by decide)
 subst hu;refine⟨h2,?_⟩;cases hk:K.lookup a with
 | none=>exact .inl (.inr ⟨_,by rw[zN ha hk e,GO]⟩)
 | some o=>
  have e2:=KX a o hk;rw[e]at e2;obtain rfl:=Option.some.inj e2;exact .inr ⟨_,us.toArray,_,hk,rfl,rfl,rfl,by rw[List.size_toArray];exact h1,by simpa using n8 h2⟩
theorem UR(KX:K.In h)(ar:∀a∈A,pD h A a){a:Addr}{vs:List Value}(ha:a∈A)(e:h.get? a=some { cls:=.type "tuple",data:=.seq vs.toArray }):(∀u∈vs,LZ A u)∧jP K (oU K h A) a (vs.map toV):=by
 obtain⟨us,h1,h2,h3⟩:=ar a ha;have hu:us=vs:=by
  rcases h3 with q | q
  ·rw[e]at q;exact absurd (Value.type.inj (zP q).1) (by decide)
  ·rw[e]at q;exact(zP q).2.symm
 subst hu;refine⟨h2,?_⟩;cases hk:K.lookup a with
 | none=>exact .inl (.inr ⟨_,by rw[zN ha hk e,GP]⟩)
 | some o=>
  have e2:=KX a o hk;rw[e]at e2;obtain rfl:=Option.some.inj e2;exact .inr ⟨_,us.toArray,_,hk,rfl,rfl,by rw[List.size_toArray];exact h1,by simpa using n8 h2⟩
mutual
theorem Sm{Pm:Params}(KX:K.In h)(ar:∀a∈A,pD h A a):∀(d:WData) (v:Value),Well Pm h v d->K6 d=true->LZ A v->Dw K (oU K h A) (toV v) d
 | .none,_,x,_,_=>by
  cases x;exact .gi
 | .bool b,_,x,_,_=>by
  cases x;exact .bl b
 | .int i,_,x,_,_=>by
  cases x;exact .int i
 | .str s,_,x,_,_=>by
  cases x;exact .str s
 | .bytes b,_,x,_,_=>by
  cases x;have z:=Dw.F8 (K:=K) (H:=oU K h A) b.toArray
  exact z
 | .list ds,_,x,p,hu=>by
  obtain⟨a,vs,rfl,ho,hall⟩:=Ed x;obtain⟨h2,hs⟩:=UQ KX ar hu ho;exact .lst hs (E_ KX ar ds _ hall p h2)
 | .tuple ds,_,x,p,hu=>by
  obtain⟨a,vs,rfl,ho,hall⟩:=AI x;obtain⟨h2,hs⟩:=UR KX ar hu ho;exact .tup hs (E_ KX ar ds _ hall p h2)
 | .float _,_,_,p,_=>Bool.noConfusion (show false=true from p)
 | .dict _,_,_,p,_=>Bool.noConfusion (show false=true from p)
 | .bytearray _,_,_,p,_=>Bool.noConfusion (show false=true from p)
 | .set _,_,_,p,_=>Bool.noConfusion (show false=true from p)
 | .frozenset _,_,_,p,_=>Bool.noConfusion (show false=true from p)
 | .obj _ _,_,_,p,_=>Bool.noConfusion (show false=true from p)
theorem E_{Pm:Params}(KX:K.In h)(ar:∀a∈A,pD h A a):∀(ds:List WData) (vs:List Value),WellAll Pm h vs ds->yE ds=true->(∀u∈vs,LZ A u)->pC K (oU K h A) (vs.map toV) ds
 | [],_,x,_,_=>by
  cases x;exact .nil
 | d::ds,_,x,p,hu=>by
  obtain⟨v,vs,rfl,x1,x2⟩:=Ee x;have q:K6 d=true∧yE ds=true:=Bool.and_eq_true_iff.mp p;exact .cons (Sm KX ar d v x1 q.1 (hu _ (List.mem_cons_self ..))) (E_ KX ar ds vs x2 q.2 fun u m=>hu u (List.mem_cons_of_mem _ m))
end
end
theorem L7{P:Program}{w:World}{K:W.Frag}{mg mb:Str->Option Value}{CX:NL}{k:Nat}{fa:Addr}{fd:FuncData}{ps:List Str}{sp:Sp}{s₁:Shared}{vals:List Value}{ds:List WData}{R:W.WRecords}{cl:Str->Option Addr}{d0:WData}
  (KX:K.In s₁.heap) (hns:s₁.heap.Ns mainGlobals mg) (hb:s₁.heap.Ns builtinsNs mb) (hbb:∀x:Str,x≠"__name__"->mb x=bootBuiltins x) (hlim:s₁.heap.NoLimit) (hg:s₁.gens=#[])
  (hwl:WellAll w.params s₁.heap vals ds) (hpl:yE ds=true) (hwt:∀d∈ds,d.weight<=1048576) (hr:jV k callerA)
  (F:∀base:Heap,K.In base->base.Ns mainGlobals mg->a6 P w K mg base CX k fa fd ps sp) (hbind:∀(s:Shared) (us:List Value),us.length=ps.length->BindsTo s fd ⟨us,[]⟩ (ps.zip us)) (hlen:ds.length=ps.length)
  (hsp:∀(H:Hp) (xs:List V),Ef H->pC K H xs ds->sp xs H (fun v H'=>Dw K H' v d0) fun _ _ _=>False)
  (hCX:∀H e s',CX [] H s₁ (fun _ _ _=>False) e s'->False) :
  codeAny (model P w) callerA (.call (.ref fa) ⟨vals,[]⟩) (fun r s'=>∃u as,r=.ok (.ret u)∧ReadsW R cl s'.heap u d0 as∧OldK s₁.heap s'.heap∧s'.os=s₁.os∧AllBare s'.gens) s₁:=by
 obtain⟨A,ho,ar⟩:=uR ds vals hwl hpl hwt;have hO:Ef (oU K s₁.heap A):=L0 ar;have ck:p5 P w (oU K s₁.heap A) s₁.heap:=QM ar;have hS:=E_ KX ar ds vals hwl hpl ho;have hV:=n8 ho;have hK:∀b u,oU K s₁.heap A b=some u->K.lookup b=none:=fun b u q=>(zO ar q).1
 have noA:∀{b:Addr} {o:Obj} {es:Array DictEntry} {ep:Nat},s₁.heap.get? b=some o->o.data=.dict es ep->oU K s₁.heap A b=none:=fun {b o es ep} e d=>by
  cases q:oU K s₁.heap A b with
  | none=>rfl
  | some u=>
   obtain⟨_,vs,_,_,⟨e2,_⟩ | ⟨e2,_⟩⟩:=zO ar q
   ·rw[e2]at e;cases e;have d':Data.seq vs.toArray _=Data.dict es ep:=d;cases d'
   ·rw[e2]at e;cases e;have d':Data.seq vs.toArray _=Data.dict es ep:=d;cases d'
 generalize oU K s₁.heap A=H at hO ck hS hK noA
 have base_of:∀{b:Addr} {o:Obj},s₁.heap.get? b=some o->H b=none->(EV s₁.heap H).get? b=some o:=fun e n=>N1 e n
 have nsK:∀{b:Addr} {m:Str->Option Value},s₁.heap.Ns b m->(EV s₁.heap H).Ns b m:=fun {b m} ⟨o,es,ep,e,d,r⟩=>⟨o,es,ep,base_of e (noA e d),d,r⟩
 have nK:∀b o,K.lookup b=some o->H b=none:=fun b o e=>by
  cases q:H b with
  | none=>rfl
  | some u=>
   rw[hK b u q]at e;cases e
 have hKb:K.In (EV s₁.heap H):=fun b o e=>base_of (KX b o e) (nK b o e)
 have hM:Mod K mg (EV s₁.heap H):=⟨hKb,nsK hns,⟨mb,nsK hb,hbb⟩,let ⟨mc,h1,h2⟩:=hlim;⟨mc,nsK h1,h2⟩⟩;have e0:IQ P w K mg (EV s₁.heap H) callerA [] s₁ H:=⟨rfl,hM,fun b o e=>Ql e,Nat.le_of_eq (LI _ _),trivial,fun b hb=>absurd (show b∈([]:List Addr) from hb) (by simp),ck,.of_eq hg⟩;have hl:vals.length=ps.length:=by rw[nt hwl];exact hlen
 refine codeAny_mono ((F _ hKb (nsK hns)).run callerA [] s₁ H ⟨vals,[]⟩ vals (vals.map toV) _ _ hr e0 (hbind s₁ vals hl) hV (hsp H _ hO hS)) fun r s' x=>?_
 cases r with
 | error e=>exact(hCX H e s' x).elim
 | ok fl=>
  cases fl with
  | next=>exact False.elim x
  | brk=>exact False.elim x
  | cont=>exact False.elim x
  | ret u=>
   obtain⟨v,H',os,bare,un,hok',r',q⟩:=x;have kept:∀b o,s₁.heap.get? b=some o->s'.heap.get? b=some o:=fun b o e=>by
    cases q2:H b with
    | none=>exact un.keep b o e q2 (by intro z;exact absurd (show b∈([]:List Addr) from z) (by simp)) (by simp)
    | some u2=>
     rcases hO b with z | ⟨ob,u3,z⟩
     ·rw[q2]at z;cases z
     ·have z2:=un.EU b ob _ z;obtain⟨e1,_⟩:=ck b _ z;obtain⟨e2,_⟩:=hok' b _ z2;rw[e]at e1;cases e1;exact e2
   have KX':K.In s'.heap:=fun b o e=>kept b o (KX b o e)
   obtain⟨as,hrd⟩:=Dw.reads (R:=R) (cl:=cl) hok' KX' d0 v u q r';exact⟨u,as,rfl,hrd,OldK.of_keep kept,os,bare⟩
theorem AJ{ds:List WData}(h:WData.layableAll ds=true):∀d∈ds,d.weight<=1048576:=fun d hd=>
 (W.layableW_iff.mp (List.all_eq_true.mp h d hd)).2.2
theorem AK:∀(cs:List Codec) (a:Codec.denoteAll cs),(Codec.encAll cs a).length=cs.length
 | [],_=>rfl
 | c::cs,a=>by
  show(Codec.encAll cs a.2).length+1=cs.length+1
  rw[AK cs a.2]
theorem L8{r:OpenSpec}{k:Nat}{q:Program}{loose:List Str}{XP:(Str->Option Value)->Heap->Prop}{YP:World->Heap->Prop}{d:DefRec}{K:Params->W.Frag}{CX:World->NL}{ps:List Str}{sp:World->Sp}
  (hwell:r.wellSaid=true) (hdf:d.params.defaults=[]) (hlen:r.args.length=ps.length) (hr:jV k callerA)
  (hY:∀(w:World) (h:Heap),YP w h->(K w.params).In h)
  (F:∀(w:World) (mg:Str->Option Value) (fa:Addr) (h:Heap),YP w h->(K w.params).In h->h.Ns mainGlobals mg->mg d.name=some (.ref fa) →
   ∃
    fd:FuncData,(∀(s:Shared) (us:List Value),us.length=ps.length->BindsTo s fd ⟨us,[]⟩ (ps.zip us))∧
    ∀base:Heap,(K w.params).In base->base.Ns mainGlobals mg->a6 r.prog w (K w.params) mg base (CX w) k fa fd ps (sp w))
  (hsp:∀(w:World) (H:Hp) (xs:List V) (a:Codec.denoteAll r.args),Ef H->Codec.withinAll r.args a=true->Codec.app r.args r.asked a=true->pC (K w.params) H xs (Codec.encAll r.args a) →
   sp w xs H (fun v H'=>Dw (K w.params) H' v (r.ret.enc (Codec.app r.args r.f a))) fun _ _ _=>False)
  (hCX:∀(w:World) (H:Hp) (s:Shared) (e:Value) (s':Shared),CX w [] H s (fun _ _ _=>False) e s'->False) :
  W.WalkOS q loose XP YP r d [] (fun f vs=>PySem.call f vs):=by
 intro w D0 s₁ mg mb G Y fa o pm cd doc dV kV ho hd hcd hD hmg hg args vals as hpre hlay hrd hwl hlo;obtain⟨a,e1,e2⟩:=W.os_pre_some hpre;obtain⟨e3,hwi⟩:=Codec.encAll_of_decAll r.args args a e1;subst e3;have KX:=hY w _ Y;obtain⟨fd,hb,hF⟩:=F w mg fa _ Y KX G.T.g hmg;refine W.enter_call (codeAny_mono (L7 (R:=[]) (cl:=classAt D0.heap) (d0:=r.ret.enc (Codec.app r.args r.f a)) KX G.T.g G.T.b G.T.builtins G.T.nolimit hg hwl (Ec _ _) (AJ hlay) hr hF hb (by rw[AK];exact hlen)
  (fun H xs hO hS=>hsp w H xs a hO hwi e2 hS) fun H e s'=>hCX w H s₁ e s') fun r' s' hq=>?_)
 obtain⟨u,as',rfl,h1,h2,h3,h4⟩:=hq;exact⟨.inl ⟨u,_,as',rfl,fun _=>rfl,h1,(OpenSpec.post_iff hwell hwi _ _).mpr rfl,fun z=>Bool.noConfusion (show false=true from z)⟩,h2,h3,h4⟩
theorem Ja{r:OpenSpec}{k:Nat}{q:Program}{loose:List Str}{XP:(Str->Option Value)->Heap->Prop}{YP:World->Heap->Prop}{d:DefRec}{K:Params->W.Frag}{CX:NL}{ps:List Str}{sp:W.Frag->Sp}
  (hwell:r.wellSaid=true) (hdf:d.params.defaults=[]) (hlen:r.args.length=ps.length) (hr:jV k callerA)
  (hY:∀(w:World) (h:Heap),YP w h->(K w.params).In h)
  (F:∀(w:World) (mg:Str->Option Value) (fa:Addr) (h:Heap),YP w h->(K w.params).In h->h.Ns mainGlobals mg->mg d.name=some (.ref fa) →
   ∃
    fd:FuncData,(∀(s:Shared) (us:List Value),us.length=ps.length->BindsTo s fd ⟨us,[]⟩ (ps.zip us))∧
    ∀base:Heap,(K w.params).In base->base.Ns mainGlobals mg->a6 r.prog w (K w.params) mg base CX k fa fd ps (sp (K w.params)))
  (hsp:∀(K:W.Frag) (H:Hp) (xs:List V) (a:Codec.denoteAll r.args),Ef H->Codec.withinAll r.args a=true->Codec.app r.args r.asked a=true->pC K H xs (Codec.encAll r.args a) →
   sp K xs H (fun v H'=>Dw K H' v (r.ret.enc (Codec.app r.args r.f a))) fun _ _ _=>False)
  (hCX:∀(H:Hp) (s:Shared) (e:Value) (s':Shared),CX [] H s (fun _ _ _=>False) e s'->False) :
  W.WalkOS q loose XP YP r d [] (fun f vs=>PySem.call f vs):=
 L8 (K:=K) (CX:=fun _=>CX) (sp:=fun w=>sp (K w.params)) hwell hdf hlen hr hY F (fun w H xs a h1 h2 h3 h4=>hsp (K w.params) H xs a h1 h2 h3 h4) fun _ H s e s'=>hCX H s e s'
end L2
end
section
namespace Pc
open PySem PySem.Spec PyProof.Rows
section
variable{prog:Program}{w:World}{A:Around}{R:Result->Shared->Prop}{E:Value->Shared->Prop}{I S:Addr}{fp wr:List Addr}{n:Nat}{P:Nat->Value->Prop}{St:Nat->Heap->Prop}{kw:List (Str×Value)}
abbrev bestAt(h:Heap)(S:Addr)(vs:Array Value)(c:Nat):Prop:=h.get? S=some { cls:=.type "list",dict:=none,data:=.seq vs c,slots:=#[] }
theorem QN(W:Walks prog w A.in1 I fp wr n P St)(bt:Nat->Nat->Bool)(cmp:CmpOf prog w A.in1 .Gt P bt)(nS:S ∉ fp):∀(left j:Nat) (s:Shared) (b0:Value) (c:Nat),n - (j+1)=left->j+1<=n->St (j+1) s.heap->P (argBest bt j) b0->bestAt s.heap S #[b0,b0] c →
  (∀v h' tk,P (argBest bt (n - 1)) v->(∀b o,b ∉ wr->b≠S->s.heap.get? b=some o->h'.get? b=some o)->R (.ok (.ret v)) { s with heap:=h',toks:=tk })->codeAny (model prog w) A (.builtin "max.loop" ⟨[.ref I,.none,.ref S],kw⟩) R s:=by
 have nw:S ∉ wr:=fun h=>nS (W.sub _ h)
 have nm:(toString "max"++toString ".loop" : String)="max.loop":=by decide
 intro left
 induction left with
 | zero=>
  intro j s b0 c e1 e2 st p0 hS out;have e3:j+1=n:=by lia
  refine codeAny_builtin F.entry_max_loop ?_;rw[Around.under_plainId F.plain_max_loop _];show wpAny (model prog w) A.in1 (seqItems? (.ref S) >>= _) _ _ s;refine wpAny_bind (wpAny_seqItems hS rfl (show wpAny (model prog w) A.in1 (tryCatch (pyNext (.ref I)) _ >>= _) _ _ s from ?_));refine wpAny_bind (wpAny_tryCatch (W.done s _ _ (e3 ▸ st) fun h1 tk k1=>?_));have hS1:=k1 S _ nw hS;show wpAny (model prog w) A.in1 (updateSeq S (fun _=>#[]) >>= _) _ _ _;refine wpAny_bind (wpAny_updateSeq hS1 rfl (wpAny_bind (wpAny_letGo (wpAny_pure ?_))));exact out b0 _ tk (by rw[<-e3];exact p0) fun b o q1 q2 e=>(Heap.get?_update_other _ _ (Ne.symm q2)).trans (k1 b o q1 e)
 | succ left ih=>
  intro j s b0 c e1 e2 st p0 hS out;have lt:j+1<n:=by lia
  refine codeAny_builtin F.entry_max_loop ?_;rw[Around.under_plainId F.plain_max_loop _];show wpAny (model prog w) A.in1 (seqItems? (.ref S) >>= _) _ _ s;refine wpAny_bind (wpAny_seqItems hS rfl (show wpAny (model prog w) A.in1 (tryCatch (pyNext (.ref I)) _ >>= _) _ _ s from ?_));refine wpAny_bind (wpAny_tryCatch (W.item (j+1) s _ _ lt st fun v h1 tk pv st1 k1=>?_));have hS1:=k1 S _ nw hS;show wpAny (model prog w) A.in1 (tryCatch (holding [v,v] (richCompare .Gt v b0 >>= _)) _ >>= _) _ _ _;refine wpAny_bind (wpAny_tryCatch (wpAny_holding (wpAny_bind (cmp (j+1) (argBest bt j) v b0 _ _ _ pv p0 (wpAny_bind (wpAny_holding (wpAny_truthy_bool ?_)))))));refine wpAny_bind (wpAny_letGo (wpAny_pure ?_));cases hb:bt (j+1) (argBest bt j)with
  | true=>
   rw[if_pos rfl];refine wpAny_bind (wpAny_updateSeq hS1 rfl (wpAny_bind (wpAny_letGo ?_)));rw[nm];refine wpAny_pure ⟨plainId_quiet F.plain_max_loop _,ih (j+1) _ v _ (by lia) lt (W.frame _ _ _ st1 fun b q o e=>?_) (by unfold argBest;rw[hb,if_pos rfl];exact pv) (Heap.get?_update_self _ hS1 rfl) fun v2 h2 tk2 p2 k2=>?_⟩
   ·exact(Heap.get?_update_other _ _ (fun z:S=b=>nS (z ▸ q))).trans e
   ·exact out v2 h2 tk2 p2 fun b o q1 q2 e=>k2 b o q1 q2 ((Heap.get?_update_other _ _ (Ne.symm q2)).trans (k1 b o q1 e))
  | false=>
   rw[if_neg Bool.false_ne_true];refine wpAny_bind (wpAny_letGo ?_);rw[nm];refine wpAny_pure ⟨plainId_quiet F.plain_max_loop _,ih (j+1) _ b0 c (by lia) lt st1 (by unfold argBest;rw[hb,if_neg Bool.false_ne_true];exact p0) hS1 fun v2 h2 tk2 p2 k2=>?_⟩;exact out v2 h2 tk2 p2 fun b o q1 q2 e=>k2 b o q1 q2 (k1 b o q1 e)
theorem Jb(W:Walks prog w A.in1 I fp wr n P St)(bt:Nat->Nat->Bool)(cmp:CmpOf prog w A.in1 .Gt P bt)(nS:S ∉ fp){s:Shared}{c:Nat}{nmk:Str}{d:Value}(st:St 0 s.heap)(hS:bestAt s.heap S #[] c)
  (no:n=0->∀h' tk,(∀b o,b ∉ wr->b≠S->s.heap.get? b=some o->h'.get? b=some o)->R (.ok (.ret d)) { s with heap:=h',toks:=tk })
  (out:0<n->∀v h' tk,P (argBest bt (n - 1)) v->(∀b o,b ∉ wr->b≠S->s.heap.get? b=some o->h'.get? b=some o)->R (.ok (.ret v)) { s with heap:=h',toks:=tk }):codeAny (model prog w) A (.builtin "max.loop" ⟨[.ref I,.none,.ref S],[(nmk,d)]⟩) R s:=by
 have nw:S ∉ wr:=fun h=>nS (W.sub _ h)
 have nm:(toString "max"++toString ".loop" : String)="max.loop":=by decide
 refine codeAny_builtin F.entry_max_loop ?_;rw[Around.under_plainId F.plain_max_loop _];show wpAny (model prog w) A.in1 (seqItems? (.ref S) >>= _) _ _ s;refine wpAny_bind (wpAny_seqItems hS rfl (show wpAny (model prog w) A.in1 (tryCatch (pyNext (.ref I)) _ >>= _) _ _ s from ?_));rcases Nat.eq_zero_or_pos n with hn | hn
 ·refine wpAny_bind (wpAny_tryCatch (W.done s _ _ (hn ▸ st) fun h1 tk k1=>?_));refine wpAny_bind (wpAny_rule (wpAny_pure ?_));exact no hn h1 tk fun b o q1 _ e=>k1 b o q1 e
 ·refine wpAny_bind (wpAny_tryCatch (W.item 0 s _ _ hn st fun v h1 tk pv st1 k1=>?_));have hS1:=k1 S _ nw hS;show wpAny (model prog w) A.in1 (updateSeq S (fun _=>#[v,v]) >>= _) _ _ _;refine wpAny_bind (wpAny_updateSeq hS1 rfl ?_);rw[nm];refine wpAny_pure ⟨plainId_quiet F.plain_max_loop _,QN W bt cmp nS _ 0 _ v _ rfl hn (W.frame _ _ _ st1 fun b q o e=>?_) pv (Heap.get?_update_self _ hS1 rfl) fun v2 h2 tk2 p2 k2=>?_⟩
  ·exact(Heap.get?_update_other _ _ (fun z:S=b=>nS (z ▸ q))).trans e
  ·exact out hn v2 h2 tk2 p2 fun b o q1 q2 e=>k2 b o q1 q2 ((Heap.get?_update_other _ _ (Ne.symm q2)).trans (k1 b o q1 e))
theorem L9(a d:Value):argsOk "max" ⟨[a],[(Str.ofString "default",d)]⟩:=by unfold argsOk;kernel_rfl
theorem L_{s:Shared}{x d:Value}{Q:Value->Shared->Prop}
  (h:wpAny (model prog w) A.in1 (pyIter x) (fun it s2=>∃I fp wr n P St bt,it=.ref I∧Walks prog w A.in1 I fp wr n P St∧St 0 s2.heap∧(∀b∈fp,b<s2.heap.objs.size)∧CmpOf prog w A.in1 .Gt P bt∧
   (n=0->∀h' tk,(∀b o,b ∉ wr->s2.heap.get? b=some o->h'.get? b=some o)->Q d { s2 with heap:=h',toks:=tk })∧
   (0<n->∀v h' tk,P (argBest bt (n - 1)) v->(∀b o,b ∉ wr->s2.heap.get? b=some o->h'.get? b=some o)->Q v { s2 with heap:=h',toks:=tk })) E s) :
  wpAny (model prog w) A (call (.builtin "max") [x] [(Str.ofString "default",d)]) Q E s:=by
 have nm:(toString "max"++toString ".loop" : String)="max.loop":=by decide
 refine PyProof.Rows.kmk_tree F.kind_max F.plain_max F.entry_max (L9 _ _) ?_;show wpAny _ A.in1 (Builtin.Builtins.bindParams "max" ["key","default"] 0 ⟨[],[(Str.ofString "default",d)]⟩ >>= _) _ _ s;refine wpAny_bind (wpAny_of_eq (show Builtin.Builtins.bindParams "max" ["key","default"] 0 ⟨[],[(Str.ofString "default",d)]⟩=pure [none,some d] from rfl) (wpAny_bind (wpAny_pure ?_)));refine wpAny_bind (wpAny_mono h (fun it s2 h2=>?_) fun _ _ e=>e);obtain⟨I,fp,wr,n,P,St,bt,rfl,W,st,hfp,cmp,q0,q1⟩:=h2;refine wpAny_bind (wpAny_newObj_type ?_);have nS:s2.heap.objs.size ∉ fp:=fun hm=>Nat.lt_irrefl _ (hfp _ hm)
 rw[nm];refine wpAny_pure ⟨plainId_quiet F.plain_max_loop _,Jb W bt cmp nS (W.frame _ _ _ st fun b _ o e=>Heap.get?_push_of_some _ e) (Heap.get?_push_size _ rfl) (fun hn h' tk hk=>?_) fun hn v h' tk hP hk=>?_⟩
 ·exact q0 hn h' tk fun b o z e=>hk b o z (Nat.ne_of_lt (Heap.lt_size e)) (Heap.get?_push_of_some _ e)
 ·exact q1 hn v h' tk hP fun b o z e=>hk b o z (Nat.ne_of_lt (Heap.lt_size e)) (Heap.get?_push_of_some _ e)
end
section
variable{prog:Program}{w:World}{A:Around}{R:Result->Shared->Prop}{E:Value->Shared->Prop}{I S:Addr}{fp wr:List Addr}{n:Nat}{P:Nat->Value->Prop}{St:Nat->Heap->Prop}{kw:List (Str×Value)}
theorem QO(W:Walks prog w A.in1 I fp wr n P St)(bt:Nat->Nat->Bool)(cmp:CmpOf prog w A.in1 .Lt P bt)(nS:S ∉ fp):∀(left j:Nat) (s:Shared) (b0:Value) (c:Nat),n - (j+1)=left->j+1<=n->St (j+1) s.heap->P (argBest bt j) b0->bestAt s.heap S #[b0,b0] c →
  (∀v h' tk,P (argBest bt (n - 1)) v->(∀b o,b ∉ wr->b≠S->s.heap.get? b=some o->h'.get? b=some o)->R (.ok (.ret v)) { s with heap:=h',toks:=tk })->codeAny (model prog w) A (.builtin "min.loop" ⟨[.ref I,.none,.ref S],kw⟩) R s:=by
 have nw:S ∉ wr:=fun h=>nS (W.sub _ h)
 have nm:(toString "min"++toString ".loop" : String)="min.loop":=by decide
 intro left
 induction left with
 | zero=>
  intro j s b0 c e1 e2 st p0 hS out;have e3:j+1=n:=by lia
  refine codeAny_builtin F.entry_min_loop ?_;rw[Around.under_plainId F.plain_min_loop _];show wpAny (model prog w) A.in1 (seqItems? (.ref S) >>= _) _ _ s;refine wpAny_bind (wpAny_seqItems hS rfl (show wpAny (model prog w) A.in1 (tryCatch (pyNext (.ref I)) _ >>= _) _ _ s from ?_));refine wpAny_bind (wpAny_tryCatch (W.done s _ _ (e3 ▸ st) fun h1 tk k1=>?_));have hS1:=k1 S _ nw hS;show wpAny (model prog w) A.in1 (updateSeq S (fun _=>#[]) >>= _) _ _ _;refine wpAny_bind (wpAny_updateSeq hS1 rfl (wpAny_bind (wpAny_letGo (wpAny_pure ?_))));exact out b0 _ tk (by rw[<-e3];exact p0) fun b o q1 q2 e=>(Heap.get?_update_other _ _ (Ne.symm q2)).trans (k1 b o q1 e)
 | succ left ih=>
  intro j s b0 c e1 e2 st p0 hS out;have lt:j+1<n:=by lia
  refine codeAny_builtin F.entry_min_loop ?_;rw[Around.under_plainId F.plain_min_loop _];show wpAny (model prog w) A.in1 (seqItems? (.ref S) >>= _) _ _ s;refine wpAny_bind (wpAny_seqItems hS rfl (show wpAny (model prog w) A.in1 (tryCatch (pyNext (.ref I)) _ >>= _) _ _ s from ?_));refine wpAny_bind (wpAny_tryCatch (W.item (j+1) s _ _ lt st fun v h1 tk pv st1 k1=>?_));have hS1:=k1 S _ nw hS;show wpAny (model prog w) A.in1 (tryCatch (holding [v,v] (richCompare .Lt v b0 >>= _)) _ >>= _) _ _ _;refine wpAny_bind (wpAny_tryCatch (wpAny_holding (wpAny_bind (cmp (j+1) (argBest bt j) v b0 _ _ _ pv p0 (wpAny_bind (wpAny_holding (wpAny_truthy_bool ?_)))))));refine wpAny_bind (wpAny_letGo (wpAny_pure ?_));cases hb:bt (j+1) (argBest bt j)with
  | true=>
   rw[if_pos rfl];refine wpAny_bind (wpAny_updateSeq hS1 rfl (wpAny_bind (wpAny_letGo ?_)));rw[nm];refine wpAny_pure ⟨plainId_quiet F.plain_min_loop _,ih (j+1) _ v _ (by lia) lt (W.frame _ _ _ st1 fun b q o e=>?_) (by unfold argBest;rw[hb,if_pos rfl];exact pv) (Heap.get?_update_self _ hS1 rfl) fun v2 h2 tk2 p2 k2=>?_⟩
   ·exact(Heap.get?_update_other _ _ (fun z:S=b=>nS (z ▸ q))).trans e
   ·exact out v2 h2 tk2 p2 fun b o q1 q2 e=>k2 b o q1 q2 ((Heap.get?_update_other _ _ (Ne.symm q2)).trans (k1 b o q1 e))
  | false=>
   rw[if_neg Bool.false_ne_true];refine wpAny_bind (wpAny_letGo ?_);rw[nm];refine wpAny_pure ⟨plainId_quiet F.plain_min_loop _,ih (j+1) _ b0 c (by lia) lt st1 (by unfold argBest;rw[hb,if_neg Bool.false_ne_true];exact p0) hS1 fun v2 h2 tk2 p2 k2=>?_⟩;exact out v2 h2 tk2 p2 fun b o q1 q2 e=>k2 b o q1 q2 (k1 b o q1 e)
theorem Jc(W:Walks prog w A.in1 I fp wr n P St)(bt:Nat->Nat->Bool)(cmp:CmpOf prog w A.in1 .Lt P bt)(nS:S ∉ fp){s:Shared}{c:Nat}{nmk:Str}{d:Value}(st:St 0 s.heap)(hS:bestAt s.heap S #[] c)
  (no:n=0->∀h' tk,(∀b o,b ∉ wr->b≠S->s.heap.get? b=some o->h'.get? b=some o)->R (.ok (.ret d)) { s with heap:=h',toks:=tk })
  (out:0<n->∀v h' tk,P (argBest bt (n - 1)) v->(∀b o,b ∉ wr->b≠S->s.heap.get? b=some o->h'.get? b=some o)->R (.ok (.ret v)) { s with heap:=h',toks:=tk }):codeAny (model prog w) A (.builtin "min.loop" ⟨[.ref I,.none,.ref S],[(nmk,d)]⟩) R s:=by
 have nw:S ∉ wr:=fun h=>nS (W.sub _ h)
 have nm:(toString "min"++toString ".loop" : String)="min.loop":=by decide
 refine codeAny_builtin F.entry_min_loop ?_;rw[Around.under_plainId F.plain_min_loop _];show wpAny (model prog w) A.in1 (seqItems? (.ref S) >>= _) _ _ s;refine wpAny_bind (wpAny_seqItems hS rfl (show wpAny (model prog w) A.in1 (tryCatch (pyNext (.ref I)) _ >>= _) _ _ s from ?_));rcases Nat.eq_zero_or_pos n with hn | hn
 ·refine wpAny_bind (wpAny_tryCatch (W.done s _ _ (hn ▸ st) fun h1 tk k1=>?_));refine wpAny_bind (wpAny_rule (wpAny_pure ?_));exact no hn h1 tk fun b o q1 _ e=>k1 b o q1 e
 ·refine wpAny_bind (wpAny_tryCatch (W.item 0 s _ _ hn st fun v h1 tk pv st1 k1=>?_));have hS1:=k1 S _ nw hS;show wpAny (model prog w) A.in1 (updateSeq S (fun _=>#[v,v]) >>= _) _ _ _;refine wpAny_bind (wpAny_updateSeq hS1 rfl ?_);rw[nm];refine wpAny_pure ⟨plainId_quiet F.plain_min_loop _,QO W bt cmp nS _ 0 _ v _ rfl hn (W.frame _ _ _ st1 fun b q o e=>?_) pv (Heap.get?_update_self _ hS1 rfl) fun v2 h2 tk2 p2 k2=>?_⟩
  ·exact(Heap.get?_update_other _ _ (fun z:S=b=>nS (z ▸ q))).trans e
  ·exact out hn v2 h2 tk2 p2 fun b o q1 q2 e=>k2 b o q1 q2 ((Heap.get?_update_other _ _ (Ne.symm q2)).trans (k1 b o q1 e))
theorem Ma(a d:Value):argsOk "min" ⟨[a],[(Str.ofString "default",d)]⟩:=by unfold argsOk;kernel_rfl
theorem Mb{s:Shared}{x d:Value}{Q:Value->Shared->Prop}
  (h:wpAny (model prog w) A.in1 (pyIter x) (fun it s2=>∃I fp wr n P St bt,it=.ref I∧Walks prog w A.in1 I fp wr n P St∧St 0 s2.heap∧(∀b∈fp,b<s2.heap.objs.size)∧CmpOf prog w A.in1 .Lt P bt∧
   (n=0->∀h' tk,(∀b o,b ∉ wr->s2.heap.get? b=some o->h'.get? b=some o)->Q d { s2 with heap:=h',toks:=tk })∧
   (0<n->∀v h' tk,P (argBest bt (n - 1)) v->(∀b o,b ∉ wr->s2.heap.get? b=some o->h'.get? b=some o)->Q v { s2 with heap:=h',toks:=tk })) E s) :
  wpAny (model prog w) A (call (.builtin "min") [x] [(Str.ofString "default",d)]) Q E s:=by
 have nm:(toString "min"++toString ".loop" : String)="min.loop":=by decide
 refine PyProof.Rows.kmk_tree F.kind_min F.plain_min F.entry_min (Ma _ _) ?_;show wpAny _ A.in1 (Builtin.Builtins.bindParams "min" ["key","default"] 0 ⟨[],[(Str.ofString "default",d)]⟩ >>= _) _ _ s;refine wpAny_bind (wpAny_of_eq (show Builtin.Builtins.bindParams "min" ["key","default"] 0 ⟨[],[(Str.ofString "default",d)]⟩=pure [none,some d] from rfl) (wpAny_bind (wpAny_pure ?_)));refine wpAny_bind (wpAny_mono h (fun it s2 h2=>?_) fun _ _ e=>e);obtain⟨I,fp,wr,n,P,St,bt,rfl,W,st,hfp,cmp,q0,q1⟩:=h2;refine wpAny_bind (wpAny_newObj_type ?_);have nS:s2.heap.objs.size ∉ fp:=fun hm=>Nat.lt_irrefl _ (hfp _ hm)
 rw[nm];refine wpAny_pure ⟨plainId_quiet F.plain_min_loop _,Jc W bt cmp nS (W.frame _ _ _ st fun b _ o e=>Heap.get?_push_of_some _ e) (Heap.get?_push_size _ rfl) (fun hn h' tk hk=>?_) fun hn v h' tk hP hk=>?_⟩
 ·exact q0 hn h' tk fun b o z e=>hk b o z (Nat.ne_of_lt (Heap.lt_size e)) (Heap.get?_push_of_some _ e)
 ·exact q1 hn v h' tk hP fun b o z e=>hk b o z (Nat.ne_of_lt (Heap.lt_size e)) (Heap.get?_push_of_some _ e)
end
section
variable{prog:Program}{w:World}{A:Around}{E:Value->Shared->Prop}{s:Shared}{l:Addr}{its:List Value}{ns:List Int}{d:Value}{Q:Value->Shared->Prop}
theorem Mc(hh:A.handled=none)(hl:s.heap.IsList l its.toArray)(hi:IntsAre its ns)
  (h0:ns=[]->∀h' tk,(∀b o,s.heap.get? b=some o->h'.get? b=some o)->Q d { s with heap:=h',toks:=tk })
  (h1:∀h' tk M t',(∀b o,s.heap.get? b=some o->h'.get? b=some o)->M∈ns->(∀a,a∈ns->a<=M)->Q (.int M t') { s with heap:=h',toks:=tk }) :
  wpAny (model prog w) A (call (.builtin "max") [.ref l] [(Str.ofString "default",d)]) Q E s:=by
 obtain⟨xs,e⟩:=hi.allInts.items;have hn:numsOf (intItems xs).toList=ns:=by rw[<-e];exact hi.numsOf
 rw[nums_intItems]at hn;subst hn;rw[e]at hl;refine L_ (iter_intList hl fun s2 es st hfp hlI=>?_);subst es;refine⟨_,_,_,_,_,_,_,rfl,Walks.list (A:=A.in1) hh _ l hlI (intItems xs),st,hfp,CmpOf.ints_gt (numAt xs) (fun _ _=>intItems_at),fun hz h' tk hk=>?_,fun hp v h' tk hP hk=>?_⟩
 ·have hz':xs.size=0:=by simpa[intItems]using hz
  exact h0 (List.eq_nil_of_length_eq_zero (by rw[List.length_map,Array.length_toList];exact hz')) h' tk (old_kept hk)
 ·have hz:0<xs.size:=by simpa[intItems]using hp
  have hv:(intItems xs)[argBest (fun i j=>decide (numAt xs i > numAt xs j)) (xs.size - 1)]? = some v:=by simpa[intItems]using hP
  obtain⟨t,rfl⟩:=intItems_at hv;obtain⟨q1,q2⟩:=argBest_gt (numAt xs) (xs.size - 1);refine h1 h' tk _ t (old_kept hk) ?_ fun a ha=>?_
  ·rw[numAt_eq];exact PySem.getD_mem (by rw[List.length_map,Array.length_toList];lia)
  ·obtain⟨j,hj,rfl⟩:=mem_getD ha;rw[List.length_map,Array.length_toList]at hj;rw[<-numAt_eq];exact q2 j (by lia)
end
section
variable{prog:Program}{w:World}{A:Around}{E:Value->Shared->Prop}{s:Shared}{l:Addr}{its:List Value}{ns:List Int}{d:Value}{Q:Value->Shared->Prop}
theorem Md(hh:A.handled=none)(hl:s.heap.IsList l its.toArray)(hi:IntsAre its ns)
  (h0:ns=[]->∀h' tk,(∀b o,s.heap.get? b=some o->h'.get? b=some o)->Q d { s with heap:=h',toks:=tk })
  (h1:∀h' tk M t',(∀b o,s.heap.get? b=some o->h'.get? b=some o)->M∈ns->(∀a,a∈ns->M<=a)->Q (.int M t') { s with heap:=h',toks:=tk }) :
  wpAny (model prog w) A (call (.builtin "min") [.ref l] [(Str.ofString "default",d)]) Q E s:=by
 obtain⟨xs,e⟩:=hi.allInts.items;have hn:numsOf (intItems xs).toList=ns:=by rw[<-e];exact hi.numsOf
 rw[nums_intItems]at hn;subst hn;rw[e]at hl;refine Mb (iter_intList hl fun s2 es st hfp hlI=>?_);subst es;refine⟨_,_,_,_,_,_,_,rfl,Walks.list (A:=A.in1) hh _ l hlI (intItems xs),st,hfp,CmpOf.ints_lt (numAt xs) (fun _ _=>intItems_at),fun hz h' tk hk=>?_,fun hp v h' tk hP hk=>?_⟩
 ·have hz':xs.size=0:=by simpa[intItems]using hz
  exact h0 (List.eq_nil_of_length_eq_zero (by rw[List.length_map,Array.length_toList];exact hz')) h' tk (old_kept hk)
 ·have hz:0<xs.size:=by simpa[intItems]using hp
  have hv:(intItems xs)[argBest (fun i j=>decide (numAt xs i<numAt xs j)) (xs.size - 1)]? = some v:=by simpa[intItems]using hP
  obtain⟨t,rfl⟩:=intItems_at hv;obtain⟨q1,q2⟩:=argBest_lt (numAt xs) (xs.size - 1);refine h1 h' tk _ t (old_kept hk) ?_ fun a ha=>?_
  ·rw[numAt_eq];exact PySem.getD_mem (by rw[List.length_map,Array.length_toList];lia)
  ·obtain⟨j,hj,rfl⟩:=mem_getD ha;rw[List.length_map,Array.length_toList]at hj;rw[<-numAt_eq];exact q2 j (by lia)
end
end Pc
end
section
namespace Pc
open PySem PySem.Spec PyProof.Rows L2
theorem bh:bootBuiltins "len" = some (.builtin "len"):=by decide +kernel
theorem Fb:bootBuiltins "all" = some (.builtin "all"):=by decide +kernel
theorem Jd:bootBuiltins "max" = some (.builtin "max"):=by decide +kernel
theorem OF:bootBuiltins "min" = some (.builtin "min"):=by decide +kernel
theorem Je:bootBuiltins "sum" = some (.builtin "sum"):=by decide +kernel
theorem rK:bootBuiltins "sorted" = some (.builtin "sorted"):=by decide +kernel
theorem Cw:bootBuiltins "isinstance" = some (.builtin "isinstance"):=by decide +kernel
theorem zQ:bootBuiltins "list" = some (.type "list"):=by decide +kernel
theorem OG:bootBuiltins "tuple" = some (.type "tuple"):=by decide +kernel
theorem GQ{X:Cx}:S4 X (jQ X.K):=by
 intro pins s σ H o i ov iv Q I ro ri h;obtain⟨p,xs,k,z,rfl,rfl,hq,he,q⟩:=h;cases ro;obtain⟨t,rfl⟩:=ri;obtain⟨its,r,pl,hz⟩:=I.list hq;obtain⟨j,h1,h2,h3,h4,h5⟩:=EY he;obtain⟨u,eu,ru⟩:=r.get h2;have hl:=r.length;have hn:=wq;have fin:EP X pins σ Q u s:=⟨z,H,I,ru,q⟩;by_cases h0:0<=k
 ·have hj:k.toNat=j:=by
   rw[seqIndex_of h0 h5]at h1;exact Option.some.inj h1
  exact wpAny_getItem_list pl.isList h0 (by lia) (by rw[hj];simpa using eu) fin
 ·have hj:(k+(its.toArray.size:Int)).toNat=j:=by
   rw[seqIndex_neg (by lia) h4]at h1;rw[List.size_toArray,<-hl];exact Option.some.inj h1
  exact wpAny_getItem_list_neg pl.isList (by lia) (by rw[List.size_toArray] <;> lia) (by lia) (by rw[hj];simpa using eu) fin
def OH(K:W.Frag):V->List V->Hp->VK->Prop:=fun x vs H Q=>∃l b xs zs,x=.ref l∧vs=[.ref b]∧H l=some (.lst xs)∧jP K H b zs∧xs.length+zs.length<=sizeLine∧Q .gi (upd H l (.lst (xs++zs)))
theorem Jf{X:Cx}:U5 X "list.extend" (OH X.K):=by
 intro pins s σ H x vs v us Q I rx rv h;obtain⟨l,b,xs,zs,rfl,rfl,hH,hB,hz,q⟩:=h;cases rx;obtain⟨u,rfl,ru⟩:=rv.one;cases ru;obtain⟨z,its,n,r,hl,e⟩:=I.IW hH;obtain⟨its2,r2,ht,hz2⟩:=I.tuple hB;have hl2:=r2.length;obtain⟨o2,e2,c2,n2,d2⟩:=ht;have hsz:its.toArray.size+its2.toArray.size<=sizeLine:=by rw[List.size_toArray,List.size_toArray];lia
 have hlong:¬(!its.toArray.isEmpty && Builtin.List.listTooLong (its.toArray.size+its2.toArray.size))=true:=by
  rw[AA hsz,Bool.and_false];exact Bool.false_ne_true
 refine wpAny_call_entry F.slot_list_extend ⟨_,e,rfl⟩ F.entry_list_extend ?_ (F.args_list_extend_2 _ _);unfold Builtin.«list.extend»;refine wpAny_bind (wpAny_pure ?_);show wpAny _ _ (Builtin.List.listExtendWith (.ref l) (.ref b) .none) _ _ s;unfold Builtin.List.listExtendWith;refine wpAny_bind (wpAny_typeOf (T:="tuple") ⟨o2,e2,c2⟩ ?_);rw[if_pos (by simp)];unfold Builtin.List.listItems;refine wpAny_bind (wpAny_bind (wpAny_seqItems e2 d2 (wpAny_pure ?_)));refine wpAny_bind (wpAny_bind (wpAny_seqItems e rfl (wpAny_pure ?_)));rw[if_neg hlong];refine wpAny_bind (listUpdate_at e rfl ?_ (hsz2:=by rw[Array.size_append];exact Nat.le_succ_of_le hsz));refine wpAny_pure ⟨_,rfl,.gi,_,I.R5 (its':=its++its2) hH e (by simp) (r.append r2) ?_,rfl,q⟩;rw[List.length_append];lia
def US(K:W.Frag)(T:String):List V->Hp->VK->Prop:=fun xs H Q=>∃y t b,xs=[y,.ty T]∧tD K H y t∧W.kitOne K t (.type T)=some b∧Q (.bl b) H
theorem OI{X:Cx}{T:String}:nj X (.builtin "isinstance") (US X.K T):=by
 intro pins s σ H xs us Q I r h;obtain⟨y,t,b,rfl,ty,ek,q⟩:=h;cases r with
 | cons r1 r2=>
  cases r2 with
  | cons r3 r4=>
   cases r4;cases r3
   exact LQ I r1 ty ek fun tk=>⟨.bl b,H,I.tok _,rfl,q⟩
def Tw(K:W.Frag)(t:TA)(td:TE):TE:=fun σ H Q=>t σ H fun vs H1=>td σ H1 fun d H2=>∃(a:Addr) (ns:List Int),vs=[.ref a]∧aP K H2 a (ns.map V.int)∧(ns=[]->Q d H2)∧∀m,m∈ns->(∀y,y∈ns->y<=m)->Q (.int m) H2
def Tx(K:W.Frag)(t:TA)(td:TE):TE:=fun σ H Q=>t σ H fun vs H1=>td σ H1 fun d H2=>∃(a:Addr) (ns:List Int),vs=[.ref a]∧aP K H2 a (ns.map V.int)∧(ns=[]->Q d H2)∧∀m,m∈ns->(∀y,y∈ns->m<=y)->Q (.int m) H2
section
variable{X:Cx}{e d:Expr}{t:TA}{td:TE}{p kp pos:Pos}
theorem wC(hc:X.calm=true)(hg:Gl X "max")(hm:X.mg "max" = none)(ha:PA X [e] t)(hd:PE X d td)
  (h1:backTo pos (starEach [e] X.env)=(false,eval e X.env)::backTo pos (starEach [] X.env):=by rfl) (h2:(backTo pos (starEach [e] X.env)).any (·.1)=false:=by rfl) :
  PE X (.Call (.Name "max" p) [e] [⟨some "default",d,kp⟩] pos) (Tw X.K t td):=by
 intro pins s σ H Q I h;refine wpAny_Call_Name_kw (nE I hg hm Jd ?_ (by decide) (by decide));refine callWith_kw (cx (ha pos pins s σ H _ I h) fun us s1 ⟨vs,H1,I1,r1,q1⟩=>?_) h1 h2 rfl rfl;refine kws_cons (cx (hd pins s1 σ H1 _ I1 q1) fun dv s2 ⟨dV,H2,I2,rd,a,ns,ev,hs,q0,q2⟩=>kws_nil ?_);subst ev;rw[Vals.AD r1];obtain⟨its,rv,hl,_⟩:=I2.list hs;exact Mc (I2.ok.hd hc) hl.isList rv.ints (fun en h' tk hk=>⟨dV,H2,I2.kept hk,rd,q0 en⟩) fun h' tk m t' hk h3 h4=>⟨.int m,H2,I2.kept hk,⟨_,rfl⟩,q2 m h3 h4⟩
theorem Me(hc:X.calm=true)(hg:Gl X "min")(hm:X.mg "min" = none)(ha:PA X [e] t)(hd:PE X d td)
  (h1:backTo pos (starEach [e] X.env)=(false,eval e X.env)::backTo pos (starEach [] X.env):=by rfl) (h2:(backTo pos (starEach [e] X.env)).any (·.1)=false:=by rfl) :
  PE X (.Call (.Name "min" p) [e] [⟨some "default",d,kp⟩] pos) (Tx X.K t td):=by
 intro pins s σ H Q I h;refine wpAny_Call_Name_kw (nE I hg hm OF ?_ (by decide) (by decide));refine callWith_kw (cx (ha pos pins s σ H _ I h) fun us s1 ⟨vs,H1,I1,r1,q1⟩=>?_) h1 h2 rfl rfl;refine kws_cons (cx (hd pins s1 σ H1 _ I1 q1) fun dv s2 ⟨dV,H2,I2,rd,a,ns,ev,hs,q0,q2⟩=>kws_nil ?_);subst ev;rw[Vals.AD r1];obtain⟨its,rv,hl,_⟩:=I2.list hs;exact Md (I2.ok.hd hc) hl.isList rv.ints (fun en h' tk hk=>⟨dV,H2,I2.kept hk,rd,q0 en⟩) fun h' tk m t' hk h3 h4=>⟨.int m,H2,I2.kept hk,⟨_,rfl⟩,q2 m h3 h4⟩
end
section
variable{prog:Program}{w:World}{A:Around}{E:Value->Shared->Prop}{s:Shared}{d:Addr}{o:Obj}{es:Array DictEntry}{ep:Nat}{Q:Value->Shared->Prop}
theorem QP(hd:(d == sysModules)=false)(hx:o.ExactDict)(hdt:o.data=.dict es ep):W.KdlSrc prog w "dict" d d es.size (fun i v=>∃en,es[i]? = some en∧v=en.key) (fun h=>h.get? d=some o) where
 type:=fun _ e=>⟨o,e,hx.1⟩
 there:=fun _ e=>⟨Heap.lt_size e,Heap.lt_size e⟩
 keep:=fun _ _ e k=>k d (.inl rfl) o e
 notList:=by decide
 notTuple:=by decide
 hint:=fun _ _ _ _ e hq=>W.kdl_hint_dict ⟨o,e,hx.1⟩ hq
 iter:=fun A s hh e=>⟨{ cls:=.type "dict_keyiterator",data:=.fields #[.ref d,.int 0 0,.int es.size 0,.int ep 0] },fun i h=>h.IsKeyIter s.heap.objs.size d i es.size ep∧h.get? d=some o,
  fun _ _ hq=>LY hd e hx hdt hq,
  {
   sub:=fun b hb=>List.mem_cons.mpr (.inl (List.mem_singleton.mp hb))
   frame:=fun i h h' st k=>⟨st.1.at fun o' e'=>k _ (by simp) o' e',k d (by simp) o st.2⟩
   item:=fun i s1 Q E hi st hQ=>by
    have hx2:es[i]? = some es[i]:=Array.getElem?_eq_getElem hi;refine Cv st.1 st.2 hdt rfl hx2 fun h' st' sb=>?_
    have hne:d≠s.heap.objs.size:=Nat.ne_of_lt (Heap.lt_size e);exact hQ _ h' s1.toks ⟨_,hx2,rfl⟩ ⟨st',(sb.2 d hne).trans st.2⟩ fun b u hb eb=>(sb.2 b (fun z=>hb (by rw[z];simp))).trans eb
   done:=fun s1 Q E st hQ=>by
    refine E9 hh st.1 st.2 hdt rfl (Nat.le_refl _) fun h' xb=>?_
    exact hQ h' s1.toks fun b u hb eb=>xb b u (fun z=>hb (by rw[z];simp)) eb
   self:=fun i s1 Q E st hq=>wpAny_pyIter_keyiter st.1 hq },
  ⟨⟨_,Heap.get?_push_size _ rfl,rfl,rfl⟩,Heap.get?_push_of_some _ e⟩⟩
theorem AL(hd:(d == sysModules)=false)(ho:s.heap.get? d=some o)(hx:o.ExactDict)(hdt:o.data=.dict es ep)(hh:A.handled=none)(hn:es.size<=sizeLine)
  (h:∀(h':Heap) (tk:Nat) (vs:List Value),(∀b u,s.heap.get? b=some u->h'.get? b=some u)->vs.length=es.size->(∀(j:Nat) v,vs[j]? = some v->∃en,es[j]? = some en∧v=en.key) →
   wpAny (model prog w) A.in1.in1 (Builtin.«list.sort» ⟨[.ref h'.objs.size],[]⟩) (fun fin s'=>∃v,fin=.done (.ret v)∧Q (.ref h'.objs.size) s') E { s with heap:=h'.push (seqObj "list" vs.toArray 0),toks:=tk }) :
  wpAny (model prog w) A (call (.builtin "sorted") [.ref d]) Q E s:=by
 refine Calls.call_function_entry kind_sorted plain_sorted entry_sorted (args_sorted1 _) ?_;unfold Builtin.«sorted»;refine wpAny_bind (m:=checkCount "sorted" 1 1 _) (wpAny_pure (wpAny_bind ?_));refine W.kdu_collect (A:=A.in1) (QP hd hx hdt) hh ho hn fun h' tk acc hk hacc=>?_
 have hl:acc.toList.length=es.size:=by rw[Array.length_toList];exact hacc.1
 refine wpAny_bind (wpAny_newList ?_ (by rw[hl];exact hn));have hoL:(h'.push (seqObj "list" acc.toList.toArray 0)).get? h'.objs.size=some (seqObj "list" acc.toList.toArray 0):=Heap.get?_push_size _ rfl;have key:=h h' tk acc.toList hk hl fun j v e=>hacc.2 j v (by rw[<-Array.getElem?_toList];exact e)
 refine wpAny_bind (wpAny_holding (wpAny_call_entry slot_list_sort ⟨_,hoL,rfl⟩ entry_list_sort (wpAny_mono key (fun fin s' ⟨v,e1,q⟩=>⟨v,e1,?_⟩) fun _ _ z=>z) (args_list_sort _)));exact wpAny_pure ⟨_,rfl,q⟩
end
end Pc
end
section
namespace Pc
open PySem PySem.Spec PyProof.Rows L2
theorem GR:∀{ks:List Int} {us:List Value},us.length=ks.length->(∀(j:Nat) v k,us[j]? = some v->ks[j]? = some k->∃t,v=Value.int k t)->IntsAre us ks
 | [],[],_,_=>.nil
 | [],_::_,h,_=>by simp at h
 | _::_,[],h,_=>by simp at h
 | k::ks,v::us,h,f=>by
  obtain⟨t,rfl⟩:=f 0 v k rfl rfl;exact .cons k t (GR (by simpa using h) fun j v k h1 h2=>f (j+1) v k (by simpa using h1) (by simpa using h2))
def Mf:List V->Hp->VK->Prop:=fun vs H Q=>∃(a:Addr) (kvs:List (Key×V)) (ns:List Int),vs=[V.ref a]∧H a=some (.dK kvs)∧kvs.map (·.1)=ns.map Sum.inl∧
 ∀(ns':List Int) (p:Addr),ns'.Perm ns->ns'.Pairwise (·<=·)->H p=none->Q (.ref p) (upd H p (.lst (ns'.map V.int)))
theorem GS{X:Cx}(hc:X.calm=true):nj X (.builtin "sorted") Mf:=by
 intro pins s σ H vs us Q I r h;obtain⟨a,kvs,ns,rfl,ha,hk,q⟩:=h;rw[Vals.AD r];obtain⟨hz,hS,ws,kv,o,es,ep,ho,hx,hdt,hko,hp,hnd⟩:=(show cT X.prog X.w H s.heap a (.dK kvs) from I.ck a _ ha);have l1:es.toList.length=ws.length:=hp.length;have l2:kvs.length=ws.length:=Paired.length kv;have l3:kvs.length=ns.length:=by have:=congrArg List.length hk;simpa using this
 rw[Array.length_toList]at l1;refine AL hS ho hx hdt (I.ok.hd hc) (by lia) fun h' tk us' hk' hl hv=>?_
 have I1:Inv X pins σ H { s with heap:=h',toks:=tk }:=I.kept hk';have hI:IntsAre us' ns:=by
  refine GR (by lia) fun j v k h1 h2=>?_
  obtain⟨en,e1,e2⟩:=hv j v h1;subst e2;have hj:kvs[j]?.map (·.1)=some (Sum.inl k):=by
   rw[<-List.getElem?_map,hk,List.getElem?_map,h2];rfl
  rw[Option.map_eq_some_iff]at hj;obtain⟨kv0,e3,e4⟩:=hj;obtain⟨k0,v0⟩:=kv0;simp only at e4;subst e4;obtain⟨u,e5,_⟩:=Sj kv e3;have:=hp.get? (i:=j) (e:=en) (k:=Sum.inl k) (v:=u) (by rw[Array.getElem?_toList];exact e1) e5;obtain⟨i,t,e6,e7⟩ | ⟨x,t,e6,_⟩:=c5 (show An (Sum.inl k) en.key=true from this.1)
  ·cases e6;exact⟨t,e7⟩
  ·cases e6
 have hoL:(h'.push (seqObj "list" us'.toArray 0)).get? h'.objs.size=some (seqObj "list" us'.toArray 0):=Heap.get?_push_size _ rfl;refine list_sort_treeAny hoL hI (by lia) fun out ns' h1 h2 h3=>⟨_,rfl,?_⟩
 obtain⟨ep',he'⟩:=sortedHeap_at (vs:=us') (out:=out) hoL;have hlen:(ns'.map V.int).length<=sizeLine:=by rw[List.length_map,h2.length_eq];lia
 refine⟨.ref _,upd H h'.objs.size (.lst (ns'.map V.int)),I1.laid (t':=tk) (fun b u e=>?_) (Nat.le_refl _) ⟨hlen,out.toList,ep',oS h1,he'⟩,rfl,q ns' _ h2 h3 (I1.ck.fresh (Nat.le_refl _))⟩;have hb:b<h'.objs.size:=Heap.lt_size e;rw[sortedHeap_old (Nat.ne_of_lt hb) (by rw[Heap.size_push];exact Nat.lt_succ_of_lt hb)];exact Heap.get?_push_of_some _ e
def OJ(K:W.Frag):List V->Hp->VK->Prop:=fun vs H Q=>∃(a:Addr) (ns:List Int),vs=[V.ref a]∧aP K H a (ns.map V.int)∧
 ∀(ns':List Int) (p:Addr),ns'.Perm ns->ns'.Pairwise (·<=·)->H p=none->Q (.ref p) (upd H p (.lst (ns'.map V.int)))
theorem Jg{X:Cx}:nj X (.builtin "sorted") (OJ X.K):=by
 intro pins s σ H vs us Q I r h;obtain⟨a,ns,rfl,hs,q⟩:=h;obtain⟨its,rv,hl,hz⟩:=I.list hs;rw[Vals.AD r];have hi:=rv.ints;have hll:=rv.length;have hns:its.length=ns.length:=by have:=hll;rw[List.length_map]at this;lia
 refine sorted_intsAny hl.isList hi (by lia) fun out ns' h1 h2 h3=>?_
 obtain⟨ep,he'⟩:=sortedAll_at s.heap its out;have hlen:(ns'.map V.int).length<=sizeLine:=by rw[List.length_map,h2.length_eq];lia
 exact⟨.ref _,upd H (s.heap.objs.size+1) (.lst (ns'.map V.int)),I.laid (t':=s.toks) (fun _ _=>sortedAll_old) (Nat.le_succ _) ⟨hlen,out.toList,ep,oS h1,he'⟩,rfl,q ns' _ h2 h3 (I.ck.fresh (Nat.le_succ _))⟩
def oV:List Int->List Int->Bool
 | [],[]=>false
 | [],_::_=>true
 | _::_,[]=>false
 | x::r,y::t=>decide (x<y) || (!decide (y<x) && oV r t)
theorem K8:∀a b:List Int,lexLt itemOrd (a.map Sum.inl) (b.map Sum.inl)=oV a b
 | [],[]=>rfl
 | [],_::_=>rfl
 | _::_,[]=>rfl
 | x::r,y::t=>by
  rw[List.map_cons,List.map_cons,lex_cons,K8 r t];rfl
def GU:List V->List Int
 | []=>[]
 | .int i::r=>i::GU r
 | _::r=>0::GU r
def pO(H:Hp)(b:Addr):List Int:=match H b with
 | some (.tup xs)=>GU xs
 | _=>[]
theorem AM:∀zs:List Int,GU (zs.map V.int)=zs
 | []=>rfl
 | z::zs=>by rw[List.map_cons];show z::GU (zs.map V.int)=z::zs;rw[AM zs]
theorem rL{H:Hp}{b:Addr}{zs:List Int}(h:H b=some (.tup (zs.map V.int))):pO H b=zs:=by
 unfold pO;rw[h];exact AM zs
def qj:Nat->Bool:=fun _=>false
theorem sF:∀{its:List Value} {zs:List Int} (i:Nat),IntsAre its zs->tupItems qj i its=some (zs.map Sum.inl)
 | _,_,_,.nil=>rfl
 | _,_,i,.cons n t h=>by
  show(if qj i=true then none else(tupItems qj (i+1) _).map (Sum.inl n::·))=_
  rw[if_neg (by show ¬(false=true);simp),sF (i+1) h];rfl
section
variable{X:Cx}{pins:List (Addr×Obj)}{σ:L2.St}{H:Hp}{s:Shared}
theorem n9{b:Addr}{zs:List Int}(I:Inv X pins σ H s)(h:H b=some (.tup (zs.map V.int)))(hz:zs≠[]):(∃f,TupOf s.heap qj (.ref b) f)∧G.tupKeyC s.heap qj (.ref b)=some (zs.map Sum.inl):=by
 obtain⟨z,its,r,o,e,c,n,d⟩:=(show cT X.prog X.w H s.heap b (.tup (zs.map V.int)) from I.ck b _ h);have hi:=r.ints;constructor
 ·cases hi with
  | nil=>exact absurd rfl hz
  | cons k t hr=>exact⟨_,b,o,_,n,rfl,e,c,d,by simp,fun _=>⟨k,t,rfl⟩,fun q=>absurd (show false=true from q) (by simp)⟩
 ·unfold G.tupKeyC;have e1:G.isTupObj s.heap (.ref b)=true:=by simp[G.isTupObj,e,c]
  rw[if_pos e1];simp only[tupKey,e,d];exact sF 0 hi
theorem Fc(I:Inv X pins σ H s):∀(as:List Addr),(∀b,b∈as->∃zs,zs≠[]∧H b=some (.tup (zs.map V.int)))->∃fs,TupsOf s.heap qj (as.map Value.ref) fs
 | [],_=>⟨[],.nil⟩
 | b::as,h=>by
  obtain⟨zs,hz,hb⟩:=h b (by simp);obtain⟨f,hf⟩:=(n9 I hb hz).1;obtain⟨fs,hfs⟩:=Fc I as fun c hc=>h c (List.mem_cons_of_mem _ hc)
  exact⟨f::fs,.cons hf hfs⟩
theorem GV(I:Inv X pins σ H s){as:List Addr}(h:∀b,b∈as->∃zs,zs≠[]∧H b=some (.tup (zs.map V.int))){arr:Array Keyed}(hp:arr.Perm (pairsOf (as.map Value.ref)))(hs:SortedToK (G.tupKindC s.heap qj) arr (pairsOf (as.map Value.ref)).size) :
  ∃as':List Addr,(arr.map (·.2)).toList=as'.map Value.ref∧as'.Perm as∧as'.Pairwise fun b c=>oV (pO H c) (pO H b)=false:=by
 have hl:arr.toList.Perm ((as.map Value.ref).zip (as.map Value.ref)):=by rw[<-pairsOf_toList];exact Array.perm_iff_toList_perm.mp hp
 let unref:Value->Addr:=fun v=>match v with | .ref b=>b | _=>0
 have hmem:∀p,p∈arr.toList->∃b,b∈as∧p=(Value.ref b,Value.ref b):=fun p hp'=>by
  obtain⟨e1,e2⟩:=mem_zip_self (hl.mem_iff.mp hp');obtain⟨b,hb,e3⟩:=List.mem_map.mp e2;refine⟨b,hb,?_⟩;obtain⟨p1,p2⟩:=p;simp only at e1 e3;subst e1;rw[e3]
 refine⟨arr.toList.map fun p=>unref p.2,?_,?_,?_⟩
 ·rw[Array.toList_map,List.map_map];refine List.map_congr_left fun p hp'=>?_
  obtain⟨b,_,rfl⟩:=hmem p hp';rfl
 ·have h1:=hl.map fun p:Keyed=>unref p.2
  have e2:((as.map Value.ref).zip (as.map Value.ref)).map (fun p:Keyed=>unref p.2)=as:=by
   have:((as.map Value.ref).zip (as.map Value.ref)).map (fun p:Keyed=>unref p.2)=(((as.map Value.ref).zip (as.map Value.ref)).map Prod.snd).map unref:=by rw[List.map_map];rfl
   rw[this,List.map_snd_zip (Nat.le_refl _),List.map_map]
   conv=>rhs;rw[<-List.map_id as]
   exact List.map_congr_left fun b _=>rfl
  rwa [e2]at h1
 ·rw[List.pairwise_iff_getElem];intro i j hi hj hij;rw[List.length_map,Array.length_toList]at hi hj;have hsz:arr.size=(pairsOf (as.map Value.ref)).size:=hp.size_eq;have key:=hs i j (by lia) (by lia);have ei:arr[i]? = some arr[i]:=Array.getElem?_eq_getElem hi;have ej:arr[j]? = some arr[j]:=Array.getElem?_eq_getElem hj;obtain⟨b,hb,eb⟩:=hmem arr[i] (Array.getElem_mem_toList hi);obtain⟨c,hc,ec⟩:=hmem arr[j] (Array.getElem_mem_toList hj);obtain⟨zb,nb,hHb⟩:=h b hb;obtain⟨zc,nc,hHc⟩:=h c hc;have kb:=(n9 I hHb nb).2;have kc:=(n9 I hHc nc).2;have k1:KK (G.tupKindC s.heap qj) arr i=zb.map Sum.inl:=by unfold KK;rw[ei,eb];show(G.tupKeyC s.heap qj (.ref b)).getD []=_;rw[kb];rfl
  have k2:KK (G.tupKindC s.heap qj) arr j=zc.map Sum.inl:=by unfold KK;rw[ej,ec];show(G.tupKeyC s.heap qj (.ref c)).getD []=_;rw[kc];rfl
  rw[k1,k2]at key;have key':lexLt itemOrd (zc.map Sum.inl) (zb.map Sum.inl)=false:=key;rw[K8]at key';rw[List.getElem_map,List.getElem_map,Array.getElem_toList,Array.getElem_toList,eb,ec];show oV (pO H c) (pO H b)=false;rw[rL hHb,rL hHc];exact key'
theorem AN:∀as:List Addr,Vals (as.map V.ref) (as.map Value.ref)
 | []=>.nil
 | a::as=>.cons rfl (AN as)
end
def Mg:List V->Hp->VK->Prop:=fun vs H Q=>∃(a:Addr) (kvs:List (List Key×V)) (zss:List (List Int)),vs=[V.ref a]∧H a=some (.dT kvs)∧kvs.map (·.1)=zss.map (fun z=>z.map Sum.inl)∧(∀zs,zs∈zss->zs≠[])∧
 ∀(as:List Addr) (p:Addr),(as.map (pO H)).Perm zss->(∀b,b∈as->H b=some (.tup ((pO H b).map V.int)))->as.Pairwise (fun b c=>oV (pO H c) (pO H b)=false)->H p=none->Q (.ref p) (upd H p (.lst (as.map V.ref)))
def OK:List V->Hp->VK->Prop:=fun vs H Q=>∃(a:Addr) (as:List Addr),vs=[V.ref a]∧H a=some (.lst (as.map V.ref))∧(∀b,b∈as->∃zs,zs≠[]∧H b=some (.tup (zs.map V.int)))∧
 ∀(as':List Addr) (p:Addr),as'.Perm as->as'.Pairwise (fun b c=>oV (pO H c) (pO H b)=false)->H p=none->Q (.ref p) (upd H p (.lst (as'.map V.ref)))
theorem Eg:∀{as:List Addr} {us:List Value},Vals (as.map V.ref) us->us=as.map Value.ref
 | [],us,h=>by cases h;rfl
 | a::as,us,h=>by
  rw[List.map_cons]at h;cases h with
  | cons r t=>
   cases r;rw[Eg t]
   rfl
theorem Jh{X:Cx}:nj X (.builtin "sorted") OK:=by
 intro pins s σ H vs us Q I r h;obtain⟨a,as,rfl,ha,ht,q⟩:=h;rw[Vals.AD r];obtain⟨z,its,n,rv,e⟩:=(show cT X.prog X.w H s.heap a (.lst (as.map V.ref)) from I.ck a _ ha);have hu:=Eg rv;subst hu;have hl:as.length<=sizeLine:=by rw[List.length_map]at z;exact z
 obtain⟨fs,hfs⟩:=Fc I as ht;refine G.sorted_tups (l:=a) (vs:=as.map Value.ref) ⟨_,e,rfl,⟨_,rfl⟩⟩ hfs (fun v hv=>?_) (by rw[List.length_map];exact hl) fun st' h1 h2 _=>?_
 ·obtain⟨b,hb,rfl⟩:=List.mem_map.mp hv;obtain⟨zs,hz,hH⟩:=ht b hb;exact⟨_,(n9 I hH hz).2⟩
 ·obtain⟨as',e1,e2,e3⟩:=GV I ht h1 h2;obtain⟨ep,he'⟩:=sortedAll_at s.heap (as.map Value.ref) ((arrOf st').map (·.2));have hlen:(as'.map V.ref).length<=sizeLine:=by rw[List.length_map,e2.length_eq];exact hl
  exact⟨.ref _,upd H (s.heap.objs.size+1) (.lst (as'.map V.ref)),I.laid (t':=s.toks) (fun _ _=>sortedAll_old) (Nat.le_succ _) ⟨hlen,((arrOf st').map (·.2)).toList,ep,by rw[e1];exact AN as',by rw[he']⟩,rfl,q as' _ e2 e3 (I.ck.fresh (Nat.le_succ _))⟩
theorem GW{X:Cx}(hc:X.calm=true):nj X (.builtin "sorted") Mg:=by
 intro pins s σ H vs us Q I r h;obtain⟨a,kvs,zss,rfl,ha,hk,hne,q⟩:=h;rw[Vals.AD r];obtain⟨hz,hS,xs,pr,o,es,ep,ho,hx,hdt,he,hnd⟩:=(show cT X.prog X.w H s.heap a (.dT kvs) from I.ck a _ ha);have l1:es.size=xs.length:=size_of_entries he;have l2:kvs.length=xs.length:=Paired.length pr;have l3:kvs.length=zss.length:=by have:=congrArg List.length hk;simpa using this
 have at0:∀(j:Nat) x,xs[j]? = some x->∃zs,zss[j]? = some zs∧H x.2.1=some (.tup (zs.map V.int)):=fun j x hx=>by
  have hj:=(List.getElem?_eq_some_iff.mp hx).1;have hkj:kvs[j]? = some kvs[j]:=List.getElem?_eq_getElem (by lia);have hzj:zss[j]? = some zss[j]:=List.getElem?_eq_getElem (by lia);obtain⟨y,hy,e1,e2,_⟩:=I_ pr hkj;rw[hx]at hy;have exy:=Option.some.inj hy;subst exy;refine⟨_,hzj,?_⟩;have e3:(kvs.map (·.1))[j]? = (zss.map fun z=>z.map Sum.inl)[j]?:=by rw[hk]
  rw[List.getElem?_map,List.getElem?_map,hkj,hzj]at e3;have e4:kvs[j].1=zss[j].map Sum.inl:=Option.some.inj e3;rw[e2,e4,List.map_map];rfl
 have ezs:(xs.map (·.2.1)).map (pO H)=zss:=by
  apply List.ext_getElem?;intro j;rw[List.map_map,List.getElem?_map];cases e:xs[j]? with
  | none=>
   have:xs.length<=j:=List.getElem?_eq_none_iff.mp e;rw[List.getElem?_eq_none (by lia)];rfl
  | some x=>
   obtain⟨zs,h1,h2⟩:=at0 j x e;rw[h1];exact congrArg some (rL h2)
 have ht:∀b,b∈xs.map (·.2.1)->∃zs,zs≠[]∧H b=some (.tup (zs.map V.int)):=fun b hb=>by
  obtain⟨x,hx,rfl⟩:=List.mem_map.mp hb;obtain⟨j,hj⟩:=List.mem_iff_getElem?.mp hx;obtain⟨zs,h1,h2⟩:=at0 j x hj;exact⟨zs,hne zs (List.mem_of_getElem? h1),h2⟩
 refine AL hS ho hx hdt (I.ok.hd hc) (by lia) fun h' tk us' hk' hl hv=>?_
 have I1:Inv X pins σ H { s with heap:=h',toks:=tk }:=I.kept hk';have hu:us'=(xs.map (·.2.1)).map Value.ref:=by
  apply List.ext_getElem?;intro j;rw[List.map_map,List.getElem?_map];cases e:us'[j]? with
  | none=>
   have:us'.length<=j:=List.getElem?_eq_none_iff.mp e;rw[List.getElem?_eq_none (by lia)];rfl
  | some v=>
   obtain⟨en,e1,e2⟩:=hv j v e;have e3:=entry_at he j;rw[e1]at e3;cases e4:xs[j]? with
   | none=>rw[e4]at e3;cases e3
   | some x=>
    rw[e4]at e3;have e5:=Option.some.inj e3;rw[e2,e5];rfl
 subst hu;have hoL:(h'.push (seqObj "list" ((xs.map (·.2.1)).map Value.ref).toArray 0)).get? h'.objs.size=some (seqObj "list" ((xs.map (·.2.1)).map Value.ref).toArray 0):=Heap.get?_push_size _ rfl;have I2:Inv X pins σ H { s with heap:=h'.push (seqObj "list" ((xs.map (·.2.1)).map Value.ref).toArray 0),toks:=tk }:=I1.kept (t':=tk) fun b u e=>Heap.get?_push_of_some _ e
 obtain⟨fs,hfs⟩:=Fc I2 _ ht;refine G.list_sort_tups (s:={ s with heap:=h'.push (seqObj "list" ((xs.map (·.2.1)).map Value.ref).toArray 0),toks:=tk }) hoL hfs (fun v hv=>?_) (by rw[List.length_map,List.length_map];lia) fun st' h1 h2 _=>⟨_,rfl,?_⟩
 ·obtain⟨b,hb,rfl⟩:=List.mem_map.mp hv;obtain⟨zs,hz,hH⟩:=ht b hb;exact⟨_,(n9 I2 hH hz).2⟩
 ·obtain⟨as',e1,e2,e3⟩:=GV I2 ht h1 h2;obtain⟨ep',he'⟩:=sortedHeap_at (vs:=(xs.map (·.2.1)).map Value.ref) (out:=(arrOf st').map (·.2)) hoL;have hlen:(as'.map V.ref).length<=sizeLine:=by rw[List.length_map,e2.length_eq,List.length_map];lia
  refine⟨.ref _,upd H h'.objs.size (.lst (as'.map V.ref)),I1.laid (t':=tk) (fun b u e=>?_) (Nat.le_refl _) ⟨hlen,((arrOf st').map (·.2)).toList,ep',by rw[e1];exact AN as',by rw[he']⟩,rfl,
   q as' _ (by rw[<-ezs];exact e2.map _) (fun b hb=>?_) e3 (I1.ck.fresh (Nat.le_refl _))⟩
  ·have hb:b<h'.objs.size:=Heap.lt_size e
   show(sortedHeap (h'.push _) h'.objs.size _ _).get? b=some u
   rw[sortedHeap_old (Nat.ne_of_lt hb) (by rw[Heap.size_push];exact Nat.lt_succ_of_lt hb)];exact Heap.get?_push_of_some _ e
  ·obtain⟨zs,_,hH⟩:=ht b (e2.mem_iff.mp hb);rw[rL hH];exact hH
end Pc
end
section
namespace Pc
open PySem PySem.Spec PyProof.Rows L2
abbrev iN(n:Nat):V:=.int (n:Int)
abbrev nats(l:List Nat):List V:=l.map iN
abbrev a_(l:List Int):List V:=l.map V.int
theorem AO{l:List Nat}{i x:Nat}(h:l[i]? = some x):(nats l)[i]? = some (iN x):=by
 rw[List.getElem?_map,h];rfl
theorem bJ{l:List Nat}{i:Nat}{v:V}(h:(nats l)[i]? = some v):∃x,l[i]? = some x∧v=iN x:=by
 rw[List.getElem?_map,Option.map_eq_some_iff]at h;obtain⟨x,h1,h2⟩:=h;exact⟨x,h1,h2.symm⟩
theorem K9{l:List Int}{i:Nat}{v:V}(h:(a_ l)[i]? = some v):∃x,l[i]? = some x∧v=.int x:=by
 rw[List.getElem?_map,Option.map_eq_some_iff]at h;obtain⟨x,h1,h2⟩:=h;exact⟨x,h1,h2.symm⟩
theorem Mh(l:List Nat):nats l=a_ (l.map fun(n:Nat)=>(n:Int)):=by
 unfold nats a_;rw[List.map_map];rfl
theorem a5{l:List Nat}{z:Int}{i x:Nat}(e:z=(i:Int))(h:l[i]? = some x):EX (nats l) z=some (iN x):=at_of e (AO h)
theorem nF{n:Nat}{z:Int}{i:Nat}(e:z=(i:Int))(h:i<n):Qc n z=some i:=by
 subst e;unfold Qc;rw[if_pos (by lia),if_pos (by lia)];simp
theorem mL(l:List Nat)(i x:Nat):(nats l).set i (iN x)=nats (l.set i x):=by
 unfold nats;rw[List.map_set]
theorem jL(l:List Nat)(x:Nat):nats l++[iN x]=nats (l++[x]):=by
 unfold nats;rw[List.map_append];rfl
theorem small{n:Nat}(h:n<=16000000):n<sizeLine:=by rw[sizeLine_eq];lia
theorem jy{n:Nat}(h:n<=16000000):n<=sizeLine:=Nat.le_of_lt (small h)
theorem aq.new{H:Hp}{l:Addr}{o:HO}(h:H l=none):aq H (upd H l o):=fun b u e=>by
 rw[ak (ao e h)];exact e
theorem aq.put{H0 H:Hp}{l:Addr}{o:HO}(s:aq H0 H)(h:H0 l=none):aq H0 (upd H l o):=fun b u e=>by
 rw[ak (ao e h)];exact s b u e
section
variable{α:Type}{R:Hp->V->α->Prop}
def Each(R:Hp->V->α->Prop)(H:Hp)(vs:List V)(xs:List α):Prop:=vs.length=xs.length∧∀(i:Nat) x,xs[i]? = some x->∃v,vs[i]? = some v∧R H v x
def bS(R:Hp->V->α->Prop)(H:Hp)(a:Addr)(xs:List α):Prop:=∃vs,H a=some (.lst vs)∧Each R H vs xs
def qk(R:Hp->V->α->Prop):Prop:=∀H H' v x,aq H H'->R H v x->R H' v x
theorem Each.mono(m:qk R){H H':Hp}{vs:List V}{xs:List α}(e:aq H H')(h:Each R H vs xs):Each R H' vs xs:=
 ⟨h.1,fun i x hx=>let ⟨v,h1,h2⟩:=h.2 i x hx;⟨v,h1,m _ _ _ _ e h2⟩⟩
theorem bS.mono(m:qk R){H H':Hp}{a:Addr}{xs:List α}(e:aq H H')(h:bS R H a xs):bS R H' a xs:=
 let ⟨vs,h1,h2⟩:=h;⟨vs,e _ _ h1,h2.mono m e⟩
theorem Each.nil{H:Hp}:Each R H [] []:=⟨rfl,fun i x h=>by simp at h⟩
theorem Each.snoc{H:Hp}{vs:List V}{xs:List α}{v:V}{x:α}(h:Each R H vs xs)(r:R H v x):Each R H (vs++[v]) (xs++[x]):=by
 refine⟨by rw[List.length_append,List.length_append,h.1];rfl,fun i y hy=>?_⟩;have hl:=h.1;rcases Nat.lt_or_ge i xs.length with q | q
 ·rw[List.getElem?_append_left q]at hy;obtain⟨w,h1,h2⟩:=h.2 i y hy;exact⟨w,by rw[List.getElem?_append_left (by lia)];exact h1,h2⟩
 ·rw[List.getElem?_append_right q]at hy;have hi:i=xs.length:=by
   cases e:i - xs.length with
   | zero=>lia
   | succ m=>rw[e]at hy;simp at hy
  subst hi;rw[Nat.sub_self]at hy;have:x=y:=Option.some.inj hy;subst this;exact⟨v,by rw[List.getElem?_append_right (by lia),hl,Nat.sub_self];rfl,r⟩
theorem Each.app{H:Hp}{vs ws:List V}{xs ys:List α}(h:Each R H vs xs)(k:Each R H ws ys):Each R H (vs++ws) (xs++ys):=by
 have hl:=h.1;refine⟨by rw[List.length_append,List.length_append,h.1,k.1],fun i y hy=>?_⟩;rcases Nat.lt_or_ge i xs.length with q | q
 ·rw[List.getElem?_append_left q]at hy;obtain⟨w,h1,h2⟩:=h.2 i y hy;exact⟨w,by rw[List.getElem?_append_left (by lia)];exact h1,h2⟩
 ·rw[List.getElem?_append_right q]at hy;obtain⟨w,h1,h2⟩:=k.2 _ y hy;exact⟨w,by rw[List.getElem?_append_right (by lia),hl];exact h1,h2⟩
theorem Each.get{H:Hp}{vs:List V}{xs:List α}(h:Each R H vs xs){i:Nat}{v:V}(hv:vs[i]? = some v):∃x,xs[i]? = some x∧R H v x:=by
 have hl:=(List.getElem?_eq_some_iff.mp hv).1;have hx:i<xs.length:=by rw[<-h.1];exact hl
 obtain⟨w,h1,h2⟩:=h.2 i xs[i] (List.getElem?_eq_getElem hx);rw[hv]at h1;have:v=w:=Option.some.inj h1;subst this;exact⟨_,List.getElem?_eq_getElem hx,h2⟩
end
def a7(H:Hp)(v:V)(p:Vbpcan.Piece):Prop:=∃b,v=.ref b∧H b=some (.tup [iN p.net,iN p.l,iN p.r])
def bN(H:Hp)(v:V)(e:Nat×Nat):Prop:=∃b,v=.ref b∧H b=some (.tup [iN e.1,iN e.2])
def rY(H:Hp)(v:V)(l:List Nat):Prop:=∃b,v=.ref b∧H b=some (.lst (nats l))
def yo(H:Hp)(v:V)(zs:List Int):Prop:=(∃z,v=.int z∧zs=[z])∨∃b,v=.ref b∧H b=some (.tup (a_ zs))
theorem a7.mono:qk a7:=fun _ _ _ _ e ⟨b,h1,h2⟩=>⟨b,h1,e _ _ h2⟩
theorem bN.mono:qk bN:=fun _ _ _ _ e ⟨b,h1,h2⟩=>⟨b,h1,e _ _ h2⟩
theorem rY.mono:qk rY:=fun _ _ _ _ e ⟨b,h1,h2⟩=>⟨b,h1,e _ _ h2⟩
def UT(u l:Addr)(m:Int):List (Str×V):=[("upper_pins",.ref u),("lower_pins",.ref l),("mode",.int m)]
def Mi(s:Vbpcan.State):Int:=if s.cut=true then 1 else 0
structure ff(C:Addr)(H:Hp)(c u l:Addr)(s:Vbpcan.State):Prop where
 obj:∃dx,H c=some (.ins C dx (UT u l (Mi s)))
 up:H u=some (.lst (nats s.top))
 lo:H l=some (.lst (nats s.low))
 ne:u≠l
 fit:Cq s
theorem ff.mono{C:Addr}{H H':Hp}{c u l:Addr}{s:Vbpcan.State}(h:ff C H c u l s)(e:aq H H'):ff C H' c u l s:=
 ⟨let ⟨dx,h1⟩:=h.obj;⟨dx,e _ _ h1⟩,e _ _ h.up,e _ _ h.lo,h.ne,h.fit⟩
def SH(a:Addr)(p:Int):List (Str×V):=[("numbers",.ref a),("place",.int p)]
def
  QQ (K:W.Frag) (H:Hp) (a:Addr) (xs:List V):Prop:=(∃o,H a=some (.ye o (.lst xs)))∨
  ∃(o:Obj) (its:Array Value) (n:Nat),K.lookup a=some o∧o.cls=.type "list"∧o.dict=none∧o.data=.seq its n∧its.size<=sizeLine∧Vals xs its.toList
theorem QQ.sq{K:W.Frag}{H:Hp}{a:Addr}{xs:List V}(h:QQ K H a xs):aP K H a xs:=by
 rcases h with h | h
 ·exact .inl (.inr h)
 ·exact .inr h
theorem QQ.keep{K:W.Frag}{H H':Hp}{a:Addr}{xs:List V}(h:QQ K H a xs)(k:∀o,H a=some (.ye o (.lst xs))->H' a=some (.ye o (.lst xs))):QQ K H' a xs:=by
 rcases h with ⟨o,h⟩ | h
 ·exact .inl ⟨o,k o h⟩
 ·exact .inr h
structure Read(K:W.Frag)(C:Addr)(H:Hp)(r a:Addr)(ns:List Int)(p:Nat):Prop where
 obj:∃dx,H r=some (.ins C dx (SH a (p:Int)))
 nums:QQ K H a (a_ ns)
theorem Read.mono{K:W.Frag}{C:Addr}{H H':Hp}{r a:Addr}{ns:List Int}{p:Nat}(h:Read K C H r a ns p)(e:aq H H'):Read K C H' r a ns p:=
 ⟨let ⟨dx,h1⟩:=h.obj;⟨dx,e _ _ h1⟩,h.nums.keep fun _ q=>e _ _ q⟩
end Pc
end
section
namespace Pc
open PySem PySem.Spec PyProof.Rows L2
theorem Mj:typeLookup (.type "list_reverseiterator") "__len__" = pure none:=by rw[typeLookup_type,builtinLookup_eq_fast];kernel_rfl
theorem OL:typeLookup (.type "list_reverseiterator") "__length_hint__" = pure (some (.builtin "list_reverseiterator.__length_hint__")):=by rw[typeLookup_type,builtinLookup_eq_fast];kernel_rfl
section
variable{prog:Program}{w:World}{A:Around}{E:Value->Shared->Prop}{s:Shared}{I l:Addr}{items:Array Value}
theorem Ji{R:Result->Shared->Prop}(hh:A.handled=none)(hne:l≠I)(hit:s.heap.IsRevIter I l ((items.size:Int) - 1))(hl:s.heap.IsList l items)(hn:items.size<=sizeLine)(S:Addr)(hSI:S≠I)(hSl:S≠l)(res:Value)(c0:Nat)
  (hS:s.heap.get? S=some { cls:=.type "list",data:=.seq #[] c0 })
  (hR:∀h' tk acc' c',(∀b o,b≠S->b≠I->s.heap.get? b=some o->h'.get? b=some o)->h'.get? S=some { cls:=.type "list",dict:=none,data:=.seq acc' c',slots:=#[] }->ItemsOf (fun i v=>items[items.size - 1 - i]? = some v) acc' items.size->R (.ok (.ret res)) { s with heap:=h',toks:=tk }) :
  wpAny (model prog w) A.in1 (Builtin.List.listExtendWith (.ref S) (.ref I) res)
   (fun fin s'=>match fin with | .done f=>R (.ok f) s' | .again c'=>c'.quiet=true∧codeAny (model prog w) A c' R s') (fun e s'=>R (.error e) s') s:=by
 have W:=Walks.listRev (prog:=prog) (w:=w) (A:=A.in1) hh I l hne items;have hSf:S ∉ [I,l]:=by simp only[List.mem_cons,List.not_mem_nil,or_false,not_or];exact⟨hSI,hSl⟩
 have st:(0<=items.size∧s.heap.IsRevIter I l ((items.size:Int) - 1 - ((0:Nat):Int))∧s.heap.IsList l items):=⟨Nat.zero_le _,by simpa using hit,hl⟩;have h1:Builtin.List.listSameRef (.ref S) (.ref I)=false:=by simp[Builtin.List.listSameRef,hSI]
 unfold Builtin.List.listExtendWith;refine wpAny_bind (wpAny_typeOf hit.typeIs ?_);rw[if_neg (by rw[h1];decide)];refine wpAny_bind (W.self 0 _ _ _ st ?_);refine wpAny_bind (wpAny_holding ?_);unfold Builtin.List.listLengthHint;refine wpAny_bind (wpAny_specialOf hit.typeIs Mj ?_);show wpAny _ A.in1 (specialOf (Value.ref I) (Str.ofString "__length_hint__") >>= _) _ _ _;refine wpAny_bind (wpAny_specialOf hit.typeIs OL ?_)
 generalize hid:("list_reverseiterator.__length_hint__" : String)=id0
 wp_delta
 rw[show splitId id0=some ("list_reverseiterator","__length_hint__") from by subst hid;decide +kernel];subst hid;refine wpAny_bind (wpAny_isInstance (b:=true) hit.typeIs (by rw[isSubtype_type];kernel_rfl) ?_);refine wpAny_pure ?_;rw[if_neg (by decide)];refine wpAny_pure ⟨plainId_quiet F.plain_extend_loop _,codeAny_extend_loopS W.toS hn S hSf _ items.size 0 _ #[] c0 rfl (Nat.zero_le _) st hS (ItemsOf.nil _) fun s' acc' c' hm hS' hacc=>?_⟩;rw[Moved.eq_with hm];refine hR s'.heap s'.toks acc' c' (fun b o hb hbI e=>hm.heap b o (fun hmem=>?_) e) hS' hacc;rcases List.mem_cons.mp hmem with e' | hmem
 ·exact hb e'
 ·exact hbI (List.mem_singleton.mp hmem)
theorem Cy{Q:Value->Shared->Prop}(hh:A.handled=none)(hne:l≠I)(hit:s.heap.IsRevIter I l ((items.size:Int) - 1))(hl:s.heap.IsList l items)(hn:items.size<=sizeLine)
  (hQ:∀h' tk acc' c',(∀b o,b≠I->s.heap.get? b=some o->h'.get? b=some o)->h'.get? s.heap.objs.size=some { cls:=.type "list",dict:=none,data:=.seq acc' c',slots:=#[] }->ItemsOf (fun i v=>items[items.size - 1 - i]? = some v) acc' items.size →
   Q (.ref s.heap.objs.size) { s with heap:=h',toks:=tk }) :
  wpAny (model prog w) A (call (.type "list") [.ref I]) Q E s:=by
 have ltI:I<s.heap.objs.size:=by obtain⟨o,ho,_⟩:=hit;exact Heap.lt_size ho
 have ltl:l<s.heap.objs.size:=by obtain⟨o,ho,_⟩:=hl;exact Heap.lt_size ho
 refine callType_codes (Q₁:=fun obj s₁=>obj=.ref s.heap.objs.size∧s₁={ s with heap:=s.heap.push { cls:=.type "list",data:=.seq #[] } }) F.called_list (F.typeCall_list_1 _) F.entry_list_init
  (code_list_new _ ⟨rfl,rfl⟩) fun obj s₁ h₁=>?_
 obtain⟨rfl,rfl⟩:=h₁;have hS:(s.heap.push { cls:=.type "list",data:=.seq #[] }).get? s.heap.objs.size=some { cls:=.type "list",data:=.seq #[] }:=Heap.get?_push_size _ rfl;refine⟨⟨_,hS,rfl⟩,F.args_list_init_2 _ _,?_⟩;show wpAny _ _ (do let old <-Builtin.List.listItems (.ref s.heap.objs.size);Builtin.List.listUpdate (.ref s.heap.objs.size) (fun _=>#[]);letGo old.toList.reverse;Builtin.List.listExtendWith (.ref s.heap.objs.size) (.ref I) .none) _ _ _;refine wpAny_bind ?_;unfold Builtin.List.listItems;refine wpAny_bind (wpAny_seqItems hS rfl (wpAny_pure ?_));show wpAny _ _ (updateSeq s.heap.objs.size (fun _=>#[]) >>= fun _=>letGo (#[]:Array Value).toList.reverse >>= fun _=>Builtin.List.listExtendWith (.ref s.heap.objs.size) (.ref I) .none) _ _ _;refine wpAny_bind (wpAny_updateSeq hS rfl ?_);have hS₂:=Heap.get?_update_self (Obj.mapSeq (fun _=>(#[]:Array Value))) hS rfl;have oth:∀b o,b≠s.heap.objs.size->s.heap.get? b=some o->((s.heap.push { cls:=.type "list",data:=.seq #[] }).update s.heap.objs.size (Obj.mapSeq (fun _=>(#[]:Array Value)))).get? b=some o:=
  fun b o hb e=>(Heap.get?_update_other _ _ (Ne.symm hb)).trans (Heap.get?_push_of_some _ e)
 refine wpAny_bind (wpAny_letGo ?_);refine Ji (A:=A.in1) hh hne (hit.at fun o e=>oth I o (Nat.ne_of_lt ltI) e) (hl.at fun o e=>oth l o (Nat.ne_of_lt ltl) e) hn _ (Nat.ne_of_gt ltI) (Nat.ne_of_gt ltl) .none _ hS₂ fun h' tk acc' c' hk hS' hacc=>?_
 exact⟨rfl,hQ h' tk acc' c' (fun b o hb e=>hk b o (Nat.ne_of_lt (Heap.lt_size e)) hb (oth b o (Nat.ne_of_lt (Heap.lt_size e)) e)) hS' hacc⟩
end
def OM(K:W.Frag)(ta:TA):TE:=fun σ H Q=>ta σ H fun vs H1=>∃(a:Addr) (xs:List V),vs=[.ref a]∧aP K H1 a xs∧∀l,H1 l=none->Q (.ref l) (upd H1 l (.lst xs.reverse))
theorem Ml{vs:List Value}{acc:Array Value}(h:ItemsOf (fun i v=>vs.toArray[vs.toArray.size - 1 - i]? = some v) acc vs.toArray.size):acc=vs.reverse.toArray:=by
 obtain⟨h1,h2⟩:=h;apply Array.ext
 ·rw[h1];simp
 ·intro i hi hi2;have h3:=h2 i acc[i] (Array.getElem?_eq_getElem hi);have hi':i<vs.length:=by simpa using hi2
  simp only[List.size_toArray]at h3;rw[List.getElem?_toArray]at h3;simp only[List.getElem_toArray,List.getElem_reverse];rw[List.getElem?_eq_getElem (by lia)]at h3;exact(Option.some.inj h3).symm
theorem AQ{X:Cx}{e:Expr}{ta:TA}{p p2 pos pos2:Pos}(hc:X.calm=true)(hg:Gl X "list")(hm:X.mg "list" = none)(hg2:Gl X "reversed")(hm2:X.mg "reversed" = none)(ha:PA X [e] ta)
  (hs:starEach [e] X.env=[(false,eval e X.env)]:=by rfl)
  (hs2:starEach [Expr.Call (.Name "reversed" p2) [e] [] pos2] X.env=[(false,eval (Expr.Call (.Name "reversed" p2) [e] [] pos2) X.env)]:=by rfl) :
  PE X (.Call (.Name "list" p) [.Call (.Name "reversed" p2) [e] [] pos2] [] pos) (OM X.K ta):=by
 intro pins s σ H Q I h;refine wpAny_Call_Name_kw (nE I hg hm zQ ?_ (by decide) (by decide));refine PyProof.Rows.callWith_type1 ?_ hs2 rfl;rw[hs2];show wpAny _ _ (spliced ((false,eval (Expr.Call (.Name "reversed" p2) [e] [] pos2) X.env)::backTo pos [])) _ _ s;refine Calls.spliced_cons ?_;refine Call_ (nE I hg2 hm2 AH (PyProof.Rows.callWith_type1 (cx (ha pos2 pins s σ H _ I h) fun us s1 ⟨vs,H1,I1,r1,q1⟩=>?_) hs rfl));obtain⟨a,xs,ev,hq,q⟩:=q1;subst ev;rw[Vals.AD r1];obtain⟨its,rv,p',hz⟩:=I1.list hq;have hl:=rv.length;refine call_reversed_list p'.isList (Calls.spliced_nil ?_);have hIl:a<s1.heap.objs.size:=by obtain⟨o,ho,_⟩:=p'.isList;exact Heap.lt_size ho
 refine Cy (l:=a) (items:=its.toArray) (I1.ok.hd hc) (Nat.ne_of_lt hIl) ⟨_,Heap.get?_push_size _ rfl,rfl,rfl⟩ (p'.isList.at fun o e=>Heap.get?_push_of_some _ e) (by rw[List.size_toArray];lia) fun h' tk acc' c' hk hD hacc=>?_
 have e1:=Ml hacc;subst e1;have hsz:(s1.heap.push (revObj a ((its.toArray.size:Int) - 1))).objs.size=s1.heap.objs.size+1:=Heap.size_push _ _;refine⟨.ref (s1.heap.push (revObj a ((its.toArray.size:Int) - 1))).objs.size,_,I1.laid (a:=(s1.heap.push (revObj a ((its.toArray.size:Int) - 1))).objs.size) (o:=.lst xs.reverse) (t':=tk) (h':=h') (fun b o e=>hk b o (Nat.ne_of_lt (Heap.lt_size e)) (Heap.get?_push_of_some _ e)) (by rw[hsz];lia) ⟨by rw[List.length_reverse];lia,its.reverse,c',rv.reverse,hD⟩,rfl,q _ (I1.ck.fresh (by rw[hsz];lia))⟩
section
open PySem.SeqAt
open PySem.AutoSeq1 (wpAny_loadPart')
open PySem.MeetsSeq PySem.MeetsSeq2 PySem.MeetsSeq3
theorem K_{us:List Value}{ns:List Int}(h:IntsAre us ns):∀(i:Nat) (hi:i<us.length),∃(z:Int) (t:Tok),us[i]=.int z t∧ns[i]? = some z:=by
 induction h with
 | nil=>intro i hi;simp at hi
 | cons a t _ ih=>
  intro i hi;cases i with
  | zero=>exact⟨_,_,rfl,rfl⟩
  | succ i=>
   obtain⟨z,t,h1,h2⟩:=ih i (by simpa using hi);exact⟨z,t,by simpa using h1,by simpa using h2⟩
theorem GX{α:Type}{l:List α}{j:Nat}{p:α}(h:l[j]? = some p):l.drop j=p::l.drop (j+1):=by
 obtain⟨hl,e⟩:=List.getElem?_eq_some_iff.mp h;rw[<-e,<-List.drop_eq_getElem_cons hl]
theorem QR(l b:Addr)(items items2:Array Value)(n n2:Nat)(dd dd2:Option Addr)(sl sl2:Array (Option Value))(ns ms:List Int)(hi:IntsAre items.toList ns)(hj:IntsAre items2.toList ms)(hsz:items.size=items2.size)(k:Nat) :
  ∀
   i:Nat,items.size - i=k->Meets (Builtin.«list.__eq__.loop» ⟨[.ref l,.ref b,rawInt i,rawInt 0],[]⟩)
   (fun _ R s=>s.heap.get? l=some { cls:=.type "list",dict:=dd,data:=.seq items n,slots:=sl }∧s.heap.get? b=some { cls:=.type "list",dict:=dd2,data:=.seq items2 n2,slots:=sl2 }∧
    R (.ok (.ret (.bool (HT.lexLt (ns.drop i) (ms.drop i))))) s):=by
 have z1:items.size=ns.length:=by rw[<-hi.length];simp
 have z2:items2.size=ms.length:=by rw[<-hj.length];simp
 induction k with
 | zero=>
  intro i hk prog w A R s h;obtain⟨hp,g,d,tk,os⟩:=s;obtain⟨hl,hb,h⟩:=h
  wp_walk using wpAny_loadPart' hl,wpAny_loadPart' hb
  have hi1:items[((i:Nat):Int).toNat]? = none:=by simp;lia
  have hi2:items2[((i:Nat):Int).toNat]? = none:=by simp;lia
  rw[List.drop_eq_nil_of_le (by lia),List.drop_eq_nil_of_le (by lia)]at h;rw[hi1,hi2]
  wp_walk using wpAny_loadPart' hl,wpAny_loadPart' hb
  show R (.ok (.ret (.bool (decide (items.size<items2.size))))) _;rw[hsz];simpa[HT.lexLt]using h
 | succ k ih=>
  intro i hk prog w A R s h;obtain⟨hp,g,d,tk,os⟩:=s;obtain⟨hl,hb,h⟩:=h
  wp_walk using wpAny_loadPart' hl,wpAny_loadPart' hb
  have hlt:i<items.size:=by lia
  have hlt2:i<items2.size:=by lia
  have hi1:items[((i:Nat):Int).toNat]? = some items[i]:=by simp[hlt]
  have hi2:items2[((i:Nat):Int).toNat]? = some items2[i]:=by simp[hlt2]
  have hc:((i:Int)+1)=((i+1:Nat):Int):=by push_cast;rfl
  obtain⟨z,t,e1,e2⟩:=K_ hi i (by simpa using hlt);obtain⟨z',t',e3,e4⟩:=K_ hj i (by simpa using hlt2);rw[GX e2,GX e4,HT.Az]at h;have e1':items[i]=.int z t:=by simpa using e1
  have e3':items2[i]=.int z' t':=by simpa using e3
  rw[hi1,hi2,e1',e3'];obtain⟨e,he,hiff⟩:=HT.Ol A.in1 ⟨hp,g,d,tk,os⟩ z t z' t';refine wpAny_bind (he prog w _ _ ?_);cases e with
  | true=>
   rw[if_pos (hiff.mp rfl)]at h
   wp_walk
   rw[hc];exact⟨plainId_quiet plain_eq_loop _,codeAny_builtin entry_eq_loop (by
    rw[Around.under_plainId plain_eq_loop _];exact ih (i+1) (by lia) prog w A R _ ⟨hl,hb,h⟩)⟩
  | false=>
   rw[if_neg (fun q=>absurd (hiff.mpr q) Bool.false_ne_true)]at h
   wp_walk using wpAny_loadPart' hl,wpAny_loadPart' hb
   rw[hi1,hi2,e1',e3'];have hri:=HT.Om A.in1 ⟨hp,g,d,tk,os⟩ z t z' t' prog w
   wp_walk using hri
   simpa using h
theorem Fd(l b:Addr)(items items2:Array Value)(n n2:Nat)(dd dd2:Option Addr)(sl sl2:Array (Option Value))(ns ms:List Int)(hi:IntsAre items.toList ns)(hj:IntsAre items2.toList ms)(hsz:items.size=items2.size) :
  Meets (Builtin.«list.__lt__» ⟨[.ref l,.ref b],[]⟩)
   (fun _ R s=>s.heap.get? l=some { cls:=.type "list",dict:=dd,data:=.seq items n,slots:=sl }∧s.heap.get? b=some { cls:=.type "list",dict:=dd2,data:=.seq items2 n2,slots:=sl2 }∧
    R (.ok (.ret (.bool (HT.lexLt ns ms)))) s):=by
 intro prog w A R s h;obtain⟨hp,g,d,tk,os⟩:=s;obtain⟨hl,hb,h⟩:=h;have f3:=AutoSeq1.sub_list_list
 wp_walk using wpAny_loadPart' hl,wpAny_loadPart' hb
 exact⟨plainId_quiet plain_eq_loop _,codeAny_builtin entry_eq_loop (by
  rw[Around.under_plainId plain_eq_loop _];exact QR l b items items2 n n2 dd dd2 sl sl2 ns ms hi hj hsz _ 0 rfl prog w A R _ ⟨hl,hb,by simpa using h⟩)⟩
end
def UU(K:W.Frag):R2:=fun x y H Q=>∃a b ns ms,x=.ref a∧y=.ref b∧aP K H a (ns.map V.int)∧aP K H b (ms.map V.int)∧ns.length=ms.length∧Q (.bl (HT.lexLt ns ms)) H
theorem Sn{X:Cx}(hu:X.A.units+1<cLine):vW X (compareOp .Lt) (UU X.K):=by
 intro pins s σ H x y v u Q I rx ry h;obtain⟨a,b,ns,ms,rfl,rfl,ha,hb,hlen,q⟩:=h;cases rx;cases ry;obtain⟨its,r1,p1,_⟩:=I.list ha;obtain⟨its2,r2,p2,_⟩:=I.list hb;have i1:IntsAre its.toArray.toList ns:=intsAre_of r1;have i2:IntsAre its2.toArray.toList ms:=intsAre_of r2;have l1:=r1.length;have l2:=r2.length;rw[List.length_map]at l1 l2;obtain⟨⟨cls,dd,data,sl⟩,ho,hc,n,hd⟩:=id p1.isList;obtain⟨⟨cls2,dd2,data2,sl2⟩,ho2,hc2,n2,hd2⟩:=id p2.isList;simp only at hc hd hc2 hd2;subst hc hd hc2 hd2;exact richCompare_meets_room (op:=.Lt) ⟨_,ho,rfl⟩ ⟨_,ho2,rfl⟩ F.slot_list_lt F.entry_list_lt (F.args_list_lt_2 _ _) (Fd a b its.toArray its2.toArray n n2 dd dd2 sl sl2 ns ms i1 i2 (by simp only[List.size_toArray];lia))
  ⟨ho,ho2,show Value.bool (HT.lexLt ns ms)≠Value.notImplemented∧_ from⟨(fun x=>nomatch x),⟨.bl (HT.lexLt ns ms),H,I,rfl,q⟩⟩⟩ (Nat.lt_of_le_of_lt (Nat.le_succ _) hu)
end Pc
end
section
namespace Pc
open PySem PySem.Spec PyProof.Rows L2
def hole(H:Hp)(D:Addr):Hp:=fun b=>if b=D then none else H b
theorem cC{H:Hp}{D b:Addr}(h:b≠D):hole H D b=H b:=by unfold hole;rw[if_neg h]
theorem jM{H:Hp}{D b:Addr}{o:HO}(h:hole H D b=some o):H b=some o∧b≠D:=by
 unfold hole at h
 split at h
 ·cases h
 ·rename_i e;exact⟨h,e⟩
theorem rM{H:Hp}{D:Addr}:aq (hole H D) H:=fun _ _ h=>(jM h).1
theorem wD{H H':Hp}{D:Addr}(e:aq H H'):aq (hole H D) (hole H' D):=fun b o h=>by
 obtain⟨h1,h2⟩:=jM h;rw[cC h2];exact e _ _ h1
theorem GY{H:Hp}{D:Addr}{o:HO}:hole (upd H D o) D=hole H D:=by
 funext b
 unfold hole upd;by_cases h:b=D
 ·rw[if_pos h,if_pos h]
 ·rw[if_neg h,if_neg h,if_neg h]
theorem Mm{H0 H:Hp}{D:Addr}(h:H0 D=none)(e:aq H0 H):aq H0 (hole H D):=fun b o q=>by
 rw[cC (ao q h)];exact e _ _ q
theorem mM{H:Hp}{D t:Addr}{o':HO}(h:∃o,H D=some (HO.lst o))(ht:H t=none):hole (upd H t o') D t=some o':=by
 obtain⟨o,h⟩:=h;rw[cC (Ne.symm (ao h ht)),ah]
section
variable{α:Type}{R:Hp->V->α->Prop}
structure Cm(R:Hp->V->α->Prop)(H1:Hp)(D:Addr)(xs:List α)(H:Hp):Prop where
 acc:∃vs,H D=some (.lst vs)∧Each R (hole H D) vs xs
 same:aq H1 H
theorem Cm.start(m:qk R){H1:Hp}{D:Addr}(hD:H1 D=none):Cm R H1 D [] (upd H1 D (.lst [])):=⟨⟨[],ah,Each.nil⟩,aq.new hD⟩
theorem Cm.more(m:qk R){H1 H H4:Hp}{D:Addr}{xs:List α}{x:α}{y:V}(hD:H1 D=none)(L:Cm R H1 D xs H)(e:aq H H4)(r:R (hole H4 D) y x)(hl:xs.length<16000000) :
  ∃acc,H4 D=some (.lst acc)∧acc.length<sizeLine∧Cm R H1 D (xs++[x]) (upd H4 D (.lst (acc++[y]))):=by
 obtain⟨vs,h1,h2⟩:=L.acc;refine⟨vs,e _ _ h1,small (by rw[h2.1];lia),⟨vs++[y],ah,?_⟩,fun b o q=>?_⟩
 ·rw[GY];exact(h2.mono m (wD e)).snoc r
 ·rw[ak (ao q hD)];exact e _ _ (L.same _ _ q)
theorem Cm.keep(m:qk R){H1 H H4:Hp}{D:Addr}{xs:List α}(L:Cm R H1 D xs H)(e:aq H H4):Cm R H1 D xs H4:=by
 obtain⟨vs,h1,h2⟩:=L.acc;exact⟨⟨vs,e _ _ h1,h2.mono m (wD e)⟩,L.same.trans e⟩
theorem Cm.end_(m:qk R){H1 H:Hp}{D:Addr}{xs:List α}(L:Cm R H1 D xs H):bS R H D xs:=by
 obtain⟨vs,h1,h2⟩:=L.acc;exact⟨vs,h1,h2.mono m rM⟩
theorem ql{β:Type}(f:Nat->Option β)(i:Nat):(List.range (i+1)).filterMap f=(List.range i).filterMap f++(match f i with | some x=>[x] | none=>[]):=by
 rw[List.range_succ,List.filterMap_append]
 congr 1
 rw[List.filterMap_cons];cases f i <;> rfl
theorem tH{β:Type}(f:Nat->Option β)(i:Nat):((List.range i).filterMap f).length<=i:=by
 have:=List.length_filterMap_le f (List.range i);rw[List.length_range]at this;exact this
theorem kr{n:Nat}{lo:Int}{g:TG}{tt:TT}{te:TE}{vs:List Nat}{σ:L2.St}{H1:Hp}{D:Addr}{Qd:Hp->Prop}(m:qk R)(f:Nat->Option α)(hD:H1 D=none)(hn:n<=15000000)
  (hs:∀i H (Yes:VK) (No:Hp->Prop),i<n->aq H1 H->(∃o,H D=some (HO.lst o))->(∀x y H',f i=some x->aq H H'->R (hole H' D) y x->Yes y H')->(∀H',f i=none->aq H H'->No H') →
   g (.int (lo+i)) (wipe σ vs) H fun σ2 H2=>wipe σ2 vs=wipe σ vs∧tt σ2 H2 fun b H3=>if b=true then te σ2 H3 Yes else No H3)
  (hd:∀H,aq H1 H->bS R H D ((List.range n).filterMap f)->Qd H) :
  ∃
   W:Nat->Nat->Hp->Prop,(∃m,W 0 m (upd H1 D (.lst [])))∧∀i m H,W i m H →
   ((
    Il lo n).stop i H∧Qd H)∨((Il lo n).go i H∧∃Nx:Hp->Prop,(∀H',Nx H'->∃m',m'<m∧W (i+1) m' H')∧∀x H',(Il lo n).NK i H x H'->g x (wipe σ vs) H' fun σ2 H2=>wipe σ2 vs=wipe σ vs∧tt σ2 H2 fun b H3=>
    if b=true then te σ2 H3 fun y H4=>∃acc,H4 D=some (.lst acc)∧acc.length<sizeLine∧Nx (upd H4 D (.lst (acc++[y])))else Nx H3):=by
 refine GG (fun i H=>Cm R H1 D ((List.range i).filterMap f) H) (Cm.start m hD) (fun i H hi L=>?_) fun H L=>hd H L.same (L.end_ m)
 refine hs i H _ _ hi L.same (let ⟨_,z,_⟩:=L.acc;⟨_,z⟩) (fun x y H' hf e r=>?_) fun H' hf e=>?_
 ·have:=tH f i;obtain⟨acc,h1,h2,h3⟩:=L.more m hD e r (by lia);refine⟨acc,h1,h2,?_⟩;rw[ql,hf];exact h3
 ·rw[ql,hf,List.append_nil];exact L.keep m e
theorem bx{β:Type}{K:W.Frag}{a:Addr}{xs:List V}{g:TG}{tt:TT}{te:TE}{vs:List Nat}{σ:L2.St}{H1:Hp}{D:Addr}{Qd:Hp->Prop}(m:qk R){ys:List β}(hx:xs.length=ys.length)(f:β->Option α)(hD:H1 D=none)(hn:ys.length<=15000000)(ha:aP K H1 a xs)
  (hs:∀(i:Nat) v w H (Yes:VK) (No:Hp->Prop),xs[i]? = some v->ys[i]? = some w->aq H1 H->(∃o,H D=some (HO.lst o))->(∀x y H',f w=some x->aq H H'->R (hole H' D) y x->Yes y H')->(∀H',f w=none->aq H H'->No H') →
   g v (wipe σ vs) H fun σ2 H2=>wipe σ2 vs=wipe σ vs∧tt σ2 H2 fun b H3=>if b=true then te σ2 H3 Yes else No H3)
  (hd:∀H,aq H1 H->bS R H D (ys.filterMap f)->Qd H) :
  ∃
   W:Nat->Nat->Hp->Prop,(∃m,W 0 m (upd H1 D (.lst [])))∧∀i m H,W i m H →
   ((
    Oa K a).stop i H∧Qd H)∨((Oa K a).go i H∧∃Nx:Hp->Prop,(∀H',Nx H'->∃m',m'<m∧W (i+1) m' H')∧∀x H',(Oa K a).NK i H x H'->g x (wipe σ vs) H' fun σ2 H2=>wipe σ2 vs=wipe σ vs∧tt σ2 H2 fun b H3=>
    if b=true then te σ2 H3 fun y H4=>∃acc,H4 D=some (.lst acc)∧acc.length<sizeLine∧Nx (upd H4 D (.lst (acc++[y])))else Nx H3):=by
 refine QE (xs:=xs) (fun i H=>Cm R H1 D ((ys.take i).filterMap f) H) (Cm.start m hD) (fun i H _ L=>L.same.seq ha) (fun i v H hi L=>?_) fun H L=>hd H L.same (by
  have:=L.end_ m;rw[hx,List.take_length]at this;exact this)
 obtain⟨w,hw⟩:∃w,ys[i]? = some w:=⟨_,List.getElem?_eq_getElem (by rw[<-hx];exact(List.getElem?_eq_some_iff.mp hi).1)⟩;have e1:(ys.take (i+1)).filterMap f=(ys.take i).filterMap f++(match f w with | some x=>[x] | none=>[]):=by
  rw[aQ hw,List.filterMap_append,List.filterMap_cons];cases f w <;> rfl
 refine hs i v w H _ _ hi hw L.same (let ⟨_,z,_⟩:=L.acc;⟨_,z⟩) (fun x y H' hf e r=>?_) fun H' hf e=>?_
 ·have h1:=List.length_filterMap_le f (ys.take i);have h2:=List.length_take_le i ys;have h3:(ys.take i).length<=ys.length:=by rw[List.length_take];lia
  obtain⟨acc,q1,q2,q3⟩:=L.more m hD e r (by lia);refine⟨acc,q1,q2,?_⟩;rw[e1,hf];exact q3
 ·rw[e1,hf,List.append_nil];exact L.keep m e
end
def Tz(K:W.Frag):List V->Hp->VK->Prop:=fun xs H Q=>∃p ys,xs=[.ref p]∧(aP K H p ys∨jP K H p ys)∧Q (.int ys.length) H
theorem zR{X:Cx}{K:W.Frag}{e:Expr}{f:Str}{ta:TE}{pos:Pos}(he:PE X e ta)(hb:attributeBase e f X.env (eval e X.env)=eval e X.env)(hk:K=X.K):PE X (.Attribute e f pos) (Ta K ta f):=by
 subst hk;exact bC he hb
theorem Mn{X:Cx}{K:W.Frag}{a:Expr}{ta:TE}(ha:PE X a ta)(he:∀whole,isTrue a X.env whole=(do let v <-whole;standAt a.pos;holding [v] (truthy v)))(hk:K=X.K) :
  PT X a (fun σ H Q=>ta σ H fun x H'=>∃k,RY K x H' k∧Q k H'):=by
 subst hk;exact Gx ha he
theorem Fe{X:Cx}{K:W.Frag}{es:List Expr}{k:Nat}{t:Rf}{n:Nat}{pos:Pos}(hk:K=X.K)(hc:X.calm=true)(h:S0 X es t)
  (hn:(assignEach es X.env).length=n:=by rfl) (hm:(assignEach es X.env).findIdx? (·.1)=none:=by rfl):PG X (.Tuple es k pos) (S2 K n t):=by
 subst hk;exact tj hc h hn hm
def TB(t:TS):TS:=fun D σ H=>∃Φ:L2.St->Hp->Prop,t { D with nx:=Φ } σ H∧∀σ' H',Φ σ' H'->D.nx σ' H'
theorem uS{X:Cx}{st:Stmt}{t:TS}(h:PS X st t):PS X st (TB t):=by
 intro pins s σ H D I hw;obtain⟨Φ,h1,h2⟩:=hw;refine cx (h pins s σ H _ I h1) fun f s' q=>?_
 cases f with
 | next=>obtain⟨σ',H',I',q'⟩:=q;exact⟨σ',H',I',h2 _ _ q'⟩
 | cont=>exact q
 | brk=>exact q
 | ret v=>exact q
def eh(_:Hp)(v:V)(n:Nat):Prop:=v=iN n
def GZ(_:Hp)(v:V)(z:Int):Prop:=v=.int z
def pE(_:Hp)(v:V)(b:Bool):Prop:=v=.bl b
theorem eh.mono:qk eh:=fun _ _ _ _ _ h=>h
theorem GZ.mono:qk GZ:=fun _ _ _ _ _ h=>h
theorem pE.mono:qk pE:=fun _ _ _ _ _ h=>h
theorem Mo{H:Hp}{vs:List V}{l:List Nat}(h:Each eh H vs l):vs=nats l:=by
 refine List.ext_getElem? fun i=>?_
 rw[List.getElem?_map];cases e:l[i]? with
 | none=>
  have:l.length<=i:=List.getElem?_eq_none_iff.mp e;rw[List.getElem?_eq_none (by rw[h.1];exact this)];rfl
 | some x=>
  obtain⟨v,h1,h2⟩:=h.2 i x e;rw[h1,h2];rfl
theorem Mp{H:Hp}{vs:List V}{l:List Int}(h:Each GZ H vs l):vs=a_ l:=by
 refine List.ext_getElem? fun i=>?_
 rw[List.getElem?_map];cases e:l[i]? with
 | none=>
  have:l.length<=i:=List.getElem?_eq_none_iff.mp e;rw[List.getElem?_eq_none (by rw[h.1];exact this)];rfl
 | some x=>
  obtain⟨v,h1,h2⟩:=h.2 i x e;rw[h1,h2];rfl
theorem Jj{H:Hp}{vs:List V}{l:List Bool}(h:Each pE H vs l):vs=l.map V.bl:=by
 refine List.ext_getElem? fun i=>?_
 rw[List.getElem?_map];cases e:l[i]? with
 | none=>
  have:l.length<=i:=List.getElem?_eq_none_iff.mp e;rw[List.getElem?_eq_none (by rw[h.1];exact this)];rfl
 | some x=>
  obtain⟨v,h1,h2⟩:=h.2 i x e;rw[h1,h2];rfl
theorem bY{H:Hp}{a:Addr}{l:List Nat}(h:bS eh H a l):H a=some (.lst (nats l)):=by
 obtain⟨vs,h1,h2⟩:=h;rw[<-Mo h2];exact h1
theorem G0{H:Hp}{a:Addr}{l:List Int}(h:bS GZ H a l):H a=some (.lst (a_ l)):=by
 obtain⟨vs,h1,h2⟩:=h;rw[<-Mp h2];exact h1
theorem rN{H:Hp}{a:Addr}{l:List Bool}(h:bS pE H a l):H a=some (.lst (l.map V.bl)):=by
 obtain⟨vs,h1,h2⟩:=h;rw[<-Jj h2];exact h1
theorem filterMap_some{α β:Type}(f:α->β)(l:List α):l.filterMap (fun x=>some (f x))=l.map f:=by
 rw[<-List.filterMap_eq_map];rfl
theorem dG{α:Type}(p:α->Bool)(l:List α):l.filterMap (fun x=>if p x=true then some x else none)=l.filter p:=by
 induction l with
 | nil=>rfl
 | cons x l ih=>
  rw[List.filterMap_cons,List.filter_cons];by_cases h:p x=true
  ·simp only[h,if_true];rw[ih]
  ·simp only[h,if_false];exact ih
theorem nG{α β:Type}(p:α->Bool)(f:α->β)(l:List α):l.filterMap (fun x=>if p x=true then some (f x)else none)=(l.filter p).map f:=by
 induction l with
 | nil=>rfl
 | cons x l ih=>
  rw[List.filterMap_cons,List.filter_cons];by_cases h:p x=true
  ·simp only[h,if_true];rw[ih];rfl
  ·simp only[h,if_false];exact ih
end Pc
end
section
namespace Pc
open PySem PySem.Spec PyProof.Rows L2
def top(i:Nat):Stmt:=PySem.Challenge.pw_pinchannel_s01_answers.main.body.getD i (.Pass ⟨0,0,0,0⟩)
abbrev lW:Stmt:=top 18
abbrev AR:Stmt:=top 19
abbrev oW:Stmt:=top 20
abbrev rO:Stmt:=top 21
abbrev nv:Stmt:=top 24
abbrev nH:Stmt:=top 25
abbrev kL:Stmt:=top 26
abbrev kM:Stmt:=top 27
abbrev k7:Stmt:=top 28
abbrev lX:Stmt:=top 29
abbrev iE:Stmt:=top 30
abbrev nz:Stmt:=top 31
abbrev wF:Stmt:=top 32
abbrev uT:Stmt:=top 38
abbrev qm:Stmt:=top 39
abbrev qo:Stmt:=top 40
abbrev kO:Stmt:=top 41
abbrev kP:Stmt:=top 42
abbrev k8:Stmt:=top 43
abbrev wG:Stmt:=top 44
abbrev me:Stmt:=top 45
abbrev dA:Stmt:=top 46
abbrev iO:Stmt:=top 47
abbrev AS:Stmt:=top 48
abbrev rP:Stmt:=top 51
abbrev tI:Stmt:=top 52
abbrev qp:Stmt:=top 54
abbrev rQ:Stmt:=top 56
abbrev js:Stmt:=top 57
abbrev qr:Stmt:=top 58
abbrev mN:Stmt:=top 59
abbrev oX:Stmt:=top 60
abbrev kQ:Stmt:=top 62
abbrev rR:Stmt:=top 63
abbrev jW:Stmt:=top 64
abbrev jt:Stmt:=top 65
abbrev qt:Stmt:=top 66
abbrev ju:Stmt:=top 67
abbrev wH:Stmt:=top 89
abbrev AU:Stmt:=top 90
abbrev nI:Stmt:=top 91
abbrev ku:Stmt:=top 92
abbrev mO:Stmt:=top 93
abbrev lY:Stmt:=top 94
abbrev nJ:Stmt:=top 95
abbrev nL:Stmt:=top 96
abbrev mP:Stmt:=top 97
abbrev nM:Stmt:=top 98
abbrev jv:Stmt:=top 99
abbrev jz:Stmt:=top 100
abbrev jX:Stmt:=top 101
abbrev lZ:Stmt:=top 102
abbrev nN:Stmt:=top 103
abbrev iF:Stmt:=top 104
abbrev mQ:Stmt:=inClass (top 22) 0
abbrev jY:Stmt:=inClass (top 22) 1
abbrev jA:Stmt:=inClass (top 22) 2
abbrev jB:Stmt:=inClass (top 22) 3
abbrev jZ:Stmt:=inClass (top 22) 4
abbrev kx:Stmt:=inClass (top 22) 5
abbrev mR:Stmt:=inClass (top 22) 6
abbrev kz:Stmt:=inClass (top 22) 7
abbrev gI:Stmt:=inClass (top 53) 0
abbrev cZ:Stmt:=inClass (top 53) 1
abbrev cn:Stmt:=inClass (top 53) 2
abbrev gB:Stmt:=inClass (top 53) 3
abbrev gJ:Stmt:=inClass (top 53) 4
abbrev iK:Stmt:=inClass (top 53) 5
abbrev nO:Stmt:=inClass (top 88) 0
abbrev l0:Stmt:=inClass (top 88) 1
abbrev gK:Stmt:=inClass (top 88) 2
abbrev j0:Stmt:=inClass (top 88) 3
theorem wI:aE ["number"] ["number"] (aj lW):=⟨rfl,rfl,rfl,by decide +kernel,rfl,by decide +kernel,by decide +kernel⟩
theorem Mq:aE ["number"] ["number"] (aj AR):=⟨rfl,rfl,rfl,by decide +kernel,rfl,by decide +kernel,by decide +kernel⟩
theorem qv:aE ["numbers","number"] ["numbers"] (aj oW):=⟨rfl,rfl,rfl,by decide +kernel,rfl,by decide +kernel,by decide +kernel⟩
theorem tJ:aE ["pins","net","new","pin"] ["pins","net","new"] (aj rO):=⟨rfl,rfl,rfl,by decide +kernel,rfl,by decide +kernel,by decide +kernel⟩
theorem oY:aE ["pieces","net","column","k"] ["pieces","net","column"] (aj nv):=⟨rfl,rfl,rfl,by decide +kernel,rfl,by decide +kernel,by decide +kernel⟩
theorem cG:aE ["channel","pieces","found","column","upper_net","lower_net","lower_pieces","p","q"] ["channel","pieces"] (aj nH):=⟨rfl,rfl,rfl,by decide +kernel,rfl,by decide +kernel,by decide +kernel⟩
theorem gL:aE ["count","pairs","below","k","p","q"] ["count","pairs"] (aj kL):=⟨rfl,rfl,rfl,by decide +kernel,rfl,by decide +kernel,by decide +kernel⟩
theorem gM:aE ["count","pairs","above","k","p","q"] ["count","pairs"] (aj kM):=⟨rfl,rfl,rfl,by decide +kernel,rfl,by decide +kernel,by decide +kernel⟩
theorem bO:aE ["count","pairs","below","waits_for","pieces","levels","ready","k","done","p","q"] ["count","pairs"] (aj k7):=⟨rfl,rfl,rfl,by decide +kernel,rfl,by decide +kernel,by decide +kernel⟩
theorem cy:aE ["goal","above","steps","reached","done","q","p"] ["goal","above"] (aj lX):=⟨rfl,rfl,rfl,by decide +kernel,rfl,by decide +kernel,by decide +kernel⟩
theorem j1:aE ["start","below","steps","rounds","q"] ["start","below","steps"] (aj iE):=⟨rfl,rfl,rfl,by decide +kernel,rfl,by decide +kernel,by decide +kernel⟩
theorem j2:aE ["start","size","below","steps","ring","left","nearer","q"] ["start","size","below","steps"] (aj nz):=⟨rfl,rfl,rfl,by decide +kernel,rfl,by decide +kernel,by decide +kernel⟩
theorem gN:aE ["count","pairs","below","above","ring","start","steps","size"] ["count","pairs"] (aj wF):=⟨rfl,rfl,rfl,by decide +kernel,rfl,by decide +kernel,by decide +kernel⟩
theorem wJ:aE ["row","count","track"] ["row","count"] (aj uT):=⟨rfl,rfl,rfl,by decide +kernel,rfl,by decide +kernel,by decide +kernel⟩
theorem Ff:aE ["row"] ["row"] (aj qm):=⟨rfl,rfl,rfl,by decide +kernel,rfl,by decide +kernel,by decide +kernel⟩
theorem Fg:aE ["piece","other"] ["piece","other"] (aj qo):=⟨rfl,rfl,rfl,by decide +kernel,rfl,by decide +kernel,by decide +kernel⟩
theorem gO:aE ["pieces","pairs","p","q"] ["pieces"] (aj kO):=⟨rfl,rfl,rfl,by decide +kernel,rfl,by decide +kernel,by decide +kernel⟩
theorem gP:aE ["count","apart","lists","k","p","q"] ["count","apart"] (aj kP):=⟨rfl,rfl,rfl,by decide +kernel,rfl,by decide +kernel,by decide +kernel⟩
theorem fm:aE ["row","apart","above","shared","p","q"] ["row","apart","above"] (aj k8):=⟨rfl,rfl,rfl,by decide +kernel,rfl,by decide +kernel,by decide +kernel⟩
theorem Jk:aE ["piece","before"] ["piece","before"] (aj wG):=⟨rfl,rfl,rfl,by decide +kernel,rfl,by decide +kernel,by decide +kernel⟩
theorem ee:aE ["track","waiting","pieces","higher","row","last_put","k","ready","p"] ["track","waiting","pieces","higher","row"] (aj me):=⟨rfl,rfl,rfl,by decide +kernel,rfl,by decide +kernel,by decide +kernel⟩
theorem aY:aE ["pieces","above","higher","row","by_columns","k","waiting","first","last","track"] ["pieces","above"] (aj dA):=⟨rfl,rfl,rfl,by decide +kernel,rfl,by decide +kernel,by decide +kernel⟩
theorem cH:aE ["row","parted","higher","track","p","taken","q"] ["row","parted","higher"] (aj iO):=⟨rfl,rfl,rfl,by decide +kernel,rfl,by decide +kernel,by decide +kernel⟩
theorem gj:aE ["row","apart","above","parted","higher","lifted_row","may_rise","k","former","q"] ["row","apart","above"] (aj AS):=⟨rfl,rfl,rfl,by decide +kernel,rfl,by decide +kernel,by decide +kernel⟩
theorem tK:aE ["pieces","k"] ["pieces"] (aj rP):=⟨rfl,rfl,rfl,by decide +kernel,rfl,by decide +kernel,by decide +kernel⟩
theorem qw:aE ["track","rest","row","k"] ["track","rest"] (aj tI):=⟨rfl,rfl,rfl,by decide +kernel,rfl,by decide +kernel,by decide +kernel⟩
theorem iG:aE ["count","apart","above","density","filling","tracks","row"] ["count","apart","above","density"] (aj qp):=⟨rfl,rfl,rfl,by decide +kernel,rfl,by decide +kernel,by decide +kernel⟩
theorem jC:aE ["channel","found","column","net","columns"] ["channel"] (aj rQ):=⟨rfl,rfl,rfl,by decide +kernel,rfl,by decide +kernel,by decide +kernel⟩
theorem kC:aE ["net","columns","mode","k"] ["net","columns","mode"] (aj js):=⟨rfl,rfl,rfl,by decide +kernel,rfl,by decide +kernel,by decide +kernel⟩
theorem mf:aE ["channel","pieces","net","columns"] ["channel"] (aj qr):=⟨rfl,rfl,rfl,by decide +kernel,rfl,by decide +kernel,by decide +kernel⟩
theorem fz:aE ["channel","densities","net","columns","column"] ["channel"] (aj mN):=⟨rfl,rfl,rfl,by decide +kernel,rfl,by decide +kernel,by decide +kernel⟩
theorem Cz:aE ["channel"] ["channel"] (aj oX):=⟨rfl,rfl,rfl,by decide +kernel,rfl,by decide +kernel,by decide +kernel⟩
theorem mS:aE ["pieces","row","k"] ["pieces","row"] (aj kQ):=⟨rfl,rfl,rfl,by decide +kernel,rfl,by decide +kernel,by decide +kernel⟩
theorem kD:aE ["channel","column","upper_net","lower_net","nets","net"] ["channel","column"] (aj rR):=⟨rfl,rfl,rfl,by decide +kernel,rfl,by decide +kernel,by decide +kernel⟩
theorem l4:aE ["channel","pieces","row","net","column","heights","k"] ["channel","pieces","row","net","column"] (aj jW):=⟨rfl,rfl,rfl,by decide +kernel,rfl,by decide +kernel,by decide +kernel⟩
theorem eC:aE ["channel","pieces","row","wires","column","net"] ["channel","pieces","row"] (aj jt):=⟨rfl,rfl,rfl,by decide +kernel,rfl,by decide +kernel,by decide +kernel⟩
theorem Fh:aE ["wire"] ["wire"] (aj qt):=⟨rfl,rfl,rfl,by decide +kernel,rfl,by decide +kernel,by decide +kernel⟩
theorem c7:aE ["channel","pieces","count","column","net"] ["channel","pieces"] (aj ju):=⟨rfl,rfl,rfl,by decide +kernel,rfl,by decide +kernel,by decide +kernel⟩
theorem tL:aE ["told","numbers","one"] ["told"] (aj wH):=⟨rfl,rfl,rfl,by decide +kernel,rfl,by decide +kernel,by decide +kernel⟩
theorem Mr:aE ["row"] ["row"] (aj AU):=⟨rfl,rfl,rfl,by decide +kernel,rfl,by decide +kernel,by decide +kernel⟩
theorem gQ:aE ["channel","nets","numbers","net","columns"] ["channel"] (aj nI):=⟨rfl,rfl,rfl,by decide +kernel,rfl,by decide +kernel,by decide +kernel⟩
theorem uU:aE ["channel"] ["channel"] (aj ku):=⟨rfl,rfl,rfl,by decide +kernel,rfl,by decide +kernel,by decide +kernel⟩
theorem yF:aE ["channel"] ["channel"] (aj mO):=⟨rfl,rfl,rfl,by decide +kernel,rfl,by decide +kernel,by decide +kernel⟩
theorem kE:aE ["channel","pieces","levels"] ["channel"] (aj lY):=⟨rfl,rfl,rfl,by decide +kernel,rfl,by decide +kernel,by decide +kernel⟩
theorem qx:aE ["channel","pieces"] ["channel"] (aj nJ):=⟨rfl,rfl,rfl,by decide +kernel,rfl,by decide +kernel,by decide +kernel⟩
theorem mT:aE ["channel","pieces","above"] ["channel"] (aj nL):=⟨rfl,rfl,rfl,by decide +kernel,rfl,by decide +kernel,by decide +kernel⟩
theorem l5:aE ["channel","pieces","above"] ["channel"] (aj mP):=⟨rfl,rfl,rfl,by decide +kernel,rfl,by decide +kernel,by decide +kernel⟩
theorem AV:aE ["channel","pieces","row"] ["channel","pieces","row"] (aj nM):=⟨rfl,rfl,rfl,by decide +kernel,rfl,by decide +kernel,by decide +kernel⟩
theorem iH:aE ["channel","pieces","row","wires","wire"] ["channel","pieces","row"] (aj jv):=⟨rfl,rfl,rfl,by decide +kernel,rfl,by decide +kernel,by decide +kernel⟩
theorem cV:aE ["channel","call","row","pieces","apart","above","faults"] ["channel","call","row"] (aj jz):=⟨rfl,rfl,rfl,by decide +kernel,rfl,by decide +kernel,by decide +kernel⟩
theorem tM:aE ["channel","call"] ["channel","call"] (aj jX):=⟨rfl,rfl,rfl,by decide +kernel,rfl,by decide +kernel,by decide +kernel⟩
theorem bQ:aE ["channel","call","reader","upper_pins","lower_pins","column","side","net","new"] ["channel","call","reader"] (aj lZ):=⟨rfl,rfl,rfl,by decide +kernel,rfl,by decide +kernel,by decide +kernel⟩
theorem qy:aE ["channel","reader","call"] ["channel","reader"] (aj nN):=⟨rfl,rfl,rfl,by decide +kernel,rfl,by decide +kernel,by decide +kernel⟩
theorem oZ:aE ["calls","reader","channel","told"] ["calls"] (aj iF):=⟨rfl,rfl,rfl,by decide +kernel,rfl,by decide +kernel,by decide +kernel⟩
theorem yG:aE ["self"] ["self"] (aj mQ):=⟨rfl,rfl,rfl,by decide +kernel,rfl,by decide +kernel,by decide +kernel⟩
theorem tN:aE ["self","net"] ["self","net"] (aj jY):=⟨rfl,rfl,rfl,by decide +kernel,rfl,by decide +kernel,by decide +kernel⟩
theorem rZ:aE ["self","upper_pins","lower_pins"] ["self","upper_pins","lower_pins"] (aj jA):=⟨rfl,rfl,rfl,by decide +kernel,rfl,by decide +kernel,by decide +kernel⟩
theorem r6:aE ["self","mode"] ["self","mode"] (aj jB):=⟨rfl,rfl,rfl,by decide +kernel,rfl,by decide +kernel,by decide +kernel⟩
theorem tO:aE ["self","column","side","net"] ["self","column","side","net"] (aj jZ):=⟨rfl,rfl,rfl,by decide +kernel,rfl,by decide +kernel,by decide +kernel⟩
theorem uV:aE ["self"] ["self"] (aj kx):=⟨rfl,rfl,rfl,by decide +kernel,rfl,by decide +kernel,by decide +kernel⟩
theorem pF:aE ["self","former_upper"] ["self"] (aj mR):=⟨rfl,rfl,rfl,by decide +kernel,rfl,by decide +kernel,by decide +kernel⟩
theorem uW:aE ["self","net","new"] ["self","net","new"] (aj kz):=⟨rfl,rfl,rfl,by decide +kernel,rfl,by decide +kernel,by decide +kernel⟩
theorem fB:aE ["self","count","apart","above","pieces"] ["self","count","apart","above"] (aj gI):=⟨rfl,rfl,rfl,by decide +kernel,rfl,by decide +kernel,by decide +kernel⟩
theorem eD:aE ["self","put","k"] ["self","put"] (aj cZ):=⟨rfl,rfl,rfl,by decide +kernel,rfl,by decide +kernel,by decide +kernel⟩
theorem aZ:aE ["self","put","ready","tracks","k","track"] ["self","put"] (aj cn):=⟨rfl,rfl,rfl,by decide +kernel,rfl,by decide +kernel,by decide +kernel⟩
theorem jD:aE ["self","track","ready","k"] ["self","track","ready"] (aj gB):=⟨rfl,rfl,rfl,by decide +kernel,rfl,by decide +kernel,by decide +kernel⟩
theorem pP:aE ["self","put","left"] ["self","put","left"] (aj gJ):=⟨rfl,rfl,rfl,by decide +kernel,rfl,by decide +kernel,by decide +kernel⟩
theorem bR:aE ["self","put","left","found","track","rest","row"] ["self","put","left"] (aj iK):=⟨rfl,rfl,rfl,by decide +kernel,rfl,by decide +kernel,by decide +kernel⟩
theorem AW:aE ["self","numbers"] ["self","numbers"] (aj nO):=⟨rfl,rfl,rfl,by decide +kernel,rfl,by decide +kernel,by decide +kernel⟩
theorem wK:aE ["self"] ["self"] (aj l0):=⟨rfl,rfl,rfl,by decide +kernel,rfl,by decide +kernel,by decide +kernel⟩
theorem ki:aE ["self","number"] ["self"] (aj gK):=⟨rfl,rfl,rfl,by decide +kernel,rfl,by decide +kernel,by decide +kernel⟩
theorem jE:aE ["self","size","row"] ["self"] (aj j0):=⟨rfl,rfl,rfl,by decide +kernel,rfl,by decide +kernel,by decide +kernel⟩
set_option genInjectivity false in set_option genSizeOf false in structure iL where
 fC:Addr
 fD:FuncData
 qz:Addr
 qB:FuncData
 mU:Addr
 mV:FuncData
 n_:Addr
 oa:FuncData
 k9:Addr
 k_:FuncData
 iP:Addr
 iQ:FuncData
 iR:Addr
 iS:FuncData
 iT:Addr
 iU:FuncData
 lh:Addr
 lj:FuncData
 fE:Addr
 fF:FuncData
 eE:Addr
 eF:FuncData
 lq:Addr
 lB:FuncData
 oe:Addr
 og:FuncData
 qC:Addr
 qD:FuncData
 lC:Addr
 lD:FuncData
 lE:Addr
 lF:FuncData
 iV:Addr
 iW:FuncData
 iX:Addr
 iY:FuncData
 lH:Addr
 lI:FuncData
 oh:Addr
 oi:FuncData
 j3:Addr
 j4:FuncData
 fH:Addr
 fI:FuncData
 iZ:Addr
 i0:FuncData
 qE:Addr
 qF:FuncData
 oj:Addr
 om:FuncData
 mW:Addr
 mX:FuncData
 lJ:Addr
 lK:FuncData
 oo:Addr
 oq:FuncData
 fJ:Addr
 fK:FuncData
 lL:Addr
 lM:FuncData
 gR:Addr
 gS:FuncData
 j5:Addr
 j6:FuncData
 i4:Addr
 i5:FuncData
 ot:Addr
 ou:FuncData
 gT:Addr
 gU:FuncData
 fL:Addr
 fM:FuncData
 lN:Addr
 lO:FuncData
 fN:Addr
 fO:FuncData
 ow:Addr
 ox:FuncData
 qH:Addr
 qI:FuncData
 i6:Addr
 i7:FuncData
 eG:Addr
 eI:FuncData
 gV:Addr
 gW:FuncData
 fP:Addr
 fQ:FuncData
 i8:Addr
 i9:FuncData
 i_:Addr
 ja:FuncData
 gX:Addr
 gY:FuncData
 jb:Addr
 jc:FuncData
 fR:Addr
 fS:FuncData
 da:Addr
 de:FuncData
 dH:Addr
 dI:FuncData
 fT:Addr
 fU:FuncData
 jd:Addr
 je:FuncData
 oy:Addr
 mq:FuncData
 gZ:Addr
 g_:FuncData
 dJ:Addr
 dM:FuncData
 df:Addr
 dh:FuncData
 di:Addr
 dj:FuncData
 dN:Addr
 dO:FuncData
 eJ:Addr
 eK:FuncData
 hJ:Addr
 hU:FuncData
 eM:Addr
 eO:FuncData
 hX:Addr
 hZ:FuncData
 bZ:Addr
 b7:FuncData
 cp:Addr
 cq:FuncData
 dP:Addr
 dQ:FuncData
 bz:Addr
 bA:FuncData
 cb:Addr
 cf:FuncData
 jf:Addr
 jg:FuncData
 fV:Addr
 fW:FuncData
 cI:Addr
 cJ:FuncData
 dR:Addr
 dS:FuncData
 aw:Addr
 aU:Addr
 Qe:Addr
 bf:Addr
structure Txt(K:W.Frag)(mg:Str->Option Value)(A:iL):Prop where
 dB:fk K "is_net_number" "is_net_number" lW A.fC A.fD
 pG:Binds K A.fD ["number"] []
 pH:mg "is_net_number" = some (.ref A.fC)
 oz:fk K "is_pin" "is_pin" AR A.qz A.qB
 G1:Binds K A.qB ["number"] []
 G2:mg "is_pin" = some (.ref A.qz)
 kF:fk K "are_pins" "are_pins" oW A.mU A.mV
 AX:Binds K A.mV ["numbers"] []
 AY:mg "are_pins" = some (.ref A.mU)
 mv:fk K "renamed" "renamed" rO A.n_ A.oa
 Eh:Binds K A.oa ["pins","net","new"] []
 Ei:mg "renamed" = some (.ref A.n_)
 fg:fk K "pieces_at" "pieces_at" nv A.k9 A.k_
 nA:Binds K A.k_ ["pieces","net","column"] []
 nB:mg "pieces_at" = some (.ref A.k9)
 bU:fk K "pairs_above" "pairs_above" nH A.iP A.iQ
 gk:Binds K A.iQ ["channel","pieces"] []
 gm:mg "pairs_above" = some (.ref A.iP)
 gn:fk K "lists_below" "lists_below" kL A.iR A.iS
 sH:Binds K A.iS ["count","pairs"] []
 sI:mg "lists_below" = some (.ref A.iR)
 cD:fk K "lists_above" "lists_above" kM A.iT A.iU
 jh:Binds K A.iU ["count","pairs"] []
 ji:mg "lists_above" = some (.ref A.iT)
 h7:fk K "levels_of" "levels_of" k7 A.lh A.lj
 qJ:Binds K A.lj ["count","pairs"] []
 qK:mg "levels_of" = some (.ref A.lh)
 fX:fk K "steps_down_to" "steps_down_to" lX A.fE A.fF
 yH:Binds K A.fF ["goal","above"] []
 yI:mg "steps_down_to" = some (.ref A.fE)
 eP:fk K "shortest_round" "shortest_round" iE A.eE A.eF
 wL:Binds K A.eF ["start","below","steps"] []
 wM:mg "shortest_round" = some (.ref A.eE)
 lP:fk K "ring_from" "ring_from" nz A.lq A.lB
 G3:Binds K A.lB ["start","size","below","steps"] []
 G4:mg "ring_from" = some (.ref A.lq)
 oA:fk K "ring_of" "ring_of" wF A.oe A.og
 Ms:Binds K A.og ["count","pairs"] []
 Mt:mg "ring_of" = some (.ref A.oe)
 qL:fk K "is_row" "is_row" uT A.qC A.qD
 ON:Binds K A.qD ["row","count"] []
 OO:mg "is_row" = some (.ref A.qC)
 jN:fk K "tracks_of" "tracks_of" qm A.lC A.lD
 yp:Binds K A.lD ["row"] []
 yq:mg "tracks_of" = some (.ref A.lC)
 lQ:fk K "must_part" "must_part" qo A.lE A.lF
 G5:Binds K A.lF ["piece","other"] []
 G6:mg "must_part" = some (.ref A.lE)
 gp:fk K "pairs_apart" "pairs_apart" kO A.iV A.iW
 sJ:Binds K A.iW ["pieces"] []
 sL:mg "pairs_apart" = some (.ref A.iV)
 gq:fk K "lists_apart" "lists_apart" kP A.iX A.iY
 sM:Binds K A.iY ["count","apart"] []
 sN:mg "lists_apart" = some (.ref A.iX)
 lR:fk K "faults_of" "faults_of" k8 A.lH A.lI
 G7:Binds K A.lI ["row","apart","above"] []
 G8:mg "faults_of" = some (.ref A.lH)
 oB:fk K "follows" "follows" wG A.oh A.oi
 Mu:Binds K A.oi ["piece","before"] []
 Mv:mg "follows" = some (.ref A.oh)
 j7:fk K "fill_track" "fill_track" me A.j3 A.j4
 Fi:Binds K A.j4 ["track","waiting","pieces","higher","row"] []
 Fj:mg "fill_track" = some (.ref A.j3)
 fY:fk K "left_edge_row" "left_edge_row" dA A.fH A.fI
 yJ:Binds K A.fI ["pieces","above"] []
 yK:mg "left_edge_row" = some (.ref A.fH)
 jj:fk K "least_track" "least_track" iO A.iZ A.i0
 CA:Binds K A.i0 ["row","parted","higher"] []
 CB:mg "least_track" = some (.ref A.iZ)
 qM:fk K "lifted" "lifted" AS A.qE A.qF
 OP:Binds K A.qF ["row","apart","above"] []
 OQ:mg "lifted" = some (.ref A.qE)
 mw:fk K "mask_of" "mask_of" rP A.oj A.om
 Ej:Binds K A.om ["pieces"] []
 Ek:mg "mask_of" = some (.ref A.oj)
 mY:fk K "row_with" "row_with" tI A.mW A.mX
 Jl:Binds K A.mX ["track","rest"] []
 Jm:mg "row_with" = some (.ref A.mW)
 lS:fk K "least_row" "least_row" qp A.lJ A.lK
 G9:Binds K A.lK ["count","apart","above","density"] []
 G_:mg "least_row" = some (.ref A.lJ)
 kG:fk K "nets_of" "nets_of" rQ A.oo A.oq
 wN:Binds K A.oq ["channel"] []
 wO:mg "nets_of" = some (.ref A.oo)
 fZ:fk K "pieces_of_net" "pieces_of_net" js A.fJ A.fK
 yL:Binds K A.fK ["net","columns","mode"] []
 yM:mg "pieces_of_net" = some (.ref A.fJ)
 cK:fk K "pieces_of" "pieces_of" qr A.lL A.lM
 h9:Binds K A.lM ["channel"] []
 h_:mg "pieces_of" = some (.ref A.lL)
 eQ:fk K "densities_of" "densities_of" mN A.gR A.gS
 qN:Binds K A.gS ["channel"] []
 qO:mg "densities_of" = some (.ref A.gR)
 iI:fk K "density_of" "density_of" oX A.j5 A.j6
 uX:Binds K A.j6 ["channel"] []
 uY:mg "density_of" = some (.ref A.j5)
 gr:fk K "wires_along" "wires_along" kQ A.i4 A.i5
 sO:Binds K A.i5 ["pieces","row"] []
 sP:mg "wires_along" = some (.ref A.i4)
 mx:fk K "nets_at" "nets_at" rR A.ot A.ou
 El:Binds K A.ou ["channel","column"] []
 Em:mg "nets_at" = some (.ref A.ot)
 ia:fk K "upright_wire" "upright_wire" jW A.gT A.gU
 AZ:Binds K A.gU ["channel","pieces","row","net","column"] []
 A0:mg "upright_wire" = some (.ref A.gT)
 dC:fk K "upright_wires" "upright_wires" jt A.fL A.fM
 pI:Binds K A.fM ["channel","pieces","row"] []
 pJ:mg "upright_wires" = some (.ref A.fL)
 lT:fk K "length_of" "length_of" qt A.lN A.lO
 Ha:Binds K A.lO ["wire"] []
 Hb:mg "length_of" = some (.ref A.lN)
 f_:fk K "count_touched" "count_touched" ju A.fN A.fO
 yN:Binds K A.fO ["channel","pieces"] []
 yO:mg "count_touched" = some (.ref A.fN)
 cz:fk K "as_list" "as_list" wH A.ow A.ox
 eR:Binds K A.ox ["told"] []
 eS:mg "as_list" = some (.ref A.ow)
 mZ:fk K "as_row" "as_row" AU A.qH A.qI
 A2:Binds K A.qI ["row"] []
 A3:mg "as_row" = some (.ref A.qH)
 jk:fk K "answer_nets" "answer_nets" nI A.i6 A.i7
 CC:Binds K A.i7 ["channel"] []
 CD:mg "answer_nets" = some (.ref A.i6)
 eT:fk K "answer_density" "answer_density" ku A.eG A.eI
 wQ:Binds K A.eI ["channel"] []
 wR:mg "answer_density" = some (.ref A.eG)
 ib:fk K "answer_above" "answer_above" mO A.gV A.gW
 A4:Binds K A.gW ["channel"] []
 A5:mg "answer_above" = some (.ref A.gV)
 gc:fk K "answer_levels" "answer_levels" lY A.fP A.fQ
 yP:Binds K A.fQ ["channel"] []
 yQ:mg "answer_levels" = some (.ref A.fP)
 jl:fk K "answer_ring" "answer_ring" nJ A.i8 A.i9
 CF:Binds K A.i9 ["channel"] []
 CG:mg "answer_ring" = some (.ref A.i8)
 jm:fk K "answer_left" "answer_left" nL A.i_ A.ja
 CH:Binds K A.ja ["channel"] []
 CI:mg "answer_left" = some (.ref A.i_)
 ie:fk K "answer_least" "answer_least" mP A.gX A.gY
 A6:Binds K A.gY ["channel"] []
 A7:mg "answer_least" = some (.ref A.gX)
 jn:fk K "answer_draw" "answer_draw" nM A.jb A.jc
 CJ:Binds K A.jc ["channel","pieces","row"] []
 CK:mg "answer_draw" = some (.ref A.jb)
 gd:fk K "answer_length" "answer_length" jv A.fR A.fS
 yR:Binds K A.fS ["channel","pieces","row"] []
 yS:mg "answer_length" = some (.ref A.fR)
 dk:fk K "answer_about_row" "answer_about_row" jz A.da A.de
 tP:Binds K A.de ["channel","call","row"] []
 tQ:mg "answer_about_row" = some (.ref A.da)
 dU:fk K "answer_question" "answer_question" jX A.dH A.dI
 uZ:Binds K A.dI ["channel","call"] []
 u0:mg "answer_question" = some (.ref A.dH)
 gf:fk K "answer_change" "answer_change" lZ A.fT A.fU
 yT:Binds K A.fU ["channel","call","reader"] []
 yU:mg "answer_change" = some (.ref A.fT)
 jo:fk K "answer_call" "answer_call" nN A.jd A.je
 CL:Binds K A.je ["channel","reader"] []
 CM:mg "answer_call" = some (.ref A.jd)
 oC:fk K "answers" "answers" iF A.oy A.mq
 SI:Binds K A.mq ["calls"] []
 Mw:mg "answers" = some (.ref A.oy)
 j8:fk K "__init__" "Channel.__init__" mQ A.gZ A.g_
 A8:Binds K A.g_ ["self"] []
 dW:fk K "has_net" "Channel.has_net" jY A.dJ A.dM
 nD:Binds K A.dM ["self","net"] []
 m4:Meth K A.aw "has_net" A.dJ
 dm:fk K "put_rows" "Channel.put_rows" jA A.df A.dh
 tR:Binds K A.dh ["self","upper_pins","lower_pins"] []
 r8:Meth K A.aw "put_rows" A.df
 dn:fk K "put_mode" "Channel.put_mode" jB A.di A.dj
 tS:Binds K A.dj ["self","mode"] []
 r9:Meth K A.aw "put_mode" A.di
 dX:fk K "put_pin" "Channel.put_pin" jZ A.dN A.dO
 u1:Binds K A.dO ["self","column","side","net"] []
 tT:Meth K A.aw "put_pin" A.dN
 eU:fk K "mirror" "Channel.mirror" kx A.eJ A.eK
 wU:Binds K A.eK ["self"] []
 u4:Meth K A.aw "mirror" A.eJ
 ij:fk K "turn" "Channel.turn" mR A.hJ A.hU
 A9:Binds K A.hU ["self"] []
 yV:Meth K A.aw "turn" A.hJ
 eV:fk K "rename" "Channel.rename" kz A.eM A.eO
 wV:Binds K A.eO ["self","net","new"] []
 u5:Meth K A.aw "rename" A.eM
 j9:fk K "__init__" "Filling.__init__" gI A.hX A.hZ
 A_:Binds K A.hZ ["self","count","apart","above"] []
 b8:fk K "ready_pieces" "Filling.ready_pieces" cZ A.bZ A.b7
 o4:Binds K A.b7 ["self","put"] []
 oE:Meth K A.aU "ready_pieces" A.bZ
 cv:fk K "full_tracks" "Filling.full_tracks" cn A.cp A.cq
 pQ:Binds K A.cq ["self","put"] []
 o5:Meth K A.aU "full_tracks" A.cp
 dY:fk K "is_full" "Filling.is_full" gB A.dP A.dQ
 u6:Binds K A.dQ ["self","track","ready"] []
 tU:Meth K A.aU "is_full" A.dP
 cM:fk K "least_rest" "Filling.least_rest" gJ A.bz A.bA
 ik:Binds K A.bA ["self","put","left"] []
 gw:Meth K A.aU "least_rest" A.bz
 cW:fk K "find_rest" "Filling.find_rest" iK A.cb A.cf
 r_:Binds K A.cf ["self","put","left"] []
 qP:Meth K A.aU "find_rest" A.cb
 kR:fk K "__init__" "Reader.__init__" nO A.jf A.jg
 CN:Binds K A.jg ["self","numbers"] []
 gg:fk K "at_end" "Reader.at_end" l0 A.fV A.fW
 yW:Binds K A.fW ["self"] []
 wW:Meth K A.bf "at_end" A.fV
 cN:fk K "take_number" "Reader.take_number" gK A.cI A.cJ
 bB:Binds K A.cJ ["self"] []
 bj:Meth K A.bf "take_number" A.cI
 dZ:fk K "take_row" "Reader.take_row" j0 A.dR A.dS
 j_:Binds K A.dS ["self"] []
 jF:Meth K A.bf "take_row" A.dR
 aF:KW K A.aw
 Jn:mg "Channel" = some (.ref A.aw)
 Mx:Mk K A.aw A.gZ
 az:gH K A.aw "upper_pins"
 aN:gH K A.aw "lower_pins"
 eW:gH K A.aw "mode"
 a9:KW K A.aU
 Jo:mg "Filling" = some (.ref A.aU)
 My:Mk K A.aU A.hX
 cw:gH K A.aU "piece_count"
 dw:gH K A.aU "every_piece"
 eX:gH K A.aU "parted"
 eY:gH K A.aU "higher"
 bK:gH K A.aU "known_rests"
 bw:KW K A.bf
 Mz:mg "Reader" = some (.ref A.bf)
 OR:Mk K A.bf A.jf
 c8:gH K A.bf "numbers"
 b9:gH K A.bf "place"
 wX:∃t,mg "NO_SUCH_COLUMN" = some (.int (-1) t)
 CO:∃t,mg "NO_SUCH_NET" = some (.int (-1) t)
 iz:∃t,mg "OUT_OF_RANGE" = some (.int (-2) t)
 yr:∃t,mg "WRONG_ROW" = some (.int (-3) t)
 Ba:∃t,mg "NET_IS_THERE" = some (.int (-7) t)
 tV:∃t,mg "HAS_RING" = some (.int (-8) t)
 u7:∃t,mg "TOO_MANY_PIECES" = some (.int (-9) t)
 Hc:∃t,mg "NOT_RIGHT" = some (.int (-10) t)
 wY:∃t,mg "DONE" = some (.int 0 t)
 Bb:∃t,mg "MOST_COLUMNS" = some (.int 48 t)
 u9:∃t,mg "NO_PIN" = some (.int 0 t)
 Hd:∃t,mg "LEAST_NET" = some (.int 1 t)
 Bc:∃t,mg "GREATEST_NET" = some (.int 999 t)
 u_:∃t,mg "UPPER_SIDE" = some (.int 0 t)
 Fl:∃t,mg "LOWER_SIDE" = some (.int 1 t)
 vc:∃t,mg "WHOLE_NETS" = some (.int 0 t)
 Bd:∃t,mg "CUT_NETS" = some (.int 1 t)
 sQ:∃t,mg "LEAST_TRACK" = some (.int 1 t)
 wZ:∃t,mg "GREATEST_TRACK" = some (.int 200 t)
 He:∃t,mg "ONE_TRACK" = some (.int 1 t)
 Hf:∃t,mg "NOT_ABOVE" = some (.int 2 t)
 CP:∃t,mg "MOST_PIECES" = some (.int 8 t)
 OS:∃t,mg "ROWS" = some (.int 0 t)
 OT:∃t,mg "MODE" = some (.int 1 t)
 Rn:∃t,mg "PIN" = some (.int 2 t)
 So:∃t,mg "NETS" = some (.int 3 t)
 OU:∃t,mg "PIECES" = some (.int 4 t)
 MA:∃t,mg "DENSITY" = some (.int 5 t)
 QS:∃t,mg "ABOVE" = some (.int 6 t)
 OV:∃t,mg "LEVELS" = some (.int 7 t)
 Sq:∃t,mg "RING" = some (.int 8 t)
 Sr:∃t,mg "LEFT" = some (.int 9 t)
 QT:∃t,mg "LEAST" = some (.int 10 t)
 La:∃t,mg "CHECK" = some (.int 11 t)
 OW:∃t,mg "LIFT" = some (.int 12 t)
 OX:∃t,mg "DRAW" = some (.int 13 t)
 OY:∃t,mg "LENGTH" = some (.int 14 t)
 Hg:∃t,mg "MIRROR" = some (.int 15 t)
 OZ:∃t,mg "TURN" = some (.int 16 t)
 O0:∃t,mg "RENAME" = some (.int 17 t)
 Lb:mg "all" = none
 Fm:mg "isinstance" = none
 bP:mg "len" = none
 Be:mg "list" = none
 Hh:mg "max" = none
 Ro:mg "min" = none
 c4:mg "range" = none
 Bf:mg "reversed" = none
 vd:mg "sorted" = none
 O1:mg "sum" = none
 QU:mg "tuple" = none
end Pc
end
section
namespace Pc
open PySem PySem.Spec PyProof.Rows L2
def Fn(H:Hp)(Q:VK)(v:V):Prop:=∀H',aq H H'->Q v H'
def Bg(H:Hp)(Q:VK)(l:List Nat):Prop:=∀H' p,aq H H'->H p=none->H' p=some (.lst (nats l))->Q (.ref p) H'
def Jp(H:Hp)(Q:VK)(l:List Int):Prop:=∀H' p,aq H H'->H p=none->H' p=some (.lst (a_ l))->Q (.ref p) H'
def Bh{α:Type}(R:Hp->V->α->Prop)(H:Hp)(Q:VK)(l:List α):Prop:=∀H' p,aq H H'->H p=none->bS R H' p l->Q (.ref p) H'
theorem el{a b:Int}:decide (V.int a=V.int b)=decide (a=b):=by
 by_cases h:a=b
 ·subst h;simp
 ·rw[decide_eq_false h,decide_eq_false (fun z=>h (V.int.inj z))]
theorem bF{A B:Prop}{b:Bool}(h1:b=true->A)(h2:b=false->B):if b=true then A else B:=by
 cases b with
 | true=>exact rX (h1 rfl)
 | false=>exact uQ (h2 rfl)
theorem Hi{A:Prop}{b1 b2:Bool}{Q:Bool->Prop}(f:Q b2->A)(h:Q (b1 && b2)):if b1=true then A else Q false:=by
 cases b1 with
 | true=>exact rX (f h)
 | false=>exact uQ h
theorem UW{A:Prop}{b1 b2:Bool}{Q:Bool->Prop}(f:Q b2->A)(h:Q (b1 || b2)):if b1=true then Q true else A:=by
 cases b1 with
 | true=>exact rX h
 | false=>exact uQ (f h)
theorem nP{te:TE}{σ:L2.St}{H:Hp}{Yes:VK}{No:Hp->Prop}(h:te σ H Yes):R9 σ H fun b H3=>if b=true then te σ H3 Yes else No H3:=by
 show if true=true then te σ H Yes else No H
 rw[if_pos rfl];exact h
section
variable{P:Program}{w:World}{K:W.Frag}{mg:Str->Option Value}{base:Heap}{A:iL}
def tW(z:Int):Bool:=decide (1<=z) && decide (z<=999)
def kH(z:Int):Bool:=decide (z=0) || tW z
theorem Bi{z:Int}:kH z=true↔0<=z∧z<=999:=by
 unfold kH tW;simp;lia
def w6:Sp:=fun vs H Q _=>∃z:Int,vs=[.int z]∧Q (.bl (tW z)) H
theorem oF(T:Txt K mg A):a6 P w K mg base fe 1 A.fC A.fD ["number"] w6:=by
 refine T.dB.ok wI (fun vs H Q E h=>?_) (fun cdv A1 outer s H vs Q E hr h=>?_)
 ·obtain⟨z,rfl,_⟩:=h;rfl
 ·obtain⟨z,rfl,q⟩:=h;refine⟨_,(ai (ay (Au yh yh (aL (v:=.int 1) rfl T.Hd.choose_spec ⟨_,rfl⟩) (pv 0) (aL (v:=.int 999) rfl T.Bc.choose_spec ⟨_,rfl⟩)))),?_⟩;refine⟨_,rfl,_,_,rfl,rfl,_,rfl,bF (fun h=>?_) fun h=>?_⟩
  ·refine⟨_,_,rfl,rfl,?_⟩;have e:tW z=decide (z<=999):=by unfold tW;rw[h];rfl
   rw[e]at q;exact q
  ·have e:tW z=false:=by unfold tW;rw[h];rfl
   rw[e]at q;exact q
def MB:Sp:=fun vs H Q _=>∃z:Int,vs=[.int z]∧Q (.bl (kH z)) H
theorem En(T:Txt K mg A):a6 P w K mg base fe 2 A.qz A.qB ["number"] MB:=by
 refine T.oz.ok Mq (fun vs H Q E h=>?_) (fun cdv A1 outer s H vs Q E hr h=>?_)
 ·obtain⟨z,rfl,_⟩:=h;rfl
 ·obtain⟨z,rfl,q⟩:=h;refine⟨_,(ai (ay (KN (gz bW (pv 0) (aL (v:=.int 0) rfl T.u9.choose_spec ⟨_,rfl⟩) (aM _)) (p8 (au (oF T) (hr.mono (by decide)) rfl T.pH T.dB.kp T.pG .nil aA (aa (pv 0) af)))))),?_⟩;refine⟨_,rfl,rfl,_,rfl,bF (fun h=>?_) fun h=>?_⟩
  ·rw[el]at h;have e:kH z=true:=by unfold kH;rw[h];rfl
   rw[e]at q;exact q
  ·rw[el]at h;have e:kH z=tW z:=by unfold kH;rw[h];rfl
   rw[e]at q;exact⟨_,rfl,z,rfl,q⟩
def Hj(K:W.Frag):Sp:=fun vs H Q _=>∃(a:Addr) (zs:List Int),vs=[.ref a]∧aP K H a (a_ zs)∧zs.length<=31000∧Fn H Q (.bl (zs.all kH))
theorem yt(T:Txt K mg A):a6 P w K mg base fe 3 A.mU A.mV ["numbers"] (Hj K):=by
 refine T.kF.ok qv (fun vs H Q E h=>?_) (fun cdv A1 outer s H vs Q E hr h=>?_)
 ·obtain⟨a,zs,rfl,_⟩:=h;rfl
 ·obtain⟨a,zs,rfl,hS,hl,q⟩:=h;refine⟨_,(ai (ay (aK (E5 rfl) (by rfl) T.Lb Fb (aa (fq rfl qv.nd (aX (pv 0)) (own:=[("number",1)]) (aW (show gu ["numbers","number"] (aj oW) _ _=true from by decide +kernel)) (fun _ _ _ _ _=>(aG (i:=1) qv.nd rfl (Or.inl rfl) (.inr rfl))) (fun _ _ _ _ _=>bX) (fun _ _ _ _ _=>(au (En T) (hr.mono (by decide)) rfl T.G2 T.oz.kp T.G1 .nil aA (aa (pv 1) af)))) af)))),?_⟩;refine⟨_,rfl,a,rfl,⟨_,hS⟩,fun D hD=>bx (R:=pE) pE.mono (ys:=zs) (by simp) (fun z=>some (kH z)) hD (by lia) hS (fun i v z H1 Yes No hv hz sm hDd yes no=>?_) fun H1 sm L=>?_⟩
  ·obtain⟨x,hx,rfl⟩:=K9 hv;rw[hz]at hx;cases hx;exact⟨rfl,nP ⟨_,rfl,z,rfl,yes _ _ _ rfl (aq.refl _) rfl⟩⟩
  ·rw[filterMap_some]at L;refine⟨D,_,rfl,aP.of (rN L),?_⟩;have e:(zs.map kH).all id=zs.all kH:=by rw[List.all_map];rfl
   rw[e];exact q _ sm
def Jq:Sp:=fun vs H Q _=>∃(a:Addr) (l:List Nat) (n m:Int),vs=[.ref a,.int n,.int m]∧H a=some (.lst (nats l))∧l.length<=48∧Jp H Q (l.map fun(x:Nat)=>if (x:Int)=n then m else(x:Int))
theorem Bj(T:Txt K mg A):a6 P w K mg base fe 1 A.n_ A.oa ["pins","net","new"] Jq:=by
 refine T.mv.ok tJ (fun vs H Q E h=>?_) (fun cdv A1 outer s H vs Q E hr h=>?_)
 ·obtain⟨a,l,n,m,rfl,_⟩:=h;rfl
 ·obtain⟨a,l,n,m,rfl,hS,hl,q⟩:=h;refine⟨_,(ai (ay (fq rfl tJ.nd (aX (pv 0)) (own:=[("pin",3)]) (aW (show gu ["pins","net","new","pin"] (aj rO) _ _=true from by decide +kernel)) (fun _ _ _ _ _=>(aG (i:=3) tJ.nd rfl (Or.inl rfl) (.inr rfl))) (fun _ _ _ _ _=>bX) (fun _ _ _ _ _=>(Gu (aH bW (pv 3) (pv 1) (aM _)) (pv 2) (pv 3)))))),?_⟩;refine⟨_,rfl,a,rfl,⟨_,aP.of hS⟩,fun D hD=>bx (R:=GZ) GZ.mono (ys:=l) (by simp) (fun x=>some (if (x:Int)=n then m else(x:Int))) hD (by lia) (aP.of hS) (fun i v x H1 Yes No hv hx sm hDd yes no=>?_) fun H1 sm L=>?_⟩
  ·obtain⟨y,hy,rfl⟩:=bJ hv;rw[hx]at hy;cases hy;refine⟨rfl,nP ⟨_,rfl,_,rfl,rfl,_,rfl,bF (fun h=>?_) fun h=>?_⟩⟩
   ·rw[el,decide_eq_true_eq]at h;exact⟨_,rfl,yes _ _ _ rfl (aq.refl _) (by rw[if_pos h];rfl)⟩
   ·rw[el,decide_eq_false_iff_not]at h;exact⟨_,rfl,yes _ _ _ rfl (aq.refl _) (by rw[if_neg h];rfl)⟩
  ·rw[filterMap_some]at L;exact q _ _ sm hD (G0 L)
end
end Pc
end
section
namespace Pc
open PySem PySem.Spec PyProof.Rows L2
open Vbpcan (State)
theorem qQ{xs:List Int}(h:∀x,x∈xs->0<=x):a_ xs=nats (xs.map Int.toNat):=by
 unfold a_ nats;rw[List.map_map];refine List.map_congr_left fun x hx=>?_
 show V.int x=V.int ((x.toNat:Nat):Int);rw[Int.toNat_of_nonneg (h x hx)]
theorem Hk{xs:List Int}:xs.all kH=true↔∀x,x∈xs->0<=x∧x<=999:=by
 rw[List.all_eq_true];exact forall_congr' fun x=>imp_congr_right fun _=>Bi
theorem w8(l:List Nat):(nats l).all uM=true:=by
 rw[List.all_eq_true];intro v hv;obtain⟨x,_,rfl⟩:=List.mem_map.mp hv;rfl
theorem Fo(z:Int)(l:List Nat):Ot (.int z) (nats l)=decide (z∈l.map fun(k:Nat)=>(k:Int)):=by
 unfold Ot nats;rw[List.any_map,Bool.eq_iff_iff,List.any_eq_true,decide_eq_true_eq,List.mem_map];constructor
 ·rintro ⟨x,hx,e⟩
  exact⟨x,hx,eq_of_beq e⟩
 ·rintro ⟨x,hx,e⟩
  exact⟨x,hx,by show((x:Int) == z)=true;rw[e];simp⟩
theorem yu{s:State}{xs ys:List Int}(h:xs.length≠ys.length∨48<xs.length):Vbpcan.step s (.rows xs ys)=(s,[-3]):=by
 have e:(xs.length == ys.length && decide (xs.length<=Vbpcan.COLUMNS))=false:=by
  rcases h with h | h
  ·simp[h]
  ·have:¬xs.length<=Vbpcan.COLUMNS:=by unfold Vbpcan.COLUMNS;lia
   simp[this]
 show Vbpcan.change s (Vbpcan.must (xs.length == ys.length && decide (xs.length<=Vbpcan.COLUMNS)) (-3) >>= _)=_;rw[e];rfl
theorem o6(n:Int):Vbpcan.within n 0 Vbpcan.NETS=kH n:=by
 rw[Bool.eq_iff_iff,Bi];unfold Vbpcan.within Vbpcan.NETS;simp
theorem Bk(xs ys:List Int):((xs++ys).all fun n=>Vbpcan.within n 0 Vbpcan.NETS)=(xs.all kH && ys.all kH):=by
 rw[List.all_append]
 congr 1
 ·congr 1
  funext n
  exact o6 n
 ·congr 1
  funext n
  exact o6 n
theorem yw{s:State}{xs ys:List Int}(h1:xs.length=ys.length)(h2:xs.length<=48)(h:(xs.all kH && ys.all kH)=false):Vbpcan.step s (.rows xs ys)=(s,[-2]):=by
 have e:(xs.length == ys.length && decide (xs.length<=Vbpcan.COLUMNS))=true:=by
  have:xs.length<=Vbpcan.COLUMNS:=h2;simp[h1];lia
 show Vbpcan.change s (Vbpcan.must (xs.length == ys.length && decide (xs.length<=Vbpcan.COLUMNS)) (-3) >>= fun _=>Vbpcan.must ((xs++ys).all fun n=>Vbpcan.within n 0 Vbpcan.NETS) (-2) >>= _)=_;rw[e,Bk,h];rfl
theorem Jr{s:State}{xs ys:List Int}(h1:xs.length=ys.length)(h2:xs.length<=48)(h:(xs.all kH && ys.all kH)=true):Vbpcan.step s (.rows xs ys)=({ s with top:=xs.map Int.toNat,low:=ys.map Int.toNat },[0]):=by
 have e:(xs.length == ys.length && decide (xs.length<=Vbpcan.COLUMNS))=true:=by
  have:xs.length<=Vbpcan.COLUMNS:=h2;simp[h1];lia
 show Vbpcan.change s (Vbpcan.must (xs.length == ys.length && decide (xs.length<=Vbpcan.COLUMNS)) (-3) >>= fun _=>Vbpcan.must ((xs++ys).all fun n=>Vbpcan.within n 0 Vbpcan.NETS) (-2) >>= _)=_;rw[e,Bk,h];rfl
def Rp(H H':Hp)(c u l:Addr):Prop:=∀b o,H b=some o->b≠c->b≠u->b≠l->H' b=some o
def Lc(H:Hp)(u l x:Addr):Prop:=x=u∨x=l∨H x=none
def ve(C:Addr)(H:Hp)(Q:VK)(c u l:Addr)(r:State×List Int):Prop:=∀H' u' l' z,r.2=[z]->ff C H' c u' l' r.1->Rp H H' c u l->Lc H u l u'->Lc H u l l'->Q (.int z) H'
theorem ve.l9{C:Addr}{H H1:Hp}{Q:VK}{c u l:Addr}{s:State}{r:State×List Int}{z:Int}(q:ve C H Q c u l r)(e:r=(s,[z]))(h:ff C H c u l s)(sm:aq H H1):Q (.int z) H1:=by
 subst e;exact q H1 u l z rfl (h.mono sm) (fun b o hb _ _ _=>sm _ _ hb) (.inl rfl) (.inr (.inl rfl))
section
variable{P:Program}{w:World}{K:W.Frag}{mg:Str->Option Value}{base:Heap}{A:iL}
def yX(A:iL):Sp:=fun vs H Q _=>∃(p dx:Addr),vs=[.ref p]∧H p=some (.ins A.aw dx [])∧∀(H':Hp) (u l:Addr),ff A.aw H' p u l Vbpcan.start->(∀b o,H b=some o->b≠p->H' b=some o)->H u=none->H l=none->Q .gi H'
theorem yY(T:Txt K mg A):a6 P w K mg base fe 1 A.gZ A.g_ ["self"] (yX A):=by
 refine T.j8.ok yG (fun vs H Q E h=>?_) (fun cdv A1 outer s H vs Q E hr h=>?_)
 ·obtain⟨p,dx,rfl,_⟩:=h;rfl
 ·obtain⟨p,dx,rfl,hp,k⟩:=h;refine⟨_,(ae (fj (pv 0) (bE af) rfl)
 (ae (fj (pv 0) (bE af) rfl)
 (ai (fj (pv 0) (aL (v:=.int 0) rfl T.vc.choose_spec ⟨_,rfl⟩) rfl)))),?_⟩
  refine⟨Nat.zero_le _,fun u hu=>?_⟩;have pu:p≠u:=ao hp hu;refine⟨_,rfl,p,A.aw,dx,_,rfl,(by rw[ak pu];exact hp),T.aF,T.az,(by decide),?_⟩;refine⟨Nat.zero_le _,fun l hl=>?_⟩;have pl:p≠l:=ao ah hl;have ul:u≠l:=ao (by rw[ak (Ne.symm pu)];exact ah) hl;refine⟨_,rfl,p,A.aw,dx,_,rfl,(by rw[ak pl];exact ah),T.aF,T.aN,(by show 1<1000;decide),?_⟩;refine⟨_,rfl,p,A.aw,dx,_,rfl,ah,T.aF,T.eW,(by show 2<1000;decide),?_⟩;refine k _ u l ⟨⟨dx,ah⟩,?_,?_,ul,?_⟩ ?_ hu ?_
  ·rw[ak (Ne.symm pu),ak (Ne.symm pu),ak ul,ak (Ne.symm pu)];exact ah
  ·rw[ak (Ne.symm pl),ak (Ne.symm pl)];exact ah
  ·exact⟨rfl,by decide,fun x h=>(by cases h),fun x h=>(by cases h)⟩
  ·intro b o hb hbp;have bu:b≠u:=ao hb hu;have bl:b≠l:=ao (by rw[ak hbp,ak bu];exact hb) hl;rw[ak hbp,ak hbp,ak bl,ak hbp,ak bu];exact hb
  ·cases e:H l with
   | none=>rfl
   | some o=>
    rw[ak (Ne.symm pl),ak (Ne.symm ul)]at hl;rw[e]at hl;cases hl
def eg(s:State)(n:Int):Bool:=(Vbpcan.nets s).any fun k=>(k:Int) == n
def tX(A:iL):Sp:=fun vs H Q _=>∃(c u l:Addr) (s:State) (n:Int),vs=[.ref c,.int n]∧ff A.aw H c u l s∧Q (.bl (eg s n)) H
theorem m5(T:Txt K mg A):a6 P w K mg base fe 1 A.dJ A.dM ["self","net"] (tX A):=by
 refine T.dW.ok tN (fun vs H Q E h=>?_) (fun cdv A1 outer s H vs Q E hr h=>?_)
 ·obtain⟨c,u,l,st,n,rfl,_⟩:=h;rfl
 ·obtain⟨c,u,l,st,n,rfl,hC,q⟩:=h;obtain⟨dx,hc⟩:=hC.obj;refine⟨_,(ai (ay (Aq (gz pB (pv 1) (aL (v:=.int 0) rfl T.u9.choose_spec ⟨_,rfl⟩) (aM _)) (p8 (KN (gz rF (pv 1) (bC (pv 0) rfl) (by with_unfolding_all rfl)) (p8 (gz rF (pv 1) (bC (pv 0) rfl) (by with_unfolding_all rfl)))))))),?_⟩;have key:eg st n=(!decide (n=0) && (Ot (.int n) (nats st.top) || Ot (.int n) (nats st.low))):=by
   rw[Fo,Fo,Bool.eq_iff_iff];unfold eg;rw[KG];simp
  refine⟨_,rfl,rfl,_,rfl,bF (fun h=>?_) fun h=>?_⟩
  ·rw[el]at h;refine⟨_,rfl,_,rfl,c,_,dx,_,_,rfl,hc,T.aF,T.az,rfl,u,_,rfl,.inl (aP.of hC.up),rfl,w8 _,_,rfl,bF (fun h1=>?_) fun h1=>?_⟩
   ·have h1:Ot (.int n) (nats st.top)=true:=h1;rw[key,h,h1]at q;exact q
   ·have h1:Ot (.int n) (nats st.top)=false:=h1;rw[key,h,h1]at q;exact⟨_,rfl,_,rfl,c,_,dx,_,_,rfl,hc,T.aF,T.aN,rfl,l,_,rfl,.inl (aP.of hC.lo),rfl,w8 _,q⟩
  ·rw[el]at h;rw[key,h]at q;exact q
def se(A:iL):Sp:=fun vs H Q _=>∃(c u l a b:Addr) (s:State) (xs ys:List Int),vs=[.ref c,.ref a,.ref b]∧ff A.aw H c u l s∧H a=some (.lst (a_ xs))∧H b=some (.lst (a_ ys))∧xs.length<=31000∧ys.length<=31000∧ve A.aw H Q c u l (Vbpcan.step s (.rows xs ys))
theorem sf(T:Txt K mg A):a6 P w K mg base fe 4 A.df A.dh ["self","upper_pins","lower_pins"] (se A):=by
 refine T.dm.ok rZ (fun vs H Q E h=>?_) (fun cdv A1 outer s H vs Q E hr h=>?_)
 ·obtain⟨c,u,l,a,b,st,xs,ys,rfl,_⟩:=h;rfl
 ·obtain⟨c,u,l,a,b,st,xs,ys,rfl,hC,ha,hb,hx,hy,q⟩:=h;refine⟨_,(ae (br (PW.pt (D3 (aH pB (aK ax (by rfl) T.bP bh (aa (pv 1) af)) (aK ax (by rfl) T.bP bh (aa (pv 2) af)) (aM _)) (wj (aH yi (aK ax (by rfl) T.bP bh (aa (pv 1) af)) (aL (v:=.int 48) rfl T.Bb.choose_spec ⟨_,rfl⟩) (aM _))))) (ai (ay (aL (v:=.int (-3)) rfl T.yr.choose_spec ⟨_,rfl⟩))) aS)
 (ae (br (PW.pt (D3 (p7 (jU (au (yt T) (hr.mono (by decide)) rfl T.AY T.kF.kp T.AX .nil aA (aa (pv 1) af)))) (wj (p7 (jU (au (yt T) (hr.mono (by decide)) rfl T.AY T.kF.kp T.AX .nil aA (aa (pv 2) af))))))) (ai (ay (aL (v:=.int (-2)) rfl T.iz.choose_spec ⟨_,rfl⟩))) aS)
 (ae (fj (pv 0) (wx oR (by rfl) T.Be zQ (aa (pv 1) af)) rfl)
 (ae (fj (pv 0) (wx oR (by rfl) T.Be zQ (aa (pv 2) af)) rfl)
 (ai (ay (aL (v:=.int 0) rfl T.wY.choose_spec ⟨_,rfl⟩))))))),?_⟩
  have lx:(a_ xs).length=xs.length:=List.length_map _;have ly:(a_ ys).length=ys.length:=List.length_map _;refine⟨_,rfl,a,_,rfl,.inl (aP.of ha),_,rfl,b,_,rfl,.inl (aP.of hb),rfl,_,rfl,bF (fun h=>?_) fun h=>?_⟩
  ·rw[el,lx,ly]at h;refine rX (q.l9 (yu (.inl ?_)) hC (aq.refl _));simp at h;lia
  ·rw[el,lx,ly]at h;refine⟨_,rfl,a,_,rfl,.inl (aP.of ha),_,_,rfl,rfl,_,rfl,bF (fun h'=>?_) fun h'=>?_⟩
   ·rw[lx]at h';refine q.l9 (yu (.inr ?_)) hC (aq.refl _);simp at h';lia
   ·rw[lx]at h';have h1:xs.length=ys.length:=by simp at h;lia
    have h2:xs.length<=48:=by simp at h';lia
    clear h h'
    refine⟨_,rfl,a,xs,rfl,aP.of ha,hx,fun H1 sm1=>⟨_,rfl,bF (fun h=>?_) fun h=>?_⟩⟩
    ·refine rX (q.l9 (yw h1 h2 ?_) hC sm1);rw[show xs.all kH=false by simpa using h];rfl
    ·refine⟨_,rfl,b,ys,rfl,aP.of (sm1 _ _ hb),hy,fun H2 sm2=>⟨_,rfl,bF (fun h'=>?_) fun h'=>?_⟩⟩
     ·refine q.l9 (yw h1 h2 ?_) hC (sm1.trans sm2);rw[show ys.all kH=false by simpa using h',Bool.and_false]
     ·have sm:=sm1.trans sm2;have p1:xs.all kH=true:=by simpa using h
      have p2:ys.all kH=true:=by simpa using h'
      obtain⟨dx,hc⟩:=hC.obj;refine⟨_,rfl,a,_,rfl,.inl (aP.of (sm _ _ ha)),fun u' hu'=>?_⟩;have hcH2:=sm _ _ hc;have cu:c≠u':=ao hcH2 hu';refine⟨_,rfl,c,A.aw,dx,_,rfl,(by rw[ak cu];exact hcH2),T.aF,T.az,(by show 3<1000;decide),?_⟩;have bc:b≠c:=cj hb hc (by intro z;cases z);have bu:b≠u':=ao (sm _ _ hb) hu';refine⟨_,rfl,b,_,rfl,.inl (aP.of (by rw[ak bc,ak bu];exact sm _ _ hb)),fun l' hl'=>?_⟩;have cl:c≠l':=ao ah hl';have ul:u'≠l':=ao (by rw[ak (Ne.symm cu)];exact ah) hl';refine⟨_,rfl,c,A.aw,dx,_,rfl,(by rw[ak cl];exact ah),T.aF,T.aN,(by show 3<1000;decide),?_⟩;rw[Jr h1 h2 (by rw[p1,p2];rfl)]at q;have nx:=Hk.mp p1;have ny:=Hk.mp p2;have l1:H2 l'=none:=by rw[ak (Ne.symm cl),ak (Ne.symm ul)]at hl';exact hl'
      refine q _ u' l' 0 rfl ⟨⟨dx,ah⟩,?_,?_,ul,?_⟩ (fun d o hd n1 n2 n3=>?_) (.inr (.inr (sm.free hu'))) (.inr (.inr (sm.free l1)))
      ·rw[ak (Ne.symm cu),ak ul,ak (Ne.symm cu),ah,qQ fun x hx=>(nx x hx).1]
      ·rw[ak (Ne.symm cl),ah,qQ fun x hx=>(ny x hx).1]
      ·refine⟨by simp[h1],by simpa using h2,fun x hx=>?_,fun x hx=>?_⟩
       ·obtain⟨z,hz,rfl⟩:=List.mem_map.mp hx;have:=nx z hz;lia
       ·obtain⟨z,hz,rfl⟩:=List.mem_map.mp hx;have:=ny z hz;lia
      ·have d1:d≠u':=ao (sm _ _ hd) hu';have d2:d≠l':=ao (sm _ _ hd) l1;rw[ak n1,ak d2,ak n1,ak d1];exact sm _ _ hd
end
end Pc
end
section
namespace Pc
open PySem PySem.Spec PyProof.Rows L2
open Vbpcan (State)
theorem vg(k:Int):Vbpcan.within k 0 1=true↔k=0∨k=1:=by
 unfold Vbpcan.within;simp;lia
theorem Js{s:State}{k:Int}(h:¬(k=0∨k=1)):Vbpcan.step s (.mode k)=(s,[-2]):=by
 have e:Vbpcan.within k 0 1=false:=by
  cases e:Vbpcan.within k 0 1 with
  | false=>rfl
  | true=>exact absurd ((vg k).mp e) h
 show Vbpcan.change s (Vbpcan.must (Vbpcan.within k 0 1) (-2) >>= _)=_;rw[e];rfl
theorem Jt{s:State}{k:Int}(h:k=0∨k=1):Vbpcan.step s (.mode k)=({ s with cut:=k == 1 },[0]):=by
 show Vbpcan.change s (Vbpcan.must (Vbpcan.within k 0 1) (-2) >>= _)=_;rw[(vg k).mpr h];rfl
theorem Bl{s:State}{c x n:Int}(h:c<0∨(s.top.length:Int)<=c):Vbpcan.step s (.pin c x n)=(s,[-1]):=by
 have e:Vbpcan.within c 0 ((s.top.length:Int) - 1)=false:=by
  unfold Vbpcan.within;rw[decide_eq_false_iff_not];lia
 show Vbpcan.change s (Vbpcan.must (Vbpcan.within c 0 ((s.top.length:Int) - 1)) (-1) >>= _)=_;rw[e];rfl
theorem Bm{s:State}{c x n:Int}(h:¬(c<0∨(s.top.length:Int)<=c))(h2:¬((x=0∨x=1)∧kH n=true)):Vbpcan.step s (.pin c x n)=(s,[-2]):=by
 have e:Vbpcan.within c 0 ((s.top.length:Int) - 1)=true:=by
  unfold Vbpcan.within;rw[decide_eq_true_eq];lia
 have e2:(Vbpcan.within x 0 1 && Vbpcan.within n 0 Vbpcan.NETS)=false:=by
  rw[o6];cases e3:Vbpcan.within x 0 1 with
  | false=>rfl
  | true=>
   cases e4:kH n with
   | false=>rfl
   | true=>exact absurd ⟨(vg x).mp e3,e4⟩ h2
 show Vbpcan.change s (Vbpcan.must (Vbpcan.within c 0 ((s.top.length:Int) - 1)) (-1) >>= fun _=>Vbpcan.must (Vbpcan.within x 0 1 && Vbpcan.within n 0 Vbpcan.NETS) (-2) >>= _)=_;rw[e,e2];rfl
theorem MC{s:State}{c x n:Int}(h:¬(c<0∨(s.top.length:Int)<=c))(h2:x=0∨x=1)(h3:kH n=true) :
  Vbpcan.step s (.pin c x n)=(if x=0 then { s with top:=s.top.set c.toNat n.toNat }else { s with low:=s.low.set c.toNat n.toNat },[0]):=by
 have e:Vbpcan.within c 0 ((s.top.length:Int) - 1)=true:=by
  unfold Vbpcan.within;rw[decide_eq_true_eq];lia
 have e2:(Vbpcan.within x 0 1 && Vbpcan.within n 0 Vbpcan.NETS)=true:=by
  rw[o6,h3,(vg x).mpr h2];rfl
 show Vbpcan.change s (Vbpcan.must (Vbpcan.within c 0 ((s.top.length:Int) - 1)) (-1) >>= fun _=>Vbpcan.must (Vbpcan.within x 0 1 && Vbpcan.within n 0 Vbpcan.NETS) (-2) >>= _)=_;rw[e,e2];rfl
theorem MD{s:State}{n m:Int}(h:eg s n=false):Vbpcan.step s (.rename n m)=(s,[-1]):=by
 show Vbpcan.change s (Vbpcan.must (eg s n) (-1) >>= _)=_;rw[h];rfl
theorem tY(m:Int):Vbpcan.within m 1 Vbpcan.NETS=tW m:=by
 rw[Bool.eq_iff_iff];unfold Vbpcan.within Vbpcan.NETS tW;simp
theorem Ju{s:State}{n m:Int}(h:eg s n=true)(h2:tW m=false):Vbpcan.step s (.rename n m)=(s,[-2]):=by
 show Vbpcan.change s (Vbpcan.must (eg s n) (-1) >>= fun _=>Vbpcan.must (Vbpcan.within m 1 Vbpcan.NETS) (-2) >>= _)=_;rw[h,tY,h2];rfl
theorem Fp{s:State}{n m:Int}(h:eg s n=true)(h2:tW m=true)(h3:¬m=n)(h4:eg s m=true):Vbpcan.step s (.rename n m)=(s,[-7]):=by
 have e:(n == m || !eg s m)=false:=by rw[h4];simp;exact fun z=>h3 z.symm
 show Vbpcan.change s (Vbpcan.must (eg s n) (-1) >>= fun _=>Vbpcan.must (Vbpcan.within m 1 Vbpcan.NETS) (-2) >>= fun _=>Vbpcan.must (n == m || !eg s m) (-7) >>= _)=_;rw[h,tY,h2,e];rfl
theorem ME{s:State}{n m:Int}(h:eg s n=true)(h2:tW m=true)(h3:m=n∨eg s m=false):Vbpcan.step s (.rename n m)=(Vbpcan.renamed s n.toNat m.toNat,[0]):=by
 have e:(n == m || !eg s m)=true:=by
  rcases h3 with z | z
  ·simp[z]
  ·rw[z];simp
 show Vbpcan.change s (Vbpcan.must (eg s n) (-1) >>= fun _=>Vbpcan.must (Vbpcan.within m 1 Vbpcan.NETS) (-2) >>= fun _=>Vbpcan.must (n == m || !eg s m) (-7) >>= _)=_;rw[h,tY,h2,e];rfl
theorem Hl{l:List Nat}{n m:Int}(hn:0<=n)(hm:0<=m):a_ (l.map fun(x:Nat)=>if (x:Int)=n then m else(x:Int))=nats (l.map fun x=>if x=n.toNat then m.toNat else x):=by
 unfold a_ nats;rw[List.map_map,List.map_map];refine List.map_congr_left fun x _=>?_
 show V.int (if (x:Int)=n then m else(x:Int))=V.int (((if x=n.toNat then m.toNat else x:Nat)):Int);by_cases h:(x:Int)=n
 ·rw[if_pos h,if_pos (by lia),Int.toNat_of_nonneg hm]
 ·rw[if_neg h,if_neg (by lia)]
theorem Bn{l:List Nat}{i v b:Nat}(h:∀x,x∈l->x<=b)(hv:v<=b):∀x,x∈l.set i v->x<=b:=fun x hx=>by
 rcases List.mem_or_eq_of_mem_set hx with z | z
 ·exact h x z
 ·rw[z];exact hv
section
variable{P:Program}{w:World}{K:W.Frag}{mg:Str->Option Value}{base:Heap}{A:iL}
def sh(A:iL):Sp:=fun vs H Q _=>∃(c u l:Addr) (s:State) (k:Int),vs=[.ref c,.int k]∧ff A.aw H c u l s∧ve A.aw H Q c u l (Vbpcan.step s (.mode k))
theorem si(T:Txt K mg A):a6 P w K mg base fe 1 A.di A.dj ["self","mode"] (sh A):=by
 refine T.dn.ok r6 (fun vs H Q E h=>?_) (fun cdv A1 outer s H vs Q E hr h=>?_)
 ·obtain⟨c,u,l,st,k,rfl,_⟩:=h;rfl
 ·obtain⟨c,u,l,st,k,rfl,hC,q⟩:=h;obtain⟨dx,hc⟩:=hC.obj;refine⟨_,(ae (br (PW.pt (oQ (aH pB (pv 1) (aL (v:=.int 0) rfl T.vc.choose_spec ⟨_,rfl⟩) (aM _)) (ma (aH pB (pv 1) (aL (v:=.int 1) rfl T.Bd.choose_spec ⟨_,rfl⟩) (aM _))))) (ai (ay (aL (v:=.int (-2)) rfl T.iz.choose_spec ⟨_,rfl⟩))) aS)
 (ae (fj (pv 0) (pv 1) rfl)
 (ai (ay (aL (v:=.int 0) rfl T.wY.choose_spec ⟨_,rfl⟩))))),?_⟩
  have go:k=0∨k=1->∀H',H'=upd H c (.ins A.aw dx (UT u l k))->Q (.int 0) H':=fun hk H' e=>by
   subst e;rw[Jt hk]at q;have uc:u≠c:=cj hC.up hc (by intro z;cases z);have lc:l≠c:=cj hC.lo hc (by intro z;cases z);refine q _ u l 0 rfl ⟨⟨dx,?_⟩,by rw[ak uc];exact hC.up,by rw[ak lc];exact hC.lo,hC.ne,⟨hC.fit.len,hC.fit.cols,hC.fit.top,hC.fit.low⟩⟩ (fun b o hb n1 _ _=>by rw[ak n1];exact hb) (.inl rfl) (.inr (.inl rfl));rw[ah];have:Mi { st with cut:=k == 1 }=k:=by
    unfold Mi;rcases hk with rfl | rfl
    ·rfl
    ·rfl
   rw[this]
  refine⟨_,rfl,rfl,_,rfl,bF (fun h=>?_) fun h=>?_⟩
  ·rw[el]at h;refine⟨_,rfl,rfl,_,rfl,bF (fun h'=>?_) fun h'=>?_⟩
   ·rw[el]at h';refine q.l9 (Js ?_) hC (aq.refl _);simp at h h';lia
   ·rw[el]at h';refine⟨_,rfl,_,rfl,c,A.aw,dx,_,rfl,hc,T.aF,T.eW,(by show 3<1000;decide),go ?_ _ rfl⟩;simp at h';exact .inr h'
  ·rw[el]at h;refine uQ ⟨_,rfl,_,rfl,c,A.aw,dx,_,rfl,hc,T.aF,T.eW,(by show 3<1000;decide),go ?_ _ rfl⟩;simp at h;exact .inl h
def tZ(A:iL):Sp:=fun vs H Q _=>∃(c u l:Addr) (s:State) (k x n:Int),vs=[.ref c,.int k,.int x,.int n]∧ff A.aw H c u l s∧ve A.aw H Q c u l (Vbpcan.step s (.pin k x n))
theorem t5(T:Txt K mg A):a6 P w K mg base fe 3 A.dN A.dO ["self","column","side","net"] (tZ A):=by
 refine T.dX.ok tO (fun vs H Q E h=>?_) (fun cdv A1 outer s H vs Q E hr h=>?_)
 ·obtain⟨c,u,l,st,k,x,n,rfl,_⟩:=h;rfl
 ·obtain⟨c,u,l,st,k,x,n,rfl,hC,q⟩:=h;obtain⟨dx,hc⟩:=hC.obj;refine⟨_,(ae (br (PW.pt (D3 (aH uL (pv 1) aC (aM _)) (wj (aH Od (pv 1) (aK ax (by rfl) T.bP bh (aa (bC (pv 0) rfl) af)) (aM _))))) (ai (ay (aL (v:=.int (-1)) rfl T.wX.choose_spec ⟨_,rfl⟩))) aS)
 (ae (br (PW.pt (oQ (aH pB (pv 2) (aL (v:=.int 0) rfl T.u_.choose_spec ⟨_,rfl⟩) (aM _)) (ma (aH pB (pv 2) (aL (v:=.int 1) rfl T.Fl.choose_spec ⟨_,rfl⟩) (aM _))))) (ai (ay (aL (v:=.int (-2)) rfl T.iz.choose_spec ⟨_,rfl⟩))) aS)
 (ae (br (p7 (jU (au (En T) (hr.mono (by decide)) rfl T.G2 T.oz.kp T.G1 .nil aA (aa (pv 3) af)))) (ai (ay (aL (v:=.int (-2)) rfl T.iz.choose_spec ⟨_,rfl⟩))) aS)
 (ae (br (aH bW (pv 2) (aL (v:=.int 0) rfl T.u_.choose_spec ⟨_,rfl⟩) (aM _)) (ai (tp (pv 3) (tm (bC (pv 0) rfl) (pv 1) set_list))) (ai (tp (pv 3) (tm (bC (pv 0) rfl) (pv 1) set_list))))
 (ai (ay (aL (v:=.int 0) rfl T.wY.choose_spec ⟨_,rfl⟩))))))),?_⟩
  have lu:(nats st.top).length=st.top.length:=List.length_map _;have ll:(nats st.low).length=st.low.length:=List.length_map _;refine⟨_,rfl,_,_,rfl,rfl,_,rfl,bF (fun h=>?_) fun h=>?_⟩
  ·refine rX (q.l9 (Bl (.inl ?_)) hC (aq.refl _));simpa using h
  ·refine⟨_,rfl,_,rfl,c,_,dx,_,_,rfl,hc,T.aF,T.az,rfl,u,_,rfl,.inl (aP.of hC.up),_,_,rfl,rfl,_,rfl,bF (fun h'=>?_) fun h'=>?_⟩
   ·rw[lu]at h';refine q.l9 (Bl (.inr ?_)) hC (aq.refl _);simpa using h'
   ·rw[lu]at h';have hk:¬(k<0∨(st.top.length:Int)<=k):=by
     simp at h h';lia
    clear h h'
    refine⟨_,rfl,rfl,_,rfl,Hi (Q:=fun b=>if b=true then _ else _) (fun hq=>⟨_,rfl,rfl,_,rfl,hq⟩) (bF (fun h=>?_) fun h=>?_)⟩
    ·rw[el,el]at h;refine q.l9 (Bm hk fun z=>?_) hC (aq.refl _);simp at h;lia
    ·rw[el,el]at h;have hx:x=0∨x=1:=by
      simp at h;lia
     refine⟨_,rfl,n,rfl,_,rfl,bF (fun h=>?_) fun h=>?_⟩
     ·refine q.l9 (Bm hk fun z=>?_) hC (aq.refl _);rw[z.2]at h;cases h
     ·have hn:kH n=true:=by simpa using h
      have hn':=Bi.mp hn;rw[MC hk hx hn]at q;obtain⟨j,rfl⟩:∃j:Nat,k=(j:Int):=⟨k.toNat,by lia⟩;obtain⟨v,rfl⟩:∃v:Nat,n=(v:Int):=⟨n.toNat,by lia⟩;have hj:j<st.top.length:=by lia
      have uc:u≠c:=cj hC.up hc (by intro z;cases z);have lc:l≠c:=cj hC.lo hc (by intro z;cases z);refine⟨_,rfl,rfl,_,rfl,bF (fun h0=>?_) fun h0=>?_⟩
      ·rw[el,decide_eq_true_eq]at h0;rw[if_pos h0]at q;refine⟨_,rfl,_,rfl,c,_,dx,_,_,rfl,hc,T.aF,T.az,rfl,_,rfl,u,_,_,j,rfl,rfl,hC.up,nF rfl (by rw[lu];exact hj),?_⟩;refine q _ u l 0 rfl ⟨⟨dx,by rw[ak (Ne.symm uc)];exact hc⟩,?_,by rw[ak (Ne.symm hC.ne)];exact hC.lo,hC.ne,⟨by simp[hC.fit.len],by simpa using hC.fit.cols,Bn hC.fit.top (by lia),hC.fit.low⟩⟩ (fun b o hb _ n1 _=>by rw[ak n1];exact hb) (.inl rfl) (.inr (.inl rfl));rw[ah];simp only[Int.toNat_natCast];exact congrArg (fun z=>some (HO.lst z)) (mL _ _ _)
      ·rw[el,decide_eq_false_iff_not]at h0;rw[if_neg h0]at q;refine⟨_,rfl,_,rfl,c,_,dx,_,_,rfl,hc,T.aF,T.aN,rfl,_,rfl,l,_,_,j,rfl,rfl,hC.lo,nF rfl (by rw[ll,hC.fit.len];exact hj),?_⟩;refine q _ u l 0 rfl ⟨⟨dx,by rw[ak (Ne.symm lc)];exact hc⟩,by rw[ak hC.ne];exact hC.up,?_,hC.ne,⟨by simp[hC.fit.len],hC.fit.cols,hC.fit.top,Bn hC.fit.low (by lia)⟩⟩ (fun b o hb _ _ n1=>by rw[ak n1];exact hb) (.inl rfl) (.inr (.inl rfl));rw[ah];simp only[Int.toNat_natCast];exact congrArg (fun z=>some (HO.lst z)) (mL _ _ _)
end
end Pc
end
section
namespace Pc
open PySem PySem.Spec PyProof.Rows L2
open Vbpcan (State)
section
variable{P:Program}{w:World}{K:W.Frag}{mg:Str->Option Value}{base:Heap}{A:iL}
def vi(A:iL):Sp:=fun vs H Q _=>∃(c u l:Addr) (s:State),vs=[.ref c]∧ff A.aw H c u l s∧ve A.aw H Q c u l (Vbpcan.step s .mirror)
theorem vj(T:Txt K mg A):a6 P w K mg base fe 1 A.eJ A.eK ["self"] (vi A):=by
 refine T.eU.ok uV (fun vs H Q E h=>?_) (fun cdv A1 outer s H vs Q E hr h=>?_)
 ·obtain⟨c,u,l,st,rfl,_⟩:=h;rfl
 ·obtain⟨c,u,l,st,rfl,hC,q⟩:=h;obtain⟨dx,hc⟩:=hC.obj;refine⟨_,(ae (fj (pv 0) (AQ rfl (by rfl) T.Be (by rfl) T.Bf (aa (bC (pv 0) rfl) af)) rfl)
 (ae (fj (pv 0) (AQ rfl (by rfl) T.Be (by rfl) T.Bf (aa (bC (pv 0) rfl) af)) rfl)
 (ai (ay (aL (v:=.int 0) rfl T.wY.choose_spec ⟨_,rfl⟩))))),?_⟩
  refine⟨_,rfl,c,_,dx,_,_,rfl,hc,T.aF,T.az,rfl,u,_,rfl,aP.of hC.up,fun u' hu'=>?_⟩;have cu:c≠u':=ao hc hu';refine⟨_,rfl,c,A.aw,dx,_,rfl,(by rw[ak cu];exact hc),T.aF,T.az,(by show 3<1000;decide),?_⟩;have lc:l≠c:=cj hC.lo hc (by intro z;cases z);have lu:l≠u':=ao hC.lo hu';refine⟨_,rfl,c,_,dx,_,_,rfl,ah,T.aF,T.aN,rfl,l,_,rfl,aP.of (by rw[ak lc,ak lu];exact hC.lo),fun l' hl'=>?_⟩;have cl:c≠l':=ao ah hl';have ul:u'≠l':=ao (by rw[ak (Ne.symm cu)];exact ah) hl';refine⟨_,rfl,c,A.aw,dx,_,rfl,(by rw[ak cl];exact ah),T.aF,T.aN,(by show 3<1000;decide),?_⟩;have l1:H l'=none:=by rw[ak (Ne.symm cl),ak (Ne.symm ul)]at hl';exact hl'
  refine q _ u' l' 0 rfl ⟨⟨dx,ah⟩,?_,?_,ul,⟨?_,?_,?_,?_⟩⟩ (fun d o hd n1 n2 n3=>?_) (.inr (.inr hu')) (.inr (.inr l1))
  ·rw[ak (Ne.symm cu),ak ul,ak (Ne.symm cu),ah];exact congrArg (fun z=>some (HO.lst z)) (List.map_reverse).symm
  ·rw[ak (Ne.symm cl),ah];exact congrArg (fun z=>some (HO.lst z)) (List.map_reverse).symm
  ·show st.low.reverse.length=st.top.reverse.length;rw[List.length_reverse,List.length_reverse];exact hC.fit.len
  ·show st.top.reverse.length<=48;rw[List.length_reverse];exact hC.fit.cols
  ·exact fun x hx=>hC.fit.top x (List.mem_reverse.mp hx)
  ·exact fun x hx=>hC.fit.low x (List.mem_reverse.mp hx)
  ·have d1:d≠u':=ao hd hu';have d2:d≠l':=ao hd l1;rw[ak n1,ak d2,ak n1,ak d1];exact hd
def yZ(A:iL):Sp:=fun vs H Q _=>∃(c u l:Addr) (s:State),vs=[.ref c]∧ff A.aw H c u l s∧ve A.aw H Q c u l (Vbpcan.step s .turn)
theorem y0(T:Txt K mg A):a6 P w K mg base fe 1 A.hJ A.hU ["self"] (yZ A):=by
 refine T.ij.ok pF (fun vs H Q E h=>?_) (fun cdv A1 outer s H vs Q E hr h=>?_)
 ·obtain⟨c,u,l,st,rfl,_⟩:=h;rfl
 ·obtain⟨c,u,l,st,rfl,hC,q⟩:=h;obtain⟨dx,hc⟩:=hC.obj;refine⟨_,(ae (aI (i:=1) pF.nd rfl (Or.inl rfl) (bC (pv 0) rfl))
 (ae (fj (pv 0) (bC (pv 0) rfl) rfl)
 (ae (fj (pv 0) (pv 1) rfl)
 (ai (ay (aL (v:=.int 0) rfl T.wY.choose_spec ⟨_,rfl⟩)))))),?_⟩
  have lc:l≠c:=cj hC.lo hc (by intro z;cases z);have uc:u≠c:=cj hC.up hc (by intro z;cases z);refine⟨_,rfl,c,_,dx,_,_,rfl,hc,T.aF,T.az,rfl,?_⟩;refine⟨_,rfl,c,_,dx,_,_,rfl,hc,T.aF,T.aN,rfl,?_⟩;refine⟨_,rfl,c,A.aw,dx,_,rfl,hc,T.aF,T.az,(by show 3<1000;decide),?_⟩;refine⟨_,rfl,_,rfl,c,A.aw,dx,_,rfl,ah,T.aF,T.aN,(by show 3<1000;decide),?_⟩;refine q _ l u 0 rfl ⟨⟨dx,ah⟩,by rw[ak lc,ak lc];exact hC.lo,by rw[ak uc,ak uc];exact hC.up,Ne.symm hC.ne,⟨hC.fit.len.symm,?_,hC.fit.low,hC.fit.top⟩⟩ (fun d o hd n1 n2 n3=>by rw[ak n1,ak n1];exact hd) (.inr (.inl rfl)) (.inl rfl);show st.low.length<=48;rw[hC.fit.len];exact hC.fit.cols
def vm(A:iL):Sp:=fun vs H Q _=>∃(c u l:Addr) (s:State) (n m:Int),vs=[.ref c,.int n,.int m]∧ff A.aw H c u l s∧ve A.aw H Q c u l (Vbpcan.step s (.rename n m))
theorem vn(T:Txt K mg A):a6 P w K mg base fe 2 A.eM A.eO ["self","net","new"] (vm A):=by
 refine T.eV.ok uW (fun vs H Q E h=>?_) (fun cdv A1 outer s H vs Q E hr h=>?_)
 ·obtain⟨c,u,l,st,n,m,rfl,_⟩:=h;rfl
 ·obtain⟨c,u,l,st,n,m,rfl,hC,q⟩:=h;obtain⟨dx,hc⟩:=hC.obj;refine⟨_,(ae (br (p7 (jU (iD (pv 0) T.aF T.m4 (m5 T) (hr.mono (by decide)) T.nD .nil aA (aa (pv 1) af)))) (ai (ay (aL (v:=.int (-1)) rfl T.CO.choose_spec ⟨_,rfl⟩))) aS)
 (ae (br (p7 (jU (au (oF T) (hr.mono (by decide)) rfl T.pH T.dB.kp T.pG .nil aA (aa (pv 2) af)))) (ai (ay (aL (v:=.int (-2)) rfl T.iz.choose_spec ⟨_,rfl⟩))) aS)
 (ae (br (PW.pt (oQ (aH pB (pv 2) (pv 1) (aM _)) (ma (jU (iD (pv 0) T.aF T.m4 (m5 T) (hr.mono (by decide)) T.nD .nil aA (aa (pv 2) af)))))) (ai (ay (aL (v:=.int (-7)) rfl T.Ba.choose_spec ⟨_,rfl⟩))) aS)
 (ae (fj (pv 0) (au (Bj T) (hr.mono (by decide)) rfl T.Ei T.mv.kp T.Eh .nil aA (aa (bC (pv 0) rfl) (aa (pv 1) (aa (pv 2) af)))) rfl)
 (ae (fj (pv 0) (au (Bj T) (hr.mono (by decide)) rfl T.Ei T.mv.kp T.Eh .nil aA (aa (bC (pv 0) rfl) (aa (pv 1) (aa (pv 2) af)))) rfl)
 (ai (ay (aL (v:=.int 0) rfl T.wY.choose_spec ⟨_,rfl⟩)))))))),?_⟩
  refine⟨_,rfl,c,dx,_,rfl,hc,rfl,_,rfl,c,u,l,st,n,rfl,hC,_,rfl,bF (fun h=>?_) fun h=>?_⟩
  ·exact q.l9 (MD (by simpa using h)) hC (aq.refl _)
  ·have h1:eg st n=true:=by simpa using h
   refine⟨_,rfl,m,rfl,_,rfl,bF (fun h=>?_) fun h=>?_⟩
   ·exact q.l9 (Ju h1 (by simpa using h)) hC (aq.refl _)
   ·have h2:tW m=true:=by simpa using h
    refine⟨_,rfl,_,rfl,rfl,_,rfl,Hi (b2:=eg st m) (Q:=fun b=>if b=true then _ else _) (fun hq=>⟨_,rfl,c,dx,_,rfl,hc,rfl,_,rfl,c,u,l,st,m,rfl,hC,_,rfl,hq⟩) (bF (fun h=>?_) fun h=>?_)⟩
    ·rw[el]at h;simp at h;exact q.l9 (Fp h1 h2 h.1 h.2) hC (aq.refl _)
    ·rw[el]at h;have h3:m=n∨eg st m=false:=by
      by_cases e:m=n
      ·exact .inl e
      ·simp[e]at h;exact .inr h
     rw[ME h1 h2 h3]at q;have hn:0<=n:=by
      unfold eg at h1;rw[KG]at h1;rcases h1.2 with z | z
      ·obtain⟨k,_,e⟩:=List.mem_map.mp z;lia
      ·obtain⟨k,_,e⟩:=List.mem_map.mp z;lia
     have hm:1<=m∧m<=999:=by
      unfold tW at h2;simpa using h2
     have lc:l≠c:=cj hC.lo hc (by intro z;cases z);have fl:=hC.fit;refine⟨_,rfl,c,_,dx,_,_,rfl,hc,T.aF,T.az,rfl,_,rfl,_,rfl,u,st.top,n,m,rfl,hC.up,fl.cols,fun H1 u' sm1 hu' e1=>?_⟩;refine⟨_,rfl,c,A.aw,dx,_,rfl,sm1 _ _ hc,T.aF,T.az,(by show 3<1000;decide),?_⟩;refine⟨_,rfl,c,_,dx,_,_,rfl,ah,T.aF,T.aN,rfl,_,rfl,_,rfl,l,st.low,n,m,rfl,(by rw[ak lc];exact sm1 _ _ hC.lo),(by rw[fl.len];exact fl.cols),fun H2 l' sm2 hl' e2=>?_⟩;refine⟨_,rfl,c,A.aw,dx,_,rfl,sm2 _ _ ah,T.aF,T.aN,(by show 3<1000;decide),?_⟩;have cu:c≠u':=ao hc hu';have cl:c≠l':=ao ah hl';have l1:H1 l'=none:=by rw[ak (Ne.symm cl)]at hl';exact hl'
     have ul:u'≠l':=ao e1 l1;refine q _ u' l' 0 rfl ⟨⟨dx,ah⟩,?_,?_,ul,⟨?_,?_,?_,?_⟩⟩ (fun d o hd n1 n2 n3=>?_) (.inr (.inr hu')) (.inr (.inr (sm1.free l1)))
     ·rw[ak (Ne.symm cu)];show H2 u'=some (.lst (nats (st.top.map fun x=>if x=n.toNat then m.toNat else x)));rw[<-Hl hn (by lia)];exact sm2 _ _ (by rw[ak (Ne.symm cu)];exact e1)
     ·rw[ak (Ne.symm cl)];show H2 l'=some (.lst (nats (st.low.map fun x=>if x=n.toNat then m.toNat else x)));rw[<-Hl hn (by lia)];exact e2
     ·show(st.low.map _).length=(st.top.map _).length
      rw[List.length_map,List.length_map];exact fl.len
     ·show(st.top.map _).length<=48
      rw[List.length_map];exact fl.cols
     ·intro x hx;obtain⟨y,hy,rfl⟩:=List.mem_map.mp hx;have:=fl.top y hy
      show(if y=n.toNat then m.toNat else y)<=999
      split <;> lia
     ·intro x hx;obtain⟨y,hy,rfl⟩:=List.mem_map.mp hx;have:=fl.low y hy
      show(if y=n.toNat then m.toNat else y)<=999
      split <;> lia
     ·rw[ak n1];exact sm2 _ _ (by rw[ak n1];exact sm1 _ _ hd)
def oG(H H':Hp)(r:Addr):Prop:=∀b o,H b=some o->b≠r->H' b=some o
def Bo(K:W.Frag)(A:iL):Sp:=fun vs H Q _=>∃(p dx a:Addr) (ns:List Int),vs=[.ref p,.ref a]∧H p=some (.ins A.bf dx [])∧QQ K H a (a_ ns)∧∀H':Hp,Read K A.bf H' p a ns 0->oG H H' p->Q .gi H'
theorem Bp(T:Txt K mg A):a6 P w K mg base fe 1 A.jf A.jg ["self","numbers"] (Bo K A):=by
 refine T.kR.ok AW (fun vs H Q E h=>?_) (fun cdv A1 outer s H vs Q E hr h=>?_)
 ·obtain⟨p,dx,a,ns,rfl,_⟩:=h;rfl
 ·obtain⟨p,dx,a,ns,rfl,hp,hS,k⟩:=h;refine⟨_,(ae (fj (pv 0) (pv 1) rfl)
 (ai (fj (pv 0) aC rfl))),?_⟩
  refine⟨_,rfl,_,rfl,p,A.bf,dx,_,rfl,hp,T.bw,T.c8,(by decide),?_⟩;refine⟨_,rfl,p,A.bf,dx,_,rfl,ah,T.bw,T.b9,(by show 1<1000;decide),?_⟩;refine k _ ⟨⟨dx,ah⟩,hS.keep fun o ho=>?_⟩ fun b o hb n1=>by rw[ak n1,ak n1];exact hb
  have ap:a≠p:=cj ho hp (by intro z;cases z);rw[ak ap,ak ap];exact ho
def w9(K:W.Frag)(A:iL):Sp:=fun vs H Q _=>∃(r a:Addr) (ns:List Int) (p:Nat),vs=[.ref r]∧Read K A.bf H r a ns p∧Q (.bl (decide (ns.length<=p))) H
theorem w_(T:Txt K mg A):a6 P w K mg base fe 1 A.fV A.fW ["self"] (w9 K A):=by
 refine T.gg.ok wK (fun vs H Q E h=>?_) (fun cdv A1 outer s H vs Q E hr h=>?_)
 ·obtain⟨r,a,ns,p,rfl,_⟩:=h;rfl
 ·obtain⟨r,a,ns,p,rfl,hR,q⟩:=h;obtain⟨dx,hr1⟩:=hR.obj;refine⟨_,(ai (ay (gz Od (bC (pv 0) rfl) (aK ax (by rfl) T.bP bh (aa (bC (pv 0) rfl) af)) (aM _)))),?_⟩;refine⟨_,rfl,r,_,dx,_,_,rfl,hr1,T.bw,T.b9,rfl,_,rfl,r,_,dx,_,_,rfl,hr1,T.bw,T.c8,rfl,a,_,rfl,.inl hR.nums.sq,_,_,rfl,rfl,?_⟩;have e:decide (((a_ ns).length:Int)<=(p:Int))=decide (ns.length<=p):=by
   rw[show(a_ ns).length=ns.length from List.length_map _];by_cases h:ns.length<=p
   ·rw[decide_eq_true h,decide_eq_true (by lia)]
   ·rw[decide_eq_false h,decide_eq_false (by lia)]
  show Q (.bl (decide (((a_ ns).length:Int)<=(p:Int)))) H;rw[e];exact q
def pR(K:W.Frag)(A:iL):Sp:=fun vs H Q _=>∃(r a:Addr) (ns:List Int) (p:Nat) (z:Int),vs=[.ref r]∧Read K A.bf H r a ns p∧ns[p]? = some z∧∀H':Hp,Read K A.bf H' r a ns (p+1)->oG H H' r->Q (.int z) H'
theorem Read.moved{C:Addr}{H:Hp}{r a dx:Addr}{ns:List Int}{p q:Nat}(h:Read K C H r a ns p)(hr:H r=some (.ins C dx (SH a (p:Int)))){fs:List (Str×V)}(e:fs=SH a (q:Int)):Read K C (upd H r (.ins C dx fs)) r a ns q:=by
 subst e;refine⟨⟨dx,ah⟩,h.nums.keep fun o ho=>?_⟩;have ar:a≠r:=cj ho hr (by intro z;cases z);rw[ak ar];exact ho
theorem Ld(a:Addr)(p z:Int):mJ ("place" : Str) (.int z) (SH a p)=SH a z:=rfl
theorem bo(T:Txt K mg A):a6 P w K mg base fe 1 A.cI A.cJ ["self"] (pR K A):=by
 refine T.cN.ok ki (fun vs H Q E h=>?_) (fun cdv A1 outer s H vs Q E hr h=>?_)
 ·obtain⟨r,a,ns,p,z,rfl,_⟩:=h;rfl
 ·obtain⟨r,a,ns,p,z,rfl,hR,hz,k⟩:=h;obtain⟨dx,hr1⟩:=hR.obj;refine⟨_,(ae (aI (i:=1) ki.nd rfl (Or.inl rfl) (aO aJ (bC (pv 0) rfl) (bC (pv 0) rfl) (fun _ _=>rfl)))
 (ae (D5 (pv 0) aC Oi)
 (ai (ay (pv 1))))),?_⟩
  refine⟨_,rfl,r,_,dx,_,_,rfl,hr1,T.bw,T.c8,rfl,_,rfl,r,_,dx,_,_,rfl,hr1,T.bw,T.b9,rfl,a,_,_,.int z,rfl,rfl,hR.nums.sq,at_of rfl (by rw[List.getElem?_map,hz];rfl),?_⟩;refine⟨_,rfl,r,_,dx,_,_,rfl,hr1,T.bw,T.b9,rfl,_,_,rfl,rfl,dx,_,hr1,(by show 2<1000;decide),?_⟩;refine⟨_,rfl,k _ (hR.moved hr1 ?_) fun b o hb n1=>by rw[ak n1];exact hb⟩;rw[Ld];rfl
def t6(K:W.Frag)(A:iL):Sp:=fun vs H Q _=>∃(r a:Addr) (ns:List Int) (p n:Nat),vs=[.ref r]∧Read K A.bf H r a ns p∧ns[p]? = some (n:Int)∧p+1+n<=ns.length∧
 ∀(H':Hp) (q:Addr),Read K A.bf H' r a ns (p+1+n)->oG H H' r->H q=none->H' q=some (.lst (a_ ((ns.drop (p+1)).take n)))->Q (.ref q) H'
theorem O2{ns:List Int}{i n:Nat}(h:i+n<=ns.length):IT (a_ ns) (some (i:Int)) (some ((i:Int)+(n:Int)))=a_ ((ns.drop i).take n):=by
 unfold IT;have e:(i:Int)+(n:Int)=((i+n:Nat):Int):=by lia
 rw[e,HT.KZ,HT.KZ,show(a_ ns).length=ns.length from List.length_map _,Nat.min_eq_left (show i<=ns.length by lia),Nat.min_eq_left h,show i+n - i=n by lia];unfold a_;rw[List.map_take,List.map_drop]
theorem jG(T:Txt K mg A):a6 P w K mg base fe 2 A.dR A.dS ["self"] (t6 K A):=by
 refine T.dZ.ok jE (fun vs H Q E h=>?_) (fun cdv A1 outer s H vs Q E hr h=>?_)
 ·obtain⟨r,a,ns,p,n,rfl,_⟩:=h;rfl
 ·obtain⟨r,a,ns,p,n,rfl,hR,hz,hl,k⟩:=h;obtain⟨dx,hr1⟩:=hR.obj;refine⟨_,(ae (aI (i:=1) jE.nd rfl (Or.inl rfl) (dF (pv 0) T.bw T.bj (bo T) (hr.mono (by decide)) T.bB .nil aA))
 (ae (aI (i:=2) jE.nd rfl (Or.inl rfl) (Oo Qy (bC (pv 0) rfl) (K0 (bC (pv 0) rfl)) (K0 (bL mI (bC (pv 0) rfl) (pv 1)))))
 (ae (D5 (pv 0) (pv 1) Oi)
 (ai (ay (pv 2)))))),?_⟩
  refine⟨_,rfl,r,dx,_,rfl,hr1,rfl,r,a,ns,p,(n:Int),rfl,hR,hz,fun H1 hR1 k1=>?_⟩;obtain⟨dx1,hr2⟩:=hR1.obj;refine⟨_,rfl,r,_,dx1,_,_,rfl,hr2,T.bw,T.c8,rfl,_,rfl,r,_,dx1,_,_,rfl,hr2,T.bw,T.b9,rfl,_,rfl,_,rfl,r,_,dx1,_,_,rfl,hr2,T.bw,T.b9,rfl,_,rfl,_,_,rfl,rfl,_,rfl,a,_,rfl,hR1.nums.sq,fun q hq=>?_⟩;have rq:r≠q:=ao hr2 hq;have hR2:Read K A.bf (upd H1 q (.lst (IT (a_ ns) (some ((p+1:Nat):Int)) (some (((p+1:Nat):Int)+(n:Int)))))) r a ns (p+1):=hR1.mono (aq.new hq);refine⟨_,rfl,r,_,dx1,_,_,rfl,(by rw[ak rq];exact hr2),T.bw,T.b9,rfl,_,rfl,_,_,rfl,rfl,dx1,_,(by rw[ak rq];exact hr2),(by show 2<1000;decide),?_⟩;refine⟨_,rfl,k _ q (hR2.moved (by rw[ak rq];exact hr2) ?_) (fun b o hb n1=>?_) ?_ ?_⟩
  ·rw[Ld]
   congr 1
  ·have bq:b≠q:=ao (k1 _ _ hb n1) hq;rw[ak n1,ak bq];exact k1 _ _ hb n1
  ·cases e:H q with
   | none=>rfl
   | some o=>
    rw[k1 _ _ e (Ne.symm rq)]at hq;cases hq
  ·rw[ak (Ne.symm rq),ah,O2 (by lia)]
end
end Pc
end
section
namespace Pc
open PySem PySem.Spec PyProof.Rows L2
open Vbpcan (State Piece Row Graph)
theorem ka(r:List Nat):nats r=(r.map fun(n:Nat)=>(n:Int)).map V.int:=Mh r
theorem O3{r:List Nat}{m:Int}(h:m∈r.map fun(n:Nat)=>(n:Int))(hm:∀y,y∈(r.map fun(n:Nat)=>(n:Int))->y<=m):m=((r.foldl max 0:Nat):Int):=by
 obtain⟨k,hk,rfl⟩:=List.mem_map.mp h
 congr 1
 refine(tf r 0 (fun x hx=>?_) (Nat.zero_le _) (.inl hk)).symm;have:=hm (x:Int) (List.mem_map.mpr ⟨x,hx,rfl⟩);lia
section
variable{P:Program}{w:World}{K:W.Frag}{mg:Str->Option Value}{base:Heap}{A:iL}
def Fq(K:W.Frag):Sp:=fun vs H Q _=>∃(a:Addr) (r:List Nat),vs=[.ref a]∧aP K H a (nats r)∧Q (.int (Vbpcan.tracks r:Nat)) H
theorem vo(T:Txt K mg A):a6 P w K mg base fe 1 A.lC A.lD ["row"] (Fq K):=by
 refine T.jN.ok Ff (fun vs H Q E h=>?_) (fun cdv A1 outer s H vs Q E hr h=>?_)
 ·obtain⟨a,r,rfl,_⟩:=h;rfl
 ·obtain⟨a,r,rfl,hS,q⟩:=h;refine⟨_,(ai (ay (wC rfl (by rfl) T.Hh (aa (pv 0) af) aC))),?_⟩;rw[ka]at hS;refine⟨_,rfl,a,_,rfl,hS,fun e=>?_,fun m hm hy=>?_⟩
  ·have:r=[]:=List.map_eq_nil_iff.mp e;subst this;exact q
  ·rw[O3 hm hy];exact q
def Fs:Sp:=fun vs H Q _=>∃(v u:V) (p r:Piece),vs=[v,u]∧a7 H v p∧a7 H u r∧p.l<=p.r∧r.l<=r.r∧Q (.bl (Vbpcan.clash p r)) H
theorem kh{a b:Nat}:decide (V.int (a:Int)=V.int (b:Int))=decide (a=b):=by
 rw[el];by_cases h:a=b
 ·subst h;simp
 ·rw[decide_eq_false h,decide_eq_false (by lia)]
theorem decLe{a b:Nat}:decide ((a:Int)<=(b:Int))=decide (a<=b):=by
 by_cases h:a<=b
 ·rw[decide_eq_true h,decide_eq_true (by lia)]
 ·rw[decide_eq_false h,decide_eq_false (by lia)]
theorem decLt{a b:Nat}:decide ((a:Int)<(b:Int))=decide (a<b):=by
 by_cases h:a<b
 ·rw[decide_eq_true h,decide_eq_true (by lia)]
 ·rw[decide_eq_false h,decide_eq_false (by lia)]
theorem Ft(T:Txt K mg A):a6 P w K mg base fe 1 A.lE A.lF ["piece","other"] Fs:=by
 refine T.lQ.ok Fg (fun vs H Q E h=>?_) (fun cdv A1 outer s H vs Q E hr h=>?_)
 ·obtain⟨v,u,p,r,rfl,_⟩:=h;rfl
 ·obtain⟨v,u,p,r,rfl,⟨a,rfl,ha⟩,⟨b,rfl,hb⟩,hp,hr',q⟩:=h;refine⟨_,(ai (ay (Aq (gz pB (aO cY (pv 0) aC (fun _ _=>rfl)) (aO cY (pv 1) aC (fun _ _=>rfl)) (aM _)) (Aq (gz yh (aO cY (pv 0) aC (fun _ _=>rfl)) (aO cY (pv 1) aC (fun _ _=>rfl)) (aM _)) (p8 (gz yh (aO cY (pv 1) aC (fun _ _=>rfl)) (aO cY (pv 0) aC (fun _ _=>rfl)) (aM _))))))),?_⟩;have key:Vbpcan.clash p r=(!decide (p.net=r.net) && (decide (p.l<=r.r) && decide (r.l<=p.r))):=by
   rw[Bool.eq_iff_iff,ml];simp;intro _;lia
  refine⟨_,rfl,a,_,_,_,rfl,rfl,jP.of ha,rfl,_,rfl,b,_,_,_,rfl,rfl,jP.of hb,rfl,rfl,_,rfl,bF (fun h=>?_) fun h=>?_⟩
  ·rw[kh]at h;refine⟨_,rfl,a,_,_,_,rfl,rfl,jP.of ha,rfl,_,rfl,b,_,_,_,rfl,rfl,jP.of hb,rfl,_,_,rfl,rfl,_,rfl,bF (fun h'=>?_) fun h'=>?_⟩
   ·rw[decLe]at h';refine⟨_,rfl,b,_,_,_,rfl,rfl,jP.of hb,rfl,_,rfl,a,_,_,_,rfl,rfl,jP.of ha,rfl,_,_,rfl,rfl,?_⟩;show Q (.bl (decide ((r.l:Int)<=(p.r:Int)))) H;rw[key,h,h']at q;rw[decLe];exact q
   ·rw[decLe]at h';rw[key,h,h']at q;exact q
  ·rw[kh]at h;rw[key,h]at q;exact q
def Jv:Sp:=fun vs H Q _=>∃(v u:V) (p r:Piece),vs=[v,u]∧a7 H v p∧a7 H u r∧Q (.bl (fits (some r) p)) H
theorem Jw(T:Txt K mg A):a6 P w K mg base fe 1 A.oh A.oi ["piece","before"] Jv:=by
 refine T.oB.ok Jk (fun vs H Q E h=>?_) (fun cdv A1 outer s H vs Q E hr h=>?_)
 ·obtain⟨v,u,p,r,rfl,_⟩:=h;rfl
 ·obtain⟨v,u,p,r,rfl,⟨a,rfl,ha⟩,⟨b,rfl,hb⟩,q⟩:=h;refine⟨_,(ai (ay (KN (gz uL (aO cY (pv 1) aC (fun _ _=>rfl)) (aO cY (pv 0) aC (fun _ _=>rfl)) (aM _)) (p8 (Aq (gz bW (aO cY (pv 1) aC (fun _ _=>rfl)) (aO cY (pv 0) aC (fun _ _=>rfl)) (aM _)) (p8 (gz bW (aO cY (pv 1) aC (fun _ _=>rfl)) (aO cY (pv 0) aC (fun _ _=>rfl)) (aM _)))))))),?_⟩;have key:fits (some r) p=(decide (r.r<p.l) || (decide (r.r=p.l) && decide (r.net=p.net))):=by
   unfold fits;rw[Bool.eq_iff_iff];simp[and_comm]
  refine⟨_,rfl,b,_,_,_,rfl,rfl,jP.of hb,rfl,_,rfl,a,_,_,_,rfl,rfl,jP.of ha,rfl,_,_,rfl,rfl,_,rfl,bF (fun h=>?_) fun h=>?_⟩
  ·rw[decLt]at h;rw[key,h]at q;exact q
  ·rw[decLt]at h;refine⟨_,rfl,b,_,_,_,rfl,rfl,jP.of hb,rfl,_,rfl,a,_,_,_,rfl,rfl,jP.of ha,rfl,rfl,_,rfl,bF (fun h'=>?_) fun h'=>?_⟩
   ·rw[kh]at h';refine⟨_,rfl,b,_,_,_,rfl,rfl,jP.of hb,rfl,_,rfl,a,_,_,_,rfl,rfl,jP.of ha,rfl,rfl,?_⟩;rw[kh];rw[key,h,h']at q;exact q
   ·rw[kh]at h';rw[key,h,h']at q;exact q
def jH(H:Hp)(v:V)(zs:List Int):Prop:=∃b,v=.ref b∧H b=some (.tup (a_ zs))
theorem jH.mono:qk jH:=fun _ _ _ _ e ⟨b,h1,h2⟩=>⟨b,h1,e _ _ h2⟩
def Fu:Sp:=fun vs H Q _=>∃(v:V) (n a b c d:Int),vs=[v]∧jH H v [n,a,b,c,d]∧Q (.int (c - a+(d - b))) H
theorem Fv(T:Txt K mg A):a6 P w K mg base fe 1 A.lN A.lO ["wire"] Fu:=by
 refine T.lT.ok Fh (fun vs H Q E h=>?_) (fun cdv A1 outer s H vs Q E hr h=>?_)
 ·obtain⟨v,n,a,b,c,d,rfl,_⟩:=h;rfl
 ·obtain⟨v,n,a,b,c,d,rfl,⟨p,rfl,hp⟩,q⟩:=h;refine⟨_,(ai (ay (bL mI (bL wk (aO cY (pv 0) aC (fun _ _=>rfl)) (aO cY (pv 0) aC (fun _ _=>rfl))) (bL wk (aO cY (pv 0) aC (fun _ _=>rfl)) (aO cY (pv 0) aC (fun _ _=>rfl)))))),?_⟩;exact⟨_,rfl,p,_,_,_,rfl,rfl,jP.of hp,rfl,_,rfl,p,_,_,_,rfl,rfl,jP.of hp,rfl,_,_,rfl,rfl,_,rfl,p,_,_,_,rfl,rfl,jP.of hp,rfl,_,rfl,p,_,_,_,rfl,rfl,jP.of hp,rfl,_,_,rfl,rfl,_,_,rfl,rfl,q⟩
def qR(z:Int):Bool:=Vbpcan.within z 1 200
def MF(K:W.Frag):Sp:=fun vs H Q _=>∃(a:Addr) (zs:List Int) (n:Nat),vs=[.ref a,iN n]∧aP K H a (a_ zs)∧zs.length<=31000∧Fn H Q (.bl (decide (zs.length=n) && zs.all qR))
theorem MG(T:Txt K mg A):a6 P w K mg base fe 1 A.qC A.qD ["row","count"] (MF K):=by
 refine T.qL.ok wJ (fun vs H Q E h=>?_) (fun cdv A1 outer s H vs Q E hr h=>?_)
 ·obtain⟨a,zs,n,rfl,_⟩:=h;rfl
 ·obtain⟨a,zs,n,rfl,hS,hl,q⟩:=h;refine⟨_,(ai (ay (Aq (gz bW (aK ax (by rfl) T.bP bh (aa (pv 0) af)) (pv 1) (aM _)) (p8 (aK (E5 rfl) (by rfl) T.Lb Fb (aa (fq rfl wJ.nd (aX (pv 0)) (own:=[("track",2)]) (aW (show gu ["row","count","track"] (aj uT) _ _=true from by decide +kernel)) (fun _ _ _ _ _=>(aG (i:=2) wJ.nd rfl (Or.inl rfl) (.inr rfl))) (fun _ _ _ _ _=>bX) (fun _ _ _ _ _=>(Au yh yh (aL (v:=.int 1) rfl T.sQ.choose_spec ⟨_,rfl⟩) (pv 2) (aL (v:=.int 200) rfl T.wZ.choose_spec ⟨_,rfl⟩)))) af)))))),?_⟩;have lz:(a_ zs).length=zs.length:=List.length_map _;refine⟨_,rfl,a,_,rfl,.inl hS,_,rfl,rfl,_,rfl,bF (fun h=>?_) fun h=>?_⟩
  ·rw[kh,lz]at h;refine⟨_,rfl,a,rfl,⟨_,hS⟩,fun D hD=>bx (R:=pE) pE.mono (ys:=zs) (by simp) (fun z=>some (qR z)) hD (by lia) hS (fun i v z H1 Yes No hv hz sm hDd yes no=>?_) fun H1 sm L=>?_⟩
   ·obtain⟨x,hx,rfl⟩:=K9 hv;rw[hz]at hx;cases hx;have key:qR z=(decide (1<=z) && decide (z<=200)):=by
     unfold qR Vbpcan.within;rw[Bool.eq_iff_iff];simp
    refine⟨rfl,nP ⟨_,rfl,_,_,rfl,rfl,_,rfl,bF (fun h'=>?_) fun h'=>?_⟩⟩
    ·exact⟨_,_,rfl,rfl,yes _ _ _ rfl (aq.refl _) (by rw[key,h'];rfl)⟩
    ·exact yes _ _ _ rfl (aq.refl _) (by rw[key,h'];rfl)
   ·rw[filterMap_some]at L;refine⟨D,_,rfl,aP.of (rN L),?_⟩;have e:(zs.map qR).all id=zs.all qR:=by rw[List.all_map];rfl
    rw[h]at q;rw[e];exact q _ sm
  ·rw[kh,lz]at h;rw[h]at q;exact q _ (aq.refl _)
def Fw(K:W.Frag):Sp:=fun vs H Q _=>∃(a:Addr) (s:State) (n c:Nat),vs=[.ref a,iN n,iN c]∧bS a7 H a (Vbpcan.pieces s)∧(Vbpcan.pieces s).length<=96∧Bg H Q (aT s n c)
def Ss(s:State)(n c k:Nat):Bool:=match (Vbpcan.pieces s)[k]? with
 | some p=>p.net == n && Vbpcan.covers p c
 | none=>false
theorem aV(i:Nat):(0:Int)+(i:Int)=(i:Int):=by lia
theorem mh(T:Txt K mg A):a6 P w K mg base fe 1 A.k9 A.k_ ["pieces","net","column"] (Fw K):=by
 refine T.fg.ok oY (fun vs H Q E h=>?_) (fun cdv A1 outer s H vs Q E hr h=>?_)
 ·obtain⟨a,st,n,c,rfl,_⟩:=h;rfl
 ·obtain⟨a,st,n,c,rfl,⟨vs,ha,hE⟩,hl,q⟩:=h;refine⟨_,(ai (ay (fq rfl oY.nd (b_ rfl T.c4 (aa (aK ax (by rfl) T.bP bh (aa (pv 0) af)) af)) (own:=[("k",3)]) (aW (show gu ["pieces","net","column","k"] (aj nv) _ _=true from by decide +kernel)) (fun _ _ _ _ _=>(aG (i:=3) oY.nd rfl (Or.inl rfl) (.inr rfl))) (fun _ _ _ _ _=>(jr (PW.pt (oQ (aH bW (aO (r:=EZ K) cY (aO (r:=jQ K) aJ (pv 0) (pv 3) (fun _ _=>rfl)) aC (fun _ _=>rfl)) (pv 1) (aM _)) (ma (Of yh yh (aO (r:=EZ K) cY (aO (r:=jQ K) aJ (pv 0) (pv 3) (fun _ _=>rfl)) aC (fun _ _=>rfl)) (pv 2) (aO (r:=EZ K) cY (aO (r:=jQ K) aJ (pv 0) (pv 3) (fun _ _=>rfl)) aC (fun _ _=>rfl)))))))) (fun _ _ _ _ _=>(pv 3))))),?_⟩;have lv:=hE.1;have ej:((vs.length:Nat):Int).toNat=(Vbpcan.pieces st).length:=by lia
  refine⟨_,rfl,a,_,rfl,.inl (aP.of ha),_,rfl,by lia,by lia,fun D hD=>?_⟩;rw[ej];refine kr (R:=eh) eh.mono (fun k=>if Ss st n c k=true then some k else none) hD (by lia) (fun i H1 Yes No hi sm hDd yes no=>?_) fun H1 sm L=>?_
  ·obtain⟨p,hp⟩:∃p,(Vbpcan.pieces st)[i]? = some p:=⟨_,List.getElem?_eq_getElem hi⟩;obtain⟨v,hv,b,rfl,hb⟩:=hE.2 i p hp;have ha1:=sm _ _ ha;have hb1:=sm _ _ hb;have eB:Ss st n c i=(decide (p.net=n) && (decide (p.l<=c) && decide (c<=p.r))):=by
    unfold Ss;rw[hp];rw[Bool.eq_iff_iff];simp[Vbpcan.covers]
   rw[eB]at yes no;have ix:EX vs (0+(i:Int))=some (.ref b):=at_of (aV i) hv;refine⟨rfl,_,rfl,_,rfl,a,_,_,_,rfl,rfl,aP.of ha1,ix,b,_,_,_,rfl,rfl,jP.of hb1,rfl,_,rfl,rfl,_,rfl,?_⟩;refine Hi (b2:=decide (p.l<=c) && decide (c<=p.r)) (Q:=fun b=>if b=true then _ else _) (fun hq=>⟨_,rfl,_,rfl,a,_,_,_,rfl,rfl,aP.of ha1,ix,b,_,_,_,rfl,rfl,jP.of hb1,rfl,_,rfl,_,_,rfl,rfl,_,rfl,?_⟩) ?_
   ·refine bF (fun h1=>?_) fun h1=>?_
    ·rw[decLe]at h1;refine⟨_,rfl,_,rfl,a,_,_,_,rfl,rfl,aP.of ha1,ix,b,_,_,_,rfl,rfl,jP.of hb1,rfl,_,_,rfl,rfl,_,rfl,?_⟩;rw[h1]at hq;show if decide ((c:Int)<=(p.r:Int))=true then _ else _
     rw[decLe];exact hq
    ·rw[decLe]at h1;rw[h1]at hq;exact⟨_,rfl,hq⟩
   ·rw[kh];refine bF (fun h=>?_) fun h=>?_
    ·rw[h]at yes;exact⟨_,rfl,yes i _ _ rfl (aq.refl _) (by show V.int (0+(i:Int))=V.int (i:Int);rw[aV])⟩
    ·rw[h]at no;exact no _ rfl (aq.refl _)
  ·rw[dG]at L;exact q _ _ sm hD (bY L)
end
end Pc
end
section
namespace Pc
open PySem PySem.Spec PyProof.Rows L2
open Vbpcan (State Piece Row Graph)
theorem xa{α:Type}{l:List (List α)}{i:Nat}{x:List α}(h:l[i]? = some x):(l.take (i+1)).flatten=(l.take i).flatten++x:=by
 rw[aQ h,List.flatten_append];simp
theorem vv{α:Type}(l:List (List α))(i:Nat):(l.take i).flatten.length<=l.flatten.length:=by
 conv=>rhs;rw[<-List.take_append_drop i l,List.flatten_append,List.length_append]
 lia
theorem ints_app(a b:List Int):a_ a++a_ b=a_ (a++b):=by
 unfold a_;rw[List.map_append]
theorem iA(a:List Int):(a_ a).length=a.length:=List.length_map _
theorem aB(a:List Nat):(nats a).length=a.length:=List.length_map _
section
variable{P:Program}{w:World}{K:W.Frag}{mg:Str->Option Value}{base:Heap}{A:iL}
def Jx:Sp:=fun vs H Q _=>∃(a:Addr) (zss:List (List Int)),vs=[.ref a]∧bS yo H a zss∧zss.flatten.length<=10000000∧Jp H Q ((zss.length:Int)::zss.flatten)
theorem dq(T:Txt K mg A):a6 P w K mg base fe 1 A.ow A.ox ["told"] Jx:=by
 refine T.cz.ok tL (fun vs H Q E h=>?_) (fun cdv A1 outer s H vs Q E hr h=>?_)
 ·obtain⟨a,zss,rfl,_⟩:=h;rfl
 ·obtain⟨a,zss,rfl,⟨vs,ha,hE⟩,hl,q⟩:=h;refine⟨_,(ae (aI (i:=1) tL.nd rfl (Or.inl rfl) (bE (aa (aK ax (by rfl) T.bP bh (aa (pv 0) af)) af)))
 (
 ae (cF PassesOwn.never rfl (aX (pv 0)) (aG (i:=2) tL.nd rfl (Or.inl rfl))
 (ai (br (jU (aK (OI (T:="tuple")) (by rfl) T.Fm Cw (aa (pv 2) (aa (Qn (v:=.ty "tuple") (by rfl) T.QU OG rfl) af)))) (ai (cA (jK F.plainAttrs_list F.slot_list_extend F.type_list_extend Jf (pv 1) (aa (pv 2) af)))) (ai (cA (jK F.plainAttrs_list F.slot_list_append F.type_list_append cP (pv 1) (aa (pv 2) af)))))))
 (ai (ay (pv 1))))),?_⟩
  have lv:=hE.1;refine⟨_,rfl,a,_,rfl,.inl (aP.of ha),(by show 1<=sizeLine;decide),fun l hl0=>?_⟩;have al:a≠l:=ao ha hl0;have s0:aq H (upd H l (.lst [.int vs.length])):=aq.new hl0;refine⟨_,rfl,a,rfl,⟨_,aP.of (s0 _ _ ha)⟩,cU (K:=K) (a:=a) (xs:=vs) (fun i σ H'=>∃v:Option V,σ=[some (.ref a),some (.ref l),v]∧aq H H'∧H' l=some (.lst (a_ ((zss.length:Int)::(zss.take i).flatten))))
   ⟨none,rfl,s0,by rw[ah,lv];rfl⟩ (fun i σ H' _ ⟨_,_,sm,_⟩=>aP.of (sm _ _ ha)) ?_ ?_⟩
  ·rintro i x σ H' hi ⟨v,rfl,sm,hl'⟩
   obtain⟨zs,hz,hR⟩:=hE.get hi;have bound:=vv zss (i+1);rw[xa hz,List.length_append]at bound;have fin:∀H2,H2=upd H' l (.lst (a_ ((zss.length:Int)::(zss.take i).flatten)++a_ zs))->∃v:Option V,[some (.ref a),some (.ref l),some x]=[some (V.ref a),some (.ref l),v]∧aq H H2∧H2 l=some (.lst (a_ ((zss.length:Int)::(zss.take (i+1)).flatten))):=fun H2 e=>by
    subst e;refine⟨_,rfl,aq.put sm hl0,?_⟩;rw[ah,ints_app,xa hz];rfl
   rcases hR with ⟨z,rfl,rfl⟩ | ⟨b,rfl,hb⟩
   ·refine⟨_,rfl,.int z,_,_,rfl,tD.int z,rfl,_,rfl,uQ ?_⟩;refine⟨_,rfl,.inl ⟨rfl,_,aP.of hl'⟩,_,rfl,l,_,_,rfl,rfl,hl',small (by rw[iA,List.length_cons];lia),fin _ rfl⟩
   ·have hb':=sm _ _ hb;refine⟨_,rfl,.ref b,_,_,rfl,tD.tup hb',rfl,_,rfl,rX ?_⟩;refine⟨_,rfl,.inl ⟨rfl,_,aP.of hl'⟩,_,rfl,l,b,_,_,rfl,rfl,hl',jP.of hb',jy (by rw[iA,iA,List.length_cons];lia),fin _ rfl⟩
  ·rintro σ H' ⟨v,rfl,sm,hl'⟩
   rw[lv,List.take_length]at hl';exact⟨_,rfl,q _ _ sm hl0 hl'⟩
theorem oH{H:Hp}{a:Addr}{l:List Nat}(h:H a=some (.lst (nats l))):bS yo H a (l.map fun(n:Nat)=>[(n:Int)]):=by
 refine⟨_,h,by rw[aB,List.length_map],fun i x hx=>?_⟩;rw[List.getElem?_map,Option.map_eq_some_iff]at hx;obtain⟨n,hn,rfl⟩:=hx;exact⟨_,AO hn,.inl ⟨_,rfl,rfl⟩⟩
theorem MH{H:Hp}{a:Addr}{l:List Int}(h:H a=some (.lst (a_ l))):bS yo H a (l.map fun n=>[n]):=by
 refine⟨_,h,by rw[iA,List.length_map],fun i x hx=>?_⟩;rw[List.getElem?_map,Option.map_eq_some_iff]at hx;obtain⟨n,hn,rfl⟩:=hx;exact⟨_,by rw[List.getElem?_map,hn];rfl,.inl ⟨_,rfl,rfl⟩⟩
theorem du{α:Type}(f:α->Int)(l:List α):(l.map fun n=>[f n]).flatten=l.map f:=by
 induction l with
 | nil=>rfl
 | cons x l ih=>simp[ih]
theorem Hm{α:Type}{R:Hp->V->α->Prop}{f:α->List Int}{H:Hp}{a:Addr}{l:List α}(hf:∀v x,R H v x->yo H v (f x))(h:bS R H a l):bS yo H a (l.map f):=by
 obtain⟨vs,h1,h2⟩:=h;refine⟨vs,h1,by rw[h2.1,List.length_map],fun i x hx=>?_⟩;rw[List.getElem?_map,Option.map_eq_some_iff]at hx;obtain⟨n,hn,rfl⟩:=hx;obtain⟨v,hv,hr⟩:=h2.2 i n hn;exact⟨v,hv,hf v n hr⟩
theorem c6(l:List Nat):Vbpcan.counted Vbpcan.one l=(l.length:Int)::l.map fun(n:Nat)=>(n:Int):=by
 unfold Vbpcan.counted
 congr 1
 induction l with
 | nil=>rfl
 | cons x l ih=>
  rw[List.flatMap_cons,List.map_cons,ih];rfl
theorem Jy(r:List Nat):Vbpcan.rowNums r=(Vbpcan.tracks r:Int)::((r.length:Int)::r.map fun(n:Nat)=>(n:Int)):=by
 unfold Vbpcan.rowNums;rw[c6]
def MI:Sp:=fun vs H Q _=>∃(a:Addr) (r:List Nat),vs=[.ref a]∧H a=some (.lst (nats r))∧r.length<=96∧Jp H Q (Vbpcan.rowNums r)
theorem xc(T:Txt K mg A):a6 P w K mg base fe 2 A.qH A.qI ["row"] MI:=by
 refine T.mZ.ok Mr (fun vs H Q E h=>?_) (fun cdv A1 outer s H vs Q E hr h=>?_)
 ·obtain⟨a,r,rfl,_⟩:=h;rfl
 ·obtain⟨a,r,rfl,ha,hl,q⟩:=h;refine⟨_,(ai (ay (bL tE (bE (aa (au (vo T) (hr.mono (by decide)) rfl T.yq T.jN.kp T.yp .nil aA (aa (pv 0) af)) af)) (au (dq T) (hr.mono (by decide)) rfl T.eS T.cz.kp T.eR .nil aA (aa (pv 0) af))))),?_⟩;refine⟨_,rfl,a,r,rfl,aP.of ha,(by show 1<=sizeLine;decide),fun l hl0=>?_⟩;have s0:aq H (upd H l (.lst [.int (Vbpcan.tracks r:Nat)])):=aq.new hl0;refine⟨_,rfl,a,_,rfl,oH (s0 _ _ ha),(by rw[du,List.length_map];lia),fun H1 b sm1 hb e1=>?_⟩;have hl1:=sm1 _ _ (ah (H:=H) (a:=l) (o:=.lst [.int (Vbpcan.tracks r:Nat)]));refine⟨l,b,_,_,rfl,rfl,hl1,e1,?_,fun p hp=>?_⟩
  ·rw[iA,List.length_cons,List.length_cons,du,List.length_map];exact jy (by simp;lia)
  ·refine q _ p ((s0.trans sm1).trans (aq.new hp)) ((s0.trans sm1).free hp) ?_;rw[ah,du,List.length_map];rw[Jy];rfl
def sR(w:Vbpcan.Wire):List Int:=Vbpcan.wireNums w
def Bq:Sp:=fun vs H Q _=>∃(a b:Addr) (s:State) (r:List Nat),vs=[.ref a,.ref b]∧bS a7 H a (Vbpcan.pieces s)∧H b=some (.lst (nats r))∧r.length=(Vbpcan.pieces s).length∧r.length<=96∧Bh jH H Q ((Vbpcan.across s r).map sR)
theorem vw{n m:Nat}(h:n=m):((n:Nat):Int).toNat=m:=by lia
theorem qS(T:Txt K mg A):a6 P w K mg base fe 1 A.i4 A.i5 ["pieces","row"] Bq:=by
 refine T.gr.ok mS (fun vs H Q E h=>?_) (fun cdv A1 outer s H vs Q E hr h=>?_)
 ·obtain⟨a,b,st,r,rfl,_⟩:=h;rfl
 ·obtain⟨a,b,st,r,rfl,⟨vs,ha,hE⟩,hb,hlr,hl,q⟩:=h;refine⟨_,(ai (ay (fq rfl mS.nd (b_ rfl T.c4 (aa (aK ax (by rfl) T.bP bh (aa (pv 0) af)) af)) (own:=[("k",2)]) (aW (show gu ["pieces","row","k"] (aj kQ) _ _=true from by decide +kernel)) (fun _ _ _ _ _=>(aG (i:=2) mS.nd rfl (Or.inl rfl) (.inr rfl))) (fun _ _ _ _ _=>bX) (fun _ _ _ _ _=>(iJ (aa (aO (r:=EZ K) cY (aO (r:=jQ K) aJ (pv 0) (pv 2) (fun _ _=>rfl)) aC (fun _ _=>rfl)) (aa (aO (r:=EZ K) cY (aO (r:=jQ K) aJ (pv 0) (pv 2) (fun _ _=>rfl)) aC (fun _ _=>rfl)) (aa (aO (r:=jQ K) aJ (pv 1) (pv 2) (fun _ _=>rfl)) (aa (aO (r:=EZ K) cY (aO (r:=jQ K) aJ (pv 0) (pv 2) (fun _ _=>rfl)) aC (fun _ _=>rfl)) (aa (aO (r:=jQ K) aJ (pv 1) (pv 2) (fun _ _=>rfl)) af)))))))))),?_⟩;have lv:=hE.1;refine⟨_,rfl,a,_,rfl,.inl (aP.of ha),_,rfl,by lia,by lia,fun D hD=>?_⟩;rw[vw lv];refine kr (R:=jH) jH.mono (fun k=>some (sR (let p:=(Vbpcan.pieces st).getD k ⟨0,0,0⟩;⟨p.net,p.l,Vbpcan.trackOf r k,p.r,Vbpcan.trackOf r k⟩))) hD (by lia) (fun i H1 Yes No hi sm hDd yes no=>?_) fun H1 sm L=>?_
  ·obtain⟨p,hp⟩:∃p,(Vbpcan.pieces st)[i]? = some p:=⟨_,List.getElem?_eq_getElem hi⟩;obtain⟨v,hv,c,rfl,hc⟩:=hE.2 i p hp;have ix:EX vs (0+(i:Int))=some (.ref c):=at_of (aV i) hv;have hri:r[i]? = some (Vbpcan.trackOf r i):=by
    have:i<r.length:=by lia
    unfold Vbpcan.trackOf;rw[List.getD_eq_getElem?_getD,List.getElem?_eq_getElem this];rfl
   have ir:EX (nats r) (0+(i:Int))=some (iN (Vbpcan.trackOf r i)):=a5 (aV i) hri;have ha1:=sm _ _ ha;have hb1:=sm _ _ hb;have hc1:=sm _ _ hc;refine⟨rfl,nP ⟨_,rfl,_,rfl,a,_,_,_,rfl,rfl,aP.of ha1,ix,c,_,_,_,rfl,rfl,jP.of hc1,rfl,_,rfl,_,rfl,a,_,_,_,rfl,rfl,aP.of ha1,ix,c,_,_,_,rfl,rfl,jP.of hc1,rfl,
    _,rfl,_,rfl,b,_,_,_,rfl,rfl,aP.of hb1,ir,_,rfl,_,rfl,a,_,_,_,rfl,rfl,aP.of ha1,ix,c,_,_,_,rfl,rfl,jP.of hc1,rfl,_,rfl,_,rfl,b,_,_,_,rfl,rfl,aP.of hb1,ir,(by show 5<=sizeLine;decide),fun t ht=>?_⟩⟩
   refine yes _ _ _ rfl (aq.new ht) ⟨t,rfl,?_⟩;rw[mM hDd ht,List.getD_eq_getElem?_getD,hp];rfl
  ·rw[filterMap_some]at L;refine q _ _ sm hD ?_;rw[LB hlr,List.map_map];exact L
end
end Pc
end
section
namespace Pc
open PySem PySem.Spec PyProof.Rows L2
open Vbpcan (State Piece Row Graph)
theorem QV(a b:Nat):Builtin.bitAnd (a:Int) (b:Int)=((a &&& b:Nat):Int):=by
 unfold Builtin.bitAnd;rw[decide_eq_true (show(0:Int)<=(a:Int) by lia),decide_eq_true (show(0:Int)<=(b:Int) by lia)];simp
theorem UX(a b:Nat):Builtin.bitOr (a:Int) (b:Int)=((a ||| b:Nat):Int):=by
 unfold Builtin.bitOr;have e1:Builtin.bitNot (a:Int)=-(a:Int) - 1:=rfl;have e2:Builtin.bitNot (b:Int)=-(b:Int) - 1:=rfl;unfold Builtin.bitAnd;rw[e1,e2,decide_eq_false (show ¬(0:Int)<=-(a:Int) - 1 by lia),decide_eq_false (show ¬(0:Int)<=-(b:Int) - 1 by lia)];have e3:(Builtin.bitNot (-(a:Int) - 1)).toNat=a:=by show(-(-(a:Int) - 1) - 1).toNat=a;lia
 have e4:(Builtin.bitNot (-(b:Int) - 1)).toNat=b:=by show(-(-(b:Int) - 1) - 1).toNat=b;lia
 show Builtin.bitNot (Builtin.bitNot (((Builtin.bitNot (-(a:Int) - 1)).toNat ||| (Builtin.bitNot (-(b:Int) - 1)).toNat:Nat):Int))=_;rw[e3,e4];show -(-((a ||| b:Nat):Int) - 1) - 1=_;lia
theorem shl(k:Nat):(1:Int) * 2 ^ ((k:Int)).toNat=((2 ^ k:Nat):Int):=by
 rw[Int.toNat_natCast];simp
theorem Fx(t k:Nat):((Builtin.bitAnd (t:Int) ((2 ^ k:Nat):Int)) != 0)=t.testBit k:=by
 rw[QV,Bool.eq_iff_iff];have:(((t &&& 2 ^ k:Nat):Int) != 0)=(t &&& 2 ^ k != 0):=by
  by_cases h:t &&& 2 ^ k=0
  ·rw[h];rfl
  ·have h':((t &&& 2 ^ k:Nat):Int)≠0:=by lia
   rw[bne_iff_ne.mpr h,bne_iff_ne.mpr h']
 rw[this,EO];constructor
 ·rintro ⟨u,h1,h2⟩
  rw[Nat.testBit_two_pow]at h2;have:k=u:=by simpa using h2
  rw[this];exact h1
 ·intro h;exact⟨k,h,by rw[Nat.testBit_two_pow];simp⟩
theorem rS:∀l:List Nat,(l.map fun(n:Nat)=>(n:Int)).sum=((l.sum:Nat):Int)
 | []=>rfl
 | x::l=>by
  rw[List.map_cons,List.sum_cons,List.sum_cons,rS l];lia
section
variable{α:Type}{R:Hp->V->α->Prop}
theorem Cm.ext(m:qk R){H1 H H4:Hp}{D b:Addr}{xs ys:List α}(hD:H1 D=none)(L:Cm R H1 D xs H)(e:aq H H4)(hb:bS R H4 b ys)(hR:∀v x,R H4 v x->R (hole H4 D) v x)(hl:xs.length+ys.length<=16000000) :
  ∃as bs,H4 D=some (.lst as)∧H4 b=some (.lst bs)∧as.length+bs.length<=sizeLine∧Cm R H1 D (xs++ys) (upd H4 D (.lst (as++bs))):=by
 obtain⟨vs,h1,h2⟩:=L.acc;obtain⟨ws,h3,h4⟩:=hb;refine⟨vs,ws,e _ _ h1,h3,jy (by rw[h2.1,h4.1];exact hl),⟨vs++ws,ah,?_⟩,fun c o q=>?_⟩
 ·rw[GY];exact(h2.mono m (wD e)).app ⟨h4.1,fun i x hx=>let ⟨v,q1,q2⟩:=h4.2 i x hx;⟨v,q1,hR _ _ q2⟩⟩
 ·rw[ak (ao q hD)];exact e _ _ (L.same _ _ q)
end
theorem jH.hole{H:Hp}{D:Addr}{as:List V}{v:V}{zs:List Int}(hD:H D=some (.lst as))(h:jH H v zs):jH (hole H D) v zs:=by
 obtain⟨b,h1,h2⟩:=h;exact⟨b,h1,by rw[cC (cj h2 hD (by intro z;cases z))];exact h2⟩
theorem bN.hole{H:Hp}{D:Addr}{as:List V}{v:V}{e:Nat×Nat}(hD:H D=some (.lst as))(h:bN H v e):bN (hole H D) v e:=by
 obtain⟨b,h1,h2⟩:=h;exact⟨b,h1,by rw[cC (cj h2 hD (by intro z;cases z))];exact h2⟩
theorem a7.hole{H:Hp}{D:Addr}{as:List V}{v:V}{e:Piece}(hD:H D=some (.lst as))(h:a7 H v e):a7 (hole H D) v e:=by
 obtain⟨b,h1,h2⟩:=h;exact⟨b,h1,by rw[cC (cj h2 hD (by intro z;cases z))];exact h2⟩
theorem cE{l:List Nat}{k:Nat}(h:k<l.length):l[k]? = some (Vbpcan.at_ l k):=by
 unfold Vbpcan.at_;rw[List.getD_eq_getElem?_getD,List.getElem?_eq_getElem h];rfl
section
variable{P:Program}{w:World}{K:W.Frag}{mg:Str->Option Value}{base:Heap}{A:iL}
def Jz(A:iL):Sp:=fun vs H Q _=>∃(c u l:Addr) (s:State) (k:Nat),vs=[.ref c,iN k]∧ff A.aw H c u l s∧k<s.top.length∧Bg H Q (ed s k)
theorem Br(T:Txt K mg A):a6 P w K mg base fe 1 A.ot A.ou ["channel","column"] (Jz A):=by
 refine T.mx.ok kD (fun vs H Q E h=>?_) (fun cdv A1 outer s H vs Q E hr h=>?_)
 ·obtain⟨c,u,l,st,k,rfl,_⟩:=h;rfl
 ·obtain⟨c,u,l,st,k,rfl,hC,hk,q⟩:=h;obtain⟨dx,hc⟩:=hC.obj;refine⟨_,(ae (aI (i:=2) kD.nd rfl (Or.inl rfl) (aO aJ (bC (pv 0) rfl) (pv 1) (fun _ _=>rfl)))
 (ae (aI (i:=3) kD.nd rfl (Or.inl rfl) (aO aJ (bC (pv 0) rfl) (pv 1) (fun _ _=>rfl)))
 (ae (aI (i:=4) kD.nd rfl (Or.inl rfl) (Gu (aH bW (pv 2) (pv 3) (aM _)) (bE (aa (pv 2) af)) (bE (aa (pv 2) (aa (pv 3) af)))))
 (ai (ay (fq rfl kD.nd (aX (pv 4)) (own:=[("net",5)]) (aW (show gu ["channel","column","upper_net","lower_net","nets","net"] (aj rR) _ _=true from by decide +kernel)) (fun _ _ _ _ _=>(aG (i:=5) kD.nd rfl (Or.inl rfl) (.inr rfl))) (fun _ _ _ _ _=>(jr (aH pB (pv 5) (aL (v:=.int 0) rfl T.u9.choose_spec ⟨_,rfl⟩) (aM _)))) (fun _ _ _ _ _=>(pv 5)))))))),?_⟩
  have iu:=a5 (z:=(k:Int)) rfl (cE hk);have il:=a5 (z:=(k:Int)) rfl (cE (show k<st.low.length by rw[hC.fit.len];exact hk));refine⟨_,rfl,c,_,dx,_,_,rfl,hc,T.aF,T.az,rfl,_,rfl,u,_,_,_,rfl,rfl,aP.of hC.up,iu,?_⟩;refine⟨_,rfl,c,_,dx,_,_,rfl,hc,T.aF,T.aN,rfl,_,rfl,l,_,_,_,rfl,rfl,aP.of hC.lo,il,?_⟩;refine⟨_,rfl,_,rfl,rfl,_,rfl,bF (fun h=>?_) fun h=>?_⟩
  ·rw[kh,decide_eq_true_eq]at h;rw[DY,if_pos h]at q;refine⟨_,rfl,(by show 1<=sizeLine;decide),fun x hx=>?_⟩;refine⟨_,rfl,x,rfl,⟨_,aP.of ah⟩,fun D hD=>bx (R:=eh) eh.mono (ys:=[Vbpcan.at_ st.top k]) rfl (fun n=>if (n != 0)=true then some n else none) hD (by show 1<=15000000;decide) (aP.of (by exact ah (o:=.lst (nats [Vbpcan.at_ st.top k])))) (fun i v n H1 Yes No hv hn sm hDd yes no=>?_) fun H1 sm L=>?_⟩
   ·obtain⟨y,hy,rfl⟩:=bJ (l:=[Vbpcan.at_ st.top k]) hv;rw[hn]at hy;cases hy;refine⟨rfl,_,rfl,rfl,_,rfl,bF (fun h'=>?_) fun h'=>?_⟩
    ·have e:(n != 0)=true:=by rw[el]at h';simp at h';simpa using h'
     rw[e]at yes;exact⟨_,rfl,yes _ _ _ rfl (aq.refl _) rfl⟩
    ·have e:(n != 0)=false:=by rw[el]at h';simp at h';simpa using h'
     rw[e]at no;exact no _ rfl (aq.refl _)
   ·rw[dG]at L;exact q _ _ ((aq.new hx).trans sm) ((aq.new hx).free hD) (bY L)
  ·rw[kh,decide_eq_false_iff_not]at h;rw[DY,if_neg h]at q;refine⟨_,rfl,_,rfl,(by show 2<=sizeLine;decide),fun x hx=>?_⟩;refine⟨_,rfl,x,rfl,⟨_,aP.of ah⟩,fun D hD=>bx (R:=eh) eh.mono (ys:=[Vbpcan.at_ st.top k,Vbpcan.at_ st.low k]) rfl (fun n=>if (n != 0)=true then some n else none) hD (by show 2<=15000000;decide) (aP.of (by exact ah (o:=.lst (nats [Vbpcan.at_ st.top k,Vbpcan.at_ st.low k])))) (fun i v n H1 Yes No hv hn sm hDd yes no=>?_) fun H1 sm L=>?_⟩
   ·obtain⟨y,hy,rfl⟩:=bJ (l:=[Vbpcan.at_ st.top k,Vbpcan.at_ st.low k]) hv;rw[hn]at hy;cases hy;refine⟨rfl,_,rfl,rfl,_,rfl,bF (fun h'=>?_) fun h'=>?_⟩
    ·have e:(n != 0)=true:=by rw[el]at h';simp at h';simpa using h'
     rw[e]at yes;exact⟨_,rfl,yes _ _ _ rfl (aq.refl _) rfl⟩
    ·have e:(n != 0)=false:=by rw[el]at h';simp at h';simpa using h'
     rw[e]at no;exact no _ rfl (aq.refl _)
   ·rw[dG]at L;exact q _ _ ((aq.new hx).trans sm) ((aq.new hx).free hD) (bY L)
def maskOf(l:List Nat):Nat:=(l.map fun k=>2 ^ k).sum
def JA:Sp:=fun vs H Q _=>∃(a:Addr) (l:List Nat),vs=[.ref a]∧H a=some (.lst (nats l))∧l.length<=10000∧(∀k,k∈l->k<=1000)∧Fn H Q (iN (maskOf l))
theorem Bs(T:Txt K mg A):a6 P w K mg base fe 1 A.oj A.om ["pieces"] JA:=by
 refine T.mw.ok tK (fun vs H Q E h=>?_) (fun cdv A1 outer s H vs Q E hr h=>?_)
 ·obtain⟨a,l,rfl,_⟩:=h;rfl
 ·obtain⟨a,l,rfl,ha,hl,hk,q⟩:=h;refine⟨_,(ai (ay (aK (IX rfl) (by rfl) T.O1 Je (aa (fq rfl tK.nd (aX (pv 0)) (own:=[("k",1)]) (aW (show gu ["pieces","k"] (aj rP) _ _=true from by decide +kernel)) (fun _ _ _ _ _=>(aG (i:=1) tK.nd rfl (Or.inl rfl) (.inr rfl))) (fun _ _ _ _ _=>bX) (fun _ _ _ _ _=>(bL wm aC (pv 1)))) af)))),?_⟩;refine⟨_,rfl,a,rfl,⟨_,aP.of ha⟩,fun D hD=>bx (R:=eh) eh.mono (ys:=l) (by simp) (fun k=>some (2 ^ k)) hD (by lia) (aP.of ha) (fun i v k H1 Yes No hv hn sm hDd yes no=>?_) fun H1 sm L=>?_⟩
  ·obtain⟨y,hy,rfl⟩:=bJ hv;rw[hn]at hy;cases hy;have hkk:=hk k (List.mem_of_getElem? hn);refine⟨rfl,nP ⟨_,rfl,_,_,rfl,rfl,⟨by lia,by lia,by decide⟩,yes _ _ _ rfl (aq.refl _) ?_⟩⟩;show V.int (1 * 2 ^ ((k:Int)).toNat)=iN (2 ^ k);rw[shl]
  ·rw[filterMap_some]at L;have e:=bY L;rw[ka]at e;refine⟨D,_,rfl,aP.of e,?_⟩;rw[rS];exact q _ sm
def Hn:Sp:=fun vs H Q _=>∃(a:Addr) (t:Nat) (m:List Nat),vs=[iN t,.ref a]∧H a=some (.lst (nats m))∧m.length<=96∧Bg H Q (bI t.testBit m)
theorem Ho(T:Txt K mg A):a6 P w K mg base fe 1 A.mW A.mX ["track","rest"] Hn:=by
 refine T.mY.ok qw (fun vs H Q E h=>?_) (fun cdv A1 outer s H vs Q E hr h=>?_)
 ·obtain⟨a,t,m,rfl,_⟩:=h;rfl
 ·obtain⟨a,t,m,rfl,ha,hl,q⟩:=h;refine⟨_,(ae (aI (i:=2) qw.nd rfl (Or.inl rfl) (bE af))
 (
 ae (cF PassesOwn.never rfl (b_ rfl T.c4 (aa (aK ax (by rfl) T.bP bh (aa (pv 1) af)) af)) (aG (i:=3) qw.nd rfl (Or.inl rfl))
 (ai (br (Gx (bL As (pv 0) (bL wm aC (pv 3))) (fun _=>rfl)) (ai (cA (jK F.plainAttrs_list F.slot_list_append F.type_list_append cP (pv 2) (aa aC af)))) (ai (br (aH yi (aO aJ (pv 1) (pv 3) (fun _ _=>rfl)) aC (aM _)) (ai (cA (jK F.plainAttrs_list F.slot_list_append F.type_list_append cP (pv 2) (aa (bL mI (aO aJ (pv 1) (pv 3) (fun _ _=>rfl)) aC) af)))) (ai (cA (jK F.plainAttrs_list F.slot_list_append F.type_list_append cP (pv 2) (aa aC af)))))))))
 (ai (ay (pv 2))))),?_⟩
  refine⟨Nat.zero_le _,fun l hl0=>?_⟩;have s0:aq H (upd H l (.lst [])):=aq.new hl0
  let f:Nat->Nat:=fun u=>if t.testBit u=true then 1 else if 0<Vbpcan.trackOf m u then Vbpcan.trackOf m u+1 else 0
  refine⟨_,rfl,a,_,rfl,.inl (aP.of (s0 _ _ ha)),_,rfl,by rw[aB];lia,by rw[aB];lia,?_⟩;rw[vw (aB m)];refine jJ (n:=m.length) (fun i σ H'=>∃v:Option V,σ=[some (iN t),some (.ref a),some (.ref l),v]∧aq H H'∧H' l=some (.lst (nats ((List.range i).map f)))) ⟨none,rfl,s0,ah⟩ ?_ ?_
  ·rintro i σ H' hi ⟨v,rfl,sm,hl'⟩
   have fin:∀(x:Nat) H2,f i=x->H2=upd H' l (.lst (nats ((List.range i).map f)++[iN x]))->∃v:Option V,[some (iN t),some (.ref a),some (.ref l),some (.int (0+(i:Int)))]=[some (iN t),some (.ref a),some (.ref l),v]∧aq H H2∧H2 l=some (.lst (nats ((List.range (i+1)).map f))):=fun x H2 hx e=>by
    subst e;refine⟨_,rfl,aq.put sm hl0,?_⟩;rw[ah,jL,List.range_succ,List.map_append,<-hx];rfl
   have lo:(nats ((List.range i).map f)).length<sizeLine:=small (by rw[aB,List.length_map,List.length_range];lia);have hm:m[i]? = some (Vbpcan.trackOf m i):=cE hi;have im:=a5 (z:=(0:Int)+(i:Int)) (aV i) hm;refine⟨_,rfl,_,rfl,_,_,rfl,rfl,⟨by lia,by lia,by decide⟩,_,_,rfl,rfl,_,rfl,bF (fun h=>?_) fun h=>?_⟩
   ·have h':t.testBit i=true:=by
     rw[aV,shl]at h;rw[<-Fx];exact h
    exact⟨_,rfl,.inl ⟨rfl,_,aP.of hl'⟩,l,_,_,rfl,rfl,hl',lo,fin 1 _ (by show(if t.testBit i=true then 1 else _)=1;rw[if_pos h']) rfl⟩
   ·have h':¬t.testBit i=true:=by
     rw[aV,shl]at h;rw[<-Fx];intro z;rw[h]at z;cases z
    refine⟨_,rfl,_,rfl,a,_,_,_,rfl,rfl,aP.of (sm _ _ ha),im,_,_,rfl,rfl,_,rfl,bF (fun h2=>?_) fun h2=>?_⟩
    ·have h2':0<Vbpcan.trackOf m i:=by simp at h2;exact h2
     refine⟨_,rfl,.inl ⟨rfl,_,aP.of hl'⟩,_,rfl,_,rfl,a,_,_,_,rfl,rfl,aP.of (sm _ _ ha),im,_,_,rfl,rfl,l,_,_,rfl,rfl,hl',lo,fin (Vbpcan.trackOf m i+1) _ ?_ rfl⟩
     show(if t.testBit i=true then 1 else if 0<Vbpcan.trackOf m i then Vbpcan.trackOf m i+1 else 0)=_
     rw[if_neg h',if_pos h2']
    ·have h2':¬0<Vbpcan.trackOf m i:=by simp at h2;lia
     refine⟨_,rfl,.inl ⟨rfl,_,aP.of hl'⟩,l,_,_,rfl,rfl,hl',lo,fin 0 _ ?_ rfl⟩
     show(if t.testBit i=true then 1 else if 0<Vbpcan.trackOf m i then Vbpcan.trackOf m i+1 else 0)=_
     rw[if_neg h',if_neg h2']
  ·rintro σ H' ⟨v,rfl,sm,hl'⟩
   exact⟨_,rfl,q _ _ sm hl0 hl'⟩
end
end Pc
end
section
namespace Pc
open PySem PySem.Spec PyProof.Rows L2
open Vbpcan (State Piece Graph)
def yx(ps:List Piece)(p:Nat):List (Nat×Nat):=((List.range' (p+1) (ps.length - (p+1))).filter (apart ps p)).map fun q=>(p,q)
def o7(ps:List Piece)(i:Nat):List (Nat×Nat):=(List.range i).flatMap (yx ps)
theorem Hq(ps:List Piece):o7 ps ps.length=bD ps:=rfl
theorem Fy(ps:List Piece)(i:Nat):o7 ps (i+1)=o7 ps i++yx ps i:=by
 unfold o7;rw[List.range_succ,List.flatMap_append];simp
theorem Hr(ps:List Piece)(p:Nat):(yx ps p).length<=ps.length:=by
 unfold yx;rw[List.length_map];refine Nat.le_trans (List.length_filter_le _ _) ?_;rw[List.length_range'];lia
theorem JB(ps:List Piece)(i:Nat):(o7 ps i).length<=i * ps.length:=by
 have:=bT (yx ps) ps.length (List.range i) fun x _=>Hr ps x
 rw[List.length_range]at this;exact this
theorem MJ(a n:Nat):List.range' a n=(List.range n).map fun j=>a+j:=by
 rw[List.range'_eq_map_range]
theorem O4(ps:List Piece)(p:Nat):(List.range (ps.length - (p+1))).filterMap (fun j=>if apart ps p (p+1+j)=true then some (p,p+1+j)else none)=yx ps p:=by
 unfold yx;rw[MJ,List.filter_map,List.map_map];have:∀l:List Nat,l.filterMap (fun j=>if apart ps p (p+1+j)=true then some (p,p+1+j)else none)=(l.filter (apart ps p ∘ fun j=>p+1+j)).map ((fun q=>(p,q)) ∘ fun j=>p+1+j):=by
  intro l
  induction l with
  | nil=>rfl
  | cons x l ih=>
   rw[List.filterMap_cons,List.filter_cons];by_cases h:apart ps p (p+1+x)=true
   ·simp only[h,if_true,Function.comp];rw[ih];rfl
   ·simp only[h,if_false,Function.comp];exact ih
 exact this _
theorem Hs{s:State}{i:Nat}{p:Piece}(h:(Vbpcan.pieces s)[i]? = some p):p.l<=p.r:=(sV (List.mem_of_getElem? h)).2.2.1
section
variable{P:Program}{w:World}{K:W.Frag}{mg:Str->Option Value}{base:Heap}{A:iL}
def Bt:Sp:=fun vs H Q _=>∃(a:Addr) (s:State),vs=[.ref a]∧bS a7 H a (Vbpcan.pieces s)∧(Vbpcan.pieces s).length<=96∧Bh bN H Q (bD (Vbpcan.pieces s))
theorem qT(T:Txt K mg A):a6 P w K mg base fe 2 A.iV A.iW ["pieces"] Bt:=by
 refine T.gp.ok gO (fun vs H Q E h=>?_) (fun cdv A1 outer s H vs Q E hr h=>?_)
 ·obtain⟨a,st,rfl,_⟩:=h;rfl
 ·obtain⟨a,st,rfl,⟨vs,ha,hE⟩,hl,q⟩:=h;refine⟨_,(ae (aI (i:=1) gO.nd rfl (Or.inl rfl) (bE af))
 (
 ae (cF PassesOwn.never rfl (b_ rfl T.c4 (aa (aK ax (by rfl) T.bP bh (aa (pv 0) af)) af)) (aG (i:=2) gO.nd rfl (Or.inr rfl))
 (ai (cA (jK F.plainAttrs_list F.slot_list_extend F.type_list_extend nZ (pv 1) (aa (fq rfl gO.nd (D4 rfl T.c4 (aa (bL mI (pv 2) aC) (aa (aK ax (by rfl) T.bP bh (aa (pv 0) af)) af))) (own:=[("q",3)]) (aW (show gu ["pieces","pairs","p","q"] (aj kO) _ _=true from by decide +kernel)) (fun _ _ _ _ _=>(aG (i:=3) gO.nd rfl (Or.inl rfl) (.inr rfl))) (fun _ _ _ _ _=>(jr (jU (au (Ft T) (hr.mono (by decide)) rfl T.G6 T.lQ.kp T.G5 .nil aA (aa (aO (r:=jQ K) aJ (pv 0) (pv 2) (fun _ _=>rfl)) (aa (aO (r:=jQ K) aJ (pv 0) (pv 3) (fun _ _=>rfl)) af)))))) (fun _ _ _ _ _=>(iJ (aa (pv 2) (aa (pv 3) af))))) af)))))
 (ai (ay (pv 1))))),?_⟩
  have lv:=hE.1;refine⟨Nat.zero_le _,fun l hl0=>?_⟩;have s0:aq H (upd H l (.lst [])):=aq.new hl0;refine⟨_,rfl,a,_,rfl,.inl (aP.of (s0 _ _ ha)),_,rfl,by lia,by lia,?_⟩;rw[vw lv];refine jJ (n:=(Vbpcan.pieces st).length) (fun i σ H'=>∃v:Option V,σ=[some (.ref a),some (.ref l),v,none]∧Cm bN H l (o7 (Vbpcan.pieces st) i) H') ⟨none,rfl,Cm.start bN.mono hl0⟩ ?_ ?_
  ·rintro i σ H' hi ⟨v,rfl,L⟩
   have sm:=L.same;obtain⟨as0,hl',_⟩:=L.acc;obtain⟨p,hp⟩:∃p,(Vbpcan.pieces st)[i]? = some p:=⟨_,List.getElem?_eq_getElem hi⟩;obtain⟨x,hx,b,rfl,hb⟩:=hE.2 i p hp;have ix:EX vs (0+(i:Int))=some (.ref b):=at_of (aV i) hx;refine⟨_,rfl,.inl ⟨rfl,_,aP.of hl'⟩,_,rfl,_,_,rfl,rfl,_,rfl,a,_,rfl,.inl (aP.of (sm _ _ ha)),_,_,rfl,⟨by lia,by lia,by lia,by lia⟩,fun D hD=>?_⟩;rw[show((vs.length:Nat):Int) - (0+(i:Int)+1)=(((Vbpcan.pieces st).length - (i+1):Nat):Int) by lia,Int.toNat_natCast];refine kr (R:=bN) bN.mono (fun j=>if apart (Vbpcan.pieces st) i (i+1+j)=true then some (i,i+1+j)else none) hD (by lia) (fun j H1 Yes No hj sm1 hDd yes no=>?_) fun H1 sm1 L1=>?_
   ·obtain⟨r,hr1⟩:∃r,(Vbpcan.pieces st)[i+1+j]? = some r:=⟨_,List.getElem?_eq_getElem (by lia)⟩;obtain⟨y,hy,d,rfl,hd⟩:=hE.2 _ r hr1;have iy:EX vs (0+(i:Int)+1+(j:Int))=some (.ref d):=at_of (by lia:(0:Int)+(i:Int)+1+(j:Int)=((i+1+j:Nat):Int)) hy;have s2:=sm.trans sm1;have eA:apart (Vbpcan.pieces st) i (i+1+j)=Vbpcan.clash p r:=by unfold apart;rw[hp,hr1]
    rw[eA]at yes no;refine⟨rfl,_,rfl,_,rfl,a,_,_,_,rfl,rfl,aP.of (s2 _ _ ha),ix,_,rfl,_,rfl,a,_,_,_,rfl,rfl,aP.of (s2 _ _ ha),iy,_,_,p,r,rfl,⟨b,rfl,s2 _ _ hb⟩,⟨d,rfl,s2 _ _ hd⟩,Hs hp,Hs hr1,_,rfl,bF (fun h=>?_) fun h=>?_⟩
    ·rw[h]at yes;refine⟨_,rfl,_,rfl,(by show 2<=sizeLine;decide),fun t ht=>yes _ _ _ rfl (aq.new ht) ⟨t,rfl,?_⟩⟩;rw[mM hDd ht,show(0:Int)+(i:Int)+1+(j:Int)=((i+1+j:Nat):Int) by lia,aV]
    ·rw[h]at no;exact no _ rfl (aq.refl _)
   ·rw[O4]at L1;have bound:(o7 (Vbpcan.pieces st) i).length+(yx (Vbpcan.pieces st) i).length<=16000000:=by
     have h1:=JB (Vbpcan.pieces st) i;have h2:=Hr (Vbpcan.pieces st) i;have h3:i * (Vbpcan.pieces st).length<=96 * 96:=Nat.mul_le_mul (by lia) (by lia);lia
    obtain⟨as1,bs,e1,e2,e3,L2⟩:=L.ext bN.mono hl0 sm1 L1 (fun v e he=>he.hole (sm1 _ _ hl')) bound;rw[<-Fy]at L2;exact⟨l,D,_,_,rfl,rfl,e1,e2,e3,_,rfl,L2⟩
  ·rintro σ H' ⟨v,rfl,L⟩
   rw[Hq]at L;exact⟨_,rfl,q _ _ L.same hl0 (L.end_ bN.mono)⟩
def Bu(b:Vbpcan.Broken):List Int:=[(b.kind:Int),(b.a:Int),(b.b:Int)]
def Fz:Sp:=fun vs H Q _=>∃(r a b:Addr) (t:List Nat) (es g:List (Nat×Nat)),vs=[.ref r,.ref a,.ref b]∧H r=some (.lst (nats t))∧bS bN H a es∧bS bN H b g∧es.length<=9216∧g.length<=9216∧(∀e,e∈es->e.1<t.length∧e.2<t.length)∧(∀e,e∈g->e.1<t.length∧e.2<t.length)∧
 Bh jH H Q (((es.filter fun e=>Vbpcan.trackOf t e.1 == Vbpcan.trackOf t e.2).map (brk 1)++(mG g t).map (brk 2)).map Bu)
theorem FA(T:Txt K mg A):a6 P w K mg base fe 1 A.lH A.lI ["row","apart","above"] Fz:=by
 refine T.lR.ok fm (fun vs H Q E h=>?_) (fun cdv A1 outer s H vs Q E hr h=>?_)
 ·obtain⟨r,a,b,t,es,g,rfl,_⟩:=h;rfl
 ·obtain⟨r,a,b,t,es,g,rfl,hr1,⟨vs,ha,hE⟩,⟨ws,hb,hG⟩,le,lg,be,bg,q⟩:=h;refine⟨_,(ae (iM (i:=3) rfl fm.nd rfl rfl (kK rfl rfl rfl (by decide +kernel)) (aX (pv 1)) (own:=[("p",4),("q",5)]) (aW (show gu ["row","apart","above","shared","p","q"] (aj k8) _ _=true from by decide +kernel)) (fun _ _ _ _ _=>(Fe (K:=K) (n:=2) rfl rfl (bV (aG (i:=4) fm.nd rfl (Or.inl rfl) (.inr rfl)) (bV (aG (i:=5) fm.nd rfl (Or.inl rfl) (.inr rfl)) md)))) (fun _ _ _ _ _=>(jr (aH bW (aO (r:=jQ K) aJ (pv 0) (pv 4) (fun _ _=>rfl)) (aO (r:=jQ K) aJ (pv 0) (pv 5) (fun _ _=>rfl)) (aM _)))) (fun _ _ _ _ _=>(iJ (aa (aL (v:=.int 1) rfl T.He.choose_spec ⟨_,rfl⟩) (aa (pv 4) (aa (pv 5) af))))))
 (ai (ay (bL tE (pv 3) (fq rfl fm.nd (aX (pv 2)) (own:=[("p",4),("q",5)]) (aW (show gu ["row","apart","above","shared","p","q"] (aj k8) _ _=true from by decide +kernel)) (fun _ _ _ _ _=>(Fe (K:=K) (n:=2) rfl rfl (bV (aG (i:=4) fm.nd rfl (Or.inl rfl) (.inr rfl)) (bV (aG (i:=5) fm.nd rfl (Or.inl rfl) (.inr rfl)) md)))) (fun _ _ _ _ _=>(jr (aH Od (aO (r:=jQ K) aJ (pv 0) (pv 4) (fun _ _=>rfl)) (aO (r:=jQ K) aJ (pv 0) (pv 5) (fun _ _=>rfl)) (aM _)))) (fun _ _ _ _ _=>(iJ (aa (aL (v:=.int 2) rfl T.Hf.choose_spec ⟨_,rfl⟩) (aa (pv 4) (aa (pv 5) af)))))))))),?_⟩
  refine⟨_,rfl,a,rfl,⟨_,aP.of ha⟩,fun D hD=>bx (R:=jH) jH.mono (ys:=es) hE.1 (fun e=>if (Vbpcan.trackOf t e.1 == Vbpcan.trackOf t e.2)=true then some (Bu (brk 1 e))else none) hD (by lia) (aP.of ha) (fun i v e H1 Yes No hv he sm hDd yes no=>?_) fun H1 sm1 L1=>?_⟩
  ·obtain⟨e',he',x,rfl,hx⟩:=hE.get hv;rw[he]at he';cases he';have hm:=be e (List.mem_of_getElem? he);have i1:=a5 (z:=(e.1:Int)) rfl (cE hm.1);have i2:=a5 (z:=(e.2:Int)) rfl (cE hm.2);refine⟨x,_,rfl,jP.of (sm _ _ hx),rfl,_,_,rfl,_,_,rfl,rfl,rfl,?_⟩;refine⟨_,rfl,_,rfl,r,_,_,_,rfl,rfl,aP.of (sm _ _ hr1),i1,_,rfl,_,rfl,r,_,_,_,rfl,rfl,aP.of (sm _ _ hr1),i2,rfl,_,rfl,bF (fun h=>?_) fun h=>?_⟩
   ·have h':(Vbpcan.trackOf t e.1 == Vbpcan.trackOf t e.2)=true:=by rw[kh]at h;exact h
    rw[h']at yes;exact⟨_,rfl,_,rfl,(by show 3<=sizeLine;decide),fun p hp=>yes _ _ _ rfl (aq.new hp) ⟨p,rfl,mM hDd hp⟩⟩
   ·have h':(Vbpcan.trackOf t e.1 == Vbpcan.trackOf t e.2)=false:=by rw[kh]at h;exact h
    rw[h']at no;exact no _ rfl (aq.refl _)
  ·have hb1:=sm1 _ _ hb;refine⟨_,rfl,_,rfl,b,rfl,⟨_,aP.of hb1⟩,fun D2 hD2=>bx (R:=jH) jH.mono (ys:=g) hG.1 (fun e=>if decide (Vbpcan.trackOf t e.2<=Vbpcan.trackOf t e.1)=true then some (Bu (brk 2 e))else none) hD2 (by lia) (aP.of hb1) (fun i v e H2 Yes No hv he sm hDd yes no=>?_) fun H2 sm2 L2=>?_⟩
   ·obtain⟨e',he',x,rfl,hx⟩:=hG.get hv;rw[he]at he';cases he';have hm:=bg e (List.mem_of_getElem? he);have i1:=a5 (z:=(e.1:Int)) rfl (cE hm.1);have i2:=a5 (z:=(e.2:Int)) rfl (cE hm.2);have s2:=sm1.trans sm;refine⟨x,_,rfl,jP.of (s2 _ _ hx),rfl,_,_,rfl,_,_,rfl,rfl,rfl,?_⟩;refine⟨_,rfl,_,rfl,r,_,_,_,rfl,rfl,aP.of (s2 _ _ hr1),i1,_,rfl,_,rfl,r,_,_,_,rfl,rfl,aP.of (s2 _ _ hr1),i2,_,_,rfl,rfl,_,rfl,bF (fun h=>?_) fun h=>?_⟩
    ·have h':decide (Vbpcan.trackOf t e.2<=Vbpcan.trackOf t e.1)=true:=by rw[<-decLe];exact h
     rw[h']at yes;exact⟨_,rfl,_,rfl,(by show 3<=sizeLine;decide),fun p hp=>yes _ _ _ rfl (aq.new hp) ⟨p,rfl,mM hDd hp⟩⟩
    ·have h':decide (Vbpcan.trackOf t e.2<=Vbpcan.trackOf t e.1)=false:=by rw[<-decLe];exact h
     rw[h']at no;exact no _ rfl (aq.refl _)
   ·obtain⟨v1,hv1,E1⟩:=L1;obtain⟨v2,hv2,E2⟩:=L2;have e1:es.filterMap (fun e=>if (Vbpcan.trackOf t e.1 == Vbpcan.trackOf t e.2)=true then some (Bu (brk 1 e))else none)=((es.filter fun e=>Vbpcan.trackOf t e.1 == Vbpcan.trackOf t e.2).map (brk 1)).map Bu:=by
     rw[List.map_map];exact nG _ _ _
    have e2:g.filterMap (fun e=>if decide (Vbpcan.trackOf t e.2<=Vbpcan.trackOf t e.1)=true then some (Bu (brk 2 e))else none)=((mG g t).map (brk 2)).map Bu:=by
     rw[List.map_map];exact nG _ _ _
    have b1:v1.length<=9216:=by rw[E1.1];exact Nat.le_trans (List.length_filterMap_le _ _) le
    have b2:v2.length<=9216:=by rw[E2.1];exact Nat.le_trans (List.length_filterMap_le _ _) lg
    refine⟨D,D2,_,_,rfl,rfl,sm2 _ _ hv1,hv2,jy (by lia),fun p hp=>?_⟩;have s3:=(sm1.trans sm2).trans (aq.new (o:=.lst (v1++v2)) hp);refine q _ p s3 ((sm1.trans sm2).free hp) ⟨_,ah,?_⟩;rw[List.map_append,<-e1,<-e2];exact((E1.mono jH.mono sm2).mono jH.mono (aq.new hp)).app (E2.mono jH.mono (aq.new hp))
end
end Pc
end
section
namespace Pc
open PySem PySem.Spec PyProof.Rows L2
open Vbpcan (State Piece Graph)
theorem Bv:∀(l:List Nat),l≠[]->∃m,m∈l∧∀x,x∈l->x<=m
 | [],h=>absurd rfl h
 | [a],_=>⟨a,by simp,fun x hx=>by simp at hx;lia⟩
 | a::b::l,_=>by
  obtain⟨m,h1,h2⟩:=Bv (b::l) (by simp);by_cases h:a<=m
  ·exact⟨m,List.mem_cons_of_mem _ h1,fun x hx=>by
    rcases List.mem_cons.mp hx with z | z
    ·lia
    ·exact h2 x z⟩
  ·exact⟨a,by simp,fun x hx=>by
    rcases List.mem_cons.mp hx with z | z
    ·lia
    ·have:=h2 x z;lia⟩
theorem oI{l:List Nat}{m:Int}(h:m∈l.map fun(n:Nat)=>(n:Int)):∃k,k∈l∧m=(k:Int):=by
 obtain⟨k,hk,e⟩:=List.mem_map.mp h;exact⟨k,hk,e.symm⟩
theorem yy(s:State)(n c:Nat):(aT s n c).length<=(Vbpcan.pieces s).length:=by
 unfold aT;refine Nat.le_trans (List.length_filter_le _ _) ?_;rw[List.length_range];exact Nat.le_refl _
theorem Ht{s:State}{n c k:Nat}(h:k∈aT s n c):k<(Vbpcan.pieces s).length:=by
 obtain⟨p,hp,_⟩:=l7.mp h;exact(List.getElem?_eq_some_iff.mp hp).1
section
variable{P:Program}{w:World}{K:W.Frag}{mg:Str->Option Value}{base:Heap}{A:iL}
def y3(A:iL):Sp:=fun vs H Q _=>∃(c u l a b:Addr) (s:State) (r:List Nat) (n k:Nat),vs=[.ref c,.ref a,.ref b,iN n,iN k]∧ff A.aw H c u l s∧bS a7 H a (Vbpcan.pieces s)∧H b=some (.lst (nats r))∧r.length=(Vbpcan.pieces s).length∧r.length<=96∧k<s.top.length∧
 (Vbpcan.at_ s.top k=n∨Vbpcan.at_ s.low k=n)∧∀H' v,aq H H'->jH H' v (sR (Vbpcan.upright s r (Vbpcan.tracks r) k n))->Q v H'
theorem y4(T:Txt K mg A):a6 P w K mg base fe 2 A.gT A.gU ["channel","pieces","row","net","column"] (y3 A):=by
 refine T.ia.ok l4 (fun vs H Q E h=>?_) (fun cdv A1 outer s H vs Q E hr h=>?_)
 ·obtain⟨c,u,l,a,b,st,r,n,k,rfl,_⟩:=h;rfl
 ·obtain⟨c,u,l,a,b,st,r,n,k,rfl,hC,hP,hb,hlr,hl,hk,hn,q⟩:=h;obtain⟨dx,hc⟩:=hC.obj;refine⟨_,(ae (iM (i:=5) rfl l4.nd rfl rfl (kK rfl rfl rfl (by decide +kernel)) (aX (au (mh T) (hr.mono (by decide)) rfl T.nB T.fg.kp T.nA .nil aA (aa (pv 1) (aa (pv 3) (aa (pv 4) af))))) (own:=[("k",6)]) (aW (show gu ["channel","pieces","row","net","column","heights","k"] (aj jW) _ _=true from by decide +kernel)) (fun _ _ _ _ _=>(aG (i:=6) l4.nd rfl (Or.inl rfl) (.inr rfl))) (fun _ _ _ _ _=>bX) (fun _ _ _ _ _=>(aO (r:=jQ K) aJ (pv 2) (pv 6) (fun _ _=>rfl))))
 (ae (uS (br (aH bW (aO aJ (bC (pv 0) rfl) (pv 4) (fun _ _=>rfl)) (pv 3) (aM _)) (ai (cA (jK F.plainAttrs_list F.slot_list_append F.type_list_append cP (pv 5) (aa aC af)))) aS))
 (ae (uS (br (aH bW (aO aJ (bC (pv 0) rfl) (pv 4) (fun _ _=>rfl)) (pv 3) (aM _)) (ai (cA (jK F.plainAttrs_list F.slot_list_append F.type_list_append cP (pv 5) (aa (bL mI (au (vo T) (hr.mono (by decide)) rfl T.yq T.jN.kp T.yp .nil aA (aa (pv 2) af)) aC) af)))) aS))
 (ai (ay (iJ (aa (pv 3) (aa (pv 4) (aa (aK (R7 rfl) (by rfl) T.Ro OF (aa (pv 5) af)) (aa (pv 4) (aa (aK (R6 rfl) (by rfl) T.Hh Jd (aa (pv 5) af)) af))))))))))),?_⟩
  have iu:=a5 (z:=(k:Int)) rfl (cE hk);have il:=a5 (z:=(k:Int)) rfl (cE (show k<st.low.length by rw[hC.fit.len];exact hk));refine⟨_,rfl,_,rfl,_,rfl,a,st,n,k,rfl,hP,by lia,fun H1 p sm1 hp e1=>⟨p,rfl,⟨_,aP.of e1⟩,fun D hD=>?_⟩⟩;refine bx (R:=eh) eh.mono (ys:=aT st n k) (by simp) (fun i=>some (Vbpcan.trackOf r i)) hD (by have:=yy st n k;lia) (aP.of e1) (fun i v j H2 Yes No hv hj sm hDd yes no=>?_) fun H2 sm2 L=>?_
  ·obtain⟨y,hy,rfl⟩:=bJ hv;rw[hj]at hy;cases hy;have hjl:=Ht (List.mem_of_getElem? hj);refine⟨rfl,nP ⟨_,rfl,_,rfl,b,_,_,_,rfl,rfl,aP.of (sm _ _ (sm1 _ _ hb)),a5 rfl (cE (by lia)),yes _ _ _ rfl (aq.refl _) rfl⟩⟩
  ·rw[filterMap_some]at L;have hD2:=bY L;have smA:=sm1.trans sm2;have hDf:H D=none:=sm1.free hD;have hlen:=yy st n k;refine⟨fun σ' H'=>σ'=[some (.ref c),some (.ref a),some (.ref b),some (iN n),some (iN k),some (.ref D),none]∧aq H H'∧H' D=some (.lst (nats ((aT st n k).map (Vbpcan.trackOf r)++(if Vbpcan.at_ st.top k=n then [0]else [])))),?_,?_⟩
   ·refine⟨_,rfl,c,_,dx,_,_,rfl,smA _ _ hc,T.aF,T.az,rfl,_,rfl,u,_,_,_,rfl,rfl,aP.of (smA _ _ hC.up),iu,_,rfl,rfl,_,rfl,bF (fun h=>?_) fun h=>?_⟩
    ·rw[kh,decide_eq_true_eq]at h;refine⟨_,rfl,.inl ⟨rfl,_,aP.of hD2⟩,D,_,_,rfl,rfl,hD2,small (by rw[aB,List.length_map];lia),rfl,aq.put smA hDf,?_⟩;rw[ah,if_pos h];exact congrArg (fun z=>some (HO.lst z)) (jL _ 0)
    ·rw[kh,decide_eq_false_iff_not]at h;refine⟨rfl,smA,?_⟩;rw[if_neg h,List.append_nil];exact hD2
   ·rintro σ' H' ⟨rfl,sm3,hD3⟩
    refine⟨fun σ' H'=>σ'=[some (.ref c),some (.ref a),some (.ref b),some (iN n),some (iN k),some (.ref D),none]∧aq H H'∧H' D=some (.lst (nats (gy st r (Vbpcan.tracks r) k n))),?_,?_⟩
    ·refine⟨_,rfl,c,_,dx,_,_,rfl,sm3 _ _ hc,T.aF,T.aN,rfl,_,rfl,l,_,_,_,rfl,rfl,aP.of (sm3 _ _ hC.lo),il,_,rfl,rfl,_,rfl,bF (fun h=>?_) fun h=>?_⟩
     ·rw[kh,decide_eq_true_eq]at h;refine⟨_,rfl,.inl ⟨rfl,_,aP.of hD3⟩,_,rfl,b,r,rfl,aP.of (sm3 _ _ hb),_,_,rfl,rfl,D,_,_,rfl,rfl,hD3,small (by rw[aB,List.length_append,List.length_map];split <;> simp <;> lia),rfl,aq.put sm3 hDf,?_⟩;rw[ah];unfold gy;rw[if_pos h,<-List.append_assoc];exact congrArg (fun z=>some (HO.lst z)) (jL _ (Vbpcan.tracks r+1))
     ·rw[kh,decide_eq_false_iff_not]at h;refine⟨rfl,sm3,?_⟩;unfold gy;rw[if_neg h,List.append_nil];exact hD3
    ·rintro σ'' H'' ⟨rfl,sm4,hD4⟩
     rw[ka]at hD4;obtain⟨hi,m1,m2⟩:=Bv (gy st r (Vbpcan.tracks r) k n) (Ak hn);have pos:0<((gy st r (Vbpcan.tracks r) k n).map fun(n:Nat)=>(n:Int)).length:=by
      rw[List.length_map];exact List.length_pos_iff.mpr (Ak hn)
     refine⟨_,rfl,_,rfl,_,rfl,D,_,rfl,aP.of hD4,pos,fun lo' hlo hlo2=>?_⟩;refine⟨_,rfl,_,rfl,D,_,rfl,aP.of hD4,pos,fun hi' hhi hhi2=>?_⟩;obtain⟨lo,l1,rfl⟩:=oI hlo;obtain⟨hi2,h1,rfl⟩:=oI hhi;have up:=IE (s:=st) (r:=r) (c:=k) hlr hn l1 (fun x hx=>by have:=hlo2 _ (List.mem_map.mpr ⟨x,hx,rfl⟩);lia) h1 (fun x hx=>by have:=hhi2 _ (List.mem_map.mpr ⟨x,hx,rfl⟩);lia);rw[up]at q;exact⟨(by show 5<=sizeLine;decide),fun t ht=>q _ _ (sm4.trans (aq.new ht)) ⟨t,rfl,ah⟩⟩
def Bw(s:State)(r:List Nat)(i:Nat):List (List Int):=((List.range i).flatMap fun c=>(ed s c).map (Vbpcan.upright s r (Vbpcan.tracks r) c)).map sR
theorem JC(s:State)(r:List Nat)(i:Nat):Bw s r (i+1)=Bw s r i++(ed s i).map fun n=>sR (Vbpcan.upright s r (Vbpcan.tracks r) i n):=by
 unfold Bw;rw[List.range_succ,List.flatMap_append,List.map_append];simp
theorem oJ(s:State)(c:Nat):(ed s c).length<=2:=by
 unfold ed;rw[List.length_append]
 split <;> split <;> simp
theorem O5(s:State)(r:List Nat)(i:Nat):(Bw s r i).length<=i * 2:=by
 unfold Bw;rw[List.length_map];have:=bT (fun c=>(ed s c).map (Vbpcan.upright s r (Vbpcan.tracks r) c)) 2 (List.range i) fun x _=>by rw[List.length_map];exact oJ s x
 rw[List.length_range]at this;exact this
def xf(A:iL):Sp:=fun vs H Q _=>∃(c u l a b:Addr) (s:State) (r:List Nat),vs=[.ref c,.ref a,.ref b]∧ff A.aw H c u l s∧bS a7 H a (Vbpcan.pieces s)∧H b=some (.lst (nats r))∧r.length=(Vbpcan.pieces s).length∧r.length<=96∧Bh jH H Q ((Vbpcan.uprights s r (Vbpcan.tracks r)).map sR)
theorem oK(T:Txt K mg A):a6 P w K mg base fe 3 A.fL A.fM ["channel","pieces","row"] (xf A):=by
 refine T.dC.ok eC (fun vs H Q E h=>?_) (fun cdv A1 outer s H vs Q E hr h=>?_)
 ·obtain⟨c,u,l,a,b,st,r,rfl,_⟩:=h;rfl
 ·obtain⟨c,u,l,a,b,st,r,rfl,hC,hP,hb,hlr,hl,q⟩:=h;refine⟨_,(ae (aI (i:=3) eC.nd rfl (Or.inl rfl) (bE af))
 (
 ae (cF PassesOwn.never rfl (b_ rfl T.c4 (aa (aK ax (by rfl) T.bP bh (aa (bC (pv 0) rfl) af)) af)) (aG (i:=4) eC.nd rfl (Or.inr rfl))
 (ai (cA (jK F.plainAttrs_list F.slot_list_extend F.type_list_extend nZ (pv 3) (aa (fq rfl eC.nd (aX (au (Br T) (hr.mono (by decide)) rfl T.Em T.mx.kp T.El .nil aA (aa (pv 0) (aa (pv 4) af)))) (own:=[("net",5)]) (aW (show gu ["channel","pieces","row","wires","column","net"] (aj jt) _ _=true from by decide +kernel)) (fun _ _ _ _ _=>(aG (i:=5) eC.nd rfl (Or.inl rfl) (.inr rfl))) (fun _ _ _ _ _=>bX) (fun _ _ _ _ _=>(au (y4 T) (hr.mono (by decide)) rfl T.A0 T.ia.kp T.AZ .nil aA (aa (pv 0) (aa (pv 1) (aa (pv 2) (aa (pv 5) (aa (pv 4) af)))))))) af)))))
 (ai (ay (pv 3))))),?_⟩
  have hcol:=hC.fit.cols;refine⟨Nat.zero_le _,fun d hd=>?_⟩;have s0:aq H (upd H d (.lst [])):=aq.new hd;obtain⟨dx,hc⟩:=hC.obj;refine⟨_,rfl,c,_,dx,_,_,rfl,s0 _ _ hc,T.aF,T.az,rfl,u,_,rfl,.inl (aP.of (s0 _ _ hC.up)),_,rfl,by rw[aB];lia,by rw[aB];lia,?_⟩;rw[vw (aB _)];refine jJ (n:=st.top.length) (fun i σ H'=>∃v:Option V,σ=[some (.ref c),some (.ref a),some (.ref b),some (.ref d),v,none]∧Cm jH H d (Bw st r i) H') ⟨none,rfl,Cm.start jH.mono hd⟩ ?_ ?_
  ·rintro i σ H' hi ⟨v,rfl,L⟩
   have sm:=L.same;obtain⟨as0,hd',_⟩:=L.acc;have hC1:=hC.mono sm;refine⟨_,rfl,.inl ⟨rfl,_,aP.of hd'⟩,_,rfl,_,rfl,c,u,l,st,i,(by rw[aV];rfl),hC1,hi,fun H1 p sm1 hp e1=>⟨p,rfl,⟨_,aP.of e1⟩,fun D hD=>?_⟩⟩;refine bx (R:=jH) jH.mono (ys:=ed st i) (by simp) (fun n=>some (sR (Vbpcan.upright st r (Vbpcan.tracks r) i n))) hD (by have:=oJ st i;lia) (aP.of e1) (fun j v n H2 Yes No hv hn sm2 hDd yes no=>?_) fun H2 sm2 L2=>?_
   ·obtain⟨y,hy,rfl⟩:=bJ hv;rw[hn]at hy;cases hy;have hm:=Ah (List.mem_of_getElem? hn);have s3:=(sm.trans sm1).trans sm2;obtain⟨o,hDo⟩:=hDd;refine⟨rfl,nP ⟨_,rfl,_,rfl,_,rfl,_,rfl,_,rfl,c,u,l,a,b,st,r,n,i,(by rw[aV];rfl),hC.mono s3,hP.mono a7.mono s3,s3 _ _ hb,hlr,hl,hi,hm.2,fun H3 v s4 hv=>yes _ _ _ rfl s4 ?_⟩⟩;obtain⟨t,rfl,ht⟩:=hv;refine⟨t,rfl,?_⟩;rw[cC (cj ht (s4 _ _ hDo) (by intro z;cases z))];exact ht
   ·rw[filterMap_some]at L2;have bound:(Bw st r i).length+((ed st i).map fun n=>sR (Vbpcan.upright st r (Vbpcan.tracks r) i n)).length<=16000000:=by
     have h1:=O5 st r i;have h2:=oJ st i;rw[List.length_map];lia
    obtain⟨as1,bs,e1,e2,e3,L3⟩:=L.ext jH.mono hd (sm1.trans sm2) L2 (fun v e he=>he.hole ((sm1.trans sm2) _ _ hd')) bound;rw[<-JC]at L3;exact⟨d,D,_,_,rfl,rfl,e1,e2,e3,_,rfl,L3⟩
  ·rintro σ H' ⟨v,rfl,L⟩
   refine⟨_,rfl,q _ _ L.same hd ?_⟩;rw[pY];exact L.end_ jH.mono
end
end Pc
end
section
namespace Pc
open PySem PySem.Spec PyProof.Rows L2
open Vbpcan (State Piece Graph)
structure Rows(H:Hp)(b:Addr)(as:List Addr)(f:Nat->List Nat)(n:Nat):Prop where
 lst:H b=some (.lst (as.map V.ref))
 nd:as.Nodup
 len:as.length=n
 nb:b ∉ as
 at_:∀(j:Nat) a,as[j]? = some a->H a=some (.lst (nats (f j)))
theorem Rows.lstP{H:Hp}{b:Addr}{as:List Addr}{f:Nat->List Nat}{n:Nat}(h:Rows H b as f n):bS rY H b ((List.range n).map f):=by
 refine⟨_,h.lst,by rw[List.length_map,List.length_map,List.length_range,h.len],fun i x hx=>?_⟩;rw[List.getElem?_map,Option.map_eq_some_iff]at hx;obtain⟨j,hj,rfl⟩:=hx;obtain⟨hil,e⟩:=List.getElem?_eq_some_iff.mp hj;have hij:i=j:=by simpa using e
 subst hij;have hia:i<as.length:=by rw[h.len];simpa using hil
 exact⟨.ref as[i],by rw[List.getElem?_map,List.getElem?_eq_getElem hia];rfl,as[i],rfl,h.at_ i _ (List.getElem?_eq_getElem hia)⟩
theorem Rows.congr{H:Hp}{b:Addr}{as:List Addr}{f f':Nat->List Nat}{n:Nat}(h:Rows H b as f n)(e:∀j,f j=f' j):Rows H b as f' n:=⟨h.lst,h.nd,h.len,h.nb,fun j a ha=>by rw[<-e j];exact h.at_ j a ha⟩
theorem Rows.push{H:Hp}{b a:Addr}{as:List Addr}{f:Nat->List Nat}{n p q:Nat}(h:Rows H b as f n)(ha:as[p]? = some a):Rows (upd H a (.lst (nats (f p)++[iN q]))) b as (fun j=>if j=p then f p++[q]else f j) n:=by
 have ba:b≠a:=fun z=>h.nb (by rw[z];exact List.mem_of_getElem? ha)
 refine⟨by rw[ak ba];exact h.lst,h.nd,h.len,h.nb,fun j c hc=>?_⟩;by_cases e:j=p
 ·subst e;rw[ha]at hc;cases hc;rw[ah,if_pos rfl,jL]
 ·rw[if_neg e];have:c≠a:=fun z=>e (Rm h.nd hc (by rw[z];exact ha))
  rw[ak this];exact h.at_ j c hc
theorem xg{n i:Nat}{vs:List Nat}{σ:L2.St}{H1:Hp}{D:Addr}{Qd:Hp->Prop}(hw:∀x,wipe ((wipe σ vs).set i (some x)) vs=wipe σ vs)(hD:H1 D=none)(hn:n<=1000)
  (hd:∀H as,aq H1 H->Rows H D as (fun _=>[]) n->(∀a,a∈as->H1 a=none)->Qd H) :
  ∃
   W:Nat->Nat->Hp->Prop,(∃m,W 0 m (upd H1 D (.lst [])))∧∀k m H,W k m H →
   ((
    Il 0 n).stop k H∧Qd H)∨((Il 0 n).go k H∧∃Nx:Hp->Prop,(∀H',Nx H'->∃m',m'<m∧W (k+1) m' H')∧∀x H',(Il 0 n).NK k H x H'->Gv i x (wipe σ vs) H' fun σ2 H2=>wipe σ2 vs=wipe σ vs∧R9 σ2 H2 fun b H3=>
    if b=true then Td Qv σ2 H3 fun y H4=>∃acc,H4 D=some (.lst acc)∧acc.length<sizeLine∧Nx (upd H4 D (.lst (acc++[y])))else Nx H3):=by
 refine GG (fun k H=>aq H1 H∧∃as:List Addr,Rows H D as (fun _=>[]) k∧∀a,a∈as->H1 a=none) ⟨aq.new hD,[],⟨ah,List.nodup_nil,rfl,by simp,fun j a h=>by simp at h⟩,fun a h=>by simp at h⟩ (fun k H hk hI=>?_) fun H ⟨sm,as,hR,hf⟩=>hd H as sm hR hf
 obtain⟨sm,as,hR,hf⟩:=hI;refine⟨hw _,nP ⟨Nat.zero_le _,fun p hp=>?_⟩⟩;have Dp:D≠p:=ao hR.lst hp;have pa:p ∉ as:=fun z=>by
  obtain⟨j,hj⟩:=List.mem_iff_getElem?.mp z;rw[hR.at_ j p hj]at hp;cases hp
 have hDp:(upd H p (.lst [])) D=some (.lst (as.map V.ref)):=by rw[ak Dp];exact hR.lst
 refine⟨_,hDp,small (by rw[List.length_map,hR.len];lia),aq.put (fun b o q=>by rw[ak (ao (sm _ _ q) hp)];exact sm _ _ q) hD,as++[p],⟨by rw[ah,List.map_append];rfl,?_,by rw[List.length_append,hR.len];rfl,?_,fun j a ha=>?_⟩,fun a ha=>?_⟩
 ·refine List.nodup_append.mpr ⟨hR.nd,by simp,fun x hx y hy e=>?_⟩;have:y=p:=by simpa using hy
  rw[e,this]at hx;exact pa hx
 ·intro z;rcases List.mem_append.mp z with z | z
  ·exact hR.nb z
  ·exact Dp (by simpa using z)
 ·have aD:a≠D:=fun z=>by
   rcases List.mem_append.mp (List.mem_of_getElem? ha)with y | y
   ·rw[z]at y;exact hR.nb y
   ·exact Dp (by rw[<-z];simpa using y)
  rw[ak aD];rcases Nat.lt_or_ge j as.length with y | y
  ·rw[List.getElem?_append_left y]at ha;rw[ak (fun z=>pa (by rw[<-z];exact List.mem_of_getElem? ha))];exact hR.at_ j a ha
  ·rw[List.getElem?_append_right y]at ha;have:a=p:=by
    have:=List.mem_of_getElem? ha;simpa using this
   rw[this,ah];rfl
 ·rcases List.mem_append.mp ha with y | y
  ·exact hf a y
  ·have:a=p:=by simpa using y
   rw[this];exact sm.free hp
theorem JD(es:Graph)(p q j:Nat):below (es++[(p,q)]) j=if j=p then below es p++[q]else below es j:=by
 unfold below;rw[List.filter_append,List.map_append];by_cases h:j=p
 ·subst h;rw[if_pos rfl];simp
 ·rw[if_neg h];have:(p == j)=false:=by simpa using fun z:p=j=>h z.symm
  simp[this]
theorem Hu(es:Graph)(p q j:Nat):bH (es++[(p,q)]) j=if j=q then bH es q++[p]else bH es j:=by
 unfold bH;rw[List.filter_append,List.map_append];by_cases h:j=q
 ·subst h;rw[if_pos rfl];simp
 ·rw[if_neg h];have:(q == j)=false:=by simpa using fun z:q=j=>h z.symm
  simp[this]
theorem Bx(g:Graph)(u:Nat):(below g u).length<=g.length:=by
 unfold below;rw[List.length_map];exact List.length_filter_le _ _
theorem xh(g:Graph)(u:Nat):(bH g u).length<=g.length:=by
 unfold bH;rw[List.length_map];exact List.length_filter_le _ _
theorem vx{α:Type}(l:List α)(i:Nat):(l.take i).length<=l.length:=by rw[List.length_take];lia
section
variable{P:Program}{w:World}{K:W.Frag}{mg:Str->Option Value}{base:Heap}{A:iL}
def xi(A:iL):Sp:=fun vs H Q _=>∃(c u l a:Addr) (s:State),vs=[.ref c,.ref a]∧ff A.aw H c u l s∧bS a7 H a (Vbpcan.pieces s)∧(Vbpcan.pieces s).length<=96∧Fn H Q (iN (Vbpcan.vias s))
theorem xj(T:Txt K mg A):a6 P w K mg base fe 2 A.fN A.fO ["channel","pieces"] (xi A):=by
 refine T.f_.ok c7 (fun vs H Q E h=>?_) (fun cdv A1 outer s H vs Q E hr h=>?_)
 ·obtain⟨c,u,l,a,st,rfl,_⟩:=h;rfl
 ·obtain⟨c,u,l,a,st,rfl,hC,hP,hl,q⟩:=h;refine⟨_,(ae (aI (i:=2) c7.nd rfl (Or.inl rfl) aC)
 (
 ae (cF PassesOwn.never rfl (b_ rfl T.c4 (aa (aK ax (by rfl) T.bP bh (aa (bC (pv 0) rfl) af)) af)) (aG (i:=3) c7.nd rfl (Or.inr rfl))
 (ai (tq (i:=2) c7.nd rfl (Or.inl rfl) (aK (IX rfl) (by rfl) T.O1 Je (aa (fq rfl c7.nd (aX (au (Br T) (hr.mono (by decide)) rfl T.Em T.mx.kp T.El .nil aA (aa (pv 0) (aa (pv 3) af)))) (own:=[("net",4)]) (aW (show gu ["channel","pieces","count","column","net"] (aj ju) _ _=true from by decide +kernel)) (fun _ _ _ _ _=>(aG (i:=4) c7.nd rfl (Or.inl rfl) (.inr rfl))) (fun _ _ _ _ _=>bX) (fun _ _ _ _ _=>(aK (r:=Tz K) ax (by rfl) T.bP bh (aa (au (mh T) (hr.mono (by decide)) rfl T.nB T.fg.kp T.nA .nil aA (aa (pv 1) (aa (pv 4) (aa (pv 3) af)))) af)))) af)) p_)))
 (ai (ay (pv 2))))),?_⟩
  have hcol:=hC.fit.cols;obtain⟨dx,hc⟩:=hC.obj;refine⟨_,rfl,c,_,dx,_,_,rfl,hc,T.aF,T.az,rfl,u,_,rfl,.inl (aP.of hC.up),_,rfl,by rw[aB];lia,by rw[aB];lia,?_⟩;rw[vw (aB _)];refine jJ (n:=st.top.length) (fun i σ H'=>∃v:Option V,σ=[some (.ref c),some (.ref a),some (iN (touched st i)),v,none]∧aq H H') ⟨none,rfl,aq.refl _⟩ ?_ ?_
  ·rintro i σ H' hi ⟨v,rfl,sm⟩
   have hC1:=hC.mono sm;refine⟨_,rfl,_,rfl,_,rfl,c,u,l,st,i,(by rw[aV];rfl),hC1,hi,fun H1 p sm1 hp e1=>⟨p,rfl,⟨_,aP.of e1⟩,fun D hD=>?_⟩⟩;refine bx (R:=eh) eh.mono (ys:=ed st i) (by simp) (fun n=>some (aT st n i).length) hD (by have:=oJ st i;lia) (aP.of e1) (fun j v n H2 Yes No hv hn sm2 hDd yes no=>?_) fun H2 sm2 L2=>?_
   ·obtain⟨y,hy,rfl⟩:=bJ hv;rw[hn]at hy;cases hy;have s3:=(sm.trans sm1).trans sm2;refine⟨rfl,nP ⟨_,rfl,_,rfl,_,rfl,a,st,n,i,(by rw[aV];rfl),hP.mono a7.mono s3,hl,fun H3 p3 s4 hp3 e3=>⟨p3,_,rfl,.inl (aP.of e3),yes _ _ _ rfl s4 ?_⟩⟩⟩;show V.int ((nats (aT st n i)).length:Nat)=iN (aT st n i).length;rw[aB]
   ·rw[filterMap_some]at L2;have e:=bY L2;rw[ka]at e;refine⟨D,_,rfl,aP.of e,_,_,rfl,rfl,some (.int (0+(i:Int))),?_,(sm.trans sm1).trans sm2⟩;rw[rS];show [some (V.ref c),some (V.ref a),some (V.int ((touched st i:Nat)+(((ed st i).map fun n=>(aT st n i).length).sum:Nat))),some (.int (0+(i:Int))),none]=_;rw[ET];rfl
  ·rintro σ H' ⟨v,rfl,sm⟩
   refine⟨_,rfl,?_⟩;rw[<-Qk];exact q _ sm
def By:Sp:=fun vs H Q _=>∃(a:Addr) (n:Nat) (g:Graph),vs=[iN n,.ref a]∧bS bN H a g∧Small g n∧g.length<=9216∧n<=96∧Bh rY H Q ((List.range n).map (below g))
theorem qU(T:Txt K mg A):a6 P w K mg base fe 1 A.iR A.iS ["count","pairs"] By:=by
 refine T.gn.ok gL (fun vs H Q E h=>?_) (fun cdv A1 outer s H vs Q E hr h=>?_)
 ·obtain⟨a,n,g,rfl,_⟩:=h;rfl
 ·obtain⟨a,n,g,rfl,⟨vs,ha,hE⟩,sg,lg,hn,q⟩:=h;refine⟨_,(ae (iM (i:=2) rfl gL.nd rfl rfl (kK rfl rfl rfl (by decide +kernel)) (b_ rfl T.c4 (aa (pv 0) af)) (own:=[("k",3)]) (aW (show gu ["count","pairs","below","k","p","q"] (aj kL) _ _=true from by decide +kernel)) (fun _ _ _ _ _=>(aG (i:=3) gL.nd rfl (Or.inl rfl) (.inr rfl))) (fun _ _ _ _ _=>bX) (fun _ _ _ _ _=>(bE af)))
 (
 ae (cF PassesOwn.never rfl (aX (pv 1)) (tj rfl (bV (aG (i:=4) gL.nd rfl (Or.inl rfl)) (bV (aG (i:=5) gL.nd rfl (Or.inl rfl)) md)))
 (ai (cA (jK F.plainAttrs_list F.slot_list_append F.type_list_append cP (aO aJ (pv 2) (pv 4) (fun _ _=>rfl)) (aa (pv 5) af)))))
 (ai (ay (pv 2))))),?_⟩
  refine⟨_,rfl,_,rfl,by lia,by lia,fun D hD=>?_⟩;rw[vw (show n=n from rfl)];refine xg (fun x=>rfl) hD (by lia) fun H1 as sm1 hR hf=>?_
  have aD:a≠D:=ao ha hD;refine⟨_,rfl,a,rfl,⟨_,aP.of (sm1 _ _ ha)⟩,cU (K:=K) (a:=a) (xs:=vs) (fun i σ H'=>∃v1 v2:Option V,σ=[some (iN n),some (.ref a),some (.ref D),none,v1,v2]∧aq H H'∧Rows H' D as (below (g.take i)) n)
   ⟨none,none,rfl,sm1,hR⟩ (fun i σ H' _ ⟨_,_,_,sm,_⟩=>aP.of (sm _ _ ha)) ?_ ?_⟩
  ·rintro i x σ H' hi ⟨v1,v2,rfl,sm,hR'⟩
   obtain⟨e,he,b,rfl,hb⟩:=hE.get hi;have hs:=sg e.1 e.2 (List.mem_of_getElem? he);have hal:e.1<as.length:=by rw[hR.len];exact hs.1
   have hax:=List.getElem?_eq_getElem hal;have hrow:=hR'.at_ _ _ hax;refine⟨b,_,rfl,jP.of (sm _ _ hb),rfl,_,_,rfl,_,_,rfl,rfl,?_⟩;refine⟨_,rfl,_,rfl,D,_,_,.ref as[e.1],rfl,rfl,aP.of hR'.lst,at_of (j:=e.1) rfl (by rw[List.getElem?_map,hax];rfl),.inl ⟨rfl,_,aP.of hrow⟩,_,rfl,as[e.1],_,_,rfl,rfl,hrow,small (by rw[aB];have:=Bx (g.take i) e.1;have:=vx g i;lia),?_⟩;refine⟨_,_,rfl,aq.put sm (hf _ (List.mem_of_getElem? hax)),?_⟩;refine(hR'.push (q:=e.2) hax).congr fun j=>?_
   rw[aQ he];exact(JD _ e.1 e.2 j).symm
  ·rintro σ H' ⟨v1,v2,rfl,sm,hR'⟩
   rw[hE.1,List.take_length]at hR';exact⟨_,rfl,q _ _ sm hD hR'.lstP⟩
def Bz:Sp:=fun vs H Q _=>∃(a:Addr) (n:Nat) (g:Graph),vs=[iN n,.ref a]∧bS bN H a g∧Small g n∧g.length<=9216∧n<=96∧Bh rY H Q ((List.range n).map (bH g))
theorem iB(T:Txt K mg A):a6 P w K mg base fe 1 A.iT A.iU ["count","pairs"] Bz:=by
 refine T.cD.ok gM (fun vs H Q E h=>?_) (fun cdv A1 outer s H vs Q E hr h=>?_)
 ·obtain⟨a,n,g,rfl,_⟩:=h;rfl
 ·obtain⟨a,n,g,rfl,⟨vs,ha,hE⟩,sg,lg,hn,q⟩:=h;refine⟨_,(ae (iM (i:=2) rfl gM.nd rfl rfl (kK rfl rfl rfl (by decide +kernel)) (b_ rfl T.c4 (aa (pv 0) af)) (own:=[("k",3)]) (aW (show gu ["count","pairs","above","k","p","q"] (aj kM) _ _=true from by decide +kernel)) (fun _ _ _ _ _=>(aG (i:=3) gM.nd rfl (Or.inl rfl) (.inr rfl))) (fun _ _ _ _ _=>bX) (fun _ _ _ _ _=>(bE af)))
 (
 ae (cF PassesOwn.never rfl (aX (pv 1)) (tj rfl (bV (aG (i:=4) gM.nd rfl (Or.inl rfl)) (bV (aG (i:=5) gM.nd rfl (Or.inl rfl)) md)))
 (ai (cA (jK F.plainAttrs_list F.slot_list_append F.type_list_append cP (aO aJ (pv 2) (pv 5) (fun _ _=>rfl)) (aa (pv 4) af)))))
 (ai (ay (pv 2))))),?_⟩
  refine⟨_,rfl,_,rfl,by lia,by lia,fun D hD=>?_⟩;rw[vw (show n=n from rfl)];refine xg (fun x=>rfl) hD (by lia) fun H1 as sm1 hR hf=>?_
  have aD:a≠D:=ao ha hD;refine⟨_,rfl,a,rfl,⟨_,aP.of (sm1 _ _ ha)⟩,cU (K:=K) (a:=a) (xs:=vs) (fun i σ H'=>∃v1 v2:Option V,σ=[some (iN n),some (.ref a),some (.ref D),none,v1,v2]∧aq H H'∧Rows H' D as (bH (g.take i)) n)
   ⟨none,none,rfl,sm1,hR⟩ (fun i σ H' _ ⟨_,_,_,sm,_⟩=>aP.of (sm _ _ ha)) ?_ ?_⟩
  ·rintro i x σ H' hi ⟨v1,v2,rfl,sm,hR'⟩
   obtain⟨e,he,b,rfl,hb⟩:=hE.get hi;have hs:=sg e.1 e.2 (List.mem_of_getElem? he);have hal:e.2<as.length:=by rw[hR.len];exact hs.2
   have hax:=List.getElem?_eq_getElem hal;have hrow:=hR'.at_ _ _ hax;refine⟨b,_,rfl,jP.of (sm _ _ hb),rfl,_,_,rfl,_,_,rfl,rfl,?_⟩;refine⟨_,rfl,_,rfl,D,_,_,.ref as[e.2],rfl,rfl,aP.of hR'.lst,at_of (j:=e.2) rfl (by rw[List.getElem?_map,hax];rfl),.inl ⟨rfl,_,aP.of hrow⟩,_,rfl,as[e.2],_,_,rfl,rfl,hrow,small (by rw[aB];have:=xh (g.take i) e.2;have:=vx g i;lia),?_⟩;refine⟨_,_,rfl,aq.put sm (hf _ (List.mem_of_getElem? hax)),?_⟩;refine(hR'.push (q:=e.1) hax).congr fun j=>?_
   rw[aQ he];exact(Hu _ e.1 e.2 j).symm
  ·rintro σ H' ⟨v1,v2,rfl,sm,hR'⟩
   rw[hE.1,List.take_length]at hR';exact⟨_,rfl,q _ _ sm hD hR'.lstP⟩
def BA:Sp:=fun vs H Q _=>∃(a:Addr) (n:Nat) (es:List (Nat×Nat)),vs=[iN n,.ref a]∧bS bN H a es∧(∀e,e∈es->e.1<n∧e.2<n∧e.1≠e.2)∧es.length<=9216∧n<=96∧Bh rY H Q ((List.range n).map (gx es))
theorem qV(T:Txt K mg A):a6 P w K mg base fe 1 A.iX A.iY ["count","apart"] BA:=by
 refine T.gq.ok gP (fun vs H Q E h=>?_) (fun cdv A1 outer s H vs Q E hr h=>?_)
 ·obtain⟨a,n,g,rfl,_⟩:=h;rfl
 ·obtain⟨a,n,g,rfl,⟨vs,ha,hE⟩,sg,lg,hn,q⟩:=h;refine⟨_,(ae (iM (i:=2) rfl gP.nd rfl rfl (kK rfl rfl rfl (by decide +kernel)) (b_ rfl T.c4 (aa (pv 0) af)) (own:=[("k",3)]) (aW (show gu ["count","apart","lists","k","p","q"] (aj kP) _ _=true from by decide +kernel)) (fun _ _ _ _ _=>(aG (i:=3) gP.nd rfl (Or.inl rfl) (.inr rfl))) (fun _ _ _ _ _=>bX) (fun _ _ _ _ _=>(bE af)))
 (
 ae (cF PassesOwn.never rfl (aX (pv 1)) (tj rfl (bV (aG (i:=4) gP.nd rfl (Or.inl rfl)) (bV (aG (i:=5) gP.nd rfl (Or.inl rfl)) md)))
 (ae (cA (jK F.plainAttrs_list F.slot_list_append F.type_list_append cP (aO aJ (pv 2) (pv 4) (fun _ _=>rfl)) (aa (pv 5) af)))
 (ai (cA (jK F.plainAttrs_list F.slot_list_append F.type_list_append cP (aO aJ (pv 2) (pv 5) (fun _ _=>rfl)) (aa (pv 4) af))))))
 (ai (ay (pv 2))))),?_⟩
  refine⟨_,rfl,_,rfl,by lia,by lia,fun D hD=>?_⟩;rw[vw (show n=n from rfl)];refine xg (fun x=>rfl) hD (by lia) fun H1 as sm1 hR hf=>?_
  have aD:a≠D:=ao ha hD;refine⟨_,rfl,a,rfl,⟨_,aP.of (sm1 _ _ ha)⟩,cU (K:=K) (a:=a) (xs:=vs) (fun i σ H'=>∃v1 v2:Option V,σ=[some (iN n),some (.ref a),some (.ref D),none,v1,v2]∧aq H H'∧Rows H' D as (gx (g.take i)) n)
   ⟨none,none,rfl,sm1,hR⟩ (fun i σ H' _ ⟨_,_,_,sm,_⟩=>aP.of (sm _ _ ha)) ?_ ?_⟩
  ·rintro i x σ H' hi ⟨v1,v2,rfl,sm,hR'⟩
   obtain⟨e,he,b,rfl,hb⟩:=hE.get hi;have hs:=sg e (List.mem_of_getElem? he);have hal:e.1<as.length:=by rw[hR.len];exact hs.1
   have hal2:e.2<as.length:=by rw[hR.len];exact hs.2.1
   have hax:=List.getElem?_eq_getElem hal;have hay:=List.getElem?_eq_getElem hal2;have hrow:=hR'.at_ _ _ hax;have hR2:=hR'.push (q:=e.2) hax;have hrow2:=hR2.at_ _ _ hay;refine⟨b,_,rfl,jP.of (sm _ _ hb),rfl,_,_,rfl,_,_,rfl,rfl,?_⟩;refine⟨_,rfl,_,rfl,D,_,_,.ref as[e.1],rfl,rfl,aP.of hR'.lst,at_of (j:=e.1) rfl (by rw[List.getElem?_map,hax];rfl),.inl ⟨rfl,_,aP.of hrow⟩,_,rfl,as[e.1],_,_,rfl,rfl,hrow,small (by rw[aB];have:=wg (g.take i) e.1;have:=vx g i;lia),?_⟩;refine⟨_,rfl,_,rfl,D,_,_,.ref as[e.2],rfl,rfl,aP.of hR2.lst,at_of (j:=e.2) rfl (by rw[List.getElem?_map,hay];rfl),.inl ⟨rfl,_,aP.of hrow2⟩,_,rfl,as[e.2],_,_,rfl,rfl,hrow2,small (by rw[aB,if_neg (fun z=>hs.2.2 z.symm)];have:=wg (g.take i) e.2;have:=vx g i;lia),?_⟩;refine⟨_,_,rfl,aq.put (aq.put sm (hf _ (List.mem_of_getElem? hax))) (hf _ (List.mem_of_getElem? hay)),?_⟩;refine(hR2.push (q:=e.1) hay).congr fun j=>?_
   rw[aQ he];have:=ID (g.take i) e.1 e.2 j;rw[show(e.1,e.2)=e from rfl]at this;rw[this];by_cases e1:j=e.2
   ·subst e1;rw[if_pos rfl,if_neg (fun z=>hs.2.2 z.symm),if_neg hs.2.2,if_pos rfl]
   ·rw[if_neg e1];by_cases e2:j=e.1
    ·subst e2;rw[if_pos rfl,if_pos rfl]
    ·rw[if_neg e2,if_neg (fun z=>e2 z.symm),if_neg (fun z=>e1 z.symm),List.append_nil]
  ·rintro σ H' ⟨v1,v2,rfl,sm,hR'⟩
   rw[hE.1,List.take_length]at hR';exact⟨_,rfl,q _ _ sm hD hR'.lstP⟩
end
end Pc
end
section
namespace Pc
open PySem PySem.Spec PyProof.Rows L2
open Vbpcan (State Piece Graph)
abbrev kN(n:Nat):Key:=Sum.inl (n:Int)
structure DN(H0 H:Hp)(d:Addr)(kvs:List (Key×V))(ks:List Nat)(F:Nat->List Nat):Prop where
 rT:H d=some (.dK kvs)
 keys:kvs.map (·.1)=ks.map kN
 nd:ks.Nodup
 mem:∀n,n∈ks↔(n≠0∧F n≠[])
 lt:∀n,n∈ks->n<1000
 val:∀n,n∈ks->∃a,gv kvs (kN n)=some (.ref a)∧H a=some (.lst (nats (F n)))∧H0 a=none
theorem DN.no{H0 H:Hp}{d:Addr}{kvs:List (Key×V)}{ks:List Nat}{F:Nat->List Nat}(h:DN H0 H d kvs ks F){n:Nat}(hn:n ∉ ks):gv kvs (kN n)=none:=by
 cases e:gv kvs (kN n)with
 | none=>rfl
 | some v=>
  have:=K3 e;rw[h.keys]at this;obtain⟨m,hm,q⟩:=List.mem_map.mp this;have:(m:Int)=(n:Int):=Sum.inl.inj q;have:m=n:=by lia
  subst this;exact absurd hm hn
theorem DN.mono{H0 H H':Hp}{d:Addr}{kvs:List (Key×V)}{ks:List Nat}{F:Nat->List Nat}(h:DN H0 H d kvs ks F)(e:aq H H'):DN H0 H' d kvs ks F:=
 ⟨e _ _ h.rT,h.keys,h.nd,h.mem,h.lt,fun n hn=>let ⟨a,h1,h2,h3⟩:=h.val n hn;⟨a,h1,e _ _ h2,h3⟩⟩
theorem DN.congr{H0 H:Hp}{d:Addr}{kvs:List (Key×V)}{ks:List Nat}{F F':Nat->List Nat}(h:DN H0 H d kvs ks F)(e:∀n,n≠0->F n=F' n):DN H0 H d kvs ks F':=
 ⟨h.rT,h.keys,h.nd,fun n=>by
  rw[h.mem];constructor
  ·rintro ⟨h1,h2⟩;exact⟨h1,by rw[<-e n h1];exact h2⟩
  ·rintro ⟨h1,h2⟩;exact⟨h1,by rw[e n h1];exact h2⟩,h.lt,fun n hn=>by
  rw[<-e n ((h.mem n).mp hn).1];exact h.val n hn⟩
theorem DN.Tt{H0 H:Hp}{d:Addr}{kvs:List (Key×V)}{ks:List Nat}{F:Nat->List Nat}(h:DN H0 H d kvs ks F):kvs.length<=1000:=by
 have h1:=gC 1000 ks h.nd h.lt;have h2:=congrArg List.length h.keys;rw[List.length_map,List.length_map]at h2;lia
theorem DN.put{H0 H:Hp}{d p:Addr}{kvs:List (Key×V)}{ks:List Nat}{F:Nat->List Nat}{n i:Nat}(h:DN H0 H d kvs ks F)(h0:n≠0)(hn:n<1000)(hp:H p=none)(hp0:H0 p=none) :
  DN H0 (upd (upd H p (.lst (nats (F n++[i])))) d (.dK (putK kvs (kN n) (.ref p)))) d (putK kvs (kN n) (.ref p)) (if n∈ks then ks else ks++[n]) (fun m=>if m=n then F n++[i]else F m):=by
 have dp:d≠p:=ao h.rT hp;have at_:∀m a,m∈ks->gv kvs (kN m)=some (.ref a)->H a=some (.lst (nats (F m)))->(upd (upd H p (.lst (nats (F n++[i])))) d (.dK (putK kvs (kN n) (.ref p)))) a=some (.lst (nats (F m))):=fun m a _ _ ha=>by
  rw[ak (cj ha h.rT (by intro z;cases z)),ak (ao ha hp)];exact ha
 have new:(upd (upd H p (.lst (nats (F n++[i])))) d (.dK (putK kvs (kN n) (.ref p)))) p=some (.lst (nats (F n++[i]))):=by rw[ak (Ne.symm dp),ah]
 have inj:∀m,kN m=kN n↔m=n:=fun m=>⟨fun z=>by have:(m:Int)=(n:Int):=Sum.inl.inj z;lia,fun z=>by rw[z]⟩
 by_cases hk:n∈ks
 ·rw[if_pos hk];obtain⟨a0,hv0,_⟩:=h.val n hk;refine⟨ah,?_,h.nd,fun m=>?_,h.lt,fun m hm=>?_⟩
  ·rw[<-h.keys];unfold putK;rw[if_pos (by rw[mK,hv0];rfl),List.map_map];refine List.map_congr_left fun kv _=>?_
   show(if kv.1=kN n then(kv.1,V.ref p)else kv).1=kv.1
   split <;> rfl
  ·by_cases e:m=n
   ·subst e;rw[if_pos rfl];exact⟨fun _=>⟨h0,by simp⟩,fun _=>hk⟩
   ·rw[if_neg e];exact h.mem m
  ·rw[uP];by_cases e:m=n
   ·subst e;rw[if_pos rfl,if_pos rfl];exact⟨p,rfl,new,hp0⟩
   ·rw[if_neg e,if_neg (fun z=>e ((inj m).mp z))];obtain⟨a,h1,h2,h3⟩:=h.val m hm;exact⟨a,h1,at_ m a hm h1 h2,h3⟩
 ·rw[if_neg hk];have hv:=h.no hk;refine⟨ah,?_,?_,fun m=>?_,fun m hm=>?_,fun m hm=>?_⟩
  ·rw[AE _ hv,List.map_append,List.map_append,h.keys];rfl
  ·refine List.nodup_append.mpr ⟨h.nd,by simp,fun x hx y hy e=>?_⟩;have:y=n:=by simpa using hy
   rw[e,this]at hx;exact hk hx
  ·rw[List.mem_append,List.mem_singleton];by_cases e:m=n
   ·subst e;rw[if_pos rfl];exact⟨fun _=>⟨h0,by simp⟩,fun _=>.inr rfl⟩
   ·rw[if_neg e,<-h.mem m];exact⟨fun z=>z.resolve_right e,.inl⟩
  ·rcases List.mem_append.mp hm with z | z
   ·exact h.lt m z
   ·have:m=n:=by simpa using z
    rw[this];exact hn
  ·rw[uP];by_cases e:m=n
   ·subst e;rw[if_pos rfl,if_pos rfl];exact⟨p,rfl,new,hp0⟩
   ·rw[if_neg e,if_neg (fun z=>e ((inj m).mp z))];have hm':m∈ks:=by
     rcases List.mem_append.mp hm with z | z
     ·exact z
     ·exact absurd (by simpa using z) e
    obtain⟨a,h1,h2,h3⟩:=h.val m hm';exact⟨a,h1,at_ m a hm' h1 h2,h3⟩
theorem Hv{s:State}(F:Cq s){n:Nat}:n∈Vbpcan.nets s↔n≠0∧Vbpcan.pinsOf s n≠[]:=by
 constructor
 ·intro h;exact⟨(mC.mp h).1,mj F h⟩
 ·rintro ⟨h0,h⟩
  obtain⟨c,hc⟩:=List.exists_mem_of_ne_nil _ h;have:=mD.mp hc;refine mC.mpr ⟨h0,?_⟩;rcases this.2 with z | z
  ·exact .inl (by rw[<-z];exact NR this.1)
  ·exact .inr (by rw[<-z];exact NR (by rw[F.len];exact this.1))
theorem MK{ks l:List Nat}{ns':List Int}(hp:ns'.Perm (ks.map fun(n:Nat)=>(n:Int)))(hs:ns'.Pairwise (·<=·))(hn:ks.Nodup)(hl:l.Pairwise (· < ·))(hm:∀n,n∈ks↔n∈l):ns'=l.map fun(n:Nat)=>(n:Int):=by
 have nd:ns'.Nodup:=hp.nodup_iff.mpr (List.pairwise_map.mpr (hn.imp fun {a b} h e=>h (by lia)));have st:ns'.Pairwise (· < ·):=(List.Pairwise.and hs nd).imp fun⟨h1,h2⟩=>by lia
 have sl:(l.map fun(n:Nat)=>(n:Int)).Pairwise (· < ·):=List.Pairwise.map _ (fun a b hab=>by lia) hl;refine EC (lt:=fun a b=>a<b) (fun a=>by lia) (fun a b c h1 h2=>by lia) st sl fun x=>?_
 rw[hp.mem_iff,List.mem_map,List.mem_map];constructor
 ·rintro ⟨n,h1,h2⟩;exact⟨n,(hm n).mp h1,h2⟩
 ·rintro ⟨n,h1,h2⟩;exact⟨n,(hm n).mpr h1,h2⟩
theorem BB(i:Nat)(l:List Nat):(!Ot (.int (0+(i:Int))) (nats l))=!decide (i∈l):=by
 rw[Fo,aV]
 congr 1
 rw[Bool.eq_iff_iff,decide_eq_true_eq,decide_eq_true_eq,List.mem_map];constructor
 ·rintro ⟨x,h1,h2⟩
  have:x=i:=by lia
  rw[<-this];exact h1
 ·intro h;exact⟨i,h,rfl⟩
section
variable{P:Program}{w:World}{K:W.Frag}{mg:Str->Option Value}{base:Heap}{A:iL}
def O6(H0 H:Hp)(v:V)(x:Nat×List Nat):Prop:=∃b c,v=.ref b∧H b=some (.tup [iN x.1,.ref c])∧H c=some (.lst (nats x.2))∧H0 c=none
theorem O6.mono(H0:Hp):qk (O6 H0):=fun _ _ _ _ e ⟨b,c,h1,h2,h3,h4⟩=>⟨b,c,h1,e _ _ h2,e _ _ h3,h4⟩
def JE(s:State):List (Nat×List Nat):=(Vbpcan.nets s).map fun n=>(n,Vbpcan.pinsOf s n)
def JF(A:iL):Sp:=fun vs H Q _=>∃(c u l:Addr) (s:State),vs=[.ref c]∧ff A.aw H c u l s∧Bh (O6 H) H Q (JE s)
def FF(s:State)(i:Nat):Nat->Nat->List Nat
 | 0=>cQ s i
 | 1=>half s i
 | _=>cQ s (i+1)
theorem t7(T:Txt K mg A):a6 P w K mg base fe 1 A.oo A.oq ["channel"] (JF A):=by
 refine T.kG.ok jC (fun vs H Q E h=>?_) (fun cdv A1 outer s H vs Q E hr h=>?_)
 ·obtain⟨c,u,l,st,rfl,_⟩:=h;rfl
 ·obtain⟨c,u,l,st,rfl,hC,q⟩:=h;refine⟨_,(ae (aI (i:=1) jC.nd rfl (Or.inr rfl) Oy)
 (
 ae (cF PassesOwn.never rfl (b_ rfl T.c4 (aa (aK ax (by rfl) T.bP bh (aa (bC (pv 0) rfl) af)) af)) (aG (i:=2) jC.nd rfl (Or.inl rfl))
 (ai (cF PassesOwn.never rfl (RW (iJ (aa (aO aJ (bC (pv 0) rfl) (pv 2) (fun _ _=>rfl)) (aa (aO aJ (bC (pv 0) rfl) (pv 2) (fun _ _=>rfl)) af)))) (aG (i:=3) jC.nd rfl (Or.inl rfl))
 (ae (aI (i:=4) jC.nd rfl (Or.inl rfl) (OC (nq hr) (pv 1) (pv 3) (bE af) ⟨rfl,rfl,rfl,rfl⟩))
 (ai (br (PW.pt (oQ (aH pB (pv 3) (aL (v:=.int 0) rfl T.u9.choose_spec ⟨_,rfl⟩) (aM _)) (ma (aH E4 (pv 2) (pv 4) (by with_unfolding_all rfl))))) (ai (zM (nq hr) (pv 1) (pv 3) (bL tE (pv 4) (bE (aa (pv 2) af))) rfl)) aS))))))
 (ai (ay (fq rfl jC.nd (aX (aK (GS rfl) (by rfl) T.vd rK (aa (pv 1) af))) (own:=[("net",3)]) (aW (show gu ["channel","found","column","net","columns"] (aj rQ) _ _=true from by decide +kernel)) (fun _ _ _ _ _=>(aG (i:=3) jC.nd rfl (Or.inl rfl) (.inr rfl))) (fun _ _ _ _ _=>bX) (fun _ _ _ _ _=>(iJ (aa (pv 3) (aa (zL (nq hr) (pv 1) (pv 3) (fun _ _=>rfl)) af))))))))),?_⟩
  have fit:=hC.fit;have hcol:=fit.cols;obtain⟨dx,hc⟩:=hC.obj;intro d hd;have s0:aq H (upd H d (.dK [])):=aq.new hd;refine⟨_,rfl,c,_,dx,_,_,rfl,s0 _ _ hc,T.aF,T.az,rfl,u,_,rfl,.inl (aP.of (s0 _ _ hC.up)),_,rfl,by rw[aB];lia,by rw[aB];lia,?_⟩;rw[vw (aB _)];refine jJ (n:=st.top.length) (fun i σ H'=>∃v2 v3 v4:Option V,σ=[some (.ref c),some (.ref d),v2,v3,v4]∧aq H H'∧∃kvs ks,DN H H' d kvs ks (cQ st i)) ⟨none,none,none,rfl,s0,[],[],ah,rfl,List.nodup_nil,fun n=>⟨fun z=>(by cases z),fun z=>absurd rfl z.2⟩,fun n z=>(by cases z),fun n z=>(by cases z)⟩ ?_ ?_
  ·rintro i σ H' hi ⟨v2,v3,v4,rfl,sm,kvs,ks,hN⟩
   have iu:=a5 (z:=(0:Int)+(i:Int)) (aV i) (cE hi);have il:=a5 (z:=(0:Int)+(i:Int)) (aV i) (cE (show i<st.low.length by rw[fit.len];exact hi));refine⟨_,rfl,c,_,dx,_,_,rfl,sm _ _ hc,T.aF,T.az,rfl,_,rfl,u,_,_,_,rfl,rfl,aP.of (sm _ _ hC.up),iu,_,rfl,c,_,dx,_,_,rfl,sm _ _ hc,T.aF,T.aN,rfl,_,rfl,l,_,_,_,rfl,rfl,aP.of (sm _ _ hC.lo),il,(by show 2<=sizeLine;decide),fun t ht=>?_⟩;have htf:H t=none:=sm.free ht;refine⟨t,rfl,⟨_,jP.of ah⟩,Qo (K:=K) (a:=t) (xs:=[iN (Vbpcan.at_ st.top i),iN (Vbpcan.at_ st.low i)]) (fun j σ H2=>∃v3 v4:Option V,σ=[some (.ref c),some (.ref d),some (.int (0+(i:Int))),v3,v4]∧aq H H2∧H2 t=some (.tup [iN (Vbpcan.at_ st.top i),iN (Vbpcan.at_ st.low i)])∧∃kvs ks,DN H H2 d kvs ks (FF st i j))
    ⟨_,_,rfl,sm.trans (aq.new ht),ah,kvs,ks,hN.mono (aq.new ht)⟩ (fun j σ H2 _ ⟨_,_,_,_,e,_⟩=>jP.of e) ?_ ?_⟩
   ·rintro j x σ H2 hj ⟨v3,v4,rfl,sm2,htH,kvs,ks,hN⟩
    obtain⟨n,hxn,hn9,hstep⟩:∃n:Nat,x=iN n∧n<=999∧(∀m,m≠0->(if m=n∧i ∉ FF st i j n then FF st i j n++[i]else FF st i j m)=FF st i (j+1) m):=by
     match j,hj with
     | 0,hj=>
      have e:iN (Vbpcan.at_ st.top i)=x:=Option.some.inj hj;refine⟨_,e.symm,RC fit i,fun m _=>?_⟩
      show(if m=Vbpcan.at_ st.top i∧i ∉ cQ st i (Vbpcan.at_ st.top i)then cQ st i (Vbpcan.at_ st.top i)++[i]else cQ st i m)=half st i m
      unfold half;by_cases em:m=Vbpcan.at_ st.top i
      ·subst em;rw[if_pos ⟨rfl,fun z=>Nat.lt_irrefl i (DT z)⟩,if_pos rfl]
      ·rw[if_neg (fun z=>em z.1),if_neg (fun z=>em z.symm),List.append_nil]
     | 1,hj=>
      have e:iN (Vbpcan.at_ st.low i)=x:=Option.some.inj hj;refine⟨_,e.symm,RD fit i,fun m _=>?_⟩
      show(if m=Vbpcan.at_ st.low i∧i ∉ half st i (Vbpcan.at_ st.low i)then half st i (Vbpcan.at_ st.low i)++[i]else half st i m)=cQ st (i+1) m
      rw[Gb];by_cases em:m=Vbpcan.at_ st.low i
      ·subst em;by_cases hi2:i∈half st i (Vbpcan.at_ st.low i)
       ·rw[if_neg (fun z=>z.2 hi2),if_pos hi2]
       ·rw[if_pos ⟨rfl,hi2⟩,if_neg hi2,if_pos rfl]
      ·rw[if_neg (fun z=>em z.1),if_neg (fun z:Vbpcan.at_ st.low i=m=>em z.symm),List.append_nil]
       split <;> rfl
     | j+2,hj=>cases hj
    subst hxn;refine⟨_,rfl,d,rfl,.inl ⟨kvs,.inl hN.rT⟩,_,rfl,Nat.zero_le _,fun z hz=>?_⟩;have hz1:aq H2 (upd H2 z (.lst [])):=aq.new hz;have hN1:=hN.mono hz1;refine⟨_,kg.k (k:=kN n) hN1.rT,?_⟩;obtain⟨y,ey,hy⟩:∃y,(gv kvs (kN n)).getD (.ref z)=.ref y∧upd H2 z (.lst []) y=some (.lst (nats (if n=0 then []else FF st i j n))):=by
     by_cases hk:n∈ks
     ·obtain⟨a,h1,h2,_⟩:=hN1.val n hk;exact⟨a,by rw[h1];rfl,by rw[if_neg ((hN.mem n).mp hk).1];exact h2⟩
     ·refine⟨z,by rw[hN.no hk];rfl,?_⟩;rw[ah];by_cases h0:n=0
      ·rw[if_pos h0];rfl
      ·rw[if_neg h0];have:FF st i j n=[]:=Classical.byContradiction fun w=>hk ((hN.mem n).mpr ⟨h0,w⟩)
       rw[this];rfl
    rw[ey];refine⟨_,rfl,rfl,_,rfl,Hi (Q:=fun b=>if b=true then _ else _) (fun hq=>⟨_,rfl,_,rfl,y,_,rfl,.inl (aP.of hy),rfl,w8 _,_,rfl,hq⟩) (bF (fun h=>?_) fun h=>?_)⟩
    ·have h:(!decide (V.int (n:Int)=V.int 0) && !Ot (.int (0+(i:Int))) (nats (if n=0 then []else FF st i j n)))=true:=h;rw[el,BB,Bool.and_eq_true]at h;have h0:n≠0:=by simp at h;exact h.1
     have hiF:i ∉ FF st i j n:=by
      have:=h.2;rw[if_neg h0]at this;simpa using this
     rw[if_neg h0]at hy;refine⟨_,rfl,_,rfl,(by show 1<=sizeLine;decide),fun x1 hx1=>?_⟩;have hy2:=(aq.new (o:=.lst [V.int (0+(i:Int))]) hx1) _ _ hy;have hlF:(FF st i j n).length<=49:=by
      match j with
      | 0=>
       have:=List.length_filter_le (fun c=>Vbpcan.at_ st.top c == n || Vbpcan.at_ st.low c == n) (List.range i);rw[List.length_range]at this
       show(cQ st i n).length<=49
       unfold cQ;lia
      | 1=>
       have:=List.length_filter_le (fun c=>Vbpcan.at_ st.top c == n || Vbpcan.at_ st.low c == n) (List.range i);rw[List.length_range]at this
       show(half st i n).length<=49
       unfold half cQ;rw[List.length_append];split <;> simp <;> lia
      | j+2=>cases hj
     refine⟨y,x1,_,_,rfl,rfl,hy2,ah,jy (by rw[aB];show _+1<=16000000;lia),fun p hp=>?_⟩;have hN2:=(hN1.mono (aq.new (o:=.lst [V.int (0+(i:Int))]) hx1));have eL:nats (FF st i j n)++[V.int (0+(i:Int))]=nats (FF st i j n++[i]):=by rw[aV];exact jL _ i
     have smA:=(sm2.trans hz1).trans (aq.new (o:=.lst [V.int (0+(i:Int))]) hx1);have hN3:=hN2.put (n:=n) (i:=i) h0 (by lia) hp (smA.free hp);refine⟨_,rfl,_,rfl,d,_,rfl,AF.k (k:=kN n) ((aq.new hp) _ _ hN2.rT) (small (by have:=hN2.Tt;lia)),?_⟩;refine⟨_,_,rfl,?_,?_,_,_,DN.congr (by rw[eL];exact hN3) fun m hm=>?_⟩
     ·exact aq.put (aq.put smA (smA.free hp)) hd
     ·have td:t≠d:=cj htH hN.rT (by intro z;cases z);rw[ak td];exact(aq.new hp) _ _ ((aq.new hx1) _ _ (hz1 _ _ htH))
     ·rw[<-hstep m hm];by_cases em:m=n
      ·subst em;rw[if_pos rfl,if_pos ⟨rfl,hiF⟩]
      ·rw[if_neg em,if_neg (fun z=>em z.1)]
    ·have h:(!decide (V.int (n:Int)=V.int 0) && !Ot (.int (0+(i:Int))) (nats (if n=0 then []else FF st i j n)))=false:=h;rw[el,BB]at h;refine⟨_,_,rfl,sm2.trans hz1,hz1 _ _ htH,kvs,ks,hN1.congr fun m hm=>?_⟩;rw[<-hstep m hm];by_cases em:m=n
     ·subst em;have:i∈FF st i j m:=by
       rw[if_neg hm]at h;simp at h;exact h hm
      rw[if_neg (fun z=>z.2 this)]
     ·rw[if_neg (fun z=>em z.1)]
   ·rintro σ H2 ⟨v3,v4,rfl,sm2,htH,kvs,ks,hN⟩
    exact⟨_,_,_,rfl,sm2,kvs,ks,hN⟩
  ·rintro σ H' ⟨v2,v3,v4,rfl,sm,kvs,ks,hN⟩
   refine⟨_,rfl,d,kvs,ks.map (fun(n:Nat)=>(n:Int)),rfl,hN.rT,by rw[hN.keys,List.map_map];rfl,fun ns' p hp hs hpn=>?_⟩;have e:=MK hp hs hN.nd (Kz st) fun n=>by rw[hN.mem,Hv fit];rfl
   subst e;have hN1:=hN.mono (aq.new (o:=.lst (((Vbpcan.nets st).map fun(n:Nat)=>(n:Int)).map V.int)) hpn);have eN:((Vbpcan.nets st).map fun(n:Nat)=>(n:Int)).map V.int=nats (Vbpcan.nets st):=(ka _).symm;refine⟨p,rfl,⟨_,aP.of ah⟩,fun D hD=>bx (R:=O6 H) (O6.mono H) (ys:=Vbpcan.nets st) (xs:=nats (Vbpcan.nets st)) (aB _) (fun n=>some (n,Vbpcan.pinsOf st n)) hD (by have:=EG fit;lia) (aP.of (by rw[<-eN];exact ah)) (fun j v n H2 Yes No hv hn sm2 hDd yes no=>?_) fun H2 sm2 L=>?_⟩
   ·obtain⟨y,hy,rfl⟩:=bJ hv;rw[hn]at hy;cases hy;have hm:=Hv fit |>.mp (List.mem_of_getElem? hn)
    obtain⟨a,h1,h2,h3⟩:=hN1.val n ((hN.mem n).mpr hm);have hN2:=hN1.mono sm2;have dg:kg H2 d (.int (n:Int)) (some (.ref a)):=by
     have:=kg.k (k:=kN n) hN2.rT;rw[h1]at this;exact this
    refine⟨rfl,nP ⟨_,rfl,_,rfl,_,rfl,d,_,rfl,dg,(by show 2<=sizeLine;decide),fun b hb=>yes _ _ _ rfl (aq.new hb) ⟨b,a,rfl,mM hDd hb,?_,h3⟩⟩⟩;rw[cC (ao h2 hD),ak (ao (sm2 _ _ h2) hb)];exact sm2 _ _ h2
   ·rw[filterMap_some]at L;exact q _ _ ((sm.trans (aq.new hpn)).trans sm2) (sm.free ((aq.new hpn).free hD)) L
end
end Pc
end
section
namespace Pc
open PySem PySem.Spec PyProof.Rows L2
open Vbpcan (State Piece Graph)
theorem getD_some{l:List Nat}{k:Nat}(h:k<l.length):l[k]? = some (l.getD k 0):=by
 rw[List.getD_eq_getElem?_getD,List.getElem?_eq_getElem h];rfl
theorem FC{l:List Nat}(h:l≠[]):EX (nats l) (-1)=some (iN (l.getD (l.length - 1) 0)):=by
 have hl:0<l.length:=List.length_pos_iff.mpr h;have e:=getD_some (l:=l) (k:=l.length - 1) (by lia);have h1:=AO e;unfold EX Qc;rw[if_neg (by lia),if_pos (by rw[aB];lia),show((-1:Int)+((nats l).length:Int)).toNat=l.length - 1 by rw[aB];lia];exact h1
section
variable{P:Program}{w:World}{K:W.Frag}{mg:Str->Option Value}{base:Heap}{A:iL}
def xk:Sp:=fun vs H Q _=>∃(a:Addr) (s:State) (n:Nat),vs=[iN n,.ref a,.int (Mi s)]∧H a=some (.lst (nats (Vbpcan.pinsOf s n)))∧Vbpcan.pinsOf s n≠[]∧(Vbpcan.pinsOf s n).length<=48∧Bh a7 H Q (Vbpcan.piecesOf s n)
theorem xl(T:Txt K mg A):a6 P w K mg base fe 1 A.fJ A.fK ["net","columns","mode"] xk:=by
 refine T.fZ.ok kC (fun vs H Q E h=>?_) (fun cdv A1 outer s H vs Q E hr h=>?_)
 ·obtain⟨a,st,n,rfl,_⟩:=h;rfl
 ·obtain⟨a,st,n,rfl,ha,hne,hl,q⟩:=h;refine⟨_,(ae (br (PW.pt (oQ (aH bW (pv 2) (aL (v:=.int 1) rfl T.Bd.choose_spec ⟨_,rfl⟩) (aM _)) (ma (aH yi (aK ax (by rfl) T.bP bh (aa (pv 1) af)) aC (aM _))))) (ai (ay (fq rfl kC.nd (b_ rfl T.c4 (aa (bL wk (aK ax (by rfl) T.bP bh (aa (pv 1) af)) aC) af)) (own:=[("k",3)]) (aW (show gu ["net","columns","mode","k"] (aj js) _ _=true from by decide +kernel)) (fun _ _ _ _ _=>(aG (i:=3) kC.nd rfl (Or.inl rfl) (.inr rfl))) (fun _ _ _ _ _=>bX) (fun _ _ _ _ _=>(iJ (aa (pv 0) (aa (aO (r:=jQ K) aJ (pv 1) (pv 3) (fun _ _=>rfl)) (aa (aO (r:=jQ K) aJ (pv 1) (bL mI (pv 3) aC) (fun _ _=>rfl)) af)))))))) aS)
 (ai (ay (bE (aa (iJ (aa (pv 0) (aa (aO aJ (pv 1) aC (fun _ _=>rfl)) (aa (aO aJ (pv 1) (KQ EW aC) (fun _ _=>rfl)) af)))) af))))),?_⟩
  have hpos:0<(Vbpcan.pinsOf st n).length:=List.length_pos_iff.mpr hne;have ec:decide (V.int (Mi st)=V.int 1)=st.cut:=by
   rw[el];unfold Mi;cases st.cut <;> rfl
  refine⟨_,rfl,rfl,_,rfl,Hi (b2:=decide (1<(Vbpcan.pinsOf st n).length)) (Q:=fun b=>if b=true then _ else _) (fun hq=>⟨_,rfl,a,_,rfl,.inl (aP.of ha),_,_,rfl,rfl,_,rfl,?_⟩) (bF (fun h=>?_) fun h=>?_)⟩
  ·show if decide ((1:Int)<((nats (Vbpcan.pinsOf st n)).length:Nat))=true then _ else _
   rw[show decide ((1:Int)<((nats (Vbpcan.pinsOf st n)).length:Nat))=decide (1<(Vbpcan.pinsOf st n).length) by rw[aB];exact decLt (a:=1)];exact hq
  ·rw[ec,Bool.and_eq_true,decide_eq_true_eq]at h;rw[l6 h.1 h.2]at q;refine⟨_,rfl,a,_,rfl,.inl (aP.of ha),_,_,rfl,rfl,_,rfl,by rw[aB];lia,by rw[aB];lia,fun D hD=>?_⟩;rw[show((nats (Vbpcan.pinsOf st n)).length:Int) - 1=(((Vbpcan.pinsOf st n).length - 1:Nat):Int) by rw[aB];lia,Int.toNat_natCast];refine kr (R:=a7) a7.mono (fun k=>some ⟨n,(Vbpcan.pinsOf st n).getD k 0,(Vbpcan.pinsOf st n).getD (k+1) 0⟩) hD (by lia) (fun i H1 Yes No hi sm hDd yes no=>?_) fun H1 sm L=>?_
   ·have i1:=a5 (z:=(0:Int)+(i:Int)) (aV i) (getD_some (l:=Vbpcan.pinsOf st n) (k:=i) (by lia));have i2:=a5 (z:=(0:Int)+(i:Int)+1) (i:=i+1) (by lia) (getD_some (l:=Vbpcan.pinsOf st n) (k:=i+1) (by lia));exact⟨rfl,nP ⟨_,rfl,_,rfl,_,rfl,a,_,_,_,rfl,rfl,aP.of (sm _ _ ha),i1,_,rfl,_,rfl,_,_,rfl,rfl,a,_,_,_,rfl,rfl,aP.of (sm _ _ ha),i2,(by show 3<=sizeLine;decide),fun t ht=>yes _ _ _ rfl (aq.new ht) ⟨t,rfl,mM hDd ht⟩⟩⟩
   ·rw[filterMap_some]at L;exact q _ _ sm hD L
  ·rw[ec]at h;rw[jR (s:=st) (n:=n) (by
    cases e:st.cut with
    | false=>exact .inl rfl
    | true=>rw[e]at h;exact .inr (by simpa using h)) hne]at q
   have i1:=a5 (z:=(0:Int)) (i:=0) rfl (getD_some (l:=Vbpcan.pinsOf st n) (k:=0) hpos);have i2:=FC hne;refine⟨_,rfl,_,rfl,a,_,_,_,rfl,rfl,aP.of ha,i1,_,rfl,_,rfl,a,_,_,_,rfl,rfl,aP.of ha,i2,(by show 3<=sizeLine;decide),fun t ht=>⟨(by show 1<=sizeLine;decide),fun p hp=>?_⟩⟩;refine q _ p ((aq.new ht).trans (aq.new hp)) ((aq.new ht).free hp) ⟨_,ah,rfl,fun i x hx=>?_⟩
   match i,hx with
   | 0,hx=>
    have e:_=x:=Option.some.inj hx;subst e;exact⟨.ref t,rfl,t,rfl,(aq.new hp) _ _ ah⟩
   | i+1,hx=>cases hx
def jq(s:State)(i:Nat):List Piece:=((Vbpcan.nets s).take i).flatMap (Vbpcan.piecesOf s)
theorem CQ{s:State}{i n:Nat}(h:(Vbpcan.nets s)[i]? = some n):jq s (i+1)=jq s i++Vbpcan.piecesOf s n:=by
 unfold jq;rw[aQ h,List.flatMap_append];simp
theorem Hw{s:State}(F:Cq s)(i:Nat):(jq s i).length<=96:=by
 have h1:=dz F;have h2:(Vbpcan.pieces s)=jq s i++((Vbpcan.nets s).drop i).flatMap (Vbpcan.piecesOf s):=by
  unfold jq Vbpcan.pieces;rw[<-List.flatMap_append,List.take_append_drop]
 rw[h2,List.length_append]at h1;lia
def FD(A:iL):Sp:=fun vs H Q _=>∃(c u l:Addr) (s:State),vs=[.ref c]∧ff A.aw H c u l s∧Bh a7 H Q (Vbpcan.pieces s)
theorem fo(T:Txt K mg A):a6 P w K mg base fe 2 A.lL A.lM ["channel"] (FD A):=by
 refine T.cK.ok mf (fun vs H Q E h=>?_) (fun cdv A1 outer s H vs Q E hr h=>?_)
 ·obtain⟨c,u,l,st,rfl,_⟩:=h;rfl
 ·obtain⟨c,u,l,st,rfl,hC,q⟩:=h;refine⟨_,(ae (aI (i:=1) mf.nd rfl (Or.inl rfl) (bE af))
 (
 ae (cF PassesOwn.never rfl (aX (au (t7 T) (hr.mono (by decide)) rfl T.wO T.kG.kp T.wN .nil aA (aa (pv 0) af))) (tj rfl (bV (aG (i:=2) mf.nd rfl (Or.inl rfl)) (bV (aG (i:=3) mf.nd rfl (Or.inl rfl)) md)))
 (ai (cA (jK F.plainAttrs_list F.slot_list_extend F.type_list_extend nZ (pv 1) (aa (au (xl T) (hr.mono (by decide)) rfl T.yM T.fZ.kp T.yL .nil aA (aa (pv 2) (aa (pv 3) (aa (bC (pv 0) rfl) af)))) af)))))
 (ai (ay (pv 1))))),?_⟩
  have fit:=hC.fit;obtain⟨dx,hc⟩:=hC.obj;refine⟨Nat.zero_le _,fun d hd=>?_⟩;have s0:aq H (upd H d (.lst [])):=aq.new hd;refine⟨_,rfl,c,u,l,st,rfl,hC.mono s0,fun H1 p sm1 hp hL=>?_⟩;obtain⟨vs,hv,hE⟩:=hL;have lv:=hE.1;have hd1:=sm1 _ _ (ah (H:=H) (a:=d) (o:=.lst []));have dp:d≠p:=ao ah hp;have hpf:H p=none:=s0.free hp;refine⟨p,rfl,⟨_,aP.of hv⟩,cU (K:=K) (a:=p) (xs:=vs) (fun i σ H'=>∃v2 v3:Option V,σ=[some (.ref c),some (.ref d),v2,v3]∧aq (hole H1 d) H'∧Cm a7 H d (jq st i) H') ⟨none,none,rfl,rM,⟨⟨[],hd1,Each.nil⟩,s0.trans sm1⟩⟩ (fun i σ H' _ ⟨_,_,_,sm,_⟩=>aP.of (sm _ _ (by rw[cC (Ne.symm dp)];exact hv))) ?_ ?_⟩
  ·rintro i x σ H' hi ⟨v2,v3,rfl,smh,L⟩
   obtain⟨e,he,b,cc,rfl,hb,hcc,hcf⟩:=hE.get hi;obtain⟨n,hn,rfl⟩:∃n,(Vbpcan.nets st)[i]? = some n∧(n,Vbpcan.pinsOf st n)=e:=by
    unfold JE at he;rw[List.getElem?_map,Option.map_eq_some_iff]at he;exact he
   have hm:=List.mem_of_getElem? hn;have hne:=mj fit hm;have hpl:=rm fit n;obtain⟨as0,hd',_⟩:=L.acc;have hcd:cc≠d:=fun z=>by
    subst z;rw[ah]at hcf;cases hcf
   have hb':H' b=some (.tup [iN n,.ref cc]):=smh _ _ (by rw[cC (cj hb hd1 (by intro z;cases z))];exact hb);have hcc':H' cc=some (.lst (nats (Vbpcan.pinsOf st n))):=smh _ _ (by rw[cC hcd];exact hcc);refine⟨b,_,rfl,jP.of hb',rfl,_,_,rfl,_,_,rfl,rfl,?_⟩;refine⟨_,rfl,.inl ⟨rfl,_,aP.of hd'⟩,_,rfl,_,rfl,_,rfl,c,_,dx,_,_,rfl,L.same _ _ hc,T.aF,T.eW,rfl,cc,st,n,rfl,hcc',hne,hpl,fun H2 p2 sm2 hp2 hL2=>?_⟩;have bound:(jq st i).length+(Vbpcan.piecesOf st n).length<=16000000:=by
    have h1:=Hw fit i;have h2:=uF st n;lia
   obtain⟨as1,bs,e1,e2,e3,L3⟩:=L.ext a7.mono hd sm2 hL2 (fun v e he=>he.hole (sm2 _ _ hd')) bound;rw[<-CQ hn]at L3;refine⟨d,p2,_,_,rfl,rfl,e1,e2,e3,_,_,rfl,fun b o ho=>?_,L3⟩;obtain⟨o1,o2⟩:=jM ho;rw[ak o2];exact sm2 _ _ (smh _ _ ho)
  ·rintro σ H' ⟨v2,v3,rfl,smh,L⟩
   have e:jq st vs.length=Vbpcan.pieces st:=by
    rw[lv];unfold jq JE;rw[List.length_map,List.take_length];rfl
   rw[e]at L;exact⟨_,rfl,q _ _ L.same hd (L.end_ a7.mono)⟩
def BC(s:State)(i lo m:Nat):List Nat:=(List.range s.top.length).map fun c=>jS s i c+if lo<=c∧c<lo+m then 1 else 0
theorem vy(s:State)(i lo m:Nat):(BC s i lo m).length=s.top.length:=by unfold BC;rw[List.length_map,List.length_range]
theorem FE{s:State}{i lo m c:Nat}(h:c<s.top.length):(BC s i lo m)[c]? = some (jS s i c+if lo<=c∧c<lo+m then 1 else 0):=by
 unfold BC;rw[List.getElem?_map,List.getElem?_range h];rfl
theorem O7{s:State}{i lo m:Nat}(h:lo+m<s.top.length):(BC s i lo m).set (lo+m) (jS s i (lo+m)+1)=BC s i lo (m+1):=by
 refine List.ext_getElem? fun c=>?_
 rcases Nat.lt_or_ge c s.top.length with hc | hc
 ·rw[FE hc];by_cases e:c=lo+m
  ·subst e;rw[List.getElem?_set_self (by rw[vy];exact hc),if_pos ⟨by lia,by lia⟩]
  ·rw[List.getElem?_set_ne (fun z=>e z.symm),FE hc];by_cases q:lo<=c∧c<lo+m
   ·rw[if_pos q,if_pos ⟨q.1,by lia⟩]
   ·rw[if_neg q,if_neg (fun z=>q ⟨z.1,by lia⟩)]
 ·rw[List.getElem?_eq_none (by rw[List.length_set,vy];exact hc),List.getElem?_eq_none (by rw[vy];exact hc)]
theorem ML(s:State)(i lo:Nat):BC s i lo 0=(List.range s.top.length).map (jS s i):=by
 unfold BC;refine List.map_congr_left fun c _=>?_
 rw[if_neg (by lia),Nat.add_zero]
theorem MM{s:State}{i n:Nat}(F:Cq s)(h:(Vbpcan.nets s)[i]? = some n):BC s i ((Vbpcan.pinsOf s n).getD 0 0) ((Vbpcan.pinsOf s n).getD ((Vbpcan.pinsOf s n).length - 1) 0+1 - (Vbpcan.pinsOf s n).getD 0 0)=(List.range s.top.length).map (jS s (i+1)):=by
 unfold BC;refine List.map_congr_left fun c _=>?_
 rw[Gf h,Ge (mj F (List.mem_of_getElem? h))]
 congr 1
 simp only[decide_eq_true_eq];by_cases q:(Vbpcan.pinsOf s n).getD 0 0<=c∧c<=(Vbpcan.pinsOf s n).getD ((Vbpcan.pinsOf s n).length - 1) 0
 ·rw[if_pos q,if_pos ⟨q.1,by lia⟩]
 ·rw[if_neg q,if_neg (fun z=>q ⟨z.1,by lia⟩)]
def y6(A:iL):Sp:=fun vs H Q _=>∃(c u l:Addr) (s:State),vs=[.ref c]∧ff A.aw H c u l s∧Bg H Q ((Vbpcan.columns s).map (Vbpcan.over s))
theorem vz{α:Type}(x:α)(k:Nat):(List.replicate k [x]).flatten=List.replicate k x:=by
 induction k with
 | zero=>rfl
 | succ k ih=>rw[List.replicate_succ,List.flatten_cons,ih,List.replicate_succ];rfl
theorem vA(x k:Nat):List.replicate k (iN x)=nats (List.replicate k x):=by
 unfold nats;rw[List.map_replicate]
theorem pK(T:Txt K mg A):a6 P w K mg base fe 2 A.gR A.gS ["channel"] (y6 A):=by
 refine T.eQ.ok fz (fun vs H Q E h=>?_) (fun cdv A1 outer s H vs Q E hr h=>?_)
 ·obtain⟨c,u,l,st,rfl,_⟩:=h;rfl
 ·obtain⟨c,u,l,st,rfl,hC,q⟩:=h;refine⟨_,(ae (aI (i:=1) fz.nd rfl (Or.inl rfl) (bL AB (bE (aa aC af)) (aK ax (by rfl) T.bP bh (aa (bC (pv 0) rfl) af))))
 (
 ae (cF PassesOwn.never rfl (aX (au (t7 T) (hr.mono (by decide)) rfl T.wO T.kG.kp T.wN .nil aA (aa (pv 0) af))) (tj rfl (bV (aG (i:=2) fz.nd rfl (Or.inl rfl)) (bV (aG (i:=3) fz.nd rfl (Or.inl rfl)) md)))
 (ai (cF PassesOwn.never rfl (D4 rfl T.c4 (aa (aO aJ (pv 3) aC (fun _ _=>rfl)) (aa (bL mI (aO aJ (pv 3) (KQ EW aC) (fun _ _=>rfl)) aC) af))) (aG (i:=4) fz.nd rfl (Or.inl rfl))
 (ai (KO (pv 1) (pv 4) GQ aC p_ set_list)))))
 (ai (ay (pv 1))))),?_⟩
  have fit:=hC.fit;have hcol:=fit.cols;obtain⟨dx,hc⟩:=hC.obj;refine⟨(by show 1<=sizeLine;decide),fun z hz=>?_⟩;have sz:aq H (upd H z (.lst [iN 0])):=aq.new hz;refine⟨_,rfl,c,_,dx,_,_,rfl,sz _ _ hc,T.aF,T.az,rfl,u,_,rfl,.inl (aP.of (sz _ _ hC.up)),z,_,_,rfl,rfl,ah,by rw[aB];lia,by rw[aB];lia,(by rw[aB];show 1 * _<=sizeLine;exact jy (by simp;lia)),fun d hd0=>?_⟩;have hd:H d=none:=sz.free hd0;have sd:aq H (upd (upd H z (.lst [iN 0])) d (.lst (List.replicate ((nats st.top).length:Int).toNat [iN 0]).flatten)):=sz.trans (aq.new hd0);have e0:(List.replicate ((nats st.top).length:Int).toNat [iN 0]).flatten=nats ((List.range st.top.length).map (jS st 0)):=by
   rw[Int.toNat_natCast,aB,vz,vA]
   congr 1
   refine List.ext_getElem? fun i=>?_
   rw[List.getElem?_replicate,List.getElem?_map];by_cases hi:i<st.top.length
   ·rw[if_pos hi,List.getElem?_range hi];rfl
   ·rw[if_neg hi,List.getElem?_eq_none (by simp;lia)];rfl
  refine⟨_,rfl,c,u,l,st,rfl,hC.mono sd,fun H1 p sm1 hp hL=>?_⟩;obtain⟨vs,hv,hE⟩:=hL;have lv:=hE.1;have hd1:=sm1 _ _ (ah (H:=upd H z (.lst [iN 0])) (a:=d) (o:=.lst (List.replicate ((nats st.top).length:Int).toNat [iN 0]).flatten));rw[e0]at hd1;have dp:d≠p:=ao ah hp;have hd2:d≠p:=dp;refine⟨p,rfl,⟨_,aP.of hv⟩,cU (K:=K) (a:=p) (xs:=vs) (fun i σ H'=>∃v2 v3 v4:Option V,σ=[some (.ref c),some (.ref d),v2,v3,v4]∧aq (hole H1 d) H'∧H' d=some (.lst (nats ((List.range st.top.length).map (jS st i))))) ⟨none,none,none,rfl,rM,hd1⟩ (fun i σ H' _ ⟨_,_,_,_,sm,_⟩=>aP.of (sm _ _ (by rw[cC (Ne.symm dp)];exact hv))) ?_ ?_⟩
  ·rintro i x σ H' hi ⟨v2,v3,v4,rfl,smh,hd'⟩
   obtain⟨e,he,b,cc,rfl,hb,hcc,hcf⟩:=hE.get hi;obtain⟨n,hn,rfl⟩:∃n,(Vbpcan.nets st)[i]? = some n∧(n,Vbpcan.pinsOf st n)=e:=by
    unfold JE at he;rw[List.getElem?_map,Option.map_eq_some_iff]at he;exact he
   have hm:=List.mem_of_getElem? hn;have hne:=mj fit hm;have hpos:0<(Vbpcan.pinsOf st n).length:=List.length_pos_iff.mpr hne;have hcd:cc≠d:=fun z=>by
    subst z;rw[ah]at hcf;cases hcf
   have hb':H' b=some (.tup [iN n,.ref cc]):=smh _ _ (by rw[cC (cj hb hd1 (by intro z;cases z))];exact hb);have hcc':H' cc=some (.lst (nats (Vbpcan.pinsOf st n))):=smh _ _ (by rw[cC hcd];exact hcc);have i1:=a5 (z:=(0:Int)) (i:=0) rfl (getD_some (l:=Vbpcan.pinsOf st n) (k:=0) hpos);have i2:=FC hne;have lo_le:(Vbpcan.pinsOf st n).getD 0 0<=(Vbpcan.pinsOf st n).getD ((Vbpcan.pinsOf st n).length - 1) 0:=EE (DS st n) (Nat.zero_le _) (by lia);have hi_lt:(Vbpcan.pinsOf st n).getD ((Vbpcan.pinsOf st n).length - 1) 0<st.top.length:=(mD.mp (getD_mem (show(Vbpcan.pinsOf st n).length - 1<_ by lia))).1;refine⟨b,_,rfl,jP.of hb',rfl,_,_,rfl,_,_,rfl,rfl,?_⟩;refine⟨_,rfl,cc,_,_,_,rfl,rfl,aP.of hcc',i1,_,rfl,_,rfl,cc,_,_,_,rfl,rfl,aP.of hcc',i2,_,_,rfl,rfl,_,_,rfl,⟨by lia,by lia,by lia,by lia⟩,?_⟩;rw[show(((Vbpcan.pinsOf st n).getD ((Vbpcan.pinsOf st n).length - 1) 0:Nat):Int)+1 - (((Vbpcan.pinsOf st n).getD 0 0:Nat):Int)=(((Vbpcan.pinsOf st n).getD ((Vbpcan.pinsOf st n).length - 1) 0+1 - (Vbpcan.pinsOf st n).getD 0 0:Nat):Int) by lia,Int.toNat_natCast];refine jJ (fun m σ H2=>∃v4:Option V,σ=[some (.ref c),some (.ref d),some (iN n),some (.ref cc),v4]∧aq (hole H1 d) H2∧H2 d=some (.lst (nats (BC st i ((Vbpcan.pinsOf st n).getD 0 0) m)))) ⟨_,rfl,smh,by rw[ML];exact hd'⟩ ?_ ?_
   ·rintro m σ H2 hm2 ⟨v4,rfl,sm2,hd3⟩
    have hlt:(Vbpcan.pinsOf st n).getD 0 0+m<st.top.length:=by lia
    have ix:=FE (s:=st) (i:=i) (lo:=(Vbpcan.pinsOf st n).getD 0 0) (m:=m) hlt;rw[if_neg (by lia),Nat.add_zero]at ix;have ez:(((Vbpcan.pinsOf st n).getD 0 0:Nat):Int)+(m:Int)=(((Vbpcan.pinsOf st n).getD 0 0+m:Nat):Int):=by lia
    refine⟨_,rfl,_,rfl,d,_,_,_,rfl,rfl,aP.of hd3,a5 ez ix,_,_,rfl,rfl,d,_,_,_,rfl,rfl,hd3,nF ez (by rw[aB,vy];exact hlt),_,rfl,fun b o ho=>?_,?_⟩
    ·obtain⟨o1,o2⟩:=jM ho;rw[ak o2];exact sm2 _ _ ho
    ·rw[ah,<-O7 hlt];exact congrArg (fun z=>some (HO.lst z)) (mL _ _ (jS st i ((Vbpcan.pinsOf st n).getD 0 0+m)+1))
   ·rintro σ H2 ⟨v4,rfl,sm2,hd3⟩
    rw[MM fit hn]at hd3;exact⟨_,_,_,rfl,sm2,hd3⟩
  ·rintro σ H' ⟨v2,v3,v4,rfl,smh,hd'⟩
   have e:(List.range st.top.length).map (jS st vs.length)=(Vbpcan.columns st).map (Vbpcan.over st):=by
    unfold Vbpcan.columns;refine List.map_congr_left fun c _=>?_
    rw[lv,JE,List.length_map,Ir]
   rw[e]at hd';refine⟨_,rfl,q _ _ (fun b o ho=>?_) hd hd'⟩;exact smh _ _ (by rw[cC (ao ho hd)];exact sm1 _ _ (sd _ _ ho))
def CS(A:iL):Sp:=fun vs H Q _=>∃(c u l:Addr) (s:State),vs=[.ref c]∧ff A.aw H c u l s∧Fn H Q (iN (Vbpcan.density s))
theorem sS(T:Txt K mg A):a6 P w K mg base fe 3 A.j5 A.j6 ["channel"] (CS A):=by
 refine T.iI.ok Cz (fun vs H Q E h=>?_) (fun cdv A1 outer s H vs Q E hr h=>?_)
 ·obtain⟨c,u,l,st,rfl,_⟩:=h;rfl
 ·obtain⟨c,u,l,st,rfl,hC,q⟩:=h;refine⟨_,(ai (ay (wC rfl (by rfl) T.Hh (aa (au (pK T) (hr.mono (by decide)) rfl T.qO T.eQ.kp T.qN .nil aA (aa (pv 0) af)) af) aC))),?_⟩;refine⟨_,rfl,c,u,l,st,rfl,hC,fun H1 p sm hp e=>?_⟩;rw[ka]at e;rw[Aa]at q;refine⟨p,_,rfl,aP.of e,fun e0=>?_,fun m hm hy=>?_⟩
  ·have:(Vbpcan.columns st).map (Vbpcan.over st)=[]:=List.map_eq_nil_iff.mp e0;rw[this]at q;exact q _ sm
  ·rw[O3 hm hy];exact q _ sm
end
end Pc
end
section
namespace Pc
open PySem PySem.Spec PyProof.Rows L2
open Vbpcan (State Piece Graph)
abbrev pk(e:Nat×Nat):List Key:=[kN e.1,kN e.2]
def pz(e:Nat×Nat):List Int:=[(e.1:Int),(e.2:Int)]
theorem O8{a b:Nat×Nat}(h:pk a=pk b):a=b:=by
 obtain⟨a1,a2⟩:=a;obtain⟨b1,b2⟩:=b;have h1:kN a1=kN b1:=(List.cons.inj h).1;have h2:kN a2=kN b2:=(List.cons.inj (List.cons.inj h).2).1;have e1:(a1:Int)=(b1:Int):=Sum.inl.inj h1;have e2:(a2:Int)=(b2:Int):=Sum.inl.inj h2;have:a1=b1:=by lia
 have:a2=b2:=by lia
 subst_vars
 rfl
structure DP(H:Hp)(d:Addr)(kvs:List (List Key×V))(es:List (Nat×Nat)):Prop where
 rT:H d=some (.dT kvs)
 keys:kvs.map (·.1)=es.map pk
 nd:es.Nodup
theorem DP.put{H:Hp}{d:Addr}{kvs:List (List Key×V)}{es:List (Nat×Nat)}{e:Nat×Nat}{v:V}(h:DP H d kvs es):DP (upd H d (.dT (putK kvs (pk e) v))) d (putK kvs (pk e) v) (if e∈es then es else es++[e]):=by
 by_cases hk:e∈es
 ·rw[if_pos hk];refine⟨ah,?_,h.nd⟩;rw[<-h.keys];have:(kvs.any fun kv=>decide (kv.1=pk e))=true:=by
   have:pk e∈kvs.map (·.1):=by rw[h.keys];exact List.mem_map.mpr ⟨e,hk,rfl⟩
   obtain⟨kv,h1,h2⟩:=List.mem_map.mp this;exact List.any_eq_true.mpr ⟨kv,h1,decide_eq_true h2⟩
  unfold putK;rw[if_pos this,List.map_map];refine List.map_congr_left fun kv _=>?_
  show(if kv.1=pk e then(kv.1,v)else kv).1=kv.1
  split <;> rfl
 ·rw[if_neg hk];have hv:gv kvs (pk e)=none:=by
   cases q:gv kvs (pk e)with
   | none=>rfl
   | some y=>
    have:=K3 q;rw[h.keys]at this;obtain⟨x,h1,h2⟩:=List.mem_map.mp this;rw[O8 h2]at h1;exact absurd h1 hk
  refine⟨ah,?_,?_⟩
  ·rw[AE _ hv,List.map_append,List.map_append,h.keys];rfl
  ·refine List.nodup_append.mpr ⟨h.nd,by simp,fun x hx y hy z=>?_⟩;have:y=e:=by simpa using hy
   rw[z,this]at hx;exact hk hx
theorem DP.len{H:Hp}{d:Addr}{kvs:List (List Key×V)}{es:List (Nat×Nat)}(h:DP H d kvs es):kvs.length=es.length:=by
 have:=congrArg List.length h.keys;rw[List.length_map,List.length_map]at this;exact this
def m6(s:State)(c:Nat):List (Nat×Nat):=if Vbpcan.at_ s.top c=Vbpcan.at_ s.low c then []else(aT s (Vbpcan.at_ s.top c) c).flatMap fun p=>(aT s (Vbpcan.at_ s.low c) c).map fun q=>(p,q)
def ke(s:State)(i:Nat):List (Nat×Nat):=(List.range i).flatMap (m6 s)
theorem vB(s:State)(i:Nat):ke s (i+1)=ke s i++m6 s i:=by
 unfold ke;rw[List.range_succ,List.flatMap_append];simp
theorem Hx{s:State}{e:Nat×Nat}:e∈ke s s.top.length↔e∈Vbpcan.graphOf s:=by
 obtain⟨p,q⟩:=e;rw[uG];unfold ke;rw[List.mem_flatMap];constructor
 ·rintro ⟨c,hc,h⟩
  unfold m6 at h
  split at h
  ·cases h
  ·rename_i hne;obtain⟨a,ha,hb⟩:=List.mem_flatMap.mp h;obtain⟨b,hb,e⟩:=List.mem_map.mp hb;cases e;exact⟨c,List.mem_range.mp hc,hne,ha,hb⟩
 ·rintro ⟨c,hc,hne,ha,hb⟩
  refine⟨c,List.mem_range.mpr hc,?_⟩;unfold m6;rw[if_neg hne];exact List.mem_flatMap.mpr ⟨p,ha,List.mem_map.mpr ⟨q,hb,rfl⟩⟩
def Found(s:State)(H:Hp)(d:Addr)(L:List (Nat×Nat)):Prop:=∃kvs es,DP H d kvs es∧(∀e,e∈es↔e∈L)∧∀e,e∈L->e∈Vbpcan.graphOf s
theorem Found.put{s:State}{H:Hp}{d t:Addr}{L:List (Nat×Nat)}{e:Nat×Nat}{v:V}(F:Cq s)(h:Found s H d L)(he:e∈Vbpcan.graphOf s)(ht:H t=none) :
  ∃H',AF (upd H t (.tup [iN e.1,iN e.2])) d (.ref t) v H'∧Found s H' d (L++[e])∧∀b o,H b=some o->b≠d->H' b=some o:=by
 obtain⟨kvs,es,hD,hm,hs⟩:=h;have dt:d≠t:=ao hD.rT ht;have hD1:DP (upd H t (.tup [iN e.1,iN e.2])) d kvs es:=⟨by rw[ak dt];exact hD.rT,hD.keys,hD.nd⟩;have hle:es.length<=9216:=Nat.le_trans (fh hD.nd fun x hx=>hs x ((hm x).mp hx)) (kW F);refine⟨_,AF.t (k:=pk e) hD1.rT ah (small (by rw[hD.len];lia)),⟨_,_,hD1.put,fun x=>?_,fun x hx=>?_⟩,fun b o hb n1=>?_⟩
 ·rw[List.mem_append,List.mem_singleton,<-hm x];by_cases hk:e∈es
  ·rw[if_pos hk];exact⟨.inl,fun z=>by rcases z with z | z;exact z;rw[z];exact hk⟩
  ·rw[if_neg hk,List.mem_append,List.mem_singleton]
 ·rcases List.mem_append.mp hx with z | z
  ·exact hs x z
  ·have:x=e:=by simpa using z
   rw[this];exact he
 ·rw[ak n1,ak (ao hb ht)];exact hb
theorem QW{a b:Nat×Nat}:oV (pz a) (pz b)=true↔zZ a b:=by
 unfold pz oV oV oV zZ;simp;lia
theorem FG{g es:List (Nat×Nat)}{zss:List (List Int)}(hz:zss.Perm (es.map pz))(hp:zss.Pairwise fun x y=>oV y x=false)(hn:es.Nodup)(hg:g.Pairwise zZ)(hm:∀e,e∈es↔e∈g):zss=g.map pz:=by
 let un:List Int->Nat×Nat:=fun z=>((z.getD 0 0).toNat,(z.getD 1 0).toNat)
 have e1:∀e,un (pz e)=e:=fun e=>by
  show(((e.1:Int)).toNat,((e.2:Int)).toNat)=e
  rw[Int.toNat_natCast,Int.toNat_natCast]
 have e2:∀z,z∈zss->pz (un z)=z:=fun z hzz=>by
  obtain⟨e,_,rfl⟩:=List.mem_map.mp (hz.mem_iff.mp hzz);rw[e1]
 have e3:(zss.map un).map pz=zss:=by
  rw[List.map_map]
  conv=>rhs;rw[<-List.map_id zss]
  exact List.map_congr_left fun z hzz=>e2 z hzz
 have hperm:(zss.map un).Perm es:=by
  have:=hz.map un;rw[List.map_map]at this;have q:es.map (un ∘ pz)=es:=by
   conv=>rhs;rw[<-List.map_id es]
   exact List.map_congr_left fun e _=>e1 e
  rw[q]at this;exact this
 have nd:(zss.map un).Nodup:=hperm.nodup_iff.mpr hn;have st:(zss.map un).Pairwise zZ:=by
  have h1:(zss.map un).Pairwise fun x y=>oV (pz y) (pz x)=false:=by
   rw[<-e3]at hp;exact List.pairwise_map.mp hp
  refine(List.Pairwise.and h1 nd).imp fun {a b} ⟨q1,q2⟩=>?_
  have q3:¬zZ b a:=fun z=>by rw[QW.mpr z]at q1;cases q1
  unfold zZ at *;by_cases h:a.1=b.1
  ·by_cases h':a.2=b.2
   ·exact absurd (Prod.ext h h') q2
   ·lia
  ·lia
 have:=Kw st hg fun e=>by rw[hperm.mem_iff,hm]
 rw[<-this,e3]
section
variable{P:Program}{w:World}{K:W.Frag}{mg:Str->Option Value}{base:Heap}{A:iL}
def BD(A:iL):Sp:=fun vs H Q _=>∃(c u l a:Addr) (s:State),vs=[.ref c,.ref a]∧ff A.aw H c u l s∧bS a7 H a (Vbpcan.pieces s)∧Bh bN H Q (Vbpcan.graphOf s)
theorem eZ(T:Txt K mg A):a6 P w K mg base fe 2 A.iP A.iQ ["channel","pieces"] (BD A):=by
 refine T.bU.ok cG (fun vs H Q E h=>?_) (fun cdv A1 outer s H vs Q E hr h=>?_)
 ·obtain⟨c,u,l,a,st,rfl,_⟩:=h;rfl
 ·obtain⟨c,u,l,a,st,rfl,hC,hP,q⟩:=h;refine⟨_,(ae (aI (i:=2) cG.nd rfl (Or.inl rfl) GK)
 (
 ae (cF PassesOwn.never rfl (b_ rfl T.c4 (aa (aK ax (by rfl) T.bP bh (aa (bC (pv 0) rfl) af)) af)) (aG (i:=3) cG.nd rfl (Or.inl rfl))
 (ae (aI (i:=4) cG.nd rfl (Or.inl rfl) (aO aJ (bC (pv 0) rfl) (pv 3) (fun _ _=>rfl)))
 (ae (aI (i:=5) cG.nd rfl (Or.inl rfl) (aO aJ (bC (pv 0) rfl) (pv 3) (fun _ _=>rfl)))
 (ai (br (aH pB (pv 4) (pv 5) (aM _)) (ae (aI (i:=6) cG.nd rfl (Or.inl rfl) (au (mh T) (hr.mono (by decide)) rfl T.nB T.fg.kp T.nA .nil aA (aa (pv 1) (aa (pv 5) (aa (pv 3) af)))))
 (
 ai (cF PassesOwn.never rfl (aX (au (mh T) (hr.mono (by decide)) rfl T.nB T.fg.kp T.nA .nil aA (aa (pv 1) (aa (pv 4) (aa (pv 3) af))))) (aG (i:=7) cG.nd rfl (Or.inl rfl))
 (ai (cF PassesOwn.never rfl (aX (pv 6)) (aG (i:=8) cG.nd rfl (Or.inl rfl))
 (ai (zM (nq hr) (pv 2) (iJ (aa (pv 7) (aa (pv 8) af))) N5 rfl))))))) aS)))))
 (ai (ay (aK (GW rfl) (by rfl) T.vd rK (aa (pv 2) af)))))),?_⟩
  have fit:=hC.fit;have hcol:=fit.cols;have hpl:=dz fit;obtain⟨dx,hc⟩:=hC.obj;intro d hd;have s0:aq H (upd H d (.dT [])):=aq.new hd;refine⟨_,rfl,c,_,dx,_,_,rfl,s0 _ _ hc,T.aF,T.az,rfl,u,_,rfl,.inl (aP.of (s0 _ _ hC.up)),_,rfl,by rw[aB];lia,by rw[aB];lia,?_⟩;rw[vw (aB _)];refine jJ (n:=st.top.length) (fun i σ H'=>∃v3 v4 v5 v6 v7 v8:Option V,σ=[some (.ref c),some (.ref a),some (.ref d),v3,v4,v5,v6,v7,v8]∧aq H H'∧Found st H' d (ke st i)) ⟨none,none,none,none,none,none,rfl,s0,[],[],⟨ah,rfl,List.nodup_nil⟩,fun e=>(by simp[ke]),fun e he=>(by simp[ke]at he)⟩ ?_ ?_
  ·rintro i σ H' hi ⟨v3,v4,v5,v6,v7,v8,rfl,sm,hF⟩
   have iu:=a5 (z:=(0:Int)+(i:Int)) (aV i) (cE hi);have il:=a5 (z:=(0:Int)+(i:Int)) (aV i) (cE (show i<st.low.length by rw[fit.len];exact hi));refine⟨_,rfl,c,_,dx,_,_,rfl,sm _ _ hc,T.aF,T.az,rfl,_,rfl,u,_,_,_,rfl,rfl,aP.of (sm _ _ hC.up),iu,?_⟩;refine⟨_,rfl,c,_,dx,_,_,rfl,sm _ _ hc,T.aF,T.aN,rfl,_,rfl,l,_,_,_,rfl,rfl,aP.of (sm _ _ hC.lo),il,?_⟩;refine⟨_,rfl,_,rfl,rfl,_,rfl,bF (fun h=>?_) fun h=>?_⟩
   ·have hne:¬Vbpcan.at_ st.top i=Vbpcan.at_ st.low i:=by rw[kh]at h;simpa using h
    have ecp:m6 st i=(aT st (Vbpcan.at_ st.top i) i).flatMap fun p=>(aT st (Vbpcan.at_ st.low i) i).map fun q=>(p,q):=by unfold m6;rw[if_neg hne]
    refine⟨_,rfl,_,rfl,_,rfl,a,st,Vbpcan.at_ st.low i,i,(by rw[aV];rfl),hP.mono a7.mono sm,by lia,fun H1 lp sm1 hlp e1=>?_⟩;refine⟨_,rfl,_,rfl,_,rfl,a,st,Vbpcan.at_ st.top i,i,(by rw[aV];rfl),hP.mono a7.mono (sm.trans sm1),by lia,fun H2 up sm2 hup e2=>⟨up,rfl,⟨_,aP.of e2⟩,?_⟩⟩;have smA:=(sm.trans sm1).trans sm2;have hF2:Found st H2 d (ke st i):=by
     obtain⟨kvs,es,hD,r⟩:=hF;exact⟨kvs,es,⟨sm2 _ _ (sm1 _ _ hD.rT),hD.keys,hD.nd⟩,r⟩
    have hdup:up≠d:=fun z=>by
     subst z;obtain⟨kvs,es,hD,r⟩:=hF2;rw[hD.rT]at e2;cases e2
    have hdlp:lp≠d:=fun z=>by
     subst z;obtain⟨kvs,es,hD,r⟩:=hF2;have:=sm2 _ _ e1;rw[hD.rT]at this;cases this
    refine cU (K:=K) (a:=up) (xs:=nats (aT st (Vbpcan.at_ st.top i) i)) (fun m σ H3=>∃v7 v8:Option V,σ=[some (.ref c),some (.ref a),some (.ref d),some (.int (0+(i:Int))),some (iN (Vbpcan.at_ st.top i)),some (iN (Vbpcan.at_ st.low i)),some (.ref lp),v7,v8]∧aq H H3∧H3 up=some (.lst (nats (aT st (Vbpcan.at_ st.top i) i)))∧H3 lp=some (.lst (nats (aT st (Vbpcan.at_ st.low i) i)))∧Found st H3 d (ke st i++((aT st (Vbpcan.at_ st.top i) i).take m).flatMap fun p=>(aT st (Vbpcan.at_ st.low i) i).map fun q=>(p,q)))
     ⟨_,_,rfl,smA,e2,sm2 _ _ e1,by simpa using hF2⟩ (fun m σ H3 _ ⟨_,_,_,_,e,_⟩=>aP.of e) ?_ ?_
    ·rintro m x σ H3 hm ⟨v7,v8,rfl,sm3,eu3,el3,hF3⟩
     obtain⟨p,hp,rfl⟩:=bJ hm;refine⟨_,rfl,lp,rfl,⟨_,aP.of el3⟩,cU (K:=K) (a:=lp) (xs:=nats (aT st (Vbpcan.at_ st.low i) i)) (fun r σ H4=>∃v8:Option V,σ=[some (.ref c),some (.ref a),some (.ref d),some (.int (0+(i:Int))),some (iN (Vbpcan.at_ st.top i)),some (iN (Vbpcan.at_ st.low i)),some (.ref lp),some (iN p),v8]∧aq H H4∧H4 up=some (.lst (nats (aT st (Vbpcan.at_ st.top i) i)))∧H4 lp=some (.lst (nats (aT st (Vbpcan.at_ st.low i) i)))∧Found st H4 d ((ke st i++((aT st (Vbpcan.at_ st.top i) i).take m).flatMap fun p=>(aT st (Vbpcan.at_ st.low i) i).map fun q=>(p,q))++((aT st (Vbpcan.at_ st.low i) i).take r).map fun q=>(p,q)))
      ⟨_,rfl,sm3,eu3,el3,by simpa using hF3⟩ (fun r σ H4 _ ⟨_,_,_,_,e,_⟩=>aP.of e) ?_ ?_⟩
     ·rintro r y σ H4 hr4 ⟨v8,rfl,sm4,eu4,el4,hF4⟩
      obtain⟨q',hq',rfl⟩:=bJ hr4;have hg:(p,q')∈Vbpcan.graphOf st:=uG.mpr ⟨i,hi,hne,List.mem_of_getElem? hp,List.mem_of_getElem? hq'⟩;refine⟨_,rfl,_,rfl,_,rfl,(by show 2<=sizeLine;decide),fun t ht=>?_⟩;obtain⟨H5,hput,hF5,hk5⟩:=hF4.put (v:=.bl true) fit hg ht;refine⟨d,H5,rfl,hput,_,rfl,fun b o ho=>hk5 b o (sm4 _ _ ho) (ao ho hd),hk5 _ _ eu4 hdup,hk5 _ _ el4 hdlp,?_⟩;rw[aQ hq',List.map_append,<-List.append_assoc];exact hF5
     ·rintro σ H4 ⟨v8,rfl,sm4,eu4,el4,hF4⟩
      refine⟨_,_,rfl,sm4,eu4,el4,?_⟩;rw[aQ hp,List.flatMap_append,<-List.append_assoc];rw[aB,List.take_length]at hF4;simpa using hF4
    ·rintro σ H3 ⟨v7,v8,rfl,sm3,eu3,el3,hF3⟩
     rw[aB,List.take_length,<-ecp,<-vB]at hF3;exact⟨_,_,_,_,_,_,rfl,sm3,hF3⟩
   ·have heq:Vbpcan.at_ st.top i=Vbpcan.at_ st.low i:=by rw[kh]at h;simpa using h
    refine⟨_,_,_,_,_,_,rfl,sm,?_⟩;rw[vB,m6,if_pos heq,List.append_nil];exact hF
  ·rintro σ H' ⟨v3,v4,v5,v6,v7,v8,rfl,sm,kvs,es,hD,hm,hs⟩
   refine⟨_,rfl,d,kvs,es.map pz,rfl,hD.rT,by rw[hD.keys,List.map_map];rfl,fun zs hz=>?_,fun as p hp hb hsrt hpn=>?_⟩
   ·obtain⟨e,_,rfl⟩:=List.mem_map.mp hz;exact fun z=>by cases z
   ·have e1:=FG (g:=Vbpcan.graphOf st) hp (List.pairwise_map.mpr hsrt) hD.nd (jw st) fun e=>by rw[hm,Hx]
    refine q _ p (sm.trans (aq.new hpn)) (sm.free hpn) ⟨_,ah,?_,fun i e he=>?_⟩
    ·have:=congrArg List.length e1;rw[List.length_map,List.length_map]at this;rw[List.length_map,this]
    ·have h1:(as.map (pO H'))[i]? = some (pz e):=by rw[e1,List.getElem?_map,he];rfl
     rw[List.getElem?_map,Option.map_eq_some_iff]at h1;obtain⟨b,h2,h3⟩:=h1;refine⟨.ref b,by rw[List.getElem?_map,h2];rfl,b,rfl,(aq.new hpn) _ _ ?_⟩;have:=hb b (List.mem_of_getElem? h2);rw[h3]at this;exact this
end
end Pc
end
section
namespace Pc
open PySem PySem.Spec PyProof.Rows L2
open Vbpcan (State Piece Graph)
theorem qW{l:List Nat}{k:Nat}(h:k<l.length):l[k]? = some (dD l k):=getD_some h
def Hy(i:Nat)(σ:L2.St):Nat:=match σ[i]? with
 | some (some (.int z))=>z.toNat
 | _=>0
theorem Su(a b:Nat):(if ((b:Int)+1) > (a:Int)then((b:Int)+1)else(a:Int))=((max a (b+1):Nat):Int):=by
 by_cases h:(b:Int)+1 > (a:Int)
 ·rw[if_pos h];lia
 ·rw[if_neg h];lia
structure Ub(H:Hp)(w l r:Addr)(aR lv ready:List Nat):Prop where
 w:H w=some (.lst (nats aR))
 l:H l=some (.lst (nats lv))
 r:H r=some (.lst (nats ready))
section
variable{P:Program}{w:World}{K:W.Frag}{mg:Str->Option Value}{base:Heap}{A:iL}
def FH:Sp:=fun vs H Q _=>∃(a:Addr) (n:Nat) (g:Graph),vs=[iN n,.ref a]∧bS bN H a g∧Small g n∧Up g∧g.length<=9216∧n<=96∧(Vbpcan.ring g n≠[]->Fn H Q .gi)∧(Vbpcan.ring g n=[]->Bg H Q (Vbpcan.levels g n))
theorem o8(T:Txt K mg A):a6 P w K mg base fe 2 A.lh A.lj ["count","pairs"] FH:=by
 refine T.h7.ok bO (fun vs H Q E h=>?_) (fun cdv A1 outer s H vs Q E hr h=>?_)
 ·obtain⟨a,n,g,rfl,_⟩:=h;rfl
 ·obtain⟨a,n,g,rfl,hG,sg,ug,lg,hn,q1,q2⟩:=h;refine⟨_,(ae (aI (i:=2) bO.nd rfl (Or.inl rfl) (au (qU T) (hr.mono (by decide)) rfl T.sI T.gn.kp T.sH .nil aA (aa (pv 0) (aa (pv 1) af))))
 (ae (aI (i:=3) bO.nd rfl (Or.inr rfl) (fq rfl bO.nd (aX (au (iB T) (hr.mono (by decide)) rfl T.ji T.cD.kp T.jh .nil aA (aa (pv 0) (aa (pv 1) af)))) (own:=[("pieces",4)]) (aW (show gu ["count","pairs","below","waits_for","pieces","levels","ready","k","done","p","q"] (aj k7) _ _=true from by decide +kernel)) (fun _ _ _ _ _=>(aG (i:=4) bO.nd rfl (Or.inl rfl) (.inr rfl))) (fun _ _ _ _ _=>bX) (fun _ _ _ _ _=>(aK (r:=Tz K) ax (by rfl) T.bP bh (aa (pv 4) af)))))
 (ae (aI (i:=5) bO.nd rfl (Or.inl rfl) (bL AB (bE (aa aC af)) (pv 0)))
 (ae (iM (i:=6) rfl bO.nd rfl rfl (kK rfl rfl rfl (by decide +kernel)) (b_ rfl T.c4 (aa (pv 0) af)) (own:=[("k",7)]) (aW (show gu ["count","pairs","below","waits_for","pieces","levels","ready","k","done","p","q"] (aj k7) _ _=true from by decide +kernel)) (fun _ _ _ _ _=>(aG (i:=7) bO.nd rfl (Or.inl rfl) (.inr rfl))) (fun _ _ _ _ _=>(jr (aH bW (aO (r:=jQ K) aJ (pv 3) (pv 7) (fun _ _=>rfl)) aC (aM _)))) (fun _ _ _ _ _=>(pv 7)))
 (ae (aI (i:=8) bO.nd rfl (Or.inl rfl) aC)
 (ae (nX PassesOwn.never (aH uL (pv 8) (aK ax (by rfl) T.bP bh (aa (pv 6) af)) (aM _)) (ae (aI (i:=9) bO.nd rfl (Or.inl rfl) (aO aJ (pv 6) (pv 8) (fun _ _=>rfl)))
 (ae (tq (i:=8) bO.nd rfl (Or.inl rfl) aC p_)
 (
 ai (cF PassesOwn.never rfl (aX (aO aJ (pv 2) (pv 9) (fun _ _=>rfl))) (aG (i:=10) bO.nd rfl (Or.inl rfl))
 (ae (tp (aK (LN rfl) (by rfl) T.Hh Jd (aa (aO aJ (pv 5) (pv 10) (fun _ _=>rfl)) (aa (bL mI (aO aJ (pv 5) (pv 9) (fun _ _=>rfl)) aC) af))) (tm (pv 5) (pv 10) set_list))
 (ae (KO (pv 3) (pv 10) GQ aC RV set_list)
 (ai (br (aH bW (aO aJ (pv 3) (pv 10) (fun _ _=>rfl)) aC (aM _)) (ai (cA (jK F.plainAttrs_list F.slot_list_append F.type_list_append cP (pv 6) (aa (pv 10) af)))) aS)))))))))
 (ae (br (aH uL (pv 8) (pv 0) (aM _)) (ai (ay mH)) aS)
 (ai (ay (pv 5)))))))))),?_⟩
  refine⟨_,rfl,_,rfl,a,n,g,rfl,hG,sg,lg,hn,fun H1 b sm1 hb hB=>?_⟩;refine⟨_,rfl,_,rfl,a,n,g,rfl,hG.mono bN.mono sm1,sg,lg,hn,fun H2 ab sm2 hab hA=>?_⟩;obtain⟨va,hva,hEa⟩:=hA;refine⟨ab,rfl,⟨_,aP.of hva⟩,fun w hw=>bx (R:=eh) eh.mono (ys:=(List.range n).map (bH g)) hEa.1 (fun x=>some x.length) hw (by simp;lia) (aP.of hva) (fun i v x H3 Yes No hv hx sm hDd yes no=>?_) fun H3 sm3 L=>?_⟩
  ·obtain⟨x',hx',p,rfl,hp⟩:=hEa.get hv;rw[hx]at hx';cases hx';refine⟨rfl,nP ⟨_,rfl,p,_,rfl,.inl (aP.of (sm _ _ hp)),yes _ _ _ rfl (aq.refl _) ?_⟩⟩;show V.int ((nats x).length:Nat)=iN x.length;rw[aB]
  ·rw[filterMap_some,List.map_map]at L;have hw3:=bY L
   generalize hwt:(List.range n).map (List.length ∘ bH g)=waits0 at hw3
   have hwl:waits0.length=n:=by rw[<-hwt];simp
   refine⟨(by show 1<=sizeLine;decide),fun z hz=>⟨_,rfl,z,_,_,rfl,rfl,ah,by lia,by lia,jy (by show 1 * ((n:Int)).toNat<=16000000;rw[Int.toNat_natCast];lia),fun l hl=>?_⟩⟩;have sz:aq H3 (upd H3 z (.lst [V.int 1])):=aq.new hz;have sl:=sz.trans (aq.new (o:=.lst (List.replicate ((n:Int)).toNat [V.int 1]).flatten) hl);have e0:(List.replicate ((n:Int)).toNat [V.int 1]).flatten=nats (List.replicate n 1):=by
    rw[Int.toNat_natCast,vz];exact vA 1 n
   rw[e0]at sl ⊢;refine⟨_,rfl,_,rfl,by lia,by lia,fun r hr0=>?_⟩;rw[vw (show n=n from rfl)];refine kr (R:=eh) eh.mono (fun k=>if (dD waits0 k == 0)=true then some k else none) hr0 (by lia) (fun i H4 Yes No hi sm hDd yes no=>?_) fun H4 sm4 L4=>?_
   ·have ix:=a5 (z:=(0:Int)+(i:Int)) (aV i) (qW (l:=waits0) (k:=i) (by lia));refine⟨rfl,_,rfl,_,rfl,w,_,_,_,rfl,rfl,aP.of (sm _ _ (sl _ _ hw3)),ix,rfl,_,rfl,bF (fun h=>?_) fun h=>?_⟩
    ·have h':(dD waits0 i == 0)=true:=by rw[el]at h;simpa using h
     rw[h']at yes;exact⟨_,rfl,yes i _ _ rfl (aq.refl _) (by show V.int (0+(i:Int))=iN i;rw[aV])⟩
    ·have h':(dD waits0 i == 0)=false:=by rw[el]at h;simpa using h
     rw[h']at no;exact no _ rfl (aq.refl _)
   ·rw[dG]at L4;have hr4:=bY L4;have smA:aq H1 H4:=((sm2.trans sm3).trans sl).trans sm4;have hw1:H1 w=none:=sm2.free hw;have hl1:H1 l=none:=(sm2.trans (sm3.trans sz)).free hl;have hr1:H1 r=none:=((sm2.trans sm3).trans sl).free hr0;have wl:w≠l:=ao (sz _ _ hw3) hl;have wr:w≠r:=ao (sl _ _ hw3) hr0;have lr:l≠r:=ao (ah (H:=upd H3 z (.lst [V.int 1])) (o:=.lst (nats (List.replicate n 1)))) hr0;have hk0:uD g n 0 ((List.range n).filter fun k=>dD waits0 k == 0) waits0 (List.replicate n 1):=uD.init hwt.symm rfl;obtain⟨vb,hvb,hEb⟩:=hB;refine nY (fun σ H'=>∃(vp vq:Option V) (i:Nat) (ready aR lv:List Nat),σ=[some (iN n),some (.ref a),some (.ref b),some (.ref w),none,some (.ref l),some (.ref r),none,some (iN i),vp,vq]∧aq H1 H'∧Ub H' w l r aR lv ready∧uD g n i ready aR lv) (fun σ _=>n - Hy 8 σ)
     ⟨none,none,0,_,_,_,rfl,smA,⟨sm4 _ _ (sl _ _ hw3),sm4 _ _ ah,hr4⟩,hk0⟩ ?_ (fun σ H Q Q' f ⟨v,x1,u,x2,p,ys,x3,x4,i,j,x5,x6,k,x7,q⟩=>⟨v,x1,u,x2,p,ys,x3,x4,i,j,x5,x6,k,x7,f _ _ q⟩)
    rintro σ H' ⟨vp,vq,i,ready,aR,lv,rfl,sm,hL,hK⟩
    have hrl:=hK.len;refine⟨_,rfl,_,rfl,r,_,rfl,.inl (aP.of hL.r),_,_,rfl,rfl,_,rfl,bF (fun h=>?_) fun h=>?_⟩
    ·have hi:i<ready.length:=by rw[aB]at h;simpa using h
     obtain⟨p,hp⟩:∃p,ready[i]? = some p:=⟨_,List.getElem?_eq_getElem hi⟩;have hpn:p<n:=Iq.lt hK p (List.mem_of_getElem? hp);refine⟨_,rfl,_,rfl,r,_,_,_,rfl,rfl,aP.of hL.r,a5 rfl hp,?_⟩;refine⟨_,rfl,_,_,rfl,rfl,?_⟩;obtain⟨v,hv,row,rfl,hrow⟩:=hEb.2 p (below g p) (by rw[List.getElem?_map,List.getElem?_range hpn];rfl);refine⟨_,rfl,_,rfl,b,_,_,.ref row,rfl,rfl,aP.of (sm _ _ hvb),at_of rfl hv,row,rfl,⟨_,aP.of (sm _ _ hrow)⟩,?_⟩;refine cU (K:=K) (a:=row) (xs:=nats (below g p)) (fun j σ H2=>∃(vq:Option V) (ready aR lv:List Nat),σ=[some (iN n),some (.ref a),some (.ref b),some (.ref w),none,some (.ref l),some (.ref r),none,some (iN (i+1)),some (iN p),vq]∧aq H1 H2∧Ub H2 w l r aR lv ready∧z9 g n i p j ready aR lv)
      ⟨_,_,_,_,rfl,sm,hL,hK.start hp⟩ (fun j σ H2 _ ⟨_,_,_,_,_,sm2,_⟩=>aP.of (sm2 _ _ hrow)) ?_ ?_
     ·rintro j x σ H2 hj ⟨vq,ready,aR,lv,rfl,sm2,hL2,hM⟩
      obtain⟨q',hq',rfl⟩:=bJ hj;have hqn:q'<n:=(sg _ _ (gh.mp (List.mem_of_getElem? hq'))).2;have h1:=hM.aR sg ug hq';have hw':=hM.st.wl;have hl':=hM.st.ll;have step:=hM.step sg ug hq';have iq:=a5 (z:=(q':Int)) rfl (qW (l:=lv) (k:=q') (by lia));have ip:=a5 (z:=(p:Int)) rfl (qW (l:=lv) (k:=p) (by lia));have iw:=a5 (z:=(q':Int)) rfl (qW (l:=aR) (k:=q') (by lia));refine⟨_,rfl,_,rfl,l,_,_,_,rfl,rfl,aP.of hL2.l,iq,_,rfl,_,rfl,l,_,_,_,rfl,rfl,aP.of hL2.l,ip,_,_,rfl,rfl,_,_,rfl,_,rfl,_,rfl,l,_,_,q',rfl,rfl,hL2.l,nF rfl (by rw[aB];lia),?_⟩;rw[Su,mL];have hLa:Ub (upd H2 l (.lst (nats (lv.set q' (max (dD lv q') (dD lv p+1)))))) w l r aR (lv.set q' (max (dD lv q') (dD lv p+1))) ready:=⟨by rw[ak wl];exact hL2.w,ah,by rw[ak (Ne.symm lr)];exact hL2.r⟩;refine⟨_,rfl,_,rfl,w,_,_,_,rfl,rfl,aP.of hLa.w,iw,_,_,rfl,rfl,w,_,_,q',rfl,rfl,hLa.w,nF rfl (by rw[aB];lia),?_⟩;have ew:(nats aR).set q' (V.int (((dD aR q':Nat):Int) - 1))=nats (aR.set q' (dD aR q' - 1)):=by
       rw[show((dD aR q':Nat):Int) - 1=((dD aR q' - 1:Nat):Int) by lia];exact mL _ _ _
      have hLb:Ub (upd (upd H2 l (.lst (nats (lv.set q' (max (dD lv q') (dD lv p+1)))))) w (.lst ((nats aR).set q' (V.int (((dD aR q':Nat):Int) - 1))))) w l r (aR.set q' (dD aR q' - 1)) (lv.set q' (max (dD lv q') (dD lv p+1))) ready:=⟨by rw[ah,ew],by rw[ak (Ne.symm wl)];exact hLa.l,by rw[ak (Ne.symm wr)];exact hLa.r⟩;have smb:aq H1 (upd (upd H2 l (.lst (nats (lv.set q' (max (dD lv q') (dD lv p+1)))))) w (.lst ((nats aR).set q' (V.int (((dD aR q':Nat):Int) - 1))))):=aq.put (aq.put sm2 hl1) hw1;have iw2:=a5 (z:=(q':Int)) rfl (qW (l:=aR.set q' (dD aR q' - 1)) (k:=q') (by rw[List.length_set];lia));rw[m8 (by lia),if_pos rfl]at iw2;refine⟨_,rfl,_,rfl,w,_,_,_,rfl,rfl,aP.of hLb.w,iw2,rfl,_,rfl,bF (fun h=>?_) fun h=>?_⟩
      ·have h0:dD aR q' - 1=0:=by rw[el]at h;simpa using h
       rw[if_pos h0]at step;have hrl2:ready.length<=n:=gC n ready hM.st.nd hM.st.lt;refine⟨_,rfl,.inl ⟨rfl,_,aP.of hLb.r⟩,_,rfl,r,_,_,rfl,rfl,hLb.r,small (by rw[aB];lia),_,_,_,_,rfl,aq.put smb hr1,⟨by rw[ak wr];exact hLb.w,by rw[ak lr];exact hLb.l,?_⟩,step⟩;rw[ah,jL]
      ·have h0:¬dD aR q' - 1=0:=by rw[el]at h;simpa using h
       rw[if_neg h0]at step;exact⟨_,_,_,_,rfl,smb,hLb,step⟩
     ·rintro σ H2 ⟨vq,ready2,waits2,lv2,rfl,sm2,hL2,hM⟩
      have hK2:=hM.done (by rw[aB];exact Nat.le_refl _);refine⟨⟨_,_,i+1,_,_,_,rfl,sm2,hL2,hK2⟩,?_⟩;show n - ((i+1:Nat):Int).toNat<n - ((i:Nat):Int).toNat;rw[Int.toNat_natCast,Int.toNat_natCast];lia
    ·have hi:ready.length<=i:=by rw[aB]at h;simpa using h
     refine⟨_,rfl,_,rfl,_,_,rfl,rfl,_,rfl,bF (fun h'=>?_) fun h'=>?_⟩
     ·have hin:i<n:=by simpa using h'
      exact q1 (hK.stuck sg ug hi hin) _ (sm1.trans sm)
     ·have hin:n<=i:=by simpa using h'
      obtain⟨f1,f2⟩:=hK.full sg hi hin;refine⟨_,rfl,q2 f2 _ _ (sm1.trans sm) (sm1.free hl1) ?_⟩;rw[f1];exact hL.l
end
end Pc
end
section
namespace Pc
open PySem PySem.Spec PyProof.Rows L2
open Vbpcan (State Piece Graph)
def kvsOf(rs:List (Nat×Nat)):List (Key×V):=rs.map fun x=>(kN x.1,iN x.2)
theorem Sv{a b:Nat}:kN a=kN b↔a=b:=⟨fun z=>by have:(a:Int)=(b:Int):=Sum.inl.inj z;lia,fun z=>by rw[z]⟩
theorem kS(p:Nat):∀rs:List (Nat×Nat),gv (kvsOf rs) (kN p)=(rs.lookup p).map iN
 | []=>rfl
 | (a,k)::rs=>by
  show gv ((kN a,iN k)::kvsOf rs) (kN p)=_;rw[List.lookup_cons];by_cases h:p=a
  ·subst h;rw[ft rfl];simp
  ·have:(p == a)=false:=by simpa using h
   rw[fw (fun z=>h (Sv.mp z).symm),kS p rs,this]
theorem lookup_none{rs:List (Nat×Nat)}{p:Nat}(h:rs.lookup p=none):p ∉ rs.map (·.1):=by
 induction rs with
 | nil=>simp
 | cons x rs ih=>
  obtain⟨a,k⟩:=x;rw[List.lookup_cons]at h;by_cases e:p=a
  ·subst e;simp at h
  ·have:(p == a)=false:=by simpa using e
   rw[this]at h;simp only[List.map_cons,List.mem_cons,not_or];exact⟨e,ih h⟩
theorem lookup_some{rs:List (Nat×Nat)}{p k:Nat}(h:rs.lookup p=some k):p∈rs.map (·.1):=by
 induction rs with
 | nil=>simp at h
 | cons x rs ih=>
  obtain⟨a,j⟩:=x;rw[List.lookup_cons]at h;by_cases e:p=a
  ·subst e;simp
  ·have:(p == a)=false:=by simpa using e
   rw[this]at h;simp only[List.map_cons,List.mem_cons];exact .inr (ih h)
section
variable{P:Program}{w:World}{K:W.Frag}{mg:Str->Option Value}{base:Heap}{A:iL}
def xm:Sp:=fun vs H Q _=>∃(a:Addr) (n goal:Nat) (g:Graph),vs=[iN goal,.ref a]∧bS rY H a ((List.range n).map (bH g))∧Small g n∧goal<n∧n<=96∧g.length<=9216∧
 ∀(H':Hp) (d:Addr) (rs:List (Nat×Nat)),aq H H'->H d=none->Co g n goal rs->H' d=some (.dK (kvsOf rs))->Q (.ref d) H'
theorem xn(T:Txt K mg A):a6 P w K mg base fe 1 A.fE A.fF ["goal","above"] xm:=by
 refine T.fX.ok cy (fun vs H Q E h=>?_) (fun cdv A1 outer s H vs Q E hr h=>?_)
 ·obtain⟨a,n,goal,g,rfl,_⟩:=h;rfl
 ·obtain⟨a,n,goal,g,rfl,⟨va,hva,hEa⟩,sg,hgn,hn,lg,q⟩:=h;refine⟨_,(ae (aI (i:=2) cy.nd rfl (Or.inl rfl) (QJ (Oz (pv 0) aC QI) rfl rfl (by decide) (by decide)))
 (ae (aI (i:=3) cy.nd rfl (Or.inl rfl) (bE (aa (pv 0) af)))
 (ae (aI (i:=4) cy.nd rfl (Or.inl rfl) aC)
 (ae (nX PassesOwn.never (aH uL (pv 4) (aK ax (by rfl) T.bP bh (aa (pv 3) af)) (aM _)) (ae (aI (i:=5) cy.nd rfl (Or.inl rfl) (aO aJ (pv 3) (pv 4) (fun _ _=>rfl)))
 (ae (tq (i:=4) cy.nd rfl (Or.inl rfl) aC p_)
 (
 ai (cF PassesOwn.never rfl (aX (aO aJ (pv 1) (pv 5) (fun _ _=>rfl))) (aG (i:=6) cy.nd rfl (Or.inl rfl))
 (ai (br (IH (Eb (nq hr) (pv 6) (pv 2))) (ae (zM (nq hr) (pv 2) (pv 6) (bL mI (zL (nq hr) (pv 2) (pv 5) (fun _ _=>rfl)) aC) rfl)
 (ai (cA (jK F.plainAttrs_list F.slot_list_append F.type_list_append cP (pv 3) (aa (pv 6) af))))) aS)))))))
 (ai (ay (pv 2))))))),?_⟩
  intro d hd;refine⟨_,rfl,ah,[(kN goal,iN 0)],rfl,(by show 1<=15;decide),?_⟩;have e1:upd (upd H d (.dK [])) d (.dK (wB [] [(kN goal,iN 0)]))=upd H d (.dK (kvsOf [(goal,0)])):=by
   funext b
   unfold upd;by_cases h:b=d
   ·rw[if_pos h,if_pos h];rfl
   ·rw[if_neg h,if_neg h,if_neg h]
  rw[e1];have sd:aq H (upd H d (.dK (kvsOf [(goal,0)]))):=aq.new hd;refine⟨_,rfl,(by show 1<=sizeLine;decide),fun rd hrd0=>?_⟩;have hrd:H rd=none:=sd.free hrd0;have dr:d≠rd:=ao ah hrd0;refine nY (fun σ H'=>∃(v5 v6:Option V) (i:Nat) (rs:List (Nat×Nat)),σ=[some (iN goal),some (.ref a),some (.ref d),some (.ref rd),some (iN i),v5,v6]∧aq H H'∧H' d=some (.dK (kvsOf rs))∧H' rd=some (.lst (nats (rs.map (·.1))))∧z6 g n goal i rs) (fun σ _=>n - Hy 4 σ)
   ⟨none,none,0,_,rfl,sd.trans (aq.new hrd0),by rw[ak dr];exact ah,ah,z6.init hgn⟩ ?_ (fun σ H Q Q' f ⟨v,x1,u,x2,p,ys,x3,x4,i,j,x5,x6,k,x7,q⟩=>⟨v,x1,u,x2,p,ys,x3,x4,i,j,x5,x6,k,x7,f _ _ q⟩)
  rintro σ H' ⟨v5,v6,i,rs,rfl,sm,hd',hr',hB⟩
  have hrl:=hB.length_le;refine⟨_,rfl,_,rfl,rd,_,rfl,.inl (aP.of hr'),_,_,rfl,rfl,_,rfl,bF (fun h=>?_) fun h=>?_⟩
  ·have hi:i<rs.length:=by rw[aB,List.length_map]at h;simpa using h
   obtain⟨⟨q',kq⟩,hq⟩:∃x,rs[i]? = some x:=⟨_,List.getElem?_eq_getElem hi⟩;have hqn:q'<n:=hB.lt q' kq (List.mem_of_getElem? hq);have hq1:(rs.map (·.1))[i]? = some q':=by rw[List.getElem?_map,hq];rfl
   refine⟨_,rfl,_,rfl,rd,_,_,_,rfl,rfl,aP.of hr',a5 rfl hq1,?_⟩;refine⟨_,rfl,_,_,rfl,rfl,?_⟩;obtain⟨v,hv,row,rfl,hrow⟩:=hEa.2 q' (bH g q') (by rw[List.getElem?_map,List.getElem?_range hqn];rfl);refine⟨_,rfl,_,rfl,a,_,_,.ref row,rfl,rfl,aP.of (sm _ _ hva),at_of rfl hv,row,rfl,⟨_,aP.of (sm _ _ hrow)⟩,?_⟩;refine cU (K:=K) (a:=row) (xs:=nats (bH g q')) (fun j σ H2=>∃(v6:Option V) (rs:List (Nat×Nat)),σ=[some (iN goal),some (.ref a),some (.ref d),some (.ref rd),some (iN (i+1)),some (iN q'),v6]∧aq H H2∧H2 d=some (.dK (kvsOf rs))∧H2 rd=some (.lst (nats (rs.map (·.1))))∧yB g n goal i q' kq j rs)
    ⟨_,_,rfl,sm,hd',hr',hB.start hq⟩ (fun j σ H2 _ ⟨_,_,_,sm2,_⟩=>aP.of (sm2 _ _ hrow)) ?_ ?_
   ·rintro j x σ H2 hj ⟨v6,rs,rfl,sm2,hd2,hr2,hM⟩
    obtain⟨p,hp,rfl⟩:=bJ hj;have hl2:=hM.length_le;refine⟨_,rfl,_,rfl,d,_,rfl,kg.k (k:=kN p) hd2,_,rfl,bF (fun h=>?_) fun h=>?_⟩
    ·rw[kS]at h;have hno:rs.lookup p=none:=by
      cases e:rs.lookup p with
      | none=>rfl
      | some k=>rw[e]at h;cases h
     have hv0:gv (kvsOf rs) (kN p)=none:=by rw[kS,hno];rfl
     have hlq:rs.lookup q'=some kq:=(mi hM.nd).mpr (List.mem_of_getElem? hM.here);have dg:kg H2 d (iN q') (some (iN kq)):=by
      have:=kg.k (k:=kN q') hd2;rw[kS,hlq]at this;exact this
     refine⟨_,rfl,_,rfl,d,_,rfl,dg,_,_,rfl,rfl,_,rfl,_,rfl,d,_,rfl,AF.k (k:=kN p) hd2 (small (by unfold kvsOf;rw[List.length_map];lia)),?_⟩;rw[AE _ hv0];have ek:kvsOf rs++[(kN p,V.int ((kq:Int)+1))]=kvsOf (rs++[(p,kq+1)]):=by
      unfold kvsOf;rw[List.map_append];rfl
     have dr2:rd≠d:=Ne.symm dr;refine⟨_,rfl,.inl ⟨rfl,_,aP.of (by rw[ak dr2];exact hr2)⟩,_,rfl,rd,_,_,rfl,rfl,(by rw[ak dr2];exact hr2),small (by rw[aB,List.length_map];lia),_,rs++[(p,kq+1)],rfl,aq.put (aq.put sm2 hd) hrd,?_,?_,hM.new sg hp (lookup_none hno)⟩
     ·rw[ak dr,ah];exact congrArg (fun z=>some (HO.dK z)) ek
     ·rw[ah,jL,List.map_append];rfl
    ·rw[kS]at h;obtain⟨k,hk⟩:∃k,rs.lookup p=some k:=by
      cases e:rs.lookup p with
      | none=>rw[e]at h;cases h
      | some k=>exact⟨k,rfl⟩
     exact⟨_,rs,rfl,sm2,hd2,hr2,hM.old hp (lookup_some hk)⟩
   ·rintro σ H2 ⟨v6,rs2,rfl,sm2,hd2,hr2,hM⟩
    have hK2:=hM.done (by rw[aB];exact Nat.le_refl _);refine⟨⟨_,_,i+1,_,rfl,sm2,hd2,hr2,hK2⟩,?_⟩;show n - ((i+1:Nat):Int).toNat<n - ((i:Nat):Int).toNat;rw[Int.toNat_natCast,Int.toNat_natCast];lia
  ·have hi:rs.length<=i:=by rw[aB,List.length_map]at h;simpa using h
   exact⟨_,rfl,q _ _ _ sm hd (hB.end_ hi) hd'⟩
theorem MN{l:List Nat}{m:Int}(h:m∈l.map fun(n:Nat)=>(n:Int))(hm:∀y,y∈(l.map fun(n:Nat)=>(n:Int))->m<=y):∃k,k∈l∧m=(k:Int)∧∀x,x∈l->k<=x:=by
 obtain⟨k,hk,rfl⟩:=oI h;exact⟨k,hk,rfl,fun x hx=>by have:=hm _ (List.mem_map.mpr ⟨x,hx,rfl⟩);lia⟩
def vC:Sp:=fun vs H Q _=>∃(b d:Addr) (n start:Nat) (g:Graph) (rs:List (Nat×Nat)),vs=[iN start,.ref b,.ref d]∧bS rY H b ((List.range n).map (below g))∧H d=some (.dK (kvsOf rs))∧Small g n∧start<n∧n<=96∧g.length<=9216∧Co g n start rs∧
 Fn H Q (iN ((Vbpcan.turnOf g n start).getD 0))
theorem vD(T:Txt K mg A):a6 P w K mg base fe 1 A.eE A.eF ["start","below","steps"] vC:=by
 refine T.eP.ok j1 (fun vs H Q E h=>?_) (fun cdv A1 outer s H vs Q E hr h=>?_)
 ·obtain⟨b,d,n,start,g,rs,rfl,_⟩:=h;rfl
 ·obtain⟨b,d,n,start,g,rs,rfl,⟨vb,hvb,hEb⟩,hd,sg,hs,hn,lg,hD,q⟩:=h;refine⟨_,(ae (iM (i:=3) rfl j1.nd rfl rfl (kK rfl rfl rfl (by decide +kernel)) (aX (aO aJ (pv 1) (pv 0) (fun _ _=>rfl))) (own:=[("q",4)]) (aW (show gu ["start","below","steps","rounds","q"] (aj iE) _ _=true from by decide +kernel)) (fun _ _ _ _ _=>(aG (i:=4) j1.nd rfl (Or.inl rfl) (.inr rfl))) (fun _ _ _ _ _=>(jr (IH (Sa (nq hr) (pv 4) (pv 2))))) (fun _ _ _ _ _=>(bL mI (zL (nq hr) (pv 2) (pv 4) (fun _ _=>rfl)) aC)))
 (ai (ay (Me rfl (by rfl) T.Ro (aa (pv 3) af) aC)))),?_⟩
  obtain⟨v,hv,row,rfl,hrow⟩:=hEb.2 start (below g start) (by rw[List.getElem?_map,List.getElem?_range hs];rfl);have hbl:=Bx g start;refine⟨_,rfl,_,rfl,b,_,_,.ref row,rfl,rfl,aP.of hvb,at_of rfl hv,row,rfl,⟨_,aP.of hrow⟩,fun D hDn=>bx (R:=eh) eh.mono (ys:=below g start) (by simp) (fun q=>(rs.lookup q).map (·+1)) hDn (by lia) (aP.of hrow) (fun i v x H1 Yes No hv hx sm hDd yes no=>?_) fun H1 sm L=>?_⟩
  ·obtain⟨y,hy,rfl⟩:=bJ hv;rw[hx]at hy;cases hy;have hd1:=sm _ _ hd;refine⟨rfl,_,rfl,_,rfl,d,_,rfl,kg.k (k:=kN x) hd1,_,rfl,bF (fun h=>?_) fun h=>?_⟩
   ·rw[kS]at h;obtain⟨k,hk⟩:∃k,rs.lookup x=some k:=by
     cases e:rs.lookup x with
     | none=>rw[e]at h;cases h
     | some k=>exact⟨k,rfl⟩
    have dg:kg H1 d (iN x) (some (iN k)):=by
     have:=kg.k (k:=kN x) hd1;rw[kS,hk]at this;exact this
    exact⟨_,rfl,_,rfl,d,_,rfl,dg,_,_,rfl,rfl,yes _ _ _ (by rw[hk];rfl) (aq.refl _) rfl⟩
   ·rw[kS]at h;have hno:rs.lookup x=none:=by
     cases e:rs.lookup x with
     | none=>rfl
     | some k=>rw[e]at h;cases h
    exact no _ (by rw[hno];rfl) (aq.refl _)
  ·have e:=bY L;rw[ka]at e;have er:(below g start).filterMap (fun q=>(rs.lookup q).map (·+1))=rounds g start rs:=rfl;rw[er]at e;refine⟨_,rfl,D,_,rfl,aP.of e,fun e0=>?_,fun m hm hy=>?_⟩
   ·have:rounds g start rs=[]:=List.map_eq_nil_iff.mp e0;rw[hD.Qg sg this]at q;exact q _ sm
   ·obtain⟨k,hk,rfl,hk2⟩:=MN hm hy;rw[hD.round sg hk hk2]at q;exact q _ sm
theorem QX{l:List Nat}{u:Nat}(h:l.getLast? = some u):EX (nats l) (-1)=some (iN u):=by
 have hne:l≠[]:=fun z=>by rw[z]at h;cases h
 rw[FC hne];rw[List.getLast?_eq_getElem?]at h;rw[List.getD_eq_getElem?_getD,h];rfl
def FI:Sp:=fun vs H Q _=>∃(b d:Addr) (n start size:Nat) (g:Graph) (rs:List (Nat×Nat)),vs=[iN start,iN size,.ref b,.ref d]∧bS rY H b ((List.range n).map (below g))∧H d=some (.dK (kvsOf rs))∧Small g n∧Up g∧start<n∧n<=96∧g.length<=9216∧Co g n start rs∧Vbpcan.turnOf g n start=some size∧
 Bg H Q (Vbpcan.walk g (Vbpcan.layers g n start) size start)
theorem FJ(T:Txt K mg A):a6 P w K mg base fe 1 A.lq A.lB ["start","size","below","steps"] FI:=by
 refine T.lP.ok j2 (fun vs H Q E h=>?_) (fun cdv A1 outer s H vs Q E hr h=>?_)
 ·obtain⟨b,d,n,start,size,g,rs,rfl,_⟩:=h;rfl
 ·obtain⟨b,d,n,start,size,g,rs,rfl,⟨vb,hvb,hEb⟩,hd,sg,ug,hs,hn,lg,hD,ht,q⟩:=h;refine⟨_,(ae (aI (i:=4) j2.nd rfl (Or.inl rfl) (bE (aa (pv 0) af)))
 (
 ae (cF PassesOwn.never rfl (LX rfl T.c4 (aa (bL wk (pv 1) aC) (aa aC (aa (KQ EW aC) af)))) (aG (i:=5) j2.nd rfl (Or.inr rfl))
 (ae (iM (i:=6) rfl j2.nd rfl rfl (kK rfl rfl rfl (by decide +kernel)) (aX (aO aJ (pv 2) (aO aJ (pv 4) (KQ EW aC) (fun _ _=>rfl)) (fun _ _=>rfl))) (own:=[("q",7)]) (aW (show gu ["start","size","below","steps","ring","left","nearer","q"] (aj nz) _ _=true from by decide +kernel)) (fun _ _ _ _ _=>(aG (i:=7) j2.nd rfl (Or.inl rfl) (.inr rfl))) (fun _ _ _ _ _=>(jr (aH bW (OB (nq hr) (pv 3) (pv 7) ⟨rfl,rfl,rfl,rfl⟩) (pv 5) (aM _)))) (fun _ _ _ _ _=>(pv 7)))
 (ai (cA (jK F.plainAttrs_list F.slot_list_append F.type_list_append cP (pv 4) (aa (aO aJ (pv 6) aC (fun _ _=>rfl)) af))))))
 (ai (ay (pv 4))))),?_⟩
  obtain⟨t1,t2,t3,t4⟩:=kT sg ht;refine⟨_,rfl,(by show 1<=sizeLine;decide),fun r hr0=>?_⟩;have s0:aq H (upd H r (.lst [iN start])):=aq.new hr0;refine⟨_,rfl,_,_,rfl,rfl,_,rfl,_,_,_,_,rfl,Ua.neg (by lia) (by lia) (by decide) (by decide),?_⟩;rw[show((size:Int) - 1 - 0).toNat=size - 1 by lia];refine I0 (n:=size - 1) (fun k σ H'=>∃(v5 v6:Option V) (ring:List Nat) (u:Nat),σ=[some (iN start),some (iN size),some (.ref b),some (.ref d),some (.ref r),v5,v6,none]∧aq H H'∧H' r=some (.lst (nats ring))∧Cp g n start size (size - 1 - k) ring u) ⟨none,none,[start],start,rfl,s0,ah,Cp.init (by lia) t3⟩ ?_ ?_
  ·rintro k σ H' hk ⟨v5,v6,ring,u,rfl,sm,hr',hR⟩
   have hR':Cp g n start size ((size - 1 - (k+1))+1) ring u:=by
    rw[show size - 1 - (k+1)+1=size - 1 - k by lia];exact hR
   obtain⟨x,hx,hR2⟩:=hR'.step sg ug hD t2 t4;have hun:u<n:=Walk.lt sg hR.rest hs;obtain⟨v,hv,row,rfl,hrow⟩:=hEb.2 u (below g u) (by rw[List.getElem?_map,List.getElem?_range hun];rfl);have hbl:=Bx g u;have hlen:=hR.len;have eleft:((size:Int) - 1)+((k:Nat):Int) * (-1)=((size - 1 - (k+1)+1:Nat):Int):=by lia
   refine⟨_,rfl,_,rfl,_,rfl,r,_,_,_,rfl,rfl,aP.of hr',QX hR.last,b,_,_,.ref row,rfl,rfl,aP.of (sm _ _ hvb),at_of rfl hv,row,rfl,⟨_,aP.of (sm _ _ hrow)⟩,fun D hDn=>?_⟩;refine bx (R:=eh) eh.mono (ys:=below g u) (by simp) (fun q=>if (rs.lookup q == some (size - 1 - (k+1)+1))=true then some q else none) hDn (by lia) (aP.of (sm _ _ hrow)) (fun i v y H1 Yes No hv hy sm1 hDd yes no=>?_) fun H1 sm1 L=>?_
   ·obtain⟨z,hz,rfl⟩:=bJ hv;rw[hy]at hz;cases hz;have hd1:=sm1 _ _ (sm _ _ hd);refine⟨rfl,_,rfl,d,rfl,.inl ⟨_,.inl hd1⟩,_,rfl,_,kg.k (k:=kN y) hd1,_,rfl,?_,_,rfl,?_⟩
    ·rw[kS];cases rs.lookup y <;> rfl
    ·rw[kS];have eb:decide (((rs.lookup y).map iN).getD .gi=V.int (((size:Int) - 1)+((k:Nat):Int) * (-1)))=(rs.lookup y == some (size - 1 - (k+1)+1)):=by
      rw[eleft];cases rs.lookup y with
      | none=>rfl
      | some m=>
       show decide (V.int (m:Int)=V.int ((size - 1 - (k+1)+1:Nat):Int))=_;rw[kh,Bool.eq_iff_iff];simp
     show if decide (((rs.lookup y).map iN).getD .gi=V.int (((size:Int) - 1)+((k:Nat):Int) * (-1)))=true then _ else _
     rw[eb];refine bF (fun h=>?_) fun h=>?_
     ·rw[h]at yes;exact⟨_,rfl,yes _ _ _ rfl (aq.refl _) rfl⟩
     ·rw[h]at no;exact no _ rfl (aq.refl _)
   ·rw[dG]at L;have hl:=bY L;have h0:((below g u).filter fun q=>rs.lookup q == some (size - 1 - (k+1)+1))[0]? = some x:=by
     rw[<-List.head?_eq_getElem?,List.head?_filter];exact hx
    have hr2:=sm1 _ _ hr';refine⟨_,rfl,.inl ⟨rfl,_,aP.of hr2⟩,_,rfl,D,_,_,_,rfl,rfl,aP.of hl,a5 (i:=0) rfl h0,r,_,_,rfl,rfl,hr2,small (by rw[aB];lia),_,_,ring++[x],x,rfl,aq.put (sm.trans sm1) hr0,?_,hR2⟩;rw[ah,jL]
  ·rintro σ H' ⟨v5,v6,ring,u,rfl,sm,hr',hR⟩
   rw[Nat.sub_self]at hR;rw[hR.end_]at hr';exact⟨_,rfl,q _ _ sm hr0 hr'⟩
def JG:Sp:=fun vs H Q _=>∃(a:Addr) (n:Nat) (g:Graph),vs=[iN n,.ref a]∧bS bN H a g∧Small g n∧Up g∧g.length<=9216∧n<=96∧Bg H Q (Vbpcan.ring g n)
theorem JH(T:Txt K mg A):a6 P w K mg base fe 2 A.oe A.og ["count","pairs"] JG:=by
 refine T.oA.ok gN (fun vs H Q E h=>?_) (fun cdv A1 outer s H vs Q E hr h=>?_)
 ·obtain⟨a,n,g,rfl,_⟩:=h;rfl
 ·obtain⟨a,n,g,rfl,hG,sg,ug,lg,hn,q⟩:=h;refine⟨_,(ae (aI (i:=2) gN.nd rfl (Or.inl rfl) (au (qU T) (hr.mono (by decide)) rfl T.sI T.gn.kp T.sH .nil aA (aa (pv 0) (aa (pv 1) af))))
 (ae (aI (i:=3) gN.nd rfl (Or.inl rfl) (au (iB T) (hr.mono (by decide)) rfl T.ji T.cD.kp T.jh .nil aA (aa (pv 0) (aa (pv 1) af))))
 (ae (aI (i:=4) gN.nd rfl (Or.inl rfl) (bE af))
 (
 ae (cF PassesOwn.never rfl (b_ rfl T.c4 (aa (pv 0) af)) (aG (i:=5) gN.nd rfl (Or.inl rfl))
 (ae (aI (i:=6) gN.nd rfl (Or.inl rfl) (au (xn T) (hr.mono (by decide)) rfl T.yI T.fX.kp T.yH .nil aA (aa (pv 5) (aa (pv 3) af))))
 (ae (aI (i:=7) gN.nd rfl (Or.inl rfl) (au (vD T) (hr.mono (by decide)) rfl T.wM T.eP.kp T.wL .nil aA (aa (pv 5) (aa (pv 2) (aa (pv 6) af)))))
 (ai (br (PW.pt (oQ (aH yi (pv 7) aC (aM _)) (ma (PW.pt (D3 (aH bW (aK ax (by rfl) T.bP bh (aa (pv 4) af)) aC (aM _)) (wj (aH uL (pv 7) (aK ax (by rfl) T.bP bh (aa (pv 4) af)) (aM _)))))))) (ai (aI (i:=4) gN.nd rfl (Or.inl rfl) (au (FJ T) (hr.mono (by decide)) rfl T.G4 T.lP.kp T.G3 .nil aA (aa (pv 5) (aa (pv 7) (aa (pv 2) (aa (pv 6) af))))))) aS)))))
 (ai (ay (pv 4))))))),?_⟩
  refine⟨_,rfl,_,rfl,a,n,g,rfl,hG,sg,lg,hn,fun H1 b sm1 hb hB=>?_⟩;refine⟨_,rfl,_,rfl,a,n,g,rfl,hG.mono bN.mono sm1,sg,lg,hn,fun H2 ab sm2 hab hA=>?_⟩;have hB2:=hB.mono rY.mono sm2;refine⟨Nat.zero_le _,fun r0 hr0=>?_⟩;have s0:aq H2 (upd H2 r0 (.lst [])):=aq.new hr0;refine⟨_,rfl,_,rfl,by lia,by lia,?_⟩;rw[vw (show n=n from rfl)];refine jJ (n:=n) (fun i σ H'=>∃(v5 v6 v7:Option V) (r:Addr),σ=[some (iN n),some (.ref a),some (.ref b),some (.ref ab),some (.ref r),v5,v6,v7]∧aq H2 H'∧H2 r=none∧H' r=some (.lst (nats (told g n (best g n i))))) ⟨none,none,none,r0,rfl,s0,hr0,ah⟩ ?_ ?_
  ·rintro i σ H' hi ⟨v5,v6,v7,r,rfl,sm,hrn,hr'⟩
   refine⟨_,rfl,_,rfl,ab,n,i,g,(by rw[aV];rfl),hA.mono rY.mono sm,sg,hi,hn,lg,fun H3 d rs sm3 hd hD hd3=>?_⟩;have smB:=sm.trans sm3;refine⟨_,rfl,_,rfl,_,rfl,b,d,n,i,g,rs,(by rw[aV];rfl),hB2.mono rY.mono smB,hd3,sg,hi,hn,lg,hD,fun H4 sm4=>?_⟩;have hr4:=sm4 _ _ (sm3 _ _ hr');have smC:=smB.trans sm4;have keyb:(decide ((0:Int)<(((Vbpcan.turnOf g n i).getD 0:Nat):Int)) && (decide (V.int ((nats (told g n (best g n i))).length:Nat)=V.int 0) || decide ((((Vbpcan.turnOf g n i).getD 0:Nat):Int)<(((nats (told g n (best g n i))).length:Nat):Int))))=true↔∃k,Vbpcan.turnOf g n i=some k∧((told g n (best g n i)).length=0∨k<(told g n (best g n i)).length):=by
    rw[aB];cases e:Vbpcan.turnOf g n i with
    | none=>simp
    | some k=>
     have:=(kT sg e).1;simp;lia
   refine⟨_,rfl,_,_,rfl,rfl,_,rfl,Hi (b2:=decide (V.int ((nats (told g n (best g n i))).length:Nat)=V.int 0) || decide ((((Vbpcan.turnOf g n i).getD 0:Nat):Int)<(((nats (told g n (best g n i))).length:Nat):Int))) (Q:=fun b=>if b=true then _ else _) (fun hq=>⟨_,rfl,r,_,rfl,.inl (aP.of hr4),rfl,_,rfl,UW (Q:=fun b=>if b=true then _ else _) (fun hq2=>⟨_,rfl,_,rfl,r,_,rfl,.inl (aP.of hr4),_,_,rfl,rfl,_,rfl,hq2⟩) hq⟩) (bF (fun h=>?_) fun h=>?_)⟩
   ·obtain⟨k,hk,hk2⟩:=keyb.mp h;rw[hk];refine⟨_,rfl,_,rfl,_,rfl,_,rfl,b,d,n,i,k,g,rs,(by rw[aV];rfl),hB2.mono rY.mono smC,sm4 _ _ hd3,sg,ug,hi,hn,lg,hD,hk,fun H5 r5 sm5 hr5 e5=>?_⟩;refine⟨_,_,_,r5,rfl,smC.trans sm5,smC.free hr5,?_⟩;rw[NP sg hk hk2];exact e5
   ·refine⟨_,_,_,r,rfl,smC,hrn,?_⟩;rw[Lv sg]
    ·exact hr4
    ·cases e:Vbpcan.turnOf g n i with
     | none=>exact .inl rfl
     | some k=>
      refine .inr ⟨k,rfl,?_⟩;have h1:¬∃k,Vbpcan.turnOf g n i=some k∧((told g n (best g n i)).length=0∨k<(told g n (best g n i)).length):=fun z=>by
       rw[keyb.mpr z]at h;cases h
      constructor
      ·intro z;exact h1 ⟨k,e,.inl z⟩
      ·rcases Nat.lt_or_ge k (told g n (best g n i)).length with z | z
       ·exact absurd ⟨k,e,.inr z⟩ h1
       ·exact z
  ·rintro σ H' ⟨v5,v6,v7,r,rfl,sm,hrn,hr'⟩
   rw[<-vX]at hr';exact⟨_,rfl,q _ _ ((sm1.trans sm2).trans sm) ((sm1.trans sm2).free hrn) hr'⟩
end
end Pc
end
section
namespace Pc
open PySem PySem.Spec PyProof.Rows L2
open Vbpcan (State Piece Graph)
theorem m7(n:Nat)(l:List (Nat×Nat)):(gE n l).length=n:=by unfold gE;rw[List.length_map,List.length_range]
theorem O9{n k t:Nat}{l:List (Nat×Nat)}{put:List Nat}(hk:k<n)(hn:∀v,v∈put++[k]->v ∉ l.map (·.1)):(gE n (l++put.map fun u=>(u,t))).set k t=gE n (l++(put++[k]).map fun u=>(u,t)):=by
 refine rn (by rw[List.length_set,m7,m7]) fun u hu=>?_
 rw[List.length_set,m7]at hu;rw[cg (by rw[m7];exact hk),Ag hu hn,Ag hu fun v hv=>hn v (List.mem_append_left _ hv)];by_cases e:u=k
 ·subst e;rw[if_pos rfl,if_pos (by simp)]
 ·rw[if_neg e];by_cases h:u∈put
  ·rw[if_pos h,if_pos (List.mem_append_left _ h)]
  ·rw[if_neg h,if_neg (fun z=>by
    rcases List.mem_append.mp z with z | z
    ·exact h z
    ·exact e (by simpa using z))]
def TC(H:Hp):V->Option Piece->Prop
 | v,none=>v=.gi
 | v,some p=>a7 H v p
abbrev wait(s:State)(l:List (Nat×Nat)):List (Nat×Piece):=(Vbpcan.byLeft s).filter fun p=>!(l.map (·.1)).contains p.1
theorem vE{s:State}{l:List (Nat×Nat)}{p:Nat×Piece}:p∈wait s l↔(Vbpcan.pieces s)[p.1]? = some p.2∧p.1 ∉ l.map (·.1):=by
 rw[List.mem_filter,jx];simp
section
variable{P:Program}{w:World}{K:W.Frag}{mg:Str->Option Value}{base:Heap}{A:iL}
def CT:Sp:=fun vs H Q _=>∃(wa ps hi rw':Addr) (i:Nat) (s:State) (g:Graph) (l:List (Nat×Nat)),vs=[iN (i+1),.ref wa,.ref ps,.ref hi,.ref rw']∧rW s g i l∧(Vbpcan.pieces s).length<=96∧i<=96∧g.length<=9216∧Small g (Vbpcan.pieces s).length∧
 (hole H rw') wa=some (.lst (nats ((wait s l).map (·.1))))∧bS a7 (hole H rw') ps (Vbpcan.pieces s)∧bS rY (hole H rw') hi ((List.range (Vbpcan.pieces s).length).map (bH g))∧H rw'=some (.lst (nats (gE (Vbpcan.pieces s).length l)))∧
 ∀H':Hp,aq (hole H rw') H'->H' rw'=some (.lst (nats (gE (Vbpcan.pieces s).length (l++(k6 s g l).map fun u=>(u,i+1)))))->Q .gi H'
theorem CU(T:Txt K mg A):a6 P w K mg base fe 2 A.j3 A.j4 ["track","waiting","pieces","higher","row"] CT:=by
 refine T.j7.ok ee (fun vs H Q E h=>?_) (fun cdv A1 outer s H vs Q E hr h=>?_)
 ·obtain⟨wa,ps,hi,rw',i,st,g,l,rfl,_⟩:=h;rfl
 ·obtain⟨wa,ps,hi,rw',i,st,g,l,rfl,hE,hn,hi96,lg,sg,hwa,⟨vp,hvp,hEp⟩,⟨vh,hvh,hEh⟩,hrw,q⟩:=h;refine⟨_,(ae (aI (i:=5) ee.nd rfl (Or.inl rfl) mH)
 (
 ai (cF PassesOwn.never rfl (aX (pv 1)) (aG (i:=6) ee.nd rfl (Or.inl rfl))
 (ae (aI (i:=7) ee.nd rfl (Or.inl rfl) (aK (E5 rfl) (by rfl) T.Lb Fb (aa (fq rfl ee.nd (aX (aO aJ (pv 3) (pv 6) (fun _ _=>rfl))) (own:=[("p",8)]) (aW (show gu ["track","waiting","pieces","higher","row","last_put","k","ready","p"] (aj me) _ _=true from by decide +kernel)) (fun _ _ _ _ _=>(aG (i:=8) ee.nd rfl (Or.inl rfl) (.inr rfl))) (fun _ _ _ _ _=>bX) (fun _ _ _ _ _=>(Au uL uL aC (aO (r:=jQ K) aJ (pv 4) (pv 8) (fun _ _=>rfl)) (pv 0)))) af)))
 (ai (br (PW.pt (oQ (jU (pv 7)) (ma (PW.pt (D3 (aH wo (pv 5) mH (aM _)) (wj (jU (au (Jw T) (hr.mono (by decide)) rfl T.Mv T.oB.kp T.Mu .nil aA (aa (aO aJ (pv 2) (pv 6) (fun _ _=>rfl)) (aa (pv 5) af)))))))))) (ae (tp (pv 0) (tm (pv 4) (pv 6) set_list))
 (ai (aI (i:=5) ee.nd rfl (Or.inl rfl) (aO aJ (pv 2) (pv 6) (fun _ _=>rfl))))) aS)))))),?_⟩
  have hole0:=rM (H:=H) (D:=rw');refine⟨_,rfl,wa,rfl,⟨_,aP.of (hole0 _ _ hwa)⟩,cU (K:=K) (a:=wa) (xs:=nats ((wait st l).map (·.1))) (fun j σ H'=>∃(v6 v7:Option V) (lastv:V) (put:List Nat) (last:Option Piece),σ=[some (iN (i+1)),some (.ref wa),some (.ref ps),some (.ref hi),some (.ref rw'),some lastv,v6,v7,none]∧aq (hole H rw') H'∧H' rw'=some (.lst (nats (gE (Vbpcan.pieces st).length (l++put.map fun u=>(u,i+1)))))∧yC g (l.map (·.1)) (wait st l) j put last∧TC (hole H rw') lastv last∧(∀u,u∈put->u ∉ l.map (·.1)∧u∈((wait st l).take j).map (·.1)))
   ⟨none,none,.gi,[],none,rfl,hole0,by simpa using hrw,yC.init,rfl,fun u hu=>(by cases hu)⟩ (fun j σ H' _ ⟨_,_,_,_,_,_,sm,_⟩=>aP.of (sm _ _ hwa)) ?_ ?_⟩
  ·rintro j x σ H' hj ⟨v6,v7,lastv,put,last,rfl,sm,hr',hT,hLast,hput⟩
   obtain⟨k,hk,rfl⟩:=bJ hj;rw[List.getElem?_map,Option.map_eq_some_iff]at hk;obtain⟨⟨k',p⟩,hwj,ek⟩:=hk;have ek:k'=k:=ek;subst ek;have hm:=vE.mp (List.mem_of_getElem? hwj);have hkp:(Vbpcan.pieces st)[k']? = some p:=hm.1;have hkd:k' ∉ l.map (·.1):=hm.2;have hkn:k'<(Vbpcan.pieces st).length:=(List.getElem?_eq_some_iff.mp hkp).1;obtain⟨v,hv,row,rfl,hrow⟩:=hEh.2 k' (bH g k') (by rw[List.getElem?_map,List.getElem?_range hkn];rfl);have hal:=xh g k';have putn:∀v,v∈put->v ∉ l.map (·.1):=fun v hv=>(hput v hv).1
   have SE:∀u,u<(Vbpcan.pieces st).length->(decide ((0:Int)<(Vbpcan.trackOf (gE (Vbpcan.pieces st).length (l++put.map fun u=>(u,i+1))) u:Nat)) && decide (((Vbpcan.trackOf (gE (Vbpcan.pieces st).length (l++put.map fun u=>(u,i+1))) u:Nat):Int)<((i+1:Nat):Int)))=(l.map (·.1)).contains u:=fun u hu=>by
    rw[Ag hu putn,Bool.eq_iff_iff];have hrw:=hE.row hu;by_cases hp:u∈put
    ·rw[if_pos hp];have:=putn u hp;simp[this]
    ·rw[if_neg hp];by_cases hd:u∈l.map (·.1)
     ·have:=hrw.1 hd;simp only[Bool.and_eq_true,decide_eq_true_eq,List.contains_iff_mem];exact⟨fun _=>hd,fun _=>⟨by lia,by lia⟩⟩
     ·have:=hrw.2 hd;simp only[Bool.and_eq_true,decide_eq_true_eq,List.contains_iff_mem];exact⟨fun z=>absurd z.1 (by lia),fun z=>absurd z hd⟩
   refine⟨_,rfl,_,rfl,hi,_,_,.ref row,rfl,rfl,aP.of (sm _ _ hvh),at_of rfl hv,row,rfl,⟨_,aP.of (sm _ _ hrow)⟩,fun D hD=>?_⟩;refine bx (R:=pE) pE.mono (ys:=bH g k') (by simp) (fun u=>some ((l.map (·.1)).contains u)) hD (by lia) (aP.of (sm _ _ hrow)) (fun m v u H1 Yes No hv hu sm1 hDd yes no=>?_) fun H1 sm1 L=>?_
   ·obtain⟨y,hy,rfl⟩:=bJ hv;rw[hu]at hy;cases hy;have hun:u<(Vbpcan.pieces st).length:=(sg _ _ (c9.mp (List.mem_of_getElem? hu))).1;have ix:=a5 (z:=(u:Int)) rfl (cE (l:=gE (Vbpcan.pieces st).length (l++put.map fun u=>(u,i+1))) (k:=u) (by rw[m7];exact hun));have ht:=SE u hun;refine⟨rfl,nP ⟨_,rfl,_,rfl,rw',_,_,_,rfl,rfl,aP.of (sm1 _ _ hr'),ix,_,_,rfl,rfl,_,rfl,bF (fun h=>?_) fun h=>?_⟩⟩
    ·refine⟨_,rfl,_,_,rfl,rfl,yes _ _ _ rfl (aq.refl _) ?_⟩;rw[<-ht];have h:decide ((0:Int)<((Vbpcan.trackOf (gE (Vbpcan.pieces st).length (l++put.map fun u=>(u,i+1))) u:Nat):Int))=true:=h;rw[h];rfl
    ·refine yes _ _ _ rfl (aq.refl _) ?_;rw[<-ht];have h:decide ((0:Int)<((Vbpcan.trackOf (gE (Vbpcan.pieces st).length (l++put.map fun u=>(u,i+1))) u:Nat):Int))=false:=h;rw[h];rfl
   ·rw[filterMap_some]at L;have eall:((bH g k').map fun u=>(l.map (·.1)).contains u).all id=freeOf g (l.map (·.1)) k':=by
     rw[Bool.eq_iff_iff,Af,List.all_eq_true];constructor
     ·intro h p hp;have:=h _ (List.mem_map.mpr ⟨p,c9.mpr hp,rfl⟩);simpa using this
     ·intro h b hb;obtain⟨u,hu,rfl⟩:=List.mem_map.mp hb;have:=h u (c9.mp hu);simpa using this
    refine⟨D,_,rfl,aP.of (rN L),?_⟩;rw[eall];have smA:=sm.trans sm1;have hr1:=sm1 _ _ hr';obtain⟨vk,hvk,bk,rfl,hbk⟩:=hEp.2 k' p hkp;have ixp:EX vp (k':Int)=some (.ref bk):=at_of rfl hvk;refine⟨_,rfl,_,rfl,Hi (b2:=fits last p) (Q:=fun b=>if b=true then _ else _) (fun hq=>?_) (bF (fun h=>?_) fun h=>?_)⟩
    ·cases last with
     | none=>
      have:lastv=.gi:=hLast;subst this;exact⟨_,rfl,rfl,_,rfl,rX hq⟩
     | some lp=>
      obtain⟨bl,rfl,hbl⟩:=hLast;exact⟨_,rfl,rfl,_,rfl,uQ ⟨_,rfl,_,rfl,ps,_,_,_,rfl,rfl,aP.of (smA _ _ hvp),ixp,_,rfl,_,_,p,lp,rfl,⟨bk,rfl,smA _ _ hbk⟩,⟨bl,rfl,smA _ _ hbl⟩,_,rfl,hq⟩⟩
    ·rw[Bool.and_eq_true]at h;have hkput:k' ∉ put:=fun z=>by
      have h1:=(hput k' z).2;obtain⟨⟨a,b⟩,ha,eab⟩:=List.mem_map.mp h1;have eab:a=k':=eab;subst eab;have nd:((wait st l).map (·.1)).Nodup:=by
       have:=ya st;refine List.Pairwise.sublist ?_ this;exact(List.filter_sublist).map _
      obtain⟨m,hm1⟩:=List.mem_iff_getElem?.mp ha;rw[List.getElem?_take]at hm1
      split at hm1
      ·rename_i hmj;have q1:((wait st l).map (·.1))[m]? = some a:=by rw[List.getElem?_map,hm1];rfl
       have q2:((wait st l).map (·.1))[j]? = some a:=by rw[List.getElem?_map,hwj];rfl
       have:=Rm nd q1 q2;lia
      ·cases hm1
     have hnew:∀v,v∈put++[k']->v ∉ l.map (·.1):=fun v hv=>by
      rcases List.mem_append.mp hv with z | z
      ·exact putn v z
      ·have:v=k':=by simpa using z
       rw[this];exact hkd
     refine⟨_,rfl,_,rfl,_,rfl,rw',_,_,k',rfl,rfl,hr1,nF rfl (by rw[aB,m7];exact hkn),?_⟩;have smB:aq (hole H rw') (upd H1 rw' (.lst ((nats (gE (Vbpcan.pieces st).length (l++put.map fun u=>(u,i+1)))).set k' (iN (i+1))))):=fun b o ho=>by
      rw[ak (jM ho).2];exact smA _ _ ho
     refine⟨_,rfl,_,rfl,ps,_,_,_,rfl,rfl,aP.of (smB _ _ hvp),ixp,_,_,_,put++[k'],some p,rfl,smB,?_,hT.here hwj hkd h.1 h.2,⟨bk,rfl,hbk⟩,fun u hu=>?_⟩
     ·rw[ah,mL,O9 hkn hnew]
     ·refine⟨hnew u hu,?_⟩;rw[aQ hwj,List.map_append,List.mem_append];rcases List.mem_append.mp hu with z | z
      ·exact .inl (hput u z).2
      ·exact .inr (by simpa using z)
    ·refine⟨_,_,lastv,put,last,rfl,smA,hr1,hT.skip hwj (fun z=>?_),hLast,fun u hu=>⟨(hput u hu).1,?_⟩⟩
     ·rw[z.1,z.2]at h;cases h
     ·rw[aQ hwj,List.map_append,List.mem_append];exact .inl (hput u hu).2
  ·rintro σ H' ⟨v6,v7,lastv,put,last,rfl,sm,hr',hT,hLast,hput⟩
   rw[aB,List.length_map]at hT;have e:k6 st g l=put:=(nh g (l.map (·.1)) (Vbpcan.byLeft st) none).trans hT.end_;exact q _ sm (by rw[e];exact hr')
end
end Pc
end
section
namespace Pc
open PySem PySem.Spec PyProof.Rows L2
open Vbpcan (State Piece Graph)
def tz(s:State)(k:Nat):List Int:=let p:=(Vbpcan.pieces s).getD k ⟨0,0,0⟩;[(p.l:Int),(p.r:Int),(k:Int)]
theorem O_{s:State}{k:Nat}{p:Piece}(h:(Vbpcan.pieces s)[k]? = some p):tz s k=[(p.l:Int),(p.r:Int),(k:Int)]:=by
 unfold tz;rw[List.getD_eq_getElem?_getD,h];rfl
theorem TF{a b c a' b' c':Nat}:oV [(a:Int),(b:Int),(c:Int)] [(a':Int),(b':Int),(c':Int)]=true↔a<a'∨(a=a'∧(b<b'∨(b=b'∧c<c'))):=by
 unfold oV oV oV oV;simp;lia
theorem MO{s:State}{ks:List Nat}(hp:ks.Perm (List.range (Vbpcan.pieces s).length))(hs:ks.Pairwise fun x y=>oV (tz s y) (tz s x)=false):ks=(Vbpcan.byLeft s).map (·.1):=by
 have hlt:∀k,k∈ks->k<(Vbpcan.pieces s).length:=fun k hk=>List.mem_range.mp (hp.mem_iff.mp hk)
 have nd:ks.Nodup:=hp.nodup_iff.mpr List.nodup_range
 let f:Nat->Nat×Piece:=fun k=>(k,(Vbpcan.pieces s).getD k ⟨0,0,0⟩)
 have hf:∀k,k<(Vbpcan.pieces s).length->(Vbpcan.pieces s)[k]? = some (f k).2:=fun k hk=>by
  show _=some ((Vbpcan.pieces s).getD k ⟨0,0,0⟩);rw[List.getD_eq_getElem?_getD,List.getElem?_eq_getElem hk];rfl
 have up:(ks.map f).Pairwise EI:=by
  refine List.pairwise_map.mpr ?_;refine List.Pairwise.imp_of_mem (R:=fun x y=>oV (tz s y) (tz s x)=false∧x≠y) (fun {a b} ha hb ⟨h1,h2⟩=>?_) (List.Pairwise.and hs nd);have e1:=O_ (hf a (hlt a ha));have e2:=O_ (hf b (hlt b hb));have h3:¬EI (f b) (f a):=fun z=>by
   rw[e1,e2,TF.mpr z]at h1;cases h1
  unfold EI at *;have:(f a).1=a:=rfl;have:(f b).1=b:=rfl;lia
 have e:=Ly (s:=s) up fun x=>by
  rw[List.mem_map];constructor
  ·rintro ⟨k,hk,rfl⟩
   exact hf k (hlt k hk)
  ·intro hx;have hxl:=(List.getElem?_eq_some_iff.mp hx).1;refine⟨x.1,hp.mem_iff.mpr (List.mem_range.mpr hxl),?_⟩;have:=hf x.1 hxl;rw[hx]at this;exact Prod.ext rfl (Option.some.inj this).symm
 rw[<-e,List.map_map];exact(List.map_id' ks).symm
section
variable{P:Program}{w:World}{K:W.Frag}{mg:Str->Option Value}{base:Heap}{A:iL}
def xo:Sp:=fun vs H Q _=>∃(a b:Addr) (s:State) (g:Graph),vs=[.ref a,.ref b]∧bS a7 H a (Vbpcan.pieces s)∧bS bN H b g∧(Vbpcan.pieces s).length<=96∧g.length<=9216∧Small g (Vbpcan.pieces s).length∧Vbpcan.ring g (Vbpcan.pieces s).length=[]∧Bg H Q (Vbpcan.leftEdge s g)
theorem xp(T:Txt K mg A):a6 P w K mg base fe 3 A.fH A.fI ["pieces","above"] xo:=by
 refine T.fY.ok aY (fun vs H Q E h=>?_) (fun cdv A1 outer s H vs Q E hr h=>?_)
 ·obtain⟨a,b,st,g,rfl,_⟩:=h;rfl
 ·obtain⟨a,b,st,g,rfl,hP,hG,hn,lg,sg,hring,q⟩:=h;refine⟨_,(ae (aI (i:=2) aY.nd rfl (Or.inl rfl) (au (iB T) (hr.mono (by decide)) rfl T.ji T.cD.kp T.jh .nil aA (aa (aK ax (by rfl) T.bP bh (aa (pv 0) af)) (aa (pv 1) af))))
 (ae (aI (i:=3) aY.nd rfl (Or.inr rfl) (bL AB (bE (aa aC af)) (aK ax (by rfl) T.bP bh (aa (pv 0) af))))
 (ae (aI (i:=4) aY.nd rfl (Or.inl rfl) (aK Jh (by rfl) T.vd rK (aa (fq rfl aY.nd (b_ rfl T.c4 (aa (aK ax (by rfl) T.bP bh (aa (pv 0) af)) af)) (own:=[("k",5)]) (aW (show gu ["pieces","above","higher","row","by_columns","k","waiting","first","last","track"] (aj dA) _ _=true from by decide +kernel)) (fun _ _ _ _ _=>(aG (i:=5) aY.nd rfl (Or.inl rfl) (.inr rfl))) (fun _ _ _ _ _=>bX) (fun _ _ _ _ _=>(iJ (aa (aO (r:=EZ K) cY (aO (r:=jQ K) aJ (pv 0) (pv 5) (fun _ _=>rfl)) aC (fun _ _=>rfl)) (aa (aO (r:=EZ K) cY (aO (r:=jQ K) aJ (pv 0) (pv 5) (fun _ _=>rfl)) aC (fun _ _=>rfl)) (aa (pv 5) af)))))) af)))
 (ae (iM (i:=6) rfl aY.nd rfl rfl (kK rfl rfl rfl (by decide +kernel)) (aX (pv 4)) (own:=[("k",5),("first",7),("last",8)]) (aW (show gu ["pieces","above","higher","row","by_columns","k","waiting","first","last","track"] (aj dA) _ _=true from by decide +kernel)) (fun _ _ _ _ _=>(Fe (K:=K) (n:=3) rfl rfl (bV (aG (i:=7) aY.nd rfl (Or.inl rfl) (.inr rfl)) (bV (aG (i:=8) aY.nd rfl (Or.inl rfl) (.inr rfl)) (bV (aG (i:=5) aY.nd rfl (Or.inl rfl) (.inr rfl)) md))))) (fun _ _ _ _ _=>bX) (fun _ _ _ _ _=>(pv 5)))
 (ae (aI (i:=9) aY.nd rfl (Or.inl rfl) aC)
 (ae (nX PassesOwn.never (aH yi (aK ax (by rfl) T.bP bh (aa (pv 6) af)) aC (aM _)) (ae (tq (i:=9) aY.nd rfl (Or.inl rfl) aC p_)
 (ae (cA (au (CU T) (hr.mono (by decide)) rfl T.Fj T.j7.kp T.Fi .nil aA (aa (pv 9) (aa (pv 6) (aa (pv 0) (aa (pv 2) (aa (pv 3) af)))))))
 (ai (iM (i:=6) rfl aY.nd rfl rfl (kK rfl rfl rfl (by decide +kernel)) (aX (pv 6)) (own:=[("k",5)]) (aW (show gu ["pieces","above","higher","row","by_columns","k","waiting","first","last","track"] (aj dA) _ _=true from by decide +kernel)) (fun _ _ _ _ _=>(aG (i:=5) aY.nd rfl (Or.inl rfl) (.inr rfl))) (fun _ _ _ _ _=>(jr (aH bW (aO (r:=jQ K) aJ (pv 3) (pv 5) (fun _ _=>rfl)) aC (aM _)))) (fun _ _ _ _ _=>(pv 5)))))))
 (ai (ay (pv 3))))))))),?_⟩
  obtain⟨vp,hvp,hEp⟩:=hP;have lv:=hEp.1;refine⟨_,rfl,a,_,rfl,.inl (aP.of hvp),_,rfl,b,(Vbpcan.pieces st).length,g,(by rw[lv];rfl),hG,sg,lg,hn,fun H1 hi sm1 hhi hH=>?_⟩;refine⟨(by show 1<=sizeLine;decide),fun z hz=>?_⟩;have sz:aq H1 (upd H1 z (.lst [V.int 0])):=aq.new hz;refine⟨_,rfl,a,_,rfl,.inl (aP.of (sz _ _ (sm1 _ _ hvp))),z,_,_,rfl,rfl,ah,by lia,by lia,jy (by show 1 * ((vp.length:Nat):Int).toNat<=16000000;rw[Int.toNat_natCast];lia),fun rw' hrw0=>?_⟩;have e0:(List.replicate ((vp.length:Nat):Int).toNat [V.int 0]).flatten=nats (gE (Vbpcan.pieces st).length []):=by
   rw[Int.toNat_natCast,vz,lv];refine(vA 0 _).trans ?_
   congr 1
   unfold gE;refine List.ext_getElem? fun i=>?_
   rw[List.getElem?_replicate,List.getElem?_map];by_cases hi:i<(Vbpcan.pieces st).length
   ·rw[if_pos hi,List.getElem?_range hi];rfl
   ·rw[if_neg hi,List.getElem?_eq_none (by simp;lia)];rfl
  rw[e0];have sr:=sz.trans (aq.new (o:=.lst (nats (gE (Vbpcan.pieces st).length []))) hrw0);have hrwH1:H1 rw'=none:=sz.free hrw0;refine⟨_,rfl,a,_,rfl,.inl (aP.of (sr _ _ (sm1 _ _ hvp))),_,rfl,by lia,by lia,fun D hD=>?_⟩;rw[vw lv];refine kr (R:=jH) jH.mono (fun k=>some (tz st k)) hD (by lia) (fun i H3 Yes No hi3 sm hDd yes no=>?_) fun H3 sm3 L=>?_
  ·obtain⟨p,hp⟩:∃p,(Vbpcan.pieces st)[i]? = some p:=⟨_,List.getElem?_eq_getElem hi3⟩;obtain⟨v,hv,c,rfl,hc⟩:=hEp.2 i p hp;have ix:EX vp (0+(i:Int))=some (.ref c):=at_of (aV i) hv;have s3:=(sm1.trans sr).trans sm;refine⟨rfl,nP ⟨_,rfl,_,rfl,a,_,_,_,rfl,rfl,aP.of (s3 _ _ hvp),ix,c,_,_,_,rfl,rfl,jP.of (s3 _ _ hc),rfl,_,rfl,_,rfl,a,_,_,_,rfl,rfl,aP.of (s3 _ _ hvp),ix,c,_,_,_,rfl,rfl,jP.of (s3 _ _ hc),rfl,_,rfl,(by show 3<=sizeLine;decide),fun t ht=>yes _ _ _ rfl (aq.new ht) ⟨t,rfl,?_⟩⟩⟩;rw[mM hDd ht,O_ hp,aV];rfl
  ·rw[filterMap_some]at L;obtain⟨vt,hvt,hEt⟩:=L;have hEl:=hEt.1;rw[List.length_map,List.length_range]at hEl;have refs:∃as:List Addr,vt=as.map V.ref:=by
    have:∀vs:List V,(∀v,v∈vs->∃b,v=V.ref b)->∃as:List Addr,vs=as.map V.ref:=by
     intro vs
     induction vs with
     | nil=>intro _;exact⟨[],rfl⟩
     | cons v vs ih=>
      intro h;obtain⟨b,rfl⟩:=h v (by simp);obtain⟨as,rfl⟩:=ih fun v hv=>h v (List.mem_cons_of_mem _ hv)
      exact⟨b::as,rfl⟩
    refine this vt fun v hv=>?_
    obtain⟨i,hi⟩:=List.mem_iff_getElem?.mp hv;obtain⟨x,_,b,rfl,_⟩:=hEt.get hi;exact⟨b,rfl⟩
   obtain⟨as,rfl⟩:=refs;have hal:as.length=(Vbpcan.pieces st).length:=by rw[List.length_map]at hEl;exact hEl
   have tup:∀(k:Nat) c,as[k]? = some c->H3 c=some (.tup (a_ (tz st k))):=fun k c hk=>by
    obtain⟨x,hx,b,eb,hb⟩:=hEt.get (i:=k) (v:=.ref c) (by rw[List.getElem?_map,hk];rfl);cases eb;rw[List.getElem?_map,List.getElem?_range (by have:=(List.getElem?_eq_some_iff.mp hk).1;lia)]at hx;cases hx;exact hb
   refine⟨D,as,rfl,hvt,fun c hc=>?_,fun as' p hperm hsrt hpn=>?_⟩
   ·obtain⟨k,hk⟩:=List.mem_iff_getElem?.mp hc;exact⟨tz st k,(by unfold tz;exact fun z=>(by cases z)),tup k c hk⟩
   ·
    have tz3:∀c,c∈as->∃k,k<(Vbpcan.pieces st).length∧pO H3 c=tz st k∧as[k]? = some c:=fun c hc=>by
     obtain⟨k,hk⟩:=List.mem_iff_getElem?.mp hc;exact⟨k,by have:=(List.getElem?_eq_some_iff.mp hk).1;lia,rL (tup k c hk),hk⟩
    let kOf:Addr->Nat:=fun c=>((pO H3 c).getD 2 0).toNat
    have kOf_at:∀(k:Nat) c,as[k]? = some c->kOf c=k:=fun k c hk=>by
     show((pO H3 c).getD 2 0).toNat=k
     rw[rL (tup k c hk)]
     show((k:Int)).toNat=k
     exact Int.toNat_natCast k
    have hperm2:(as'.map kOf).Perm (List.range (Vbpcan.pieces st).length):=by
     have h1:=hperm.map kOf;have h2:as.map kOf=List.range (Vbpcan.pieces st).length:=by
      refine List.ext_getElem? fun i=>?_
      rw[List.getElem?_map];rcases Nat.lt_or_ge i as.length with hi | hi
      ·rw[List.getElem?_eq_getElem hi,List.getElem?_range (by lia)];exact congrArg some (kOf_at i _ (List.getElem?_eq_getElem hi))
      ·rw[List.getElem?_eq_none hi,List.getElem?_eq_none (by simp;lia)];rfl
     rw[h2]at h1;exact h1
    have tzk:∀c,c∈as'->pO H3 c=tz st (kOf c)∧as[kOf c]? = some c:=fun c hc=>by
     obtain⟨k,h1,h2,h3⟩:=tz3 c (hperm.mem_iff.mp hc);rw[kOf_at k c h3];exact⟨h2,h3⟩
    have eby:as'.map kOf=(Vbpcan.byLeft st).map (·.1):=MO hperm2 (List.pairwise_map.mpr (List.Pairwise.imp_of_mem (fun {x y} hx hy h=>by rw[<-(tzk x hx).1,<-(tzk y hy).1];exact h) hsrt));have sp:=aq.new (o:=.lst (as'.map V.ref)) hpn;refine⟨_,rfl,p,rfl,⟨_,aP.of ah⟩,fun W hW=>?_⟩;refine bx (R:=eh) eh.mono (ys:=as') (by rw[List.length_map]) (fun c=>some (kOf c)) hW (by have:=hperm.length_eq;lia) (aP.of ah) (fun i v c H4 Yes No hv hc sm4 hDd yes no=>?_) fun H4 sm4 L4=>?_
    ·rw[List.getElem?_map,hc]at hv;cases hv;obtain⟨t1,t2⟩:=tzk c (List.mem_of_getElem? hc);have hct:=sm4 _ _ (sp _ _ (tup _ _ t2));exact⟨c,_,rfl,jP.of hct,rfl,_,_,rfl,_,_,rfl,_,_,rfl,rfl,rfl,nP ⟨_,rfl,yes _ _ _ rfl (aq.refl _) rfl⟩⟩
    ·rw[filterMap_some,eby]at L4;have hW4:=bY L4;have s34:=(sm3.trans sp).trans sm4;have smA:aq H1 H4:=sr.trans s34;have hrw4:H4 rw'=some (.lst (nats (gE (Vbpcan.pieces st).length []))):=s34 _ _ ah;have Wne:W≠rw':=fun z=>by
      subst z;have:=(sm3.trans sp) _ _ (ah (H:=upd H1 z (.lst [V.int 0])) (a:=W) (o:=.lst (nats (gE (Vbpcan.pieces st).length []))));rw[hW]at this;cases this
     have hWf:H1 W=none:=(sr.trans (sm3.trans sp)).free hW;have w0:wait st []=Vbpcan.byLeft st:=List.filter_eq_self.mpr fun x _=>rfl
     have hP1:bS a7 H1 a (Vbpcan.pieces st):=bS.mono a7.mono sm1 ⟨vp,hvp,hEp⟩;refine nY (fun σ H'=>∃(wa:Addr) (i:Nat) (l:List (Nat×Nat)),σ=[some (.ref a),some (.ref b),some (.ref hi),some (.ref rw'),some (.ref p),none,some (.ref wa),none,none,some (iN i)]∧aq H1 H'∧H1 wa=none∧wa≠rw'∧H' wa=some (.lst (nats ((wait st l).map (·.1))))∧H' rw'=some (.lst (nats (gE (Vbpcan.pieces st).length l)))∧rW st g i l) (fun σ _=>(Vbpcan.pieces st).length - Hy 9 σ)
      ⟨W,0,[],rfl,smA,hWf,Wne,by rw[w0];exact hW4,hrw4,rW.init⟩ ?_ (fun σ H Q Q' f ⟨v,x1,p,ys,x3,x4,i,j,x5,x6,k,x7,q⟩=>⟨v,x1,p,ys,x3,x4,i,j,x5,x6,k,x7,f _ _ q⟩)
     rintro σ H' ⟨wa,i,l,rfl,sm,hwn,hwr,hwa,hr',hE⟩
     refine⟨_,rfl,wa,_,rfl,.inl (aP.of hwa),_,_,rfl,rfl,_,rfl,bF (fun h=>?_) fun h=>?_⟩
     ·have hpos:0<(wait st l).length:=by
       have h1:(0:Int)<((nats ((wait st l).map (·.1))).length:Nat):=of_decide_eq_true h;rw[aB,List.length_map]at h1;lia
      obtain⟨⟨u,pu⟩,hu⟩:∃x,x∈wait st l:=List.exists_mem_of_length_pos hpos;have hum:=vE.mp hu;have hun:u<(Vbpcan.pieces st).length:=(List.getElem?_eq_some_iff.mp hum.1).1;have hin:=hE.aR hun hum.2;have hE2:=hE.step sg hring hun hum.2;refine⟨_,rfl,_,_,rfl,rfl,?_⟩;have smh:aq H1 (hole H' rw'):=Mm hrwH1 sm;refine⟨_,rfl,_,rfl,_,rfl,_,rfl,_,rfl,wa,a,hi,rw',i,st,g,l,rfl,hE,hn,by lia,lg,sg,(by rw[cC hwr];exact hwa),hP1.mono a7.mono smh,hH.mono rY.mono smh,hr',fun H2 sm2 hr2=>?_⟩;have hwa2:H2 wa=some (.lst (nats ((wait st l).map (·.1)))):=sm2 _ _ (by rw[cC hwr];exact hwa);refine⟨_,rfl,wa,rfl,⟨_,aP.of hwa2⟩,fun D2 hD2=>?_⟩;refine bx (R:=eh) eh.mono (ys:=(wait st l).map (·.1)) (by simp) (fun k=>if (Vbpcan.trackOf (gE (Vbpcan.pieces st).length (l++(k6 st g l).map fun u=>(u,i+1))) k == 0)=true then some k else none) hD2 (by
        have h1:(wait st l).length<=(Vbpcan.byLeft st).length:=List.length_filter_le _ _;rw[oO]at h1;rw[List.length_map]
        lia) (aP.of hwa2) (fun m v k H5 Yes No hv hk sm5 hDd yes no=>?_) fun H5 sm5 L5=>?_
      ·obtain⟨y,hy,rfl⟩:=bJ hv;rw[hk]at hy;cases hy;have hkn:k<(Vbpcan.pieces st).length:=by
        obtain⟨x,hx,rfl⟩:=List.mem_map.mp (List.mem_of_getElem? hk);exact(List.getElem?_eq_some_iff.mp (vE.mp hx).1).1
       have ix:=a5 (z:=(k:Int)) rfl (cE (l:=gE (Vbpcan.pieces st).length (l++(k6 st g l).map fun u=>(u,i+1))) (k:=k) (by rw[m7];exact hkn));refine⟨rfl,_,rfl,_,rfl,rw',_,_,_,rfl,rfl,aP.of (sm5 _ _ hr2),ix,rfl,_,rfl,bF (fun h=>?_) fun h=>?_⟩
       ·have h':(Vbpcan.trackOf (gE (Vbpcan.pieces st).length (l++(k6 st g l).map fun u=>(u,i+1))) k == 0)=true:=by
         rw[el,decide_eq_true_eq]at h;have h2:Vbpcan.trackOf (gE (Vbpcan.pieces st).length (l++(k6 st g l).map fun u=>(u,i+1))) k=0:=by
          have:((Vbpcan.trackOf (gE (Vbpcan.pieces st).length (l++(k6 st g l).map fun u=>(u,i+1))) k:Nat):Int)=0:=h;lia
         rw[h2];rfl
        rw[h']at yes;exact⟨_,rfl,yes _ _ _ rfl (aq.refl _) rfl⟩
       ·have h':(Vbpcan.trackOf (gE (Vbpcan.pieces st).length (l++(k6 st g l).map fun u=>(u,i+1))) k == 0)=false:=by
         rw[el,decide_eq_false_iff_not]at h;have h2:Vbpcan.trackOf (gE (Vbpcan.pieces st).length (l++(k6 st g l).map fun u=>(u,i+1))) k≠0:=fun z=>by
          apply h
          show((Vbpcan.trackOf (gE (Vbpcan.pieces st).length (l++(k6 st g l).map fun u=>(u,i+1))) k:Nat):Int)=0
          lia
         simpa using h2
        rw[h']at no;exact no _ rfl (aq.refl _)
      ·rw[dG]at L5;have ew:((wait st l).map (·.1)).filter (fun k=>Vbpcan.trackOf (gE (Vbpcan.pieces st).length (l++(k6 st g l).map fun u=>(u,i+1))) k == 0)=(wait st (l++(k6 st g l).map fun u=>(u,i+1))).map (·.1):=by
        rw[List.filter_map,List.filter_filter]
        congr 1
        refine List.filter_congr fun x hx=>?_
        have hxn:x.1<(Vbpcan.pieces st).length:=(List.getElem?_eq_some_iff.mp (jx.mp hx)).1;have hrow:=hE2.row hxn;rw[Bool.eq_iff_iff];simp only[Function.comp,Bool.and_eq_true,beq_iff_eq,Bool.not_eq_true',List.contains_eq_mem,decide_eq_false_iff_not];constructor
        ·rintro ⟨h1,h2⟩ h3
         have:=(hrow.1 h3).1;lia
        ·intro h3;refine⟨hrow.2 h3,fun h4=>h3 ?_⟩;rw[List.map_append,List.mem_append];exact .inl h4
       rw[ew]at L5;have hD5:=bY L5;have sm2':aq H1 H2:=smh.trans sm2;have D2rw:D2≠rw':=fun z=>by
        subst z;rw[hr2]at hD2;cases hD2
       refine⟨⟨D2,i+1,_,rfl,sm2'.trans sm5,sm2'.free hD2,D2rw,hD5,sm5 _ _ hr2,hE2⟩,?_⟩
       show(Vbpcan.pieces st).length - ((i+1:Nat):Int).toNat<(Vbpcan.pieces st).length - ((i:Nat):Int).toNat
       rw[Int.toNat_natCast,Int.toNat_natCast];lia
     ·have hz:wait st l=[]:=by
       have h1:¬(0:Int)<((nats ((wait st l).map (·.1))).length:Nat):=of_decide_eq_false h;rw[aB,List.length_map]at h1;exact List.length_eq_zero_iff.mp (by lia)
      have all:∀u,u<(Vbpcan.pieces st).length->u∈l.map (·.1):=fun u hu=>by
       apply Classical.byContradiction;intro hno;have:(u,(Vbpcan.pieces st)[u])∈wait st l:=vE.mpr ⟨List.getElem?_eq_getElem hu,hno⟩;rw[hz]at this;cases this
      refine⟨_,rfl,q _ _ (sm1.trans sm) (sm1.free hrwH1) ?_⟩;rw[hE.end_ all];exact hr'
end
end Pc
end
section
namespace Pc
open PySem PySem.Spec PyProof.Rows L2
open Vbpcan (State Piece Graph)
theorem Eo(l:List Nat)(x t:Nat):skip (l++[x]) t=if x=skip l t then skip l t+1 else skip l t:=by
 unfold skip;rw[List.foldl_append];rfl
theorem MP{ns:List Int}(h:∀x,x∈ns->0<=x):ns=(ns.map Int.toNat).map fun(n:Nat)=>(n:Int):=by
 rw[List.map_map]
 conv=>lhs;rw[<-List.map_id ns]
 refine List.map_congr_left fun x hx=>?_
 show x=((x.toNat:Nat):Int);rw[Int.toNat_of_nonneg (h x hx)]
section
variable{P:Program}{w:World}{K:W.Frag}{mg:Str->Option Value}{base:Heap}{A:iL}
def BE:Sp:=fun vs H Q _=>∃(r a b:Addr) (row:List Nat) (ps:List Piece) (g:Graph) (u:Nat),vs=[.ref r,.ref a,.ref b]∧H r=some (.lst (nats row))∧H a=some (.lst (nats (gx (bD ps) u)))∧H b=some (.lst (nats (bH g u)))∧row.length=ps.length∧ps.length<=96∧g.length<=9216∧Small g ps.length∧
 ∀t,k5 ps g row u t->Fn H Q (iN t)
theorem BF(T:Txt K mg A):a6 P w K mg base fe 1 A.iZ A.i0 ["row","parted","higher"] BE:=by
 refine T.jj.ok cH (fun vs H Q E h=>?_) (fun cdv A1 outer s H vs Q E hr h=>?_)
 ·obtain⟨r,a,b,row,ps,g,u,rfl,_⟩:=h;rfl
 ·obtain⟨r,a,b,row,ps,g,u,rfl,hr1,ha,hb,hlr,hn,lg,sg,q⟩:=h;refine⟨_,(ae (uS (aI (i:=3) cH.nd rfl (Or.inl rfl) (bL mI (aL (v:=.int 1) rfl T.sQ.choose_spec ⟨_,rfl⟩) (wC rfl (by rfl) T.Hh (aa (fq rfl cH.nd (aX (pv 2)) (own:=[("p",4)]) (aW (show gu ["row","parted","higher","track","p","taken","q"] (aj iO) _ _=true from by decide +kernel)) (fun _ _ _ _ _=>(aG (i:=4) cH.nd rfl (Or.inl rfl) (.inr rfl))) (fun _ _ _ _ _=>bX) (fun _ _ _ _ _=>(aO (r:=jQ K) aJ (pv 0) (pv 4) (fun _ _=>rfl)))) af) aC))))
 (
 ae (cF PassesOwn.never rfl (aX (aK Jg (by rfl) T.vd rK (aa (fq rfl cH.nd (aX (pv 1)) (own:=[("q",6)]) (aW (show gu ["row","parted","higher","track","p","taken","q"] (aj iO) _ _=true from by decide +kernel)) (fun _ _ _ _ _=>(aG (i:=6) cH.nd rfl (Or.inl rfl) (.inr rfl))) (fun _ _ _ _ _=>bX) (fun _ _ _ _ _=>(aO (r:=jQ K) aJ (pv 0) (pv 6) (fun _ _=>rfl)))) af))) (aG (i:=5) cH.nd rfl (Or.inl rfl))
 (ai (br (aH bW (pv 5) (pv 3) (aM _)) (ai (tq (i:=3) cH.nd rfl (Or.inl rfl) aC p_)) aS)))
 (ai (ay (pv 3))))),?_⟩
  have hpl:(gx (bD ps) u).length<=9216:=by
   have h1:=wg (bD ps) u;have h2:=rC ps;have h3:ps.length * ps.length<=96 * 96:=Nat.mul_le_mul hn hn;lia
  have hal:=xh g u;refine⟨fun σ' H'=>∃b0:Nat,σ'=[some (.ref r),some (.ref a),some (.ref b),some (iN (1+b0)),none,none,none]∧aq H H'∧(∀v,(v,u)∈g->Vbpcan.trackOf row v<=b0)∧(b0=0∨∃v,(v,u)∈g∧Vbpcan.trackOf row v=b0),?_,?_⟩
  ·refine⟨_,rfl,b,rfl,⟨_,aP.of hb⟩,fun D hD=>bx (R:=eh) eh.mono (ys:=bH g u) (by simp) (fun p=>some (Vbpcan.trackOf row p)) hD (by lia) (aP.of hb) (fun i v p H1 Yes No hv hp sm hDd yes no=>?_) fun H1 sm L=>?_⟩
   ·obtain⟨y,hy,rfl⟩:=bJ hv;rw[hp]at hy;cases hy;have hpn:p<ps.length:=(sg _ _ (c9.mp (List.mem_of_getElem? hp))).1;exact⟨rfl,nP ⟨_,rfl,_,rfl,r,_,_,_,rfl,rfl,aP.of (sm _ _ hr1),a5 rfl (cE (by lia)),yes _ _ _ rfl (aq.refl _) rfl⟩⟩
   ·rw[filterMap_some]at L;have e:=bY L;rw[ka]at e;refine⟨D,_,rfl,aP.of e,fun e0=>?_,fun m hm hy=>?_⟩
    ·have e1:(bH g u).map (Vbpcan.trackOf row)=[]:=List.map_eq_nil_iff.mp e0;have e2:bH g u=[]:=List.map_eq_nil_iff.mp e1;refine⟨_,_,rfl,rfl,0,rfl,sm,fun v hv=>?_,.inl rfl⟩;have:=c9.mpr hv;rw[e2]at this;cases this
    ·obtain⟨k,hk,rfl⟩:=oI hm;obtain⟨v,hv,rfl⟩:=List.mem_map.mp hk;refine⟨_,_,rfl,rfl,Vbpcan.trackOf row v,?_,sm,fun x hx=>?_,.inr ⟨v,c9.mp hv,rfl⟩⟩
     ·show [some (V.ref r),some (V.ref a),some (V.ref b),some (V.int (1+(Vbpcan.trackOf row v:Int))),none,none,none]=_;rw[show(1:Int)+(Vbpcan.trackOf row v:Int)=((1+Vbpcan.trackOf row v:Nat):Int) by lia]
     ·have:=hy ((Vbpcan.trackOf row x:Nat):Int) (List.mem_map.mpr ⟨_,List.mem_map.mpr ⟨x,c9.mpr hx,rfl⟩,rfl⟩);lia
  ·rintro σ' H0 ⟨b0,rfl,sm0,hb1,hb2⟩
   refine⟨_,rfl,a,rfl,⟨_,aP.of (sm0 _ _ ha)⟩,fun D hD=>bx (R:=eh) eh.mono (ys:=gx (bD ps) u) (by simp) (fun p=>some (Vbpcan.trackOf row p)) hD (by lia) (aP.of (sm0 _ _ ha)) (fun i v p H1 Yes No hv hp sm hDd yes no=>?_) fun H1 sm L=>?_⟩
   ·obtain⟨y,hy,rfl⟩:=bJ hv;rw[hp]at hy;cases hy;have hpn:p<ps.length:=(nT (ko.mp (List.mem_of_getElem? hp))).2;exact⟨rfl,nP ⟨_,rfl,_,rfl,r,_,_,_,rfl,rfl,aP.of (sm _ _ (sm0 _ _ hr1)),a5 rfl (cE (by lia)),yes _ _ _ rfl (aq.refl _) rfl⟩⟩
   ·rw[filterMap_some]at L;have e:=bY L;rw[ka]at e;refine⟨D,_,rfl,aP.of e,fun ns' p hperm hsrt hpn=>?_⟩;have hnn:∀x,x∈ns'->0<=x:=fun x hx=>by
     obtain⟨k,_,rfl⟩:=oI (hperm.mem_iff.mp hx);lia
    obtain⟨tk,etk⟩:∃tk:List Nat,ns'=tk.map fun(n:Nat)=>(n:Int):=⟨_,MP hnn⟩
    subst etk;have hst:tk.Pairwise (·<=·):=(List.pairwise_map.mp hsrt).imp fun h=>by lia
    have hmem:∀x,x∈tk↔∃v,apart ps u v=true∧Vbpcan.trackOf row v=x:=fun x=>by
     have h1:(x:Int)∈(tk.map fun(n:Nat)=>(n:Int))↔x∈tk:=by
      rw[List.mem_map];exact⟨fun⟨k,h1,h2⟩=>by
                     have:k=x:=by lia
                     rw[<-this];exact h1,fun h=>⟨x,h,rfl⟩⟩
     rw[<-h1,hperm.mem_iff,List.mem_map];constructor
     ·rintro ⟨k,hk,e⟩
      obtain⟨v,hv,rfl⟩:=List.mem_map.mp hk;exact⟨v,ko.mp hv,by lia⟩
     ·rintro ⟨v,hv,rfl⟩
      exact⟨_,List.mem_map.mpr ⟨v,ko.mpr hv,rfl⟩,rfl⟩
    have low:=RG (g:=g) hst hmem hb1 hb2;have ev:(tk.map fun(n:Nat)=>(n:Int)).map V.int=nats tk:=(ka tk).symm;rw[ev];have smA:=(sm0.trans sm).trans (aq.new (o:=.lst (nats tk)) hpn);refine⟨p,rfl,⟨_,aP.of ah⟩,cU (K:=K) (a:=p) (xs:=nats tk) (fun j σ H2=>∃v5:Option V,σ=[some (.ref r),some (.ref a),some (.ref b),some (iN (skip (tk.take j) (1+b0))),none,v5,none]∧aq H H2∧H2 p=some (.lst (nats tk))) ⟨none,rfl,smA,ah⟩ (fun j σ H2 _ ⟨_,_,_,h⟩=>aP.of h) ?_ ?_⟩
    ·rintro j x σ H2 hj ⟨v5,rfl,sm2,hp2⟩
     obtain⟨y,hy,rfl⟩:=bJ hj;refine⟨_,rfl,_,rfl,rfl,_,rfl,bF (fun h=>?_) fun h=>?_⟩
     ·rw[kh,decide_eq_true_eq]at h;refine⟨_,rfl,_,_,rfl,rfl,some (iN y),?_,sm2,hp2⟩;rw[aQ hy,Eo,if_pos h];rfl
     ·rw[kh,decide_eq_false_iff_not]at h;refine⟨some (iN y),?_,sm2,hp2⟩;rw[aQ hy,Eo,if_neg h];rfl
    ·rintro σ H2 ⟨v5,rfl,sm2,hp2⟩
     rw[aB,List.take_length];exact⟨_,rfl,q _ low _ sm2⟩
def bools(l:List Bool):List V:=l.map V.bl
theorem Hz{l:List Bool}{k:Nat}{z:Int}(e:z=(k:Int))(h:k<l.length):EX (bools l) z=some (.bl (l.getD k true)):=by
 refine at_of e ?_;unfold bools;rw[List.getElem?_map,List.getElem?_eq_getElem h,List.getD_eq_getElem?_getD,List.getElem?_eq_getElem h];rfl
theorem xq(l:List Bool):(bools l).length=l.length:=List.length_map _
theorem Ep(l:List Bool)(k:Nat)(b:Bool):(bools l).set k (.bl b)=bools (l.set k b):=by
 unfold bools;rw[List.map_set]
def Pa:List V->Nat
 | []=>0
 | .int z::l=>z.toNat+Pa l
 | _::l=>Pa l
theorem Er:∀l:List Nat,Pa (nats l)=l.sum
 | []=>rfl
 | x::l=>by
  show((x:Int)).toNat+Pa (nats l)=_
  rw[Er l,Int.toNat_natCast,List.sum_cons]
def BG(H:Hp)(a:Addr):Nat:=match H a with
 | some (.lst vs)=>Pa vs
 | _=>0
theorem vF{H:Hp}{a:Addr}{l:List Nat}(h:H a=some (.lst (nats l))):BG H a=l.sum:=by
 unfold BG;rw[h];exact Er l
def MQ:Sp:=fun vs H Q _=>∃(r a b:Addr) (row:List Nat) (ps:List Piece) (g:Graph),vs=[.ref r,.ref a,.ref b]∧H r=some (.lst (nats row))∧bS bN H a (bD ps)∧bS bN H b g∧wd ps g 200 row∧ps.length<=96∧g.length<=9216∧Small g ps.length∧(∀p q,(p,q)∈g->apart ps p q=true)∧
 Bg H Q (Vbpcan.lifted ps g row.sum row)
theorem MR(T:Txt K mg A):a6 P w K mg base fe 2 A.qE A.qF ["row","apart","above"] MQ:=by
 refine T.qM.ok gj (fun vs H Q E h=>?_) (fun cdv A1 outer s H vs Q E hr h=>?_)
 ·obtain⟨r,a,b,row,ps,g,rfl,_⟩:=h;rfl
 ·obtain⟨r,a,b,row,ps,g,rfl,hr1,hA,hG,hV,hn,lg,sg,hga,q⟩:=h;refine⟨_,(ae (aI (i:=3) gj.nd rfl (Or.inl rfl) (au (qV T) (hr.mono (by decide)) rfl T.sN T.gq.kp T.sM .nil aA (aa (aK ax (by rfl) T.bP bh (aa (pv 0) af)) (aa (pv 1) af))))
 (ae (aI (i:=4) gj.nd rfl (Or.inl rfl) (au (iB T) (hr.mono (by decide)) rfl T.ji T.cD.kp T.jh .nil aA (aa (aK ax (by rfl) T.bP bh (aa (pv 0) af)) (aa (pv 2) af))))
 (ae (aI (i:=5) gj.nd rfl (Or.inl rfl) (wx oR (by rfl) T.Be zQ (aa (pv 0) af)))
 (ae (aI (i:=6) gj.nd rfl (Or.inl rfl) (bL AB (bE (aa N5 af)) (aK ax (by rfl) T.bP bh (aa (pv 0) af))))
 (ae (aI (i:=7) gj.nd rfl (Or.inl rfl) aC)
 (ae (nX PassesOwn.never (aH uL (pv 7) (aK ax (by rfl) T.bP bh (aa (pv 0) af)) (aM _)) (ae (aI (i:=8) gj.nd rfl (Or.inl rfl) (aO aJ (pv 5) (pv 7) (fun _ _=>rfl)))
 (ae (uS (br (jU (aO aJ (pv 6) (pv 7) (fun _ _=>rfl))) (ae (tp (au (BF T) (hr.mono (by decide)) rfl T.CB T.jj.kp T.CA .nil aA (aa (pv 5) (aa (aO aJ (pv 3) (pv 7) (fun _ _=>rfl)) (aa (aO aJ (pv 4) (pv 7) (fun _ _=>rfl)) af)))) (tm (pv 5) (pv 7) set_list))
 (ai (tp N5 (tm (pv 6) (pv 7) set_list)))) aS))
 (
 ai (br (aH bW (aO aJ (pv 5) (pv 7) (fun _ _=>rfl)) (pv 8) (aM _)) (ai (tq (i:=7) gj.nd rfl (Or.inl rfl) aC p_)) (ae (cF PassesOwn.never rfl (aX (aO aJ (pv 3) (pv 7) (fun _ _=>rfl))) (aG (i:=9) gj.nd rfl (Or.inl rfl))
 (ai (tp (KN (aO aJ (pv 6) (pv 9) (fun _ _=>rfl)) (p8 (gz yi (aO aJ (pv 5) (pv 9) (fun _ _=>rfl)) (pv 8) (aM _)))) (tm (pv 6) (pv 9) set_list))))
 (ai (aI (i:=7) gj.nd rfl (Or.inl rfl) aC))))))))
 (ai (ay (pv 5))))))))),?_⟩
  have hlr:=hV.len;have lap:(bD ps).length<=9216:=by
   have h2:=rC ps;have h3:ps.length * ps.length<=96 * 96:=Nat.mul_le_mul hn hn;lia
  have elen:(nats row).length=ps.length:=by rw[aB,hlr]
  refine⟨_,rfl,r,_,rfl,.inl (aP.of hr1),_,rfl,a,ps.length,bD ps,(by rw[elen];rfl),hA,fun e he=>⟨(nV he).1,(nV he).2,by have:=(d_.mp he).1;lia⟩,lap,hn,fun H1 pa sm1 hpa hPa=>?_⟩;refine⟨_,rfl,r,_,rfl,.inl (aP.of (sm1 _ _ hr1)),_,rfl,b,ps.length,g,(by rw[elen];rfl),hG.mono bN.mono sm1,sg,lg,hn,fun H2 hi sm2 hhi hHi=>?_⟩;have s12:=sm1.trans sm2;have hPa2:=hPa.mono rY.mono sm2;refine⟨_,rfl,r,_,rfl,.inl (aP.of (s12 _ _ hr1)),fun lr hlr0=>?_⟩;have s3:aq H2 (upd H2 lr (.lst (nats row))):=aq.new hlr0;refine⟨(by show 1<=sizeLine;decide),fun z hz=>?_⟩;have s4:=s3.trans (aq.new (o:=.lst [V.bl true]) hz);refine⟨_,rfl,r,_,rfl,.inl (aP.of (s4 _ _ (s12 _ _ hr1))),z,_,_,rfl,rfl,ah,by rw[elen];lia,by rw[elen];lia,jy (by show 1 * (((nats row).length:Nat):Int).toNat<=16000000;rw[Int.toNat_natCast,elen];lia),fun mr hmr0=>?_⟩;have e0:(List.replicate (((nats row).length:Nat):Int).toNat [V.bl true]).flatten=bools (List.replicate ps.length true):=by
   rw[Int.toNat_natCast,vz,elen];unfold bools;rw[List.map_replicate]
  rw[e0];have s5:=s4.trans (aq.new (o:=.lst (bools (List.replicate ps.length true))) hmr0);have hlrn:H2 lr=none:=hlr0;have hmrn:H2 mr=none:=s4.free hmr0;have lm:lr≠mr:=ao ((aq.new (o:=.lst [V.bl true]) hz) _ _ ah) hmr0;have hlr5:(upd (upd (upd H2 lr (.lst (nats row))) z (.lst [V.bl true])) mr (.lst (bools (List.replicate ps.length true)))) lr=some (.lst (nats row)):=by
   rw[ak lm];exact(aq.new (o:=.lst [V.bl true]) hz) _ _ ah
  obtain⟨vpa,hvpa,hEpa⟩:=hPa2;obtain⟨vhi,hvhi,hEhi⟩:=hHi;refine nY (fun σ H'=>∃(v8 v9:Option V) (k:Nat) (cur:List Nat) (may:List Bool),σ=[some (.ref r),some (.ref a),some (.ref b),some (.ref pa),some (.ref hi),some (.ref lr),some (.ref mr),some (iN k),v8,v9]∧aq H2 H'∧H' lr=some (.lst (nats cur))∧H' mr=some (.lst (bools may))∧pX ps g row cur may k) (fun σ H'=>BG H' lr * (ps.length+1)+(ps.length - Hy 7 σ))
   ⟨none,none,0,row,_,rfl,s5,hlr5,ah,pX.init hV⟩ ?_ (fun σ H Q Q' f ⟨v,x1,u,x2,p,ys,x3,x4,i,j,x5,x6,k,x7,q⟩=>⟨v,x1,u,x2,p,ys,x3,x4,i,j,x5,x6,k,x7,f _ _ q⟩)
  rintro σ H' ⟨v8,v9,k,cur,may,rfl,sm,hc,hm,hL⟩
  have hcl:=hL.val.len;have hml:=hL.len;refine⟨_,rfl,_,rfl,r,_,rfl,.inl (aP.of (sm _ _ (s12 _ _ hr1))),_,_,rfl,rfl,_,rfl,bF (fun h=>?_) fun h=>?_⟩
  ·have hk:k<ps.length:=by
    have h1:(k:Int)<(((nats row).length:Nat):Int):=of_decide_eq_true h;rw[elen]at h1;lia
   have ic:=a5 (z:=(k:Int)) rfl (cE (l:=cur) (k:=k) (by lia));obtain⟨vp,hvp,rp,rfl,hrp⟩:=hEpa.2 k (gx (bD ps) k) (by rw[List.getElem?_map,List.getElem?_range hk];rfl);obtain⟨vh,hvh,rh,rfl,hrh⟩:=hEhi.2 k (bH g k) (by rw[List.getElem?_map,List.getElem?_range hk];rfl);refine⟨_,rfl,_,rfl,lr,_,_,_,rfl,rfl,aP.of hc,ic,?_⟩;refine⟨fun σ' H3=>∃(cur':List Nat) (may':List Bool),σ'=[some (.ref r),some (.ref a),some (.ref b),some (.ref pa),some (.ref hi),some (.ref lr),some (.ref mr),some (iN k),some (iN (Vbpcan.trackOf cur k)),v9]∧aq H2 H3∧H3 lr=some (.lst (nats cur'))∧H3 mr=some (.lst (bools may'))∧((may.getD k true=false∧cur'=cur∧may'=may)∨∃t,k5 ps g cur k t∧cur'=cur.set k t∧may'=may.set k false),?_,?_⟩
   ·refine⟨_,rfl,_,rfl,mr,_,_,_,rfl,rfl,aP.of hm,Hz rfl (by lia),_,rfl,bF (fun h=>?_) fun h=>?_⟩
    ·refine⟨_,rfl,_,rfl,_,rfl,pa,_,_,.ref rp,rfl,rfl,aP.of (sm _ _ hvpa),at_of rfl hvp,_,rfl,_,rfl,hi,_,_,.ref rh,rfl,rfl,aP.of (sm _ _ hvhi),at_of rfl hvh,lr,rp,rh,cur,ps,g,k,rfl,hc,sm _ _ hrp,sm _ _ hrh,hcl,hn,lg,sg,fun t ht H3 sm3=>?_⟩;have hc3:=sm3 _ _ hc;have hm3:=sm3 _ _ hm;refine⟨_,rfl,_,rfl,lr,_,_,k,rfl,rfl,hc3,nF rfl (by rw[aB];lia),?_⟩;rw[mL];refine⟨_,rfl,_,rfl,mr,_,_,k,rfl,rfl,(by rw[ak (Ne.symm lm)];exact hm3),nF rfl (by rw[xq];lia),?_⟩;rw[Ep];exact⟨_,_,rfl,aq.put (aq.put (sm.trans sm3) hlrn) hmrn,by rw[ak lm];exact ah,ah,.inr ⟨t,ht,rfl,rfl⟩⟩
    ·exact⟨cur,may,rfl,sm,hc,hm,.inl ⟨h,rfl,rfl⟩⟩
   ·rintro σ' H3 ⟨cur',may',rfl,sm3,hc3,hm3,hcase⟩
    have hcl':cur'.length=ps.length:=by
     rcases hcase with ⟨_,e,_⟩ | ⟨t,_,e,_⟩
     ·rw[e];exact hcl
     ·rw[e,List.length_set];exact hcl
    have hml':may'.length=ps.length:=by
     rcases hcase with ⟨_,_,e⟩ | ⟨t,_,_,e⟩
     ·rw[e];exact hml
     ·rw[e,List.length_set];exact hml
    have ic3:=a5 (z:=(k:Int)) rfl (cE (l:=cur') (k:=k) (by lia));refine⟨_,rfl,_,rfl,lr,_,_,_,rfl,rfl,aP.of hc3,ic3,_,rfl,rfl,_,rfl,bF (fun h=>?_) fun h=>?_⟩
    ·have he:Vbpcan.trackOf cur' k=Vbpcan.trackOf cur k:=by
      rw[kh,decide_eq_true_eq]at h;exact h
     have hL2:cur'=cur∧pX ps g row cur' may' (k+1):=by
      rcases hcase with ⟨h0,e1,e2⟩ | ⟨t,ht,e1,e2⟩
      ·rw[e1,e2];exact⟨rfl,hL.skip h0⟩
      ·have et:t=Vbpcan.trackOf cur k:=by
        rw[e1,cg (by lia),if_pos rfl]at he;exact he
       have ec:cur'=cur:=by
        rw[e1];refine rn (List.length_set) fun u hu=>?_
        rw[cg (by lia)]
        split
        ·rename_i e;rw[e,et]
        ·rfl
       rw[et]at ht;rw[ec,e2];exact⟨rfl,hL.same hk ht⟩
     obtain⟨ec,hL2⟩:=hL2;refine⟨_,rfl,_,_,rfl,rfl,⟨_,_,k+1,cur',may',rfl,sm3,hc3,hm3,hL2⟩,?_⟩;show BG H3 lr * (ps.length+1)+(ps.length - ((k+1:Nat):Int).toNat)<BG H' lr * (ps.length+1)+(ps.length - ((k:Nat):Int).toNat);rw[vF hc3,vF hc,ec,Int.toNat_natCast,Int.toNat_natCast];lia
    ·have he:¬Vbpcan.trackOf cur' k=Vbpcan.trackOf cur k:=by
      rw[kh,decide_eq_false_iff_not]at h;exact h
     obtain⟨t,ht,e1,e2⟩:∃t,k5 ps g cur k t∧cur'=cur.set k t∧may'=may.set k false:=by
      rcases hcase with ⟨h0,e1,e2⟩ | z
      ·rw[e1]at he;exact absurd rfl he
      ·exact z
     have hle:=ht.le sg hL.val hk;have htk:Vbpcan.trackOf cur' k=t:=by rw[e1,cg (by lia),if_pos rfl]
     have hlt:t<Vbpcan.trackOf cur k:=by rw[htk]at he;lia
     have hsum:cur'.sum<cur.sum:=by rw[e1];exact mE (by lia) hlt
     refine⟨_,rfl,_,rfl,pa,_,_,.ref rp,rfl,rfl,aP.of (sm3 _ _ hvpa),at_of rfl hvp,rp,rfl,⟨_,aP.of (sm3 _ _ hrp)⟩,?_⟩;refine cU (K:=K) (a:=rp) (xs:=nats (gx (bD ps) k)) (fun j σ H4=>∃(v9:Option V) (m:List Bool),σ=[some (.ref r),some (.ref a),some (.ref b),some (.ref pa),some (.ref hi),some (.ref lr),some (.ref mr),some (iN k),some (iN (Vbpcan.trackOf cur k)),v9]∧aq H2 H4∧H4 lr=some (.lst (nats cur'))∧H4 mr=some (.lst (bools m))∧m.length=ps.length∧∀x,m.getD x true=(may'.getD x true || (decide (x∈(gx (bD ps) k).take j) && decide (Vbpcan.trackOf cur k<Vbpcan.trackOf cur' x))))
      ⟨v9,may',rfl,sm3,hc3,hm3,hml',fun x=>by simp⟩ (fun j σ H4 _ ⟨_,_,_,sm4,_⟩=>aP.of (sm4 _ _ hrp)) ?_ ?_
     ·rintro j x σ H4 hj ⟨v9',m,rfl,sm4,hc4,hm4,hml4,hm5⟩
      obtain⟨y,hy,rfl⟩:=bJ hj;have hyn:y<ps.length:=(nT (ko.mp (List.mem_of_getElem? hy))).2;have fin:∀bb:Bool,bb=(m.getD y true || decide (Vbpcan.trackOf cur k<Vbpcan.trackOf cur' y))->∃(v9:Option V) (m2:List Bool),[some (V.ref r),some (.ref a),some (.ref b),some (.ref pa),some (.ref hi),some (.ref lr),some (.ref mr),some (iN k),some (iN (Vbpcan.trackOf cur k)),some (iN y)]=[some (.ref r),some (.ref a),some (.ref b),some (.ref pa),some (.ref hi),some (.ref lr),some (.ref mr),some (iN k),some (iN (Vbpcan.trackOf cur k)),v9]∧aq H2 (upd H4 mr (.lst ((bools m).set y (.bl bb))))∧(upd H4 mr (.lst ((bools m).set y (.bl bb)))) lr=some (.lst (nats cur'))∧(upd H4 mr (.lst ((bools m).set y (.bl bb)))) mr=some (.lst (bools m2))∧m2.length=ps.length∧∀x,m2.getD x true=(may'.getD x true || (decide (x∈(gx (bD ps) k).take (j+1)) && decide (Vbpcan.trackOf cur k<Vbpcan.trackOf cur' x))):=fun bb hbb=>by
       refine⟨_,m.set y bb,rfl,aq.put sm4 hmrn,by rw[ak lm];exact hc4,by rw[ah,Ep],by rw[List.length_set];exact hml4,fun x=>?_⟩;rw[rB (by lia),aQ hy];by_cases e:x=y
       ·subst e;rw[if_pos rfl,hbb,hm5,decide_eq_true (show x∈(gx (bD ps) k).take j++[x] by simp),Bool.true_and]
        generalize may'.getD x true=b1
        generalize decide (x∈(gx (bD ps) k).take j)=b2
        generalize decide (Vbpcan.trackOf cur k<Vbpcan.trackOf cur' x)=b3
        cases b1 <;> cases b2 <;> cases b3 <;> rfl
       ·rw[if_neg e,hm5];have:decide (x∈(gx (bD ps) k).take j++[y])=decide (x∈(gx (bD ps) k).take j):=by
         rw[Bool.eq_iff_iff];simp[e]
        rw[this]
      have iy:=a5 (z:=(y:Int)) rfl (cE (l:=cur') (k:=y) (by lia));refine⟨_,rfl,_,rfl,mr,_,_,_,rfl,rfl,aP.of hm4,Hz rfl (by lia),_,rfl,bF (fun h=>?_) fun h=>?_⟩
      ·exact⟨_,rfl,_,rfl,mr,_,_,y,rfl,rfl,hm4,nF rfl (by rw[xq];lia),fin true (by rw[h];rfl)⟩
      ·refine⟨_,rfl,_,rfl,lr,_,_,_,rfl,rfl,aP.of hc4,iy,_,rfl,_,_,rfl,rfl,_,rfl,_,rfl,mr,_,_,y,rfl,rfl,hm4,nF rfl (by rw[xq];lia),fin _ ?_⟩;rw[h];exact decLt
     ·rintro σ H4 ⟨v9',m,rfl,sm4,hc4,hm4,hml4,hm5⟩
      have hL2:pX ps g row cur' m 0:=by
       rw[e1];refine hL.rise hga sg hk ht hlt hml4 fun x hx hmx=>?_
       rw[hm5,aB,List.take_length,Bool.or_eq_false_iff]at hmx;refine⟨?_,fun hap=>?_⟩
       ·by_cases ex:x=k
        ·exact .inl ex
        ·right
         have:=hmx.1;rw[e2,rB (by lia),if_neg ex]at this;exact this
       ·have hxk:x≠k:=fun z=>by rw[z,cR]at hap;exact absurd hap.1 (by decide)
        have h2:=hmx.2;rw[e1,cg (by lia),if_neg hxk]at h2;have:x∈gx (bD ps) k:=ko.mpr hap.1;simp[this]at h2;lia
      refine⟨⟨_,_,0,cur',m,rfl,sm4,hc4,hm4,hL2⟩,?_⟩;show BG H4 lr * (ps.length+1)+(ps.length - ((0:Nat):Int).toNat)<BG H' lr * (ps.length+1)+(ps.length - ((k:Nat):Int).toNat);rw[vF hc4,vF hc,Int.toNat_natCast,Int.toNat_natCast];have h1:(cur'.sum+1) * (ps.length+1)<=cur.sum * (ps.length+1):=Nat.mul_le_mul_right _ hsum;rw[Nat.succ_mul]at h1;lia
  ·have hk:ps.length<=k:=by
    have h1:¬(k:Int)<(((nats row).length:Nat):Int):=of_decide_eq_false h;rw[elen]at h1;lia
   refine⟨_,rfl,q _ _ (s12.trans sm) (s12.free hlrn) ?_⟩;rw[hL.end_ hk];exact hc
end
end Pc
end
section
namespace Pc
open PySem PySem.Spec PyProof.Rows L2
open Vbpcan (State Piece Graph)
theorem QY:∀(n:Nat) (l:List Nat),l.length=n->l.Pairwise (· < ·)->(∀b,(∀x,x∈l->x<b)->maskOf l<2 ^ b)∧∀v,(maskOf l).testBit v=decide (v∈l):=by
 intro n
 induction n with
 | zero=>
  intro l hl _;have:l=[]:=List.length_eq_zero_iff.mp hl;subst this;exact⟨fun b _=>Nat.two_pow_pos b,fun v=>by simp[maskOf]⟩
 | succ n ih=>
  intro l hl hs;obtain⟨l',k,rfl⟩:∃l' k,l=l'++[k]:=by
   rcases List.eq_nil_or_concat l with e | ⟨a,b,e⟩
   ·subst e;simp at hl
   ·exact⟨a,b,by rw[e];simp⟩
  have hs':=List.pairwise_append.mp hs;obtain⟨i1,i2⟩:=ih l' (by simpa using hl) hs'.1;have hlt:∀x,x∈l'->x<k:=fun x hx=>hs'.2.2 x hx k (by simp)
  have h1:=i1 k hlt;have e:maskOf (l'++[k])=2 ^ k+maskOf l':=by
   unfold maskOf;rw[List.map_append,List.sum_append];simp;lia
  refine⟨fun b hb=>?_,fun v=>?_⟩
  ·have hkb:=hb k (by simp);have:2 ^ (k+1)<=2 ^ b:=Nat.pow_le_pow_right (by decide) hkb;rw[e];rw[Nat.pow_succ]at this;lia
  ·rw[e];rcases Nat.lt_trichotomy v k with h | h | h
   ·rw[Nat.testBit_two_pow_add_gt h,i2];have:v≠k:=by lia
    simp[this]
   ·subst h;rw[Nat.testBit_two_pow_add_eq,Nat.testBit_lt_two_pow h1];simp
   ·have h3:2 ^ k+maskOf l'<2 ^ v:=by
     have:2 ^ (k+1)<=2 ^ v:=Nat.pow_le_pow_right (by decide) h;rw[Nat.pow_succ]at this;lia
    rw[Nat.testBit_lt_two_pow h3];have h4:v ∉ l':=fun z=>by have:=hlt v z;lia
    have h5:v≠k:=by lia
    simp[h4,h5]
theorem HA{l:List Nat}(h:l.Pairwise (· < ·))(v:Nat):(maskOf l).testBit v=decide (v∈l):=(QY _ l rfl h).2 v
theorem HB(ps:List Piece)(u:Nat):(gx (bD ps) u).Pairwise (· < ·):=by
 unfold gx;refine List.Pairwise.filterMap _ (fun a b hab x hx y hy=>?_) (List.Pairwise.imp_of_mem (R:=zZ) (S:=fun a b=>zZ a b∧a.1<a.2∧b.1<b.2) (fun {a b} ha hb h=>⟨h,(d_ (p:=a.1) (q:=a.2) |>.mp ha).1,(d_ (p:=b.1) (q:=b.2) |>.mp hb).1⟩) (DX ps));obtain⟨h1,h2,h3⟩:=hab;unfold zZ at h1;by_cases e1:a.1=u
 ·rw[if_pos e1]at hx;cases hx;by_cases e2:b.1=u
  ·rw[if_pos e2]at hy;cases hy;lia
  ·rw[if_neg e2]at hy;by_cases e3:b.2=u
   ·rw[if_pos e3]at hy;cases hy;lia
   ·rw[if_neg e3]at hy;cases hy
 ·rw[if_neg e1]at hx;by_cases e4:a.2=u
  ·rw[if_pos e4]at hx;cases hx;by_cases e2:b.1=u
   ·rw[if_pos e2]at hy;cases hy;lia
   ·rw[if_neg e2]at hy;by_cases e3:b.2=u
    ·rw[if_pos e3]at hy;cases hy;lia
    ·rw[if_neg e3]at hy;cases hy
  ·rw[if_neg e4]at hx;cases hx
def lU(s:State)(k:Nat):Nat:=maskOf (gx (bD (Vbpcan.pieces s)) k)
def sj(s:State)(k:Nat):Nat:=maskOf (bH (Vbpcan.graphOf s) k)
theorem BH(s:State)(k v:Nat):(lU s k).testBit v=apart (Vbpcan.pieces s) k v:=by
 unfold lU;rw[HA (HB _ _),Bool.eq_iff_iff,decide_eq_true_eq,ko]
theorem HC(s:State)(k p:Nat):(sj s k).testBit p=decide ((p,k)∈Vbpcan.graphOf s):=by
 unfold sj;rw[HA (DL (jw s) k),Bool.eq_iff_iff,decide_eq_true_eq,decide_eq_true_eq,c9]
def e_(s:State)(put:Nat):List Nat:=(List.range (Vbpcan.pieces s).length).filter fun k=>!put.testBit k && (sj s k &&& put == sj s k)
theorem o9{s:State}{put k:Nat}:k∈e_ s put↔Ready (Vbpcan.pieces s).length (Vbpcan.graphOf s) put.testBit k:=by
 unfold e_ Ready;rw[List.mem_filter,List.mem_range,Bool.and_eq_true];refine and_congr Iff.rfl (and_congr (by simp) ?_);rw[beq_iff_eq];constructor
 ·intro h p hp;have:=congrArg (fun x=>x.testBit p) h;simp only[Nat.testBit_and,HC,decide_eq_true hp,Bool.true_and]at this;exact this
 ·intro h;refine Nat.eq_of_testBit_eq fun p=>?_
  rw[Nat.testBit_and,HC];by_cases hp:(p,k)∈Vbpcan.graphOf s
  ·rw[decide_eq_true hp,h p hp];rfl
  ·rw[decide_eq_false hp];rfl
theorem xr{s:State}{put k:Nat}(h:k∈e_ s put):k<(Vbpcan.pieces s).length:=(o9.mp h).1
theorem JI(s:State)(put:Nat):(e_ s put).length<=(Vbpcan.pieces s).length:=by
 unfold e_;refine Nat.le_trans (List.length_filter_le _ _) ?_;rw[List.length_range];exact Nat.le_refl _
def UY(n:Nat)(pa hi kn:Addr):List (Str×V):=[("piece_count",iN n),("every_piece",iN (2 ^ n - 1)),("parted",.ref pa),("higher",.ref hi),("known_rests",.ref kn)]
structure NM(C:Addr)(H:Hp)(f pa hi kn:Addr)(s:State):Prop where
 obj:∃dx,H f=some (.ins C dx (UY (Vbpcan.pieces s).length pa hi kn))
 par:H pa=some (.lst (nats ((List.range (Vbpcan.pieces s).length).map (lU s))))
 TH:H hi=some (.lst (nats ((List.range (Vbpcan.pieces s).length).map (sj s))))
theorem NM.mono{C:Addr}{H H':Hp}{f pa hi kn:Addr}{s:State}(h:NM C H f pa hi kn s)(e:aq H H'):NM C H' f pa hi kn s:=
 ⟨let ⟨dx,h1⟩:=h.obj;⟨dx,e _ _ h1⟩,e _ _ h.par,e _ _ h.TH⟩
theorem JJ{f:Nat->Nat}{n k:Nat}(h:k<n):((List.range n).map f)[k]? = some (f k):=by
 rw[List.getElem?_map,List.getElem?_range h];rfl
section
variable{P:Program}{w:World}{K:W.Frag}{mg:Str->Option Value}{base:Heap}{A:iL}
def oM(A:iL):Sp:=fun vs H Q _=>∃(f pa hi kn:Addr) (s:State) (put:Nat),vs=[.ref f,iN put]∧NM A.aU H f pa hi kn s∧(Vbpcan.pieces s).length<=8∧Bg H Q (e_ s put)
theorem oN(T:Txt K mg A):a6 P w K mg base fe 1 A.bZ A.b7 ["self","put"] (oM A):=by
 refine T.b8.ok eD (fun vs H Q E h=>?_) (fun cdv A1 outer s H vs Q E hr h=>?_)
 ·obtain⟨f,pa,hi,kn,st,put,rfl,_⟩:=h;rfl
 ·obtain⟨f,pa,hi,kn,st,put,rfl,hF,hn,q⟩:=h;refine⟨_,(ai (ay (fq rfl eD.nd (b_ rfl T.c4 (aa (bC (pv 0) rfl) af)) (own:=[("k",2)]) (aW (show gu ["self","put","k"] (aj cZ) _ _=true from by decide +kernel)) (fun _ _ _ _ _=>(aG (i:=2) eD.nd rfl (Or.inl rfl) (.inr rfl))) (fun _ _ _ _ _=>(jr (PW.pt (oQ (p7 (Mn (K:=K) (bL As (pv 1) (bL wm aC (pv 2))) (fun _=>rfl) rfl)) (ma (aH bW (bL As (aO (r:=jQ K) aJ (zR (K:=K) (pv 0) rfl rfl) (pv 2) (fun _ _=>rfl)) (pv 1)) (aO (r:=jQ K) aJ (zR (K:=K) (pv 0) rfl rfl) (pv 2) (fun _ _=>rfl)) (aM _))))))) (fun _ _ _ _ _=>(pv 2))))),?_⟩;obtain⟨dx,hf⟩:=hF.obj;refine⟨_,rfl,f,_,dx,_,_,rfl,hf,T.a9,T.cw,rfl,_,rfl,by lia,by lia,fun D hD=>?_⟩;rw[vw (show(Vbpcan.pieces st).length=_ from rfl)];refine kr (R:=eh) eh.mono (fun k=>if (!put.testBit k && (sj st k &&& put == sj st k))=true then some k else none) hD (by lia) (fun i H1 Yes No hi1 sm hDd yes no=>?_) fun H1 sm L=>?_
  ·have hF1:=hF.mono sm;obtain⟨dx1,hf1⟩:=hF1.obj;have ih:=a5 (z:=(0:Int)+(i:Int)) (aV i) (JJ (f:=sj st) hi1);have eb:(Builtin.bitAnd (put:Int) (1 * 2 ^ ((0:Int)+(i:Int)).toNat) != 0)=put.testBit i:=by rw[aV,shl,Fx]
   refine⟨rfl,_,rfl,_,rfl,_,_,rfl,rfl,⟨by lia,by lia,by decide⟩,_,_,rfl,rfl,_,rfl,?_⟩;refine Hi (b2:=sj st i &&& put == sj st i) (Q:=fun b=>if b=true then _ else _) (fun hq=>⟨_,rfl,f,_,dx1,_,_,rfl,hf1,T.a9,T.eY,rfl,_,rfl,hi,_,_,_,rfl,rfl,aP.of hF1.TH,ih,_,rfl,_,_,rfl,rfl,_,rfl,f,_,dx1,_,_,rfl,hf1,T.a9,T.eY,rfl,_,rfl,hi,_,_,_,rfl,rfl,aP.of hF1.TH,ih,rfl,_,rfl,?_⟩) ?_
   ·have e2:decide (V.int (Builtin.bitAnd (sj st i:Int) (put:Int))=V.int (sj st i:Int))=(sj st i &&& put == sj st i):=by
     rw[QV,kh];rfl
    show if decide (V.int (Builtin.bitAnd (sj st i:Int) (put:Int))=V.int (sj st i:Int))=true then _ else _
    rw[e2];exact hq
   ·rw[eb];refine bF (fun h=>?_) fun h=>?_
    ·rw[h]at yes;exact⟨_,rfl,yes i _ _ rfl (aq.refl _) (by show V.int (0+(i:Int))=iN i;rw[aV])⟩
    ·rw[h]at no;exact no _ rfl (aq.refl _)
  ·rw[dG]at L;exact q _ _ sm hD (bY L)
def t8(A:iL):Sp:=fun vs H Q _=>∃(f pa hi kn rd:Addr) (s:State) (t:Nat) (ready:List Nat),vs=[.ref f,iN t,.ref rd]∧NM A.aU H f pa hi kn s∧H rd=some (.lst (nats ready))∧ready.length<=96∧(∀k,k∈ready->k<(Vbpcan.pieces s).length)∧(Vbpcan.pieces s).length<=8∧Fn H Q (.bl (DW (lU s) ready t))
theorem t9(T:Txt K mg A):a6 P w K mg base fe 1 A.dP A.dQ ["self","track","ready"] (t8 A):=by
 refine T.dY.ok jD (fun vs H Q E h=>?_) (fun cdv A1 outer s H vs Q E hr h=>?_)
 ·obtain⟨f,pa,hi,kn,rd,st,t,ready,rfl,_⟩:=h;rfl
 ·obtain⟨f,pa,hi,kn,rd,st,t,ready,rfl,hF,hrd,hrl,hrk,hn,q⟩:=h;refine⟨_,(ai (ay (aK (E5 rfl) (by rfl) T.Lb Fb (aa (fq rfl jD.nd (aX (pv 2)) (own:=[("k",3)]) (aW (show gu ["self","track","ready","k"] (aj gB) _ _=true from by decide +kernel)) (fun _ _ _ _ _=>(aG (i:=3) jD.nd rfl (Or.inl rfl) (.inr rfl))) (fun _ _ _ _ _=>bX) (fun _ _ _ _ _=>(gz pB (bL As (pv 1) (bL Ob (bL wm aC (pv 3)) (aO (r:=jQ K) aJ (zR (K:=K) (pv 0) rfl rfl) (pv 3) (fun _ _=>rfl)))) aC (aM _)))) af)))),?_⟩;refine⟨_,rfl,rd,rfl,⟨_,aP.of hrd⟩,fun D hD=>bx (R:=pE) pE.mono (ys:=ready) (by simp) (fun k=>some (t &&& (2 ^ k ||| lU st k) != 0)) hD (by lia) (aP.of hrd) (fun i v k H1 Yes No hv hk sm hDd yes no=>?_) fun H1 sm L=>?_⟩
  ·obtain⟨y,hy,rfl⟩:=bJ hv;rw[hk]at hy;cases hy;have hkn:=hrk k (List.mem_of_getElem? hk);have hF1:=hF.mono sm;obtain⟨dx1,hf1⟩:=hF1.obj;have ih:=a5 (z:=(k:Int)) rfl (JJ (f:=lU st) hkn);refine⟨rfl,nP ⟨_,rfl,_,rfl,_,_,rfl,rfl,⟨by lia,by lia,by decide⟩,_,rfl,f,_,dx1,_,_,rfl,hf1,T.a9,T.eX,rfl,_,rfl,pa,_,_,_,rfl,rfl,aP.of hF1.par,ih,_,_,rfl,rfl,_,_,rfl,rfl,rfl,yes _ _ _ rfl (aq.refl _) ?_⟩⟩;show V.bl (!decide (V.int (Builtin.bitAnd (t:Int) (Builtin.bitOr (1 * 2 ^ ((k:Int)).toNat) (lU st k:Int)))=V.int 0))=V.bl (t &&& (2 ^ k ||| lU st k) != 0);rw[shl,UX,QV]
   congr 1
   show(!decide (V.int ((t &&& (2 ^ k ||| lU st k):Nat):Int)=V.int ((0:Nat):Int)))=_
   rw[kh];rfl
  ·rw[filterMap_some]at L;refine⟨D,_,rfl,aP.of (rN L),?_⟩;have e:(ready.map fun k=>t &&& (2 ^ k ||| lU st k) != 0).all id=DW (lU st) ready t:=by
    rw[List.all_map];rfl
   rw[e];exact q _ sm
def vG(s:State)(put:Nat):List Nat:=(cS (lU s) (e_ s put)).filter (DW (lU s) (e_ s put))
theorem BI(par:Nat->Nat)(k:Nat)(ts:List Nat):ts++ts.filterMap (fun t=>if (t &&& par k == 0)=true then some (t ||| 2 ^ k)else none)=grow par ts k:=by
 unfold grow;rw[nG]
theorem vH(par:Nat->Nat){l:List Nat}(h:l.length<=8):(cS par l).length<=256:=by
 have h1:=EN par l;have h2:2 ^ l.length<=2 ^ 8:=Nat.pow_le_pow_right (by decide) h;lia
def o_(A:iL):Sp:=fun vs H Q _=>∃(f pa hi kn:Addr) (s:State) (put:Nat),vs=[.ref f,iN put]∧NM A.aU H f pa hi kn s∧(Vbpcan.pieces s).length<=8∧Bg H Q (vG s put)
theorem pb(T:Txt K mg A):a6 P w K mg base fe 2 A.cp A.cq ["self","put"] (o_ A):=by
 refine T.cv.ok aZ (fun vs H Q E h=>?_) (fun cdv A1 outer s H vs Q E hr h=>?_)
 ·obtain⟨f,pa,hi,kn,st,put,rfl,_⟩:=h;rfl
 ·obtain⟨f,pa,hi,kn,st,put,rfl,hF,hn,q⟩:=h;refine⟨_,(ae (aI (i:=2) aZ.nd rfl (Or.inr rfl) (iD (pv 0) T.a9 T.oE (oN T) (hr.mono (by decide)) T.o4 .nil aA (aa (pv 1) af)))
 (ae (aI (i:=3) aZ.nd rfl (Or.inl rfl) (bE (aa aC af)))
 (
 ae (cF PassesOwn.never rfl (aX (pv 2)) (aG (i:=4) aZ.nd rfl (Or.inr rfl))
 (ai (aI (i:=3) aZ.nd rfl (Or.inl rfl) (bL tE (pv 3) (fq rfl aZ.nd (aX (pv 3)) (own:=[("track",5)]) (aW (show gu ["self","put","ready","tracks","k","track"] (aj cn) _ _=true from by decide +kernel)) (fun _ _ _ _ _=>(aG (i:=5) aZ.nd rfl (Or.inl rfl) (.inr rfl))) (fun _ _ _ _ _=>(jr (aH bW (bL As (pv 5) (aO (r:=jQ K) aJ (zR (K:=K) (pv 0) rfl rfl) (pv 4) (fun _ _=>rfl))) aC (aM _)))) (fun _ _ _ _ _=>(bL Ob (pv 5) (bL wm aC (pv 4)))))))))
 (ai (ay (fq rfl aZ.nd (aX (pv 3)) (own:=[("track",5)]) (aW (show gu ["self","put","ready","tracks","k","track"] (aj cn) _ _=true from by decide +kernel)) (fun _ _ _ _ _=>(aG (i:=5) aZ.nd rfl (Or.inl rfl) (.inr rfl))) (fun _ _ _ _ _=>(jr (jU (iD (pv 0) T.a9 T.tU (t9 T) (hr.mono (by decide)) T.u6 .nil aA (aa (pv 5) (aa (pv 2) af)))))) (fun _ _ _ _ _=>(pv 5)))))))),?_⟩
  obtain⟨dx,hf⟩:=hF.obj;have hrl:=JI st put;refine⟨_,rfl,f,dx,_,rfl,hf,rfl,_,rfl,f,pa,hi,kn,st,put,rfl,hF,hn,fun H1 rd sm1 hrd e1=>?_⟩;refine⟨(by show 1<=sizeLine;decide),fun t0 ht0=>?_⟩;have s0:aq H1 (upd H1 t0 (.lst [V.int 0])):=aq.new ht0;refine⟨_,rfl,rd,rfl,⟨_,aP.of (s0 _ _ e1)⟩,cU (K:=K) (a:=rd) (xs:=nats (e_ st put)) (fun j σ H'=>∃(v4:Option V) (tr:Addr),σ=[some (.ref f),some (iN put),some (.ref rd),some (.ref tr),v4,none]∧aq H1 H'∧H' tr=some (.lst (nats (cS (lU st) ((e_ st put).take j))))) ⟨none,t0,rfl,s0,ah⟩ (fun j σ H' _ ⟨_,_,_,sm,_⟩=>aP.of (sm _ _ e1)) ?_ ?_⟩
  ·rintro j x σ H' hj ⟨v4,tr,rfl,sm,htr⟩
   obtain⟨k,hk,rfl⟩:=bJ hj;have hkn:=xr (List.mem_of_getElem? hk);have hts:(cS (lU st) ((e_ st put).take j)).length<=256:=vH _ (by have:=vx (e_ st put) j;lia);refine⟨_,rfl,_,rfl,tr,rfl,⟨_,aP.of htr⟩,fun D hD=>?_⟩;refine bx (R:=eh) eh.mono (ys:=cS (lU st) ((e_ st put).take j)) (by simp) (fun t=>if (t &&& lU st k == 0)=true then some (t ||| 2 ^ k)else none) hD (by lia) (aP.of htr) (fun i v t H2 Yes No hv ht sm2 hDd yes no=>?_) fun H2 sm2 L=>?_
   ·obtain⟨y,hy,rfl⟩:=bJ hv;rw[ht]at hy;cases hy;have hF2:=hF.mono ((sm1.trans sm).trans sm2);obtain⟨dx2,hf2⟩:=hF2.obj;have ih:=a5 (z:=(k:Int)) rfl (JJ (f:=lU st) hkn);have e2:decide (V.int (Builtin.bitAnd (t:Int) (lU st k:Int))=V.int 0)=(t &&& lU st k == 0):=by
     rw[QV];show decide (V.int ((t &&& lU st k:Nat):Int)=V.int ((0:Nat):Int))=_;rw[kh];rfl
    refine⟨rfl,_,rfl,_,rfl,f,_,dx2,_,_,rfl,hf2,T.a9,T.eX,rfl,_,rfl,pa,_,_,_,rfl,rfl,aP.of hF2.par,ih,_,_,rfl,rfl,rfl,_,rfl,?_⟩;rw[e2];refine bF (fun h=>?_) fun h=>?_
    ·rw[h]at yes;refine⟨_,rfl,_,rfl,_,_,rfl,rfl,⟨by lia,by lia,by decide⟩,_,_,rfl,rfl,yes _ _ _ rfl (aq.refl _) ?_⟩;show V.int (Builtin.bitOr (t:Int) (1 * 2 ^ ((k:Int)).toNat))=iN (t ||| 2 ^ k);rw[shl,UX]
    ·rw[h]at no;exact no _ rfl (aq.refl _)
   ·have hD2:=bY L;have hl2:=List.length_filterMap_le (fun t=>if (t &&& lU st k == 0)=true then some (t ||| 2 ^ k)else none) (cS (lU st) ((e_ st put).take j));refine⟨tr,D,_,_,rfl,rfl,sm2 _ _ htr,hD2,jy (by rw[aB,aB];lia),fun p hp=>?_⟩;refine⟨_,p,rfl,(sm.trans sm2).trans (aq.new hp),?_⟩;rw[ah,aQ hk,kJ,<-BI];unfold nats;rw[List.map_append]
  ·rintro σ H' ⟨v4,tr,rfl,sm,htr⟩
   rw[aB,List.take_length]at htr;have hts:=vH (lU st) (l:=e_ st put) (by lia);refine⟨_,rfl,tr,rfl,⟨_,aP.of htr⟩,fun D hD=>?_⟩;refine bx (R:=eh) eh.mono (ys:=cS (lU st) (e_ st put)) (by simp) (fun t=>if DW (lU st) (e_ st put) t=true then some t else none) hD (by lia) (aP.of htr) (fun i v t H2 Yes No hv ht sm2 hDd yes no=>?_) fun H2 sm2 L=>?_
   ·obtain⟨y,hy,rfl⟩:=bJ hv;rw[ht]at hy;cases hy;have s3:=sm.trans sm2;have hF2:=hF.mono (sm1.trans s3);obtain⟨dx2,hf2⟩:=hF2.obj;refine⟨rfl,_,rfl,f,dx2,_,rfl,hf2,rfl,_,rfl,_,rfl,f,pa,hi,kn,rd,st,t,e_ st put,rfl,hF2,s3 _ _ e1,by lia,fun k hk=>xr hk,hn,fun H3 sm3=>⟨_,rfl,bF (fun h=>?_) fun h=>?_⟩⟩
    ·rw[h]at yes;exact⟨_,rfl,yes _ _ _ rfl sm3 rfl⟩
    ·rw[h]at no;exact no _ rfl sm3
   ·rw[dG]at L;exact q _ _ ((sm1.trans sm).trans sm2) (sm1.free (sm.free hD)) (bY L)
end
end Pc
end
section
namespace Pc
open PySem PySem.Spec PyProof.Rows L2
open Vbpcan (State Piece Graph)
def pd(H:Hp)(v:V):Option (List Nat)->Prop
 | none=>v=.gi
 | some r=>∃b,v=.ref b∧H b=some (.lst (nats r))
def lV(H H':Hp)(kn:Addr):Prop:=∀b o,H b=some o->b≠kn->H' b=some o
theorem lV.trans{H H1 H2:Hp}{kn:Addr}(a:lV H H1 kn)(b:lV H1 H2 kn):lV H H2 kn:=fun x o h n=>b x o (a x o h n) n
theorem lV.of{H H1:Hp}{kn:Addr}(a:aq H H1):lV H H1 kn:=fun x o h _=>a x o h
structure Memo(H:Hp)(kn:Addr)(s:State):Prop where
 ex:∃kvs es,DP H kn kvs es∧(∀e,e∈es->e.1<256∧e.2<=8)∧∀e v,gv kvs (pk e)=some v->∃o,pd H v o∧c_ s e.1.testBit e.2 o
theorem pd.keep{H H':Hp}{kn:Addr}{v:V}{kvs:List (List Key×V)}(hk:H kn=some (.dT kvs))(e:lV H H' kn):∀{o:Option (List Nat)},pd H v o->pd H' v o
 | none,h=>h
 | some r,⟨b,h1,h2⟩=>⟨b,h1,e _ _ h2 (cj h2 hk (by intro z;cases z))⟩
theorem Memo.mono{H H':Hp}{kn:Addr}{s:State}(h:Memo H kn s)(e:aq H H'):Memo H' kn s:=by
 obtain⟨kvs,es,hD,h1,h2⟩:=h.ex;refine⟨kvs,es,⟨e _ _ hD.rT,hD.keys,hD.nd⟩,h1,fun x v hv=>?_⟩;obtain⟨o,q1,q2⟩:=h2 x v hv;exact⟨o,q1.keep hD.rT (lV.of e),q2⟩
theorem Memo.rT{H:Hp}{kn:Addr}{s:State}(h:Memo H kn s):∃kvs,H kn=some (.dT kvs):=by
 obtain⟨kvs,es,hD,_⟩:=h.ex;exact⟨kvs,hD.rT⟩
theorem NM.keep{C:Addr}{H H':Hp}{f pa hi kn:Addr}{s:State}(h:NM C H f pa hi kn s)(hm:Memo H kn s)(e:lV H H' kn):NM C H' f pa hi kn s:=by
 obtain⟨kvs,hk⟩:=hm.rT;obtain⟨dx,h1⟩:=h.obj;exact⟨⟨dx,e _ _ h1 (cj h1 hk (by intro z;cases z))⟩,e _ _ h.par (cj h.par hk (by intro z;cases z)),e _ _ h.TH (cj h.TH hk (by intro z;cases z))⟩
theorem MS{es:List (Nat×Nat)}(nd:es.Nodup)(h:∀e,e∈es->e.1<256∧e.2<=8):es.length<=2304:=by
 have h1:=fh (m:=(List.range 256).flatMap fun a=>(List.range 9).map fun b=>(a,b)) nd fun e he=>by
  have:=h e he;exact List.mem_flatMap.mpr ⟨e.1,List.mem_range.mpr this.1,List.mem_map.mpr ⟨e.2,List.mem_range.mpr (by lia),rfl⟩⟩
 have h2:=bT (fun a=>(List.range 9).map fun b=>(a,b)) 9 (List.range 256) fun x _=>by rw[List.length_map,List.length_range];exact Nat.le_refl _
 rw[List.length_range]at h2;lia
theorem xt:∀(r q:List Nat),r.length=q.length->(HT.lexLt (r.map fun(n:Nat)=>(n:Int)) (q.map fun(n:Nat)=>(n:Int))=true↔Lx r q)
 | [],[],_=>by
  constructor
  ·intro h;cases h
  ·rintro ⟨i,_,h⟩
   simp[Vbpcan.trackOf]at h
 | [],_::_,h=>by simp at h
 | _::_,[],h=>by simp at h
 | x::r,y::q,h=>by
  have ih:=xt r q (by simpa using h);rw[List.map_cons,List.map_cons,HT.Az];by_cases e:x=y
  ·subst e;rw[if_pos rfl,ih];constructor
   ·rintro ⟨i,h1,h2⟩
    refine⟨i+1,fun j hj=>?_,h2⟩;cases j with
    | zero=>rfl
    | succ j=>exact h1 j (by lia)
   ·rintro ⟨i,h1,h2⟩
    cases i with
    | zero=>exact absurd h2 (Nat.lt_irrefl _)
    | succ i=>exact⟨i,fun j hj=>h1 (j+1) (by lia),h2⟩
  ·rw[if_neg (by lia),decide_eq_true_eq];constructor
   ·intro h3;exact⟨0,fun j hj=>by lia,by show x<y;lia⟩
   ·rintro ⟨i,h1,h2⟩
    cases i with
    | zero=>
     have:x<y:=h2;lia
    | succ i=>exact absurd (h1 0 (by lia)) e
structure t_(s:State)(put left:Nat)(ts:List Nat)(found:Option (List Nat)):Prop where
 all:∀t,t∈ts->∃o,c_ s (put ||| t).testBit left o
 no:found=none->∀t,t∈ts->c_ s (put ||| t).testBit left none
 yes:∀r,found=some r->(∃t m,t∈ts∧c_ s (put ||| t).testBit left (some m)∧r=bI t.testBit m)∧∀t m,t∈ts->c_ s (put ||| t).testBit left (some m)->Le r (bI t.testBit m)
theorem t_.nil{s:State}{put left:Nat}:t_ s put left [] none:=⟨fun t h=>(by cases h),fun _ t h=>(by cases h),fun r h=>(by cases h)⟩
section
variable{s:State}{put left t:Nat}{ts:List Nat}{found:Option (List Nat)}
theorem t_.none_(F:t_ s put left ts found)(h:c_ s (put ||| t).testBit left none):t_ s put left (ts++[t]) found:=by
 refine⟨fun x hx=>?_,fun hf x hx=>?_,fun r hr=>⟨?_,fun x m hx hm=>?_⟩⟩
 ·rcases List.mem_append.mp hx with z | z
  ·exact F.all x z
  ·have:x=t:=by simpa using z
   rw[this];exact⟨_,h⟩
 ·rcases List.mem_append.mp hx with z | z
  ·exact F.no hf x z
  ·have:x=t:=by simpa using z
   rw[this];exact h
 ·obtain⟨x,m,h1,h2,h3⟩:=(F.yes r hr).1;exact⟨x,m,List.mem_append_left _ h1,h2,h3⟩
 ·rcases List.mem_append.mp hx with z | z
  ·exact(F.yes r hr).2 x m z hm
  ·have:x=t:=by simpa using z
   rw[this]at hm;have:=kX.uniq h hm;cases this
theorem t_.better(F:t_ s put left ts found){m:List Nat}(h:c_ s (put ||| t).testBit left (some m))(hb:∀r,found=some r->Le (bI t.testBit m) r):t_ s put left (ts++[t]) (some (bI t.testBit m)):=by
 refine⟨fun x hx=>?_,fun hf=>(by cases hf),fun r hr=>?_⟩
 ·rcases List.mem_append.mp hx with z | z
  ·exact F.all x z
  ·have:x=t:=by simpa using z
   rw[this];exact⟨_,h⟩
 ·cases hr;refine⟨⟨t,m,by simp,h,rfl⟩,fun x m' hx hm'=>?_⟩
  rcases List.mem_append.mp hx with z | z
  ·cases e:found with
   | none=>
    have:=kX.uniq (F.no e x z) hm';cases this
   | some r=>exact(hb r e).trans ((F.yes r e).2 x m' z hm')
  ·have:x=t:=by simpa using z
   rw[this]at hm' ⊢;have:=kX.uniq h hm';cases this;exact .inl rfl
theorem t_.keep(F:t_ s put left ts found){m r:List Nat}(h:c_ s (put ||| t).testBit left (some m))(hr:found=some r)(hb:Le r (bI t.testBit m)):t_ s put left (ts++[t]) found:=by
 refine⟨fun x hx=>?_,fun hf=>(by rw[hr]at hf;cases hf),fun r' hr'=>⟨?_,fun x m' hx hm'=>?_⟩⟩
 ·rcases List.mem_append.mp hx with z | z
  ·exact F.all x z
  ·have:x=t:=by simpa using z
   rw[this];exact⟨_,h⟩
 ·obtain⟨x,m,h1,h2,h3⟩:=(F.yes r' hr').1;exact⟨x,m,List.mem_append_left _ h1,h2,h3⟩
 ·rw[hr]at hr';cases hr';rcases List.mem_append.mp hx with z | z
  ·exact(F.yes r hr).2 x m' z hm'
  ·have:x=t:=by simpa using z
   rw[this]at hm' ⊢;have:=kX.uniq h hm';cases this;exact hb
theorem yz(h:t∈vG s put):RE (Vbpcan.pieces s).length (apart (Vbpcan.pieces s)) (Vbpcan.graphOf s) put.testBit t.testBit∧t<2 ^ (Vbpcan.pieces s).length:=by
 unfold vG at h;have h1:=(List.mem_filter.mp h).1;have h2:=EL (fi (Vbpcan.pieces s)) (cR (Vbpcan.pieces s)) _ (e_ s put) rfl (fun k _ v=>BH s k v) t h1;refine⟨⟨fun u hu=>o9.mp (h2.1 u hu),h2.2⟩,?_⟩;refine Nat.lt_pow_two_of_testBit t fun i hi=>?_
 cases e:t.testBit i with
 | false=>rfl
 | true=>have:=xr (h2.1 i e);lia
theorem HD(F:Nat->Bool)(hT:RE (Vbpcan.pieces s).length (apart (Vbpcan.pieces s)) (Vbpcan.graphOf s) put.testBit F)(hF:Full (Vbpcan.pieces s).length (apart (Vbpcan.pieces s)) (Vbpcan.graphOf s) put.testBit F):∃t,t∈vG s put∧∀u,u<(Vbpcan.pieces s).length->t.testBit u=F u:=by
 obtain⟨t,h1,h2⟩:=EM (fi (Vbpcan.pieces s)) (cR (Vbpcan.pieces s)) _ (e_ s put) rfl (fun k _ v=>BH s k v) F (fun u hu=>o9.mpr (hT.rd u hu)) hT.ind;have e:t.testBit=F:=funext h2;refine⟨t,List.mem_filter.mpr ⟨h1,?_⟩,fun u _=>h2 u⟩;rw[LA (C:=apart (Vbpcan.pieces s)) (fun u=>o9) (fun k _ v=>BH s k v),e];exact hF
theorem t_.end_(F:t_ s put left (vG s put) found):c_ s put.testBit (left+1) found:=by
 classical
 let res:Nat->Option (List Nat):=fun t=>if h:∃o,c_ s (put ||| t).testBit left o then h.choose else none
 have hres:∀t,t∈vG s put->c_ s (put ||| t).testBit left (res t):=fun t ht=>by
  have h:=F.all t ht;show c_ s (put ||| t).testBit left (if h:∃o,c_ s (put ||| t).testBit left o then h.choose else none);rw[dif_pos h];exact h.choose_spec
 have eor:∀t,(put ||| t).testBit=x8 put.testBit t.testBit:=fun t=>by
  funext u
  unfold x8;rw[Nat.testBit_or]
 refine Iw (a8 s) (fi _) (cR _) (ts:=vG s put) (res:=res) (bits:=fun t=>t.testBit) (fun t ht=>(yz ht).1) HD (fun t ht=>?_) (fun hf t ht=>?_) fun r hr=>?_
 ·rw[<-eor];exact hres t ht
 ·exact kX.uniq (hres t ht) (F.no hf t ht)
 ·obtain⟨⟨t,m,h1,h2,h3⟩,h4⟩:=F.yes r hr;refine⟨⟨t,m,h1,kX.uniq (hres t h1) h2,h3⟩,fun x m' hx hm'=>h4 x m' hx ?_⟩;rw[<-hm'];exact hres x hx
end
section
variable{P:Program}{w:World}{K:W.Frag}{mg:Str->Option Value}{base:Heap}{A:iL}
def Lf(A:iL)(m:Nat):Sp:=fun vs H Q _=>∃(f pa hi kn:Addr) (s:State) (put left:Nat),vs=[.ref f,iN put,iN left]∧NM A.aU H f pa hi kn s∧Memo H kn s∧(Vbpcan.pieces s).length<=8∧put<2 ^ (Vbpcan.pieces s).length∧left<=m∧m<=8∧
 ∀(H':Hp) (v:V) (o:Option (List Nat)),lV H H' kn->Memo H' kn s->pd H' v o->c_ s put.testBit left o->Q v H'
def Rq(A:iL)(m:Nat):Sp:=fun vs H Q _=>∃(f pa hi kn:Addr) (s:State) (put left:Nat),vs=[.ref f,iN put,iN left]∧NM A.aU H f pa hi kn s∧Memo H kn s∧(Vbpcan.pieces s).length<=8∧put<2 ^ (Vbpcan.pieces s).length∧1<=left∧left<=m∧m<=8∧
 ∀(H':Hp) (v:V) (o:Option (List Nat)),lV H H' kn->Memo H' kn s->pd H' v o->c_ s put.testBit left o->Q v H'
theorem TJ(T:Txt K mg A)(m:Nat)(hL:a6 P w K mg base fe (2 * m+4) A.bz A.bA ["self","put","left"] (Lf A m)):a6 P w K mg base fe (2 * m+5) A.cb A.cf ["self","put","left"] (Rq A (m+1)):=by
 refine T.cW.ok bR (fun vs H Q E h=>?_) (fun cdv A1 outer s H vs Q E hr h=>?_)
 ·obtain⟨f,pa,hi,kn,st,put,left,rfl,_⟩:=h;rfl
 ·obtain⟨f,pa,hi,kn,st,put,left,rfl,hF,hM,hn,hput,hl1,hlm,hm8,q⟩:=h;have hr:jV (2 * m+4) _:=hr;refine⟨_,(ae (aI (i:=3) bR.nd rfl (Or.inl rfl) mH)
 (
 ae (cF PassesOwn.never rfl (aX (iD (pv 0) T.a9 T.o5 (pb T) (hr.mono (by lia)) T.pQ .nil aA (aa (pv 1) af))) (aG (i:=4) bR.nd rfl (Or.inl rfl))
 (ae (aI (i:=5) bR.nd rfl (Or.inl rfl) (iD (pv 0) T.a9 T.gw hL (hr.mono (by lia)) T.ik .nil aA (aa (bL Ob (pv 1) (pv 4)) (aa (bL wk (pv 2) aC) af))))
 (ai (br (aH Qr (pv 5) mH (aM _)) (ae (aI (i:=6) bR.nd rfl (Or.inl rfl) (au (Ho T) (hr.mono (by lia)) rfl T.Jm T.mY.kp T.Jl .nil aA (aa (pv 4) (aa (pv 5) af))))
 (ai (br (PW.pt (D3 (aH wo (pv 3) mH (aM _)) (wj (aH (Sn (nq hr)) (pv 6) (pv 3) (aM _))))) (ai (aI (i:=3) bR.nd rfl (Or.inl rfl) (pv 6))) aS))) aS))))
 (ai (ay (pv 3))))),?_⟩
  obtain⟨dx,hf⟩:=hF.obj;obtain⟨lm,rfl⟩:∃lm,left=lm+1:=⟨left - 1,by lia⟩;refine⟨_,rfl,f,dx,_,rfl,hf,rfl,_,rfl,f,pa,hi,kn,st,put,rfl,hF,hn,fun H1 tr sm1 htr e1=>⟨tr,rfl,⟨_,aP.of e1⟩,?_⟩⟩;refine cU (K:=K) (a:=tr) (xs:=nats (vG st put)) (fun j σ H'=>∃(v4 v5 v6:Option V) (fv:V) (found:Option (List Nat)),σ=[some (.ref f),some (iN put),some (iN (lm+1)),some fv,v4,v5,v6]∧lV H1 H' kn∧Memo H' kn st∧pd H' fv found∧t_ st put lm ((vG st put).take j) found) ⟨none,none,none,.gi,none,rfl,lV.of (aq.refl _),hM.mono sm1,rfl,t_.nil⟩ (fun j σ H' _ ⟨_,_,_,_,_,_,ek,_⟩=>aP.of (ek _ _ e1 (fun z=>by
    obtain⟨kvs,hk⟩:=(hM.mono sm1).rT;rw[z,hk]at e1;cases e1))) ?_ ?_
  ·rintro j x σ H' hj ⟨v4,v5,v6,fv,found,rfl,ek,hM',hO,hFd⟩
   obtain⟨t,ht,rfl⟩:=bJ hj;have hF':=(hF.mono sm1).keep (hM.mono sm1) ek;obtain⟨dx',hf'⟩:=hF'.obj;have hts:=yz (List.mem_of_getElem? ht);have hor:put ||| t<2 ^ (Vbpcan.pieces st).length:=Nat.or_lt_two_pow hput hts.2
   refine⟨_,rfl,f,dx',_,rfl,hf',rfl,_,rfl,_,rfl,_,_,rfl,rfl,_,rfl,_,_,rfl,rfl,f,pa,hi,kn,st,put ||| t,lm,?_,hF',hM',hn,hor,by lia,by lia,fun H2 v o ek2 hM2 hO2 hLs=>?_⟩
   ·show [V.ref f,V.int (Builtin.bitOr (put:Int) (t:Int)),V.int (((lm+1:Nat):Int) - 1)]=[.ref f,iN (put ||| t),iN lm];rw[UX,show((lm+1:Nat):Int) - 1=(lm:Int) by lia]
   obtain⟨kvs',hk'⟩:=hM'.rT;have hOf:=hO.keep hk' ek2;refine⟨_,rfl,rfl,_,rfl,?_⟩;cases o with
   | none=>
    have ev:v=.gi:=hO2;subst ev;refine uQ ⟨_,_,_,fv,found,rfl,ek.trans ek2,hM2,hOf,?_⟩;rw[aQ ht];exact hFd.none_ hLs
   | some mm=>
    obtain⟨b,rfl,hb⟩:=hO2;refine rX ?_;have hml:mm.length=(Vbpcan.pieces st).length:=hLs.1.len;refine⟨_,rfl,_,rfl,b,t,mm,rfl,hb,by lia,fun H3 rp sm3 hrp e3=>?_⟩;have hM3:=hM2.mono sm3;obtain⟨kvs2,hk2⟩:=hM2.rT;have hOf3:=hOf.keep hk2 (lV.of sm3);have ekA:=(ek.trans ek2).trans (lV.of (kn:=kn) sm3);cases found with
    | none=>
     have ev:fv=.gi:=hOf;subst ev;refine⟨_,rfl,rfl,_,rfl,rX (rX ⟨_,rfl,_,_,_,.ref rp,some (bI t.testBit mm),rfl,ekA,hM3,⟨rp,rfl,e3⟩,?_⟩)⟩;rw[aQ ht];exact hFd.better hLs fun r h=>by cases h
    | some r=>
     obtain⟨fb,rfl,hfb⟩:=hOf3;have hrl:r.length=(Vbpcan.pieces st).length:=by
      obtain⟨x,m2,_,h2,h3⟩:=(hFd.yes r rfl).1;rw[h3,kY];exact h2.1.len
     have e3':=e3;have hfb':=hfb;rw[ka]at e3' hfb';have ell:(bI t.testBit mm).length=r.length:=by rw[kY,hml,hrl]
     refine⟨_,rfl,rfl,_,rfl,uQ ⟨_,rfl,_,rfl,rp,fb,_,_,rfl,rfl,aP.of e3',aP.of hfb',by rw[List.length_map,List.length_map];exact ell,_,rfl,bF (fun h=>?_) fun h=>?_⟩⟩
     ·have hlx:=(xt _ _ ell).mp h;refine⟨_,rfl,_,_,_,.ref rp,some (bI t.testBit mm),rfl,ekA,hM3,⟨rp,rfl,e3⟩,?_⟩;rw[aQ ht];refine hFd.better hLs fun r' h'=>?_
      cases h';exact .inr hlx
     ·have hlx:¬Lx (bI t.testBit mm) r:=fun z=>by
       rw[(xt _ _ ell).mpr z]at h;cases h
      refine⟨_,_,_,.ref fb,some r,rfl,ekA,hM3,⟨fb,rfl,hfb⟩,?_⟩;rw[aQ ht];refine hFd.keep hLs rfl ?_;rcases Lx.total ell with z | z | z
      ·exact .inl z.symm
      ·exact absurd z hlx
      ·exact .inr z
  ·rintro σ H' ⟨v4,v5,v6,fv,found,rfl,ek,hM',hO,hFd⟩
   rw[aB,List.take_length]at hFd;exact⟨_,rfl,q _ _ found ((lV.of sm1).trans ek) hM' hO hFd.end_⟩
end
end Pc
end
section
namespace Pc
open PySem PySem.Spec PyProof.Rows L2
open Vbpcan (State Piece Graph)
theorem Pb{n put:Nat}(h:put<2 ^ n)(hb:∀u,u<n->put.testBit u=true):put=2 ^ n - 1:=by
 refine Nat.eq_of_testBit_eq fun u=>?_
 rw[Nat.testBit_two_pow_sub_one];rcases Nat.lt_or_ge u n with z | z
 ·rw[hb u z,decide_eq_true z]
 ·have:put<2 ^ u:=Nat.lt_of_lt_of_le h (Nat.pow_le_pow_right (by decide) z);rw[Nat.testBit_lt_two_pow this,decide_eq_false (by lia)]
def Es(H:Hp)(kn:Addr)(s:State)(e:Nat×Nat):Prop:=∃kvs es,DP H kn kvs es∧(∀e,e∈es->e.1<256∧e.2<=8)∧(∀e v,gv kvs (pk e)=some v->∃o,pd H v o∧c_ s e.1.testBit e.2 o)∧∃v,gv kvs (pk e)=some v
theorem Es.memo{H:Hp}{kn:Addr}{s:State}{e:Nat×Nat}(h:Es H kn s e):Memo H kn s:=by
 obtain⟨kvs,es,h1,h2,h3,_⟩:=h;exact⟨kvs,es,h1,h2,h3⟩
theorem Es.mono{H H':Hp}{kn:Addr}{s:State}{e:Nat×Nat}(h:Es H kn s e)(sm:aq H H'):Es H' kn s e:=by
 obtain⟨kvs,es,hD,h1,h2,h3⟩:=h;refine⟨kvs,es,⟨sm _ _ hD.rT,hD.keys,hD.nd⟩,h1,fun x v hv=>?_,h3⟩;obtain⟨o,q1,q2⟩:=h2 x v hv;exact⟨o,q1.keep hD.rT (lV.of sm),q2⟩
section
variable{P:Program}{w:World}{K:W.Frag}{mg:Str->Option Value}{base:Heap}{A:iL}
theorem BJ(T:Txt K mg A)(m:Nat)(hFr:a6 P w K mg base fe (2 * m+3) A.cb A.cf ["self","put","left"] (Rq A m)):a6 P w K mg base fe (2 * m+4) A.bz A.bA ["self","put","left"] (Lf A m):=by
 refine T.cM.ok pP (fun vs H Q E h=>?_) (fun cdv A1 outer s H vs Q E hr h=>?_)
 ·obtain⟨f,pa,hi,kn,st,put,left,rfl,_⟩:=h;rfl
 ·obtain⟨f,pa,hi,kn,st,put,left,rfl,hF,hM,hn,hput,hlm,hm8,q⟩:=h;have hr:jV (2 * m+3) _:=hr;refine⟨_,(ae (br (aH bW (pv 1) (bC (pv 0) rfl) (aM _)) (ai (ay (bL AB (bE (aa aC af)) (bC (pv 0) rfl)))) aS)
 (ae (br (aH bW (pv 2) aC (aM _)) (ai (ay mH)) aS)
 (ae (uS (br (IH (Eb (nq hr) (iJ (aa (pv 1) (aa (pv 2) af))) (bC (pv 0) rfl))) (ai (zM (nq hr) (bC (pv 0) rfl) (iJ (aa (pv 1) (aa (pv 2) af))) (iD (pv 0) T.a9 T.qP hFr (hr.mono (by lia)) T.r_ .nil aA (aa (pv 1) (aa (pv 2) af))) rfl)) aS))
 (ai (ay (zL (nq hr) (bC (pv 0) rfl) (iJ (aa (pv 1) (aa (pv 2) af))) (fun _ _=>rfl))))))),?_⟩
  obtain⟨dx,hf⟩:=hF.obj;have h256:put<256:=Nat.lt_of_lt_of_le hput (Nat.pow_le_pow_right (n:=2) (by decide) hn);refine⟨_,rfl,_,rfl,f,_,dx,_,_,rfl,hf,T.a9,T.dw,rfl,rfl,_,rfl,bF (fun h=>?_) fun h=>?_⟩
  ·have hall:put=2 ^ (Vbpcan.pieces st).length - 1:=by rw[kh,decide_eq_true_eq]at h;exact h
   refine⟨(by show 1<=sizeLine;decide),fun z hz=>?_⟩;have sz:aq H (upd H z (.lst [V.int 0])):=aq.new hz;refine⟨_,rfl,f,_,dx,_,_,rfl,sz _ _ hf,T.a9,T.cw,rfl,z,_,_,rfl,rfl,ah,by lia,by lia,jy (by show 1 * (((Vbpcan.pieces st).length:Nat):Int).toNat<=16000000;rw[Int.toNat_natCast];lia),fun p hp=>?_⟩;have e0:(List.replicate (((Vbpcan.pieces st).length:Nat):Int).toNat [V.int 0]).flatten=nats (List.replicate (Vbpcan.pieces st).length 0):=by
    rw[Int.toNat_natCast,vz];exact vA 0 _
   rw[e0];have sA:=sz.trans (aq.new (o:=.lst (nats (List.replicate (Vbpcan.pieces st).length 0))) hp);refine q _ _ (some (List.replicate (Vbpcan.pieces st).length 0)) (lV.of sA) (hM.mono sA) ⟨p,rfl,ah⟩ (wb (fun u hu=>?_) (a8 st));rw[hall,Nat.testBit_two_pow_sub_one];exact decide_eq_true hu
  ·have hnall:put≠2 ^ (Vbpcan.pieces st).length - 1:=by rw[kh,decide_eq_false_iff_not]at h;exact h
   have hun:∃u,u<(Vbpcan.pieces st).length∧put.testBit u=false:=by
    apply Classical.byContradiction;intro z;refine hnall (Pb hput fun u hu=>?_);cases e:put.testBit u with
    | true=>rfl
    | false=>exact absurd ⟨u,hu,e⟩ z
   refine⟨_,rfl,rfl,_,rfl,bF (fun h=>?_) fun h=>?_⟩
   ·have hl0:left=0:=by
     have h1:V.int (left:Int)=V.int 0:=of_decide_eq_true h;have h2:(left:Int)=0:=V.int.inj h1;lia
    obtain⟨u,hu,hub⟩:=hun;subst hl0;exact q _ _ none (lV.of (aq.refl _)) hM rfl (Iy hu hub)
   ·have hl1:1<=left:=by
     have h1:¬V.int (left:Int)=V.int 0:=of_decide_eq_false h;rcases Nat.eq_zero_or_pos left with z | z
     ·exact absurd (by rw[z];rfl) h1
     ·exact z
    refine⟨fun σ' H'=>σ'=[some (.ref f),some (iN put),some (iN left)]∧lV H H' kn∧Es H' kn st (put,left),?_,?_⟩
    ·refine⟨_,rfl,_,rfl,(by show 2<=sizeLine;decide),fun t1 ht1=>?_⟩;have s1:aq H (upd H t1 (.tup [iN put,iN left])):=aq.new ht1;have hM1:=hM.mono s1;have hF1:=hF.mono s1;obtain⟨kvs,es,hD,hes,hval⟩:=hM1.ex;obtain⟨dx1,hf1⟩:=hF1.obj;refine⟨_,rfl,f,_,dx1,_,_,rfl,hf1,T.a9,T.bK,rfl,kn,_,rfl,kg.t (k:=pk (put,left)) hD.rT ah,_,rfl,bF (fun h=>?_) fun h=>?_⟩
     ·refine⟨_,rfl,f,dx1,_,rfl,hf1,rfl,_,rfl,_,rfl,f,pa,hi,kn,st,put,left,rfl,hF1,hM1,hn,hput,hl1,hlm,hm8,fun H2 v o ek2 hM2 hO2 hLs=>?_⟩;have hF2:=hF1.keep hM1 ek2;obtain⟨dx2,hf2⟩:=hF2.obj;refine⟨_,rfl,f,_,dx2,_,_,rfl,hf2,T.a9,T.bK,rfl,_,rfl,_,rfl,(by show 2<=sizeLine;decide),fun t2 ht2=>?_⟩;have s3:aq H2 (upd H2 t2 (.tup [iN put,iN left])):=aq.new ht2;have hM3:=hM2.mono s3;obtain⟨kvs2,es2,hD2,hes2,hval2⟩:=hM3.ex;have hlen:kvs2.length<=2304:=by rw[hD2.len];exact MS hD2.nd hes2
      obtain⟨kvs0,hk0⟩:=hM2.rT;have hO3:=hO2.keep hk0 (lV.of s3);refine⟨kn,_,rfl,AF.t (k:=pk (put,left)) hD2.rT ah (small (by lia)),rfl,?_,?_⟩
      ·intro b o hb hbk;rw[ak hbk];exact s3 _ _ (ek2 _ _ (s1 _ _ hb) hbk)
      ·have ekn:lV (upd H2 t2 (.tup [iN put,iN left])) (upd (upd H2 t2 (.tup [iN put,iN left])) kn (.dT (putK kvs2 (pk (put,left)) v))) kn:=fun b o hb hbk=>by rw[ak hbk];exact hb
       refine⟨_,_,hD2.put,fun e he=>?_,fun e v' hv'=>?_,v,by rw[uP,if_pos rfl]⟩
       ·split at he
        ·exact hes2 e he
        ·rcases List.mem_append.mp he with z | z
         ·exact hes2 e z
         ·have:e=(put,left):=by simpa using z
          rw[this];exact⟨h256,by show left<=8;lia⟩
       ·rw[uP]at hv';by_cases hk:pk e=pk (put,left)
        ·rw[if_pos hk]at hv';cases hv';have:=O8 hk;subst this;exact⟨o,hO3.keep hD2.rT ekn,hLs⟩
        ·rw[if_neg hk]at hv';obtain⟨o',q1,q2⟩:=hval2 e v' hv';exact⟨o',q1.keep hD2.rT ekn,q2⟩
     ·refine⟨rfl,lV.of s1,kvs,es,hD,hes,hval,?_⟩;cases e:gv kvs (pk (put,left))with
      | none=>rw[e]at h;cases h
      | some v=>exact⟨v,rfl⟩
    ·rintro σ' H' ⟨rfl,ek,hE⟩
     have hF':=hF.keep hM ek;obtain⟨dx',hf'⟩:=hF'.obj;refine⟨_,rfl,f,_,dx',_,_,rfl,hf',T.a9,T.bK,rfl,_,rfl,_,rfl,(by show 2<=sizeLine;decide),fun t3 ht3=>?_⟩;have hE2:=hE.mono (aq.new (o:=.tup [iN put,iN left]) ht3);have hM4:=hE2.memo;obtain⟨kvs,es,hD,hes,hval,v,hv⟩:=hE2;obtain⟨o,q1,q2⟩:=hval (put,left) v hv;have dg:kg (upd H' t3 (.tup [iN put,iN left])) kn (.ref t3) (some v):=by
      have:=kg.t (k:=pk (put,left)) (b:=t3) hD.rT ah;rw[hv]at this;exact this
     exact⟨kn,v,rfl,dg,q _ _ o (ek.trans (lV.of (aq.new ht3))) hM4 q1 q2⟩
theorem Rr(T:Txt K mg A):∀m,a6 P w K mg base fe (2 * m+4) A.bz A.bA ["self","put","left"] (Lf A m)
 | 0
   => BJ T 0 ⟨fun vs H Q E h=>(by obtain⟨f,pa,hi,kn,st,put,left,rfl,_⟩:=h;rfl),fun A1 outer s H args us vs Q E hr he hb hv h=>(by
   obtain⟨f,pa,hi,kn,st,put,left,_,_,_,_,_,h1,h2,_⟩:=h
   lia)⟩
 | m+1=>BJ T (m+1) (TJ T m (Rr T m))
theorem kj(T:Txt K mg A):a6 P w K mg base fe 22 A.bz A.bA ["self","put","left"] (Lf A 8):=(Rr T 8).mono (by decide)
theorem Et{l:List Nat}{n:Nat}(hl:l.Pairwise (· < ·))(h:∀x,x∈l->x<n)(hn:n<=96):l.length<=10000∧∀k,k∈l->k<=1000:=by
 have:=gC n l (hl.imp fun h e=>by lia) h;exact⟨by lia,fun k hk=>by have:=h k hk;lia⟩
def QZ(n:Nat):List (Str×V):=[("piece_count",iN n),("every_piece",iN (2 ^ n - 1))]
def y8(A:iL):Sp:=fun vs H Q _=>∃(f dx a b:Addr) (s:State),vs=[.ref f,iN (Vbpcan.pieces s).length,.ref a,.ref b]∧H f=some (.ins A.aU dx [])∧bS bN H a (bD (Vbpcan.pieces s))∧bS bN H b (Vbpcan.graphOf s)∧(Vbpcan.pieces s).length<=8∧
 ∀(H':Hp) (pa hi kn:Addr),NM A.aU H' f pa hi kn s->H' kn=some (.dT [])->(∀b o,H b=some o->b≠f->H' b=some o)->H kn=none->Q .gi H'
theorem y9(T:Txt K mg A):a6 P w K mg base fe 2 A.hX A.hZ ["self","count","apart","above"] (y8 A):=by
 refine T.j9.ok fB (fun vs H Q E h=>?_) (fun cdv A1 outer s H vs Q E hr h=>?_)
 ·obtain⟨f,dx,a,b,st,rfl,_⟩:=h;rfl
 ·obtain⟨f,dx,a,b,st,rfl,hf,hA,hB,hn,k⟩:=h;refine⟨_,(ae (fj (pv 0) (pv 1) rfl)
 (ae (fj (pv 0) (bL wk (bL wm aC (pv 1)) aC) rfl)
 (ae (fj (pv 0) (fq rfl fB.nd (aX (au (qV T) (hr.mono (by decide)) rfl T.sN T.gq.kp T.sM .nil aA (aa (pv 1) (aa (pv 2) af)))) (own:=[("pieces",4)]) (aW (show gu ["self","count","apart","above","pieces"] (aj gI) _ _=true from by decide +kernel)) (fun _ _ _ _ _=>(aG (i:=4) fB.nd rfl (Or.inl rfl) (.inr rfl))) (fun _ _ _ _ _=>bX) (fun _ _ _ _ _=>(au (Bs T) (hr.mono (by decide)) rfl T.Ek T.mw.kp T.Ej .nil aA (aa (pv 4) af)))) rfl)
 (ae (fj (pv 0) (fq rfl fB.nd (aX (au (iB T) (hr.mono (by decide)) rfl T.ji T.cD.kp T.jh .nil aA (aa (pv 1) (aa (pv 3) af)))) (own:=[("pieces",4)]) (aW (show gu ["self","count","apart","above","pieces"] (aj gI) _ _=true from by decide +kernel)) (fun _ _ _ _ _=>(aG (i:=4) fB.nd rfl (Or.inl rfl) (.inr rfl))) (fun _ _ _ _ _=>bX) (fun _ _ _ _ _=>(au (Bs T) (hr.mono (by decide)) rfl T.Ek T.mw.kp T.Ej .nil aA (aa (pv 4) af)))) rfl)
 (ai (fj (pv 0) GK rfl)))))),?_⟩
  have lap:(bD (Vbpcan.pieces st)).length<=9216:=by
   have h2:=rC (Vbpcan.pieces st);have h3:(Vbpcan.pieces st).length * (Vbpcan.pieces st).length<=8 * 8:=Nat.mul_le_mul hn hn;lia
  have lgr:(Vbpcan.graphOf st).length<=9216:=by
   have h1:(Vbpcan.graphOf st).length<=((List.range (Vbpcan.pieces st).length).zip (Vbpcan.pieces st)).length * (Vbpcan.pieces st).length:=by
    unfold Vbpcan.graphOf;refine bT _ _ _ fun x _=>?_
    refine Nat.le_trans (List.length_filterMap_le _ _) ?_;rw[List.length_zip,List.length_range];lia
   rw[List.length_zip,List.length_range,Nat.min_self]at h1;have h3:(Vbpcan.pieces st).length * (Vbpcan.pieces st).length<=8 * 8:=Nat.mul_le_mul hn hn;lia
  refine⟨_,rfl,_,rfl,f,A.aU,dx,_,rfl,hf,T.a9,T.cw,(by decide),?_⟩;refine⟨_,rfl,_,_,rfl,rfl,⟨by lia,by lia,by decide⟩,_,_,rfl,rfl,_,rfl,f,A.aU,dx,_,rfl,ah,T.a9,T.dw,(by show 1<1000;decide),?_⟩;have e2:(1:Int) * 2 ^ (((Vbpcan.pieces st).length:Nat):Int).toNat - 1=((2 ^ (Vbpcan.pieces st).length - 1:Nat):Int):=by
   rw[shl];have:1<=2 ^ (Vbpcan.pieces st).length:=Nat.two_pow_pos _;lia
  generalize hH2:upd (upd H f (.ins A.aU dx (mJ "piece_count" (iN (Vbpcan.pieces st).length) []))) f _=H2
  have keep2:∀x o,H x=some o->x≠f->H2 x=some o:=fun x o hx hxf=>by rw[<-hH2,ak hxf,ak hxf];exact hx
  have hf2:H2 f=some (.ins A.aU dx (QZ (Vbpcan.pieces st).length)):=by
   rw[<-hH2,ah];have:mJ ("every_piece" : Str) (V.int ((1:Int) * 2 ^ (((Vbpcan.pieces st).length:Nat):Int).toNat - 1)) (mJ ("piece_count" : Str) (iN (Vbpcan.pieces st).length) [])=(QZ (Vbpcan.pieces st).length):=by
    rw[e2];rfl
   exact congrArg (fun z=>some (HO.ins A.aU dx z)) this
  have sA:aq (hole H f) H2:=fun x o hx=>keep2 x o (jM hx).1 (jM hx).2
  have hA':bS bN (hole H f) a (bD (Vbpcan.pieces st)):=by
   obtain⟨vs,h1,h2⟩:=hA;refine⟨vs,by rw[cC (cj h1 hf (by intro z;cases z))];exact h1,h2.1,fun i e he=>?_⟩;obtain⟨v,q1,c,q2,q3⟩:=h2.2 i e he;exact⟨v,q1,c,q2,by rw[cC (cj q3 hf (by intro z;cases z))];exact q3⟩
  have hB':bS bN (hole H f) b (Vbpcan.graphOf st):=by
   obtain⟨vs,h1,h2⟩:=hB;refine⟨vs,by rw[cC (cj h1 hf (by intro z;cases z))];exact h1,h2.1,fun i e he=>?_⟩;obtain⟨v,q1,c,q2,q3⟩:=h2.2 i e he;exact⟨v,q1,c,q2,by rw[cC (cj q3 hf (by intro z;cases z))];exact q3⟩
  refine⟨_,rfl,_,rfl,a,(Vbpcan.pieces st).length,bD (Vbpcan.pieces st),rfl,hA'.mono bN.mono sA,fun e he=>⟨(nV he).1,(nV he).2,by have:=(d_.mp he).1;lia⟩,lap,by lia,fun H3 la sm3 hla hLa=>?_⟩;obtain⟨va,hva,hEa⟩:=hLa;refine⟨la,rfl,⟨_,aP.of hva⟩,fun pa hpa=>bx (R:=eh) eh.mono (ys:=(List.range (Vbpcan.pieces st).length).map (gx (bD (Vbpcan.pieces st)))) hEa.1 (fun l=>some (maskOf l)) hpa (by simp;lia) (aP.of hva) (fun i v l H4 Yes No hv hl sm hDd yes no=>?_) fun H4 sm4 L4=>?_⟩
  ·obtain⟨l',hl',c,rfl,hc⟩:=hEa.get hv;rw[hl]at hl';cases hl';rw[List.getElem?_map,Option.map_eq_some_iff]at hl;obtain⟨u,_,rfl⟩:=hl;obtain⟨m1,m2⟩:=Et (HB (Vbpcan.pieces st) u) (fun x hx=>(nT (ko.mp hx)).2) (by lia);exact⟨rfl,nP ⟨_,rfl,c,_,rfl,sm _ _ hc,m1,m2,fun H5 sm5=>yes _ _ _ rfl sm5 rfl⟩⟩
  ·rw[filterMap_some,List.map_map]at L4;have hpa4:=bY L4;have s24:=sm3.trans sm4;have fpa:f≠pa:=ao (sm3 _ _ hf2) hpa;refine⟨_,rfl,f,A.aU,dx,_,rfl,s24 _ _ hf2,T.a9,T.eX,(by show 2<1000;decide),?_⟩;have sB:aq (hole H f) (upd H4 f (.ins A.aU dx (mJ "parted" (.ref pa) (QZ (Vbpcan.pieces st).length)))):=fun x o hx=>by
    rw[ak (jM hx).2];exact s24 _ _ (sA _ _ hx)
   refine⟨_,rfl,_,rfl,b,(Vbpcan.pieces st).length,Vbpcan.graphOf st,rfl,hB'.mono bN.mono sB,a8 st,lgr,by lia,fun H5 lb sm5 hlb hLb=>?_⟩;obtain⟨vb,hvb,hEb⟩:=hLb;refine⟨lb,rfl,⟨_,aP.of hvb⟩,fun hi hhi=>bx (R:=eh) eh.mono (ys:=(List.range (Vbpcan.pieces st).length).map (bH (Vbpcan.graphOf st))) hEb.1 (fun l=>some (maskOf l)) hhi (by simp;lia) (aP.of hvb) (fun i v l H6 Yes No hv hl sm hDd yes no=>?_) fun H6 sm6 L6=>?_⟩
   ·obtain⟨l',hl',c,rfl,hc⟩:=hEb.get hv;rw[hl]at hl';cases hl';rw[List.getElem?_map,Option.map_eq_some_iff]at hl;obtain⟨u,_,rfl⟩:=hl;obtain⟨m1,m2⟩:=Et (DL (jw st) u) (fun x hx=>(a8 st _ _ (c9.mp hx)).1) (by lia);exact⟨rfl,nP ⟨_,rfl,c,_,rfl,sm _ _ hc,m1,m2,fun H7 sm7=>yes _ _ _ rfl sm7 rfl⟩⟩
   ·rw[filterMap_some,List.map_map]at L6;have hhi6:=bY L6;have s46:=sm5.trans sm6;have hf6:=s46 _ _ (ah (H:=H4) (a:=f) (o:=.ins A.aU dx (mJ "parted" (.ref pa) (QZ (Vbpcan.pieces st).length))));have hpa6:=s46 _ _ (show upd H4 f _ pa=_ by rw[ak (Ne.symm fpa)];exact hpa4);have fhi:f≠hi:=ao (sm5 _ _ ah) hhi;refine⟨_,rfl,f,A.aU,dx,_,rfl,hf6,T.a9,T.eY,(by show 3<1000;decide),?_⟩;intro kn hkn;have fkn:f≠kn:=ao ah hkn;refine⟨_,rfl,f,A.aU,dx,_,rfl,(by rw[ak fkn];exact ah),T.a9,T.bK,(by show 4<1000;decide),?_⟩;have pakn:pa≠kn:=ao (by rw[ak (Ne.symm fpa)];exact hpa6) hkn;have hikn:hi≠kn:=ao (by rw[ak (Ne.symm fhi)];exact hhi6) hkn;refine k _ pa hi kn ⟨⟨dx,ah⟩,?_,?_⟩ ?_ ?_ ?_
    ·rw[ak (Ne.symm fpa),ak pakn,ak (Ne.symm fpa)];exact hpa6
    ·rw[ak (Ne.symm fhi),ak hikn,ak (Ne.symm fhi)];exact hhi6
    ·rw[ak (Ne.symm fkn),ah]
    ·intro x o hx hxf;have h6:H6 x=some o:=s46 _ _ (by rw[ak hxf];exact s24 _ _ (keep2 _ _ hx hxf));have xkn:x≠kn:=ao (by rw[ak hxf];exact h6) hkn;rw[ak hxf,ak xkn,ak hxf];exact h6
    ·cases e:H kn with
     | none=>rfl
     | some o=>
      have h6:H6 kn=some o:=s46 _ _ (by rw[ak (Ne.symm fkn)];exact s24 _ _ (keep2 _ _ e (Ne.symm fkn)));rw[ak (Ne.symm fkn),h6]at hkn;cases hkn
end
end Pc
end
section
namespace Pc
open PySem PySem.Spec PyProof.Rows L2
open Vbpcan (State Piece Graph)
theorem Eu:(0:Nat).testBit=EJ:=by
 funext u
 exact Nat.zero_testBit u
theorem CV{s:State}(F:Cq s)(hr:Vbpcan.ring (Vbpcan.graphOf s) (Vbpcan.pieces s).length=[]):Vbpcan.density s<=(Vbpcan.pieces s).length:=by
 obtain⟨r,V⟩:=KA (C:=apart (Vbpcan.pieces s)) (a8 s) (cR _) hr (Vbpcan.pieces s).length EJ (by
  refine Nat.le_trans (List.length_filter_le _ _) ?_;rw[List.length_range];exact Nat.le_refl _)
 exact Ad F V
section
variable{P:Program}{w:World}{K:W.Frag}{mg:Str->Option Value}{base:Heap}{A:iL}
def FK:Sp:=fun vs H Q _=>∃(a b:Addr) (s:State),vs=[iN (Vbpcan.pieces s).length,.ref a,.ref b,iN (Vbpcan.density s)]∧bS bN H a (bD (Vbpcan.pieces s))∧bS bN H b (Vbpcan.graphOf s)∧(Vbpcan.pieces s).length<=8∧Cq s∧Vbpcan.ring (Vbpcan.graphOf s) (Vbpcan.pieces s).length=[]∧
 ∀(H':Hp) (p:Addr) (k:Nat) (r:List Nat),aq H H'->Vbpcan.least s (Vbpcan.graphOf s)=some (k,r)->r.length=(Vbpcan.pieces s).length->H' p=some (.lst (nats r))->Q (.ref p) H'
theorem FL(T:Txt K mg A):a6 P w K mg base fe 23 A.lJ A.lK ["count","apart","above","density"] FK:=by
 refine T.lS.ok iG (fun vs H Q E h=>?_) (fun cdv A1 outer s H vs Q E hr h=>?_)
 ·obtain⟨a,b,st,rfl,_⟩:=h;rfl
 ·obtain⟨a,b,st,rfl,hA,hB,hn,fit,hring,q⟩:=h;refine⟨_,(ae (aI (i:=4) iG.nd rfl (Or.inl rfl) (KY T.My (y9 T) (hr.mono (by decide)) rfl T.Jo T.A_ .nil aA (aa (pv 0) (aa (pv 1) (aa (pv 2) af)))))
 (ae (aI (i:=5) iG.nd rfl (Or.inl rfl) (pv 3))
 (ae (aI (i:=6) iG.nd rfl (Or.inl rfl) (iD (pv 4) T.a9 T.gw (kj T) (hr.mono (by decide)) T.ik .nil aA (aa aC (aa (pv 5) af))))
 (ae (nX PassesOwn.never (aH wo (pv 6) mH (aM _)) (ae (tq (i:=5) iG.nd rfl (Or.inl rfl) aC p_)
 (ai (aI (i:=6) iG.nd rfl (Or.inl rfl) (iD (pv 4) T.a9 T.gw (kj T) (hr.mono (by decide)) T.ik .nil aA (aa aC (aa (pv 5) af)))))))
 (ai (ay (pv 6))))))),?_⟩
  have hden:=CV fit hring;refine⟨_,rfl,_,rfl,_,rfl,?_⟩;intro f dx nf ndx nex;have s0:aq H (upd (upd H dx (.own f)) f (.ins A.aU dx [])):=fun x o hx=>by
   rw[ak (ao hx nf),ak (ao hx ndx)];exact hx
  refine⟨f,dx,a,b,st,rfl,ah,hA.mono bN.mono s0,hB.mono bN.mono s0,hn,fun H1 pa hi kn hF hkn keep hkn0=>⟨rfl,?_⟩⟩;have s1:aq H H1:=fun x o hx=>keep _ _ (s0 _ _ hx) (ao hx nf)
  have hknH:H kn=none:=s0.free hkn0;have hM:Memo H1 kn st:=⟨[],[],⟨hkn,rfl,List.nodup_nil⟩,fun e he=>(by cases he),fun e v hv=>(by cases hv)⟩;have same_of:∀H',lV H1 H' kn->aq H H':=fun H' ek x o hx=>ek _ _ (s1 _ _ hx) (ao hx hknH)
  obtain⟨dx1,hf1⟩:=hF.obj;have hpow:0<2 ^ (Vbpcan.pieces st).length:=Nat.two_pow_pos _;refine⟨_,rfl,_,rfl,f,dx1,_,rfl,hf1,rfl,_,rfl,f,pa,hi,kn,st,0,Vbpcan.density st,rfl,hF,hM,hn,hpow,by lia,by decide,fun H2 v o ek2 hM2 hO2 hL2=>?_⟩;rw[Eu]at hL2;refine nY (fun σ H'=>∃(v:V) (o:Option (List Nat)) (k:Nat),σ=[some (iN (Vbpcan.pieces st).length),some (.ref a),some (.ref b),some (iN (Vbpcan.density st)),some (.ref f),some (iN k),some v]∧lV H1 H' kn∧Memo H' kn st∧pd H' v o∧c_ st EJ k o∧(∀j,Vbpcan.density st<=j->j<k->c_ st EJ j none)∧k<=(Vbpcan.pieces st).length) (fun σ _=>(Vbpcan.pieces st).length - Hy 5 σ)
   ⟨v,o,Vbpcan.density st,rfl,ek2,hM2,hO2,hL2,fun j h1 h2=>by lia,hden⟩ ?_ (fun σ H Q Q' f ⟨v,x1,x2,k,x3,q⟩=>⟨v,x1,x2,k,x3,f _ _ q⟩)
  rintro σ H' ⟨v,o,k,rfl,ek,hM',hO,hL,hno,hk⟩
  refine⟨_,rfl,rfl,_,rfl,?_⟩;cases o with
  | none=>
   have ev:v=.gi:=hO;subst ev;have hkn':=x_ hring hL;refine rX ⟨_,rfl,_,_,rfl,rfl,?_⟩;have hF':=hF.keep hM ek;obtain⟨dx',hf'⟩:=hF'.obj;refine⟨_,rfl,f,dx',_,rfl,hf',rfl,_,rfl,f,pa,hi,kn,st,0,k+1,rfl,hF',hM',hn,hpow,by lia,by decide,fun H3 v3 o3 ek3 hM3 hO3 hL3=>?_⟩;rw[Eu]at hL3;refine⟨⟨v3,o3,k+1,rfl,ek.trans ek3,hM3,hO3,hL3,fun j h1 h2=>?_,by lia⟩,?_⟩
   ·by_cases e:j=k
    ·rw[e];exact hL
    ·exact hno j h1 (by lia)
   ·show(Vbpcan.pieces st).length - ((k+1:Nat):Int).toNat<(Vbpcan.pieces st).length - ((k:Nat):Int).toNat
    rw[Int.toNat_natCast,Int.toNat_natCast];lia
  | some r=>
   obtain⟨p,rfl,hp⟩:=hO;exact uQ ⟨_,rfl,q _ p k r (same_of _ ek) (NT fit hring hno hL) hL.1.len hp⟩
def ua(A:iL)(d:Vbpcan.Call):Sp:=fun vs H Q _=>∃(c u l:Addr) (s:State),vs=[.ref c]∧ff A.aw H c u l s∧Jp H Q (Vbpcan.step s d).2
theorem item_tup{H:Hp}{a:Addr}{zss:List (List Int)}(h:bS jH H a zss):bS yo H a zss:=by
 obtain⟨vs,h1,h2⟩:=h;exact⟨vs,h1,h2.1,fun i x hx=>let ⟨v,q1,q2⟩:=h2.2 i x hx;⟨v,q1,.inr q2⟩⟩
def JK(p:Piece):List Int:=[(p.net:Int),(p.l:Int),(p.r:Int)]
theorem HE{H:Hp}{a:Addr}{ps:List Piece}(h:bS a7 H a ps):bS yo H a (ps.map JK):=Hm (fun v p hp=>.inr hp) h
theorem JL{H:Hp}{a:Addr}{g:Graph}(h:bS bN H a g):bS yo H a (g.map Vbpcan.pairNums):=Hm (fun v p hp=>.inr hp) h
theorem kI{α:Type}(f:α->List Int)(l:List α):Vbpcan.counted f l=((l.map f).length:Int)::(l.map f).flatten:=by
 unfold Vbpcan.counted;rw[List.length_map,List.flatMap_def]
theorem qX{α:Type}(f:α->List Int)(k:Nat)(l:List α)(h:∀x,x∈l->(f x).length<=k):(l.map f).flatten.length<=l.length * k:=by
 rw[<-List.flatMap_def];exact bT f k l h
def ub(s:State)(n:Nat):List Int:=(n:Int)::Vbpcan.counted Vbpcan.one (Vbpcan.pinsOf s n)
theorem HF(s:State)(n:Nat):(ub s n).length=(Vbpcan.pinsOf s n).length+2:=by
 unfold ub;rw[c6,List.length_cons,List.length_cons,List.length_map]
theorem BK(T:Txt K mg A):a6 P w K mg base fe 2 A.i6 A.i7 ["channel"] (ua A .nets):=by
 refine T.jk.ok gQ (fun vs H Q E h=>?_) (fun cdv A1 outer s H vs Q E hr h=>?_)
 ·obtain⟨c,u,l,st,rfl,_⟩:=h;rfl
 ·obtain⟨c,u,l,st,rfl,hC,q⟩:=h;refine⟨_,(ae (aI (i:=1) gQ.nd rfl (Or.inl rfl) (au (t7 T) (hr.mono (by decide)) rfl T.wO T.kG.kp T.wN .nil aA (aa (pv 0) af)))
 (ae (aI (i:=2) gQ.nd rfl (Or.inl rfl) (bE (aa (aK ax (by rfl) T.bP bh (aa (pv 1) af)) af)))
 (
 ae (cF PassesOwn.never rfl (aX (pv 1)) (tj rfl (bV (aG (i:=3) gQ.nd rfl (Or.inl rfl)) (bV (aG (i:=4) gQ.nd rfl (Or.inl rfl)) md)))
 (ae (cA (jK F.plainAttrs_list F.slot_list_append F.type_list_append cP (pv 2) (aa (pv 3) af)))
 (ai (cA (jK F.plainAttrs_list F.slot_list_extend F.type_list_extend nZ (pv 2) (aa (au (dq T) (hr.mono (by decide)) rfl T.eS T.cz.kp T.eR .nil aA (aa (pv 4) af)) af))))))
 (ai (ay (pv 2)))))),?_⟩
  have fit:=hC.fit;have hnl:=EG fit;refine⟨_,rfl,c,u,l,st,rfl,hC,fun H1 p sm1 hp hL=>?_⟩;obtain⟨vs,hv,hE⟩:=hL;have lv:vs.length=(Vbpcan.nets st).length:=by rw[hE.1,JE,List.length_map]
  refine⟨_,rfl,p,_,rfl,.inl (aP.of hv),(by show 1<=sizeLine;decide),fun d hd=>?_⟩;have s0:aq H1 (upd H1 d (.lst [.int vs.length])):=aq.new hd;refine⟨_,rfl,p,rfl,⟨_,aP.of (s0 _ _ hv)⟩,cU (K:=K) (a:=p) (xs:=vs) (fun i σ H'=>∃v3 v4:Option V,σ=[some (.ref c),some (.ref p),some (.ref d),v3,v4]∧aq H1 H'∧H' d=some (.lst (a_ (((Vbpcan.nets st).length:Int)::(((Vbpcan.nets st).map (ub st)).take i).flatten)))) ⟨none,none,rfl,s0,by rw[ah,lv];rfl⟩ (fun i σ H' _ ⟨_,_,_,sm,_⟩=>aP.of (sm _ _ hv)) ?_ ?_⟩
  ·rintro i x σ H' hi ⟨v3,v4,rfl,sm,hd'⟩
   obtain⟨e,he,b,cc,rfl,hb,hcc,hcf⟩:=hE.get hi;obtain⟨n,hn,rfl⟩:∃n,(Vbpcan.nets st)[i]? = some n∧(n,Vbpcan.pinsOf st n)=e:=by
    unfold JE at he;rw[List.getElem?_map,Option.map_eq_some_iff]at he;exact he
   have hb:H1 b=some (.tup [iN n,.ref cc]):=hb;have hcc:H1 cc=some (.lst (nats (Vbpcan.pinsOf st n))):=hcc;have hpl:=rm fit n;have bound:(((Vbpcan.nets st).map (ub st)).take i).flatten.length<=4800:=by
    have h1:=vv ((Vbpcan.nets st).map (ub st)) i;have h2:=qX (ub st) 50 (Vbpcan.nets st) fun x _=>by rw[HF];have:=rm fit x;lia
    lia
   refine⟨b,_,rfl,jP.of (sm _ _ hb),rfl,_,_,rfl,_,_,rfl,rfl,?_⟩;refine⟨_,rfl,.inl ⟨rfl,_,aP.of hd'⟩,_,rfl,d,_,_,rfl,rfl,hd',small (by rw[iA,List.length_cons];lia),?_⟩;have sp1:=aq.put (o:=.lst (a_ (((Vbpcan.nets st).length:Int)::(((Vbpcan.nets st).map (ub st)).take i).flatten)++[iN n])) sm hd;refine⟨_,rfl,.inl ⟨rfl,_,aP.of ah⟩,_,rfl,cc,_,rfl,oH (sp1 _ _ hcc),(by rw[du,List.length_map];lia),fun H2 p2 sm2 hp2 e2=>?_⟩;have hd2:=sm2 _ _ (ah (H:=H') (a:=d) (o:=.lst (a_ (((Vbpcan.nets st).length:Int)::(((Vbpcan.nets st).map (ub st)).take i).flatten)++[iN n])));refine⟨d,p2,_,_,rfl,rfl,hd2,e2,jy (by simp only[List.length_append,iA,List.length_cons,List.length_nil,du,List.length_map];lia),_,_,rfl,aq.put (sp1.trans sm2) hd,?_⟩;rw[ah,xa (x:=ub st n) (by rw[List.getElem?_map,hn];rfl),du,List.length_map];have en:ub st n=(n:Int)::(((Vbpcan.pinsOf st n).length:Int)::(Vbpcan.pinsOf st n).map fun(n:Nat)=>(n:Int)):=by
    unfold ub;rw[c6]
   rw[en]
   congr 1
   congr 1
   show a_ (((Vbpcan.nets st).length:Int)::(((Vbpcan.nets st).map (ub st)).take i).flatten)++a_ [(n:Int)]++a_ (((Vbpcan.pinsOf st n).length:Int)::(Vbpcan.pinsOf st n).map fun(n:Nat)=>(n:Int))=_;rw[ints_app,ints_app]
   congr 1
   simp
  ·rintro σ H' ⟨v3,v4,rfl,sm,hd'⟩
   refine⟨_,rfl,q _ _ (sm1.trans sm) (sm1.free hd) ?_⟩;rw[lv,<-List.length_map (f:=ub st) (as:=Vbpcan.nets st),List.take_length]at hd';rw[hd']
   congr 2
   show a_ _=a_ (Vbpcan.counted (ub st) (Vbpcan.nets st));rw[kI]
theorem vI(T:Txt K mg A):a6 P w K mg base fe 4 A.eG A.eI ["channel"] (ua A .density):=by
 refine T.eT.ok uU (fun vs H Q E h=>?_) (fun cdv A1 outer s H vs Q E hr h=>?_)
 ·obtain⟨c,u,l,st,rfl,_⟩:=h;rfl
 ·obtain⟨c,u,l,st,rfl,hC,q⟩:=h;refine⟨_,(ai (ay (bL tE (bE (aa (au (sS T) (hr.mono (by decide)) rfl T.uY T.iI.kp T.uX .nil aA (aa (pv 0) af)) af)) (au (dq T) (hr.mono (by decide)) rfl T.eS T.cz.kp T.eR .nil aA (aa (au (pK T) (hr.mono (by decide)) rfl T.qO T.eQ.kp T.qN .nil aA (aa (pv 0) af)) af))))),?_⟩;have hcol:=hC.fit.cols;have hcl:((Vbpcan.columns st).map (Vbpcan.over st)).length<=48:=by rw[List.length_map,Vbpcan.columns,List.length_range];exact hcol
  refine⟨_,rfl,c,u,l,st,rfl,hC,fun H1 sm1=>⟨(by show 1<=sizeLine;decide),fun d hd=>?_⟩⟩;have s1:=sm1.trans (aq.new (o:=.lst [iN (Vbpcan.density st)]) hd);refine⟨_,rfl,c,u,l,st,rfl,hC.mono s1,fun H2 p sm2 hp e2=>?_⟩;refine⟨p,_,rfl,oH e2,(by rw[du,List.length_map];lia),fun H3 p3 sm3 hp3 e3=>?_⟩;have hd3:=(sm2.trans sm3) _ _ (ah (H:=H1) (a:=d) (o:=.lst [iN (Vbpcan.density st)]));refine⟨d,p3,_,_,rfl,rfl,hd3,e3,jy (by simp only[iA,List.length_cons,List.length_nil,du,List.length_map]at hcl ⊢;lia),fun r hr0=>?_⟩;have s3:=(s1.trans sm2).trans sm3;refine q _ r (s3.trans (aq.new hr0)) (s3.free hr0) ?_;rw[ah,du,List.length_map]
  congr 2
  show _=a_ ((Vbpcan.density st:Int)::Vbpcan.counted Vbpcan.one ((Vbpcan.columns st).map (Vbpcan.over st)));rw[c6];rfl
theorem y_(T:Txt K mg A):a6 P w K mg base fe 3 A.gV A.gW ["channel"] (ua A .above):=by
 refine T.ib.ok yF (fun vs H Q E h=>?_) (fun cdv A1 outer s H vs Q E hr h=>?_)
 ·obtain⟨c,u,l,st,rfl,_⟩:=h;rfl
 ·obtain⟨c,u,l,st,rfl,hC,q⟩:=h;refine⟨_,(ai (ay (au (dq T) (hr.mono (by decide)) rfl T.eS T.cz.kp T.eR .nil aA (aa (au (eZ T) (hr.mono (by decide)) rfl T.gm T.bU.kp T.gk .nil aA (aa (pv 0) (aa (au (fo T) (hr.mono (by decide)) rfl T.h_ T.cK.kp T.h9 .nil aA (aa (pv 0) af)) af))) af)))),?_⟩;have hg:=kW hC.fit;refine⟨_,rfl,_,rfl,c,u,l,st,rfl,hC,fun H1 a sm1 ha hP=>?_⟩;refine⟨c,u,l,a,st,rfl,hC.mono sm1,hP,fun H2 b sm2 hb hG=>?_⟩;refine⟨b,_,rfl,JL hG,?_,fun H3 p sm3 hp e3=>?_⟩
  ·have:=qX Vbpcan.pairNums 2 (Vbpcan.graphOf st) fun x _=>Nat.le_refl _
   lia
  ·refine q _ p ((sm1.trans sm2).trans sm3) ((sm1.trans sm2).free hp) ?_;rw[e3,<-kI];rfl
theorem xu{s:State}{α:Type}(x:Vbpcan.Got α)(h:Vbpcan.ring (Vbpcan.graphOf s) (Vbpcan.pieces s).length≠[]):(Vbpcan.must (Vbpcan.ring (Vbpcan.graphOf s) (Vbpcan.pieces s).length).isEmpty (-8) >>= fun _=>x)=Except.error (-8):=by
 have e:(Vbpcan.ring (Vbpcan.graphOf s) (Vbpcan.pieces s).length).isEmpty=false:=by
  cases q:Vbpcan.ring (Vbpcan.graphOf s) (Vbpcan.pieces s).length with
  | nil=>exact absurd q h
  | cons a b=>rfl
 rw[e];rfl
theorem zS{s:State}{α:Type}(x:Vbpcan.Got α)(h:Vbpcan.ring (Vbpcan.graphOf s) (Vbpcan.pieces s).length=[]):(Vbpcan.must (Vbpcan.ring (Vbpcan.graphOf s) (Vbpcan.pieces s).length).isEmpty (-8) >>= fun _=>x)=x:=by
 rw[h];rfl
theorem BL(g:Graph)(n:Nat):(Vbpcan.levels g n).length=n:=by
 unfold Vbpcan.levels;cases n with
 | zero=>rfl
 | succ n=>
  show((List.range (n+1)).map _).length=n+1
  rw[List.length_map,List.length_range]
theorem xw(T:Txt K mg A):a6 P w K mg base fe 3 A.fP A.fQ ["channel"] (ua A .levels):=by
 refine T.gc.ok kE (fun vs H Q E h=>?_) (fun cdv A1 outer s H vs Q E hr h=>?_)
 ·obtain⟨c,u,l,st,rfl,_⟩:=h;rfl
 ·obtain⟨c,u,l,st,rfl,hC,q⟩:=h;refine⟨_,(ae (aI (i:=1) kE.nd rfl (Or.inl rfl) (au (fo T) (hr.mono (by decide)) rfl T.h_ T.cK.kp T.h9 .nil aA (aa (pv 0) af)))
 (ae (aI (i:=2) kE.nd rfl (Or.inl rfl) (au (o8 T) (hr.mono (by decide)) rfl T.qK T.h7.kp T.qJ .nil aA (aa (aK ax (by rfl) T.bP bh (aa (pv 1) af)) (aa (au (eZ T) (hr.mono (by decide)) rfl T.gm T.bU.kp T.gk .nil aA (aa (pv 0) (aa (pv 1) af))) af))))
 (ae (br (aH wo (pv 2) mH (aM _)) (ai (ay (bE (aa (aL (v:=.int (-8)) rfl T.tV.choose_spec ⟨_,rfl⟩) af)))) aS)
 (ai (ay (au (dq T) (hr.mono (by decide)) rfl T.eS T.cz.kp T.eR .nil aA (aa (pv 2) af))))))),?_⟩
  have fit:=hC.fit;have hg:=kW fit;have hn:=dz fit;refine⟨_,rfl,c,u,l,st,rfl,hC,fun H1 a sm1 ha hP=>?_⟩;obtain⟨vp,hvp,hEp⟩:=hP;refine⟨_,rfl,a,_,rfl,.inl (aP.of hvp),_,rfl,_,rfl,c,u,l,a,st,rfl,hC.mono sm1,⟨vp,hvp,hEp⟩,fun H2 b sm2 hb hG=>?_⟩;refine⟨b,(Vbpcan.pieces st).length,Vbpcan.graphOf st,(by rw[hEp.1];rfl),hG,a8 st,jw st,hg,hn,fun hring H3 sm3=>?_,fun hring H3 p sm3 hp e3=>?_⟩
  ·have s3:=(sm1.trans sm2).trans sm3;refine⟨_,rfl,rfl,_,rfl,rX ⟨(by show 1<=sizeLine;decide),fun r hr0=>?_⟩⟩;refine q _ r (s3.trans (aq.new hr0)) (s3.free hr0) ?_;rw[ah];have:(Vbpcan.step st .levels).2=[-8]:=by
    show(Vbpcan.ask st (Vbpcan.must (Vbpcan.ring (Vbpcan.graphOf st) (Vbpcan.pieces st).length).isEmpty (-8) >>= fun _=>_)).2=_
    rw[xu _ hring];rfl
   rw[this];rfl
  ·have s3:=(sm1.trans sm2).trans sm3;refine⟨_,rfl,rfl,_,rfl,uQ ⟨_,rfl,p,_,rfl,oH e3,(by rw[du,List.length_map,BL];lia),fun H4 r sm4 hr4 e4=>?_⟩⟩;refine q _ r (s3.trans sm4) (s3.free hr4) ?_;rw[e4,du,List.length_map];have:(Vbpcan.step st .levels).2=Vbpcan.counted Vbpcan.one (Vbpcan.levels (Vbpcan.graphOf st) (Vbpcan.pieces st).length):=by
    show(Vbpcan.ask st (Vbpcan.must (Vbpcan.ring (Vbpcan.graphOf st) (Vbpcan.pieces st).length).isEmpty (-8) >>= fun _=>_)).2=_
    rw[zS _ hring];rfl
   rw[this,c6]
theorem HG{g:Graph}{n:Nat}(S:Small g n):(Vbpcan.ring g n).length<=n:=by
 rw[vX];cases e:best g n n with
 | none=>exact Nat.zero_le _
 | some t=>
  have:=uB S e;lia
theorem BM(T:Txt K mg A):a6 P w K mg base fe 3 A.i8 A.i9 ["channel"] (ua A .ring):=by
 refine T.jl.ok qx (fun vs H Q E h=>?_) (fun cdv A1 outer s H vs Q E hr h=>?_)
 ·obtain⟨c,u,l,st,rfl,_⟩:=h;rfl
 ·obtain⟨c,u,l,st,rfl,hC,q⟩:=h;refine⟨_,(ae (aI (i:=1) qx.nd rfl (Or.inl rfl) (au (fo T) (hr.mono (by decide)) rfl T.h_ T.cK.kp T.h9 .nil aA (aa (pv 0) af)))
 (ai (ay (au (dq T) (hr.mono (by decide)) rfl T.eS T.cz.kp T.eR .nil aA (aa (au (JH T) (hr.mono (by decide)) rfl T.Mt T.oA.kp T.Ms .nil aA (aa (aK ax (by rfl) T.bP bh (aa (pv 1) af)) (aa (au (eZ T) (hr.mono (by decide)) rfl T.gm T.bU.kp T.gk .nil aA (aa (pv 0) (aa (pv 1) af))) af))) af))))),?_⟩
  have fit:=hC.fit;have hg:=kW fit;have hn:=dz fit;refine⟨_,rfl,c,u,l,st,rfl,hC,fun H1 a sm1 ha hP=>?_⟩;obtain⟨vp,hvp,hEp⟩:=hP;refine⟨_,rfl,a,_,rfl,.inl (aP.of hvp),_,rfl,_,rfl,c,u,l,a,st,rfl,hC.mono sm1,⟨vp,hvp,hEp⟩,fun H2 b sm2 hb hG=>?_⟩;refine⟨b,(Vbpcan.pieces st).length,Vbpcan.graphOf st,(by rw[hEp.1];rfl),hG,a8 st,jw st,hg,hn,fun H3 p sm3 hp e3=>?_⟩;have s3:=(sm1.trans sm2).trans sm3;have hrl:=HG (a8 st);refine⟨p,_,rfl,oH e3,(by rw[du,List.length_map];lia),fun H4 r sm4 hr4 e4=>?_⟩;refine q _ r (s3.trans sm4) (s3.free hr4) ?_;rw[e4,du,List.length_map];have:(Vbpcan.step st .ring).2=Vbpcan.counted Vbpcan.one (Vbpcan.ring (Vbpcan.graphOf st) (Vbpcan.pieces st).length):=rfl;rw[this,c6]
theorem HH(s:State)(g:Graph):(Vbpcan.leftEdge s g).length=(Vbpcan.pieces s).length:=by
 show((List.range (Vbpcan.byLeft s).length).map _).length=_
 rw[List.length_map,List.length_range,oO]
theorem BN(T:Txt K mg A):a6 P w K mg base fe 4 A.i_ A.ja ["channel"] (ua A .left):=by
 refine T.jm.ok mT (fun vs H Q E h=>?_) (fun cdv A1 outer s H vs Q E hr h=>?_)
 ·obtain⟨c,u,l,st,rfl,_⟩:=h;rfl
 ·obtain⟨c,u,l,st,rfl,hC,q⟩:=h;refine⟨_,(ae (aI (i:=1) mT.nd rfl (Or.inl rfl) (au (fo T) (hr.mono (by decide)) rfl T.h_ T.cK.kp T.h9 .nil aA (aa (pv 0) af)))
 (ae (aI (i:=2) mT.nd rfl (Or.inl rfl) (au (eZ T) (hr.mono (by decide)) rfl T.gm T.bU.kp T.gk .nil aA (aa (pv 0) (aa (pv 1) af))))
 (ae (br (aH wo (au (o8 T) (hr.mono (by decide)) rfl T.qK T.h7.kp T.qJ .nil aA (aa (aK ax (by rfl) T.bP bh (aa (pv 1) af)) (aa (pv 2) af))) mH (aM _)) (ai (ay (bE (aa (aL (v:=.int (-8)) rfl T.tV.choose_spec ⟨_,rfl⟩) af)))) aS)
 (ai (ay (au (xc T) (hr.mono (by decide)) rfl T.A3 T.mZ.kp T.A2 .nil aA (aa (au (xp T) (hr.mono (by decide)) rfl T.yK T.fY.kp T.yJ .nil aA (aa (pv 1) (aa (pv 2) af))) af))))))),?_⟩
  have fit:=hC.fit;have hg:=kW fit;have hn:=dz fit;refine⟨_,rfl,c,u,l,st,rfl,hC,fun H1 a sm1 ha hP=>?_⟩;obtain⟨vp,hvp,hEp⟩:=hP;refine⟨_,rfl,_,rfl,c,u,l,a,st,rfl,hC.mono sm1,⟨vp,hvp,hEp⟩,fun H2 b sm2 hb hG=>?_⟩;have s2:=sm1.trans sm2;have hvp2:=sm2 _ _ hvp;refine⟨_,rfl,a,_,rfl,.inl (aP.of hvp2),_,rfl,b,(Vbpcan.pieces st).length,Vbpcan.graphOf st,(by rw[hEp.1];rfl),hG,a8 st,jw st,hg,hn,fun hring H3 sm3=>?_,fun hring H3 p sm3 hp e3=>?_⟩
  ·have s3:=s2.trans sm3;refine⟨rfl,_,rfl,rX ⟨(by show 1<=sizeLine;decide),fun r hr0=>?_⟩⟩;refine q _ r (s3.trans (aq.new hr0)) (s3.free hr0) ?_;rw[ah];have:(Vbpcan.step st .left).2=[-8]:=by
    show(Vbpcan.ask st (Vbpcan.must (Vbpcan.ring (Vbpcan.graphOf st) (Vbpcan.pieces st).length).isEmpty (-8) >>= fun _=>_)).2=_
    rw[xu _ hring];rfl
   rw[this];rfl
  ·have s3:=s2.trans sm3;refine⟨rfl,_,rfl,uQ ⟨_,rfl,_,rfl,a,b,st,Vbpcan.graphOf st,rfl,bS.mono a7.mono (sm2.trans sm3) ⟨vp,hvp,hEp⟩,hG.mono bN.mono sm3,hn,hg,a8 st,hring,fun H4 r sm4 hr4 e4=>?_⟩⟩;refine⟨r,_,rfl,e4,(by rw[HH];exact hn),fun H5 r5 sm5 hr5 e5=>?_⟩;refine q _ r5 ((s3.trans sm4).trans sm5) ((s3.trans sm4).free hr5) ?_;rw[e5];have:(Vbpcan.step st .left).2=Vbpcan.rowNums (Vbpcan.leftEdge st (Vbpcan.graphOf st)):=by
    show(Vbpcan.ask st (Vbpcan.must (Vbpcan.ring (Vbpcan.graphOf st) (Vbpcan.pieces st).length).isEmpty (-8) >>= fun _=>_)).2=_
    rw[zS _ hring];rfl
   rw[this]
theorem za(T:Txt K mg A):a6 P w K mg base fe 24 A.gX A.gY ["channel"] (ua A .least):=by
 refine T.ie.ok l5 (fun vs H Q E h=>?_) (fun cdv A1 outer s H vs Q E hr h=>?_)
 ·obtain⟨c,u,l,st,rfl,_⟩:=h;rfl
 ·obtain⟨c,u,l,st,rfl,hC,q⟩:=h;refine⟨_,(ae (aI (i:=1) l5.nd rfl (Or.inl rfl) (au (fo T) (hr.mono (by decide)) rfl T.h_ T.cK.kp T.h9 .nil aA (aa (pv 0) af)))
 (ae (aI (i:=2) l5.nd rfl (Or.inl rfl) (au (eZ T) (hr.mono (by decide)) rfl T.gm T.bU.kp T.gk .nil aA (aa (pv 0) (aa (pv 1) af))))
 (ae (br (aH wo (au (o8 T) (hr.mono (by decide)) rfl T.qK T.h7.kp T.qJ .nil aA (aa (aK ax (by rfl) T.bP bh (aa (pv 1) af)) (aa (pv 2) af))) mH (aM _)) (ai (ay (bE (aa (aL (v:=.int (-8)) rfl T.tV.choose_spec ⟨_,rfl⟩) af)))) aS)
 (ae (br (aH yi (aK ax (by rfl) T.bP bh (aa (pv 1) af)) (aL (v:=.int 8) rfl T.CP.choose_spec ⟨_,rfl⟩) (aM _)) (ai (ay (bE (aa (aL (v:=.int (-9)) rfl T.u7.choose_spec ⟨_,rfl⟩) af)))) aS)
 (ai (ay (au (xc T) (hr.mono (by decide)) rfl T.A3 T.mZ.kp T.A2 .nil aA (aa (au (FL T) (hr.mono (by decide)) rfl T.G_ T.lS.kp T.G9 .nil aA (aa (aK ax (by rfl) T.bP bh (aa (pv 1) af)) (aa (au (qT T) (hr.mono (by decide)) rfl T.sL T.gp.kp T.sJ .nil aA (aa (pv 1) af)) (aa (pv 2) (aa (au (sS T) (hr.mono (by decide)) rfl T.uY T.iI.kp T.uX .nil aA (aa (pv 0) af)) af))))) af)))))))),?_⟩
  have fit:=hC.fit;have hg:=kW fit;have hn:=dz fit;refine⟨_,rfl,c,u,l,st,rfl,hC,fun H1 a sm1 ha hP=>?_⟩;obtain⟨vp,hvp,hEp⟩:=hP;refine⟨_,rfl,_,rfl,c,u,l,a,st,rfl,hC.mono sm1,⟨vp,hvp,hEp⟩,fun H2 b sm2 hb hG=>?_⟩;have s2:=sm1.trans sm2;have hvp2:=sm2 _ _ hvp;refine⟨_,rfl,a,_,rfl,.inl (aP.of hvp2),_,rfl,b,(Vbpcan.pieces st).length,Vbpcan.graphOf st,(by rw[hEp.1];rfl),hG,a8 st,jw st,hg,hn,fun hring H3 sm3=>?_,fun hring H3 p sm3 hp e3=>?_⟩
  ·have s3:=s2.trans sm3;refine⟨rfl,_,rfl,rX ⟨(by show 1<=sizeLine;decide),fun r hr0=>?_⟩⟩;refine q _ r (s3.trans (aq.new hr0)) (s3.free hr0) ?_;rw[ah];have:(Vbpcan.step st .least).2=[-8]:=by
    show(Vbpcan.ask st (Vbpcan.must (Vbpcan.ring (Vbpcan.graphOf st) (Vbpcan.pieces st).length).isEmpty (-8) >>= fun _=>_)).2=_
    rw[xu _ hring];rfl
   rw[this];rfl
  ·have s3:=s2.trans sm3;have hvp3:=sm3 _ _ hvp2;have hP3:bS a7 H3 a (Vbpcan.pieces st):=bS.mono a7.mono (sm2.trans sm3) ⟨vp,hvp,hEp⟩;refine⟨rfl,_,rfl,uQ ⟨_,rfl,a,_,rfl,.inl (aP.of hvp3),_,_,rfl,rfl,_,rfl,bF (fun h=>?_) fun h=>?_⟩⟩
   ·have h8:8<(Vbpcan.pieces st).length:=by
     have h1:(8:Int)<((vp.length:Nat):Int):=of_decide_eq_true h;rw[hEp.1]at h1;lia
    refine⟨(by show 1<=sizeLine;decide),fun r hr0=>?_⟩;refine q _ r (s3.trans (aq.new hr0)) (s3.free hr0) ?_;rw[ah];have:(Vbpcan.step st .least).2=[-9]:=by
     have e:decide ((Vbpcan.pieces st).length<=Vbpcan.SEARCH)=false:=decide_eq_false (by unfold Vbpcan.SEARCH;lia)
     show(Vbpcan.ask st (Vbpcan.must (Vbpcan.ring (Vbpcan.graphOf st) (Vbpcan.pieces st).length).isEmpty (-8) >>= fun _=>Vbpcan.must (decide ((Vbpcan.pieces st).length<=Vbpcan.SEARCH)) (-9) >>= fun _=>_)).2=_
     rw[zS _ hring,e];rfl
    rw[this];rfl
   ·have h8:(Vbpcan.pieces st).length<=8:=by
     have h1:¬(8:Int)<((vp.length:Nat):Int):=of_decide_eq_false h;rw[hEp.1]at h1;lia
    refine⟨_,rfl,a,_,rfl,.inl (aP.of hvp3),_,rfl,a,st,rfl,hP3,hn,fun H4 ap sm4 hap hAp=>?_⟩;refine⟨_,rfl,_,rfl,c,u,l,st,rfl,hC.mono (s3.trans sm4),fun H5 sm5=>?_⟩;refine⟨ap,b,st,(by rw[hEp.1];rfl),hAp.mono bN.mono sm5,hG.mono bN.mono ((sm3.trans sm4).trans sm5),h8,fit,hring,fun H6 r k row sm6 hle hrl e6=>?_⟩;have s6:=((s3.trans sm4).trans sm5).trans sm6;refine⟨r,row,rfl,e6,by lia,fun H7 r7 sm7 hr7 e7=>?_⟩;refine q _ r7 (s6.trans sm7) (s6.free hr7) ?_;rw[e7];have:(Vbpcan.step st .least).2=Vbpcan.rowNums row:=by
     have e:decide ((Vbpcan.pieces st).length<=Vbpcan.SEARCH)=true:=decide_eq_true (by unfold Vbpcan.SEARCH;lia)
     show(Vbpcan.ask st (Vbpcan.must (Vbpcan.ring (Vbpcan.graphOf st) (Vbpcan.pieces st).length).isEmpty (-8) >>= fun _=>Vbpcan.must (decide ((Vbpcan.pieces st).length<=Vbpcan.SEARCH)) (-9) >>= fun _=>match Vbpcan.least st (Vbpcan.graphOf st)with
      | some x=>Except.ok (Vbpcan.rowNums x.2)
      | none=>Except.error (-8))).2=_
     rw[zS _ hring,e,hle];rfl
    rw[this]
end
end Pc
end
section
namespace Pc
open PySem PySem.Spec PyProof.Rows L2
open Vbpcan (State Piece Graph)
def Lies(w:Vbpcan.Wire):Prop:=w.x1<=w.x2∧w.y1<=w.y2
theorem BO:∀(l:List Nat) (a:Nat),l.foldl min a<=a∧∀x,x∈l->l.foldl min a<=x
 | [],a=>⟨Nat.le_refl _,fun x h=>by cases h⟩
 | y::l,a=>by
  have:=BO l (min a y);refine⟨by simp only[List.foldl_cons];lia,fun x hx=>?_⟩;simp only[List.foldl_cons];rcases List.mem_cons.mp hx with z | z
  ·lia
  ·exact this.2 x z
theorem HI{s:State}{r:List Nat}{w:Vbpcan.Wire}(h:w∈Vbpcan.across s r):Lies w:=by
 unfold Vbpcan.across at h;obtain⟨x,hx,rfl⟩:=List.mem_map.mp h;exact⟨(sV (List.of_mem_zip hx).1).2.2.1,Nat.le_refl _⟩
theorem FN{s:State}{r:List Nat}{k:Nat}{w:Vbpcan.Wire}(h:w∈Vbpcan.uprights s r k):Lies w:=by
 rw[pY]at h;obtain⟨c,_,h⟩:=List.mem_flatMap.mp h;obtain⟨n,hn,rfl⟩:=List.mem_map.mp h;have hm:=(Ah hn).2;rw[Ai];refine⟨Nat.le_refl _,?_⟩
 show(allOf s r k c n).foldl min (k+1)<=(allOf s r k c n).foldl max 0
 obtain⟨x,hx⟩:∃x,x∈allOf s r k c n:=by
  unfold allOf;rcases hm with h | h
  ·rw[if_pos h];exact⟨0,by simp⟩
  ·rw[if_pos h];exact⟨k+1,by simp⟩
 have h1:=(BO (allOf s r k c n) (k+1)).2 x hx;have h2:=(pZ (allOf s r k c n) 0).2 x hx;lia
theorem Pd{w:Vbpcan.Wire}(h:Lies w):(w.x2:Int) - (w.x1:Int)+((w.y2:Int) - (w.y1:Int))=((Vbpcan.lengthOf w:Nat):Int):=by
 unfold Lies at h;unfold Vbpcan.lengthOf;lia
theorem ud{s:State}{r:List Nat}(h:(Vbpcan.pieces s).length<=96):(Vbpcan.across s r).length<=96:=by
 unfold Vbpcan.across;rw[List.length_map,List.length_zip];lia
theorem pf{s:State}{r:List Nat}{k:Nat}(F:Cq s):(Vbpcan.uprights s r k).length<=96:=by
 rw[pY];have:=bT (fun c=>(ed s c).map (Vbpcan.upright s r k c)) 2 (Vbpcan.columns s) fun x _=>by rw[List.length_map];exact oJ s x
 have h2:=F.cols;have h3:(Vbpcan.columns s).length=s.top.length:=List.length_range;lia
theorem BP{l:List Vbpcan.Wire}(h:l.length<=96):(l.map sR).flatten.length<=480:=by
 have:=qX sR 5 l fun x _=>Nat.le_refl _
 lia
section
variable{P:Program}{w:World}{K:W.Frag}{mg:Str->Option Value}{base:Heap}{A:iL}
def drawn(s:State)(r:List Nat):List Int:=Vbpcan.counted Vbpcan.wireNums (Vbpcan.across s r)++Vbpcan.counted Vbpcan.wireNums (Vbpcan.uprights s r (Vbpcan.tracks r))
def long(s:State)(r:List Nat):List Int:=[((((Vbpcan.across s r++Vbpcan.uprights s r (Vbpcan.tracks r)).map Vbpcan.lengthOf).sum:Nat):Int),(Vbpcan.vias s:Int)]
def Ew(A:iL)(f:State->List Nat->List Int):Sp:=fun vs H Q _=>∃(c u l a b:Addr) (s:State) (r:List Nat),vs=[.ref c,.ref a,.ref b]∧ff A.aw H c u l s∧bS a7 H a (Vbpcan.pieces s)∧H b=some (.lst (nats r))∧r.length=(Vbpcan.pieces s).length∧Jp H Q (f s r)
theorem BQ(T:Txt K mg A):a6 P w K mg base fe 4 A.jb A.jc ["channel","pieces","row"] (Ew A drawn):=by
 refine T.jn.ok AV (fun vs H Q E h=>?_) (fun cdv A1 outer s H vs Q E hr h=>?_)
 ·obtain⟨c,u,l,a,b,st,r,rfl,_⟩:=h;rfl
 ·obtain⟨c,u,l,a,b,st,r,rfl,hC,hP,hb,hlr,q⟩:=h;refine⟨_,(ai (ay (bL tE (au (dq T) (hr.mono (by decide)) rfl T.eS T.cz.kp T.eR .nil aA (aa (au (qS T) (hr.mono (by decide)) rfl T.sP T.gr.kp T.sO .nil aA (aa (pv 1) (aa (pv 2) af))) af)) (au (dq T) (hr.mono (by decide)) rfl T.eS T.cz.kp T.eR .nil aA (aa (au (oK T) (hr.mono (by decide)) rfl T.pJ T.dC.kp T.pI .nil aA (aa (pv 0) (aa (pv 1) (aa (pv 2) af)))) af))))),?_⟩;have fit:=hC.fit;have hn:=dz fit;have la:=BP (ud (r:=r) hn);have lu:=BP (pf (r:=r) (k:=Vbpcan.tracks r) fit);refine⟨_,rfl,_,rfl,a,b,st,r,rfl,hP,hb,hlr,by lia,fun H1 p1 sm1 hp1 L1=>?_⟩;refine⟨p1,_,rfl,item_tup L1,by lia,fun H2 p2 sm2 hp2 e2=>?_⟩;have s2:=sm1.trans sm2;refine⟨_,rfl,_,rfl,_,rfl,c,u,l,a,b,st,r,rfl,hC.mono s2,hP.mono a7.mono s2,s2 _ _ hb,hlr,by lia,fun H3 p3 sm3 hp3 L3=>?_⟩;refine⟨p3,_,rfl,item_tup L3,by lia,fun H4 p4 sm4 hp4 e4=>?_⟩;refine⟨p2,p4,_,_,rfl,rfl,(sm3.trans sm4) _ _ e2,e4,jy (by simp only[iA,List.length_cons,List.length_map]at la lu ⊢;lia),fun p hp=>?_⟩;have s4:=(s2.trans sm3).trans sm4;refine q _ p (s4.trans (aq.new hp)) (s4.free hp) ?_;rw[ah,ints_app,<-kI,<-kI];rfl
theorem xx(T:Txt K mg A):a6 P w K mg base fe 4 A.fR A.fS ["channel","pieces","row"] (Ew A long):=by
 refine T.gd.ok iH (fun vs H Q E h=>?_) (fun cdv A1 outer s H vs Q E hr h=>?_)
 ·obtain⟨c,u,l,a,b,st,r,rfl,_⟩:=h;rfl
 ·obtain⟨c,u,l,a,b,st,r,rfl,hC,hP,hb,hlr,q⟩:=h;refine⟨_,(ae (aI (i:=3) iH.nd rfl (Or.inl rfl) (bL tE (au (qS T) (hr.mono (by decide)) rfl T.sP T.gr.kp T.sO .nil aA (aa (pv 1) (aa (pv 2) af))) (au (oK T) (hr.mono (by decide)) rfl T.pJ T.dC.kp T.pI .nil aA (aa (pv 0) (aa (pv 1) (aa (pv 2) af))))))
 (ai (ay (bE (aa (aK (IX rfl) (by rfl) T.O1 Je (aa (fq rfl iH.nd (aX (pv 3)) (own:=[("wire",4)]) (aW (show gu ["channel","pieces","row","wires","wire"] (aj jv) _ _=true from by decide +kernel)) (fun _ _ _ _ _=>(aG (i:=4) iH.nd rfl (Or.inl rfl) (.inr rfl))) (fun _ _ _ _ _=>bX) (fun _ _ _ _ _=>(au (Fv T) (hr.mono (by decide)) rfl T.Hb T.lT.kp T.Ha .nil aA (aa (pv 4) af)))) af)) (aa (au (xj T) (hr.mono (by decide)) rfl T.yO T.f_.kp T.yN .nil aA (aa (pv 0) (aa (pv 1) af))) af)))))),?_⟩
  have fit:=hC.fit;have hn:=dz fit;have la:=ud (r:=r) hn;have lu:=pf (r:=r) (k:=Vbpcan.tracks r) fit;refine⟨_,rfl,_,rfl,a,b,st,r,rfl,hP,hb,hlr,by lia,fun H1 p1 sm1 hp1 L1=>?_⟩;refine⟨_,rfl,_,rfl,_,rfl,c,u,l,a,b,st,r,rfl,hC.mono sm1,hP.mono a7.mono sm1,sm1 _ _ hb,hlr,by lia,fun H2 p2 sm2 hp2 L2=>?_⟩;obtain⟨v1,h1,E1⟩:=L1.mono jH.mono sm2;obtain⟨v2,h2,E2⟩:=L2;have E:=E1.app E2;rw[<-List.map_append]at E;have l1:=E1.1;have l2:=E2.1;rw[List.length_map]at l1 l2;refine⟨p1,p2,_,_,rfl,rfl,h1,h2,jy (by lia),fun p hp=>?_⟩;have s3:aq H2 (upd H2 p (.lst (v1++v2))):=aq.new hp;have hpl:upd H2 p (.lst (v1++v2)) p=some (.lst (v1++v2)):=ah;refine⟨_,rfl,p,rfl,⟨_,aP.of hpl⟩,fun D hD=>?_⟩;refine bx (R:=GZ) GZ.mono (ys:=Vbpcan.across st r++Vbpcan.uprights st r (Vbpcan.tracks r)) (by rw[E.1,List.length_map]) (fun w=>some ((Vbpcan.lengthOf w:Nat):Int)) hD (by rw[List.length_append];lia) (aP.of hpl) (fun i v w H3 Yes No hv hw sm hDd yes no=>?_) fun H3 sm L=>?_
  ·obtain⟨x,hx,hR⟩:=E.get hv;rw[List.getElem?_map,hw]at hx;cases hx;have lw:Lies w:=by
    rcases List.mem_append.mp (List.mem_of_getElem? hw)with z | z
    ·exact HI z
    ·exact FN z
   refine⟨rfl,nP ⟨_,rfl,v,_,_,_,_,_,rfl,jH.mono _ _ _ _ (s3.trans sm) hR,yes _ _ _ rfl (aq.refl _) ?_⟩⟩;show V.int _=V.int _;rw[Pd lw]
  ·rw[filterMap_some]at L;have e:=G0 L;have s4:=((sm1.trans sm2).trans s3).trans sm;refine⟨D,_,rfl,aP.of e,?_⟩;refine⟨_,rfl,_,rfl,c,u,l,a,st,rfl,hC.mono s4,hP.mono a7.mono s4,hn,fun H4 sm4=>⟨(by show 2<=sizeLine;decide),fun d hd=>?_⟩⟩;refine q _ d ((s4.trans sm4).trans (aq.new hd)) ((s4.trans sm4).free hd) ?_;rw[ah];unfold long;have es:((Vbpcan.across st r++Vbpcan.uprights st r (Vbpcan.tracks r)).map fun w=>((Vbpcan.lengthOf w:Nat):Int)).sum=((((Vbpcan.across st r++Vbpcan.uprights st r (Vbpcan.tracks r)).map Vbpcan.lengthOf).sum:Nat):Int):=by
    rw[<-rS,List.map_map];rfl
   rw[es];rfl
end
end Pc
end
section
namespace Pc
open PySem PySem.Spec PyProof.Rows L2
open Vbpcan (State Piece Graph)
theorem Rt{b:Bool}(h:(!b)=true):b=false:=by
 cases b with
 | false=>rfl
 | true=>cases h
theorem Ru{b:Bool}(h:(!b)=false):b=true:=by
 cases b with
 | true=>rfl
 | false=>cases h
inductive pL:Int->List Int->Vbpcan.Call->Prop
 | check (zs:List Int):pL 11 zs (.check zs)
 | lift (zs:List Int):pL 12 zs (.lift zs)
 | draw (zs:List Int):pL 13 zs (.draw zs)
 | length (zs:List Int):pL 14 zs (.length zs)
def kf(s:State)(zs:List Int):Bool:=decide (zs.length=(Vbpcan.pieces s).length) && zs.all qR
def rowOf(zs:List Int):List Nat:=zs.map Int.toNat
theorem Ex{s:State}{zs:List Int}:kf s zs=true↔zs.length=(Vbpcan.pieces s).length∧∀z,z∈zs->1<=z∧z<=200:=by
 unfold kf qR Vbpcan.within;rw[Bool.and_eq_true,decide_eq_true_eq,List.all_eq_true];simp
theorem Ey{s:State}{zs:List Int}(h:kf s zs=false):Vbpcan.rowGot s zs=.error (-3):=by
 unfold Vbpcan.rowGot;rw[if_neg];intro z;have:kf s zs=true:=by
  unfold kf;rw[Bool.and_eq_true,decide_eq_true_eq];exact z
 rw[this]at h;cases h
theorem ue{s:State}{zs:List Int}(h:kf s zs=true):Vbpcan.rowGot s zs=.ok (rowOf zs):=by
 unfold Vbpcan.rowGot;unfold kf at h;rw[Bool.and_eq_true,decide_eq_true_eq]at h;exact if_pos h
theorem qY{s:State}{zs:List Int}(h:kf s zs=false):Vbpcan.rightGot s (Vbpcan.graphOf s) zs=.error (-3):=by
 unfold Vbpcan.rightGot;rw[Ey h];rfl
theorem HJ{s:State}{zs:List Int}(h:kf s zs=true):Vbpcan.right s (Vbpcan.graphOf s) (rowOf zs)=(Vbpcan.broken s (Vbpcan.graphOf s) (rowOf zs)).isEmpty:=by
 obtain⟨h1,h2⟩:=Ex.mp h;unfold Vbpcan.right;have e1:((rowOf zs).length == (Vbpcan.pieces s).length)=true:=by
  unfold rowOf;rw[List.length_map,beq_iff_eq];exact h1
 have e2:((rowOf zs).all fun t=>decide (1<=t))=true:=by
  rw[List.all_eq_true];intro t ht;obtain⟨z,hz,rfl⟩:=List.mem_map.mp ht;have:=h2 z hz;rw[decide_eq_true_eq];lia
 rw[e1,e2];rfl
theorem ph{s:State}{zs:List Int}(h:kf s zs=true)(hb:Vbpcan.broken s (Vbpcan.graphOf s) (rowOf zs)≠[]):Vbpcan.rightGot s (Vbpcan.graphOf s) zs=.error (-10):=by
 unfold Vbpcan.rightGot;rw[ue h]
 show(Vbpcan.must (Vbpcan.right s (Vbpcan.graphOf s) (rowOf zs)) (-10) >>= fun _=>pure (rowOf zs))=_
 rw[HJ h];cases e:Vbpcan.broken s (Vbpcan.graphOf s) (rowOf zs)with
 | nil=>exact absurd e hb
 | cons a b=>rfl
theorem nQ{s:State}{zs:List Int}(h:kf s zs=true)(hb:Vbpcan.broken s (Vbpcan.graphOf s) (rowOf zs)=[]):Vbpcan.rightGot s (Vbpcan.graphOf s) zs=.ok (rowOf zs):=by
 unfold Vbpcan.rightGot;rw[ue h]
 show(Vbpcan.must (Vbpcan.right s (Vbpcan.graphOf s) (rowOf zs)) (-10) >>= fun _=>pure (rowOf zs))=_
 rw[HJ h,hb];rfl
theorem pL.TK{k:Int}{zs:List Int}{d:Vbpcan.Call}{s:State}(a:pL k zs d)(h:kf s zs=false):(Vbpcan.step s d).2=[-3]:=by
 cases a with
 | check=>
  show(Vbpcan.ask s ((Vbpcan.rowGot s zs).map _)).2=_
  rw[Ey h];rfl
 | lift=>
  show(Vbpcan.ask s ((Vbpcan.rightGot s (Vbpcan.graphOf s) zs).map _)).2=_
  rw[qY h];rfl
 | draw=>
  show(Vbpcan.ask s ((Vbpcan.rightGot s (Vbpcan.graphOf s) zs).map _)).2=_
  rw[qY h];rfl
 | length=>
  show(Vbpcan.ask s ((Vbpcan.rightGot s (Vbpcan.graphOf s) zs).map _)).2=_
  rw[qY h];rfl
theorem pL.bad{k:Int}{zs:List Int}{d:Vbpcan.Call}{s:State}(a:pL k zs d)(h:kf s zs=true)(hb:Vbpcan.broken s (Vbpcan.graphOf s) (rowOf zs)≠[])(hk:k≠11):(Vbpcan.step s d).2=[-10]:=by
 cases a with
 | check=>exact absurd rfl hk
 | lift=>
  show(Vbpcan.ask s ((Vbpcan.rightGot s (Vbpcan.graphOf s) zs).map _)).2=_
  rw[ph h hb];rfl
 | draw=>
  show(Vbpcan.ask s ((Vbpcan.rightGot s (Vbpcan.graphOf s) zs).map _)).2=_
  rw[ph h hb];rfl
 | length=>
  show(Vbpcan.ask s ((Vbpcan.rightGot s (Vbpcan.graphOf s) zs).map _)).2=_
  rw[ph h hb];rfl
theorem JM{s:State}{zs:List Int}(h:kf s zs=true):(Vbpcan.step s (.check zs)).2=Vbpcan.counted Bu (Vbpcan.broken s (Vbpcan.graphOf s) (rowOf zs)):=by
 show(Vbpcan.ask s ((Vbpcan.rowGot s zs).map _)).2=_
 rw[ue h];rfl
theorem MT{s:State}{zs:List Int}(h:kf s zs=true)(hb:Vbpcan.broken s (Vbpcan.graphOf s) (rowOf zs)=[]):(Vbpcan.step s (.lift zs)).2=Vbpcan.rowNums (Vbpcan.lifted (Vbpcan.pieces s) (Vbpcan.graphOf s) (rowOf zs).sum (rowOf zs)):=by
 show(Vbpcan.ask s ((Vbpcan.rightGot s (Vbpcan.graphOf s) zs).map _)).2=_
 rw[nQ h hb];rfl
theorem MU{s:State}{zs:List Int}(h:kf s zs=true)(hb:Vbpcan.broken s (Vbpcan.graphOf s) (rowOf zs)=[]):(Vbpcan.step s (.draw zs)).2=drawn s (rowOf zs):=by
 show(Vbpcan.ask s ((Vbpcan.rightGot s (Vbpcan.graphOf s) zs).map _)).2=_
 rw[nQ h hb];rfl
theorem step_length{s:State}{zs:List Int}(h:kf s zs=true)(hb:Vbpcan.broken s (Vbpcan.graphOf s) (rowOf zs)=[]):(Vbpcan.step s (.length zs)).2=long s (rowOf zs):=by
 show(Vbpcan.ask s ((Vbpcan.rightGot s (Vbpcan.graphOf s) zs).map _)).2=_
 rw[nQ h hb];rfl
theorem uf{ps:List Piece}{g:Graph}:∀(k:Nat) (r:List Nat),(Vbpcan.lifted ps g k r).length=r.length
 | 0,r=>rfl
 | k+1,r=>by
  show(match Vbpcan.liftOne ps g r with
   | some q=>Vbpcan.lifted ps g k q
   | none=>r).length=_
  cases e:Vbpcan.liftOne ps g r with
  | none=>rfl
  | some q=>exact(uf k q).trans (jT e).2
section
variable{P:Program}{w:World}{K:W.Frag}{mg:Str->Option Value}{base:Heap}{A:iL}
def FO(A:iL):Sp:=fun vs H Q _=>∃(c u l b:Addr) (s:State) (k:Int) (zs:List Int) (d:Vbpcan.Call),vs=[.ref c,.int k,.ref b]∧ff A.aw H c u l s∧H b=some (.lst (a_ zs))∧zs.length<=31000∧pL k zs d∧Jp H Q (Vbpcan.step s d).2
theorem sk(T:Txt K mg A):a6 P w K mg base fe 5 A.da A.de ["channel","call","row"] (FO A):=by
 refine T.dk.ok cV (fun vs H Q E h=>?_) (fun cdv A1 outer s H vs Q E hr h=>?_)
 ·obtain⟨c,u,l,b,st,k,zs,d,rfl,_⟩:=h;rfl
 ·obtain⟨c,u,l,b,st,k,zs,d,rfl,hC,hb,hzl,ab,q⟩:=h;refine⟨_,(ae (aI (i:=3) cV.nd rfl (Or.inl rfl) (au (fo T) (hr.mono (by decide)) rfl T.h_ T.cK.kp T.h9 .nil aA (aa (pv 0) af)))
 (ae (br (p7 (jU (au (MG T) (hr.mono (by decide)) rfl T.OO T.qL.kp T.ON .nil aA (aa (pv 2) (aa (aK ax (by rfl) T.bP bh (aa (pv 3) af)) af))))) (ai (ay (bE (aa (aL (v:=.int (-3)) rfl T.yr.choose_spec ⟨_,rfl⟩) af)))) aS)
 (ae (aI (i:=4) cV.nd rfl (Or.inl rfl) (au (qT T) (hr.mono (by decide)) rfl T.sL T.gp.kp T.sJ .nil aA (aa (pv 3) af)))
 (ae (aI (i:=5) cV.nd rfl (Or.inl rfl) (au (eZ T) (hr.mono (by decide)) rfl T.gm T.bU.kp T.gk .nil aA (aa (pv 0) (aa (pv 3) af))))
 (ae (aI (i:=6) cV.nd rfl (Or.inl rfl) (au (FA T) (hr.mono (by decide)) rfl T.G8 T.lR.kp T.G7 .nil aA (aa (pv 2) (aa (pv 4) (aa (pv 5) af)))))
 (ae (br (aH bW (pv 1) (aL (v:=.int 11) rfl T.La.choose_spec ⟨_,rfl⟩) (aM _)) (ai (ay (au (dq T) (hr.mono (by decide)) rfl T.eS T.cz.kp T.eR .nil aA (aa (pv 6) af)))) aS)
 (ae (br (aH yi (aK ax (by rfl) T.bP bh (aa (pv 6) af)) aC (aM _)) (ai (ay (bE (aa (aL (v:=.int (-10)) rfl T.Hc.choose_spec ⟨_,rfl⟩) af)))) aS)
 (ae (br (aH bW (pv 1) (aL (v:=.int 12) rfl T.OW.choose_spec ⟨_,rfl⟩) (aM _)) (ai (ay (au (xc T) (hr.mono (by decide)) rfl T.A3 T.mZ.kp T.A2 .nil aA (aa (au (MR T) (hr.mono (by decide)) rfl T.OQ T.qM.kp T.OP .nil aA (aa (pv 2) (aa (pv 4) (aa (pv 5) af)))) af)))) aS)
 (ae (br (aH bW (pv 1) (aL (v:=.int 13) rfl T.OX.choose_spec ⟨_,rfl⟩) (aM _)) (ai (ay (au (BQ T) (hr.mono (by decide)) rfl T.CK T.jn.kp T.CJ .nil aA (aa (pv 0) (aa (pv 3) (aa (pv 2) af)))))) aS)
 (ai (ay (au (xx T) (hr.mono (by decide)) rfl T.yS T.gd.kp T.yR .nil aA (aa (pv 0) (aa (pv 3) (aa (pv 2) af))))))))))))))),?_⟩
  have fit:=hC.fit;have hn:=dz fit;have hg:=kW fit;refine⟨_,rfl,c,u,l,st,rfl,hC,fun H1 a sm1 ha hP=>?_⟩;obtain⟨vp,hvp,hEp⟩:=hP;refine⟨_,rfl,_,rfl,a,_,rfl,.inl (aP.of hvp),b,zs,(Vbpcan.pieces st).length,(by rw[hEp.1];rfl),aP.of (sm1 _ _ hb),hzl,fun H2 sm2=>?_⟩;refine⟨_,rfl,?_⟩;refine bF (fun h=>?_) fun h=>?_
  ·have hr:kf st zs=false:=Rt h;have s2:=sm1.trans sm2;refine⟨(by show 1<=sizeLine;decide),fun r hr0=>?_⟩;refine q _ r (s2.trans (aq.new hr0)) (s2.free hr0) ?_;rw[ah,ab.TK hr];rfl
  ·have hr:kf st zs=true:=Ru h;have s2:=sm1.trans sm2;obtain⟨hz1,hz2⟩:=Ex.mp hr;have hlr:(rowOf zs).length=(Vbpcan.pieces st).length:=by unfold rowOf;rw[List.length_map,hz1]
   have eb:a_ zs=nats (rowOf zs):=qQ fun x hx=>by have:=hz2 x hx;lia
   rw[eb]at hb;have hP2:bS a7 H2 a (Vbpcan.pieces st):=bS.mono a7.mono sm2 ⟨vp,hvp,hEp⟩;refine⟨_,rfl,a,st,rfl,hP2,hn,fun H3 ap sm3 hap hAp=>?_⟩;have s3:=s2.trans sm3;have hP3:=hP2.mono a7.mono sm3;refine⟨_,rfl,_,rfl,c,u,l,a,st,rfl,hC.mono s3,hP3,fun H4 gb sm4 hgb hG=>?_⟩;have s4:=s3.trans sm4;have hA4:=hAp.mono bN.mono sm4;have hP4:=hP3.mono a7.mono sm4;have hal:=rC (Vbpcan.pieces st);have hal':(bD (Vbpcan.pieces st)).length<=9216:=Nat.le_trans hal (Nat.mul_le_mul hn hn);refine⟨_,rfl,_,rfl,_,rfl,b,ap,gb,rowOf zs,_,_,rfl,s4 _ _ hb,hA4,hG,hal',hg,?_,?_,fun H5 fa sm5 hfa hF=>?_⟩
   ·intro e he;rw[hlr];exact nV he
   ·intro e he;rw[hlr];exact a8 st e.1 e.2 he
   have s5:=s4.trans sm5;have hF:bS jH H5 fa ((Vbpcan.broken st (Vbpcan.graphOf st) (rowOf zs)).map Bu):=by
    rw[rE];exact hF
   have hbl:(Vbpcan.broken st (Vbpcan.graphOf st) (rowOf zs)).length<=18432:=by
    rw[rE,List.length_append,List.length_map,List.length_map];have h1:(rD (Vbpcan.pieces st) (rowOf zs)).length<=_:=List.length_filter_le _ _;have h2:(mG (Vbpcan.graphOf st) (rowOf zs)).length<=_:=List.length_filter_le _ _;lia
   refine⟨_,rfl,rfl,_,rfl,bF (fun h=>?_) fun h=>?_⟩
   ·have hk:k=11:=by rw[el]at h;exact of_decide_eq_true h
    subst hk;cases ab;refine⟨_,rfl,fa,_,rfl,item_tup hF,?_,fun H6 p sm6 hp e6=>?_⟩
    ·have:=qX Bu 3 (Vbpcan.broken st (Vbpcan.graphOf st) (rowOf zs)) fun x _=>Nat.le_refl _
     lia
    ·refine q _ p (s5.trans sm6) (s5.free hp) ?_;rw[e6,<-kI,JM hr]
   ·have hk:k≠11:=by rw[el]at h;exact of_decide_eq_false h
    obtain⟨vf,hvf,hEf⟩:=hF;have lf:=hEf.1;rw[List.length_map]at lf;refine⟨_,rfl,fa,_,rfl,.inl (aP.of hvf),_,_,rfl,rfl,_,rfl,bF (fun h=>?_) fun h=>?_⟩
    ·have h1:(0:Int)<((vf.length:Nat):Int):=of_decide_eq_true h;have hne:Vbpcan.broken st (Vbpcan.graphOf st) (rowOf zs)≠[]:=fun z=>by
      rw[z]at lf;simp at lf;rw[lf]at h1;simp at h1
     refine⟨(by show 1<=sizeLine;decide),fun r hr0=>?_⟩;refine q _ r (s5.trans (aq.new hr0)) (s5.free hr0) ?_;rw[ah,ab.bad hr hne hk];rfl
    ·have h1:¬(0:Int)<((vf.length:Nat):Int):=of_decide_eq_false h;have hbr:Vbpcan.broken st (Vbpcan.graphOf st) (rowOf zs)=[]:=List.eq_nil_of_length_eq_zero (by lia);have hb5:=s5 _ _ hb;have hA5:=hA4.mono bN.mono sm5;have hG5:=hG.mono bN.mono sm5;have hP5:=hP4.mono a7.mono sm5;have hC5:=hC.mono s5;refine⟨_,rfl,rfl,_,rfl,bF (fun h=>?_) fun h=>?_⟩
     ·have hk:k=12:=by rw[el]at h;exact of_decide_eq_true h
      subst hk;cases ab;have hV:=RH hlr (fun t ht=>by
       obtain⟨z,hz,rfl⟩:=List.mem_map.mp ht;have:=hz2 z hz
       lia) hbr
      refine⟨_,rfl,_,rfl,_,rfl,b,ap,gb,rowOf zs,Vbpcan.pieces st,Vbpcan.graphOf st,rfl,hb5,hA5,hG5,hV,hn,hg,a8 st,fun p q h=>x9 h,fun H6 r sm6 hr6 e6=>?_⟩;refine⟨r,_,rfl,e6,(by rw[uf,hlr];exact hn),fun H7 r7 sm7 hr7 e7=>?_⟩;refine q _ r7 ((s5.trans sm6).trans sm7) ((s5.trans sm6).free hr7) ?_;rw[e7,MT hr hbr]
     ·have hk2:k≠12:=by rw[el]at h;exact of_decide_eq_false h
      refine⟨_,rfl,rfl,_,rfl,bF (fun h=>?_) fun h=>?_⟩
      ·have hk:k=13:=by rw[el]at h;exact of_decide_eq_true h
       subst hk;cases ab;refine⟨_,rfl,_,rfl,_,rfl,c,u,l,a,b,st,rowOf zs,rfl,hC5,hP5,hb5,hlr,fun H6 p sm6 hp e6=>?_⟩;refine q _ p (s5.trans sm6) (s5.free hp) ?_;rw[e6,MU hr hbr]
      ·have hk3:k≠13:=by rw[el]at h;exact of_decide_eq_false h
       cases ab with
       | check=>exact absurd rfl hk
       | lift=>exact absurd rfl hk2
       | draw=>exact absurd rfl hk3
       | length=>
        refine⟨_,rfl,_,rfl,_,rfl,c,u,l,a,b,st,rowOf zs,rfl,hC5,hP5,hb5,hlr,fun H6 p sm6 hp e6=>?_⟩;refine q _ p (s5.trans sm6) (s5.free hp) ?_;rw[e6,step_length hr hbr]
end
end Pc
end
section
namespace Pc
open PySem PySem.Spec PyProof.Rows L2
open Vbpcan (State Piece Graph)
theorem eqT{A B:Prop}{a b:Int}(h:a=b)(x:A):if decide (V.int a=V.int b)=true then A else B:=by
 rw[el,decide_eq_true h];exact rX x
theorem nR{A B:Prop}{a b:Int}(h:a≠b)(x:B):if decide (V.int a=V.int b)=true then A else B:=by
 rw[el,decide_eq_false h];exact uQ x
inductive pM:Int->Vbpcan.Call->Prop
 | nets:pM 3 .nets
 | pieces:pM 4 .pieces
 | density:pM 5 .density
 | above:pM 6 .above
 | levels:pM 7 .levels
 | ring:pM 8 .ring
 | left:pM 9 .left
 | least:pM 10 .least
inductive Rv:Int->Vbpcan.Call->List Int->Prop
 | rows (xs ys:List Int):xs.length<=31000->ys.length<=31000->Rv 0 (.rows xs ys) ((xs.length:Int)::(xs++((ys.length:Int)::ys)))
 | mode (k:Int):Rv 1 (.mode k) [k]
 | pin (a b c:Int):Rv 2 (.pin a b c) [a,b,c]
 | mirror:Rv 15 .mirror []
 | turn:Rv 16 .turn []
 | rename (a b:Int):Rv 17 (.rename a b) [a,b]
def NN(ns:List Int)(p:Nat)(l:List Int):Prop:=∃rest,ns.drop p=l++rest
theorem NN.cons{ns:List Int}{p:Nat}{z:Int}{l:List Int}(h:NN ns p (z::l)):ns[p]? = some z∧NN ns (p+1) l∧p+1<=ns.length:=by
 obtain⟨rest,e⟩:=h;have e1:ns[p]? = some z:=by
  have:=congrArg (fun l=>l[0]?) e;simpa using this
 refine⟨e1,⟨rest,?_⟩,(List.getElem?_eq_some_iff.mp e1).1⟩;have:ns.drop (p+1)=(ns.drop p).drop 1:=by rw[List.drop_drop]
 rw[this,e];rfl
theorem NN.row{ns:List Int}{p:Nat}{xs l:List Int}(h:NN ns p (xs++l))(hp:p<=ns.length):p+xs.length<=ns.length∧(ns.drop p).take xs.length=xs∧NN ns (p+xs.length) l:=by
 obtain⟨rest,e⟩:=h;rw[List.append_assoc]at e;refine⟨?_,?_,⟨rest,?_⟩⟩
 ·have:=congrArg List.length e;rw[List.length_drop,List.length_append]at this;lia
 ·rw[e,List.take_left]
 ·rw[<-List.drop_drop,e,List.drop_left]
section
variable{P:Program}{w:World}{K:W.Frag}{mg:Str->Option Value}{base:Heap}{A:iL}
def HK(A:iL):Sp:=fun vs H Q _=>∃(c u l:Addr) (s:State) (k:Int) (d:Vbpcan.Call),vs=[.ref c,.int k]∧ff A.aw H c u l s∧pM k d∧Jp H Q (Vbpcan.step s d).2
theorem uh(T:Txt K mg A):a6 P w K mg base fe 25 A.dH A.dI ["channel","call"] (HK A):=by
 refine T.dU.ok tM (fun vs H Q E h=>?_) (fun cdv A1 outer s H vs Q E hr h=>?_)
 ·obtain⟨c,u,l,st,k,d,rfl,_⟩:=h;rfl
 ·obtain⟨c,u,l,st,k,d,rfl,hC,kd,q⟩:=h;refine⟨_,(ae (br (aH bW (pv 1) (aL (v:=.int 3) rfl T.So.choose_spec ⟨_,rfl⟩) (aM _)) (ai (ay (au (BK T) (hr.mono (by decide)) rfl T.CD T.jk.kp T.CC .nil aA (aa (pv 0) af)))) aS)
 (ae (br (aH bW (pv 1) (aL (v:=.int 4) rfl T.OU.choose_spec ⟨_,rfl⟩) (aM _)) (ai (ay (au (dq T) (hr.mono (by decide)) rfl T.eS T.cz.kp T.eR .nil aA (aa (au (fo T) (hr.mono (by decide)) rfl T.h_ T.cK.kp T.h9 .nil aA (aa (pv 0) af)) af)))) aS)
 (ae (br (aH bW (pv 1) (aL (v:=.int 5) rfl T.MA.choose_spec ⟨_,rfl⟩) (aM _)) (ai (ay (au (vI T) (hr.mono (by decide)) rfl T.wR T.eT.kp T.wQ .nil aA (aa (pv 0) af)))) aS)
 (ae (br (aH bW (pv 1) (aL (v:=.int 6) rfl T.QS.choose_spec ⟨_,rfl⟩) (aM _)) (ai (ay (au (y_ T) (hr.mono (by decide)) rfl T.A5 T.ib.kp T.A4 .nil aA (aa (pv 0) af)))) aS)
 (ae (br (aH bW (pv 1) (aL (v:=.int 7) rfl T.OV.choose_spec ⟨_,rfl⟩) (aM _)) (ai (ay (au (xw T) (hr.mono (by decide)) rfl T.yQ T.gc.kp T.yP .nil aA (aa (pv 0) af)))) aS)
 (ae (br (aH bW (pv 1) (aL (v:=.int 8) rfl T.Sq.choose_spec ⟨_,rfl⟩) (aM _)) (ai (ay (au (BM T) (hr.mono (by decide)) rfl T.CG T.jl.kp T.CF .nil aA (aa (pv 0) af)))) aS)
 (ae (br (aH bW (pv 1) (aL (v:=.int 9) rfl T.Sr.choose_spec ⟨_,rfl⟩) (aM _)) (ai (ay (au (BN T) (hr.mono (by decide)) rfl T.CI T.jm.kp T.CH .nil aA (aa (pv 0) af)))) aS)
 (ae (br (aH bW (pv 1) (aL (v:=.int 10) rfl T.QT.choose_spec ⟨_,rfl⟩) (aM _)) (ai (ay (au (za T) (hr.mono (by decide)) rfl T.A7 T.ie.kp T.A6 .nil aA (aa (pv 0) af)))) aS)
 (ai N7))))))))),?_⟩
  cases kd with
  | nets=>
   exact⟨_,rfl,rfl,_,rfl,eqT rfl ⟨_,rfl,c,u,l,st,rfl,hC,q⟩⟩
  | pieces=>
   refine⟨_,rfl,rfl,_,rfl,nR (by decide) ?_⟩;refine⟨_,rfl,rfl,_,rfl,eqT rfl ⟨_,rfl,c,u,l,st,rfl,hC,fun H1 a sm1 ha hP=>⟨a,_,rfl,HE hP,?_,fun H2 p sm2 hp e2=>q _ p (sm1.trans sm2) (sm1.free hp) ?_⟩⟩⟩
   ·have:=qX JK 3 (Vbpcan.pieces st) fun x _=>Nat.le_refl _
    have:=dz hC.fit;lia
   ·rw[e2,<-kI];rfl
  | density=>
   refine⟨_,rfl,rfl,_,rfl,nR (by decide) ?_⟩;refine⟨_,rfl,rfl,_,rfl,nR (by decide) ?_⟩;exact⟨_,rfl,rfl,_,rfl,eqT rfl ⟨_,rfl,c,u,l,st,rfl,hC,q⟩⟩
  | above=>
   refine⟨_,rfl,rfl,_,rfl,nR (by decide) ?_⟩;refine⟨_,rfl,rfl,_,rfl,nR (by decide) ?_⟩;refine⟨_,rfl,rfl,_,rfl,nR (by decide) ?_⟩;exact⟨_,rfl,rfl,_,rfl,eqT rfl ⟨_,rfl,c,u,l,st,rfl,hC,q⟩⟩
  | levels=>
   refine⟨_,rfl,rfl,_,rfl,nR (by decide) ?_⟩;refine⟨_,rfl,rfl,_,rfl,nR (by decide) ?_⟩;refine⟨_,rfl,rfl,_,rfl,nR (by decide) ?_⟩;refine⟨_,rfl,rfl,_,rfl,nR (by decide) ?_⟩;exact⟨_,rfl,rfl,_,rfl,eqT rfl ⟨_,rfl,c,u,l,st,rfl,hC,q⟩⟩
  | ring=>
   refine⟨_,rfl,rfl,_,rfl,nR (by decide) ?_⟩;refine⟨_,rfl,rfl,_,rfl,nR (by decide) ?_⟩;refine⟨_,rfl,rfl,_,rfl,nR (by decide) ?_⟩;refine⟨_,rfl,rfl,_,rfl,nR (by decide) ?_⟩;refine⟨_,rfl,rfl,_,rfl,nR (by decide) ?_⟩;exact⟨_,rfl,rfl,_,rfl,eqT rfl ⟨_,rfl,c,u,l,st,rfl,hC,q⟩⟩
  | left=>
   refine⟨_,rfl,rfl,_,rfl,nR (by decide) ?_⟩;refine⟨_,rfl,rfl,_,rfl,nR (by decide) ?_⟩;refine⟨_,rfl,rfl,_,rfl,nR (by decide) ?_⟩;refine⟨_,rfl,rfl,_,rfl,nR (by decide) ?_⟩;refine⟨_,rfl,rfl,_,rfl,nR (by decide) ?_⟩;refine⟨_,rfl,rfl,_,rfl,nR (by decide) ?_⟩;exact⟨_,rfl,rfl,_,rfl,eqT rfl ⟨_,rfl,c,u,l,st,rfl,hC,q⟩⟩
  | least=>
   refine⟨_,rfl,rfl,_,rfl,nR (by decide) ?_⟩;refine⟨_,rfl,rfl,_,rfl,nR (by decide) ?_⟩;refine⟨_,rfl,rfl,_,rfl,nR (by decide) ?_⟩;refine⟨_,rfl,rfl,_,rfl,nR (by decide) ?_⟩;refine⟨_,rfl,rfl,_,rfl,nR (by decide) ?_⟩;refine⟨_,rfl,rfl,_,rfl,nR (by decide) ?_⟩;refine⟨_,rfl,rfl,_,rfl,nR (by decide) ?_⟩;exact⟨_,rfl,rfl,_,rfl,eqT rfl ⟨_,rfl,c,u,l,st,rfl,hC,q⟩⟩
def Rw(H H':Hp)(c u l r:Addr):Prop:=∀b o,H b=some o->b≠c->b≠u->b≠l->b≠r->H' b=some o
structure Apart(H:Hp)(c u l r:Addr):Prop where
 cr:c≠r
 ur:u≠r
 lr:l≠r
theorem BR{C D:Addr}{H:Hp}{c u l r a:Addr}{s:State}{ns:List Int}{p:Nat}(h:ff C H c u l s)(g:Read K D H r a ns p):Apart H c u l r:=by
 obtain⟨dx,h1⟩:=h.obj;obtain⟨dy,h2⟩:=g.obj;exact⟨cj h1 h2 (by intro z;injection z with _ _ z;unfold UT SH at z;simp at z),cj h.up h2 (by intro z;cases z),cj h.lo h2 (by intro z;cases z)⟩
theorem ff.Ez{C D:Addr}{H H1:Hp}{c u l r a:Addr}{s:State}{ns:List Int}{p:Nat}(h:ff C H c u l s)(g:Read K D H r a ns p)(k:oG H H1 r):ff C H1 c u l s:=by
 have ap:=BR h g;obtain⟨dx,h1⟩:=h.obj;exact⟨⟨dx,k _ _ h1 ap.cr⟩,k _ _ h.up ap.ur,k _ _ h.lo ap.lr,h.ne,h.fit⟩
theorem Read.TL{C D:Addr}{H H1:Hp}{c u l r a:Addr}{s:State}{ns:List Int}{p:Nat}(g:Read K D H r a ns p)(h:ff C H c u l s)(k:Rp H H1 c u l):Read K D H1 r a ns p:=by
 have ap:=BR h g;obtain⟨dx,h1⟩:=h.obj;obtain⟨dy,h2⟩:=g.obj;refine⟨⟨dy,k _ _ h2 (Ne.symm ap.cr) (Ne.symm ap.ur) (Ne.symm ap.lr)⟩,g.nums.keep fun o ho=>k _ _ ho ?_ ?_ ?_⟩
 ·exact cj ho h1 (by intro z;cases z)
 ·exact cj ho h.up (by intro z;cases z)
 ·exact cj ho h.lo (by intro z;cases z)
theorem oG.trans{H1 H2 H3:Hp}{r:Addr}(h:oG H1 H2 r)(k:oG H2 H3 r):oG H1 H3 r:=fun b o hb n=>k _ _ (h _ _ hb n) n
theorem oG.refl{H:Hp}{r:Addr}:oG H H r:=fun b o hb _=>hb
def Lg(K:W.Frag)(A:iL)(H:Hp)(c u l r a:Addr)(ns:List Int)(p:Nat)(res:State×List Int)(Q:VK):Prop:=
 ∀(H':Hp) (u' l':Addr) (z:Int),res.2=[z]->ff A.aw H' c u' l' res.1->Read K A.bf H' r a ns p->Rw H H' c u l r->Lc H u l u'->Lc H u l l'->Q (.int z) H'
theorem rV{H H1:Hp}{c u l r a:Addr}{s:State}{ns:List Int}{p:Nat}{res:State×List Int}{Q:VK}(q:Lg K A H c u l r a ns p res Q)(k1:oG H H1 r)(hC:ff A.aw H1 c u l s)(hR:Read K A.bf H1 r a ns p):ve A.aw H1 Q c u l res:=by
 intro H2 u' l' z ez hC2 k3 iu il;obtain⟨dy,h2⟩:=hR.obj;have back:∀x,Lc H1 u l x->Lc H u l x:=fun x hx=>by
  rcases hx with h | h | h
  ·exact .inl h
  ·exact .inr (.inl h)
  ·refine .inr (.inr ?_);cases e:H x with
   | none=>rfl
   | some o=>
    by_cases hxr:x=r
    ·rw[hxr,h2]at h;cases h
    ·rw[k1 _ _ e hxr]at h;cases h
 exact q H2 u' l' z ez hC2 (hR.TL hC k3) (fun b o hb n1 n2 n3 n4=>k3 _ _ (k1 _ _ hb n4) n1 n2 n3) (back _ iu) (back _ il)
def MV(K:W.Frag)(A:iL):Sp:=fun vs H Q _=>∃(c u l r a:Addr) (s:State) (ns:List Int) (p:Nat) (k:Int) (d:Vbpcan.Call) (args:List Int),vs=[.ref c,.int k,.ref r]∧ff A.aw H c u l s∧Read K A.bf H r a ns p∧Rv k d args∧NN ns p args∧Lg K A H c u l r a ns (p+args.length) (Vbpcan.step s d) Q
theorem xy(T:Txt K mg A):a6 P w K mg base fe 5 A.fT A.fU ["channel","call","reader"] (MV K A):=by
 refine T.gf.ok bQ (fun vs H Q E h=>?_) (fun cdv A1 outer s H vs Q E hr h=>?_)
 ·obtain⟨c,u,l,r,a,st,ns,p,k,d,args,rfl,_⟩:=h;rfl
 ·obtain⟨c,u,l,r,a,st,ns,p,k,d,args,rfl,hC,hR,kd,hH,q⟩:=h;refine⟨_,(ae (br (aH bW (pv 1) (aL (v:=.int 0) rfl T.OS.choose_spec ⟨_,rfl⟩) (aM _)) (ae (aI (i:=3) bQ.nd rfl (Or.inl rfl) (dF (pv 2) T.bw T.jF (jG T) (hr.mono (by decide)) T.j_ .nil aA))
 (ae (aI (i:=4) bQ.nd rfl (Or.inl rfl) (dF (pv 2) T.bw T.jF (jG T) (hr.mono (by decide)) T.j_ .nil aA))
 (ai (ay (iD (pv 0) T.aF T.r8 (sf T) (hr.mono (by decide)) T.tR .nil aA (aa (pv 3) (aa (pv 4) af))))))) aS)
 (ae (br (aH bW (pv 1) (aL (v:=.int 1) rfl T.OT.choose_spec ⟨_,rfl⟩) (aM _)) (ai (ay (iD (pv 0) T.aF T.r9 (si T) (hr.mono (by decide)) T.tS .nil aA (aa (dF (pv 2) T.bw T.bj (bo T) (hr.mono (by decide)) T.bB .nil aA) af)))) aS)
 (ae (br (aH bW (pv 1) (aL (v:=.int 2) rfl T.Rn.choose_spec ⟨_,rfl⟩) (aM _)) (ae (aI (i:=5) bQ.nd rfl (Or.inl rfl) (dF (pv 2) T.bw T.bj (bo T) (hr.mono (by decide)) T.bB .nil aA))
 (ae (aI (i:=6) bQ.nd rfl (Or.inl rfl) (dF (pv 2) T.bw T.bj (bo T) (hr.mono (by decide)) T.bB .nil aA))
 (ae (aI (i:=7) bQ.nd rfl (Or.inl rfl) (dF (pv 2) T.bw T.bj (bo T) (hr.mono (by decide)) T.bB .nil aA))
 (ai (ay (iD (pv 0) T.aF T.tT (t5 T) (hr.mono (by decide)) T.u1 .nil aA (aa (pv 5) (aa (pv 6) (aa (pv 7) af))))))))) aS)
 (ae (br (aH bW (pv 1) (aL (v:=.int 15) rfl T.Hg.choose_spec ⟨_,rfl⟩) (aM _)) (ai (ay (dF (pv 0) T.aF T.u4 (vj T) (hr.mono (by decide)) T.wU .nil aA))) aS)
 (ae (br (aH bW (pv 1) (aL (v:=.int 16) rfl T.OZ.choose_spec ⟨_,rfl⟩) (aM _)) (ai (ay (dF (pv 0) T.aF T.yV (y0 T) (hr.mono (by decide)) T.A9 .nil aA))) aS)
 (ae (aI (i:=7) bQ.nd rfl (Or.inl rfl) (dF (pv 2) T.bw T.bj (bo T) (hr.mono (by decide)) T.bB .nil aA))
 (ae (aI (i:=8) bQ.nd rfl (Or.inl rfl) (dF (pv 2) T.bw T.bj (bo T) (hr.mono (by decide)) T.bB .nil aA))
 (ai (ay (iD (pv 0) T.aF T.u5 (vn T) (hr.mono (by decide)) T.wV .nil aA (aa (pv 7) (aa (pv 8) af)))))))))))),?_⟩
  cases kd with
  | rows xs ys lx ly=>
   obtain⟨g1,h1,b1⟩:=hH.cons;obtain⟨b2,e2,h2⟩:=h1.row b1;obtain⟨g3,h3,b3⟩:=h2.cons;have h3':NN ns (p+1+xs.length+1) (ys++[]):=by rw[List.append_nil];exact h3
   obtain⟨b4,e4,_⟩:=h3'.row b3;have eL:p+1+xs.length+1+ys.length=p+((xs.length:Int)::(xs++((ys.length:Int)::ys))).length:=by
    simp only[List.length_cons,List.length_append];lia
   rw[<-eL]at q;obtain⟨dy,hr0⟩:=hR.obj;refine⟨_,rfl,rfl,_,rfl,eqT rfl ⟨_,rfl,r,dy,_,rfl,hr0,rfl,r,a,ns,p,xs.length,rfl,hR,g1,b2,fun H1 q1 hR1 k1 n1 e1=>?_⟩⟩;rw[e2]at e1;obtain⟨dy1,hr1⟩:=hR1.obj;have q1r:q1≠r:=(ao hr0 n1).symm;refine⟨_,rfl,r,dy1,_,rfl,hr1,rfl,r,a,ns,_,ys.length,rfl,hR1,g3,b4,fun H2 q2 hR2 k2 n2 e3=>?_⟩;rw[e4]at e3;have k12:=k1.trans k2;have hC2:=hC.Ez hR k12;obtain⟨dx,hc2⟩:=hC2.obj;exact⟨_,rfl,c,dx,_,rfl,hc2,rfl,_,rfl,_,rfl,c,u,l,q1,q2,st,xs,ys,rfl,hC2,k2 _ _ e1 q1r,e3,lx,ly,rV q k12 hC2 hR2⟩
  | mode k=>
   obtain⟨g1,h1,b1⟩:=hH.cons;obtain⟨dx,hc⟩:=hC.obj;obtain⟨dy,hr0⟩:=hR.obj;refine⟨_,rfl,rfl,_,rfl,nR (by decide) ⟨_,rfl,rfl,_,rfl,eqT rfl ⟨_,rfl,c,dx,_,rfl,hc,rfl,_,rfl,r,dy,_,rfl,hr0,rfl,r,a,ns,p,k,rfl,hR,g1,fun H1 hR1 k1=>?_⟩⟩⟩;have hC1:=hC.Ez hR k1;exact⟨c,u,l,st,k,rfl,hC1,rV q k1 hC1 hR1⟩
  | pin x y z=>
   obtain⟨g1,h1,b1⟩:=hH.cons;obtain⟨g2,h2,b2⟩:=h1.cons;obtain⟨g3,h3,b3⟩:=h2.cons;obtain⟨dy,hr0⟩:=hR.obj;refine⟨_,rfl,rfl,_,rfl,nR (by decide) ⟨_,rfl,rfl,_,rfl,nR (by decide) ⟨_,rfl,rfl,_,rfl,eqT rfl ⟨_,rfl,r,dy,_,rfl,hr0,rfl,r,a,ns,p,x,rfl,hR,g1,fun H1 hR1 k1=>?_⟩⟩⟩⟩;obtain⟨dy1,hr1⟩:=hR1.obj;refine⟨_,rfl,r,dy1,_,rfl,hr1,rfl,r,a,ns,_,y,rfl,hR1,g2,fun H2 hR2 k2=>?_⟩;obtain⟨dy2,hr2⟩:=hR2.obj;refine⟨_,rfl,r,dy2,_,rfl,hr2,rfl,r,a,ns,_,z,rfl,hR2,g3,fun H3 hR3 k3=>?_⟩;have k13:=(k1.trans k2).trans k3;have hC3:=hC.Ez hR k13;obtain⟨dx,hc3⟩:=hC3.obj;exact⟨_,rfl,c,dx,_,rfl,hc3,rfl,_,rfl,_,rfl,_,rfl,c,u,l,st,x,y,z,rfl,hC3,rV q k13 hC3 hR3⟩
  | mirror=>
   obtain⟨dx,hc⟩:=hC.obj;exact⟨_,rfl,rfl,_,rfl,nR (by decide) ⟨_,rfl,rfl,_,rfl,nR (by decide) ⟨_,rfl,rfl,_,rfl,nR (by decide) ⟨_,rfl,rfl,_,rfl,eqT rfl ⟨_,rfl,c,dx,_,rfl,hc,rfl,c,u,l,st,rfl,hC,rV q oG.refl hC hR⟩⟩⟩⟩⟩
  | turn=>
   obtain⟨dx,hc⟩:=hC.obj;exact⟨_,rfl,rfl,_,rfl,nR (by decide) ⟨_,rfl,rfl,_,rfl,nR (by decide) ⟨_,rfl,rfl,_,rfl,nR (by decide) ⟨_,rfl,rfl,_,rfl,nR (by decide) ⟨_,rfl,rfl,_,rfl,eqT rfl ⟨_,rfl,c,dx,_,rfl,hc,rfl,c,u,l,st,rfl,hC,rV q oG.refl hC hR⟩⟩⟩⟩⟩⟩
  | rename x y=>
   obtain⟨g1,h1,b1⟩:=hH.cons;obtain⟨g2,h2,b2⟩:=h1.cons;obtain⟨dy,hr0⟩:=hR.obj;refine⟨_,rfl,rfl,_,rfl,nR (by decide) ⟨_,rfl,rfl,_,rfl,nR (by decide) ⟨_,rfl,rfl,_,rfl,nR (by decide) ⟨_,rfl,rfl,_,rfl,nR (by decide) ⟨_,rfl,rfl,_,rfl,nR (by decide) ⟨_,rfl,r,dy,_,rfl,hr0,rfl,r,a,ns,p,x,rfl,hR,g1,fun H1 hR1 k1=>?_⟩⟩⟩⟩⟩⟩;obtain⟨dy1,hr1⟩:=hR1.obj;refine⟨_,rfl,r,dy1,_,rfl,hr1,rfl,r,a,ns,_,y,rfl,hR1,g2,fun H2 hR2 k2=>?_⟩;have k12:=k1.trans k2;have hC2:=hC.Ez hR k12;obtain⟨dx,hc2⟩:=hC2.obj;exact⟨_,rfl,c,dx,_,rfl,hc2,rfl,_,rfl,_,rfl,c,u,l,st,x,y,rfl,hC2,rV q k12 hC2 hR2⟩
end
end Pc
end
section
namespace Pc
open PySem PySem.Spec PyProof.Rows L2
open Vbpcan (State Piece Graph)
theorem U_{A B:Prop}{b:Bool}(h:b=true)(x:A):if b=true then A else B:=by
 rw[if_pos h];exact x
theorem UZ{A B:Prop}{b:Bool}(h:b=false)(x:B):if b=true then A else B:=by
 rw[h];exact uQ x
def JN(n:Nat):Nat:=((List.range n).map fun p=>96 - (p+1)).sum
theorem MW(n:Nat):JN (n+1)=JN n+(96 - (n+1)):=by
 unfold JN;rw[List.range_succ,List.map_append,List.sum_append];simp
theorem Lh:∀(j n:Nat),JN n<=JN (n+j)
 | 0,n=>Nat.le_refl _
 | j+1,n=>by
  have:=Lh j n;have e:=MW (n+j);rw[<-Nat.add_assoc,e];lia
theorem HL{ps:List Piece}(h:ps.length<=96):(bD ps).length<=4560:=by
 unfold bD;refine Nat.le_trans (pW _ (fun p=>96 - (p+1)) _ fun p hp=>?_) ?_
 ·rw[List.length_map];refine Nat.le_trans (List.length_filter_le _ _) ?_;rw[List.length_range'];lia
 ·have h1:=Lh (96 - ps.length) ps.length;have e:ps.length+(96 - ps.length)=96:=by lia
  rw[e]at h1;have h2:JN 96=4560:=by decide +kernel
  unfold JN at h1 h2;lia
theorem qZ(r:List Nat):(Vbpcan.rowNums r).length=r.length+2:=by
 unfold Vbpcan.rowNums;rw[c6,List.length_cons,List.length_cons,List.length_map]
theorem BS{ps:List Piece}{g:Graph}{k:Nat}:∀(m:Nat) (r q:List Nat),Vbpcan.search ps g k m r=some q->q.length=r.length+m
 | 0,r,q,h=>by
  have h:some r=some q:=h;cases h;rfl
 | m+1,r,q,h=>by
  have h:((List.range k).findSome? fun t=>if Vbpcan.goes ps g r (t+1)=true then Vbpcan.search ps g k m (r++[t+1])else none)=some q:=h;obtain⟨t,_,ht⟩:=List.exists_of_findSome?_eq_some h
  split at ht
  ·have:=BS m _ _ ht;rw[List.length_append]at this;simp at this;lia
  ·cases ht
theorem MX{s:State}{g:Graph}{k:Nat}{r:List Nat}(h:Vbpcan.least s g=some (k,r)):r.length=(Vbpcan.pieces s).length:=by
 unfold Vbpcan.least at h;obtain⟨t,_,ht⟩:=List.exists_of_findSome?_eq_some h;obtain⟨q,hq,e⟩:=Option.map_eq_some_iff.mp ht;cases e;have:=BS _ _ _ hq;simpa using this
theorem jO{α:Type}(f:α->List Int)(k:Nat)(l:List α)(h:∀x,x∈l->(f x).length<=k):(Vbpcan.counted f l).length<=l.length * k+1:=by
 unfold Vbpcan.counted;rw[List.length_cons];have:=bT f k l h;lia
theorem pj{s:State}{r:Vbpcan.Got (List Int)}{n:Nat}(h1:1<=n)(h:∀a,r=.ok a->a.length<=n):(Vbpcan.ask s r).2.length<=n:=by
 cases r with
 | ok a=>exact h a rfl
 | error e=>exact h1
theorem pq{s:State}{r:Vbpcan.Got State}{n:Nat}(h1:1<=n):(Vbpcan.change s r).2.length<=n:=by
 cases r with
 | ok a=>exact h1
 | error e=>exact h1
theorem vJ{α:Type}{b:Bool}{e:Int}{x:Vbpcan.Got α}{a:α}(h:(Vbpcan.must b e >>= fun _=>x)=.ok a):x=.ok a:=by
 cases b with
 | true=>exact h
 | false=>cases h
theorem FP{α β:Type}{x:Vbpcan.Got α}{f:α->β}{b:β}(h:x.map f=.ok b):∃a,x=.ok a∧f a=b:=by
 cases x with
 | ok a=>exact⟨a,rfl,by injection h⟩
 | error e=>cases h
theorem JO{s:State}{l:List Int}{r:List Nat}(h:Vbpcan.rowGot s l=.ok r):r.length=(Vbpcan.pieces s).length:=by
 unfold Vbpcan.rowGot at h
 split at h
 ·rename_i z;injection h with h
  rw[<-h,List.length_map];exact z.1
 ·cases h
theorem FQ{s:State}{g:Graph}{l:List Int}{r:List Nat}(h:Vbpcan.rightGot s g l=.ok r):r.length=(Vbpcan.pieces s).length:=by
 unfold Vbpcan.rightGot at h;cases e:Vbpcan.rowGot s l with
 | error z=>rw[e]at h;cases h
 | ok q=>
  rw[e]at h;have h:(Vbpcan.must (Vbpcan.right s g q) (-10) >>= fun _=>Except.ok q)=Except.ok r:=h;have:=vJ h;injection this with this
  rw[<-this];exact JO e
theorem Q0{s:State}(F:Cq s)(d:Vbpcan.Call):(Vbpcan.step s d).2.length<=41329:=by
 have hn:=dz F;have hg:=kW F;have hcl:(Vbpcan.columns s).length<=48:=by rw[Vbpcan.columns,List.length_range];exact F.cols
 cases d with
 | rows a b=>exact pq (by decide)
 | mode k=>exact pq (by decide)
 | pin a b c=>exact pq (by decide)
 | rename a b=>exact pq (by decide)
 | mirror=>exact(by decide:1<=41329)
 | turn=>exact(by decide:1<=41329)
 | nets=>
  have h:=jO (ub s) 50 (Vbpcan.nets s) fun x _=>by rw[HF];have:=rm F x;lia
  have hnl:=EG F;exact Nat.le_trans h (by lia)
 | pieces=>exact Nat.le_trans (jO JK 3 (Vbpcan.pieces s) fun x _=>Nat.le_refl _) (by lia)
 | density=>
  show((Vbpcan.density s:Int)::Vbpcan.counted Vbpcan.one ((Vbpcan.columns s).map (Vbpcan.over s))).length<=_
  rw[c6,List.length_cons,List.length_cons,List.length_map,List.length_map];lia
 | above=>exact Nat.le_trans (jO Vbpcan.pairNums 2 (Vbpcan.graphOf s) fun x _=>Nat.le_refl _) (by lia)
 | levels=>
  refine pj (by decide) fun a h=>?_
  have h:=vJ h;injection h with h
  rw[<-h,c6,List.length_cons,List.length_map,BL];lia
 | ring=>
  have:=HG (a8 s)
  show(Vbpcan.counted Vbpcan.one (Vbpcan.ring (Vbpcan.graphOf s) (Vbpcan.pieces s).length)).length<=_
  rw[c6,List.length_cons,List.length_map];lia
 | left=>
  refine pj (by decide) fun a h=>?_
  have h:=vJ h;injection h with h
  rw[<-h,qZ,HH];lia
 | least=>
  refine pj (by decide) fun a h=>?_
  have h:=vJ (vJ h);cases e:Vbpcan.least s (Vbpcan.graphOf s)with
  | none=>rw[e]at h;cases h
  | some x=>
   rw[e]at h;injection h with h
   rw[<-h,qZ,MX (k:=x.1) (r:=x.2) e];lia
 | check l=>
  refine pj (by decide) fun a h=>?_
  obtain⟨r,_,rfl⟩:=FP h;refine Nat.le_trans (jO Bu 3 (Vbpcan.broken s (Vbpcan.graphOf s) r) fun x _=>Nat.le_refl _) ?_;have hbl:(Vbpcan.broken s (Vbpcan.graphOf s) r).length<=13776:=by
   rw[rE,List.length_append,List.length_map,List.length_map];have h1:(rD (Vbpcan.pieces s) r).length<=_:=List.length_filter_le _ _;have h2:(mG (Vbpcan.graphOf s) r).length<=_:=List.length_filter_le _ _;have h3:=HL hn;lia
  lia
 | lift l=>
  refine pj (by decide) fun a h=>?_
  obtain⟨r,hr,rfl⟩:=FP h;rw[qZ,uf,FQ hr];lia
 | draw l=>
  refine pj (by decide) fun a h=>?_
  obtain⟨r,hr,rfl⟩:=FP h;rw[List.length_append];have h1:=jO Vbpcan.wireNums 5 (Vbpcan.across s r) fun x _=>Nat.le_refl _
  have h2:=jO Vbpcan.wireNums 5 (Vbpcan.uprights s r (Vbpcan.tracks r)) fun x _=>Nat.le_refl _
  have h3:=ud (r:=r) hn;have h4:=pf (r:=r) (k:=Vbpcan.tracks r) F;lia
 | length l=>
  refine pj (by decide) fun a h=>?_
  obtain⟨r,hr,rfl⟩:=FP h;exact(by decide:2<=41329)
theorem pM.l9{k:Int}{d:Vbpcan.Call}(h:pM k d)(s:State):(Vbpcan.step s d).1=s:=by
 cases h <;> rfl
theorem pL.l9{k:Int}{zs:List Int}{d:Vbpcan.Call}(h:pL k zs d)(s:State):(Vbpcan.step s d).1=s:=by
 cases h <;> rfl
inductive Way(k:Int)(args:List Int)(d:Vbpcan.Call):Prop
 | change:Rv k d args->Way k args d
 | about (zs:List Int):pL k zs d->zs.length<=31000->args=(zs.length:Int)::zs->Way k args d
 | ask:pM k d->args=[]->Way k args d
theorem Kind.way{c:gF}{d:Vbpcan.Call}(h:Kind c d):∃k args,PyFlat.put1 c=k::args∧Way k args d:=by
 cases h with
 | rows a b h1 h2=>
  have h1:=h1.2;have h2:=h2.2;refine⟨0,(a.length:Int)::(a++((b.length:Int)::b)),?_,.change (.rows a b (by lia) (by lia))⟩;simp[PyFlat.put1,PyFlat.putRows,PyFlat.putRow]
 | mode k=>exact⟨1,_,rfl,.change (.mode k)⟩
 | pin a b c=>exact⟨2,_,rfl,.change (.pin a b c)⟩
 | nets=>exact⟨3,_,rfl,.ask .nets rfl⟩
 | pieces=>exact⟨4,_,rfl,.ask .pieces rfl⟩
 | density=>exact⟨5,_,rfl,.ask .density rfl⟩
 | above=>exact⟨6,_,rfl,.ask .above rfl⟩
 | levels=>exact⟨7,_,rfl,.ask .levels rfl⟩
 | ring=>exact⟨8,_,rfl,.ask .ring rfl⟩
 | left=>exact⟨9,_,rfl,.ask .left rfl⟩
 | least=>exact⟨10,_,rfl,.ask .least rfl⟩
 | check a h=>exact⟨11,(a.length:Int)::a,by simp[PyFlat.put1,PyFlat.putRows,PyFlat.putRow],.about a (.check a) (by have:=h.2;lia) rfl⟩
 | lift a h=>exact⟨12,(a.length:Int)::a,by simp[PyFlat.put1,PyFlat.putRows,PyFlat.putRow],.about a (.lift a) (by have:=h.2;lia) rfl⟩
 | draw a h=>exact⟨13,(a.length:Int)::a,by simp[PyFlat.put1,PyFlat.putRows,PyFlat.putRow],.about a (.draw a) (by have:=h.2;lia) rfl⟩
 | length a h=>exact⟨14,(a.length:Int)::a,by simp[PyFlat.put1,PyFlat.putRows,PyFlat.putRow],.about a (.length a) (by have:=h.2;lia) rfl⟩
 | mirror=>exact⟨15,_,rfl,.change .mirror⟩
 | turn=>exact⟨16,_,rfl,.change .turn⟩
 | rename a b=>exact⟨17,_,rfl,.change (.rename a b)⟩
theorem Lc.back{H H1:Hp}{u l x:Addr}(h:∀b o,H b=some o->∃o',H1 b=some o')(hx:Lc H1 u l x):Lc H u l x:=by
 rcases hx with e | e | e
 ·exact .inl e
 ·exact .inr (.inl e)
 ·refine .inr (.inr ?_);cases q:H x with
  | none=>rfl
  | some o=>
   obtain⟨o',z⟩:=h _ _ q;rw[z]at e;cases e
section
variable{P:Program}{w:World}{K:W.Frag}{mg:Str->Option Value}{base:Heap}{A:iL}
def Pe(K:W.Frag)(A:iL)(H:Hp)(c u l r a:Addr)(ns:List Int)(p:Nat)(res:State×List Int)(Q:VK):Prop:=
 ∀(H':Hp) (t u' l':Addr),H' t=some (.lst (a_ res.2))->ff A.aw H' c u' l' res.1->Read K A.bf H' r a ns p->Rw H H' c u l r->Lc H u l u'->Lc H u l l'->Q (.ref t) H'
def Q1(K:W.Frag)(A:iL):Sp:=fun vs H Q _=>∃(c u l r a:Addr) (s:State) (ns:List Int) (p:Nat) (cl:gF) (d:Vbpcan.Call),vs=[.ref c,.ref r]∧ff A.aw H c u l s∧Read K A.bf H r a ns p∧Kind cl d∧NN ns p (PyFlat.put1 cl)∧Pe K A H c u l r a ns (p+(PyFlat.put1 cl).length) (Vbpcan.step s d) Q
theorem BU(T:Txt K mg A):a6 P w K mg base fe 26 A.jd A.je ["channel","reader"] (Q1 K A):=by
 refine T.jo.ok qy (fun vs H Q E h=>?_) (fun cdv A1 outer s H vs Q E hr h=>?_)
 ·obtain⟨c,u,l,r,a,st,ns,p,cl,d,rfl,_⟩:=h;rfl
 ·obtain⟨c,u,l,r,a,st,ns,p,cl,d,rfl,hC,hR,kd,hH,q⟩:=h;refine⟨_,(ae (aI (i:=2) qy.nd rfl (Or.inl rfl) (dF (pv 1) T.bw T.bj (bo T) (hr.mono (by decide)) T.bB .nil aA))
 (ae (br (aH rF (pv 2) (iJ (aa (aL (v:=.int 0) rfl T.OS.choose_spec ⟨_,rfl⟩) (aa (aL (v:=.int 1) rfl T.OT.choose_spec ⟨_,rfl⟩) (aa (aL (v:=.int 2) rfl T.Rn.choose_spec ⟨_,rfl⟩) (aa (aL (v:=.int 15) rfl T.Hg.choose_spec ⟨_,rfl⟩) (aa (aL (v:=.int 16) rfl T.OZ.choose_spec ⟨_,rfl⟩) (aa (aL (v:=.int 17) rfl T.O0.choose_spec ⟨_,rfl⟩) af))))))) (by with_unfolding_all rfl)) (ai (ay (bE (aa (au (xy T) (hr.mono (by decide)) rfl T.yU T.gf.kp T.yT .nil aA (aa (pv 0) (aa (pv 2) (aa (pv 1) af)))) af)))) aS)
 (ae (br (aH rF (pv 2) (iJ (aa (aL (v:=.int 11) rfl T.La.choose_spec ⟨_,rfl⟩) (aa (aL (v:=.int 12) rfl T.OW.choose_spec ⟨_,rfl⟩) (aa (aL (v:=.int 13) rfl T.OX.choose_spec ⟨_,rfl⟩) (aa (aL (v:=.int 14) rfl T.OY.choose_spec ⟨_,rfl⟩) af))))) (by with_unfolding_all rfl)) (ai (ay (au (sk T) (hr.mono (by decide)) rfl T.tQ T.dk.kp T.tP .nil aA (aa (pv 0) (aa (pv 2) (aa (dF (pv 1) T.bw T.jF (jG T) (hr.mono (by decide)) T.j_ .nil aA) af)))))) aS)
 (ai (ay (au (uh T) (hr.mono (by decide)) rfl T.u0 T.dU.kp T.uZ .nil aA (aa (pv 0) (aa (pv 2) af)))))))),?_⟩
  obtain⟨k,args,ep,way⟩:=kd.way;rw[ep]at hH q;obtain⟨g1,hH1,b1⟩:=hH.cons;have eL:p+(k::args).length=p+1+args.length:=by rw[List.length_cons];lia
  rw[eL]at q;obtain⟨dy,hr0⟩:=hR.obj;refine⟨_,rfl,r,dy,_,rfl,hr0,rfl,r,a,ns,p,k,rfl,hR,g1,fun H1 hR1 k1=>?_⟩;have hC1:=hC.Ez hR k1;have ap:=BR hC hR;obtain⟨dy1,hr1⟩:=hR1.obj;have more:∀b o,H b=some o->∃o',H1 b=some o':=fun b o hb=>by
   by_cases e:b=r
   ·exact⟨_,by rw[e];exact hr1⟩
   ·exact⟨_,k1 _ _ hb e⟩
  refine⟨_,rfl,(by show 6<=sizeLine;decide),fun t ht=>⟨t,_,rfl,.inr (jP.of ah),rfl,rfl,_,rfl,?_⟩⟩;have st1:=aq.new (o:=.tup [V.int 0,.int 1,.int 2,.int 15,.int 16,.int 17]) ht;cases way with
  | change ch=>
   refine U_ (by cases ch <;> rfl) ⟨_,rfl,_,rfl,_,rfl,c,u,l,r,a,st,ns,p+1,k,d,args,rfl,hC1.mono st1,hR1.mono st1,ch,hH1,?_⟩;intro H3 u' l' z ez hC3 hR3 k4 iu il;refine⟨(by show 1<=sizeLine;decide),fun x hx=>?_⟩;have sx:=aq.new (o:=.lst [V.int z]) hx;refine q _ x u' l' ?_ (hC3.mono sx) (hR3.mono sx) (fun b o hb n1 n2 n3 n4=>sx _ _ (k4 _ _ (st1 _ _ (k1 _ _ hb n4)) n1 n2 n3 n4)) (Lc.back (fun b o hb=>let ⟨o',z⟩:=more _ _ hb;⟨o',st1 _ _ z⟩) iu) (Lc.back (fun b o hb=>let ⟨o',z⟩:=more _ _ hb;⟨o',st1 _ _ z⟩) il);rw[ah,ez];rfl
  | about zs ab hz ea=>
   subst ea;refine UZ (by cases ab <;> rfl) ⟨_,rfl,(by show 4<=sizeLine;decide),fun t2 ht2=>⟨t2,_,rfl,.inr (jP.of ah),rfl,rfl,_,rfl,?_⟩⟩;have st2:=st1.trans (aq.new (o:=.tup [V.int 11,.int 12,.int 13,.int 14]) ht2);have hR2:=hR1.mono st2;obtain⟨dy2,hr2⟩:=hR2.obj;obtain⟨g3,h3,b3⟩:=hH1.cons;have h3':NN ns (p+1+1) (zs++[]):=by rw[List.append_nil];exact h3
   obtain⟨b4,e4,_⟩:=h3'.row b3;refine U_ (by cases ab <;> rfl) ⟨_,rfl,_,rfl,_,rfl,r,dy2,_,rfl,hr2,rfl,r,a,ns,p+1,zs.length,rfl,hR2,g3,b4,fun H3 b hR3 k3 nb e3=>?_⟩;rw[e4]at e3;have hC2:=hC1.mono st2;have hC3:=hC2.Ez hR2 k3;refine⟨c,u,l,b,st,k,zs,d,rfl,hC3,e3,hz,ab,fun H4 x sm4 hx e5=>?_⟩;refine q _ x u l e5 (by rw[ab.l9];exact hC3.mono sm4) ?_ (fun b o hb n1 n2 n3 n4=>sm4 _ _ (k3 _ _ (st2 _ _ (k1 _ _ hb n4)) n4)) (.inl rfl) (.inr (.inl rfl));have:=hR3.mono sm4;rw[List.length_cons,show p+1+(zs.length+1)=p+1+1+zs.length by lia];exact this
  | ask qu ea=>
   subst ea;refine UZ (by cases qu <;> rfl) ⟨_,rfl,(by show 4<=sizeLine;decide),fun t2 ht2=>⟨t2,_,rfl,.inr (jP.of ah),rfl,rfl,_,rfl,?_⟩⟩;have st2:=st1.trans (aq.new (o:=.tup [V.int 11,.int 12,.int 13,.int 14]) ht2);refine UZ (by cases qu <;> rfl) ⟨_,rfl,_,rfl,c,u,l,st,k,d,rfl,hC1.mono st2,qu,fun H4 x sm4 hx e5=>?_⟩;exact q _ x u l e5 (by rw[qu.l9];exact(hC1.mono st2).mono sm4) ((hR1.mono st2).mono sm4) (fun b o hb n1 n2 n3 n4=>sm4 _ _ (st2 _ _ (k1 _ _ hb n4))) (.inl rfl) (.inr (.inl rfl))
theorem FR{cs:List gF}{i:Nat}{c:gF}(h:cs[i]? = some c):(PyFlat.put (cs.take (i+1))).length=(PyFlat.put (cs.take i)).length+(PyFlat.put1 c).length:=by
 rw[aQ h,Am,List.length_append];show _+(PyFlat.put1 c++[]).length=_;rw[List.append_nil]
theorem Pf{cs:List gF}{i:Nat}{c:gF}(h:cs[i]? = some c):NN (PyFlat.put cs) (PyFlat.put (cs.take i)).length (PyFlat.put1 c):=by
 refine⟨PyFlat.put (cs.drop (i+1)),?_⟩;rw[DZ h,List.drop_left]
def placeOf(r:Addr)(H:Hp):Nat:=match H r with
 | some (.ins _ _ [_,(_,.int p)])=>p.toNat
 | _=>0
theorem Read.place{C:Addr}{H:Hp}{r a:Addr}{ns:List Int}{p:Nat}(h:Read K C H r a ns p):placeOf r H=p:=by
 obtain⟨dx,h⟩:=h.obj;unfold placeOf;rw[h];exact Int.toNat_natCast p
def q_(cs:List gF)(i:Nat):List Int:=PyFlat.told (PyFlat.played VbpcanNeutral.step VbpcanNeutral.start (cs.take i))
theorem yA{cs:List gF}{i:Nat}{c:gF}{d:Vbpcan.Call}(h:cs[i]? = some c)(k:Kind c d):q_ cs (i+1)=q_ cs i++(((Vbpcan.step (after VbpcanNeutral.start (cs.take i)) d).2.length:Int)::(Vbpcan.step (after VbpcanNeutral.start (cs.take i)) d).2):=by
 unfold q_;rw[aQ h,yd,LF,k.step]
theorem ff.put{C:Addr}{H:Hp}{c u l t:Addr}{s:State}{o:HO}(h:ff C H c u l s)(n1:t≠c)(n2:t≠u)(n3:t≠l):ff C (upd H t o) c u l s:=by
 obtain⟨dx,h1⟩:=h.obj;exact⟨⟨dx,by rw[ak n1.symm];exact h1⟩,by rw[ak n2.symm];exact h.up,by rw[ak n3.symm];exact h.lo,h.ne,h.fit⟩
theorem Read.put{C:Addr}{H:Hp}{r a t:Addr}{ns:List Int}{p:Nat}{vs:List V}{o:HO}(h:Read K C H r a ns p)(n:t≠r)(ht:H t=some (.lst vs)):Read K C (upd H t o) r a ns p:=by
 obtain⟨dx,h1⟩:=h.obj;refine⟨⟨dx,by rw[ak n.symm];exact h1⟩,h.nums.keep fun q hq=>?_⟩;rw[ak (cj hq ht (by intro z;cases z))];exact hq
def pw(K:W.Frag):Sp:=fun vs H Q _=>∃(a:Addr) (ns:List Int),vs=[.ref a]∧QQ K H a (a_ ns)∧PyVbpcan.answers_asked ns=true∧∀(H':Hp) (t:Addr),H' t=some (.lst (a_ (PyVbpcan.answers ns)))->Q (.ref t) H'
theorem JP(T:Txt K mg A):a6 P w K mg base fe 27 A.oy A.mq ["calls"] (pw K):=by
 refine T.oC.ok oZ (fun vs H Q E h=>?_) (fun cdv A1 outer s H vs Q E hr h=>?_)
 ·obtain⟨a,ns,rfl,_⟩:=h;rfl
 ·obtain⟨a,ns,rfl,ha,hq,q⟩:=h;refine⟨_,(ae (aI (i:=1) oZ.nd rfl (Or.inl rfl) (KY T.OR (Bp T) (hr.mono (by decide)) rfl T.Mz T.CN .nil aA (aa (pv 0) af)))
 (ae (aI (i:=2) oZ.nd rfl (Or.inl rfl) (Oj T.Mx (yY T) (hr.mono (by decide)) rfl T.Jn T.A8 .nil aA))
 (ae (aI (i:=3) oZ.nd rfl (Or.inl rfl) (bE af))
 (ae (nX PassesOwn.never (p7 (jU (dF (pv 1) T.bw T.wW (w_ T) (hr.mono (by decide)) T.yW .nil aA))) (ai (cA (jK F.plainAttrs_list F.slot_list_extend F.type_list_extend nZ (pv 3) (aa (au (dq T) (hr.mono (by decide)) rfl T.eS T.cz.kp T.eR .nil aA (aa (au (BU T) (hr.mono (by decide)) rfl T.CM T.jo.kp T.CL .nil aA (aa (pv 2) (aa (pv 1) af))) af)) af)))))
 (ai (ay (pv 3))))))),?_⟩
  obtain⟨cs,as⟩:=NZ hq;refine⟨_,rfl,?_⟩;intro r dx nr ndx nex;have s0:aq H (upd (upd H dx (.own r)) r (.ins A.bf dx [])):=fun x o hx=>by
   rw[ak (ao hx nr),ak (ao hx ndx)];exact hx
  refine⟨r,dx,a,ns,rfl,ah,ha.keep fun o ho=>s0 _ _ ho,fun H1 hR1 k1=>⟨rfl,?_⟩⟩;intro c dx2 nc ndx2 nex2;have s1:aq H1 (upd (upd H1 dx2 (.own c)) c (.ins A.aw dx2 [])):=fun x o hx=>by
   rw[ak (ao hx nc),ak (ao hx ndx2)];exact hx
  obtain⟨dy1,hr1⟩:=hR1.obj;have rc:r≠c:=ao hr1 nc;refine⟨c,dx2,rfl,ah,fun H2 u l hC2 k2 nu nl=>⟨rfl,?_⟩⟩;have hR1':=hR1.mono s1;have hR2:Read K A.bf H2 r a ns 0:=by
   obtain⟨dy,hr⟩:=hR1'.obj;refine⟨⟨dy,k2 _ _ hr rc⟩,hR1'.nums.keep fun o ho=>k2 _ _ ho ?_⟩;exact cj ho (ah (a:=c) (o:=.ins A.aw dx2 [])) (by intro z;cases z)
  refine⟨Nat.zero_le _,fun t ht=>?_⟩;have s2:aq H2 (upd H2 t (.lst [])):=aq.new ht;refine nY (fun σ H'=>∃(i:Nat) (u l:Addr),σ=[some (.ref a),some (.ref r),some (.ref c),some (.ref t)]∧i<=cs.length∧ff A.aw H' c u l (after VbpcanNeutral.start (cs.take i))∧Read K A.bf H' r a ns (PyFlat.put (cs.take i)).length∧H' t=some (.lst (a_ (q_ cs i)))∧t≠u∧t≠l∧(q_ cs i).length<=i * 41330) (fun _ H'=>ns.length - placeOf r H')
   ⟨0,u,l,rfl,Nat.zero_le _,hC2.mono s2,hR2.mono s2,ah,(ao hC2.up ht).symm,(ao hC2.lo ht).symm,Nat.zero_le _⟩ ?_ (fun σ H Q Q' f ⟨v,e1,r,dx,fs,e2,e3,e4,r',a,ns,p,e5,h6,d,e7,q⟩=>⟨v,e1,r,dx,fs,e2,e3,e4,r',a,ns,p,e5,h6,d,e7,f _ _ q⟩)
  rintro σ H' ⟨i,u,l,rfl,hi,hC,hR,htl,tu,tl,hlen⟩
  obtain⟨dy,hr⟩:=hR.obj;refine⟨_,rfl,r,dy,_,rfl,hr,rfl,r,a,ns,_,rfl,hR,_,rfl,bF (fun h=>?_) fun h=>?_⟩
  ·have h:=of_decide_eq_false (Rt h);have hic:i<cs.length:=by
    refine Nat.lt_of_not_le fun z=>h ?_
    have e:i=cs.length:=by lia
    rw[as.put,e,List.take_length];exact Nat.le_refl _
   obtain⟨cl,hcl⟩:∃cl,cs[i]? = some cl:=⟨_,List.getElem?_eq_getElem hic⟩;obtain⟨d,kd⟩:=KH (as.each cl (List.mem_of_getElem? hcl));have hpos:=kd.KI;have epl:=FR hcl;have hHas:NN ns (PyFlat.put (cs.take i)).length (PyFlat.put1 cl):=by
    rw[as.put];exact Pf hcl
   have hmost:=as.most;have hal:=Q0 hC.fit d;refine⟨_,rfl,.inl ⟨rfl,_,aP.of htl⟩,_,rfl,_,rfl,c,u,l,r,a,_,ns,_,cl,d,rfl,hC,hR,kd,hHas,fun H3 x u' l' hx hC3 hR3 k4 iu il=>?_⟩;obtain⟨dc,hc⟩:=hC.obj;have tc:t≠c:=cj htl hc (by intro z;cases z);have tr:t≠r:=cj htl hr (by intro z;cases z);have tin:∀y,Lc H' u l y->t≠y:=fun y hy=>by
    rcases hy with e | e | e
    ·rw[e];exact tu
    ·rw[e];exact tl
    ·exact ao htl e
   have ht3:=k4 _ _ htl tc tu tl tr;refine⟨x,_,rfl,MH hx,(by rw[du,List.length_map];lia),fun H4 y sm4 hy e4=>?_⟩;rw[du,List.length_map,List.map_id']at e4;have ht4:=sm4 _ _ ht3;have hC4:=hC3.mono sm4;have hR4:=hR3.mono sm4;have hC5:=hC4.put (o:=.lst (a_ (q_ cs i)++a_ (((Vbpcan.step (after VbpcanNeutral.start (cs.take i)) d).2.length:Int)::(Vbpcan.step (after VbpcanNeutral.start (cs.take i)) d).2))) tc (tin _ iu) (tin _ il);have hR5:=hR4.put (o:=.lst (a_ (q_ cs i)++a_ (((Vbpcan.step (after VbpcanNeutral.start (cs.take i)) d).2.length:Int)::(Vbpcan.step (after VbpcanNeutral.start (cs.take i)) d).2))) tr ht4;refine⟨t,y,_,_,rfl,rfl,ht4,e4,?_,⟨i+1,u',l',rfl,hic,?_,?_,?_,tin _ iu,tin _ il,?_⟩,?_⟩
   ·rw[sizeLine_eq,iA,iA,List.length_cons];lia
   ·rw[aQ hcl,IF,kd.step];exact hC5
   ·rw[epl];exact hR5
   ·rw[ah,ints_app,yA hcl kd]
   ·rw[yA hcl kd,List.length_append,List.length_cons];lia
   ·show ns.length - placeOf r _<ns.length - placeOf r H';rw[hR.place,hR5.place];lia
  ·have h:=of_decide_eq_true (Ru h);have e:i=cs.length:=by
    refine Nat.le_antisymm hi (Nat.le_of_not_lt fun z=>?_);obtain⟨cl,hcl⟩:∃cl,cs[i]? = some cl:=⟨_,List.getElem?_eq_getElem z⟩;obtain⟨d,kd⟩:=KH (as.each cl (List.mem_of_getElem? hcl));have hpos:=kd.KI;have e1:=congrArg List.length (DZ hcl);rw[List.length_append,List.length_append,<-as.put]at e1;lia
   refine⟨_,rfl,q _ t ?_⟩;rw[htl,as.Vb,e];unfold q_;rw[List.take_length]
end
end Pc
end
section
namespace Pc
open PySem PySem.Spec PyProof.Rows L2
def bp(K:W.Frag)(x:Str)(st:Stmt):Prop:=∃(f:Addr) (fd:FuncData),W.nsIn K mainGlobals x=some (some (.ref f))∧fk K x x st f fd
def fc(K:W.Frag)(C:Addr)(x qual:Str)(st:Stmt):Prop:=∃(f:Addr) (fd:FuncData),W.findIn K (.ref C) x=some (some (.ref f))∧W.isFn K (.ref f)=true∧fk K x qual st f fd
section
variable{P:List Value->Prop}
theorem Vl(h:P []):∀us:List Value,us.length=0->P us
 | [],_=>h
theorem TM{n:Nat}(h:∀a us,us.length=n->P (a::us)):∀us:List Value,us.length=n+1->P us
 | a::us,e=>h a us (Nat.succ.inj e)
theorem vK(h:∀a,P [a]):∀us:List Value,us.length=1->P us:=TM fun a=>Vl (P:=fun us=>P (a::us)) (h a)
theorem BV(h:∀a b,P [a,b]):∀us:List Value,us.length=2->P us:=TM fun a=>vK (P:=fun us=>P (a::us)) (h a)
theorem F9(h:∀a b c,P [a,b,c]):∀us:List Value,us.length=3->P us:=TM fun a=>BV (P:=fun us=>P (a::us)) (h a)
theorem TN(h:∀a b c d,P [a,b,c,d]):∀us:List Value,us.length=4->P us:=TM fun a=>F9 (P:=fun us=>P (a::us)) (h a)
theorem Va(h:∀a b c d e,P [a,b,c,d,e]):∀us:List Value,us.length=5->P us:=TM fun a=>TN (P:=fun us=>P (a::us)) (h a)
end
def JQ(K:W.Frag):Prop:=∃C:Addr,W.nsIn K mainGlobals "Channel" = some (some (.ref C))∧(W.plainGet K C Str.empty=true∧W.hasDictIn K C=true∧W.plainOver K C=true∧W.findIn K (.ref C) "__setattr__" = some (some (.builtin "object.__setattr__")))∧W.makesIn K C=true∧W.keepIn K (.ref C)=true∧fc K C "__init__" "Channel.__init__" mQ∧fc K C "has_net" "Channel.has_net" jY∧fc K C "put_rows" "Channel.put_rows" jA∧fc K C "put_mode" "Channel.put_mode" jB∧fc K C "put_pin" "Channel.put_pin" jZ∧fc K C "mirror" "Channel.mirror" kx∧fc K C "turn" "Channel.turn" mR∧fc K C "rename" "Channel.rename" kz∧W.findIn K (.ref C) "upper_pins" = some none∧W.findIn K (.ref C) "lower_pins" = some none∧W.findIn K (.ref C) "mode" = some none
def JR(K:W.Frag):Prop:=∃C:Addr,W.nsIn K mainGlobals "Filling" = some (some (.ref C))∧(W.plainGet K C Str.empty=true∧W.hasDictIn K C=true∧W.plainOver K C=true∧W.findIn K (.ref C) "__setattr__" = some (some (.builtin "object.__setattr__")))∧W.makesIn K C=true∧W.keepIn K (.ref C)=true∧fc K C "__init__" "Filling.__init__" gI∧fc K C "ready_pieces" "Filling.ready_pieces" cZ∧fc K C "full_tracks" "Filling.full_tracks" cn∧fc K C "is_full" "Filling.is_full" gB∧fc K C "least_rest" "Filling.least_rest" gJ∧fc K C "find_rest" "Filling.find_rest" iK∧W.findIn K (.ref C) "piece_count" = some none∧W.findIn K (.ref C) "every_piece" = some none∧W.findIn K (.ref C) "parted" = some none∧W.findIn K (.ref C) "higher" = some none∧W.findIn K (.ref C) "known_rests" = some none
def MY(K:W.Frag):Prop:=∃C:Addr,W.nsIn K mainGlobals "Reader" = some (some (.ref C))∧(W.plainGet K C Str.empty=true∧W.hasDictIn K C=true∧W.plainOver K C=true∧W.findIn K (.ref C) "__setattr__" = some (some (.builtin "object.__setattr__")))∧W.makesIn K C=true∧W.keepIn K (.ref C)=true∧fc K C "__init__" "Reader.__init__" nO∧fc K C "at_end" "Reader.at_end" l0∧fc K C "take_number" "Reader.take_number" gK∧fc K C "take_row" "Reader.take_row" j0∧W.findIn K (.ref C) "numbers" = some none∧W.findIn K (.ref C) "place" = some none
theorem JS(kV doc pm:Value)(an:Option Addr)(cdv ct:Value)(us:List Value)(hl:us.length=(["calls"]:List Str).length):bindArgs (W.fnOf "answers" "answers" (rJ iF) (oT iF) (aj iF) .none kV doc pm an cdv ct) ⟨us,[]⟩=pure ((["calls"]:List Str).zip us):=vK (P:=fun us=>bindArgs (W.fnOf "answers" "answers" (rJ iF) (oT iF) (aj iF) .none kV doc pm an cdv ct) ⟨us,[]⟩=pure ((["calls"]:List Str).zip us)) (fun _=>rfl) us hl
theorem all_mk{K:W.Frag}{h:Heap}{mg:Str->Option Value}(X:K.In h)(G:h.Ns mainGlobals mg)
  (zd:bp K "is_net_number" lW)
  (Pg:bp K "is_pin" AR)
  (JT:bp K "are_pins" oW)
  (MZ:bp K "renamed" rO)
  (HM:bp K "pieces_at" nv)
  (CW:bp K "pairs_above" nH)
  (CY:bp K "lists_below" kL)
  (CZ:bp K "lists_above" kM)
  (HN:bp K "levels_of" k7)
  (ze:bp K "steps_down_to" lX)
  (xA:bp K "shortest_round" iE)
  (HP:bp K "ring_from" nz)
  (M3:bp K "ring_of" wF)
  (Ph:bp K "is_row" uT)
  (HQ:bp K "tracks_of" qm)
  (HR:bp K "must_part" qo)
  (C3:bp K "pairs_apart" kO)
  (C4:bp K "lists_apart" kP)
  (HS:bp K "faults_of" k8)
  (M4:bp K "follows" wG)
  (FT:bp K "fill_track" me)
  (zf:bp K "left_edge_row" dA)
  (C5:bp K "least_track" iO)
  (Pj:bp K "lifted" AS)
  (M5:bp K "mask_of" rP)
  (JU:bp K "row_with" tI)
  (HU:bp K "least_row" qp)
  (M6:bp K "nets_of" rQ)
  (zg:bp K "pieces_of_net" js)
  (HV:bp K "pieces_of" qr)
  (BW:bp K "densities_of" mN)
  (FU:bp K "density_of" oX)
  (C6:bp K "wires_along" kQ)
  (M7:bp K "nets_at" rR)
  (BX:bp K "upright_wire" jW)
  (zh:bp K "upright_wires" jt)
  (HW:bp K "length_of" qt)
  (zi:bp K "count_touched" ju)
  (M8:bp K "as_list" wH)
  (Pk:bp K "as_row" AU)
  (C7:bp K "answer_nets" nI)
  (xB:bp K "answer_density" ku)
  (BY:bp K "answer_above" mO)
  (zj:bp K "answer_levels" lY)
  (C8:bp K "answer_ring" nJ)
  (C9:bp K "answer_left" nL)
  (BZ:bp K "answer_least" mP)
  (C_:bp K "answer_draw" nM)
  (zk:bp K "answer_length" jv)
  (ui:bp K "answer_about_row" jz)
  (vL:bp K "answer_question" jX)
  (zl:bp K "answer_change" lZ)
  (Dc:bp K "answer_call" nN)
  (M9:bp K "answers" iF)
  (M_:JQ K)
  (Na:JR K)
  (Pl:MY K)
  (uj:∃t,W.nsIn K mainGlobals "NO_SUCH_COLUMN" = some (some (.int (-1) t)))
  (zm:∃t,W.nsIn K mainGlobals "NO_SUCH_NET" = some (some (.int (-1) t)))
  (xC:∃t,W.nsIn K mainGlobals "OUT_OF_RANGE" = some (some (.int (-2) t)))
  (Dd:∃t,W.nsIn K mainGlobals "WRONG_ROW" = some (some (.int (-3) t)))
  (xD:∃t,W.nsIn K mainGlobals "NET_IS_THERE" = some (some (.int (-7) t)))
  (FV:∃t,W.nsIn K mainGlobals "HAS_RING" = some (some (.int (-8) t)))
  (so:∃t,W.nsIn K mainGlobals "TOO_MANY_PIECES" = some (some (.int (-9) t)))
  (De:∃t,W.nsIn K mainGlobals "NOT_RIGHT" = some (some (.int (-10) t)))
  (Pn:∃t,W.nsIn K mainGlobals "DONE" = some (some (.int 0 t)))
  (xE:∃t,W.nsIn K mainGlobals "MOST_COLUMNS" = some (some (.int 48 t)))
  (JV:∃t,W.nsIn K mainGlobals "NO_PIN" = some (some (.int 0 t)))
  (Df:∃t,W.nsIn K mainGlobals "LEAST_NET" = some (some (.int 1 t)))
  (xF:∃t,W.nsIn K mainGlobals "GREATEST_NET" = some (some (.int 999 t)))
  (B0:∃t,W.nsIn K mainGlobals "UPPER_SIDE" = some (some (.int 0 t)))
  (B1:∃t,W.nsIn K mainGlobals "LOWER_SIDE" = some (some (.int 1 t)))
  (B2:∃t,W.nsIn K mainGlobals "WHOLE_NETS" = some (some (.int 0 t)))
  (FW:∃t,W.nsIn K mainGlobals "CUT_NETS" = some (some (.int 1 t)))
  (zo:∃t,W.nsIn K mainGlobals "LEAST_TRACK" = some (some (.int 1 t)))
  (uk:∃t,W.nsIn K mainGlobals "GREATEST_TRACK" = some (some (.int 200 t)))
  (Dg:∃t,W.nsIn K mainGlobals "ONE_TRACK" = some (some (.int 1 t)))
  (Dh:∃t,W.nsIn K mainGlobals "NOT_ABOVE" = some (some (.int 2 t)))
  (zp:∃t,W.nsIn K mainGlobals "MOST_PIECES" = some (some (.int 8 t)))
  (Po:∃t,W.nsIn K mainGlobals "ROWS" = some (some (.int 0 t)))
  (Pp:∃t,W.nsIn K mainGlobals "MODE" = some (some (.int 1 t)))
  (Q2:∃t,W.nsIn K mainGlobals "PIN" = some (some (.int 2 t)))
  (Pq:∃t,W.nsIn K mainGlobals "NETS" = some (some (.int 3 t)))
  (JW:∃t,W.nsIn K mainGlobals "PIECES" = some (some (.int 4 t)))
  (HX:∃t,W.nsIn K mainGlobals "DENSITY" = some (some (.int 5 t)))
  (Nb:∃t,W.nsIn K mainGlobals "ABOVE" = some (some (.int 6 t)))
  (JX:∃t,W.nsIn K mainGlobals "LEVELS" = some (some (.int 7 t)))
  (Pr:∃t,W.nsIn K mainGlobals "RING" = some (some (.int 8 t)))
  (Pt:∃t,W.nsIn K mainGlobals "LEFT" = some (some (.int 9 t)))
  (Nc:∃t,W.nsIn K mainGlobals "LEAST" = some (some (.int 10 t)))
  (Nd:∃t,W.nsIn K mainGlobals "CHECK" = some (some (.int 11 t)))
  (Pu:∃t,W.nsIn K mainGlobals "LIFT" = some (some (.int 12 t)))
  (Pw:∃t,W.nsIn K mainGlobals "DRAW" = some (some (.int 13 t)))
  (JY:∃t,W.nsIn K mainGlobals "LENGTH" = some (some (.int 14 t)))
  (JZ:∃t,W.nsIn K mainGlobals "MIRROR" = some (some (.int 15 t)))
  (Px:∃t,W.nsIn K mainGlobals "TURN" = some (some (.int 16 t)))
  (J0:∃t,W.nsIn K mainGlobals "RENAME" = some (some (.int 17 t)))
  (Q3:W.nsIn K mainGlobals "all" = some none)
  (B3:W.nsIn K mainGlobals "isinstance" = some none)
  (Q4:W.nsIn K mainGlobals "len" = some none)
  (Py:W.nsIn K mainGlobals "list" = some none)
  (Q5:W.nsIn K mainGlobals "max" = some none)
  (Q6:W.nsIn K mainGlobals "min" = some none)
  (Nf:W.nsIn K mainGlobals "range" = some none)
  (FX:W.nsIn K mainGlobals "reversed" = some none)
  (J1:W.nsIn K mainGlobals "sorted" = some none)
  (Q7:W.nsIn K mainGlobals "sum" = some none)
  (Ng:W.nsIn K mainGlobals "tuple" = some none):∃A:iL,Txt K mg A:=by
 obtain⟨fC,fD,zq,dB⟩:=zd;obtain⟨qz,qB,Pz,oz⟩:=Pg;obtain⟨mU,mV,J2,kF⟩:=JT;obtain⟨n_,oa,Nh,mv⟩:=MZ;obtain⟨k9,k_,HY,fg⟩:=HM;obtain⟨iP,iQ,Di,bU⟩:=CW;obtain⟨iR,iS,Dj,gn⟩:=CY;obtain⟨iT,iU,Dk,cD⟩:=CZ;obtain⟨lh,lj,HZ,h7⟩:=HN;obtain⟨fE,fF,zr,fX⟩:=ze;obtain⟨eE,eF,xG,eP⟩:=xA;obtain⟨lq,lB,H_,lP⟩:=HP;obtain⟨oe,og,Ni,oA⟩:=M3;obtain⟨qC,qD,PB,qL⟩:=Ph;obtain⟨lC,lD,Ia,jN⟩:=HQ;obtain⟨lE,lF,Ib,lQ⟩:=HR;obtain⟨iV,iW,Dl,gp⟩:=C3;obtain⟨iX,iY,Dm,gq⟩:=C4;obtain⟨lH,lI,Ic,lR⟩:=HS;obtain⟨oh,oi,Nj,oB⟩:=M4;obtain⟨j3,j4,FY,j7⟩:=FT;obtain⟨fH,fI,zt,fY⟩:=zf;obtain⟨iZ,i0,Dn,jj⟩:=C5;obtain⟨qE,qF,PD,qM⟩:=Pj;obtain⟨oj,om,Nk,mw⟩:=M5;obtain⟨mW,mX,J3,mY⟩:=JU;obtain⟨lJ,lK,Ie,lS⟩:=HU;obtain⟨oo,oq,Nl,kG⟩:=M6;obtain⟨fJ,fK,zu,fZ⟩:=zg;obtain⟨lL,lM,Ig,cK⟩:=HV;obtain⟨gR,gS,B4,eQ⟩:=BW;obtain⟨j5,j6,FZ,iI⟩:=FU;obtain⟨i4,i5,Dq,gr⟩:=C6;obtain⟨ot,ou,Nm,mx⟩:=M7;obtain⟨gT,gU,B5,ia⟩:=BX;obtain⟨fL,fM,zw,dC⟩:=zh;obtain⟨lN,lO,Ih,lT⟩:=HW;obtain⟨fN,fO,zx,f_⟩:=zi;obtain⟨ow,ox,Nn,cz⟩:=M8;obtain⟨qH,qI,PF,mZ⟩:=Pk;obtain⟨i6,i7,Dr,jk⟩:=C7;obtain⟨eG,eI,xH,eT⟩:=xB;obtain⟨gV,gW,B6,ib⟩:=BY;obtain⟨fP,fQ,zy,gc⟩:=zj;obtain⟨i8,i9,Ds,jl⟩:=C8;obtain⟨i_,ja,Dt,jm⟩:=C9;obtain⟨gX,gY,B7,ie⟩:=BZ;obtain⟨jb,jc,Du,jn⟩:=C_;obtain⟨fR,fS,zz,gd⟩:=zk;obtain⟨da,de,um,dk⟩:=ui;obtain⟨dH,dI,vM,dU⟩:=vL;obtain⟨fT,fU,zA,gf⟩:=zl;obtain⟨jd,je,Dv,jo⟩:=Dc;obtain⟨oy,mq,Np,oC⟩:=M9;obtain⟨aw,Nq,⟨J4,J5,J6,J7⟩,J8,J9,⟨gZ,g_,B8,B9,j8⟩,⟨dJ,dM,vN,vO,dW⟩,⟨df,dh,uo,uq,dm⟩,⟨di,dj,uu,uv,dn⟩,⟨dN,dO,vP,vQ,dX⟩,⟨eJ,eK,xI,xJ,eU⟩,⟨hJ,hU,B_,Ca,ij⟩,⟨eM,eO,xK,xM,eV⟩,az,aN,eW⟩:=M_;obtain⟨aU,Nr,⟨J_,Ka,Kb,Kc⟩,Kd,Ke,⟨hX,hZ,Cb,Cc,j9⟩,⟨bZ,b7,px,pA,b8⟩,⟨cp,cq,pS,pT,cv⟩,⟨dP,dQ,vR,vS,dY⟩,⟨bz,bA,ra,rb,cM⟩,⟨cb,cf,su,sv,cW⟩,cw,dw,eX,eY,bK⟩:=Na;obtain⟨bf,PH,⟨Nt,Nu,Nv,Nw⟩,Ny,Nz,⟨jf,jg,Dx,Dy,kR⟩,⟨fV,fW,zB,zC,gg⟩,⟨cI,cJ,rf,rg,cN⟩,⟨dR,dS,vT,vU,dZ⟩,c8,b9⟩:=Pl;obtain⟨uw,ux⟩:=uj;obtain⟨zD,zE⟩:=zm;obtain⟨xN,xO⟩:=xC;obtain⟨Dz,DA⟩:=Dd;obtain⟨xP,xQ⟩:=xD;obtain⟨F0,F1⟩:=FV;obtain⟨sC,sD⟩:=so;obtain⟨DB,DC⟩:=De;obtain⟨PJ,PK⟩:=Pn;obtain⟨xR,xS⟩:=xE;obtain⟨Kf,Kg⟩:=JV;obtain⟨DD,DE⟩:=Df;obtain⟨xT,xU⟩:=xF;obtain⟨Cd,Ce⟩:=B0;obtain⟨Cf,Cg⟩:=B1;obtain⟨Ci,Cj⟩:=B2;obtain⟨F2,F3⟩:=FW;obtain⟨zF,zG⟩:=zo;obtain⟨uy,uz⟩:=uk;obtain⟨DF,DG⟩:=Dg;obtain⟨DH,DI⟩:=Dh;obtain⟨zH,zI⟩:=zp;obtain⟨PL,PM⟩:=Po;obtain⟨PN,PQ⟩:=Pp;obtain⟨Q8,Q9⟩:=Q2;obtain⟨PR,PU⟩:=Pq;obtain⟨Kh,Ki⟩:=JW;obtain⟨Ii,Ij⟩:=HX;obtain⟨NA,NB⟩:=Nb;obtain⟨Kj,Kk⟩:=JX;obtain⟨PV,PX⟩:=Pr;obtain⟨PY,PZ⟩:=Pt;obtain⟨NC,ND⟩:=Nc;obtain⟨NF,NG⟩:=Nd;obtain⟨P0,P1⟩:=Pu;obtain⟨P2,P4⟩:=Pw;obtain⟨Kl,Km⟩:=JY;obtain⟨Kn,Ko⟩:=JZ;obtain⟨P5,P6⟩:=Px;obtain⟨Kp,Kq⟩:=J0;refine⟨iL.mk fC fD qz qB mU mV n_ oa k9 k_ iP iQ iR iS iT iU lh lj fE fF eE eF lq lB oe og qC qD lC lD lE lF iV iW iX iY lH lI oh oi j3 j4 fH fI iZ i0 qE qF oj om mW mX lJ lK oo oq fJ fK lL lM gR gS j5 j6 i4 i5 ot ou gT gU fL fM lN lO fN fO ow ox qH qI i6 i7 eG eI gV gW fP fQ i8 i9 i_ ja gX gY jb jc fR fS da de dH dI fT fU jd je oy mq gZ g_ dJ dM df dh di dj dN dO eJ eK hJ hU eM eO hX hZ bZ b7 cp cq dP dQ bz bA cb cf jf jg fV fW cI cJ dR dS aw aU 0 bf,?_⟩;exact⟨dB,(dB.binds fun _ _ _ _ _ _=>vK fun _=>rfl),(W.mg_of X G zq),oz,(oz.binds fun _ _ _ _ _ _=>vK fun _=>rfl),(W.mg_of X G Pz),kF,(kF.binds fun _ _ _ _ _ _=>vK fun _=>rfl),(W.mg_of X G J2),mv,(mv.binds fun _ _ _ _ _ _=>F9 fun _ _ _=>rfl),(W.mg_of X G Nh),fg,(fg.binds fun _ _ _ _ _ _=>F9 fun _ _ _=>rfl),(W.mg_of X G HY),bU,(bU.binds fun _ _ _ _ _ _=>BV fun _ _=>rfl),(W.mg_of X G Di),gn,(gn.binds fun _ _ _ _ _ _=>BV fun _ _=>rfl),(W.mg_of X G Dj),cD,(cD.binds fun _ _ _ _ _ _=>BV fun _ _=>rfl),(W.mg_of X G Dk),h7,(h7.binds fun _ _ _ _ _ _=>BV fun _ _=>rfl),(W.mg_of X G HZ),fX,(fX.binds fun _ _ _ _ _ _=>BV fun _ _=>rfl),(W.mg_of X G zr),eP,(eP.binds fun _ _ _ _ _ _=>F9 fun _ _ _=>rfl),(W.mg_of X G xG),lP,(lP.binds fun _ _ _ _ _ _=>TN fun _ _ _ _=>rfl),(W.mg_of X G H_),oA,(oA.binds fun _ _ _ _ _ _=>BV fun _ _=>rfl),(W.mg_of X G Ni),qL,(qL.binds fun _ _ _ _ _ _=>BV fun _ _=>rfl),(W.mg_of X G PB),jN,(jN.binds fun _ _ _ _ _ _=>vK fun _=>rfl),(W.mg_of X G Ia),lQ,(lQ.binds fun _ _ _ _ _ _=>BV fun _ _=>rfl),(W.mg_of X G Ib),gp,(gp.binds fun _ _ _ _ _ _=>vK fun _=>rfl),(W.mg_of X G Dl),gq,(gq.binds fun _ _ _ _ _ _=>BV fun _ _=>rfl),(W.mg_of X G Dm),lR,(lR.binds fun _ _ _ _ _ _=>F9 fun _ _ _=>rfl),(W.mg_of X G Ic),oB,(oB.binds fun _ _ _ _ _ _=>BV fun _ _=>rfl),(W.mg_of X G Nj),j7,(j7.binds fun _ _ _ _ _ _=>Va fun _ _ _ _ _=>rfl),(W.mg_of X G FY),fY,(fY.binds fun _ _ _ _ _ _=>BV fun _ _=>rfl),(W.mg_of X G zt),jj,(jj.binds fun _ _ _ _ _ _=>F9 fun _ _ _=>rfl),(W.mg_of X G Dn),qM,(qM.binds fun _ _ _ _ _ _=>F9 fun _ _ _=>rfl),(W.mg_of X G PD),mw,(mw.binds fun _ _ _ _ _ _=>vK fun _=>rfl),(W.mg_of X G Nk),mY,(mY.binds fun _ _ _ _ _ _=>BV fun _ _=>rfl),(W.mg_of X G J3),lS,(lS.binds fun _ _ _ _ _ _=>TN fun _ _ _ _=>rfl),(W.mg_of X G Ie),kG,(kG.binds fun _ _ _ _ _ _=>vK fun _=>rfl),(W.mg_of X G Nl),fZ,(fZ.binds fun _ _ _ _ _ _=>F9 fun _ _ _=>rfl),(W.mg_of X G zu),cK,(cK.binds fun _ _ _ _ _ _=>vK fun _=>rfl),(W.mg_of X G Ig),eQ,(eQ.binds fun _ _ _ _ _ _=>vK fun _=>rfl),(W.mg_of X G B4),iI,(iI.binds fun _ _ _ _ _ _=>vK fun _=>rfl),(W.mg_of X G FZ),gr,(gr.binds fun _ _ _ _ _ _=>BV fun _ _=>rfl),(W.mg_of X G Dq),mx,(mx.binds fun _ _ _ _ _ _=>BV fun _ _=>rfl),(W.mg_of X G Nm),ia,(ia.binds fun _ _ _ _ _ _=>Va fun _ _ _ _ _=>rfl),(W.mg_of X G B5),dC,(dC.binds fun _ _ _ _ _ _=>F9 fun _ _ _=>rfl),(W.mg_of X G zw),lT,(lT.binds fun _ _ _ _ _ _=>vK fun _=>rfl),(W.mg_of X G Ih),f_,(f_.binds fun _ _ _ _ _ _=>BV fun _ _=>rfl),(W.mg_of X G zx),cz,(cz.binds fun _ _ _ _ _ _=>vK fun _=>rfl),(W.mg_of X G Nn),mZ,(mZ.binds fun _ _ _ _ _ _=>vK fun _=>rfl),(W.mg_of X G PF),jk,(jk.binds fun _ _ _ _ _ _=>vK fun _=>rfl),(W.mg_of X G Dr),eT,(eT.binds fun _ _ _ _ _ _=>vK fun _=>rfl),(W.mg_of X G xH),ib,(ib.binds fun _ _ _ _ _ _=>vK fun _=>rfl),(W.mg_of X G B6),gc,(gc.binds fun _ _ _ _ _ _=>vK fun _=>rfl),(W.mg_of X G zy),jl,(jl.binds fun _ _ _ _ _ _=>vK fun _=>rfl),(W.mg_of X G Ds),jm,(jm.binds fun _ _ _ _ _ _=>vK fun _=>rfl),(W.mg_of X G Dt),ie,(ie.binds fun _ _ _ _ _ _=>vK fun _=>rfl),(W.mg_of X G B7),jn,(jn.binds fun _ _ _ _ _ _=>F9 fun _ _ _=>rfl),(W.mg_of X G Du),gd,(gd.binds fun _ _ _ _ _ _=>F9 fun _ _ _=>rfl),(W.mg_of X G zz),dk,(dk.binds fun _ _ _ _ _ _=>F9 fun _ _ _=>rfl),(W.mg_of X G um),dU,(dU.binds fun _ _ _ _ _ _=>BV fun _ _=>rfl),(W.mg_of X G vM),gf,(gf.binds fun _ _ _ _ _ _=>F9 fun _ _ _=>rfl),(W.mg_of X G zA),jo,(jo.binds fun _ _ _ _ _ _=>BV fun _ _=>rfl),(W.mg_of X G Dv),oC,(oC.binds fun _ _ _ _ _ _=>vK fun _=>rfl),(W.mg_of X G Np),j8,(j8.binds fun _ _ _ _ _ _=>vK fun _=>rfl),dW,(dW.binds fun _ _ _ _ _ _=>BV fun _ _=>rfl),⟨vN,vO,dW.kp⟩,dm,(dm.binds fun _ _ _ _ _ _=>F9 fun _ _ _=>rfl),⟨uo,uq,dm.kp⟩,dn,(dn.binds fun _ _ _ _ _ _=>BV fun _ _=>rfl),⟨uu,uv,dn.kp⟩,dX,(dX.binds fun _ _ _ _ _ _=>TN fun _ _ _ _=>rfl),⟨vP,vQ,dX.kp⟩,eU,(eU.binds fun _ _ _ _ _ _=>vK fun _=>rfl),⟨xI,xJ,eU.kp⟩,ij,(ij.binds fun _ _ _ _ _ _=>vK fun _=>rfl),⟨B_,Ca,ij.kp⟩,eV,(eV.binds fun _ _ _ _ _ _=>F9 fun _ _ _=>rfl),⟨xK,xM,eV.kp⟩,j9,(j9.binds fun _ _ _ _ _ _=>TN fun _ _ _ _=>rfl),b8,(b8.binds fun _ _ _ _ _ _=>BV fun _ _=>rfl),⟨px,pA,b8.kp⟩,cv,(cv.binds fun _ _ _ _ _ _=>BV fun _ _=>rfl),⟨pS,pT,cv.kp⟩,dY,(dY.binds fun _ _ _ _ _ _=>F9 fun _ _ _=>rfl),⟨vR,vS,dY.kp⟩,cM,(cM.binds fun _ _ _ _ _ _=>F9 fun _ _ _=>rfl),⟨ra,rb,cM.kp⟩,cW,(cW.binds fun _ _ _ _ _ _=>F9 fun _ _ _=>rfl),⟨su,sv,cW.kp⟩,kR,(kR.binds fun _ _ _ _ _ _=>BV fun _ _=>rfl),gg,(gg.binds fun _ _ _ _ _ _=>vK fun _=>rfl),⟨zB,zC,gg.kp⟩,cN,(cN.binds fun _ _ _ _ _ _=>vK fun _=>rfl),⟨rf,rg,cN.kp⟩,dZ,(dZ.binds fun _ _ _ _ _ _=>vK fun _=>rfl),⟨vT,vU,dZ.kp⟩,⟨J4,J5,J6,J7⟩,(W.mg_of X G Nq),⟨J8,B8,B9,J9⟩,az,aN,eW,⟨J_,Ka,Kb,Kc⟩,(W.mg_of X G Nr),⟨Kd,Cb,Cc,Ke⟩,cw,dw,eX,eY,bK,⟨Nt,Nu,Nv,Nw⟩,(W.mg_of X G PH),⟨Ny,Dx,Dy,Nz⟩,c8,b9,⟨uw,W.mg_of X G ux⟩,⟨zD,W.mg_of X G zE⟩,⟨xN,W.mg_of X G xO⟩,⟨Dz,W.mg_of X G DA⟩,⟨xP,W.mg_of X G xQ⟩,⟨F0,W.mg_of X G F1⟩,⟨sC,W.mg_of X G sD⟩,⟨DB,W.mg_of X G DC⟩,⟨PJ,W.mg_of X G PK⟩,⟨xR,W.mg_of X G xS⟩,⟨Kf,W.mg_of X G Kg⟩,⟨DD,W.mg_of X G DE⟩,⟨xT,W.mg_of X G xU⟩,⟨Cd,W.mg_of X G Ce⟩,⟨Cf,W.mg_of X G Cg⟩,⟨Ci,W.mg_of X G Cj⟩,⟨F2,W.mg_of X G F3⟩,⟨zF,W.mg_of X G zG⟩,⟨uy,W.mg_of X G uz⟩,⟨DF,W.mg_of X G DG⟩,⟨DH,W.mg_of X G DI⟩,⟨zH,W.mg_of X G zI⟩,⟨PL,W.mg_of X G PM⟩,⟨PN,W.mg_of X G PQ⟩,⟨Q8,W.mg_of X G Q9⟩,⟨PR,W.mg_of X G PU⟩,⟨Kh,W.mg_of X G Ki⟩,⟨Ii,W.mg_of X G Ij⟩,⟨NA,W.mg_of X G NB⟩,⟨Kj,W.mg_of X G Kk⟩,⟨PV,W.mg_of X G PX⟩,⟨PY,W.mg_of X G PZ⟩,⟨NC,W.mg_of X G ND⟩,⟨NF,W.mg_of X G NG⟩,⟨P0,W.mg_of X G P1⟩,⟨P2,W.mg_of X G P4⟩,⟨Kl,W.mg_of X G Km⟩,⟨Kn,W.mg_of X G Ko⟩,⟨P5,W.mg_of X G P6⟩,⟨Kp,W.mg_of X G Kq⟩,(W.ns_none_of X G Q3),(W.ns_none_of X G B3),(W.ns_none_of X G Q4),(W.ns_none_of X G Py),(W.ns_none_of X G Q5),(W.ns_none_of X G Q6),(W.ns_none_of X G Nf),(W.ns_none_of X G FX),(W.ns_none_of X G J1),(W.ns_none_of X G Q7),(W.ns_none_of X G Ng)⟩
theorem last{P:Program}{w:World}{K:W.Frag}{mg:Str->Option Value}{A:iL}{fa:Addr}(T:Txt K mg A)(hm:mg "answers" = some (.ref fa)) :
  ∃fd:FuncData,(∀(s:Shared) (us:List Value),us.length=(["calls"]:List Str).length->BindsTo s fd ⟨us,[]⟩ ((["calls"]:List Str).zip us))∧∀base:Heap,K.In base->base.Ns mainGlobals mg->a6 P w K mg base fe 27 fa fd ["calls"] (pw K):=by
 have e:=hm.symm.trans T.Mw;cases e;refine⟨A.mq,fun s us hu=>?_,fun base _ _=>JP T⟩;obtain⟨oc,od,kV,doc,pm,an,cdv,ct,osl,e,lk,hcd⟩:=T.oC.ex;rw[e];exact .of_eq (JS kV doc pm an cdv ct us hu)
theorem TQ{P:Program}{w:World}{K:W.Frag}{mg:Str->Option Value}{fa:Addr}(T:∃A:iL,Txt K mg A)(hm:mg "answers" = some (.ref fa)) :
  ∃fd:FuncData,(∀(s:Shared) (us:List Value),us.length=(["calls"]:List Str).length->BindsTo s fd ⟨us,[]⟩ ((["calls"]:List Str).zip us))∧∀base:Heap,K.In base->base.Ns mainGlobals mg->a6 P w K mg base fe 27 fa fd ["calls"] (pw K):=by
 obtain⟨A,T⟩:=T;exact last T hm
theorem handed{K:W.Frag}{H:Hp}{a:Addr}{xs:List V}(h:aP K H a xs)(o:Ef H):QQ K H a xs:=by
 rcases h with (h | h) | h
 ·rcases o a with e | ⟨_,_,e⟩
  ·rw[e]at h;cases h
  ·rw[e]at h;cases h
 ·exact .inl h
 ·exact .inr h
end Pc
end
section
namespace Pc
open PySem PySem.Spec PyProof.Rows L2
abbrev pg:Program:=PySem.Challenge.pw_pinchannel_s01_answers
def bG(p:Program)(i:Nat):Stmt:=p.main.body.getD i (.Pass ⟨0,0,0,0⟩)
abbrev M0:Nat:=11
abbrev TR:Option Value:=some (.ref 6)
abbrev N0:Nat:=6868
noncomputable def qg (p:Program):Program:=W.view p [104]
noncomputable def keys:List Addr:=3::2::(([403,402,362,361,278,277,104,103]:List Addr)++([517,510,503,496,489,482,477,470,463,456,449,442,435,428,421,414,400,393,386,379,352,347,340,335,330,325,320,313,306,299,294,289,275,268,261,256,251,246,234,227,222,215,210,205,200,193,188,183,178,171,164,159,152,147,142,135,130,125,120,113,101,94,87,80,73,66,59,52,38,33,28,21]:List Addr).flatMap fun f=>[f,f - 1])
noncomputable def Rx (p:Program):List (Str×Stmt):=("is_net_number",(bG p 18))::("is_pin",(bG p 19))::("are_pins",(bG p 20))::("renamed",(bG p 21))::("pieces_at",(bG p 24))::("pairs_above",(bG p 25))::("lists_below",(bG p 26))::("lists_above",(bG p 27))::("levels_of",(bG p 28))::("steps_down_to",(bG p 29))::("shortest_round",(bG p 30))::("ring_from",(bG p 31))::("ring_of",(bG p 32))::("is_row",(bG p 38))::("tracks_of",(bG p 39))::("must_part",(bG p 40))::("pairs_apart",(bG p 41))::("lists_apart",(bG p 42))::("faults_of",(bG p 43))::("follows",(bG p 44))::("fill_track",(bG p 45))::("left_edge_row",(bG p 46))::("least_track",(bG p 47))::("lifted",(bG p 48))::("mask_of",(bG p 51))::("row_with",(bG p 52))::("least_row",(bG p 54))::("nets_of",(bG p 56))::("pieces_of_net",(bG p 57))::("pieces_of",(bG p 58))::("densities_of",(bG p 59))::("density_of",(bG p 60))::("wires_along",(bG p 62))::("nets_at",(bG p 63))::("upright_wire",(bG p 64))::("upright_wires",(bG p 65))::("length_of",(bG p 66))::("count_touched",(bG p 67))::("as_list",(bG p 89))::("as_row",(bG p 90))::("answer_nets",(bG p 91))::("answer_density",(bG p 92))::("answer_above",(bG p 93))::("answer_levels",(bG p 94))::("answer_ring",(bG p 95))::("answer_left",(bG p 96))::("answer_least",(bG p 97))::("answer_draw",(bG p 98))::("answer_length",(bG p 99))::("answer_about_row",(bG p 100))::("answer_question",(bG p 101))::("answer_change",(bG p 102))::("answer_call",(bG p 103))::[]
noncomputable def F4 (p:Program):List (Str×Stmt):=(Rx p)++[(Str.ofString "answers",(bG p 104))]
noncomputable def Kr (p:Program):List (Str×Str×Stmt):=("__init__","Channel.__init__",(inClass (bG p 22) 0))::("has_net","Channel.has_net",(inClass (bG p 22) 1))::("put_rows","Channel.put_rows",(inClass (bG p 22) 2))::("put_mode","Channel.put_mode",(inClass (bG p 22) 3))::("put_pin","Channel.put_pin",(inClass (bG p 22) 4))::("mirror","Channel.mirror",(inClass (bG p 22) 5))::("turn","Channel.turn",(inClass (bG p 22) 6))::("rename","Channel.rename",(inClass (bG p 22) 7))::[]
noncomputable def Ks (p:Program):List (Str×Str×Stmt):=("__init__","Filling.__init__",(inClass (bG p 53) 0))::("ready_pieces","Filling.ready_pieces",(inClass (bG p 53) 1))::("full_tracks","Filling.full_tracks",(inClass (bG p 53) 2))::("is_full","Filling.is_full",(inClass (bG p 53) 3))::("least_rest","Filling.least_rest",(inClass (bG p 53) 4))::("find_rest","Filling.find_rest",(inClass (bG p 53) 5))::[]
noncomputable def NH (p:Program):List (Str×Str×Stmt):=("__init__","Reader.__init__",(inClass (bG p 88) 0))::("at_end","Reader.at_end",(inClass (bG p 88) 1))::("take_number","Reader.take_number",(inClass (bG p 88) 2))::("take_row","Reader.take_row",(inClass (bG p 88) 3))::[]
noncomputable def uA (p:Program):List (Str×List (Str×Str×Stmt)×List Str):=("Channel",(Kr p),["upper_pins","lower_pins","mode"])::("Filling",(Ks p),["piece_count","every_piece","parted","higher","known_rests"])::("Reader",(NH p),["numbers","place"])::[]
noncomputable def zT:List (Str×Int):=("NO_SUCH_COLUMN",(-1))::("NO_SUCH_NET",(-1))::("OUT_OF_RANGE",(-2))::("WRONG_ROW",(-3))::("NET_IS_THERE",(-7))::("HAS_RING",(-8))::("TOO_MANY_PIECES",(-9))::("NOT_RIGHT",(-10))::("DONE",0)::("MOST_COLUMNS",48)::("NO_PIN",0)::("LEAST_NET",1)::("GREATEST_NET",999)::("UPPER_SIDE",0)::("LOWER_SIDE",1)::("WHOLE_NETS",0)::("CUT_NETS",1)::("LEAST_TRACK",1)::("GREATEST_TRACK",200)::("ONE_TRACK",1)::("NOT_ABOVE",2)::("MOST_PIECES",8)::("ROWS",0)::("MODE",1)::("PIN",2)::("NETS",3)::("PIECES",4)::("DENSITY",5)::("ABOVE",6)::("LEVELS",7)::("RING",8)::("LEFT",9)::("LEAST",10)::("CHECK",11)::("LIFT",12)::("DRAW",13)::("LENGTH",14)::("MIRROR",15)::("TURN",16)::("RENAME",17)::[]
noncomputable def loose (p:Program):List Str:=zT.map (fun e=>e.1)++((Rx p).map (fun e=>e.1)++(["Channel","Filling","Reader","UnknownCall"]:List Str))
noncomputable def F5:List Str:=["all","isinstance","len","list","max","min","range","reversed","sorted","sum","tuple"]
noncomputable def fixed (fd:FuncData):Str×Str×Arguments×FuncBody×Scope×Addr×List (Str×Addr)×Value×Addr:=(fd.name,fd.qualname,fd.params,fd.body,fd.scope,fd.globals,fd.closure,fd.defaults,fd.builtins)
noncomputable abbrev Li (x qual:Str) (st:Stmt):FuncData:=W.fnOf x qual (rJ st) (oT st) (aj st) .none .none .none .none none .none .none
noncomputable def zU (K:W.Frag) (f:Addr) (qual:Str):=match K.lookup f with
 | some ⟨_,_,.func fd,_⟩=>some (fixed fd,W.codeIn K fd.code qual,W.keepIn K (.ref f))
 | _=>none
noncomputable def zV (K:W.Frag) (x:Str):=match W.nsIn K mainGlobals x with
 | some (some (.ref f))=>zU K f x
 | _=>none
noncomputable def vV (K:W.Frag) (C:Addr) (x qual:Str):=match W.findIn K (.ref C) x with
 | some (some (.ref f))=>(match W.isFn K (.ref f)with
  | true=>zU K f qual
  | false=>none)
 | _=>none
noncomputable def zW (K:W.Frag) (x:Str) (ms:List (Str×Str×Stmt)) (ns:List Str):=match W.nsIn K mainGlobals x with
 | some (some (.ref C))=>some ((W.plainGet K C Str.empty,W.hasDictIn K C,W.plainOver K C,W.findIn K (.ref C) "__setattr__",W.makesIn K C,W.keepIn K (.ref C)),ms.map (fun(m:Str×Str×Stmt)=>vV K C m.1 m.2.1),ns.map (fun a=>W.findIn K (.ref C) a))
 | _=>none
noncomputable def zX (K:W.Frag) (x:Str):Option Int:=match W.nsIn K mainGlobals x with
 | some (some (.int v _))=>some v
 | _=>none
noncomputable def Lj (p:Program) (K:W.Frag):=((F4 p).map (fun e=>zV K e.1),(uA p).map (fun c=>zW K c.1 c.2.1 c.2.2),zT.map (fun e=>zX K e.1),F5.map (fun x=>W.nsIn K mainGlobals x))
noncomputable def rj (x qual:Str) (st:Stmt):=some (fixed (Li x qual st),true,true)
noncomputable def zY (ms:List (Str×Str×Stmt)) (ns:List Str):=some ((true,true,true,some (some (Value.builtin "object.__setattr__")),true,true),ms.map (fun m=>rj m.1 m.2.1 m.2.2),ns.map (fun _=>some (none:Option Value)))
noncomputable def Lk (p:Program):=((F4 p).map (fun e=>rj e.1 e.1 e.2),(uA p).map (fun c=>zY c.2.1 c.2.2),zT.map (fun e=>some e.2),F5.map (fun _=>some (none:Option Value)))
noncomputable def xV (l:List Addr) (h:Heap):W.Frag:=l.filterMap fun a=>(h.get? a).map fun o=>(a,o)
noncomputable def NI (tb:String->Option Builtin) (p:Program) (w:World) (m:Nat) (ann:Option Value) (n:Nat):W.SharedT->Thread->Option W.SharedT:=
 @Nat.rec (fun _=>W.SharedT->Thread->Option W.SharedT) (fun _ _=>none) (fun _ ih s t=>match W.through t with
  | true=>some s
  | false=>match W.stepOk m ann t with
   | false=>none
   | true=>match W.stepT (denote tb) p w s t with
    | some (s',t')=>ih s' t'
    | none=>none) n
noncomputable def TU:List Obj->Nat->W.BT->W.BT
 | [],_,t=>t
 | o::r,i,t=>TU r (i+1) (t.ins i o)
noncomputable def U0 (w:World) (os:OsState):W.SharedT:=⟨TU (W.boot_heap w.params).objs.toList 0 .nil,M0,(W.boot_heap w.params).life,Array.mk [],W.boot_drawn,W.boot_toks,os⟩
section
variable{β:Type}
noncomputable def F6 (l:List DictEntry):(List DictEntry->β)->β:=
 @List.rec DictEntry (fun _=>(List DictEntry->β)->β) (fun k=>k []) (fun e _ ih k=>match e with
  | ⟨h,.str ⟨⟨c⟩⟩ t,v⟩=>ih fun r=>k (⟨h,.str ⟨⟨c⟩⟩ t,v⟩::r)
  | ⟨h,x,v⟩=>ih fun r=>k (⟨h,x,v⟩::r)) l
noncomputable def Kt (o:Obj) (k:Obj->β):β:=match o with
 | ⟨c,d,.dict ⟨es⟩ n,sl⟩=>F6 es fun l=>k ⟨c,d,.dict ⟨l⟩ n,sl⟩
 | ⟨c,d,.func ⟨f1,f2,f3,f4,f5,f6,f7,f8,f9,f10,f11,f12,f13,f14,f15⟩,sl⟩=>k ⟨c,d,.func ⟨f1,f2,f3,f4,f5,f6,f7,f8,f9,f10,f11,f12,f13,f14,f15⟩,sl⟩
 | ⟨c,d,x,sl⟩=>k ⟨c,d,x,sl⟩
noncomputable def F7 (l:List Obj):(List Obj->β)->β:=
 @List.rec Obj (fun _=>(List Obj->β)->β) (fun k=>k []) (fun o _ ih k=>Kt o fun x=>ih fun r=>k (x::r)) l
theorem EA:∀(l:List DictEntry) (k:List DictEntry->β),F6 l k=k l
 | [],_=>rfl
 | e::l,k=>by
  have h:F6 (e::l) k=F6 l fun r=>k (e::r):=by
   obtain⟨h,x,v⟩:=e;cases x <;> rfl
  rw[h,EA l]
theorem NJ(o:Obj)(k:Obj->β):Kt o k=k o:=by
 obtain⟨c,d,x,sl⟩:=o;cases x <;> first | rfl | exact EA _ _
theorem EB:∀(l:List Obj) (k:List Obj->β),F7 l k=k l
 | [],_=>rfl
 | o::l,k=>by
  have h:F7 (o::l) k=Kt o fun x=>F7 l fun r=>k (x::r):=rfl
  rw[h,NJ,EB l]
end
noncomputable def P7 {β:Type} (p:Program) (w:World) (m:Nat) (ann:Option Value) (N:Nat) (st:W.SharedT) (f:Shared->β):Option β:=(NI PySem.treeTable p w m ann N st (W.topStub p)).map fun s=>F7 (s.tree.list s.n) fun l=>f ⟨⟨⟨l⟩,s.life⟩,s.gens,s.drawn,s.toks,s.os⟩
noncomputable abbrev Q_ {β:Type} (p:Program) (w:World) (os:OsState) (f:Shared->β):Option β:=P7 p w M0 TR N0 (U0 w os) f
abbrev Ry(p:Program):List Str:=importedModules p.main.body
noncomputable def P8 (p:Program) (w:World) (s:Shared):Bool:=W.staticsOk (Ry p) (W.boot_heap w.params) s.heap && W.namesBound p s.heap && W.gensDone s && W.laidKept (W.boot_heap w.params) s.heap
noncomputable abbrev Rz (p:Program) (s:Shared):=W.openSeen (qg p) (loose p) (Ry p) (W.recOk []) true s
noncomputable abbrev RA (p:Program):=W.openGood (qg p) (loose p)
noncomputable def fA (p:Program) (w:World) (s:Shared):=((P8 p) w s,(Rz p) s)
noncomputable def gA (p:Program):=(true,(RA p))
noncomputable def fG (p:Program) (_:World) (s:Shared):=(Lj p) (xV keys s.heap)
noncomputable def gG (p:Program):=(Lk p)
noncomputable def lA (p:Program) (w:World) (os:OsState):=(Q_ p) w os ((fA p) w)
noncomputable def rA (p:Program):=some (gA p)
noncomputable def lG (p:Program) (w:World) (os:OsState):=(Q_ p) w os ((fG p) w)
noncomputable def rG (p:Program):=some (gG p)
theorem xW(h:Heap):∀l:List Addr,(xV l h).In h
 | [],a,o,e=>by cases e
 | b::r,a,o,e=>by
  unfold xV at e;rw[List.filterMap_cons]at e;cases hb:h.get? b with
  | none=>
   rw[hb]at e;exact xW h r a o e
  | some ob=>
   rw[hb]at e;have e':List.lookup a ((b,ob)::xV r h)=some o:=e;rw[List.lookup_cons]at e';cases q:(a == b)with
   | true=>
    rw[q]at e';rw[beq_iff_eq.mp q,hb];exact e'
   | false=>
    rw[q]at e';exact xW h r a o e'
theorem P9{fd:FuncData}{x qual:Str}{st:Stmt}(h:fixed fd=fixed (Li x qual st)):fd=W.fnOf x qual (rJ st) (oT st) (aj st) .none fd.kwdefaults fd.doc fd.pyModule fd.annotations fd.code fd.closureTuple:=by
 obtain⟨f1,f2,f3,f4,f5,f6,f7,f8,f9,f10,f11,f12,f13,f14,f15⟩:=fd;simp only[fixed,Prod.mk.injEq]at h;obtain⟨rfl,rfl,rfl,rfl,rfl,rfl,rfl,rfl,rfl⟩:=h;rfl
theorem Ck{K:W.Frag}{f:Addr}{x qual:Str}{st:Stmt}(h:zU K f qual=rj x qual st):∃fd,fk K x qual st f fd:=by
 unfold zU rj at h
 split at h
 ·rename_i oc od fd osl lk;obtain⟨h1,h2⟩:=Prod.mk.inj (Option.some.inj h);obtain⟨h3,h4⟩:=Prod.mk.inj h2;exact⟨fd,⟨oc,od,_,_,_,_,_,_,osl,P9 h1,lk,h3⟩,h4⟩
 ·cases h
theorem Ku{K:W.Frag}{x:Str}{st:Stmt}(h:zV K x=rj x x st):bp K x st:=by
 unfold zV at h
 split at h
 ·rename_i f e;obtain⟨fd,F⟩:=Ck h;exact⟨f,fd,e,F⟩
 ·cases h
theorem Ik{K:W.Frag}{C:Addr}{x qual:Str}{st:Stmt}(h:vV K C x qual=rj x qual st):fc K C x qual st:=by
 unfold vV at h
 split at h
 ·rename_i f e
  split at h
  ·rename_i e2;obtain⟨fd,F⟩:=Ck h;exact⟨f,fd,e,e2,F⟩
  ·cases h
 ·cases h
def Sw(K:W.Frag):List (Str×Stmt)->Prop
 | []=>True
 | e::r=>bp K e.1 e.2∧Sw K r
theorem Ll{K:W.Frag}:∀{l:List (Str×Stmt)},l.map (fun e=>zV K e.1)=l.map (fun e=>rj e.1 e.1 e.2)->Sw K l
 | [],_=>trivial
 | _::_,h=>⟨Ku (List.cons.inj h).1,Ll (List.cons.inj h).2⟩
def Sx(K:W.Frag)(C:Addr):List (Str×Str×Stmt)->Prop
 | []=>True
 | e::r=>fc K C e.1 e.2.1 e.2.2∧Sx K C r
theorem Lm{K:W.Frag}{C:Addr}:∀{l:List (Str×Str×Stmt)},l.map (fun m=>vV K C m.1 m.2.1)=l.map (fun m=>rj m.1 m.2.1 m.2.2)->Sx K C l
 | [],_=>trivial
 | _::_,h=>⟨Ik (List.cons.inj h).1,Lm (List.cons.inj h).2⟩
def Sy(K:W.Frag)(C:Addr):List Str->Prop
 | []=>True
 | a::r=>W.findIn K (.ref C) a=some none∧Sy K C r
theorem Ln{K:W.Frag}{C:Addr}:∀{l:List Str},l.map (fun a=>W.findIn K (.ref C) a)=l.map (fun _=>some (none:Option Value))->Sy K C l
 | [],_=>trivial
 | _::_,h=>⟨(List.cons.inj h).1,Ln (List.cons.inj h).2⟩
def Sz(K:W.Frag):List (Str×List (Str×Str×Stmt)×List Str)->Prop
 | []=>True
 | c::r=>(∃C:Addr,W.nsIn K mainGlobals c.1=some (some (.ref C))∧(W.plainGet K C Str.empty=true∧W.hasDictIn K C=true∧W.plainOver K C=true∧W.findIn K (.ref C) "__setattr__" = some (some (.builtin "object.__setattr__")))∧W.makesIn K C=true∧W.keepIn K (.ref C)=true∧Sx K C c.2.1∧Sy K C c.2.2)∧Sz K r
theorem Lo{K:W.Frag}:∀{l:List (Str×List (Str×Str×Stmt)×List Str)},l.map (fun c=>zW K c.1 c.2.1 c.2.2)=l.map (fun c=>zY c.2.1 c.2.2)->Sz K l
 | [],_=>trivial
 | c::_,h=>by
  refine⟨?_,Lo (List.cons.inj h).2⟩;have h1:zW K c.1 c.2.1 c.2.2=zY c.2.1 c.2.2:=(List.cons.inj h).1;unfold zW zY at h1
  split at h1
  ·rename_i C e;obtain⟨a1,a2⟩:=Prod.mk.inj (Option.some.inj h1);obtain⟨a2,a3⟩:=Prod.mk.inj a2;obtain⟨b1,a1⟩:=Prod.mk.inj a1;obtain⟨b2,a1⟩:=Prod.mk.inj a1;obtain⟨b3,a1⟩:=Prod.mk.inj a1;obtain⟨b4,a1⟩:=Prod.mk.inj a1;obtain⟨b5,b6⟩:=Prod.mk.inj a1;exact⟨C,e,⟨b1,b2,b3,b4⟩,b5,b6,Lm a2,Ln a3⟩
  ·cases h1
def SA(K:W.Frag):List (Str×Int)->Prop
 | []=>True
 | e::r=>(∃t,W.nsIn K mainGlobals e.1=some (some (.int e.2 t)))∧SA K r
theorem Kv{K:W.Frag}{x:Str}{v:Int}(h:zX K x=some v):∃t,W.nsIn K mainGlobals x=some (some (.int v t)):=by
 unfold zX at h
 split at h
 ·rename_i u t e;cases h;exact⟨t,e⟩
 ·cases h
theorem Lp{K:W.Frag}:∀{l:List (Str×Int)},l.map (fun e=>zX K e.1)=l.map (fun e=>some e.2)->SA K l
 | [],_=>trivial
 | _::_,h=>⟨Kv (List.cons.inj h).1,Lp (List.cons.inj h).2⟩
def AllB(K:W.Frag):List Str->Prop
 | []=>True
 | x::r=>W.nsIn K mainGlobals x=some none∧AllB K r
theorem allB_of{K:W.Frag}:∀{l:List Str},l.map (fun x=>W.nsIn K mainGlobals x)=l.map (fun _=>some (none:Option Value))->AllB K l
 | [],_=>trivial
 | _::_,h=>⟨(List.cons.inj h).1,allB_of (List.cons.inj h).2⟩
def Facts(K:W.Frag):Prop:=Sw K (F4 pg)∧Sz K (uA pg)∧SA K zT∧AllB K F5
theorem P_{K:W.Frag}(h:Lj pg K=Lk pg):Facts K:=by
 obtain⟨h1,h2⟩:=Prod.mk.inj h;obtain⟨h2,h3⟩:=Prod.mk.inj h2;obtain⟨h3,h4⟩:=Prod.mk.inj h3;exact⟨Ll h1,Lo h2,Lp h3,allB_of h4⟩
theorem TV:lA=lA:=rfl
theorem TX:rA=rA:=rfl
theorem TY:lG=lG:=rfl
theorem TZ:rG=rG:=rfl
name_quick PclA for Pc.lA by Pc.TV
name_quick PcrA for Pc.rA by Pc.TX
name_quick PclG for Pc.lG by Pc.TY
name_quick PcrG for Pc.rG by Pc.TZ
theorem qA(w:World)(os:OsState):W.Fast.PclA pg w os=W.Fast.PcrA pg:=by kernel_rfl
theorem qG(w:World)(os:OsState):W.Fast.PclG pg w os=W.Fast.PcrG pg:=by kernel_rfl
theorem sA(w:World)(os:OsState):Q_ pg w os (fA pg w)=some (gA pg):=(congrFun (congrFun (congrFun W.Fast.PclA_eq pg) w) os).trans ((qA w os).trans (congrFun W.Fast.PcrA_eq pg).symm)
theorem sG(w:World)(os:OsState):Q_ pg w os (fG pg w)=some (gG pg):=(congrFun (congrFun (congrFun W.Fast.PclG_eq pg) w) os).trans ((qG w os).trans (congrFun W.Fast.PcrG_eq pg).symm)
section
variable{tb:String->Option Builtin}{p:Program}{w:World}{m:Nat}{ann:Option Value}
theorem Lq:∀(n:Nat) (s z:W.SharedT) (t:Thread),NI tb p w m ann n s t=some z->W.topRun tb p w m ann n s.abs t=some z.abs
 | 0,_,_,_,h=>by cases h
 | n+1,s,z,t,h=>by
  have g:(match W.through t with
   | true=>some s
   | false=>match W.stepOk m ann t with
    | false=>none
    | true=>match W.stepT (denote tb) p w s t with
     | some (a,b)=>NI tb p w m ann n a b
     | none=>none)=some z:=h
  unfold W.topRun;cases e1:W.through t with
  | true=>
   rw[e1]at g;rw[Option.some.inj g]
  | false=>
   rw[e1]at g;cases e2:W.stepOk m ann t with
   | false=>rw[e2]at g;cases g
   | true=>
    rw[e2]at g;cases e3:W.stepT (denote tb) p w s t with
    | none=>rw[e3]at g;cases g
    | some x=>
     obtain⟨a,b⟩:=x;rw[e3]at g
     dsimp only
     rw[W.stepT_spec e3];exact Lq n a z b g
end
theorem Lr{β:Type}{p:Program}{w:World}{m N:Nat}{ann:Option Value}{s:W.SharedT}{f:Shared->β}{g:β}{z:W.SharedT}(r:NI PySem.treeTable p w m ann N s (W.topStub p)=some z)(h:P7 p w m ann N s f=some g):f z.abs=g:=by
 unfold P7 at h;rw[r]at h;exact(EB _ _).symm.trans (Option.some.inj h)
theorem Qa{β:Type}{p:Program}{w:World}{m N:Nat}{ann:Option Value}{s:W.SharedT}{f:Shared->β}{g:β}(h:P7 p w m ann N s f=some g):∃z,NI PySem.treeTable p w m ann N s (W.topStub p)=some z:=by
 unfold P7 at h;obtain⟨z,e,-⟩:=Option.map_eq_some_iff.mp h;exact⟨z,e⟩
theorem Ra{p q:Program}{loose:List Str}{Xt:Shared->Bool}{α:Type}{Yf:Shared->α}{Ya:World->α}{N m:Nat}{ann:Option Value}{st:World->OsState->W.SharedT}
  (hst:∀w os,(st w os).abs=⟨W.boot_heap w.params,Array.mk [],W.boot_drawn,W.boot_toks,os⟩)
  (hs:∀w:World,((W.boot_heap w.params).isNs mainGlobals,(W.boot_heap w.params).objs.size,(W.boot_heap w.params).nsMap mainGlobals "__annotations__")=(true,m,ann))
  (ho:∀w:World,(W.fencedOpening PySem.treeTable p w N).map (fun s=>(s.heap,s.gens,s.drawn,s.toks))=some (W.boot_heap w.params,Array.mk [],W.boot_drawn,W.boot_toks))
  (hr:∀w os,∃z,NI PySem.treeTable p w m ann N (st w os) (W.topStub p)=some z∧(W.staticsOk (importedModules p.main.body) (W.boot_heap w.params) z.abs.heap && W.namesBound p z.abs.heap && W.gensDone z.abs && W.laidKept (W.boot_heap w.params) z.abs.heap)=true∧W.openSeen q loose (importedModules p.main.body) Xt true z.abs=W.openGood q loose∧Yf z.abs=Ya w):W.LeftO p q loose Xt Yf Ya N:=fun w=>by
 obtain⟨⟨h,gs,d,k,os⟩,e,e'⟩:=Option.map_eq_some_iff.mp (ho w);obtain⟨q1,p2⟩:=Prod.mk.inj e';obtain⟨q2,p3⟩:=Prod.mk.inj p2;obtain⟨q3,q4⟩:=Prod.mk.inj p3
 dsimp only at q1 q2 q3 q4
 subst q1 q2 q3 q4;obtain⟨z,r,a1,s1,s2⟩:=hr w os;have r3:=Lq _ _ _ _ r;rw[hst]at r3;obtain⟨z1,z2⟩:=Prod.mk.inj (hs w);obtain⟨z2,z3⟩:=Prod.mk.inj z2;have t:W.topFrom PySem.treeTable p w N ⟨W.boot_heap w.params,Array.mk [],W.boot_drawn,W.boot_toks,os⟩=some z.abs:=by
  unfold W.topFrom
  dsimp only
  rw[z1,z2,z3,r3]
  show(match (W.staticsOk _ _ z.abs.heap && W.namesBound p z.abs.heap && W.gensDone z.abs && W.laidKept _ z.abs.heap)with
   | true=>some z.abs
   | false=>none)=some z.abs
  rw[a1]
 unfold W.openEnds;rw[e,Option.bind_some,t];exact congrArg some (Prod.ext s1 s2)
theorem Rb(w:World)(os:OsState):(U0 w os).abs=⟨W.boot_heap w.params,Array.mk [],W.boot_drawn,W.boot_toks,os⟩:=by kernel_rfl
theorem T1(w:World):((W.boot_heap w.params).isNs mainGlobals,(W.boot_heap w.params).objs.size,(W.boot_heap w.params).nsMap mainGlobals "__annotations__")=(true,M0,TR):=by kernel_rfl
theorem T2:∀w:World,(W.fencedOpening PySem.treeTable pg w N0).map (fun s=>(s.heap,s.gens,s.drawn,s.toks))=some (W.boot_heap w.params,Array.mk [],W.boot_drawn,W.boot_toks):=
 W.boot_open (by kernel_rfl) (by decide) (fun s=>by kernel_rfl)
theorem Rc{A B:Type}{a b:A}{c d:B}(h:(a,c)=(b,d)):a=b∧c=d:=Prod.mk.inj h
theorem left:W.LeftO pg (qg pg) (loose pg) (W.recOk []) (fun s=>Lj pg (xV keys s.heap)) (fun _=>Lk pg) N0:=by
 refine Ra (st:=U0) Rb T1 T2 fun w os=>?_
 obtain⟨z,r⟩:=Qa (sA w os);have h:=Lr r (sA w os);have h3:=Lr r (sG w os);obtain⟨h1,h2⟩:=Rc (show(P8 pg w z.abs,Rz pg z.abs)=(true,RA pg) from h);exact⟨z,r,h1,h2,h3⟩
theorem SD{K:W.Frag}{h:Heap}{mg:Str->Option Value}(X:K.In h)(G:h.Ns mainGlobals mg)(F:Facts K):∃A:iL,Txt K mg A:=by
 obtain⟨⟨d0,d1,d2,d3,d4,d5,d6,d7,d8,d9,d10,d11,d12,d13,d14,d15,d16,d17,d18,d19,d20,d21,d22,d23,d24,d25,d26,d27,d28,d29,d30,d31,d32,d33,d34,d35,d36,d37,d38,d39,d40,d41,d42,d43,d44,d45,d46,d47,d48,d49,d50,d51,d52,d53,-⟩,⟨⟨C0,a0,b0,c0,k0,⟨m0_0,m0_1,m0_2,m0_3,m0_4,m0_5,m0_6,m0_7,-⟩,⟨n0_0,n0_1,n0_2,-⟩⟩,⟨C1,a1,b1,c1,k1,⟨m1_0,m1_1,m1_2,m1_3,m1_4,m1_5,-⟩,⟨n1_0,n1_1,n1_2,n1_3,n1_4,-⟩⟩,⟨C2,a2,b2,c2,k2,⟨m2_0,m2_1,m2_2,m2_3,-⟩,⟨n2_0,n2_1,-⟩⟩,-⟩,⟨g0,g1,g2,g3,g4,g5,g6,g7,g8,g9,g10,g11,g12,g13,g14,g15,g16,g17,g18,g19,g20,g21,g22,g23,g24,g25,g26,g27,g28,g29,g30,g31,g32,g33,g34,g35,g36,g37,g38,g39,-⟩,⟨f0,f1,f2,f3,f4,f5,f6,f7,f8,f9,f10,-⟩⟩:=F;exact all_mk X G d0 d1 d2 d3 d4 d5 d6 d7 d8 d9 d10 d11 d12 d13 d14 d15 d16 d17 d18 d19 d20 d21 d22 d23 d24 d25 d26 d27 d28 d29 d30 d31 d32 d33 d34 d35 d36 d37 d38 d39 d40 d41 d42 d43 d44 d45 d46 d47 d48 d49 d50 d51 d52 d53 ⟨C0,a0,b0,c0,k0,m0_0,m0_1,m0_2,m0_3,m0_4,m0_5,m0_6,m0_7,n0_0,n0_1,n0_2⟩ ⟨C1,a1,b1,c1,k1,m1_0,m1_1,m1_2,m1_3,m1_4,m1_5,n1_0,n1_1,n1_2,n1_3,n1_4⟩ ⟨C2,a2,b2,c2,k2,m2_0,m2_1,m2_2,m2_3,n2_0,n2_1⟩ g0 g1 g2 g3 g4 g5 g6 g7 g8 g9 g10 g11 g12 g13 g14 g15 g16 g17 g18 g19 g20 g21 g22 g23 g24 g25 g26 g27 g28 g29 g30 g31 g32 g33 g34 g35 g36 g37 g38 g39 f0 f1 f2 f3 f4 f5 f6 f7 f8 f9 f10
end Pc
end
open PySem PySem.W PyProof.Rows
set_option maxRecDepth 100000 in
set_option maxHeartbeats 0 in
theorem PySem.Challenge.cw_pinchannel_s01_answers_holds : PySem.Challenge.rw_pinchannel_s01_answers.Holds := by
 refine PySem.W.holds_os (r:=PySem.Challenge.rw_pinchannel_s01_answers) (q:=Pc.qg Pc.pg) (loose:=Pc.loose Pc.pg) (Xt:=PySem.W.recOk []) (XP:=fun _ _=>True) (Yf:=fun s=>Pc.Lj Pc.pg (Pc.xV Pc.keys s.heap)) (Ya:=fun _=>Pc.Lk Pc.pg) (YP:=fun _ h=>∃K:PySem.W.Frag,K.In h∧Pc.Facts K) (N:=Pc.N0) Pc.left (fun _ s e=>⟨_,Pc.xW s.heap Pc.keys,Pc.P_ e⟩) (fun _ _ _ ⟨K,x,f⟩ k=>⟨K,x.keeps k,f⟩) (fun _ _=>trivial) (fun _ _ _ _ _=>trivial) (by rfl) (by rfl) (by rfl) (fun s e=>PySem.W.recFacts_of e) PySem.W.os_shapes (by decide +kernel) (by decide +kernel) ⟨rfl,rfl,rfl,rfl,rfl,by decide +kernel⟩ ⟨[.list [.int 4]],by decide +kernel,by decide +kernel⟩ ?_;intro w s1 s2 mg mb G Y;obtain⟨K,hK,hF⟩:=Y;refine L2.Ja (r:=PySem.Challenge.rw_pinchannel_s01_answers) (k:=27) (K:=fun _=>K) (YP:=fun _ h=>K.In h∧Pc.Facts K) (CX:=L2.fe) (ps:=["calls"]) (sp:=Pc.pw) (by decide +kernel) rfl rfl ⟨rfl,by decide,by decide⟩ (fun w h Y=>Y.1) ?F ?S (fun _ _ _ _ z=>z) w s1 s2 mg mb G ⟨hK,hF⟩
 case S=>
  intro K H xs a hO hwi hask hx;cases hx with
  | cons h1 h2=>
   cases h2;cases h1 with
   | lst hs ha=>
    have e:=L2.K5 a.1 _ ha;subst e;exact⟨_,a.1,rfl,Pc.handed hs hO,hask,fun H' t ht=>.lst (L2.aP.of ht) (L2.K4 _)⟩
 case F=>
  intro w mg fa h Y KX G hmg;exact Pc.TQ (Pc.SD KX G Y.2) hmg
