/-
  PROVED HERE: a source of inputs of a log (the model of a repl
-/
import Derived.Test.YtfmbebofllgmoaaGreatDoorSreplaysas
import Derived.Test.YtfmbebofllgmoaaGreatDoorSreplaysat
namespace Go.Proofs.YtfmbebofllgmoaaGreatDoor
open Go.RowKit
def VL:={l:List Inp // ∀x,x∈l->Fit x}
def zE3 (x:Inp):Rep:=⟨x.1,x.2.1,x.2.2.1,zs x.2.2.2,0⟩
def nK:Rep:=⟨0,0,0,[],6⟩
def VL.tail (y:VL):VL:=⟨y.1.tail,fun x h=>y.2 x (List.mem_of_mem_tail h)⟩
def vW (l:List Inp) (k o:Int):Rep:=match l with
 | []=>xB
 | x::_=>if x.1=5/\x.2.2.1=5 then xB else if (x.1:Int)≠k\/(x.2.1:Int)≠o then nK else zE3 x
def mQ (y:VL) (k o:Int):Rep×VL:=(vW y.1 k o,y.tail)
theorem oR {l:List Inp} {k o:Int} (h:(vW l k o).e=0):∃x r,l=x::r/\vW l k o=zE3 x/\(x.1:Int)=k/\(x.2.1:Int)=o:=by
 cases l with
 | nil=>simp [vW,xB] at h
 | cons x r=>
  simp only [vW] at h ⊢
  by_cases h5:x.1=5/\x.2.2.1=5
  ·rw [if_pos h5] at h;simp [xB] at h
  ·rw [if_neg h5] at h ⊢
   by_cases hk:(x.1:Int)≠k\/(x.2.1:Int)≠o
   ·rw [if_pos hk] at h;simp [nK] at h
   ·rw [if_neg hk]
    exact⟨x,r,rfl,rfl,by omega,by omega⟩
theorem jO (l:List Inp) (k o:Int):(vW l k o).e=0\/vW l k o=xB\/vW l k o=nK:=by
 cases l with
 | nil=>exact .inr (.inl rfl)
 | cons x r=>
  simp only [vW]
  split
  ·exact .inr (.inl rfl)
  ·split
   ·exact .inr (.inr rfl)
   ·exact .inl rfl
theorem Fit.clock {x:Inp} (h:Fit x) (e:x.1=1):x.2.2.1<=1099511627776:=by
 rcases h with h | h | h | h | h
 ·exact h.2.2.1
 all_goals (have:=h.1;omega)
theorem Fit.pick {x:Inp} (h:Fit x) (e:x.1=3):x.2.2.1<x.2.1:=by
 rcases h with h | h | h | h | h
 ·have:=h.1;omega
 ·have:=h.1;omega
 ·exact h.2.2.2.1
 ·have:=h.1;omega
 ·have:=h.1;omega
theorem Fit.files {x:Inp} (h:Fit x):x.2.2.2.length<=8/\∀f,f∈x.2.2.2->f<8:=by
 have nil:x.2.2.2=[]->x.2.2.2.length<=8/\∀f,f∈x.2.2.2->f<8:=fun e=>by rw [e];exact⟨by simp,fun _ h=>absurd h (by simp)⟩
 rcases h with h | h | h | h | h
 ·exact nil h.2.2.2
 ·obtain⟨g1,g2⟩:=oT x.2.2.2 (-1) (by omega) (by omega) h.2.2.2
  exact⟨by omega,g2⟩
 ·exact nil h.2.2.2.2
 ·exact nil h.2.2.2.2
 ·exact nil h.2.2.2.2
theorem iJ:uF mQ (fun y=>y.1.length):=by
 refine⟨?_,?_,?_,?_,?_,?_⟩
 ·intro y k o;show y.1.tail.length<=y.1.length;rw [List.length_tail];omega
 ·intro y h
  obtain⟨x,r,e,_⟩:=oR h
  show y.1.tail.length<y.1.length
  rw [e];simp
 ·intro y h
  obtain⟨x,r,e,e2,hk,_⟩:=oR h
  have hx:=(y.2 x (by rw [e];exact List.mem_cons_self ..)).clock (by omega)
  show 0<=(vW y.1 1 0).n/\(vW y.1 1 0).n<=1099511627776
  rw [e2]
  show (0:Int)<=(x.2.2.1:Int)/\(x.2.2.1:Int)<=1099511627776
  omega
 ·intro y n _ _ h
  obtain⟨x,r,e,e2,hk,ho⟩:=oR h
  have hx:=(y.2 x (by rw [e];exact List.mem_cons_self ..)).pick (by omega)
  show 0<=(vW y.1 3 n).n/\(vW y.1 3 n).n<n
  rw [e2]
  show (0:Int)<=(x.2.2.1:Int)/\(x.2.2.1:Int)<n
  omega
 ·intro y z h
  change z∈(vW y.1 2 0).files at h
  rcases jO y.1 2 0 with h0 | h0 | h0
  ·obtain⟨x,r,e,e2,_⟩:=oR h0
   rw [e2] at h
   obtain⟨f,hf,rfl⟩:=List.mem_map.1 h
   have:=(y.2 x (by rw [e];exact List.mem_cons_self ..)).files.2 f hf
   exact⟨Int.natCast_nonneg f,by show (f:Int)<8;omega⟩
  ·rw [h0] at h;simp [xB] at h
  ·rw [h0] at h;simp [nK] at h
 ·intro y
  show (vW y.1 2 0).files.length<=8
  rcases jO y.1 2 0 with h0 | h0 | h0
  ·obtain⟨x,r,e,e2,_⟩:=oR h0
   rw [e2]
   have:=(y.2 x (by rw [e];exact List.mem_cons_self ..)).files.1
   show (zs x.2.2.2).length<=8
   simp [zs];exact this
  ·rw [h0];simp [xB]
  ·rw [h0];simp [nK]
theorem zM7:nW mQ:=by
 intro y k o
 show 0<=(vW y.1 k o).e/\(vW y.1 k o).e<=6
 rcases jO y.1 k o with h0 | h0 | h0
 ·rw [h0];omega
 ·rw [h0];simp [xB]
 ·rw [h0];simp [nK]
structure GS (σ:Type) where
 x:σ
 l:List Inp
 z:Bool
def rY (R:Rep):Inp:=(R.kind.toNat,R.of.toNat,R.n.toNat,R.files.map Int.toNat)
def lX {σ:Type} (ask:σ->Int->Int->Rep×σ) (y:GS σ) (k o:Int):Rep×GS σ:=
 if y.z then (xB,y) else if (ask y.x k o).1.e=0 then ((ask y.x k o).1,⟨(ask y.x k o).2,y.l++[rY (ask y.x k o).1],false⟩) else ((ask y.x k o).1,⟨(ask y.x k o).2,y.l,true⟩)
section
variable {σ:Type} {ask:σ->Int->Int->Rep×σ} {may:Int->Int->Prop}
theorem zT5 {y:GS σ} {k o:Int} (hz:y.z=false) (h:(ask y.x k o).1.e=0):lX ask y k o=((ask y.x k o).1,⟨(ask y.x k o).2,y.l++[rY (ask y.x k o).1],false⟩):=by
 unfold lX;rw [hz,if_neg (by simp),if_pos h]
theorem yB7 {y:GS σ} {k o:Int} (hz:y.z=false) (h:(ask y.x k o).1.e≠0):lX ask y k o=((ask y.x k o).1,⟨(ask y.x k o).2,y.l,true⟩):=by
 unfold lX;rw [hz,if_neg (by simp),if_neg h]
theorem zT4 (h:zH6 ask):zH6 (lX ask):=by
 intro y
 unfold lX
 split
 ·simp [xB]
 ·split
  ·exact h y.x
  ·exact h y.x
theorem zT6 (hm:pT may) (hM8:zH6 ask) {p:Pg} (hp:tY p) {I:Int->GS σ->Prop} {E:Int->Prop} {x:σ} (h0:I 0 ⟨x,[],false⟩)
  (hs:∀h y k o,may k o->y.z=false->I h y->(ask y.x k o).1.e=0->I (wrap64 (h+1)) ⟨(ask y.x k o).2,y.l++[rY (ask y.x k o).1],false⟩)
  (he:∀h y k o,may k o->y.z=false->I h y->(ask y.x k o).1.e≠0->I h ⟨(ask y.x k o).2,y.l,true⟩/\E (ask y.x k o).1.e) (k:Nat) (f:Int) :
  ∃y,uS (lX ask) p k f ⟨x,[],false⟩=((uS ask p k f x).1,y)/\y.x=(uS ask p k f x).2/\I (uS ask p k f x).1.heard y/\(y.z=true->E (uS ask p k f x).1.fin):=by
 have A:pQ ask (lX ask) may (fun _=>True) (fun h x y=>y.x=x/\y.z=false/\I h y) (fun e h x y=>y.x=x/\I h y/\E e) (fun _ _=>False):=by
  refine⟨fun _ _ _ _=>trivial,?_,fun _ _ _ h=>h.elim⟩
  rintro h x y k o hmay ⟨rfl,hz,hi⟩ _
  refine .inl ?_
  by_cases e:(ask y.x k o).1.e=0
  ·rw [zT5 hz e]
   exact⟨rfl,fun _=>⟨rfl,rfl,hs h y k o hmay hz hi e⟩,fun h'=>absurd e h'⟩
  ·rw [yB7 hz e]
   exact⟨rfl,fun h'=>absurd h' e,fun _=>⟨rfl,(he h y k o hmay hz hi e).1,(he h y k o hmay hz hi e).2⟩⟩
 rcases zG3 A hm hM8 hp k f (x:=x) (y:=⟨x,[],false⟩) ⟨rfl,rfl,h0⟩ trivial with ⟨e,hq⟩ | ⟨_,hf⟩
 ·refine⟨(uS (lX ask) p k f ⟨x,[],false⟩).2,by rw [e],?_⟩
  rcases hq with ⟨h1,h2,h3⟩ | ⟨_,h1,h2,h3⟩
  ·exact⟨h1,h3,fun h=>by rw [h2] at h;cases h⟩
  ·exact⟨h1,h2,fun _=>h3⟩
 ·exact hf.elim
end
/-! ### The recorder's answers -/
theorem jU:∀(l:List Int),(∀z,z∈l->0<=z)->zs (l.map Int.toNat)=l
 | [],_=>rfl
 | a::t,h=>by
  have h1:=h a (List.mem_cons_self ..)
  have e:zs ((a::t).map Int.toNat)=(a.toNat:Int)::zs (t.map Int.toNat):=rfl
  rw [e,jU t (fun z hz=>h z (List.mem_cons_of_mem _ hz)),Int.toNat_of_nonneg h1]
theorem zQ6:∀(l:List Int) (last:Int),(∀z,z∈l->last<z/\z<8)->l.Pairwise (· < ·)->tF last l=true
 | [],_,_,_=>rfl
 | a::t,last,h,hp=>by
  have h1:=h a (List.mem_cons_self ..)
  simp only [tF]
  rw [if_neg (by omega)]
  obtain⟨p1,p2⟩:=List.pairwise_cons.1 hp
  exact zQ6 t a (fun z hz=>⟨p1 z hz,(h z (List.mem_cons_of_mem _ hz)).2⟩) p2
theorem zJ3 (l:List Int):tF (-1) (vF l)=true:=by
 refine zQ6 _ _ (fun z hz=>by have:=rM l z hz;omega) ?_
 unfold vF sY
 refine List.pairwise_map.2 ?_
 refine List.Pairwise.imp ?_ (List.Pairwise.filter _ List.pairwise_lt_range)
 intro a b h
 omega
theorem zI3 (k:Nat) (h:k<256):bs (one k)=[k]:=by
 unfold one;rw [nH,mE,List.nil_append,UInt8.toNat_ofNat'];congr 1;omega
theorem cV:∀(l:List Int) (r:ByteArray),bs (uI l r)=bs r++vbs (l.map Int.toNat)
 | [],r=>by simp [uI,vbs]
 | a::t,r=>by
  have e:uI (a::t) r=uI t (r++xN a.toNat):=rfl
  rw [e,cV t,vV,List.append_assoc]
  rfl
theorem kZ (l:List Int) (o n:Nat):bs (uZ l)=xH (2,o,n,l.map Int.toNat):=by
 have e:xH (2,o,n,l.map Int.toNat)=2::vbs ((l.map Int.toNat).length::l.map Int.toNat):=rfl
 rw [e]
 unfold uZ
 rw [cV,vV,zI3 2 (by omega),tP,List.length_map]
 simp [vb]
theorem oL (k o n:Nat) (fs:List Nat) (h:k=1\/k=5):bs (yT k 0 n)=xH (k,o,n,fs):=by
 have e:xH (k,o,n,fs)=k::(vb n++[]):=by rcases h with rfl | rfl<;>rfl
 rw [e]
 unfold yT
 rw [if_neg (by omega),vV,zI3 k (by omega),List.append_nil]
 rfl
theorem oM (k o n:Nat) (fs:List Nat) (h:k=3\/k=4):bs (yT k o n)=xH (k,o,n,fs):=by
 have e:xH (k,o,n,fs)=k::(vb o++(vb n++[])):=by rcases h with rfl | rfl<;>rfl
 rw [e]
 unfold yT
 rw [if_pos h,vV,vV,zI3 k (by omega),List.append_nil,List.append_assoc]
 rfl
theorem mF {b:ByteArray} {x:Inp} (hf:Fit x) (h:bs b=xH x):bs (yS b)=frL x:=by
 have hl:=oK hf
 have hs:b.size=(xH x).length:=by rw [<-vB,h]
 unfold yS frL
 rw [vV,vV,<-yG9,h,hs]
 have:bs (xN (xH x).length)=[(xH x).length]:=uT _ (by omega)
 rw [this];simp
theorem zQ3 {x:RS} {k o:Int} (hm:aS k o) (h:(yF x k o).1.e=0):(yF x k o).1.kind=k/\(yF x k o).1.of=o/\Fit (rY (yF x k o).1)/\(rY (yF x k o).1).1≠5/\zE3 (rY (yF x k o).1)=(yF x k o).1/\
  bs (yF x k o).2.log=bs x.log++frL (rY (yF x k o).1)/\(yF x k o).2.left+1=x.left:=by
 rcases hm with ⟨rfl,rfl⟩ | ⟨rfl,rfl⟩ | ⟨rfl,h2,h8⟩ | ⟨rfl,h1,hM⟩
 ·simp only [yF,if_true] at h ⊢
  split at h
  ·simp [xB] at h
  ·rename_i n r hx
   have hc:0<=vK n/\vK n<=1099511627776:=by unfold vK;omega
   have hf:Fit (1,0,(vK n).toNat,[]):=.inl ⟨rfl,rfl,by show (vK n).toNat<=_;omega,rfl⟩
   have ei:rY ⟨1,0,vK n,[],0⟩=(1,0,(vK n).toNat,[]):=rfl
   rw [ei]
   refine⟨rfl,rfl,hf,by show (1:Nat)≠5;omega,?_,?_,?_⟩
   ·have:((vK n).toNat:Int)=vK n:=by omega
    simp [zE3,zs,this]
   ·show bs (x.log++yS (yT 1 0 (vK n).toNat))=_
    rw [vV,mF hf (oL 1 0 _ [] (.inl rfl))]
   ·simp only [RS.left,hx,List.length_cons];omega
 ·have e1:¬(2:Int)=1:=by omega
  simp only [yF,e1,if_false,if_true] at h ⊢
  split at h
  ·simp [xB] at h
  ·rename_i b r hx
   have hz:∀z,z∈vF b.2->0<=z:=fun z hz=>(rM b.2 z hz).1
   have hf:Fit (2,0,0,(vF b.2).map Int.toNat):=.inr (.inl ⟨rfl,rfl,rfl,by show tF (-1) (zs ((vF b.2).map Int.toNat))=true;rw [jU _ hz];exact zJ3 _⟩)
   have ei:rY ⟨2,0,0,vF b.2,0⟩=(2,0,0,(vF b.2).map Int.toNat):=rfl
   rw [ei]
   refine⟨rfl,rfl,hf,by show (2:Nat)≠5;omega,?_,?_,?_⟩
   ·show (⟨2,0,0,zs ((vF b.2).map Int.toNat),0⟩ : Rep)=_
    rw [jU _ hz]
   ·show bs (x.log++yS (uZ (vF b.2)))=_
    rw [vV,mF hf (kZ _ 0 0)]
   ·simp only [RS.left,hx,List.length_cons];omega
 ·have e1:¬(3:Int)=1:=by omega
  have e2:¬(3:Int)=2:=by omega
  simp only [yF,e1,e2,if_false,if_true] at h ⊢
  split at h
  ·simp [xB] at h
  ·rename_i n r hx
   have b1:0<=n % o:=Int.emod_nonneg _ (by omega)
   have b2:n % o<o:=Int.emod_lt_of_pos _ (by omega)
   have hf:Fit (3,o.toNat,(n % o).toNat,[]):=.inr (.inr (.inl ⟨rfl,by show 2<=o.toNat;omega,by show o.toNat<=8;omega,by show (n % o).toNat<o.toNat;omega,rfl⟩))
   have ei:rY ⟨3,o,n % o,[],0⟩=(3,o.toNat,(n % o).toNat,[]):=rfl
   rw [ei]
   refine⟨rfl,rfl,hf,by show (3:Nat)≠5;omega,?_,?_,?_⟩
   ·have q1:((n % o).toNat:Int)=n % o:=by omega
    have q2:(o.toNat:Int)=o:=by omega
    simp [zE3,zs,q1,q2]
   ·show bs (x.log++yS (yT 3 o.toNat (n % o).toNat))=_
    rw [vV,mF hf (oM 3 _ _ [] (.inl rfl))]
   ·simp only [RS.left,hx,List.length_cons];omega
 ·have e1:¬(4:Int)=1:=by omega
  have e2:¬(4:Int)=2:=by omega
  have e3:¬(4:Int)=3:=by omega
  simp only [yF,e1,e2,e3,if_false] at h ⊢
  split at h
  ·simp [xB] at h
  ·rename_i n r hx
   have b1:0<=n % o:=Int.emod_nonneg _ (by omega)
   have b2:n % o<o:=Int.emod_lt_of_pos _ (by omega)
   have hf:Fit (4,o.toNat,(n % o).toNat,[]):=.inr (.inr (.inr (.inl ⟨rfl,by show 1<=o.toNat;omega,by show o.toNat<=1000000;omega,by show (n % o).toNat<o.toNat;omega,rfl⟩)))
   have ei:rY ⟨4,o,n % o,[],0⟩=(4,o.toNat,(n % o).toNat,[]):=rfl
   rw [ei]
   refine⟨rfl,rfl,hf,by show (4:Nat)≠5;omega,?_,?_,?_⟩
   ·have q1:((n % o).toNat:Int)=n % o:=by omega
    have q2:(o.toNat:Int)=o:=by omega
    simp [zE3,zs,q1,q2]
   ·show bs (x.log++yS (yT 4 o.toNat (n % o).toNat))=_
    rw [vV,mF hf (oM 4 _ _ [] (.inr rfl))]
   ·simp only [RS.left,hx,List.length_cons];omega
theorem dF (x:RS) (k o:Int) (h:(yF x k o).1.e≠0):yF x k o=(xB,x):=by
 unfold yF at h ⊢
 split
 ·rename_i hk
  rw [if_pos hk] at h
  split
  ·rfl
  ·rename_i hx;rw [hx] at h;exact absurd rfl h
 ·rename_i hk
  rw [if_neg hk] at h
  split
  ·rename_i hk2
   rw [if_pos hk2] at h
   split
   ·rfl
   ·rename_i hx;rw [hx] at h;exact absurd rfl h
  ·rename_i hk2
   rw [if_neg hk2] at h
   split
   ·rename_i hk3
    rw [if_pos hk3] at h
    split
    ·rfl
    ·rename_i hx;rw [hx] at h;exact absurd rfl h
   ·rename_i hk3
    rw [if_neg hk3] at h
    split
    ·rfl
    ·rename_i hx;rw [hx] at h;exact absurd rfl h
def xR (k:Nat):List Nat->Option Inp
 | []=>none
 | a::t=>if k=1 then (if a<=1099511627776 then some (1,0,a,[]) else none)
  else if k=2 then (if tF (-1) (zs t)=true then some (2,0,0,t) else none)
  else if k=3 then (match t with | [b]=>if b<a/\2<=a/\a<=8 then some (3,a,b,[]) else none | _=>none)
  else if k=4 then (match t with | [b]=>if b<a/\a<=1000000 then some (4,a,b,[]) else none | _=>none)
  else if k=5 then (if 1<=a/\a<=5 then some (5,0,a,[]) else none) else none
theorem yA8 {k:Nat} {ns:List Nat} {x:Inp} (h:xR k ns=some x):Fit x:=by
 cases ns with
 | nil=>simp [xR] at h
 | cons a t=>
  simp only [xR] at h
  split at h
  ·split at h
   ·injection h with h;subst h;exact .inl ⟨rfl,rfl,by assumption,rfl⟩
   ·cases h
  split at h
  ·split at h
   ·injection h with h;subst h;exact .inr (.inl ⟨rfl,rfl,rfl,by assumption⟩)
   ·cases h
  split at h
  ·split at h
   ·split at h
    ·injection h with h;subst h;rename_i hh;exact .inr (.inr (.inl ⟨rfl,hh.2.1,hh.2.2,hh.1,rfl⟩))
    ·cases h
   ·cases h
  split at h
  ·split at h
   ·split at h
    ·injection h with h;subst h;rename_i hh;exact .inr (.inr (.inr (.inl ⟨rfl,by show 1<=a;omega,hh.2,hh.1,rfl⟩)))
    ·cases h
   ·cases h
  split at h
  ·split at h
   ·injection h with h;subst h;rename_i hh;exact .inr (.inr (.inr (.inr ⟨rfl,rfl,hh.1,hh.2,rfl⟩)))
   ·cases h
  ·cases h
theorem yJ6 {y:Inp} (h:Fit y):xR y.1 (rG y)=some y:=by
 obtain⟨k,o,n,fs⟩:=y
 rcases h with ⟨e,h1,h2,h3⟩ | ⟨e,h1,h2,h3⟩ | ⟨e,h1,h2,h3,h4⟩ | ⟨e,h1,h2,h3,h4⟩ | ⟨e,h1,h2,h3,h4⟩<;>simp only at e h1 h2 h3<;>subst e
 ·subst h1 h3
  show xR 1 [n]=_
  simp only [xR];rw [if_pos trivial,if_pos h2]
 ·subst h1 h2
  show xR 2 (fs.length::fs)=_
  simp only [xR];rw [if_neg (by decide),if_pos trivial,if_pos h3]
 ·simp only at h4
  subst h4
  show xR 3 [o,n]=_
  simp only [xR];rw [if_neg (by decide),if_neg (by decide),if_pos trivial,if_pos ⟨h3,h1,h2⟩]
 ·simp only at h4
  subst h4
  show xR 4 [o,n]=_
  simp only [xR];rw [if_neg (by decide),if_neg (by decide),if_neg (by decide),if_pos trivial,if_pos ⟨h3,h2⟩]
 ·simp only at h4
  subst h1 h4
  show xR 5 [n]=_
  simp only [xR];rw [if_neg (by decide),if_neg (by decide),if_neg (by decide),if_neg (by decide),if_pos trivial,if_pos ⟨h2,h3⟩]
theorem yE7 {y:Inp} (h:Fit y):∀n,n∈rG y->n<128 ^ 7:=fun n hn=>zT (h.nums_lt n hn) (by decide)
theorem kS {k:Nat} {r:List Nat} {y:Inp} (hb:∀x,x∈k::r->x<256) (h:ipL (k::r)=some y):y.1=k/\qN r.length r=some (rG y)/\xR k (rG y)=some y:=by
 obtain⟨hf,hl⟩:=(jI _ hb y).1 h
 unfold xH at hl
 injection hl with e1 e2
 refine⟨e1.symm,?_,by rw [e1];exact yJ6 hf⟩
 rw [e2]
 exact zF0 (rG y) _ (yE7 hf) (Nat.le_refl _)
section
variable {s:ByteArray} {k:Nat} {r:List Nat}
theorem rQ (hbs:bs s=k::r) (hn:qN r.length r=none):ipL (bs s)=none:=by
 cases h:ipL (bs s) with
 | none=>rfl
 | some y=>
  rw [hbs] at h
  have:=kS (by rw [<-hbs];exact fP s) h
  rw [hn] at this
  cases this.2.1
theorem xK {ns:List Nat} (hbs:bs s=k::r) (hn:qN r.length r=some ns) (hc:xR k ns=none):ipL (bs s)=none:=by
 cases h:ipL (bs s) with
 | none=>rfl
 | some y=>
  rw [hbs] at h
  obtain⟨_,h2,h3⟩:=kS (by rw [<-hbs];exact fP s) h
  rw [hn] at h2
  injection h2 with h2
  rw [<-h2,hc] at h3
  cases h3
theorem rP {ns:List Nat} {x:Inp} (hbs:bs s=k::r) (hn:qN r.length r=some ns) (hc:xR k ns=some x) {b:ByteArray} (hb:bs b=xH x):(b=s->ipL (bs s)=some x)/\(b≠s->ipL (bs s)=none):=by
 refine⟨fun e=>?_,fun hne=>?_⟩
 ·exact(jI _ (fP s) x).2 ⟨yA8 hc,by rw [<-hb,e]⟩
 ·cases h:ipL (bs s) with
  | none=>rfl
  | some y=>
   have h0:=h
   rw [hbs] at h
   obtain⟨_,h2,h3⟩:=kS (by rw [<-hbs];exact fP s) h
   rw [hn] at h2
   injection h2 with h2
   rw [<-h2,hc] at h3
   injection h3 with h3
   subst h3
   exact absurd (fO (hb.trans ((jI _ (fP s) _).1 h0).2.symm)) hne
end
theorem bK:∀(l:List Int) (last f:Int),tF last (l++[f])=(tF last l && decide (f<8) && decide ((l.getLast?).getD last<f))
 | [],last,f=>by
  simp only [List.nil_append,tF]
  by_cases h:f<=last\/8<=f
  ·rw [if_pos h]
   rcases h with h | h
   ·have:¬last<f:=by omega
    simp [this]
   ·have:¬f<8:=by omega
    simp [this]
  ·rw [if_neg h]
   have h1:f<8:=by omega
   have h2:last<f:=by omega
   simp [h1,h2]
 | x::t,last,f=>by
  have ih:=bK t x f
  simp only [List.cons_append,tF]
  by_cases h:x<=last\/8<=x
  ·rw [if_pos h,if_pos h];simp
  ·rw [if_neg h,if_neg h,ih]
   congr 2
   cases t with
   | nil=>rfl
   | cons y t=>simp [List.getLast?_cons]
def xV (N:Int) (s:PS):Prop:=0<=s.fin/\s.fin<=N
section
variable {σ:Type} {ask:σ->Int->Int->Rep×σ} {N:Int}
def fG (N:Int) (ask:σ->Int->Int->Rep×σ):Prop:=∀x k o,0<=(ask x k o).1.e/\(ask x k o).1.e<=N
theorem yB0 (hN:4<=N) {s:PS} {R:Rep} (h:xV N s) (hR:0<=R.e/\R.e<=N):xV N (ckS s R):=by
 unfold ckS
 exact yD (P:=xV N) (yD (P:=xV N) ⟨by show (0:Int)<=4;omega,by show (4:Int)<=N;omega⟩ h) hR
theorem opM_in (hN:4<=N) (he:fG N ask) (o:O3) (s:PS) (x:σ) (h:xV N s):xV N (opM ask o s x).1:=by
 unfold opM
 have h1:=yB0 hN h (he x 1 0)
 repeat' (refine yD (P:=fun q:PS×σ=>xV N q.1) ?_ ?_)
 all_goals first
  | exact h
  | exact yD (P:=xV N) h1 h1
  | exact yD (P:=xV N) h (he x 4 _)
  | exact yD (P:=xV N) h h
  | exact⟨by show (0:Int)<=1;omega,by show (1:Int)<=N;omega⟩
theorem zP6 (hN:4<=N) (he:fG N ask) {f:Nat->O3} {n:Nat}:∀(k:Nat) (s:PS) (x:σ),xV N s->xV N (hM ask f n k s x).1
 | 0,_,_,h=>h
 | k+1,s,x,h=>by
  unfold hM
  refine yD (P:=fun q:PS×σ=>xV N q.1) (yD (P:=fun q:PS×σ=>xV N q.1) ⟨by show (0:Int)<=3;omega,by show (3:Int)<=N;omega⟩ ?_) h
  exact zP6 hN he k _ _ (opM_in hN he _ _ _ h)
theorem zJ5 (hN:4<=N) (he:fG N ask) (p:Pg):∀(l:List TM) (s:PS) (x:σ),xV N s->xV N (frM (gT ask p) l s x).1
 | [],_,_,h=>h
 | t::r,s,x,h=>by
  unfold frM
  refine yD (P:=fun q:PS×σ=>xV N q.1) h (yD (P:=fun q:PS×σ=>xV N q.1) ?_ (zJ5 hN he p r s x h))
  exact zJ5 hN he p r _ _ (zP6 hN he _ _ _ h)
theorem yI4 (hN:4<=N) (he:fG N ask) (p:Pg):∀(k:Nat) (l:List Int) (s:PS) (x:σ),xV N s->xV N (wkM ask (gF ask p) k l s x).1
 | 0,_,_,_,h=>h
 | k+1,l,s,x,h=>by
  have h1:xV N (pk ask l.length s x).2.2.1:=by
   unfold pk
   exact yD (P:=fun q:Int×Bool×PS×σ=>xV N q.2.2.1) h (yD (P:=xV N) h (he x 3 l.length))
  have h2:∀z x',xV N (wk1 (gF ask p) z (pk ask l.length s x).2.2.1 x').1:=fun z x'=>by
   unfold wk1
   exact yD (P:=fun q:PS×σ=>xV N q.1) (zP6 hN he _ _ _ h1) h1
  unfold wkM
  exact yD (P:=fun q:PS×σ=>xV N q.1) h (yD (P:=fun q:PS×σ=>xV N q.1) (yI4 hN he p k _ _ _ (h2 _ _)) h1)
theorem yH5 (hN:4<=N) (he:fG N ask) (p:Pg) (s:PS) (x:σ) (h:xV N s):xV N (xM ask p s x).1:=by
 have h1:=yB0 hN h (he x 1 0)
 have h2:=zJ5 hN he p (xW (ckS s (ask x 1 0).1)) _ (ask x 1 0).2 h1
 have h3:∀(s:PS) (x:σ),xV N s->xV N (tQ ask p s x).1:=fun s x h=>by
  unfold tQ
  exact yD (P:=fun q:PS×σ=>xV N q.1) (yI4 hN he p _ _ _ _ h) (he x 2 0)
 unfold xM
 exact yD (P:=fun q:PS×σ=>xV N q.1) ⟨by show (0:Int)<=2;omega,by show (2:Int)<=N;omega⟩ (yD (P:=fun q:PS×σ=>xV N q.1) (yD (P:=fun q:PS×σ=>xV N q.1) (h3 _ _ h2) h2) h1)
theorem yN4 (hN:4<=N) (he:fG N ask) (p:Pg) (k:Nat) (f:Int) (x:σ):xV N (uS ask p k f x).1:=by
 have ht:∀(k:Nat) (s:PS) (x:σ),xV N s->xV N (xF ask p k s x).1:=by
  intro k
  induction k with
  | zero=>intro s x h;exact h
  | succ k ih=>
   intro s x h
   unfold xF
   exact yD (P:=fun q:PS×σ=>xV N q.1) (ih _ _ (yH5 hN he p s x h)) h
 unfold uS
 exact ht k _ _ (zP6 hN he _ _ _ ⟨by show (0:Int)<=0;omega,by show (0:Int)<=N;omega⟩)
end
theorem zW7:fG 5 yF:=by
 intro x k o
 by_cases h:(yF x k o).1.e=0
 ·rw [h];omega
 ·rw [dF x k o h];simp [xB]
def oB (own:Int) (l:List Inp):Int:=if own=5\/own=6 then own else match l with
 | []=>own
 | x::_=>if x.1=5/\(x.2.2.1:Int)=own then own else 6
def jN (p:Pg) (f:Int) (y:VL):PS×VL:=uS mQ p (y.1.length+1) f y
theorem yK6 {σ:Type} {ask:σ->Int->Int->Rep×σ} {mes:σ->Nat} (h:uF ask mes):uF (lX ask) (fun y=>mes y.x):=by
 refine⟨?_,?_,?_,?_,?_,zT4 h.most⟩
 ·intro y k o
  unfold lX
  split
  ·exact Nat.le_refl _
  ·split
   ·exact h.le y.x k o
   ·exact h.le y.x k o
 ·intro y he
  unfold lX at he ⊢
  split at he
  ·simp [xB] at he
  ·rename_i hz
   rw [if_neg hz]
   split at he
   ·rename_i h0;rw [if_pos h0];exact h.lt y.x h0
   ·rename_i h0;exact absurd he h0
 ·intro y he
  unfold lX at he ⊢
  split at he
  ·simp [xB] at he
  ·rename_i hz
   rw [if_neg hz]
   split at he
   ·rename_i h0;rw [if_pos h0];exact h.clock y.x h0
   ·rename_i h0;exact absurd he h0
 ·intro y n h2 h8 he
  unfold lX at he ⊢
  split at he
  ·simp [xB] at he
  ·rename_i hz
   rw [if_neg hz]
   split at he
   ·rename_i h0;rw [if_pos h0];exact h.pick y.x n h2 h8 h0
   ·rename_i h0;exact absurd he h0
 ·intro y z hz
  unfold lX at hz
  split at hz
  ·simp [xB] at hz
  ·split at hz
   ·exact h.files y.x z hz
   ·exact h.files y.x z hz
theorem yB6 (l:List Inp) (x:Inp):frs (l++[x])=frs l++frL x:=by unfold frs;simp
theorem yJ3:bs tH=hd3:=by
 unfold tH
 rw [nH,nH,nH,mE]
 rfl
def RecI (M:Nat) (h:Int) (y:GS RS):Prop:=h=y.l.length/\bs y.x.log=hd3++frs y.l/\(∀i,i∈y.l->Fit i/\i.1≠5)/\y.l.length+y.x.left<=M
theorem zZ3 (n:Nat) (h:n<=50000000):wrap64 ((n:Int)+1)=((n+1:Nat):Int):=by unfold wrap64;omega
theorem zW8 {M:Nat} (hM:M<=50000000) (h:Int) (y:GS RS) (k o:Int) (hm:aS k o) (_:y.z=false) (hi:RecI M h y) (he:(yF y.x k o).1.e=0):RecI M (wrap64 (h+1)) ⟨(yF y.x k o).2,y.l++[rY (yF y.x k o).1],false⟩:=by
 obtain⟨h1,h2,h3,h4⟩:=hi
 obtain⟨_,_,a3,a4,_,a6,a7⟩:=zQ3 hm he
 refine⟨?_,?_,?_,?_⟩
 ·show wrap64 (h+1)=((y.l++[rY (yF y.x k o).1]).length:Int)
  rw [h1,zZ3 _ (by omega),List.length_append];rfl
 ·show bs (yF y.x k o).2.log=hd3++frs (y.l++[rY (yF y.x k o).1])
  rw [a6,h2,yB6,List.append_assoc]
 ·intro i hi
  rcases List.mem_append.1 hi with hi | hi
  ·exact h3 i hi
  ·rw [List.mem_singleton.1 hi];exact⟨a3,a4⟩
 ·show (y.l++[rY (yF y.x k o).1]).length+(yF y.x k o).2.left<=M
  rw [List.length_append];simp only [List.length_cons,List.length_nil];omega
structure RecRun (p:Pg) (f:Int) (x:RS) (s:PS) (xs:List Inp):Prop where
 fit:∀i,i∈xs->Fit i/\i.1≠5
 heard:s.heard=xs.length
 fin:1<=s.fin/\s.fin<=5
 small:xs.length<=50000000
 ghost:∃k0 y,(∀k,k0<=k->uS (lX yF) p k f ⟨x,[],false⟩=(s,y))/\y.l=xs/\(y.z=true->s.fin=5)
theorem zQ4 {p:Pg} (hp:tY p) (f:Int) (lc:List Int) (bt:List (Value×List Int)) (lp ll:List Int) (hN:lc.length+bt.length+lp.length+ll.length<=50000000) :
  ∃xs,RecRun p f ⟨lc,bt,lp,ll,tH⟩ (tW p f lc bt lp ll).1 xs/\bs (sM (tW p f lc bt lp ll))=zL2 xs (tW p f lc bt lp ll).1.fin.toNat/\xs.length<=lc.length+bt.length+lp.length+ll.length:=by
 obtain⟨y,hrun,hx,hI,hz⟩:=zT6 lL qU.most hp (I:=RecI (lc.length+bt.length+lp.length+ll.length)) (E:=fun e=>e=5) (x:=(⟨lc,bt,lp,ll,tH⟩ : RS)) ⟨rfl,by rw [yJ3];simp [frs],fun i h=>absurd h (by simp),by show 0+(lc.length+bt.length+lp.length+ll.length)<=lc.length+bt.length+lp.length+ll.length;omega⟩ (zW8 hN)
  (fun h y k o hm hz hi he=>⟨by rw [dF y.x k o he];exact hi,by rw [dF y.x k o he];rfl⟩) (lc.length+1) f
 have hmore:=bL (yK6 qU) p f ⟨(⟨lc,bt,lp,ll,tH⟩ : RS),[],false⟩ (lc.length+1) (Nat.lt_succ_self _)
 have hfin:=yN4 (by omega) zW7 p (lc.length+1) f (⟨lc,bt,lp,ll,tH⟩ : RS)
 have hne:=(bL qU p f (⟨lc,bt,lp,ll,tH⟩ : RS) (lc.length+1) (Nat.lt_succ_self _)).1
 have hr:tW p f lc bt lp ll=uS yF p (lc.length+1) f ⟨lc,bt,lp,ll,tH⟩:=rfl
 rw [<-hr] at hrun hx hI hz hfin hne
 obtain⟨i1,i2,i3,i4⟩:=hI
 have hf1:1<=(tW p f lc bt lp ll).1.fin/\(tW p f lc bt lp ll).1.fin<=5:=by have h1:=hfin.1;have h2:=hfin.2;omega
 refine⟨y.l,⟨i3,i1,hf1,by omega,lc.length+1,y,fun k hk=>by rw [hmore.2 k hk,hrun],rfl,hz⟩,?_,by omega⟩
 have he:=gU (tW p f lc bt lp ll).1.fin.toNat (by omega) (by omega)
 unfold sM
 rw [vV,<-hx,i2,mF he (oL 5 0 _ [] (.inr rfl)),List.append_assoc]
 rfl
