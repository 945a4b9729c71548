/-
  PROVED HERE: a source of inputs of a log (the model of a repl
-/
import Derived.Test.YtfmbebofllgmoaaGreatDoorSallas
import Derived.Test.YtfmbebofllgmoaaGreatDoorSallat
namespace Go.Proofs.YtfmbebofllgmoaaGreatDoor
open Go.RowKit
def VL:={l:List Inp // ∀x,x∈l->Fit x}
def zG0 (x:Inp):Rep:=⟨x.1,x.2.1,x.2.2.1,zs x.2.2.2,0⟩
def mB:Rep:=⟨0,0,0,[],6⟩
def VL.tail (y:VL):VL:=⟨y.1.tail,fun x h=>y.2 x (List.mem_of_mem_tail h)⟩
def uB (l:List Inp) (k o:Int):Rep:=match l with
 | []=>xC
 | x::_=>if x.1=5/\x.2.2.1=5 then xC else if (x.1:Int)≠k\/(x.2.1:Int)≠o then mB else zG0 x
def lL (y:VL) (k o:Int):Rep×VL:=(uB y.1 k o,y.tail)
theorem nH {l:List Inp} {k o:Int} (h:(uB l k o).e=0):∃x r,l=x::r/\uB l k o=zG0 x/\(x.1:Int)=k/\(x.2.1:Int)=o:=by
 cases l with
 | nil=>simp [uB,xC] at h
 | cons x r=>
  simp only [uB] at h ⊢
  by_cases h5:x.1=5/\x.2.2.1=5
  ·rw [if_pos h5] at h;simp [xC] at h
  ·rw [if_neg h5] at h ⊢
   by_cases hk:(x.1:Int)≠k\/(x.2.1:Int)≠o
   ·rw [if_pos hk] at h;simp [mB] at h
   ·rw [if_neg hk]
    exact⟨x,r,rfl,rfl,by omega,by omega⟩
theorem iF (l:List Inp) (k o:Int):(uB l k o).e=0\/uB l k o=xC\/uB l k o=mB:=by
 cases l with
 | nil=>exact .inr (.inl rfl)
 | cons x r=>
  simp only [uB]
  split
  ·exact .inr (.inl rfl)
  ·split
   ·exact .inr (.inr rfl)
   ·exact .inl rfl
theorem Fit.clock {x:Inp} (h:Fit x) (e:x.1=1):x.2.2.1<=1099511627776:=by
 rcases h with h | h | h | h | h
 ·exact h.2.2.1
 all_goals (have:=h.1;omega)
theorem Fit.pick {x:Inp} (h:Fit x) (e:x.1=3):x.2.2.1<x.2.1:=by
 rcases h with h | h | h | h | h
 ·have:=h.1;omega
 ·have:=h.1;omega
 ·exact h.2.2.2.1
 ·have:=h.1;omega
 ·have:=h.1;omega
theorem Fit.files {x:Inp} (h:Fit x):x.2.2.2.length<=8/\∀f,f∈x.2.2.2->f<8:=by
 have nil:x.2.2.2=[]->x.2.2.2.length<=8/\∀f,f∈x.2.2.2->f<8:=fun e=>by rw [e];exact⟨by simp,fun _ h=>absurd h (by simp)⟩
 rcases h with h | h | h | h | h
 ·exact nil h.2.2.2
 ·obtain⟨g1,g2⟩:=pX x.2.2.2 (-1) (by omega) (by omega) h.2.2.2
  exact⟨by omega,g2⟩
 ·exact nil h.2.2.2.2
 ·exact nil h.2.2.2.2
 ·exact nil h.2.2.2.2
theorem iX:uP lL (fun y=>y.1.length):=by
 refine⟨?_,?_,?_,?_,?_,?_⟩
 ·intro y k o;show y.1.tail.length<=y.1.length;rw [List.length_tail];omega
 ·intro y h
  obtain⟨x,r,e,_⟩:=nH h
  show y.1.tail.length<y.1.length
  rw [e];simp
 ·intro y h
  obtain⟨x,r,e,e2,hk,_⟩:=nH h
  have hx:=(y.2 x (by rw [e];exact List.mem_cons_self ..)).clock (by omega)
  show 0<=(uB y.1 1 0).n/\(uB y.1 1 0).n<=1099511627776
  rw [e2]
  show (0:Int)<=(x.2.2.1:Int)/\(x.2.2.1:Int)<=1099511627776
  omega
 ·intro y n _ _ h
  obtain⟨x,r,e,e2,hk,ho⟩:=nH h
  have hx:=(y.2 x (by rw [e];exact List.mem_cons_self ..)).pick (by omega)
  show 0<=(uB y.1 3 n).n/\(uB y.1 3 n).n<n
  rw [e2]
  show (0:Int)<=(x.2.2.1:Int)/\(x.2.2.1:Int)<n
  omega
 ·intro y z h
  change z∈(uB y.1 2 0).files at h
  rcases iF y.1 2 0 with h0 | h0 | h0
  ·obtain⟨x,r,e,e2,_⟩:=nH h0
   rw [e2] at h
   obtain⟨f,hf,rfl⟩:=List.mem_map.1 h
   have:=(y.2 x (by rw [e];exact List.mem_cons_self ..)).files.2 f hf
   exact⟨Int.natCast_nonneg f,by show (f:Int)<8;omega⟩
  ·rw [h0] at h;simp [xC] at h
  ·rw [h0] at h;simp [mB] at h
 ·intro y
  show (uB y.1 2 0).files.length<=8
  rcases iF y.1 2 0 with h0 | h0 | h0
  ·obtain⟨x,r,e,e2,_⟩:=nH h0
   rw [e2]
   have:=(y.2 x (by rw [e];exact List.mem_cons_self ..)).files.1
   show (zs x.2.2.2).length<=8
   simp [zs];exact this
  ·rw [h0];simp [xC]
  ·rw [h0];simp [mB]
theorem zO8:mO lL:=by
 intro y k o
 show 0<=(uB y.1 k o).e/\(uB y.1 k o).e<=6
 rcases iF y.1 k o with h0 | h0 | h0
 ·rw [h0];omega
 ·rw [h0];simp [xC]
 ·rw [h0];simp [mB]
structure GS (σ:Type) where
 x:σ
 l:List Inp
 z:Bool
def qL (R:Rep):Inp:=(R.kind.toNat,R.of.toNat,R.n.toNat,R.files.map Int.toNat)
def kL {σ:Type} (ask:σ->Int->Int->Rep×σ) (y:GS σ) (k o:Int):Rep×GS σ:=
 if y.z then (xC,y) else if (ask y.x k o).1.e=0 then ((ask y.x k o).1,⟨(ask y.x k o).2,y.l++[qL (ask y.x k o).1],false⟩) else ((ask y.x k o).1,⟨(ask y.x k o).2,y.l,true⟩)
section
variable {σ:Type} {ask:σ->Int->Int->Rep×σ} {may:Int->Int->Prop}
theorem zW2 {y:GS σ} {k o:Int} (hz:y.z=false) (h:(ask y.x k o).1.e=0):kL ask y k o=((ask y.x k o).1,⟨(ask y.x k o).2,y.l++[qL (ask y.x k o).1],false⟩):=by
 unfold kL;rw [hz,if_neg (by simp),if_pos h]
theorem yE8 {y:GS σ} {k o:Int} (hz:y.z=false) (h:(ask y.x k o).1.e≠0):kL ask y k o=((ask y.x k o).1,⟨(ask y.x k o).2,y.l,true⟩):=by
 unfold kL;rw [hz,if_neg (by simp),if_neg h]
theorem zW0 (h:zJ6 ask):zJ6 (kL ask):=by
 intro y
 unfold kL
 split
 ·simp [xC]
 ·split
  ·exact h y.x
  ·exact h y.x
theorem zW3 (hm:oJ may) (hM8:zJ6 ask) {p:Pg} (hp:sM p) {I:Int->GS σ->Prop} {E:Int->Prop} {x:σ} (h0:I 0 ⟨x,[],false⟩)
  (hs:∀h y k o,may k o->y.z=false->I h y->(ask y.x k o).1.e=0->I (wrap64 (h+1)) ⟨(ask y.x k o).2,y.l++[qL (ask y.x k o).1],false⟩)
  (he:∀h y k o,may k o->y.z=false->I h y->(ask y.x k o).1.e≠0->I h ⟨(ask y.x k o).2,y.l,true⟩/\E (ask y.x k o).1.e) (k:Nat) (f:Int) :
  ∃y,tG (kL ask) p k f ⟨x,[],false⟩=((tG ask p k f x).1,y)/\y.x=(tG ask p k f x).2/\I (tG ask p k f x).1.heard y/\(y.z=true->E (tG ask p k f x).1.fin):=by
 have A:oH ask (kL ask) may (fun _=>True) (fun h x y=>y.x=x/\y.z=false/\I h y) (fun e h x y=>y.x=x/\I h y/\E e) (fun _ _=>False):=by
  refine⟨fun _ _ _ _=>trivial,?_,fun _ _ _ h=>h.elim⟩
  rintro h x y k o hmay ⟨rfl,hz,hi⟩ _
  refine .inl ?_
  by_cases e:(ask y.x k o).1.e=0
  ·rw [zW2 hz e]
   exact⟨rfl,fun _=>⟨rfl,rfl,hs h y k o hmay hz hi e⟩,fun h'=>absurd e h'⟩
  ·rw [yE8 hz e]
   exact⟨rfl,fun h'=>absurd h' e,fun _=>⟨rfl,(he h y k o hmay hz hi e).1,(he h y k o hmay hz hi e).2⟩⟩
 rcases zI2 A hm hM8 hp k f (x:=x) (y:=⟨x,[],false⟩) ⟨rfl,rfl,h0⟩ trivial with ⟨e,hq⟩ | ⟨_,hf⟩
 ·refine⟨(tG (kL ask) p k f ⟨x,[],false⟩).2,by rw [e],?_⟩
  rcases hq with ⟨h1,h2,h3⟩ | ⟨_,h1,h2,h3⟩
  ·exact⟨h1,h3,fun h=>by rw [h2] at h;cases h⟩
  ·exact⟨h1,h2,fun _=>h3⟩
 ·exact hf.elim
end
/-! ### The recorder's answers -/
theorem iL:∀(l:List Int),(∀z,z∈l->0<=z)->zs (l.map Int.toNat)=l
 | [],_=>rfl
 | a::t,h=>by
  have h1:=h a (List.mem_cons_self ..)
  have e:zs ((a::t).map Int.toNat)=(a.toNat:Int)::zs (t.map Int.toNat):=rfl
  rw [e,iL t (fun z hz=>h z (List.mem_cons_of_mem _ hz)),Int.toNat_of_nonneg h1]
theorem zS9:∀(l:List Int) (last:Int),(∀z,z∈l->last<z/\z<8)->l.Pairwise (· < ·)->tT last l=true
 | [],_,_,_=>rfl
 | a::t,last,h,hp=>by
  have h1:=h a (List.mem_cons_self ..)
  simp only [tT]
  rw [if_neg (by omega)]
  obtain⟨p1,p2⟩:=List.pairwise_cons.1 hp
  exact zS9 t a (fun z hz=>⟨p1 z hz,(h z (List.mem_cons_of_mem _ hz)).2⟩) p2
theorem zL4 (l:List Int):tT (-1) (vH l)=true:=by
 refine zS9 _ _ (fun z hz=>by have:=rZ l z hz;omega) ?_
 unfold vH rM
 refine List.pairwise_map.2 ?_
 refine List.Pairwise.imp ?_ (List.Pairwise.filter _ List.pairwise_lt_range)
 intro a b h
 omega
theorem zK4 (k:Nat) (h:k<256):bs (one k)=[k]:=by
 unfold one;rw [nY,mX,List.nil_append,UInt8.toNat_ofNat'];congr 1;omega
theorem bO:∀(l:List Int) (r:ByteArray),bs (uU l r)=bs r++vbs (l.map Int.toNat)
 | [],r=>by simp [uU,vbs]
 | a::t,r=>by
  have e:uU (a::t) r=uU t (r++xR a.toNat):=rfl
  rw [e,bO t,uA,List.append_assoc]
  rfl
theorem jP (l:List Int) (o n:Nat):bs (tP l)=xI (2,o,n,l.map Int.toNat):=by
 have e:xI (2,o,n,l.map Int.toNat)=2::vbs ((l.map Int.toNat).length::l.map Int.toNat):=rfl
 rw [e]
 unfold tP
 rw [bO,uA,zK4 2 (by omega),sE,List.length_map]
 simp [vb]
theorem nC (k o n:Nat) (fs:List Nat) (h:k=1\/k=5):bs (yY k 0 n)=xI (k,o,n,fs):=by
 have e:xI (k,o,n,fs)=k::(vb n++[]):=by rcases h with rfl | rfl<;>rfl
 rw [e]
 unfold yY
 rw [if_neg (by omega),uA,zK4 k (by omega),List.append_nil]
 rfl
theorem nD (k o n:Nat) (fs:List Nat) (h:k=3\/k=4):bs (yY k o n)=xI (k,o,n,fs):=by
 have e:xI (k,o,n,fs)=k::(vb o++(vb n++[])):=by rcases h with rfl | rfl<;>rfl
 rw [e]
 unfold yY
 rw [if_pos h,uA,uA,zK4 k (by omega),List.append_nil,List.append_assoc]
 rfl
theorem mY {b:ByteArray} {x:Inp} (hf:Fit x) (h:bs b=xI x):bs (yX b)=frL x:=by
 have hl:=nB hf
 have hs:b.size=(xI x).length:=by rw [<-vA,h]
 unfold yX frL
 rw [uA,uA,<-yK0,h,hs]
 have:bs (xR (xI x).length)=[(xI x).length]:=tH _ (by omega)
 rw [this];simp
theorem zS6 {x:RS} {k o:Int} (hm:zB1 k o) (h:(yG x k o).1.e=0):(yG x k o).1.kind=k/\(yG x k o).1.of=o/\Fit (qL (yG x k o).1)/\(qL (yG x k o).1).1≠5/\zG0 (qL (yG x k o).1)=(yG x k o).1/\
  bs (yG x k o).2.log=bs x.log++frL (qL (yG x k o).1)/\(yG x k o).2.left+1=x.left:=by
 rcases hm with ⟨rfl,rfl⟩ | ⟨rfl,rfl⟩ | ⟨rfl,h2,h8⟩ | ⟨rfl,h1,hM⟩
 ·simp only [yG,if_true] at h ⊢
  split at h
  ·simp [xC] at h
  ·rename_i n r hx
   have hc:0<=vO n/\vO n<=1099511627776:=by unfold vO;omega
   have hf:Fit (1,0,(vO n).toNat,[]):=.inl ⟨rfl,rfl,by show (vO n).toNat<=_;omega,rfl⟩
   have ei:qL ⟨1,0,vO n,[],0⟩=(1,0,(vO n).toNat,[]):=rfl
   rw [ei]
   refine⟨rfl,rfl,hf,by show (1:Nat)≠5;omega,?_,?_,?_⟩
   ·have:((vO n).toNat:Int)=vO n:=by omega
    simp [zG0,zs,this]
   ·show bs (x.log++yX (yY 1 0 (vO n).toNat))=_
    rw [uA,mY hf (nC 1 0 _ [] (.inl rfl))]
   ·simp only [RS.left,hx,List.length_cons];omega
 ·have e1:¬(2:Int)=1:=by omega
  simp only [yG,e1,if_false,if_true] at h ⊢
  split at h
  ·simp [xC] at h
  ·rename_i b r hx
   have hz:∀z,z∈vH b.2->0<=z:=fun z hz=>(rZ b.2 z hz).1
   have hf:Fit (2,0,0,(vH b.2).map Int.toNat):=.inr (.inl ⟨rfl,rfl,rfl,by show tT (-1) (zs ((vH b.2).map Int.toNat))=true;rw [iL _ hz];exact zL4 _⟩)
   have ei:qL ⟨2,0,0,vH b.2,0⟩=(2,0,0,(vH b.2).map Int.toNat):=rfl
   rw [ei]
   refine⟨rfl,rfl,hf,by show (2:Nat)≠5;omega,?_,?_,?_⟩
   ·show (⟨2,0,0,zs ((vH b.2).map Int.toNat),0⟩ : Rep)=_
    rw [iL _ hz]
   ·show bs (x.log++yX (tP (vH b.2)))=_
    rw [uA,mY hf (jP _ 0 0)]
   ·simp only [RS.left,hx,List.length_cons];omega
 ·have e1:¬(3:Int)=1:=by omega
  have e2:¬(3:Int)=2:=by omega
  simp only [yG,e1,e2,if_false,if_true] at h ⊢
  split at h
  ·simp [xC] at h
  ·rename_i n r hx
   have b1:0<=n % o:=Int.emod_nonneg _ (by omega)
   have b2:n % o<o:=Int.emod_lt_of_pos _ (by omega)
   have hf:Fit (3,o.toNat,(n % o).toNat,[]):=.inr (.inr (.inl ⟨rfl,by show 2<=o.toNat;omega,by show o.toNat<=8;omega,by show (n % o).toNat<o.toNat;omega,rfl⟩))
   have ei:qL ⟨3,o,n % o,[],0⟩=(3,o.toNat,(n % o).toNat,[]):=rfl
   rw [ei]
   refine⟨rfl,rfl,hf,by show (3:Nat)≠5;omega,?_,?_,?_⟩
   ·have q1:((n % o).toNat:Int)=n % o:=by omega
    have q2:(o.toNat:Int)=o:=by omega
    simp [zG0,zs,q1,q2]
   ·show bs (x.log++yX (yY 3 o.toNat (n % o).toNat))=_
    rw [uA,mY hf (nD 3 _ _ [] (.inl rfl))]
   ·simp only [RS.left,hx,List.length_cons];omega
 ·have e1:¬(4:Int)=1:=by omega
  have e2:¬(4:Int)=2:=by omega
  have e3:¬(4:Int)=3:=by omega
  simp only [yG,e1,e2,e3,if_false] at h ⊢
  split at h
  ·simp [xC] at h
  ·rename_i n r hx
   have b1:0<=n % o:=Int.emod_nonneg _ (by omega)
   have b2:n % o<o:=Int.emod_lt_of_pos _ (by omega)
   have hf:Fit (4,o.toNat,(n % o).toNat,[]):=.inr (.inr (.inr (.inl ⟨rfl,by show 1<=o.toNat;omega,by show o.toNat<=1000000;omega,by show (n % o).toNat<o.toNat;omega,rfl⟩)))
   have ei:qL ⟨4,o,n % o,[],0⟩=(4,o.toNat,(n % o).toNat,[]):=rfl
   rw [ei]
   refine⟨rfl,rfl,hf,by show (4:Nat)≠5;omega,?_,?_,?_⟩
   ·have q1:((n % o).toNat:Int)=n % o:=by omega
    have q2:(o.toNat:Int)=o:=by omega
    simp [zG0,zs,q1,q2]
   ·show bs (x.log++yX (yY 4 o.toNat (n % o).toNat))=_
    rw [uA,mY hf (nD 4 _ _ [] (.inr rfl))]
   ·simp only [RS.left,hx,List.length_cons];omega
theorem dU (x:RS) (k o:Int) (h:(yG x k o).1.e≠0):yG x k o=(xC,x):=by
 unfold yG at h ⊢
 split
 ·rename_i hk
  rw [if_pos hk] at h
  split
  ·rfl
  ·rename_i hx;rw [hx] at h;exact absurd rfl h
 ·rename_i hk
  rw [if_neg hk] at h
  split
  ·rename_i hk2
   rw [if_pos hk2] at h
   split
   ·rfl
   ·rename_i hx;rw [hx] at h;exact absurd rfl h
  ·rename_i hk2
   rw [if_neg hk2] at h
   split
   ·rename_i hk3
    rw [if_pos hk3] at h
    split
    ·rfl
    ·rename_i hx;rw [hx] at h;exact absurd rfl h
   ·rename_i hk3
    rw [if_neg hk3] at h
    split
    ·rfl
    ·rename_i hx;rw [hx] at h;exact absurd rfl h
def xV (k:Nat):List Nat->Option Inp
 | []=>none
 | a::t=>if k=1 then (if a<=1099511627776 then some (1,0,a,[]) else none)
  else if k=2 then (if tT (-1) (zs t)=true then some (2,0,0,t) else none)
  else if k=3 then (match t with | [b]=>if b<a/\2<=a/\a<=8 then some (3,a,b,[]) else none | _=>none)
  else if k=4 then (match t with | [b]=>if b<a/\a<=1000000 then some (4,a,b,[]) else none | _=>none)
  else if k=5 then (if 1<=a/\a<=5 then some (5,0,a,[]) else none) else none
theorem yD9 {k:Nat} {ns:List Nat} {x:Inp} (h:xV k ns=some x):Fit x:=by
 cases ns with
 | nil=>simp [xV] at h
 | cons a t=>
  simp only [xV] at h
  split at h
  ·split at h
   ·injection h with h;subst h;exact .inl ⟨rfl,rfl,by assumption,rfl⟩
   ·cases h
  split at h
  ·split at h
   ·injection h with h;subst h;exact .inr (.inl ⟨rfl,rfl,rfl,by assumption⟩)
   ·cases h
  split at h
  ·split at h
   ·split at h
    ·injection h with h;subst h;rename_i hh;exact .inr (.inr (.inl ⟨rfl,hh.2.1,hh.2.2,hh.1,rfl⟩))
    ·cases h
   ·cases h
  split at h
  ·split at h
   ·split at h
    ·injection h with h;subst h;rename_i hh;exact .inr (.inr (.inr (.inl ⟨rfl,by show 1<=a;omega,hh.2,hh.1,rfl⟩)))
    ·cases h
   ·cases h
  split at h
  ·split at h
   ·injection h with h;subst h;rename_i hh;exact .inr (.inr (.inr (.inr ⟨rfl,rfl,hh.1,hh.2,rfl⟩)))
   ·cases h
  ·cases h
theorem yM8 {y:Inp} (h:Fit y):xV y.1 (rU y)=some y:=by
 obtain⟨k,o,n,fs⟩:=y
 rcases h with ⟨e,h1,h2,h3⟩ | ⟨e,h1,h2,h3⟩ | ⟨e,h1,h2,h3,h4⟩ | ⟨e,h1,h2,h3,h4⟩ | ⟨e,h1,h2,h3,h4⟩<;>simp only at e h1 h2 h3<;>subst e
 ·subst h1 h3
  show xV 1 [n]=_
  simp only [xV];rw [if_pos trivial,if_pos h2]
 ·subst h1 h2
  show xV 2 (fs.length::fs)=_
  simp only [xV];rw [if_neg (by decide),if_pos trivial,if_pos h3]
 ·simp only at h4
  subst h4
  show xV 3 [o,n]=_
  simp only [xV];rw [if_neg (by decide),if_neg (by decide),if_pos trivial,if_pos ⟨h3,h1,h2⟩]
 ·simp only at h4
  subst h4
  show xV 4 [o,n]=_
  simp only [xV];rw [if_neg (by decide),if_neg (by decide),if_neg (by decide),if_pos trivial,if_pos ⟨h3,h2⟩]
 ·simp only at h4
  subst h1 h4
  show xV 5 [n]=_
  simp only [xV];rw [if_neg (by decide),if_neg (by decide),if_neg (by decide),if_neg (by decide),if_pos trivial,if_pos ⟨h2,h3⟩]
theorem yH8 {y:Inp} (h:Fit y):∀n,n∈rU y->n<128 ^ 7:=fun n hn=>zT (h.nums_lt n hn) (by decide)
theorem jE {k:Nat} {r:List Nat} {y:Inp} (hb:∀x,x∈k::r->x<256) (h:ipL (k::r)=some y):y.1=k/\pC r.length r=some (rU y)/\xV k (rU y)=some y:=by
 obtain⟨hf,hl⟩:=(jY _ hb y).1 h
 unfold xI at hl
 injection hl with e1 e2
 refine⟨e1.symm,?_,by rw [e1];exact yM8 hf⟩
 rw [e2]
 exact zG7 (rU y) _ (yH8 hf) (Nat.le_refl _)
section
variable {s:ByteArray} {k:Nat} {r:List Nat}
theorem qC (hbs:bs s=k::r) (hn:pC r.length r=none):ipL (bs s)=none:=by
 cases h:ipL (bs s) with
 | none=>rfl
 | some y=>
  rw [hbs] at h
  have:=jE (by rw [<-hbs];exact eK s) h
  rw [hn] at this
  cases this.2.1
theorem xN {ns:List Nat} (hbs:bs s=k::r) (hn:pC r.length r=some ns) (hc:xV k ns=none):ipL (bs s)=none:=by
 cases h:ipL (bs s) with
 | none=>rfl
 | some y=>
  rw [hbs] at h
  obtain⟨_,h2,h3⟩:=jE (by rw [<-hbs];exact eK s) h
  rw [hn] at h2
  injection h2 with h2
  rw [<-h2,hc] at h3
  cases h3
theorem qB {ns:List Nat} {x:Inp} (hbs:bs s=k::r) (hn:pC r.length r=some ns) (hc:xV k ns=some x) {b:ByteArray} (hb:bs b=xI x):(b=s->ipL (bs s)=some x)/\(b≠s->ipL (bs s)=none):=by
 refine⟨fun e=>?_,fun hne=>?_⟩
 ·exact(jY _ (eK s) x).2 ⟨yD9 hc,by rw [<-hb,e]⟩
 ·cases h:ipL (bs s) with
  | none=>rfl
  | some y=>
   have h0:=h
   rw [hbs] at h
   obtain⟨_,h2,h3⟩:=jE (by rw [<-hbs];exact eK s) h
   rw [hn] at h2
   injection h2 with h2
   rw [<-h2,hc] at h3
   injection h3 with h3
   subst h3
   exact absurd (eJ (hb.trans ((jY _ (eK s) _).1 h0).2.symm)) hne
end
theorem aD:∀(l:List Int) (last f:Int),tT last (l++[f])=(tT last l && decide (f<8) && decide ((l.getLast?).getD last<f))
 | [],last,f=>by
  simp only [List.nil_append,tT]
  by_cases h:f<=last\/8<=f
  ·rw [if_pos h]
   rcases h with h | h
   ·have:¬last<f:=by omega
    simp [this]
   ·have:¬f<8:=by omega
    simp [this]
  ·rw [if_neg h]
   have h1:f<8:=by omega
   have h2:last<f:=by omega
   simp [h1,h2]
 | x::t,last,f=>by
  have ih:=aD t x f
  simp only [List.cons_append,tT]
  by_cases h:x<=last\/8<=x
  ·rw [if_pos h,if_pos h];simp
  ·rw [if_neg h,if_neg h,ih]
   congr 2
   cases t with
   | nil=>rfl
   | cons y t=>simp [List.getLast?_cons]
def xZ (N:Int) (s:PS):Prop:=0<=s.fin/\s.fin<=N
section
variable {σ:Type} {ask:σ->Int->Int->Rep×σ} {N:Int}
def fZ (N:Int) (ask:σ->Int->Int->Rep×σ):Prop:=∀x k o,0<=(ask x k o).1.e/\(ask x k o).1.e<=N
theorem yE1 (hN:4<=N) {s:PS} {R:Rep} (h:xZ N s) (hR:0<=R.e/\R.e<=N):xZ N (ckS s R):=by
 unfold ckS
 exact yE (P:=xZ N) (yE (P:=xZ N) ⟨by show (0:Int)<=4;omega,by show (4:Int)<=N;omega⟩ h) hR
theorem opM_in (hN:4<=N) (he:fZ N ask) (o:O3) (s:PS) (x:σ) (h:xZ N s):xZ N (opM ask o s x).1:=by
 unfold opM
 have h1:=yE1 hN h (he x 1 0)
 repeat' (refine yE (P:=fun q:PS×σ=>xZ N q.1) ?_ ?_)
 all_goals first
  | exact h
  | exact yE (P:=xZ N) h1 h1
  | exact yE (P:=xZ N) h (he x 4 _)
  | exact yE (P:=xZ N) h h
  | exact⟨by show (0:Int)<=1;omega,by show (1:Int)<=N;omega⟩
theorem zR9 (hN:4<=N) (he:fZ N ask) {f:Nat->O3} {n:Nat}:∀(k:Nat) (s:PS) (x:σ),xZ N s->xZ N (hM ask f n k s x).1
 | 0,_,_,h=>h
 | k+1,s,x,h=>by
  unfold hM
  refine yE (P:=fun q:PS×σ=>xZ N q.1) (yE (P:=fun q:PS×σ=>xZ N q.1) ⟨by show (0:Int)<=3;omega,by show (3:Int)<=N;omega⟩ ?_) h
  exact zR9 hN he k _ _ (opM_in hN he _ _ _ h)
theorem zL6 (hN:4<=N) (he:fZ N ask) (p:Pg):∀(l:List TM) (s:PS) (x:σ),xZ N s->xZ N (frM (gT ask p) l s x).1
 | [],_,_,h=>h
 | t::r,s,x,h=>by
  unfold frM
  refine yE (P:=fun q:PS×σ=>xZ N q.1) h (yE (P:=fun q:PS×σ=>xZ N q.1) ?_ (zL6 hN he p r s x h))
  exact zL6 hN he p r _ _ (zR9 hN he _ _ _ h)
theorem yL5 (hN:4<=N) (he:fZ N ask) (p:Pg):∀(k:Nat) (l:List Int) (s:PS) (x:σ),xZ N s->xZ N (wkM ask (gF ask p) k l s x).1
 | 0,_,_,_,h=>h
 | k+1,l,s,x,h=>by
  have h1:xZ N (pk ask l.length s x).2.2.1:=by
   unfold pk
   exact yE (P:=fun q:Int×Bool×PS×σ=>xZ N q.2.2.1) h (yE (P:=xZ N) h (he x 3 l.length))
  have h2:∀z x',xZ N (wk1 (gF ask p) z (pk ask l.length s x).2.2.1 x').1:=fun z x'=>by
   unfold wk1
   exact yE (P:=fun q:PS×σ=>xZ N q.1) (zR9 hN he _ _ _ h1) h1
  unfold wkM
  exact yE (P:=fun q:PS×σ=>xZ N q.1) h (yE (P:=fun q:PS×σ=>xZ N q.1) (yL5 hN he p k _ _ _ (h2 _ _)) h1)
theorem yK6 (hN:4<=N) (he:fZ N ask) (p:Pg) (s:PS) (x:σ) (h:xZ N s):xZ N (xQ ask p s x).1:=by
 have h1:=yE1 hN h (he x 1 0)
 have h2:=zL6 hN he p (vB (ckS s (ask x 1 0).1)) _ (ask x 1 0).2 h1
 have h3:∀(s:PS) (x:σ),xZ N s->xZ N (sF ask p s x).1:=fun s x h=>by
  unfold sF
  exact yE (P:=fun q:PS×σ=>xZ N q.1) (yL5 hN he p _ _ _ _ h) (he x 2 0)
 unfold xQ
 exact yE (P:=fun q:PS×σ=>xZ N q.1) ⟨by show (0:Int)<=2;omega,by show (2:Int)<=N;omega⟩ (yE (P:=fun q:PS×σ=>xZ N q.1) (yE (P:=fun q:PS×σ=>xZ N q.1) (h3 _ _ h2) h2) h1)
theorem yQ7 (hN:4<=N) (he:fZ N ask) (p:Pg) (k:Nat) (f:Int) (x:σ):xZ N (tG ask p k f x).1:=by
 have ht:∀(k:Nat) (s:PS) (x:σ),xZ N s->xZ N (xG ask p k s x).1:=by
  intro k
  induction k with
  | zero=>intro s x h;exact h
  | succ k ih=>
   intro s x h
   unfold xG
   exact yE (P:=fun q:PS×σ=>xZ N q.1) (ih _ _ (yK6 hN he p s x h)) h
 unfold tG
 exact ht k _ _ (zR9 hN he _ _ _ ⟨by show (0:Int)<=0;omega,by show (0:Int)<=N;omega⟩)
end
theorem zZ5:fZ 5 yG:=by
 intro x k o
 by_cases h:(yG x k o).1.e=0
 ·rw [h];omega
 ·rw [dU x k o h];simp [xC]
def oR (own:Int) (l:List Inp):Int:=if own=5\/own=6 then own else match l with
 | []=>own
 | x::_=>if x.1=5/\(x.2.2.1:Int)=own then own else 6
def iE (p:Pg) (f:Int) (y:VL):PS×VL:=tG lL p (y.1.length+1) f y
theorem yN8 {σ:Type} {ask:σ->Int->Int->Rep×σ} {mes:σ->Nat} (h:uP ask mes):uP (kL ask) (fun y=>mes y.x):=by
 refine⟨?_,?_,?_,?_,?_,zW0 h.most⟩
 ·intro y k o
  unfold kL
  split
  ·exact Nat.le_refl _
  ·split
   ·exact h.le y.x k o
   ·exact h.le y.x k o
 ·intro y he
  unfold kL at he ⊢
  split at he
  ·simp [xC] at he
  ·rename_i hz
   rw [if_neg hz]
   split at he
   ·rename_i h0;rw [if_pos h0];exact h.lt y.x h0
   ·rename_i h0;exact absurd he h0
 ·intro y he
  unfold kL at he ⊢
  split at he
  ·simp [xC] at he
  ·rename_i hz
   rw [if_neg hz]
   split at he
   ·rename_i h0;rw [if_pos h0];exact h.clock y.x h0
   ·rename_i h0;exact absurd he h0
 ·intro y n h2 h8 he
  unfold kL at he ⊢
  split at he
  ·simp [xC] at he
  ·rename_i hz
   rw [if_neg hz]
   split at he
   ·rename_i h0;rw [if_pos h0];exact h.pick y.x n h2 h8 h0
   ·rename_i h0;exact absurd he h0
 ·intro y z hz
  unfold kL at hz
  split at hz
  ·simp [xC] at hz
  ·split at hz
   ·exact h.files y.x z hz
   ·exact h.files y.x z hz
theorem yE7 (l:List Inp) (x:Inp):frs (l++[x])=frs l++frL x:=by unfold frs;simp
theorem yM5:bs tW=hd3:=by
 unfold tW
 rw [nY,nY,nY,mX]
 rfl
def RecI (M:Nat) (h:Int) (y:GS RS):Prop:=h=y.l.length/\bs y.x.log=hd3++frs y.l/\(∀i,i∈y.l->Fit i/\i.1≠5)/\y.l.length+y.x.left<=M
theorem yC3 (n:Nat) (h:n<=50000000):wrap64 ((n:Int)+1)=((n+1:Nat):Int):=by unfold wrap64;omega
theorem zZ6 {M:Nat} (hM:M<=50000000) (h:Int) (y:GS RS) (k o:Int) (hm:zB1 k o) (_:y.z=false) (hi:RecI M h y) (he:(yG y.x k o).1.e=0):RecI M (wrap64 (h+1)) ⟨(yG y.x k o).2,y.l++[qL (yG y.x k o).1],false⟩:=by
 obtain⟨h1,h2,h3,h4⟩:=hi
 obtain⟨_,_,a3,a4,_,a6,a7⟩:=zS6 hm he
 refine⟨?_,?_,?_,?_⟩
 ·show wrap64 (h+1)=((y.l++[qL (yG y.x k o).1]).length:Int)
  rw [h1,yC3 _ (by omega),List.length_append];rfl
 ·show bs (yG y.x k o).2.log=hd3++frs (y.l++[qL (yG y.x k o).1])
  rw [a6,h2,yE7,List.append_assoc]
 ·intro i hi
  rcases List.mem_append.1 hi with hi | hi
  ·exact h3 i hi
  ·rw [List.mem_singleton.1 hi];exact⟨a3,a4⟩
 ·show (y.l++[qL (yG y.x k o).1]).length+(yG y.x k o).2.left<=M
  rw [List.length_append];simp only [List.length_cons,List.length_nil];omega
structure RecRun (p:Pg) (f:Int) (x:RS) (s:PS) (xs:List Inp):Prop where
 fit:∀i,i∈xs->Fit i/\i.1≠5
 heard:s.heard=xs.length
 fin:1<=s.fin/\s.fin<=5
 small:xs.length<=50000000
 ghost:∃k0 y,(∀k,k0<=k->tG (kL yG) p k f ⟨x,[],false⟩=(s,y))/\y.l=xs/\(y.z=true->s.fin=5)
theorem zS7 {p:Pg} (hp:sM p) (f:Int) (lc:List Int) (bt:List (Value×List Int)) (lp ll:List Int) (hN:lc.length+bt.length+lp.length+ll.length<=50000000) :
  ∃xs,RecRun p f ⟨lc,bt,lp,ll,tW⟩ (sL p f lc bt lp ll).1 xs/\bs (rB (sL p f lc bt lp ll))=zN3 xs (sL p f lc bt lp ll).1.fin.toNat/\xs.length<=lc.length+bt.length+lp.length+ll.length:=by
 obtain⟨y,hrun,hx,hI,hz⟩:=zW3 kC pJ.most hp (I:=RecI (lc.length+bt.length+lp.length+ll.length)) (E:=fun e=>e=5) (x:=(⟨lc,bt,lp,ll,tW⟩ : RS)) ⟨rfl,by rw [yM5];simp [frs],fun i h=>absurd h (by simp),by show 0+(lc.length+bt.length+lp.length+ll.length)<=lc.length+bt.length+lp.length+ll.length;omega⟩ (zZ6 hN)
  (fun h y k o hm hz hi he=>⟨by rw [dU y.x k o he];exact hi,by rw [dU y.x k o he];rfl⟩) (lc.length+1) f
 have hmore:=aF (yN8 pJ) p f ⟨(⟨lc,bt,lp,ll,tW⟩ : RS),[],false⟩ (lc.length+1) (Nat.lt_succ_self _)
 have hfin:=yQ7 (by omega) zZ5 p (lc.length+1) f (⟨lc,bt,lp,ll,tW⟩ : RS)
 have hne:=(aF pJ p f (⟨lc,bt,lp,ll,tW⟩ : RS) (lc.length+1) (Nat.lt_succ_self _)).1
 have hr:sL p f lc bt lp ll=tG yG p (lc.length+1) f ⟨lc,bt,lp,ll,tW⟩:=rfl
 rw [<-hr] at hrun hx hI hz hfin hne
 obtain⟨i1,i2,i3,i4⟩:=hI
 have hf1:1<=(sL p f lc bt lp ll).1.fin/\(sL p f lc bt lp ll).1.fin<=5:=by have h1:=hfin.1;have h2:=hfin.2;omega
 refine⟨y.l,⟨i3,i1,hf1,by omega,lc.length+1,y,fun k hk=>by rw [hmore.2 k hk,hrun],rfl,hz⟩,?_,by omega⟩
 have he:=fL (sL p f lc bt lp ll).1.fin.toNat (by omega) (by omega)
 unfold rB
 rw [uA,<-hx,i2,mY he (nC 5 0 _ [] (.inr rfl)),List.append_assoc]
 rfl
