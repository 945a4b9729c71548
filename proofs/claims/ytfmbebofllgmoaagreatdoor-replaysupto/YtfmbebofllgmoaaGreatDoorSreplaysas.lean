/-
  PROVED HERE: bodies and sums: no body begins another one; one
-/
import Derived.Laws.BitsAllLaws
import Derived.Test.YtfmbebofllgmoaaGreatDoorSreplaysam
set_option maxHeartbeats 4000000
set_option maxRecDepth 20000
namespace Go.Proofs.YtfmbebofllgmoaaGreatDoor
open Go.RowKit
def xH (x:Inp):List Nat:=x.1::vbs (rG x)
theorem zR6:∀(j n:Nat),n<128 ^ (j+1)->(vb n).length<=j+1
 | 0,n,h=>by rw [uT n (by omega)];simp
 | j+1,n,h=>by
  by_cases hn:n<128
  ·rw [uT n hn];simp
  ·rw [mY n hn,List.length_cons]
   have h1:n / 128<128 ^ (j+1):=by rw [Nat.div_lt_iff_lt_mul (by omega)];rwa [Nat.pow_succ] at h
   have:=zR6 j (n / 128) h1
   omega
theorem Fit.kind {x:Inp} (h:Fit x):x.1=1\/x.1=2\/x.1=3\/x.1=4\/x.1=5:=by
 rcases h with h | h | h | h | h
 ·exact .inl h.1
 ·exact .inr (.inl h.1)
 ·exact .inr (.inr (.inl h.1))
 ·exact .inr (.inr (.inr (.inl h.1)))
 ·exact .inr (.inr (.inr (.inr h.1)))
theorem oT:∀(fs:List Nat) (last:Int),-1<=last->last<8->tF last (zs fs)=true->(fs.length:Int)+last<=7/\∀f,f∈fs->f<8
 | [],last,_,h8,_=>⟨by simp;omega,fun _ h=>absurd h (by simp)⟩
 | f::t,last,h1,h8,h=>by
  have e:zs (f::t)=(f:Int)::zs t:=rfl
  rw [e] at h
  simp only [tF] at h
  by_cases hc:(f:Int)<=last\/8<=(f:Int)
  ·rw [if_pos hc] at h;cases h
  ·rw [if_neg hc] at h
   obtain⟨g1,g2⟩:=oT t f (by omega) (by omega) h
   refine⟨by simp only [List.length_cons];omega,?_⟩
   intro x hx
   rcases List.mem_cons.1 hx with rfl | hx
   ·omega
   ·exact g2 x hx
theorem bR:∀(fs:List Nat),(∀f,f∈fs->f<128)->vbs fs=fs
 | [],_=>rfl
 | f::t,h=>by
  rw [tP,uT f (h f (List.mem_cons_self ..)),bR t (fun x hx=>h x (List.mem_cons_of_mem _ hx))];rfl
theorem Fit.nums_lt {x:Inp} (h:Fit x):∀n,n∈rG x->n<128 ^ 6:=by
 obtain⟨k,o,n,fs⟩:=x
 rcases h with ⟨e,h1,h2,h3⟩ | ⟨e,h1,h2,h3⟩ | ⟨e,h1,h2,h3,h4⟩ | ⟨e,h1,h2,h3,h4⟩ | ⟨e,h1,h2,h3,h4⟩<;>simp only at e h1 h2 h3<;>subst e
 ·intro m hm;simp [rG] at hm;omega
 ·obtain⟨g1,g2⟩:=oT fs (-1) (by omega) (by omega) h3
  intro m hm
  simp [rG] at hm
  rcases hm with rfl | hm
  ·omega
  ·have:=g2 m hm;omega
 ·intro m hm;simp [rG] at hm;omega
 ·intro m hm;simp [rG] at hm;omega
 ·intro m hm;simp [rG] at hm;omega
theorem oK {x:Inp} (h:Fit x):2<=(xH x).length/\(xH x).length<=10:=by
 obtain⟨k,o,n,fs⟩:=x
 rcases h with ⟨e,h1,h2,h3⟩ | ⟨e,h1,h2,h3⟩ | ⟨e,h1,h2,h3,h4⟩ | ⟨e,h1,h2,h3,h4⟩ | ⟨e,h1,h2,h3,h4⟩<;>simp only at e h1 h2 h3<;>subst e
 ·have:=zR6 5 n (by omega)
  have:=kU n
  simp only [xH,rG,vbs,List.length_cons]
  simp
  omega
 ·obtain⟨g1,g2⟩:=oT fs (-1) (by omega) (by omega) h3
  have e:xH (2,o,n,fs)=2::fs.length::fs:=by
   have:rG (2,o,n,fs)=fs.length::fs:=rfl
   unfold xH
   rw [this,tP,uT _ (by omega),bR fs (fun f hf=>by have:=g2 f hf;omega)]
   rfl
  rw [e]
  simp only [List.length_cons]
  omega
 ·have e:xH (3,o,n,fs)=3::(vb o++(vb n++[])):=rfl
  rw [e,uT o (by omega),uT n (by omega)]
  simp
 ·have e:xH (4,o,n,fs)=4::(vb o++(vb n++[])):=rfl
  have:=zR6 2 n (by omega)
  have:=zR6 2 o (by omega)
  have:=kU n
  rw [e,List.length_cons,List.length_append,List.append_nil]
  omega
 ·have e:xH (5,o,n,fs)=5::(vb n++[]):=rfl
  rw [e,uT n (by omega)]
  simp
def ipL (l:List Nat):Option Inp:=match l with
 | []=>none
 | k::t=>(nY t.length t).bind fun ns=>(inpN k ns).map fun r=>(k,r)
theorem jI (l:List Nat) (hb:∀x,x∈l->x<256) (x:Inp):ipL l=some x↔Fit x/\l=xH x:=by
 obtain⟨k,o,n,fs⟩:=x
 cases l with
 | nil=>simp [ipL,xH]
 | cons c t=>
  have hbt:∀x,x∈t->x<256:=fun x hx=>hb x (List.mem_cons_of_mem _ hx)
  constructor
  ·intro h
   simp only [ipL] at h
   obtain⟨ns,h1,h2⟩:=Option.bind_eq_some_iff.1 h
   obtain⟨⟨o',n',fs'⟩,h3,h4⟩:=Option.map_eq_some_iff.1 h2
   injection h4 with e1 e2
   injection e2 with e2 e3
   injection e3 with e3 e4
   subst e1 e2 e3 e4
   obtain⟨g1,g2⟩:=(zE2 c ns o' n' fs').1 h3
   obtain⟨g3,_⟩:=(lW t.length t ns (Nat.le_refl _) hbt).1 h1
   exact⟨g1,by unfold xH;rw [<-g2,<-g3]⟩
  ·rintro ⟨hf,h⟩
   unfold xH at h
   injection h with e1 e2
   simp only at e1
   subst e1
   have h1:=(lW t.length t (rG (c,o,n,fs)) (Nat.le_refl _) hbt).2 ⟨e2,hf.nums_lt⟩
   have h3:=(zE2 c (rG (c,o,n,fs)) o n fs).2 ⟨hf,rfl⟩
   simp only [ipL,h1,Option.bind_some,h3,Option.map_some]
theorem ipL_bs (b:ByteArray) (h0:0<b.size):ipL (bs b)=(sC b).map fun r=>(yH b 0,r):=by
 have hl:=vB b
 have he:=uH b 1
 have hz:(b.extract 1 b.size).size=b.size-1:=by simp [ByteArray.size_extract]
 cases h:bs b with
 | nil=>rw [h] at hl;simp at hl;omega
 | cons k t=>
  have hk:yH b 0=k:=by rw [cW,h];rfl
  have ht:bs (b.extract 1 b.size)=t:=by rw [he,h];rfl
  have hn:(b.extract 1 b.size).size=t.length:=by rw [<-vB,ht]
  unfold sC tO
  rw [hk,ht,hn]
  simp only [ipL]
  cases nY t.length t with
  | none=>rfl
  | some ns=>rfl
/-! ### The sum -/
def smB (l:List Nat):ByteArray:=⟨(l.map UInt8.ofNat).toArray⟩
theorem smB_bs (b:ByteArray):smB (bs b)=b:=by
 obtain⟨⟨l⟩⟩:=b
 simp only [smB,bs,List.map_map]
 have:(UInt8.ofNat ∘ UInt8.toNat)=id:=by funext x;simp
 rw [this,List.map_id]
def sm (l:List Nat):List Nat:=bs (pP (smB l))
theorem yG9 (b:ByteArray):sm (bs b)=bs (pP b):=by unfold sm;rw [smB_bs]
theorem bs_b4 (z:Int):bs (b4 z)=[(z / 16777216 % 256).toNat,(z / 65536 % 256).toNat,(z / 256 % 256).toNat,(z % 256).toNat]:=by
 unfold b4
 simp only [nH,mE,List.nil_append,UInt8.toNat_ofNat',List.cons_append]
 congr 1
 ·omega
 ·congr 1
  ·omega
  ·congr 1
   ·omega
   ·congr 1;omega
theorem yH0 (l:List Nat):(sm l).length=4:=by
 unfold sm pP
 rw [bs_b4];rfl
end Go.Proofs.YtfmbebofllgmoaaGreatDoor
namespace Go.Proofs.YtfmbebofllgmoaaGreatDoor
open Go.RowKit
attribute [local go_sem ↓] Go.wp_at_zero Go.wp_at_succ
def nGo:Nat->Nat->Nat->List Nat->Nat×Nat
 | 0,_,_,_=>(0,0)
 | _+1,_,_,[]=>(0,0)
 | f+1,k,n,x::t=>if 128<=x then nGo f (k+1) (n+x % 128*128 ^ k) t else (n+x*128 ^ k,k+1)
theorem yL5 (f k n:Nat):nGo f k n []=(0,0):=by cases f<;>rfl
theorem eU (f k n x:Nat) (t:List Nat) (h:128<=x):nGo (f+1) k n (x::t)=nGo f (k+1) (n+x % 128*128 ^ k) t:=by
 simp only [nGo];rw [if_pos h]
theorem eT (f k n x:Nat) (t:List Nat) (h:x<128):nGo (f+1) k n (x::t)=(n+x*128 ^ k,k+1):=by
 simp only [nGo];rw [if_neg (by omega)]
theorem yE5:∀(f k acc n:Nat) (t:List Nat),n<128 ^ f->0<f->nGo f k acc (vb n++t)=(acc+n*128 ^ k,k+(vb n).length)
 | 0,_,_,_,_,_,h=>absurd h (Nat.lt_irrefl 0)
 | f+1,k,acc,n,t,hn,_=>by
  by_cases h:n<128
  ·rw [uT n h]
   rw [List.singleton_append,eT f k acc n t h]
   rfl
  ·rw [mY n h,List.cons_append,eU _ _ _ _ _ (by omega)]
   have h1:n / 128<128 ^ f:=by rw [Nat.div_lt_iff_lt_mul (by omega)];rwa [Nat.pow_succ] at hn
   have hf:0<f:=by
    cases f with
    | zero=>simp at h1;omega
    | succ f=>omega
   rw [yE5 f (k+1) _ (n / 128) t h1 hf]
   have e:(n % 128+128) % 128=n % 128:=by omega
   rw [e,List.length_cons]
   have e2:acc+n % 128*128 ^ k+n / 128*128 ^ (k+1)=acc+n*128 ^ k:=by
    rw [Nat.pow_succ,Nat.add_assoc,Nat.mul_comm (128 ^ k) 128,<-Nat.mul_assoc,<-Nat.add_mul]
    congr 2;omega
   rw [e2]
   congr 1;omega
theorem yE4:∀(f k n:Nat) (l:List Nat),(nGo f k n l).2<=k+l.length/\((nGo f k n l).2=0\/k<(nGo f k n l).2)
 | 0,_,_,_=>⟨Nat.zero_le _,.inl rfl⟩
 | _+1,_,_,[]=>⟨Nat.zero_le _,.inl rfl⟩
 | f+1,k,n,x::t=>by
  by_cases h:128<=x
  ·rw [eU _ _ _ _ _ h]
   have:=yE4 f (k+1) (n+x % 128*128 ^ k) t
   rw [List.length_cons]
   omega
  ·rw [eT _ _ _ _ _ (by omega)]
   simp
def numD (s:ByteArray):Nat×Nat:=nGo 7 0 0 (bs s)
def NRel (s:ByteArray) (w:World) (h u i:Value) (wr:World):Prop:=
 wr=w/\∃f k n:Nat,k<=s.size/\f+k=7/\h=.int .i64 n/\u=.int .i64 ((128 ^ k:Nat):Int)/\i=.int .i64 k/\n<128 ^ k/\nGo f k n ((bs s).drop k)=numD s
theorem zL8 (s:ByteArray) (hs:s.size<=1000000000) (w:World):Calls Tryz.prog 131 #[.string s] w fun e w'=>e=.returned (.tuple #[.int .i64 (numD s).1,.int .i64 (numD s).2])/\w'=w:=by
 go_enter Tryz.func131,Tryz.ntmps131
 go_wp2
 go_loopw [4,5,6] (fun h u i wr=>NRel s w h u i wr) (fun _ _ i _=>7-(intOf i).toNat)
 case atStart=>exact⟨rfl,7,0,0,Nat.zero_le _,rfl,rfl,rfl,rfl,by decide,rfl⟩
 case round=>
  obtain⟨rfl,f,k,n,hk,hk6,rfl,rfl,rfl,hn,hv⟩:=hrel
  by_cases hlt:k<s.size/\k<7
  ·obtain⟨hlt,hlt6⟩:=hlt
   have e0:=xG s k hlt
   have hb:=tG s k
   rw [bU s k hlt,e0] at hv
   rw [e0] at hb
   clear e0
   obtain⟨f,rfl⟩ : ∃g,f=g+1:=⟨f-1,by omega⟩
   by_cases hx:(128:Int)<=((s[k]'hlt).toNat:Int)
   ·rw [eU _ _ _ _ _ (by omega)] at hv
    have HV:=zZ hv
    clear hv
    rcases (by omega:k=0\/k=1\/k=2\/k=3\/k=4\/k=5\/k=6) with rfl | rfl | rfl | rfl | rfl | rfl | rfl
    all_goals
     go_wp2
     go_roundw
     case rel=>
      refine⟨rfl,_,_,_,?_,?_,?_,?_,?_,?_,zY HV⟩
      ·omega
      ·omega
      ·exact congrArg (Value.int .i64) (by omega)
      ·rfl
      ·rfl
      ·omega
     case measure=>simp [intOf]
   ·rw [eT _ _ _ _ _ (by omega)] at hv
    have HV:=zZ hv
    clear hv
    rcases (by omega:k=0\/k=1\/k=2\/k=3\/k=4\/k=5\/k=6) with rfl | rfl | rfl | rfl | rfl | rfl | rfl
    all_goals
     go_wp2
     refine bodyPost_ret (v:=.tuple #[.int .i64 (numD s).1,.int .i64 (numD s).2]) ?_ rfl ⟨rfl,rfl⟩
     rw [<-zY HV]
     simp [results,Tryz.results131,go_sem]
     omega
  ·have e:nGo f k n ((bs s).drop k)=(0,0):=by
    by_cases h:k<s.size
    ·rw [(by omega:f=0)];rfl
    ·rw [zI2 s k (by omega),yL5]
   rw [e] at hv
   have HV:=zZ hv
   clear hv e
   by_cases h1:(k:Int)<(s.size:Int)
   ·have h2:¬(k:Int)<7:=by omega
    go_wp2
    refine bodyPost_ret (v:=.tuple #[.int .i64 0,.int .i64 0]) (by simp [results,Tryz.results131,go_sem]) rfl ?_
    exact⟨by rw [<-zY HV];rfl,rfl⟩
   ·go_wp2
    refine bodyPost_ret (v:=.tuple #[.int .i64 0,.int .i64 0]) (by simp [results,Tryz.results131,go_sem]) rfl ?_
    exact⟨by rw [<-zY HV];rfl,rfl⟩
def qN:Nat->List Nat->Option (List Nat)
 | 0,l=>if l=[] then some [] else none
 | f+1,l=>if l=[] then some [] else if (nGo 7 0 0 l).2=0 then none else (qN f (l.drop (nGo 7 0 0 l).2)).map fun r=>(nGo 7 0 0 l).1::r
def rK (s:ByteArray):Option (List Nat):=qN s.size (bs s)
theorem zF0:∀(ns:List Nat) (f:Nat),(∀n,n∈ns->n<128 ^ 7)->(vbs ns).length<=f->qN f (vbs ns)=some ns
 | [],f,_,_=>by cases f<;>rfl
 | n::r,0,_,hf=>by
  rw [tP,List.length_append] at hf
  have:=kU n
  omega
 | n::r,f+1,hn,hf=>by
  have hp:=kU n
  rw [tP,List.length_append] at hf
  have hne:vbs (n::r)≠[]:=by
   rw [tP]
   intro e
   have:=congrArg List.length e
   rw [List.length_append] at this
   simp at this
   rw [this.1] at hp
   simp at hp
  have hg:=yE5 7 0 0 n (vbs r) (hn n (List.mem_cons_self ..)) (by omega)
  rw [<-tP] at hg
  simp only [qN,if_neg hne]
  rw [hg]
  simp only [Nat.zero_add,Nat.pow_zero,Nat.mul_one]
  rw [if_neg (by omega),tP,List.drop_left,zF0 r f (fun m hm=>hn m (List.mem_cons_of_mem _ hm)) (by omega)]
  rfl
def NsRel (s0:ByteArray) (w:World) (s v:Value) (wr:World):Prop:=
 ∃(s':ByteArray) (ns:List Nat) (f:Nat),s=.string s'/\s'.size<=f/\s'.size+ns.length<=s0.size/\yZ wr w.heap.size v (zs ns)/\(qN f (bs s')).map (ns++·)=rK s0/\Fr (fun _=>False) w wr (fun _=>False)
def fK (s:ByteArray) (w:World) (e:Ending) (w':World):Prop:=
 Fr (fun _=>False) w w' (fun _=>False)/\match rK s with
 | none=>e=.returned (.tuple #[.slice none 0 0,.bool false])
 | some ns=>ns.length<=s.size/\∃v,e=.returned (.tuple #[v,.bool true])/\yZ w' w.heap.size v (zs ns)
theorem zL6 {s:ByteArray} {w w':World} {e:Ending} (hv:rK s=none) (he:e=.returned (.tuple #[.slice none 0 0,.bool false])) (hf:Fr (fun _=>False) w w' (fun _=>False)):fK s w e w':=by
 unfold fK;rw [hv];exact⟨hf,he⟩
theorem zL7 {s:ByteArray} {w w':World} {e:Ending} {v:Value} {ns:List Nat} (hv:rK s=some ns) (hl:ns.length<=s.size) (he:e=.returned (.tuple #[v,.bool true])) (ho:yZ w' w.heap.size v (zs ns)) (hf:Fr (fun _=>False) w w' (fun _=>False)):fK s w e w':=by
 unfold fK;rw [hv];exact⟨hf,hl,v,he,ho⟩
theorem sT (s:ByteArray) (hs:s.size<=1000) (w:World):Calls Tryz.prog 111 #[.string s] w (fK s w):=by
 go_enter Tryz.func111,Tryz.ntmps111
 go_wp2
 go_loopw [0,4] (fun h v wr=>NsRel s w h v wr) (fun h _ _=>zR0 h)
 case atStart=>exact⟨s,[],s.size,rfl,Nat.le_refl _,Nat.le_refl _,zX _ _ _ _,by simp [rK],Fr.refl _ w⟩
 case round=>
  obtain⟨s',ns,f,rfl,hf,hl,ho,hv,hfr⟩:=hrel
  have hsz:w.heap.size<=wr.heap.size:=hfr.size
  have HO:=zZ ho
  have HNE:=zZ ho.lt
  have HF:=zZ hfr
  have HLE:=zZ (show (zs ns).length<=1000 by simp [zs];omega)
  clear ho hfr
  by_cases h0:0<s'.size
  ·have hb:=rV h0
   have hne:bs s'≠[]:=fun e=>absurd h0 (yA6.1 e)
   obtain⟨f,rfl⟩ : ∃g,f=g+1:=⟨f-1,by omega⟩
   simp only [qN,if_neg hne] at hv
   have hle:=(yE4 7 0 0 (bs s')).1
   rw [vB,Nat.zero_add] at hle
   have hc:=zL8 s' (by omega)
   unfold numD at hc
   have HV:=zZ hv
   have HC:=zZ hc
   clear hv hc
   generalize hx:nGo 7 0 0 (bs s')=x at *
   obtain⟨n,k⟩:=x
   by_cases hk:k=0
   ·subst hk
    go_wp2_with (go_at_call 131;refine((zY HC) _).mono ?_;rintro _ _ ⟨rfl,rfl⟩)
    exact bodyPost_ret (v:=.tuple #[.slice none 0 0,.bool false]) (by simp [results,Tryz.results111,go_sem]) rfl (zL6 (by rw [<-zY HV];rfl) rfl (zY HF))
   ·go_wp2_with first
     | (go_at_call 131;refine((zY HC) _).mono ?_;rintro _ _ ⟨rfl,rfl⟩)
     | (at_builtin;refine pN rfl (.tmp 17) (.tmp 19) rfl rfl rfl (zY HO) (zY HLE) hsz ?_;intro v' w' o' g')
    have hse:(s'.extract k s'.size).size=s'.size-k:=by simp [ByteArray.size_extract]
    go_roundw
    case rel=>
     refine⟨_,ns++[n],f,rfl,by omega,by simp;omega,by simpa [zs] using o',?_,((zY HF).alloc _).grown g' (fun j hj=>((zY HNE) j hj).1)⟩
     rw [<-zY HV,if_neg hk,uH]
     cases qN f ((bs s').drop k)<;>simp
    case measure=>simp only [zR0];omega
  ·cases oW h0
   have hvs:rK s=some ns:=by
    have e:bs ⟨#[]⟩=[]:=rfl
    rw [<-hv,e]
    cases f<;>simp [qN]
   have hns:ns.length<=s.size:=by
    have:(⟨#[]⟩ : ByteArray).size=0:=rfl
    omega
   clear hv hl
   go_wp2
   exact bodyPost_ret (v:=.tuple #[u4,.bool true]) (by simp [results,Tryz.results111,go_sem]) rfl (zL7 hvs hns rfl (zY HO) (zY HF))
end Go.Proofs.YtfmbebofllgmoaaGreatDoor
namespace Go.Proofs.YtfmbebofllgmoaaGreatDoor
open Go.RowKit
def frL (x:Inp):List Nat:=(xH x).length::(xH x++sm (xH x))
theorem gV (x:Inp):(frL x).length=(xH x).length+5:=by
 unfold frL;rw [List.length_cons,List.length_append,yH0]
def rcL (l:List Nat):Nat ⊕ (Inp×Nat):=match l with
 | []=>.inl 2
 | n::t=>if 128<=n/\t=[] then .inl 2 else if n<1\/40<n then .inl 4 else if t.length<n+4 then .inl 2 else if sm (t.take n)≠(t.drop n).take 4 then .inl 3 else match ipL (t.take n) with
  | none=>.inl 4
  | some x=>.inr (x,n+5)
theorem jM (l:List Nat) (x:Inp) (k:Nat) (h:rcL l=.inr (x,k)):0<k/\k<=l.length:=by
 cases l with
 | nil=>simp [rcL] at h
 | cons n t=>
  simp only [rcL] at h
  split at h
  ·cases h
  split at h
  ·cases h
  split at h
  ·cases h
  split at h
  ·cases h
  split at h
  ·cases h
  ·injection h with h
   injection h with _ h
   rw [List.length_cons]
   omega
theorem vb_lt (n:Nat):∀x,x∈vb n->x<256:=fP _
theorem yA4 {x:Inp} (h:Fit x):∀y,y∈xH x->y<256:=by
 intro y hy
 unfold xH at hy
 rcases List.mem_cons.1 hy with rfl | hy
 ·have:=h.kind;omega
 ·obtain⟨n,_,hn⟩:=List.mem_flatMap.1 hy
  exact vb_lt n y hn
theorem zF7 {x:Inp} (h:Fit x) (rest:List Nat):rcL (frL x++rest)=.inr (x,(frL x).length):=by
 have hl:=oK h
 have hi:=(jI (xH x) (yA4 h) x).2 ⟨h,rfl⟩
 have hs:=yH0 (xH x)
 have e:frL x++rest=(xH x).length::(xH x++(sm (xH x)++rest)):=by unfold frL;simp
 rw [e,gV]
 have hd:(xH x++(sm (xH x)++rest)).drop (xH x).length=sm (xH x)++rest:=List.drop_left
 have ht:(xH x++(sm (xH x)++rest)).take (xH x).length=xH x:=List.take_left
 have ht4:(sm (xH x)++rest).take 4=sm (xH x):=by rw [<-hs];exact List.take_left
 have hlen:(xH x++(sm (xH x)++rest)).length=(xH x).length+(4+rest.length):=by rw [List.length_append,List.length_append,hs]
 simp only [rcL]
 rw [if_neg (by omega),if_neg (by omega),if_neg (by rw [hlen];omega),ht,hd,ht4,if_neg (by simp),hi]
theorem rc_why (l:List Nat) (w:Nat) (h:rcL l=.inl w):2<=w/\w<=4:=by
 cases l with
 | nil=>simp [rcL] at h;omega
 | cons n t=>
  simp only [rcL] at h
  split at h
  ·injection h with h;omega
  split at h
  ·injection h with h;omega
  split at h
  ·injection h with h;omega
  split at h
  ·injection h with h;omega
  split at h
  ·injection h with h;omega
  ·cases h
def rdL:Nat->List Nat->Nat->List Inp×Nat×Nat
 | 0,_,at_=>([],at_,2)
 | f+1,l,at_=>match rcL l with
  | .inl w=>([],at_,w)
  | .inr (x,k)=>if x.1=5 then ([x],at_+k,if l.drop k=[] then 1 else 5) else (x::(rdL f (l.drop k) (at_+k)).1,(rdL f (l.drop k) (at_+k)).2)
theorem mP:∀(f g:Nat) (l:List Nat) (a:Nat),l.length<f->l.length<g->rdL f l a=rdL g l a
 | 0,_,_,_,h,_=>absurd h (Nat.not_lt_zero _)
 | _,0,_,_,_,h=>absurd h (Nat.not_lt_zero _)
 | f+1,g+1,l,a,hf,hg=>by
  simp only [rdL]
  cases h:rcL l with
  | inl w=>rfl
  | inr q=>
   obtain⟨x,k⟩:=q
   have hk:=jM l x k h
   simp only
   rw [mP f g (l.drop k) (a+k) (by rw [List.length_drop];omega) (by rw [List.length_drop];omega)]
theorem dD (f:Nat) (l:List Nat) (a:Nat) (x:Inp) (k:Nat) (h:rcL l=.inr (x,k)) (h5:x.1≠5):rdL (f+1) l a=(x::(rdL f (l.drop k) (a+k)).1,(rdL f (l.drop k) (a+k)).2):=by
 simp only [rdL,h];rw [if_neg h5]
def frs (xs:List Inp):List Nat:=xs.flatMap frL
theorem yB5 (x:Inp) (r:List Inp):frs (x::r)=frL x++frs r:=rfl
theorem bJ:∀(xs:List Inp) (rest:List Nat) (f a:Nat),(∀x,x∈xs->Fit x/\x.1≠5)->(frs xs++rest).length<f->
  rdL f (frs xs++rest) a=(xs++(rdL (rest.length+1) rest (a+(frs xs).length)).1,(rdL (rest.length+1) rest (a+(frs xs).length)).2)
 | [],rest,f,a,_,hf=>by
  have e:frs []++rest=rest:=rfl
  rw [e] at hf ⊢
  rw [mP f (rest.length+1) rest a hf (by omega)]
  rfl
 | x::r,rest,0,a,_,hf=>absurd hf (Nat.not_lt_zero _)
 | x::r,rest,f+1,a,hx,hf=>by
  obtain⟨h1,h5⟩:=hx x (List.mem_cons_self ..)
  have hr:=fun y hy=>hx y (List.mem_cons_of_mem _ hy)
  have hk:=gV x
  rw [yB5,List.append_assoc] at hf ⊢
  have hd:(frL x++(frs r++rest)).drop (frL x).length=frs r++rest:=List.drop_left
  rw [dD f _ a x _ (zF7 h1 (frs r++rest)) h5,hd,bJ r rest f (a+(frL x).length) hr (by rw [List.length_append] at hf;omega),List.length_append,Nat.add_assoc]
  rfl
def hd3:List Nat:=[82,82,49]
def yR (l:List Nat):List Inp×Nat×Nat:=if hd3 <+: l then rdL (l.length+1) (l.drop 3) 3 else if l <+: hd3 then ([],0,2) else ([],0,4)
def zL2 (xs:List Inp) (e:Nat):List Nat:=hd3++(frs xs++frL (5,0,e,[]))
theorem gU (e:Nat) (h1:1<=e) (h5:e<=5):Fit (5,0,e,[]):=.inr (.inr (.inr (.inr ⟨rfl,rfl,h1,h5,rfl⟩)))
theorem zM2 (r:List Nat):yR (hd3++r)=rdL (r.length+1) r 3:=by
 unfold yR
 rw [if_pos (List.prefix_append _ _)]
 have e:(hd3++r).drop 3=r:=rfl
 rw [e]
 exact mP _ _ _ _ (by rw [List.length_append];have:hd3.length=3:=rfl;omega) (by omega)
theorem yG0 (xs:List Inp) (e:Nat) (hx:∀x,x∈xs->Fit x/\x.1≠5) (h1:1<=e) (h5:e<=5):yR (zL2 xs e)=(xs++[(5,0,e,[])],(zL2 xs e).length,1):=by
 have hf:=gU e h1 h5
 have hr:=zF7 hf []
 rw [List.append_nil] at hr
 have hl:(zL2 xs e).length=3+(frs xs).length+(frL (5,0,e,[])).length:=by
  unfold zL2;rw [List.length_append,List.length_append];have:hd3.length=3:=rfl;omega
 unfold zL2
 rw [zM2,bJ xs (frL (5,0,e,[])) _ 3 hx (Nat.lt_succ_self _)]
 have e2:rdL ((frL (5,0,e,[])).length+1) (frL (5,0,e,[])) (3+(frs xs).length)=([(5,0,e,[])],3+(frs xs).length+(frL (5,0,e,[])).length,1):=by
  simp only [rdL,hr,if_true,List.drop_length]
 rw [e2]
 simp only
 rw [show (hd3++(frs xs++frL (5,0,e,[]))).length=3+(frs xs).length+(frL (5,0,e,[])).length from hl]
end Go.Proofs.YtfmbebofllgmoaaGreatDoor
namespace Go.Proofs.YtfmbebofllgmoaaGreatDoor
open Go.RowKit
attribute [local go_sem ↓] Go.wp_at_zero Go.wp_at_succ
theorem iO {a b:ByteArray}:a.toList=b.toList↔bs a=bs b:=by
 rw [Go.ByteArray.toList_eq,Go.ByteArray.toList_eq]
 constructor
 ·intro h;unfold bs;rw [h]
 ·intro h;rw [fO h]
def dA (a b:ByteArray):Bool:=decide (b.size<=a.size) && ((a.extract 0 b.size).toList==b.toList)
theorem zF6 (a b:ByteArray):dA a b=true↔bs b <+: bs a:=by
 unfold dA
 rw [Bool.and_eq_true,decide_eq_true_eq,beq_iff_eq,iO]
 constructor
 ·rintro ⟨h1,h2⟩
  rw [<-h2,nI,List.drop_zero]
  exact List.take_prefix _ _
 ·intro h
  have hl:=h.length_le
  rw [vB,vB] at hl
  refine⟨hl,?_⟩
  rw [nI,List.drop_zero,<-vB b]
  exact(List.prefix_iff_eq_take.1 h).symm
theorem zJ7 (a b:ByteArray) (w:World):Calls Tryz.prog 120 #[.string a,.string b] w fun e w'=>e=.returned (.bool (dA a b))/\w'=w:=by
 by_cases h:b.size<=a.size
 ·have hi:(b.size:Int)<=(a.size:Int):=by omega
  have e:dA a b=((a.extract 0 b.size).toList==b.toList):=by unfold dA;simp [h]
  rw [e]
  go_enter Tryz.func120,Tryz.ntmps120
  go_wp2
  go_ret
  exact⟨rfl,rfl⟩
 ·have hi:¬(b.size:Int)<=(a.size:Int):=by omega
  have e:dA a b=false:=by unfold dA;simp [h]
  rw [e]
  go_enter Tryz.func120,Tryz.ntmps120
  go_wp2
  go_ret
  exact⟨rfl,rfl⟩
theorem kD (a b:ByteArray) (w:World):Calls Tryz.prog 98 #[.string a,.string b] w fun e w'=>e=.returned (.bool (dA a b))/\w'=w:=by
 have h:=zJ7 a b
 have H:=zZ h
 clear h
 generalize dA a b=r at *
 go_enter Tryz.func98,Tryz.ntmps98
 go_wp2_with (go_at_call 120;refine((zY H) _).mono ?_;rintro e w' ⟨rfl,rfl⟩)
 go_ret
 exact⟨rfl,rfl⟩
def hd3S:ByteArray:=⟨#[82,82,49]⟩
theorem yK7:bs hd3S=hd3:=rfl
def begM (s:ByteArray):Int×Int:=if hd3 <+: bs s then (3,0) else if bs s <+: hd3 then (0,2) else (0,4)
theorem zS4 (s:ByteArray) (w:World):Calls Tryz.prog 58 #[.string s] w fun e w'=>e=.returned (.tuple #[.int .i64 (begM s).1,.int .i64 (begM s).2])/\w'=w:=by
 have h1:=kD s hd3S
 have h2:=kD hd3S s
 have e1:=zF6 s hd3S
 have e2:=zF6 hd3S s
 rw [yK7] at e1 e2
 have H1:=zZ h1
 have H2:=zZ h2
 clear h1 h2
 unfold hd3S at H1 H2 e1 e2
 have HM:Hid (begM s=if hd3 <+: bs s then (3,0) else if bs s <+: hd3 then (0,2) else (0,4)):=zZ rfl
 generalize begM s=M at *
 cases hr1:dA s ⟨#[82,82,49]⟩ with
 | true=>
  rw [hr1] at H1 e1
  have hp:=e1.1 rfl
  have hm:=zY HM
  rw [if_pos hp] at hm
  subst hm
  clear e1 e2 hr1 HM hp
  go_enter Tryz.func58,Tryz.ntmps58
  go_wp2_with (go_at_call 98;refine((zY H1) _).mono ?_;rintro e w' ⟨rfl,rfl⟩)
  refine bodyPost_ret (v:=.tuple #[.int .i64 3,.int .i64 0]) (by simp [results,Tryz.results58,go_sem]) rfl ⟨rfl,rfl⟩
 | false=>
  rw [hr1] at H1 e1
  have hp:¬hd3 <+: bs s:=fun h=>by have:=e1.2 h;cases this
  have hm:=zY HM
  rw [if_neg hp] at hm
  cases hr2:dA ⟨#[82,82,49]⟩ s with
  | true=>
   rw [hr2] at H2 e2
   rw [if_pos (e2.1 rfl)] at hm
   subst hm
   clear e1 e2 hr1 hr2 HM hp
   go_enter Tryz.func58,Tryz.ntmps58
   go_wp2_with fail
   go_at_call 98
   refine((zY H1) _).mono ?_
   rintro e w' ⟨rfl,rfl⟩
   go_wp2_with fail
   go_at_call 98
   refine((zY H2) _).mono ?_
   rintro e w' ⟨rfl,rfl⟩
   go_wp2
   refine bodyPost_ret (v:=.tuple #[.int .i64 0,.int .i64 2]) (by simp [results,Tryz.results58,go_sem]) rfl ⟨rfl,rfl⟩
  | false=>
   rw [hr2] at H2 e2
   rw [if_neg (fun h=>by have:=e2.2 h;cases this)] at hm
   subst hm
   clear e1 e2 hr1 hr2 HM hp
   go_enter Tryz.func58,Tryz.ntmps58
   go_wp2_with fail
   go_at_call 98
   refine((zY H1) _).mono ?_
   rintro e w' ⟨rfl,rfl⟩
   go_wp2_with fail
   go_at_call 98
   refine((zY H2) _).mono ?_
   rintro e w' ⟨rfl,rfl⟩
   go_wp2
   refine bodyPost_ret (v:=.tuple #[.int .i64 0,.int .i64 4]) (by simp [results,Tryz.results58,go_sem]) rfl ⟨rfl,rfl⟩
