/-
  PROVED HERE: slices of bytes that are a writer's own; the log
-/
import Derived.ArgAppend
import Derived.Test.YtfmbebofllgmoaaGreatDoorSallal
set_option maxHeartbeats 4000000
set_option maxRecDepth 20000
namespace Go.Proofs.YtfmbebofllgmoaaGreatDoor
open Go.RowKit
attribute [local go_sem ↓] Go.wp_at_zero Go.wp_at_succ
def own (v:Value) (k:Nat):Prop:=v.ownBlock=some k
def u8s (b:ByteArray):List Value:=b.data.toList.map fun x=>Value.int .u8 (x.toNat:Int)
def tN (w:World) (B:Nat) (v:Value) (b:ByteArray):Prop:=
 w.ownsRow B 5 1 v b.size (u8s b)\/(∃g,v=.slice (some ⟨g,0,none⟩) b.size b.size/\B<=g/\g<w.heap.size/\∀j u,(u8s b)[j]?=some u->w.cell? ⟨g,0+j,none⟩=some u)
theorem sA (g off j:Nat):(⟨g,off,none⟩ : Addr).add j=⟨g,off+j,none⟩:=by
 unfold Addr.add
 split
 ·subst_vars;rfl
 ·rfl
theorem tN.bump {w:World} {B:Nat} {v:Value} {b:ByteArray} (h:tN w B v b):∀k,own v k->B<=k/\k<w.heap.size:=by
 intro k hk
 rcases h with h | ⟨g,rfl,h1,h2,_⟩
 ·exact zS h k hk
 ·simp only [own,Value.ownBlock,Option.some.injEq] at hk
  subst hk
  exact⟨h1,h2⟩
theorem tN.block {w w':World} {B:Nat} {v:Value} {b:ByteArray} (h:tN w B v b) (hb:∀q,own v q->w'.heap[q]?=w.heap[q]?):tN w' B v b:=by
 rcases h with h | ⟨g,rfl,h1,h2,h3⟩
 ·exact .inl (yA h hb)
 ·have e:=hb g rfl
  refine .inr ⟨g,rfl,h1,?_,fun j u hj=>?_⟩
  ·rw [Array.getElem?_eq_getElem h2] at e
   exact(zN.1 e).1
  ·rw [zO (w:=w) (a:=⟨g,0+j,none⟩) e]
   exact h3 j u hj
theorem tN.alloc {w:World} {B:Nat} {v:Value} {b:ByteArray} (h:tN w B v b) (o:Obj):tN (w.alloc o) B v b:=h.block fun q hq=>zR _ _ _ (h.bump q hq).2
theorem tN.shape {w:World} {B:Nat} {v:Value} {b:ByteArray} (h:tN w B v b):∃a n c,v=.slice a n c:=by
 rcases h with h | ⟨g,rfl,_⟩
 ·rcases h.2 with ⟨h1,_⟩ | ⟨g,cap,cur,hv,_⟩
  ·exact⟨_,_,_,h1⟩
  ·exact⟨_,_,_,hv⟩
 ·exact⟨_,_,_,rfl⟩
theorem tN.low {w:World} {B B':Nat} {v:Value} {b:ByteArray} (h:tN w B v b) (hB:B'<=B):tN w B' v b:=by
 rcases h with h | ⟨g,h0,h1,h2⟩
 ·exact .inl ⟨h.1,h.2.imp id fun ⟨g,cap,cur,e1,e2,r⟩=>⟨g,cap,cur,e1,by omega,r⟩⟩
 ·exact .inr ⟨g,h0,by omega,h2⟩
theorem oB (b:ByteArray):(u8s b).length=b.size:=by simp [u8s]
theorem cM (a b:ByteArray):u8s (a++b)=u8s a++u8s b:=by simp [u8s]
theorem info5:∃i,Tryz.prog.info? 5=some i/\i.zero=some (.int .u8 0)/\i.size=1/\i.bytes=1:=by
 have h:(Tryz.prog.info? 5).map (fun i=>(i.zero,i.size,i.bytes))=some (some (.int .u8 0),1,1):=by kernel_rfl
 obtain⟨i,hi,hb⟩:=Option.map_eq_some_iff.1 h
 injection hb with h1 h2
 injection h2 with h2 h3
 exact⟨i,hi,h1,h2,h3⟩
theorem mK {ops:Array Oper} {rest:List Oper} {o:Oper} {a:Act} {Q:Exit->Act->World->Prop} {w:World} {B:Nat} {v:Value} {b c:ByteArray} (hgd:o.guard=none) (sv xv:Operand)
  (ho:o.op=.call {callee:=.builtin .append,args:=#[sv,xv],argTypes:=#[54,54]}) {ad:Addr} {cap:Nat}
  (hs:a.eval sv=v) (hx:a.eval xv=.slice (some ad) c.size cap) (hrow:tN w B v b) (hc:∀j u,(u8s c)[j]?=some u->w.cell? (ad.add j)=some u) (h0:0<c.size) (hn:b.size+c.size<=1000000000) (hB:B<=w.heap.size)
  (h:∀v' w',tN w' B v' (b++c)->Fr (own v) w w' (own v')->wpList Tryz.prog ops Q rest (a.put o.dst v') w'):wpList Tryz.prog ops Q (o::rest) a w:=by
 obtain⟨i,hi,hz,hs1,hby⟩:=info5
 have hm:b.size+c.size<=maxLen:=by simp only [maxLen];omega
 rcases hrow with hrow | ⟨g0,hg0,hgB,hgl,hgc⟩
 ·refine wpList_append_lies _ hgd sv xv 54 ho B 5 i _ 1 1 Tryz.underlying54 hi hz hs1 hby rfl (by omega) v b.size _ hs hrow ad c.size cap (u8s c) hx (by rw [oB];omega) hc (by simp [u8s,Value.oneCell']) h0 hm (by omega) hB w.heap.size rfl ?_
  intro g cp w' h1 h2 h3 h4
  refine h _ w' ?_ ?_
  ·refine .inl ?_
   rw [ByteArray.size_append,cM]
   exact h1
  ·refine⟨h2.os,h2.tape,h2.output,h2.size,fun k hk hn=>h2.block k hk (fun e=>hn e.symm),?_⟩
   intro k hk e
   simp only [own,Value.ownBlock,Option.some.injEq] at e
   subst e
   rcases h3 with h3 | h3
   ·exact h3
   ·omega
 ·subst hg0
  refine wpList_plain hgd fun K hK=>?_
  obtain⟨v',w',hr,h1,h2⟩:=run_append_arg_grows (P:=Tryz.prog) w 54 o.type 5 i _ 1 1 Tryz.underlying54 hi hz hs1 hby rfl (by omega) ⟨g0,0,none⟩ b.size b.size (u8s b) (by rw [oB];omega) (fun j u hj=>by rw [sA];exact hgc j u hj) ad c.size cap (u8s c) (by rw [oB];omega) hc (by omega) hm (by omega)
  unfold Oper.wp execOp
  simp only [ho,resolve,invoke,builtin,Sem.run_bind,Sem.run_pure,Result.andThen_ok,List.map_toArray,List.map_cons,List.map_nil,hs,hx,hr]
  refine hK _ _ (h v' w' (.inl ?_) ?_)
  ·rw [ByteArray.size_append,cM]
   exact⟨h1.1,h1.2.imp id fun ⟨g,cap,cur,e1,e2,r⟩=>⟨g,cap,cur,e1,by omega,r⟩⟩
  ·refine⟨h2.os,h2.tape,h2.output,h2.size,fun k hk _=>h2.block k hk (by simp),fun k hk e=>?_⟩
   have:=(zS h1 k e).1
   omega
theorem zB5 (b:ByteArray) (x:UInt8):b++ByteArray.empty.push x=b.push x:=by
 apply ByteArray.ext
 simp
theorem gX {ops:Array Oper} {rest:List Oper} {o:Oper} {a:Act} {Q:Exit->Act->World->Prop} {w:World} {B:Nat} {v:Value} {b:ByteArray} (hgd:o.guard=none) (sv xv:Operand)
  (ho:o.op=.call {callee:=.builtin .append,args:=#[sv,xv],argTypes:=#[54,54]}) {z:Int}
  (hs:a.eval sv=v) (hx:a.eval xv=.slice (some ⟨w.heap.size,0,none⟩) 1 1) (hrow:tN w B v b) (h0:0<=z) (h1:z<256) (hn:b.size<=999999999) (hB:B<=w.heap.size)
  (h:∀v' w',tN w' B v' (b.push (UInt8.ofNat z.toNat))->Fr (own v) w w' (own v')->wpList Tryz.prog ops Q rest (a.put o.dst v') w'):wpList Tryz.prog ops Q (o::rest) a (w.alloc (.cells #[.int .u8 z] 5)):=by
 refine mK (c:=ByteArray.empty.push (UInt8.ofNat z.toNat)) hgd sv xv ho hs (by simpa using hx) (hrow.alloc _) ?_ (by simp) (by simp;omega) (by simp;omega) ?_
 ·intro j u hu
  have hl:u8s (ByteArray.empty.push (UInt8.ofNat z.toNat))=[.int .u8 z]:=by simp [u8s];omega
  rw [hl] at hu
  cases j with
  | zero=>
   simp at hu
   subst hu
   exact cell_of_row _ _ 0 _ 5 (0,0) (heap_alloc_new _ _)
  | succ j=>simp at hu
 ·intro v' w' h2 h3
  refine h v' w' (by rwa [zB5] at h2) ⟨h3.os,h3.tape,h3.output,Nat.le_trans (by simp) h3.size,fun k hk hn=>(h3.same k (by simp;omega) hn).trans (zR _ _ _ hk),fun k hk e=>h3.old k (by simp;omega) e⟩
theorem nA {w:World} {B:Nat} {v:Value} {b:ByteArray} (h:tN w B v b) (n:Nat) (hn:n<4611686018427387904) (hb:b.size+(xR n).size<=1000000000) (hB:B<=w.heap.size) :
  Calls Tryz.prog 103 #[v,.int .i64 n] w fun e w'=>∃v',e=.returned v'/\tN w' B v' (b++xR n)/\Fr (own v) w w' (own v'):=by
 have H:=zZ h
 clear h
 go_enter Tryz.func103,Tryz.ntmps103
 go_wp2
 go_loopw [0,1] (fun u i wr=>∃(m:Nat) (c:ByteArray),i=.int .i64 m/\m<4611686018427387904/\c++xR m=b++xR n/\tN wr B u c/\Fr (own v) w wr (own u)) (fun _ i _=>(intOf i).toNat)
 case atStart=>exact⟨n,b,rfl,hn,rfl,zY H,Fr.refl _ _⟩
 case round=>
  obtain⟨m,c,rfl,hm,he,ho,hf⟩:=hrel
  have hcs:c.size+(xR m).size<=1000000000:=by rw [<-ByteArray.size_append,he,ByteArray.size_append];exact hb
  have h1s:=(kJ m).1
  have HE:=zZ he
  have HO:=zZ ho
  have HF:=zZ hf
  have hBw:B<=wr.heap.size:=Nat.le_trans hB hf.size
  clear he ho hf
  by_cases hlt:m<128
  ·have hv:xR m=ByteArray.empty.push (UInt8.ofNat m):=by rw [sY,if_pos hlt]
   have hge:¬(128:Int)<=m:=by omega
   have hw2:IntKind.u8.wrap (m:Int)=m:=by simp [IntKind.wrap,IntKind.bits,IntKind.signed];omega
   have HV:=zZ hv
   have HL:=zZ (show c.size<=999999999 by omega)
   clear hv hcs h1s
   go_wp2_with (at_builtin;refine gX rfl (.tmp 16) (.tmp 19) rfl rfl rfl (zY HO) (show (0:Int)<=m by omega) (show (m:Int)<256 by omega) (zY HL) hBw ?_;intro v' w' o' f';have O':=zZ o';have F':=zZ f';clear o' f')
   go_ret
   refine⟨_,rfl,?_,(zY HF).trans (zY F')⟩
   rw [<-zY HE,zY HV,zB5]
   exact zY O'
  ·have hv:xR m=ByteArray.empty.push (UInt8.ofNat (m % 128+128))++xR (m / 128):=by rw [sY,if_neg hlt]
   have hge:(128:Int)<=m:=by omega
   have hmod:((m:Int)).tmod 128=((m % 128:Nat):Int):=by rw [Int.tmod_eq_emod_of_nonneg (by omega)];omega
   have hdiv:((m:Int)).tdiv 128=((m / 128:Nat):Int):=by rw [Int.tdiv_eq_ediv_of_nonneg (by omega)];omega
   have hql:m / 128<m:=by omega
   have hr:m % 128<128:=by omega
   have HV:=zZ hv
   have HL:=zZ (show c.size<=999999999 by omega)
   clear hv hcs h1s
   generalize hQ:m / 128=q at *
   generalize m % 128=r at *
   have hw1:IntKind.i64.wrap ((r:Int)+128)=(r:Int)+128:=by rw [IntKind.wrap_i64];omega
   have hw3:IntKind.i64.wrap (q:Int)=q:=by rw [IntKind.wrap_i64];omega
   have hw2:IntKind.u8.wrap ((r:Int)+128)=(r:Int)+128:=by simp [IntKind.wrap,IntKind.bits,IntKind.signed];omega
   go_wp2_with (at_builtin;refine gX rfl (.tmp 7) (.tmp 12) rfl rfl rfl (zY HO) (show (0:Int)<=(r:Int)+128 by omega) (show (r:Int)+128<256 by omega) (zY HL) hBw ?_;intro v' w' o' f';have O':=zZ o';have F':=zZ f';clear o' f')
   go_roundw
   case rel=>
    refine⟨q,_,rfl,by omega,?_,zY O',(zY HF).trans (zY F')⟩
    rw [<-zY HE,zY HV,<-zB5,ByteArray.append_assoc]
    rfl
   case measure=>simp [intOf];omega
def fJ (w:World) (v:Value) (b:ByteArray):Prop:=∃g off cap,v=.slice (some ⟨g,off,none⟩) b.size cap/\∀j u,(u8s b)[j]?=some u->w.cell? ⟨g,off+j,none⟩=some u
theorem tN.bytes {w:World} {B:Nat} {v:Value} {b:ByteArray} (h:tN w B v b) (h0:0<b.size):∃g cap,v=.slice (some ⟨g,0,none⟩) b.size cap/\B<=g/\(∀j u,(u8s b)[j]?=some u->w.cell? ⟨g,0+j,none⟩=some u):=by
 rcases h with h | ⟨g,hv,hB,_,hc⟩
 case inr=>exact⟨g,_,hv,hB,hc⟩
 rcases h.2 with ⟨_,h1⟩ | ⟨g,cap,cur,hv,hB,hg,h1,h2,h3,h4⟩
 ·omega
 refine⟨g,cap,hv,hB,fun j u hj=>?_⟩
 rw [Nat.zero_add,cell_of_row w g j cur 5 (0,0) hg]
 rw [<-h4,List.getElem?_take] at hj
 split at hj
 ·rw [Array.getElem?_toList] at hj;exact hj
 ·cases hj
theorem tN.at {w:World} {B:Nat} {v:Value} {b:ByteArray} (h:tN w B v b) (h0:0<b.size):fJ w v b:=by
 obtain⟨g,cap,hv,_,hc⟩:=h.bytes h0
 exact⟨g,0,cap,hv,hc⟩
theorem zT7 (b:ByteArray) (j:Nat) (h:j<b.size):(u8s b)[j]?=some (.int .u8 ((b.data.toList[j]'(by simpa using h)).toNat:Int)):=by
 have hj:j<b.data.toList.length:=by simpa using h
 rw [u8s,List.getElem?_map,List.getElem?_eq_getElem hj]
 rfl
theorem yI8 {w:World} {v:Value} {b:ByteArray} (h:fJ w v b) (hs:b.size<=1000000000):Calls Tryz.prog 121 #[v] w fun e w'=>e=.returned (.int .u32 (hZ b.data.toList))/\w'=w:=by
 obtain⟨g,off,cap,rfl,hc⟩:=h
 have HC:=zZ hc
 clear hc
 go_enter Tryz.func121,Tryz.ntmps121
 go_wp2
 go_loopw [3,8] (fun h i wr=>yC9 b w h i wr) (fun _ i _=>b.size-(intOf i).toNat)
 case atStart=>exact⟨rfl,0,Nat.zero_le _,rfl,rfl⟩
 case round=>
  obtain⟨rfl,k,hk,rfl,rfl⟩:=hrel
  by_cases hlt:k<b.size
  ·have hz:=aH b.data.toList k (by rw [Array.length_toList];exact hlt)
   have HZ:=zZ hz
   have hcell:=zY HC k _ (zT7 b k hlt)
   clear hz
   generalize hZ (b.data.toList.take k)=z at *
   go_wp2
   go_roundw
   case rel=>
    refine⟨rfl,k+1,hlt,by go_num,?_⟩
    rw [zY HZ]
    rfl
   case measure=>simp [intOf];omega
  ·have e:b.data.toList.take k=b.data.toList:=List.take_of_length_le (by rw [Array.length_toList];exact Nat.le_of_not_lt hlt)
   rw [e]
   go_wp2
   go_ret
   exact⟨rfl,rfl⟩
theorem aP (z:Int):(b4 z).size=4:=by unfold b4;simp
theorem yD4 (z:Int):u8s (b4 z)=[.int .u8 (z / 16777216 % 256),.int .u8 (z / 65536 % 256),.int .u8 (z / 256 % 256),.int .u8 (z % 256)]:=by
 unfold u8s b4
 simp
 omega
theorem Fr.unalloc {S S':Nat->Prop} {w w':World} {o:Obj} (h:Fr S (w.alloc o) w' S'):Fr S w w' S':=
 ⟨h.os,h.tape,h.output,Nat.le_trans (by simp) h.size,fun k hk hn=>(h.same k (by simp;omega) hn).trans (zR _ _ _ hk),fun k hk e=>h.old k (by simp;omega) e⟩
theorem kO {w:World} {B:Nat} {v u:Value} {b c:ByteArray} (h:tN w B v b) (hu:fJ w u c) (hc:c.size<=1000000000) (hb:b.size<=900000000) (hB:B<=w.heap.size) :
  Calls Tryz.prog 100 #[v,u] w fun e w'=>∃v',e=.returned v'/\tN w' B v' (b++oG c)/\Fr (own v) w w' (own v'):=by
 have h1:=yI8 hu hc
 have hS:oG c=b4 (hZ c.data.toList):=rfl
 generalize hZ c.data.toList=z at *
 have HS:=zZ hS
 have H:=zZ (h.alloc (.cells #[.int .u8 (z / 16777216 % 256),.int .u8 (z / 65536 % 256),.int .u8 (z / 256 % 256),.int .u8 (z % 256)] 5))
 have HC:=zZ (yD4 z)
 have H4:=zZ (aP z)
 clear hS h hu
 go_enter Tryz.func100,Tryz.ntmps100
 go_wp2_with (first | (go_at_call 121;refine h1.mono ?_;rintro e w1 ⟨rfl,rfl⟩) | (at_builtin;refine mK (c:=b4 z) (ad:=⟨w1.heap.size,0,none⟩) (cap:=4) rfl (.tmp 8) (.tmp 20) rfl rfl (by rw [zY H4];rfl) (zY H) ?_ (by rw [zY H4];omega) (by rw [zY H4];omega) (by simp;omega) ?_))
 ·rw [zY HC]
  intro j u hu
  rw [sA,Nat.zero_add,cell_of_row _ _ j _ 5 (0,0) (heap_alloc_new _ _)]
  simpa using hu
 ·intro v' w' o' f'
  have O':=zZ o'
  have F':=zZ f'
  clear o' f'
  go_wp2
  go_ret
  refine⟨_,rfl,?_,(zY F').unalloc⟩
  rw [zY HS]
  exact zY O'
end Go.Proofs.YtfmbebofllgmoaaGreatDoor
namespace Go.Proofs.YtfmbebofllgmoaaGreatDoor
open Go.RowKit
structure mU (t e size bytes:Nat):Prop where
 u:Tryz.prog.underlying t=some (.slice e)
 i:∃i z,Tryz.prog.info? e=some i/\i.zero=some z/\i.size=size/\i.bytes=bytes/\z.cells.size=size
theorem oM (t e size bytes:Nat) (z:Value) (hu:Tryz.prog.underlying t=some (.slice e)) (h:(Tryz.prog.info? e).map (fun i=>(i.zero,i.size,i.bytes))=some (some z,size,bytes)) (hz:z.cells.size=size):mU t e size bytes:=by
 obtain⟨i,hi,hb⟩:=Option.map_eq_some_iff.1 h
 injection hb with h1 h2
 injection h2 with h2 h3
 exact⟨hu,i,z,hi,h1,h2,h3,hz⟩
theorem sK:mU 26 3 1 8:=oM _ _ _ _ (.int .i64 0) Tryz.underlying26 (by kernel_rfl) rfl
theorem kP:mU 34 72 3 24:=oM _ _ _ _ (.agg #[.int .i64 0,.int .i64 0,.int .i64 0]) Tryz.underlying34 (by kernel_rfl) rfl
theorem jU {w w':World} {v:Value} {g n cap:Nat} (h2:w.grownBy w' v.ownBlock) (h3:v.ownBlock=some g\/g=w.heap.size):Fr (own v) w w' (own (.slice (some ⟨g,0,none⟩) n cap)):=by
 refine⟨h2.os,h2.tape,h2.output,h2.size,fun k hk hn=>h2.block k hk (fun e=>hn e.symm),?_⟩
 intro k hk e
 simp only [own,Value.ownBlock,Option.some.injEq] at e
 subst e
 rcases h3 with h3 | h3
 ·exact h3
 ·omega
theorem gY {ops:Array Oper} {rest:List Oper} {o:Oper} {a:Act} {Q:Exit->Act->World->Prop} {w:World} {B t e size bytes:Nat} (E:mU t e size bytes) (hs0:0<size) (hs1:bytes<=100) {v:Value} {n m:Nat} {xs news:List Value} (hgd:o.guard=none) (sv xv:Operand)
  (ho:o.op=.call {callee:=.builtin .append,args:=#[sv,xv],argTypes:=#[t,t]}) {ad:Addr} {cap:Nat} (hs:a.eval sv=v) (hx:a.eval xv=.slice (some ad) m cap) (hrow:w.ownsRow B e size v n xs) (hl:news.length=m*size)
  (hc:∀j u,news[j]?=some u->w.cell? (ad.add j)=some u) (h1:∀u∈news,u.oneCell'=true) (hm:0<m) (hn:n+m<=1000000) (hB:B<=w.heap.size)
  (h:∀v' w',w'.ownsRow B e size v' (n+m) (xs++news)->Fr (own v) w w' (own v')->(∃a c,v'=.slice a (n+m) c)->wpList Tryz.prog ops Q rest (a.put o.dst v') w'):wpList Tryz.prog ops Q (o::rest) a w:=by
 obtain⟨i,z,hi,hz,hsz,hby,hzc⟩:=E.i
 have hmx:n+m<=maxLen:=by simp only [maxLen];omega
 have hbb:(n+m)*bytes<=140737488355328:=Nat.le_trans (Nat.mul_le_mul hn hs1) (by omega)
 refine wpList_append_lies _ hgd sv xv t ho B e i z size bytes E.u hi hz hsz hby hzc hs0 v n xs hs hrow ad m cap news hx hl hc h1 hm hmx hbb hB w.heap.size rfl ?_
 intro g cp w' h1 h2 h3 h4
 exact h _ w' h1 (jU h2 h3) ⟨_,_,rfl⟩
theorem yB0 {ops:Array Oper} {o:Oper} {a:Act} {K:Act->World->Prop} {Q:Exit->Act->World->Prop} {E':Prop} {w:World} {B t e size bytes:Nat} (E:mU t e size bytes) (hs0:0<size) (hs1:bytes<=100) {v:Value} {n m:Nat} {xs news:List Value} (hgd:o.guard=none) (sv xv:Operand)
  (ho:o.op=.call {callee:=.builtin .append,args:=#[sv,xv],argTypes:=#[t,t]}) {ad:Addr} {cap:Nat} (hs:a.eval sv=v) (hx:a.eval xv=.slice (some ad) m cap) (hrow:w.ownsRow B e size v n xs) (hl:news.length=m*size)
  (hc:∀j u,news[j]?=some u->w.cell? (ad.add j)=some u) (h1:∀u∈news,u.oneCell'=true) (hm:0<m) (hn:n+m<=1000000) (hB:B<=w.heap.size)
  (h:∀v' w',w'.ownsRow B e size v' (n+m) (xs++news)->Fr (own v) w w' (own v')->(∃a c,v'=.slice a (n+m) c)->K (a.put o.dst v') w'):if Region.wanted o (yielded ops a.tmps)=true then Oper.wp Tryz.prog o a w K Q else E':=by
 obtain⟨i,z,hi,hz,hsz,hby,hzc⟩:=E.i
 have hmx:n+m<=maxLen:=by simp only [maxLen];omega
 have hbb:(n+m)*bytes<=140737488355328:=Nat.le_trans (Nat.mul_le_mul hn hs1) (by omega)
 refine step_append_lies _ hgd sv xv t ho B e i z size bytes E.u hi hz hsz hby hzc hs0 v n xs hs hrow ad m cap news hx hl hc h1 hm hmx hbb hB w.heap.size rfl ?_
 intro g cp w' h1 h2 h3 h4
 exact h _ w' h1 (jU h2 h3) ⟨_,_,rfl⟩
end Go.Proofs.YtfmbebofllgmoaaGreatDoor
namespace Go.Proofs.YtfmbebofllgmoaaGreatDoor
open Go.RowKit
attribute [local go_sem ↓] Go.wp_at_zero Go.wp_at_succ
theorem sG (n a b:Int) (w:World):Calls Tryz.prog 124 #[.int .i64 n,.int .i64 a,.int .i64 b] w fun e w'=>e=.returned (.bool (decide (a<=n) && decide (n<=b)))/\w'=w:=by
 by_cases h:a<=n
 ·go_enter Tryz.func124,Tryz.ntmps124
  go_wp2
  go_ret
  exact⟨by simp [h],rfl⟩
 ·go_enter Tryz.func124,Tryz.ntmps124
  go_wp2
  go_ret
  exact⟨pW (by
    have:decide (a<=n)=false:=by simpa using h
    rw [this];rfl),rfl⟩
theorem qI {s:ByteArray} (h:0<s.size):s.toList.isEmpty=false:=by
 have:s.toList.length=s.size:=by rw [Go.ByteArray.toList_eq];rfl
 cases hl:s.toList with
 | nil=>rw [hl] at this;simp at this;omega
 | cons a t=>rfl
theorem nL {s:ByteArray} (h:¬0<s.size):s=⟨#[]⟩:=ByteArray.ext (Array.eq_empty_of_size_eq_zero (by
  have:s.data.size=s.size:=rfl
  omega))
theorem zK1 (s:ByteArray) (w:World):Calls Tryz.prog 60 #[.string s] w fun e w'=>e=.returned (.int .i64 (if 0<s.size then 5 else 1))/\w'=w:=by
 by_cases h:0<s.size
 ·have hb:=qI h
  go_enter Tryz.func60,Tryz.ntmps60
  go_wp2
  go_ret
  exact⟨by simp,rfl⟩
 ·cases nL h
  go_enter Tryz.func60,Tryz.ntmps60
  go_wp2
  go_ret
  exact⟨rfl,rfl⟩
def yI (s:ByteArray) (i:Nat):Nat:=(s.data.toList.getD i 0).toNat
theorem tV (s:ByteArray) (i:Nat):yI s i<256:=UInt8.toNat_lt _
def kM (s:ByteArray):Int×Int:=if s.size=0\/(128<=yI s 0/\s.size=1) then (0,2) else if yI s 0<1\/40<yI s 0 then (0,4) else (yI s 0,0)
theorem xH (s:ByteArray) (k:Nat) (h:k<s.size):yI s k=(s[k]'h).toNat:=by
 obtain⟨⟨l⟩⟩:=s
 have hl:k<l.length:=h
 have e:(ByteArray.mk ⟨l⟩)[k]'hl=l.getD k 0:=by
  simp only [List.getD,List.getElem?_eq_getElem hl,Option.getD_some]
  rfl
 simp only [e,yI]
theorem jC (s:ByteArray) (hs:s.size<=1000000000) (w:World):Calls Tryz.prog 99 #[.string s] w fun e w'=>e=.returned (.tuple #[.int .i64 (kM s).1,.int .i64 (kM s).2])/\w'=w:=by
 by_cases h:0<s.size
 ·have e0:=xH s 0 h
  have hb:=qI h
  have hlt:=tV s 0
  have hn:¬s.size=0:=by omega
  have hl:kM s=if (128<=yI s 0/\s.size=1) then (0,2) else if yI s 0<1\/40<yI s 0 then (0,4) else ((yI s 0:Int),0):=by simp only [kM,hn,false_or]
  rw [e0] at hlt hl
  clear e0
  by_cases h1:128<=(s[0]'h).toNat/\s.size=1
  ·rw [if_pos h1] at hl
   rw [hl]
   obtain⟨h1,h2⟩:=h1
   have h3:(s.size:Int)=1:=by omega
   have h1':(128:Int)<=((s[0]'h).toNat:Int):=by omega
   go_enter Tryz.func99,Tryz.ntmps99
   go_wp2
   refine bodyPost_ret (v:=.tuple #[.int .i64 0,.int .i64 2]) (by simp [results,Tryz.results99,go_sem]) rfl ?_
   exact⟨rfl,rfl⟩
  ·rw [if_neg h1] at hl
   by_cases h2:(s[0]'h).toNat<1\/40<(s[0]'h).toNat
   ·rw [if_pos h2] at hl
    rw [hl]
    rcases h2 with h2 | h2
    ·have h3:((s[0]'h).toNat:Int)<1:=by omega
     go_enter Tryz.func99,Tryz.ntmps99
     go_wp2
     refine bodyPost_ret (v:=.tuple #[.int .i64 0,.int .i64 4]) (by simp [results,Tryz.results99,go_sem]) rfl ?_
     exact⟨rfl,rfl⟩
    ·by_cases h4:128<=(s[0]'h).toNat
     ·have h5:1<s.size:=by omega
      have h3:(128:Int)<=((s[0]'h).toNat:Int):=by omega
      have h6:(40:Int)<((s[0]'h).toNat:Int):=by omega
      have h7:¬((s[0]'h).toNat:Int)<1:=by omega
      clear h1 h2 h4 hl hn
      go_enter Tryz.func99,Tryz.ntmps99
      go_wp2
      refine bodyPost_ret (v:=.tuple #[.int .i64 0,.int .i64 4]) (by simp [results,Tryz.results99,go_sem]) rfl ?_
      exact⟨rfl,rfl⟩
     ·have h3:((s[0]'h).toNat:Int)<128:=by omega
      have h5:(40:Int)<((s[0]'h).toNat:Int):=by omega
      go_enter Tryz.func99,Tryz.ntmps99
      go_wp2
      refine bodyPost_ret (v:=.tuple #[.int .i64 0,.int .i64 4]) (by simp [results,Tryz.results99,go_sem]) rfl ?_
      exact⟨rfl,rfl⟩
   ·rw [if_neg h2] at hl
    rw [hl]
    have h3:((s[0]'h).toNat:Int)<=40:=by omega
    have h4:(1:Int)<=((s[0]'h).toNat:Int):=by omega
    go_enter Tryz.func99,Tryz.ntmps99
    go_wp2
    refine bodyPost_ret (v:=.tuple #[.int .i64 ((s[0]'h).toNat:Int),.int .i64 0]) (by simp [results,Tryz.results99,go_sem]) rfl ?_
    exact⟨rfl,rfl⟩
 ·cases nL h
  go_enter Tryz.func99,Tryz.ntmps99
  go_wp2
  refine bodyPost_ret (v:=.tuple #[.int .i64 0,.int .i64 2]) (by simp [results,Tryz.results99,go_sem]) rfl ?_
  exact⟨rfl,rfl⟩
def vGo:Nat->Nat->Nat->List Nat->Nat×Nat
 | 0,_,_,_=>(0,0)
 | _+1,_,_,[]=>(0,0)
 | f+1,k,n,x::t=>if 128<=x then vGo f (k+1) (n+x % 128*128 ^ k) t else if x=0/\0<k then (0,0) else (n+x % 128*128 ^ k,k+1)
def bs (s:ByteArray):List Nat:=s.data.toList.map UInt8.toNat
def zI8 (s:ByteArray):Nat×Nat:=vGo 6 0 0 (bs s)
theorem aQ (s:ByteArray) (k:Nat) (h:k<s.size):(bs s).drop k=yI s k::(bs s).drop (k+1):=by
 have hl:k<(bs s).length:=by simpa [bs] using h
 have hl':k<s.data.toList.length:=by simpa using h
 rw [List.drop_eq_getElem_cons hl]
 congr 1
 simp [bs,yI,List.getD,List.getElem?_eq_getElem hl']
theorem zK3 (s:ByteArray) (k:Nat) (h:s.size<=k):(bs s).drop k=[]:=List.drop_eq_nil_of_le (by simpa [bs] using h)
def VRel (s:ByteArray) (w:World) (h i:Value) (wr:World):Prop:=
 wr=w/\∃f k n:Nat,k<=s.size/\f+k=6/\h=.int .i64 n/\i=.int .i64 k/\n<128 ^ k/\vGo f k n ((bs s).drop k)=zI8 s
theorem cR (f k n x:Nat) (t:List Nat) (h:128<=x):vGo (f+1) k n (x::t)=vGo f (k+1) (n+x % 128*128 ^ k) t:=by
 simp only [vGo];rw [if_pos h]
theorem zI7 (f k n:Nat) (t:List Nat) (h:0<k):vGo (f+1) k n (0::t)=(0,0):=by
 simp only [vGo];rw [if_neg (by decide),if_pos (by simpa using h)]
theorem cO (f k n x:Nat) (t:List Nat) (h:x<128) (h0:x≠0\/k=0):vGo (f+1) k n (x::t)=(n+x*128 ^ k,k+1):=by
 simp only [vGo];rw [if_neg (by omega),if_neg (by omega),Nat.mod_eq_of_lt h]
theorem yR3 (f k n:Nat):vGo f k n []=(0,0):=by cases f<;>rfl
theorem zI9 (s:ByteArray) (hs:s.size<=1000000000) (w:World):Calls Tryz.prog 138 #[.string s] w fun e w'=>e=.returned (.tuple #[.int .i64 (zI8 s).1,.int .i64 (zI8 s).2])/\w'=w:=by
 by_cases h6:(6:Int)<s.size
 all_goals
  go_enter Tryz.func138,Tryz.ntmps138
  go_wp2
  go_loopw [2,8] (fun h i wr=>VRel s w h i wr) (fun _ i _=>6-(intOf i).toNat)
  case atStart=>exact⟨rfl,6,0,0,Nat.zero_le _,rfl,rfl,rfl,by decide,rfl⟩
  case round=>
   obtain⟨rfl,f,k,n,hk,hk6,rfl,rfl,hn,hv⟩:=hrel
   by_cases hlt:k<s.size/\k<6
   ·obtain⟨hlt,hlt6⟩:=hlt
    have e0:=xH s k hlt
    have hb:=tV s k
    rw [aQ s k hlt,e0] at hv
    rw [e0] at hb
    clear e0
    obtain⟨f,rfl⟩ : ∃g,f=g+1:=⟨f-1,by omega⟩
    by_cases hx:(128:Int)<=((s[k]'hlt).toNat:Int)
    ·rw [cR _ _ _ _ _ (by omega)] at hv
     have HV:=zZ hv
     clear hv
     rcases (by omega:k=0\/k=1\/k=2\/k=3\/k=4\/k=5) with rfl | rfl | rfl | rfl | rfl | rfl
     all_goals
      go_wp2
      go_roundw
      case rel=>
       refine⟨rfl,_,_,_,?_,?_,?_,?_,?_,zY HV⟩
       ·omega
       ·omega
       ·exact congrArg (Value.int .i64) (by omega)
       ·rfl
       ·omega
      case measure=>simp [intOf]
    ·by_cases h0:((s[k]'hlt).toNat:Int)=0/\0<k
     ·obtain⟨h0,hk0⟩:=h0
      rw [(by omega:(s[k]'hlt).toNat=0),zI7 _ _ _ _ hk0] at hv
      have HV:=zZ hv
      clear hv
      rcases (by omega:k=1\/k=2\/k=3\/k=4\/k=5) with rfl | rfl | rfl | rfl | rfl
      all_goals
       go_wp2
       refine bodyPost_ret (v:=.tuple #[.int .i64 0,.int .i64 0]) (by simp [results,Tryz.results138,go_sem]) rfl ?_
       exact⟨by rw [<-zY HV];rfl,rfl⟩
     ·rw [cO _ _ _ _ _ (by omega) (by omega)] at hv
      have HV:=zZ hv
      clear hv
      by_cases hz:k=0
      ·subst hz
       clear h0
       go_wp2
       all_goals
        refine bodyPost_ret (v:=.tuple #[.int .i64 (zI8 s).1,.int .i64 (zI8 s).2]) ?_ rfl ⟨rfl,rfl⟩
        rw [<-zY HV]
        simp [results,Tryz.results138,go_sem]
        omega
      ·have h1:¬((s[k]'hlt).toNat:Int)=0:=by omega
       clear h0
       rcases (by omega:k=1\/k=2\/k=3\/k=4\/k=5) with rfl | rfl | rfl | rfl | rfl
       all_goals
        go_wp2
        refine bodyPost_ret (v:=.tuple #[.int .i64 (zI8 s).1,.int .i64 (zI8 s).2]) ?_ rfl ⟨rfl,rfl⟩
        rw [<-zY HV]
        simp [results,Tryz.results138,go_sem]
        omega
   ·have e:vGo f k n ((bs s).drop k)=(0,0):=by
     by_cases h:k<s.size
     ·rw [(by omega:f=0)];rfl
     ·rw [zK3 s k (by omega),yR3]
    rw [e] at hv
    have HV:=zZ hv
    clear hv e
    go_wp2
    refine bodyPost_ret (v:=.tuple #[.int .i64 0,.int .i64 0]) (by simp [results,Tryz.results138,go_sem]) rfl ?_
    exact⟨by rw [<-zY HV];rfl,rfl⟩
theorem yL0:∀(f k n:Nat) (l:List Nat),(vGo f k n l).2<=k+l.length
 | 0,_,_,_=>by simp [vGo]
 | _+1,_,_,[]=>by simp [vGo]
 | f+1,k,n,x::t=>by
  simp only [vGo,List.length_cons]
  split
  ·exact Nat.le_trans (yL0 f (k+1) _ t) (by omega)
  ·split
   ·exact Nat.zero_le _
   ·simp only [];omega
def mQ:Nat->List Nat->Option (List Nat)
 | 0,l=>if l=[] then some [] else none
 | f+1,l=>if l=[] then some [] else if (vGo 6 0 0 l).2=0 then none else (mQ f (l.drop (vGo 6 0 0 l).2)).map fun r=>(vGo 6 0 0 l).1::r
def sD (s:ByteArray):Option (List Nat):=mQ s.size (bs s)
theorem uT (s:ByteArray) (k:Nat):bs (s.extract k s.size)=(bs s).drop k:=by
 simp [bs,ByteArray.data_extract,List.map_drop]
 apply List.take_of_length_le
 simp
theorem yD7 {s:ByteArray}:bs s=[]↔¬0<s.size:=by
 have:(bs s).length=s.size:=by simp [bs]
 constructor
 ·intro h;rw [h] at this;simp at this;omega
 ·intro h;exact List.eq_nil_of_length_eq_zero (by omega)
theorem vA (s:ByteArray):(bs s).length=s.size:=by simp [bs]
def zs (l:List Nat):List Int:=l.map Int.ofNat
def zT4:Value->Nat
 | .string s=>s.size
 | _=>0
def VsRel (s0:ByteArray) (w:World) (s v:Value) (wr:World):Prop:=
 ∃(s':ByteArray) (ns:List Nat) (f:Nat),s=.string s'/\s'.size<=f/\s'.size+ns.length<=s0.size/\yR wr w.heap.size v (zs ns)/\(mQ f (bs s')).map (ns++·)=sD s0/\Fr (fun _=>False) w wr (fun _=>False)
def nW (s:ByteArray) (w:World) (e:Ending) (w':World):Prop:=
 Fr (fun _=>False) w w' (fun _=>False)/\match sD s with
 | none=>e=.returned (.tuple #[.slice none 0 0,.bool false])
 | some ns=>ns.length<=s.size/\∃v,e=.returned (.tuple #[v,.bool true])/\yR w' w.heap.size v (zs ns)
theorem zY9 {s:ByteArray} {w w':World} {e:Ending} (hv:sD s=none) (he:e=.returned (.tuple #[.slice none 0 0,.bool false])) (hf:Fr (fun _=>False) w w' (fun _=>False)):nW s w e w':=by
 unfold nW;rw [hv];exact⟨hf,he⟩
theorem zZ0 {s:ByteArray} {w w':World} {e:Ending} {v:Value} {ns:List Nat} (hv:sD s=some ns) (hl:ns.length<=s.size) (he:e=.returned (.tuple #[v,.bool true])) (ho:yR w' w.heap.size v (zs ns)) (hf:Fr (fun _=>False) w w' (fun _=>False)):nW s w e w':=by
 unfold nW;rw [hv];exact⟨hf,hl,v,he,ho⟩
theorem vF (s:ByteArray) (hs:s.size<=1000) (w:World):Calls Tryz.prog 122 #[.string s] w (nW s w):=by
 go_enter Tryz.func122,Tryz.ntmps122
 go_wp2
 go_loopw [0,4] (fun h v wr=>VsRel s w h v wr) (fun h _ _=>zT4 h)
 case atStart=>exact⟨s,[],s.size,rfl,Nat.le_refl _,Nat.le_refl _,zX _ _ _ _,by simp [sD],Fr.refl _ w⟩
 case round=>
  obtain⟨s',ns,f,rfl,hf,hl,ho,hv,hfr⟩:=hrel
  have hsz:w.heap.size<=wr.heap.size:=hfr.size
  have HO:=zZ ho
  have HNE:=zZ ho.lt
  have HF:=zZ hfr
  have HLE:=zZ (show (zs ns).length<=1000 by simp [zs];omega)
  clear ho hfr
  by_cases h0:0<s'.size
  ·have hb:=qI h0
   have hne:bs s'≠[]:=fun e=>absurd h0 (yD7.1 e)
   obtain⟨f,rfl⟩ : ∃g,f=g+1:=⟨f-1,by omega⟩
   simp only [mQ,if_neg hne] at hv
   have hle:=yL0 6 0 0 (bs s')
   rw [vA,Nat.zero_add] at hle
   have hc:=zI9 s' (by omega)
   unfold zI8 at hc
   have HV:=zZ hv
   have HC:=zZ hc
   clear hv hc
   generalize hx:vGo 6 0 0 (bs s')=x at *
   obtain⟨n,k⟩:=x
   by_cases hk:k=0
   ·subst hk
    go_wp2_with (go_at_call 138;refine((zY HC) _).mono ?_;rintro _ _ ⟨rfl,rfl⟩)
    exact bodyPost_ret (v:=.tuple #[.slice none 0 0,.bool false]) (by simp [results,Tryz.results122,go_sem]) rfl (zY9 (by rw [<-zY HV];rfl) rfl (zY HF))
   ·go_wp2_with first
     | (go_at_call 138;refine((zY HC) _).mono ?_;rintro _ _ ⟨rfl,rfl⟩)
     | (at_builtin;refine oC rfl (.tmp 16) (.tmp 18) rfl rfl rfl (zY HO) (zY HLE) hsz ?_;intro v' w' o' g')
    have hse:(s'.extract k s'.size).size=s'.size-k:=by simp [ByteArray.size_extract]
    go_roundw
    case rel=>
     refine⟨_,ns++[n],f,rfl,by omega,by simp;omega,by simpa [zs] using o',?_,((zY HF).alloc _).grown g' (fun j hj=>((zY HNE) j hj).1)⟩
     rw [<-zY HV,if_neg hk,uT]
     cases mQ f ((bs s').drop k)<;>simp
    case measure=>simp only [zT4];omega
  ·cases nL h0
   have hvs:sD s=some ns:=by
    have e:bs ⟨#[]⟩=[]:=rfl
    rw [<-hv,e]
    cases f<;>simp [mQ]
   have hns:ns.length<=s.size:=by
    have:(⟨#[]⟩ : ByteArray).size=0:=rfl
    omega
   clear hv hl
   go_wp2
   exact bodyPost_ret (v:=.tuple #[u4,.bool true]) (by simp [results,Tryz.results122,go_sem]) rfl (zZ0 hvs hns rfl (zY HO) (zY HF))
def tT:Int->List Int->Bool
 | _,[]=>true
 | last,f::t=>if f<=last\/8<=f then false else tT f t
theorem zS8 {last f:Int} {t:List Int} (h:f<=last\/8<=f):tT last (f::t)=false:=by simp only [tT];rw [if_pos h]
theorem yQ5 {last f:Int} {t:List Int} (h:¬(f<=last\/8<=f)):tT last (f::t)=tT f t:=by simp only [tT];rw [if_neg h]
theorem dY {w:World} {v:Value} {l:List Int} {P:Nat->Prop} (hl:yJ w v l P) (hn:l.length<=1000):Calls Tryz.prog 123 #[v] w fun e w'=>e=.returned (.bool (tT (-1) l))/\w'=w:=by
 obtain⟨a,c,rfl,hc⟩:=hl
 have HC:=zZ hc
 clear hc
 go_enter Tryz.func123,Tryz.ntmps123
 go_wp2
 go_loopw [3,8] (fun u i wr=>wr=w/\∃(k:Nat) (last:Int),k<=l.length/\i=.int .i64 k/\u=.int .i64 last/\tT last (l.drop k)=tT (-1) l) (fun _ i _=>l.length-(intOf i).toNat)
 case atStart=>exact⟨rfl,0,-1,Nat.zero_le _,rfl,rfl,rfl⟩
 case round=>
  obtain⟨rfl,k,last,hk,rfl,rfl,hv⟩:=hrel
  by_cases hlt:k<l.length
  ·rcases zY HC with hz | ⟨q,off,rfl,hq,hcell⟩
   ·rw [hz] at hlt;simp at hlt
   have cz:=hcell k hlt
   have hget:l.getD k 0=l[k]:=by simp [List.getD,hlt]
   rw [hget] at cz
   rw [List.drop_eq_getElem_cons hlt] at hv
   clear hcell hget
   generalize l[k]=z at *
   by_cases h1:z<=last
   ·rw [zS8 (.inl h1)] at hv
    have HV:=zZ hv
    clear hv
    go_wp2
    go_ret
    exact⟨by rw [<-zY HV];rfl,rfl⟩
   ·by_cases h2:8<=z
    ·rw [zS8 (.inr h2)] at hv
     have HV:=zZ hv
     clear hv
     go_wp2
     go_ret
     exact⟨by rw [<-zY HV];rfl,rfl⟩
    ·rw [yQ5 (by omega)] at hv
     have HV:=zZ hv
     clear hv
     go_wp2
     go_roundw
     case rel=>exact⟨trivial,k+1,z,hlt,by go_num,rfl,zY HV⟩
     case measure=>simp [intOf];omega
  ·rw [List.drop_eq_nil_of_le (by omega)] at hv
   have HV:=zZ hv
   clear hv
   go_wp2
   go_ret
   exact⟨by rw [<-zY HV];rfl,rfl⟩
def inpN (k:Nat) (ns:List Nat):Option (Nat×Nat×List Nat):=
 match k,ns with
 | 1,[a]=>if a<=1099511627776 then some (0,a,[]) else none
 | 2,a::t=>if a=t.length/\tT (-1) (zs t)=true then some (0,0,t) else none
 | 3,[a,b]=>if 2<=a/\a<=8/\b<a then some (a,b,[]) else none
 | 4,[a,b]=>if 1<=a/\a<=1000000/\b<a then some (a,b,[]) else none
 | 5,[a]=>if 1<=a/\a<=5 then some (0,a,[]) else none
 | _,_=>none
def sR (b:ByteArray):Option (Nat×Nat×List Nat):=(sD (b.extract 1 b.size)).bind (inpN (yI b 0))
def tM (b:ByteArray) (w:World) (e:Ending) (w':World):Prop:=
 Fr (fun _=>False) w w' (fun _=>False)/\match sR b with
 | none=>∃z0 z1 z2 a l c,e=.returned (.tuple #[.agg #[.int .i64 z0,.int .i64 z1,.int .i64 z2,.slice a l c],.bool false])
 | some (o,n,fs)=>∃a l c,e=.returned (.tuple #[.agg #[.int .i64 (yI b 0),.int .i64 o,.int .i64 n,.slice a l c],.bool true])/\yR w' w.heap.size (.slice a l c) (zs fs)
theorem uW {b:ByteArray} {w w':World} {z0 z1 z2:Int} {a:Option Addr} {l c:Nat} (h:sR b=none) (hf:Fr (fun _=>False) w w' (fun _=>False)):tM b w (.returned (.tuple #[.agg #[.int .i64 z0,.int .i64 z1,.int .i64 z2,.slice a l c],.bool false])) w':=by
 unfold tM;rw [h];exact⟨hf,z0,z1,z2,a,l,c,rfl⟩
theorem kA {b:ByteArray} {w w':World} {o n:Nat} {fs:List Nat} {a:Option Addr} {l c:Nat} {k o' n':Int} (h:sR b=some (o,n,fs)) (hk:k=yI b 0) (ho:o'=o) (hn:n'=n) (hr:yR w' w.heap.size (.slice a l c) (zs fs)) (hf:Fr (fun _=>False) w w' (fun _=>False)):tM b w (.returned (.tuple #[.agg #[.int .i64 k,.int .i64 o',.int .i64 n',.slice a l c],.bool true])) w':=by
 unfold tM;rw [h];subst hk ho hn;exact⟨hf,a,l,c,rfl,hr⟩
theorem tS {s:ByteArray} {w w':World} {e:Ending} {ns:List Nat} (h:nW s w e w') (hv:sD s=some ns):Fr (fun _=>False) w w' (fun _=>False)/\ns.length<=s.size/\∃v,e=.returned (.tuple #[v,.bool true])/\yR w' w.heap.size v (zs ns):=by
 unfold nW at h;rw [hv] at h;exact h
theorem yR4 {s:ByteArray} {w w':World} {e:Ending} (h:nW s w e w') (hv:sD s=none):Fr (fun _=>False) w w' (fun _=>False)/\e=.returned (.tuple #[.slice none 0 0,.bool false]):=by
 unfold nW at h;rw [hv] at h;exact h
theorem uJ {w w1:World} {o:Obj} (f:Fr (fun _=>False) (w.alloc o) w1 (fun _=>False)) (a b c d:Value):Fr (fun _=>False) w (((w1.setCell ⟨w.heap.size,0,none⟩ a).setCell ⟨w.heap.size,1,none⟩ b).setCell ⟨w.heap.size,2,none⟩ c |>.setCell ⟨w.heap.size,3,none⟩ d) (fun _=>False):=
 ((((f.unalloc.setCell _ _ (.inr (Nat.le_refl _))).setCell _ _ (.inr (Nat.le_refl _))).setCell _ _ (.inr (Nat.le_refl _))).setCell _ _ (.inr (Nat.le_refl _)))
def ResB (w w1:World):Prop:=(w1.cell? ⟨w.heap.size,0,none⟩=some (.int .i64 0)/\w1.cell? ⟨w.heap.size,1,none⟩=some (.int .i64 0)/\w1.cell? ⟨w.heap.size,2,none⟩=some (.int .i64 0)/\w1.cell? ⟨w.heap.size,3,none⟩=some (.slice none 0 0))/\∀j,w1.frozen? ⟨w.heap.size,j,none⟩=false
theorem oT {w w1:World} (f:Fr (fun _=>False) (w.alloc (.cells #[.int .i64 0,.int .i64 0,.int .i64 0,.slice none 0 0] 49)) w1 (fun _=>False)):ResB w w1:=by
 have k:=f.same w.heap.size (by simp) (fun h=>h)
 refine⟨⟨?_,?_,?_,?_⟩,fun j=>?_⟩
 ·exact(zO (a:=⟨w.heap.size,0,none⟩) k).trans (by simp [go_sem])
 ·exact(zO (a:=⟨w.heap.size,1,none⟩) k).trans (by simp [go_sem])
 ·exact(zO (a:=⟨w.heap.size,2,none⟩) k).trans (by simp [go_sem])
 ·exact(zO (a:=⟨w.heap.size,3,none⟩) k).trans (by simp [go_sem])
 ·exact(zP (a:=⟨w.heap.size,j,none⟩) k).trans (by simp [go_sem])
theorem zX2 (b:ByteArray) (h0:0<b.size) (hs:b.size<=40) (w:World) (hv:sD (b.extract 1 b.size)=none):Calls Tryz.prog 101 #[.string b] w (tM b w):=by
 have hse:(b.extract 1 b.size).size=b.size-1:=by simp [ByteArray.size_extract]
 have HM:Hid (sR b=none):=zZ (by unfold sR;rw [hv];rfl)
 have HV:=zZ hv
 have HC:=zZ fun w=>vF (b.extract 1 b.size) (by omega) w
 clear hv
 go_enter Tryz.func101,Tryz.ntmps101
 go_wp2_with (go_at_call 122;refine(zY HC _).mono ?_;rintro e w1 p1;obtain⟨f1,rfl⟩:=yR4 p1 (zY HV);have F1:=zZ f1;obtain⟨⟨r0,r1,r2,r3⟩,rz⟩:=oT f1;clear p1 f1)
 refine bodyPost_ret (v:=.tuple #[.agg #[.int .i64 0,.int .i64 0,.int .i64 0,.slice none 0 0],.bool false]) (by simp [results,Tryz.results101,go_sem,r0,r1,r2,r3]) rfl (uW (zY HM) (uJ (zY F1) _ _ _ _))
theorem zG1 (b:ByteArray) (h0:0<b.size) (hs:b.size<=40) (w:World) (x:Nat) (hv:sD (b.extract 1 b.size)=some [x]) (hk:yI b 0=1):Calls Tryz.prog 101 #[.string b] w (tM b w):=by
 have hse:(b.extract 1 b.size).size=b.size-1:=by simp [ByteArray.size_extract]
 have HM:Hid (sR b=if x<=1099511627776 then some (0,x,[]) else none):=zZ (by unfold sR;rw [hv,hk];rfl)
 have hb0:((b[0]'h0).toNat:Int)=1:=by rw [<-xH b 0 h0,hk];rfl
 have HK:=zZ hk
 have HV:=zZ hv
 have HC:=zZ fun w=>vF (b.extract 1 b.size) (by omega) w
 clear hv
 go_enter Tryz.func101,Tryz.ntmps101
 go_wp2_with (go_at_call 122;(refine(zY HC _).mono ?_;rintro e w1 p1;obtain⟨f1,hl1,v1,rfl,o1⟩:=tS p1 (zY HV);have F1:=zZ f1;obtain⟨g,cap,cur,rfl,hg1,hg2,hg3,hg4,hg5,hg6⟩:=xJ o1 (by simp [zs]);have cz:=hg6 0 (by simp [zs]);simp only [zs,List.map_cons,List.map_nil,List.getD_cons_zero,List.length_cons,List.length_nil,Int.ofNat_eq_natCast] at cz hg3 ⊢;have hg7:w.heap.size<g:=(by simp at hg1;omega);have hne:w.heap.size≠g:=(by omega);clear hg1 hg2 hg4 hg5 cur hl1 hk;obtain⟨⟨r0,r1,r2,r3⟩,rz⟩:=oT f1;clear p1 f1 o1 hg6))
 by_cases hx:(x:Int)<=1099511627776
 ·go_region
  go_wp2
  refine bodyPost_ret (v:=.tuple #[.agg #[.int .i64 1,.int .i64 0,.int .i64 x,.slice none 0 0],.bool true]) (by simp [results,Tryz.results101,go_sem,r0,r1,r2,r3]) rfl (kA (o:=0) (n:=x) (fs:=[]) (by rw [zY HM,if_pos (by omega)]) (by rw [zY HK];rfl) rfl rfl (zX _ _ _ _) (uJ (zY F1) _ _ _ _).drew)
 ·go_region
  go_wp2
  exact bodyPost_ret (v:=.tuple #[.agg #[.int .i64 1,.int .i64 0,.int .i64 x,.slice none 0 0],.bool false]) (by simp [results,Tryz.results101,go_sem,r0,r1,r2,r3]) rfl (uW (by rw [zY HM,if_neg (by omega)]) (uJ (zY F1) _ _ _ _).drew)
theorem zX3 (b:ByteArray) (h0:0<b.size) (hs:b.size<=40) (w:World) (x:Nat) (hv:sD (b.extract 1 b.size)=some [x]) (hk:yI b 0=5):Calls Tryz.prog 101 #[.string b] w (tM b w):=by
 have hse:(b.extract 1 b.size).size=b.size-1:=by simp [ByteArray.size_extract]
 have HM:Hid (sR b=if 1<=x/\x<=5 then some (0,x,[]) else none):=zZ (by unfold sR;rw [hv,hk];rfl)
 have hb0:((b[0]'h0).toNat:Int)=5:=by rw [<-xH b 0 h0,hk];rfl
 have HK:=zZ hk
 have HV:=zZ hv
 have HC:=zZ fun w=>vF (b.extract 1 b.size) (by omega) w
 clear hv
 go_enter Tryz.func101,Tryz.ntmps101
 go_wp2_with (go_at_call 122;(refine(zY HC _).mono ?_;rintro e w1 p1;obtain⟨f1,hl1,v1,rfl,o1⟩:=tS p1 (zY HV);have F1:=zZ f1;obtain⟨g,cap,cur,rfl,hg1,hg2,hg3,hg4,hg5,hg6⟩:=xJ o1 (by simp [zs]);have cz:=hg6 0 (by simp [zs]);simp only [zs,List.map_cons,List.map_nil,List.getD_cons_zero,List.length_cons,List.length_nil,Int.ofNat_eq_natCast] at cz hg3 ⊢;have hg7:w.heap.size<g:=(by simp at hg1;omega);have hne:w.heap.size≠g:=(by omega);clear hg1 hg2 hg4 hg5 cur hl1 hk;obtain⟨⟨r0,r1,r2,r3⟩,rz⟩:=oT f1;clear p1 f1 o1 hg6))
 by_cases hx:1<=x/\x<=5
 ·have hw:(decide ((1:Int)<=x) && decide ((x:Int)<=5))=true:=by simp;omega
  have HW:=zZ hw
  clear hw
  go_region_with (go_at_call 124;refine(sG _ _ _ _).mono ?_;rintro _ _ ⟨rfl,rfl⟩;rw [zY HW])
  all_goals
   go_wp2
   exact bodyPost_ret (v:=.tuple #[.agg #[.int .i64 5,.int .i64 0,.int .i64 x,.slice none 0 0],.bool true]) (by simp [results,Tryz.results101,go_sem,Act.put,r0,r1,r2,r3]) rfl (kA (o:=0) (n:=x) (fs:=[]) (by rw [zY HM,if_pos hx]) (by rw [zY HK];rfl) rfl rfl (zX _ _ _ _) (uJ (zY F1) _ _ _ _).drew)
 ·have hw:(decide ((1:Int)<=x) && decide ((x:Int)<=5))=false:=by simp;omega
  have HW:=zZ hw
  clear hw
  go_region_with (go_at_call 124;refine(sG _ _ _ _).mono ?_;rintro _ _ ⟨rfl,rfl⟩;rw [zY HW])
  all_goals
   go_wp2
   exact bodyPost_ret (v:=.tuple #[.agg #[.int .i64 5,.int .i64 0,.int .i64 x,.slice none 0 0],.bool false]) (by simp [results,Tryz.results101,go_sem,Act.put,r0,r1,r2,r3]) rfl (uW (by rw [zY HM,if_neg hx]) (uJ (zY F1) _ _ _ _).drew)
def bN (k m:Nat):Prop:=(k=1/\m≠1)\/(k=2/\m=0)\/(k=3/\m≠2)\/(k=4/\m≠2)\/(k=5/\m≠1)\/(k≠1/\k≠2/\k≠3/\k≠4/\k≠5)
theorem dC {k:Nat} {ns:List Nat} (h:bN k ns.length):inpN k ns=none:=by
 unfold inpN
 unfold bN at h
 split
 all_goals first | rfl | (simp only [List.length_cons,List.length_nil] at h;omega)
theorem xP {w:World} {B:Nat} {v:Value} {l:List Int} (h:yR w B v l):∃a c,v=.slice a l.length c:=by
 rcases h.2 with ⟨hv,h0⟩ | ⟨g,cap,cur,hv,_⟩
 ·have h1:l.length=0:=h0
  exact⟨none,0,by rw [h1];exact hv⟩
 ·exact⟨_,_,hv⟩
theorem xM (l:List Nat):(zs l).length=l.length:=by simp [zs]
theorem zG2 (b:ByteArray) (h0:0<b.size) (hs:b.size<=40) (w:World) (ns:List Nat) (hv:sD (b.extract 1 b.size)=some ns) (hu:bN (yI b 0) ns.length) (hk:yI b 0<=5/\1<=yI b 0):Calls Tryz.prog 101 #[.string b] w (tM b w):=by
 have hse:(b.extract 1 b.size).size=b.size-1:=by simp [ByteArray.size_extract]
 have HM:Hid (sR b=none):=zZ (by unfold sR;rw [hv];exact dC hu)
 have HV:=zZ hv
 have HC:=zZ fun w=>vF (b.extract 1 b.size) (by omega) w
 unfold bN at hu
 rw [xH b 0 h0] at hu hk
 clear hv
 rcases hu with ⟨hb0,hm⟩ | ⟨hb0,hm⟩ | ⟨hb0,hm⟩ | ⟨hb0,hm⟩ | ⟨hb0,hm⟩ | ⟨hb1,hb2,hb3,hb4,hb5⟩
 all_goals first | (exfalso;omega) | skip
 focus
  have hb0':((b[0]'h0).toNat:Int)=1:=by omega
 rotate_left
 focus
  have hb0':((b[0]'h0).toNat:Int)=2:=by omega
 rotate_left
 focus
  have hb0':((b[0]'h0).toNat:Int)=3:=by omega
 rotate_left
 focus
  have hb0':((b[0]'h0).toNat:Int)=4:=by omega
 rotate_left
 focus
  have hb0':((b[0]'h0).toNat:Int)=5:=by omega
 rotate_left
 all_goals
  clear hb0 hk
  go_enter Tryz.func101,Tryz.ntmps101
  go_wp2_with (go_at_call 122;(refine(zY HC _).mono ?_;rintro e w1 p1;obtain⟨f1,hl1,v1,rfl,o1⟩:=tS p1 (zY HV);have F1:=zZ f1;obtain⟨a1,c1,rfl⟩:=xP o1;rw [xM];obtain⟨⟨r0,r1,r2,r3⟩,rz⟩:=oT f1;clear p1 f1 o1))
  exact bodyPost_ret (v:=.tuple #[.agg #[.int .i64 0,.int .i64 0,.int .i64 0,.slice none 0 0],.bool false]) (by simp [results,Tryz.results101,go_sem,r0,r1,r2,r3]) rfl (uW (zY HM) (uJ (zY F1) _ _ _ _))
section
variable {P:Program} {ops:Array Oper} {Q:Exit->Act->World->Prop} {md:Region.Mode} {S:World->Prop} {i:Nat} {oi:Oper} {fuel d:Nat} {listed:Array Bool} {a:Act} {w:World}
theorem yC {v:Value} (ho:ops[i]?=some oi) (hd:oi.dst=some d) (hn:Region.noSelect ops=true) (hf:Region.free md ops listed i=true) (hr:(Region.ready md ops listed).contains i=true) (hq:∀(c:List PanicEntry) (a:Act) (w:World),Q (Exit.panic c) (a.put oi.dst v) w->Q (Exit.panic c) a w)
  (hw:Region.wanted oi (yielded ops a.tmps)=true) (hy:∀w,S w->(execOp a.eval oi).run P w=.ok (.value v) w) (hS:S w) (h:wpAnyH P md ops Q S fuel (listed.setIfInBounds i true) ⟨a.tmps.setIfInBounds d v,a.defers⟩ w):wpAnyH P md ops Q S (fuel+1) listed a w:=
 wpAnyH_take ho hn hf hr hq (Or.inl ⟨hw,hy⟩) hS (by rw [hd];exact h)
theorem vR (ho:ops[i]?=some oi) (hd:oi.dst=some d) (hn:Region.noSelect ops=true) (hf:Region.free md ops listed i=true) (hr:(Region.ready md ops listed).contains i=true) (hq:∀(c:List PanicEntry) (a:Act) (w:World),Q (Exit.panic c) (a.put oi.dst undef) w->Q (Exit.panic c) a w)
  (hw:Region.wanted oi (yielded ops a.tmps)=false) (hS:S w) (h:wpAnyH P md ops Q S fuel (listed.setIfInBounds i true) ⟨a.tmps.setIfInBounds d undef,a.defers⟩ w):wpAnyH P md ops Q S (fuel+1) listed a w:=
 wpAnyH_take ho hn hf hr hq (Or.inr ⟨hw,rfl⟩) hS (by rw [hd];exact h)
end
theorem dE (b:ByteArray) (h0:0<b.size) (hs:b.size<=40) (w:World) (x y:Nat) (hv:sD (b.extract 1 b.size)=some [x,y]) (hk:yI b 0=3) (hx:¬(2<=x/\x<=8)):Calls Tryz.prog 101 #[.string b] w (tM b w):=by
 have hse:(b.extract 1 b.size).size=b.size-1:=by simp [ByteArray.size_extract]
 have HM:Hid (sR b=if 2<=x/\x<=8/\y<x then some (x,y,[]) else none):=zZ (by unfold sR;rw [hv,hk];rfl)
 have hb0:((b[0]'h0).toNat:Int)=3:=by rw [<-xH b 0 h0,hk];rfl
 have HV:=zZ hv
 have HC:=zZ fun w=>vF (b.extract 1 b.size) (by omega) w
 clear hv
 go_enter Tryz.func101,Tryz.ntmps101
 go_wp2_with (go_at_call 122;(refine(zY HC _).mono ?_;rintro e w1 p1;obtain⟨f1,hl1,v1,rfl,o1⟩:=tS p1 (zY HV);have F1:=zZ f1;obtain⟨g,cap,cur,rfl,hg1,hg2,hg3,hg4,hg5,hg6⟩:=xJ o1 (by simp [zs]);have cz:=hg6 0 (by simp [zs]);have cy:=hg6 1 (by simp [zs]);simp only [zs,List.map_cons,List.map_nil,List.getD_cons_zero,List.getD_cons_succ,List.length_cons,List.length_nil,Int.ofNat_eq_natCast] at cz cy hg3 ⊢;have hg7:w.heap.size<g:=(by simp at hg1;omega);have hne:w.heap.size≠g:=(by omega);clear hg1 hg2 hg4 hg5 cur hl1 hk;obtain⟨⟨r0,r1,r2,r3⟩,rz⟩:=oT f1;clear p1 f1 o1 hg6))
 have hw:(decide ((2:Int)<=x) && decide ((x:Int)<=8))=false:=by simp;omega
 have HW:=zZ hw
 have HX:=zZ hx
 clear hw hx
 refine wp_region_held_drew (S:=fun w'=>w'.cell? ⟨g,0,none⟩=some (.int .i64 x)/\w'.cell? ⟨g,1,none⟩=some (.int .i64 y)) (by kernel_rfl) ?_ (fun hHeld=>?_)
 ·simp [go_sem,cz,cy]
 refine zH (i:=0) (d:=69) (fuel:=22) ?_
 simp only [zC,zD,zE]
 refine zH (i:=1) (d:=70) (fuel:=21) ?_
 simp only [zC,zD,zE]
 refine zH (i:=2) (d:=71) (fuel:=20) ?_
 simp only [zC,zD,zE]
 refine zH (i:=3) (d:=72) (fuel:=19) ?_
 simp only [zC,zD,zE]
 refine zH (i:=4) (d:=73) (fuel:=18) ?_
 simp only [zC,zD,zE]
 refine zH (i:=5) (d:=74) (fuel:=17) ?_
 simp only [zC,zD,zE]
 refine zH (i:=6) (d:=75) (fuel:=16) ?_
 simp only [zC,zD,zE]
 refine zH (i:=7) (d:=76) (fuel:=15) ?_
 simp only [zC,zD,zE]
 refine zH (i:=8) (d:=77) (fuel:=14) ?_
 simp only [zC,zD,zE]
 refine zH (i:=9) (d:=78) (fuel:=13) ?_
 simp only [zC,zD,zE]
 refine zH (i:=10) (d:=79) (fuel:=12) ?_
 simp only [zC,zD,zE]
 refine wpAnyH_ready (rs:=[11]) (by kernel_rfl) (by simp) ?_
 refine AllReadyH.cons rfl (fun K hK=>?_) AllReadyH.nil
 go_simp
 go_at_call 124
 refine(sG _ _ _ _).mono ?_
 rintro _ _ ⟨rfl,rfl⟩
 rw [zY HW]
 refine hK.out _ _ ?_ (fun hHeld=>?_)
 ·simp [go_sem,cz,cy]
 clear hK K
 refine zH (i:=12) (d:=81) (fuel:=10) ?_
 simp only [zC,zD,zE]
 refine vR (i:=13) (d:=82) (fuel:=9) rfl rfl (by kernel_rfl) (by kernel_rfl) (by kernel_rfl) (fun _ _ _ h=>h) (by rfl) (by assumption) ?_
 simp only [zC,zD,zE]
 refine vR (i:=14) (d:=83) (fuel:=8) rfl rfl (by kernel_rfl) (by kernel_rfl) (by kernel_rfl) (fun _ _ _ h=>h) (by rfl) (by assumption) ?_
 simp only [zC,zD,zE]
 refine vR (i:=15) (d:=84) (fuel:=7) rfl rfl (by kernel_rfl) (by kernel_rfl) (by kernel_rfl) (fun _ _ _ h=>h) (by rfl) (by assumption) ?_
 simp only [zC,zD,zE]
 refine vR (i:=16) (d:=85) (fuel:=6) rfl rfl (by kernel_rfl) (by kernel_rfl) (by kernel_rfl) (fun _ _ _ h=>h) (by rfl) (by assumption) ?_
 simp only [zC,zD,zE]
 refine vR (i:=17) (d:=86) (fuel:=5) rfl rfl (by kernel_rfl) (by kernel_rfl) (by kernel_rfl) (fun _ _ _ h=>h) (by rfl) (by assumption) ?_
 simp only [zC,zD,zE]
 refine vR (i:=18) (d:=87) (fuel:=4) rfl rfl (by kernel_rfl) (by kernel_rfl) (by kernel_rfl) (fun _ _ _ h=>h) (by rfl) (by assumption) ?_
 simp only [zC,zD,zE]
 refine vR (i:=19) (d:=88) (fuel:=3) rfl rfl (by kernel_rfl) (by kernel_rfl) (by kernel_rfl) (fun _ _ _ h=>h) (by rfl) (by assumption) ?_
 simp only [zC,zD,zE]
 refine zH (i:=20) (d:=89) (fuel:=2) ?_
 simp only [zC,zD,zE]
 refine wpAnyH_ready (rs:=[21]) (by kernel_rfl) (by simp) ?_
 refine AllReadyH.cons rfl (fun K hK=>?_) AllReadyH.nil
 go_simp
 refine hK.out _ _ ?_ (fun hHeld=>?_)
 ·simp [go_sem,cz,cy]
 clear hK K
 refine zH (i:=22) (d:=3) (fuel:=0) ?_
 simp only [zC,zD,zE]
 refine wpAnyH_done (by kernel_rfl) ?_ _
 go_wp2
 exact bodyPost_ret (v:=.tuple #[.agg #[.int .i64 3,.int .i64 x,.int .i64 y,.slice none 0 0],.bool false]) (by simp [results,Tryz.results101,go_sem,r0,r1,r2,r3]) rfl (uW (by rw [zY HM,if_neg (by have:=zY HX;omega)]) (uJ (zY F1) _ _ _ _).drew)
theorem bB (b:ByteArray) (h0:0<b.size) (hs:b.size<=40) (w:World) (x y:Nat) (hv:sD (b.extract 1 b.size)=some [x,y]) (hk:yI b 0=4) (hx:¬(1<=x/\x<=1000000)):Calls Tryz.prog 101 #[.string b] w (tM b w):=by
 have hse:(b.extract 1 b.size).size=b.size-1:=by simp [ByteArray.size_extract]
 have HM:Hid (sR b=if 1<=x/\x<=1000000/\y<x then some (x,y,[]) else none):=zZ (by unfold sR;rw [hv,hk];rfl)
 have hb0:((b[0]'h0).toNat:Int)=4:=by rw [<-xH b 0 h0,hk];rfl
 have HV:=zZ hv
 have HC:=zZ fun w=>vF (b.extract 1 b.size) (by omega) w
 clear hv
 go_enter Tryz.func101,Tryz.ntmps101
 go_wp2_with (go_at_call 122;(refine(zY HC _).mono ?_;rintro e w1 p1;obtain⟨f1,hl1,v1,rfl,o1⟩:=tS p1 (zY HV);have F1:=zZ f1;obtain⟨g,cap,cur,rfl,hg1,hg2,hg3,hg4,hg5,hg6⟩:=xJ o1 (by simp [zs]);have cz:=hg6 0 (by simp [zs]);have cy:=hg6 1 (by simp [zs]);simp only [zs,List.map_cons,List.map_nil,List.getD_cons_zero,List.getD_cons_succ,List.length_cons,List.length_nil,Int.ofNat_eq_natCast] at cz cy hg3 ⊢;have hg7:w.heap.size<g:=(by simp at hg1;omega);have hne:w.heap.size≠g:=(by omega);clear hg1 hg2 hg4 hg5 cur hl1 hk;obtain⟨⟨r0,r1,r2,r3⟩,rz⟩:=oT f1;clear p1 f1 o1 hg6))
 have hw:(decide ((1:Int)<=x) && decide ((x:Int)<=1000000))=false:=by simp;omega
 have HW:=zZ hw
 have HX:=zZ hx
 clear hw hx
 refine wp_region_held_drew (S:=fun w'=>w'.cell? ⟨g,0,none⟩=some (.int .i64 x)/\w'.cell? ⟨g,1,none⟩=some (.int .i64 y)) (by kernel_rfl) ?_ (fun hHeld=>?_)
 ·simp [go_sem,cz,cy]
 refine zH (i:=0) (d:=98) (fuel:=22) ?_
 simp only [zC,zD,zE]
 refine zH (i:=1) (d:=99) (fuel:=21) ?_
 simp only [zC,zD,zE]
 refine zH (i:=2) (d:=100) (fuel:=20) ?_
 simp only [zC,zD,zE]
 refine zH (i:=3) (d:=101) (fuel:=19) ?_
 simp only [zC,zD,zE]
 refine zH (i:=4) (d:=102) (fuel:=18) ?_
 simp only [zC,zD,zE]
 refine zH (i:=5) (d:=103) (fuel:=17) ?_
 simp only [zC,zD,zE]
 refine zH (i:=6) (d:=104) (fuel:=16) ?_
 simp only [zC,zD,zE]
 refine zH (i:=7) (d:=105) (fuel:=15) ?_
 simp only [zC,zD,zE]
 refine zH (i:=8) (d:=106) (fuel:=14) ?_
 simp only [zC,zD,zE]
 refine zH (i:=9) (d:=107) (fuel:=13) ?_
 simp only [zC,zD,zE]
 refine zH (i:=10) (d:=108) (fuel:=12) ?_
 simp only [zC,zD,zE]
 refine wpAnyH_ready (rs:=[11]) (by kernel_rfl) (by simp) ?_
 refine AllReadyH.cons rfl (fun K hK=>?_) AllReadyH.nil
 go_simp
 go_at_call 124
 refine(sG _ _ _ _).mono ?_
 rintro _ _ ⟨rfl,rfl⟩
 rw [zY HW]
 refine hK.out _ _ ?_ (fun hHeld=>?_)
 ·simp [go_sem,cz,cy]
 clear hK K
 refine zH (i:=12) (d:=110) (fuel:=10) ?_
 simp only [zC,zD,zE]
 refine vR (i:=13) (d:=111) (fuel:=9) rfl rfl (by kernel_rfl) (by kernel_rfl) (by kernel_rfl) (fun _ _ _ h=>h) (by rfl) (by assumption) ?_
 simp only [zC,zD,zE]
 refine vR (i:=14) (d:=112) (fuel:=8) rfl rfl (by kernel_rfl) (by kernel_rfl) (by kernel_rfl) (fun _ _ _ h=>h) (by rfl) (by assumption) ?_
 simp only [zC,zD,zE]
 refine vR (i:=15) (d:=113) (fuel:=7) rfl rfl (by kernel_rfl) (by kernel_rfl) (by kernel_rfl) (fun _ _ _ h=>h) (by rfl) (by assumption) ?_
 simp only [zC,zD,zE]
 refine vR (i:=16) (d:=114) (fuel:=6) rfl rfl (by kernel_rfl) (by kernel_rfl) (by kernel_rfl) (fun _ _ _ h=>h) (by rfl) (by assumption) ?_
 simp only [zC,zD,zE]
 refine vR (i:=17) (d:=115) (fuel:=5) rfl rfl (by kernel_rfl) (by kernel_rfl) (by kernel_rfl) (fun _ _ _ h=>h) (by rfl) (by assumption) ?_
 simp only [zC,zD,zE]
 refine vR (i:=18) (d:=116) (fuel:=4) rfl rfl (by kernel_rfl) (by kernel_rfl) (by kernel_rfl) (fun _ _ _ h=>h) (by rfl) (by assumption) ?_
 simp only [zC,zD,zE]
 refine vR (i:=19) (d:=117) (fuel:=3) rfl rfl (by kernel_rfl) (by kernel_rfl) (by kernel_rfl) (fun _ _ _ h=>h) (by rfl) (by assumption) ?_
 simp only [zC,zD,zE]
 refine zH (i:=20) (d:=118) (fuel:=2) ?_
 simp only [zC,zD,zE]
 refine wpAnyH_ready (rs:=[21]) (by kernel_rfl) (by simp) ?_
 refine AllReadyH.cons rfl (fun K hK=>?_) AllReadyH.nil
 go_simp
 refine hK.out _ _ ?_ (fun hHeld=>?_)
 ·simp [go_sem,cz,cy]
 clear hK K
 refine zH (i:=22) (d:=3) (fuel:=0) ?_
 simp only [zC,zD,zE]
 refine wpAnyH_done (by kernel_rfl) ?_ _
 go_wp2
 exact bodyPost_ret (v:=.tuple #[.agg #[.int .i64 4,.int .i64 x,.int .i64 y,.slice none 0 0],.bool false]) (by simp [results,Tryz.results101,go_sem,r0,r1,r2,r3]) rfl (uW (by rw [zY HM,if_neg (by have:=zY HX;omega)]) (uJ (zY F1) _ _ _ _).drew)
structure BI (w:World) (x0 x1 x2 x3:Value) (W:World) (v:Value) (b:ByteArray):Prop where
 row:tN W w.heap.size v b
 fr:Fr (fun _=>False) w W (fun _=>False)
 new:∀k,own v k->w.heap.size<k
 box:W.heap[w.heap.size]?=some (.cells #[x0,x1,x2,x3] 49)
theorem Fr.fresh {S T T':Nat->Prop} {w W w':World} (h:Fr S w W S) (h':Fr T W w' T') (hT:∀k,T k->w.heap.size<=k):Fr S w w' S:=
 ⟨h'.os.trans h.os,h'.tape.trans h.tape,h'.output.trans h.output,Nat.le_trans h.size h'.size,fun k hk hn=>(h'.same k (zT hk h.size) (fun ht=>by have:=hT k ht;omega)).trans (h.same k hk hn),fun _ _ h=>h⟩
theorem yI2 (w:World) (B:Nat) (z:Int) (h0:0<=z) (h1:z<256) (hB:B<=w.heap.size):tN (w.alloc (.cells #[.int .u8 z] 5)) B (.slice (some ⟨w.heap.size,0,none⟩) 1 1) (ByteArray.empty.push (UInt8.ofNat z.toNat)):=by
 have hl:u8s (ByteArray.empty.push (UInt8.ofNat z.toNat))=[.int .u8 z]:=by simp [u8s];omega
 refine .inl ?_
 rw [hl]
 exact⟨by simp,.inr ⟨w.heap.size,1,#[.int .u8 z],by simp,hB,heap_alloc_new _ _,by simp,by simp [maxLen],rfl,rfl⟩⟩
theorem BI.start (w:World) (x0 x1 x2 x3:Value) (z:Int) (h0:0<=z) (h1:z<256):BI w x0 x1 x2 x3 ((w.alloc (.cells #[x0,x1,x2,x3] 49)).alloc (.cells #[.int .u8 z] 5)) (.slice (some ⟨w.heap.size+1,0,none⟩) 1 1) (ByteArray.empty.push (UInt8.ofNat z.toNat)):=by
 have hz:(w.alloc (.cells #[x0,x1,x2,x3] 49)).heap.size=w.heap.size+1:=by simp
 refine⟨?_,((Fr.refl _ w).alloc _).alloc _,?_,?_⟩
 ·have:=yI2 (w.alloc (.cells #[x0,x1,x2,x3] 49)) w.heap.size z h0 h1 (by omega)
  rw [hz] at this
  exact this
 ·intro k hk
  simp only [own,Value.ownBlock,Option.some.injEq] at hk
  omega
 ·exact(zR _ _ _ (by omega)).trans (heap_alloc_new w _)
theorem BI.cell {w:World} {x0 x1 x2 x3:Value} {W:World} {v:Value} {b:ByteArray} (h:BI w x0 x1 x2 x3 W v b) (j:Nat):W.cell? ⟨w.heap.size,j,none⟩=(#[x0,x1,x2,x3]:Array Value)[j]?:=cell_of_row W w.heap.size j _ 49 (0,0) h.box
theorem BI.varint {w:World} {x0 x1 x2 x3:Value} {W:World} {v:Value} {b:ByteArray} (h:BI w x0 x1 x2 x3 W v b) (m:Nat) (hm:m<4611686018427387904) (hb:b.size<=100000) :
  Calls Tryz.prog 103 #[v,.int .i64 m] W fun e w'=>∃v',e=.returned v'/\BI w x0 x1 x2 x3 w' v' (b++xR m):=by
 have hsm:=uH m hm
 refine(nA h.row m hm (by omega) h.fr.size).mono ?_
 rintro e w' ⟨v',rfl,ho,hf⟩
 refine⟨v',rfl,ho,h.fr.fresh hf (fun k hk=>Nat.le_of_lt (h.new k hk)),?_,?_⟩
 ·intro k hk
  by_cases hlt:k<W.heap.size
  ·exact h.new k (hf.old k hlt hk)
  ·have:w.heap.size<W.heap.size:=(zN.1 h.box).1
   omega
 ·exact(hf.same _ (zN.1 h.box).1 (fun hk=>by have:=h.new _ hk;omega)).trans h.box
theorem aB (k:Nat) (o n:Nat) (fv:Value) (a:Option Addr) (l c:Nat) (hfv:fv=.slice a l c) (hk:k=1\/k=5) (hn:n<4611686018427387904) (w:World) :
  Calls Tryz.prog 102 #[.agg #[.int .i64 k,.int .i64 o,.int .i64 n,fv]] w fun e w'=>∃v',e=.returned v'/\tN w' w.heap.size v' (yY k o n)/\Fr (fun _=>False) w w' (fun _=>False):=by
 subst hfv
 have hb:yY k o n=one k++xR n:=by unfold yY;rw [if_neg (by omega)]
 have hwr:IntKind.u8.wrap (k:Int)=k:=by rcases hk with rfl | rfl<;>rfl
 have hk2:((k:Int)==2)=false:=by rcases hk with rfl | rfl<;>rfl
 have hk3:((k:Int)==3)=false:=by rcases hk with rfl | rfl<;>rfl
 have hk4:((k:Int)==4)=false:=by rcases hk with rfl | rfl<;>rfl
 have h1:=(BI.start w (.int .i64 k) (.int .i64 o) (.int .i64 n) (.slice a l c) k (by omega) (by omega)).varint n hn (by simp)
 have he:ByteArray.empty.push (UInt8.ofNat ((k:Int)).toNat)=one k:=by rw [Int.toNat_natCast];rfl
 rw [he] at h1
 rw [hb]
 generalize one k++xR n=R at *
 clear hb he hk hn
 go_enter Tryz.func102,Tryz.ntmps102
 go_wp2_with (go_at_call 103;refine h1.mono ?_;rintro e w1 ⟨v1,rfl,b1⟩;have B1:=zZ b1;clear b1)
 go_ret
 exact⟨_,rfl,(zY B1).row,(zY B1).fr⟩
theorem zY8 (k:Nat) (o n:Nat) (fv:Value) (a:Option Addr) (l c:Nat) (hfv:fv=.slice a l c) (hk:k=3\/k=4) (hn:n<4611686018427387904) (ho:o<4611686018427387904) (w:World) :
  Calls Tryz.prog 102 #[.agg #[.int .i64 k,.int .i64 o,.int .i64 n,fv]] w fun e w'=>∃v',e=.returned v'/\tN w' w.heap.size v' (yY k o n)/\Fr (fun _=>False) w w' (fun _=>False):=by
 subst hfv
 have hb:yY k o n=one k++xR o++xR n:=by unfold yY;rw [if_pos hk]
 have hwr:IntKind.u8.wrap (k:Int)=k:=by rcases hk with rfl | rfl<;>rfl
 have hk2:((k:Int)==2)=false:=by rcases hk with rfl | rfl<;>rfl
 have hs1:(one k).size=1:=by unfold one;simp
 have hso:=uH o ho
 have hbi:=BI.start w (.int .i64 k) (.int .i64 o) (.int .i64 n) (.slice a l c) k (by omega) (by omega)
 have he:ByteArray.empty.push (UInt8.ofNat ((k:Int)).toNat)=one k:=by rw [Int.toNat_natCast];rfl
 rw [he] at hbi
 rw [hb]
 have HC:Hid (∀W v b m,BI w (.int .i64 k) (.int .i64 o) (.int .i64 n) (.slice a l c) W v b->m<4611686018427387904->b.size<=100000->Calls Tryz.prog 103 #[v,.int .i64 (m:Nat)] W fun e w'=>∃v',e=.returned v'/\BI w (.int .i64 k) (.int .i64 o) (.int .i64 n) (.slice a l c) w' v' (b++xR m)):=zZ (fun W v b m h h1 h2=>h.varint m h1 h2)
 have HO:=zZ ho
 have HN:=zZ hn
 have Z1:=zZ (show (one k).size<=100000 by omega)
 have Z2:=zZ (show (one k++xR o).size<=100000 by rw [ByteArray.size_append];omega)
 have B0:=zZ hbi
 have c0:=hbi.cell
 clear hb he hn ho hbi hs1 hso c0
 generalize one k=O at *
 rcases hk with rfl | rfl
 ·have hk3:(((3:Nat):Int)==3)=true:=rfl
  go_enter Tryz.func102,Tryz.ntmps102
  go_wp2_with (go_at_call 103;refine(zY HC _ _ _ _ (zY B0) (by first | exact zY HO | exact zY HN) (by first | exact zY Z1 | exact zY Z2)).mono ?_;rintro e w1 ⟨v1,rfl,b1⟩;have ck:=b1.cell;have B0:=zZ b1;clear b1)
  go_ret
  exact⟨_,rfl,(zY B0).row,(zY B0).fr⟩
 ·have hk3:(((4:Nat):Int)==3)=false:=rfl
  have hk4:(((4:Nat):Int)==4)=true:=rfl
  go_enter Tryz.func102,Tryz.ntmps102
  go_wp2_with (go_at_call 103;refine(zY HC _ _ _ _ (zY B0) (by first | exact zY HO | exact zY HN) (by first | exact zY Z1 | exact zY Z2)).mono ?_;rintro e w1 ⟨v1,rfl,b1⟩;have ck:=b1.cell;have B0:=zZ b1;clear b1)
  go_ret
  exact⟨_,rfl,(zY B0).row,(zY B0).fr⟩
def yC8 (l:List Int) (r0:ByteArray) (w:World) (x0 x1 x2 x3:Value) (u i:Value) (wr:World):Prop:=
 ∃(k:Nat),k<=l.length/\i=.int .i64 k/\BI w x0 x1 x2 x3 wr u (uU (l.take k) r0)/\(uU (l.take k) r0).size<=100+64*k
theorem zH1 (o n:Int) (fv:Value) (l:List Int) {P:Nat->Prop} (w:World) (hP:∀q,P q->q<w.heap.size) (hl:yJ w fv l P) (h8:l.length<=8) (hz:∀z,z∈l->0<=z/\z<8) :
  Calls Tryz.prog 102 #[.agg #[.int .i64 2,.int .i64 o,.int .i64 n,fv]] w fun e w'=>∃v',e=.returned v'/\tN w' w.heap.size v' (tP l)/\Fr (fun _=>False) w w' (fun _=>False):=by
 obtain⟨a,c,rfl,hc⟩:=hl
 have hlen:l.length<4611686018427387904:=by omega
 have hs2:=uH l.length hlen
 have h1s:(one 2).size=1:=by unfold one;simp
 have hr0:(one 2++xR l.length).size<=100:=by rw [ByteArray.size_append];omega
 have hbs:tP l=uU l (one 2++xR l.length):=rfl
 have hbi:=BI.start w (.int .i64 2) (.int .i64 o) (.int .i64 n) (.slice a l.length c) 2 (by omega) (by omega)
 have he:ByteArray.empty.push (UInt8.ofNat ((2:Int)).toNat)=one 2:=rfl
 rw [he] at hbi
 have h1:=hbi.varint l.length hlen (by omega)
 have h2:∀(W:World) (u:Value) (b:ByteArray) (m:Nat),BI w (.int .i64 2) (.int .i64 o) (.int .i64 n) (.slice a l.length c) W u b->m<8->b.size<=100000->Calls Tryz.prog 103 #[u,.int .i64 m] W fun e w'=>∃v',e=.returned v'/\BI w (.int .i64 2) (.int .i64 o) (.int .i64 n) (.slice a l.length c) w' v' (b++xR m):=fun W u b m h hm hb=>h.varint m (by omega) hb
 have h3:∀m:Nat,m<8->(xR m).size<=64:=fun m hm=>uH m (by omega)
 generalize one 2=O at *
 generalize hvl:xR l.length=V at *
 have HC:=zZ hc
 have HP:=zZ hP
 have HZ:=zZ hz
 have H2:=zZ h2
 have H3:=zZ h3
 have HR0:=zZ hr0
 have HBS:=zZ hbs
 clear hc hP hz h2 h3 hr0 hbs hs2 h1s hvl hlen hbi he
 go_enter Tryz.func102,Tryz.ntmps102
 go_wp2_with (go_at_call 103;refine h1.mono ?_;rintro e w1 ⟨v1,rfl,b1⟩;have ck:=b1.cell;have B1:=zZ b1;clear b1)
 go_loopw [3,26] (fun u i wr=>yC8 l (O++V) w (.int .i64 2) (.int .i64 o) (.int .i64 n) (.slice a l.length c) u i wr) (fun _ i _=>l.length-(intOf i).toNat)
 case atStart=>exact⟨0,Nat.zero_le _,rfl,zY B1,zY HR0⟩
 case round=>
  obtain⟨k,hk,rfl,hbi,hsize⟩:=hrel
  by_cases hlt:k<l.length
  ·rcases zY HC with hz | ⟨q,off,rfl,hq,hcell⟩
   ·rw [hz] at hlt;simp at hlt
   have cz:=(hbi.fr.cell q (off+k) (zY HP q hq) (fun h=>h)).trans (hcell k hlt)
   have hget:l.getD k 0=l[k]:=by simp [List.getD,hlt]
   rw [hget] at cz
   have HSU:=zZ (gM l (O++V) k hlt)
   obtain⟨z0,z8⟩:=zY HZ l[k] (List.getElem_mem hlt)
   clear hcell hget
   generalize l[k]=z at *
   obtain⟨m,rfl⟩ : ∃m:Nat,z=m:=⟨z.toNat,by omega⟩
   have hvs:=zY H3 m (by omega)
   have h7:=zY H2 _ _ _ m hbi (by omega) (by omega)
   rw [Int.toNat_natCast] at HSU
   clear hbi
   generalize xR m=U at *
   generalize uU (l.take k) (O++V)=R at *
   have HSZ:=zZ hsize
   have HVS:=zZ hvs
   clear hsize hvs
   go_wp2_with (go_at_call 103;refine h7.mono ?_;rintro e w2 ⟨v2,rfl,b2⟩;have B2:=zZ b2;clear b2)
   go_roundw
   case rel=>
    have h5:=zY HSZ
    have h6:=zY HVS
    refine⟨k+1,by omega,by go_num,by rw [zY HSU];exact zY B2,by rw [zY HSU,ByteArray.size_append];omega⟩
   case measure=>simp [intOf];omega
  ·have e:l.take k=l:=List.take_of_length_le (by omega)
   rw [e] at hbi
   clear hsize
   generalize uU l (O++V)=R at *
   have B2:=zZ hbi
   clear hbi e
   go_wp2
   go_ret
   exact⟨_,rfl,by rw [zY HBS];exact(zY B2).row,(zY B2).fr⟩
structure rV (w:World) (lb B:Nat) (v:Value) (b:ByteArray):Prop where
 cell:w.cell? ⟨lb,0,none⟩=some v
 free:w.frozen? ⟨lb,0,none⟩=false
 row:tN w B v b
 sep:¬own v lb
 lt:lb<w.heap.size
def lgS (lb:Nat) (v:Value) (k:Nat):Prop:=k=lb\/own v k
structure HI (w:World) (lb B:Nat) (v0:Value) (vb:Value) (bd:ByteArray) (W:World) (v:Value) (b:ByteArray):Prop where
 log:rV W lb B v b
 body:tN W w.heap.size vb bd
 sep:∀k,own v k->¬own vb k
 old:lb<w.heap.size
 fr:Fr (lgS lb v0) w W (lgS lb v)
 bb:B<=w.heap.size
theorem HI.next {w:World} {lb B:Nat} {v0 vb:Value} {bd:ByteArray} {W:World} {v:Value} {b:ByteArray} (h:HI w lb B v0 vb bd W v b) {W':World} {v':Value} {b':ByteArray} (hr:tN W' B v' b') (hf:Fr (own v) W W' (own v')) :
  HI w lb B v0 vb bd (W'.setCell ⟨lb,0,none⟩ v') v' b':=by
 have hn:¬own v' lb:=fun e=>h.log.sep (hf.old lb h.log.lt e)
 have hc:W'.cell? ⟨lb,0,none⟩=some v:=(hf.cell lb 0 h.log.lt h.log.sep).trans h.log.cell
 have hz:(W'.setCell ⟨lb,0,none⟩ v').heap.size=W'.heap.size:=by simp [World.setCell]
 have hvb:∀q,own vb q->q<W.heap.size:=fun q hq=>(h.body.bump q hq).2
 refine⟨⟨?_,?_,?_,hn,by rw [hz];exact zT h.log.lt hf.size⟩,?_,?_,h.old,?_,h.bb⟩
 ·exact World.cell?_setCell_same' _ _ _ (by rw [hc];rfl)
 ·rw [World.frozen?_setCell];exact(hf.frozen lb 0 h.log.lt h.log.sep).trans h.log.free
 ·exact hr.block fun q hq=>zQ _ _ _ _ (by rintro rfl;exact hn hq)
 ·refine h.body.block fun q hq=>?_
  have h1:=(h.body.bump q hq)
  have h2:=h.old
  exact(zQ _ _ _ _ (by show q≠lb;omega)).trans (hf.same q h1.2 (fun e=>h.sep q e hq))
 ·intro k hk hb
  exact h.sep k (hf.old k (hvb k hb) hk) hb
 ·have h1:Fr (lgS lb v) W W' (lgS lb v'):=⟨hf.os,hf.tape,hf.output,hf.size,fun k hk hn=>hf.same k hk (fun e=>hn (.inr e)),fun k hk e=>e.elim .inl (fun e=>.inr (hf.old k hk e))⟩
  exact(h.fr.trans h1).setCell _ _ (.inl (.inl rfl))
theorem tN.cells {w:World} {B g n cap:Nat} {b:ByteArray} (h:tN w B (.slice (some ⟨g,0,none⟩) n cap) b) (h0:0<b.size):∀j u,(u8s b)[j]?=some u->w.cell? ((⟨g,0,none⟩ : Addr).add j)=some u:=by
 obtain⟨g',cap',e,_,hc⟩:=h.bytes h0
 injection e with e _ _
 injection e with e
 injection e with e _ _
 subst e
 intro j u hj
 rw [sA]
 exact hc j u hj
theorem Fr.cell_own {v v':Value} {w w':World} (h:Fr (own v) w w' (own v')) {lb B:Nat} {b:ByteArray} (hl:rV w lb B v b):w'.cell? ⟨lb,0,none⟩=some v/\w'.frozen? ⟨lb,0,none⟩=false:=
 ⟨(h.cell lb 0 hl.lt hl.sep).trans hl.cell,(h.frozen lb 0 hl.lt hl.sep).trans hl.free⟩
theorem cV {w:World} {lb B:Nat} {v:Value} {b bd:ByteArray} (h:rV w lb B v b) (hB:B<=w.heap.size) (x0 x1 x2:Value) (a:Option Addr) (l c:Nat) (z0 z1 z2:Int) (e0:x0=.int .i64 z0) (e1:x1=.int .i64 z1) (e2:x2=.int .i64 z2)
  (hbd:bd.size<=1000) (h0:0<bd.size) (hb:b.size<=800000000)
  (hbody:Calls Tryz.prog 102 #[.agg #[x0,x1,x2,.slice a l c]] (w.alloc (.cells #[x0,x1,x2,.slice a l c] 49)) fun e w'=>∃v',e=.returned v'/\tN w' (w.heap.size+1) v' bd/\Fr (fun _=>False) (w.alloc (.cells #[x0,x1,x2,.slice a l c] 49)) w' (fun _=>False)) :
  Calls Tryz.prog 64 #[.pointer (some ⟨lb,0,none⟩),.agg #[x0,x1,x2,.slice a l c]] w fun e w'=>∃v',e=.returned (.tuple #[])/\rV w' lb B v' (b++yX bd)/\Fr (lgS lb v) w w' (lgS lb v'):=by
 subst e0 e1 e2
 have hvs:=uH bd.size (by omega)
 have hstart:∀(w1:World) (vb:Value),tN w1 (w.heap.size+1) vb bd->Fr (fun _=>False) (w.alloc (.cells #[.int .i64 z0,.int .i64 z1,.int .i64 z2,.slice a l c] 49)) w1 (fun _=>False)->HI w lb B v vb bd w1 v b:=by
  intro w1 vb ho hf
  have hf':Fr (fun _=>False) w w1 (fun _=>False):=hf.unalloc
  have hlt:=h.lt
  have hbmp:=fun k hk=>(h.row.bump k hk).2
  refine⟨⟨(hf'.cell lb 0 hlt (fun h=>h)).trans h.cell,(hf'.frozen lb 0 hlt (fun h=>h)).trans h.free,h.row.block (fun q hq=>hf'.same q (hbmp q hq) (fun h=>h)),h.sep,zT hlt hf'.size⟩,?_,?_,hlt,?_,hB⟩
  ·exact ho.low (by omega)
  ·intro k hk hkb
   have h1:=hbmp k hk
   have h2:=(ho.bump k hkb).1
   omega
  ·exact⟨hf'.os,hf'.tape,hf'.output,hf'.size,fun k hk _=>hf'.same k hk (fun h=>h),fun k hk e=>e⟩
 have HB:=zZ (show b++yX bd=b++xR bd.size++bd++oG bd by unfold yX;rw [<-ByteArray.append_assoc,<-ByteArray.append_assoc])
 have Z1:=zZ (show b.size+(xR bd.size).size<=1000000000 by omega)
 have Z2:=zZ (show (b++xR bd.size).size+bd.size<=1000000000 by rw [ByteArray.size_append];omega)
 have Z3:=zZ (show (b++xR bd.size++bd).size<=900000000 by rw [ByteArray.size_append,ByteArray.size_append];omega)
 have HST:=zZ hstart
 have HBW:=zZ hB
 clear hstart h hvs hb
 go_enter Tryz.func64,Tryz.ntmps64
 go_wp2_with (first
  | (go_at_call 102;refine hbody.mono ?_;rintro e w1 ⟨vb,rfl,o1,f1⟩;obtain⟨g,cap,rfl,_,_⟩:=o1.bytes h0;have hi:=zY HST _ _ o1 f1;have cl:=hi.log.cell;have H1:=zZ hi;clear o1 f1 hi)
  | (go_at_call 103;refine(nA (zY H1).log.row bd.size (by omega) (zY Z1) (Nat.le_trans (zY HBW) (zY H1).fr.size)).mono ?_;rintro e w2 ⟨v2,rfl,o2,f2⟩;obtain⟨a2,n2,c2,rfl⟩:=o2.shape;obtain⟨k1,k2⟩:=f2.cell_own (zY H1).log;have hi:=(zY H1).next o2 f2;have cl2:=hi.log.cell;have H2:=zZ hi;clear o2 f2 hi)
  | (at_builtin;refine mK (c:=bd) rfl (.tmp 21) (.tmp 22) rfl rfl rfl (zY H2).log.row ((zY H2).body.cells h0) h0 (zY Z2) (Nat.le_trans (zY HBW) (zY H2).fr.size) ?_;intro v3 w3 o3 f3;obtain⟨a3,n3,c3,rfl⟩:=o3.shape;obtain⟨k3,k4⟩:=f3.cell_own (zY H2).log;have hi:=(zY H2).next o3 f3;have cl3:=hi.log.cell;have H3:=zZ hi;clear o3 f3 hi)
  | (go_at_call 100;refine(kO (zY H3).log.row ((zY H3).body.at h0) (by omega) (zY Z3) (Nat.le_trans (zY HBW) (zY H3).fr.size)).mono ?_;rintro e w4 ⟨v4,rfl,o4,f4⟩;obtain⟨a4,n4,c4,rfl⟩:=o4.shape;obtain⟨k5,k6⟩:=f4.cell_own (zY H3).log;have hi:=(zY H3).next o4 f4;have H4:=zZ hi;clear o4 f4 hi))
 refine⟨rfl,.tuple #[],by simp [results,Tryz.results64,go_sem],?_⟩
 exact⟨_,rfl,by rw [zY HB];exact(zY H4).log,(zY H4).fr⟩
end Go.Proofs.YtfmbebofllgmoaaGreatDoor
namespace Go.Proofs.YtfmbebofllgmoaaGreatDoor
open Go.RowKit
theorem uA (a b:ByteArray):bs (a++b)=bs a++bs b:=by simp [bs]
theorem nY (a:ByteArray) (x:UInt8):bs (a.push x)=bs a++[x.toNat]:=by simp [bs]
theorem eJ {a b:ByteArray} (h:bs a=bs b):a=b:=by
 obtain⟨⟨a⟩⟩:=a
 obtain⟨⟨b⟩⟩:=b
 have h':a.map UInt8.toNat=b.map UInt8.toNat:=h
 have:a=b:=(List.map_inj_right (fun x y hxy=>UInt8.toNat_inj.1 hxy)).1 h'
 rw [this]
theorem eK (a:ByteArray):∀x,x∈bs a->x<256:=by
 intro x hx
 obtain⟨u,_,rfl⟩:=List.mem_map.1 hx
 exact UInt8.toNat_lt u
theorem mX:bs ByteArray.empty=[]:=rfl
theorem nZ (s:ByteArray) (i j:Nat):bs (s.extract i j)=((bs s).take j).drop i:=by
 simp only [bs,ByteArray.data_extract,Array.toList_extract,List.map_drop,List.map_take,List.extract_eq_drop_take']
theorem bP (s:ByteArray) (i:Nat):yI s i=(bs s).getD i 0:=by
 simp only [yI,bs,List.getD_eq_getElem?_getD,List.getElem?_map]
 cases s.data.toList[i]?<;>rfl
def vb (n:Nat):List Nat:=bs (xR n)
theorem tH (n:Nat) (h:n<128):vb n=[n]:=by
 unfold vb;rw [sY,if_pos h,nY,mX,List.nil_append,UInt8.toNat_ofNat']
 congr 1;omega
theorem lR (n:Nat) (h:¬n<128):vb n=(n % 128+128)::vb (n / 128):=by
 unfold vb;rw [sY,if_neg h,uA,nY,mX,List.nil_append,UInt8.toNat_ofNat',List.singleton_append]
 congr 1;omega
theorem jK (n:Nat):0<(vb n).length:=by
 by_cases h:n<128
 ·rw [tH n h];simp
 ·rw [lR n h];simp
theorem zP9:∀(f k acc n:Nat) (t:List Nat),n<128 ^ f->0<f->(n≠0\/k=0)->vGo f k acc (vb n++t)=(acc+n*128 ^ k,k+(vb n).length)
 | 0,_,_,_,_,_,h,_=>absurd h (Nat.lt_irrefl 0)
 | f+1,k,acc,n,t,hn,_,h0=>by
  by_cases h:n<128
  ·rw [tH n h]
   rw [List.singleton_append,cO f k acc n t h h0]
   rfl
  ·rw [lR n h,List.cons_append,cR _ _ _ _ _ (by omega)]
   have h1:n / 128<128 ^ f:=by rw [Nat.div_lt_iff_lt_mul (by omega)];rwa [Nat.pow_succ] at hn
   have hf:0<f:=by
    cases f with
    | zero=>simp at h1;omega
    | succ f=>omega
   rw [zP9 f (k+1) _ (n / 128) t h1 hf (.inl (by omega))]
   have e:(n % 128+128) % 128=n % 128:=by omega
   rw [e,List.length_cons]
   have e2:acc+n % 128*128 ^ k+n / 128*128 ^ (k+1)=acc+n*128 ^ k:=by
    rw [Nat.pow_succ,Nat.add_assoc,Nat.mul_comm (128 ^ k) 128,<-Nat.mul_assoc,<-Nat.add_mul]
    congr 2;omega
   rw [e2]
   congr 1;omega
theorem zT8:∀(f k acc:Nat) (l:List Nat),(∀x,x∈l->x<256)->(vGo f k acc l).2≠0->∃n t,l=vb n++t/\vGo f k acc l=(acc+n*128 ^ k,k+(vb n).length)/\n<128 ^ f/\(n≠0\/k=0)
 | 0,_,_,_,_,h=>absurd rfl h
 | _+1,_,_,[],_,h=>absurd rfl h
 | f+1,k,acc,x::t,hl,h=>by
  by_cases hx:128<=x
  ·rw [cR _ _ _ _ _ hx] at h ⊢
   obtain⟨n,t',e,hv,hn,h0⟩:=zT8 f (k+1) _ t (fun y hy=>hl y (List.mem_cons_of_mem _ hy)) h
   have h256:=hl x (List.mem_cons_self ..)
   have hn0:n≠0:=by
     rcases h0 with h0 | h0
     ·exact h0
     ·omega
   have hg:¬(x % 128+n*128)<128:=by omega
   have hvb:vb (x % 128+n*128)=x::vb n:=by
    rw [lR _ hg]
    congr 1
    ·omega
    ·congr 1;omega
   refine⟨x % 128+n*128,t',?_,?_,?_,.inl (by omega)⟩
   ·rw [hvb,e];rfl
   ·rw [hv,hvb,List.length_cons]
    have e2:acc+x % 128*128 ^ k+n*128 ^ (k+1)=acc+(x % 128+n*128)*128 ^ k:=by
     rw [Nat.pow_succ,Nat.add_assoc,Nat.mul_comm (128 ^ k) 128,<-Nat.mul_assoc,<-Nat.add_mul]
    rw [e2]
    congr 1;omega
   ·rw [Nat.pow_succ];omega
  ·by_cases h0:x=0/\0<k
   ·rw [h0.1,zI7 _ _ _ _ h0.2] at h;exact absurd rfl h
   ·have hx':x<128:=by omega
    rw [cO f k acc x t hx' (by omega)]
    refine⟨x,t,by rw [tH x hx'];rfl,by rw [tH x hx'];rfl,?_,by omega⟩
    rw [Nat.pow_succ]
    have:=Nat.one_le_pow f 128 (by omega)
    omega
def vbs (ns:List Nat):List Nat:=ns.flatMap vb
theorem sE (n:Nat) (r:List Nat):vbs (n::r)=vb n++vbs r:=rfl
theorem vb_ne (n:Nat) (t:List Nat):vb n++t≠[]:=by
 intro h;have:=jK n;have h2:=congrArg List.length h;rw [List.length_append,List.length_nil] at h2;omega
theorem kK:∀(f:Nat) (l:List Nat) (ns:List Nat),l.length<=f->(∀x,x∈l->x<256)->(mQ f l=some ns↔l=vbs ns/\∀n,n∈ns->n<128 ^ 6)
 | 0,l,ns,hf,_=>by
  have:l=[]:=List.eq_nil_of_length_eq_zero (by omega)
  subst this
  simp only [mQ,if_true]
  constructor
  ·intro h;injection h with h;subst h;exact⟨rfl,fun _ h=>absurd h (by simp)⟩
  ·rintro ⟨h,_⟩
   cases ns with
   | nil=>rfl
   | cons n r=>exact absurd h.symm (vb_ne n _)
 | f+1,l,ns,hf,hb=>by
  by_cases hl:l=[]
  ·subst hl
   simp only [mQ,if_true]
   constructor
   ·intro h;injection h with h;subst h;exact⟨rfl,fun _ h=>absurd h (by simp)⟩
   ·rintro ⟨h,_⟩
    cases ns with
    | nil=>rfl
    | cons n r=>exact absurd h.symm (vb_ne n _)
  ·simp only [mQ,if_neg hl]
   by_cases h0:(vGo 6 0 0 l).2=0
   ·rw [if_pos h0]
    constructor
    ·intro h;cases h
    ·rintro ⟨h,hn⟩
     cases ns with
     | nil=>exact absurd h hl
     | cons n r=>
      rw [h,sE,zP9 6 0 0 n _ (hn n (List.mem_cons_self ..)) (by omega) (.inr rfl)] at h0
      have:=jK n
      exact absurd h0 (by show 0+(vb n).length≠0;omega)
   ·rw [if_neg h0]
    obtain⟨n,t,e,hv,hn,_⟩:=zT8 6 0 0 l hb h0
    have e1:(vGo 6 0 0 l).1=n:=by rw [hv];simp
    have e2:(vGo 6 0 0 l).2=(vb n).length:=by rw [hv];simp
    have e3:l.drop (vb n).length=t:=by rw [e,List.drop_left]
    rw [e1,e2,e3]
    have ht:t.length<=f:=by have:=jK n;rw [e,List.length_append] at hf;omega
    have hbt:∀x,x∈t->x<256:=fun x hx=>hb x (by rw [e];exact List.mem_append_right _ hx)
    constructor
    ·intro h
     obtain⟨r,hr,rfl⟩:=Option.map_eq_some_iff.1 h
     obtain⟨h1,h2⟩:=(kK f t r ht hbt).1 hr
     refine⟨by rw [sE,<-h1,e],?_⟩
     intro m hm
     rcases List.mem_cons.1 hm with rfl | hm
     ·exact hn
     ·exact h2 m hm
    ·rintro ⟨h,hns⟩
     cases ns with
     | nil=>exact absurd h hl
     | cons m r=>
      rw [sE] at h
      have hv2:=zP9 6 0 0 m (vbs r) (hns m (List.mem_cons_self ..)) (by omega) (.inr rfl)
      rw [<-h,hv] at hv2
      injection hv2 with g1 g2
      have hnm:n=m:=by simp at g1;exact g1
      subst hnm
      have htr:t=vbs r:=by
       rw [e] at h
       exact List.append_cancel_left h
      rw [(kK f t r ht hbt).2 ⟨htr,fun x hx=>hns x (List.mem_cons_of_mem _ hx)⟩]
      rfl
abbrev Inp:=Nat×Nat×Nat×List Nat
def Fit (x:Inp):Prop:=
 (x.1=1/\x.2.1=0/\x.2.2.1<=1099511627776/\x.2.2.2=[])\/(x.1=2/\x.2.1=0/\x.2.2.1=0/\tT (-1) (zs x.2.2.2)=true)\/
 (x.1=3/\2<=x.2.1/\x.2.1<=8/\x.2.2.1<x.2.1/\x.2.2.2=[])\/(x.1=4/\1<=x.2.1/\x.2.1<=1000000/\x.2.2.1<x.2.1/\x.2.2.2=[])\/(x.1=5/\x.2.1=0/\1<=x.2.2.1/\x.2.2.1<=5/\x.2.2.2=[])
def rU (x:Inp):List Nat:=if x.1=2 then x.2.2.2.length::x.2.2.2 else if x.1=3\/x.1=4 then [x.2.1,x.2.2.1] else [x.2.2.1]
theorem zF9 (k:Nat) (ns:List Nat) (o n:Nat) (fs:List Nat):inpN k ns=some (o,n,fs)↔Fit (k,o,n,fs)/\ns=rU (k,o,n,fs):=by
 unfold inpN
 split
 ·rename_i a
  by_cases h:a<=1099511627776
  ·rw [if_pos h];simp [Fit,rU]
   constructor
   ·rintro ⟨rfl,rfl,rfl⟩;exact⟨⟨rfl,h,rfl⟩,rfl⟩
   ·rintro ⟨⟨rfl,_,rfl⟩,rfl⟩;exact⟨rfl,rfl,rfl⟩
  ·rw [if_neg h];simp [Fit,rU]
   rintro _ h1 _ rfl;exact h h1
 ·rename_i a t
  by_cases h:a=t.length/\tT (-1) (zs t)=true
  ·rw [if_pos h];simp [Fit,rU]
   constructor
   ·rintro ⟨rfl,rfl,rfl⟩;exact⟨⟨rfl,rfl,h.2⟩,h.1,rfl⟩
   ·rintro ⟨⟨rfl,rfl,_⟩,_,rfl⟩;exact⟨rfl,rfl,rfl⟩
  ·rw [if_neg h];simp [Fit,rU]
   rintro _ _ h1 h2 rfl;exact h ⟨h2,h1⟩
 ·rename_i a b
  by_cases h:2<=a/\a<=8/\b<a
  ·rw [if_pos h];simp [Fit,rU]
   constructor
   ·rintro ⟨rfl,rfl,rfl⟩;exact⟨⟨h.1,h.2.1,h.2.2,rfl⟩,rfl,rfl⟩
   ·rintro ⟨⟨_,_,_,rfl⟩,rfl,rfl⟩;exact⟨rfl,rfl,rfl⟩
  ·rw [if_neg h];simp [Fit,rU]
   rintro h1 h2 h3 _ rfl rfl;exact h ⟨h1,h2,h3⟩
 ·rename_i a b
  by_cases h:1<=a/\a<=1000000/\b<a
  ·rw [if_pos h];simp [Fit,rU]
   constructor
   ·rintro ⟨rfl,rfl,rfl⟩;exact⟨⟨h.1,h.2.1,h.2.2,rfl⟩,rfl,rfl⟩
   ·rintro ⟨⟨_,_,_,rfl⟩,rfl,rfl⟩;exact⟨rfl,rfl,rfl⟩
  ·rw [if_neg h];simp [Fit,rU]
   rintro h1 h2 h3 _ rfl rfl;exact h ⟨h1,h2,h3⟩
 ·rename_i a
  by_cases h:1<=a/\a<=5
  ·rw [if_pos h];simp [Fit,rU]
   constructor
   ·rintro ⟨rfl,rfl,rfl⟩;exact⟨⟨rfl,h.1,h.2,rfl⟩,rfl⟩
   ·rintro ⟨⟨rfl,_,_,rfl⟩,rfl⟩;exact⟨rfl,rfl,rfl⟩
  ·rw [if_neg h];simp [Fit,rU]
   rintro _ h1 h2 _ rfl;exact h ⟨h1,h2⟩
 ·rename_i h1 h2 h3 h4 h5
  constructor
  ·intro h;cases h
  ·rintro ⟨hf,hn⟩
   rcases hf with ⟨e,_⟩ | ⟨e,_⟩ | ⟨e,_⟩ | ⟨e,_⟩ | ⟨e,_⟩<;>simp only at e<;>subst e<;>simp [rU] at hn<;>subst hn
   ·exact absurd rfl (h1 _ rfl)
   ·exact absurd rfl (h2 _ _ rfl)
   ·exact absurd rfl (h3 _ _ rfl)
   ·exact absurd rfl (h4 _ _ rfl)
   ·exact absurd rfl (h5 _ rfl)
end Go.Proofs.YtfmbebofllgmoaaGreatDoor
namespace Go.Proofs.YtfmbebofllgmoaaGreatDoor
open Go.RowKit
attribute [local go_sem ↓] Go.wp_at_zero Go.wp_at_succ
theorem bC (b:ByteArray) (h0:0<b.size) (hs:b.size<=40) (w:World) (x y:Nat) (hv:sD (b.extract 1 b.size)=some [x,y]) (hk:yI b 0=3) (hx:2<=x/\x<=8):Calls Tryz.prog 101 #[.string b] w (tM b w):=by
 have hse:(b.extract 1 b.size).size=b.size-1:=by simp [ByteArray.size_extract]
 have HM:Hid (sR b=if 2<=x/\x<=8/\y<x then some (x,y,[]) else none):=zZ (by unfold sR;rw [hv,hk];rfl)
 have hb0:((b[0]'h0).toNat:Int)=3:=by rw [<-xH b 0 h0,hk];rfl
 have HK:=zZ hk
 have HV:=zZ hv
 have HC:=zZ fun w=>vF (b.extract 1 b.size) (by omega) w
 clear hv
 go_enter Tryz.func101,Tryz.ntmps101
 go_wp2_with (go_at_call 122;(refine(zY HC _).mono ?_;rintro e w1 p1;obtain⟨f1,hl1,v1,rfl,o1⟩:=tS p1 (zY HV);have F1:=zZ f1;obtain⟨g,cap,cur,rfl,hg1,hg2,hg3,hg4,hg5,hg6⟩:=xJ o1 (by simp [zs]);have cz:=hg6 0 (by simp [zs]);have cy:=hg6 1 (by simp [zs]);simp only [zs,List.map_cons,List.map_nil,List.getD_cons_zero,List.getD_cons_succ,List.length_cons,List.length_nil,Int.ofNat_eq_natCast] at cz cy hg3 ⊢;have hg7:w.heap.size<g:=(by simp at hg1;omega);have hne:w.heap.size≠g:=(by omega);clear hg1 hg2 hg4 hg5 cur hl1 hk;obtain⟨⟨r0,r1,r2,r3⟩,rz⟩:=oT f1;clear p1 f1 o1 hg6))
 have hw:(decide ((2:Int)<=x) && decide ((x:Int)<=8))=true:=by simp;omega
 have HW:=zZ hw
 clear hw
 by_cases hy:(y:Int)<x
 ·go_region_held3 (fun w'=>w'.cell? ⟨g,0,none⟩=some (.int .i64 x)/\w'.cell? ⟨g,1,none⟩=some (.int .i64 y)) (simp [go_sem,cz,cy]) (first | (go_at_call 124;refine(sG _ _ _ _).mono ?_;rintro _ _ ⟨rfl,rfl⟩;rw [zY HW]))
  go_wp2
  exact bodyPost_ret (v:=.tuple #[.agg #[.int .i64 3,.int .i64 x,.int .i64 y,.slice none 0 0],.bool true]) (by simp [results,Tryz.results101,go_sem,r0,r1,r2,r3]) rfl (kA (o:=x) (n:=y) (fs:=[]) (by rw [zY HM,if_pos (by omega)]) (by rw [zY HK];rfl) rfl rfl (zX _ _ _ _) (uJ (zY F1) _ _ _ _).drew)
 ·go_region_held3 (fun w'=>w'.cell? ⟨g,0,none⟩=some (.int .i64 x)/\w'.cell? ⟨g,1,none⟩=some (.int .i64 y)) (simp [go_sem,cz,cy]) (first | (go_at_call 124;refine(sG _ _ _ _).mono ?_;rintro _ _ ⟨rfl,rfl⟩;rw [zY HW]))
  go_wp2
  exact bodyPost_ret (v:=.tuple #[.agg #[.int .i64 3,.int .i64 x,.int .i64 y,.slice none 0 0],.bool false]) (by simp [results,Tryz.results101,go_sem,r0,r1,r2,r3];omega) rfl (uW (by rw [zY HM,if_neg (by omega)]) (uJ (zY F1) _ _ _ _).drew)
theorem zA7 (b:ByteArray) (h0:0<b.size) (hs:b.size<=40) (w:World) (x y:Nat) (hv:sD (b.extract 1 b.size)=some [x,y]) (hk:yI b 0=4) (hx:1<=x/\x<=1000000):Calls Tryz.prog 101 #[.string b] w (tM b w):=by
 have hse:(b.extract 1 b.size).size=b.size-1:=by simp [ByteArray.size_extract]
 have HM:Hid (sR b=if 1<=x/\x<=1000000/\y<x then some (x,y,[]) else none):=zZ (by unfold sR;rw [hv,hk];rfl)
 have hb0:((b[0]'h0).toNat:Int)=4:=by rw [<-xH b 0 h0,hk];rfl
 have HK:=zZ hk
 have HV:=zZ hv
 have HC:=zZ fun w=>vF (b.extract 1 b.size) (by omega) w
 clear hv
 go_enter Tryz.func101,Tryz.ntmps101
 go_wp2_with (go_at_call 122;(refine(zY HC _).mono ?_;rintro e w1 p1;obtain⟨f1,hl1,v1,rfl,o1⟩:=tS p1 (zY HV);have F1:=zZ f1;obtain⟨g,cap,cur,rfl,hg1,hg2,hg3,hg4,hg5,hg6⟩:=xJ o1 (by simp [zs]);have cz:=hg6 0 (by simp [zs]);have cy:=hg6 1 (by simp [zs]);simp only [zs,List.map_cons,List.map_nil,List.getD_cons_zero,List.getD_cons_succ,List.length_cons,List.length_nil,Int.ofNat_eq_natCast] at cz cy hg3 ⊢;have hg7:w.heap.size<g:=(by simp at hg1;omega);have hne:w.heap.size≠g:=(by omega);clear hg1 hg2 hg4 hg5 cur hl1 hk;obtain⟨⟨r0,r1,r2,r3⟩,rz⟩:=oT f1;clear p1 f1 o1 hg6))
 have hw:(decide ((1:Int)<=x) && decide ((x:Int)<=1000000))=true:=by simp;omega
 have HW:=zZ hw
 clear hw
 by_cases hy:(y:Int)<x
 ·go_region_held3 (fun w'=>w'.cell? ⟨g,0,none⟩=some (.int .i64 x)/\w'.cell? ⟨g,1,none⟩=some (.int .i64 y)) (simp [go_sem,cz,cy]) (first | (go_at_call 124;refine(sG _ _ _ _).mono ?_;rintro _ _ ⟨rfl,rfl⟩;rw [zY HW]))
  go_wp2
  exact bodyPost_ret (v:=.tuple #[.agg #[.int .i64 4,.int .i64 x,.int .i64 y,.slice none 0 0],.bool true]) (by simp [results,Tryz.results101,go_sem,r0,r1,r2,r3]) rfl (kA (o:=x) (n:=y) (fs:=[]) (by rw [zY HM,if_pos (by omega)]) (by rw [zY HK];rfl) rfl rfl (zX _ _ _ _) (uJ (zY F1) _ _ _ _).drew)
 ·go_region_held3 (fun w'=>w'.cell? ⟨g,0,none⟩=some (.int .i64 x)/\w'.cell? ⟨g,1,none⟩=some (.int .i64 y)) (simp [go_sem,cz,cy]) (first | (go_at_call 124;refine(sG _ _ _ _).mono ?_;rintro _ _ ⟨rfl,rfl⟩;rw [zY HW]))
  go_wp2
  exact bodyPost_ret (v:=.tuple #[.agg #[.int .i64 4,.int .i64 x,.int .i64 y,.slice none 0 0],.bool false]) (by simp [results,Tryz.results101,go_sem,r0,r1,r2,r3];omega) rfl (uW (by rw [zY HM,if_neg (by omega)]) (uJ (zY F1) _ _ _ _).drew)
