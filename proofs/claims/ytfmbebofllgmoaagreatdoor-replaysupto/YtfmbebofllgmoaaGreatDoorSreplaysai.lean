/-
  PROVED HERE: the closure by which due sorts: first by time, t
-/
import Derived.Test.YtfmbebofllgmoaaGreatDoorSreplaysag
import Derived.Test.YtfmbebofllgmoaaGreatDoorSreplaysah
set_option maxHeartbeats 2000000
set_option maxRecDepth 100000
namespace Go.Proofs.YtfmbebofllgmoaaGreatDoor
open Go.Shelf Go.RowKit Go.Lib Go.Sort
attribute [local go_sem ↓] Go.wp_at_zero Go.wp_at_succ
def qI (t:TM):List Value:=[.bool t.1,.int .i64 t.2.1,.int .i64 t.2.2.1,.int .i64 t.2.2.2]
def orI (a b:Int):Int:=if a=0 then b else a
def cfT (x y:TM):Int:=orI (Lib.compareInt x.2.1 y.2.1) (Lib.compareInt x.2.2.1 y.2.2.1)
def OrRel (w:World) (a b:Int) (i:Value) (wr:World):Prop:=wr=w/\(i=.int .i64 0\/(i=.int .i64 1/\a=0)\/(i=.int .i64 2/\a=0/\b=0))
theorem or_two (B:Nat) (a b:Int) (w:World) (h0:w.cell? ⟨B,0,none⟩=some (.int .i64 a)) (h1:w.cell? ⟨B,1,none⟩=some (.int .i64 b)) :
  Calls Tryz.prog 136 #[.slice (some ⟨B,0,none⟩) 2 2] w fun e w'=>e=.returned (.int .i64 (orI a b))/\w'=w:=by
 unfold orI
 go_enter Tryz.func136,Tryz.ntmps136
 go_wp2
 go_loopw [8] (fun i wr=>OrRel w a b i wr) (fun i _=>2-(intOf i).toNat)
 case atStart=>exact⟨rfl,.inl rfl⟩
 case round=>
  obtain⟨rfl,rfl | ⟨rfl,rfl⟩ | ⟨rfl,rfl,rfl⟩⟩:=hrel
  ·by_cases ha:a=0
   ·subst ha
    go_wp2
    go_roundw
    case rel=>exact⟨rfl,.inr (.inl ⟨rfl,rfl⟩)⟩
    case measure=>simp [intOf]
   ·have hne:(a==0)=false:=by simpa using ha
    go_wp2
    go_ret
    exact⟨rfl,rfl⟩
  ·by_cases ha:b=0
   ·subst ha
    go_wp2
    go_roundw
    case rel=>exact⟨rfl,.inr (.inr ⟨rfl,rfl,rfl⟩)⟩
    case measure=>simp [intOf]
   ·have hne:(b==0)=false:=by simpa using ha
    go_wp2
    go_ret
    exact⟨rfl,rfl⟩
  ·go_wp2
   go_ret
   exact⟨rfl,rfl⟩
theorem zB9 (w:World) (o1 o2:Obj) (a b:Value) (j:Nat) (v:Value) (hj:#[a,b][j]?=some v):(((w.alloc o1).alloc o2).alloc (.cells #[a,b] 3)).drew.cell? ⟨w.heap.size+1+1,j,none⟩=some v:=by
 have h:(((w.alloc o1).alloc o2).alloc (.cells #[a,b] 3)).drew.heap[w.heap.size+1+1]?=some (.cells #[a,b] 3):=by
  have:=heap_alloc_new ((w.alloc o1).alloc o2) (.cells #[a,b] 3)
  have e:((w.alloc o1).alloc o2).heap.size=w.heap.size+1+1:=by simp
  rw [e] at this
  exact this
 rw [cell_of_row _ _ j _ 3 (0,0) h]
 exact hj
theorem zN6 (W:World) (a b c:Obj):(((W.alloc a).alloc b).alloc c).drew=grow (W.drewN 1) #[a,b,c]:=by
 have h:(((W.alloc a).alloc b).alloc c).drew=(((W.drewN 1).alloc a).alloc b).alloc c:=rfl
 rw [h,alloc_eq_grow,alloc_eq_grow,alloc_eq_grow,grow_grow,grow_grow]
 rfl
theorem zI6 (x y:TM) (W:World):Calls Tryz.prog 135 #[.agg (qI x).toArray,.agg (qI y).toArray] W fun e w'=>e=.returned (.int .i64 (cfT x y))/\∃q os',w'=grow (W.drewN q) os':=by
 have hcon:=fun a b W'=>AnyG.cmp_Compare_int cmpInt a b W'
 change ∀a b W',Calls Tryz.prog 137 _ _ _ at hcon
 obtain⟨x0,x1,x2,x3⟩:=x
 obtain⟨y0,y1,y2,y3⟩:=y
 simp only [qI,cfT]
 generalize Lib.compareInt=cf at *
 go_enter Tryz.func135,Tryz.ntmps135
 go_wp2
 go_region_held3 (fun w'=>w'.cell? ⟨W.heap.size,1,none⟩=some (.int .i64 x1)/\w'.cell? ⟨W.heap.size,2,none⟩=some (.int .i64 x2)/\w'.cell? ⟨W.heap.size+1,1,none⟩=some (.int .i64 y1)/\w'.cell? ⟨W.heap.size+1,2,none⟩=some (.int .i64 y2)) (simp [go_sem,World.cell?_alloc_past]) (first | (go_at_call 137;refine(hcon _ _ _).mono ?_;rintro e w' ⟨rfl,rfl⟩) | (go_at_call 136;refine(or_two _ (cf x1 y1) (cf x2 y2) _ (zB9 _ _ _ _ _ 0 _ rfl) (zB9 _ _ _ _ _ 1 _ rfl)).mono ?_;rintro e w' ⟨rfl,rfl⟩))
 go_wp2
 go_ret
 exact⟨rfl,1,_,zN6 W _ _ _⟩
theorem zI7 (blk off size:Nat) (w:World):CmpLays Tryz.prog 135 #[] qI 4 cfT blk off size w:=fun _ _ _ _ x y=>zI6 x y _
theorem yC4 (n:Nat) (W:World) (h:n<=12):Calls Tryz.prog 144 #[.int .u64 n] W fun e w'=>(∃l:Int,e=.returned (.int .i64 l))/\w'=W:=
 (Any.bits_Len bitsLen2 n W (by omega) (by omega)).mono fun _ _ ⟨he,hw⟩=>⟨⟨_,he⟩,hw⟩
theorem yH1 (blk off cap:Nat) (d:Array TM) (w:World) (hH:HoldsK qI 4 w blk off d) (hblk:blk<w.heap.size) (h12:d.size<=12) :
  Calls Tryz.prog 134 #[.slice (some ⟨blk,off,none⟩) d.size cap,.func (.func 135) #[] #[]] w fun e w'=>e=.returned (.tuple #[])/\∃n os,w'=sortWorldK qI 4 w blk off n (Sort.insertionSort (ltOf cfT) d 0 d.size) os:=by
 have eg:∀args w,(callFunc 135 args).run Tryz.prog w=.ok (.enter 135 args) w:=enters_of Tryz.func135 (by kernel_rfl) rfl
 exact AnyQ.slices_SortFunc_small sortT 4 Tryz.isAgg126 Tryz.sizeOf126 qI (fun _=>rfl) (fun x v hv=>by simp [qI] at hv;rcases hv with rfl | rfl | rfl | rfl<;>rfl) cfT 135 #[] blk off cap d w eg (zI7 blk off d.size w) hH hblk h12 yC4
end Go.Proofs.YtfmbebofllgmoaaGreatDoor
namespace Go.Proofs.YtfmbebofllgmoaaGreatDoor
open Go.RowKit Go.Sort
attribute [local go_sem ↓] Go.wp_at_zero Go.wp_at_succ
theorem cJ (fv:Value) (w:World):Calls Tryz.prog 147 #[.slice none 0 0,.int .i64 0,.int .i64 0,fv] w fun e w'=>e=.returned (.tuple #[])/\w'=w:=by
 go_enter Tryz.func147,Tryz.ntmps147
 go_wp2
 go_loopw [8] (fun i wr=>i=.int .i64 1/\wr=w) (fun _ _=>0)
 case atStart=>exact⟨rfl,rfl⟩
 case round=>
  obtain⟨rfl,rfl⟩:=hrel
  go_wp2
  go_end0
  exact⟨rfl,rfl⟩
theorem yM4 (lim:Int) (fv:Value) (w:World):Calls Tryz.prog 143 #[.slice none 0 0,.int .i64 0,.int .i64 0,.int .i64 lim,fv] w fun e w'=>e=.returned (.tuple #[])/\w'=w:=by
 have h:=cJ fv
 go_enter Tryz.func143,Tryz.ntmps143
 go_wp2
 go_loopw [1,2] (fun i j wr=>i=.int .i64 0/\j=.int .i64 0/\wr=w) (fun _ _ _=>0)
 case atStart=>exact⟨rfl,rfl,rfl⟩
 case round=>
  obtain⟨rfl,rfl,rfl⟩:=hrel
  go_wp2_with (go_at_call 147;refine(h _).mono ?_;rintro e w' ⟨rfl,rfl⟩)
  refine bodyPost_ret (v:=.tuple #[]) (by simp [results,Tryz.results143,go_sem]) rfl ?_
  exact⟨rfl,rfl⟩
theorem yH2 (fv:Value) (w:World):Calls Tryz.prog 134 #[.slice none 0 0,fv] w fun e w'=>e=.returned (.tuple #[])/\w'=w:=by
 have hl:=fun W=>yC4 0 W (by omega)
 simp only [Int.natCast_zero] at hl
 have hp:=fun lim W=>yM4 lim fv W
 go_enter Tryz.func134,Tryz.ntmps134
 go_wp2_with (first | (go_at_call 144;refine(hl _).mono ?_;rintro e w' ⟨⟨lim,rfl⟩,rfl⟩) | (go_at_call 143;refine(hp _ _).mono ?_;rintro e w' ⟨rfl,rfl⟩))
 go_end0
 exact⟨rfl,rfl⟩
theorem ltT (x y:TM):ltOf cfT x y=true↔(x.2.1<y.2.1\/(x.2.1=y.2.1/\x.2.2.1<y.2.2.1)):=by
 unfold ltOf cfT orI Lib.compareInt
 by_cases h1:x.2.1<y.2.1
 ·simp [h1]
 ·by_cases h2:y.2.1<x.2.1
  ·simp [h1,h2];omega
  ·have h3:x.2.1=y.2.1:=by omega
   by_cases h4:x.2.2.1<y.2.2.1
   ·simp [h3,h4]
   ·by_cases h5:y.2.2.1<x.2.2.1<;>simp [h3,h4,h5]
theorem ltF (x y:TM):ltOf cfT x y=false↔¬(x.2.1<y.2.1\/(x.2.1=y.2.1/\x.2.2.1<y.2.2.1)):=by
 rw [<-ltT];simp
theorem swoT:SWO (ltOf cfT) where
 irrefl x:=by rw [ltF];omega
 trans x y z h1 h2:=by rw [ltT] at *;omega
 ntrans x y z h1 h2:=by rw [ltF] at *;omega
theorem pY (d:Array TM):(Sort.insertionSort (ltOf cfT) d 0 d.size).size=d.size:=(insertionSort_holds (lt:=ltOf cfT) swoT d 0 d.size (Nat.zero_le _) (Nat.le_refl _)).1.1
theorem gP (w:World) (blk off n:Nat) (d:Array TM) (os:Array Obj) (q:Nat) (hq:q<w.heap.size) (hne:q≠blk):(sortWorldK qI 4 w blk off n d os).heap[q]?=w.heap[q]?:=by
 show ((w.heap.modify blk _)++os)[q]?=w.heap[q]?
 rw [Array.getElem?_append_left (by simpa using hq),Array.getElem?_modify,if_neg (Ne.symm hne)]
theorem dN (w:World) (blk off n:Nat) (d:Array TM) (os:Array Obj):w.heap.size<=(sortWorldK qI 4 w blk off n d os).heap.size:=by
 show w.heap.size<=((w.heap.modify blk _)++os).size
 simp
theorem gQ (w:World) (blk n:Nat) (d d':Array TM) (os:Array Obj) (hb:blk<w.heap.size) (h:HoldsK qI 4 w blk 0 d) (hs:d'.size=d.size):HoldsK qI 4 (sortWorldK qI 4 w blk 0 n d' os) blk 0 d':=by
 unfold sortWorldK
 exact holdsK_grow _ _ _ _ _ _ _ (by unfold putRowK;simpa using hb) (holdsK_putRowK _ _ _ _ _ d d' (holdsK_ahead _ _ _ _ _ _ _ h) hs)
theorem yL0:∃i,Tryz.prog.info? 126=some i/\i.zero=some (.agg #[.bool false,.int .i64 0,.int .i64 0,.int .i64 0])/\i.size=4/\i.bytes=32:=by
 have h:(Tryz.prog.info? 126).map (fun i=>(i.zero,i.size,i.bytes))=some (some (.agg #[.bool false,.int .i64 0,.int .i64 0,.int .i64 0]),4,32):=by kernel_rfl
 cases hi:Tryz.prog.info? 126 with
 | none=>rw [hi] at h;cases h
 | some i=>
  rw [hi] at h
  simp only [Option.map_some,Option.some.injEq,Prod.mk.injEq] at h
  exact⟨i,rfl,h.1,h.2.1,h.2.2⟩
def jC:List TM->List Value
 | []=>[]
 | t::r=>qI t++jC r
theorem aC (a b:List TM):jC (a++b)=jC a++jC b:=by
 induction a with
 | nil=>rfl
 | cons x r ih=>simp [jC,ih]
theorem zT2 (a:List TM) (i c:Nat) (hi:i<a.length) (hc:c<4):(jC a)[i*4+c]?=(qI (a.getD i (false,0,0,0)))[c]?:=by
 induction a generalizing i with
 | nil=>simp at hi
 | cons x r ih=>
  cases i with
  | zero=>
   rw [jC,List.getElem?_append_left (by simp [qI];omega)]
   simp
  | succ i=>
   rw [jC,List.getElem?_append_right (by simp [qI];omega)]
   have e:(i+1)*4+c-(qI x).length=i*4+c:=by simp [qI];omega
   rw [e,ih i (by simpa using hi)]
   simp
def OwnT (w:World) (B:Nat) (v:Value) (l:List TM):Prop:=w.ownsRow B 126 4 v l.length (jC l)
theorem zB2 {ops:Array Oper} {rest:List Oper} {o:Oper} {a:Act} {Q:Exit->Act->World->Prop} {w:World} {B:Nat} {v:Value} {l:List TM} (hgd:o.guard=none) (sv xv:Operand)
  (ho:o.op=.call {callee:=.builtin .append,args:=#[sv,xv],argTypes:=#[192,192]}) {p:Bool} {x y z:Int}
  (hs:a.eval sv=v) (hx:a.eval xv=.slice (some ⟨w.heap.size,0,none⟩) 1 1) (hrow:OwnT w B v l) (hn:l.length<=1000) (hB:B<=w.heap.size)
  (h:∀v' w',OwnT w' B v' (l++[(p,x,y,z)])->(w.alloc (.cells #[.bool p,.int .i64 x,.int .i64 y,.int .i64 z] 126)).grownBy w' v.ownBlock->wpList Tryz.prog ops Q rest (a.put o.dst v') w') :
  wpList Tryz.prog ops Q (o::rest) a (w.alloc (.cells #[.bool p,.int .i64 x,.int .i64 y,.int .i64 z] 126)):=by
 obtain⟨i,hi,hz,hs1,hby⟩:=yL0
 have hb':B<=(w.alloc (.cells #[.bool p,.int .i64 x,.int .i64 y,.int .i64 z] 126)).heap.size:=by simp;omega
 have hm:l.length+1<=maxLen:=by simp only [maxLen];omega
 have hby':(l.length+1)*32<=140737488355328:=by omega
 have hone:∀u∈[Value.bool p,.int .i64 x,.int .i64 y,.int .i64 z],u.oneCell'=true:=by simp [Value.oneCell']
 have hsz:(w.alloc (.cells #[.bool p,.int .i64 x,.int .i64 y,.int .i64 z] 126)).heap.size=w.heap.size+1:=by simp
 refine wpList_append_lies _ hgd sv xv 192 ho B 126 i _ 4 32 Tryz.underlying192 hi hz hs1 hby rfl (by omega) v l.length _ hs (hrow.alloc _) ⟨w.heap.size,0,none⟩ 1 1 [.bool p,.int .i64 x,.int .i64 y,.int .i64 z] hx rfl
  (World.news_of_block (heap_alloc_new w _)) hone (by omega) hm hby' hb' (w.heap.size+1) hsz ?_
 intro g cap w' h1 h2 _ _
 refine h _ w' ?_ h2
 unfold OwnT
 rw [List.length_append,aC]
 exact h1
def vP (s:PS) (k:Nat):List TM:=((List.range k).map s.tim).filter fun t=>t.1 && decide (t.2.1<=s.clock)
theorem zS8 (s:PS) (k:Nat):vP s (k+1)=vP s k++(if (s.tim k).1 && decide ((s.tim k).2.1<=s.clock) then [s.tim k] else []):=by
 unfold vP
 rw [List.range_succ,List.map_append,List.filter_append]
 congr 1
 simp [List.filter_cons]
theorem pW (s:PS) (k:Nat):(vP s k).length<=k:=by
 unfold vP
 have:=List.length_filter_le (fun t:TM=>t.1 && decide (t.2.1<=s.clock)) ((List.range k).map s.tim)
 simpa using this
def xW (s:PS):List TM:=(Sort.insertionSort (ltOf cfT) (vP s 8).toArray 0 (vP s 8).length).toList
def zZ9 (w:World) (v:Value) (l:List TM) (P:Nat->Prop):Prop:=
 ∃a c,v=.slice a l.length c/\(l=[]\/∃g,a=some ⟨g,0,none⟩/\P g/\∀i,i<l.length->∀c,c<4->w.cell? ⟨g,i*4+c,none⟩=some (mA (l.getD i (false,0,0,0)) c))
theorem box4 (w:World) (p:Bool) (x y z:Int) (n:Nat):((w.alloc (.cells #[.bool p,.int .i64 x,.int .i64 y,.int .i64 z] 126)).drewN n).cell? ⟨w.heap.size,0,none⟩=some (.bool p)/\
  ((w.alloc (.cells #[.bool p,.int .i64 x,.int .i64 y,.int .i64 z] 126)).drewN n).cell? ⟨w.heap.size,1,none⟩=some (.int .i64 x)/\
  ((w.alloc (.cells #[.bool p,.int .i64 x,.int .i64 y,.int .i64 z] 126)).drewN n).cell? ⟨w.heap.size,2,none⟩=some (.int .i64 y)/\
  ((w.alloc (.cells #[.bool p,.int .i64 x,.int .i64 y,.int .i64 z] 126)).drewN n).cell? ⟨w.heap.size,3,none⟩=some (.int .i64 z):=by
 have h:((w.alloc (.cells #[.bool p,.int .i64 x,.int .i64 y,.int .i64 z] 126)).drewN n).heap[w.heap.size]?=some (.cells #[.bool p,.int .i64 x,.int .i64 y,.int .i64 z] 126):=heap_alloc_new w _
 exact⟨cell_of_row _ _ 0 _ 126 (0,0) h,cell_of_row _ _ 1 _ 126 (0,0) h,cell_of_row _ _ 2 _ 126 (0,0) h,cell_of_row _ _ 3 _ 126 (0,0) h⟩
theorem fX (t:TM) (c:Nat) (hc:c<4):(qI t)[c]?=some (mA t c):=by
 have h:c=0\/c=1\/c=2\/c=3:=by omega
 rcases h with rfl | rfl | rfl | rfl<;>rfl
theorem aL {w:World} {B g n cap:Nat} {l:List TM} (h:OwnT w B (.slice (some ⟨g,0,none⟩) n cap) l):HoldsK qI 4 w g 0 l.toArray/\g<w.heap.size/\B<=g:=by
 rcases h.2 with ⟨hv,_⟩ | ⟨g',cap',cur,hv,hB,hg,h1,h2,h3,h4⟩
 ·cases hv
 cases hv
 refine⟨fun j hj=>?_,(h.lt g rfl).2,hB⟩
 have hj':j<l.length*4:=by simpa using hj
 rw [Nat.zero_add,get_flatK _ _ _ _ (by simpa using hj')]
 have hf:=zT2 l (j / 4) (j % 4) (by omega) (by omega)
 rw [show j / 4*4+j % 4=j by omega,fX _ _ (by omega)] at hf
 constructor
 ·rw [cell_of_row w g j cur 126 (0,0) hg]
  have h5:=congrArg (fun q:List Value=>q[j]?) h4
  simp only [List.getElem?_take,hj',if_true,Array.getElem?_toList] at h5
  rw [h5,hf]
  have e1:l.toArray[j / 4]! = l.getD (j / 4) (false,0,0,0):=by
   have:j / 4<l.length:=by omega
   simp [List.getD,this]
  rw [e1]
  have e2:=fX (l.getD (j / 4) (false,0,0,0)) (j % 4) (by omega)
  simp only [id]
  rw [List.getElem!_eq_getElem?_getD,e2]
  rfl
 ·simp [World.frozen?,hg]
theorem cS {w:World} {g cap:Nat} {d:Array TM} {P:Nat->Prop} (h:HoldsK qI 4 w g 0 d) (hP:P g):zZ9 w (.slice (some ⟨g,0,none⟩) d.size cap) d.toList P:=by
 refine⟨some ⟨g,0,none⟩,cap,by simp,.inr ⟨g,rfl,hP,fun i hi c hc=>?_⟩⟩
 have h1:=(h.cell (i:=i) (c:=c) (by simpa using hi) hc).1
 rw [Nat.zero_add] at h1
 rw [h1,List.getElem!_eq_getElem?_getD,fX _ _ hc]
 have e1:d[i]! = d.toList.getD i (false,0,0,0):=by
  have:i<d.size:=by simpa using hi
  simp [List.getD,this]
 rw [e1]
 rfl
section
variable {σ:Type} {SA:(Nat->Prop)->World->σ->Prop} {B:Nat} {S T:Nat->Prop} {w:World} {b:Nat} {pv:Nat->Value} {vt:Value} {s:PS} {x:σ}
theorem yK3 (L:xC SA) (h:RI SA B S w b pv vt T s x) :
  Calls Tryz.prog 116 #[.pointer (some ⟨b,0,none⟩)] w fun e w'=>∃v,e=.returned v/\zZ9 w' v (xW s) (fun g=>w.heap.size<=g/\g<w'.heap.size/\¬S g)/\RI SA B S w' b pv vt T s x/\Fr S w w' S:=by
 have hra:=zZ h.range
 have hlen:(oX s.tim).length=32:=mV _
 have hinf:(Tryz.prog.info? 127).map (·.size)=some (oX s.tim).length:=by rw [hlen];exact zP8
 have hix:=bB s.tim
 have hSz:∀k,S k->k<w.heap.size:=fun k hk=>(h.bound k hk).2
 have H:=zZ h
 have HL:=zZ hinf
 have HX:=zZ hix
 have HZ:=zZ hSz
 clear h hinf hix hlen hSz
 generalize hA:oX s.tim=A at *
 have HA:=zZ hA
 clear hA
 go_enter Tryz.func116,Tryz.ntmps116
 go_wp2_with (refine wpList_load_mid rfl 127 (.tmp 8) rfl b 23 rfl A _ (zY hra) Tryz.underlying127 rfl (zY HL) ?_)
 clear HL hra
 go_loopw [3,10] (fun u i wr=>∃k:Nat,k<=8/\i=.int .i64 k/\OwnT wr w.heap.size u (vP s k)/\RI SA B S wr b pv vt T s x/\Fr S w wr S) (fun _ i _=>8-(intOf i).toNat)
 case atStart=>exact⟨0,Nat.zero_le _,rfl,zX _ _ _ _,zY H,Fr.refl S w⟩
 case round=>
  obtain⟨k,hk,rfl,ho,r1,r2⟩:=hrel
  by_cases hlt:k<8
  ·have ix:=fun w=>(zY HX) k hlt w
   have hsu:=zS8 s k
   have hle:=pW s k
   have cc:=(r1.cell 22 (by omega)).trans (by rw [uP])
   have hbw:=(r1.bound b r1.inB).2
   obtain⟨n1,n2⟩:=uL hbw
   have hsz:w.heap.size<=wr.heap.size:=r2.size
   have HNE:=zZ (ho.lt)
   have HO:=zZ ho
   have R1:=zZ r1
   have R2:=zZ r2
   have HSU:=zZ hsu
   have HLE:=zZ hle
   clear r1 r2 ho hsu hle
   generalize hgt:s.tim k=t at *
   obtain⟨t0,t1,t2,t3⟩:=t
   simp only at ix
   have HGT:=zZ hgt
   clear hgt
   cases t0
   ·go_wp2
    go_quiet (fail)
    go_wp2
    go_roundw
    case rel=>
     refine⟨k+1,by omega,by go_num,?_,((zY R1).alloc L _).drewN L nq,((zY R2).alloc _).drewN nq⟩
     rw [zY HSU]
     simp only [Bool.false_and,Bool.false_eq_true,if_false,List.append_nil]
     exact((zY HO).alloc _)
    case measure=>simp [intOf];omega
   ·by_cases hdue:t1<=s.clock
    ·have hd:decide (t1<=s.clock)=true:=by simpa using hdue
     go_wp2
     go_quiet (fail)
     obtain⟨e0,e1,e2,e3⟩:=box4 wr true t1 t2 t3 nq
     have q1:=zZ (((zY R1).alloc L (.cells #[.bool true,.int .i64 t1,.int .i64 t2,.int .i64 t3] 126)).drewN L nq)
     have q2:=zZ (((zY R2).alloc (.cells #[.bool true,.int .i64 t1,.int .i64 t2,.int .i64 t3] 126)).drewN nq)
     have q3:=zZ (show OwnT ((wr.alloc (.cells #[.bool true,.int .i64 t1,.int .i64 t2,.int .i64 t3] 126)).drewN nq) w.heap.size u3 (vP s k) from (zY HO).alloc _)
     generalize (wr.alloc (.cells #[.bool true,.int .i64 t1,.int .i64 t2,.int .i64 t3] 126)).drewN nq=W1 at *
     have hsz1:w.heap.size<=W1.heap.size:=(zY q2).size
     go_wp2_with (at_builtin;refine zB2 rfl (.tmp 24) (.tmp 26) rfl rfl rfl (zY q3) (by have:=zY HLE;omega) hsz1 ?_;intro v' w' o' g')
     go_roundw
     case rel=>
      have hro:∀j,Value.ownBlock u3=some j->w.heap.size<=j:=fun j hj=>((zY HNE) j hj).1
      refine⟨k+1,by omega,by go_num,?_,((zY q1).alloc L _).grown L g' (fun j hj hs=>?_),((zY q2).alloc _).grown g' hro⟩
      ·rw [zY HSU,hd]
       simpa using o'
      ·have h1:=hro j hj
       have h2:=zY HZ j hs
       omega
     case measure=>simp [intOf];omega
    ·have hd:decide (t1<=s.clock)=false:=by simpa using hdue
     go_wp2
     go_quiet (fail)
     go_wp2
     go_roundw
     case rel=>
      refine⟨k+1,by omega,by go_num,?_,((zY R1).alloc L _).drewN L nq,((zY R2).alloc _).drewN nq⟩
      rw [zY HSU,hd]
      simp only [Bool.and_false,Bool.false_eq_true,if_false,List.append_nil]
      exact((zY HO).alloc _)
     case measure=>simp [intOf];omega
  ·obtain rfl:k=8:=by omega
   have hsh:(u3=.slice none 0 0/\(vP s 8).length=0)\/∃g cap,u3=.slice (some ⟨g,0,none⟩) (vP s 8).length cap:=by
    rcases ho.2 with hv | ⟨g,cap,cur,hv,_⟩
    ·exact .inl hv
    ·exact .inr ⟨g,cap,hv⟩
   rcases hsh with ⟨rfl,h0⟩ | ⟨g,cap,rfl⟩
   ·have hd:xW s=[]:=by
     have h1:=List.length_eq_zero_iff.1 h0
     unfold xW
     have h2:=pY (vP s 8).toArray
     rw [h1] at h2 ⊢
     exact List.length_eq_zero_iff.1 h2
    have R1:=zZ r1
    have R2:=zZ r2
    have HD:=zZ hd
    have hs:=fun fv=>yH2 fv wr
    have HS:=zZ hs
    clear r1 r2 ho h0 hd hs
    go_wp2_with (go_at_call 134;refine(zY HS _).mono ?_;rintro e w' ⟨rfl,rfl⟩)
    go_ret
    exact⟨_,rfl,⟨none,0,by rw [zY HD];rfl,.inl (zY HD)⟩,zY R1,zY R2⟩
   ·obtain⟨hh,hg,hB⟩:=aL ho
    have hs:=yH1 g 0 cap (vP s 8).toArray wr hh hg (by have:=pW s 8;simp;omega)
    have hz:=pY (vP s 8).toArray
    have hgS:¬S g:=fun hs=>by have:=(zY HZ) g hs;omega
    have R1:=zZ r1
    have R2:=zZ r2
    have HS:=zZ hs
    have HH:=zZ hh
    have hds:xW s=(Sort.insertionSort (ltOf cfT) (vP s 8).toArray 0 (vP s 8).toArray.size).toList:=rfl
    generalize Sort.insertionSort (ltOf cfT) (vP s 8).toArray 0 (vP s 8).toArray.size=d' at *
    have hlen:(vP s 8).length=d'.size:=by simpa using hz.symm
    have HD:=zZ hds
    have HZS:=zZ hz
    have HLN:=zZ hlen
    clear r1 r2 ho hs hh hz hds hlen
    go_wp2_with (go_at_call 134;refine(zY HS).mono ?_;rintro e w' ⟨rfl,n,os,hw'⟩;have HW:=zZ hw';clear hw')
    go_ret
    obtain rfl:=zY HW
    have hsz:=dN wr g 0 n d' os
    have hbl:=gP wr g 0 n d' os
    have hfr:Fr S w (sortWorldK qI 4 wr g 0 n d' os) S:=by
     have r2:=zY R2
     exact⟨r2.os,r2.tape,r2.output,Nat.le_trans r2.size hsz,fun q hq hn=>(hbl q (zT hq r2.size) (by omega)).trans (r2.same q hq hn),r2.old⟩
    refine⟨_,rfl,?_,(zY R1).kept L (fun q hq=>hbl q ((zY R1).bound q hq).2 (fun e=>hgS (e▸hq))) hsz,hfr⟩
    have ht:=cS (cap:=cap) (P:=fun q=>w.heap.size<=q/\q<(sortWorldK qI 4 wr g 0 n d' os).heap.size/\¬S q) (gQ wr g n _ d' os hg (zY HH) (zY HZS)) ⟨hB,zT hg hsz,hgS⟩
    rw [zY HD,zY HLN]
    exact ht
end
