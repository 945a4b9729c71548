/-
  PROVED HERE: the reference's varint. the reference's Sum and 
-/
import Derived.Laws.BytesString
import Derived.Test.YtfmbebofllgmoaaGreatDoorSreplaysaj
set_option maxHeartbeats 1000000
set_option maxRecDepth 20000
namespace Go.Proofs.YtfmbebofllgmoaaGreatDoor
open Go.RowKit
attribute [local go_sem ↓] Go.wp_at_zero Go.wp_at_succ
theorem zC4 (w:World) (g:Nat) (z:Int) (h:w.cell? ⟨g,0,none⟩=some (.int .u8 z)):(convert 54 9 (.slice (some ⟨g,0,none⟩) 1 1)).run Tryz.prog w=.ok (.string (ByteArray.empty.push (UInt8.ofNat z.toNat))) w:=by
 rw [run_convert_bytes_string w 54 9 5 _ _ _ Tryz.underlying54 Tryz.underlying5 Tryz.underlying9]
 refine run_bytesToString w ⟨g,0,none⟩ 1 1 [z] ?_
 go_simp
theorem zA9 (n:Nat) (w:World) (h:n<128):Calls Tryz.prog 132 #[.int .i64 n] w fun e w'=>e=.returned (.string (ByteArray.empty.push (UInt8.ofNat n)))/\Fr (fun _=>False) w w' (fun _=>False):=by
 have hlt:(n:Int)<128:=by omega
 have hwr:IntKind.u8.wrap (n:Int)=n:=by simp [IntKind.wrap,IntKind.bits,IntKind.signed];omega
 have hcv:=zC4 (w.alloc (.cells #[.int .u8 n] 5)) w.heap.size n (cell_of_row _ _ 0 _ 5 (0,0) (heap_alloc_new w _))
 rw [Int.toNat_natCast] at hcv
 go_enter Tryz.func132,Tryz.ntmps132
 go_wp2
 go_ret
 exact⟨rfl,(Fr.refl _ w).alloc _⟩
def zA8:Nat->Nat->ByteArray
 | 0,n=>ByteArray.empty.push (UInt8.ofNat n)
 | f+1,n=>if n<128 then ByteArray.empty.push (UInt8.ofNat n) else ByteArray.empty.push (UInt8.ofNat (n % 128+128))++zA8 f (n / 128)
def xN (n:Nat):ByteArray:=zA8 n n
theorem bQ:∀(f g n:Nat),n<=f->n<=g->zA8 f n=zA8 g n
 | 0,0,_,_,_=>rfl
 | 0,g+1,n,h,_=>by
  have:n=0:=by omega
  subst this;simp [zA8]
 | f+1,0,n,_,h=>by
  have:n=0:=by omega
  subst this;simp [zA8]
 | f+1,g+1,n,h,h'=>by
  simp only [zA8]
  by_cases hn:n<128
  ·rw [if_pos hn,if_pos hn]
  ·rw [if_neg hn,if_neg hn,bQ f g (n / 128) (by omega) (by omega)]
theorem sK (n:Nat):xN n=if n<128 then ByteArray.empty.push (UInt8.ofNat n) else ByteArray.empty.push (UInt8.ofNat (n % 128+128))++xN (n / 128):=by
 unfold xN
 cases n with
 | zero=>simp [zA8]
 | succ m=>
  conv=>lhs;unfold zA8
  by_cases hn:m+1<128
  ·rw [if_pos hn,if_pos hn]
  ·rw [if_neg hn,if_neg hn,bQ m ((m+1) / 128) ((m+1) / 128) (by omega) (Nat.le_refl _)]
theorem lV (n:Nat):1<=(xN n).size/\(xN n).size<=n+1:=by
 induction n using Nat.strongRecOn with
 | _ n ih=>
  rw [sK]
  by_cases h:n<128
  ·rw [if_pos h];simp
  ·rw [if_neg h]
   have:=ih (n / 128) (by omega)
   simp [ByteArray.size_append]
   omega
theorem zH0 (n:Nat) (hn:128<=n) (hm:n<4611686018427387904) (ih:∀w,Calls Tryz.prog 132 #[.int .i64 (n / 128:Nat)] w fun e w'=>e=.returned (.string (xN (n / 128)))/\Fr (fun _=>False) w w' (fun _=>False)) (w:World) :
  Calls Tryz.prog 132 #[.int .i64 n] w fun e w'=>e=.returned (.string (xN n))/\Fr (fun _=>False) w w' (fun _=>False):=by
 have hlt:¬(n:Int)<128:=by omega
 have hv:xN n=ByteArray.empty.push (UInt8.ofNat (n % 128+128))++xN (n / 128):=by rw [sK,if_neg (by omega)]
 have hmod:((n:Int)).tmod 128=((n % 128:Nat):Int):=by rw [Int.tmod_eq_emod_of_nonneg (by omega)];omega
 have hdiv:((n:Int)).tdiv 128=((n / 128:Nat):Int):=by rw [Int.tdiv_eq_ediv_of_nonneg (by omega)];omega
 have hql:n / 128<4611686018427387904:=by omega
 have hRs:=(lV (n / 128)).2
 rw [hv]
 generalize xN (n / 128)=R at *
 generalize n / 128=q at *
 have hr:n % 128<128:=by omega
 generalize n % 128=r at *
 have hw1:IntKind.i64.wrap ((r:Int)+128)=(r:Int)+128:=by rw [IntKind.wrap_i64];omega
 have hw3:IntKind.i64.wrap (q:Int)=q:=by rw [IntKind.wrap_i64];omega
 have hw2:IntKind.u8.wrap ((r:Int)+128)=(r:Int)+128:=by simp [IntKind.wrap,IntKind.bits,IntKind.signed];omega
 have hcv:=fun W g=>zC4 W g ((r:Int)+128)
 have hz:((r:Int)+128).toNat=r+128:=by omega
 rw [hz] at hcv
 generalize hP1:ByteArray.empty.push (UInt8.ofNat (r+128))=P1 at *
 have hsz:¬9223372036854775807<P1.size+R.size:=by
  have:P1.size=1:=by rw [<-hP1];simp
  omega
 clear hv hz hm hql hP1 hRs
 go_enter Tryz.func132,Tryz.ntmps132
 go_wp2
 go_region_with (go_at_call 132;refine(ih _).mono ?_;rintro e w' ⟨rfl,fr⟩;have ck:=fun j hj=>fr.cell j 0 hj (fun h=>h);have FR:=zZ fr;clear fr)
 all_goals
  go_wp2
  go_ret
  refine⟨rfl,?_⟩
  first
   | exact(((Fr.refl _ w).alloc _).drew.trans (zY FR))
   | exact((Fr.refl _ w).drew.trans (zY FR)).alloc _
   | exact(((Fr.refl _ w).drew.alloc _).trans (zY FR))
theorem sP (n:Nat) (hm:n<4611686018427387904):∀w:World,Calls Tryz.prog 132 #[.int .i64 n] w fun e w'=>e=.returned (.string (xN n))/\Fr (fun _=>False) w w' (fun _=>False):=by
 induction n using Nat.strongRecOn with
 | _ n ih=>
  intro w
  by_cases h:n<128
  ·rw [sK,if_pos h];exact zA9 n w h
  ·exact zH0 n (by omega) hm (fun w=>ih (n / 128) (by omega) (by omega) w) w
def zR1 (z:Int) (b:UInt8):Int:=bits BinOp.xor IntKind.u32 z ((b.toNat:Int) % 4294967296)*16777619 % 4294967296
def iN (l:List UInt8):Int:=l.foldl zR1 2166136261
def b4 (z:Int):ByteArray:=(((ByteArray.empty.push (UInt8.ofNat (z / 16777216 % 256).toNat)).push (UInt8.ofNat (z / 65536 % 256).toNat)).push (UInt8.ofNat (z / 256 % 256).toNat)).push (UInt8.ofNat (z % 256).toNat)
def pP (s:ByteArray):ByteArray:=b4 (iN s.data.toList)
theorem conv4 (w:World) (g:Nat) (a b c d:Int) (h0:w.cell? ⟨g,0,none⟩=some (.int .u8 a)) (h1:w.cell? ⟨g,1,none⟩=some (.int .u8 b)) (h2:w.cell? ⟨g,2,none⟩=some (.int .u8 c)) (h3:w.cell? ⟨g,3,none⟩=some (.int .u8 d)) :
  (convert 54 9 (.slice (some ⟨g,0,none⟩) 4 4)).run Tryz.prog w=.ok (.string ((((ByteArray.empty.push (UInt8.ofNat a.toNat)).push (UInt8.ofNat b.toNat)).push (UInt8.ofNat c.toNat)).push (UInt8.ofNat d.toNat))) w:=by
 rw [run_convert_bytes_string w 54 9 5 _ _ _ Tryz.underlying54 Tryz.underlying5 Tryz.underlying9]
 refine run_bytesToString w ⟨g,0,none⟩ 4 4 [a,b,c,d] ?_
 go_simp
theorem bN (l:List UInt8) (k:Nat) (h:k<l.length):iN (l.take (k+1))=zR1 (iN (l.take k)) l[k]:=by
 unfold iN
 rw [List.take_succ_eq_append_getElem h,List.foldl_append]
 rfl
def zZ8 (s:ByteArray) (w:World) (h i:Value) (wr:World):Prop:=wr=w/\∃k:Nat,k<=s.size/\i=.int .i64 k/\h=.int .u32 (iN (s.data.toList.take k))
theorem zR2 (s:ByteArray) (hs:s.size<4611686018427387904) (w:World):Calls Tryz.prog 76 #[.string s] w fun e w'=>e=.returned (.string (pP s))/\Fr (fun _=>False) w w' (fun _=>False):=by
 go_enter Tryz.func76,Tryz.ntmps76
 go_wp2
 go_loopw [3,4] (fun h i wr=>zZ8 s w h i wr) (fun _ i _=>s.size-(intOf i).toNat)
 case atStart=>exact⟨rfl,0,Nat.zero_le _,rfl,rfl⟩
 case round=>
  obtain⟨rfl,k,hk,rfl,rfl⟩:=hrel
  by_cases hlt:k<s.size
  ·have hz:=bN s.data.toList k (by rw [Array.length_toList];exact hlt)
   have HZ:=zZ hz
   clear hz
   generalize iN (s.data.toList.take k)=z at *
   go_wp2
   go_roundw
   case rel=>
    refine⟨rfl,k+1,hlt,by go_num,?_⟩
    rw [zY HZ]
    rfl
   case measure=>simp [intOf];omega
  ·have e:s.data.toList.take k=s.data.toList:=List.take_of_length_le (by rw [Array.length_toList];exact Nat.le_of_not_lt hlt)
   have hS:pP s=b4 (iN s.data.toList):=rfl
   rw [e]
   generalize iN s.data.toList=z at *
   have hrow:=heap_alloc_new wr (.cells #[.int .u8 (z / 16777216 % 256),.int .u8 (z / 65536 % 256),.int .u8 (z / 256 % 256),.int .u8 (z % 256)] 5)
   have hcv:=conv4 (wr.alloc (.cells #[.int .u8 (z / 16777216 % 256),.int .u8 (z / 65536 % 256),.int .u8 (z / 256 % 256),.int .u8 (z % 256)] 5)) wr.heap.size _ _ _ _ (cell_of_row _ _ 0 _ 5 (0,0) hrow) (cell_of_row _ _ 1 _ 5 (0,0) hrow) (cell_of_row _ _ 2 _ 5 (0,0) hrow) (cell_of_row _ _ 3 _ 5 (0,0) hrow)
   change _=Result.ok (Value.string (b4 z)) _ at hcv
   generalize b4 z=R at *
   have HS:=zZ hS
   clear hrow hS e
   go_wp2
   go_ret
   rw [zY HS]
   exact⟨rfl,(Fr.refl _ wr).alloc _⟩
def yS (s:ByteArray):ByteArray:=xN s.size++s++pP s
theorem bA (s:ByteArray) (hs:s.size<1000000) (w:World):Calls Tryz.prog 130 #[.string s] w fun e w'=>e=.returned (.string (yS s))/\Fr (fun _=>False) w w' (fun _=>False):=by
 have h1:=sP s.size (by omega)
 have h2:=zR2 s (by omega)
 have hv:=(lV s.size).2
 have h4:(pP s).size=4:=by unfold pP b4;simp
 have hf:yS s=xN s.size++s++pP s:=rfl
 generalize xN s.size=V at *
 generalize pP s=U at *
 generalize yS s=R at *
 have hz1:¬9223372036854775807<V.size+s.size:=by omega
 have hz2:¬9223372036854775807<V.size+s.size+U.size:=by omega
 have HF:=zZ hf
 clear hv h4 hs hf
 go_enter Tryz.func130,Tryz.ntmps130
 go_wp2_with (first | (go_at_call 132;refine(h1 _).mono ?_;rintro e w1 ⟨rfl,f1⟩;have F1:=zZ f1;clear f1) | (go_at_call 76;refine(h2 _).mono ?_;rintro e w2 ⟨rfl,f2⟩;have F2:=zZ f2;clear f2))
 go_ret
 rw [zY HF]
 exact⟨rfl,(zY F1).trans (zY F2)⟩
def one (k:Nat):ByteArray:=ByteArray.empty.push (UInt8.ofNat k)
def yT (k:Nat) (o n:Nat):ByteArray:=if k=3\/k=4 then one k++xN o++xN n else one k++xN n
def uI (l:List Int) (r:ByteArray):ByteArray:=l.foldl (fun r z=>r++xN z.toNat) r
def uZ (l:List Int):ByteArray:=uI l (one 2++xN l.length)
theorem uA (n:Nat) (h:n<4611686018427387904):(xN n).size<=64:=by
 have g:∀(k n:Nat),n<128 ^ k->(xN n).size<=k+1:=by
  intro k
  induction k with
  | zero=>
    intro n hn;have:n=0:=by omega
    subst this;rw [sK,if_pos (by omega)];simp
  | succ k ih=>
   intro n hn
   rw [sK]
   by_cases h:n<128
   ·rw [if_pos h];simp
   ·rw [if_neg h]
    have:=ih (n / 128) (by rw [Nat.pow_succ] at hn;omega)
    simp [ByteArray.size_append]
    omega
 have:=g 9 n (by omega)
 omega
theorem mD (k:Nat) (o n:Nat) (fv:Value) (a:Option Addr) (l c:Nat) (hfv:fv=.slice a l c) (hk:k=1\/k=5) (hn:n<4611686018427387904) (w:World) :
  Calls Tryz.prog 112 #[.agg #[.int .i64 k,.int .i64 o,.int .i64 n,fv]] w fun e w'=>e=.returned (.string (yT k o n))/\Fr (fun _=>False) w w' (fun _=>False):=by
 subst hfv
 have h1:=sP n hn
 have hs:=uA n hn
 have hb:yT k o n=one k++xN n:=by unfold yT;rw [if_neg (by omega)]
 have hz:¬9223372036854775807<(one k).size+(xN n).size:=by
  have:(one k).size=1:=by unfold one;simp
  omega
 have hwr:IntKind.u8.wrap (k:Int)=k:=by rcases hk with rfl | rfl<;>rfl
 have hk2:((k:Int)==2)=false:=by rcases hk with rfl | rfl<;>rfl
 have hk3:((k:Int)==3)=false:=by rcases hk with rfl | rfl<;>rfl
 have hk4:((k:Int)==4)=false:=by rcases hk with rfl | rfl<;>rfl
 have hcv:∀W:World,∀g,W.cell? ⟨g,0,none⟩=some (.int .u8 k)->(convert 54 9 (.slice (some ⟨g,0,none⟩) 1 1)).run Tryz.prog W=.ok (.string (one k)) W:=fun W g h=>by
  have:=zC4 W g k h
  rw [Int.toNat_natCast] at this
  exact this
 generalize xN n=V at *
 generalize one k=O at *
 have HB:=zZ hb
 clear hb hs hk hn
 go_enter Tryz.func112,Tryz.ntmps112
 go_wp2_with (go_at_call 132;refine(h1 _).mono ?_;rintro e w1 ⟨rfl,f1⟩;have F1:=zZ f1;clear f1)
 go_ret
 rw [zY HB]
 exact⟨rfl,(((Fr.refl _ w).alloc _).alloc _).trans (zY F1)⟩
theorem kX (k:Nat) (o n:Nat) (fv:Value) (a:Option Addr) (l c:Nat) (hfv:fv=.slice a l c) (hk:k=3\/k=4) (hn:n<4611686018427387904) (ho:o<4611686018427387904) (w:World) :
  Calls Tryz.prog 112 #[.agg #[.int .i64 k,.int .i64 o,.int .i64 n,fv]] w fun e w'=>e=.returned (.string (yT k o n))/\Fr (fun _=>False) w w' (fun _=>False):=by
 subst hfv
 have h1:=sP n hn
 have h2:=sP o ho
 have hs:=uA n hn
 have hs2:=uA o ho
 have hb:yT k o n=one k++xN o++xN n:=by unfold yT;rw [if_pos hk]
 have h1s:(one k).size=1:=by unfold one;simp
 have hz:¬9223372036854775807<(one k).size+(xN o).size:=by omega
 have hz2:¬9223372036854775807<(one k).size+(xN o).size+(xN n).size:=by omega
 have hwr:IntKind.u8.wrap (k:Int)=k:=by rcases hk with rfl | rfl<;>rfl
 have hk2:((k:Int)==2)=false:=by rcases hk with rfl | rfl<;>rfl
 have hcv:∀W:World,∀g,W.cell? ⟨g,0,none⟩=some (.int .u8 k)->(convert 54 9 (.slice (some ⟨g,0,none⟩) 1 1)).run Tryz.prog W=.ok (.string (one k)) W:=fun W g h=>by
  have:=zC4 W g k h
  rw [Int.toNat_natCast] at this
  exact this
 have hc1:∀m:Nat,m<4611686018427387904->∀W:World,Fr (fun _=>False) w W (fun _=>False)->Calls Tryz.prog 132 #[.int .i64 m] W fun e w'=>e=.returned (.string (xN m))/\Fr (fun _=>False) W w' (fun _=>False)/\Fr (fun _=>False) w w' (fun _=>False):=fun m hm W hW=>(sP m hm W).mono fun _ _ ⟨he,hf⟩=>⟨he,hf,hW.trans hf⟩
 have F1:=zZ (((Fr.refl (fun _=>False) w).alloc (.cells #[.int .i64 k,.int .i64 o,.int .i64 n,.slice a l c] 49)).alloc (.cells #[.int .u8 k] 5))
 generalize one k=O at *
 generalize hvS:xN=vS at *
 have HB:=zZ hb
 have HN:=zZ hn
 have HO:=zZ ho
 have HC:=zZ hc1
 clear hb hs hs2 h1s h1 h2 hc1 hvS hn ho
 rcases hk with rfl | rfl
 focus
  have hk3:(((3:Nat):Int)==3)=true:=rfl
 rotate_left
 focus
  have hk3:(((4:Nat):Int)==3)=false:=rfl
  have hk4:(((4:Nat):Int)==4)=true:=rfl
 rotate_left
 all_goals
  go_enter Tryz.func112,Tryz.ntmps112
  go_wp2
  go_region_with (go_at_call 132;refine(zY HC _ (by first | exact zY HO | exact zY HN) _ (by first | exact zY F1 | exact(zY F1).drew)).mono ?_;rintro e w1 ⟨rfl,f1,f2⟩;have ck:=fun j q hj=>f1.cell j q hj (fun h=>h);have F1:=zZ f2;clear f1 f2)
  all_goals
   go_wp2
   refine bodyPost_ret (v:=.string (O++vS o++vS n)) (by simp [results,Tryz.results112,go_sem,Act.put]) rfl ?_
   rw [zY HB]
   exact⟨rfl,by first | exact zY F1 | exact(zY F1).drew⟩
theorem iX (l:List Int) (r:ByteArray) (k:Nat) (h:k<l.length):uI (l.take (k+1)) r=uI (l.take k) r++xN l[k].toNat:=by
 unfold uI
 rw [List.take_succ_eq_append_getElem h,List.foldl_append]
 rfl
theorem zS2 {w w1:World} {S':Nat->Prop} {o1 o2:Obj} (f1:Fr (fun _=>False) ((w.alloc o1).alloc o2) w1 S'):w.heap.size<w1.heap.size:=by
 have:=f1.size
 simp at this
 omega
theorem zS6 {w w1:World} {S':Nat->Prop} {o2:Obj} {x0 x1 x2 x3:Value} (f1:Fr (fun _=>False) ((w.alloc (.cells #[x0,x1,x2,x3] 49)).alloc o2) w1 S'):w1.cell? ⟨w.heap.size,3,none⟩=some x3:=by
 have z3:(w.alloc (.cells #[x0,x1,x2,x3] 49)).heap.size=w.heap.size+1:=by simp
 have h1:((w.alloc (.cells #[x0,x1,x2,x3] 49)).alloc o2).heap[w.heap.size]?=some (.cells #[x0,x1,x2,x3] 49):=(zR _ _ _ (by rw [z3];omega)).trans (heap_alloc_new w _)
 rw [f1.cell _ _ (by simp;omega) (fun h=>h)]
 exact cell_of_row _ _ 3 _ 49 (0,0) h1
def yI6 (l:List Int) (r0:ByteArray) (w:World) (u i:Value) (wr:World):Prop:=∃(k:Nat),k<=l.length/\i=.int .i64 k/\u=.string (uI (l.take k) r0)/\(uI (l.take k) r0).size<=100+64*k/\Fr (fun _=>False) w wr (fun _=>False)
theorem kM (o n:Int) (fv:Value) (l:List Int) {P:Nat->Prop} (w:World) (hP:∀q,P q->q<w.heap.size) (hl:yJ w fv l P) (h8:l.length<=8) (hz:∀z,z∈l->0<=z/\z<8) :
  Calls Tryz.prog 112 #[.agg #[.int .i64 2,.int .i64 o,.int .i64 n,fv]] w fun e w'=>e=.returned (.string (uZ l))/\Fr (fun _=>False) w w' (fun _=>False):=by
 obtain⟨a,c,rfl,hc⟩:=hl
 have hlen:l.length<4611686018427387904:=by omega
 have hs2:=uA l.length hlen
 have h1s:(one 2).size=1:=by unfold one;simp
 have hzz:¬9223372036854775807<(one 2).size+(xN l.length).size:=by omega
 have hr0:(one 2++xN l.length).size<=100:=by rw [ByteArray.size_append];omega
 have hcv:∀W:World,∀g,W.cell? ⟨g,0,none⟩=some (.int .u8 2)->(convert 54 9 (.slice (some ⟨g,0,none⟩) 1 1)).run Tryz.prog W=.ok (.string (one 2)) W:=fun W g h=>zC4 W g 2 h
 have hbs:uZ l=uI l (one 2++xN l.length):=rfl
 have h1:=sP l.length hlen
 have h2:∀m:Nat,m<8->∀W,Calls Tryz.prog 132 #[.int .i64 m] W fun e w'=>e=.returned (.string (xN m))/\Fr (fun _=>False) W w' (fun _=>False):=fun m hm=>sP m (by omega)
 have h3:∀m:Nat,m<8->(xN m).size<=64:=fun m hm=>uA m (by omega)
 generalize one 2=O at *
 generalize hvl:xN l.length=V at *
 have HC:=zZ hc
 have HP:=zZ hP
 have HZ:=zZ hz
 have H2:=zZ h2
 have H3:=zZ h3
 have HR0:=zZ hr0
 have HBS:=zZ hbs
 clear hc hP hz h2 h3 hr0 hbs hs2 h1s hvl hlen
 go_enter Tryz.func112,Tryz.ntmps112
 go_wp2_with (go_at_call 132;refine(h1 _).mono ?_;rintro e w1 ⟨rfl,f1⟩;have C3:=zZ (zS6 f1);have F1:=zZ ((((Fr.refl (fun _=>False) w).alloc _).alloc _).trans f1);have hsz:=zS2 f1;clear f1)
 go_loopw [3,4] (fun u i wr=>yI6 l (O++V) w1 u i wr) (fun _ i _=>l.length-(intOf i).toNat)
 case atStart=>exact⟨0,Nat.zero_le _,rfl,rfl,zY HR0,Fr.refl _ w1⟩
 case round=>
  obtain⟨k,hk,rfl,rfl,hsize,hf⟩:=hrel
  have c3:=(hf.cell w.heap.size 3 hsz (fun h=>h)).trans (zY C3)
  by_cases hlt:k<l.length
  ·rcases zY HC with hz | ⟨q,off,rfl,hq,hcell⟩
   ·rw [hz] at hlt;simp at hlt
   have cz:=(((zY F1).trans hf).cell q (off+k) (zY HP q hq) (fun h=>h)).trans (hcell k hlt)
   have hget:l.getD k 0=l[k]:=by simp [List.getD,hlt]
   rw [hget] at cz
   have HSU:=zZ (iX l (O++V) k hlt)
   obtain⟨z0,z8⟩:=zY HZ l[k] (List.getElem_mem hlt)
   have HF:=zZ hf
   clear hcell hget hf
   generalize l[k]=z at *
   obtain⟨m,rfl⟩ : ∃m:Nat,z=m:=⟨z.toNat,by omega⟩
   have hvs:=zY H3 m (by omega)
   have h7:=zY H2 m (by omega)
   rw [Int.toNat_natCast] at HSU
   generalize xN m=U at *
   generalize uI (l.take k) (O++V)=R at *
   have hzR:¬9223372036854775807<R.size+U.size:=by omega
   have HSZ:=zZ hsize
   have HVS:=zZ hvs
   clear hsize hvs
   go_wp2_with (go_at_call 132;refine(h7 _).mono ?_;rintro e w2 ⟨rfl,f2⟩;have F2:=zZ f2;clear f2)
   go_roundw
   case rel=>
    have h5:=zY HSZ
    have h6:=zY HVS
    refine⟨k+1,by omega,by go_num,by rw [zY HSU],by rw [zY HSU,ByteArray.size_append];omega,(zY HF).trans (zY F2)⟩
   case measure=>simp [intOf];omega
  ·have e:l.take k=l:=List.take_of_length_le (by omega)
   rw [e] at hsize ⊢
   have hb:=zY HBS
   generalize uI l (O++V)=R at *
   have HB:=zZ hb
   clear hb hsize e
   go_wp2
   go_ret
   rw [zY HB]
   exact⟨rfl,(zY F1).trans hf⟩
