/-
 WHAT EACH FUNCTION OF THE LAYER writes RETURNS, AS IT IS WRITTEN: Last.
-/
import Derived.Test.YtgghaodcfgbjlaaGreatWritesA
import Derived.Shelf.Abstract
import Derived.Test.YtgghaodcfgbjlaaGreatMemA
import Derived.Deep.RegionLaw
set_option maxRecDepth 100000
namespace Go.Proofs.YtgghaodcfgbjlaaGreat.Writes
open Go.ChangeShapes Go.WideShapes Go.ChangeAt Go.RowKit Mem
open Heap (Write wc ws ws_len vB at_write)
def cmpS (x y:Int):Int:=if x<y then -1 else if y<x then 1 else 0
theorem isnan_any (x:Int) (w:World):
  Calls Tryz.prog 212 #[.int .i64 x] w fun e w' =>e=.returned (.bool false)∧w=w' :=by
 go_enter Tryz.func212,Tryz.ntmps212
 go_wp2
 go_ret
 exact ⟨ret_bool (by simp),rfl⟩
theorem compare_any (x y:Int) (w:World):
  Calls Tryz.prog 177 #[.int .i64 x,.int .i64 y] w fun e w' =>e=.returned (.int .i64 (cmpS x y))∧w=w' :=by
 by_cases h1:x<y
 ·have HF:Hid (cmpS x y= -1):=Lh (by unfold cmpS;rw[if_pos h1])
  go_enter Tryz.func177,Tryz.ntmps177
  go_wp2_with (go_at_call 212;refine (isnan_any _ _).mono ?_;rintro e w' ⟨rfl,rfl⟩)
  go_ret
  exact ⟨ret_int (by rw[HF.out]),rfl⟩
 ·by_cases h2:y<x
  ·have HF:Hid (cmpS x y=1):=Lh (by unfold cmpS;rw[if_neg h1,if_pos h2])
   go_enter Tryz.func177,Tryz.ntmps177
   go_wp2_with (go_at_call 212;refine (isnan_any _ _).mono ?_;rintro e w' ⟨rfl,rfl⟩)
   go_ret
   exact ⟨ret_int (by rw[HF.out]),rfl⟩
  ·have HF:Hid (cmpS x y=0):=Lh (by unfold cmpS;rw[if_neg h1,if_neg h2])
   go_enter Tryz.func177,Tryz.ntmps177
   go_wp2_with (go_at_call 212;refine (isnan_any _ _).mono ?_;rintro e w' ⟨rfl,rfl⟩)
   go_ret
   exact ⟨ret_int (by rw[HF.out]),rfl⟩
def RetIG (w:World) (v:Int) (e:Ending) (w' :World):Prop:=e=.returned (.int .i64 v)∧Grew w w'
theorem bycell_g (ca va cb vb:Int) (w:World) (v:Int) (hv:cmpS ca cb=v):
  Calls Tryz.prog 135 #[.agg #[.int .i64 ca,.int .i64 va],.agg #[.int .i64 cb,.int .i64 vb]] w (RetIG w v):=by
 subst hv
 go_enter Tryz.func135,Tryz.ntmps135
 go_wp2_with (go_at_call 177;refine (compare_any _ _ _).mono ?_;rintro e w' ⟨rfl,rfl⟩)
 go_ret
 exact ⟨rfl,((Grew.refl w).alloc _).alloc _⟩
theorem found_mk (L:List Write) (c:Int) (p:Nat) (hp:p≤L.length) (h1:∀t x,t<p→L[t]?=some x→x.cell<c) (h2:∀t x,p≤t→L[t]?=some x→c≤x.cell) (f:Bool) (hf:(match L[p]? with | some y=>(y.cell==c) | none=>false)=f):Found L c p f:=by
 refine ⟨hp,fun x hx=>?_,fun x hx=>?_,hf⟩
 ·obtain ⟨t,ht,e⟩:=List.mem_take_iff_getElem.1 hx
  exact h1 t x (by omega) (by rw[List.getElem?_eq_getElem (by omega),e])
 ·obtain ⟨t,ht,e⟩:=List.mem_drop_iff_getElem.1 hx
  exact h2 (p+t) x (by omega) (by rw[List.getElem?_eq_getElem (by omega),←e])
theorem rise_at (L:List Write) (hr:Rises L) (a b:Nat) (x y:Write) (hab:a<b) (hx:L[a]?=some x) (hy:L[b]?=some y):x.cell<y.cell:=by
 obtain ⟨h1,rfl⟩:=List.getElem?_eq_some_iff.1 hx
 obtain ⟨h2,rfl⟩:=List.getElem?_eq_some_iff.1 hy
 exact List.pairwise_iff_getElem.1 hr a b h1 h2 hab
theorem bycell_f (ca va cl vl:Int) (w:World) (v:Int) (cb:Array Value) (hcb:cb=#[]) (hv:cmpS ca cl=v):
  Calls Tryz.prog 135 (#[.agg #[.int .i64 ca,.int .i64 va],.agg #[.int .i64 cl,.int .i64 vl]]++cb) w (RetIG w v):=by
 subst hcb
 exact bycell_g ca va cl vl w v hv
set_option maxHeartbeats 4000000 in
theorem search_g (L:List Write) (A:Option Addr) (n c:Nat) (cl vl:Int) (w:World) (cb:Array Value) (hcb:cb=#[]) (hr:Rd w 2 A n (ws L)) (hn:n≤1000000) (hs:Rises L):
  Calls Tryz.prog 134 #[.slice A n c,.agg #[.int .i64 cl,.int .i64 vl],.func (.func 135) #[] cb] w
   fun e w' =>∃(p:Nat) (f:Bool),e=.returned (.tuple #[.int .i64 (p:Int),.bool f])∧Found L cl p f∧Grew w w' :=by
 have HR:=Lh hr
 have LN:=Lh (ws_n hr)
 have HS:=Lh hs
 have HCB:=Lh hcb
 clear hr hs hcb
 have eg:∀args w,(callFunc 135 args).run Tryz.prog w=.ok (.enter 135 args) w:=enters_of Tryz.func135 (by kernel_rfl) rfl
 have K0:Hid (Blk (w.alloc (.cells #[.int .i64 cl,.int .i64 vl] 97)) w.heap.size 97 #[.int .i64 cl,.int .i64 vl]):=Lh (Blk.new _ _ _)
 have G0:Hid (Grew w (w.alloc (.cells #[.int .i64 cl,.int .i64 vl] 97))):=Lh ((Grew.refl w).alloc _)
 have hmix:Tryz.prog.follows .mixedOrders=true:=by kernel_rfl
 go_enter Tryz.func134,Tryz.ntmps134
 go_wp2
 generalize w.alloc (.cells #[.int .i64 cl,.int .i64 vl] 97)=w0 at *
 go_loopg [9,10] n (fun kx s9 s10 wr=>∃lo hi:Nat,s9=.int .i64 lo∧s10=.int .i64 hi∧lo≤hi∧hi≤n∧hi - lo≤kx∧Hid (Grew w0 wr)∧
  Hid ((∀t x,t<lo→L[t]?=some x→x.cell<cl)∧(∀t x,hi≤t→L[t]?=some x→cl≤x.cell)))
 case atStart=>exact ⟨0,n,rfl,rfl,Nat.zero_le _,Nat.le_refl _,by omega,Lh (Grew.refl _),Lh ⟨fun t x h=>by omega,fun t x h hx=>by have:=(List.getElem?_eq_some_iff.1 hx).1;rw[LN.out]at this;omega⟩⟩
 case round =>
  obtain ⟨lo,hi,rfl,rfl,hlh,hin,hkx,HG,I⟩:=hrel
  generalize wr=w2 at *
  have hb0:∀z os,(Sort.grow (w2.drewN z) os).cell? ⟨w.heap.size,0,none⟩=some (.int .i64 cl):=fun z os=>(K0.out.below (HG.out.trans ⟨z,os,rfl⟩).below).cell 0 _ rfl
  have hb1:∀z os,(Sort.grow (w2.drewN z) os).cell? ⟨w.heap.size,1,none⟩=some (.int .i64 vl):=fun z os=>(K0.out.below (HG.out.trans ⟨z,os,rfl⟩).below).cell 1 _ rfl
  by_cases hlt:lo<hi
  ·obtain ⟨mid,hmid⟩:∃k,(lo+hi) / 2=k:=⟨_,rfl⟩
   have hm1:lo≤mid:=by omega
   have hm2:mid<hi:=by omega
   have hm3:mid<n:=by omega
   have hmz:((lo:Int)+(hi:Int)) / 2=(mid:Int):=by omega
   obtain ⟨b1,off,⟨cx,vx⟩,rfl,hx,c0,c1⟩:=at_write (HR.out.below (G0.out.trans HG.out).below) mid hm3
   have HX:=Lh hx
   have hc0:∀z os,(Sort.grow (w2.drewN z) os).cell? ⟨b1,off+mid * 2,none⟩=some (.int .i64 cx):=fun z os=>((Grew.below ⟨z,os,rfl⟩).cell (cell_lt c0)).trans c0
   have hc1:∀z os,(Sort.grow (w2.drewN z) os).cell? ⟨b1,off+mid * 2+1,none⟩=some (.int .i64 vx):=fun z os=>((Grew.below ⟨z,os,rfl⟩).cell (cell_lt c1)).trans c1
   clear hx hmid
   obtain ⟨v,hv⟩:∃v,cmpS cx cl=v:=⟨_,rfl⟩
   have HV:=Lh hv
   have hvc:(cx<cl∧v= -1)∨(cl≤cx∧0≤v):=by
    unfold cmpS at hv
    by_cases h1:cx<cl
    ·rw[if_pos h1]at hv;exact .inl ⟨h1,hv.symm⟩
    ·rw[if_neg h1]at hv;split at hv <;> exact .inr ⟨by omega,by omega⟩
   clear hv
   rcases hvc with ⟨hlt2,rfl⟩ | ⟨hge,hv0⟩
   ·go_wp2_with fail
    go_quiet_grown (first | (go_at_fn 135;refine Calls.grown_of (bycell_f _ _ _ _ _ _ _ HCB.out HV.out)))
    have HG2:Hid (Grew w0 (Sort.grow (w2.drewN nq) osq)):=Lh (HG.out.trans ⟨nq,osq,rfl⟩)
    clear hb0 hb1 hc0 hc1
    generalize Sort.grow (w2.drewN nq) osq=w3 at *
    go_wp2
    go_roundg (hi - (mid+1))
    case measure=>omega
    case rel=>
     exact ⟨mid+1,hi,by go_num,rfl,by omega,hin,Nat.le_refl _,HG2,Lh ⟨fun t x ht hx=>by
      rcases Nat.lt_or_ge t mid with h | h
      ·have:=rise_at L HS.out t mid x _ h hx HX.out;simp only at this;omega
      ·obtain rfl:t=mid:=by omega
       rw[HX.out]at hx
       injection hx with hx
       subst hx
       exact hlt2,I.out.2⟩⟩
   ·have hd1:decide (v<0)=false:=decide_eq_false (by omega)
    go_wp2_with fail
    go_quiet_grown (first | (go_at_fn 135;refine Calls.grown_of (bycell_f _ _ _ _ _ _ _ HCB.out HV.out)))
    have HG2:Hid (Grew w0 (Sort.grow (w2.drewN nq) osq)):=Lh (HG.out.trans ⟨nq,osq,rfl⟩)
    clear hb0 hb1 hc0 hc1
    generalize Sort.grow (w2.drewN nq) osq=w3 at *
    go_wp2
    go_roundg (mid - lo)
    case measure=>omega
    case rel=>
     exact ⟨lo,mid,rfl,rfl,hm1,by omega,Nat.le_refl _,HG2,Lh ⟨I.out.1,fun t x ht hx=>by
      rcases Nat.lt_or_ge mid t with h | h
      ·have:=rise_at L HS.out mid t _ x h HX.out hx;simp only at this;omega
      ·obtain rfl:t=mid:=by omega
       rw[HX.out]at hx
       injection hx with hx
       subst hx
       exact hge⟩⟩
  ·obtain rfl:hi=lo:=by omega
   by_cases hln:hi<n
   ·obtain ⟨b1,off,⟨cx,vx⟩,rfl,hx,c0,c1⟩:=at_write (HR.out.below (G0.out.trans HG.out).below) hi hln
    have HX:=Lh hx
    have hc0:∀z os,(Sort.grow (w2.drewN z) os).cell? ⟨b1,off+hi * 2,none⟩=some (.int .i64 cx):=fun z os=>((Grew.below ⟨z,os,rfl⟩).cell (cell_lt c0)).trans c0
    have hc1:∀z os,(Sort.grow (w2.drewN z) os).cell? ⟨b1,off+hi * 2+1,none⟩=some (.int .i64 vx):=fun z os=>((Grew.below ⟨z,os,rfl⟩).cell (cell_lt c1)).trans c1
    clear hx hlt hkx hlh
    obtain ⟨v,hv⟩:∃v,cmpS cx cl=v:=⟨_,rfl⟩
    have HV:=Lh hv
    obtain ⟨f,hf⟩:∃f,(v==0)=f:=⟨_,rfl⟩
    have HFF:Hid (Found L cl hi f):=Lh (found_mk L cl hi (by rw[LN.out];omega) I.out.1 I.out.2 f (by
     rw[HX.out,←hf,←hv,Bool.eq_iff_iff]
     simp only[beq_iff_eq]
     unfold cmpS
     by_cases h1:cx<cl
     ·rw[if_pos h1];omega
     ·rw [if_neg h1]
      by_cases h2:cl<cx
      ·rw[if_pos h2];omega
      ·rw[if_neg h2];omega))
    clear hv
    go_wp2_with fail
    go_quiet_grown (first | (go_at_fn 135;refine Calls.grown_of (bycell_f _ _ _ _ _ _ _ HCB.out HV.out)))
    have HG2:Hid (Grew w0 (Sort.grow (w2.drewN nq) osq)):=Lh (HG.out.trans ⟨nq,osq,rfl⟩)
    clear hb0 hb1 hc0 hc1
    generalize Sort.grow (w2.drewN nq) osq=w3 at *
    go_wp2
    go_ret2
    exact ⟨hi,f,rfl,HFF.out,G0.out.trans HG2.out⟩
   ·have HFF:Hid (Found L cl hi false):=Lh (found_mk L cl hi (by rw[LN.out];omega) I.out.1 I.out.2 false (by
     rw[List.getElem?_eq_none (by rw[LN.out];omega)]))
    clear hlt hkx hlh hb0 hb1
    go_wp2_with fail
    go_quiet (fail)
    go_wp2
    go_ret2
    exact ⟨hi,false,rfl,HFF.out,by first | exact (G0.out.trans HG.out).drewN _ | exact G0.out.trans HG.out⟩
def RetOw (w0:World) (n:Nat) (l:List Write) (e:Ending) (w' :World):Prop:=∃v,e=.returned v∧Own w0 w' 97 2 v n (ws l)
theorem insert_end (w0 W:World) (v:Value) (n:Nat) (L:List Write) (x:Write) (vb vc:Nat) (ho:Own w0 W 97 2 v n (ws L)) (hn:n≤1000000)
  (hx:Rd W 2 (some ⟨vb,0,none⟩) 1 (wc x)):
  Calls Tryz.prog 136 #[v,.int .i64 n,.slice (some ⟨vb,0,none⟩) 1 vc] W (RetOw w0 (n+1) (L++ [x])):=by
 obtain ⟨A,c,rfl,hnc,hrd⟩:=own_room ho
 have HO:=Lh ho
 have HX:=Lh hx
 have HE:Hid (ws (L++ [x])=ws L++wc x):=Lh (by unfold ws;rw[List.flatMap_append];simp)
 clear ho hx hrd
 go_enter Tryz.func136,Tryz.ntmps136
 go_wp2_with (at_builtin;refine append_rd rfl _ _ 29 rfl tWrite w0 (.slice A n c) n _ rfl HO.out _ 1 vc (wc x) rfl HX.out (wc_one _) (by omega) (by omega) ?_;intro v5 w5 o5 g5;have HO5:=Lh o5;clear o5 g5)
 all_goals
  go_ret
  exact ⟨v5,rfl,by rw[HE.out];exact HO5.out⟩
theorem splice_two (P Q R X:List Value) (hX:X.length=2) (hR:2≤R.length):splice (splice (P++Q++R) (P.length+2) Q) P.length X=P++(X++Q)++R.drop 2:=by
 have h1:splice (P++Q++R) (P.length+2) Q=P++((Q++R).take 2++(Q++R.drop 2)):=by
  unfold splice
  have e1:(P++Q++R).take (P.length+2)=P++(Q++R).take 2:=by
   rw[List.append_assoc,List.take_append];simp;exact List.take_of_length_le (by omega)
  have e2:(P++Q++R).drop (P.length+2+Q.length)=R.drop 2:=by
   have:P.length+2+Q.length=(P++Q).length+2:=by simp;omega
   rw[this,List.drop_append];simp
  rw[e1,e2];simp
 have hl:((Q++R).take 2).length=2:=by simp;omega
 rw[h1]
 generalize (Q++R).take 2=T at *
 unfold splice
 have e3:(P++(T++(Q++R.drop 2))).take P.length=P:=by simp
 have e4:(P++(T++(Q++R.drop 2))).drop (P.length+X.length)=Q++R.drop 2:=by
  rw[hX,←hl,←List.append_assoc,←List.length_append,List.drop_left]
 rw[e3,e4];simp
theorem ins_cells (L:List Write) (x:Write) (i n:Nat) (R:List Value) (hl:L.length=n) (hi:i<n) (hR:2≤R.length):
  splice (splice (ws L++R) ((i+1) * 2) (ws (L.drop i))) (i * 2) (wc x)=ws (L.take i++x::L.drop i)++R.drop 2:=by
 have e1:ws L=ws (L.take i)++ws (L.drop i):=by unfold ws;rw[←List.flatMap_append,List.take_append_drop]
 have l1:(ws (L.take i)).length=i * 2:=by rw[ws_len,List.length_take,hl];omega
 have e3:ws (L.take i++x::L.drop i)=ws (L.take i)++(wc x++ws (L.drop i)):=by unfold ws;simp
 rw[e3,e1,←splice_two _ _ _ _ rfl hR,l1,show (i+1) * 2=i * 2+2 by omega]
theorem grow_cells (P Q Z X:List Value) (hX:X.length=2):splice (splice (P++Z) P.length X) (P.length+2) Q=P++(X++Q)++Z.drop (2+Q.length):=by
 have h1:splice (P++Z) P.length X=P++(X++Z.drop 2):=by
  unfold splice
  have e2:(P++Z).drop (P.length+X.length)=Z.drop 2:=by rw[hX,List.drop_append];simp
  rw[e2];simp
 rw[h1]
 unfold splice
 have e1:(P++(X++Z.drop 2)).take (P.length+2)=P++X:=by rw[←hX,←List.append_assoc,←List.length_append,List.take_left]
 have e2:(P++(X++Z.drop 2)).drop (P.length+2+Q.length)=Z.drop (2+Q.length):=by
  rw[←List.append_assoc,show P.length+2+Q.length=(P++X).length+Q.length by simp[hX],List.drop_append]
  simp
 rw[e1,e2];simp
theorem info_write:(Tryz.prog.info? 97).map (·.size)=some 2:=by kernel_rfl
theorem size_write (w:World):(Go.sizeOf 97).run Tryz.prog w=.ok 2 w:=by
 have h:=info_write
 cases hi:Tryz.prog.info? 97 with
 | none=>rw[hi]at h;cases h
 | some i=>
  rw[hi]at h
  injection h with h
  simp[Go.sizeOf,typeInfo,hi,h]
theorem overlaps_w (W:World) (g vb o lb cb vc:Nat) (cells:Array Value) (hne:vb≠g) (hb:Blk W g 97 cells) (hs:cells.size≠0) (xs:Array Value) (hx:Blk W vb 97 xs):
  (callFunc 178 #[.slice (some ⟨vb,0,none⟩) 1 vc,.slice (some ⟨g,o,none⟩) lb cb]).run Tryz.prog W=.ok (.value (.bool false)) W:=by
 rw [run_callFunc_extern Tryz.func178 (by kernel_rfl) (by kernel_rfl) (by kernel_rfl) (e:=Extern.SlicesOverlaps.overlaps #[29,29] #[4]) (by kernel_rfl),
  Lib.run_overlaps_apart W 29 4 97 Tryz.underlying29 2 size_write ⟨vb,0,none⟩ ⟨g,o,none⟩ 1 vc lb cb hne 97 97 xs.size cells.size
   (by unfold Blk at hx;simp[World.shape?,hx]) (by unfold Blk at hb;simp[World.shape?,hb]) hs (hx.frozen 0) (hx.frozen _)]
 rfl
set_option maxHeartbeats 4000000 in
theorem insert_room (w0 W:World) (g n c i:Nat) (L:List Write) (cl vl:Int) (vb vc:Nat) (R:List Value) (hb:Blk W g 97 (ws L++R).toArray) (hl:L.length=n) (hR:R.length=(c - n) * 2) (hc:c≤maxLen)
  (hroom:n+1≤c) (hi:i<n) (hn:n≤1000000) (hx:Blk W vb 97 #[.int .i64 cl,.int .i64 vl]) (hne:vb≠g) (hw0:Below w0.heap.size w0 W) (hg:w0.heap.size≤g):
  Calls Tryz.prog 136 #[.slice (some ⟨g,0,none⟩) n c,.int .i64 i,.slice (some ⟨vb,0,none⟩) 1 vc] W (RetOw w0 (n+1) (L.take i++⟨cl,vl⟩::L.drop i)):=by
 have hov:∀o lb cb,(callFunc 178 #[.slice (some ⟨vb,0,none⟩) 1 vc,.slice (some ⟨g,o,none⟩) lb cb]).run Tryz.prog W=.ok (.value (.bool false)) W:=fun o lb cb=>
  overlaps_w W g vb o lb cb vc _ hne hb (by simp[ws_len];omega) _ hx
 have HBK:=Lh hb
 have HX:=Lh hx
 have HLN:=Lh hl
 have HRL:=Lh hR
 have hz2:¬((i:Int)=(n:Int)):=by omega
 have hb2:¬(c=i+1):=by omega
 have hb4:¬(c=i):=by omega
 have hin:i≤n:=by omega
 have hic:i≤c:=by omega
 have hin1:i+1≤n+1:=by omega
 have hc63:c≤9223372036854775807:=hc
 have hw1:IntKind.i64.wrap ((i:Int)+1)=(i:Int)+1:=by rw[IntKind.wrap_i64];omega
 have hb1:(0:Int)≤(i:Int)+1:=by omega
 have htn:((i:Int)+1).toNat=i+1:=by omega
 have hb3:(i:Int)≤(n:Int)+1:=by omega
 have hb5:(i:Int)≤(n:Int):=by omega
 clear hb hx hl hR hc
 go_enter Tryz.func136,Tryz.ntmps136
 go_wp2_with (simp only[hov])
 have HS1:Hid ((ws (L.drop i)).length=(n - i) * 2):=Lh (by rw[ws_len,List.length_drop,HLN.out])
 have HLL:Hid ((ws L++R).length=c * 2):=Lh (by rw[List.length_append,ws_len,HLN.out,HRL.out];omega)
 have HSRC:Hid (∀j v,(ws (L.drop i))[j]?=some v→W.cell? ⟨g,i * 2+j,none⟩=some v):=Lh (fun j v hj=>by
  refine HBK.out.cell _ v ?_
  have e1:ws L=ws (L.take i)++ws (L.drop i):=by unfold ws;rw[←List.flatMap_append,List.take_append_drop]
  have l1:(ws (L.take i)).length=i * 2:=by rw[ws_len,List.length_take,HLN.out];omega
  have hlt:=(List.getElem?_eq_some_iff.1 hj).1
  rw[List.getElem?_toArray,e1,List.append_assoc,List.getElem?_append_right (by omega),l1,Nat.add_sub_cancel_left,List.getElem?_append_left hlt]
  exact hj)
 obtain ⟨D,hD⟩:∃D,ws (L.drop i)=D:=⟨_,rfl⟩
 obtain ⟨C0,hC0⟩:∃C0,ws L++R=C0:=⟨_,rfl⟩
 have HD:=Lh hD
 have HC0:=Lh hC0
 have HD1:Hid (∀v∈D,v.oneCell' =true):=Lh (by rw[←hD];exact ws_one _)
 rw[hD]at HS1 HSRC
 rw[hC0]at HBK HLL
 clear hD hC0
 obtain ⟨C1,hC1⟩:∃C1,splice C0 ((i+1) * 2) D=C1:=⟨_,rfl⟩
 have HC1:=Lh hC1
 have HL1:Hid (C1.length=c * 2):=Lh (by rw[←hC1,length_splice _ _ _ (by rw[HS1.out,HLL.out];omega),HLL.out])
 have HW1:Hid (W.setRow g (splice C0 ((i+1) * 2) D).toArray=W.setRow g C1.toArray):=Lh (by rw[hC1])
 clear hC1
 go_region_law (refine step_copy_k rfl (.tmp 73) (.tmp 76) 29 29 rfl 97 Tryz.underlying29 2 info_write g ((i+1) * 2) (n+1 - (i+1)) (c - (i+1)) ⟨g,i * 2,none⟩ (n+1 - i) (c - i) (by simp[Act.eval,Act.put]) (by simp[Act.eval,Act.put]) C0 97 HBK.out D (n - i) (by show min _ _=_;omega) HS1.out (fun j v hj=>by rw[Mem.add_plain];exact HSRC.out j v hj) (by rw[HS1.out,HLL.out];omega) HD1.out ?_)
 have KG:Hid (Blk (W.drew.setRow g (splice C0 ((i+1) * 2) D).toArray) g 97 C1.toArray):=Lh (by
  rw[←HC1.out]
  exact setRow_heap W.drew g C0.toArray _ 97 _ HBK.out)
 have KX:Hid (Blk (W.drew.setRow g (splice C0 ((i+1) * 2) D).toArray) vb 97 #[.int .i64 cl,.int .i64 vl]):=Lh ((setRow_other W.drew g vb _ hne).trans HX.out)
 have B1:Hid (Below w0.heap.size w0 (W.drew.setRow g (splice C0 ((i+1) * 2) D).toArray)):=Lh (below_setRow hw0.drew hg _)
 clear HW1 HBK HX hov
 generalize W.drew.setRow g (splice C0 ((i+1) * 2) D).toArray=W1 at *
 have HV1:Hid (∀j v,(wc ⟨cl,vl⟩)[j]?=some v→W1.cell? ⟨vb,0+j,none⟩=some v):=Lh (fun j v hj=>by
  rw[Nat.zero_add]
  exact KX.out.cell j v (by simpa [wc] using hj))
 have hcp:=run_copy_k (P:=Tryz.prog) W1 29 29 3 97 2 g (i * 2) (n+1 - i) (c - i) ⟨vb,0,none⟩ 1 vc C1 97 (wc ⟨cl,vl⟩) Tryz.underlying29 info_write KG.out 1 (by show min _ _=_;omega) rfl (fun j v hj=>by rw[Mem.add_plain];exact HV1.out j v hj) (by rw[HL1.out];show i * 2+2≤_;omega) (wc_one _)
 have HEND:Hid (Own w0 (W1.setRow g (splice C1 (i * 2) (wc ⟨cl,vl⟩)).toArray) 97 2 (.slice (some ⟨g,0,none⟩) (n+1) c) (n+1) (ws (L.take i++⟨cl,vl⟩::L.drop i))):=Lh (by
  refine ⟨⟨by rw[ws_len];simp[HLN.out];omega,.inr ⟨g,c,(splice C1 (i * 2) (wc ⟨cl,vl⟩)).toArray,rfl,hg,setRow_heap W1 g C1.toArray _ 97 _ KG.out,hroom,hc63,?_,?_⟩⟩,below_setRow B1.out hg _⟩
  ·rw[List.size_toArray,length_splice _ _ _ (by rw[HL1.out];show i * 2+2≤_;omega),HL1.out]
  ·rw [←HC1.out,←HC0.out,←HD.out,ins_cells L ⟨cl,vl⟩ i n R HLN.out hi (by rw[HRL.out];omega)]
   rw[List.take_append_of_le_length (by rw[ws_len];simp[HLN.out];omega),List.take_of_length_le (by rw[ws_len];simp[HLN.out];omega)])
 generalize W1.setRow g (splice C1 (i * 2) (wc ⟨cl,vl⟩)).toArray=W2 at *
 go_wp2
 go_ret
 exact ⟨_,rfl,HEND.out⟩
set_option maxHeartbeats 4000000 in
theorem insert_grow (w0 W:World) (g n c i:Nat) (L:List Write) (cl vl:Int) (vb vc:Nat) (R:List Value) (hb:Blk W g 97 (ws L++R).toArray) (hl:L.length=n)
  (hnc:n≤c) (hroom:c<n+1) (hi:i<n) (hn:n≤1000000) (hx:Blk W vb 97 #[.int .i64 cl,.int .i64 vl]) (hw0:Below w0.heap.size w0 W):
  Calls Tryz.prog 136 #[.slice (some ⟨g,0,none⟩) n c,.int .i64 i,.slice (some ⟨vb,0,none⟩) 1 vc] W (RetOw w0 (n+1) (L.take i++⟨cl,vl⟩::L.drop i)):=by
 have HBK:=Lh hb
 have HX:=Lh hx
 have HLN:=Lh hl
 have hgw:=hb.lt
 have hvw:=hx.lt
 have hinfo:(Tryz.prog.info? 97).map (fun i=>(i.zero,i.size,i.bytes))=some (some (.agg #[.int .i64 0,.int .i64 0]),2,16):=by kernel_rfl
 obtain ⟨i0,hi0,hz0,hzs,hzb⟩:=info_parts hinfo
 clear hinfo
 have hik:i+(n+1 - i)=n+1:=by omega
 have hcells:∀j v,(ws L)[j]?=some v→W.cell? ⟨g,j,none⟩=some v:=fun j v hj=>hb.cell j v (by
  rw[List.getElem?_toArray,List.getElem?_append_left (List.getElem?_eq_some_iff.1 hj).1];exact hj)
 have e1:ws L=ws (L.take i)++ws (L.drop i):=by unfold ws;rw[←List.flatMap_append,List.take_append_drop]
 have l1:(ws (L.take i)).length=i * 2:=by rw[ws_len,List.length_take,hl];omega
 have l2:(ws (L.drop i)).length=(n - i) * 2:=by rw[ws_len,List.length_drop,hl]
 have hold:(Builtin.firstCells i0.size i (.slice (some ⟨g,0,none⟩) i c)).run Tryz.prog W.drew=.ok (ws (L.take i)).toArray W.drew:=by
  rw[hzs]
  exact run_firstCells_some W.drew 2 i ⟨g,0,none⟩ i c (ws (L.take i)) l1 (fun j v hj=>by
   rw[Mem.add_plain,Nat.zero_add]
   exact hcells j v (by rw[e1,List.getElem?_append_left (List.getElem?_eq_some_iff.1 hj).1];exact hj))
 have hrz:=Lib.run_append_grow_zeros W 29 3 29 97 i0 _ .i64 .i64 Tryz.underlying29 Tryz.underlying3 hi0 hz0 (some ⟨g,0,none⟩) i c (ws (L.take i)) hold (n+1 - i) (by omega) (by omega) (by omega) (by omega) (by rw[hzb];omega) (by rw[hzb,hik];exact growslice_fits hroom (by omega))
 have hGn:n+1≤grownCap W (n+1) c 97:=grownCap_ge W _ _ _
 have hGm:grownCap W (n+1) c 97≤maxLen:=grownCap_le_maxLen W _ _ _ (by unfold maxLen;omega)
 rw[hik]at hrz
 generalize grownCap W (n+1) c 97=G at *
 obtain ⟨Z,hZ⟩:∃Z:List Value,Z=(Builtin.zeroCells (Value.agg #[.int .i64 0,.int .i64 0]).cells (n+1 - i)).toList++(Builtin.zeroCells (Value.agg #[.int .i64 0,.int .i64 0]).cells (G - (n+1))).toList:=⟨_,rfl⟩
 have hZl:Z.length=(G - i) * 2:=by
  rw[hZ,List.length_append,Array.length_toList,Array.length_toList,size_zeroCells,size_zeroCells]
  show (n+1 - i) * 2+(G - (n+1)) * 2=_
  omega
 have hrow:(ws (L.take i)).toArray++Builtin.zeroCells (Value.agg #[.int .i64 0,.int .i64 0]).cells (n+1 - i)++Builtin.zeroCells (Value.agg #[.int .i64 0,.int .i64 0]).cells (G - (n+1))=(ws (L.take i)++Z).toArray:=by
  rw[hZ];apply Array.ext';simp
 rw[hrow]at hrz
 clear hrow hZ hold hcells
 obtain ⟨Wa,hWa⟩:∃Wa,W.drew.alloc (.cells (ws (L.take i)++Z).toArray 97)=Wa:=⟨_,rfl⟩
 rw[hWa]at hrz
 obtain ⟨h,hh⟩:∃h,W.heap.size=h:=⟨_,rfl⟩
 have KA:Hid (Blk Wa h 97 (ws (L.take i)++Z).toArray):=Lh (by rw[←hWa,←hh];exact Blk.new W.drew _ _)
 have BA:Hid (Below W.heap.size W Wa):=Lh (by rw[←hWa];exact bl_alloc (Below.refl _ W).drew _)
 have hwh:Hid (w0.heap.size≤h):=Lh (by rw[←hh];exact hw0.size)
 rw[hh]at hrz hgw hvw
 have hgh:g≠h:=by omega
 have hvh:vb≠h:=by omega
 have HKG:Hid (Blk Wa g 97 (ws L++R).toArray):=Lh (HBK.out.below BA.out)
 have HKX:Hid (Blk Wa vb 97 #[.int .i64 cl,.int .i64 vl]):=Lh (HX.out.below BA.out)
 have HB0:Hid (Below w0.heap.size w0 Wa):=Lh (bl_trans hw0 BA.out)
 have hcA:=run_copy_k (P:=Tryz.prog) Wa 29 29 3 97 2 h (i * 2) (n+1 - i) (G - i) ⟨vb,0,none⟩ 1 vc (ws (L.take i)++Z) 97 (wc ⟨cl,vl⟩) Tryz.underlying29 info_write KA.out 1 (by show min _ _=_;omega) rfl (fun j v hj=>by rw[Mem.add_plain,Nat.zero_add];exact HKX.out.cell j v (by simpa [wc] using hj)) (by rw[List.length_append,l1,hZl];show i * 2+2≤_;omega) (wc_one _)
 obtain ⟨Wb,hWb⟩:∃Wb,Wa.setRow h (splice (ws (L.take i)++Z) (i * 2) (wc ⟨cl,vl⟩)).toArray=Wb:=⟨_,rfl⟩
 rw[hWb]at hcA
 obtain ⟨C1,hC1⟩:∃C1,splice (ws (L.take i)++Z) (i * 2) (wc ⟨cl,vl⟩)=C1:=⟨_,rfl⟩
 have KB:Hid (Blk Wb h 97 C1.toArray):=Lh (by rw[←hWb,←hC1];exact setRow_heap Wa h _ _ 97 _ KA.out)
 have KGB:Hid (Blk Wb g 97 (ws L++R).toArray):=Lh (by rw[←hWb];exact (setRow_other Wa h g _ hgh).trans HKG.out)
 have BB:Hid (Below w0.heap.size w0 Wb):=Lh (by rw[←hWb];exact below_setRow HB0.out hwh.out _)
 have HL1:Hid (C1.length=G * 2):=Lh (by
  rw[←hC1,length_splice _ _ _ (by rw[List.length_append,l1,hZl];show i * 2+2≤_;omega),List.length_append,l1,hZl];omega)
 have HEND:Hid (∀W',Blk W' h 97 (splice C1 ((i+1) * 2) (ws (L.drop i))).toArray→Below w0.heap.size w0 W' →Own w0 W' 97 2 (.slice (some ⟨h,0,none⟩) (n+1) G) (n+1) (ws (L.take i++⟨cl,vl⟩::L.drop i))):=Lh (fun W' hk hbl=>by
  refine ⟨⟨by rw[ws_len];simp[HLN.out];omega,.inr ⟨h,G,_,rfl,hwh.out,hk,hGn,hGm,?_,?_⟩⟩,hbl⟩
  ·rw[List.size_toArray,length_splice _ _ _ (by rw[HL1.out,l2];omega),HL1.out]
  ·have e3:ws (L.take i++⟨cl,vl⟩::L.drop i)=ws (L.take i)++(wc ⟨cl,vl⟩++ws (L.drop i)):=by unfold ws;simp
   have e4:=grow_cells (ws (L.take i)) (ws (L.drop i)) Z (wc ⟨cl,vl⟩) rfl
   rw[l1]at e4
   rw[e3,←hC1,show (i+1) * 2=i * 2+2 by omega,e4]
   have l5:(ws (L.take i)++(wc ⟨cl,vl⟩++ws (L.drop i))).length=(n+1) * 2:=by
    rw[List.length_append,List.length_append,l1,l2];show i * 2+(2+_)=_;omega
   rw[List.take_append_of_le_length (by rw[l5];exact Nat.le_refl _),List.take_of_length_le (by rw[l5];exact Nat.le_refl _)])
 have HSRC:Hid (∀j v,(ws (L.drop i))[j]?=some v→Wb.cell? ⟨g,i * 2+j,none⟩=some v):=Lh (fun j v hj=>by
  refine KGB.out.cell _ v ?_
  have hlt:=(List.getElem?_eq_some_iff.1 hj).1
  rw[List.getElem?_toArray,e1,List.append_assoc,List.getElem?_append_right (by omega),l1,Nat.add_sub_cancel_left,List.getElem?_append_left hlt]
  exact hj)
 obtain ⟨D,hD⟩:∃D,ws (L.drop i)=D:=⟨_,rfl⟩
 have HS1:Hid (D.length=(n - i) * 2):=Lh (by rw[←hD];exact l2)
 have HD1:Hid (∀v∈D,v.oneCell' =true):=Lh (by rw[←hD];exact ws_one _)
 rw[hD]at HSRC HEND
 clear hWa hWb hC1 hD e1 l1 l2 hZl hh BA KA HKG HKX HB0 HBK HX hb hx hi0 hz0 hzs hzb
 have hkk:(n:Int)+1 - (i:Int)=((n+1 - i:Nat):Int):=by omega
 have hz2:¬((i:Int)=(n:Int)):=by omega
 have hz3:(c:Int)<(n:Int)+1:=by omega
 have hci:¬(c=i):=by omega
 have hGi:¬(G=i):=by omega
 have hGi1:¬(G=i+1):=by omega
 have hin:i≤n:=by omega
 have hic:i≤c:=by omega
 have hG63:G≤9223372036854775807:=hGm
 have hw1:IntKind.i64.wrap ((i:Int)+1)=(i:Int)+1:=by rw[IntKind.wrap_i64];omega
 have hb1:(0:Int)≤(i:Int)+1:=by omega
 have htn:((i:Int)+1).toNat=i+1:=by omega
 have hb3:(i:Int)≤(n:Int)+1:=by omega
 have hb5:(i:Int)≤(n:Int):=by omega
 rw[←hkk]at hrz
 clear hkk hik
 go_enter Tryz.func136,Tryz.ntmps136
 go_wp2_with (at_builtin;refine Lib.wpList_append_run _ rfl _ _ _ _ rfl _ _ rfl rfl _ _ hrz ?_)
 go_region_law (refine step_copy_k rfl (.tmp 50) (.tmp 53) 29 29 rfl 97 Tryz.underlying29 2 info_write h ((i+1) * 2) (n+1 - (i+1)) (G - (i+1)) ⟨g,i * 2,none⟩ (n - i) (c - i) (by simp[Act.eval,Act.put]) (by simp[Act.eval,Act.put]) C1 97 KB.out D (n - i) (by show min _ _=_;omega) HS1.out (fun j v hj=>by rw[Mem.add_plain];exact HSRC.out j v hj) (by rw[HS1.out,HL1.out];omega) HD1.out ?_)
 have HE2:=Lh (HEND.out (Wb.drew.setRow h (splice C1 ((i+1) * 2) D).toArray) (setRow_heap Wb.drew h C1.toArray _ 97 _ KB.out) (below_setRow BB.out.drew hwh.out _))
 clear HEND
 generalize Wb.drew.setRow h (splice C1 ((i+1) * 2) D).toArray=W2 at *
 go_wp2
 go_ret
 exact ⟨_,rfl,HE2.out⟩
theorem insert_c (w0 W:World) (v:Value) (n i:Nat) (L:List Write) (cl vl:Int) (vb vc:Nat) (ho:Own w0 W 97 2 v n (ws L)) (hi:i≤n) (hn:n≤1000000)
  (hx:Blk W vb 97 #[.int .i64 cl,.int .i64 vl]) (hne:v.ownBlock≠some vb):
  Calls Tryz.prog 136 #[v,.int .i64 i,.slice (some ⟨vb,0,none⟩) 1 vc] W (RetOw w0 (n+1) (L.take i++⟨cl,vl⟩::L.drop i)):=by
 have hl:L.length=n:=by have:=ho.1.1;rw[ws_len]at this;omega
 by_cases hin:i=n
 ·subst hin
  have e:L.take i++(⟨cl,vl⟩:Write)::L.drop i=L++ [⟨cl,vl⟩]:=by rw[List.take_of_length_le (by omega),List.drop_of_length_le (by omega)]
  rw[e]
  refine insert_end w0 W v i L ⟨cl,vl⟩ vb vc ho hn ⟨rfl,fun _=>⟨vb,0,rfl,fun j u hu=>?_⟩⟩
  rw[Nat.zero_add]
  exact hx.cell j u (by simpa [wc] using hu)
 ·rcases ho.1.2 with ⟨_,h0⟩ | ⟨g,c,cur,rfl,hg,hh,hnc,hcm,hsz,htk⟩
  ·omega
  ·have hcur:cur=(ws L++cur.toList.drop (n * 2)).toArray:=by
    rw[←htk,List.take_append_drop]
   have hb:Blk W g 97 (ws L++cur.toList.drop (n * 2)).toArray:=by rw[←hcur];exact hh
   by_cases hr:n+1≤c
   ·exact insert_room w0 W g n c i L cl vl vb vc _ hb hl (by rw[List.length_drop,Array.length_toList,hsz];omega) hcm hr (by omega) hn hx (fun e=>hne (by rw[e];rfl)) ho.2 hg
   ·exact insert_grow w0 W g n c i L cl vl vb vc _ hb hl hnc (by omega) (by omega) hn hx ho.2
theorem ws_set (h:List Write) (k:Nat) (c:Write):((ws h).set (k * 2) (.int .i64 c.cell)).set (k * 2+1) (.int .i64 c.value)=ws (h.set k c):=by
 induction h generalizing k with
 | nil=>simp[ws]
 | cons x h ih=>
  cases k with
  | zero=>simp[ws,wc]
  | succ k=>
   have e1:(k+1) * 2=k * 2+1+1:=by omega
   have e2:(k+1) * 2+1=k * 2+1+1+1:=by omega
   rw[e1]
   have:=ih k
   simpa [ws,wc] using this
end Go.Proofs.YtgghaodcfgbjlaaGreat.Writes
