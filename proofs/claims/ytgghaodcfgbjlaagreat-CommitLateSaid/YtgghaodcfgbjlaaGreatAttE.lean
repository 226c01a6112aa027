/-
 PLAIN LEMMAS ON TRIES: steps, as long as one runs; each goes further on. No conditions beyond those that each theorem states.
-/
import Derived.Test.YtgghaodcfgbjlaaGreatAttD
import Derived.Test.YtgghaodcfgbjlaaGreatReadsB
import Derived.Test.YtgghaodcfgbjlaaGreatAttA
set_option maxRecDepth 100000
namespace Go.Proofs.YtgghaodcfgbjlaaGreat.Attempt
open Go.ChangeShapes Go.WideShapes Go.ChangeAt Go.RowKit Mem Go.Proofs.YtgghaodcfgbjlaaGreat.Code
theorem step_c (l:List Raw) (C:Option Addr) (n c:Nat) (h:List Heap.Cell) (HA:Option Addr) (hn hc:Nat) (r:List Stripe.Rec) (TA:Option Addr) (tn tc:Nat) (t:Try) (x:TL) (w:World) (p:SPre w l C n c h HA hn r TA tn t x) (T:Try) (ok:Bool) (hS:stepS (ss l) h r t=(T,ok)):
  Calls Tryz.prog 18 #[.agg (tvl t x).toArray,.slice C n c,.slice HA hn hc,.slice TA tn tc] w (RetTry w T (if ok=true then 0 else 1)):=by
 have hn2:(ss l).length=n:=by rw[ss_len,p.code.len]
 cases hm:mayB h r t with
 | false=>
  have e:stepS (ss l) h r t=(t,false):=by
   unfold stepS
   split
   ·rw[hm];rfl
   ·rfl
  rw[e]at hS
  injection hS with e1 e2
  subst e1 e2
  exact step_no l C n c h HA hn hc r TA tn tc t x w p hm
 | true=>
  have hk:t.kind=0:=by
   unfold mayB at hm
   rw[Bool.and_eq_true,Bool.and_eq_true,decide_eq_true_eq]at hm
   exact hm.2.2
  have hpc:=p.inv.pc_lt hk
  rw[ss_len]at hpc
  obtain ⟨s,hs⟩:∃s,l[t.pc]?=some s:=⟨_,List.getElem?_eq_getElem hpc⟩
  have hss:=ss_at l t.pc s hs
  have e:stepS (ss l) h r t=(moveS n s.s h r t,true):=by
   unfold stepS
   rw[hss,hm,hn2];rfl
  rw[e]at hS
  injection hS with e1 e2
  subst e2
  exact step_yes l C n c h HA hn hc r TA tn tc t x w p s T hm hs e1
def tl0:TL:=⟨none,0,none,0,none,0,none,0,none,0,none,0,[]⟩
theorem tl0_own {w w' :World} (hb:Below w.heap.size w w'):TOwn w w' none_ tl0:=by
 have hn:∀e k,Own w w' e k (.slice none 0 0) 0 []:=fun e k=>Own.nil_ hb
 refine ⟨⟨fun o ho=>?_,?_⟩,rfl⟩
 ·have :o∈([⟨3,1,.slice none 0 0,0,[]⟩,⟨3,1,.slice none 0 0,0,[]⟩,⟨107,3,.slice none 0 0,0,[]⟩,⟨97,2,.slice none 0 0,0,[]⟩,⟨3,1,.slice none 0 0,0,[]⟩,⟨134,4,.slice none 0 0,0,[]⟩]:List OS):=ho
  simp only[List.mem_cons,List.not_mem_nil,or_false]at this
  rcases this with rfl | rfl | rfl | rfl | rfl | rfl <;> exact hn _ _
 ·show List.Pairwise _ ([⟨3,1,.slice none 0 0,0,[]⟩,⟨3,1,.slice none 0 0,0,[]⟩,⟨107,3,.slice none 0 0,0,[]⟩,⟨97,2,.slice none 0 0,0,[]⟩,⟨3,1,.slice none 0 0,0,[]⟩,⟨134,4,.slice none 0 0,0,[]⟩]:List OS)
  have ha:Apart (.slice none 0 0) (.slice none 0 0):=.inl rfl
  simp[ha]
set_option maxHeartbeats 4000000 in
theorem begin_no (l:List Raw) (C:Option Addr) (n c:Nat) (who snap:Int) (w:World) (hat:At w C n l) (hnc:n≤c) (hlim:Lim l) (hn:n≤1000000) (hno:begB (ss l) who snap=false):
    Calls Tryz.prog 13 #[.slice C n c,.int .i64 who,.int .i64 snap] w (RetTry w none_ 1):=by
  have HB1:Hid (Below w.heap.size w (w.alloc (.cells z11 34))):=Lh (bl_alloc (Below.refl _ _) _)
  have HKb:Hid (Blk (w.alloc (.cells z11 34)) w.heap.size 34 z11):=Lh (Blk.new _ _ _)
  obtain ⟨v,hv⟩:∃v,checkS (ss l)=v:=⟨_,rfl⟩
  have HCK:=Lh (check_c l C n c (w.alloc (.cells z11 34)) v (hat.below HB1.out) hnc hlim hv hn)
  have hno2:(decide (checkS (ss l)=0) && (Stripe.whoB who && Reads.timeB snap))=false:=hno
  rw[hv]at hno2
  clear hat hnc hlim hn hv hno
  by_cases h0:v=0
  · cases h1 :Stripe.whoB who with
    | false =>
      clear hno2
      go_enter Tryz.func13,Tryz.ntmps13
      go_wp2_with (first
        | (go_at_call 49
           refine HCK.out.mono ?_
           rintro e w2 ⟨rfl,b2⟩
           have HB2:=Lh b2
           have kb:=HKb.out.below HB2.out
           have b0:=kb.cell 0 _ rfl
           have bf0:=kb.frozen 0
           have b1:=kb.cell 1 _ rfl
           have bf1:=kb.frozen 1
           have b2:=kb.cell 2 _ rfl
           have bf2:=kb.frozen 2
           have b3:=kb.cell 3 _ rfl
           have bf3:=kb.frozen 3
           have b4:=kb.cell 4 _ rfl
           have bf4:=kb.frozen 4
           have b5:=kb.cell 5 _ rfl
           have bf5:=kb.frozen 5
           have b6:=kb.cell 6 _ rfl
           have bf6:=kb.frozen 6
           have b7:=kb.cell 7 _ rfl
           have bf7:=kb.frozen 7
           have b8:=kb.cell 8 _ rfl
           have bf8:=kb.frozen 8
           have b9:=kb.cell 9 _ rfl
           have bf9:=kb.frozen 9
           have b10:=kb.cell 10 _ rfl
           have bf10:=kb.frozen 10
           clear kb)
        | (go_at_call 50
           refine (rwho_c who _).mono ?_
           rintro e w3 ⟨rfl,rfl⟩))
      have HE:Hid (Blk (((((((((((w2.setCell ⟨w.heap.size,0,none⟩ (.int .i64 0)).setCell ⟨w.heap.size,1,none⟩ (.int .i64 0)).setCell ⟨w.heap.size,2,none⟩ (.int .i64 0)).setCell ⟨w.heap.size,3,none⟩ (.slice none 0 0)).setCell ⟨w.heap.size,4,none⟩ (.slice none 0 0)).setCell ⟨w.heap.size,5,none⟩ (.slice none 0 0)).setCell ⟨w.heap.size,6,none⟩ (.slice none 0 0)).setCell ⟨w.heap.size,7,none⟩ (.slice none 0 0)).setCell ⟨w.heap.size,8,none⟩ (.slice none 0 0)).setCell ⟨w.heap.size,9,none⟩ (.int .i64 0)).setCell ⟨w.heap.size,10,none⟩ (.int .i64 0)) w.heap.size 34 z11):=Lh (fill_blk (HKb.out.below HB2.out))
      have HOn:Hid (Only (fun k=>k=w.heap.size) w2 (((((((((((w2.setCell ⟨w.heap.size,0,none⟩ (.int .i64 0)).setCell ⟨w.heap.size,1,none⟩ (.int .i64 0)).setCell ⟨w.heap.size,2,none⟩ (.int .i64 0)).setCell ⟨w.heap.size,3,none⟩ (.slice none 0 0)).setCell ⟨w.heap.size,4,none⟩ (.slice none 0 0)).setCell ⟨w.heap.size,5,none⟩ (.slice none 0 0)).setCell ⟨w.heap.size,6,none⟩ (.slice none 0 0)).setCell ⟨w.heap.size,7,none⟩ (.slice none 0 0)).setCell ⟨w.heap.size,8,none⟩ (.slice none 0 0)).setCell ⟨w.heap.size,9,none⟩ (.int .i64 0)).setCell ⟨w.heap.size,10,none⟩ (.int .i64 0))):=Lh (fill_only w2 w.heap.size _ _ _ _ _ _ _ _ _ _ _)
      clear b0 bf0 b1 bf1 b2 bf2 b3 bf3 b4 bf4 b5 bf5 b6 bf6 b7 bf7 b8 bf8 b9 bf9 b10 bf10
      generalize (((((((((((w2.setCell ⟨w.heap.size,0,none⟩ (.int .i64 0)).setCell ⟨w.heap.size,1,none⟩ (.int .i64 0)).setCell ⟨w.heap.size,2,none⟩ (.int .i64 0)).setCell ⟨w.heap.size,3,none⟩ (.slice none 0 0)).setCell ⟨w.heap.size,4,none⟩ (.slice none 0 0)).setCell ⟨w.heap.size,5,none⟩ (.slice none 0 0)).setCell ⟨w.heap.size,6,none⟩ (.slice none 0 0)).setCell ⟨w.heap.size,7,none⟩ (.slice none 0 0)).setCell ⟨w.heap.size,8,none⟩ (.slice none 0 0)).setCell ⟨w.heap.size,9,none⟩ (.int .i64 0)).setCell ⟨w.heap.size,10,none⟩ (.int .i64 0))=wE at *
      have r0:=HE.out.cell 0 _ rfl
      have r1:=HE.out.cell 1 _ rfl
      have r2:=HE.out.cell 2 _ rfl
      have r3:=HE.out.cell 3 _ rfl
      have r4:=HE.out.cell 4 _ rfl
      have r5:=HE.out.cell 5 _ rfl
      have r6:=HE.out.cell 6 _ rfl
      have r7:=HE.out.cell 7 _ rfl
      have r8:=HE.out.cell 8 _ rfl
      have r9:=HE.out.cell 9 _ rfl
      have r10:=HE.out.cell 10 _ rfl
      refine bodyPost_ret (v:=.tuple #[.agg z11,.int .i64 1]) (by simp[results,Tryz.results13,go_sem,r0,r1,r2,r3,r4,r5,r6,r7,r8,r9,r10]) rfl ?_
      have hbel:Below w.heap.size w wE:=(bl_trans HB1.out HB2.out).trans (HOn.out.below (Nat.le_trans HB1.out.size HB2.out.size) (fun k hk e=>by omega))
      exact ⟨tl0,rfl,tl0_own hbel,Nat.zero_le _,hbel⟩
    | true =>
      have h2:Reads.timeB snap=false:=by rw[h1,decide_eq_true h0]at hno2;simpa using hno2
      clear hno2
      go_enter Tryz.func13,Tryz.ntmps13
      go_wp2_with (first
        | (go_at_call 49
           refine HCK.out.mono ?_
           rintro e w2 ⟨rfl,b2⟩
           have HB2:=Lh b2
           have kb:=HKb.out.below HB2.out
           have b0:=kb.cell 0 _ rfl
           have bf0:=kb.frozen 0
           have b1:=kb.cell 1 _ rfl
           have bf1:=kb.frozen 1
           have b2:=kb.cell 2 _ rfl
           have bf2:=kb.frozen 2
           have b3:=kb.cell 3 _ rfl
           have bf3:=kb.frozen 3
           have b4:=kb.cell 4 _ rfl
           have bf4:=kb.frozen 4
           have b5:=kb.cell 5 _ rfl
           have bf5:=kb.frozen 5
           have b6:=kb.cell 6 _ rfl
           have bf6:=kb.frozen 6
           have b7:=kb.cell 7 _ rfl
           have bf7:=kb.frozen 7
           have b8:=kb.cell 8 _ rfl
           have bf8:=kb.frozen 8
           have b9:=kb.cell 9 _ rfl
           have bf9:=kb.frozen 9
           have b10:=kb.cell 10 _ rfl
           have bf10:=kb.frozen 10
           clear kb)
        | (go_at_call 50
           refine (rwho_c who _).mono ?_
           rintro e w3 ⟨rfl,rfl⟩)
        | (go_at_call 51
           refine (Reads.tick_any snap _).mono ?_
           rintro e w4 ⟨rfl,rfl⟩))
      have HE:Hid (Blk (((((((((((w2.setCell ⟨w.heap.size,0,none⟩ (.int .i64 0)).setCell ⟨w.heap.size,1,none⟩ (.int .i64 0)).setCell ⟨w.heap.size,2,none⟩ (.int .i64 0)).setCell ⟨w.heap.size,3,none⟩ (.slice none 0 0)).setCell ⟨w.heap.size,4,none⟩ (.slice none 0 0)).setCell ⟨w.heap.size,5,none⟩ (.slice none 0 0)).setCell ⟨w.heap.size,6,none⟩ (.slice none 0 0)).setCell ⟨w.heap.size,7,none⟩ (.slice none 0 0)).setCell ⟨w.heap.size,8,none⟩ (.slice none 0 0)).setCell ⟨w.heap.size,9,none⟩ (.int .i64 0)).setCell ⟨w.heap.size,10,none⟩ (.int .i64 0)) w.heap.size 34 z11):=Lh (fill_blk (HKb.out.below HB2.out))
      have HOn:Hid (Only (fun k=>k=w.heap.size) w2 (((((((((((w2.setCell ⟨w.heap.size,0,none⟩ (.int .i64 0)).setCell ⟨w.heap.size,1,none⟩ (.int .i64 0)).setCell ⟨w.heap.size,2,none⟩ (.int .i64 0)).setCell ⟨w.heap.size,3,none⟩ (.slice none 0 0)).setCell ⟨w.heap.size,4,none⟩ (.slice none 0 0)).setCell ⟨w.heap.size,5,none⟩ (.slice none 0 0)).setCell ⟨w.heap.size,6,none⟩ (.slice none 0 0)).setCell ⟨w.heap.size,7,none⟩ (.slice none 0 0)).setCell ⟨w.heap.size,8,none⟩ (.slice none 0 0)).setCell ⟨w.heap.size,9,none⟩ (.int .i64 0)).setCell ⟨w.heap.size,10,none⟩ (.int .i64 0))):=Lh (fill_only w2 w.heap.size _ _ _ _ _ _ _ _ _ _ _)
      clear b0 bf0 b1 bf1 b2 bf2 b3 bf3 b4 bf4 b5 bf5 b6 bf6 b7 bf7 b8 bf8 b9 bf9 b10 bf10
      generalize (((((((((((w2.setCell ⟨w.heap.size,0,none⟩ (.int .i64 0)).setCell ⟨w.heap.size,1,none⟩ (.int .i64 0)).setCell ⟨w.heap.size,2,none⟩ (.int .i64 0)).setCell ⟨w.heap.size,3,none⟩ (.slice none 0 0)).setCell ⟨w.heap.size,4,none⟩ (.slice none 0 0)).setCell ⟨w.heap.size,5,none⟩ (.slice none 0 0)).setCell ⟨w.heap.size,6,none⟩ (.slice none 0 0)).setCell ⟨w.heap.size,7,none⟩ (.slice none 0 0)).setCell ⟨w.heap.size,8,none⟩ (.slice none 0 0)).setCell ⟨w.heap.size,9,none⟩ (.int .i64 0)).setCell ⟨w.heap.size,10,none⟩ (.int .i64 0))=wE at *
      have r0:=HE.out.cell 0 _ rfl
      have r1:=HE.out.cell 1 _ rfl
      have r2:=HE.out.cell 2 _ rfl
      have r3:=HE.out.cell 3 _ rfl
      have r4:=HE.out.cell 4 _ rfl
      have r5:=HE.out.cell 5 _ rfl
      have r6:=HE.out.cell 6 _ rfl
      have r7:=HE.out.cell 7 _ rfl
      have r8:=HE.out.cell 8 _ rfl
      have r9:=HE.out.cell 9 _ rfl
      have r10:=HE.out.cell 10 _ rfl
      refine bodyPost_ret (v:=.tuple #[.agg z11,.int .i64 1]) (by simp[results,Tryz.results13,go_sem,r0,r1,r2,r3,r4,r5,r6,r7,r8,r9,r10]) rfl ?_
      have hbel:Below w.heap.size w wE:=(bl_trans HB1.out HB2.out).trans (HOn.out.below (Nat.le_trans HB1.out.size HB2.out.size) (fun k hk e=>by omega))
      exact ⟨tl0,rfl,tl0_own hbel,Nat.zero_le _,hbel⟩
  · have h0b:(v==0)=false:=by simpa using h0
    clear hno2
    go_enter Tryz.func13,Tryz.ntmps13
    go_wp2_with (first
      | (go_at_call 49
         refine HCK.out.mono ?_
         rintro e w2 ⟨rfl,b2⟩
         have HB2:=Lh b2
         have kb:=HKb.out.below HB2.out
         have b0:=kb.cell 0 _ rfl
         have bf0:=kb.frozen 0
         have b1:=kb.cell 1 _ rfl
         have bf1:=kb.frozen 1
         have b2:=kb.cell 2 _ rfl
         have bf2:=kb.frozen 2
         have b3:=kb.cell 3 _ rfl
         have bf3:=kb.frozen 3
         have b4:=kb.cell 4 _ rfl
         have bf4:=kb.frozen 4
         have b5:=kb.cell 5 _ rfl
         have bf5:=kb.frozen 5
         have b6:=kb.cell 6 _ rfl
         have bf6:=kb.frozen 6
         have b7:=kb.cell 7 _ rfl
         have bf7:=kb.frozen 7
         have b8:=kb.cell 8 _ rfl
         have bf8:=kb.frozen 8
         have b9:=kb.cell 9 _ rfl
         have bf9:=kb.frozen 9
         have b10:=kb.cell 10 _ rfl
         have bf10:=kb.frozen 10
         clear kb))
    have HE:Hid (Blk (((((((((((w2.setCell ⟨w.heap.size,0,none⟩ (.int .i64 0)).setCell ⟨w.heap.size,1,none⟩ (.int .i64 0)).setCell ⟨w.heap.size,2,none⟩ (.int .i64 0)).setCell ⟨w.heap.size,3,none⟩ (.slice none 0 0)).setCell ⟨w.heap.size,4,none⟩ (.slice none 0 0)).setCell ⟨w.heap.size,5,none⟩ (.slice none 0 0)).setCell ⟨w.heap.size,6,none⟩ (.slice none 0 0)).setCell ⟨w.heap.size,7,none⟩ (.slice none 0 0)).setCell ⟨w.heap.size,8,none⟩ (.slice none 0 0)).setCell ⟨w.heap.size,9,none⟩ (.int .i64 0)).setCell ⟨w.heap.size,10,none⟩ (.int .i64 0)) w.heap.size 34 z11):=Lh (fill_blk (HKb.out.below HB2.out))
    have HOn:Hid (Only (fun k=>k=w.heap.size) w2 (((((((((((w2.setCell ⟨w.heap.size,0,none⟩ (.int .i64 0)).setCell ⟨w.heap.size,1,none⟩ (.int .i64 0)).setCell ⟨w.heap.size,2,none⟩ (.int .i64 0)).setCell ⟨w.heap.size,3,none⟩ (.slice none 0 0)).setCell ⟨w.heap.size,4,none⟩ (.slice none 0 0)).setCell ⟨w.heap.size,5,none⟩ (.slice none 0 0)).setCell ⟨w.heap.size,6,none⟩ (.slice none 0 0)).setCell ⟨w.heap.size,7,none⟩ (.slice none 0 0)).setCell ⟨w.heap.size,8,none⟩ (.slice none 0 0)).setCell ⟨w.heap.size,9,none⟩ (.int .i64 0)).setCell ⟨w.heap.size,10,none⟩ (.int .i64 0))):=Lh (fill_only w2 w.heap.size _ _ _ _ _ _ _ _ _ _ _)
    clear b0 bf0 b1 bf1 b2 bf2 b3 bf3 b4 bf4 b5 bf5 b6 bf6 b7 bf7 b8 bf8 b9 bf9 b10 bf10
    generalize (((((((((((w2.setCell ⟨w.heap.size,0,none⟩ (.int .i64 0)).setCell ⟨w.heap.size,1,none⟩ (.int .i64 0)).setCell ⟨w.heap.size,2,none⟩ (.int .i64 0)).setCell ⟨w.heap.size,3,none⟩ (.slice none 0 0)).setCell ⟨w.heap.size,4,none⟩ (.slice none 0 0)).setCell ⟨w.heap.size,5,none⟩ (.slice none 0 0)).setCell ⟨w.heap.size,6,none⟩ (.slice none 0 0)).setCell ⟨w.heap.size,7,none⟩ (.slice none 0 0)).setCell ⟨w.heap.size,8,none⟩ (.slice none 0 0)).setCell ⟨w.heap.size,9,none⟩ (.int .i64 0)).setCell ⟨w.heap.size,10,none⟩ (.int .i64 0))=wE at *
    have r0:=HE.out.cell 0 _ rfl
    have r1:=HE.out.cell 1 _ rfl
    have r2:=HE.out.cell 2 _ rfl
    have r3:=HE.out.cell 3 _ rfl
    have r4:=HE.out.cell 4 _ rfl
    have r5:=HE.out.cell 5 _ rfl
    have r6:=HE.out.cell 6 _ rfl
    have r7:=HE.out.cell 7 _ rfl
    have r8:=HE.out.cell 8 _ rfl
    have r9:=HE.out.cell 9 _ rfl
    have r10:=HE.out.cell 10 _ rfl
    refine bodyPost_ret (v:=.tuple #[.agg z11,.int .i64 1]) (by simp[results,Tryz.results13,go_sem,r0,r1,r2,r3,r4,r5,r6,r7,r8,r9,r10]) rfl ?_
    have hbel:Below w.heap.size w wE:=(bl_trans HB1.out HB2.out).trans (HOn.out.below (Nat.le_trans HB1.out.size HB2.out.size) (fun k hk e=>by omega))
    exact ⟨tl0,rfl,tl0_own hbel,Nat.zero_le _,hbel⟩
theorem made8:(madeCells (Value.int .i64 0).cells (8 * 1)).toList=zs (List.replicate 8 0):=by first | rfl | kernel_rfl | (simp[madeCells,Value.cells,zs];done)
def t00 (who snap:Int):Try:=⟨who,snap,0,List.replicate 8 0,[],[],⟨[],[]⟩,[],0,0⟩
def x00 (b:Nat):TL:=⟨some ⟨b,0,none⟩,8,none,0,none,0,none,0,none,0,none,0,[]⟩
theorem tvl00 (who snap:Int) (b:Nat):(tvl (t00 who snap) (x00 b)++ []).toArray=#[.int .i64 who,.int .i64 snap,.int .i64 0,.slice (some ⟨b,0,none⟩) 8 8,.slice none 0 0,.slice none 0 0,.slice none 0 0,.slice none 0 0,.slice none 0 0,.int .i64 0,.int .i64 0]:=by
 unfold tvl t00 x00
 simp
theorem own0 {w0 w:World} {b:Nat} {who snap:Int} (hr:Own w0 w 3 1 (.slice (some ⟨b,0,none⟩) 8 8) 8 (zs (List.replicate 8 0))) (hn:∀(e k:Nat),Own w0 w e k (.slice none 0 0) 0 []):∀o∈(x00 b).os (t00 who snap),o.at_ w0 w:=by
 intro o ho
 unfold TL.os x00 t00 at ho
 simp only[List.map_nil,List.append_nil,List.mem_cons,List.not_mem_nil,or_false]at ho
 rcases ho with rfl | rfl | rfl | rfl | rfl | rfl
 ·exact hr
 ·exact hn _ _
 ·exact hn _ _
 ·exact hn _ _
 ·exact hn _ _
 ·exact hn _ _
theorem ap0 {b:Nat} (who snap:Int):((x00 b).os (t00 who snap)).Pairwise (fun a c=>Apart a.v c.v):=by
 unfold TL.os x00 t00
 simp[Apart,Value.ownBlock]
theorem off0 {b g:Nat} {who snap:Int} (h:b≠g):∀o∈(x00 b).os (t00 who snap),o.v.ownBlock≠some g:=by
 intro o ho
 unfold TL.os x00 t00 at ho
 simp only[List.map_nil,List.append_nil,List.mem_cons,List.not_mem_nil,or_false]at ho
 rcases ho with rfl | rfl | rfl | rfl | rfl | rfl
 ·simpa [Value.ownBlock] using h
 ·simp[Value.ownBlock]
 ·simp[Value.ownBlock]
 ·simp[Value.ownBlock]
 ·simp[Value.ownBlock]
 ·simp[Value.ownBlock]
set_option maxHeartbeats 4000000 in
theorem begin_yes (l:List Raw) (C:Option Addr) (n c:Nat) (who snap:Int) (w:World) (T:Try) (hat:At w C n l) (hnc:n≤c) (hlim:Lim l) (hn:n≤1000000) (hyes:begB (ss l) who snap=true) (hT:first (ss l) who snap=T):
    Calls Tryz.prog 13 #[.slice C n c,.int .i64 who,.int .i64 snap] w (RetTry w T 0):=by
  have HB1:Hid (Below w.heap.size w (w.alloc (.cells z11 34))):=Lh (bl_alloc (Below.refl _ _) _)
  have HKb:Hid (Blk (w.alloc (.cells z11 34)) w.heap.size 34 z11):=Lh (Blk.new _ _ _)
  have hyes2:(decide (checkS (ss l)=0) && (Stripe.whoB who && Reads.timeB snap))=true:=hyes
  rw[Bool.and_eq_true,Bool.and_eq_true,decide_eq_true_eq]at hyes2
  obtain ⟨y1,h1,h2⟩:=hyes2
  have HCK:=Lh (check_c l C n c (w.alloc (.cells z11 34)) 0 (hat.below HB1.out) hnc hlim y1 hn)
  have HLN:Hid ((ss l).length=n):=Lh (by rw[ss_len,hat.len])
  have HTT:=Lh hT
  obtain ⟨i,hi,z1,z2,z3⟩:=info_parts (P:=Tryz.prog) (e:=3) (z:=.int .i64 0) (size:=1) (bytes:=8) (by kernel_rfl)
  have HI:=Lh hi
  have Z1:=Lh z1
  have Z2:=Lh z2
  have Z3:=Lh z3
  clear hi z1 z2 z3
  clear hat hnc hlim hn hyes y1 hT
  go_enter Tryz.func13,Tryz.ntmps13
  go_wp2_with (first
    | (go_at_call 49
       refine HCK.out.mono ?_
       rintro e w2 ⟨rfl,b2⟩
       have HB2:=Lh b2)
    | (go_at_call 50
       refine (rwho_c who _).mono ?_
       rintro e w3 ⟨rfl,rfl⟩)
    | (go_at_call 51
       refine (Reads.tick_any snap _).mono ?_
       rintro e w4 ⟨rfl,rfl⟩)
    | (refine wpList_make_full _ rfl _ _ 27 rfl w2.heap.size 3 i (.int .i64 0) 1 Tryz.underlying27 HI.out Z1.out Z2.out .i64 .i64 8 8 8 (by rfl) (by rfl) (by rfl) (by rfl) (by rw[Z3.out];decide) (by unfold maxLen;decide) (Nat.le_refl _) ?_
       intro w5 ho hg
       have HG5:Hid (Below w2.heap.size w2 w5):=Lh (grown_below hg)
       have HR5:Hid (Own w2 w5 3 1 (.slice (some ⟨w2.heap.size,0,none⟩) 8 8) 8 (zs (List.replicate 8 0))):=Lh ⟨by rw[←made8];exact ho,HG5.out⟩
       clear ho hg)
    | (go_at_call 52
       have hb6:Below (w.alloc (.cells z11 34)).heap.size (w.alloc (.cells z11 34)) (w5.alloc (.cells #[.int .i64 who,.int .i64 snap,.int .i64 0,.slice (some ⟨w2.heap.size,0,none⟩) 8 8,.slice none 0 0,.slice none 0 0,.slice none 0 0,.slice none 0 0,.slice none 0 0,.int .i64 0,.int .i64 0] 34)):=bl_alloc (bl_trans HB2.out HG5.out) _
       have hr6:=((HR5.out.wide HB2.out).alloc (.cells #[.int .i64 who,.int .i64 snap,.int .i64 0,.slice (some ⟨w2.heap.size,0,none⟩) 8 8,.slice none 0 0,.slice none 0 0,.slice none 0 0,.slice none 0 0,.slice none 0 0,.int .i64 0,.int .i64 0] 34))
       have hnl:∀(e k:Nat),Own (w.alloc (.cells z11 34)) (w5.alloc (.cells #[.int .i64 who,.int .i64 snap,.int .i64 0,.slice (some ⟨w2.heap.size,0,none⟩) 8 8,.slice none 0 0,.slice none 0 0,.slice none 0 0,.slice none 0 0,.slice none 0 0,.int .i64 0,.int .i64 0] 34)) e k (.slice none 0 0) 0 []:=fun e k=>Own.nil_ hb6
       have HMA:Hid (MAt (w.alloc (.cells z11 34)) (w5.alloc (.cells #[.int .i64 who,.int .i64 snap,.int .i64 0,.slice (some ⟨w2.heap.size,0,none⟩) 8 8,.slice none 0 0,.slice none 0 0,.slice none 0 0,.slice none 0 0,.slice none 0 0,.int .i64 0,.int .i64 0] 34)) w5.heap.size 34 [] (t00 who snap) (x00 w2.heap.size)):=Lh ⟨Nat.le_trans HB2.out.size HG5.out.size,(by rw[tvl00];exact Blk.new _ _ _),⟨fun o ho=>own0 hr6 hnl o ho,ap0 _ _⟩,fun o ho=>off0 (by have:=HR5.out.lt w2.heap.size rfl;omega) o ho,rfl⟩
       refine (settle_c (w.alloc (.cells z11 34)) _ w5.heap.size 34 [] (t00 who snap) (x00 w2.heap.size) n T HMA.out (Nat.zero_le _) (Nat.zero_le _) (Nat.zero_le _) (by rw[←HTT.out];unfold first;rw[HLN.out];rfl)).mono ?_
       rintro e w10 ⟨rfl,x10,m10,v10,l10⟩
       have HM10:=Lh m10
       have HL10:=Lh l10
       obtain ⟨c0,c1,c2,c3,c4,c5,c6,c7,c8,c9,c10⟩:=m10.cells
       have kb:=HKb.out.below m10.bel
       have b0:=kb.cell 0 _ rfl
       have bf0:=kb.frozen 0
       have b1:=kb.cell 1 _ rfl
       have bf1:=kb.frozen 1
       have b2:=kb.cell 2 _ rfl
       have bf2:=kb.frozen 2
       have b3:=kb.cell 3 _ rfl
       have bf3:=kb.frozen 3
       have b4:=kb.cell 4 _ rfl
       have bf4:=kb.frozen 4
       have b5:=kb.cell 5 _ rfl
       have bf5:=kb.frozen 5
       have b6:=kb.cell 6 _ rfl
       have bf6:=kb.frozen 6
       have b7:=kb.cell 7 _ rfl
       have bf7:=kb.frozen 7
       have b8:=kb.cell 8 _ rfl
       have bf8:=kb.frozen 8
       have b9:=kb.cell 9 _ rfl
       have bf9:=kb.frozen 9
       have b10:=kb.cell 10 _ rfl
       have bf10:=kb.frozen 10
       clear kb
       clear m10 v10 l10 hb6 hr6 hnl))
  have HE:Hid (Blk (((((((((((w10.setCell ⟨w.heap.size,0,none⟩ (.int .i64 T.who)).setCell ⟨w.heap.size,1,none⟩ (.int .i64 T.snap)).setCell ⟨w.heap.size,2,none⟩ (.int .i64 T.pc)).setCell ⟨w.heap.size,3,none⟩ (.slice x10.R T.regs.length x10.rc)).setCell ⟨w.heap.size,4,none⟩ (.slice x10.P T.path.length x10.pc)).setCell ⟨w.heap.size,5,none⟩ (.slice x10.D T.reads.length x10.dc)).setCell ⟨w.heap.size,6,none⟩ (.slice x10.L T.log.list.length x10.lc)).setCell ⟨w.heap.size,7,none⟩ (.slice x10.M T.log.marks.length x10.mc)).setCell ⟨w.heap.size,8,none⟩ (.slice x10.F x10.fl.length x10.fc)).setCell ⟨w.heap.size,9,none⟩ (.int .i64 T.kind)).setCell ⟨w.heap.size,10,none⟩ (.int .i64 T.why)) w.heap.size 34 (aT T x10)):=Lh (fill_blk (HKb.out.below HM10.out.bel))
  have HOn:Hid (Only (fun k=>k=w.heap.size) w10 (((((((((((w10.setCell ⟨w.heap.size,0,none⟩ (.int .i64 T.who)).setCell ⟨w.heap.size,1,none⟩ (.int .i64 T.snap)).setCell ⟨w.heap.size,2,none⟩ (.int .i64 T.pc)).setCell ⟨w.heap.size,3,none⟩ (.slice x10.R T.regs.length x10.rc)).setCell ⟨w.heap.size,4,none⟩ (.slice x10.P T.path.length x10.pc)).setCell ⟨w.heap.size,5,none⟩ (.slice x10.D T.reads.length x10.dc)).setCell ⟨w.heap.size,6,none⟩ (.slice x10.L T.log.list.length x10.lc)).setCell ⟨w.heap.size,7,none⟩ (.slice x10.M T.log.marks.length x10.mc)).setCell ⟨w.heap.size,8,none⟩ (.slice x10.F x10.fl.length x10.fc)).setCell ⟨w.heap.size,9,none⟩ (.int .i64 T.kind)).setCell ⟨w.heap.size,10,none⟩ (.int .i64 T.why))):=Lh (fill_only w10 w.heap.size _ _ _ _ _ _ _ _ _ _ _)
  clear c0 b0 bf0 c1 b1 bf1 c2 b2 bf2 c3 b3 bf3 c4 b4 bf4 c5 b5 bf5 c6 b6 bf6 c7 b7 bf7 c8 b8 bf8 c9 b9 bf9 c10 b10 bf10
  generalize (((((((((((w10.setCell ⟨w.heap.size,0,none⟩ (.int .i64 T.who)).setCell ⟨w.heap.size,1,none⟩ (.int .i64 T.snap)).setCell ⟨w.heap.size,2,none⟩ (.int .i64 T.pc)).setCell ⟨w.heap.size,3,none⟩ (.slice x10.R T.regs.length x10.rc)).setCell ⟨w.heap.size,4,none⟩ (.slice x10.P T.path.length x10.pc)).setCell ⟨w.heap.size,5,none⟩ (.slice x10.D T.reads.length x10.dc)).setCell ⟨w.heap.size,6,none⟩ (.slice x10.L T.log.list.length x10.lc)).setCell ⟨w.heap.size,7,none⟩ (.slice x10.M T.log.marks.length x10.mc)).setCell ⟨w.heap.size,8,none⟩ (.slice x10.F x10.fl.length x10.fc)).setCell ⟨w.heap.size,9,none⟩ (.int .i64 T.kind)).setCell ⟨w.heap.size,10,none⟩ (.int .i64 T.why))=wE at *
  have r0:=HE.out.cell 0 _ rfl
  have r1:=HE.out.cell 1 _ rfl
  have r2:=HE.out.cell 2 _ rfl
  have r3:=HE.out.cell 3 _ rfl
  have r4:=HE.out.cell 4 _ rfl
  have r5:=HE.out.cell 5 _ rfl
  have r6:=HE.out.cell 6 _ rfl
  have r7:=HE.out.cell 7 _ rfl
  have r8:=HE.out.cell 8 _ rfl
  have r9:=HE.out.cell 9 _ rfl
  have r10:=HE.out.cell 10 _ rfl
  refine bodyPost_ret (v:=.tuple #[.agg (aT T x10),.int .i64 0]) (by simp[results,Tryz.results13,go_sem,r0,r1,r2,r3,r4,r5,r6,r7,r8,r9,r10]) rfl ?_
  have hW1:(w.alloc (.cells z11 34)).heap.size=w.heap.size+1:=by simp
  have hown:=(Owns.only (Owns.wide_ HM10.out.own HB1.out) HOn.out (fun o ho k hk e=>by have:=Own.base (HM10.out.own.1 o ho) k hk;omega) (fun k e=>by omega))
  have hbel:Below w.heap.size w wE:=(bl_trans HB1.out HM10.out.bel).trans (HOn.out.below (Nat.le_trans HB1.out.size HM10.out.bel.size) (fun k hk e=>by omega))
  exact ⟨x10,rfl,⟨hown,HM10.out.raw⟩,HL10.out,hbel⟩
end Go.Proofs.YtgghaodcfgbjlaaGreat.Attempt
namespace Go.Proofs.YtgghaodcfgbjlaaGreat.Attempt
open Mem Go.Proofs.YtgghaodcfgbjlaaGreat.Code
theorem Stack.mono {c:List Step} {p q:Nat} {fs:List Frame} (h:Stack c p fs) (hq:p≤q):Stack c q fs:=by
 cases fs with
 | nil=>exact trivial
 | cons f fs=>
  obtain ⟨h1,h2,h3,h4,h5,h6,h7,h8,h9⟩:=h
  exact ⟨h1,h2,h3,h4,h5,h6,by omega,h8,h9⟩
theorem Stack.lim_le {c:List Step}:∀{fs:List Frame} {q:Nat},Stack c q fs→lim c.length fs≤c.length:=by
 intro fs
 induction fs with
 | nil=>intro q _;exact Nat.le_refl _
 | cons f fs ih=>
  intro q hq
  obtain ⟨h1,h2,_,_,_,_,_,_,h9⟩:=hq
  have:=ih h9
  show f.mid≤_
  omega
theorem eithers_mono (c:List Step) {i j:Nat} (h:i≤j):eithers (c.take i)≤eithers (c.take j):=by
 unfold eithers
 have e:c.take i=(c.take j).take i:=by rw[List.take_take,Nat.min_eq_left h]
 rw[e]
 exact ((List.take_sublist i (c.take j)).filter _).length_le
structure Pre (c:List Step) (t:Try):Prop where
 ok:checkS c=0
 regs:t.regs.length=8
 marks:t.log.marks.length=t.frames.length
 log:Writes.rightB t.log=true
 rds:Reads.goodB t.reads=true
 snap:∀x∈t.reads,x.version≤t.snap
 rlen:t.reads.length≤t.pc
 wlen:t.log.list.length≤t.pc
 le:t.pc≤lim c.length t.frames
 well:(wellP (seg c t.pc (lim c.length t.frames))).2=true
 deep:(wellP (seg c t.pc (lim c.length t.frames))).1+t.frames.length≤6
 stack:Stack c t.path.length t.frames
 two:∀z∈t.path,z=1∨z=2
 plen:t.path.length≤eithers (c.take t.pc)
 ones:Ones t.path t.frames
theorem marksB_take (n:Int):∀(ms:List Int) (lo:Int) (k:Nat),Writes.marksB n lo ms=true→Writes.marksB n lo (ms.take k)=true:=by
 intro ms
 induction ms with
 | nil=>intro lo k h;simp[Writes.marksB]
 | cons m ms ih=>
  intro lo k h
  cases k with
  | zero=>rfl
  | succ k=>
   simp only[List.take_succ_cons,Writes.marksB,Bool.and_eq_true]at h ⊢
   exact ⟨h.1,ih m k h.2⟩
theorem keep_log (lg:Writes.Log) (h:Writes.rightB lg=true) (h0:0<lg.marks.length):(Writes.keepS lg).1=⟨lg.list,lg.marks.take (lg.marks.length - 1)⟩∧Writes.rightB (Writes.keepS lg).1=true:=by
 have e:Writes.keepS lg=(⟨lg.list,lg.marks.take (lg.marks.length - 1)⟩,0):=by
  unfold Writes.keepS
  rw[if_pos h,if_neg (by omega)]
 rw[e]
 refine ⟨rfl,?_⟩
 unfold Writes.rightB Writes.markB at h ⊢
 simp only[Bool.and_eq_true,decide_eq_true_eq]at h ⊢
 refine ⟨h.1,?_,marksB_take _ _ _ _ h.2.2⟩
 have:=h.2.1
 simp;omega
theorem settle_inv (c:List Step):∀(fs:List Frame) (t:Try),Pre c { t with frames:=fs }→t.kind=0→Inv c (settleF c.length fs t):=by
 intro fs
 induction fs with
 | nil=>
  intro t p hk
  have hle:t.pc≤c.length:=p.le
  unfold settleF stop
  split
  ·rename_i he
   exact ⟨p.ok,p.regs,p.marks,p.log,p.rds,p.snap,p.rlen,p.wlen,hle,fun h=>by simp at h,p.well,p.deep,p.stack,p.two,p.plen,p.ones⟩
  ·rename_i he
   exact ⟨p.ok,p.regs,p.marks,p.log,p.rds,p.snap,p.rlen,p.wlen,hle,fun _=>Nat.lt_of_le_of_ne hle he,p.well,p.deep,p.stack,p.two,p.plen,p.ones⟩
 | cons f fs ih=>
  intro t p hk
  obtain ⟨h1,h2,h3,h4,h5,h6,h7,h8,h9⟩:=p.stack
  unfold settleF
  split
  ·rename_i he
   have hm:0<t.log.marks.length:=by have:=p.marks;simp at this;omega
   obtain ⟨k1,k2⟩:=keep_log t.log p.log hm
   have hpc:t.pc≤f.fin:=by omega
   refine ih _ ⟨p.ok,p.regs,?_,k2,p.rds,p.snap,Nat.le_trans p.rlen hpc,?_,h2,h4,h6,h9.mono (Nat.le_of_lt h7),p.two,Nat.le_trans p.plen (eithers_mono c hpc),fun g hg=>p.ones g (List.mem_cons_of_mem _ hg)⟩ hk
   ·have :=p.marks
    rw[k1]
    simp at this ⊢
    omega
   ·show (Writes.keepS t.log).1.list.length≤f.fin
    rw[k1]
    exact Nat.le_trans p.wlen hpc
  ·rename_i he
   have hlt:t.pc<f.mid:=Nat.lt_of_le_of_ne p.le (fun e=>he e.symm)
   have hlc:lim c.length (f::fs)≤c.length:=p.stack.lim_le
   have hn:t.pc≠c.length:=by have:f.mid≤c.length:=hlc;omega
   unfold stop
   rw[if_neg hn]
   exact ⟨p.ok,p.regs,p.marks,p.log,p.rds,p.snap,p.rlen,p.wlen,by show t.pc≤c.length;have:f.mid≤c.length:=hlc;omega,fun _=>hlt,p.well,p.deep,p.stack,p.two,p.plen,p.ones⟩
theorem seg_all (c:List Step):seg c 0 c.length=c:=by unfold seg;simp
theorem first_inv (c:List Step) (who snap:Int) (h:begB c who snap=true):Inv c (first c who snap):=by
 unfold begB at h
 rw[Bool.and_eq_true,decide_eq_true_eq]at h
 obtain ⟨h1,h2,h3,h4⟩:=check_ok c h.1
 unfold first settle
 refine settle_inv c [] _ ⟨h.1,rfl,rfl,rfl,rfl,(fun x hx=>by cases hx),Nat.le_refl _,Nat.le_refl _,Nat.zero_le _,?_,?_,trivial,(fun z hz=>by cases hz),Nat.zero_le _,(fun f hf=>by cases hf)⟩ rfl
 ·show (wellP (seg c 0 c.length)).2=true
  rw[seg_all];exact h3
 ·show (wellP (seg c 0 c.length)).1+0≤6
  rw[seg_all];exact h4
theorem deep_tail (x:Step) (c:List Step) (ho:(x::c).all oneB=true) (h:(wellP (x::c)).2=true):(wellP c).1≤(wellP (x::c)).1:=by
 rw[List.all_cons,Bool.and_eq_true]at ho
 by_cases h7:x.d=7
 ·have h1:=one_either x ho.1 h7
  by_cases hlt:(c.length:Int)<x.a+x.b
  ·rw[well_out x c h7 hlt]at h;cases h
  ·obtain ⟨U,V,R,rfl,ha,hb⟩:=either_parts c x.a x.b (by omega) (by omega) (by omega)
   rw[well_either x U V R h7 ha hb]at h ⊢
   simp only[Bool.and_eq_true]at h
   obtain ⟨⟨hu,hv⟩,hr⟩:=h
   have h2:=ho.2
   rw[List.all_append,List.all_append,Bool.and_eq_true,Bool.and_eq_true]at h2
   obtain ⟨ou,ov,or⟩:=h2
   have e1:=behind_well V.length V R (Nat.le_refl _) ov hv hr
   rw[behind_well U.length U (V++R) (Nat.le_refl _) ou hu (by rw[e1]),e1]
   simp only
   omega
 ·by_cases h4:x.d=4∧(c.length:Int)<x.a
  ·rw[well_skip x c h4.1 h4.2]at h;cases h
  ·rw[well_plain x c h7 h4];exact Nat.le_refl _
theorem deep_drop (k:Nat):∀c:List Step,c.all oneB=true→(wellP c).2=true→(wellP (c.drop k)).1≤(wellP c).1:=by
 induction k with
 | zero=>intro c _ _;exact Nat.le_refl _
 | succ k ih=>
  intro c ho h
  cases c with
  | nil=>exact Nat.le_refl _
  | cons x c=>
   have h2:=Model.well_tail x c ho h
   have h3:=deep_tail x c ho h
   rw[List.all_cons,Bool.and_eq_true]at ho
   exact Nat.le_trans (ih c ho.2 h2) h3
theorem seg_cons (c:List Step) (i j:Nat) (s:Step) (hs:c[i]?=some s) (hj:i<j):seg c i j=s::seg c (i+1) j:=by
 obtain ⟨hl,rfl⟩:=List.getElem?_eq_some_iff.1 hs
 unfold seg
 rw[List.drop_eq_getElem_cons hl,show j - i=(j - (i+1))+1 by omega,List.take_succ_cons]
theorem seg_drop (c:List Step) (i j k:Nat):(seg c i j).drop k=seg c (i+k) j:=by
 unfold seg
 rw[List.drop_take,List.drop_drop,show j - i - k=j - (i+k) by omega]
theorem seg_len (c:List Step) (i j:Nat) (hj:j≤c.length):(seg c i j).length=j - i:=by
 unfold seg
 rw[List.length_take,List.length_drop]
 omega
theorem seg_all_one (c:List Step) (i j:Nat) (h:c.all oneB=true):(seg c i j).all oneB=true:=
 List.all_eq_true.2 fun x hx=>List.all_eq_true.1 h x (List.mem_of_mem_drop (List.mem_of_mem_take hx))
theorem seg_split (c:List Step) (i j k:Nat) (h1:i≤j) (h2:j≤k):seg c i k=seg c i j++seg c j k:=by
 unfold seg
 rw[show k - i=(j - i)+(k - j) by omega,List.take_add,List.drop_drop,show i+(j - i)=j by omega]
section
variable {c:List Step} {t u:Try} {s:Step}
theorem Inv.end_ (h:Inv c t) (k w:Int) (hk:k≠0):Inv c (ended t k w):=
 ⟨h.ok,h.regs,h.marks,h.log,h.rds,h.snap,h.rlen,h.wlen,h.top,fun e=>absurd e hk,h.well,h.deep,h.stack,h.two,h.plen,h.ones⟩
theorem Inv.all (h:Inv c t):c.all oneB=true:=(check_ok c h.ok).2.1
theorem Inv.part (h:Inv c t) (hk:t.kind=0) (hs:c[t.pc]?=some s):seg c t.pc (lim c.length t.frames)=s::seg c (t.pc+1) (lim c.length t.frames):=seg_cons c _ _ s hs (h.runs hk)
theorem Inv.go_ (h:Inv c t) (hk:t.kind=0) (hs:c[t.pc]?=some s) (j:Nat) (hj:t.pc+1+j≤lim c.length t.frames) (upc:u.pc=t.pc+1+j) (uf:u.frames=t.frames) (up:u.path=t.path) (ur:u.regs.length=8) (ul:Writes.rightB u.log=true) (um:u.log.marks=t.log.marks)
  (ull:u.log.list.length≤t.log.list.length+1) (urd:Reads.goodB u.reads=true) (us:∀x∈u.reads,x.version≤u.snap) (url:u.reads.length≤t.reads.length+1):Pre c u:=by
 have hp:=h.part hk hs
 have hw:=h.well
 have hd:=h.deep
 have ha:=seg_all_one c t.pc (lim c.length t.frames) h.all
 rw[hp]at hw hd ha
 have w1:=Model.well_tail _ _ ha hw
 have d1:=deep_tail _ _ ha hw
 have ha1:=seg_all_one c (t.pc+1) (lim c.length t.frames) h.all
 have w2:=Model.well_drop j _ ha1 w1
 have d2:=deep_drop j _ ha1 w1
 rw[seg_drop]at w2 d2
 refine ⟨h.ok,ur,by rw[um,uf];exact h.marks,ul,urd,us,?_,?_,?_,?_,?_,?_,?_,?_,?_⟩
 ·have:=h.rlen;omega
 ·have:=h.wlen;omega
 ·rw[upc,uf];exact hj
 ·rw[upc,uf];exact w2
 ·rw[upc,uf];omega
 ·rw[up,uf];exact h.stack
 ·rw[up];exact h.two
 ·rw[up,upc];exact Nat.le_trans h.plen (eithers_mono c (by omega))
 ·rw[up,uf];exact h.ones
theorem one_w (h:List Heap.Cell) (t:Try) (x:List Term.Op):Heap.vB (tellT t x h)=true→∀a:Int,0≤a→Writes.oneB ⟨a,tellT t x h⟩=true:=by
 intro hv a ha
 unfold Writes.oneB
 rw[hv,decide_eq_true ha];rfl
theorem put_pre (h:Inv c t) (hk:t.kind=0) (w:Heap.Write) (hw:Writes.oneB w=true) (hlen:t.pc<24):Writes.rightB (Writes.putS t.log w).1=true∧(Writes.putS t.log w).1.marks=t.log.marks∧(Writes.putS t.log w).1.list.length≤t.log.list.length+1:=by
 have hl:t.log.list.length≠24:=by have:=h.wlen;omega
 rw[Writes.put_new t.log w (by rw[h.log,hw];rfl) hl]
 exact ⟨Writes.put_right t.log w h.log hw hl,rfl,by simp⟩
end
section
variable {c:List Step} {t u:Try} {s:Step}
theorem eithers_succ (c:List Step) (i:Nat) (s:Step) (hs:c[i]?=some s) (hd:s.d=7):eithers (c.take (i+1))=eithers (c.take i)+1:=by
 unfold eithers
 rw[List.take_add_one,hs,List.filter_append,List.length_append]
 simp[hd]
theorem either_pre (h:Inv c t) (hk:t.kind=0) (hs:c[t.pc]?=some s) (hd:s.d=7):Pre c (eitherT t s):=by
 have hp:=h.part hk hs
 have hw:=h.well
 have hdp:=h.deep
 have hr:=h.runs hk
 have hlc:=h.stack.lim_le
 have hone:oneB s=true:=List.all_eq_true.1 h.all s (List.mem_of_getElem? hs)
 obtain ⟨a1,a2,b1,b2⟩:=one_either s hone hd
 have hl:=seg_len c (t.pc+1) (lim c.length t.frames) hlc
 rw[hp]at hw hdp
 by_cases ho:((seg c (t.pc+1) (lim c.length t.frames)).length:Int)<s.a+s.b
 ·rw[well_out s _ hd ho]at hw;cases hw
 obtain ⟨ka,hka⟩:=Int.eq_ofNat_of_zero_le (show 0≤s.a by omega)
 obtain ⟨kb,hkb⟩:=Int.eq_ofNat_of_zero_le (show 0≤s.b by omega)
 have hfit:t.pc+1+ka+kb≤lim c.length t.frames:=by omega
 have e1:=seg_split c (t.pc+1) (t.pc+1+ka) (lim c.length t.frames) (by omega) (by omega)
 have e2:=seg_split c (t.pc+1+ka) (t.pc+1+ka+kb) (lim c.length t.frames) (by omega) hfit
 have hU:=seg_len c (t.pc+1) (t.pc+1+ka) (by omega)
 have hV:=seg_len c (t.pc+1+ka) (t.pc+1+ka+kb) (by omega)
 rw[e1,e2,well_either s _ _ _ hd (by rw[hU,hka];omega) (by rw[hV,hkb];omega)]at hw hdp
 simp only[Bool.and_eq_true]at hw hdp
 obtain ⟨⟨hu,hv⟩,hrr⟩:=hw
 have e3:=behind_well _ (seg c (t.pc+1+ka) (t.pc+1+ka+kb)) (seg c (t.pc+1+ka+kb) (lim c.length t.frames)) (Nat.le_refl _) (seg_all_one c _ _ h.all) hv hrr
 rw[←e2]at e3
 have hm6:t.log.marks.length≠6:=by have:=h.marks;omega
 have hmk:=Writes.mark_new t.log h.log hm6
 have ta:s.a.toNat=ka:=by omega
 have tb:s.b.toNat=kb:=by omega
 unfold eitherT
 rw[ta,tb,hmk]
 refine ⟨h.ok,h.regs,?_,Writes.mark_right t.log h.log hm6,h.rds,h.snap,Nat.le_trans h.rlen (Nat.le_succ _),Nat.le_trans h.wlen (Nat.le_succ _),?_,hu,?_,⟨?_,hfit,?_,hrr,?_,?_,?_,h.regs,?_⟩,?_,?_,?_⟩
 ·have:=h.marks;simp;omega
 ·show t.pc+1≤t.pc+1+ka;omega
 ·show (wellP (seg c (t.pc+1) (t.pc+1+ka))).1+(t.frames.length+1)≤6;omega
 ·show t.pc+1+ka≤t.pc+1+ka+kb;omega
 ·show (wellP (seg c (t.pc+1+ka) (lim c.length t.frames))).2=true;rw[e3]
 ·show (wellP (seg c (t.pc+1+ka) (lim c.length t.frames))).1+t.frames.length≤6;rw[e3];simp only;omega
 ·show (wellP (seg c (t.pc+1+ka+kb) (lim c.length t.frames))).1+t.frames.length≤6;omega
 ·show t.path.length<(t.path++ [1]).length;simp
 ·exact h.stack
 ·intro z hz
  rcases List.mem_append.1 hz with hz | hz
  ·exact h.two z hz
  ·exact .inl (by simpa using hz)
 ·show (t.path++ [1]).length≤eithers (c.take (t.pc+1))
  rw[eithers_succ c t.pc s hs hd,List.length_append]
  exact Nat.add_le_add_right h.plen 1
 ·intro f hf
  rcases List.mem_cons.1 hf with rfl | hf
  ·show (t.path++ [1])[t.path.length]?=some 1
   rw[List.getElem?_append_right (Nat.le_refl _),Nat.sub_self];rfl
  ·have h1:=h.ones f hf
   show (t.path++ [1])[f.long]?=some 1
   rw[List.getElem?_append_left (List.getElem?_eq_some_iff.1 h1).1];exact h1
theorem marks_nonneg (n:Int):∀(ms:List Int) (lo:Int),Writes.marksB n lo ms=true→∀m∈ms,lo≤m:=by
 intro ms
 induction ms with
 | nil=>intro lo _ m hm;cases hm
 | cons x ms ih=>
  intro lo h m hm
  rw[Writes.marksB]at h
  simp only[Bool.and_eq_true,decide_eq_true_eq]at h
  rcases List.mem_cons.1 hm with rfl | hm
  ·exact h.1.1
  ·have:=ih x h.2 m hm;omega
theorem retry_pre (h:Inv c t) (f:Frame) (fs:List Frame) (hf:t.frames=f::fs) (hk:t.kind=0):Pre c (retryT t):=by
 have hst:=h.stack
 have hrun:=h.runs hk
 rw[hf]at hst hrun
 obtain ⟨h1,h2,h3,h4,h5,h6,h7,h8,h9⟩:=hst
 have hrun2:t.pc<f.mid:=hrun
 have hml:=h.marks
 rw[hf]at hml
 simp only[List.length_cons]at hml
 obtain ⟨m,hm⟩:∃m,t.log.marks[t.log.marks.length - 1]?=some m:=⟨_,List.getElem?_eq_getElem (by omega)⟩
 have hm0:=marks_nonneg _ _ _ ((Writes.right_parts t.log).1 h.log).2.2.2 m (List.mem_of_getElem? hm)
 obtain ⟨k,rfl⟩:=Int.eq_ofNat_of_zero_le hm0
 have hbk:=Writes.back_new t.log h.log k hm
 have hbr:=Writes.back_right t.log h.log k hm
 have ho1:=h.ones
 rw[hf]at ho1
 have hlen:=(List.getElem?_eq_some_iff.1 (ho1 f (List.mem_cons_self ..))).1
 unfold retryT
 rw[hf]
 simp only
 rw[hbk]
 refine ⟨h.ok,h8,?_,hbr,h.rds,h.snap,Nat.le_trans h.rlen (Nat.le_of_lt hrun2),?_,Nat.le_trans h1 h2,h3,h5,?_,?_,?_,?_⟩
 ·show (t.log.marks.take (t.log.marks.length - 1)).length=fs.length
  rw[List.length_take];omega
 ·show (t.log.list.take k).length≤f.mid
  have:=h.wlen
  rw[List.length_take];omega
 ·refine h9.mono ?_
  show f.long≤(t.path.take f.long++ [2]).length
  simp;omega
 ·intro z hz
  rcases List.mem_append.1 hz with hz | hz
  ·exact h.two z (List.mem_of_mem_take hz)
  ·exact .inr (by simpa using hz)
 ·show (t.path.take f.long++ [2]).length≤eithers (c.take f.mid)
  have:=h.plen
  have h10:=eithers_mono c (Nat.le_of_lt hrun2)
  simp;omega
 ·intro g hg
  show (t.path.take f.long++ [2])[g.long]?=some 1
  have h10:=ho1 g (List.mem_cons_of_mem _ hg)
  have h11:g.long<f.long:=by
   have :∀(fs:List Frame) (q:Nat),Stack c q fs→∀g∈fs,g.long<q:=by
    intro fs
    induction fs with
    | nil=>intro q _ g hg;cases hg
    | cons y fs ih=>
     intro q hq g hg
     obtain ⟨_,_,_,_,_,_,k7,_,k9⟩:=hq
     rcases List.mem_cons.1 hg with rfl | hg
     ·exact k7
     ·have:=ih _ k9 g hg;omega
   exact this fs _ h9 g hg
  rw[List.getElem?_append_left (by simp;omega),List.getElem?_take,if_pos h11]
  exact h10
end
theorem good_snoc (l:List Reads.Read) (x:Reads.Read) (h:Reads.goodB l=true) (hx:Reads.oneB x=true) (hf:Reads.findS l x.cell=none):Reads.goodB (l++ [x])=true:=by
 have hk:(l++ [x])[l.length]?=some x:=by rw[List.getElem?_append_right (Nat.le_refl _),Nat.sub_self];rfl
 have:=Reads.good_take (l++ [x]) l.length x hk
 rw[List.take_left,List.take_of_length_le (by simp)]at this
 rw[this,h,hx,←Reads.find_has,hf];rfl
theorem tell_v (t:Try) (x:List Term.Op) (h:List Heap.Cell):Heap.vB (tellT t x h)=true:=
 Model.tell_v ⟨h,fun _=>false,t.regs,[],fun _=>false,0,0⟩ x
section
variable {c:List Step} {t:Try} {s:Step} {h:List Heap.Cell} {r:List Stripe.Rec}
theorem do_inv (hi:Inv c t) (hk:t.kind=0) (hs:c[t.pc]?=some s) (hh:Heap.rightB h=true) (hr:Stripe.rightB r=true):((doT t s h r).kind=0→Pre c (doT t s h r))∧((doT t s h r).kind≠0→Inv c (doT t s h r)):=by
 have ho:oneB s=true:=List.all_eq_true.1 hi.all s (List.mem_of_getElem? hs)
 obtain ⟨d1,d7⟩:=one_d s ho
 have hrun:=hi.runs hk
 have hpc:=hi.pc_lt hk
 have hl24:=hi.len
 have ends:∀(k w:Int),k≠0→(((ended t k w).kind=0→Pre c (ended t k w))∧((ended t k w).kind≠0→Inv c (ended t k w))):=fun k w h0=>⟨fun e=>absurd e h0,fun _=>hi.end_ k w h0⟩
 have go0:∀u:Try,u.kind=0→Pre c u→((u.kind=0→Pre c u)∧(u.kind≠0→Inv c u)):=fun u hu hp=>⟨fun _=>hp,fun e=>absurd hu e⟩
 have regs8:∀a v:Int,(t.regs.set a.toNat v).length=8:=fun a v=>by rw[List.length_set];exact hi.regs
 unfold doT
 split
 ·rename_i e1
  obtain ⟨_,_,b0,_⟩:=one_1 s ho e1
  unfold loadT
  split
  ·rename_i hl
   unfold liveT
   split
   ·exact go0 _ hk (hi.go_ hk hs 0 (by omega) rfl rfl rfl (regs8 _ _) hi.log rfl (Nat.le_succ _) hi.rds hi.snap (Nat.le_succ _))
   ·split
    ·exact go0 _ hk (hi.go_ hk hs 0 (by omega) rfl rfl rfl (regs8 _ _) hi.log rfl (Nat.le_succ _) hi.rds hi.snap (Nat.le_succ _))
    ·rename_i hf
     split
     ·rename_i hc
      have hone:Reads.oneB ⟨s.b,(recAt r s.b).version,Heap.valAt h s.b⟩=true:=by
       have ht0:0<r.length:=by
        unfold Stripe.rightB at hr
        rw[Bool.and_eq_true,decide_eq_true_eq]at hr
        omega
       obtain ⟨j,rx,hj,hjn,hx⟩:=Reads.place_of r r.length rfl ht0 s.b
       have hrx:recAt r s.b=rx:=by unfold recAt;rw[hj,Int.toNat_natCast,hx];rfl
       obtain ⟨v0,v1⟩:=rec_ver r hr rx (List.mem_of_getElem? hx)
       rw[hrx]
       unfold Reads.oneB Reads.timeB
       simp only[Bool.and_eq_true,decide_eq_true_eq]
       exact ⟨b0,⟨v0,v1⟩,live_v h hh _ hl⟩
      refine go0 _ hk (hi.go_ hk hs 0 (by omega) rfl rfl rfl (regs8 _ _) hi.log rfl (Nat.le_succ _) (good_snoc t.reads _ hi.rds hone hf) ?_ ?_)
      ·intro x hx
       rcases List.mem_append.1 hx with hx | hx
       ·exact hi.snap x hx
       ·obtain rfl:x=⟨s.b,(recAt r s.b).version,Heap.valAt h s.b⟩:=by simpa using hx
        exact hc.2
      ·show (t.reads++ [_]).length≤t.reads.length+1
       simp
     ·exact ends 5 0 (by decide)
  ·exact ends 4 _ (by decide)
 split
 ·exact go0 _ hk (hi.go_ hk hs 0 (by omega) rfl rfl rfl (regs8 _ _) hi.log rfl (Nat.le_succ _) hi.rds hi.snap (Nat.le_succ _))
 split
 ·rename_i e1 e2 e3
  unfold storeT
  split
  ·rename_i hl
   have ha0:=(Heap.live_in h _ hl).1
   obtain ⟨p1,p2,p3⟩:=put_pre hi hk ⟨s.a,tellT t s.t h⟩ (one_w h t s.t (tell_v t s.t h) s.a ha0) (by omega)
   exact go0 _ hk (hi.go_ hk hs 0 (by omega) rfl rfl rfl hi.regs p1 p2 p3 hi.rds hi.snap (Nat.le_succ _))
  ·exact ends 4 _ (by decide)
 split
 ·rename_i e1 e2 e3 e4
  have hw:=hi.well
  rw[hi.part hk hs]at hw
  have hlen:=seg_len c (t.pc+1) (lim c.length t.frames) hi.stack.lim_le
  have hsk:=one_skip s ho e4
  have hfit:¬((seg c (t.pc+1) (lim c.length t.frames)).length:Int)<s.a:=fun e=>by
   rw[well_skip s _ e4 e]at hw;cases hw
  unfold skipT
  split
  ·refine go0 _ hk (hi.go_ hk hs s.a.toNat (by omega) ?_ rfl rfl hi.regs hi.log rfl (Nat.le_succ _) hi.rds hi.snap (Nat.le_succ _))
   show t.pc+(1+s.a.toNat)=t.pc+1+s.a.toNat
   omega
  ·exact go0 _ hk (hi.go_ hk hs 0 (by omega) rfl rfl rfl hi.regs hi.log rfl (Nat.le_succ _) hi.rds hi.snap (Nat.le_succ _))
 split
 ·cases hf:t.frames with
  | nil=>
   have e:retryT t=ended t 2 0:=by unfold retryT;rw[hf]
   rw[e];exact ends 2 0 (by decide)
  | cons f fs=>
   have e:(retryT t).kind=0:=by unfold retryT;rw[hf];exact hk
   exact go0 _ e (retry_pre hi f fs hf hk)
 split
 ·exact ends 3 _ (by decide)
 ·rename_i e1 e2 e3 e4 e5 e6
  exact go0 _ hk (either_pre hi hk hs (by omega))
theorem move_inv (hi:Inv c t) (hk:t.kind=0) (hs:c[t.pc]?=some s) (hh:Heap.rightB h=true) (hr:Stripe.rightB r=true):Inv c (moveS c.length s h r t):=by
 obtain ⟨h1,h2⟩:=do_inv hi hk hs hh hr
 unfold moveS
 split
 ·rename_i e
  exact settle_inv c _ _ (h1 e) e
 ·rename_i e
  exact h2 e
end
end Go.Proofs.YtgghaodcfgbjlaaGreat.Attempt
namespace Go.Proofs.YtgghaodcfgbjlaaGreat.Attempt
open Go.ChangeShapes Go.WideShapes Go.ChangeAt Go.RowKit Mem Go.Proofs.YtgghaodcfgbjlaaGreat.Code
theorem Stack.each {c:List Step}:∀{fs:List Frame} {q:Nat},Stack c q fs→∀f∈fs,f.long<q∧f.regs.length=8:=by
 intro fs
 induction fs with
 | nil=>intro q _ f hf;cases hf
 | cons y fs ih=>
  intro q hq f hf
  obtain ⟨_,_,_,_,_,_,k7,k8,k9⟩:=hq
  rcases List.mem_cons.1 hf with rfl | hf
  ·exact ⟨k7,k8⟩
  ·obtain ⟨h1,h2⟩:=ih k9 f hf
   exact ⟨by omega,h2⟩
theorem eithers_le (c:List Step):eithers c≤c.length:=by unfold eithers;exact List.length_filter_le _ _
theorem Inv.small {c:List Step} {t:Try} (h:Inv c t) {w:World} {x:TL} (hr:TRd w t x):Small t x:=by
 have hl:=h.len
 have ht:=h.top
 have h1:=h.rlen
 have h2:=h.wlen
 have h3:=(Writes.right_parts t.log).1 h.log
 have h4:=h.marks
 have h5:x.fl.length=t.frames.length:=by have:=congrArg List.length hr.raw;simpa using this
 have h6:=h.plen
 have h7:=eithers_le (c.take t.pc)
 rw[List.length_take]at h7
 exact ⟨h.regs,by omega,by omega,by omega,by have:=h3.2.2.1;omega,by have:=h3.2.2.1;omega,by omega⟩
theorem Inv.raws {c:List Step} {t:Try} (h:Inv c t) {w:World} {x:TL} (hr:TRd w t x):∀z∈x.fl,z.f.long≤t.path.length∧z.f.regs.length=8:=by
 intro z hz
 have hm:z.f∈t.frames:=by
  have:z.f∈x.fl.map FRaw.f:=List.mem_map_of_mem hz
  rw[hr.raw]at this
  simpa using this
 obtain ⟨h1,h2⟩:=h.stack.each z.f hm
 exact ⟨Nat.le_of_lt h1,h2⟩
theorem SPre.mk_ {w:World} {l:List Raw} {C:Option Addr} {n c:Nat} {h:List Heap.Cell} {HA:Option Addr} {hn:Nat} {r:List Stripe.Rec} {TA:Option Addr} {tn:Nat} {t:Try} {x:TL} (h1:At w C n l) (h2:n≤c) (h3:Lim l) (h4:n≤1000000) (h5:Rd w 2 HA hn (Heap.cs h)) (h6:hn≤1000000)
  (h7:Rd w 2 TA tn (Stripe.rs r)) (h8:tn≤1000000) (h9:TRd w t x) (hi:Inv (ss l) t):SPre w l C n c h HA hn r TA tn t x:=
 ⟨h1,h2,h3,h4,h5,h6,h7,h8,h9,hi,hi.small h9,fun f hf=>(hi.raws h9 f hf).1,fun f hf=>(hi.raws h9 f hf).2⟩
theorem step_inv {c:List Step} {t T:Try} {h:List Heap.Cell} {r:List Stripe.Rec} {ok:Bool} (hi:Inv c t) (hS:stepS c h r t=(T,ok)):Inv c T:=by
 unfold stepS at hS
 split at hS
 ·rename_i s hs
  split at hS
  ·rename_i hm
   injection hS with e1 e2
   rw[←e1]
   unfold mayB at hm
   rw[Bool.and_eq_true,Bool.and_eq_true,decide_eq_true_eq]at hm
   exact move_inv hi hm.2.2 hs hm.1 hm.2.1
  ·injection hS with e1 e2
   rw[←e1];exact hi
 ·injection hS with e1 e2
  rw[←e1];exact hi
theorem begin_c (l:List Raw) (C:Option Addr) (n c:Nat) (who snap:Int) (w:World) (T:Try) (ok:Bool) (hat:At w C n l) (hnc:n≤c) (hlim:Lim l) (hn:n≤1000000) (hB:beginS (ss l) who snap=(T,ok)):
  Calls Tryz.prog 13 #[.slice C n c,.int .i64 who,.int .i64 snap] w (RetTry w T (if ok=true then 0 else 1)):=by
 unfold beginS at hB
 cases hb:begB (ss l) who snap with
 | true=>
  rw[hb]at hB
  injection hB with e1 e2
  subst e2
  exact begin_yes l C n c who snap w T hat hnc hlim hn hb e1
 | false=>
  rw[hb]at hB
  injection hB with e1 e2
  subst e1 e2
  exact begin_no l C n c who snap w hat hnc hlim hn hb
theorem begin_inv {c:List Step} {who snap:Int} {T:Try} (hB:beginS c who snap=(T,true)):Inv c T:=by
 unfold beginS at hB
 cases hb:begB c who snap with
 | true=>
  rw[hb]at hB
  injection hB with e1 e2
  rw[←e1];exact first_inv c who snap hb
 | false=>
  rw[hb]at hB
  injection hB with e1 e2
  cases e2
end Go.Proofs.YtgghaodcfgbjlaaGreat.Attempt
namespace Go.Proofs.YtgghaodcfgbjlaaGreat.Attempt
open Mem Go.Proofs.YtgghaodcfgbjlaaGreat.Code
theorem settle_pc (c:List Step):∀(fs:List Frame) (q:Nat) (t:Try),Stack c q fs→t.pc≤(settleF c.length fs t).pc:=by
 intro fs
 induction fs with
 | nil=>intro q t _;unfold settleF stop;split <;> exact Nat.le_refl _
 | cons f fs ih=>
  intro q t hq
  obtain ⟨h1,h2,_,_,_,_,_,_,h9⟩:=hq
  unfold settleF
  split
  ·rename_i he
   refine Nat.le_trans ?_ (ih _ _ h9)
   show t.pc≤f.fin
   omega
  ·unfold stop;split <;> exact Nat.le_refl _
section
variable {c:List Step} {t:Try} {s:Step} {h:List Heap.Cell} {r:List Stripe.Rec}
theorem do_pc (hi:Inv c t) (hk:t.kind=0) (h0:(doT t s h r).kind=0):t.pc<(doT t s h r).pc:=by
 have hrun:=hi.runs hk
 have key:(doT t s h r).kind≠0∨t.pc<(doT t s h r).pc:=by
  unfold doT
  split
  ·unfold loadT
   split
   ·unfold liveT
    split
    ·exact .inr (Nat.lt_succ_self _)
    ·split
     ·exact .inr (Nat.lt_succ_self _)
     ·split
      ·exact .inr (Nat.lt_succ_self _)
      ·exact .inl (by show (5:Int)≠0;decide)
   ·exact .inl (by show (4:Int)≠0;decide)
  split
  ·exact .inr (Nat.lt_succ_self _)
  split
  ·unfold storeT
   split
   ·exact .inr (Nat.lt_succ_self _)
   ·exact .inl (by show (4:Int)≠0;decide)
  split
  ·unfold skipT
   split
   ·refine .inr ?_
    show t.pc<t.pc+(1+s.a.toNat)
    omega
   ·exact .inr (Nat.lt_succ_self _)
  split
  ·cases hf:t.frames with
   | nil=>
    have e:retryT t=ended t 2 0:=by unfold retryT;rw[hf]
    rw[e];exact .inl (by show (2:Int)≠0;decide)
   | cons f fs=>
    have e:(retryT t).pc=f.mid:=by unfold retryT;rw[hf]
    rw[e]
    rw[hf]at hrun
    exact .inr hrun
  split
  ·exact .inl (by show (3:Int)≠0;decide)
  ·exact .inr (Nat.lt_succ_self _)
 rcases key with k | k
 ·exact absurd h0 k
 ·exact k
theorem move_pc (hi:Inv c t) (hk:t.kind=0) (hs:c[t.pc]?=some s) (hh:Heap.rightB h=true) (hr:Stripe.rightB r=true) (h0:(moveS c.length s h r t).kind=0):t.pc<(moveS c.length s h r t).pc:=by
 unfold moveS at h0 ⊢
 split
 ·rename_i e
  have h1:=do_pc (s:=s) (h:=h) (r:=r) hi hk e
  have h2:=(do_inv hi hk hs hh hr).1 e
  exact Nat.lt_of_lt_of_le h1 (settle_pc c _ _ _ h2.stack)
 ·rename_i e
  rw[if_neg e]at h0
  exact absurd h0 e
end
theorem step_pc {c:List Step} {t T:Try} {h:List Heap.Cell} {r:List Stripe.Rec} (hi:Inv c t) (hS:stepS c h r t=(T,true)):t.kind=0∧(T.kind=0→t.pc<T.pc):=by
 unfold stepS at hS
 split at hS
 ·rename_i s hs
  split at hS
  ·rename_i hm
   injection hS with e1 _
   unfold mayB at hm
   rw[Bool.and_eq_true,Bool.and_eq_true,decide_eq_true_eq]at hm
   refine ⟨hm.2.2,fun h0=>?_⟩
   rw[←e1]at h0 ⊢
   exact move_pc hi hm.2.2 hs hm.1 hm.2.1 h0
  ·injection hS with _ e2;cases e2
 ·injection hS with _ e2;cases e2
theorem run_ended (c:List Step) (h:List Heap.Cell) (r:List Stripe.Rec) (f:Nat) (t:Try) (k:Nat) (hk:t.kind≠0):runF c h r f t k=(t,k,true):=by
 cases f with
 | zero=>rfl
 | succ f=>show (if t.kind=0 then _ else _)=_;rw[if_neg hk]
theorem run_go {c:List Step} {h:List Heap.Cell} {r:List Stripe.Rec} {f:Nat} {t T:Try} {k:Nat} (hk:t.kind=0) (hS:stepS c h r t=(T,true)):runF c h r (f+1) t k=runF c h r f T (k+1):=by
 show (if t.kind=0 then (if (stepS c h r t).2=true then runF c h r f (stepS c h r t).1 (k+1) else (t,k,false)) else (t,k,true))=_
 rw[if_pos hk,hS,if_pos rfl]
theorem run_no {c:List Step} {h:List Heap.Cell} {r:List Stripe.Rec} {f:Nat} {t T:Try} {k:Nat} (hk:t.kind=0) (hS:stepS c h r t=(T,false)):runF c h r (f+1) t k=(t,k,false):=by
 show (if t.kind=0 then (if (stepS c h r t).2=true then runF c h r f (stepS c h r t).1 (k+1) else (t,k,false)) else (t,k,true))=_
 rw[if_pos hk,hS,if_neg (by show¬(false=true);decide)]
theorem run_ind {c:List Step} {h:List Heap.Cell} {r:List Stripe.Rec} (P:Try→Prop) (hP:∀t T,Inv c t→P t→stepS c h r t=(T,true)→P T):∀(f:Nat) (t:Try) (k:Nat),Inv c t→P t→c.length+1≤f+t.pc∨t.kind≠0→(runF c h r f t k).2.2=true→
  P (runF c h r f t k).1∧Inv c (runF c h r f t k).1∧(runF c h r f t k).1.kind≠0∧(runF c h r f t k).2.1+t.pc≤k+c.length∨t.kind≠0∧runF c h r f t k=(t,k,true):=by
 intro f
 induction f with
 | zero=>
  intro t k hi hp hf _
  rcases hf with hf | hf
  ·have:=hi.top;omega
  ·exact .inr ⟨hf,rfl⟩
 | succ f ih=>
  intro t k hi hp hf hok
  by_cases hk:t.kind=0
  ·cases hs:stepS c h r t with
   | mk T ok=>
    cases ok with
    | false=>rw[run_no hk hs]at hok;cases hok
    | true=>
     rw[run_go hk hs]at hok ⊢
     have hpc:=hi.pc_lt hk
     obtain ⟨_,h2⟩:=step_pc hi hs
     have hi2:=step_inv hi hs
     have hp2:=hP t T hi hp hs
     by_cases hkT:T.kind=0
     ·have h3:=h2 hkT
      have hf2:c.length+1≤f+1+t.pc:=by rcases hf with hf | hf;exact hf;exact absurd hk hf
      rcases ih T (k+1) hi2 hp2 (.inl (by omega)) hok with ⟨a,b,d,e⟩ | ⟨a,_⟩
      ·exact .inl ⟨a,b,d,by omega⟩
      ·exact absurd hkT a
     ·rw [run_ended c h r f T (k+1) hkT]
      exact .inl ⟨hp2,hi2,hkT,by show k+1+t.pc≤k+c.length;omega⟩
  ·exact .inr ⟨hk,run_ended c h r _ t k hk⟩
theorem run_inv {c:List Step} {h:List Heap.Cell} {r:List Stripe.Rec} {t T:Try} {k:Nat} {ok:Bool} (hi:Inv c t) (hR:runS c h r t=(T,k,ok)):Inv c T∧(ok=true→T.kind≠0∧k≤c.length):=by
 unfold runS at hR
 split at hR
 ·rename_i h1
  rcases run_ind (P:=fun _=>True) (fun _ _ _ _ _=>trivial) (c.length+1) t 0 hi trivial (.inl (Nat.le_add_right _ _)) h1 with ⟨_,a,b,d⟩ | ⟨a,b⟩
  ·rw [hR]at a b d
   refine ⟨a,fun _=>⟨b,?_⟩⟩
   have d2:k+t.pc≤0+c.length:=d
   omega
  ·rw [b]at hR
   injection hR with e1 e2
   injection e2 with e2 e3
   subst e1 e2
   exact ⟨hi,fun _=>⟨a,Nat.zero_le _⟩⟩
 ·injection hR with e1 e2
  injection e2 with e2 e3
  subst e1 e2 e3
  exact ⟨hi,fun e=>by cases e⟩
end Go.Proofs.YtgghaodcfgbjlaaGreat.Attempt
