/-
 WHAT THE LAYER attempt DOES, AS IT IS WRITTEN: a step that is done. No conditions beyond those that each theorem states.
-/
import Derived.Test.YtgghaodcfgbjlaaGreatAttC
import Derived.Test.YtgghaodcfgbjlaaGreatAttA
import Derived.Test.YtgghaodcfgbjlaaGreatMemA
import Derived.Test.YtgghaodcfgbjlaaGreatStripeA
import Derived.Test.YtgghaodcfgbjlaaGreatAttB
import Derived.Test.YtgghaodcfgbjlaaGreatCodeA
set_option maxRecDepth 100000
namespace Go.Proofs.YtgghaodcfgbjlaaGreat.Attempt
open Go.ChangeShapes Go.WideShapes Go.ChangeAt Go.RowKit Mem Go.Proofs.YtgghaodcfgbjlaaGreat.Code
structure SPre (w:World) (l:List Raw) (C:Option Addr) (n c:Nat) (h:List Heap.Cell) (HA:Option Addr) (hn:Nat) (r:List Stripe.Rec) (TA:Option Addr) (tn:Nat) (t:Try) (x:TL):Prop where
 code:At w C n l
 nc:n≤c
 lim:Lim l
 n6:n≤1000000
 heap:Rd w 2 HA hn (Heap.cs h)
 hn6:hn≤1000000
 tab:Rd w 2 TA tn (Stripe.rs r)
 tn6:tn≤1000000
 rd:TRd w t x
 inv:Inv (ss l) t
 sm:Small t x
 long:∀f∈x.fl,f.f.long≤t.path.length
 r8:∀f∈x.fl,f.f.regs.length=8
structure TOwn (w0 w:World) (t:Try) (x:TL):Prop where
 own:Owns w0 w (x.os t)
 raw:x.fl.map FRaw.f=t.frames.reverse
def RetTry (w:World) (t:Try) (f:Int) (e:Ending) (w' :World):Prop:=∃y,e=.returned (.tuple #[.agg (tvl t y).toArray,.int .i64 f])∧TOwn w w' t y∧y.fl.length≤1000000∧Below w.heap.size w w'
theorem fill_blk {w:World} {g:Nat} {ty:TypeId} {z0 z1 z2 z3 z4 z5 z6 z7 z8 z9 z10 v0 v1 v2 v3 v4 v5 v6 v7 v8 v9 v10:Value} (h:Blk w g ty #[z0,z1,z2,z3,z4,z5,z6,z7,z8,z9,z10]):Blk (((((((((((w.setCell ⟨g,0,none⟩ v0).setCell ⟨g,1,none⟩ v1).setCell ⟨g,2,none⟩ v2).setCell ⟨g,3,none⟩ v3).setCell ⟨g,4,none⟩ v4).setCell ⟨g,5,none⟩ v5).setCell ⟨g,6,none⟩ v6).setCell ⟨g,7,none⟩ v7).setCell ⟨g,8,none⟩ v8).setCell ⟨g,9,none⟩ v9).setCell ⟨g,10,none⟩ v10) g ty #[v0,v1,v2,v3,v4,v5,v6,v7,v8,v9,v10]:=by
 have:=((((((((((h.set_ 0 v0).set_ 1 v1).set_ 2 v2).set_ 3 v3).set_ 4 v4).set_ 5 v5).set_ 6 v6).set_ 7 v7).set_ 8 v8).set_ 9 v9).set_ 10 v10
 simpa using this
theorem fill_only (w:World) (g:Nat) (v0 v1 v2 v3 v4 v5 v6 v7 v8 v9 v10:Value):Only (fun k=>k=g) w (((((((((((w.setCell ⟨g,0,none⟩ v0).setCell ⟨g,1,none⟩ v1).setCell ⟨g,2,none⟩ v2).setCell ⟨g,3,none⟩ v3).setCell ⟨g,4,none⟩ v4).setCell ⟨g,5,none⟩ v5).setCell ⟨g,6,none⟩ v6).setCell ⟨g,7,none⟩ v7).setCell ⟨g,8,none⟩ v8).setCell ⟨g,9,none⟩ v9).setCell ⟨g,10,none⟩ v10):=
  (((((((((((Only.refl (fun k=>k=g) w).put g 0 _ rfl).put g 1 _ rfl).put g 2 _ rfl).put g 3 _ rfl).put g 4 _ rfl).put g 5 _ rfl).put g 6 _ rfl).put g 7 _ rfl).put g 8 _ rfl).put g 9 _ rfl).put g 10 _ rfl
theorem Owns.wide_ {w0 w1 w:World} {l:List OS} (h:Owns w1 w l) (hb:Below w0.heap.size w0 w1):Owns w0 w l:=⟨fun o ho=>Own.wide (h.1 o ho) hb,h.2⟩
theorem TRd.of_owns {w0 w:World} {t:Try} {x:TL} (h:Owns w0 w (x.os t)) (hr:x.fl.map FRaw.f=t.frames.reverse):TRd w t x:=by
 have h3:=own_rd_any (h.mem 3 rfl)
 have h4:=own_rd_any (h.mem 4 rfl)
 exact ⟨(own_rd_any (h.mem 0 rfl)).1,(own_rd_any (h.mem 1 rfl)).1,(own_rd_any (h.mem 2 rfl)).1,(own_rd_any (h.mem 2 rfl)).2,⟨h3.1,h4.1,h3.2,h4.2⟩,(own_rd_any (h.mem 5 rfl)).1,fun r hm=>(own_rd_any (h.1 _ (ros_mem hm))).1,hr⟩
theorem TOwn.rd {w0 w:World} {t:Try} {x:TL} (h:TOwn w0 w t x):TRd w t x:=TRd.of_owns h.own h.raw
theorem TOwn.below {w0 w w' :World} {t:Try} {x:TL} (h:TOwn w0 w t x) (hb:Below w.heap.size w w'):TOwn w0 w' t x:=⟨Owns.below h.own hb,h.raw⟩
theorem TOwn.wide {w0 w1 w:World} {t:Try} {x:TL} (h:TOwn w1 w t x) (hb:Below w0.heap.size w0 w1):TOwn w0 w t x:=⟨Owns.wide_ h.own hb,h.raw⟩
set_option maxHeartbeats 8000000 in
theorem step_no (l:List Raw) (C:Option Addr) (n c:Nat) (h:List Heap.Cell) (HA:Option Addr) (hn hc:Nat) (r:List Stripe.Rec) (TA:Option Addr) (tn tc:Nat) (t:Try) (x:TL) (w:World) (p:SPre w l C n c h HA hn r TA tn t x) (hno:mayB h r t=false):
    Calls Tryz.prog 18 #[.agg (tvl t x).toArray,.slice C n c,.slice HA hn hc,.slice TA tn tc] w (RetTry w t 1):=by
  have HB1:Hid (Below w.heap.size w ((w.alloc (.cells (aT t x) 34)).alloc (.cells z11 34))):=Lh (bl_alloc (bl_alloc (Below.refl _ _) _) _)
  have HKa:Hid (Blk ((w.alloc (.cells (aT t x) 34)).alloc (.cells z11 34)) w.heap.size 34 (aT t x)):=Lh ((Blk.new w _ _).alloc _)
  have HKb:Hid (Blk ((w.alloc (.cells (aT t x) 34)).alloc (.cells z11 34)) (w.heap.size+1) 34 z11):=Lh (by have:=Blk.new (w.alloc (.cells (aT t x) 34)) 34 z11;simpa using this)
  have HCL:Hid (Calls Tryz.prog 60 #[.agg (aT t x)] ((w.alloc (.cells (aT t x) 34)).alloc (.cells z11 34)) fun e w' =>∃x1:TL,e=.returned (.agg (aT t x1))∧Owns ((w.alloc (.cells (aT t x) 34)).alloc (.cells z11 34)) w' (x1.os t)∧x1.fl.map FRaw.f=t.frames.reverse∧x1.fl.length≤1000000∧Below ((w.alloc (.cells (aT t x) 34)).alloc (.cells z11 34)).heap.size ((w.alloc (.cells (aT t x) 34)).alloc (.cells z11 34)) w'):=Lh (clone_t t x ((w.alloc (.cells (aT t x) 34)).alloc (.cells z11 34)) (p.rd.below HB1.out) (by rw[p.sm.regs];decide) (Nat.le_trans p.sm.path (by decide)) (Nat.le_trans p.sm.reads (by decide)) (Nat.le_trans p.sm.list (by decide)) (Nat.le_trans p.sm.marks (by decide)) (Nat.le_trans p.sm.fl (by decide)) (fun f hf=>by rw[p.r8 f hf];decide))
  have HP:=Lh p
  have hhn:=p.hn6
  have htn:=p.tn6
  have hpk :t.kind=0→t.pc<n:=fun hk=>by
    have h1:=p.inv.runs hk
    have h2 :∀fs,Stack (ss l) t.path.length fs→lim (ss l).length fs≤(ss l).length:=by
      intro fs hs
      have :∀(fs:List Frame) (q:Nat),Stack (ss l) q fs→lim (ss l).length fs≤(ss l).length:=by
        intro fs
        induction fs with
        | nil=>intro q _;exact Nat.le_refl _
        | cons f fs ih=>
          intro q hq
          obtain ⟨h1,h2,_,_,_,_,_,_,h9⟩:=hq
          have:=ih _ h9
          show f.mid≤_
          omega
      exact this fs _ hs
    have h3:=h2 t.frames p.inv.stack
    have h4:(ss l).length=n:=by rw[ss_len,p.code.len]
    omega
  have HMAY:=Lh (fun (W:World) (hW:Below w.heap.size w W) (b:Bool) (hb:decide (t.kind=0)=b)=>may_c t x l C n c W b (p.rd.below hW) (p.code.below hW) p.nc p.lim p.n6 p.inv.ok hpk p.sm.regs (Nat.le_trans p.sm.fl (by decide)) p.long hb)
  have hno2:(Heap.rightB h && (Stripe.rightB r && decide (t.kind=0)))=false:=hno
  clear p hpk hno
  show Calls Tryz.prog 18 #[.agg (aT t x),.slice C n c,.slice HA hn hc,.slice TA tn tc] w (RetTry w t 1)
  cases hrb:Heap.rightB h with
  | false =>
    have HRB:=Lh hrb
    go_enter Tryz.func18,Tryz.ntmps18
    go_wp2_with (first
      | (go_at_call 60
         refine HCL.out.mono ?_
         rintro e w2 ⟨x1,rfl,hown,hraw,hf6,hb2⟩
         have HO:=Lh hown
         have HRW:=Lh hraw
         have HF6:=Lh hf6
         have HB2:=Lh (bl_trans HB1.out (bl_alloc hb2 (.cells (aT t x1) 34)))
         have HKc:Hid (Blk (w2.alloc (.cells (aT t x1) 34)) w2.heap.size 34 (aT t x1)):=Lh (Blk.new _ _ _)
         have HKa2:=Lh ((HKa.out.below hb2).alloc (.cells (aT t x1) 34))
         have HKb2:=Lh ((HKb.out.below hb2).alloc (.cells (aT t x1) 34))
         have HOW2:=Lh (hown.below (bl_alloc (Below.refl w2.heap.size w2) (.cells (aT t x1) 34)))
         clear hown hraw hf6 hb2)
      | (go_at_call 61
         refine (Heap.right_c h HA hn hc (w2.alloc (.cells (aT t x1) 34)) false (HP.out.heap.below HB2.out) hhn HRB.out).mono ?_
         rintro e w3 ⟨rfl,b3⟩
         have HB3:=Lh b3
         clear b3
         have kc:=HKc.out.below HB3.out
         have kb:=HKb2.out.below HB3.out
         have c0:=kc.cell 0 _ rfl
         have b0:=kb.cell 0 _ rfl
         have bf0:=kb.frozen 0
         have c1:=kc.cell 1 _ rfl
         have b1:=kb.cell 1 _ rfl
         have bf1:=kb.frozen 1
         have c2:=kc.cell 2 _ rfl
         have b2:=kb.cell 2 _ rfl
         have bf2:=kb.frozen 2
         have c3:=kc.cell 3 _ rfl
         have b3:=kb.cell 3 _ rfl
         have bf3:=kb.frozen 3
         have c4:=kc.cell 4 _ rfl
         have b4:=kb.cell 4 _ rfl
         have bf4:=kb.frozen 4
         have c5:=kc.cell 5 _ rfl
         have b5:=kb.cell 5 _ rfl
         have bf5:=kb.frozen 5
         have c6:=kc.cell 6 _ rfl
         have b6:=kb.cell 6 _ rfl
         have bf6:=kb.frozen 6
         have c7:=kc.cell 7 _ rfl
         have b7:=kb.cell 7 _ rfl
         have bf7:=kb.frozen 7
         have c8:=kc.cell 8 _ rfl
         have b8:=kb.cell 8 _ rfl
         have bf8:=kb.frozen 8
         have c9:=kc.cell 9 _ rfl
         have b9:=kb.cell 9 _ rfl
         have bf9:=kb.frozen 9
         have c10:=kc.cell 10 _ rfl
         have b10:=kb.cell 10 _ rfl
         have bf10:=kb.frozen 10
         clear kc kb))
    have HE:Hid (Blk (((((((((((w3.setCell ⟨w.heap.size+1,0,none⟩ (.int .i64 t.who)).setCell ⟨w.heap.size+1,1,none⟩ (.int .i64 t.snap)).setCell ⟨w.heap.size+1,2,none⟩ (.int .i64 t.pc)).setCell ⟨w.heap.size+1,3,none⟩ (.slice x1.R t.regs.length x1.rc)).setCell ⟨w.heap.size+1,4,none⟩ (.slice x1.P t.path.length x1.pc)).setCell ⟨w.heap.size+1,5,none⟩ (.slice x1.D t.reads.length x1.dc)).setCell ⟨w.heap.size+1,6,none⟩ (.slice x1.L t.log.list.length x1.lc)).setCell ⟨w.heap.size+1,7,none⟩ (.slice x1.M t.log.marks.length x1.mc)).setCell ⟨w.heap.size+1,8,none⟩ (.slice x1.F x1.fl.length x1.fc)).setCell ⟨w.heap.size+1,9,none⟩ (.int .i64 t.kind)).setCell ⟨w.heap.size+1,10,none⟩ (.int .i64 t.why)) (w.heap.size+1) 34 (aT t x1)):=Lh (fill_blk (HKb2.out.below HB3.out))
    have HOn:Hid (Only (fun k=>k=w.heap.size+1) w3 (((((((((((w3.setCell ⟨w.heap.size+1,0,none⟩ (.int .i64 t.who)).setCell ⟨w.heap.size+1,1,none⟩ (.int .i64 t.snap)).setCell ⟨w.heap.size+1,2,none⟩ (.int .i64 t.pc)).setCell ⟨w.heap.size+1,3,none⟩ (.slice x1.R t.regs.length x1.rc)).setCell ⟨w.heap.size+1,4,none⟩ (.slice x1.P t.path.length x1.pc)).setCell ⟨w.heap.size+1,5,none⟩ (.slice x1.D t.reads.length x1.dc)).setCell ⟨w.heap.size+1,6,none⟩ (.slice x1.L t.log.list.length x1.lc)).setCell ⟨w.heap.size+1,7,none⟩ (.slice x1.M t.log.marks.length x1.mc)).setCell ⟨w.heap.size+1,8,none⟩ (.slice x1.F x1.fl.length x1.fc)).setCell ⟨w.heap.size+1,9,none⟩ (.int .i64 t.kind)).setCell ⟨w.heap.size+1,10,none⟩ (.int .i64 t.why))):=Lh (fill_only w3 (w.heap.size+1) _ _ _ _ _ _ _ _ _ _ _)
    clear c0 b0 bf0 c1 b1 bf1 c2 b2 bf2 c3 b3 bf3 c4 b4 bf4 c5 b5 bf5 c6 b6 bf6 c7 b7 bf7 c8 b8 bf8 c9 b9 bf9 c10 b10 bf10
    generalize (((((((((((w3.setCell ⟨w.heap.size+1,0,none⟩ (.int .i64 t.who)).setCell ⟨w.heap.size+1,1,none⟩ (.int .i64 t.snap)).setCell ⟨w.heap.size+1,2,none⟩ (.int .i64 t.pc)).setCell ⟨w.heap.size+1,3,none⟩ (.slice x1.R t.regs.length x1.rc)).setCell ⟨w.heap.size+1,4,none⟩ (.slice x1.P t.path.length x1.pc)).setCell ⟨w.heap.size+1,5,none⟩ (.slice x1.D t.reads.length x1.dc)).setCell ⟨w.heap.size+1,6,none⟩ (.slice x1.L t.log.list.length x1.lc)).setCell ⟨w.heap.size+1,7,none⟩ (.slice x1.M t.log.marks.length x1.mc)).setCell ⟨w.heap.size+1,8,none⟩ (.slice x1.F x1.fl.length x1.fc)).setCell ⟨w.heap.size+1,9,none⟩ (.int .i64 t.kind)).setCell ⟨w.heap.size+1,10,none⟩ (.int .i64 t.why))=wE at *
    have r0:=HE.out.cell 0 _ rfl
    have r1:=HE.out.cell 1 _ rfl
    have r2:=HE.out.cell 2 _ rfl
    have r3:=HE.out.cell 3 _ rfl
    have r4:=HE.out.cell 4 _ rfl
    have r5:=HE.out.cell 5 _ rfl
    have r6:=HE.out.cell 6 _ rfl
    have r7:=HE.out.cell 7 _ rfl
    have r8:=HE.out.cell 8 _ rfl
    have r9:=HE.out.cell 9 _ rfl
    have r10:=HE.out.cell 10 _ rfl
    refine bodyPost_ret (v:=.tuple #[.agg (aT t x1),.int .i64 1]) (by simp[results,Tryz.results18,go_sem,r0,r1,r2,r3,r4,r5,r6,r7,r8,r9,r10]) rfl ?_
    have hW1:((w.alloc (.cells (aT t x) 34)).alloc (.cells z11 34)).heap.size=w.heap.size+2:=by simp
    have hown:=(Owns.only (Owns.wide_ (Owns.below HOW2.out HB3.out) HB1.out) HOn.out (fun o ho k hk e=>by have:=Own.base (HO.out.1 o ho) k hk;omega) (fun k e=>by omega))
    have hbel:Below w.heap.size w wE:=(bl_trans HB2.out HB3.out).trans (HOn.out.below (Nat.le_trans HB2.out.size HB3.out.size) (fun k hk e=>by omega))
    exact ⟨x1,rfl,⟨hown,HRW.out⟩,HF6.out,hbel⟩
  | true =>
    cases htb:Stripe.rightB r with
    | false =>
      have HRB:=Lh hrb
      have HTB:=Lh htb
      clear hno2
      go_enter Tryz.func18,Tryz.ntmps18
      go_wp2_with (first
        | (go_at_call 60
           refine HCL.out.mono ?_
           rintro e w2 ⟨x1,rfl,hown,hraw,hf6,hb2⟩
           have HO:=Lh hown
           have HRW:=Lh hraw
           have HF6:=Lh hf6
           have HB2:=Lh (bl_trans HB1.out (bl_alloc hb2 (.cells (aT t x1) 34)))
           have HKc:Hid (Blk (w2.alloc (.cells (aT t x1) 34)) w2.heap.size 34 (aT t x1)):=Lh (Blk.new _ _ _)
           have HKa2:=Lh ((HKa.out.below hb2).alloc (.cells (aT t x1) 34))
           have HKb2:=Lh ((HKb.out.below hb2).alloc (.cells (aT t x1) 34))
           have HOW2:=Lh (hown.below (bl_alloc (Below.refl w2.heap.size w2) (.cells (aT t x1) 34)))
           clear hown hraw hf6 hb2)
        | (go_at_call 61
           refine (Heap.right_c h HA hn hc (w2.alloc (.cells (aT t x1) 34)) true (HP.out.heap.below HB2.out) hhn HRB.out).mono ?_
           rintro e w3 ⟨rfl,b3⟩
           have HB3:=Lh b3
           clear b3)
        | (go_at_call 62
           refine (Stripe.right_c r TA tn tc w3 false ((HP.out.tab.below HB2.out).below HB3.out) htn HTB.out).mono ?_
           rintro e w4 ⟨rfl,b4⟩
           have HB4:=Lh (bl_trans HB3.out b4)
           clear b4
           have kc:=HKc.out.below HB4.out
           have kb:=HKb2.out.below HB4.out
           have c0:=kc.cell 0 _ rfl
           have b0:=kb.cell 0 _ rfl
           have bf0:=kb.frozen 0
           have c1:=kc.cell 1 _ rfl
           have b1:=kb.cell 1 _ rfl
           have bf1:=kb.frozen 1
           have c2:=kc.cell 2 _ rfl
           have b2:=kb.cell 2 _ rfl
           have bf2:=kb.frozen 2
           have c3:=kc.cell 3 _ rfl
           have b3:=kb.cell 3 _ rfl
           have bf3:=kb.frozen 3
           have c4:=kc.cell 4 _ rfl
           have b4:=kb.cell 4 _ rfl
           have bf4:=kb.frozen 4
           have c5:=kc.cell 5 _ rfl
           have b5:=kb.cell 5 _ rfl
           have bf5:=kb.frozen 5
           have c6:=kc.cell 6 _ rfl
           have b6:=kb.cell 6 _ rfl
           have bf6:=kb.frozen 6
           have c7:=kc.cell 7 _ rfl
           have b7:=kb.cell 7 _ rfl
           have bf7:=kb.frozen 7
           have c8:=kc.cell 8 _ rfl
           have b8:=kb.cell 8 _ rfl
           have bf8:=kb.frozen 8
           have c9:=kc.cell 9 _ rfl
           have b9:=kb.cell 9 _ rfl
           have bf9:=kb.frozen 9
           have c10:=kc.cell 10 _ rfl
           have b10:=kb.cell 10 _ rfl
           have bf10:=kb.frozen 10
           clear kc kb))
      have HE:Hid (Blk (((((((((((w4.setCell ⟨w.heap.size+1,0,none⟩ (.int .i64 t.who)).setCell ⟨w.heap.size+1,1,none⟩ (.int .i64 t.snap)).setCell ⟨w.heap.size+1,2,none⟩ (.int .i64 t.pc)).setCell ⟨w.heap.size+1,3,none⟩ (.slice x1.R t.regs.length x1.rc)).setCell ⟨w.heap.size+1,4,none⟩ (.slice x1.P t.path.length x1.pc)).setCell ⟨w.heap.size+1,5,none⟩ (.slice x1.D t.reads.length x1.dc)).setCell ⟨w.heap.size+1,6,none⟩ (.slice x1.L t.log.list.length x1.lc)).setCell ⟨w.heap.size+1,7,none⟩ (.slice x1.M t.log.marks.length x1.mc)).setCell ⟨w.heap.size+1,8,none⟩ (.slice x1.F x1.fl.length x1.fc)).setCell ⟨w.heap.size+1,9,none⟩ (.int .i64 t.kind)).setCell ⟨w.heap.size+1,10,none⟩ (.int .i64 t.why)) (w.heap.size+1) 34 (aT t x1)):=Lh (fill_blk (HKb2.out.below HB4.out))
      have HOn:Hid (Only (fun k=>k=w.heap.size+1) w4 (((((((((((w4.setCell ⟨w.heap.size+1,0,none⟩ (.int .i64 t.who)).setCell ⟨w.heap.size+1,1,none⟩ (.int .i64 t.snap)).setCell ⟨w.heap.size+1,2,none⟩ (.int .i64 t.pc)).setCell ⟨w.heap.size+1,3,none⟩ (.slice x1.R t.regs.length x1.rc)).setCell ⟨w.heap.size+1,4,none⟩ (.slice x1.P t.path.length x1.pc)).setCell ⟨w.heap.size+1,5,none⟩ (.slice x1.D t.reads.length x1.dc)).setCell ⟨w.heap.size+1,6,none⟩ (.slice x1.L t.log.list.length x1.lc)).setCell ⟨w.heap.size+1,7,none⟩ (.slice x1.M t.log.marks.length x1.mc)).setCell ⟨w.heap.size+1,8,none⟩ (.slice x1.F x1.fl.length x1.fc)).setCell ⟨w.heap.size+1,9,none⟩ (.int .i64 t.kind)).setCell ⟨w.heap.size+1,10,none⟩ (.int .i64 t.why))):=Lh (fill_only w4 (w.heap.size+1) _ _ _ _ _ _ _ _ _ _ _)
      clear c0 b0 bf0 c1 b1 bf1 c2 b2 bf2 c3 b3 bf3 c4 b4 bf4 c5 b5 bf5 c6 b6 bf6 c7 b7 bf7 c8 b8 bf8 c9 b9 bf9 c10 b10 bf10
      generalize (((((((((((w4.setCell ⟨w.heap.size+1,0,none⟩ (.int .i64 t.who)).setCell ⟨w.heap.size+1,1,none⟩ (.int .i64 t.snap)).setCell ⟨w.heap.size+1,2,none⟩ (.int .i64 t.pc)).setCell ⟨w.heap.size+1,3,none⟩ (.slice x1.R t.regs.length x1.rc)).setCell ⟨w.heap.size+1,4,none⟩ (.slice x1.P t.path.length x1.pc)).setCell ⟨w.heap.size+1,5,none⟩ (.slice x1.D t.reads.length x1.dc)).setCell ⟨w.heap.size+1,6,none⟩ (.slice x1.L t.log.list.length x1.lc)).setCell ⟨w.heap.size+1,7,none⟩ (.slice x1.M t.log.marks.length x1.mc)).setCell ⟨w.heap.size+1,8,none⟩ (.slice x1.F x1.fl.length x1.fc)).setCell ⟨w.heap.size+1,9,none⟩ (.int .i64 t.kind)).setCell ⟨w.heap.size+1,10,none⟩ (.int .i64 t.why))=wE at *
      have r0:=HE.out.cell 0 _ rfl
      have r1:=HE.out.cell 1 _ rfl
      have r2:=HE.out.cell 2 _ rfl
      have r3:=HE.out.cell 3 _ rfl
      have r4:=HE.out.cell 4 _ rfl
      have r5:=HE.out.cell 5 _ rfl
      have r6:=HE.out.cell 6 _ rfl
      have r7:=HE.out.cell 7 _ rfl
      have r8:=HE.out.cell 8 _ rfl
      have r9:=HE.out.cell 9 _ rfl
      have r10:=HE.out.cell 10 _ rfl
      refine bodyPost_ret (v:=.tuple #[.agg (aT t x1),.int .i64 1]) (by simp[results,Tryz.results18,go_sem,r0,r1,r2,r3,r4,r5,r6,r7,r8,r9,r10]) rfl ?_
      have hW1:((w.alloc (.cells (aT t x) 34)).alloc (.cells z11 34)).heap.size=w.heap.size+2:=by simp
      have hown:=(Owns.only (Owns.wide_ (Owns.below HOW2.out HB4.out) HB1.out) HOn.out (fun o ho k hk e=>by have:=Own.base (HO.out.1 o ho) k hk;omega) (fun k e=>by omega))
      have hbel:Below w.heap.size w wE:=(bl_trans HB2.out HB4.out).trans (HOn.out.below (Nat.le_trans HB2.out.size HB4.out.size) (fun k hk e=>by omega))
      exact ⟨x1,rfl,⟨hown,HRW.out⟩,HF6.out,hbel⟩
    | true =>
      have HRB:=Lh hrb
      have HTB:=Lh htb
      have HKB:Hid (decide (t.kind=0)=false):=Lh (by rw[hrb,htb]at hno2;simpa using hno2)
      clear hno2 hrb htb
      go_enter Tryz.func18,Tryz.ntmps18
      go_wp2_with (first
        | (go_at_call 60
           refine HCL.out.mono ?_
           rintro e w2 ⟨x1,rfl,hown,hraw,hf6,hb2⟩
           have HO:=Lh hown
           have HRW:=Lh hraw
           have HF6:=Lh hf6
           have HB2:=Lh (bl_trans HB1.out (bl_alloc hb2 (.cells (aT t x1) 34)))
           have HKc:Hid (Blk (w2.alloc (.cells (aT t x1) 34)) w2.heap.size 34 (aT t x1)):=Lh (Blk.new _ _ _)
           have HKa2:=Lh ((HKa.out.below hb2).alloc (.cells (aT t x1) 34))
           have HKb2:=Lh ((HKb.out.below hb2).alloc (.cells (aT t x1) 34))
           have HOW2:=Lh (hown.below (bl_alloc (Below.refl w2.heap.size w2) (.cells (aT t x1) 34)))
           clear hown hraw hf6 hb2)
        | (go_at_call 61
           refine (Heap.right_c h HA hn hc (w2.alloc (.cells (aT t x1) 34)) true (HP.out.heap.below HB2.out) hhn HRB.out).mono ?_
           rintro e w3 ⟨rfl,b3⟩
           have HB3:=Lh b3
           clear b3)
        | (go_at_call 62
           refine (Stripe.right_c r TA tn tc w3 true ((HP.out.tab.below HB2.out).below HB3.out) htn HTB.out).mono ?_
           rintro e w4 ⟨rfl,b4⟩
           have HB4:=Lh (bl_trans HB3.out b4)
           have u:=HKa2.out.below (bl_trans HB3.out b4)
           have e0:=u.cell 0 _ rfl
           have e1:=u.cell 1 _ rfl
           have e2:=u.cell 2 _ rfl
           have e3:=u.cell 3 _ rfl
           have e4:=u.cell 4 _ rfl
           have e5:=u.cell 5 _ rfl
           have e6:=u.cell 6 _ rfl
           have e7:=u.cell 7 _ rfl
           have e8:=u.cell 8 _ rfl
           have e9:=u.cell 9 _ rfl
           have e10:=u.cell 10 _ rfl
           clear b4 u)
        | (go_at_call 63
           refine (HMAY.out w4 (bl_trans HB2.out HB4.out) false HKB.out).mono ?_
           rintro e w5 ⟨rfl,b5⟩
           have HB5:=Lh (bl_trans HB4.out b5)
           clear b5
           have kc:=HKc.out.below HB5.out
           have kb:=HKb2.out.below HB5.out
           have c0:=kc.cell 0 _ rfl
           have b0:=kb.cell 0 _ rfl
           have bf0:=kb.frozen 0
           have c1:=kc.cell 1 _ rfl
           have b1:=kb.cell 1 _ rfl
           have bf1:=kb.frozen 1
           have c2:=kc.cell 2 _ rfl
           have b2:=kb.cell 2 _ rfl
           have bf2:=kb.frozen 2
           have c3:=kc.cell 3 _ rfl
           have b3:=kb.cell 3 _ rfl
           have bf3:=kb.frozen 3
           have c4:=kc.cell 4 _ rfl
           have b4:=kb.cell 4 _ rfl
           have bf4:=kb.frozen 4
           have c5:=kc.cell 5 _ rfl
           have b5:=kb.cell 5 _ rfl
           have bf5:=kb.frozen 5
           have c6:=kc.cell 6 _ rfl
           have b6:=kb.cell 6 _ rfl
           have bf6:=kb.frozen 6
           have c7:=kc.cell 7 _ rfl
           have b7:=kb.cell 7 _ rfl
           have bf7:=kb.frozen 7
           have c8:=kc.cell 8 _ rfl
           have b8:=kb.cell 8 _ rfl
           have bf8:=kb.frozen 8
           have c9:=kc.cell 9 _ rfl
           have b9:=kb.cell 9 _ rfl
           have bf9:=kb.frozen 9
           have c10:=kc.cell 10 _ rfl
           have b10:=kb.cell 10 _ rfl
           have bf10:=kb.frozen 10
           clear kc kb))
      have HE:Hid (Blk (((((((((((w5.setCell ⟨w.heap.size+1,0,none⟩ (.int .i64 t.who)).setCell ⟨w.heap.size+1,1,none⟩ (.int .i64 t.snap)).setCell ⟨w.heap.size+1,2,none⟩ (.int .i64 t.pc)).setCell ⟨w.heap.size+1,3,none⟩ (.slice x1.R t.regs.length x1.rc)).setCell ⟨w.heap.size+1,4,none⟩ (.slice x1.P t.path.length x1.pc)).setCell ⟨w.heap.size+1,5,none⟩ (.slice x1.D t.reads.length x1.dc)).setCell ⟨w.heap.size+1,6,none⟩ (.slice x1.L t.log.list.length x1.lc)).setCell ⟨w.heap.size+1,7,none⟩ (.slice x1.M t.log.marks.length x1.mc)).setCell ⟨w.heap.size+1,8,none⟩ (.slice x1.F x1.fl.length x1.fc)).setCell ⟨w.heap.size+1,9,none⟩ (.int .i64 t.kind)).setCell ⟨w.heap.size+1,10,none⟩ (.int .i64 t.why)) (w.heap.size+1) 34 (aT t x1)):=Lh (fill_blk (HKb2.out.below HB5.out))
      have HOn:Hid (Only (fun k=>k=w.heap.size+1) w5 (((((((((((w5.setCell ⟨w.heap.size+1,0,none⟩ (.int .i64 t.who)).setCell ⟨w.heap.size+1,1,none⟩ (.int .i64 t.snap)).setCell ⟨w.heap.size+1,2,none⟩ (.int .i64 t.pc)).setCell ⟨w.heap.size+1,3,none⟩ (.slice x1.R t.regs.length x1.rc)).setCell ⟨w.heap.size+1,4,none⟩ (.slice x1.P t.path.length x1.pc)).setCell ⟨w.heap.size+1,5,none⟩ (.slice x1.D t.reads.length x1.dc)).setCell ⟨w.heap.size+1,6,none⟩ (.slice x1.L t.log.list.length x1.lc)).setCell ⟨w.heap.size+1,7,none⟩ (.slice x1.M t.log.marks.length x1.mc)).setCell ⟨w.heap.size+1,8,none⟩ (.slice x1.F x1.fl.length x1.fc)).setCell ⟨w.heap.size+1,9,none⟩ (.int .i64 t.kind)).setCell ⟨w.heap.size+1,10,none⟩ (.int .i64 t.why))):=Lh (fill_only w5 (w.heap.size+1) _ _ _ _ _ _ _ _ _ _ _)
      clear c0 b0 bf0 c1 b1 bf1 c2 b2 bf2 c3 b3 bf3 c4 b4 bf4 c5 b5 bf5 c6 b6 bf6 c7 b7 bf7 c8 b8 bf8 c9 b9 bf9 c10 b10 bf10
      generalize (((((((((((w5.setCell ⟨w.heap.size+1,0,none⟩ (.int .i64 t.who)).setCell ⟨w.heap.size+1,1,none⟩ (.int .i64 t.snap)).setCell ⟨w.heap.size+1,2,none⟩ (.int .i64 t.pc)).setCell ⟨w.heap.size+1,3,none⟩ (.slice x1.R t.regs.length x1.rc)).setCell ⟨w.heap.size+1,4,none⟩ (.slice x1.P t.path.length x1.pc)).setCell ⟨w.heap.size+1,5,none⟩ (.slice x1.D t.reads.length x1.dc)).setCell ⟨w.heap.size+1,6,none⟩ (.slice x1.L t.log.list.length x1.lc)).setCell ⟨w.heap.size+1,7,none⟩ (.slice x1.M t.log.marks.length x1.mc)).setCell ⟨w.heap.size+1,8,none⟩ (.slice x1.F x1.fl.length x1.fc)).setCell ⟨w.heap.size+1,9,none⟩ (.int .i64 t.kind)).setCell ⟨w.heap.size+1,10,none⟩ (.int .i64 t.why))=wE at *
      have r0:=HE.out.cell 0 _ rfl
      have r1:=HE.out.cell 1 _ rfl
      have r2:=HE.out.cell 2 _ rfl
      have r3:=HE.out.cell 3 _ rfl
      have r4:=HE.out.cell 4 _ rfl
      have r5:=HE.out.cell 5 _ rfl
      have r6:=HE.out.cell 6 _ rfl
      have r7:=HE.out.cell 7 _ rfl
      have r8:=HE.out.cell 8 _ rfl
      have r9:=HE.out.cell 9 _ rfl
      have r10:=HE.out.cell 10 _ rfl
      refine bodyPost_ret (v:=.tuple #[.agg (aT t x1),.int .i64 1]) (by simp[results,Tryz.results18,go_sem,r0,r1,r2,r3,r4,r5,r6,r7,r8,r9,r10]) rfl ?_
      have hW1:((w.alloc (.cells (aT t x) 34)).alloc (.cells z11 34)).heap.size=w.heap.size+2:=by simp
      have hown:=(Owns.only (Owns.wide_ (Owns.below HOW2.out HB5.out) HB1.out) HOn.out (fun o ho k hk e=>by have:=Own.base (HO.out.1 o ho) k hk;omega) (fun k e=>by omega))
      have hbel:Below w.heap.size w wE:=(bl_trans HB2.out HB5.out).trans (HOn.out.below (Nat.le_trans HB2.out.size HB5.out.size) (fun k hk e=>by omega))
      exact ⟨x1,rfl,⟨hown,HRW.out⟩,HF6.out,hbel⟩
theorem lim_le (c:List Step):∀(fs:List Frame) (q:Nat),Stack c q fs→lim c.length fs≤c.length:=by
 intro fs
 induction fs with
 | nil=>intro q _;exact Nat.le_refl _
 | cons f fs ih=>
  intro q hq
  obtain ⟨h1,h2,_,_,_,_,_,_,h9⟩:=hq
  have:=ih _ h9
  show f.mid≤_
  omega
theorem Inv.len {c:List Step} {t:Try} (h:Inv c t):c.length≤24:=(check_ok c h.ok).1
theorem Inv.pc_lt {c:List Step} {t:Try} (h:Inv c t) (hk:t.kind=0):t.pc<c.length:=Nat.lt_of_lt_of_le (h.runs hk) (lim_le c t.frames _ h.stack)
theorem Inv.right {c:List Step} {t:Try} (h:Inv c t):Reads.rightB t.reads=true:=by
 unfold Reads.rightB
 rw[h.rds,Bool.and_true,decide_eq_true]
 have:=h.rlen;have:=h.top;have:=h.len;omega
theorem live_v (h:List Heap.Cell) (hr:Heap.rightB h=true) (b:Int) (hl:Heap.liveAt h b=true):Heap.vB (Heap.valAt h b)=true:=by
 obtain ⟨_,_,x,hx,_⟩:=Heap.live_in h b hl
 have hb:Heap.cellB x=true:=by
  unfold Heap.rightB at hr
  rw[Bool.and_eq_true]at hr
  exact List.all_eq_true.1 hr.2 x (List.mem_of_getElem? hx)
 have hv:Heap.valAt h b=x.value:=by unfold Heap.valAt;rw[hx];rfl
 rw[hv]
 unfold Heap.cellB at hb
 rw[Bool.and_eq_true]at hb
 exact hb.1
theorem one_1 (s:Step) (h:oneB s=true) (hd:s.d=1):0≤s.a∧s.a≤7∧0≤s.b∧s.b≤63:=by
 unfold oneB at h;rw[if_pos hd]at h;simp at h;omega
theorem one_2 (s:Step) (h:oneB s=true) (hd:s.d=2):0≤s.a∧s.a≤7:=by
 unfold oneB at h;rw[if_neg (by omega),if_pos hd]at h;simp at h;omega
theorem rec_ver (r:List Stripe.Rec) (h:Stripe.rightB r=true) (x:Stripe.Rec) (hx:x∈r):0≤x.version∧x.version≤2147483647:=by
 unfold Stripe.rightB at h
 rw[Bool.and_eq_true]at h
 have:=List.all_eq_true.1 h.2 x hx
 unfold Stripe.recB at this
 simp at this;omega
theorem do_c (w0 w:World) (g:Nat) (HA:Option Addr) (hn hc:Nat) (h:List Heap.Cell) (TA:Option Addr) (tn tc:Nat) (r:List Stripe.Rec) (t:Try) (x:TL) (s:Raw) (c:List Step) (p:MPre w0 w g HA hn hc h TA tn tc r t x s) (hi:Inv c t) (hk:t.kind=0)
  (hh:Heap.rightB h=true) (hr:Stripe.rightB r=true) (ho:oneB s.s=true) (hlong:∀f∈t.frames,f.long≤t.path.length):
  Calls Tryz.prog (meth s.s.d) #[.pointer (some ⟨g,0,none⟩),.agg #[.int .i64 s.s.d,.int .i64 s.s.a,.int .i64 s.s.b,.slice s.T s.n s.c]] w (MRet w0 w g (tl HA hn hc TA tn tc) t x (doT t s.s h r)):=by
 obtain ⟨d1,d7⟩:=one_d s.s ho
 obtain ⟨v,hv⟩:∃v,Term.evalS s.s.t h t.regs=v:=⟨_,rfl⟩
 have hvt:tellT t s.s.t h=v.1:=by unfold tellT;rw[hv]
 have hpl:=hi.pc_lt hk
 have hl24:=hi.len
 by_cases e1:s.s.d=1
 ·obtain ⟨a0,a1,b0,b1⟩:=one_1 s.s ho e1
  have hm:meth s.s.d=118:=by unfold meth;rw[if_pos e1]
  rw[hm]
  have htl:r.length=tn:=Stripe.rs_len p.tab
  have ht0:0<tn:=by
   unfold Stripe.rightB at hr
   rw[Bool.and_eq_true,decide_eq_true_eq]at hr
   omega
  obtain ⟨j,rx,hj,hjn,hx⟩:=Reads.place_of r tn htl ht0 s.s.b
  have hrx:recAt r s.s.b=rx:=by unfold recAt;rw[htl,hj,Int.toNat_natCast,hx];rfl
  refine load_c w0 w g HA hn hc h TA tn tc r t x s s.s.a.toNat j rx _ p hh hr (by omega) (by omega) (fun _=>hj) hx hi.right ?_ ?_
  ·intro hl hf _ _
   refine Reads.add_new _ _ ?_ hf ?_
   ·obtain ⟨v0,v1⟩:=rec_ver r hr rx (List.mem_of_getElem? hx)
    rw[hi.right]
    unfold Reads.oneB Reads.timeB
    simp only[Bool.true_and,Bool.and_eq_true,decide_eq_true_eq]
    exact ⟨b0,⟨v0,v1⟩,live_v h hh _ hl⟩
   ·have:=hi.rlen;omega
  ·unfold doT loadT
   rw[if_pos e1,hrx]
 by_cases e2:s.s.d=2
 ·obtain ⟨a0,a1⟩:=one_2 s.s ho e2
  have hm:meth s.s.d=119:=by unfold meth;rw[if_neg e1,if_pos e2]
  rw[hm]
  have:=set_c w0 w g HA hn hc h TA tn tc r t x s v s.s.a.toNat p hv (by omega) (by omega)
  unfold doT
  rw[if_neg e1,if_pos e2,hvt]
  exact this
 by_cases e3:s.s.d=3
 ·have hm:meth s.s.d=120:=by unfold meth;rw[if_neg e1,if_neg e2,if_pos e3]
  rw[hm]
  refine store_c w0 w g HA hn hc h TA tn tc r t x s v _ p hh hv ?_
  unfold doT storeT
  rw[if_neg e1,if_neg e2,if_pos e3,hvt]
 by_cases e4:s.s.d=4
 ·obtain ⟨a0,a1⟩:=one_skip s.s ho e4
  have hm:meth s.s.d=121:=by unfold meth;rw[if_neg e1,if_neg e2,if_neg e3,if_pos e4]
  rw[hm]
  have:=skip_c w0 w g HA hn hc h TA tn tc r t x s v s.s.a.toNat p hv (by omega) (by omega)
  unfold doT skipT
  rw[if_neg e1,if_neg e2,if_neg e3,if_pos e4,hvt]
  exact this
 by_cases e5:s.s.d=5
 ·have hm:meth s.s.d=122:=by unfold meth;rw[if_neg e1,if_neg e2,if_neg e3,if_neg e4,if_pos e5]
  rw[hm]
  refine retry_c w0 w g HA hn hc h TA tn tc r t x s _ p (fun f fs hf=>hlong f (by rw[hf];exact List.mem_cons_self ..)) ?_
  unfold doT
  rw[if_neg e1,if_neg e2,if_neg e3,if_neg e4,if_pos e5]
 by_cases e6:s.s.d=6
 ·have hm:meth s.s.d=123:=by unfold meth;rw[if_neg e1,if_neg e2,if_neg e3,if_neg e4,if_neg e5,if_pos e6]
  rw[hm]
  have:=fail_c w0 w g HA hn hc h TA tn tc r t x s p
  unfold doT
  rw[if_neg e1,if_neg e2,if_neg e3,if_neg e4,if_neg e5,if_pos e6]
  exact this
 have e7:s.s.d=7:=by omega
 obtain ⟨a0,a1,b0,b1⟩:=one_either s.s ho e7
 have hm:meth s.s.d=124:=by unfold meth;rw[if_neg e1,if_neg e2,if_neg e3,if_neg e4,if_neg e5,if_neg e6]
 rw[hm]
 refine either_c w0 w g HA hn hc h TA tn tc r t x s s.s.a.toNat s.s.b.toNat _ p (by omega) (by omega) (by omega) (by omega) ?_
 unfold doT
 rw[if_neg e1,if_neg e2,if_neg e3,if_neg e4,if_neg e5,if_neg e6]
theorem enter_runA {P:Program} {F:FuncId} {fn:Func} (hf:P.funcs[F]?=some fn) (hn:(fn.name== "runtime.NumGoroutine")=false) (hb:fn.body.isNone=false) (args:Array Value) (W:World):(callFunc F args).run P W=.ok (.enter F args) W:=by
 have hn' :¬fn.name= "runtime.NumGoroutine" :=by simpa using hn
 have hb' :¬fn.body=none:=fun e=>by rw[e]at hb;cases hb
 unfold callFunc
 simp[program,Sem.run,hf,hn',hb']
theorem call_meth (d:Int) (h1:1≤d) (h7:d≤7) (args:Array Value) (W:World):(callFunc (meth d) args).run Tryz.prog W=.ok (.enter (meth d) args) W:=by
 rcases (by omega:d=1∨d=2∨d=3∨d=4∨d=5∨d=6∨d=7) with rfl | rfl | rfl | rfl | rfl | rfl | rfl
 ·exact enter_runA Tryz.func118 (by rfl) (by rfl) args W
 ·exact enter_runA Tryz.func119 (by rfl) (by rfl) args W
 ·exact enter_runA Tryz.func120 (by rfl) (by rfl) args W
 ·exact enter_runA Tryz.func121 (by rfl) (by rfl) args W
 ·exact enter_runA Tryz.func122 (by rfl) (by rfl) args W
 ·exact enter_runA Tryz.func123 (by rfl) (by rfl) args W
 ·exact enter_runA Tryz.func124 (by rfl) (by rfl) args W
theorem markS_le (lg:Writes.Log):(Writes.markS lg).1.list=lg.list∧(Writes.markS lg).1.marks.length≤lg.marks.length+1:=by
 unfold Writes.markS
 split
 ·split
  ·exact ⟨rfl,Nat.le_succ _⟩
  ·exact ⟨rfl,by simp⟩
 ·exact ⟨rfl,Nat.le_succ _⟩
theorem live_log (t:Try) (a b v:Int) (x:Stripe.Rec):(liveT t a b v x).log=t.log:=by
 unfold liveT
 split
 ·rfl
 ·split
  ·rfl
  ·split
   ·rfl
   ·rfl
theorem doT_le (t:Try) (s:Step) (h:List Heap.Cell) (r:List Stripe.Rec):(doT t s h r).log.list.length≤t.log.list.length+1∧(doT t s h r).log.marks.length≤t.log.marks.length+1:=by
 have k:t.log.list.length≤t.log.list.length+1∧t.log.marks.length≤t.log.marks.length+1:=⟨Nat.le_succ _,Nat.le_succ _⟩
 unfold doT
 split
 ·unfold loadT
  split
  ·rw[live_log];exact k
  ·exact k
 split
 ·exact k
 split
 ·unfold storeT
  split
  ·obtain ⟨h1,h2⟩:=putS_le t.log ⟨s.a,tellT t s.t h⟩
   exact ⟨h1,by show (Writes.putS t.log ⟨s.a,tellT t s.t h⟩).1.marks.length≤_;rw[h2];exact k.2⟩
  ·exact k
 split
 ·unfold skipT
  split
  ·exact k
  ·exact k
 split
 ·unfold retryT
  split
  ·exact k
  ·obtain ⟨h1,h2⟩:=backS_le t.log
   exact ⟨Nat.le_trans h1 k.1,Nat.le_trans h2 k.2⟩
 split
 ·exact k
 ·obtain ⟨h1,h2⟩:=markS_le t.log
  exact ⟨by show (Writes.markS t.log).1.list.length≤_;rw[h1];exact k.1,h2⟩
set_option maxHeartbeats 8000000 in
theorem step_yes (l:List Raw) (C:Option Addr) (n c:Nat) (h:List Heap.Cell) (HA:Option Addr) (hn hc:Nat) (r:List Stripe.Rec) (TA:Option Addr) (tn tc:Nat) (t:Try) (x:TL) (w:World) (p:SPre w l C n c h HA hn r TA tn t x) (s:Raw) (T:Try) (hyes:mayB h r t=true) (hs:l[t.pc]?=some s) (hT:moveS n s.s h r t=T):
    Calls Tryz.prog 18 #[.agg (tvl t x).toArray,.slice C n c,.slice HA hn hc,.slice TA tn tc] w (RetTry w T 0):=by
  have HB1:Hid (Below w.heap.size w ((w.alloc (.cells (aT t x) 34)).alloc (.cells z11 34))):=Lh (bl_alloc (bl_alloc (Below.refl _ _) _) _)
  have HKa:Hid (Blk ((w.alloc (.cells (aT t x) 34)).alloc (.cells z11 34)) w.heap.size 34 (aT t x)):=Lh ((Blk.new w _ _).alloc _)
  have HKb:Hid (Blk ((w.alloc (.cells (aT t x) 34)).alloc (.cells z11 34)) (w.heap.size+1) 34 z11):=Lh (by have:=Blk.new (w.alloc (.cells (aT t x) 34)) 34 z11;simpa using this)
  have HCL:Hid (Calls Tryz.prog 60 #[.agg (aT t x)] ((w.alloc (.cells (aT t x) 34)).alloc (.cells z11 34)) fun e w' =>∃x1:TL,e=.returned (.agg (aT t x1))∧Owns ((w.alloc (.cells (aT t x) 34)).alloc (.cells z11 34)) w' (x1.os t)∧x1.fl.map FRaw.f=t.frames.reverse∧x1.fl.length≤1000000∧Below ((w.alloc (.cells (aT t x) 34)).alloc (.cells z11 34)).heap.size ((w.alloc (.cells (aT t x) 34)).alloc (.cells z11 34)) w'):=Lh (clone_t t x ((w.alloc (.cells (aT t x) 34)).alloc (.cells z11 34)) (p.rd.below HB1.out) (by rw[p.sm.regs];decide) (Nat.le_trans p.sm.path (by decide)) (Nat.le_trans p.sm.reads (by decide)) (Nat.le_trans p.sm.list (by decide)) (Nat.le_trans p.sm.marks (by decide)) (Nat.le_trans p.sm.fl (by decide)) (fun f hf=>by rw[p.r8 f hf];decide))
  have HP:=Lh p
  have hhn:=p.hn6
  have htn:=p.tn6
  have hpk :t.kind=0→t.pc<n:=fun hk=>by
    have h1:=p.inv.runs hk
    have h2 :∀fs,Stack (ss l) t.path.length fs→lim (ss l).length fs≤(ss l).length:=by
      intro fs hs
      have :∀(fs:List Frame) (q:Nat),Stack (ss l) q fs→lim (ss l).length fs≤(ss l).length:=by
        intro fs
        induction fs with
        | nil=>intro q _;exact Nat.le_refl _
        | cons f fs ih=>
          intro q hq
          obtain ⟨h1,h2,_,_,_,_,_,_,h9⟩:=hq
          have:=ih _ h9
          show f.mid≤_
          omega
      exact this fs _ hs
    have h3:=h2 t.frames p.inv.stack
    have h4:(ss l).length=n:=by rw[ss_len,p.code.len]
    omega
  have HMAY:=Lh (fun (W:World) (hW:Below w.heap.size w W) (b:Bool) (hb:decide (t.kind=0)=b)=>may_c t x l C n c W b (p.rd.below hW) (p.code.below hW) p.nc p.lim p.n6 p.inv.ok hpk p.sm.regs (Nat.le_trans p.sm.fl (by decide)) p.long hb)
  have hpc2:=p.sm.pc
  have hyes2:(Heap.rightB h && (Stripe.rightB r && decide (t.kind=0)))=true:=hyes
  rw[Bool.and_eq_true,Bool.and_eq_true,decide_eq_true_eq]at hyes2
  obtain ⟨y1,y2,y3⟩:=hyes2
  have HRB:=Lh y1
  have HTB:=Lh y2
  have HKB:Hid (decide (t.kind=0)=true):=Lh (decide_eq_true y3)
  have HK0:=Lh y3
  have hlt:=hpk y3
  obtain ⟨bC,oC,s2,hC,hs2,z0,z1,z2,z3,z4,z5⟩:=p.code.at_ t.pc hlt
  rw[hs]at hs2
  injection hs2 with hs2
  subst hs2
  subst hC
  have HCC:Hid (∀W,Below w.heap.size w W→W.cell? ⟨bC,oC+t.pc * 4,none⟩=some (.int .i64 s.s.d)∧W.cell? ⟨bC,oC+t.pc * 4+1,none⟩=some (.int .i64 s.s.a)∧W.cell? ⟨bC,oC+t.pc * 4+2,none⟩=some (.int .i64 s.s.b)∧W.cell? ⟨bC,oC+t.pc * 4+3,none⟩=some (.slice s.T s.n s.c)):=Lh (fun W hW=>⟨Mem.cell_kept_up z0 hW,Mem.cell_kept_up z1 hW,Mem.cell_kept_up z2 hW,Mem.cell_kept_up z3 hW⟩)
  have hone:oneB s.s=true:=List.all_eq_true.1 (check_ok _ p.inv.ok).2.1 _ (List.mem_of_getElem? (ss_at l t.pc s hs))
  have HONE:=Lh hone
  have HCM:=Lh (call_meth s.s.d (one_d s.s hone).1 (one_d s.s hone).2)
  have HDG:=Lh (fun (g:Nat) (W:World)=>doing_c g s.s.d W (one_d s.s hone).1 (one_d s.s hone).2)
  have HTT:=Lh hT
  have HTM:=Lh z4
  have hpn:¬((n:Int)≤(t.pc:Int)):=by omega
  have HSN:Hid (s.n≤1000000):=Lh (p.lim s (List.mem_of_getElem? hs))
  clear p hpk hyes hs hT y1 y2 y3 z0 z1 z2 z3 z4 z5 hone
  show Calls Tryz.prog 18 #[.agg (aT t x),.slice (some ⟨bC,oC,none⟩) n c,.slice HA hn hc,.slice TA tn tc] w (RetTry w T 0)
  go_enter Tryz.func18,Tryz.ntmps18
  go_wp2_with (first
    | (go_at_call 60
       refine HCL.out.mono ?_
       rintro e w2 ⟨x1,rfl,hown,hraw,hf6,hb2⟩
       have HO:=Lh hown
       have HRW:=Lh hraw
       have HF6:=Lh hf6
       have HB2:=Lh (bl_trans HB1.out (bl_alloc hb2 (.cells (aT t x1) 34)))
       have HKc:Hid (Blk (w2.alloc (.cells (aT t x1) 34)) w2.heap.size 34 (aT t x1)):=Lh (Blk.new _ _ _)
       have HKa2:=Lh ((HKa.out.below hb2).alloc (.cells (aT t x1) 34))
       have HKb2:=Lh ((HKb.out.below hb2).alloc (.cells (aT t x1) 34))
       have HOW2:=Lh (hown.below (bl_alloc (Below.refl w2.heap.size w2) (.cells (aT t x1) 34)))
       have HO1:=Lh hb2
       clear hown hraw hf6 hb2)
    | (go_at_call 61
       refine (Heap.right_c h HA hn hc (w2.alloc (.cells (aT t x1) 34)) true (HP.out.heap.below HB2.out) hhn HRB.out).mono ?_
       rintro e w3 ⟨rfl,b3⟩
       have HB3:=Lh b3
       clear b3)
    | (go_at_call 62
       refine (Stripe.right_c r TA tn tc w3 true ((HP.out.tab.below HB2.out).below HB3.out) htn HTB.out).mono ?_
       rintro e w4 ⟨rfl,b4⟩
       have HB4:=Lh (bl_trans HB3.out b4)
       have u:=HKa2.out.below (bl_trans HB3.out b4)
       have e0:=u.cell 0 _ rfl
       have e1:=u.cell 1 _ rfl
       have e2:=u.cell 2 _ rfl
       have e3:=u.cell 3 _ rfl
       have e4:=u.cell 4 _ rfl
       have e5:=u.cell 5 _ rfl
       have e6:=u.cell 6 _ rfl
       have e7:=u.cell 7 _ rfl
       have e8:=u.cell 8 _ rfl
       have e9:=u.cell 9 _ rfl
       have e10:=u.cell 10 _ rfl
       clear b4 u)
    | (go_at_call 63
       refine (HMAY.out w4 (bl_trans HB2.out HB4.out) true HKB.out).mono ?_
       rintro e w5 ⟨rfl,b5⟩
       have HB5:=Lh (bl_trans HB4.out b5)
       clear b5
       have kc:=HKc.out.below HB5.out
       have c0:=kc.cell 0 _ rfl
       have c1:=kc.cell 1 _ rfl
       have c2:=kc.cell 2 _ rfl
       have c3:=kc.cell 3 _ rfl
       have c4:=kc.cell 4 _ rfl
       have c5:=kc.cell 5 _ rfl
       have c6:=kc.cell 6 _ rfl
       have c7:=kc.cell 7 _ rfl
       have c8:=kc.cell 8 _ rfl
       have c9:=kc.cell 9 _ rfl
       have c10:=kc.cell 10 _ rfl
       have hB6:=bl_trans HB2.out (bl_trans HB5.out (bl_alloc (Below.refl w5.heap.size w5) (.cells #[.int .i64 t.who,.int .i64 t.snap,.int .i64 t.pc,.slice x1.R t.regs.length x1.rc,.slice x1.P t.path.length x1.pc,.slice x1.D t.reads.length x1.dc,.slice x1.L t.log.list.length x1.lc,.slice x1.M t.log.marks.length x1.mc,.slice x1.F x1.fl.length x1.fc,.int .i64 t.kind,.int .i64 t.why,.slice HA hn hc,.slice TA tn tc] 141)))
       have g2:=((HKa2.out.below HB5.out).alloc (.cells #[.int .i64 t.who,.int .i64 t.snap,.int .i64 t.pc,.slice x1.R t.regs.length x1.rc,.slice x1.P t.path.length x1.pc,.slice x1.D t.reads.length x1.dc,.slice x1.L t.log.list.length x1.lc,.slice x1.M t.log.marks.length x1.mc,.slice x1.F x1.fl.length x1.fc,.int .i64 t.kind,.int .i64 t.why,.slice HA hn hc,.slice TA tn tc] 141)).cell 2 _ rfl
       obtain ⟨s0,s1,s2,s3⟩:=HCC.out _ hB6
       have hst:Hid (Blk ((w5.alloc (.cells #[.int .i64 t.who,.int .i64 t.snap,.int .i64 t.pc,.slice x1.R t.regs.length x1.rc,.slice x1.P t.path.length x1.pc,.slice x1.D t.reads.length x1.dc,.slice x1.L t.log.list.length x1.lc,.slice x1.M t.log.marks.length x1.mc,.slice x1.F x1.fl.length x1.fc,.int .i64 t.kind,.int .i64 t.why,.slice HA hn hc,.slice TA tn tc] 141)).alloc (.cells #[.int .i64 s.s.d,.int .i64 s.s.a,.int .i64 s.s.b,.slice s.T s.n s.c] 113)) (w5.alloc (.cells #[.int .i64 t.who,.int .i64 t.snap,.int .i64 t.pc,.slice x1.R t.regs.length x1.rc,.slice x1.P t.path.length x1.pc,.slice x1.D t.reads.length x1.dc,.slice x1.L t.log.list.length x1.lc,.slice x1.M t.log.marks.length x1.mc,.slice x1.F x1.fl.length x1.fc,.int .i64 t.kind,.int .i64 t.why,.slice HA hn hc,.slice TA tn tc] 141)).heap.size 113 #[.int .i64 s.s.d,.int .i64 s.s.a,.int .i64 s.s.b,.slice s.T s.n s.c]):=Lh (Blk.new _ _ _)
       have t0:=hst.out.cell 0 _ rfl
       rw[show (w5.alloc (.cells #[.int .i64 t.who,.int .i64 t.snap,.int .i64 t.pc,.slice x1.R t.regs.length x1.rc,.slice x1.P t.path.length x1.pc,.slice x1.D t.reads.length x1.dc,.slice x1.L t.log.list.length x1.lc,.slice x1.M t.log.marks.length x1.mc,.slice x1.F x1.fl.length x1.fc,.int .i64 t.kind,.int .i64 t.why,.slice HA hn hc,.slice TA tn tc] 141)).heap.size=w5.heap.size+1 by simp]at t0
       clear kc hB6)
    | (go_at_call 64
       refine (HDG.out _ _).mono ?_
       rintro e w8 ⟨rfl,b8⟩
       have HB8:=Lh b8
       have ks:=(hst.out.below b8)
       have u0:=ks.cell 0 _ rfl
       have u1:=ks.cell 1 _ rfl
       have u2:=ks.cell 2 _ rfl
       have u3:=ks.cell 3 _ rfl
       rw[show (w5.alloc (.cells #[.int .i64 t.who,.int .i64 t.snap,.int .i64 t.pc,.slice x1.R t.regs.length x1.rc,.slice x1.P t.path.length x1.pc,.slice x1.D t.reads.length x1.dc,.slice x1.L t.log.list.length x1.lc,.slice x1.M t.log.marks.length x1.mc,.slice x1.F x1.fl.length x1.fc,.int .i64 t.kind,.int .i64 t.why,.slice HA hn hc,.slice TA tn tc] 141)).heap.size=w5.heap.size+1 by simp]at u0 u1 u2 u3
       have hcm:=HCM.out
       clear b8 ks))
  have hM6:Blk (w5.alloc (.cells #[.int .i64 t.who,.int .i64 t.snap,.int .i64 t.pc,.slice x1.R t.regs.length x1.rc,.slice x1.P t.path.length x1.pc,.slice x1.D t.reads.length x1.dc,.slice x1.L t.log.list.length x1.lc,.slice x1.M t.log.marks.length x1.mc,.slice x1.F x1.fl.length x1.fc,.int .i64 t.kind,.int .i64 t.why,.slice HA hn hc,.slice TA tn tc] 141)) w5.heap.size 141 #[.int .i64 t.who,.int .i64 t.snap,.int .i64 t.pc,.slice x1.R t.regs.length x1.rc,.slice x1.P t.path.length x1.pc,.slice x1.D t.reads.length x1.dc,.slice x1.L t.log.list.length x1.lc,.slice x1.M t.log.marks.length x1.mc,.slice x1.F x1.fl.length x1.fc,.int .i64 t.kind,.int .i64 t.why,.slice HA hn hc,.slice TA tn tc]:=Blk.new _ _ _
  have bW8:Below (w5.alloc (.cells #[.int .i64 t.who,.int .i64 t.snap,.int .i64 t.pc,.slice x1.R t.regs.length x1.rc,.slice x1.P t.path.length x1.pc,.slice x1.D t.reads.length x1.dc,.slice x1.L t.log.list.length x1.lc,.slice x1.M t.log.marks.length x1.mc,.slice x1.F x1.fl.length x1.fc,.int .i64 t.kind,.int .i64 t.why,.slice HA hn hc,.slice TA tn tc] 141)).heap.size (w5.alloc (.cells #[.int .i64 t.who,.int .i64 t.snap,.int .i64 t.pc,.slice x1.R t.regs.length x1.rc,.slice x1.P t.path.length x1.pc,.slice x1.D t.reads.length x1.dc,.slice x1.L t.log.list.length x1.lc,.slice x1.M t.log.marks.length x1.mc,.slice x1.F x1.fl.length x1.fc,.int .i64 t.kind,.int .i64 t.why,.slice HA hn hc,.slice TA tn tc] 141)) w8:=bl_trans (bl_alloc (Below.refl (w5.alloc (.cells #[.int .i64 t.who,.int .i64 t.snap,.int .i64 t.pc,.slice x1.R t.regs.length x1.rc,.slice x1.P t.path.length x1.pc,.slice x1.D t.reads.length x1.dc,.slice x1.L t.log.list.length x1.lc,.slice x1.M t.log.marks.length x1.mc,.slice x1.F x1.fl.length x1.fc,.int .i64 t.kind,.int .i64 t.why,.slice HA hn hc,.slice TA tn tc] 141)).heap.size (w5.alloc (.cells #[.int .i64 t.who,.int .i64 t.snap,.int .i64 t.pc,.slice x1.R t.regs.length x1.rc,.slice x1.P t.path.length x1.pc,.slice x1.D t.reads.length x1.dc,.slice x1.L t.log.list.length x1.lc,.slice x1.M t.log.marks.length x1.mc,.slice x1.F x1.fl.length x1.fc,.int .i64 t.kind,.int .i64 t.why,.slice HA hn hc,.slice TA tn tc] 141))) (.cells #[.int .i64 s.s.d,.int .i64 s.s.a,.int .i64 s.s.b,.slice s.T s.n s.c] 113)) HB8.out
  have b56:Below w5.heap.size w5 w8:=bl_trans (bl_alloc (Below.refl w5.heap.size w5) (.cells #[.int .i64 t.who,.int .i64 t.snap,.int .i64 t.pc,.slice x1.R t.regs.length x1.rc,.slice x1.P t.path.length x1.pc,.slice x1.D t.reads.length x1.dc,.slice x1.L t.log.list.length x1.lc,.slice x1.M t.log.marks.length x1.mc,.slice x1.F x1.fl.length x1.fc,.int .i64 t.kind,.int .i64 t.why,.slice HA hn hc,.slice TA tn tc] 141)) bW8
  have b28:Below w2.heap.size w2 w8:=bl_trans (bl_alloc (Below.refl w2.heap.size w2) (.cells (aT t x1) 34)) (bl_trans HB5.out b56)
  have hle2:w2.heap.size≤w5.heap.size:=Nat.le_trans (bl_alloc (Below.refl w2.heap.size w2) (.cells (aT t x1) 34)).size HB5.out.size
  have hfl:x1.fl.length=t.frames.length:=by have:=congrArg List.length HRW.out;simpa using this
  have hfx:x.fl.length=t.frames.length:=by have:=congrArg List.length HP.out.rd.raw;simpa using this
  have HMA:Hid (MAt ((w.alloc (.cells (aT t x) 34)).alloc (.cells z11 34)) w8 w5.heap.size 141 (tl HA hn hc TA tn tc) t x1):=Lh ⟨Nat.le_trans HO1.out.size hle2,hM6.below bW8,HO.out.below b28,fun o ho e=>by have:=Own.lt (HO.out.1 o ho) _ e;omega,HRW.out⟩
  have HPR:Hid (MPre ((w.alloc (.cells (aT t x) 34)).alloc (.cells z11 34)) w8 w5.heap.size HA hn hc h TA tn tc r t x1 s):=Lh ⟨HMA.out,⟨HP.out.sm.regs,HP.out.sm.path,HP.out.sm.reads,HP.out.sm.list,HP.out.sm.marks,by rw[hfl,←hfx];exact HP.out.sm.fl,HP.out.sm.pc⟩,HP.out.heap.below HB1.out,HP.out.hn6,HP.out.tab.below HB1.out,HP.out.tn6,HTM.out.below HB1.out,HSN.out⟩
  have hlg:∀f∈t.frames,f.long≤t.path.length:=fun f hf=>by
    have:f∈x.fl.map FRaw.f:=by rw[HP.out.rd.raw];simpa using hf
    obtain ⟨z,hz,rfl⟩:=List.mem_map.1 this
    exact HP.out.long z hz
  obtain ⟨Dd,hD⟩:∃Dd,doT t s.s h r=Dd:=⟨_,rfl⟩
  have HDC:=Lh (do_c ((w.alloc (.cells (aT t x) 34)).alloc (.cells z11 34)) w8 w5.heap.size HA hn hc h TA tn tc r t x1 s (ss l) HPR.out HP.out.inv HK0.out HRB.out HTB.out HONE.out hlg)
  rw[hD]at HDC
  have HDL:=Lh (doT_le t s.s h r)
  rw[hD]at HDL
  have HTD:Hid (T=if Dd.kind=0 then settle n Dd else Dd):=Lh (by rw[←HTT.out];unfold moveS;rw[hD])
  have HSM:=Lh HP.out.sm
  clear hM6 bW8 b56 b28 hlg hD u0 u1 u2 u3 s0 s1 s2 s3 t0 g2 c0 c1 c2 c3 c4 c5 c6 c7 c8 c9 c10 e0 e1 e2 e3 e4 e5 e6 e7 e8 e9 e10
  refine HDC.out.mono ?_
  rintro e w9 ⟨rfl,x9,m9,v9,l9⟩
  have HM9:=Lh m9
  have HL9:=Lh l9
  have kc:=m9.cells.2.2.2.2.2.2.2.2.2.1
  have HB9:=Lh m9.bel
  clear m9 v9 l9
  by_cases hkz:Dd.kind=0
  · have HTS:Hid (settle n Dd=T):=Lh (by rw[HTD.out,if_pos hkz])
    have hkb:(Dd.kind==0)=true:=by simp[hkz]
    clear hkz
    go_wp2_with (first
      | (go_at_call 52
         refine (settle_c ((w.alloc (.cells (aT t x) 34)).alloc (.cells z11 34)) w9 w5.heap.size 141 (tl HA hn hc TA tn tc) Dd x9 n T HM9.out HL9.out (by have:=HDL.out.1;have:=HSM.out.list;omega) (by have:=HDL.out.2;have:=HSM.out.marks;omega) HTS.out).mono ?_
         rintro e w10 ⟨rfl,x10,m10,v10,l10⟩
         have HM10:=Lh m10
         have HL10:=Lh l10
         obtain ⟨c0,c1,c2,c3,c4,c5,c6,c7,c8,c9,c10⟩:=m10.cells
         have kb:=HKb.out.below m10.bel
         have b0:=kb.cell 0 _ rfl
         have bf0:=kb.frozen 0
         have b1:=kb.cell 1 _ rfl
         have bf1:=kb.frozen 1
         have b2:=kb.cell 2 _ rfl
         have bf2:=kb.frozen 2
         have b3:=kb.cell 3 _ rfl
         have bf3:=kb.frozen 3
         have b4:=kb.cell 4 _ rfl
         have bf4:=kb.frozen 4
         have b5:=kb.cell 5 _ rfl
         have bf5:=kb.frozen 5
         have b6:=kb.cell 6 _ rfl
         have bf6:=kb.frozen 6
         have b7:=kb.cell 7 _ rfl
         have bf7:=kb.frozen 7
         have b8:=kb.cell 8 _ rfl
         have bf8:=kb.frozen 8
         have b9:=kb.cell 9 _ rfl
         have bf9:=kb.frozen 9
         have b10:=kb.cell 10 _ rfl
         have bf10:=kb.frozen 10
         clear kb
         clear m10 v10 l10))
    have HE:Hid (Blk (((((((((((w10.setCell ⟨w.heap.size+1,0,none⟩ (.int .i64 T.who)).setCell ⟨w.heap.size+1,1,none⟩ (.int .i64 T.snap)).setCell ⟨w.heap.size+1,2,none⟩ (.int .i64 T.pc)).setCell ⟨w.heap.size+1,3,none⟩ (.slice x10.R T.regs.length x10.rc)).setCell ⟨w.heap.size+1,4,none⟩ (.slice x10.P T.path.length x10.pc)).setCell ⟨w.heap.size+1,5,none⟩ (.slice x10.D T.reads.length x10.dc)).setCell ⟨w.heap.size+1,6,none⟩ (.slice x10.L T.log.list.length x10.lc)).setCell ⟨w.heap.size+1,7,none⟩ (.slice x10.M T.log.marks.length x10.mc)).setCell ⟨w.heap.size+1,8,none⟩ (.slice x10.F x10.fl.length x10.fc)).setCell ⟨w.heap.size+1,9,none⟩ (.int .i64 T.kind)).setCell ⟨w.heap.size+1,10,none⟩ (.int .i64 T.why)) (w.heap.size+1) 34 (aT T x10)):=Lh (fill_blk (HKb.out.below HM10.out.bel))
    have HOn:Hid (Only (fun k=>k=w.heap.size+1) w10 (((((((((((w10.setCell ⟨w.heap.size+1,0,none⟩ (.int .i64 T.who)).setCell ⟨w.heap.size+1,1,none⟩ (.int .i64 T.snap)).setCell ⟨w.heap.size+1,2,none⟩ (.int .i64 T.pc)).setCell ⟨w.heap.size+1,3,none⟩ (.slice x10.R T.regs.length x10.rc)).setCell ⟨w.heap.size+1,4,none⟩ (.slice x10.P T.path.length x10.pc)).setCell ⟨w.heap.size+1,5,none⟩ (.slice x10.D T.reads.length x10.dc)).setCell ⟨w.heap.size+1,6,none⟩ (.slice x10.L T.log.list.length x10.lc)).setCell ⟨w.heap.size+1,7,none⟩ (.slice x10.M T.log.marks.length x10.mc)).setCell ⟨w.heap.size+1,8,none⟩ (.slice x10.F x10.fl.length x10.fc)).setCell ⟨w.heap.size+1,9,none⟩ (.int .i64 T.kind)).setCell ⟨w.heap.size+1,10,none⟩ (.int .i64 T.why))):=Lh (fill_only w10 (w.heap.size+1) _ _ _ _ _ _ _ _ _ _ _)
    clear c0 b0 bf0 c1 b1 bf1 c2 b2 bf2 c3 b3 bf3 c4 b4 bf4 c5 b5 bf5 c6 b6 bf6 c7 b7 bf7 c8 b8 bf8 c9 b9 bf9 c10 b10 bf10
    generalize (((((((((((w10.setCell ⟨w.heap.size+1,0,none⟩ (.int .i64 T.who)).setCell ⟨w.heap.size+1,1,none⟩ (.int .i64 T.snap)).setCell ⟨w.heap.size+1,2,none⟩ (.int .i64 T.pc)).setCell ⟨w.heap.size+1,3,none⟩ (.slice x10.R T.regs.length x10.rc)).setCell ⟨w.heap.size+1,4,none⟩ (.slice x10.P T.path.length x10.pc)).setCell ⟨w.heap.size+1,5,none⟩ (.slice x10.D T.reads.length x10.dc)).setCell ⟨w.heap.size+1,6,none⟩ (.slice x10.L T.log.list.length x10.lc)).setCell ⟨w.heap.size+1,7,none⟩ (.slice x10.M T.log.marks.length x10.mc)).setCell ⟨w.heap.size+1,8,none⟩ (.slice x10.F x10.fl.length x10.fc)).setCell ⟨w.heap.size+1,9,none⟩ (.int .i64 T.kind)).setCell ⟨w.heap.size+1,10,none⟩ (.int .i64 T.why))=wE at *
    have r0:=HE.out.cell 0 _ rfl
    have r1:=HE.out.cell 1 _ rfl
    have r2:=HE.out.cell 2 _ rfl
    have r3:=HE.out.cell 3 _ rfl
    have r4:=HE.out.cell 4 _ rfl
    have r5:=HE.out.cell 5 _ rfl
    have r6:=HE.out.cell 6 _ rfl
    have r7:=HE.out.cell 7 _ rfl
    have r8:=HE.out.cell 8 _ rfl
    have r9:=HE.out.cell 9 _ rfl
    have r10:=HE.out.cell 10 _ rfl
    refine bodyPost_ret (v:=.tuple #[.agg (aT T x10),.int .i64 0]) (by simp[results,Tryz.results18,go_sem,r0,r1,r2,r3,r4,r5,r6,r7,r8,r9,r10]) rfl ?_
    have hW1:((w.alloc (.cells (aT t x) 34)).alloc (.cells z11 34)).heap.size=w.heap.size+2:=by simp
    have hown:=(Owns.only (Owns.wide_ HM10.out.own HB1.out) HOn.out (fun o ho k hk e=>by have:=Own.base (HM10.out.own.1 o ho) k hk;omega) (fun k e=>by omega))
    have hbel:Below w.heap.size w wE:=(bl_trans HB1.out HM10.out.bel).trans (HOn.out.below (Nat.le_trans HB1.out.size HM10.out.bel.size) (fun k hk e=>by omega))
    exact ⟨x10,rfl,⟨hown,HM10.out.raw⟩,HL10.out,hbel⟩
  · have HTS:Hid (T=Dd):=Lh (by rw[HTD.out,if_neg hkz])
    have hkb:(Dd.kind==0)=false:=by simpa using hkz
    have hknz:¬Dd.kind=0:=hkz
    obtain ⟨c0,c1,c2,c3,c4,c5,c6,c7,c8,c9,c10⟩:=HM9.out.cells
    have kb:=HKb.out.below HB9.out
    have b0:=kb.cell 0 _ rfl
    have bf0:=kb.frozen 0
    have b1:=kb.cell 1 _ rfl
    have bf1:=kb.frozen 1
    have b2:=kb.cell 2 _ rfl
    have bf2:=kb.frozen 2
    have b3:=kb.cell 3 _ rfl
    have bf3:=kb.frozen 3
    have b4:=kb.cell 4 _ rfl
    have bf4:=kb.frozen 4
    have b5:=kb.cell 5 _ rfl
    have bf5:=kb.frozen 5
    have b6:=kb.cell 6 _ rfl
    have bf6:=kb.frozen 6
    have b7:=kb.cell 7 _ rfl
    have bf7:=kb.frozen 7
    have b8:=kb.cell 8 _ rfl
    have bf8:=kb.frozen 8
    have b9:=kb.cell 9 _ rfl
    have bf9:=kb.frozen 9
    have b10:=kb.cell 10 _ rfl
    have bf10:=kb.frozen 10
    clear kb
    go_wp2_with fail
    have HE:Hid (Blk (((((((((((w9.setCell ⟨w.heap.size+1,0,none⟩ (.int .i64 Dd.who)).setCell ⟨w.heap.size+1,1,none⟩ (.int .i64 Dd.snap)).setCell ⟨w.heap.size+1,2,none⟩ (.int .i64 Dd.pc)).setCell ⟨w.heap.size+1,3,none⟩ (.slice x9.R Dd.regs.length x9.rc)).setCell ⟨w.heap.size+1,4,none⟩ (.slice x9.P Dd.path.length x9.pc)).setCell ⟨w.heap.size+1,5,none⟩ (.slice x9.D Dd.reads.length x9.dc)).setCell ⟨w.heap.size+1,6,none⟩ (.slice x9.L Dd.log.list.length x9.lc)).setCell ⟨w.heap.size+1,7,none⟩ (.slice x9.M Dd.log.marks.length x9.mc)).setCell ⟨w.heap.size+1,8,none⟩ (.slice x9.F x9.fl.length x9.fc)).setCell ⟨w.heap.size+1,9,none⟩ (.int .i64 Dd.kind)).setCell ⟨w.heap.size+1,10,none⟩ (.int .i64 Dd.why)) (w.heap.size+1) 34 (aT Dd x9)):=Lh (fill_blk (HKb.out.below HB9.out))
    have HOn:Hid (Only (fun k=>k=w.heap.size+1) w9 (((((((((((w9.setCell ⟨w.heap.size+1,0,none⟩ (.int .i64 Dd.who)).setCell ⟨w.heap.size+1,1,none⟩ (.int .i64 Dd.snap)).setCell ⟨w.heap.size+1,2,none⟩ (.int .i64 Dd.pc)).setCell ⟨w.heap.size+1,3,none⟩ (.slice x9.R Dd.regs.length x9.rc)).setCell ⟨w.heap.size+1,4,none⟩ (.slice x9.P Dd.path.length x9.pc)).setCell ⟨w.heap.size+1,5,none⟩ (.slice x9.D Dd.reads.length x9.dc)).setCell ⟨w.heap.size+1,6,none⟩ (.slice x9.L Dd.log.list.length x9.lc)).setCell ⟨w.heap.size+1,7,none⟩ (.slice x9.M Dd.log.marks.length x9.mc)).setCell ⟨w.heap.size+1,8,none⟩ (.slice x9.F x9.fl.length x9.fc)).setCell ⟨w.heap.size+1,9,none⟩ (.int .i64 Dd.kind)).setCell ⟨w.heap.size+1,10,none⟩ (.int .i64 Dd.why))):=Lh (fill_only w9 (w.heap.size+1) _ _ _ _ _ _ _ _ _ _ _)
    clear c0 b0 bf0 c1 b1 bf1 c2 b2 bf2 c3 b3 bf3 c4 b4 bf4 c5 b5 bf5 c6 b6 bf6 c7 b7 bf7 c8 b8 bf8 c9 b9 bf9 c10 b10 bf10
    generalize (((((((((((w9.setCell ⟨w.heap.size+1,0,none⟩ (.int .i64 Dd.who)).setCell ⟨w.heap.size+1,1,none⟩ (.int .i64 Dd.snap)).setCell ⟨w.heap.size+1,2,none⟩ (.int .i64 Dd.pc)).setCell ⟨w.heap.size+1,3,none⟩ (.slice x9.R Dd.regs.length x9.rc)).setCell ⟨w.heap.size+1,4,none⟩ (.slice x9.P Dd.path.length x9.pc)).setCell ⟨w.heap.size+1,5,none⟩ (.slice x9.D Dd.reads.length x9.dc)).setCell ⟨w.heap.size+1,6,none⟩ (.slice x9.L Dd.log.list.length x9.lc)).setCell ⟨w.heap.size+1,7,none⟩ (.slice x9.M Dd.log.marks.length x9.mc)).setCell ⟨w.heap.size+1,8,none⟩ (.slice x9.F x9.fl.length x9.fc)).setCell ⟨w.heap.size+1,9,none⟩ (.int .i64 Dd.kind)).setCell ⟨w.heap.size+1,10,none⟩ (.int .i64 Dd.why))=wE at *
    have r0:=HE.out.cell 0 _ rfl
    have r1:=HE.out.cell 1 _ rfl
    have r2:=HE.out.cell 2 _ rfl
    have r3:=HE.out.cell 3 _ rfl
    have r4:=HE.out.cell 4 _ rfl
    have r5:=HE.out.cell 5 _ rfl
    have r6:=HE.out.cell 6 _ rfl
    have r7:=HE.out.cell 7 _ rfl
    have r8:=HE.out.cell 8 _ rfl
    have r9:=HE.out.cell 9 _ rfl
    have r10:=HE.out.cell 10 _ rfl
    refine bodyPost_ret (v:=.tuple #[.agg (aT Dd x9),.int .i64 0]) (by simp[results,Tryz.results18,go_sem,r0,r1,r2,r3,r4,r5,r6,r7,r8,r9,r10]) rfl ?_
    have hW1:((w.alloc (.cells (aT t x) 34)).alloc (.cells z11 34)).heap.size=w.heap.size+2:=by simp
    have hown:=(Owns.only (Owns.wide_ HM9.out.own HB1.out) HOn.out (fun o ho k hk e=>by have:=Own.base (HM9.out.own.1 o ho) k hk;omega) (fun k e=>by omega))
    have hbel:Below w.heap.size w wE:=(bl_trans HB1.out HB9.out).trans (HOn.out.below (Nat.le_trans HB1.out.size HB9.out.size) (fun k hk e=>by omega))
    rw[HTS.out]
    exact ⟨x9,rfl,⟨hown,HM9.out.raw⟩,HL9.out,hbel⟩
end Go.Proofs.YtgghaodcfgbjlaaGreat.Attempt
