/-
 WHAT THE LAYER attempt DOES, AS IT IS WRITTEN: how a try has ended. No conditions beyond those that each theorem states.
-/
import Derived.Test.YtgghaodcfgbjlaaGreatAttE
import Derived.Deep.LoopGhost
import Derived.Test.YtgghaodcfgbjlaaGreatReadsB
import Derived.Test.YtgghaodcfgbjlaaGreatWritesB
import Derived.Test.YtgghaodcfgbjlaaGreatModelA
import Derived.LoopTactic
import Derived.Deep.QuietTactic
import Derived.BigQuiet
import Derived.RegionTactic
import Derived.Laws.StructEq
set_option maxRecDepth 100000
namespace Go.Proofs.YtgghaodcfgbjlaaGreat.Attempt
open Go.ChangeShapes Go.WideShapes Go.ChangeAt Go.RowKit Mem Go.Proofs.YtgghaodcfgbjlaaGreat.Code
def RetRun (w:World) (t:Try) (k:Nat) (f:Int) (e:Ending) (w' :World):Prop:=∃y,e=.returned (.tuple #[.agg (tvl t y).toArray,.int .i64 k,.int .i64 f])∧TOwn w w' t y∧y.fl.length≤1000000∧Below w.heap.size w w'
set_option maxHeartbeats 3000000 in
theorem run_c (l:List Raw) (C:Option Addr) (n c:Nat) (h:List Heap.Cell) (HA:Option Addr) (hn hc:Nat) (r:List Stripe.Rec) (TA:Option Addr) (tn tc:Nat) (t:Try) (x:TL) (w:World) (p:SPre w l C n c h HA hn r TA tn t x) (R:Try × Nat × Bool) (hR:runS (ss l) h r t=R):
    Calls Tryz.prog 48 #[.agg (tvl t x).toArray,.slice C n c,.slice HA hn hc,.slice TA tn tc] w (RetRun w R.1 R.2.1 (if R.2.2=true then 0 else 1)):=by
  have HB1:Hid (Below w.heap.size w ((w.alloc (.cells (aT t x) 34)).alloc (.cells z11 34))):=Lh (bl_alloc (bl_alloc (Below.refl _ _) _) _)
  have HKa:Hid (Blk ((w.alloc (.cells (aT t x) 34)).alloc (.cells z11 34)) w.heap.size 34 (aT t x)):=Lh ((Blk.new w _ _).alloc _)
  have HKb:Hid (Blk ((w.alloc (.cells (aT t x) 34)).alloc (.cells z11 34)) (w.heap.size+1) 34 z11):=Lh (by have:=Blk.new (w.alloc (.cells (aT t x) 34)) 34 z11;simpa using this)
  have HCL:Hid (Calls Tryz.prog 60 #[.agg (aT t x)] ((w.alloc (.cells (aT t x) 34)).alloc (.cells z11 34)) fun e w' =>∃x8:TL,e=.returned (.agg (aT t x8))∧Owns ((w.alloc (.cells (aT t x) 34)).alloc (.cells z11 34)) w' (x8.os t)∧x8.fl.map FRaw.f=t.frames.reverse∧x8.fl.length≤1000000∧Below ((w.alloc (.cells (aT t x) 34)).alloc (.cells z11 34)).heap.size ((w.alloc (.cells (aT t x) 34)).alloc (.cells z11 34)) w'):=Lh (clone_t t x ((w.alloc (.cells (aT t x) 34)).alloc (.cells z11 34)) (p.rd.below HB1.out) (by rw[p.sm.regs];decide) (Nat.le_trans p.sm.path (by decide)) (Nat.le_trans p.sm.reads (by decide)) (Nat.le_trans p.sm.list (by decide)) (Nat.le_trans p.sm.marks (by decide)) (Nat.le_trans p.sm.fl (by decide)) (fun f hf=>by rw[p.r8 f hf];decide))
  have HCL2:Hid (∀W:World,Below w.heap.size w W→Calls Tryz.prog 60 #[.agg (aT t x)] W fun e w' =>∃x8:TL,e=.returned (.agg (aT t x8))∧Owns W w' (x8.os t)∧x8.fl.map FRaw.f=t.frames.reverse∧x8.fl.length≤1000000∧Below W.heap.size W w'):=Lh (fun W hW=>clone_t t x W (p.rd.below hW) (by rw[p.sm.regs];decide) (Nat.le_trans p.sm.path (by decide)) (Nat.le_trans p.sm.reads (by decide)) (Nat.le_trans p.sm.list (by decide)) (Nat.le_trans p.sm.marks (by decide)) (Nat.le_trans p.sm.fl (by decide)) (fun f hf=>by rw[p.r8 f hf];decide))
  have HP:=Lh p
  obtain ⟨RQ,hRQ⟩:∃RQ,runF (ss l) h r ((ss l).length+1) t 0=RQ:=⟨_,rfl⟩
  have HRQ:=Lh hRQ
  have HRR:Hid (R=if RQ.2.2=true then RQ else (t,0,false)):=Lh (by rw[←hR];unfold runS;rw[hRQ])
  have HST:Hid (∀(W:World) (t9:Try) (x9:TL) (T9:Try) (ok:Bool),Below w.heap.size w W→TRd W t9 x9→Inv (ss l) t9→stepS (ss l) h r t9=(T9,ok)→Calls Tryz.prog 18 #[.agg (aT t9 x9),.slice C n c,.slice HA hn hc,.slice TA tn tc] W fun e w' =>∃y:TL,e=.returned (.tuple #[.agg (aT T9 y),.int .i64 (if ok=true then 0 else 1)])∧TOwn W w' T9 y∧y.fl.length≤1000000∧Below W.heap.size W w'):=
    Lh (fun W t9 x9 T9 ok hW hr hi hS=>step_c l C n c h HA hn hc r TA tn tc t9 x9 W (SPre.mk_ (p.code.below hW) p.nc p.lim p.n6 (p.heap.below hW) p.hn6 (p.tab.below hW) p.tn6 hr hi) T9 ok hS)
  have HL24:Hid ((ss l).length≤24):=Lh p.inv.len
  obtain ⟨PQ,hPQ⟩:∃PQ,RetRun w R.1 R.2.1 (if R.2.2=true then 0 else 1)=PQ:=⟨_,rfl⟩
  have HPQ:=Lh hPQ
  rw[hPQ]
  clear p hR hRQ hPQ
  show Calls Tryz.prog 48 #[.agg (aT t x),.slice C n c,.slice HA hn hc,.slice TA tn tc] w PQ
  go_enter Tryz.func48,Tryz.ntmps48
  go_wp2_with (first
    | (go_at_call 60
       refine HCL.out.mono ?_
       rintro e w2 ⟨x8,rfl,hown,hraw,hf6,hb2⟩
       have HOW:Hid (TOwn w (w2.alloc (.cells (aT t x8) 34)) t x8):=Lh ⟨(Owns.wide_ hown HB1.out).below (bl_alloc (Below.refl _ _) _),hraw⟩
       have HF6:=Lh hf6
       have hW1:((w.alloc (.cells (aT t x) 34)).alloc (.cells z11 34)).heap.size=w.heap.size+2:=by simp
       have HNB:Hid (∀o∈x8.os t,o.v.ownBlock≠some (w.heap.size+1)):=Lh (fun o ho e=>by have h1:=Own.base (hown.1 o ho) _ e;omega)
       have HB2:=Lh (bl_trans HB1.out (bl_alloc hb2 (.cells (aT t x8) 34)))
       have HKc:Hid (Blk (w2.alloc (.cells (aT t x8) 34)) w2.heap.size 34 (aT t x8)):=Lh (Blk.new _ _ _)
       have HKa2:=Lh ((HKa.out.below hb2).alloc (.cells (aT t x8) 34))
       have HKb2:=Lh ((HKb.out.below hb2).alloc (.cells (aT t x8) 34))
       have HSZ:Hid (w.heap.size+2≤w2.heap.size):=Lh (by have:=hb2.size;omega)
       clear hown hraw hf6 hb2 hW1))
  go_loopg [12] ((ss l).length+1) (fun gk p wr=>∃(t9:Try) (x9:TL) (k:Nat),p=.int .i64 k∧Hid (Blk wr w2.heap.size 34 (aT t9 x9))∧Hid (TOwn w wr t9 x9)∧Hid (∀o∈x9.os t9,o.v.ownBlock≠some (w.heap.size+1))∧x9.fl.length≤1000000∧Hid (Below w.heap.size w wr)∧Hid (Blk wr w.heap.size 34 (aT t x))∧Hid (Blk wr (w.heap.size+1) 34 z11)∧Hid (Inv (ss l) t9)∧Hid (runF (ss l) h r gk t9 k=RQ)∧Hid ((ss l).length+1≤gk+t9.pc∨t9.kind≠0)∧k≤24∧Hid (t9.kind=0→k≤t9.pc))
  case atStart=>exact ⟨t,x8,0,rfl,HKc,HOW,HNB,HF6.out,HB2,HKa2,HKb2,Lh HP.out.inv,HRQ,Lh (.inl (Nat.le_add_right _ _)),Nat.zero_le _,Lh (fun _=>Nat.zero_le _)⟩
  case round =>
    obtain ⟨t9,x9,k,rfl,HK9,HO9,HN9,hf9,HB9,HA9,HZ9,HI9,HR9,HM9,hk24,HK0⟩:=hrel
    have c0:=HK9.out.cell 0 _ rfl
    have c1:=HK9.out.cell 1 _ rfl
    have c2:=HK9.out.cell 2 _ rfl
    have c3:=HK9.out.cell 3 _ rfl
    have c4:=HK9.out.cell 4 _ rfl
    have c5:=HK9.out.cell 5 _ rfl
    have c6:=HK9.out.cell 6 _ rfl
    have c7:=HK9.out.cell 7 _ rfl
    have c8:=HK9.out.cell 8 _ rfl
    have c9:=HK9.out.cell 9 _ rfl
    have c10:=HK9.out.cell 10 _ rfl
    by_cases hk:t9.kind=0
    · have hkb :(t9.kind==0)=true:=by simp[hk]
      obtain ⟨T9,ok,hS⟩:∃T9 ok,stepS (ss l) h r t9=(T9,ok):=⟨_,_,rfl⟩
      have HSS:=Lh hS
      have HCC:=Lh (HST.out wr t9 x9 T9 ok HB9.out HO9.out.rd HI9.out hS)
      have HPC:Hid (t9.pc<(ss l).length):=Lh (HI9.out.pc_lt hk)
      obtain ⟨g',hg'⟩:∃g',gk=g' +1:=⟨gk - 1,by have h1:=HPC.out;rcases HM9.out with h2 | h2;omega;exact absurd hk h2⟩
      subst hg'
      have HKZ:=Lh hk
      clear hS hk
      cases ok with
      | true =>
        go_wp2_with (first
          | (go_at_call 18
             refine HCC.out.mono ?_
             rintro e w5 ⟨y,rfl,ho5,hf5,hb5⟩
             have HO5:=Lh ho5
             have HF5:=Lh hf5
             have HB5:=Lh hb5
             have HK5:=Lh ((HK9.out.below hb5).alloc (.cells (aT T9 y) 34))
             have HN5:Hid (Blk (w5.alloc (.cells (aT T9 y) 34)) w5.heap.size 34 (aT T9 y)):=Lh (Blk.new _ _ _)
             have d0:=HN5.out.cell 0 _ rfl
             have d1:=HN5.out.cell 1 _ rfl
             have d2:=HN5.out.cell 2 _ rfl
             have d3:=HN5.out.cell 3 _ rfl
             have d4:=HN5.out.cell 4 _ rfl
             have d5:=HN5.out.cell 5 _ rfl
             have d6:=HN5.out.cell 6 _ rfl
             have d7:=HN5.out.cell 7 _ rfl
             have d8:=HN5.out.cell 8 _ rfl
             have d9:=HN5.out.cell 9 _ rfl
             have d10:=HN5.out.cell 10 _ rfl
             have e0:=HK5.out.cell 0 _ rfl
             have e1:=HK5.out.cell 1 _ rfl
             have e2:=HK5.out.cell 2 _ rfl
             have e3:=HK5.out.cell 3 _ rfl
             have e4:=HK5.out.cell 4 _ rfl
             have e5:=HK5.out.cell 5 _ rfl
             have e6:=HK5.out.cell 6 _ rfl
             have e7:=HK5.out.cell 7 _ rfl
             have e8:=HK5.out.cell 8 _ rfl
             have e9:=HK5.out.cell 9 _ rfl
             have e10:=HK5.out.cell 10 _ rfl
             have ef0:=HK5.out.frozen 0
             have ef1:=HK5.out.frozen 1
             have ef2:=HK5.out.frozen 2
             have ef3:=HK5.out.frozen 3
             have ef4:=HK5.out.frozen 4
             have ef5:=HK5.out.frozen 5
             have ef6:=HK5.out.frozen 6
             have ef7:=HK5.out.frozen 7
             have ef8:=HK5.out.frozen 8
             have ef9:=HK5.out.frozen 9
             have ef10:=HK5.out.frozen 10
             clear ho5 hf5 hb5 c0 c1 c2 c3 c4 c5 c6 c7 c8 c9 c10))
        have HE:Hid (Blk ((((((((((((w5.alloc (.cells (aT T9 y) 34)).setCell ⟨w2.heap.size,0,none⟩ (.int .i64 T9.who)).setCell ⟨w2.heap.size,1,none⟩ (.int .i64 T9.snap)).setCell ⟨w2.heap.size,2,none⟩ (.int .i64 T9.pc)).setCell ⟨w2.heap.size,3,none⟩ (.slice y.R T9.regs.length y.rc)).setCell ⟨w2.heap.size,4,none⟩ (.slice y.P T9.path.length y.pc)).setCell ⟨w2.heap.size,5,none⟩ (.slice y.D T9.reads.length y.dc)).setCell ⟨w2.heap.size,6,none⟩ (.slice y.L T9.log.list.length y.lc)).setCell ⟨w2.heap.size,7,none⟩ (.slice y.M T9.log.marks.length y.mc)).setCell ⟨w2.heap.size,8,none⟩ (.slice y.F y.fl.length y.fc)).setCell ⟨w2.heap.size,9,none⟩ (.int .i64 T9.kind)).setCell ⟨w2.heap.size,10,none⟩ (.int .i64 T9.why)) w2.heap.size 34 (aT T9 y)):=Lh (fill_blk HK5.out)
        have HOn:Hid (Only (fun k=>k=w2.heap.size) (w5.alloc (.cells (aT T9 y) 34)) ((((((((((((w5.alloc (.cells (aT T9 y) 34)).setCell ⟨w2.heap.size,0,none⟩ (.int .i64 T9.who)).setCell ⟨w2.heap.size,1,none⟩ (.int .i64 T9.snap)).setCell ⟨w2.heap.size,2,none⟩ (.int .i64 T9.pc)).setCell ⟨w2.heap.size,3,none⟩ (.slice y.R T9.regs.length y.rc)).setCell ⟨w2.heap.size,4,none⟩ (.slice y.P T9.path.length y.pc)).setCell ⟨w2.heap.size,5,none⟩ (.slice y.D T9.reads.length y.dc)).setCell ⟨w2.heap.size,6,none⟩ (.slice y.L T9.log.list.length y.lc)).setCell ⟨w2.heap.size,7,none⟩ (.slice y.M T9.log.marks.length y.mc)).setCell ⟨w2.heap.size,8,none⟩ (.slice y.F y.fl.length y.fc)).setCell ⟨w2.heap.size,9,none⟩ (.int .i64 T9.kind)).setCell ⟨w2.heap.size,10,none⟩ (.int .i64 T9.why))):=Lh (fill_only (w5.alloc (.cells (aT T9 y) 34)) w2.heap.size _ _ _ _ _ _ _ _ _ _ _)
        clear d0 e0 ef0 d1 e1 ef1 d2 e2 ef2 d3 e3 ef3 d4 e4 ef4 d5 e5 ef5 d6 e6 ef6 d7 e7 ef7 d8 e8 ef8 d9 e9 ef9 d10 e10 ef10
        generalize ((((((((((((w5.alloc (.cells (aT T9 y) 34)).setCell ⟨w2.heap.size,0,none⟩ (.int .i64 T9.who)).setCell ⟨w2.heap.size,1,none⟩ (.int .i64 T9.snap)).setCell ⟨w2.heap.size,2,none⟩ (.int .i64 T9.pc)).setCell ⟨w2.heap.size,3,none⟩ (.slice y.R T9.regs.length y.rc)).setCell ⟨w2.heap.size,4,none⟩ (.slice y.P T9.path.length y.pc)).setCell ⟨w2.heap.size,5,none⟩ (.slice y.D T9.reads.length y.dc)).setCell ⟨w2.heap.size,6,none⟩ (.slice y.L T9.log.list.length y.lc)).setCell ⟨w2.heap.size,7,none⟩ (.slice y.M T9.log.marks.length y.mc)).setCell ⟨w2.heap.size,8,none⟩ (.slice y.F y.fl.length y.fc)).setCell ⟨w2.heap.size,9,none⟩ (.int .i64 T9.kind)).setCell ⟨w2.heap.size,10,none⟩ (.int .i64 T9.why))=wF at *
        go_roundg g'
        case measure=>omega
        case rel =>
          have hsz:=HSZ.out
          have hlt:=HK9.out.lt
          have hb6:Below wr.heap.size wr (w5.alloc (.cells (aT T9 y) 34)):=bl_alloc HB5.out _
          obtain ⟨p1,p2⟩:=step_pc HI9.out HSS.out
          have hO:Owns w wF (y.os T9):=Owns.only ((Owns.wide_ HO5.out.own HB9.out).below (bl_alloc (Below.refl _ _) _)) HOn.out (fun o ho k hk e=>by have:=Own.base (HO5.out.own.1 o ho) k hk;omega) (fun k e=>by omega)
          have hbel:Below w.heap.size w wF:=(bl_trans HB9.out hb6).trans (HOn.out.below (Nat.le_trans HB9.out.size hb6.size) (fun k hk e=>by omega))
          refine ⟨T9,y,k+1,rfl,HE,Lh ⟨hO,HO5.out.raw⟩,Lh (fun o ho e=>by have:=Own.base (HO5.out.own.1 o ho) _ e;omega),HF5.out,Lh hbel,Lh (HOn.out.blk (HA9.out.below hb6) (by omega)),Lh (HOn.out.blk (HZ9.out.below hb6) (by omega)),Lh (step_inv HI9.out HSS.out),Lh (by rw[←HR9.out,run_go HKZ.out HSS.out]),Lh ?_,?_,Lh ?_⟩
          · by_cases h0:T9.kind=0
            · have h1:=p2 h0
              rcases HM9.out with h2 | h2
              · exact .inl (by omega)
              · exact absurd HKZ.out h2
            · exact .inr h0
          · have h1:=HK0.out HKZ.out;have h2:=HPC.out;have h3:=HL24.out;omega
          · intro h0;have h1:=p2 h0;have h2:=HK0.out HKZ.out;omega
      | false =>
        go_wp2_with (first
          | (go_at_call 18
             refine HCC.out.mono ?_
             rintro e w5 ⟨y,rfl,ho5,hf5,hb5⟩
             have HO5:=Lh ho5
             have HF5:=Lh hf5
             have HB5:=Lh hb5
             have HK5:=Lh ((HK9.out.below hb5).alloc (.cells (aT T9 y) 34))
             have HN5:Hid (Blk (w5.alloc (.cells (aT T9 y) 34)) w5.heap.size 34 (aT T9 y)):=Lh (Blk.new _ _ _)
             have HA5:=Lh ((HA9.out.below hb5).alloc (.cells (aT T9 y) 34))
             have a0:=HA5.out.cell 0 _ rfl
             have a1:=HA5.out.cell 1 _ rfl
             have a2:=HA5.out.cell 2 _ rfl
             have a3:=HA5.out.cell 3 _ rfl
             have a4:=HA5.out.cell 4 _ rfl
             have a5:=HA5.out.cell 5 _ rfl
             have a6:=HA5.out.cell 6 _ rfl
             have a7:=HA5.out.cell 7 _ rfl
             have a8:=HA5.out.cell 8 _ rfl
             have a9:=HA5.out.cell 9 _ rfl
             have a10:=HA5.out.cell 10 _ rfl
             clear ho5 hf5 hb5)
          | (go_at_call 60
             refine (HCL2.out _ (bl_trans HB9.out (bl_alloc HB5.out (.cells (aT T9 y) 34)))).mono ?_
             rintro e w6 ⟨x8,rfl,hown,hraw,hf6,hb6⟩
             have HO6:=Lh hown
             have HR6:=Lh hraw
             have HF7:=Lh hf6
             have HB6:=Lh (bl_trans (bl_trans HB9.out (bl_alloc HB5.out (.cells (aT T9 y) 34))) hb6)
             have HZ6:=Lh (((HZ9.out.below HB5.out).alloc (.cells (aT T9 y) 34)).below hb6)
             have b0:=HZ6.out.cell 0 _ rfl
             have b1:=HZ6.out.cell 1 _ rfl
             have b2:=HZ6.out.cell 2 _ rfl
             have b3:=HZ6.out.cell 3 _ rfl
             have b4:=HZ6.out.cell 4 _ rfl
             have b5:=HZ6.out.cell 5 _ rfl
             have b6:=HZ6.out.cell 6 _ rfl
             have b7:=HZ6.out.cell 7 _ rfl
             have b8:=HZ6.out.cell 8 _ rfl
             have b9:=HZ6.out.cell 9 _ rfl
             have b10:=HZ6.out.cell 10 _ rfl
             have bf0:=HZ6.out.frozen 0
             have bf1:=HZ6.out.frozen 1
             have bf2:=HZ6.out.frozen 2
             have bf3:=HZ6.out.frozen 3
             have bf4:=HZ6.out.frozen 4
             have bf5:=HZ6.out.frozen 5
             have bf6:=HZ6.out.frozen 6
             have bf7:=HZ6.out.frozen 7
             have bf8:=HZ6.out.frozen 8
             have bf9:=HZ6.out.frozen 9
             have bf10:=HZ6.out.frozen 10
             clear hown hraw hf6 hb6))
        have HE:Hid (Blk (((((((((((w6.setCell ⟨w.heap.size+1,0,none⟩ (.int .i64 t.who)).setCell ⟨w.heap.size+1,1,none⟩ (.int .i64 t.snap)).setCell ⟨w.heap.size+1,2,none⟩ (.int .i64 t.pc)).setCell ⟨w.heap.size+1,3,none⟩ (.slice x8.R t.regs.length x8.rc)).setCell ⟨w.heap.size+1,4,none⟩ (.slice x8.P t.path.length x8.pc)).setCell ⟨w.heap.size+1,5,none⟩ (.slice x8.D t.reads.length x8.dc)).setCell ⟨w.heap.size+1,6,none⟩ (.slice x8.L t.log.list.length x8.lc)).setCell ⟨w.heap.size+1,7,none⟩ (.slice x8.M t.log.marks.length x8.mc)).setCell ⟨w.heap.size+1,8,none⟩ (.slice x8.F x8.fl.length x8.fc)).setCell ⟨w.heap.size+1,9,none⟩ (.int .i64 t.kind)).setCell ⟨w.heap.size+1,10,none⟩ (.int .i64 t.why)) (w.heap.size+1) 34 (aT t x8)):=Lh (fill_blk HZ6.out)
        have HOn:Hid (Only (fun k=>k=w.heap.size+1) w6 (((((((((((w6.setCell ⟨w.heap.size+1,0,none⟩ (.int .i64 t.who)).setCell ⟨w.heap.size+1,1,none⟩ (.int .i64 t.snap)).setCell ⟨w.heap.size+1,2,none⟩ (.int .i64 t.pc)).setCell ⟨w.heap.size+1,3,none⟩ (.slice x8.R t.regs.length x8.rc)).setCell ⟨w.heap.size+1,4,none⟩ (.slice x8.P t.path.length x8.pc)).setCell ⟨w.heap.size+1,5,none⟩ (.slice x8.D t.reads.length x8.dc)).setCell ⟨w.heap.size+1,6,none⟩ (.slice x8.L t.log.list.length x8.lc)).setCell ⟨w.heap.size+1,7,none⟩ (.slice x8.M t.log.marks.length x8.mc)).setCell ⟨w.heap.size+1,8,none⟩ (.slice x8.F x8.fl.length x8.fc)).setCell ⟨w.heap.size+1,9,none⟩ (.int .i64 t.kind)).setCell ⟨w.heap.size+1,10,none⟩ (.int .i64 t.why))):=Lh (fill_only w6 (w.heap.size+1) _ _ _ _ _ _ _ _ _ _ _)
        clear c0 b0 bf0 c1 b1 bf1 c2 b2 bf2 c3 b3 bf3 c4 b4 bf4 c5 b5 bf5 c6 b6 bf6 c7 b7 bf7 c8 b8 bf8 c9 b9 bf9 c10 b10 bf10
        generalize (((((((((((w6.setCell ⟨w.heap.size+1,0,none⟩ (.int .i64 t.who)).setCell ⟨w.heap.size+1,1,none⟩ (.int .i64 t.snap)).setCell ⟨w.heap.size+1,2,none⟩ (.int .i64 t.pc)).setCell ⟨w.heap.size+1,3,none⟩ (.slice x8.R t.regs.length x8.rc)).setCell ⟨w.heap.size+1,4,none⟩ (.slice x8.P t.path.length x8.pc)).setCell ⟨w.heap.size+1,5,none⟩ (.slice x8.D t.reads.length x8.dc)).setCell ⟨w.heap.size+1,6,none⟩ (.slice x8.L t.log.list.length x8.lc)).setCell ⟨w.heap.size+1,7,none⟩ (.slice x8.M t.log.marks.length x8.mc)).setCell ⟨w.heap.size+1,8,none⟩ (.slice x8.F x8.fl.length x8.fc)).setCell ⟨w.heap.size+1,9,none⟩ (.int .i64 t.kind)).setCell ⟨w.heap.size+1,10,none⟩ (.int .i64 t.why))=wE at *
        have r0:=HE.out.cell 0 _ rfl
        have r1:=HE.out.cell 1 _ rfl
        have r2:=HE.out.cell 2 _ rfl
        have r3:=HE.out.cell 3 _ rfl
        have r4:=HE.out.cell 4 _ rfl
        have r5:=HE.out.cell 5 _ rfl
        have r6:=HE.out.cell 6 _ rfl
        have r7:=HE.out.cell 7 _ rfl
        have r8:=HE.out.cell 8 _ rfl
        have r9:=HE.out.cell 9 _ rfl
        have r10:=HE.out.cell 10 _ rfl
        refine bodyPost_ret (v:=.tuple #[.agg (aT t x8),.int .i64 0,.int .i64 1]) (by simp[results,Tryz.results48,go_sem,r0,r1,r2,r3,r4,r5,r6,r7,r8,r9,r10]) rfl ?_
        have hown:=Owns.only (Owns.wide_ HO6.out (bl_trans HB9.out (bl_alloc HB5.out (.cells (aT T9 y) 34)))) HOn.out (fun o ho k hk e=>by have h1:=Own.base (HO6.out.1 o ho) k hk;have h2:=HZ9.out.lt;have h3:=HB5.out.size;simp at h1;omega) (fun k e=>by omega)
        have hbel:Below w.heap.size w wE:=HB6.out.trans (HOn.out.below HB6.out.size (fun k hk e=>by omega))
        have hq:R=(t,0,false):=by rw[HRR.out,if_neg (by rw[←HR9.out,run_no HKZ.out HSS.out];show¬(false=true);decide)]
        rw[←HPQ.out,hq]
        exact ⟨x8,rfl,⟨hown,HR6.out⟩,HF7.out,hbel⟩
    · have hkb:(t9.kind==0)=false:=by simpa using hk
      have HKN:=Lh hk
      have b0:=HZ9.out.cell 0 _ rfl
      have b1:=HZ9.out.cell 1 _ rfl
      have b2:=HZ9.out.cell 2 _ rfl
      have b3:=HZ9.out.cell 3 _ rfl
      have b4:=HZ9.out.cell 4 _ rfl
      have b5:=HZ9.out.cell 5 _ rfl
      have b6:=HZ9.out.cell 6 _ rfl
      have b7:=HZ9.out.cell 7 _ rfl
      have b8:=HZ9.out.cell 8 _ rfl
      have b9:=HZ9.out.cell 9 _ rfl
      have b10:=HZ9.out.cell 10 _ rfl
      have bf0:=HZ9.out.frozen 0
      have bf1:=HZ9.out.frozen 1
      have bf2:=HZ9.out.frozen 2
      have bf3:=HZ9.out.frozen 3
      have bf4:=HZ9.out.frozen 4
      have bf5:=HZ9.out.frozen 5
      have bf6:=HZ9.out.frozen 6
      have bf7:=HZ9.out.frozen 7
      have bf8:=HZ9.out.frozen 8
      have bf9:=HZ9.out.frozen 9
      have bf10:=HZ9.out.frozen 10
      go_wp2_with fail
      have HE:Hid (Blk (((((((((((wr.setCell ⟨w.heap.size+1,0,none⟩ (.int .i64 t9.who)).setCell ⟨w.heap.size+1,1,none⟩ (.int .i64 t9.snap)).setCell ⟨w.heap.size+1,2,none⟩ (.int .i64 t9.pc)).setCell ⟨w.heap.size+1,3,none⟩ (.slice x9.R t9.regs.length x9.rc)).setCell ⟨w.heap.size+1,4,none⟩ (.slice x9.P t9.path.length x9.pc)).setCell ⟨w.heap.size+1,5,none⟩ (.slice x9.D t9.reads.length x9.dc)).setCell ⟨w.heap.size+1,6,none⟩ (.slice x9.L t9.log.list.length x9.lc)).setCell ⟨w.heap.size+1,7,none⟩ (.slice x9.M t9.log.marks.length x9.mc)).setCell ⟨w.heap.size+1,8,none⟩ (.slice x9.F x9.fl.length x9.fc)).setCell ⟨w.heap.size+1,9,none⟩ (.int .i64 t9.kind)).setCell ⟨w.heap.size+1,10,none⟩ (.int .i64 t9.why)) (w.heap.size+1) 34 (aT t9 x9)):=Lh (fill_blk HZ9.out)
      have HOn:Hid (Only (fun k=>k=w.heap.size+1) wr (((((((((((wr.setCell ⟨w.heap.size+1,0,none⟩ (.int .i64 t9.who)).setCell ⟨w.heap.size+1,1,none⟩ (.int .i64 t9.snap)).setCell ⟨w.heap.size+1,2,none⟩ (.int .i64 t9.pc)).setCell ⟨w.heap.size+1,3,none⟩ (.slice x9.R t9.regs.length x9.rc)).setCell ⟨w.heap.size+1,4,none⟩ (.slice x9.P t9.path.length x9.pc)).setCell ⟨w.heap.size+1,5,none⟩ (.slice x9.D t9.reads.length x9.dc)).setCell ⟨w.heap.size+1,6,none⟩ (.slice x9.L t9.log.list.length x9.lc)).setCell ⟨w.heap.size+1,7,none⟩ (.slice x9.M t9.log.marks.length x9.mc)).setCell ⟨w.heap.size+1,8,none⟩ (.slice x9.F x9.fl.length x9.fc)).setCell ⟨w.heap.size+1,9,none⟩ (.int .i64 t9.kind)).setCell ⟨w.heap.size+1,10,none⟩ (.int .i64 t9.why))):=Lh (fill_only wr (w.heap.size+1) _ _ _ _ _ _ _ _ _ _ _)
      clear c0 b0 bf0 c1 b1 bf1 c2 b2 bf2 c3 b3 bf3 c4 b4 bf4 c5 b5 bf5 c6 b6 bf6 c7 b7 bf7 c8 b8 bf8 c9 b9 bf9 c10 b10 bf10
      generalize (((((((((((wr.setCell ⟨w.heap.size+1,0,none⟩ (.int .i64 t9.who)).setCell ⟨w.heap.size+1,1,none⟩ (.int .i64 t9.snap)).setCell ⟨w.heap.size+1,2,none⟩ (.int .i64 t9.pc)).setCell ⟨w.heap.size+1,3,none⟩ (.slice x9.R t9.regs.length x9.rc)).setCell ⟨w.heap.size+1,4,none⟩ (.slice x9.P t9.path.length x9.pc)).setCell ⟨w.heap.size+1,5,none⟩ (.slice x9.D t9.reads.length x9.dc)).setCell ⟨w.heap.size+1,6,none⟩ (.slice x9.L t9.log.list.length x9.lc)).setCell ⟨w.heap.size+1,7,none⟩ (.slice x9.M t9.log.marks.length x9.mc)).setCell ⟨w.heap.size+1,8,none⟩ (.slice x9.F x9.fl.length x9.fc)).setCell ⟨w.heap.size+1,9,none⟩ (.int .i64 t9.kind)).setCell ⟨w.heap.size+1,10,none⟩ (.int .i64 t9.why))=wE at *
      have r0:=HE.out.cell 0 _ rfl
      have r1:=HE.out.cell 1 _ rfl
      have r2:=HE.out.cell 2 _ rfl
      have r3:=HE.out.cell 3 _ rfl
      have r4:=HE.out.cell 4 _ rfl
      have r5:=HE.out.cell 5 _ rfl
      have r6:=HE.out.cell 6 _ rfl
      have r7:=HE.out.cell 7 _ rfl
      have r8:=HE.out.cell 8 _ rfl
      have r9:=HE.out.cell 9 _ rfl
      have r10:=HE.out.cell 10 _ rfl
      refine bodyPost_ret (v:=.tuple #[.agg (aT t9 x9),.int .i64 k,.int .i64 0]) (by simp[results,Tryz.results48,go_sem,r0,r1,r2,r3,r4,r5,r6,r7,r8,r9,r10]) rfl ?_
      have hown:=Owns.only HO9.out.own HOn.out (fun o ho k hk e=>HN9.out o ho (by rw[hk,e])) (fun k e=>by omega)
      have hbel:Below w.heap.size w wE:=HB9.out.trans (HOn.out.below HB9.out.size (fun k hk e=>by omega))
      have hq:R=(t9,k,true):=by
        have h1:RQ=(t9,k,true):=by rw[←HR9.out,run_ended _ _ _ _ _ _ HKN.out]
        rw[HRR.out,h1];rfl
      rw[←HPQ.out,hq]
      exact ⟨x9,rfl,⟨hown,HO9.out.raw⟩,hf9,hbel⟩
end Go.Proofs.YtgghaodcfgbjlaaGreat.Attempt
namespace Go.Proofs.YtgghaodcfgbjlaaGreat.Reads
open Go.ChangeShapes Go.WideShapes Go.ChangeAt Go.RowKit Mem
theorem cells_o (l:List Read) (A:Option Addr) (n c:Nat) (w:World) (r:List Int) (q:Nat) (hr:Rd w 3 A n (ds l)) (hnc:n≤c) (hn:n≤1000000) (hcs:cellsS l=r) (hq:r.length=q):
  Calls Tryz.prog 76 #[.slice A n c] w (Mem.RetO w 3 1 q (zs r)):=by
 have HC:=Lh hcs
 have HQ:=Lh hq
 have HL:=Lh (ds_len hr)
 have HR:=Lh hr
 clear hr hcs hq
 cases h1:rightB l
 ·have H1:=Lh h1
  have HF:Hid (r= []):=Lh (by rw[←HC.out];unfold cellsS;rw[h1];rfl)
  have HN:Hid (q=0):=Lh (by rw[←HQ.out,HF.out];rfl)
  obtain rfl:=HN.out
  clear h1
  go_enter Tryz.func76,Tryz.ntmps76
  go_wp2_with fail
  refine (right_c l _ _ _ _ false HR.out hnc hn H1.out).mono ?_
  rintro e w1 ⟨rfl,b1⟩
  go_wp2
  go_ret
  exact ⟨_,rfl,by rw[HF.out];exact Own.nil_ b1⟩
 ·have H1:=Lh h1
  have HF:Hid (r=sortZ (l.map Read.cell)):=Lh (by rw[←HC.out];unfold cellsS;rw[if_pos h1])
  have HN:Hid (q=n):=Lh (by rw[←HQ.out,HF.out,sort_len,List.length_map];exact HL.out)
  obtain rfl:=HN.out
  clear h1
  go_enter Tryz.func76,Tryz.ntmps76
  go_wp2_with fail
  refine (right_c l _ _ _ _ true HR.out hnc hn H1.out).mono ?_
  rintro e w1 ⟨rfl,b1⟩
  have HB1:=Lh b1
  clear b1
  go_wp2
  go_loopw [3,11] (fun v i wr=>∃k:Nat,k≤q∧i=.int .i64 k∧Own w1 wr 3 1 v k (zs ((l.map Read.cell).take k))) (fun _ i _=>q - (intOf i).toNat)
  case atStart=>exact ⟨0,Nat.zero_le _,rfl,Own.nil_ (Below.refl _ _)⟩
  case round=>
   obtain ⟨k,hk,rfl,hown⟩:=hrel
   by_cases hlt:k<q
   ·obtain ⟨b,off,⟨cl,vr,vl⟩,rfl,hx,c0,c1,c2⟩:=at_read ((HR.out.below HB1.out).below hown.2) k hlt
    have HT:=Lh (zs_take (l.map Read.cell) k cl (by rw[List.getElem?_map,hx];rfl))
    clear hx
    go_wp2_with (at_builtin;refine append_rd rfl _ _ 27 rfl Mem.tInt w1 _ _ _ rfl ((hown.alloc _).alloc _) _ 1 1 [.int .i64 cl] rfl (Rd.builtAt _ 1 1 [.int .i64 cl] _ rfl (by simp)) (one_cons rfl one_nil) (by omega) (by omega) ?_;intro v' w' hown' hg;clear hg)
    go_roundw
    case rel=>exact ⟨k+1,by omega,by go_num,by rw[HT.out];exact hown'⟩
    case measure=>simp[intOf];omega
   ·obtain rfl:k=q:=by omega
    have ho:=hown
    rw[List.take_of_length_le (by rw[List.length_map,HL.out];exact Nat.le_refl _)]at ho
    have HO:=Lh ho
    clear hown ho
    go_wp2_with fail
    refine (sort_own w1 _ _ _ _ HO.out hn).mono ?_
    rintro e w2 ⟨rfl,ho2⟩
    have HO2:=Lh ho2
    obtain ⟨B,d,rfl,hrd⟩:=ho2.form
    go_wp2
    go_ret
    exact ⟨_,rfl,by rw[HF.out];exact HO2.out.wide HB1.out⟩
end Go.Proofs.YtgghaodcfgbjlaaGreat.Reads
namespace Go.Proofs.YtgghaodcfgbjlaaGreat.Writes
open Go.ChangeShapes Go.WideShapes Go.ChangeAt Go.RowKit Mem
open Heap (Write wc ws ws_len vB at_write)
set_option maxHeartbeats 4000000 in
theorem last_o (l:Log) (A B:Option Addr) (n c m d:Nat) (w:World) (r:List Write) (q:Nat) (hl:LogAt w A n c B m d l) (hn:n≤1000000) (hm:m≤1000000) (hr:lastS l=r) (hq:r.length=q):
  Calls Tryz.prog 78 #[.agg #[.slice A n c,.slice B m d]] w (Mem.RetO w 97 2 q (ws r)):=by
 have HR:=Lh hr
 have HQ:=Lh hq
 have HL:=Lh hl
 have LN:=Lh hl.ln
 clear hr hl hq
 have K0:Hid (Blk (w.alloc (.cells #[.slice A n c,.slice B m d] 31)) w.heap.size 31 #[.slice A n c,.slice B m d]):=Lh (Blk.new _ _ _)
 cases h1:rightB l with
 | false=>
  have H1:=Lh h1
  have HF:Hid (r= []):=Lh (by rw[←HR.out];unfold lastS;rw[h1];rfl)
  have HQ0:Hid (q=0):=Lh (by rw[←HQ.out,HF.out];rfl)
  clear h1
  obtain rfl:=HQ0.out
  go_enter Tryz.func78,Tryz.ntmps78
  go_wp2_with fail
  refine (right_c l _ _ _ _ _ _ _ false (HL.out.alloc _) hn hm H1.out).mono ?_
  rintro e w1 ⟨rfl,b1⟩
  go_wp2
  go_ret
  exact ⟨_,rfl,by rw[HF.out];exact Own.nil_ (bl_trans (bl_alloc (Below.refl _ _) _) b1)⟩
 | true =>
  have H1:=Lh h1
  have HF:Hid (lastL l.list=r):=Lh (by rw[←HR.out];unfold lastS;rw[if_pos h1])
  clear h1
  go_enter Tryz.func78,Tryz.ntmps78
  go_wp2_with fail
  refine (right_c l _ _ _ _ _ _ _ true (HL.out.alloc _) hn hm H1.out).mono ?_
  rintro e w1 ⟨rfl,b1⟩
  have p0:=(K0.out.below b1).cell 0 _ rfl
  have HB1:=Lh (bl_trans (bl_alloc (Below.refl w.heap.size w) _) b1)
  clear b1
  go_wp2
  clear p0
  go_loopw [3,14] (fun so i wr=>∃k z:Nat,k≤n∧i=.int .i64 k∧z≤k∧Hid (Own w1 wr 97 2 so z (ws (lastL (l.list.take k))))∧Hid ((lastL (l.list.take k)).length=z)) (fun _ i _=>n - (intOf i).toNat)
  case atStart=>exact ⟨0,0,Nat.zero_le _,rfl,Nat.le_refl _,Lh (Own.nil_ (Below.refl _ _)),Lh rfl⟩
  case round=>
   obtain ⟨k,z,hk,rfl,hzk,HO,HZ⟩:=hrel
   obtain ⟨D,dd,rfl,hzd,hrd⟩:=own_room HO.out
   have HRD:=Lh hrd
   clear hrd
   generalize wr=w2 at *
   by_cases hlt:k<n
   ·obtain ⟨b1,off,⟨cx,vx⟩,rfl,hx,c0,c1⟩:=at_write ((HL.out.rl.below HB1.out).below HO.out.2) k hlt
    have HT:=Lh (last_take l.list k _ hx)
    have HRS:=Lh (last_rise (l.list.take k))
    have KX:Hid (Blk (w2.alloc (.cells #[.int .i64 cx,.int .i64 vx] 97)) w2.heap.size 97 #[.int .i64 cx,.int .i64 vx]):=Lh (Blk.new _ _ _)
    clear hx
    obtain ⟨LL,hLL⟩:∃LL,lastL (l.list.take k)=LL:=⟨_,rfl⟩
    rw[hLL]at HT HRS HO HZ HRD
    clear hLL
    go_wp2_with fail
    refine (search_g LL _ _ _ cx vx _ #[] rfl (HRD.out.alloc _) (by omega) HRS.out).mono ?_
    rintro e w5 ⟨p,f,rfl,hf,g5⟩
    have HFD:=Lh hf
    have hpz:p≤z:=by have:=hf.1;rw[HZ.out]at this;exact this
    have KX5:=Lh (KX.out.below g5.below)
    have HO5:=Lh ((HO.out.alloc _).below g5.below)
    clear hf g5 c0 c1 KX HRD
    have x0:=KX5.out.cell 0 _ rfl
    have x1:=KX5.out.cell 1 _ rfl
    cases f with
    | true=>
     obtain ⟨hpl,hup⟩:=found_yes LL ⟨cx,vx⟩ p HFD.out
     rw[HZ.out]at hpl
     obtain ⟨g,cap,hv⟩:=own_lay HO5.out (by omega)
     injection hv with hv1 _ hv3
     subst hv1 hv3
     have HU:=Lh hup
     have f0:=HO5.out.1.frozenAt (p * 2)
     have f1:=HO5.out.1.frozenAt (p * 2+1)
     have c0:=HO5.out.1.cellAt (p * 2) (by omega)
     have c1:=HO5.out.1.cellAt (p * 2+1) (by omega)
     have HWL:Hid ((ws LL).length=z * 2):=Lh HO5.out.1.1
     rw[List.getElem?_eq_getElem (by rw[HWL.out];omega)]at c0 c1
     generalize (ws LL)[p * 2]'(by rw[HWL.out];omega)=u0 at c0
     generalize (ws LL)[p * 2+1]'(by rw[HWL.out];omega)=u1 at c1
     have HE:Hid (Own w1 ((w5.setCell ⟨g,p * 2,none⟩ (.int .i64 cx)).setCell ⟨g,p * 2+1,none⟩ (.int .i64 vx)) 97 2 (.slice (some ⟨g,0,none⟩) z dd) z (ws (lastL (l.list.take (k+1))))):=Lh (by
      have h9:=own_set (own_set HO5.out (p * 2) (.int .i64 cx)) (p * 2+1) (.int .i64 vx)
      rw[ws_set LL p ⟨cx,vx⟩,←HU.out,←HT.out]at h9
      exact h9)
     have HZ2:Hid ((lastL (l.list.take (k+1))).length=z):=Lh (by rw[HT.out,HU.out,List.length_set];exact HZ.out)
     clear hup
     go_wp2
     go_roundw
     case rel=>exact ⟨k+1,z,by omega,by go_num,by omega,HE,HZ2⟩
     case measure=>simp[intOf];omega
    | false=>
     have HU:=Lh (found_no LL ⟨cx,vx⟩ p HFD.out)
     go_wp2_with fail
     refine (insert_c w1 _ (.slice D z dd) z p LL cx vx w5.heap.size _ (HO5.out.alloc _) hpz (by omega) (Blk.new _ _ _) (fun e=>by have:=HO5.out.lt _ e;omega)).mono ?_
     rintro e w6 ⟨v6,rfl,o6⟩
     have HE:Hid (Own w1 w6 97 2 v6 (z+1) (ws (lastL (l.list.take (k+1))))):=Lh (by rw[HT.out,HU.out];exact o6)
     have HZ2:Hid ((lastL (l.list.take (k+1))).length=z+1):=Lh (by rw[HT.out,HU.out];simp;rw[HZ.out];omega)
     clear o6 x0 x1
     go_wp2
     go_roundw
     case rel=>exact ⟨k+1,z+1,by omega,by go_num,by omega,HE,HZ2⟩
     case measure=>simp[intOf];omega
   ·have HE:Hid (lastL (l.list.take k)=r):=Lh (by rw[List.take_of_length_le (by rw[LN.out];omega)];exact HF.out)
    have HZQ:Hid (z=q):=Lh (by rw[←HZ.out,HE.out];exact HQ.out)
    go_wp2
    go_ret
    obtain rfl:=HZQ.out
    exact ⟨_,rfl,by rw[←HE.out];exact HO.out.wide HB1.out⟩
end Go.Proofs.YtgghaodcfgbjlaaGreat.Writes
namespace Go.Proofs.YtgghaodcfgbjlaaGreat.Model
open Go.ChangeShapes Go.WideShapes Go.ChangeAt Go.RowKit Mem Go.Proofs.YtgghaodcfgbjlaaGreat.Code
structure OutAt (w:World) (o:Out) (A1 A2 A3 A4:Option Addr) (n1 n2 n3 n4:Nat):Prop where
 regs:Rd w 1 A1 n1 (zs o.regs)
 path:Rd w 1 A2 n2 (zs o.path)
 seen:Rd w 1 A3 n3 (zs o.seen)
 writes:Rd w 2 A4 n4 (Heap.ws o.writes)
theorem OutAt.below {w w' :World} {o:Out} {A1 A2 A3 A4:Option Addr} {n1 n2 n3 n4:Nat} (h:OutAt w o A1 A2 A3 A4 n1 n2 n3 n4) (hb:Below w.heap.size w w'):OutAt w' o A1 A2 A3 A4 n1 n2 n3 n4:=
 ⟨h.regs.below hb,h.path.below hb,h.seen.below hb,h.writes.below hb⟩
end Go.Proofs.YtgghaodcfgbjlaaGreat.Model
namespace Go.Proofs.YtgghaodcfgbjlaaGreat.Attempt
open Go.ChangeShapes Go.WideShapes Go.ChangeAt Go.RowKit Mem Go.Proofs.YtgghaodcfgbjlaaGreat.Code
def RetOut (w:World) (o:Model.Out) (n1 n2 n3 n4:Nat) (e:Ending) (w' :World):Prop:=∃A1 c1 A2 c2 A3 c3 A4 c4,e=.returned (.agg #[.int .i64 o.kind,.int .i64 o.why,.slice A1 n1 c1,.slice A2 n2 c2,.slice A3 n3 c3,.slice A4 n4 c4])∧Model.OutAt w' o A1 A2 A3 A4 n1 n2 n3 n4∧Below w.heap.size w w'
theorem fill6_blk {w:World} {g:Nat} {ty:TypeId} {z0 z1 z2 z3 z4 z5 v0 v1 v2 v3 v4 v5:Value} (h:Blk w g ty #[z0,z1,z2,z3,z4,z5]):Blk ((((((w.setCell ⟨g,0,none⟩ v0).setCell ⟨g,1,none⟩ v1).setCell ⟨g,2,none⟩ v2).setCell ⟨g,3,none⟩ v3).setCell ⟨g,4,none⟩ v4).setCell ⟨g,5,none⟩ v5) g ty #[v0,v1,v2,v3,v4,v5]:=by
 have:=(((((h.set_ 0 v0).set_ 1 v1).set_ 2 v2).set_ 3 v3).set_ 4 v4).set_ 5 v5
 simpa using this
theorem fill6_only (w:World) (g:Nat) (v0 v1 v2 v3 v4 v5:Value):Only (fun k=>k=g) w ((((((w.setCell ⟨g,0,none⟩ v0).setCell ⟨g,1,none⟩ v1).setCell ⟨g,2,none⟩ v2).setCell ⟨g,3,none⟩ v3).setCell ⟨g,4,none⟩ v4).setCell ⟨g,5,none⟩ v5):=
  ((((((Only.refl (fun k=>k=g) w).put g 0 _ rfl).put g 1 _ rfl).put g 2 _ rfl).put g 3 _ rfl).put g 4 _ rfl).put g 5 _ rfl
theorem Own.only1 {S:Nat→Prop} {w0 w w' :World} {e k n:Nat} {v:Value} {xs:List Value} (h:Own w0 w e k v n xs) (ho:Only S w w') (hn:∀b,v.ownBlock=some b→¬S b) (h0:∀b,S b→w0.heap.size≤b):Own w0 w' e k v n xs:=
 (Owns.only (l:= [⟨e,k,v,n,xs⟩]) ⟨fun o ho=>by rw[List.mem_singleton]at ho;subst ho;exact h,List.pairwise_singleton _ _⟩ ho (fun o hm b hb=>by rw[List.mem_singleton]at hm;subst hm;exact hn b hb) h0).1 _ (List.mem_singleton.2 rfl)
set_option maxHeartbeats 3000000 in
theorem out_c (t:Try) (x:TL) (w:World) (O:Model.Out) (n1 n2 n3 n4:Nat) (h:TRd w t x) (hs:Small t x) (hO:outT t=O) (e1:O.regs.length=n1) (e2:O.path.length=n2) (e3:O.seen.length=n3) (e4:O.writes.length=n4):
  Calls Tryz.prog 22 #[.agg (tvl t x).toArray] w (RetOut w O n1 n2 n3 n4):=by
 obtain ⟨PQ,hPQ⟩:∃PQ,RetOut w O n1 n2 n3 n4=PQ:=⟨_,rfl⟩
 have HPQ:=Lh hPQ
 rw[hPQ]
 have HB1:Hid (Below w.heap.size w ((w.alloc (.cells (aT t x) 34)).alloc (.cells #[.int .i64 0,.int .i64 0,.slice none 0 0,.slice none 0 0,.slice none 0 0,.slice none 0 0] 58))):=Lh (bl_alloc (bl_alloc (Below.refl _ _) _) _)
 have HK1:Hid (Blk ((w.alloc (.cells (aT t x) 34)).alloc (.cells #[.int .i64 0,.int .i64 0,.slice none 0 0,.slice none 0 0,.slice none 0 0,.slice none 0 0] 58)) w.heap.size 34 (aT t x)):=Lh ((Blk.new w _ _).alloc _)
 have HK2:Hid (Blk ((w.alloc (.cells (aT t x) 34)).alloc (.cells #[.int .i64 0,.int .i64 0,.slice none 0 0,.slice none 0 0,.slice none 0 0,.slice none 0 0] 58)) (w.heap.size+1) 58 #[.int .i64 0,.int .i64 0,.slice none 0 0,.slice none 0 0,.slice none 0 0,.slice none 0 0]):=Lh (by have:=Blk.new (w.alloc (.cells (aT t x) 34)) 58 #[.int .i64 0,.int .i64 0,.slice none 0 0,.slice none 0 0,.slice none 0 0,.slice none 0 0];simpa using this)
 have HSZ:Hid (((w.alloc (.cells (aT t x) 34)).alloc (.cells #[.int .i64 0,.int .i64 0,.slice none 0 0,.slice none 0 0,.slice none 0 0,.slice none 0 0] 58)).heap.size=w.heap.size+2):=Lh (by simp)
 have HT0:=Lh h
 have HT:=Lh (h.below HB1.out)
 have HSM:=Lh hs
 have HO:=Lh hO
 have HEE:Hid (O.regs.length=n1∧O.path.length=n2∧O.seen.length=n3∧O.writes.length=n4):=Lh ⟨e1,e2,e3,e4⟩
 obtain ⟨sn,hsn⟩:∃sn,Reads.cellsS t.reads=sn:=⟨_,rfl⟩
 obtain ⟨q,hq⟩:∃q,sn.length=q:=⟨_,rfl⟩
 have HSN:=Lh hsn
 have HQ:=Lh hq
 have HLS:Hid (t.regs.length≤1000000∧t.path.length≤1000000∧t.reads.length≤1000000∧t.log.list.length≤1000000∧t.log.marks.length≤1000000):=Lh ⟨by rw[hs.regs];decide,Nat.le_trans hs.path (by decide),Nat.le_trans hs.reads (by decide),Nat.le_trans hs.list (by decide),Nat.le_trans hs.marks (by decide)⟩
 clear h hs hO e1 e2 e3 e4 hsn hq hPQ
 show Calls Tryz.prog 22 #[.agg (aT t x)] w PQ
 go_enter Tryz.func22,Tryz.ntmps22
 go_wp2_with fail
 generalize ((w.alloc (.cells (aT t x) 34)).alloc (.cells #[.int .i64 0,.int .i64 0,.slice none 0 0,.slice none 0 0,.slice none 0 0,.slice none 0 0] 58))=W1 at *
 have HK1d:=Lh (HK1.out.below (Below.refl _ _).drew)
 have HK2d:=Lh (HK2.out.below (Below.refl _ _).drew)
 have HTd:=Lh (HT.out.below (Below.refl _ _).drew)
 have HB1d:=Lh HB1.out.drew
 have HSZd:Hid (W1.drew.heap.size=w.heap.size+2):=HSZ
 have f0:(fun (W:World)=>W.cell? ⟨w.heap.size,9,none⟩=some (.int .i64 t.kind)∧W.cell? ⟨w.heap.size,10,none⟩=some (.int .i64 t.why)∧W.cell? ⟨w.heap.size,5,none⟩=some (.slice x.D t.reads.length x.dc)) W1.drew:=⟨HK1d.out.cell 9 _ rfl,HK1d.out.cell 10 _ rfl,HK1d.out.cell 5 _ rfl⟩
 refine wp_region_held_drew (S:=fun (W:World)=>W.cell? ⟨w.heap.size,9,none⟩=some (.int .i64 t.kind)∧W.cell? ⟨w.heap.size,10,none⟩=some (.int .i64 t.why)∧W.cell? ⟨w.heap.size,5,none⟩=some (.slice x.D t.reads.length x.dc)) (by kernel_rfl) f0 (fun hH0=>?_)
 clear f0
 generalize W1.drew=Wa at *
 refine tk 0 (.pointer (some ⟨w.heap.size,9,none⟩)) rfl hH0 ?_
 try go_simp
 refine tk 1 (.int .i64 t.kind) rfl hH0 ?_ (hy:=Or.inl ⟨by rfl,fun W hS=>by obtain ⟨k9,k10,k5⟩:=hS;go_simp⟩)
 try go_simp
 refine tk 2 (.pointer (some ⟨w.heap.size,10,none⟩)) rfl hH0 ?_
 try go_simp
 refine tk 3 (.int .i64 t.why) rfl hH0 ?_ (hy:=Or.inl ⟨by rfl,fun W hS=>by obtain ⟨k9,k10,k5⟩:=hS;go_simp⟩)
 try go_simp
 refine tk 4 (.pointer (some ⟨w.heap.size,5,none⟩)) rfl hH0 ?_
 try go_simp
 refine tk 5 (.slice x.D t.reads.length x.dc) rfl hH0 ?_ (hy:=Or.inl ⟨by rfl,fun W hS=>by obtain ⟨k9,k10,k5⟩:=hS;go_simp⟩)
 try go_simp
 have HSZa:Hid (Wa.heap.size=w.heap.size+2):=HSZd
 have HKa:=Lh HK1d.out
 have HRa:=Lh HK2d.out
 have HBa:=Lh HB1d.out
 refine wpAnyH_ready (rs:= [6,8]) (by kernel_rfl) (by simp) ?_
 refine AllReadyH.cons rfl (fun KK hK=>?_) (AllReadyH.cons rfl (fun KK hK=>?_) AllReadyH.nil)
 ·refine calls_step2 (by rfl) 76 #[.slice x.D t.reads.length x.dc] _ (Reads.cells_o t.reads x.D t.reads.length x.dc Wa sn q (HT0.out.below HBa.out).reads (HT0.out.below HBa.out).dn HLS.out.2.2.1 HSN.out HQ.out) ?_ ?_
  ·focus (go_simp;done)
  rintro e Wc ⟨vc,rfl,ho⟩
  obtain ⟨S,sc,rfl,-,-⟩:=own_room ho
  refine ⟨_,rfl,?_⟩
  have HKc:=Lh (HKa.out.below ho.2)
  have HRc:=Lh (HRa.out.below ho.2)
  have HBc:=Lh (bl_trans HBa.out ho.2)
  have HSc:=Lh (Own.wide ho HBa.out)
  have HOc:=Lh ho
  clear ho
  have f1:(fun (W:World)=>W.cell? ⟨w.heap.size,9,none⟩=some (.int .i64 t.kind)∧W.cell? ⟨w.heap.size,10,none⟩=some (.int .i64 t.why)∧W.cell? ⟨w.heap.size,5,none⟩=some (.slice x.D t.reads.length x.dc)) Wc:=⟨HKc.out.cell 9 _ rfl,HKc.out.cell 10 _ rfl,HKc.out.cell 5 _ rfl⟩
  refine hK.out _ _ f1 (fun hH1=>?_)
  try go_simp
  clear hK KK
  refine tk 7 (.agg #[.int .i64 t.kind,.int .i64 t.why,.slice none 0 0,.slice none 0 0,.slice S q sc,.slice none 0 0]) rfl hH1 ?_
  try go_simp
  refine rdy 8 rfl (fun KK hK=>?_)
  go_simp
  have f2:(fun (W:World)=>W.cell? ⟨w.heap.size,9,none⟩=some (.int .i64 t.kind)∧W.cell? ⟨w.heap.size,10,none⟩=some (.int .i64 t.why)∧W.cell? ⟨w.heap.size,5,none⟩=some (.slice x.D t.reads.length x.dc)) (Wc.alloc (.cells #[.int .i64 0,.int .i64 0,.slice none 0 0,.slice none 0 0,.slice none 0 0,.slice none 0 0] 58)):=⟨(HKc.out.alloc (.cells #[.int .i64 0,.int .i64 0,.slice none 0 0,.slice none 0 0,.slice none 0 0,.slice none 0 0] 58)).cell 9 _ rfl,(HKc.out.alloc (.cells #[.int .i64 0,.int .i64 0,.slice none 0 0,.slice none 0 0,.slice none 0 0,.slice none 0 0] 58)).cell 10 _ rfl,(HKc.out.alloc (.cells #[.int .i64 0,.int .i64 0,.slice none 0 0,.slice none 0 0,.slice none 0 0,.slice none 0 0] 58)).cell 5 _ rfl⟩
  refine hK.out _ _ f2 (fun hH2=>?_)
  try go_simp
  clear hK KK
  have HZ:Hid (Blk (Wc.alloc (.cells #[.int .i64 0,.int .i64 0,.slice none 0 0,.slice none 0 0,.slice none 0 0,.slice none 0 0] 58)) Wc.heap.size 58 #[.int .i64 0,.int .i64 0,.slice none 0 0,.slice none 0 0,.slice none 0 0,.slice none 0 0]):=Lh (Blk.new _ _ _)
  replace HKc:=Lh (HKc.out.alloc (.cells #[.int .i64 0,.int .i64 0,.slice none 0 0,.slice none 0 0,.slice none 0 0,.slice none 0 0] 58))
  replace HRc:=Lh (HRc.out.alloc (.cells #[.int .i64 0,.int .i64 0,.slice none 0 0,.slice none 0 0,.slice none 0 0,.slice none 0 0] 58))
  replace HBc:=Lh (bl_alloc HBc.out (.cells #[.int .i64 0,.int .i64 0,.slice none 0 0,.slice none 0 0,.slice none 0 0,.slice none 0 0] 58))
  have NS1c:Hid ((Value.slice S q sc).ownBlock≠some (w.heap.size+1)):=Lh (fun e=>by have h1:=Own.base HOc.out _ e;have h2:=HSZa.out;omega)
  have NS3:Hid ((Value.slice S q sc).ownBlock≠some Wc.heap.size):=Lh (fun e=>by have:=Own.lt HSc.out _ e;omega)
  replace HSc:=Lh (Own.alloc HSc.out (.cells #[.int .i64 0,.int .i64 0,.slice none 0 0,.slice none 0 0,.slice none 0 0,.slice none 0 0] 58))
  have NWG0:Hid (w.heap.size+2≤Wc.heap.size):=Lh (by have h1:=HOc.out.2.size;have h2:=HSZa.out;omega)
  generalize (Wc.alloc (.cells #[.int .i64 0,.int .i64 0,.slice none 0 0,.slice none 0 0,.slice none 0 0,.slice none 0 0] 58))=Wd at *
  generalize Wc.heap.size=g3 at *
  have z0:=HZ.out.cell 0 _ rfl
  have z1:=HZ.out.cell 1 _ rfl
  have z2:=HZ.out.cell 2 _ rfl
  have z3:=HZ.out.cell 3 _ rfl
  have z4:=HZ.out.cell 4 _ rfl
  have z5:=HZ.out.cell 5 _ rfl
  have zf0:=HZ.out.frozen 0
  have zf1:=HZ.out.frozen 1
  have zf2:=HZ.out.frozen 2
  have zf3:=HZ.out.frozen 3
  have zf4:=HZ.out.frozen 4
  have zf5:=HZ.out.frozen 5
  have hge:=NWG0.out
  have HOq:Hid (Blk ((((((Wd.setCell ⟨g3,0,none⟩ (.int .i64 t.kind)).setCell ⟨g3,1,none⟩ (.int .i64 t.why)).setCell ⟨g3,2,none⟩ (.slice none 0 0)).setCell ⟨g3,3,none⟩ (.slice none 0 0)).setCell ⟨g3,4,none⟩ (.slice S q sc)).setCell ⟨g3,5,none⟩ (.slice none 0 0)) g3 58 #[.int .i64 t.kind,.int .i64 t.why,.slice none 0 0,.slice none 0 0,.slice S q sc,.slice none 0 0]):=Lh (fill6_blk HZ.out)
  have HOnq:=fill6_only Wd g3 (.int .i64 t.kind) (.int .i64 t.why) (.slice none 0 0) (.slice none 0 0) (.slice S q sc) (.slice none 0 0)
  have HKq:=Lh (HOnq.blk HKc.out (by omega))
  have HRq:=Lh (HOnq.blk HRc.out (by omega))
  have HBq:Hid (Below w.heap.size w ((((((Wd.setCell ⟨g3,0,none⟩ (.int .i64 t.kind)).setCell ⟨g3,1,none⟩ (.int .i64 t.why)).setCell ⟨g3,2,none⟩ (.slice none 0 0)).setCell ⟨g3,3,none⟩ (.slice none 0 0)).setCell ⟨g3,4,none⟩ (.slice S q sc)).setCell ⟨g3,5,none⟩ (.slice none 0 0))):=Lh (HBc.out.trans (HOnq.below HBc.out.size (fun k hk e=>by omega)))
  have HSo:=Lh (Own.only1 HSc.out HOnq (fun b hb e=>NS3.out (by rw[hb,e])) (fun b e=>by omega))
  have f3:(fun (W:World)=>W.cell? ⟨w.heap.size,9,none⟩=some (.int .i64 t.kind)∧W.cell? ⟨w.heap.size,10,none⟩=some (.int .i64 t.why)∧W.cell? ⟨w.heap.size,5,none⟩=some (.slice x.D t.reads.length x.dc)) ((((((Wd.setCell ⟨g3,0,none⟩ (.int .i64 t.kind)).setCell ⟨g3,1,none⟩ (.int .i64 t.why)).setCell ⟨g3,2,none⟩ (.slice none 0 0)).setCell ⟨g3,3,none⟩ (.slice none 0 0)).setCell ⟨g3,4,none⟩ (.slice S q sc)).setCell ⟨g3,5,none⟩ (.slice none 0 0)):=⟨HKq.out.cell 9 _ rfl,HKq.out.cell 10 _ rfl,HKq.out.cell 5 _ rfl⟩
  refine rdy 9 rfl (fun KK hK=>?_)
  go_simp
  refine hK.out _ _ f3 (fun _=>?_)
  clear hK KK
  refine wpAnyH_done (by kernel_rfl) ?_ _
  clear z0 zf0 z1 zf1 z2 zf2 z3 zf3 z4 zf4 z5 zf5 f3 HOnq
  generalize ((((((Wd.setCell ⟨g3,0,none⟩ (.int .i64 t.kind)).setCell ⟨g3,1,none⟩ (.int .i64 t.why)).setCell ⟨g3,2,none⟩ (.slice none 0 0)).setCell ⟨g3,3,none⟩ (.slice none 0 0)).setCell ⟨g3,4,none⟩ (.slice S q sc)).setCell ⟨g3,5,none⟩ (.slice none 0 0))=Wq at *
  have NS1:Hid ((Value.slice S q sc).ownBlock≠some (w.heap.size+1)):=NS1c
  have NWG:Hid (w.heap.size≤g3):=Lh (by omega)
  have NKG:Hid (¬w.heap.size=g3):=Lh (by omega)
  have NRG:Hid (¬w.heap.size+1=g3):=Lh (by omega)
  clear hge
  have HKK:=Lh HKq.out
  have c0:=HKq.out.cell 9 _ rfl
  have hb9:=HBq.out
  by_cases hk:t.kind=1
  ·have hkb:(t.kind==1)=true:=by simp[hk]
   have HKY:=Lh hk
   clear hk
   have s3:=HKq.out.cell 3 _ rfl
   go_wp2_with fail
   refine (Writes.clonei_c t.regs x.R t.regs.length x.rc Wq (HT0.out.below HBq.out).regs HLS.out.1).mono ?_
   rintro e w10 ⟨v10,rfl,ho⟩
   obtain ⟨RG,RGc,rfl,-,-⟩:=own_room ho
   have HK10:=Lh (HKq.out.below ho.2)
   have HR10:=Lh (HRq.out.below ho.2)
   have HO10:=Lh (HOq.out.below ho.2)
   have HB10:=Lh (bl_trans HBq.out ho.2)
   have HSo_10:=Lh (Own.below HSo.out ho.2)
   have HRG_10:=Lh (Own.wide ho HBq.out)
   have N3RG:Hid ((Value.slice RG t.regs.length RGc).ownBlock≠some g3):=Lh (fun e=>absurd (HOq.out.lt) (by have:=Own.base ho _ e;omega))
   have N1RG:Hid ((Value.slice RG t.regs.length RGc).ownBlock≠some (w.heap.size+1)):=Lh (fun e=>absurd (HRq.out.lt) (by have:=Own.base ho _ e;omega))
   clear ho s3
   have kk:=HO10.out.cell 2 _ rfl
   have zf:=HO10.out.frozen
   have HK11:=Lh ((Only.set_ (S:=fun k=>k=g3) (w:=w10) g3 2 (.slice RG t.regs.length RGc) rfl).blk HK10.out NKG.out)
   have HR11:=Lh ((Only.set_ (S:=fun k=>k=g3) (w:=w10) g3 2 (.slice RG t.regs.length RGc) rfl).blk HR10.out NRG.out)
   have HO11:=Lh (HO10.out.set_ 2 (.slice RG t.regs.length RGc))
   have HB11:=Lh (bl_set HB10.out (p:=⟨g3,2,none⟩) NWG.out (.slice RG t.regs.length RGc))
   have HSo_11:=Lh (HSo_10.out.set_ne (g:=g3) NWG.out NS3.out 2 (.slice RG t.regs.length RGc))
   have HRG_11:=Lh (HRG_10.out.set_ne (g:=g3) NWG.out N3RG.out 2 (.slice RG t.regs.length RGc))
   have s4:=HK11.out.cell 4 _ rfl
   go_wp2_with fail
   clear kk zf s4
   generalize w10.setCell ⟨g3,2,none⟩ (.slice RG t.regs.length RGc)=w11 at *
   refine (Writes.clonei_c t.path x.P t.path.length x.pc w11 (HT0.out.below HB11.out).path HLS.out.2.1).mono ?_
   rintro e w12 ⟨v12,rfl,ho⟩
   obtain ⟨PG,PGc,rfl,-,-⟩:=own_room ho
   have HK12:=Lh (HK11.out.below ho.2)
   have HR12:=Lh (HR11.out.below ho.2)
   have HO12:=Lh (HO11.out.below ho.2)
   have HB12:=Lh (bl_trans HB11.out ho.2)
   have HSo_12:=Lh (Own.below HSo_11.out ho.2)
   have HRG_12:=Lh (Own.below HRG_11.out ho.2)
   have HPG_12:=Lh (Own.wide ho HB11.out)
   have N3PG:Hid ((Value.slice PG t.path.length PGc).ownBlock≠some g3):=Lh (fun e=>absurd (HO11.out.lt) (by have:=Own.base ho _ e;omega))
   have N1PG:Hid ((Value.slice PG t.path.length PGc).ownBlock≠some (w.heap.size+1)):=Lh (fun e=>absurd (HR11.out.lt) (by have:=Own.base ho _ e;omega))
   clear ho
   have kk:=HO12.out.cell 3 _ rfl
   have zf:=HO12.out.frozen
   have HK13:=Lh ((Only.set_ (S:=fun k=>k=g3) (w:=w12) g3 3 (.slice PG t.path.length PGc) rfl).blk HK12.out NKG.out)
   have HR13:=Lh ((Only.set_ (S:=fun k=>k=g3) (w:=w12) g3 3 (.slice PG t.path.length PGc) rfl).blk HR12.out NRG.out)
   have HO13:=Lh (HO12.out.set_ 3 (.slice PG t.path.length PGc))
   have HB13:=Lh (bl_set HB12.out (p:=⟨g3,3,none⟩) NWG.out (.slice PG t.path.length PGc))
   have HSo_13:=Lh (HSo_12.out.set_ne (g:=g3) NWG.out NS3.out 3 (.slice PG t.path.length PGc))
   have HRG_13:=Lh (HRG_12.out.set_ne (g:=g3) NWG.out N3RG.out 3 (.slice PG t.path.length PGc))
   have HPG_13:=Lh (HPG_12.out.set_ne (g:=g3) NWG.out N3PG.out 3 (.slice PG t.path.length PGc))
   have s6:=HK13.out.cell 6 _ rfl
   have s7:=HK13.out.cell 7 _ rfl
   go_wp2_with fail
   clear kk zf s6 s7
   generalize w12.setCell ⟨g3,3,none⟩ (.slice PG t.path.length PGc)=w13 at *
   obtain ⟨wl,hwl⟩:∃wl,Writes.lastS t.log=wl:=⟨_,rfl⟩
   obtain ⟨nw,hnw⟩:∃nw,wl.length=nw:=⟨_,rfl⟩
   have HWL:=Lh hwl
   have HNW:=Lh hnw
   clear hwl hnw
   refine (Writes.last_o t.log x.L x.M t.log.list.length x.lc t.log.marks.length x.mc w13 wl nw (HT0.out.below HB13.out).log HLS.out.2.2.2.1 HLS.out.2.2.2.2 HWL.out HNW.out).mono ?_
   rintro e w14 ⟨v14,rfl,ho⟩
   obtain ⟨WG,WGc,rfl,-,-⟩:=own_room ho
   have HK14:=Lh (HK13.out.below ho.2)
   have HR14:=Lh (HR13.out.below ho.2)
   have HO14:=Lh (HO13.out.below ho.2)
   have HB14:=Lh (bl_trans HB13.out ho.2)
   have HSo_14:=Lh (Own.below HSo_13.out ho.2)
   have HRG_14:=Lh (Own.below HRG_13.out ho.2)
   have HPG_14:=Lh (Own.below HPG_13.out ho.2)
   have HWG_14:=Lh (Own.wide ho HB13.out)
   have N3WG:Hid ((Value.slice WG nw WGc).ownBlock≠some g3):=Lh (fun e=>absurd (HO13.out.lt) (by have:=Own.base ho _ e;omega))
   have N1WG:Hid ((Value.slice WG nw WGc).ownBlock≠some (w.heap.size+1)):=Lh (fun e=>absurd (HR13.out.lt) (by have:=Own.base ho _ e;omega))
   clear ho
   have kk:=HO14.out.cell 5 _ rfl
   have zf:=HO14.out.frozen
   have HK15:=Lh ((Only.set_ (S:=fun k=>k=g3) (w:=w14) g3 5 (.slice WG nw WGc) rfl).blk HK14.out NKG.out)
   have HR15:=Lh ((Only.set_ (S:=fun k=>k=g3) (w:=w14) g3 5 (.slice WG nw WGc) rfl).blk HR14.out NRG.out)
   have HO15:=Lh (HO14.out.set_ 5 (.slice WG nw WGc))
   have HB15:=Lh (bl_set HB14.out (p:=⟨g3,5,none⟩) NWG.out (.slice WG nw WGc))
   have HSo_15:=Lh (HSo_14.out.set_ne (g:=g3) NWG.out NS3.out 5 (.slice WG nw WGc))
   have HRG_15:=Lh (HRG_14.out.set_ne (g:=g3) NWG.out N3RG.out 5 (.slice WG nw WGc))
   have HPG_15:=Lh (HPG_14.out.set_ne (g:=g3) NWG.out N3PG.out 5 (.slice WG nw WGc))
   have HWG_15:=Lh (HWG_14.out.set_ne (g:=g3) NWG.out N3WG.out 5 (.slice WG nw WGc))
   have b0:=HR15.out.cell 0 _ rfl
   have b1:=HR15.out.cell 1 _ rfl
   have b2:=HR15.out.cell 2 _ rfl
   have b3:=HR15.out.cell 3 _ rfl
   have b4:=HR15.out.cell 4 _ rfl
   have b5:=HR15.out.cell 5 _ rfl
   have bf0:=HR15.out.frozen 0
   have bf1:=HR15.out.frozen 1
   have bf2:=HR15.out.frozen 2
   have bf3:=HR15.out.frozen 3
   have bf4:=HR15.out.frozen 4
   have bf5:=HR15.out.frozen 5
   have d0:=HO15.out.cell 0 _ rfl
   have d1:=HO15.out.cell 1 _ rfl
   have d2:=HO15.out.cell 2 _ rfl
   have d3:=HO15.out.cell 3 _ rfl
   have d4:=HO15.out.cell 4 _ rfl
   have d5:=HO15.out.cell 5 _ rfl
   go_wp2_with fail
   clear kk zf
   have HE:Hid (Blk (((((((w14.setCell ⟨g3,5,none⟩ (.slice WG nw WGc)).setCell ⟨w.heap.size+1,0,none⟩ (.int .i64 t.kind)).setCell ⟨w.heap.size+1,1,none⟩ (.int .i64 t.why)).setCell ⟨w.heap.size+1,2,none⟩ (.slice RG t.regs.length RGc)).setCell ⟨w.heap.size+1,3,none⟩ (.slice PG t.path.length PGc)).setCell ⟨w.heap.size+1,4,none⟩ (.slice S q sc)).setCell ⟨w.heap.size+1,5,none⟩ (.slice WG nw WGc)) (w.heap.size+1) 58 #[.int .i64 t.kind,.int .i64 t.why,.slice RG t.regs.length RGc,.slice PG t.path.length PGc,.slice S q sc,.slice WG nw WGc]):=Lh (fill6_blk HR15.out)
   have HOn:Hid (Only (fun k=>k=w.heap.size+1) (w14.setCell ⟨g3,5,none⟩ (.slice WG nw WGc)) (((((((w14.setCell ⟨g3,5,none⟩ (.slice WG nw WGc)).setCell ⟨w.heap.size+1,0,none⟩ (.int .i64 t.kind)).setCell ⟨w.heap.size+1,1,none⟩ (.int .i64 t.why)).setCell ⟨w.heap.size+1,2,none⟩ (.slice RG t.regs.length RGc)).setCell ⟨w.heap.size+1,3,none⟩ (.slice PG t.path.length PGc)).setCell ⟨w.heap.size+1,4,none⟩ (.slice S q sc)).setCell ⟨w.heap.size+1,5,none⟩ (.slice WG nw WGc))):=Lh (fill6_only (w14.setCell ⟨g3,5,none⟩ (.slice WG nw WGc)) (w.heap.size+1) _ _ _ _ _ _)
   clear b0 bf0 d0 b1 bf1 d1 b2 bf2 d2 b3 bf3 d3 b4 bf4 d4 b5 bf5 d5
   generalize (((((((w14.setCell ⟨g3,5,none⟩ (.slice WG nw WGc)).setCell ⟨w.heap.size+1,0,none⟩ (.int .i64 t.kind)).setCell ⟨w.heap.size+1,1,none⟩ (.int .i64 t.why)).setCell ⟨w.heap.size+1,2,none⟩ (.slice RG t.regs.length RGc)).setCell ⟨w.heap.size+1,3,none⟩ (.slice PG t.path.length PGc)).setCell ⟨w.heap.size+1,4,none⟩ (.slice S q sc)).setCell ⟨w.heap.size+1,5,none⟩ (.slice WG nw WGc))=wE at *
   have r0:=HE.out.cell 0 _ rfl
   have r1:=HE.out.cell 1 _ rfl
   have r2:=HE.out.cell 2 _ rfl
   have r3:=HE.out.cell 3 _ rfl
   have r4:=HE.out.cell 4 _ rfl
   have r5:=HE.out.cell 5 _ rfl
   refine bodyPost_ret (v:=.agg #[.int .i64 t.kind,.int .i64 t.why,.slice RG t.regs.length RGc,.slice PG t.path.length PGc,.slice S q sc,.slice WG nw WGc]) (by simp[results,Tryz.results22,go_sem,r0,r1,r2,r3,r4,r5]) rfl ?_
   have hsz:=HSZd.out
   have hne:∀k,k=w.heap.size+1→w.heap.size≤k:=fun k e=>by omega
   have hbel:Below w.heap.size w wE:=HB15.out.trans (HOn.out.below HB15.out.size (fun k hk e=>by omega))
   have hq:O=⟨t.kind,t.why,t.regs,t.path,sn,wl⟩:=by rw[←HO.out,←HSN.out,←HWL.out];unfold outT;rw[if_pos HKY.out]
   have o0:=Own.only1 HSo_15.out HOn.out (fun b hb e=>NS1.out (by rw[hb,e])) hne
   have o1:=Own.only1 HRG_15.out HOn.out (fun b hb e=>N1RG.out (by rw[hb,e])) hne
   have o2:=Own.only1 HPG_15.out HOn.out (fun b hb e=>N1PG.out (by rw[hb,e])) hne
   have o3:=Own.only1 HWG_15.out HOn.out (fun b hb e=>N1WG.out (by rw[hb,e])) hne
   rw[←HPQ.out]
   obtain ⟨e1,e2,e3,e4⟩:=HEE.out
   rw[hq]at e1 e2 e3 e4 ⊢
   simp only at e1 e2 e3 e4
   subst e1 e2
   have e5:n3=q:=by rw[←e3];exact HQ.out
   have e6:n4=nw:=by rw[←e4];exact HNW.out
   subst e5 e6
   exact ⟨RG,RGc,PG,PGc,S,sc,WG,WGc,rfl,⟨(own_rd_any o1).1,(own_rd_any o2).1,(own_rd_any o0).1,(own_rd_any o3).1⟩,hbel⟩
  ·have hkb:(t.kind==1)=false:=by simpa using hk
   have HKN:=Lh hk
   clear hk
   have b0:=HRq.out.cell 0 _ rfl
   have b1:=HRq.out.cell 1 _ rfl
   have b2:=HRq.out.cell 2 _ rfl
   have b3:=HRq.out.cell 3 _ rfl
   have b4:=HRq.out.cell 4 _ rfl
   have b5:=HRq.out.cell 5 _ rfl
   have bf0:=HRq.out.frozen 0
   have bf1:=HRq.out.frozen 1
   have bf2:=HRq.out.frozen 2
   have bf3:=HRq.out.frozen 3
   have bf4:=HRq.out.frozen 4
   have bf5:=HRq.out.frozen 5
   have d0:=HOq.out.cell 0 _ rfl
   have d1:=HOq.out.cell 1 _ rfl
   have d2:=HOq.out.cell 2 _ rfl
   have d3:=HOq.out.cell 3 _ rfl
   have d4:=HOq.out.cell 4 _ rfl
   have d5:=HOq.out.cell 5 _ rfl
   go_wp2_with fail
   have HE:Hid (Blk ((((((Wq.setCell ⟨w.heap.size+1,0,none⟩ (.int .i64 t.kind)).setCell ⟨w.heap.size+1,1,none⟩ (.int .i64 t.why)).setCell ⟨w.heap.size+1,2,none⟩ (.slice none 0 0)).setCell ⟨w.heap.size+1,3,none⟩ (.slice none 0 0)).setCell ⟨w.heap.size+1,4,none⟩ (.slice S q sc)).setCell ⟨w.heap.size+1,5,none⟩ (.slice none 0 0)) (w.heap.size+1) 58 #[.int .i64 t.kind,.int .i64 t.why,.slice none 0 0,.slice none 0 0,.slice S q sc,.slice none 0 0]):=Lh (fill6_blk HRq.out)
   have HOn:Hid (Only (fun k=>k=w.heap.size+1) Wq ((((((Wq.setCell ⟨w.heap.size+1,0,none⟩ (.int .i64 t.kind)).setCell ⟨w.heap.size+1,1,none⟩ (.int .i64 t.why)).setCell ⟨w.heap.size+1,2,none⟩ (.slice none 0 0)).setCell ⟨w.heap.size+1,3,none⟩ (.slice none 0 0)).setCell ⟨w.heap.size+1,4,none⟩ (.slice S q sc)).setCell ⟨w.heap.size+1,5,none⟩ (.slice none 0 0))):=Lh (fill6_only Wq (w.heap.size+1) _ _ _ _ _ _)
   clear b0 bf0 d0 b1 bf1 d1 b2 bf2 d2 b3 bf3 d3 b4 bf4 d4 b5 bf5 d5
   generalize ((((((Wq.setCell ⟨w.heap.size+1,0,none⟩ (.int .i64 t.kind)).setCell ⟨w.heap.size+1,1,none⟩ (.int .i64 t.why)).setCell ⟨w.heap.size+1,2,none⟩ (.slice none 0 0)).setCell ⟨w.heap.size+1,3,none⟩ (.slice none 0 0)).setCell ⟨w.heap.size+1,4,none⟩ (.slice S q sc)).setCell ⟨w.heap.size+1,5,none⟩ (.slice none 0 0))=wE at *
   have r0:=HE.out.cell 0 _ rfl
   have r1:=HE.out.cell 1 _ rfl
   have r2:=HE.out.cell 2 _ rfl
   have r3:=HE.out.cell 3 _ rfl
   have r4:=HE.out.cell 4 _ rfl
   have r5:=HE.out.cell 5 _ rfl
   refine bodyPost_ret (v:=.agg #[.int .i64 t.kind,.int .i64 t.why,.slice none 0 0,.slice none 0 0,.slice S q sc,.slice none 0 0]) (by simp[results,Tryz.results22,go_sem,r0,r1,r2,r3,r4,r5]) rfl ?_
   have hsz:=HSZd.out
   have hne:∀k,k=w.heap.size+1→w.heap.size≤k:=fun k e=>by omega
   have hbel:Below w.heap.size w wE:=HBq.out.trans (HOn.out.below HBq.out.size (fun k hk e=>by omega))
   have hq:O=⟨t.kind,t.why,[],[],sn,[]⟩:=by rw[←HO.out,←HSN.out];unfold outT;rw[if_neg HKN.out]
   have hso:=Own.only1 HSo.out HOn.out (fun b hb e=>NS1.out (by rw[hb,e])) hne
   rw[←HPQ.out]
   obtain ⟨e1,e2,e3,e4⟩:=HEE.out
   rw[hq]at e1 e2 e3 e4 ⊢
   simp only[List.length_nil]at e1 e2 e4
   subst e1 e2 e4
   have e5:n3=q:=by rw[←e3];exact HQ.out
   subst e5
   exact ⟨none,0,none,0,S,sc,none,0,rfl,⟨Rd.none_,Rd.none_,(own_rd_any hso).1,Rd.none_⟩,hbel⟩
 ·go_simp
  have f1:(fun (W:World)=>W.cell? ⟨w.heap.size,9,none⟩=some (.int .i64 t.kind)∧W.cell? ⟨w.heap.size,10,none⟩=some (.int .i64 t.why)∧W.cell? ⟨w.heap.size,5,none⟩=some (.slice x.D t.reads.length x.dc)) (Wa.alloc (.cells #[.int .i64 0,.int .i64 0,.slice none 0 0,.slice none 0 0,.slice none 0 0,.slice none 0 0] 58)):=⟨(HKa.out.alloc (.cells #[.int .i64 0,.int .i64 0,.slice none 0 0,.slice none 0 0,.slice none 0 0,.slice none 0 0] 58)).cell 9 _ rfl,(HKa.out.alloc (.cells #[.int .i64 0,.int .i64 0,.slice none 0 0,.slice none 0 0,.slice none 0 0,.slice none 0 0] 58)).cell 10 _ rfl,(HKa.out.alloc (.cells #[.int .i64 0,.int .i64 0,.slice none 0 0,.slice none 0 0,.slice none 0 0,.slice none 0 0] 58)).cell 5 _ rfl⟩
  refine hK.out _ _ f1 (fun hH1=>?_)
  try go_simp
  clear hK KK
  have HZb:Hid (Blk (Wa.alloc (.cells #[.int .i64 0,.int .i64 0,.slice none 0 0,.slice none 0 0,.slice none 0 0,.slice none 0 0] 58)) Wa.heap.size 58 #[.int .i64 0,.int .i64 0,.slice none 0 0,.slice none 0 0,.slice none 0 0,.slice none 0 0]):=Lh (Blk.new _ _ _)
  have HKb:=Lh (HKa.out.alloc (.cells #[.int .i64 0,.int .i64 0,.slice none 0 0,.slice none 0 0,.slice none 0 0,.slice none 0 0] 58))
  have HRb:=Lh (HRa.out.alloc (.cells #[.int .i64 0,.int .i64 0,.slice none 0 0,.slice none 0 0,.slice none 0 0,.slice none 0 0] 58))
  have HBb:=Lh (bl_alloc HBa.out (.cells #[.int .i64 0,.int .i64 0,.slice none 0 0,.slice none 0 0,.slice none 0 0,.slice none 0 0] 58))
  have HSZb:Hid ((Wa.alloc (.cells #[.int .i64 0,.int .i64 0,.slice none 0 0,.slice none 0 0,.slice none 0 0,.slice none 0 0] 58)).heap.size=Wa.heap.size+1):=Lh (by simp)
  generalize (Wa.alloc (.cells #[.int .i64 0,.int .i64 0,.slice none 0 0,.slice none 0 0,.slice none 0 0,.slice none 0 0] 58))=Wb at *
  refine rdy 6 rfl (fun KK hK=>?_)
  refine calls_step2 (by rfl) 76 #[.slice x.D t.reads.length x.dc] _ (Reads.cells_o t.reads x.D t.reads.length x.dc Wb sn q (HT0.out.below HBb.out).reads (HT0.out.below HBb.out).dn HLS.out.2.2.1 HSN.out HQ.out) ?_ ?_
  ·focus (go_simp;done)
  rintro e Wc ⟨vc,rfl,ho⟩
  obtain ⟨S,sc,rfl,-,-⟩:=own_room ho
  refine ⟨_,rfl,?_⟩
  have HKc:=Lh (HKb.out.below ho.2)
  have HRc:=Lh (HRb.out.below ho.2)
  have HBc:=Lh (bl_trans HBb.out ho.2)
  have HSc:=Lh (Own.wide ho HBb.out)
  have HZ:=Lh (HZb.out.below ho.2)
  have NS3:Hid ((Value.slice S q sc).ownBlock≠some Wa.heap.size):=Lh (fun e=>by have h1:=Own.base ho _ e;have h2:=HSZb.out;omega)
  have NS1c:Hid ((Value.slice S q sc).ownBlock≠some (w.heap.size+1)):=Lh (fun e=>by have h1:=Own.base ho _ e;have h2:=HSZb.out;have h3:=HSZa.out;omega)
  have NWG0:Hid (w.heap.size+2≤Wa.heap.size):=Lh (by have:=HSZa.out;omega)
  clear ho
  have f2:(fun (W:World)=>W.cell? ⟨w.heap.size,9,none⟩=some (.int .i64 t.kind)∧W.cell? ⟨w.heap.size,10,none⟩=some (.int .i64 t.why)∧W.cell? ⟨w.heap.size,5,none⟩=some (.slice x.D t.reads.length x.dc)) Wc:=⟨HKc.out.cell 9 _ rfl,HKc.out.cell 10 _ rfl,HKc.out.cell 5 _ rfl⟩
  refine hK.out _ _ f2 (fun hH2=>?_)
  try go_simp
  clear hK KK
  refine tk 7 (.agg #[.int .i64 t.kind,.int .i64 t.why,.slice none 0 0,.slice none 0 0,.slice S q sc,.slice none 0 0]) rfl hH2 ?_
  try go_simp
  generalize Wa.heap.size=g3 at *
  have z0:=HZ.out.cell 0 _ rfl
  have z1:=HZ.out.cell 1 _ rfl
  have z2:=HZ.out.cell 2 _ rfl
  have z3:=HZ.out.cell 3 _ rfl
  have z4:=HZ.out.cell 4 _ rfl
  have z5:=HZ.out.cell 5 _ rfl
  have zf0:=HZ.out.frozen 0
  have zf1:=HZ.out.frozen 1
  have zf2:=HZ.out.frozen 2
  have zf3:=HZ.out.frozen 3
  have zf4:=HZ.out.frozen 4
  have zf5:=HZ.out.frozen 5
  have hge:=NWG0.out
  have HOq:Hid (Blk ((((((Wc.setCell ⟨g3,0,none⟩ (.int .i64 t.kind)).setCell ⟨g3,1,none⟩ (.int .i64 t.why)).setCell ⟨g3,2,none⟩ (.slice none 0 0)).setCell ⟨g3,3,none⟩ (.slice none 0 0)).setCell ⟨g3,4,none⟩ (.slice S q sc)).setCell ⟨g3,5,none⟩ (.slice none 0 0)) g3 58 #[.int .i64 t.kind,.int .i64 t.why,.slice none 0 0,.slice none 0 0,.slice S q sc,.slice none 0 0]):=Lh (fill6_blk HZ.out)
  have HOnq:=fill6_only Wc g3 (.int .i64 t.kind) (.int .i64 t.why) (.slice none 0 0) (.slice none 0 0) (.slice S q sc) (.slice none 0 0)
  have HKq:=Lh (HOnq.blk HKc.out (by omega))
  have HRq:=Lh (HOnq.blk HRc.out (by omega))
  have HBq:Hid (Below w.heap.size w ((((((Wc.setCell ⟨g3,0,none⟩ (.int .i64 t.kind)).setCell ⟨g3,1,none⟩ (.int .i64 t.why)).setCell ⟨g3,2,none⟩ (.slice none 0 0)).setCell ⟨g3,3,none⟩ (.slice none 0 0)).setCell ⟨g3,4,none⟩ (.slice S q sc)).setCell ⟨g3,5,none⟩ (.slice none 0 0))):=Lh (HBc.out.trans (HOnq.below HBc.out.size (fun k hk e=>by omega)))
  have HSo:=Lh (Own.only1 HSc.out HOnq (fun b hb e=>NS3.out (by rw[hb,e])) (fun b e=>by omega))
  have f3:(fun (W:World)=>W.cell? ⟨w.heap.size,9,none⟩=some (.int .i64 t.kind)∧W.cell? ⟨w.heap.size,10,none⟩=some (.int .i64 t.why)∧W.cell? ⟨w.heap.size,5,none⟩=some (.slice x.D t.reads.length x.dc)) ((((((Wc.setCell ⟨g3,0,none⟩ (.int .i64 t.kind)).setCell ⟨g3,1,none⟩ (.int .i64 t.why)).setCell ⟨g3,2,none⟩ (.slice none 0 0)).setCell ⟨g3,3,none⟩ (.slice none 0 0)).setCell ⟨g3,4,none⟩ (.slice S q sc)).setCell ⟨g3,5,none⟩ (.slice none 0 0)):=⟨HKq.out.cell 9 _ rfl,HKq.out.cell 10 _ rfl,HKq.out.cell 5 _ rfl⟩
  refine rdy 9 rfl (fun KK hK=>?_)
  go_simp
  refine hK.out _ _ f3 (fun _=>?_)
  clear hK KK
  refine wpAnyH_done (by kernel_rfl) ?_ _
  clear z0 zf0 z1 zf1 z2 zf2 z3 zf3 z4 zf4 z5 zf5 f3 HOnq
  generalize ((((((Wc.setCell ⟨g3,0,none⟩ (.int .i64 t.kind)).setCell ⟨g3,1,none⟩ (.int .i64 t.why)).setCell ⟨g3,2,none⟩ (.slice none 0 0)).setCell ⟨g3,3,none⟩ (.slice none 0 0)).setCell ⟨g3,4,none⟩ (.slice S q sc)).setCell ⟨g3,5,none⟩ (.slice none 0 0))=Wq at *
  have NS1:Hid ((Value.slice S q sc).ownBlock≠some (w.heap.size+1)):=NS1c
  have NWG:Hid (w.heap.size≤g3):=Lh (by omega)
  have NKG:Hid (¬w.heap.size=g3):=Lh (by omega)
  have NRG:Hid (¬w.heap.size+1=g3):=Lh (by omega)
  clear hge
  have HKK:=Lh HKq.out
  have c0:=HKq.out.cell 9 _ rfl
  have hb9:=HBq.out
  by_cases hk:t.kind=1
  ·have hkb:(t.kind==1)=true:=by simp[hk]
   have HKY:=Lh hk
   clear hk
   have s3:=HKq.out.cell 3 _ rfl
   go_wp2_with fail
   refine (Writes.clonei_c t.regs x.R t.regs.length x.rc Wq (HT0.out.below HBq.out).regs HLS.out.1).mono ?_
   rintro e w10 ⟨v10,rfl,ho⟩
   obtain ⟨RG,RGc,rfl,-,-⟩:=own_room ho
   have HK10:=Lh (HKq.out.below ho.2)
   have HR10:=Lh (HRq.out.below ho.2)
   have HO10:=Lh (HOq.out.below ho.2)
   have HB10:=Lh (bl_trans HBq.out ho.2)
   have HSo_10:=Lh (Own.below HSo.out ho.2)
   have HRG_10:=Lh (Own.wide ho HBq.out)
   have N3RG:Hid ((Value.slice RG t.regs.length RGc).ownBlock≠some g3):=Lh (fun e=>absurd (HOq.out.lt) (by have:=Own.base ho _ e;omega))
   have N1RG:Hid ((Value.slice RG t.regs.length RGc).ownBlock≠some (w.heap.size+1)):=Lh (fun e=>absurd (HRq.out.lt) (by have:=Own.base ho _ e;omega))
   clear ho s3
   have kk:=HO10.out.cell 2 _ rfl
   have zf:=HO10.out.frozen
   have HK11:=Lh ((Only.set_ (S:=fun k=>k=g3) (w:=w10) g3 2 (.slice RG t.regs.length RGc) rfl).blk HK10.out NKG.out)
   have HR11:=Lh ((Only.set_ (S:=fun k=>k=g3) (w:=w10) g3 2 (.slice RG t.regs.length RGc) rfl).blk HR10.out NRG.out)
   have HO11:=Lh (HO10.out.set_ 2 (.slice RG t.regs.length RGc))
   have HB11:=Lh (bl_set HB10.out (p:=⟨g3,2,none⟩) NWG.out (.slice RG t.regs.length RGc))
   have HSo_11:=Lh (HSo_10.out.set_ne (g:=g3) NWG.out NS3.out 2 (.slice RG t.regs.length RGc))
   have HRG_11:=Lh (HRG_10.out.set_ne (g:=g3) NWG.out N3RG.out 2 (.slice RG t.regs.length RGc))
   have s4:=HK11.out.cell 4 _ rfl
   go_wp2_with fail
   clear kk zf s4
   generalize w10.setCell ⟨g3,2,none⟩ (.slice RG t.regs.length RGc)=w11 at *
   refine (Writes.clonei_c t.path x.P t.path.length x.pc w11 (HT0.out.below HB11.out).path HLS.out.2.1).mono ?_
   rintro e w12 ⟨v12,rfl,ho⟩
   obtain ⟨PG,PGc,rfl,-,-⟩:=own_room ho
   have HK12:=Lh (HK11.out.below ho.2)
   have HR12:=Lh (HR11.out.below ho.2)
   have HO12:=Lh (HO11.out.below ho.2)
   have HB12:=Lh (bl_trans HB11.out ho.2)
   have HSo_12:=Lh (Own.below HSo_11.out ho.2)
   have HRG_12:=Lh (Own.below HRG_11.out ho.2)
   have HPG_12:=Lh (Own.wide ho HB11.out)
   have N3PG:Hid ((Value.slice PG t.path.length PGc).ownBlock≠some g3):=Lh (fun e=>absurd (HO11.out.lt) (by have:=Own.base ho _ e;omega))
   have N1PG:Hid ((Value.slice PG t.path.length PGc).ownBlock≠some (w.heap.size+1)):=Lh (fun e=>absurd (HR11.out.lt) (by have:=Own.base ho _ e;omega))
   clear ho
   have kk:=HO12.out.cell 3 _ rfl
   have zf:=HO12.out.frozen
   have HK13:=Lh ((Only.set_ (S:=fun k=>k=g3) (w:=w12) g3 3 (.slice PG t.path.length PGc) rfl).blk HK12.out NKG.out)
   have HR13:=Lh ((Only.set_ (S:=fun k=>k=g3) (w:=w12) g3 3 (.slice PG t.path.length PGc) rfl).blk HR12.out NRG.out)
   have HO13:=Lh (HO12.out.set_ 3 (.slice PG t.path.length PGc))
   have HB13:=Lh (bl_set HB12.out (p:=⟨g3,3,none⟩) NWG.out (.slice PG t.path.length PGc))
   have HSo_13:=Lh (HSo_12.out.set_ne (g:=g3) NWG.out NS3.out 3 (.slice PG t.path.length PGc))
   have HRG_13:=Lh (HRG_12.out.set_ne (g:=g3) NWG.out N3RG.out 3 (.slice PG t.path.length PGc))
   have HPG_13:=Lh (HPG_12.out.set_ne (g:=g3) NWG.out N3PG.out 3 (.slice PG t.path.length PGc))
   have s6:=HK13.out.cell 6 _ rfl
   have s7:=HK13.out.cell 7 _ rfl
   go_wp2_with fail
   clear kk zf s6 s7
   generalize w12.setCell ⟨g3,3,none⟩ (.slice PG t.path.length PGc)=w13 at *
   obtain ⟨wl,hwl⟩:∃wl,Writes.lastS t.log=wl:=⟨_,rfl⟩
   obtain ⟨nw,hnw⟩:∃nw,wl.length=nw:=⟨_,rfl⟩
   have HWL:=Lh hwl
   have HNW:=Lh hnw
   clear hwl hnw
   refine (Writes.last_o t.log x.L x.M t.log.list.length x.lc t.log.marks.length x.mc w13 wl nw (HT0.out.below HB13.out).log HLS.out.2.2.2.1 HLS.out.2.2.2.2 HWL.out HNW.out).mono ?_
   rintro e w14 ⟨v14,rfl,ho⟩
   obtain ⟨WG,WGc,rfl,-,-⟩:=own_room ho
   have HK14:=Lh (HK13.out.below ho.2)
   have HR14:=Lh (HR13.out.below ho.2)
   have HO14:=Lh (HO13.out.below ho.2)
   have HB14:=Lh (bl_trans HB13.out ho.2)
   have HSo_14:=Lh (Own.below HSo_13.out ho.2)
   have HRG_14:=Lh (Own.below HRG_13.out ho.2)
   have HPG_14:=Lh (Own.below HPG_13.out ho.2)
   have HWG_14:=Lh (Own.wide ho HB13.out)
   have N3WG:Hid ((Value.slice WG nw WGc).ownBlock≠some g3):=Lh (fun e=>absurd (HO13.out.lt) (by have:=Own.base ho _ e;omega))
   have N1WG:Hid ((Value.slice WG nw WGc).ownBlock≠some (w.heap.size+1)):=Lh (fun e=>absurd (HR13.out.lt) (by have:=Own.base ho _ e;omega))
   clear ho
   have kk:=HO14.out.cell 5 _ rfl
   have zf:=HO14.out.frozen
   have HK15:=Lh ((Only.set_ (S:=fun k=>k=g3) (w:=w14) g3 5 (.slice WG nw WGc) rfl).blk HK14.out NKG.out)
   have HR15:=Lh ((Only.set_ (S:=fun k=>k=g3) (w:=w14) g3 5 (.slice WG nw WGc) rfl).blk HR14.out NRG.out)
   have HO15:=Lh (HO14.out.set_ 5 (.slice WG nw WGc))
   have HB15:=Lh (bl_set HB14.out (p:=⟨g3,5,none⟩) NWG.out (.slice WG nw WGc))
   have HSo_15:=Lh (HSo_14.out.set_ne (g:=g3) NWG.out NS3.out 5 (.slice WG nw WGc))
   have HRG_15:=Lh (HRG_14.out.set_ne (g:=g3) NWG.out N3RG.out 5 (.slice WG nw WGc))
   have HPG_15:=Lh (HPG_14.out.set_ne (g:=g3) NWG.out N3PG.out 5 (.slice WG nw WGc))
   have HWG_15:=Lh (HWG_14.out.set_ne (g:=g3) NWG.out N3WG.out 5 (.slice WG nw WGc))
   have b0:=HR15.out.cell 0 _ rfl
   have b1:=HR15.out.cell 1 _ rfl
   have b2:=HR15.out.cell 2 _ rfl
   have b3:=HR15.out.cell 3 _ rfl
   have b4:=HR15.out.cell 4 _ rfl
   have b5:=HR15.out.cell 5 _ rfl
   have bf0:=HR15.out.frozen 0
   have bf1:=HR15.out.frozen 1
   have bf2:=HR15.out.frozen 2
   have bf3:=HR15.out.frozen 3
   have bf4:=HR15.out.frozen 4
   have bf5:=HR15.out.frozen 5
   have d0:=HO15.out.cell 0 _ rfl
   have d1:=HO15.out.cell 1 _ rfl
   have d2:=HO15.out.cell 2 _ rfl
   have d3:=HO15.out.cell 3 _ rfl
   have d4:=HO15.out.cell 4 _ rfl
   have d5:=HO15.out.cell 5 _ rfl
   go_wp2_with fail
   clear kk zf
   have HE:Hid (Blk (((((((w14.setCell ⟨g3,5,none⟩ (.slice WG nw WGc)).setCell ⟨w.heap.size+1,0,none⟩ (.int .i64 t.kind)).setCell ⟨w.heap.size+1,1,none⟩ (.int .i64 t.why)).setCell ⟨w.heap.size+1,2,none⟩ (.slice RG t.regs.length RGc)).setCell ⟨w.heap.size+1,3,none⟩ (.slice PG t.path.length PGc)).setCell ⟨w.heap.size+1,4,none⟩ (.slice S q sc)).setCell ⟨w.heap.size+1,5,none⟩ (.slice WG nw WGc)) (w.heap.size+1) 58 #[.int .i64 t.kind,.int .i64 t.why,.slice RG t.regs.length RGc,.slice PG t.path.length PGc,.slice S q sc,.slice WG nw WGc]):=Lh (fill6_blk HR15.out)
   have HOn:Hid (Only (fun k=>k=w.heap.size+1) (w14.setCell ⟨g3,5,none⟩ (.slice WG nw WGc)) (((((((w14.setCell ⟨g3,5,none⟩ (.slice WG nw WGc)).setCell ⟨w.heap.size+1,0,none⟩ (.int .i64 t.kind)).setCell ⟨w.heap.size+1,1,none⟩ (.int .i64 t.why)).setCell ⟨w.heap.size+1,2,none⟩ (.slice RG t.regs.length RGc)).setCell ⟨w.heap.size+1,3,none⟩ (.slice PG t.path.length PGc)).setCell ⟨w.heap.size+1,4,none⟩ (.slice S q sc)).setCell ⟨w.heap.size+1,5,none⟩ (.slice WG nw WGc))):=Lh (fill6_only (w14.setCell ⟨g3,5,none⟩ (.slice WG nw WGc)) (w.heap.size+1) _ _ _ _ _ _)
   clear b0 bf0 d0 b1 bf1 d1 b2 bf2 d2 b3 bf3 d3 b4 bf4 d4 b5 bf5 d5
   generalize (((((((w14.setCell ⟨g3,5,none⟩ (.slice WG nw WGc)).setCell ⟨w.heap.size+1,0,none⟩ (.int .i64 t.kind)).setCell ⟨w.heap.size+1,1,none⟩ (.int .i64 t.why)).setCell ⟨w.heap.size+1,2,none⟩ (.slice RG t.regs.length RGc)).setCell ⟨w.heap.size+1,3,none⟩ (.slice PG t.path.length PGc)).setCell ⟨w.heap.size+1,4,none⟩ (.slice S q sc)).setCell ⟨w.heap.size+1,5,none⟩ (.slice WG nw WGc))=wE at *
   have r0:=HE.out.cell 0 _ rfl
   have r1:=HE.out.cell 1 _ rfl
   have r2:=HE.out.cell 2 _ rfl
   have r3:=HE.out.cell 3 _ rfl
   have r4:=HE.out.cell 4 _ rfl
   have r5:=HE.out.cell 5 _ rfl
   refine bodyPost_ret (v:=.agg #[.int .i64 t.kind,.int .i64 t.why,.slice RG t.regs.length RGc,.slice PG t.path.length PGc,.slice S q sc,.slice WG nw WGc]) (by simp[results,Tryz.results22,go_sem,r0,r1,r2,r3,r4,r5]) rfl ?_
   have hsz:=HSZd.out
   have hne:∀k,k=w.heap.size+1→w.heap.size≤k:=fun k e=>by omega
   have hbel:Below w.heap.size w wE:=HB15.out.trans (HOn.out.below HB15.out.size (fun k hk e=>by omega))
   have hq:O=⟨t.kind,t.why,t.regs,t.path,sn,wl⟩:=by rw[←HO.out,←HSN.out,←HWL.out];unfold outT;rw[if_pos HKY.out]
   have o0:=Own.only1 HSo_15.out HOn.out (fun b hb e=>NS1.out (by rw[hb,e])) hne
   have o1:=Own.only1 HRG_15.out HOn.out (fun b hb e=>N1RG.out (by rw[hb,e])) hne
   have o2:=Own.only1 HPG_15.out HOn.out (fun b hb e=>N1PG.out (by rw[hb,e])) hne
   have o3:=Own.only1 HWG_15.out HOn.out (fun b hb e=>N1WG.out (by rw[hb,e])) hne
   rw[←HPQ.out]
   obtain ⟨e1,e2,e3,e4⟩:=HEE.out
   rw[hq]at e1 e2 e3 e4 ⊢
   simp only at e1 e2 e3 e4
   subst e1 e2
   have e5:n3=q:=by rw[←e3];exact HQ.out
   have e6:n4=nw:=by rw[←e4];exact HNW.out
   subst e5 e6
   exact ⟨RG,RGc,PG,PGc,S,sc,WG,WGc,rfl,⟨(own_rd_any o1).1,(own_rd_any o2).1,(own_rd_any o0).1,(own_rd_any o3).1⟩,hbel⟩
  ·have hkb:(t.kind==1)=false:=by simpa using hk
   have HKN:=Lh hk
   clear hk
   have b0:=HRq.out.cell 0 _ rfl
   have b1:=HRq.out.cell 1 _ rfl
   have b2:=HRq.out.cell 2 _ rfl
   have b3:=HRq.out.cell 3 _ rfl
   have b4:=HRq.out.cell 4 _ rfl
   have b5:=HRq.out.cell 5 _ rfl
   have bf0:=HRq.out.frozen 0
   have bf1:=HRq.out.frozen 1
   have bf2:=HRq.out.frozen 2
   have bf3:=HRq.out.frozen 3
   have bf4:=HRq.out.frozen 4
   have bf5:=HRq.out.frozen 5
   have d0:=HOq.out.cell 0 _ rfl
   have d1:=HOq.out.cell 1 _ rfl
   have d2:=HOq.out.cell 2 _ rfl
   have d3:=HOq.out.cell 3 _ rfl
   have d4:=HOq.out.cell 4 _ rfl
   have d5:=HOq.out.cell 5 _ rfl
   go_wp2_with fail
   have HE:Hid (Blk ((((((Wq.setCell ⟨w.heap.size+1,0,none⟩ (.int .i64 t.kind)).setCell ⟨w.heap.size+1,1,none⟩ (.int .i64 t.why)).setCell ⟨w.heap.size+1,2,none⟩ (.slice none 0 0)).setCell ⟨w.heap.size+1,3,none⟩ (.slice none 0 0)).setCell ⟨w.heap.size+1,4,none⟩ (.slice S q sc)).setCell ⟨w.heap.size+1,5,none⟩ (.slice none 0 0)) (w.heap.size+1) 58 #[.int .i64 t.kind,.int .i64 t.why,.slice none 0 0,.slice none 0 0,.slice S q sc,.slice none 0 0]):=Lh (fill6_blk HRq.out)
   have HOn:Hid (Only (fun k=>k=w.heap.size+1) Wq ((((((Wq.setCell ⟨w.heap.size+1,0,none⟩ (.int .i64 t.kind)).setCell ⟨w.heap.size+1,1,none⟩ (.int .i64 t.why)).setCell ⟨w.heap.size+1,2,none⟩ (.slice none 0 0)).setCell ⟨w.heap.size+1,3,none⟩ (.slice none 0 0)).setCell ⟨w.heap.size+1,4,none⟩ (.slice S q sc)).setCell ⟨w.heap.size+1,5,none⟩ (.slice none 0 0))):=Lh (fill6_only Wq (w.heap.size+1) _ _ _ _ _ _)
   clear b0 bf0 d0 b1 bf1 d1 b2 bf2 d2 b3 bf3 d3 b4 bf4 d4 b5 bf5 d5
   generalize ((((((Wq.setCell ⟨w.heap.size+1,0,none⟩ (.int .i64 t.kind)).setCell ⟨w.heap.size+1,1,none⟩ (.int .i64 t.why)).setCell ⟨w.heap.size+1,2,none⟩ (.slice none 0 0)).setCell ⟨w.heap.size+1,3,none⟩ (.slice none 0 0)).setCell ⟨w.heap.size+1,4,none⟩ (.slice S q sc)).setCell ⟨w.heap.size+1,5,none⟩ (.slice none 0 0))=wE at *
   have r0:=HE.out.cell 0 _ rfl
   have r1:=HE.out.cell 1 _ rfl
   have r2:=HE.out.cell 2 _ rfl
   have r3:=HE.out.cell 3 _ rfl
   have r4:=HE.out.cell 4 _ rfl
   have r5:=HE.out.cell 5 _ rfl
   refine bodyPost_ret (v:=.agg #[.int .i64 t.kind,.int .i64 t.why,.slice none 0 0,.slice none 0 0,.slice S q sc,.slice none 0 0]) (by simp[results,Tryz.results22,go_sem,r0,r1,r2,r3,r4,r5]) rfl ?_
   have hsz:=HSZd.out
   have hne:∀k,k=w.heap.size+1→w.heap.size≤k:=fun k e=>by omega
   have hbel:Below w.heap.size w wE:=HBq.out.trans (HOn.out.below HBq.out.size (fun k hk e=>by omega))
   have hq:O=⟨t.kind,t.why,[],[],sn,[]⟩:=by rw[←HO.out,←HSN.out];unfold outT;rw[if_neg HKN.out]
   have hso:=Own.only1 HSo.out HOn.out (fun b hb e=>NS1.out (by rw[hb,e])) hne
   rw[←HPQ.out]
   obtain ⟨e1,e2,e3,e4⟩:=HEE.out
   rw[hq]at e1 e2 e3 e4 ⊢
   simp only[List.length_nil]at e1 e2 e4
   subst e1 e2 e4
   have e5:n3=q:=by rw[←e3];exact HQ.out
   subst e5
   exact ⟨none,0,none,0,S,sc,none,0,rfl,⟨Rd.none_,Rd.none_,(own_rd_any hso).1,Rd.none_⟩,hbel⟩
end Go.Proofs.YtgghaodcfgbjlaaGreat.Attempt
