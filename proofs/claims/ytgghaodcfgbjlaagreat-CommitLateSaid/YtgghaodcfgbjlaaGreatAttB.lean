/-
 WHAT THE LAYER attempt DOES, AS IT IS WRITTEN: Retry. No conditions beyond those that each theorem states.
-/
import Derived.Test.YtgghaodcfgbjlaaGreatAttA
import Derived.Test.YtgghaodcfgbjlaaGreatStripeA
import Derived.Test.YtgghaodcfgbjlaaGreatWritesA
import Derived.Test.YtgghaodcfgbjlaaGreatMemA
set_option maxRecDepth 100000
namespace Go.Proofs.YtgghaodcfgbjlaaGreat.Attempt
open Go.ChangeShapes Go.WideShapes Go.ChangeAt Go.RowKit Mem Go.Proofs.YtgghaodcfgbjlaaGreat.Code
theorem of_one (t:List Stripe.Rec) (n:Nat) (hl:t.length=n) (hr:Stripe.rightB t=true) (c:Int) (hc:0≤c) (j:Nat) (hj:c % (n:Int)=(j:Int)) (hjn:j<n):Stripe.ofS t [c]= [(j:Int)]:=by
 unfold Stripe.ofS
 rw[if_pos (by rw[hr];unfold Stripe.cellsB;simpa using hc),hl]
 have hp:∀k,Stripe.hit n [c] k=decide (j=k):=fun k=>by
  unfold Stripe.hit
  simp only[List.any_cons,List.any_nil,Bool.or_false,hj]
  rw[Bool.eq_iff_iff];simp;omega
 rw[pick_congr _ (fun k=>decide (j=k)) n (fun k _=>hp k)]
 unfold pick
 have :(List.range n).filter (fun k=>decide (j=k))= [j]:=by
  have h2:∀m,(List.range m).filter (fun k=>decide (j=k))=if j<m then [j] else []:=by
   intro m
   induction m with
   | zero=>rfl
   | succ m ih=>
    rw[List.range_succ,List.filter_append,ih]
    by_cases h1:j<m
    ·have :¬j=m:=by omega
     rw[if_pos h1,if_pos (by omega)];simp[this]
    ·by_cases h3:j=m
     ·subst h3;simp
     ·rw[if_neg h1,if_neg (by omega)];simp[h3]
  rw[h2,if_pos hjn]
 rw[this];rfl
def readT (t:Try) (b v:Int) (x:Stripe.Rec):(Int × Bool) × Try:=
 if (Writes.getS t.log b).2=true then (((Writes.getS t.log b).1,true),t)
 else match Reads.findS t.reads b with
  | some y=>((y.value,true),t)
  | none=>if x.owner=0∧x.version≤t.snap then ((v,true),reads1 t ⟨b,x.version,v⟩) else ((0,false),t)
theorem live_read (t:Try) (a b v:Int) (x:Stripe.Rec):liveT t a b v x=if (readT t b v x).1.2=true then goes (regT (readT t b v x).2 a (readT t b v x).1.1) 1 else ended t 5 0:=by
 unfold liveT readT
 split
 ·rfl
 ·cases Reads.findS t.reads b with
  | some y=>rfl
  | none=>
   simp only
   split
   ·rfl
   ·rfl
def RRet (w0 w:World) (g:Nat) (tail:List Value) (t:Try) (x:TL) (R:(Int × Bool) × Try) (e:Ending) (w' :World):Prop:=e=.returned (.tuple #[.int .i64 R.1.1,.bool R.1.2])∧Moves w0 w g 141 tail t x R.2 w'
set_option maxHeartbeats 8000000 in
theorem read_c (w0 w:World) (g:Nat) (HA:Option Addr) (hn hc:Nat) (h:List Heap.Cell) (TA:Option Addr) (tn tc:Nat) (r:List Stripe.Rec) (t:Try) (x:TL) (s:Raw) (b v:Int) (j:Nat) (rx:Stripe.Rec) (R:(Int × Bool) × Try) (p:MPre w0 w g HA hn hc h TA tn tc r t x s) (hrt:Stripe.rightB r=true) (hb0:0≤b) (hj:b % (tn:Int)=(j:Int)) (hx:r[j]?=some rx) (hrr:Reads.rightB t.reads=true)
  (hadd:Reads.findS t.reads b=none→rx.owner=0→rx.version≤t.snap→Reads.addS t.reads ⟨b,rx.version,v⟩=(t.reads++ [⟨b,rx.version,v⟩],0)) (hR:readT t b v rx=R):
  Calls Tryz.prog 163 #[.pointer (some ⟨g,0,none⟩),.int .i64 b,.int .i64 v] w (RRet w0 w g (tl HA hn hc TA tn tc) t x R):=by
 have HP:=Lh p
 have HF:Hid (x.fl.length≤1000000):=Lh (Nat.le_trans p.sm.fl (by decide))
 have hgw:g<w.heap.size:=p.m.blk.lt
 have htl:r.length=tn:=Stripe.rs_len p.tab
 have hjn:j<tn:=by rw[←htl];exact (List.getElem?_eq_some_iff.1 hx).1
 have HLL:Hid (t.log.list.length≤1000000∧t.log.marks.length≤1000000∧t.reads.length≤1000000):=Lh ⟨Nat.le_trans p.sm.list (by decide),Nat.le_trans p.sm.marks (by decide),Nat.le_trans p.sm.reads (by decide)⟩
 obtain ⟨gq,hgq⟩:∃q,Writes.getS t.log b=q:=⟨_,rfl⟩
 have HGQ:=Lh hgq
 have HR:=Lh hR
 have HAD:=Lh hadd
 have HX:=Lh hx
 have HOF:=Lh (of_one r tn htl hrt b hb0 j hj hjn)
 have HRR:=Lh hrr
 have htn6:=p.tn6
 have p6:=p.m.cells.2.2.2.2.2.2.1
 have p7:=p.m.cells.2.2.2.2.2.2.2.1
 clear p hgq hR hadd hx htl hrt hb0 hj hrr
 go_enter Tryz.func163,Tryz.ntmps163
 cases hg2:gq.2 with
 | true=>
  have HE:Hid (R=((gq.1,true),t)):=Lh (by rw[←HR.out];unfold readT;rw[HGQ.out,if_pos hg2])
  go_wp2_with (
   go_at_call 206
   refine (Writes.get_c t.log x.L x.M _ _ _ _ b w gq HP.out.m.log HLL.out.1 HLL.out.2.1 HGQ.out).mono ?_
   rintro e w2 ⟨rfl,b2⟩
   have HB2:=Lh b2
   have p5:=(HP.out.below b2).m.cells.2.2.2.2.2.1
   clear b2 p6 p7)
  go_ret2
  rw[HE.out]
  exact ⟨rfl,x,(HP.out.below HB2.out).m,(Mv.refl w g (x.os t)).bel HB2.out,HF.out⟩
 | false =>
  cases hfd:Reads.findS t.reads b with
  | some y=>
   have HFR:Hid (Reads.findR t.reads b=(y,true)):=Lh (by rw[Reads.findR_yes _ _ HRR.out,hfd];rfl)
   have HE:Hid (R=((y.value,true),t)):=Lh (by rw[←HR.out];unfold readT;rw[HGQ.out,if_neg (by rw[hg2];decide),hfd])
   clear hfd
   go_wp2_with (first
    | (
    go_at_call 206
    refine (Writes.get_c t.log x.L x.M _ _ _ _ b w gq HP.out.m.log HLL.out.1 HLL.out.2.1 HGQ.out).mono ?_
    rintro e w2 ⟨rfl,b2⟩
    have HB2:=Lh b2
    have p5:=(HP.out.below b2).m.cells.2.2.2.2.2.1
    clear b2 p6 p7)
    | (
    go_at_call 207
    refine (Reads.findR_c t.reads x.D _ x.dc b w2 (y,true) (HP.out.below HB2.out).m.rd.reads (HP.out.below HB2.out).m.rd.dn HLL.out.2.2 HFR.out).mono ?_
    rintro e w3 ⟨rfl,b3⟩
    have HB3:=Lh (bl_trans HB2.out b3)
    clear b3 p5))
   go_ret2
   rw[HE.out]
   have hb4:=bl_alloc HB3.out (.cells #[.int .i64 y.cell,.int .i64 y.version,.int .i64 y.value] 107)
   exact ⟨rfl,x,(HP.out.below hb4).m,(Mv.refl w g (x.os t)).bel hb4,HF.out⟩
  | none =>
   have HFR:Hid (Reads.findR t.reads b=(⟨0,0,0⟩,false)):=Lh (by rw[Reads.findR_yes _ _ HRR.out,hfd];rfl)
   have HFD:=Lh hfd
   clear hfd
   go_wp2_with (first
    | (
    go_at_call 206
    refine (Writes.get_c t.log x.L x.M _ _ _ _ b w gq HP.out.m.log HLL.out.1 HLL.out.2.1 HGQ.out).mono ?_
    rintro e w2 ⟨rfl,b2⟩
    have HB2:=Lh b2
    have p5:=(HP.out.below b2).m.cells.2.2.2.2.2.1
    clear b2 p6 p7)
    | (
    go_at_call 207
    refine (Reads.findR_c t.reads x.D _ x.dc b w2 (⟨0,0,0⟩,false) (HP.out.below HB2.out).m.rd.reads (HP.out.below HB2.out).m.rd.dn HLL.out.2.2 HFR.out).mono ?_
    rintro e w3 ⟨rfl,b3⟩
    have HB3:=Lh (bl_trans HB2.out b3)
    clear b3 p5))
   obtain ⟨bT,oT,rx2,hTA,hx2,k0,k1⟩:=Stripe.at_rec HP.out.tb j hjn
   subst hTA
   have hrx:rx2=rx:=by have:=HX.out;rw[hx2]at this;injection this
   rw[hrx]at k0 k1
   have HK:Hid (∀W,Below w.heap.size w W→W.cell? ⟨bT,oT+j * 2,none⟩=some (.int .i64 rx.version)∧W.cell? ⟨bT,oT+j * 2+1,none⟩=some (.int .i64 rx.owner)):=Lh (fun W hW=>⟨cell_kept_up k0 hW,cell_kept_up k1 hW⟩)
   clear hx2 k0 k1 hrx
   have HB:Hid (Below w.heap.size w (w3.alloc (.cells #[.int .i64 0,.int .i64 0,.int .i64 0] 107))):=Lh (bl_alloc HB3.out _)
   generalize w3.alloc (.cells #[.int .i64 0,.int .i64 0,.int .i64 0] 107)=W0 at *
   replace HB:=Lh HB.out.drew
   have hHS:W0.drew.cell? ⟨g,12,none⟩=some (.slice (some ⟨bT,oT,none⟩) tn tc):=(HP.out.below HB.out).tails.2
   have HGWWd:Hid (g<W0.drew.heap.size):=Lh (by have:=HB.out.size;omega)
   have HWWWd:Hid (w.heap.size≤W0.drew.heap.size):=Lh HB.out.size
   refine wp_region_held_drew (S:=fun (W:World)=>W.cell? ⟨g,12,none⟩=some (.slice (some ⟨bT,oT,none⟩) tn tc)) (by kernel_rfl) hHS (fun hHeld=>?_)
   clear hHS
   generalize W0.drew=Wd at *
   refine tk 0 (.pointer (some ⟨g,0,none⟩)) rfl hHeld ?_
   try go_simp
   refine tk 1 (.pointer (some ⟨g,0,none⟩)) rfl hHeld ?_
   try go_simp
   refine tk 2 (.pointer (some ⟨g,12,none⟩)) rfl hHeld ?_
   try go_simp
   refine tk 3 (.slice (some ⟨bT,oT,none⟩) tn tc) rfl hHeld ?_ (hy:=Or.inl ⟨by rfl,fun W hS=>by have k2:=hS;go_simp⟩)
   try go_simp
   refine tk 4 (.pointer (some ⟨g,0,none⟩)) rfl hHeld ?_
   try go_simp
   refine tk 5 (.pointer (some ⟨g,0,none⟩)) rfl hHeld ?_
   try go_simp
   refine tk 6 (.pointer (some ⟨g,12,none⟩)) rfl hHeld ?_
   try go_simp
   refine tk 7 (.slice (some ⟨bT,oT,none⟩) tn tc) rfl hHeld ?_ (hy:=Or.inl ⟨by rfl,fun W hS=>by have k2:=hS;go_simp⟩)
   try go_simp
   refine tk 8 (.int .i64 b) rfl hHeld ?_
   try go_simp
   refine wpAnyH_ready (rs:= [9,15]) (by kernel_rfl) (by simp) ?_
   refine AllReadyH.cons rfl (fun KK hK=>?_) (AllReadyH.cons rfl (fun KK hK=>?_) AllReadyH.nil)
   ·go_simp
    have fN:=(HP.out.below (bl_trans HB.out (bl_alloc (Below.refl Wd.heap.size Wd) (.cells #[.int .i64 b] 3)))).tails.2
    refine hK.out _ _ fN (fun hH1=>?_)
    try go_simp
    clear hK KK
    replace HB:=Lh (bl_trans HB.out (bl_alloc (Below.refl Wd.heap.size Wd) (.cells #[.int .i64 b] 3)))
    have HSL:Hid (Rd (Wd.alloc (.cells #[.int .i64 b] 3)) 1 (some ⟨Wd.heap.size,0,none⟩) 1 (zs [b])):=Lh (Rd.built _ 1 1 (zs [b]) _ rfl)
    have HGWWn2:Hid (g<(Wd.alloc (.cells #[.int .i64 b] 3)).heap.size):=Lh (by have:=HB.out.size;omega)
    have HWWWn2:Hid (w.heap.size≤(Wd.alloc (.cells #[.int .i64 b] 3)).heap.size):=Lh HB.out.size
    clear fN
    generalize (Wd.alloc (.cells #[.int .i64 b] 3))=Wn2 at *
    refine wpAnyH_ready (rs:= [10,15]) (by kernel_rfl) (by simp) ?_
    refine AllReadyH.cons rfl (fun KK hK=>?_) (AllReadyH.cons rfl (fun KK hK=>?_) AllReadyH.nil)
    ·refine calls_step2 (by rfl) 42 #[.slice (some ⟨bT,oT,none⟩) tn tc,.slice (some ⟨Wd.heap.size,0,none⟩) 1 1] _ (Stripe.of_c r [b] _ _ tn tc 1 1 Wn2 [(j:Int)] 1 (HP.out.below HB.out).tb HSL.out htn6 (by decide) HOF.out rfl) ?_ ?_
     ·focus (go_simp;done)
     rintro e Wn4 ⟨B4,d4,rfl,s4,b4⟩
     refine ⟨_,rfl,?_⟩
     obtain ⟨bO,oO,hBO,hcO⟩:=s4.2 (by decide)
     subst hBO
     have fN:=(HP.out.below (bl_trans HB.out b4)).tails.2
     refine hK.out _ _ fN (fun hH3=>?_)
     try go_simp
     clear hK KK
     replace HB:=Lh (bl_trans HB.out b4)
     have HO:=Lh s4
     have HGWWn4:Hid (g<Wn4.heap.size):=Lh (by have:=HB.out.size;omega)
     have HWWWn4:Hid (w.heap.size≤Wn4.heap.size):=Lh HB.out.size
     clear s4 b4 hcO HSL fN
     refine tk 11 (.pointer (some ⟨bO,oO,none⟩)) rfl hH3 ?_
     try go_simp
     refine wpAnyH_ready (rs:= [12,15]) (by kernel_rfl) (by simp) ?_
     refine AllReadyH.cons rfl (fun KK hK=>?_) (AllReadyH.cons rfl (fun KK hK=>?_) AllReadyH.nil)
     ·have jO:Wn4.cell? ⟨bO,oO,none⟩=some (.int .i64 (j:Int)):=by obtain ⟨b5,o5,e5,h5⟩:=HO.out.2 (by decide);injection e5 with e5;injection e5 with e5 e6;subst e5 e6;exact h5 0 _ rfl
      go_simp
      have fN:=(HP.out.below HB.out).tails.2
      refine hK.out _ _ fN (fun hH5=>?_)
      try go_simp
      clear hK KK
      clear jO fN
      refine tk 13 (.pointer (some ⟨bT,oT+j * 2,none⟩)) rfl hH5 ?_
      try go_simp
      refine wpAnyH_ready (rs:= [14,15]) (by kernel_rfl) (by simp) ?_
      refine AllReadyH.cons rfl (fun KK hK=>?_) (AllReadyH.cons rfl (fun KK hK=>?_) AllReadyH.nil)
      ·have c0:Wn4.cell? ⟨bT,oT+j * 2,none⟩=some (.int .i64 rx.version):=(HK.out Wn4 HB.out).1
       have c1:Wn4.cell? ⟨bT,oT+j * 2+1,none⟩=some (.int .i64 rx.owner):=(HK.out Wn4 HB.out).2
       go_simp
       have fN:=(HP.out.below HB.out).tails.2
       refine hK.out _ _ fN (fun hH6=>?_)
       try go_simp
       clear hK KK
       clear c0 c1 fN
       refine rdy 15 rfl (fun KK hK=>?_)
       go_simp
       have fN:=(HP.out.below (bl_trans HB.out (bl_alloc (Below.refl Wn4.heap.size Wn4) (.cells #[.int .i64 0,.int .i64 0] 92)))).tails.2
       refine hK.out _ _ fN (fun hH7=>?_)
       try go_simp
       clear hK KK
       replace HB:=Lh (bl_trans HB.out (bl_alloc (Below.refl Wn4.heap.size Wn4) (.cells #[.int .i64 0,.int .i64 0] 92)))
       replace HO:=Lh (HO.out.below (bl_alloc (Below.refl Wn4.heap.size Wn4) (.cells #[.int .i64 0,.int .i64 0] 92)))
       have HZ:Hid (Blk (Wn4.alloc (.cells #[.int .i64 0,.int .i64 0] 92)) Wn4.heap.size 92 #[.int .i64 0,.int .i64 0]):=Lh (Blk.new _ _ _)
       have HGZ:Hid (g≠Wn4.heap.size):=Lh (by have:=HGWWn4.out;omega)
       have HZW:Hid (w.heap.size≤Wn4.heap.size):=HWWWn4
       have HGWWn8:Hid (g<(Wn4.alloc (.cells #[.int .i64 0,.int .i64 0] 92)).heap.size):=Lh (by have:=HB.out.size;omega)
       have HWWWn8:Hid (w.heap.size≤(Wn4.alloc (.cells #[.int .i64 0,.int .i64 0] 92)).heap.size):=Lh HB.out.size
       clear fN
       generalize (Wn4.alloc (.cells #[.int .i64 0,.int .i64 0] 92))=Wn8 at *
       have z0:=HZ.out.cell 0 _ rfl
       have zf0:=HZ.out.frozen 0
       have y1:=(HZ.out.set_ 0 (.int .i64 rx.version)).cell 1 (.int .i64 0) rfl
       have yf1:=(HZ.out.set_ 0 (.int .i64 rx.version)).frozen 1
       have HR7:Hid (Blk ((Wn8.setCell ⟨Wn4.heap.size,0,none⟩ (.int .i64 rx.version)).setCell ⟨Wn4.heap.size,1,none⟩ (.int .i64 rx.owner)) (Wn4.heap.size) 92 #[.int .i64 rx.version,.int .i64 rx.owner]):=Lh ((HZ.out.set_ 0 (.int .i64 rx.version)).set_ 1 (.int .i64 rx.owner))
       have hzb:w.heap.size≤Wn4.heap.size:=HZW.out
       have BW:Hid (Below w.heap.size w ((Wn8.setCell ⟨Wn4.heap.size,0,none⟩ (.int .i64 rx.version)).setCell ⟨Wn4.heap.size,1,none⟩ (.int .i64 rx.owner))):=Lh (bl_set (bl_set HB.out (p:=⟨Wn4.heap.size,0,none⟩) hzb _) (p:=⟨Wn4.heap.size,1,none⟩) hzb _)
       have fN:=(HP.out.below BW.out).tails.2
       refine rdy 16 rfl (fun KK hK=>?_)
       go_simp
       refine hK.out _ _ fN (fun _=>?_)
       clear hK KK
       refine wpAnyH_done (by kernel_rfl) ?_ _
       clear z0 zf0 y1 yf1 fN HZ HO
       generalize ((Wn8.setCell ⟨Wn4.heap.size,0,none⟩ (.int .i64 rx.version)).setCell ⟨Wn4.heap.size,1,none⟩ (.int .i64 rx.owner))=W7 at *
       have k7a:=HR7.out.cell 0 _ rfl
       have k7b:=HR7.out.cell 1 _ rfl
       have s1:=(HP.out.below BW.out).m.cells.2.1
       by_cases ho:rx.owner=0
       ·by_cases hv:rx.version≤t.snap
        ·have hv2:¬t.snap<rx.version:=by omega
         have HE:Hid (R=((v,true),t.rd_ (t.reads++ [⟨b,rx.version,v⟩]))):=Lh (by rw[←HR.out];unfold readT;rw[HGQ.out,if_neg (by rw[hg2];decide),HFD.out];simp only;rw[if_pos ⟨ho,hv⟩];rfl)
         have HAA:=Lh (HAD.out HFD.out ho hv)
         go_wp2_with fail
         go_quiet (fail)
         have BW8:=Lh (bl_drewN BW.out nq).drew
         have HR8:=Lh ((HR7.out.drewN nq).below (Below.refl _ _).drew)
         clear k7a k7b s1 HR7
         have f10:(fun (W:World)=>W.cell? ⟨Wn4.heap.size,0,none⟩=some (.int .i64 rx.version)) (W7.drewN nq).drew:=HR8.out.cell 0 _ rfl
         have HGZ8:g≠Wn4.heap.size:=HGZ.out
         go_wp2_with fail
         refine wp_region_held_drew (S:=fun (W:World)=>W.cell? ⟨Wn4.heap.size,0,none⟩=some (.int .i64 rx.version)) (by kernel_rfl) f10 (fun hH80=>?_)
         generalize (W7.drewN nq).drew=W8 at *
         have p5:=(HP.out.below BW8.out).m.cells.2.2.2.2.2.1
         refine tk 0 (.pointer (some ⟨g,0,none⟩)) rfl hH80 ?_
         try go_simp
         refine tk 1 (.pointer (some ⟨g,0,none⟩)) rfl hH80 ?_
         try go_simp
         refine tk 2 (.pointer (some ⟨g,0,none⟩)) rfl hH80 ?_
         try go_simp
         refine tk 3 (.pointer (some ⟨g,0,none⟩)) rfl hH80 ?_
         try go_simp
         refine tk 4 (.pointer (some ⟨g,5,none⟩)) rfl hH80 ?_
         try go_simp
         refine tk 6 (.int .i64 b) rfl hH80 ?_
         try go_simp
         refine tk 7 (.pointer (some ⟨Wn4.heap.size,0,none⟩)) rfl hH80 ?_
         try go_simp
         refine tk 8 (.int .i64 rx.version) rfl hH80 ?_ (hy:=Or.inl ⟨by rfl,fun W hS=>by have k2:=hS;go_simp⟩)
         try go_simp
         refine tk 9 (.int .i64 v) rfl hH80 ?_
         try go_simp
         refine tk 10 (.agg #[.int .i64 b,.int .i64 rx.version,.int .i64 v]) rfl hH80 ?_
         try go_simp
         refine rdy 5 rfl (fun KK hK=>?_)
         go_simp
         refine hK.out _ _ f10 (fun hH81=>?_)
         try go_simp
         clear hK KK
         refine rdy 11 rfl (fun KK hK=>?_)
         refine calls_step2 (by rfl) 208 #[.slice x.D t.reads.length x.dc,.agg #[.int .i64 b,.int .i64 rx.version,.int .i64 v]] _ (Reads.add_o t.reads x.D _ x.dc b rx.version v W8 _ (t.reads.length+1) (HP.out.below BW8.out).m.rd.reads (HP.out.below BW8.out).m.rd.dn HLL.out.2.2 HAA.out (by simp)) ?_ ?_
         ·focus (go_simp;done)
         rintro e W9 ⟨B9,d9,rfl,o9⟩
         refine ⟨_,rfl,?_⟩
         have HMv:=Lh ((HP.out.below BW8.out).m.reads_ o9 (by simp))
         have M9:=(HP.out.below BW8.out).m.below o9.2
         have HR9:=Lh (HR8.out.below o9.2)
         have f11:(fun (W:World)=>W.cell? ⟨Wn4.heap.size,0,none⟩=some (.int .i64 rx.version)) W9:=HR9.out.cell 0 _ rfl
         have j5:W9.cell? ⟨g,5,none⟩=some (.slice x.D t.reads.length x.dc):=M9.cells.2.2.2.2.2.1
         have j6:=M9.froz 5
         have f12:(fun (W:World)=>W.cell? ⟨Wn4.heap.size,0,none⟩=some (.int .i64 rx.version)) (W9.setCell ⟨g,5,none⟩ (.slice B9 (t.reads.length+1) d9)):=(HR9.out.beside HGZ8 5 _).cell 0 _ rfl
         clear o9 M9
         refine hK.out _ _ f11 (fun hH82=>?_)
         try go_simp
         clear hK KK
         refine tk 12 (.tuple #[.slice B9 (t.reads.length+1) d9,.int .i64 0]) rfl hH82 ?_
         try go_simp
         refine tk 13 (.slice B9 (t.reads.length+1) d9) rfl hH82 ?_
         try go_simp
         refine tk 14 (.int .i64 0) rfl hH82 ?_
         try go_simp
         refine tk 15 (.pointer (some ⟨g,0,none⟩)) rfl hH82 ?_
         try go_simp
         refine tk 16 (.pointer (some ⟨g,0,none⟩)) rfl hH82 ?_
         try go_simp
         refine tk 17 (.pointer (some ⟨g,5,none⟩)) rfl hH82 ?_
         try go_simp
         refine rdy 18 rfl (fun KK hK=>?_)
         go_simp
         refine hK.out _ _ f12 (fun _=>?_)
         clear hK KK
         refine wpAnyH_done (by kernel_rfl) ?_ _
         clear p5 f10 f11 f12 j5 j6
         go_wp2
         go_ret2
         rw[HE.out]
         exact ⟨rfl,x.dd B9 d9,HMv.out.1,((Mv.refl w g (x.os t)).bel BW8.out).trans HMv.out.2,HF.out⟩
        ·have hv2:t.snap<rx.version:=by omega
         have HE:Hid (R=((0,false),t)):=Lh (by rw[←HR.out];unfold readT;rw[HGQ.out,if_neg (by rw[hg2];decide),HFD.out];simp only;rw[if_neg (fun e=>hv e.2)])
         go_wp2_with fail
         go_quiet (fail)
         go_wp2_with fail
         go_ret2
         rw[HE.out]
         exact ⟨rfl,x,(HP.out.below (bl_drewN BW.out nq)).m,(Mv.refl w g (x.os t)).bel (bl_drewN BW.out nq),HF.out⟩
       ·have hob:(rx.owner==0)=false:=by simpa using ho
        have HE:Hid (R=((0,false),t)):=Lh (by rw[←HR.out];unfold readT;rw[HGQ.out,if_neg (by rw[hg2];decide),HFD.out];simp only;rw[if_neg (fun e=>ho e.1)])
        go_wp2_with fail
        go_quiet (fail)
        go_wp2_with fail
        go_ret2
        rw[HE.out]
        exact ⟨rfl,x,(HP.out.below (bl_drewN BW.out nq)).m,(Mv.refl w g (x.os t)).bel (bl_drewN BW.out nq),HF.out⟩
      ·go_simp
       have fN:=(HP.out.below (bl_trans HB.out (bl_alloc (Below.refl Wn4.heap.size Wn4) (.cells #[.int .i64 0,.int .i64 0] 92)))).tails.2
       refine hK.out _ _ fN (fun hH9=>?_)
       try go_simp
       clear hK KK
       replace HB:=Lh (bl_trans HB.out (bl_alloc (Below.refl Wn4.heap.size Wn4) (.cells #[.int .i64 0,.int .i64 0] 92)))
       replace HO:=Lh (HO.out.below (bl_alloc (Below.refl Wn4.heap.size Wn4) (.cells #[.int .i64 0,.int .i64 0] 92)))
       have HZ:Hid (Blk (Wn4.alloc (.cells #[.int .i64 0,.int .i64 0] 92)) Wn4.heap.size 92 #[.int .i64 0,.int .i64 0]):=Lh (Blk.new _ _ _)
       have HGZ:Hid (g≠Wn4.heap.size):=Lh (by have:=HGWWn4.out;omega)
       have HZW:Hid (w.heap.size≤Wn4.heap.size):=HWWWn4
       have HGWWn10:Hid (g<(Wn4.alloc (.cells #[.int .i64 0,.int .i64 0] 92)).heap.size):=Lh (by have:=HB.out.size;omega)
       have HWWWn10:Hid (w.heap.size≤(Wn4.alloc (.cells #[.int .i64 0,.int .i64 0] 92)).heap.size):=Lh HB.out.size
       clear fN
       generalize (Wn4.alloc (.cells #[.int .i64 0,.int .i64 0] 92))=Wn10 at *
       refine rdy 14 rfl (fun KK hK=>?_)
       have c0:Wn10.cell? ⟨bT,oT+j * 2,none⟩=some (.int .i64 rx.version):=(HK.out Wn10 HB.out).1
       have c1:Wn10.cell? ⟨bT,oT+j * 2+1,none⟩=some (.int .i64 rx.owner):=(HK.out Wn10 HB.out).2
       go_simp
       have fN:=(HP.out.below HB.out).tails.2
       refine hK.out _ _ fN (fun hH11=>?_)
       try go_simp
       clear hK KK
       clear c0 c1 fN
       have z0:=HZ.out.cell 0 _ rfl
       have zf0:=HZ.out.frozen 0
       have y1:=(HZ.out.set_ 0 (.int .i64 rx.version)).cell 1 (.int .i64 0) rfl
       have yf1:=(HZ.out.set_ 0 (.int .i64 rx.version)).frozen 1
       have HR7:Hid (Blk ((Wn10.setCell ⟨Wn4.heap.size,0,none⟩ (.int .i64 rx.version)).setCell ⟨Wn4.heap.size,1,none⟩ (.int .i64 rx.owner)) (Wn4.heap.size) 92 #[.int .i64 rx.version,.int .i64 rx.owner]):=Lh ((HZ.out.set_ 0 (.int .i64 rx.version)).set_ 1 (.int .i64 rx.owner))
       have hzb:w.heap.size≤Wn4.heap.size:=HZW.out
       have BW:Hid (Below w.heap.size w ((Wn10.setCell ⟨Wn4.heap.size,0,none⟩ (.int .i64 rx.version)).setCell ⟨Wn4.heap.size,1,none⟩ (.int .i64 rx.owner))):=Lh (bl_set (bl_set HB.out (p:=⟨Wn4.heap.size,0,none⟩) hzb _) (p:=⟨Wn4.heap.size,1,none⟩) hzb _)
       have fN:=(HP.out.below BW.out).tails.2
       refine rdy 16 rfl (fun KK hK=>?_)
       go_simp
       refine hK.out _ _ fN (fun _=>?_)
       clear hK KK
       refine wpAnyH_done (by kernel_rfl) ?_ _
       clear z0 zf0 y1 yf1 fN HZ HO
       generalize ((Wn10.setCell ⟨Wn4.heap.size,0,none⟩ (.int .i64 rx.version)).setCell ⟨Wn4.heap.size,1,none⟩ (.int .i64 rx.owner))=W7 at *
       have k7a:=HR7.out.cell 0 _ rfl
       have k7b:=HR7.out.cell 1 _ rfl
       have s1:=(HP.out.below BW.out).m.cells.2.1
       by_cases ho:rx.owner=0
       ·by_cases hv:rx.version≤t.snap
        ·have hv2:¬t.snap<rx.version:=by omega
         have HE:Hid (R=((v,true),t.rd_ (t.reads++ [⟨b,rx.version,v⟩]))):=Lh (by rw[←HR.out];unfold readT;rw[HGQ.out,if_neg (by rw[hg2];decide),HFD.out];simp only;rw[if_pos ⟨ho,hv⟩];rfl)
         have HAA:=Lh (HAD.out HFD.out ho hv)
         go_wp2_with fail
         go_quiet (fail)
         have BW8:=Lh (bl_drewN BW.out nq).drew
         have HR8:=Lh ((HR7.out.drewN nq).below (Below.refl _ _).drew)
         clear k7a k7b s1 HR7
         have f10:(fun (W:World)=>W.cell? ⟨Wn4.heap.size,0,none⟩=some (.int .i64 rx.version)) (W7.drewN nq).drew:=HR8.out.cell 0 _ rfl
         have HGZ8:g≠Wn4.heap.size:=HGZ.out
         go_wp2_with fail
         refine wp_region_held_drew (S:=fun (W:World)=>W.cell? ⟨Wn4.heap.size,0,none⟩=some (.int .i64 rx.version)) (by kernel_rfl) f10 (fun hH80=>?_)
         generalize (W7.drewN nq).drew=W8 at *
         have p5:=(HP.out.below BW8.out).m.cells.2.2.2.2.2.1
         refine tk 0 (.pointer (some ⟨g,0,none⟩)) rfl hH80 ?_
         try go_simp
         refine tk 1 (.pointer (some ⟨g,0,none⟩)) rfl hH80 ?_
         try go_simp
         refine tk 2 (.pointer (some ⟨g,0,none⟩)) rfl hH80 ?_
         try go_simp
         refine tk 3 (.pointer (some ⟨g,0,none⟩)) rfl hH80 ?_
         try go_simp
         refine tk 4 (.pointer (some ⟨g,5,none⟩)) rfl hH80 ?_
         try go_simp
         refine tk 6 (.int .i64 b) rfl hH80 ?_
         try go_simp
         refine tk 7 (.pointer (some ⟨Wn4.heap.size,0,none⟩)) rfl hH80 ?_
         try go_simp
         refine tk 8 (.int .i64 rx.version) rfl hH80 ?_ (hy:=Or.inl ⟨by rfl,fun W hS=>by have k2:=hS;go_simp⟩)
         try go_simp
         refine tk 9 (.int .i64 v) rfl hH80 ?_
         try go_simp
         refine tk 10 (.agg #[.int .i64 b,.int .i64 rx.version,.int .i64 v]) rfl hH80 ?_
         try go_simp
         refine rdy 5 rfl (fun KK hK=>?_)
         go_simp
         refine hK.out _ _ f10 (fun hH81=>?_)
         try go_simp
         clear hK KK
         refine rdy 11 rfl (fun KK hK=>?_)
         refine calls_step2 (by rfl) 208 #[.slice x.D t.reads.length x.dc,.agg #[.int .i64 b,.int .i64 rx.version,.int .i64 v]] _ (Reads.add_o t.reads x.D _ x.dc b rx.version v W8 _ (t.reads.length+1) (HP.out.below BW8.out).m.rd.reads (HP.out.below BW8.out).m.rd.dn HLL.out.2.2 HAA.out (by simp)) ?_ ?_
         ·focus (go_simp;done)
         rintro e W9 ⟨B9,d9,rfl,o9⟩
         refine ⟨_,rfl,?_⟩
         have HMv:=Lh ((HP.out.below BW8.out).m.reads_ o9 (by simp))
         have M9:=(HP.out.below BW8.out).m.below o9.2
         have HR9:=Lh (HR8.out.below o9.2)
         have f11:(fun (W:World)=>W.cell? ⟨Wn4.heap.size,0,none⟩=some (.int .i64 rx.version)) W9:=HR9.out.cell 0 _ rfl
         have j5:W9.cell? ⟨g,5,none⟩=some (.slice x.D t.reads.length x.dc):=M9.cells.2.2.2.2.2.1
         have j6:=M9.froz 5
         have f12:(fun (W:World)=>W.cell? ⟨Wn4.heap.size,0,none⟩=some (.int .i64 rx.version)) (W9.setCell ⟨g,5,none⟩ (.slice B9 (t.reads.length+1) d9)):=(HR9.out.beside HGZ8 5 _).cell 0 _ rfl
         clear o9 M9
         refine hK.out _ _ f11 (fun hH82=>?_)
         try go_simp
         clear hK KK
         refine tk 12 (.tuple #[.slice B9 (t.reads.length+1) d9,.int .i64 0]) rfl hH82 ?_
         try go_simp
         refine tk 13 (.slice B9 (t.reads.length+1) d9) rfl hH82 ?_
         try go_simp
         refine tk 14 (.int .i64 0) rfl hH82 ?_
         try go_simp
         refine tk 15 (.pointer (some ⟨g,0,none⟩)) rfl hH82 ?_
         try go_simp
         refine tk 16 (.pointer (some ⟨g,0,none⟩)) rfl hH82 ?_
         try go_simp
         refine tk 17 (.pointer (some ⟨g,5,none⟩)) rfl hH82 ?_
         try go_simp
         refine rdy 18 rfl (fun KK hK=>?_)
         go_simp
         refine hK.out _ _ f12 (fun _=>?_)
         clear hK KK
         refine wpAnyH_done (by kernel_rfl) ?_ _
         clear p5 f10 f11 f12 j5 j6
         go_wp2
         go_ret2
         rw[HE.out]
         exact ⟨rfl,x.dd B9 d9,HMv.out.1,((Mv.refl w g (x.os t)).bel BW8.out).trans HMv.out.2,HF.out⟩
        ·have hv2:t.snap<rx.version:=by omega
         have HE:Hid (R=((0,false),t)):=Lh (by rw[←HR.out];unfold readT;rw[HGQ.out,if_neg (by rw[hg2];decide),HFD.out];simp only;rw[if_neg (fun e=>hv e.2)])
         go_wp2_with fail
         go_quiet (fail)
         go_wp2_with fail
         go_ret2
         rw[HE.out]
         exact ⟨rfl,x,(HP.out.below (bl_drewN BW.out nq)).m,(Mv.refl w g (x.os t)).bel (bl_drewN BW.out nq),HF.out⟩
       ·have hob:(rx.owner==0)=false:=by simpa using ho
        have HE:Hid (R=((0,false),t)):=Lh (by rw[←HR.out];unfold readT;rw[HGQ.out,if_neg (by rw[hg2];decide),HFD.out];simp only;rw[if_neg (fun e=>ho e.1)])
        go_wp2_with fail
        go_quiet (fail)
        go_wp2_with fail
        go_ret2
        rw[HE.out]
        exact ⟨rfl,x,(HP.out.below (bl_drewN BW.out nq)).m,(Mv.refl w g (x.os t)).bel (bl_drewN BW.out nq),HF.out⟩
     ·go_simp
      have fN:=(HP.out.below (bl_trans HB.out (bl_alloc (Below.refl Wn4.heap.size Wn4) (.cells #[.int .i64 0,.int .i64 0] 92)))).tails.2
      refine hK.out _ _ fN (fun hH12=>?_)
      try go_simp
      clear hK KK
      replace HB:=Lh (bl_trans HB.out (bl_alloc (Below.refl Wn4.heap.size Wn4) (.cells #[.int .i64 0,.int .i64 0] 92)))
      replace HO:=Lh (HO.out.below (bl_alloc (Below.refl Wn4.heap.size Wn4) (.cells #[.int .i64 0,.int .i64 0] 92)))
      have HZ:Hid (Blk (Wn4.alloc (.cells #[.int .i64 0,.int .i64 0] 92)) Wn4.heap.size 92 #[.int .i64 0,.int .i64 0]):=Lh (Blk.new _ _ _)
      have HGZ:Hid (g≠Wn4.heap.size):=Lh (by have:=HGWWn4.out;omega)
      have HZW:Hid (w.heap.size≤Wn4.heap.size):=HWWWn4
      have HGWWn13:Hid (g<(Wn4.alloc (.cells #[.int .i64 0,.int .i64 0] 92)).heap.size):=Lh (by have:=HB.out.size;omega)
      have HWWWn13:Hid (w.heap.size≤(Wn4.alloc (.cells #[.int .i64 0,.int .i64 0] 92)).heap.size):=Lh HB.out.size
      clear fN
      generalize (Wn4.alloc (.cells #[.int .i64 0,.int .i64 0] 92))=Wn13 at *
      refine rdy 12 rfl (fun KK hK=>?_)
      have jO:Wn13.cell? ⟨bO,oO,none⟩=some (.int .i64 (j:Int)):=by obtain ⟨b5,o5,e5,h5⟩:=HO.out.2 (by decide);injection e5 with e5;injection e5 with e5 e6;subst e5 e6;exact h5 0 _ rfl
      go_simp
      have fN:=(HP.out.below HB.out).tails.2
      refine hK.out _ _ fN (fun hH14=>?_)
      try go_simp
      clear hK KK
      clear jO fN
      refine tk 13 (.pointer (some ⟨bT,oT+j * 2,none⟩)) rfl hH14 ?_
      try go_simp
      refine rdy 14 rfl (fun KK hK=>?_)
      have c0:Wn13.cell? ⟨bT,oT+j * 2,none⟩=some (.int .i64 rx.version):=(HK.out Wn13 HB.out).1
      have c1:Wn13.cell? ⟨bT,oT+j * 2+1,none⟩=some (.int .i64 rx.owner):=(HK.out Wn13 HB.out).2
      go_simp
      have fN:=(HP.out.below HB.out).tails.2
      refine hK.out _ _ fN (fun hH15=>?_)
      try go_simp
      clear hK KK
      clear c0 c1 fN
      have z0:=HZ.out.cell 0 _ rfl
      have zf0:=HZ.out.frozen 0
      have y1:=(HZ.out.set_ 0 (.int .i64 rx.version)).cell 1 (.int .i64 0) rfl
      have yf1:=(HZ.out.set_ 0 (.int .i64 rx.version)).frozen 1
      have HR7:Hid (Blk ((Wn13.setCell ⟨Wn4.heap.size,0,none⟩ (.int .i64 rx.version)).setCell ⟨Wn4.heap.size,1,none⟩ (.int .i64 rx.owner)) (Wn4.heap.size) 92 #[.int .i64 rx.version,.int .i64 rx.owner]):=Lh ((HZ.out.set_ 0 (.int .i64 rx.version)).set_ 1 (.int .i64 rx.owner))
      have hzb:w.heap.size≤Wn4.heap.size:=HZW.out
      have BW:Hid (Below w.heap.size w ((Wn13.setCell ⟨Wn4.heap.size,0,none⟩ (.int .i64 rx.version)).setCell ⟨Wn4.heap.size,1,none⟩ (.int .i64 rx.owner))):=Lh (bl_set (bl_set HB.out (p:=⟨Wn4.heap.size,0,none⟩) hzb _) (p:=⟨Wn4.heap.size,1,none⟩) hzb _)
      have fN:=(HP.out.below BW.out).tails.2
      refine rdy 16 rfl (fun KK hK=>?_)
      go_simp
      refine hK.out _ _ fN (fun _=>?_)
      clear hK KK
      refine wpAnyH_done (by kernel_rfl) ?_ _
      clear z0 zf0 y1 yf1 fN HZ HO
      generalize ((Wn13.setCell ⟨Wn4.heap.size,0,none⟩ (.int .i64 rx.version)).setCell ⟨Wn4.heap.size,1,none⟩ (.int .i64 rx.owner))=W7 at *
      have k7a:=HR7.out.cell 0 _ rfl
      have k7b:=HR7.out.cell 1 _ rfl
      have s1:=(HP.out.below BW.out).m.cells.2.1
      by_cases ho:rx.owner=0
      ·by_cases hv:rx.version≤t.snap
       ·have hv2:¬t.snap<rx.version:=by omega
        have HE:Hid (R=((v,true),t.rd_ (t.reads++ [⟨b,rx.version,v⟩]))):=Lh (by rw[←HR.out];unfold readT;rw[HGQ.out,if_neg (by rw[hg2];decide),HFD.out];simp only;rw[if_pos ⟨ho,hv⟩];rfl)
        have HAA:=Lh (HAD.out HFD.out ho hv)
        go_wp2_with fail
        go_quiet (fail)
        have BW8:=Lh (bl_drewN BW.out nq).drew
        have HR8:=Lh ((HR7.out.drewN nq).below (Below.refl _ _).drew)
        clear k7a k7b s1 HR7
        have f10:(fun (W:World)=>W.cell? ⟨Wn4.heap.size,0,none⟩=some (.int .i64 rx.version)) (W7.drewN nq).drew:=HR8.out.cell 0 _ rfl
        have HGZ8:g≠Wn4.heap.size:=HGZ.out
        go_wp2_with fail
        refine wp_region_held_drew (S:=fun (W:World)=>W.cell? ⟨Wn4.heap.size,0,none⟩=some (.int .i64 rx.version)) (by kernel_rfl) f10 (fun hH80=>?_)
        generalize (W7.drewN nq).drew=W8 at *
        have p5:=(HP.out.below BW8.out).m.cells.2.2.2.2.2.1
        refine tk 0 (.pointer (some ⟨g,0,none⟩)) rfl hH80 ?_
        try go_simp
        refine tk 1 (.pointer (some ⟨g,0,none⟩)) rfl hH80 ?_
        try go_simp
        refine tk 2 (.pointer (some ⟨g,0,none⟩)) rfl hH80 ?_
        try go_simp
        refine tk 3 (.pointer (some ⟨g,0,none⟩)) rfl hH80 ?_
        try go_simp
        refine tk 4 (.pointer (some ⟨g,5,none⟩)) rfl hH80 ?_
        try go_simp
        refine tk 6 (.int .i64 b) rfl hH80 ?_
        try go_simp
        refine tk 7 (.pointer (some ⟨Wn4.heap.size,0,none⟩)) rfl hH80 ?_
        try go_simp
        refine tk 8 (.int .i64 rx.version) rfl hH80 ?_ (hy:=Or.inl ⟨by rfl,fun W hS=>by have k2:=hS;go_simp⟩)
        try go_simp
        refine tk 9 (.int .i64 v) rfl hH80 ?_
        try go_simp
        refine tk 10 (.agg #[.int .i64 b,.int .i64 rx.version,.int .i64 v]) rfl hH80 ?_
        try go_simp
        refine rdy 5 rfl (fun KK hK=>?_)
        go_simp
        refine hK.out _ _ f10 (fun hH81=>?_)
        try go_simp
        clear hK KK
        refine rdy 11 rfl (fun KK hK=>?_)
        refine calls_step2 (by rfl) 208 #[.slice x.D t.reads.length x.dc,.agg #[.int .i64 b,.int .i64 rx.version,.int .i64 v]] _ (Reads.add_o t.reads x.D _ x.dc b rx.version v W8 _ (t.reads.length+1) (HP.out.below BW8.out).m.rd.reads (HP.out.below BW8.out).m.rd.dn HLL.out.2.2 HAA.out (by simp)) ?_ ?_
        ·focus (go_simp;done)
        rintro e W9 ⟨B9,d9,rfl,o9⟩
        refine ⟨_,rfl,?_⟩
        have HMv:=Lh ((HP.out.below BW8.out).m.reads_ o9 (by simp))
        have M9:=(HP.out.below BW8.out).m.below o9.2
        have HR9:=Lh (HR8.out.below o9.2)
        have f11:(fun (W:World)=>W.cell? ⟨Wn4.heap.size,0,none⟩=some (.int .i64 rx.version)) W9:=HR9.out.cell 0 _ rfl
        have j5:W9.cell? ⟨g,5,none⟩=some (.slice x.D t.reads.length x.dc):=M9.cells.2.2.2.2.2.1
        have j6:=M9.froz 5
        have f12:(fun (W:World)=>W.cell? ⟨Wn4.heap.size,0,none⟩=some (.int .i64 rx.version)) (W9.setCell ⟨g,5,none⟩ (.slice B9 (t.reads.length+1) d9)):=(HR9.out.beside HGZ8 5 _).cell 0 _ rfl
        clear o9 M9
        refine hK.out _ _ f11 (fun hH82=>?_)
        try go_simp
        clear hK KK
        refine tk 12 (.tuple #[.slice B9 (t.reads.length+1) d9,.int .i64 0]) rfl hH82 ?_
        try go_simp
        refine tk 13 (.slice B9 (t.reads.length+1) d9) rfl hH82 ?_
        try go_simp
        refine tk 14 (.int .i64 0) rfl hH82 ?_
        try go_simp
        refine tk 15 (.pointer (some ⟨g,0,none⟩)) rfl hH82 ?_
        try go_simp
        refine tk 16 (.pointer (some ⟨g,0,none⟩)) rfl hH82 ?_
        try go_simp
        refine tk 17 (.pointer (some ⟨g,5,none⟩)) rfl hH82 ?_
        try go_simp
        refine rdy 18 rfl (fun KK hK=>?_)
        go_simp
        refine hK.out _ _ f12 (fun _=>?_)
        clear hK KK
        refine wpAnyH_done (by kernel_rfl) ?_ _
        clear p5 f10 f11 f12 j5 j6
        go_wp2
        go_ret2
        rw[HE.out]
        exact ⟨rfl,x.dd B9 d9,HMv.out.1,((Mv.refl w g (x.os t)).bel BW8.out).trans HMv.out.2,HF.out⟩
       ·have hv2:t.snap<rx.version:=by omega
        have HE:Hid (R=((0,false),t)):=Lh (by rw[←HR.out];unfold readT;rw[HGQ.out,if_neg (by rw[hg2];decide),HFD.out];simp only;rw[if_neg (fun e=>hv e.2)])
        go_wp2_with fail
        go_quiet (fail)
        go_wp2_with fail
        go_ret2
        rw[HE.out]
        exact ⟨rfl,x,(HP.out.below (bl_drewN BW.out nq)).m,(Mv.refl w g (x.os t)).bel (bl_drewN BW.out nq),HF.out⟩
      ·have hob:(rx.owner==0)=false:=by simpa using ho
       have HE:Hid (R=((0,false),t)):=Lh (by rw[←HR.out];unfold readT;rw[HGQ.out,if_neg (by rw[hg2];decide),HFD.out];simp only;rw[if_neg (fun e=>ho e.1)])
       go_wp2_with fail
       go_quiet (fail)
       go_wp2_with fail
       go_ret2
       rw[HE.out]
       exact ⟨rfl,x,(HP.out.below (bl_drewN BW.out nq)).m,(Mv.refl w g (x.os t)).bel (bl_drewN BW.out nq),HF.out⟩
    ·go_simp
     have fN:=(HP.out.below (bl_trans HB.out (bl_alloc (Below.refl Wn2.heap.size Wn2) (.cells #[.int .i64 0,.int .i64 0] 92)))).tails.2
     refine hK.out _ _ fN (fun hH16=>?_)
     try go_simp
     clear hK KK
     replace HB:=Lh (bl_trans HB.out (bl_alloc (Below.refl Wn2.heap.size Wn2) (.cells #[.int .i64 0,.int .i64 0] 92)))
     replace HSL:=Lh (HSL.out.below (bl_alloc (Below.refl Wn2.heap.size Wn2) (.cells #[.int .i64 0,.int .i64 0] 92)))
     have HZ:Hid (Blk (Wn2.alloc (.cells #[.int .i64 0,.int .i64 0] 92)) Wn2.heap.size 92 #[.int .i64 0,.int .i64 0]):=Lh (Blk.new _ _ _)
     have HGZ:Hid (g≠Wn2.heap.size):=Lh (by have:=HGWWn2.out;omega)
     have HZW:Hid (w.heap.size≤Wn2.heap.size):=HWWWn2
     have HGWWn17:Hid (g<(Wn2.alloc (.cells #[.int .i64 0,.int .i64 0] 92)).heap.size):=Lh (by have:=HB.out.size;omega)
     have HWWWn17:Hid (w.heap.size≤(Wn2.alloc (.cells #[.int .i64 0,.int .i64 0] 92)).heap.size):=Lh HB.out.size
     clear fN
     generalize (Wn2.alloc (.cells #[.int .i64 0,.int .i64 0] 92))=Wn17 at *
     refine rdy 10 rfl (fun KK hK=>?_)
     refine calls_step2 (by rfl) 42 #[.slice (some ⟨bT,oT,none⟩) tn tc,.slice (some ⟨Wd.heap.size,0,none⟩) 1 1] _ (Stripe.of_c r [b] _ _ tn tc 1 1 Wn17 [(j:Int)] 1 (HP.out.below HB.out).tb HSL.out htn6 (by decide) HOF.out rfl) ?_ ?_
     ·focus (go_simp;done)
     rintro e Wn19 ⟨B4,d4,rfl,s4,b4⟩
     refine ⟨_,rfl,?_⟩
     obtain ⟨bO,oO,hBO,hcO⟩:=s4.2 (by decide)
     subst hBO
     have fN:=(HP.out.below (bl_trans HB.out b4)).tails.2
     refine hK.out _ _ fN (fun hH18=>?_)
     try go_simp
     clear hK KK
     replace HB:=Lh (bl_trans HB.out b4)
     replace HZ:=Lh (HZ.out.below b4)
     have HO:=Lh s4
     have HGWWn19:Hid (g<Wn19.heap.size):=Lh (by have:=HB.out.size;omega)
     have HWWWn19:Hid (w.heap.size≤Wn19.heap.size):=Lh HB.out.size
     clear s4 b4 hcO HSL fN
     refine tk 11 (.pointer (some ⟨bO,oO,none⟩)) rfl hH18 ?_
     try go_simp
     refine rdy 12 rfl (fun KK hK=>?_)
     have jO:Wn19.cell? ⟨bO,oO,none⟩=some (.int .i64 (j:Int)):=by obtain ⟨b5,o5,e5,h5⟩:=HO.out.2 (by decide);injection e5 with e5;injection e5 with e5 e6;subst e5 e6;exact h5 0 _ rfl
     go_simp
     have fN:=(HP.out.below HB.out).tails.2
     refine hK.out _ _ fN (fun hH20=>?_)
     try go_simp
     clear hK KK
     clear jO fN
     refine tk 13 (.pointer (some ⟨bT,oT+j * 2,none⟩)) rfl hH20 ?_
     try go_simp
     refine rdy 14 rfl (fun KK hK=>?_)
     have c0:Wn19.cell? ⟨bT,oT+j * 2,none⟩=some (.int .i64 rx.version):=(HK.out Wn19 HB.out).1
     have c1:Wn19.cell? ⟨bT,oT+j * 2+1,none⟩=some (.int .i64 rx.owner):=(HK.out Wn19 HB.out).2
     go_simp
     have fN:=(HP.out.below HB.out).tails.2
     refine hK.out _ _ fN (fun hH21=>?_)
     try go_simp
     clear hK KK
     clear c0 c1 fN
     have z0:=HZ.out.cell 0 _ rfl
     have zf0:=HZ.out.frozen 0
     have y1:=(HZ.out.set_ 0 (.int .i64 rx.version)).cell 1 (.int .i64 0) rfl
     have yf1:=(HZ.out.set_ 0 (.int .i64 rx.version)).frozen 1
     have HR7:Hid (Blk ((Wn19.setCell ⟨Wn2.heap.size,0,none⟩ (.int .i64 rx.version)).setCell ⟨Wn2.heap.size,1,none⟩ (.int .i64 rx.owner)) (Wn2.heap.size) 92 #[.int .i64 rx.version,.int .i64 rx.owner]):=Lh ((HZ.out.set_ 0 (.int .i64 rx.version)).set_ 1 (.int .i64 rx.owner))
     have hzb:w.heap.size≤Wn2.heap.size:=HZW.out
     have BW:Hid (Below w.heap.size w ((Wn19.setCell ⟨Wn2.heap.size,0,none⟩ (.int .i64 rx.version)).setCell ⟨Wn2.heap.size,1,none⟩ (.int .i64 rx.owner))):=Lh (bl_set (bl_set HB.out (p:=⟨Wn2.heap.size,0,none⟩) hzb _) (p:=⟨Wn2.heap.size,1,none⟩) hzb _)
     have fN:=(HP.out.below BW.out).tails.2
     refine rdy 16 rfl (fun KK hK=>?_)
     go_simp
     refine hK.out _ _ fN (fun _=>?_)
     clear hK KK
     refine wpAnyH_done (by kernel_rfl) ?_ _
     clear z0 zf0 y1 yf1 fN HZ HO
     generalize ((Wn19.setCell ⟨Wn2.heap.size,0,none⟩ (.int .i64 rx.version)).setCell ⟨Wn2.heap.size,1,none⟩ (.int .i64 rx.owner))=W7 at *
     have k7a:=HR7.out.cell 0 _ rfl
     have k7b:=HR7.out.cell 1 _ rfl
     have s1:=(HP.out.below BW.out).m.cells.2.1
     by_cases ho:rx.owner=0
     ·by_cases hv:rx.version≤t.snap
      ·have hv2:¬t.snap<rx.version:=by omega
       have HE:Hid (R=((v,true),t.rd_ (t.reads++ [⟨b,rx.version,v⟩]))):=Lh (by rw[←HR.out];unfold readT;rw[HGQ.out,if_neg (by rw[hg2];decide),HFD.out];simp only;rw[if_pos ⟨ho,hv⟩];rfl)
       have HAA:=Lh (HAD.out HFD.out ho hv)
       go_wp2_with fail
       go_quiet (fail)
       have BW8:=Lh (bl_drewN BW.out nq).drew
       have HR8:=Lh ((HR7.out.drewN nq).below (Below.refl _ _).drew)
       clear k7a k7b s1 HR7
       have f10:(fun (W:World)=>W.cell? ⟨Wn2.heap.size,0,none⟩=some (.int .i64 rx.version)) (W7.drewN nq).drew:=HR8.out.cell 0 _ rfl
       have HGZ8:g≠Wn2.heap.size:=HGZ.out
       go_wp2_with fail
       refine wp_region_held_drew (S:=fun (W:World)=>W.cell? ⟨Wn2.heap.size,0,none⟩=some (.int .i64 rx.version)) (by kernel_rfl) f10 (fun hH80=>?_)
       generalize (W7.drewN nq).drew=W8 at *
       have p5:=(HP.out.below BW8.out).m.cells.2.2.2.2.2.1
       refine tk 0 (.pointer (some ⟨g,0,none⟩)) rfl hH80 ?_
       try go_simp
       refine tk 1 (.pointer (some ⟨g,0,none⟩)) rfl hH80 ?_
       try go_simp
       refine tk 2 (.pointer (some ⟨g,0,none⟩)) rfl hH80 ?_
       try go_simp
       refine tk 3 (.pointer (some ⟨g,0,none⟩)) rfl hH80 ?_
       try go_simp
       refine tk 4 (.pointer (some ⟨g,5,none⟩)) rfl hH80 ?_
       try go_simp
       refine tk 6 (.int .i64 b) rfl hH80 ?_
       try go_simp
       refine tk 7 (.pointer (some ⟨Wn2.heap.size,0,none⟩)) rfl hH80 ?_
       try go_simp
       refine tk 8 (.int .i64 rx.version) rfl hH80 ?_ (hy:=Or.inl ⟨by rfl,fun W hS=>by have k2:=hS;go_simp⟩)
       try go_simp
       refine tk 9 (.int .i64 v) rfl hH80 ?_
       try go_simp
       refine tk 10 (.agg #[.int .i64 b,.int .i64 rx.version,.int .i64 v]) rfl hH80 ?_
       try go_simp
       refine rdy 5 rfl (fun KK hK=>?_)
       go_simp
       refine hK.out _ _ f10 (fun hH81=>?_)
       try go_simp
       clear hK KK
       refine rdy 11 rfl (fun KK hK=>?_)
       refine calls_step2 (by rfl) 208 #[.slice x.D t.reads.length x.dc,.agg #[.int .i64 b,.int .i64 rx.version,.int .i64 v]] _ (Reads.add_o t.reads x.D _ x.dc b rx.version v W8 _ (t.reads.length+1) (HP.out.below BW8.out).m.rd.reads (HP.out.below BW8.out).m.rd.dn HLL.out.2.2 HAA.out (by simp)) ?_ ?_
       ·focus (go_simp;done)
       rintro e W9 ⟨B9,d9,rfl,o9⟩
       refine ⟨_,rfl,?_⟩
       have HMv:=Lh ((HP.out.below BW8.out).m.reads_ o9 (by simp))
       have M9:=(HP.out.below BW8.out).m.below o9.2
       have HR9:=Lh (HR8.out.below o9.2)
       have f11:(fun (W:World)=>W.cell? ⟨Wn2.heap.size,0,none⟩=some (.int .i64 rx.version)) W9:=HR9.out.cell 0 _ rfl
       have j5:W9.cell? ⟨g,5,none⟩=some (.slice x.D t.reads.length x.dc):=M9.cells.2.2.2.2.2.1
       have j6:=M9.froz 5
       have f12:(fun (W:World)=>W.cell? ⟨Wn2.heap.size,0,none⟩=some (.int .i64 rx.version)) (W9.setCell ⟨g,5,none⟩ (.slice B9 (t.reads.length+1) d9)):=(HR9.out.beside HGZ8 5 _).cell 0 _ rfl
       clear o9 M9
       refine hK.out _ _ f11 (fun hH82=>?_)
       try go_simp
       clear hK KK
       refine tk 12 (.tuple #[.slice B9 (t.reads.length+1) d9,.int .i64 0]) rfl hH82 ?_
       try go_simp
       refine tk 13 (.slice B9 (t.reads.length+1) d9) rfl hH82 ?_
       try go_simp
       refine tk 14 (.int .i64 0) rfl hH82 ?_
       try go_simp
       refine tk 15 (.pointer (some ⟨g,0,none⟩)) rfl hH82 ?_
       try go_simp
       refine tk 16 (.pointer (some ⟨g,0,none⟩)) rfl hH82 ?_
       try go_simp
       refine tk 17 (.pointer (some ⟨g,5,none⟩)) rfl hH82 ?_
       try go_simp
       refine rdy 18 rfl (fun KK hK=>?_)
       go_simp
       refine hK.out _ _ f12 (fun _=>?_)
       clear hK KK
       refine wpAnyH_done (by kernel_rfl) ?_ _
       clear p5 f10 f11 f12 j5 j6
       go_wp2
       go_ret2
       rw[HE.out]
       exact ⟨rfl,x.dd B9 d9,HMv.out.1,((Mv.refl w g (x.os t)).bel BW8.out).trans HMv.out.2,HF.out⟩
      ·have hv2:t.snap<rx.version:=by omega
       have HE:Hid (R=((0,false),t)):=Lh (by rw[←HR.out];unfold readT;rw[HGQ.out,if_neg (by rw[hg2];decide),HFD.out];simp only;rw[if_neg (fun e=>hv e.2)])
       go_wp2_with fail
       go_quiet (fail)
       go_wp2_with fail
       go_ret2
       rw[HE.out]
       exact ⟨rfl,x,(HP.out.below (bl_drewN BW.out nq)).m,(Mv.refl w g (x.os t)).bel (bl_drewN BW.out nq),HF.out⟩
     ·have hob:(rx.owner==0)=false:=by simpa using ho
      have HE:Hid (R=((0,false),t)):=Lh (by rw[←HR.out];unfold readT;rw[HGQ.out,if_neg (by rw[hg2];decide),HFD.out];simp only;rw[if_neg (fun e=>ho e.1)])
      go_wp2_with fail
      go_quiet (fail)
      go_wp2_with fail
      go_ret2
      rw[HE.out]
      exact ⟨rfl,x,(HP.out.below (bl_drewN BW.out nq)).m,(Mv.refl w g (x.os t)).bel (bl_drewN BW.out nq),HF.out⟩
   ·go_simp
    have fN:=(HP.out.below (bl_trans HB.out (bl_alloc (Below.refl Wd.heap.size Wd) (.cells #[.int .i64 0,.int .i64 0] 92)))).tails.2
    refine hK.out _ _ fN (fun hH22=>?_)
    try go_simp
    clear hK KK
    replace HB:=Lh (bl_trans HB.out (bl_alloc (Below.refl Wd.heap.size Wd) (.cells #[.int .i64 0,.int .i64 0] 92)))
    have HZ:Hid (Blk (Wd.alloc (.cells #[.int .i64 0,.int .i64 0] 92)) Wd.heap.size 92 #[.int .i64 0,.int .i64 0]):=Lh (Blk.new _ _ _)
    have HGZ:Hid (g≠Wd.heap.size):=Lh (by have:=HGWWd.out;omega)
    have HZW:Hid (w.heap.size≤Wd.heap.size):=HWWWd
    have HGWWn23:Hid (g<(Wd.alloc (.cells #[.int .i64 0,.int .i64 0] 92)).heap.size):=Lh (by have:=HB.out.size;omega)
    have HWWWn23:Hid (w.heap.size≤(Wd.alloc (.cells #[.int .i64 0,.int .i64 0] 92)).heap.size):=Lh HB.out.size
    clear fN
    generalize (Wd.alloc (.cells #[.int .i64 0,.int .i64 0] 92))=Wn23 at *
    refine rdy 9 rfl (fun KK hK=>?_)
    go_simp
    have fN:=(HP.out.below (bl_trans HB.out (bl_alloc (Below.refl Wn23.heap.size Wn23) (.cells #[.int .i64 b] 3)))).tails.2
    refine hK.out _ _ fN (fun hH24=>?_)
    try go_simp
    clear hK KK
    replace HB:=Lh (bl_trans HB.out (bl_alloc (Below.refl Wn23.heap.size Wn23) (.cells #[.int .i64 b] 3)))
    replace HZ:=Lh (HZ.out.below (bl_alloc (Below.refl Wn23.heap.size Wn23) (.cells #[.int .i64 b] 3)))
    have HSL:Hid (Rd (Wn23.alloc (.cells #[.int .i64 b] 3)) 1 (some ⟨Wn23.heap.size,0,none⟩) 1 (zs [b])):=Lh (Rd.built _ 1 1 (zs [b]) _ rfl)
    have HGWWn25:Hid (g<(Wn23.alloc (.cells #[.int .i64 b] 3)).heap.size):=Lh (by have:=HB.out.size;omega)
    have HWWWn25:Hid (w.heap.size≤(Wn23.alloc (.cells #[.int .i64 b] 3)).heap.size):=Lh HB.out.size
    clear fN
    generalize (Wn23.alloc (.cells #[.int .i64 b] 3))=Wn25 at *
    refine rdy 10 rfl (fun KK hK=>?_)
    refine calls_step2 (by rfl) 42 #[.slice (some ⟨bT,oT,none⟩) tn tc,.slice (some ⟨Wn23.heap.size,0,none⟩) 1 1] _ (Stripe.of_c r [b] _ _ tn tc 1 1 Wn25 [(j:Int)] 1 (HP.out.below HB.out).tb HSL.out htn6 (by decide) HOF.out rfl) ?_ ?_
    ·focus (go_simp;done)
    rintro e Wn27 ⟨B4,d4,rfl,s4,b4⟩
    refine ⟨_,rfl,?_⟩
    obtain ⟨bO,oO,hBO,hcO⟩:=s4.2 (by decide)
    subst hBO
    have fN:=(HP.out.below (bl_trans HB.out b4)).tails.2
    refine hK.out _ _ fN (fun hH26=>?_)
    try go_simp
    clear hK KK
    replace HB:=Lh (bl_trans HB.out b4)
    replace HZ:=Lh (HZ.out.below b4)
    have HO:=Lh s4
    have HGWWn27:Hid (g<Wn27.heap.size):=Lh (by have:=HB.out.size;omega)
    have HWWWn27:Hid (w.heap.size≤Wn27.heap.size):=Lh HB.out.size
    clear s4 b4 hcO HSL fN
    refine tk 11 (.pointer (some ⟨bO,oO,none⟩)) rfl hH26 ?_
    try go_simp
    refine rdy 12 rfl (fun KK hK=>?_)
    have jO:Wn27.cell? ⟨bO,oO,none⟩=some (.int .i64 (j:Int)):=by obtain ⟨b5,o5,e5,h5⟩:=HO.out.2 (by decide);injection e5 with e5;injection e5 with e5 e6;subst e5 e6;exact h5 0 _ rfl
    go_simp
    have fN:=(HP.out.below HB.out).tails.2
    refine hK.out _ _ fN (fun hH28=>?_)
    try go_simp
    clear hK KK
    clear jO fN
    refine tk 13 (.pointer (some ⟨bT,oT+j * 2,none⟩)) rfl hH28 ?_
    try go_simp
    refine rdy 14 rfl (fun KK hK=>?_)
    have c0:Wn27.cell? ⟨bT,oT+j * 2,none⟩=some (.int .i64 rx.version):=(HK.out Wn27 HB.out).1
    have c1:Wn27.cell? ⟨bT,oT+j * 2+1,none⟩=some (.int .i64 rx.owner):=(HK.out Wn27 HB.out).2
    go_simp
    have fN:=(HP.out.below HB.out).tails.2
    refine hK.out _ _ fN (fun hH29=>?_)
    try go_simp
    clear hK KK
    clear c0 c1 fN
    have z0:=HZ.out.cell 0 _ rfl
    have zf0:=HZ.out.frozen 0
    have y1:=(HZ.out.set_ 0 (.int .i64 rx.version)).cell 1 (.int .i64 0) rfl
    have yf1:=(HZ.out.set_ 0 (.int .i64 rx.version)).frozen 1
    have HR7:Hid (Blk ((Wn27.setCell ⟨Wd.heap.size,0,none⟩ (.int .i64 rx.version)).setCell ⟨Wd.heap.size,1,none⟩ (.int .i64 rx.owner)) (Wd.heap.size) 92 #[.int .i64 rx.version,.int .i64 rx.owner]):=Lh ((HZ.out.set_ 0 (.int .i64 rx.version)).set_ 1 (.int .i64 rx.owner))
    have hzb:w.heap.size≤Wd.heap.size:=HZW.out
    have BW:Hid (Below w.heap.size w ((Wn27.setCell ⟨Wd.heap.size,0,none⟩ (.int .i64 rx.version)).setCell ⟨Wd.heap.size,1,none⟩ (.int .i64 rx.owner))):=Lh (bl_set (bl_set HB.out (p:=⟨Wd.heap.size,0,none⟩) hzb _) (p:=⟨Wd.heap.size,1,none⟩) hzb _)
    have fN:=(HP.out.below BW.out).tails.2
    refine rdy 16 rfl (fun KK hK=>?_)
    go_simp
    refine hK.out _ _ fN (fun _=>?_)
    clear hK KK
    refine wpAnyH_done (by kernel_rfl) ?_ _
    clear z0 zf0 y1 yf1 fN HZ HO
    generalize ((Wn27.setCell ⟨Wd.heap.size,0,none⟩ (.int .i64 rx.version)).setCell ⟨Wd.heap.size,1,none⟩ (.int .i64 rx.owner))=W7 at *
    have k7a:=HR7.out.cell 0 _ rfl
    have k7b:=HR7.out.cell 1 _ rfl
    have s1:=(HP.out.below BW.out).m.cells.2.1
    by_cases ho:rx.owner=0
    ·by_cases hv:rx.version≤t.snap
     ·have hv2:¬t.snap<rx.version:=by omega
      have HE:Hid (R=((v,true),t.rd_ (t.reads++ [⟨b,rx.version,v⟩]))):=Lh (by rw[←HR.out];unfold readT;rw[HGQ.out,if_neg (by rw[hg2];decide),HFD.out];simp only;rw[if_pos ⟨ho,hv⟩];rfl)
      have HAA:=Lh (HAD.out HFD.out ho hv)
      go_wp2_with fail
      go_quiet (fail)
      have BW8:=Lh (bl_drewN BW.out nq).drew
      have HR8:=Lh ((HR7.out.drewN nq).below (Below.refl _ _).drew)
      clear k7a k7b s1 HR7
      have f10:(fun (W:World)=>W.cell? ⟨Wd.heap.size,0,none⟩=some (.int .i64 rx.version)) (W7.drewN nq).drew:=HR8.out.cell 0 _ rfl
      have HGZ8:g≠Wd.heap.size:=HGZ.out
      go_wp2_with fail
      refine wp_region_held_drew (S:=fun (W:World)=>W.cell? ⟨Wd.heap.size,0,none⟩=some (.int .i64 rx.version)) (by kernel_rfl) f10 (fun hH80=>?_)
      generalize (W7.drewN nq).drew=W8 at *
      have p5:=(HP.out.below BW8.out).m.cells.2.2.2.2.2.1
      refine tk 0 (.pointer (some ⟨g,0,none⟩)) rfl hH80 ?_
      try go_simp
      refine tk 1 (.pointer (some ⟨g,0,none⟩)) rfl hH80 ?_
      try go_simp
      refine tk 2 (.pointer (some ⟨g,0,none⟩)) rfl hH80 ?_
      try go_simp
      refine tk 3 (.pointer (some ⟨g,0,none⟩)) rfl hH80 ?_
      try go_simp
      refine tk 4 (.pointer (some ⟨g,5,none⟩)) rfl hH80 ?_
      try go_simp
      refine tk 6 (.int .i64 b) rfl hH80 ?_
      try go_simp
      refine tk 7 (.pointer (some ⟨Wd.heap.size,0,none⟩)) rfl hH80 ?_
      try go_simp
      refine tk 8 (.int .i64 rx.version) rfl hH80 ?_ (hy:=Or.inl ⟨by rfl,fun W hS=>by have k2:=hS;go_simp⟩)
      try go_simp
      refine tk 9 (.int .i64 v) rfl hH80 ?_
      try go_simp
      refine tk 10 (.agg #[.int .i64 b,.int .i64 rx.version,.int .i64 v]) rfl hH80 ?_
      try go_simp
      refine rdy 5 rfl (fun KK hK=>?_)
      go_simp
      refine hK.out _ _ f10 (fun hH81=>?_)
      try go_simp
      clear hK KK
      refine rdy 11 rfl (fun KK hK=>?_)
      refine calls_step2 (by rfl) 208 #[.slice x.D t.reads.length x.dc,.agg #[.int .i64 b,.int .i64 rx.version,.int .i64 v]] _ (Reads.add_o t.reads x.D _ x.dc b rx.version v W8 _ (t.reads.length+1) (HP.out.below BW8.out).m.rd.reads (HP.out.below BW8.out).m.rd.dn HLL.out.2.2 HAA.out (by simp)) ?_ ?_
      ·focus (go_simp;done)
      rintro e W9 ⟨B9,d9,rfl,o9⟩
      refine ⟨_,rfl,?_⟩
      have HMv:=Lh ((HP.out.below BW8.out).m.reads_ o9 (by simp))
      have M9:=(HP.out.below BW8.out).m.below o9.2
      have HR9:=Lh (HR8.out.below o9.2)
      have f11:(fun (W:World)=>W.cell? ⟨Wd.heap.size,0,none⟩=some (.int .i64 rx.version)) W9:=HR9.out.cell 0 _ rfl
      have j5:W9.cell? ⟨g,5,none⟩=some (.slice x.D t.reads.length x.dc):=M9.cells.2.2.2.2.2.1
      have j6:=M9.froz 5
      have f12:(fun (W:World)=>W.cell? ⟨Wd.heap.size,0,none⟩=some (.int .i64 rx.version)) (W9.setCell ⟨g,5,none⟩ (.slice B9 (t.reads.length+1) d9)):=(HR9.out.beside HGZ8 5 _).cell 0 _ rfl
      clear o9 M9
      refine hK.out _ _ f11 (fun hH82=>?_)
      try go_simp
      clear hK KK
      refine tk 12 (.tuple #[.slice B9 (t.reads.length+1) d9,.int .i64 0]) rfl hH82 ?_
      try go_simp
      refine tk 13 (.slice B9 (t.reads.length+1) d9) rfl hH82 ?_
      try go_simp
      refine tk 14 (.int .i64 0) rfl hH82 ?_
      try go_simp
      refine tk 15 (.pointer (some ⟨g,0,none⟩)) rfl hH82 ?_
      try go_simp
      refine tk 16 (.pointer (some ⟨g,0,none⟩)) rfl hH82 ?_
      try go_simp
      refine tk 17 (.pointer (some ⟨g,5,none⟩)) rfl hH82 ?_
      try go_simp
      refine rdy 18 rfl (fun KK hK=>?_)
      go_simp
      refine hK.out _ _ f12 (fun _=>?_)
      clear hK KK
      refine wpAnyH_done (by kernel_rfl) ?_ _
      clear p5 f10 f11 f12 j5 j6
      go_wp2
      go_ret2
      rw[HE.out]
      exact ⟨rfl,x.dd B9 d9,HMv.out.1,((Mv.refl w g (x.os t)).bel BW8.out).trans HMv.out.2,HF.out⟩
     ·have hv2:t.snap<rx.version:=by omega
      have HE:Hid (R=((0,false),t)):=Lh (by rw[←HR.out];unfold readT;rw[HGQ.out,if_neg (by rw[hg2];decide),HFD.out];simp only;rw[if_neg (fun e=>hv e.2)])
      go_wp2_with fail
      go_quiet (fail)
      go_wp2_with fail
      go_ret2
      rw[HE.out]
      exact ⟨rfl,x,(HP.out.below (bl_drewN BW.out nq)).m,(Mv.refl w g (x.os t)).bel (bl_drewN BW.out nq),HF.out⟩
    ·have hob:(rx.owner==0)=false:=by simpa using ho
     have HE:Hid (R=((0,false),t)):=Lh (by rw[←HR.out];unfold readT;rw[HGQ.out,if_neg (by rw[hg2];decide),HFD.out];simp only;rw[if_neg (fun e=>ho e.1)])
     go_wp2_with fail
     go_quiet (fail)
     go_wp2_with fail
     go_ret2
     rw[HE.out]
     exact ⟨rfl,x,(HP.out.below (bl_drewN BW.out nq)).m,(Mv.refl w g (x.os t)).bel (bl_drewN BW.out nq),HF.out⟩
theorem read_same (t:Try) (b v:Int) (x:Stripe.Rec):(readT t b v x).2.regs=t.regs∧(readT t b v x).2.pc=t.pc:=by
 unfold readT
 split
 ·exact ⟨rfl,rfl⟩
 ·cases Reads.findS t.reads b with
  | some y=>exact ⟨rfl,rfl⟩
  | none=>
   simp only
   split
   ·exact ⟨rfl,rfl⟩
   ·exact ⟨rfl,rfl⟩
set_option maxHeartbeats 4000000 in
theorem load_c (w0 w:World) (g:Nat) (HA:Option Addr) (hn hc:Nat) (h:List Heap.Cell) (TA:Option Addr) (tn tc:Nat) (r:List Stripe.Rec) (t:Try) (x:TL) (s:Raw) (ka j:Nat) (rx:Stripe.Rec) (T:Try) (p:MPre w0 w g HA hn hc h TA tn tc r t x s) (hr:Heap.rightB h=true) (hrt:Stripe.rightB r=true) (hka:s.s.a=(ka:Int)) (hk8:ka<8) (hj:Heap.liveAt h s.s.b=true→s.s.b % (tn:Int)=(j:Int)) (hx:r[j]?=some rx) (hrr:Reads.rightB t.reads=true)
    (hadd:Heap.liveAt h s.s.b=true→Reads.findS t.reads s.s.b=none→rx.owner=0→rx.version≤t.snap→Reads.addS t.reads ⟨s.s.b,rx.version,Heap.valAt h s.s.b⟩=(t.reads++ [⟨s.s.b,rx.version,Heap.valAt h s.s.b⟩],0))
    (hT:(if Heap.liveAt h s.s.b=true then liveT t s.s.a s.s.b (Heap.valAt h s.s.b) rx else ended t 4 s.s.b)=T):
    Calls Tryz.prog 118 #[.pointer (some ⟨g,0,none⟩),.agg #[.int .i64 s.s.d,.int .i64 s.s.a,.int .i64 s.s.b,.slice s.T s.n s.c]] w (MRet w0 w g (tl HA hn hc TA tn tc) t x T):=by
  obtain ⟨w1,hw1⟩:∃w1,w1=w.alloc (.cells #[.int .i64 s.s.d,.int .i64 s.s.a,.int .i64 s.s.b,.slice s.T s.n s.c] 113):=⟨_,rfl⟩
  have HB:Hid (Below w.heap.size w w1):=Lh (by rw[hw1];exact bl_alloc (Below.refl _ _) _)
  have HK:Hid (Blk w1 w.heap.size 113 #[.int .i64 s.s.d,.int .i64 s.s.a,.int .i64 s.s.b,.slice s.T s.n s.c]):=Lh (by rw[hw1];exact Blk.new _ _ _)
  have HP:=Lh (p.below HB.out)
  have HF:Hid (x.fl.length≤1000000):=Lh (Nat.le_trans p.sm.fl (by decide))
  have hpc:t.pc≤1000:=p.sm.pc
  have hgw:g<w.heap.size:=p.m.blk.lt
  have HW:=Lh hw1
  have hhn:=p.hn6
  have H8:=Lh p.sm.regs
  obtain ⟨q,hq⟩:∃q,Heap.getS h s.s.b=q:=⟨_,rfl⟩
  have HG:Hid (∀W,Below w1.heap.size w1 W→Calls Tryz.prog 161 #[.slice HA hn hc,.int .i64 s.s.b] W (Heap.RetG W q)):=Lh (fun W hW=>Heap.get_c h HA hn hc s.s.b W q (HP.out.below hW).hp hhn hq)
  have i0:w1.drew.cell? ⟨g,11,none⟩=some (.slice HA hn hc):=HP.out.tails.1
  have i1:w1.drew.cell? ⟨w.heap.size,2,none⟩=some (.int .i64 s.s.b):=HK.out.cell 2 _ rfl
  have a0' :=HP.out.tails.1
  have a1' :=HK.out.cell 2 _ rfl
  have BD:Hid (Below w1.heap.size w1 w1.drew):=Lh (Below.refl _ _).drew
  have HQ:=Lh hq
  have HTT:=Lh hT
  have HKA:=Lh hka
  have HAD:=Lh hadd
  have HJ:=Lh hj
  have HX:=Lh hx
  have HRR:=Lh hrr
  have HOW:Hid (∀o∈x.os t,∀k,o.v.ownBlock=some k→k<w.heap.size):=Lh (os_lt p.m)
  clear p hq hT hka hadd hj hx hrr
  go_enter Tryz.func118,Tryz.ntmps118
  go_wp2_with fail
  rw[←hw1]
  clear hw1
  go_region_held3 (fun w' =>w'.cell? ⟨g,11,none⟩=some (.slice HA hn hc)∧w'.cell? ⟨w.heap.size,2,none⟩=some (.int .i64 s.s.b)) (first | exact ⟨a0,a1⟩ | exact ⟨i0,i1⟩ | go_keep)
    ((go_at_call 161
      refine (HG.out _ BD.out).mono ?_
      rintro e w5 ⟨rfl,o5⟩
      have BA:=Lh (bl_trans (Below.refl w1.heap.size w1).drew o5)
      have HP5:=Lh (HP.out.below BA.out)
      have HK5:=Lh (HK.out.below BA.out)
      have a0:=HP5.out.tails.1
      have a1:=HK5.out.cell 2 _ rfl
      clear o5))
  clear i0 i1 a0' a1'
  cases hl:Heap.liveAt h s.s.b with
  | false=>
    have hq3:q.2=3:=by rw[←HQ.out];unfold Heap.getS;rw[if_pos hr,if_neg (by rw[hl];decide)]
    have hq0:¬q.2=0:=by omega
    have hqb:(q.2==0)=false:=by simpa using hq0
    have HE:Hid (T=ended t 4 s.s.b):=Lh (by rw[←HTT.out,if_neg (by rw[hl];decide)])
    clear hl hq3
    go_wp2_with (go_at_call 162;refine (end_c w0 _ g _ t x 4 s.s.b HP5.out.m HF.out).mono ?_;rintro e w6 ⟨rfl,hm⟩;have HM:=Lh hm;clear hm)
    go_end0
    obtain ⟨x',h1,h2,h3⟩:=HM.out
    exact ⟨rfl,x',by rw[HE.out];exact h1,by rw[HE.out];exact ((Mv.refl w g (x.os t)).bel (bl_trans HB.out BA.out)).trans h2,h3⟩
  | true =>
    have hq0:q.2=0:=by rw[←HQ.out];unfold Heap.getS;rw[if_pos hr,if_pos hl]
    have hq1:q.1=Heap.valAt h s.s.b:=by rw[←HQ.out];unfold Heap.getS;rw[if_pos hr,if_pos hl]
    obtain ⟨R,hR⟩:∃R,readT t s.s.b q.1 rx=R:=⟨_,rfl⟩
    have hb0:=(Heap.live_in h _ hl).1
    have HRD:=Lh (read_c w0 w5 g HA hn hc h TA tn tc r t x s s.s.b q.1 j rx R HP5.out hrt hb0 (HJ.out hl) HX.out HRR.out (by rw[hq1];exact HAD.out hl) hR)
    have HE:Hid (T=if R.1.2=true then goes (regT R.2 s.s.a R.1.1) 1 else ended t 5 0):=Lh (by rw[←HTT.out,if_pos hl,live_read,←hq1,hR])
    have HS:Hid (R.2.regs=t.regs∧R.2.pc=t.pc):=Lh (by rw[←hR];exact read_same t s.s.b q.1 rx)
    have HST :Hid (R.1.2=false→R.2=t):=Lh (fun e=>by
      rw[←hR]at e ⊢
      unfold readT at e ⊢
      split
      · rename_i h1;exact absurd e (by rw[if_pos h1];simp)
      · rename_i h1
        rw[if_neg h1]at e
        cases hf:Reads.findS t.reads s.s.b with
        | some y=>exact absurd e (by rw[hf];simp)
        | none=>
          rw[hf]at e
          simp only at e ⊢
          split
          · rename_i h2;rw[if_pos h2]at e;cases e
          · rfl)
    clear hl hq1 hR hb0
    cases hfr:R.1.2 with
    | false =>
      have HE2:Hid (T=ended t 5 0):=Lh (by rw[HE.out,if_neg (by rw[hfr];decide)])
      have HT2:=Lh (HST.out hfr)
      go_wp2_with (first
        | (go_at_call 163
           refine HRD.out.mono ?_
           rintro e w6 ⟨rfl,x1,m1,v1,l1⟩
           rw[HT2.out]at m1 v1
           have HM1:=Lh m1
           have HV1:=Lh v1
           have HL1:=Lh l1
           clear m1 v1 l1)
        | (go_at_call 162;refine (end_c w0 _ g _ t x1 5 0 HM1.out HL1.out).mono ?_;rintro e w7 ⟨rfl,hm⟩;have HM:=Lh hm;clear hm))
      go_end0
      obtain ⟨x',h1,h2,h3⟩:=HM.out
      exact ⟨rfl,x',by rw[HE2.out];exact h1,by rw[HE2.out];exact (((Mv.refl w g (x.os t)).bel (bl_trans HB.out BA.out)).trans HV1.out).trans h2,h3⟩
    | true =>
      have HE2:Hid (T=goes (regT R.2 s.s.a R.1.1) 1):=Lh (by rw[HE.out,if_pos hfr])
      obtain ⟨t1,ht1⟩:∃t1,R.2=t1:=⟨_,rfl⟩
      have HT1:=Lh ht1
      have H81:Hid (t1.regs.length=8):=Lh (by rw[←ht1,HS.out.1];exact H8.out)
      have hpc1:t1.pc≤1000:=by rw[←ht1,HS.out.2];exact hpc
      clear ht1
      go_wp2_with (
        go_at_call 163
        refine HRD.out.mono ?_
        rintro e w6 ⟨rfl,x1,m1,v1,l1⟩
        rw[HT1.out]at m1 v1
        have HM1:=Lh m1
        have HV1:=Lh v1
        have HL1:=Lh l1
        have HK6:=Lh (v1.blk HK5.out (fun e=>by
          rcases e with e | ⟨o,ho,hv⟩
          · omega
          · have:=HOW.out o ho _ hv;omega))
        clear m1 v1 l1)
      obtain ⟨gR,hR,_,hRg,hR0⟩:=own_r HM1.out H81.out
      have HR:=Lh hR
      clear hR
      have i1:w6.drew.cell? ⟨w.heap.size,1,none⟩=some (.int .i64 (ka:Int)):=by rw[←HKA.out];exact HK6.out.cell 1 _ rfl
      have i3:w6.drew.cell? ⟨g,3,none⟩=some (.slice (some ⟨gR,0,none⟩) 8 x1.rc):=by have:=HM1.out.cells.2.2.2.1;rw[HR.out,H81.out]at this;exact this
      have M5:=HM1.out.below (Below.refl w6.heap.size w6).drew
      obtain ⟨y,hy⟩:∃y,t1.regs[ka]?=some y:=⟨_,List.getElem?_eq_getElem (by rw[H81.out];exact hk8)⟩
      have i4:w6.drew.cell? ⟨gR,ka,none⟩=some (.int .i64 y):=by
        have:=M5.rd.regs.2 (by rw[H81.out];decide)
        obtain ⟨b,off,e,hc⟩:=this
        rw[HR.out]at e
        injection e with e
        injection e with e e2
        subst e e2
        have:=hc ka (.int .i64 y) (by rw[Reads.zs_map,List.getElem?_map,hy];rfl)
        rwa [Nat.zero_add]at this
      have i5:w6.drew.frozen? ⟨gR,ka,none⟩=false:=by
        rcases (M5.own.mem 0 rfl).1.2 with ⟨e,_⟩ | ⟨g1,c1,cur,e,_,h2,_⟩
        · rw[HR.out]at e;cases e
        · rw[HR.out]at e
          injection e with e
          injection e with e
          injection e with e
          subst e
          simp[World.frozen?,h2]
      obtain ⟨m0,v0⟩:=HM1.out.reg_ HR.out s.s.a R.1.1 ka HKA.out
      have m1:=m0.below (Below.refl _ _).drew
      have j2:(w6.setCell ⟨gR,ka,none⟩ (.int .i64 R.1.1)).drew.cell? ⟨g,2,none⟩=some (.int .i64 (t1.pc:Int)):=m1.cells.2.2.1
      have jf:=m1.froz 2
      obtain ⟨m2,v2⟩:=m0.goes_ 1 ((t1.pc:Int)+1) rfl
      have HM:=Lh (m2.below (Below.refl _ _).drew)
      have HV:=Lh ((v0.trans v2).bel (Below.refl _ _).drew)
      clear M5 m0 v0 m1 m2 v2 hy
      go_wp2_with fail
      go_big_region
      go_wp2
      go_end0
      have e9:T=goes (regT t1 s.s.a R.1.1) 1:=by rw[HE2.out,HT1.out]
      rw[e9]
      exact ⟨rfl,x1,HM.out,(((Mv.refl w g (x.os t)).bel (bl_trans HB.out BA.out)).trans HV1.out).trans HV.out,HL1.out⟩
def Try.push (t:Try) (f:Frame):Try:={ t with frames:=f::t.frames }
def TL.add (x:TL) (F:Option Addr) (fc:Nat) (r:FRaw):TL:={ x with F:=F,fc:=fc,fl:=x.fl++ [r] }
section
variable {w0 w w1 w2 w' :World} {g:Nat} {ty:TypeId} {tail:List Value} {t t' :Try} {x x' :TL} {r:FRaw} {l:List FRaw} {fs:List Frame}
theorem Moved.only {v v' :Value} {n n' :Nat} (hm:Moved w w' v v' n n'):Only (fun b=>v.ownBlock=some b) w w' :=by
 rcases hm with ⟨g1,c1,e1,_,hg⟩ | ⟨hg,_⟩
 ·exact Only.of_grown hg (fun b hb=>by injection hb with hb;rw[e1,←hb];rfl)
 ·exact Only.of_below (grown_below hg)
theorem Moved.old {v v' :Value} {n n' :Nat} (hm:Moved w w' v v' n n') (b:Nat) (hb:v'.ownBlock=some b) (hlt:b<w.heap.size):v.ownBlock=some b:=by
 rcases hm with ⟨g1,c1,e1,e2,_⟩ | ⟨_,hnew⟩
 ·rw [e2]at hb
  rw[e1,←hb];rfl
 ·have:=hnew b hb;omega
theorem MAt.push_ (h:MAt w0 w g ty tail t x) (ho:Own w w1 3 1 (.slice r.A r.f.regs.length r.c) r.f.regs.length (zs r.f.regs)) {F:Option Addr} {fc n:Nat} (hn:x.fl.length=n)
  (hF:Own w0 w2 134 4 (.slice F (n+1) fc) (n+1) (frs (x.fl++ [r]))) (hm:Moved w1 w2 (.slice x.F n x.fc) (.slice F (n+1) fc) n (n+1)):
  MAt w0 (w2.setCell ⟨g,8,none⟩ (.slice F (n+1) fc)) g ty tail (t.push r.f) (x.add F fc r)∧Mv w g (x.os t) (w2.setCell ⟨g,8,none⟩ (.slice F (n+1) fc)) ((x.add F fc r).os (t.push r.f)):=by
 subst hn
 have hb:=ho.2
 have h1:Owns w0 w1 (ros r::x.os t):=h.own.more h.bel _ _ _ _ _ ho
 have h2:=h1.moved 6 134 4 (.slice x.F x.fl.length x.fc) (.slice F (x.fl.length+1) fc) x.fl.length (x.fl.length+1) (frs x.fl) (frs (x.fl++ [r])) rfl hF hm
 have e1:(x.add F fc r).os (t.push r.f)=(x.os t).set 5 ⟨134,4,.slice F (x.fl.length+1) fc,x.fl.length+1,frs (x.fl++ [r])⟩++ [ros r]:=by
  unfold TL.add Try.push TL.os
  simp
 have h3:Owns w0 w2 ((x.add F fc r).os (t.push r.f)):=by
  rw[e1]
  exact h2.perm (List.perm_append_comm (l₁:= [ros r]))
 have hO:Only (fun b=>(Value.slice x.F x.fl.length x.fc).ownBlock=some b) w w2:=(Only.of_below (S:=fun b=>(Value.slice x.F x.fl.length x.fc).ownBlock=some b) hb).trans (Moved.only hm) (fun _ _ e=>e)
 have hFo:(x.os t)[5]?=some ⟨134,4,.slice x.F x.fl.length x.fc,x.fl.length,frs x.fl⟩:=rfl
 have hof:∀p∈(x.add F fc r).os (t.push r.f),∀b,p.v.ownBlock=some b→b<w.heap.size→∃q∈x.os t,q.v.ownBlock=some b:=by
  intro p hp b hpb hlt
  rw[e1]at hp
  rcases List.mem_append.1 hp with hp | hp
  ·rcases List.mem_or_eq_of_mem_set hp with h5 | h5
   ·exact ⟨p,h5,hpb⟩
   ·rw [h5]at hpb
    exact ⟨_,List.mem_of_getElem? hFo,Moved.old hm b hpb (Nat.lt_of_lt_of_le hlt hb.size)⟩
  ·obtain rfl:p=ros r:=by simpa using hp
   exact absurd hpb (ho.ne_old hlt)
 have hng:∀p∈(x.add F fc r).os (t.push r.f),p.v.ownBlock≠some g:=by
  intro p hp e
  obtain ⟨q,hq,e2⟩:=hof p hp g e h.blk.lt
  exact h.off q hq e2
 refine ⟨⟨h.base,?_,h3.only (S:=fun b=>b=g) (Only.set_ g 8 _ rfl) (fun p hp b hb e=>hng p hp (by rw[hb,e])) (fun b e=>by rw[e];exact h.base),hng,?_⟩,(hO.sub (fun b _ hs=>(.inr ⟨_,List.mem_of_getElem? hFo,hs⟩:Of g (x.os t) b))).put g 8 _ (.inl rfl),?_⟩
 ·have :=(hO.blk h.blk (h.off _ (List.mem_of_getElem? hFo))).set_ 8 (.slice F (x.fl.length+1) fc)
  rw[List.setIfInBounds_toArray,List.set_append_left _ _ (by show 8<11;decide)]at this
  have e2:(tvl t x).set 8 (.slice F (x.fl.length+1) fc)=tvl (t.push r.f) (x.add F fc r):=by unfold TL.add Try.push tvl;simp
  rw[e2]at this
  exact this
 ·unfold TL.add Try.push
  simp[h.raw]
 ·intro b hlt hbb
  rcases hbb with hbb | ⟨p,hp,hv⟩
  ·exact .inl hbb
  ·obtain ⟨q,hq,e2⟩:=hof p hp b hv hlt
   exact .inr ⟨q,hq,e2⟩
def TL.rr (x:TL) (R:Option Addr) (rc:Nat):TL:={ x with R:=R,rc:=rc }
def Try.rg (t:Try) (l:List Int):Try:={ t with regs:=l }
theorem MAt.regs_ (h:MAt w0 w g ty tail t x) {A:Option Addr} {c n:Nat} {l:List Int} (ho:Own w0 w 3 1 (.slice A n c) n (zs l)) (hn:l.length=n) (ha:∀o∈x.os t,Apart o.v (.slice A n c)) (hg:(Value.slice A n c).ownBlock≠some g):
  MAt w0 (w.setCell ⟨g,3,none⟩ (.slice A n c)) g ty tail (t.rg l) (x.rr A c)∧Only (fun b=>b=g) w (w.setCell ⟨g,3,none⟩ (.slice A n c)):=by
 subst hn
 have h1:Owns w0 w ((x.os t).set 0 ⟨3,1,.slice A l.length c,l.length,zs l⟩):=h.own.nth 0 rfl ho (fun p hp hw _=>⟨hw,ha p hp⟩)
 have hng:∀p∈(x.rr A c).os (t.rg l),p.v.ownBlock≠some g:=by
  intro p hp e
  have hp2:p∈(x.os t).set 0 ⟨3,1,.slice A l.length c,l.length,zs l⟩:=hp
  rcases List.mem_or_eq_of_mem_set hp2 with h5 | h5
  ·exact h.off p h5 e
  ·rw[h5]at e;exact hg e
 refine ⟨⟨h.base,?_,Owns.only (l:=(x.rr A c).os (t.rg l)) h1 (S:=fun b=>b=g) (Only.set_ g 3 _ rfl) (fun p hp b hb e=>hng p hp (by rw[hb,e])) (fun b e=>by rw[e];exact h.base),hng,h.raw⟩,Only.set_ g 3 _ rfl⟩
 have:=h.blk.set_ 3 (.slice A l.length c)
 rw[List.setIfInBounds_toArray,List.set_append_left _ _ (by show 3<11;decide)]at this
 exact this
theorem own_cut_int {e n d:Nat} {B:Option Addr} {l:List Int} (h:Own w0 w e 1 (.slice B n d) n (zs l)) (k:Nat) (hk:k≤n):Own w0 w e 1 (.slice B k d) k (zs (l.take k)):=Writes.own_cut (K:=1) (code:=fun z=>[Value.int .i64 z]) (fun _=>rfl) h k hk (by decide)
theorem own_block (A:Option Addr) (n c m d:Nat):(Value.slice A n c).ownBlock=(Value.slice A m d).ownBlock:=by cases A <;> rfl
theorem MAt.path2_ (h:MAt w0 w g ty tail t x) {k:Nat} (hk:k≤t.path.length) {P:Option Addr} {pc n' :Nat} {q:List Int} (ho:Own w0 w' 3 1 (.slice P n' pc) n' (zs q)) (hn:q.length=n') (hm:Moved w w' (.slice x.P k x.pc) (.slice P n' pc) k n'):
  MAt w0 (w'.setCell ⟨g,4,none⟩ (.slice P n' pc)) g ty tail (t.ph q) (x.pp P pc)∧Mv w g (x.os t) (w'.setCell ⟨g,4,none⟩ (.slice P n' pc)) ((x.pp P pc).os (t.ph q)):=by
 subst hn
 have hcut:=own_cut_int (h.own.mem 1 rfl) k hk
 have h1:=h.own.same 1 rfl 3 1 (.slice x.P k x.pc) k (zs (t.path.take k)) hcut (.inl (own_block _ _ _ _ _))
 have h2:=h1.moved 1 3 1 (.slice x.P k x.pc) (.slice P q.length pc) k q.length (zs (t.path.take k)) (zs q) rfl ho hm
 refine h.swap_ (S:=fun b=>(Value.slice x.P k x.pc).ownBlock=some b) (o' :=⟨3,1,.slice P q.length pc,q.length,zs q⟩) 1 4 rfl (Moved.only hm) (fun b _ hb=>by rw[own_block _ _ _ k x.pc];exact hb) h2 (fun b hb hlt=>by rw[own_block _ _ _ k x.pc];exact Moved.old hm b hb hlt) rfl (by decide) rfl h.raw
end
theorem clonei_bd (h:List Int) (A:Option Addr) (n c:Nat) (w:World) (hr:Rd w 1 A n (zs h)) (hn:n≤1000000):
  Calls Tryz.prog 77 #[.slice A n c] w fun e w' =>∃B d,e=.returned (.slice B n d)∧Own w w' 3 1 (.slice B n d) n (zs h):=
 (Writes.clonei_c h A n c w hr hn).mono (fun e w' ⟨v,h1,h2⟩=>by
  obtain ⟨B,d,hv,_,_⟩:=Mem.own_room h2
  exact ⟨B,d,by rw[h1,hv],by rw[←hv];exact h2⟩)
theorem backS_le (lg:Writes.Log):(Writes.backS lg).1.list.length≤lg.list.length∧(Writes.backS lg).1.marks.length≤lg.marks.length:=by
 unfold Writes.backS
 split
 ·split
  ·exact ⟨Nat.le_refl _,Nat.le_refl _⟩
  ·exact ⟨by simp;omega,by simp⟩
 ·exact ⟨Nat.le_refl _,Nat.le_refl _⟩
set_option maxHeartbeats 4000000 in
theorem retry_c (w0 w:World) (g:Nat) (HA:Option Addr) (hn hc:Nat) (h:List Heap.Cell) (TA:Option Addr) (tn tc:Nat) (r:List Stripe.Rec) (t:Try) (x:TL) (s:Raw) (T:Try) (p:MPre w0 w g HA hn hc h TA tn tc r t x s) (hlong:∀f fs,t.frames=f::fs→f.long≤t.path.length) (hT:retryT t=T):
    Calls Tryz.prog 122 #[.pointer (some ⟨g,0,none⟩),.agg #[.int .i64 s.s.d,.int .i64 s.s.a,.int .i64 s.s.b,.slice s.T s.n s.c]] w (MRet w0 w g (tl HA hn hc TA tn tc) t x T):=by
  obtain ⟨w1,hw1⟩:∃w1,w1=w.alloc (.cells #[.int .i64 s.s.d,.int .i64 s.s.a,.int .i64 s.s.b,.slice s.T s.n s.c] 113):=⟨_,rfl⟩
  have HB:Hid (Below w.heap.size w w1):=Lh (by rw[hw1];exact bl_alloc (Below.refl _ _) _)
  have HK:Hid (Blk w1 w.heap.size 113 #[.int .i64 s.s.d,.int .i64 s.s.a,.int .i64 s.s.b,.slice s.T s.n s.c]):=Lh (by rw[hw1];exact Blk.new _ _ _)
  have HP:=Lh (p.below HB.out)
  have HF:Hid (x.fl.length≤1000000):=Lh (Nat.le_trans p.sm.fl (by decide))
  have hpc:t.pc≤1000:=p.sm.pc
  have hgw:g<w.heap.size:=p.m.blk.lt
  have HW:=Lh hw1
  have HT:=Lh hT
  have HSM:=Lh p.sm
  have h8:=HP.out.m.cells.2.2.2.2.2.2.2.2.1
  cases hfr:t.frames with
  | nil=>
    have hf0:=raw_nil p.m hfr
    have HE:Hid (T=ended t 2 0):=Lh (by rw[←hT];unfold retryT;rw[hfr])
    have hl0:x.fl.length=0:=by rw[hf0];rfl
    rw[hl0,hw1]at h8
    clear p hT hfr hf0
    go_enter Tryz.func122,Tryz.ntmps122
    go_wp2_with (go_at_call 162;rw[←HW.out];refine (end_c w0 _ g _ t x 2 0 HP.out.m HF.out).mono ?_;rintro e w6 ⟨rfl,hm⟩;have HM:=Lh hm;clear hm)
    go_end0
    obtain ⟨x',h1,h2,h3⟩:=HM.out
    exact ⟨rfl,x',by rw[HE.out];exact h1,by rw[HE.out];exact ((Mv.refl w g (x.os t)).bel HB.out).trans h2,h3⟩
  | cons f fs =>
    obtain ⟨l,f9,e1,e2,e3⟩:=raw_cons p.m hfr
    have hlen:x.fl.length=l.length+1:=by rw[e1];simp
    obtain ⟨n,hn⟩:∃n,l.length=n:=⟨_,rfl⟩
    rw[hlen,hn,hw1]at h8
    have hlb:((n:Int)+1==0)=false:=by simp;omega
    have hln:¬((n:Int)+1=0):=by omega
    obtain ⟨a,ha⟩:∃a,Writes.backS t.log=a:=⟨_,rfl⟩
    have HBK:=Lh ha
    have HLG:Hid (f9.f.long≤t.path.length):=Lh (by rw[e2];exact hlong f fs hfr)
    have HE:Hid (T=((((((t.pop fs).lg a.1).rg f9.f.regs).ph (t.path.take f9.f.long++ [2]))).at_ f9.f.mid)):=Lh (by rw[←hT];unfold retryT;rw[hfr];simp only[←e2,ha];rfl)
    have HE1:=Lh e1
    have HFR:=Lh hfr
    have HN:=Lh hn
    have hn6:n≤1000:=by have:=p.sm.fl;omega
    have HLL:Hid (t.log.list.length≤1000000∧t.log.marks.length≤1000000):=Lh ⟨Nat.le_trans p.sm.list (by decide),Nat.le_trans p.sm.marks (by decide)⟩
    have hpl:t.path.length≤1000:=p.sm.path
    have HLF:Hid (l.length≤1000000):=Lh (by omega)
    clear p hT hfr e1 e2 e3 hlen hn ha hlong
    go_enter Tryz.func122,Tryz.ntmps122
    go_wp2_with (first
      | (go_at_call 105
         rw[←HW.out]
         refine (leave_c w0 w1 g _ _ t x l f9 f fs n HP.out.m HE1.out HFR.out HN.out (by omega)).mono ?_
         rintro e W1 ⟨rfl,hL⟩
         have HLf:=Lh hL
         have M2:=hL.m.below (bl_alloc (Below.refl W1.heap.size W1) (.cells #[.int .i64 f9.f.mid,.int .i64 f9.f.fin,.int .i64 f9.f.long,.slice f9.A f9.f.regs.length f9.c] 134))
         have q6' :(W1.alloc (.cells #[.int .i64 f9.f.mid,.int .i64 f9.f.fin,.int .i64 f9.f.long,.slice f9.A f9.f.regs.length f9.c] 134)).cell? ⟨g,6,none⟩=some (.slice x.L t.log.list.length x.lc):=M2.cells.2.2.2.2.2.2.1
         have q7' :(W1.alloc (.cells #[.int .i64 f9.f.mid,.int .i64 f9.f.fin,.int .i64 f9.f.long,.slice f9.A f9.f.regs.length f9.c] 134)).cell? ⟨g,7,none⟩=some (.slice x.M t.log.marks.length x.mc):=M2.cells.2.2.2.2.2.2.2.1
         have HM3:=Lh M2
         have HB3:Hid (Blk (W1.alloc (.cells #[.int .i64 f9.f.mid,.int .i64 f9.f.fin,.int .i64 f9.f.long,.slice f9.A f9.f.regs.length f9.c] 134)) W1.heap.size 134 #[.int .i64 f9.f.mid,.int .i64 f9.f.fin,.int .i64 f9.f.long,.slice f9.A f9.f.regs.length f9.c]):=Lh (Blk.new _ _ _)
         have HPX:Hid (∀k,(Value.slice x.P f9.f.long x.pc).ownBlock=some k→k≠W1.heap.size):=Lh (fun k hk e=>by
           rw[own_block _ _ _ t.path.length x.pc]at hk
           have:=os_lt hL.m _ (List.mem_of_getElem? (i:=1) rfl) k hk
           omega)
         have hgW:g≠W1.heap.size:=by have:=hL.m.blk.lt;omega
         have HO3:=Lh (hL.own.alloc (.cells #[.int .i64 f9.f.mid,.int .i64 f9.f.fin,.int .i64 f9.f.long,.slice f9.A f9.f.regs.length f9.c] 134))
         clear hL M2)
      | (go_at_call 166
         refine (Writes.back_p t.log x.L x.M _ _ _ _ _ a _ _ HM3.out.log HLL.out.1 HLL.out.2 HBK.out rfl rfl).mono ?_
         rintro e W3 ⟨A,c,B,d,rfl,hp⟩
         have HPr:=Lh hp
         have M4:=HM3.out.below hp.ol.2
         have B4:=HB3.out.below hp.ol.2
         have HO4:=Lh (HO3.out.below hp.ol.2)
         have j6:W3.cell? ⟨g,6,none⟩=some (.slice x.L t.log.list.length x.lc):=M4.cells.2.2.2.2.2.2.1
         have j7:=(M4.blk.set_ 6 (.slice A a.1.list.length c)).cell 7 (.slice x.M t.log.marks.length x.mc) (by rw[List.setIfInBounds_toArray];rfl)
         have j8:=M4.froz 6
         have j9:=(M4.blk.set_ 6 (.slice A a.1.list.length c)).frozen 7
         have HMv:=Lh (HM3.out.log_ hp rfl rfl)
         have HB5:=Lh ((B4.beside hgW 6 (.slice A a.1.list.length c)).beside hgW 7 (.slice B a.1.marks.length d))
         have HO5:=Lh ((HO4.out.set_ne HMv.out.1.base HLf.out.off 6 (.slice A a.1.list.length c)).set_ne HMv.out.1.base HLf.out.off 7 (.slice B a.1.marks.length d))
         have g3:=HB5.out.cell 3 _ rfl
         have r3:=HMv.out.1.cells.2.2.2.1
         have r4:=HMv.out.1.froz 3
         simp only[Try.lg,Try.pop,TL.lm,TL.drop]at r3
         have hap :∀o∈((x.drop l).lm A c B d).os ((t.pop fs).lg a.1),Apart o.v (.slice f9.A f9.f.regs.length f9.c):=by
           intro o ho
           have hm:o∈(x.drop l).os (t.pop fs)∨o.v=.slice A a.1.list.length c∨o.v=.slice B a.1.marks.length d:=by
             have h5:o∈(((x.drop l).os (t.pop fs)).set 3 ⟨97,2,.slice A a.1.list.length c,a.1.list.length,Heap.ws a.1.list⟩).set 4 ⟨3,1,.slice B a.1.marks.length d,a.1.marks.length,zs a.1.marks⟩:=ho
             rcases List.mem_or_eq_of_mem_set h5 with h6 | h6
             · rcases List.mem_or_eq_of_mem_set h6 with h7 | h7
               · exact .inl h7
               · exact .inr (.inl (by rw[h7]))
             · exact .inr (.inr (by rw[h6]))
           have hfr9:∀(v:Value) (e k n:Nat) (xs:List Value),Own (W1.alloc (.cells #[.int .i64 f9.f.mid,.int .i64 f9.f.fin,.int .i64 f9.f.long,.slice f9.A f9.f.regs.length f9.c] 134)) W3 e k v n xs→Apart v (.slice f9.A f9.f.regs.length f9.c):=by
             intro v e k n xs hv
             cases hb:(Value.slice f9.A f9.f.regs.length f9.c).ownBlock with
             | none=>exact .inr (.inl hb)
             | some q=>
               refine .inr (.inr ?_)
               rw[hb]
               exact hv.ne_old (HO3.out.lt q hb)
           rcases hm with hm | hm | hm
           · exact HLf.out.ap o hm
           · rw[hm];exact hfr9 _ _ _ _ _ HPr.out.ol
           · rw[hm];exact hfr9 _ _ _ _ _ HPr.out.om
         have HAP:=Lh hap
         clear hp M4 B4 hap))
    obtain ⟨m6,o6⟩:=HMv.out.1.regs_ HO5.out rfl HAP.out HLf.out.off
    have v5:Mv w g (x.os t) ((W3.setCell ⟨g,6,none⟩ (.slice A a.1.list.length c)).setCell ⟨g,7,none⟩ (.slice B a.1.marks.length d)) (((x.drop l).lm A c B d).os ((t.pop fs).lg a.1)):=((((Mv.refl w g (x.os t)).bel HB.out).trans (HLf.out.mvd HE1.out)).bel (bl_alloc (Below.refl _ _) _)).trans HMv.out.2
    have v6:Mv w g (x.os t) (((W3.setCell ⟨g,6,none⟩ (.slice A a.1.list.length c)).setCell ⟨g,7,none⟩ (.slice B a.1.marks.length d)).setCell ⟨g,3,none⟩ (.slice f9.A f9.f.regs.length f9.c)) ((((x.drop l).lm A c B d).rr f9.A f9.c).os (((t.pop fs).lg a.1).rg f9.f.regs)):=by
      refine ⟨v5.1.trans (o6.sub (S2:=Of g (((x.drop l).lm A c B d).os ((t.pop fs).lg a.1))) (fun i _ e=>.inl e)) (fun i hi e=>v5.2 i hi e),fun i hi e=>?_⟩
      rcases e with e | ⟨q,hq,hv⟩
      · exact .inl e
      · have hq2:q∈(((x.drop l).lm A c B d).os ((t.pop fs).lg a.1)).set 0 ⟨3,1,.slice f9.A f9.f.regs.length f9.c,f9.f.regs.length,zs f9.f.regs⟩:=hq
        rcases List.mem_or_eq_of_mem_set hq2 with h5 | h5
        · exact v5.2 i hi (.inr ⟨q,h5,hv⟩)
        · exact .inr ⟨ros f9,ros_mem (by rw[HE1.out];simp),by rw[h5]at hv;exact hv⟩
    have HM6:=Lh m6
    have HV6:=Lh v6
    have HB6:Hid (Blk (((W3.setCell ⟨g,6,none⟩ (.slice A a.1.list.length c)).setCell ⟨g,7,none⟩ (.slice B a.1.marks.length d)).setCell ⟨g,3,none⟩ (.slice f9.A f9.f.regs.length f9.c)) W1.heap.size 134 #[.int .i64 f9.f.mid,.int .i64 f9.f.fin,.int .i64 f9.f.long,.slice f9.A f9.f.regs.length f9.c]):=Lh (HB5.out.beside hgW 3 _)
    clear m6 o6 v5 v6 j6 j7 j8 j9 g3 r3 r4 q6' q7'
    generalize (((W3.setCell ⟨g,6,none⟩ (.slice A a.1.list.length c)).setCell ⟨g,7,none⟩ (.slice B a.1.marks.length d)).setCell ⟨g,3,none⟩ (.slice f9.A f9.f.regs.length f9.c))=W6 at *
    have HLC:Hid (f9.f.long≤x.pc):=Lh (Nat.le_trans HLG.out (own_rd_any (HM6.out.own.mem 1 rfl)).2)
    have hlc:=HLC.out
    have hlg:=HLG.out
    have f0:(fun (W:World)=>W.cell? ⟨W1.heap.size,2,none⟩=some (.int .i64 (f9.f.long:Int))) W6.drew:=HB6.out.cell 2 _ rfl
    refine wp_region_held_drew (S:=fun (W:World)=>W.cell? ⟨W1.heap.size,2,none⟩=some (.int .i64 (f9.f.long:Int))) (by kernel_rfl) f0 (fun hH0=>?_)
    have HM7:=Lh (HM6.out.below (Below.refl W6.heap.size W6).drew)
    have HV7:=Lh (HV6.out.bel (Below.refl W6.heap.size W6).drew)
    have HB7:=Lh (HB6.out.below (Below.refl W6.heap.size W6).drew)
    have HPB:Hid (∀k,(Value.slice x.P f9.f.long x.pc).ownBlock=some k→k≠W1.heap.size):=Lh HPX.out
    generalize W6.drew=Wd at *
    have p4:Wd.cell? ⟨g,4,none⟩=some (.slice x.P t.path.length x.pc):=HM7.out.cells.2.2.2.2.1
    refine tk 0 (.pointer (some ⟨g,0,none⟩)) rfl hH0 ?_
    try go_simp
    refine tk 1 (.pointer (some ⟨g,0,none⟩)) rfl hH0 ?_
    try go_simp
    refine tk 2 (.pointer (some ⟨g,0,none⟩)) rfl hH0 ?_
    try go_simp
    refine tk 3 (.pointer (some ⟨g,0,none⟩)) rfl hH0 ?_
    try go_simp
    refine tk 4 (.pointer (some ⟨g,4,none⟩)) rfl hH0 ?_
    try go_simp
    refine tk 6 (.pointer (some ⟨W1.heap.size,2,none⟩)) rfl hH0 ?_
    try go_simp
    refine tk 7 (.int .i64 (f9.f.long:Int)) rfl hH0 ?_ (hy:=Or.inl ⟨by rfl,fun W hS=>by have k2:=hS;go_simp⟩)
    try go_simp
    refine wpAnyH_ready (rs:= [5,9]) (by kernel_rfl) (by simp) ?_
    refine AllReadyH.cons rfl (fun KK hK=>?_) (AllReadyH.cons rfl (fun KK hK=>?_) AllReadyH.nil)
    · go_simp
      refine hK.out _ _ f0 (fun hH5=>?_)
      try go_simp
      clear hK KK
      refine tk 8 (.slice x.P f9.f.long x.pc) rfl hH5 ?_
      try go_simp
      refine rdy 9 rfl (fun KK hK=>?_)
      go_simp
      have f8:(fun (W:World)=>W.cell? ⟨W1.heap.size,2,none⟩=some (.int .i64 (f9.f.long:Int))) (Wd.alloc (.cells #[.int .i64 2] 3)):=(HB7.out.below (bl_alloc (Below.refl Wd.heap.size Wd) (.cells #[.int .i64 2] 3))).cell 2 _ rfl
      refine hK.out _ _ f8 (fun hH8=>?_)
      try go_simp
      clear hK KK
      have HM8:=Lh (HM7.out.below (bl_alloc (Below.refl Wd.heap.size Wd) (.cells #[.int .i64 2] 3)))
      have HV8:=Lh (HV7.out.bel (bl_alloc (Below.refl Wd.heap.size Wd) (.cells #[.int .i64 2] 3)))
      have HB8:=Lh (HB7.out.below (bl_alloc (Below.refl Wd.heap.size Wd) (.cells #[.int .i64 2] 3)))
      have HS8:Hid (Rd (Wd.alloc (.cells #[.int .i64 2] 3)) 1 (some ⟨Wd.heap.size,0,none⟩) 1 [.int .i64 2]):=Lh (Rd.built _ 1 1 [.int .i64 2] _ rfl)
      clear HM7 HV7 HB7 p4 f0
      generalize (Wd.alloc (.cells #[.int .i64 2] 3))=W8 at *
      have p48:W8.cell? ⟨g,4,none⟩=some (.slice x.P t.path.length x.pc):=HM8.out.cells.2.2.2.2.1
      refine rdy 10 rfl (fun KK hK=>?_)
      refine append_moved_step (by rfl) _ _ 27 (by rfl) Mem.tInt w0 (.slice x.P f9.f.long x.pc) f9.f.long (zs (t.path.take f9.f.long)) (by rfl) (own_cut_int (HM8.out.own.mem 1 rfl) f9.f.long hlg) _ 1 1 [.int .i64 2] (by rfl) HS8.out (one_cons rfl one_nil) (by omega) (by omega) (by decide) ?_
      intro v9 W9 ho9 hm9
      obtain ⟨P9,c9,rfl,-⟩:=ho9.form
      have HB9:=Lh (hm9.blk HB8.out (fun e=>HPB.out _ e rfl))
      have f9_:(fun (W:World)=>W.cell? ⟨W1.heap.size,2,none⟩=some (.int .i64 (f9.f.long:Int))) W9:=HB9.out.cell 2 _ rfl
      have hoffP:(Value.slice x.P f9.f.long x.pc).ownBlock≠some g:=by rw[own_block _ _ _ t.path.length x.pc];exact HM8.out.off _ (List.mem_of_getElem? (i:=1) rfl)
      have k9:=hm9.blk HM8.out.blk hoffP
      have g4:W9.cell? ⟨g,4,none⟩=some (.slice x.P t.path.length x.pc):=k9.cell 4 _ rfl
      have z4:=k9.frozen 4
      have hzs:zs (t.path.take f9.f.long)++ [.int .i64 2]=zs (t.path.take f9.f.long++ [2]):=by unfold zs;rw[List.flatMap_append];rfl
      rw[hzs]at ho9
      have HMp:=Lh (HM8.out.path2_ (k:=f9.f.long) hlg ho9 (by simp;omega) hm9)
      have f10:(fun (W:World)=>W.cell? ⟨W1.heap.size,2,none⟩=some (.int .i64 (f9.f.long:Int))) (W9.setCell ⟨g,4,none⟩ (.slice P9 (f9.f.long+1) c9)):=(HB9.out.beside hgW 4 _).cell 2 _ rfl
      clear ho9 hm9 k9 hzs hoffP
      refine hK.out _ _ f9_ (fun hHa=>?_)
      try go_simp
      clear hK KK
      refine tk 11 (.pointer (some ⟨g,0,none⟩)) rfl hHa ?_
      try go_simp
      refine tk 12 (.pointer (some ⟨g,0,none⟩)) rfl hHa ?_
      try go_simp
      refine tk 13 (.pointer (some ⟨g,4,none⟩)) rfl hHa ?_
      try go_simp
      refine rdy 14 rfl (fun KK hK=>?_)
      go_simp
      refine hK.out _ _ f10 (fun _=>?_)
      clear hK KK
      refine wpAnyH_done (by kernel_rfl) ?_ _
      have HB10:=Lh (HB9.out.beside hgW 4 (.slice P9 (f9.f.long+1) c9))
      have l0:=HB10.out.cell 0 _ rfl
      have j2:(W9.setCell ⟨g,4,none⟩ (.slice P9 (f9.f.long+1) c9)).cell? ⟨g,2,none⟩=some (.int .i64 (t.pc:Int)):=HMp.out.1.cells.2.2.1
      have jf:=HMp.out.1.froz 2
      obtain ⟨m11,v11⟩:=HMp.out.1.pc_ f9.f.mid
      have HMz:=Lh m11
      have HVz:=Lh ((HV8.out.trans HMp.out.2).trans v11)
      clear f9_ g4 z4 f10 p48 m11 v11
      go_wp2
      go_end0
      rw[HE.out]
      exact ⟨rfl,_,HMz.out,HVz.out,HLF.out⟩
    · go_simp
      have f8:(fun (W:World)=>W.cell? ⟨W1.heap.size,2,none⟩=some (.int .i64 (f9.f.long:Int))) (Wd.alloc (.cells #[.int .i64 2] 3)):=(HB7.out.below (bl_alloc (Below.refl Wd.heap.size Wd) (.cells #[.int .i64 2] 3))).cell 2 _ rfl
      refine hK.out _ _ f8 (fun hH8=>?_)
      try go_simp
      clear hK KK
      have HM8:=Lh (HM7.out.below (bl_alloc (Below.refl Wd.heap.size Wd) (.cells #[.int .i64 2] 3)))
      have HV8:=Lh (HV7.out.bel (bl_alloc (Below.refl Wd.heap.size Wd) (.cells #[.int .i64 2] 3)))
      have HB8:=Lh (HB7.out.below (bl_alloc (Below.refl Wd.heap.size Wd) (.cells #[.int .i64 2] 3)))
      have HS8:Hid (Rd (Wd.alloc (.cells #[.int .i64 2] 3)) 1 (some ⟨Wd.heap.size,0,none⟩) 1 [.int .i64 2]):=Lh (Rd.built _ 1 1 [.int .i64 2] _ rfl)
      clear HM7 HV7 HB7 p4 f0
      generalize (Wd.alloc (.cells #[.int .i64 2] 3))=W8 at *
      have p48:W8.cell? ⟨g,4,none⟩=some (.slice x.P t.path.length x.pc):=HM8.out.cells.2.2.2.2.1
      refine rdy 5 rfl (fun KK hK=>?_)
      go_simp
      have f8b:(fun (W:World)=>W.cell? ⟨W1.heap.size,2,none⟩=some (.int .i64 (f9.f.long:Int))) W8:=HB8.out.cell 2 _ rfl
      refine hK.out _ _ f8b (fun hH5=>?_)
      try go_simp
      clear hK KK
      refine tk 8 (.slice x.P f9.f.long x.pc) rfl hH5 ?_
      try go_simp
      refine rdy 10 rfl (fun KK hK=>?_)
      refine append_moved_step (by rfl) _ _ 27 (by rfl) Mem.tInt w0 (.slice x.P f9.f.long x.pc) f9.f.long (zs (t.path.take f9.f.long)) (by rfl) (own_cut_int (HM8.out.own.mem 1 rfl) f9.f.long hlg) _ 1 1 [.int .i64 2] (by rfl) HS8.out (one_cons rfl one_nil) (by omega) (by omega) (by decide) ?_
      intro v9 W9 ho9 hm9
      obtain ⟨P9,c9,rfl,-⟩:=ho9.form
      have HB9:=Lh (hm9.blk HB8.out (fun e=>HPB.out _ e rfl))
      have f9_:(fun (W:World)=>W.cell? ⟨W1.heap.size,2,none⟩=some (.int .i64 (f9.f.long:Int))) W9:=HB9.out.cell 2 _ rfl
      have hoffP:(Value.slice x.P f9.f.long x.pc).ownBlock≠some g:=by rw[own_block _ _ _ t.path.length x.pc];exact HM8.out.off _ (List.mem_of_getElem? (i:=1) rfl)
      have k9:=hm9.blk HM8.out.blk hoffP
      have g4:W9.cell? ⟨g,4,none⟩=some (.slice x.P t.path.length x.pc):=k9.cell 4 _ rfl
      have z4:=k9.frozen 4
      have hzs:zs (t.path.take f9.f.long)++ [.int .i64 2]=zs (t.path.take f9.f.long++ [2]):=by unfold zs;rw[List.flatMap_append];rfl
      rw[hzs]at ho9
      have HMp:=Lh (HM8.out.path2_ (k:=f9.f.long) hlg ho9 (by simp;omega) hm9)
      have f10:(fun (W:World)=>W.cell? ⟨W1.heap.size,2,none⟩=some (.int .i64 (f9.f.long:Int))) (W9.setCell ⟨g,4,none⟩ (.slice P9 (f9.f.long+1) c9)):=(HB9.out.beside hgW 4 _).cell 2 _ rfl
      clear ho9 hm9 k9 hzs hoffP
      refine hK.out _ _ f9_ (fun hHa=>?_)
      try go_simp
      clear hK KK
      refine tk 11 (.pointer (some ⟨g,0,none⟩)) rfl hHa ?_
      try go_simp
      refine tk 12 (.pointer (some ⟨g,0,none⟩)) rfl hHa ?_
      try go_simp
      refine tk 13 (.pointer (some ⟨g,4,none⟩)) rfl hHa ?_
      try go_simp
      refine rdy 14 rfl (fun KK hK=>?_)
      go_simp
      refine hK.out _ _ f10 (fun _=>?_)
      clear hK KK
      refine wpAnyH_done (by kernel_rfl) ?_ _
      have HB10:=Lh (HB9.out.beside hgW 4 (.slice P9 (f9.f.long+1) c9))
      have l0:=HB10.out.cell 0 _ rfl
      have j2:(W9.setCell ⟨g,4,none⟩ (.slice P9 (f9.f.long+1) c9)).cell? ⟨g,2,none⟩=some (.int .i64 (t.pc:Int)):=HMp.out.1.cells.2.2.1
      have jf:=HMp.out.1.froz 2
      obtain ⟨m11,v11⟩:=HMp.out.1.pc_ f9.f.mid
      have HMz:=Lh m11
      have HVz:=Lh ((HV8.out.trans HMp.out.2).trans v11)
      clear f9_ g4 z4 f10 p48 m11 v11
      go_wp2
      go_end0
      rw[HE.out]
      exact ⟨rfl,_,HMz.out,HVz.out,HLF.out⟩
end Go.Proofs.YtgghaodcfgbjlaaGreat.Attempt
