/-
 WHAT THE LAYER attempt DOES, AS IT IS WRITTEN: may a try do a step? No conditions beyond those that each theorem states.
-/
import Derived.Test.YtgghaodcfgbjlaaGreatAttB
import Derived.Test.YtgghaodcfgbjlaaGreatWritesA
import Derived.Test.YtgghaodcfgbjlaaGreatAttA
import Derived.Test.YtgghaodcfgbjlaaGreatCodeB
set_option maxRecDepth 100000
namespace Go.Proofs.YtgghaodcfgbjlaaGreat.Attempt
open Go.ChangeShapes Go.WideShapes Go.ChangeAt Go.RowKit Mem Go.Proofs.YtgghaodcfgbjlaaGreat.Code
set_option maxHeartbeats 2000000 in
theorem either_c (w0 w:World) (g:Nat) (HA:Option Addr) (hn hc:Nat) (h:List Heap.Cell) (TA:Option Addr) (tn tc:Nat) (r:List Stripe.Rec) (t:Try) (x:TL) (s:Raw) (ka kb:Nat) (T:Try) (p:MPre w0 w g HA hn hc h TA tn tc r t x s) (hka:s.s.a=(ka:Int)) (hkb:s.s.b=(kb:Int)) (hk:ka≤24) (hk2:kb≤24) (hT:eitherT t s.s=T):
    Calls Tryz.prog 124 #[.pointer (some ⟨g,0,none⟩),.agg #[.int .i64 s.s.d,.int .i64 s.s.a,.int .i64 s.s.b,.slice s.T s.n s.c]] w (MRet w0 w g (tl HA hn hc TA tn tc) t x T):=by
  obtain ⟨w1,hw1⟩:∃w1,w1=w.alloc (.cells #[.int .i64 s.s.d,.int .i64 s.s.a,.int .i64 s.s.b,.slice s.T s.n s.c] 113):=⟨_,rfl⟩
  have HB:Hid (Below w.heap.size w w1):=Lh (by rw[hw1];exact bl_alloc (Below.refl _ _) _)
  have HK:Hid (Blk w1 w.heap.size 113 #[.int .i64 s.s.d,.int .i64 s.s.a,.int .i64 s.s.b,.slice s.T s.n s.c]):=Lh (by rw[hw1];exact Blk.new _ _ _)
  have HP:=Lh (p.below HB.out)
  have HF:Hid (x.fl.length≤1000000):=Lh (Nat.le_trans p.sm.fl (by decide))
  have hpc:t.pc≤1000:=p.sm.pc
  have hgw:g<w.heap.size:=p.m.blk.lt
  have HW:=Lh hw1
  obtain ⟨a,ha⟩:∃a,Writes.markS t.log=a:=⟨_,rfl⟩
  have HMK:=Lh ha
  obtain ⟨m9,hm9⟩:∃m9:Nat,m9=t.pc+1+ka:=⟨_,rfl⟩
  obtain ⟨e9,he9⟩:∃e9:Nat,e9=m9+kb:=⟨_,rfl⟩
  have q9:(t.pc:Int)+(ka:Int)+1=(m9:Int):=by omega
  have q10:(m9:Int)+(kb:Int)=(e9:Int):=by omega
  have hm99:m9≤1100:=by omega
  have q11:IntKind.i64.wrap (e9:Int)=(e9:Int):=by rw[IntKind.wrap_i64];omega
  obtain ⟨fr,hfr⟩:∃fr:Frame,fr=⟨m9,e9,t.path.length,t.regs⟩:=⟨_,rfl⟩
  have HFR:=Lh hfr
  have HE:Hid (T=goes ((((t.push fr).lg a.1)).ph (t.path++ [1])) 1):=Lh (by
    rw[←hT,hfr,he9,hm9];unfold eitherT;rw[ha,hka,hkb];rfl)
  have HLL:Hid (t.log.list.length≤1000000∧t.log.marks.length≤1000000):=Lh ⟨Nat.le_trans p.sm.list (by decide),Nat.le_trans p.sm.marks (by decide)⟩
  have hpl:t.path.length≤1000:=p.sm.path
  have hfl:x.fl.length≤1000:=p.sm.fl
  have HR8:Hid (t.regs.length≤1000000):=Lh (by rw[p.sm.regs];decide)
  have HOW:Hid (∀o∈x.os t,∀k,o.v.ownBlock=some k→k<w.heap.size):=Lh (os_lt p.m)
  have i1:w1.cell? ⟨w.heap.size,1,none⟩=some (.int .i64 (ka:Int)):=by rw[←hka];exact HK.out.cell 1 _ rfl
  have i2:w1.cell? ⟨g,2,none⟩=some (.int .i64 (t.pc:Int)):=HP.out.m.cells.2.2.1
  have HK2:Hid (∀W,Below w1.heap.size w1 W→W.cell? ⟨w.heap.size,2,none⟩=some (.int .i64 (kb:Int))):=Lh (fun W hW=>by rw[←hkb];exact (HK.out.below hW).cell 2 _ rfl)
  rw[hw1]at i1 i2
  clear p hT ha hka hkb hm9 he9 hfr
  go_enter Tryz.func124,Tryz.ntmps124
  go_wp2_with fail
  go_quiet (fail)
  rw[←hw1]
  clear i1 i2 q9
  go_wp2_with fail
  have BA:Hid (Below w1.heap.size w1 (w1.drewN nq).drew):=Lh (bl_drewN (Below.refl _ _) nq).drew
  have HMA:Hid (MAt w0 (w1.drewN nq).drew g 141 (tl HA hn hc TA tn tc) t x):=Lh (HP.out.below BA.out).m
  have f0:(fun (W:World)=>W.cell? ⟨w.heap.size,2,none⟩=some (.int .i64 (kb:Int))∧W.cell? ⟨g,4,none⟩=some (.slice x.P t.path.length x.pc)∧W.cell? ⟨g,3,none⟩=some (.slice x.R t.regs.length x.rc)) (w1.drewN nq).drew:=⟨HK2.out _ BA.out,HMA.out.cells.2.2.2.2.1,HMA.out.cells.2.2.2.1⟩
  refine wp_region_held_drew (S:=fun (W:World)=>W.cell? ⟨w.heap.size,2,none⟩=some (.int .i64 (kb:Int))∧W.cell? ⟨g,4,none⟩=some (.slice x.P t.path.length x.pc)∧W.cell? ⟨g,3,none⟩=some (.slice x.R t.regs.length x.rc)) (by kernel_rfl) f0 (fun hH0=>?_)
  clear f0
  generalize (w1.drewN nq).drew=Wa at *
  have HGA:Hid (g<Wa.heap.size):=Lh HMA.out.blk.lt
  have HWA:Hid (w.heap.size≤Wa.heap.size):=Lh (Nat.le_trans HB.out.size BA.out.size)
  refine tk 0 (.int .i64 (m9:Int)) rfl hH0 ?_
  try go_simp
  refine tk 1 (.int .i64 (m9:Int)) rfl hH0 ?_
  try go_simp
  refine tk 2 (.pointer (some ⟨w.heap.size,2,none⟩)) rfl hH0 ?_
  try go_simp
  refine tk 3 (.int .i64 (kb:Int)) rfl hH0 ?_ (hy:=Or.inl ⟨by rfl,fun W hS=>by obtain ⟨k0,k1,k2⟩:=hS;go_simp⟩)
  try go_simp
  refine tk 4 (.int .i64 (e9:Int)) rfl hH0 ?_
  try go_simp
  refine tk 5 (.pointer (some ⟨g,0,none⟩)) rfl hH0 ?_
  try go_simp
  refine tk 6 (.pointer (some ⟨g,0,none⟩)) rfl hH0 ?_
  try go_simp
  refine tk 7 (.pointer (some ⟨g,0,none⟩)) rfl hH0 ?_
  try go_simp
  refine tk 8 (.pointer (some ⟨g,4,none⟩)) rfl hH0 ?_
  try go_simp
  refine tk 9 (.slice x.P t.path.length x.pc) rfl hH0 ?_ (hy:=Or.inl ⟨by rfl,fun W hS=>by obtain ⟨k0,k1,k2⟩:=hS;go_simp⟩)
  try go_simp
  refine tk 10 (.int .i64 (t.path.length:Int)) rfl hH0 ?_
  try go_simp
  refine tk 11 (.pointer (some ⟨g,0,none⟩)) rfl hH0 ?_
  try go_simp
  refine tk 12 (.pointer (some ⟨g,0,none⟩)) rfl hH0 ?_
  try go_simp
  refine tk 13 (.pointer (some ⟨g,0,none⟩)) rfl hH0 ?_
  try go_simp
  refine tk 14 (.pointer (some ⟨g,3,none⟩)) rfl hH0 ?_
  try go_simp
  refine tk 15 (.slice x.R t.regs.length x.rc) rfl hH0 ?_ (hy:=Or.inl ⟨by rfl,fun W hS=>by obtain ⟨k0,k1,k2⟩:=hS;go_simp⟩)
  try go_simp
  refine wpAnyH_ready (rs:= [16,18]) (by kernel_rfl) (by simp) ?_
  refine AllReadyH.cons rfl (fun KK hK=>?_) (AllReadyH.cons rfl (fun KK hK=>?_) AllReadyH.nil)
  · refine calls_step2 (by rfl) 77 #[.slice x.R t.regs.length x.rc] _ (clonei_bd t.regs x.R _ _ Wa (HMA.out.below (Below.refl _ _)).rd.regs HR8.out) ?_ ?_
    · focus (go_simp;done)
    rintro e Wq ⟨Bq,dq,rfl,oq⟩
    refine ⟨_,rfl,?_⟩
    have f1:(fun (W:World)=>W.cell? ⟨w.heap.size,2,none⟩=some (.int .i64 (kb:Int))∧W.cell? ⟨g,4,none⟩=some (.slice x.P t.path.length x.pc)∧W.cell? ⟨g,3,none⟩=some (.slice x.R t.regs.length x.rc)) Wq:=⟨HK2.out _ (bl_trans BA.out oq.2),(HMA.out.below oq.2).cells.2.2.2.2.1,(HMA.out.below oq.2).cells.2.2.2.1⟩
    have HOQ:=Lh oq
    clear oq
    refine hK.out _ _ f1 (fun hH1=>?_)
    try go_simp
    clear hK KK
    refine tk 17 (.agg #[.int .i64 (m9:Int),.int .i64 (e9:Int),.int .i64 (t.path.length:Int),.slice Bq t.regs.length dq]) rfl hH1 ?_
    try go_simp
    refine rdy 18 rfl (fun KK hK=>?_)
    go_simp
    have f2:(fun (W:World)=>W.cell? ⟨w.heap.size,2,none⟩=some (.int .i64 (kb:Int))∧W.cell? ⟨g,4,none⟩=some (.slice x.P t.path.length x.pc)∧W.cell? ⟨g,3,none⟩=some (.slice x.R t.regs.length x.rc)) (Wq.alloc (.cells #[.int .i64 0,.int .i64 0,.int .i64 0,.slice none 0 0] 134)):=⟨HK2.out _ (bl_trans BA.out (bl_trans HOQ.out.2 (bl_alloc (Below.refl Wq.heap.size Wq) (.cells #[.int .i64 0,.int .i64 0,.int .i64 0,.slice none 0 0] 134)))),(HMA.out.below (bl_trans HOQ.out.2 (bl_alloc (Below.refl Wq.heap.size Wq) (.cells #[.int .i64 0,.int .i64 0,.int .i64 0,.slice none 0 0] 134)))).cells.2.2.2.2.1,(HMA.out.below (bl_trans HOQ.out.2 (bl_alloc (Below.refl Wq.heap.size Wq) (.cells #[.int .i64 0,.int .i64 0,.int .i64 0,.slice none 0 0] 134)))).cells.2.2.2.1⟩
    refine hK.out _ _ f2 (fun hH2=>?_)
    try go_simp
    clear hK KK
    refine rdy 19 rfl (fun KK hK=>?_)
    go_simp
    have f2b:(fun (W:World)=>W.cell? ⟨w.heap.size,2,none⟩=some (.int .i64 (kb:Int))∧W.cell? ⟨g,4,none⟩=some (.slice x.P t.path.length x.pc)∧W.cell? ⟨g,3,none⟩=some (.slice x.R t.regs.length x.rc)) (Wq.alloc (.cells #[.int .i64 (m9:Int),.int .i64 (e9:Int),.int .i64 (t.path.length:Int),.slice Bq t.regs.length dq] 134)):=⟨HK2.out _ (bl_trans BA.out (bl_trans HOQ.out.2 (bl_alloc (Below.refl Wq.heap.size Wq) (.cells #[.int .i64 (m9:Int),.int .i64 (e9:Int),.int .i64 (t.path.length:Int),.slice Bq t.regs.length dq] 134)))),(HMA.out.below (bl_trans HOQ.out.2 (bl_alloc (Below.refl Wq.heap.size Wq) (.cells #[.int .i64 (m9:Int),.int .i64 (e9:Int),.int .i64 (t.path.length:Int),.slice Bq t.regs.length dq] 134)))).cells.2.2.2.2.1,(HMA.out.below (bl_trans HOQ.out.2 (bl_alloc (Below.refl Wq.heap.size Wq) (.cells #[.int .i64 (m9:Int),.int .i64 (e9:Int),.int .i64 (t.path.length:Int),.slice Bq t.regs.length dq] 134)))).cells.2.2.2.1⟩
    refine hK.out _ _ f2b (fun _=>?_)
    clear hK KK
    refine wpAnyH_done (by kernel_rfl) ?_ _
    have HB2:Hid (Blk (Wq.alloc (.cells #[.int .i64 (m9:Int),.int .i64 (e9:Int),.int .i64 (t.path.length:Int),.slice Bq t.regs.length dq] 134)) Wq.heap.size 134 #[.int .i64 (m9:Int),.int .i64 (e9:Int),.int .i64 (t.path.length:Int),.slice Bq t.regs.length dq]):=Lh (Blk.new _ _ _)
    have HQ2:=Lh (HOQ.out.below (bl_alloc (Below.refl Wq.heap.size Wq) (.cells #[.int .i64 (m9:Int),.int .i64 (e9:Int),.int .i64 (t.path.length:Int),.slice Bq t.regs.length dq] 134)))
    have BW2:=Lh (bl_trans HOQ.out.2 (bl_alloc (Below.refl Wq.heap.size Wq) (.cells #[.int .i64 (m9:Int),.int .i64 (e9:Int),.int .i64 (t.path.length:Int),.slice Bq t.regs.length dq] 134)))
    have HBF:Hid (w.heap.size≤Wq.heap.size):=Lh (Nat.le_trans HWA.out HOQ.out.2.size)
    have HGF:Hid (g≠Wq.heap.size):=Lh (by have:=HGA.out;have:=HOQ.out.2.size;omega)
    clear f1 f2 f2b
    generalize (Wq.alloc (.cells #[.int .i64 (m9:Int),.int .i64 (e9:Int),.int .i64 (t.path.length:Int),.slice Bq t.regs.length dq] 134))=W2 at *
    replace HB2:=Lh (HB2.out.below (Below.refl W2.heap.size W2).drew)
    replace HQ2:=Lh (HQ2.out.below (Below.refl W2.heap.size W2).drew)
    replace BW2:=Lh (BW2.out).drew
    have f3:(fun (W:World)=>W.cell? ⟨Wq.heap.size,0,none⟩=some (.int .i64 (m9:Int))∧W.cell? ⟨Wq.heap.size,1,none⟩=some (.int .i64 (e9:Int))∧W.cell? ⟨Wq.heap.size,2,none⟩=some (.int .i64 (t.path.length:Int))∧W.cell? ⟨Wq.heap.size,3,none⟩=some (.slice Bq t.regs.length dq)) W2.drew:=⟨HB2.out.cell 0 _ rfl,HB2.out.cell 1 _ rfl,HB2.out.cell 2 _ rfl,HB2.out.cell 3 _ rfl⟩
    go_wp2_with fail
    refine wp_region_held_drew (S:=fun (W:World)=>W.cell? ⟨Wq.heap.size,0,none⟩=some (.int .i64 (m9:Int))∧W.cell? ⟨Wq.heap.size,1,none⟩=some (.int .i64 (e9:Int))∧W.cell? ⟨Wq.heap.size,2,none⟩=some (.int .i64 (t.path.length:Int))∧W.cell? ⟨Wq.heap.size,3,none⟩=some (.slice Bq t.regs.length dq)) (by kernel_rfl) f3 (fun hH3=>?_)
    generalize W2.drew=Wd at *
    have p8:Wd.cell? ⟨g,8,none⟩=some (.slice x.F x.fl.length x.fc):=(HMA.out.below BW2.out).cells.2.2.2.2.2.2.2.2.1
    refine tk 0 (.pointer (some ⟨g,0,none⟩)) rfl hH3 ?_
    try go_simp
    refine tk 1 (.pointer (some ⟨g,0,none⟩)) rfl hH3 ?_
    try go_simp
    refine tk 2 (.pointer (some ⟨g,0,none⟩)) rfl hH3 ?_
    try go_simp
    refine tk 3 (.pointer (some ⟨g,0,none⟩)) rfl hH3 ?_
    try go_simp
    refine tk 4 (.pointer (some ⟨g,8,none⟩)) rfl hH3 ?_
    try go_simp
    refine tk 6 (.agg #[.int .i64 (m9:Int),.int .i64 (e9:Int),.int .i64 (t.path.length:Int),.slice Bq t.regs.length dq]) rfl hH3 ?_ (hy:=Or.inl ⟨by rfl,fun W hS=>by obtain ⟨k0,k1,k2,k3⟩:=hS;go_simp⟩)
    try go_simp
    refine wpAnyH_ready (rs:= [5,7]) (by kernel_rfl) (by simp) ?_
    refine AllReadyH.cons rfl (fun KK hK=>?_) (AllReadyH.cons rfl (fun KK hK=>?_) AllReadyH.nil)
    · go_simp
      refine hK.out _ _ f3 (fun hH5=>?_)
      try go_simp
      clear hK KK
      refine rdy 7 rfl (fun KK hK=>?_)
      go_simp
      have f8:(fun (W:World)=>W.cell? ⟨Wq.heap.size,0,none⟩=some (.int .i64 (m9:Int))∧W.cell? ⟨Wq.heap.size,1,none⟩=some (.int .i64 (e9:Int))∧W.cell? ⟨Wq.heap.size,2,none⟩=some (.int .i64 (t.path.length:Int))∧W.cell? ⟨Wq.heap.size,3,none⟩=some (.slice Bq t.regs.length dq)) (Wd.alloc (.cells #[.int .i64 (m9:Int),.int .i64 (e9:Int),.int .i64 (t.path.length:Int),.slice Bq t.regs.length dq] 134)):=⟨(HB2.out.below (bl_alloc (Below.refl Wd.heap.size Wd) (.cells #[.int .i64 (m9:Int),.int .i64 (e9:Int),.int .i64 (t.path.length:Int),.slice Bq t.regs.length dq] 134))).cell 0 _ rfl,(HB2.out.below (bl_alloc (Below.refl Wd.heap.size Wd) (.cells #[.int .i64 (m9:Int),.int .i64 (e9:Int),.int .i64 (t.path.length:Int),.slice Bq t.regs.length dq] 134))).cell 1 _ rfl,(HB2.out.below (bl_alloc (Below.refl Wd.heap.size Wd) (.cells #[.int .i64 (m9:Int),.int .i64 (e9:Int),.int .i64 (t.path.length:Int),.slice Bq t.regs.length dq] 134))).cell 2 _ rfl,(HB2.out.below (bl_alloc (Below.refl Wd.heap.size Wd) (.cells #[.int .i64 (m9:Int),.int .i64 (e9:Int),.int .i64 (t.path.length:Int),.slice Bq t.regs.length dq] 134))).cell 3 _ rfl⟩
      refine hK.out _ _ f8 (fun hH8=>?_)
      try go_simp
      clear hK KK
      have HB8:=Lh (HB2.out.below (bl_alloc (Below.refl Wd.heap.size Wd) (.cells #[.int .i64 (m9:Int),.int .i64 (e9:Int),.int .i64 (t.path.length:Int),.slice Bq t.regs.length dq] 134)))
      have HQ8:=Lh (HQ2.out.below (bl_alloc (Below.refl Wd.heap.size Wd) (.cells #[.int .i64 (m9:Int),.int .i64 (e9:Int),.int .i64 (t.path.length:Int),.slice Bq t.regs.length dq] 134)))
      have BW8:=Lh (bl_trans BW2.out (bl_alloc (Below.refl Wd.heap.size Wd) (.cells #[.int .i64 (m9:Int),.int .i64 (e9:Int),.int .i64 (t.path.length:Int),.slice Bq t.regs.length dq] 134)))
      have HS8:Hid (Rd (Wd.alloc (.cells #[.int .i64 (m9:Int),.int .i64 (e9:Int),.int .i64 (t.path.length:Int),.slice Bq t.regs.length dq] 134)) 4 (some ⟨Wd.heap.size,0,none⟩) 1 (frc ⟨fr,Bq,dq⟩)):=Lh (by rw[HFR.out];exact Rd.built _ 4 1 (frc ⟨⟨m9,e9,t.path.length,t.regs⟩,Bq,dq⟩) _ rfl)
      clear HB2 HQ2 BW2 p8 f3
      generalize (Wd.alloc (.cells #[.int .i64 (m9:Int),.int .i64 (e9:Int),.int .i64 (t.path.length:Int),.slice Bq t.regs.length dq] 134))=W8 at *
      have p88:W8.cell? ⟨g,8,none⟩=some (.slice x.F x.fl.length x.fc):=(HMA.out.below BW8.out).cells.2.2.2.2.2.2.2.2.1
      refine rdy 8 rfl (fun KK hK=>?_)
      refine append_moved_step (by rfl) _ _ 32 (by rfl) tFrame w0 (.slice x.F x.fl.length x.fc) x.fl.length (frs x.fl) (by rfl) ((HMA.out.below BW8.out).own.mem 5 rfl) _ 1 1 (frc ⟨fr,Bq,dq⟩) (by rfl) HS8.out (frc_one _) (by omega) (by omega) (by decide) ?_
      intro v9 W9 ho9 hm9
      obtain ⟨F9,c9,rfl,-⟩:=ho9.form
      have hFne:(Value.slice x.F x.fl.length x.fc).ownBlock≠some (Wq.heap.size):=fun e=>by have:=HOW.out _ (List.mem_of_getElem? (i:=5) rfl) _ e;have:=HBF.out;omega
      have HB9:=Lh (hm9.blk HB8.out hFne)
      have f9_:(fun (W:World)=>W.cell? ⟨Wq.heap.size,0,none⟩=some (.int .i64 (m9:Int))∧W.cell? ⟨Wq.heap.size,1,none⟩=some (.int .i64 (e9:Int))∧W.cell? ⟨Wq.heap.size,2,none⟩=some (.int .i64 (t.path.length:Int))∧W.cell? ⟨Wq.heap.size,3,none⟩=some (.slice Bq t.regs.length dq)) W9:=⟨HB9.out.cell 0 _ rfl,HB9.out.cell 1 _ rfl,HB9.out.cell 2 _ rfl,HB9.out.cell 3 _ rfl⟩
      have k9:=hm9.blk (HMA.out.below BW8.out).blk (HMA.out.off _ (List.mem_of_getElem? (i:=5) rfl))
      have g8:W9.cell? ⟨g,8,none⟩=some (.slice x.F x.fl.length x.fc):=k9.cell 8 _ rfl
      have z8:=k9.frozen 8
      have hfs:frs x.fl++frc ⟨fr,Bq,dq⟩=frs (x.fl++ [(⟨fr,Bq,dq⟩:FRaw)]):=by rw[frs_app];unfold frs;simp
      rw[hfs]at ho9
      have HPU:=Lh (HMA.out.push_ (r:=⟨fr,Bq,dq⟩) (by have:=HQ8.out;rw[HFR.out];exact this) rfl ho9 hm9)
      have f10:(fun (W:World)=>W.cell? ⟨Wq.heap.size,0,none⟩=some (.int .i64 (m9:Int))∧W.cell? ⟨Wq.heap.size,1,none⟩=some (.int .i64 (e9:Int))∧W.cell? ⟨Wq.heap.size,2,none⟩=some (.int .i64 (t.path.length:Int))∧W.cell? ⟨Wq.heap.size,3,none⟩=some (.slice Bq t.regs.length dq)) (W9.setCell ⟨g,8,none⟩ (.slice F9 (x.fl.length+1) c9)):=⟨(HB9.out.beside HGF.out 8 _).cell 0 _ rfl,(HB9.out.beside HGF.out 8 _).cell 1 _ rfl,(HB9.out.beside HGF.out 8 _).cell 2 _ rfl,(HB9.out.beside HGF.out 8 _).cell 3 _ rfl⟩
      clear ho9 hm9 k9 hfs hFne
      refine hK.out _ _ f9_ (fun hHa=>?_)
      try go_simp
      clear hK KK
      refine tk 9 (.pointer (some ⟨g,0,none⟩)) rfl hHa ?_
      try go_simp
      refine tk 10 (.pointer (some ⟨g,0,none⟩)) rfl hHa ?_
      try go_simp
      refine tk 11 (.pointer (some ⟨g,8,none⟩)) rfl hHa ?_
      try go_simp
      refine rdy 12 rfl (fun KK hK=>?_)
      go_simp
      refine hK.out _ _ f10 (fun _=>?_)
      clear hK KK
      refine wpAnyH_done (by kernel_rfl) ?_ _
      clear f9_ g8 z8 f10 HB9 p88
      generalize W9.setCell ⟨g,8,none⟩ (.slice F9 (x.fl.length+1) c9)=Wf at *
      have g6:Wf.cell? ⟨g,6,none⟩=some (.slice x.L t.log.list.length x.lc):=HPU.out.1.cells.2.2.2.2.2.2.1
      have g7:Wf.cell? ⟨g,7,none⟩=some (.slice x.M t.log.marks.length x.mc):=HPU.out.1.cells.2.2.2.2.2.2.2.1
      go_wp2_with (first
        | (go_at_call 167
           refine (Writes.mark_p t.log x.L x.M _ _ _ _ Wf a _ _ HPU.out.1.log HLL.out.1 HLL.out.2 HMK.out rfl rfl).mono ?_
           rintro e W3 ⟨A,c,B,d,rfl,hp⟩
           have M4:=HPU.out.1.below hp.ol.2
           have j6:W3.cell? ⟨g,6,none⟩=some (.slice x.L t.log.list.length x.lc):=M4.cells.2.2.2.2.2.2.1
           have j7:=(M4.blk.set_ 6 (.slice A a.1.list.length c)).cell 7 (.slice x.M t.log.marks.length x.mc) (by rw[List.setIfInBounds_toArray];rfl)
           have j8:=M4.froz 6
           have j9:=(M4.blk.set_ 6 (.slice A a.1.list.length c)).frozen 7
           have HMv:=Lh (HPU.out.1.log_ hp rfl rfl)
           have HV7:=Lh (((((Mv.refl w g (x.os t)).bel (bl_trans HB.out BA.out)).trans HPU.out.2).trans HMv.out.2).bel (bl_alloc (Below.refl ((W3.setCell ⟨g,6,none⟩ (.slice A a.1.list.length c)).setCell ⟨g,7,none⟩ (.slice B a.1.marks.length d)).heap.size ((W3.setCell ⟨g,6,none⟩ (.slice A a.1.list.length c)).setCell ⟨g,7,none⟩ (.slice B a.1.marks.length d))) (.cells #[.int .i64 1] 3)))
           have HM7:=Lh (HMv.out.1.below (bl_alloc (Below.refl ((W3.setCell ⟨g,6,none⟩ (.slice A a.1.list.length c)).setCell ⟨g,7,none⟩ (.slice B a.1.marks.length d)).heap.size ((W3.setCell ⟨g,6,none⟩ (.slice A a.1.list.length c)).setCell ⟨g,7,none⟩ (.slice B a.1.marks.length d))) (.cells #[.int .i64 1] 3)))
           have HS7:Hid (Rd (((W3.setCell ⟨g,6,none⟩ (.slice A a.1.list.length c)).setCell ⟨g,7,none⟩ (.slice B a.1.marks.length d)).alloc (.cells #[.int .i64 1] 3)) 1 (some ⟨W3.heap.size,0,none⟩) 1 [.int .i64 1]):=Lh (Rd.builtAt _ 1 1 [.int .i64 1] _ rfl (by simp[World.setCell]))
           have p4:((W3.setCell ⟨g,6,none⟩ (.slice A a.1.list.length c)).setCell ⟨g,7,none⟩ (.slice B a.1.marks.length d)).cell? ⟨g,4,none⟩=some (.slice x.P t.path.length x.pc):=HMv.out.1.cells.2.2.2.2.1
           clear hp M4)
        | (at_builtin
           go_loud (refine append_moved rfl _ _ 27 rfl Mem.tInt w0 (.slice x.P t.path.length x.pc) t.path.length (zs t.path) rfl (HM7.out.own.mem 1 rfl) _ 1 1 [.int .i64 1] rfl HS7.out (one_cons rfl one_nil) (by omega) (by omega) (by decide) ?_)
           intro v10 W10 ho hm
           obtain ⟨P9,c9,rfl,-⟩:=ho.form
           have k10:=hm.blk HM7.out.blk (HM7.out.off _ (List.mem_of_getElem? (i:=1) rfl))
           have g4:W10.cell? ⟨g,4,none⟩=some (.slice x.P t.path.length x.pc):=k10.cell 4 _ rfl
           have z4:=k10.frozen 4
           have hzs:zs t.path++ [.int .i64 1]=zs (t.path++ [1]):=by unfold zs;rw[List.flatMap_append];rfl
           rw[hzs]at ho
           have HMp:=Lh (HM7.out.path_ rfl ho (by simp) hm)
           have j2:(W10.setCell ⟨g,4,none⟩ (.slice P9 (t.path.length+1) c9)).cell? ⟨g,2,none⟩=some (.int .i64 (t.pc:Int)):=HMp.out.1.cells.2.2.1
           have jf:=HMp.out.1.froz 2
           clear ho hm k10 hzs))
      obtain ⟨m11,v11⟩:=HMp.out.1.goes_ 1 ((t.pc:Int)+1) rfl
      have HMz:=Lh m11
      have HVz:=Lh ((HV7.out.trans HMp.out.2).trans v11)
      clear m11 v11
      go_end0
      rw[HE.out]
      exact ⟨rfl,_,HMz.out,HVz.out,by show (x.fl++ [_]).length≤1000000;rw[List.length_append];exact Nat.add_le_add (Nat.le_trans hfl (by decide:1000≤999999)) (Nat.le_refl 1)⟩
    · go_simp
      have f8:(fun (W:World)=>W.cell? ⟨Wq.heap.size,0,none⟩=some (.int .i64 (m9:Int))∧W.cell? ⟨Wq.heap.size,1,none⟩=some (.int .i64 (e9:Int))∧W.cell? ⟨Wq.heap.size,2,none⟩=some (.int .i64 (t.path.length:Int))∧W.cell? ⟨Wq.heap.size,3,none⟩=some (.slice Bq t.regs.length dq)) (Wd.alloc (.cells #[.int .i64 (m9:Int),.int .i64 (e9:Int),.int .i64 (t.path.length:Int),.slice Bq t.regs.length dq] 134)):=⟨(HB2.out.below (bl_alloc (Below.refl Wd.heap.size Wd) (.cells #[.int .i64 (m9:Int),.int .i64 (e9:Int),.int .i64 (t.path.length:Int),.slice Bq t.regs.length dq] 134))).cell 0 _ rfl,(HB2.out.below (bl_alloc (Below.refl Wd.heap.size Wd) (.cells #[.int .i64 (m9:Int),.int .i64 (e9:Int),.int .i64 (t.path.length:Int),.slice Bq t.regs.length dq] 134))).cell 1 _ rfl,(HB2.out.below (bl_alloc (Below.refl Wd.heap.size Wd) (.cells #[.int .i64 (m9:Int),.int .i64 (e9:Int),.int .i64 (t.path.length:Int),.slice Bq t.regs.length dq] 134))).cell 2 _ rfl,(HB2.out.below (bl_alloc (Below.refl Wd.heap.size Wd) (.cells #[.int .i64 (m9:Int),.int .i64 (e9:Int),.int .i64 (t.path.length:Int),.slice Bq t.regs.length dq] 134))).cell 3 _ rfl⟩
      refine hK.out _ _ f8 (fun hH8=>?_)
      try go_simp
      clear hK KK
      have HB8:=Lh (HB2.out.below (bl_alloc (Below.refl Wd.heap.size Wd) (.cells #[.int .i64 (m9:Int),.int .i64 (e9:Int),.int .i64 (t.path.length:Int),.slice Bq t.regs.length dq] 134)))
      have HQ8:=Lh (HQ2.out.below (bl_alloc (Below.refl Wd.heap.size Wd) (.cells #[.int .i64 (m9:Int),.int .i64 (e9:Int),.int .i64 (t.path.length:Int),.slice Bq t.regs.length dq] 134)))
      have BW8:=Lh (bl_trans BW2.out (bl_alloc (Below.refl Wd.heap.size Wd) (.cells #[.int .i64 (m9:Int),.int .i64 (e9:Int),.int .i64 (t.path.length:Int),.slice Bq t.regs.length dq] 134)))
      have HS8:Hid (Rd (Wd.alloc (.cells #[.int .i64 (m9:Int),.int .i64 (e9:Int),.int .i64 (t.path.length:Int),.slice Bq t.regs.length dq] 134)) 4 (some ⟨Wd.heap.size,0,none⟩) 1 (frc ⟨fr,Bq,dq⟩)):=Lh (by rw[HFR.out];exact Rd.built _ 4 1 (frc ⟨⟨m9,e9,t.path.length,t.regs⟩,Bq,dq⟩) _ rfl)
      clear HB2 HQ2 BW2 p8 f3
      generalize (Wd.alloc (.cells #[.int .i64 (m9:Int),.int .i64 (e9:Int),.int .i64 (t.path.length:Int),.slice Bq t.regs.length dq] 134))=W8 at *
      have p88:W8.cell? ⟨g,8,none⟩=some (.slice x.F x.fl.length x.fc):=(HMA.out.below BW8.out).cells.2.2.2.2.2.2.2.2.1
      refine rdy 5 rfl (fun KK hK=>?_)
      go_simp
      have f8b:(fun (W:World)=>W.cell? ⟨Wq.heap.size,0,none⟩=some (.int .i64 (m9:Int))∧W.cell? ⟨Wq.heap.size,1,none⟩=some (.int .i64 (e9:Int))∧W.cell? ⟨Wq.heap.size,2,none⟩=some (.int .i64 (t.path.length:Int))∧W.cell? ⟨Wq.heap.size,3,none⟩=some (.slice Bq t.regs.length dq)) W8:=⟨HB8.out.cell 0 _ rfl,HB8.out.cell 1 _ rfl,HB8.out.cell 2 _ rfl,HB8.out.cell 3 _ rfl⟩
      refine hK.out _ _ f8b (fun hH5=>?_)
      try go_simp
      clear hK KK
      refine rdy 8 rfl (fun KK hK=>?_)
      refine append_moved_step (by rfl) _ _ 32 (by rfl) tFrame w0 (.slice x.F x.fl.length x.fc) x.fl.length (frs x.fl) (by rfl) ((HMA.out.below BW8.out).own.mem 5 rfl) _ 1 1 (frc ⟨fr,Bq,dq⟩) (by rfl) HS8.out (frc_one _) (by omega) (by omega) (by decide) ?_
      intro v9 W9 ho9 hm9
      obtain ⟨F9,c9,rfl,-⟩:=ho9.form
      have hFne:(Value.slice x.F x.fl.length x.fc).ownBlock≠some (Wq.heap.size):=fun e=>by have:=HOW.out _ (List.mem_of_getElem? (i:=5) rfl) _ e;have:=HBF.out;omega
      have HB9:=Lh (hm9.blk HB8.out hFne)
      have f9_:(fun (W:World)=>W.cell? ⟨Wq.heap.size,0,none⟩=some (.int .i64 (m9:Int))∧W.cell? ⟨Wq.heap.size,1,none⟩=some (.int .i64 (e9:Int))∧W.cell? ⟨Wq.heap.size,2,none⟩=some (.int .i64 (t.path.length:Int))∧W.cell? ⟨Wq.heap.size,3,none⟩=some (.slice Bq t.regs.length dq)) W9:=⟨HB9.out.cell 0 _ rfl,HB9.out.cell 1 _ rfl,HB9.out.cell 2 _ rfl,HB9.out.cell 3 _ rfl⟩
      have k9:=hm9.blk (HMA.out.below BW8.out).blk (HMA.out.off _ (List.mem_of_getElem? (i:=5) rfl))
      have g8:W9.cell? ⟨g,8,none⟩=some (.slice x.F x.fl.length x.fc):=k9.cell 8 _ rfl
      have z8:=k9.frozen 8
      have hfs:frs x.fl++frc ⟨fr,Bq,dq⟩=frs (x.fl++ [(⟨fr,Bq,dq⟩:FRaw)]):=by rw[frs_app];unfold frs;simp
      rw[hfs]at ho9
      have HPU:=Lh (HMA.out.push_ (r:=⟨fr,Bq,dq⟩) (by have:=HQ8.out;rw[HFR.out];exact this) rfl ho9 hm9)
      have f10:(fun (W:World)=>W.cell? ⟨Wq.heap.size,0,none⟩=some (.int .i64 (m9:Int))∧W.cell? ⟨Wq.heap.size,1,none⟩=some (.int .i64 (e9:Int))∧W.cell? ⟨Wq.heap.size,2,none⟩=some (.int .i64 (t.path.length:Int))∧W.cell? ⟨Wq.heap.size,3,none⟩=some (.slice Bq t.regs.length dq)) (W9.setCell ⟨g,8,none⟩ (.slice F9 (x.fl.length+1) c9)):=⟨(HB9.out.beside HGF.out 8 _).cell 0 _ rfl,(HB9.out.beside HGF.out 8 _).cell 1 _ rfl,(HB9.out.beside HGF.out 8 _).cell 2 _ rfl,(HB9.out.beside HGF.out 8 _).cell 3 _ rfl⟩
      clear ho9 hm9 k9 hfs hFne
      refine hK.out _ _ f9_ (fun hHa=>?_)
      try go_simp
      clear hK KK
      refine tk 9 (.pointer (some ⟨g,0,none⟩)) rfl hHa ?_
      try go_simp
      refine tk 10 (.pointer (some ⟨g,0,none⟩)) rfl hHa ?_
      try go_simp
      refine tk 11 (.pointer (some ⟨g,8,none⟩)) rfl hHa ?_
      try go_simp
      refine rdy 12 rfl (fun KK hK=>?_)
      go_simp
      refine hK.out _ _ f10 (fun _=>?_)
      clear hK KK
      refine wpAnyH_done (by kernel_rfl) ?_ _
      clear f9_ g8 z8 f10 HB9 p88
      generalize W9.setCell ⟨g,8,none⟩ (.slice F9 (x.fl.length+1) c9)=Wf at *
      have g6:Wf.cell? ⟨g,6,none⟩=some (.slice x.L t.log.list.length x.lc):=HPU.out.1.cells.2.2.2.2.2.2.1
      have g7:Wf.cell? ⟨g,7,none⟩=some (.slice x.M t.log.marks.length x.mc):=HPU.out.1.cells.2.2.2.2.2.2.2.1
      go_wp2_with (first
        | (go_at_call 167
           refine (Writes.mark_p t.log x.L x.M _ _ _ _ Wf a _ _ HPU.out.1.log HLL.out.1 HLL.out.2 HMK.out rfl rfl).mono ?_
           rintro e W3 ⟨A,c,B,d,rfl,hp⟩
           have M4:=HPU.out.1.below hp.ol.2
           have j6:W3.cell? ⟨g,6,none⟩=some (.slice x.L t.log.list.length x.lc):=M4.cells.2.2.2.2.2.2.1
           have j7:=(M4.blk.set_ 6 (.slice A a.1.list.length c)).cell 7 (.slice x.M t.log.marks.length x.mc) (by rw[List.setIfInBounds_toArray];rfl)
           have j8:=M4.froz 6
           have j9:=(M4.blk.set_ 6 (.slice A a.1.list.length c)).frozen 7
           have HMv:=Lh (HPU.out.1.log_ hp rfl rfl)
           have HV7:=Lh (((((Mv.refl w g (x.os t)).bel (bl_trans HB.out BA.out)).trans HPU.out.2).trans HMv.out.2).bel (bl_alloc (Below.refl ((W3.setCell ⟨g,6,none⟩ (.slice A a.1.list.length c)).setCell ⟨g,7,none⟩ (.slice B a.1.marks.length d)).heap.size ((W3.setCell ⟨g,6,none⟩ (.slice A a.1.list.length c)).setCell ⟨g,7,none⟩ (.slice B a.1.marks.length d))) (.cells #[.int .i64 1] 3)))
           have HM7:=Lh (HMv.out.1.below (bl_alloc (Below.refl ((W3.setCell ⟨g,6,none⟩ (.slice A a.1.list.length c)).setCell ⟨g,7,none⟩ (.slice B a.1.marks.length d)).heap.size ((W3.setCell ⟨g,6,none⟩ (.slice A a.1.list.length c)).setCell ⟨g,7,none⟩ (.slice B a.1.marks.length d))) (.cells #[.int .i64 1] 3)))
           have HS7:Hid (Rd (((W3.setCell ⟨g,6,none⟩ (.slice A a.1.list.length c)).setCell ⟨g,7,none⟩ (.slice B a.1.marks.length d)).alloc (.cells #[.int .i64 1] 3)) 1 (some ⟨W3.heap.size,0,none⟩) 1 [.int .i64 1]):=Lh (Rd.builtAt _ 1 1 [.int .i64 1] _ rfl (by simp[World.setCell]))
           have p4:((W3.setCell ⟨g,6,none⟩ (.slice A a.1.list.length c)).setCell ⟨g,7,none⟩ (.slice B a.1.marks.length d)).cell? ⟨g,4,none⟩=some (.slice x.P t.path.length x.pc):=HMv.out.1.cells.2.2.2.2.1
           clear hp M4)
        | (at_builtin
           go_loud (refine append_moved rfl _ _ 27 rfl Mem.tInt w0 (.slice x.P t.path.length x.pc) t.path.length (zs t.path) rfl (HM7.out.own.mem 1 rfl) _ 1 1 [.int .i64 1] rfl HS7.out (one_cons rfl one_nil) (by omega) (by omega) (by decide) ?_)
           intro v10 W10 ho hm
           obtain ⟨P9,c9,rfl,-⟩:=ho.form
           have k10:=hm.blk HM7.out.blk (HM7.out.off _ (List.mem_of_getElem? (i:=1) rfl))
           have g4:W10.cell? ⟨g,4,none⟩=some (.slice x.P t.path.length x.pc):=k10.cell 4 _ rfl
           have z4:=k10.frozen 4
           have hzs:zs t.path++ [.int .i64 1]=zs (t.path++ [1]):=by unfold zs;rw[List.flatMap_append];rfl
           rw[hzs]at ho
           have HMp:=Lh (HM7.out.path_ rfl ho (by simp) hm)
           have j2:(W10.setCell ⟨g,4,none⟩ (.slice P9 (t.path.length+1) c9)).cell? ⟨g,2,none⟩=some (.int .i64 (t.pc:Int)):=HMp.out.1.cells.2.2.1
           have jf:=HMp.out.1.froz 2
           clear ho hm k10 hzs))
      obtain ⟨m11,v11⟩:=HMp.out.1.goes_ 1 ((t.pc:Int)+1) rfl
      have HMz:=Lh m11
      have HVz:=Lh ((HV7.out.trans HMp.out.2).trans v11)
      clear m11 v11
      go_end0
      rw[HE.out]
      exact ⟨rfl,_,HMz.out,HVz.out,by show (x.fl++ [_]).length≤1000000;rw[List.length_append];exact Nat.add_le_add (Nat.le_trans hfl (by decide:1000≤999999)) (Nat.le_refl 1)⟩
  · go_simp
    have f1:(fun (W:World)=>W.cell? ⟨w.heap.size,2,none⟩=some (.int .i64 (kb:Int))∧W.cell? ⟨g,4,none⟩=some (.slice x.P t.path.length x.pc)∧W.cell? ⟨g,3,none⟩=some (.slice x.R t.regs.length x.rc)) (Wa.alloc (.cells #[.int .i64 0,.int .i64 0,.int .i64 0,.slice none 0 0] 134)):=⟨HK2.out _ (bl_trans BA.out (bl_alloc (Below.refl Wa.heap.size Wa) (.cells #[.int .i64 0,.int .i64 0,.int .i64 0,.slice none 0 0] 134))),(HMA.out.below (bl_alloc (Below.refl Wa.heap.size Wa) (.cells #[.int .i64 0,.int .i64 0,.int .i64 0,.slice none 0 0] 134))).cells.2.2.2.2.1,(HMA.out.below (bl_alloc (Below.refl Wa.heap.size Wa) (.cells #[.int .i64 0,.int .i64 0,.int .i64 0,.slice none 0 0] 134))).cells.2.2.2.1⟩
    refine hK.out _ _ f1 (fun hH1=>?_)
    try go_simp
    clear hK KK
    have HZ:Hid (Blk (Wa.alloc (.cells #[.int .i64 0,.int .i64 0,.int .i64 0,.slice none 0 0] 134)) Wa.heap.size 134 #[.int .i64 0,.int .i64 0,.int .i64 0,.slice none 0 0]):=Lh (Blk.new _ _ _)
    have BZ:=Lh (bl_alloc (Below.refl Wa.heap.size Wa) (.cells #[.int .i64 0,.int .i64 0,.int .i64 0,.slice none 0 0] 134))
    clear f1
    generalize (Wa.alloc (.cells #[.int .i64 0,.int .i64 0,.int .i64 0,.slice none 0 0] 134))=Wz at *
    refine rdy 16 rfl (fun KK hK=>?_)
    refine calls_step2 (by rfl) 77 #[.slice x.R t.regs.length x.rc] _ (clonei_bd t.regs x.R _ _ Wz (HMA.out.below BZ.out).rd.regs HR8.out) ?_ ?_
    · focus (go_simp;done)
    rintro e Wq ⟨Bq,dq,rfl,oq⟩
    refine ⟨_,rfl,?_⟩
    have f2:(fun (W:World)=>W.cell? ⟨w.heap.size,2,none⟩=some (.int .i64 (kb:Int))∧W.cell? ⟨g,4,none⟩=some (.slice x.P t.path.length x.pc)∧W.cell? ⟨g,3,none⟩=some (.slice x.R t.regs.length x.rc)) Wq:=⟨HK2.out _ (bl_trans BA.out (bl_trans BZ.out oq.2)),(HMA.out.below (bl_trans BZ.out oq.2)).cells.2.2.2.2.1,(HMA.out.below (bl_trans BZ.out oq.2)).cells.2.2.2.1⟩
    have HZq:=Lh (HZ.out.below oq.2)
    have HOQ:=Lh (oq.wide BZ.out)
    have HNE:=Lh (oq.ne_old HZ.out.lt)
    clear oq
    refine hK.out _ _ f2 (fun hH2=>?_)
    try go_simp
    clear hK KK
    refine tk 17 (.agg #[.int .i64 (m9:Int),.int .i64 (e9:Int),.int .i64 (t.path.length:Int),.slice Bq t.regs.length dq]) rfl hH2 ?_
    try go_simp
    have y0:=HZq.out.cell 0 (.int .i64 0) rfl
    have yf0:=HZq.out.frozen 0
    have y1:=(HZq.out.set_ 0 (.int .i64 (m9:Int))).cell 1 (.int .i64 0) rfl
    have yf1:=(HZq.out.set_ 0 (.int .i64 (m9:Int))).frozen 1
    have y2:=((HZq.out.set_ 0 (.int .i64 (m9:Int))).set_ 1 (.int .i64 (e9:Int))).cell 2 (.int .i64 0) rfl
    have yf2:=((HZq.out.set_ 0 (.int .i64 (m9:Int))).set_ 1 (.int .i64 (e9:Int))).frozen 2
    have y3:=(((HZq.out.set_ 0 (.int .i64 (m9:Int))).set_ 1 (.int .i64 (e9:Int))).set_ 2 (.int .i64 (t.path.length:Int))).cell 3 (.slice none 0 0) rfl
    have yf3:=(((HZq.out.set_ 0 (.int .i64 (m9:Int))).set_ 1 (.int .i64 (e9:Int))).set_ 2 (.int .i64 (t.path.length:Int))).frozen 3
    have HB2:Hid (Blk ((((Wq.setCell ⟨Wa.heap.size,0,none⟩ (.int .i64 (m9:Int))).setCell ⟨Wa.heap.size,1,none⟩ (.int .i64 (e9:Int))).setCell ⟨Wa.heap.size,2,none⟩ (.int .i64 (t.path.length:Int))).setCell ⟨Wa.heap.size,3,none⟩ (.slice Bq t.regs.length dq)) Wa.heap.size 134 #[.int .i64 (m9:Int),.int .i64 (e9:Int),.int .i64 (t.path.length:Int),.slice Bq t.regs.length dq]):=Lh ((((HZq.out.set_ 0 (.int .i64 (m9:Int))).set_ 1 (.int .i64 (e9:Int))).set_ 2 (.int .i64 (t.path.length:Int))).set_ 3 (.slice Bq t.regs.length dq))
    have HQ2:=Lh ((((HOQ.out.set_ne (Nat.le_refl _) HNE.out 0 (.int .i64 (m9:Int))).set_ne (Nat.le_refl _) HNE.out 1 (.int .i64 (e9:Int))).set_ne (Nat.le_refl _) HNE.out 2 (.int .i64 (t.path.length:Int))).set_ne (Nat.le_refl _) HNE.out 3 (.slice Bq t.regs.length dq))
    have BW2:=Lh (bl_set (bl_set (bl_set (bl_set HOQ.out.2 (p:=⟨Wa.heap.size,0,none⟩) (Nat.le_refl _) (.int .i64 (m9:Int))) (p:=⟨Wa.heap.size,1,none⟩) (Nat.le_refl _) (.int .i64 (e9:Int))) (p:=⟨Wa.heap.size,2,none⟩) (Nat.le_refl _) (.int .i64 (t.path.length:Int))) (p:=⟨Wa.heap.size,3,none⟩) (Nat.le_refl _) (.slice Bq t.regs.length dq))
    have f3:(fun (W:World)=>W.cell? ⟨w.heap.size,2,none⟩=some (.int .i64 (kb:Int))∧W.cell? ⟨g,4,none⟩=some (.slice x.P t.path.length x.pc)∧W.cell? ⟨g,3,none⟩=some (.slice x.R t.regs.length x.rc)) ((((Wq.setCell ⟨Wa.heap.size,0,none⟩ (.int .i64 (m9:Int))).setCell ⟨Wa.heap.size,1,none⟩ (.int .i64 (e9:Int))).setCell ⟨Wa.heap.size,2,none⟩ (.int .i64 (t.path.length:Int))).setCell ⟨Wa.heap.size,3,none⟩ (.slice Bq t.regs.length dq)):=⟨HK2.out _ (bl_trans BA.out BW2.out),(HMA.out.below BW2.out).cells.2.2.2.2.1,(HMA.out.below BW2.out).cells.2.2.2.1⟩
    refine rdy 19 rfl (fun KK hK=>?_)
    go_simp
    refine hK.out _ _ f3 (fun _=>?_)
    clear hK KK
    refine wpAnyH_done (by kernel_rfl) ?_ _
    clear f2 f3 y0 yf0 y1 yf1 y2 yf2 y3 yf3
    have HBF:=HWA
    have HGF:Hid (g≠Wa.heap.size):=Lh (by have:=HGA.out;omega)
    generalize ((((Wq.setCell ⟨Wa.heap.size,0,none⟩ (.int .i64 (m9:Int))).setCell ⟨Wa.heap.size,1,none⟩ (.int .i64 (e9:Int))).setCell ⟨Wa.heap.size,2,none⟩ (.int .i64 (t.path.length:Int))).setCell ⟨Wa.heap.size,3,none⟩ (.slice Bq t.regs.length dq))=W2 at *
    replace HB2:=Lh (HB2.out.below (Below.refl W2.heap.size W2).drew)
    replace HQ2:=Lh (HQ2.out.below (Below.refl W2.heap.size W2).drew)
    replace BW2:=Lh (BW2.out).drew
    have f3:(fun (W:World)=>W.cell? ⟨Wa.heap.size,0,none⟩=some (.int .i64 (m9:Int))∧W.cell? ⟨Wa.heap.size,1,none⟩=some (.int .i64 (e9:Int))∧W.cell? ⟨Wa.heap.size,2,none⟩=some (.int .i64 (t.path.length:Int))∧W.cell? ⟨Wa.heap.size,3,none⟩=some (.slice Bq t.regs.length dq)) W2.drew:=⟨HB2.out.cell 0 _ rfl,HB2.out.cell 1 _ rfl,HB2.out.cell 2 _ rfl,HB2.out.cell 3 _ rfl⟩
    go_wp2_with fail
    refine wp_region_held_drew (S:=fun (W:World)=>W.cell? ⟨Wa.heap.size,0,none⟩=some (.int .i64 (m9:Int))∧W.cell? ⟨Wa.heap.size,1,none⟩=some (.int .i64 (e9:Int))∧W.cell? ⟨Wa.heap.size,2,none⟩=some (.int .i64 (t.path.length:Int))∧W.cell? ⟨Wa.heap.size,3,none⟩=some (.slice Bq t.regs.length dq)) (by kernel_rfl) f3 (fun hH3=>?_)
    generalize W2.drew=Wd at *
    have p8:Wd.cell? ⟨g,8,none⟩=some (.slice x.F x.fl.length x.fc):=(HMA.out.below BW2.out).cells.2.2.2.2.2.2.2.2.1
    refine tk 0 (.pointer (some ⟨g,0,none⟩)) rfl hH3 ?_
    try go_simp
    refine tk 1 (.pointer (some ⟨g,0,none⟩)) rfl hH3 ?_
    try go_simp
    refine tk 2 (.pointer (some ⟨g,0,none⟩)) rfl hH3 ?_
    try go_simp
    refine tk 3 (.pointer (some ⟨g,0,none⟩)) rfl hH3 ?_
    try go_simp
    refine tk 4 (.pointer (some ⟨g,8,none⟩)) rfl hH3 ?_
    try go_simp
    refine tk 6 (.agg #[.int .i64 (m9:Int),.int .i64 (e9:Int),.int .i64 (t.path.length:Int),.slice Bq t.regs.length dq]) rfl hH3 ?_ (hy:=Or.inl ⟨by rfl,fun W hS=>by obtain ⟨k0,k1,k2,k3⟩:=hS;go_simp⟩)
    try go_simp
    refine wpAnyH_ready (rs:= [5,7]) (by kernel_rfl) (by simp) ?_
    refine AllReadyH.cons rfl (fun KK hK=>?_) (AllReadyH.cons rfl (fun KK hK=>?_) AllReadyH.nil)
    · go_simp
      refine hK.out _ _ f3 (fun hH5=>?_)
      try go_simp
      clear hK KK
      refine rdy 7 rfl (fun KK hK=>?_)
      go_simp
      have f8:(fun (W:World)=>W.cell? ⟨Wa.heap.size,0,none⟩=some (.int .i64 (m9:Int))∧W.cell? ⟨Wa.heap.size,1,none⟩=some (.int .i64 (e9:Int))∧W.cell? ⟨Wa.heap.size,2,none⟩=some (.int .i64 (t.path.length:Int))∧W.cell? ⟨Wa.heap.size,3,none⟩=some (.slice Bq t.regs.length dq)) (Wd.alloc (.cells #[.int .i64 (m9:Int),.int .i64 (e9:Int),.int .i64 (t.path.length:Int),.slice Bq t.regs.length dq] 134)):=⟨(HB2.out.below (bl_alloc (Below.refl Wd.heap.size Wd) (.cells #[.int .i64 (m9:Int),.int .i64 (e9:Int),.int .i64 (t.path.length:Int),.slice Bq t.regs.length dq] 134))).cell 0 _ rfl,(HB2.out.below (bl_alloc (Below.refl Wd.heap.size Wd) (.cells #[.int .i64 (m9:Int),.int .i64 (e9:Int),.int .i64 (t.path.length:Int),.slice Bq t.regs.length dq] 134))).cell 1 _ rfl,(HB2.out.below (bl_alloc (Below.refl Wd.heap.size Wd) (.cells #[.int .i64 (m9:Int),.int .i64 (e9:Int),.int .i64 (t.path.length:Int),.slice Bq t.regs.length dq] 134))).cell 2 _ rfl,(HB2.out.below (bl_alloc (Below.refl Wd.heap.size Wd) (.cells #[.int .i64 (m9:Int),.int .i64 (e9:Int),.int .i64 (t.path.length:Int),.slice Bq t.regs.length dq] 134))).cell 3 _ rfl⟩
      refine hK.out _ _ f8 (fun hH8=>?_)
      try go_simp
      clear hK KK
      have HB8:=Lh (HB2.out.below (bl_alloc (Below.refl Wd.heap.size Wd) (.cells #[.int .i64 (m9:Int),.int .i64 (e9:Int),.int .i64 (t.path.length:Int),.slice Bq t.regs.length dq] 134)))
      have HQ8:=Lh (HQ2.out.below (bl_alloc (Below.refl Wd.heap.size Wd) (.cells #[.int .i64 (m9:Int),.int .i64 (e9:Int),.int .i64 (t.path.length:Int),.slice Bq t.regs.length dq] 134)))
      have BW8:=Lh (bl_trans BW2.out (bl_alloc (Below.refl Wd.heap.size Wd) (.cells #[.int .i64 (m9:Int),.int .i64 (e9:Int),.int .i64 (t.path.length:Int),.slice Bq t.regs.length dq] 134)))
      have HS8:Hid (Rd (Wd.alloc (.cells #[.int .i64 (m9:Int),.int .i64 (e9:Int),.int .i64 (t.path.length:Int),.slice Bq t.regs.length dq] 134)) 4 (some ⟨Wd.heap.size,0,none⟩) 1 (frc ⟨fr,Bq,dq⟩)):=Lh (by rw[HFR.out];exact Rd.built _ 4 1 (frc ⟨⟨m9,e9,t.path.length,t.regs⟩,Bq,dq⟩) _ rfl)
      clear HB2 HQ2 BW2 p8 f3
      generalize (Wd.alloc (.cells #[.int .i64 (m9:Int),.int .i64 (e9:Int),.int .i64 (t.path.length:Int),.slice Bq t.regs.length dq] 134))=W8 at *
      have p88:W8.cell? ⟨g,8,none⟩=some (.slice x.F x.fl.length x.fc):=(HMA.out.below BW8.out).cells.2.2.2.2.2.2.2.2.1
      refine rdy 8 rfl (fun KK hK=>?_)
      refine append_moved_step (by rfl) _ _ 32 (by rfl) tFrame w0 (.slice x.F x.fl.length x.fc) x.fl.length (frs x.fl) (by rfl) ((HMA.out.below BW8.out).own.mem 5 rfl) _ 1 1 (frc ⟨fr,Bq,dq⟩) (by rfl) HS8.out (frc_one _) (by omega) (by omega) (by decide) ?_
      intro v9 W9 ho9 hm9
      obtain ⟨F9,c9,rfl,-⟩:=ho9.form
      have hFne:(Value.slice x.F x.fl.length x.fc).ownBlock≠some (Wa.heap.size):=fun e=>by have:=HOW.out _ (List.mem_of_getElem? (i:=5) rfl) _ e;have:=HBF.out;omega
      have HB9:=Lh (hm9.blk HB8.out hFne)
      have f9_:(fun (W:World)=>W.cell? ⟨Wa.heap.size,0,none⟩=some (.int .i64 (m9:Int))∧W.cell? ⟨Wa.heap.size,1,none⟩=some (.int .i64 (e9:Int))∧W.cell? ⟨Wa.heap.size,2,none⟩=some (.int .i64 (t.path.length:Int))∧W.cell? ⟨Wa.heap.size,3,none⟩=some (.slice Bq t.regs.length dq)) W9:=⟨HB9.out.cell 0 _ rfl,HB9.out.cell 1 _ rfl,HB9.out.cell 2 _ rfl,HB9.out.cell 3 _ rfl⟩
      have k9:=hm9.blk (HMA.out.below BW8.out).blk (HMA.out.off _ (List.mem_of_getElem? (i:=5) rfl))
      have g8:W9.cell? ⟨g,8,none⟩=some (.slice x.F x.fl.length x.fc):=k9.cell 8 _ rfl
      have z8:=k9.frozen 8
      have hfs:frs x.fl++frc ⟨fr,Bq,dq⟩=frs (x.fl++ [(⟨fr,Bq,dq⟩:FRaw)]):=by rw[frs_app];unfold frs;simp
      rw[hfs]at ho9
      have HPU:=Lh (HMA.out.push_ (r:=⟨fr,Bq,dq⟩) (by have:=HQ8.out;rw[HFR.out];exact this) rfl ho9 hm9)
      have f10:(fun (W:World)=>W.cell? ⟨Wa.heap.size,0,none⟩=some (.int .i64 (m9:Int))∧W.cell? ⟨Wa.heap.size,1,none⟩=some (.int .i64 (e9:Int))∧W.cell? ⟨Wa.heap.size,2,none⟩=some (.int .i64 (t.path.length:Int))∧W.cell? ⟨Wa.heap.size,3,none⟩=some (.slice Bq t.regs.length dq)) (W9.setCell ⟨g,8,none⟩ (.slice F9 (x.fl.length+1) c9)):=⟨(HB9.out.beside HGF.out 8 _).cell 0 _ rfl,(HB9.out.beside HGF.out 8 _).cell 1 _ rfl,(HB9.out.beside HGF.out 8 _).cell 2 _ rfl,(HB9.out.beside HGF.out 8 _).cell 3 _ rfl⟩
      clear ho9 hm9 k9 hfs hFne
      refine hK.out _ _ f9_ (fun hHa=>?_)
      try go_simp
      clear hK KK
      refine tk 9 (.pointer (some ⟨g,0,none⟩)) rfl hHa ?_
      try go_simp
      refine tk 10 (.pointer (some ⟨g,0,none⟩)) rfl hHa ?_
      try go_simp
      refine tk 11 (.pointer (some ⟨g,8,none⟩)) rfl hHa ?_
      try go_simp
      refine rdy 12 rfl (fun KK hK=>?_)
      go_simp
      refine hK.out _ _ f10 (fun _=>?_)
      clear hK KK
      refine wpAnyH_done (by kernel_rfl) ?_ _
      clear f9_ g8 z8 f10 HB9 p88
      generalize W9.setCell ⟨g,8,none⟩ (.slice F9 (x.fl.length+1) c9)=Wf at *
      have g6:Wf.cell? ⟨g,6,none⟩=some (.slice x.L t.log.list.length x.lc):=HPU.out.1.cells.2.2.2.2.2.2.1
      have g7:Wf.cell? ⟨g,7,none⟩=some (.slice x.M t.log.marks.length x.mc):=HPU.out.1.cells.2.2.2.2.2.2.2.1
      go_wp2_with (first
        | (go_at_call 167
           refine (Writes.mark_p t.log x.L x.M _ _ _ _ Wf a _ _ HPU.out.1.log HLL.out.1 HLL.out.2 HMK.out rfl rfl).mono ?_
           rintro e W3 ⟨A,c,B,d,rfl,hp⟩
           have M4:=HPU.out.1.below hp.ol.2
           have j6:W3.cell? ⟨g,6,none⟩=some (.slice x.L t.log.list.length x.lc):=M4.cells.2.2.2.2.2.2.1
           have j7:=(M4.blk.set_ 6 (.slice A a.1.list.length c)).cell 7 (.slice x.M t.log.marks.length x.mc) (by rw[List.setIfInBounds_toArray];rfl)
           have j8:=M4.froz 6
           have j9:=(M4.blk.set_ 6 (.slice A a.1.list.length c)).frozen 7
           have HMv:=Lh (HPU.out.1.log_ hp rfl rfl)
           have HV7:=Lh (((((Mv.refl w g (x.os t)).bel (bl_trans HB.out BA.out)).trans HPU.out.2).trans HMv.out.2).bel (bl_alloc (Below.refl ((W3.setCell ⟨g,6,none⟩ (.slice A a.1.list.length c)).setCell ⟨g,7,none⟩ (.slice B a.1.marks.length d)).heap.size ((W3.setCell ⟨g,6,none⟩ (.slice A a.1.list.length c)).setCell ⟨g,7,none⟩ (.slice B a.1.marks.length d))) (.cells #[.int .i64 1] 3)))
           have HM7:=Lh (HMv.out.1.below (bl_alloc (Below.refl ((W3.setCell ⟨g,6,none⟩ (.slice A a.1.list.length c)).setCell ⟨g,7,none⟩ (.slice B a.1.marks.length d)).heap.size ((W3.setCell ⟨g,6,none⟩ (.slice A a.1.list.length c)).setCell ⟨g,7,none⟩ (.slice B a.1.marks.length d))) (.cells #[.int .i64 1] 3)))
           have HS7:Hid (Rd (((W3.setCell ⟨g,6,none⟩ (.slice A a.1.list.length c)).setCell ⟨g,7,none⟩ (.slice B a.1.marks.length d)).alloc (.cells #[.int .i64 1] 3)) 1 (some ⟨W3.heap.size,0,none⟩) 1 [.int .i64 1]):=Lh (Rd.builtAt _ 1 1 [.int .i64 1] _ rfl (by simp[World.setCell]))
           have p4:((W3.setCell ⟨g,6,none⟩ (.slice A a.1.list.length c)).setCell ⟨g,7,none⟩ (.slice B a.1.marks.length d)).cell? ⟨g,4,none⟩=some (.slice x.P t.path.length x.pc):=HMv.out.1.cells.2.2.2.2.1
           clear hp M4)
        | (at_builtin
           go_loud (refine append_moved rfl _ _ 27 rfl Mem.tInt w0 (.slice x.P t.path.length x.pc) t.path.length (zs t.path) rfl (HM7.out.own.mem 1 rfl) _ 1 1 [.int .i64 1] rfl HS7.out (one_cons rfl one_nil) (by omega) (by omega) (by decide) ?_)
           intro v10 W10 ho hm
           obtain ⟨P9,c9,rfl,-⟩:=ho.form
           have k10:=hm.blk HM7.out.blk (HM7.out.off _ (List.mem_of_getElem? (i:=1) rfl))
           have g4:W10.cell? ⟨g,4,none⟩=some (.slice x.P t.path.length x.pc):=k10.cell 4 _ rfl
           have z4:=k10.frozen 4
           have hzs:zs t.path++ [.int .i64 1]=zs (t.path++ [1]):=by unfold zs;rw[List.flatMap_append];rfl
           rw[hzs]at ho
           have HMp:=Lh (HM7.out.path_ rfl ho (by simp) hm)
           have j2:(W10.setCell ⟨g,4,none⟩ (.slice P9 (t.path.length+1) c9)).cell? ⟨g,2,none⟩=some (.int .i64 (t.pc:Int)):=HMp.out.1.cells.2.2.1
           have jf:=HMp.out.1.froz 2
           clear ho hm k10 hzs))
      obtain ⟨m11,v11⟩:=HMp.out.1.goes_ 1 ((t.pc:Int)+1) rfl
      have HMz:=Lh m11
      have HVz:=Lh ((HV7.out.trans HMp.out.2).trans v11)
      clear m11 v11
      go_end0
      rw[HE.out]
      exact ⟨rfl,_,HMz.out,HVz.out,by show (x.fl++ [_]).length≤1000000;rw[List.length_append];exact Nat.add_le_add (Nat.le_trans hfl (by decide:1000≤999999)) (Nat.le_refl 1)⟩
    · go_simp
      have f8:(fun (W:World)=>W.cell? ⟨Wa.heap.size,0,none⟩=some (.int .i64 (m9:Int))∧W.cell? ⟨Wa.heap.size,1,none⟩=some (.int .i64 (e9:Int))∧W.cell? ⟨Wa.heap.size,2,none⟩=some (.int .i64 (t.path.length:Int))∧W.cell? ⟨Wa.heap.size,3,none⟩=some (.slice Bq t.regs.length dq)) (Wd.alloc (.cells #[.int .i64 (m9:Int),.int .i64 (e9:Int),.int .i64 (t.path.length:Int),.slice Bq t.regs.length dq] 134)):=⟨(HB2.out.below (bl_alloc (Below.refl Wd.heap.size Wd) (.cells #[.int .i64 (m9:Int),.int .i64 (e9:Int),.int .i64 (t.path.length:Int),.slice Bq t.regs.length dq] 134))).cell 0 _ rfl,(HB2.out.below (bl_alloc (Below.refl Wd.heap.size Wd) (.cells #[.int .i64 (m9:Int),.int .i64 (e9:Int),.int .i64 (t.path.length:Int),.slice Bq t.regs.length dq] 134))).cell 1 _ rfl,(HB2.out.below (bl_alloc (Below.refl Wd.heap.size Wd) (.cells #[.int .i64 (m9:Int),.int .i64 (e9:Int),.int .i64 (t.path.length:Int),.slice Bq t.regs.length dq] 134))).cell 2 _ rfl,(HB2.out.below (bl_alloc (Below.refl Wd.heap.size Wd) (.cells #[.int .i64 (m9:Int),.int .i64 (e9:Int),.int .i64 (t.path.length:Int),.slice Bq t.regs.length dq] 134))).cell 3 _ rfl⟩
      refine hK.out _ _ f8 (fun hH8=>?_)
      try go_simp
      clear hK KK
      have HB8:=Lh (HB2.out.below (bl_alloc (Below.refl Wd.heap.size Wd) (.cells #[.int .i64 (m9:Int),.int .i64 (e9:Int),.int .i64 (t.path.length:Int),.slice Bq t.regs.length dq] 134)))
      have HQ8:=Lh (HQ2.out.below (bl_alloc (Below.refl Wd.heap.size Wd) (.cells #[.int .i64 (m9:Int),.int .i64 (e9:Int),.int .i64 (t.path.length:Int),.slice Bq t.regs.length dq] 134)))
      have BW8:=Lh (bl_trans BW2.out (bl_alloc (Below.refl Wd.heap.size Wd) (.cells #[.int .i64 (m9:Int),.int .i64 (e9:Int),.int .i64 (t.path.length:Int),.slice Bq t.regs.length dq] 134)))
      have HS8:Hid (Rd (Wd.alloc (.cells #[.int .i64 (m9:Int),.int .i64 (e9:Int),.int .i64 (t.path.length:Int),.slice Bq t.regs.length dq] 134)) 4 (some ⟨Wd.heap.size,0,none⟩) 1 (frc ⟨fr,Bq,dq⟩)):=Lh (by rw[HFR.out];exact Rd.built _ 4 1 (frc ⟨⟨m9,e9,t.path.length,t.regs⟩,Bq,dq⟩) _ rfl)
      clear HB2 HQ2 BW2 p8 f3
      generalize (Wd.alloc (.cells #[.int .i64 (m9:Int),.int .i64 (e9:Int),.int .i64 (t.path.length:Int),.slice Bq t.regs.length dq] 134))=W8 at *
      have p88:W8.cell? ⟨g,8,none⟩=some (.slice x.F x.fl.length x.fc):=(HMA.out.below BW8.out).cells.2.2.2.2.2.2.2.2.1
      refine rdy 5 rfl (fun KK hK=>?_)
      go_simp
      have f8b:(fun (W:World)=>W.cell? ⟨Wa.heap.size,0,none⟩=some (.int .i64 (m9:Int))∧W.cell? ⟨Wa.heap.size,1,none⟩=some (.int .i64 (e9:Int))∧W.cell? ⟨Wa.heap.size,2,none⟩=some (.int .i64 (t.path.length:Int))∧W.cell? ⟨Wa.heap.size,3,none⟩=some (.slice Bq t.regs.length dq)) W8:=⟨HB8.out.cell 0 _ rfl,HB8.out.cell 1 _ rfl,HB8.out.cell 2 _ rfl,HB8.out.cell 3 _ rfl⟩
      refine hK.out _ _ f8b (fun hH5=>?_)
      try go_simp
      clear hK KK
      refine rdy 8 rfl (fun KK hK=>?_)
      refine append_moved_step (by rfl) _ _ 32 (by rfl) tFrame w0 (.slice x.F x.fl.length x.fc) x.fl.length (frs x.fl) (by rfl) ((HMA.out.below BW8.out).own.mem 5 rfl) _ 1 1 (frc ⟨fr,Bq,dq⟩) (by rfl) HS8.out (frc_one _) (by omega) (by omega) (by decide) ?_
      intro v9 W9 ho9 hm9
      obtain ⟨F9,c9,rfl,-⟩:=ho9.form
      have hFne:(Value.slice x.F x.fl.length x.fc).ownBlock≠some (Wa.heap.size):=fun e=>by have:=HOW.out _ (List.mem_of_getElem? (i:=5) rfl) _ e;have:=HBF.out;omega
      have HB9:=Lh (hm9.blk HB8.out hFne)
      have f9_:(fun (W:World)=>W.cell? ⟨Wa.heap.size,0,none⟩=some (.int .i64 (m9:Int))∧W.cell? ⟨Wa.heap.size,1,none⟩=some (.int .i64 (e9:Int))∧W.cell? ⟨Wa.heap.size,2,none⟩=some (.int .i64 (t.path.length:Int))∧W.cell? ⟨Wa.heap.size,3,none⟩=some (.slice Bq t.regs.length dq)) W9:=⟨HB9.out.cell 0 _ rfl,HB9.out.cell 1 _ rfl,HB9.out.cell 2 _ rfl,HB9.out.cell 3 _ rfl⟩
      have k9:=hm9.blk (HMA.out.below BW8.out).blk (HMA.out.off _ (List.mem_of_getElem? (i:=5) rfl))
      have g8:W9.cell? ⟨g,8,none⟩=some (.slice x.F x.fl.length x.fc):=k9.cell 8 _ rfl
      have z8:=k9.frozen 8
      have hfs:frs x.fl++frc ⟨fr,Bq,dq⟩=frs (x.fl++ [(⟨fr,Bq,dq⟩:FRaw)]):=by rw[frs_app];unfold frs;simp
      rw[hfs]at ho9
      have HPU:=Lh (HMA.out.push_ (r:=⟨fr,Bq,dq⟩) (by have:=HQ8.out;rw[HFR.out];exact this) rfl ho9 hm9)
      have f10:(fun (W:World)=>W.cell? ⟨Wa.heap.size,0,none⟩=some (.int .i64 (m9:Int))∧W.cell? ⟨Wa.heap.size,1,none⟩=some (.int .i64 (e9:Int))∧W.cell? ⟨Wa.heap.size,2,none⟩=some (.int .i64 (t.path.length:Int))∧W.cell? ⟨Wa.heap.size,3,none⟩=some (.slice Bq t.regs.length dq)) (W9.setCell ⟨g,8,none⟩ (.slice F9 (x.fl.length+1) c9)):=⟨(HB9.out.beside HGF.out 8 _).cell 0 _ rfl,(HB9.out.beside HGF.out 8 _).cell 1 _ rfl,(HB9.out.beside HGF.out 8 _).cell 2 _ rfl,(HB9.out.beside HGF.out 8 _).cell 3 _ rfl⟩
      clear ho9 hm9 k9 hfs hFne
      refine hK.out _ _ f9_ (fun hHa=>?_)
      try go_simp
      clear hK KK
      refine tk 9 (.pointer (some ⟨g,0,none⟩)) rfl hHa ?_
      try go_simp
      refine tk 10 (.pointer (some ⟨g,0,none⟩)) rfl hHa ?_
      try go_simp
      refine tk 11 (.pointer (some ⟨g,8,none⟩)) rfl hHa ?_
      try go_simp
      refine rdy 12 rfl (fun KK hK=>?_)
      go_simp
      refine hK.out _ _ f10 (fun _=>?_)
      clear hK KK
      refine wpAnyH_done (by kernel_rfl) ?_ _
      clear f9_ g8 z8 f10 HB9 p88
      generalize W9.setCell ⟨g,8,none⟩ (.slice F9 (x.fl.length+1) c9)=Wf at *
      have g6:Wf.cell? ⟨g,6,none⟩=some (.slice x.L t.log.list.length x.lc):=HPU.out.1.cells.2.2.2.2.2.2.1
      have g7:Wf.cell? ⟨g,7,none⟩=some (.slice x.M t.log.marks.length x.mc):=HPU.out.1.cells.2.2.2.2.2.2.2.1
      go_wp2_with (first
        | (go_at_call 167
           refine (Writes.mark_p t.log x.L x.M _ _ _ _ Wf a _ _ HPU.out.1.log HLL.out.1 HLL.out.2 HMK.out rfl rfl).mono ?_
           rintro e W3 ⟨A,c,B,d,rfl,hp⟩
           have M4:=HPU.out.1.below hp.ol.2
           have j6:W3.cell? ⟨g,6,none⟩=some (.slice x.L t.log.list.length x.lc):=M4.cells.2.2.2.2.2.2.1
           have j7:=(M4.blk.set_ 6 (.slice A a.1.list.length c)).cell 7 (.slice x.M t.log.marks.length x.mc) (by rw[List.setIfInBounds_toArray];rfl)
           have j8:=M4.froz 6
           have j9:=(M4.blk.set_ 6 (.slice A a.1.list.length c)).frozen 7
           have HMv:=Lh (HPU.out.1.log_ hp rfl rfl)
           have HV7:=Lh (((((Mv.refl w g (x.os t)).bel (bl_trans HB.out BA.out)).trans HPU.out.2).trans HMv.out.2).bel (bl_alloc (Below.refl ((W3.setCell ⟨g,6,none⟩ (.slice A a.1.list.length c)).setCell ⟨g,7,none⟩ (.slice B a.1.marks.length d)).heap.size ((W3.setCell ⟨g,6,none⟩ (.slice A a.1.list.length c)).setCell ⟨g,7,none⟩ (.slice B a.1.marks.length d))) (.cells #[.int .i64 1] 3)))
           have HM7:=Lh (HMv.out.1.below (bl_alloc (Below.refl ((W3.setCell ⟨g,6,none⟩ (.slice A a.1.list.length c)).setCell ⟨g,7,none⟩ (.slice B a.1.marks.length d)).heap.size ((W3.setCell ⟨g,6,none⟩ (.slice A a.1.list.length c)).setCell ⟨g,7,none⟩ (.slice B a.1.marks.length d))) (.cells #[.int .i64 1] 3)))
           have HS7:Hid (Rd (((W3.setCell ⟨g,6,none⟩ (.slice A a.1.list.length c)).setCell ⟨g,7,none⟩ (.slice B a.1.marks.length d)).alloc (.cells #[.int .i64 1] 3)) 1 (some ⟨W3.heap.size,0,none⟩) 1 [.int .i64 1]):=Lh (Rd.builtAt _ 1 1 [.int .i64 1] _ rfl (by simp[World.setCell]))
           have p4:((W3.setCell ⟨g,6,none⟩ (.slice A a.1.list.length c)).setCell ⟨g,7,none⟩ (.slice B a.1.marks.length d)).cell? ⟨g,4,none⟩=some (.slice x.P t.path.length x.pc):=HMv.out.1.cells.2.2.2.2.1
           clear hp M4)
        | (at_builtin
           go_loud (refine append_moved rfl _ _ 27 rfl Mem.tInt w0 (.slice x.P t.path.length x.pc) t.path.length (zs t.path) rfl (HM7.out.own.mem 1 rfl) _ 1 1 [.int .i64 1] rfl HS7.out (one_cons rfl one_nil) (by omega) (by omega) (by decide) ?_)
           intro v10 W10 ho hm
           obtain ⟨P9,c9,rfl,-⟩:=ho.form
           have k10:=hm.blk HM7.out.blk (HM7.out.off _ (List.mem_of_getElem? (i:=1) rfl))
           have g4:W10.cell? ⟨g,4,none⟩=some (.slice x.P t.path.length x.pc):=k10.cell 4 _ rfl
           have z4:=k10.frozen 4
           have hzs:zs t.path++ [.int .i64 1]=zs (t.path++ [1]):=by unfold zs;rw[List.flatMap_append];rfl
           rw[hzs]at ho
           have HMp:=Lh (HM7.out.path_ rfl ho (by simp) hm)
           have j2:(W10.setCell ⟨g,4,none⟩ (.slice P9 (t.path.length+1) c9)).cell? ⟨g,2,none⟩=some (.int .i64 (t.pc:Int)):=HMp.out.1.cells.2.2.1
           have jf:=HMp.out.1.froz 2
           clear ho hm k10 hzs))
      obtain ⟨m11,v11⟩:=HMp.out.1.goes_ 1 ((t.pc:Int)+1) rfl
      have HMz:=Lh m11
      have HVz:=Lh ((HV7.out.trans HMp.out.2).trans v11)
      clear m11 v11
      go_end0
      rw[HE.out]
      exact ⟨rfl,_,HMz.out,HVz.out,by show (x.fl++ [_]).length≤1000000;rw[List.length_append];exact Nat.add_le_add (Nat.le_trans hfl (by decide:1000≤999999)) (Nat.le_refl 1)⟩
def meth (d:Int):FuncId:=
 if d=1 then 118 else if d=2 then 119 else if d=3 then 120 else if d=4 then 121
 else if d=5 then 122 else if d=6 then 123 else 124
theorem rwho_c (n:Int) (w:World):
  Calls Tryz.prog 50 #[.int .i64 n] w fun e w' =>e=.returned (.bool (Stripe.whoB n))∧w=w' :=by
 by_cases h1:1≤n
 all_goals by_cases h2:n≤8
 all_goals
  go_enter Tryz.func50,Tryz.ntmps50
  go_wp2
  go_ret
  exact ⟨ret_bool (by unfold Stripe.whoB;first | (simp;omega) | (symm;simp;omega) | (rw[Bool.eq_iff_iff];simp;omega)),rfl⟩
theorem doing_c (g:Nat) (d:Int) (w:World) (h1:1≤d) (h7:d≤7):
  Calls Tryz.prog 64 #[.pointer (some ⟨g,0,none⟩),.int .i64 d] w fun e w' =>e=.returned (.func (.func (meth d)) #[.pointer (some ⟨g,0,none⟩)] #[])∧Below w.heap.size w w' :=by
 rcases (by omega:d=1∨d=2∨d=3∨d=4∨d=5∨d=6∨d=7) with rfl | rfl | rfl | rfl | rfl | rfl | rfl
 all_goals
  go_enter Tryz.func64,Tryz.ntmps64
  go_wp2
  go_ret
  exact ⟨rfl,Below.refl _ _⟩
set_option maxHeartbeats 4000000 in
theorem may_c (t:Try) (x:TL) (l:List Raw) (C:Option Addr) (n c:Nat) (w:World) (b:Bool) (h:TRd w t x) (hat:At w C n l) (hnc:n≤c) (hlim:Lim l) (hn:n≤1000000) (hck:checkS (ss l)=0) (hpc:t.kind=0→t.pc<n) (h8:t.regs.length=8)
  (hfl:x.fl.length≤1000000) (hlong:∀r∈x.fl,r.f.long≤t.path.length) (hb:decide (t.kind=0)=b):
  Calls Tryz.prog 63 #[.agg (tvl t x).toArray,.slice C n c] w (RetB w b):=by
 obtain ⟨xR,xrc,xP,xpc,xD,xdc,xL,xlc,xM,xmc,xF,xfc,xfl⟩:=x
 have HB1:Hid (Below w.heap.size w (w.alloc (.cells #[.int .i64 t.who,.int .i64 t.snap,.int .i64 t.pc,.slice xR t.regs.length xrc,.slice xP t.path.length xpc,.slice xD t.reads.length xdc,.slice xL t.log.list.length xlc,.slice xM t.log.marks.length xmc,.slice xF xfl.length xfc,.int .i64 t.kind,.int .i64 t.why] 34))):=Lh (bl_alloc (Below.refl _ _) _)
 have HK:Hid (Blk (w.alloc (.cells #[.int .i64 t.who,.int .i64 t.snap,.int .i64 t.pc,.slice xR t.regs.length xrc,.slice xP t.path.length xpc,.slice xD t.reads.length xdc,.slice xL t.log.list.length xlc,.slice xM t.log.marks.length xmc,.slice xF xfl.length xfc,.int .i64 t.kind,.int .i64 t.why] 34)) w.heap.size 34 #[.int .i64 t.who,.int .i64 t.snap,.int .i64 t.pc,.slice xR t.regs.length xrc,.slice xP t.path.length xpc,.slice xD t.reads.length xdc,.slice xL t.log.list.length xlc,.slice xM t.log.marks.length xmc,.slice xF xfl.length xfc,.int .i64 t.kind,.int .i64 t.why]):=Lh (Blk.new _ _ _)
 have HT:=Lh (h.below HB1.out)
 have HLG:=Lh hlong
 have HCK:=Lh (check_c l C n c (w.alloc (.cells #[.int .i64 t.who,.int .i64 t.snap,.int .i64 t.pc,.slice xR t.regs.length xrc,.slice xP t.path.length xpc,.slice xD t.reads.length xdc,.slice xL t.log.list.length xlc,.slice xM t.log.marks.length xmc,.slice xF xfl.length xfc,.int .i64 t.kind,.int .i64 t.why] 34)) 0 (hat.below HB1.out) hnc hlim hck hn)
 have q9:=HK.out.cell 9 _ rfl
 by_cases hk:t.kind=0
 ·have hp:=hpc hk
  have HBB:Hid (b=true):=Lh (by rw[←hb];simp[hk])
  have p1:¬((t.pc:Int)<0):=by omega
  have p2:¬((n:Int)≤(t.pc:Int)):=by omega
  have h8i:(t.regs.length:Int)=8:=by omega
  have hkn:(t.kind !=0)=false:=by simp[hk]
  clear h hlong hat hpc hb hck hlim h8 hk hp
  show Calls Tryz.prog 63 #[.agg #[.int .i64 t.who,.int .i64 t.snap,.int .i64 t.pc,.slice xR t.regs.length xrc,.slice xP t.path.length xpc,.slice xD t.reads.length xdc,.slice xL t.log.list.length xlc,.slice xM t.log.marks.length xmc,.slice xF xfl.length xfc,.int .i64 t.kind,.int .i64 t.why],.slice C n c] w (RetB w b)
  go_enter Tryz.func63,Tryz.ntmps63
  go_wp2_with (
   go_at_call 49
   refine HCK.out.mono ?_
   rintro e w2 ⟨rfl,b2⟩
   have HK2:=Lh (HK.out.below b2)
   have HB2:=Lh b2
   have HT2:=Lh (HT.out.below b2)
   have r2:=HK2.out.cell 2 _ rfl
   have r3:=HK2.out.cell 3 _ rfl
   have r8:=HK2.out.cell 8 _ rfl
   clear b2)
  go_loopw [34] (fun i wr=>∃j:Nat,j≤xfl.length∧i=.int .i64 j∧Below (w.alloc (.cells #[.int .i64 t.who,.int .i64 t.snap,.int .i64 t.pc,.slice xR t.regs.length xrc,.slice xP t.path.length xpc,.slice xD t.reads.length xdc,.slice xL t.log.list.length xlc,.slice xM t.log.marks.length xmc,.slice xF xfl.length xfc,.int .i64 t.kind,.int .i64 t.why] 34)).heap.size (w.alloc (.cells #[.int .i64 t.who,.int .i64 t.snap,.int .i64 t.pc,.slice xR t.regs.length xrc,.slice xP t.path.length xpc,.slice xD t.reads.length xdc,.slice xL t.log.list.length xlc,.slice xM t.log.marks.length xmc,.slice xF xfl.length xfc,.int .i64 t.kind,.int .i64 t.why] 34)) wr) (fun i _=>xfl.length - (intOf i).toNat)
  case atStart=>exact ⟨0,Nat.zero_le _,rfl,HB2.out⟩
  case round=>
   obtain ⟨j,hj,rfl,hbl⟩:=hrel
   have HBL:=Lh hbl
   clear r2 r3 r8 q9
   by_cases hlt:j<xfl.length
   ·obtain ⟨bF,oF,r,hA,hr,k0,k1,k2,k3⟩:=at_frame (show Rd wr 4 xF xfl.length (frs xfl) from (HT.out.below hbl).frames) j hlt
    have HK3:=HK.out.below hbl
    have hle:=HLG.out r (List.mem_of_getElem? hr)
    have v1:¬((r.f.long:Int)<0):=by omega
    have v2:¬((t.path.length:Int)<(r.f.long:Int)):=by omega
    have y4:=(HK3.alloc (.cells #[.int .i64 r.f.mid,.int .i64 r.f.fin,.int .i64 r.f.long,.slice r.A r.f.regs.length r.c] 134)).cell 4 _ rfl
    subst hA
    clear hbl hr HK3 hle
    go_wp2_with fail
    trace_state
    go_roundw
    case rel=>exact ⟨j+1,by omega,by go_num,bl_alloc HBL.out _⟩
    case measure=>simp[intOf];omega
   ·clear hbl
    go_wp2
    go_ret
    exact ⟨by rw[HBB.out];rfl,bl_trans HB1.out HBL.out⟩
 ·have HBB:Hid (b=false):=Lh (by rw[←hb];simp[hk])
  have hkb:(t.kind==0)=false:=by simpa using hk
  have hkn:(t.kind !=0)=true:=by simp[hk]
  clear h hlong hat hpc hb hck hlim h8 hk
  show Calls Tryz.prog 63 #[.agg #[.int .i64 t.who,.int .i64 t.snap,.int .i64 t.pc,.slice xR t.regs.length xrc,.slice xP t.path.length xpc,.slice xD t.reads.length xdc,.slice xL t.log.list.length xlc,.slice xM t.log.marks.length xmc,.slice xF xfl.length xfc,.int .i64 t.kind,.int .i64 t.why],.slice C n c] w (RetB w b)
  go_enter Tryz.func63,Tryz.ntmps63
  go_wp2
  go_ret
  exact ⟨by rw[HBB.out];rfl,HB1.out⟩
end Go.Proofs.YtgghaodcfgbjlaaGreat.Attempt
