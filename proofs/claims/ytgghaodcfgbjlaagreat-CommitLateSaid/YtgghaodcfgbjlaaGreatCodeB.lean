/-
 WHAT EACH FUNCTION OF THE LAYER code RETURNS, AS IT IS WRITTEN: Check, Deep, Cells; the layer's functions do what the chapter asks.
-/
import Derived.Test.YtgghaodcfgbjlaaGreatCodeA
import Derived.Test.YtgghaodcfgbjlaaGreatTermB
import Derived.BigRegion
set_option maxRecDepth 100000
namespace Go.Proofs.YtgghaodcfgbjlaaGreat.Code
open Go.ChangeShapes Go.WideShapes Go.ChangeAt Go.RowKit Mem
theorem reg_any (a:Int) (w:World) (v:Bool) (hv:decide (0≤a∧a≤7)=v):
  Calls Tryz.prog 153 #[.int .i64 a] w fun e w' =>e=.returned (.bool v)∧w=w' :=by
 subst hv
 rcases (by omega:(0≤a∧a≤7)∨(0≤a∧¬a≤7)∨¬0≤a) with ⟨h1,h2⟩ | ⟨h1,h2⟩ | h1
 all_goals
  go_enter Tryz.func153,Tryz.ntmps153
  go_wp2
  go_ret
  exact ⟨ret_bool (by simp;omega),rfl⟩
theorem cell_any (a:Int) (w:World) (v:Bool) (hv:decide (0≤a∧a≤63)=v):
  Calls Tryz.prog 154 #[.int .i64 a] w fun e w' =>e=.returned (.bool v)∧w=w' :=by
 subst hv
 rcases (by omega:(0≤a∧a<64)∨(0≤a∧¬a<64)∨¬0≤a) with ⟨h1,h2⟩ | ⟨h1,h2⟩ | h1
 all_goals
  go_enter Tryz.func154,Tryz.ntmps154
  go_wp2
  go_ret
  exact ⟨ret_bool (by simp;omega),rfl⟩
theorem count_any (a:Int) (w:World) (v:Bool) (hv:decide (1≤a∧a≤24)=v):
  Calls Tryz.prog 156 #[.int .i64 a] w fun e w' =>e=.returned (.bool v)∧w=w' :=by
 subst hv
 rcases (by omega:(1≤a∧a≤24)∨(1≤a∧¬a≤24)∨¬1≤a) with ⟨h1,h2⟩ | ⟨h1,h2⟩ | h1
 all_goals
  go_enter Tryz.func156,Tryz.ntmps156
  go_wp2
  go_ret
  exact ⟨ret_bool (by simp;omega),rfl⟩
theorem term_c (t:List Term.Op) (A:Option Addr) (n c:Nat) (w:World) (b:Bool) (hr:Rd w 2 A n (Term.ops t)) (hn:n≤1000000) (hb:reckonsB t=b):
  Calls Tryz.prog 155 #[.slice A n c] w (RetB w b):=by
 have HR:=Lh hr
 have HB:=Lh hb
 obtain ⟨ck,hck⟩:∃x,Term.checkS t=x:=⟨_,rfl⟩
 have HC:=Lh hck
 obtain ⟨cz,hcz⟩:∃x,Term.cellsS t=x:=⟨_,rfl⟩
 obtain ⟨cq,hcq⟩:∃x,cz.length=x:=⟨_,rfl⟩
 have HZ:=Lh hcz
 have HQ:=Lh hcq
 have HF:Hid (b=(decide (ck=0) && decide (cq=0))):=Lh (by rw[←hb];unfold reckonsB;rw[hck,hcz,hcq])
 clear hr hb hcz hcq hck
 by_cases h0:ck=0
 ·subst h0
  by_cases h1:cq=0
  all_goals
   have HF2:Hid (b=decide (cq=0)):=Lh (by rw[HF.out];rfl)
   have q1:((cq:Int)==0)=decide (cq=0):=by simp[h1]
   go_enter Tryz.func155,Tryz.ntmps155
   go_wp2_with fail
   refine (Term.check_c t _ _ _ _ 0 HR.out hn HC.out).mono ?_
   rintro e w1 ⟨rfl,b1⟩
   go_wp2_with fail
   refine ((Term.cells_c t _ _ _ _ cz cq (HR.out.below b1) hn HZ.out HQ.out).mono (fun _ _=>RetO.toS)).mono ?_
   rintro e w2 ⟨B,d,rfl,_,b2⟩
   go_wp2
   go_ret
   exact ⟨ret_bool (by rw[HF2.out];simp[h1]),bl_trans b1 b2⟩
 ·have q1:(ck==0)=false:=beq_eq_false_iff_ne.2 h0
  have HF2:Hid (b=false):=Lh (by rw[HF.out,decide_eq_false h0];rfl)
  clear h0
  go_enter Tryz.func155,Tryz.ntmps155
  go_wp2_with fail
  refine (Term.check_c t _ _ _ _ ck HR.out hn HC.out).mono ?_
  rintro e w1 ⟨rfl,b1⟩
  go_wp2
  go_ret
  exact ⟨ret_bool HF2.out.symm,b1⟩
set_option maxHeartbeats 8000000 in
theorem step_c (r:Raw) (w:World) (v:Bool) (hr:Rd w 2 r.T r.n (Term.ops r.s.t)) (hn:r.n≤1000000) (hv:oneB r.s=v):
  Calls Tryz.prog 103 #[.agg #[.int .i64 r.s.d,.int .i64 r.s.a,.int .i64 r.s.b,.slice r.T r.n r.c]] w (RetB w v):=by
 obtain ⟨⟨dd,aa,bb,t⟩,T,n,c⟩:=r
 simp only at hr hn
 have HL:=Lh (Term.ops_len hr)
 have HR:=Lh hr
 have HV:=Lh hv
 obtain ⟨hs,hhs⟩:∃x,reckonsB t=x:=⟨_,rfl⟩
 have HH:=Lh hhs
 clear hr hv hhs
 obtain ⟨z0,hz0⟩:∃x,(bb==0)=x:=⟨_,rfl⟩
 obtain ⟨n0,hn0⟩:∃x,((n:Int)==0)=x:=⟨_,rfl⟩
 obtain ⟨ra,hra⟩:∃x,decide (0≤aa∧aa≤7)=x:=⟨_,rfl⟩
 obtain ⟨ca,hca⟩:∃x,decide (0≤aa∧aa≤63)=x:=⟨_,rfl⟩
 obtain ⟨cb,hcb⟩:∃x,decide (0≤bb∧bb≤63)=x:=⟨_,rfl⟩
 obtain ⟨ka,hka⟩:∃x,decide (1≤aa∧aa≤24)=x:=⟨_,rfl⟩
 obtain ⟨kb,hkb⟩:∃x,decide (1≤bb∧bb≤24)=x:=⟨_,rfl⟩
 have HZ0:=Lh hz0
 have HN0:=Lh hn0
 have HRA:=Lh hra
 have HCA:=Lh hca
 have HCB:=Lh hcb
 have HKA:=Lh hka
 have HKB:=Lh hkb
 clear hra hca hcb hka hkb
 rcases (by omega:dd=1∨dd=2∨dd=3∨dd=4∨dd=5∨dd=6∨dd=7∨(dd≠1∧dd≠2∧dd≠3∧dd≠4∧dd≠5∧dd≠6∧dd≠7)) with rfl | rfl | rfl | rfl | rfl | rfl | rfl | ⟨e1,e2,e3,e4,e5,e6,e7⟩
 ·cases ra
  all_goals cases cb
  all_goals cases n0
  all_goals
   go_enter Tryz.func103,Tryz.ntmps103
   go_wp2_with (first
    | (go_at_call 153;refine (reg_any _ _ _ HRA.out).mono ?_;rintro e w' ⟨rfl,rfl⟩)
    | (go_at_call 154;refine (cell_any _ _ _ HCB.out).mono ?_;rintro e w' ⟨rfl,rfl⟩))
   go_ret
   refine ⟨ret_bool ?_,bl_alloc (Below.refl _ _) _⟩
   have hl:=HL.out
   have h1:=HRA.out
   have h2:=HCB.out
   have h3:=HN0.out
   rw[←HV.out]
   unfold oneB
   simp[hl]at h1 h2 h3 ⊢
   try omega
 ·cases ra
  all_goals cases z0
  all_goals cases hs
  all_goals
   go_enter Tryz.func103,Tryz.ntmps103
   go_wp2_with (first
    | (go_at_call 153;refine (reg_any _ _ _ HRA.out).mono ?_;rintro e w' ⟨rfl,rfl⟩)
    | (go_at_call 155;refine (term_c t _ _ _ _ _ (HR.out.alloc _) hn HH.out).mono ?_;rintro e w' ⟨rfl,b1⟩))
   go_ret
   refine ⟨ret_bool ?_,by first | exact bl_trans (bl_alloc (Below.refl _ _) _) b1 | exact bl_alloc (Below.refl _ _) _⟩
   have hh:=HH.out
   have h1:=HRA.out
   have h3:=HZ0.out
   rw[←HV.out]
   unfold oneB
   simp at h1 h3 ⊢
   simp[hh]
   try omega
 ·cases ca
  all_goals cases z0
  all_goals cases hs
  all_goals
   go_enter Tryz.func103,Tryz.ntmps103
   go_wp2_with (first
    | (go_at_call 154;refine (cell_any _ _ _ HCA.out).mono ?_;rintro e w' ⟨rfl,rfl⟩)
    | (go_at_call 155;refine (term_c t _ _ _ _ _ (HR.out.alloc _) hn HH.out).mono ?_;rintro e w' ⟨rfl,b1⟩))
   go_ret
   refine ⟨ret_bool ?_,by first | exact bl_trans (bl_alloc (Below.refl _ _) _) b1 | exact bl_alloc (Below.refl _ _) _⟩
   have hh:=HH.out
   have h1:=HCA.out
   have h3:=HZ0.out
   rw[←HV.out]
   unfold oneB
   simp at h1 h3 ⊢
   simp[hh]
   try omega
 ·cases ka
  all_goals cases z0
  all_goals cases hs
  all_goals
   go_enter Tryz.func103,Tryz.ntmps103
   go_wp2_with (first
    | (go_at_call 156;refine (count_any _ _ _ HKA.out).mono ?_;rintro e w' ⟨rfl,rfl⟩)
    | (go_at_call 155;refine (term_c t _ _ _ _ _ (HR.out.alloc _) hn HH.out).mono ?_;rintro e w' ⟨rfl,b1⟩))
   go_ret
   refine ⟨ret_bool ?_,by first | exact bl_trans (bl_alloc (Below.refl _ _) _) b1 | exact bl_alloc (Below.refl _ _) _⟩
   have hh:=HH.out
   have h1:=HKA.out
   have h3:=HZ0.out
   rw[←HV.out]
   unfold oneB
   simp at h1 h3 ⊢
   simp[hh]
   try omega
 ·obtain ⟨a0,ha0⟩:∃x,(aa==0)=x:=⟨_,rfl⟩
  have HA0:=Lh ha0
  cases a0
  all_goals cases z0
  all_goals cases n0
  all_goals
   go_enter Tryz.func103,Tryz.ntmps103
   go_wp2
   go_ret
   refine ⟨ret_bool ?_,bl_alloc (Below.refl _ _) _⟩
   have hl:=HL.out
   have h1:=HA0.out
   have h2:=HZ0.out
   have h3:=HN0.out
   rw[←HV.out]
   unfold oneB
   simp[hl]at h1 h2 h3 ⊢
   try omega
 ·rcases (by omega:(0≤aa∧aa≤255)∨(0≤aa∧¬aa≤255)∨¬0≤aa) with ⟨g1,g2⟩ | ⟨g1,g2⟩ | g1
  all_goals cases z0
  all_goals cases n0
  all_goals
   go_enter Tryz.func103,Tryz.ntmps103
   go_wp2
   go_ret
   refine ⟨ret_bool ?_,bl_alloc (Below.refl _ _) _⟩
   have hl:=HL.out
   have h2:=HZ0.out
   have h3:=HN0.out
   rw[←HV.out]
   unfold oneB
   simp[hl]at h2 h3 ⊢
   try omega
 ·cases ka
  all_goals cases kb
  all_goals cases n0
  all_goals
   go_enter Tryz.func103,Tryz.ntmps103
   go_wp2_with (first
    | (go_at_call 156;refine (count_any _ _ _ HKA.out).mono ?_;rintro e w' ⟨rfl,rfl⟩)
    | (go_at_call 156;refine (count_any _ _ _ HKB.out).mono ?_;rintro e w' ⟨rfl,rfl⟩))
   go_ret
   refine ⟨ret_bool ?_,bl_alloc (Below.refl _ _) _⟩
   have hl:=HL.out
   have h1:=HKA.out
   have h2:=HKB.out
   have h3:=HN0.out
   rw[←HV.out]
   unfold oneB
   simp[hl]at h1 h2 h3 ⊢
   try omega
 ·have HF:Hid (v=false):=Lh (by rw[←HV.out];unfold oneB;simp[e1,e2,e3,e4,e5,e6,e7])
  have g1:(dd==1)=false:=beq_eq_false_iff_ne.2 e1
  have g2:(dd==2)=false:=beq_eq_false_iff_ne.2 e2
  have g3:(dd==3)=false:=beq_eq_false_iff_ne.2 e3
  have g4:(dd==4)=false:=beq_eq_false_iff_ne.2 e4
  have g5:(dd==5)=false:=beq_eq_false_iff_ne.2 e5
  have g6:(dd==6)=false:=beq_eq_false_iff_ne.2 e6
  have g7:(dd==7)=false:=beq_eq_false_iff_ne.2 e7
  clear e1 e2 e3 e4 e5 e6 e7
  go_enter Tryz.func103,Tryz.ntmps103
  go_wp2
  go_ret
  exact ⟨ret_bool HF.out.symm,bl_alloc (Below.refl _ _) _⟩
def measS (c:List Step):Nat × Bool:=if (wellP c).2=true then ((wellP c).1,true) else (0,false)
def joinM (d:Nat) (x:Nat × Bool):Nat × Bool:=if x.2=true then (max d x.1,true) else (0,false)
theorem meas_join (c:List Step):measS c=joinM 0 (wellP c):=by unfold measS joinM;split <;> simp
def lenV:Value→Nat
 | .slice _ m _=>m
 | _=>0
section
variable {τ:Type} {K:Nat} {code:τ→List Value}
theorem rd_behind (hcode:∀x,(code x).length=K) (hK:0<K) {w:World} {A:Option Addr} {n:Nat} {l:List τ} (h:Rd w K A n (l.flatMap code)) (k c:Nat) (hk:k≤n) (hc:n≤c):
  Rd w K (if c=k then A else A.map (·.add (k * K))) (n - k) ((l.drop k).flatMap code):=by
 have hl:=Rd.len hcode h hK
 refine ⟨by rw[flat_len hcode,List.length_drop,hl],fun h0=>?_⟩
 obtain ⟨b,off,rfl,hcell⟩:=h.2 (by omega)
 rw[if_neg (by omega)]
 refine ⟨b,off+k * K,by simp[Mem.add_plain],fun j u hu=>?_⟩
 have e:l.flatMap code=(l.take k).flatMap code++(l.drop k).flatMap code:=by rw[←List.flatMap_append,List.take_append_drop]
 rw[Nat.add_assoc]
 refine hcell (k * K+j) u ?_
 have hlk:((l.take k).flatMap code).length=k * K:=by rw[flat_len hcode,List.length_take,hl,Nat.min_eq_left hk]
 rw[e,List.getElem?_append_right (by omega),hlk,show k * K+j - k * K=j from by omega]
 exact hu
end
section
variable {w:World} {A:Option Addr} {n:Nat} {l:List Raw}
theorem At.behind (h:At w A n l) (k c:Nat) (hk:k≤n) (hc:n≤c):At w (if c=k then A else A.map (·.add (k * 4))) (n - k) (l.drop k):=
 ⟨rd_behind rc_len (by decide) h.1 k c hk hc,h.2.sub (fun _ hr=>List.mem_of_mem_drop hr)⟩
theorem At.fst (h:At w A n l) (k:Nat) (hk:k≤n):At w A k (l.take k):=
 ⟨rd_first rc_len (by decide) h.1 k hk,h.2.sub (fun _ hr=>List.mem_of_mem_take hr)⟩
end
theorem cell_kept {w:World} {a:Addr} {v:Value} (h:w.cell? a=some v) (o:Obj):(w.alloc o).cell? a=some v:=((bl_alloc (Below.refl _ _) o).cell (cell_lt h)).trans h
set_option maxHeartbeats 4000000 in
theorem measure_c (f:Nat):∀(X:List Raw) (A:Option Addr) (n c:Nat) (w:World) (r:Nat × Bool),X.length≤f→At w A n X→n≤c→n≤1000→(ss X).all oneB=true→measS (ss X)=r→
  Calls Tryz.prog 104 #[.slice A n c] w (RetNB w r):=by
 induction f with
 | zero=>
  intro X A n c w r hX hat hnc hn ho hr
  obtain rfl:X= []:=List.eq_nil_of_length_eq_zero (by omega)
  obtain rfl:n=0:=hat.len.symm
  have HF:Hid (r=(0,true)):=Lh hr.symm
  clear hr ho hat
  go_enter Tryz.func104,Tryz.ntmps104
  go_wp2
  go_loopw [0,2] (fun p dv wr=>p=.slice A 0 c∧dv=.int .i64 0∧Hid (Below w.heap.size w wr)) (fun p _ _=>lenV p)
  case atStart=>exact ⟨rfl,rfl,Lh (Below.refl _ _)⟩
  case round=>
   obtain ⟨rfl,rfl,HB⟩:=hrel
   go_wp2
   go_ret2
   exact ⟨by rw[HF.out];rfl,HB.out⟩
 | succ f ih=>
  intro X A n c w r hX hat hnc hn ho hr
  have HX:=Lh hX
  have HJ:Hid (r=joinM 0 (wellP (ss X))):=Lh (by rw[←hr,meas_join])
  have HAT:=Lh hat
  have HO:=Lh ho
  have HLN:=Lh hat.len
  have IH:=Lh ih
  clear hX hat ho hr ih
  go_enter Tryz.func104,Tryz.ntmps104
  go_wp2
  go_loopw [0,2] (fun p dv wr=>∃(B:Option Addr) (m c2 dp:Nat) (Y:List Raw),p=.slice B m c2∧dv=.int .i64 dp∧m≤n∧m≤c2∧dp≤1000∧Hid (At wr B m Y)∧Hid (Below w.heap.size w wr)∧Hid ((ss Y).all oneB=true)∧Hid (r=joinM dp (wellP (ss Y)))) (fun p _ _=>lenV p)
  case atStart=>exact ⟨A,n,c,0,X,rfl,rfl,Nat.le_refl _,hnc,Nat.zero_le _,HAT,Lh (Below.refl _ _),HO,HJ⟩
  case round =>
   obtain ⟨B,m,c2,dp,Y,rfl,rfl,hmn,hmc,hdp,HY,HB,HOY,HJY⟩:=hrel
   generalize wr=w1 at *
   by_cases hm:0<m
   ·obtain ⟨b,off,⟨⟨sd,sa,sb,st⟩,T,tn,tc⟩,rfl,hx,c0,c1,c2',c3,_,_⟩:=HY.out.at_ 0 hm
    simp only[Nat.zero_mul,Nat.add_zero]at c0 c1 c2' c3
    have k0:=cell_kept c0 (.cells #[.int .i64 0,.int .i64 0,.int .i64 0,.slice none 0 0] 113)
    have k1:=cell_kept c1 (.cells #[.int .i64 0,.int .i64 0,.int .i64 0,.slice none 0 0] 113)
    have k2:=cell_kept c2' (.cells #[.int .i64 0,.int .i64 0,.int .i64 0,.slice none 0 0] 113)
    have k3:=cell_kept c3 (.cells #[.int .i64 0,.int .i64 0,.int .i64 0,.slice none 0 0] 113)
    obtain ⟨Z,rfl⟩:∃Z,Y=⟨⟨sd,sa,sb,st⟩,T,tn,tc⟩::Z:=by
     cases Y with
     | nil=>simp at hx
     | cons y Z=>simp at hx;exact ⟨Z,by rw[hx]⟩
    have hss:ss (⟨⟨sd,sa,sb,st⟩,T,tn,tc⟩::Z)=⟨sd,sa,sb,st⟩::ss Z:=rfl
    have ho2:=HOY.out
    rw[hss,List.all_cons,Bool.and_eq_true]at ho2
    obtain ⟨ho1,ho3⟩:=ho2
    have HOZ:=Lh ho3
    have hd:=one_d _ ho1
    simp only at hd
    have HJ1:=HJY.out
    rw[hss]at HJ1
    obtain ⟨m1,hm1⟩:∃x,m - 1=x:=⟨_,rfl⟩
    obtain ⟨c3',hc3⟩:∃x,c2 - 1=x:=⟨_,rfl⟩
    have hzl:Z.length=m1:=by have:=HY.out.len;simp at this;omega
    have HSL:=Lh (ss_len Z)
    have HZL:=Lh hzl
    obtain ⟨B2,hB2⟩:∃B2,(if c2=1 then some (⟨b,off,none⟩:Addr) else some ⟨b,off+4,none⟩)=B2:=⟨_,rfl⟩
    have HZ:Hid (At w1 B2 m1 Z):=Lh (by
     have:=HY.out.behind 1 c2 (by omega) hmc
     rw[hm1,List.drop_one]at this
     rw[←hB2]
     simpa [Mem.add_plain] using this)
    have HXZ:Hid (Z.length≤f):=Lh (by have:=HX.out;have:=HLN.out;omega)
    have hm1n:m1+1≤n:=by omega
    have hm1c:m1≤c3' :=by omega
    have hmm:m1<m:=by omega
    obtain ⟨w2,hw2⟩:∃w2,w2=(w1.alloc (.cells #[.int .i64 sd,.int .i64 sa,.int .i64 sb,.slice T tn tc] 113)).drew:=⟨_,rfl⟩
    have HBK:Hid (Blk w2 w1.heap.size 113 #[.int .i64 sd,.int .i64 sa,.int .i64 sb,.slice T tn tc]):=Lh (by rw[hw2];exact Blk.new _ _ _)
    have HW2:Hid (Below w1.heap.size w1 w2):=Lh (by rw[hw2];exact (bl_alloc (Below.refl _ _) _).drew)
    have q0:=HBK.out.cell 0 _ rfl
    have q1:=HBK.out.cell 1 _ rfl
    have q2:=HBK.out.cell 2 _ rfl
    clear hx hss ho3
    go_wp2_with fail
    go_big_region
    rw[←hw2]
    clear hw2 k0 k1 k2 k3 c0 c1 c2' c3 hm1 hc3 hB2
    by_cases h4:sd=4
    ·subst h4
     by_cases hfar:(m1:Int)<sa
     ·have HF:Hid (r=(0,false)):=Lh (by rw[HJ1,well_skip _ _ rfl (by rw[HSL.out,HZL.out];exact hfar)];rfl)
      go_wp2
      go_ret2
      exact ⟨by rw[HF.out];rfl,bl_trans HB.out HW2.out⟩
     ·have HN:Hid (r=joinM dp (wellP (ss Z))):=Lh (by rw[HJ1,well_plain _ _ (by simp) (by rw[HSL.out,HZL.out];rintro ⟨_,h9⟩;exact hfar h9)])
      go_wp2
      go_roundw
      case rel=>exact ⟨B2,m1,c3',dp,Z,rfl,rfl,by omega,hm1c,hdp,Lh (HZ.out.below HW2.out),Lh (bl_trans HB.out HW2.out),HOZ,HN⟩
      case measure=>simp[lenV];omega
    by_cases h7:sd=7
    ·subst h7
     obtain ⟨g1,g2,g3,g4⟩:=one_either _ ho1 rfl
     simp only at g1 g2 g3 g4
     by_cases hfar:(m1:Int)<sa+sb
     ·have HF:Hid (r=(0,false)):=Lh (by rw[HJ1,well_out _ _ rfl (by rw[HSL.out,HZL.out];exact hfar)];rfl)
      go_wp2
      go_ret2
      exact ⟨by rw[HF.out];rfl,bl_trans HB.out HW2.out⟩
     ·obtain ⟨U,V,R,hZ2,hsa,hsb⟩:=either_parts Z sa sb (by omega) (by omega) (by rw[hzl];omega)
      obtain ⟨ul,hul⟩:∃x,U.length=x:=⟨_,rfl⟩
      obtain ⟨vl,hvl⟩:∃x,V.length=x:=⟨_,rfl⟩
      obtain ⟨rl,hrl⟩:∃x,R.length=x:=⟨_,rfl⟩
      have hzr:m1=ul+(vl+rl):=by rw[←hzl,hZ2];simp[hul,hvl,hrl]
      rw[hul]at hsa
      rw[hvl]at hsb
      subst hsa hsb
      have hall:(ss U).all oneB=true∧(ss V).all oneB=true∧(ss R).all oneB=true:=by
       have ho9:=HOZ.out
       rw[hZ2,ss_app,ss_app,List.all_append,List.all_append,Bool.and_eq_true,Bool.and_eq_true]at ho9;exact ho9
      obtain ⟨en,hen⟩:∃x,x=ul+vl:=⟨_,rfl⟩
      obtain ⟨⟨ud,ub⟩,hU⟩:∃x,wellP (ss U)=x:=⟨_,rfl⟩
      obtain ⟨⟨vd,vb⟩,hV⟩:∃x,wellP (ss V)=x:=⟨_,rfl⟩
      have dU:ud≤ul:=by have:=well_deep _ (ss U) (Nat.le_refl _) hall.1;rw[hU,ss_len,hul]at this;exact this
      have dV:vd≤vl:=by have:=well_deep _ (ss V) (Nat.le_refl _) hall.2.1;rw[hV,ss_len,hvl]at this;exact this
      have HW:Hid (r=joinM dp (max (max (wellP (ss R)).1 (1+ud)) (1+vd),(ub && vb) && (wellP (ss R)).2)):=Lh (by
       rw[HJ1,hZ2,ss_app,ss_app,well_either _ (ss U) (ss V) (ss R) rfl (by rw[ss_len,hul]) (by rw[ss_len,hvl]),hU,hV])
      have HZ2:=Lh (HZ.out.below HW2.out)
      have HAU:Hid (At w2 B2 ul U):=Lh (by
       have:=HZ2.out.fst ul (by omega)
       rwa [hZ2,←hul,List.take_left,hul]at this)
      obtain ⟨B3,hB3⟩:∃B3,(if c3' =ul then B2 else Option.map (fun x=>x.add (ul * 4)) B2)=B3:=⟨_,rfl⟩
      obtain ⟨c4,hc4⟩:∃x,c3' - ul=x:=⟨_,rfl⟩
      have hev:en - ul=vl:=by omega
      have HAV:Hid (At w2 B3 vl V):=Lh (by
       have:=(HZ2.out.behind ul c3' (by omega) (by omega)).fst vl (by omega)
       rw[hB3]at this
       rwa [hZ2,←hul,List.drop_left,←hvl,List.take_left,hvl]at this)
      obtain ⟨B4,hB4⟩:∃B4,(if c3' =en then B2 else Option.map (fun x=>x.add (en * 4)) B2)=B4:=⟨_,rfl⟩
      obtain ⟨c5,hc5⟩:∃x,c3' - en=x:=⟨_,rfl⟩
      have her:m1 - en=rl:=by omega
      have HAR:Hid (At w2 B4 rl R):=Lh (by
       have:=HZ2.out.behind en c3' (by omega) (by omega)
       rw[hB4,her]at this
       rwa [hZ2,←List.append_assoc,hen,←hul,←hvl,←List.length_append,List.drop_left]at this)
      have hei:(ul:Int)+(vl:Int)=(en:Int):=by omega
      have hle1:ul≤m1:=by omega
      have hle2:ul≤c3' :=by omega
      have hle3:en≤m1:=by omega
      have hle4:en≤c3' :=by omega
      have hle5:ul≤en:=by omega
      have hle6:rl≤c5:=by omega
      have hle7:vl≤c4:=by omega
      have HOU:=Lh hall.1
      have HOV:=Lh hall.2.1
      have HOR:=Lh hall.2.2
      obtain ⟨ux,hmu,hux⟩:∃x,measS (ss U)=(x,ub)∧(ub=true→x=ud):=⟨if ub=true then ud else 0,by unfold measS;rw[hU];cases ub <;> rfl,by rintro rfl;rfl⟩
      obtain ⟨vx,hmv,hvx⟩:∃x,measS (ss V)=(x,vb)∧(vb=true→x=vd):=⟨if vb=true then vd else 0,by unfold measS;rw[hV];cases vb <;> rfl,by rintro rfl;rfl⟩
      have HMU:=Lh hmu
      have HMV:=Lh hmv
      have HUX:=Lh hux
      have HVX:=Lh hvx
      clear hmu hmv hux hvx
      have HUL:Hid (U.length≤f):=Lh (by have:=HXZ.out;rw[hzl]at this;omega)
      have HVL:Hid (V.length≤f):=Lh (by have:=HXZ.out;rw[hzl]at this;omega)
      have HR:Hid (rl=m1 - en∧en+rl=m1):=Lh ⟨by omega,by omega⟩
      have HEN:=Lh hen
      clear hall hU hV hZ2 hul hvl hrl hzr hzl ho1 HJ1 hfar g1 g2 g3 g4 hen HZ2
      go_wp2_with fail
      refine (IH.out U _ _ _ _ (ux,ub) HUL.out HAU.out hle2 (by omega) HOU.out HMU.out).mono ?_
      rintro e w3 ⟨rfl,b3⟩
      have HB3:=Lh b3
      have K3:=Lh (HBK.out.below b3)
      clear q0 q1 q2 b3
      have q0:=K3.out.cell 0 _ rfl
      have q1:=K3.out.cell 1 _ rfl
      have q2:=K3.out.cell 2 _ rfl
      go_wp2_with fail
      refine (IH.out V _ _ _ _ (vx,vb) HVL.out (HAV.out.below HB3.out) hle7 (by omega) HOV.out HMV.out).mono ?_
      rintro e w4 ⟨rfl,b4⟩
      have HB4:=Lh (bl_trans HB3.out b4)
      clear q0 q1 q2 b4 hB3 hc4 hev
      cases ub with
      | false=>
       have HF:Hid (r=(0,false)):=Lh (by rw[HW.out];simp[joinM])
       go_wp2
       go_ret2
       exact ⟨by rw[HF.out];rfl,bl_trans HB.out (bl_trans HW2.out HB4.out)⟩
      | true =>
       cases vb with
       | false=>
        have HF:Hid (r=(0,false)):=Lh (by rw[HW.out];simp[joinM])
        go_wp2
        go_ret2
        exact ⟨by rw[HF.out];rfl,bl_trans HB.out (bl_trans HW2.out HB4.out)⟩
       | true =>
        obtain rfl:=HUX.out rfl
        obtain rfl:=HVX.out rfl
        obtain ⟨mx,hmx⟩:∃mx:Nat,max (max dp (ux+1)) (vx+1)=mx:=⟨_,rfl⟩
        have hmi:(if (vx:Int)+1 > (if (ux:Int)+1 > (dp:Int) then (ux:Int)+1 else (dp:Int)) then (vx:Int)+1 else (if (ux:Int)+1 > (dp:Int) then (ux:Int)+1 else (dp:Int)))=(mx:Int):=by
         rw[←hmx]
         split <;> split <;> omega
        have HMX:Hid (mx≤1000):=Lh (by have:=HEN.out;omega)
        have HN:Hid (r=joinM mx (wellP (ss R))):=Lh (by
         rw[HW.out,←hmx]
         unfold joinM
         cases (wellP (ss R)).2
         ·rfl
         ·simp only[Bool.and_self,if_true,Prod.mk.injEq,and_true]
          omega)
        clear hmx
        go_wp2
        go_roundw
        case rel=>exact ⟨B4,rl,c5,mx,R,rfl,rfl,by omega,hle6,HMX.out,Lh (HAR.out.below HB4.out),Lh (bl_trans HB.out (bl_trans HW2.out HB4.out)),HOR,HN⟩
        case measure=>simp[lenV];have:=HR.out;omega
    ·have HN:Hid (r=joinM dp (wellP (ss Z))):=Lh (by rw[HJ1,well_plain _ _ h7 (fun h9=>h4 h9.1)])
     have e4:(sd==4)=false:=beq_eq_false_iff_ne.2 h4
     have e7:(sd==7)=false:=beq_eq_false_iff_ne.2 h7
     clear h4 h7
     go_wp2
     go_roundw
     case rel=>exact ⟨B2,m1,c3',dp,Z,rfl,rfl,by omega,hm1c,hdp,Lh (HZ.out.below HW2.out),Lh (bl_trans HB.out HW2.out),HOZ,HN⟩
     case measure=>simp[lenV];omega
   ·have HF:Hid (r=(dp,true)):=Lh (by
     have hl:=HY.out.len
     obtain rfl:Y= []:=List.eq_nil_of_length_eq_zero (by omega)
     rw[HJY.out]
     show joinM dp (wellP [])=_
     rw[well_nil];simp[joinM])
    go_wp2
    go_ret2
    exact ⟨by rw[HF.out];rfl,HB.out⟩
set_option maxHeartbeats 1000000 in
theorem check_c (l:List Raw) (A:Option Addr) (n c:Nat) (w:World) (v:Int) (hat:At w A n l) (hnc:n≤c) (hlim:Lim l) (hv:checkS (ss l)=v) (hn:n≤1000000):
  Calls Tryz.prog 49 #[.slice A n c] w (RetI w v):=by
 have HL:=Lh hat.len
 have HA:=Lh hat
 have HV:=Lh hv
 have HM:=Lh hlim
 clear hat hv hlim
 by_cases h24:24<n
 ·have HF:Hid (v=1):=Lh (by rw[←HV.out];exact check_many _ (by rw[ss_len,HL.out];exact h24))
  go_enter Tryz.func49,Tryz.ntmps49
  go_wp2
  go_ret
  exact ⟨ret_int HF.out.symm,Below.refl _ _⟩
 ·go_enter Tryz.func49,Tryz.ntmps49
  go_wp2
  go_loopw [12] (fun i wr=>∃k:Nat,k≤n∧i=.int .i64 k∧Hid (Below w.heap.size w wr)∧Hid (((ss l).take k).all oneB=true)) (fun i _=>n - (intOf i).toNat)
  case atStart=>exact ⟨0,Nat.zero_le _,rfl,Lh (Below.refl _ _),Lh rfl⟩
  case round=>
   obtain ⟨k,hk,rfl,bb,HALL⟩:=hrel
   generalize wr=w1 at *
   by_cases hlt:k<n
   ·obtain ⟨b,off,⟨⟨sd,sa,sb,st⟩,T,tn,tc⟩,rfl,hx,c0,c1,c2,c3,hrd,_⟩:=(HA.out.below bb.out).at_ k hlt
    simp only at c0 c1 c2 c3
    have hs:=Lh (take_all (ss l) oneB k _ (ss_at l k _ hx))
    have HX:=Lh hx
    have htn:tn≤1000000:=HM.out _ (List.mem_of_getElem? hx)
    have HRD:=Lh hrd
    obtain ⟨ov,hov⟩:∃x,oneB ⟨sd,sa,sb,st⟩=x:=⟨_,rfl⟩
    have HOV:=Lh hov
    clear hx hrd hov
    go_wp2_with fail
    refine (step_c ⟨⟨sd,sa,sb,st⟩,T,tn,tc⟩ _ ov (HRD.out.alloc _) htn HOV.out).mono ?_
    rintro e w2 ⟨rfl,b2⟩
    have HB2:=Lh (bl_trans (bl_alloc bb.out _) b2)
    clear b2
    cases ov with
    | true=>
     go_wp2
     go_roundw
     case rel=>exact ⟨k+1,by omega,by go_num,HB2,Lh (by rw[hs.out,HALL.out,HOV.out];rfl)⟩
     case measure=>simp[intOf];omega
    | false=>
     have HF:Hid (v=1):=Lh (by rw[←HV.out];exact check_bad _ k _ (ss_at l k _ HX.out) HOV.out)
     go_wp2
     go_ret
     exact ⟨ret_int HF.out.symm,HB2.out⟩
   ·have HO:Hid ((ss l).all oneB=true):=Lh (by have:=HALL.out;rwa [List.take_of_length_le (by rw[ss_len,HL.out];omega)]at this)
    obtain ⟨⟨dp,wl⟩,hw⟩:∃x,measS (ss l)=x:=⟨_,rfl⟩
    have HW:=Lh hw
    have HDW:Hid (wl=(wellP (ss l)).2∧(wl=true→dp=(wellP (ss l)).1)):=Lh (by
     unfold measS at hw
     cases h9:(wellP (ss l)).2
     ·rw[h9]at hw;simp at hw;exact ⟨hw.2,by intro h8;rw[h8]at hw;simp at hw⟩
     ·rw[h9]at hw;simp at hw;exact ⟨hw.2,fun _=>hw.1.symm⟩)
    have HCV:Hid (v=if wl=true then (if 6<dp then 5 else 0) else 2):=Lh (by
     rw[←HV.out];unfold checkS;rw[if_pos (by rw[HO.out,ss_len,HL.out];simp;omega),←HDW.out.1]
     cases wl
     ·rfl
     ·rw[HDW.out.2 rfl])
    clear hw HALL
    go_wp2_with fail
    refine (measure_c l.length l _ n c _ (dp,wl) (Nat.le_refl _) (HA.out.below bb.out) hnc (by omega) HO.out HW.out).mono ?_
    rintro e w2 ⟨rfl,b2⟩
    have HB2:=Lh (bl_trans bb.out b2)
    clear b2
    cases wl with
    | false=>
     go_wp2
     go_ret
     exact ⟨ret_int (by rw[HCV.out];rfl),HB2.out⟩
    | true=>
     by_cases h6:6<dp
     ·go_wp2
      go_ret
      exact ⟨ret_int (by rw[HCV.out];simp[h6]),HB2.out⟩
     ·go_wp2
      go_ret
      exact ⟨ret_int (by rw[HCV.out];simp[h6]),HB2.out⟩
end Go.Proofs.YtgghaodcfgbjlaaGreat.Code
