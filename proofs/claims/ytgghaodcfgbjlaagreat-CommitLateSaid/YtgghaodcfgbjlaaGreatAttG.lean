/-
 WHAT THE LAWS OF LAYER 11 MAKE OF WORLDS; what they ask of a path. No conditions beyond those that each theorem states.
-/
import Derived.Test.YtgghaodcfgbjlaaGreatAttF
import Derived.Test.YtgghaodcfgbjlaaGreatMemA
import Derived.Test.YtgghaodcfgbjlaaGreatStripeA
import Derived.Test.YtgghaodcfgbjlaaGreatCodeA
set_option maxRecDepth 100000
namespace Go.Proofs.YtgghaodcfgbjlaaGreat.Attempt
open Go.ChangeShapes Go.WideShapes Go.ChangeAt Go.RowKit Mem Go.Proofs.YtgghaodcfgbjlaaGreat.Code
def awH:List Heap.Cell:= [⟨true,5⟩,⟨true,0⟩]
def awC (g:Nat):List Raw:= [⟨⟨7,3,1,[]⟩,none,0,0⟩,⟨⟨3,1,0,[⟨1,1⟩]⟩,some ⟨g,0,none⟩,1,1⟩,⟨⟨1,2,0,[]⟩,none,0,0⟩,⟨⟨5,0,0,[]⟩,none,0,0⟩,⟨⟨3,0,0,[⟨1,1⟩]⟩,some ⟨g,0,none⟩,1,1⟩]
def awS:List Step:= [⟨7,3,1,[]⟩,⟨3,1,0,[⟨1,1⟩]⟩,⟨1,2,0,[]⟩,⟨5,0,0,[]⟩,⟨3,0,0,[⟨1,1⟩]⟩]
theorem aw_terms {w:World} {g:Nat} (h:Rd w 2 (some ⟨g,0,none⟩) 1 (Term.ops [⟨1,1⟩])):Terms w (awC g):=by
 intro r hr
 unfold awC at hr
 simp only[List.mem_cons,List.not_mem_nil,or_false]at hr
 rcases hr with rfl | rfl | rfl | rfl | rfl
 ·exact ⟨Rd.none_,Nat.le_refl _,by show 0≤9223372036854775807;omega⟩
 ·exact ⟨h,Nat.le_refl _,by show 1≤9223372036854775807;omega⟩
 ·exact ⟨Rd.none_,Nat.le_refl _,by show 0≤9223372036854775807;omega⟩
 ·exact ⟨Rd.none_,Nat.le_refl _,by show 0≤9223372036854775807;omega⟩
 ·exact ⟨h,Nat.le_refl _,by show 1≤9223372036854775807;omega⟩
theorem aw_lim (g:Nat):Lim (awC g):=by
 intro r hr
 unfold awC at hr
 simp only[List.mem_cons,List.not_mem_nil,or_false]at hr
 rcases hr with rfl | rfl | rfl | rfl | rfl
 ·show 0≤1000000;omega
 ·show 1≤1000000;omega
 ·show 0≤1000000;omega
 ·show 0≤1000000;omega
 ·show 1≤1000000;omega
def awT:Try:=⟨3,7,0,[0,0,0,0,0,0,0,0],[],[],⟨[],[]⟩,[],0,0⟩
def awU:Try:=⟨3,7,5,[0,0,0,0,0,0,0,0],[2],[⟨0,7,5⟩],⟨[⟨0,1⟩],[]⟩,[],1,0⟩
def awV:Try:=⟨3,7,2,[0,0,0,0,0,0,0,0],[1],[],⟨[⟨1,1⟩],[0]⟩,[⟨4,5,0,[0,0,0,0,0,0,0,0]⟩],5,0⟩
theorem aw_begin:beginS awS 3 7=(awT,true):=by decide+kernel
theorem aw_run1:runS awS awH [⟨7,0⟩] awT=(awU,5,true):=by decide+kernel
theorem aw_run2:runS awS awH [⟨8,0⟩] awT=(awV,3,true):=by decide+kernel
theorem aw_run3:runS awS awH [⟨0,3⟩] awT=(awV,3,true):=by decide+kernel
theorem aw_step:stepS awS awH [⟨0,0⟩] awU=(awU,false):=by decide+kernel
theorem aw_out:outT awU=⟨1,0,[0,0,0,0,0,0,0,0],[2],[0],[⟨0,1⟩]⟩:=by decide+kernel
set_option maxHeartbeats 3000000 in
theorem awake_any (w:World):Calls Tryz.prog 12 #[] w (RetB w true):=by
 obtain ⟨w1,hw1⟩:∃w1,w1=((w.alloc (.cells (Term.ops [⟨1,1⟩]).toArray 115)).alloc (.cells (Heap.cs awH).toArray 117)).alloc (.cells (rs (awC w.heap.size)).toArray 113):=⟨_,rfl⟩
 have hb1:Below w.heap.size w w1:=by rw[hw1];exact bl_alloc (bl_alloc (bl_alloc (Below.refl _ _) _) _) _
 have HC:Hid (At w1 (some ⟨w.heap.size+1+1,0,none⟩) 5 (awC w.heap.size)):=Lh (by
  rw[hw1]
  exact ⟨Rd.builtAt _ 4 5 (rs (awC w.heap.size)) _ rfl (by simp),aw_terms (((Rd.built w 2 1 (Term.ops [⟨1,1⟩]) _ rfl).alloc _).alloc _)⟩)
 have HH:Hid (Rd w1 2 (some ⟨w.heap.size+1,0,none⟩) 2 (Heap.cs awH)):=Lh (by rw[hw1];exact (Rd.builtAt _ 2 2 (Heap.cs awH) _ rfl (by simp)).alloc _)
 have BB:=Lh hb1
 have HI0:Hid (Inv awS awT):=Lh (begin_inv aw_begin)
 have HI1:Hid (Inv awS awU):=Lh (run_inv HI0.out aw_run1).1
 have HBG:Hid (∀W:World,Below w1.heap.size w1 W→Calls Tryz.prog 13 #[.slice (some ⟨w.heap.size+1+1,0,none⟩) 5 5,.int .i64 3,.int .i64 7] W fun e w' =>∃y:TL,e=.returned (.tuple #[.agg #[.int .i64 3,.int .i64 7,.int .i64 0,.slice y.R 8 y.rc,.slice y.P 0 y.pc,.slice y.D 0 y.dc,.slice y.L 0 y.lc,.slice y.M 0 y.mc,.slice y.F y.fl.length y.fc,.int .i64 0,.int .i64 0],.int .i64 0])∧TOwn W w' awT y∧Below W.heap.size W w'):=Lh (fun W hW=>(begin_c (awC w.heap.size) _ 5 5 3 7 W awT true (HC.out.below hW) (by decide) (aw_lim _) (by decide) aw_begin).mono (fun e w' ⟨y,h1,h2,_,h4⟩=>⟨y,h1,h2,h4⟩))
 have HR1:Hid (∀(W:World) (A:Option Addr) (y:TL),Below w1.heap.size w1 W→TRd W awT y→Rd W 2 A 1 (Stripe.rs [⟨7,0⟩])→Calls Tryz.prog 48 #[.agg #[.int .i64 3,.int .i64 7,.int .i64 0,.slice y.R 8 y.rc,.slice y.P 0 y.pc,.slice y.D 0 y.dc,.slice y.L 0 y.lc,.slice y.M 0 y.mc,.slice y.F y.fl.length y.fc,.int .i64 0,.int .i64 0],.slice (some ⟨w.heap.size+1+1,0,none⟩) 5 5,.slice (some ⟨w.heap.size+1,0,none⟩) 2 2,.slice A 1 1] W fun e w' =>∃z:TL,e=.returned (.tuple #[.agg #[.int .i64 3,.int .i64 7,.int .i64 5,.slice z.R 8 z.rc,.slice z.P 1 z.pc,.slice z.D 1 z.dc,.slice z.L 1 z.lc,.slice z.M 0 z.mc,.slice z.F z.fl.length z.fc,.int .i64 1,.int .i64 0],.int .i64 5,.int .i64 0])∧TOwn W w' awU z∧Below W.heap.size W w'):=Lh (fun W A y hW hy hr=>(run_c (awC w.heap.size) _ 5 5 awH _ 2 2 [⟨7,0⟩] A 1 1 awT y W (SPre.mk_ (HC.out.below hW) (by decide) (aw_lim _) (by decide) (HH.out.below hW) (by decide) hr (by decide) hy HI0.out) (awU,5,true) aw_run1).mono (fun e w' ⟨y,h1,h2,_,h4⟩=>⟨y,h1,h2,h4⟩))
 have HR2:Hid (∀(W:World) (A:Option Addr) (y:TL),Below w1.heap.size w1 W→TRd W awT y→Rd W 2 A 1 (Stripe.rs [⟨8,0⟩])→Calls Tryz.prog 48 #[.agg #[.int .i64 3,.int .i64 7,.int .i64 0,.slice y.R 8 y.rc,.slice y.P 0 y.pc,.slice y.D 0 y.dc,.slice y.L 0 y.lc,.slice y.M 0 y.mc,.slice y.F y.fl.length y.fc,.int .i64 0,.int .i64 0],.slice (some ⟨w.heap.size+1+1,0,none⟩) 5 5,.slice (some ⟨w.heap.size+1,0,none⟩) 2 2,.slice A 1 1] W fun e w' =>∃z:TL,e=.returned (.tuple #[.agg #[.int .i64 3,.int .i64 7,.int .i64 2,.slice z.R 8 z.rc,.slice z.P 1 z.pc,.slice z.D 0 z.dc,.slice z.L 1 z.lc,.slice z.M 1 z.mc,.slice z.F z.fl.length z.fc,.int .i64 5,.int .i64 0],.int .i64 3,.int .i64 0])∧TOwn W w' awV z∧Below W.heap.size W w'):=Lh (fun W A y hW hy hr=>(run_c (awC w.heap.size) _ 5 5 awH _ 2 2 [⟨8,0⟩] A 1 1 awT y W (SPre.mk_ (HC.out.below hW) (by decide) (aw_lim _) (by decide) (HH.out.below hW) (by decide) hr (by decide) hy HI0.out) (awV,3,true) aw_run2).mono (fun e w' ⟨y,h1,h2,_,h4⟩=>⟨y,h1,h2,h4⟩))
 have HR3:Hid (∀(W:World) (A:Option Addr) (y:TL),Below w1.heap.size w1 W→TRd W awT y→Rd W 2 A 1 (Stripe.rs [⟨0,3⟩])→Calls Tryz.prog 48 #[.agg #[.int .i64 3,.int .i64 7,.int .i64 0,.slice y.R 8 y.rc,.slice y.P 0 y.pc,.slice y.D 0 y.dc,.slice y.L 0 y.lc,.slice y.M 0 y.mc,.slice y.F y.fl.length y.fc,.int .i64 0,.int .i64 0],.slice (some ⟨w.heap.size+1+1,0,none⟩) 5 5,.slice (some ⟨w.heap.size+1,0,none⟩) 2 2,.slice A 1 1] W fun e w' =>∃z:TL,e=.returned (.tuple #[.agg #[.int .i64 3,.int .i64 7,.int .i64 2,.slice z.R 8 z.rc,.slice z.P 1 z.pc,.slice z.D 0 z.dc,.slice z.L 1 z.lc,.slice z.M 1 z.mc,.slice z.F z.fl.length z.fc,.int .i64 5,.int .i64 0],.int .i64 3,.int .i64 0])∧TOwn W w' awV z∧Below W.heap.size W w'):=Lh (fun W A y hW hy hr=>(run_c (awC w.heap.size) _ 5 5 awH _ 2 2 [⟨0,3⟩] A 1 1 awT y W (SPre.mk_ (HC.out.below hW) (by decide) (aw_lim _) (by decide) (HH.out.below hW) (by decide) hr (by decide) hy HI0.out) (awV,3,true) aw_run3).mono (fun e w' ⟨y,h1,h2,_,h4⟩=>⟨y,h1,h2,h4⟩))
 have HSP:Hid (∀(W:World) (A:Option Addr) (y:TL),Below w1.heap.size w1 W→TRd W awU y→Rd W 2 A 1 (Stripe.rs [⟨0,0⟩])→Calls Tryz.prog 18 #[.agg #[.int .i64 3,.int .i64 7,.int .i64 5,.slice y.R 8 y.rc,.slice y.P 1 y.pc,.slice y.D 1 y.dc,.slice y.L 1 y.lc,.slice y.M 0 y.mc,.slice y.F y.fl.length y.fc,.int .i64 1,.int .i64 0],.slice (some ⟨w.heap.size+1+1,0,none⟩) 5 5,.slice (some ⟨w.heap.size+1,0,none⟩) 2 2,.slice A 1 1] W fun e w' =>∃z:TL,e=.returned (.tuple #[.agg #[.int .i64 3,.int .i64 7,.int .i64 5,.slice z.R 8 z.rc,.slice z.P 1 z.pc,.slice z.D 1 z.dc,.slice z.L 1 z.lc,.slice z.M 0 z.mc,.slice z.F z.fl.length z.fc,.int .i64 1,.int .i64 0],.int .i64 1])∧TOwn W w' awU z∧Below W.heap.size W w'):=Lh (fun W A y hW hy hr=>(step_c (awC w.heap.size) _ 5 5 awH _ 2 2 [⟨0,0⟩] A 1 1 awU y W (SPre.mk_ (HC.out.below hW) (by decide) (aw_lim _) (by decide) (HH.out.below hW) (by decide) hr (by decide) hy HI1.out) awU false aw_step).mono (fun e w' ⟨y,h1,h2,_,h4⟩=>⟨y,h1,h2,h4⟩))
 have HOU:Hid (∀(W:World) (y:TL),TRd W awU y→Calls Tryz.prog 22 #[.agg #[.int .i64 3,.int .i64 7,.int .i64 5,.slice y.R 8 y.rc,.slice y.P 1 y.pc,.slice y.D 1 y.dc,.slice y.L 1 y.lc,.slice y.M 0 y.mc,.slice y.F y.fl.length y.fc,.int .i64 1,.int .i64 0]] W fun e w' =>∃A1 c1 A2 c2 A3 c3 A4 c4,e=.returned (.agg #[.int .i64 1,.int .i64 0,.slice A1 8 c1,.slice A2 1 c2,.slice A3 1 c3,.slice A4 1 c4])∧Model.OutAt w' ⟨1,0,[0,0,0,0,0,0,0,0],[2],[0],[⟨0,1⟩]⟩ A1 A2 A3 A4 8 1 1 1∧Below W.heap.size W w'):=Lh (fun W y hy=>out_c awU y W _ 8 1 1 1 hy (HI1.out.small hy) aw_out rfl rfl rfl rfl)
 clear hb1
 subst hw1
 go_enter Tryz.func12,Tryz.ntmps12
 go_wp2_with fail
 refine (HBG.out _ (Below.refl _ _)).mono ?_
 rintro e v1 ⟨y1,rfl,ho,b_⟩
 have HT:=Lh (ho.rd.below (bl_alloc (Below.refl v1.heap.size v1) (.cells #[.int .i64 3,.int .i64 7,.int .i64 0,.slice y1.R 8 y1.rc,.slice y1.P 0 y1.pc,.slice y1.D 0 y1.dc,.slice y1.L 0 y1.lc,.slice y1.M 0 y1.mc,.slice y1.F y1.fl.length y1.fc,.int .i64 0,.int .i64 0] 34)))
 have NB:=Lh (bl_alloc b_ (.cells #[.int .i64 3,.int .i64 7,.int .i64 0,.slice y1.R 8 y1.rc,.slice y1.P 0 y1.pc,.slice y1.D 0 y1.dc,.slice y1.L 0 y1.lc,.slice y1.M 0 y1.mc,.slice y1.F y1.fl.length y1.fc,.int .i64 0,.int .i64 0] 34))
 have KT:Hid (Blk (v1.alloc (.cells #[.int .i64 3,.int .i64 7,.int .i64 0,.slice y1.R 8 y1.rc,.slice y1.P 0 y1.pc,.slice y1.D 0 y1.dc,.slice y1.L 0 y1.lc,.slice y1.M 0 y1.mc,.slice y1.F y1.fl.length y1.fc,.int .i64 0,.int .i64 0] 34)) v1.heap.size 34 #[.int .i64 3,.int .i64 7,.int .i64 0,.slice y1.R 8 y1.rc,.slice y1.P 0 y1.pc,.slice y1.D 0 y1.dc,.slice y1.L 0 y1.lc,.slice y1.M 0 y1.mc,.slice y1.F y1.fl.length y1.fc,.int .i64 0,.int .i64 0]):=Lh (Blk.new _ _ _)
 clear ho b_
 have c0:=KT.out.cell 0 _ rfl
 have c1:=KT.out.cell 1 _ rfl
 have c2:=KT.out.cell 2 _ rfl
 have c3:=KT.out.cell 3 _ rfl
 have c4:=KT.out.cell 4 _ rfl
 have c5:=KT.out.cell 5 _ rfl
 have c6:=KT.out.cell 6 _ rfl
 have c7:=KT.out.cell 7 _ rfl
 have c8:=KT.out.cell 8 _ rfl
 have c9:=KT.out.cell 9 _ rfl
 have c10:=KT.out.cell 10 _ rfl
 go_wp2_with fail
 have hs:(v1.alloc (.cells #[.int .i64 3,.int .i64 7,.int .i64 0,.slice y1.R 8 y1.rc,.slice y1.P 0 y1.pc,.slice y1.D 0 y1.dc,.slice y1.L 0 y1.lc,.slice y1.M 0 y1.mc,.slice y1.F y1.fl.length y1.fc,.int .i64 0,.int .i64 0] 34)).heap.size=v1.heap.size+1:=by simp
 generalize v1.alloc (.cells #[.int .i64 3,.int .i64 7,.int .i64 0,.slice y1.R 8 y1.rc,.slice y1.P 0 y1.pc,.slice y1.D 0 y1.dc,.slice y1.L 0 y1.lc,.slice y1.M 0 y1.mc,.slice y1.F y1.fl.length y1.fc,.int .i64 0,.int .i64 0] 34)=W1 at *
 generalize v1.heap.size=g1 at *
 clear c0 c1 c2 c3 c4 c5 c6 c7 c8 c9 c10
 have nr:=bl_alloc (Below.refl W1.heap.size W1) (.cells #[.int .i64 7,.int .i64 0] 92)
 have hr:Rd (W1.alloc (.cells #[.int .i64 7,.int .i64 0] 92)) 2 (some ⟨g1+1,0,none⟩) 1 (Stripe.rs [⟨7,0⟩]):=by rw[←hs];exact Rd.built W1 2 1 (Stripe.rs [⟨7,0⟩]) 92 rfl
 refine (HR1.out (W1.alloc (.cells #[.int .i64 7,.int .i64 0] 92)) (some ⟨g1+1,0,none⟩) y1 (bl_trans NB.out nr) (HT.out.below nr) hr).mono ?_
 rintro e v2 ⟨y2,rfl,ho,b_⟩
 have na:=bl_alloc (bl_trans nr b_) (.cells #[.int .i64 3,.int .i64 7,.int .i64 5,.slice y2.R 8 y2.rc,.slice y2.P 1 y2.pc,.slice y2.D 1 y2.dc,.slice y2.L 1 y2.lc,.slice y2.M 0 y2.mc,.slice y2.F y2.fl.length y2.fc,.int .i64 1,.int .i64 0] 34)
 replace NB:=Lh (bl_trans NB.out na)
 replace KT:=Lh (KT.out.below na)
 replace HT:=Lh (HT.out.below na)
 have K2:Hid (Blk (v2.alloc (.cells #[.int .i64 3,.int .i64 7,.int .i64 5,.slice y2.R 8 y2.rc,.slice y2.P 1 y2.pc,.slice y2.D 1 y2.dc,.slice y2.L 1 y2.lc,.slice y2.M 0 y2.mc,.slice y2.F y2.fl.length y2.fc,.int .i64 1,.int .i64 0] 34)) v2.heap.size 34 #[.int .i64 3,.int .i64 7,.int .i64 5,.slice y2.R 8 y2.rc,.slice y2.P 1 y2.pc,.slice y2.D 1 y2.dc,.slice y2.L 1 y2.lc,.slice y2.M 0 y2.mc,.slice y2.F y2.fl.length y2.fc,.int .i64 1,.int .i64 0]):=Lh (Blk.new _ _ _)
 have H2:=Lh (ho.rd.below (bl_alloc (Below.refl v2.heap.size v2) (.cells #[.int .i64 3,.int .i64 7,.int .i64 5,.slice y2.R 8 y2.rc,.slice y2.P 1 y2.pc,.slice y2.D 1 y2.dc,.slice y2.L 1 y2.lc,.slice y2.M 0 y2.mc,.slice y2.F y2.fl.length y2.fc,.int .i64 1,.int .i64 0] 34)))
 clear ho b_ nr na hr hs
 have c0:=KT.out.cell 0 _ rfl
 have c1:=KT.out.cell 1 _ rfl
 have c2:=KT.out.cell 2 _ rfl
 have c3:=KT.out.cell 3 _ rfl
 have c4:=KT.out.cell 4 _ rfl
 have c5:=KT.out.cell 5 _ rfl
 have c6:=KT.out.cell 6 _ rfl
 have c7:=KT.out.cell 7 _ rfl
 have c8:=KT.out.cell 8 _ rfl
 have c9:=KT.out.cell 9 _ rfl
 have c10:=KT.out.cell 10 _ rfl
 go_wp2_with fail
 have hs:(v2.alloc (.cells #[.int .i64 3,.int .i64 7,.int .i64 5,.slice y2.R 8 y2.rc,.slice y2.P 1 y2.pc,.slice y2.D 1 y2.dc,.slice y2.L 1 y2.lc,.slice y2.M 0 y2.mc,.slice y2.F y2.fl.length y2.fc,.int .i64 1,.int .i64 0] 34)).heap.size=v2.heap.size+1:=by simp
 generalize v2.alloc (.cells #[.int .i64 3,.int .i64 7,.int .i64 5,.slice y2.R 8 y2.rc,.slice y2.P 1 y2.pc,.slice y2.D 1 y2.dc,.slice y2.L 1 y2.lc,.slice y2.M 0 y2.mc,.slice y2.F y2.fl.length y2.fc,.int .i64 1,.int .i64 0] 34)=W2 at *
 generalize v2.heap.size=g2 at *
 clear c0 c1 c2 c3 c4 c5 c6 c7 c8 c9 c10
 have nr:=bl_alloc (Below.refl W2.heap.size W2) (.cells #[.int .i64 8,.int .i64 0] 92)
 have hr:Rd (W2.alloc (.cells #[.int .i64 8,.int .i64 0] 92)) 2 (some ⟨g2+1,0,none⟩) 1 (Stripe.rs [⟨8,0⟩]):=by rw[←hs];exact Rd.built W2 2 1 (Stripe.rs [⟨8,0⟩]) 92 rfl
 refine (HR2.out (W2.alloc (.cells #[.int .i64 8,.int .i64 0] 92)) (some ⟨g2+1,0,none⟩) y1 (bl_trans NB.out nr) (HT.out.below nr) hr).mono ?_
 rintro e v3 ⟨y3,rfl,ho,b_⟩
 have na:=bl_alloc (bl_trans nr b_) (.cells #[.int .i64 3,.int .i64 7,.int .i64 2,.slice y3.R 8 y3.rc,.slice y3.P 1 y3.pc,.slice y3.D 0 y3.dc,.slice y3.L 1 y3.lc,.slice y3.M 1 y3.mc,.slice y3.F y3.fl.length y3.fc,.int .i64 5,.int .i64 0] 34)
 replace NB:=Lh (bl_trans NB.out na)
 replace KT:=Lh (KT.out.below na)
 replace K2:=Lh (K2.out.below na)
 replace HT:=Lh (HT.out.below na)
 replace H2:=Lh (H2.out.below na)
 have K3:Hid (Blk (v3.alloc (.cells #[.int .i64 3,.int .i64 7,.int .i64 2,.slice y3.R 8 y3.rc,.slice y3.P 1 y3.pc,.slice y3.D 0 y3.dc,.slice y3.L 1 y3.lc,.slice y3.M 1 y3.mc,.slice y3.F y3.fl.length y3.fc,.int .i64 5,.int .i64 0] 34)) v3.heap.size 34 #[.int .i64 3,.int .i64 7,.int .i64 2,.slice y3.R 8 y3.rc,.slice y3.P 1 y3.pc,.slice y3.D 0 y3.dc,.slice y3.L 1 y3.lc,.slice y3.M 1 y3.mc,.slice y3.F y3.fl.length y3.fc,.int .i64 5,.int .i64 0]):=Lh (Blk.new _ _ _)
 have H3:=Lh (ho.rd.below (bl_alloc (Below.refl v3.heap.size v3) (.cells #[.int .i64 3,.int .i64 7,.int .i64 2,.slice y3.R 8 y3.rc,.slice y3.P 1 y3.pc,.slice y3.D 0 y3.dc,.slice y3.L 1 y3.lc,.slice y3.M 1 y3.mc,.slice y3.F y3.fl.length y3.fc,.int .i64 5,.int .i64 0] 34)))
 clear ho b_ nr na hr hs
 have c0:=KT.out.cell 0 _ rfl
 have c1:=KT.out.cell 1 _ rfl
 have c2:=KT.out.cell 2 _ rfl
 have c3:=KT.out.cell 3 _ rfl
 have c4:=KT.out.cell 4 _ rfl
 have c5:=KT.out.cell 5 _ rfl
 have c6:=KT.out.cell 6 _ rfl
 have c7:=KT.out.cell 7 _ rfl
 have c8:=KT.out.cell 8 _ rfl
 have c9:=KT.out.cell 9 _ rfl
 have c10:=KT.out.cell 10 _ rfl
 go_wp2_with fail
 have hs:(v3.alloc (.cells #[.int .i64 3,.int .i64 7,.int .i64 2,.slice y3.R 8 y3.rc,.slice y3.P 1 y3.pc,.slice y3.D 0 y3.dc,.slice y3.L 1 y3.lc,.slice y3.M 1 y3.mc,.slice y3.F y3.fl.length y3.fc,.int .i64 5,.int .i64 0] 34)).heap.size=v3.heap.size+1:=by simp
 generalize v3.alloc (.cells #[.int .i64 3,.int .i64 7,.int .i64 2,.slice y3.R 8 y3.rc,.slice y3.P 1 y3.pc,.slice y3.D 0 y3.dc,.slice y3.L 1 y3.lc,.slice y3.M 1 y3.mc,.slice y3.F y3.fl.length y3.fc,.int .i64 5,.int .i64 0] 34)=W3 at *
 generalize v3.heap.size=g3 at *
 clear c0 c1 c2 c3 c4 c5 c6 c7 c8 c9 c10
 have nr:=bl_alloc (Below.refl W3.heap.size W3) (.cells #[.int .i64 0,.int .i64 3] 92)
 have hr:Rd (W3.alloc (.cells #[.int .i64 0,.int .i64 3] 92)) 2 (some ⟨g3+1,0,none⟩) 1 (Stripe.rs [⟨0,3⟩]):=by rw[←hs];exact Rd.built W3 2 1 (Stripe.rs [⟨0,3⟩]) 92 rfl
 refine (HR3.out (W3.alloc (.cells #[.int .i64 0,.int .i64 3] 92)) (some ⟨g3+1,0,none⟩) y1 (bl_trans NB.out nr) (HT.out.below nr) hr).mono ?_
 rintro e v4 ⟨y4,rfl,ho,b_⟩
 have na:=bl_alloc (bl_trans nr b_) (.cells #[.int .i64 3,.int .i64 7,.int .i64 2,.slice y4.R 8 y4.rc,.slice y4.P 1 y4.pc,.slice y4.D 0 y4.dc,.slice y4.L 1 y4.lc,.slice y4.M 1 y4.mc,.slice y4.F y4.fl.length y4.fc,.int .i64 5,.int .i64 0] 34)
 replace NB:=Lh (bl_trans NB.out na)
 replace KT:=Lh (KT.out.below na)
 replace K2:=Lh (K2.out.below na)
 replace K3:=Lh (K3.out.below na)
 replace HT:=Lh (HT.out.below na)
 replace H2:=Lh (H2.out.below na)
 replace H3:=Lh (H3.out.below na)
 have K4:Hid (Blk (v4.alloc (.cells #[.int .i64 3,.int .i64 7,.int .i64 2,.slice y4.R 8 y4.rc,.slice y4.P 1 y4.pc,.slice y4.D 0 y4.dc,.slice y4.L 1 y4.lc,.slice y4.M 1 y4.mc,.slice y4.F y4.fl.length y4.fc,.int .i64 5,.int .i64 0] 34)) v4.heap.size 34 #[.int .i64 3,.int .i64 7,.int .i64 2,.slice y4.R 8 y4.rc,.slice y4.P 1 y4.pc,.slice y4.D 0 y4.dc,.slice y4.L 1 y4.lc,.slice y4.M 1 y4.mc,.slice y4.F y4.fl.length y4.fc,.int .i64 5,.int .i64 0]):=Lh (Blk.new _ _ _)
 have H4:=Lh (ho.rd.below (bl_alloc (Below.refl v4.heap.size v4) (.cells #[.int .i64 3,.int .i64 7,.int .i64 2,.slice y4.R 8 y4.rc,.slice y4.P 1 y4.pc,.slice y4.D 0 y4.dc,.slice y4.L 1 y4.lc,.slice y4.M 1 y4.mc,.slice y4.F y4.fl.length y4.fc,.int .i64 5,.int .i64 0] 34)))
 clear ho b_ nr na hr hs
 have c0:=K2.out.cell 0 _ rfl
 have c1:=K2.out.cell 1 _ rfl
 have c2:=K2.out.cell 2 _ rfl
 have c3:=K2.out.cell 3 _ rfl
 have c4:=K2.out.cell 4 _ rfl
 have c5:=K2.out.cell 5 _ rfl
 have c6:=K2.out.cell 6 _ rfl
 have c7:=K2.out.cell 7 _ rfl
 have c8:=K2.out.cell 8 _ rfl
 have c9:=K2.out.cell 9 _ rfl
 have c10:=K2.out.cell 10 _ rfl
 go_wp2_with fail
 have hs:(v4.alloc (.cells #[.int .i64 3,.int .i64 7,.int .i64 2,.slice y4.R 8 y4.rc,.slice y4.P 1 y4.pc,.slice y4.D 0 y4.dc,.slice y4.L 1 y4.lc,.slice y4.M 1 y4.mc,.slice y4.F y4.fl.length y4.fc,.int .i64 5,.int .i64 0] 34)).heap.size=v4.heap.size+1:=by simp
 generalize v4.alloc (.cells #[.int .i64 3,.int .i64 7,.int .i64 2,.slice y4.R 8 y4.rc,.slice y4.P 1 y4.pc,.slice y4.D 0 y4.dc,.slice y4.L 1 y4.lc,.slice y4.M 1 y4.mc,.slice y4.F y4.fl.length y4.fc,.int .i64 5,.int .i64 0] 34)=W4 at *
 generalize v4.heap.size=g4 at *
 clear c0 c1 c2 c3 c4 c5 c6 c7 c8 c9 c10
 have nr:=bl_alloc (Below.refl W4.heap.size W4) (.cells #[.int .i64 0,.int .i64 0] 92)
 have hr:Rd (W4.alloc (.cells #[.int .i64 0,.int .i64 0] 92)) 2 (some ⟨g4+1,0,none⟩) 1 (Stripe.rs [⟨0,0⟩]):=by rw[←hs];exact Rd.built W4 2 1 (Stripe.rs [⟨0,0⟩]) 92 rfl
 refine (HSP.out (W4.alloc (.cells #[.int .i64 0,.int .i64 0] 92)) (some ⟨g4+1,0,none⟩) y2 (bl_trans NB.out nr) (H2.out.below nr) hr).mono ?_
 rintro e v5 ⟨y5,rfl,ho,b_⟩
 have na:=bl_alloc (bl_trans nr b_) (.cells #[.int .i64 3,.int .i64 7,.int .i64 5,.slice y5.R 8 y5.rc,.slice y5.P 1 y5.pc,.slice y5.D 1 y5.dc,.slice y5.L 1 y5.lc,.slice y5.M 0 y5.mc,.slice y5.F y5.fl.length y5.fc,.int .i64 1,.int .i64 0] 34)
 replace NB:=Lh (bl_trans NB.out na)
 replace KT:=Lh (KT.out.below na)
 replace K2:=Lh (K2.out.below na)
 replace K3:=Lh (K3.out.below na)
 replace K4:=Lh (K4.out.below na)
 replace HT:=Lh (HT.out.below na)
 replace H2:=Lh (H2.out.below na)
 replace H3:=Lh (H3.out.below na)
 replace H4:=Lh (H4.out.below na)
 clear ho b_ nr na hr hs
 have c0:=K2.out.cell 0 _ rfl
 have c1:=K2.out.cell 1 _ rfl
 have c2:=K2.out.cell 2 _ rfl
 have c3:=K2.out.cell 3 _ rfl
 have c4:=K2.out.cell 4 _ rfl
 have c5:=K2.out.cell 5 _ rfl
 have c6:=K2.out.cell 6 _ rfl
 have c7:=K2.out.cell 7 _ rfl
 have c8:=K2.out.cell 8 _ rfl
 have c9:=K2.out.cell 9 _ rfl
 have c10:=K2.out.cell 10 _ rfl
 go_wp2_with fail
 generalize v5.alloc (.cells #[.int .i64 3,.int .i64 7,.int .i64 5,.slice y5.R 8 y5.rc,.slice y5.P 1 y5.pc,.slice y5.D 1 y5.dc,.slice y5.L 1 y5.lc,.slice y5.M 0 y5.mc,.slice y5.F y5.fl.length y5.fc,.int .i64 1,.int .i64 0] 34)=W5 at *
 generalize v5.heap.size=g5 at *
 clear c0 c1 c2 c3 c4 c5 c6 c7 c8 c9 c10
 refine (HOU.out _ y2 H2.out).mono ?_
 rintro e v6 ⟨A1,c1,A2,c2,A3,c3,A4,c4,rfl,ho,b_⟩
 have na:=bl_alloc b_ (.cells #[.int .i64 1,.int .i64 0,.slice A1 8 c1,.slice A2 1 c2,.slice A3 1 c3,.slice A4 1 c4] 58)
 replace NB:=Lh (bl_trans NB.out na)
 have KO:Hid (Blk (v6.alloc (.cells #[.int .i64 1,.int .i64 0,.slice A1 8 c1,.slice A2 1 c2,.slice A3 1 c3,.slice A4 1 c4] 58)) v6.heap.size 58 #[.int .i64 1,.int .i64 0,.slice A1 8 c1,.slice A2 1 c2,.slice A3 1 c3,.slice A4 1 c4]):=Lh (Blk.new _ _ _)
 have o1:=ho.below (bl_alloc (Below.refl v6.heap.size v6) (.cells #[.int .i64 1,.int .i64 0,.slice A1 8 c1,.slice A2 1 c2,.slice A3 1 c3,.slice A4 1 c4] 58))
 have kv:=(K3.out.below na).cell 9 _ rfl
 have kw:=(K4.out.below na).cell 9 _ rfl
 clear ho b_ na
 have a0:=KO.out.cell 0 _ rfl
 have a2:=KO.out.cell 2 _ rfl
 have a3:=KO.out.cell 3 _ rfl
 have a4:=KO.out.cell 4 _ rfl
 have a5:=KO.out.cell 5 _ rfl
 obtain ⟨pb,po,pz,rfl,hp,p0⟩:=at_z o1.path 0 (by decide)
 obtain rfl:pz=2:=by simpa using hp.symm
 simp only[Nat.add_zero]at p0
 clear o1 hp
 go_wp2
 go_ret
 exact ⟨rfl,bl_trans BB.out NB.out⟩
end Go.Proofs.YtgghaodcfgbjlaaGreat.Attempt
namespace Go.Proofs.YtgghaodcfgbjlaaGreat.Attempt
open Go.ChangeShapes Go.WideShapes Go.ChangeAt Go.RowKit Go.Deep Mem Go.Proofs.YtgghaodcfgbjlaaGreat.Code
structure WRaw where
 h:List Heap.Cell
 H:Option Addr
 hn:Nat
 hc:Nat
 r:List Stripe.Rec
 R:Option Addr
 rn:Nat
 rc:Nat
 deriving Inhabited
def wc (x:WRaw):List Value:= [.slice x.H x.hn x.hc,.slice x.R x.rn x.rc]
def WGood (W:World) (x:WRaw):Prop:=(Rd W 2 x.H x.hn (Heap.cs x.h)∧x.h.length=x.hn∧x.hn≤9223372036854775807∧∀z∈x.h,Heap.Fits z.value)∧Rd W 2 x.R x.rn (Stripe.rs x.r)∧x.r.length=x.rn∧x.rn≤9223372036854775807
theorem WGood.below {W W' :World} {x:WRaw} (h:WGood W x) (hb:Below W.heap.size W W'):WGood W' x:=⟨⟨h.1.1.below hb,h.1.2⟩,h.2.1.below hb,h.2.2⟩
end Go.Proofs.YtgghaodcfgbjlaaGreat.Attempt
namespace Go.Proofs.YtgghaodcfgbjlaaGreat.Attempt
open Go.ChangeShapes Go.WideShapes Go.ChangeAt Go.RowKit Mem Go.Proofs.YtgghaodcfgbjlaaGreat.Code
def oneW (x:WRaw):Bool:=decide (x.hn≤80) && decide (x.rn≤30)
def smallW (l:List WRaw):Bool:=l.all oneW && decide (l.length≤60)
end Go.Proofs.YtgghaodcfgbjlaaGreat.Attempt
