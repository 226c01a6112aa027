/-
 A TRY IN MEMORY THAT MOVES ON: one list laid anew, or grown. No conditions beyond those that each theorem states.
-/
import Derived.Test.YtgghaodcfgbjlaaGreatMemA
import Derived.Laws.Rows
import Derived.Deep.RegionHeld3
import Derived.Deep.MidRow
import Derived.Test.YtgghaodcfgbjlaaGreatModelA
import Derived.Test.YtgghaodcfgbjlaaGreatReadsA
import Derived.Test.YtgghaodcfgbjlaaGreatWritesA
import Derived.Test.YtgghaodcfgbjlaaGreatReadsB
import Derived.LoopTactic
import Derived.Deep.QuietTactic
import Derived.BigQuiet
import Derived.BigRegion
import Derived.RegionTactic
import Derived.Deep.RegionLaw
import Derived.Lib.SliceRun
import Derived.Deep.LoopGhost
import Derived.Test.YtgghaodcfgbjlaaGreatTermB
import Derived.Test.YtgghaodcfgbjlaaGreatCodeB
set_option maxRecDepth 100000
namespace Go.Proofs.YtgghaodcfgbjlaaGreat.Mem
open Go.ChangeShapes Go.WideShapes Go.ChangeAt Go.RowKit
section
variable {P:Program} {w:World} {ops:Array Oper} {o:Oper} {a:Act} {K:Act→World→Prop} {Q:Exit→Act→World→Prop} {E:Prop}
theorem calls_step2 (hgd:o.guard=none) (f:FuncId) (vs:Array Value) (R:Ending→World→Prop)
  (hc:Calls P f vs w R) (hrun:(execOp a.eval o).run P w=.ok (.enter f vs) w) (h:∀e w',R e w' →∃v,e=.returned v∧K (a.put o.dst v) w'):
  if Region.wanted o (yielded ops a.tmps)=true then Oper.wp P o a w K Q else E:=by
 have hw:Region.wanted o (yielded ops a.tmps)=true:=by simp[Region.wanted,hgd]
 rw[if_pos hw]
 unfold Oper.wp
 rw[hrun,Oper.upon_enter]
 refine hc.mono ?_
 intro e w' hr
 obtain ⟨v,rfl,hk⟩:=h e w' hr
 exact hk
end
theorem cell_kept_up {w w' :World} {a:Addr} {v:Value} (h:w.cell? a=some v) (hb:Below w.heap.size w w'):w'.cell? a=some v:=(hb.cell (cell_lt h)).trans h
section
variable {P:Program} {w:World} {ops:Array Oper} {rest:List Oper} {o:Oper} {a:Act} {Q:Exit→Act→World→Prop}
end
end Go.Proofs.YtgghaodcfgbjlaaGreat.Mem
namespace Go.Proofs.YtgghaodcfgbjlaaGreat.Attempt
open Mem Go.Proofs.YtgghaodcfgbjlaaGreat.Code
structure Frame where
 mid:Nat
 fin:Nat
 long:Nat
 regs:List Int
 deriving DecidableEq,Inhabited
structure Try where
 who:Int
 snap:Int
 pc:Nat
 regs:List Int
 path:List Int
 reads:List Reads.Read
 log:Writes.Log
 frames:List Frame
 kind:Int
 why:Int
 deriving DecidableEq,Inhabited
def none_:Try:=⟨0,0,0,[],[],[],⟨[],[]⟩,[],0,0⟩
def tellT (t:Try) (x:List Term.Op) (h:List Heap.Cell):Int:=(Term.evalS x h t.regs).1
def stop (n:Nat) (t:Try):Try:=if t.pc=n then { t with kind:=1 } else t
def settleF (n:Nat):List Frame→Try→Try
 | [],t=>stop n { t with frames:= [] }
 | f::fs,t=>if f.mid=t.pc then settleF n fs { t with pc:=f.fin,log:=(Writes.keepS t.log).1 } else stop n { t with frames:=f::fs }
def settle (n:Nat) (t:Try):Try:=settleF n t.frames t
def ended (t:Try) (k w:Int):Try:={ t with kind:=k,why:=w }
def goes (t:Try) (k:Nat):Try:={ t with pc:=t.pc+k }
def regT (t:Try) (a v:Int):Try:={ t with regs:=t.regs.set a.toNat v }
def recAt (r:List Stripe.Rec) (b:Int):Stripe.Rec:=(r[(b % (r.length:Int)).toNat]?).getD ⟨0,0⟩
def reads1 (t:Try) (x:Reads.Read):Try:={ t with reads:=t.reads++ [x] }
def liveT (t:Try) (a b v:Int) (x:Stripe.Rec):Try:=
 if (Writes.getS t.log b).2=true then goes (regT t a (Writes.getS t.log b).1) 1
 else match Reads.findS t.reads b with
  | some y=>goes (regT t a y.value) 1
  | none=>if x.owner=0∧x.version≤t.snap then goes (regT (reads1 t ⟨b,x.version,v⟩) a v) 1 else ended t 5 0
def loadT (t:Try) (s:Step) (h:List Heap.Cell) (r:List Stripe.Rec):Try:=
 if Heap.liveAt h s.b=true then liveT t s.a s.b (Heap.valAt h s.b) (recAt r s.b) else ended t 4 s.b
def logT (t:Try) (w:Heap.Write):Try:={ t with log:=(Writes.putS t.log w).1 }
def storeT (t:Try) (s:Step) (h:List Heap.Cell):Try:=
 if Heap.liveAt h s.a=true then goes (logT t ⟨s.a,tellT t s.t h⟩) 1 else ended t 4 s.a
def skipT (t:Try) (s:Step) (h:List Heap.Cell):Try:=if tellT t s.t h=0 then goes t (1+s.a.toNat) else goes t 1
def retryT (t:Try):Try:=
 match t.frames with
 | []=>ended t 2 0
 | f::fs=>{ t with log:=(Writes.backS t.log).1,frames:=fs,regs:=f.regs,pc:=f.mid,path:=t.path.take f.long++ [2] }
def eitherT (t:Try) (s:Step):Try:=
 { t with frames:=⟨t.pc+1+s.a.toNat,t.pc+1+s.a.toNat+s.b.toNat,t.path.length,t.regs⟩::t.frames,path:=t.path++ [1],log:=(Writes.markS t.log).1,pc:=t.pc+1 }
def doT (t:Try) (s:Step) (h:List Heap.Cell) (r:List Stripe.Rec):Try:=
 if s.d=1 then loadT t s h r
 else if s.d=2 then goes (regT t s.a (tellT t s.t h)) 1
 else if s.d=3 then storeT t s h
 else if s.d=4 then skipT t s h
 else if s.d=5 then retryT t
 else if s.d=6 then ended t 3 s.a
 else eitherT t s
def mayB (h:List Heap.Cell) (r:List Stripe.Rec) (t:Try):Bool:=Heap.rightB h && (Stripe.rightB r && decide (t.kind=0))
def moveS (n:Nat) (s:Step) (h:List Heap.Cell) (r:List Stripe.Rec) (t:Try):Try:=if (doT t s h r).kind=0 then settle n (doT t s h r) else doT t s h r
def stepS (c:List Step) (h:List Heap.Cell) (r:List Stripe.Rec) (t:Try):Try × Bool:=
 match c[t.pc]? with
 | some s=>if mayB h r t=true then (moveS c.length s h r t,true) else (t,false)
 | none=>(t,false)
def first (c:List Step) (who snap:Int):Try:=settle c.length ⟨who,snap,0,List.replicate 8 0,[],[],⟨[],[]⟩,[],0,0⟩
def begB (c:List Step) (who snap:Int):Bool:=decide (checkS c=0) && (Stripe.whoB who && Reads.timeB snap)
def beginS (c:List Step) (who snap:Int):Try × Bool:=if begB c who snap=true then (first c who snap,true) else (none_,false)
def runF (c:List Step) (h:List Heap.Cell) (r:List Stripe.Rec):Nat→Try→Nat→Try × Nat × Bool
 | 0,t,k=>(t,k,true)
 | f+1,t,k=>if t.kind=0 then (if (stepS c h r t).2=true then runF c h r f (stepS c h r t).1 (k+1) else (t,k,false)) else (t,k,true)
def runS (c:List Step) (h:List Heap.Cell) (r:List Stripe.Rec) (t:Try):Try × Nat × Bool:=
 if (runF c h r (c.length+1) t 0).2.2=true then runF c h r (c.length+1) t 0 else (t,0,false)
def outT (t:Try):Model.Out:=
 if t.kind=1 then ⟨t.kind,t.why,t.regs,t.path,Reads.cellsS t.reads,Writes.lastS t.log⟩ else ⟨t.kind,t.why,[],[],Reads.cellsS t.reads,[]⟩
def lim (n:Nat):List Frame→Nat
 | []=>n
 | f::_=>f.mid
def seg (c:List Step) (i j:Nat):List Step:=(c.drop i).take (j - i)
def Stack (c:List Step):Nat→List Frame→Prop
 | _,[]=>True
 | p,f::fs=>f.mid≤f.fin∧f.fin≤lim c.length fs∧(wellP (seg c f.mid (lim c.length fs))).2=true∧(wellP (seg c f.fin (lim c.length fs))).2=true∧
   (wellP (seg c f.mid (lim c.length fs))).1+fs.length≤6∧(wellP (seg c f.fin (lim c.length fs))).1+fs.length≤6∧f.long<p∧f.regs.length=8∧Stack c f.long fs
def Ones (path:List Int) (fs:List Frame):Prop:=∀f∈fs,path[f.long]?=some 1
def eithers (c:List Step):Nat:=(c.filter fun s=>decide (s.d=7)).length
structure Inv (c:List Step) (t:Try):Prop where
 ok:checkS c=0
 regs:t.regs.length=8
 marks:t.log.marks.length=t.frames.length
 log:Writes.rightB t.log=true
 rds:Reads.goodB t.reads=true
 snap:∀x∈t.reads,x.version≤t.snap
 rlen:t.reads.length≤t.pc
 wlen:t.log.list.length≤t.pc
 top:t.pc≤c.length
 runs:t.kind=0→t.pc<lim c.length t.frames
 well:(wellP (seg c t.pc (lim c.length t.frames))).2=true
 deep:(wellP (seg c t.pc (lim c.length t.frames))).1+t.frames.length≤6
 stack:Stack c t.path.length t.frames
 two:∀z∈t.path,z=1∨z=2
 plen:t.path.length≤eithers (c.take t.pc)
 ones:Ones t.path t.frames
end Go.Proofs.YtgghaodcfgbjlaaGreat.Attempt
namespace Go.Proofs.YtgghaodcfgbjlaaGreat.Mem
open Go.ChangeShapes Go.WideShapes Go.ChangeAt Go.RowKit
structure Only (S:Nat→Prop) (w w' :World):Prop where
 os:w'.os=w.os
 tape:w'.tape=w.tape
 output:w'.output=w.output
 size:w.heap.size≤w'.heap.size
 block:∀k,k<w.heap.size→¬S k→w'.heap[k]?=w.heap[k]?
section
variable {S S2:Nat→Prop} {w w' w2:World}
theorem Only.refl (S:Nat→Prop) (w:World):Only S w w:=⟨rfl,rfl,rfl,Nat.le_refl _,fun _ _ _=>rfl⟩
theorem Only.trans (h:Only S w w') (k:Only S2 w' w2) (hs:∀i,i<w.heap.size→S2 i→S i):Only S w w2:=
 ⟨k.os.trans h.os,k.tape.trans h.tape,k.output.trans h.output,Nat.le_trans h.size k.size,fun i hi hn=>(k.block i (Nat.lt_of_lt_of_le hi h.size) (fun e=>hn (hs i hi e))).trans (h.block i hi hn)⟩
theorem Only.of_below (h:Below w.heap.size w w'):Only S w w' :=⟨h.os,h.tape,h.output,h.size,fun k hk _=>h.block k hk⟩
theorem Only.below (h:Only S w w') {B:Nat} (hB:B≤w.heap.size) (hn:∀k,k<B→¬S k):Below B w w' :=⟨h.os,h.tape,h.output,h.size,fun k hk=>h.block k (Nat.lt_of_lt_of_le hk hB) (hn k hk)⟩
theorem Only.sub (h:Only S w w') (hs:∀i,i<w.heap.size→S i→S2 i):Only S2 w w' :=⟨h.os,h.tape,h.output,h.size,fun k hk hn=>h.block k hk (fun e=>hn (hs k hk e))⟩
theorem Only.of_grown {r:Option Nat} (h:w.grownBy w' r) (hr:∀k,r=some k→S k):Only S w w' :=⟨h.os,h.tape,h.output,h.size,fun k hk hn=>h.block k hk (fun e=>hn (hr k e.symm))⟩
theorem Only.set_ (g i:Nat) (u:Value) (hg:S g):Only S w (w.setCell ⟨g,i,none⟩ u):=
 ⟨rfl,rfl,rfl,by simp[World.setCell],fun k _ hn=>heap_set_ne w (fun e=>by subst e;exact hn hg) i u⟩
theorem Only.put (h:Only S w w') (g i:Nat) (u:Value) (hg:S g):Only S w (w'.setCell ⟨g,i,none⟩ u):=h.trans (Only.set_ (S:=S) g i u hg) (fun _ _ e=>e)
theorem Only.blk (h:Only S w w') {g:Nat} {t:TypeId} {xs:Array Value} (hb:Blk w g t xs) (hn:¬S g):Blk w' g t xs:=(h.block g hb.lt hn).trans hb
theorem Only.alloc (h:Only S w w') (o:Obj):Only S w (w'.alloc o):=h.trans (S2:=S) (Only.of_below (bl_alloc (Below.refl _ _) o)) (fun _ _ e=>e)
theorem Only.drewN (h:Only S w w') (q:Nat):Only S w (w'.drewN q):=⟨h.os,h.tape,h.output,h.size,h.block⟩
theorem Only.bl (h:Only S w w') (k:Below w'.heap.size w' w2):Only S w w2:=h.trans (S2:=S) (Only.of_below k) (fun _ _ e=>e)
end
theorem perm_erase {α:Type} (l:List α):∀(i:Nat) (x:α),l[i]?=some x→l.Perm (x::l.eraseIdx i):=by
 induction l with
 | nil=>intro i x h;cases h
 | cons a l ih=>
  intro i x h
  cases i with
  | zero=>simp at h;subst h;exact List.Perm.refl _
  | succ i=>exact ((ih i x (by simpa using h)).cons a).trans (List.Perm.swap ..)
theorem perm_set {α:Type} (l:List α):∀(i:Nat) (y:α),i<l.length→(l.set i y).Perm (y::l.eraseIdx i):=by
 induction l with
 | nil=>intro i y h;simp at h
 | cons a l ih=>
  intro i y h
  cases i with
  | zero=>exact List.Perm.refl _
  | succ i=>exact ((ih i y (by simpa using h)).cons a).trans (List.Perm.swap ..)
structure OS where
 e:Nat
 k:Nat
 v:Value
 n:Nat
 xs:List Value
def OS.at_ (o:OS) (w0 w:World):Prop:=Own w0 w o.e o.k o.v o.n o.xs
def Owns (w0 w:World) (l:List OS):Prop:=(∀o∈l,o.at_ w0 w)∧l.Pairwise (fun a b=>Apart a.v b.v)
section
variable {w0 w w' :World} {l l' :List OS} {o o' :OS}
theorem Owns.mem (h:Owns w0 w l) (i:Nat) (hi:l[i]?=some o):Own w0 w o.e o.k o.v o.n o.xs:=h.1 o (List.mem_of_getElem? hi)
theorem Owns.below (h:Owns w0 w l) (hb:Below w.heap.size w w'):Owns w0 w' l:=⟨fun o ho=>(h.1 o ho).below hb,h.2⟩
theorem Owns.perm (h:Owns w0 w l) (hp:l.Perm l'):Owns w0 w l' :=⟨fun o ho=>h.1 o (hp.mem_iff.2 ho),(hp.pairwise_iff (fun h=>h.symm)).1 h.2⟩
theorem Owns.sub (h:Owns w0 w l) (hs:l'.Sublist l):Owns w0 w l' :=⟨fun o ho=>h.1 o (hs.subset ho),h.2.sublist hs⟩
theorem Owns.only {S:Nat→Prop} (h:Owns w0 w l) (ho:Only S w w') (hn:∀o∈l,∀k,o.v.ownBlock=some k→¬S k) (h0:∀k,S k→w0.heap.size≤k):Owns w0 w' l:=by
 refine ⟨fun o hm=>?_,h.2⟩
 obtain ⟨⟨h1,h2⟩,h3⟩:=h.1 o hm
 refine ⟨⟨h1,?_⟩,h3.trans (ho.below h3.size (fun k hk hs=>by have:=h0 k hs;omega))⟩
 rcases h2 with h2 | ⟨g,cap,cur,hv,hb,hc,hr⟩
 ·exact .inl h2
 ·refine .inr ⟨g,cap,cur,hv,hb,?_,hr⟩
  exact (ho.block g (Array.getElem?_eq_some_iff.1 hc).1 (hn o hm g (by rw[hv];rfl))).trans hc
theorem Owns.cons_ (h:Owns w0 w l) (ho:o.at_ w0 w) (ha:∀p∈l,Apart o.v p.v):Owns w0 w (o::l):=by
 refine ⟨fun p hp=>?_,List.pairwise_cons.2 ⟨ha,h.2⟩⟩
 rcases List.mem_cons.1 hp with rfl | hp
 ·exact ho
 ·exact h.1 p hp
theorem Owns.head (h:Owns w0 w (o::l)) (ho:o'.at_ w0 w') (hk:∀p∈l,p.at_ w0 w→Apart p.v o.v→p.at_ w0 w' ∧Apart p.v o'.v):Owns w0 w' (o' ::l):=by
 have h2:=List.pairwise_cons.1 h.2
 have h3:∀p∈l,p.at_ w0 w' ∧Apart p.v o'.v:=fun p hp=>hk p hp (h.1 p (List.mem_cons_of_mem _ hp)) (h2.1 p hp).symm
 exact Owns.cons_ ⟨fun p hp=>(h3 p hp).1,h2.2⟩ ho (fun p hp=>(h3 p hp).2.symm)
theorem Owns.nth (h:Owns w0 w l) (i:Nat) (hi:l[i]?=some o) (ho:o'.at_ w0 w') (hk:∀p∈l,p.at_ w0 w→Apart p.v o.v→p.at_ w0 w' ∧Apart p.v o'.v):Owns w0 w' (l.set i o'):=by
 obtain ⟨hl,rfl⟩:=List.getElem?_eq_some_iff.1 hi
 have h1:Owns w0 w (l[i]::l.eraseIdx i):=h.perm (perm_erase l i _ hi)
 have h2:Owns w0 w' (o' ::l.eraseIdx i):=h1.head ho (fun p hp=>hk p ((List.eraseIdx_sublist l i).subset hp))
 exact h2.perm (perm_set l i o' hl).symm
theorem OS.bel (h:o.at_ w0 w):Below w0.heap.size w0 w:=h.2
theorem Owns.write (h:Owns w0 w l) (i:Nat) (e k n cap g:Nat) (xs:List Value) (hi:l[i]?=some ⟨e,k,.slice (some ⟨g,0,none⟩) n cap,n,xs⟩) (j:Nat) (u:Value):
  Owns w0 (w.setCell ⟨g,j,none⟩ u) (l.set i ⟨e,k,.slice (some ⟨g,0,none⟩) n cap,n,xs.set j u⟩):=by
 have ho:Own w0 w e k (.slice (some ⟨g,0,none⟩) n cap) n xs:=h.mem i hi
 have hg:w0.heap.size≤g:=ho.base g rfl
 refine h.nth i hi (own_set ho j u) (fun p _ hp ha=>⟨?_,ha⟩)
 refine Own.set_ne hp hg ?_ j u
 intro e2
 rcases ha with ha | ha | ha
 ·rw[ha]at e2;cases e2
 ·cases ha
 ·exact ha e2
theorem Owns.moved (h:Owns w0 w l) (i:Nat) (e k:Nat) (v v' :Value) (n n' :Nat) (xs ys:List Value) (hi:l[i]?=some ⟨e,k,v,n,xs⟩) (ho:Own w0 w' e k v' n' ys) (hm:Moved w w' v v' n n'):
  Owns w0 w' (l.set i ⟨e,k,v',n',ys⟩):=by
 refine h.nth i hi ho (fun p _ hp ha=>⟨hm.own hp ha ho.2,?_⟩)
 show Apart p.v v'
 cases hpb:p.v.ownBlock with
 | none=>exact .inl hpb
 | some q=>
  refine .inr (.inr ?_)
  rw[hpb]
  intro e2
  refine hm.ne (Own.lt hp q hpb) (fun e3=>?_) e2.symm
  rcases ha with ha | ha | ha
  ·rw[ha]at hpb;cases hpb
  ·rw[ha]at e3;cases e3
  ·exact ha (hpb.trans e3.symm)
theorem Owns.fresh (h:Owns w0 w l) (i:Nat) (hi:l[i]?=some o) (e k:Nat) (v' :Value) (n' :Nat) (ys:List Value) (ho:Own w w' e k v' n' ys):Owns w0 w' (l.set i ⟨e,k,v',n',ys⟩):=by
 have hb:=ho.2
 refine h.nth i hi (ho.wide (OS.bel (h.1 o (List.mem_of_getElem? hi)))) (fun p _ hp _=>⟨Own.below hp hb,?_⟩)
 show Apart p.v v'
 cases hpb:p.v.ownBlock with
 | none=>exact .inl hpb
 | some q=>
  refine .inr (.inr ?_)
  rw[hpb]
  exact fun e2=>ho.ne_old (Own.lt hp q hpb) e2.symm
theorem Owns.more (h:Owns w0 w l) (hb0:Below w0.heap.size w0 w) (e k:Nat) (v' :Value) (n' :Nat) (ys:List Value) (ho:Own w w' e k v' n' ys):Owns w0 w' (⟨e,k,v',n',ys⟩::l):=by
 have hb:=ho.2
 refine (h.below hb).cons_ (ho.wide hb0) (fun p hp=>Apart.symm ?_)
 show Apart p.v v'
 cases hpb:p.v.ownBlock with
 | none=>exact .inl hpb
 | some q=>
  refine .inr (.inr ?_)
  rw[hpb]
  exact fun e2=>ho.ne_old (Own.lt (h.1 p hp) q hpb) e2.symm
theorem Owns.same (h:Owns w0 w l) (i:Nat) (hi:l[i]?=some o) (e k:Nat) (v' :Value) (n' :Nat) (ys:List Value) (ho:Own w0 w e k v' n' ys) (hv:v'.ownBlock=o.v.ownBlock∨v'.ownBlock=none):Owns w0 w (l.set i ⟨e,k,v',n',ys⟩):=by
 refine h.nth i hi ho (fun p _ hp ha=>⟨hp,?_⟩)
 show Apart p.v v'
 rcases hv with hv | hv
 ·rcases ha with ha | ha | ha
  ·exact .inl ha
  ·exact .inr (.inl (hv.trans ha))
  ·exact .inr (.inr (by rw[hv];exact ha))
 ·exact .inr (.inl hv)
def Of (g:Nat) (l:List OS) (k:Nat):Prop:=k=g∨∃o∈l,o.v.ownBlock=some k
end
end Go.Proofs.YtgghaodcfgbjlaaGreat.Mem
namespace Go.Proofs.YtgghaodcfgbjlaaGreat.Attempt
open Go.ChangeShapes Go.WideShapes Go.ChangeAt Go.RowKit Mem Go.Proofs.YtgghaodcfgbjlaaGreat.Code
structure FRaw where
 f:Frame
 A:Option Addr
 c:Nat
def frc (r:FRaw):List Value:= [.int .i64 r.f.mid,.int .i64 r.f.fin,.int .i64 r.f.long,.slice r.A r.f.regs.length r.c]
def frs (l:List FRaw):List Value:=l.flatMap frc
theorem frc_len (r:FRaw):(frc r).length=4:=rfl
theorem frc_one (r:FRaw):∀u∈frc r,u.oneCell' =true:=one_cons rfl (one_cons rfl (one_cons rfl (one_cons rfl one_nil)))
theorem frs_one (l:List FRaw):∀u∈frs l,u.oneCell' =true:=flat_one frc_one l
theorem frs_app (a b:List FRaw):frs (a++b)=frs a++frs b:=by unfold frs;rw[List.flatMap_append]
structure TL where
 R:Option Addr
 rc:Nat
 P:Option Addr
 pc:Nat
 D:Option Addr
 dc:Nat
 L:Option Addr
 lc:Nat
 M:Option Addr
 mc:Nat
 F:Option Addr
 fc:Nat
 fl:List FRaw
abbrev aT (t:Try) (y:TL):Array Value:=#[.int .i64 t.who,.int .i64 t.snap,.int .i64 t.pc,.slice y.R t.regs.length y.rc,.slice y.P t.path.length y.pc,.slice y.D t.reads.length y.dc,.slice y.L t.log.list.length y.lc,.slice y.M t.log.marks.length y.mc,.slice y.F y.fl.length y.fc,.int .i64 t.kind,.int .i64 t.why]
abbrev aC (t:Try) (y:TL) (p v e:Int):Array Value:=#[.int .i64 t.who,.int .i64 t.snap,.int .i64 t.pc,.slice y.R t.regs.length y.rc,.slice y.P t.path.length y.pc,.slice y.D t.reads.length y.dc,.slice y.L t.log.list.length y.lc,.slice y.M t.log.marks.length y.mc,.slice y.F y.fl.length y.fc,.int .i64 t.kind,.int .i64 t.why,.int .i64 p,.int .i64 v,.int .i64 e]
abbrev z11:Array Value:=#[.int .i64 0,.int .i64 0,.int .i64 0,.slice none 0 0,.slice none 0 0,.slice none 0 0,.slice none 0 0,.slice none 0 0,.slice none 0 0,.int .i64 0,.int .i64 0]
abbrev z14:Array Value:=#[.int .i64 0,.int .i64 0,.int .i64 0,.slice none 0 0,.slice none 0 0,.slice none 0 0,.slice none 0 0,.slice none 0 0,.slice none 0 0,.int .i64 0,.int .i64 0,.int .i64 0,.int .i64 0,.int .i64 0]
abbrev z3:Array Value:=#[.slice none 0 0,.slice none 0 0,.int .i64 0]
def tvl (t:Try) (x:TL):List Value:=
 [.int .i64 t.who,.int .i64 t.snap,.int .i64 t.pc,.slice x.R t.regs.length x.rc,.slice x.P t.path.length x.pc,.slice x.D t.reads.length x.dc,.slice x.L t.log.list.length x.lc,.slice x.M t.log.marks.length x.mc,.slice x.F x.fl.length x.fc,.int .i64 t.kind,.int .i64 t.why]
def ros (r:FRaw):OS:=⟨3,1,.slice r.A r.f.regs.length r.c,r.f.regs.length,zs r.f.regs⟩
def TL.os (x:TL) (t:Try):List OS:=
  [⟨3, 1,.slice x.R t.regs.length x.rc,t.regs.length,zs t.regs⟩,⟨3,1,.slice x.P t.path.length x.pc,t.path.length,zs t.path⟩,⟨107,3,.slice x.D t.reads.length x.dc,t.reads.length,Reads.ds t.reads⟩,
   ⟨97,2,.slice x.L t.log.list.length x.lc,t.log.list.length,Heap.ws t.log.list⟩,⟨3,1,.slice x.M t.log.marks.length x.mc,t.log.marks.length,zs t.log.marks⟩,
   ⟨134,4,.slice x.F x.fl.length x.fc,x.fl.length,frs x.fl⟩]++x.fl.map ros
structure TRd (w:World) (t:Try) (x:TL):Prop where
 regs:Rd w 1 x.R t.regs.length (zs t.regs)
 path:Rd w 1 x.P t.path.length (zs t.path)
 reads:Rd w 3 x.D t.reads.length (Reads.ds t.reads)
 dn:t.reads.length≤x.dc
 log:Writes.LogAt w x.L t.log.list.length x.lc x.M t.log.marks.length x.mc t.log
 frames:Rd w 4 x.F x.fl.length (frs x.fl)
 nest:∀r∈x.fl,Rd w 1 r.A r.f.regs.length (zs r.f.regs)
 raw:x.fl.map FRaw.f=t.frames.reverse
structure MAt (w0 w:World) (g:Nat) (ty:TypeId) (tail:List Value) (t:Try) (x:TL):Prop where
 base:w0.heap.size≤g
 blk:Blk w g ty (tvl t x++tail).toArray
 own:Owns w0 w (x.os t)
 off:∀o∈x.os t,o.v.ownBlock≠some g
 raw:x.fl.map FRaw.f=t.frames.reverse
section
variable {w0 w w' :World} {g:Nat} {ty:TypeId} {tail:List Value} {t t' :Try} {x x' :TL}
theorem TRd.below (h:TRd w t x) (hb:Below w.heap.size w w'):TRd w' t x:=
 ⟨h.regs.below hb,h.path.below hb,h.reads.below hb,h.dn,h.log.below hb,h.frames.below hb,fun r hr=>(h.nest r hr).below hb,h.raw⟩
theorem MAt.below (h:MAt w0 w g ty tail t x) (hb:Below w.heap.size w w'):MAt w0 w' g ty tail t x:=⟨h.base,h.blk.below hb,h.own.below hb,h.off,h.raw⟩
theorem MAt.bel (h:MAt w0 w g ty tail t x):Below w0.heap.size w0 w:=(h.own.1 _ (List.mem_cons_self ..)).2
theorem own_rd_any {e k n:Nat} {A:Option Addr} {c:Nat} {xs:List Value} (h:Own w0 w e k (.slice A n c) n xs):Rd w k A n xs∧n≤c:=by
 obtain ⟨_,h2,h3⟩:=own_cap h;exact ⟨h3,h2⟩
theorem MAt.log (h:MAt w0 w g ty tail t x):Writes.LogAt w x.L t.log.list.length x.lc x.M t.log.marks.length x.mc t.log:=by
 have h1:=own_rd_any (h.own.mem 3 rfl)
 have h2:=own_rd_any (h.own.mem 4 rfl)
 exact ⟨h1.1,h2.1,h1.2,h2.2⟩
theorem ros_mem {r:FRaw} (hr:r∈x.fl):ros r∈x.os t:=by
 unfold TL.os;exact List.mem_append_right _ (List.mem_map_of_mem hr)
theorem MAt.rd (h:MAt w0 w g ty tail t x):TRd w t x:=
 ⟨(own_rd_any (h.own.mem 0 rfl)).1,(own_rd_any (h.own.mem 1 rfl)).1,(own_rd_any (h.own.mem 2 rfl)).1,(own_rd_any (h.own.mem 2 rfl)).2,h.log,(own_rd_any (h.own.mem 5 rfl)).1,fun r hr=>(own_rd_any (h.own.1 _ (ros_mem hr))).1,h.raw⟩
theorem tvl_cell (tail:List Value) (t:Try) (x:TL) (k:Nat) (u:Value) (h:(tvl t x)[k]?=some u):(tvl t x++tail)[k]?=some u:=by
 rw[List.getElem?_append_left (List.getElem?_eq_some_iff.1 h).1];exact h
theorem MAt.cell (h:MAt w0 w g ty tail t x) (k:Nat) (u:Value) (hu:(tvl t x)[k]?=some u):w.cell? ⟨g,k,none⟩=some u:=
 h.blk.cell k u (by rw[List.getElem?_toArray];exact tvl_cell tail t x k u hu)
theorem MAt.cells (h:MAt w0 w g ty tail t x):w.cell? ⟨g,0,none⟩=some (.int .i64 t.who)∧w.cell? ⟨g,1,none⟩=some (.int .i64 t.snap)∧w.cell? ⟨g,2,none⟩=some (.int .i64 t.pc)∧w.cell? ⟨g,3,none⟩=some (.slice x.R t.regs.length x.rc)∧
  w.cell? ⟨g,4,none⟩=some (.slice x.P t.path.length x.pc)∧w.cell? ⟨g,5,none⟩=some (.slice x.D t.reads.length x.dc)∧w.cell? ⟨g,6,none⟩=some (.slice x.L t.log.list.length x.lc)∧w.cell? ⟨g,7,none⟩=some (.slice x.M t.log.marks.length x.mc)∧
  w.cell? ⟨g,8,none⟩=some (.slice x.F x.fl.length x.fc)∧w.cell? ⟨g,9,none⟩=some (.int .i64 t.kind)∧w.cell? ⟨g,10,none⟩=some (.int .i64 t.why):=
 ⟨h.cell 0 _ rfl,h.cell 1 _ rfl,h.cell 2 _ rfl,h.cell 3 _ rfl,h.cell 4 _ rfl,h.cell 5 _ rfl,h.cell 6 _ rfl,h.cell 7 _ rfl,h.cell 8 _ rfl,h.cell 9 _ rfl,h.cell 10 _ rfl⟩
theorem MAt.froz (h:MAt w0 w g ty tail t x) (k:Nat):w.frozen? ⟨g,k,none⟩=false:=h.blk.frozen k
theorem MAt.put (h:MAt w0 w g ty tail t x) (k:Nat) (hk:k<11) (u:Value) (he:(tvl t x).set k u=tvl t' x') (ho:x'.os t' =x.os t) (hr:x'.fl.map FRaw.f=t'.frames.reverse):MAt w0 (w.setCell ⟨g,k,none⟩ u) g ty tail t' x' :=by
 refine ⟨h.base,?_,?_,by rw[ho];exact h.off,hr⟩
 ·have :=h.blk.set_ k u
  rw[List.setIfInBounds_toArray,List.set_append_left _ _ (by exact hk),he]at this
  exact this
 ·rw [ho]
  exact h.own.only (S:=fun i=>i=g) (Only.set_ g k u rfl) (fun o hm i hi e=>h.off o hm (by rw[hi,e])) (fun i e=>by rw[e];exact h.base)
theorem MAt.list (h:MAt w0 w g ty tail t x) {S:Nat→Prop} (ho:Only S w w') (hS:¬S g) (hx:Owns w0 w' (x'.os t')) (hn:∀o∈x'.os t',∀k,o.v.ownBlock=some k→k=g→False) (k:Nat) (hk:k<11) (u:Value) (he:(tvl t x).set k u=tvl t' x')
  (hr:x'.fl.map FRaw.f=t'.frames.reverse):MAt w0 (w'.setCell ⟨g,k,none⟩ u) g ty tail t' x' :=by
 have hoff:∀o∈x'.os t',o.v.ownBlock≠some g:=fun o hm e=>hn o hm g e rfl
 refine ⟨h.base,?_,?_,hoff,hr⟩
 ·have :=(ho.blk h.blk hS).set_ k u
  rw[List.setIfInBounds_toArray,List.set_append_left _ _ (by exact hk),he]at this
  exact this
 ·exact hx.only (S:=fun i=>i=g) (Only.set_ g k u rfl) (fun o hm i hi e=>hoff o hm (by rw[hi,e])) (fun i e=>by rw[e];exact h.base)
end
def Mv (w:World) (g:Nat) (l:List OS) (w' :World) (l' :List OS):Prop:=Only (Of g l) w w' ∧∀k,k<w.heap.size→Of g l' k→Of g l k
section
variable {w w' w2:World} {g:Nat} {l l' l2:List OS}
theorem Mv.refl (w:World) (g:Nat) (l:List OS):Mv w g l w l:=⟨Only.refl _ _,fun _ _ h=>h⟩
theorem Mv.trans (h:Mv w g l w' l') (k:Mv w' g l' w2 l2):Mv w g l w2 l2:=
 ⟨h.1.trans k.1 (fun i hi e=>h.2 i hi e),fun i hi e=>h.2 i hi (k.2 i (Nat.lt_of_lt_of_le hi h.1.size) e)⟩
theorem Mv.bel (h:Mv w g l w' l') (hb:Below w'.heap.size w' w2):Mv w g l w2 l' :=⟨h.1.bl hb,h.2⟩
theorem Mv.put (h:Mv w g l w' l') (k:Nat) (u:Value):Mv w g l (w'.setCell ⟨g,k,none⟩ u) l' :=⟨h.1.put g k u (.inl rfl),h.2⟩
theorem Mv.blk (h:Mv w g l w' l') {b:Nat} {t:TypeId} {xs:Array Value} (hb:Blk w b t xs) (hn:¬Of g l b):Blk w' b t xs:=h.1.blk hb hn
end
theorem tFrame:SliceT Tryz.prog 32 134 4 48:=
 SliceT.mk_ (z:=.agg #[.int .i64 0,.int .i64 0,.int .i64 0,.slice none 0 0]) Tryz.underlying32 (by kernel_rfl) rfl (by decide)
theorem clonef_any (l:List FRaw) (A:Option Addr) (n c:Nat) (w:World) (hr:Rd w 4 A n (frs l)) (hn:n≤1000000):
  Calls Tryz.prog 113 #[.slice A n c] w (RetO w 134 4 n (frs l)):=by
 have hnil:=fun W=>Lib.run_eql_slice_nil (P:=Tryz.prog) W 32 134 A n c 0 0 Tryz.underlying32
 rcases A with _ | ad
 ·obtain ⟨rfl,hx⟩:=rd_nil hr
  have HX:=Lh hx
  clear hr hx
  go_enter Tryz.func113,Tryz.ntmps113
  go_wp2
  go_ret
  exact ⟨_,rfl,by rw[HX.out];exact Own.nil_ (Below.refl _ _)⟩
 ·have HR:=Lh hr
  clear hr
  go_enter Tryz.func113,Tryz.ntmps113
  go_wp2_with (at_builtin;refine append_rd rfl _ _ 32 rfl tFrame w _ 0 [] rfl (Own.empty w _ _) _ n c (frs l) rfl (HR.out.alloc _) (frs_one l) (by omega) (by omega) ?_;intro v' w' hown' hg;have HO:=Lh hown';clear hown' hg)
  go_ret
  exact ⟨v',rfl,by have:=HO.out;simpa using this⟩
theorem run_clear_one {P:Program} (w:World) (t e ty:TypeId) (z:Value) (zc:List Value) (ht:P.underlying t=some (.slice e)) (hv:∀w,(zeroValue e).run P w=.ok z w) (hz:(Builtin.zeroCells z.cells 1).toList=zc) (h1:∀u∈zc,u.oneCell' =true) (b o c:Nat)
  (hc:∀j,j<zc.length→(w.cell? ⟨b,o+j,none⟩).isSome=true) (hf:∀j,j<zc.length→w.frozen? ⟨b,o+j,none⟩=false):
  (Builtin.clear_ #[t] ty #[.slice (some ⟨b,o,none⟩) 1 c]).run P w=.ok (.tuple #[]) (w.setCells b o zc):=by
 have hst:=run_storeCells_cells (P:=P) b o zc 0 w (by simpa using hc) (by simpa using hf) h1
 simp only[Nat.add_zero]at hst
 simp[Builtin.clear_,run_underlying ht,hv,hz,hst]
def zf:List Value:= [.int .i64 0,.int .i64 0,.int .i64 0,.slice none 0 0]
theorem zero_frame (w:World):(zeroValue 134).run Tryz.prog w=.ok (.agg #[.int .i64 0,.int .i64 0,.int .i64 0,.slice none 0 0]) w:=by
 exact Tryz.zeroValue134 w
theorem delete_c (w0 w:World) (g n cap:Nat) (xs:List Value) (i j:Int) (ho:Own w0 w 134 4 (.slice (some ⟨g,0,none⟩) (n+1) cap) (n+1) xs) (hn:n≤1000000) (hi:i=(n:Int)) (hj:j=(n:Int)+1):
  Calls Tryz.prog 157 #[.slice (some ⟨g,0,none⟩) (n+1) cap,.int .i64 i,.int .i64 j] w fun e w' =>e=.returned (.slice (some ⟨g,0,none⟩) n cap)∧∃q,w' =(w.drewN q).setCells g (n * 4) zf:=by
 subst hi hj
 obtain ⟨hcap,hmax⟩:n+1≤cap∧cap≤9223372036854775807:=by
  rcases ho.1.2 with ⟨h,_⟩ | ⟨g',c',cur,h,_,_,h2,h3,_⟩
  ·cases h
  ·injection h with _ _ h;subst h;exact ⟨h2,h3⟩
 have hcell:∀j,j<4→(w.cell? ⟨g,n * 4+j,none⟩).isSome=true∧w.frozen? ⟨g,n * 4+j,none⟩=false:=by
  rcases ho.1.2 with ⟨h,_⟩ | ⟨g',c',cur,h,_,hb,h2,h3,hs,_⟩
  ·cases h
  ·injection h with h _ h5
   injection h with h
   injection h with h
   subst h h5
   intro j hj
   have hlt:n * 4+j<cur.size:=by rw[hs];omega
   refine ⟨?_,?_⟩
   ·simp[World.cell?,hb,Array.getElem?_eq_getElem hlt]
   ·simp[World.frozen?,hb]
 have hT:Tryz.prog.underlying 32=some (.slice 134):=Tryz.underlying32
 obtain ⟨i0,z0,hT1,hi0,hz0,hsz,hby,hzs,hsz2⟩:=tFrame
 have S1:=Lh hi0
 have S2:=Lh hsz
 have HC:=Lh hcell
 clear hT1 hi0 hz0 hsz hby hzs hsz2 hcell ho
 have hcl:∀(c:Nat) (ty:TypeId),(Builtin.clear_ #[32] ty #[.slice (some ⟨g,n * 4,none⟩) 1 c]).run Tryz.prog w.drew=.ok (.tuple #[]) (w.drew.setCells g (n * 4) zf):=fun c ty=>
  run_clear_one w.drew _ _ ty _ zf hT zero_frame (by simp[zf,Builtin.zeroCells];rfl) (by intro u hu;simp[zf]at hu;rcases hu with rfl | rfl <;> rfl) g (n * 4) c (fun j hj=>(HC.out j hj).1) (fun j hj=>(HC.out j hj).2)
 have hne:¬(cap=n):=by omega
 have hic:n≤cap:=by omega
 have hn0:(0:Int)≤(n:Int)+1:=by omega
 have mixed:Tryz.prog.follows .mixedOrders=true:=by kernel_rfl
 clear hT
 obtain ⟨A,hA⟩:∃A:Addr,(if cap=n+1 then (some ⟨g,0,none⟩:Option Addr) else some ⟨g,(n+1) * 4,none⟩)=some A:=by
  by_cases h:cap=n+1
  ·exact ⟨_,if_pos h⟩
  ·exact ⟨_,if_neg h⟩
 go_enter Tryz.func157,Tryz.ntmps157
 go_wp2_with fail
 go_region_law_o (refine step_append_room rfl (.tmp 22) (.tmp 25) 32 rfl 134 i0 4 Tryz.underlying32 S1.out S2.out g 0 n cap (by simp[Act.eval,Act.put]) A 0 (cap - (n+1)) [] (by simp[Act.eval,Act.put]) rfl (fun j u hu=>by simp at hu) (by simp) (by omega) (fun j hj=>by simp at hj) ?_)
 simp only[World.setCells]
 go_wp2
 go_ret
 exact ⟨rfl,1,rfl⟩
theorem frs_len (l:List FRaw):(frs l).length=l.length * 4:=flat_len frc_len l
theorem own_zero4 {w0 w:World} {gf n cap q:Nat} {l:List FRaw} {r:FRaw} (h:Own w0 w 134 4 (.slice (some ⟨gf,0,none⟩) (n+1) cap) (n+1) (frs (l++ [r]))) (hn:l.length=n):
  Own w0 ((w.drewN q).setCells gf (n * 4) zf) 134 4 (.slice (some ⟨gf,0,none⟩) n cap) n (frs l):=by
 have h1:=Writes.own_cut frc_len (l:=l++ [r]) (h.below (bl_drewN (Below.refl _ _) q)) n (by omega) (by decide)
 have e:(l++ [r]).take n=l:=by rw[←hn,List.take_left]
 rw[e]at h1
 have hl:(frs l).length=n * 4:=by rw[frs_len,hn]
 simp only[zf,World.setCells]
 have s:∀(W:World) (j:Nat) (u:Value),n * 4≤j→Own w0 W 134 4 (.slice (some ⟨gf,0,none⟩) n cap) n (frs l)→Own w0 (W.setCell ⟨gf,j,none⟩ u) 134 4 (.slice (some ⟨gf,0,none⟩) n cap) n (frs l):=by
  intro W j u hj ho
  have:=own_set ho j u
  rwa [List.set_eq_of_length_le (by omega)]at this
 exact s _ _ _ (by omega) (s _ _ _ (by omega) (s _ _ _ (by omega) (s _ _ _ (by omega) h1)))
theorem only_zf {w:World} {gf o q:Nat} {S:Nat→Prop} (hS:S gf):Only S w ((w.drewN q).setCells gf o zf):=by
 simp only[zf,World.setCells]
 exact (((((Only.refl S w).drewN q).put gf _ _ hS).put gf _ _ hS).put gf _ _ hS).put gf _ _ hS
def TL.drop (x:TL) (l:List FRaw):TL:={ x with fl:=l }
def Try.pop (t:Try) (fs:List Frame):Try:={ t with frames:=fs }
section
variable {w0 w:World} {g:Nat} {ty:TypeId} {tail:List Value} {t:Try} {x:TL} {l:List FRaw} {r:FRaw} {fs:List Frame} {f:Frame}
theorem MAt.owns_drop (h:MAt w0 w g ty tail t x) (hl:x.fl=l++ [r]) {gf:Nat} (hF:x.F=some ⟨gf,0,none⟩) (q:Nat):
  Owns w0 ((w.drewN q).setCells gf (l.length * 4) zf) ((x.drop l).os t++ [ros r]):=by
 have h5:=h.own.mem 5 rfl
 simp only[hF,hl]at h5
 have hlen:(l++ [r]).length=l.length+1:=by simp
 rw[hlen]at h5
 have h6:=own_zero4 (q:=q) h5 rfl
 have hg:w0.heap.size≤gf:=h5.base gf rfl
 have h7:=h.own.nth 5 rfl (w' :=(w.drewN q).setCells gf (l.length * 4) zf) (o' :=⟨134,4,.slice (some ⟨gf,0,none⟩) l.length x.fc,l.length,frs l⟩) h6 (fun p _ hp ha=>by
  have ha2:Apart p.v (.slice (some ⟨gf,0,none⟩) l.length x.fc):=by
   rcases ha with ha | ha | ha
   ·exact .inl ha
   ·rw[hF]at ha;cases ha
   ·exact .inr (.inr (by rw[hF]at ha;exact ha))
  refine ⟨?_,ha2⟩
  have hne:p.v.ownBlock≠some gf:=by
   intro e
   rcases ha2 with ha | ha | ha
   ·rw[ha]at e;cases e
   ·cases ha
   ·exact ha e
  simp only[zf,World.setCells]
  exact ((((Own.below hp (bl_drewN (Below.refl _ _) q)).set_ne hg hne _ _).set_ne hg hne _ _).set_ne hg hne _ _).set_ne hg hne _ _)
 have e:(x.os t).set 5 ⟨134,4,.slice (some ⟨gf,0,none⟩) l.length x.fc,l.length,frs l⟩=(x.drop l).os t++ [ros r]:=by
  unfold TL.os TL.drop
  simp[hl,hF]
 rwa [e]at h7
theorem own_f (h:MAt w0 w g ty tail t x) (hl:x.fl=l++ [r]):∃gf,x.F=some ⟨gf,0,none⟩∧w0.heap.size≤gf∧gf≠g∧gf<w.heap.size∧Of g (x.os t) gf:=by
 have h5:=h.own.mem 5 rfl
 obtain ⟨gf,cap,hv⟩:=own_lay h5 (by rw[hl];simp)
 injection hv with hv
 have hb:(Value.slice x.F x.fl.length x.fc).ownBlock=some gf:=by rw[hv];rfl
 refine ⟨gf,hv,h5.base gf hb,fun e=>?_,h5.lt gf hb,.inr ⟨_,List.mem_of_getElem? (i:=5) rfl,hb⟩⟩
 exact h.off _ (List.mem_of_getElem? (i:=5) rfl) (by rw[←e];exact hb)
structure Left (w0 w w' :World) (g:Nat) (ty:TypeId) (tail:List Value) (t:Try) (x:TL) (fs:List Frame) (l:List FRaw) (r:FRaw):Prop where
 m:MAt w0 w' g ty tail (t.pop fs) (x.drop l)
 own:Own w0 w' 3 1 (.slice r.A r.f.regs.length r.c) r.f.regs.length (zs r.f.regs)
 ap:∀o∈(x.drop l).os t,Apart o.v (.slice r.A r.f.regs.length r.c)
 off:(Value.slice r.A r.f.regs.length r.c).ownBlock≠some g
 mv:Only (Of g (x.os t)) w w'
theorem MAt.leave (h:MAt w0 w g ty tail t x) (hl:x.fl=l++ [r]) (hf:t.frames=f::fs) {gf:Nat} (hF:x.F=some ⟨gf,0,none⟩) (hgf:gf≠g) (q:Nat):
  Left w0 w (((w.drewN q).setCells gf (l.length * 4) zf).setCell ⟨g,8,none⟩ (.slice x.F l.length x.fc)) g ty tail t x fs l r:=by
 have ho:=h.owns_drop hl hF q
 have hsub:∀o∈(x.drop l).os t++ [ros r],o.v.ownBlock≠some g:=by
  intro o hm e
  have hm2:(∃p∈x.os t,p.v.ownBlock=o.v.ownBlock):=by
   unfold TL.os TL.drop at hm
   simp only[List.append_assoc,List.mem_append,List.mem_cons,List.not_mem_nil,or_false]at hm
   rcases hm with (rfl | rfl | rfl | rfl | rfl | rfl) | hm | hm
   ·exact ⟨_,List.mem_of_getElem? (i:=0) rfl,rfl⟩
   ·exact ⟨_,List.mem_of_getElem? (i:=1) rfl,rfl⟩
   ·exact ⟨_,List.mem_of_getElem? (i:=2) rfl,rfl⟩
   ·exact ⟨_,List.mem_of_getElem? (i:=3) rfl,rfl⟩
   ·exact ⟨_,List.mem_of_getElem? (i:=4) rfl,rfl⟩
   ·exact ⟨_,List.mem_of_getElem? (i:=5) rfl,by rw[hF];rfl⟩
   ·obtain ⟨z,hz,rfl⟩:=List.mem_map.1 hm
    exact ⟨_,ros_mem (by rw[hl];exact List.mem_append_left _ hz),rfl⟩
   ·exact ⟨_,ros_mem (r:=r) (by rw[hl];simp),by rw[hm]⟩
  obtain ⟨p,hp,e2⟩:=hm2
  exact h.off p hp (e2.trans e)
 have ho2:=ho.only (S:=fun i=>i=g) (Only.set_ g 8 (.slice x.F l.length x.fc) rfl) (fun o hm i hi e=>hsub o hm (by rw[hi,e])) (fun i e=>by rw[e];exact h.base)
 have hp:=List.pairwise_append.1 ho2.2
 have hO:Only (fun k=>k=gf) w ((w.drewN q).setCells gf (l.length * 4) zf):=only_zf rfl
 refine ⟨⟨h.base,?_,⟨fun o hm=>ho2.1 o (List.mem_append_left _ hm),hp.1⟩,fun o hm=>hsub o (List.mem_append_left _ hm),?_⟩,ho2.1 (ros r) (List.mem_append_right _ (by simp)),fun o hm=>hp.2.2 o hm (ros r) (by simp),hsub (ros r) (List.mem_append_right _ (by simp)),?_⟩
 ·have :=(hO.blk h.blk (fun e=>hgf e.symm)).set_ 8 (.slice x.F l.length x.fc)
  rw[List.setIfInBounds_toArray,List.set_append_left _ _ (by show 8<11;decide)]at this
  exact this
 ·have :=h.raw
  rw[hl,hf]at this
  simp only[List.map_append,List.map_cons,List.map_nil,List.reverse_cons]at this
  exact (List.append_inj' this rfl).1
 ·have h5:Of g (x.os t) gf:=.inr ⟨_,List.mem_of_getElem? (i:=5) rfl,by rw[hF];rfl⟩
  exact (only_zf h5).put g 8 _ (.inl rfl)
end
theorem at_frame {w:World} {A:Option Addr} {n:Nat} {l:List FRaw} (hr:Rd w 4 A n (frs l)) (k:Nat) (hk:k<n):
  ∃ b off,∃r:FRaw,A=some ⟨b,off,none⟩∧l[k]?=some r∧w.cell? ⟨b,off+k * 4,none⟩=some (.int .i64 r.f.mid)∧w.cell? ⟨b,off+k * 4+1,none⟩=some (.int .i64 r.f.fin)∧
   w.cell? ⟨b,off+k * 4+2,none⟩=some (.int .i64 r.f.long)∧w.cell? ⟨b,off+k * 4+3,none⟩=some (.slice r.A r.f.regs.length r.c):=by
 obtain ⟨b,off,r,hA,hr,hc⟩:=Rd.at_ frc_len hr (by decide) k hk
 exact ⟨b,off,r,hA,hr,by have:=hc 0 _ rfl;simpa using this,hc 1 _ rfl,hc 2 _ rfl,hc 3 _ rfl⟩
theorem os_lt {w0 w:World} {g:Nat} {ty:TypeId} {tail:List Value} {t:Try} {x:TL} (h:MAt w0 w g ty tail t x):∀o∈x.os t,∀k,o.v.ownBlock=some k→k<w.heap.size:=fun o ho k hk=>Own.lt (h.own.1 o ho) k hk
theorem drop_blocks {x:TL} {t:Try} {l:List FRaw} {r:FRaw} (hl:x.fl=l++ [r]):∀o∈(x.drop l).os t++ [ros r],∃p∈x.os t,p.v.ownBlock=o.v.ownBlock:=by
 intro o hm
 unfold TL.os TL.drop at hm
 simp only[List.append_assoc,List.mem_append,List.mem_cons,List.not_mem_nil,or_false]at hm
 rcases hm with (rfl | rfl | rfl | rfl | rfl | rfl) | hm | hm
 ·exact ⟨_,List.mem_of_getElem? (i:=0) rfl,rfl⟩
 ·exact ⟨_,List.mem_of_getElem? (i:=1) rfl,rfl⟩
 ·exact ⟨_,List.mem_of_getElem? (i:=2) rfl,rfl⟩
 ·exact ⟨_,List.mem_of_getElem? (i:=3) rfl,rfl⟩
 ·exact ⟨_,List.mem_of_getElem? (i:=4) rfl,rfl⟩
 ·refine ⟨_,List.mem_of_getElem? (i:=5) rfl,?_⟩
  cases hF:x.F <;> rfl
 ·obtain ⟨z,hz,rfl⟩:=List.mem_map.1 hm
  exact ⟨_,ros_mem (by rw[hl];exact List.mem_append_left _ hz),rfl⟩
 ·exact ⟨_,ros_mem (r:=r) (by rw[hl];simp),by rw[hm]⟩
theorem Left.setb {w0 w w' :World} {g:Nat} {ty:TypeId} {tail:List Value} {t:Try} {x:TL} {fs:List Frame} {l:List FRaw} {r:FRaw} (h:Left w0 w w' g ty tail t x fs l r) (hx:MAt w0 w g ty tail t x) (hl:x.fl=l++ [r]) (b i:Nat) (u:Value) (hb:w.heap.size≤b):
  Left w0 w (w'.setCell ⟨b,i,none⟩ u) g ty tail t x fs l r:=by
 have hw:w0.heap.size≤w.heap.size:=hx.bel.size
 have hg:g<w.heap.size:=hx.blk.lt
 have hlt:∀o∈(x.drop l).os t++ [ros r],∀k,o.v.ownBlock=some k→¬k=b:=by
  intro o ho k hk e
  obtain ⟨p,hp,e2⟩:=drop_blocks hl o ho
  have:=os_lt hx p hp k (e2.trans hk)
  omega
 have hS:Only (fun k=>k=b) w' (w'.setCell ⟨b,i,none⟩ u):=Only.set_ b i u rfl
 refine ⟨⟨h.m.base,h.m.blk.beside (by omega) i u,h.m.own.only hS (fun o ho=>hlt o (List.mem_append_left _ ho)) (fun k e=>by omega),h.m.off,h.m.raw⟩,?_,h.ap,h.off,?_⟩
 ·exact h.own.set_ne (by omega) (fun e=>hlt (ros r) (List.mem_append_right _ (by simp)) b e rfl) i u
 ·exact ⟨h.mv.os,h.mv.tape,h.mv.output,Nat.le_trans h.mv.size (by simp[World.setCell]),fun k hk hn=>(heap_set_ne w' (by omega) i u).trans (h.mv.block k hk hn)⟩
theorem Left.from_ {w0 w w1 w' :World} {g:Nat} {ty:TypeId} {tail:List Value} {t:Try} {x:TL} {fs:List Frame} {l:List FRaw} {r:FRaw} (h:Left w0 w1 w' g ty tail t x fs l r) (hb:Below w.heap.size w w1):Left w0 w w' g ty tail t x fs l r:=
 ⟨h.m,h.own,h.ap,h.off,(Only.of_below (S:=Of g (x.os t)) hb).trans h.mv (fun _ _ e=>e)⟩
theorem leave_c (w0 w:World) (g:Nat) (ty:TypeId) (tail:List Value) (t:Try) (x:TL) (l:List FRaw) (r:FRaw) (f:Frame) (fs:List Frame) (n:Nat) (h:MAt w0 w g ty tail t x) (hl:x.fl=l++ [r]) (hf:t.frames=f::fs) (hn:l.length=n) (hn1:n≤1000000):
  Calls Tryz.prog 105 #[.pointer (some ⟨g,0,none⟩)] w fun e w' =>e=.returned (.agg #[.int .i64 r.f.mid,.int .i64 r.f.fin,.int .i64 r.f.long,.slice r.A r.f.regs.length r.c])∧Left w0 w w' g ty tail t x fs l r:=by
 obtain ⟨gf,hF,hg0,hgf,hgw,_⟩:=own_f h hl
 have hlen:x.fl.length=n+1:=by rw[hl];simp[hn]
 obtain ⟨w1,hw1⟩:∃w1,w1=w.alloc (.cells #[.int .i64 0,.int .i64 0,.int .i64 0,.slice none 0 0] 134):=⟨_,rfl⟩
 obtain ⟨w2,hw2⟩:∃w2,w2=w1.alloc (.cells #[.int .i64 r.f.mid,.int .i64 r.f.fin,.int .i64 r.f.long,.slice r.A r.f.regs.length r.c] 134):=⟨_,rfl⟩
 have b1:Below w.heap.size w w1:=by rw[hw1];exact bl_alloc (Below.refl _ _) _
 have b2:Below w1.heap.size w1 w2:=by rw[hw2];exact bl_alloc (Below.refl _ _) _
 have hs1:w1.heap.size=w.heap.size+1:=by rw[hw1];simp
 have h1:=h.below b1
 have h2:=h1.below b2
 have q8:=h1.cells.2.2.2.2.2.2.2.2.1
 have Q8:=h2.cells.2.2.2.2.2.2.2.2.1
 rw[hF,hlen]at q8 Q8
 obtain ⟨b,off,r2,hA,hr2,k0,k1,k2,k3⟩:=at_frame h1.rd.frames n (by omega)
 rw[hF]at hA
 injection hA with hA
 injection hA with hA hB
 subst hA hB
 rw[hl,List.getElem?_append_right (by omega),hn,Nat.sub_self]at hr2
 injection hr2 with hr2
 subst hr2
 simp only[Nat.zero_add]at k0 k1 k2 k3
 have K0:Blk w1 w.heap.size 134 #[.int .i64 0,.int .i64 0,.int .i64 0,.slice none 0 0]:=by rw[hw1];exact Blk.new _ _ _
 have K1:Blk w2 (w.heap.size+1) 134 #[.int .i64 r.f.mid,.int .i64 r.f.fin,.int .i64 r.f.long,.slice r.A r.f.regs.length r.c]:=by rw[hw2,←hs1];exact Blk.new _ _ _
 have HO:Hid (Own w0 w2 134 4 (.slice (some ⟨gf,0,none⟩) (n+1) x.fc) (n+1) (frs x.fl)):=Lh (by have:=h2.own.mem 5 rfl;rwa [hF,hlen]at this)
 have HK0:=Lh (K0.below b2)
 have HK1:=Lh K1
 have HH:=Lh h
 have HH2:=Lh h2
 have HB:=Lh (b1.trans (b2.mono b1.size))
 have HF:=Lh hF
 have HL:=Lh hl
 have HN:=Lh hn
 have HG:=Lh hf
 have HW1:=Lh hw1
 have HW2:=Lh hw2
 have HS1:=Lh hs1
 have nn1:(n:Int)+1 - 1=(n:Int):=by omega
 rw[hw2]at Q8
 rw[hw1]at q8 k0 k1 k2 k3 Q8
 clear h h1 h2 hF hl hn hf hlen hw1 hw2 b1 b2 hs1 K0 K1
 go_enter Tryz.func105,Tryz.ntmps105
 have hne1:g≠w.heap.size+1:=by have:=HH.out.blk.lt;omega
 have hne0:g≠w.heap.size:=by have:=HH.out.blk.lt;omega
 have hnf1:gf≠w.heap.size+1:=by omega
 have hnf0:gf≠w.heap.size:=by omega
 go_wp2_with (
  go_at_call 157
  rw[←HW1.out,←HW2.out]
  refine (delete_c w0 w2 gf n x.fc _ _ _ HO.out hn1 rfl rfl).mono ?_
  rintro e w3 ⟨rfl,q,hw3⟩
  have HW3:=Lh hw3
  clear hw3
  have HO3:Hid (Only (fun k=>k=gf) w2 w3):=Lh (by rw[HW3.out];exact only_zf rfl)
  have HM:=Lh (HO3.out.blk HH2.out.blk (fun e=>hgf e.symm))
  have j8:=HM.out.cell 8 (.slice (some ⟨gf,0,none⟩) (n+1) x.fc) (by rw[List.getElem?_toArray];refine tvl_cell tail t x 8 _ ?_;rw[←HF.out];have:=congrArg List.length HL.out;rw[List.length_append,HN.out]at this;simp only[List.length_cons,List.length_nil]at this;rw[←this];rfl)
  have f8:=HM.out.frozen 8
  have HLf:Hid (Left w0 w2 (w3.setCell ⟨g,8,none⟩ (.slice (some ⟨gf,0,none⟩) n x.fc)) g ty tail t x fs l r):=Lh (by have:=HH2.out.leave HL.out HG.out HF.out hgf q;rw[HN.out,HF.out,←HW3.out]at this;exact this)
  have HB1:Hid (Blk (w3.setCell ⟨g,8,none⟩ (.slice (some ⟨gf,0,none⟩) n x.fc)) (w.heap.size+1) 134 #[.int .i64 r.f.mid,.int .i64 r.f.fin,.int .i64 r.f.long,.slice r.A r.f.regs.length r.c]):=Lh ((HO3.out.blk HK1.out (fun e=>hnf1 e.symm)).beside hne1 8 _)
  have HB0:Hid (Blk (w3.setCell ⟨g,8,none⟩ (.slice (some ⟨gf,0,none⟩) n x.fc)) w.heap.size 134 #[.int .i64 0,.int .i64 0,.int .i64 0,.slice none 0 0]):=Lh ((HO3.out.blk HK0.out (fun e=>hnf0 e.symm)).beside hne0 8 _)
  have p0:=HB1.out.cell 0 _ rfl
  have p1:=HB1.out.cell 1 _ rfl
  have p2:=HB1.out.cell 2 _ rfl
  have p3:=HB1.out.cell 3 _ rfl
  have z0:=HB0.out.cell 0 _ rfl
  have z1:=HB0.out.cell 1 _ rfl
  have z2:=HB0.out.cell 2 _ rfl
  have z3:=HB0.out.cell 3 _ rfl
  have e0:=HB0.out.frozen 0
  have e1:=HB0.out.frozen 1
  have e2:=HB0.out.frozen 2
  have e3:=HB0.out.frozen 3)
 have HB5:=(((HB0.out.set_ 0 (.int .i64 r.f.mid)).set_ 1 (.int .i64 r.f.fin)).set_ 2 (.int .i64 r.f.long)).set_ 3 (.slice r.A r.f.regs.length r.c)
 have r0:=HB5.cell 0 _ rfl
 have r1:=HB5.cell 1 _ rfl
 have r2:=HB5.cell 2 _ rfl
 have r3:=HB5.cell 3 _ rfl
 clear HB5
 refine bodyPost_ret (v:=.agg #[.int .i64 r.f.mid,.int .i64 r.f.fin,.int .i64 r.f.long,.slice r.A r.f.regs.length r.c]) (by simp[results,Tryz.results105,go_sem,r0,r1,r2,r3]) rfl ?_
 exact ⟨rfl,((((HLf.out.from_ HB.out).setb HH.out HL.out _ _ _ (Nat.le_refl _)).setb HH.out HL.out _ _ _ (Nat.le_refl _)).setb HH.out HL.out _ _ _ (Nat.le_refl _)).setb HH.out HL.out _ _ _ (Nat.le_refl _)⟩
section
variable {w0 w w' :World} {g:Nat} {ty:TypeId} {tail:List Value} {t t' :Try} {x x' :TL} {l:List FRaw} {r:FRaw} {fs:List Frame} {f:Frame}
theorem Left.mvd (h:Left w0 w w' g ty tail t x fs l r) (hl:x.fl=l++ [r]):Mv w g (x.os t) w' ((x.drop l).os t):=by
 refine ⟨h.mv,fun k _ hk=>?_⟩
 rcases hk with hk | ⟨o,ho,hv⟩
 ·exact .inl hk
 ·obtain ⟨p,hp,e⟩:=drop_blocks hl o (List.mem_append_left _ ho)
  exact .inr ⟨p,hp,e.trans hv⟩
theorem fresh_ne {v:Value} {e k n:Nat} {xs:List Value} (ho:Own w w' e k v n xs) {b:Nat} (hb:b<w.heap.size):v.ownBlock≠some b:=ho.ne_old hb
def Try.lg (t:Try) (lg:Writes.Log):Try:={ t with log:=lg }
def TL.lm (x:TL) (L:Option Addr) (lc:Nat) (M:Option Addr) (mc:Nat):TL:={ x with L:=L,lc:=lc,M:=M,mc:=mc }
theorem MAt.log_ (h:MAt w0 w g ty tail t x) {A B:Option Addr} {p c q d:Nat} {lg:Writes.Log} (hp:Writes.Pair w w' (.slice A p c) p (.slice B q d) q lg) (ep:lg.list.length=p) (eq:lg.marks.length=q):
  MAt w0 ((w'.setCell ⟨g,6,none⟩ (.slice A p c)).setCell ⟨g,7,none⟩ (.slice B q d)) g ty tail (t.lg lg) (x.lm A c B d)∧Mv w g (x.os t) ((w'.setCell ⟨g,6,none⟩ (.slice A p c)).setCell ⟨g,7,none⟩ (.slice B q d)) ((x.lm A c B d).os (t.lg lg)):=by
 subst ep eq
 have hb:=hp.ol.2
 have h1:=h.own.fresh 3 rfl _ _ _ _ _ hp.ol
 have h2:Owns w0 w' ((x.lm A c B d).os (t.lg lg)):=by
  refine h1.nth 4 rfl (hp.om.wide h.bel) (fun o ho hw _=>⟨hw,?_⟩)
  have hm:o∈x.os t∨o.v=.slice A lg.list.length c:=by
   rcases List.mem_or_eq_of_mem_set ho with h5 | h5
   ·exact .inl h5
   ·exact .inr (by rw[h5])
  rcases hm with hm | hm
  ·cases hpb:o.v.ownBlock with
   | none=>exact .inl hpb
   | some b=>
    refine .inr (.inr ?_)
    rw[hpb]
    exact fun e2=>hp.om.ne_old (os_lt h o hm b hpb) e2.symm
  ·rw[hm];exact hp.ap
 have hoff:∀o∈(x.lm A c B d).os (t.lg lg),∀k,o.v.ownBlock=some k→k<w.heap.size→Of g (x.os t) k:=by
  intro o ho k hk hlt
  have hm:o∈x.os t∨o.v=.slice A lg.list.length c∨o.v=.slice B lg.marks.length d:=by
   have:o∈((x.os t).set 3 ⟨97,2,.slice A lg.list.length c,lg.list.length,Heap.ws lg.list⟩).set 4 ⟨3,1,.slice B lg.marks.length d,lg.marks.length,zs lg.marks⟩:=ho
   rcases List.mem_or_eq_of_mem_set this with h5 | h5
   ·rcases List.mem_or_eq_of_mem_set h5 with h6 | h6
    ·exact .inl h6
    ·exact .inr (.inl (by rw[h6]))
   ·exact .inr (.inr (by rw[h5]))
  rcases hm with hm | hm | hm
  ·exact .inr ⟨o,hm,hk⟩
  ·rw[hm]at hk;exact absurd hk (fresh_ne hp.ol hlt)
  ·rw[hm]at hk;exact absurd hk (fresh_ne hp.om hlt)
 have hng:∀o∈(x.lm A c B d).os (t.lg lg),o.v.ownBlock≠some g:=by
  intro o ho e
  rcases hoff o ho g e h.blk.lt with _ | ⟨p,hpm,e2⟩
  ·have hm:o∈x.os t∨o.v=.slice A lg.list.length c∨o.v=.slice B lg.marks.length d:=by
    have:o∈((x.os t).set 3 ⟨97,2,.slice A lg.list.length c,lg.list.length,Heap.ws lg.list⟩).set 4 ⟨3,1,.slice B lg.marks.length d,lg.marks.length,zs lg.marks⟩:=ho
    rcases List.mem_or_eq_of_mem_set this with h5 | h5
    ·rcases List.mem_or_eq_of_mem_set h5 with h6 | h6
     ·exact .inl h6
     ·exact .inr (.inl (by rw[h6]))
    ·exact .inr (.inr (by rw[h5]))
   rcases hm with hm | hm | hm
   ·exact h.off o hm e
   ·rw[hm]at e;exact fresh_ne hp.ol h.blk.lt e
   ·rw[hm]at e;exact fresh_ne hp.om h.blk.lt e
  ·exact h.off p hpm e2
 have hO:Only (fun k=>k=g) w' ((w'.setCell ⟨g,6,none⟩ (.slice A lg.list.length c)).setCell ⟨g,7,none⟩ (.slice B lg.marks.length d)):=Only.put (S:=fun k=>k=g) (Only.put (S:=fun k=>k=g) (Only.refl (fun k=>k=g) w') g 6 _ rfl) g 7 _ rfl
 refine ⟨⟨h.base,?_,h2.only hO (fun o ho k hk e=>hng o ho (by rw[hk,e])) (fun k e=>by rw[e];exact h.base),hng,h.raw⟩,?_,?_⟩
 ·have h5:=((h.blk.below hb).set_ 6 (.slice A lg.list.length c)).set_ 7 (.slice B lg.marks.length d)
  rw[List.setIfInBounds_toArray,List.setIfInBounds_toArray,List.set_append_left _ _ (by show 6<11;decide),List.set_append_left _ _ (by rw[List.length_set];show 7<11;decide)]at h5
  exact h5
 ·exact (((Only.of_below (S:=Of g (x.os t)) hb).put g 6 _ (.inl rfl)).put g 7 _ (.inl rfl))
 ·intro k hlt hk
  rcases hk with hk | ⟨o,ho,hv⟩
  ·exact .inl hk
  ·exact hoff o ho k hv hlt
def Try.at_ (t:Try) (n:Nat):Try:={ t with pc:=n }
theorem MAt.pc_ (h:MAt w0 w g ty tail t x) (n:Nat):MAt w0 (w.setCell ⟨g,2,none⟩ (.int .i64 n)) g ty tail (t.at_ n) x∧Mv w g (x.os t) (w.setCell ⟨g,2,none⟩ (.int .i64 n)) (x.os (t.at_ n)):=
 ⟨h.put 2 (by decide) _ rfl rfl h.raw,(Mv.refl w g (x.os t)).put 2 _⟩
def Try.kd (t:Try) (k:Int):Try:={ t with kind:=k }
theorem MAt.kind_ (h:MAt w0 w g ty tail t x) (n:Int):MAt w0 (w.setCell ⟨g,9,none⟩ (.int .i64 n)) g ty tail (t.kd n) x∧Mv w g (x.os t) (w.setCell ⟨g,9,none⟩ (.int .i64 n)) (x.os (t.kd n)):=
 ⟨h.put 9 (by decide) _ rfl rfl h.raw,(Mv.refl w g (x.os t)).put 9 _⟩
def Try.wy (t:Try) (k:Int):Try:={ t with why:=k }
theorem MAt.why_ (h:MAt w0 w g ty tail t x) (n:Int):MAt w0 (w.setCell ⟨g,10,none⟩ (.int .i64 n)) g ty tail (t.wy n) x∧Mv w g (x.os t) (w.setCell ⟨g,10,none⟩ (.int .i64 n)) (x.os (t.wy n)):=
 ⟨h.put 10 (by decide) _ rfl rfl h.raw,(Mv.refl w g (x.os t)).put 10 _⟩
theorem raw_nil (h:MAt w0 w g ty tail t x) (hf:t.frames= []):x.fl= []:=by
 have:=h.raw
 rw[hf]at this
 exact List.map_eq_nil_iff.1 this
theorem raw_cons (h:MAt w0 w g ty tail t x) (hf:t.frames=f::fs):∃l r,x.fl=l++ [r]∧r.f=f∧l.map FRaw.f=fs.reverse:=by
 have h1:=h.raw
 rw[hf,List.reverse_cons]at h1
 obtain ⟨l1,l2,e1,e2,e3⟩:=List.map_eq_append_iff.1 h1
 match l2,e3 with
 | [r],e3=>exact ⟨l1,r,e1,by simpa using e3,e2⟩
end
theorem settle_go (n:Nat) (t:Try) (f:Frame) (fs:List Frame) (hf:t.frames=f::fs) (hm:f.mid=t.pc):settle n t=settle n (((t.pop fs).lg (Writes.keepS t.log).1).at_ f.fin):=by
 unfold settle
 rw[hf]
 show settleF n (f::fs) t=_
 rw[settleF,if_pos hm]
 show _=settleF n fs _
 have e:∀(l:List Frame) (a b:Try),a.who=b.who→a.snap=b.snap→a.pc=b.pc→a.regs=b.regs→a.path=b.path→a.reads=b.reads→a.log=b.log→a.kind=b.kind→a.why=b.why→settleF n l a=settleF n l b:=by
  intro l
  induction l with
  | nil=>intro a b h1 h2 h3 h4 h5 h6 h7 h8 h9;cases a;cases b;simp_all [settleF]
  | cons y l ih=>
   intro a b h1 h2 h3 h4 h5 h6 h7 h8 h9
   simp only[settleF]
   rw[h3]
   split
   ·exact ih _ _ h1 h2 rfl h4 h5 h6 (by rw[h7]) h8 h9
   ·cases a;cases b;simp_all
 exact e fs _ _ rfl rfl rfl rfl rfl rfl rfl rfl rfl
theorem settle_no (n:Nat) (t:Try) (h:∀f fs,t.frames=f::fs→f.mid≠t.pc):settle n t=stop n t:=by
 unfold settle
 cases hf:t.frames with
 | nil=>
  show stop n { t with frames:= [] }=_
  congr 1
  cases t;simp_all
 | cons f fs=>
  rw[settleF,if_neg (h f fs hf)]
  congr 1
  cases t;simp_all
def Moves (w0 w:World) (g:Nat) (ty:TypeId) (tail:List Value) (t:Try) (x:TL) (t' :Try) (w' :World):Prop:=∃x',MAt w0 w' g ty tail t' x' ∧Mv w g (x.os t) w' (x'.os t')∧x'.fl.length≤1000000
theorem out_yes {w0 w wr:World} {g:Nat} {ty:TypeId} {tail:List Value} {t t1 T:Try} {x x1:TL} {n q:Nat} (h1:MAt w0 wr g ty tail t1 x1) (h2:Mv w g (x.os t) wr (x1.os t1)) (h3:settle n t1=T) (hs:settle n t1=stop n t1) (hp:t1.pc=n) (hl:x1.fl.length≤1000000):
  Moves w0 w g ty tail t x T ((wr.drewN q).setCell ⟨g,9,none⟩ (.int .i64 1)):=by
 obtain ⟨k1,k2⟩:=(h1.below (bl_drewN (Below.refl _ _) q)).kind_ 1
 have e:T=t1.kd 1:=by rw[←h3,hs];unfold stop;rw[if_pos hp];rfl
 rw[e]
 exact ⟨x1,k1,(h2.bel (bl_drewN (Below.refl _ _) q)).trans k2,hl⟩
theorem out_no {w0 w wr:World} {g:Nat} {ty:TypeId} {tail:List Value} {t t1 T:Try} {x x1:TL} {n q:Nat} (h1:MAt w0 wr g ty tail t1 x1) (h2:Mv w g (x.os t) wr (x1.os t1)) (h3:settle n t1=T) (hs:settle n t1=stop n t1) (hp:t1.pc≠n) (hl:x1.fl.length≤1000000):
  Moves w0 w g ty tail t x T (wr.drewN q):=by
 have e:T=t1:=by rw[←h3,hs];unfold stop;rw[if_neg hp]
 rw[e]
 exact ⟨x1,h1.below (bl_drewN (Below.refl _ _) q),h2.bel (bl_drewN (Below.refl _ _) q),hl⟩
theorem keep_le (lg:Writes.Log):(Writes.keepS lg).1.list=lg.list∧(Writes.keepS lg).1.marks.length≤lg.marks.length:=by
 unfold Writes.keepS
 split
 ·split
  ·exact ⟨rfl,Nat.le_refl _⟩
  ·exact ⟨rfl,by simp⟩
 ·exact ⟨rfl,Nat.le_refl _⟩
set_option maxHeartbeats 4000000 in
theorem settle_c (w0 w:World) (g:Nat) (ty:TypeId) (tail:List Value) (t:Try) (x:TL) (n:Nat) (T:Try) (h:MAt w0 w g ty tail t x) (hl:x.fl.length≤1000000) (hL:t.log.list.length≤1000000) (hM:t.log.marks.length≤1000000) (hT:settle n t=T):
    Calls Tryz.prog 52 #[.pointer (some ⟨g,0,none⟩),.int .i64 n] w fun e w' =>e=.returned (.tuple #[])∧Moves w0 w g ty tail t x T w' :=by
  have HM:=Lh h
  have HL:=Lh hl
  have HN:=Lh (And.intro hL hM)
  have HT:=Lh hT
  clear h hl hL hM hT
  go_enter Tryz.func52,Tryz.ntmps52
  go_wp2_with fail
  go_loopg [4] x.fl.length (fun gk p wr=>∃(t1:Try) (x1:TL),MAt w0 wr g ty tail t1 x1∧Mv w g (x.os t) wr (x1.os t1)∧settle n t1=T∧x1.fl.length=gk∧gk≤1000000∧t1.log.list.length≤1000000∧t1.log.marks.length≤1000000)
  case atStart=>exact ⟨t,x,HM.out,Mv.refl _ _ _,HT.out,rfl,HL.out,HN.out.1,HN.out.2⟩
  case round =>
    obtain ⟨t1,x1,h1,h2,h3,h4,h5,h6,h7⟩:=hrel
    obtain ⟨q0,q1,q2,q3,q4,q5,q6,q7,q8,q9,q10⟩:=h1.cells
    have HM1:=Lh h1
    have HV1:=Lh h2
    have HT1:=Lh h3
    rw[h4]at q8
    cases hfr:t1.frames with
    | nil =>
      have hf0:=raw_nil h1 hfr
      rw[hf0]at h4
      have hk0:gk=0:=by rw[←h4];rfl
      subst hk0
      have HS:=Lh (settle_no n t1 (fun f fs e=>by rw[hfr]at e;cases e))
      have HZ:Hid (x1.fl.length≤1000000):=Lh (by rw[hf0];exact Nat.zero_le _)
      have f9:∀q,(wr.drewN q).frozen? ⟨g,9,none⟩=false:=fun q=>(h1.below (bl_drewN (Below.refl _ _) q)).froz 9
      clear h1 h2 h3 hfr hf0 h4
      by_cases hp:t1.pc=n
      · have hpi:(t1.pc:Int)=(n:Int):=by omega
        go_wp2_with fail
        go_quiet (fail)
        have g9:=f9 nq
        go_wp2_with fail
        go_end0
        exact ⟨rfl,out_yes HM1.out HV1.out HT1.out HS.out hp HZ.out⟩
      · have hpi:¬(t1.pc:Int)=(n:Int):=by omega
        go_wp2_with fail
        go_quiet (fail)
        go_wp2_with fail
        go_end0
        exact ⟨rfl,out_no HM1.out HV1.out HT1.out HS.out hp HZ.out⟩
    | cons f fs=>
      obtain ⟨l,r,e1,e2,e3⟩:=raw_cons h1 hfr
      have hlen:gk=l.length+1:=by rw[←h4,e1];simp
      obtain ⟨b,off,r2,hA,hr2,k0,k1,k2,k3⟩:=at_frame h1.rd.frames l.length (by omega)
      rw[e1,List.getElem?_append_right (Nat.le_refl _),Nat.sub_self]at hr2
      injection hr2 with hr2
      subst hr2
      rw[hA]at q8
      obtain ⟨m,hm0⟩:∃m,m=l.length:=⟨_,rfl⟩
      rw[←hm0]at hlen k0 k1 k2 k3
      subst hlen
      have HE:=Lh e1
      have HR:=Lh e2
      have HF:=Lh hfr
      have HM0:=Lh hm0
      have HZ:Hid (x1.fl.length≤1000000):=Lh (by rw[h4];exact h5)
      have mm1:(m:Int)+1 - 1=(m:Int):=by omega
      have mm2:(0:Int)<(m:Int)+1:=by omega
      by_cases hm:f.mid=t1.pc
      · have hmi:(r.f.mid:Int)=(t1.pc:Int):=by rw[e2];omega
        have HG:=Lh (settle_go n t1 f fs hfr hm)
        have HP:=Lh h6
        have HQ:=Lh h7
        obtain ⟨a,ha⟩:∃a,a=Writes.keepS t1.log:=⟨_,rfl⟩
        have HA:=Lh ha.symm
        have HKL:Hid (a.1.list.length≤1000000∧a.1.marks.length≤1000000):=Lh (by rw[ha];have:=keep_le t1.log;rw[this.1];exact ⟨h6,Nat.le_trans this.2 h7⟩)
        clear h1 h2 h3 hfr e1 e2 e3 h4 hm0 ha h6 h7 hA
        go_wp2_with fail
        go_quiet (fail)
        clear hmi
        have HM2:=Lh (HM1.out.below (bl_drewN (Below.refl _ _) nq))
        go_wp2_with (first
          | (go_at_call 105
             refine (leave_c w0 (wr.drewN nq) g ty tail t1 x1 l r f fs m HM2.out HE.out HF.out HM0.out.symm (by omega)).mono ?_
             rintro e W1 ⟨rfl,hL⟩
             have HLf:=Lh hL
             have M2:=hL.m.below (bl_alloc (Below.refl W1.heap.size W1) (.cells #[.int .i64 r.f.mid,.int .i64 r.f.fin,.int .i64 r.f.long,.slice r.A r.f.regs.length r.c] 134))
             have q6' :=M2.cells.2.2.2.2.2.2.1
             have q7' :=M2.cells.2.2.2.2.2.2.2.1
             have HM3:=Lh M2
             have HB3:Hid (Blk (W1.alloc (.cells #[.int .i64 r.f.mid,.int .i64 r.f.fin,.int .i64 r.f.long,.slice r.A r.f.regs.length r.c] 134)) W1.heap.size 134 #[.int .i64 r.f.mid,.int .i64 r.f.fin,.int .i64 r.f.long,.slice r.A r.f.regs.length r.c]):=Lh (Blk.new _ _ _)
             have hgW:g≠W1.heap.size:=by have:=hL.m.blk.lt;omega
             simp only[Try.pop,TL.drop]at q6' q7'
             clear hL M2)
          | (go_at_call 106
             refine (Writes.keep_p t1.log x1.L x1.M _ _ _ _ _ a _ _ HM3.out.log HP.out HQ.out HA.out rfl rfl).mono ?_
             rintro e W3 ⟨A,c,B,d,rfl,hp⟩
             have HPr:=Lh hp
             have M4:=HM3.out.below hp.ol.2
             have B4:=HB3.out.below hp.ol.2
             have j6:=M4.cells.2.2.2.2.2.2.1
             have j7:=(M4.blk.set_ 6 (.slice A a.1.list.length c)).cell 7 (.slice x1.M t1.log.marks.length x1.mc) (by rw[List.setIfInBounds_toArray];rfl)
             have j8:=M4.froz 6
             have j9:=(M4.blk.set_ 6 (.slice A a.1.list.length c)).frozen 7
             have HMv:=Lh (HM3.out.log_ hp rfl rfl)
             have HB5:=Lh ((B4.beside hgW 6 (.slice A a.1.list.length c)).beside hgW 7 (.slice B a.1.marks.length d))
             have g1:=HB5.out.cell 1 _ rfl
             have g2:=HMv.out.1.cells.2.2.1
             have g3:=HMv.out.1.froz 2
             simp only[Try.pop,TL.drop,Try.lg]at j6 g2
             clear hp M4 B4))
        go_roundg m
        case measure=>omega
        case rel=>
          have k1:=HMv.out.1.pc_ r.f.fin
          have k2:Mv w g (x.os t) (wr.drewN nq) (x1.os t1):=HV1.out.bel (bl_drewN (Below.refl _ _) nq)
          have hG:=HG.out
          rw[HA.out,←HR.out,HT1.out]at hG
          refine ⟨((t1.pop fs).lg a.1).at_ r.f.fin,(x1.drop l).lm A c B d,k1.1,((k2.trans (HLf.out.mvd HE.out)).bel (bl_alloc (Below.refl _ _) _)).trans (HMv.out.2.trans k1.2),hG.symm,HM0.out.symm,by omega,HKL.out.1,HKL.out.2⟩
      · have HS:=Lh (settle_no n t1 (fun f1 fs1 e=>by rw[hfr]at e;injection e with e _;rw[←e];exact hm))
        have hmi:¬(r.f.mid:Int)=(t1.pc:Int):=by rw[e2];omega
        have f9:∀q,(wr.drewN q).frozen? ⟨g,9,none⟩=false:=fun q=>(h1.below (bl_drewN (Below.refl _ _) q)).froz 9
        clear h1 h2 h3 hfr e1 e2 e3 h4 hm0 hA
        by_cases hp:t1.pc=n
        · have hpi:(t1.pc:Int)=(n:Int):=by omega
          go_wp2_with fail
          go_quiet (fail)
          have g9:=f9 nq
          go_wp2_with fail
          go_end0
          exact ⟨rfl,out_yes HM1.out HV1.out HT1.out HS.out hp HZ.out⟩
        · have hpi:¬(t1.pc:Int)=(n:Int):=by omega
          go_wp2_with fail
          go_quiet (fail)
          go_wp2_with fail
          go_end0
          exact ⟨rfl,out_no HM1.out HV1.out HT1.out HS.out hp HZ.out⟩
structure Cl (w W:World) (b b2:Nat) (cells c2:List Value) (l:List OS):Prop where
 bel:Below w.heap.size w W
 hb:w.heap.size≤b
 hb2:w.heap.size≤b2
 ne:b≠b2
 blk:Blk W b 34 cells.toArray
 blk2:Blk W b2 34 c2.toArray
 own:Owns w W l
 off:∀o∈l,o.v.ownBlock≠some b∧o.v.ownBlock≠some b2
section
variable {w W W' :World} {b b2:Nat} {cells c2:List Value} {l:List OS}
theorem Cl.below (h:Cl w W b b2 cells c2 l) (hb:Below W.heap.size W W'):Cl w W' b b2 cells c2 l:=⟨bl_trans h.bel hb,h.hb,h.hb2,h.ne,h.blk.below hb,h.blk2.below hb,h.own.below hb,h.off⟩
theorem Cl.step (h:Cl w W b b2 cells c2 l) {e k n:Nat} {v:Value} {xs:List Value} (ho:Own W W' e k v n xs) (i:Nat):Cl w (W'.setCell ⟨b,i,none⟩ v) b b2 (cells.set i v) c2 (⟨e,k,v,n,xs⟩::l):=by
 have hb:=ho.2
 have h1:=h.own.more h.bel e k v n xs ho
 have h2:∀o∈(⟨e,k,v,n,xs⟩::l:List OS),o.v.ownBlock≠some b∧o.v.ownBlock≠some b2:=by
  intro o hm
  rcases List.mem_cons.1 hm with rfl | hm
  ·exact ⟨ho.ne_old h.blk.lt,ho.ne_old h.blk2.lt⟩
  ·exact h.off o hm
 refine ⟨bl_set (bl_trans h.bel hb) (p:=⟨b,i,none⟩) h.hb v,h.hb,h.hb2,h.ne,?_,(h.blk2.below hb).beside h.ne i v,h1.only (S:=fun k=>k=b) (Only.set_ b i v rfl) (fun o hm k hk e=>(h2 o hm).1 (by rw[hk,e])) (fun k e=>by rw[e];exact h.hb),h2⟩
 have:=(h.blk.below hb).set_ i v
 rwa [List.setIfInBounds_toArray]at this
theorem Cl.nest {e0 k0 g n0 d0:Nat} {x0:List Value} (h:Cl w W b b2 cells c2 (⟨e0,k0,.slice (some ⟨g,0,none⟩) n0 d0,n0,x0⟩::l)) {e k n:Nat} {v:Value} {xs:List Value} (ho:Own W W' e k v n xs) (i:Nat):
  Cl w (W'.setCell ⟨g,i,none⟩ v) b b2 cells c2 (⟨e0,k0,.slice (some ⟨g,0,none⟩) n0 d0,n0,x0.set i v⟩::⟨e,k,v,n,xs⟩::l):=by
 have hb:=ho.2
 have h1:=(h.own.more h.bel e k v n xs ho).perm (List.Perm.swap _ _ _)
 have h2:=h1.write 0 e0 k0 n0 d0 g x0 rfl i v
 have hg:=h.off _ (List.mem_cons_self ..)
 have hgb:g≠b:=fun e=>hg.1 (by rw[←e];rfl)
 have hgb2:g≠b2:=fun e=>hg.2 (by rw[←e];rfl)
 have hg0:w.heap.size≤g:=(h.own.1 _ (List.mem_cons_self ..)).base g rfl
 refine ⟨bl_set (bl_trans h.bel hb) (p:=⟨g,i,none⟩) hg0 v,h.hb,h.hb2,h.ne,(h.blk.below hb).beside hgb i v,(h.blk2.below hb).beside hgb2 i v,h2,?_⟩
 intro o hm
 rcases List.mem_cons.1 hm with rfl | hm
 ·exact hg
 ·rcases List.mem_cons.1 hm with rfl | hm
  ·exact ⟨ho.ne_old h.blk.lt,ho.ne_old h.blk2.lt⟩
  ·exact h.off o (List.mem_cons_of_mem _ hm)
theorem Cl.put2 (h:Cl w W b b2 cells c2 l) (i:Nat) (u:Value):Cl w (W.setCell ⟨b2,i,none⟩ u) b b2 cells (c2.set i u) l:=by
 refine ⟨bl_set h.bel (p:=⟨b2,i,none⟩) h.hb2 u,h.hb,h.hb2,h.ne,h.blk.beside (Ne.symm h.ne) i u,?_,h.own.only (S:=fun k=>k=b2) (Only.set_ b2 i u rfl) (fun o hm k hk e=>(h.off o hm).2 (by rw[hk,e])) (fun k e=>by rw[e];exact h.hb2),h.off⟩
 have:=h.blk2.set_ i u
 rwa [List.setIfInBounds_toArray]at this
end
theorem rev_perm {α:Type} (f m l d p r:α) (A:List α):(f::(A.reverse++ [m,l,d,p,r])).Perm ([r,p,d,l,m,f]++A):=by
 have h1:(A.reverse++ [m,l,d,p,r]).Perm ([m,l,d,p,r]++A):=List.perm_append_comm.trans ((List.reverse_perm A).append_left _)
 have h2:([f,m,l,d,p,r]:List α).Perm [r,p,d,l,m,f]:=(List.reverse_perm [r,p,d,l,m,f])
 exact (h1.cons f).trans (h2.append_right A)
def RetT (w:World) (t:Try) (e:Ending) (w' :World):Prop:=∃x,e=.returned (.agg (tvl t x).toArray)∧Owns w w' (x.os t)∧x.fl.map FRaw.f=t.frames.reverse∧x.fl.length≤1000000∧Below w.heap.size w w'
theorem nest_eq (fl ys:List FRaw) (j:Nat) (r:FRaw) (hr:fl[j]?=some r) (hy:ys.length=j) (B:Option Addr) (d:Nat):(frs (ys++fl.drop j)).set (j * 4+3) (.slice B r.f.regs.length d)=frs ((ys++ [⟨r.f,B,d⟩])++fl.drop (j+1)):=by
 have hl:(ys++fl.drop j)[j]?=some r:=by rw[List.getElem?_append_right (by omega),hy,Nat.sub_self,List.getElem?_drop,Nat.add_zero];exact hr
 have:=flat_set frc_len (ys++fl.drop j) j 3 (by decide) r ⟨r.f,B,d⟩ (.slice B r.f.regs.length d) hl rfl
 unfold frs
 rw[this]
 congr 1
 obtain ⟨hlt,rfl⟩:=List.getElem?_eq_some_iff.1 hr
 rw[List.set_append_right _ _ (by omega),hy,Nat.sub_self,List.drop_eq_getElem_cons hlt,List.set_cons_zero,List.append_assoc]
 rfl
set_option maxHeartbeats 8000000 in
theorem clone_t (t:Try) (x:TL) (w:World) (h:TRd w t x) (n1:t.regs.length≤1000000) (n2:t.path.length≤1000000) (n3:t.reads.length≤1000000) (n4:t.log.list.length≤1000000) (n5:t.log.marks.length≤1000000) (n6:x.fl.length≤1000000)
    (n7:∀r∈x.fl,r.f.regs.length≤1000000):
    Calls Tryz.prog 60 #[.agg (tvl t x).toArray] w (RetT w t):=by
  have b1:Below w.heap.size w ((w.alloc (.cells (aT t x) 34)).alloc (.cells z11 34)):=bl_alloc (bl_alloc (Below.refl _ _) _) _
  have C0:Hid (Cl w ((w.alloc (.cells (aT t x) 34)).alloc (.cells z11 34)) w.heap.size (w.heap.size+1) [.int .i64 t.who,.int .i64 t.snap,.int .i64 t.pc,.slice x.R t.regs.length x.rc,.slice x.P t.path.length x.pc,.slice x.D t.reads.length x.dc,.slice x.L t.log.list.length x.lc,.slice x.M t.log.marks.length x.mc,.slice x.F x.fl.length x.fc,.int .i64 t.kind,.int .i64 t.why] [.int .i64 0,.int .i64 0,.int .i64 0,.slice none 0 0,.slice none 0 0,.slice none 0 0,.slice none 0 0,.slice none 0 0,.slice none 0 0,.int .i64 0,.int .i64 0] []):=Lh ⟨b1,Nat.le_refl _,by omega,by omega,(Blk.new w _ _).alloc _,(by have:=Blk.new (w.alloc (.cells (aT t x) 34)) 34 z11;simpa using this),⟨(fun o ho=>by cases ho),List.Pairwise.nil⟩,(fun o ho=>by cases ho)⟩
  have HT:=Lh h
  have N1:=Lh n1
  have N2:=Lh n2
  have N3:=Lh n3
  have N4:=Lh n4
  have N5:=Lh n5
  have N6:=Lh n6
  have N7:=Lh n7
  have T3:=Lh trivial
  have T4:=Lh trivial
  have T5:=Lh trivial
  have T6:=Lh trivial
  have T7:=Lh trivial
  have T8:=Lh trivial
  have a3:=C0.out.blk.cell 3 (.slice x.R t.regs.length x.rc) rfl
  clear h n1 n2 n3 n4 n5 n6 n7 b1
  show Calls Tryz.prog 60 #[.agg (aT t x)] w (RetT w t)
  go_enter Tryz.func60,Tryz.ntmps60
  go_wp2_with (first
    | (have U3:=T3
       clear T3
       go_at_call 77
       refine (Writes.clonei_c t.regs x.R t.regs.length x.rc _ (HT.out.regs.below C0.out.bel) N1.out).mono ?_
       rintro e w3 ⟨v3,rfl,ho3⟩
       obtain ⟨B3,d3,rfl,hd3,hr3⟩:=Mem.own_room ho3
       have C1:=Lh (C0.out.step ho3 3)
       have p3:=(C0.out.blk.below ho3.2).cell 3 (.slice x.R t.regs.length x.rc) rfl
       have f3:=(C0.out.blk.below ho3.2).frozen 3
       have a4:=C1.out.blk.cell 4 (.slice x.P t.path.length x.pc) rfl
       clear ho3 hr3 hd3 U3)
    | (have U4:=T4
       clear T4
       go_at_call 77
       refine (Writes.clonei_c t.path x.P t.path.length x.pc _ (HT.out.path.below C1.out.bel) N2.out).mono ?_
       rintro e w4 ⟨v4,rfl,ho4⟩
       obtain ⟨B4,d4,rfl,hd4,hr4⟩:=Mem.own_room ho4
       have C2:=Lh (C1.out.step ho4 4)
       have p4:=(C1.out.blk.below ho4.2).cell 4 (.slice x.P t.path.length x.pc) rfl
       have f4:=(C1.out.blk.below ho4.2).frozen 4
       have a5:=C2.out.blk.cell 5 (.slice x.D t.reads.length x.dc) rfl
       clear ho4 hr4 hd4 U4)
    | (have U5:=T5
       clear T5
       go_at_call 111
       refine (Reads.clone_any t.reads x.D t.reads.length x.dc _ (HT.out.reads.below C2.out.bel) N3.out).mono ?_
       rintro e w5 ⟨v5,rfl,ho5⟩
       obtain ⟨B5,d5,rfl,hd5,hr5⟩:=Mem.own_room ho5
       have C3:=Lh (C2.out.step ho5 5)
       have p5:=(C2.out.blk.below ho5.2).cell 5 (.slice x.D t.reads.length x.dc) rfl
       have f5:=(C2.out.blk.below ho5.2).frozen 5
       have a6:=C3.out.blk.cell 6 (.slice x.L t.log.list.length x.lc) rfl
       clear ho5 hr5 hd5 U5)
    | (have U6:=T6
       clear T6
       go_at_call 112
       refine (Writes.clonew_c t.log.list x.L t.log.list.length x.lc _ (HT.out.log.rl.below C3.out.bel) N4.out).mono ?_
       rintro e w6 ⟨v6,rfl,ho6⟩
       obtain ⟨B6,d6,rfl,hd6,hr6⟩:=Mem.own_room ho6
       have C4:=Lh (C3.out.step ho6 6)
       have p6:=(C3.out.blk.below ho6.2).cell 6 (.slice x.L t.log.list.length x.lc) rfl
       have f6:=(C3.out.blk.below ho6.2).frozen 6
       have a7:=C4.out.blk.cell 7 (.slice x.M t.log.marks.length x.mc) rfl
       clear ho6 hr6 hd6 U6)
    | (have U7:=T7
       clear T7
       go_at_call 77
       refine (Writes.clonei_c t.log.marks x.M t.log.marks.length x.mc _ (HT.out.log.rm.below C4.out.bel) N5.out).mono ?_
       rintro e w7 ⟨v7,rfl,ho7⟩
       obtain ⟨B7,d7,rfl,hd7,hr7⟩:=Mem.own_room ho7
       have C5:=Lh (C4.out.step ho7 7)
       have p7:=(C4.out.blk.below ho7.2).cell 7 (.slice x.M t.log.marks.length x.mc) rfl
       have f7:=(C4.out.blk.below ho7.2).frozen 7
       have a8:=C5.out.blk.cell 8 (.slice x.F x.fl.length x.fc) rfl
       clear ho7 hr7 hd7 U7)
    | (have U8:=T8
       clear T8
       go_at_call 113
       refine (clonef_any x.fl x.F x.fl.length x.fc _ (HT.out.frames.below C5.out.bel) N6.out).mono ?_
       rintro e w8 ⟨v8,rfl,ho8⟩
       obtain ⟨B8,d8,rfl,hd8,hr8⟩:=Mem.own_room ho8
       have C6:=Lh (C5.out.step ho8 8)
       have p8:=(C5.out.blk.below ho8.2).cell 8 (.slice x.F x.fl.length x.fc) rfl
       have f8:=(C5.out.blk.below ho8.2).frozen 8
       have a9:=C6.out.blk.cell 8 (.slice B8 x.fl.length d8) rfl
       clear ho8 hr8 hd8 U8))
  go_loopw [35] (fun i wr=>∃(j:Nat) (ys:List FRaw),j≤x.fl.length∧i=.int .i64 j∧ys.length=j∧ys.map FRaw.f=(x.fl.take j).map FRaw.f∧Cl w wr w.heap.size (w.heap.size+1) [.int .i64 t.who,.int .i64 t.snap,.int .i64 t.pc,.slice B3 t.regs.length d3,.slice B4 t.path.length d4,.slice B5 t.reads.length d5,.slice B6 t.log.list.length d6,.slice B7 t.log.marks.length d7,.slice B8 x.fl.length d8,.int .i64 t.kind,.int .i64 t.why] [.int .i64 0,.int .i64 0,.int .i64 0,.slice none 0 0,.slice none 0 0,.slice none 0 0,.slice none 0 0,.slice none 0 0,.slice none 0 0,.int .i64 0,.int .i64 0] (⟨134,4,.slice B8 x.fl.length d8,x.fl.length,frs (ys++x.fl.drop j)⟩::((ys.map ros).reverse++ [⟨3,1,.slice B7 t.log.marks.length d7,t.log.marks.length,zs t.log.marks⟩,⟨97,2,.slice B6 t.log.list.length d6,t.log.list.length,Heap.ws t.log.list⟩,⟨107,3,.slice B5 t.reads.length d5,t.reads.length,Reads.ds t.reads⟩,⟨3,1,.slice B4 t.path.length d4,t.path.length,zs t.path⟩,⟨3,1,.slice B3 t.regs.length d3,t.regs.length,zs t.regs⟩]))) (fun i _=>x.fl.length - (intOf i).toNat)
  case atStart=>exact ⟨0,[],Nat.zero_le _,rfl,rfl,rfl,C6.out⟩
  case round =>
    obtain ⟨j,ys,hj,rfl,hy1,hy2,hc⟩:=hrel
    have HY1:=Lh hy1
    have HY2:=Lh hy2
    clear hy1 hy2 p3 p4 p5 p6 p7 p8 f3 f4 f5 f6 f7 f8 a3 a4 a5 a6 a7 a8 a9
    have hj6:x.fl.length≤1000000:=N6.out
    by_cases hlt:j<x.fl.length
    · have hown:=hc.own.1 _ (List.mem_cons_self ..)
      obtain ⟨gF,cF,hv⟩:=own_lay hown (show 0<x.fl.length by omega)
      injection hv with hv _ hv3
      subst hv hv3
      have HC:=Lh hc
      obtain ⟨bF,oF,r,hA,hr,k0,k1,k2,k3⟩:=at_frame (own_rd_any hown).1 j hlt
      injection hA with hA
      injection hA with hA hB
      subst hA hB
      rw[List.getElem?_append_right (by rw[HY1.out];exact Nat.le_refl _),HY1.out,Nat.sub_self,List.getElem?_drop,Nat.add_zero]at hr
      simp only[Nat.zero_add]at k3
      have hm:=List.mem_of_getElem? hr
      have HR:=Lh hr
      have HN:Hid (∀W,Below wr.heap.size wr W→Calls Tryz.prog 77 #[.slice r.A r.f.regs.length r.c] W (RetO W 3 1 r.f.regs.length (zs r.f.regs))):=Lh (fun W hW=>Writes.clonei_c r.f.regs r.A _ _ W ((HT.out.nest r hm).below (bl_trans hc.bel hW)) (N7.out r hm))
      have a8:=hc.blk.cell 8 (.slice (some ⟨gF,0,none⟩) x.fl.length d8) rfl
      have HFZ:Hid (∀W',Below wr.heap.size wr W' →W'.cell? ⟨gF,j * 4+3,none⟩=some (.slice r.A r.f.regs.length r.c)∧W'.frozen? ⟨gF,j * 4+3,none⟩=false):=Lh (fun W' hW' =>by
        refine ⟨cell_kept_up k3 hW',?_⟩
        rcases (hown.below hW').1.2 with ⟨h1,_⟩ | ⟨g1,c1,cur,h1,_,h2,_⟩
        · cases h1
        · injection h1 with h1
          injection h1 with h1
          injection h1 with h1
          subst h1
          simp[World.frozen?,h2])
      clear hc hown hr hm k0 k1 k2
      go_wp2_with fail
      have d8_:wr.drew.cell? ⟨w.heap.size,8,none⟩=some (.slice (some ⟨gF,0,none⟩) x.fl.length d8):=a8
      have k3_:wr.drew.cell? ⟨gF,j * 4+3,none⟩=some (.slice r.A r.f.regs.length r.c):=k3
      refine wp_region_held_drew (S:=fun (W:World)=>W.cell? ⟨w.heap.size,8,none⟩=some (.slice (some ⟨gF,0,none⟩) x.fl.length d8)) (by kernel_rfl) d8_ (fun hHeld=>?_)
      refine tk 0 (.pointer (some ⟨w.heap.size,8,none⟩)) rfl hHeld ?_
      try go_simp
      refine tk 1 (.slice (some ⟨gF,0,none⟩) x.fl.length d8) rfl hHeld ?_ (hy:=Or.inl ⟨by rfl,fun W hS=>by have k2:=hS;go_simp⟩)
      try go_simp
      refine tk 2 (.int .i64 j) rfl hHeld ?_
      try go_simp
      refine tk 3 (.pointer (some ⟨w.heap.size,8,none⟩)) rfl hHeld ?_
      try go_simp
      refine tk 4 (.slice (some ⟨gF,0,none⟩) x.fl.length d8) rfl hHeld ?_ (hy:=Or.inl ⟨by rfl,fun W hS=>by have k2:=hS;go_simp⟩)
      try go_simp
      refine tk 5 (.int .i64 j) rfl hHeld ?_
      try go_simp
      refine tk 6 (.pointer (some ⟨gF,j * 4,none⟩)) rfl hHeld ?_
      try go_simp
      refine tk 7 (.pointer (some ⟨gF,j * 4+3,none⟩)) rfl hHeld ?_
      try go_simp
      refine rdy 8 rfl (fun KK hK=>?_)
      go_simp
      refine hK.out _ _ d8_ (fun hHeld2=>?_)
      try go_simp
      clear hK KK
      refine rdy 9 rfl (fun KK hK=>?_)
      refine calls_step2 (by rfl) 77 #[.slice r.A r.f.regs.length r.c] _ (HN.out _ (Below.refl _ _).drew) ?_ ?_
      · focus (go_simp;done)
      rintro e wq ⟨vq,rfl,hq⟩
      refine ⟨_,rfl,?_⟩
      obtain ⟨Bq,dq,rfl,hdq,-⟩:=Mem.own_room hq
      have HC2:=Lh ((HC.out.below (Below.refl _ _).drew).nest hq (j * 4+3))
      obtain ⟨z3,zf3⟩:=HFZ.out wq (bl_trans (Below.refl _ _).drew hq.2)
      have y8:wq.cell? ⟨w.heap.size,8,none⟩=some (.slice (some ⟨gF,0,none⟩) x.fl.length d8):=cell_kept_up d8_ hq.2
      have hgb:gF≠w.heap.size:=fun e=>(HC.out.off _ (List.mem_cons_self ..)).1 (by rw[←e];rfl)
      have y9:(wq.setCell ⟨gF,j * 4+3,none⟩ (.slice Bq r.f.regs.length dq)).cell? ⟨w.heap.size,8,none⟩=some (.slice (some ⟨gF,0,none⟩) x.fl.length d8):=by rw[cell_set_ne hgb];exact y8
      clear hq hdq
      refine hK.out _ _ y8 (fun hHeld3=>?_)
      try go_simp
      clear hK KK
      refine tk 10 (.pointer (some ⟨gF,j * 4,none⟩)) rfl hHeld3 ?_
      try go_simp
      refine tk 11 (.pointer (some ⟨gF,j * 4+3,none⟩)) rfl hHeld3 ?_
      try go_simp
      refine rdy 12 rfl (fun KK hK=>?_)
      go_simp
      refine hK.out _ _ y9 (fun _=>?_)
      clear hK KK
      refine wpAnyH_done (by kernel_rfl) ?_ _
      go_wp2
      go_roundw
      case rel=>
        refine ⟨j+1,ys++ [⟨r.f,Bq,dq⟩],by omega,by go_num,by rw[List.length_append,HY1.out];rfl,?_,?_⟩
        · rw[List.map_append,HY2.out,List.take_add_one,HR.out];simp
        · have h9:=HC2.out
          rw[nest_eq x.fl ys j r HR.out HY1.out Bq dq]at h9
          have e9:((ys++ [(⟨r.f,Bq,dq⟩:FRaw)]).map ros).reverse=ros ⟨r.f,Bq,dq⟩::(ys.map ros).reverse:=by simp
          rw[e9]
          exact h9
      case measure=>simp[intOf];omega
    · have hjn:j=x.fl.length:=by omega
      subst hjn
      have HC:=Lh hc
      have q0:=hc.blk.cell 0 _ rfl
      have q1:=hc.blk.cell 1 _ rfl
      have q2:=hc.blk.cell 2 _ rfl
      have q3:=hc.blk.cell 3 _ rfl
      have q4:=hc.blk.cell 4 _ rfl
      have q5:=hc.blk.cell 5 _ rfl
      have q6:=hc.blk.cell 6 _ rfl
      have q7:=hc.blk.cell 7 _ rfl
      have q8:=hc.blk.cell 8 _ rfl
      have q9:=hc.blk.cell 9 _ rfl
      have q10:=hc.blk.cell 10 _ rfl
      have z0:=hc.blk2.cell 0 _ rfl
      have z1:=hc.blk2.cell 1 _ rfl
      have z2:=hc.blk2.cell 2 _ rfl
      have z3:=hc.blk2.cell 3 _ rfl
      have z4:=hc.blk2.cell 4 _ rfl
      have z5:=hc.blk2.cell 5 _ rfl
      have z6:=hc.blk2.cell 6 _ rfl
      have z7:=hc.blk2.cell 7 _ rfl
      have z8:=hc.blk2.cell 8 _ rfl
      have z9:=hc.blk2.cell 9 _ rfl
      have z10:=hc.blk2.cell 10 _ rfl
      have zf0:=hc.blk2.frozen 0
      have zf1:=hc.blk2.frozen 1
      have zf2:=hc.blk2.frozen 2
      have zf3:=hc.blk2.frozen 3
      have zf4:=hc.blk2.frozen 4
      have zf5:=hc.blk2.frozen 5
      have zf6:=hc.blk2.frozen 6
      have zf7:=hc.blk2.frozen 7
      have zf8:=hc.blk2.frozen 8
      have zf9:=hc.blk2.frozen 9
      have zf10:=hc.blk2.frozen 10
      clear hc
      go_wp2_with fail
      clear q0 z0 zf0 q1 z1 zf1 q2 z2 zf2 q3 z3 zf3 q4 z4 zf4 q5 z5 zf5 q6 z6 zf6 q7 z7 zf7 q8 z8 zf8 q9 z9 zf9 q10 z10 zf10
      have HE:=(((((((((((HC.out.put2 0 (.int .i64 t.who)).put2 1 (.int .i64 t.snap)).put2 2 (.int .i64 t.pc)).put2 3 (.slice B3 t.regs.length d3)).put2 4 (.slice B4 t.path.length d4)).put2 5 (.slice B5 t.reads.length d5)).put2 6 (.slice B6 t.log.list.length d6)).put2 7 (.slice B7 t.log.marks.length d7)).put2 8 (.slice B8 x.fl.length d8)).put2 9 (.int .i64 t.kind)).put2 10 (.int .i64 t.why))
      generalize (((((((((((wr.setCell ⟨w.heap.size+1,0,none⟩ (.int .i64 t.who)).setCell ⟨w.heap.size+1,1,none⟩ (.int .i64 t.snap)).setCell ⟨w.heap.size+1,2,none⟩ (.int .i64 t.pc)).setCell ⟨w.heap.size+1,3,none⟩ (.slice B3 t.regs.length d3)).setCell ⟨w.heap.size+1,4,none⟩ (.slice B4 t.path.length d4)).setCell ⟨w.heap.size+1,5,none⟩ (.slice B5 t.reads.length d5)).setCell ⟨w.heap.size+1,6,none⟩ (.slice B6 t.log.list.length d6)).setCell ⟨w.heap.size+1,7,none⟩ (.slice B7 t.log.marks.length d7)).setCell ⟨w.heap.size+1,8,none⟩ (.slice B8 x.fl.length d8)).setCell ⟨w.heap.size+1,9,none⟩ (.int .i64 t.kind)).setCell ⟨w.heap.size+1,10,none⟩ (.int .i64 t.why))=wE at *
      have r0:=HE.blk2.cell 0 _ rfl
      have r1:=HE.blk2.cell 1 _ rfl
      have r2:=HE.blk2.cell 2 _ rfl
      have r3:=HE.blk2.cell 3 _ rfl
      have r4:=HE.blk2.cell 4 _ rfl
      have r5:=HE.blk2.cell 5 _ rfl
      have r6:=HE.blk2.cell 6 _ rfl
      have r7:=HE.blk2.cell 7 _ rfl
      have r8:=HE.blk2.cell 8 _ rfl
      have r9:=HE.blk2.cell 9 _ rfl
      have r10:=HE.blk2.cell 10 _ rfl
      have HE2:=Lh HE
      clear HE
      refine bodyPost_ret (v:=.agg #[.int .i64 t.who,.int .i64 t.snap,.int .i64 t.pc,.slice B3 t.regs.length d3,.slice B4 t.path.length d4,.slice B5 t.reads.length d5,.slice B6 t.log.list.length d6,.slice B7 t.log.marks.length d7,.slice B8 x.fl.length d8,.int .i64 t.kind,.int .i64 t.why]) (by simp[results,Tryz.results60,go_sem,r0,r1,r2,r3,r4,r5,r6,r7,r8,r9,r10]) rfl ?_
      obtain ⟨yf,hyf⟩:∃yf,yf=ys:=⟨_,rfl⟩
      have hlen:ys.length=x.fl.length:=HY1.out
      have hraw:ys.map FRaw.f=t.frames.reverse:=by rw[HY2.out,List.take_length,HT.out.raw]
      have hown:=HE2.out.own.perm (rev_perm _ _ _ _ _ _ (ys.map ros))
      rw[List.drop_length,List.append_nil]at hown
      refine ⟨⟨B3,d3,B4,d4,B5,d5,B6,d6,B7,d7,B8,d8,ys⟩,?_,?_,hraw,by show ys.length≤1000000;rw[hlen];exact N6.out,HE2.out.bel⟩
      · unfold tvl;simp only[hlen]
      · rw[←hlen]at hown;exact hown
end Go.Proofs.YtgghaodcfgbjlaaGreat.Attempt
namespace Go.Proofs.YtgghaodcfgbjlaaGreat.Reads
open Go.ChangeShapes Go.WideShapes Go.ChangeAt Go.RowKit Mem
def RetOE (w:World) (m:Nat) (a:List Read × Int) (e:Ending) (w' :World):Prop:=∃B d,e=.returned (.tuple #[.slice B m d,.int .i64 a.2])∧Own w w' 107 3 (.slice B m d) m (ds a.1)
set_option maxHeartbeats 4000000 in
theorem add_o (l:List Read) (A:Option Addr) (n c:Nat) (cl vr vl:Int) (w:World) (a:List Read × Int) (m:Nat) (hr:Rd w 3 A n (ds l)) (hnc:n≤c) (hn:n≤1000000)
  (ha:addS l ⟨cl,vr,vl⟩=a) (hm:a.1.length=m):
  Calls Tryz.prog 208 #[.slice A n c,.agg #[.int .i64 cl,.int .i64 vr,.int .i64 vl]] w (RetOE w m a):=by
 have HA:=Lh ha
 have HQ:=Lh hm
 have HL:=Lh (ds_len hr)
 have HR:=Lh hr
 clear hr ha hm
 have HB0:Hid (Blk (w.alloc (.cells #[.int .i64 cl,.int .i64 vr,.int .i64 vl] 107)) w.heap.size 107 #[.int .i64 cl,.int .i64 vr,.int .i64 vl]):=Lh (Blk.new _ _ _)
 go_enter Tryz.func208,Tryz.ntmps208
 go_wp2_with fail
 refine (clone_any l _ _ _ _ (HR.out.alloc _) hn).mono ?_
 rintro e w2 ⟨v,rfl,ho⟩
 have HO2:=Lh (ho.wide (bl_alloc (Below.refl w.heap.size w) _))
 have HK2:=Lh (HB0.out.below ho.2)
 obtain ⟨B,d,rfl,hnd,-⟩:=own_room ho
 clear ho HB0
 have HB2:=Lh HO2.out.2
 cases h1:rightB l
 ·have H1:=Lh h1
  have HF:Hid (a=(l,1)):=Lh (by rw[←HA.out];exact add_no _ _ (by rw[h1];rfl))
  have HN:Hid (m=n):=Lh (by rw[←HQ.out,HF.out];exact HL.out)
  obtain rfl:=HN.out
  clear h1
  go_wp2_with fail
  refine (right_c l _ _ _ _ false (HR.out.below HB2.out) hnc hn H1.out).mono ?_
  rintro e w3 ⟨rfl,b3⟩
  have HO3:=Lh (HO2.out.below b3)
  clear b3
  go_wp2
  go_ret2
  exact ⟨B,d,by rw[HF.out];rfl,by rw[HF.out];exact HO3.out⟩
 ·have H1:=Lh h1
  clear h1
  go_wp2_with fail
  refine (right_c l _ _ _ _ true (HR.out.below HB2.out) hnc hn H1.out).mono ?_
  rintro e w3 ⟨rfl,b3⟩
  have HO3:=Lh (HO2.out.below b3)
  have HK3:=Lh (HK2.out.below b3)
  clear b3 HK2 HO2 HB2
  have q0:=HK3.out.cell 0 _ rfl
  have q1:=HK3.out.cell 1 _ rfl
  have q2:=HK3.out.cell 2 _ rfl
  cases h2:oneB ⟨cl,vr,vl⟩
  ·have H2:=Lh h2
   have HF:Hid (a=(l,1)):=Lh (by rw[←HA.out];exact add_no _ _ (by rw[H1.out,h2];rfl))
   have HN:Hid (m=n):=Lh (by rw[←HQ.out,HF.out];exact HL.out)
   obtain rfl:=HN.out
   clear h2
   go_wp2_with fail
   refine (read_any _ _ _ _ false H2.out).mono ?_
   rintro e w4 ⟨rfl,g4⟩
   have HO4:=Lh (HO3.out.below g4.below)
   clear g4 q0 q1 q2
   go_wp2
   go_ret2
   exact ⟨B,d,by rw[HF.out];rfl,by rw[HF.out];exact HO4.out⟩
  ·have H2:=Lh h2
   have HY:Hid ((rightB l && oneB ⟨cl,vr,vl⟩)=true):=Lh (by rw[H1.out,h2];rfl)
   clear h2
   go_wp2_with fail
   refine (read_any _ _ _ _ true H2.out).mono ?_
   rintro e w4 ⟨rfl,g4⟩
   have HO4:=Lh (HO3.out.below g4.below)
   have HK4:=Lh (HK3.out.below g4.below)
   clear g4 q0 q1 q2 HK3 HO3
   have q0:=HK4.out.cell 0 _ rfl
   cases hf:findS l cl with
   | some x=>
    obtain ⟨cx,vx,lx⟩:=x
    have HFD:=Lh hf
    have HX:Hid (orNo (findS l cl)=(⟨cx,vx,lx⟩,true)):=Lh (by rw[hf];rfl)
    clear hf
    go_wp2_with fail
    refine (find_c l _ _ _ _ _ _ (HR.out.below HO4.out.2) hn HX.out).mono ?_
    rintro e w5 ⟨rfl,b5⟩
    have HO5:=Lh (HO4.out.below b5)
    have HK5:=Lh (HK4.out.below b5)
    clear b5 q0 HK4 HO4
    have p0:∀o,(w5.alloc o).cell? ⟨w.heap.size,0,none⟩=some (.int .i64 cl):=fun o=>(HK5.out.alloc o).cell 0 _ rfl
    have p1:∀o,(w5.alloc o).cell? ⟨w.heap.size,1,none⟩=some (.int .i64 vr):=fun o=>(HK5.out.alloc o).cell 1 _ rfl
    have p2:∀o,(w5.alloc o).cell? ⟨w.heap.size,2,none⟩=some (.int .i64 vl):=fun o=>(HK5.out.alloc o).cell 2 _ rfl
    obtain ⟨-,hcx⟩:=find_some l cl _ HFD.out
    have hcx' :cx=cl:=hcx
    clear hcx
    subst hcx'
    by_cases hv:vx=vr
    ·subst hv
     by_cases hw:lx=vl
     ·subst hw
      have HF:Hid (a=(l,0)):=Lh (by rw[←HA.out];exact add_had _ _ HY.out HFD.out)
      have HN:Hid (m=n):=Lh (by rw[←HQ.out,HF.out];exact HL.out)
      obtain rfl:=HN.out
      go_wp2
      go_ret2
      exact ⟨B,d,by rw[HF.out];rfl,by rw[HF.out];exact (HO5.out.alloc _)⟩
     ·have HF:Hid (a=(l,8)):=Lh (by rw[←HA.out];exact add_stale _ _ _ HY.out HFD.out (by intro e;injection e with _ _ e;exact hw e))
      have HN:Hid (m=n):=Lh (by rw[←HQ.out,HF.out];exact HL.out)
      obtain rfl:=HN.out
      go_wp2
      go_ret2
      exact ⟨B,d,by rw[HF.out];rfl,by rw[HF.out];exact (HO5.out.alloc _)⟩
    ·have HF:Hid (a=(l,8)):=Lh (by rw[←HA.out];exact add_stale _ _ _ HY.out HFD.out (by intro e;injection e with _ e _;exact hv e))
     have HN:Hid (m=n):=Lh (by rw[←HQ.out,HF.out];exact HL.out)
     obtain rfl:=HN.out
     go_wp2
     go_ret2
     exact ⟨B,d,by rw[HF.out];rfl,by rw[HF.out];exact (HO5.out.alloc _)⟩
   | none=>
    have HFD:=Lh hf
    have HX:Hid (orNo (findS l cl)=(⟨0,0,0⟩,false)):=Lh (by rw[hf];rfl)
    clear hf
    go_wp2_with fail
    refine (find_c l _ _ _ _ _ _ (HR.out.below HO4.out.2) hn HX.out).mono ?_
    rintro e w5 ⟨rfl,b5⟩
    have HO5:=Lh (HO4.out.below b5)
    have HK5:=Lh (HK4.out.below b5)
    clear b5 q0 HK4 HO4
    have p0:∀o,(w5.alloc o).cell? ⟨w.heap.size,0,none⟩=some (.int .i64 cl):=fun o=>(HK5.out.alloc o).cell 0 _ rfl
    have p1:∀o,(w5.alloc o).cell? ⟨w.heap.size,1,none⟩=some (.int .i64 vr):=fun o=>(HK5.out.alloc o).cell 1 _ rfl
    have p2:∀o,(w5.alloc o).cell? ⟨w.heap.size,2,none⟩=some (.int .i64 vl):=fun o=>(HK5.out.alloc o).cell 2 _ rfl
    by_cases h24:n=24
    ·subst h24
     have HF:Hid (a=(l,5)):=Lh (by rw[←HA.out];exact add_big _ _ HY.out HFD.out HL.out)
     have HN:Hid (m=24):=Lh (by rw[←HQ.out,HF.out];exact HL.out)
     obtain rfl:=HN.out
     go_wp2
     go_ret2
     exact ⟨B,d,by rw[HF.out];rfl,by rw[HF.out];exact (HO5.out.alloc _)⟩
    ·have HF:Hid (a=(l++ [⟨cl,vr,vl⟩],0)):=Lh (by rw[←HA.out];exact add_new _ _ HY.out HFD.out (by rw[HL.out];exact h24))
     have HN:Hid (m=n+1):=Lh (by rw[←HQ.out,HF.out];simp[HL.out])
     obtain rfl:=HN.out
     have t24:((n:Int)==24)=false:=beq_eq_false_iff_ne.2 (by omega)
     clear h24
     go_wp2_with (at_builtin;refine append_rd rfl _ _ 28 rfl tRead w _ _ _ rfl ((HO5.out.alloc _).alloc _) _ 1 1 (dc ⟨cl,vr,vl⟩) rfl (Rd.builtAt _ 3 1 (dc ⟨cl,vr,vl⟩) _ rfl (by simp)) (dc_one _) (by omega) (by omega) ?_;intro v2 w6 hown2 hg2;clear hg2)
     obtain ⟨B2,d2,rfl,hnd2,hrd⟩:=own_room hown2
     go_ret2
     exact ⟨B2,d2,by rw[HF.out];rfl,by rw[HF.out,ds_app];simpa [ds] using hown2⟩
end Go.Proofs.YtgghaodcfgbjlaaGreat.Reads
namespace Go.Proofs.YtgghaodcfgbjlaaGreat.Attempt
open Go.ChangeShapes Go.WideShapes Go.ChangeAt Go.RowKit Mem Go.Proofs.YtgghaodcfgbjlaaGreat.Code
structure Small (t:Try) (x:TL):Prop where
 regs:t.regs.length=8
 path:t.path.length≤1000
 reads:t.reads.length≤1000
 list:t.log.list.length≤1000
 marks:t.log.marks.length≤1000
 fl:x.fl.length≤1000
 pc:t.pc≤1000
def tl (HA:Option Addr) (hn hc:Nat) (TA:Option Addr) (tn tc:Nat):List Value:= [.slice HA hn hc,.slice TA tn tc]
structure MPre (w0 w:World) (g:Nat) (HA:Option Addr) (hn hc:Nat) (h:List Heap.Cell) (TA:Option Addr) (tn tc:Nat) (r:List Stripe.Rec) (t:Try) (x:TL) (s:Raw):Prop where
 m:MAt w0 w g 141 (tl HA hn hc TA tn tc) t x
 sm:Small t x
 heap:Rd w0 2 HA hn (Heap.cs h)
 hn6:hn≤1000000
 tab:Rd w0 2 TA tn (Stripe.rs r)
 tn6:tn≤1000000
 term:Rd w0 2 s.T s.n (Term.ops s.s.t)
 sn6:s.n≤1000000
section
variable {w0 w w' :World} {g:Nat} {HA TA:Option Addr} {hn hc tn tc:Nat} {h:List Heap.Cell} {r:List Stripe.Rec} {t:Try} {x:TL} {s:Raw}
theorem MPre.below (p:MPre w0 w g HA hn hc h TA tn tc r t x s) (hb:Below w.heap.size w w'):MPre w0 w' g HA hn hc h TA tn tc r t x s:=⟨p.m.below hb,p.sm,p.heap,p.hn6,p.tab,p.tn6,p.term,p.sn6⟩
theorem MPre.tails (p:MPre w0 w g HA hn hc h TA tn tc r t x s):w.cell? ⟨g,11,none⟩=some (.slice HA hn hc)∧w.cell? ⟨g,12,none⟩=some (.slice TA tn tc):=⟨p.m.blk.cell 11 _ rfl,p.m.blk.cell 12 _ rfl⟩
theorem MPre.hp (p:MPre w0 w g HA hn hc h TA tn tc r t x s):Rd w 2 HA hn (Heap.cs h):=p.heap.below p.m.bel
theorem MPre.tb (p:MPre w0 w g HA hn hc h TA tn tc r t x s):Rd w 2 TA tn (Stripe.rs r):=p.tab.below p.m.bel
theorem MPre.tm (p:MPre w0 w g HA hn hc h TA tn tc r t x s):Rd w 2 s.T s.n (Term.ops s.s.t):=p.term.below p.m.bel
end
def MRet (w0 w:World) (g:Nat) (tail:List Value) (t:Try) (x:TL) (t' :Try) (e:Ending) (w' :World):Prop:=e=.returned (.tuple #[])∧Moves w0 w g 141 tail t x t' w'
theorem end_c (w0 w:World) (g:Nat) (tail:List Value) (t:Try) (x:TL) (k y:Int) (hm:MAt w0 w g 141 tail t x) (hl:x.fl.length≤1000000):
  Calls Tryz.prog 162 #[.pointer (some ⟨g,0,none⟩),.int .i64 k,.int .i64 y] w (MRet w0 w g tail t x (ended t k y)):=by
 obtain ⟨m1,v1⟩:=hm.kind_ k
 obtain ⟨m2,v2⟩:=m1.why_ y
 have HM:=Lh m2
 have HV:=Lh (v1.trans v2)
 have q9:=hm.cells.2.2.2.2.2.2.2.2.2.1
 have f9:=hm.froz 9
 have q10:=m1.cells.2.2.2.2.2.2.2.2.2.2
 have f10:=m1.froz 10
 clear m1 v1 m2 v2 hm
 go_enter Tryz.func162,Tryz.ntmps162
 go_wp2
 go_end0
 exact ⟨rfl,x,HM.out,HV.out,hl⟩
theorem told_c (w0 w:World) (g:Nat) (HA:Option Addr) (hn hc:Nat) (h:List Heap.Cell) (TA:Option Addr) (tn tc:Nat) (r:List Stripe.Rec) (t:Try) (x:TL) (s:Raw) (v:Int × Int) (p:MPre w0 w g HA hn hc h TA tn tc r t x s) (hv:Term.evalS s.s.t h t.regs=v):
    Calls Tryz.prog 164 #[.pointer (some ⟨g,0,none⟩),.agg #[.int .i64 s.s.d,.int .i64 s.s.a,.int .i64 s.s.b,.slice s.T s.n s.c]] w fun e w' =>e=.returned (.int .i64 v.1)∧Below w.heap.size w w' :=by
  obtain ⟨w1,hw1⟩:∃w1,w1=w.alloc (.cells #[.int .i64 s.s.d,.int .i64 s.s.a,.int .i64 s.s.b,.slice s.T s.n s.c] 113):=⟨_,rfl⟩
  have HB:Hid (Below w.heap.size w w1):=Lh (by rw[hw1];exact bl_alloc (Below.refl _ _) _)
  have HK:Hid (Blk w1 w.heap.size 113 #[.int .i64 s.s.d,.int .i64 s.s.a,.int .i64 s.s.b,.slice s.T s.n s.c]):=Lh (by rw[hw1];exact Blk.new _ _ _)
  have HP:=Lh (p.below HB.out)
  have HC:Hid (∀W,Below w1.heap.size w1 W→Calls Tryz.prog 209 #[.slice s.T s.n s.c,.slice HA hn hc,.slice x.R t.regs.length x.rc] W fun e w' =>e=.returned (.tuple #[.int .i64 v.1,.int .i64 v.2])∧Below w1.heap.size w1 w'):=
    Lh (fun W hW=>(Term.eval_c s.s.t h t.regs s.T HA x.R s.n s.c hn hc t.regs.length x.rc W v (HP.out.below hW).tm (HP.out.below hW).hp (HP.out.below hW).m.rd.regs p.sn6 p.hn6 hv).mono (fun e w' hp=>⟨hp.1,bl_trans hW hp.2⟩))
  have q3:=HK.out.cell 3 _ rfl
  have q11:=HP.out.tails.1
  have r3:=HP.out.m.cells.2.2.2.1
  have BD:Hid (Below w1.heap.size w1 w1.drew):=Lh (Below.refl _ _).drew
  clear p hv
  go_enter Tryz.func164,Tryz.ntmps164
  go_wp2_with fail
  rw[←hw1]
  clear hw1
  have i0:w1.drew.cell? ⟨w.heap.size,3,none⟩=some (.slice s.T s.n s.c):=q3
  have i1:w1.drew.cell? ⟨g,11,none⟩=some (.slice HA hn hc):=q11
  have i2:w1.drew.cell? ⟨g,3,none⟩=some (.slice x.R t.regs.length x.rc):=r3
  go_region_held3 (fun w' =>w'.cell? ⟨w.heap.size,3,none⟩=some (.slice s.T s.n s.c)∧w'.cell? ⟨g,11,none⟩=some (.slice HA hn hc)∧w'.cell? ⟨g,3,none⟩=some (.slice x.R t.regs.length x.rc)) (first | exact ⟨a0,a1,a2⟩ | exact ⟨i0,i1,i2⟩ | go_keep)
    ((go_at_call 209
      refine (HC.out _ BD.out).mono ?_
      rintro e w5 ⟨rfl,o5⟩
      have BA:=Lh o5
      have a0:=(HK.out.below BA.out).cell 3 _ rfl
      have a1:=(HP.out.below BA.out).tails.1
      have a2:=(HP.out.below BA.out).m.cells.2.2.2.1
      clear o5))
  go_wp2
  go_ret
  exact ⟨rfl,bl_trans HB.out BA.out⟩
theorem fail_c (w0 w:World) (g:Nat) (HA:Option Addr) (hn hc:Nat) (h:List Heap.Cell) (TA:Option Addr) (tn tc:Nat) (r:List Stripe.Rec) (t:Try) (x:TL) (s:Raw) (p:MPre w0 w g HA hn hc h TA tn tc r t x s):
  Calls Tryz.prog 123 #[.pointer (some ⟨g,0,none⟩),.agg #[.int .i64 s.s.d,.int .i64 s.s.a,.int .i64 s.s.b,.slice s.T s.n s.c]] w (MRet w0 w g (tl HA hn hc TA tn tc) t x (ended t 3 s.s.a)):=by
 have HB:=Lh (bl_alloc (Below.refl w.heap.size w) (.cells #[.int .i64 s.s.d,.int .i64 s.s.a,.int .i64 s.s.b,.slice s.T s.n s.c] 113))
 have HP:=Lh (p.below HB.out)
 have HF:Hid (x.fl.length≤1000000):=Lh (Nat.le_trans p.sm.fl (by decide))
 clear p
 go_enter Tryz.func123,Tryz.ntmps123
 go_wp2_with (go_at_call 162;refine (end_c w0 _ g _ t x 3 s.s.a HP.out.m HF.out).mono ?_;rintro e w1 ⟨rfl,hm⟩;have HM:=Lh hm;clear hm)
 go_end0
 obtain ⟨x',h1,h2,h3⟩:=HM.out
 exact ⟨rfl,x',h1,((Mv.refl w g (x.os t)).bel HB.out).trans h2,h3⟩
section
variable {w0 w w' :World} {g:Nat} {ty:TypeId} {tail:List Value} {t t' :Try} {x x' :TL}
theorem own_r (h:MAt w0 w g ty tail t x) (h8:t.regs.length=8):∃gR,x.R=some ⟨gR,0,none⟩∧gR<w.heap.size∧gR≠g∧w0.heap.size≤gR:=by
 have h5:=h.own.mem 0 rfl
 obtain ⟨gf,cap,hv⟩:=own_lay h5 (by show 0<t.regs.length;omega)
 injection hv with hv
 have hb:(Value.slice x.R t.regs.length x.rc).ownBlock=some gf:=by rw[hv];rfl
 exact ⟨gf,hv,h5.lt gf hb,fun e=>h.off _ (List.mem_of_getElem? (i:=0) rfl) (by rw[←e];exact hb),h5.base gf hb⟩
theorem zs_set (l:List Int) (k:Nat) (v:Int):(zs l).set k (.int .i64 v)=zs (l.set k v):=by
 rw[Reads.zs_map,Reads.zs_map,List.map_set]
theorem MAt.reg_ (h:MAt w0 w g ty tail t x) {gR:Nat} (hR:x.R=some ⟨gR,0,none⟩) (a v:Int) (k:Nat) (hk:a=(k:Int)):
  MAt w0 (w.setCell ⟨gR,k,none⟩ (.int .i64 v)) g ty tail (regT t a v) x∧Mv w g (x.os t) (w.setCell ⟨gR,k,none⟩ (.int .i64 v)) (x.os (regT t a v)):=by
 subst hk
 have hm:=h.own.mem 0 rfl
 have hne:gR≠g:=fun e=>h.off _ (List.mem_of_getElem? (i:=0) rfl) (by rw[hR,e];rfl)
 have h1:=h.own.write 0 3 1 t.regs.length x.rc gR (zs t.regs) (by unfold TL.os;rw[hR];rfl) k (.int .i64 v)
 have e1:(x.os t).set 0 ⟨3,1,.slice (some ⟨gR,0,none⟩) t.regs.length x.rc,t.regs.length,(zs t.regs).set k (.int .i64 v)⟩=x.os (regT t (k:Int) v):=by
  unfold TL.os regT
  rw[zs_set,hR]
  simp
 rw[e1]at h1
 have e2:tvl (regT t (k:Int) v) x=tvl t x:=by unfold tvl regT;simp
 have hof:∀o∈x.os (regT t (k:Int) v),∃p∈x.os t,p.v.ownBlock=o.v.ownBlock:=by
  intro o ho
  rw[←e1]at ho
  rcases List.mem_or_eq_of_mem_set ho with h5 | h5
  ·exact ⟨o,h5,rfl⟩
  ·exact ⟨_,List.mem_of_getElem? (i:=0) rfl,by rw[h5,hR]⟩
 refine ⟨⟨h.base,by rw[e2];exact h.blk.beside hne k _,h1,fun o ho e=>?_,h.raw⟩,(Only.refl _ w).put gR k _ (.inr ⟨_,List.mem_of_getElem? (i:=0) rfl,by rw[hR];rfl⟩),fun i _ hi=>?_⟩
 ·obtain ⟨p,hp,e3⟩:=hof o ho
  exact h.off p hp (e3.trans e)
 ·rcases hi with hi | ⟨o,ho,hv⟩
  ·exact .inl hi
  ·obtain ⟨p,hp,e3⟩:=hof o ho
   exact .inr ⟨p,hp,e3.trans hv⟩
theorem MAt.goes_ (h:MAt w0 w g ty tail t x) (k:Nat) (z:Int) (hz:(t.pc:Int)+(k:Int)=z):MAt w0 (w.setCell ⟨g,2,none⟩ (.int .i64 z)) g ty tail (goes t k) x∧Mv w g (x.os t) (w.setCell ⟨g,2,none⟩ (.int .i64 z)) (x.os (goes t k)):=by
 subst hz
 exact h.pc_ (t.pc+k)
end
set_option maxHeartbeats 4000000 in
theorem set_c (w0 w:World) (g:Nat) (HA:Option Addr) (hn hc:Nat) (h:List Heap.Cell) (TA:Option Addr) (tn tc:Nat) (r:List Stripe.Rec) (t:Try) (x:TL) (s:Raw) (v:Int × Int) (ka:Nat) (p:MPre w0 w g HA hn hc h TA tn tc r t x s) (hv:Term.evalS s.s.t h t.regs=v)
  (hka:s.s.a=(ka:Int)) (hk8:ka<8):
  Calls Tryz.prog 119 #[.pointer (some ⟨g,0,none⟩),.agg #[.int .i64 s.s.d,.int .i64 s.s.a,.int .i64 s.s.b,.slice s.T s.n s.c]] w (MRet w0 w g (tl HA hn hc TA tn tc) t x (goes (regT t s.s.a v.1) 1)):=by
 obtain ⟨w1,hw1⟩:∃w1,w1=w.alloc (.cells #[.int .i64 s.s.d,.int .i64 s.s.a,.int .i64 s.s.b,.slice s.T s.n s.c] 113):=⟨_,rfl⟩
 have HB:Hid (Below w.heap.size w w1):=Lh (by rw[hw1];exact bl_alloc (Below.refl _ _) _)
 have HK:Hid (Blk w1 w.heap.size 113 #[.int .i64 s.s.d,.int .i64 s.s.a,.int .i64 s.s.b,.slice s.T s.n s.c]):=Lh (by rw[hw1];exact Blk.new _ _ _)
 have HP:=Lh (p.below HB.out)
 have HT:=Lh (told_c w0 w1 g HA hn hc h TA tn tc r t x s v HP.out hv)
 obtain ⟨gR,hR,hRw,hRg,_⟩:=own_r p.m p.sm.regs
 have HR:=Lh hR
 have H8:=Lh p.sm.regs
 have hpc:t.pc≤1000:=p.sm.pc
 have HF:Hid (x.fl.length≤1000000):=Lh (Nat.le_trans p.sm.fl (by decide))
 have HKA:=Lh hka
 have hnb:g≠w.heap.size:=by have:=p.m.blk.lt;omega
 have hnR:gR≠w.heap.size:=by omega
 have HW:=Lh hw1
 clear p hv hka hR
 go_enter Tryz.func119,Tryz.ntmps119
 go_wp2_with (
  go_at_call 164
  rw[←HW.out]
  refine HT.out.mono ?_
  rintro e w5 ⟨rfl,b5⟩
  have HB5:=Lh b5
  have HP5:=Lh (HP.out.below b5)
  have HK5:=Lh (HK.out.below b5)
  clear b5)
 have i1:w5.drew.cell? ⟨w.heap.size,1,none⟩=some (.int .i64 (ka:Int)):=by rw[←HKA.out];exact HK5.out.cell 1 _ rfl
 have i3:w5.drew.cell? ⟨g,3,none⟩=some (.slice (some ⟨gR,0,none⟩) 8 x.rc):=by have:=HP5.out.m.cells.2.2.2.1;rw[HR.out,H8.out]at this;exact this
 have M5:=HP5.out.m.below (Below.refl w5.heap.size w5).drew
 obtain ⟨y,hy⟩:∃y,t.regs[ka]?=some y:=⟨_,List.getElem?_eq_getElem (by rw[H8.out];exact hk8)⟩
 have i4:w5.drew.cell? ⟨gR,ka,none⟩=some (.int .i64 y):=by
  have:=M5.rd.regs.2 (by rw[H8.out];decide)
  obtain ⟨b,off,e,hc⟩:=this
  rw[HR.out]at e
  injection e with e
  injection e with e e2
  subst e e2
  have:=hc ka (.int .i64 y) (by rw[Reads.zs_map,List.getElem?_map,hy];rfl)
  rwa [Nat.zero_add]at this
 have i5:w5.drew.frozen? ⟨gR,ka,none⟩=false:=by
  rcases (M5.own.mem 0 rfl).1.2 with ⟨e,_⟩ | ⟨g1,c1,cur,e,_,h2,_⟩
  ·rw[HR.out]at e;cases e
  ·rw [HR.out]at e
   injection e with e
   injection e with e
   injection e with e
   subst e
   simp[World.frozen?,h2]
 obtain ⟨m0,v0⟩:=HP5.out.m.reg_ HR.out s.s.a v.1 ka HKA.out
 have m1:=m0.below (Below.refl _ _).drew
 have j2:(w5.setCell ⟨gR,ka,none⟩ (.int .i64 v.1)).drew.cell? ⟨g,2,none⟩=some (.int .i64 (t.pc:Int)):=m1.cells.2.2.1
 have jf:=m1.froz 2
 obtain ⟨m2,v2⟩:=m0.goes_ 1 ((t.pc:Int)+1) rfl
 have HM:=Lh (m2.below (Below.refl _ _).drew)
 have HV:=Lh ((v0.trans v2).bel (Below.refl _ _).drew)
 clear M5 m0 v0 m1 m2 v2 hy
 go_wp2_with fail
 go_big_region
 go_wp2
 go_end0
 exact ⟨rfl,x,HM.out,((Mv.refl w g (x.os t)).bel (bl_trans HB.out HB5.out)).trans HV.out,HF.out⟩
set_option maxHeartbeats 4000000 in
theorem skip_c (w0 w:World) (g:Nat) (HA:Option Addr) (hn hc:Nat) (h:List Heap.Cell) (TA:Option Addr) (tn tc:Nat) (r:List Stripe.Rec) (t:Try) (x:TL) (s:Raw) (v:Int × Int) (ka:Nat) (p:MPre w0 w g HA hn hc h TA tn tc r t x s) (hv:Term.evalS s.s.t h t.regs=v) (hka:s.s.a=(ka:Int)) (hk:ka≤24):
  Calls Tryz.prog 121 #[.pointer (some ⟨g,0,none⟩),.agg #[.int .i64 s.s.d,.int .i64 s.s.a,.int .i64 s.s.b,.slice s.T s.n s.c]] w (MRet w0 w g (tl HA hn hc TA tn tc) t x (if v.1=0 then goes t (1+ka) else goes t 1)):=by
 obtain ⟨w1,hw1⟩:∃w1,w1=w.alloc (.cells #[.int .i64 s.s.d,.int .i64 s.s.a,.int .i64 s.s.b,.slice s.T s.n s.c] 113):=⟨_,rfl⟩
 have HB:Hid (Below w.heap.size w w1):=Lh (by rw[hw1];exact bl_alloc (Below.refl _ _) _)
 have HK:Hid (Blk w1 w.heap.size 113 #[.int .i64 s.s.d,.int .i64 s.s.a,.int .i64 s.s.b,.slice s.T s.n s.c]):=Lh (by rw[hw1];exact Blk.new _ _ _)
 have HP:=Lh (p.below HB.out)
 have HF:Hid (x.fl.length≤1000000):=Lh (Nat.le_trans p.sm.fl (by decide))
 have hpc:t.pc≤1000:=p.sm.pc
 have hgw:g<w.heap.size:=p.m.blk.lt
 have HW:=Lh hw1
 have HT:=Lh (told_c w0 w1 g HA hn hc h TA tn tc r t x s v HP.out hv)
 have HKA:=Lh hka
 clear p hv hka
 by_cases hz:v.1=0
 ·have HZ:=Lh hz
  rw[if_pos hz]
  go_enter Tryz.func121,Tryz.ntmps121
  go_wp2_with (
   go_at_call 164
   rw[←HW.out]
   refine HT.out.mono ?_
   rintro e w5 ⟨rfl,b5⟩
   have HB5:=Lh b5
   have HP5:=Lh (HP.out.below b5)
   have HK5:=Lh (HK.out.below b5)
   clear b5)
  have i1:w5.drew.cell? ⟨w.heap.size,1,none⟩=some (.int .i64 (ka:Int)):=by rw[←HKA.out];exact HK5.out.cell 1 _ rfl
  have i2:w5.drew.cell? ⟨g,2,none⟩=some (.int .i64 (t.pc:Int)):=HP5.out.m.cells.2.2.1
  have i3:w5.drew.frozen? ⟨g,2,none⟩=false:=HP5.out.m.froz 2
  obtain ⟨m0,v0⟩:=HP5.out.m.goes_ ka ((t.pc:Int)+(ka:Int)) rfl
  have j2:(w5.setCell ⟨g,2,none⟩ (.int .i64 ((t.pc:Int)+(ka:Int)))).drew.cell? ⟨g,2,none⟩=some (.int .i64 ((t.pc:Int)+(ka:Int))):=m0.cells.2.2.1
  have jf:(w5.setCell ⟨g,2,none⟩ (.int .i64 ((t.pc:Int)+(ka:Int)))).drew.frozen? ⟨g,2,none⟩=false:=m0.froz 2
  obtain ⟨m2,v2⟩:=m0.goes_ 1 ((t.pc:Int)+(ka:Int)+1) rfl
  have e0:goes (goes t ka) 1=goes t (1+ka):=by unfold goes;simp only[Try.mk.injEq,true_and,and_true];omega
  rw[e0]at m2 v2
  have HM:=Lh (m2.below (Below.refl _ _).drew)
  have HV:=Lh ((v0.trans v2).bel (Below.refl _ _).drew)
  clear m0 v0 m2 v2 e0
  go_wp2_with fail
  go_big_region
  go_wp2
  go_end0
  exact ⟨rfl,x,HM.out,((Mv.refl w g (x.os t)).bel (bl_trans HB.out HB5.out)).trans HV.out,HF.out⟩
 ·have HZ:Hid (¬v.1=0):=Lh hz
  have hzb:(v.1==0)=false:=by simpa using hz
  rw[if_neg hz]
  go_enter Tryz.func121,Tryz.ntmps121
  go_wp2_with (
   go_at_call 164
   rw[←HW.out]
   refine HT.out.mono ?_
   rintro e w5 ⟨rfl,b5⟩
   have HB5:=Lh b5
   have HP5:=Lh (HP.out.below b5)
   have HK5:=Lh (HK.out.below b5)
   clear b5
   have j2:=HP5.out.m.cells.2.2.1
   have jf:=HP5.out.m.froz 2)
  obtain ⟨m2,v2⟩:=HP5.out.m.goes_ 1 ((t.pc:Int)+1) rfl
  go_end0
  exact ⟨rfl,x,m2,((Mv.refl w g (x.os t)).bel (bl_trans HB.out HB5.out)).trans v2,HF.out⟩
theorem putS_le (lg:Writes.Log) (w:Heap.Write):(Writes.putS lg w).1.list.length≤lg.list.length+1∧(Writes.putS lg w).1.marks=lg.marks:=by
 unfold Writes.putS
 split
 ·split
  ·exact ⟨Nat.le_succ _,rfl⟩
  ·exact ⟨by simp,rfl⟩
 ·exact ⟨Nat.le_succ _,rfl⟩
set_option maxHeartbeats 4000000 in
theorem store_c (w0 w:World) (g:Nat) (HA:Option Addr) (hn hc:Nat) (h:List Heap.Cell) (TA:Option Addr) (tn tc:Nat) (r:List Stripe.Rec) (t:Try) (x:TL) (s:Raw) (v:Int × Int) (T:Try) (p:MPre w0 w g HA hn hc h TA tn tc r t x s) (hr:Heap.rightB h=true) (hv:Term.evalS s.s.t h t.regs=v) (hT:(if Heap.liveAt h s.s.a=true then goes (logT t ⟨s.s.a,v.1⟩) 1 else ended t 4 s.s.a)=T):
    Calls Tryz.prog 120 #[.pointer (some ⟨g,0,none⟩),.agg #[.int .i64 s.s.d,.int .i64 s.s.a,.int .i64 s.s.b,.slice s.T s.n s.c]] w (MRet w0 w g (tl HA hn hc TA tn tc) t x T):=by
  obtain ⟨w1,hw1⟩:∃w1,w1=w.alloc (.cells #[.int .i64 s.s.d,.int .i64 s.s.a,.int .i64 s.s.b,.slice s.T s.n s.c] 113):=⟨_,rfl⟩
  have HB:Hid (Below w.heap.size w w1):=Lh (by rw[hw1];exact bl_alloc (Below.refl _ _) _)
  have HK:Hid (Blk w1 w.heap.size 113 #[.int .i64 s.s.d,.int .i64 s.s.a,.int .i64 s.s.b,.slice s.T s.n s.c]):=Lh (by rw[hw1];exact Blk.new _ _ _)
  have HP:=Lh (p.below HB.out)
  have HF:Hid (x.fl.length≤1000000):=Lh (Nat.le_trans p.sm.fl (by decide))
  have hpc:t.pc≤1000:=p.sm.pc
  have hgw:g<w.heap.size:=p.m.blk.lt
  have HW:=Lh hw1
  have HT:=Lh (fun W (hW:Below w1.heap.size w1 W)=>told_c w0 W g HA hn hc h TA tn tc r t x s v (HP.out.below hW) hv)
  have hhn:=p.hn6
  have HL:=Lh p.sm
  obtain ⟨q,hq⟩:∃q,Heap.getS h s.s.a=q:=⟨_,rfl⟩
  have HG:Hid (∀W,Below w1.heap.size w1 W→Calls Tryz.prog 161 #[.slice HA hn hc,.int .i64 s.s.a] W (Heap.RetG W q)):=Lh (fun W hW=>Heap.get_c h HA hn hc s.s.a W q (HP.out.below hW).hp hhn hq)
  have i0:w1.drew.cell? ⟨g,11,none⟩=some (.slice HA hn hc):=HP.out.tails.1
  have i1:w1.drew.cell? ⟨w.heap.size,1,none⟩=some (.int .i64 s.s.a):=HK.out.cell 1 _ rfl
  have a0' :=HP.out.tails.1
  have a1' :=HK.out.cell 1 _ rfl
  have BD:Hid (Below w1.heap.size w1 w1.drew):=Lh (Below.refl _ _).drew
  have HQ:=Lh hq
  have HTT:=Lh hT
  obtain ⟨a,ha⟩:∃a,Writes.putS t.log ⟨s.s.a,v.1⟩=a:=⟨_,rfl⟩
  have HPU:=Lh ha
  have HLL:Hid (t.log.list.length≤1000000∧t.log.marks.length≤1000000):=Lh ⟨Nat.le_trans p.sm.list (by decide),Nat.le_trans p.sm.marks (by decide)⟩
  have HLG:Hid (goes (logT t ⟨s.s.a,v.1⟩) 1=goes (t.lg a.1) 1):=Lh (by unfold logT;rw[ha];rfl)
  clear ha
  clear p hv hq hT
  go_enter Tryz.func120,Tryz.ntmps120
  go_wp2_with fail
  rw[←hw1]
  clear hw1
  go_region_held3 (fun w' =>w'.cell? ⟨g,11,none⟩=some (.slice HA hn hc)∧w'.cell? ⟨w.heap.size,1,none⟩=some (.int .i64 s.s.a)) (first | exact ⟨a0,a1⟩ | exact ⟨i0,i1⟩ | go_keep)
    ((go_at_call 161
      refine (HG.out _ BD.out).mono ?_
      rintro e w5 ⟨rfl,o5⟩
      have BA:=Lh (bl_trans (Below.refl w1.heap.size w1).drew o5)
      have HP5:=Lh (HP.out.below BA.out)
      have HK5:=Lh (HK.out.below BA.out)
      have a0:=HP5.out.tails.1
      have a1:=HK5.out.cell 1 _ rfl
      clear o5))
  clear i0 i1 a0' a1'
  cases hl:Heap.liveAt h s.s.a with
  | false=>
    have hq3:q.2=3:=by rw[←HQ.out];unfold Heap.getS;rw[if_pos hr,if_neg (by rw[hl];decide)]
    have hq0:¬q.2=0:=by omega
    have hqb:(q.2==0)=false:=by simpa using hq0
    have HE:Hid (T=ended t 4 s.s.a):=Lh (by rw[←HTT.out,if_neg (by rw[hl];decide)])
    clear hl hq3
    go_wp2_with (go_at_call 162;refine (end_c w0 _ g _ t x 4 s.s.a HP5.out.m HF.out).mono ?_;rintro e w6 ⟨rfl,hm⟩;have HM:=Lh hm;clear hm)
    go_end0
    obtain ⟨x',h1,h2,h3⟩:=HM.out
    exact ⟨rfl,x',by rw[HE.out];exact h1,by rw[HE.out];exact ((Mv.refl w g (x.os t)).bel (bl_trans HB.out BA.out)).trans h2,h3⟩
  | true =>
    have hq0:q.2=0:=by rw[←HQ.out];unfold Heap.getS;rw[if_pos hr,if_pos hl]
    have HE:Hid (T=goes (logT t ⟨s.s.a,v.1⟩) 1):=Lh (by rw[←HTT.out,if_pos hl])
    clear hl
    go_wp2_with fail
    have HK6:=Lh (HK5.out.below (Below.refl w5.heap.size w5).drew)
    have f4:(fun (W:World)=>W.cell? ⟨w.heap.size,0,none⟩=some (.int .i64 s.s.d)∧W.cell? ⟨w.heap.size,1,none⟩=some (.int .i64 s.s.a)∧W.cell? ⟨w.heap.size,2,none⟩=some (.int .i64 s.s.b)∧W.cell? ⟨w.heap.size,3,none⟩=some (.slice s.T s.n s.c)) w5.drew:=⟨HK6.out.cell 0 _ rfl,HK6.out.cell 1 _ rfl,HK6.out.cell 2 _ rfl,HK6.out.cell 3 _ rfl⟩
    refine wp_region_held_drew (S:=fun (W:World)=>W.cell? ⟨w.heap.size,0,none⟩=some (.int .i64 s.s.d)∧W.cell? ⟨w.heap.size,1,none⟩=some (.int .i64 s.s.a)∧W.cell? ⟨w.heap.size,2,none⟩=some (.int .i64 s.s.b)∧W.cell? ⟨w.heap.size,3,none⟩=some (.slice s.T s.n s.c)) (by kernel_rfl) f4 (fun hHeld=>?_)
    refine tk 0 (.pointer (some ⟨w.heap.size,1,none⟩)) rfl hHeld ?_
    try go_simp
    refine tk 1 (.int .i64 s.s.a) rfl hHeld ?_ (hy:=Or.inl ⟨by rfl,fun W hS=>by obtain ⟨k0,k1,k2,k3⟩:=hS;go_simp⟩)
    try go_simp
    refine tk 2 (.pointer (some ⟨g,0,none⟩)) rfl hHeld ?_
    try go_simp
    refine tk 3 (.agg #[.int .i64 s.s.d,.int .i64 s.s.a,.int .i64 s.s.b,.slice s.T s.n s.c]) rfl hHeld ?_ (hy:=Or.inl ⟨by rfl,fun W hS=>by obtain ⟨k0,k1,k2,k3⟩:=hS;go_simp⟩)
    try go_simp
    refine wpAnyH_ready (rs:= [4,6]) (by kernel_rfl) (by simp) ?_
    refine AllReadyH.cons rfl (fun KK hK=>?_) (AllReadyH.cons rfl (fun KK hK=>?_) AllReadyH.nil)
    · refine calls_step2 (by rfl) 164 #[.pointer (some ⟨g,0,none⟩),.agg #[.int .i64 s.s.d,.int .i64 s.s.a,.int .i64 s.s.b,.slice s.T s.n s.c]] _ (HT.out _ (bl_trans BA.out (Below.refl w5.heap.size w5).drew)) ?_ ?_
      · focus (go_simp;done)
      rintro e w6 ⟨rfl,o6⟩
      refine ⟨_,rfl,?_⟩
      have BF:=Lh (bl_trans BA.out (bl_trans (Below.refl w5.heap.size w5).drew o6))
      have HKw:=Lh (HK.out.below BF.out)
      have f6:(fun (W:World)=>W.cell? ⟨w.heap.size,0,none⟩=some (.int .i64 s.s.d)∧W.cell? ⟨w.heap.size,1,none⟩=some (.int .i64 s.s.a)∧W.cell? ⟨w.heap.size,2,none⟩=some (.int .i64 s.s.b)∧W.cell? ⟨w.heap.size,3,none⟩=some (.slice s.T s.n s.c)) w6:=⟨HKw.out.cell 0 _ rfl,HKw.out.cell 1 _ rfl,HKw.out.cell 2 _ rfl,HKw.out.cell 3 _ rfl⟩
      clear o6
      refine hK.out _ _ f6 (fun hHeld6=>?_)
      try go_simp
      clear hK KK
      refine tk 5 (.agg #[.int .i64 s.s.a,.int .i64 v.1]) rfl hHeld6 ?_
      try go_simp
      refine rdy 6 rfl (fun KK hK=>?_)
      go_simp
      have HKx:=Lh (HKw.out.below (bl_alloc (Below.refl w6.heap.size w6) (.cells #[.int .i64 0,.int .i64 0] 97)))
      have f7:(fun (W:World)=>W.cell? ⟨w.heap.size,0,none⟩=some (.int .i64 s.s.d)∧W.cell? ⟨w.heap.size,1,none⟩=some (.int .i64 s.s.a)∧W.cell? ⟨w.heap.size,2,none⟩=some (.int .i64 s.s.b)∧W.cell? ⟨w.heap.size,3,none⟩=some (.slice s.T s.n s.c)) (w6.alloc (.cells #[.int .i64 0,.int .i64 0] 97)):=⟨HKx.out.cell 0 _ rfl,HKx.out.cell 1 _ rfl,HKx.out.cell 2 _ rfl,HKx.out.cell 3 _ rfl⟩
      refine hK.out _ _ f7 (fun hHeld7=>?_)
      try go_simp
      clear hK KK
      refine rdy 7 rfl (fun KK hK=>?_)
      go_simp
      have HBL:Hid (Blk (w6.alloc (.cells #[.int .i64 s.s.a,.int .i64 v.1] 97)) w6.heap.size 97 #[.int .i64 s.s.a,.int .i64 v.1]):=Lh (Blk.new _ _ _)
      have BW:Hid (Below w1.heap.size w1 (w6.alloc (.cells #[.int .i64 s.s.a,.int .i64 v.1] 97))):=Lh (bl_alloc BF.out _)
      have HGB:Hid (g≠w6.heap.size):=Lh (by have:=(HP.out.below BF.out).m.blk.lt;omega)
      have f8:(fun (W:World)=>W.cell? ⟨w.heap.size,0,none⟩=some (.int .i64 s.s.d)∧W.cell? ⟨w.heap.size,1,none⟩=some (.int .i64 s.s.a)∧W.cell? ⟨w.heap.size,2,none⟩=some (.int .i64 s.s.b)∧W.cell? ⟨w.heap.size,3,none⟩=some (.slice s.T s.n s.c)) (w6.alloc (.cells #[.int .i64 s.s.a,.int .i64 v.1] 97)):=⟨(HKw.out.below (bl_alloc (Below.refl w6.heap.size w6) (.cells #[.int .i64 s.s.a,.int .i64 v.1] 97))).cell 0 _ rfl,(HKw.out.below (bl_alloc (Below.refl w6.heap.size w6) (.cells #[.int .i64 s.s.a,.int .i64 v.1] 97))).cell 1 _ rfl,(HKw.out.below (bl_alloc (Below.refl w6.heap.size w6) (.cells #[.int .i64 s.s.a,.int .i64 v.1] 97))).cell 2 _ rfl,(HKw.out.below (bl_alloc (Below.refl w6.heap.size w6) (.cells #[.int .i64 s.s.a,.int .i64 v.1] 97))).cell 3 _ rfl⟩
      refine hK.out _ _ f8 (fun _=>?_)
      clear hK KK
      refine wpAnyH_done (by kernel_rfl) ?_ _
      clear f8 f7 f6 f4
      generalize w6.alloc (.cells #[.int .i64 s.s.a,.int .i64 v.1] 97)=W6 at *
      have HP6:=Lh (HP.out.below BW.out)
      have HP6d:=Lh (HP6.out.m.below (Below.refl W6.heap.size W6).drew)
      have p6:W6.drew.cell? ⟨g,6,none⟩=some (.slice x.L t.log.list.length x.lc):=HP6d.out.cells.2.2.2.2.2.2.1
      have p7:W6.drew.cell? ⟨g,7,none⟩=some (.slice x.M t.log.marks.length x.mc):=HP6d.out.cells.2.2.2.2.2.2.2.1
      have f8:(fun (W:World)=>W.cell? ⟨w6.heap.size,0,none⟩=some (.int .i64 s.s.a)∧W.cell? ⟨w6.heap.size,1,none⟩=some (.int .i64 v.1)) W6.drew:=⟨HBL.out.cell 0 _ rfl,HBL.out.cell 1 _ rfl⟩
      have hgb:g≠w6.heap.size:=HGB.out
      go_wp2_with fail
      refine wp_region_held_drew (S:=fun (W:World)=>W.cell? ⟨w6.heap.size,0,none⟩=some (.int .i64 s.s.a)∧W.cell? ⟨w6.heap.size,1,none⟩=some (.int .i64 v.1)) (by kernel_rfl) f8 (fun hH8=>?_)
      refine tk 0 (.pointer (some ⟨g,0,none⟩)) rfl hH8 ?_
      try go_simp
      refine tk 1 (.pointer (some ⟨g,0,none⟩)) rfl hH8 ?_
      try go_simp
      refine tk 2 (.pointer (some ⟨g,0,none⟩)) rfl hH8 ?_
      try go_simp
      refine tk 3 (.pointer (some ⟨g,0,none⟩)) rfl hH8 ?_
      try go_simp
      refine tk 4 (.pointer (some ⟨g,6,none⟩)) rfl hH8 ?_
      try go_simp
      refine tk 6 (.agg #[.int .i64 s.s.a,.int .i64 v.1]) rfl hH8 ?_ (hy:=Or.inl ⟨by rfl,fun W hS=>by obtain ⟨k0,k1⟩:=hS;go_simp⟩)
      try go_simp
      refine rdy 5 rfl (fun KK hK=>?_)
      go_simp
      refine hK.out _ _ f8 (fun hH9=>?_)
      try go_simp
      clear hK KK
      refine rdy 7 rfl (fun KK hK=>?_)
      refine calls_step2 (by rfl) 165 #[.agg #[.slice x.L t.log.list.length x.lc,.slice x.M t.log.marks.length x.mc],.agg #[.int .i64 s.s.a,.int .i64 v.1]] _ (Writes.put_p t.log x.L x.M _ _ _ _ s.s.a v.1 W6.drew a _ _ HP6d.out.log HLL.out.1 HLL.out.2 HPU.out rfl rfl) ?_ ?_
      · focus (go_simp;done)
      rintro e w7 ⟨A7,c7,B7,d7,rfl,o7⟩
      refine ⟨_,rfl,?_⟩
      have HMv:=Lh (HP6d.out.log_ o7 rfl rfl)
      have M7:=HP6d.out.below o7.ol.2
      have HB7:=Lh ((HBL.out.below (Below.refl W6.heap.size W6).drew).below o7.ol.2)
      have f9:(fun (W:World)=>W.cell? ⟨w6.heap.size,0,none⟩=some (.int .i64 s.s.a)∧W.cell? ⟨w6.heap.size,1,none⟩=some (.int .i64 v.1)) w7:=⟨HB7.out.cell 0 _ rfl,HB7.out.cell 1 _ rfl⟩
      have j6:w7.cell? ⟨g,6,none⟩=some (.slice x.L t.log.list.length x.lc):=M7.cells.2.2.2.2.2.2.1
      have j8:=M7.froz 6
      have j7:=(M7.blk.set_ 6 (.slice A7 a.1.list.length c7)).cell 7 (.slice x.M t.log.marks.length x.mc) (by rw[List.setIfInBounds_toArray];rfl)
      have j9:=(M7.blk.set_ 6 (.slice A7 a.1.list.length c7)).frozen 7
      have f10:(fun (W:World)=>W.cell? ⟨w6.heap.size,0,none⟩=some (.int .i64 s.s.a)∧W.cell? ⟨w6.heap.size,1,none⟩=some (.int .i64 v.1)) ((w7.setCell ⟨g,6,none⟩ (.slice A7 a.1.list.length c7)).setCell ⟨g,7,none⟩ (.slice B7 a.1.marks.length d7)):=⟨((HB7.out.beside hgb 6 _).beside hgb 7 _).cell 0 _ rfl,((HB7.out.beside hgb 6 _).beside hgb 7 _).cell 1 _ rfl⟩
      clear o7 M7
      refine hK.out _ _ f9 (fun hH10=>?_)
      try go_simp
      clear hK KK
      refine tk 8 (.tuple #[.agg #[.slice A7 a.1.list.length c7,.slice B7 a.1.marks.length d7],.int .i64 a.2]) rfl hH10 ?_
      try go_simp
      refine tk 9 (.agg #[.slice A7 a.1.list.length c7,.slice B7 a.1.marks.length d7]) rfl hH10 ?_
      try go_simp
      refine tk 10 (.int .i64 a.2) rfl hH10 ?_
      try go_simp
      refine tk 11 (.pointer (some ⟨g,0,none⟩)) rfl hH10 ?_
      try go_simp
      refine tk 12 (.pointer (some ⟨g,0,none⟩)) rfl hH10 ?_
      try go_simp
      refine tk 13 (.pointer (some ⟨g,6,none⟩)) rfl hH10 ?_
      try go_simp
      refine rdy 14 rfl (fun KK hK=>?_)
      go_simp
      refine hK.out _ _ f10 (fun _=>?_)
      clear hK KK
      refine wpAnyH_done (by kernel_rfl) ?_ _
      obtain ⟨m8,v8⟩:=HMv.out
      have j2:((w7.setCell ⟨g,6,none⟩ (.slice A7 a.1.list.length c7)).setCell ⟨g,7,none⟩ (.slice B7 a.1.marks.length d7)).cell? ⟨g,2,none⟩=some (.int .i64 (t.pc:Int)):=m8.cells.2.2.1
      have jf:=m8.froz 2
      obtain ⟨m9,v9⟩:=m8.goes_ 1 ((t.pc:Int)+1) rfl
      clear p6 p7 f8 j6 j7 j8 j9 f9 f10 m8
      go_wp2
      go_end0
      refine ⟨rfl,x.lm A7 c7 B7 d7,?_,?_,HF.out⟩
      · rw[HE.out,HLG.out];exact m9
      · rw[HE.out,HLG.out];exact ((Mv.refl w g (x.os t)).bel (bl_trans HB.out (bl_trans BW.out (Below.refl W6.heap.size W6).drew))).trans (v8.trans v9)
    · go_simp
      have HKx:=Lh (HK5.out.below (bl_alloc (Below.refl w5.heap.size w5) (.cells #[.int .i64 0,.int .i64 0] 97)))
      have HKy:=Lh (HKx.out.below (Below.refl _ _).drew)
      have f7:(fun (W:World)=>W.cell? ⟨w.heap.size,0,none⟩=some (.int .i64 s.s.d)∧W.cell? ⟨w.heap.size,1,none⟩=some (.int .i64 s.s.a)∧W.cell? ⟨w.heap.size,2,none⟩=some (.int .i64 s.s.b)∧W.cell? ⟨w.heap.size,3,none⟩=some (.slice s.T s.n s.c)) (w5.alloc (.cells #[.int .i64 0,.int .i64 0] 97)).drew:=⟨HKy.out.cell 0 _ rfl,HKy.out.cell 1 _ rfl,HKy.out.cell 2 _ rfl,HKy.out.cell 3 _ rfl⟩
      refine hK.out _ _ f7 (fun hHeld7=>?_)
      try go_simp
      clear hK KK
      have BX:Hid (Below w1.heap.size w1 (w5.alloc (.cells #[.int .i64 0,.int .i64 0] 97)).drew):=Lh (bl_alloc BA.out _).drew
      have HZ:Hid (Blk (w5.alloc (.cells #[.int .i64 0,.int .i64 0] 97)).drew w5.heap.size 97 #[.int .i64 0,.int .i64 0]):=Lh ((Blk.new w5 _ _).below (Below.refl _ _).drew)
      refine rdy 4 rfl (fun KK hK=>?_)
      refine calls_step2 (by rfl) 164 #[.pointer (some ⟨g,0,none⟩),.agg #[.int .i64 s.s.d,.int .i64 s.s.a,.int .i64 s.s.b,.slice s.T s.n s.c]] _ (HT.out _ BX.out) ?_ ?_
      · focus (go_simp;done)
      rintro e w6 ⟨rfl,o6⟩
      refine ⟨_,rfl,?_⟩
      have BF:=Lh (bl_trans BX.out o6)
      have HKw:=Lh (HK.out.below BF.out)
      have HZ6:=Lh (HZ.out.below o6)
      have f6:(fun (W:World)=>W.cell? ⟨w.heap.size,0,none⟩=some (.int .i64 s.s.d)∧W.cell? ⟨w.heap.size,1,none⟩=some (.int .i64 s.s.a)∧W.cell? ⟨w.heap.size,2,none⟩=some (.int .i64 s.s.b)∧W.cell? ⟨w.heap.size,3,none⟩=some (.slice s.T s.n s.c)) w6:=⟨HKw.out.cell 0 _ rfl,HKw.out.cell 1 _ rfl,HKw.out.cell 2 _ rfl,HKw.out.cell 3 _ rfl⟩
      clear o6
      refine hK.out _ _ f6 (fun hHeld6=>?_)
      try go_simp
      clear hK KK
      refine tk 5 (.agg #[.int .i64 s.s.a,.int .i64 v.1]) rfl hHeld6 ?_
      try go_simp
      have z0:=HZ6.out.cell 0 _ rfl
      have z1:=HZ6.out.cell 1 _ rfl
      have zf0:=HZ6.out.frozen 0
      have zf1:=HZ6.out.frozen 1
      have y1:=(HZ6.out.set_ 0 (.int .i64 s.s.a)).cell 1 (.int .i64 0) rfl
      have yf1:=(HZ6.out.set_ 0 (.int .i64 s.s.a)).frozen 1
      have HBL:Hid (Blk ((w6.setCell ⟨w5.heap.size,0,none⟩ (.int .i64 s.s.a)).setCell ⟨w5.heap.size,1,none⟩ (.int .i64 v.1)) w5.heap.size 97 #[.int .i64 s.s.a,.int .i64 v.1]):=Lh ((HZ6.out.set_ 0 (.int .i64 s.s.a)).set_ 1 (.int .i64 v.1))
      have hw5:w1.heap.size≤w5.heap.size:=BA.out.size
      have BW:Hid (Below w1.heap.size w1 ((w6.setCell ⟨w5.heap.size,0,none⟩ (.int .i64 s.s.a)).setCell ⟨w5.heap.size,1,none⟩ (.int .i64 v.1))):=Lh (bl_set (bl_set BF.out (p:=⟨w5.heap.size,0,none⟩) hw5 _) (p:=⟨w5.heap.size,1,none⟩) hw5 _)
      have HGB:Hid (g≠w5.heap.size):=Lh (by have:=HP5.out.m.blk.lt;omega)
      have hbw:w5.heap.size≠w.heap.size:=by have:=HK5.out.lt;omega
      have f8:(fun (W:World)=>W.cell? ⟨w.heap.size,0,none⟩=some (.int .i64 s.s.d)∧W.cell? ⟨w.heap.size,1,none⟩=some (.int .i64 s.s.a)∧W.cell? ⟨w.heap.size,2,none⟩=some (.int .i64 s.s.b)∧W.cell? ⟨w.heap.size,3,none⟩=some (.slice s.T s.n s.c)) ((w6.setCell ⟨w5.heap.size,0,none⟩ (.int .i64 s.s.a)).setCell ⟨w5.heap.size,1,none⟩ (.int .i64 v.1)):=⟨((HKw.out.beside hbw 0 _).beside hbw 1 _).cell 0 _ rfl,((HKw.out.beside hbw 0 _).beside hbw 1 _).cell 1 _ rfl,((HKw.out.beside hbw 0 _).beside hbw 1 _).cell 2 _ rfl,((HKw.out.beside hbw 0 _).beside hbw 1 _).cell 3 _ rfl⟩
      refine rdy 7 rfl (fun KK hK=>?_)
      go_simp
      refine hK.out _ _ f8 (fun _=>?_)
      clear hK KK
      refine wpAnyH_done (by kernel_rfl) ?_ _
      clear f8 f7 f6 f4 z0 z1 zf0 zf1 y1 yf1
      generalize ((w6.setCell ⟨w5.heap.size,0,none⟩ (.int .i64 s.s.a)).setCell ⟨w5.heap.size,1,none⟩ (.int .i64 v.1))=W6 at *
      have HP6:=Lh (HP.out.below BW.out)
      have HP6d:=Lh (HP6.out.m.below (Below.refl W6.heap.size W6).drew)
      have p6:W6.drew.cell? ⟨g,6,none⟩=some (.slice x.L t.log.list.length x.lc):=HP6d.out.cells.2.2.2.2.2.2.1
      have p7:W6.drew.cell? ⟨g,7,none⟩=some (.slice x.M t.log.marks.length x.mc):=HP6d.out.cells.2.2.2.2.2.2.2.1
      have f8:(fun (W:World)=>W.cell? ⟨w5.heap.size,0,none⟩=some (.int .i64 s.s.a)∧W.cell? ⟨w5.heap.size,1,none⟩=some (.int .i64 v.1)) W6.drew:=⟨HBL.out.cell 0 _ rfl,HBL.out.cell 1 _ rfl⟩
      have hgb:g≠w5.heap.size:=HGB.out
      go_wp2_with fail
      refine wp_region_held_drew (S:=fun (W:World)=>W.cell? ⟨w5.heap.size,0,none⟩=some (.int .i64 s.s.a)∧W.cell? ⟨w5.heap.size,1,none⟩=some (.int .i64 v.1)) (by kernel_rfl) f8 (fun hH8=>?_)
      refine tk 0 (.pointer (some ⟨g,0,none⟩)) rfl hH8 ?_
      try go_simp
      refine tk 1 (.pointer (some ⟨g,0,none⟩)) rfl hH8 ?_
      try go_simp
      refine tk 2 (.pointer (some ⟨g,0,none⟩)) rfl hH8 ?_
      try go_simp
      refine tk 3 (.pointer (some ⟨g,0,none⟩)) rfl hH8 ?_
      try go_simp
      refine tk 4 (.pointer (some ⟨g,6,none⟩)) rfl hH8 ?_
      try go_simp
      refine tk 6 (.agg #[.int .i64 s.s.a,.int .i64 v.1]) rfl hH8 ?_ (hy:=Or.inl ⟨by rfl,fun W hS=>by obtain ⟨k0,k1⟩:=hS;go_simp⟩)
      try go_simp
      refine rdy 5 rfl (fun KK hK=>?_)
      go_simp
      refine hK.out _ _ f8 (fun hH9=>?_)
      try go_simp
      clear hK KK
      refine rdy 7 rfl (fun KK hK=>?_)
      refine calls_step2 (by rfl) 165 #[.agg #[.slice x.L t.log.list.length x.lc,.slice x.M t.log.marks.length x.mc],.agg #[.int .i64 s.s.a,.int .i64 v.1]] _ (Writes.put_p t.log x.L x.M _ _ _ _ s.s.a v.1 W6.drew a _ _ HP6d.out.log HLL.out.1 HLL.out.2 HPU.out rfl rfl) ?_ ?_
      · focus (go_simp;done)
      rintro e w7 ⟨A7,c7,B7,d7,rfl,o7⟩
      refine ⟨_,rfl,?_⟩
      have HMv:=Lh (HP6d.out.log_ o7 rfl rfl)
      have M7:=HP6d.out.below o7.ol.2
      have HB7:=Lh ((HBL.out.below (Below.refl W6.heap.size W6).drew).below o7.ol.2)
      have f9:(fun (W:World)=>W.cell? ⟨w5.heap.size,0,none⟩=some (.int .i64 s.s.a)∧W.cell? ⟨w5.heap.size,1,none⟩=some (.int .i64 v.1)) w7:=⟨HB7.out.cell 0 _ rfl,HB7.out.cell 1 _ rfl⟩
      have j6:w7.cell? ⟨g,6,none⟩=some (.slice x.L t.log.list.length x.lc):=M7.cells.2.2.2.2.2.2.1
      have j8:=M7.froz 6
      have j7:=(M7.blk.set_ 6 (.slice A7 a.1.list.length c7)).cell 7 (.slice x.M t.log.marks.length x.mc) (by rw[List.setIfInBounds_toArray];rfl)
      have j9:=(M7.blk.set_ 6 (.slice A7 a.1.list.length c7)).frozen 7
      have f10:(fun (W:World)=>W.cell? ⟨w5.heap.size,0,none⟩=some (.int .i64 s.s.a)∧W.cell? ⟨w5.heap.size,1,none⟩=some (.int .i64 v.1)) ((w7.setCell ⟨g,6,none⟩ (.slice A7 a.1.list.length c7)).setCell ⟨g,7,none⟩ (.slice B7 a.1.marks.length d7)):=⟨((HB7.out.beside hgb 6 _).beside hgb 7 _).cell 0 _ rfl,((HB7.out.beside hgb 6 _).beside hgb 7 _).cell 1 _ rfl⟩
      clear o7 M7
      refine hK.out _ _ f9 (fun hH10=>?_)
      try go_simp
      clear hK KK
      refine tk 8 (.tuple #[.agg #[.slice A7 a.1.list.length c7,.slice B7 a.1.marks.length d7],.int .i64 a.2]) rfl hH10 ?_
      try go_simp
      refine tk 9 (.agg #[.slice A7 a.1.list.length c7,.slice B7 a.1.marks.length d7]) rfl hH10 ?_
      try go_simp
      refine tk 10 (.int .i64 a.2) rfl hH10 ?_
      try go_simp
      refine tk 11 (.pointer (some ⟨g,0,none⟩)) rfl hH10 ?_
      try go_simp
      refine tk 12 (.pointer (some ⟨g,0,none⟩)) rfl hH10 ?_
      try go_simp
      refine tk 13 (.pointer (some ⟨g,6,none⟩)) rfl hH10 ?_
      try go_simp
      refine rdy 14 rfl (fun KK hK=>?_)
      go_simp
      refine hK.out _ _ f10 (fun _=>?_)
      clear hK KK
      refine wpAnyH_done (by kernel_rfl) ?_ _
      obtain ⟨m8,v8⟩:=HMv.out
      have j2:((w7.setCell ⟨g,6,none⟩ (.slice A7 a.1.list.length c7)).setCell ⟨g,7,none⟩ (.slice B7 a.1.marks.length d7)).cell? ⟨g,2,none⟩=some (.int .i64 (t.pc:Int)):=m8.cells.2.2.1
      have jf:=m8.froz 2
      obtain ⟨m9,v9⟩:=m8.goes_ 1 ((t.pc:Int)+1) rfl
      clear p6 p7 f8 j6 j7 j8 j9 f9 f10 m8
      go_wp2
      go_end0
      refine ⟨rfl,x.lm A7 c7 B7 d7,?_,?_,HF.out⟩
      · rw[HE.out,HLG.out];exact m9
      · rw[HE.out,HLG.out];exact ((Mv.refl w g (x.os t)).bel (bl_trans HB.out (bl_trans BW.out (Below.refl W6.heap.size W6).drew))).trans (v8.trans v9)
section
variable {w0 w w' :World} {g:Nat} {ty:TypeId} {tail:List Value} {t t' :Try} {x x' :TL}
theorem set_mem {l l' :List OS} {i:Nat} {o' o:OS} (h:l.set i o' =l') (ho:o∈l'):o∈l∨o=o' :=by
 subst h;exact List.mem_or_eq_of_mem_set ho
theorem MAt.swap_ (h:MAt w0 w g ty tail t x) {S:Nat→Prop} {o o' :OS} (i k:Nat) (hi:(x.os t)[i]?=some o) (hO:Only S w w') (hS:∀b,b<w.heap.size→S b→o.v.ownBlock=some b) (hown:Owns w0 w' ((x.os t).set i o')) (hnew:∀b,o'.v.ownBlock=some b→b<w.heap.size→o.v.ownBlock=some b)
  (hset:(x.os t).set i o' =x'.os t') (hk:k<11) (he:(tvl t x).set k o'.v=tvl t' x') (hr:x'.fl.map FRaw.f=t'.frames.reverse):
  MAt w0 (w'.setCell ⟨g,k,none⟩ o'.v) g ty tail t' x' ∧Mv w g (x.os t) (w'.setCell ⟨g,k,none⟩ o'.v) (x'.os t'):=by
 have hog:o.v.ownBlock≠some g:=h.off o (List.mem_of_getElem? hi)
 have hgS:¬S g:=fun e=>hog (hS g h.blk.lt e)
 have hof:∀p∈x'.os t',∀b,p.v.ownBlock=some b→b<w.heap.size→Of g (x.os t) b:=by
  intro p hp b hb hlt
  rcases set_mem hset hp with h5 | h5
  ·exact .inr ⟨p,h5,hb⟩
  ·rw[h5]at hb;exact .inr ⟨o,List.mem_of_getElem? hi,hnew b hb hlt⟩
 have hng:∀p∈x'.os t',p.v.ownBlock≠some g:=by
  intro p hp e
  rcases set_mem hset hp with h5 | h5
  ·exact h.off p h5 e
  ·rw[h5]at e;exact hog (hnew g e h.blk.lt)
 rw[hset]at hown
 refine ⟨⟨h.base,?_,hown.only (S:=fun b=>b=g) (Only.set_ g k _ rfl) (fun p hp b hb e=>hng p hp (by rw[hb,e])) (fun b e=>by rw[e];exact h.base),hng,hr⟩,(hO.sub (fun b hb hs=>(.inr ⟨o,List.mem_of_getElem? hi,hS b hb hs⟩:Of g (x.os t) b))).put g k _ (.inl rfl),?_⟩
 ·have :=(hO.blk h.blk hgS).set_ k o'.v
  rw[List.setIfInBounds_toArray,List.set_append_left _ _ (by exact hk),he]at this
  exact this
 ·intro b hlt hb
  rcases hb with hb | ⟨p,hp,hv⟩
  ·exact .inl hb
  ·exact hof p hp b hv hlt
theorem MAt.fresh_ (h:MAt w0 w g ty tail t x) {o:OS} {e kk n:Nat} {v:Value} {xs:List Value} (i k:Nat) (hi:(x.os t)[i]?=some o) (ho:Own w w' e kk v n xs) (hset:(x.os t).set i ⟨e,kk,v,n,xs⟩=x'.os t') (hk:k<11) (he:(tvl t x).set k v=tvl t' x') (hr:x'.fl.map FRaw.f=t'.frames.reverse):
  MAt w0 (w'.setCell ⟨g,k,none⟩ v) g ty tail t' x' ∧Mv w g (x.os t) (w'.setCell ⟨g,k,none⟩ v) (x'.os t'):=
 h.swap_ (S:=fun _=>False) (o' :=⟨e,kk,v,n,xs⟩) i k hi (Only.of_below ho.2) (fun _ _ e=>e.elim) (h.own.fresh i hi e kk v n xs ho) (fun b hb hlt=>absurd hb (ho.ne_old hlt)) hset hk he hr
theorem MAt.moved_ (h:MAt w0 w g ty tail t x) {e kk n n' :Nat} {v v' :Value} {xs ys:List Value} (i k:Nat) (hi:(x.os t)[i]?=some ⟨e,kk,v,n,xs⟩) (ho:Own w0 w' e kk v' n' ys) (hm:Moved w w' v v' n n') (hset:(x.os t).set i ⟨e,kk,v',n',ys⟩=x'.os t') (hk:k<11) (he:(tvl t x).set k v' =tvl t' x')
  (hr:x'.fl.map FRaw.f=t'.frames.reverse):MAt w0 (w'.setCell ⟨g,k,none⟩ v') g ty tail t' x' ∧Mv w g (x.os t) (w'.setCell ⟨g,k,none⟩ v') (x'.os t'):=by
 have hown:=h.own.moved i e kk v v' n n' xs ys hi ho hm
 rcases hm with ⟨g1,c1,e1,e2,hg⟩ | ⟨hg,hnew⟩
 ·exact h.swap_ (S:=fun b=>b=g1) (o' :=⟨e,kk,v',n',ys⟩) i k hi (Only.of_grown hg (fun b hb=>by injection hb with hb;exact hb.symm)) (fun b _ hb=>by show v.ownBlock=some b;rw[e1,hb];rfl) hown (fun b hb _=>by
   have h2:v'.ownBlock=some g1:=by rw[e2];rfl
   rw[h2]at hb
   show v.ownBlock=some b
   rw[e1,←hb];rfl) hset hk he hr
 ·exact h.swap_ (S:=fun _=>False) (o' :=⟨e,kk,v',n',ys⟩) i k hi (Only.of_below (grown_below hg)) (fun _ _ e=>e.elim) hown (fun b hb hlt=>by have:=hnew b hb;omega) hset hk he hr
def Try.rd_ (t:Try) (l:List Reads.Read):Try:={ t with reads:=l }
def TL.dd (x:TL) (D:Option Addr) (dc:Nat):TL:={ x with D:=D,dc:=dc }
theorem MAt.reads_ (h:MAt w0 w g ty tail t x) {B:Option Addr} {n d:Nat} {l:List Reads.Read} (ho:Own w w' 107 3 (.slice B n d) n (Reads.ds l)) (hn:l.length=n):
  MAt w0 (w'.setCell ⟨g,5,none⟩ (.slice B n d)) g ty tail (t.rd_ l) (x.dd B d)∧Mv w g (x.os t) (w'.setCell ⟨g,5,none⟩ (.slice B n d)) ((x.dd B d).os (t.rd_ l)):=by
 subst hn
 exact h.fresh_ 2 5 rfl ho rfl (by decide) rfl h.raw
def Try.ph (t:Try) (l:List Int):Try:={ t with path:=l }
def TL.pp (x:TL) (P:Option Addr) (pc:Nat):TL:={ x with P:=P,pc:=pc }
theorem MAt.path_ (h:MAt w0 w g ty tail t x) {v' :Value} {P:Option Addr} {pc n' :Nat} {l:List Int} (hv:v' =.slice P n' pc) (ho:Own w0 w' 3 1 v' n' (zs l)) (hn:l.length=n') (hm:Moved w w' (.slice x.P t.path.length x.pc) v' t.path.length n'):
  MAt w0 (w'.setCell ⟨g,4,none⟩ v') g ty tail (t.ph l) (x.pp P pc)∧Mv w g (x.os t) (w'.setCell ⟨g,4,none⟩ v') ((x.pp P pc).os (t.ph l)):=by
 subst hv hn
 exact h.moved_ 1 4 rfl ho hm rfl (by decide) rfl h.raw
end
end Go.Proofs.YtgghaodcfgbjlaaGreat.Attempt
