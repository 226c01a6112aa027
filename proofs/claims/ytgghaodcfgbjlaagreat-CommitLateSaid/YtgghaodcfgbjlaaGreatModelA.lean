/-
 PLAIN LEMMAS ON A RUN THAT KEEPS A LOG: what such a run has so far, and what it stands for. No conditions beyond those that each theorem states. Nothing of the program is named here.
-/
import Derived.Test.YtgghaodcfgbjlaaGreatCodeA
import Derived.Test.YtgghaodcfgbjlaaGreatTermB
import Derived.Test.YtgghaodcfgbjlaaGreatMemA
import Derived.Test.YtgghaodcfgbjlaaGreatWritesA
namespace Go.Proofs.YtgghaodcfgbjlaaGreat.Model
open Go.ChangeShapes Go.WideShapes Go.ChangeAt Go.RowKit Mem Go.Proofs.YtgghaodcfgbjlaaGreat.Code
structure St where
 h:List Heap.Cell
 wrote:Nat→Bool
 regs:List Int
 path:List Int
 seen:Nat→Bool
 kind:Int
 why:Int
def upd (f:Nat→Bool) (k:Nat):Nat→Bool:=fun n=>if n=k then true else f n
def ended (s:St) (k w:Int):St:={ s with kind:=k,why:=w }
def tellM (s:St) (t:List Term.Op):Int:=(Term.evalS t s.h s.regs).1
def loaded (s:St) (a b:Int):St:={ s with seen:=if s.wrote b.toNat=true then s.seen else upd s.seen b.toNat,regs:=s.regs.set a.toNat (Heap.valAt s.h b) }
def setTo (s:St) (a v:Int):St:={ s with regs:=s.regs.set a.toNat v }
def stored (s:St) (a v:Int):St:={ s with h:=Heap.setAt s.h a ⟨true,v⟩,wrote:=upd s.wrote a.toNat }
def onPath (s:St) (p:Int):St:={ s with path:=s.path++ [p] }
def saw (s:St) (f:Nat→Bool):St:={ s with seen:=f }
def partF:Nat→List Step→St→St
 | 0,_,s=>ended s 1 0
 | _+1,[],s=>ended s 1 0
 | f+1,x::c,s=>
  if x.d=1 then (if Heap.liveAt s.h x.b=true then partF f c (loaded s x.a x.b) else ended s 4 x.b)
  else if x.d=2 then partF f c (setTo s x.a (tellM s x.t))
  else if x.d=3 then (if Heap.liveAt s.h x.a=true then partF f c (stored s x.a (tellM s x.t)) else ended s 4 x.a)
  else if x.d=4 then (if tellM s x.t=0 then partF f (c.drop x.a.toNat) s else partF f c s)
  else if x.d=5 then ended s 2 0
  else if x.d=6 then ended s 3 x.a
  else
   let a:=partF f (c.take x.a.toNat) (onPath s 1)
   let r:=if a.kind=2 then partF f ((c.drop x.a.toNat).take x.b.toNat) (saw (onPath s 2) a.seen) else a
   if r.kind=1 then partF f (c.drop (x.a.toNat+x.b.toNat)) r else r
def part (c:List Step) (s:St):St:=partF c.length c s
section
variable (x:Step) (c:List Step) (s:St)
end
def s0 (h:List Heap.Cell):St:=⟨h,fun _=>false,List.replicate 8 0,[],fun _=>false,0,0⟩
structure Out where
 kind:Int
 why:Int
 regs:List Int
 path:List Int
 seen:List Int
 writes:List Heap.Write
 deriving DecidableEq
def writesS (s:St):List Heap.Write:=(pick s.wrote s.h.length).map fun i=>⟨i,Heap.valAt s.h i⟩
def outS (s:St):Out:=if s.kind=1 then ⟨s.kind,s.why,s.regs,s.path,pick s.seen 64,writesS s⟩ else ⟨s.kind,s.why,[],[],pick s.seen 64,[]⟩
def okR (c:List Step) (h:List Heap.Cell):Bool:=decide (checkS c=0) && Heap.rightB h
def runS (c:List Step) (h:List Heap.Cell):Out × List Heap.Cell × Bool:=
 if okR c h=true then (outS (part c (s0 h)),if (part c (s0 h)).kind=1 then (part c (s0 h)).h else h,true) else (⟨0,0,[],[],[],[]⟩,h,false)
theorem well_tail (x:Step) (c:List Step) (ho:(x::c).all oneB=true) (h:(wellP (x::c)).2=true):(wellP c).2=true:=by
 rw[List.all_cons,Bool.and_eq_true]at ho
 by_cases h7:x.d=7
 ·have h1:=one_either x ho.1 h7
  by_cases hlt:(c.length:Int)<x.a+x.b
  ·rw[well_out x c h7 hlt]at h;cases h
  ·obtain ⟨U,V,R,rfl,ha,hb⟩:=either_parts c x.a x.b (by omega) (by omega) (by omega)
   rw[well_either x U V R h7 ha hb,Bool.and_eq_true,Bool.and_eq_true]at h
   obtain ⟨⟨hu,hv⟩,hr⟩:=h
   have h2:=ho.2
   rw[List.all_append,List.all_append,Bool.and_eq_true,Bool.and_eq_true]at h2
   obtain ⟨ou,ov,or⟩:=h2
   have e1:=behind_well V.length V R (Nat.le_refl _) ov hv hr
   rw[behind_well U.length U (V++R) (Nat.le_refl _) ou hu (by rw[e1])]
 ·by_cases h4:x.d=4∧(c.length:Int)<x.a
  ·rw[well_skip x c h4.1 h4.2]at h;cases h
  ·rwa [well_plain x c h7 h4]at h
theorem well_drop (k:Nat):∀c:List Step,c.all oneB=true→(wellP c).2=true→(wellP (c.drop k)).2=true:=by
 induction k with
 | zero=>intro c _ h;exact h
 | succ k ih=>
  intro c ho h
  cases c with
  | nil=>exact h
  | cons x c=>
   have h2:=well_tail x c ho h
   rw[List.all_cons,Bool.and_eq_true]at ho
   exact ih c ho.2 h2
structure Keeps (s r:St):Prop where
 right:Heap.rightB s.h=true→Heap.rightB r.h=true
 len:r.h.length=s.h.length
 live:∀i,Heap.liveAt r.h i=Heap.liveAt s.h i
 regs:r.regs.length=s.regs.length
 seen:∀n,s.seen n=true→r.seen n=true
 wrote:∀n,s.wrote n=true→r.wrote n=true
 same:∀n:Nat,r.wrote n=false→r.h[n]?=s.h[n]?
 wlive:∀n:Nat,r.wrote n=true→s.wrote n=true∨Heap.liveAt s.h (n:Int)=true
theorem Keeps.refl (s:St):Keeps s s:=⟨id,rfl,fun _=>rfl,rfl,fun _ h=>h,fun _ h=>h,fun _ _=>rfl,fun _ h=>.inl h⟩
theorem Keeps.trans {s t r:St} (h:Keeps s t) (k:Keeps t r):Keeps s r:=
  ⟨fun e=>k.right (h.right e),k.len.trans h.len,fun i=>(k.live i).trans (h.live i),k.regs.trans h.regs,fun n e=>k.seen n (h.seen n e),fun n e=>k.wrote n (h.wrote n e),
   fun n e=>(k.same n e).trans (h.same n (by
     cases ht:t.wrote n with
     | false=>rfl
     | true=>rw[k.wrote n ht]at e;cases e)),
   fun n e=>by
     rcases k.wlive n e with e1 | e1
     · exact h.wlive n e1
     · exact .inr (by rw[←h.live];exact e1)⟩
theorem keeps_ended (s:St) (k w:Int):Keeps s (ended s k w):=⟨id,rfl,fun _=>rfl,rfl,fun _ h=>h,fun _ h=>h,fun _ _=>rfl,fun _ h=>.inl h⟩
theorem keeps_loaded (s:St) (a b:Int):Keeps s (loaded s a b):=
 ⟨id, rfl,fun _=>rfl,by show (s.regs.set _ _).length=_;simp,fun n h=>by
  show (if s.wrote b.toNat=true then s.seen else upd s.seen b.toNat) n=true
  split
  ·exact h
  ·unfold upd;split
   ·rfl
   ·exact h,fun _ h=>h,fun _ _=>rfl,fun _ h=>.inl h⟩
theorem keeps_set (s:St) (a v:Int):Keeps s (setTo s a v):=
 ⟨id,rfl,fun _=>rfl,by show (s.regs.set _ _).length=_;simp,fun _ h=>h,fun _ h=>h,fun _ _=>rfl,fun _ h=>.inl h⟩
theorem keeps_path (s:St) (p:Int):Keeps s (onPath s p):=⟨id,rfl,fun _=>rfl,rfl,fun _ h=>h,fun _ h=>h,fun _ _=>rfl,fun _ h=>.inl h⟩
theorem tell_v (s:St) (t:List Term.Op):Heap.vB (tellM s t)=true:=by
 unfold tellM
 by_cases hc:Term.checkS t=0
 ·by_cases hr:Heap.rightB s.h=true
  ·obtain ⟨_,_,h3,h4⟩:=Term.check_ok t hc
   obtain ⟨T,hk,rfl⟩:=Term.well_tree t h4
   rw[Term.eval_tree T hk hc s.h s.regs hr]
   split
   ·exact Term.val_v s.h s.regs hr T hk h3
   ·decide
  ·unfold Term.evalS;rw[if_pos hc,if_neg hr];decide
 ·unfold Term.evalS;rw[if_neg hc];show Heap.vB 0=true;decide
theorem keeps_stored (s:St) (a v:Int) (hl:Heap.liveAt s.h a=true) (hv:Heap.vB v=true):Keeps s (stored s a v):=by
 have hcell:Heap.cellB ⟨true,v⟩=true:=by unfold Heap.cellB;rw[hv];rfl
 obtain ⟨h0,h1,x,hx,hxl⟩:=Heap.live_in s.h a hl
 refine ⟨fun h=>Heap.set_right s.h a _ h hcell,Heap.setAt_len _ _ _,fun i=>Heap.set_live s.h a v hl i,rfl,fun _ h=>h,fun n h=>?_,fun n h=>?_,fun n h=>?_⟩
 ·show upd s.wrote a.toNat n=true
  unfold upd;split
  ·rfl
  ·exact h
 ·have h2:upd s.wrote a.toNat n=false:=h
  unfold upd at h2
  split at h2
  ·cases h2
  ·rename_i hne
   show (Heap.setAt s.h a ⟨true,v⟩)[n]?=_
   unfold Heap.setAt
   rw[if_neg (by omega),List.getElem?_set_ne (by omega)]
 ·have h2:upd s.wrote a.toNat n=true:=h
  unfold upd at h2
  split at h2
  ·rename_i he
   refine .inr ?_
   have:(n:Int)=a:=by omega
   rw[this];exact hl
  ·exact .inl h2
theorem keeps_saw (s t:St) (h:Keeps s t):Keeps s (saw (onPath s 2) t.seen):=⟨id,rfl,fun _=>rfl,rfl,h.seen,fun _ h=>h,fun _ _=>rfl,fun _ h=>.inl h⟩
theorem part_keeps (f:Nat):∀(c:List Step) (s:St),Keeps s (partF f c s):=by
 induction f with
 | zero=>intro c s;exact keeps_ended s 1 0
 | succ f ih=>
  intro c s
  cases c with
  | nil=>exact keeps_ended s 1 0
  | cons x c=>
   simp only[partF]
   split
   ·split
    ·exact (keeps_loaded s _ _).trans (ih c _)
    ·exact keeps_ended s _ _
   split
   ·exact (keeps_set s _ _).trans (ih c _)
   split
   ·split
    ·rename_i hl
     exact (keeps_stored s _ _ hl (tell_v s _)).trans (ih c _)
    ·exact keeps_ended s _ _
   split
   ·split
    ·exact ih _ s
    ·exact ih _ s
   split
   ·exact keeps_ended s _ _
   split
   ·exact keeps_ended s _ _
   ·have h1:Keeps s (partF f (c.take x.a.toNat) (onPath s 1)):=(keeps_path s 1).trans (ih _ _)
    have h2:Keeps s (if (partF f (c.take x.a.toNat) (onPath s 1)).kind=2 then partF f ((c.drop x.a.toNat).take x.b.toNat) (saw (onPath s 2) (partF f (c.take x.a.toNat) (onPath s 1)).seen) else partF f (c.take x.a.toNat) (onPath s 1)):=by
     split
     ·exact (keeps_saw s _ h1).trans (ih _ _)
     ·exact h1
    revert h2
    generalize (if (partF f (c.take x.a.toNat) (onPath s 1)).kind=2 then partF f ((c.drop x.a.toNat).take x.b.toNat) (saw (onPath s 2) (partF f (c.take x.a.toNat) (onPath s 1)).seen) else partF f (c.take x.a.toNat) (onPath s 1))=r
    intro h2
    split
    ·exact h2.trans (ih _ _)
    ·exact h2
theorem keeps (c:List Step) (s:St):Keeps s (part c s):=part_keeps _ c s
structure Like (p p' :List Int) (d d' :Nat→Bool) (b:Bool) (s t:St):Prop where
 h:s.h=t.h
 regs:s.regs=t.regs
 path:∃q,s.path=p++q∧t.path=p' ++q
 more:b=true→s.wrote=t.wrote∧∃D:Nat→Bool,∀n,s.seen n=(d n || D n)∧t.seen n=(d' n || D n)
section
variable {p p' :List Int} {d d' :Nat→Bool} {b:Bool} {s t:St}
theorem Like.set_ (h:Like p p' d d' b s t) (a v:Int):Like p p' d d' b (setTo s a v) (setTo t a v):=
 ⟨h.h,by show s.regs.set _ _=t.regs.set _ _;rw[h.regs],h.path,h.more⟩
theorem Like.path_ (h:Like p p' d d' b s t) (x:Int):Like p p' d d' b (onPath s x) (onPath t x):=by
 obtain ⟨q,h1,h2⟩:=h.path
 exact ⟨h.h,h.regs,⟨q++ [x],by show s.path++ [x]=_;rw[h1,List.append_assoc],by show t.path++ [x]=_;rw[h2,List.append_assoc]⟩,h.more⟩
end
structure Sim (F:Nat→Bool) (s t:St):Prop where
 rs:Heap.rightB s.h=true
 rt:Heap.rightB t.h=true
 len:s.h.length=t.h.length
 live:∀i,Heap.liveAt s.h i=Heap.liveAt t.h i
 val:∀n:Nat,(s.wrote n=true∨F n=true)→s.h[n]?=t.h[n]?
 wrote:s.wrote=t.wrote
 regs:s.regs=t.regs
 path:s.path=t.path
 seen:s.seen=t.seen
section
variable {F:Nat→Bool} {s t:St}
theorem Sim.path_ (h:Sim F s t) (x:Int):Sim F (onPath s x) (onPath t x):=
 ⟨h.rs,h.rt,h.len,h.live,h.val,h.wrote,h.regs,by show s.path++ [x]=t.path++ [x];rw[h.path],h.seen⟩
theorem Sim.set_ (h:Sim F s t) (a v:Int):Sim F (setTo s a v) (setTo t a v):=
 ⟨h.rs,h.rt,h.len,h.live,h.val,h.wrote,by show s.regs.set _ _=t.regs.set _ _;rw[h.regs],h.path,h.seen⟩
end
structure CS where
 regs:List Int
 path:List Int
 log:List Heap.Write
 seen:List Int
 why:Int
def abs (h:List Heap.Cell) (m:CS) (k:Int):St:=
 ⟨Heap.putAll h m.log,fun n=>m.log.any (fun x=>decide (x.cell=(n:Int))),m.regs,m.path,fun n=>m.seen.any (fun z=>decide (z=(n:Int))),k,m.why⟩
structure Good (h:List Heap.Cell) (m:CS) (left:Nat):Prop where
 right:Heap.rightB h=true
 live:m.log.all (fun w=>Heap.liveAt h w.cell)=true
 vals:m.log.all (fun w=>Heap.vB w.value)=true
 cnt:m.log.length+left≤24
 regs:m.regs.length=8
 path:m.path.length+left≤24
 seen:m.seen.length+left≤24
 cells:∀z∈m.seen,0≤z∧z<64
section
variable {h:List Heap.Cell} {m:CS} {left:Nat}
theorem Good.log (g:Good h m left):Writes.rightB ⟨m.log,[]⟩=true:=by
 rw[Writes.right_parts]
 refine ⟨by have:=g.cnt;show m.log.length≤24;omega,List.all_eq_true.2 fun x hx=>?_,by show 0≤6;omega,rfl⟩
 have h1:=List.all_eq_true.1 g.live x hx
 have h2:=List.all_eq_true.1 g.vals x hx
 obtain ⟨h3,_,_⟩:=Heap.live_in h _ h1
 unfold Writes.oneB
 rw[decide_eq_true h3,h2];rfl
theorem Good.heap (g:Good h m left):Heap.rightB (Heap.putAll h m.log)=true:=Heap.putAll_right h m.log g.right g.vals
theorem Good.val (g:Good h m left) (b:Int) (hl:Heap.liveAt h b=true) (k:Int):Heap.valAt (abs h m k).h b=(Writes.getL m.log b).getD (Heap.valAt h b):=by
 obtain ⟨h0,h1,x,hx,_⟩:=Heap.live_in h b hl
 have hb:((b.toNat:Nat):Int)=b:=by omega
 have:=Heap.putAll_at h m.log g.live b.toNat x hx
 show Heap.valAt (Heap.putAll h m.log) b=_
 rw[←hb,Heap.val_at _ _ _ this,Heap.val_at h b.toNat x hx,Writes.lastV_get]
def setC (m:CS) (a v:Int):CS:={ m with regs:=m.regs.set a.toNat v }
def pathC (m:CS) (p:Int):CS:={ m with path:=m.path++ [p] }
def whyC (m:CS) (v:Int):CS:={ m with why:=v }
theorem Good.set_ (g:Good h m (left+1)) (a v:Int):Good h (setC m a v) left:=by
 have hc:=g.cnt
 have hp:=g.path
 have hs:=g.seen
 exact ⟨g.right,g.live,g.vals,by show m.log.length+_≤_;omega,by show (m.regs.set _ _).length=8;rw[List.length_set];exact g.regs,by show m.path.length+_≤_;omega,by show m.seen.length+_≤_;omega,g.cells⟩
theorem Good.path_ (g:Good h m (left+1)) (p:Int):Good h (pathC m p) left:=by
 have hc:=g.cnt
 have hp:=g.path
 have hs:=g.seen
 exact ⟨g.right,g.live,g.vals,by show m.log.length+_≤_;omega,g.regs,by show (m.path++ [p]).length+_≤_;rw[List.length_append,List.length_singleton];omega,by show m.seen.length+_≤_;omega,g.cells⟩
theorem Good.why_ (g:Good h m left) (v:Int):Good h (whyC m v) left:=⟨g.right,g.live,g.vals,g.cnt,g.regs,g.path,g.seen,g.cells⟩
end
end Go.Proofs.YtgghaodcfgbjlaaGreat.Model
