/-
 WHAT THE LAYER model DOES, AS IT IS WRITTEN: Store. No conditions beyond those that each theorem states.
-/
import Derived.Test.YtgghaodcfgbjlaaGreatAttF
import Derived.Test.YtgghaodcfgbjlaaGreatModelA
import Derived.Test.YtgghaodcfgbjlaaGreatCodeA
import Derived.Test.YtgghaodcfgbjlaaGreatMemA
import Derived.Test.YtgghaodcfgbjlaaGreatCodeB
import Derived.Maps.OwnOps
import Derived.Test.YtgghaodcfgbjlaaGreatWritesA
import Derived.Deep.MidRow
import Derived.Test.YtgghaodcfgbjlaaGreatAttA
import Derived.Test.YtgghaodcfgbjlaaGreatTermB
namespace Go.Proofs.YtgghaodcfgbjlaaGreat.Model
open Go.ChangeShapes Go.WideShapes Go.ChangeAt Go.RowKit Mem Go.Proofs.YtgghaodcfgbjlaaGreat.Code
def RetRun (w:World) (o:Out) (n1 n2 n3 n4:Nat) (g:List Heap.Cell) (gn:Nat) (f:Int) (e:Ending) (w' :World):Prop:=
 ∃A1 c1 A2 c2 A3 c3 A4 c4 G gc,e=.returned (.tuple #[.agg #[.int .i64 o.kind,.int .i64 o.why,.slice A1 n1 c1,.slice A2 n2 c2,.slice A3 n3 c3,.slice A4 n4 c4],.slice G gn gc,.int .i64 f])∧OutAt w' o A1 A2 A3 A4 n1 n2 n3 n4∧Rd w' 2 G gn (Heap.cs g)∧Below w.heap.size w w'
def errOf (ok:Bool):Int:=if ok=true then 0 else 1
def Nw (w:World) (A:Option Addr):Prop:=∀b off,A=some ⟨b,off,none⟩→w.heap.size≤b
theorem Nw.none_ (w:World):Nw w none:=fun _ _ h=>by cases h
def RetRunN (w:World) (o:Out) (n1 n2 n3 n4:Nat) (g:List Heap.Cell) (gn:Nat) (f:Int) (e:Ending) (w' :World):Prop:=
 ∃A1 c1 A2 c2 A3 c3 A4 c4 G gc,e=.returned (.tuple #[.agg #[.int .i64 o.kind,.int .i64 o.why,.slice A1 n1 c1,.slice A2 n2 c2,.slice A3 n3 c3,.slice A4 n4 c4],.slice G gn gc,.int .i64 f])∧OutAt w' o A1 A2 A3 A4 n1 n2 n3 n4∧Rd w' 2 G gn (Heap.cs g)∧Below w.heap.size w w' ∧(Nw w A1∧Nw w A2∧Nw w A3∧Nw w A4∧Nw w G)
theorem RetRunN.plain {w:World} {o:Out} {n1 n2 n3 n4:Nat} {g:List Heap.Cell} {gn:Nat} {f:Int} {e:Ending} {w' :World} (h:RetRunN w o n1 n2 n3 n4 g gn f e w'):RetRun w o n1 n2 n3 n4 g gn f e w' :=by
 obtain ⟨A1,c1,A2,c2,A3,c3,A4,c4,G,gc,h1,h2,h3,h4,_⟩:=h
 exact ⟨A1,c1,A2,c2,A3,c3,A4,c4,G,gc,h1,h2,h3,h4⟩
structure Said:Prop where
 runN :∀(l:List Raw) (h:List Heap.Cell) (C HA:Option Addr) (n c hn hc:Nat) (w:World) (o:Out) (g:List Heap.Cell) (ok:Bool) (n1 n2 n3 n4 gn:Nat) (f:Int),At w C n l→n≤c→c≤9223372036854775807→Lim l→n≤1000000→Rd w 2 HA hn (Heap.cs h)→hn≤1000000→
  runS (ss l) h=(o,g,ok)→o.regs.length=n1→o.path.length=n2→o.seen.length=n3→o.writes.length=n4→g.length=gn→errOf ok=f→
  Calls Tryz.prog 39 #[.slice C n c,.slice HA hn hc] w (RetRunN w o n1 n2 n3 n4 g gn f)
theorem Said.run (S:Said) (l:List Raw) (h:List Heap.Cell) (C HA:Option Addr) (n c hn hc:Nat) (w:World) (o:Out) (g:List Heap.Cell) (ok:Bool) (n1 n2 n3 n4 gn:Nat) (f:Int) (h1:At w C n l) (h2:n≤c) (h3:c≤9223372036854775807) (h4:Lim l) (h5:n≤1000000) (h6:Rd w 2 HA hn (Heap.cs h)) (h7:hn≤1000000)
  (h8:runS (ss l) h=(o,g,ok)) (h9:o.regs.length=n1) (k1:o.path.length=n2) (k2:o.seen.length=n3) (k3:o.writes.length=n4) (k4:g.length=gn) (k5:errOf ok=f):
  Calls Tryz.prog 39 #[.slice C n c,.slice HA hn hc] w (RetRun w o n1 n2 n3 n4 g gn f):=
 (S.runN l h C HA n c hn hc w o g ok n1 n2 n3 n4 gn f h1 h2 h3 h4 h5 h6 h7 h8 h9 k1 k2 k3 k4 k5).mono (fun _ _ h=>h.plain)
end Go.Proofs.YtgghaodcfgbjlaaGreat.Model
namespace Go.Proofs.YtgghaodcfgbjlaaGreat.Mem
open Go.ChangeShapes Go.WideShapes Go.ChangeAt Go.RowKit
def MapAt (w:World) (b:Nat) (es:Array MapEntry) (clock:Nat):Prop:=w.heap[b]?=some (.map es clock)
section
variable {P:Program} {w:World} {t K E:TypeId} {b:Nat} {es:Array MapEntry} {clock:Nat}
theorem run_insert (ht:P.underlying t=some (.map K E)) (hK:P.underlying K=some (.int .i64)) (hb:MapAt w b es clock) (k:Int) (v:Value) (hf:Instr.findNow (.int .i64) (.int .i64 k) es.toList 0=some none):
  (Instr.mapUpdate t (.map (some b)) (.int .i64 k) v).run P w=.ok () { w with heap:=w.heap.setIfInBounds b (.map (es.push ⟨.int .i64 k,v,clock⟩) (clock+1)) }:=by
 have hb' :w.heap[b]?=some (.map es clock):=hb
 have hk:MapKept.IsKey (.int .i64) (.int .i64 k):=rfl
 simp[Instr.mapUpdate,run_underlying ht,MapKept.run_getObj_map hb',MapKept.run_checkKey hK hk false 9999,MapKept.run_findKey hK hf,MapKept.run_setObj_map _ hb',Result.andThen]
theorem MapAt.new (w:World):MapAt (w.alloc (.map #[] 0)) w.heap.size #[] 0:=(MapKept.heap_alloc w _).1
theorem MapAt.below {w' :World} (h:MapAt w b es clock) (hb:Below w.heap.size w w'):MapAt w' b es clock:=(hb.block b (Array.getElem?_eq_some_iff.1 h).1).trans h
theorem insert_row {ops:Array Oper} {rest:List Oper} {o:Oper} {a:Act} {Q:Exit→Act→World→Prop} (hgd:o.guard=none) (t:TypeId) (m k x:Operand) (ho:o.op=.insert t m k x) (K E:TypeId)
  (ht:P.underlying t=some (.map K E)) (hK:P.underlying K=some (.int .i64)) (b:Nat) (hm:a.eval m=.map (some b)) (kk:Int) (hk:a.eval k=.int .i64 kk) (v:Value) (hv:a.eval x=v) (es:Array MapEntry) (clock:Nat) (hb:MapAt w b es clock)
  (hf:Instr.findNow (.int .i64) (.int .i64 kk) es.toList 0=some none)
  (h:∀w',MapAt w' b (es.push ⟨.int .i64 kk,v,clock⟩) (clock+1)→w.grownBy w' (some b)→wpList P ops Q rest (a.put o.dst undef) w'):wpList P ops Q (o::rest) a w:=
 wpList_plain hgd fun K' hK' =>by
  have hlt:b<w.heap.size:=(Array.getElem?_eq_some_iff.1 hb).1
  unfold Oper.wp
  simp[execOp,ho,hm,hk,hv,run_insert ht hK hb kk v hf,Result.andThen]
  exact hK' _ _ (h _ (by unfold MapAt;simp[hlt]) ⟨rfl,rfl,rfl,by simp,fun i _ hi=>by
   have hne:b≠i:=fun e=>hi (by rw[e])
   simp[hne]⟩)
end
end Go.Proofs.YtgghaodcfgbjlaaGreat.Mem
namespace Go.Proofs.YtgghaodcfgbjlaaGreat.Model
open Go.ChangeShapes Go.WideShapes Go.ChangeAt Go.RowKit Mem Go.Proofs.YtgghaodcfgbjlaaGreat.Code
structure RL where
 P:Option Addr
 pn:Nat
 pc:Nat
 L:Option Addr
 ln:Nat
 lc:Nat
 M:Option Addr
 mc:Nat
 S:Option Addr
 sn:Nat
 sc:Nat
def RL.pv (x:RL):Value:=.slice x.P x.pn x.pc
def RL.lv (x:RL):Value:=.slice x.L x.ln x.lc
def RL.sv (x:RL):Value:=.slice x.S x.sn x.sc
def rcells (H:Value) (m:CS) (x:RL):List Value:=m.regs.map (Value.int .i64)++ [x.pv,x.lv,.slice x.M 0 x.mc,H,x.sv,.int .i64 m.why]
section
variable {H:Value} {m:CS} {x:RL}
end
structure RunAt (w0 w:World) (g:Nat) (H:Value) (m:CS) (x:RL):Prop where
 base:w0.heap.size≤g
 r8:m.regs.length=8
 blk:Blk w g 183 (rcells H m x).toArray
 path:Own w0 w 3 1 x.pv x.pn (zs m.path)
 log:Own w0 w 97 2 x.lv x.ln (Heap.ws m.log)
 seen:Own w0 w 3 1 x.sv x.sn (zs m.seen)
 gp:x.pv.ownBlock≠some g
 gl:x.lv.ownBlock≠some g
 gs:x.sv.ownBlock≠some g
 ps:Apart x.pv x.sv
 pl:Apart x.pv x.lv
 ls:Apart x.lv x.sv
 pz:x.pn=0→x.pv.ownBlock=none
def KOK (K:Nat→Nat→Prop) (w:World) (g:Nat) (x:RL):Prop:=∀b i,K b i→b<w.heap.size∧b≠g∧x.sv.ownBlock≠some b∧(x.pv.ownBlock=some b→i<x.pn)
section
variable {w0 w w' :World} {g:Nat} {H:Value} {m:CS} {x:RL} {K:Nat→Nat→Prop}
theorem RunAt.bel (h:RunAt w0 w g H m x):Below w0.heap.size w0 w:=h.path.2
theorem RunAt.below (h:RunAt w0 w g H m x) (hb:Below w.heap.size w w'):RunAt w0 w' g H m x:=
 ⟨h.base,h.r8,h.blk.below hb,h.path.below hb,h.log.below hb,h.seen.below hb,h.gp,h.gl,h.gs,h.ps,h.pl,h.ls,h.pz⟩
theorem KOK.size (h:KOK K w g x) (hs:w.heap.size≤w'.heap.size):KOK K w' g x:=fun b i hk=>by
 obtain ⟨h1,h2,h3,h4⟩:=h b i hk
 exact ⟨by omega,h2,h3,h4⟩
theorem KOK.set (h:KOK K w g x) (i:Nat) (u:Value):Fr K w (w.setCell ⟨g,i,none⟩ u):=Fr.of_set g i u (fun i hk=>(h g i hk).2.1 rfl)
theorem RunAt.put (h:RunAt w0 w g H m x) (i:Nat) (u:Value) (m' :CS) (e:(rcells H m x).set i u=rcells H m' x) (h8:m'.regs.length=8) (e1:m'.path=m.path) (e2:m'.log=m.log) (e3:m'.seen=m.seen):
  RunAt w0 (w.setCell ⟨g,i,none⟩ u) g H m' x:=by
 refine ⟨h.base,h8,?_,?_,?_,?_,h.gp,h.gl,h.gs,h.ps,h.pl,h.ls,h.pz⟩
 ·have :=h.blk.set_ i u
  rw[List.setIfInBounds_toArray,e]at this
  exact this
 ·rw[e1];exact h.path.set_ne h.base h.gp i u
 ·rw[e2];exact h.log.set_ne h.base h.gl i u
 ·rw[e3];exact h.seen.set_ne h.base h.gs i u
theorem KOK.sub {K2:Nat→Nat→Prop} (h:KOK K2 w g x) (hs:∀b i,K b i→K2 b i):KOK K w g x:=fun b i hk=>h b i (hs b i hk)
end
def scells (m:CS) (x:RL):List Value:=m.regs.map (Value.int .i64)++ [x.pv,x.lv,.slice x.M 0 x.mc]
theorem rc_state (H:Value) (m:CS) (x:RL):rcells H m x=scells m x++ [H,x.sv,.int .i64 m.why]:=by unfold rcells scells;simp
section
variable {w0 w w1:World} {g:Nat} {H:Value} {m m1:CS} {x x1:RL} {K:Nat→Nat→Prop}
theorem RunAt.range (h:RunAt w0 w g H m x):w.rangeAt g 0 (scells m x):=fun j v hv=>by
 rw[Nat.zero_add]
 refine h.blk.cell j v ?_
 rw[List.getElem?_toArray,rc_state,List.getElem?_append_left (List.getElem?_eq_some_iff.1 hv).1];exact hv
theorem Fr.blk {b:Nat} {t:TypeId} {cs:Array Value} (hf:Fr K w w1) (hb:Blk w b t cs) (hk:∀i,K b i):Blk w1 b t cs:=by
 obtain ⟨cur,h1,h2⟩:=hf.shape b cs t (0,0) hb
 have :cur=cs:=by
  refine Array.ext_getElem? fun i=>?_
  have hc:=hf.cells b i (hk i)
  unfold World.cell? at hc
  unfold Blk at hb
  simp only[h1,hb]at hc
  simpa using hc
 rw[←this];exact h1
end
section
variable {K:Nat→Nat→Prop} {w0 w:World} {g:Nat} {HA:Option Addr} {hn hc:Nat} {h:List Heap.Cell} {m:CS} {x:RL} {rest:List Raw} {B:Option Addr} {rn rc e:Nat}
end
section
variable {K:Nat→Nat→Prop} {w0 w:World} {g:Nat} {HA:Option Addr} {hn hc:Nat} {h:List Heap.Cell} {m:CS} {x:RL} {rest:List Raw} {B:Option Addr} {rn rc e:Nat}
end
section
variable {K:Nat→Nat→Prop} {w0 w:World} {g:Nat} {HA:Option Addr} {hn hc:Nat} {h:List Heap.Cell} {m:CS} {x:RL} {rest:List Raw} {B:Option Addr} {rn rc e:Nat}
end
section
variable {K:Nat→Nat→Prop} {w0 w:World} {g:Nat} {HA:Option Addr} {hn hc:Nat} {h:List Heap.Cell} {m:CS} {x:RL} {rest:List Raw} {B:Option Addr} {rn rc e:Nat}
end
section
variable {K:Nat→Nat→Prop} {w0 w:World} {g:Nat} {HA:Option Addr} {hn hc:Nat} {h:List Heap.Cell} {m:CS} {x:RL} {rest:List Raw} {B:Option Addr} {rn rc e:Nat}
end
end Go.Proofs.YtgghaodcfgbjlaaGreat.Model
