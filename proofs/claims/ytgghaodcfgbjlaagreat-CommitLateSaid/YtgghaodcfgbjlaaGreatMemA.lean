/-
 WORDS ON MEMORY, of my own: what stays where one block is written, where a slice of the call's own grows in its place or elsewhere. No conditions beyond those that each theorem states. Nothing of the program is named here.
-/
import Derived.Deep.RegionHeld3
import Derived.KernelRfl
import Derived.WalkKit
import Derived.ProofKit
import Derived.OpenShut
import Derived.Lib.Hide
import Derived.Deep.Draws
import Derived.Laws.OwnMore
import Derived.Deep.Slices
import Derived.Deep.Fields
import Derived.ChangeSame
import Derived.ChangeOld
import Derived.Below
import Derived.Carry
import Derived.Maps.AppendAt
import Derived.Test.YtgghaodcfgbjlaaGreatRows
import Derived.LoopTactic
import Derived.Deep.QuietTactic
import Derived.BigQuiet
import Derived.RegionTactic
import Derived.Laws.StructEq
import Derived.OwnWalk
import Derived.Lib.SliceRun
import Derived.StillTailTactics
import Derived.Shelf.SlSortCmp.QuietGrown
import Derived.Test.YtgghaodcfgbjlaaGreatSort
import Derived.Sort.OwnSortedInts
import Derived.Laws.CopyOwn
import Derived.Lib.AppendZerosOnto
import Derived.Laws.NewBlocks
import Derived.Lib.Overlaps
set_option maxRecDepth 100000
namespace Go.Proofs.YtgghaodcfgbjlaaGreat.Mem
open Go.ChangeShapes Go.WideShapes Go.ChangeAt Go.RowKit
theorem ret_int {k:IntKind} {a b:Int} (h:a=b):Ending.returned (.int k a)=.returned (.int k b):=by rw[h]
theorem ret_bool {a b:Bool} (h:a=b):Ending.returned (.bool a)=.returned (.bool b):=by rw[h]
theorem add_add (a:Addr) (i j:Nat):(a.add i).add j=a.add (i+j):=by
 unfold Addr.add
 by_cases hi:i=0 <;> by_cases hj:j=0 <;> simp[hi,hj,Nat.add_assoc]
theorem cell_lt {w:World} {a:Addr} {v:Value} (h:w.cell? a=some v):a.block<w.heap.size:=by
 rcases Nat.lt_or_ge a.block w.heap.size with hl | hl
 ·exact hl
 ·unfold World.cell? at h;simp[Array.getElem?_eq_none hl]at h
def Rd (w:World) (k:Nat) (A:Option Addr) (n:Nat) (xs:List Value):Prop:=
 xs.length=n * k∧(0<n→∃b off,A=some ⟨b,off,none⟩∧∀j u,xs[j]?=some u→w.cell? ⟨b,off+j,none⟩=some u)
section
variable {w w' :World} {k n:Nat} {A:Option Addr} {xs:List Value}
theorem Rd.none_:Rd w k A 0 []:=⟨by simp,fun h=>absurd h (by omega)⟩
theorem Rd.below (h:Rd w k A n xs) (hb:Below w.heap.size w w'):Rd w' k A n xs:=
 ⟨h.1, fun hn=>by
  obtain ⟨b,off,e,hc⟩:=h.2 hn
  exact ⟨b,off,e,fun j u hu=>(hb.cell (cell_lt (hc j u hu))).trans (hc j u hu)⟩⟩
theorem Rd.drew (h:Rd w k A n xs):Rd w.drew k A n xs:=h
theorem Rd.drewN (h:Rd w k A n xs) (m:Nat):Rd (w.drewN m) k A n xs:=h
theorem Rd.alloc (h:Rd w k A n xs) (o:Obj):Rd (w.alloc o) k A n xs:=
 h.below ((Below.refl _ _).alloc (Nat.le_refl _) o)
theorem own_form {base:Nat} {e:TypeId} {v:Value} (h:w.ownsRow base e k v n xs):∃A c,v=.slice A n c∧Rd w k A n xs:=by
 rcases h.2 with ⟨hv,hn⟩ | ⟨g,cap,cur,hv,_⟩
 ·subst hv hn
  have hx:xs= []:=List.eq_nil_of_length_eq_zero (by simpa using h.1)
  subst hx
  exact ⟨_,_,rfl,Rd.none_⟩
 ·subst hv
  refine ⟨_,_,rfl,h.1,fun _=>⟨g,0,rfl,fun j u hu=>?_⟩⟩
  have h2:=h.cells (g:=g) rfl j u hu
  have :((⟨g,0,none⟩:Addr).add j)=⟨g,0+j,none⟩:=by
   unfold Addr.add;split
   ·rename_i e;subst e;rfl
   ·rfl
  rwa [this]at h2
end
theorem bl_trans {w w1 w2:World} (h:Below w.heap.size w w1) (k:Below w1.heap.size w1 w2):Below w.heap.size w w2:=h.trans (k.mono h.size)
theorem bl_alloc {w w1:World} (h:Below w.heap.size w w1) (o:Obj):Below w.heap.size w (w1.alloc o):=h.alloc h.size o
theorem bl_set {w w1:World} (h:Below w.heap.size w w1) {p:Addr} (hp:w.heap.size≤p.block) (u:Value):Below w.heap.size w (w1.setCell p u):=h.setCell hp u
theorem bl_drewN {w w1:World} (h:Below w.heap.size w w1) (q:Nat):Below w.heap.size w (w1.drewN q):=⟨h.os,h.tape,h.output,h.size,h.block⟩
def SliceT (P:Program) (t e:TypeId) (size bytes:Nat):Prop:=
 ∃i z,P.underlying t=some (.slice e)∧P.info? e=some i∧i.zero=some z∧i.size=size∧i.bytes=bytes∧z.cells.size=size∧0<size
theorem SliceT.mk_ {P:Program} {t e:TypeId} {size bytes:Nat} {z:Value} (ht:P.underlying t=some (.slice e))
  (h:(P.info? e).map (fun i=>(i.zero,i.size,i.bytes))=some (some z,size,bytes)) (hz:z.cells.size=size) (h0:0<size):SliceT P t e size bytes:=by
 obtain ⟨i,hi,h1,h2,h3⟩:=info_parts h
 exact ⟨i,z,ht,hi,h1,h2,h3,hz,h0⟩
def Own (w0 w:World) (e size:Nat) (v:Value) (n:Nat) (xs:List Value):Prop:=
 w.ownsRow w0.heap.size e size v n xs∧Below w0.heap.size w0 w
section
variable {w0 w w' :World} {e size n:Nat} {v:Value} {xs:List Value}
theorem Own.nil_ (h:Below w0.heap.size w0 w):Own w0 w e size (.slice none 0 0) 0 []:=⟨⟨by simp,.inl ⟨rfl,rfl⟩⟩,h⟩
theorem Own.alloc (h:Own w0 w e size v n xs) (o:Obj):Own w0 (w.alloc o) e size v n xs:=⟨h.1.alloc o,h.2.alloc h.2.size o⟩
theorem Own.below (h:Own w0 w e size v n xs) (hb:Below w.heap.size w w'):Own w0 w' e size v n xs:=
 ⟨h.1.kept (row:=none) ⟨hb.os,hb.tape,hb.output,hb.size,fun i hi _=>hb.block i hi⟩ (by cases hv:v.ownBlock <;> simp),bl_trans h.2 (hb)⟩
theorem Own.drew (h:Own w0 w e size v n xs):Own w0 w.drew e size v n xs:=⟨h.1,h.2.drew⟩
theorem Own.form (h:Own w0 w e size v n xs):∃A c,v=.slice A n c∧Rd w size A n xs:=own_form h.1
theorem Own.base (h:Own w0 w e size v n xs):∀k,v.ownBlock=some k→w0.heap.size≤k:=by
 intro k hk
 rcases h.1.2 with ⟨rfl,_⟩ | ⟨g,cap,cur,rfl,hb,_⟩
 ·simp[Value.ownBlock]at hk
 ·simp[Value.ownBlock]at hk;omega
theorem Own.grown (h:Own w0 w e size v n xs) (hg:w.grownBy w' v.ownBlock):Below w0.heap.size w0 w' :=h.2.grown hg h.2.size h.base
end
theorem Own.empty (w:World) (e:TypeId) (size:Nat):Own w (w.alloc (.cells #[] e)) e size (.slice (some ⟨w.heap.size,0,none⟩) 0 0) 0 []:=
 ⟨⟨by simp,.inr ⟨w.heap.size,0,#[],rfl,Nat.le_refl _,heap_alloc_new w _,Nat.le_refl _,by unfold maxLen;omega,by simp,by simp⟩⟩,bl_alloc (Below.refl _ _) _⟩
def Blk (w:World) (g:Nat) (t:TypeId) (xs:Array Value):Prop:=w.heap[g]?=some (.cells xs t (0,0))
section
variable {w w' :World} {g:Nat} {t:TypeId} {xs:Array Value}
theorem Blk.lt (h:Blk w g t xs):g<w.heap.size:=by
 rcases Nat.lt_or_ge g w.heap.size with hl | hl
 ·exact hl
 ·unfold Blk at h;rw[Array.getElem?_eq_none hl]at h;cases h
theorem Blk.cell (h:Blk w g t xs) (i:Nat) (u:Value) (hi:xs[i]?=some u):w.cell? ⟨g,i,none⟩=some u:=by
 unfold Blk at h;unfold World.cell?;simp only[h];simpa using hi
theorem Blk.frozen (h:Blk w g t xs) (i:Nat):w.frozen? ⟨g,i,none⟩=false:=by
 unfold Blk at h;simp[World.frozen?,h]
theorem Blk.new (w:World) (t:TypeId) (xs:Array Value):Blk (w.alloc (.cells xs t)) w.heap.size t xs:=heap_alloc_new w _
theorem Blk.alloc (h:Blk w g t xs) (o:Obj):Blk (w.alloc o) g t xs:=(Below.heap_alloc w o g h.lt).trans h
theorem Blk.drewN (h:Blk w g t xs) (q:Nat):Blk (w.drewN q) g t xs:=h
theorem Blk.set_ (h:Blk w g t xs) (i:Nat) (u:Value):Blk (w.setCell ⟨g,i,none⟩ u) g t (xs.setIfInBounds i u):=by
 unfold Blk at h ⊢;simp[World.setCell,Array.getElem?_modify,h]
theorem Blk.below (h:Blk w g t xs) (hb:Below w.heap.size w w'):Blk w' g t xs:=(hb.block g h.lt).trans h
end
theorem one_nil:∀u∈([]:List Value),u.oneCell' =true:=by simp
theorem one_cons {x:Value} {l:List Value} (h:x.oneCell' =true) (t:∀u∈l,u.oneCell' =true):∀u∈x::l,u.oneCell' =true:=by
 intro u hu
 rcases List.mem_cons.1 hu with rfl | hu
 ·exact h
 ·exact t u hu
theorem add_plain (b off j:Nat):((⟨b,off,none⟩:Addr).add j)=⟨b,off+j,none⟩:=by
 unfold Addr.add;split
 ·rename_i e;subst e;rfl
 ·rfl
theorem Rd.built (w:World) (k n:Nat) (xs:List Value) (e:TypeId) (h:xs.length=n * k):
  Rd (w.alloc (.cells xs.toArray e)) k (some ⟨w.heap.size,0,none⟩) n xs:=by
 refine ⟨h,fun _=>⟨_,_,rfl,fun j u hu=>?_⟩⟩
 simp only[World.cell?,heap_alloc_new]
 simpa using hu
theorem Rd.builtAt (w:World) (k n:Nat) (xs:List Value) (e:TypeId) (h:xs.length=n * k) {g:Nat} (hg:w.heap.size=g):
  Rd (w.alloc (.cells xs.toArray e)) k (some ⟨g,0,none⟩) n xs:=by subst hg;exact Rd.built w k n xs e h
section
variable {P:Program} {w:World}
theorem run_append_nil {t ty e:TypeId} {i:TypeInfo} {size base n c:Nat} {v:Value} {xs:List Value} (ht:P.underlying t=some (.slice e)) (hi:P.info? e=some i)
  (hown:w.ownsRow base e size v n xs):(Builtin.append_ #[t,t] ty #[v,.slice none 0 c]).run P w=.ok v w:=by
 rcases hown.2 with ⟨rfl,rfl⟩ | ⟨g,cap,cur,rfl,_,_,hnc,_⟩
 ·simp[Builtin.append_,run_underlying ht,sizeOf,typeInfo,hi,Builtin.lenOf,Builtin.firstCells]
 ·simp[Builtin.append_,run_underlying ht,sizeOf,typeInfo,hi,Builtin.lenOf,Builtin.firstCells,hnc,storeCells]
theorem wp_append_rd {o:Oper} {a:Act} {K:Act→World→Prop} {Q:Exit→Act→World→Prop} (s x:Operand) (t:TypeId)
  (ho:o.op=.call { callee:=.builtin .append,args:=#[s,x],argTypes:=#[t,t] })
  {e:TypeId} {size bytes:Nat} (hT:SliceT P t e size bytes) (w0:World) (v:Value) (n:Nat) (xs:List Value) (hs:a.eval s=v) (hown:Own w0 w e size v n xs)
  (A:Option Addr) (m c:Nat) (news:List Value) (hx:a.eval x=.slice A m c) (hr:Rd w size A m news) (h1:∀u∈news,u.oneCell' =true)
  (hb:(n+m) * bytes≤140737488355328) (h63:n+m≤9223372036854775807)
  (h:∀v' w',Own w0 w' e size v' (n+m) (xs++news)→w.grownBy w' v.ownBlock→K (a.put o.dst v') w'):o.wp P a w K Q:=by
 obtain ⟨i,z,ht,hi,hz,hsize,hby,hzs,hsz⟩:=hT
 rcases A with _ | ad
 ·have hm:m=0:=by
   rcases Nat.eq_zero_or_pos m with h0 | h0
   ·exact h0
   ·obtain ⟨b,off,h,_⟩:=hr.2 h0
    cases h
  subst hm
  have hn:news= []:=List.eq_nil_of_length_eq_zero (by simpa using hr.1)
  subst hn
  have hrun:=run_append_nil (ty:=o.type) (c:=c) ht hi hown.1
  unfold Oper.wp execOp
  simp only[ho,resolve,invoke,builtin,Sem.run_bind,Sem.run_pure,Result.andThen_ok,List.map_toArray,List.map_cons,List.map_nil,hs,hx,hrun]
  exact h v w (by simpa using hown) (World.grownBy.refl w _)
 ·have hcells:∀j u,news[j]?=some u→w.cell? (ad.add j)=some u:=by
   intro j u hu
   rcases Nat.eq_zero_or_pos m with h0 | h0
   ·subst h0
    have hn:news= []:=List.eq_nil_of_length_eq_zero (by simpa using hr.1)
    subst hn
    simp at hu
   ·obtain ⟨b,off,h,hc⟩:=hr.2 h0
    injection h with h
    subst h
    rw[add_plain]
    exact hc j u hu
  exact wp_append_own w s x t ho w0.heap.size e i z size bytes ht hi hz hsize hby hzs hsz v n xs hs hown.1 ad m c news hx hr.1 hcells h1 (by unfold maxLen;omega) hb hown.2.size
   fun v' w' h2 h3 _=>h v' w' ⟨h2,hown.grown h3⟩ h3
theorem append_rd {ops:Array Oper} {rest:List Oper} {o:Oper} {a:Act} {Q:Exit→Act→World→Prop} (hgd:o.guard=none) (s x:Operand) (t:TypeId)
  (ho:o.op=.call { callee:=.builtin .append,args:=#[s,x],argTypes:=#[t,t] })
  {e:TypeId} {size bytes:Nat} (hT:SliceT P t e size bytes) (w0:World) (v:Value) (n:Nat) (xs:List Value) (hs:a.eval s=v) (hown:Own w0 w e size v n xs)
  (A:Option Addr) (m c:Nat) (news:List Value) (hx:a.eval x=.slice A m c) (hr:Rd w size A m news) (h1:∀u∈news,u.oneCell' =true)
  (hb:(n+m) * bytes≤140737488355328) (h63:n+m≤9223372036854775807)
  (h:∀v' w',Own w0 w' e size v' (n+m) (xs++news)→w.grownBy w' v.ownBlock→wpList P ops Q rest (a.put o.dst v') w'):wpList P ops Q (o::rest) a w:=
 wpList_plain hgd fun _ hK=>wp_append_rd s x t ho hT w0 v n xs hs hown A m c news hx hr h1 hb h63 fun v' w' h2 h3=>hK _ _ (h v' w' h2 h3)
end
end Go.Proofs.YtgghaodcfgbjlaaGreat.Mem
namespace Go.Proofs.YtgghaodcfgbjlaaGreat.Mem
open Go.ChangeShapes Go.WideShapes Go.ChangeAt Go.RowKit Go.Deep
section
variable {H:Type} {enc:TypeId × Value→H} {P:Program} {W:World}
theorem flat_len {τ:Type} {K:Nat} {code:τ→List Value} (hcode:∀x,(code x).length=K) (l:List τ):(l.flatMap code).length=l.length * K:=by
 induction l with
 | nil=>simp
 | cons x l ih=>rw[List.flatMap_cons,List.length_append,ih,hcode,List.length_cons,Nat.succ_mul,Nat.add_comm]
theorem flat_at {τ:Type} {K:Nat} {code:τ→List Value} (hcode:∀x,(code x).length=K) (l:List τ) (i:Nat) (x:τ) (hi:l[i]?=some x) (j:Nat) (hj:j<K):
  (l.flatMap code)[i * K+j]?=(code x)[j]?:=by
 induction l generalizing i with
 | nil=>simp at hi
 | cons y l ih=>
  cases i with
  | zero=>
   simp at hi;subst hi
   rw[List.flatMap_cons,Nat.zero_mul,Nat.zero_add,List.getElem?_append_left (by rw[hcode];exact hj)]
  | succ i=>
   rw[List.flatMap_cons,List.getElem?_append_right (by rw[hcode,Nat.succ_mul];omega),hcode]
   have e:(i+1) * K+j - K=i * K+j:=by rw[Nat.succ_mul];omega
   rw[e]
   exact ih i (by simpa using hi)
theorem open_rows {τ:Type} [Inhabited τ] {t e:TypeId} {A:Option Addr} {n c:Nat} {d:DataW H} {p:List MemPlace} (ht:P.underlying t=some (.slice e)) (K:Nat) (hK:P.cellsOf e=K) (hK0:0<K)
  (code:τ→List Value) (hcode:∀x,(code x).length=K) (good:τ→Prop)
  (hel:∀(fuel:Nat) (cs' :List Value) (x:DataW H × List MemPlace),cs'.length=K→DataW.trod enc P W 0 (fun _=>true) true fuel e cs' =some x→∃y:τ,cs' =code y∧good y)
  (h:DataW.Trod enc P W 0 (fun _=>true) true t (.slice A n c) d p):
  n≤c∧c≤9223372036854775807∧∃xs:List τ,Rd W K A n (xs.flatMap code)∧xs.length=n∧∀x∈xs,good x:=by
 obtain ⟨fuel,hf⟩:=h
 rcases open_slice ht hf with ⟨hcs,_⟩ | ⟨a,len,cap,m,n',D,Pl,hcs,_,hl,hm,hmm,_,hx⟩
 ·simp [Value.cells]at hcs
  obtain ⟨rfl,rfl,rfl⟩:=hcs
  exact ⟨Nat.le_refl _,by omega,[],Rd.none_,rfl,by simp⟩
 ·simp [Value.cells]at hcs
  obtain ⟨rfl,rfl,rfl⟩:=hcs
  have hlm:n≤m:=by rw[hmm];simp;exact hl
  have each:∀i,i<n→∃y:τ,(∀j,j<K→W.cell? (a.add (i * K+j))=(code y)[j]?)∧good y:=by
   intro i hi
   obtain ⟨cs',h1,h2⟩:=hx i (by omega)
   rw[hK]at h1
   obtain ⟨_,hlen,hcell⟩:=World.cells?_some h1
   obtain ⟨y,rfl,hy⟩:=hel _ _ _ hlen h2
   exact ⟨y,fun j hj=>by rw[←Mem.add_add];exact hcell j hj,hy⟩
  obtain ⟨f,hfs⟩:=choose_lt each
  refine ⟨hl,by unfold maxLen at hm;exact hm,(List.range n).map f,⟨?_,fun hn=>?_⟩,by simp,?_⟩
  ·rw[flat_len hcode];simp
  ·have h00:=(hfs 0 hn).1 0 hK0
   have hk0:(code (f 0))[0]?=some ((code (f 0))[0]'(by rw[hcode];exact hK0)):=List.getElem?_eq_getElem _
   rw[hk0]at h00
   obtain ⟨b,off,spot⟩:=a
   have hspot:spot=none:=by simpa [Addr.add] using World.cell?_spot h00
   subst hspot
   refine ⟨b,off,rfl,fun j u hu=>?_⟩
   have hj:j<n * K:=by
    have:=(List.getElem?_eq_some_iff.1 hu).1
    rw[flat_len hcode]at this;simpa using this
   have hi:j / K<n:=Nat.div_lt_of_lt_mul (by rw[Nat.mul_comm];exact hj)
   have hmod:j % K<K:=Nat.mod_lt _ hK0
   have hdm:j / K * K+j % K=j:=by rw[Nat.mul_comm];exact Nat.div_add_mod j K
   have hc:=(hfs (j / K) hi).1 (j % K) hmod
   rw[hdm,add_plain]at hc
   rw[hc]
   have:=flat_at hcode ((List.range n).map f) (j / K) (f (j / K)) (by simp[hi]) (j % K) hmod
   rw[hdm]at this
   rw[←this];exact hu
  ·intro x hx'
   obtain ⟨i,hi,rfl⟩:=List.mem_map.1 hx'
   exact (hfs i (List.mem_range.1 hi)).2
end
end Go.Proofs.YtgghaodcfgbjlaaGreat.Mem
namespace Go.Proofs.YtgghaodcfgbjlaaGreat.Mem
open Go.ChangeShapes Go.WideShapes Go.ChangeAt Go.RowKit
section
variable {τ:Type} {K:Nat} {code:τ→List Value}
theorem Rd.at_ (hcode:∀x,(code x).length=K) {w:World} {A:Option Addr} {n:Nat} {xs:List τ} (h:Rd w K A n (xs.flatMap code)) (hK:0<K) (k:Nat) (hk:k<n):
  ∃b off,∃x:τ,A=some ⟨b,off,none⟩∧xs[k]?=some x∧∀j u,(code x)[j]?=some u→w.cell? ⟨b,off+k * K+j,none⟩=some u:=by
 have hl:xs.length=n:=by
  have:=h.1;rw[flat_len hcode]at this;exact Nat.eq_of_mul_eq_mul_right hK this
 obtain ⟨b,off,rfl,hc⟩:=h.2 (by omega)
 have hkl:k<xs.length:=by omega
 refine ⟨b,off,xs[k],rfl,List.getElem?_eq_getElem hkl,fun j u hu=>?_⟩
 have hj:j<K:=by have:=(List.getElem?_eq_some_iff.1 hu).1;rwa [hcode]at this
 have:=flat_at hcode xs k _ (List.getElem?_eq_getElem hkl) j hj
 rw[Nat.add_assoc]
 exact hc _ _ (this.trans hu)
theorem Rd.len (hcode:∀x,(code x).length=K) {w:World} {A:Option Addr} {n:Nat} {xs:List τ} (h:Rd w K A n (xs.flatMap code)) (hK:0<K):xs.length=n:=by
 have:=h.1;rw[flat_len hcode]at this;exact Nat.eq_of_mul_eq_mul_right hK this
theorem flat_take (l:List τ) (k:Nat) (x:τ) (hk:l[k]?=some x):(l.take (k+1)).flatMap code=(l.take k).flatMap code++code x:=by
 rw[List.take_add_one,hk];simp
theorem flat_one (h1:∀x,∀u∈code x,u.oneCell' =true) (l:List τ):∀u∈l.flatMap code,u.oneCell' =true:=by
 intro u hu
 obtain ⟨x,_,hx⟩:=List.mem_flatMap.1 hu
 exact h1 x u hx
end
def zc (z:Int):List Value:= [.int .i64 z]
def zs (l:List Int):List Value:=l.flatMap zc
theorem zc_len (z:Int):(zc z).length=1:=rfl
theorem zc_one (z:Int):∀u∈zc z,u.oneCell' =true:=one_cons rfl one_nil
theorem at_z {w:World} {A:Option Addr} {n:Nat} {l:List Int} (hr:Rd w 1 A n (zs l)) (k:Nat) (hk:k<n):
  ∃b off,∃x:Int,A=some ⟨b,off,none⟩∧l[k]?=some x∧w.cell? ⟨b,off+k,none⟩=some (.int .i64 x):=by
 obtain ⟨b,off,x,hA,hx,hc⟩:=Rd.at_ zc_len hr (by decide) k hk
 exact ⟨b,off,x,hA,hx,by have:=hc 0 _ rfl;simpa using this⟩
theorem zs_len {w:World} {A:Option Addr} {n:Nat} {l:List Int} (hr:Rd w 1 A n (zs l)):l.length=n:=Rd.len zc_len hr (by decide)
theorem zs_take (l:List Int) (k:Nat) (x:Int) (hk:l[k]?=some x):zs (l.take (k+1))=zs (l.take k)++ [.int .i64 x]:=flat_take l k x hk
theorem zs_app (a b:List Int):zs (a++b)=zs a++zs b:=by unfold zs;rw[List.flatMap_append]
theorem zs_one (l:List Int):∀u∈zs l,u.oneCell' =true:=flat_one zc_one l
theorem at_2 {τ:Type} {code:τ→List Value} (f g:τ→Int) (hcode:∀x,code x= [.int .i64 (f x),.int .i64 (g x)]) {w:World} {A:Option Addr} {n:Nat} {l:List τ} (hr:Rd w 2 A n (l.flatMap code)) (k:Nat) (hk:k<n):
  ∃b off,∃x:τ,A=some ⟨b,off,none⟩∧l[k]?=some x∧w.cell? ⟨b,off+k * 2,none⟩=some (.int .i64 (f x))∧w.cell? ⟨b,off+k * 2+1,none⟩=some (.int .i64 (g x)):=by
 obtain ⟨b,off,x,hA,hx,hc⟩:=Rd.at_ (fun x=>by rw[hcode];rfl) hr (by decide) k hk
 exact ⟨b,off,x,hA,hx,by have:=hc 0 _ (by rw[hcode];rfl);simpa using this,hc 1 _ (by rw[hcode];rfl)⟩
theorem take_all {α:Type} (h:List α) (p:α→Bool) (k:Nat) (x:α) (hk:h[k]?=some x):(h.take (k+1)).all p=((h.take k).all p && p x):=by
 obtain ⟨hl,rfl⟩:=List.getElem?_eq_some_iff.1 hk
 rw[List.take_succ_eq_append_getElem hl,List.all_append];simp
theorem take_any {α:Type} (h:List α) (p:α→Bool) (k:Nat) (x:α) (hk:h[k]?=some x):(h.take (k+1)).any p=((h.take k).any p || p x):=by
 obtain ⟨hl,rfl⟩:=List.getElem?_eq_some_iff.1 hk
 rw[List.take_succ_eq_append_getElem hl,List.any_append];simp
theorem all_bad {α:Type} (h:List α) (p:α→Bool) (k:Nat) (x:α) (hk:h[k]?=some x) (hx:p x=false):h.all p=false:=by
 rw[List.all_eq_false];exact ⟨x,List.mem_of_getElem? hk,by simp[hx]⟩
theorem any_good {α:Type} (h:List α) (p:α→Bool) (k:Nat) (x:α) (hk:h[k]?=some x) (hx:p x=true):h.any p=true:=by
 rw[List.any_eq_true];exact ⟨x,List.mem_of_getElem? hk,hx⟩
def pick (p:Nat→Bool) (n:Nat):List Int:=((List.range n).filter p).map Int.ofNat
theorem pick_yes (p:Nat→Bool) (n:Nat) (h:p n=true):pick p (n+1)=pick p n++ [(n:Int)]:=by
 unfold pick;rw[List.range_succ,List.filter_append];simp[h]
theorem pick_no (p:Nat→Bool) (n:Nat) (h:p n=false):pick p (n+1)=pick p n:=by
 unfold pick;rw[List.range_succ,List.filter_append];simp[h]
theorem pick_len (p:Nat→Bool) (n:Nat):(pick p n).length≤n:=by
 unfold pick;have:=List.length_filter_le p (List.range n);simpa using this
theorem pick_mem (p:Nat→Bool) (n:Nat) (z:Int):z∈pick p n↔∃k:Nat,k<n∧p k=true∧z=(k:Int):=by
 unfold pick
 rw[List.mem_map]
 constructor
 ·rintro ⟨k,hk,rfl⟩
  rw[List.mem_filter,List.mem_range]at hk
  exact ⟨k,hk.1,hk.2,rfl⟩
 ·rintro ⟨k,h1,h2,rfl⟩
  exact ⟨k,by rw[List.mem_filter,List.mem_range];exact ⟨h1,h2⟩,rfl⟩
theorem pick_any (p:Nat→Bool) (n k:Nat) (hk:k<n):(pick p n).any (fun z=>z==(k:Int))=p k:=by
 rw[Bool.eq_iff_iff,List.any_eq_true]
 constructor
 ·rintro ⟨z,hz,he⟩
  obtain ⟨j,_,hp,rfl⟩:=(pick_mem p n z).1 hz
  have:j=k:=by have:=eq_of_beq he;omega
  rwa [←this]
 ·intro hp
  exact ⟨(k:Int),(pick_mem p n _).2 ⟨k,hk,hp,rfl⟩,by simp⟩
theorem pick_congr (p q:Nat→Bool) (n:Nat) (h:∀k,k<n→p k=q k):pick p n=pick q n:=by
 unfold pick;rw[List.filter_congr];intro k hk;exact h k (List.mem_range.1 hk)
def RetB (w:World) (b:Bool) (e:Ending) (w' :World):Prop:=e=.returned (.bool b)∧Below w.heap.size w w'
def RetS (w:World) (K n:Nat) (xs:List Value) (e:Ending) (w' :World):Prop:=
 ∃B d,e=.returned (.slice B n d)∧Rd w' K B n xs∧Below w.heap.size w w'
section
variable {P:Program} {w:World}
theorem wp_append_at {o:Oper} {a:Act} {K:Act→World→Prop} {Q:Exit→Act→World→Prop} (s x:Operand) (t:TypeId)
  (ho:o.op=.call { callee:=.builtin .append,args:=#[s,x],argTypes:=#[t,t] })
  {e:TypeId} {size bytes:Nat} (hT:SliceT P t e size bytes) (w0:World) (v:Value) (n:Nat) (xs:List Value) (hs:a.eval s=v) (hown:Own w0 w e size v n xs)
  (A:Option Addr) (m c:Nat) (news:List Value) (hx:a.eval x=.slice A m c) (hr:Rd w size A m news) (h1:∀u∈news,u.oneCell' =true)
  (hb:(n+m) * bytes≤140737488355328) (h63:n+m≤9223372036854775807)
  (h:∀v' w',Own w0 w' e size v' (n+m) (xs++news)→w.grownBy w' v.ownBlock→(v'.ownBlock=v.ownBlock∨v'.ownBlock=some w.heap.size)→K (a.put o.dst v') w'):o.wp P a w K Q:=by
 obtain ⟨i,z,ht,hi,hz,hsize,hby,hzs,hsz⟩:=hT
 rcases A with _ | ad
 ·have hm:m=0:=by
   rcases Nat.eq_zero_or_pos m with h0 | h0
   ·exact h0
   ·obtain ⟨b,off,h,_⟩:=hr.2 h0
    cases h
  subst hm
  have hn:news= []:=List.eq_nil_of_length_eq_zero (by simpa using hr.1)
  subst hn
  have hrun:=run_append_nil (ty:=o.type) (c:=c) ht hi hown.1
  unfold Oper.wp execOp
  simp only[ho,resolve,invoke,builtin,Sem.run_bind,Sem.run_pure,Result.andThen_ok,List.map_toArray,List.map_cons,List.map_nil,hs,hx,hrun]
  exact h v w (by simpa using hown) (World.grownBy.refl w _) (.inl rfl)
 ·have hcells:∀j u,news[j]?=some u→w.cell? (ad.add j)=some u:=by
   intro j u hu
   rcases Nat.eq_zero_or_pos m with h0 | h0
   ·subst h0
    have hn:news= []:=List.eq_nil_of_length_eq_zero (by simpa using hr.1)
    subst hn
    simp at hu
   ·obtain ⟨b,off,h,hc⟩:=hr.2 h0
    injection h with h
    subst h
    rw[add_plain]
    exact hc j u hu
  obtain ⟨v',w',hrun,h2,h3,_,h5⟩:=run_append_own_at (P:=P) w w0.heap.size t o.type e i z size bytes ht hi hz hsize hby hzs hsz v n xs hown.1 ad m c news hr.1 hcells h1 (by unfold maxLen;omega) hb hown.2.size
  unfold Oper.wp execOp
  simp only[ho,resolve,invoke,builtin,Sem.run_bind,Sem.run_pure,Result.andThen_ok,List.map_toArray,List.map_cons,List.map_nil,hs,hx,hrun]
  exact h v' w' ⟨h2,hown.grown h3⟩ h3 h5
theorem append_at {ops:Array Oper} {rest:List Oper} {o:Oper} {a:Act} {Q:Exit→Act→World→Prop} (hgd:o.guard=none) (s x:Operand) (t:TypeId)
  (ho:o.op=.call { callee:=.builtin .append,args:=#[s,x],argTypes:=#[t,t] })
  {e:TypeId} {size bytes:Nat} (hT:SliceT P t e size bytes) (w0:World) (v:Value) (n:Nat) (xs:List Value) (hs:a.eval s=v) (hown:Own w0 w e size v n xs)
  (A:Option Addr) (m c:Nat) (news:List Value) (hx:a.eval x=.slice A m c) (hr:Rd w size A m news) (h1:∀u∈news,u.oneCell' =true)
  (hb:(n+m) * bytes≤140737488355328) (h63:n+m≤9223372036854775807)
  (h:∀v' w',Own w0 w' e size v' (n+m) (xs++news)→w.grownBy w' v.ownBlock→(v'.ownBlock=v.ownBlock∨v'.ownBlock=some w.heap.size)→wpList P ops Q rest (a.put o.dst v') w'):wpList P ops Q (o::rest) a w:=
 wpList_plain hgd fun _ hK=>wp_append_at s x t ho hT w0 v n xs hs hown A m c news hx hr h1 hb h63 fun v' w' h2 h3 h4=>hK _ _ (h v' w' h2 h3 h4)
end
def Apart (v1 v2:Value):Prop:=v1.ownBlock=none∨v2.ownBlock=none∨v1.ownBlock≠v2.ownBlock
theorem Apart.symm {v1 v2:Value} (h:Apart v1 v2):Apart v2 v1:=by
 rcases h with h | h | h
 ·exact .inr (.inl h)
 ·exact .inl h
 ·exact .inr (.inr (fun e=>h e.symm))
theorem Apart.nil_ (v:Value):Apart (.slice none 0 0) v:=.inl rfl
section
variable {w0 w w' :World} {e size n e2 size2 n2:Nat} {v v' v2:Value} {xs ys:List Value}
theorem Own.lt (h:Own w0 w e size v n xs) (g:Nat) (hg:v.ownBlock=some g):g<w.heap.size:=by
 rcases h.1.2 with ⟨rfl,_⟩ | ⟨g',cap,cur,rfl,_,hh,_⟩
 ·simp[Value.ownBlock]at hg
 ·simp[Value.ownBlock]at hg;subst hg;exact (Array.getElem?_eq_some_iff.1 hh).1
theorem Own.beside (h2:Own w0 w e2 size2 v2 n2 ys) (ha:Apart v v2) (hown:Own w0 w e size v n xs) (hg:w.grownBy w' v.ownBlock) (hat:v'.ownBlock=v.ownBlock∨v'.ownBlock=some w.heap.size):
  Own w0 w' e2 size2 v2 n2 ys∧Apart v' v2:=by
 refine ⟨⟨h2.1.kept hg ?_,hown.grown hg⟩,?_⟩
 ·rcases ha with h | h | h
  ·rw[h];cases hv:v2.ownBlock <;> simp
  ·exact .inl h
  ·exact .inr (fun e=>h e.symm)
 ·rcases hat with h | h
  ·unfold Apart at *;rw[h];exact ha
  ·cases hv:v2.ownBlock with
   | none=>exact .inr (.inl hv)
   | some g=>
    have:=h2.lt g hv
    exact .inr (.inr (by rw[h,hv];simp;omega))
end
theorem tInt:SliceT Tryz.prog 27 3 1 8:=SliceT.mk_ (z:=.int .i64 0) Tryz.underlying27 (by kernel_rfl) rfl (by decide)
def Fits (n:Int):Prop:= -9223372036854775808≤n∧n≤9223372036854775807
theorem own_set {w0 w:World} {e size n cap g:Nat} {xs:List Value} (h:Own w0 w e size (.slice (some ⟨g,0,none⟩) n cap) n xs) (j:Nat) (u:Value):
  Own w0 (w.setCell ⟨g,j,none⟩ u) e size (.slice (some ⟨g,0,none⟩) n cap) n (xs.set j u):=
 ⟨(h.1.stored j u).1,h.2.setCell (h.base g rfl) u⟩
theorem own_lay {w0 w:World} {e size n:Nat} {v:Value} {xs:List Value} (h:Own w0 w e size v n xs) (hn:0<n):∃g cap,v=.slice (some ⟨g,0,none⟩) n cap:=by
 rcases h.1.2 with ⟨_,h0⟩ | ⟨g,cap,cur,rfl,_⟩
 ·omega
 ·exact ⟨g,cap,rfl⟩
theorem own_rd {w0 w:World} {e size n cap g:Nat} {xs:List Value} (h:Own w0 w e size (.slice (some ⟨g,0,none⟩) n cap) n xs):Rd w size (some ⟨g,0,none⟩) n xs:=by
 obtain ⟨B,d,hv,hrd⟩:=h.form
 injection hv with e1 _ e3
 subst e1 e3
 exact hrd
def RetO (w:World) (t K n:Nat) (xs:List Value) (e:Ending) (w' :World):Prop:=∃v,e=.returned v∧Own w w' t K v n xs
theorem RetO.toS {w w' :World} {t K n:Nat} {xs:List Value} {e:Ending} (h:RetO w t K n xs e w'):RetS w K n xs e w' :=by
 obtain ⟨v,rfl,ho⟩:=h
 obtain ⟨B,d,rfl,hrd⟩:=ho.form
 exact ⟨B,d,rfl,hrd,ho.2⟩
theorem Own.wide {w0 w1 w:World} {e size n:Nat} {v:Value} {xs:List Value} (h:Own w1 w e size v n xs) (hb:Below w0.heap.size w0 w1):Own w0 w e size v n xs:=by
 refine ⟨⟨h.1.1,?_⟩,bl_trans hb h.2⟩
 rcases h.1.2 with hv | ⟨g,cap,cur,hv,hg,hrest⟩
 ·exact .inl hv
 ·exact .inr ⟨g,cap,cur,hv,Nat.le_trans hb.size hg,hrest⟩
theorem Own.other {w0 w1 w2:World} {e size n cap g e2 size2 q d:Nat} {B:Option Addr} {xs ys:List Value} (h1:Own w0 w1 e size (.slice (some ⟨g,0,none⟩) n cap) n xs) (h2:Own w1 w2 e2 size2 (.slice B q d) q ys):
  ∀b off,B=some ⟨b,off,none⟩→b≠g:=by
 rintro b off rfl rfl
 have l1:=h1.lt b rfl
 rcases h2.1.2 with ⟨hv,_⟩ | ⟨g',cap',cur,hv,hg,_⟩
 ·cases hv
 ·injection hv with e1
  injection e1 with e1
  injection e1 with e1
  omega
theorem cell_set_ne {w:World} {p q:Addr} (h:q.block≠p.block) (u:Value):(w.setCell q u).cell? p=w.cell? p:=by
 unfold World.cell? World.setCell
 simp[Array.getElem?_modify,h]
theorem Rd.set_other {w:World} {k n g:Nat} {B:Option Addr} {xs:List Value} (h:Rd w k B n xs) (hne:∀b off,B=some ⟨b,off,none⟩→b≠g) (j:Nat) (u:Value):Rd (w.setCell ⟨g,j,none⟩ u) k B n xs:=
 ⟨h.1, fun hn=>by
  obtain ⟨b,off,e,hc⟩:=h.2 hn
  refine ⟨b,off,e,fun i v hv=>?_⟩
  rw[cell_set_ne (fun h=>hne b off e h.symm)]
  exact hc i v hv⟩
theorem rd_nil {w:World} {k n:Nat} {xs:List Value} (hr:Rd w k none n xs):n=0∧xs= []:=by
 have h0:n=0:=by
  rcases Nat.eq_zero_or_pos n with h0 | h0
  ·exact h0
  ·obtain ⟨b,off,hh,_⟩:=hr.2 h0
   cases hh
 subst h0
 exact ⟨rfl,List.eq_nil_of_length_eq_zero (by simpa using hr.1)⟩
section
variable {τ:Type} {K:Nat} {code:τ→List Value}
theorem flat_set (hcode:∀x,(code x).length=K) (l:List τ) (k j:Nat) (hj:j<K) (x y:τ) (u:Value) (hx:l[k]?=some x) (hy:(code x).set j u=code y):
  (l.flatMap code).set (k * K+j) u=(l.set k y).flatMap code:=by
 induction l generalizing k with
 | nil=>simp at hx
 | cons a l ih=>
  cases k with
  | zero=>
   simp only[List.getElem?_cons_zero,Option.some.injEq]at hx
   subst hx
   simp only[List.flatMap_cons,List.set_cons_zero,Nat.zero_mul,Nat.zero_add]
   rw[List.set_append_left _ _ (by rw[hcode];exact hj),hy]
  | succ k=>
   simp only[List.getElem?_cons_succ]at hx
   simp only[List.flatMap_cons,List.set_cons_succ]
   have e:(k+1) * K+j=(code a).length+(k * K+j):=by rw[hcode,Nat.succ_mul];omega
   rw[e,List.set_append_right _ _ (by omega),Nat.add_sub_cancel_left,ih k hx]
end
def setAll {τ:Type} (f:τ→τ) (t:List τ) (ps:List Int):List τ:=ps.foldl (fun t p=>t.modify p.toNat f) t
section
variable {τ:Type} (f:τ→τ)
theorem setAll_len (t:List τ) (ps:List Int):(setAll f t ps).length=t.length:=by
 unfold setAll
 induction ps generalizing t with
 | nil=>rfl
 | cons p ps ih=>simp only[List.foldl_cons];rw[ih];simp
theorem setAll_take (t:List τ) (ps:List Int) (j:Nat) (p:Int) (hj:ps[j]?=some p):setAll f t (ps.take (j+1))=(setAll f t (ps.take j)).modify p.toNat f:=by
 unfold setAll
 rw[List.take_add_one,hj,List.foldl_append];rfl
theorem modify_set (t:List τ) (k:Nat) (x:τ) (hx:t[k]?=some x):t.modify k f=t.set k (f x):=by
 apply List.ext_getElem?
 intro i
 rw[List.getElem?_modify,List.getElem?_set]
 by_cases h:k=i
 ·subst h
  obtain ⟨h1,rfl⟩:=List.getElem?_eq_some_iff.1 hx
  simp[h1]
 ·simp[h]
theorem setAll_at (hf:∀x,f (f x)=f x) (t:List τ) (ps:List Int) (h0:∀p∈ps,0≤p) (k:Nat) (x:τ) (hx:t[k]?=some x):
  (setAll f t ps)[k]?=some (if ps.any (fun p=>p==(k:Int))=true then f x else x):=by
 induction ps generalizing t x with
 | nil=>simpa [setAll] using hx
 | cons p ps ih=>
  have hp:=h0 p (List.mem_cons_self ..)
  have ht:(t.modify p.toNat f)[k]?=some (if p=(k:Int) then f x else x):=by
   rw[List.getElem?_modify,hx]
   by_cases h:p=(k:Int)
   ·subst h;simp
   ·have h' :¬p.toNat=k:=by omega
    rw[if_neg h];simp[h']
  have:=ih (t.modify p.toNat f) (fun q hq=>h0 q (List.mem_cons_of_mem _ hq)) _ ht
  have e:setAll f t (p::ps)=setAll f (t.modify p.toNat f) ps:=rfl
  rw[e,this]
  by_cases h:p=(k:Int)
  ·subst h
   simp only[if_true,hf,List.any_cons,beq_self_eq_true,Bool.true_or]
   split <;> rfl
  ·have h' :(p==(k:Int))=false:=beq_eq_false_iff_ne.2 h
   simp only[h,if_false,List.any_cons,h',Bool.false_or]
theorem setAll_pick (hf:∀x,f (f x)=f x) (t:List τ) (p:Nat→Bool):setAll f t (pick p t.length)=t.mapIdx (fun k x=>if p k=true then f x else x):=by
 apply List.ext_getElem?
 intro k
 by_cases hk:k<t.length
 ·have hx:t[k]?=some t[k]:=List.getElem?_eq_getElem hk
  rw[setAll_at f hf t _ (fun q hq=>by obtain ⟨j,_,_,rfl⟩:=(pick_mem _ _ _).1 hq;omega) k _ hx,pick_any p _ k hk,List.getElem?_mapIdx,hx];rfl
 ·rw[List.getElem?_eq_none (by rw[setAll_len];omega),List.getElem?_eq_none (by rw[List.length_mapIdx];omega)]
end
def Grew (w w' :World):Prop:=∃q os,w' =Sort.grow (w.drewN q) os
theorem Grew.refl (w:World):Grew w w:=⟨0,#[],by rw[Sort.grow_empty];rfl⟩
theorem Grew.alloc {w w1:World} (h:Grew w w1) (o:Obj):Grew w (w1.alloc o):=by
 obtain ⟨q,os,rfl⟩:=h
 exact ⟨q,os++ #[o],by rw[Sort.alloc_eq_grow,Sort.grow_grow]⟩
theorem Grew.drewN {w w1:World} (h:Grew w w1) (m:Nat):Grew w (w1.drewN m):=by
 obtain ⟨q,os,rfl⟩:=h
 refine ⟨q+m,os,?_⟩
 show Sort.grow ((w.drewN q).drewN m) os=_
 rw[World.drewN_drewN]
theorem Grew.trans {w w1 w2:World} (h:Grew w w1) (k:Grew w1 w2):Grew w w2:=by
 obtain ⟨q,os,rfl⟩:=k
 obtain ⟨q',os',e⟩:=h.drewN q
 exact ⟨q',os' ++os,by rw[e,Sort.grow_grow]⟩
theorem Grew.below {w w' :World} (h:Grew w w'):Below w.heap.size w w' :=by
 obtain ⟨q,os,rfl⟩:=h
 exact ⟨rfl,rfl,rfl,by simp[Sort.grow],fun i hi=>by exact Sort.heap_grow_old (w.drewN q) os hi⟩
def RetBG (w:World) (b:Bool) (e:Ending) (w' :World):Prop:=e=.returned (.bool b)∧Grew w w'
theorem own_cap {w0 w:World} {e size n d m:Nat} {B:Option Addr} {xs:List Value} (h:Own w0 w e size (.slice B n d) m xs):n=m∧m≤d∧Rd w size B m xs:=by
 rcases h.1.2 with ⟨hv,hn⟩ | ⟨g,cap,cur,hv,_,_,hc,_⟩
 ·injection hv with e1 e2 e3
  subst e1 e2 e3 hn
  have hx:xs= []:=List.eq_nil_of_length_eq_zero (by simpa using h.1.1)
  subst hx
  exact ⟨rfl,Nat.le_refl _,Rd.none_⟩
 ·injection hv with e1 e2 e3
  subst e1 e2 e3
  exact ⟨rfl,hc,own_rd h⟩
theorem own_room {w0 w:World} {e size n:Nat} {v:Value} {xs:List Value} (h:Own w0 w e size v n xs):∃B d,v=.slice B n d∧n≤d∧Rd w size B n xs:=by
 obtain ⟨B,d,rfl,_⟩:=h.form
 obtain ⟨_,h2,h3⟩:=own_cap h
 exact ⟨B,d,rfl,h2,h3⟩
section
variable {τ:Type} {K:Nat} {code:τ→List Value}
theorem rd_first (hcode:∀x,(code x).length=K) (hK:0<K) {w:World} {A:Option Addr} {n:Nat} {l:List τ} (hr:Rd w K A n (l.flatMap code)) (k:Nat) (hk:k≤n):Rd w K A k ((l.take k).flatMap code):=by
 have hl:=Rd.len hcode hr hK
 refine ⟨?_,fun h0=>?_⟩
 ·rw[flat_len hcode,List.length_take,hl,Nat.min_eq_left hk]
 ·obtain ⟨b,off,e,hc⟩:=hr.2 (by omega)
  refine ⟨b,off,e,fun j u hu=>hc j u ?_⟩
  have e2:l.flatMap code=(l.take k).flatMap code++(l.drop k).flatMap code:=by rw[←List.flatMap_append,List.take_append_drop]
  rw[e2,List.getElem?_append_left (List.getElem?_eq_some_iff.1 hu).1];exact hu
end
section
variable {w0 w w' :World} {g g' e size n i:Nat} {t:TypeId} {xs:Array Value} {ys:List Value} {v u:Value} {r:Option Nat}
theorem Blk.grown (h:Blk w g t xs) (hg:w.grownBy w' r) (hr:r≠some g):Blk w' g t xs:=by
 obtain ⟨_,_,_,_,hb⟩:=hg
 exact (hb g h.lt (fun e=>hr e.symm)).trans h
theorem heap_set_ne (w:World) (hne:g' ≠g) (i:Nat) (u:Value):(w.setCell ⟨g',i,none⟩ u).heap[g]?=w.heap[g]?:=by
 unfold World.setCell;simp[Array.getElem?_modify,hne]
theorem Blk.beside (h:Blk w g t xs) (hne:g' ≠g) (i:Nat) (u:Value):Blk (w.setCell ⟨g',i,none⟩ u) g t xs:=(heap_set_ne w hne i u).trans h
theorem Own.set_ne (h:Own w0 w e size v n ys) (hg:w0.heap.size≤g) (hne:v.ownBlock≠some g) (i:Nat) (u:Value):Own w0 (w.setCell ⟨g,i,none⟩ u) e size v n ys:=by
 refine ⟨⟨h.1.1,?_⟩,h.2.setCell hg u⟩
 rcases h.1.2 with hv | ⟨k,cap,cur,hv,hk,hh,hrest⟩
 ·exact .inl hv
 ·refine .inr ⟨k,cap,cur,hv,hk,?_,hrest⟩
  rw[heap_set_ne w (fun e=>hne (by rw[hv,←e];rfl))];exact hh
theorem Rd.set_ne {k:Nat} {B:Option Addr} (h:Rd w k B n ys) (hne:∀b off,B=some ⟨b,off,none⟩→b≠g) (i:Nat) (u:Value):Rd (w.setCell ⟨g,i,none⟩ u) k B n ys:=h.set_other hne i u
theorem own_ne {B:Option Addr} {d m:Nat} (h:(Value.slice B m d).ownBlock≠some g):∀b off,B=some ⟨b,off,none⟩→b≠g:=by
 rintro b off rfl e
 subst e
 exact h rfl
theorem grown_ne {v' :Value} (hat:v'.ownBlock=v.ownBlock∨v'.ownBlock=some w.heap.size) (hv:v.ownBlock≠some g) (hg:g<w.heap.size):v'.ownBlock≠some g:=by
 rcases hat with h | h
 ·rw[h];exact hv
 ·rw[h];intro e;injection e with e;omega
theorem Own.ne_old (h:Own w0 w e size v n ys) (hg:g<w0.heap.size):v.ownBlock≠some g:=by
 intro e
 have:=h.base g e
 omega
end
def sortZ (l:List Int):List Int:=l.mergeSort (fun x y=>decide (x≤y))
theorem sort_perm (l:List Int):(sortZ l).Perm l:=List.mergeSort_perm _ _
theorem sort_sorted (l:List Int):(sortZ l).Pairwise (· ≤·):=by
 have:=List.pairwise_mergeSort (le:=fun x y:Int=>decide (x≤y)) (by simp;omega) (by simp;omega) l
 simpa [sortZ] using this
theorem sort_len (l:List Int):(sortZ l).length=l.length:=(sort_perm l).length_eq
theorem zs_map (l:List Int):zs l=l.map (Value.int .i64):=by
 induction l with
 | nil=>rfl
 | cons x l ih=>unfold zs at *;rw[List.flatMap_cons,ih];rfl
theorem zs_taken (xs:List Int) (k:Nat):(zs xs).take k=zs (xs.take k):=by rw[zs_map,zs_map,List.map_take]
theorem own_first {w0 w:World} {e n d:Nat} {B:Option Addr} {xs:List Value} (h:Own w0 w e 1 (.slice B n d) n xs) (k:Nat) (hk:k≤n):Own w0 w e 1 (.slice B k d) k (xs.take k):=by
 refine ⟨⟨by have:=h.1.1;simp at this ⊢;omega,?_⟩,h.2⟩
 rcases h.1.2 with ⟨hv,hn⟩ | ⟨g,cap,cur,hv,hb,hc,hnc,hm,hs,ht⟩
 ·injection hv with e1 e2 e3
  subst e1 e2 e3
  obtain rfl:k=0:=by omega
  exact .inl ⟨rfl,rfl⟩
 ·injection hv with e1 e2 e3
  subst e1 e3
  refine .inr ⟨g,d,cur,rfl,hb,hc,by omega,hm,hs,?_⟩
  have:=congrArg (List.take k) ht
  rw[List.take_take,Nat.min_eq_left (by omega)]at this
  simpa using this
theorem sort_own (w0 w:World) (v:Value) (n:Nat) (l:List Int) (ho:Own w0 w 3 1 v n (zs l)) (hn:n≤1000000):
  Calls Tryz.prog 94 #[v] w fun e w' =>e=.returned (.tuple #[])∧Own w0 w' 3 1 v n (zs (sortZ l)):=by
 have hl:l.length=n:=by have:=ho.1.1;rw[zs_map,List.length_map]at this;omega
 rcases ho.1.2 with ⟨rfl,rfl⟩ | ⟨g,cap,cur,rfl,hbase,hb,hnc,hcap,hsz,htk⟩
 ·obtain rfl:l= []:=List.eq_nil_of_length_eq_zero hl
  refine (Srt.slices_Sort_int_none _ _ w).mono ?_
  rintro e w' ⟨rfl,rfl⟩
  exact ⟨rfl,by have:sortZ []= []:=List.eq_nil_of_length_eq_zero (sort_len []);rw[this];exact ho⟩
 ·subst hl
  rw[zs_map,Nat.mul_one]at htk
  have hg:g<w.heap.size:=(Array.getElem?_eq_some_iff.1 hb).1
  refine (Srt.slices_Sort_int g 0 cap l w (holds_of_blockI hb htk) hg (by omega)).mono ?_
  rintro e w' ⟨rfl,q,os,rfl⟩
  refine ⟨rfl,?_,?_⟩
  ·rw [zs_map]
   exact ownsRow_sortedI (ts:=sortZ l) (sort_len l) hbase hb hnc hcap (by rw[hsz])
  ·exact ho.grown (grownBy_sortedI (w:=w) (g:=g) (n:=q) (os:=os) _)
theorem compact_own (w0 w:World) (v:Value) (n:Nat) (l:List Int) (ho:Own w0 w 3 1 v n (zs l)) (hn:n≤1000000):
  Calls Tryz.prog 95 #[v] w fun e w' =>∃v',e=.returned v' ∧Own w0 w' 3 1 v' (Lib.compact l).length (zs (Lib.compact l)):=by
 have hl:l.length=n:=by have:=ho.1.1;rw[zs_map,List.length_map]at this;omega
 have hcl:(Lib.compact l).length≤l.length:=by
  unfold Lib.compact Lib.compactUpTo
  rw[List.length_map]
  have:=List.length_filter_le (Lib.keeps l.toArray) (List.range l.length)
  simpa using this
 rcases ho.1.2 with ⟨rfl,rfl⟩ | ⟨g,cap,cur,rfl,hbase,hb,hnc,hcap,hsz,htk⟩
 ·obtain rfl:l= []:=List.eq_nil_of_length_eq_zero hl
  refine (Srt.slices_Compact_int_empty _ _ w).mono ?_
  rintro e w' ⟨rfl,rfl⟩
  exact ⟨_,rfl,ho⟩
 ·subst hl
  rw[zs_map,Nat.mul_one]at htk
  refine (Srt.slices_Compact_int g 0 cap l w (holds_of_blockI hb htk) (by omega) hnc).mono ?_
  rintro e w' ⟨rfl,q,rfl⟩
  refine ⟨_,rfl,?_⟩
  have hlen:(Lib.compact l++List.replicate (l.length - (Lib.compact l).length) 0).length=l.length:=by rw[List.length_append,List.length_replicate];omega
  have h1:Own w0 (Sort.putRow (Value.int .i64) (Sort.ahead w q) g 0 (Lib.compact l++List.replicate (l.length - (Lib.compact l).length) 0).toArray) 3 1 (.slice (some ⟨g,0,none⟩) l.length cap) l.length (zs (Lib.compact l++List.replicate (l.length - (Lib.compact l).length) 0)):=by
   have e0:=Sort.grow_empty (Sort.putRow (Value.int .i64) (Sort.ahead w q) g 0 (Lib.compact l++List.replicate (l.length - (Lib.compact l).length) 0).toArray)
   rw[←e0]
   refine ⟨?_,ho.grown (grownBy_sortedI (w:=w) (g:=g) (n:=q) (os:=#[]) _)⟩
   rw[zs_map]
   exact ownsRow_sortedI hlen hbase hb hnc hcap (by rw[hsz])
  have h2:=own_first h1 (Lib.compact l).length hcl
  rw[zs_taken,List.take_left]at h2
  exact h2
theorem strict_eq (a b:List Int) (ha:a.Pairwise (· < ·)) (hb:b.Pairwise (· < ·)) (h:∀x,x∈a↔x∈b):a=b:=by
 refine List.Perm.eq_of_pairwise (le:=(· ≤·)) (fun _ _ _ _ h1 h2=>Int.le_antisymm h1 h2) (ha.imp Int.le_of_lt) (hb.imp Int.le_of_lt) ?_
 exact (List.perm_ext_iff_of_nodup (ha.imp (fun h e=>by omega)) (hb.imp (fun h e=>by omega))).2 h
theorem pick_strict (p:Nat→Bool) (n:Nat):(pick p n).Pairwise (· < ·):=by
 unfold pick
 rw[List.pairwise_map]
 refine (List.pairwise_lt_range.filter p).imp ?_
 intro a b h
 exact Int.ofNat_lt.2 h
theorem compact_some (d:Array Int) (hs:∀i j,i≤j→j<d.size→d[i]! ≤d[j]!) (m:Nat) (hm:m≤d.size):
  (Lib.compactUpTo d m).Pairwise (· < ·)∧∀x,x∈Lib.compactUpTo d m↔∃j,j<m∧d[j]! =x:=by
 induction m with
 | zero=>exact ⟨by simp[Lib.compactUpTo],by simp[Lib.compactUpTo]⟩
 | succ m ih=>
  obtain ⟨h1,h2⟩:=ih (by omega)
  rw[Lib.compactUpTo_succ]
  by_cases hk:Lib.keeps d m=true
  ·rw [if_pos hk]
   refine ⟨List.pairwise_append.2 ⟨h1,by simp,?_⟩,?_⟩
   ·intro x hx y hy
    rw[List.mem_singleton]at hy
    subst hy
    obtain ⟨j,hj,rfl⟩:=(h2 x).1 hx
    have g1:=hs j (m - 1) (by omega) (by omega)
    have g2:=hs (m - 1) m (by omega) (by omega)
    unfold Lib.keeps at hk
    have hk2:m=0∨d[m]! ≠d[m - 1]! :=by simpa using hk
    omega
   ·intro x
    rw[List.mem_append,List.mem_singleton,h2]
    constructor
    ·rintro (⟨j,hj,e⟩ | e)
     ·exact ⟨j,by omega,e⟩
     ·exact ⟨m,by omega,e.symm⟩
    ·rintro ⟨j,hj,e⟩
     by_cases e2:j=m
     ·subst e2;exact .inr e.symm
     ·exact .inl ⟨j,by omega,e⟩
  ·rw [if_neg hk,List.append_nil]
   refine ⟨h1,fun x=>?_⟩
   rw[h2]
   have hk2:¬(m=0∨d[m]! ≠d[m - 1]!):=by unfold Lib.keeps at hk;simpa using hk
   constructor
   ·rintro ⟨j,hj,e⟩;exact ⟨j,by omega,e⟩
   ·rintro ⟨j,hj,e⟩
    by_cases e2:j=m
    ·subst e2
     refine ⟨j - 1,by omega,?_⟩
     rw[←e]
     by_cases e3:d[j]! =d[j - 1]!
     ·exact e3.symm
     ·exact absurd (.inr e3) hk2
    ·exact ⟨j,by omega,e⟩
theorem compact_sorted (s:List Int) (hs:s.Pairwise (· ≤·)):(Lib.compact s).Pairwise (· < ·)∧∀x,x∈Lib.compact s↔x∈s:=by
 have hget:∀i,i<s.length→∃h:i<s.length,s.toArray[i]! =s[i]:=fun i hi=>⟨hi,by simp[hi]⟩
 have :=compact_some s.toArray (fun i j hij hj=>by
  have hj' :j<s.length:=by simpa using hj
  obtain ⟨_,e1⟩:=hget i (by omega)
  obtain ⟨_,e2⟩:=hget j hj'
  rw[e1,e2]
  rcases Nat.lt_or_eq_of_le hij with h | h
  ·exact List.pairwise_iff_getElem.1 hs i j (by omega) hj' h
  ·subst h;exact Int.le_refl _) s.length (by simp)
 refine ⟨this.1,fun x=>?_⟩
 unfold Lib.compact
 rw[this.2,List.mem_iff_getElem]
 constructor
 ·rintro ⟨j,hj,e⟩
  obtain ⟨h,e1⟩:=hget j hj
  exact ⟨j,h,by rw[←e1];exact e⟩
 ·rintro ⟨j,hj,e⟩
  obtain ⟨_,e1⟩:=hget j hj
  exact ⟨j,hj,by rw[e1];exact e⟩
theorem compact_pick (l:List Int) (p:Nat→Bool) (n:Nat) (h:∀x,x∈l↔∃k:Nat,k<n∧p k=true∧x=(k:Int)):Lib.compact (sortZ l)=pick p n:=by
 obtain ⟨h1,h2⟩:=compact_sorted (sortZ l) (sort_sorted l)
 refine strict_eq _ _ h1 (pick_strict p n) (fun x=>?_)
 rw[h2,(sort_perm l).mem_iff,h,pick_mem]
structure Fr (K:Nat→Nat→Prop) (w w' :World):Prop where
 size:w.heap.size≤w'.heap.size
 shape:∀(b:Nat) (cur:Array Value) (t:TypeId) (fz:Nat × Nat),w.heap[b]?=some (Obj.cells cur t fz)→∃cur' :Array Value,w'.heap[b]?=some (Obj.cells cur' t fz)∧cur'.size=cur.size
 cells:∀b i,K b i→w'.cell? ⟨b,i,none⟩=w.cell? ⟨b,i,none⟩
section
variable {K:Nat→Nat→Prop} {w w' w2:World}
theorem Fr.refl (K:Nat→Nat→Prop) (w:World):Fr K w w:=⟨Nat.le_refl _,fun _ cur _ _ h=>⟨cur,h,rfl⟩,fun _ _ _=>rfl⟩
theorem Fr.trans (h:Fr K w w') (k:Fr K w' w2):Fr K w w2:=
 ⟨Nat.le_trans h.size k.size,fun b cur t fz hb=>by
  obtain ⟨c1,h1,e1⟩:=h.shape b cur t fz hb
  obtain ⟨c2,h2,e2⟩:=k.shape b c1 t fz h1
  exact ⟨c2,h2,e2.trans e1⟩,fun b i hk=>(k.cells b i hk).trans (h.cells b i hk)⟩
theorem Fr.sub {K2:Nat→Nat→Prop} (h:Fr K w w') (hs:∀b i,K2 b i→K b i):Fr K2 w w' :=⟨h.size,h.shape,fun b i hk=>h.cells b i (hs b i hk)⟩
theorem heap_lt {b:Nat} {o:Obj} (h:w.heap[b]?=some o):b<w.heap.size:=(Array.getElem?_eq_some_iff.1 h).1
theorem Fr.of_below (hb:Below w.heap.size w w') (hK:∀b i,K b i→b<w.heap.size):Fr K w w' :=
 ⟨hb.size,fun b cur _ _ h=>⟨cur,(hb.block b (heap_lt h)).trans h,rfl⟩,fun b i hk=>World.cell?_of_block (hb.block b (hK b i hk))⟩
theorem Fr.of_set (g i:Nat) (u:Value) (hK:∀i,¬K g i):Fr K w (w.setCell ⟨g,i,none⟩ u):=by
 refine ⟨by simp[World.setCell],fun b cur t fz h=>?_,fun b j hk=>cell_set_ne (fun e=>hK j (by have:g=b:=e;rw[this];exact hk)) u⟩
 by_cases e:g=b
 ·subst e
  refine ⟨cur.setIfInBounds i u,?_,by simp⟩
  simp[World.setCell,Array.getElem?_modify,h]
 ·exact ⟨cur,(heap_set_ne w e i u).trans h,rfl⟩
end
def Moved (w w' :World) (v v' :Value) (n n' :Nat):Prop:=
 (∃g c,v=.slice (some ⟨g,0,none⟩) n c∧v' =.slice (some ⟨g,0,none⟩) n' c∧w.grownBy w' (some g))∨(w.grownBy w' none∧∀k,v'.ownBlock=some k→w.heap.size≤k)
theorem grown_below {w w' :World} (h:w.grownBy w' none):Below w.heap.size w w' :=⟨h.os,h.tape,h.output,h.size,fun i hi=>h.block i hi (by simp)⟩
theorem Moved.blk {w w' :World} {v v' :Value} {n n' g:Nat} {t:TypeId} {xs:Array Value} (h:Moved w w' v v' n n') (hb:Blk w g t xs) (hne:v.ownBlock≠some g):Blk w' g t xs:=by
 rcases h with ⟨q,c,rfl,rfl,hg⟩ | ⟨hg,_⟩
 ·exact (hg.block g hb.lt (fun e=>hne (by rw[e];rfl))).trans hb
 ·exact (hg.block g hb.lt (by simp)).trans hb
theorem Moved.own {w0 w w' :World} {v v' u:Value} {n n' e size m:Nat} {xs:List Value} (h:Moved w w' v v' n n') (ho:Own w0 w e size u m xs) (hne:u.ownBlock=none∨v.ownBlock=none∨u.ownBlock≠v.ownBlock) (hb:Below w0.heap.size w0 w'):Own w0 w' e size u m xs:=by
 refine ⟨?_,hb⟩
 rcases h with ⟨q,c,rfl,rfl,hg⟩ | ⟨hg,_⟩
 ·exact ho.1.kept hg (by
   rcases hne with h | h | h
   ·exact .inl h
   ·cases h
   ·exact .inr h)
 ·exact ho.1.kept hg (by cases hv:u.ownBlock <;> simp)
theorem Moved.ne {w w' :World} {v v' :Value} {n n' g:Nat} (h:Moved w w' v v' n n') (hg:g<w.heap.size) (hne:v.ownBlock≠some g):v'.ownBlock≠some g:=by
 rcases h with ⟨q,c,rfl,rfl,_⟩ | ⟨_,hn⟩
 ·exact hne
 ·intro e
  have:=hn g e
  omega
section
variable {P:Program} {w:World}
theorem run_append_moved (w0:World) {t ty e:TypeId} {size bytes:Nat} (hT:SliceT P t e size bytes) (v:Value) (n:Nat) (xs:List Value) (hown:Own w0 w e size v n xs)
  (a:Addr) (m c:Nat) (news:List Value) (hl:news.length=m * size) (hnews:∀j u,news[j]?=some u→w.cell? (a.add j)=some u) (h1:∀u∈news,u.oneCell' =true)
  (h63:n+m≤maxLen) (hbytes:(n+m) * bytes≤140737488355328) (hm0:0<m):
  ∃v' w',(Builtin.append_ #[t,t] ty #[v,.slice (some a) m c]).run P w=.ok v' w' ∧Own w0 w' e size v' (n+m) (xs++news)∧Moved w w' v v' n (n+m):=by
 obtain ⟨i,z,ht,hi,hz,hsize,hby,hzs,hsz⟩:=hT
 subst hsize
 subst hby
 have hsmall:n+m≤9223372036854775807:=by simp only[maxLen]at h63;omega
 have hlen:(xs++news).length=(n+m) * i.size:=by rw[List.length_append,hown.1.1,hl,Nat.add_mul]
 have grown:∀(old:Nat),old<n+m→
   (w.drew.alloc (.cells (xs.toArray++news.toArray++Builtin.zeroCells z.cells (grownCap w (n+m) old e - (n+m))) e)).ownsRow w0.heap.size e i.size
    (.slice (some ⟨w.heap.size,0,none⟩) (n+m) (grownCap w (n+m) old e)) (n+m) (xs++news)∧
   w.grownBy (w.drew.alloc (.cells (xs.toArray++news.toArray++Builtin.zeroCells z.cells (grownCap w (n+m) old e - (n+m))) e)) none:=by
  intro old ho
  have hge:=grownCap_ge w (n+m) old e
  have hcm:grownCap w (n+m) old e≤maxLen:=grownCap_le_maxLen w (n+m) old e h63
  refine ⟨⟨hlen,.inr ⟨w.heap.size,_,_,rfl,hown.2.size,heap_alloc_new w.drew _,hge,hcm,?_,?_⟩⟩,⟨rfl,rfl,rfl,by simp,fun k hk _=>heap_alloc_old w.drew _ hk⟩⟩
  ·simp only[Array.size_append,List.size_toArray,size_zeroCells,hzs,hown.1.1,hl,←Nat.add_mul]
   congr 1
   omega
  ·simp only[Array.toList_append,List.append_assoc]
   rw[←List.append_assoc,←hlen]
   exact List.take_left
 have fin:∀v' w',w'.ownsRow w0.heap.size e i.size v' (n+m) (xs++news)→w.grownBy w' none→Own w0 w' e i.size v' (n+m) (xs++news):=fun v' w' h1 h2=>⟨h1,bl_trans hown.2 (grown_below h2)⟩
 rcases hown.1.2 with ⟨rfl,rfl⟩ | ⟨g,cap,cur,rfl,hbg,hg,hnc,hcm,hcs,htake⟩
 ·have hx:xs= []:=List.eq_nil_of_length_eq_zero (by simpa using hown.1.1)
  subst hx
  have hr:=_root_.Go.run_append_nil (P:=P) w t ty e i z ht hi hz a m c news hl hnews (by omega) (by omega) (by have hb:=hbytes;simp only[Nat.zero_add]at hb;omega)
  have hgr:=grown 0 (by omega)
  simp only[Nat.zero_add,List.nil_append,Array.empty_append]at hgr fin ⊢
  exact ⟨_,_,hr,fin _ _ hgr.1 hgr.2,.inr ⟨hgr.2,fun k hk=>by injection hk with hk;show w.heap.size≤k;rw[←hk];exact Nat.le_refl _⟩⟩
 ·by_cases hroom:n+m≤cap
  ·have hfit:n * i.size+news.length≤cur.size:=by rw[hl,hcs,←Nat.add_mul];exact Nat.mul_le_mul_right _ hroom
   have hr:=run_append_room (P:=P) w t ty e i ht hi g n cap cur hg a m c news hl hnews h1 hroom hfit
   have hgw:w.grownBy (w.setRow g (cur.toList.take (n * i.size)++news++cur.toList.drop (n * i.size+news.length)).toArray) (some g):=
    ⟨rfl,rfl,rfl,by simp,fun k _ hk=>setRow_other w g k _ (fun e=>hk (by rw[e]))⟩
   refine ⟨_,_,hr,⟨⟨hlen,.inr ⟨g,cap,_,rfl,hbg,setRow_heap w g cur _ e _ hg,hroom,hcm,?_,?_⟩⟩,hown.grown hgw⟩,.inl ⟨g,cap,rfl,rfl,hgw⟩⟩
   ·simp only[List.size_toArray,List.length_append,List.length_take,List.length_drop,Array.length_toList]
    omega
   ·rw [htake,←hlen]
    exact List.take_left
  ·have holds:∀j u,xs[j]?=some u→w.cell? ((⟨g,0,none⟩:Addr).add j)=some u:=hown.1.cells (g:=g) rfl
   have hr:=run_append_grow (P:=P) w t ty e i z ht hi hz ⟨g,0,none⟩ n cap xs hown.1.1 holds a m c news hl hnews (by omega) (by omega) (growslice_fits (by omega) hbytes)
   have hgr:=grown cap (by omega)
   exact ⟨_,_,hr,fin _ _ hgr.1 hgr.2,.inr ⟨hgr.2,fun k hk=>by injection hk with hk;show w.heap.size≤k;rw[←hk];exact Nat.le_refl _⟩⟩
theorem wp_append_moved {o:Oper} {a:Act} {K:Act→World→Prop} {Q:Exit→Act→World→Prop} (s x:Operand) (t:TypeId)
  (ho:o.op=.call { callee:=.builtin .append,args:=#[s,x],argTypes:=#[t,t] })
  {e:TypeId} {size bytes:Nat} (hT:SliceT P t e size bytes) (w0:World) (v:Value) (n:Nat) (xs:List Value) (hs:a.eval s=v) (hown:Own w0 w e size v n xs)
  (A:Option Addr) (m c:Nat) (news:List Value) (hx:a.eval x=.slice A m c) (hr:Rd w size A m news) (h1:∀u∈news,u.oneCell' =true)
  (hb:(n+m) * bytes≤140737488355328) (h63:n+m≤9223372036854775807) (hm0:0<m)
  (h:∀v' w',Own w0 w' e size v' (n+m) (xs++news)→Moved w w' v v' n (n+m)→K (a.put o.dst v') w'):o.wp P a w K Q:=by
 obtain ⟨b,off,rfl,hc⟩:=hr.2 hm0
 obtain ⟨v',w',hrun,h2,h3⟩:=run_append_moved (P:=P) (ty:=o.type) w0 hT v n xs hown ⟨b,off,none⟩ m c news hr.1 (fun j u hu=>by rw[add_plain];exact hc j u hu) h1 (by unfold maxLen;omega) hb hm0
 unfold Oper.wp execOp
 simp only[ho,resolve,invoke,builtin,Sem.run_bind,Sem.run_pure,Result.andThen_ok,List.map_toArray,List.map_cons,List.map_nil,hs,hx,hrun]
 exact h v' w' h2 h3
theorem append_moved {ops:Array Oper} {rest:List Oper} {o:Oper} {a:Act} {Q:Exit→Act→World→Prop} (hgd:o.guard=none) (s x:Operand) (t:TypeId)
  (ho:o.op=.call { callee:=.builtin .append,args:=#[s,x],argTypes:=#[t,t] })
  {e:TypeId} {size bytes:Nat} (hT:SliceT P t e size bytes) (w0:World) (v:Value) (n:Nat) (xs:List Value) (hs:a.eval s=v) (hown:Own w0 w e size v n xs)
  (A:Option Addr) (m c:Nat) (news:List Value) (hx:a.eval x=.slice A m c) (hr:Rd w size A m news) (h1:∀u∈news,u.oneCell' =true)
  (hb:(n+m) * bytes≤140737488355328) (h63:n+m≤9223372036854775807) (hm0:0<m)
  (h:∀v' w',Own w0 w' e size v' (n+m) (xs++news)→Moved w w' v v' n (n+m)→wpList P ops Q rest (a.put o.dst v') w'):wpList P ops Q (o::rest) a w:=
 wpList_plain hgd fun _ hK=>wp_append_moved s x t ho hT w0 v n xs hs hown A m c news hx hr h1 hb h63 hm0 fun v' w' h2 h3=>hK _ _ (h v' w' h2 h3)
theorem append_moved_step {ops:Array Oper} {o:Oper} {a:Act} {K:Act→World→Prop} {Q:Exit→Act→World→Prop} {E:Prop} (hgd:o.guard=none) (s x:Operand) (t:TypeId)
  (ho:o.op=.call { callee:=.builtin .append,args:=#[s,x],argTypes:=#[t,t] })
  {e:TypeId} {size bytes:Nat} (hT:SliceT P t e size bytes) (w0:World) (v:Value) (n:Nat) (xs:List Value) (hs:a.eval s=v) (hown:Own w0 w e size v n xs)
  (A:Option Addr) (m c:Nat) (news:List Value) (hx:a.eval x=.slice A m c) (hr:Rd w size A m news) (h1:∀u∈news,u.oneCell' =true)
  (hb:(n+m) * bytes≤140737488355328) (h63:n+m≤9223372036854775807) (hm0:0<m)
  (h:∀v' w',Own w0 w' e size v' (n+m) (xs++news)→Moved w w' v v' n (n+m)→K (a.put o.dst v') w'):
  if Region.wanted o (yielded ops a.tmps)=true then Oper.wp P o a w K Q else E:=by
 have hw:Region.wanted o (yielded ops a.tmps)=true:=by simp[Region.wanted,hgd]
 rw[if_pos hw]
 exact wp_append_moved s x t ho hT w0 v n xs hs hown A m c news hx hr h1 hb h63 hm0 h
end
end Go.Proofs.YtgghaodcfgbjlaaGreat.Mem
namespace Go.Proofs.YtgghaodcfgbjlaaGreat.Heap
open Go.ChangeShapes Go.WideShapes Go.ChangeAt Go.RowKit
structure Cell where
 live:Bool
 value:Int
 deriving DecidableEq,Inhabited
def cc (c:Cell):List Value:= [.bool c.live,.int .i64 c.value]
def cs (h:List Cell):List Value:=h.flatMap cc
theorem cs_len (h:List Cell):(cs h).length=h.length * 2:=by
 induction h with
 | nil=>rfl
 | cons c h ih=>simp[cs,cc]at *;omega
theorem cs_0 (h:List Cell) (k:Nat) (hk:k<h.length):(cs h)[k * 2]?=some (.bool (h[k]'hk).live):=by
 induction h generalizing k with
 | nil=>simp at hk
 | cons c h ih=>
  cases k with
  | zero=>rfl
  | succ k=>
   have:(k+1) * 2=k * 2+2:=by omega
   rw[this]
   simpa [cs,cc] using ih k (by simpa using hk)
theorem cs_1 (h:List Cell) (k:Nat) (hk:k<h.length):(cs h)[k * 2+1]?=some (.int .i64 (h[k]'hk).value):=by
 induction h generalizing k with
 | nil=>simp at hk
 | cons c h ih=>
  cases k with
  | zero=>rfl
  | succ k=>
   have:(k+1) * 2+1=k * 2+1+2:=by omega
   rw[this]
   simpa [cs,cc] using ih k (by simpa using hk)
theorem at_cell {w:World} {A:Option Addr} {n:Nat} {h:List Cell} (hr:Mem.Rd w 2 A n (cs h)) (k:Nat) (hk:k<n):
  ∃b off,∃x:Cell,A=some ⟨b,off,none⟩∧h[k]?=some x∧w.cell? ⟨b,off+k * 2,none⟩=some (.bool x.live)∧w.cell? ⟨b,off+k * 2+1,none⟩=some (.int .i64 x.value):=by
 have hl:h.length=n:=by have:=hr.1;rw[cs_len]at this;omega
 obtain ⟨b,off,rfl,hc⟩:=hr.2 (by omega)
 have hkl:k<h.length:=by omega
 exact ⟨b,off,h[k],rfl,List.getElem?_eq_getElem hkl,hc _ _ (cs_0 h k hkl),by rw[Nat.add_assoc];exact hc _ _ (cs_1 h k hkl)⟩
def vB (n:Int):Bool:=decide (-2147483648≤n∧n≤2147483647)
def cellB (c:Cell):Bool:=vB c.value && (c.live || c.value==0)
def rightB (h:List Cell):Bool:=decide (0<h.length∧h.length<65) && h.all cellB
theorem take_all {α:Type} (h:List α) (p:α→Bool) (k:Nat) (x:α) (hk:h[k]?=some x):(h.take (k+1)).all p=((h.take k).all p && p x):=by
 obtain ⟨hl,rfl⟩:=List.getElem?_eq_some_iff.1 hk
 rw[List.take_succ_eq_append_getElem hl,List.all_append];simp
theorem right_bad (h:List Cell) (k:Nat) (x:Cell) (hk:h[k]?=some x) (hb:cellB x=false):rightB h=false:=by
 obtain ⟨hl,rfl⟩:=List.getElem?_eq_some_iff.1 hk
 unfold rightB
 rw[Bool.and_eq_false_iff];right
 rw[List.all_eq_false]
 exact ⟨h[k],List.getElem_mem hl,by simp[hb]⟩
def setAt (h:List Cell) (at_:Int) (c:Cell):List Cell:=if at_<0 then h else h.set at_.toNat c
theorem setAt_len (h:List Cell) (a:Int) (c:Cell):(setAt h a c).length=h.length:=by unfold setAt;split <;> simp
theorem setAt_at (h:List Cell) (k:Nat) (c x:Cell) (hk:h[k]?=some x):(setAt h (k:Int) c)[k]?=some c:=by
 obtain ⟨hl,rfl⟩:=List.getElem?_eq_some_iff.1 hk
 unfold setAt;rw[if_neg (by omega)];simp[hl]
theorem setAt_ne (h:List Cell) (a:Int) (k:Nat) (c x:Cell) (hk:h[k]?=some x) (hne:(k:Int)≠a):(setAt h a c)[k]?=some x:=by
 unfold setAt;split
 ·exact hk
 ·rw[List.getElem?_set_ne (by omega)];exact hk
theorem cs_take (h:List Cell) (k:Nat) (x:Cell) (hk:h[k]?=some x):cs (h.take (k+1))=cs (h.take k)++cc x:=by
 rw[List.take_add_one,hk];simp[cs]
def liveAt (h:List Cell) (cell:Int):Bool:=if cell<0 then false else (h[cell.toNat]?.map Cell.live).getD false
def valAt (h:List Cell) (cell:Int):Int:=(h[cell.toNat]?.map Cell.value).getD 0
theorem live_at (h:List Cell) (k:Nat) (x:Cell) (hk:h[k]?=some x):liveAt h (k:Int)=x.live:=by
 unfold liveAt;rw[if_neg (by omega)];simp[hk]
theorem val_at (h:List Cell) (k:Nat) (x:Cell) (hk:h[k]?=some x):valAt h (k:Int)=x.value:=by
 unfold valAt;simp[hk]
theorem live_in (h:List Cell) (cell:Int) (hl:liveAt h cell=true):0≤cell∧cell.toNat<h.length∧∃x,h[cell.toNat]?=some x∧x.live=true:=by
 unfold liveAt at hl
 split at hl
 ·cases hl
 ·rename_i hc
  cases hx:h[cell.toNat]? with
  | none=>simp[hx]at hl
  | some x=>simp[hx]at hl;exact ⟨by omega,(List.getElem?_eq_some_iff.1 hx).1,x,rfl,hl⟩
theorem live_out (h:List Cell) (cell:Int) (hc:cell<0∨(h.length:Int)≤cell):liveAt h cell=false:=by
 unfold liveAt;split
 ·rfl
 ·rw[List.getElem?_eq_none (by omega)];rfl
def getS (h:List Cell) (cell:Int):Int × Int:=
 if rightB h=true then (if liveAt h cell=true then (valAt h cell,0) else (0,3)) else (0,1)
structure Write where
 cell:Int
 value:Int
 deriving DecidableEq,Inhabited
def putAll (h:List Cell) (l:List Write):List Cell:=l.foldl (fun h w=>setAt h w.cell ⟨true,w.value⟩) h
def putS (h:List Cell) (l:List Write):List Cell × Int:=
 if (rightB h && l.all (fun w=>vB w.value))=true then (if l.all (fun w=>liveAt h w.cell)=true then (putAll h l,0) else (h,3)) else (h,1)
def wc (c:Write):List Value:= [.int .i64 c.cell,.int .i64 c.value]
def ws (h:List Write):List Value:=h.flatMap wc
theorem ws_len (h:List Write):(ws h).length=h.length * 2:=by
 induction h with
 | nil=>rfl
 | cons c h ih=>simp[ws,wc]at *;omega
theorem ws_at (h:List Write) (k:Nat) (x:Write) (hk:h[k]?=some x):(ws h)[k * 2]?=some (.int .i64 x.cell)∧(ws h)[k * 2+1]?=some (.int .i64 x.value):=by
 induction h generalizing k with
 | nil=>simp at hk
 | cons c h ih=>
  cases k with
  | zero=>simp at hk;subst hk;exact ⟨rfl,rfl⟩
  | succ k=>
   have e1:(k+1) * 2=k * 2+2:=by omega
   have e2:(k+1) * 2+1=k * 2+1+2:=by omega
   rw[e1]
   obtain ⟨i1,i2⟩:=ih k (by simpa using hk)
   exact ⟨by simpa [ws,wc] using i1,by simpa [ws,wc] using i2⟩
theorem at_write {w:World} {A:Option Addr} {n:Nat} {h:List Write} (hr:Mem.Rd w 2 A n (ws h)) (k:Nat) (hk:k<n):
  ∃b off,∃x:Write,A=some ⟨b,off,none⟩∧h[k]?=some x∧w.cell? ⟨b,off+k * 2,none⟩=some (.int .i64 x.cell)∧w.cell? ⟨b,off+k * 2+1,none⟩=some (.int .i64 x.value):=by
 have hl:h.length=n:=by have:=hr.1;rw[ws_len]at this;omega
 obtain ⟨b,off,rfl,hc⟩:=hr.2 (by omega)
 have hkl:k<h.length:=by omega
 have hx:=List.getElem?_eq_getElem hkl
 obtain ⟨i1,i2⟩:=ws_at h k _ hx
 exact ⟨b,off,_,rfl,hx,hc _ _ i1,by rw[Nat.add_assoc];exact hc _ _ i2⟩
theorem putAll_take (h:List Cell) (l:List Write) (j:Nat) (x:Write) (hx:l[j]?=some x):putAll h (l.take (j+1))=setAt (putAll h (l.take j)) x.cell ⟨true,x.value⟩:=by
 rw[List.take_add_one,hx];simp[putAll]
theorem putAll_len (h:List Cell) (l:List Write):(putAll h l).length=h.length:=by
 induction l generalizing h with
 | nil=>rfl
 | cons x l ih=>simp only[putAll,List.foldl_cons]at *;rw[ih,setAt_len]
end Go.Proofs.YtgghaodcfgbjlaaGreat.Heap
namespace Go.Proofs.YtgghaodcfgbjlaaGreat.Heap
theorem set_right (h:List Cell) (a:Int) (c:Cell) (hr:rightB h=true) (hc:cellB c=true):rightB (setAt h a c)=true:=by
 unfold rightB at *
 rw[setAt_len]
 rw[Bool.and_eq_true]at *
 refine ⟨hr.1,?_⟩
 rw[List.all_eq_true]at *
 intro x hx
 unfold setAt at hx
 split at hx
 ·exact hr.2 x hx
 ·rcases List.mem_or_eq_of_mem_set hx with hx | rfl
  ·exact hr.2 x hx
  ·exact hc
theorem right_len (h:List Cell) (hr:rightB h=true):0<h.length∧h.length<65:=by
 unfold rightB at hr;rw[Bool.and_eq_true]at hr;simpa using hr.1
theorem set_live (h:List Cell) (a:Int) (v:Int) (hl:liveAt h a=true) (c:Int):liveAt (setAt h a ⟨true,v⟩) c=liveAt h c:=by
 obtain ⟨h0,h1,x,hx,hlv⟩:=live_in h a hl
 obtain ⟨k,rfl⟩:=Int.eq_ofNat_of_zero_le h0
 simp only[Int.toNat_natCast]at hx h1
 by_cases hc:0≤c
 ·obtain ⟨j,rfl⟩:=Int.eq_ofNat_of_zero_le hc
  by_cases hj:j<h.length
  ·by_cases e:j=k
   ·subst e
    rw[live_at _ j _ (setAt_at h j _ _ hx),hl]
   ·rw[live_at _ j _ (setAt_ne h k j _ _ (List.getElem?_eq_getElem hj) (by omega)),live_at _ j _ (List.getElem?_eq_getElem hj)]
  ·rw[live_out _ _ (by rw[setAt_len];omega),live_out _ _ (by omega)]
 ·rw[live_out _ _ (by omega),live_out _ _ (by omega)]
theorem putAll_right (h:List Cell) (l:List Write) (hr:rightB h=true) (hv:l.all (fun w=>vB w.value)=true):rightB (putAll h l)=true:=by
 induction l generalizing h with
 | nil=>exact hr
 | cons x l ih=>
  simp only[List.all_cons,Bool.and_eq_true]at hv
  exact ih (setAt h x.cell ⟨true,x.value⟩) (set_right h _ _ hr (by unfold cellB;simp[hv.1])) hv.2
def lastV (i:Nat) (l:List Write) (v:Int):Int:=l.foldl (fun v w=>if w.cell=(i:Int) then w.value else v) v
theorem putAll_at (h:List Cell) (l:List Write) (hl:l.all (fun w=>liveAt h w.cell)=true) (i:Nat) (x:Cell) (hx:h[i]?=some x):(putAll h l)[i]?=some ⟨x.live,lastV i l x.value⟩:=by
 induction l generalizing h x with
 | nil=>simpa [putAll,lastV] using hx
 | cons y l ih=>
  simp only[List.all_cons,Bool.and_eq_true]at hl
  have hs:=set_live h y.cell y.value hl.1
  have hl' :l.all (fun w=>liveAt (setAt h y.cell ⟨true,y.value⟩) w.cell)=true:=by
   rw[List.all_eq_true]at *
   intro z hz;rw[hs];exact hl.2 z hz
  show (putAll (setAt h y.cell ⟨true,y.value⟩) l)[i]?=_
  by_cases e:y.cell=(i:Int)
  ·have hli:=hl.1
   rw[e,live_at h i _ hx]at hli
   have:=ih (setAt h y.cell ⟨true,y.value⟩) hl' ⟨true,y.value⟩ (by rw[e];exact setAt_at h i _ _ hx)
   rw[this,hli]
   simp[lastV,e]
  ·have :=ih (setAt h y.cell ⟨true,y.value⟩) hl' x (setAt_ne h y.cell i _ _ hx (fun h=>e h.symm))
   rw[this]
   simp[lastV,e]
end Go.Proofs.YtgghaodcfgbjlaaGreat.Heap
namespace Go.Proofs.YtgghaodcfgbjlaaGreat.Heap
open Go.ChangeShapes Go.WideShapes Go.ChangeAt Go.RowKit Mem
theorem tCell:SliceT Tryz.prog 48 117 2 16:=SliceT.mk_ (z:=.agg #[.bool false,.int .i64 0]) Tryz.underlying48 (by kernel_rfl) rfl (by decide)
theorem ref01right_any (n:Int) (w:World):
  Calls Tryz.prog 125 #[.int .i64 n] w fun e w' =>e=.returned (.bool (vB n))∧w=w' :=by
 by_cases h1: -2147483648≤n
 all_goals by_cases h2:n≤2147483647
 all_goals
  go_enter Tryz.func125,Tryz.ntmps125
  go_wp2
  go_ret
  exact ⟨ret_bool (by unfold vB;simp[h1,h2]),rfl⟩
theorem right_any (h:List Cell) (A:Option Addr) (n c:Nat) (w:World) (hr:Rd w 2 A n (cs h)) (hn:n≤1000000):
  Calls Tryz.prog 65 #[.slice A n c] w fun e w' =>e=.returned (.bool (rightB h))∧w=w' :=by
 have hl:h.length=n:=by have:=hr.1;rw[cs_len]at this;omega
 have HL:=Lib.hid hl
 clear hl
 have HR:=Lib.hid hr
 clear hr
 go_enter Tryz.func65,Tryz.ntmps65
 go_wp2
 go_loop [3] (fun i=>∃k:Nat,k≤n∧i=.int .i64 k∧Hid ((h.take k).all cellB=true)) (fun i=>n - (intOf i).toNat)
 case atStart=>exact ⟨0,Nat.zero_le _,rfl,rfl⟩
 case round=>
  obtain ⟨k,hk,rfl,hall⟩:=hrel
  by_cases hlt:k<n
  ·obtain ⟨b,off,⟨lv,vl⟩,rfl,hx,c0,c1⟩:=at_cell HR.out k hlt
   have HX:=Lib.hid hx
   clear hx
   have hs:=Lib.hid (take_all h cellB k _ HX.out)
   by_cases hok:cellB ⟨lv,vl⟩=true
   ·have t1:vB vl=true:=by unfold cellB at hok;simp at hok;exact hok.1
    have t2:lv=true∨vl=0:=by unfold cellB at hok;simp at hok;exact hok.2
    have HOK:=Lib.hid hok
    clear hok
    rcases t2 with rfl | rfl
    all_goals try cases lv
    all_goals
     go_wp2_with (go_at_call 125;refine (ref01right_any _ _).mono ?_;rintro e w' ⟨rfl,rfl⟩)
     go_round
     case rel=>exact ⟨k+1,by omega,by go_num,Lib.hid (by rw[hs.out,hall.out,HOK.out];rfl)⟩
     case measure=>simp[intOf];omega
   ·have hf:rightB h=false:=right_bad h k _ HX.out (by simpa using hok)
    have HF:=Lib.hid hf
    clear hf
    by_cases t1:vB vl=true
    ·have t2:lv=false∧(vl !=0)=true:=by unfold cellB at hok;simp[t1]at hok;simpa using hok
     obtain ⟨rfl,t3⟩:=t2
     clear hok
     go_wp2_with (go_at_call 125;refine (ref01right_any _ _).mono ?_;rintro e w' ⟨rfl,rfl⟩)
     go_ret
     exact ⟨ret_bool HF.out.symm,rfl⟩
    ·have t1' :vB vl=false:=by simpa using t1
     clear t1 hok
     go_wp2_with (go_at_call 125;refine (ref01right_any _ _).mono ?_;rintro e w' ⟨rfl,rfl⟩)
     go_ret
     exact ⟨ret_bool HF.out.symm,rfl⟩
  ·have hkn:k=n:=by omega
   have hf:rightB h=decide (0<n∧n<65):=by
    have:=hall.out
    rw[hkn,←HL.out,List.take_length]at this
    unfold rightB;rw[this,HL.out];simp
   have HF:=Lib.hid hf
   clear hf hkn
   by_cases h1:0<n
   all_goals by_cases h2:n<65
   all_goals
    go_wp2
    go_ret
    exact ⟨ret_bool (by rw[HF.out];first | (simp[h1,h2];done) | (simp[h1,h2];omega)),rfl⟩
theorem set_any (h:List Cell) (A:Option Addr) (n c:Nat) (at_:Int) (lv:Bool) (vl:Int) (w:World) (hr:Rd w 2 A n (cs h)) (hn:n≤1000000):
  Calls Tryz.prog 148 #[.slice A n c,.int .i64 at_,.agg #[.bool lv,.int .i64 vl]] w fun e w' =>
   ∃B d,e=.returned (.slice B n d)∧Rd w' 2 B n (cs (setAt h at_ ⟨lv,vl⟩))∧Below w.heap.size w w' :=by
 have HR:=Lib.hid (hr.alloc (.cells #[.bool lv,.int .i64 vl] 117))
 have HL:Hid (h.length=n):=Lib.hid (by have:=hr.1;rw[cs_len]at this;omega)
 clear hr
 go_enter Tryz.func148,Tryz.ntmps148
 go_wp2
 go_loopw [7,8] (fun v i wr=>∃k:Nat,k≤n∧i=.int .i64 k∧Hid (Own (w.alloc (.cells #[.bool lv,.int .i64 vl] 117)) wr 117 2 v k (cs ((setAt h at_ ⟨lv,vl⟩).take k)))) (fun _ i _=>n - (intOf i).toNat)
 case atStart=>exact ⟨0,Nat.zero_le _,rfl,Lib.hid (Own.nil_ (Below.refl _ _))⟩
 case round=>
  obtain ⟨k,hk,rfl,hown⟩:=hrel
  by_cases hlt:k<n
  ·obtain ⟨b,off,⟨lx,vx⟩,rfl,hx,c0,c1⟩:=at_cell (HR.out.below hown.out.2) k hlt
   have GX:=Lib.hid hx
   clear hx
   by_cases hat:(k:Int)=at_
   ·subst hat
    have hs:=setAt_at h k ⟨lv,vl⟩ _ GX.out
    have HT:=Lib.hid (cs_take _ k _ hs)
    have b0:wr.cell? ⟨w.heap.size,0,none⟩=some (.bool lv):=(hown.out.2.cell (by simp)).trans (by simp)
    have b1:wr.cell? ⟨w.heap.size,1,none⟩=some (.int .i64 vl):=(hown.out.2.cell (by simp)).trans (by simp)
    clear hs
    go_wp2_with (at_builtin;refine append_rd rfl _ _ 48 rfl tCell (w.alloc (.cells #[.bool lv,.int .i64 vl] 117)) _ _ _ rfl (hown.out.alloc _) _ 1 1 [.bool lv,.int .i64 vl] rfl (Rd.built _ 2 1 [.bool lv,.int .i64 vl] _ rfl) (one_cons rfl (one_cons rfl one_nil)) (by omega) (by omega) ?_;intro v' w' hown' hg;have HO:=Lib.hid hown';clear hown' hg)
    go_roundw
    case rel=>exact ⟨k+1,by omega,by go_num,Lib.hid (by rw[HT.out];exact HO.out)⟩
    case measure=>simp[intOf];omega
   ·have t1:((k:Int)==at_)=false:=beq_eq_false_iff_ne.2 hat
    have hs:=setAt_ne h at_ k ⟨lv,vl⟩ _ GX.out hat
    have HT:=Lib.hid (cs_take _ k _ hs)
    clear hat hs
    go_wp2_with (at_builtin;refine append_rd rfl _ _ 48 rfl tCell (w.alloc (.cells #[.bool lv,.int .i64 vl] 117)) _ _ _ rfl (hown.out.alloc _) _ 1 1 [.bool lx,.int .i64 vx] rfl (Rd.built _ 2 1 [.bool lx,.int .i64 vx] _ rfl) (one_cons rfl (one_cons rfl one_nil)) (by omega) (by omega) ?_;intro v' w' hown' hg;have HO:=Lib.hid hown';clear hown' hg)
    go_roundw
    case rel=>exact ⟨k+1,by omega,by go_num,Lib.hid (by rw[HT.out];exact HO.out)⟩
    case measure=>simp[intOf];omega
  ·have hkn:k=n:=by omega
   obtain ⟨B,d,hv,hrd⟩:=hown.out.form
   subst hkn hv
   have HB:=Lib.hid hown.out.2
   have HD:=Lib.hid hrd
   clear hrd
   go_wp2
   go_ret
   refine ⟨B,d,rfl,?_,((Below.refl _ _).alloc (Nat.le_refl _) _).trans (HB.out.mono (by simp))⟩
   have:=HD.out
   rwa [List.take_of_length_le (by rw[setAt_len,HL.out];exact Nat.le_refl _)]at this
theorem live_any (h:List Cell) (A:Option Addr) (n c:Nat) (cell:Int) (w:World) (hr:Rd w 2 A n (cs h)) (hn:n≤1000000):
  Calls Tryz.prog 70 #[.slice A n c,.int .i64 cell] w fun e w' =>e=.returned (.bool (liveAt h cell))∧w=w' :=by
 have HL:Hid (h.length=n):=Lib.hid (by have:=hr.1;rw[cs_len]at this;omega)
 have HR:=Lib.hid hr
 clear hr
 go_enter Tryz.func70,Tryz.ntmps70
 go_wp2
 go_loop [5] (fun i=>∃k:Nat,k≤n∧i=.int .i64 k∧(cell<0∨(k:Int)≤cell)) (fun i=>n - (intOf i).toNat)
 case atStart=>exact ⟨0,Nat.zero_le _,rfl,by omega⟩
 case round=>
  obtain ⟨k,hk,rfl,hpast⟩:=hrel
  by_cases hlt:k<n
  ·obtain ⟨b,off,⟨lv,vl⟩,rfl,hx,c0,c1⟩:=at_cell HR.out k hlt
   have HX:=Lib.hid hx
   clear hx
   by_cases he:(k:Int)=cell
   ·subst he
    have HF:=Lib.hid (live_at h k _ HX.out)
    go_wp2
    go_ret
    exact ⟨ret_bool HF.out.symm,rfl⟩
   ·have t1:((k:Int)==cell)=false:=beq_eq_false_iff_ne.2 he
    go_wp2
    go_round
    case rel=>exact ⟨k+1,by omega,by go_num,by omega⟩
    case measure=>simp[intOf];omega
  ·have HF:Hid (liveAt h cell=false):=Lib.hid (live_out h cell (by rw[HL.out];omega))
   clear hpast
   go_wp2
   go_ret
   exact ⟨ret_bool HF.out.symm,rfl⟩
def RetH (w:World) (n:Nat) (r:List Cell × Int) (e:Ending) (w' :World):Prop:=
 ∃B d,e=.returned (.tuple #[.slice B n d,.int .i64 r.2])∧Rd w' 2 B n (cs r.1)∧Below w.heap.size w w'
theorem put_any (h:List Cell) (l:List Write) (A D:Option Addr) (n c m d:Nat) (w:World) (hr:Rd w 2 A n (cs h)) (hl:Rd w 2 D m (ws l)) (hn:n≤1000000) (hm:m≤1000000):
  Calls Tryz.prog 90 #[.slice A n c,.slice D m d] w (RetH w n (putS h l)):=by
 have HL:Hid (h.length=n):=Lib.hid (by have:=hr.1;rw[cs_len]at this;omega)
 have HM:Hid (l.length=m):=Lib.hid (by have:=hl.1;rw[ws_len]at this;omega)
 have HR:=Lib.hid hr
 have HW:=Lib.hid hl
 clear hr hl
 go_enter Tryz.func90,Tryz.ntmps90
 go_wp2_with (go_at_call 65;refine (right_any h _ _ _ _ HR.out hn).mono ?_;rintro e w' ⟨rfl,rfl⟩)
 go_loop [6,7] (fun ok i=>∃k:Nat,k≤m∧i=.int .i64 k∧ok=.bool (rightB h && (l.take k).all (fun w=>vB w.value))) (fun _ i=>m - (intOf i).toNat)
 case atStart=>exact ⟨0,Nat.zero_le _,rfl,by simp⟩
 case round =>
  obtain ⟨k,hk,rfl,rfl⟩:=hrel
  by_cases hlt:k<m
  ·obtain ⟨b,off,⟨cl,vl⟩,rfl,hx,c0,c1⟩:=at_write HW.out k hlt
   have hs:=Lib.hid (take_all l (fun w=>vB w.value) k _ hx)
   clear hx
   generalize hg:(rightB h && (l.take k).all (fun w=>vB w.value))=ok at *
   have HG:=Lib.hid hg
   clear hg
   cases ok
   ·go_wp2_with (go_at_call 125;refine (ref01right_any _ _).mono ?_;rintro e w' ⟨rfl,rfl⟩)
    go_round
    case rel=>exact ⟨k+1,by omega,by go_num,by rw[hs.out,←Bool.and_assoc,HG.out];rfl⟩
    case measure=>simp[intOf];omega
   ·go_wp2_with (go_at_call 125;refine (ref01right_any _ _).mono ?_;rintro e w' ⟨rfl,rfl⟩)
    go_round
    case rel=>exact ⟨k+1,by omega,by go_num,by rw[hs.out,←Bool.and_assoc,HG.out];rfl⟩
    case measure=>simp[intOf];omega
  ·have hkm:k=m:=by omega
   subst hkm
   have HT:Hid (l.take k=l):=Lib.hid (List.take_of_length_le (by rw[HM.out];exact Nat.le_refl _))
   rw[HT.out]
   by_cases hok:(rightB h && l.all (fun w=>vB w.value))=true
   ·have HF0:=Lib.hid hok
    go_wp2
    go_loopw [9,10] (fun v i wr=>∃j:Nat,j≤k∧i=.int .i64 j∧(∃B q,v=.slice B n q∧Hid (Rd wr 2 B n (cs (putAll h (l.take j)))))∧Hid (Below w.heap.size w wr)∧Hid ((l.take j).all (fun w=>liveAt h w.cell)=true)) (fun _ i _=>k - (intOf i).toNat)
    case atStart=>exact ⟨0,Nat.zero_le _,rfl,⟨A,c,rfl,HR⟩,Lib.hid (Below.refl _ _),Lib.hid rfl⟩
    case round=>
     obtain ⟨j,hj,rfl,⟨B,q,rfl,HO⟩,HB,hall⟩:=hrel
     by_cases hlt:j<k
     ·obtain ⟨b,off,⟨cl,vl⟩,rfl,hx,c0,c1⟩:=at_write (HW.out.below HB.out) j hlt
      have hs:=Lib.hid (take_all l (fun w=>liveAt h w.cell) j _ hx)
      have ht:=Lib.hid (putAll_take h l j _ hx)
      have HX:=Lib.hid hx
      clear hx
      by_cases hlv:liveAt h cl=true
      ·go_wp2_with (go_at_call 70;refine (live_any h _ _ _ _ _ (HR.out.below HB.out) hn).mono ?_;rintro e w' ⟨rfl,rfl⟩)
       go_still_tail 12,(by kernel_rfl)
       go_wp2_with (go_at_call 148;refine (set_any (putAll h (l.take j)) _ _ _ _ _ _ _ HO.out.drew hn).mono ?_;rintro e w' ⟨B',q',rfl,hrd,hb⟩;have HB' :=Lib.hid hb;have HD:=Lib.hid hrd;clear hb hrd)
       go_roundw
       case rel=>exact ⟨j+1,by omega,by go_num,⟨B',q',rfl,Lib.hid (by rw[ht.out];exact HD.out)⟩,Lib.hid (HB.out.drew.trans (HB'.out.mono HB.out.size)),Lib.hid (by rw[hs.out,hall.out];exact hlv)⟩
       case measure=>simp[intOf];omega
      ·have hlv' :liveAt h cl=false:=by simpa using hlv
       have HF:Hid (putS h l=(h,3)):=Lib.hid (by
        unfold putS;rw[if_pos HF0.out,if_neg]
        intro ha
        have:=List.all_eq_true.1 ha _ (List.mem_of_getElem? HX.out)
        simp[hlv']at this)
       clear hlv
       go_wp2_with (go_at_call 70;refine (live_any h _ _ _ _ _ (HR.out.below HB.out) hn).mono ?_;rintro e w' ⟨rfl,rfl⟩)
       go_ret2
       exact ⟨A,c,by rw[HF.out];rfl,by rw[HF.out];exact HR.out.below HB.out,HB.out⟩
     ·have hjk:j=k:=by omega
      subst hjk
      have HF:Hid (putS h l=(putAll h l,0)):=Lib.hid (by
       have ha:=hall.out
       rw[HT.out]at ha
       unfold putS;rw[if_pos HF0.out,if_pos ha])
      have HO' :Hid (Rd wr 2 B n (cs (putAll h l))):=Lib.hid (by have:=HO.out;rwa [HT.out]at this)
      go_wp2
      go_ret2
      exact ⟨B,q,by rw[HF.out];rfl,by rw[HF.out];exact HO'.out,HB.out⟩
   ·have HF:Hid (putS h l=(h,1)):=Lib.hid (by unfold putS;rw[if_neg hok])
    have hok' :(rightB h && l.all (fun w=>vB w.value))=false:=by simpa using hok
    rw[hok']
    clear hok hok'
    go_wp2
    go_ret2
    exact ⟨A,c,by rw[HF.out];rfl,by rw[HF.out];exact HR.out,Below.refl _ _⟩
end Go.Proofs.YtgghaodcfgbjlaaGreat.Heap
namespace Go.Proofs.YtgghaodcfgbjlaaGreat.Span
def sw (n:Int):Int:=(n+2147483648) % 4294967296 - 2147483648
theorem sw_bd (n:Int): -2147483648≤sw n∧sw n≤2147483647:=by unfold sw;omega
theorem sw_emod (n:Int):sw n % 4294967296=n % 4294967296:=by unfold sw;omega
theorem sw_of (a b:Int) (h:a % 4294967296=b % 4294967296):sw a=sw b:=by unfold sw;omega
theorem sw_add (a b:Int):sw (sw a+sw b)=sw (a+b):=
 sw_of _ _ (by rw[Int.add_emod,sw_emod,sw_emod,←Int.add_emod])
theorem sw_sub (a b:Int):sw (sw a - sw b)=sw (a - b):=
 sw_of _ _ (by rw[Int.sub_emod,sw_emod,sw_emod,←Int.sub_emod])
theorem sw_mul (a b:Int):sw (sw a * sw b)=sw (a * b):=
 sw_of _ _ (by rw[Int.mul_emod,sw_emod,sw_emod,←Int.mul_emod])
theorem mul_bd (x y:Int) (hx: -2147483648≤x∧x≤2147483647) (hy: -2147483648≤y∧y≤2147483648):
  -4611686018427387904≤x * y∧x * y≤4611686018427387904:=by
 have h1:x * y≤x.natAbs * y.natAbs:=by
  rw[←Int.natCast_mul,←Int.natAbs_mul];omega
 have h2: -(x.natAbs * y.natAbs:Int)≤x * y:=by
  rw[←Int.natCast_mul,←Int.natAbs_mul];omega
 have h3:x.natAbs * y.natAbs≤2147483648 * 2147483648:=Nat.mul_le_mul (by omega) (by omega)
 have h4:((x.natAbs * y.natAbs:Nat):Int)≤4611686018427387904:=by omega
 rw[Int.natCast_mul]at h4
 omega
end Go.Proofs.YtgghaodcfgbjlaaGreat.Span
namespace Go.Proofs.YtgghaodcfgbjlaaGreat.Span
open Go.ChangeShapes Go.WideShapes Go.ChangeAt Go.RowKit
theorem ret_int {k:IntKind} {a b:Int} (h:a=b):Ending.returned (.int k a)=.returned (.int k b):=by rw[h]
theorem ret_bool {a b:Bool} (h:a=b):Ending.returned (.bool a)=.returned (.bool b):=by rw[h]
def rightB (n:Int):Bool:=decide (-2147483648≤n∧n≤2147483647)
theorem right_any (n:Int) (w:World):
  Calls Tryz.prog 160 #[.int .i64 n] w fun e w' =>e=.returned (.bool (rightB n))∧w=w' :=by
 by_cases h1: -2147483648≤n
 all_goals by_cases h2:n≤2147483647
 all_goals
  go_enter Tryz.func160,Tryz.ntmps160
  go_wp2
  go_ret
  exact ⟨ret_bool (by unfold rightB;simp[h1,h2]),rfl⟩
theorem wrap_any (n:Int) (w:World):
  Calls Tryz.prog 234 #[.int .i64 n] w fun e w' =>e=.returned (.int .i64 (sw n))∧w=w' :=by
 have hb:=sw_bd n
 have e:wrap32 n=sw n:=by unfold wrap32 sw;rfl
 go_enter Tryz.func234,Tryz.ntmps234
 go_wp2
 go_ret
 exact ⟨rfl,rfl⟩
theorem add_any (a b:Int) (w:World):
  Calls Tryz.prog 235 #[.int .i64 a,.int .i64 b] w fun e w' =>e=.returned (.int .i64 (sw (a+b)))∧w=w' :=by
 have ha:=sw_bd a
 have hb:=sw_bd b
 go_enter Tryz.func235,Tryz.ntmps235
 go_wp2_with (go_at_call 234;refine (wrap_any _ _).mono ?_;rintro e w' ⟨rfl,rfl⟩)
 go_ret
 exact ⟨ret_int (sw_add a b),rfl⟩
theorem sub_any (a b:Int) (w:World):
  Calls Tryz.prog 236 #[.int .i64 a,.int .i64 b] w fun e w' =>e=.returned (.int .i64 (sw (a - b)))∧w=w' :=by
 have ha:=sw_bd a
 have hb:=sw_bd b
 go_enter Tryz.func236,Tryz.ntmps236
 go_wp2_with (go_at_call 234;refine (wrap_any _ _).mono ?_;rintro e w' ⟨rfl,rfl⟩)
 go_ret
 exact ⟨ret_int (sw_sub a b),rfl⟩
theorem mul_any (a b:Int) (w:World):
  Calls Tryz.prog 237 #[.int .i64 a,.int .i64 b] w fun e w' =>e=.returned (.int .i64 (sw (a * b)))∧w=w' :=by
 have ha:=sw_bd a
 have hb:=sw_bd b
 have hm:=mul_bd (sw a) (sw b) ha (by omega)
 go_enter Tryz.func237,Tryz.ntmps237
 go_wp2_with (go_at_call 234;refine (wrap_any _ _).mono ?_;rintro e w' ⟨rfl,rfl⟩)
 go_ret
 exact ⟨ret_int (sw_mul a b),rfl⟩
def truthI (b:Bool):Int:=if b then 1 else 0
theorem truth_any (b:Bool) (w:World):
  Calls Tryz.prog 232 #[.bool b] w fun e w' =>e=.returned (.int .i64 (truthI b))∧w=w' :=by
 cases b
 all_goals
  go_enter Tryz.func232,Tryz.ntmps232
  go_wp2
  go_ret
  exact ⟨rfl,rfl⟩
theorem refright_any (n:Int) (w:World):
  Calls Tryz.prog 125 #[.int .i64 n] w fun e w' =>e=.returned (.bool (rightB n))∧w=w' :=by
 by_cases h1: -2147483648≤n
 all_goals by_cases h2:n≤2147483647
 all_goals
  go_enter Tryz.func125,Tryz.ntmps125
  go_wp2
  go_ret
  exact ⟨ret_bool (by unfold rightB;simp[h1,h2]),rfl⟩
end Go.Proofs.YtgghaodcfgbjlaaGreat.Span
namespace Go.Proofs.YtgghaodcfgbjlaaGreat.Heap
open Go.ChangeShapes Go.WideShapes Go.ChangeAt Go.RowKit Mem
def ic (k:Nat):List Value:= [.int .i64 (k:Int)]
def is (l:List Nat):List Value:=l.flatMap ic
def RetB (w:World) (b:Bool) (e:Ending) (w' :World):Prop:=e=.returned (.bool b)∧Below w.heap.size w w'
def RetG (w:World) (r:Int × Int) (e:Ending) (w' :World):Prop:=e=.returned (.tuple #[.int .i64 r.1,.int .i64 r.2])∧Below w.heap.size w w'
def Fits (n:Int):Prop:= -9223372036854775808≤n∧n≤9223372036854775807
theorem open_cells {H:Type} {enc:TypeId × Value→H} {W:World} {A:Option Addr} {n c:Nat} {d:DataW H} {p:List MemPlace}
  (h:DataW.Trod enc Tryz.prog W 0 (fun _=>true) true 48 (.slice A n c) d p):
  n≤c∧c≤9223372036854775807∧∃xs:List Cell,Rd W 2 A n (cs xs)∧xs.length=n∧∀x∈xs,Fits x.value:=by
 refine open_rows Tryz.underlying48 2 (by kernel_rfl) (by decide) cc (fun _=>rfl) (fun x=>Fits x.value) ?_ h
 intro fuel cs' x hl ht
 obtain ⟨xs,n',_,_,_,hxl,hf⟩:=DataW.trod_struct Tryz.underlying117 ht
 match cs',hl with
 | [c0,c1],_=>
  have g0:=hf 0 _ rfl
  have g1:=hf 1 _ rfl
  have k3:Tryz.prog.cellsOf 3=1:=by kernel_rfl
  have k4:Tryz.prog.cellsOf 4=1:=by kernel_rfl
  match xs,hxl with
  | [y0,y1],_=>
   simp[k3,k4]at g0 g1
   obtain ⟨b,e0,_⟩:=DataW.trod_bool Tryz.underlying4 g0
   obtain ⟨m,e1,_,wf⟩:=DataW.trod_int Tryz.underlying3 g1
   simp at e0 e1
   subst e0 e1
   exact ⟨⟨b,m⟩,rfl,bounds_i64 wf⟩
theorem own_set {w0 w:World} {e size n cap g:Nat} {xs:List Value} (h:Own w0 w e size (.slice (some ⟨g,0,none⟩) n cap) n xs) (j:Nat) (u:Value):
  Own w0 (w.setCell ⟨g,j,none⟩ u) e size (.slice (some ⟨g,0,none⟩) n cap) n (xs.set j u):=
 ⟨(h.1.stored j u).1,h.2.setCell (h.base g rfl) u⟩
theorem own_lay {w0 w:World} {e size n:Nat} {v:Value} {xs:List Value} (h:Own w0 w e size v n xs) (hn:0<n):∃g cap,v=.slice (some ⟨g,0,none⟩) n cap:=by
 rcases h.1.2 with ⟨_,h0⟩ | ⟨g,cap,cur,rfl,_⟩
 ·omega
 ·exact ⟨g,cap,rfl⟩
theorem cs_one (h:List Cell):∀u∈cs h,u.oneCell' =true:=by
 intro u hu
 obtain ⟨x,_,hx⟩:=List.mem_flatMap.1 hu
 unfold cc at hx
 simp at hx
 rcases hx with rfl | rfl <;> rfl
theorem cs_set (h:List Cell) (k:Nat) (c:Cell):((cs h).set (k * 2) (.bool c.live)).set (k * 2+1) (.int .i64 c.value)=cs (h.set k c):=by
 induction h generalizing k with
 | nil=>simp[cs]
 | cons x h ih=>
  cases k with
  | zero=>rfl
  | succ k=>
   have e1:(k+1) * 2=k * 2+2:=by omega
   have e2:(k+1) * 2+1=k * 2+1+2:=by omega
   have:=ih k
   simp only[cs,cc,List.flatMap_cons,List.cons_append,List.nil_append,e1,List.set_cons_succ]at *
   rw[this]
theorem spanright_any (n:Int) (w:World):
  Calls Tryz.prog 160 #[.int .i64 n] w fun e w' =>e=.returned (.bool (vB n))∧w=w' :=by
 by_cases h1: -2147483648≤n
 all_goals by_cases h2:n≤2147483647
 all_goals
  go_enter Tryz.func160,Tryz.ntmps160
  go_wp2
  go_ret
  exact ⟨ret_bool (by unfold vB;simp[h1,h2]),rfl⟩
def lenB (n:Int):Bool:=decide (1≤n∧n≤64)
theorem length_any (n:Int) (w:World):
  Calls Tryz.prog 114 #[.int .i64 n] w fun e w' =>e=.returned (.bool (lenB n))∧w=w' :=by
 by_cases h1:1≤n
 all_goals by_cases h2:n≤64
 all_goals
  go_enter Tryz.func114,Tryz.ntmps114
  go_wp2
  go_ret
  exact ⟨ret_bool (by unfold lenB;simp[h1,h2]),rfl⟩
theorem cell_any (lv:Bool) (vl:Int) (w:World) (b:Bool) (hb:cellB ⟨lv,vl⟩=b):
  Calls Tryz.prog 115 #[.agg #[.bool lv,.int .i64 vl]] w (RetB w b):=by
 subst hb
 by_cases h1:vB vl=true
 ·cases lv
  ·by_cases h2:vl=0
   ·subst h2
    go_enter Tryz.func115,Tryz.ntmps115
    go_wp2_with (go_at_call 160;refine (spanright_any _ _).mono ?_;rintro e w' ⟨rfl,rfl⟩)
    go_ret
    exact ⟨ret_bool (by decide),bl_alloc (Below.refl _ _) _⟩
   ·have h3:(vl==0)=false:=beq_eq_false_iff_ne.2 h2
    clear h2
    go_enter Tryz.func115,Tryz.ntmps115
    go_wp2_with (go_at_call 160;refine (spanright_any _ _).mono ?_;rintro e w' ⟨rfl,rfl⟩)
    go_ret
    exact ⟨ret_bool (by unfold cellB;simp[h3]),bl_alloc (Below.refl _ _) _⟩
  ·go_enter Tryz.func115,Tryz.ntmps115
   go_wp2_with (go_at_call 160;refine (spanright_any _ _).mono ?_;rintro e w' ⟨rfl,rfl⟩)
   go_ret
   exact ⟨ret_bool (by unfold cellB;simp[h1]),bl_alloc (Below.refl _ _) _⟩
 ·have h1' :vB vl=false:=by simpa using h1
  clear h1
  go_enter Tryz.func115,Tryz.ntmps115
  go_wp2_with (go_at_call 160;refine (spanright_any _ _).mono ?_;rintro e w' ⟨rfl,rfl⟩)
  go_ret
  exact ⟨ret_bool (by unfold cellB;simp[h1']),bl_alloc (Below.refl _ _) _⟩
theorem islive_any (h:List Cell) (A:Option Addr) (n c:Nat) (cell:Int) (w:World) (b:Bool) (hr:Rd w 2 A n (cs h)) (hb:liveAt h cell=b):
  Calls Tryz.prog 202 #[.slice A n c,.int .i64 cell] w fun e w' =>e=.returned (.bool b)∧w=w' :=by
 have HL:Hid (h.length=n):=Lib.hid (by have:=hr.1;rw[cs_len]at this;omega)
 by_cases h1:0≤cell
 ·obtain ⟨k,rfl⟩:=Int.eq_ofNat_of_zero_le h1
  clear h1
  by_cases h2:k<n
  ·obtain ⟨b,off,⟨lv,vl⟩,rfl,hx,c0,c1⟩:=at_cell hr k h2
   have HF:=Lib.hid ((live_at h k _ hx).symm.trans hb)
   clear hx hb hr
   go_enter Tryz.func202,Tryz.ntmps202
   go_wp2
   go_ret
   exact ⟨ret_bool HF.out,rfl⟩
  ·have HF:=Lib.hid ((live_out h k (by rw[HL.out];omega)).symm.trans hb)
   clear hb hr
   go_enter Tryz.func202,Tryz.ntmps202
   go_wp2
   go_ret
   exact ⟨ret_bool HF.out,rfl⟩
 ·have HF:=Lib.hid ((live_out h cell (by omega)).symm.trans hb)
  clear hb hr
  go_enter Tryz.func202,Tryz.ntmps202
  go_wp2
  go_ret
  exact ⟨ret_bool HF.out,rfl⟩
def RetO (w:World) (n:Nat) (xs:List Value) (e:Ending) (w' :World):Prop:=∃v,e=.returned v∧Own w w' 117 2 v n xs
theorem clone_any (h:List Cell) (A:Option Addr) (n c:Nat) (w:World) (hr:Rd w 2 A n (cs h)) (hn:n≤1000000):
  Calls Tryz.prog 92 #[.slice A n c] w (RetO w n (cs h)):=by
 have hnil:=fun W=>Lib.run_eql_slice_nil (P:=Tryz.prog) W 48 117 A n c 0 0 Tryz.underlying48
 rcases A with _ | ad
 ·obtain rfl:n=0:=by
   rcases Nat.eq_zero_or_pos n with h0 | h0
   ·exact h0
   ·obtain ⟨b,off,hh,_⟩:=hr.2 h0
    cases hh
  have HX:Hid (cs h= []):=Lib.hid (List.eq_nil_of_length_eq_zero (by simpa using hr.1))
  clear hr
  go_enter Tryz.func92,Tryz.ntmps92
  go_wp2
  go_ret
  exact ⟨_,rfl,by rw[HX.out];exact Own.nil_ (Below.refl _ _)⟩
 ·have HR:=Lib.hid hr
  clear hr
  go_enter Tryz.func92,Tryz.ntmps92
  go_wp2_with (at_builtin;refine append_rd rfl _ _ 48 rfl tCell w _ 0 [] rfl (Own.empty w _ _) _ n c (cs h) rfl (HR.out.alloc _) (cs_one h) (by omega) (by omega) ?_;intro v' w' hown' hg;have HO:=Lib.hid hown';clear hown' hg)
  go_ret
  exact ⟨v',rfl,by have:=HO.out;simpa using this⟩
theorem right_c (h:List Cell) (A:Option Addr) (n c:Nat) (w:World) (b:Bool) (hr:Rd w 2 A n (cs h)) (hn:n≤1000000) (hb:rightB h=b):
  Calls Tryz.prog 61 #[.slice A n c] w (RetB w b):=by
 subst hb
 have HL:Hid (h.length=n):=Lib.hid (by have:=hr.1;rw[cs_len]at this;omega)
 have HR:=Lib.hid hr
 clear hr
 by_cases hlen:lenB (n:Int)=true
 ·have HN:Hid (0<n∧n<65):=Lib.hid (by unfold lenB at hlen;simp at hlen;omega)
  go_enter Tryz.func61,Tryz.ntmps61
  go_wp2_with (go_at_call 114;refine (length_any _ _).mono ?_;rintro e w' ⟨rfl,rfl⟩)
  go_loopw [11] (fun i wr=>∃k:Nat,k≤n∧i=.int .i64 k∧Hid (Below w.heap.size w wr)∧Hid ((h.take k).all cellB=true)) (fun i _=>n - (intOf i).toNat)
  case atStart=>exact ⟨0,Nat.zero_le _,rfl,Lib.hid (Below.refl _ _),Lib.hid rfl⟩
  case round=>
   obtain ⟨k,hk,rfl,HB,hall⟩:=hrel
   by_cases hlt:k<n
   ·obtain ⟨b,off,⟨lv,vl⟩,rfl,hx,c0,c1⟩:=at_cell (HR.out.below HB.out) k hlt
    have hs:=Lib.hid (take_all h cellB k _ hx)
    by_cases hok:cellB ⟨lv,vl⟩=true
    ·have HOK:=Lib.hid hok
     clear hx hok
     go_wp2_with fail
     refine (cell_any _ _ _ true HOK.out).mono ?_
     rintro e w1 ⟨rfl,b1⟩
     have HB1:=Lib.hid (bl_trans (bl_alloc HB.out _) b1)
     clear b1
     go_wp2_with fail
     go_roundw
     case rel=>exact ⟨k+1,by omega,by go_num,HB1,Lib.hid (by rw[hs.out,hall.out,HOK.out];rfl)⟩
     case measure=>simp[intOf];omega
    ·have HOK:Hid (cellB ⟨lv,vl⟩=false):=Lib.hid (by simpa using hok)
     have HF:Hid (rightB h=false):=Lib.hid (right_bad h k _ hx HOK.out)
     clear hx hok
     go_wp2_with fail
     refine (cell_any _ _ _ false HOK.out).mono ?_
     rintro e w1 ⟨rfl,b1⟩
     have HB1:=Lib.hid (bl_trans (bl_alloc HB.out _) b1)
     clear b1
     go_wp2_with fail
     go_ret
     exact ⟨ret_bool HF.out.symm,HB1.out⟩
   ·have HF:Hid (rightB h=true):=Lib.hid (by
     have:=hall.out
     rw[List.take_of_length_le (by rw[HL.out];omega)]at this
     unfold rightB;rw[this,HL.out];simpa using HN.out)
    go_wp2
    go_ret
    exact ⟨ret_bool HF.out.symm,HB.out⟩
 ·have hlen' :lenB (n:Int)=false:=by simpa using hlen
  have HF:Hid (rightB h=false):=Lib.hid (by
   unfold lenB at hlen';simp at hlen'
   unfold rightB;rw[HL.out,Bool.and_eq_false_iff];left;simp;omega)
  clear hlen
  go_enter Tryz.func61,Tryz.ntmps61
  go_wp2_with (go_at_call 114;refine (length_any _ _).mono ?_;rintro e w' ⟨rfl,rfl⟩)
  go_ret
  exact ⟨ret_bool HF.out.symm,Below.refl _ _⟩
theorem get_c (h:List Cell) (A:Option Addr) (n c:Nat) (cell:Int) (w:World) (r:Int × Int) (hr:Rd w 2 A n (cs h)) (hn:n≤1000000) (hg:getS h cell=r):
  Calls Tryz.prog 161 #[.slice A n c,.int .i64 cell] w (RetG w r):=by
 subst hg
 have HL:Hid (h.length=n):=Lib.hid (by have:=hr.1;rw[cs_len]at this;omega)
 have HR:=Lib.hid hr
 clear hr
 by_cases h1:rightB h=true
 ·have H1:=Lib.hid h1
  by_cases h2:liveAt h cell=true
  ·have H2:=Lib.hid h2
   obtain ⟨hc0,hc1,x,hx,_⟩:=live_in h cell h2
   obtain ⟨k,rfl⟩:=Int.eq_ofNat_of_zero_le hc0
   simp only[Int.toNat_natCast]at hx hc1
   have hkn:k<n:=by rw[←HL.out];exact hc1
   have HF:Hid (getS h (k:Int)=(x.value,0)):=Lib.hid (by unfold getS;rw[if_pos h1,if_pos h2,val_at h k _ hx])
   have HX:=Lib.hid hx
   clear hx hc1 hc0 h1 h2
   go_enter Tryz.func161,Tryz.ntmps161
   go_wp2_with fail
   refine (right_c h _ _ _ _ true HR.out hn H1.out).mono ?_
   rintro e w1 ⟨rfl,b1⟩
   obtain ⟨b,off,y,rfl,hy,c0,c1⟩:=at_cell (HR.out.below b1) k hkn
   obtain rfl:x=y:=by have:=HX.out;rw[hy]at this;injection this with e;exact e.symm
   have HB:=Lib.hid b1
   clear b1 hy
   go_wp2_with (go_at_call 202;refine (islive_any h _ _ _ _ _ true (HR.out.below HB.out) H2.out).mono ?_;rintro e w' ⟨rfl,rfl⟩)
   go_ret2
   exact ⟨by rw[HF.out];rfl,HB.out⟩
  ·have H2:Hid (liveAt h cell=false):=Lib.hid (by simpa using h2)
   have HF:Hid (getS h cell=(0,3)):=Lib.hid (by unfold getS;rw[if_pos h1,if_neg h2])
   clear h2 h1
   go_enter Tryz.func161,Tryz.ntmps161
   go_wp2_with fail
   refine (right_c h _ _ _ _ true HR.out hn H1.out).mono ?_
   rintro e w1 ⟨rfl,b1⟩
   have HB:=Lib.hid b1
   clear b1
   go_wp2_with (go_at_call 202;refine (islive_any h _ _ _ _ _ false (HR.out.below HB.out) H2.out).mono ?_;rintro e w' ⟨rfl,rfl⟩)
   go_ret2
   exact ⟨by rw[HF.out];rfl,HB.out⟩
 ·have H1:Hid (rightB h=false):=Lib.hid (by simpa using h1)
  have HF:Hid (getS h cell=(0,1)):=Lib.hid (by unfold getS;rw[if_neg h1])
  clear h1
  go_enter Tryz.func161,Tryz.ntmps161
  go_wp2_with fail
  refine (right_c h _ _ _ _ false HR.out hn H1.out).mono ?_
  rintro e w1 ⟨rfl,b1⟩
  have HB:=Lib.hid b1
  clear b1
  go_wp2_with fail
  go_ret2
  exact ⟨by rw[HF.out];rfl,HB.out⟩
def checkS (h:List Cell) (l:List Write):Int:=
 if (rightB h && l.all (fun w=>vB w.value))=true then (if l.all (fun w=>liveAt h w.cell)=true then 0 else 3) else 1
def RetN (w:World) (r:Int) (e:Ending) (w' :World):Prop:=e=.returned (.int .i64 r)∧Below w.heap.size w w'
theorem check_any (h:List Cell) (l:List Write) (A D:Option Addr) (n c m d:Nat) (w:World) (r:Int) (hr:Rd w 2 A n (cs h)) (hl:Rd w 2 D m (ws l)) (hn:n≤1000000) (hm:m≤1000000) (hc:checkS h l=r):
  Calls Tryz.prog 152 #[.slice A n c,.slice D m d] w (RetN w r):=by
 subst hc
 have HM:Hid (l.length=m):=Lib.hid (by have:=hl.1;rw[ws_len]at this;omega)
 have HR:=Lib.hid hr
 have HW:=Lib.hid hl
 clear hr hl
 by_cases h1:rightB h=true
 ·have H1 :=Lib.hid h1
  clear h1
  go_enter Tryz.func152,Tryz.ntmps152
  go_wp2_with fail
  refine (right_c h _ _ _ _ true HR.out hn H1.out).mono ?_
  rintro e w1 ⟨rfl,b1⟩
  have HB1:=Lib.hid b1
  clear b1
  go_wp2_with fail
  go_loopw [14] (fun i wr=>∃k:Nat,k≤m∧i=.int .i64 k∧Hid (Below w.heap.size w wr)∧Hid ((l.take k).all (fun w=>vB w.value)=true)) (fun i _=>m - (intOf i).toNat)
  case atStart=>exact ⟨0,Nat.zero_le _,rfl,HB1,Lib.hid rfl⟩
  case round =>
   obtain ⟨k,hk,rfl,HB,hall⟩:=hrel
   by_cases hlt:k<m
   ·obtain ⟨b,off,⟨cl,vl⟩,rfl,hx,c0,c1⟩:=at_write (HW.out.below HB.out) k hlt
    have hs:=Lib.hid (take_all l (fun w=>vB w.value) k _ hx)
    have HX:=Lib.hid hx
    clear hx
    by_cases hok:vB vl=true
    ·go_wp2_with (go_at_call 160;refine (spanright_any _ _).mono ?_;rintro e w' ⟨rfl,rfl⟩)
     go_roundw
     case rel=>exact ⟨k+1,by omega,by go_num,Lib.hid (bl_alloc HB.out _),Lib.hid (by rw[hs.out,hall.out];exact hok)⟩
     case measure=>simp[intOf];omega
    ·have hok' :vB vl=false:=by simpa using hok
     have HF:Hid (checkS h l=1):=Lib.hid (by
      unfold checkS;rw[if_neg]
      intro ha
      rw[Bool.and_eq_true]at ha
      have:=List.all_eq_true.1 ha.2 _ (List.mem_of_getElem? HX.out)
      simp[hok']at this)
     clear hok
     go_wp2_with (go_at_call 160;refine (spanright_any _ _).mono ?_;rintro e w' ⟨rfl,rfl⟩)
     go_ret
     exact ⟨ret_int HF.out.symm,bl_alloc HB.out _⟩
   ·have HV:Hid ((rightB h && l.all (fun w=>vB w.value))=true):=Lib.hid (by
     have:=hall.out
     rw[List.take_of_length_le (by rw[HM.out];omega)]at this
     rw[H1.out,this];rfl)
    clear hall
    generalize wr=wa at *
    go_wp2
    go_loopw [25] (fun i wr=>∃j:Nat,j≤m∧i=.int .i64 j∧Hid (Below w.heap.size w wr)∧Hid ((l.take j).all (fun w=>liveAt h w.cell)=true)) (fun i _=>m - (intOf i).toNat)
    case atStart=>exact ⟨0,Nat.zero_le _,rfl,HB,Lib.hid rfl⟩
    case round=>
     obtain ⟨j,hj,rfl,HB2,hall⟩:=hrel
     by_cases hlt:j<m
     ·obtain ⟨b,off,⟨cl,vl⟩,rfl,hx,c0,c1⟩:=at_write (HW.out.below HB2.out) j hlt
      have hs:=Lib.hid (take_all l (fun w=>liveAt h w.cell) j _ hx)
      have HX:=Lib.hid hx
      clear hx
      by_cases hok:liveAt h cl=true
      ·have HK:=Lib.hid hok
       clear hok
       go_wp2_with (go_at_call 202;refine (islive_any h _ _ _ _ _ true ((HR.out.below HB2.out).alloc _) HK.out).mono ?_;rintro e w' ⟨rfl,rfl⟩)
       go_roundw
       case rel=>exact ⟨j+1,by omega,by go_num,Lib.hid (bl_alloc HB2.out _),Lib.hid (by rw[hs.out,hall.out];exact HK.out)⟩
       case measure=>simp[intOf];omega
      ·have HK:Hid (liveAt h cl=false):=Lib.hid (by simpa using hok)
       have HF:Hid (checkS h l=3):=Lib.hid (by
        unfold checkS;rw[if_pos HV.out,if_neg]
        intro ha
        have:=List.all_eq_true.1 ha _ (List.mem_of_getElem? HX.out)
        simp[HK.out]at this)
       clear hok
       go_wp2_with (go_at_call 202;refine (islive_any h _ _ _ _ _ false ((HR.out.below HB2.out).alloc _) HK.out).mono ?_;rintro e w' ⟨rfl,rfl⟩)
       go_ret
       exact ⟨ret_int HF.out.symm,bl_alloc HB2.out _⟩
     ·have HF:Hid (checkS h l=0):=Lib.hid (by
       have:=hall.out
       rw[List.take_of_length_le (by rw[HM.out];omega)]at this
       unfold checkS;rw[if_pos HV.out,if_pos this])
      go_wp2
      go_ret
      exact ⟨ret_int HF.out.symm,HB2.out⟩
 ·have H1:Hid (rightB h=false):=Lib.hid (by simpa using h1)
  have HF:Hid (checkS h l=1):=Lib.hid (by unfold checkS;rw[if_neg (by rw[H1.out];simp)])
  clear h1
  go_enter Tryz.func152,Tryz.ntmps152
  go_wp2_with fail
  refine (right_c h _ _ _ _ false HR.out hn H1.out).mono ?_
  rintro e w1 ⟨rfl,b1⟩
  have HB1:=Lib.hid b1
  clear b1
  go_wp2_with fail
  go_ret
  exact ⟨ret_int HF.out.symm,HB1.out⟩
theorem cs_set1 (h:List Cell) (k:Nat) (x:Cell) (v:Int) (hx:h[k]?=some x):(cs h).set (k * 2+1) (.int .i64 v)=cs (h.set k ⟨x.live,v⟩):=by
 rw[←cs_set h k ⟨x.live,v⟩]
 simp only
 congr 1
 obtain ⟨hl,rfl⟩:=List.getElem?_eq_some_iff.1 hx
 have:=cs_0 h k hl
 obtain ⟨h2,h3⟩:=List.getElem?_eq_some_iff.1 this
 rw[←h3,List.set_getElem_self]
theorem live_set (h:List Cell) (a:Int) (v:Int) (cell:Int) (hl:liveAt h cell=true):liveAt (setAt h a ⟨true,v⟩) cell=true:=by
 obtain ⟨h0,h1,x,hx,hlv⟩:=live_in h cell hl
 obtain ⟨k,rfl⟩:=Int.eq_ofNat_of_zero_le h0
 simp only[Int.toNat_natCast]at hx
 by_cases he:(k:Int)=a
 ·subst he
  rw[live_at _ k _ (setAt_at h k _ _ hx)]
 ·rw[live_at _ k _ (setAt_ne h a k _ _ hx he)];exact hlv
theorem live_putAll (h:List Cell) (l:List Write) (cell:Int) (hl:liveAt h cell=true):liveAt (putAll h l) cell=true:=by
 induction l generalizing h with
 | nil=>exact hl
 | cons x l ih=>simp only[putAll,List.foldl_cons]at *;exact ih _ (live_set h _ _ _ hl)
end Go.Proofs.YtgghaodcfgbjlaaGreat.Heap
namespace Go.Proofs.YtgghaodcfgbjlaaGreat.Mem
open Go.ChangeShapes Go.WideShapes Go.ChangeAt Go.RowKit
section
variable {P:Program}
theorem run_copy_k (w:World) (dT sT ty elem:TypeId) (k g o dLen dCap:Nat) (a:Addr) (sLen sCap:Nat) (cur:List Value) (t:TypeId) (cs:List Value)
  (hu:P.underlying dT=some (.slice elem)) (hs:(P.info? elem).map (·.size)=some k)
  (hg:w.heap[g]?=some (.cells cur.toArray t (0,0))) (z:Nat) (hz:Nat.min sLen dLen=z) (hn:cs.length=z * k)
  (hsrc:∀j v,cs[j]?=some v→w.cell? (a.add j)=some v) (hfit:o+cs.length≤cur.length) (h1:∀v∈cs,v.oneCell' =true):
  (Builtin.copy_ #[dT,sT] ty #[.slice (some ⟨g,o,none⟩) dLen dCap,.slice (some a) sLen sCap]).run P w=.ok (goInt z) (w.setRow g (splice cur o cs).toArray):=by
 have hl:=run_loadCells_list (P:=P) w a cs hsrc
 have hst:(storeCells ⟨g,o,none⟩ cs 0).run P w=.ok () (w.setRow g (splice cur o cs).toArray):=by
  rw[run_storeCells_at P g o t cs 0 cur.toArray w hg (by simpa using hfit) h1]
  unfold splice;simp
 generalize (splice cur o cs).toArray=row at *
 cases hq:P.info? elem with
 | none=>simp[hq]at hs
 | some i=>
  have hi:i.size=k:=by simpa [hq] using hs
  have hz2:min sLen dLen=z:=hz
  simp[Builtin.copy_,run_underlying hu,Builtin.lenOf,Builtin.firstCells,sizeOf,typeInfo,hq,hi,hz2,←hn,hl,hst]
theorem step_copy_k {w:World} {ops:Array Oper} {o:Oper} {a:Act} {K:Act→World→Prop} {Q:Exit→Act→World→Prop} {E:Prop} (hgd:o.guard=none) (d s:Operand) (dT sT:TypeId)
  (ho:o.op=.call { callee:=.builtin .copy,args:=#[d,s],argTypes:=#[dT,sT] }) (elem:TypeId) (hu:P.underlying dT=some (.slice elem)) (k:Nat) (hsz:(P.info? elem).map (·.size)=some k)
  (g off dLen dCap:Nat) (ad:Addr) (sLen sCap:Nat) (hd:a.eval d=.slice (some ⟨g,off,none⟩) dLen dCap) (hs:a.eval s=.slice (some ad) sLen sCap)
  (cur:List Value) (t:TypeId) (hg:w.heap[g]?=some (.cells cur.toArray t (0,0))) (cs:List Value) (z:Nat) (hz:Nat.min sLen dLen=z) (hn:cs.length=z * k)
  (hsrc:∀j v,cs[j]?=some v→w.cell? (ad.add j)=some v) (hfit:off+cs.length≤cur.length) (h1:∀v∈cs,v.oneCell' =true)
  (h:K (a.put o.dst (goInt z)) (w.setRow g (splice cur off cs).toArray)):if Region.wanted o (yielded ops a.tmps)=true then Oper.wp P o a w K Q else E:=by
 have hw:Region.wanted o (yielded ops a.tmps)=true:=by simp[Region.wanted,hgd]
 rw[if_pos hw]
 have hrun:=run_copy_k (P:=P) w dT sT o.type elem k g off dLen dCap ad sLen sCap cur t cs hu hsz hg z hz hn hsrc hfit h1
 unfold Oper.wp
 simp[execOp,ho,resolve,invoke,builtin,hd,hs,hrun,Result.andThen]
 exact h
end
end Go.Proofs.YtgghaodcfgbjlaaGreat.Mem
namespace Go.Proofs.YtgghaodcfgbjlaaGreat.Heap
open Go.ChangeShapes Go.WideShapes Go.ChangeAt Go.RowKit Mem
def RetHO (w:World) (n:Nat) (r:List Cell × Int) (e:Ending) (w' :World):Prop:=∃v,e=.returned (.tuple #[v,.int .i64 r.2])∧Own w w' 117 2 v n (cs r.1)
theorem put_o (h:List Cell) (l:List Write) (A D:Option Addr) (n c m d:Nat) (w:World) (r:List Cell × Int) (hr:Rd w 2 A n (cs h)) (hl:Rd w 2 D m (ws l)) (hn:n≤1000000) (hm:m≤1000000) (hp:putS h l=r):
  Calls Tryz.prog 96 #[.slice A n c,.slice D m d] w (RetHO w n r):=by
 subst hp
 have HL:Hid (h.length=n):=Lib.hid (by have:=hr.1;rw[cs_len]at this;omega)
 have HM:Hid (l.length=m):=Lib.hid (by have:=hl.1;rw[ws_len]at this;omega)
 have HR:=Lib.hid hr
 have HW:=Lib.hid hl
 clear hr hl
 go_enter Tryz.func96,Tryz.ntmps96
 go_wp2_with fail
 refine (clone_any h _ _ _ _ HR.out hn).mono ?_
 rintro e w1 ⟨v,rfl,ho⟩
 have HO:=Lib.hid ho
 clear ho
 go_wp2_with fail
 by_cases h1:checkS h l=0
 ·have H1:=Lib.hid h1
  have HV:Hid ((rightB h && l.all (fun w=>vB w.value))=true∧l.all (fun w=>liveAt h w.cell)=true):=Lib.hid (by
   unfold checkS at h1
   split at h1
   ·rename_i ha
    split at h1
    ·rename_i hb;exact ⟨ha,hb⟩
    ·simp at h1
   ·simp at h1)
  have HF:Hid (putS h l=(putAll h l,0)):=Lib.hid (by unfold putS;rw[if_pos HV.out.1,if_pos HV.out.2])
  have hnz:0<n:=by
   have:=right_len h (by have:=HV.out.1;rw[Bool.and_eq_true]at this;exact this.1)
   rw[←HL.out];exact this.1
  clear h1
  refine (check_any h l _ _ _ _ _ _ _ 0 (HR.out.below HO.out.2) (HW.out.below HO.out.2) hn hm H1.out).mono ?_
  rintro e w2 ⟨rfl,b2⟩
  have HO2:=Lib.hid (HO.out.below b2)
  clear b2 HO
  obtain ⟨g,cap,rfl⟩:=own_lay HO2.out hnz
  go_wp2_with fail
  go_loopw [21] (fun i wr=>∃j:Nat,j≤m∧i=.int .i64 j∧Hid (Own w wr 117 2 (.slice (some ⟨g,0,none⟩) n cap) n (cs (putAll h (l.take j))))) (fun i _=>m - (intOf i).toNat)
  case atStart=>exact ⟨0,Nat.zero_le _,rfl,HO2⟩
  case round=>
   obtain ⟨j,hj,rfl,hown⟩:=hrel
   by_cases hlt:j<m
   ·obtain ⟨b,off,⟨cl,vl⟩,rfl,hx,c0,c1⟩:=at_write (HW.out.below hown.out.2) j hlt
    have ht:=Lib.hid (putAll_take h l j _ hx)
    have hlv:liveAt (putAll h (l.take j)) cl=true:=live_putAll _ _ _ (List.all_eq_true.1 HV.out.2 _ (List.mem_of_getElem? hx))
    obtain ⟨q0,q1,x,hxx,hxl⟩:=live_in _ cl hlv
    obtain ⟨k,rfl⟩:=Int.eq_ofNat_of_zero_le q0
    simp only[Int.toNat_natCast]at hxx q1
    rw[putAll_len]at q1
    have hkn:k<n:=by rw[←HL.out];exact q1
    have hne:g≠wr.heap.size:=by
     have:=cell_lt ((hown.out.1.cellAt (k * 2) (by omega)).trans (cs_0 _ k (by rw[putAll_len,HL.out];exact hkn)))
     simp at this;omega
    have HA:=Lib.hid (hown.out.alloc (.cells #[.int .i64 (k:Int),.int .i64 vl] 97))
    have f1:=HA.out.1.frozenAt (k * 2+1)
    have d1:=(HA.out.1.cellAt (k * 2+1) (by omega)).trans (cs_1 _ k (by rw[putAll_len,HL.out];exact hkn))
    have HS:=Lib.hid (cs_set1 _ k x vl hxx)
    have HXL:=Lib.hid hxl
    clear hx hlv hxx hxl q0 q1
    go_wp2
    go_roundw
    case rel=>
     refine ⟨j+1,by omega,by go_num,Lib.hid ?_⟩
     have:=own_set HA.out (k * 2+1) (.int .i64 vl)
     rw[HS.out,HXL.out]at this
     rw[ht.out]
     unfold setAt
     rw[if_neg (by simp)]
     exact this
    case measure=>simp[intOf];omega
   ·have HT:Hid (l.take j=l):=Lib.hid (List.take_of_length_le (by rw[HM.out];omega))
    have HO3:Hid (Own w wr 117 2 (.slice (some ⟨g,0,none⟩) n cap) n (cs (putAll h l))):=Lib.hid (by have:=hown.out;rwa [HT.out]at this)
    go_wp2
    go_ret2
    exact ⟨_,by rw[HF.out];rfl,by rw[HF.out];exact HO3.out⟩
 ·have HF:Hid (putS h l=(h,checkS h l)):=Lib.hid (by
   unfold checkS at h1 ⊢;unfold putS
   split
   ·rename_i ha
    split
    ·rename_i hb;exact absurd (by rw[if_pos ha,if_pos hb]) h1
    ·rfl
   ·rfl)
  have t1:(checkS h l !=0)=true:=by simpa using h1
  clear h1
  refine (check_any h l _ _ _ _ _ _ _ _ (HR.out.below HO.out.2) (HW.out.below HO.out.2) hn hm rfl).mono ?_
  rintro e w2 ⟨rfl,b2⟩
  have HO2:=Lib.hid (HO.out.below b2)
  clear b2 HO
  obtain ⟨B,q,rfl,hrd⟩:=HO2.out.form
  have HD:=Lib.hid hrd
  clear hrd
  go_wp2_with fail
  go_ret2
  exact ⟨_,by rw[HF.out];rfl,by rw[HF.out];exact HO2.out⟩
end Go.Proofs.YtgghaodcfgbjlaaGreat.Heap
namespace Go.Proofs.YtgghaodcfgbjlaaGreat
open Go.ChangeShapes Go.WideShapes Go.ChangeAt Go.RowKit
theorem rdy {P:Program} {md:Region.Mode} {ops:Array Oper} {Q:Exit→Act→World→Prop} {S:World→Prop} (i:Nat) {o:Oper} {fuel:Nat} {listed:Array Bool} {a:Act} {w:World} (ho:ops[i]?=some o)
  (h:∀K' :Act→World→Prop,Shut (∀a w,S w→(S w→wpAnyH P md ops Q S fuel (listed.setIfInBounds i true) a w)→K' a w)→if Region.wanted o (yielded ops a.tmps)=true then Oper.wp P o a w K' Q else K' (a.put o.dst undef) w) (hr:Region.ready md ops listed= [i]:=by kernel_rfl):wpAnyH P md ops Q S (fuel+1) listed a w:=
 wpAnyH_ready hr (by simp) (AllReadyH.cons ho h AllReadyH.nil)
theorem Lh {p:Prop} (h:p):Hid p:=Lib.hid h
theorem tk {P:Program} {md:Region.Mode} {ops:Array Oper} {Q:Exit→Act→World→Prop} {S:World→Prop} (i:Nat) {oi:Oper} (v:Value) {fuel:Nat} {listed:Array Bool} {a:Act} {w:World} (hi:ops[i]?=some oi) (hS:S w)
  (h:wpAnyH P md ops Q S fuel (listed.setIfInBounds i true) (a.put oi.dst v) w)
  (hs:Region.noSelect ops=true:=by kernel_rfl) (hf:Region.free md ops listed i=true:=by kernel_rfl) (hr:(Region.ready md ops listed).contains i=true:=by kernel_rfl)
  (hQ:∀c a w,Q (.panic c) (a.put oi.dst v) w→Q (.panic c) a w:=by exact fun _ _ _ h=>h) (hy:YieldsIf P ops S oi v a:=by exact Or.inl ⟨by kernel_rfl,fun W hS=>by go_simp⟩):wpAnyH P md ops Q S (fuel+1) listed a w:=
 wpAnyH_take hi hs hf hr hQ hy hS h
end Go.Proofs.YtgghaodcfgbjlaaGreat
