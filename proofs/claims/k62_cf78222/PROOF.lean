import PyProof.Rows.All
import Wide.All
import OpenK.AllK
import Wide.FinOn
import Lean
import PyProof.EqAt
import PyProof.EqKinds
import PyProof.TupleCall
import PySem.Challenge.RW_dimhouse_k62_whole_writing_cut_off
set_option Elab.async false
set_option linter.all false
namespace P62
open PySem PySem.W PyProof.Rows
section
local macro_rules | `(tactic| o_head $_) => `(tactic| exact (by assumption : ∀ p : Prop, p) _)
set_option maxRecDepth 100000 in
set_option maxHeartbeats 0 in
theorem pre (h0:∀ p:Prop,p):PySem.Challenge.rw_dimhouse_k62_whole_writing_cut_off.row.Holds:=by
  k_head
end
def seen:Program:={PySem.Challenge.pw_dimhouse_k62_whole_writing_cut_off with main:={PySem.Challenge.pw_dimhouse_k62_whole_writing_cut_off.main with body:=[0,2,4,5,6,7,8,9,10,11,12,13,14,15,16].filterMap fun i=>PySem.Challenge.pw_dimhouse_k62_whole_writing_cut_off.main.body[i]?}}
noncomputable abbrev hook:Hook:=kHook P62.pre.heap_1 [2,3,15,17,18,20,21,29,32,33,34,36,37,39,40,41,43,44,46,47,48,50,51,53,54,55,57,58,60,61,62,64,65,67,68,69,71,72,74,75,76,78,79,81,82,83,85,86,88,89,90,92,93,95,96,97,99,100,102,103,104,106,107,109,110,111,113,114,116,117,118,120,121,123,124,125,126,127,128,129,132,134,135,137,138,139,141,142,144,145,146,149,150,151,153,154,156,157,158,161,162,163,165,166,168,169,170,173,174,175,177,178,180,181,182,184,185,187,188,189,191,192,194,195,196,198,199,201,202,203,205,206,208,209,210,213,214] (fun _=>by kernel_rfl)
theorem map_two {α β γ:Type} {x:Option α} {f:α→β} {g:α→γ} {a:β} {b:γ} (h:x.map f=some a) (h':x.map g=some b):x.map (fun s=>(f s,g s))=some (a,b):=by
  cases x with
  | none=>cases h
  | some s=>simp only [Option.map_some,Option.some.injEq] at h h' ⊢;rw [h,h']
set_option maxRecDepth 100000 in
set_option maxHeartbeats 0 in
theorem run_false (w:World):(fencedOpening treeTable PySem.Challenge.rw_dimhouse_k62_whole_writing_cut_off.row.prog w 2316).map (fun s₀=>(topFrom treeTable PySem.Challenge.rw_dimhouse_k62_whole_writing_cut_off.row.prog (w.withFollow "special-get-raises" false) 2316 s₀).map (fun s=>(openSeen seen [] (importedModules PySem.Challenge.rw_dimhouse_k62_whole_writing_cut_off.row.prog.main.body) (fun s=>xlAt seen [] s&&recOk (RowW.records (OpenRow.toRowW PySem.Challenge.rw_dimhouse_k62_whole_writing_cut_off.row)) s) true s,Hook.obs hook s)))=some (some (openGood seen [],Hook.val hook (w.withFollow "special-get-raises" false))):=by
  kernel_rfl
set_option maxRecDepth 100000 in
set_option maxHeartbeats 0 in
theorem run_true (w:World):(fencedOpening treeTable PySem.Challenge.rw_dimhouse_k62_whole_writing_cut_off.row.prog w 2316).map (fun s₀=>(topFrom treeTable PySem.Challenge.rw_dimhouse_k62_whole_writing_cut_off.row.prog (w.withFollow "special-get-raises" true) 2316 s₀).map (fun s=>(openSeen seen [] (importedModules PySem.Challenge.rw_dimhouse_k62_whole_writing_cut_off.row.prog.main.body) (fun s=>xlAt seen [] s&&recOk (RowW.records (OpenRow.toRowW PySem.Challenge.rw_dimhouse_k62_whole_writing_cut_off.row)) s) true s,Hook.obs hook s)))=some (some (openGood seen [],Hook.val hook (w.withFollow "special-get-raises" true))):=by
  kernel_rfl
end P62
set_option maxRecDepth 100000
set_option maxHeartbeats 4000000
noncomputable section
def bS {α β:Type _} {o:Option α} {f:α->Option β} {b:β} (h:o.bind f=some b):∃ a,o=some a/\f a=some b:=Option.bind_eq_some_iff.mp h
def mS {α β:Type _} {o:Option α} {f:α->β} {b:β} (h:o.map f=some b):∃ a,o=some a/\f a=b:=Option.map_eq_some_iff.mp h
def gX {α:Type _} {l:List α} {i:Nat} {a:α} (h:l[i]?=some a):∃ z:i<l.length,l[i]=a:=List.getElem?_eq_some_iff.mp h
open PySem PySem.Spec PyProof.Rows in abbrev gN := @List.getElem?_set_ne
open PySem PySem.Spec PyProof.Rows in abbrev gP := @Heap.get?_push_of_some
open PySem PySem.Spec PyProof.Rows in abbrev wB := @wpAny_bind
open PySem PySem.Spec PyProof.Rows in abbrev gL := @List.getElem?_append_left
open PySem PySem.Spec PyProof.Rows in abbrev gR := @List.getElem?_append_right
open PySem PySem.Spec PyProof.Rows in abbrev gQ := @List.getElem?_eq_getElem
open PySem PySem.Spec PyProof.Rows in abbrev nL := @Nat.le_refl
set_option maxRecDepth 100000
namespace L2
open PySem PySem.Spec PyProof.Rows
abbrev Key:=Sum Int Str
def ko:Key->Value->Bool
 | .inl k,v=>Value.isInt k v
 | .inr x,v=>Value.isStrOf x v
def keyH (w:World):Key->Int
 | .inl k=>hashInt k
 | .inr x=>hashStr w x
def bJ:∀ {k:Key} {v:Value},ko k v=true->(∃ i t,k=Sum.inl i/\v=Value.int i t)∨(∃ x t,k=Sum.inr x/\v=Value.str x t)
 | .inl i,v,h=>by
  obtain ⟨t,e⟩:=Value.isInt_shape (k:=i) (v:=v) h
  exact .inl ⟨i,t,rfl,e⟩
 | .inr x,v,h=>by
  obtain ⟨t,e⟩:=Value.isStrOf_shape (x:=x) (v:=v) h
  exact .inr ⟨x,t,rfl,e⟩
def qq (i:Int) (t:Tok):ko (.inl i) (.int i t)=true:=by simp [ko,Value.isInt]
def qr (x:Str) (t:Tok):ko (.inr x) (.str x t)=true:=by simp [ko,Value.isStrOf]
def xl (a b:Int):decide ((Sum.inl a:Key)=Sum.inl b)=(a==b):=by
 by_cases e:a=b
 · subst e;simp
 · have h:¬ (Sum.inl a:Key)=Sum.inl b:=fun q=>e (Sum.inl.inj q)
   rw [decide_eq_false h]
   exact (beq_eq_false_iff_ne.mpr e).symm
def xm (a b:Str):decide ((Sum.inr a:Key)=Sum.inr b)=decide (a=b):=by
 by_cases e:a=b
 · subst e;simp
 · have h:¬ (Sum.inr a:Key)=Sum.inr b:=fun q=>e (Sum.inr.inj q)
   rw [decide_eq_false h,decide_eq_false e]
def xn (a:Int) (b:Str):decide ((Sum.inl a:Key)=Sum.inr b)=false:=decide_eq_false (fun q=>nomatch q)
def xo (a:Str) (b:Int):decide ((Sum.inr a:Key)=Sum.inl b)=false:=decide_eq_false (fun q=>nomatch q)
noncomputable def bp (prog:Program) (w:World):PySem.KeyKind prog w Key where
 is:=ko
 hash:=keyH w
 inj:=fun v a b ha hb=>by
  rcases bJ ha with ⟨i,t,rfl,rfl⟩ | ⟨x,t,rfl,rfl⟩
  · rcases bJ hb with ⟨j,u,rfl,e⟩ | ⟨y,u,rfl,e⟩
    · injection e with e1 _;rw [e1]
    · exact nomatch e
  · rcases bJ hb with ⟨j,u,rfl,e⟩ | ⟨y,u,rfl,e⟩
    · exact nomatch e
    · injection e with e1 _;rw [e1]
 byValue:=fun k v h=>by
  rcases bJ h with ⟨i,t,rfl,rfl⟩ | ⟨x,t,rfl,rfl⟩<;>rfl
 pyHash:=fun hv h=>by
  rcases bJ hv with ⟨i,t,rfl,rfl⟩ | ⟨x,t,rfl,rfl⟩
  · exact wpAny_pyHash_int h
  · exact wpAny_pyHash_str h
 eqBool:=fun hu hv h=>by
  rcases bJ hu with ⟨i,t,rfl,rfl⟩ | ⟨x,t,rfl,rfl⟩
  · rcases bJ hv with ⟨j,u,rfl,rfl⟩ | ⟨y,u,rfl,rfl⟩
    · rw [xl] at h;exact wpAny_eqBool_int h
    · rw [xn] at h;exact SeqAt.EqAt.int_str i t y u _ _ _ _ h
  · rcases bJ hv with ⟨j,u,rfl,rfl⟩ | ⟨y,u,rfl,rfl⟩
    · rw [xo] at h;exact SeqAt.EqAt.str_int x t j u _ _ _ _ h
    · rw [xm] at h;exact wpAny_eqBool_str h
 «strs»:=fun k x t v h=>by
  rcases bJ h with ⟨i,u,rfl,e⟩ | ⟨y,u,rfl,e⟩
  · exact nomatch e
  · injection e with e1 _
    subst e1
    cases v<;>rfl
def mx (prog:Program) (w:World) (i:Int) (t:Tok):(bp prog w).is (.inl i) (.int i t)=true:=qq i t
def my (prog:Program) (w:World) (x:Str) (t:Tok):(bp prog w).is (.inr x) (.str x t)=true:=qr x t
inductive V where
 | non | bl (b:Bool) | int (i:Int) | str (x:Str) | byt (b:Array UInt8) | flt (b:UInt64) | ref (a:Addr) | ty (n:String)
 deriving DecidableEq
noncomputable def RelV:V->Value->Prop
 | .non,u=>u=Value.none
 | .bl b,u=>u=Value.bool b
 | .int i,u=>∃ t,u=Value.int i t
 | .str x,u=>∃ t,u=Value.str x t
 | .byt b,u=>∃ t,u=Value.bytes b t
 | .flt b,u=>∃ t,u=Value.float b t
 | .ref a,u=>u=Value.ref a
 | .ty n,u=>u=Value.type n
abbrev Vals:List V->List Value->Prop:=Paired RelV
def Vals.length {xs:List V} {us:List Value} (r:Vals xs us):xs.length=us.length:=Paired.length r
def Vals.get:∀ {xs:List V} {us:List Value} {i:Nat} {x:V},Vals xs us->xs[i]?=some x->∃ u,us[i]?=some u/\RelV x u
 | _,_,_,_,.nil,e=>by simp at e
 | _,_,0,_,.cons r _,e=>by simp at e;subst e;exact ⟨_,rfl,r⟩
 | _,_,i+1,x,.cons _ t,e=>by
  obtain ⟨u,h1,h2⟩:=Vals.get (i:=i) (x:=x) t (by simpa using e)
  exact ⟨u,by simpa using h1,h2⟩
def Vals.set {x:V} {u:Value} (r:RelV x u):∀ {xs:List V} {us:List Value} (i:Nat),Vals xs us->Vals (xs.set i x) (us.set i u)
 | _,_,_,.nil=>.nil
 | _,_,0,.cons _ t=>.cons r t
 | _,_,i+1,.cons q t=>.cons q (Vals.set r i t)
def Vals.append:∀ {xs ys:List V} {us ws:List Value},Vals xs us->Vals ys ws->Vals (xs++ys) (us++ws)
 | _,_,_,_,.nil,s=>s
 | _,_,_,_,.cons r t,s=>.cons r (Vals.append t s)
def Vals.take:∀ {xs:List V} {us:List Value} (n:Nat),Vals xs us->Vals (xs.take n) (us.take n)
 | _,_,0,_=>.nil
 | _,_,_+1,.nil=>.nil
 | _,_,n+1,.cons r t=>.cons r (Vals.take n t)
def Vals.drop:∀ {xs:List V} {us:List Value} (n:Nat),Vals xs us->Vals (xs.drop n) (us.drop n)
 | _,_,0,r=>r
 | _,_,_+1,.nil=>.nil
 | _,_,n+1,.cons _ t=>Vals.drop n t
def RelO:Option V->Option Value->Prop
 | some v,some u=>RelV v u
 | none,none=>True
 | _,_=>False
def KV {κ:Type}:List (κ×V)->List (κ×Value)->Prop:=Paired fun (p:κ×V) (q:κ×Value)=>p.1=q.1/\RelV p.2 q.2
def kV:Key->V
 | .inl i=>.int i
 | .inr x=>.str x
inductive HO where
 | lst (xs:List V)
 | tup (xs:List V)
 | dK (kvs:List (Key×V)) | dT (kvs:List (List Key×V))
 | set (S:Int->Bool) (n:Nat)
 | ins (C dx:Addr) (fs:List (Str×V))
 | own (x:Addr)
 | xd (fs:List (Str×V))
 | met (f x:Addr)
 | rng (lo hi:Int)
 | frz (o:Obj) (u:HO)
 | tbl (ps:Array Value)
 | ext (φ:Heap->Prop)
abbrev Hp:=Addr->Option HO
def upd (H:Hp) (a:Addr) (o:HO):Hp:=fun b=>if b=a then some o else H b
def az {H:Hp} {a:Addr} {o:HO}:upd H a o a=some o:=by unfold upd;rw [if_pos rfl]
def aF {H:Hp} {a b:Addr} {o:HO} (h:b≠a):upd H a o b=H b:=by unfold upd;rw [if_neg h]
def wx {H:Hp} {a b:Addr} {o u:HO} (h:H a=some o) (h':H b=some u) (d:o≠u):a≠b:=by
 intro e;subst e;rw [h] at h';exact d (Option.some.inj h')
def bW {H:Hp} {a b:Addr} {o:HO} (h:H a=some o) (h':H b=none):a≠b:=by
 intro e;subst e;rw [h] at h';cases h'
section
variable (P:Program) (w:World)
noncomputable def ObjOk (H:Hp) (h:Heap) (a:Addr):HO->Prop
 | .lst xs=>xs.length<=sizeLine/\∃ (its:List Value) (n:Nat),Vals xs its/\h.get? a=some {cls:=.type "list",data:=.seq its.toArray n}
 | .tup xs=>xs.length<=sizeLine/\∃ its:List Value,Vals xs its/\IsTup h a its.toArray
 | .dK kvs=>kvs.length<=sizeLine/\(a==sysModules)=false/\∃ vs,KV kvs vs/\h.DictOf (bp P w) a vs
 | .dT kvs=>kvs.length<=sizeLine/\(a==sysModules)=false/\∃ xs:List (List Key×Addr×Value),
     Paired (fun (p:List Key×V) (q:List Key×Addr×Value)=>p.1=q.1/\H q.2.1=some (.tup (p.1.map kV))/\RelV p.2 q.2.2) kvs xs∧
     ∃ o es ep,h.get? a=some o/\o.ExactDict/\o.data=.dict es ep/\es.toList=xs.map (entryOfKey (tupleKind (bp P w)))/\(xs.map (·.1)).Nodup
 | .set S n=>h.SetOf (intKind P w) a S n
 | .ins C dx fs=>H dx=some (.own a)/\fs.length<=1000/\dx≠a/\h.get? a=some (PySem.W.instObj C dx)∧
     ∃ mA,h.Ns1 dx mA/\(∀ f,RelO (fs.lookup f) (mA f))/\PySem.Within mA (fs.map (·.1))
 | .own _=>∃ o,h.get? a=some o
 | .xd fs=>∃ mA,h.Ns1 a mA/\∀ f,RelO (fs.lookup f) (mA f)
 | .rng lo hi=>∃ t u v,h.get? a=some {cls:=.type "range",data:=.fields #[.int lo t,.int hi u,.int 1 v]}
 | .frz o u=>h.get? a=some o/\ObjOk H h a u
 | .tbl ps=>h.get? a=some {cls:=.none,data:=.fields ps}
 | .met f x=>h.get? a=some (PySem.W.methodObj (.ref f) (.ref x))
 | .ext φ=>φ h/\(∃ o,h.get? a=some o)/\∀ h1 h2:Heap,φ h1->(∀ o,h1.get? a=some o->h2.get? a=some o)->φ h2
def HOk (H:Hp) (h:Heap):Prop:=∀ a o,H a=some o->ObjOk P w H h a o
end
section
variable {P:Program} {w:World} {H H':Hp} {h h':Heap} {a:Addr} {o:HO}
def ObjOk.lt (x:ObjOk P w H h a o):a<h.objs.size:=by
 cases o with
 | lst xs=>obtain ⟨_,_,_,_,e⟩:=x;exact Heap.lt_size e
 | tup xs=>obtain ⟨_,_,_,p⟩:=x;exact p.lt
 | dK kvs=>obtain ⟨_,_,_,_,o,_,_,e,_⟩:=x;exact Heap.lt_size e
 | dT kvs=>obtain ⟨_,_,_,_,o,_,_,e,_⟩:=x;exact Heap.lt_size e
 | set S n=>obtain ⟨o,_,_,_,e,_⟩:=x;exact Heap.lt_size e
 | ins C dx fs=>obtain ⟨_,_,_,e,_⟩:=x;exact Heap.lt_size e
 | own y=>obtain ⟨_,e⟩:=x;exact Heap.lt_size e
 | xd fs=>obtain ⟨_,⟨_,_,_,e,_⟩,_⟩:=x;exact Heap.lt_size e
 | rng lo hi=>obtain ⟨_,_,_,e⟩:=x;exact Heap.lt_size e
 | frz ob u=>obtain ⟨e,_⟩:=x;exact Heap.lt_size e
 | tbl ps=>exact Heap.lt_size (show h.get? a=some _ from x)
 | met f y=>exact Heap.lt_size (show h.get? a=some _ from x)
 | ext φ=>obtain ⟨_,⟨_,e⟩,_⟩:=x;exact Heap.lt_size e
def Paired.mapP {α β:Type} {F G:α->β->Prop}:∀ {l₁:List α} {l₂:List β},Paired F l₁ l₂->(∀ a b,F a b->G a b)->Paired G l₁ l₂
 | _,_,.nil,_=>.nil
 | _,_,.cons r t,f=>.cons (f _ _ r) (Paired.mapP t f)
def ObjOk.stay (x:ObjOk P w H h a o) (k:∀ b u,(b=a∨H b=some (.own a))->h.get? b=some u->h'.get? b=some u)
  (ho:∀ b,H b=some (.own a)->H' b=some (.own a)) (ht:∀ b xs,H b=some (.tup xs)->H' b=some (.tup xs)):ObjOk P w H' h' a o:=by
 induction o with
 | lst xs=>obtain ⟨z,its,n,r,e⟩:=x;exact ⟨z,its,n,r,k _ _ (.inl rfl) e⟩
 | tup xs=>obtain ⟨z,its,r,ob,e,c⟩:=x;exact ⟨z,its,r,ob,k _ _ (.inl rfl) e,c⟩
 | dK kvs=>obtain ⟨z,y,vs,r,ob,es,ep,e,c⟩:=x;exact ⟨z,y,vs,r,ob,es,ep,k _ _ (.inl rfl) e,c⟩
 | dT kvs =>
  obtain ⟨z,y,xs,r,ob,es,ep,e,c⟩:=x
  exact ⟨z,y,xs,Paired.mapP r fun p q z=>⟨z.1,ht _ _ z.2.1,z.2.2⟩,ob,es,ep,k _ _ (.inl rfl) e,c⟩
 | set S n=>obtain ⟨ob,es,ep,t,e,c⟩:=x;exact ⟨ob,es,ep,t,k _ _ (.inl rfl) e,c⟩
 | ins C dx fs =>
  obtain ⟨d,z,ne,e,mA,⟨od,es,ep,e2,c⟩,r⟩:=x
  exact ⟨ho _ d,z,ne,k _ _ (.inl rfl) e,mA,⟨od,es,ep,k _ _ (.inr d) e2,c⟩,r⟩
 | own y=>obtain ⟨ob,e⟩:=x;exact ⟨ob,k _ _ (.inl rfl) e⟩
 | xd fs=>obtain ⟨mA,⟨od,es,ep,e,c⟩,r⟩:=x;exact ⟨mA,⟨od,es,ep,k _ _ (.inl rfl) e,c⟩,r⟩
 | rng lo hi=>obtain ⟨t,u,v,e⟩:=x;exact ⟨t,u,v,k _ _ (.inl rfl) e⟩
 | frz ob u ih=>obtain ⟨e,q⟩:=x;exact ⟨k _ _ (.inl rfl) e,ih q⟩
 | tbl ps =>
  have e:h.get? a=some {cls:=.none,data:=.fields ps}:=x
  show h'.get? a=some {cls:=.none,data:=.fields ps}
  exact k a _ (.inl rfl) e
 | met f y =>
  have e:h.get? a=some (PySem.W.methodObj (.ref f) (.ref y)):=x
  show h'.get? a=some (PySem.W.methodObj (.ref f) (.ref y))
  exact k a _ (.inl rfl) e
 | ext φ=>obtain ⟨p,⟨o,e⟩,st⟩:=x;exact ⟨st _ _ p fun o q=>k _ _ (.inl rfl) q,⟨o,k _ _ (.inl rfl) e⟩,st⟩
def HOk.lt (x:HOk P w H h) (e:H a=some o):a<h.objs.size:=(x a o e).lt
def HOk.fresh (x:HOk P w H h) (e:h.objs.size<=a):H a=none:=by
 cases q:H a with
 | none=>rfl
 | some u=>exact absurd (Nat.lt_of_lt_of_le (x.lt q) e) (Nat.lt_irrefl _)
def HOk.kept (x:HOk P w H h) (k:∀ b u,h.get? b=some u->h'.get? b=some u):HOk P w H h':=fun a o e =>
 (x a o e).stay (fun b u _ q=>k b u q) (fun _ q=>q) fun _ _ q=>q
def HOk.laid (x:HOk P w H h) (k:∀ b u,h.get? b=some u->h'.get? b=some u) (hp:h.objs.size<=a) (new:ObjOk P w (upd H a o) h' a o):HOk P w (upd H a o) h':=fun b u e=>by
 have hn:=x.fresh hp
 by_cases hb:b=a
 · subst hb;rw [az] at e;cases e;exact new
 · rw [aF hb] at e
   exact (x b u e).stay (fun c v _ q=>k c v q) (fun c q=>by rw [aF (bW q hn)];exact q) fun c xs q=>by rw [aF (bW q hn)];exact q
end
def Rd (H:Hp) (a:Addr) (u:HO):Prop:=H a=some u∨∃ o,H a=some (.frz o u)
def Rd.ok {P:Program} {w:World} {H:Hp} {h:Heap} {a:Addr} {u:HO} (r:Rd H a u) (x:HOk P w H h):ObjOk P w H h a u:=by
 rcases r with r | ⟨o,r⟩
 · exact x a u r
 · obtain ⟨_,q⟩:=x a _ r
   exact q
def Mut:Option HO->Prop
 | some (.lst _)=>True
 | some (.dK _)=>True
 | some (.dT _)=>True
 | some (.set _ _)=>True
 | some (.ins _ _ _)=>True
 | some (.ext _)=>True
 | _=>False
section
variable {P:Program} {w:World} {H:Hp} {h h':Heap} {x e:Addr} {o':HO}
def HOk.write (ok:HOk P w H h) (mu:Mut (H x)) (he:e=x∨H e=some (.own x)) (k:∀ b u,b≠e->h.get? b=some u->h'.get? b=some u) (heo:∃ u,h'.get? e=some u)
  (new:ObjOk P w (upd H x o') h' x o'):HOk P w (upd H x o') h':=fun b u q=>by
 have nown:∀ c y,H c=some (.own y)->c≠x:=fun c y r z=>by subst z;rw [r] at mu;exact mu
 have ntup:∀ c xs,H c=some (.tup xs)->c≠x:=fun c xs r z=>by subst z;rw [r] at mu;exact mu
 by_cases hb:b=x
 · subst hb;rw [az] at q;cases q;exact new
 · rw [aF hb] at q
   by_cases hbe:b=e
   · have q':H b=some (.own x):=by
      rcases he with z | z
      · exact absurd (hbe.trans z) hb
      · rw [hbe];exact z
     rw [q] at q';cases q'
     obtain ⟨v,hv⟩:=heo
     exact ⟨v,by rw [hbe];exact hv⟩
   · refine (ok b u q).stay (fun c v hc r=>k c v ?_ r) (fun c r=>by rw [aF (nown c b r)];exact r) fun c xs r=>by rw [aF (ntup c xs r)];exact r
     rcases hc with rfl | hc
     · exact hbe
     · rintro rfl
       rcases he with z | z
       · exact nown c b hc z
       · rw [hc] at z;cases z;exact hb rfl
end
structure Un (fs ex:List Addr) (H H':Hp) (h h':Heap):Prop where
 keep:∀ b o,h.get? b=some o->H b=none->b∉fs->b∉ex->h'.get? b=some o
 slot:∀ b o,h.get? b=some o->H b=none->b∈fs->b∉ex->∃ sl,h'.get? b=some {o with slots:=sl}
 free:∀ b o,h.get? b=some o->H b=none->b∉ex->H' b=none
 there:∀ b o,h.get? b=some o->b∉ex->∃ o',h'.get? b=some o'
 tups:∀ b xs,H b=some (.tup xs)->H' b=some (.tup xs)
 frzs:∀ b o u,H b=some (.frz o u)->H' b=some (.frz o u)
 tbls:∀ b ps,H b=some (.tbl ps)->∃ more,H' b=some (.tbl (ps++more))
section
variable {fs fs' ex ex':List Addr} {H H1 H2:Hp} {h h1 h2 h':Heap} {a x e:Addr} {o:HO}
def Un.any (u:Un fs ex H H1 h h1) {b:Addr} {ob:Obj} (q:h.get? b=some ob) (n:H b=none) (hx:b∉ex):∃ sl,h1.get? b=some {ob with slots:=sl}:=by
 by_cases hb:b∈fs
 · exact u.slot b ob q n hb hx
 · exact ⟨ob.slots,u.keep b ob q n hb hx⟩
def Un.trans (a:Un fs ex H H1 h h1) (b:Un fs ex H1 H2 h1 h2):Un fs ex H H2 h h2 where
 keep:=fun c ob q n hc hx=>b.keep c ob (a.keep c ob q n hc hx) (a.free c ob q n hx) hc hx
 slot:=fun c ob q n hc hx=>by
  obtain ⟨sl,e1⟩:=a.slot c ob q n hc hx
  obtain ⟨sl',e2⟩:=b.slot c _ e1 (a.free c ob q n hx) hc hx
  exact ⟨sl',e2⟩
 free:=fun c ob q n hx=>by
  obtain ⟨o',e1⟩:=a.there c ob q hx
  exact b.free c o' e1 (a.free c ob q n hx) hx
 there:=fun c ob q hx=>by
  obtain ⟨o',e1⟩:=a.there c ob q hx
  exact b.there c o' e1 hx
 tups:=fun c xs q=>b.tups c xs (a.tups c xs q)
 frzs:=fun c ob xs q=>b.frzs c ob xs (a.frzs c ob xs q)
 tbls:=fun c ps q=>by
  obtain ⟨m1,e1⟩:=a.tbls c ps q
  obtain ⟨m2,e2⟩:=b.tbls c _ e1
  exact ⟨m1++m2,by rw [e2,Array.append_assoc]⟩
def Un.kept (k:∀ b u,h.get? b=some u->h'.get? b=some u):Un fs ex H H h h':=
 ⟨fun b ob q _ _ _=>k b ob q,fun b ob q _ _ _=>⟨ob.slots,k b ob q⟩,fun _ _ _ n _=>n,fun b ob q _=>⟨ob,k b ob q⟩,fun _ _ q=>q,fun _ _ _ q=>q,fun _ ps q=>⟨#[],by rw [q];simp⟩⟩
def Un.refl:Un fs ex H H h h:=Un.kept fun _ _ q=>q
def Un.laid (k:∀ b u,h.get? b=some u->h'.get? b=some u) (hp:h.objs.size<=a) (hn:H a=none):Un fs ex H (upd H a o) h h' where
 keep:=fun b u q _ _ _=>k b u q
 slot:=fun b u q _ _ _=>⟨u.slots,k b u q⟩
 free:=fun b u q n _=>by rw [aF (Nat.ne_of_lt (Nat.lt_of_lt_of_le (Heap.lt_size q) hp))];exact n
 there:=fun b u q _=>⟨u,k b u q⟩
 tups:=fun b xs q=>by rw [aF (bW q hn)];exact q
 frzs:=fun b u xs q=>by rw [aF (bW q hn)];exact q
 tbls:=fun b ps q=>⟨#[],by rw [aF (bW q hn),q];simp⟩
def Un.write (mu:Mut (H x)) (he:e=x∨H e=some (.own x)) (k:∀ b u,b≠e->h.get? b=some u->h'.get? b=some u) (heo:∃ u,h'.get? e=some u):Un fs ex H (upd H x o) h h':=by
 have hx:∀ b,H b=none->b≠x:=fun b n z=>by subst z;rw [n] at mu;exact mu
 have hb:∀ b,H b=none->b≠e:=fun b n z=>by
  subst z
  rcases he with r | r
  · exact hx b n r
  · rw [n] at r;cases r
 have hm:∀ b u,H b=some u->¬ Mut (some u)->b≠x:=fun b u q nm z=>by subst z;rw [q] at mu;exact nm mu
 refine ⟨fun b u q n _ _=>k b u (hb b n) q,fun b u q n _ _=>⟨u.slots,k b u (hb b n) q⟩,fun b u q n _=>by rw [aF (hx b n)];exact n,fun b u q _=>?_,
  fun b xs q=>by rw [aF (hm b _ q fun z=>z)];exact q,fun b u xs q=>by rw [aF (hm b _ q fun z=>z)];exact q,fun b ps q=>⟨#[],by rw [aF (hm b _ q fun z=>z),q];simp⟩⟩
 by_cases hbe:b=e
 · subst hbe;exact heo
 · exact ⟨u,k b u hbe q⟩
end
def trk (h:Heap) (H:Hp):List Addr:=(List.range h.objs.size).filter fun a=>(H a).isSome
def lr (h:Heap) (H:Hp):Heap:=PySem.W.hideAll h (trk h H)
def qu (h:Heap) (H:Hp):(lr h H).objs.size=h.objs.size:=PySem.W.hideAll_size _ _
def rF {h:Heap} {H:Hp} {b:Addr} {o:Obj} (e:h.get? b=some o) (n:H b=none):(lr h H).get? b=some o:=
 PySem.W.hideAll_get _ e fun hm=>by
  have q:(H b).isSome=true:=(List.mem_filter.mp hm).2
  rw [n] at q;simp at q
def uD {h:Heap} {H:Hp} {b:Addr} {o:Obj} (e:(lr h H).get? b=some o):h.get? b=some o/\H b=none:=by
 have e':h.get? b=some o:=PySem.W.of_hideAll (trk h H) e
 refine ⟨e',?_⟩
 cases q:H b with
 | none=>rfl
 | some x =>
  have hm:b∈trk h H:=List.mem_filter.mpr ⟨List.mem_range.mpr (Heap.lt_size e'),by simp [q]⟩
  have z:(lr h H).get? b=none:=PySem.W.hideAll_none (trk h H) hm
  rw [z] at e;cases e
def uE (g h:Heap) (L:Addr):List (Addr×Obj):=(List.range h.objs.size).filterMap fun a=>if a=L∨(g.get? a).isSome=true then none else (h.get? a).map fun o=>(a,o)
def rest (g h:Heap) (L d:Addr):List (Addr×Obj):=(uE g h L).filter fun p=>decide (p.1≠d)
structure Mod (K:PySem.W.Frag) (mg:Str->Option Value) (base:Heap):Prop where
 kin:K.In base
 glob:base.Ns mainGlobals mg
 blt:∃ mb,base.Ns builtinsNs mb/\∀ x:Str,x≠"__name__"->mb x=bootBuiltins x
 nolimit:base.NoLimit
structure Cx where
 prog:Program
 w:World
 K:PySem.W.Frag
 mg:Str->Option Value
 base:Heap
 A:Around
 N:List Str
 s₀:Shared
 H₀:Hp
 env:Env
 outer:List Env
 stack:List Env
 ex:List Addr
 fn:Str->Bool
 calm:Bool
 pn:List (Addr×Obj)
 xe:Value->Shared->Prop
def frs (l:List Env):List Addr:=l.filterMap (·.frame)
abbrev Cx.fs (X:Cx):List Addr:=frs X.outer
def Vis (sc:Scope) (x:Str):Prop:=sc.names.lookup x=some .local∨sc.names.lookup x=some .cell∨sc.names.lookup x=some .free
def Loc (sc:Scope) (x:Str):Prop:=sc.names.lookup x=some .local∨sc.names.lookup x=some .cell
noncomputable def Look (env:Env) (h:Heap) (m:Str->Option Value) (x:Str) (u:Value):Prop:=
 (env.kindOf x=some .local/\m x=some u)∨((env.kindOf x=some .cell∨env.kindOf x=some .free)/\∃ c,env.cells.lookup x=some c/\h.IsCell c (some u))
structure Cx.Ok (X:Cx):Prop where
 mod:Mod X.K X.mg X.base
 kind:X.env.scope.kind=.function
 glob:X.env.globals=mainGlobals
 blt:X.env.builtins=builtinsNs
 above:X.s₀.heap.objs.size<=X.env.locals
 inj:∀ x y c,X.env.cells.lookup x=some c->X.env.cells.lookup y=some c->x=y
 has:∀ x,(X.env.kindOf x=some .cell∨X.env.kindOf x=some .free)->∃ c,X.env.cells.lookup x=some c
 cab:∀ x c,X.fn x=true->X.env.cells.lookup x=some c->X.s₀.heap.objs.size<=c
 hd:X.calm=true->X.A.handled=none
 frames:X.A.frames=some X.stack
 stk:X.stack=X.outer∨(X.stack=X.env::X.outer/\X.env.frame=some X.env.locals)
 exf:∀ b∈X.ex,b≠X.env.locals/\∀ x c,X.env.cells.lookup x=some c->c≠b
 bs:∀ b o,X.base.get? b=some o->X.s₀.heap.get? b=some o/\X.H₀ b=none
 bsz:X.base.objs.size<=X.s₀.heap.objs.size
 noex:∀ b o,X.base.get? b=some o->b∉X.ex
 exfs:∀ b∈X.ex,b∉X.fs
 funs:X.s₀.heap.FunFrames X.base X.outer
 frf:∀ b∈X.fs,X.H₀ b=none
structure Inv (X:Cx) (pins:List (Addr×Obj)) (σ:List (Option V)) (H:Hp) (s:Shared):Prop where
 ok:X.Ok
 os:s.os=X.s₀.os
 bare:AllBare s.gens
 base:Un X.fs X.ex X.H₀ H X.s₀.heap s.heap
 loc:∃ m,s.heap.Ns X.env.locals m/\∀ (i:Nat) (x:Str) (v:V),X.N[i]?=some x->σ[i]?=some (some v)->Vis X.env.scope x->∃ u,RelV v u/\Look X.env s.heap m x u
 cell:∀ x c,X.env.cells.lookup x=some c->∃ v,s.heap.IsCell c v
 free:H X.env.locals=none
 freeC:∀ x c,X.env.cells.lookup x=some c->H c=none
 pin:∀ p∈X.pn++pins,s.heap.get? p.1=some p.2/\H p.1=none/\p.1≠X.env.locals/\p.1∉X.fs/\∀ v,p.2.data≠.cell v
 hok:HOk X.prog X.w H s.heap
 len:σ.length=X.N.length
section
variable {X:Cx} {pins:List (Addr×Obj)} {σ:List (Option V)} {H H':Hp} {s:Shared} {h':Heap}
def Cx.Ok.nofr (ok:X.Ok) {b:Addr} {o:Obj} (e:X.base.get? b=some o):b∉X.fs:=fun hb=>by
 have:=(ok.funs.mem hb).1
 rw [e] at this;cases this
def Inv.bs (I:Inv X pins σ H s):∀ b o,X.base.get? b=some o->s.heap.get? b=some o/\H b=none:=fun b o e =>
 ⟨I.base.keep b o (I.ok.bs b o e).1 (I.ok.bs b o e).2 (I.ok.nofr e) (I.ok.noex b o e),I.base.free b o (I.ok.bs b o e).1 (I.ok.bs b o e).2 (I.ok.noex b o e)⟩
def Inv.bk (I:Inv X pins σ H s):∀ b o,X.base.get? b=some o->s.heap.get? b=some o:=fun b o e=>(I.bs b o e).1
def Inv.mod (I:Inv X pins σ H s):Mod X.K X.mg X.base:=I.ok.mod
def Inv.kIn (I:Inv X pins σ H s):X.K.In s.heap:=I.ok.mod.kin.keeps I.bk
def Inv.fr (I:Inv X pins σ H s):∃ m,Fr X.base X.env.locals s.heap m:=
 let ⟨m,hn,_⟩:=I.loc
 ⟨m,hn,I.bk,Nat.le_trans I.ok.bsz I.ok.above⟩
def Inv.lt (I:Inv X pins σ H s):X.env.locals<s.heap.objs.size:=let ⟨_,hn,_⟩:=I.loc;hn.lt
def Inv.sz (I:Inv X pins σ H s):X.s₀.heap.objs.size<=s.heap.objs.size:=Nat.le_trans I.ok.above (Nat.le_of_lt I.lt)
def Inv.nofs (I:Inv X pins σ H s) {a:Addr} (h:s.heap.objs.size<=a):a∉X.fs:=fun hb=>by
 obtain ⟨_,o,ho,_⟩:=I.ok.funs.mem hb
 exact absurd (Nat.lt_of_lt_of_le (Heap.lt_size ho) (Nat.le_trans I.sz h)) (Nat.lt_irrefl _)
def Inv.cne (I:Inv X pins σ H s):∀ x c,X.env.cells.lookup x=some c->c≠X.env.locals:=fun x c e z=>by
 obtain ⟨v,o,ho,hd⟩:=I.cell x c e
 obtain ⟨m,⟨o',es,ep,ho',hd',_⟩,_⟩:=I.loc
 rw [z,ho'] at ho;cases ho;rw [hd'] at hd;cases hd
def Inv.funs (I:Inv X pins σ H s):s.heap.FunFrames X.base X.outer:=by
 have all:∀ (l:List Env),(∀ b∈frs l,b∈X.fs)->X.s₀.heap.FunFrames X.base l->s.heap.FunFrames X.base l:=by
  intro l
  induction l with
  | nil=>intro _ _;trivial
  | cons env r ih =>
   intro hs hl
   obtain ⟨hk,⟨L,o,hf,hn,ho,hd⟩,hr⟩:=hl
   have hL:L∈X.fs:=hs L (by unfold frs;rw [List.filterMap_cons,hf];exact List.mem_cons_self)
   obtain ⟨sl,e⟩:=I.base.slot L o ho (I.ok.frf L hL) hL fun z=>I.ok.exfs L z hL
   exact ⟨hk,⟨L,_,hf,hn,e,hd⟩,ih (fun b hb=>hs b (by unfold frs;rw [List.filterMap_cons,hf];exact List.mem_cons_of_mem _ hb)) hr⟩
 exact all X.outer (fun _ hb=>hb) I.ok.funs
def Inv.stack (I:Inv X pins σ H s):s.heap.FunFrames X.base X.stack:=by
 rcases I.ok.stk with e | ⟨e,hf⟩
 · rw [e];exact I.funs
 · rw [e]
   obtain ⟨m,hn,_⟩:=I.loc
   refine .cons (by rw [I.ok.kind];decide) hf hn ?_ I.funs
   exact Heap.get?_none_of_le (Nat.le_trans I.ok.bsz I.ok.above)
def Inv.stkSub (I:Inv X pins σ H s):∀ b∈frs X.stack,b∈X.env.locals::X.fs:=fun b hb=>by
 rcases I.ok.stk with e | ⟨e,hf⟩
 · rw [e] at hb;exact List.mem_cons_of_mem _ hb
 · rw [e] at hb
   unfold frs at hb
   rw [List.filterMap_cons,hf] at hb
   exact hb
def Inv.stkFree (I:Inv X pins σ H s):∀ b∈frs X.stack,H b=none:=fun b hb=>by
 rcases List.mem_cons.mp (I.stkSub b hb) with e | hb
 · rw [e];exact I.free
 · obtain ⟨_,o,ho,_⟩:=I.ok.funs.mem hb
   exact I.base.free b o ho (I.ok.frf b hb) fun z=>I.ok.exfs b z hb
def Inv.step {g':Array GenState} {t':Nat} {d':Drawn} {ch:List Addr} (I:Inv X pins σ H s)
  (hch:∀ b∈ch,(b∈X.ex∨X.s₀.heap.objs.size<=b)/\b≠X.env.locals/\(∀ x c,X.env.cells.lookup x=some c->c≠b)/\∀ p∈X.pn++pins,p.1≠b)
  (keep:∀ b o,b≠X.env.locals->b∉X.fs->b∉ch->s.heap.get? b=some o->H b=none->h'.get? b=some o)
  (slot:∀ b o,b≠X.env.locals->b∈X.fs->b∉ch->s.heap.get? b=some o->H b=none->∃ sl,h'.get? b=some {o with slots:=sl}) (free:∀ b o,b∉ch->s.heap.get? b=some o->H b=none->H' b=none)
  (there:∀ b o,b∉ch->s.heap.get? b=some o->∃ o',h'.get? b=some o')
  (tups:∀ b xs,H b=some (.tup xs)->H' b=some (.tup xs)) (frzs:∀ b o u,H b=some (.frz o u)->H' b=some (.frz o u)) (tbls:∀ b ps,H b=some (.tbl ps)->∃ more,H' b=some (.tbl (ps++more)))
  (ns:∀ m,s.heap.Ns X.env.locals m->h'.Ns X.env.locals m) (hok:HOk X.prog X.w H' h') (hg:AllBare g') :
  Inv X pins σ H' {s with heap:=h',gens:=g',drawn:=d',toks:=t'}:=by
 have neL:∀ b o,X.s₀.heap.get? b=some o->b≠X.env.locals:=fun b o e=>Nat.ne_of_lt (Nat.lt_of_lt_of_le (Heap.lt_size e) I.ok.above)
 have neC:∀ b o,X.s₀.heap.get? b=some o->b∉X.ex->b∉ch:=fun b o e hx hb=>by
  rcases (hch b hb).1 with z | z
  · exact hx z
  · exact absurd (Nat.lt_of_lt_of_le (Heap.lt_size e) z) (Nat.lt_irrefl _)
 have cellK:∀ x c,X.env.cells.lookup x=some c->∀ v,s.heap.IsCell c v->h'.IsCell c v:=fun x c e v ⟨o,ho,hd⟩=>by
  have nch:c∉ch:=fun z=>(hch c z).2.2.1 x c e rfl
  by_cases hc:c∈X.fs
  · obtain ⟨sl,q⟩:=slot c o (I.cne x c e) hc nch ho (I.freeC x c e)
    exact ⟨_,q,hd⟩
  · exact ⟨o,keep c o (I.cne x c e) hc nch ho (I.freeC x c e),hd⟩
 refine ⟨I.ok,I.os,hg,⟨fun b o e n hb hx=>?_,fun b o e n hb hx=>?_,fun b o e n hx=>?_,fun b o e hx=>?_,fun b xs e=>tups b xs (I.base.tups b xs e),fun b o xs e=>frzs b o xs (I.base.frzs b o xs e),fun b ps e=>?_⟩,?_,fun x c e=>?_,?_,fun x c e=>?_,fun p hp=>?_,hok,I.len⟩
 · exact keep b o (neL b o e) hb (neC b o e hx) (I.base.keep b o e n hb hx) (I.base.free b o e n hx)
 · obtain ⟨sl,e1⟩:=I.base.slot b o e n hb hx
   obtain ⟨sl',e2⟩:=slot b _ (neL b o e) hb (neC b o e hx) e1 (I.base.free b o e n hx)
   exact ⟨sl',e2⟩
 · obtain ⟨o',e1⟩:=I.base.there b o e hx
   exact free b o' (neC b o e hx) e1 (I.base.free b o e n hx)
 · obtain ⟨o',e1⟩:=I.base.there b o e hx
   exact there b o' (neC b o e hx) e1
 · obtain ⟨m1,e1⟩:=I.base.tbls b ps e
   obtain ⟨m2,e2⟩:=tbls b _ e1
   exact ⟨m1++m2,by rw [e2,Array.append_assoc]⟩
 · obtain ⟨m,hn,hl⟩:=I.loc
   refine ⟨m,ns m hn,fun i x v e1 e2 e3=>?_⟩
   obtain ⟨u,r,l⟩:=hl i x v e1 e2 e3
   refine ⟨u,r,?_⟩
   rcases l with l | ⟨k,c,e,z⟩
   · exact .inl l
   · exact .inr ⟨k,c,e,cellK x c e _ z⟩
 · obtain ⟨v,z⟩:=I.cell x c e
   exact ⟨v,cellK x c e v z⟩
 · obtain ⟨m,⟨o,_,_,ho,_⟩,_⟩:=I.loc
   exact free _ o (fun z=>(hch _ z).2.1 rfl) ho I.free
 · obtain ⟨v,o,ho,hd⟩:=I.cell x c e
   exact free c o (fun z=>(hch c z).2.2.1 x c e rfl) ho (I.freeC x c e)
 · obtain ⟨e,n,ne,nf,d⟩:=I.pin p hp
   have nch:p.1∉ch:=fun z=>(hch p.1 z).2.2.2 p hp rfl
   exact ⟨keep p.1 p.2 ne nf nch e n,free p.1 p.2 nch e n,ne,nf,d⟩
def Inv.un {t':Nat} (I:Inv X pins σ H s) (u:Un X.fs [] H H' s.heap h') (hok:HOk X.prog X.w H' h'):Inv X pins σ H' {s with heap:=h',toks:=t'}:=by
 obtain ⟨m,⟨o,es,ep,ho,r⟩,_⟩:=id I.loc
 obtain ⟨sl,hL⟩:=u.any ho I.free (by simp)
 exact I.step (g':=s.gens) (d':=s.drawn) (ch:=[]) (fun _ z=>nomatch z) (fun b o _ hb _ e n=>u.keep b o e n hb (by simp)) (fun b o _ hb _ e n=>u.slot b o e n hb (by simp)) (fun b o _ e n=>u.free b o e n (by simp)) (fun b o _ e=>u.there b o e (by simp)) u.tups u.frzs u.tbls (fun m' hm=>by
  obtain ⟨o',es',ep',ho',r'⟩:=hm
  rw [ho] at ho';cases ho'
  exact ⟨_,es',ep',hL,r'⟩) hok I.bare
def Inv.call {g':Array GenState} {t':Nat} {d':Drawn} {ch:List Addr} (I:Inv X pins σ H s) (u:Un (frs X.stack) ch H H' s.heap h') (hok:HOk X.prog X.w H' h') (hg:AllBare g')
  (hch:∀ b∈ch,(b∈X.ex∨X.s₀.heap.objs.size<=b)/\b≠X.env.locals/\(∀ x c,X.env.cells.lookup x=some c->c≠b)/\∀ p∈X.pn++pins,p.1≠b) :
  Inv X pins σ H' {s with heap:=h',gens:=g',drawn:=d',toks:=t'}:=by
 obtain ⟨m,⟨o,es,ep,ho,r⟩,_⟩:=id I.loc
 obtain ⟨sl,hL⟩:=u.any ho I.free fun z=>(hch _ z).2.1 rfl
 exact I.step (ch:=ch) hch (fun b o hL hb hc e n=>u.keep b o e n (fun z=>(List.mem_cons.mp (I.stkSub b z)).elim hL hb) hc) (fun b o _ _ hc e n=>u.any e n hc) (fun b o hc e n=>u.free b o e n hc) (fun b o hc e=>u.there b o e hc) u.tups u.frzs u.tbls (fun m' hm=>by
  obtain ⟨o',es',ep',ho',r'⟩:=hm
  rw [ho] at ho';cases ho'
  exact ⟨_,es',ep',hL,r'⟩) hok hg
def Inv.turned {t':Nat} {it:Addr} (I:Inv X pins σ H s) (k:∀ b o,b≠it->s.heap.get? b=some o->h'.get? b=some o) (hn:H it=none) (hL:it≠X.env.locals)
  (h1:it∈X.ex∨X.s₀.heap.objs.size<=it) (h2:∀ x c,X.env.cells.lookup x=some c->c≠it) (h3:∀ p∈X.pn++pins,p.1≠it):Inv X pins σ H {s with heap:=h',toks:=t'}:=by
 have nit:∀ b u,H b=some u->b≠it:=fun b u e z=>by rw [z,hn] at e;cases e
 refine I.step (g':=s.gens) (d':=s.drawn) (ch:=[it]) (fun b hb=>?_) (fun b o _ _ hc e _=>k b o (fun z=>hc (by simp [z])) e) (fun b o _ _ hc e _=>⟨o.slots,k b o (fun z=>hc (by simp [z])) e⟩) (fun _ _ _ _ n=>n)
  (fun b o hc e=>⟨o,k b o (fun z=>hc (by simp [z])) e⟩) (fun _ _ e=>e) (fun _ _ _ e=>e) (fun b ps e=>⟨#[],by rw [e];simp⟩) (fun m hm=>?_) (fun b u e=>?_) I.bare
 · have e:b=it:=by simpa using hb
   subst e
   exact ⟨h1,hL,h2,h3⟩
 · obtain ⟨o,es,ep,ho,r⟩:=hm
   exact ⟨o,es,ep,k _ o (Ne.symm hL) ho,r⟩
 · refine (I.hok b u e).stay (fun c v hc q=>k c v ?_ q) (fun _ q=>q) fun _ _ q=>q
   rcases hc with z | z
   · rw [z];exact nit b u e
   · exact nit c _ z
def Inv.tok (I:Inv X pins σ H s) (t:Nat):Inv X pins σ H {s with toks:=t}:=I.un (h':=s.heap) (t':=t) Un.refl I.hok
def Inv.kept {t':Nat} (I:Inv X pins σ H s) (k:∀ b u,s.heap.get? b=some u->h'.get? b=some u):Inv X pins σ H {s with heap:=h',toks:=t'}:=I.un (Un.kept k) (I.hok.kept k)
def Inv.laid {a:Addr} {o:HO} {t':Nat} (I:Inv X pins σ H s) (k:∀ b u,s.heap.get? b=some u->h'.get? b=some u) (hp:s.heap.objs.size<=a) (new:ObjOk X.prog X.w (upd H a o) h' a o) :
  Inv X pins σ (upd H a o) {s with heap:=h',toks:=t'}:=I.un (Un.laid k hp (I.hok.fresh hp)) (I.hok.laid k hp new)
def Inv.write {x e:Addr} {o:HO} {t':Nat} (I:Inv X pins σ H s) (mu:Mut (H x)) (he:e=x∨H e=some (.own x)) (k:∀ b u,b≠e->s.heap.get? b=some u->h'.get? b=some u) (heo:∃ u,h'.get? e=some u)
  (new:ObjOk X.prog X.w (upd H x o) h' x o):Inv X pins σ (upd H x o) {s with heap:=h',toks:=t'}:=I.un (Un.write mu he k heo) (I.hok.write mu he k heo new)
def Inv.weak {σ':List (Option V)} (I:Inv X pins σ H s) (hl:σ'.length=σ.length) (w:∀ (i:Nat) v,σ'[i]?=some (some v)->σ[i]?=some (some v)):Inv X pins σ' H s:=
 ⟨I.ok,I.os,I.bare,I.base,let ⟨m,hn,hl'⟩:=I.loc;⟨m,hn,fun i x v e1 e2 e3=>hl' i x v e1 (w i v e2) e3⟩,I.cell,I.free,I.freeC,I.pin,I.hok,hl.trans I.len⟩
def Inv.pins_of {pins':List (Addr×Obj)} (I:Inv X pins σ H s) (h:∀ p∈pins',s.heap.get? p.1=some p.2/\H p.1=none/\p.1≠X.env.locals/\p.1∉X.fs/\∀ v,p.2.data≠.cell v):Inv X pins' σ H s:=
 ⟨I.ok,I.os,I.bare,I.base,I.loc,I.cell,I.free,I.freeC,fun p hp=>(List.mem_append.mp hp).elim (fun z=>I.pin p (List.mem_append_left _ z)) (h p),I.hok,I.len⟩
def mz {N:List Str} (hN:N.Nodup) {i j:Nat} {x:Str} (a:N[i]?=some x) (b:N[j]?=some x):i=j:=by
 obtain ⟨h1,e1⟩:=gX a
 obtain ⟨h2,e2⟩:=gX b
 exact (List.getElem_inj hN).mp (e1.trans e2.symm)
def kr {M:Model} {A:Around} {E:Value->Shared->Prop} {i:Nat} {x:Str} {v:V} {u:Value} {Q:Unit->Shared->Prop} (I:Inv X pins σ H s) (hN:X.N.Nodup) (hi:X.N[i]?=some x) (hx:Loc X.env.scope x) (r:RelV v u)
  (h:∀ s',Inv X pins (σ.set i (some v)) H s'->(∃ a,Heap.SameBut a s.heap s'.heap/\(a=X.env.locals∨X.env.cells.lookup x=some a))->Q () s') (hf:X.fn x=true∨X.env.scope.names.lookup x=some .local:=by first | exact .inl rfl | exact .inr rfl | assumption):wpAny M A (storeName X.env x u) Q E s:=by
 obtain ⟨m,hn,hl⟩:=id I.loc
 have hcls:(X.env.scope.kind==.class||(X.env.scope.kind==.module&&X.env.locals != X.env.globals))=false:=by rw [I.ok.kind];rfl
 have hiσ:i<σ.length:=by rw [I.len];exact (gX hi).1
 have cne:=I.cne
 have tracked:∀ {a:Addr} {h':Heap},(∃ o,s.heap.get? a=some o/\H a=none)->Heap.SameBut a s.heap h'->HOk X.prog X.w H h':=fun {a h'} ha hs b ob e=>by
  obtain ⟨_,_,hfree⟩:=ha
  refine (I.hok b ob e).stay (fun c w' hc q=>(hs.2 c ?_).trans q) (fun _ q=>q) fun _ _ q=>q
  rintro rfl
  rcases hc with rfl | hc
  · rw [hfree] at e;cases e
  · rw [hfree] at hc;cases hc
 rcases hx with hk | hk
 · refine wpAny_storeName_local hk hn (fun h' hn' hs=>?_) hcls
   obtain ⟨oL,_,_,hoL,_⟩:=id hn
   refine h _ ⟨I.ok,I.os,I.bare,⟨fun b o e n hb hx=>?_,fun b o e n hb hx=>?_,I.base.free,fun b o e hx=>?_,I.base.tups,I.base.frzs,I.base.tbls⟩,⟨_,hn',fun j y v' e1 e2 e3=>?_⟩,fun y c e=>?_,I.free,I.freeC,fun p hp=>?_,tracked ⟨oL,hoL,I.free⟩ hs,by simpa using I.len⟩ ⟨_,hs,.inl rfl⟩
   · exact (hs.2 b (Nat.ne_of_lt (Nat.lt_of_lt_of_le (Heap.lt_size e) I.ok.above))).trans (I.base.keep b o e n hb hx)
   · obtain ⟨sl,e1⟩:=I.base.slot b o e n hb hx
     exact ⟨sl,(hs.2 b (Nat.ne_of_lt (Nat.lt_of_lt_of_le (Heap.lt_size e) I.ok.above))).trans e1⟩
   · obtain ⟨o',e1⟩:=I.base.there b o e hx
     exact ⟨o',(hs.2 b (Nat.ne_of_lt (Nat.lt_of_lt_of_le (Heap.lt_size e) I.ok.above))).trans e1⟩
   · by_cases hj:j=i
     · subst hj
       rw [hi] at e1;cases e1
       rw [List.getElem?_set_self hiσ] at e2
       cases e2
       exact ⟨u,r,.inl ⟨hk,by simp⟩⟩
     · rw [gN (Ne.symm hj)] at e2
       obtain ⟨u',r',q⟩:=hl j y v' e1 e2 e3
       refine ⟨u',r',?_⟩
       rcases q with ⟨k,e⟩ | ⟨k,c,e,z⟩
       · refine .inl ⟨k,?_⟩
         have:y≠x:=fun e=>hj (mz hN e1 (e▸hi))
         simp [this,e]
       · exact .inr ⟨k,c,e,z.sameBut hs (cne y c e)⟩
   · obtain ⟨w',z⟩:=I.cell y c e
     exact ⟨w',z.sameBut hs (cne y c e)⟩
   · obtain ⟨e,n,ne,nf,d⟩:=I.pin p hp
     exact ⟨(hs.2 p.1 ne).trans e,n,ne,nf,d⟩
 · have hfn:X.fn x=true:=by
    rcases hf with z | z
    · exact z
    · rw [z] at hk;cases hk
   obtain ⟨c,hc⟩:=I.ok.has x (.inl hk)
   obtain ⟨w',z⟩:=I.cell x c hc
   refine wpAny_storeName_cell I.ok.kind hk hc z (fun h' hc' hs=>?_)
   obtain ⟨oc,hoc,hocd⟩:=id z
   refine h {s with heap:=h'} ⟨I.ok,I.os,I.bare,⟨fun b o e n hb hx=>?_,fun b o e n hb hx=>?_,I.base.free,fun b o e hx=>?_,I.base.tups,I.base.frzs,I.base.tbls⟩,⟨m,hn.sameBut hs (Ne.symm (cne x c hc)),fun j y v' e1 e2 e3=>?_⟩,fun y c' e=>?_,I.free,I.freeC,fun p hp=>?_,tracked ⟨oc,hoc,I.freeC x c hc⟩ hs,by simpa using I.len⟩ ⟨c,hs,.inr hc⟩
   · exact (hs.2 b (Nat.ne_of_lt (Nat.lt_of_lt_of_le (Heap.lt_size e) (I.ok.cab x c hfn hc)))).trans (I.base.keep b o e n hb hx)
   · obtain ⟨sl,e1⟩:=I.base.slot b o e n hb hx
     exact ⟨sl,(hs.2 b (Nat.ne_of_lt (Nat.lt_of_lt_of_le (Heap.lt_size e) (I.ok.cab x c hfn hc)))).trans e1⟩
   · obtain ⟨o',e1⟩:=I.base.there b o e hx
     exact ⟨o',(hs.2 b (Nat.ne_of_lt (Nat.lt_of_lt_of_le (Heap.lt_size e) (I.ok.cab x c hfn hc)))).trans e1⟩
   · by_cases hj:j=i
     · subst hj
       rw [hi] at e1;cases e1
       rw [List.getElem?_set_self hiσ] at e2
       cases e2
       exact ⟨u,r,.inr ⟨.inl hk,c,hc,hc'⟩⟩
     · rw [gN (Ne.symm hj)] at e2
       obtain ⟨u',r',q⟩:=hl j y v' e1 e2 e3
       refine ⟨u',r',?_⟩
       rcases q with q | ⟨k,c',e,z'⟩
       · exact .inl q
       · refine .inr ⟨k,c',e,z'.sameBut hs ?_⟩
         rintro rfl
         exact hj (mz hN e1 (I.ok.inj _ _ _ e hc▸hi))
   · by_cases hcc:c'=c
     · subst hcc;exact ⟨_,hc'⟩
     · obtain ⟨w2,z2⟩:=I.cell y c' e
       exact ⟨w2,z2.sameBut hs hcc⟩
   · obtain ⟨e,n,ne,nf,d⟩:=I.pin p hp
     refine ⟨(hs.2 p.1 ?_).trans e,n,ne,nf,d⟩
     intro q
     rw [q,hoc] at e
     have q':oc=p.2:=Option.some.inj e
     exact d w' (by rw [<- q'];exact hocd)
def mB {M:Model} {A:Around} {E:Value->Shared->Prop} {i:Nat} {x:Str} {v:V} {u:Value} {Q:Unit->Shared->Prop} (I:Inv X pins σ H s) (hN:X.N.Nodup) (hi:X.N[i]?=some x) (hx:Loc X.env.scope x) (r:RelV v u)
  (h:∀ s',Inv X pins (σ.set i (some v)) H s'->Q () s') (hf:X.fn x=true∨X.env.scope.names.lookup x=some .local:=by first | exact .inl rfl | exact .inr rfl | assumption):wpAny M A (storeName X.env x u) Q E s:=
 kr I hN hi hx r (fun s' I' _=>h s' I') hf
def Inv.call' {s':Shared} {ch:List Addr} (I:Inv X pins σ H s) (ho:s'.os=s.os) (u:Un (frs X.stack) ch H H' s.heap s'.heap) (hok:HOk X.prog X.w H' s'.heap) (hg:AllBare s'.gens)
  (hch:∀ b∈ch,(b∈X.ex∨X.s₀.heap.objs.size<=b)/\b≠X.env.locals/\(∀ x c,X.env.cells.lookup x=some c->c≠b)/\∀ p∈X.pn++pins,p.1≠b):Inv X pins σ H' s':=by
 obtain ⟨h',g',d',t',o'⟩:=s'
 have e:o'=s.os:=ho
 subst e
 exact I.call (g':=g') (t':=t') (d':=d') u hok hg hch
end
abbrev XK:=Value->Option Addr->Hp->Prop
abbrev St:=List (Option V)
abbrev VK:=V->Hp->Prop
abbrev TE:=St->Hp->VK->Prop
abbrev TT:=St->Hp->(Bool->Hp->Prop)->Prop
abbrev TA:=St->Hp->(List V->Hp->Prop)->Prop
structure Ends where
 nx:St->Hp->Prop
 rt:VK
 bk:St->Hp->Prop:=fun _ _=>False
 ct:St->Hp->Prop:=fun _ _=>False
abbrev TS:=Ends->St->Hp->Prop
def EP (X:Cx) (pins:List (Addr×Obj)) (σ:St) (Q:VK) (u:Value) (s':Shared):Prop:=∃ v H',Inv X pins σ H' s'/\RelV v u/\Q v H'
def TP (X:Cx) (pins:List (Addr×Obj)) (σ:St) (Q:Bool->Hp->Prop) (b:Bool) (s':Shared):Prop:=∃ H',Inv X pins σ H' s'/\Q b H'
def AP (X:Cx) (pins:List (Addr×Obj)) (σ:St) (Q:List V->Hp->Prop) (us:List Value) (s':Shared):Prop:=∃ vs H',Inv X pins σ H' s'/\Vals vs us/\Q vs H'
noncomputable def SP (X:Cx) (pins:List (Addr×Obj)) (D:Ends) (f:Flow) (s':Shared):Prop:=
 match f with
 | .next=>∃ σ' H',Inv X pins σ' H' s'/\D.nx σ' H'
 | .brk=>∃ σ' H',Inv X pins σ' H' s'/\D.bk σ' H'
 | .cont=>∃ σ' H',Inv X pins σ' H' s'/\D.ct σ' H'
 | .ret u=>∃ v σ' H',Inv X pins σ' H' s'/\RelV v u/\D.rt v H'
def PE (X:Cx) (e:Expr) (t:TE):Prop:=
 ∀ (pins:List (Addr×Obj)) (s:Shared) (σ:St) (H:Hp) (Q:VK),Inv X pins σ H s->t σ H Q->wpAny (model X.prog X.w) X.A (eval e X.env) (EP X pins σ Q) X.xe s
noncomputable def PT (X:Cx) (e:Expr) (t:TT):Prop:=
 ∀ (pins:List (Addr×Obj)) (s:Shared) (σ:St) (H:Hp) (Q:Bool->Hp->Prop),Inv X pins σ H s->t σ H Q->wpAny (model X.prog X.w) X.A (isTrue e X.env (eval e X.env)) (TP X pins σ Q) X.xe s
noncomputable def PW (X:Cx) (e:Expr) (t:TT):Prop:=
 ∀ (whole:Sem Value) (pins:List (Addr×Obj)) (s:Shared) (σ:St) (H:Hp) (Q:Bool->Hp->Prop),Inv X pins σ H s->t σ H Q->wpAny (model X.prog X.w) X.A (isTrue e X.env whole) (TP X pins σ Q) X.xe s
def PW.pt {X:Cx} {e:Expr} {t:TT} (h:PW X e t):PT X e t:=h _
noncomputable def PA (X:Cx) (es:List Expr) (t:TA):Prop:=
 ∀ (pos:Pos) (pins:List (Addr×Obj)) (s:Shared) (σ:St) (H:Hp) (Q:List V->Hp->Prop),Inv X pins σ H s->t σ H Q->wpAny (model X.prog X.w) X.A (spliced (backTo pos (starEach es X.env))) (AP X pins σ Q) X.xe s
def PS (X:Cx) (st:Stmt) (t:TS):Prop:=
 ∀ (pins:List (Addr×Obj)) (s:Shared) (σ:St) (H:Hp) (D:Ends),Inv X pins σ H s->t D σ H->wpAny (model X.prog X.w) X.A (exec st X.env) (SP X pins D) X.xe s
def PSs (X:Cx) (st:List Stmt) (t:TS):Prop:=
 ∀ (pins:List (Addr×Obj)) (s:Shared) (σ:St) (H:Hp) (D:Ends),Inv X pins σ H s->t D σ H->wpAny (model X.prog X.w) X.A (execs st X.env) (SP X pins D) X.xe s
def thn {α:Type} {t:Sem α} {Q Q':α->Shared->Prop} {M:Model} {A:Around} {E:Value->Shared->Prop} {s:Shared} (h:wpAny M A t Q E s) (hQ:∀ a s,Q a s->Q' a s):wpAny M A t Q' E s:=wpAny_mono h hQ fun _ _ x=>x
section
variable {X:Cx}
def bin {a b:Expr} {ta tb:TE} (ha:PE X a ta) (hb:PE X b tb) {pins:List (Addr×Obj)} {s:Shared} {σ:St} {H:Hp} {R:V->V->Hp->Prop} (I:Inv X pins σ H s) (h:ta σ H fun x H1=>tb σ H1 fun y H2=>R x y H2)
  {α:Type} {Q:α->Shared->Prop} {f:Value->Value->Sem α}
  (hf:∀ v u s2 x y H2,Inv X pins σ H2 s2->RelV x v->RelV y u->R x y H2->wpAny (model X.prog X.w) X.A (f v u) Q X.xe s2) :
  wpAny (model X.prog X.w) X.A (eval a X.env) (fun v s₁=>wpAny (model X.prog X.w) X.A (eval b X.env) (fun u s₂=>wpAny (model X.prog X.w) X.A (f v u) Q X.xe s₂) X.xe s₁) X.xe s:=by
 refine thn (ha pins s σ H _ I h) fun v s1 ⟨x,H1,I1,r1,q1⟩=>?_
 refine thn (hb pins s1 σ H1 _ I1 q1) fun u s2 ⟨y,H2,I2,r2,q2⟩=>?_
 exact hf v u s2 x y H2 I2 r1 r2 q2
def lu (i:Nat):TE:=fun σ H Q=>∃ v,σ[i]?=some (some v)/\Q v H
def tC (v:V):TE:=fun _ H Q=>Q v H
def xp {i:Nat} {x:Str} {pos:Pos} (hN:X.N[i]?=some x) (hv:Vis X.env.scope x) (hd:(x==("__debug__":Str))=false:=by decide) (hcd:(x==("__classdict__":Str))=false:=by decide):PE X (.Name x pos) (lu i):=by
 intro pins s σ H Q I h
 obtain ⟨v,e,h⟩:=h
 obtain ⟨m,hn,hl⟩:=I.loc
 obtain ⟨u,r,l⟩:=hl i x v hN e hv
 have fin:EP X pins σ Q u s:=⟨v,H,I,r,h⟩
 rcases l with ⟨hk,hm⟩ | ⟨hk,c,hc,hcell⟩
 · exact wpAny_Name (wpAny_loadName_local I.ok.kind hk hn hm fin) hd
 · rcases hk with hk | hk
   · exact wpAny_Name (wpAny_loadName_cell I.ok.kind hk hc hcell fin) hd
   · exact wpAny_Name (wpAny_loadName_free I.ok.kind hk hc hcell fin hcd) hd
def xq {i j pos}:PE X (.Constant (.int i) j pos) (tC (.int i)):=fun _ _ _ H _ I h=>wpAny_Constant_int ⟨.int i,H,I.tok _,⟨_,rfl⟩,h⟩
def yP {b j pos}:PE X (.Constant (.bool b) j pos) (tC (.bl b)):=fun _ _ _ H _ I h=>Constant_bool ⟨.bl b,H,I,rfl,h⟩
def xr {j pos}:PE X (.Constant .none j pos) (tC .non):=fun _ _ _ H _ I h=>Constant_none ⟨.non,H,I,rfl,h⟩
def xt {x j pos}:PE X (.Constant (.str x) j pos) (tC (.str x)):=fun _ _ _ H _ I h=>Calls.Constant_str ⟨.str x,H,I.tok _,⟨_,rfl⟩,h⟩
def Gl (X:Cx) (x:Str):Prop:=X.env.kindOf x=some .globalImplicit
def oU {E:Value->Shared->Prop} {pins:List (Addr×Obj)} {s:Shared} {σ:St} {H:Hp} {x:Str} {u:Value} {pos:Pos} {Q:Value->Shared->Prop} (I:Inv X pins σ H s) (hg:Gl X x) (hm:X.mg x=some u) (h:Q u s)
  (hd:(x==("__debug__":Str))=false:=by decide):wpAny (model X.prog X.w) X.A (eval (.Name x pos) X.env) Q E s:=
 Calls.Name_function_global I.ok.kind hg (Calls.loadGlobal_global (by rw [I.ok.glob];exact I.mod.glob.keeps I.bk) hm h) hd
def jD {E:Value->Shared->Prop} {pins:List (Addr×Obj)} {s:Shared} {σ:St} {H:Hp} {x:Str} {u:Value} {pos:Pos} {Q:Value->Shared->Prop} (I:Inv X pins σ H s) (hg:Gl X x) (hm:X.mg x=none) (hv:bootBuiltins x=some u) (h:Q u s)
  (hn:x≠"__name__":=by decide) (hd:(x==("__debug__":Str))=false:=by decide):wpAny (model X.prog X.w) X.A (eval (.Name x pos) X.env) Q E s:=by
 obtain ⟨mb,h1,h2⟩:=I.mod.blt
 exact Calls.Name_function_global I.ok.kind hg (Calls.loadGlobal_builtin (by rw [I.ok.glob];exact I.mod.glob.keeps I.bk) hm (by rw [I.ok.blt];exact h1.keeps I.bk) ((h2 x hn).trans hv) h) hd
variable {a b:Expr} {ta tb:TE} {pos:Pos}
variable {tA tB':TT} {rest:List Expr}
def tAnd (t u:TT):TT:=fun σ H Q=>t σ H fun c H1=>if c=true then u σ H1 Q else Q false H1
def tOr (t u:TT):TT:=fun σ H Q=>t σ H fun c H1=>if c=true then Q true H1 else u σ H1 Q
def tNot (t:TT):TT:=fun σ H Q=>t σ H fun c H1=>Q (!c) H1
def uF (ha:PT X a tA):PW X (.BoolOp .And [a] pos) tA:=by
 intro wh pins s σ H Q I h
 refine isTrue_and (thn (ha pins s σ H Q I h) fun c s1 e=>?_)
 cases c with
 | true=>exact isTrue_and_nil e
 | false=>exact e
def xu (ha:PT X a tA):PW X (.BoolOp .Or [a] pos) tA:=by
 intro wh pins s σ H Q I h
 refine isTrue_or (thn (ha pins s σ H Q I h) fun c s1 e=>?_)
 cases c with
 | false=>exact isTrue_or_nil e
 | true=>exact e
def xv (ha:PT X a tA) (hb:PW X (.BoolOp .And (b::rest) pos) tB'):PW X (.BoolOp .And (a::b::rest) pos) (tAnd tA tB'):=by
 intro wh pins s σ H Q I h
 refine isTrue_and (thn (ha pins s σ H _ I h) fun c s1 ⟨H1,I1,q1⟩=>?_)
 cases c with
 | true=>exact hb wh pins s1 σ H1 Q I1 q1
 | false=>exact ⟨H1,I1,q1⟩
def yQ (ha:PT X a tA) (hb:PW X (.BoolOp .Or (b::rest) pos) tB'):PW X (.BoolOp .Or (a::b::rest) pos) (tOr tA tB'):=by
 intro wh pins s σ H Q I h
 refine isTrue_or (thn (ha pins s σ H _ I h) fun c s1 ⟨H1,I1,q1⟩=>?_)
 cases c with
 | true=>exact ⟨H1,I1,q1⟩
 | false=>exact hb wh pins s1 σ H1 Q I1 q1
def xw (ha:PT X a tA):PT X (.UnaryOp .Not a pos) (tNot tA):=by
 intro pins s σ H Q I h
 exact isTrue_not (ha pins s σ H (fun c H1=>Q (!c) H1) I h)
def yR (ta tb:TE):TE:=fun σ H Q=>ta σ H fun x H1=>∃ c,x=.bl c/\if c=true then tb σ H1 Q else Q (.bl false) H1
def xx {op} {t:TE} (h:PE X a t):PE X (.BoolOp op [a] pos) t:=fun pins s σ H Q I hw=>BoolOp_one (h pins s σ H Q I hw)
def xy (ha:PE X a ta) (hb:PE X (.BoolOp .And (b::rest) pos) tb):PE X (.BoolOp .And (a::b::rest) pos) (yR ta tb):=by
 intro pins s σ H Q I h
 refine BoolOp_and (thn (ha pins s σ H _ I h) fun v s1 ⟨x,H1,I1,r1,q1⟩=>?_)
 obtain ⟨c,rfl,q1⟩:=q1
 cases r1
 refine wpAny_truthy_bool ?_
 cases c with
 | true=>exact hb pins s1 σ H1 Q I1 q1
 | false=>exact ⟨.bl false,H1,I1,rfl,q1⟩
end
noncomputable def SqL (K:PySem.W.Frag) (H:Hp) (a:Addr) (xs:List V):Prop:=
 Rd H a (.lst xs)∨
  ∃ (o:Obj) (its:Array Value) (n:Nat),K.lookup a=some o/\o.cls=.type "list"/\o.dict=none/\o.data=.seq its n/\its.size<=sizeLine/\Vals xs its.toList
noncomputable def SqT (K:PySem.W.Frag) (H:Hp) (a:Addr) (xs:List V):Prop:=
 Rd H a (.tup xs)∨
  ∃ (o:Obj) (its:Array Value) (n:Nat),K.lookup a=some o/\o.cls=.type "tuple"/\o.data=.seq its n/\its.size<=sizeLine/\Vals xs its.toList
noncomputable def absV:Value->Option V
 | .none=>some .non
 | .bool b=>some (.bl b)
 | .int i _=>some (.int i)
 | .str x _=>some (.str x)
 | .bytes b _=>some (.byt b)
 | .float b _=>some (.flt b)
 | .ref a=>some (.ref a)
 | .type n=>some (.ty n)
 | _=>none
def RelV.abs {x:V} {u:Value} (r:RelV x u):absV u=some x:=by
 cases x with
 | non=>cases r;rfl
 | bl _=>cases r;rfl
 | int _=>obtain ⟨t,rfl⟩:=r;rfl
 | str _=>obtain ⟨t,rfl⟩:=r;rfl
 | byt _=>obtain ⟨t,rfl⟩:=r;rfl
 | flt _=>obtain ⟨t,rfl⟩:=r;rfl
 | ref _=>cases r;rfl
 | ty _=>cases r;rfl
def RelV.inj {x y:V} {u:Value} (r:RelV x u) (q:RelV y u):x=y:=Option.some.inj (r.abs.symm.trans q.abs)
def Vals.inj:∀ {xs ys:List V} {us:List Value},Vals xs us->Vals ys us->xs=ys
 | _,_,_,.nil,.nil=>rfl
 | _,_,_,.cons r t,.cons r' t'=>by rw [r.inj r',Vals.inj t t']
section
variable {X:Cx} {pins:List (Addr×Obj)} {σ:St} {H:Hp} {s:Shared} {a:Addr} {xs ys:List V}
def SqL.of {K:PySem.W.Frag} (h:H a=some (.lst xs)):SqL K H a xs:=.inl (.inl h)
def SqT.of {K:PySem.W.Frag} (h:H a=some (.tup xs)):SqT K H a xs:=.inl (.inl h)
def Inv.list (I:Inv X pins σ H s) (h:SqL X.K H a xs):∃ its:List Value,Vals xs its/\PlainL s.heap a its.toArray/\xs.length<=sizeLine:=by
 rcases h with h | ⟨o,its,n,hk,hc,hd,hs,hz,r⟩
 · obtain ⟨z,its,n,r,e⟩:=h.ok I.hok
   exact ⟨its,r,⟨_,n,e,rfl,rfl,rfl⟩,z⟩
 · refine ⟨its.toList,r,⟨o,n,I.kIn a o hk,hc,hd,by simpa using hs⟩,?_⟩
   have e:=r.length
   simp only [Array.length_toList] at e
   omega
def Inv.tuple (I:Inv X pins σ H s) (h:SqT X.K H a xs):∃ its:List Value,Vals xs its/\IsTup s.heap a its.toArray/\xs.length<=sizeLine:=by
 rcases h with h | ⟨o,its,n,hk,hc,hs,hz,r⟩
 · obtain ⟨z,its,r,p⟩:=h.ok I.hok
   exact ⟨its,r,p,z⟩
 · refine ⟨its.toList,r,⟨o,I.kIn a o hk,hc,n,by simpa using hs⟩,?_⟩
   have e:=r.length
   simp only [Array.length_toList] at e
   omega
def Inv.list_inj (I:Inv X pins σ H s) (h:SqL X.K H a xs) (h':SqL X.K H a ys):xs=ys:=by
 obtain ⟨its,r,⟨o,n,e,_,_,d⟩,_⟩:=I.list h
 obtain ⟨its',r',⟨o',n',e',_,_,d'⟩,_⟩:=I.list h'
 rw [e] at e';cases e'
 rw [d] at d'
 injection d' with d1 _
 have:its=its':=by simpa using congrArg Array.toList d1
 subst this
 exact r.inj r'
def Inv.tuple_inj (I:Inv X pins σ H s) (h:SqT X.K H a xs) (h':SqT X.K H a ys):xs=ys:=by
 obtain ⟨its,r,⟨o,e,_,n,d⟩,_⟩:=I.tuple h
 obtain ⟨its',r',⟨o',e',_,n',d'⟩,_⟩:=I.tuple h'
 rw [e] at e';cases e'
 rw [d] at d'
 injection d' with d1 _
 have:its=its':=by simpa using congrArg Array.toList d1
 subst this
 exact r.inj r'
end
abbrev Cx.wish (X:Cx) (E:Value->Shared->Prop):Cx:={X with xe:=E}
abbrev Cx.nox (X:Cx):Cx:=X.wish fun _ _=>False
def Cx.Ok.wish {X:Cx} (ok:X.Ok) (E:Value->Shared->Prop):(X.wish E).Ok:=
 ⟨ok.mod,ok.kind,ok.glob,ok.blt,ok.above,ok.inj,ok.has,ok.cab,ok.hd,ok.frames,ok.stk,ok.exf,ok.bs,ok.bsz,ok.noex,ok.exfs,ok.funs,ok.frf⟩
def Cx.Ok.unwish {X:Cx} {E:Value->Shared->Prop} (ok:(X.wish E).Ok):X.Ok:=
 ⟨ok.mod,ok.kind,ok.glob,ok.blt,ok.above,ok.inj,ok.has,ok.cab,ok.hd,ok.frames,ok.stk,ok.exf,ok.bs,ok.bsz,ok.noex,ok.exfs,ok.funs,ok.frf⟩
section
variable {X:Cx} {pins:List (Addr×Obj)} {σ:St} {H:Hp} {s:Shared} {E:Value->Shared->Prop}
def Inv.wish (I:Inv X pins σ H s) (E:Value->Shared->Prop):Inv (X.wish E) pins σ H s:=⟨I.ok.wish E,I.os,I.bare,I.base,I.loc,I.cell,I.free,I.freeC,I.pin,I.hok,I.len⟩
def Inv.unwish (I:Inv (X.wish E) pins σ H s):Inv X pins σ H s:=⟨I.ok.unwish,I.os,I.bare,I.base,I.loc,I.cell,I.free,I.freeC,I.pin,I.hok,I.len⟩
def SP.unwish {D:Ends} {f:Flow} {s':Shared} (h:SP (X.wish E) pins D f s'):SP X pins D f s':=by
 cases f with
 | next=>obtain ⟨σ',H',I,q⟩:=h;exact ⟨σ',H',I.unwish,q⟩
 | brk=>obtain ⟨σ',H',I,q⟩:=h;exact ⟨σ',H',I.unwish,q⟩
 | cont=>obtain ⟨σ',H',I,q⟩:=h;exact ⟨σ',H',I.unwish,q⟩
 | ret u=>obtain ⟨v,σ',H',I,r,q⟩:=h;exact ⟨v,σ',H',I.unwish,r,q⟩
def PSs.nox {st:List Stmt} {t:TS} (h:PSs X.nox st t):PSs X st t:=fun pins s σ H D I hw =>
 wpAny_mono (h pins s σ H D (I.wish _) hw) (fun _ _ q=>q.unwish) fun _ _ z=>False.elim z
end
section
variable {X:Cx} {st:Stmt} {rest:List Stmt} {t u:TS} {e:Expr} {te:TE} {pos:Pos}
def yS:TS:=fun D σ H=>D.nx σ H
def tSeq (t u:TS):TS:=fun D σ H=>t {D with nx:=u D} σ H
def oV:PSs X [] yS:=fun _ _ σ H _ I h=>wpAny_execs_nil ⟨σ,H,I,h⟩
def mC (h1:PS X st t) (h2:PSs X rest u):PSs X (st::rest) (tSeq t u):=by
 intro pins s σ H D I h
 refine wpAny_execs_cons (thn (h1 pins s σ H {D with nx:=u D} I h) fun f s1 q=>?_)
 cases f with
 | next =>
  obtain ⟨σ',H',I',q⟩:=q
  exact h2 pins s1 σ' H' D I' q
 | ret v=>exact q
 | brk=>exact q
 | cont=>exact q
def oW (h1:PS X st t):PSs X [st] t:=by
 intro pins s σ H D I h
 refine wpAny_execs_cons (thn (h1 pins s σ H D I h) fun f s1 q=>?_)
 cases f with
 | next=>exact wpAny_execs_nil q
 | ret v=>exact q
 | brk=>exact q
 | cont=>exact q
def Inv.quiet {pins:List (Addr×Obj)} {σ:St} {H:Hp} {s:Shared} (I:Inv X pins σ H s):interactive X.env=false:=by simp [interactive,I.ok.kind]
def yT (te:TE):TS:=fun D σ H=>te σ H fun _ H1=>D.nx σ H1
def jq (he:PE X e te) (hs:swapsWith e none pos.line X.env=pure false:=by rfl):PS X (.Expr e pos) (yT te):=by
 intro pins s σ H D I h
 exact wpAny_Expr_any (thn (he pins s σ H _ I h) fun v s1 ⟨x,H1,I1,r1,q1⟩=>⟨σ,H1,I1,q1⟩) I.quiet hs
def tRet (te:TE):TS:=fun D σ H=>te σ H D.rt
def nM (he:PE X e te):PS X (.Return (some e) pos) (tRet te):=by
 intro pins s σ H D I h
 exact wpAny_Return_some (thn (he pins s σ H _ I h) fun v s1 ⟨x,H1,I1,r1,q1⟩=>⟨x,σ,H1,I1,r1,q1⟩)
def tIfS (c:TT) (t u:TS):TS:=fun D σ H=>c σ H fun b H1=>if b=true then t D σ H1 else u D σ H1
def wy {c:Expr} {a b:List Stmt} {tc:TT} (hc:PT X c tc) (ha:PSs X a t) (hb:PSs X b u):PS X (.If c a b pos) (tIfS tc t u):=by
 intro pins s σ H D I h
 refine wpAny_If (thn (hc pins s σ H _ I h) fun d s1 ⟨H1,I1,q1⟩=>?_)
 cases d with
 | true=>exact ha pins s1 σ H1 D I1 q1
 | false=>exact hb pins s1 σ H1 D I1 q1
end
abbrev TG:=V->St->Hp->(St->Hp->Prop)->Prop
abbrev TGs:=List V->St->Hp->(St->Hp->Prop)->Prop
noncomputable def PG (X:Cx) (target:Expr) (t:TG):Prop:=
 ∀ (pins:List (Addr×Obj)) (s:Shared) (σ:St) (H:Hp) (v:V) (u:Value) (Q:St->Hp->Prop),Inv X pins σ H s->RelV v u->t v σ H Q→
  wpAny (model X.prog X.w) X.A (assign target X.env u) (fun _ s'=>∃ σ' H',Inv X pins σ' H' s'/\Q σ' H') X.xe s
noncomputable def PGs (X:Cx) (ts:List Expr) (t:TGs):Prop:=
 ∀ (pins:List (Addr×Obj)) (s:Shared) (σ:St) (H:Hp) (vs:List V) (us:List Value) (Q:St->Hp->Prop),Inv X pins σ H s->Vals vs us->t vs σ H Q→
  wpAny (model X.prog X.w) X.A (assignInOrder ((assignEach ts X.env).map (·.2)) us) (fun _ s'=>∃ σ' H',Inv X pins σ' H' s'/\Q σ' H') X.xe s
abbrev xz:=V->V->V->Hp->(Hp->Prop)->Prop
noncomputable def PSet (X:Cx) (t:xz):Prop:=
 ∀ (pins:List (Addr×Obj)) (s:Shared) (σ:St) (H:Hp) (o i v:V) (ov iv u:Value) (Q:Hp->Prop),Inv X pins σ H s->RelV o ov->RelV i iv->RelV v u->t o i v H Q→
  wpAny (model X.prog X.w) X.A (setItem ov iv u) (fun _ s'=>∃ H',Inv X pins σ H' s'/\Q H') X.xe s
section
variable {X:Cx} {pos:Pos}
def iY (i:Nat):TG:=fun v σ H Q=>Q (σ.set i (some v)) H
def oX {i:Nat} {x:Str} (hN:X.N.Nodup) (hi:X.N[i]?=some x) (hx:Loc X.env.scope x) (hf:X.fn x=true∨X.env.scope.names.lookup x=some .local:=by first | exact .inl rfl | exact .inr rfl | assumption):PG X (.Name x pos) (iY i):=by
 intro pins s σ H v u Q I r h
 exact wpAny_assign_Name (mB I hN hi hx r (fun s' I'=>⟨_,H,I',h⟩) hf)
def gNil:TGs:=fun vs σ H Q=>vs=[]/\Q σ H
def yU (t:TG) (u:TGs):TGs:=fun vs σ H Q=>∃ v r,vs=v::r/\t v σ H fun σ' H'=>u r σ' H' Q
def oY:PGs X [] gNil:=by
 intro pins s σ H vs us Q I r h
 obtain ⟨e,h⟩:=h
 subst e
 cases r
 exact assignInOrder_nil ⟨σ,H,I,h⟩
def mD {e:Expr} {es:List Expr} {t:TG} {u:TGs} (h1:PG X e t) (h2:PGs X es u)
  (hs:(assignEach (e::es) X.env).map (·.2)=assign e X.env::(assignEach es X.env).map (·.2):=by rfl):PGs X (e::es) (yU t u):=by
 intro pins s σ H vs us Q I r h
 obtain ⟨v,vr,e1,h⟩:=h
 subst e1
 cases r with
 | cons r rr =>
  rw [hs]
  refine assignInOrder_cons (thn (h1 pins s σ H _ _ _ I r h) fun _ s1 ⟨σ1,H1,I1,q1⟩=>?_)
  exact h2 pins s1 σ1 H1 _ _ Q I1 rr q1
def gTup (K:PySem.W.Frag) (n:Nat) (t:TGs):TG:=fun v σ H Q=>∃ a xs,v=.ref a/\SqT K H a xs/\xs.length=n/\t xs σ H Q
def rG {es:List Expr} {k:Nat} {t:TGs} {n:Nat} (hc:X.calm=true) (h:PGs X es t)
  (hn:(assignEach es X.env).length=n:=by rfl) (hst:(assignEach es X.env).findIdx? (·.1)=none:=by rfl):PG X (.Tuple es k pos) (gTup X.K n t):=by
 intro pins s σ H v u Q I r hw
 obtain ⟨a,xs,e1,hq,hl,hw⟩:=hw
 subst e1
 cases r
 obtain ⟨its,rv,ht,hz⟩:=I.tuple hq
 refine assign_Tuple_tuple (I.ok.hd hc) ht (by simp [hn,<- hl,rv.length]) hst fun h' hx=>?_
 have I1:Inv X pins σ H {s with heap:=h'}:=I.kept (t':=s.toks) fun b o e=>hx b o (Nat.ne_of_lt (Heap.lt_size e)) e
 exact h pins _ σ H xs _ Q I1 (by simpa using rv) hw
def gSub (to ti:TE) (t:xz):TG:=fun v σ H Q=>to σ H fun o H1=>ti σ H1 fun i H2=>t o i v H2 fun H3=>Q σ H3
def rH {o i:Expr} {to ti:TE} {t:xz} (ho:PE X o to) (hi:PE X i ti) (hs:PSet X t)
  (ha:∀ v,assign (.Subscript o i pos) X.env v=(do
   let ov <- holding [v] (eval o X.env)
   let iv <- holding [v,ov] (eval i X.env)
   standAt pos
   holding [v,ov,iv] (setItem ov iv v)
   release [v,ov,iv] []):=by intro _;rfl):PG X (.Subscript o i pos) (gSub to ti t):=by
 intro pins s σ H v u Q I r h
 rw [ha]
 refine wB (wpAny_holding (thn (ho pins s σ H _ I h) fun ov s1 ⟨x,H1,I1,r1,q1⟩=>?_))
 refine wB (wpAny_holding (thn (hi pins s1 σ H1 _ I1 q1) fun iv s2 ⟨y,H2,I2,r2,q2⟩=>?_))
 refine wB (wpAny_standAt (wB (wpAny_holding (thn (hs pins s2 σ H2 x y v ov iv u _ I2 r1 r2 r q2) fun _ s3 ⟨H3,I3,q3⟩=>?_))))
 exact wpAny_release ⟨σ,H3,I3,q3⟩
def uG (te:TE) (g:TG):TS:=fun D σ H=>te σ H fun x H1=>g x σ H1 D.nx
def nN {tg e:Expr} {te:TE} {g:TG} (he:PE X e te) (hg:PG X tg g) (hs:swapsWithSole [tg] e pos.line X.env=pure false:=by rfl) (hw:swappedStores [tg] e X.env=pure none:=by rfl)
  (h1:(assignEach [tg] X.env).map (·.2)=[assign tg X.env]:=by rfl):PS X (.Assign [tg] e pos) (uG te g):=by
 intro pins s σ H D I h
 refine wpAny_Assign_stores (thn (he pins s σ H _ I h) fun v s1 ⟨x,H1,I1,r1,q1⟩=>?_) hs hw
 rw [h1]
 exact thn (hg pins s1 σ H1 x v _ I1 r1 q1) fun _ s2 q=>q
def xA {i:Nat} {x:Str} {e:Expr} {te:TE} {pos':Pos} (hN:X.N.Nodup) (hi:X.N[i]?=some x) (hx:Loc X.env.scope x) (he:PE X e te) (hs:swapsWith e (some (.Name x pos')) pos.line X.env=pure false:=by rfl) (hf:X.fn x=true∨X.env.scope.names.lookup x=some .local:=by first | exact .inl rfl | exact .inr rfl | assumption) :
  PS X (.Assign [.Name x pos'] e pos) (uG te (iY i)):=by
 intro pins s σ H D I h
 refine wpAny_Assign_Name (thn (he pins s σ H _ I h) fun v s1 ⟨y,H1,I1,r1,q1⟩=>?_) hs
 exact mB I1 hN hi hx r1 (fun s2 I2=>⟨_,H1,I2,q1⟩) hf
end
section
variable {X:Cx} {pos:Pos}
end
structure It where
 go:Nat->Hp->Prop
 yld:Nat->Hp->V->Hp->Prop
 stop:Nat->Hp->Prop
def gG (X:Cx) (pins:List (Addr×Obj)) (H:Hp) (b:Addr):Prop:=
 H b=none/\b≠X.env.locals/\b∉X.fs/\(b∈X.ex∨X.s₀.heap.objs.size<=b)/\(∀ x c,X.env.cells.lookup x=some c->c≠b)/\∀ p∈X.pn++pins,p.1≠b
def Inv.fpOk {X:Cx} {pins:List (Addr×Obj)} {σ:St} {H H':Hp} {s:Shared} {b:Addr} (I:Inv X pins σ H s) (hb:s.heap.objs.size<=b) (hn:H' b=none):gG X pins H' b:=by
 refine ⟨hn,Nat.ne_of_gt (Nat.lt_of_lt_of_le I.lt hb),I.nofs hb,.inr (Nat.le_trans I.sz hb),fun x c e z=>?_,fun p hp z=>?_⟩
 · obtain ⟨v,q⟩:=I.cell x c e
   exact absurd (Nat.lt_of_lt_of_le q.lt (by rw [z];exact hb)) (Nat.lt_irrefl _)
 · exact absurd (Nat.lt_of_lt_of_le (Heap.lt_size (I.pin p hp).1) (by rw [z];exact hb)) (Nat.lt_irrefl _)
structure Turn (P:Program) (w:World) (K:PySem.W.Frag) (tg:Expr) (J:It) (fp:List Addr) (it:Addr) (tn:Nat->Heap->Prop):Prop where
 mem:it∈fp
 obj:∀ i h,tn i h->∀ b∈fp,∃ o,h.get? b=some o/\∀ v,o.data≠.cell v
 keep:∀ i h h',tn i h->(∀ b∈fp,∀ o,h.get? b=some o->h'.get? b=some o)->tn i h'
 item:∀ (X:Cx),X.prog=P->X.w=w->X.K=K->X.calm=true->∀ (i:Nat) (pins:List (Addr×Obj)) (s:Shared) (σ:St) (H:Hp) (E:Value->Shared->Prop),Inv X pins σ H s->(∀ b∈fp,gG X pins H b)->tn i s.heap->J.go i H→
  wpAny (model P w) X.A (pyNext (.ref it)) (fun r s1=>∃ u,r=some u∧
   wpAny (model P w) X.A (letOwnedTupleGo tg (.ref it) u) (fun _ s2=>∃ x H',Inv X pins σ H' s2/\RelV x u/\J.yld i H x H'/\tn (i+1) s2.heap/\∀ b∈fp,H' b=none) E s1) E s
 done:∀ (X:Cx),X.prog=P->X.w=w->X.K=K->X.calm=true->∀ (i:Nat) (pins:List (Addr×Obj)) (s:Shared) (σ:St) (H:Hp) (E:Value->Shared->Prop),Inv X pins σ H s->(∀ b∈fp,gG X pins H b)->tn i s.heap->J.stop i H→
  wpAny (model P w) X.A (pyNext (.ref it)) (fun r s1=>r=none/\Inv X pins σ H s1) E s
 self:∀ (A:Around) (i:Nat) (s:Shared) (Q:Value->Shared->Prop) (E:Value->Shared->Prop),tn i s.heap->Q (.ref it) s->wpAny (model P w) A (pyIter (.ref it)) Q E s
abbrev TI:=St->Hp->(It->Hp->Prop)->Prop
noncomputable def PIE (X:Cx) (pins:List (Addr×Obj)) (σ:St) (tg:Expr) (R:It->Hp->Prop) (itv:Value) (s2:Shared):Prop:=
 ∃ (it:Addr) (fp:List Addr) (tn:Nat->Heap->Prop) (J:It) (H':Hp),itv=.ref it/\Inv X pins σ H' s2/\Turn X.prog X.w X.K tg J fp it tn/\tn 0 s2.heap/\(∀ b∈fp,gG X pins H' b)/\R J H'
noncomputable def PI (X:Cx) (tg iter:Expr) (wi:TI):Prop:=
 ∀ (pins:List (Addr×Obj)) (s:Shared) (σ:St) (H:Hp) (R:It->Hp->Prop),Inv X pins σ H s->wi σ H R→
  wpAny (model X.prog X.w) X.A (eval iter X.env) (fun v s1=>wpAny (model X.prog X.w) X.A (pyIter v) (PIE X pins σ tg R) X.xe s1) X.xe s
def jE {M:Model} {A:Around} {E:Value->Shared->Prop} {s:Shared} {tg:Expr} {it:Addr} {u:Value} {o:Obj} {n:String} {vs:Array Value} {Q:Unit->Shared->Prop} (ho:s.heap.get? it=some o) (hc:o.cls=.type n) (hd:o.data=.fields vs)
  (hn:["enumerate","zip","dict_itemiterator","dict_reverseitemiterator","odict_iterator","itertools.zip_longest","itertools.pairwise"].contains n=false) (hQ:Q () s):wpAny M A (letOwnedTupleGo tg (.ref it) u) Q E s:=by
 unfold letOwnedTupleGo
 cases tg<;>first
  | exact wpAny_pure hQ
  | (cases u<;>first
      | exact wpAny_pure hQ
      | (refine wB (wpAny_load ho ?_)
         rw [hc,hd]
         show wpAny M A (if (["enumerate","zip","dict_itemiterator","dict_reverseitemiterator","odict_iterator","itertools.zip_longest","itertools.pairwise"].contains n&&vs[0]?==some (rawInt _))=true then _ else _) Q E s
         rw [if_neg (by intro h;rw [hn,Bool.false_and] at h;cases h)]
         exact wpAny_pure hQ))
def Itl (K:PySem.W.Frag) (a:Addr):It:=
 ⟨fun i H=>∃ xs x,SqL K H a xs/\xs[i]?=some x,fun i H x H'=>H'=H/\∀ xs,SqL K H a xs->xs[i]?=some x,fun i H=>∃ xs,SqL K H a xs/\xs.length<=i⟩
def Itt (K:PySem.W.Frag) (a:Addr):It:=
 ⟨fun i H=>∃ xs x,SqT K H a xs/\xs[i]?=some x,fun i H x H'=>H'=H/\∀ xs,SqT K H a xs->xs[i]?=some x,fun i H=>∃ xs,SqT K H a xs/\xs.length<=i⟩
def Itr (lo:Int) (n:Nat):It:=⟨fun i _=>i<n,fun i H x H'=>H'=H/\x=.int (lo+i),fun i _=>n<=i⟩
def qv {P:Program} {w:World} {K:PySem.W.Frag} {tg:Expr} (a it:Addr):Turn P w K tg (Itl K a) [it] it (fun i h=>h.IsListIter it a i) where
 mem:=by simp
 obj:=fun i h st b hb=>by
  have e:b=it:=by simpa using hb
  subst e
  obtain ⟨o,e,c,d⟩:=st
  exact ⟨o,e,fun v z=>by rw [d] at z;cases z⟩
 keep:=fun i h h' st k=>st.at fun o e=>k it (by simp) o e
 item:=by
  intro X hP hw hK hc i pins s σ H E I hf st hg
  subst hP hw hK
  obtain ⟨xs,x,hq,hx⟩:=hg
  obtain ⟨its,rv,p,hz⟩:=I.list hq
  obtain ⟨u,hu,ru⟩:=rv.get hx
  obtain ⟨f0,f1,f2,f3,f4,f5⟩:=hf it (by simp)
  refine wpAny_pyNext_list_item st p.isList (x:=u) (by simpa using hu) fun h' st' sb=>?_
  have I1:Inv X pins σ H {s with heap:=h'}:=I.turned (t':=s.toks) (fun b o hb e=>(sb.2 b hb).trans e) f0 f1 f3 f4 f5
  obtain ⟨o,e,c,d⟩:=id st'
  exact ⟨u,rfl,jE (s:={s with heap:=h'}) e c d (by decide) ⟨x,H,I1,ru,⟨rfl,fun ys hy=>by rw [I.list_inj hy hq];exact hx⟩,st',fun b hb=>(hf b hb).1⟩⟩
 done:=by
  intro X hP hw hK hc i pins s σ H E I hf st hg
  subst hP hw hK
  obtain ⟨xs,hq,hx⟩:=hg
  obtain ⟨its,rv,p,hz⟩:=I.list hq
  obtain ⟨f0,f1,f2,f3,f4,f5⟩:=hf it (by simp)
  have hl:=rv.length
  exact wpAny_pyNext_list_end (I.ok.hd hc) st p.isList (by simp;omega) fun h' eb=>⟨rfl,I.turned (t':=s.toks) (fun b o hb e=>eb b o hb e) f0 f1 f3 f4 f5⟩
 self:=fun _ _ _ _ _ st h=>wpAny_pyIter_listiter st h
def nO {P:Program} {w:World} {K:PySem.W.Frag} {tg:Expr} (a it:Addr):Turn P w K tg (Itt K a) [it] it (fun i h=>h.IsTupleIter it a i) where
 mem:=by simp
 obj:=fun i h st b hb=>by
  have e:b=it:=by simpa using hb
  subst e
  obtain ⟨o,e,c,d⟩:=st
  exact ⟨o,e,fun v z=>by rw [d] at z;cases z⟩
 keep:=fun i h h' st k=>st.at fun o e=>k it (by simp) o e
 item:=by
  intro X hP hw hK hc i pins s σ H E I hf st hg
  subst hP hw hK
  obtain ⟨xs,x,hq,hx⟩:=hg
  obtain ⟨its,rv,p,hz⟩:=I.tuple hq
  obtain ⟨u,hu,ru⟩:=rv.get hx
  obtain ⟨f0,f1,f2,f3,f4,f5⟩:=hf it (by simp)
  refine wpAny_pyNext_tuple_item st (show s.heap.IsTuple a its.toArray from p) (x:=u) (by simpa using hu) fun h' st' sb=>?_
  have I1:Inv X pins σ H {s with heap:=h'}:=I.turned (t':=s.toks) (fun b o hb e=>(sb.2 b hb).trans e) f0 f1 f3 f4 f5
  obtain ⟨o,e,c,d⟩:=id st'
  exact ⟨u,rfl,jE (s:={s with heap:=h'}) e c d (by decide) ⟨x,H,I1,ru,⟨rfl,fun ys hy=>by rw [I.tuple_inj hy hq];exact hx⟩,st',fun b hb=>(hf b hb).1⟩⟩
 done:=by
  intro X hP hw hK hc i pins s σ H E I hf st hg
  subst hP hw hK
  obtain ⟨xs,hq,hx⟩:=hg
  obtain ⟨its,rv,p,hz⟩:=I.tuple hq
  obtain ⟨f0,f1,f2,f3,f4,f5⟩:=hf it (by simp)
  have hl:=rv.length
  exact wpAny_pyNext_tuple_end (I.ok.hd hc) st (show s.heap.IsTuple a its.toArray from p) (by simp;omega) fun h' eb=>⟨rfl,I.turned (t':=s.toks) (fun b o hb e=>eb b o hb e) f0 f1 f3 f4 f5⟩
 self:=fun _ _ _ _ _ st h=>wpAny_pyIter_tupleiter st h
def nP {P:Program} {w:World} {K:PySem.W.Frag} {tg:Expr} (it:Addr) (lo:Int) (n:Nat):Turn P w K tg (Itr lo n) [it] it (fun i h=>IsRangeIter h it (lo+(i:Nat)*1) ((n:Int)-(i:Nat)) 1) where
 mem:=by simp
 obj:=fun i h st b hb=>by
  have e:b=it:=by simpa using hb
  subst e
  exact ⟨_,st,fun v z=>by
   have z':Data.fields _=Data.cell v:=z
   cases z'⟩
 keep:=fun i h h' st k=>k it (by simp) _ st
 item:=by
  intro X hP hw hK hc i pins s σ H E I hf st hg
  subst hP hw hK
  obtain ⟨f0,f1,f2,f3,f4,f5⟩:=hf it (by simp)
  have W:=Walks.range (prog:=X.prog) (w:=X.w) (I.ok.hd hc) it lo 1 n
  refine W.item i s _ _ hg st fun v h' tk hv st' kk=>?_
  obtain ⟨t,rfl⟩:=hv
  have I1:Inv X pins σ H {s with heap:=h',toks:=tk}:=I.turned (fun b o hb e=>kk b o (by simpa using hb) e) f0 f1 f3 f4 f5
  refine ⟨_,rfl,jE (s:={s with heap:=h',toks:=tk}) (n:="range_iterator") st' rfl rfl (by decide) ⟨.int (lo+i),H,I1,⟨t,?_⟩,⟨rfl,rfl⟩,st',fun b hb=>(hf b hb).1⟩⟩
  rw [Int.mul_one]
 done:=by
  intro X hP hw hK hc i pins s σ H E I hf st hg
  subst hP hw hK
  obtain ⟨f0,f1,f2,f3,f4,f5⟩:=hf it (by simp)
  exact wpAny_pyNext_range_end (I.ok.hd hc) st (by have:n<=i:=hg;omega) fun h' eb=>⟨rfl,I.turned (t':=s.toks) (fun b o hb e=>eb b o hb e) f0 f1 f3 f4 f5⟩
 self:=fun _ _ _ _ _ st h=>wpAny_pyIter_rangeiter st h
section
variable {X:Cx} {tg:Expr}
def yV (K:PySem.W.Frag) (tl:TE):TI:=fun σ H R=>tl σ H fun x H1=>∃ a,x=.ref a/\(∃ xs,SqL K H1 a xs)/\R (Itl K a) H1
def iTup (K:PySem.W.Frag) (tl:TE):TI:=fun σ H R=>tl σ H fun x H1=>∃ a,x=.ref a/\(∃ xs,SqT K H1 a xs)/\R (Itt K a) H1
def lv {l:Expr} {tl:TE} (hl:PE X l tl):PI X tg l (yV X.K tl):=by
 intro pins s σ H R I h
 refine thn (hl pins s σ H _ I h) fun v s1 ⟨x,H1,I1,r1,q1⟩=>?_
 obtain ⟨a,e,⟨xs,hq⟩,q⟩:=q1
 subst e
 cases r1
 obtain ⟨its,rv,p,hz⟩:=I1.list hq
 refine wpAny_pyIter_list p.isList ?_
 refine ⟨s1.heap.objs.size,[s1.heap.objs.size],_,_,H1,rfl,I1.kept (t':=s1.toks) fun b o e=>gP _ e,qv a _,⟨_,Heap.get?_push_size _ rfl,rfl,rfl⟩,fun b hb=>?_,q⟩
 have e:b=s1.heap.objs.size:=by simpa using hb
 subst e
 exact I1.fpOk (nL _) (I1.hok.fresh (nL _))
def rJ {l:Expr} {tl:TE} (hl:PE X l tl):PI X tg l (iTup X.K tl):=by
 intro pins s σ H R I h
 refine thn (hl pins s σ H _ I h) fun v s1 ⟨x,H1,I1,r1,q1⟩=>?_
 obtain ⟨a,e,⟨xs,hq⟩,q⟩:=q1
 subst e
 cases r1
 obtain ⟨its,rv,p,hz⟩:=I1.tuple hq
 refine wpAny_pyIter_tuple (show s1.heap.IsTuple a its.toArray from p) ?_
 refine ⟨s1.heap.objs.size,[s1.heap.objs.size],_,_,H1,rfl,I1.kept (t':=s1.toks) fun b o e=>gP _ e,nO a _,⟨_,Heap.get?_push_size _ rfl,rfl,rfl⟩,fun b hb=>?_,q⟩
 have e:b=s1.heap.objs.size:=by simpa using hb
 subst e
 exact I1.fpOk (nL _) (I1.hok.fresh (nL _))
def rK {pins:List (Addr×Obj)} {σ:St} {H:Hp} {s:Shared} {R:It->Hp->Prop} {E:Value->Shared->Prop} {lo hi:Int} {t u v:Tok} {tk:Nat} (I:Inv X pins σ H s) (h1:-(2^62)<=lo) (h2:lo<2^62) (h3:-(2^62)<=hi) (h4:hi<2^62)
  (q:R (Itr lo (hi-lo).toNat) H):wpAny (model X.prog X.w) X.A (pyIter (.ref s.heap.objs.size)) (PIE X pins σ tg R) E {s with heap:=s.heap.push {cls:=.type "range",data:=.fields #[.int lo t,.int hi u,.int 1 v]},toks:=tk}:=by
 refine wpAny_pyIter_range (IsRange.new ..) (small_one h1 h2 h3 h4) ?_
 have I1:Inv X pins σ H {s with heap:=s.heap.push {cls:=.type "range",data:=.fields #[.int lo t,.int hi u,.int 1 v]},toks:=tk}:=I.kept fun b o e=>gP _ e
 refine ⟨(s.heap.push {cls:=.type "range",data:=.fields #[.int lo t,.int hi u,.int 1 v]}).objs.size,[(s.heap.push {cls:=.type "range",data:=.fields #[.int lo t,.int hi u,.int 1 v]}).objs.size],_,_,H,rfl,
  I1.kept (t':=tk) fun b o e=>gP _ e,nP _ lo (hi-lo).toNat,?_,fun b hb=>?_,q⟩
 · have e1:lo+((0:Nat):Int)*1=lo:=by simp
   have e2:(((hi-lo).toNat:Nat):Int)-((0:Nat):Int)=Builtin.Range.rangeSize lo hi 1:=by rw [rangeSize_one];split<;>omega
   show IsRangeIter _ _ (lo+((0:Nat):Int)*1) ((((hi-lo).toNat:Nat):Int)-((0:Nat):Int)) 1
   rw [e1,e2]
   exact Heap.get?_push_size _ rfl
 · have e:b=(s.heap.push {cls:=.type "range",data:=.fields #[.int lo t,.int hi u,.int 1 v]}).objs.size:=by simpa using hb
   subst e
   exact I1.fpOk (nL _) (I1.hok.fresh (nL _))
def wz (ta:TA):TI:=fun σ H R=>ta σ H fun vs H1=>∃ j:Int,vs=[.int j]/\-(2^62)<=j/\j<2^62/\R (Itr 0 j.toNat) H1
def qw {a:Expr} {ta:TA} {p pos:Pos} (hg:Gl X "range") (hm:X.mg "range"=none) (ha:PA X [a] ta) (hs:starEach [a] X.env=[(false,eval a X.env)]:=by rfl):PI X tg (.Call (.Name "range" p) [a] [] pos) (wz ta):=by
 intro pins s σ H R I h
 refine Call_ (jD I hg hm boot_range (PyProof.Rows.callWith_type1 (thn (ha pos pins s σ H _ I h) fun us s1 ⟨vs,H1,I1,r1,q1⟩=>?_) hs rfl))
 obtain ⟨j,e,q1,q2,q⟩:=q1
 subst e
 cases r1 with
 | cons r rr =>
  cases rr
  obtain ⟨t,rfl⟩:=r
  exact call_range_1 (rK I1 (by omega) (by omega) q1 q2 (by simpa using q))
noncomputable def tFor (wi:TI) (g:TG) (tb:TS):TS:=fun D σ H=>wi σ H fun J H1=>∃ W:Nat->Nat->St->Hp->Prop,(∃ m,W 0 m σ H1)/\∀ i m σ H,W i m σ H→
 (J.stop i H/\D.nx σ H)∨(J.go i H/\∃ N:St->Hp->Prop,(∀ σ' H',N σ' H'->∃ m',m'<m/\W (i+1) m' σ' H')/\∀ x H',J.yld i H x H'->g x σ H' fun σ2 H2=>tb {D with nx:=N,ct:=N,bk:=D.nx} σ2 H2)
def iH (fp:List Addr) (h:Heap):List (Addr×Obj):=fp.filterMap fun b=>(h.get? b).map fun o=>(b,o)
def di {fp:List Addr} {h:Heap} {b:Addr} {o:Obj} (hb:b∈fp) (e:h.get? b=some o):(b,o)∈iH fp h:=List.mem_filterMap.mpr ⟨b,hb,by rw [e];rfl⟩
def qx {fp:List Addr} {h:Heap} {p:Addr×Obj} (hp:p∈iH fp h):p.1∈fp/\h.get? p.1=some p.2:=by
 obtain ⟨b,hb,e⟩:=List.mem_filterMap.mp hp
 cases q:h.get? b with
 | none=>rw [q] at e;cases e
 | some o =>
  rw [q] at e
  have e':(b,o)=p:=Option.some.inj e
  subst e'
  exact ⟨hb,q⟩
def Inv.pinned {pins:List (Addr×Obj)} {σ:St} {H:Hp} {s:Shared} {fp:List Addr} (I:Inv X pins σ H s) (hf:∀ b∈fp,gG X pins H b) (ho:∀ b∈fp,∃ o,s.heap.get? b=some o/\∀ v,o.data≠.cell v):Inv X (pins++iH fp s.heap) σ H s:=
 I.pins_of fun p hp=>(List.mem_append.mp hp).elim (fun z=>I.pin p (List.mem_append_right _ z)) fun z=>by
  obtain ⟨hb,e⟩:=qx z
  obtain ⟨f0,f1,f2,_⟩:=hf p.1 hb
  obtain ⟨o,e',d⟩:=ho p.1 hb
  rw [e] at e';cases e'
  exact ⟨e,f0,f1,f2,d⟩
def Inv.unpinned {pins pl:List (Addr×Obj)} {σ:St} {H:Hp} {s:Shared} (I:Inv X (pins++pl) σ H s):Inv X pins σ H s:=I.pins_of fun p hp=>I.pin p (List.mem_append_right _ (List.mem_append_left _ hp))
def jF {iter:Expr} {body:List Stmt} {wi:TI} {g:TG} {tb:TS} {pos:Pos} (hp:PassesOwn (model X.prog X.w) X.A X.env X.xe) (hc:X.calm=true) (hi:PI X tg iter wi) (hg:PG X tg g) (hb:PSs X body tb)
  (hs:∀ x,foldedSetIterable iter X.env x=pure x:=by intro _;rfl):PS X (.For tg iter body [] pos) (tFor wi g tb):=by
 intro pins s σ H D I h
 refine wpAny_For (thn (hi pins s σ H _ I h) fun v s1 h1=>thn h1 fun itv s2 h2=>?_) hs
 obtain ⟨it,fp,tn,J,H2,e,I2,T,st2,f2,W,⟨m0,w0⟩,turn⟩:=h2
 subst e
 -- what stays true of the iterator's objects through the loop
 have stat:∀ {H':Hp},(∀ b∈fp,H' b=none)->∀ b∈fp,gG X pins H' b:=fun hn b hb=>⟨hn b hb,(f2 b hb).2⟩
 refine codeAny_forLoop_any (fun n s'=>∃ i σ' H',Inv X pins σ' H' s'/\tn i s'.heap/\(∀ b∈fp,H' b=none)/\W i n σ' H') ?_ m0 ⟨0,σ,H2,I2,st2,fun b hb=>(f2 b hb).1,w0⟩
 rintro n s3 ⟨i,σ3,H3,I3,st3,fr3,w3⟩
 rcases turn i n σ3 H3 w3 with ⟨stop,qn⟩ | ⟨go,N,hN,step⟩
 · refine wpAny_passesOwn hp (thn (T.done X rfl rfl rfl hc i pins s3 σ3 H3 X.xe I3 (stat fr3) st3 stop) fun r s4 ⟨hr,I4⟩=>?_)
   subst hr
   exact wpAny_execs_nil ⟨σ3,H3,I4,qn⟩
 · refine wpAny_passesOwn hp (thn (T.item X rfl rfl rfl hc i pins s3 σ3 H3 X.xe I3 (stat fr3) st3 go) fun r s4 ⟨u,hr,h4⟩=>?_)
   subst hr
   refine wpAny_passesOwn hp (thn h4 fun _ s5 ⟨x,H5,I5,r5,y5,st5,fr5⟩=>?_)
   have I5':=I5.pinned (stat fr5) (T.obj _ _ st5)
   refine wpAny_passesOwn hp (thn (hg _ s5 σ3 H5 x u _ I5' r5 (step x H5 y5)) fun _ s6 ⟨σ6,H6,I6,q6⟩=>?_)
   refine wpAny_passesOwn hp (thn (hb _ s6 σ6 H6 _ I6 q6) fun f s7 q7=>?_)
   have again:∀ {σ7:St} {H7:Hp},Inv X (pins++iH fp s5.heap) σ7 H7 s7->N σ7 H7->∃ m,m<n/\∃ i σ' H',Inv X pins σ' H' s7/\tn i s7.heap/\(∀ b∈fp,H' b=none)/\W i m σ' H':=fun {σ7 H7} I7 n7=>by
    obtain ⟨m',hm,w7⟩:=hN σ7 H7 n7
    refine ⟨m',hm,i+1,σ7,H7,I7.unpinned,T.keep _ _ _ st5 fun b hb o e=>(I7.pin (b,o) (List.mem_append_right _ (List.mem_append_right _ (di hb e)))).1,fun b hb=>?_,w7⟩
    obtain ⟨o,e,d⟩:=T.obj _ _ st5 b hb
    exact (I7.pin (b,o) (List.mem_append_right _ (List.mem_append_right _ (di hb e)))).2.1
   cases f with
   | next=>obtain ⟨σ7,H7,I7,n7⟩:=q7;exact again I7 n7
   | cont=>obtain ⟨σ7,H7,I7,n7⟩:=q7;exact again I7 n7
   | brk=>obtain ⟨σ7,H7,I7,q7⟩:=q7;exact ⟨σ7,H7,I7.unpinned,q7⟩
   | ret v=>obtain ⟨x7,σ7,H7,I7,r7,q7⟩:=q7;exact ⟨x7,σ7,H7,I7.unpinned,r7,q7⟩
end
abbrev R2:=V->V->Hp->VK->Prop
noncomputable def OpR (X:Cx) (f:Value->Value->Sem Value) (r:R2):Prop:=
 ∀ (pins:List (Addr×Obj)) (s:Shared) (σ:St) (H:Hp) (x y:V) (v u:Value) (Q:VK),Inv X pins σ H s->RelV x v->RelV y u->r x y H Q→
  wpAny (model X.prog X.w) X.A (f v u) (EP X pins σ Q) X.xe s
noncomputable def UnR (X:Cx) (f:Value->Sem Value) (r:V->Hp->VK->Prop):Prop:=
 ∀ (pins:List (Addr×Obj)) (s:Shared) (σ:St) (H:Hp) (x:V) (v:Value) (Q:VK),Inv X pins σ H s->RelV x v->r x H Q→
  wpAny (model X.prog X.w) X.A (f v) (EP X pins σ Q) X.xe s
noncomputable def CallR (X:Cx) (f:Value) (r:List V->Hp->VK->Prop):Prop:=
 ∀ (pins:List (Addr×Obj)) (s:Shared) (σ:St) (H:Hp) (xs:List V) (us:List Value) (Q:VK),Inv X pins σ H s->Vals xs us->r xs H Q→
  wpAny (model X.prog X.w) X.A (call f us) (EP X pins σ Q) X.xe s
noncomputable def TruR (X:Cx) (r:V->Hp->(Bool->Hp->Prop)->Prop):Prop:=
 ∀ (pins:List (Addr×Obj)) (s:Shared) (σ:St) (H:Hp) (x:V) (v:Value) (Q:Bool->Hp->Prop),Inv X pins σ H s->RelV x v->r x H Q→
  wpAny (model X.prog X.w) X.A (truthy v) (TP X pins σ Q) X.xe s
def tOp (r:R2) (ta tb:TE):TE:=fun σ H Q=>ta σ H fun x H1=>tb σ H1 fun y H2=>r x y H2 Q
def rI (C:Int->Int->Prop) (g:Int->Int->V):R2:=fun x y H Q=>∃ i j,x=.int i/\y=.int j/\C i j/\Q (g i j) H
def rI0 (g:Int->Int->V):R2:=fun x y H Q=>∃ i j,x=.int i/\y=.int j/\Q (g i j) H
section
variable {X:Cx} {a b c:Expr} {ta tb tc:TE} {pos:Pos}
def xB (ha:PE X a ta) (hb:PE X b tb) {pins:List (Addr×Obj)} {s:Shared} {σ:St} {H:Hp} {R:V->V->Hp->Prop} (I:Inv X pins σ H s)
  (h:ta σ H fun x H1=>tb σ H1 fun y H2=>R x y H2) {Q:Value->Shared->Prop} {f:Value->Value->Sem Value}
  (hf:∀ v u s2 x y H2,Inv X pins σ H2 s2->RelV x v->RelV y u->R x y H2->wpAny (model X.prog X.w) X.A (f v u) Q X.xe s2) :
  wpAny (model X.prog X.w) X.A (eval a X.env) (fun v s₁=>wpAny (model X.prog X.w) X.A (eval b X.env) (fun u s₂=>wpAny (model X.prog X.w) X.A (f v u) Q X.xe s₂) X.xe s₁) X.xe s:=by
 refine thn (ha pins s σ H _ I h) fun v s1 ⟨x,H1,I1,r1,q1⟩=>?_
 refine thn (hb pins s1 σ H1 _ I1 q1) fun u s2 ⟨y,H2,I2,r2,q2⟩=>?_
 exact hf v u s2 x y H2 I2 r1 r2 q2
def oZ {op:Operator} {r:R2} (ho:OpR X (binaryOp op) r) (ha:PE X a ta) (hb:PE X b tb):PE X (.BinOp a op b pos) (tOp r ta tb):=by
 intro pins s σ H Q I h
 exact wpAny_BinOp (xB ha hb I h fun v u s2 x y H2 I2 rx ry q=>ho pins s2 σ H2 x y v u Q I2 rx ry q)
def opI {f:Value->Value->Sem Value} {C:Int->Int->Prop} {g:Int->Int->Int}
  (rule:∀ (i j:Int) (t u:Tok) (s:Shared) (Q:Value->Shared->Prop) (E:Value->Shared->Prop),C i j->Q (.int (g i j) s.toks) {s with toks:=s.toks+1}->wpAny (model X.prog X.w) X.A (f (.int i t) (.int j u)) Q E s) :
  OpR X f (rI C fun i j=>.int (g i j)):=by
 intro pins s σ H x y v u Q I rx ry h
 obtain ⟨i,j,rfl,rfl,hc,q⟩:=h
 obtain ⟨t,rfl⟩:=rx
 obtain ⟨t',rfl⟩:=ry
 exact rule i j t t' s _ _ hc ⟨.int (g i j),H,I.tok _,⟨_,rfl⟩,q⟩
def opI0 {f:Value->Value->Sem Value} {g:Int->Int->Int}
  (rule:∀ (i j:Int) (t u:Tok) (s:Shared) (Q:Value->Shared->Prop) (E:Value->Shared->Prop),Q (.int (g i j) s.toks) {s with toks:=s.toks+1}->wpAny (model X.prog X.w) X.A (f (.int i t) (.int j u)) Q E s) :
  OpR X f (rI0 fun i j=>.int (g i j)):=by
 intro pins s σ H x y v u Q I rx ry h
 obtain ⟨i,j,rfl,rfl,q⟩:=h
 obtain ⟨t,rfl⟩:=rx
 obtain ⟨t',rfl⟩:=ry
 exact rule i j t t' s _ _ ⟨.int (g i j),H,I.tok _,⟨_,rfl⟩,q⟩
def uH {f:Value->Value->Sem Value} {g:Int->Int->Bool}
  (rule:∀ (i j:Int) (t u:Tok) (s:Shared) (Q:Value->Shared->Prop) (E:Value->Shared->Prop),Q (.bool (g i j)) s->wpAny (model X.prog X.w) X.A (f (.int i t) (.int j u)) Q E s) :
  OpR X f (rI0 fun i j=>.bl (g i j)):=by
 intro pins s σ H x y v u Q I rx ry h
 obtain ⟨i,j,rfl,rfl,q⟩:=h
 obtain ⟨t,rfl⟩:=rx
 obtain ⟨t',rfl⟩:=ry
 exact rule i j t t' s _ _ ⟨.bl (g i j),H,I,rfl,q⟩
def xC (i j:Int):Prop:=0<=j/\j<=1000000/\i.natAbs<2^64
def CMul (i j:Int):Prop:=(-(2^64)<i/\i<2^64)∨(-(2^64)<j/\j<2^64)
def CMul.ok {i j:Int} (h:CMul i j):IntMulOk i j:=by
 rcases h with ⟨h1,h2⟩ | ⟨h1,h2⟩
 · exact .of_left (intBits_le_64 h1 h2)
 · exact .of_right (intBits_le_64 h1 h2)
def xD:OpR X (binaryOp .Add) (rI0 fun i j=>.int (i+j)):=opI0 fun _ _ _ _ _ _ _ q=>add_int q
def eX:OpR X (binaryOp .Sub) (rI0 fun i j=>.int (i-j)):=opI0 fun _ _ _ _ _ _ _ q=>sub_int q
def cY:OpR X (binaryOp .Mult) (rI CMul fun i j=>.int (i*j)):=opI fun _ _ _ _ _ _ _ hc q=>mul_int q hc.ok
def cg:OpR X (binaryOp .Mod) (rI (fun _ j=>0<j) fun i j=>.int (i%j)):=opI fun i j _ _ _ _ _ hc q=>by
 have h1:(0:Int)<j:=hc
 exact mod_int' (by omega) (by rw [Int.fmod_eq_emod_of_nonneg i (by omega)];exact q)
def lw:OpR X (binaryOp .Pow) (rI xC fun i j=>.int (i^j.toNat)):=opI fun _ _ _ _ _ _ _ hc q=>pow_int_small hc.1 hc.2.1 hc.2.2 q
end
noncomputable def xE:V->V->Bool
 | .non,.non=>true | .non,.int _=>true | .int _,.non=>true | .non,.bl _=>true | .bl _,.non=>true | .non,.str _=>true | .str _,.non=>true
 | .int _,.int _=>true | .bl _,.bl _=>true | .str _,.str _=>true | .byt _,.byt _=>true
 | .int _,.str _=>true | .str _,.int _=>true | .bl _,.str _=>true | .str _,.bl _=>true
 | _,_=>false
def rEq:R2:=fun x y H Q=>xE x y=true/\Q (.bl (decide (x=y))) H
def rNe:R2:=fun x y H Q=>xE x y=true/\Q (.bl (!decide (x=y))) H
def o3 {i j:Int}:decide (V.int i=V.int j)=(i==j):=by
 rw [Bool.eq_iff_iff]
 simp
def rL {i j:Bool}:decide (V.bl i=V.bl j)=(i==j):=by
 rw [Bool.eq_iff_iff]
 simp
def o4 {i j:Str}:decide (V.str i=V.str j)=(i==j):=by
 rw [Bool.eq_iff_iff]
 simp
def o5 {i j:Array UInt8}:decide (V.byt i=V.byt j)=(i.toList==j.toList):=by
 rw [Bool.eq_iff_iff]
 cases i
 cases j
 simp
section
variable {X:Cx} {a b c:Expr} {ta tb tc:TE} {pos:Pos}
def bu {pins:List (Addr×Obj)} {σ:St} {H:Hp} {s:Shared} {Q:VK} {k k':Bool} (I:Inv X pins σ H s) (q:Q (.bl k) H) (e:k=k'):EP X pins σ Q (.bool k') s:=by
 subst e
 exact ⟨.bl k,H,I,rfl,q⟩
def yW:OpR X (compareOp .Eq) rEq:=by
 intro pins s σ H x y v u Q I rx ry h
 obtain ⟨hs,q⟩:=h
 cases x with
 | non =>
  cases rx
  cases y with
  | non=>cases ry;exact PySem.EqNone.eq_none_none (bu I q (by simp))
  | bl j=>cases ry;exact PySem.EqNone.eq_none_bool (bu I q (by simp))
  | int j=>obtain ⟨t',rfl⟩:=ry;exact PySem.EqNone.eq_none_int (bu I q (by simp))
  | str j=>obtain ⟨t',rfl⟩:=ry;exact PySem.EqNone.eq_none_str (bu I q (by simp))
  | _=>exact absurd (show false=true from hs) Bool.false_ne_true
 | bl i =>
  cases rx
  cases y with
  | non=>cases ry;exact PySem.EqNone.eq_bool_none (bu I q (by simp))
  | bl j=>cases ry;exact eq_bool (bu I q rL)
  | str j=>obtain ⟨t',rfl⟩:=ry;exact PySem.EqMixed.eq_bool_str (bu I q (by simp))
  | _=>exact absurd (show false=true from hs) Bool.false_ne_true
 | int i =>
  obtain ⟨t,rfl⟩:=rx
  cases y with
  | non=>cases ry;exact PySem.EqNone.eq_int_none (bu I q (by simp))
  | int j=>obtain ⟨t',rfl⟩:=ry;exact eq_int (bu I q o3)
  | str j=>obtain ⟨t',rfl⟩:=ry;exact PySem.EqMixed.eq_int_str (bu I q (by simp))
  | _=>exact absurd (show false=true from hs) Bool.false_ne_true
 | str i =>
  obtain ⟨t,rfl⟩:=rx
  cases y with
  | non=>cases ry;exact PySem.EqNone.eq_str_none (bu I q (by simp))
  | bl j=>cases ry;exact PySem.EqMixed.eq_str_bool (bu I q (by simp))
  | int j=>obtain ⟨t',rfl⟩:=ry;exact PySem.EqMixed.eq_str_int (bu I q (by simp))
  | str j=>obtain ⟨t',rfl⟩:=ry;exact eq_str (bu I q o4)
  | _=>exact absurd (show false=true from hs) Bool.false_ne_true
 | byt i =>
  obtain ⟨t,rfl⟩:=rx
  cases y with
  | byt j=>obtain ⟨t',rfl⟩:=ry;exact PySem.W.eq_bytes (bu I q o5)
  | _=>exact absurd (show false=true from hs) Bool.false_ne_true
 | _=>cases y<;>exact absurd (show false=true from hs) Bool.false_ne_true
def yX:OpR X (compareOp .NotEq) rNe:=by
 intro pins s σ H x y v u Q I rx ry h
 obtain ⟨hs,q⟩:=h
 cases x with
 | non =>
  cases rx
  cases y with
  | non=>cases ry;exact PySem.EqNone.ne_none_none (bu I q (by simp))
  | bl j=>cases ry;exact PySem.EqNone.ne_none_bool (bu I q (by simp))
  | int j=>obtain ⟨t',rfl⟩:=ry;exact PySem.EqNone.ne_none_int (bu I q (by simp))
  | str j=>obtain ⟨t',rfl⟩:=ry;exact PySem.EqNone.ne_none_str (bu I q (by simp))
  | _=>exact absurd (show false=true from hs) Bool.false_ne_true
 | bl i =>
  cases rx
  cases y with
  | non=>cases ry;exact PySem.EqNone.ne_bool_none (bu I q (by simp))
  | bl j=>cases ry;exact ne_bool (bu I q (congrArg not rL))
  | str j=>obtain ⟨t',rfl⟩:=ry;exact PySem.EqMixed.ne_bool_str (bu I q (by simp))
  | _=>exact absurd (show false=true from hs) Bool.false_ne_true
 | int i =>
  obtain ⟨t,rfl⟩:=rx
  cases y with
  | non=>cases ry;exact PySem.EqNone.ne_int_none (bu I q (by simp))
  | int j=>obtain ⟨t',rfl⟩:=ry;exact ne_int (bu I q (congrArg not o3))
  | str j=>obtain ⟨t',rfl⟩:=ry;exact PySem.EqMixed.ne_int_str (bu I q (by simp))
  | _=>exact absurd (show false=true from hs) Bool.false_ne_true
 | str i =>
  obtain ⟨t,rfl⟩:=rx
  cases y with
  | non=>cases ry;exact PySem.EqNone.ne_str_none (bu I q (by simp))
  | bl j=>cases ry;exact PySem.EqMixed.ne_str_bool (bu I q (by simp))
  | int j=>obtain ⟨t',rfl⟩:=ry;exact PySem.EqMixed.ne_str_int (bu I q (by simp))
  | str j=>obtain ⟨t',rfl⟩:=ry;exact ne_str (bu I q (congrArg not o4))
  | _=>exact absurd (show false=true from hs) Bool.false_ne_true
 | byt i =>
  obtain ⟨t,rfl⟩:=rx
  cases y with
  | byt j=>obtain ⟨t',rfl⟩:=ry;exact PySem.W.ne_bytes (bu I q (congrArg not o5))
  | _=>exact absurd (show false=true from hs) Bool.false_ne_true
 | _=>cases y<;>exact absurd (show false=true from hs) Bool.false_ne_true
def rM:OpR X (compareOp .Lt) (rI0 fun i j=>.bl (decide (i<j))):=uH fun _ _ _ _ _ _ _ q=>lt_int q
def wA:OpR X (compareOp .LtE) (rI0 fun i j=>.bl (decide (i<=j))):=uH fun _ _ _ _ _ _ _ q=>le_int q
def wC:OpR X (compareOp .Gt) (rI0 fun i j=>.bl (decide (j<i))):=uH fun _ _ _ _ _ _ _ q=>gt_int q
def yY:OpR X (compareOp .GtE) (rI0 fun i j=>.bl (decide (j<=i))):=uH fun _ _ _ _ _ _ _ q=>ge_int q
def xF:OpR X (compareOp .Is) (fun x y H Q=>y=.non/\Q (.bl (decide (x=.non))) H):=by
 intro pins s σ H x y v u Q I rx ry h
 obtain ⟨rfl,q⟩:=h
 cases ry
 refine is_none_gen (bu I q ?_)
 cases x<;>first
  | (cases rx;rfl)
  | (obtain ⟨t,rfl⟩:=rx;rfl)
def OpR.or {f:Value->Value->Sem Value} {r r':R2} (h:OpR X f r) (h':OpR X f r'):OpR X f (fun x y H Q=>r x y H Q∨r' x y H Q):=by
 intro pins s σ H x y v u Q I rx ry q
 rcases q with q | q
 · exact h pins s σ H x y v u Q I rx ry q
 · exact h' pins s σ H x y v u Q I rx ry q
def cw (b:Expr) {op:CmpOp} (h:op≠.In:=by decide) (h2:op≠.NotIn:=by decide):behindInMarks op b=false:=by
 have e1:(op==CmpOp.In)=false:=by cases op<;>first | rfl | exact absurd rfl h
 have e2:(op==CmpOp.NotIn)=false:=by cases op<;>first | rfl | exact absurd rfl h2
 cases b<;>simp [behindInMarks,e1,e2]
def o6 {op:CmpOp} {r:R2} (ho:OpR X (compareOp op) r) (ha:PE X a ta) (hb:PE X b tb) (hm:behindInMarks op b=false):PE X (.Compare a [op] [b] pos) (tOp r ta tb):=by
 intro pins s σ H Q I h
 exact wpAny_Compare1 (xB ha hb I h fun v u s2 x y H2 I2 rx ry q=>ho pins s2 σ H2 x y v u Q I2 rx ry q) hm
def yZ (t:TE):TT:=fun σ H Q=>t σ H fun x H'=>∃ k,x=.bl k/\Q k H'
def lx {op:CmpOp} {r:R2} (ho:OpR X (compareOp op) r) (ha:PE X a ta) (hb:PE X b tb) (hm:behindInMarks op b=false):PT X (.Compare a [op] [b] pos) (yZ (tOp r ta tb)):=by
 intro pins s σ H Q I h
 refine wpAny_isTrue_Compare1 (thn (ha pins s σ H _ I h) fun v s1 ⟨x,H1,I1,r1,q1⟩=>thn (hb pins s1 σ H1 _ I1 q1) fun u s2 ⟨y,H2,I2,r2,q2⟩ =>
  thn (ho pins s2 σ H2 x y v u _ I2 r1 r2 q2) fun c s3 ⟨z,H3,I3,r3,k,e,q3⟩=>?_) hm
 subst e
 cases r3
 exact wpAny_truthy_bool ⟨H3,I3,q3⟩
noncomputable def xG (K:PySem.W.Frag) (x:V) (H:Hp) (k:Bool):Prop:=
 match x with
 | .non=>k=false
 | .bl b=>k=b
 | .int i=>k=(i != 0)
 | .str y=>y.length<=sizeLine/\k=((y.length:Int) != 0)
 | .byt y=>y.size<=sizeLine/\k=((y.size:Int) != 0)
 | .ref p=>(∃ xs,SqL K H p xs/\k=!xs.isEmpty)∨(∃ xs,SqT K H p xs/\k=!xs.isEmpty)∨∃ kvs,H p=some (.dK kvs)/\k=!kvs.isEmpty
 | _=>False
def nQ {κ:Type} {kvs:List (κ×V)} {vs:List (κ×Value)} (r:KV kvs vs):(!vs.isEmpty)=!kvs.isEmpty:=by
 cases r<;>rfl
def jG {xs:List V} {its:List Value} (r:Vals xs its):(!its.toArray.isEmpty)=!xs.isEmpty:=by
 cases r<;>simp
def iI:(sizeLine:Nat)<2^63:=by rw [sizeLine_eq];decide
def xH:TruR X (fun x H Q=>∃ k,xG X.K x H k/\Q k H):=by
 intro pins s σ H x v Q I rx h
 obtain ⟨k,e,q⟩:=h
 have hl:=iI
 have hs:sizeLine=16777216:=sizeLine_eq
 cases x with
 | non =>
  cases rx
  have e':k=false:=e
  subst e'
  exact truthy_none ⟨H,I,q⟩
 | bl b =>
  cases rx
  have e':k=b:=e
  subst e'
  exact wpAny_truthy_bool ⟨H,I,q⟩
 | int i =>
  obtain ⟨t,rfl⟩:=rx
  have e':k=(i != 0):=e
  subst e'
  exact PySem.P.truthy_int ⟨H,I,q⟩
 | str y =>
  obtain ⟨t,rfl⟩:=rx
  obtain ⟨hy,e'⟩:y.length<=sizeLine/\k=((y.length:Int) != 0):=e
  subst e'
  exact PySem.P.truthy_str (by omega) ⟨H,I.tok _,q⟩
 | byt y =>
  obtain ⟨t,rfl⟩:=rx
  obtain ⟨hy,e'⟩:y.size<=sizeLine/\k=((y.size:Int) != 0):=e
  subst e'
  exact PySem.W.truthy_bytes (by omega) ⟨H,I.tok _,q⟩
 | ref p =>
  cases rx
  have e':(∃ xs,SqL X.K H p xs/\k=!xs.isEmpty)∨(∃ xs,SqT X.K H p xs/\k=!xs.isEmpty)∨∃ kvs,H p=some (.dK kvs)/\k=!kvs.isEmpty:=e
  rcases e' with ⟨xs,hx,e'⟩ | ⟨xs,hx,e'⟩ | ⟨kvs,hx,e'⟩
  · subst e'
    obtain ⟨its,r,pl,hz⟩:=I.list hx
    have hlen:=r.length
    exact wpAny_truthy_list pl.isList (by simp only [List.size_toArray];omega) ⟨H,I.tok _,by rw [jG r];exact q⟩
  · subst e'
    obtain ⟨its,r,pl,hz⟩:=I.tuple hx
    have hlen:=r.length
    exact truthy_tuple pl (by simp only [List.size_toArray];omega) ⟨H,I.tok _,by rw [jG r];exact q⟩
  · subst e'
    obtain ⟨hz,hS,vs,r,m⟩:kvs.length<=sizeLine/\(p==sysModules)=false/\∃ vs,KV kvs vs/\s.heap.DictOf (bp X.prog X.w) p vs:=I.hok p _ hx
    have hlen:kvs.length=vs.length:=Paired.length r
    exact wpAny_truthy_dict hS m (by omega) ⟨H,I.tok _,by rw [nQ r];exact q⟩
 | _=>exact (show False from e).elim
def mE (ha:PE X a ta) (he:∀ whole,isTrue a X.env whole=(do let v <- whole;standAt a.pos;holding [v] (truthy v))) :
  PT X a (fun σ H Q=>ta σ H fun x H'=>∃ k,xG X.K x H' k/\Q k H'):=by
 intro pins s σ H Q I h
 exact isTrue_plain (thn (ha pins s σ H _ I h) fun v s1 ⟨x,H1,I1,r1,q1⟩=>xH pins s1 σ H1 x v Q I1 r1 q1) (he _)
def nR:OpR X (binaryOp .Add) (fun x y H Q=>∃ i j,x=.str i/\y=.str j/\i.length+j.length<=sizeLine/\Q (.str (i++j)) H):=by
 intro pins s σ H x y v u Q I rx ry h
 obtain ⟨i,j,rfl,rfl,hz,q⟩:=h
 obtain ⟨t,rfl⟩:=rx
 obtain ⟨t',rfl⟩:=ry
 exact add_str (fun t' tk=>⟨.str (i++j),H,I.tok _,⟨_,rfl⟩,q⟩) hz
def iZ {x:V} {us:List Value} (r:Vals [x] us):∃ u,us=[u]/\RelV x u:=by
 cases r with
 | cons r1 r2=>cases r2;exact ⟨_,rfl,r1⟩
def wD {x y:V} {us:List Value} (r:Vals [x,y] us):∃ u w',us=[u,w']/\RelV x u/\RelV y w':=by
 cases r with
 | cons r1 r2 =>
  cases r2 with
  | cons r3 r4=>cases r4;exact ⟨_,_,rfl,r1,r3⟩
def qy (hc:X.calm=true):CallR X (.builtin "min") (fun xs H Q=>∃ i j,xs=[.int i,.int j]/\Q (.int (if j<i then j else i)) H):=by
 intro pins s σ H xs us Q I r h
 obtain ⟨i,j,rfl,q⟩:=h
 obtain ⟨u,w',rfl,⟨t,rfl⟩,⟨t',rfl⟩⟩:=wD r
 refine min_two_ints (I.ok.hd hc) fun h' tk k=>⟨_,H,I.kept k,?_,q⟩
 by_cases hj:j<i
 · rw [if_pos hj,if_pos hj];exact ⟨_,rfl⟩
 · rw [if_neg hj,if_neg hj];exact ⟨_,rfl⟩
def qz:CallR X (.type "int") (fun xs H Q=>(∃ i,xs=[.int i]/\Q (.int i) H)∨∃ k,xs=[.bl k]/\Q (.int (if k then 1 else 0)) H):=by
 intro pins s σ H xs us Q I r h
 rcases h with ⟨i,rfl,q⟩ | ⟨k,rfl,q⟩
 · obtain ⟨u,rfl,t,rfl⟩:=iZ r
   exact call_int_int ⟨.int i,H,I,⟨_,rfl⟩,q⟩
 · obtain ⟨u,rfl,r1⟩:=iZ r
   cases r1
   exact call_int_bool ⟨.int (if k then 1 else 0),H,I.tok _,⟨_,rfl⟩,q⟩
noncomputable def LenV (K:PySem.W.Frag) (x:V) (H:Hp) (n:Nat):Prop:=
 match x with
 | .str y=>y.length<=sizeLine/\n=y.length
 | .byt y=>y.size<=sizeLine/\n=y.size
 | .ref p=>(∃ xs,SqL K H p xs/\n=xs.length)∨∃ xs,SqT K H p xs/\n=xs.length
 | _=>False
def bw:CallR X (.builtin "len") (fun xs H Q=>∃ x n,xs=[x]/\LenV X.K x H n/\Q (.int n) H):=by
 intro pins s σ H xs us Q I r h
 obtain ⟨x,n,rfl,e,q⟩:=h
 obtain ⟨u,rfl,rx⟩:=iZ r
 have hl:=iI
 have hs:sizeLine=16777216:=sizeLine_eq
 cases x with
 | str y =>
  obtain ⟨t,rfl⟩:=rx
  obtain ⟨hy,e'⟩:y.length<=sizeLine/\n=y.length:=e
  subst e'
  exact len_str (by omega) ⟨.int _,H,I.tok _,⟨_,rfl⟩,q⟩
 | byt y =>
  obtain ⟨t,rfl⟩:=rx
  obtain ⟨hy,e'⟩:y.size<=sizeLine/\n=y.size:=e
  subst e'
  exact PySem.W.len_bytes (by omega) ⟨.int _,H,I.tok _,⟨_,rfl⟩,q⟩
 | ref p =>
  cases rx
  have e':(∃ xs,SqL X.K H p xs/\n=xs.length)∨∃ xs,SqT X.K H p xs/\n=xs.length:=e
  rcases e' with ⟨xs,hx,e'⟩ | ⟨xs,hx,e'⟩
  · subst e'
    obtain ⟨its,r',pl,hz⟩:=I.list hx
    have hlen:=r'.length
    exact Calls.call_len_list pl.isList (by simp only [List.size_toArray];omega) ⟨.int xs.length,H,I.tok _,⟨_,by simp only [List.size_toArray];rw [hlen]⟩,q⟩
  · subst e'
    obtain ⟨its,r',pl,hz⟩:=I.tuple hx
    have hlen:=r'.length
    exact len_tuple pl (by simp only [List.size_toArray];omega) ⟨.int xs.length,H,I.tok _,⟨_,by simp only [List.size_toArray];rw [hlen]⟩,q⟩
 | _=>exact (show False from e).elim
end
structure ObjM (h:Heap) (x dx C:Addr) (mA:Str->Option Value):Prop where
 obj:h.get? x=some (PySem.W.instObj C dx)
 ns:h.Ns1 dx mA
 ne:dx≠x
def qA {h:Heap} {dx:Addr} {mA:Str->Option Value} (n:h.Ns1 dx mA):∃ od,h.get? dx=some od/\∀ name,PySem.W.lookIn name od=some (mA name):=by
 obtain ⟨o,es,ep,ho,hd,hk,_,hm⟩:=n
 refine ⟨o,ho,fun name=>?_⟩
 have e:=hm name
 unfold nsFind findBy at e
 rw [<- Array.find?_toList] at e
 unfold PySem.W.lookIn
 rw [hd]
 dsimp only
 split
 · rename_i y q
   rw [q] at e
   exact congrArg some e
 · rename_i q
   rw [q] at e
   have a:es.toList.any (·.refKey)=false:=by
    rw [List.any_eq_false]
    intro y hy
    obtain ⟨z,t,hkey⟩:=hk y (Array.mem_toList_iff.mp hy)
    simp [DictEntry.refKey,hkey]
   have a':¬ es.toList.any (·.refKey)=true:=by rw [a];exact Bool.false_ne_true
   rw [if_neg a']
   exact congrArg some e
def ObjM.look {h:Heap} {x dx C:Addr} {mA:Str->Option Value} (I:ObjM h x dx C mA):∃ od,PySem.W.InstAt h x (PySem.W.instObj C dx) C (some od)/\∀ name,PySem.W.lookIn name od=some (mA name):=
 let ⟨od,ho,hl⟩:=qA I.ns
 ⟨od,⟨I.obj,rfl,rfl,ho⟩,hl⟩
section
variable {prog:Program} {w:World} {A:Around} {E:Value->Shared->Prop} {s:Shared} {K:PySem.W.Frag} {x dx C f:Addr} {mA:Str->Option Value} {name:Str} {v:Value}
def uI {expr:Bool} {Q:Value->Shared->Prop} (X:K.In s.heap) (I:ObjM s.heap x dx C mA) (hg:PySem.W.plainGet K C name=true) (hh:PySem.W.hasDictIn K C=true)
  (ha:PySem.W.findIn K (.ref C) name=some none) (hv:mA name=some v) (hv':PySem.W.handedIn v=true) (h:Q v {s with toks:=s.toks+1}) :
  wpAny (model prog w) A (getAttr (.ref x) name expr) Q E s:=by
 obtain ⟨od,J,hl⟩:=I.look
 exact PySem.W.get_value X J (PySem.W.plainGet_of hg).1 (PySem.W.findObj_own hh ha rfl (by rw [hl,hv])) hv' h
def rN {pl:Sem Bool} {Q:Value×List Value->Shared->Prop} (X:K.In s.heap) (I:ObjM s.heap x dx C mA) (hg:PySem.W.plainGet K C name=true)
  (hf:PySem.W.findIn K (.ref C) name=some (some (.ref f))) (ht:PySem.W.isFn K (.ref f)=true) (hv:mA name=none) (h:Q (.ref f,[.ref x]) s) :
  wpAny (model prog w) A (getMethod (.ref x) name pl) Q E s:=by
 obtain ⟨od,J,hl⟩:=I.look
 exact PySem.W.method_fn X J (PySem.W.plainGet_of hg).1 (PySem.W.plainGet_of hg).2 hf (beq_iff_eq.mp ht) (by show (PySem.W.lookIn name od).map (·.isSome)=some false;rw [hl,hv];rfl) h
def uJ {ns:List Str} {Q:Unit->Shared->Prop} (X:K.In s.heap) (I:ObjM s.heap x dx C mA)
  (hs:PySem.W.findIn K (.ref C) "__setattr__"=some (some (.builtin "object.__setattr__"))) (hp:PySem.W.plainOver K C=true) (ht:PySem.W.takerIn K C name=some none) (hh:PySem.W.hasDictIn K C=true)
  (hw:PySem.Within mA ns) (hsz:ns.length<=sizeLine)
  (h:∀ h',ObjM h' x dx C (fun y=>if y=name then some v else mA y)->Heap.SameBut dx s.heap h'->Q () {s with heap:=h',toks:=s.toks+2}) :
  wpAny (model prog w) A (setAttr (.ref x) name v) Q E s:=by
 obtain ⟨od,J,hl⟩:=I.look
 refine PySem.W.set_plain X J hs (PySem.W.osa_open (s:={s with toks:=s.toks+1}) (r:=none) X J hp ht fun b=>?_)
 obtain ⟨cd,hc,hd'⟩:=PySem.W.any_some hh
 have hx:s.heap.get? x=some ⟨.ref C,some dx,.plain,#[]⟩:=I.obj
 refine wB (wpAny_pure (wB (wB (wpAny_loadPart hx (wB (PySem.W.Looks.here (s:={s with toks:=s.toks+1}) (PySem.W.looks_clsIn X hc) ?_))))))
 rw [hd']
 refine wpAny_pure (a:=some dx) (wB (wpAny_pure (wB ?_)))
 refine wpAny_nsSet1 (s:={s with toks:=s.toks+1}) I.ns fun h' hn2 hs2=>?_
 obtain ⟨oD,esD,epD,hoD,hdD,hcD⟩:=hn2.count (PySem.Within.cons name v hw)
 refine wB (wpAny_lookBehind hoD (by rw [hdD];exact pastItsLine_dict (Nat.le_trans hcD (by rw [List.length_cons];omega))) ?_)
 exact wpAny_pure (h _ ⟨(hs2.2 _ (Ne.symm I.ne)).trans I.obj,hn2,I.ne⟩ hs2)
def rO {R:Result->Shared->Prop} {vs:List Value} {kw:List (Str×Value)} (X:K.In s.heap) (hm:PySem.W.makesIn K C=true)
  (hi:PySem.W.findIn K (.ref C) "__init__"=some (some (.ref f))) (hf:PySem.W.typeIn K (.ref f)=some (.type "function"))
  (h:codeAny (model prog w) (A.under (.builtin "type.__call__" ⟨.ref C::vs,kw⟩)) (.call (.ref f) ⟨.ref (s.heap.objs.size+1)::vs,kw⟩) (PySem.W.InitBack (s.heap.objs.size+1) R)
   {s with heap:=(s.heap.push PySem.W.emptyDict).push (PySem.W.instObj C s.heap.objs.size)}) :
  codeAny (model prog w) A (.call (.ref C) ⟨vs,kw⟩) R s:=by
 obtain ⟨hh,g,d,t,os⟩:=s
 exact PySem.W.make_core (PySem.W.makes_of X hm) (PySem.W.looks_findIn X hi) (fun self=>PySem.W.bind_fn X self hf) (.inl rfl) h
end
def d9 (f:Str) (v:V):List (Str×V)->List (Str×V)
 | []=>[(f,v)]
 | (g,x)::r=>if g=f then (g,v)::r else (g,x)::d9 f v r
def i8 (f g:Str) (v:V):∀ fs:List (Str×V),(d9 f v fs).lookup g=if g=f then some v else fs.lookup g
 | []=>by
  show List.lookup g [(f,v)]=_
  by_cases h:g=f
  · have hb:(g==f)=true:=beq_iff_eq.mpr h
    simp only [List.lookup,hb,if_pos h]
  · have hb:(g==f)=false:=beq_eq_false_iff_ne.mpr h
    simp only [List.lookup,hb,if_neg h]
 | (k,x)::r=>by
  have ih:=i8 f g v r
  rw [show d9 f v ((k,x)::r)=(if k=f then (k,v)::r else (k,x)::d9 f v r) from rfl]
  by_cases hk:k=f
  · rw [if_pos hk]
    by_cases h:g=k
    · have hb:(g==k)=true:=beq_iff_eq.mpr h
      simp only [List.lookup,hb,if_pos (h.trans hk)]
    · have hb:(g==k)=false:=beq_eq_false_iff_ne.mpr h
      simp only [List.lookup,hb,if_neg (fun e:g=f=>h (e.trans hk.symm))]
  · rw [if_neg hk]
    by_cases h:g=k
    · have hb:(g==k)=true:=beq_iff_eq.mpr h
      simp only [List.lookup,hb,if_neg (fun e:g=f=>hk (h.symm.trans e))]
    · have hb:(g==k)=false:=beq_eq_false_iff_ne.mpr h
      simp only [List.lookup,hb]
      exact ih
def iJ (f:Str) (v:V):∀ fs:List (Str×V),f∈(d9 f v fs).map (·.1)/\∀ g,g∈fs.map (·.1)->g∈(d9 f v fs).map (·.1)
 | []=>⟨by simp [d9],fun g h=>by simp at h⟩
 | (k,x)::r=>by
  obtain ⟨i1,i2⟩:=iJ f v r
  rw [show d9 f v ((k,x)::r)=(if k=f then (k,v)::r else (k,x)::d9 f v r) from rfl]
  by_cases hk:k=f
  · rw [if_pos hk]
    subst hk
    exact ⟨by simp,fun g h=>by simpa using h⟩
  · rw [if_neg hk]
    refine ⟨?_,fun g h=>?_⟩
    · rw [List.map_cons]
      exact List.mem_cons_of_mem _ i1
    · rw [List.map_cons] at h ⊢
      rcases List.mem_cons.mp h with e | e
      · exact List.mem_cons.mpr (.inl e)
      · exact List.mem_cons_of_mem _ (i2 g e)
def ja (f:Str) (v:V):∀ fs:List (Str×V),(d9 f v fs).length<=fs.length+1
 | []=>by simp [d9]
 | (k,x)::r=>by
  have ih:=ja f v r
  rw [show d9 f v ((k,x)::r)=(if k=f then (k,v)::r else (k,x)::d9 f v r) from rfl]
  by_cases hk:k=f
  · rw [if_pos hk,List.length_cons,List.length_cons];omega
  · rw [if_neg hk,List.length_cons,List.length_cons];omega
def RelO.some_of {v:V} {o:Option Value} (r:RelO (some v) o):∃ u,o=some u/\RelV v u:=by
 cases o with
 | none=>exact (show False from r).elim
 | some u=>exact ⟨u,rfl,r⟩
def RelO.none_of {o:Option Value} (r:RelO none o):o=none:=by
 cases o with
 | none=>rfl
 | some u=>exact (show False from r).elim
def qB {v:V} {u:Value} (r:RelV v u):PySem.W.handedIn u=true:=by
 cases v with
 | non=>cases (show u=Value.none from r);rfl
 | bl b=>cases (show u=Value.bool b from r);rfl
 | int i=>obtain ⟨t,e⟩:=(show ∃ t,u=Value.int i t from r);cases e;rfl
 | str x=>obtain ⟨t,e⟩:=(show ∃ t,u=Value.str x t from r);cases e;rfl
 | byt b=>obtain ⟨t,e⟩:=(show ∃ t,u=Value.bytes b t from r);cases e;rfl
 | flt b=>obtain ⟨t,e⟩:=(show ∃ t,u=Value.float b t from r);cases e;rfl
 | ref a=>cases (show u=Value.ref a from r);rfl
 | ty n=>cases (show u=Value.type n from r);rfl
section
variable {P:Program} {w:World} {H H':Hp} {h h':Heap} {a C dx:Addr} {fs fs':List (Str×V)}
def ly (hok:HOk P w H h) (e:H a=some (.ins C dx fs)):∃ mA,ObjM h a dx C mA/\(∀ f,RelO (fs.lookup f) (mA f))/\PySem.Within mA (fs.map (·.1))/\fs.length<=1000/\H dx=some (.own a):=by
 obtain ⟨d,z,ne,ob,mA,n,r,q⟩:=(show ObjOk P w H h a (.ins C dx fs) from hok a _ e)
 exact ⟨mA,⟨ob,n,ne⟩,r,q,z,d⟩
end
structure Cls (K:PySem.W.Frag) (C:Addr):Prop where
 pg:PySem.W.plainGet K C Str.empty=true
 hd:PySem.W.hasDictIn K C=true
 po:PySem.W.plainOver K C=true
 sa:PySem.W.findIn K (.ref C) "__setattr__"=some (some (.builtin "object.__setattr__"))
def Cls.get {K:PySem.W.Frag} {C:Addr} (c:Cls K C) (f:Str):PySem.W.plainGet K C f=true:=c.pg
def NoAttr (K:PySem.W.Frag) (C:Addr) (f:Str):Prop:=PySem.W.findIn K (.ref C) f=some none
def NoAttr.taker {K:PySem.W.Frag} {C:Addr} {f:Str} (n:NoAttr K C f):PySem.W.takerIn K C f=some none:=by
 unfold PySem.W.takerIn
 rw [show PySem.W.findIn K (.ref C) f=some none from n]
 rfl
structure Meth (K:PySem.W.Frag) (C:Addr) (m:Str) (f:Addr):Prop where
 at_:PySem.W.findIn K (.ref C) m=some (some (.ref f))
 fn:PySem.W.isFn K (.ref f)=true
 kp:PySem.W.keepIn K (.ref f)=true
section
variable {X:Cx} {pins:List (Addr×Obj)} {σ:St} {H:Hp} {s:Shared} {a C dx:Addr} {fs:List (Str×V)} {f:Str} {v:V} {A:Around} {E:Value->Shared->Prop}
def nS {b:Bool} {Q:Value->Shared->Prop} (I:Inv X pins σ H s) (e:H a=some (.ins C dx fs)) (c:Cls X.K C) (n:NoAttr X.K C f) (l:fs.lookup f=some v)
  (h:∀ u s',Inv X pins σ H s'->RelV v u->Q u s'):wpAny (model X.prog X.w) A (getAttr (.ref a) f b) Q E s:=by
 obtain ⟨mA,O,r,_,_,_⟩:=ly I.hok e
 obtain ⟨u,hu,ru⟩:=RelO.some_of (v:=v) (o:=mA f) (by rw [<- l];exact r f)
 exact uI I.kIn O (c.get f) c.hd n hu (qB ru) (h u _ (I.tok _) ru)
def gH {m:Str} {g:Addr} {pl:Sem Bool} {Q:Value×List Value->Shared->Prop} (I:Inv X pins σ H s) (e:H a=some (.ins C dx fs)) (c:Cls X.K C) (k:Meth X.K C m g) (l:fs.lookup m=none)
  (h:Q (.ref g,[.ref a]) s):wpAny (model X.prog X.w) A (getMethod (.ref a) m pl) Q E s:=by
 obtain ⟨mA,O,r,_,_,_⟩:=ly I.hok e
 have hn:mA m=none:=RelO.none_of (by rw [<- l];exact r m)
 exact rN I.kIn O (c.get m) k.at_ k.fn hn h
def nT {y:V} {u:Value} {Q:Unit->Shared->Prop} (I:Inv X pins σ H s) (e:H a=some (.ins C dx fs)) (c:Cls X.K C) (n:NoAttr X.K C f) (hl:fs.length<1000) (ry:RelV y u)
  (h:∀ s',Inv X pins σ (upd H a (.ins C dx (d9 f y fs))) s'->Q () s'):wpAny (model X.prog X.w) A (setAttr (.ref a) f u) Q E s:=by
 obtain ⟨mA,O,r,wi,_,ho⟩:=ly I.hok e
 have hz:(fs.map (·.1)).length<=sizeLine:=by rw [List.length_map,sizeLine_eq];omega
 refine uJ I.kIn O c.sa c.po n.taker c.hd wi hz fun h' O' sb=>h _ ?_
 have hd:∃ o,h'.get? dx=some o:=let ⟨o,_,_,e',_⟩:=O'.ns;⟨o,e'⟩
 refine I.write (x:=a) (e:=dx) (by rw [e];exact True.intro) (.inr ho) (fun b q hb z=>(sb.2 b hb).trans z) hd ?_
 refine ⟨by rw [aF O.ne];exact ho,?_,O.ne,O'.obj,_,O'.ns,fun g=>?_,fun g hg=>?_⟩
 · have:=ja f y fs;omega
 · show RelO ((d9 f y fs).lookup g) (if g=f then some u else mA g)
   rw [i8]
   by_cases q:g=f
   · rw [if_pos q,if_pos q];exact ry
   · rw [if_neg q,if_neg q];exact r g
 · by_cases q:g=f
   · rw [q];exact (iJ f y fs).1
   · refine (iJ f y fs).2 g (wi g fun z=>hg ?_)
     show (if g=f then some u else mA g)=none
     rw [if_neg q];exact z
def Inv.made (I:Inv X pins σ H s):Inv X pins σ (upd (upd H s.heap.objs.size (.own (s.heap.objs.size+1))) (s.heap.objs.size+1) (.ins C s.heap.objs.size []))
  {s with heap:=(s.heap.push PySem.W.emptyDict).push (PySem.W.instObj C s.heap.objs.size)}:=by
 have e1:(s.heap.push PySem.W.emptyDict).get? s.heap.objs.size=some PySem.W.emptyDict:=Heap.get?_push_size s.heap rfl
 have e2:((s.heap.push PySem.W.emptyDict).push (PySem.W.instObj C s.heap.objs.size)).get? (s.heap.objs.size+1)=some (PySem.W.instObj C s.heap.objs.size):=by
  have:=Heap.get?_push_size (s.heap.push PySem.W.emptyDict) (o:=PySem.W.instObj C s.heap.objs.size) rfl
  rwa [Heap.size_push] at this
 have e3:(s.heap.push PySem.W.emptyDict).Ns s.heap.objs.size (fun _=>none):=⟨PySem.W.emptyDict,#[],_,e1,rfl,(fun e he=>absurd he (by simp)),fun _=>rfl⟩
 have I1:=I.laid (a:=s.heap.objs.size) (o:=.own (s.heap.objs.size+1)) (h':=s.heap.push PySem.W.emptyDict) (t':=s.toks) (fun b u q=>gP _ q) (nL _) ⟨_,e1⟩
 refine I1.laid (a:=s.heap.objs.size+1) (o:=.ins C s.heap.objs.size []) (t':=s.toks) (fun b u q=>gP _ q) (Nat.le_of_eq (Heap.size_push _ _)) ?_
 have ne:s.heap.objs.size≠s.heap.objs.size+1:=Nat.ne_of_lt (Nat.lt_succ_self _)
 refine ⟨by rw [aF ne,az],Nat.zero_le _,ne,e2,fun _=>none,(Heap.Ns1.of_empty e3).at fun o q=>gP _ q,fun _=>True.intro,fun y hy=>absurd rfl hy⟩
def uK {prog:Program} {w:World} {env:Env} {e:Expr} {f:Str} {pos:Pos} {s:Shared} {Q:Value->Shared->Prop} (hb:attributeBase e f env (eval e env)=eval e env)
  (h:wpAny (model prog w) A (eval e env) (fun o s₁=>wpAny (model prog w) A (getAttr o f true) Q E s₁) E s):wpAny (model prog w) A (eval (.Attribute e f pos) env) Q E s:=
 Attribute_any_ h (by rw [arm_eval_Attribute,hb])
end
def tFld (K:PySem.W.Frag) (ta:TE) (f:Str):TE:=fun σ H Q=>ta σ H fun x H1=>∃ a C dx fs v,x=.ref a/\H1 a=some (.ins C dx fs)/\Cls K C/\NoAttr K C f/\fs.lookup f=some v/\Q v H1
noncomputable def sFld (K:PySem.W.Frag) (ta tv:TE) (f:Str):TS:=fun D σ H=>tv σ H fun y H1=>ta σ H1 fun x H2=>∃ a C dx fs,x=.ref a/\H2 a=some (.ins C dx fs)/\Cls K C/\NoAttr K C f/\fs.length<1000∧
 D.nx σ (upd H2 a (.ins C dx (d9 f y fs)))
section
variable {X:Cx} {o e value:Expr} {f:Str} {pos pos' tpos:Pos} {ta tv:TE}
def xI (he:PE X e ta) (hb:attributeBase e f X.env (eval e X.env)=eval e X.env):PE X (.Attribute e f pos) (tFld X.K ta f):=by
 intro pins s σ H Q I h
 refine uK hb (thn (he pins s σ H _ I h) fun u s1 ⟨x,H1,I1,rx,a,C,dx,fs,v,ex,ea,c,n,l,q⟩=>?_)
 subst ex
 obtain rfl:u=Value.ref a:=rx
 exact nS I1 ea c n l fun u' s2 I2 ru=>⟨v,H1,I2,ru,q⟩
def xJ (ha:PE X o ta) (hv:PE X value tv) (hs:swapsWith value (some (.Attribute o f pos')) pos.line X.env=pure false):PS X (.Assign [.Attribute o f pos'] value pos) (sFld X.K ta tv f):=by
 intro pins s σ H D I h
 refine plainObj_wpAny_Assign_Attribute (thn (hv pins s σ H _ I h) fun u s1 ⟨y,H1,I1,ry,q⟩=>thn (ha pins s1 σ H1 _ I1 q) fun ov s2 ⟨x,H2,I2,rx,a,C,dx,fs,ex,ea,c,n,l,q2⟩=>?_) hs
 subst ex
 obtain rfl:ov=Value.ref a:=rx
 exact nT I2 ea c n l ry fun s3 I3=>⟨σ,_,I3,q2⟩
def wE {pl:Sem Bool} {m:Str} {apos:Pos} {args:List Expr} {pins:List (Addr×Obj)} {s:Shared} {σ:St} {H:Hp} {Q:Value->Shared->Prop} {te:TE} (he:PE X e te) (I:Inv X pins σ H s)
  (h:te σ H fun x H1=>∃ a C dx fs g,x=.ref a/\H1 a=some (.ins C dx fs)/\Cls X.K C/\Meth X.K C m g/\fs.lookup m=none∧
   ∀ s1,Inv X pins σ H1 s1->wpAny (model X.prog X.w) X.A (callWith pos (.ref g) [.ref a] (backTo pos (starEach args X.env)) (backToKw pos (keywordEach [] X.env))) Q X.xe s1)
  (ht:eval (.Call (.Attribute e m apos) args [] pos) X.env=(do
   let ov <- eval e X.env
   standAt apos.atName
   let (f,first) <- holding [ov] (getMethod ov m pl)
   callWith pos f first (backTo pos (starEach args X.env)) (backToKw pos (keywordEach [] X.env)))) :
  wpAny (model X.prog X.w) X.A (eval (.Call (.Attribute e m apos) args [] pos) X.env) Q X.xe s:=by
 refine PySem.W.methodCall_KW (pl:=pl) (thn (he pins s σ H _ I h) fun u s1 ⟨x,H1,I1,rx,a,C,dx,fs,g,ex,ea,c,k,l,q⟩=>?_) ht
 subst ex
 obtain rfl:u=Value.ref a:=rx
 exact gH I1 ea c k l (q s1 I1)
end
section
variable {X:Cx} {pins:List (Addr×Obj)} {σ:St} {H:Hp} {s:Shared} {A:Around} {E:Value->Shared->Prop} {Q:Value->Shared->Prop} {c:Value} {b:Bool}
end
structure Room (k:Nat) (A:Around):Prop where
 hd:A.handled=none
 dp:A.depth+3*k+5<recursionLimit
 un:A.units+16*k+200<cLine
def Room.mono {j k:Nat} {A:Around} (r:Room k A) (h:j<=k):Room j A:=⟨r.hd,by have:=r.dp;omega,by have:=r.un;omega⟩
def Room.deeper {k:Nat} {A:Around} (r:Room (k+1) A) (env:Env):Room k (A.deeper env):=
 ⟨r.hd,by have:=r.dp;show A.depth+1+3*k+5<_;omega,by have:=r.un;show A.units+3+16*k+200<_;omega⟩
def nU {A:Around} {C:Addr} {us:List Value} {kw:List (Str×Value)}:(A.under (.builtin "type.__call__" ⟨.ref C::us,kw⟩)).depth=A.depth+1:=by
 first | rfl | simp [Around.under,Code.weight,Code.isCreation,Code.isGuard,Code.isCaller,Code.frames,Code.isFrame,guardIds]
def nV {A:Around} {C:Addr} {us:List Value} {kw:List (Str×Value)}:(A.under (.builtin "type.__call__" ⟨.ref C::us,kw⟩)).units=A.units+1:=by
 first | rfl | simp [Around.under,Code.cUnits,Code.frames,Code.isFrame]
def Room.make {k:Nat} {A:Around} (r:Room (k+1) A) (C:Addr) (us:List Value) (kw:List (Str×Value)):Room k (A.under (.builtin "type.__call__" ⟨.ref C::us,kw⟩)):=
 ⟨r.hd,by have:=r.dp;rw [nU];omega,by have:=r.un;rw [nV];omega⟩
def Room.depth {k:Nat} {A:Around} (r:Room k A):A.depth<recursionLimit:=by have:=r.dp;omega
def Room.units {k:Nat} {A:Around} (r:Room k A):A.units+64<cLine:=by have:=r.un;omega
def tNil:TA:=fun _ H Q=>Q [] H
def y0 (ta:TE) (tr:TA):TA:=fun σ H Q=>ta σ H fun x H1=>tr σ H1 fun xs H2=>Q (x::xs) H2
section
variable {X:Cx} {e:Expr} {es:List Expr} {te:TE} {t:TA} {pos:Pos}
def fM:PA X [] tNil:=fun _ _ _ _ H Q I h=>Calls.spliced_nil ⟨[],H,I,.nil,h⟩
def dX (ha:PE X e te) (hr:PA X es t) (hs:starEach (e::es) X.env=(false,eval e X.env)::starEach es X.env:=by rfl):PA X (e::es) (y0 te t):=by
 intro pos pins s σ H Q I h
 rw [hs]
 show wpAny _ _ (spliced ((false,eval e X.env)::backTo pos (starEach es X.env))) _ _ s
 refine Calls.spliced_cons (thn (ha pins s σ H _ I h) fun u s1 ⟨x,H1,I1,r1,q1⟩=>?_)
 exact thn (hr pos pins s1 σ H1 _ I1 q1) fun us s2 ⟨xs,H2,I2,r2,q2⟩=>⟨x::xs,H2,I2,.cons r1 r2,q2⟩
def tTup (t:TA):TE:=fun σ H Q=>t σ H fun xs H1=>xs.length<=sizeLine/\∀ p,H1 p=none->Q (.ref p) (upd H1 p (.tup xs))
def tLst (t:TA):TE:=fun σ H Q=>t σ H fun xs H1=>xs.length<=sizeLine/\∀ p,H1 p=none->Q (.ref p) (upd H1 p (.lst xs))
def jH {x1} (h:PA X es t):PE X (.Tuple es x1 pos) (tTup t):=by
 intro pins s σ H Q I hq
 refine wpAny_Tuple_spliced (thn (h pos pins s σ H _ I hq) fun us s1 ⟨xs,H1,I1,r,z,q⟩=>⟨by rw [<- r.length];exact z,?_⟩)
 have hf:H1 s1.heap.objs.size=none:=I1.hok.fresh (nL _)
 refine ⟨.ref s1.heap.objs.size,upd H1 s1.heap.objs.size (.tup xs),I1.laid (t':=s1.toks) (fun b u e=>gP _ e) (nL _) ?_,rfl,q _ hf⟩
 exact ⟨z,us,r,⟨_,Heap.get?_push_size _ rfl,rfl,_,rfl⟩⟩
def rP (h:PA X es t):PE X (.List es pos) (tLst t):=by
 intro pins s σ H Q I hq
 refine wpAny_List_spliced (thn (h pos pins s σ H _ I hq) fun us s1 ⟨xs,H1,I1,r,z,q⟩=>⟨by rw [<- r.length];exact z,?_⟩)
 have hf:H1 s1.heap.objs.size=none:=I1.hok.fresh (nL _)
 refine ⟨.ref s1.heap.objs.size,upd H1 s1.heap.objs.size (.lst xs),I1.laid (t':=s1.toks) (fun b u e=>gP _ e) (nL _) ?_,rfl,q _ hf⟩
 exact ⟨z,us,0,r,Heap.get?_push_size _ rfl⟩
end
abbrev Sp:=List V->Hp->VK->XK->Prop
abbrev CXT:=List Env->Hp->Shared->XK->Value->Shared->Prop
structure Env0 (P:Program) (w:World) (K:PySem.W.Frag) (mg:Str->Option Value) (base:Heap) (A:Around) (outer:List Env) (s:Shared) (H:Hp):Prop where
 frames:A.frames=some outer
 mod:Mod K mg base
 bs:∀ b o,base.get? b=some o->s.heap.get? b=some o/\H b=none
 bsz:base.objs.size<=s.heap.objs.size
 funs:s.heap.FunFrames base outer
 frf:∀ b∈frs outer,H b=none
 hok:HOk P w H s.heap
 bare:AllBare s.gens
def CE (outer:List Env) (P:Program) (w:World) (H:Hp) (s:Shared) (Q:VK) (u:Value) (s':Shared):Prop:=
 ∃ v H',s'.os=s.os/\AllBare s'.gens/\Un (frs outer) [] H H' s.heap s'.heap/\HOk P w H' s'.heap/\RelV v u/\Q v H'
def CR (CX:CXT) (outer:List Env) (P:Program) (w:World) (H:Hp) (s:Shared) (Q:VK) (E:XK) (r:Result) (s':Shared):Prop:=
 match r with
 | .ok (.ret u)=>CE outer P w H s Q u s'
 | .ok _=>False
 | .error e=>CX outer H s E e s'
structure FnOk (P:Program) (w:World) (K:PySem.W.Frag) (mg:Str->Option Value) (base:Heap) (CX:CXT) (k:Nat) (f:Addr) (fd:FuncData) (ps:List Str) (sp:Sp):Prop where
 len:∀ vs H Q E,sp vs H Q E->vs.length=ps.length
 run:∀ (A:Around) (outer:List Env) (s:Shared) (H:Hp) (args:Args) (us:List Value) (vs:List V) (Q:VK) (E:XK),Room k A->Env0 P w K mg base A outer s H->BindsTo s fd args (ps.zip us)->Vals vs us->sp vs H Q E→
  codeAny (model P w) A (.call (.ref f) args) (CR CX outer P w H s Q E) s
def FnOk.imp {P:Program} {w:World} {K:PySem.W.Frag} {mg:Str->Option Value} {base:Heap} {CX:CXT} {k:Nat} {f:Addr} {fd:FuncData} {ps:List Str} {sp sp':Sp} (F:FnOk P w K mg base CX k f fd ps sp)
  (h:∀ vs H Q E,sp' vs H Q E->sp vs H Q E):FnOk P w K mg base CX k f fd ps sp':=
 ⟨fun vs H Q E q=>F.len vs H Q E (h _ _ _ _ q),fun A outer s H args us vs Q E hr he hb hv hs=>F.run A outer s H args us vs Q E hr he hb hv (h _ _ _ _ hs)⟩
def Env0.make {P:Program} {w:World} {K:PySem.W.Frag} {mg:Str->Option Value} {base:Heap} {A:Around} {outer:List Env} {s:Shared} {H:Hp} (e:Env0 P w K mg base A outer s H) (C:Addr) (us:List Value) (kw:List (Str×Value)) :
  Env0 P w K mg base (A.under (.builtin "type.__call__" ⟨.ref C::us,kw⟩)) outer s H:=⟨by first | exact e.frames | (simpa [Around.under,Code.envs,Code.isFrame,pushEnvs] using e.frames),e.mod,e.bs,e.bsz,e.funs,e.frf,e.hok,e.bare⟩
section
variable {X:Cx} {pins:List (Addr×Obj)} {σ:St} {H:Hp} {s s':Shared}
def Inv.env0 (I:Inv X pins σ H s):Env0 X.prog X.w X.K X.mg X.base X.A X.stack s H:=
 ⟨I.ok.frames,I.ok.mod,I.bs,Nat.le_trans I.ok.bsz I.sz,I.stack,I.stkFree,I.hok,I.bare⟩
def Inv.after {Q:VK} {u:Value} (I:Inv X pins σ H s) (h:CE X.stack X.prog X.w H s Q u s'):EP X pins σ Q u s':=by
 obtain ⟨v,H',os,bare,un,hok,r,q⟩:=h
 obtain ⟨hh,g,d,t,os'⟩:=s'
 obtain rfl:os'=s.os:=os
 exact ⟨v,H',I.call (h':=hh) (g':=g) (d':=d) (t':=t) (ch:=[]) un hok bare (fun b z=>absurd z (by simp)),r,q⟩
end
def rQ (sp:Sp) (dvs:List V) (E:XK) (t:TA):TE:=fun σ H Q=>t σ H fun vs H1=>sp (vs++dvs) H1 Q E
def rR (C:Addr) (m:Str) (sp:Sp) (dvs:List V) (E:XK) (ta:TE) (t:TA):TE:=fun σ H Q=>ta σ H fun x H1=>∃ a dx fs,x=.ref a/\H1 a=some (.ins C dx fs)/\fs.lookup m=none∧
 t σ H1 fun vs H2=>sp (x::(vs++dvs)) H2 Q E
noncomputable def wF (C:Addr) (sp:Sp) (dvs:List V) (E:XK) (t:TA):TE:=fun σ H Q=>t σ H fun vs H1=>∀ x dx,H1 x=none->H1 dx=none->dx≠x→
 sp (.ref x::(vs++dvs)) (upd (upd H1 dx (.own x)) x (.ins C dx [])) (fun v H2=>v=.non/\Q (.ref x) H2) E
def Binds (K:PySem.W.Frag) (fd:FuncData) (ps:List Str) (ds:List Value):Prop:=
 ∀ (s:Shared) (us:List Value),K.In s.heap->(us++ds).length=ps.length->BindsTo s fd ⟨us,[]⟩ (ps.zip (us++ds))
def Binds.all {K:PySem.W.Frag} {fd:FuncData} {ps:List Str} (h:∀ us:List Value,us.length=ps.length->bindArgs fd ⟨us,[]⟩=pure (ps.zip us)):Binds K fd ps []:=fun s us _ hl=>by
 rw [List.append_nil] at hl ⊢
 exact .of_eq (h us hl)
def gI (CX:CXT) (X:Cx) (E:XK):Prop:=∀ (pins:List (Addr×Obj)) (σ:St) (H:Hp) (s:Shared) (e:Value) (s':Shared),Inv X pins σ H s->CX X.stack H s E e s'->X.xe e s'
section
variable {X:Cx} {CX:CXT} {k:Nat} {f C:Addr} {fd:FuncData} {ps:List Str} {sp:Sp} {dvs:List V} {ds:List Value} {E:XK} {x m:Str} {p pos apos:Pos} {e o:Expr} {es:List Expr} {ta:TE} {t:TA}
def nW {pins:List (Addr×Obj)} {σ:St} {H:Hp} {s:Shared} {Q:VK} {us:List Value} {vs:List V} (F:FnOk X.prog X.w X.K X.mg X.base CX k f fd ps sp) (hr:Room k X.A) (hb:Binds X.K fd ps ds) (hd:Vals dvs ds) (hx:gI CX X E)
  (I:Inv X pins σ H s) (r:Vals vs us) (h:sp (vs++dvs) H Q E):wpAny (model X.prog X.w) X.A (call (.ref f) us) (EP X pins σ Q) X.xe s:=by
 have r2:Vals (vs++dvs) (us++ds):=r.append hd
 have hl:(us++ds).length=ps.length:=by rw [<- r2.length];exact F.len _ _ _ _ h
 refine wpAny_call (codeAny_mono (F.run X.A X.stack s H ⟨us,[]⟩ (us++ds) (vs++dvs) Q E hr I.env0 (hb s us I.kIn hl) r2 h) fun r s' hq=>?_)
 cases r with
 | error e=>exact hx pins σ H s e s' I hq
 | ok fl =>
  cases fl with
  | ret u=>exact I.after hq
  | next=>exact False.elim hq
  | brk=>exact False.elim hq
  | cont=>exact False.elim hq
def uL (F:FnOk X.prog X.w X.K X.mg X.base CX k f fd ps sp) (hr:Room k X.A) (hg:Gl X x) (hm:X.mg x=some (.ref f)) (hk:PySem.W.keepIn X.K (.ref f)=true) (hb:Binds X.K fd ps ds) (hd:Vals dvs ds) (hx:gI CX X E)
  (ha:PA X (e::es) t) (hdb:(x==("__debug__":Str))=false:=by decide) (he:starEach (e::es) X.env=(false,eval e X.env)::starEach es X.env:=by rfl) (hpl:(backTo pos (starEach es X.env)).any (·.1)=false:=by rfl) :
  PE X (.Call (.Name x p) (e::es) [] pos) (rQ sp dvs E t):=by
 intro pins s σ H Q I h
 refine wpAny_Call_Name_kw (oU I hg hm ?_ hdb)
 refine PySem.W.callWith_K (h₀:=X.base) I.ok.mod.kin hk (thn (ha pos pins s σ H _ I h) fun us s1 ⟨vs,H1,I1,r,q⟩=>⟨I1.kIn,?_⟩) he hpl
 exact nW F hr hb hd hx I1 r q
def uM {pl:Sem Bool} (he:PE X o ta) (c:Cls X.K C) (hm:Meth X.K C m f) (F:FnOk X.prog X.w X.K X.mg X.base CX k f fd ps sp) (hr:Room k X.A) (hb:Binds X.K fd ps ds) (hd:Vals dvs ds) (hx:gI CX X E) (ha:PA X (e::es) t)
  (hst:starEach (e::es) X.env=(false,eval e X.env)::starEach es X.env:=by rfl) (hpl:(backTo pos (starEach es X.env)).any (·.1)=false:=by rfl)
  (ht:eval (.Call (.Attribute o m apos) (e::es) [] pos) X.env=(do
   let ov <- eval o X.env
   standAt apos.atName
   let (f,first) <- holding [ov] (getMethod ov m pl)
   callWith pos f first (backTo pos (starEach (e::es) X.env)) (backToKw pos (keywordEach [] X.env))):=by rfl) :
  PE X (.Call (.Attribute o m apos) (e::es) [] pos) (rR C m sp dvs E ta t):=by
 intro pins s σ H Q I h
 refine PySem.W.methodCall_KW (pl:=pl) (thn (he pins s σ H _ I h) fun u s1 ⟨x,H1,I1,rx,a,dx,fs,ex,ea,l,q⟩=>?_) ht
 subst ex
 obtain rfl:u=Value.ref a:=rx
 refine gH I1 ea c hm l ?_
 refine PySem.W.callWith_K (first:=[.ref a]) (h₀:=X.base) I.ok.mod.kin hm.kp (thn (ha pos pins s1 σ H1 _ I1 q) fun us s2 ⟨vs,H2,I2,r,q2⟩=>⟨I2.kIn,?_⟩) hst hpl
 exact nW (us:=.ref a::us) (vs:=.ref a::vs) F hr hb hd hx I2 (.cons rfl r) q2
def rS {pl:Sem Bool} (he:PE X o ta) (c:Cls X.K C) (hm:Meth X.K C m f) (F:FnOk X.prog X.w X.K X.mg X.base CX k f fd ps sp) (hr:Room k X.A) (hb:Binds X.K fd ps ds) (hd:Vals dvs ds) (hx:gI CX X E)
  (ht:eval (.Call (.Attribute o m apos) [] [] pos) X.env=(do
   let ov <- eval o X.env
   standAt apos.atName
   let (f,first) <- holding [ov] (getMethod ov m pl)
   callWith pos f first (backTo pos (starEach [] X.env)) (backToKw pos (keywordEach [] X.env))):=by rfl) :
  PE X (.Call (.Attribute o m apos) [] [] pos) (rR C m sp dvs E ta tNil):=by
 intro pins s σ H Q I h
 refine PySem.W.methodCall_KW (pl:=pl) (thn (he pins s σ H _ I h) fun u s1 ⟨x,H1,I1,rx,a,dx,fs,ex,ea,l,q⟩=>?_) ht
 subst ex
 obtain rfl:u=Value.ref a:=rx
 refine gH I1 ea c hm l ?_
 exact PySem.W.callWith_K0 (first:=[.ref a]) I1.kIn hm.kp (nW (us:=[.ref a]) (vs:=[.ref a]) F hr hb hd hx I1 (.cons rfl .nil) q)
structure Mk (K:PySem.W.Frag) (C f:Addr):Prop where
 makes:PySem.W.makesIn K C=true
 init:PySem.W.findIn K (.ref C) "__init__"=some (some (.ref f))
 fn:PySem.W.isFn K (.ref f)=true
 kp:PySem.W.keepIn K (.ref C)=true
def rT {pins:List (Addr×Obj)} {σ:St} {H:Hp} {s:Shared} {Q:VK} {us:List Value} {vs:List V} (M:Mk X.K C f) (F:FnOk X.prog X.w X.K X.mg X.base CX k f fd ps sp) (hr:Room (k+1) X.A) (hb:Binds X.K fd ps ds) (hd:Vals dvs ds)
  (hx:gI CX X E) (I:Inv X pins σ H s) (r:Vals vs us)
  (h:∀ x dx,H x=none->H dx=none->dx≠x->sp (.ref x::(vs++dvs)) (upd (upd H dx (.own x)) x (.ins C dx [])) (fun v H2=>v=.non/\Q (.ref x) H2) E) :
  wpAny (model X.prog X.w) X.A (call (.ref C) us) (EP X pins σ Q) X.xe s:=by
 have hq:=h (s.heap.objs.size+1) s.heap.objs.size (I.hok.fresh (Nat.le_succ _)) (I.hok.fresh (nL _)) (Nat.ne_of_lt (Nat.lt_succ_self _))
 have I2:=Inv.made (C:=C) I
 have r2:Vals (V.ref (s.heap.objs.size+1)::(vs++dvs)) (Value.ref (s.heap.objs.size+1)::(us++ds)):=.cons rfl (r.append hd)
 have hl:(Value.ref (s.heap.objs.size+1)::us++ds).length=ps.length:=by
  have e:=r2.length
  rw [F.len _ _ _ _ hq] at e
  exact e.symm
 refine wpAny_call (rO (f:=f) I.kIn M.makes M.init (beq_iff_eq.mp M.fn) (codeAny_mono (F.run _ X.stack _ _ ⟨Value.ref (s.heap.objs.size+1)::us,[]⟩ (Value.ref (s.heap.objs.size+1)::(us++ds)) _ _ E (hr.make C us [])
  (I2.env0.make C us []) (hb _ (Value.ref (s.heap.objs.size+1)::us) I2.kIn hl) r2 hq) fun r s' hq'=>?_))
 cases r with
 | error e=>exact hx pins σ _ _ e s' I2 hq'
 | ok fl =>
  cases fl with
  | ret u =>
   obtain ⟨v,H',I3,rv,ev,q3⟩:=I2.after hq'
   subst ev
   exact ⟨rv,⟨V.ref (s.heap.objs.size+1),H',I3,rfl,q3⟩⟩
  | next=>exact False.elim hq'
  | brk=>exact False.elim hq'
  | cont=>exact False.elim hq'
def uN (M:Mk X.K C f) (F:FnOk X.prog X.w X.K X.mg X.base CX k f fd ps sp) (hr:Room (k+1) X.A) (hg:Gl X x) (hm:X.mg x=some (.ref C)) (hb:Binds X.K fd ps ds) (hd:Vals dvs ds) (hx:gI CX X E)
  (ha:PA X (e::es) t) (hdb:(x==("__debug__":Str))=false:=by decide) (he:starEach (e::es) X.env=(false,eval e X.env)::starEach es X.env:=by rfl) (hpl:(backTo pos (starEach es X.env)).any (·.1)=false:=by rfl) :
  PE X (.Call (.Name x p) (e::es) [] pos) (wF C sp dvs E t):=by
 intro pins s σ H Q I h
 refine wpAny_Call_Name_kw (oU I hg hm ?_ hdb)
 refine PySem.W.callWith_K (h₀:=X.base) I.ok.mod.kin M.kp (thn (ha pos pins s σ H _ I h) fun us s1 ⟨vs,H1,I1,r,q⟩=>⟨I1.kIn,?_⟩) he hpl
 exact rT M F hr hb hd hx I1 r q
end
section
variable {X:Cx} {CX:CXT} {k:Nat} {f C:Addr} {fd:FuncData} {ps ks:List Str} {sp:Sp} {E:XK} {x m:Str} {p pos apos kpos:Pos} {e o:Expr} {es:List Expr} {kws:List Keyword} {te ta:TE} {t tk:TA} {nm:Option Str}
variable {g:List Value->List Value->List Value} {gV:List V->List V->List V}
end
structure FnScope (N P:List Str) (sc:Scope):Prop where
 kind:sc.kind=.function
 co:sc.isCoroutine=false
 gen:sc.isGenerator=false
 nd:N.Nodup
 pre:N.take P.length=P
 par:∀ x∈P,sc.names.lookup x=some .local∨sc.names.lookup x=some .cell
 nofree:∀ y∈sc.names,y.2≠.free
def kt {kindOf:Str->Option NameKind} {x:Str}:∀ {binds:List (Str×Value)} {m:Str->Option Value},(∀ v,(x,v)∉binds)->bindL kindOf binds m x=m x
 | [],_,_=>rfl
 | (n,v)::r,m,h=>by
  unfold bindL
  rw [kt fun w hw=>h w (List.mem_cons_of_mem _ hw)]
  split
  · have:x≠n:=by rintro rfl;exact h v List.mem_cons_self
    simp [this]
  · rfl
def ku {kindOf:Str->Option NameKind} {x:Str}:∀ {binds:List (Str×Value)} {m:Str->Option Value},(∀ v,(x,v)∉binds)->bindC kindOf binds m x=m x
 | [],_,_=>rfl
 | (n,v)::r,m,h=>by
  unfold bindC
  rw [ku fun w hw=>h w (List.mem_cons_of_mem _ hw)]
  split
  · rfl
  · have:x≠n:=by rintro rfl;exact h v List.mem_cons_self
    simp [this]
def kx {kindOf:Str->Option NameKind} {x:Str} {v:Value}:∀ {P:List Str} {vs:List Value} {i:Nat} {m:Str->Option Value},P.Nodup->P[i]?=some x->vs[i]?=some v->kindOf x=some .local→
  bindL kindOf (P.zip vs) m x=some v
 | [],_,_,_,_,h,_,_=>by simp at h
 | _::_,[],_,_,_,_,h,_=>by simp at h
 | p::P,w::vs,0,m,nd,h1,h2,hk=>by
  simp at h1 h2;subst h1;subst h2
  show bindL kindOf ((p,w)::P.zip vs) m p=_
  unfold bindL
  rw [kt fun v hv=>(List.nodup_cons.mp nd).1 (List.of_mem_zip hv).1,if_pos hk]
  simp
 | p::P,w::vs,i+1,m,nd,h1,h2,hk=>by
  show bindL kindOf ((p,w)::P.zip vs) m x=_
  unfold bindL
  exact kx (i:=i) (List.nodup_cons.mp nd).2 (by simpa using h1) (by simpa using h2) hk
def ky {kindOf:Str->Option NameKind} {x:Str} {v:Value}:∀ {P:List Str} {vs:List Value} {i:Nat} {m:Str->Option Value},P.Nodup->P[i]?=some x->vs[i]?=some v->kindOf x≠some .local→
  bindC kindOf (P.zip vs) m x=some v
 | [],_,_,_,_,h,_,_=>by simp at h
 | _::_,[],_,_,_,_,h,_=>by simp at h
 | p::P,w::vs,0,m,nd,h1,h2,hk=>by
  simp at h1 h2;subst h1;subst h2
  show bindC kindOf ((p,w)::P.zip vs) m p=_
  unfold bindC
  rw [ku fun v hv=>(List.nodup_cons.mp nd).1 (List.of_mem_zip hv).1,if_neg hk]
  simp
 | p::P,w::vs,i+1,m,nd,h1,h2,hk=>by
  show bindC kindOf ((p,w)::P.zip vs) m x=_
  unfold bindC
  exact ky (i:=i) (List.nodup_cons.mp nd).2 (by simpa using h1) (by simpa using h2) hk
def dB (N:List Str) (vs:List V):St:=vs.map some++List.replicate (N.length-vs.length) none
noncomputable def jk (CX:CXT) (P:Program) (w:World) (K:PySem.W.Frag) (mg:Str->Option Value) (base:Heap) (N:List Str) (qual:Str) (scope:Scope) (f:Addr) (cd:Value) (A:Around) (outer:List Env) (s:Shared) (H:Hp) (E:XK):Cx where
 prog:=P
 w:=w
 K:=K
 mg:=mg
 base:=base
 A:=A.deeper (envOfC qual scope s.heap.objs.size f cd)
 N:=N
 s₀:=s
 H₀:=H
 env:=envOfC qual scope s.heap.objs.size f cd
 outer:=outer
 stack:=envOfC qual scope s.heap.objs.size f cd::outer
 ex:=[]
 calm:=true
 fn:=fun _=>true
 pn:=[]
 xe:=fun e s'=>wpAny (model P w) (A.deeper (envOfC qual scope s.heap.objs.size f cd)) (leaving (envOfC qual scope s.heap.objs.size f cd) e) (fun _ s''=>CX outer H s E e s'') (fun e' s''=>CX outer H s E e' s'') s'
def mF {sc:Scope} {n:Nat} {x:Str} (h:sc.names.lookup x=some .cell):∃ c,(cellsFrom n sc.names []).lookup x=some c:=by
 have q:=PySem.W.cellsFrom_some sc.names n [] (.inl h)
 exact Option.isSome_iff_exists.mp q
def qC {CX:CXT} {P:Program} {w:World} {K:PySem.W.Frag} {mg:Str->Option Value} {base:Heap} {N ps:List Str} {qual:Str} {scope:Scope} {f:Addr} {cd:Value} {A:Around} {outer:List Env} {s s1:Shared} {H:Hp} {E:XK} {us:List Value} {vs:List V}
  (S:FnScope N ps scope) (hd:A.handled=none) (e0:Env0 P w K mg base A outer s H) (hl:vs.length=ps.length) (r:Vals vs us)
  (x:InCallC s s.heap.objs.size (bindL (envOfC qual scope s.heap.objs.size f cd).kindOf (ps.zip us) fun _=>none) (cellsFrom (s.heap.objs.size+1) scope.names []) (bindC (envOfC qual scope s.heap.objs.size f cd).kindOf (ps.zip us) fun _=>none) s1) :
  Inv (jk CX P w K mg base N qual scope f cd A outer s H E) [] (dB N vs) H s1:=by
 have hpl:ps.length<=N.length:=by have:=congrArg List.length S.pre;rw [List.length_take] at this;omega
 obtain ⟨h1,tk,rfl,hk⟩:=x.done
 have noA:∀ b:Addr,b∉(jk CX P w K mg base N qual scope f cd A outer s H E).ex:=fun b z=>absurd (show b∈([]:List Addr) from z) (by simp)
 refine ⟨⟨e0.mod,S.kind,rfl,rfl,nL _,fun y z c h1 h2=>?_,fun y hy=>?_,fun y c _ h=>?_,fun _=>hd,Around.frames_deeper e0.frames,.inr ⟨rfl,rfl⟩,fun b z=>absurd z (noA b),e0.bs,e0.bsz,fun b _ _=>noA b,fun b z=>absurd z (noA b),e0.funs,e0.frf⟩,
  rfl,e0.bare,Un.kept hk,⟨_,x.toInCall.ns,fun i y v h1 h2 h3=>?_⟩,fun y c h=>⟨_,x.cell y c h⟩,e0.hok.fresh (Nat.le_refl _),fun y c h=>?_,fun p hp=>absurd (show p∈([]:List (Addr×Obj)) from hp) (by simp),e0.hok.kept hk,?_⟩
 · exact name_of_addr x.apart (PySem.mem_of_lookup h1) (PySem.mem_of_lookup h2)
 · have hy:scope.names.lookup y=some .cell∨scope.names.lookup y=some .free:=hy
   rcases hy with hy | hy
   · exact mF hy
   · exact absurd rfl (S.nofree _ (PySem.mem_of_lookup hy))
 · exact Nat.le_of_lt (x.above y c (PySem.mem_of_lookup h))
 · have hi:i<vs.length:=by
    unfold dB at h2
    by_cases hi:i<vs.length
    · exact hi
    · rw [List.getElem?_append_right (by simpa using hi)] at h2
      rw [List.getElem?_replicate] at h2
      split at h2<;>cases h2
   have ha:vs[i]?=some v:=by
    unfold dB at h2
    rw [List.getElem?_append_left (by simpa using hi),List.getElem?_map] at h2
    cases e:vs[i]? with
    | none=>rw [e] at h2;cases h2
    | some a=>rw [e] at h2;cases h2;rfl
   obtain ⟨u,hu,rv⟩:=r.get ha
   have hp:ps[i]?=some y:=by
    rw [<- S.pre,List.getElem?_take_of_lt (by omega)];exact h1
   have ndP:ps.Nodup:=by rw [<- S.pre];exact S.nd.sublist (List.take_sublist _ _)
   refine ⟨u,rv,?_⟩
   rcases S.par y (List.mem_of_getElem? hp) with k | k
   · exact .inl ⟨k,kx ndP hp hu k⟩
   · obtain ⟨c,e⟩:=mF (n:=s.heap.objs.size+1) k
     refine .inr ⟨.inl k,c,e,?_⟩
     have q:=x.cell y c e
     rw [ky ndP hp hu (by show scope.names.lookup y≠_;rw [k];decide)] at q
     exact q
 · exact e0.hok.fresh (Nat.le_of_lt (x.above y c (PySem.mem_of_lookup h)))
 · unfold dB
   show _=N.length
   rw [List.length_append,List.length_map,List.length_replicate]
   omega
def za {CX:CXT} {P:Program} {w:World} {K:PySem.W.Frag} {mg:Str->Option Value} {base:Heap} {k:Nat} {f:Addr} {name qual:Str} {params:Arguments} {body:List Stmt} {scope:Scope} {dV kV doc pm cdv ct oc:Value} {an od:Option Addr}
  {osl:Array (Option Value)} {N ps:List Str} {sp:Sp} (lk:K.lookup f=some ⟨oc,od,.func (PySem.W.fnOf name qual params body scope dV kV doc pm an cdv ct),osl⟩) (hcd:PySem.W.codeIn K cdv qual=true) (S:FnScope N ps scope)
  (len:∀ vs H Q E,sp vs H Q E->vs.length=ps.length)
  (hbody:∀ (A:Around) (outer:List Env) (s:Shared) (H:Hp) (vs:List V) (Q:VK) (E:XK),Room k (A.deeper (envOfC qual scope s.heap.objs.size f cdv))->sp vs H Q E→
   ∃ t,PSs (jk CX P w K mg base N qual scope f cdv A outer s H E) body t/\t {nx:=fun _ H'=>Q .non H',rt:=Q} (dB N vs) H) :
  FnOk P w K mg base CX (k+1) f (PySem.W.fnOf name qual params body scope dV kV doc pm an cdv ct) ps sp:=by
 refine ⟨len,fun A outer s H args us vs Q E hr e0 hb r hsp=>?_⟩
 have hl:=len _ _ _ _ hsp
 have KX:K.In s.heap:=e0.mod.kin.keeps fun b o e=>(e0.bs b o e).1
 have lim:s.heap.NoLimit:=e0.mod.nolimit.keeps fun b o e=>(e0.bs b o e).1
 have hkind:∀ y∈ps.zip us,scope.names.lookup y.1=some .local∨(scope.names.lookup y.1=some .cell/\((cellsFrom (s.heap.objs.size+1) scope.names []).lookup y.1).isSome=true):=fun ⟨n,v⟩ hy=>by
  rcases S.par n (List.of_mem_zip hy).1 with q | q
  · exact .inl q
  · exact .inr ⟨q,PySem.W.cellsFrom_some _ _ _ (.inl q)⟩
 refine codeAny_call_function hr.depth (KX _ _ lk) rfl S.co S.gen rfl (PySem.W.codeRec_of KX hcd) (hb _ _ _ _ ?_)
 refine wpAny_newFunctionEnv_cells S.kind hkind fun env he s1 x=>?_
 subst he
 refine ⟨lim.keeps x.toInCall.keep,codeAny_func ?_⟩
 obtain ⟨t,ht,hq⟩:=hbody A outer s H vs Q E (hr.deeper _) hsp
 have I:Inv (jk CX P w K mg base N qual scope f cdv A outer s H E) [] (dB N vs) H s1:=qC S hr.hd e0 hl r x
 refine wpAny_mono (ht [] s1 (dB N vs) H _ I hq) (fun fl s' hs=>?_) fun e s' hs=>hs
 have fin:∀ {σ':St} {H':Hp} {v:V} {u:Value},Inv (jk CX P w K mg base N qual scope f cdv A outer s H E) [] σ' H' s'->RelV v u->Q v H'->CE outer P w H s Q u s':=
  fun {σ' H' v u} J rv q=>⟨v,H',J.os,J.bare,J.base,J.hok,rv,q⟩
 cases fl with
 | ret u =>
  obtain ⟨v,σ',H',J,rv,q⟩:=hs
  exact fin J rv q
 | next =>
  obtain ⟨σ',H',J,q⟩:=hs
  exact fin (v:=V.non) (u:=Value.none) J rfl q
 | brk =>
  obtain ⟨_,_,_,q⟩:=hs
  exact False.elim q
 | cont =>
  obtain ⟨_,_,_,q⟩:=hs
  exact False.elim q
section
variable {X:Cx} {x:Str} {p pos:Pos} {e:Expr} {es:List Expr} {t:TA} {id T:String} {r:List V->Hp->VK->Prop}
def tCB (r:List V->Hp->VK->Prop) (t:TA):TE:=fun σ H Q=>t σ H fun vs H1=>r vs H1 Q
def rU (hc:CallR X (.builtin id) r) (hg:Gl X x) (hm:X.mg x=none) (hv:bootBuiltins x=some (.builtin id)) (ha:PA X (e::es) t) (hn:x≠"__name__":=by decide) (hdb:(x==("__debug__":Str))=false:=by decide)
  (he:starEach (e::es) X.env=(false,eval e X.env)::starEach es X.env:=by rfl) (hpl:(backTo pos (starEach es X.env)).any (·.1)=false:=by rfl):PE X (.Call (.Name x p) (e::es) [] pos) (tCB r t):=by
 intro pins s σ H Q I h
 refine wpAny_Call_Name_kw (jD I hg hm hv ?_ hn hdb)
 exact PyProof.Rows.callWith_builtin1 (thn (ha pos pins s σ H _ I h) fun us s1 ⟨vs,H1,I1,r1,q1⟩=>hc pins s1 σ H1 vs us Q I1 r1 q1) he hpl
def qD (hc:CallR X (.type T) r) (hg:Gl X x) (hm:X.mg x=none) (hv:bootBuiltins x=some (.type T)) (ha:PA X (e::es) t) (hn:x≠"__name__":=by decide) (hdb:(x==("__debug__":Str))=false:=by decide)
  (he:starEach (e::es) X.env=(false,eval e X.env)::starEach es X.env:=by rfl) (hpl:(backTo pos (starEach es X.env)).any (·.1)=false:=by rfl):PE X (.Call (.Name x p) (e::es) [] pos) (tCB r t):=by
 intro pins s σ H Q I h
 refine wpAny_Call_Name_kw (jD I hg hm hv ?_ hn hdb)
 exact PyProof.Rows.callWith_type1 (thn (ha pos pins s σ H _ I h) fun us s1 ⟨vs,H1,I1,r1,q1⟩=>hc pins s1 σ H1 vs us Q I1 r1 q1) he hpl
end
end L2
namespace HT
open PySem PyProof.Rows
section
open PySem.SeqAt
open PySem.AutoSeq1 (wpAny_loadPart')
open PySem.MeetsSeq PySem.MeetsSeq2 PySem.MeetsSeq3
end
section
variable {prog:Program} {w:World} {A:Around} {E:Value->Shared->Prop} {s:Shared}
def zB {t b:Addr} {vs ws:List Value} {Q:Value->Shared->Prop} (ht:IsTup s.heap t vs.toArray) (hb:IsTup s.heap b ws.toArray) (hv:vs≠[])
  (h1:ws=[]->Q (.ref t) s) (h2:ws≠[]->Q (.ref s.heap.objs.size) {s with heap:=s.heap.push {cls:=.type "tuple",data:=.seq (vs++ws).toArray}})
  (hsz:vs.length+ws.length<=sizeLine):wpAny (model prog w) A (binaryOp .Add (.ref t) (.ref b)) Q E s:=by
 obtain ⟨⟨cls,dd,data,sl⟩,ho,hc,n,hd⟩:=id ht
 obtain ⟨⟨cls2,dd2,data2,sl2⟩,ho2,hc2,n2,hd2⟩:=id hb
 simp only at hc hd hc2 hd2
 subst hc hd hc2 hd2
 have e:vs.toArray++ws.toArray=(vs++ws).toArray:=by simp
 by_cases hw:ws=[]
 · exact concat_meets ⟨_,ho,rfl⟩ ⟨_,ho2,rfl⟩ noFill_tuple_add seq_tuple_add PySem.F.slot_tuple_add PySem.F.entry_tuple_add (PySem.F.args_tuple_add_2 _ _)
    (tuple_addW1 t b vs.toArray ws.toArray n n2 dd dd2 sl sl2 (by simpa using hv) (by simp [hw])) ⟨ho,ho2,h1 hw⟩
 · refine concat_meets ⟨_,ho,rfl⟩ ⟨_,ho2,rfl⟩ noFill_tuple_add seq_tuple_add PySem.F.slot_tuple_add PySem.F.entry_tuple_add (PySem.F.args_tuple_add_2 _ _)
    (tuple_addW2 t b vs.toArray ws.toArray n n2 dd dd2 sl sl2 (by simpa using hv) (by simpa using hw) (by rw [List.size_toArray,List.size_toArray];exact hsz)) ⟨ho,ho2,?_⟩
   rw [e]
   exact h2 hw
def sIx (n d:Nat):Option Int->Nat
 | none=>d
 | some v=>if v<0 then (v+(n:Int)).toNat else min v.toNat n
def zb (n d:Nat):sIx n d none=d:=rfl
def zC (n d k:Nat):sIx n d (some (k:Int))=min k n:=by
 show (if (k:Int)<0 then ((k:Int)+(n:Int)).toNat else min (k:Int).toNat n)=min k n
 rw [if_neg (by omega),Int.toNat_natCast]
def xK (n d:Nat) (hd:d<=n) (o:Option Int):sIx n d o<=n:=by
 cases o with
 | none=>exact hd
 | some v =>
  show (if v<0 then (v+(n:Int)).toNat else min v.toNat n)<=n
  by_cases hv:v<0
  · rw [if_pos hv];omega
  · rw [if_neg hv];exact Nat.min_le_right _ _
def o7 (v:Int) (n d:Nat):(if v<0 then max (v+(n:Int)) 0 else min v (n:Int))=((sIx n d (some v):Nat):Int):=by
 show (if v<0 then max (v+(n:Int)) 0 else min v (n:Int))=(((if v<0 then (v+(n:Int)).toNat else min v.toNat n):Nat):Int)
 by_cases hv:v<0
 · simp only [if_pos hv];omega
 · simp only [if_neg hv];omega
def nX (lo hi:Option Int) (n:Nat):Builtin.Slice.sliceAdjust lo hi 1 (n:Int)=(((sIx n 0 lo:Nat):Int),((sIx n n hi:Nat):Int)):=by
 have h1:¬ ((1:Int)<0):=by omega
 unfold Builtin.Slice.sliceAdjust
 simp only [h1,if_false]
 refine Prod.ext ?_ ?_
 · cases lo with
   | none=>rfl
   | some v=>exact o7 v n 0
 · cases hi with
   | none=>rfl
   | some v=>exact o7 v n n
def nY (i j:Nat):Builtin.Slice.slicePlaces (i:Int) (j:Int) 1=j-i:=by
 unfold Builtin.Slice.slicePlaces
 have h1:(1:Int) > 0:=by omega
 simp only [h1,if_true,Int.ediv_one]
 split<;>omega
def jI {v:Value} {o:Option Int} {Q:Option Int->Shared->Prop} (p:IsPart v o) (h:Q o s):wpAny (model prog w) A (Builtin.Slice.slicePartIndex v) Q E s:=by
 cases p with
 | none=>exact slicePart_none h
 | int i t=>exact slicePart_int h
def iK {sl:Addr} {vl vu:Value} {lo hi:Option Int} {n:Nat} {Q:Int×Int×Nat->Shared->Prop} (hs:s.heap.IsSliceOf sl vl vu .none) (pl:IsPart vl lo) (pu:IsPart vu hi)
  (h:Q (((sIx n 0 lo:Nat):Int),1,sIx n n hi-sIx n 0 lo) s):wpAny (model prog w) A (Builtin.Slice.sliceApplied (.ref sl) (pure (n:Int))) Q E s:=by
 obtain ⟨os,hos,hcs,hds⟩:=id hs
 unfold Builtin.Slice.sliceApplied Builtin.Slice.sliceFields
 refine wB (wB (wpAny_field hos hds (x:=vl) rfl (wB (wpAny_field hos hds (x:=vu) rfl (wB (wpAny_field hos hds (x:=.none) rfl (wpAny_pure ?_)))))))
 refine wB (slicePart_none ?_)
 show wpAny _ _ (if ((1:Int)==0)=true then _ else _) _ _ s
 rw [if_neg (by decide)]
 refine wB (jI pl (wB (jI pu (wB (wpAny_pure ?_)))))
 show wpAny _ _ (match Builtin.Slice.sliceAdjust lo hi 1 (n:Int) with | (lo,hi)=>pure (lo,(1:Int),Builtin.Slice.slicePlaces lo hi 1)) _ _ s
 rw [nX lo hi n]
 show wpAny _ _ (pure (((sIx n 0 lo:Nat):Int),(1:Int),Builtin.Slice.slicePlaces ((sIx n 0 lo:Nat):Int) ((sIx n n hi:Nat):Int) 1)) _ _ s
 rw [nY]
 exact wpAny_pure h
def rV (xs:Array Value) (i k:Nat):((List.range k).filterMap fun (m:Nat)=>xs[((i:Int)+(m:Int)*1).toNat]?).toArray=((xs.toList.drop i).take k).toArray:=by
 have e:(fun (m:Nat)=>xs[((i:Int)+(m:Int)*1).toNat]?)=fun m=>xs[i+m]?:=by
  funext m
  have:((i:Int)+(m:Int)*1).toNat=i+m:=by omega
  rw [this]
 rw [e]
 have:=pick_run xs i k
 rw [List.filterMap_map] at this
 have e2:((fun x=>xs[x]?) ∘ fun x=>i+x)=fun m=>xs[i+m]?:=rfl
 rw [e2] at this
 rw [this]
def o8 {t sl:Addr} {items:Array Value} {vl vu:Value} {lo hi:Option Int} {Q:Value->Shared->Prop} (ht:IsTup s.heap t items) (hs:s.heap.IsSliceOf sl vl vu .none) (pl:IsPart vl lo) (pu:IsPart vu hi)
  (hw:¬ (sIx items.size 0 lo=0/\sIx items.size items.size hi=items.size))
  (h:Q (.ref s.heap.objs.size) {s with heap:=s.heap.push {cls:=.type "tuple",data:=.seq ((items.toList.drop (sIx items.size 0 lo)).take (sIx items.size items.size hi-sIx items.size 0 lo)).toArray}})
  (hsz:items.size<=sizeLine):wpAny (model prog w) A (getItem (.ref t) (.ref sl)) Q E s:=by
 have htake:sizeOk (.seq ((items.toList.drop (sIx items.size 0 lo)).take (sIx items.size items.size hi-sIx items.size 0 lo)).toArray):=by
  show ((items.toList.drop (sIx items.size 0 lo)).take (sIx items.size items.size hi-sIx items.size 0 lo)).toArray.size<=sizeLine
  rw [List.size_toArray,List.length_take,List.length_drop,Array.length_toList]
  omega
 have hj:sIx items.size items.size hi<=items.size:=xK _ _ (nL _) hi
 obtain ⟨os,hos,hcs,hds⟩:=id hs
 have hTs:s.TypeIs (.ref sl) "slice":=⟨os,hos,hcs⟩
 unfold getItem
 try with_reducible refine wpAny_holding ?_
 first | refine wB (wpAny_pure ?_) | skip
 refine wB (wpAny_sequenceKey ht.typeIs (by decide) ?_)
 refine wB (wpAny_callSpecial?_slot (name:=Str.ofString "__getitem__") ht.typeIs PyProof.Rows.slot_tuple_getitem
  (wpAny_call_entry PyProof.Rows.slot_tuple_getitem ht.typeIs entry_tuple_getitem ?_ (args_tuple_getitem _ _)))
 show wpAny _ _ (Builtin.Tuple.tupleItemsOf (.ref t) >>= _) _ _ s
 refine wB (tupleItemsOf_ ht ?_)
 refine wB (wpAny_typeOf hTs ?_)
 rw [if_pos (by decide)]
 refine wB (iK hs pl pu ?_)
 have hno:¬ ((((sIx items.size 0 lo:Nat):Int)==0&&(1:Int)==1&&(sIx items.size items.size hi-sIx items.size 0 lo)==items.size)=true):=by
  intro q
  rw [Bool.and_eq_true,Bool.and_eq_true] at q
  have q1:((sIx items.size 0 lo:Nat):Int)=0:=eq_of_beq q.1.1
  have q2:sIx items.size items.size hi-sIx items.size 0 lo=items.size:=eq_of_beq q.2
  exact hw ⟨by omega,by omega⟩
 show wpAny _ _ (if (((sIx items.size 0 lo:Nat):Int)==0&&(1:Int)==1&&(sIx items.size items.size hi-sIx items.size 0 lo)==items.size)=true then _ else _) _ _ s
 rw [if_neg hno,rV]
 first
  | exact wB (m:=Builtin.Tuple.tupleExact _) (wpAny_newObj_type (wpAny_pure ⟨_,rfl,wpAny_pure h⟩) htake)
  | exact wB (m:=Builtin.Tuple.tupleExact _) (wpAny_newObj_type (wB (wpAny_pure (wpAny_pure ⟨_,rfl,wpAny_pure h⟩))) htake)
  | exact wB (wB (m:=Builtin.Tuple.tupleExact _) (wpAny_newObj_type (wpAny_pure (wpAny_pure ⟨_,rfl,wpAny_pure h⟩)) htake))
  | exact wB (wB (m:=Builtin.Tuple.tupleExact _) (wpAny_newObj_type (wpAny_pure ⟨_,rfl,wpAny_pure h⟩) htake))
end
end HT
namespace L2
open PySem PySem.Spec PyProof.Rows
abbrev TO:=St->Hp->(Option Int->Hp->Prop)->Prop
noncomputable def PO (X:Cx) (e:Option Expr) (t:TO):Prop:=
 ∀ (pins:List (Addr×Obj)) (s:Shared) (σ:St) (H:Hp) (Q:Option Int->Hp->Prop),Inv X pins σ H s->t σ H Q→
  wpAny (model X.prog X.w) X.A (evalPart e X.env) (fun u s'=>∃ o H',Inv X pins σ H' s'/\IsPart u o/\Q o H') X.xe s
def uO:TO:=fun _ H Q=>Q none H
def zc (t:TE):TO:=fun σ H Q=>t σ H fun x H1=>∃ i,x=.int i/\Q (some i) H1
section
variable {X:Cx} {e:Expr} {te:TE} {lo hi:Option Expr} {tl th:TO} {pos p2:Pos}
def uP:PO X none uO:=by
 intro pins s σ H Q I h
 rw [evalPart_none]
 exact wpAny_pure ⟨none,H,I,.none,h⟩
def uQ (h:PE X e te):PO X (some e) (zc te):=by
 intro pins s σ H Q I hw
 rw [evalPart_some]
 refine thn (h pins s σ H _ I hw) fun u s1 ⟨x,H1,I1,r1,q1⟩=>?_
 obtain ⟨i,rfl,q⟩:=q1
 obtain ⟨t,rfl⟩:=r1
 exact ⟨some i,H1,I1,.int i t,q⟩
noncomputable def SlR (X:Cx) (r:V->Option Int->Option Int->Hp->VK->Prop):Prop:=
 ∀ (pins:List (Addr×Obj)) (s:Shared) (σ:St) (H:Hp) (x:V) (v vl vu:Value) (lo hi:Option Int) (sl:Addr) (Q:VK),Inv X pins σ H s->RelV x v->s.heap.IsSliceOf sl vl vu .none->IsPart vl lo->IsPart vu hi->r x lo hi H Q→
  ∃ T id,typeLookup (.type T) "__getitem__"=pure (some (.builtin id))/\s.TypeIs v T/\wpAny (model X.prog X.w) X.A (getItem v (.ref sl)) (EP X pins σ Q) X.xe s
def SlR.or {r r':V->Option Int->Option Int->Hp->VK->Prop} (h:SlR X r) (h':SlR X r'):SlR X (fun x lo hi H Q=>r x lo hi H Q∨r' x lo hi H Q):=by
 intro pins s σ H x v vl vu lo hi sl Q I rx hs pl pu q
 rcases q with q | q
 · exact h pins s σ H x v vl vu lo hi sl Q I rx hs pl pu q
 · exact h' pins s σ H x v vl vu lo hi sl Q I rx hs pl pu q
def tSl (r:V->Option Int->Option Int->Hp->VK->Prop) (te:TE) (tl th:TO):TE:=fun σ H Q=>te σ H fun x H1=>tl σ H1 fun l H2=>th σ H2 fun u H3=>r x l u H3 Q
def mG {r:V->Option Int->Option Int->Hp->VK->Prop} (hr:SlR X r) (he:PE X e te) (hl:PO X lo tl) (hu:PO X hi th):PE X (.Subscript e (.Slice lo hi none p2) pos) (tSl r te tl th):=by
 intro pins s σ H Q I h
 refine Subscript_ (thn (he pins s σ H _ I h) fun v s1 ⟨x,H1,I1,r1,q1⟩=>?_)
 refine wpAny_Slice (thn (hl pins s1 σ H1 _ I1 q1) fun vl s2 ⟨l,H2,I2,pl,q2⟩=>thn (hu pins s2 σ H2 _ I2 q2) fun vu s3 ⟨u,H3,I3,pu,q3⟩=>?_)
 rw [evalPart_none]
 refine wpAny_pure ?_
 have I4:Inv X pins σ H3 {s3 with heap:=s3.heap.push {cls:=.type "slice",data:=.fields #[vl,vu,.none]}}:=I3.kept (t':=s3.toks) fun b ob q=>gP _ q
 obtain ⟨T,id,hT,ht,hg⟩:=hr pins {s3 with heap:=s3.heap.push {cls:=.type "slice",data:=.fields #[vl,vu,.none]}} σ H3 x v vl vu l u s3.heap.objs.size Q I4 r1 (Heap.IsSliceOf.new ..) pl pu q3
 show wpAny (model X.prog X.w) X.A (subscriptTail e (.Slice lo hi none p2) v (.ref s3.heap.objs.size)) (EP X pins σ Q) X.xe {s3 with heap:=s3.heap.push {cls:=.type "slice",data:=.fields #[vl,vu,.none]}}
 exact tail_any (ops:=[.ref s3.heap.objs.size,v]) ht hT hg (by with_unfolding_all rfl)
def lz (xs:List V) (lo hi:Option Int):List V:=(xs.drop (HT.sIx xs.length 0 lo)).take (HT.sIx xs.length xs.length hi-HT.sIx xs.length 0 lo)
def jb (xs:List V) (lo hi:Option Int):(lz xs lo hi).length<=xs.length:=by
 unfold lz
 rw [List.length_take,List.length_drop]
 omega
noncomputable def rSlT (K:PySem.W.Frag):V->Option Int->Option Int->Hp->VK->Prop:=fun x lo hi H Q=>∃ a xs,x=.ref a/\SqT K H a xs∧
 ¬ (HT.sIx xs.length 0 lo=0/\HT.sIx xs.length xs.length hi=xs.length)/\∀ p,H p=none->Q (.ref p) (upd H p (.tup (lz xs lo hi)))
def rW:SlR X (rSlT X.K):=by
 intro pins s σ H x v vl vu lo hi sl Q I rx hs pl pu h
 obtain ⟨a,xs,rfl,hx,hw,q⟩:=h
 cases rx
 obtain ⟨its,r,ht,hz⟩:=I.tuple hx
 have hlen:its.toArray.size=xs.length:=by rw [List.size_toArray];exact r.length.symm
 refine ⟨"tuple",_,PyProof.Rows.slot_tuple_getitem.lookup,ht.typeIs,?_⟩
 refine HT.o8 ht hs pl pu (by rw [hlen];exact hw) ?_ (by rw [hlen];exact hz)
 rw [hlen]
 refine ⟨.ref s.heap.objs.size,_,I.laid (t':=s.toks) (o:=.tup (lz xs lo hi)) (fun b ob q=>gP _ q) (nL _) ?_,rfl,q _ (I.hok.fresh (nL _))⟩
 exact ⟨Nat.le_trans (jb xs lo hi) hz,_,(r.drop (HT.sIx xs.length 0 lo)).take (HT.sIx xs.length xs.length hi-HT.sIx xs.length 0 lo),IsTup.new _ _⟩
noncomputable def wG (K:PySem.W.Frag):R2:=fun x y H Q=>∃ a b xs ys,x=.ref a/\y=.ref b/\SqT K H a xs/\SqT K H b ys/\xs≠[]/\xs.length+ys.length<=sizeLine∧
 (ys=[]->Q (.ref a) H)/\(ys≠[]->∀ p,H p=none->Q (.ref p) (upd H p (.tup (xs++ys))))
def Vals.nil_iff {xs:List V} {us:List Value} (r:Vals xs us):us=[]↔xs=[]:=by
 cases r with
 | nil=>simp
 | cons _ _=>simp
def o9:OpR X (binaryOp .Add) (wG X.K):=by
 intro pins s σ H x y v u Q I rx ry h
 obtain ⟨a,b,xs,ys,rfl,rfl,ha,hb,hx,hz,q1,q2⟩:=h
 cases rx
 cases ry
 obtain ⟨its,r1,p1,_⟩:=I.tuple ha
 obtain ⟨its2,r2,p2,_⟩:=I.tuple hb
 refine HT.zB p1 p2 (fun z=>hx (r1.nil_iff.mp z)) (fun z=>⟨.ref a,H,I,rfl,q1 (r2.nil_iff.mp z)⟩) (fun z=>?_) (by rw [<- r1.length,<- r2.length];exact hz)
 refine ⟨.ref s.heap.objs.size,_,I.laid (t':=s.toks) (o:=.tup (xs++ys)) (fun b ob q=>gP _ q) (nL _) ?_,rfl,q2 (fun w=>z (r2.nil_iff.mpr w)) _ (I.hok.fresh (nL _))⟩
 exact ⟨by rw [List.length_append];exact hz,_,r1.append r2,IsTup.new _ _⟩
end
def ixN (n:Nat) (i:Int):Option Nat:=if 0<=i then (if i<n then some i.toNat else none) else if -(n:Int)<=i then some (i+n).toNat else none
def atI {α:Type} (xs:List α) (i:Int):Option α:=(ixN xs.length i).bind fun j=>xs[j]?
def pc {n:Nat} {i:Int} {j:Nat} (h:ixN n i=some j):seqIndex? i n=some j/\j<n/\-(n:Int)<=i/\i<n:=by
 unfold ixN at h
 by_cases h0:0<=i
 · rw [if_pos h0] at h
   by_cases h1:i<n
   · rw [if_pos h1] at h
     have e:i.toNat=j:=Option.some.inj h
     exact ⟨by rw [seqIndex_of h0 h1,e],by omega,by omega,h1⟩
   · rw [if_neg h1] at h;cases h
 · rw [if_neg h0] at h
   by_cases h1:-(n:Int)<=i
   · rw [if_pos h1] at h
     have e:(i+n).toNat=j:=Option.some.inj h
     exact ⟨by rw [seqIndex_neg (by omega) h1,e],by omega,h1,by omega⟩
   · rw [if_neg h1] at h;cases h
def lA {α:Type} {xs:List α} {i:Int} {v:α} (h:atI xs i=some v):∃ j,seqIndex? i xs.length=some j/\xs[j]?=some v/\j<xs.length/\-(xs.length:Int)<=i/\i<xs.length:=by
 unfold atI at h
 cases e:ixN xs.length i with
 | none=>rw [e] at h;cases h
 | some j =>
  rw [e] at h
  obtain ⟨h1,h2,h3,h4⟩:=pc e
  exact ⟨j,h1,h,h2,h3,h4⟩
def gc {α:Type} {xs:List α} {j:Nat} {v:α} (h:xs[j]?=some v):atI xs (j:Int)=some v:=by
 have hj:j<xs.length:=(gX h).1
 have e:ixN xs.length (j:Int)=some j:=by
  unfold ixN
  rw [if_pos (by omega),if_pos (by omega)];simp
 unfold atI;rw [e];exact h
def lB (b:Expr):Prop:=∀ o i,subscripted b false o i=operate [o,i] (getItem o i)
noncomputable def IxR (X:Cx) (r:R2):Prop:=
 ∀ (value slice:Expr) (pins:List (Addr×Obj)) (s:Shared) (σ:St) (H:Hp) (x y:V) (v u:Value) (Q:VK),Inv X pins σ H s->RelV x v->RelV y u->r x y H Q→
  subscripted slice false v u=operate [v,u] (getItem v u)->wpAny (model X.prog X.w) X.A (subscriptTail value slice v u) (EP X pins σ Q) X.xe s
noncomputable def MtR (X:Cx) (id:String) (r:V->List V->Hp->VK->Prop):Prop:=
 ∀ (pins:List (Addr×Obj)) (s:Shared) (σ:St) (H:Hp) (x:V) (xs:List V) (v:Value) (us:List Value) (Q:VK),Inv X pins σ H s->RelV x v->Vals xs us->r x xs H Q→
  wpAny (model X.prog X.w) X.A (call (.builtin id) (v::us)) (EP X pins σ Q) X.xe s
section
variable {X:Cx} {a b:Expr} {ta tb:TE} {pos:Pos}
def IxR.or {r r':R2} (h:IxR X r) (h':IxR X r'):IxR X (fun x y H Q=>r x y H Q∨r' x y H Q):=by
 intro value slice pins s σ H x y v u Q I rx ry q hs
 rcases q with q | q
 · exact h value slice pins s σ H x y v u Q I rx ry q hs
 · exact h' value slice pins s σ H x y v u Q I rx ry q hs
def wH {r:R2} (hr:IxR X r) (ha:PE X a ta) (hb:PE X b tb) (hs:lB b):PE X (.Subscript a b pos) (tOp r ta tb):=by
 intro pins s σ H Q I h
 exact Subscript_ (xB ha hb I h fun v u s2 x y H2 I2 rx ry q=>hr a b pins s2 σ H2 x y v u Q I2 rx ry q (hs _ _))
def rIxL (K:PySem.W.Frag):R2:=fun x y H Q=>∃ p xs i v,x=.ref p/\y=.int i/\SqL K H p xs/\atI xs i=some v/\Q v H
def rIxT (K:PySem.W.Frag):R2:=fun x y H Q=>∃ p xs i v,x=.ref p/\y=.int i/\SqT K H p xs/\atI xs i=some v/\Q v H
def rIxS:R2:=fun x y H Q=>∃ z i c,x=.str z/\y=.int i/\z.length<=sizeLine/\atI z.cps.toList i=some c/\Q (.str ⟨#[c]⟩) H
def ix_list:IxR X (rIxL X.K):=by
 intro value slice pins s σ H x y v u Q I rx ry h hs
 obtain ⟨p,xs,i,z,rfl,rfl,hq,he,q⟩:=h
 cases rx
 obtain ⟨t,rfl⟩:=ry
 obtain ⟨its,r,pl,hz⟩:=I.list hq
 obtain ⟨j,h1,h2,h3,h4,h5⟩:=lA he
 obtain ⟨w,ew,rw'⟩:=r.get h2
 have hl:=r.length
 have hn:=iI
 have fin:EP X pins σ Q w s:=⟨z,H,I,rw',q⟩
 by_cases h0:0<=i
 · have hj:i.toNat=j:=by
    rw [seqIndex_of h0 h5] at h1
    exact Option.some.inj h1
   exact item_listR pl.isList h0 (by omega) (by rw [hj];simpa using ew) fin hs
 · have hj:(i+(its.toArray.size:Int)).toNat=j:=by
    rw [seqIndex_neg (by omega) h4] at h1
    rw [List.size_toArray,<- hl]
    exact Option.some.inj h1
   exact subscriptTail_builtinR (x:=w) pl.isList.typeIs slot_list_getitem.lookup
    (wpAny_getItem_list_neg (Q:=fun r s'=>r=w/\EP X pins σ Q r s') pl.isList (by omega) (by rw [List.size_toArray]<;>omega) (by omega) (by rw [hj];simpa using ew) ⟨rfl,fin⟩) hs
def ix_tup:IxR X (rIxT X.K):=by
 intro value slice pins s σ H x y v u Q I rx ry h hs
 obtain ⟨p,xs,i,z,rfl,rfl,hq,he,q⟩:=h
 cases rx
 obtain ⟨t,rfl⟩:=ry
 obtain ⟨its,r,pl,hz⟩:=I.tuple hq
 obtain ⟨j,h1,h2,h3,h4,h5⟩:=lA he
 obtain ⟨w,ew,rw'⟩:=r.get h2
 have hl:=r.length
 have hn:=iI
 have fin:EP X pins σ Q w s:=⟨z,H,I,rw',q⟩
 exact subscriptTail_builtinR (x:=w) pl.typeIs slot_tuple_getitem.lookup
  (getItem_tuple (j:=j) (Q:=fun r s'=>r=w/\EP X pins σ Q r s') pl (by omega) (by omega) (by rw [List.size_toArray,<- hl];exact h1) (by simpa using ew) ⟨rfl,fin⟩) hs
def xL:IxR X rIxS:=by
 intro value slice pins s σ H x y v u Q I rx ry h hs
 obtain ⟨z,i,c,rfl,rfl,hz,he,q⟩:=h
 obtain ⟨t,rfl⟩:=rx
 obtain ⟨t',rfl⟩:=ry
 obtain ⟨j,h1,h2,h3,h4,h5⟩:=lA he
 have hl:z.cps.toList.length=z.length:=by simp [Str.length]
 rw [hl] at h1 h4 h5
 have hn:=iI
 exact tail_any (typeIs_str s z t) slot_str_getitem.lookup (getItem_str (c:=c) (by
  have e1:decide (i < -(2^63:Int))=false:=decide_eq_false (by omega)
  have e2:decide (i ≥ 2^63)=false:=decide_eq_false (by omega)
  rw [e1,e2,Bool.or_false]) (by rw [h1];simpa using h2) ⟨.str ⟨#[c]⟩,H,I.tok _,⟨_,rfl⟩,q⟩) hs
def rIx (K:PySem.W.Frag):R2:=fun x y H Q=>rIxL K x y H Q∨rIxT K x y H Q∨rIxS x y H Q
def rX:IxR X (rIx X.K):=ix_list.or (ix_tup.or xL)
def nZ (its:List Value) (n j:Nat) (u:Value):Obj.mapSeq (·.setIfInBounds j u) {cls:=.type "list",data:=.seq its.toArray n}={cls:=.type "list",data:=.seq (its.set j u).toArray n}:=by
 simp [Obj.mapSeq]
def Inv.lst {pins:List (Addr×Obj)} {σ:St} {H:Hp} {s:Shared} {p:Addr} {xs:List V} (I:Inv X pins σ H s) (h:H p=some (.lst xs)) :
  ∃ (its:List Value) (n:Nat),Vals xs its/\s.heap.get? p=some {cls:=.type "list",data:=.seq its.toArray n}/\xs.length<=sizeLine:=by
 obtain ⟨z,its,n,r,e⟩:=I.hok p _ h
 exact ⟨its,n,r,e,z⟩
def Inv.lstUpd {pins:List (Addr×Obj)} {σ:St} {H:Hp} {s:Shared} {p:Addr} {xs ys:List V} {its its':List Value} {n n':Nat} {f:Obj->Obj} (I:Inv X pins σ H s) (h:H p=some (.lst xs))
  (ho:s.heap.get? p=some {cls:=.type "list",data:=.seq its.toArray n}) (hf:f {cls:=.type "list",data:=.seq its.toArray n}={cls:=.type "list",data:=.seq its'.toArray n'}) (r:Vals ys its') (hz:ys.length<=sizeLine) (t:Nat) :
  Inv X pins σ (upd H p (.lst ys)) {s with heap:=s.heap.update p f,toks:=t}:=by
 have e:(s.heap.update p f).get? p=some {cls:=.type "list",data:=.seq its'.toArray n'}:=by
  rw [Heap.get?_update_self f ho (by rw [hf]<;>rfl),hf]
 refine I.write (x:=p) (e:=p) (by rw [h];trivial) (.inl rfl) (fun b u hb q=>(Heap.get?_update_other _ _ (Ne.symm hb)).trans q) ⟨_,e⟩ ?_
 exact ⟨hz,its',n',r,e⟩
def zd:V->V->V->Hp->(Hp->Prop)->Prop:=fun o i v H Q=>∃ p xs k j,o=.ref p/\i=.int k/\H p=some (.lst xs)/\ixN xs.length k=some j/\Q (upd H p (.lst (xs.set j v)))
def mH:PSet X zd:=by
 intro pins s σ H o i v ov iv u Q I ro ri rv h
 obtain ⟨p,xs,k,j,rfl,rfl,hp,hj,q⟩:=h
 cases ro
 obtain ⟨t,rfl⟩:=ri
 obtain ⟨its,n,r,ho,hz⟩:=I.lst hp
 obtain ⟨h1,h2,h3,h4⟩:=pc hj
 have hl:=r.length
 have hn:=iI
 have I':Inv X pins σ (upd H p (.lst (xs.set j v))) {s with heap:=s.heap.update p (Obj.mapSeq (·.setIfInBounds j u))}:=
  I.lstUpd hp ho (nZ its n j u) (r.set rv j) (by rw [List.length_set];exact hz) s.toks
 by_cases h0:0<=k
 · have hk:k.toNat=j:=by
    rw [seqIndex_of h0 h4] at h1
    exact Option.some.inj h1
   exact PySem.W.ki_setAt ho h0 (by omega) (by rw [List.size_toArray,<- hl];exact h4) (by rw [hk];exact ⟨_,I',q⟩)
 · have hk:(k+(its.toArray.size:Int)).toNat=j:=by
    rw [seqIndex_neg (by omega) h3] at h1
    rw [List.size_toArray,<- hl]
    exact Option.some.inj h1
   exact PySem.W.ki_setBack ho (by omega) (by rw [List.size_toArray,<- hl];exact h3) (by omega) (by rw [hk];exact ⟨_,I',q⟩)
def lC (lo hi:Option Int) (n:Nat):(sliceBounds lo hi none n).1=((HT.sIx n 0 lo:Nat):Int)/\(sliceBounds lo hi none n).2.1=((HT.sIx n n hi:Nat):Int)/\(sliceBounds lo hi none n).2.2=1:=by
 refine ⟨?_,?_,rfl⟩
 · cases lo with
   | none=>simp [sliceBounds,HT.sIx]
   | some i =>
    simp only [sliceBounds,HT.sIx,Option.getD_none,show (1:Int) > 0 by decide,if_true]
    by_cases h:i<0
    · simp only [h,if_true]<;>omega
    · simp only [h,if_false]<;>omega
 · cases hi with
   | none=>simp [sliceBounds,HT.sIx]
   | some i =>
    simp only [sliceBounds,HT.sIx,Option.getD_none,show (1:Int) > 0 by decide,if_true]
    by_cases h:i<0
    · simp only [h,if_true]<;>omega
    · simp only [h,if_false]<;>omega
def kf (its:List Value) (lo hi:Option Int):slicePick its.toArray lo hi none=((its.drop (HT.sIx its.length 0 lo)).take (HT.sIx its.length its.length hi-HT.sIx its.length 0 lo)).toArray:=by
 obtain ⟨h1,h2,h3⟩:=lC lo hi its.toArray.size
 unfold slicePick
 rw [h1,h2,h3]
 simp only [sliceRange_one,pick_run,List.size_toArray]<;>rfl
def rSlL (K:PySem.W.Frag):V->Option Int->Option Int->Hp->VK->Prop:=fun x lo hi H Q=>∃ a xs,x=.ref a/\SqL K H a xs/\∀ p,H p=none->Q (.ref p) (upd H p (.lst (lz xs lo hi)))
def uR:SlR X (rSlL X.K):=by
 intro pins s σ H x v vl vu lo hi sl Q I rx hs pl pu h
 obtain ⟨a,xs,rfl,hx,q⟩:=h
 cases rx
 obtain ⟨its,r,ht,hz⟩:=I.list hx
 have hlen:=r.length
 refine ⟨"list",_,slot_list_getitem.lookup,ht.isList.typeIs,?_⟩
 refine wpAny_getItem_list_slice ht.isList hs pl pu .none (by simp) ?_ (by rw [List.size_toArray]<;>omega)
 rw [kf,<- hlen]
 refine ⟨.ref s.heap.objs.size,_,I.laid (t':=s.toks) (o:=.lst (lz xs lo hi)) (fun b ob q=>gP _ q) (nL _) ?_,rfl,q _ (I.hok.fresh (nL _))⟩
 exact ⟨Nat.le_trans (jb xs lo hi) hz,_,0,(r.drop (HT.sIx xs.length 0 lo)).take (HT.sIx xs.length xs.length hi-HT.sIx xs.length 0 lo),Heap.get?_push_size _ rfl⟩
def wI:V->Bool
 | .non=>true
 | .bl _=>true
 | .int _=>true
 | .str _=>true
 | _=>false
def eqV:V->V->Bool
 | .non,.non=>true
 | .bl a,.bl b=>a==b
 | .bl a,.int b=>(if a then 1 else 0)==b
 | .int a,.bl b=>a==(if b then 1 else 0)
 | .int a,.int b=>a==b
 | .str a,.str b=>a==b
 | _,_=>false
def jJ {A:Around} {s:Shared} {y x:V} {u v:Value} (ry:RelV y u) (rx:RelV x v) (fy:wI y=true) (fx:wI x=true):SeqAt.EqAt A s u v (eqV y x):=by
 cases y with
 | non =>
  cases ry
  cases x with
  | non=>cases rx;exact SeqAt.EqAt.same _
  | bl b=>cases rx;exact SeqAt.EqAt.none_bool b
  | int b=>obtain ⟨t,rfl⟩:=rx;exact SeqAt.EqAt.none_int b t
  | str b=>obtain ⟨t,rfl⟩:=rx;exact SeqAt.EqAt.none_str b t
  | _=>exact absurd (show false=true from fx) Bool.false_ne_true
 | bl a =>
  cases ry
  cases x with
  | non=>cases rx;exact SeqAt.EqAt.bool_none a
  | bl b=>cases rx;exact SeqAt.EqAt.bool_bool a b
  | int b=>obtain ⟨t,rfl⟩:=rx;exact SeqAt.EqAt.bool_int a b t
  | str b=>obtain ⟨t,rfl⟩:=rx;exact SeqAt.EqAt.bool_str a b t
  | _=>exact absurd (show false=true from fx) Bool.false_ne_true
 | int a =>
  obtain ⟨t',rfl⟩:=ry
  cases x with
  | non=>cases rx;exact SeqAt.EqAt.int_none a t'
  | bl b=>cases rx;exact SeqAt.EqAt.int_bool a t' b
  | int b=>obtain ⟨t,rfl⟩:=rx;exact SeqAt.EqAt.int_int a t' b t
  | str b=>obtain ⟨t,rfl⟩:=rx;exact SeqAt.EqAt.int_str a t' b t
  | _=>exact absurd (show false=true from fx) Bool.false_ne_true
 | str a =>
  obtain ⟨t',rfl⟩:=ry
  cases x with
  | non=>cases rx;exact SeqAt.EqAt.str_none a t'
  | bl b=>cases rx;exact SeqAt.EqAt.str_bool a t' b
  | int b=>obtain ⟨t,rfl⟩:=rx;exact SeqAt.EqAt.str_int a t' b t
  | str b=>obtain ⟨t,rfl⟩:=rx;exact SeqAt.EqAt.str_str a t' b t
  | _=>exact absurd (show false=true from fx) Bool.false_ne_true
 | _=>exact absurd (show false=true from fy) Bool.false_ne_true
def CallR.or {f:Value} {r r':List V->Hp->VK->Prop} (h:CallR X f r) (h':CallR X f r'):CallR X f (fun xs H Q=>r xs H Q∨r' xs H Q):=by
 intro pins s σ H xs us Q I rs q
 rcases q with q | q
 · exact h pins s σ H xs us Q I rs q
 · exact h' pins s σ H xs us Q I rs q
def eY:CallR X (.type "list") (fun xs H Q=>∃ p ys,xs=[.ref p]/\(SqL X.K H p ys∨SqT X.K H p ys)/\∀ l,H l=none->Q (.ref l) (upd H l (.lst ys))):=by
 intro pins s σ H xs us Q I r h
 obtain ⟨p,ys,rfl,hq,q⟩:=h
 obtain ⟨u,rfl,rx⟩:=iZ r
 cases rx
 have fin:∀ (its:List Value),Vals ys its->ys.length<=sizeLine->∀ (h':Heap) (c':Nat),(∀ b o',s.heap.get? b=some o'->h'.get? b=some o')→
     h'.get? s.heap.objs.size=some {cls:=.type "list",dict:=none,data:=.seq its.toArray c',slots:=#[]}->EP X pins σ Q (.ref s.heap.objs.size) {s with heap:=h'}:=fun its r' hz h' c' kp e =>
  ⟨.ref s.heap.objs.size,_,I.laid (t':=s.toks) kp (nL _) (show ObjOk X.prog X.w _ h' _ (.lst ys) from ⟨hz,its,c',r',e⟩),rfl,q _ (I.hok.fresh (nL _))⟩
 rcases hq with hq | hq
 · obtain ⟨its,r',pl,hz⟩:=I.list hq
   have hlen:=r'.length
   obtain ⟨o,ho,hc,n,hd⟩:=pl.isList
   exact call_list_seq p (.inl rfl) ho hc hd (fun h' c' kp e=>fin its r' hz h' c' kp e) (by simp only [List.size_toArray]<;>omega)
 · obtain ⟨its,r',pl,hz⟩:=I.tuple hq
   have hlen:=r'.length
   obtain ⟨o,ho,hc,n,hd⟩:=pl
   exact call_list_seq p (.inr rfl) ho hc hd (fun h' c' kp e=>fin its r' hz h' c' kp e) (by simp only [List.size_toArray]<;>omega)
def dq:CallR X (.type "tuple") (fun xs H Q=>∃ p ys,xs=[.ref p]/\((SqL X.K H p ys/\∀ l,H l=none->Q (.ref l) (upd H l (.tup ys)))∨(SqT X.K H p ys/\Q (.ref p) H))):=by
 intro pins s σ H xs us Q I r h
 obtain ⟨p,ys,rfl,h⟩:=h
 obtain ⟨u,rfl,rx⟩:=iZ r
 cases rx
 rcases h with ⟨hq,q⟩ | ⟨hq,q⟩
 · obtain ⟨its,r',pl,hz⟩:=I.list hq
   have hlen:=r'.length
   refine call_tuple_list pl.isList (fun h' kp=>?_) (by simp only [List.size_toArray]<;>omega)
   have I1:Inv X pins σ H {s with heap:=h'}:=I.kept (t':=s.toks) kp
   have I2:Inv X pins σ (upd H h'.objs.size (.tup ys)) {s with heap:=h'.push {cls:=.type "tuple",data:=.seq its.toArray}}:=
    I1.laid (t':=s.toks) (fun b o e=>gP _ e) (nL _) (show ObjOk X.prog X.w _ _ _ (.tup ys) from ⟨hz,its,r',IsTup.new _ _⟩)
   exact ⟨.ref h'.objs.size,_,I2,rfl,q _ (I1.hok.fresh (nL _))⟩
 · obtain ⟨its,r',pl,hz⟩:=I.tuple hq
   exact call_tuple_same pl ⟨.ref p,H,I,rfl,q⟩
noncomputable def tyV (K:PySem.W.Frag) (T:String) (x:V) (H:Hp):Prop:=match x with
 | .str _=>T="str"
 | .int _=>T="int"
 | .ref p=>(T="list"/\∃ xs,SqL K H p xs)∨(T="tuple"/\∃ o,K.lookup p=some o/\o.cls=.type "tuple"/\o.dict=none)∨
     (T="dict"/\((∃ kvs,H p=some (.dK kvs))∨∃ kvs,H p=some (.dT kvs)))∨(T="set"/\∃ S n,H p=some (.set S n))
 | _=>False
def xM {pins:List (Addr×Obj)} {σ:St} {H:Hp} {s:Shared} {T:String} {x:V} {v:Value} (I:Inv X pins σ H s) (r:RelV x v) (ty:tyV X.K T x H) :
  s.TypeIs v T/\∀ a,v=.ref a->∃ ob,s.heap.get? a=some ob/\ob.dict=none:=by
 cases x with
 | str z =>
  obtain ⟨t,rfl⟩:=r
  cases (show T="str" from ty)
  exact ⟨typeIs_str s z t,fun _ e=>nomatch e⟩
 | int i =>
  obtain ⟨t,rfl⟩:=r
  cases (show T="int" from ty)
  exact ⟨typeIs_int s i t,fun _ e=>nomatch e⟩
 | ref p =>
  cases r
  rcases ty with ⟨rfl,xs,hq⟩ | ⟨rfl,o,hk,hc,hd⟩ | ⟨rfl,hk⟩ | ⟨rfl,S,n,hk⟩
  · obtain ⟨its,_,pl,_⟩:=I.list hq
    refine ⟨pl.isList.typeIs,fun a e=>?_⟩
    cases e
    obtain ⟨o,n,e,c,hd,_⟩:=pl
    exact ⟨o,e,hd⟩
  · refine ⟨⟨o,I.kIn p o hk,hc⟩,fun a e=>?_⟩
    cases e
    exact ⟨o,I.kIn _ o hk,hd⟩
  · have z:∃ o,s.heap.get? p=some o/\o.ExactDict:=by
     rcases hk with ⟨kvs,hk⟩ | ⟨kvs,hk⟩
     · obtain ⟨_,_,_,_,o,_,_,e,ex,_⟩:=I.hok p _ hk
       exact ⟨o,e,ex⟩
     · obtain ⟨_,_,_,_,o,_,_,e,ex,_⟩:=I.hok p _ hk
       exact ⟨o,e,ex⟩
    obtain ⟨o,e,ex⟩:=z
    refine ⟨⟨o,e,ex.1⟩,fun a e2=>?_⟩
    cases e2
    exact ⟨o,e,ex.2.1⟩
  · obtain ⟨o,_,_,_,e,ex,_⟩:=I.hok p _ hk
    refine ⟨⟨o,e,ex.1⟩,fun a e2=>?_⟩
    cases e2
    exact ⟨o,e,ex.2.1⟩
 | _=>exact False.elim ty
def tBM (K:PySem.W.Frag) (T:String) (r:V->List V->Hp->VK->Prop) (to:TE) (t:TA):TE:=fun σ H Q=>to σ H fun x H1=>tyV K T x H1/\t σ H1 fun xs H2=>r x xs H2 Q
variable {o e:Expr} {es:List Expr} {to:TE} {t:TA} {name:Str} {apos cpos:Pos} {T id:String} {r:V->List V->Hp->VK->Prop}
def mI (pa:PlainAttrs T) (slot:Slot T name id) (hty:typeOf (.builtin id)=pure (.type "method_descriptor")) (hm:MtR X id r) (ho:PE X o to) (ha:PA X (e::es) t)
  (hbase:attributeBase o name X.env (eval o X.env)=eval o X.env:=by rfl)
  (hfew:((backTo cpos (starEach (e::es) X.env)).all (fun x=>!x.1)&&(backToKw cpos (keywordEach [] X.env)).all (fun x=>x.1.isSome)
   && decide ((e::es).length+([]:List Keyword).length+(if ([]:List Keyword).isEmpty then 0 else 1)<30))=true:=by rfl)
  (hline:(apos.endLine==cpos.line)=true:=by rfl) (hs:starEach (e::es) X.env=(false,eval e X.env)::starEach es X.env:=by rfl) (hplain:(backTo cpos (starEach es X.env)).any (·.1)=false:=by rfl) :
  PE X (.Call (.Attribute o name apos) (e::es) [] cpos) (tBM X.K T r to t):=by
 intro pins s σ H Q I h
 refine wpAny_Call_method_late hbase hfew hline rfl (thn (ho pins s σ H _ I h) fun v s1 ⟨x,H1,I1,r1,ty,q1⟩=>?_)
 obtain ⟨h1,h2⟩:=xM I1 r1 ty
 refine ⟨T,id,pa,slot,hty,h1,h2,?_⟩
 have hA:=ha cpos pins s1 σ H1 _ I1 q1
 rw [hs] at hA ⊢
 refine Calls.callWith_builtin (by show (false||(backTo cpos (starEach es X.env)).any (·.1))=false;rw [hplain]<;>rfl) (Calls.evalArgs_plain ?_)
 exact thn hA fun us s2 ⟨vs,H2,I2,r2,q2⟩=>hm pins s2 σ H2 x vs v us Q I2 r1 r2 q2
/- xs.append(e),list.index on a module's tuple .. are MtR facts of 06m -/
end
noncomputable def MtM (X:Cx) (id:String) (r:V->List V->Hp->VK->Prop):Prop:=
 ∀ (pins:List (Addr×Obj)) (s:Shared) (σ:St) (H:Hp) (x:V) (xs:List V) (v:Value) (us:List Value) (Q:VK),Inv X pins σ H s->RelV x v->Vals xs us->r x xs H Q→
  wpAny (model X.prog X.w) X.A (call (.builtin id) (v::us)) (EP X pins σ Q) X.xe s
def Vals.one:∀ {x:V} {us:List Value},Vals [x] us->∃ u,us=[u]/\RelV x u
 | _,_,.cons r .nil=>⟨_,rfl,r⟩
def Vals.eraseIdx:∀ {xs:List V} {us:List Value} (i:Nat),Vals xs us->Vals (xs.eraseIdx i) (us.eraseIdx i)
 | _,_,_,.nil=>.nil
 | _,_,0,.cons _ t=>t
 | _,_,i+1,.cons r t=>.cons r (Vals.eraseIdx i t)
def Vals.rep {xs:List V} {us:List Value} (h:Vals xs us):∀ k:Nat,Vals (List.replicate k xs).flatten (List.replicate k us).flatten
 | 0=>.nil
 | k+1=>by
  rw [List.replicate_succ,List.replicate_succ,List.flatten_cons,List.flatten_cons]
  exact Vals.append h (Vals.rep h k)
def kz {α:Type}:∀ (l:List α) (i:Nat),(l.eraseIdx i).length<=l.length
 | [],_=>nL _
 | _::_,0=>Nat.le_succ _
 | _::r,i+1=>Nat.succ_le_succ (kz r i)
def gd (its:List Value):∀ (k:Nat) (acc:List Value),
  List.foldl (fun x1 x2=>x1++x2) acc.toArray (List.replicate k its.toArray)=(acc++(List.replicate k its).flatten).toArray
 | 0,acc=>by simp
 | k+1,acc=>by
  have e:acc.toArray++its.toArray=(acc++its).toArray:=by simp
  have e2:(acc++its)++(List.replicate k its).flatten=acc++(List.replicate (k+1) its).flatten:=by
   rw [List.replicate_succ,List.flatten_cons,List.append_assoc]
  rw [<- e2,<- gd its k (acc++its),<- e,List.replicate_succ,List.foldl_cons]
section
variable {X:Cx} {pins:List (Addr×Obj)} {σ:St} {H:Hp} {s:Shared} {l b:Addr} {xs ys zs:List V}
def Inv.lset {its its':List Value} {n:Nat} {f:Array Value->Array Value} {t':Nat} (I:Inv X pins σ H s) (hH:H l=some (.lst xs))
  (e:s.heap.get? l=some {cls:=.type "list",data:=.seq its.toArray n}) (hf:f its.toArray=its'.toArray) (hv:Vals ys its') (hz:ys.length<=sizeLine) :
  Inv X pins σ (upd H l (.lst ys)) {s with heap:=s.heap.update l (Obj.mapSeq f),toks:=t'}:=by
 have q:=PySem.IsL.update e f
 rw [hf] at q
 refine I.write (x:=l) (e:=l) (by rw [hH];exact trivial) (.inl rfl) (fun b' u hb hu=>(Heap.get?_update_other s.heap (Obj.mapSeq f) (Ne.symm hb)).trans hu) ⟨_,q⟩ ?_
 exact ⟨hz,its',_,hv,q⟩
def Inv.lnew {its:List Value} {t':Nat} (I:Inv X pins σ H s) (hv:Vals ys its) (hz:ys.length<=sizeLine) :
  Inv X pins σ (upd H s.heap.objs.size (.lst ys)) {s with heap:=s.heap.push {cls:=.type "list",data:=.seq its.toArray},toks:=t'}:=
 I.laid (fun _ _ q=>gP _ q) (nL _) ⟨hz,its,0,hv,Heap.get?_push_size _ rfl⟩
def Inv.fresh (I:Inv X pins σ H s):H s.heap.objs.size=none:=I.hok.fresh (nL _)
def Inv.lstM (I:Inv X pins σ H s) (hH:H l=some (.lst xs)):xs.length<=sizeLine/\∃ (its:List Value) (n:Nat),Vals xs its/\xs.length=its.length/\s.heap.get? l=some {cls:=.type "list",data:=.seq its.toArray n}:=by
 obtain ⟨z,its,n,r,e⟩:=I.hok l _ hH
 exact ⟨z,its,n,r,r.length,e⟩
def rY {n:Nat} (h:n<=sizeLine):Builtin.List.listTooLong n=false:=by
 unfold Builtin.List.listTooLong
 exact decide_eq_false (by omega)
end
section
variable {X:Cx}
def uS:V->List V->Hp->VK->Prop:=fun x vs H Q=>∃ l xs y,x=.ref l/\vs=[y]/\H l=some (.lst xs)/\xs.length<sizeLine/\Q .non (upd H l (.lst (xs++[y])))
def gf:MtM X "list.append" uS:=by
 intro pins s σ H x vs v us Q I rx rv h
 obtain ⟨l,xs,y,rfl,rfl,hH,hz,q⟩:=h
 cases rx
 obtain ⟨u,rfl,ru⟩:=rv.one
 obtain ⟨z,its,n,r,hl,e⟩:=I.lstM hH
 refine call_meets F.slot_list_append ⟨_,e,rfl⟩ F.entry_list_append (F.args_list_append_2 _ _) (PySem.list_append l its.toArray n u (by rw [List.size_toArray];omega)) ⟨e,?_⟩
 refine ⟨.non,_,I.lset (its':=its++[u]) hH e (by simp) (r.append (.cons ru .nil)) ?_,rfl,q⟩
 rw [List.length_append,List.length_singleton]
 omega
noncomputable def xN:V->List V->Hp->VK->Prop:=fun x vs H Q=>∃ l xs i k y,x=.ref l/\vs=[.int i]/\H l=some (.lst xs)/\-(2^63)<=i/\i<2^63/\seqIndex? i xs.length=some k/\xs[k]?=some y/\Q y (upd H l (.lst (xs.eraseIdx k)))
def rZ:MtM X "list.pop" xN:=by
 intro pins s σ H x vs v us Q I rx rv h
 obtain ⟨l,xs,i,k,y,rfl,rfl,hH,h1,h2,hk,hy,q⟩:=h
 cases rx
 obtain ⟨u,rfl,ru⟩:=rv.one
 obtain ⟨t,rfl⟩:=ru
 obtain ⟨z,its,n,r,hl,e⟩:=I.lstM hH
 obtain ⟨w,hw,rw'⟩:=r.get hy
 refine call_meets F.slot_list_pop ⟨_,e,rfl⟩ F.entry_list_pop (F.args_list_pop_2 _ _)
  (MeetsSeq.list_pop_at l its.toArray n i t k w (fitsIndex_both h1 h2) (by rw [List.size_toArray,<- hl];exact hk) (by rw [<- Array.getElem?_toList];exact hw) (by rw [List.size_toArray];omega)) ⟨e,?_⟩
 refine ⟨y,_,I.lset (its':=its.eraseIdx k) hH e ?_ (r.eraseIdx k) ?_,rw',q⟩
 · show its.toArray.eraseIdxIfInBounds k=(its.eraseIdx k).toArray
   rw [List.eraseIdxIfInBounds_toArray]
 · have:=kz xs k
   omega
def rRep:R2:=fun x y H Q=>∃ l k xs,x=.ref l/\y=.int k/\H l=some (.lst xs)/\-(2^63)<=k/\k<2^63/\xs.length*k.toNat<=sizeLine∧
 ∀ p,H p=none->Q (.ref p) (upd H p (.lst (List.replicate k.toNat xs).flatten))
def lD {α:Type} (xs:List α) (k:Nat):(List.replicate k xs).flatten.length=k*xs.length:=by
 induction k with
 | zero=>simp
 | succ k ih=>rw [List.replicate_succ,List.flatten_cons,List.length_append,ih,Nat.succ_mul,Nat.add_comm]
def xO:OpR X (binaryOp .Mult) rRep:=by
 intro pins s σ H x y v u Q I rx ry h
 obtain ⟨l,k,xs,rfl,rfl,hH,h1,h2,hz,q⟩:=h
 cases rx
 obtain ⟨t,rfl⟩:=ry
 obtain ⟨z,its,n,r,hl,e⟩:=I.lstM hH
 have hlen:its.toArray.size*k.toNat<=sizeLine:=by rw [List.size_toArray,<- hl];exact hz
 have hcap:¬ its.toArray.size*k.toNat > (2^63-1)/8:=by
  have:(sizeLine:Nat)<=(2^63-1)/8:=by decide
  omega
 have hfit:¬ (!Builtin.List.listFitsIndex k)=true:=by
  rw [fitsIndex_both h1 h2]
  exact Bool.false_ne_true
 have hlong:¬ Builtin.List.listTooLong (its.toArray.size*k.toNat)=true:=by
  rw [rY hlen]
  exact Bool.false_ne_true
 have hnew:List.foldl (fun x1 x2=>x1++x2) #[] (List.replicate (if its.toArray.isEmpty=true then 0 else k.toNat) its.toArray)=(List.replicate k.toNat its).flatten.toArray:=by
  have f0:∀ m:Nat,List.foldl (fun x1 x2=>x1++x2) #[] (List.replicate m its.toArray)=(List.replicate m its).flatten.toArray:=fun m=>by
   have:=gd its m []
   rw [List.nil_append] at this
   exact this
  rw [f0]
  cases its with
  | nil=>simp
  | cons a r'=>rw [if_neg (by simp)]
 refine wpAny_binaryOp_repeat_ref (T:="list") (U:="int") (by decide) ⟨_,e,rfl⟩ (fun s'=>typeIs_int s' k t) noFill_list_mul F.fills_int_mul F.slot_int_rmul repeat_list F.slot_int_index.lookup
  (call_meets F.slot_int_rmul (typeIs_int s k t) F.entry_int_rmul (F.args_int_rmul_2 _ _) (int___rmul___int_list k t l its.toArray n)
   ⟨e,rfl,⟨_,e,rfl⟩,call_meets F.slot_list_mul ⟨_,e,rfl⟩ F.entry_list_mul (F.args_list_mul_2 _ _) (AutoListH.list___mul___list_int_3 l its.toArray n k t hfit hcap hlong) ⟨e,?_⟩⟩)
 rw [hnew]
 exact ⟨.ref _,_,I.lnew (t':=s.toks) (r.rep k.toNat) (by rw [lD,Nat.mul_comm];exact hz),rfl,q _ I.fresh⟩
end
section
variable {prog:Program} {w:World} {A:Around} {E:Value->Shared->Prop} {s:Shared}
end
section
variable {X:Cx}
end
section
variable {κ:Type} [DecidableEq κ]
def dU (kvs:List (κ×V)) (k:κ):Option V:=(kvs.find? fun kv=>decide (kv.1=k)).map (·.2)
def bO (kvs:List (κ×V)) (k:κ) (v:V):List (κ×V):=
 if (kvs.any fun kv=>decide (kv.1=k))=true then kvs.map (fun kv=>if kv.1=k then (kv.1,v) else kv) else kvs++[(k,v)]
def fN {p:κ×V} {r:List (κ×V)} {k:κ} (e:p.1=k):dU (p::r) k=some p.2:=by simp [dU,List.find?_cons,e]
def fO {p:κ×V} {r:List (κ×V)} {k:κ} (e:¬ p.1=k):dU (p::r) k=dU r k:=by simp [dU,List.find?_cons,e]
def dL (k:κ):∀ kvs:List (κ×V),(kvs.any fun kv=>decide (kv.1=k))=(dU kvs k).isSome
 | []=>rfl
 | p::r=>by
  rw [List.any_cons]
  by_cases e:p.1=k
  · simp only [fN e,decide_eq_true e,Bool.true_or,Option.isSome_some]
  · rw [fO e,decide_eq_false e,Bool.false_or];exact dL k r
def dY (kvs:List (κ×V)) (k:κ) (v:V):(bO kvs k v).length<=kvs.length+1:=by
 unfold bO
 split
 · rw [List.length_map];omega
 · rw [List.length_append,List.length_cons,List.length_nil];omega
def r6 {kvs:List (κ×V)} {k:κ} (v:V) (h:dU kvs k=none):bO kvs k v=kvs++[(k,v)]:=by
 unfold bO
 rw [dL,h]
 exact if_neg (by decide)
def RelO.isSome_eq {o:Option V} {u:Option Value} (r:RelO o u):o.isSome=u.isSome:=by
 cases o with
 | none=>cases u with
  | none=>rfl
  | some _=>exact (show False from r).elim
 | some _=>cases u with
  | none=>exact (show False from r).elim
  | some _=>rfl
def KV.val {kvs:List (κ×V)} {vs:List (κ×Value)} (r:KV kvs vs) (k:κ):RelO (dU kvs k) (valueAt vs k):=by
 unfold KV at r
 induction r with
 | nil=>exact True.intro
 | @cons p q ps qs h t ih =>
  obtain ⟨h1,h2⟩:=h
  by_cases e:p.1=k
  · have e':q.1=k:=h1.symm.trans e
    have b:valueAt (q::qs) k=some q.2:=by simp [valueAt,List.find?_cons,e']
    rw [fN e,b];exact h2
  · have e':¬ q.1=k:=fun z=>e (h1.trans z)
    have b:valueAt (q::qs) k=valueAt qs k:=by simp [valueAt,List.find?_cons,e']
    rw [fO e,b];exact ih
def KV.any {kvs:List (κ×V)} {vs:List (κ×Value)} (r:KV kvs vs) (k:κ):(kvs.any fun kv=>decide (kv.1=k))=vs.any fun kv=>decide (kv.1=k):=by
 unfold KV at r
 induction r with
 | nil=>rfl
 | cons h t ih=>rw [List.any_cons,List.any_cons,ih,h.1]
def KV.repl {kvs:List (κ×V)} {vs:List (κ×Value)} (r:KV kvs vs) (k:κ) {y:V} {u:Value} (ry:RelV y u) :
  KV (kvs.map fun kv=>if kv.1=k then (kv.1,y) else kv) (vs.map fun kv=>if kv.1=k then (kv.1,u) else kv):=by
 unfold KV at r ⊢
 induction r with
 | nil=>exact .nil
 | @cons p q ps qs h t ih =>
  rw [List.map_cons,List.map_cons]
  refine .cons ?_ ih
  obtain ⟨h1,h2⟩:=h
  by_cases e:p.1=k
  · rw [if_pos e,if_pos (h1.symm.trans e)];exact ⟨h1,ry⟩
  · rw [if_neg e,if_neg (fun z=>e (h1.trans z))];exact ⟨h1,h2⟩
def KV.put {kvs:List (κ×V)} {vs:List (κ×Value)} (r:KV kvs vs) (k:κ) {y:V} {u:Value} (ry:RelV y u):KV (bO kvs k y) (stored vs k u):=by
 unfold bO stored
 rw [r.any k]
 by_cases e:(vs.any fun kv=>decide (kv.1=k))=true
 · rw [if_pos e,if_pos e];exact r.repl k ry
 · rw [if_neg e,if_neg e];exact Paired.snoc r ⟨rfl,ry⟩
def KV.length {kvs:List (κ×V)} {vs:List (κ×Value)} (r:KV kvs vs):kvs.length=vs.length:=Paired.length r
end
def pe {P:Program} {w:World} {k:Key} {u:Value} (r:RelV (kV k) u):(bp P w).is k u=true:=by
 cases k with
 | inl i=>obtain ⟨t,e⟩:=(show ∃ t,u=Value.int i t from r);subst e;exact mx P w i t
 | inr x=>obtain ⟨t,e⟩:=(show ∃ t,u=Value.str x t from r);subst e;exact my P w x t
def iL {P:Program} {w:World}:∀ {ks:List Key} {us:List Value},Vals (ks.map kV) us->ItemsAre (bp P w) ks us
 | [],_,r=>by rw [List.map_nil] at r;cases r;exact .nil
 | k::ks,_,r=>by
  rw [List.map_cons] at r
  cases r with
  | cons h t=>exact .cons (pe h) (iL t)
abbrev KT (H:Hp):List (List Key×V)->List (List Key×Addr×Value)->Prop:=Paired fun p q=>p.1=q.1/\H q.2.1=some (.tup (p.1.map kV))/\RelV p.2 q.2.2
def KT.val {H:Hp} {kvs:List (List Key×V)} {xs:List (List Key×Addr×Value)} (r:KT H kvs xs) (k:List Key):RelO (dU kvs k) ((atKey xs k).map (·.2)):=by
 induction r with
 | nil=>exact True.intro
 | @cons p q ps qs h t ih =>
  obtain ⟨h1,_,h2⟩:=h
  by_cases e:p.1=k
  · have e':q.1=k:=h1.symm.trans e
    have b:atKey (q::qs) k=some q.2:=by simp [atKey,List.find?_cons,e']
    rw [fN e,b];exact h2
  · have e':¬ q.1=k:=fun z=>e (h1.trans z)
    have b:atKey (q::qs) k=atKey qs k:=by simp [atKey,List.find?_cons,e']
    rw [fO e,b];exact ih
def KT.repl {H:Hp} {kvs:List (List Key×V)} {xs:List (List Key×Addr×Value)} (r:KT H kvs xs) (k:List Key) {y:V} {u:Value} (ry:RelV y u) :
  KT H (kvs.map fun kv=>if kv.1=k then (kv.1,y) else kv) (xs.map (putAt k u)):=by
 induction r with
 | nil=>exact .nil
 | @cons p q ps qs h t ih =>
  rw [List.map_cons,List.map_cons]
  refine .cons ?_ ih
  obtain ⟨h1,h2,h3⟩:=h
  unfold putAt
  by_cases e:p.1=k
  · rw [if_pos e,if_pos (h1.symm.trans e)];exact ⟨h1,h2,ry⟩
  · rw [if_neg e,if_neg (fun z=>e (h1.trans z))];exact ⟨h1,h2,h3⟩
def KT.put {H:Hp} {kvs:List (List Key×V)} {xs:List (List Key×Addr×Value)} (r:KT H kvs xs) (k:List Key) {b:Addr} {y:V} {u:Value} (hb:H b=some (.tup (k.map kV))) (ry:RelV y u) :
  KT H (bO kvs k y) (storedH xs k b u):=by
 have e:(kvs.any fun kv=>decide (kv.1=k))=(atKey xs k).isSome:=by
  rw [dL,(r.val k).isSome_eq,Option.isSome_map]
 unfold bO storedH
 rw [e]
 by_cases q:(atKey xs k).isSome=true
 · rw [if_pos q,if_pos q];exact r.repl k ry
 · rw [if_neg q,if_neg q];exact Paired.snoc r ⟨rfl,hb,ry⟩
def KT.keeps {H H':Hp} {kvs:List (List Key×V)} {xs:List (List Key×Addr×Value)} (r:KT H kvs xs) (ht:∀ b ys,H b=some (.tup ys)->H' b=some (.tup ys)):KT H' kvs xs:=
 Paired.mapP r fun _ _ z=>⟨z.1,ht _ _ z.2.1,z.2.2⟩
section
variable {P:Program} {w:World} {H:Hp} {h:Heap} {a:Addr}
def wJ {u:HO} (ok:HOk P w H h) (e:Rd H a u):ObjOk P w H h a u:=e.ok ok
def r8 {kvs:List (Key×V)} (ok:HOk P w H h) (e:Rd H a (.dK kvs)):kvs.length<=sizeLine/\(a==sysModules)=false/\∃ vs,KV kvs vs/\h.DictOf (bp P w) a vs:=
 show ObjOk P w H h a (.dK kvs) from wJ ok e
def ze {kvs:List (Key×V)} (ok:HOk P w H h) (e:H a=some (.dK kvs)):kvs.length<=sizeLine/\(a==sysModules)=false/\∃ vs,KV kvs vs/\h.DictOf (bp P w) a vs:=r8 ok (.inl e)
def n0 {ks:List Key} (ok:HOk P w H h) (e:H a=some (.tup (ks.map kV))):(tupleKind (bp P w)).is h ks a:=by
 obtain ⟨_,its,r,o,h1,h2,n,h3⟩:=(show ObjOk P w H h a (.tup (ks.map kV)) from ok a _ e)
 exact ⟨o,its.toArray,n,h1,h2,h3,by simpa using iL r⟩
def r9 {kvs:List (List Key×V)} (ok:HOk P w H h) (e:Rd H a (.dT kvs)):kvs.length<=sizeLine/\(a==sysModules)=false∧
  ∃ xs,KT H kvs xs/\h.DictOfH (tupleKind (bp P w)) a xs:=by
 obtain ⟨z,y,xs,r,o,es,ep,h1,h2,h3,h4,h5⟩:=(show ObjOk P w H h a (.dT kvs) from wJ ok e)
 refine ⟨z,y,xs,r,o,es,ep,h1,h2,h3,h4,fun x hx=>?_,h5⟩
 have all:∀ {l:List (List Key×V)} {m:List (List Key×Addr×Value)},KT H l m->∀ x∈m,(tupleKind (bp P w)).is h x.1 x.2.1:=by
  intro l m q
  induction q with
  | nil=>intro x hx;exact nomatch hx
  | @cons p q ps qs hq t ih =>
   intro x hx
   rcases List.mem_cons.mp hx with e | hx
   · subst e
     exact n0 ok (by rw [<- hq.1];exact hq.2.1)
   · exact ih x hx
 exact all r x hx
def wK {kvs:List (List Key×V)} (ok:HOk P w H h) (e:H a=some (.dT kvs)):kvs.length<=sizeLine/\(a==sysModules)=false∧
  ∃ xs,KT H kvs xs/\h.DictOfH (tupleKind (bp P w)) a xs:=r9 ok (.inl e)
end
def DGet (H:Hp) (a:Addr) (y:V) (r:Option V):Prop:=
 (∃ kvs k,Rd H a (.dK kvs)/\y=kV k/\r=dU kvs k)∨∃ kvs k b,Rd H a (.dT kvs)/\y=.ref b/\H b=some (.tup (k.map kV))/\r=dU kvs k
noncomputable def DPut (H:Hp) (a:Addr) (y v:V) (H':Hp):Prop:=
 (∃ kvs k,H a=some (.dK kvs)/\y=kV k/\kvs.length<sizeLine/\H'=upd H a (.dK (bO kvs k v)))∨
 ∃ kvs k b,H a=some (.dT kvs)/\y=.ref b/\H b=some (.tup (k.map kV))/\kvs.length<sizeLine/\H'=upd H a (.dT (bO kvs k v))
def DGet.k {H:Hp} {a:Addr} {kvs:List (Key×V)} {k:Key} (e:H a=some (.dK kvs)):DGet H a (kV k) (dU kvs k):=.inl ⟨kvs,k,.inl e,rfl,rfl⟩
def DGet.t {H:Hp} {a b:Addr} {kvs:List (List Key×V)} {k:List Key} (e:H a=some (.dT kvs)) (eb:H b=some (.tup (k.map kV))):DGet H a (.ref b) (dU kvs k):=.inr ⟨kvs,k,b,.inl e,rfl,eb,rfl⟩
def DPut.k {H:Hp} {a:Addr} {kvs:List (Key×V)} {k:Key} {v:V} (e:H a=some (.dK kvs)) (hl:kvs.length<sizeLine):DPut H a (kV k) v (upd H a (.dK (bO kvs k v))):=.inl ⟨kvs,k,e,rfl,hl,rfl⟩
def DPut.t {H:Hp} {a b:Addr} {kvs:List (List Key×V)} {k:List Key} {v:V} (e:H a=some (.dT kvs)) (eb:H b=some (.tup (k.map kV))) (hl:kvs.length<sizeLine) :
  DPut H a (.ref b) v (upd H a (.dT (bO kvs k v))):=.inr ⟨kvs,k,b,e,rfl,eb,hl,rfl⟩
section
variable {X:Cx} {pins:List (Addr×Obj)} {σ:St} {H:Hp} {s:Shared} {a:Addr} {y v:V} {u r:Value} {o:Option V} {A:Around} {E:Value->Shared->Prop}
def Inv.big (I:Inv X pins σ H s):sysModules<s.heap.objs.size:=by
 have h:mainGlobals<s.heap.objs.size:=(I.mod.glob.keeps I.bk).lt
 exact Nat.lt_trans (by decide) h
def qE {Q:Value->Shared->Prop} (hu:A.units+1<cLine) (I:Inv X pins σ H s) (g:DGet H a y (some v)) (ry:RelV y u) (h:∀ w' s',Inv X pins σ H s'->RelV v w'->Q w' s') :
  wpAny (model X.prog X.w) A (getItem (.ref a) u) Q E s:=by
 rcases g with ⟨kvs,k,e,ey,l⟩ | ⟨kvs,k,b,e,ey,eb,l⟩
 · subst ey
   obtain ⟨z,hd,vs,rel,dd⟩:=r8 I.hok e
   obtain ⟨w',hw,rw'⟩:=RelO.some_of (v:=v) (o:=valueAt vs k) (by rw [l];exact rel.val k)
   exact wpAny_getItem_of (pe ry) dd.mapOf hw (h w' _ (I.tok _) rw')
 · subst ey
   cases (show u=Value.ref b from ry)
   obtain ⟨z,hd,xs,rel,dd⟩:=r9 I.hok e
   obtain ⟨w',hw,rw'⟩:=RelO.some_of (v:=v) (o:=(atKey xs k).map (·.2)) (by rw [l];exact rel.val k)
   obtain ⟨p,hp,hp2⟩:=mS hw
   refine wpAny_getItem_heap (tupleKind_room_in1 hu) (n0 I.hok eb) dd hp ?_
   rw [hp2]
   exact h w' _ (I.tok _) rw'
def lE {h':Heap} {t':Nat} {ob:HO} (I:Inv X pins σ H s) (mu:Mut (H a)) (hs:Heap.SameBut a s.heap h') (he:∃ q,h'.get? a=some q) (new:ObjOk X.prog X.w (upd H a ob) h' a ob) :
  Inv X pins σ (upd H a ob) {s with heap:=h',toks:=t'}:=
 I.write (x:=a) (e:=a) mu (.inl rfl) (fun b q hb z=>(hs.2 b hb).trans z) he new
def sf {P:Program} {w:World} {H':Hp} {h':Heap} {kvs:List (Key×V)} {vs:List (Key×Value)} (z:kvs.length<=sizeLine) (hd:(a==sysModules)=false) (rel:KV kvs vs) (dd:h'.DictOf (bp P w) a vs) :
  ObjOk P w H' h' a (.dK kvs):=⟨z,hd,vs,rel,dd⟩
def qF {H':Hp} {Q:Unit->Shared->Prop} (hu:A.units+1<cLine) (I:Inv X pins σ H s) (g:DPut H a y v H') (ry:RelV y u) (rv:RelV v r) (h:∀ s',Inv X pins σ H' s'->Q () s') :
  wpAny (model X.prog X.w) A (setItem (.ref a) u r) Q E s:=by
 rcases g with ⟨kvs,k,e,ey,l,eH⟩ | ⟨kvs,k,b,e,ey,eb,l,eH⟩
 · subst ey eH
   obtain ⟨z,hd,vs,rel,dd⟩:=ze I.hok e
   have hz:vs.length<=sizeLine:=by rw [<- rel.length];exact z
   have hl:(bO kvs k v).length<=sizeLine:=by have:=dY kvs k v;omega
   refine wpAny_setItem_pairs (hsz:=hz) (pe ry) dd fun h' dd' hs=>h _ ?_
   have he:∃ q,h'.get? a=some q:=let ⟨q,_,_,hq,_⟩:=dd';⟨q,hq⟩
   exact lE I (by rw [e];exact True.intro) hs he (sf hl hd (rel.put k rv) dd')
 · subst ey eH
   cases (show u=Value.ref b from ry)
   obtain ⟨z,hd,xs,rel,dd⟩:=wK I.hok e
   have hz:xs.length<=sizeLine:=by rw [<- Paired.length rel];exact z
   have hl:(bO kvs k v).length<=sizeLine:=by have:=dY kvs k v;omega
   refine wpAny_setItem_heap (hsz:=hz) (tupleKind_room_in1 hu) (n0 I.hok eb) dd fun h' dd' hs=>h _ ?_
   obtain ⟨q,es,ep,hq,h2,h3,h4,_,h5⟩:=dd'
   refine lE I (by rw [e];exact True.intro) hs ⟨q,hq⟩ ⟨hl,hd,_,(rel.put k eb rv).keeps fun c ys ec=>?_,q,es,ep,hq,h2,h3,h4,h5⟩
   rw [aF (wx ec e (fun z=>nomatch z))]
   exact ec
end
section
variable {X:Cx} {pins:List (Addr×Obj)} {σ:St} {H:Hp} {s:Shared} {a:Addr} {kvs:List (Key×V)} {k:Key} {u:Value} {A:Around} {E:Value->Shared->Prop}
end
def sg (i:Expr):Prop:=∀ ov iv,subscripted i false ov iv=operate [ov,iv] (getItem ov iv)
def uT {prog:Program} {w:World} {A:Around} {E:Value->Shared->Prop} {s:Shared} {env:Env} {value slice:Expr} {pos:Pos} {T id:String} {Q:Value->Shared->Prop}
  (hl:typeLookup (.type T) "__getitem__"=pure (some (.builtin id))) (hs:sg slice)
  (h:wpAny (model prog w) A (eval value env) (fun o s₁=>wpAny (model prog w) A (eval slice env) (fun i s₂=>s₂.TypeIs o T/\wpAny (model prog w) A (getItem o i) Q E s₂) E s₁) E s) :
  wpAny (model prog w) A (eval (.Subscript value slice pos) env) Q E s:=by
 refine Subscript_ (wpAny_mono h (fun o s₁ h₁=>wpAny_mono h₁ (fun i s₂ h₂=>?_) fun _ _ x=>x) fun _ _ x=>x)
 obtain ⟨hT,h₂⟩:=h₂
 unfold subscriptTail
 refine wB ?_
 rw [getitemInPython_of_ne hT.not_modules]
 refine wB (wpAny_specialOf hT hl ?_)
 have fin:wpAny (model prog w) A (subscripted slice false o i) (fun r s₃=>wpAny (model prog w) A (letTemporaryGo value o r >>= fun _=>pure r) Q E s₃) E s₂:=by
  rw [hs o i]
  exact wpAny_operating (wpAny_mono h₂ (fun r s₃ h₃=>wB (wpAny_letTemporaryGo (wpAny_pure h₃))) fun _ _ x=>x)
 first
  | exact wpAny_pure (wB fin)
  | exact wB (wpAny_pure (wB fin))
  | exact wB fin
def mJ {X:Cx} {pins:List (Addr×Obj)} {σ:St} {H:Hp} {s:Shared} {a:Addr} {y:V} {o:Option V} (I:Inv X pins σ H s) (g:DGet H a y o):s.TypeIs (.ref a) "dict":=by
 rcases g with ⟨kvs,k,e,_,_⟩ | ⟨kvs,k,b,e,_,_,_⟩
 · obtain ⟨_,_,vs,_,dd⟩:=r8 I.hok e
   exact dd.typeIs
 · obtain ⟨_,_,xs,_,dd⟩:=r9 I.hok e
   exact dd.typeIs
def zf (td ty:TE):TE:=fun σ H Q=>td σ H fun x H1=>ty σ H1 fun y H2=>∃ a v,x=.ref a/\DGet H2 a y (some v)/\Q v H2
def zg (td ty tv:TE):TS:=fun D σ H=>tv σ H fun v H1=>td σ H1 fun x H2=>ty σ H2 fun y H3=>∃ a H4,x=.ref a/\DPut H3 a y v H4/\D.nx σ H4
section
variable {X:Cx} {o i e value:Expr} {pos pos' tpos:Pos} {td ty tv:TE}
def lF (hu:X.A.units+1<cLine) (ho:PE X o td) (hi:PE X i ty) (hs:sg i):PE X (.Subscript o i pos) (zf td ty):=by
 intro pins s σ H Q I h
 refine uT PySem.F.slot_dict_getitem.lookup hs (thn (ho pins s σ H _ I h) fun u s1 ⟨x,H1,I1,rx,q1⟩=>thn (hi pins s1 σ H1 _ I1 q1) fun iv s2 ⟨y,H2,I2,ry,a,v,ex,g,q2⟩=>?_)
 subst ex
 obtain rfl:u=Value.ref a:=rx
 exact ⟨mJ I2 g,qE hu I2 g ry fun w' s3 I3 rw'=>⟨v,H2,I3,rw',q2⟩⟩
def lG (hu:X.A.units+1<cLine) (ho:PE X o td) (hi:PE X i ty) (hv:PE X value tv) (hs:swapsWith value (some (.Subscript o i pos')) pos.line X.env=pure false) :
  PS X (.Assign [.Subscript o i pos'] value pos) (zg td ty tv):=by
 intro pins s σ H D I h
 refine wpAny_Assign_Subscript (thn (hv pins s σ H _ I h) fun r s1 ⟨v,H1,I1,rv,q1⟩=>thn (ho pins s1 σ H1 _ I1 q1) fun u s2 ⟨x,H2,I2,rx,q2⟩=>thn (hi pins s2 σ H2 _ I2 q2) fun iv s3 ⟨y,H3,I3,ry,a,H4,ex,g,q3⟩=>?_) hs
 subst ex
 obtain rfl:u=Value.ref a:=rx
 exact qF hu I3 g ry rv fun s4 I4=>⟨σ,H4,I4,q3⟩
end
def si {P:Program} {w:World} {H:Hp} (h:Heap) (hb:sysModules<h.objs.size):ObjOk P w H (h.push {cls:=.type "dict",data:=.dict #[]}) h.objs.size (.dT []):=
 ⟨Nat.zero_le _,beq_eq_false_iff_ne.mpr (Ne.symm (Nat.ne_of_lt hb)),[],.nil,_,#[],0,Heap.get?_push_size _ rfl,⟨rfl,rfl,rfl⟩,rfl,rfl,List.nodup_nil⟩
def xP:TE:=fun _ H Q=>∀ p,H p=none->Q (.ref p) (upd H p (.dT []))
section
variable {X:Cx} {pos:Pos}
def sj:PE X (.Dict [] [] pos) xP:=fun pins s σ H Q I h =>
 wpAny_Dict_empty ⟨.ref s.heap.objs.size,_,I.laid (a:=s.heap.objs.size) (o:=.dT []) (t':=s.toks) (fun _ _ q=>gP _ q) (nL _) (si s.heap I.big),rfl,h _ (I.hok.fresh (nL _))⟩
end
section
variable {X:Cx} {pins:List (Addr×Obj)} {σ:St} {H:Hp} {s:Shared} {a:Addr} {y d:V} {u r:Value} {o:Option V} {A:Around} {E:Value->Shared->Prop}
end
section
variable {X:Cx} {o e f:Expr} {apos cpos:Pos} {td ty tx:TE}
end
section
variable {X:Cx} {pins:List (Addr×Obj)} {σ:St} {H:Hp} {s:Shared} {a:Addr} {kvs:List (Key×V)} {A:Around} {E:Value->Shared->Prop}
end
section
variable {X:Cx} {pins:List (Addr×Obj)} {σ:St} {H:Hp} {s:Shared} {a:Addr} {y:V} {u:Value} {A:Around} {E:Value->Shared->Prop}
end
end L2
namespace Att
open PySem PySem.W PySem.Calls PyProof.Rows
def jl {P:Params} {h:Heap}:∀ (ns:List Int) (vs:List Value),WellAll P h vs (ns.map WData.int)->IntsAre vs ns:=by
 intro ns
 induction ns with
 | nil =>
  intro vs w
  rw [List.map_nil] at w
  cases w
  exact .nil
 | cons n ns ih =>
  intro vs w
  rw [List.map_cons] at w
  cases w with
  | cons a b =>
   cases a
   exact .cons _ _ (ih _ b)
def qG {l:OpenLaw} {n:Nat} (hn:l.most=some n) {P:Params} {h:Heap} {args:List WData} {vals:List Value}
  (hpre:l.row.toRowW.claim.pre args=true) (hwl:WellAll P h vals args) :
  ∃ a vs ns,vals=[Value.ref a]/\args=[WData.list (ns.map WData.int)]/\h.get? a=some {cls:=.type "list",data:=.seq vs.toArray}/\IntsAre vs ns/\ns.length<=n:=by
 have hsh:WShape.hasAll [] args [.list .int]=true:=(pre_splitW hpre).1
 have hc:l.pre.holds [] {args:=args}=true:=(pre_splitW hpre).2
 obtain ⟨d,r,rfl,h1,h2⟩:=hasAllW_cons hsh
 obtain rfl:=hasAllW_nil h2
 obtain ⟨xs,rfl,h3⟩:=hasW_list h1
 obtain ⟨ns,rfl⟩:=items_int h3
 have hlen:ns.length<=n:=by
  unfold OpenLaw.pre at hc
  have h4:(WTm.not (.lt (.lit (.int (n:Int))) (.len (.arg 0)))).holds [] {args:=[.list (ns.map .int)]}=true:=by
   have h4:=(holds_andW hc).1
   rw [hn] at h4
   exact h4
  have h5:=condW_of h4 (w_not (w_lt w_lit (w_len_list (w_arg rfl))))
  rw [List.length_map] at h5
  refine Nat.le_of_not_lt fun q=>?_
  have q':(n:Int)<((ns.length:Nat):Int):=by omega
  first
   | (rw [decide_eq_true q'] at h5;exact absurd h5 (by decide))
   | (simp at h5;omega)
 cases hwl with
 | cons w1 w2 =>
  cases w2
  cases w1 with
  | list ho hall=>exact ⟨_,_,ns,rfl,rfl,ho,jl ns _ hall,hlen⟩
def qH (l:OpenLaw) (args:List WData):l.row.toRowW.claim.post args (.bool true) args=true:=
 postW_of (r:=l.row.toRowW) (X:=(true==true))
  (show WShape.has [] (.bool true) .bool=true by first | rfl | decide | simp [WShape.has,WShape.arms,WShape.armsAll])
  (show (WTm.eq .res (.lit (.bool true))).value [] {args:=args,res:=some (.bool true),after:=args}=some (.bool (true==true)) from w_eq_bool (w_res rfl) w_lit) rfl
def wL {l:OpenLaw} {n:Nat} {q:Program} {loose:List Str} {XP:(Str->Option Value)->Heap->Prop} {YP:World->Heap->Prop} {d:DefRec}
  (hn:l.most=some n) (hdf:d.params.defaults=[])
  (call:∀ (w:World) (s₀ s₁:Shared) (mg mb:Str->Option Value) (fa:Addr) (o:Obj) (pm cd doc:Value) (a:Addr) (vs:List Value) (ns:List Int),
   Ground q loose [] XP w s₀ mg mb s₁.heap->YP w s₁.heap→
   s₁.heap.get? fa=some o->o.data=.func (docDef d.name d.params d.body d.scope pm cd doc)->s₁.heap.CodeRec cd d.name->mg d.name=some (.ref fa)→
   s₁.heap.get? a=some {cls:=.type "list",data:=.seq vs.toArray}->IntsAre vs ns->ns.length<=n->s₁.gens=#[]→
   codeAny (model l.prog w) callerA (.call (.ref fa) ⟨[.ref a],[]⟩) (fun r s'=>r=.ok (.ret (.bool true))/\OldK s₁.heap s'.heap/\s'.os=s₁.os/\AllBare s'.gens) s₁) :
  WalkO q loose XP YP l.row.toRowW d [] (fun f vs=>PySem.call f vs):=by
 intro w s₀ s₁ mg mb G Y fa o pm cd doc dV kV ho hd hcd hD hmg hg args vals as hpre hlay hrd hwl hlo
 obtain rfl:dV=.none:=Dflts.none hD hdf
 obtain rfl:kV=.none:=Dflts.noKw hD
 obtain ⟨a,vs,ns,rfl,rfl,hobj,hints,hlen⟩:=qG hn hpre hwl
 refine enter_call (codeAny_mono (call w s₀ s₁ mg mb fa o pm cd doc a vs ns G Y ho (fd_plain hd) hcd hmg hobj hints hlen hg) fun r s' hq=>?_)
 obtain ⟨rfl,h2,h3,h4⟩:=hq
 exact ⟨.inl ⟨.bool true,.bool true,[],rfl,fun _=>rfl,.bool true,qH l _,fun _=>⟨List.Pairwise.nil,fun _ hm=>(nomatch hm)⟩⟩,h2,h3,h4⟩
section
variable {prog:Program} {w:World} {A:Around} {E:Value->Shared->Prop} {s:Shared} {K:Frag}
end
end Att
namespace L2
open PySem PySem.Spec PyProof.Rows
def kA:∀ {vs:List Value} {ns:List Int},IntsAre vs ns->Vals (ns.map V.int) vs
 | _,_,.nil=>.nil
 | _,_,.cons n t h=>.cons ⟨t,rfl⟩ (kA h)
def uU (H:Hp):Prop:=∀ b,H b=none∨∃ o xs,H b=some (.frz o (.lst xs))
def sk {P:Program} {w:World} {K:PySem.W.Frag} {mg mb:Str->Option Value} {CX:CXT} {k:Nat} {fa a:Addr} {fd:FuncData} {x:Str} {sp:Sp} {s₁:Shared} {vs:List Value} {ns:List Int}
  (KX:K.In s₁.heap) (hns:s₁.heap.Ns mainGlobals mg) (hb:s₁.heap.Ns builtinsNs mb) (hbb:∀ x:Str,x≠"__name__"->mb x=bootBuiltins x) (hlim:s₁.heap.NoLimit) (hg:s₁.gens=#[])
  (ha:s₁.heap.get? a=some {cls:=.type "list",data:=.seq vs.toArray}) (hi:IntsAre vs ns) (hl:ns.length<=sizeLine) (hr:Room k callerA)
  (F:∀ base:Heap,K.In base->base.Ns mainGlobals mg->FnOk P w K mg base CX k fa fd [x] sp) (hbind:∀ (s:Shared) (u:Value),BindsTo s fd ⟨[u],[]⟩ [(x,u)])
  (hsp:∀ H:Hp,uU H->SqL K H a (ns.map V.int)->sp [.ref a] H (fun v _=>v=.bl true) fun _ _ _=>False)
  (hCX:∀ H e s',CX [] H s₁ (fun _ _ _=>False) e s'->False) :
  codeAny (model P w) callerA (.call (.ref fa) ⟨[.ref a],[]⟩) (fun r s'=>r=.ok (.ret (.bool true))/\OldK s₁.heap s'.heap/\s'.os=s₁.os/\AllBare s'.gens) s₁:=by
 have rv:=kA hi
 have lenV:=hi.length
 -- from an abstract heap in which nothing but the script may be tracked
 have core:∀ H:Hp,uU H->SqL K H a (ns.map V.int)->HOk P w H s₁.heap->(∀ b,H b≠none->b=a)->(H a≠none->K.lookup a=none)→
     codeAny (model P w) callerA (.call (.ref fa) ⟨[.ref a],[]⟩) (fun r s'=>r=.ok (.ret (.bool true))/\OldK s₁.heap s'.heap/\s'.os=s₁.os/\AllBare s'.gens) s₁:=by
  intro H hO hS hok hA hK
  have base_of:∀ {b:Addr} {o:Obj},s₁.heap.get? b=some o->H b=none->(lr s₁.heap H).get? b=some o:=fun e n=>rF e n
  have noA:∀ {b:Addr} {o:Obj} {es:Array DictEntry} {ep:Nat},s₁.heap.get? b=some o->o.data=.dict es ep->H b=none:=fun {b o es ep} e d=>by
   cases q:H b with
   | none=>rfl
   | some u =>
    have e':b=a:=hA b (by rw [q];simp)
    subst e'
    rw [ha] at e;cases e
    have d':Data.seq vs.toArray _=Data.dict es ep:=d
    cases d'
  have nsK:∀ {b:Addr} {m:Str->Option Value},s₁.heap.Ns b m->(lr s₁.heap H).Ns b m:=fun {b m} ⟨o,es,ep,e,d,r⟩=>⟨o,es,ep,base_of e (noA e d),d,r⟩
  have hKb:K.In (lr s₁.heap H):=fun b o e=>base_of (KX b o e) (by
   cases q:H b with
   | none=>rfl
   | some u =>
    have e':b=a:=hA b (by rw [q];simp)
    subst e'
    rw [hK (by rw [q];simp)] at e;cases e)
  have hM:Mod K mg (lr s₁.heap H):=⟨hKb,nsK hns,⟨mb,nsK hb,hbb⟩,let ⟨mc,h1,h2⟩:=hlim;⟨mc,nsK h1,h2⟩⟩
  have e0:Env0 P w K mg (lr s₁.heap H) callerA [] s₁ H:=⟨rfl,hM,fun b o e=>uD e,Nat.le_of_eq (qu _ _),trivial,fun b hb=>absurd (show b∈([]:List Addr) from hb) (by simp),hok,.of_eq hg⟩
  refine codeAny_mono ((F _ hKb (nsK hns)).run callerA [] s₁ H ⟨[.ref a],[]⟩ [.ref a] [.ref a] _ _ hr e0 (hbind s₁ (.ref a)) (.cons rfl .nil) (hsp H hO hS)) fun r s' h=>?_
  cases r with
  | error e=>exact (hCX H e s' h).elim
  | ok fl =>
   cases fl with
   | next=>exact False.elim h
   | brk=>exact False.elim h
   | cont=>exact False.elim h
   | ret u =>
    obtain ⟨v,H',os,bare,un,hok',r',q⟩:=h
    have q':v=.bl true:=q
    subst q'
    obtain rfl:u=Value.bool true:=r'
    refine ⟨rfl,OldK.of_keep fun b o e=>?_,os,bare⟩
    cases q:H b with
    | none=>exact un.keep b o e q (by intro z;exact absurd (show b∈([]:List Addr) from z) (by simp)) (by simp)
    | some u =>
     rcases hO b with z | ⟨ob,xs,z⟩
     · rw [q] at z;cases z
     · have z2:=un.frzs b ob _ z
       obtain ⟨e1,_⟩:=hok b _ z
       obtain ⟨e2,_⟩:=hok' b _ z2
       rw [e] at e1;cases e1
       exact e2
 cases hk:K.lookup a with
 | some o =>
  -- the script is one of the module's own objects
  have e:=KX a o hk
  rw [ha] at e
  cases e
  refine core (fun _=>none) (fun _=>.inl rfl) (.inr ⟨_,vs.toArray,_,hk,rfl,rfl,rfl,by rw [List.size_toArray,lenV];exact hl,by simpa using rv⟩) (fun b u z=>by have z':(none:Option HO)=some u:=z;cases z') (fun b z=>absurd rfl z) fun z=>absurd rfl z
 | none =>
  refine core (fun b=>if b=a then some (.frz {cls:=.type "list",data:=.seq vs.toArray} (.lst (ns.map V.int))) else none) (fun b=>?_) (.inl (.inr ⟨{cls:=.type "list",data:=.seq vs.toArray},if_pos rfl⟩)) (fun b u z=>?_) (fun b z=>?_) fun _=>hk
  · by_cases hb:b=a
    · exact .inr ⟨_,_,if_pos hb⟩
    · exact .inl (if_neg hb)
  · by_cases hb:b=a
    · have z':=(if_pos hb).symm.trans z
      cases z'
      subst hb
      exact ⟨ha,by rw [List.length_map];exact hl,vs,_,rv,ha⟩
    · have z':=(if_neg hb).symm.trans z
      cases z'
  · by_cases hb:b=a
    · exact hb
    · exact absurd (if_neg hb) z
def zD {l:PySem.W.OpenLaw} {n k:Nat} {q:Program} {loose:List Str} {XP:(Str->Option Value)->Heap->Prop} {YP:World->Heap->Prop} {d:DefRec} {K:Params->PySem.W.Frag} {CX:World->CXT} {sp:World->Sp} {x:Str}
  (hn:l.most=some n) (hn2:n<=sizeLine) (hdf:d.params.defaults=[]) (hr:Room k callerA)
  (hY:∀ (w:World) (h:Heap),YP w h->(K w.params).In h)
  (F:∀ (w:World) (mg:Str->Option Value) (fa:Addr) (h:Heap),(K w.params).In h->h.Ns mainGlobals mg->mg d.name=some (.ref fa)→
   ∃ fd:FuncData,(∀ (s:Shared) (u:Value),BindsTo s fd ⟨[u],[]⟩ [(x,u)])∧
    ∀ base:Heap,(K w.params).In base->base.Ns mainGlobals mg->FnOk l.prog w (K w.params) mg base (CX w) k fa fd [x] (sp w))
  (hsp:∀ (w:World) (H:Hp) (a:Addr) (ns:List Int),ns.length<=n->uU H->SqL (K w.params) H a (ns.map V.int)->sp w [.ref a] H (fun v _=>v=.bl true) fun _ _ _=>False)
  (hCX:∀ (w:World) (H:Hp) (s:Shared) (e:Value) (s':Shared),CX w [] H s (fun _ _ _=>False) e s'->False) :
  PySem.W.WalkO q loose XP YP l.row.toRowW d [] (fun f vs=>PySem.call f vs):=by
 refine Att.wL hn hdf fun w s₀ s₁ mg mb fa o pm cd doc a vs ns G Y ho hd hcd hmg hobj hints hlen hg=>?_
 have KX:=hY w _ Y
 obtain ⟨fd,hb,hF⟩:=F w mg fa _ KX G.T.g hmg
 exact sk KX G.T.g G.T.b G.T.builtins G.T.nolimit hg hobj hints (Nat.le_trans hlen hn2) hr hF hb (fun H hO hS=>hsp w H a ns hlen hO hS) fun H e s'=>hCX w H s₁ e s'
end L2
/- THE LAST THEOREM (shape;LID,My.* are yours):
   My.Adr: a structure of the addresses that your layer names (classes,functions);My.Txt K t: a structure (Prop) of the equations over K;
   My.txt_mk:{K} {implicit addresses ..} (e1:nsIn K mainGlobals "law"=some (some (.ref f))) (e2:K.lookup f=some ⟨oc,od,.func (fnOf "law" "law" params body scope dV kV doc pm an cdv ct),sl⟩) (e3:codeIn K cdv "law"=true) ..:∃ t,My.Txt K t
(the tactic k_is has no namespace: write k_is) -/
namespace L2
open PySem PySem.Spec PyProof.Rows
def bh (s:Stmt):Arguments:=match s with
 | .FunctionDef _ a _ _ _ _ _ _ _ _=>a
 | _=>{posonlyargs:=[],args:=[],vararg:=none,kwonlyargs:=[],kw_defaults:=[],kwarg:=none,defaults:=[]}
def aT (s:Stmt):List Stmt:=match s with
 | .FunctionDef _ _ b _ _ _ _ _ _ _=>b
 | _=>[]
def ac (s:Stmt):Scope:=match s with
 | .FunctionDef _ _ _ _ _ _ sc _ _ _=>sc
 | _=>{kind:=.function,names:=[],isGenerator:=false,isCoroutine:=false}
abbrev CX0:CXT:=fun _ _ _ _ _ _=>False
abbrev E0:XK:=fun _ _ _=>False
def pf {X:Cx}:gI CX0 X E0:=fun _ _ _ _ _ _ _ h=>h.elim
structure Fun (K:PySem.W.Frag) (x qual:Str) (st:Stmt) (f:Addr) (fd:FuncData):Prop where
 ex:∃ (oc:Value) (od:Option Addr) (kV doc pm:Value) (an:Option Addr) (cdv ct:Value) (osl:Array (Option Value)),
  fd=PySem.W.fnOf x qual (bh st) (aT st) (ac st) .none kV doc pm an cdv ct/\K.lookup f=some ⟨oc,od,.func fd,osl⟩/\PySem.W.codeIn K cdv qual=true
 kp:PySem.W.keepIn K (.ref f)=true
section
variable {P:Program} {w:World} {K:PySem.W.Frag} {mg:Str->Option Value} {base:Heap}
def Fun.ok {x qual:Str} {st:Stmt} {f:Addr} {fd:FuncData} {N ps:List Str} {k:Nat} {sp:Sp} (F:Fun K x qual st f fd) (S:FnScope N ps (ac st)) (len:∀ vs H Q E,sp vs H Q E->vs.length=ps.length)
  (hbody:∀ (cdv:Value) (A:Around) (outer:List Env) (s:Shared) (H:Hp) (vs:List V) (Q:VK) (E:XK),Room k (A.deeper (envOfC qual (ac st) s.heap.objs.size f cdv))->sp vs H Q E→
   ∃ t,PSs (jk CX0 P w K mg base N qual (ac st) f cdv A outer s H E).nox (aT st) t/\t {nx:=fun _ H'=>Q .non H',rt:=Q} (dB N vs) H):FnOk P w K mg base CX0 (k+1) f fd ps sp:=by
 obtain ⟨oc,od,kV,doc,pm,an,cdv,ct,osl,rfl,lk,hcd⟩:=F.ex
 refine za lk hcd S len fun A outer s H vs Q E hr hsp=>?_
 obtain ⟨t,h,q⟩:=hbody cdv A outer s H vs Q E hr hsp
 exact ⟨t,h.nox,q⟩
def Fun.binds {x qual:Str} {st:Stmt} {f:Addr} {fd:FuncData} {ps:List Str} (F:Fun K x qual st f fd)
  (h:∀ (kV doc pm:Value) (an:Option Addr) (cdv ct:Value) (us:List Value),us.length=ps.length->bindArgs (PySem.W.fnOf x qual (bh st) (aT st) (ac st) .none kV doc pm an cdv ct) ⟨us,[]⟩=pure (ps.zip us)):Binds K fd ps []:=by
 obtain ⟨oc,od,kV,doc,pm,an,cdv,ct,osl,rfl,lk,hcd⟩:=F.ex
 exact .all (h kV doc pm an cdv ct)
def dj {x qual:Str} {st:Stmt} {f:Addr} {oc:Value} {od an:Option Addr} {osl:Array (Option Value)} {kV doc pm cdv ct:Value} (l:K.lookup f=some ⟨oc,od,.func (PySem.W.fnOf x qual (bh st) (aT st) (ac st) .none kV doc pm an cdv ct),osl⟩)
  (c:PySem.W.codeIn K cdv qual=true) (k:PySem.W.keepIn K (.ref f)=true):Fun K x qual st f (PySem.W.fnOf x qual (bh st) (aT st) (ac st) .none kV doc pm an cdv ct):=⟨⟨oc,od,kV,doc,pm,an,cdv,ct,osl,rfl,l,c⟩,k⟩
end
def jK {A:Around} {k:Nat} (hr:Room k A):A.units+1<cLine:=Nat.lt_of_le_of_lt (Nat.add_le_add_left (by decide:1<=64) _) hr.units
section
variable {X:Cx}
end
def Same (H H':Hp):Prop:=∀ b o,H b=some o->H' b=some o
def Same.refl (H:Hp):Same H H:=fun _ _ h=>h
def Same.trans {H H1 H2:Hp} (a:Same H H1) (b:Same H1 H2):Same H H2:=fun c o h=>b c o (a c o h)
def Same.free {H H':Hp} (e:Same H H') {l:Addr} (h:H' l=Option.none):H l=Option.none:=by
 cases q:H l with
 | none=>rfl
 | some o =>
  rw [e l o q] at h
  cases h
def Same.seq {K:PySem.W.Frag} {H H':Hp} {a:Addr} {xs:List V} (e:Same H H') (h:SqL K H a xs):SqL K H' a xs:=by
 rcases h with (h | ⟨o,h⟩) | h
 · exact .inl (.inl (e _ _ h))
 · exact .inl (.inr ⟨o,e _ _ h⟩)
 · exact .inr h
section
variable {κ:Type} [DecidableEq κ]
def uV {kvs:List (κ×V)} {k:κ} {v:V} (h:dU kvs k=some v):k∈kvs.map (·.1):=by
 have q:(kvs.any fun kv=>decide (kv.1=k))=true:=by
  rw [dL,h]
  all_goals rfl
 obtain ⟨p,hp,e⟩:=List.any_eq_true.mp q
 exact List.mem_map.mpr ⟨p,hp,of_decide_eq_true e⟩
end
set_option maxRecDepth 100000
set_option maxHeartbeats 4000000
def mK (names:List (Str×NameKind)) (cells:List (Str×Addr)):List (Str×Addr):=
 names.foldl (fun cs nk=>if nk.2==NameKind.free then (nk.1,(cells.lookup nk.1).getD 0)::cs else cs) []
def pi {cells:List (Str×Addr)} {env:Env} (hc:env.cells=cells):∀ (names:List (Str×NameKind)) (acc:List (Str×Addr)),(∀ x∈names,x.2=.free->∃ c,cells.lookup x.1=some c)→
  (forIn names acc (fun (x:Str×NameKind) (r:List (Str×Addr))=>if (x.2==NameKind.free)=true then (do let c <- cellOf env x.1;pure (ForInStep.yield ((x.1,c)::r))) else (pure (ForInStep.yield r):Sem _)))
   = (pure (names.foldl (fun cs nk=>if nk.2==NameKind.free then (nk.1,(cells.lookup nk.1).getD 0)::cs else cs) acc):Sem (List (Str×Addr)))
 | [],acc,_=>rfl
 | x::r,acc,h=>by
  have ih:=fun acc=>pi hc r acc fun y hy=>h y (List.mem_cons_of_mem _ hy)
  simp only [List.forIn_cons,List.foldl_cons]
  cases e:(x.2==NameKind.free) with
  | false =>
   simp only [Bool.false_eq_true,if_false]
   exact ih acc
  | true =>
   obtain ⟨c,hcx⟩:=h x List.mem_cons_self (by simpa using e)
   have hcell:cellOf env x.1=pure c:=by unfold cellOf;rw [hc,hcx]
   simp only [if_true,hcell,hcx,Option.getD_some]
   exact ih _
def jL {scope:Scope} {env:Env} (h:∀ x∈scope.names,x.2=.free->∃ c,env.cells.lookup x.1=some c):closureFor scope env=pure (mK scope.names env.cells):=by
 have:=pi (env:=env) rfl scope.names [] h
 unfold closureFor mK
 rw [<- this]
 simp only [bind_pure]
def kB {cells:List (Str×Addr)}:∀ {names:List (Str×NameKind)} {acc:List (Str×Addr)} {x:Str} {c:Addr},(∀ y∈names,y.2=.free->∃ c,cells.lookup y.1=some c)→
  (names.foldl (fun cs nk=>if nk.2==NameKind.free then (nk.1,(cells.lookup nk.1).getD 0)::cs else cs) acc).lookup x=some c->(∀ c,acc.lookup x=some c->cells.lookup x=some c)->cells.lookup x=some c
 | [],acc,x,c,_,h,ha=>ha c h
 | y::r,acc,x,c,hy,h,ha=>by
  simp only [List.foldl_cons] at h
  refine kB (fun z hz=>hy z (List.mem_cons_of_mem _ hz)) h ?_
  intro c' h'
  split at h'
  · rename_i hf
    obtain ⟨c0,e0⟩:=hy y List.mem_cons_self (by simpa using hf)
    rw [List.lookup_cons] at h'
    split at h'
    · rename_i hx
      have hx':x=y.1:=by simpa using hx
      rw [e0] at h'
      subst hx'
      rw [e0]
      simpa using h'
    · exact ha c' h'
  · exact ha c' h'
def fP {names:List (Str×NameKind)} {cells:List (Str×Addr)} {x:Str} {c:Addr} (hy:∀ y∈names,y.2=.free->∃ c,cells.lookup y.1=some c) (h:(mK names cells).lookup x=some c):cells.lookup x=some c:=
 kB hy h fun c h=>by simp at h
def kE {cells:List (Str×Addr)}:∀ {names:List (Str×NameKind)} {acc:List (Str×Addr)} {x:Str},((x,NameKind.free)∈names∨(acc.lookup x).isSome)→
  ((names.foldl (fun cs nk=>if nk.2==NameKind.free then (nk.1,(cells.lookup nk.1).getD 0)::cs else cs) acc).lookup x).isSome
 | [],acc,x,h=>by simpa using h
 | y::r,acc,x,h=>by
  simp only [List.foldl_cons]
  refine kE ?_
  rcases h with h | h
  · rcases List.mem_cons.mp h with e | h
    · subst e
      right
      simp [List.lookup_cons]
    · exact .inl h
  · right
    split
    · rw [List.lookup_cons]
      split
      · rfl
      · exact h
    · exact h
def mL {names:List (Str×NameKind)} {cells:List (Str×Addr)} {x:Str} (h:(x,NameKind.free)∈names):∃ c,(mK names cells).lookup x=some c:=
 Option.isSome_iff_exists.mp (kE (.inl h))
structure CmpScope (N:List Str) (outer scope:Scope) (M:List Str) (src:List (Option Nat)):Prop where
 kind:scope.kind=.function
 nocell:∀ y∈scope.names,y.2≠.cell
 free:∀ y∈scope.names,y.2=.free->outer.names.lookup y.1=some .cell∨outer.names.lookup y.1=some .free
 names:∀ y∈scope.names,y.2=.local->scope.names.lookup y.1=some .local
 lf:∀ y∈scope.names,y.2=.free->scope.names.lookup y.1=some .free
 len:M.length=src.length
 nd:M.Nodup
 src:∀ p∈M.zip src,∀ j∈p.2,N[j]?=some p.1/\(p.1,NameKind.free)∈scope.names
def stC (src:List (Option Nat)) (σ:St):St:=src.map fun o=>o.bind fun j=>(σ[j]?).join
noncomputable def cxC (X:Cx) (M:List Str) (scope:Scope) (C:Addr) (s:Shared) (H:Hp) (ex:List Addr):Cx:=
 {X with N:=M,s₀:=s,H₀:=H,env:=compEnvC scope (mK scope.names X.env.cells) C X.env,outer:=X.stack,ex:=ex,fn:=fun _=>false,pn:=[],xe:=fun _ _=>False}
noncomputable def PTs (X:Cx) (ifs:List Expr) (t:TT):Prop:=
 ∀ (pins:List (Addr×Obj)) (s:Shared) (σ:St) (H:Hp) (Q:Bool->Hp->Prop),Inv X pins σ H s->t σ H Q→
  wpAny (model X.prog X.w) X.A (forIn ifs true fun c r=>if r=true then do let ok <- isTrue c X.env (eval c X.env);pure (ForInStep.yield ok) else pure (ForInStep.yield r)) (TP X pins σ Q) X.xe s
def tYes:TT:=fun _ H Q=>Q true H
def uW {X:Cx}:PTs X [] tYes:=fun pins s σ H Q I h=>wpAny_tests_nil ⟨H,I,h⟩
def Wk (a b:St):Prop:=a.length=b.length/\∀ (i:Nat) v,a[i]?=some (some v)->b[i]?=some (some v)
noncomputable def kF (src:List (Option Nat)) (wi:TI) (g:TG) (tt:TT) (te:TE):TE:=fun σ H Q=>wi σ H fun J H1=>∀ D,H1 D=none->∃ W:Nat->Nat->Hp->Prop,(∃ m,W 0 m (upd H1 D (.lst [])))/\∀ i m H,W i m H→
 (J.stop i H/\Q (.ref D) H)∨(J.go i H/\∃ N:Hp->Prop,(∀ H',N H'->∃ m',m'<m/\W (i+1) m' H')/\∀ x H',J.yld i H x H'→
  g x (stC src σ) H' fun σ2 H2=>Wk (stC src σ) σ2/\tt σ2 H2 fun b H3=>if b=true then te σ2 H3 fun v H4=>∃ ys,H4 D=some (.lst ys)/\ys.length<sizeLine/\N (upd H4 D (.lst (ys++[v]))) else N H3)
def hV {prog:Program} {w:World} {A:Around} {R:Result->Shared->Prop} {s:Shared} {elt target iter:Expr} {ifs:List Expr} {scope:Scope} {pos:Pos} {it acc:Value} {env:Env} (I:Nat->Shared->Prop)
  (turn:∀ n s,I n s->wpAny (model prog w) A (pyNext it) (fun r s₁=>match r with
   | none=>R (.ok .next) s₁
   | some v=>wpAny (model prog w) A (letOwnedTupleGo target it v) (fun _ s₁'=>wpAny (model prog w) A (assign target env v) (fun _ s₂ =>
       wpAny (model prog w) A (forIn ifs true fun c r=>if r=true then do let ok <- isTrue c env (eval c env);pure (ForInStep.yield ok) else pure (ForInStep.yield r)) (fun ok s₃ =>
        if ok=true then wpAny (model prog w) A (eval elt env) (fun x s₄ =>
         wpAny (model prog w) A (call (.builtin "list.append") [acc,x]) (fun _ s₅=>∃ m,m<n/\I m s₅) (fun _ _=>False) s₄) (fun _ _=>False) s₃
        else ∃ m,m<n/\I m s₃) (fun _ _=>False) s₂) (fun _ _=>False) s₁') (fun _ _=>False) s₁) (fun _ _=>False) s)
  (n:Nat) (h:I n s) :
  codeAny (model prog w) A (.compLoop (.ListComp elt [⟨target,iter,ifs,0⟩] scope pos) 0 it acc env) R s:=by
 refine codeAny_loop rfl I (fun n s hI=>?_) n h
 show wpAny _ A ((compTurn (.ListComp elt [⟨target,iter,ifs,0⟩] scope pos) 0 it acc env).onRaise (fun x=>do noteFrame x env;theTreesLotGoes x)) _ _ s
 refine wpAny_noted ?_
 rw [compTurn_list]
 refine wB (wpAny_standAt (wB (wpAny_mono (turn n s hI) (fun r s₁ h₁=>?_) fun _ _ h'=>h'.elim)))
 cases r with
 | none=>exact wpAny_pure h₁
 | some v =>
  refine wB (wpAny_mono h₁ (fun _ s₁' h₁'=>?_) fun _ _ h'=>h'.elim)
  refine wB (wpAny_mono h₁' (fun _ s₂ h₂=>wB (wpAny_mono h₂ (fun ok s₃ h₃=>?_) fun _ _ h'=>h'.elim)) fun _ _ h'=>h'.elim)
  cases ok with
  | false=>exact wpAny_pure ⟨rfl,h₃⟩
  | true =>
   exact wB (wB (wpAny_mono h₃ (fun x s₄ h₄=>wB (wpAny_mono h₄ (fun _ s₅ h₅=>wpAny_pure (wpAny_pure ⟨rfl,h₅⟩)) fun _ _ h'=>h'.elim)) fun _ _ h'=>h'.elim))
section
variable {X:Cx} {elt tg iter:Expr} {ifs:List Expr} {scope:Scope} {pos:Pos} {M:List Str} {src:List (Option Nat)} {wi:TI} {g:TG} {tt:TT} {te:TE}
def lH {env:Env} {scope:Scope} {x:Str} (hn:∀ y∈scope.names,y.2≠.cell) (h:(relabel scope env).names.lookup x=some .cell∨(relabel scope env).names.lookup x=some .free):(x,NameKind.free)∈scope.names:=by
 have key:∀ k,(relabel scope env).names.lookup x=some k->(k=.cell∨k=.free)->(x,NameKind.free)∈scope.names:=by
  intro k hk hkk
  have hm:=PySem.mem_of_lookup hk
  unfold relabel at hm
  obtain ⟨⟨n,k0⟩,hy,e⟩:=List.mem_map.mp hm
  dsimp only at e
  split at e
  · rename_i hc
    simp only [Bool.and_eq_true] at hc
    have:k0=.free:=by simpa using hc.1.1
    subst this
    cases e
    exact hy
  · cases e
    rcases hkk with z | z
    · subst z;exact absurd rfl (hn _ hy)
    · subst z;exact hy
 rcases h with h | h
 · exact key _ h (.inl rfl)
 · exact key _ h (.inr rfl)
def mM {pins:List (Addr×Obj)} {σ:St} {H:Hp} {s s1:Shared} {fp:List Addr} {m1:Str->Option Value} (S:CmpScope X.N X.env.scope scope M src) (I:Inv X pins σ H s) (hf:∀ b∈fp,gG X pins H b)
  (hfl:∀ b∈fp,b<s.heap.objs.size) (hn:s1.heap.Ns s.heap.objs.size m1) (hk:∀ b o,s.heap.get? b=some o->s1.heap.get? b=some o) (hos:s1.os=s.os) (hg:s1.gens=s.gens) :
  Inv (cxC X M scope s.heap.objs.size s H fp) [] (stC src σ) H s1:=by
 have hcells:∀ x∈scope.names,x.2=.free->∃ c,X.env.cells.lookup x.1=some c:=fun x hx hfr=>I.ok.has x.1 (S.free x hx hfr)
 have sub:∀ x c,(mK scope.names X.env.cells).lookup x=some c->X.env.cells.lookup x=some c:=fun x c h=>fP hcells h
 have cellK:∀ c v,s.heap.IsCell c v->s1.heap.IsCell c v:=fun c v ⟨o,ho,hd⟩=>⟨o,hk c o ho,hd⟩
 refine ⟨⟨I.ok.mod,S.kind,I.ok.glob,I.ok.blt,nL _,fun y z c h1 h2=>I.ok.inj y z c (sub _ _ h1) (sub _ _ h2),fun x hx=>mL (lH S.nocell hx),fun x c h=>(nomatch h),I.ok.hd,I.ok.frames,.inl rfl,
  fun b hb=>⟨Nat.ne_of_lt (hfl b hb),fun x c h=>(hf b hb).2.2.2.2.1 x c (sub _ _ h)⟩,I.bs,Nat.le_trans I.ok.bsz I.sz,fun b o e hb=>?_,fun b hb z=>?_,I.stack,I.stkFree⟩,
  hos,(by rw [hg];exact I.bare),Un.kept hk,⟨m1,hn,fun i x v h1 h2 h3=>?_⟩,fun x c h=>?_,I.hok.fresh (Nat.le_refl _),fun x c h=>I.freeC x c (sub _ _ h),fun p hp=>absurd hp (by simp [cxC]),I.hok.kept hk,?_⟩
 · rcases (hf b hb).2.2.2.1 with z | z
   · exact I.ok.noex b o e z
   · exact absurd (Nat.lt_of_lt_of_le (Heap.lt_size e) (Nat.le_trans I.ok.bsz z)) (Nat.lt_irrefl _)
 · rcases List.mem_cons.mp (I.stkSub b z) with q | q
   · exact (hf b hb).2.1 q
   · exact (hf b hb).2.2.1 q
 · -- a name taken over
   have h1:M[i]?=some x:=h1
   unfold stC at h2
   rw [List.getElem?_map] at h2
   cases hs:src[i]? with
   | none=>rw [hs] at h2;cases h2
   | some o =>
    rw [hs] at h2
    simp only [Option.map_some,Option.some.injEq] at h2
    cases o with
    | none=>cases h2
    | some j =>
     simp only [Option.bind_some] at h2
     have hmem:(x,some j)∈M.zip src:=by
      have:(M.zip src)[i]?=some (x,some j):=by rw [List.getElem?_zip_eq_some];exact ⟨h1,hs⟩
      exact List.mem_of_getElem? this
     obtain ⟨hN,hfr⟩:=S.src _ hmem j rfl
     have hσ:σ[j]?=some (some v):=by
      cases e:σ[j]? with
      | none=>rw [e] at h2;cases h2
      | some o=>rw [e] at h2;simp only [Option.join_some] at h2;rw [h2]
     have hkind:=S.free _ hfr rfl
     obtain ⟨m,hm,hl⟩:=I.loc
     obtain ⟨u,r,l⟩:=hl j x v hN hσ (.inr hkind)
     refine ⟨u,r,?_⟩
     have hloc:X.env.kindOf x≠some .local:=by
      show X.env.scope.names.lookup x≠_
      rcases hkind with q | q<;>rw [q]<;>decide
     rcases l with l | ⟨_,c,e,z⟩
     · exact absurd l.1 hloc
     · obtain ⟨c',e'⟩:=mL (cells:=X.env.cells) hfr
       have:=sub _ _ e'
       rw [e] at this
       cases this
       refine .inr ⟨?_,c,e',cellK _ _ z⟩
       rcases h3 with q | q
       · exact absurd q (by
          -- a name that is free in the block is not local there
          exact (by
           intro q
           have:scope.names.lookup x=some .local:=by
            have hb:∀ (names:List (Str×NameKind)),(names.map fun (n,k)=>if (k==NameKind.free&&X.env.scope.kind==.function&&X.env.kindOf n==some .cell) then (n,NameKind.cell) else (n,k)).lookup x=some .local->names.lookup x=some .local:=by
             intro names
             induction names with
             | nil=>intro h;simp at h
             | cons y r ih =>
              obtain ⟨n,k⟩:=y
              intro h
              simp only [List.map_cons] at h
              by_cases hx:x=n
              · subst hx
                split at h
                · simp [List.lookup_cons] at h
                · simpa [List.lookup_cons] using h
              · have hx':(x==n)=false:=by simpa using hx
                split at h
                · simp only [List.lookup_cons,hx'] at h ⊢;exact ih h
                · simp only [List.lookup_cons,hx'] at h ⊢;exact ih h
            exact hb _ q
           rw [S.lf _ hfr rfl] at this
           cases this))
       · exact q
 · obtain ⟨v,z⟩:=I.cell x c (sub _ _ h)
   exact ⟨v,cellK _ _ z⟩
 · show (stC src σ).length=M.length
   unfold stC
   rw [List.length_map,S.len]
def mN (S:CmpScope X.N X.env.scope scope M src) (hc:X.calm=true) (hi:PI X tg iter wi) (hg:M.Nodup->∀ C s H ex,PG (cxC X M scope C s H ex) tg g) (ht:∀ C s H ex,PTs (cxC X M scope C s H ex) ifs tt)
  (he:∀ C s H ex,PE (cxC X M scope C s H ex) elt te) (hs:∀ x,foldedSetIterable iter X.env x=pure x:=by intro _;rfl) :
  PE X (.ListComp elt [⟨tg,iter,ifs,0⟩] scope pos) (kF src wi g tt te):=by
 intro pins s σ H Q I h
 rw [eval_ListComp]
 have hcells:∀ x∈scope.names,x.2=.free->∃ c,X.env.cells.lookup x.1=some c:=fun x hx hfr=>I.ok.has x.1 (S.free x hx hfr)
 refine wpAny_comprehension_free (use:=none) rfl hs (jL hcells) S.kind S.names (thn (hi pins s σ H _ I h) fun v s1 h1=>thn h1 fun itv s2 h2=>?_)
 obtain ⟨it,fp,tn,J,H2,rfl,I2,T,st2,f2,hq⟩:=h2
 refine wpAny_newObj_type ?_
 have I3:Inv X pins σ (upd H2 s2.heap.objs.size (.lst [])) {s2 with heap:=s2.heap.push {cls:=.type "list",dict:=none,data:=.seq ([]:List Value).toArray},toks:=s2.toks}:=I2.lnew (its:=[]) (ys:=[]) (t':=s2.toks) .nil (by simp)
 have hD:H2 s2.heap.objs.size=none:=I2.fresh
 obtain ⟨W,⟨m0,w0⟩,turn⟩:=hq _ hD
 generalize hDn:s2.heap.objs.size=D at*
 generalize hs3:({s2 with heap:=s2.heap.push {cls:=.type "list",dict:=none,data:=.seq ([]:List Value).toArray},toks:=s2.toks}:Shared)=s3 at*
 have f3:∀ b∈fp,gG X pins (upd H2 D (.lst [])) b:=fun b hb=>⟨by
  obtain ⟨o,e,_⟩:=T.obj _ _ st2 b hb
  rw [aF (by rw [<- hDn];exact Nat.ne_of_lt (Heap.lt_size e))]
  exact (f2 b hb).1,(f2 b hb).2⟩
 have k23:∀ b o,s2.heap.get? b=some o->s3.heap.get? b=some o:=fun b o e=>by rw [<- hs3];exact gP _ e
 have st3:tn 0 s3.heap:=T.keep _ _ _ st2 fun b _ o e=>k23 b o e
 have fl3:∀ b∈fp,b<s3.heap.objs.size:=fun b hb=>by
  obtain ⟨o,e,_⟩:=T.obj _ _ st3 b hb
  exact Heap.lt_size e
 refine wpAny_newFunctionEnv S.nocell (by intro y hy;simp at hy) (fun h₁ hns₁ hsb₁=>?_) S.kind
 have k34:∀ b o,s3.heap.get? b=some o->h₁.get? b=some o:=fun b o e=>hsb₁.extBut b o (Nat.ne_of_lt (Heap.lt_size e)) (gP _ e)
 generalize hs4:({s3 with heap:=h₁,toks:=s3.toks+([]:List (Str×Value)).length}:Shared)=s4
 have I4:Inv (cxC X M scope s3.heap.objs.size s3 (upd H2 D (.lst [])) fp) [] (stC src σ) (upd H2 D (.lst [])) s4:=by
  rw [<- hs4]
  exact mM S I3 f3 fl3 hns₁ k34 rfl rfl
 have st4:tn 0 s4.heap:=T.keep _ _ _ st3 fun b _ o e=>by rw [<- hs4];exact k34 b o e
 generalize hX':cxC X M scope s3.heap.objs.size s3 (upd H2 D (.lst [])) fp=X' at*
 have hg':PG X' tg g:=by rw [<- hX'];exact hg S.nd _ _ _ _
 have ht':PTs X' ifs tt:=by rw [<- hX'];exact ht _ _ _ _
 have he':PE X' elt te:=by rw [<- hX'];exact he _ _ _ _
 have eP:X'.prog=X.prog:=by rw [<- hX'];rfl
 have eW:X'.w=X.w:=by rw [<- hX'];rfl
 have eK:X'.K=X.K:=by rw [<- hX'];rfl
 have eA:X'.A=X.A:=by rw [<- hX'];rfl
 have ex':X'.xe=fun _ _=>False:=by rw [<- hX'];rfl
 have ec:X'.calm=true:=by rw [<- hX'];exact hc
 have eE:X'.env=compEnvC scope (mK scope.names X.env.cells) s3.heap.objs.size X.env:=by rw [<- hX'];rfl
 have stat:∀ {H':Hp},(∀ b∈fp,H' b=none)->∀ b∈fp,gG X' [] H' b:=fun hn b hb=>by
  rw [<- hX']
  refine ⟨hn b hb,Nat.ne_of_lt (fl3 b hb),fun z=>?_,.inl hb,fun x c h=>(f3 b hb).2.2.2.2.1 x c (fP hcells h),fun p hp=>absurd hp (by simp [cxC])⟩
  rcases List.mem_cons.mp (I3.stkSub b z) with q | q
  · exact (f3 b hb).2.1 q
  · exact (f3 b hb).2.2.1 q
 -- behind the block
 have fin:∀ (H':Hp) (s':Shared),Inv X' [] (stC src σ) H' s'->Q (.ref D) H'->compPost (model X.prog X.w) X.A X.xe none (EP X pins σ Q) (.ref D) s3.heap.objs.size (.ok .next) s':=by
  intro H' s' J' q
  rw [<- hX'] at J'
  obtain ⟨m,hn,_⟩:=id J'.loc
  refine ⟨m,hn,fun h' sb=>⟨.ref D,H',?_,rfl,q⟩⟩
  have hC:H' s3.heap.objs.size=none:=J'.free
  have un:Un (frs X.stack) fp (upd H2 D (.lst [])) H' s3.heap s'.heap:=J'.base
  have kC:∀ b o,b≠s3.heap.objs.size->s'.heap.get? b=some o->h'.get? b=some o:=fun b o hb e=>sb.extBut b o hb e
  have un':Un (frs X.stack) fp (upd H2 D (.lst [])) H' s3.heap h':=
   ⟨fun b o e n hb hx=>kC b o (Nat.ne_of_lt (Heap.lt_size e)) (un.keep b o e n hb hx),
    fun b o e n hb hx=>by
     obtain ⟨sl,e'⟩:=un.slot b o e n hb hx
     exact ⟨sl,kC b _ (Nat.ne_of_lt (Heap.lt_size e)) e'⟩,
    un.free,
    fun b o e hx=>by
     obtain ⟨o',e'⟩:=un.there b o e hx
     exact ⟨o',kC b _ (Nat.ne_of_lt (Heap.lt_size e)) e'⟩,un.tups,un.frzs,un.tbls⟩
  have hok':HOk X.prog X.w H' h':=fun b u e=>by
   have nb:b≠s3.heap.objs.size:=fun z=>by rw [z,hC] at e;cases e
   refine (J'.hok b u e).stay (fun c v hc' q=>kC c v ?_ q) (fun _ q=>q) fun _ _ q=>q
   rcases hc' with z | z
   · rw [z];exact nb
   · intro w;rw [w,hC] at z;cases z
  exact I3.call' (s':={s' with heap:=h'}) (show s'.os=s3.os from J'.os) un' hok' J'.bare fun b hb=>⟨(f3 b hb).2.2.2.1,(f3 b hb).2.1,(f3 b hb).2.2.2.2.1,(f3 b hb).2.2.2.2.2⟩
 have loop:∀ s4':Shared,s4'=s4->codeAny (model X.prog X.w) X.A (.compLoop (.ListComp elt [⟨tg,iter,ifs,0⟩] scope pos) 0 (.ref it) (.ref D) X'.env) (compPost (model X.prog X.w) X.A X.xe none (EP X pins σ Q) (.ref D) s3.heap.objs.size) s4':=by
  rintro _ rfl
  refine hV (fun n s'=>∃ i H',Inv X' [] (stC src σ) H' s'/\tn i s'.heap/\(∀ b∈fp,H' b=none)/\W i n H') ?_ m0 ⟨0,_,I4,st4,fun b hb=>(f3 b hb).1,w0⟩
  rintro n s5 ⟨i,H5,I5,st5,fr5,w5⟩
  rcases turn i n H5 w5 with ⟨stop,qn⟩ | ⟨go,N,hN,step⟩
  · have:=T.done X' eP eW eK ec i [] s5 (stC src σ) H5 (fun _ _=>False) I5 (stat fr5) st5 stop
    rw [eA] at this
    refine thn this fun r s6 ⟨hr,I6⟩=>?_
    subst hr
    exact fin H5 s6 I6 qn
  · have:=T.item X' eP eW eK ec i [] s5 (stC src σ) H5 (fun _ _=>False) I5 (stat fr5) st5 go
    rw [eA] at this
    refine thn this fun r s6 ⟨u,hr,h6⟩=>?_
    subst hr
    refine thn h6 fun _ s7 ⟨x,H7,I7,r7,y7,st7,fr7⟩=>?_
    have I7':=I7.pinned (stat fr7) (T.obj _ _ st7)
    have a1:=hg' _ s7 (stC src σ) H7 x u _ I7' r7 (step x H7 y7)
    rw [ex',eP,eW,eA] at a1
    refine thn a1 fun _ s8 ⟨σ8,H8,I8,wk8,q8⟩=>?_
    have a2:=ht' _ s8 σ8 H8 _ I8 q8
    rw [ex',eP,eW,eA] at a2
    refine thn a2 fun ok s9 ⟨H9,I9,q9⟩=>?_
    have again:∀ {H7':Hp} {s':Shared},Inv X' ([]++iH fp s7.heap) σ8 H7' s'->N H7'->∃ m,m<n/\∃ i H',Inv X' [] (stC src σ) H' s'/\tn i s'.heap/\(∀ b∈fp,H' b=none)/\W i m H':=fun {H7' s'} J7 n7=>by
     obtain ⟨m',hm,w7⟩:=hN H7' n7
     refine ⟨m',hm,i+1,H7',J7.unpinned.weak wk8.1 wk8.2,T.keep _ _ _ st7 fun b hb o e=>(J7.pin (b,o) (List.mem_append_right _ (List.mem_append_right _ (di hb e)))).1,fun b hb=>?_,w7⟩
     obtain ⟨o,e,d⟩:=T.obj _ _ st7 b hb
     exact (J7.pin (b,o) (List.mem_append_right _ (List.mem_append_right _ (di hb e)))).2.1
    cases ok with
    | false=>exact again I9 q9
    | true =>
     have a3:=he' _ s9 σ8 H9 _ I9 q9
     rw [ex',eP,eW,eA] at a3
     refine thn a3 fun v s10 ⟨y,H10,I10,r10,ys,hl,hz,q10⟩=>?_
     have a4:=gf (X:=X') _ s10 σ8 H10 (.ref D) [y] (.ref D) [v] (fun _ H'=>N H') I10 rfl (.cons r10 .nil) ⟨D,ys,y,rfl,rfl,hl,hz,q10⟩
     rw [ex',eP,eW,eA] at a4
     refine thn a4 fun _ s11 ⟨_,H11,I11,_,q11⟩=>?_
     exact again I11 q11
 have e4:∀ c:Env,c=X'.env->codeAny (model X.prog X.w) X.A (.compStart (.ListComp elt [⟨tg,iter,ifs,0⟩] scope pos) 0 (.ref it) (.ref D) c) (compPost (model X.prog X.w) X.A X.xe none (EP X pins σ Q) (.ref D) s3.heap.objs.size) s4:=by
  rintro _ rfl
  exact codeAny_compStart_list (loop _ rfl) (T.self _ _ _ _ _ st4 (loop _ rfl))
 exact e4 _ (by rw [eE];rfl)
end
def Its (x:Str):It:=⟨fun i _=>i<x.cps.size,fun i H v H'=>H'=H/\∃ c,x.cps[i]?=some c/\v=.str ⟨#[c]⟩,fun i _=>i=x.cps.size⟩
def qI {P:Program} {w:World} {K:PySem.W.Frag} {tg:Expr} (x:Str) (t:Tok) (it:Addr):Turn P w K tg (Its x) [it] it (fun i h=>h.IsStrIter it "str_ascii_iterator" x t i) where
 mem:=by simp
 obj:=fun i h st b hb=>by
  have e:b=it:=by simpa using hb
  subst e
  obtain ⟨o,e,c,d⟩:=st
  exact ⟨o,e,fun v z=>by rw [d] at z;cases z⟩
 keep:=fun i h h' st k=>let ⟨o,ho,r⟩:=st;⟨o,k it (by simp) o ho,r⟩
 item:=by
  intro X hP hw hK hc i pins s σ H E I hf st hg
  subst hP hw hK
  obtain ⟨f0,f1,f2,f3,f4,f5⟩:=hf it (by simp)
  have hg:i<x.cps.size:=hg
  refine wpAny_pyNext_ascii_item st (c:=x.cps[i]) (by simp [hg]) fun h' st' sb=>?_
  have I1:Inv X pins σ H {s with heap:=h',toks:=s.toks+1}:=I.turned (t':=s.toks+1) (fun b o hb e=>(sb.2 b hb).trans e) f0 f1 f3 f4 f5
  obtain ⟨o,e,c,d⟩:=id st'
  exact ⟨_,rfl,jE (s:={s with heap:=h',toks:=s.toks+1}) e c d (by decide) ⟨.str ⟨#[x.cps[i]]⟩,H,I1,⟨_,rfl⟩,⟨rfl,x.cps[i],by simp [hg],rfl⟩,st',fun b hb=>(hf b hb).1⟩⟩
 done:=by
  intro X hP hw hK hc i pins s σ H E I hf st hg
  subst hP hw hK
  have hg:i=x.cps.size:=hg
  obtain ⟨f0,f1,f2,f3,f4,f5⟩:=hf it (by simp)
  exact wpAny_pyNext_ascii_end (I.ok.hd hc) st (by simp [hg]) fun h' eb=>⟨rfl,I.turned (t':=s.toks) (fun b o hb e=>eb b o hb e) f0 f1 f3 f4 f5⟩
 self:=fun _ _ _ _ _ st h=>wpAny_pyIter_striter_ascii st h
def qJ {P:Program} {w:World} {K:PySem.W.Frag} {tg:Expr} (x:Str) (t:Tok) (it:Addr):Turn P w K tg (Its x) [it] it (fun i h=>h.IsStrIter it "str_iterator" x t i) where
 mem:=by simp
 obj:=fun i h st b hb=>by
  have e:b=it:=by simpa using hb
  subst e
  obtain ⟨o,e,c,d⟩:=st
  exact ⟨o,e,fun v z=>by rw [d] at z;cases z⟩
 keep:=fun i h h' st k=>let ⟨o,ho,r⟩:=st;⟨o,k it (by simp) o ho,r⟩
 item:=by
  intro X hP hw hK hc i pins s σ H E I hf st hg
  subst hP hw hK
  obtain ⟨f0,f1,f2,f3,f4,f5⟩:=hf it (by simp)
  have hg:i<x.cps.size:=hg
  refine wpAny_pyNext_wide_item st (c:=x.cps[i]) (by simp [hg]) fun h' st' sb=>?_
  have I1:Inv X pins σ H {s with heap:=h',toks:=s.toks+1}:=I.turned (t':=s.toks+1) (fun b o hb e=>(sb.2 b hb).trans e) f0 f1 f3 f4 f5
  obtain ⟨o,e,c,d⟩:=id st'
  exact ⟨_,rfl,jE (s:={s with heap:=h',toks:=s.toks+1}) e c d (by decide) ⟨.str ⟨#[x.cps[i]]⟩,H,I1,⟨_,rfl⟩,⟨rfl,x.cps[i],by simp [hg],rfl⟩,st',fun b hb=>(hf b hb).1⟩⟩
 done:=by
  intro X hP hw hK hc i pins s σ H E I hf st hg
  subst hP hw hK
  have hg:i=x.cps.size:=hg
  obtain ⟨f0,f1,f2,f3,f4,f5⟩:=hf it (by simp)
  exact wpAny_pyNext_wide_end (I.ok.hd hc) st (by simp [hg]) fun h' eb=>⟨rfl,I.turned (t':=s.toks) (fun b o hb e=>eb b o hb e) f0 f1 f3 f4 f5⟩
 self:=fun _ _ _ _ _ st h=>wpAny_pyIter_striter_wide st h
section
variable {X:Cx} {tg:Expr}
def iStr (tl:TE):TI:=fun σ H R=>tl σ H fun v H1=>∃ x,v=.str x/\R (Its x) H1
def sn {l:Expr} {tl:TE} (hl:PE X l tl):PI X tg l (iStr tl):=by
 intro pins s σ H R I h
 refine thn (hl pins s σ H _ I h) fun v s1 ⟨y,H1,I1,r1,q1⟩=>?_
 obtain ⟨x,e,q⟩:=q1
 subst e
 obtain ⟨t,rfl⟩:=r1
 have fin:∀ b∈[s1.heap.objs.size],gG X pins H1 b:=fun b hb=>by
  have e:b=s1.heap.objs.size:=by simpa using hb
  subst e
  exact I1.fpOk (nL _) (I1.hok.fresh (nL _))
 cases ha:x.cps.all (· < 128)
 · refine wpAny_pyIter_wide ha ?_
   exact ⟨s1.heap.objs.size,[s1.heap.objs.size],_,_,H1,rfl,I1.kept (t':=s1.toks) fun b o e=>gP _ e,qJ x t _,⟨_,Heap.get?_push_size _ rfl,rfl,rfl⟩,fin,q⟩
 · refine wpAny_pyIter_ascii ha ?_
   exact ⟨s1.heap.objs.size,[s1.heap.objs.size],_,_,H1,rfl,I1.kept (t':=s1.toks) fun b o e=>gP _ e,qI x t _,⟨_,Heap.get?_push_size _ rfl,rfl,rfl⟩,fin,q⟩
def kG:∀ {ts:List Str} {us:List Value},Vals (ts.map V.str) us->∃ l,us=strValues l/\l.map (·.1)=ts
 | [],_,.nil=>⟨[],rfl,rfl⟩
 | x::r,_,.cons h t=>by
  obtain ⟨tk,rfl⟩:=h
  obtain ⟨l,e1,e2⟩:=kG t
  exact ⟨(x,tk)::l,by rw [e1];rfl,by rw [<- e2];rfl⟩
def uX:MtR X "str.join" (fun x vs H Q=>∃ (a:Str) (l:Addr) (ts:List Str),x=.str a/\vs=[.ref l]/\SqL X.K H l (ts.map V.str)/\JoinOk a ts=true/\Q (.str (Txt.join a ts)) H):=by
 intro pins s σ H x vs v us Q I rx rv h
 obtain ⟨a,l,ts,rfl,rfl,hq,hj,q⟩:=h
 obtain ⟨t,rfl⟩:=rx
 obtain ⟨u,rfl,ru⟩:=rv.one
 cases ru
 obtain ⟨its,r,p,hz⟩:=I.list hq
 obtain ⟨ls,rfl,e2⟩:=kG r
 exact SC.join p.isList e2 hj fun t' k=>⟨.str _,H,I.tok _,⟨_,rfl⟩,q⟩
def lI:CallR X (.type "int") (fun xs H Q=>∃ x n,xs=[.str x]/\PySem.intText? x=some n/\x.length<=640/\Q (.int n) H):=by
 intro pins s σ H xs us Q I r h
 obtain ⟨x,n,rfl,hn,hl,q⟩:=h
 obtain ⟨u,rfl,ru⟩:=iZ r
 obtain ⟨t,rfl⟩:=ru
 exact PySem.W.KIN.call_text hn hl ⟨.int n,H,I.tok _,⟨_,rfl⟩,q⟩
def cH {v:Value} {o:Option Int} (h:IsPart v o):∃ p:Option (Int×Tok),v=partValue p/\o=p.map (·.1):=by
 cases o with
 | none=>exact ⟨none,by cases h<;>rfl,rfl⟩
 | some i =>
  cases h
  exact ⟨some (i,_),rfl,rfl⟩
def rSlS:V->Option Int->Option Int->Hp->VK->Prop:=fun x lo hi H Q=>∃ z,x=.str z/\z.length<=sizeLine/\Q (.str (Txt.slice z lo hi)) H
def xQ:SlR X rSlS:=by
 intro pins s σ H x v vl vu lo hi sl Q I rx hs pl pu h
 obtain ⟨z,rfl,hz,q⟩:=h
 obtain ⟨t,rfl⟩:=rx
 obtain ⟨l,rfl,rfl⟩:=cH pl
 obtain ⟨u,rfl,rfl⟩:=cH pu
 refine ⟨"str",_,F.slot_str_getitem.lookup,typeIs_str _ _ _,?_⟩
 exact wpAny_getItem_str_slice (l:=l) (u:=u) (st:=none) hs rfl (post_val_or_str ⟨Nat.le_trans (Txt.slice_le z _ _) hz,fun t' k=>⟨.str _,H,I.tok _,⟨_,rfl⟩,q⟩⟩)
end
def bX:bootBuiltins "len"=some (.builtin "len"):=by first | exact PySem.boot_len | exact PyProof.Rows.boot_len | decide +kernel
def n5:bootBuiltins "min"=some (.builtin "min"):=by first | exact PySem.boot_min | exact PyProof.Rows.boot_min | decide +kernel
def xR:bootBuiltins "int"=some (.type "int"):=by first | exact PySem.boot_int | exact PyProof.Rows.boot_int | decide +kernel
def hW:bootBuiltins "tuple"=some (.type "tuple"):=by first | exact PySem.boot_tuple | exact PyProof.Rows.boot_tuple | decide +kernel
def lJ:bootBuiltins "list"=some (.type "list"):=by first | exact PySem.boot_list | exact PyProof.Rows.boot_list | decide +kernel
def pj:bootBuiltins "dict"=some (.type "dict"):=by first | exact PySem.boot_dict | exact PyProof.Rows.boot_dict | decide +kernel
def lK:bootBuiltins "enumerate"=some (.type "enumerate"):=by first | exact PySem.boot_enumerate | exact PyProof.Rows.boot_enumerate | decide +kernel
structure OkF (P:Program) (w:World) (K:PySem.W.Frag) (mg:Str->Option Value) (base:Heap) (x:Str) (k:Nat) (ps:List Str) (sp:Sp):Prop where
 ex:∃ f fd,mg x=some (.ref f)/\PySem.W.keepIn K (.ref f)=true/\Binds K fd ps []/\FnOk P w K mg base CX0 k f fd ps sp
structure DefF (K:PySem.W.Frag) (mg:Str->Option Value) (x:Str) (st:Stmt) (ps:List Str):Prop where
 ex:∃ f fd,mg x=some (.ref f)/\PySem.W.keepIn K (.ref f)=true/\Binds K fd ps []/\Fun K x x st f fd
section
variable {P:Program} {w:World} {K:PySem.W.Frag} {mg:Str->Option Value} {base:Heap}
def DefF.ok {x:Str} {st:Stmt} {N ps:List Str} {k:Nat} {sp:Sp} (F:DefF K mg x st ps) (S:FnScope N ps (ac st)) (len:∀ vs H Q E,sp vs H Q E->vs.length=ps.length)
  (hbody:∀ (f:Addr) (cdv:Value) (A:Around) (outer:List Env) (s:Shared) (H:Hp) (vs:List V) (Q:VK) (E:XK),Room k (A.deeper (envOfC x (ac st) s.heap.objs.size f cdv))->sp vs H Q E→
   ∃ t,PSs (jk CX0 P w K mg base N x (ac st) f cdv A outer s H E).nox (aT st) t/\t {nx:=fun _ H'=>Q .non H',rt:=Q} (dB N vs) H):OkF P w K mg base x (k+1) ps sp:=by
 obtain ⟨f,fd,h1,h2,h3,h4⟩:=F.ex
 exact ⟨f,fd,h1,h2,h3,h4.ok S len (hbody f)⟩
def DefF.mk' {x:Str} {st:Stmt} {ps:List Str} {f:Addr} {oc:Value} {od an:Option Addr} {osl:Array (Option Value)} {kV doc pm cdv ct:Value} {h:Heap} (X:K.In h) (G:h.Ns mainGlobals mg)
  (a:PySem.W.nsIn K mainGlobals x=some (some (.ref f)))
  (l:K.lookup f=some ⟨oc,od,.func (PySem.W.fnOf x x (bh st) (aT st) (ac st) .none kV doc pm an cdv ct),osl⟩) (c:PySem.W.codeIn K cdv x=true) (k:PySem.W.keepIn K (.ref f)=true)
  (hb:∀ (kV doc pm:Value) (an:Option Addr) (cdv ct:Value) (us:List Value),us.length=ps.length->bindArgs (PySem.W.fnOf x x (bh st) (aT st) (ac st) .none kV doc pm an cdv ct) ⟨us,[]⟩=pure (ps.zip us)):DefF K mg x st ps:=
 ⟨f,_,PySem.W.mg_of X G a,k,(dj l c k).binds hb,dj l c k⟩
end
section
variable {X:Cx} {k:Nat} {ps:List Str} {sp:Sp} {x:Str} {p pos:Pos} {e:Expr} {es:List Expr} {t:TA}
def sq (F:OkF X.prog X.w X.K X.mg X.base x k ps sp) (hr:Room k X.A) (hg:Gl X x) (ha:PA X (e::es) t) (hdb:(x==("__debug__":Str))=false:=by decide)
  (he:starEach (e::es) X.env=(false,eval e X.env)::starEach es X.env:=by rfl) (hpl:(backTo pos (starEach es X.env)).any (·.1)=false:=by rfl):PE X (.Call (.Name x p) (e::es) [] pos) (rQ sp [] E0 t):=by
 obtain ⟨f,fd,h1,h2,h3,h4⟩:=F.ex
 exact uL h4 hr hg h1 h2 h3 .nil pf ha hdb he hpl
end
noncomputable def wM (N:List Str) (outer scope:Scope) (M:List Str) (src:List (Option Nat)):Bool:=
 (match scope.kind with | .function=>true | _=>false)&&
 scope.names.all (fun y=>decide (y.2≠.cell))&&
 scope.names.all (fun y=>!decide (y.2=.free)||(decide (outer.names.lookup y.1=some .cell)||decide (outer.names.lookup y.1=some .free)))&&
 scope.names.all (fun y=>!decide (y.2=.local)||decide (scope.names.lookup y.1=some .local))&&
 scope.names.all (fun y=>!decide (y.2=.free)||decide (scope.names.lookup y.1=some .free))&&
 decide (M.length=src.length)&&decide M.Nodup&&
 (M.zip src).all (fun p=>match p.2 with | none=>true | some j=>decide (N[j]?=some p.1)&&decide ((p.1,NameKind.free)∈scope.names))
def CmpScope.of {N:List Str} {outer scope:Scope} {M:List Str} {src:List (Option Nat)} (h:wM N outer scope M src=true):CmpScope N outer scope M src:=by
 unfold wM at h
 simp only [Bool.and_eq_true,List.all_eq_true,Bool.or_eq_true,Bool.not_eq_true',decide_eq_true_eq,decide_eq_false_iff_not] at h
 obtain ⟨⟨⟨⟨⟨⟨⟨h1,h2⟩,h3⟩,h4⟩,h5⟩,h6⟩,h7⟩,h8⟩:=h
 refine ⟨?_,h2,fun y hy e=>(h3 y hy).resolve_left fun z=>z e,fun y hy e=>(h4 y hy).resolve_left fun z=>z e,fun y hy e=>(h5 y hy).resolve_left fun z=>z e,h6,h7,fun p hp j hj=>?_⟩
 · revert h1
   cases scope.kind<;>simp
 · have:=h8 p hp
   cases e:p.2 with
   | none=>rw [e] at hj;cases hj
   | some j' =>
    rw [e] at hj this
    cases hj
    simpa using this
def Plain (J:It) (xs:List V) (ok:Hp->Prop):Prop:=∀ i H,ok H->(i<xs.length->J.go i H)/\(i=xs.length->J.stop i H)/\∀ x H',i<xs.length->J.yld i H x H'->H'=H/\xs[i]?=some x
def plain_list {K:PySem.W.Frag} {a:Addr} {xs:List V}:Plain (Itl K a) xs (fun H=>SqL K H a xs):=fun i H h =>
 ⟨fun hi=>⟨xs,xs[i],h,by simp [hi]⟩,fun e=>⟨xs,h,by omega⟩,fun x H' _ y=>⟨y.1,y.2 xs h⟩⟩
def plain_tup {K:PySem.W.Frag} {a:Addr} {xs:List V}:Plain (Itt K a) xs (fun H=>SqT K H a xs):=fun i H h =>
 ⟨fun hi=>⟨xs,xs[i],h,by simp [hi]⟩,fun e=>⟨xs,h,by omega⟩,fun x H' _ y=>⟨y.1,y.2 xs h⟩⟩
def jM (lo:Int) (n:Nat):List V:=(List.range n).map fun (i:Nat)=>V.int (lo+i)
def plain_range {lo:Int} {n:Nat}:Plain (Itr lo n) (jM lo n) (fun _=>True):=fun i H h=>by
 refine ⟨fun hi=>?_,fun e=>?_,fun x H' hi y=>?_⟩
 · show i<n
   simpa [jM] using hi
 · show n<=i
   simp [jM] at e
   omega
 · obtain ⟨e,rfl⟩:=y
   refine ⟨e,?_⟩
   unfold jM at hi ⊢
   rw [List.length_map,List.length_range] at hi
   rw [List.getElem?_map,List.getElem?_range hi]
   rfl
def pk (x:Str):List V:=x.cps.toList.map fun c=>V.str ⟨#[c]⟩
def plain_str {x:Str}:Plain (Its x) (pk x) (fun _=>True):=fun i H h=>by
 refine ⟨fun hi=>?_,fun e=>?_,fun v H' hi y=>?_⟩
 · show i<x.cps.size
   simpa [pk] using hi
 · show i=x.cps.size
   simpa [pk] using e
 · obtain ⟨e,c,hc,rfl⟩:=y
   refine ⟨e,?_⟩
   unfold pk
   rw [List.getElem?_map,Array.getElem?_toList,hc]
   rfl
noncomputable def wN (src:List (Option Nat)) (g:TG) (tt:TT) (te:TE) (σ:St) (J:It) (H1:Hp) (Q:VK) (D:Addr):Prop:=∃ W:Nat->Nat->Hp->Prop,(∃ m,W 0 m (upd H1 D (.lst [])))/\∀ i m H,W i m H→
 (J.stop i H/\Q (.ref D) H)∨(J.go i H/\∃ N:Hp->Prop,(∀ H',N H'->∃ m',m'<m/\W (i+1) m' H')/\∀ x H',J.yld i H x H'→
  g x (stC src σ) H' fun σ2 H2=>Wk (stC src σ) σ2/\tt σ2 H2 fun b H3=>if b=true then te σ2 H3 fun v H4=>∃ ys,H4 D=some (.lst ys)/\ys.length<sizeLine/\N (upd H4 D (.lst (ys++[v]))) else N H3)
def mO {src:List (Option Nat)} {wi:TI} {g:TG} {tt:TT} {te:TE} {σ:St} {H:Hp} {Q:VK}:kF src wi g tt te σ H Q=wi σ H fun J H1=>∀ D,H1 D=none->wN src g tt te σ J H1 Q D:=rfl
noncomputable def ForW (g:TG) (tb:TS) (D:Ends) (J:It) (σ:St) (H1:Hp):Prop:=∃ W:Nat->Nat->St->Hp->Prop,(∃ m,W 0 m σ H1)/\∀ i m σ H,W i m σ H→
 (J.stop i H/\D.nx σ H)∨(J.go i H/\∃ N:St->Hp->Prop,(∀ σ' H',N σ' H'->∃ m',m'<m/\W (i+1) m' σ' H')/\∀ x H',J.yld i H x H'->g x σ H' fun σ2 H2=>tb {D with nx:=N,ct:=N,bk:=D.nx} σ2 H2)
def hZ {wi:TI} {g:TG} {tb:TS} {D:Ends} {σ:St} {H:Hp}:tFor wi g tb D σ H=wi σ H fun J H1=>ForW g tb D J σ H1:=rfl
section
variable {X:Cx} {K:PySem.W.Frag} {tg:Expr}
end
def sr (scope outer:Scope):Scope:={scope with names:=scope.names.map fun (n,k)=>if (k==.free&&outer.kind==.function&&outer.names.lookup n==some .cell) then (n,.cell) else (n,k)}
noncomputable def eg (sc:Scope) (N:List Str) (i:Nat) (x:Str):Bool:=
 decide (N[i]?=some x)&&(decide (sc.names.lookup x=some .local)||(decide (sc.names.lookup x=some .cell)||decide (sc.names.lookup x=some .free)))&&!(x==("__debug__":Str))&&!(x==("__classdict__":Str))
def jm (sc:Scope) (x:Str):Bool:=decide (sc.names.lookup x=some .local)||decide (sc.names.lookup x=some .cell)
def bq (sc:Scope) (x:Str):Bool:=decide (sc.names.lookup x=some .globalImplicit)&&!(x==("__debug__":Str))&&!decide (x=("__name__":Str))
section
variable {sc:Scope} {N:List Str} {i:Nat} {x:Str}
def gJ (h:eg sc N i x=true):N[i]?=some x:=by
 unfold eg at h
 simp only [Bool.and_eq_true,decide_eq_true_eq] at h
 exact h.1.1.1
def xS (h:eg sc N i x=true):Vis sc x:=by
 unfold eg at h
 simp only [Bool.and_eq_true,Bool.or_eq_true,decide_eq_true_eq] at h
 exact h.1.1.2
def xT (h:eg sc N i x=true):(x==("__debug__":Str))=false:=by
 unfold eg at h
 simp only [Bool.and_eq_true,Bool.not_eq_true'] at h
 exact h.1.2
def zh (h:eg sc N i x=true):(x==("__classdict__":Str))=false:=by
 unfold eg at h
 simp only [Bool.and_eq_true,Bool.not_eq_true'] at h
 exact h.2
def jN (h:jm sc x=true):Loc sc x:=by
 unfold jm at h
 simp only [Bool.or_eq_true,decide_eq_true_eq] at h
 exact h
def y66 (h:bq sc x=true):sc.names.lookup x=some .globalImplicit:=by
 unfold bq at h
 simp only [Bool.and_eq_true,decide_eq_true_eq] at h
 exact h.1.1
def lL (h:bq sc x=true):(x==("__debug__":Str))=false:=by
 unfold bq at h
 simp only [Bool.and_eq_true,Bool.not_eq_true'] at h
 exact h.1.2
def q66 (h:bq sc x=true):x≠("__name__":Str):=by
 unfold bq at h
 simp only [Bool.and_eq_true,Bool.not_eq_true',decide_eq_false_iff_not] at h
 exact h.2
end
def cW (X:Cx) (sc:Scope):Prop:=X.env.scope=sc
section
variable {X:Cx} {sc:Scope} {N:List Str} {x:Str} {pos p:Pos}
def pvD (i:Nat) (h:eg sc N i x=true) (e1:cW X sc:=by rfl) (e2:X.N=N:=by rfl):PE X (.Name x pos) (lu i):=by
 have e1:X.env.scope=sc:=e1
 subst e1 e2
 exact xp (gJ h) (xS h) (xT h) (zh h)
def glD (h:bq sc x=true) (e1:cW X sc:=by rfl):Gl X x:=by
 have e1:X.env.scope=sc:=e1
 subst e1
 exact y66 h
def pp {i:Nat} {e:Expr} {te:TE} {pos':Pos} (h:eg sc N i x=true) (hl:jm sc x=true) (nd:N.Nodup) (he:PE X e te) (e1:cW X sc:=by rfl) (e2:X.N=N:=by rfl) (hf:X.fn x=true∨X.env.scope.names.lookup x=some .local:=by exact .inl rfl)
  (hs:swapsWith e (some (.Name x pos')) pos.line X.env=pure false:=by rfl):PS X (.Assign [.Name x pos'] e pos) (uG te (iY i)):=by
 have e1:X.env.scope=sc:=e1
 subst e1 e2
 exact xA nd (gJ h) (jN hl) he hs hf
def aP {i:Nat} (h:eg sc N i x=true) (hl:jm sc x=true) (nd:N.Nodup) (e1:cW X sc:=by rfl) (e2:X.N=N:=by rfl) (hf:X.fn x=true∨X.env.scope.names.lookup x=some .local:=by exact .inl rfl):PG X (.Name x pos) (iY i):=by
 have e1:X.env.scope=sc:=e1
 subst e1 e2
 exact oX nd (gJ h) (jN hl) hf
def loOk (sc:Scope) (x:Str):Bool:=decide (sc.names.lookup x=some .local)
def cx {i:Nat} (h:eg sc N i x=true) (hl:loOk sc x=true) (nd:X.N.Nodup) (e1:cW X sc) (e2:X.N=N:=by rfl):PG X (.Name x pos) (iY i):=by
 have e1:X.env.scope=sc:=e1
 subst e1 e2
 have hl:X.env.scope.names.lookup x=some .local:=of_decide_eq_true hl
 exact oX nd (gJ h) (.inl hl) (.inr hl)
variable {e:Expr} {es:List Expr} {t:TA} {id T:String} {r:List V->Hp->VK->Prop} {k:Nat} {ps:List Str} {sp:Sp}
def kH (h:bq sc x=true) (hc:CallR X (.builtin id) r) (hm:X.mg x=none) (hv:bootBuiltins x=some (.builtin id)) (ha:PA X (e::es) t) (e1:cW X sc:=by rfl)
  (he:starEach (e::es) X.env=(false,eval e X.env)::starEach es X.env:=by rfl) (hpl:(backTo pos (starEach es X.env)).any (·.1)=false:=by rfl):PE X (.Call (.Name x p) (e::es) [] pos) (tCB r t):=
 rU hc (glD h e1) hm hv ha (q66 h) (lL h) he hpl
def gK (h:bq sc x=true) (hc:CallR X (.type T) r) (hm:X.mg x=none) (hv:bootBuiltins x=some (.type T)) (ha:PA X (e::es) t) (e1:cW X sc:=by rfl)
  (he:starEach (e::es) X.env=(false,eval e X.env)::starEach es X.env:=by rfl) (hpl:(backTo pos (starEach es X.env)).any (·.1)=false:=by rfl):PE X (.Call (.Name x p) (e::es) [] pos) (tCB r t):=
 qD hc (glD h e1) hm hv ha (q66 h) (lL h) he hpl
def kI (h:bq sc x=true) (F:OkF X.prog X.w X.K X.mg X.base x k ps sp) (hr:Room k X.A) (ha:PA X (e::es) t) (e1:cW X sc:=by rfl)
  (he:starEach (e::es) X.env=(false,eval e X.env)::starEach es X.env:=by rfl) (hpl:(backTo pos (starEach es X.env)).any (·.1)=false:=by rfl):PE X (.Call (.Name x p) (e::es) [] pos) (rQ sp [] E0 t):=
 sq F hr (glD h e1) ha (lL h) he hpl
variable {tg a b:Expr} {ta:TA}
def jO (h:bq sc "range"=true) (hm:X.mg "range"=none) (ha:PA X [a] ta) (e1:cW X sc:=by rfl) (hs:starEach [a] X.env=[(false,eval a X.env)]:=by rfl):PI X tg (.Call (.Name "range" p) [a] [] pos) (wz ta):=qw (glD h e1) hm ha hs
end
section
variable {X:Cx} {M:List Str} {scope outer:Scope} {C:Addr} {s:Shared} {H:Hp} {ex:List Addr} {x:Str} {pos p:Pos}
def scC (ho:cW X outer):cW (cxC X M scope C s H ex) (sr scope outer):=by
 have ho:X.env.scope=outer:=ho
 subst ho
 rfl
end
inductive Dt where
 | non | bl (b:Bool) | int (i:Int) | str (x:Str) | tup (l:List Dt) | lst (l:List Dt) | dct (ks:List Key) (l:List Dt) | dcT (ks:List (List Key)) (l:List Dt)
 | ins (c:Str) (ns:List Str) (l:List Dt)
mutual
noncomputable def peq:Dt->Dt->Bool
 | .non,.non=>true
 | .bl a,.bl b=>a==b
 | .bl a,.int j=>(if a then (1:Int) else 0)==j
 | .int i,.bl b=>i==(if b then (1:Int) else 0)
 | .int i,.int j=>i==j
 | .str x,.str y=>x==y
 | .tup l,.tup m=>peqs l m
 | .lst l,.lst m=>peqs l m
 | .dct ks l,.dct js m=>decide (ks=js)&&peqs l m
 | .dcT ks l,.dcT js m=>decide (ks=js)&&peqs l m
 | .ins _ _ _,.ins _ _ _=>true
 | _,_=>false
noncomputable def peqs:List Dt->List Dt->Bool
 | [],[]=>true
 | d::l,e::m=>peq d e&&peqs l m
 | _,_=>false
end
mutual
def ia:∀ d:Dt,peq d d=true
 | .non=>by simp [peq]
 | .bl b=>by simp [peq]
 | .int i=>by simp [peq]
 | .str x=>by simp [peq]
 | .tup l=>by simp only [peq];exact peqs_self l
 | .lst l=>by simp only [peq];exact peqs_self l
 | .dct ks l=>by simp only [peq,decide_true,Bool.true_and];exact peqs_self l
 | .dcT ks l=>by simp only [peq,decide_true,Bool.true_and];exact peqs_self l
 | .ins c ns l=>by simp only [peq]
def peqs_self:∀ l:List Dt,peqs l l=true
 | []=>by simp [peqs]
 | d::l=>by simp only [peqs,ia d,peqs_self l,Bool.and_self]
end
mutual
noncomputable def eG:Dt->Nat
 | .tup l=>deeps l+1
 | .lst l=>deeps l+1
 | _=>0
noncomputable def deeps:List Dt->Nat
 | []=>0
 | d::l=>max (eG d) (deeps l)
end
def ClsAt (K:PySem.W.Frag) (c:Str) (C:Addr):Prop:=PySem.W.nsIn K mainGlobals c=some (some (.ref C))
mutual
noncomputable def Rep (K:PySem.W.Frag) (H:Hp):Dt->V->Prop
 | .non,v=>v=.non
 | .bl b,v=>v=.bl b
 | .int i,v=>v=.int i
 | .str x,v=>v=.str x
 | .tup l,v=>∃ a vs,v=.ref a/\SqT K H a vs/\Reps K H l vs
 | .lst l,v=>∃ a vs,v=.ref a/\SqL K H a vs/\Reps K H l vs
 | .dct ks l,v=>∃ a kvs,v=.ref a/\Rd H a (.dK kvs)/\kvs.map (·.1)=ks/\Reps K H l (kvs.map (·.2))
 | .dcT ks l,v=>∃ a kvs,v=.ref a/\Rd H a (.dT kvs)/\kvs.map (·.1)=ks/\Reps K H l (kvs.map (·.2))
 | .ins c ns l,v=>∃ a C dx fs,v=.ref a/\ClsAt K c C/\H a=some (.ins C dx fs)/\fs.map (·.1)=ns/\Reps K H l (fs.map (·.2))
noncomputable def Reps (K:PySem.W.Frag) (H:Hp):List Dt->List V->Prop
 | [],vs=>vs=[]
 | d::l,vs=>∃ v ws,vs=v::ws/\Rep K H d v/\Reps K H l ws
end
def Same.tup {K:PySem.W.Frag} {H H':Hp} {a:Addr} {xs:List V} (e:Same H H') (h:SqT K H a xs):SqT K H' a xs:=by
 rcases h with (h | ⟨o,h⟩) | h
 · exact .inl (.inl (e _ _ h))
 · exact .inl (.inr ⟨o,e _ _ h⟩)
 · exact .inr h
def Same.rd {H H':Hp} {a:Addr} {u:HO} (e:Same H H') (h:Rd H a u):Rd H' a u:=by
 rcases h with h | ⟨o,h⟩
 · exact .inl (e _ _ h)
 · exact .inr ⟨o,e _ _ h⟩
mutual
def Rep.same {K:PySem.W.Frag} {H H':Hp} (e:Same H H'):∀ {d:Dt} {v:V},Rep K H d v->Rep K H' d v
 | .non,v,h=>h
 | .bl _,v,h=>h
 | .int _,v,h=>h
 | .str _,v,h=>h
 | .tup l,v,h=>by
  unfold Rep at h ⊢
  obtain ⟨a,vs,h1,h2,h3⟩:=h
  exact ⟨a,vs,h1,e.tup h2,Reps.same e h3⟩
 | .lst l,v,h=>by
  unfold Rep at h ⊢
  obtain ⟨a,vs,h1,h2,h3⟩:=h
  exact ⟨a,vs,h1,e.seq h2,Reps.same e h3⟩
 | .dct ks l,v,h=>by
  unfold Rep at h ⊢
  obtain ⟨a,vs,h1,h2,h3,h4⟩:=h
  exact ⟨a,vs,h1,e.rd h2,h3,Reps.same e h4⟩
 | .dcT ks l,v,h=>by
  unfold Rep at h ⊢
  obtain ⟨a,vs,h1,h2,h3,h4⟩:=h
  exact ⟨a,vs,h1,e.rd h2,h3,Reps.same e h4⟩
 | .ins c ns l,v,h=>by
  unfold Rep at h ⊢
  obtain ⟨a,C,dx,fs,h1,h2,h3,h4,h5⟩:=h
  exact ⟨a,C,dx,fs,h1,h2,e _ _ h3,h4,Reps.same e h5⟩
def Reps.same {K:PySem.W.Frag} {H H':Hp} (e:Same H H'):∀ {l:List Dt} {vs:List V},Reps K H l vs->Reps K H' l vs
 | [],vs,h=>h
 | d::l,vs,h=>by
  unfold Reps at h ⊢
  obtain ⟨v,ws,h1,h2,h3⟩:=h
  exact ⟨v,ws,h1,Rep.same e h2,Reps.same e h3⟩
end
def Reps.length {K:PySem.W.Frag} {H:Hp}:∀ {l:List Dt} {vs:List V},Reps K H l vs->vs.length=l.length
 | [],vs,h=>by unfold Reps at h;rw [h];rfl
 | d::l,vs,h=>by
  unfold Reps at h
  obtain ⟨v,ws,rfl,_,h3⟩:=h
  simp [Reps.length h3]
def Reps.get {K:PySem.W.Frag} {H:Hp}:∀ {l:List Dt} {vs:List V} {i:Nat} {d:Dt},Reps K H l vs->l[i]?=some d->∃ v,vs[i]?=some v/\Rep K H d v
 | [],vs,i,d,h,e=>by simp at e
 | d0::l,vs,0,d,h,e=>by
  unfold Reps at h
  obtain ⟨v,ws,rfl,h2,_⟩:=h
  simp at e
  subst e
  exact ⟨v,rfl,h2⟩
 | d0::l,vs,i+1,d,h,e=>by
  unfold Reps at h
  obtain ⟨v,ws,rfl,_,h3⟩:=h
  obtain ⟨u,e1,e2⟩:=Reps.get (i:=i) h3 (by simpa using e)
  exact ⟨u,by simpa using e1,e2⟩
def Reps.append {K:PySem.W.Frag} {H:Hp}:∀ {l m:List Dt} {vs ws:List V},Reps K H l vs->Reps K H m ws->Reps K H (l++m) (vs++ws)
 | [],m,vs,ws,h,h'=>by unfold Reps at h;rw [h];exact h'
 | d::l,m,vs,ws,h,h'=>by
  unfold Reps at h
  obtain ⟨v,us,rfl,h2,h3⟩:=h
  show Reps K H (d::(l++m)) (v::(us++ws))
  unfold Reps
  exact ⟨v,_,rfl,h2,Reps.append h3 h'⟩
def Reps.one {K:PySem.W.Frag} {H:Hp} {d:Dt} {v:V} (h:Rep K H d v):Reps K H [d] [v]:=by
 unfold Reps
 exact ⟨v,[],rfl,h,by unfold Reps;rfl⟩
def Reps.take {K:PySem.W.Frag} {H:Hp}:∀ {l:List Dt} {vs:List V} (n:Nat),Reps K H l vs->Reps K H (l.take n) (vs.take n)
 | _,_,0,_=>by simp [Reps]
 | [],vs,n+1,h=>by unfold Reps at h;rw [h];simp [Reps]
 | d::l,vs,n+1,h=>by
  unfold Reps at h
  obtain ⟨v,us,rfl,h2,h3⟩:=h
  show Reps K H (d::l.take n) (v::us.take n)
  unfold Reps
  exact ⟨v,_,rfl,h2,Reps.take n h3⟩
def Reps.drop {K:PySem.W.Frag} {H:Hp}:∀ {l:List Dt} {vs:List V} (n:Nat),Reps K H l vs->Reps K H (l.drop n) (vs.drop n)
 | _,_,0,h=>h
 | [],vs,n+1,h=>by unfold Reps at h;rw [h];simp [Reps]
 | d::l,vs,n+1,h=>by
  unfold Reps at h
  obtain ⟨v,us,rfl,h2,h3⟩:=h
  exact Reps.drop n h3
section
variable {X:Cx} {pins:List (Addr×Obj)} {σ:St} {H:Hp} {s:Shared} {K:PySem.W.Frag}
def Inv.notBoth {a:Addr} {xs ys:List V} (I:Inv X pins σ H s) (h:SqL X.K H a xs) (h':SqT X.K H a ys):False:=by
 obtain ⟨its,r,pl,_⟩:=I.list h
 obtain ⟨its',r',pt,_⟩:=I.tuple h'
 obtain ⟨o,n,e,hc,_⟩:=pl
 obtain ⟨o',e',hc',_⟩:=pt
 rw [e] at e'
 cases e'
 rw [hc] at hc'
 injection hc' with z
 exact absurd z (by decide)
def zi {a:Addr} {u w:List (Key×V)} (h:Rd H a (.dK u)) (h':Rd H a (.dK w)):u=w:=by
 rcases h with h | ⟨o,h⟩<;>rcases h' with h' | ⟨o',h'⟩<;>rw [h] at h'<;>cases h'<;>rfl
def zj {a:Addr} {u w:List (List Key×V)} (h:Rd H a (.dT u)) (h':Rd H a (.dT w)):u=w:=by
 rcases h with h | ⟨o,h⟩<;>rcases h' with h' | ⟨o',h'⟩<;>rw [h] at h'<;>cases h'<;>rfl
def jr {a:Addr} {u:HO} (h:Rd H a u):∃ o,H a=some o:=by
 rcases h with h | ⟨o,h⟩
 · exact ⟨_,h⟩
 · exact ⟨_,h⟩
def Inv.kNone (I:Inv X pins σ H s) {a:Addr} {o:Obj} (h:X.K.lookup a=some o):H a=none:=(I.bs a o (I.ok.mod.kin a o h)).2
def Inv.sqT_dK (I:Inv X pins σ H s) {a:Addr} {xs:List V} {u:List (Key×V)} (h:SqT X.K H a xs) (h':Rd H a (.dK u)):False:=by
 rcases h with h | ⟨o,_,_,h,_⟩
 · rcases h with h | ⟨o,h⟩<;>rcases h' with h' | ⟨o',h'⟩<;>rw [h] at h'<;>cases h'
 · obtain ⟨o',e⟩:=jr h'
   rw [I.kNone h] at e
   cases e
def Inv.sqT_dT (I:Inv X pins σ H s) {a:Addr} {xs:List V} {u:List (List Key×V)} (h:SqT X.K H a xs) (h':Rd H a (.dT u)):False:=by
 rcases h with h | ⟨o,_,_,h,_⟩
 · rcases h with h | ⟨o,h⟩<;>rcases h' with h' | ⟨o',h'⟩<;>rw [h] at h'<;>cases h'
 · obtain ⟨o',e⟩:=jr h'
   rw [I.kNone h] at e
   cases e
def Inv.sqL_dK (I:Inv X pins σ H s) {a:Addr} {xs:List V} {u:List (Key×V)} (h:SqL X.K H a xs) (h':Rd H a (.dK u)):False:=by
 rcases h with h | ⟨o,_,_,h,_⟩
 · rcases h with h | ⟨o,h⟩<;>rcases h' with h' | ⟨o',h'⟩<;>rw [h] at h'<;>cases h'
 · obtain ⟨o',e⟩:=jr h'
   rw [I.kNone h] at e
   cases e
def Inv.sqL_dT (I:Inv X pins σ H s) {a:Addr} {xs:List V} {u:List (List Key×V)} (h:SqL X.K H a xs) (h':Rd H a (.dT u)):False:=by
 rcases h with h | ⟨o,_,_,h,_⟩
 · rcases h with h | ⟨o,h⟩<;>rcases h' with h' | ⟨o',h'⟩<;>rw [h] at h'<;>cases h'
 · obtain ⟨o',e⟩:=jr h'
   rw [I.kNone h] at e
   cases e
def su {a:Addr} {u:List (Key×V)} {w:List (List Key×V)} (h:Rd H a (.dK u)) (h':Rd H a (.dT w)):False:=by
 rcases h with h | ⟨o,h⟩<;>rcases h' with h' | ⟨o',h'⟩<;>rw [h] at h'<;>cases h'
def ci:Dt->Nat
 | .non=>0
 | .bl _=>1
 | .int _=>2
 | .str _=>3
 | .tup _=>4
 | .lst _=>5
 | .dct _ _=>6
 | .dcT _ _=>7
 | .ins _ _ _=>8
def pq (I:Inv X pins σ H s) {a C dx:Addr} {fs:List (Str×V)} {vs:List V} (h:SqT X.K H a vs) (h':H a=some (.ins C dx fs)):False:=by
 rcases h with (h | ⟨o,h⟩) | ⟨o,its,n,h,_⟩
 · rw [h'] at h;cases h
 · rw [h'] at h;cases h
 · rw [I.kNone h] at h';cases h'
def pv (I:Inv X pins σ H s) {a C dx:Addr} {fs:List (Str×V)} {vs:List V} (h:SqL X.K H a vs) (h':H a=some (.ins C dx fs)):False:=by
 rcases h with (h | ⟨o,h⟩) | ⟨o,its,n,h,_⟩
 · rw [h'] at h;cases h
 · rw [h'] at h;cases h
 · rw [I.kNone h] at h';cases h'
def pw {a C dx:Addr} {fs:List (Str×V)} {u:List (Key×V)} (h:Rd H a (.dK u)) (h':H a=some (.ins C dx fs)):False:=by
 rcases h with h | ⟨o,h⟩<;>rw [h] at h'<;>cases h'
def pz {a C dx:Addr} {fs:List (Str×V)} {u:List (List Key×V)} (h:Rd H a (.dT u)) (h':H a=some (.ins C dx fs)):False:=by
 rcases h with h | ⟨o,h⟩<;>rw [h] at h'<;>cases h'
def cZ (I:Inv X pins σ H s) {d e:Dt} {v:V} (h:Rep X.K H d v) (h':Rep X.K H e v):ci d=ci e:=by
 cases d<;>cases e<;>first
  | rfl
  | (simp only [Rep] at h h';subst h;cases h';done)
  | (simp only [Rep] at h h';obtain ⟨_,_,e,_⟩:=h';rw [h] at e;cases e;done)
  | (simp only [Rep] at h h';obtain ⟨_,_,e,_⟩:=h;rw [h'] at e;cases e;done)
  | (simp only [Rep] at h h';obtain ⟨_,_,rfl,h2,_⟩:=h;obtain ⟨_,_,e,h2',_⟩:=h';cases e
     first
      | exact (I.sqT_dK h2 h2').elim
      | exact (I.sqT_dK h2' h2).elim
      | exact (I.sqT_dT h2 h2').elim
      | exact (I.sqT_dT h2' h2).elim
      | exact (I.notBoth h2 h2').elim
      | exact (I.notBoth h2' h2).elim
      | exact (I.sqL_dK h2 h2').elim
      | exact (I.sqL_dK h2' h2).elim
      | exact (I.sqL_dT h2 h2').elim
      | exact (I.sqL_dT h2' h2).elim
      | exact (su h2 h2').elim
      | exact (su h2' h2).elim)
  | (simp only [Rep] at h h';obtain ⟨_,_,_,_,e,_⟩:=h';rw [h] at e;cases e;done)
  | (simp only [Rep] at h h';obtain ⟨_,_,_,_,e,_⟩:=h;rw [h'] at e;cases e;done)
  | (simp only [Rep] at h h';obtain ⟨_,_,_,_,rfl,_,h2,_⟩:=h;obtain ⟨_,_,e,h2',_⟩:=h';cases e
     first
      | exact (pq I h2' h2).elim
      | exact (pv I h2' h2).elim
      | exact (pw h2' h2).elim
      | exact (pz h2' h2).elim)
  | (simp only [Rep] at h h';obtain ⟨_,_,_,_,rfl,_,h2,_⟩:=h';obtain ⟨_,_,e,h2',_⟩:=h;cases e
     first
      | exact (pq I h2' h2).elim
      | exact (pv I h2' h2).elim
      | exact (pw h2' h2).elim
      | exact (pz h2' h2).elim)
mutual
def lM (I:Inv X pins σ H s):∀ (d e:Dt) (v:V),Rep X.K H d v->Rep X.K H e v->peq d e=true:=fun d=>by
 match d with
 | .tup l =>
  intro e v h h'
  have hk:=cZ I h h'
  cases e<;>first | (simp [ci] at hk;done) | skip
  simp only [Rep] at h h'
  obtain ⟨a,vs,rfl,h2,h3⟩:=h
  obtain ⟨b,ws,e,h2',h3'⟩:=h'
  cases e
  have:=I.tuple_inj h2 h2'
  subst this
  simp only [peq]
  exact reps_inj I l _ _ h3 h3'
 | .lst l =>
  intro e v h h'
  have hk:=cZ I h h'
  cases e<;>first | (simp [ci] at hk;done) | skip
  simp only [Rep] at h h'
  obtain ⟨a,vs,rfl,h2,h3⟩:=h
  obtain ⟨b,ws,e,h2',h3'⟩:=h'
  cases e
  have:=I.list_inj h2 h2'
  subst this
  simp only [peq]
  exact reps_inj I l _ _ h3 h3'
 | .dct ks l =>
  intro e v h h'
  have hk:=cZ I h h'
  cases e<;>first | (simp [ci] at hk;done) | skip
  simp only [Rep] at h h'
  obtain ⟨a,vs,rfl,h2,h3,h4⟩:=h
  obtain ⟨b,ws,e,h2',h3',h4'⟩:=h'
  cases e
  have:=zi h2 h2'
  subst this
  subst h3 h3'
  simp only [peq,decide_true,Bool.true_and]
  exact reps_inj I l _ _ h4 h4'
 | .dcT ks l =>
  intro e v h h'
  have hk:=cZ I h h'
  cases e<;>first | (simp [ci] at hk;done) | skip
  simp only [Rep] at h h'
  obtain ⟨a,vs,rfl,h2,h3,h4⟩:=h
  obtain ⟨b,ws,e,h2',h3',h4'⟩:=h'
  cases e
  have:=zj h2 h2'
  subst this
  subst h3 h3'
  simp only [peq,decide_true,Bool.true_and]
  exact reps_inj I l _ _ h4 h4'
 | .ins c ns l =>
  intro e v h h'
  have hk:=cZ I h h'
  cases e<;>first | (simp [ci] at hk;done) | skip
  simp only [peq]
 | .non =>
  intro e v h h'
  have hk:=cZ I h h'
  cases e<;>first | (simp [ci] at hk;done) | simp only [peq]
 | .bl b =>
  intro e v h h'
  have hk:=cZ I h h'
  cases e<;>first | (simp [ci] at hk;done) | (simp only [Rep] at h h';rw [h] at h';cases h';exact ia _)
 | .int b =>
  intro e v h h'
  have hk:=cZ I h h'
  cases e<;>first | (simp [ci] at hk;done) | (simp only [Rep] at h h';rw [h] at h';cases h';exact ia _)
 | .str b =>
  intro e v h h'
  have hk:=cZ I h h'
  cases e<;>first | (simp [ci] at hk;done) | (simp only [Rep] at h h';rw [h] at h';cases h';exact ia _)
def reps_inj (I:Inv X pins σ H s):∀ (l m:List Dt) (vs:List V),Reps X.K H l vs->Reps X.K H m vs->peqs l m=true:=fun l=>by
 match l with
 | [] =>
  intro m vs h h'
  cases m with
  | nil=>simp only [peqs]
  | cons e m=>unfold Reps at h h';obtain ⟨v,ws,e,_⟩:=h';rw [h] at e;cases e
 | d::l =>
  intro m vs h h'
  cases m with
  | nil=>unfold Reps at h h';obtain ⟨v,ws,e,_⟩:=h;rw [h'] at e;cases e
  | cons e m =>
   unfold Reps at h h'
   obtain ⟨v,ws,rfl,h2,h3⟩:=h
   obtain ⟨v',ws',e',h2',h3'⟩:=h'
   cases e'
   simp only [peqs,lM I d _ _ h2 h2',reps_inj I l _ _ h3 h3',Bool.and_self]
end
end
end L2
namespace L2
open PySem PySem.Spec PyProof.Rows
mutual
noncomputable def dk:Dt->Dt->Bool
 | .tup l,.tup m=>cmpbs l m
 | .lst l,.lst m=>cmpbs l m
 | d,e=>decide (ci d<4)&&decide (ci e<4)
noncomputable def cmpbs:List Dt->List Dt->Bool
 | d::l,e::m=>dk d e&&cmpbs l m
 | _,_=>true
end
def eI:∀ {l m:List Dt} {j:Nat} {d e:Dt},cmpbs l m=true->l[j]?=some d->m[j]?=some e->dk d e=true
 | [],_,j,d,e,_,h,_=>by simp at h
 | _::_,[],j,d,e,_,_,h=>by simp at h
 | d0::l,e0::m,0,d,e,h,h1,h2=>by
  simp only [cmpbs,Bool.and_eq_true] at h
  simp at h1 h2
  subst h1 h2
  exact h.1
 | d0::l,e0::m,j+1,d,e,h,h1,h2=>by
  simp only [cmpbs,Bool.and_eq_true] at h
  exact eI (j:=j) h.2 (by simpa using h1) (by simpa using h2)
def fQ:∀ {l:List Dt} {j:Nat} {d:Dt},l[j]?=some d->eG d<=deeps l
 | [],j,d,h=>by simp at h
 | d0::l,0,d,h=>by
  simp at h
  subst h
  simp only [deeps]
  exact Nat.le_max_left ..
 | d0::l,j+1,d,h=>by
  simp only [deeps]
  exact Nat.le_trans (fQ (j:=j) (by simpa using h)) (Nat.le_max_right ..)
def cy (l m:List Dt) (j:Nat):Bool:=peq (l.getD j .non) (m.getD j .non)
def dM:∀ (l m:List Dt),peqs l m=((List.range (min l.length m.length)).all (cy l m)&&l.length==m.length)
 | [],[]=>by simp [peqs]
 | [],_::_=>by simp [peqs]
 | _::_,[]=>by simp [peqs]
 | d::l,e::m=>by
  have ih:=dM l m
  simp only [peqs,ih,List.length_cons]
  rw [show min (l.length+1) (m.length+1)=min l.length m.length+1 by omega,List.range_succ_eq_map,List.all_cons,List.all_map]
  have e1:cy (d::l) (e::m) 0=peq d e:=rfl
  have e2:(cy (d::l) (e::m) ∘ Nat.succ)=cy l m:=by
   funext j
   rfl
  have e3:(l.length+1==m.length+1)=(l.length==m.length):=by
   rw [Bool.eq_iff_iff]
   simp
  rw [e1,e2,e3,Bool.and_assoc]
section
variable {X:Cx} {pins:List (Addr×Obj)} {σ:St} {H:Hp} {s:Shared}
def cV {l:List Dt} {vs:List V} {its:List Value} (h:Reps X.K H l vs) (r:Vals vs its) {j:Nat} (hj:j<its.length):∃ d v,l[j]?=some d/\Rep X.K H d v/\RelV v its[j]:=by
 have hl:j<l.length:=by rw [<- h.length,r.length];exact hj
 obtain ⟨v,e1,e2⟩:=h.get (i:=j) (d:=l[j]) (by simp [hl])
 obtain ⟨u,e3,e4⟩:=r.get e1
 have:its[j]=u:=by
  have:=gQ hj
  rw [this] at e3
  exact Option.some.inj e3
 exact ⟨l[j],v,by simp [hl],e2,by rw [this];exact e4⟩
def wO (I:Inv X pins σ H s):∀ (n:Nat) {A:Around} {d e:Dt} {v w:V} {u u':Value},eG d<=n->A.units+n<cLine->dk d e=true->Rep X.K H d v->Rep X.K H e w->RelV v u->RelV w u'->SeqAt.EqAt A s u u' (peq d e):=by
 intro n
 induction n with
 | zero =>
  intro A d e v w u u' hd hu hc h h' r r'
  cases d<;>cases e<;>first
   | (simp only [Rep] at h h';subst h h';exact jJ r r' rfl rfl)
   | (simp only [eG] at hd;omega)
   | (simp [dk,ci] at hc)
 | succ n ih =>
  intro A d e v w u u' hd hu hc h h' r r'
  cases d with
  | tup l =>
   cases e with
   | tup m =>
    have h0:=h
    have h0':=h'
    simp only [Rep] at h h'
    obtain ⟨a,vs,rfl,h2,h3⟩:=h
    obtain ⟨b,ws,rfl,h2',h3'⟩:=h'
    cases r
    cases r'
    by_cases hab:a=b
    · subst hab
      have:=lM I _ _ _ h0 h0'
      rw [this]
      exact SeqAt.EqAt.same _
    obtain ⟨its,rv,pt,_⟩:=I.tuple h2
    obtain ⟨its',rv',pt',_⟩:=I.tuple h2'
    have n1:its.length=l.length:=by rw [<- h3.length,rv.length]
    have n2:its'.length=m.length:=by rw [<- h3'.length,rv'.length]
    simp only [peq]
    rw [dM,<- n1,<- n2]
    simp only [eG] at hd
    simp only [dk] at hc
    have key:=SeqAt.RcAt.tuples (A:=A) (e:=cy l m) pt pt' (by omega) (fun j h1 h2=>by
     have h1':j<its.length:=by simpa using h1
     have h2':j<its'.length:=by simpa using h2
     obtain ⟨d,v,g1,g2,g3⟩:=cV h3 rv h1'
     obtain ⟨e,w,g1',g2',g3'⟩:=cV h3' rv' h2'
     have:cy l m j=peq d e:=by unfold cy;rw [List.getD_eq_getElem?_getD,List.getD_eq_getElem?_getD,g1,g1'];rfl
     rw [this]
     have:=ih (A:=A.in1) (Nat.le_trans (fQ g1) (by omega)) (show A.units+1+n<cLine by omega) (eI hc g1 g1') g2 g2' g3 g3'
     simpa using this)
    have key':SeqAt.RcAt A s (.ref a) (.ref b) ((List.range (min its.length its'.length)).all (cy l m)&&its.length==its'.length):=by simpa using key
    exact SeqAt.EqAt.of_refs hab key'
   | _=>exact absurd hc (by simp [dk,ci])
  | lst l =>
   cases e with
   | lst m =>
    have h0:=h
    have h0':=h'
    simp only [Rep] at h h'
    obtain ⟨a,vs,rfl,h2,h3⟩:=h
    obtain ⟨b,ws,rfl,h2',h3'⟩:=h'
    cases r
    cases r'
    by_cases hab:a=b
    · subst hab
      have:=lM I _ _ _ h0 h0'
      rw [this]
      exact SeqAt.EqAt.same _
    obtain ⟨its,rv,pt,_⟩:=I.list h2
    obtain ⟨its',rv',pt',_⟩:=I.list h2'
    have n1:its.length=l.length:=by rw [<- h3.length,rv.length]
    have n2:its'.length=m.length:=by rw [<- h3'.length,rv'.length]
    simp only [peq]
    rw [dM,<- n1,<- n2]
    simp only [eG] at hd
    simp only [dk] at hc
    by_cases hlen:its.length=its'.length
    · have key:=SeqAt.RcAt.lists (A:=A) (e:=cy l m) pt.isList pt'.isList (by simpa using hlen) (by omega) (fun j h1 h2=>by
       have h1':j<its.length:=by simpa using h1
       have h2':j<its'.length:=by simpa using h2
       obtain ⟨d,v,g1,g2,g3⟩:=cV h3 rv h1'
       obtain ⟨e,w,g1',g2',g3'⟩:=cV h3' rv' h2'
       have:cy l m j=peq d e:=by unfold cy;rw [List.getD_eq_getElem?_getD,List.getD_eq_getElem?_getD,g1,g1'];rfl
       rw [this]
       have:=ih (A:=A.in1) (Nat.le_trans (fQ g1) (by omega)) (show A.units+1+n<cLine by omega) (eI hc g1 g1') g2 g2' g3 g3'
       simpa using this)
      have e1:(its.length==its'.length)=true:=by simpa using hlen
      rw [e1,Bool.and_true,show min its.length its'.length=its.length by omega]
      exact SeqAt.EqAt.of_refs hab (by simpa using key)
    · have e1:(its.length==its'.length)=false:=by simpa using hlen
      rw [e1,Bool.and_false]
      exact SeqAt.EqAt.of_refs hab (SeqAt.RcAt.lists_lengths pt.isList pt'.isList (by simpa using hlen) (by omega))
   | _=>exact absurd hc (by simp [dk,ci])
  | non=>cases e<;>first | (simp only [Rep] at h h';subst h h';exact jJ r r' rfl rfl) | (simp [dk,ci] at hc)
  | bl b=>cases e<;>first | (simp only [Rep] at h h';subst h h';exact jJ r r' rfl rfl) | (simp [dk,ci] at hc)
  | int b=>cases e<;>first | (simp only [Rep] at h h';subst h h';exact jJ r r' rfl rfl) | (simp [dk,ci] at hc)
  | str b=>cases e<;>first | (simp only [Rep] at h h';subst h h';exact jJ r r' rfl rfl) | (simp [dk,ci] at hc)
  | dct ks l=>cases e<;>(simp [dk,ci] at hc)
  | dcT ks l=>cases e<;>(simp [dk,ci] at hc)
  | ins c ns l=>cases e<;>(simp [dk,ci] at hc)
def wP (I:Inv X pins σ H s) {A:Around} {d e:Dt} {v w:V} {u u':Value} (hq:(∃ l m,d=.tup l/\e=.tup m)∨∃ l m,d=.lst l/\e=.lst m) (hu:A.units+eG d<cLine) (hc:dk d e=true) (h:Rep X.K H d v) (h':Rep X.K H e w) (r:RelV v u) (r':RelV w u') :
  SeqAt.RcAt A s u u' (peq d e)/\SeqAt.RcNeAt A s u u' (!peq d e):=by
 rcases hq with ⟨l,m,rfl,rfl⟩ | ⟨l,m,rfl,rfl⟩
 · simp only [Rep] at h h'
   obtain ⟨a,vs,rfl,h2,h3⟩:=h
   obtain ⟨b,ws,rfl,h2',h3'⟩:=h'
   cases r
   cases r'
   obtain ⟨its,rv,pt,_⟩:=I.tuple h2
   obtain ⟨its',rv',pt',_⟩:=I.tuple h2'
   have n1:its.length=l.length:=by rw [<- h3.length,rv.length]
   have n2:its'.length=m.length:=by rw [<- h3'.length,rv'.length]
   simp only [peq]
   rw [dM,<- n1,<- n2]
   simp only [eG] at hu
   simp only [dk] at hc
   have he:∀ j (h1:j<its.toArray.size) (h2:j<its'.toArray.size),SeqAt.EqAt A.in1 s its.toArray[j] its'.toArray[j] (cy l m j):=fun j h1 h2=>by
    have h1':j<its.length:=by simpa using h1
    have h2':j<its'.length:=by simpa using h2
    obtain ⟨d,v,g1,g2,g3⟩:=cV h3 rv h1'
    obtain ⟨e,w,g1',g2',g3'⟩:=cV h3' rv' h2'
    have:cy l m j=peq d e:=by unfold cy;rw [List.getD_eq_getElem?_getD,List.getD_eq_getElem?_getD,g1,g1'];rfl
    rw [this]
    have:=wO I (deeps l) (A:=A.in1) (fQ g1) (show A.units+1+deeps l<cLine by omega) (eI hc g1 g1') g2 g2' g3 g3'
    simpa using this
   exact ⟨by simpa using SeqAt.RcAt.tuples (A:=A) (e:=cy l m) pt pt' (by omega) he,by simpa using SeqAt.RcNeAt.tuples (A:=A) (e:=cy l m) pt pt' (by omega) he⟩
 · simp only [Rep] at h h'
   obtain ⟨a,vs,rfl,h2,h3⟩:=h
   obtain ⟨b,ws,rfl,h2',h3'⟩:=h'
   cases r
   cases r'
   obtain ⟨its,rv,pt,_⟩:=I.list h2
   obtain ⟨its',rv',pt',_⟩:=I.list h2'
   have n1:its.length=l.length:=by rw [<- h3.length,rv.length]
   have n2:its'.length=m.length:=by rw [<- h3'.length,rv'.length]
   simp only [peq]
   rw [dM,<- n1,<- n2]
   simp only [eG] at hu
   simp only [dk] at hc
   by_cases hlen:its.length=its'.length
   · have he:∀ j (h1:j<its.toArray.size) (h2:j<its'.toArray.size),SeqAt.EqAt A.in1 s its.toArray[j] its'.toArray[j] (cy l m j):=fun j h1 h2=>by
      have h1':j<its.length:=by simpa using h1
      have h2':j<its'.length:=by simpa using h2
      obtain ⟨d,v,g1,g2,g3⟩:=cV h3 rv h1'
      obtain ⟨e,w,g1',g2',g3'⟩:=cV h3' rv' h2'
      have:cy l m j=peq d e:=by unfold cy;rw [List.getD_eq_getElem?_getD,List.getD_eq_getElem?_getD,g1,g1'];rfl
      rw [this]
      have:=wO I (deeps l) (A:=A.in1) (fQ g1) (show A.units+1+deeps l<cLine by omega) (eI hc g1 g1') g2 g2' g3 g3'
      simpa using this
     have e1:(its.length==its'.length)=true:=by simpa using hlen
     rw [e1,Bool.and_true,show min its.length its'.length=its.length by omega]
     exact ⟨by simpa using SeqAt.RcAt.lists (A:=A) (e:=cy l m) pt.isList pt'.isList (by simpa using hlen) (by omega) he,by simpa using SeqAt.RcNeAt.lists (A:=A) (e:=cy l m) pt.isList pt'.isList (by simpa using hlen) (by omega) he⟩
   · have e1:(its.length==its'.length)=false:=by simpa using hlen
     rw [e1,Bool.and_false]
     exact ⟨SeqAt.RcAt.lists_lengths pt.isList pt'.isList (by simpa using hlen) (by omega),SeqAt.RcNeAt.lists_lengths pt.isList pt'.isList (by simpa using hlen) (by omega)⟩
noncomputable def uY (K:PySem.W.Frag) (neg:Bool):R2:=fun x y H Q=>∃ d e,((∃ l m,d=.tup l/\e=.tup m)∨∃ l m,d=.lst l/\e=.lst m)/\Rep K H d x/\Rep K H e y/\dk d e=true/\eG d<=60/\Q (.bl (if neg then !peq d e else peq d e)) H
def xU {K:PySem.W.Frag} {k:Nat} (hr:Room k X.A) (hK:X.K=K):OpR X (compareOp .Eq) (uY K false):=by
 subst hK
 intro pins s σ H x y v u Q I rx ry h
 obtain ⟨d,e,hq,hd,he,hc,hdp,q⟩:=h
 have hu:=hr.units
 exact (wP I hq (by omega) hc hd he rx ry).1 _ _ _ _ ⟨.bl (peq d e),H,I,rfl,q⟩
def xV {K:PySem.W.Frag} {k:Nat} (hr:Room k X.A) (hK:X.K=K):OpR X (compareOp .NotEq) (uY K true):=by
 subst hK
 intro pins s σ H x y v u Q I rx ry h
 obtain ⟨d,e,hq,hd,he,hc,hdp,q⟩:=h
 have hu:=hr.units
 exact (wP I hq (by omega) hc hd he rx ry).2 _ _ _ _ ⟨.bl (!peq d e),H,I,rfl,q⟩
end
end L2
namespace L2
open PySem PySem.Spec PyProof.Rows
structure Step (F H F' H':Hp):Prop where
 hh:Same H H'
 ff:Same F F'
 fh:Same F' H'
 nw:∀ b o,F' b=some o->F b=some o∨H b=none
section
variable {F H F' H' F1 H1:Hp} {p:Addr} {o:HO}
def Step.refl (h:Same F H):Step F H F H:=⟨Same.refl _,Same.refl _,h,fun _ _ e=>.inl e⟩
def Step.trans (a:Step F H F1 H1) (b:Step F1 H1 F' H'):Step F H F' H':=
 ⟨a.hh.trans b.hh,a.ff.trans b.ff,b.fh,fun c o e=>(b.nw c o e).elim (a.nw c o) fun z=>.inr (a.hh.free z)⟩
def Same.upd (hp:H p=none):Same H (upd H p o):=fun b u e=>by
 rw [aF (bW e hp)]
 exact e
def Step.new (h:Same F H) (hp:H p=none):Step F H (upd F p o) (upd H p o) where
 hh:=Same.upd hp
 ff:=Same.upd (h.free hp)
 fh:=fun b u e=>by
  by_cases hb:b=p
  · subst hb
    rw [az] at e ⊢
    exact e
  · rw [aF hb] at e ⊢
    exact h _ _ e
 nw:=fun b u e=>by
  by_cases hb:b=p
  · subst hb
    exact .inr hp
  · rw [aF hb] at e
    exact .inl e
def Step.made (h:Same F H) (hp:H p=none):Step F H F (upd H p o) where
 hh:=Same.upd hp
 ff:=Same.refl _
 fh:=h.trans (Same.upd hp)
 nw:=fun b u e=>.inl e
end
inductive Fl where
 | leaf (d:Dt) | lst (l:List Dt) | dct (l:List (Key×Dt)) | dcT (l:List (List Key×Dt))
def Fl.d:Fl->Dt
 | .leaf d=>d
 | .lst l=>.lst l
 | .dct l=>.dct (l.map (·.1)) (l.map (·.2))
 | .dcT l=>.dcT (l.map (·.1)) (l.map (·.2))
inductive T where
 | leaf (d:Dt) | lst (l:List Dt) | dct (l:List (Key×Dt)) | dcT (l:List (List Key×Dt)) | obj (c:Str) (ns:List Str) (l:List Fl) | pin (a:Addr) (t:T)
def T.d:T->Dt
 | .leaf d=>d
 | .lst l=>.lst l
 | .dct l=>.dct (l.map (·.1)) (l.map (·.2))
 | .dcT l=>.dcT (l.map (·.1)) (l.map (·.2))
 | .obj c ns l=>.ins c ns (l.map Fl.d)
 | .pin _ t=>t.d
noncomputable def OwnF (K:PySem.W.Frag) (F H:Hp):Fl->V->(Addr->Prop)->Prop
 | .leaf d,v,_=>Rep K F d v
 | .lst l,v,S=>∃ a vs,v=.ref a/\S a/\H a=some (.lst vs)/\Reps K F l vs
 | .dct l,v,S=>∃ a kvs,v=.ref a/\S a/\H a=some (.dK kvs)/\kvs.map (·.1)=l.map (·.1)/\Reps K F (l.map (·.2)) (kvs.map (·.2))
 | .dcT l,v,S=>∃ a kvs,v=.ref a/\S a/\H a=some (.dT kvs)/\kvs.map (·.1)=l.map (·.1)/\Reps K F (l.map (·.2)) (kvs.map (·.2))
structure OwnFs (K:PySem.W.Frag) (F H:Hp) (l:List Fl) (vs:List V) (a:Addr) (S:Addr->Prop) (Z:Nat->Addr->Prop):Prop where
 len:l.length=vs.length
 own:∀ i f v,l[i]?=some f->vs[i]?=some v->OwnF K F H f v (Z i)
 sub:∀ i b,Z i b->S b/\b≠a
 dis:∀ i j b,Z i b->Z j b->i=j
noncomputable def Own (K:PySem.W.Frag) (F H:Hp):T->V->(Addr->Prop)->Prop
 | .leaf d,v,_=>Rep K F d v
 | .lst l,v,S=>∃ a vs,v=.ref a/\S a/\H a=some (.lst vs)/\Reps K F l vs
 | .dct l,v,S=>∃ a kvs,v=.ref a/\S a/\H a=some (.dK kvs)/\kvs.map (·.1)=l.map (·.1)/\Reps K F (l.map (·.2)) (kvs.map (·.2))
 | .dcT l,v,S=>∃ a kvs,v=.ref a/\S a/\H a=some (.dT kvs)/\kvs.map (·.1)=l.map (·.1)/\Reps K F (l.map (·.2)) (kvs.map (·.2))
 | .obj c ns l,v,S=>∃ a C dx fs Z,v=.ref a/\S a/\ClsAt K c C/\H a=some (.ins C dx fs)/\fs.map (·.1)=ns/\OwnFs K F H l (fs.map (·.2)) a S Z
 | .pin a t,v,S=>v=.ref a/\(∀ d,t≠.leaf d)/\Own K F H t v S
noncomputable def RepB (K:PySem.W.Frag) (F H:Hp):Dt->V->Prop
 | .lst l,v=>∃ a vs,v=.ref a/\SqL K H a vs/\Reps K F l vs
 | .dct ks l,v=>∃ a kvs,v=.ref a/\Rd H a (.dK kvs)/\kvs.map (·.1)=ks/\Reps K F l (kvs.map (·.2))
 | .dcT ks l,v=>∃ a kvs,v=.ref a/\Rd H a (.dT kvs)/\kvs.map (·.1)=ks/\Reps K F l (kvs.map (·.2))
 | .ins c ns l,v=>Rep K H (.ins c ns l) v
 | .non,v=>v=.non
 | .bl b,v=>v=.bl b
 | .int i,v=>v=.int i
 | .str x,v=>v=.str x
 | .tup l,v=>∃ a vs,v=.ref a/\SqT K F a vs/\Reps K F l vs
def OwnF.step {K:PySem.W.Frag} {F H F' H':Hp} {t:Fl} {v:V} {S:Addr->Prop} (ff:Same F F') (hh:∀ b o,S b->H b=some o->H' b=some o) (h:OwnF K F H t v S):OwnF K F' H' t v S:=by
 cases t with
 | leaf d=>exact Rep.same ff h
 | lst l =>
  obtain ⟨a,vs,e,hs,h1,h2⟩:=h
  exact ⟨a,vs,e,hs,hh _ _ hs h1,h2.same ff⟩
 | dct l =>
  obtain ⟨a,vs,e,hs,h1,h2,h3⟩:=h
  exact ⟨a,vs,e,hs,hh _ _ hs h1,h2,h3.same ff⟩
 | dcT l =>
  obtain ⟨a,vs,e,hs,h1,h2,h3⟩:=h
  exact ⟨a,vs,e,hs,hh _ _ hs h1,h2,h3.same ff⟩
def OwnF.rep {K:PySem.W.Frag} {F H G:Hp} {t:Fl} {v:V} {S:Addr->Prop} (ff:Same F G) (hg:∀ b o,S b->H b=some o->G b=some o) (h:OwnF K F H t v S):Rep K G t.d v:=by
 cases t with
 | leaf d=>exact Rep.same ff h
 | lst l =>
  obtain ⟨a,vs,e,q,h1,h2⟩:=h
  simp only [Fl.d,Rep]
  exact ⟨a,vs,e,SqL.of (hg _ _ q h1),h2.same ff⟩
 | dct l =>
  obtain ⟨a,vs,e,q,h1,h2,h3⟩:=h
  simp only [Fl.d,Rep]
  exact ⟨a,vs,e,.inl (hg _ _ q h1),h2,h3.same ff⟩
 | dcT l =>
  obtain ⟨a,vs,e,q,h1,h2,h3⟩:=h
  simp only [Fl.d,Rep]
  exact ⟨a,vs,e,.inl (hg _ _ q h1),h2,h3.same ff⟩
def mP {K:PySem.W.Frag} {G:Hp}:∀ {l:List Fl} {vs:List V},l.length=vs.length->(∀ (i:Nat) (f:Fl) (v:V),l[i]?=some f->vs[i]?=some v->Rep K G f.d v)->Reps K G (l.map Fl.d) vs
 | [],[],_,_=>by simp [Reps]
 | [],_::_,h,_=>by cases h
 | _::_,[],h,_=>by cases h
 | f::l,v::vs,h,k=>by
  simp only [List.map_cons,Reps]
  exact ⟨v,vs,rfl,k 0 f v rfl rfl,mP (by simpa using h) fun i f v h1 h2=>k (i+1) f v (by simpa using h1) (by simpa using h2)⟩
def pA {K:PySem.W.Frag} {F H G:Hp} {c:Str} {ns:List Str} {l:List Fl} {v:V} {S:Addr->Prop} (ff:Same F G) (hg:∀ b o,S b->H b=some o->G b=some o) (h:Own K F H (.obj c ns l) v S):Rep K G (.ins c ns (l.map Fl.d)) v:=by
 obtain ⟨a,C,dx,fs,Z,e,hs,hc,h1,h2,h3⟩:=h
 simp only [Rep]
 exact ⟨a,C,dx,fs,e,hc,hg _ _ hs h1,h2,mP h3.len fun i f v e1 e2=>(h3.own i f v e1 e2).rep ff fun b o z=>hg b o (h3.sub i b z).1⟩
section
variable {K:PySem.W.Frag} {F H F' H':Hp} {t:T} {v:V} {d:Dt} {S:Addr->Prop}
def Own.step (ff:Same F F') (hh:∀ b o,S b->H b=some o->H' b=some o) (h:Own K F H t v S):Own K F' H' t v S:=by
 induction t with
 | leaf d=>exact Rep.same ff h
 | lst l =>
  obtain ⟨a,vs,e,hs,h1,h2⟩:=h
  exact ⟨a,vs,e,hs,hh _ _ hs h1,h2.same ff⟩
 | dct l =>
  obtain ⟨a,vs,e,hs,h1,h2,h3⟩:=h
  exact ⟨a,vs,e,hs,hh _ _ hs h1,h2,h3.same ff⟩
 | dcT l =>
  obtain ⟨a,vs,e,hs,h1,h2,h3⟩:=h
  exact ⟨a,vs,e,hs,hh _ _ hs h1,h2,h3.same ff⟩
 | obj c ns l =>
  obtain ⟨a,C,dx,fs,Z,e,hs,hc,h1,h2,h3⟩:=h
  exact ⟨a,C,dx,fs,Z,e,hs,hc,hh _ _ hs h1,h2,h3.len,fun i f v e1 e2=>(h3.own i f v e1 e2).step ff fun b o z=>hh b o (h3.sub i b z).1,h3.sub,h3.dis⟩
 | pin a t ih=>exact ⟨h.1,h.2.1,ih h.2.2⟩
def Own.grow {S':Addr->Prop} (hs:∀ b,S b->S' b) (h:Own K F H t v S):Own K F H t v S':=by
 induction t with
 | leaf d=>exact h
 | lst l =>
  obtain ⟨a,vs,e,q,h1⟩:=h
  exact ⟨a,vs,e,hs _ q,h1⟩
 | dct l =>
  obtain ⟨a,vs,e,q,h1⟩:=h
  exact ⟨a,vs,e,hs _ q,h1⟩
 | dcT l =>
  obtain ⟨a,vs,e,q,h1⟩:=h
  exact ⟨a,vs,e,hs _ q,h1⟩
 | obj c ns l =>
  obtain ⟨a,C,dx,fs,Z,e,q,hc,h1,h2,h3⟩:=h
  exact ⟨a,C,dx,fs,Z,e,hs _ q,hc,h1,h2,h3.len,h3.own,fun i b z=>⟨hs _ (h3.sub i b z).1,(h3.sub i b z).2⟩,h3.dis⟩
 | pin a t ih=>exact ⟨h.1,h.2.1,ih h.2.2⟩
def RepB.of (fh:Same F H) (h:Rep K F d v):RepB K F H d v:=by
 cases d with
 | lst l =>
  simp only [Rep] at h
  obtain ⟨a,vs,e,h1,h2⟩:=h
  exact ⟨a,vs,e,fh.seq h1,h2⟩
 | dct ks l =>
  simp only [Rep] at h
  obtain ⟨a,vs,e,h1,h2⟩:=h
  exact ⟨a,vs,e,fh.rd h1,h2⟩
 | dcT ks l =>
  simp only [Rep] at h
  obtain ⟨a,vs,e,h1,h2⟩:=h
  exact ⟨a,vs,e,fh.rd h1,h2⟩
 | tup l =>
  simp only [Rep] at h
  exact h
 | ins c ns l=>exact Rep.same fh h
 | _ =>
  simp only [Rep] at h
  exact h
def RepB.rep (fh:Same F H) (h:RepB K F H d v):Rep K H d v:=by
 cases d with
 | lst l =>
  obtain ⟨a,vs,e,h1,h2⟩:=h
  simp only [Rep]
  exact ⟨a,vs,e,h1,h2.same fh⟩
 | dct ks l =>
  obtain ⟨a,vs,e,h1,h2,h3⟩:=h
  simp only [Rep]
  exact ⟨a,vs,e,h1,h2,h3.same fh⟩
 | dcT ks l =>
  obtain ⟨a,vs,e,h1,h2,h3⟩:=h
  simp only [Rep]
  exact ⟨a,vs,e,h1,h2,h3.same fh⟩
 | tup l =>
  obtain ⟨a,vs,e,h1,h2⟩:=h
  simp only [Rep]
  exact ⟨a,vs,e,fh.tup h1,h2.same fh⟩
 | ins c ns l=>exact h
 | _ =>
  simp only [Rep]
  exact h
def RepB.step (ff:Same F F') (hh:Same H H') (h:RepB K F H d v):RepB K F' H' d v:=by
 cases d with
 | lst l =>
  obtain ⟨a,vs,e,h1,h2⟩:=h
  exact ⟨a,vs,e,hh.seq h1,h2.same ff⟩
 | dct ks l =>
  obtain ⟨a,vs,e,h1,h2,h3⟩:=h
  exact ⟨a,vs,e,hh.rd h1,h2,h3.same ff⟩
 | dcT ks l =>
  obtain ⟨a,vs,e,h1,h2,h3⟩:=h
  exact ⟨a,vs,e,hh.rd h1,h2,h3.same ff⟩
 | tup l =>
  obtain ⟨a,vs,e,h1,h2⟩:=h
  exact ⟨a,vs,e,ff.tup h1,h2.same ff⟩
 | ins c ns l=>exact Rep.same hh h
 | _=>exact h
def Own.repB (fh:Same F H) (h:Own K F H t v S):RepB K F H t.d v:=by
 induction t with
 | leaf d=>exact RepB.of fh h
 | lst l =>
  obtain ⟨a,vs,e,_,h1,h2⟩:=h
  exact ⟨a,vs,e,SqL.of h1,h2⟩
 | dct l =>
  obtain ⟨a,vs,e,_,h1,h2⟩:=h
  exact ⟨a,vs,e,.inl h1,h2⟩
 | dcT l =>
  obtain ⟨a,vs,e,_,h1,h2⟩:=h
  exact ⟨a,vs,e,.inl h1,h2⟩
 | obj c ns l=>exact pA fh (fun _ _ _ e=>e) h
 | pin a t ih=>exact ih h.2.2
open Classical in
def qK (F H:Hp) (S:Addr->Prop):Hp:=fun b=>if S b then H b else F b
def ic {b:Addr} (h:S b):qK F H S b=H b:=if_pos h
def jP {b:Addr} (h:¬ S b):qK F H S b=F b:=if_neg h
def pB (hs:∀ b,S b->F b=none):Same F (qK F H S):=fun b o e=>by
 have:¬ S b:=fun z=>by rw [hs b z] at e;cases e
 rw [jP this]
 exact e
def uZ (fh:Same F H):Same (qK F H S) H:=fun b o e=>by
 by_cases h:S b
 · rw [ic h] at e
   exact e
 · rw [jP h] at e
   exact fh _ _ e
def Own.freeze (hs:∀ b,S b->F b=none) (h:Own K F H t v S):Rep K (qK F H S) t.d v:=by
 have ff:=pB (H:=H) hs
 induction t with
 | leaf d=>exact Rep.same ff h
 | lst l =>
  obtain ⟨a,vs,e,q,h1,h2⟩:=h
  simp only [T.d,Rep]
  exact ⟨a,vs,e,SqL.of (by rw [ic q];exact h1),h2.same ff⟩
 | dct l =>
  obtain ⟨a,vs,e,q,h1,h2,h3⟩:=h
  simp only [T.d,Rep]
  exact ⟨a,vs,e,.inl (by rw [ic q];exact h1),h2,h3.same ff⟩
 | dcT l =>
  obtain ⟨a,vs,e,q,h1,h2,h3⟩:=h
  simp only [T.d,Rep]
  exact ⟨a,vs,e,.inl (by rw [ic q];exact h1),h2,h3.same ff⟩
 | obj c ns l=>exact pA ff (fun b o z e=>by rw [ic z];exact e) h
 | pin a t ih=>exact ih h.2.2
end
abbrev Ix:=Nat
abbrev De:=List (Option T)
structure Sep (K:PySem.W.Frag) (F H:Hp) (B:Addr->Prop) (L:Ix->Option (T×V)) (S:Ix->Addr->Prop):Prop where
 own:∀ i t v,L i=some (t,v)->Own K F H t v (S i)
 out:∀ i b,S i b->F b=none/\(∃ o,H b=some o)/\B b
 dis:∀ i j b,S i b->S j b->i=j
def kJ (δ:De) (σ:St) (i:Nat):Option (T×V):=match δ[i]?,σ[i]? with
 | some (some t),some (some v)=>some (t,v)
 | _,_=>none
structure Fm where
 K:PySem.W.Frag
 F0:Hp
 H0:Hp
 S0:Addr->Prop
def Fm.B (Φ:Fm) (b:Addr):Prop:=Φ.H0 b=none∨Φ.S0 b
structure En (Φ:Fm) (δ:De) (σ:St) (F H:Hp):Prop where
 fh:Same F H
 prot:∀ b o,Φ.H0 b=some o->¬ Φ.S0 b->H b=some o
 old:Same Φ.F0 F
 nw:∀ b o,F b=some o->Φ.F0 b=some o∨Φ.B b
 len:δ.length=σ.length
 has:∀ (i:Nat) (t:T),δ[i]?=some (some t)->∃ v,σ[i]?=some (some v)
 sep:∃ S,Sep Φ.K F H Φ.B (kJ δ σ) S
section
variable {Φ:Fm} {δ:De} {σ:St} {F H F' H':Hp}
def da {i:Nat} {t:T} {v:V} (h1:δ[i]?=some (some t)) (h2:σ[i]?=some (some v)):kJ δ σ i=some (t,v):=by
 unfold kJ
 rw [h1,h2]
def fR {i:Nat} {t:T} {v:V} (h:kJ δ σ i=some (t,v)):δ[i]?=some (some t)/\σ[i]?=some (some v):=by
 unfold kJ at h
 split at h
 · rename_i e1 e2
   cases h
   exact ⟨e1,e2⟩
 · cases h
def En.fresh (e:En Φ δ σ F H) {p:Addr} (hp:H p=none):Φ.B p:=by
 by_cases h:Φ.S0 p
 · exact .inr h
 · left
   cases q:Φ.H0 p with
   | none=>rfl
   | some o=>rw [e.prot p o q h] at hp;cases hp
def Sep.step {K:PySem.W.Frag} {B:Addr->Prop} {L:Ix->Option (T×V)} {S:Ix->Addr->Prop} (s:Sep K F H B L S) (st:Step F H F' H'):Sep K F' H' B L S where
 own:=fun i t v h=>(s.own i t v h).step st.ff fun b o _ e=>st.hh b o e
 out:=fun i b h=>by
  obtain ⟨h1,⟨o,h2⟩,h3⟩:=s.out i b h
  refine ⟨?_,⟨o,st.hh _ _ h2⟩,h3⟩
  cases q:F' b with
  | none=>rfl
  | some o' =>
   rcases st.nw b o' q with z | z
   · rw [h1] at z;cases z
   · rw [h2] at z;cases z
 dis:=s.dis
def En.step (e:En Φ δ σ F H) (st:Step F H F' H'):En Φ δ σ F' H' where
 fh:=st.fh
 prot:=fun b o h1 h2=>st.hh _ _ (e.prot b o h1 h2)
 old:=e.old.trans st.ff
 nw:=fun b o h=>by
  rcases st.nw b o h with z | z
  · exact e.nw b o z
  · exact .inr (e.fresh z)
 len:=e.len
 has:=e.has
 sep:=let ⟨S,s⟩:=e.sep;⟨S,s.step st⟩
def En.slot (e:En Φ δ σ F H) {i:Nat} {t:T} (h:δ[i]?=some (some t)):∃ v,σ[i]?=some (some v)/\RepB Φ.K F H t.d v:=by
 obtain ⟨v,hv⟩:=e.has i t h
 obtain ⟨S,s⟩:=e.sep
 exact ⟨v,hv,(s.own i t v (da h hv)).repB e.fh⟩
def En.leaf (e:En Φ δ σ F H) {i:Nat} {d:Dt} (h:δ[i]?=some (some (.leaf d))):∃ v,σ[i]?=some (some v)/\Rep Φ.K F d v:=by
 obtain ⟨v,hv⟩:=e.has i _ h
 obtain ⟨S,s⟩:=e.sep
 exact ⟨v,hv,s.own i _ v (da h hv)⟩
def eZ {α:Type} {l:List (Option α)} {i j:Nat} {x y:Option α} (h:(l.set i x)[j]?=some y):(i=j/\y=x)∨(i≠j/\l[j]?=some y):=by
 by_cases hij:i=j
 · subst hij
   left
   rw [List.getElem?_set] at h
   simp only [if_true] at h
   split at h
   · cases h;exact ⟨rfl,rfl⟩
   · cases h
 · right
   rw [gN hij] at h
   exact ⟨hij,h⟩
def En.put (e:En Φ δ σ F H) {t:T} {v:V} {S':Addr->Prop} (st:Step F H F' H') (ho:Own Φ.K F' H' t v S') (hs:∀ b,S' b->F' b=none/\H b=none/\∃ o,H' b=some o) (i:Nat):En Φ (δ.set i (some t)) (σ.set i (some v)) F' H':=by
 have e':=e.step st
 obtain ⟨S,s⟩:=e.sep
 have s':=s.step st
 refine ⟨e'.fh,e'.prot,e'.old,e'.nw,by simp [e.len],fun j u h=>?_,fun j b=>if j=i then S' b else S j b,?_,?_,?_⟩
 · rcases eZ h with ⟨rfl,z⟩ | ⟨hn,z⟩
   · have hi:i<σ.length:=by
      rw [<- e.len]
      have:=(gX h).1
      simpa using this
     exact ⟨v,by simp [hi]⟩
   · obtain ⟨w,hw⟩:=e.has j u z
     exact ⟨w,by rw [gN hn];exact hw⟩
 · intro j u w h
   obtain ⟨h1,h2⟩:=fR h
   rcases eZ h1 with ⟨rfl,z⟩ | ⟨hn,z⟩
   · rcases eZ h2 with ⟨_,z2⟩ | ⟨hn2,_⟩
     · cases z
       cases z2
       show Own _ _ _ _ _ (fun b=>if i=i then S' b else S i b)
       simp only [if_true]
       exact ho
     · exact absurd rfl hn2
   · rcases eZ h2 with ⟨z2,_⟩ | ⟨_,z2⟩
     · exact absurd z2 hn
     · have:¬ j=i:=fun q=>hn q.symm
       show Own _ _ _ _ _ (fun b=>if j=i then S' b else S j b)
       simp only [if_neg this]
       exact s'.own j u w (da z z2)
 · intro j b h
   split at h
   · obtain ⟨h1,h2,h3⟩:=hs b h
     exact ⟨h1,h3,e.fresh h2⟩
   · exact s'.out _ b h
 · have old:∀ j b,S j b->¬ S' b:=fun j b h z=>by
    obtain ⟨_,⟨o,h2⟩,_⟩:=s.out j b h
    rw [(hs b z).2.1] at h2
    cases h2
   intro j k b hj hk
   split at hj<;>split at hk
   · rename_i q1 q2
     rw [q1,q2]
   · exact absurd hj (old _ b hk)
   · exact absurd hk (old _ b hj)
   · exact s.dis _ _ b hj hk
def qL {K:PySem.W.Frag} {t:T} {a:Addr} {S:Addr->Prop} (ht:∀ d,t≠.leaf d) (h:Own K F H t (.ref a) S):S a:=by
 induction t with
 | leaf d=>exact absurd rfl (ht d)
 | lst l=>obtain ⟨b,_,e,q,_⟩:=h;cases e;exact q
 | dct l=>obtain ⟨b,_,e,q,_⟩:=h;cases e;exact q
 | dcT l=>obtain ⟨b,_,e,q,_⟩:=h;cases e;exact q
 | obj c ns l=>obtain ⟨b,_,_,_,_,e,q,_⟩:=h;cases e;exact q
 | pin b t ih=>exact ih h.2.1 h.2.2
def En.poke (e:En Φ δ σ F H) {i:Nat} {t t':T} {a:Addr} {o:HO} (h:δ[i]?=some (some t)) (hv:σ[i]?=some (some (.ref a))) (ht:∀ d,t≠.leaf d) (ho:∀ S:Addr->Prop,S a->Own Φ.K F (upd H a o) t' (.ref a) S) :
  En Φ (δ.set i (some t')) σ F (upd H a o):=by
 obtain ⟨S,s⟩:=e.sep
 have sa:S i a:=qL ht (s.own i t _ (da h hv))
 obtain ⟨fa,⟨oa,ha⟩,ba⟩:=s.out _ a sa
 have hi:i<δ.length:=(gX h).1
 refine ⟨fun b u z=>?_,fun b u h1 h2=>?_,e.old,e.nw,by simp [e.len],fun j u z=>?_,S,fun j u w z=>?_,fun j b z=>?_,s.dis⟩
 · have:b≠a:=fun q=>by rw [q,fa] at z;cases z
   rw [aF this]
   exact e.fh _ _ z
 · have:b≠a:=fun q=>by
    subst q
    rcases ba with z | z
    · rw [z] at h1;cases h1
    · exact h2 z
   rw [aF this]
   exact e.prot b u h1 h2
 · rcases eZ z with ⟨rfl,_⟩ | ⟨hn,z⟩
   · exact ⟨_,hv⟩
   · exact e.has j u z
 · obtain ⟨h1,h2⟩:=fR z
   rcases eZ h1 with ⟨rfl,z1⟩ | ⟨hn,z1⟩
   · cases z1
     rw [hv] at h2
     cases h2
     exact ho _ sa
   · refine (s.own j u w (da z1 h2)).step (Same.refl _) fun b q hb hq=>?_
     have:b≠a:=fun y=>by
      subst y
      exact hn (s.dis _ _ _ hb sa).symm
     rw [aF this]
     exact hq
 · obtain ⟨h1,⟨q,h2⟩,h3⟩:=s.out j b z
   refine ⟨h1,?_,h3⟩
   by_cases y:b=a
   · subst y
     exact ⟨o,az⟩
   · exact ⟨q,by rw [aF y];exact h2⟩
end
def KO (K:PySem.W.Frag) (F H:Hp) (t:T) (Q:VK):Prop:=∀ v H' F' S,Step F H F' H'->Own K F' H' t v S->(∀ b,S b->F' b=none/\H b=none/\∃ o,H' b=some o)->Q v H'
def KL (K:PySem.W.Frag) (F H:Hp) (d:Dt) (Q:VK):Prop:=∀ v H' F',Step F H F' H'->Rep K F' d v->Q v H'
def KB (K:PySem.W.Frag) (F H:Hp) (d:Dt) (Q:VK):Prop:=∀ v H' F',Step F H F' H'->RepB K F' H' d v->Q v H'
section
variable {K:PySem.W.Frag} {F H F1 H1:Hp} {t:T} {d:Dt} {Q:VK}
def KO.step (k:KO K F H t Q) (st:Step F H F1 H1):KO K F1 H1 t Q:=fun v H' F' S s o hs=>k v H' F' S (st.trans s) o fun b z=>⟨(hs b z).1,st.hh.free (hs b z).2.1,(hs b z).2.2⟩
def KO.leaf (k:KO K F H (.leaf d) Q):KL K F H d Q:=fun v H' F' st r=>k v H' F' (fun _=>False) st r fun _ z=>z.elim
def KL.here (k:KL K F H d Q) (fh:Same F H) {v:V} (r:Rep K F d v):Q v H:=k v H F (Step.refl fh) r
def KB.to (k:KB K F H d Q):KL K F H d Q:=fun v H' F' st r=>k v H' F' st (RepB.of st.fh r)
def KL.to (k:KL K F H t.d Q):KO K F H t Q:=fun v H' F' S st o hs=>by
 refine k v H' (qK F' H' S) ⟨st.hh,st.ff.trans (pB fun b z=>(hs b z).1),uZ st.fh,fun b u z=>?_⟩ (o.freeze fun b z=>(hs b z).1)
 by_cases hb:S b
 · exact .inr (hs b hb).2.1
 · rw [jP hb] at z
   exact st.nw b u z
def KB.toO (k:KB K F H t.d Q):KO K F H t Q:=fun v H' F' S st o hs=>k v H' F' st (o.repB st.fh)
end
def tO (K:PySem.W.Frag) (f:De->Option T):TE:=fun σ H Q=>∃ Φ δ F t,Fm.K Φ=K/\En Φ δ σ F H/\f δ=some t/\KO K F H t Q
def tL (K:PySem.W.Frag) (f:De->Option Dt):TE:=fun σ H Q=>∃ Φ δ F d,Fm.K Φ=K/\En Φ δ σ F H/\f δ=some d/\KL K F H d Q
def tBd (K:PySem.W.Frag) (f:De->Option Dt):TE:=fun σ H Q=>∃ Φ δ F d,Fm.K Φ=K/\En Φ δ σ F H/\f δ=some d/\KB K F H d Q
def tTr (K:PySem.W.Frag) (f:De->Option Bool):TT:=fun σ H Q=>∃ Φ δ F b,Fm.K Φ=K/\En Φ δ σ F H/\f δ=some b/\∀ H' F',Step F H F' H'->Q b H'
def DO (X:Cx) (e:Expr) (f:De->Option T):Prop:=PE X e (tO X.K f)
def DL (X:Cx) (e:Expr) (f:De->Option Dt):Prop:=PE X e (tL X.K f)
def DB (X:Cx) (e:Expr) (f:De->Option Dt):Prop:=PE X e (tBd X.K f)
def DT (X:Cx) (e:Expr) (f:De->Option Bool):Prop:=PT X e (tTr X.K f)
def DW (X:Cx) (e:Expr) (f:De->Option Bool):Prop:=PW X e (tTr X.K f)
def PE.mono {X:Cx} {e:Expr} {t t':TE} (h:PE X e t) (m:∀ σ H Q,t' σ H Q->t σ H Q):PE X e t':=fun pins s σ H Q I q=>h pins s σ H Q I (m _ _ _ q)
def PT.mono {X:Cx} {e:Expr} {t t':TT} (h:PT X e t) (m:∀ σ H Q,t' σ H Q->t σ H Q):PT X e t':=fun pins s σ H Q I q=>h pins s σ H Q I (m _ _ _ q)
def PW.mono {X:Cx} {e:Expr} {t t':TT} (h:PW X e t) (m:∀ σ H Q,t' σ H Q->t σ H Q):PW X e t':=fun whole pins s σ H Q I q=>h whole pins s σ H Q I (m _ _ _ q)
def PA.mono {X:Cx} {e:List Expr} {t t':TA} (h:PA X e t) (m:∀ σ H Q,t' σ H Q->t σ H Q):PA X e t':=fun pos pins s σ H Q I q=>h pos pins s σ H Q I (m _ _ _ q)
def PI.mono {X:Cx} {tg e:Expr} {t t':TI} (h:PI X tg e t) (m:∀ σ H Q,t' σ H Q->t σ H Q):PI X tg e t':=fun pins s σ H Q I q=>h pins s σ H Q I (m _ _ _ q)
def PG.mono {X:Cx} {e:Expr} {t t':TG} (h:PG X e t) (m:∀ v σ H Q,t' v σ H Q->t v σ H Q):PG X e t':=fun pins s σ H v u Q I r q=>h pins s σ H v u Q I r (m _ _ _ _ q)
def PS.mono {X:Cx} {e:Stmt} {t t':TS} (h:PS X e t) (m:∀ D σ H,t' D σ H->t D σ H):PS X e t':=fun pins s σ H Q I q=>h pins s σ H Q I (m _ _ _ q)
def PSs.mono {X:Cx} {e:List Stmt} {t t':TS} (h:PSs X e t) (m:∀ D σ H,t' D σ H->t D σ H):PSs X e t':=fun pins s σ H Q I q=>h pins s σ H Q I (m _ _ _ q)
def PE.or {X:Cx} {e:Expr} {t t':TE} (h:PE X e t) (h':PE X e t'):PE X e (fun σ H Q=>t σ H Q∨t' σ H Q):=fun pins s σ H Q I q=>q.elim (h pins s σ H Q I) (h' pins s σ H Q I)
def PI.or {X:Cx} {tg e:Expr} {t t':TI} (h:PI X tg e t) (h':PI X tg e t'):PI X tg e (fun σ H Q=>t σ H Q∨t' σ H Q):=fun pins s σ H Q I q=>q.elim (h pins s σ H Q I) (h' pins s σ H Q I)
section
variable {X:Cx} {e a b c:Expr} {f:De->Option T} {g fa fb fc:De->Option Dt} {pos:Pos}
def toD (f:De->Option T):De->Option Dt:=fun δ=>(f δ).map T.d
def toT (f:De->Option Dt):De->Option T:=fun δ=>(f δ).map T.leaf
def DO.toL (h:DO X e f):DL X e (toD f):=PE.mono h fun σ H Q ⟨Φ,δ,F,d,hK,en,hf,k⟩=>by
 unfold toD at hf
 cases ht:f δ with
 | none=>rw [ht] at hf;cases hf
 | some t =>
  rw [ht] at hf
  cases hf
  exact ⟨Φ,δ,F,t,hK,en,ht,k.to⟩
def DO.toB (h:DO X e f):DB X e (toD f):=PE.mono h fun σ H Q ⟨Φ,δ,F,d,hK,en,hf,k⟩=>by
 unfold toD at hf
 cases ht:f δ with
 | none=>rw [ht] at hf;cases hf
 | some t =>
  rw [ht] at hf
  cases hf
  exact ⟨Φ,δ,F,t,hK,en,ht,k.toO⟩
def DL.toB (h:DL X e g):DB X e g:=PE.mono h fun σ H Q ⟨Φ,δ,F,d,hK,en,hf,k⟩=>⟨Φ,δ,F,d,hK,en,hf,k.to⟩
def DL.toO (h:DL X e g):DO X e (toT g):=PE.mono h fun σ H Q ⟨Φ,δ,F,t,hK,en,hf,k⟩=>by
 unfold toT at hf
 cases hd:g δ with
 | none=>rw [hd] at hf;cases hf
 | some d =>
  rw [hd] at hf
  cases hf
  exact ⟨Φ,δ,F,d,hK,en,hd,k.leaf⟩
def vL (i:Nat):De->Option Dt:=fun δ=>match δ[i]? with
 | some (some (.leaf d))=>some d
 | _=>none
def vB (i:Nat):De->Option Dt:=fun δ=>match δ[i]? with
 | some (some t)=>some t.d
 | _=>none
def aG {i:Nat} (h:PE X e (lu i)):DL X e (vL i):=PE.mono h fun σ H Q ⟨Φ,δ,F,d,hK,en,hf,k⟩=>by
 unfold vL at hf
 split at hf
 · rename_i q
   cases hf
   obtain ⟨v,h1,h2⟩:=en.leaf q
   exact ⟨v,h1,k.here en.fh (hK▸h2)⟩
 · cases hf
def aw {i:Nat} (h:PE X e (lu i)):DB X e (vB i):=PE.mono h fun σ H Q ⟨Φ,δ,F,d,hK,en,hf,k⟩=>by
 unfold vB at hf
 split at hf
 · rename_i q
   cases hf
   obtain ⟨v,h1,h2⟩:=en.slot q
   exact ⟨v,h1,k v H F (Step.refl en.fh) (hK▸h2)⟩
 · cases hf
def kD (d:Dt):De->Option Dt:=fun _=>some d
def u1 {v:V} {d:Dt} (h:PE X e (tC v)) (r:∀ F,Rep X.K F d v):DL X e (kD d):=PE.mono h fun σ H Q ⟨Φ,δ,F,d',hK,en,hf,k⟩=>by
 cases hf
 exact k.here en.fh (r F)
def ah {i:Int} {j}:DL X (.Constant (.int i) j pos) (kD (.int i)):=u1 xq fun F=>by simp only [Rep]
def kK {i:Bool} {j}:DL X (.Constant (.bool i) j pos) (kD (.bl i)):=u1 yP fun F=>by simp only [Rep]
def lN {j}:DL X (.Constant .none j pos) (kD .non):=u1 xr fun F=>by simp only [Rep]
def gM {x:Str} {j}:DL X (.Constant (.str x) j pos) (kD (.str x)):=u1 xt fun F=>by simp only [Rep]
def R2D (K:PySem.W.Frag) (r:R2) (g:Dt->Dt->Option T):Prop:=∀ F H x y vx vy (Q:VK) t,Same F H->RepB K F H x vx->RepB K F H y vy->g x y=some t->KO K F H t Q->r vx vy H Q
def d2 (g:Dt->Dt->Option T) (fa fb:De->Option Dt):De->Option T:=fun δ=>(fa δ).bind fun x=>(fb δ).bind fun y=>g x y
def pC {K:PySem.W.Frag} {r:R2} {g:Dt->Dt->Option T} (hr:R2D K r g) {σ:St} {H:Hp} {Q:VK} (h:tO K (d2 g fa fb) σ H Q):tOp r (tBd K fa) (tBd K fb) σ H Q:=by
 obtain ⟨Φ,δ,F,t,hK,en,hf,k⟩:=h
 unfold d2 at hf
 obtain ⟨x,hx,hf⟩:=bS hf
 obtain ⟨y,hy,hf⟩:=bS hf
 exact ⟨Φ,δ,F,x,hK,en,hx,fun v H1 F1 st rv=>⟨Φ,δ,F1,y,hK,en.step st,hy,fun v2 H2 F2 st2 rv2=>hr F2 H2 x y v v2 Q t st2.fh (rv.step st2.ff st2.hh) rv2 hf (k.step (st.trans st2))⟩⟩
def aJ {op:Operator} {r:R2} {g:Dt->Dt->Option T} (ho:OpR X (binaryOp op) r) (hr:R2D X.K r g) (ha:DB X a fa) (hb:DB X b fb):DO X (.BinOp a op b pos) (d2 g fa fb):=PE.mono (oZ ho ha hb) fun σ H Q h=>pC hr h
def xW {op:CmpOp} {r:R2} {g:Dt->Dt->Option T} (ho:OpR X (compareOp op) r) (hr:R2D X.K r g) (ha:DB X a fa) (hb:DB X b fb) (hm:behindInMarks op b=false):DO X (.Compare a [op] [b] pos) (d2 g fa fb):=PE.mono (o6 ho ha hb hm) fun σ H Q h=>pC hr h
def asB:T->Option Bool
 | .leaf (.bl b)=>some b
 | _=>none
def tB2 (g:Dt->Dt->Option T) (fa fb:De->Option Dt):De->Option Bool:=fun δ=>(d2 g fa fb δ).bind asB
def u2 {K:PySem.W.Frag} {F H:Hp} {t:T} {v:V} {S:Addr->Prop} {b:Bool} (h:asB t=some b) (o:Own K F H t v S):v=.bl b:=by
 unfold asB at h
 split at h
 · cases h
   have o:Rep K F (.bl b) v:=o
   simp only [Rep] at o
   exact o
 · cases h
def fS {op:CmpOp} {r:R2} {g:Dt->Dt->Option T} (ho:OpR X (compareOp op) r) (hr:R2D X.K r g) (ha:DB X a fa) (hb:DB X b fb) (hm:behindInMarks op b=false):DT X (.Compare a [op] [b] pos) (tB2 g fa fb):=PT.mono (lx ho ha hb hm) fun σ H Q ⟨Φ,δ,F,t,hK,en,hf,k⟩=>by
 unfold tB2 at hf
 obtain ⟨z,hz,hf⟩:=bS hf
 refine pC hr ⟨Φ,δ,F,z,hK,en,hz,fun v H' F' S st o hs=>?_⟩
 exact ⟨t,u2 hf o,k H' F' st⟩
def u3:Dt->Option Bool
 | .non=>some false
 | .bl b=>some b
 | .int i=>some (i != 0)
 | .str x=>if x.length<=sizeLine then some ((x.length:Int) != 0) else none
 | .tup l=>some (!l.isEmpty)
 | .lst l=>some (!l.isEmpty)
 | _=>none
def sv (f:De->Option Dt):De->Option Bool:=fun δ=>(f δ).bind u3
def ie {K:PySem.W.Frag} {F:Hp} {l:List Dt} {vs:List V} (h:Reps K F l vs):l.isEmpty=vs.isEmpty:=by
 cases l with
 | nil=>unfold Reps at h;rw [h];rfl
 | cons d l=>unfold Reps at h;obtain ⟨v,ws,rfl,_⟩:=h;rfl
def pD {K:PySem.W.Frag} {F H:Hp} {d:Dt} {v:V} {b:Bool} (fh:Same F H) (h:RepB K F H d v) (hb:u3 d=some b):xG K v H b:=by
 cases d with
 | non=>cases h;cases hb;rfl
 | bl x=>cases h;cases hb;rfl
 | int x=>cases h;cases hb;rfl
 | str x =>
  cases h
  simp only [u3] at hb
  split at hb
  · cases hb;exact ⟨by assumption,rfl⟩
  · cases hb
 | tup l =>
  obtain ⟨a,vs,rfl,h1,h2⟩:=h
  cases hb
  exact .inr (.inl ⟨vs,fh.tup h1,by rw [ie h2]⟩)
 | lst l =>
  obtain ⟨a,vs,rfl,h1,h2⟩:=h
  cases hb
  exact .inl ⟨vs,h1,by rw [ie h2]⟩
 | dct ks l=>cases hb
 | dcT ks l=>cases hb
 | ins c ns l=>cases hb
def sw (ha:DB X a fa) (he:∀ whole,isTrue a X.env whole=(do let v <- whole;standAt a.pos;holding [v] (truthy v))):DT X a (sv fa):=PT.mono (mE ha he) fun σ H Q ⟨Φ,δ,F,b,hK,en,hf,k⟩=>by
 unfold sv at hf
 obtain ⟨d,hd,hf⟩:=bS hf
 exact ⟨Φ,δ,F,d,hK,en,hd,fun v H' F' st r=>⟨b,pD st.fh r hf,k H' F' st⟩⟩
variable {ta tb tc:De->Option Bool} {rest:List Expr}
def DW.t (h:DW X a ta):DT X a ta:=h.pt
def sx {K:PySem.W.Frag} {F:Hp} {b:Bool}:Rep K F (.bl b) (.bl b):=by simp only [Rep]
def gi {K:PySem.W.Frag} {F:Hp} {b:Int}:Rep K F (.int b) (.int b):=by simp only [Rep]
def jt {K:PySem.W.Frag} {F:Hp} {b:Str}:Rep K F (.str b) (.str b):=by simp only [Rep]
def pE {K:PySem.W.Frag} {F:Hp}:Rep K F .non .non:=by simp only [Rep]
variable {oa ob:De->Option T}
def kL (K:PySem.W.Frag) (F H:Hp):List Dt->List V->Prop
 | [],vs=>vs=[]
 | d::l,vs=>∃ v ws,vs=v::ws/\RepB K F H d v/\kL K F H l ws
def tAL (K:PySem.W.Frag) (f:De->Option (List Dt)):TA:=fun σ H Q=>∃ Φ δ F ds,Fm.K Φ=K/\En Φ δ σ F H/\f δ=some ds/\∀ vs H' F',Step F H F' H'->Reps K F' ds vs->Q vs H'
def tAB (K:PySem.W.Frag) (f:De->Option (List Dt)):TA:=fun σ H Q=>∃ Φ δ F ds,Fm.K Φ=K/\En Φ δ σ F H/\f δ=some ds/\∀ vs H' F',Step F H F' H'->kL K F' H' ds vs->Q vs H'
structure DA (X:Cx) (es:List Expr) (f:De->Option (List Dt)):Prop where
 len:∀ δ ds,f δ=some ds->ds.length=es.length
 pa:PA X es (tAL X.K f)
structure DAB (X:Cx) (es:List Expr) (f:De->Option (List Dt)):Prop where
 len:∀ δ ds,f δ=some ds->ds.length=es.length
 pa:PA X es (tAB X.K f)
def au:De->Option (List Dt):=fun _=>some []
def ab (f:De->Option Dt) (g:De->Option (List Dt)):De->Option (List Dt):=fun δ=>(f δ).bind fun d=>(g δ).bind fun ds=>some (d::ds)
variable {es:List Expr} {fs:De->Option (List Dt)}
def kM {n:Nat} {f:De->Option Dt} (h:∀ δ ds,fs δ=some ds->ds.length=n):∀ δ ds,ab f fs δ=some ds->ds.length=n+1:=fun δ ds hf=>by
 unfold ab at hf
 obtain ⟨x,hx,hf⟩:=bS hf
 obtain ⟨y,hy,hf⟩:=bS hf
 cases hf
 simp [h δ y hy]
def aD:DA X [] au:=⟨fun _ _ h=>by cases h;rfl,PA.mono fM fun σ H Q ⟨Φ,δ,F,ds,hK,en,hf,k⟩=>by
 cases hf
 exact k [] H F (Step.refl en.fh) (by simp only [Reps])⟩
def cN:DAB X [] au:=⟨fun _ _ h=>by cases h;rfl,PA.mono fM fun σ H Q ⟨Φ,δ,F,ds,hK,en,hf,k⟩=>by
 cases hf
 exact k [] H F (Step.refl en.fh) rfl⟩
def ag (h:DL X e g) (h':DA X es fs) (hs:starEach (e::es) X.env=(false,eval e X.env)::starEach es X.env:=by rfl):DA X (e::es) (ab g fs):=
 ⟨kM h'.len,PA.mono (dX h h'.pa hs) fun σ H Q ⟨Φ,δ,F,ds,hK,en,hf,k⟩=>by
  unfold ab at hf
  obtain ⟨x,hx,hf⟩:=bS hf
  obtain ⟨y,hy,hf⟩:=bS hf
  cases hf
  exact ⟨Φ,δ,F,x,hK,en,hx,fun v H1 F1 st r=>⟨Φ,δ,F1,y,hK,en.step st,hy,fun vs H2 F2 s2 r2=>k (v::vs) H2 F2 (st.trans s2) (by simp only [Reps];exact ⟨v,vs,rfl,r.same s2.ff,r2⟩)⟩⟩⟩
def bK (h:DB X e g) (h':DAB X es fs) (hs:starEach (e::es) X.env=(false,eval e X.env)::starEach es X.env:=by rfl):DAB X (e::es) (ab g fs):=
 ⟨kM h'.len,PA.mono (dX h h'.pa hs) fun σ H Q ⟨Φ,δ,F,ds,hK,en,hf,k⟩=>by
  unfold ab at hf
  obtain ⟨x,hx,hf⟩:=bS hf
  obtain ⟨y,hy,hf⟩:=bS hf
  cases hf
  exact ⟨Φ,δ,F,x,hK,en,hx,fun v H1 F1 st r=>⟨Φ,δ,F1,y,hK,en.step st,hy,fun vs H2 F2 s2 r2=>k (v::vs) H2 F2 (st.trans s2) ⟨v,vs,rfl,r.step s2.ff s2.hh,r2⟩⟩⟩⟩
def b6 (f:De->Option (List Dt)):De->Option T:=fun δ=>(f δ).bind fun ds=>if ds.length<=sizeLine then some (.leaf (.tup ds)) else none
def bN (f:De->Option (List Dt)):De->Option T:=fun δ=>(f δ).bind fun ds=>if ds.length<=sizeLine then some (.lst ds) else none
def bP {x1} (h:DA X es fs):DO X (.Tuple es x1 pos) (b6 fs):=PE.mono (jH h.pa) fun σ H Q ⟨Φ,δ,F,t,hK,en,hf,k⟩=>by
 unfold b6 at hf
 obtain ⟨ds,hd,hf⟩:=bS hf
 split at hf
 · rename_i hl
   cases hf
   refine ⟨Φ,δ,F,ds,hK,en,hd,fun vs H1 F1 st r=>⟨by rw [r.length];exact hl,fun p hp=>?_⟩⟩
   refine (k.step st).leaf _ _ _ (Step.new st.fh hp) ?_
   simp only [Rep]
   exact ⟨p,vs,rfl,SqT.of az,r.same (Same.upd (st.fh.free hp))⟩
 · cases hf
def ig {K:PySem.W.Frag} {F H:Hp} {ds:List Dt} {vs:List V} {p:Addr} {Q:VK} (k:KO K F H (.lst ds) Q) (fh:Same F H) (r:Reps K F ds vs) (hp:H p=none):Q (.ref p) (upd H p (.lst vs)):=by
 refine k _ _ F (fun b=>b=p) (Step.made fh hp) ⟨p,vs,rfl,rfl,az,r⟩ fun b z=>?_
 subst z
 exact ⟨fh.free hp,hp,_,az⟩
def bY (h:DA X es fs):DO X (.List es pos) (bN fs):=PE.mono (rP h.pa) fun σ H Q ⟨Φ,δ,F,t,hK,en,hf,k⟩=>by
 unfold bN at hf
 obtain ⟨ds,hd,hf⟩:=bS hf
 split at hf
 · rename_i hl
   cases hf
   exact ⟨Φ,δ,F,ds,hK,en,hd,fun vs H1 F1 st r=>⟨by rw [r.length];exact hl,fun p hp=>ig (k.step st) st.fh r hp⟩⟩
 · cases hf
def CRD (K:PySem.W.Frag) (r:List V->Hp->VK->Prop) (g:List Dt->Option T):Prop:=∀ F H ds vs (Q:VK) t,Same F H->kL K F H ds vs->g ds=some t->KO K F H t Q->r vs H Q
def aB (g:List Dt->Option T) (f:De->Option (List Dt)):De->Option T:=fun δ=>(f δ).bind g
def sy {K:PySem.W.Frag} {r:List V->Hp->VK->Prop} {g:List Dt->Option T} (hr:CRD K r g) {σ:St} {H:Hp} {Q:VK} (h:tO K (aB g fs) σ H Q):tCB r (tAB K fs) σ H Q:=by
 obtain ⟨Φ,δ,F,t,hK,en,hf,k⟩:=h
 unfold aB at hf
 obtain ⟨ds,hd,hf⟩:=bS hf
 exact ⟨Φ,δ,F,ds,hK,en,hd,fun vs H1 F1 st r=>hr F1 H1 ds vs Q t st.fh r hf (k.step st)⟩
variable {x:Str} {p:Pos} {id Ty:String} {sc:Scope} {r:List V->Hp->VK->Prop} {gg:List Dt->Option T}
def dN (h:bq sc x=true) (hc:CallR X (.builtin id) r) (hr:CRD X.K r gg) (hm:X.mg x=none) (hv:bootBuiltins x=some (.builtin id)) (ha:DAB X (e::es) fs) (e1:cW X sc:=by rfl)
  (he:starEach (e::es) X.env=(false,eval e X.env)::starEach es X.env:=by rfl) (hpl:(backTo pos (starEach es X.env)).any (·.1)=false:=by rfl):DO X (.Call (.Name x p) (e::es) [] pos) (aB gg fs):=
 PE.mono (kH h hc hm hv ha.pa e1 he hpl) fun σ H Q q=>sy hr q
def ii (h:bq sc x=true) (hc:CallR X (.type Ty) r) (hr:CRD X.K r gg) (hm:X.mg x=none) (hv:bootBuiltins x=some (.type Ty)) (ha:DAB X (e::es) fs) (e1:cW X sc:=by rfl)
  (he:starEach (e::es) X.env=(false,eval e X.env)::starEach es X.env:=by rfl) (hpl:(backTo pos (starEach es X.env)).any (·.1)=false:=by rfl):DO X (.Call (.Name x p) (e::es) [] pos) (aB gg fs):=
 PE.mono (gK h hc hm hv ha.pa e1 he hpl) fun σ H Q q=>sy hr q
def spD (K:PySem.W.Frag) (n:Nat) (f:List Dt->Option T):Sp:=fun vs H Q _=>∃ F ds t,Same F H/\ds.length=n/\Reps K F ds vs/\f ds=some t/\KO K F H t Q
def bc {k n:Nat} {ps:List Str} {ff:List Dt->Option T} (h:bq sc x=true) (F:OkF X.prog X.w X.K X.mg X.base x k ps (spD X.K n ff)) (hr:Room k X.A) (ha:DA X (e::es) fs) (hn:(e::es).length=n:=by rfl) (e1:cW X sc:=by rfl)
  (he:starEach (e::es) X.env=(false,eval e X.env)::starEach es X.env:=by rfl) (hpl:(backTo pos (starEach es X.env)).any (·.1)=false:=by rfl):DO X (.Call (.Name x p) (e::es) [] pos) (aB ff fs):=
 PE.mono (kI h F hr ha.pa e1 he hpl) fun σ H Q ⟨Φ,δ,Fz,t,hK,en,hf,k⟩=>by
  unfold aB at hf
  obtain ⟨ds,hd,hf⟩:=bS hf
  refine ⟨Φ,δ,Fz,ds,hK,en,hd,fun vs H1 F1 st r=>?_⟩
  show spD X.K n ff (vs++[]) H1 Q E0
  rw [List.append_nil]
  exact ⟨F1,ds,t,st.fh,(ha.len δ ds hd).trans hn,r,hf,k.step st⟩
end
inductive Out where
 | nx (δ:De) | rt (t:T) | bk (δ:De) | ct (δ:De) | re (t:T) (δ:De)
structure Rt (Φ:Fm) (t:T) (v:V) (F H:Hp):Prop where
 fh:Same F H
 prot:∀ b o,Φ.H0 b=some o->¬ Φ.S0 b->H b=some o
 old:Same Φ.F0 F
 nw:∀ b o,F b=some o->Φ.F0 b=some o∨Φ.B b
 own:∃ S,Own Φ.K F H t v S/\∀ b,S b->F b=none/\(∃ o,H b=some o)/\Φ.B b
structure Re (Φ:Fm) (t:T) (v:V) (δ:De) (σ:St) (F H:Hp):Prop where
 en:En Φ δ σ F H
 own:∃ S R,Sep Φ.K F H Φ.B (kJ δ σ) S/\Own Φ.K F H t v R/\∀ b,R b->F b=none/\(∃ o,H b=some o)/\Φ.B b/\∀ i,¬ S i b
noncomputable def Post (Φ:Fm) (D:Ends):Out->Prop
 | .nx δ=>∀ σ F H,En Φ δ σ F H->D.nx σ H
 | .rt t=>∀ v F H,Rt Φ t v F H->D.rt v H
 | .bk δ=>∀ σ F H,En Φ δ σ F H->D.bk σ H
 | .ct δ=>∀ σ F H,En Φ δ σ F H->D.ct σ H
 | .re t δ=>∀ v σ F H,Re Φ t v δ σ F H->D.rt v H
def tS (K:PySem.W.Frag) (g:De->Option Out):TS:=fun D σ H=>∃ Φ δ F o,Fm.K Φ=K/\En Φ δ σ F H/\g δ=some o/\Post Φ D o
def DS1 (X:Cx) (st:Stmt) (g:De->Option Out):Prop:=PS X st (tS X.K g)
def DS (X:Cx) (ss:List Stmt) (g:De->Option Out):Prop:=PSs X ss (tS X.K g)
section
variable {X:Cx} {st:Stmt} {rest a b body:List Stmt} {g g1 g2:De->Option Out} {e c tg iter:Expr} {pos:Pos} {f:De->Option T} {fd:De->Option Dt} {tc:De->Option Bool} {i:Nat}
def xX:De->Option Out:=fun δ=>some (.nx δ)
def dy (g1 g2:De->Option Out):De->Option Out:=fun δ=>(g1 δ).bind fun o=>match o with
 | .nx δ'=>g2 δ'
 | o=>some o
def sA:DS X [] xX:=PSs.mono oV fun D σ H ⟨Φ,δ,F,o,hK,en,hg,k⟩=>by
 cases hg
 exact k σ F H en
def db (h:DS1 X st g):DS X [st] g:=oW h
def bE (h1:DS1 X st g1) (h2:DS X rest g2):DS X (st::rest) (dy g1 g2):=PSs.mono (mC h1 h2) fun D σ H ⟨Φ,δ,F,o,hK,en,hg,k⟩=>by
 unfold dy at hg
 obtain ⟨o1,h1,hg⟩:=bS hg
 refine ⟨Φ,δ,F,o1,hK,en,h1,?_⟩
 cases o1 with
 | nx δ'=>exact fun σ' F' H' en'=>⟨Φ,δ',F',o,hK,en',hg,k⟩
 | rt t=>cases hg;exact k
 | bk δ'=>cases hg;exact k
 | ct δ'=>cases hg;exact k
 | re t δ'=>cases hg;exact k
def n6 (f:De->Option T):De->Option Out:=fun δ=>(f δ).map .rt
def En.rt {Φ:Fm} {δ:De} {σ:St} {F H F' H':Hp} {t:T} {v:V} {S:Addr->Prop} (en:En Φ δ σ F H) (st:Step F H F' H') (o:Own Φ.K F' H' t v S) (hs:∀ b,S b->F' b=none/\H b=none/\∃ o,H' b=some o):Rt Φ t v F' H':=by
 have e':=en.step st
 exact ⟨e'.fh,e'.prot,e'.old,e'.nw,S,o,fun b z=>⟨(hs b z).1,(hs b z).2.2,en.fresh (hs b z).2.1⟩⟩
def jQ (h:DO X e f):DS1 X (.Return (some e) pos) (n6 f):=PS.mono (nM h) fun D σ H ⟨Φ,δ,F,o,hK,en,hg,k⟩=>by
 unfold n6 at hg
 obtain ⟨t,ht,hg⟩:=mS hg
 cases hg
 exact ⟨Φ,δ,F,t,hK,en,ht,fun v H' F' S st o hs=>k v F' H' (en.rt st (hK▸o) hs)⟩
def pF (i:Nat):De->Option Out:=fun δ=>match δ[i]? with
 | some (some t)=>some (.rt t)
 | _=>none
def pG (h:PE X e (lu i)):DS1 X (.Return (some e) pos) (pF i):=PS.mono (nM h) fun D σ H ⟨Φ,δ,F,o,hK,en,hg,k⟩=>by
 unfold pF at hg
 split at hg
 · rename_i t q
   cases hg
   obtain ⟨v,hv⟩:=en.has i t q
   obtain ⟨S,s⟩:=en.sep
   exact ⟨v,hv,k v F H ⟨en.fh,en.prot,en.old,en.nw,S i,s.own i t v (da q hv),fun b z=>s.out i b z⟩⟩
 · cases hg
def sIf (c:De->Option Bool) (g1 g2:De->Option Out):De->Option Out:=fun δ=>(c δ).bind fun b=>if b then g1 δ else g2 δ
def sB (hc:DT X c tc) (h1:DS X a g1) (h2:DS X b g2):DS1 X (.If c a b pos) (sIf tc g1 g2):=PS.mono (wy hc h1 h2) fun D σ H ⟨Φ,δ,F,o,hK,en,hg,k⟩=>by
 unfold sIf at hg
 obtain ⟨x,hx,hg⟩:=bS hg
 refine ⟨Φ,δ,F,x,hK,en,hx,fun H' F' st=>?_⟩
 split at hg
 · rename_i q
   rw [if_pos q]
   exact ⟨Φ,δ,F',o,hK,en.step st,hg,k⟩
 · rename_i q
   rw [if_neg q]
   exact ⟨Φ,δ,F',o,hK,en.step st,hg,k⟩
def cX (i:Nat) (f:De->Option T):De->Option Out:=fun δ=>(f δ).map fun t=>.nx (δ.set i (some t))
def dz {sc:Scope} {N:List Str} {x:Str} {pos':Pos} (h:eg sc N i x=true) (hl:jm sc x=true) (nd:N.Nodup) (he:DO X e f) (e1:cW X sc:=by rfl) (e2:X.N=N:=by rfl) (hf:X.fn x=true∨X.env.scope.names.lookup x=some .local:=by exact .inl rfl)
  (hs:swapsWith e (some (.Name x pos')) pos.line X.env=pure false:=by rfl):DS1 X (.Assign [.Name x pos'] e pos) (cX i f):=PS.mono (pp h hl nd he e1 e2 hf hs) fun D σ H ⟨Φ,δ,F,o,hK,en,hg,k⟩=>by
 unfold cX at hg
 obtain ⟨t,ht,hg⟩:=mS hg
 cases hg
 exact ⟨Φ,δ,F,t,hK,en,ht,fun v H' F' S st o hs=>k _ F' H' (en.put st (hK▸o) hs i)⟩
noncomputable def gD (K:PySem.W.Frag) (ts:List Nat) (st:Dt->De->Option De):TG:=fun v σ H Q=>∃ Φ δ F d δ',Fm.K Φ=K/\En Φ δ σ F H/\Rep K F d v/\st d δ=some δ'/\∀ σ',σ'.length=σ.length->(∀ j,j∉ts->σ'[j]?=σ[j]?)->En Φ δ' σ' F H->Q σ' H
noncomputable def gsD (K:PySem.W.Frag) (ts:List Nat) (st:List Dt->De->Option De):TGs:=fun vs σ H Q=>∃ Φ δ F ds δ',Fm.K Φ=K/\En Φ δ σ F H/\Reps K F ds vs/\st ds δ=some δ'/\∀ σ',σ'.length=σ.length->(∀ j,j∉ts->σ'[j]?=σ[j]?)->En Φ δ' σ' F H->Q σ' H
def DG (X:Cx) (tg:Expr) (ts:List Nat) (bb:Dt->De->Option De):Prop:=PG X tg (gD X.K ts bb)
def DGs (X:Cx) (tg:List Expr) (ts:List Nat) (bb:List Dt->De->Option De):Prop:=PGs X tg (gsD X.K ts bb)
def am (i:Nat):Dt->De->Option De:=fun d δ=>some (δ.set i (some (.leaf d)))
def En.name {Φ:Fm} {δ:De} {σ:St} {F H:Hp} (en:En Φ δ σ F H) {d:Dt} {v:V} (r:Rep Φ.K F d v) (i:Nat):En Φ (δ.set i (some (.leaf d))) (σ.set i (some v)) F H:=
 en.put (Step.refl en.fh) (S':=fun _=>False) (t:=.leaf d) r (fun _ z=>z.elim) i
def bi (h:PG X tg (iY i)):DG X tg [i] (am i):=PG.mono h fun v σ H Q ⟨Φ,δ,F,d,δ',hK,en,r,hd,k⟩=>by
 cases hd
 refine k _ (by simp) (fun j hj=>?_) (en.name (hK▸r) i)
 rw [List.getElem?_set_ne fun z=>hj (by simp [z])]
def ce:List Dt->De->Option De:=fun ds δ=>if ds.isEmpty then some δ else none
def aH (b:Dt->De->Option De) (bs:List Dt->De->Option De):List Dt->De->Option De:=fun ds δ=>match ds with
 | d::r=>(b d δ).bind fun δ1=>bs r δ1
 | []=>none
def cf (n:Nat) (bs:List Dt->De->Option De):Dt->De->Option De:=fun d δ=>match d with
 | .tup ds=>if ds.length=n then bs ds δ else none
 | _=>none
def fj:DGs X [] [] ce:=fun pins s σ H vs us Q I r q=>oY pins s σ H vs us Q I r (by
 obtain ⟨Φ,δ,F,ds,δ',hK,en,rs,hd,k⟩:=q
 unfold ce at hd
 cases ds with
 | nil=>cases hd;simp only [Reps] at rs;exact ⟨rs,k σ rfl (fun _ _=>rfl) en⟩
 | cons d l=>cases hd)
def bC {es:List Expr} {ts ts':List Nat} {bb:Dt->De->Option De} {bs:List Dt->De->Option De} (h1:DG X e ts bb) (h2:DGs X es ts' bs)
  (hs:(assignEach (e::es) X.env).map (·.2)=assign e X.env::(assignEach es X.env).map (·.2):=by rfl):DGs X (e::es) (ts++ts') (aH bb bs):=fun pins s σ H vs us Q I r q=>mD h1 h2 hs pins s σ H vs us Q I r (by
 obtain ⟨Φ,δ,F,ds,δ',hK,en,rs,hd,k⟩:=q
 unfold aH at hd
 cases ds with
 | nil=>cases hd
 | cons d l =>
  simp only [Reps] at rs
  obtain ⟨v,ws,e,r1,r2⟩:=rs
  dsimp only at hd
  obtain ⟨δ1,hb,hd⟩:=bS hd
  refine ⟨v,ws,e,Φ,δ,F,d,δ1,hK,en,r1,hb,fun σ1 l1 k1 en1=>⟨Φ,δ1,F,l,δ',hK,en1,r2,hd,fun σ2 l2 k2 en2=>k σ2 (l2.trans l1) (fun j hj=>?_) en2⟩⟩
  rw [k2 j fun z=>hj (List.mem_append_right _ z),k1 j fun z=>hj (List.mem_append_left _ z)])
def gO {es:List Expr} {k:Nat} {n:Nat} {ts:List Nat} {bs:List Dt->De->Option De} (hc:X.calm=true) (h:DGs X es ts bs)
  (hn:(assignEach es X.env).length=n:=by rfl) (hst:(assignEach es X.env).findIdx? (·.1)=none:=by rfl):DG X (.Tuple es k pos) ts (cf n bs):=PG.mono (rG hc h hn hst) fun v σ H Q ⟨Φ,δ,F,d,δ',hK,en,r,hd,q⟩=>by
 unfold cf at hd
 split at hd
 · rename_i ds
   split at hd
   · rename_i hl
     simp only [Rep] at r
     obtain ⟨a,vs,e,h1,h2⟩:=r
     exact ⟨a,vs,e,en.fh.tup h1,by rw [h2.length];exact hl,Φ,δ,F,ds,δ',hK,en,h2,hd,q⟩
   · cases hd
 · cases hd
noncomputable def pH (K:PySem.W.Frag) (F':Hp) (J:It) (ds:List Dt) (ok:Hp->Prop):Prop:=∀ (i:Nat) (H F:Hp),ok H->Same F H->Same F' F->(i<ds.length->J.go i H)/\(i=ds.length->J.stop i H)/\∀ x H',i<ds.length->J.yld i H x H'->∃ d F2,ds[i]?=some d/\Step F H F2 H'/\Rep K F2 d x
def Plain.walk {K:PySem.W.Frag} {F':Hp} {J:It} {xs:List V} {ds:List Dt} {ok:Hp->Prop} (pl:Plain J xs ok) (r:Reps K F' ds xs):pH K F' J ds ok:=fun i H F hok fh ff=>by
 obtain ⟨p1,p2,p3⟩:=pl i H hok
 have hl:=r.length
 refine ⟨fun h=>p1 (by omega),fun h=>p2 (by omega),fun x H' hi hy=>?_⟩
 obtain ⟨rfl,hx⟩:=p3 x H' (by omega) hy
 have hd:ds[i]?=some ds[i]:=by simp [hi]
 obtain ⟨v,e,rv⟩:=r.get hd
 rw [hx] at e
 cases e
 exact ⟨_,F,hd,Step.refl fh,rv.same ff⟩
def tIF (K:PySem.W.Frag) (f:De->Option (List Dt)):TI:=fun σ H R=>∃ Φ δ F ds,Fm.K Φ=K/\En Φ δ σ F H/\f δ=some ds/\∀ J ok H' F',Step F H F' H'->pH K F' J ds ok->(∀ H2,Same F' H2->ok H2)->R J H'
def tIB (K:PySem.W.Frag) (f:De->Option (List Dt)):TI:=fun σ H R=>∃ Φ δ F ds,Fm.K Φ=K/\En Φ δ σ F H/\f δ=some ds/\∀ J ok H' F',Step F H F' H'->pH K F' J ds ok->(∀ H2,Same H' H2->ok H2)->R J H'
def DIF (X:Cx) (tg iter:Expr) (f:De->Option (List Dt)):Prop:=PI X tg iter (tIF X.K f)
def DIB (X:Cx) (tg iter:Expr) (f:De->Option (List Dt)):Prop:=PI X tg iter (tIB X.K f)
def DIF.toB {fi:De->Option (List Dt)} (h:DIF X tg iter fi):DIB X tg iter fi:=PI.mono h fun σ H R ⟨Φ,δ,F,ds,hK,en,hf,k⟩=>⟨Φ,δ,F,ds,hK,en,hf,fun J ok H' F' st wd ho=>k J ok H' F' st wd fun H2 s=>ho H2 (st.fh.trans s)⟩
end
section
variable {X:Cx} {st:Stmt} {rest a b body:List Stmt} {g g1 g2:De->Option Out} {e c tg iter l:Expr} {pos:Pos} {f:De->Option T} {fd:De->Option Dt} {tc:De->Option Bool} {i:Nat} {fi:De->Option (List Dt)}
noncomputable def gS (bb:Dt->De->Option De) (g:De->Option Out):List Dt->De->Option Out
 | [],δ=>some (.nx δ)
 | d::r,δ=>(bb d δ).bind fun δ1=>(g δ1).bind fun o=>match o with
  | .nx δ2=>gS bb g r δ2
  | .ct δ2=>gS bb g r δ2
  | .bk δ2=>some (.nx δ2)
  | .rt t=>some (.rt t)
  | .re t δ2=>some (.re t δ2)
def lO (fi:De->Option (List Dt)) (bb:Dt->De->Option De) (g:De->Option Out):De->Option Out:=fun δ=>(fi δ).bind fun ds=>gS bb g ds δ
def Reps.same_get {K:PySem.W.Frag} {F:Hp} {ds:List Dt} {xs:List V} (r:Reps K F ds xs) {i:Nat} {x:V} (h:xs[i]?=some x):∃ d,ds[i]?=some d/\Rep K F d x:=by
 have hl:=r.length
 have hi:i<xs.length:=(gX h).1
 have hd:ds[i]?=some ds[i]:=by simp [show i<ds.length by omega]
 obtain ⟨v,e,rv⟩:=r.get hd
 rw [h] at e
 cases e
 exact ⟨_,hd,rv⟩
def gj {α:Type} {l:List α} {i:Nat} {d:α} (h:l[i]?=some d):l.drop i=d::l.drop (i+1):=by
 have hi:i<l.length:=(gX h).1
 rw [List.drop_eq_getElem_cons hi]
 congr 1
 have:=(gX h).2
 exact this
def Fm.at (Φ:Fm) (F1:Hp):Fm:={Φ with F0:=F1}
def En.back {Φ:Fm} {δ δ':De} {σ σ':St} {F1 H1 F H:Hp} (en:En Φ δ σ F1 H1) (e:En (Φ.at F1) δ' σ' F H):En Φ δ' σ' F H:=
 ⟨e.fh,e.prot,en.old.trans e.old,fun b o h=>(e.nw b o h).elim (fun z=>en.nw b o z) .inr,e.len,e.has,e.sep⟩
def Rt.back {Φ:Fm} {δ:De} {σ:St} {F1 H1 F H:Hp} {t:T} {v:V} (en:En Φ δ σ F1 H1) (e:Rt (Φ.at F1) t v F H):Rt Φ t v F H:=
 ⟨e.fh,e.prot,en.old.trans e.old,fun b o h=>(e.nw b o h).elim (fun z=>en.nw b o z) .inr,e.own⟩
def Re.back {Φ:Fm} {δ δ':De} {σ σ':St} {F1 H1 F H:Hp} {t:T} {v:V} (en:En Φ δ σ F1 H1) (e:Re (Φ.at F1) t v δ' σ' F H):Re Φ t v δ' σ' F H:=⟨en.back e.en,e.own⟩
def En.at {Φ:Fm} {δ:De} {σ:St} {F1 H1:Hp} (en:En Φ δ σ F1 H1):En (Φ.at F1) δ σ F1 H1:=
 ⟨en.fh,en.prot,Same.refl _,fun b o h=>.inl h,en.len,en.has,en.sep⟩
def Post.at {Φ:Fm} {D:Ends} {o:Out} {δ:De} {σ:St} {F1 H1:Hp} (en:En Φ δ σ F1 H1) (k:Post Φ D o):Post (Φ.at F1) D o:=by
 cases o with
 | nx δ'=>exact fun σ' F H e=>k σ' F H (en.back e)
 | bk δ'=>exact fun σ' F H e=>k σ' F H (en.back e)
 | ct δ'=>exact fun σ' F H e=>k σ' F H (en.back e)
 | rt t=>exact fun v F H e=>k v F H (Rt.back en e)
 | re t δ'=>exact fun v σ' F H e=>k v σ' F H (Re.back en e)
def ij {n:Nat} {g:TG} {tb:TS} {D:Ends} {J:It} {σ:St} {H1:Hp} (Pv:Nat->St->Hp->Prop) (h0:Pv 0 σ H1) (hgo:∀ i σ H,Pv i σ H->(i<n->J.go i H)/\(i=n->J.stop i H))
  (hs:∀ i x σ H H',i<n->Pv i σ H->J.yld i H x H'->g x σ H' fun σ2 H2=>tb {D with nx:=Pv (i+1),ct:=Pv (i+1),bk:=D.nx} σ2 H2) (hd:∀ σ H,Pv n σ H->D.nx σ H):ForW g tb D J σ H1:=by
 refine ⟨fun i m σ H=>m=n-i/\i<=n/\Pv i σ H,⟨n,by simp,Nat.zero_le _,h0⟩,?_⟩
 rintro i m σ H ⟨rfl,hi,p⟩
 obtain ⟨p1,p2⟩:=hgo i σ H p
 by_cases hlt:i<n
 · exact .inr ⟨p1 hlt,Pv (i+1),fun σ' H' p'=>⟨n-(i+1),by omega,rfl,hlt,p'⟩,fun x H' y=>hs i x σ H H' hlt p y⟩
 · have e:i=n:=by omega
   subst e
   exact .inl ⟨p2 rfl,hd σ H p⟩
def lP {ts:List Nat} {bb:Dt->De->Option De} (hp:PassesOwn (model X.prog X.w) X.A X.env X.xe) (hc:X.calm=true) (hi:DIF X tg iter fi) (hg:DG X tg ts bb) (hb:DS X body g)
  (hs:∀ x,foldedSetIterable iter X.env x=pure x:=by intro _;rfl):DS1 X (.For tg iter body [] pos) (lO fi bb g):=PS.mono (jF hp hc hi hg hb hs) fun D σ H ⟨Φ,δ,F,o,hK,en,hg,k⟩=>by
 unfold lO at hg
 obtain ⟨ds,hd,hg⟩:=bS hg
 rw [hZ]
 refine ⟨Φ,δ,F,ds,hK,en,hd,fun J ok H1 F1 st1 wd ho=>?_⟩
 have en1:=en.step st1
 have k1:=Post.at en1 k
 refine ij (n:=ds.length) (fun i σ' H'=>∃ δ' F',En (Φ.at F1) δ' σ' F' H'/\gS bb g (ds.drop i) δ'=some o) ⟨δ,F1,en1.at,by simpa using hg⟩ (fun i σ' H' ⟨δ',F',en',_⟩=>?_) ?_ ?_
 · obtain ⟨p1,p2,_⟩:=wd i H' F' (ho H' (en'.old.trans en'.fh)) en'.fh en'.old
   exact ⟨p1,p2⟩
 · rintro i x σ' H' H'' hi ⟨δ',F',en',hgo⟩ hy
   obtain ⟨_,_,p3⟩:=wd i H' F' (ho H' (en'.old.trans en'.fh)) en'.fh en'.old
   obtain ⟨d,F2,hd',st2,rd⟩:=p3 x H'' hi hy
   rw [gj hd'] at hgo
   unfold gS at hgo
   obtain ⟨δ1,h1,hgo⟩:=bS hgo
   obtain ⟨o1,h2,hgo⟩:=bS hgo
   refine ⟨Φ.at F1,δ',F2,d,δ1,hK,en'.step st2,rd,h1,fun σ1 _ _ en1=>⟨Φ.at F1,δ1,F2,o1,hK,en1,h2,?_⟩⟩
   cases o1 with
   | nx δ2=>exact fun σ2 F2 H2 en2=>⟨δ2,F2,en2,hgo⟩
   | ct δ2=>exact fun σ2 F2 H2 en2=>⟨δ2,F2,en2,hgo⟩
   | bk δ2=>cases hgo;exact fun σ2 F2 H2 en2=>k1 σ2 F2 H2 en2
   | rt t=>cases hgo;exact fun v F2 H2 q=>k1 v F2 H2 q
   | re t δ2=>cases hgo;exact fun v σ2 F2 H2 q=>k1 v σ2 F2 H2 q
 · rintro σ' H' ⟨δ',F',en',hgo⟩
   rw [List.drop_length] at hgo
   cases hgo
   exact k1 σ' F' H' en'
def zl (x:Str):List Dt:=x.cps.toList.map fun c=>.str ⟨#[c]⟩
def cj (lo:Int) (n:Nat):List Dt:=(List.range n).map fun (i:Nat)=>.int (lo+i)
def Reps.map {K:PySem.W.Frag} {F:Hp} {α:Type} {f:α->Dt} {g:α->V} (h:∀ x,Rep K F (f x) (g x)):∀ l:List α,Reps K F (l.map f) (l.map g)
 | []=>by simp [Reps]
 | x::l=>by
  simp only [List.map_cons,Reps]
  exact ⟨_,_,rfl,h x,Reps.map h l⟩
def itD:Dt->Option (List Dt)
 | .lst l=>some l
 | .tup l=>some l
 | .str x=>some (zl x)
 | _=>none
def fIt (f:De->Option Dt):De->Option (List Dt):=fun δ=>(f δ).bind itD
def gT (h:DL X l fd):DIF X tg l (fIt fd):=PI.mono (PI.or (lv h) (PI.or (rJ h) (sn h))) fun σ H R ⟨Φ,δ,F,ds,hK,en,hf,k⟩=>by
 unfold fIt at hf
 obtain ⟨d,hd,hf⟩:=bS hf
 cases d with
 | lst l =>
  cases hf
  refine .inl ⟨Φ,δ,F,_,hK,en,hd,fun v H' F' st r=>?_⟩
  simp only [Rep] at r
  obtain ⟨a,vs,rfl,h1,h2⟩:=r
  exact ⟨a,rfl,⟨vs,st.fh.seq h1⟩,k _ _ H' F' st (plain_list.walk h2) fun H2 s=>s.seq h1⟩
 | tup l =>
  cases hf
  refine .inr (.inl ⟨Φ,δ,F,_,hK,en,hd,fun v H' F' st r=>?_⟩)
  simp only [Rep] at r
  obtain ⟨a,vs,rfl,h1,h2⟩:=r
  exact ⟨a,rfl,⟨vs,st.fh.tup h1⟩,k _ _ H' F' st (plain_tup.walk h2) fun H2 s=>s.tup h1⟩
 | str x =>
  cases hf
  refine .inr (.inr ⟨Φ,δ,F,_,hK,en,hd,fun v H' F' st r=>?_⟩)
  simp only [Rep] at r
  exact ⟨x,r,k _ _ H' F' st (plain_str.walk (Reps.map (fun c=>jt) _)) fun _ _=>trivial⟩
 | _=>cases hf
def lQ (h:DB X l fd):DIB X tg l (fIt fd):=PI.mono (PI.or (lv h) (PI.or (rJ h) (sn h))) fun σ H R ⟨Φ,δ,F,ds,hK,en,hf,k⟩=>by
 unfold fIt at hf
 obtain ⟨d,hd,hf⟩:=bS hf
 cases d with
 | lst l =>
  cases hf
  refine .inl ⟨Φ,δ,F,_,hK,en,hd,fun v H' F' st r=>?_⟩
  obtain ⟨a,vs,rfl,h1,h2⟩:=r
  exact ⟨a,rfl,⟨vs,h1⟩,k _ _ H' F' st (plain_list.walk h2) fun H2 s=>s.seq h1⟩
 | tup l =>
  cases hf
  refine .inr (.inl ⟨Φ,δ,F,_,hK,en,hd,fun v H' F' st r=>?_⟩)
  obtain ⟨a,vs,rfl,h1,h2⟩:=r
  exact ⟨a,rfl,⟨vs,st.fh.tup h1⟩,k _ _ H' F' st (plain_tup.walk h2) fun H2 s=>s.tup (st.fh.tup h1)⟩
 | str x =>
  cases hf
  refine .inr (.inr ⟨Φ,δ,F,_,hK,en,hd,fun v H' F' st r=>?_⟩)
  exact ⟨x,r,k _ _ H' F' st (plain_str.walk (Reps.map (fun c=>jt) _)) fun _ _=>trivial⟩
 | _=>cases hf
def il (j:Int):Bool:=decide (-(2^62)<=j)&&decide (j<2^62)
def iM:List Dt->Option (List Dt)
 | [.int j]=>if il j then some (cj 0 j.toNat) else none
 | _=>none
def dO (r:List Dt->Option (List Dt)) (f:De->Option (List Dt)):De->Option (List Dt):=fun δ=>(f δ).bind r
variable {p:Pos} {sc:Scope} {x y:Expr} {fs:De->Option (List Dt)}
def gk {j:Int} (h:il j=true):-(2^62)<=j/\j<2^62:=by
 unfold il at h
 simpa using h
def jR {K:PySem.W.Frag} {F:Hp} (lo:Int) (n:Nat):Reps K F (cj lo n) (jM lo n):=Reps.map (fun _=>gi) _
def dJ (h:bq sc "range"=true) (hm:X.mg "range"=none) (ha:DA X [x] fs) (e1:cW X sc:=by rfl) (hs:starEach [x] X.env=[(false,eval x X.env)]:=by rfl):DIF X tg (.Call (.Name "range" p) [x] [] pos) (dO iM fs):=
 PI.mono (jO h hm ha.pa e1 hs) fun σ H R ⟨Φ,δ,F,ds,hK,en,hf,k⟩=>by
  unfold dO at hf
  obtain ⟨as,hd,hf⟩:=bS hf
  refine ⟨Φ,δ,F,as,hK,en,hd,fun vs H' F' st r=>?_⟩
  unfold iM at hf
  split at hf
  · rename_i j
    split at hf
    · rename_i hj
      cases hf
      simp only [Reps,Rep] at r
      obtain ⟨v,ws,rfl,rfl,rfl⟩:=r
      exact ⟨j,rfl,(gk hj).1,(gk hj).2,k _ _ H' F' st (plain_range.walk (jR _ _)) fun _ _=>trivial⟩
    · cases hf
  · cases hf
end
def dC (src:List (Option Nat)) (δ:De):De:=src.map fun o=>o.bind fun j=>(δ[j]?).join
noncomputable def cr (bb:Dt->De->Option De) (ft:De->Option Bool) (fe:De->Option Dt) (δ:De):List Dt->Option (List Dt)
 | []=>some []
 | d::r=>(bb d δ).bind fun δ1=>(ft δ1).bind fun b=>if b then (fe δ1).bind fun y=>(cr bb ft fe δ r).bind fun ys=>some (y::ys) else cr bb ft fe δ r
noncomputable def ck (src:List (Option Nat)) (fi:De->Option (List Dt)) (bb:Dt->De->Option De) (ft:De->Option Bool) (fe:De->Option Dt):De->Option T:=fun δ =>
 (fi δ).bind fun ds=>(cr bb ft fe (dC src δ) ds).bind fun ys=>if ys.length<=sizeLine then some (.lst ys) else none
def br:De->Option Bool:=fun _=>some true
def DTs (X:Cx) (ifs:List Expr) (f:De->Option Bool):Prop:=PTs X ifs (tTr X.K f)
def dZ {X:Cx}:DTs X [] br:=fun pins s σ H Q I h=>uW pins s σ H Q I (by
 obtain ⟨Φ,δ,F,b,hK,en,hf,k⟩:=h
 cases hf
 exact k H F (Step.refl en.fh))
section
variable {X:Cx} {elt tg iter:Expr} {ifs:List Expr} {scope:Scope} {pos:Pos} {M:List Str} {src:List (Option Nat)} {fi:De->Option (List Dt)} {ft:De->Option Bool} {fe:De->Option Dt}
def u4 (S:CmpScope X.N X.env.scope scope M src) {k l j:Nat} (hk:src[k]?=some (some j)) (hl:src[l]?=some (some j)):k=l:=by
 have nm:∀ k,src[k]?=some (some j)->∃ x,M[k]?=some x/\X.N[j]?=some x:=fun k h=>by
  have hlt:k<M.length:=by rw [S.len];exact (gX h).1
  have hm:M[k]?=some M[k]:=by simp [hlt]
  have hz:(M.zip src)[k]?=some (M[k],some j):=by rw [List.getElem?_zip_eq_some];exact ⟨hm,h⟩
  exact ⟨_,hm,(S.src _ (List.mem_of_getElem? hz) j rfl).1⟩
 obtain ⟨x,h1,h2⟩:=nm k hk
 obtain ⟨y,h3,h4⟩:=nm l hl
 rw [h2] at h4
 cases h4
 exact (List.getElem?_inj (gX h1).1 S.nd).mp (h1.trans h3.symm)
def sC {δ:De} {k:Nat} {t:T} (h:(dC src δ)[k]?=some (some t)):∃ j,src[k]?=some (some j)/\δ[j]?=some (some t):=by
 unfold dC at h
 rw [List.getElem?_map] at h
 cases e:src[k]? with
 | none=>rw [e] at h;cases h
 | some o =>
  rw [e] at h
  cases o with
  | none=>cases h
  | some j =>
   simp only [Option.map_some,Option.bind_some,Option.some.injEq] at h
   refine ⟨j,rfl,?_⟩
   cases q:δ[j]? with
   | none=>rw [q] at h;cases h
   | some u=>rw [q] at h;simp only [Option.join_some] at h;rw [h]
def pI {σ:St} {k j:Nat} {v:V} (h1:src[k]?=some (some j)) (h2:σ[j]?=some (some v)):(stC src σ)[k]?=some (some v):=by
 unfold stC
 rw [List.getElem?_map,h1]
 simp [h2]
def n8 {σ:St} {k:Nat} {v:V} (h:(stC src σ)[k]?=some (some v)):∃ j,src[k]?=some (some j)/\σ[j]?=some (some v):=by
 unfold stC at h
 rw [List.getElem?_map] at h
 cases e:src[k]? with
 | none=>rw [e] at h;cases h
 | some o =>
  rw [e] at h
  cases o with
  | none=>cases h
  | some j =>
   simp only [Option.map_some,Option.bind_some,Option.some.injEq] at h
   refine ⟨j,rfl,?_⟩
   cases q:σ[j]? with
   | none=>rw [q] at h;cases h
   | some u=>rw [q] at h;simp only [Option.join_some] at h;rw [h]
def En.comp {Φ:Fm} {δ:De} {σ:St} {F H:Hp} (S:CmpScope X.N X.env.scope scope M src) (en:En Φ δ σ F H):En Φ (dC src δ) (stC src σ) F H:=by
 refine ⟨en.fh,en.prot,en.old,en.nw,by simp [dC,stC],fun k t h=>?_,?_⟩
 · obtain ⟨j,h1,h2⟩:=sC h
   obtain ⟨v,hv⟩:=en.has j t h2
   exact ⟨v,pI h1 hv⟩
 · obtain ⟨Z,s⟩:=en.sep
   refine ⟨fun k b=>∃ j,src[k]?=some (some j)/\Z j b,fun k t v h=>?_,fun k b ⟨j,_,z⟩=>s.out j b z,fun k l b ⟨j,h1,z⟩ ⟨j',h2,z'⟩=>?_⟩
   · obtain ⟨h1,h2⟩:=fR h
     obtain ⟨j,e1,e2⟩:=sC h1
     obtain ⟨j',e3,e4⟩:=n8 h2
     rw [e1] at e3
     cases e3
     exact (s.own j t v (da e2 e4)).grow fun b z=>⟨j,e1,z⟩
   · have:=s.dis _ _ b z z'
     subst this
     exact u4 S h1 h2
def kN {n:Nat} {g:TG} {tt:TT} {te:TE} {σ:St} {J:It} {H1:Hp} {Q:VK} {D:Addr} (Pv:Nat->Hp->Prop) (h0:Pv 0 (upd H1 D (.lst []))) (hgo:∀ i H,Pv i H->(i<n->J.go i H)/\(i=n->J.stop i H))
  (hs:∀ i x H H',i<n->Pv i H->J.yld i H x H'->g x (stC src σ) H' fun σ2 H2=>Wk (stC src σ) σ2/\tt σ2 H2 fun b H3=>if b=true then te σ2 H3 fun v H4=>∃ ys,H4 D=some (.lst ys)/\ys.length<sizeLine/\Pv (i+1) (upd H4 D (.lst (ys++[v]))) else Pv (i+1) H3)
  (hd:∀ H,Pv n H->Q (.ref D) H):wN src g tt te σ J H1 Q D:=by
 refine ⟨fun i m H=>m=n-i/\i<=n/\Pv i H,⟨n,by simp,Nat.zero_le _,h0⟩,?_⟩
 rintro i m H ⟨rfl,hi,p⟩
 obtain ⟨p1,p2⟩:=hgo i H p
 by_cases hlt:i<n
 · exact .inr ⟨p1 hlt,Pv (i+1),fun H' p'=>⟨n-(i+1),by omega,rfl,hlt,p'⟩,fun x H' y=>hs i x H H' hlt p y⟩
 · have e:i=n:=by omega
   subst e
   exact .inl ⟨p2 rfl,hd H p⟩
def ju {ts:List Nat} {bb:Dt->De->Option De} (S:CmpScope X.N X.env.scope scope M src) (hts:(ts.all fun k=>decide (src[k]?=some none))=true):∀ (σ:St) (H:Hp) (Q:VK),tO X.K (ck src fi bb ft fe) σ H Q->kF src (tIB X.K fi) (gD X.K ts bb) (tTr X.K ft) (tL X.K fe) σ H Q:=fun σ H Q ⟨Φ,δ,F,t,hK,en,hf,k⟩=>by
 unfold ck at hf
 obtain ⟨ds,hd,hf⟩:=bS hf
 obtain ⟨all,ha,hf⟩:=bS hf
 split at hf
 case isFalse=>cases hf
 rename_i hz
 cases hf
 rw [mO]
 refine ⟨Φ,δ,F,ds,hK,en,hd,fun J ok H1 F1 st1 wd ho D hD=>?_⟩
 have en1:=en.step st1
 have k1:=k.step st1
 have wk:∀ {σ2:St},σ2.length=(stC src σ).length->(∀ j,j∉ts->σ2[j]?=(stC src σ)[j]?)->Wk (stC src σ) σ2:=fun {σ2} h1 h2=>by
  refine ⟨h1.symm,fun j v hj=>?_⟩
  by_cases hm:j∈ts
  · have:=List.all_eq_true.mp hts j hm
    have hn:src[j]?=some none:=of_decide_eq_true this
    obtain ⟨i,e,_⟩:=n8 hj
    rw [hn] at e
    cases e
  · rw [h2 j hm]
    exact hj
 have ok':∀ {F H:Hp},Step F1 H1 F H->ok H:=fun st=>ho _ st.hh
 refine kN (n:=ds.length) (fun i H=>∃ F ys done rest',Step F1 H1 F H/\H D=some (.lst ys)/\F D=none/\Reps X.K F done ys/\cr bb ft fe (dC src δ) (ds.drop i)=some rest'/\done++rest'=all) ?_ ?_ ?_ ?_
 · exact ⟨F1,[],[],all,Step.made st1.fh hD,az,st1.fh.free hD,by simp [Reps],by simpa using ha,rfl⟩
 · rintro i H' ⟨F',ys,done,rest',st,_⟩
   obtain ⟨p1,p2,_⟩:=wd i H' F' (ok' st) st.fh st.ff
   exact ⟨p1,p2⟩
 · rintro i x H0' H' hi ⟨F0',ys,done,rest',st0,hD0,hFD0,rys0,hgo,hall⟩ hy0
   obtain ⟨_,_,p3⟩:=wd i H0' F0' (ok' st0) st0.fh st0.ff
   obtain ⟨d,F',hd',stw,rd⟩:=p3 x H' hi hy0
   have st:=st0.trans stw
   have hD':H' D=some (.lst ys):=stw.hh _ _ hD0
   have hFD:F' D=none:=by
    cases q:F' D with
    | none=>rfl
    | some o =>
     rcases stw.nw D o q with z | z
     · rw [hFD0] at z;cases z
     · rw [hD0] at z;cases z
   have rys:=rys0.same stw.ff
   rw [gj hd'] at hgo
   unfold cr at hgo
   obtain ⟨δ1,h1,hgo⟩:=bS hgo
   obtain ⟨b,h2,hgo⟩:=bS hgo
   refine ⟨Φ,dC src δ,F',d,δ1,hK,(en1.step st).comp S,rd,h1,fun σ2 l2 k2 en2=>⟨wk l2 k2,Φ,δ1,F',b,hK,en2,h2,fun H3 F3 st3=>?_⟩⟩
   have hD3:H3 D=some (.lst ys):=st3.hh _ _ hD'
   have hF3:F3 D=none:=by
    cases q:F3 D with
    | none=>rfl
    | some o =>
     rcases st3.nw D o q with z | z
     · rw [hFD] at z;cases z
     · rw [hD'] at z;cases z
   dsimp only
   split at hgo
   · rename_i q
     rw [if_pos q]
     obtain ⟨y,hy,hgo⟩:=bS hgo
     obtain ⟨zs,hzs,hgo⟩:=bS hgo
     cases hgo
     refine ⟨Φ,δ1,F3,y,hK,en2.step st3,hy,fun v H4 F4 st4 rv=>?_⟩
     have hD4:H4 D=some (.lst ys):=st4.hh _ _ hD3
     have hF4:F4 D=none:=by
      cases q:F4 D with
      | none=>rfl
      | some o =>
       rcases st4.nw D o q with z | z
       · rw [hF3] at z;cases z
       · rw [hD3] at z;cases z
     have s14:=(st.trans st3).trans st4
     refine ⟨ys,hD4,?_,F4,ys++[v],done++[y],zs,?_,az,hF4,(rys.same (st3.ff.trans st4.ff)).append (Reps.one rv),hzs,by rw [<- hall];simp⟩
     · have e1:=rys.length
       have e2:all.length=done.length+(zs.length+1):=by rw [<- hall];simp
       omega
     · refine ⟨fun c o e=>?_,s14.ff,fun c o e=>?_,s14.nw⟩
       · rw [aF (bW e hD)]
         exact s14.hh _ _ e
       · rw [aF (bW e hF4)]
         exact s14.fh _ _ e
   · rename_i q
     rw [if_neg q]
     exact ⟨F3,ys,done,rest',st.trans st3,hD3,hF3,rys.same st3.ff,hgo,hall⟩
 · rintro H' ⟨F',ys,done,rest',st,hD',hFD,rys,hgo,hall⟩
   rw [List.drop_length] at hgo
   cases hgo
   rw [List.append_nil] at hall
   subst hall
   exact k1 (.ref D) H' F' (fun b=>b=D) st ⟨D,ys,rfl,rfl,hD',rys⟩ fun b z=>by
    subst z
    exact ⟨hFD,hD,_,hD'⟩
def lR {ts:List Nat} {bb:Dt->De->Option De} (S:CmpScope X.N X.env.scope scope M src) (hc:X.calm=true) (hi:DIB X tg iter fi) (hg:M.Nodup->∀ C s H ex,DG (cxC X M scope C s H ex) tg ts bb)
  (ht:∀ C s H ex,DTs (cxC X M scope C s H ex) ifs ft) (he:∀ C s H ex,DL (cxC X M scope C s H ex) elt fe) (hts:(ts.all fun k=>decide (src[k]?=some none))=true) (hs:∀ x,foldedSetIterable iter X.env x=pure x:=by intro _;rfl) :
  DO X (.ListComp elt [⟨tg,iter,ifs,0⟩] scope pos) (ck src fi bb ft fe):=PE.mono (mN (g:=gD X.K ts bb) (tt:=tTr X.K ft) (te:=tL X.K fe) S hc hi (fun nd C s H ex=>hg nd C s H ex) (fun C s H ex=>ht C s H ex) (fun C s H ex=>he C s H ex) hs) (ju S hts)
end
def lS (m:Nat) (g:De->Option Out):List Dt->Option T:=fun ds=>match g (ds.map (fun d=>some (T.leaf d))++List.replicate (m-ds.length) none) with
 | some (.rt t)=>some t
 | some (.nx _)=>some (.leaf .non)
 | _=>none
def mQ {K:PySem.W.Frag} {F H:Hp} {ds:List Dt} {vs:List V} {N:List Str} (fh:Same F H) (r:Reps K F ds vs) :
  En ⟨K,F,H,fun _=>False⟩ (ds.map (fun d=>some (T.leaf d))++List.replicate (N.length-ds.length) none) (dB N vs) F H:=by
 have hl:=r.length
 have key:∀ (i:Nat) (t:T),(ds.map (fun d=>some (T.leaf d))++List.replicate (N.length-ds.length) none)[i]?=some (some t)->∃ d v,t=T.leaf d/\vs[i]?=some v/\Rep K F d v/\(dB N vs)[i]?=some (some v):=fun i t h=>by
  by_cases hi:i<ds.length
  · rw [List.getElem?_append_left (by simpa using hi),List.getElem?_map] at h
    have hd:ds[i]?=some ds[i]:=by simp [hi]
    rw [hd] at h
    cases h
    obtain ⟨v,hv,rv⟩:=r.get hd
    refine ⟨_,v,rfl,hv,rv,?_⟩
    unfold dB
    rw [List.getElem?_append_left (by simp;omega),List.getElem?_map,hv]
    rfl
  · rw [List.getElem?_append_right (by simpa using hi)] at h
    rw [List.getElem?_replicate] at h
    split at h<;>cases h
 refine ⟨fh,fun b o h _=>h,Same.refl _,fun b o h=>.inl h,by simp [dB,hl],fun i t h=>?_,fun _ _=>False,fun i t v h=>?_,fun _ _ z=>z.elim,fun _ _ _ z=>z.elim⟩
 · obtain ⟨d,v,_,_,_,e⟩:=key i t h
   exact ⟨v,e⟩
 · obtain ⟨h1,h2⟩:=fR h
   obtain ⟨d,w,rfl,_,rv,e⟩:=key i t h1
   rw [h2] at e
   cases e
   exact rv
section
variable {P:Program} {w:World} {K:PySem.W.Frag} {mg:Str->Option Value} {base:Heap}
def Rt.step {F H:Hp} {t:T} {v:V} {F' H':Hp} (h:Rt ⟨K,F,H,fun _=>False⟩ t v F' H') {Q:VK} (k:KO K F H t Q):Q v H':=by
 obtain ⟨fh,prot,old,nw,S,o,hs⟩:=h
 refine k v H' F' S ⟨fun b u e=>prot b u e id,old,fh,fun b u e=>(nw b u e).elim .inl fun z=>z.elim .inr False.elim⟩ o fun b z=>?_
 obtain ⟨h1,h2,h3⟩:=hs b z
 exact ⟨h1,h3.elim id False.elim,h2⟩
def kO {x:Str} {st:Stmt} {N ps:List Str} {k n:Nat} {g:De->Option Out} (D:DefF K mg x st ps) (S:FnScope N ps (ac st)) (hn:ps.length=n)
  (hbody:∀ (f:Addr) (cdv:Value) (A:Around) (outer:List Env) (s:Shared) (H:Hp) (E:XK),Room k (A.deeper (envOfC x (ac st) s.heap.objs.size f cdv))->DS (jk CX0 P w K mg base N x (ac st) f cdv A outer s H E).nox (aT st) g) :
  OkF P w K mg base x (k+1) ps (spD K n (lS N.length g)):=by
 refine D.ok S (fun vs H Q E h=>?_) (fun f cdv A outer s H vs Q E hr h=>?_)
 · obtain ⟨F,ds,t,_,hl,r,_⟩:=h
   rw [r.length,hl,hn]
 · obtain ⟨F,ds,t,fh,hl,r,hf,kq⟩:=h
   refine ⟨_,hbody f cdv A outer s H E hr,?_⟩
   unfold lS at hf
   split at hf
   · rename_i t' q
     cases hf
     exact ⟨⟨K,F,H,fun _=>False⟩,_,F,_,rfl,mQ fh r,q,fun v F' H' z=>z.step kq⟩
   · rename_i δ' q
     cases hf
     exact ⟨⟨K,F,H,fun _=>False⟩,_,F,_,rfl,mQ fh r,q,fun σ' F' H' z=>(z.rt (Step.refl z.fh) (t:=.leaf .non) (S:=fun _=>False) (pE (K:=K) (F:=F')) fun _ y=>y.elim).step kq⟩
   · cases hf
end
section
variable {K:PySem.W.Frag} {F H:Hp} {Q:VK}
def KO.int {i:Int} (k:KO K F H (.leaf (.int i)) Q) (fh:Same F H):Q (.int i) H:=k.leaf.here fh gi
def KO.bl {i:Bool} (k:KO K F H (.leaf (.bl i)) Q) (fh:Same F H):Q (.bl i) H:=k.leaf.here fh sx
def KO.str {i:Str} (k:KO K F H (.leaf (.str i)) Q) (fh:Same F H):Q (.str i) H:=k.leaf.here fh jt
def KO.tup {l:List Dt} {vs:List V} {p:Addr} (k:KO K F H (.leaf (.tup l)) Q) (fh:Same F H) (r:Reps K F l vs) (hp:H p=none):Q (.ref p) (upd H p (.tup vs)):=by
 refine k.leaf _ _ _ (Step.new fh hp) ?_
 simp only [Rep]
 exact ⟨p,vs,rfl,SqT.of az,r.same (Same.upd (fh.free hp))⟩
end
def jc (i j:Int):Bool:=(decide (-(2^64)<i)&&decide (i<2^64))||(decide (-(2^64)<j)&&decide (j<2^64))
def u5 {i j:Int} (h:jc i j=true):CMul i j:=by
 unfold jc at h
 simp only [Bool.or_eq_true,Bool.and_eq_true,decide_eq_true_eq] at h
 exact h
def u6 {i j:Int} (h1:-1000000000000000000<i) (h2:i<1000000000000000000):jc i j=true:=by
 unfold jc
 simp only [Bool.or_eq_true,Bool.and_eq_true,decide_eq_true_eq]
 left
 omega
def u7 {i j:Int} (h1:-1000000000000000000<j) (h2:j<1000000000000000000):jc i j=true:=by
 unfold jc
 simp only [Bool.or_eq_true,Bool.and_eq_true,decide_eq_true_eq]
 right
 omega
def mR (i j:Int):Bool:=decide (0<=j)&&decide (j<=1000000)&&decide (i.natAbs<2^64)
def u8 {i j:Int} (h:mR i j=true):xC i j:=by
 unfold mR at h
 simp only [Bool.and_eq_true,decide_eq_true_eq] at h
 exact ⟨h.1.1,h.1.2,h.2⟩
noncomputable def bm:Dt->Dt->Option T
 | .int i,.int j=>some (.leaf (.int (i+j)))
 | .str a,.str b=>if a.length+b.length<=sizeLine then some (.leaf (.str (a++b))) else none
 | .lst l,.lst m=>if l.length+m.length<=sizeLine then some (.lst (l++m)) else none
 | .tup l,.tup m=>if l.length+m.length<=sizeLine/\l≠[]/\m≠[] then some (.leaf (.tup (l++m))) else none
 | _,_=>none
def cu:Dt->Dt->Option T
 | .int i,.int j=>some (.leaf (.int (i-j)))
 | _,_=>none
def cp:Dt->Dt->Option T
 | .int i,.int j=>if jc i j then some (.leaf (.int (i*j))) else none
 | _,_=>none
def bU:Dt->Dt->Option T
 | .int i,.int j=>if 0<j then some (.leaf (.int (i%j))) else none
 | _,_=>none
def im:Dt->Dt->Option T
 | .int i,.int j=>if mR i j then some (.leaf (.int (i^j.toNat))) else none
 | _,_=>none
def fT (f:Int->Int->Bool):Dt->Dt->Option T
 | .int i,.int j=>some (.leaf (.bl (f i j)))
 | _,_=>none
section
variable {X:Cx}
def u9:OpR X (binaryOp .Add) (fun x y H Q=>∃ l b xs zs,x=.ref l/\y=.ref b/\SqL X.K H l xs/\SqL X.K H b zs/\xs.length+zs.length<=sizeLine/\∀ p,H p=none->Q (.ref p) (upd H p (.lst (xs++zs)))):=by
 intro pins s σ H x y v u Q I rx ry h
 obtain ⟨l,b,xs,zs,rfl,rfl,hH,hB,hz,q⟩:=h
 cases rx
 cases ry
 obtain ⟨its,r,pl,_⟩:=I.list hH
 obtain ⟨its2,r2,pl2,_⟩:=I.list hB
 obtain ⟨⟨cls,dd,data,sl⟩,n,ho,hc,hd0,hd⟩:=pl
 obtain ⟨⟨cls2,dd2,data2,sl2⟩,n2,ho2,hc2,hd02,hd2⟩:=pl2
 simp only at hc hd hc2 hd2
 subst hc hd hc2 hd2
 have e:its.toArray++its2.toArray=(its++its2).toArray:=by simp
 refine concat_meets ⟨_,ho,rfl⟩ ⟨_,ho2,rfl⟩ noFill_list_add seq_list_add PySem.F.slot_list_add PySem.F.entry_list_add (PySem.F.args_list_add_2 _ _) (list_addW l b its.toArray its2.toArray n n2 dd dd2 sl sl2 (by rw [List.size_toArray,List.size_toArray,<- r.length,<- r2.length];exact hz)) ⟨ho,ho2,?_⟩
 rw [e]
 exact ⟨.ref _,_,I.lnew (t':=s.toks) (r.append r2) (by rw [List.length_append];exact hz),rfl,q _ I.fresh⟩
noncomputable abbrev wQ (K:PySem.W.Frag):R2:=fun x y H Q=>(rI0 (fun i j=>.int (i+j)) x y H Q)∨(∃ i j,x=.str i/\y=.str j/\i.length+j.length<=sizeLine/\Q (.str (i++j)) H)∨
 (∃ l b xs zs,x=.ref l/\y=.ref b/\SqL K H l xs/\SqL K H b zs/\xs.length+zs.length<=sizeLine/\∀ p,H p=none->Q (.ref p) (upd H p (.lst (xs++zs))))∨wG K x y H Q
def bj:OpR X (binaryOp .Add) (wQ X.K):=OpR.or xD (OpR.or nR (OpR.or u9 o9))
def bI {K:PySem.W.Frag}:R2D K (wQ K) bm:=by
 intro F H x y vx vy Q t fh rx ry hg k
 unfold bm at hg
 split at hg<;>first | (cases hg;done) | skip
 · cases hg;cases rx;cases ry;exact .inl ⟨_,_,rfl,rfl,k.int fh⟩
 · split at hg
   · cases hg;cases rx;cases ry;exact .inr (.inl ⟨_,_,rfl,rfl,by assumption,k.str fh⟩)
   · cases hg
 · split at hg
   · rename_i hl
     cases hg
     obtain ⟨a,vs,rfl,h1,h2⟩:=rx
     obtain ⟨b,ws,rfl,h3,h4⟩:=ry
     exact .inr (.inr (.inl ⟨a,b,vs,ws,rfl,rfl,h1,h3,by rw [h2.length,h4.length];exact hl,fun p hp=>ig k fh (h2.append h4) hp⟩))
   · cases hg
 · split at hg
   · rename_i hl
     cases hg
     obtain ⟨a,vs,rfl,h1,h2⟩:=rx
     obtain ⟨b,ws,rfl,h3,h4⟩:=ry
     obtain ⟨hl,n1,n2⟩:=hl
     refine .inr (.inr (.inr ⟨a,b,vs,ws,rfl,rfl,fh.tup h1,fh.tup h3,fun z=>?_,by rw [h2.length,h4.length];exact hl,fun z=>?_,fun _ p hp=>k.tup fh (h2.append h4) hp⟩))
     · subst z
       have:=h2.length
       exact n1 (List.eq_nil_of_length_eq_zero this.symm)
     · subst z
       have:=h4.length
       exact absurd (List.eq_nil_of_length_eq_zero this.symm) n2
   · cases hg
def io {K:PySem.W.Frag}:R2D K (rI0 fun i j=>.int (i-j)) cu:=by
 intro F H x y vx vy Q t fh rx ry hg k
 unfold cu at hg
 split at hg<;>first | (cases hg;done) | skip
 cases hg;cases rx;cases ry;exact ⟨_,_,rfl,rfl,k.int fh⟩
def d3 {K:PySem.W.Frag}:R2D K (rI CMul fun i j=>.int (i*j)) cp:=by
 intro F H x y vx vy Q t fh rx ry hg k
 unfold cp at hg
 split at hg<;>first | (cases hg;done) | skip
 split at hg
 · cases hg;cases rx;cases ry;exact ⟨_,_,rfl,rfl,u5 (by assumption),k.int fh⟩
 · cases hg
def dv {K:PySem.W.Frag}:R2D K (rI (fun _ j=>0<j) fun i j=>.int (i%j)) bU:=by
 intro F H x y vx vy Q t fh rx ry hg k
 unfold bU at hg
 split at hg<;>first | (cases hg;done) | skip
 split at hg
 · cases hg;cases rx;cases ry;exact ⟨_,_,rfl,rfl,by assumption,k.int fh⟩
 · cases hg
def pJ {K:PySem.W.Frag}:R2D K (rI xC fun i j=>.int (i^j.toNat)) im:=by
 intro F H x y vx vy Q t fh rx ry hg k
 unfold im at hg
 split at hg<;>first | (cases hg;done) | skip
 split at hg
 · cases hg;cases rx;cases ry;exact ⟨_,_,rfl,rfl,u8 (by assumption),k.int fh⟩
 · cases hg
def jd {K:PySem.W.Frag} {f:Int->Int->Bool}:R2D K (rI0 fun i j=>.bl (f i j)) (fT f):=by
 intro F H x y vx vy Q t fh rx ry hg k
 unfold fT at hg
 split at hg<;>first | (cases hg;done) | skip
 cases hg;cases rx;cases ry;exact ⟨_,_,rfl,rfl,k.bl fh⟩
noncomputable def eqD:Dt->Dt->Option Bool
 | .non,.non=>some true
 | .non,.int _=>some false
 | .non,.bl _=>some false
 | .non,.str _=>some false
 | .int _,.non=>some false
 | .bl _,.non=>some false
 | .str _,.non=>some false
 | .int i,.int j=>some (decide (i=j))
 | .bl i,.bl j=>some (decide (i=j))
 | .str i,.str j=>some (decide (i=j))
 | .int _,.str _=>some false
 | .str _,.int _=>some false
 | .bl _,.str _=>some false
 | .str _,.bl _=>some false
 | .tup l,.tup m=>if cmpbs l m&&decide (deeps l<=59) then some (peqs l m) else none
 | .lst l,.lst m=>if cmpbs l m&&decide (deeps l<=59) then some (peqs l m) else none
 | _,_=>none
def gEq (neg:Bool) (x y:Dt):Option T:=(eqD x y).map fun b=>.leaf (.bl (if neg then !b else b))
abbrev rEqA (K:PySem.W.Frag):R2:=fun x y H Q=>rEq x y H Q∨uY K false x y H Q
abbrev rNeA (K:PySem.W.Frag):R2:=fun x y H Q=>rNe x y H Q∨uY K true x y H Q
def jS {k:Nat} (hr:Room k X.A):OpR X (compareOp .Eq) (rEqA X.K):=OpR.or yW (xU hr rfl)
def sD {k:Nat} (hr:Room k X.A):OpR X (compareOp .NotEq) (rNeA X.K):=OpR.or yX (xV hr rfl)
def sE {K:PySem.W.Frag} {F H:Hp} {x y:Dt} {vx vy:V} {b:Bool} (fh:Same F H) (rx:RepB K F H x vx) (ry:RepB K F H y vy) (h:eqD x y=some b) :
  (xE vx vy=true/\b=decide (vx=vy))∨(((∃ l m,x=.tup l/\y=.tup m)∨∃ l m,x=.lst l/\y=.lst m)/\dk x y=true/\eG x<=60/\b=peq x y):=by
 unfold eqD at h
 split at h<;>first
  | (cases h;done)
  | (cases h;cases rx;cases ry;left;refine ⟨rfl,?_⟩;simp;done)
  | skip
 · right
   split at h
   · rename_i q
     simp only [Bool.and_eq_true,decide_eq_true_eq] at q
     cases h
     exact ⟨.inl ⟨_,_,rfl,rfl⟩,by simp only [dk];exact q.1,by simp only [eG];omega,by simp only [peq]⟩
   · cases h
 · right
   split at h
   · rename_i q
     simp only [Bool.and_eq_true,decide_eq_true_eq] at q
     cases h
     exact ⟨.inr ⟨_,_,rfl,rfl⟩,by simp only [dk];exact q.1,by simp only [eG];omega,by simp only [peq]⟩
   · cases h
def sF {K:PySem.W.Frag}:R2D K (rEqA K) (gEq false):=by
 intro F H x y vx vy Q t fh rx ry hg k
 unfold gEq at hg
 obtain ⟨b,hb,hg⟩:=mS hg
 cases hg
 have kk:Q (.bl b) H:=k.bl fh
 rcases sE fh rx ry hb with ⟨h1,rfl⟩ | ⟨h1,h2,h3,rfl⟩
 · exact .inl ⟨h1,kk⟩
 · exact .inr ⟨x,y,h1,rx.rep fh,ry.rep fh,h2,h3,kk⟩
def r_ne {K:PySem.W.Frag}:R2D K (rNeA K) (gEq true):=by
 intro F H x y vx vy Q t fh rx ry hg k
 unfold gEq at hg
 obtain ⟨b,hb,hg⟩:=mS hg
 cases hg
 have kk:Q (.bl (!b)) H:=k.bl fh
 rcases sE fh rx ry hb with ⟨h1,rfl⟩ | ⟨h1,h2,h3,rfl⟩
 · exact .inl ⟨h1,kk⟩
 · exact .inr ⟨x,y,h1,rx.rep fh,ry.rep fh,h2,h3,kk⟩
def sG:Dt->Bool
 | .non=>true
 | _=>false
def gIs (neg:Bool) (x y:Dt):Option T:=match y with
 | .non=>some (.leaf (.bl (if neg then !sG x else sG x)))
 | _=>none
def sH {K:PySem.W.Frag} {F H:Hp} {x:Dt} {v:V} (r:RepB K F H x v):sG x=decide (v=.non):=by
 cases x<;>first
  | (cases r;rfl)
  | (obtain ⟨a,vs,rfl,_⟩:=r;rfl)
  | (simp only [RepB,Rep] at r;obtain ⟨a,C,dx,fs,rfl,_⟩:=r;rfl)
def r_is {K:PySem.W.Frag}:R2D K (fun x y H Q=>y=.non/\Q (.bl (decide (x=.non))) H) (gIs false):=by
 intro F H x y vx vy Q t fh rx ry hg k
 cases y<;>first | cases hg;done | skip
 cases hg;cases ry
 refine ⟨rfl,?_⟩
 rw [<- sH rx]
 exact k.bl fh
def je:Dt->Bool
 | .non=>true
 | .bl _=>true
 | .int _=>true
 | .str _=>true
 | _=>false
def eqF:Dt->Dt->Bool
 | .non,.non=>true
 | .bl a,.bl b=>a==b
 | .bl a,.int b=>(if a then 1 else 0)==b
 | .int a,.bl b=>a==(if b then 1 else 0)
 | .int a,.int b=>a==b
 | .str a,.str b=>a==b
 | _,_=>false
def inS (j i:Str):Bool:=!(Builtin.Str.occurrences j i 0 j.length 1).isEmpty
def inD:Dt->Dt->Option Bool
 | .str i,.str j=>some (inS j i)
 | x,.lst l=>if je x&&l.all je then some (l.any fun y=>eqF y x) else none
 | x,.tup l=>if je x&&l.all je then some (l.any fun y=>eqF y x) else none
 | _,_=>none
def mT {K:PySem.W.Frag} {F:Hp} {l:List Dt} {vs:List V} {i:Int} {d:Dt} (r:Reps K F l vs) (h:atI l i=some d):∃ v,atI vs i=some v/\Rep K F d v:=by
 unfold atI at h ⊢
 rw [r.length]
 obtain ⟨j,hj,h⟩:=bS h
 obtain ⟨v,e,rv⟩:=r.get h
 exact ⟨v,by rw [hj];exact e,rv⟩
def gIx:Dt->Dt->Option T
 | .lst l,.int i=>(atI l i).map .leaf
 | .tup l,.int i=>(atI l i).map .leaf
 | .str x,.int i=>if x.length<=sizeLine then (atI x.cps.toList i).map fun c=>.leaf (.str ⟨#[c]⟩) else none
 | _,_=>none
def r_ix {K:PySem.W.Frag}:R2D K (rIx K) gIx:=by
 intro F H x y vx vy Q t fh rx ry hg k
 unfold gIx at hg
 split at hg<;>first | (cases hg;done) | skip
 · obtain ⟨d,hd,hg⟩:=mS hg
   cases hg;cases ry
   obtain ⟨a,vs,rfl,h1,h2⟩:=rx
   obtain ⟨v,e,rv⟩:=mT h2 hd
   exact .inl ⟨a,vs,_,v,rfl,rfl,h1,e,k.leaf.here fh rv⟩
 · obtain ⟨d,hd,hg⟩:=mS hg
   cases hg;cases ry
   obtain ⟨a,vs,rfl,h1,h2⟩:=rx
   obtain ⟨v,e,rv⟩:=mT h2 hd
   exact .inr (.inl ⟨a,vs,_,v,rfl,rfl,fh.tup h1,e,k.leaf.here fh rv⟩)
 · split at hg
   · rename_i hl
     obtain ⟨c,hc,hg⟩:=mS hg
     cases hg;cases rx;cases ry
     exact .inr (.inr ⟨_,_,c,rfl,rfl,hl,hc,k.str fh⟩)
   · cases hg
variable {a b c:Expr} {fa fb fc:De->Option Dt} {pos:Pos}
def vc (l:List Dt) (lo hi:Option Int):List Dt:=(l.drop (HT.sIx l.length 0 lo)).take (HT.sIx l.length l.length hi-HT.sIx l.length 0 lo)
noncomputable def gSl:Dt->Option Int->Option Int->Option T
 | .str x,lo,hi=>if x.length<=sizeLine then some (.leaf (.str (Txt.slice x lo hi))) else none
 | .lst l,lo,hi=>some (.lst (vc l lo hi))
 | .tup l,lo,hi=>if HT.sIx l.length 0 lo=0/\HT.sIx l.length l.length hi=l.length then none else some (.leaf (.tup (vc l lo hi)))
 | _,_,_=>none
abbrev rSlA (K:PySem.W.Frag):V->Option Int->Option Int->Hp->VK->Prop:=fun x lo hi H Q=>rSlS x lo hi H Q∨rSlL K x lo hi H Q∨rSlT K x lo hi H Q
def xY:SlR X (rSlA X.K):=SlR.or xQ (SlR.or uR rW)
def mU {K:PySem.W.Frag} {F:Hp} {l:List Dt} {vs:List V} (r:Reps K F l vs) (lo hi:Option Int):Reps K F (vc l lo hi) (lz vs lo hi):=by
 unfold vc lz
 rw [r.length]
 exact (r.drop _).take _
def r_sl {K:PySem.W.Frag} {F H:Hp} {x:Dt} {v:V} {lo hi:Option Int} {Q:VK} {t:T} (fh:Same F H) (rx:RepB K F H x v) (hg:gSl x lo hi=some t) (k:KO K F H t Q):rSlA K v lo hi H Q:=by
 unfold gSl at hg
 split at hg<;>first | (cases hg;done) | skip
 · split at hg
   · cases hg;cases rx
     exact .inl ⟨_,rfl,by assumption,k.str fh⟩
   · cases hg
 · obtain ⟨a,vs,rfl,h1,h2⟩:=rx
   cases hg
   exact .inr (.inl ⟨a,vs,rfl,h1,fun p hp=>ig k fh (mU h2 _ _) hp⟩)
 · obtain ⟨a,vs,rfl,h1,h2⟩:=rx
   split at hg
   · cases hg
   · rename_i hn
     cases hg
     rw [<- h2.length] at hn
     exact .inr (.inr ⟨a,vs,rfl,fh.tup h1,hn,fun p hp=>k.tup fh (mU h2 _ _) hp⟩)
def tOD (K:PySem.W.Frag) (f:De->Option (Option Int)):TO:=fun σ H Q=>∃ Φ δ F d,Fm.K Φ=K/\En Φ δ σ F H/\f δ=some d/\∀ H' F',Step F H F' H'->Q d H'
def jf:De->Option (Option Int):=fun _=>some none
def asI:Dt->Option Int
 | .int i=>some i
 | _=>none
def gz (f:De->Option Dt):De->Option (Option Int):=fun δ=>(f δ).bind fun d=>(asI d).map some
def mV {K:PySem.W.Frag} {F H:Hp} {x:Dt} {v:V} {b:Int} (h:asI x=some b) (r:RepB K F H x v):v=.int b:=by
 cases x<;>first | cases h;done | skip
 cases h;exact r
def DP (X:Cx) (e:Option Expr) (f:De->Option (Option Int)):Prop:=PO X e (tOD X.K f)
def pK:DP X none jf:=fun pins s σ H Q I h=>uP pins s σ H Q I (by
 obtain ⟨Φ,δ,F,d,hK,en,hf,k⟩:=h
 cases hf
 exact k H F (Step.refl en.fh))
def pL {e:Expr} {f:De->Option Dt} (h:DB X e f):DP X (some e) (gz f):=fun pins s σ H Q I q=>uQ h pins s σ H Q I (by
 obtain ⟨Φ,δ,F,d,hK,en,hf,k⟩:=q
 unfold gz at hf
 obtain ⟨x,hx,hf⟩:=bS hf
 obtain ⟨i,hi,hf⟩:=mS hf
 cases hf
 exact ⟨Φ,δ,F,x,hK,en,hx,fun v H' F' st r=>⟨i,mV hi r,k H' F' st⟩⟩)
def vSl (fa:De->Option Dt) (fl fh:De->Option (Option Int)):De->Option T:=fun δ=>(fa δ).bind fun x=>(fl δ).bind fun l=>(fh δ).bind fun h=>gSl x l h
def sI {e:Expr} {lo hi:Option Expr} {p2:Pos} {f:De->Option Dt} {fl fh:De->Option (Option Int)} (he:DB X e f) (hl:DP X lo fl) (hh:DP X hi fh):DO X (.Subscript e (.Slice lo hi none p2) pos) (vSl f fl fh):=
 PE.mono (mG xY he hl hh) fun σ H Q ⟨Φ,δ,F,t,hK,en,hf,k⟩=>by
  unfold vSl at hf
  obtain ⟨x,hx,hf⟩:=bS hf
  obtain ⟨l,hl,hf⟩:=bS hf
  obtain ⟨h,hh,hf⟩:=bS hf
  exact ⟨Φ,δ,F,x,hK,en,hx,fun v H1 F1 s1 r1=>⟨Φ,δ,F1,l,hK,en.step s1,hl,fun H2 F2 s2=>⟨Φ,δ,F2,h,hK,en.step (s1.trans s2),hh,fun H3 F3 s3=>r_sl s3.fh (r1.step (s2.ff.trans s3.ff) (s2.hh.trans s3.hh)) hf (k.step ((s1.trans s2).trans s3))⟩⟩⟩
def bB:List Dt->Option T
 | [.str x]=>if x.length<=sizeLine then some (.leaf (.int x.length)) else none
 | [.tup l]=>some (.leaf (.int l.length))
 | [.lst l]=>some (.leaf (.int l.length))
 | _=>none
def dQ {K:PySem.W.Frag} {F H:Hp} {d:Dt} {vs:List V} (r:kL K F H [d] vs):∃ v,vs=[v]/\RepB K F H d v:=by
 obtain ⟨v,ws,rfl,h1,h2⟩:=r
 cases h2
 exact ⟨v,rfl,h1⟩
def dc {K:PySem.W.Frag}:CRD K (fun xs H Q=>∃ x n,xs=[x]/\LenV K x H n/\Q (.int n) H) bB:=by
 intro F H ds vs Q t fh r hg k
 unfold bB at hg
 split at hg<;>first | (cases hg;done) | skip
 · split at hg
   · rename_i hl
     cases hg
     obtain ⟨v,rfl,rv⟩:=dQ r
     cases rv
     exact ⟨_,_,rfl,⟨hl,rfl⟩,k.int fh⟩
   · cases hg
 · cases hg
   obtain ⟨v,rfl,rv⟩:=dQ r
   obtain ⟨a,vs,rfl,h1,h2⟩:=rv
   rw [<- h2.length] at k
   exact ⟨_,_,rfl,.inr ⟨vs,fh.tup h1,rfl⟩,k.int fh⟩
 · cases hg
   obtain ⟨v,rfl,rv⟩:=dQ r
   obtain ⟨a,vs,rfl,h1,h2⟩:=rv
   rw [<- h2.length] at k
   exact ⟨_,_,rfl,.inl ⟨vs,h1,rfl⟩,k.int fh⟩
def qM:List Dt->Option T
 | [.int i]=>some (.leaf (.int i))
 | [.bl b]=>some (.leaf (.int (if b then 1 else 0)))
 | [.str x]=>(PySem.intText? x).bind fun n=>if x.length<=640 then some (.leaf (.int n)) else none
 | _=>none
abbrev wR:List V->Hp->VK->Prop:=fun xs H Q=>((∃ i,xs=[.int i]/\Q (.int i) H)∨∃ k,xs=[.bl k]/\Q (.int (if k then 1 else 0)) H)∨∃ x n,xs=[.str x]/\PySem.intText? x=some n/\x.length<=640/\Q (.int n) H
def qN:CallR X (.type "int") wR:=CallR.or qz lI
def zm {K:PySem.W.Frag}:CRD K wR qM:=by
 intro F H ds vs Q t fh r hg k
 unfold qM at hg
 split at hg<;>first | (cases hg;done) | skip
 · cases hg
   obtain ⟨v,rfl,rv⟩:=dQ r
   cases rv
   exact .inl (.inl ⟨_,rfl,k.int fh⟩)
 · cases hg
   obtain ⟨v,rfl,rv⟩:=dQ r
   cases rv
   exact .inl (.inr ⟨_,rfl,k.int fh⟩)
 · obtain ⟨n,hn,hg⟩:=bS hg
   split at hg
   · cases hg
     obtain ⟨v,rfl,rv⟩:=dQ r
     cases rv
     exact .inr ⟨_,n,rfl,hn,by assumption,k.int fh⟩
   · cases hg
def fm:List Dt->Option T
 | [.lst l]=>some (.leaf (.tup l))
 | [.tup l]=>some (.leaf (.tup l))
 | _=>none
def jv {K:PySem.W.Frag}:CRD K (fun xs H Q=>∃ p ys,xs=[.ref p]/\((SqL K H p ys/\∀ l,H l=none->Q (.ref l) (upd H l (.tup ys)))∨(SqT K H p ys/\Q (.ref p) H))) fm:=by
 intro F H ds vs Q t fh r hg k
 unfold fm at hg
 split at hg<;>first | (cases hg;done) | skip
 · cases hg
   obtain ⟨v,rfl,rv⟩:=dQ r
   obtain ⟨a,vs,rfl,h1,h2⟩:=rv
   exact ⟨a,vs,rfl,.inl ⟨h1,fun p hp=>k.tup fh h2 hp⟩⟩
 · cases hg
   obtain ⟨v,rfl,rv⟩:=dQ r
   rename_i l
   have rv':Rep K F (.tup l) v:=by simp only [Rep];exact rv
   obtain ⟨a,vs,rfl,h1,h2⟩:=rv
   exact ⟨a,vs,rfl,.inr ⟨fh.tup h1,k.leaf.here fh rv'⟩⟩
def ip:List Dt->Option T
 | [.lst l]=>some (.lst l)
 | [.tup l]=>some (.lst l)
 | _=>none
def oe {K:PySem.W.Frag}:CRD K (fun xs H Q=>∃ p ys,xs=[.ref p]/\(SqL K H p ys∨SqT K H p ys)/\∀ l,H l=none->Q (.ref l) (upd H l (.lst ys))) ip:=by
 intro F H ds vs Q t fh r hg k
 unfold ip at hg
 split at hg<;>first | (cases hg;done) | skip
 · cases hg
   obtain ⟨v,rfl,rv⟩:=dQ r
   obtain ⟨a,vs,rfl,h1,h2⟩:=rv
   exact ⟨a,vs,rfl,.inl h1,fun p hp=>ig k fh h2 hp⟩
 · cases hg
   obtain ⟨v,rfl,rv⟩:=dQ r
   obtain ⟨a,vs,rfl,h1,h2⟩:=rv
   exact ⟨a,vs,rfl,.inr (fh.tup h1),fun p hp=>ig k fh h2 hp⟩
end
section
variable {X:Cx} {o a b e c:Expr} {es:List Expr} {fa fb fo fe:De->Option Dt} {fs:De->Option (List Dt)} {pos apos cpos p:Pos} {x:Str} {sc:Scope} {i:Nat}
def MRD (K:PySem.W.Frag) (r:V->List V->Hp->VK->Prop) (g:Dt->List Dt->Option T):Prop:=∀ F H d v ds vs (Q:VK) t,Same F H->RepB K F H d v->kL K F H ds vs->g d ds=some t->KO K F H t Q->r v vs H Q
def pM (g:Dt->List Dt->Option T) (fo:De->Option Dt) (fs:De->Option (List Dt)):De->Option T:=fun δ=>(fo δ).bind fun d=>(fs δ).bind fun ds=>g d ds
def xZ {name:Str} {id:String} {r:V->List V->Hp->VK->Prop} {g:Dt->List Dt->Option T} (slot:Slot "str" name id) (hty:typeOf (.builtin id)=pure (.type "method_descriptor")) (hm:MtR X id r) (hr:MRD X.K r g) (hg:∀ d ds t,g d ds=some t->∃ z,d=.str z)
  (ho:DB X o fo) (ha:DAB X (e::es) fs)
  (hbase:attributeBase o name X.env (eval o X.env)=eval o X.env:=by rfl)
  (hfew:((backTo cpos (starEach (e::es) X.env)).all (fun x=>!x.1)&&(backToKw cpos (keywordEach [] X.env)).all (fun x=>x.1.isSome)
   && decide ((e::es).length+([]:List Keyword).length+(if ([]:List Keyword).isEmpty then 0 else 1)<30))=true:=by rfl)
  (hline:(apos.endLine==cpos.line)=true:=by rfl) (hs:starEach (e::es) X.env=(false,eval e X.env)::starEach es X.env:=by rfl) (hplain:(backTo cpos (starEach es X.env)).any (·.1)=false:=by rfl) :
  DO X (.Call (.Attribute o name apos) (e::es) [] cpos) (pM g fo fs):=PE.mono (mI PySem.F.plainAttrs_str slot hty hm ho ha.pa hbase hfew hline hs hplain) fun σ H Q ⟨Φ,δ,F,t,hK,en,hf,k⟩=>by
 unfold pM at hf
 obtain ⟨d,hd,hf⟩:=bS hf
 obtain ⟨ds,hds,hf⟩:=bS hf
 refine ⟨Φ,δ,F,d,hK,en,hd,fun v H1 F1 st rv=>⟨?_,Φ,δ,F1,ds,hK,en.step st,hds,fun vs H2 F2 st2 rvs=>hr F2 H2 d v ds vs Q t st2.fh (rv.step st2.ff st2.hh) rvs hf (k.step (st.trans st2))⟩⟩
 obtain ⟨z,rfl⟩:=hg d ds t hf
 cases rv
 rfl
def gU:List Dt->Option (List Str)
 | []=>some []
 | .str b::r=>(gU r).map (b::·)
 | _=>none
def kP {K:PySem.W.Frag} {F:Hp}:∀ {l:List Dt} {vs:List V} {bs:List Str},Reps K F l vs->gU l=some bs->vs=bs.map V.str
 | [],vs,bs,r,h=>by cases h;simp only [Reps] at r;exact r
 | d::l,vs,bs,r,h=>by
  cases d<;>first | cases h;done | skip
  simp only [gU] at h
  obtain ⟨cs,hc,h⟩:=mS h
  cases h
  simp only [Reps,Rep] at r
  obtain ⟨v,ws,rfl,rfl,r2⟩:=r
  rw [kP r2 hc]
  rfl
def gW:Dt->List Dt->Option T
 | .str a,[.lst l]=>(gU l).bind fun ts=>if JoinOk a ts then some (.leaf (.str (Txt.join a ts))) else none
 | _,_=>none
def ve {K:PySem.W.Frag}:MRD K (fun x vs H Q=>∃ (a:Str) (l:Addr) (ts:List Str),x=.str a/\vs=[.ref l]/\SqL K H l (ts.map V.str)/\JoinOk a ts=true/\Q (.str (Txt.join a ts)) H) gW:=by
 intro F H d v ds vs Q t fh rd rs hg k
 unfold gW at hg
 split at hg<;>first | cases hg;done | skip
 obtain ⟨ts,ht,hg⟩:=bS hg
 split at hg
 · rename_i hj
   cases hg
   cases rd
   obtain ⟨v,rfl,rv⟩:=dQ rs
   obtain ⟨a,vs,rfl,h1,h2⟩:=rv
   have:=kP h2 ht
   subst this
   exact ⟨_,a,ts,rfl,rfl,h1,hj,k.str fh⟩
 · cases hg
def oh:∀ d ds t,gW d ds=some t->∃ z,d=.str z:=fun d ds t h=>by
 unfold gW at h
 split at h
 · exact ⟨_,rfl⟩
 · cases h
def vg (ho:DB X o fo) (ha:DAB X (e::es) fs)
  (hbase:attributeBase o "join" X.env (eval o X.env)=eval o X.env:=by rfl)
  (hfew:((backTo cpos (starEach (e::es) X.env)).all (fun x=>!x.1)&&(backToKw cpos (keywordEach [] X.env)).all (fun x=>x.1.isSome)
   && decide ((e::es).length+([]:List Keyword).length+(if ([]:List Keyword).isEmpty then 0 else 1)<30))=true:=by rfl)
  (hline:(apos.endLine==cpos.line)=true:=by rfl) (hs:starEach (e::es) X.env=(false,eval e X.env)::starEach es X.env:=by rfl) (hplain:(backTo cpos (starEach es X.env)).any (·.1)=false:=by rfl) :
  DO X (.Call (.Attribute o "join" apos) (e::es) [] cpos) (pM gW fo fs):=xZ PySem.F.slot_str_join PySem.F.type_str_join uX ve oh ho ha hbase hfew hline hs hplain
def z27 (i:Nat) (f:De->Option Dt):De->Option Out:=fun δ=>match δ[i]? with
 | some (some (.lst l))=>(f δ).bind fun d=>if l.length<sizeLine then some (.nx (δ.set i (some (.lst (l++[d]))))) else none
 | _=>none
def En.ownL {Φ:Fm} {δ:De} {σ:St} {F H:Hp} (en:En Φ δ σ F H) {l:List Dt} (h:δ[i]?=some (some (.lst l))):∃ a vs,σ[i]?=some (some (.ref a))/\H a=some (.lst vs)/\Reps Φ.K F l vs:=by
 obtain ⟨v,hv⟩:=en.has i _ h
 obtain ⟨S,s⟩:=en.sep
 obtain ⟨a,vs,rfl,_,h1,h2⟩:=s.own i _ v (da h hv)
 exact ⟨a,vs,hv,h1,h2⟩
def gl (hx:PE X o (lu i)) (he:DL X e fe)
  (hbase:attributeBase o "append" X.env (eval o X.env)=eval o X.env:=by rfl)
  (hfew:((backTo cpos (starEach [e] X.env)).all (fun x=>!x.1)&&(backToKw cpos (keywordEach [] X.env)).all (fun x=>x.1.isSome)
   && decide ([e].length+([]:List Keyword).length+(if ([]:List Keyword).isEmpty then 0 else 1)<30))=true:=by rfl)
  (hline:(apos.endLine==cpos.line)=true:=by rfl) (hs:starEach [e] X.env=(false,eval e X.env)::starEach [] X.env:=by rfl) (hplain:(backTo cpos (starEach [] X.env)).any (·.1)=false:=by rfl)
  (hsw:swapsWith (.Call (.Attribute o "append" apos) [e] [] cpos) none pos.line X.env=pure false:=by rfl) :
  DS1 X (.Expr (.Call (.Attribute o "append" apos) [e] [] cpos) pos) (z27 i fe):=
 PS.mono (jq (mI PySem.F.plainAttrs_list PySem.F.slot_list_append PySem.F.type_list_append gf hx (dX he fM hs) hbase hfew hline hs hplain) hsw) fun D σ H ⟨Φ,δ,F,ot,hK,en,hg,k⟩=>by
  unfold z27 at hg
  split at hg<;>first | cases hg;done | skip
  rename_i l hl
  obtain ⟨d,hd,hg⟩:=bS hg
  split at hg<;>first | cases hg;done | skip
  rename_i hz
  cases hg
  obtain ⟨a,vs,hv,h1,h2⟩:=en.ownL hl
  refine ⟨.ref a,hv,.inl ⟨rfl,vs,.inl (.inl h1)⟩,Φ,δ,F,d,hK,en,hd,fun v H1 F1 st rv=>?_⟩
  have en1:=en.step st
  have h1':=st.hh _ _ h1
  refine ⟨a,vs,v,rfl,rfl,h1',by rw [h2.length];exact hz,?_⟩
  refine k σ F1 _ (en1.poke hl hv (fun d z=>nomatch z) fun S sa=>⟨a,vs++[v],rfl,sa,az,(h2.same st.ff).append (Reps.one (hK▸rv))⟩)
def Reps.set {K:PySem.W.Frag} {F:Hp} {d:Dt} {v:V} (h:Rep K F d v):∀ {l:List Dt} {vs:List V} (j:Nat),Reps K F l vs->Reps K F (l.set j d) (vs.set j v)
 | [],vs,j,r=>by simp only [Reps] at r;subst r;simp [Reps]
 | e::l,vs,0,r=>by
  simp only [Reps] at r
  obtain ⟨w,ws,rfl,_,r2⟩:=r
  simp only [List.set_cons_zero,Reps]
  exact ⟨v,ws,rfl,h,r2⟩
 | e::l,vs,j+1,r=>by
  simp only [Reps] at r
  obtain ⟨w,ws,rfl,r1,r2⟩:=r
  simp only [List.set_cons_succ,Reps]
  exact ⟨w,_,rfl,r1,Reps.set h j r2⟩
end
def pN {κ:Type} [DecidableEq κ]:List κ->List Dt->κ->Option Dt
 | k'::ks,d::l,k=>if k'=k then some d else pN ks l k
 | _,_,_=>none
def kQ {κ:Type} [DecidableEq κ] {K:PySem.W.Frag} {F:Hp} {k:κ}:∀ {kvs:List (κ×V)} {l:List Dt} {d:Dt},Reps K F l (kvs.map (·.2))->pN (kvs.map (·.1)) l k=some d->∃ v,dU kvs k=some v/\Rep K F d v
 | [],l,d,r,h=>by cases l<;>cases h
 | p::kvs,[],d,r,h=>by cases h
 | p::kvs,e::l,d,r,h=>by
  simp only [List.map_cons,Reps] at r
  obtain ⟨v,ws,hv,r1,r2⟩:=r
  cases hv
  simp only [List.map_cons,pN] at h
  by_cases hk:p.1=k
  · rw [if_pos hk] at h
    cases h
    exact ⟨p.2,fN hk,r1⟩
  · rw [if_neg hk] at h
    rw [fO hk]
    exact kQ r2 h
def iN:Dt->Option Key
 | .int i=>some (.inl i)
 | .str x=>some (.inr x)
 | _=>none
def pO {K:PySem.W.Frag} {F H:Hp} {d:Dt} {v:V} {k:Key} (r:RepB K F H d v) (h:iN d=some k):v=kV k:=by
 unfold iN at h
 split at h<;>first | (cases h;done) | skip
 · cases h;exact r
 · cases h;exact r
def aS:Dt->Dt->Option T
 | .dct ks l,k=>(iN k).bind fun k=>(pN ks l k).map .leaf
 | x,y=>gIx x y
section
variable {X:Cx} {o a b e c:Expr} {es:List Expr} {fa fb fo fe fk:De->Option Dt} {fs:De->Option (List Dt)} {pos apos cpos p:Pos} {x:Str} {sc:Scope} {i:Nat}
def bn {k:Nat} (hr:Room k X.A) (ha:DB X a fa) (hb:DB X b fb) (hs:lB b:=by exact fun _ _=>rfl) (hn:sg b:=by exact fun _ _=>rfl):DO X (.Subscript a b pos) (d2 aS fa fb):=
 PE.mono (PE.or (wH rX ha hb hs) (lF (jK hr) ha hb hn)) fun σ H Q ⟨Φ,δ,F,t,hK,en,hf,k⟩=>by
  unfold d2 at hf
  obtain ⟨x,hx,hf⟩:=bS hf
  obtain ⟨y,hy,hf⟩:=bS hf
  unfold aS at hf
  split at hf
  · rename_i ks l _
    obtain ⟨kk,hk,hf⟩:=bS hf
    obtain ⟨d,hd,hf⟩:=mS hf
    cases hf
    refine .inr ⟨Φ,δ,F,_,hK,en,hx,fun v H1 F1 st rv=>⟨Φ,δ,F1,y,hK,en.step st,hy,fun v2 H2 F2 st2 rv2=>?_⟩⟩
    obtain ⟨ad,kvs,rfl,h1,h2,h3⟩:=rv
    subst h2
    obtain ⟨w,hw,rw'⟩:=kQ h3 hd
    have:=pO rv2 hk
    subst this
    exact ⟨ad,w,rfl,.inl ⟨kvs,kk,st2.hh.rd h1,rfl,hw.symm⟩,(k.step (st.trans st2)).leaf.here st2.fh (rw'.same st2.ff)⟩
  · exact .inl (pC r_ix ⟨Φ,δ,F,t,hK,en,by unfold d2;rw [hx,hy];exact hf,k⟩)
def qO {κ:Type} [DecidableEq κ]:List (κ×Dt)->κ->Dt->List (κ×Dt)
 | [],k,d=>[(k,d)]
 | p::l,k,d=>if p.1=k then (p.1,d)::l else p::qO l k d
noncomputable def sJ (i:Nat) (fk fe:De->Option Dt):De->Option Out:=fun δ=>(fe δ).bind fun d=>(fk δ).bind fun k=>match δ[i]? with
 | some (some (.lst l))=>(asI k).bind fun n=>(ixN l.length n).map fun j=>.nx (δ.set i (some (.lst (l.set j d))))
 | some (some (.dct l))=>(iN k).bind fun k=>if l.length<sizeLine/\(l.map (·.1)).Nodup then some (.nx (δ.set i (some (.dct (qO l k d))))) else none
 | _=>none
def vh {κ:Type} [DecidableEq κ] (k:κ) (v:V):∀ (kvs:List (κ×V)) (l:List (κ×Dt)) (d:Dt),(kvs.map (·.1)).Nodup->kvs.map (·.1)=l.map (·.1)->(bO kvs k v).map (·.1)=(qO l k d).map (·.1)∧
  ∀ (K:PySem.W.Frag) (F:Hp),Rep K F d v->Reps K F (l.map (·.2)) (kvs.map (·.2))->Reps K F ((qO l k d).map (·.2)) ((bO kvs k v).map (·.2)):=by
 have key:∀ (kvs:List (κ×V)),(kvs.map (·.1)).Nodup->bO kvs k v=match kvs with | []=>[(k,v)] | p::r=>if p.1=k then (p.1,v)::r else p::bO r k v:=fun kvs hn=>by
  cases kvs with
  | nil=>rfl
  | cons p r =>
   dsimp only
   by_cases hp:p.1=k
   · rw [if_pos hp]
     unfold bO
     rw [if_pos (by simp [hp])]
     simp only [List.map_cons,if_pos hp]
     congr 1
     have hk:∀ q∈r,¬ q.1=k:=fun q hq z=>by
      have:=(List.nodup_cons.mp hn).1
      exact this (show p.1∈r.map (·.1) by rw [hp,<- z];exact List.mem_map_of_mem hq)
     exact (List.map_congr_left fun q hq=>if_neg (hk q hq)).trans (List.map_id' r)
   · rw [if_neg hp]
     unfold bO
     have e:(p::r).any (fun kv=>decide (kv.1=k))=r.any fun kv=>decide (kv.1=k):=by simp [hp]
     rw [e]
     split
     · simp only [List.map_cons,if_neg hp]
     · rfl
 intro kvs
 induction kvs with
 | nil =>
  intro l d hn he
  cases l with
  | nil=>exact ⟨rfl,fun K F r _=>by simpa [qO,bO] using Reps.one r⟩
  | cons q l=>cases he
 | cons p r ih =>
  intro l d hn he
  cases l with
  | nil=>cases he
  | cons q l =>
   simp only [List.map_cons,List.cons.injEq] at he
   have hn':=(List.nodup_cons.mp hn).2
   rw [key _ hn]
   simp only [qO]
   rw [<- he.1]
   by_cases hp:p.1=k
   · rw [if_pos hp,if_pos hp]
     refine ⟨by simp [he.2],fun K F rd rs=>?_⟩
     simp only [List.map_cons,Reps] at rs ⊢
     obtain ⟨w,ws,hw,r1,r2⟩:=rs
     cases hw
     exact ⟨_,_,rfl,rd,r2⟩
   · rw [if_neg hp,if_neg hp]
     obtain ⟨i1,i2⟩:=ih l d hn' he.2
     refine ⟨by simp [he.1,i1],fun K F rd rs=>?_⟩
     simp only [List.map_cons,Reps] at rs ⊢
     obtain ⟨w,ws,hw,r1,r2⟩:=rs
     cases hw
     exact ⟨_,_,rfl,r1,i2 K F rd r2⟩
def PS.or {X:Cx} {e:Stmt} {t t':TS} (h:PS X e t) (h':PS X e t'):PS X e (fun σ H Q=>t σ H Q∨t' σ H Q):=fun pins s σ H Q I q=>q.elim (h pins s σ H Q I) (h' pins s σ H Q I)
def En.ownD {Φ:Fm} {δ:De} {σ:St} {F H:Hp} (en:En Φ δ σ F H) {l:List (Key×Dt)} (h:δ[i]?=some (some (.dct l))):∃ a kvs,σ[i]?=some (some (.ref a))/\H a=some (.dK kvs)/\kvs.map (·.1)=l.map (·.1)/\Reps Φ.K F (l.map (·.2)) (kvs.map (·.2)):=by
 obtain ⟨v,hv⟩:=en.has i _ h
 obtain ⟨S,s⟩:=en.sep
 obtain ⟨a,vs,rfl,_,h1,h2,h3⟩:=s.own i _ v (da h hv)
 exact ⟨a,vs,hv,h1,h2,h3⟩
def x0 {k:Nat} {ox ik:Expr} (hr:Room k X.A) (hx:PE X ox (lu i)) (hk:DB X ik fk) (he:DL X e fe)
  (hs:swapsWith e (some (.Subscript ox ik apos)) pos.line X.env=pure false:=by rfl)
  (hs1:swapsWithSole [.Subscript ox ik apos] e pos.line X.env=pure false:=by rfl) (hw:swappedStores [.Subscript ox ik apos] e X.env=pure none:=by rfl)
  (h1:(assignEach [.Subscript ox ik apos] X.env).map (·.2)=[assign (.Subscript ox ik apos) X.env]:=by rfl)
  (ha:∀ v,assign (.Subscript ox ik apos) X.env v=(do
   let ov <- holding [v] (eval ox X.env)
   let iv <- holding [v,ov] (eval ik X.env)
   standAt apos
   holding [v,ov,iv] (setItem ov iv v)
   release [v,ov,iv] []):=by intro _;rfl):DS1 X (.Assign [.Subscript ox ik apos] e pos) (sJ i fk fe):=
 PS.mono (PS.or (nN he (rH hx hk mH ha) hs1 hw h1) (lG (jK hr) hx hk he hs)) fun D σ H ⟨Φ,δ,F,ot,hK,en,hg,k⟩=>by
  unfold sJ at hg
  obtain ⟨d,hd,hg⟩:=bS hg
  obtain ⟨kd,hkd,hg⟩:=bS hg
  split at hg<;>first | (cases hg;done) | skip
  · rename_i l hl
    obtain ⟨n,hn,hg⟩:=bS hg
    obtain ⟨j,hj,hg⟩:=mS hg
    cases hg
    refine .inl ⟨Φ,δ,F,d,hK,en,hd,fun v H1 F1 st rv=>?_⟩
    have en1:=en.step st
    obtain ⟨a,vs,hv,h1,h2⟩:=en1.ownL hl
    refine ⟨.ref a,hv,Φ,δ,F1,kd,hK,en1,hkd,fun w H2 F2 st2 rw'=>?_⟩
    have en2:=en1.step st2
    refine ⟨a,vs,n,j,rfl,mV hn rw',st2.hh _ _ h1,by rw [h2.length];exact hj,?_⟩
    exact k σ F2 _ (en2.poke hl hv (fun d z=>nomatch z) fun S sa=>⟨a,_,rfl,sa,az,Reps.set (hK▸rv.same st2.ff) j (h2.same st2.ff)⟩)
  · rename_i l hl
    obtain ⟨kk,hkk,hg⟩:=bS hg
    split at hg<;>first | (cases hg;done) | skip
    rename_i hc
    cases hg
    refine .inr ⟨Φ,δ,F,d,hK,en,hd,fun v H1 F1 st rv=>?_⟩
    have en1:=en.step st
    obtain ⟨a,kvs,hv,h1,h2,h3⟩:=en1.ownD hl
    refine ⟨.ref a,hv,Φ,δ,F1,kd,hK,en1,hkd,fun w H2 F2 st2 rw'=>?_⟩
    have en2:=en1.step st2
    have:=pO rw' hkk
    subst this
    have hlen:kvs.length=l.length:=by simpa using congrArg List.length h2
    refine ⟨a,_,rfl,.inl ⟨kvs,kk,st2.hh _ _ h1,rfl,by rw [hlen];exact hc.1,rfl⟩,?_⟩
    obtain ⟨p1,p2⟩:=vh kk v kvs l d (by rw [h2];exact hc.2) h2
    exact k σ F2 _ (en2.poke hl hv (fun d z=>nomatch z) fun S sa=>⟨a,_,rfl,sa,az,p1,p2 _ _ (hK▸rv.same st2.ff) (h3.same st2.ff)⟩)
end
section
variable {prog:Program} {w:World} {A:Around} {E:Value->Shared->Prop} {s:Shared} {I t:Addr} {j:Nat} {vs:Array Value}
def oj {y:Value} {Q:Value->Shared->Prop} (hI:s.heap.IsTupleIter I t j) (hv:s.heap.IsTuple t vs) (hy:vs[j]?=some y)
  (q:∀ h',h'.IsTupleIter I t (j+1)->Heap.SameBut I s.heap h'->Q y {s with heap:=h'}):wpAny (model prog w) A (Builtin.SmallTypes.nextOf (.ref I)) Q E s:=by
 obtain ⟨oi,hoi,hci,hdi⟩:=id hI
 obtain ⟨ot,hot,_,nt,hdt⟩:=hv
 unfold Builtin.SmallTypes.nextOf
 refine wB (wpAny_callSpecial?_slot (name:=Str.ofString "__next__") hI.typeIs F.slot_tuple_iterator_next (wpAny_call_entry F.slot_tuple_iterator_next hI.typeIs F.entry_tuple_iterator_next ?_ (F.args_tuple_iterator_next_1 _)))
 show wpAny _ _ (field (.ref I) 0 >>= _) _ _ s
 refine wB (wpAny_field hoi hdi (x:=.ref t) rfl ?_)
 show wpAny _ _ (if (Value.ref t==Value.none)=true then _ else _) _ _ s
 rw [if_neg (show ¬ (Value.ref t==Value.none)=true by exact Bool.false_ne_true)]
 show wpAny _ _ (field (.ref I) 1 >>= _) _ _ s
 refine wB (wpAny_field hoi hdi (x:=.int j 0) rfl ?_)
 show wpAny _ _ (seqItems? (.ref t) >>= _) _ _ s
 refine wB (wpAny_seqItems hot hdt ?_)
 simp only [Int.toNat_natCast,hy]
 refine wpAny_bind (wpAny_setField hoi hdi (by simp) (wpAny_pure ⟨y,rfl,wpAny_pure (q _ ?_ (Heap.SameBut.update ..))⟩))
 exact ⟨_,Heap.get?_update_self _ hoi (Obj.isFreed_of_fields (Obj.data_mapFields hdi _)),(Obj.cls_mapFields ..).trans hci,by rw [Obj.data_mapFields hdi];simp [rawInt]⟩
def qP {Q:Value->Shared->Prop} (hh:A.handled=none) (hI:s.heap.IsTupleIter I t j) (hv:s.heap.IsTuple t vs) (hy:vs[j]?=none)
  (q:∀ h' e,Heap.ExtBut I s.heap h'->(∃ o,h'.get? e=some o/\o.cls=.type "StopIteration")->E (.ref e) {s with heap:=h'}):wpAny (model prog w) A (Builtin.SmallTypes.nextOf (.ref I)) Q E s:=by
 obtain ⟨oi,hoi,hci,hdi⟩:=id hI
 obtain ⟨ot,hot,_,nt,hdt⟩:=hv
 unfold Builtin.SmallTypes.nextOf
 refine wB (wpAny_callSpecial?_slot (name:=Str.ofString "__next__") hI.typeIs F.slot_tuple_iterator_next (wpAny_call_entry F.slot_tuple_iterator_next hI.typeIs F.entry_tuple_iterator_next ?_ (F.args_tuple_iterator_next_1 _)))
 show wpAny _ _ (field (.ref I) 0 >>= _) _ _ s
 refine wB (wpAny_field hoi hdi (x:=.ref t) rfl ?_)
 show wpAny _ _ (if (Value.ref t==Value.none)=true then _ else _) _ _ s
 rw [if_neg (show ¬ (Value.ref t==Value.none)=true by exact Bool.false_ne_true)]
 show wpAny _ _ (field (.ref I) 1 >>= _) _ _ s
 refine wB (wpAny_field hoi hdi (x:=.int j 0) rfl ?_)
 show wpAny _ _ (seqItems? (.ref t) >>= _) _ _ s
 refine wB (wpAny_seqItems hot hdt ?_)
 simp only [Int.toNat_natCast,hy]
 refine wpAny_bind (wpAny_rule (wpAny_bind (wpAny_setField hoi hdi (by simp) ?_)))
 show wpAny _ _ (newExc (.type "StopIteration") [] >>= _) _ _ _
 refine wB ?_
 simp only [newExc,newTuple]
 refine wB (wpAny_newObj_type ?_ (by first | size_fits | decide))
 refine wpAny_bind (m:=firstArgMember _ _) (wpAny_of_eq (a:=Value.none) (by first | rfl | (simp only [firstArgMember]<;>rfl)) ?_)
 refine wpAny_newObj_type ?_ (by first | size_fits | decide)
 simp only [raiseNew]
 refine wB (wpAny_handled ?_)
 first | rw [hh] | rw [show A.in1.handled=none by exact hh]
 refine wB (wpAny_pure (wpAny_throw ?_))
 exact q _ _ (((Heap.SameBut.update ..).extBut.push _).push _) ⟨_,Heap.get?_push_size _ rfl,rfl⟩
end
def mW {prog:Program} {w:World} {A:Around} (hh:A.handled=none) (I t:Addr) (hne:t≠I) (vs:Array Value):Draws prog w A I [I,t] vs.size (fun i v=>vs[i]?=some v) (fun i h=>h.IsTupleIter I t i/\h.IsTuple t vs) where
 live:=fun _ _ st=>let ⟨o,ho,_⟩:=st.1;⟨o,ho⟩
 frame:=fun _ _ _ st hk=>⟨let ⟨o,ho,r⟩:=st.1;⟨o,hk I (by simp) o ho,r⟩,let ⟨o,ho,r⟩:=st.2;⟨o,hk t (by simp) o ho,r⟩⟩
 item:=fun i s Q E hi st hQ=>oj st.1 st.2 (y:=vs[i]) (by simp [hi]) fun h' a b=>hQ _ h' s.toks (by simp [hi]) ⟨a,let ⟨o,ho,r⟩:=st.2;⟨o,b.extBut _ _ hne ho,r⟩⟩ b
 done:=fun s Q E st hE=>qP hh st.1 st.2 (by simp) hE
def SqB (b:Bool) (K:PySem.W.Frag) (H:Hp) (a:Addr) (xs:List V):Prop:=match b with
 | true=>SqL K H a xs
 | false=>SqT K H a xs
def ItB (b:Bool) (h:Heap) (I a:Addr) (i:Nat):Prop:=match b with
 | true=>h.IsListIter I a i
 | false=>h.IsTupleIter I a i
def CoB (b:Bool) (h:Heap) (a:Addr) (vs:Array Value):Prop:=match b with
 | true=>h.IsList a vs
 | false=>h.IsTuple a vs
def ItB.obj {b:Bool} {h:Heap} {I a:Addr} {i:Nat} (x:ItB b h I a i):∃ o,h.get? I=some o/\(o.cls=.type "list_iterator"∨o.cls=.type "tuple_iterator")/\∀ v,o.data≠.cell v:=by
 cases b with
 | true=>obtain ⟨o,e,c,d⟩:=x;exact ⟨o,e,.inl c,fun v z=>by rw [d] at z;cases z⟩
 | false=>obtain ⟨o,e,c,d⟩:=x;exact ⟨o,e,.inr c,fun v z=>by rw [d] at z;cases z⟩
def ItB.at {b:Bool} {h h':Heap} {I a:Addr} {i:Nat} (x:ItB b h I a i) (k:∀ o,h.get? I=some o->h'.get? I=some o):ItB b h' I a i:=by
 cases b with
 | true=>obtain ⟨o,e,r⟩:=x;exact ⟨o,k o e,r⟩
 | false=>obtain ⟨o,e,r⟩:=x;exact ⟨o,k o e,r⟩
def CoB.obj {b:Bool} {h:Heap} {a:Addr} {vs:Array Value} (x:CoB b h a vs):∃ o,h.get? a=some o/\(o.cls=.type "list"∨o.cls=.type "tuple"):=by
 cases b with
 | true=>obtain ⟨o,e,c,_⟩:=x;exact ⟨o,e,.inl c⟩
 | false=>obtain ⟨o,e,c,_⟩:=x;exact ⟨o,e,.inr c⟩
def wS {x y:String} (h:x≠y):Value.type x≠Value.type y:=fun z=>h (by cases z;rfl)
def sK {b c:Bool} {h:Heap} {I a l:Addr} {i:Nat} {vs:Array Value} (x:ItB b h I a i) (y:CoB c h l vs):l≠I:=by
 obtain ⟨o,e1,c1,_⟩:=x.obj
 obtain ⟨o',e2,c2⟩:=y.obj
 rintro rfl
 rw [e1] at e2
 cases e2
 rcases c1 with c1 | c1<;>rcases c2 with c2 | c2<;>rw [c1] at c2<;>exact absurd c2 (wS (by decide))
section
variable {X:Cx} {pins:List (Addr×Obj)} {σ:St} {H:Hp} {s:Shared} {a I:Addr} {xs:List V} {b:Bool}
def Inv.seqB (J:Inv X pins σ H s) (h:SqB b X.K H a xs):∃ its:List Value,Vals xs its/\CoB b s.heap a its.toArray:=by
 cases b with
 | true=>obtain ⟨its,r,p,_⟩:=J.list h;exact ⟨its,r,p.isList⟩
 | false=>obtain ⟨its,r,p,_⟩:=J.tuple h;exact ⟨its,r,p⟩
def Inv.seqB_inj {ys:List V} (J:Inv X pins σ H s) (h:SqB b X.K H a xs) (h':SqB b X.K H a ys):xs=ys:=by
 cases b with
 | true=>exact J.list_inj h h'
 | false=>exact J.tuple_inj h h'
def sL {prog:Program} {w:World} {A:Around} (hh:A.handled=none) (hne:a≠I) (vs:Array Value):Draws prog w A I [I,a] vs.size (fun i v=>vs[i]?=some v) (fun i h=>ItB b h I a i/\CoB b h a vs):=by
 cases b with
 | true=>exact Draws.list hh I a hne vs
 | false=>exact mW hh I a hne vs
def Inv.turnedL {h':Heap} {t':Nat} {fp:List Addr} (J:Inv X pins σ H s) (k:∀ b o,b∉fp->s.heap.get? b=some o->h'.get? b=some o) (hf:∀ b∈fp,gG X pins H b):Inv X pins σ H {s with heap:=h',toks:=t'}:=by
 have nit:∀ b u,H b=some u->b∉fp:=fun b u e z=>by rw [(hf b z).1] at e;cases e
 refine J.step (g':=s.gens) (d':=s.drawn) (ch:=fp) (fun b hb=>?_) (fun b o _ _ hc e _=>k b o hc e) (fun b o _ _ hc e _=>⟨o.slots,k b o hc e⟩) (fun _ _ _ _ n=>n)
  (fun b o hc e=>⟨o,k b o hc e⟩) (fun _ _ e=>e) (fun _ _ _ e=>e) (fun b ps e=>⟨#[],by rw [e];simp⟩) (fun m hm=>?_) (fun b u e=>?_) J.bare
 · exact ⟨(hf b hb).2.2.2.1,(hf b hb).2.1,(hf b hb).2.2.2.2.1,(hf b hb).2.2.2.2.2⟩
 · obtain ⟨o,es,ep,ho,r⟩:=hm
   exact ⟨o,es,ep,k _ o (fun z=>(hf _ z).2.1 rfl) ho,r⟩
 · refine (J.hok b u e).stay (fun c v hc q=>k c v ?_ q) (fun _ q=>q) fun _ _ q=>q
   rcases hc with z | z
   · rw [z];exact nit b u e
   · exact nit c _ z
end
section
variable {X:Cx} {pins:List (Addr×Obj)} {σ:St} {H:Hp} {s:Shared}
def Inv.turnedT {h':Heap} {t':Nat} {fp:List Addr} {t:Addr} {u:HO} (J:Inv X pins σ H s) (k:∀ b o,b∉fp->s.heap.get? b=some o->h'.get? b=some o) (hf:∀ b∈fp,gG X pins H b) (ht:s.heap.objs.size<=t) (new:ObjOk X.prog X.w (upd H t u) h' t u) :
  Inv X pins σ (upd H t u) {s with heap:=h',toks:=t'}:=by
 have nit:∀ b u,H b=some u->b∉fp:=fun b u e z=>by rw [(hf b z).1] at e;cases e
 have hn:H t=none:=J.hok.fresh ht
 have net:∀ b v,H b=some v->b≠t:=fun b v e=>bW e hn
 have nlt:∀ b o,s.heap.get? b=some o->b≠t:=fun b o e z=>by subst z;exact absurd (Heap.lt_size e) (Nat.not_lt.mpr ht)
 refine J.step (g':=s.gens) (d':=s.drawn) (ch:=fp) (fun b hb=>?_) (fun b o _ _ hc e _=>k b o hc e) (fun b o _ _ hc e _=>⟨o.slots,k b o hc e⟩) (fun b o _ e n=>by rw [aF (nlt b o e)];exact n)
  (fun b o hc e=>⟨o,k b o hc e⟩) (fun b xs e=>by rw [aF (net b _ e)];exact e) (fun b o v e=>by rw [aF (net b _ e)];exact e) (fun b ps e=>⟨#[],by rw [aF (net b _ e),e];simp⟩) (fun m hm=>?_) (fun b v e=>?_) J.bare
 · exact ⟨(hf b hb).2.2.2.1,(hf b hb).2.1,(hf b hb).2.2.2.2.1,(hf b hb).2.2.2.2.2⟩
 · obtain ⟨o,es,ep,ho,r⟩:=hm
   exact ⟨o,es,ep,k _ o (fun z=>(hf _ z).2.1 rfl) ho,r⟩
 · by_cases hb:b=t
   · subst hb
     rw [az] at e
     cases e
     exact new
   · rw [aF hb] at e
     refine (J.hok b v e).stay (fun c ob hc q=>k c ob ?_ q) (fun c q=>by rw [aF (net c _ q)];exact q) fun c ys q=>by rw [aF (net c _ q)];exact q
     rcases hc with z | z
     · rw [z];exact nit b v e
     · exact nit c _ z
end
noncomputable def Ite (b:Bool) (K:PySem.W.Frag) (a:Addr):It:=
 ⟨fun i H=>∃ xs x,SqB b K H a xs/\xs[i]?=some x,fun i H x H'=>∃ t v,H t=none/\x=.ref t/\H'=upd H t (.tup [.int i,v])/\∀ xs,SqB b K H a xs->xs[i]?=some v,fun i H=>∃ xs,SqB b K H a xs/\xs.length=i⟩
def qQ {P:Program} {w:World} {K:PySem.W.Frag} {elts:List Expr} {n:Nat} {pos:Pos} (b:Bool) (a e I:Addr) (hne:e≠I) :
  Turn P w K (.Tuple elts n pos) (Ite b K a) [e,I] e (fun i h=>(∃ old,IsEnum h e I i old)/\ItB b h I a i) where
 mem:=by simp
 obj:=fun i h st c hc=>by
  obtain ⟨⟨old,st1⟩,st2⟩:=st
  simp only [List.mem_cons,List.not_mem_nil,or_false] at hc
  rcases hc with rfl | rfl
  · exact ⟨_,st1,fun v z=>nomatch z⟩
  · obtain ⟨o,q,_,d⟩:=st2.obj
    exact ⟨o,q,d⟩
 keep:=fun i h h' st k=>by
  obtain ⟨⟨old,st1⟩,st2⟩:=st
  exact ⟨⟨old,k e (by simp) _ st1⟩,st2.at fun o q=>k I (by simp) o q⟩
 item:=by
  intro X hP hw hK hc i pins s σ H E J hf st hg
  subst hP hw hK
  obtain ⟨⟨old,st1⟩,st2⟩:=st
  obtain ⟨xs,x,hq,hx⟩:=hg
  obtain ⟨its,rv,co⟩:=J.seqB hq
  obtain ⟨u,hu,ru⟩:=rv.get hx
  have hi:i<its.toArray.size:=by simpa using (gX hu).1
  have hae:e∉[I,a]:=by
   simp only [List.mem_cons,List.not_mem_nil,or_false,not_or]
   refine ⟨hne,fun z=>?_⟩
   obtain ⟨o,q,c⟩:=co.obj
   rw [<- z,st1] at q
   cases q
   rcases c with c | c<;>exact absurd c (wS (by decide))
  refine wpAny_pyNext_enum_itemD (sL (A:=X.A.in1) (b:=b) (I:=I) (a:=a) (show X.A.in1.handled=none from J.ok.hd hc) (sK st2 co) its.toArray) st1 ⟨st2,co⟩ hi hne hae fun y h1 tk hy ho hs1 hT hsz hk=>⟨_,rfl,?_⟩
  have ey:y=u:=by
   rw [show its.toArray[i]?=its[i]? by simp,hu] at hy
   exact (Option.some.inj hy).symm
  subst ey
  refine wpAny_letOwnedTupleGo_enum ho fun h2 he2 sb2=>?_
  have kk:∀ c o,c∉[e,I]->s.heap.get? c=some o->h2.get? c=some o:=fun c o hc' q=>by
   simp only [List.mem_cons,List.not_mem_nil,or_false,not_or] at hc'
   exact (sb2.2 c hc'.1).trans (hk c o hc'.1 hc'.2 q)
  have lt:∀ c∈[e,I],c<s.heap.objs.size:=fun c hc'=>by
   simp only [List.mem_cons,List.not_mem_nil,or_false] at hc'
   rcases hc' with rfl | rfl
   · exact Heap.lt_size st1
   · obtain ⟨o,q,_⟩:=st2.obj
     exact Heap.lt_size q
  -- first the records,then the pair
  have hT2:h2.get? s.heap.objs.size=some {cls:=.type "tuple",data:=.seq #[.int i tk,y]}:=(sb2.2 _ (fun z=>Nat.lt_irrefl _ (z▸lt e (by simp)))).trans hT
  have J2:Inv X pins σ (upd H s.heap.objs.size (.tup [.int i,x])) {s with heap:=h2,toks:=tk+1}:=by
   refine J.turnedT kk hf (nL _) ⟨by show 2<=sizeLine;decide,[.int i tk,y],.cons ⟨_,rfl⟩ (.cons ru .nil),?_⟩
   exact ⟨_,hT2,rfl,_,rfl⟩
  refine ⟨.ref s.heap.objs.size,_,J2,rfl,⟨_,x,J.hok.fresh (Nat.le_refl _),rfl,rfl,fun ys hy=>by rw [J.seqB_inj hy hq];exact hx⟩,⟨⟨_,by simpa using he2⟩,hs1.1.at fun o q=>(sb2.2 I (Ne.symm hne)).trans q⟩,fun c hc'=>?_⟩
  rw [aF (Nat.ne_of_lt (lt c hc'))]
  exact (hf c hc').1
 done:=by
  intro X hP hw hK hc i pins s σ H E J hf st hg
  subst hP hw hK
  obtain ⟨⟨old,st1⟩,st2⟩:=st
  obtain ⟨xs,hq,hx⟩:=hg
  obtain ⟨its,rv,co⟩:=J.seqB hq
  have hi:i=its.toArray.size:=by rw [<- hx];simpa using rv.length
  refine wpAny_pyNext_enum_endD (sL (A:=X.A.in1) (b:=b) (I:=I) (a:=a) (show X.A.in1.handled=none from J.ok.hd hc) (sK st2 co) its.toArray) st1 (show ItB b s.heap I a its.toArray.size/\CoB b s.heap a its.toArray from ⟨hi▸st2,co⟩) fun h' eb=>⟨rfl,?_⟩
  exact J.turnedL (t':=s.toks) (fun c o hc' q=>eb c o (fun z=>hc' (by simp [z])) q) hf
 self:=fun A i s Q E st h=>by
  obtain ⟨⟨old,st1⟩,st2⟩:=st
  exact wpAny_pyIter_enum st1 h
def mX (t:Addr) (vs:Array Value) (n:Nat) (dd:Option Addr) (sl:Array (Option Value)) :
  Meets (Builtin.«enumerate.__new__» ⟨[.type "enumerate",.ref t],[]⟩) (fun _ R s=>s.heap.get? t=some {cls:=.type "tuple",dict:=dd,data:=.seq vs n,slots:=sl}∧
   R (.ok (.ret (.ref (s.heap.push {cls:=.type "tuple_iterator",data:=.fields #[.ref t,.int 0 0]}).objs.size)))
    {s with heap:=(s.heap.push {cls:=.type "tuple_iterator",data:=.fields #[.ref t,.int 0 0]}).push {cls:=.type "enumerate",data:=.fields #[.none,.bool false,.ref s.heap.objs.size,rawInt 0,.none,.none]}}):=
 .of_wp fun prog w A R s h=>by
  obtain ⟨hp,g,d,tk,os⟩:=s
  obtain ⟨ht,h⟩:=h
  have hsub:=sub_enumerate
  have hT:Heap.IsTuple (Shared.heap ⟨hp,g,d,tk,os⟩) t vs:=⟨_,ht,rfl,n,rfl⟩
  wp_walk using AutoSeq1.wpAny_loadPart' ht
  refine wpAny_stack_any fun st=>wpAny_pure ?_
  split
  · rename_i c _ _ _ _ _
    cases (c==Value.type "enumerate")<;>(wp_walk using AutoSeq1.wpAny_loadPart' ht,wpAny_pyIter_tuple hT)<;>exact ⟨_,rfl,h⟩
  · (wp_walk using AutoSeq1.wpAny_loadPart' ht,wpAny_pyIter_tuple hT)<;>exact ⟨_,rfl,h⟩
section
variable {prog:Program} {w:World} {A:Around} {E:Value->Shared->Prop} {s:Shared}
def om {t:Addr} {vs:Array Value} {Q:Value->Shared->Prop} (hT:s.heap.IsTuple t vs)
  (h:∀ h',IsEnum h' (s.heap.objs.size+1) s.heap.objs.size 0 .none->h'.IsTupleIter s.heap.objs.size t 0->h'.objs.size=s.heap.objs.size+2→
   (∀ c u,s.heap.get? c=some u->h'.get? c=some u)->Q (.ref (s.heap.objs.size+1)) {s with heap:=h'}) :
  wpAny (model prog w) A (call (.type "enumerate") [.ref t]) Q E s:=by
 obtain ⟨⟨c,dct,dt,sl⟩,hl,hc,n,hd⟩:=hT
 have hc:c=.type "tuple":=hc
 have hd:dt=.seq vs n:=hd
 subst hc hd
 refine callType_new F.called_enumerate (by decide) (F.typeCall_enumerate_1 _) (F.newCall_enumerate_1 _) (fun obj=>F.args_object_init_2 obj _) F.entry_enumerate_new (mX t vs n dct sl) ⟨hl,?_⟩
 have hz:(s.heap.push {cls:=.type "tuple_iterator",data:=.fields #[.ref t,.int 0 0]}).objs.size=s.heap.objs.size+1:=Heap.size_push ..
 have hz2:((s.heap.push {cls:=.type "tuple_iterator",data:=.fields #[.ref t,.int 0 0]}).push {cls:=.type "enumerate",data:=.fields #[.none,.bool false,.ref s.heap.objs.size,rawInt 0,.none,.none]}).objs.size=s.heap.objs.size+2:=by rw [Heap.size_push,hz]
 rw [hz]
 have hen:=Heap.get?_push_size (s.heap.push {cls:=.type "tuple_iterator",data:=.fields #[.ref t,.int 0 0]}) (o:={cls:=.type "enumerate",data:=.fields #[.none,.bool false,.ref s.heap.objs.size,rawInt 0,.none,.none]}) rfl
 rw [hz] at hen
 exact ⟨⟨_,hen,rfl⟩,h _ hen ⟨_,gP _ (Heap.get?_push_size _ rfl),rfl,rfl⟩ hz2 fun c u z=>gP _ (gP _ z)⟩
def oo {b:Bool} {t:Addr} {vs:Array Value} {Q:Value->Shared->Prop} (hT:CoB b s.heap t vs)
  (h:∀ h',IsEnum h' (s.heap.objs.size+1) s.heap.objs.size 0 .none->ItB b h' s.heap.objs.size t 0->h'.objs.size=s.heap.objs.size+2→
   (∀ c u,s.heap.get? c=some u->h'.get? c=some u)->Q (.ref (s.heap.objs.size+1)) {s with heap:=h'}) :
  wpAny (model prog w) A (call (.type "enumerate") [.ref t]) Q E s:=by
 cases b with
 | true=>exact call_enumerate_list hT h
 | false=>exact om hT h
end
section
variable {X:Cx} {x:Expr} {p pos tpos:Pos} {sc:Scope} {fs:De->Option (List Dt)} {elts:List Expr} {n:Nat}
def zn (K:PySem.W.Frag) (ta:TA):TI:=fun σ H R=>ta σ H fun vs H1=>∃ b a xs,vs=[.ref a]/\SqB b K H1 a xs/\R (Ite b K a) H1
def vi {ta:TA} (h:bq sc "enumerate"=true) (hm:X.mg "enumerate"=none) (ha:PA X [x] ta) (e1:cW X sc:=by rfl) (hs:starEach [x] X.env=[(false,eval x X.env)]:=by rfl) :
  PI X (.Tuple elts n tpos) (.Call (.Name "enumerate" p) [x] [] pos) (zn X.K ta):=by
 intro pins s σ H R I h'
 refine Call_ (jD I (glD h e1) hm lK (PyProof.Rows.callWith_type1 (thn (ha pos pins s σ H _ I h') fun us s1 ⟨vs,H1,I1,r1,q1⟩=>?_) hs rfl))
 obtain ⟨b,a,xs,rfl,hq,q⟩:=q1
 obtain ⟨u,rfl,ru⟩:=iZ r1
 cases ru
 obtain ⟨its,rv,co⟩:=I1.seqB hq
 refine oo co fun h2 he hi hz hk=>wpAny_pyIter_enum he ?_
 have I2:Inv X pins σ H1 {s1 with heap:=h2}:=I1.kept (t':=s1.toks) hk
 refine ⟨s1.heap.objs.size+1,[s1.heap.objs.size+1,s1.heap.objs.size],_,_,H1,rfl,I2,qQ b a _ _ (Nat.ne_of_gt (Nat.lt_succ_self _)),⟨⟨_,he⟩,hi⟩,fun c hc=>?_,q⟩
 have hge:s1.heap.objs.size<=c:=by
  simp only [List.mem_cons,List.not_mem_nil,or_false] at hc
  rcases hc with rfl | rfl
  · exact Nat.le_succ _
  · exact nL _
 exact I1.fpOk hge (I1.hok.fresh hge)
def fG (i:Nat):List Dt->List Dt
 | []=>[]
 | d::r=>.tup [.int i,d]::fG (i+1) r
def kR:∀ (l:List Dt) (i:Nat),(fG i l).length=l.length
 | [],_=>rfl
 | _::r,i=>by simp [fG,kR r]
def kS:∀ (l:List Dt) (i k:Nat),(fG i l)[k]?=l[k]?.map fun d=>.tup [.int ((i+k:Nat):Int),d]
 | [],i,k=>by simp [fG]
 | d::r,i,0=>by simp [fG]
 | d::r,i,k+1=>by simp [fG,kS r,Nat.add_assoc,Nat.add_comm 1]
def kT:List Dt->Option (List Dt)
 | [.lst l]=>some (fG 0 l)
 | [.tup l]=>some (fG 0 l)
 | _=>none
def sM {K:PySem.W.Frag} {F:Hp} {d e:Dt} {v w:V} {t:Addr} (h:F t=some (.tup [v,w])) (r:Rep K F d v) (r':Rep K F e w):Rep K F (.tup [d,e]) (.ref t):=by
 simp only [Rep,Reps]
 exact ⟨t,_,rfl,SqT.of h,v,[w],rfl,r,w,[],rfl,r',rfl⟩
def kU {K:PySem.W.Frag} {F:Hp} {b:Bool} {a:Addr} {xs:List V} {l:List Dt} (r:Reps K F l xs):pH K F (Ite b K a) (fG 0 l) (fun H=>SqB b K H a xs):=fun i H F2 hok fh ff=>by
 have hl:=r.length
 rw [kR]
 refine ⟨fun h=>⟨xs,xs[i],hok,by simp [show i<xs.length by omega]⟩,fun h=>⟨xs,hok,by omega⟩,fun x H' hi hy=>?_⟩
 obtain ⟨t,v,ht,rfl,rfl,hv⟩:=hy
 have hx:=hv xs hok
 obtain ⟨d,hd,rd⟩:=r.same_get hx
 refine ⟨_,upd F2 t (.tup [.int i,v]),?_,Step.new fh ht,sM az gi ((rd.same ff).same (Same.upd (fh.free ht)))⟩
 rw [kS,hd]
 simp
def lT (h:bq sc "enumerate"=true) (hm:X.mg "enumerate"=none) (ha:DA X [x] fs) (e1:cW X sc:=by rfl) (hs:starEach [x] X.env=[(false,eval x X.env)]:=by rfl) :
  DIF X (.Tuple elts n tpos) (.Call (.Name "enumerate" p) [x] [] pos) (dO kT fs):=PI.mono (vi h hm ha.pa e1 hs) fun σ H R ⟨Φ,δ,F,ds,hK,en,hf,k⟩=>by
 unfold dO at hf
 obtain ⟨as,hd,hf⟩:=bS hf
 refine ⟨Φ,δ,F,as,hK,en,hd,fun vs H' F' st r=>?_⟩
 unfold kT at hf
 split at hf<;>first | (cases hf;done) | skip
 · cases hf
   simp only [Reps,Rep] at r
   obtain ⟨v,ws,rfl,⟨a,xs,rfl,h1,h2⟩,rfl⟩:=r
   exact ⟨true,a,xs,rfl,st.fh.seq h1,k _ _ H' F' st (kU (b:=true) h2) fun H2 s=>s.seq h1⟩
 · cases hf
   simp only [Reps,Rep] at r
   obtain ⟨v,ws,rfl,⟨a,xs,rfl,h1,h2⟩,rfl⟩:=r
   exact ⟨false,a,xs,rfl,st.fh.tup h1,k _ _ H' F' st (kU (b:=false) h2) fun H2 s=>s.tup h1⟩
end
section
variable {prog:Program} {w:World} {A:Around} {E:Value->Shared->Prop} {s:Shared} {z ti tO i1 i2:Addr} {fp1 fp2:List Addr} {n1 n2 k:Nat} {P1 P2:Nat->Value->Prop} {S1 S2:Nat->Heap->Prop} {va vb:Value}
end
section
variable {prog:Program} {w:World} {A:Around} {E:Value->Shared->Prop} {s:Shared}
end
section
variable {X:Cx} {pins:List (Addr×Obj)} {σ:St} {H:Hp} {s:Shared} {a:Addr} {xs ys:List V} {b c:Bool}
end
section
variable {X:Cx} {x y:Expr} {p pos tpos:Pos} {sc:Scope} {fs:De->Option (List Dt)} {elts:List Expr} {n:Nat}
end
section
variable {X:Cx} {o a b e c:Expr} {es:List Expr} {fa fb fo fe:De->Option Dt} {fs:De->Option (List Dt)} {pos apos cpos p:Pos} {i:Nat}
end
def mY {K:PySem.W.Frag} {F F':Hp} {d:Dt} {v:V} (r:Rep K F d v) (h:je d=true):Rep K F' d v:=by
 cases d<;>first | (cases h;done) | (simp only [Rep] at r ⊢;exact r)
section
variable {X:Cx} {e:Expr} {es:List Expr} {fs:De->Option (List Dt)} {pos p:Pos} {x:Str} {sc:Scope}
end
def gAdd_i {i j:Int}:bm (.int i) (.int j)=some (.leaf (.int (i+j))):=rfl
def ya {l m:List Dt} (h:l.length+m.length<=sizeLine):bm (.lst l) (.lst m)=some (.lst (l++m)):=if_pos h
def sN {i j:Int} (h:jc i j=true):cp (.int i) (.int j)=some (.leaf (.int (i*j))):=if_pos h
def jT {i j:Int} (h:0<j):bU (.int i) (.int j)=some (.leaf (.int (i%j))):=if_pos h
def yb {i j:Int} (h:mR i j=true):im (.int i) (.int j)=some (.leaf (.int (i^j.toNat))):=if_pos h
def sO:mR 2 40=true:=by decide
@[irreducible] def wide:Int:=1099511627776
def lU:wide=1099511627776:=by unfold wide;rfl
def vj:im (.int 2) (.int 40)=some (.leaf (.int wide)):=by
 rw [yb sO,lU]
 rfl
def mZ:(0:Int)<wide:=by rw [lU];decide
def gMod_w {i:Int}:bU (.int i) (.int wide)=some (.leaf (.int (i%wide))):=jT mZ
def gCmp_i {f:Int->Int->Bool} {i j:Int}:fT f (.int i) (.int j)=some (.leaf (.bl (f i j))):=rfl
def zo {i j:Int}:eqD (.int i) (.int j)=some (decide (i=j)):=rfl
def wT {l m:List Dt} (h:(cmpbs l m&&decide (deeps l<=59))=true):eqD (.tup l) (.tup m)=some (peqs l m):=if_pos h
def yc {neg:Bool} {x y:Dt} {b:Bool} (h:eqD x y=some b):gEq neg x y=some (.leaf (.bl (if neg then !b else b))):=by
 unfold gEq
 rw [h]
 rfl
def gIx_l {l:List Dt} {i:Int}:aS (.lst l) (.int i)=(atI l i).map .leaf:=rfl
def gIx_t {l:List Dt} {i:Int}:aS (.tup l) (.int i)=(atI l i).map .leaf:=rfl
def zp {x:Str} {i:Int} (h:x.length<=sizeLine):aS (.str x) (.int i)=(atI x.cps.toList i).map fun c=>.leaf (.str ⟨#[c]⟩):=if_pos h
def gLen_l {l:List Dt}:bB [.lst l]=some (.leaf (.int l.length)):=rfl
def yd {j:Int} (h:il j=true):iM [.int j]=some (cj 0 j.toNat):=if_pos h
def sP {j:Int} (h0:-1000000000<=j) (h1:j<=1000000000):il j=true:=by
 unfold il
 simp only [Bool.and_eq_true,decide_eq_true_eq]
 omega
def oq {n:Nat} (h:n<=1000000000):iM [.int n]=some (cj 0 n):=by
 rw [yd (sP (by omega) (by omega))]
 rfl
def asB_b {b:Bool}:asB (.leaf (.bl b))=some b:=rfl
def small {n:Nat} (h:n<=1000000):n<=sizeLine:=Nat.le_trans h (by decide)
def gm {bb:Dt->De->Option De} {ft:De->Option Bool} {fe:De->Option Dt} {δ:De} {f:Dt->Dt}:∀ {ds:List Dt},(∀ d∈ds,∃ δ1,bb d δ=some δ1/\ft δ1=some true/\fe δ1=some (f d))->cr bb ft fe δ ds=some (ds.map f)
 | [],_=>rfl
 | d::r,h=>by
  obtain ⟨δ1,h1,h2,h3⟩:=h d List.mem_cons_self
  unfold cr
  rw [h1,Option.bind_some,h2,Option.bind_some,if_pos rfl,h3,Option.bind_some,gm fun e he=>h e (List.mem_cons_of_mem _ he)]
  rfl
def mem_range {lo:Int} {n:Nat} {d:Dt} (h:d∈cj lo n):∃ i:Nat,i<n/\d=.int (lo+i):=by
 unfold cj at h
 obtain ⟨i,hi,rfl⟩:=List.mem_map.mp h
 exact ⟨i,List.mem_range.mp hi,rfl⟩
def iq {src:List (Option Nat)} {fi:De->Option (List Dt)} {bb:Dt->De->Option De} {ft:De->Option Bool} {fe:De->Option Dt} {δ:De} {ds ys:List Dt} (h1:fi δ=some ds) (h2:cr bb ft fe (dC src δ) ds=some ys) (h3:ys.length<=1000000):ck src fi bb ft fe δ=some (.lst ys):=by
 unfold ck
 rw [h1,Option.bind_some,h2,Option.bind_some]
 exact if_pos (small h3)
def gp {bb:Dt->De->Option De} {g:De->Option Out} {d:Dt} {r:List Dt} {δ δ1 δ2:De} (h1:bb d δ=some δ1) (h2:g δ1=some (.nx δ2)):gS bb g (d::r) δ=gS bb g r δ2:=by
 show ((bb d δ).bind fun δ1=>(g δ1).bind fun o=>match o with | .nx δ2=>gS bb g r δ2 | .ct δ2=>gS bb g r δ2 | .bk δ2=>some (.nx δ2) | .rt t=>some (.rt t) | .re t δ2=>some (.re t δ2))=_
 rw [h1,Option.bind_some,h2]
 rfl
def sQ {α:Type} {l:List α} {k:Nat}:atI l (k:Int)=l[k]?:=by
 unfold atI ixN
 rw [if_pos (by omega)]
 by_cases h:k<l.length
 · rw [if_pos (by omega)]
   simp
 · rw [if_neg (by omega)]
   simp
   omega
def ye {i j:Int} (h1:-1000000000000000000<i) (h2:i<1000000000000000000):cp (.int i) (.int j)=some (.leaf (.int (i*j))):=sN (u6 h1 h2)
def jU {i j:Int} (h1:-1000000000000000000<j) (h2:j<1000000000000000000):cp (.int i) (.int j)=some (.leaf (.int (i*j))):=sN (u7 h1 h2)
def wU (o:Option Out) (g:De->Option Out):Option Out:=o.bind fun o=>match o with
 | .nx δ'=>g δ'
 | o=>some o
def dA {g1 g2:De->Option Out} {δ:De}:dy g1 g2 δ=wU (g1 δ) g2:=rfl
def b7 {δ:De} {g:De->Option Out}:wU (some (.nx δ)) g=g δ:=rfl
def qR:Option Out->Option T
 | some (.rt t)=>some t
 | some (.nx _)=>some (.leaf .non)
 | _=>none
def ou {m:Nat} {g:De->Option Out} {ds:List Dt}:lS m g ds=qR (g (ds.map (fun d=>some (.leaf d))++List.replicate (m-ds.length) none)):=rfl
def zE {t:T}:qR (some (.rt t))=some t:=rfl
def m3 {α:Type} (b:Option Bool) (f g:De->Option α) (δ:De):Option α:=b.bind fun b=>if b then f δ else g δ
def vk {α:Type} {f g:De->Option α} {δ:De}:m3 (some true) f g δ=f δ:=rfl
def vm {α:Type} {f g:De->Option α} {δ:De}:m3 (some false) f g δ=g δ:=rfl
def pP {α:Type} {f g:De->Option α} {δ:De} {b:Bool} (h:b=true):m3 (some b) f g δ=f δ:=by subst h;rfl
def pQ {α:Type} {f g:De->Option α} {δ:De} {b:Bool} (h:b=false):m3 (some b) f g δ=g δ:=by subst h;rfl
def wV {c:De->Option Bool} {g1 g2:De->Option Out} {δ:De}:sIf c g1 g2 δ=m3 (c δ) g1 g2 δ:=rfl
def mkL (ds:List Dt):Option T:=if ds.length<=sizeLine then some (.lst ds) else none
def vn (ds:List Dt):Option T:=if ds.length<=sizeLine then some (.leaf (.tup ds)) else none
def sR {ds:List Dt} (h:ds.length<=1000000):mkL ds=some (.lst ds):=if_pos (small h)
def zF {ds:List Dt} (h:ds.length<=1000000):vn ds=some (.leaf (.tup ds)):=if_pos (small h)
def vTup_d {f:De->Option (List Dt)} {δ:De}:b6 f δ=(f δ).bind vn:=rfl
def vo {src:List (Option Nat)} {fi:De->Option (List Dt)} {bb:Dt->De->Option De} {ft:De->Option Bool} {fe:De->Option Dt} {δ:De}:ck src fi bb ft fe δ=(fi δ).bind fun ds=>(cr bb ft fe (dC src δ) ds).bind mkL:=rfl
def oy (cs:List Nat):Txt.join "" (cs.map fun c=>(⟨#[c]⟩:Str))=⟨cs.toArray⟩:=by
 have e0:("":Str).cps=#[]:=by decide +kernel
 have go:∀ (l:List Nat) (acc:Array Nat),(l.map fun c=>(⟨#[c]⟩:Str)).foldl (fun acc p=>acc++("":Str).cps++p.cps) acc=acc++l.toArray:=by
  intro l
  induction l with
  | nil=>intro acc;simp
  | cons c l ih =>
   intro acc
   rw [List.map_cons,List.foldl_cons,ih,e0]
   simp
 unfold Txt.join Builtin.Str.glued
 cases cs with
 | nil=>rfl
 | cons c r =>
  show (⟨(r.map fun c=>(⟨#[c]⟩:Str)).foldl (fun acc p=>acc++("":Str).cps++p.cps) (#[c]:Array Nat)⟩:Str)=_
  rw [go]
  simp
def lV (cs:List Nat) (h:cs.length<=1000):JoinOk "" (cs.map fun c=>(⟨#[c]⟩:Str))=true:=by
 unfold JoinOk
 have h1:∀ y∈cs.map (fun c=>(⟨#[c]⟩:Str)),y.length<=1:=fun y hy=>by
  obtain ⟨c,_,rfl⟩:=List.mem_map.mp hy
  exact nL _
 rw [StrLaws.joinFits h1 (by rw [List.length_map,show ("":Str).length=0 by decide +kernel];omega)]
 rfl
def jV:∀ ts:List Str,gU (ts.map .str)=some ts
 | []=>rfl
 | t::r=>by
  show (gU (r.map .str)).map (t::·)=_
  rw [jV r]
  rfl
def sgD (cs:List Nat):List Dt:=cs.map fun c=>.str ⟨#[c]⟩
def sS {cs:List Nat} (h:cs.length<=1000):gW (.str "") [.lst (sgD cs)]=some (.leaf (.str ⟨cs.toArray⟩)):=by
 have e:sgD cs=(cs.map fun c=>(⟨#[c]⟩:Str)).map .str:=by unfold sgD;rw [List.map_map];rfl
 show (gU (sgD cs)).bind _=_
 rw [e,jV,Option.bind_some,if_pos (lV cs h),oy]
def sT {α:Type} {xs:List α} {i:Int} (h0:0<=i) (h1:i<xs.length):∃ v,atI xs i=some v/\v∈xs:=by
 obtain ⟨n,rfl⟩:=Int.eq_ofNat_of_zero_le h0
 have hn:n<xs.length:=by omega
 exact ⟨xs[n],gc (by simp [hn]),List.getElem_mem hn⟩
def oz (a:Int) {n:Nat} (hn:0<n):∃ k:Nat,k<n/\a%(n:Int)=(k:Int):=by
 have h0:=Int.emod_nonneg a (show (n:Int)≠0 by omega)
 have h1:=Int.emod_lt_of_pos a (show (0:Int)<n by omega)
 exact ⟨(a%(n:Int)).toNat,by omega,by omega⟩
section
variable {X:Cx} {b:Expr} {fb:De->Option Dt} {pos p:Pos} {x:Str} {sc:Scope} {ks:List Key} {l:List Dt}
end
section
variable {X:Cx} {elt tg iter:Expr} {ifs:List Expr} {scope:Scope} {pos:Pos} {M:List Str} {src:List (Option Nat)} {wi:TI} {g:TG} {tt:TT} {te:TE}
def qS {pins:List (Addr×Obj)} {s:Shared} {σ:St} {H:Hp} {Q:VK} {cpos:Pos} {use:Option (Value->Sem Unit)} {QQ:Value->Shared->Prop} (S:CmpScope X.N X.env.scope scope M src) (hc:X.calm=true) (hi:PI X tg iter wi) (hg:M.Nodup->∀ C s H ex,PG (cxC X M scope C s H ex) tg g) (ht:∀ C s H ex,PTs (cxC X M scope C s H ex) ifs tt)
  (he:∀ C s H ex,PE (cxC X M scope C s H ex) elt te) (hs:∀ x,foldedSetIterable iter X.env x=pure x) (I:Inv X pins σ H s) (h:kF src wi g tt te σ H Q)
  (hfin:∀ (D C:Addr) (H':Hp) (s':Shared) (m:Str->Option Value),Inv X pins σ H' s'->gG X pins H' C->s'.heap.Ns C m->Q (.ref D) H'->compPost (model X.prog X.w) X.A X.xe use QQ (.ref D) C (.ok .next) s') :
  wpAny (model X.prog X.w) X.A (comprehension (.ListComp elt [⟨tg,iter,ifs,0⟩] scope pos) scope X.env cpos (newList []) false (eval iter X.env) use) QQ X.xe s:=by
 have hcells:∀ x∈scope.names,x.2=.free->∃ c,X.env.cells.lookup x.1=some c:=fun x hx hfr=>I.ok.has x.1 (S.free x hx hfr)
 refine wpAny_comprehension_free (use:=use) rfl hs (jL hcells) S.kind S.names (thn (hi pins s σ H _ I h) fun v s1 h1=>thn h1 fun itv s2 h2=>?_)
 obtain ⟨it,fp,tn,J,H2,rfl,I2,T,st2,f2,hq⟩:=h2
 refine wpAny_newObj_type ?_
 have I3:Inv X pins σ (upd H2 s2.heap.objs.size (.lst [])) {s2 with heap:=s2.heap.push {cls:=.type "list",dict:=none,data:=.seq ([]:List Value).toArray},toks:=s2.toks}:=I2.lnew (its:=[]) (ys:=[]) (t':=s2.toks) .nil (by simp)
 have hD:H2 s2.heap.objs.size=none:=I2.fresh
 obtain ⟨W,⟨m0,w0⟩,turn⟩:=hq _ hD
 generalize hDn:s2.heap.objs.size=D at*
 generalize hs3:({s2 with heap:=s2.heap.push {cls:=.type "list",dict:=none,data:=.seq ([]:List Value).toArray},toks:=s2.toks}:Shared)=s3 at*
 have f3:∀ b∈fp,gG X pins (upd H2 D (.lst [])) b:=fun b hb=>⟨by
  obtain ⟨o,e,_⟩:=T.obj _ _ st2 b hb
  rw [aF (by rw [<- hDn];exact Nat.ne_of_lt (Heap.lt_size e))]
  exact (f2 b hb).1,(f2 b hb).2⟩
 have k23:∀ b o,s2.heap.get? b=some o->s3.heap.get? b=some o:=fun b o e=>by rw [<- hs3];exact gP _ e
 have st3:tn 0 s3.heap:=T.keep _ _ _ st2 fun b _ o e=>k23 b o e
 have fl3:∀ b∈fp,b<s3.heap.objs.size:=fun b hb=>by
  obtain ⟨o,e,_⟩:=T.obj _ _ st3 b hb
  exact Heap.lt_size e
 refine wpAny_newFunctionEnv S.nocell (by intro y hy;simp at hy) (fun h₁ hns₁ hsb₁=>?_) S.kind
 have k34:∀ b o,s3.heap.get? b=some o->h₁.get? b=some o:=fun b o e=>hsb₁.extBut b o (Nat.ne_of_lt (Heap.lt_size e)) (gP _ e)
 generalize hs4:({s3 with heap:=h₁,toks:=s3.toks+([]:List (Str×Value)).length}:Shared)=s4
 have I4:Inv (cxC X M scope s3.heap.objs.size s3 (upd H2 D (.lst [])) fp) [] (stC src σ) (upd H2 D (.lst [])) s4:=by
  rw [<- hs4]
  exact mM S I3 f3 fl3 hns₁ k34 rfl rfl
 have st4:tn 0 s4.heap:=T.keep _ _ _ st3 fun b _ o e=>by rw [<- hs4];exact k34 b o e
 generalize hX':cxC X M scope s3.heap.objs.size s3 (upd H2 D (.lst [])) fp=X' at*
 have hg':PG X' tg g:=by rw [<- hX'];exact hg S.nd _ _ _ _
 have ht':PTs X' ifs tt:=by rw [<- hX'];exact ht _ _ _ _
 have he':PE X' elt te:=by rw [<- hX'];exact he _ _ _ _
 have eP:X'.prog=X.prog:=by rw [<- hX'];rfl
 have eW:X'.w=X.w:=by rw [<- hX'];rfl
 have eK:X'.K=X.K:=by rw [<- hX'];rfl
 have eA:X'.A=X.A:=by rw [<- hX'];rfl
 have ex':X'.xe=fun _ _=>False:=by rw [<- hX'];rfl
 have ec:X'.calm=true:=by rw [<- hX'];exact hc
 have eE:X'.env=compEnvC scope (mK scope.names X.env.cells) s3.heap.objs.size X.env:=by rw [<- hX'];rfl
 have stat:∀ {H':Hp},(∀ b∈fp,H' b=none)->∀ b∈fp,gG X' [] H' b:=fun hn b hb=>by
  rw [<- hX']
  refine ⟨hn b hb,Nat.ne_of_lt (fl3 b hb),fun z=>?_,.inl hb,fun x c h=>(f3 b hb).2.2.2.2.1 x c (fP hcells h),fun p hp=>absurd hp (by simp [cxC])⟩
  rcases List.mem_cons.mp (I3.stkSub b z) with q | q
  · exact (f3 b hb).2.1 q
  · exact (f3 b hb).2.2.1 q
 -- behind the block
 have fin:∀ (H':Hp) (s':Shared),Inv X' [] (stC src σ) H' s'->Q (.ref D) H'->compPost (model X.prog X.w) X.A X.xe use QQ (.ref D) s3.heap.objs.size (.ok .next) s':=by
  intro H' s' J' q
  rw [<- hX'] at J'
  obtain ⟨m,hn,_⟩:=id J'.loc
  have hC:H' s3.heap.objs.size=none:=J'.free
  have un:Un (frs X.stack) fp (upd H2 D (.lst [])) H' s3.heap s'.heap:=J'.base
  have IA:Inv X pins σ H' s':=I3.call' (s':=s') (show s'.os=s3.os from J'.os) un J'.hok J'.bare fun b hb=>⟨(f3 b hb).2.2.2.1,(f3 b hb).2.1,(f3 b hb).2.2.2.2.1,(f3 b hb).2.2.2.2.2⟩
  exact hfin D _ H' s' m IA (I3.fpOk (nL _) hC) hn q
 have loop:∀ s4':Shared,s4'=s4->codeAny (model X.prog X.w) X.A (.compLoop (.ListComp elt [⟨tg,iter,ifs,0⟩] scope pos) 0 (.ref it) (.ref D) X'.env) (compPost (model X.prog X.w) X.A X.xe use QQ (.ref D) s3.heap.objs.size) s4':=by
  rintro _ rfl
  refine hV (fun n s'=>∃ i H',Inv X' [] (stC src σ) H' s'/\tn i s'.heap/\(∀ b∈fp,H' b=none)/\W i n H') ?_ m0 ⟨0,_,I4,st4,fun b hb=>(f3 b hb).1,w0⟩
  rintro n s5 ⟨i,H5,I5,st5,fr5,w5⟩
  rcases turn i n H5 w5 with ⟨stop,qn⟩ | ⟨go,N,hN,step⟩
  · have:=T.done X' eP eW eK ec i [] s5 (stC src σ) H5 (fun _ _=>False) I5 (stat fr5) st5 stop
    rw [eA] at this
    refine thn this fun r s6 ⟨hr,I6⟩=>?_
    subst hr
    exact fin H5 s6 I6 qn
  · have:=T.item X' eP eW eK ec i [] s5 (stC src σ) H5 (fun _ _=>False) I5 (stat fr5) st5 go
    rw [eA] at this
    refine thn this fun r s6 ⟨u,hr,h6⟩=>?_
    subst hr
    refine thn h6 fun _ s7 ⟨x,H7,I7,r7,y7,st7,fr7⟩=>?_
    have I7':=I7.pinned (stat fr7) (T.obj _ _ st7)
    have a1:=hg' _ s7 (stC src σ) H7 x u _ I7' r7 (step x H7 y7)
    rw [ex',eP,eW,eA] at a1
    refine thn a1 fun _ s8 ⟨σ8,H8,I8,wk8,q8⟩=>?_
    have a2:=ht' _ s8 σ8 H8 _ I8 q8
    rw [ex',eP,eW,eA] at a2
    refine thn a2 fun ok s9 ⟨H9,I9,q9⟩=>?_
    have again:∀ {H7':Hp} {s':Shared},Inv X' ([]++iH fp s7.heap) σ8 H7' s'->N H7'->∃ m,m<n/\∃ i H',Inv X' [] (stC src σ) H' s'/\tn i s'.heap/\(∀ b∈fp,H' b=none)/\W i m H':=fun {H7' s'} J7 n7=>by
     obtain ⟨m',hm,w7⟩:=hN H7' n7
     refine ⟨m',hm,i+1,H7',J7.unpinned.weak wk8.1 wk8.2,T.keep _ _ _ st7 fun b hb o e=>(J7.pin (b,o) (List.mem_append_right _ (List.mem_append_right _ (di hb e)))).1,fun b hb=>?_,w7⟩
     obtain ⟨o,e,d⟩:=T.obj _ _ st7 b hb
     exact (J7.pin (b,o) (List.mem_append_right _ (List.mem_append_right _ (di hb e)))).2.1
    cases ok with
    | false=>exact again I9 q9
    | true =>
     have a3:=he' _ s9 σ8 H9 _ I9 q9
     rw [ex',eP,eW,eA] at a3
     refine thn a3 fun v s10 ⟨y,H10,I10,r10,ys,hl,hz,q10⟩=>?_
     have a4:=gf (X:=X') _ s10 σ8 H10 (.ref D) [y] (.ref D) [v] (fun _ H'=>N H') I10 rfl (.cons r10 .nil) ⟨D,ys,y,rfl,rfl,hl,hz,q10⟩
     rw [ex',eP,eW,eA] at a4
     refine thn a4 fun _ s11 ⟨_,H11,I11,_,q11⟩=>?_
     exact again I11 q11
 have e4:∀ c:Env,c=X'.env->codeAny (model X.prog X.w) X.A (.compStart (.ListComp elt [⟨tg,iter,ifs,0⟩] scope pos) 0 (.ref it) (.ref D) c) (compPost (model X.prog X.w) X.A X.xe use QQ (.ref D) s3.heap.objs.size) s4:=by
  rintro _ rfl
  exact codeAny_compStart_list (loop _ rfl) (T.self _ _ _ _ _ st4 (loop _ rfl))
 exact e4 _ (by rw [eE];rfl)
def lW {i:Nat} {y:Str} {py spos:Pos} (hN:X.N.Nodup) (hi':X.N[i]?=some y) (hx:Loc X.env.scope y) (hf:X.fn y=true∨X.env.scope.names.lookup y=some .local)
  (S:CmpScope X.N X.env.scope scope M src) (hc:X.calm=true) (hi:PI X tg iter wi) (hg:M.Nodup->∀ C s H ex,PG (cxC X M scope C s H ex) tg g) (ht:∀ C s H ex,PTs (cxC X M scope C s H ex) ifs tt)
  (he:∀ C s H ex,PE (cxC X M scope C s H ex) elt te) (hs:∀ x,foldedSetIterable iter X.env x=pure x)
  (hsw:swapsWith (.ListComp elt [⟨tg,iter,ifs,0⟩] scope pos) (some (.Name y py)) spos.line X.env=pure true) :
  PS X (.Assign [.Name y py] (.ListComp elt [⟨tg,iter,ifs,0⟩] scope pos) spos) (uG (kF src wi g tt te) (iY i)):=by
 intro pins s σ H D I h
 rw [exec_Assign_Name_used _ _ _ _ hsw]
 refine wB (wpAny_standAt (wB ?_))
 show wpAny _ X.A (do let _ <- comprehension (.ListComp elt [⟨tg,iter,ifs,0⟩] scope pos) scope X.env _ (newList []) false (eval iter X.env) (some (assign (.Name y py) X.env))) _ _ s
 refine wB (wpAny_mono (qS (use:=some (assign (.Name y py) X.env)) (QQ:=fun _ s'=>∃ σ' H',Inv X pins σ' H' s'/\D.nx σ' H') S hc hi hg ht he hs I h ?_) (fun _ s' hq=>wpAny_pure (wpAny_pure hq)) fun _ _ e=>e)
 intro Dd C H' s' m IA hC hn q
 show wpAny _ X.A (assign (.Name y py) X.env (.ref Dd)) _ _ s'
 refine wpAny_assign_Name (kr IA hN hi' hx (v:=.ref Dd) rfl (fun s2 I2 hsb=>?_) hf)
 obtain ⟨a,sb,ha⟩:=hsb
 have ne:C≠a:=by
  rcases ha with rfl | ha
  · exact hC.2.1
  · exact Ne.symm (hC.2.2.2.2.1 y a ha)
 refine ⟨m,hn.sameBut sb ne,fun h3 sb3=>⟨_,H',?_,q⟩⟩
 have kC:∀ b o,b≠C->s2.heap.get? b=some o->h3.get? b=some o:=fun b o hb e=>sb3.extBut b o hb e
 have nm:∀ {b:Addr},b∉[C]->b≠C:=fun hb z=>hb (by rw [z];exact List.mem_cons_self)
 refine I2.call' (s':={s2 with heap:=h3}) (ch:=[C]) rfl ⟨fun b o e n hb hx=>kC b o (nm hx) e,fun b o e n hb hx=>⟨o.slots,kC b o (nm hx) e⟩,fun b o e n hx=>n,fun b o e hx=>⟨o,kC b o (nm hx) e⟩,fun b xs e=>e,fun b o u e=>e,fun b ps e=>⟨#[],by rw [Array.append_empty];exact e⟩⟩ ?_ I2.bare fun b hb=>?_
 · intro b u e
   have nb:b≠C:=fun z=>by rw [z,hC.1] at e;cases e
   refine (I2.hok b u e).stay (fun c v hc' q=>kC c v ?_ q) (fun _ q=>q) fun _ _ q=>q
   rcases hc' with z | z
   · rw [z];exact nb
   · intro w;rw [w,hC.1] at z;cases z
 · cases List.mem_singleton.mp hb
   exact ⟨hC.2.2.2.1,hC.2.1,hC.2.2.2.2.1,hC.2.2.2.2.2⟩
end
section
variable {X:Cx} {elt tg iter:Expr} {ifs:List Expr} {scope:Scope} {pos:Pos} {M:List Str} {src:List (Option Nat)} {fi:De->Option (List Dt)} {ft:De->Option Bool} {fe:De->Option Dt} {i:Nat}
def vp {sc:Scope} {N:List Str} {y:Str} {py spos:Pos} {ts:List Nat} {bb:Dt->De->Option De} (h:eg sc N i y=true) (hl:jm sc y=true) (nd:N.Nodup) (S:CmpScope X.N X.env.scope scope M src) (hc:X.calm=true) (hi:DIB X tg iter fi) (hg:M.Nodup->∀ C s H ex,DG (cxC X M scope C s H ex) tg ts bb)
  (ht:∀ C s H ex,DTs (cxC X M scope C s H ex) ifs ft) (he:∀ C s H ex,DL (cxC X M scope C s H ex) elt fe) (hts:(ts.all fun k=>decide (src[k]?=some none))=true) (hs:∀ x,foldedSetIterable iter X.env x=pure x:=by intro _;rfl)
  (e1:cW X sc:=by rfl) (e2:X.N=N:=by rfl) (hf:X.fn y=true∨X.env.scope.names.lookup y=some .local:=by exact .inl rfl) (hsw:swapsWith (.ListComp elt [⟨tg,iter,ifs,0⟩] scope pos) (some (.Name y py)) spos.line X.env=pure true:=by rfl) :
  DS1 X (.Assign [.Name y py] (.ListComp elt [⟨tg,iter,ifs,0⟩] scope pos) spos) (cX i (ck src fi bb ft fe)):=by
 have e1:X.env.scope=sc:=e1
 subst e1 e2
 refine PS.mono (lW (g:=gD X.K ts bb) (tt:=tTr X.K ft) (te:=tL X.K fe) nd (gJ h) (jN hl) hf S hc hi (fun nd C s H ex=>hg nd C s H ex) (fun C s H ex=>ht C s H ex) (fun C s H ex=>he C s H ex) hs hsw) fun D σ H ⟨Φ,δ,F,o,hK,en,hf',k⟩=>?_
 unfold cX at hf'
 obtain ⟨t,ht',hf'⟩:=mS hf'
 cases hf'
 exact ju S hts σ H _ ⟨Φ,δ,F,t,hK,en,ht',fun v H' F' S st o hs=>k _ F' H' (en.put st (hK▸o) hs i)⟩
def sU {K:PySem.W.Frag} {f:De->Option T} {σ:St} {H:Hp} {Q:VK} (h:tO K (toT (toD f)) σ H Q):tO K f σ H Q:=by
 obtain ⟨Φ,δ,F,t,hK,en,hf,k⟩:=h
 unfold toT toD at hf
 cases ht:f δ with
 | none=>rw [ht] at hf;cases hf
 | some u =>
  rw [ht] at hf
  cases hf
  exact ⟨Φ,δ,F,u,hK,en,ht,k.leaf.to⟩
def sV {sc:Scope} {N:List Str} {y:Str} {py spos:Pos} {ts:List Nat} {bb:Dt->De->Option De} (h:eg sc N i y=true) (hl:jm sc y=true) (nd:N.Nodup) (S:CmpScope X.N X.env.scope scope M src) (hc:X.calm=true) (hi:DIB X tg iter fi) (hg:M.Nodup->∀ C s H ex,DG (cxC X M scope C s H ex) tg ts bb)
  (ht:∀ C s H ex,DTs (cxC X M scope C s H ex) ifs ft) (he:∀ C s H ex,DL (cxC X M scope C s H ex) elt fe) (hts:(ts.all fun k=>decide (src[k]?=some none))=true) (hs:∀ x,foldedSetIterable iter X.env x=pure x:=by intro _;rfl)
  (e1:cW X sc:=by rfl) (e2:X.N=N:=by rfl) (hf:X.fn y=true∨X.env.scope.names.lookup y=some .local:=by exact .inl rfl) (hsw:swapsWith (.ListComp elt [⟨tg,iter,ifs,0⟩] scope pos) (some (.Name y py)) spos.line X.env=pure true:=by rfl) :
  DS1 X (.Assign [.Name y py] (.ListComp elt [⟨tg,iter,ifs,0⟩] scope pos) spos) (cX i (toT (toD (ck src fi bb ft fe)))):=by
 have e1:X.env.scope=sc:=e1
 subst e1 e2
 refine PS.mono (lW (g:=gD X.K ts bb) (tt:=tTr X.K ft) (te:=tL X.K fe) nd (gJ h) (jN hl) hf S hc hi (fun nd C s H ex=>hg nd C s H ex) (fun C s H ex=>ht C s H ex) (fun C s H ex=>he C s H ex) hs hsw) fun D σ H ⟨Φ,δ,F,o,hK,en,hf',k⟩=>?_
 unfold cX at hf'
 obtain ⟨t,ht',hf'⟩:=mS hf'
 cases hf'
 exact ju S hts σ H _ (sU ⟨Φ,δ,F,t,hK,en,ht',fun v H' F' S st o hs=>k _ F' H' (en.put st (hK▸o) hs i)⟩)
end
def ClsAt.inj {K:PySem.W.Frag} {c:Str} {C C':Addr} (h:ClsAt K c C) (h':ClsAt K c C'):C=C':=by
 unfold ClsAt at h h'
 rw [h] at h'
 cases h'
 rfl
def m4 (K:PySem.W.Frag) (c f:Str):Prop:=∃ C,ClsAt K c C/\Cls K C/\NoAttr K C f
section
variable {X:Cx} {e o:Expr} {f:Str} {pos pos' apos cpos:Pos} {i j:Nat} {c:Str} {NS:List Str} {fe:De->Option T} {fd:De->Option Dt}
end
section
variable {X:Cx} {e o ik:Expr} {f:Str} {pos pos' apos cpos spos:Pos} {i j:Nat} {c:Str} {NS:List Str} {fe:De->Option T} {fd fk:De->Option Dt}
end
structure OkM (P:Program) (w:World) (K:PySem.W.Frag) (mg:Str->Option Value) (base:Heap) (c m:Str) (k:Nat) (ps:List Str) (sp:Sp):Prop where
 ex:∃ C f fd,ClsAt K c C/\Cls K C/\Meth K C m f/\Binds K fd ps []/\FnOk P w K mg base CX0 k f fd ps sp
structure DefM (K:PySem.W.Frag) (c m q:Str) (st:Stmt) (ps:List Str):Prop where
 ex:∃ C f fd,ClsAt K c C/\Cls K C/\Meth K C m f/\Binds K fd ps []/\Fun K m q st f fd
structure OkI (P:Program) (w:World) (K:PySem.W.Frag) (mg:Str->Option Value) (base:Heap) (c:Str) (k:Nat) (ps:List Str) (sp:Sp):Prop where
 ex:∃ C f fd,ClsAt K c C/\mg c=some (.ref C)/\Mk K C f/\Binds K fd ps []/\FnOk P w K mg base CX0 k f fd ps sp
structure DefI (K:PySem.W.Frag) (mg:Str->Option Value) (c q:Str) (st:Stmt) (ps:List Str):Prop where
 ex:∃ C f fd,ClsAt K c C/\mg c=some (.ref C)/\Mk K C f/\Binds K fd ps []/\Fun K "__init__" q st f fd
def sW:T->Option T
 | .leaf d=>if je d then some (.leaf d) else none
 | .lst l=>if l.all je then some (.lst l) else none
 | _=>none
def kW {K:PySem.W.Frag} {F F':Hp}:∀ {l:List Dt} {vs:List V},Reps K F l vs->l.all je=true->Reps K F' l vs
 | [],vs,h,_=>by simp only [Reps] at h ⊢;exact h
 | d::l,vs,h,hf=>by
  simp only [List.all_cons,Bool.and_eq_true] at hf
  simp only [Reps] at h ⊢
  obtain ⟨v,ws,e,h1,h2⟩:=h
  exact ⟨v,ws,e,mY h1 hf.1,kW h2 hf.2⟩
def sX {K:PySem.W.Frag} {F1 H1:Hp} {u t:T} {Q:VK} (fh:Same F1 H1) (hf:sW u=some t) (k:KO K F1 H1 t Q):KO K H1 H1 u Q:=fun v H' F' S st o hs=>by
 unfold sW at hf
 split at hf<;>first | (cases hf;done) | skip
 · split at hf<;>first | (cases hf;done) | skip
   rename_i d hd
   cases hf
   exact k.leaf v H' F1 ⟨st.hh,Same.refl _,fh.trans st.hh,fun b o e=>.inl e⟩ (mY o hd)
 · split at hf<;>first | (cases hf;done) | skip
   rename_i l hl
   cases hf
   obtain ⟨a,vs,e,sa,h1,h2⟩:=o
   refine k v H' F1 S ⟨st.hh,Same.refl _,fh.trans st.hh,fun b o e=>.inl e⟩ ⟨a,vs,e,sa,h1,kW h2 hl⟩ fun b z=>⟨?_,(hs b z).2.1,(hs b z).2.2⟩
   cases q:F1 b with
   | none=>rfl
   | some o=>have y:=(hs b z).2.1;rw [fh _ _ q] at y;cases y
def jg {m:Str}:∀ {fs:List (Str×V)},m∉fs.map (·.1)->fs.lookup m=none
 | [],_=>rfl
 | (g,x)::fs,h=>by
  simp only [List.map_cons,List.mem_cons,not_or] at h
  have:(m==g)=false:=by simpa using h.1
  simp only [List.lookup,this]
  exact jg h.2
section
variable {X:Cx} {e o:Expr} {es:List Expr} {m c:Str} {pos apos cpos p:Pos} {i j:Nat} {NS ps:List Str} {fo:De->Option Dt} {fs:De->Option (List Dt)} {ff:List Dt->Option T} {k n:Nat}
end
section
variable {K:PySem.W.Frag} {F H:Hp} {ts:List T} {vs:List V} {S:Nat->Addr->Prop} {N:List Str}
end
section
variable {P:Program} {w:World} {K:PySem.W.Frag} {mg:Str->Option Value} {base:Heap}
end
section
variable {X:Cx} {e:Expr} {pos:Pos} {fd:De->Option Dt}
end
section
variable {X:Cx} {e:Expr} {es:List Expr} {i:Nat} {ags:List Ag} {f:De->Option Dt}
end
section
variable {X:Cx} {e o:Expr} {es:List Expr} {x m c:Str} {pos apos cpos p:Pos} {i j:Nat} {NS ps:List Str} {sc:Scope} {k n:Nat} {f:List T->Option (T×List T)} {ags:List Ag} {fs:De->Option (List Dt)} {fe fk:De->Option Dt}
end
section
variable {X:Cx}
end
section
variable {X:Cx} {pos:Pos} {k v:Expr} {ks:List (Option Expr)} {vs:List Expr} {fk fv:De->Option Dt} {g:De->Option (List (Key×Dt))}
end
section
variable {X:Cx} {pins:List (Addr×Obj)} {σ:St} {H:Hp} {s:Shared} {a:Addr} {u:HO} {ob:Obj}
def Inv.frz (I:Inv X pins σ H s) (e:H a=some u) (mu:Mut (H a)) (ho:s.heap.get? a=some ob) (hu:∀ c xs,u≠.ins c xs []) (hp:u≠.own a) (hi:∀ C dx fs,u≠.ins C dx fs):Inv X pins σ (upd H a (.frz ob u)) s:=by
 have:=I.write (x:=a) (e:=a) (o:=.frz ob u) (h':=s.heap) (t':=s.toks) mu (.inl rfl) (fun _ _ _ q=>q) ⟨_,ho⟩ ⟨ho,?_⟩
 · exact this
 · refine (I.hok a u e).stay (fun b u _ q=>q) (fun b q=>?_) fun b xs q=>?_
   · rw [aF (fun z=>by rw [z,e] at q;cases q;exact hp rfl)]
     exact q
   · rw [aF (fun z=>by rw [z] at q;rw [q] at mu;exact mu)]
     exact q
def Inv.thaw (I:Inv X pins σ H s) (e:H a=some (.frz ob u)) (hn:∀ o w,X.H₀ a≠some (.frz o w)) (hu:∀ xs,u≠.tup xs) (ho:∀ y,u≠.own y):Inv X pins σ (upd H a u) s:=by
 have ne:∀ {b:Addr},H b=none->b≠a:=fun {b} h z=>by rw [z,e] at h;cases h
 refine ⟨I.ok,I.os,I.bare,⟨I.base.keep,I.base.slot,fun b o h1 h2 h3=>?_,I.base.there,fun b xs h=>?_,fun b o w h=>?_,fun b ps h=>?_⟩,I.loc,I.cell,?_,fun x c h=>?_,fun p hp=>?_,fun b o h=>?_,I.len⟩
 · have:=I.base.free b o h1 h2 h3
   rw [aF (ne this)]
   exact this
 · have:=I.base.tups b xs h
   rw [aF fun z=>by rw [z,e] at this;cases this]
   exact this
 · have hb:b≠a:=fun z=>by rw [z] at h;exact hn o w h
   rw [aF hb]
   exact I.base.frzs b o w h
 · obtain ⟨more,hm⟩:=I.base.tbls b ps h
   exact ⟨more,by rw [aF fun z=>by rw [z,e] at hm;cases hm];exact hm⟩
 · rw [aF (ne I.free)]
   exact I.free
 · rw [aF (ne (I.freeC x c h))]
   exact I.freeC x c h
 · obtain ⟨q1,q2,q3⟩:=I.pin p hp
   exact ⟨q1,by rw [aF (ne q2)];exact q2,q3⟩
 · have st:∀ {b:Addr} {o:HO},ObjOk X.prog X.w H s.heap b o->ObjOk X.prog X.w (upd H a u) s.heap b o:=fun {b o} x=>x.stay (fun _ _ _ q=>q) (fun c q=>by
       rw [aF fun z=>by rw [z,e] at q;cases q]
       exact q) fun c xs q=>by
       rw [aF fun z=>by rw [z,e] at q;cases q]
       exact q
   by_cases hb:b=a
   · subst hb
     rw [az] at h
     cases h
     exact st (I.hok b _ e).2
   · rw [aF hb] at h
     exact st (I.hok b o h)
end
section
variable {X:Cx} {tg:Expr}
end
inductive CV where
 | dat (d:Dt) | ref (i:Nat)
inductive CO where
 | lst (l:List CV) | tup (l:List CV) | dK (l:List (Key×CV)) | ins (c:Str) (ns:List Str) (l:List CV) | wk (l:List (Key×CV)) | dT (l:List (List Key×CV)) | wt (l:List (List Key×CV))
abbrev CH:=List CO
abbrev Sl:=List (Option CV)
section
variable (K:PySem.W.Frag) (F H:Hp) (ρ:Nat->Addr) (n:Nat)
def RelC:CV->V->Prop
 | .dat d,v=>Rep K F d v
 | .ref i,v=>i<n/\v=.ref (ρ i)
def RelCs:List CV->List V->Prop
 | [],vs=>vs=[]
 | c::l,vs=>∃ v ws,vs=v::ws/\RelC K F ρ n c v/\RelCs l ws
noncomputable def CoOk (a:Addr):CO->Prop
 | .lst l=>∃ vs,H a=some (.lst vs)/\RelCs K F ρ n l vs
 | .tup l=>∃ vs,H a=some (.tup vs)/\RelCs K F ρ n l vs
 | .dK l=>∃ kvs,H a=some (.dK kvs)/\kvs.map (·.1)=l.map (·.1)/\RelCs K F ρ n (l.map (·.2)) (kvs.map (·.2))
 | .ins c ns l=>∃ C dx fs,ClsAt K c C/\H a=some (.ins C dx fs)/\fs.map (·.1)=ns/\RelCs K F ρ n l (fs.map (·.2))
 | .wk l=>∃ o kvs,H a=some (.frz o (.dK kvs))/\kvs.map (·.1)=l.map (·.1)/\RelCs K F ρ n (l.map (·.2)) (kvs.map (·.2))
 | .dT l=>∃ kvs,H a=some (.dT kvs)/\kvs.map (·.1)=l.map (·.1)/\RelCs K F ρ n (l.map (·.2)) (kvs.map (·.2))
 | .wt l=>∃ o kvs,H a=some (.frz o (.dT kvs))/\kvs.map (·.1)=l.map (·.1)/\RelCs K F ρ n (l.map (·.2)) (kvs.map (·.2))
end
section
variable {K:PySem.W.Frag} {F H F' H' F1 H1:Hp} {ρ ρ' ρ1:Nat->Addr} {n n':Nat} {c:CV} {v:V}
def RelC.mono (ff:Same F F') (he:∀ i,i<n->ρ' i=ρ i) (hn:n<=n') (h:RelC K F ρ n c v):RelC K F' ρ' n' c v:=by
 cases c with
 | dat d=>exact Rep.same ff h
 | ref i=>exact ⟨Nat.lt_of_lt_of_le h.1 hn,by rw [he i h.1];exact h.2⟩
def RelCs.mono (ff:Same F F') (he:∀ i,i<n->ρ' i=ρ i) (hn:n<=n'):∀ {l:List CV} {vs:List V},RelCs K F ρ n l vs->RelCs K F' ρ' n' l vs
 | [],_,h=>h
 | c::l,vs,h=>by
  obtain ⟨v,ws,e,h1,h2⟩:=h
  exact ⟨v,ws,e,h1.mono ff he hn,RelCs.mono ff he hn h2⟩
def RelCs.length:∀ {l:List CV} {vs:List V},RelCs K F ρ n l vs->vs.length=l.length
 | [],_,h=>by rw [show _=[] from h];rfl
 | c::l,vs,h=>by
  obtain ⟨v,ws,rfl,h1,h2⟩:=h
  simp [RelCs.length h2]
def RelCs.get:∀ {l:List CV} {vs:List V} {i:Nat} {c:CV},RelCs K F ρ n l vs->l[i]?=some c->∃ v,vs[i]?=some v/\RelC K F ρ n c v
 | [],_,_,_,_,e=>by simp at e
 | c::l,vs,0,c',h,e=>by
  obtain ⟨v,ws,rfl,h1,h2⟩:=h
  simp at e
  subst e
  exact ⟨v,rfl,h1⟩
 | c::l,vs,i+1,c',h,e=>by
  obtain ⟨v,ws,rfl,h1,h2⟩:=h
  obtain ⟨u,q1,q2⟩:=RelCs.get (i:=i) h2 (by simpa using e)
  exact ⟨u,by simpa using q1,q2⟩
def RelCs.set {c:CV} {v:V} (r:RelC K F ρ n c v):∀ {l:List CV} {vs:List V} (i:Nat),RelCs K F ρ n l vs->RelCs K F ρ n (l.set i c) (vs.set i v)
 | [],vs,i,h=>by rw [show vs=[] from h];rfl
 | x::l,vs,0,h=>by
  obtain ⟨u,ws,rfl,h1,h2⟩:=h
  exact ⟨v,ws,rfl,r,h2⟩
 | x::l,vs,i+1,h=>by
  obtain ⟨u,ws,rfl,h1,h2⟩:=h
  exact ⟨u,ws.set i v,rfl,h1,RelCs.set r i h2⟩
def RelCs.append:∀ {l m:List CV} {vs ws:List V},RelCs K F ρ n l vs->RelCs K F ρ n m ws->RelCs K F ρ n (l++m) (vs++ws)
 | [],m,vs,ws,h,h'=>by rw [show vs=[] from h];exact h'
 | x::l,m,vs,ws,h,h'=>by
  obtain ⟨u,us,rfl,h1,h2⟩:=h
  exact ⟨u,us++ws,rfl,h1,RelCs.append h2 h'⟩
def RelCs.one {c:CV} {v:V} (r:RelC K F ρ n c v):RelCs K F ρ n [c] [v]:=⟨v,[],rfl,r,rfl⟩
def RelCs.dats:∀ {l:List Dt} {vs:List V},Reps K F l vs->RelCs K F ρ n (l.map .dat) vs
 | [],vs,h=>by simp only [Reps] at h;exact h
 | d::l,vs,h=>by
  simp only [Reps] at h
  obtain ⟨v,ws,e,h1,h2⟩:=h
  exact ⟨v,ws,e,h1,RelCs.dats h2⟩
def CoOk.mono {a:Addr} {o:CO} (ff:Same F F') (he:∀ i,i<n->ρ' i=ρ i) (hn:n<=n') (ha:∀ u,H a=some u->H' a=some u) (h:CoOk K F H ρ n a o):CoOk K F' H' ρ' n' a o:=by
 cases o with
 | lst l=>obtain ⟨vs,h1,h2⟩:=h;exact ⟨vs,ha _ h1,h2.mono ff he hn⟩
 | tup l=>obtain ⟨vs,h1,h2⟩:=h;exact ⟨vs,ha _ h1,h2.mono ff he hn⟩
 | dK l=>obtain ⟨vs,h1,h2,h3⟩:=h;exact ⟨vs,ha _ h1,h2,h3.mono ff he hn⟩
 | ins c ns l=>obtain ⟨C,dx,fs,h0,h1,h2,h3⟩:=h;exact ⟨C,dx,fs,h0,ha _ h1,h2,h3.mono ff he hn⟩
 | wk l=>obtain ⟨o,vs,h1,h2,h3⟩:=h;exact ⟨o,vs,ha _ h1,h2,h3.mono ff he hn⟩
 | dT l=>obtain ⟨vs,h1,h2,h3⟩:=h;exact ⟨vs,ha _ h1,h2,h3.mono ff he hn⟩
 | wt l=>obtain ⟨o,vs,h1,h2,h3⟩:=h;exact ⟨o,vs,ha _ h1,h2,h3.mono ff he hn⟩
def CoOk.there {a:Addr} {o:CO} (h:CoOk K F H ρ n a o):∃ u,H a=some u:=by
 cases o with
 | lst l=>obtain ⟨vs,h1,h2⟩:=h;exact ⟨_,h1⟩
 | tup l=>obtain ⟨vs,h1,h2⟩:=h;exact ⟨_,h1⟩
 | dK l=>obtain ⟨vs,h1,h2⟩:=h;exact ⟨_,h1⟩
 | ins c ns l=>obtain ⟨C,dx,fs,h0,h1,h2⟩:=h;exact ⟨_,h1⟩
 | wk l=>obtain ⟨o,vs,h1,h2⟩:=h;exact ⟨_,h1⟩
 | dT l=>obtain ⟨vs,h1,h2⟩:=h;exact ⟨_,h1⟩
 | wt l=>obtain ⟨o,vs,h1,h2⟩:=h;exact ⟨_,h1⟩
end
structure Gh (K:PySem.W.Frag) (F H:Hp) (ρ:Nat->Addr) (ch:CH):Prop where
 fh:Same F H
 inj:∀ i j,i<ch.length->j<ch.length->ρ i=ρ j->i=j
 out:∀ i,i<ch.length->F (ρ i)=none∨∃ xs,F (ρ i)=some (.tup xs)
 ok:∀ i o,ch[i]?=some o->CoOk K F H ρ ch.length (ρ i) o
structure Adv (K:PySem.W.Frag) (F H:Hp) (ρ:Nat->Addr) (ch:CH) (F' H':Hp) (ρ':Nat->Addr) (ch':CH):Prop where
 gh:Gh K F' H' ρ' ch'
 len:ch.length<=ch'.length
 ext:∀ i,i<ch.length->ρ' i=ρ i
 fr:∀ i,ch.length<=i->i<ch'.length->H (ρ' i)=none
 prot:∀ b o,H b=some o->(∀ i,i<ch.length->ρ i≠b)->H' b=some o
 old:Same F F'
 nw:∀ b o,F' b=some o->F b=some o∨H b=none∨∃ xs,o=.tup xs
 fz:∀ b o u,H b=some (.frz o u)->H' b=some (.frz o u)
section
variable {K:PySem.W.Frag} {F H F' H' F1 H1:Hp} {ρ ρ' ρ1:Nat->Addr} {ch ch' ch1:CH} {c:CV} {v:V}
def Gh.at (g:Gh K F H ρ ch) {i:Nat} (hi:i<ch.length):∃ u,H (ρ i)=some u:=(g.ok i ch[i] (by simp [hi])).there
def Adv.refl (g:Gh K F H ρ ch):Adv K F H ρ ch F H ρ ch:=⟨g,nL _,fun _ _=>rfl,fun i h1 h2=>absurd h2 (Nat.not_lt.mpr h1),fun _ _ h _=>h,Same.refl _,fun _ _ h=>.inl h,fun _ _ _ h=>h⟩
def Adv.back (g:Gh K F H ρ ch) (a:Adv K F H ρ ch F1 H1 ρ1 ch1) {b:Addr} (h:H1 b=none):H b=none:=by
 cases q:H b with
 | none=>rfl
 | some o =>
  by_cases z:∃ i,i<ch.length/\ρ i=b
  · obtain ⟨i,hi,rfl⟩:=z
    obtain ⟨u,hu⟩:=a.gh.at (Nat.lt_of_lt_of_le hi a.len)
    rw [a.ext i hi,h] at hu
    cases hu
  · rw [a.prot b o q fun i hi e=>z ⟨i,hi,e⟩] at h
    cases h
def Adv.trans (g:Gh K F H ρ ch) (a:Adv K F H ρ ch F1 H1 ρ1 ch1) (b:Adv K F1 H1 ρ1 ch1 F' H' ρ' ch'):Adv K F H ρ ch F' H' ρ' ch' where
 gh:=b.gh
 len:=Nat.le_trans a.len b.len
 ext:=fun i hi=>(b.ext i (Nat.lt_of_lt_of_le hi a.len)).trans (a.ext i hi)
 fr:=fun i h1 h2=>by
  by_cases hi:i<ch1.length
  · rw [b.ext i hi]
    exact a.fr i h1 hi
  · exact a.back g (b.fr i (Nat.not_lt.mp hi) h2)
 prot:=fun x o h1 h2=>b.prot x o (a.prot x o h1 h2) fun i hi e=>by
  by_cases hj:i<ch.length
  · rw [a.ext i hj] at e
    exact h2 i hj e
  · have:=a.fr i (Nat.not_lt.mp hj) hi
    rw [e,h1] at this
    cases this
 old:=a.old.trans b.old
 nw:=fun x o h=>(b.nw x o h).elim (a.nw x o) fun z=>.inr (z.imp_left fun z=>a.back g z)
 fz:=fun x o u h=>b.fz x o u (a.fz x o u h)
def Gh.of (g:Gh K F H ρ ch) (st:Step F H F' H'):Gh K F' H' ρ ch:=by
 refine ⟨st.fh,g.inj,fun i hi=>?_,fun i o h=>(g.ok i o h).mono st.ff (fun _ _=>rfl) (nL _) fun u hu=>st.hh _ _ hu⟩
 cases q:F' (ρ i) with
 | none=>exact .inl rfl
 | some o =>
  rcases st.nw _ _ q with z | z
  · rcases g.out i hi with y | ⟨xs,y⟩
    · rw [y] at z;cases z
    · rw [y] at z;cases z;exact .inr ⟨xs,rfl⟩
  · obtain ⟨u,hu⟩:=g.at hi
    rw [hu] at z;cases z
def Adv.of (g:Gh K F H ρ ch) (st:Step F H F' H'):Adv K F H ρ ch F' H' ρ ch:=
 ⟨g.of st,nL _,fun _ _=>rfl,fun i h1 h2=>absurd h2 (Nat.not_lt.mpr h1),fun b o h _=>st.hh b o h,st.ff,fun b o h=>(st.nw b o h).imp_right .inl,fun b o u h=>st.hh b _ h⟩
def Adv.upd (g:Gh K F H ρ ch) {i:Nat} {o:CO} {u w:HO} (hi:i<ch.length) (hw:H (ρ i)=some w) (hz:∀ x y,w≠.frz x y) (ho:CoOk K F (upd H (ρ i) u) ρ ch.length (ρ i) o) (ht:∀ xs,w≠.tup xs:=by intro _ z;cases z):Adv K F H ρ ch F (upd H (ρ i) u) ρ (ch.set i o) where
 gh:=⟨fun b x e=>by
     have:b≠ρ i:=fun q=>by
      rw [q] at e
      rcases g.out i hi with y | ⟨xs,y⟩
      · rw [y] at e;cases e
      · have:=g.fh _ _ y
        rw [hw] at this
        exact ht xs (Option.some.inj this)
     rw [aF this]
     exact g.fh b x e,fun j k hj hk=>g.inj j k (by simpa using hj) (by simpa using hk),fun j hj=>g.out j (by simpa using hj),fun j x hx=>by
     rw [List.length_set]
     rw [List.getElem?_set] at hx
     split at hx
     · rename_i q
       subst q
       first
        | (split at hx<;>first | (cases hx;exact ho) | cases hx)
        | (cases hx;exact ho)
     · rename_i q
       refine (g.ok j x hx).mono (Same.refl _) (fun _ _=>rfl) (nL _) fun y hy=>?_
       have hj:j<ch.length:=(gX hx).1
       rw [aF fun e=>q (g.inj j i hj hi e).symm]
       exact hy⟩
 len:=by simp
 ext:=fun _ _=>rfl
 fr:=fun j h1 h2=>absurd h2 (by simpa using h1)
 prot:=fun b x h1 h2=>by
  rw [aF fun e=>h2 i hi e.symm]
  exact h1
 old:=Same.refl _
 nw:=fun b x h=>.inl h
 fz:=fun b x y h=>by
  rw [aF fun e=>by rw [e,hw] at h;exact hz x y (Option.some.inj h)]
  exact h
def Adv.new (g:Gh K F H ρ ch) (st:Step F H F' H') {a:Addr} {o:CO} (ha:H a=none) (hf:F' a=none) (ho:CoOk K F' H' (fun i=>if i=ch.length then a else ρ i) (ch.length+1) a o) :
  Adv K F H ρ ch F' H' (fun i=>if i=ch.length then a else ρ i) (ch++[o]):=by
 have g':=(Adv.of g st).gh
 have lt:∀ {i:Nat},i<ch.length->(if i=ch.length then a else ρ i)=ρ i:=fun {i} hi=>if_neg (Nat.ne_of_lt hi)
 have ne:∀ {i:Nat},i<ch.length->ρ i≠a:=fun {i} hi e=>by
  obtain ⟨u,hu⟩:=g.at hi
  rw [e,ha] at hu
  cases hu
 refine ⟨⟨st.fh,fun i j hi hj e=>?_,fun i hi=>?_,fun i x hx=>?_⟩,by simp,fun i hi=>lt hi,fun i h1 h2=>?_,fun b x h1 _=>st.hh b x h1,st.ff,fun b o h=>(st.nw b o h).imp_right .inl,fun b o u h=>st.hh b _ h⟩
 · simp only [List.length_append,List.length_cons,List.length_nil] at hi hj
   by_cases h1:i=ch.length<;>by_cases h2:j=ch.length
   · rw [h1,h2]
   · rw [if_pos h1,if_neg h2] at e
     exact absurd e.symm (ne (by omega))
   · rw [if_neg h1,if_pos h2] at e
     exact absurd e (ne (by omega))
   · rw [if_neg h1,if_neg h2] at e
     exact g.inj i j (by omega) (by omega) e
 · simp only [List.length_append,List.length_cons,List.length_nil] at hi
   (try dsimp only)
   by_cases h1:i=ch.length
   · rw [if_pos h1];exact .inl hf
   · rw [if_neg h1];exact g'.out i (by omega)
 · simp only [List.length_append,List.length_cons,List.length_nil]
   by_cases h1:i<ch.length
   · rw [gL h1] at hx
     (try dsimp only)
     rw [lt h1]
     exact (g'.ok i x hx).mono (Same.refl _) (fun j hj=>lt hj) (Nat.le_succ _) fun u hu=>hu
   · rw [gR (Nat.not_lt.mp h1)] at hx
     have h2:i=ch.length:=by
      have:=(gX hx).1
      simp at this
      omega
     subst h2
     simp at hx
     subst hx
     (try dsimp only)
     rw [if_pos rfl]
     exact ho
 · simp only [List.length_append,List.length_cons,List.length_nil] at h2
   have h3:i=ch.length:=by omega
   (try dsimp only)
   rw [if_pos h3]
   exact ha
end
structure Ge (K:PySem.W.Frag) (δ:Sl) (ch:CH) (σ:St) (F H:Hp) (ρ:Nat->Addr):Prop where
 gh:Gh K F H ρ ch
 len:δ.length=σ.length
 has:∀ (i:Nat) (c:CV),δ[i]?=some (some c)->∃ v,σ[i]?=some (some v)/\RelC K F ρ ch.length c v
def KG (K:PySem.W.Frag) (F H:Hp) (ρ:Nat->Addr) (ch:CH) (c:CV) (ch':CH) (Q:VK):Prop:=∀ v F' H' ρ',Adv K F H ρ ch F' H' ρ' ch'->RelC K F' ρ' ch'.length c v->Q v H'
abbrev Fg:=Sl->CH->Option (CV×CH)
def tG (K:PySem.W.Frag) (f:Fg):TE:=fun σ H Q=>∃ δ ch F ρ c ch',Ge K δ ch σ F H ρ/\f δ ch=some (c,ch')/\KG K F H ρ ch c ch' Q
def GE (X:Cx) (e:Expr) (f:Fg):Prop:=PE X e (tG X.K f)
def dats:List CV->Option (List Dt)
 | []=>some []
 | .dat d::l=>(dats l).map (d::·)
 | _=>none
def dl {K:PySem.W.Frag} {F:Hp} {ρ:Nat->Addr} {n:Nat}:∀ {l:List CV} {ds:List Dt} {vs:List V},dats l=some ds->RelCs K F ρ n l vs->Reps K F ds vs
 | [],ds,vs,h,r=>by cases h;simp only [Reps];exact r
 | .dat d::l,ds,vs,h,r=>by
  simp only [dats] at h
  obtain ⟨es,he,rfl⟩:=mS h
  obtain ⟨v,ws,e,h1,h2⟩:=r
  simp only [Reps]
  exact ⟨v,ws,e,h1,dl he h2⟩
 | .ref i::l,ds,vs,h,r=>by cases h
def tvO:CO->Option T
 | .lst l=>(dats l).map .lst
 | .dK l=>(dats (l.map (·.2))).map fun ds=>.dct ((l.map (·.1)).zip ds)
 | _=>none
def loA (ch:CH):List Nat->Sl->De
 | _,[]=>[]
 | u,none::r=>none::loA ch u r
 | u,some (.dat d)::r=>some (.leaf d)::loA ch u r
 | u,some (.ref i)::r=>(if i∈u then none else (ch[i]?).bind tvO)::loA ch (i::u) r
def lo (δ:Sl) (ch:CH):De:=loA ch [] δ
section
variable {K:PySem.W.Frag} {F H F' H' F1 H1:Hp} {ρ ρ' ρ1:Nat->Addr} {δ:Sl} {σ:St} {ch ch' ch1 ch2:CH} {c:CV} {v:V} {Q:VK}
def Ge.adv (e:Ge K δ ch σ F H ρ) (a:Adv K F H ρ ch F' H' ρ' ch'):Ge K δ ch' σ F' H' ρ':=⟨a.gh,e.len,fun i c h=>by
 obtain ⟨v,h1,h2⟩:=e.has i c h
 exact ⟨v,h1,h2.mono a.old a.ext a.len⟩⟩
def KG.adv (k:KG K F H ρ ch c ch' Q) (g:Gh K F H ρ ch) (a:Adv K F H ρ ch F1 H1 ρ1 ch1):KG K F1 H1 ρ1 ch1 c ch' Q:=fun v F' H' ρ' b r=>k v F' H' ρ' (a.trans g b) r
def fq (ch:CH):∀ (u:List Nat) (δ:Sl),(loA ch u δ).length=δ.length
 | _,[]=>rfl
 | u,none::r=>by simp [loA,fq ch u r]
 | u,some (.dat d)::r=>by simp [loA,fq ch u r]
 | u,some (.ref i)::r=>by simp [loA,fq ch (i::u) r]
def ir {ch:CH}:∀ {u:List Nat} {δ:Sl} {j:Nat} {t:T},(loA ch u δ)[j]?=some (some t)->(∃ d,t=.leaf d/\δ[j]?=some (some (.dat d)))∨∃ i o,δ[j]?=some (some (.ref i))/\ch[i]?=some o/\tvO o=some t/\i∉u/\∀ m,m<j->δ[m]?≠some (some (.ref i))
 | _,[],j,t,h=>by simp [loA] at h
 | u,none::r,0,t,h=>by simp [loA] at h
 | u,none::r,j+1,t,h=>by
  rcases ir (u:=u) (δ:=r) (j:=j) (t:=t) (by simpa [loA] using h) with ⟨d,e,q⟩ | ⟨i,o,q1,q2,q3,q4,q5⟩
  · exact .inl ⟨d,e,by simpa using q⟩
  · refine .inr ⟨i,o,by simpa using q1,q2,q3,q4,fun m hm=>?_⟩
    cases m with
    | zero=>simp
    | succ m=>simpa using q5 m (by omega)
 | u,some (.dat d)::r,0,t,h=>by
  simp [loA] at h
  exact .inl ⟨d,h.symm,rfl⟩
 | u,some (.dat d)::r,j+1,t,h=>by
  rcases ir (u:=u) (δ:=r) (j:=j) (t:=t) (by simpa [loA] using h) with ⟨d',e,q⟩ | ⟨i,o,q1,q2,q3,q4,q5⟩
  · exact .inl ⟨d',e,by simpa using q⟩
  · refine .inr ⟨i,o,by simpa using q1,q2,q3,q4,fun m hm=>?_⟩
    cases m with
    | zero=>simp
    | succ m=>simpa using q5 m (by omega)
 | u,some (.ref i)::r,0,t,h=>by
  simp only [loA,List.getElem?_cons_zero,Option.some.injEq] at h
  split at h
  · cases h
  · rename_i hi
    obtain ⟨o,ho,h⟩:=bS h
    exact .inr ⟨i,o,rfl,ho,h,hi,fun m hm=>absurd hm (Nat.not_lt_zero _)⟩
 | u,some (.ref i)::r,j+1,t,h=>by
  rcases ir (u:=i::u) (δ:=r) (j:=j) (t:=t) (by simpa [loA] using h) with ⟨d,e,q⟩ | ⟨i',o,q1,q2,q3,q4,q5⟩
  · exact .inl ⟨d,e,by simpa using q⟩
  · simp only [List.mem_cons,not_or] at q4
    refine .inr ⟨i',o,by simpa using q1,q2,q3,q4.2,fun m hm=>?_⟩
    cases m with
    | zero =>
     simp only [List.getElem?_cons_zero,ne_eq,Option.some.injEq,CV.ref.injEq]
     exact fun z=>q4.1 z.symm
    | succ m=>simpa using q5 m (by omega)
def pR {α β:Type}:∀ {l:List α} {m:List β},l.length=m.length->(l.zip m).map (·.1)=l/\(l.zip m).map (·.2)=m
 | [],[],_=>⟨rfl,rfl⟩
 | [],_::_,h=>by cases h
 | _::_,[],h=>by cases h
 | a::l,b::m,h=>by
  obtain ⟨h1,h2⟩:=pR (l:=l) (m:=m) (by simpa using h)
  simp [h1,h2]
def vq {o:CO} {t:T} {n:Nat} {a:Addr} {S:Addr->Prop} (h:tvO o=some t) (ok:CoOk K F H ρ n a o) (hs:S a):Own K F H t (.ref a) S:=by
 cases o with
 | lst l =>
  obtain ⟨ds,hd,rfl⟩:=mS h
  obtain ⟨vs,h1,h2⟩:=ok
  exact ⟨a,vs,rfl,hs,h1,dl hd h2⟩
 | dK l =>
  obtain ⟨ds,hd,rfl⟩:=mS h
  obtain ⟨vs,h1,h2,h3⟩:=ok
  have r:=dl hd h3
  have e:(l.map (·.1)).length=ds.length:=by
   have e1:=congrArg List.length h2
   have e2:=r.length
   simp only [List.length_map] at e1 e2 ⊢
   omega
  obtain ⟨z1,z2⟩:=pR e
  exact ⟨a,vs,rfl,hs,h1,by rw [z1];exact h2,by rw [z2];exact r⟩
 | tup l=>cases h
 | ins c ns l=>cases h
 | wk l=>cases h
 | dT l=>cases h
 | wt l=>cases h
def Gh.outO (g:Gh K F H ρ ch) {i:Nat} {o:CO} (h:ch[i]?=some o) (ht:tvO o≠none):F (ρ i)=none:=by
 rcases g.out i (gX h).1 with y | ⟨xs,y⟩
 · exact y
 · have z:=g.fh _ _ y
   cases o with
   | lst l=>obtain ⟨vs,h1,_⟩:=g.ok i _ h;rw [h1] at z;cases z
   | dK l=>obtain ⟨vs,h1,_⟩:=g.ok i _ h;rw [h1] at z;cases z
   | tup l=>exact absurd rfl ht
   | ins c ns l=>exact absurd rfl ht
   | wk l=>exact absurd rfl ht
   | dT l=>exact absurd rfl ht
   | wt l=>exact absurd rfl ht
def Ge.en (e:Ge K δ ch σ F H ρ):En ⟨K,F,H,fun b=>∃ i,i<ch.length/\ρ i=b⟩ (lo δ ch) σ F H:=by
 refine ⟨e.gh.fh,fun b o h _=>h,Same.refl _,fun b o h=>.inl h,by simp [lo,fq,e.len],fun j t h=>?_,fun j b=>∃ i o,δ[j]?=some (some (.ref i))/\ch[i]?=some o/\ρ i=b/\tvO o≠none/\∀ m,m<j->δ[m]?≠some (some (.ref i)),fun j t v h=>?_,fun j b z=>?_,fun j k b z1 z2=>?_⟩
 · rcases ir h with ⟨d,_,q⟩ | ⟨i,o,q,_⟩
   · obtain ⟨v,hv,_⟩:=e.has j _ q
     exact ⟨v,hv⟩
   · obtain ⟨v,hv,_⟩:=e.has j _ q
     exact ⟨v,hv⟩
 · obtain ⟨h1,h2⟩:=fR h
   rcases ir h1 with ⟨d,rfl,q⟩ | ⟨i,o,q1,q2,q3,q4,q5⟩
   · obtain ⟨w,hw,r⟩:=e.has j _ q
     rw [h2] at hw
     cases hw
     exact r
   · obtain ⟨w,hw,r⟩:=e.has j _ q1
     rw [h2] at hw
     cases hw
     obtain ⟨hi,rfl⟩:=r
     exact vq q3 (e.gh.ok i o q2) ⟨i,o,q1,q2,rfl,by rw [q3];simp,q5⟩
 · obtain ⟨i,o,q1,q2,rfl,qt,q3⟩:=z
   have hi:i<ch.length:=(gX q2).1
   exact ⟨e.gh.outO q2 qt,e.gh.at hi,.inr ⟨i,hi,rfl⟩⟩
 · obtain ⟨i,o,q1,q2,e1,qt,q3⟩:=z1
   obtain ⟨i',o',q1',q2',e2,qt',q3'⟩:=z2
   have hi:i<ch.length:=(gX q2).1
   have hi':i'<ch.length:=(gX q2').1
   have:=e.gh.inj i i' hi hi' (e1.trans e2.symm)
   subst this
   by_cases h1:j<k
   · exact absurd q1 (q3' j h1)
   · by_cases h2:k<j
     · exact absurd q1' (q3 k h2)
     · exact Nat.le_antisymm (Nat.not_lt.mp h2) (Nat.not_lt.mp h1)
end
section
variable {X:Cx} {e a b o:Expr} {f fa fb:Fg} {fd:De->Option Dt} {ft:De->Option T} {pos:Pos} {i:Nat}
def eD (fd:De->Option Dt):Fg:=fun δ ch=>(fd (lo δ ch)).map fun d=>(.dat d,ch)
def ax (h:DL X e fd):GE X e (eD fd):=PE.mono h fun σ H Q ⟨δ,ch,F,ρ,c,ch',en,hf,k⟩=>by
 unfold eD at hf
 obtain ⟨d,hd,hf⟩:=mS hf
 cases hf
 exact ⟨_,_,F,d,rfl,en.en,hd,fun v H' F' st r=>k v F' H' ρ (Adv.of en.gh st) r⟩
def al (ch:CH):T->Option (CV×CH)
 | .leaf d=>some (.dat d,ch)
 | .lst l=>some (.ref ch.length,ch++[.lst (l.map .dat)])
 | .dct l=>some (.ref ch.length,ch++[.dK (l.map fun p=>(p.1,.dat p.2))])
 | _=>none
def m5 {K:PySem.W.Frag} {F H:Hp} {ρ:Nat->Addr} {ch ch':CH} {c:CV} {t:T} {Q:VK} (g:Gh K F H ρ ch) (h:al ch t=some (c,ch')) (k:KG K F H ρ ch c ch' Q):KO K F H t Q:=fun v H' F' S st o hs=>by
 cases t with
 | leaf d =>
  cases h
  exact k v F' H' ρ (Adv.of g st) o
 | lst l =>
  cases h
  obtain ⟨x,vs,rfl,sa,h1,h2⟩:=o
  obtain ⟨q1,q2,_⟩:=hs x sa
  refine k _ F' H' _ (Adv.new g st q2 q1 ⟨vs,h1,RelCs.dats h2⟩) ⟨by simp,?_⟩
  dsimp only
  rw [if_pos rfl]
 | dct l =>
  cases h
  obtain ⟨x,vs,rfl,sa,h1,h2,h3⟩:=o
  obtain ⟨q1,q2,_⟩:=hs x sa
  refine k _ F' H' _ (Adv.new g st q2 q1 ⟨vs,h1,by rw [h2];simp,?_⟩) ⟨by simp,?_⟩
  · have:=RelCs.dats (ρ:=fun i=>if i=ch.length then x else ρ i) (n:=ch.length+1) h3
    rw [List.map_map] at this
    rw [List.map_map]
    exact this
  · dsimp only
    rw [if_pos rfl]
 | dcT l=>cases h
 | obj c ns l=>cases h
 | pin a t=>cases h
def eN (ft:De->Option T):Fg:=fun δ ch=>(ft (lo δ ch)).bind (al ch)
def ca (h:DO X e ft):GE X e (eN ft):=PE.mono h fun σ H Q ⟨δ,ch,F,ρ,c,ch',en,hf,k⟩=>by
 unfold eN at hf
 obtain ⟨t,ht,hf⟩:=bS hf
 exact ⟨_,_,F,t,rfl,en.en,ht,m5 en.gh hf k⟩
def eV (i:Nat):Fg:=fun δ ch=>match δ[i]? with
 | some (some c)=>some (c,ch)
 | _=>none
def aq (h:PE X e (lu i)):GE X e (eV i):=PE.mono h fun σ H Q ⟨δ,ch,F,ρ,c,ch',en,hf,k⟩=>by
 unfold eV at hf
 split at hf<;>cases hf
 rename_i c q
 obtain ⟨v,h1,h2⟩:=en.has i _ q
 exact ⟨v,h1,k v F H ρ (Adv.refl en.gh) h2⟩
end
def vwO:CO->Option Dt
 | .lst l=>(dats l).map .lst
 | .dK l=>(dats (l.map (·.2))).map (.dct (l.map (·.1)))
 | .wk l=>(dats (l.map (·.2))).map (.dct (l.map (·.1)))
 | _=>none
def vw (ch:CH):CV->Option Dt
 | .dat d=>some d
 | .ref i=>(ch[i]?).bind vwO
section
variable {K:PySem.W.Frag} {F H F' H' F1 H1:Hp} {ρ ρ' ρ1:Nat->Addr} {n:Nat} {δ:Sl} {σ:St} {ch ch' ch1 ch2:CH} {c:CV} {v:V} {Q:VK} {d:Dt}
def gr (g:Gh K F H ρ ch) (r:RelC K F ρ ch.length c v) (h:vw ch c=some d):RepB K F H d v:=by
 cases c with
 | dat e=>cases h;exact RepB.of g.fh r
 | ref i =>
  obtain ⟨hi,rfl⟩:=r
  simp only [vw] at h
  obtain ⟨o,ho,h⟩:=bS h
  have ok:=g.ok i o ho
  cases o with
  | lst l =>
   obtain ⟨ds,hd,rfl⟩:=mS h
   obtain ⟨vs,h1,h2⟩:=ok
   exact ⟨_,vs,rfl,SqL.of h1,dl hd h2⟩
  | dK l =>
   obtain ⟨ds,hd,rfl⟩:=mS h
   obtain ⟨vs,h1,h2,h3⟩:=ok
   exact ⟨_,vs,rfl,.inl h1,h2,dl hd h3⟩
  | wk l =>
   obtain ⟨ds,hd,rfl⟩:=mS h
   obtain ⟨o,vs,h1,h2,h3⟩:=ok
   exact ⟨_,vs,rfl,.inr ⟨o,h1⟩,h2,dl hd h3⟩
  | tup l=>cases h
  | ins c ns l=>cases h
  | dT l=>cases h
  | wt l=>cases h
end
section
variable {X:Cx} {e a b o:Expr} {es:List Expr} {f fa fb fc:Fg} {fd:De->Option Dt} {ft:De->Option T} {pos apos cpos p:Pos} {i:Nat} {σ:St} {H:Hp} {Q:VK} {K:PySem.W.Frag}
def e2 (g:Dt->Dt->Option T) (fa fb:Fg):Fg:=fun δ ch=>(fa δ ch).bind fun p=>(fb δ p.2).bind fun q=>(vw q.2 p.1).bind fun x=>(vw q.2 q.1).bind fun y=>(g x y).bind (al q.2)
def wW {r:R2} {g:Dt->Dt->Option T} (hr:R2D K r g) (h:tG K (e2 g fa fb) σ H Q):tOp r (tG K fa) (tG K fb) σ H Q:=by
 obtain ⟨δ,ch,F,ρ,c,ch',en,hf,k⟩:=h
 unfold e2 at hf
 obtain ⟨p,hp,hf⟩:=bS hf
 obtain ⟨q,hq,hf⟩:=bS hf
 obtain ⟨x,hx,hf⟩:=bS hf
 obtain ⟨y,hy,hf⟩:=bS hf
 obtain ⟨t,ht,hf⟩:=bS hf
 refine ⟨δ,ch,F,ρ,p.1,p.2,en,hp,fun v F1 H1 ρ1 a1 r1=>⟨δ,p.2,F1,ρ1,q.1,q.2,en.adv a1,hq,fun w F2 H2 ρ2 a2 r2=>?_⟩⟩
 exact hr F2 H2 x y v w Q t a2.gh.fh (gr a2.gh (r1.mono a2.old a2.ext a2.len) hx) (gr a2.gh r2 hy) ht (m5 a2.gh hf (k.adv en.gh (a1.trans en.gh a2)))
def cQ {op:Operator} {r:R2} {g:Dt->Dt->Option T} (ho:OpR X (binaryOp op) r) (hr:R2D X.K r g) (ha:GE X a fa) (hb:GE X b fb):GE X (.BinOp a op b pos) (e2 g fa fb):=PE.mono (oZ ho ha hb) fun _ _ _ h=>wW hr h
abbrev Ft:=Sl->CH->Option (Bool×CH)
def tGT (K:PySem.W.Frag) (f:Ft):TT:=fun σ H Q=>∃ δ ch F ρ b ch',Ge K δ ch σ F H ρ/\f δ ch=some (b,ch')/\∀ F' H' ρ',Adv K F H ρ ch F' H' ρ' ch'->Q b H'
def GT (X:Cx) (e:Expr) (f:Ft):Prop:=PT X e (tGT X.K f)
def tD (ft:De->Option Bool):Ft:=fun δ ch=>(ft (lo δ ch)).map fun b=>(b,ch)
def iO {ft:De->Option Bool} (h:DT X e ft):GT X e (tD ft):=PT.mono h fun σ H Q ⟨δ,ch,F,ρ,b,ch',en,hf,k⟩=>by
 unfold tD at hf
 obtain ⟨x,hx,hf⟩:=mS hf
 cases hf
 exact ⟨_,_,F,_,rfl,en.en,hx,fun H' F' st=>k F' H' ρ (Adv.of en.gh st)⟩
def fK (f:Fg):Ft:=fun δ ch=>(f δ ch).bind fun p=>match p.1 with
 | .dat (.bl b)=>some (b,p.2)
 | _=>none
def pS {f:Fg} {Q:Bool->Hp->Prop} (h:tGT K (fK f) σ H Q):tG K f σ H fun x H'=>∃ k,x=.bl k/\Q k H':=by
 obtain ⟨δ,ch,F,ρ,b,ch',en,hf,k⟩:=h
 unfold fK at hf
 obtain ⟨p,hp,hf⟩:=bS hf
 obtain ⟨c,ch1⟩:=p
 dsimp only at hf
 split at hf<;>cases hf
 refine ⟨δ,ch,F,ρ,_,_,en,hp,fun v F' H' ρ' a r=>⟨b,?_,k F' H' ρ' a⟩⟩
 have r:Rep K F' (.bl b) v:=r
 simp only [Rep] at r
 exact r
def lX {op:CmpOp} {r:R2} {g:Dt->Dt->Option T} (ho:OpR X (compareOp op) r) (hr:R2D X.K r g) (ha:GE X a fa) (hb:GE X b fb) (hm:behindInMarks op b=false):GT X (.Compare a [op] [b] pos) (fK (e2 g fa fb)):=
 PT.mono (lx ho ha hb hm) fun _ _ _ h=>wW hr (pS h)
def lkC {κ:Type} [DecidableEq κ] (l:List (κ×CV)) (k:κ):Option CV:=(l.find? fun p=>decide (p.1=k)).map (·.2)
def jw {κ:Type} [DecidableEq κ] {F:Hp} {ρ:Nat->Addr} {n:Nat} {k:κ}:∀ {l:List (κ×CV)} {kvs:List (κ×V)},kvs.map (·.1)=l.map (·.1)->RelCs K F ρ n (l.map (·.2)) (kvs.map (·.2))→
  match lkC l k with | some c=>∃ v,dU kvs k=some v/\RelC K F ρ n c v | none=>dU kvs k=none
 | [],[],_,_=>rfl
 | [],p::kvs,h,_=>by cases h
 | p::l,[],h,_=>by cases h
 | p::l,q::kvs,h,r=>by
  simp only [List.map_cons,List.cons.injEq] at h
  obtain ⟨v,ws,e,r1,r2⟩:=r
  simp only [List.map_cons,List.cons.injEq] at e
  obtain ⟨rfl,rfl⟩:=e
  have ih:=jw (k:=k) h.2 r2
  by_cases hk:p.1=k
  · have e1:lkC (p::l) k=some p.2:=by simp [lkC,hk]
    rw [e1]
    exact ⟨q.2,fN (h.1.trans hk),r1⟩
  · have e1:lkC (p::l) k=lkC l k:=by simp [lkC,hk]
    rw [e1,fO (by rw [h.1];exact hk)]
    exact ih
def ixO (o:CO) (d:Dt):Option CV:=match o with
 | .lst l=>(asI d).bind (atI l)
 | .tup l=>(asI d).bind (atI l)
 | .dK l=>(iN d).bind (lkC l)
 | .wk l=>(iN d).bind (lkC l)
 | _=>none
def lY {F:Hp} {d:Dt} {v:V} {j:Int} (h:asI d=some j) (r:Rep K F d v):v=.int j:=by
 unfold asI at h
 split at h<;>cases h
 simp only [Rep] at r
 exact r
def eJ {F:Hp} {d:Dt} {v:V} {j:Key} (h:iN d=some j) (r:Rep K F d v):v=kV j:=by
 unfold iN at h
 split at h<;>cases h<;>(simp only [Rep] at r;exact r)
def pT {F:Hp} {ρ:Nat->Addr} {n:Nat} {l:List CV} {vs:List V} {j:Int} {c:CV} (r:RelCs K F ρ n l vs) (h:atI l j=some c):∃ v,atI vs j=some v/\RelC K F ρ n c v:=by
 unfold atI at h ⊢
 obtain ⟨m,hm,h⟩:=bS h
 obtain ⟨v,h1,h2⟩:=r.get h
 exact ⟨v,by rw [r.length,hm];exact h1,h2⟩
def eIx (fa fb:Fg):Fg:=fun δ ch=>(fa δ ch).bind fun p=>(fb δ p.2).bind fun q=>match p.1,q.1 with
 | .ref i,.dat d=>((q.2[i]?).bind fun o=>ixO o d).map fun c=>(c,q.2)
 | .dat x,.dat d=>(gIx x d).bind (al q.2)
 | _,_=>none
def bV {k:Nat} (hr:Room k X.A) (ha:GE X a fa) (hb:GE X b fb) (hs:lB b:=by exact fun _ _=>rfl) (hn:sg b:=by exact fun _ _=>rfl):GE X (.Subscript a b pos) (eIx fa fb):=
 PE.mono (PE.or (wH rX ha hb hs) (lF (jK hr) ha hb hn)) fun σ H Q ⟨δ,ch,F,ρ,c,ch',en,hf,kk⟩=>by
  unfold eIx at hf
  obtain ⟨⟨c1,ch1⟩,hp,hf⟩:=bS hf
  obtain ⟨⟨c2,ch2⟩,hq,hf⟩:=bS hf
  dsimp only at hq hf
  split at hf<;>first | (cases hf;done) | skip
  rotate_left
  · rename_i x d hz
    obtain ⟨t,ht,hf⟩:=bS hf
    left
    refine ⟨δ,ch,F,ρ,_,ch1,en,hp,fun v F1 H1 ρ1 a1 r1=>⟨δ,ch1,F1,ρ1,_,_,en.adv a1,hq,fun w F2 H2 ρ2 a2 r2=>?_⟩⟩
    exact r_ix F2 H2 x d v w Q t a2.gh.fh (gr (c:=.dat x) a2.gh (r1.mono a2.old a2.ext a2.len) rfl) (gr (c:=.dat d) a2.gh r2 rfl) ht (m5 a2.gh hf (kk.adv en.gh (a1.trans en.gh a2)))
  rename_i i d hz
  obtain ⟨c',hc,hf⟩:=mS hf
  cases hf
  obtain ⟨o,ho,hc⟩:=bS hc
  cases o with
  | lst l =>
   obtain ⟨j,hj,hc⟩:=bS hc
   left
   refine ⟨δ,ch,F,ρ,_,ch1,en,hp,fun v F1 H1 ρ1 a1 r1=>⟨δ,ch1,F1,ρ1,_,_,en.adv a1,hq,fun w F2 H2 ρ2 a2 r2=>?_⟩⟩
   obtain ⟨vs,h1,h2⟩:=a2.gh.ok i _ ho
   obtain ⟨u,hu,ru⟩:=pT h2 hc
   exact .inl ⟨_,vs,j,u,(r1.mono a2.old a2.ext a2.len).2,lY hj r2,SqL.of h1,hu,kk u F2 H2 ρ2 (a1.trans en.gh a2) ru⟩
  | tup l =>
   obtain ⟨j,hj,hc⟩:=bS hc
   left
   refine ⟨δ,ch,F,ρ,_,ch1,en,hp,fun v F1 H1 ρ1 a1 r1=>⟨δ,ch1,F1,ρ1,_,_,en.adv a1,hq,fun w F2 H2 ρ2 a2 r2=>?_⟩⟩
   obtain ⟨vs,h1,h2⟩:=a2.gh.ok i _ ho
   obtain ⟨u,hu,ru⟩:=pT h2 hc
   exact .inr (.inl ⟨_,vs,j,u,(r1.mono a2.old a2.ext a2.len).2,lY hj r2,SqT.of h1,hu,kk u F2 H2 ρ2 (a1.trans en.gh a2) ru⟩)
  | dK l =>
   obtain ⟨j,hj,hc⟩:=bS hc
   right
   refine ⟨δ,ch,F,ρ,_,ch1,en,hp,fun v F1 H1 ρ1 a1 r1=>⟨δ,ch1,F1,ρ1,_,_,en.adv a1,hq,fun w F2 H2 ρ2 a2 r2=>?_⟩⟩
   obtain ⟨kvs,h1,h2,h3⟩:=a2.gh.ok i _ ho
   have lk:=jw (k:=j) h2 h3
   rw [hc] at lk
   obtain ⟨u,hu,ru⟩:=lk
   refine ⟨_,u,(r1.mono a2.old a2.ext a2.len).2,?_,kk u F2 H2 ρ2 (a1.trans en.gh a2) ru⟩
   rw [eJ hj r2,<- hu]
   exact DGet.k h1
  | wk l =>
   obtain ⟨j,hj,hc⟩:=bS hc
   right
   refine ⟨δ,ch,F,ρ,_,ch1,en,hp,fun v F1 H1 ρ1 a1 r1=>⟨δ,ch1,F1,ρ1,_,_,en.adv a1,hq,fun w F2 H2 ρ2 a2 r2=>?_⟩⟩
   obtain ⟨o,kvs,h1,h2,h3⟩:=a2.gh.ok i _ ho
   have lk:=jw (k:=j) h2 h3
   rw [hc] at lk
   obtain ⟨u,hu,ru⟩:=lk
   refine ⟨_,u,(r1.mono a2.old a2.ext a2.len).2,?_,kk u F2 H2 ρ2 (a1.trans en.gh a2) ru⟩
   rw [eJ hj r2,<- hu]
   exact .inl ⟨kvs,j,.inr ⟨o,h1⟩,rfl,rfl⟩
  | ins c ns l=>cases hc
  | dT l=>cases hc
  | wt l=>cases hc
def sY (ns:List Str) (l:List CV) (f:Str):Option CV:=match ns,l with
 | n::ns,c::l=>if f=n then some c else sY ns l f
 | _,_=>none
def pU {F:Hp} {ρ:Nat->Addr} {n:Nat} {f:Str} {c:CV}:∀ {ns:List Str} {l:List CV} {fs:List (Str×V)},fs.map (·.1)=ns->RelCs K F ρ n l (fs.map (·.2))->sY ns l f=some c->∃ v,fs.lookup f=some v/\RelC K F ρ n c v
 | [],l,fs,_,_,h=>by cases h
 | m::ns,[],fs,_,_,h=>by cases h
 | m::ns,c'::l,[],e,_,_=>by cases e
 | m::ns,c'::l,p::fs,e,r,h=>by
  simp only [List.map_cons,List.cons.injEq] at e
  obtain ⟨v,ws,q,r1,r2⟩:=r
  simp only [List.map_cons,List.cons.injEq] at q
  obtain ⟨rfl,rfl⟩:=q
  obtain ⟨p1,p2⟩:=p
  obtain ⟨rfl,rfl⟩:=e
  simp only [sY] at h
  by_cases hk:f=p1
  · rw [if_pos hk] at h
    cases h
    subst hk
    exact ⟨p2,by simp [List.lookup],r1⟩
  · rw [if_neg hk] at h
    have:(f==p1)=false:=by simpa using hk
    simp only [List.lookup,this]
    exact pU rfl r2 h
def eF (c f:Str) (fa:Fg):Fg:=fun δ ch=>(fa δ ch).bind fun p=>match p.1 with
 | .ref i=>match p.2[i]? with
  | some (.ins c' ns l)=>if c'=c then (sY ns l f).map fun x=>(x,p.2) else none
  | _=>none
 | _=>none
def dm {c f:Str} (h:GE X o fa) (hf:m4 X.K c f) (hb:attributeBase o f X.env (eval o X.env)=eval o X.env:=by rfl):GE X (.Attribute o f pos) (eF c f fa):=PE.mono (xI h hb) fun σ H Q ⟨δ,ch,F,ρ,c0,ch',en,hg,kk⟩=>by
 obtain ⟨C,hc,hC,hN⟩:=hf
 unfold eF at hg
 obtain ⟨⟨c1,ch1⟩,hp,hg1⟩:=bS hg
 clear hg
 dsimp only at hg1
 split at hg1<;>first | (cases hg1;done) | skip
 rename_i i
 split at hg1<;>first | (cases hg1;done) | skip
 rename_i c' ns l ho
 split at hg1<;>first | (cases hg1;done) | skip
 rename_i hcc
 subst hcc
 obtain ⟨x,hx,hg2⟩:=mS hg1
 cases hg2
 refine ⟨δ,ch,F,ρ,_,_,en,hp,fun v F1 H1 ρ1 a1 r1=>?_⟩
 obtain ⟨C',dx,fs,h0,h1,h2,h3⟩:=a1.gh.ok i _ ho
 have:=ClsAt.inj hc h0
 subst this
 obtain ⟨u,hu,ru⟩:=pU h2 h3 hx
 exact ⟨_,C,dx,fs,u,r1.2,h1,hC,hN,hu,kk u F1 H1 ρ1 a1 ru⟩
abbrev Fgs:=Sl->CH->Option (List CV×CH)
def tGs (K:PySem.W.Frag) (f:Fgs):TA:=fun σ H Q=>∃ δ ch F ρ cs ch',Ge K δ ch σ F H ρ/\f δ ch=some (cs,ch')/\∀ vs F' H' ρ',Adv K F H ρ ch F' H' ρ' ch'->RelCs K F' ρ' ch'.length cs vs->Q vs H'
def GA (X:Cx) (es:List Expr) (f:Fgs):Prop:=PA X es (tGs X.K f)
def ar:Fgs:=fun _ ch=>some ([],ch)
def ae (f:Fg) (fs:Fgs):Fgs:=fun δ ch=>(f δ ch).bind fun p=>(fs δ p.2).map fun q=>(p.1::q.1,q.2)
def aM:GA X [] ar:=PA.mono fM fun σ H Q ⟨δ,ch,F,ρ,cs,ch',en,hf,k⟩=>by
 cases hf
 exact k [] F H ρ (Adv.refl en.gh) rfl
def ak {fs:Fgs} (h:GE X e f) (hr:GA X es fs) (hs:starEach (e::es) X.env=(false,eval e X.env)::starEach es X.env:=by rfl):GA X (e::es) (ae f fs):=PA.mono (dX h hr hs) fun σ H Q ⟨δ,ch,F,ρ,cs,ch',en,hf,k⟩=>by
 unfold ae at hf
 obtain ⟨p,hp,hf⟩:=bS hf
 obtain ⟨q,hq,hf⟩:=mS hf
 cases hf
 exact ⟨δ,ch,F,ρ,p.1,p.2,en,hp,fun v F1 H1 ρ1 a1 r1=>⟨δ,p.2,F1,ρ1,q.1,q.2,en.adv a1,hq,fun ws F2 H2 ρ2 a2 r2=>k (v::ws) F2 H2 ρ2 (a1.trans en.gh a2) ⟨v,ws,rfl,r1.mono a2.old a2.ext a2.len,r2⟩⟩⟩
def eL (fs:Fgs):Fg:=fun δ ch=>(fs δ ch).bind fun p=>if p.1.length<=sizeLine then some (.ref p.2.length,p.2++[.lst p.1]) else none
def eT (fs:Fgs):Fg:=fun δ ch=>(fs δ ch).bind fun p=>if p.1.length<=sizeLine then some (.ref p.2.length,p.2++[.tup p.1]) else none
def gY {F H:Hp} {ρ:Nat->Addr} {ch:CH} {o:CO} {u:HO} {a:Addr} (g:Gh K F H ρ ch) (ha:H a=none) (ho:CoOk K F (upd H a u) ρ ch.length a o):Adv K F H ρ ch F (upd H a u) (fun i=>if i=ch.length then a else ρ i) (ch++[o]):=
 Adv.new g (Step.made g.fh ha) ha (g.fh.free ha) (ho.mono (Same.refl _) (fun i hi=>if_neg (Nat.ne_of_lt hi)) (Nat.le_succ _) fun _ h=>h)
def lZ {fs:Fgs} (h:GA X es fs):GE X (.List es pos) (eL fs):=PE.mono (rP h) fun σ H Q ⟨δ,ch,F,ρ,c,ch',en,hf,k⟩=>by
 unfold eL at hf
 obtain ⟨p,hp,hf⟩:=bS hf
 split at hf<;>cases hf
 rename_i hz
 refine ⟨δ,ch,F,ρ,p.1,p.2,en,hp,fun vs F1 H1 ρ1 a1 r1=>⟨by rw [r1.length];exact hz,fun q hq=>?_⟩⟩
 refine k (.ref q) F1 _ _ (a1.trans en.gh (gY (o:=.lst p.1) a1.gh hq ⟨vs,az,r1⟩)) ⟨by simp,?_⟩
 dsimp only
 rw [if_pos rfl]
def ma {fs:Fgs} {x1} (h:GA X es fs):GE X (.Tuple es x1 pos) (eT fs):=PE.mono (jH h) fun σ H Q ⟨δ,ch,F,ρ,c,ch',en,hf,k⟩=>by
 unfold eT at hf
 obtain ⟨p,hp,hf⟩:=bS hf
 split at hf<;>cases hf
 rename_i hz
 refine ⟨δ,ch,F,ρ,p.1,p.2,en,hp,fun vs F1 H1 ρ1 a1 r1=>⟨by rw [r1.length];exact hz,fun q hq=>?_⟩⟩
 refine k (.ref q) F1 _ _ (a1.trans en.gh (gY (o:=.tup p.1) a1.gh hq ⟨vs,az,r1⟩)) ⟨by simp,?_⟩
 dsimp only
 rw [if_pos rfl]
abbrev Fd:=List CV->CH->Option (CV×CH)
def spG (K:PySem.W.Frag) (n:Nat) (f:Fd):Sp:=fun vs H Q _=>∃ F ρ cs ch c ch',Gh K F H ρ ch/\cs.length=n/\RelCs K F ρ ch.length cs vs/\f cs ch=some (c,ch')/\KG K F H ρ ch c ch' Q
def eC (g:Fd) (fs:Fgs):Fg:=fun δ ch=>(fs δ ch).bind fun p=>g p.1 p.2
def dr {sc:Scope} {x:Str} {k n:Nat} {ps:List Str} {g:Fd} {fs:Fgs} (h:bq sc x=true) (F:OkF X.prog X.w X.K X.mg X.base x k ps (spG X.K n g)) (hr:Room k X.A) (ha:GA X (e::es) fs) (hn:∀ δ ch p,fs δ ch=some p->p.1.length=n) (e1:cW X sc:=by rfl)
  (he:starEach (e::es) X.env=(false,eval e X.env)::starEach es X.env:=by rfl) (hpl:(backTo cpos (starEach es X.env)).any (·.1)=false:=by rfl):GE X (.Call (.Name x p) (e::es) [] cpos) (eC g fs):=
 PE.mono (kI h F hr ha e1 he hpl) fun σ H Q ⟨δ,ch,F,ρ,c,ch',en,hf,k⟩=>by
  unfold eC at hf
  obtain ⟨p,hp,hf⟩:=bS hf
  refine ⟨δ,ch,F,ρ,p.1,p.2,en,hp,fun vs F1 H1 ρ1 a1 r1=>?_⟩
  show spG X.K n g (vs++[]) H1 Q E0
  rw [List.append_nil]
  exact ⟨F1,ρ1,p.1,p.2,c,ch',a1.gh,hn δ ch p hp,r1,hf,k.adv en.gh a1⟩
noncomputable def eM (c m:Str) (g:Fd) (fo:Fg) (fs:Fgs):Fg:=fun δ ch=>(fo δ ch).bind fun p=>match p.1 with
 | .ref i=>match p.2[i]? with
  | some (.ins c' ns _)=>if c'=c/\m∉ns then (fs δ p.2).bind fun q=>g (.ref i::q.1) q.2 else none
  | _=>none
 | _=>none
def wX {c m:Str} {C:Addr} {n:Nat} {g:Fd} {fo:Fg} {fs:Fgs} {as:TA} (h1:ClsAt K c C) (hn:∀ δ ch p,fs δ ch=some p->p.1.length+1=n) (has:∀ σ H Q,tGs K fs σ H Q->as σ H Q):∀ σ H Q,tG K (eM c m g fo fs) σ H Q->rR C m (spG K n g) [] E0 (tG K fo) as σ H Q:=fun σ H Q ⟨δ,ch,F,ρ,c0,ch',en,hf,k⟩=>by
 unfold eM at hf
 obtain ⟨⟨c1,ch1⟩,hp,hf1⟩:=bS hf
 clear hf
 dsimp only at hf1
 split at hf1<;>first | (cases hf1;done) | skip
 rename_i i
 split at hf1<;>first | (cases hf1;done) | skip
 rename_i c' ns l ho
 split at hf1<;>first | (cases hf1;done) | skip
 rename_i hcc
 obtain ⟨rfl,hm⟩:=hcc
 obtain ⟨q,hq,hf⟩:=bS hf1
 refine ⟨δ,ch,F,ρ,_,_,en,hp,fun v F1 H1 ρ1 a1 r1=>?_⟩
 obtain ⟨C',dx,gs,h0,ha,h2,h3⟩:=a1.gh.ok i _ ho
 have:=ClsAt.inj h1 h0
 subst this
 refine ⟨_,dx,gs,r1.2,ha,jg (by rw [h2];exact hm),has _ _ _ ⟨δ,ch1,F1,ρ1,q.1,q.2,en.adv a1,hq,fun vs F2 H2 ρ2 a2 r2=>?_⟩⟩
 show spG K n g (v::(vs++[])) H2 Q E0
 rw [List.append_nil]
 exact ⟨F2,ρ2,.ref i::q.1,q.2,c0,ch',a2.gh,hn δ ch1 q hq,⟨v,vs,rfl,r1.mono a2.old a2.ext a2.len,r2⟩,hf,k.adv en.gh (a1.trans en.gh a2)⟩
def dE {c m:Str} {k n:Nat} {ps:List Str} {g:Fd} {fs:Fgs} (F:OkM X.prog X.w X.K X.mg X.base c m k ps (spG X.K n g)) (hr:Room k X.A) (ho:GE X o fa) (ha:GA X (e::es) fs) (hn:∀ δ ch p,fs δ ch=some p->p.1.length+1=n) {pl:Sem Bool}
  (hst:starEach (e::es) X.env=(false,eval e X.env)::starEach es X.env:=by rfl) (hpl:(backTo cpos (starEach es X.env)).any (·.1)=false:=by rfl)
  (ht:eval (.Call (.Attribute o m apos) (e::es) [] cpos) X.env=(do
   let ov <- eval o X.env
   standAt apos.atName
   let (f,first) <- holding [ov] (getMethod ov m pl)
   callWith cpos f first (backTo cpos (starEach (e::es) X.env)) (backToKw cpos (keywordEach [] X.env))):=by rfl):GE X (.Call (.Attribute o m apos) (e::es) [] cpos) (eM c m g fa fs):=by
 obtain ⟨C,f,fd,h1,h2,h3,h4,h5⟩:=F.ex
 exact PE.mono (uM ho h2 h3 h5 hr h4 .nil pf ha hst hpl ht) (wX h1 hn fun _ _ _ q=>q)
def cz {c m:Str} {k:Nat} {ps:List Str} {g:Fd} (F:OkM X.prog X.w X.K X.mg X.base c m k ps (spG X.K 1 g)) (hr:Room k X.A) (ho:GE X o fa) {pl:Sem Bool}
  (ht:eval (.Call (.Attribute o m apos) [] [] cpos) X.env=(do
   let ov <- eval o X.env
   standAt apos.atName
   let (f,first) <- holding [ov] (getMethod ov m pl)
   callWith cpos f first (backTo cpos (starEach [] X.env)) (backToKw cpos (keywordEach [] X.env))):=by rfl):GE X (.Call (.Attribute o m apos) [] [] cpos) (eM c m g fa ar):=by
 obtain ⟨C,f,fd,h1,h2,h3,h4,h5⟩:=F.ex
 exact PE.mono (rS ho h2 h3 h5 hr h4 .nil pf ht) (wX h1 (fun δ ch p h=>by cases h;rfl) fun σ H Q ⟨δ,ch,F,ρ,cs,ch',en,hf,k⟩=>by
  cases hf
  exact k [] F H ρ (Adv.refl en.gh) rfl)
end
inductive Og where
 | nx (δ:Sl) (ch:CH) | rt (c:CV) (ch:CH) | bk (δ:Sl) (ch:CH) | ct (δ:Sl) (ch:CH)
noncomputable def PostG (K:PySem.W.Frag) (F H:Hp) (ρ:Nat->Addr) (ch:CH) (D:Ends):Og->Prop
 | .nx δ' ch'=>∀ σ' F' H' ρ',Adv K F H ρ ch F' H' ρ' ch'->Ge K δ' ch' σ' F' H' ρ'->D.nx σ' H'
 | .rt c ch'=>∀ v F' H' ρ',Adv K F H ρ ch F' H' ρ' ch'->RelC K F' ρ' ch'.length c v->D.rt v H'
 | .bk δ' ch'=>∀ σ' F' H' ρ',Adv K F H ρ ch F' H' ρ' ch'->Ge K δ' ch' σ' F' H' ρ'->D.bk σ' H'
 | .ct δ' ch'=>∀ σ' F' H' ρ',Adv K F H ρ ch F' H' ρ' ch'->Ge K δ' ch' σ' F' H' ρ'->D.ct σ' H'
abbrev Fs:=Sl->CH->Option Og
def tGS (K:PySem.W.Frag) (g:Fs):TS:=fun D σ H=>∃ δ ch F ρ o,Ge K δ ch σ F H ρ/\g δ ch=some o/\PostG K F H ρ ch D o
def GS1 (X:Cx) (st:Stmt) (g:Fs):Prop:=PS X st (tGS X.K g)
def GS (X:Cx) (ss:List Stmt) (g:Fs):Prop:=PSs X ss (tGS X.K g)
section
variable {K:PySem.W.Frag} {F H F' H' F1 H1:Hp} {ρ ρ' ρ1:Nat->Addr} {ch ch' ch1:CH} {D:Ends} {o:Og}
def PostG.adv (k:PostG K F H ρ ch D o) (g:Gh K F H ρ ch) (a:Adv K F H ρ ch F1 H1 ρ1 ch1):PostG K F1 H1 ρ1 ch1 D o:=by
 cases o with
 | nx δ' c'=>exact fun σ' F' H' ρ' b e=>k σ' F' H' ρ' (a.trans g b) e
 | rt c c'=>exact fun v F' H' ρ' b e=>k v F' H' ρ' (a.trans g b) e
 | bk δ' c'=>exact fun σ' F' H' ρ' b e=>k σ' F' H' ρ' (a.trans g b) e
 | ct δ' c'=>exact fun σ' F' H' ρ' b e=>k σ' F' H' ρ' (a.trans g b) e
end
section
variable {X:Cx} {st:Stmt} {rest a b body:List Stmt} {g g1 g2:Fs} {e c o tg iter:Expr} {es:List Expr} {pos apos cpos:Pos} {f fa fe fk:Fg} {tc:Ft} {i:Nat} {K:PySem.W.Frag}
def dh:Fs:=fun δ ch=>some (.nx δ ch)
def aN (g1 g2:Fs):Fs:=fun δ ch=>(g1 δ ch).bind fun o=>match o with
 | .nx δ' ch'=>g2 δ' ch'
 | o=>some o
def fu:GS X [] dh:=PSs.mono oV fun D σ H ⟨δ,ch,F,ρ,o,en,hg,k⟩=>by
 cases hg
 exact k σ F H ρ (Adv.refl en.gh) en
def aU (h:GS1 X st g):GS X [st] g:=oW h
def aL (h1:GS1 X st g1) (h2:GS X rest g2):GS X (st::rest) (aN g1 g2):=PSs.mono (mC h1 h2) fun D σ H ⟨δ,ch,F,ρ,o,en,hg,k⟩=>by
 unfold aN at hg
 obtain ⟨o1,h1,hg⟩:=bS hg
 refine ⟨δ,ch,F,ρ,o1,en,h1,?_⟩
 cases o1 with
 | nx δ' ch'=>exact fun σ' F' H' ρ' a en'=>⟨δ',ch',F',ρ',o,en',hg,k.adv en.gh a⟩
 | rt c ch'=>cases hg;exact k
 | bk δ' ch'=>cases hg;exact k
 | ct δ' ch'=>cases hg;exact k
def cb (f:Fg):Fs:=fun δ ch=>(f δ ch).map fun p=>.nx δ p.2
def dF (h:GE X e f) (hs:swapsWith e none pos.line X.env=pure false:=by rfl):GS1 X (.Expr e pos) (cb f):=PS.mono (jq h hs) fun D σ H ⟨δ,ch,F,ρ,o,en,hg,k⟩=>by
 unfold cb at hg
 obtain ⟨p,hp,hg⟩:=mS hg
 cases hg
 exact ⟨δ,ch,F,ρ,p.1,p.2,en,hp,fun v F' H' ρ' a r=>k σ F' H' ρ' a (en.adv a)⟩
def cv (f:Fg):Fs:=fun δ ch=>(f δ ch).map fun p=>.rt p.1 p.2
def cR (h:GE X e f):GS1 X (.Return (some e) pos) (cv f):=PS.mono (nM h) fun D σ H ⟨δ,ch,F,ρ,o,en,hg,k⟩=>by
 unfold cv at hg
 obtain ⟨p,hp,hg⟩:=mS hg
 cases hg
 exact ⟨δ,ch,F,ρ,p.1,p.2,en,hp,k⟩
def dW (c:Ft) (g1 g2:Fs):Fs:=fun δ ch=>(c δ ch).bind fun p=>if p.1 then g1 δ p.2 else g2 δ p.2
def eO (hc:GT X c tc) (h1:GS X a g1) (h2:GS X b g2):GS1 X (.If c a b pos) (dW tc g1 g2):=PS.mono (wy hc h1 h2) fun D σ H ⟨δ,ch,F,ρ,o,en,hg,k⟩=>by
 unfold dW at hg
 obtain ⟨p,hp,hg⟩:=bS hg
 refine ⟨δ,ch,F,ρ,p.1,p.2,en,hp,fun F' H' ρ' a=>?_⟩
 split at hg
 · rename_i q
   rw [if_pos q]
   exact ⟨δ,p.2,F',ρ',o,en.adv a,hg,k.adv en.gh a⟩
 · rename_i q
   rw [if_neg q]
   exact ⟨δ,p.2,F',ρ',o,en.adv a,hg,k.adv en.gh a⟩
def Ge.put {δ:Sl} {σ:St} {F H:Hp} {ρ:Nat->Addr} {ch:CH} {x:CV} {v:V} (en:Ge K δ ch σ F H ρ) (r:RelC K F ρ ch.length x v) (i:Nat):Ge K (δ.set i (some x)) ch (σ.set i (some v)) F H ρ:=⟨en.gh,by simp [en.len],fun j y h=>by
 rcases eZ h with ⟨rfl,z⟩ | ⟨hn,z⟩
 · cases z
   have hi:i<σ.length:=by
    rw [<- en.len]
    have:=(gX h).1
    simpa using this
   exact ⟨v,by simp [hi],r⟩
 · obtain ⟨w,h1,h2⟩:=en.has j y z
   exact ⟨w,by rw [gN hn];exact h1,h2⟩⟩
def bG (i:Nat) (f:Fg):Fs:=fun δ ch=>(f δ ch).map fun p=>.nx (δ.set i (some p.1)) p.2
def bQ {sc:Scope} {N:List Str} {x:Str} {pos':Pos} (h:eg sc N i x=true) (hl:jm sc x=true) (nd:N.Nodup) (he:GE X e f) (e1:cW X sc:=by rfl) (e2:X.N=N:=by rfl) (hf:X.fn x=true∨X.env.scope.names.lookup x=some .local:=by exact .inl rfl)
  (hs:swapsWith e (some (.Name x pos')) pos.line X.env=pure false:=by rfl):GS1 X (.Assign [.Name x pos'] e pos) (bG i f):=PS.mono (pp h hl nd he e1 e2 hf hs) fun D σ H ⟨δ,ch,F,ρ,o,en,hg,k⟩=>by
 unfold bG at hg
 obtain ⟨p,hp,hg⟩:=mS hg
 cases hg
 exact ⟨δ,ch,F,ρ,p.1,p.2,en,hp,fun v F' H' ρ' a r=>k _ F' H' ρ' a ((en.adv a).put r i)⟩
def mgS (ts:List Nat) (δ:Sl) (δ1:De):Sl:=δ.mapIdx fun j x=>if j∈ts then (match δ1[j]? with | some (some (.leaf d))=>some (.dat d) | _=>none) else x
def Ge.mg {δ:Sl} {σ σ':St} {F H:Hp} {ρ:Nat->Addr} {ch:CH} {ts:List Nat} {δ1:De} {Φ:Fm} (en:Ge K δ ch σ F H ρ) (hK:Φ.K=K) (hl:σ'.length=σ.length) (hs:∀ j,j∉ts->σ'[j]?=σ[j]?) (e:En Φ δ1 σ' F H):Ge K (mgS ts δ δ1) ch σ' F H ρ:=⟨en.gh,by simp [mgS,en.len,hl],fun j x h=>by
 unfold mgS at h
 rw [List.getElem?_mapIdx] at h
 obtain ⟨y,hy,h⟩:=mS h
 by_cases hj:j∈ts
 · rw [if_pos hj] at h
   split at h<;>cases h
   rename_i d q
   obtain ⟨v,h1,h2⟩:=e.leaf q
   exact ⟨v,h1,(hK▸h2:Rep K F d v)⟩
 · rw [if_neg hj] at h
   subst h
   obtain ⟨v,h1,h2⟩:=en.has j x hy
   exact ⟨v,by rw [hs j hj];exact h1,h2⟩⟩
noncomputable def dw (ts:List Nat) (bb:Dt->De->Option De) (g:Fs):List Dt->Sl->CH->Option Og
 | [],δ,ch=>some (.nx δ ch)
 | d::r,δ,ch=>(bb d (lo δ ch)).bind fun δ1=>(g (mgS ts δ δ1) ch).bind fun o=>match o with
  | .nx δ2 ch2=>dw ts bb g r δ2 ch2
  | .ct δ2 ch2=>dw ts bb g r δ2 ch2
  | .bk δ2 ch2=>some (.nx δ2 ch2)
  | .rt c ch2=>some (.rt c ch2)
def de (fi:De->Option (List Dt)) (ts:List Nat) (bb:Dt->De->Option De) (g:Fs):Fs:=fun δ ch=>(fi (lo δ ch)).bind fun ds=>dw ts bb g ds δ ch
def iP {fi:De->Option (List Dt)} {ts:List Nat} {bb:Dt->De->Option De} (hp:PassesOwn (model X.prog X.w) X.A X.env X.xe) (hc:X.calm=true) (hi:DIF X tg iter fi) (hg:DG X tg ts bb) (hb:GS X body g)
  (hs:∀ x,foldedSetIterable iter X.env x=pure x:=by intro _;rfl):GS1 X (.For tg iter body [] pos) (de fi ts bb g):=PS.mono (jF hp hc hi hg hb hs) fun D σ H ⟨δ,ch,F,ρ,o,en,hg,k⟩=>by
 unfold de at hg
 obtain ⟨ds,hd,hg⟩:=bS hg
 rw [hZ]
 refine ⟨_,_,F,ds,rfl,en.en,hd,fun J ok H1 F1 st1 wd ho=>?_⟩
 have a1:=Adv.of en.gh st1
 have en1:=en.adv a1
 have k1:=k.adv en.gh a1
 refine ij (n:=ds.length) (fun i σ' H'=>∃ δ' ch' F' ρ',Adv X.K F1 H1 ρ ch F' H' ρ' ch'/\Ge X.K δ' ch' σ' F' H' ρ'/\dw ts bb g (ds.drop i) δ' ch'=some o) ⟨δ,ch,F1,ρ,Adv.refl en1.gh,en1,by simpa using hg⟩ (fun i σ' H' ⟨δ',ch',F',ρ',a',en',_⟩=>?_) ?_ ?_
 · obtain ⟨p1,p2,_⟩:=wd i H' F' (ho H' (a'.old.trans en'.gh.fh)) en'.gh.fh a'.old
   exact ⟨p1,p2⟩
 · rintro i x σ' H' H'' hi ⟨δ',ch',F',ρ',a',en',hgo⟩ hy
   obtain ⟨_,_,p3⟩:=wd i H' F' (ho H' (a'.old.trans en'.gh.fh)) en'.gh.fh a'.old
   obtain ⟨d,F2,hd',st2,rd⟩:=p3 x H'' hi hy
   rw [gj hd'] at hgo
   unfold dw at hgo
   obtain ⟨δ1,h1,hgo⟩:=bS hgo
   obtain ⟨o1,h2,hgo⟩:=bS hgo
   have a2:=Adv.of en'.gh st2
   have a3:=a'.trans en1.gh a2
   have en2:=en'.adv a2
   refine ⟨_,_,F2,d,δ1,rfl,en2.en,rd,h1,fun σ1 l1 q1 e1=>⟨_,ch',F2,ρ',o1,en2.mg rfl l1 q1 e1,h2,?_⟩⟩
   cases o1 with
   | nx δ2 c2=>exact fun σ2 F3 H3 ρ3 a4 en4=>⟨δ2,c2,F3,ρ3,a3.trans en1.gh a4,en4,hgo⟩
   | ct δ2 c2=>exact fun σ2 F3 H3 ρ3 a4 en4=>⟨δ2,c2,F3,ρ3,a3.trans en1.gh a4,en4,hgo⟩
   | bk δ2 c2=>cases hgo;exact fun σ2 F3 H3 ρ3 a4 en4=>k1 σ2 F3 H3 ρ3 (a3.trans en1.gh a4) en4
   | rt c c2=>cases hgo;exact fun v F3 H3 ρ3 a4 r=>k1 v F3 H3 ρ3 (a3.trans en1.gh a4) r
 · rintro σ' H' ⟨δ',ch',F',ρ',a',en',hgo⟩
   rw [List.drop_length] at hgo
   cases hgo
   exact k1 σ' F' H' ρ' a' en'
noncomputable def gA (fa fe:Fg):Fs:=fun δ ch=>(fa δ ch).bind fun p=>(fe δ p.2).bind fun q=>match p.1 with
 | .ref i=>match p.2[i]?,q.2[i]? with
  | some (.lst _),some (.lst l)=>if l.length<sizeLine then some (.nx δ (q.2.set i (.lst (l++[q.1])))) else none
  | _,_=>none
 | _=>none
def gt (hx:GE X o fa) (he:GE X e fe)
  (hbase:attributeBase o "append" X.env (eval o X.env)=eval o X.env:=by rfl)
  (hfew:((backTo cpos (starEach [e] X.env)).all (fun x=>!x.1)&&(backToKw cpos (keywordEach [] X.env)).all (fun x=>x.1.isSome)
   && decide ([e].length+([]:List Keyword).length+(if ([]:List Keyword).isEmpty then 0 else 1)<30))=true:=by rfl)
  (hline:(apos.endLine==cpos.line)=true:=by rfl) (hs:starEach [e] X.env=(false,eval e X.env)::starEach [] X.env:=by rfl) (hplain:(backTo cpos (starEach [] X.env)).any (·.1)=false:=by rfl)
  (hsw:swapsWith (.Call (.Attribute o "append" apos) [e] [] cpos) none pos.line X.env=pure false:=by rfl) :
  GS1 X (.Expr (.Call (.Attribute o "append" apos) [e] [] cpos) pos) (gA fa fe):=
 PS.mono (jq (mI PySem.F.plainAttrs_list PySem.F.slot_list_append PySem.F.type_list_append gf hx (dX he fM hs) hbase hfew hline hs hplain) hsw) fun D σ H ⟨δ,ch,F,ρ,og,en,hg,k⟩=>by
  unfold gA at hg
  obtain ⟨⟨c1,ch1⟩,hp,hg1⟩:=bS hg
  clear hg
  obtain ⟨⟨c2,ch2⟩,hq,hg⟩:=bS hg1
  clear hg1
  dsimp only at hq hg
  split at hg<;>first | (cases hg;done) | skip
  rename_i i
  split at hg<;>first | (cases hg;done) | skip
  rename_i l0 l h0 h1
  split at hg<;>cases hg
  rename_i hz
  refine ⟨δ,ch,F,ρ,_,ch1,en,hp,fun v F1 H1 ρ1 a1 r1=>?_⟩
  obtain ⟨vs0,q0,_⟩:=a1.gh.ok i _ h0
  obtain ⟨hi,rfl⟩:=r1
  refine ⟨.inl ⟨rfl,vs0,.inl (.inl q0)⟩,δ,ch1,F1,ρ1,c2,ch2,en.adv a1,hq,fun w F2 H2 ρ2 a2 r2=>?_⟩
  obtain ⟨vs,q1,q2⟩:=a2.gh.ok i _ h1
  rw [a2.ext i hi] at q1
  refine ⟨_,vs,w,rfl,rfl,q1,by rw [q2.length];exact hz,?_⟩
  have hi2:i<ch2.length:=(gX h1).1
  have a3:=Adv.upd (o:=.lst (l++[c2])) (u:=.lst (vs++[w])) (w:=.lst vs) a2.gh hi2 (by rw [a2.ext i hi];exact q1) (fun _ _ z=>nomatch z) ⟨_,az,q2.append (RelCs.one r2)⟩
  rw [a2.ext i hi] at a3
  have a:=(a1.trans en.gh a2).trans en.gh a3
  exact k σ F2 _ ρ2 a (en.adv a)
def dG {κ:Type} [DecidableEq κ]:List (κ×CV)->κ->CV->List (κ×CV)
 | [],k,c=>[(k,c)]
 | p::l,k,c=>if p.1=k then (p.1,c)::l else p::dG l k c
noncomputable def vt (o:CO) (d:Dt) (c:CV):Option CO:=match o with
 | .lst l=>(asI d).bind fun j=>(ixN l.length j).map fun m=>.lst (l.set m c)
 | .dK l=>(iN d).bind fun k=>if l.length<sizeLine/\(l.map (·.1)).Nodup then some (.dK (dG l k c)) else none
 | _=>none
def iu {κ:Type} [DecidableEq κ] {F:Hp} {ρ:Nat->Addr} {n:Nat} {k:κ} {c:CV} {v:V} (r:RelC K F ρ n c v):∀ {l:List (κ×CV)} {kvs:List (κ×V)},(l.map (·.1)).Nodup->kvs.map (·.1)=l.map (·.1)->RelCs K F ρ n (l.map (·.2)) (kvs.map (·.2))→
  (bO kvs k v).map (·.1)=(dG l k c).map (·.1)/\RelCs K F ρ n ((dG l k c).map (·.2)) ((bO kvs k v).map (·.2))
 | [],[],_,_,_=>⟨rfl,⟨v,[],rfl,r,rfl⟩⟩
 | [],q::kvs,_,h,_=>by cases h
 | p::l,[],_,h,_=>by cases h
 | p::l,q::kvs,nd,h,rs=>by
  simp only [List.map_cons,List.cons.injEq] at h
  obtain ⟨h1,h2⟩:=h
  obtain ⟨w,ws,e,r1,r2⟩:=rs
  simp only [List.map_cons,List.cons.injEq] at e
  obtain ⟨rfl,rfl⟩:=e
  have nd':=List.nodup_cons.mp nd
  by_cases hk:p.1=k
  · have hq:q.1=k:=h1.trans hk
    have hnone:∀ x∈kvs,¬ x.1=k:=fun x hx e=>nd'.1 (by
     have:x.1∈kvs.map (·.1):=List.mem_map_of_mem hx
     rw [h2] at this
     rw [e,<- hk] at this
     exact this)
    have e2:bO (q::kvs) k v=(q.1,v)::kvs:=by
     unfold bO
     rw [if_pos (by simp [hq])]
     simp only [List.map_cons,if_pos hq,List.cons.injEq,true_and]
     have:∀ x∈kvs,(if x.1=k then (x.1,v) else x)=id x:=fun x hx=>if_neg (hnone x hx)
     rw [List.map_congr_left this,List.map_id]
    have e1:dG (p::l) k c=(p.1,c)::l:=by simp only [dG,if_pos hk]
    rw [e1,e2]
    exact ⟨by simp [h1,h2],⟨v,_,rfl,r,r2⟩⟩
  · have hq:¬ q.1=k:=fun z=>hk (h1.symm.trans z)
    have e2:bO (q::kvs) k v=q::bO kvs k v:=by
     unfold bO
     by_cases ha:(kvs.any fun kv=>decide (kv.1=k))=true
     · rw [if_pos ha,if_pos (by simp only [List.any_cons,ha,Bool.or_true])]
       simp only [List.map_cons,if_neg hq]
     · rw [if_neg ha,if_neg (by simp only [List.any_cons,decide_eq_false hq,Bool.false_or];exact ha)]
       rfl
    have e1:dG (p::l) k c=p::dG l k c:=by simp only [dG,if_neg hk]
    obtain ⟨i1,i2⟩:=iu (k:=k) r nd'.2 h2 r2
    rw [e1,e2]
    exact ⟨by simp [h1,i1],⟨q.2,_,rfl,r1,i2⟩⟩
def jh (fa fk fe:Fg):Fs:=fun δ ch=>(fe δ ch).bind fun p=>(fa δ p.2).bind fun q=>(fk δ q.2).bind fun r=>match q.1,r.1 with
 | .ref i,.dat d=>((r.2[i]?).bind fun o=>vt o d p.1).map fun o'=>.nx δ (r.2.set i o')
 | _,_=>none
def md {k:Nat} {ik:Expr} {pos':Pos} (hr:Room k X.A) (hx:GE X o fa) (hk:GE X ik fk) (he:GE X e fe) (hs:swapsWith e (some (.Subscript o ik pos')) pos.line X.env=pure false:=by rfl)
  (hs2:swapsWithSole [.Subscript o ik pos'] e pos.line X.env=pure false:=by rfl) (hw:swappedStores [.Subscript o ik pos'] e X.env=pure none:=by rfl)
  (h1:(assignEach [.Subscript o ik pos'] X.env).map (·.2)=[assign (.Subscript o ik pos') X.env]:=by rfl)
  (ha:∀ v,assign (.Subscript o ik pos') X.env v=(do
   let ov <- holding [v] (eval o X.env)
   let iv <- holding [v,ov] (eval ik X.env)
   standAt pos'
   holding [v,ov,iv] (setItem ov iv v)
   release [v,ov,iv] []):=by intro _;rfl):GS1 X (.Assign [.Subscript o ik pos'] e pos) (jh fa fk fe):=
 PS.mono (PS.or (nN he (rH hx hk mH ha) hs2 hw h1) (lG (jK hr) hx hk he hs)) fun D σ H ⟨δ,ch,F,ρ,og,en,hg,kk⟩=>by
  unfold jh at hg
  obtain ⟨⟨c1,ch1⟩,hp,hg1⟩:=bS hg
  clear hg
  obtain ⟨⟨c2,ch2⟩,hq,hg2⟩:=bS hg1
  clear hg1
  obtain ⟨⟨c3,ch3⟩,hw,hg⟩:=bS hg2
  clear hg2
  dsimp only at hq hw hg
  split at hg<;>first | (cases hg;done) | skip
  rename_i i d
  obtain ⟨o',hput,hg⟩:=mS hg
  cases hg
  obtain ⟨o0,ho,hput⟩:=bS hput
  cases o0 with
  | lst l =>
   obtain ⟨j,hj,hput⟩:=bS hput
   obtain ⟨m,hm,rfl⟩:=mS hput
   left
   refine ⟨δ,ch,F,ρ,_,ch1,en,hp,fun v F1 H1 ρ1 a1 r1=>⟨δ,ch1,F1,ρ1,_,ch2,en.adv a1,hq,fun x F2 H2 ρ2 a2 r2=>⟨δ,ch2,F2,ρ2,_,ch3,(en.adv a1).adv a2,hw,fun y F3 H3 ρ3 a3 r3=>?_⟩⟩⟩
   obtain ⟨vs,q1,q2⟩:=a3.gh.ok i _ ho
   have hi3:i<ch3.length:=(gX ho).1
   have a12:=a1.trans en.gh a2
   have a13:=a12.trans en.gh a3
   have r1':=(r1.mono a2.old a2.ext a2.len).mono a3.old a3.ext a3.len
   refine ⟨_,vs,j,m,(r2.mono a3.old a3.ext a3.len).2,lY hj r3,q1,by rw [q2.length];exact hm,?_⟩
   have a4:=Adv.upd (o:=.lst (l.set m c1)) (u:=.lst (vs.set m v)) a3.gh hi3 q1 (fun _ _ z=>nomatch z) ⟨_,az,q2.set r1' m⟩
   have a:=a13.trans en.gh a4
   exact kk σ F3 _ ρ3 a (en.adv a)
  | dK l =>
   obtain ⟨j,hj,hput⟩:=bS hput
   split at hput<;>first | (cases hput;done) | skip
   rename_i hz
   cases hput
   right
   refine ⟨δ,ch,F,ρ,_,ch1,en,hp,fun v F1 H1 ρ1 a1 r1=>⟨δ,ch1,F1,ρ1,_,ch2,en.adv a1,hq,fun x F2 H2 ρ2 a2 r2=>⟨δ,ch2,F2,ρ2,_,ch3,(en.adv a1).adv a2,hw,fun y F3 H3 ρ3 a3 r3=>?_⟩⟩⟩
   obtain ⟨kvs,q1,q2,q3⟩:=a3.gh.ok i _ ho
   have hi3:i<ch3.length:=(gX ho).1
   have a12:=a1.trans en.gh a2
   have a13:=a12.trans en.gh a3
   have r1':=(r1.mono a2.old a2.ext a2.len).mono a3.old a3.ext a3.len
   obtain ⟨z1,z2⟩:=iu (k:=j) r1' hz.2 q2 q3
   have hlen:kvs.length=l.length:=by
    have:=congrArg List.length q2
    simpa using this
   refine ⟨_,upd H3 (ρ3 i) (.dK (bO kvs j v)),(r2.mono a3.old a3.ext a3.len).2,?_,?_⟩
   · rw [eJ hj r3]
     exact DPut.k q1 (by rw [hlen];exact hz.1)
   · have a4:=Adv.upd (o:=.dK (dG l j c1)) (u:=.dK (bO kvs j v)) a3.gh hi3 q1 (fun _ _ z=>nomatch z) ⟨_,az,z1,z2⟩
     have a:=a13.trans en.gh a4
     exact kk σ F3 _ ρ3 a (en.adv a)
  | tup l=>cases hput
  | ins c ns l=>cases hput
  | wk l=>cases hput
  | dT l=>cases hput
  | wt l=>cases hput
def d4 (ns:List Str) (l:List CV) (f:Str) (c:CV):List Str×List CV:=match ns,l with
 | n::ns,x::l=>if n=f then (n::ns,c::l) else ((n::(d4 ns l f c).1),(x::(d4 ns l f c).2))
 | _,_=>([f],[c])
def kX {F:Hp} {ρ:Nat->Addr} {n:Nat} {f:Str} {c:CV} {v:V} (r:RelC K F ρ n c v):∀ {ns:List Str} {l:List CV} {fs:List (Str×V)},fs.map (·.1)=ns->RelCs K F ρ n l (fs.map (·.2))->(d9 f v fs).map (·.1)=(d4 ns l f c).1/\RelCs K F ρ n (d4 ns l f c).2 ((d9 f v fs).map (·.2))
 | [],l,[],_,rs=>by
  cases l with
  | nil=>exact ⟨rfl,⟨v,[],rfl,r,rfl⟩⟩
  | cons x l=>obtain ⟨_,_,e,_⟩:=rs;cases e
 | [],l,p::fs,h,_=>by cases h
 | m::ns,l,[],h,_=>by cases h
 | m::ns,[],p::fs,h,rs=>by
  have:p.2::fs.map (·.2)=[]:=rs
  cases this
 | m::ns,x::l,p::fs,h,rs=>by
  simp only [List.map_cons,List.cons.injEq] at h
  obtain ⟨w,ws,e,r1,r2⟩:=rs
  simp only [List.map_cons,List.cons.injEq] at e
  obtain ⟨rfl,rfl⟩:=e
  obtain ⟨p1,p2⟩:=p
  obtain ⟨rfl,rfl⟩:=h
  by_cases hk:p1=f
  · simp only [d9,d4,if_pos hk]
    exact ⟨by simp,⟨v,_,rfl,r,r2⟩⟩
  · obtain ⟨i1,i2⟩:=kX (f:=f) r rfl r2
    simp only [d9,d4,if_neg hk]
    exact ⟨by simp [i1],⟨p2,_,rfl,r1,i2⟩⟩
noncomputable def fH (c f:Str) (fa fe:Fg):Fs:=fun δ ch=>(fe δ ch).bind fun p=>(fa δ p.2).bind fun q=>match q.1 with
 | .ref i=>match q.2[i]? with
  | some (.ins c' ns l)=>if c'=c/\ns.length<1000 then some (.nx δ (q.2.set i (.ins c' (d4 ns l f p.1).1 (d4 ns l f p.1).2))) else none
  | _=>none
 | _=>none
def fw {cn fn:Str} {pos':Pos} (h:GE X o fa) (hf:m4 X.K cn fn) (he:GE X e fe) (hs:swapsWith e (some (.Attribute o fn pos')) pos.line X.env=pure false:=by rfl):GS1 X (.Assign [.Attribute o fn pos'] e pos) (fH cn fn fa fe):=
 PS.mono (xJ h he hs) fun D σ H ⟨δ,ch,F,ρ,og,en,hg,kk⟩=>by
  obtain ⟨C,hc,hC,hN⟩:=hf
  unfold fH at hg
  obtain ⟨⟨c1,ch1⟩,hp,hg1⟩:=bS hg
  clear hg
  obtain ⟨⟨c2,ch2⟩,hq,hg⟩:=bS hg1
  clear hg1
  dsimp only at hq hg
  split at hg<;>first | (cases hg;done) | skip
  rename_i i
  split at hg<;>first | (cases hg;done) | skip
  rename_i c' ns l ho
  split at hg<;>cases hg
  rename_i hz
  obtain ⟨rfl,hz⟩:=hz
  refine ⟨δ,ch,F,ρ,_,ch1,en,hp,fun v F1 H1 ρ1 a1 r1=>⟨δ,ch1,F1,ρ1,_,ch2,en.adv a1,hq,fun x F2 H2 ρ2 a2 r2=>?_⟩⟩
  obtain ⟨C',dx,fs,h0,q1,q2,q3⟩:=a2.gh.ok i _ ho
  have:=ClsAt.inj hc h0
  subst this
  have hi:i<ch2.length:=(gX ho).1
  have r1':=r1.mono a2.old a2.ext a2.len
  obtain ⟨z1,z2⟩:=kX (f:=fn) r1' q2 q3
  refine ⟨_,C,dx,fs,r2.2,q1,hC,hN,?_,?_⟩
  · have:=congrArg List.length q2
    rw [List.length_map] at this
    omega
  · have a3:=Adv.upd (o:=.ins c' (d4 ns l fn c1).1 (d4 ns l fn c1).2) (u:=.ins C dx (d9 fn v fs)) a2.gh hi q1 (fun _ _ z=>nomatch z) ⟨C,dx,_,hc,az,z1,z2⟩
    have a:=(a1.trans en.gh a2).trans en.gh a3
    exact kk σ F2 _ ρ2 a (en.adv a)
end
def dR (m:Nat) (g:Fs):Fd:=fun cs ch=>match g (cs.map some++List.replicate (m-cs.length) none) ch with
 | some (.rt c ch')=>some (c,ch')
 | some (.nx _ ch')=>some (.dat .non,ch')
 | _=>none
def m6 {K:PySem.W.Frag} {F H:Hp} {ρ:Nat->Addr} {ch:CH} {cs:List CV} {vs:List V} {N:List Str} (g:Gh K F H ρ ch) (r:RelCs K F ρ ch.length cs vs):Ge K (cs.map some++List.replicate (N.length-cs.length) none) ch (dB N vs) F H ρ:=by
 have hl:=r.length
 refine ⟨g,by simp [dB,hl],fun i c h=>?_⟩
 by_cases hi:i<cs.length
 · rw [List.getElem?_append_left (by simpa using hi),List.getElem?_map] at h
   have hd:cs[i]?=some cs[i]:=by simp [hi]
   rw [hd] at h
   cases h
   obtain ⟨v,hv,rv⟩:=r.get hd
   refine ⟨v,?_,rv⟩
   unfold dB
   rw [List.getElem?_append_left (by simp;omega),List.getElem?_map,hv]
   rfl
 · rw [List.getElem?_append_right (by simpa using hi)] at h
   rw [List.getElem?_replicate] at h
   split at h<;>cases h
section
variable {P:Program} {w:World} {K:PySem.W.Frag} {mg:Str->Option Value} {base:Heap}
def me {x q:Str} {st:Stmt} {N ps:List Str} {k n:Nat} {g:Fs} {f:Addr} {fd:FuncData} (D:Fun K x q st f fd) (S:FnScope N ps (ac st)) (hn:ps.length=n)
  (hbody:∀ (cdv:Value) (A:Around) (outer:List Env) (s:Shared) (H:Hp) (E:XK),Room k (A.deeper (envOfC q (ac st) s.heap.objs.size f cdv))->GS (jk CX0 P w K mg base N q (ac st) f cdv A outer s H E).nox (aT st) g) :
  FnOk P w K mg base CX0 (k+1) f fd ps (spG K n (dR N.length g)):=by
 refine D.ok S (fun vs H Q E h=>?_) (fun cdv A outer s H vs Q E hr h=>?_)
 · obtain ⟨F,ρ,cs,ch,c,ch',_,hl,r,_⟩:=h
   rw [r.length,hl,hn]
 · obtain ⟨F,ρ,cs,ch,c,ch',gh,hl,r,hf,kq⟩:=h
   refine ⟨_,hbody cdv A outer s H E hr,?_⟩
   unfold dR at hf
   split at hf
   · rename_i c1 ch1 q
     cases hf
     exact ⟨_,ch,F,ρ,_,m6 gh r,q,fun v F' H' ρ' a z=>kq v F' H' ρ' a z⟩
   · rename_i δ1 ch1 q
     cases hf
     exact ⟨_,ch,F,ρ,_,m6 gh r,q,fun σ' F' H' ρ' a z=>kq .non F' H' ρ' a (pE (K:=K) (F:=F'))⟩
   · cases hf
end
section
variable {X:Cx} {e a b o:Expr} {es rest:List Expr} {f fa fb fe:Fg} {fs:Fgs} {ta tb:Ft} {pos apos cpos p:Pos} {sc:Scope} {x:Str} {K:PySem.W.Frag}
def GW (X:Cx) (e:Expr) (f:Ft):Prop:=PW X e (tGT X.K f)
def iw (f:Ft):Ft:=fun δ ch=>(f δ ch).map fun p=>(!p.1,p.2)
def m7 (f g:Ft):Ft:=fun δ ch=>(f δ ch).bind fun p=>if p.1 then g δ p.2 else some (false,p.2)
def sZ (f g:Ft):Ft:=fun δ ch=>(f δ ch).bind fun p=>if p.1 then some (true,p.2) else g δ p.2
def gB (f:Fg):Ft:=fun δ ch=>(f δ ch).bind fun p=>(vw p.2 p.1).bind fun d=>(u3 d).map fun b=>(b,p.2)
def jW (ha:GE X a fa) (he:∀ whole,isTrue a X.env whole=(do let v <- whole;standAt a.pos;holding [v] (truthy v))):GT X a (gB fa):=PT.mono (mE ha he) fun σ H Q ⟨δ,ch,F,ρ,b,ch',en,hf,k⟩=>by
 unfold gB at hf
 obtain ⟨p,hp,hf⟩:=bS hf
 obtain ⟨d,hd,hf⟩:=bS hf
 obtain ⟨c,hc,hf⟩:=mS hf
 cases hf
 exact ⟨δ,ch,F,ρ,p.1,_,en,hp,fun v F' H' ρ' a r=>⟨_,pD a.gh.fh (gr a.gh r hd) hc,k F' H' ρ' a⟩⟩
def oA (h:GT X a ta):GT X (.UnaryOp .Not a pos) (iw ta):=PT.mono (xw h) fun σ H Q ⟨δ,ch,F,ρ,b,ch',en,hf,k⟩=>by
 unfold iw at hf
 obtain ⟨p,hp,hf⟩:=mS hf
 cases hf
 exact ⟨δ,ch,F,ρ,p.1,p.2,en,hp,fun F' H' ρ' a=>k F' H' ρ' a⟩
def vv (h:GT X a ta):GW X (.BoolOp .And [a] pos) ta:=uF h
def yf (h:GT X a ta):GW X (.BoolOp .Or [a] pos) ta:=xu h
def yg (h:GT X a ta) (h':GW X (.BoolOp .And (b::rest) pos) tb):GW X (.BoolOp .And (a::b::rest) pos) (m7 ta tb):=PW.mono (xv h h') fun σ H Q ⟨δ,ch,F,ρ,t,ch',en,hf,k⟩=>by
 unfold m7 at hf
 obtain ⟨p,hp,hf⟩:=bS hf
 refine ⟨δ,ch,F,ρ,p.1,p.2,en,hp,fun F' H' ρ' a=>?_⟩
 split at hf
 · rename_i q
   rw [if_pos q]
   exact ⟨δ,p.2,F',ρ',t,ch',en.adv a,hf,fun F2 H2 ρ2 a2=>k F2 H2 ρ2 (a.trans en.gh a2)⟩
 · rename_i q
   rw [if_neg q]
   cases hf
   exact k F' H' ρ' a
def zq (h:GT X a ta) (h':GW X (.BoolOp .Or (b::rest) pos) tb):GW X (.BoolOp .Or (a::b::rest) pos) (sZ ta tb):=PW.mono (yQ h h') fun σ H Q ⟨δ,ch,F,ρ,t,ch',en,hf,k⟩=>by
 unfold sZ at hf
 obtain ⟨p,hp,hf⟩:=bS hf
 refine ⟨δ,ch,F,ρ,p.1,p.2,en,hp,fun F' H' ρ' a=>?_⟩
 split at hf
 · rename_i q
   rw [if_pos q]
   cases hf
   exact k F' H' ρ' a
 · rename_i q
   rw [if_neg q]
   exact ⟨δ,p.2,F',ρ',t,ch',en.adv a,hf,fun F2 H2 ρ2 a2=>k F2 H2 ρ2 (a.trans en.gh a2)⟩
def GW.t (h:GW X a ta):GT X a ta:=h.pt
def yh:CV->Option Bool
 | .dat (.bl b)=>some b
 | _=>none
def vz {F:Hp} {ρ:Nat->Addr} {n:Nat} {c:CV} {b:Bool} {v:V} (h:yh c=some b) (r:RelC K F ρ n c v):v=.bl b:=by
 unfold yh at h
 split at h<;>cases h
 have r:Rep K F (.bl b) v:=r
 simp only [Rep] at r
 exact r
def tf (f g:Fg):Fg:=fun δ ch=>(f δ ch).bind fun p=>(yh p.1).bind fun b=>if b then g δ p.2 else some (.dat (.bl false),p.2)
def yi {op} (h:GE X a fa):GE X (.BoolOp op [a] pos) fa:=xx h
def yj (h:GE X a fa) (h':GE X (.BoolOp .And (b::rest) pos) fb):GE X (.BoolOp .And (a::b::rest) pos) (tf fa fb):=PE.mono (xy h h') fun σ H Q ⟨δ,ch,F,ρ,c,ch',en,hf,k⟩=>by
 unfold tf at hf
 obtain ⟨p,hp,hf⟩:=bS hf
 obtain ⟨b,hb,hf⟩:=bS hf
 refine ⟨δ,ch,F,ρ,p.1,p.2,en,hp,fun v F' H' ρ' a r=>⟨b,vz hb r,?_⟩⟩
 split at hf
 · rename_i q
   rw [if_pos q]
   exact ⟨δ,p.2,F',ρ',c,ch',en.adv a,hf,k.adv en.gh a⟩
 · rename_i q
   rw [if_neg q]
   cases hf
   exact k _ F' H' ρ' a (sx (K:=X.K) (F:=F'))
def vws (ch:CH):List CV->Option (List Dt)
 | []=>some []
 | c::l=>(vw ch c).bind fun d=>(vws ch l).map (d::·)
def kY {F H:Hp} {ρ:Nat->Addr} {ch:CH} (g:Gh K F H ρ ch):∀ {l:List CV} {ds:List Dt} {vs:List V},RelCs K F ρ ch.length l vs->vws ch l=some ds->kL K F H ds vs
 | [],ds,vs,r,h=>by cases h;exact r
 | c::l,ds,vs,r,h=>by
  simp only [vws] at h
  obtain ⟨d,hd,h⟩:=bS h
  obtain ⟨es,he,rfl⟩:=mS h
  obtain ⟨v,ws,e,r1,r2⟩:=r
  exact ⟨v,ws,e,gr g r1 hd,kY g r2 he⟩
def eB (g:List Dt->Option T) (fs:Fgs):Fg:=fun δ ch=>(fs δ ch).bind fun p=>(vws p.2 p.1).bind fun ds=>(g ds).bind (al p.2)
def wY {r:List V->Hp->VK->Prop} {g:List Dt->Option T} (hr:CRD K r g) {σ:St} {H:Hp} {Q:VK} (h:tG K (eB g fs) σ H Q):tCB r (tGs K fs) σ H Q:=by
 obtain ⟨δ,ch,F,ρ,c,ch',en,hf,k⟩:=h
 unfold eB at hf
 obtain ⟨p,hp,hf⟩:=bS hf
 obtain ⟨ds,hd,hf⟩:=bS hf
 obtain ⟨t,ht,hf⟩:=bS hf
 exact ⟨δ,ch,F,ρ,p.1,p.2,en,hp,fun vs F1 H1 ρ1 a1 r1=>hr F1 H1 ds vs Q t a1.gh.fh (kY a1.gh r1 hd) ht (m5 a1.gh hf (k.adv en.gh a1))⟩
def bH {id:String} {r:List V->Hp->VK->Prop} {gg:List Dt->Option T} (h:bq sc x=true) (hc:CallR X (.builtin id) r) (hr:CRD X.K r gg) (hm:X.mg x=none) (hv:bootBuiltins x=some (.builtin id)) (ha:GA X (e::es) fs) (e1:cW X sc:=by rfl)
  (he:starEach (e::es) X.env=(false,eval e X.env)::starEach es X.env:=by rfl) (hpl:(backTo pos (starEach es X.env)).any (·.1)=false:=by rfl):GE X (.Call (.Name x p) (e::es) [] pos) (eB gg fs):=
 PE.mono (kH h hc hm hv ha e1 he hpl) fun σ H Q q=>wY hr q
def iy {Ty:String} {r:List V->Hp->VK->Prop} {gg:List Dt->Option T} (h:bq sc x=true) (hc:CallR X (.type Ty) r) (hr:CRD X.K r gg) (hm:X.mg x=none) (hv:bootBuiltins x=some (.type Ty)) (ha:GA X (e::es) fs) (e1:cW X sc:=by rfl)
  (he:starEach (e::es) X.env=(false,eval e X.env)::starEach es X.env:=by rfl) (hpl:(backTo pos (starEach es X.env)).any (·.1)=false:=by rfl):GE X (.Call (.Name x p) (e::es) [] pos) (eB gg fs):=
 PE.mono (gK h hc hm hv ha e1 he hpl) fun σ H Q q=>wY hr q
noncomputable def eMk (c:Str) (g:Fd) (fs:Fgs):Fg:=fun δ ch=>(fs δ ch).bind fun p=>(g (.ref p.2.length::p.1) (p.2++[.ins c [] []])).bind fun q=>match q.1 with
 | .dat .non=>if p.2.length<q.2.length then some (.ref p.2.length,q.2) else none
 | _=>none
def zr {c:Str} {C:Addr} {n:Nat} {g:Fd} {as:TA} (h1:ClsAt K c C) (hn:∀ δ ch p,fs δ ch=some p->p.1.length+1=n) (has:∀ σ H Q,tGs K fs σ H Q->as σ H Q):∀ σ H Q,tG K (eMk c g fs) σ H Q->wF C (spG K n g) [] E0 as σ H Q:=fun σ H Q ⟨δ,ch,F,ρ,c0,ch',en,hf,k⟩=>by
 unfold eMk at hf
 obtain ⟨⟨cs,ch1⟩,hp,hf1⟩:=bS hf
 clear hf
 obtain ⟨⟨r,ch2⟩,hq,hf⟩:=bS hf1
 clear hf1
 dsimp only at hf
 split at hf<;>first | (cases hf;done) | skip
 split at hf<;>cases hf
 rename_i hlt
 refine has _ _ _ ⟨δ,ch,F,ρ,cs,ch1,en,hp,fun vs F1 H1 ρ1 a1 r1 x dx hx hdx hne=>?_⟩
 have st:Step F1 H1 F1 (upd (upd H1 dx (.own x)) x (.ins C dx [])):=(Step.made a1.gh.fh hdx).trans (Step.made (a1.gh.fh.trans (Same.upd hdx)) (by rw [aF (Ne.symm hne)];exact hx))
 have a2:=Adv.new (o:=.ins c [] []) a1.gh st hx (a1.gh.fh.free hx) ⟨C,dx,[],h1,az,rfl,rfl⟩
 have a12:=a1.trans en.gh a2
 show spG K n g (V.ref x::(vs++[])) _ _ E0
 rw [List.append_nil]
 refine ⟨F1,_,.ref ch1.length::cs,ch1++[.ins c [] []],_,_,a2.gh,hn δ ch _ hp,⟨_,vs,rfl,⟨by simp,?_⟩,r1.mono (Same.refl _) a2.ext (by simp)⟩,hq,fun v F' H' ρ' a3 rv=>⟨?_,?_⟩⟩
 · (try dsimp only)
   rw [if_pos rfl]
 · have rv:Rep K F' .non v:=rv
   simp only [Rep] at rv
   exact rv
 · refine k _ F' H' ρ' (a12.trans en.gh a3) ⟨hlt,?_⟩
   rw [a3.ext ch1.length (by simp)]
   (try dsimp only)
   rw [if_pos rfl]
def vA {c:Str} {k n:Nat} {ps:List Str} {g:Fd} (h:bq sc c=true) (F:OkI X.prog X.w X.K X.mg X.base c k ps (spG X.K n g)) (hr:Room (k+1) X.A) (ha:GA X (e::es) fs) (hn:∀ δ ch p,fs δ ch=some p->p.1.length+1=n) (e1:cW X sc:=by rfl)
  (he:starEach (e::es) X.env=(false,eval e X.env)::starEach es X.env:=by rfl) (hpl:(backTo pos (starEach es X.env)).any (·.1)=false:=by rfl):GE X (.Call (.Name c p) (e::es) [] pos) (eMk c g fs):=by
 obtain ⟨C,g',fd,h1,h2,h3,h4,h5⟩:=F.ex
 exact PE.mono (uN h3 h5 hr (glD h e1) h2 h4 .nil pf ha (lL h) he hpl) (zr h1 hn fun _ _ _ q=>q)
def bR:∀ δ ch p,ar δ ch=some p->p.1.length=0:=fun δ ch p h=>by cases h;rfl
def z8 {f:Fg} {fs:Fgs} {n:Nat} (h:∀ δ ch p,fs δ ch=some p->p.1.length=n):∀ δ ch p,ae f fs δ ch=some p->p.1.length=n+1:=fun δ ch p hp=>by
 unfold ae at hp
 obtain ⟨a,ha,hp⟩:=bS hp
 obtain ⟨b,hb,hp⟩:=mS hp
 cases hp
 simp [h _ _ _ hb]
def kg {fs:Fgs} {n:Nat} (h:∀ δ ch p,fs δ ch=some p->p.1.length=n):∀ δ ch p,fs δ ch=some p->p.1.length+1=n+1:=fun δ ch p hp=>by rw [h δ ch p hp]
end
section
variable {P:Program} {w:World} {K:PySem.W.Frag} {mg:Str->Option Value} {base:Heap}
def gu {x:Str} {st:Stmt} {N ps:List Str} {k n:Nat} {g:Fs} (D:DefF K mg x st ps) (S:FnScope N ps (ac st)) (hn:ps.length=n)
  (hbody:∀ (f:Addr) (cdv:Value) (A:Around) (outer:List Env) (s:Shared) (H:Hp) (E:XK),Room k (A.deeper (envOfC x (ac st) s.heap.objs.size f cdv))->GS (jk CX0 P w K mg base N x (ac st) f cdv A outer s H E).nox (aT st) g) :
  OkF P w K mg base x (k+1) ps (spG K n (dR N.length g)):=by
 obtain ⟨f,fd,h1,h2,h3,h4⟩:=D.ex
 exact ⟨f,fd,h1,h2,h3,me h4 S hn (hbody f)⟩
def dH {c m q:Str} {st:Stmt} {N ps:List Str} {k n:Nat} {g:Fs} (D:DefM K c m q st ps) (S:FnScope N ps (ac st)) (hn:ps.length=n)
  (hbody:∀ (f:Addr) (cdv:Value) (A:Around) (outer:List Env) (s:Shared) (H:Hp) (E:XK),Room k (A.deeper (envOfC q (ac st) s.heap.objs.size f cdv))->GS (jk CX0 P w K mg base N q (ac st) f cdv A outer s H E).nox (aT st) g) :
  OkM P w K mg base c m (k+1) ps (spG K n (dR N.length g)):=by
 obtain ⟨C,f,fd,h1,h2,h3,h4,h5⟩:=D.ex
 exact ⟨C,f,fd,h1,h2,h3,h4,me h5 S hn (hbody f)⟩
def vC {c q:Str} {st:Stmt} {N ps:List Str} {k n:Nat} {g:Fs} (D:DefI K mg c q st ps) (S:FnScope N ps (ac st)) (hn:ps.length=n)
  (hbody:∀ (f:Addr) (cdv:Value) (A:Around) (outer:List Env) (s:Shared) (H:Hp) (E:XK),Room k (A.deeper (envOfC q (ac st) s.heap.objs.size f cdv))->GS (jk CX0 P w K mg base N q (ac st) f cdv A outer s H E).nox (aT st) g) :
  OkI P w K mg base c (k+1) ps (spG K n (dR N.length g)):=by
 obtain ⟨C,f,fd,h1,h2,h3,h4,h5⟩:=D.ex
 exact ⟨C,f,fd,h1,h2,h3,h4,me h5 S hn (hbody f)⟩
end
section
variable {X:Cx} {e a b c o:Expr} {es rest:List Expr} {f fa fb fe:Fg} {fs:Fgs} {ta tb tc:Ft} {pos apos cpos p:Pos} {sc:Scope} {x:Str} {K:PySem.W.Frag} {g:Fs} {body:List Stmt}
end
def mf:typeLookup (.type "list") "keys"=pure none:=by rw [typeLookup_type,builtinLookup_eq_fast];kernel_rfl
def jn:typeLookup (.type "list") "__getattr__"=pure none:=by rw [typeLookup_type,builtinLookup_eq_fast];kernel_rfl
def df:plainId "dict.update.loop"=true:=by decide +kernel
def fU:entryFor table "dict.update.loop"=some Builtin.«dict.update.loop»:=entryFor_of_fast (by kernel_rfl)
section
variable {prog:Program} {w:World} {A:Around} {E:Value->Shared->Prop} {s:Shared} {a:Addr} {its:Array Value} {c:Nat} {sl:Array (Option Value)}
def oB {tk:Tok} {Q:Fin->Shared->Prop} (hx:s.heap.get? a=some {cls:=.type "list",dict:=none,data:=.seq its c,slots:=sl}) (hh:A.handled=none)
  (hE:∀ h' tk e,Heap.NewAttrErr s.heap h' e (.ref a) "keys"->E (.ref e) {s with heap:=h',toks:=tk}) :
  wpAny (model prog w) A (Builtin.«object.__getattribute__» ⟨[.ref a,.str "keys" tk],[]⟩) Q E s:=by
 obtain ⟨h,g,d,t,os⟩:=s
 have hT:(⟨h,g,d,t,os⟩:Shared).TypeIs (.ref a) "list":=⟨_,hx,rfl⟩
 have f4:=mf
 repeat (any_goals (first | assumption | wp_step))
 exact wpAny_raiseAttrError hh hE (attrMsg_fits (by decide +kernel) (by size_fits))
def qT {Q:Option Value->Shared->Prop} (hx:s.heap.get? a=some {cls:=.type "list",dict:=none,data:=.seq its c,slots:=sl}) (hh:A.handled=none)
  (hQ:∀ h' tk,(∀ b ob,s.heap.get? b=some ob->h'.get? b=some ob)->Q none {s with heap:=h',toks:=tk}) :
  wpAny (model prog w) A (getAttr? (.ref a) "keys") Q E s:=by
 obtain ⟨h,g,d,t,os⟩:=s
 have hT:(⟨h,g,d,t,os⟩:Shared).TypeIs (.ref a) "list":=⟨_,hx,rfl⟩
 have f1:=sub_AttributeError
 have f3:=F.slot_list_getattribute.lookup
 have f4:=F.slot_list_getattribute.bind (.ref a)
 have f5:=jn
 unfold getAttr? getAttrBy? getAttrBy
 repeat (any_goals (first | assumption | wp_step))
 refine codeAny_call_builtin F.slot_list_getattribute.plain F.entry_list_ga (F.slot_list_getattribute.check _ _ _ _ _ _ _ _ hT (F.args_list_getattribute_2 _ _) (oB hx hh fun h' tk e hn=>?_))
 obtain ⟨t',u',he⟩:=hn.there
 show wpAny _ _ (getattributeRaised _ _ _ _ _ _ _) _ _ _
 unfold getattributeRaised
 repeat (any_goals (first | assumption | wp_step))
 exact hQ _ _ hn.keeps
end
section
variable {prog:Program} {w:World} {A:Around} {E:Value->Shared->Prop} {s:Shared} {a:Addr} {its:Array Value} {c:Nat} {sl:Array (Option Value)}
end
section
variable {X:Cx} {e o:Expr} {sc:Scope} {p pos:Pos} {fs:De->Option (List Dt)}
end
section
variable {prog:Program} {w:World} {A:Around}
def eQ (kvs:List (Key×Value)):List (Key×Value)->List (Key×Value)
 | []=>kvs
 | p::ps=>eQ (stored kvs p.1 p.2) ps
structure PairsAt (prog:Program) (w:World) (h:Heap) (it D:Addr) (items:Array Value) (ps:List (Key×Value)):Prop where
 len:items.size=ps.length
 at_:∀ (j:Nat) (p:Key×Value),ps[j]?=some p->∃ t key o n,items[j]?=some (.ref t)/\t≠it/\t≠D/\(bp prog w).is p.1 key=true/\h.get? t=some o/\o.cls=.type "tuple"/\o.data=.seq #[key,p.2] n
def PairsAt.keep {h h':Heap} {it D:Addr} {items:Array Value} {ps:List (Key×Value)} (P:PairsAt prog w h it D items ps) (k:∀ b o,b≠it->b≠D->h.get? b=some o->h'.get? b=some o):PairsAt prog w h' it D items ps:=
 ⟨P.len,fun j p hp=>by
  obtain ⟨t,key,o,n,h1,h2,h3,h4,h5,h6,h7⟩:=P.at_ j p hp
  exact ⟨t,key,o,n,h1,h2,h3,h4,k t o h2 h3 h5,h6,h7⟩⟩
def tj {l it D:Addr} {items:Array Value} {ps:List (Key×Value)} {result:Value} (hlD:l≠D) (hli:l≠it) (hiD:it≠D) :
  ∀ (k i:Nat) (A:Around) (s:Shared) (kvs:List (Key×Value)) (R:Result->Shared->Prop),A.handled=none->ps.length-i=k->i<=ps.length->s.heap.IsListIter it l i->s.heap.IsList l items->PairsAt prog w s.heap it D items ps->s.heap.DictOf (bp prog w) D kvs→
   kvs.length+(ps.length-i)<=sizeLine→
   (∀ h' tk,h'.DictOf (bp prog w) D (eQ kvs (ps.drop i))->(∀ b o,b≠it->b≠D->s.heap.get? b=some o->h'.get? b=some o)->R (.ok (.ret result)) {s with heap:=h',toks:=tk})→
   codeAny (model prog w) A (.builtin "dict.update.loop" ⟨[.ref D,.ref it,rawInt i,result],[]⟩) R s:=by
 intro k
 induction k with
 | zero =>
  intro i A s kvs R hh hk hi hit hl hP hD hz hR
  have hin:i=ps.length:=by omega
  subst hin
  refine codeAny_builtin fU ?_
  rw [Around.under_plainId df _]
  unfold Builtin.«dict.update.loop»
  show wpAny _ _ (pyNext (.ref _) >>= _) _ _ _
  refine wpAny_bind (wpAny_pyNext_list_end hh hit hl (by rw [<- hP.len];simp) fun h' eb=>?_)
  refine wB (wpAny_pure (wpAny_pure (hR h' s.toks ?_ fun b o hb _ e=>eb b o hb e)))
  rw [List.drop_length]
  exact hD.extBut eb (Ne.symm hiD)
 | succ k ih =>
  intro i A s kvs R hh hk hi hit hl hP hD hz hR
  have hlt:i<ps.length:=by omega
  obtain ⟨t,key,o,n,h1,h2,h3,h4,h5,h6,h7⟩:=hP.at_ i ps[i] (by simp [hlt])
  refine codeAny_builtin fU ?_
  rw [Around.under_plainId df _]
  unfold Builtin.«dict.update.loop»
  show wpAny _ _ (pyNext (.ref _) >>= _) _ _ _
  refine wB (wpAny_pyNext_list_item hit hl h1 fun h' hit' sb=>?_)
  have h5':h'.get? t=some o:=(sb.2 t h2).trans h5
  have hD':h'.DictOf (bp prog w) D kvs:=hD.sameBut sb (Ne.symm hiD)
  show wpAny _ _ (holding [Value.ref t] _ >>= _) _ _ _
  refine wB (wpAny_holding (wB (wpAny_tryCatch ?_)))
  unfold Builtin.Dict.pairItems
  refine wB (wpAny_typeOf (T:="tuple") ⟨o,h5',h6⟩ ?_)
  rw [if_pos (by decide)]
  refine wB (wpAny_seqItems h5' h7 ?_)
  refine wpAny_pure ?_
  show wpAny _ _ (holding [key,ps[i].2] (dictSet D key ps[i].2)) _ _ _
  refine wpAny_holding (wpAny_dictSet_pairs (hsz:=by omega) h4 hD' fun h'' hD'' sb'=>?_)
  refine wpAny_pure ⟨plainId_quiet df _,?_⟩
  have kp:∀ b o,b≠it->b≠D->s.heap.get? b=some o->h''.get? b=some o:=fun b o hb hb' e=>by
   rw [sb'.2 b hb',sb.2 b hb]
   exact e
  have hl':h''.IsList l items:=by
   obtain ⟨ol,e1,e2⟩:=hl
   exact ⟨ol,kp l ol hli hlD e1,e2⟩
  have hit'':h''.IsListIter it l (i+1):=by
   obtain ⟨oi,e1,e2⟩:=hit'
   exact ⟨oi,by rw [sb'.2 it hiD];exact e1,e2⟩
  refine ih (i+1) _ _ (stored kvs ps[i].1 ps[i].2) R hh (by omega) (by omega) hit'' hl' (hP.keep kp) hD'' ?_ fun h3 tk hD3 kp3=>hR h3 tk ?_ fun b o hb hb' e=>kp3 b o hb hb' (kp b o hb hb' e)
  · have:=stored_length_le kvs ps[i].1 ps[i].2
    omega
  · have:ps.drop i=ps[i]::ps.drop (i+1):=List.drop_eq_getElem_cons hlt
    rw [this]
    exact hD3
variable {E:Value->Shared->Prop} {s:Shared} {a:Addr} {its:Array Value} {c:Nat} {sl:Array (Option Value)}
def kh {Q:Value->Shared->Prop} {ps:List (Key×Value)} (hx:s.heap.get? a=some {cls:=.type "list",dict:=none,data:=.seq its c,slots:=sl}) (hh:A.handled=none) (hl:its.size=ps.length) (hz:ps.length<=sizeLine)
  (hp:∀ (j:Nat) (p:Key×Value),ps[j]?=some p->∃ t key o n,its[j]?=some (.ref t)/\(bp prog w).is p.1 key=true/\s.heap.get? t=some o/\o.cls=.type "tuple"/\o.data=.seq #[key,p.2] n)
  (hQ:∀ h' tk,h'.DictOf (bp prog w) s.heap.objs.size (eQ [] ps)->(∀ b ob,s.heap.get? b=some ob->h'.get? b=some ob)->Q (.ref s.heap.objs.size) {s with heap:=h',toks:=tk}) :
  wpAny (model prog w) A (call (.type "dict") [.ref a]) Q E s:=by
 refine callType_codes (Q₁:=fun obj s₁=>obj=.ref s.heap.objs.size/\s₁={s with heap:=s.heap.push {cls:=.type "dict",data:=.dict #[]}}) F.kt_called_dict (F.kt_typeCall_dict_1 _) F.entry_dict_init (kt_code_dict_new _ ⟨rfl,rfl⟩) ?_
 rintro obj s₁ ⟨rfl,rfl⟩
 have hnew:(s.heap.push {cls:=.type "dict",data:=.dict #[]}).DictOf (bp prog w) s.heap.objs.size []:=Heap.DictOf.new s.heap
 have hx1:(s.heap.push {cls:=.type "dict",data:=.dict #[]}).get? a=some {cls:=.type "list",dict:=none,data:=.seq its c,slots:=sl}:=gP _ hx
 refine ⟨hnew.typeIs,F.args_dict_init_2 _ _,?_⟩
 unfold Builtin.«dict.__init__»
 refine wB ?_
 unfold Builtin.Dict.selfAndRest
 refine wB (wpAny_notOrdered_dict hnew.typeIs ?_)
 show wpAny _ _ (pure (s.heap.objs.size,[Value.ref a])) _ _ _
 refine wpAny_pure ?_
 show wpAny _ _ (Builtin.Dict.updateFrom "dict.__init__" s.heap.objs.size (.ref a) [] .none) _ _ _
 unfold Builtin.Dict.updateFrom
 refine wB (wpAny_typeOf (T:="list") ⟨_,hx1,rfl⟩ ?_)
 rw [if_pos (by decide)]
 refine wB (qT hx1 hh fun h' tk kp=>?_)
 rw [if_pos (by rfl)]
 refine wB (wpAny_rule ?_)
 have hx2:=kp _ _ hx1
 refine wB (wpAny_pyIter_list (items:=its) ⟨_,hx2,rfl,_,rfl⟩ ?_)
 refine wpAny_pure ⟨plainId_quiet df _,?_⟩
 have ha:a<s.heap.objs.size:=Heap.lt_size hx
 obtain ⟨oD,esD,epD,eD,restD⟩:=hnew
 have hD2:s.heap.objs.size<h'.objs.size:=Heap.lt_size (kp _ _ eD)
 refine tj (l:=a) (it:=h'.objs.size) (D:=s.heap.objs.size) (items:=its) (ps:=ps) (Nat.ne_of_lt ha) (Nat.ne_of_lt (Nat.lt_trans ha hD2)) (Ne.symm (Nat.ne_of_lt hD2)) ps.length 0 _ _ [] _ hh (by simp) (Nat.zero_le _) ⟨_,Heap.get?_push_size _ rfl,rfl,rfl⟩ ⟨_,Heap.get?_push_of_some _ hx2,rfl,_,rfl⟩ ⟨hl,fun j p hj=>?_⟩ ⟨oD,esD,epD,Heap.get?_push_of_some _ (kp _ _ eD),restD⟩ (by simpa using hz) fun h3 tk3 hD3 kp3=>⟨rfl,?_⟩
 · obtain ⟨t,key,o,n,h1,h2,h3,h4,h5⟩:=hp j p hj
   have ht:=Heap.lt_size h3
   exact ⟨t,key,o,n,h1,Nat.ne_of_lt (Nat.lt_trans ht hD2),Nat.ne_of_lt ht,h2,gP _ (kp _ _ (gP _ h3)),h4,h5⟩
 · refine hQ h3 tk3 (by simpa using hD3) fun b ob e=>kp3 b ob (Nat.ne_of_lt (Nat.lt_trans (Heap.lt_size e) hD2)) (Nat.ne_of_lt (Heap.lt_size e)) (Heap.get?_push_of_some _ (kp _ _ (Heap.get?_push_of_some _ e)))
end
def cS (kvs:List (Key×V)):List (Key×V)->List (Key×V)
 | []=>kvs
 | p::ps=>cS (bO kvs p.1 p.2) ps
def KV.all:∀ {ps:List (Key×V)} {qs:List (Key×Value)} {kvs:List (Key×V)} {vs:List (Key×Value)},KV ps qs->KV kvs vs->KV (cS kvs ps) (eQ vs qs)
 | [],[],_,_,_,r=>r
 | [],_::_,_,_,h,_=>by cases h
 | _::_,[],_,_,h,_=>by cases h
 | p::ps,q::qs,kvs,vs,h,r=>by
  cases h with
  | cons hp ht =>
   obtain ⟨e,rp⟩:=hp
   have:=KV.all ht (r.put p.1 rp)
   show KV (cS (bO kvs p.1 p.2) ps) (eQ (stored vs q.1 q.2) qs)
   rw [<- e]
   exact this
def gZ:∀ (ps kvs:List (Key×V)),(cS kvs ps).length<=kvs.length+ps.length
 | [],kvs=>by simp [cS]
 | p::ps,kvs=>by
  have h1:=gZ ps (bO kvs p.1 p.2)
  have h2:=dY kvs p.1 p.2
  simp only [cS,List.length_cons]
  omega
section
variable {X:Cx}
noncomputable def zt (K:PySem.W.Frag):List V->Hp->VK->Prop:=fun xs H Q=>∃ (a:Addr) (vs:List V) (ps:List (Key×V)),xs=[.ref a]/\SqL K H a vs/\vs.length=ps.length∧
 (∀ (j:Nat) (p:Key×V),ps[j]?=some p->∃ t,vs[j]?=some (.ref t)/\SqT K H t [kV p.1,p.2])/\∀ p,H p=none->Q (.ref p) (upd H p (.dK (cS [] ps)))
def oC (hc:X.calm=true):CallR X (.type "dict") (zt X.K):=by
 intro pins s σ H xs us Q I r h
 obtain ⟨a,vs,ps,rfl,hq,hl,hp,q⟩:=h
 obtain ⟨u,rfl,rx⟩:=iZ r
 cases rx
 obtain ⟨its,rv,⟨⟨cls,dd,data,sl⟩,n,ho,h1,h2,h3⟩,hz⟩:=I.list hq
 simp only at h1 h2 h3
 subst h1 h2 h3
 -- the values of the pairs
 have ex:∀ (j:Nat) (p:Key×V),ps[j]?=some p->∃ t key u n o,its[j]?=some (.ref t)/\RelV (kV p.1) key/\RelV p.2 u/\s.heap.get? t=some o/\o.cls=.type "tuple"/\o.data=.seq #[key,u] n:=fun j p hj=>by
  obtain ⟨t,ht,hT⟩:=hp j p hj
  obtain ⟨u0,hu0,ru0⟩:=rv.get ht
  obtain rfl:u0=Value.ref t:=ru0
  obtain ⟨ws,rws,⟨o,eo,ec,n,ed⟩,_⟩:=I.tuple hT
  obtain ⟨x,y,rfl,rx,ry⟩:=wD rws
  exact ⟨t,x,y,n,o,hu0,rx,ry,eo,ec,ed⟩
 have exq:∃ qs:List (Key×Value),KV ps qs/\∀ (j:Nat) (p:Key×Value),qs[j]?=some p->∃ t key o n,its[j]?=some (.ref t)/\(bp X.prog X.w).is p.1 key=true/\s.heap.get? t=some o/\o.cls=.type "tuple"/\o.data=.seq #[key,p.2] n:=by
  have key:∀ (ps:List (Key×V)) (its:List Value),(∀ (j:Nat) (p:Key×V),ps[j]?=some p->∃ t key u n o,its[j]?=some (.ref t)/\RelV (kV p.1) key/\RelV p.2 u/\s.heap.get? t=some o/\o.cls=.type "tuple"/\o.data=.seq #[key,u] n)→
      ∃ qs:List (Key×Value),KV ps qs/\∀ (j:Nat) (p:Key×Value),qs[j]?=some p->∃ t key o n,its[j]?=some (.ref t)/\(bp X.prog X.w).is p.1 key=true/\s.heap.get? t=some o/\o.cls=.type "tuple"/\o.data=.seq #[key,p.2] n:=fun ps=>by
   induction ps with
   | nil=>exact fun its _=>⟨[],.nil,fun j p h=>by simp at h⟩
   | cons p ps ih =>
    intro its h
    obtain ⟨t,k,u,n,o,e1,e2,e3,e4,e5,e6⟩:=h 0 p rfl
    cases its with
    | nil=>simp at e1
    | cons v its =>
     obtain ⟨qs,r1,r2⟩:=ih its fun j p hj=>h (j+1) p (by simpa using hj)
     refine ⟨(p.1,u)::qs,.cons ⟨rfl,e3⟩ r1,fun j q hj=>?_⟩
     cases j with
     | zero =>
      simp at hj
      subst hj
      exact ⟨t,k,o,n,by simpa using e1,pe e2,e4,e5,e6⟩
     | succ j=>simpa using r2 j q (by simpa using hj)
  exact key ps its ex
 obtain ⟨qs,rq,hq2⟩:=exq
 have hlen:its.length=qs.length:=by rw [<- rv.length,hl];exact rq.length
 have hzz:qs.length<=sizeLine:=by rw [<- hlen,<- rv.length];exact hz
 refine kh ho (I.ok.hd hc) (by simpa using hlen) hzz (fun j p hj=>by
  obtain ⟨t,key,o,n,e1,e2⟩:=hq2 j p hj
  exact ⟨t,key,o,n,by simpa using e1,e2⟩) fun h' tk hD kp=>⟨.ref s.heap.objs.size,_,I.laid (a:=s.heap.objs.size) (o:=.dK (cS [] ps)) (t':=tk) kp (Nat.le_refl _) ?_,rfl,q _ (I.hok.fresh (Nat.le_refl _))⟩
 refine sf ?_ (beq_eq_false_iff_ne.mpr (Ne.symm (Nat.ne_of_lt I.big))) (KV.all rq .nil) hD
 have:=gZ ps []
 have:=rq.length
 simp at*
 omega
end
def mh {kvs:List (Key×V)} {k:Key} (h:k∉kvs.map (·.1)):dU kvs k=none:=by
 cases q:dU kvs k with
 | none=>rfl
 | some v=>exact absurd (uV q) h
def g0:∀ {ps kvs:List (Key×V)},((kvs++ps).map (·.1)).Nodup->cS kvs ps=kvs++ps
 | [],kvs,_=>by simp [cS]
 | p::ps,kvs,h=>by
  have hk:p.1∉kvs.map (·.1):=fun z=>by
   rw [List.map_append] at h
   exact (List.nodup_append.mp h).2.2 p.1 z p.1 (by simp) rfl
  simp only [cS]
  rw [r6 _ (mh hk),g0 (by simpa using h)]
  simp
def kZ (ch:CH):CV->Option (Key×CV)
 | .dat (.tup [k,d])=>(iN k).map fun k=>(k,.dat d)
 | .ref j=>match ch[j]? with
  | some (.tup [.dat k,c])=>(iN k).map fun k=>(k,c)
  | _=>none
 | _=>none
def fA (ch:CH):List CV->Option (List (Key×CV))
 | []=>some []
 | c::l=>(kZ ch c).bind fun p=>(fA ch l).map (p::·)
section
variable {K:PySem.W.Frag} {F H:Hp} {ρ:Nat->Addr} {ch:CH}
def tm (g:Gh K F H ρ ch) {c:CV} {v:V} {p:Key×CV} (h:kZ ch c=some p) (r:RelC K F ρ ch.length c v):∃ t u,v=.ref t/\SqT K H t [kV p.1,u]/\RelC K F ρ ch.length p.2 u:=by
 unfold kZ at h
 split at h
 · rename_i k d
   obtain ⟨kk,hk,rfl⟩:=mS h
   have r:Rep K F (.tup [k,d]) v:=r
   simp only [Rep,Reps] at r
   obtain ⟨t,vs,rfl,h1,x,ws,rfl,rx,y,ws',rfl,ry,rfl⟩:=r
   have:=eJ hk rx
   subst this
   exact ⟨t,y,rfl,g.fh.tup h1,ry⟩
 · rename_i j
   split at h<;>first | (cases h;done) | skip
   rename_i k c' hj
   obtain ⟨kk,hk,rfl⟩:=mS h
   obtain ⟨vs,h1,x,ws,e,rx,y,ws',e',ry,e''⟩:=g.ok j _ hj
   subst e'
   subst e
   have e'':ws'=[]:=e''
   subst e''
   have:=eJ hk rx
   subst this
   exact ⟨_,y,r.2,SqT.of h1,ry⟩
 · cases h
def lb (g:Gh K F H ρ ch):∀ {l:List CV} {vs:List V} {ps:List (Key×CV)},fA ch l=some ps->RelCs K F ρ ch.length l vs->∃ qs:List (Key×V),vs.length=qs.length/\qs.map (·.1)=ps.map (·.1)/\RelCs K F ρ ch.length (ps.map (·.2)) (qs.map (·.2))/\∀ (j:Nat) (q:Key×V),qs[j]?=some q->∃ t,vs[j]?=some (.ref t)/\SqT K H t [kV q.1,q.2]
 | [],vs,ps,h,r=>by
  cases h
  have r:vs=[]:=r
  subst r
  exact ⟨[],rfl,rfl,rfl,fun j q hq=>by simp at hq⟩
 | c::l,vs,ps,h,r=>by
  simp only [fA] at h
  obtain ⟨p,hp,h⟩:=bS h
  obtain ⟨ps',hps,rfl⟩:=mS h
  obtain ⟨v,ws,rfl,r1,r2⟩:=r
  obtain ⟨t,u,rfl,h1,h2⟩:=tm g hp r1
  obtain ⟨qs,q1,q2,q3,q4⟩:=lb g hps r2
  refine ⟨(p.1,u)::qs,by simp [q1],by simp [q2],⟨u,_,rfl,h2,q3⟩,fun j q hq=>?_⟩
  cases j with
  | zero =>
   simp at hq
   subst hq
   exact ⟨t,rfl,h1⟩
  | succ j=>simpa using q4 j q (by simpa using hq)
end
section
variable {X:Cx} {e a b o:Expr} {es:List Expr} {f fa fb fc fe:Fg} {fs:Fgs} {pos apos cpos p:Pos} {sc:Scope} {x:Str} {K:PySem.W.Frag}
noncomputable def iz (fa:Fg):Fg:=fun δ ch=>(fa δ ch).bind fun p=>match p.1 with
 | .ref i=>match p.2[i]? with
  | some (.lst l)=>(fA p.2 l).bind fun ps=>if (ps.map (·.1)).Nodup then some (.ref p.2.length,p.2++[.dK ps]) else none
  | _=>none
 | _=>none
def pV (h:bq sc "dict"=true) (hc:X.calm=true) (hm:X.mg "dict"=none) (hv:bootBuiltins "dict"=some (.type "dict")) (ha:GE X a fa) (e1:cW X sc:=by rfl)
  (he:starEach [a] X.env=(false,eval a X.env)::starEach [] X.env:=by rfl) (hpl:(backTo pos (starEach [] X.env)).any (·.1)=false:=by rfl):GE X (.Call (.Name "dict" p) [a] [] pos) (iz fa):=
 PE.mono (gK h (oC hc) hm hv (dX ha fM he) e1 he hpl) fun σ H Q ⟨δ,ch,F,ρ,c,ch',en,hf,k⟩=>by
  unfold iz at hf
  obtain ⟨⟨c1,ch1⟩,hp,hf1⟩:=bS hf
  clear hf
  dsimp only at hf1
  split at hf1<;>first | (cases hf1;done) | skip
  rename_i i
  split at hf1<;>first | (cases hf1;done) | skip
  rename_i l hl
  obtain ⟨ps,hps,hf2⟩:=bS hf1
  split at hf2<;>first | (cases hf2;done) | skip
  rename_i nd
  cases hf2
  refine ⟨δ,ch,F,ρ,_,ch1,en,hp,fun v F1 H1 ρ1 a1 r1=>?_⟩
  obtain ⟨vs,h1,h2⟩:=a1.gh.ok i _ hl
  obtain ⟨qs,q1,q2,q3,q4⟩:=lb a1.gh hps h2
  refine ⟨_,vs,qs,by rw [r1.2],SqL.of h1,q1,q4,fun q hq=>?_⟩
  have e:cS [] qs=qs:=by rw [g0 (by simpa [q2] using nd)];simp
  rw [e]
  refine k (.ref q) F1 _ _ (a1.trans en.gh (gY (o:=.dK ps) a1.gh hq ⟨qs,az,q2,q3⟩)) ⟨by simp,?_⟩
  dsimp only
  rw [if_pos rfl]
noncomputable def tp (fa fb:Fg):Fg:=fun δ ch=>(fa δ ch).bind fun p=>(fb δ p.2).bind fun q=>match p.1,q.1 with
 | .ref i,.dat (.int k)=>match q.2[i]? with
  | some (.lst l)=>if 0<=k/\k<=1000000/\l.length*k.toNat<=sizeLine then some (.ref q.2.length,q.2++[.lst (List.replicate k.toNat l).flatten]) else none
  | _=>none
 | _,_=>none
def lc {F:Hp} {ρ:Nat->Addr} {n:Nat} {l:List CV} {vs:List V} (r:RelCs K F ρ n l vs):∀ k:Nat,RelCs K F ρ n (List.replicate k l).flatten (List.replicate k vs).flatten
 | 0=>rfl
 | k+1=>by
  rw [List.replicate_succ,List.replicate_succ,List.flatten_cons,List.flatten_cons]
  exact r.append (lc r k)
def yk (ha:GE X a fa) (hb:GE X b fb):GE X (.BinOp a .Mult b pos) (tp fa fb):=PE.mono (oZ xO ha hb) fun σ H Q ⟨δ,ch,F,ρ,c,ch',en,hf,kk⟩=>by
 unfold tp at hf
 obtain ⟨⟨c1,ch1⟩,hp,hf1⟩:=bS hf
 clear hf
 obtain ⟨⟨c2,ch2⟩,hq,hf2⟩:=bS hf1
 clear hf1
 dsimp only at hq hf2
 split at hf2<;>first | (cases hf2;done) | skip
 rename_i i k
 split at hf2<;>first | (cases hf2;done) | skip
 rename_i l hl
 split at hf2<;>first | (cases hf2;done) | skip
 rename_i hz
 cases hf2
 refine ⟨δ,ch,F,ρ,_,ch1,en,hp,fun v F1 H1 ρ1 a1 r1=>⟨δ,ch1,F1,ρ1,_,ch2,en.adv a1,hq,fun w F2 H2 ρ2 a2 r2=>?_⟩⟩
 obtain ⟨vs,h1,h2⟩:=a2.gh.ok i _ hl
 have r2:Rep X.K F2 (.int k) w:=r2
 simp only [Rep] at r2
 refine ⟨_,k,vs,(r1.mono a2.old a2.ext a2.len).2,r2,h1,by omega,by omega,by rw [h2.length];exact hz.2.2,fun q hq2=>?_⟩
 refine kk (.ref q) F2 _ _ ((a1.trans en.gh a2).trans en.gh (gY (o:=.lst (List.replicate k.toNat l).flatten) a2.gh hq2 ⟨_,az,lc h2 _⟩)) ⟨by simp,?_⟩
 dsimp only
 rw [if_pos rfl]
end
section
variable {X:Cx} {e a b o value:Expr} {es:List Expr} {f fa fb fc fe fk:Fg} {fs:Fgs} {pos apos cpos tpos p:Pos} {sc:Scope} {x:Str} {K:PySem.W.Frag}
end
def gC (src:List (Option Nat)) (δ:Sl):Sl:=src.map fun o=>o.bind fun j=>(δ[j]?).join
noncomputable def fJ (ts:List Nat) (bb:Dt->De->Option De) (ft:De->Option Bool) (fe:Fg) (δ:Sl):List Dt->CH->Option (List CV×CH)
 | [],ch=>some ([],ch)
 | d::r,ch=>(bb d (lo δ ch)).bind fun δ1=>(ft (lo (mgS ts δ δ1) ch)).bind fun b=>if b then (fe (mgS ts δ δ1) ch).bind fun p=>(fJ ts bb ft fe δ r p.2).map fun q=>(p.1::q.1,q.2) else fJ ts bb ft fe δ r ch
noncomputable def gE (src:List (Option Nat)) (fi:De->Option (List Dt)) (ts:List Nat) (bb:Dt->De->Option De) (ft:De->Option Bool) (fe:Fg):Fg:=fun δ ch =>
 (fi (lo δ ch)).bind fun ds=>(fJ ts bb ft fe (gC src δ) ds ch).bind fun p=>if p.1.length<=sizeLine then some (.ref p.2.length,p.2++[.lst p.1]) else none
section
variable {K:PySem.W.Frag} {F H F' H' F1 H1:Hp} {ρ ρ' ρ1:Nat->Addr} {ch ch' ch1:CH} {src:List (Option Nat)} {δ:Sl} {σ:St}
def yl {k:Nat} {c:CV} (h:(gC src δ)[k]?=some (some c)):∃ j,src[k]?=some (some j)/\δ[j]?=some (some c):=by
 unfold gC at h
 rw [List.getElem?_map] at h
 cases e:src[k]? with
 | none=>rw [e] at h;cases h
 | some o =>
  rw [e] at h
  cases o with
  | none=>cases h
  | some j =>
   simp only [Option.map_some,Option.bind_some,Option.some.injEq] at h
   refine ⟨j,rfl,?_⟩
   cases q:δ[j]? with
   | none=>rw [q] at h;cases h
   | some u=>rw [q] at h;simp only [Option.join_some] at h;rw [h]
def Ge.comp (en:Ge K δ ch σ F H ρ):Ge K (gC src δ) ch (stC src σ) F H ρ:=⟨en.gh,by simp [gC,stC],fun k c h=>by
 obtain ⟨j,h1,h2⟩:=yl h
 obtain ⟨v,h3,h4⟩:=en.has j c h2
 exact ⟨v,pI h1 h3,h4⟩⟩
structure Bd (K:PySem.W.Frag) (F1 H1:Hp) (ρ1:Nat->Addr) (ch1:CH) (D:Addr) (F H:Hp) (ρ:Nat->Addr) (ch:CH) (done:List CV) (ys:List V):Prop where
 adv:Adv K F1 H1 ρ1 ch1 F H ρ ch
 hD:H D=some (.lst ys)
 fD:F D=none
 nD:∀ i,i<ch.length->ρ i≠D
 rel:RelCs K F ρ ch.length done ys
variable {D:Addr} {done:List CV} {ys:List V}
def Bd.step (g1:Gh K F1 H1 ρ1 ch1) (b:Bd K F1 H1 ρ1 ch1 D F H ρ ch done ys) (a:Adv K F H ρ ch F' H' ρ' ch'):Bd K F1 H1 ρ1 ch1 D F' H' ρ' ch' done ys where
 adv:=b.adv.trans g1 a
 hD:=a.prot D _ b.hD fun i hi=>b.nD i hi
 fD:=by
  cases q:F' D with
  | none=>rfl
  | some o =>
   rcases a.nw D o q with z | z | ⟨xs,z⟩
   · rw [b.fD] at z;cases z
   · rw [b.hD] at z;cases z
   · subst z
     have z1:=a.gh.fh _ _ q
     rw [a.prot D _ b.hD fun i hi=>b.nD i hi] at z1
     cases z1
 nD:=fun i hi e=>by
  by_cases h:i<ch.length
  · rw [a.ext i h] at e
    exact b.nD i h e
  · have:=a.fr i (Nat.not_lt.mp h) hi
    rw [e,b.hD] at this
    cases this
 rel:=b.rel.mono a.old a.ext a.len
def Bd.more (hD1:H1 D=none) (b:Bd K F1 H1 ρ1 ch1 D F H ρ ch done ys) {c:CV} {v:V} (r:RelC K F ρ ch.length c v):Bd K F1 H1 ρ1 ch1 D F (upd H D (.lst (ys++[v]))) ρ ch (done++[c]) (ys++[v]) where
 adv:=⟨⟨fun x o e=>by
     have:x≠D:=fun z=>by rw [z,b.fD] at e;cases e
     rw [aF this]
     exact b.adv.gh.fh x o e,b.adv.gh.inj,b.adv.gh.out,fun i o h=>(b.adv.gh.ok i o h).mono (Same.refl _) (fun _ _=>rfl) (nL _) fun u hu=>by
     rw [aF (b.nD i (gX h).1)]
     exact hu⟩,b.adv.len,b.adv.ext,b.adv.fr,fun x o h1 h2=>by
     have:x≠D:=fun z=>by rw [z,hD1] at h1;cases h1
     rw [aF this]
     exact b.adv.prot x o h1 h2,b.adv.old,b.adv.nw,fun x o u h=>by
     have:x≠D:=fun z=>by rw [z,hD1] at h;cases h
     rw [aF this]
     exact b.adv.fz x o u h⟩
 hD:=az
 fD:=b.fD
 nD:=b.nD
 rel:=b.rel.append (RelCs.one r)
def Bd.fin (hD1:H1 D=none) (b:Bd K F1 H1 ρ1 ch1 D F H ρ ch done ys):Adv K F1 H1 ρ1 ch1 F H (fun i=>if i=ch.length then D else ρ i) (ch++[.lst done]):=by
 have lt:∀ {i:Nat},i<ch.length->(if i=ch.length then D else ρ i)=ρ i:=fun {i} hi=>if_neg (Nat.ne_of_lt hi)
 have g:=b.adv.gh
 refine ⟨⟨g.fh,fun i j hi hj e=>?_,fun i hi=>?_,fun i x hx=>?_⟩,by have:=b.adv.len;simp;omega,fun i hi=>?_,fun i h1 h2=>?_,b.adv.prot,b.adv.old,b.adv.nw,b.adv.fz⟩
 · simp only [List.length_append,List.length_cons,List.length_nil] at hi hj
   by_cases h1:i=ch.length<;>by_cases h2:j=ch.length
   · rw [h1,h2]
   · rw [if_pos h1,if_neg h2] at e
     exact absurd e.symm (b.nD j (by omega))
   · rw [if_neg h1,if_pos h2] at e
     exact absurd e (b.nD i (by omega))
   · rw [if_neg h1,if_neg h2] at e
     exact g.inj i j (by omega) (by omega) e
 · simp only [List.length_append,List.length_cons,List.length_nil] at hi
   by_cases h1:i=ch.length
   · rw [if_pos h1];exact .inl b.fD
   · rw [if_neg h1];exact g.out i (by omega)
 · simp only [List.length_append,List.length_cons,List.length_nil]
   by_cases h1:i<ch.length
   · rw [gL h1] at hx
     rw [lt h1]
     exact (g.ok i x hx).mono (Same.refl _) (fun j hj=>lt hj) (Nat.le_succ _) fun u hu=>hu
   · rw [gR (Nat.not_lt.mp h1)] at hx
     have h2:i=ch.length:=by
      have:=(gX hx).1
      simp at this
      omega
     subst h2
     simp at hx
     subst hx
     rw [if_pos rfl]
     exact ⟨ys,b.hD,b.rel.mono (Same.refl _) (fun j hj=>lt hj) (Nat.le_succ _)⟩
 · rw [lt (Nat.lt_of_lt_of_le hi b.adv.len)]
   exact b.adv.ext i hi
 · simp only [List.length_append,List.length_cons,List.length_nil] at h2
   by_cases h3:i=ch.length
   · rw [if_pos h3];exact hD1
   · rw [if_neg h3];exact b.adv.fr i h1 (by omega)
end
section
variable {X:Cx} {elt tg iter:Expr} {ifs:List Expr} {scope:Scope} {pos:Pos} {M:List Str} {src:List (Option Nat)} {fi:De->Option (List Dt)} {ft:De->Option Bool} {fe:Fg}
def tq {ts:List Nat} {bb:Dt->De->Option De} (hts:(ts.all fun k=>decide (src[k]?=some none))=true):∀ (σ:St) (H:Hp) (Q:VK),tG X.K (gE src fi ts bb ft fe) σ H Q->kF src (tIF X.K fi) (gD X.K ts bb) (tTr X.K ft) (tG X.K fe) σ H Q:=fun σ H Q ⟨δ,ch,F,ρ,c,ch',en,hf,k⟩=>by
 unfold gE at hf
 obtain ⟨ds,hd,hf1⟩:=bS hf
 obtain ⟨⟨all,ch2⟩,ha,hf2⟩:=bS hf1
 clear hf hf1
 split at hf2<;>first | (cases hf2;done) | skip
 rename_i hz
 cases hf2
 have hz:all.length<=sizeLine:=hz
 rw [mO]
 refine ⟨_,_,F,ds,rfl,en.en,hd,fun J ok H1 F1 st1 wd ho D hD=>?_⟩
 have a1:=Adv.of en.gh st1
 have en1:=en.adv a1
 have k1:=k.adv en.gh a1
 have wk:∀ {σ2:St},σ2.length=(stC src σ).length->(∀ j,j∉ts->σ2[j]?=(stC src σ)[j]?)->Wk (stC src σ) σ2:=fun {σ2} h1 h2=>by
  refine ⟨h1.symm,fun j v hj=>?_⟩
  by_cases hm:j∈ts
  · have:=List.all_eq_true.mp hts j hm
    have hn:src[j]?=some none:=of_decide_eq_true this
    obtain ⟨i,e,_⟩:=n8 hj
    rw [hn] at e
    cases e
  · rw [h2 j hm]
    exact hj
 refine kN (n:=ds.length) (fun i H=>∃ F ρ' c' ys done rest',Bd X.K F1 H1 ρ ch D F H ρ' c' done ys/\fJ ts bb ft fe (gC src δ) (ds.drop i) c'=some (rest',ch2)/\done++rest'=all) ?_ ?_ ?_ ?_
 · refine ⟨F1,ρ,ch,[],[],all,⟨Adv.of en1.gh (Step.made en1.gh.fh hD),az,en1.gh.fh.free hD,fun i hi e=>?_,rfl⟩,by simpa using ha,rfl⟩
   obtain ⟨u,hu⟩:=en1.gh.at hi
   rw [e,hD] at hu
   cases hu
 · rintro i H' ⟨F',ρ',c',ys,done,rest',b,_⟩
   obtain ⟨p1,p2,_⟩:=wd i H' F' (ho H' (b.adv.old.trans b.adv.gh.fh)) b.adv.gh.fh b.adv.old
   exact ⟨p1,p2⟩
 · rintro i x H0' H' hi ⟨F0',ρ0,c0,ys,done,rest',b0,hgo,hall⟩ hy0
   obtain ⟨_,_,p3⟩:=wd i H0' F0' (ho H0' (b0.adv.old.trans b0.adv.gh.fh)) b0.adv.gh.fh b0.adv.old
   obtain ⟨d,F',hd',stw,rd⟩:=p3 x H' hi hy0
   have b1:=b0.step en1.gh (Adv.of b0.adv.gh stw)
   have en2:=(en1.adv b1.adv).comp (src:=src)
   rw [gj hd'] at hgo
   unfold fJ at hgo
   obtain ⟨δ1,h1,hgo1⟩:=bS hgo
   obtain ⟨bo,h2,hgo2⟩:=bS hgo1
   clear hgo hgo1
   refine ⟨_,_,F',d,δ1,rfl,en2.en,rd,h1,fun σ2 l2 k2 e2=>⟨wk l2 k2,?_⟩⟩
   have en3:=en2.mg rfl l2 k2 e2
   refine ⟨_,_,F',bo,rfl,en3.en,h2,fun H3 F3 st3=>?_⟩
   have b3:=b1.step en1.gh (Adv.of b1.adv.gh st3)
   have en4:=en3.adv (Adv.of b1.adv.gh st3)
   dsimp only
   split at hgo2
   · rename_i q
     rw [if_pos q]
     obtain ⟨⟨y,c4⟩,hy,hgo3⟩:=bS hgo2
     obtain ⟨⟨zs,c5⟩,hzs,hgo4⟩:=mS hgo3
     cases hgo4
     refine ⟨_,_,F3,ρ0,y,c4,en4,hy,fun v F4 H4 ρ4 a4 rv=>?_⟩
     have b4:=b3.step en1.gh a4
     refine ⟨ys,b4.hD,?_,F4,ρ4,c4,ys++[v],done++[y],zs,b4.more hD rv,hzs,by rw [<- hall];simp⟩
     have e1:=b4.rel.length
     have e2:all.length=done.length+(zs.length+1):=by rw [<- hall];simp
     omega
   · rename_i q
     rw [if_neg q]
     exact ⟨F3,ρ0,c0,ys,done,rest',b3,hgo2,hall⟩
 · rintro H' ⟨F',ρ',c',ys,done,rest',b,hgo,hall⟩
   rw [List.drop_length] at hgo
   cases hgo
   rw [List.append_nil] at hall
   subst hall
   refine k1 (.ref D) F' H' _ (b.fin hD) ⟨by simp,?_⟩
   dsimp only
   rw [if_pos rfl]
def pW {ts:List Nat} {bb:Dt->De->Option De} (S:CmpScope X.N X.env.scope scope M src) (hc:X.calm=true) (hi:DIF X tg iter fi) (hg:M.Nodup->∀ C s H ex,DG (cxC X M scope C s H ex) tg ts bb)
  (ht:∀ C s H ex,DTs (cxC X M scope C s H ex) ifs ft) (he:∀ C s H ex,GE (cxC X M scope C s H ex) elt fe) (hts:(ts.all fun k=>decide (src[k]?=some none))=true) (hs:∀ x,foldedSetIterable iter X.env x=pure x:=by intro _;rfl) :
  GE X (.ListComp elt [⟨tg,iter,ifs,0⟩] scope pos) (gE src fi ts bb ft fe):=PE.mono (mN (g:=gD X.K ts bb) (tt:=tTr X.K ft) (te:=tG X.K fe) S hc hi (fun nd C s H ex=>hg nd C s H ex) (fun C s H ex=>ht C s H ex) (fun C s H ex=>he C s H ex) hs) (tq hts)
end
def m8:Key->Dt
 | .inl i=>.int i
 | .inr x=>.str x
def vD {K:PySem.W.Frag} {F:Hp} (k:Key):Rep K F (m8 k) (kV k):=by
 cases k with
 | inl i=>exact gi
 | inr x=>exact jt
section
variable {K:PySem.W.Frag} {F H F' H' F1 H1:Hp} {ρ ρ' ρ1:Nat->Addr} {ch ch' ch1:CH} {i:Nat} {l:List (Key×CV)} {kvs:List (Key×V)} {ob:Obj}
end
section
variable {X:Cx} {tg d:Expr} {body:List Stmt} {fd:Fg} {g:Fs} {pos:Pos}
end
section
variable {X:Cx} {pos:Pos} {σ:St} {δ:Sl}
end
section
variable {X:Cx} {o:Expr} {fa:Fg} {pos apos cpos:Pos}
end
def iA:List Dt->Option T
 | [.int i,.int j]=>some (.leaf (.int (if j<i then j else i)))
 | _=>none
def rMin:List V->Hp->VK->Prop:=fun xs H Q=>∃ i j,xs=[.int i,.int j]/\Q (.int (if j<i then j else i)) H
def iQ {X:Cx} (hc:X.calm=true):CallR X (.builtin "min") rMin:=qy hc
def tu {K:PySem.W.Frag}:CRD K rMin iA:=by
 intro F H ds vs Q t fh r hg k
 unfold iA at hg
 split at hg<;>first | (cases hg;done) | skip
 cases hg
 obtain ⟨v,ws,rfl,r1,w,ws',rfl,r2,r3⟩:=r
 cases r1
 cases r2
 have r3:ws'=[]:=r3
 subst r3
 exact ⟨_,_,rfl,k.int fh⟩
section
variable {X:Cx} {elt tg iter:Expr} {ifs:List Expr} {scope:Scope} {pos:Pos} {M:List Str} {src:List (Option Nat)} {fi:De->Option (List Dt)} {ft:De->Option Bool} {fe:De->Option Dt} {fg:Fg} {i:Nat}
def tw {sc:Scope} {N:List Str} {y:Str} {py spos:Pos} {ts:List Nat} {bb:Dt->De->Option De} (h:eg sc N i y=true) (hl:jm sc y=true) (nd:N.Nodup) (S:CmpScope X.N X.env.scope scope M src) (hc:X.calm=true) (hi:DIB X tg iter fi) (hg:M.Nodup->∀ C s H ex,DG (cxC X M scope C s H ex) tg ts bb)
  (ht:∀ C s H ex,DTs (cxC X M scope C s H ex) ifs ft) (he:∀ C s H ex,DL (cxC X M scope C s H ex) elt fe) (hts:(ts.all fun k=>decide (src[k]?=some none))=true) (hs:∀ x,foldedSetIterable iter X.env x=pure x:=by intro _;rfl)
  (e1:cW X sc:=by rfl) (e2:X.N=N:=by rfl) (hf:X.fn y=true∨X.env.scope.names.lookup y=some .local:=by exact .inl rfl) (hsw:swapsWith (.ListComp elt [⟨tg,iter,ifs,0⟩] scope pos) (some (.Name y py)) spos.line X.env=pure true:=by rfl) :
  GS1 X (.Assign [.Name y py] (.ListComp elt [⟨tg,iter,ifs,0⟩] scope pos) spos) (bG i (eD (toD (ck src fi bb ft fe)))):=by
 have e1:X.env.scope=sc:=e1
 subst e1 e2
 refine PS.mono (lW (g:=gD X.K ts bb) (tt:=tTr X.K ft) (te:=tL X.K fe) nd (gJ h) (jN hl) hf S hc hi (fun nd C s H ex=>hg nd C s H ex) (fun C s H ex=>ht C s H ex) (fun C s H ex=>he C s H ex) hs hsw) fun D σ H ⟨δ,ch,F,ρ,o,en,hf',k⟩=>?_
 unfold bG eD at hf'
 obtain ⟨p,hp,hf1⟩:=mS hf'
 cases hf1
 obtain ⟨d,hd,hp1⟩:=mS hp
 cases hp1
 refine ju S hts σ H _ (sU ⟨_,_,F,.leaf d,rfl,en.en,by unfold toT;rw [hd];rfl,fun v H' F' Z st o hs=>?_⟩)
 have r:RelC X.K F' ρ ch.length (.dat d) v:=o
 exact k _ F' H' ρ (Adv.of en.gh st) ((en.adv (Adv.of en.gh st)).put r i)
end
def hG:Option Og->Option (CV×CH)
 | some (.rt c ch')=>some (c,ch')
 | some (.nx _ ch')=>some (.dat .non,ch')
 | _=>none
def cc {m:Nat} {g:Fs} {cs:List CV} {ch:CH}:dR m g cs ch=hG (g (cs.map some++List.replicate (m-cs.length) none) ch):=rfl
def wZ (o:Option Og) (g:Fs):Option Og:=o.bind fun o=>match o with
 | .nx δ' ch'=>g δ' ch'
 | o=>some o
def aI {g1 g2:Fs} {δ:Sl} {ch:CH}:aN g1 g2 δ ch=wZ (g1 δ ch) g2:=rfl
def aA {g:Fs} {δ:Sl} {ch:CH}:wZ (some (.nx δ ch)) g=g δ ch:=rfl
def pX {α:Type} (b:Option (Bool×CH)) (f g:Sl->CH->Option α) (δ:Sl):Option α:=b.bind fun p=>if p.1 then f δ p.2 else g δ p.2
def fB {c:Ft} {g1 g2:Fs} {δ:Sl} {ch:CH}:dW c g1 g2 δ ch=pX (c δ ch) g1 g2 δ:=rfl
def vE {α:Type} {f g:Sl->CH->Option α} {δ:Sl} {ch:CH}:pX (some (false,ch)) f g δ=g δ ch:=rfl
def d5 {α:Type} {f g:Sl->CH->Option α} {δ:Sl} {ch:CH} {b:Bool} (h:b=true):pX (some (b,ch)) f g δ=f δ ch:=by subst h;rfl
def d6 {α:Type} {f g:Sl->CH->Option α} {δ:Sl} {ch:CH} {b:Bool} (h:b=false):pX (some (b,ch)) f g δ=g δ ch:=by subst h;rfl
def iR {f:Fg} {δ:Sl} {ch:CH} {b:Bool} {ch':CH} (h:f δ ch=some (.dat (.bl b),ch')):fK f δ ch=some (b,ch'):=by unfold fK;rw [h];rfl
def jX {δ:Sl} {ch:CH} {i:Nat} {d:Dt} (h:δ[i]?=some (some (.dat d))):(lo δ ch)[i]?=some (some (.leaf d)):=by
 have key:∀ (δ:Sl) (u:List Nat) (i:Nat),δ[i]?=some (some (.dat d))->(loA ch u δ)[i]?=some (some (.leaf d)):=fun δ=>by
  induction δ with
  | nil=>intro u i h;simp at h
  | cons x r ih =>
   intro u i h
   cases i with
   | zero =>
    simp only [List.getElem?_cons_zero,Option.some.injEq] at h
    subst h
    rfl
   | succ i =>
    have h':r[i]?=some (some (.dat d)):=by simpa using h
    cases x with
    | none=>simpa [loA] using ih u i h'
    | some c=>cases c with
     | dat e=>simpa [loA] using ih u i h'
     | ref j=>simpa [loA] using ih (j::u) i h'
 exact key δ [] i h
def bz {δ:Sl} {ch:CH} {i:Nat} {d:Dt} (h:δ[i]?=some (some (.dat d))):vL i (lo δ ch)=some d:=by unfold vL;rw [jX h]
def bL {δ:Sl} {ch:CH} {i:Nat} {d:Dt} (h:δ[i]?=some (some (.dat d))):vB i (lo δ ch)=some d:=by unfold vB;rw [jX h];rfl
def tz {α:Type} {l:List α} {i:Nat} {a:α} (h:l[i]?=some a):l.set i a=l:=by
 apply List.ext_getElem?
 intro j
 rw [List.getElem?_set]
 split
 · rename_i e
   subst e
   have:=(gX h).1
   rw [if_pos this]
   exact h.symm
 · rfl
def bf {ch:CH} {o:CO}:(ch++[o])[ch.length]?=some o:=by simp
section
variable {X:Cx}
def zu (K:PySem.W.Frag) (n:Nat) (t:TGs):TG:=fun v σ H Q=>∃ a xs,v=.ref a/\SqL K H a xs/\xs.length=n/\t xs σ H Q
def ym {es:List Expr} {k:Nat} {t:TGs} {n:Nat} {pos:Pos} (hc:X.calm=true) (h:PGs X es t)
  (hn:(assignEach es X.env).length=n:=by rfl) (hst:(assignEach es X.env).findIdx? (·.1)=none:=by rfl):PG X (.Tuple es k pos) (zu X.K n t):=by
 intro pins s σ H v u Q I r hw
 obtain ⟨a,xs,e1,hq,hl,hw⟩:=hw
 subst e1
 cases r
 obtain ⟨its,rv,ht,hz⟩:=I.list hq
 rw [assign_Tuple]
 refine wB (wpAny_standAt ?_)
 unfold unpack
 rw [show (assignEach es X.env).length=its.toArray.size by simp [hn,<- hl,rv.length],hst]
 refine wB (wpAny_holding (PySem.W.kun_itemsOf (I.ok.hd hc) ht.isList fun h' hx=>?_))
 have I1:Inv X pins σ H {s with heap:=h'}:=I.kept (t':=s.toks) fun b o e=>hx b o (Nat.ne_of_lt (Heap.lt_size e)) e
 exact h pins _ σ H xs _ Q I1 (by simpa using rv) hw
end
def dn (sc:Scope) (N:List Str):Bool:=(List.range N.length).all fun i=>match N[i]? with
 | some x=>eg sc N i x&&jm sc x
 | none=>false
def nsB {sc:Scope} {N:List Str} {i:Nat} {x:Str} (h:dn sc N=true) (e:N[i]?=some x):eg sc N i x=true/\jm sc x=true:=by
 have h1:=List.all_eq_true.mp h i (List.mem_range.mpr (gX e).1)
 rw [e] at h1
 exact Bool.and_eq_true_iff.mp h1
def nsN {sc:Scope} {N:List Str} (h:dn sc N=true) (i:Nat) {x:Str} (e:N[i]?=some x:=by rfl):eg sc N i x=true:=(nsB h e).1
def nsL {sc:Scope} {N:List Str} (h:dn sc N=true) (i:Nat) {x:Str} (e:N[i]?=some x:=by rfl):jm sc x=true:=(nsB h e).2
def pvN {X:Cx} {sc:Scope} {N:List Str} {x:Str} {pos:Pos} (i:Nat) (h:dn sc N=true) (e:N[i]?=some x:=by rfl) (e1:cW X sc:=by rfl) (e2:X.N=N:=by rfl):PE X (.Name x pos) (lu i):=pvD i (nsN h i e) e1 e2
section
variable {X:Cx}
end
def EntA (h:Heap) (d:Addr) (ks:List Value) (ep:Nat):Prop:=∃ o es,h.get? d=some o/\o.ExactDict/\o.data=.dict es ep/\es.toList.map (·.key)=ks
def EntA.ty {s:Shared} {d:Addr} {ks:List Value} {ep:Nat} (q:EntA s.heap d ks ep):s.TypeIs (.ref d) "dict":=let ⟨o,_,h1,h2,_⟩:=q;⟨o,h1,h2.1⟩
section
variable {prog:Program} {w:World} {A:Around} {E:Value->Shared->Prop} {s:Shared} {d it:Addr} {ks:List Value} {i ep:Nat}
def tB {Q:Value->Shared->Prop} (lo:(d==sysModules)=false) (q:EntA s.heap d ks ep)
  (k:Q (.ref s.heap.objs.size) {s with heap:=s.heap.push {cls:=.type "dict_keyiterator",data:=.fields #[.ref d,.int 0 0,.int ks.length 0,.int ep 0]}}):wpAny (model prog w) A (pyIter (.ref d)) Q E s:=by
 obtain ⟨o,es,e1,e2,e3,e4⟩:=id q
 refine wpAny_pyIter_slot q.ty F.slot_dict_iter (wpAny_call_entry F.slot_dict_iter q.ty F.entry_dict_iter ?_ (F.args_dict_iter_1 _))
 unfold Builtin.«dict.__iter__»
 refine wB ?_
 unfold Builtin.Dict.dictSlotNone
 refine wB (wpAny_notOrdered_dict q.ty ?_)
 show wpAny _ _ (pure (Value.ref d)) _ _ s
 refine wpAny_pure ?_
 show wpAny _ _ (Builtin.Dict.showsAll d >>= _) _ _ s
 unfold Builtin.Dict.showsAll
 rw [if_neg (by rw [lo];exact Bool.false_ne_true)]
 refine wB (wpAny_pure ?_)
 refine wB (wpAny_dictEntries e1 e3 (wB (wpAny_dictEpoch e1 e3 ?_)))
 have ez:es.size=ks.length:=by rw [<- e4];simp
 refine wB (wpAny_newObj_type (wpAny_pure ⟨_,rfl,"dict_keyiterator",_,⟨_,Heap.get?_push_size _ rfl,rfl⟩,F.slot_dict_keyiterator_next.lookup,?_⟩))
 simpa [rawInt,ez] using k
def tE {key:Value} {Q:Option Value->Shared->Prop} (st:s.heap.IsKeyIter it d i ks.length ep) (q:EntA s.heap d ks ep) (hk:ks[i]?=some key)
  (k:∀ h',h'.IsKeyIter it d (i+1) ks.length ep->Heap.SameBut it s.heap h'->Q (some key) {s with heap:=h'}):wpAny (model prog w) A (pyNext (.ref it)) Q E s:=by
 obtain ⟨oi,i1,i2,i3⟩:=id st
 obtain ⟨o,es,e1,e2,e3,e4⟩:=id q
 unfold pyNext
 refine wB (wpAny_attempt (wpAny_callSpecial?_slot (name:=Str.ofString "__next__") st.typeIs F.slot_dict_keyiterator_next (wpAny_call_entry F.slot_dict_keyiterator_next st.typeIs F.entry_dict_keyiterator_next ?_ (F.args_dict_keyiterator_next_1 _))))
 refine wB (wpAny_pure (wB (wB ?_)))
 first | refine wB (wpAny_typeNameOfWhole_keyiter st.typeIs (wpAny_pure ?_)) | refine wB (wpAny_typeNameOf_keyiter st.typeIs (wpAny_pure ?_))
 refine wB (wpAny_fieldsOf i1 i3 ?_)
 have ow:Builtin.Dict_items.ownsTuple "dict_keyiterator"=false:=by decide
 simp only [ow,Bool.false_eq_true,if_false]
 show wpAny _ _ (if (Value.ref d==Value.none)=true then _ else _) _ _ s
 rw [if_neg (show ¬ ((Value.ref d==Value.none)=true) from Bool.false_ne_true)]
 refine wB (wpAny_pure (wB (wpAny_dictEntries e1 e3 ?_)))
 have ez:es.size=ks.length:=by rw [<- e4];simp
 rw [if_neg (by rw [ez];simp)]
 refine wB (wpAny_pure (wB (wpAny_dictEpoch e1 e3 ?_)))
 rw [if_neg (by simp)]
 refine wpAny_pure ?_
 have li:i<es.size:=by rw [ez];exact (gX hk).1
 have hkey:es[i].key=key:=by
  rw [<- e4,List.getElem?_map,Array.getElem?_toList,Array.getElem?_eq_getElem li] at hk
  exact Option.some.inj hk
 simp only [show ¬ ((i:Int)<0) from by omega,if_false,Int.toNat_natCast,Array.getElem?_eq_getElem li]
 refine wB ?_
 first | refine wB (wpAny_typeNameOfWhole_keyiter st.typeIs (wpAny_pure ?_)) | refine wB (wpAny_typeNameOf_keyiter st.typeIs (wpAny_pure ?_))
 refine wB (wpAny_isOneOf_keyiter st.typeIs ?_)
 show wpAny _ _ (setField (.ref it) 1 (rawInt ((i:Int)+1)) >>= _) _ _ s
 refine wpAny_bind (wpAny_setField i1 i3 (by simp) ?_)
 have st':(s.heap.update it (Obj.mapFields (·.setIfInBounds 1 (rawInt ((i:Int)+1))))).IsKeyIter it d (i+1) ks.length ep:=
  ⟨_,Heap.get?_update_self _ i1 (Obj.isFreed_of_fields (Obj.data_mapFields i3 _)),(Obj.cls_mapFields ..).trans i2,by rw [Obj.data_mapFields i3];simp [rawInt]⟩
 refine wB (wpAny_holding (wB (wpAny_isOneOf_keyiter (s:={s with heap:=s.heap.update it (Obj.mapFields (·.setIfInBounds 1 (rawInt ((i:Int)+1))))}) st'.typeIs ?_)))
 show wpAny _ _ (pure es[i].key) _ _ _
 rw [hkey]
 exact wpAny_pure (wpAny_pure ⟨_,rfl,wpAny_pure (k _ st' (Heap.SameBut.update ..))⟩)
def vF {Q:Option Value->Shared->Prop} (nh:A.handled=none) (st:s.heap.IsKeyIter it d i ks.length ep) (q:EntA s.heap d ks ep) (hi:i=ks.length)
  (k:∀ h',Heap.ExtBut it s.heap h'->Q none {s with heap:=h'}):wpAny (model prog w) A (pyNext (.ref it)) Q E s:=by
 obtain ⟨oi,i1,i2,i3⟩:=id st
 obtain ⟨o,es,e1,e2,e3,e4⟩:=id q
 unfold pyNext
 refine wB (wpAny_attempt (wpAny_callSpecial?_slot (name:=Str.ofString "__next__") st.typeIs F.slot_dict_keyiterator_next (wpAny_call_entry F.slot_dict_keyiterator_next st.typeIs F.entry_dict_keyiterator_next ?_ (F.args_dict_keyiterator_next_1 _))))
 refine wB (wpAny_pure (wB (wB ?_)))
 first | refine wB (wpAny_typeNameOfWhole_keyiter st.typeIs (wpAny_pure ?_)) | refine wB (wpAny_typeNameOf_keyiter st.typeIs (wpAny_pure ?_))
 refine wB (wpAny_fieldsOf i1 i3 ?_)
 have ow:Builtin.Dict_items.ownsTuple "dict_keyiterator"=false:=by decide
 simp only [ow,Bool.false_eq_true,if_false]
 show wpAny _ _ (if (Value.ref d==Value.none)=true then _ else _) _ _ s
 rw [if_neg (show ¬ ((Value.ref d==Value.none)=true) from Bool.false_ne_true)]
 refine wB (wpAny_pure (wB (wpAny_dictEntries e1 e3 ?_)))
 have ez:es.size=ks.length:=by rw [<- e4];simp
 rw [if_neg (by rw [ez];simp)]
 refine wB (wpAny_pure (wB (wpAny_dictEpoch e1 e3 ?_)))
 rw [if_neg (by simp)]
 refine wpAny_pure ?_
 have ge:es.size<=i:=by rw [ez];omega
 simp only [show ¬ ((i:Int)<0) from by omega,if_false,Int.toNat_natCast,Array.getElem?_eq_none ge]
 refine wB ?_
 first | refine wB (wpAny_typeNameOfWhole_keyiter st.typeIs (wpAny_pure ?_)) | refine wB (wpAny_typeNameOf_keyiter st.typeIs (wpAny_pure ?_))
 show wpAny _ _ (setField (.ref it) 0 .none >>= _) _ _ s
 refine wpAny_bind (wpAny_setField i1 i3 (by simp) ?_)
 show wpAny _ _ (newExc (.type "StopIteration") [] >>= _) _ _ _
 refine wB ?_
 simp only [newExc,newTuple]
 refine wB (wpAny_newObj_type ?_ (by size_fits))
 refine wpAny_bind (m:=firstArgMember _ _) (wpAny_of_eq (a:=Value.none) (by first | rfl | (simp only [firstArgMember];rfl)) (wpAny_newObj_type ?_ (by size_fits)))
 simp only [raiseNew]
 refine wB (wpAny_handled ?_)
 rw [show A.in1.handled=none from nh]
 refine wB (wpAny_pure (wpAny_throw ?_))
 refine wB (wpAny_isInstance (b:=true) (T:="StopIteration") ⟨_,Heap.get?_push_size _ rfl,rfl⟩ isSubtype_stop ?_)
 exact wpAny_pure (k _ (((Heap.SameBut.update ..).extBut.push _).push _))
end
def fC (ks:List Key):Dt:=.tup (ks.map m8)
def ld {K:PySem.W.Frag} {F:Hp}:∀ ks:List Key,Reps K F (ks.map m8) (ks.map kV)
 | []=>by simp only [List.map_nil,Reps]
 | k::ks=>by
  simp only [List.map_cons,Reps]
  exact ⟨_,_,rfl,vD k,ld ks⟩
def tF {K:PySem.W.Frag} {F:Hp} {b:Addr} {ks:List Key} (h:F b=some (.tup (ks.map kV))):Rep K F (fC ks) (.ref b):=by
 unfold fC
 simp only [Rep]
 exact ⟨b,_,rfl,SqT.of h,ld ks⟩
section
variable {K:PySem.W.Frag} {F H:Hp} {ρ:Nat->Addr} {ch:CH}
def Gh.frzT (g:Gh K F H ρ ch) {b:Addr} {vs:List V} (hb:H b=some (.tup vs)):Adv K F H ρ ch (upd F b (.tup vs)) H ρ ch:=by
 have sm:Same F (upd F b (.tup vs)):=fun x o e=>by
  by_cases hx:x=b
  · subst hx
    have:=g.fh _ _ e
    rw [hb] at this
    rw [az,this]
  · rw [aF hx]
    exact e
 refine ⟨⟨fun x o e=>?_,g.inj,fun i hi=>?_,fun i o h=>(g.ok i o h).mono sm (fun _ _=>rfl) (nL _) fun u hu=>hu⟩,nL _,fun _ _=>rfl,fun i h1 h2=>absurd h2 (Nat.not_lt.mpr h1),fun _ _ h _=>h,sm,fun x o e=>?_,fun _ _ _ h=>h⟩
 · by_cases hx:x=b
   · subst hx
     rw [az] at e
     cases e
     exact hb
   · rw [aF hx] at e
     exact g.fh x o e
 · by_cases hx:ρ i=b
   · rw [hx,az]
     exact .inr ⟨vs,rfl⟩
   · rw [aF hx]
     exact g.out i hi
 · by_cases hx:x=b
   · subst hx
     rw [az] at e
     cases e
     exact .inr (.inr ⟨vs,rfl⟩)
   · rw [aF hx] at e
     exact .inl e
end
noncomputable def ItkT (a:Addr) (o:Obj) (kvs:List (List Key×V)):It where
 go:=fun i H=>H a=some (.frz o (.dT kvs))/\i<kvs.length
 yld:=fun i H x H'=>H'=H/\∃ p b,kvs[i]?=some p/\x=.ref b/\H b=some (.tup (p.1.map kV))
 stop:=fun i H=>H a=some (.frz o (.dT kvs))/\i=kvs.length
def le {α β:Type} {R:α->β->Prop}:∀ {l:List α} {m:List β},Paired R l m->∀ {i:Nat} {a:α},l[i]?=some a->∃ b,m[i]?=some b/\R a b
 | _,_,.nil,i,a,h=>by simp at h
 | _,_,.cons r t,0,a,h=>by simp at h;subst h;exact ⟨_,rfl,r⟩
 | _,_,.cons r t,i+1,a,h=>by simpa using le t (by simpa using h)
def jY {α β:Type} {R:α->β->Prop}:∀ {l:List α} {m:List β},Paired R l m->l.length=m.length
 | _,_,.nil=>rfl
 | _,_,.cons r t=>by simp [jY t]
def oE {P:Program} {w:World} {H:Hp} {h:Heap} {a:Addr} {kvs:List (List Key×V)} (x:ObjOk P w H h a (.dT kvs)):kvs.length<=sizeLine/\(a==sysModules)=false/\∃ (bs:List Addr) (ob:Obj) (es:Array DictEntry) (ep:Nat),h.get? a=some ob/\ob.data=.dict es ep/\EntA h a (bs.map .ref) ep/\bs.length=kvs.length∧
  ∀ (j:Nat) (p:List Key×V),kvs[j]?=some p->∃ b,bs[j]?=some b/\H b=some (.tup (p.1.map kV)):=by
 obtain ⟨z,y,xs,r,o,es,ep,h1,h2,h3,h4,h5⟩:=x
 refine ⟨z,y,xs.map (·.2.1),o,es,ep,h1,h3,⟨o,es,h1,h2,h3,?_⟩,by rw [List.length_map,<- jY r],fun j p hp=>?_⟩
 · rw [h4,List.map_map,List.map_map]
   rfl
 · obtain ⟨q,hq,_,hb,_⟩:=le r hp
   exact ⟨q.2.1,by rw [List.getElem?_map,hq];rfl,hb⟩
def oF {P:Program} {w:World} {K:PySem.W.Frag} {tg:Expr} {a it:Addr} {o:Obj} {kvs:List (List Key×V)} {es:Array DictEntry} {ep:Nat} (hd:o.data=.dict es ep) :
  Turn P w K tg (ItkT a o kvs) [it] it (fun i h=>h.IsKeyIter it a i kvs.length ep) where
 mem:=by simp
 obj:=fun i h st b hb=>by
  have e:b=it:=by simpa using hb
  subst e
  obtain ⟨q,hq,hc,hdd⟩:=st
  exact ⟨q,hq,fun v z=>by rw [hdd] at z;cases z⟩
 keep:=fun i h h' st k=>by
  obtain ⟨q,hq,r⟩:=st
  exact ⟨q,k it (by simp) _ hq,r⟩
 item:=by
  intro X hP hw hK hc i pins s σ H E I hf st hg
  subst hP hw hK
  obtain ⟨f0,f1,f2,f3,f4,f5⟩:=hf it (by simp)
  obtain ⟨ho,x⟩:=I.hok a _ hg.1
  obtain ⟨z,y,bs,ob,es',ep',e1,e2,en,hl,hk⟩:=oE x
  rw [ho] at e1
  cases e1
  rw [hd] at e2
  cases e2
  have hik:i<kvs.length:=hg.2
  have hkk:kvs[i]?=some kvs[i]:=by simp [hik]
  obtain ⟨b,hb,hHb⟩:=hk i _ hkk
  have st:s.heap.IsKeyIter it a i (bs.map Value.ref).length ep:=by rw [List.length_map,hl];exact st
  refine tE st en (key:=.ref b) (by rw [List.getElem?_map,hb];rfl) fun h' st' sb=>?_
  have I1:Inv X pins σ H {s with heap:=h'}:=I.turned (t':=s.toks) (fun b o hb e=>(sb.2 b hb).trans e) f0 f1 f3 f4 f5
  obtain ⟨q,e,c,d⟩:=id st'
  exact ⟨_,rfl,jE (s:={s with heap:=h'}) e c d (by decide) ⟨.ref b,H,I1,rfl,⟨rfl,_,b,hkk,rfl,hHb⟩,by rw [List.length_map,hl] at st';exact st',fun b hb=>(hf b hb).1⟩⟩
 done:=by
  intro X hP hw hK hc i pins s σ H E I hf st hg
  subst hP hw hK
  obtain ⟨f0,f1,f2,f3,f4,f5⟩:=hf it (by simp)
  obtain ⟨ho,x⟩:=I.hok a _ hg.1
  obtain ⟨z,y,bs,ob,es',ep',e1,e2,en,hl,hk⟩:=oE x
  rw [ho] at e1
  cases e1
  rw [hd] at e2
  cases e2
  have st:s.heap.IsKeyIter it a i (bs.map Value.ref).length ep:=by rw [List.length_map,hl];exact st
  exact vF (I.ok.hd hc) st en (by have h2:i=kvs.length:=hg.2;rw [List.length_map,hl];exact h2) fun h' eb=>⟨rfl,I.turned (t':=s.toks) (fun b o hb e=>eb b o hb e) f0 f1 f3 f4 f5⟩
 self:=fun _ _ _ _ _ st h=>wpAny_pyIter_keyiter st h
section
variable {X:Cx} {tg:Expr}
def yn (X:Cx) (td:TE):TI:=fun σ H R=>td σ H fun x H1=>∃ a kvs,x=.ref a/\H1 a=some (.dT kvs)/\∀ o,(∀ o' w,X.H₀ a≠some (.frz o' w))->R (ItkT a o kvs) (upd H1 a (.frz o (.dT kvs)))
def tH {d:Expr} {td:TE} (hd:PE X d td):PI X tg d (yn X td):=by
 intro pins s σ H R I h
 refine thn (hd pins s σ H _ I h) fun v s1 ⟨x,H1,I1,r1,q1⟩=>?_
 obtain ⟨a,kvs,e,hq,q⟩:=q1
 subst e
 cases r1
 obtain ⟨z,y,bs,ob,es,ep,e1,e2,en,hl,hk⟩:=oE (I1.hok a _ hq)
 refine tB y en ?_
 have I2:=I1.frz hq (by rw [hq];trivial) e1 (fun _ _ z=>nomatch z) (fun z=>nomatch z) (fun _ _ _ z=>nomatch z)
 refine ⟨s1.heap.objs.size,[s1.heap.objs.size],_,_,upd H1 a (.frz ob (.dT kvs)),rfl,I2.kept (t':=s1.toks) fun b o e=>gP _ e,oF e2,⟨_,Heap.get?_push_size _ rfl,rfl,by rw [List.length_map,hl];rfl⟩,fun b hb=>?_,q ob fun o' w z=>by have:=I1.base.frzs a o' w z;rw [hq] at this;cases this⟩
 have e:b=s1.heap.objs.size:=by simpa using hb
 subst e
 exact I2.fpOk (nL _) (I2.hok.fresh (nL _))
def vG (X:Cx) (Q:Hp->Prop):Hp->Prop:=fun H'=>∃ a o kvs,(∀ o' w,X.H₀ a≠some (.frz o' w))/\H' a=some (.frz o (.dT kvs))/\Q (upd H' a (.dT kvs))
def w4 (X:Cx) (D:Ends):Ends:={nx:=fun σ=>vG X (D.nx σ),rt:=fun v=>vG X (D.rt v),bk:=fun σ=>vG X (D.bk σ),ct:=fun σ=>vG X (D.ct σ)}
def tI {st:Stmt} {t:TS} (h:PS X st t):PS X st (fun D σ H=>t (w4 X D) σ H):=fun pins s σ H D I hw=>by
 refine thn (h pins s σ H (w4 X D) I hw) fun f s1 q=>?_
 cases f with
 | next =>
  obtain ⟨σ',H',I',a,o,kvs,hn,e,q⟩:=q
  exact ⟨σ',_,I'.thaw e hn (fun _ z=>nomatch z) (fun _ z=>nomatch z),q⟩
 | brk =>
  obtain ⟨σ',H',I',a,o,kvs,hn,e,q⟩:=q
  exact ⟨σ',_,I'.thaw e hn (fun _ z=>nomatch z) (fun _ z=>nomatch z),q⟩
 | cont =>
  obtain ⟨σ',H',I',a,o,kvs,hn,e,q⟩:=q
  exact ⟨σ',_,I'.thaw e hn (fun _ z=>nomatch z) (fun _ z=>nomatch z),q⟩
 | ret u =>
  obtain ⟨v,σ',H',I',r,a,o,kvs,hn,e,q⟩:=q
  exact ⟨v,σ',_,I'.thaw e hn (fun _ z=>nomatch z) (fun _ z=>nomatch z),r,q⟩
end
def ki (i:Nat) (ch:CH):Option CH:=match ch[i]? with
 | some (.wt l)=>some (ch.set i (.dT l))
 | _=>none
def w6 (i:Nat):Og->Option Og
 | .nx δ ch=>(ki i ch).map (.nx δ ·)
 | .rt c ch=>(ki i ch).map (.rt c ·)
 | .bk δ ch=>(ki i ch).map (.bk δ ·)
 | .ct δ ch=>(ki i ch).map (.ct δ ·)
noncomputable def jZ (fd:Fg) (ts:List Nat) (bb:Dt->De->Option De) (g:Fs):Fs:=fun δ ch=>(fd δ ch).bind fun p=>match p.1 with
 | .ref i=>match p.2[i]? with
  | some (.dT l)=>(dw ts bb g (l.map fun q=>fC q.1) δ (p.2.set i (.wt l))).bind (w6 i)
  | _=>none
 | _=>none
section
variable {K:PySem.W.Frag} {F H F' H' F1 H1:Hp} {ρ ρ' ρ1:Nat->Addr} {ch ch' ch1:CH} {i:Nat} {l:List (List Key×CV)} {kvs:List (List Key×V)} {ob:Obj}
def qU (g1:Gh K F1 H1 ρ1 ch1) (hi:ch1[i]?=some (.dT l)) (h1:H1 (ρ1 i)=some (.dT kvs)) (a:Adv K F1 (upd H1 (ρ1 i) (.frz ob (.dT kvs))) ρ1 (ch1.set i (.wt l)) F' H' ρ' ch') {c:CH} (hc:ki i ch'=some c) :
  H' (ρ1 i)=some (.frz ob (.dT kvs))/\Adv K F1 H1 ρ1 ch1 F' (upd H' (ρ1 i) (.dT kvs)) ρ' c:=by
 have hil:i<ch1.length:=(gX hi).1
 have hz:H' (ρ1 i)=some (.frz ob (.dT kvs)):=a.fz _ _ _ az
 refine ⟨hz,?_⟩
 have hr:ρ' i=ρ1 i:=a.ext i (by simpa using hil)
 unfold ki at hc
 split at hc<;>first | (cases hc;done) | skip
 rename_i l' hl'
 cases hc
 have hil':i<ch'.length:=(gX hl').1
 obtain ⟨o2,kv2,e1,e2,e3⟩:=a.gh.ok i _ hl'
 rw [hr,hz] at e1
 cases e1
 have g:=a.gh
 have ne:∀ {j:Nat},j<ch'.length->j≠i->ρ' j≠ρ1 i:=fun {j} hj hne e=>hne (g.inj j i hj hil' (e.trans hr.symm))
 refine ⟨⟨fun b x e=>?_,fun j k hj hk=>g.inj j k (by simpa using hj) (by simpa using hk),fun j hj=>g.out j (by simpa using hj),fun j x hx=>?_⟩,by have:=a.len;simp at this ⊢;omega,fun j hj=>a.ext j (by simpa using hj),fun j h2 h3=>?_,fun b x h2 h3=>?_,a.old,fun b x h=>?_,fun b x y h=>?_⟩
 · have:b≠ρ1 i:=fun q=>by
    rw [q,<- hr] at e
    rcases g.out i hil' with y | ⟨xs,y⟩
    · rw [y] at e;cases e
    · have y1:=g.fh _ _ y
      rw [hr,hz] at y1
      cases y1
   rw [aF this]
   exact g.fh b x e
 · rw [List.length_set]
   rw [List.getElem?_set] at hx
   by_cases hj:i=j
   · rw [if_pos hj] at hx
     subst hj
     first
      | (split at hx<;>first | (cases hx;rw [hr];exact ⟨kvs,az,e2,e3⟩) | cases hx)
      | (cases hx;rw [hr];exact ⟨kvs,az,e2,e3⟩)
   · rw [if_neg hj] at hx
     have hjl:j<ch'.length:=(gX hx).1
     refine (g.ok j x hx).mono (Same.refl _) (fun _ _=>rfl) (nL _) fun y hy=>?_
     rw [aF (ne hjl (Ne.symm hj))]
     exact hy
 · have:=a.fr j (by simpa using h2) (by simpa using h3)
   have hn:ρ' j≠ρ1 i:=fun z=>by rw [z,az] at this;cases this
   rw [aF hn] at this
   exact this
 · have hb:b≠ρ1 i:=fun z=>h3 i hil z.symm
   rw [aF hb]
   exact a.prot b x (by rw [aF hb];exact h2) fun j hj=>h3 j (by simpa using hj)
 · rcases a.nw b x h with z | z | z
   · exact .inl z
   rotate_left
   · exact .inr (.inr z)
   · right
     left
     have hb:b≠ρ1 i:=fun q=>by rw [q,az] at z;cases z
     rw [aF hb] at z
     exact z
 · have hb:b≠ρ1 i:=fun z=>by rw [z,h1] at h;cases h
   rw [aF hb]
   exact a.fz b x y (by rw [aF hb];exact h)
end
def j0 {i:Nat} {ch c:CH} (h:ki i ch=some c):c.length=ch.length:=by
 unfold ki at h
 split at h<;>cases h
 simp
section
variable {X:Cx} {tg d:Expr} {body:List Stmt} {fd:Fg} {g:Fs} {pos:Pos}
def vH {ts:List Nat} {bb:Dt->De->Option De} (hp:PassesOwn (model X.prog X.w) X.A X.env X.xe) (hc:X.calm=true) (hd:GE X d fd) (hg:DG X tg ts bb) (hb:GS X body g)
  (hs:∀ x,foldedSetIterable d X.env x=pure x:=by intro _;rfl):GS1 X (.For tg d body [] pos) (jZ fd ts bb g):=PS.mono (tI (jF hp hc (tH hd) hg hb hs)) fun D σ H ⟨δ,ch,F,ρ,og,en,hgg,k⟩=>by
 unfold jZ at hgg
 obtain ⟨⟨c1,ch1⟩,hpp,hg1⟩:=bS hgg
 clear hgg
 dsimp only at hg1
 split at hg1<;>first | (cases hg1;done) | skip
 rename_i i
 split at hg1<;>first | (cases hg1;done) | skip
 rename_i l hl
 obtain ⟨o,ho,hth⟩:=bS hg1
 clear hg1
 rw [hZ]
 refine ⟨δ,ch,F,ρ,_,ch1,en,hpp,fun v F1 H1 ρ1 a1 r1=>?_⟩
 obtain ⟨kvs,h1,h2,h3⟩:=a1.gh.ok i _ hl
 have hi:i<ch1.length:=(gX hl).1
 refine ⟨_,kvs,r1.2,h1,fun ob hn=>?_⟩
 have en1:=en.adv a1
 have k1:=k.adv en.gh a1
 have a2:=Adv.upd (o:=.wt l) (u:=.frz ob (.dT kvs)) a1.gh hi h1 (fun _ _ z=>nomatch z) ⟨ob,kvs,az,h2,h3⟩
 have en2:=en1.adv a2
 -- behind the loop
 have back:∀ {F' H':Hp} {ρ':Nat->Addr} {ch' c:CH},Adv X.K F1 (upd H1 (ρ1 i) (.frz ob (.dT kvs))) ρ1 (ch1.set i (.wt l)) F' H' ρ' ch'->ki i ch'=some c->H' (ρ1 i)=some (.frz ob (.dT kvs))/\Adv X.K F1 H1 ρ1 ch1 F' (upd H' (ρ1 i) (.dT kvs)) ρ' c:=fun a hc=>qU a1.gh hl h1 a hc
 have hlen:kvs.length=l.length:=by
  have:=congrArg List.length h2
  simpa using this
 have lens:(l.map fun q=>fC q.1).length=kvs.length:=by simp [hlen]
 refine ij (n:=kvs.length) (fun j σ' H'=>∃ δ' ch' F' ρ',Adv X.K F1 (upd H1 (ρ1 i) (.frz ob (.dT kvs))) ρ1 (ch1.set i (.wt l)) F' H' ρ' ch'/\Ge X.K δ' ch' σ' F' H' ρ'/\dw ts bb g ((l.map fun q=>fC q.1).drop j) δ' ch'=some o) ⟨δ,_,F1,ρ1,Adv.refl en2.gh,en2,by simpa using ho⟩ (fun j σ' H' ⟨δ',ch',F',ρ',a',en',_⟩=>⟨fun hj=>⟨a'.fz _ _ _ az,hj⟩,fun hj=>⟨a'.fz _ _ _ az,hj⟩⟩) ?_ ?_
 · rintro j x σ' H' H'' hj ⟨δ',ch',F0,ρ',a0,en0,hgo⟩ ⟨rfl,p,bt,hp',rfl,hbt⟩
   have af:=en0.gh.frzT hbt
   have a':=a0.trans en2.gh af
   have en':=en0.adv af
   generalize hF:upd F0 bt (.tup (p.1.map kV))=F' at af a' en'
   have hFb:F' bt=some (.tup (p.1.map kV)):=by rw [<- hF];exact az
   have hk:(l.map fun q=>fC q.1)[j]?=some (fC p.1):=by
    have e1:(kvs.map (·.1))[j]?=some p.1:=by rw [List.getElem?_map,hp'];rfl
    rw [h2,List.getElem?_map] at e1
    obtain ⟨q,hq,eq⟩:=mS e1
    rw [List.getElem?_map,hq,<- eq]
    rfl
   rw [gj hk] at hgo
   unfold dw at hgo
   obtain ⟨δ1,z1,hgo1⟩:=bS hgo
   obtain ⟨o1,z2,hgo2⟩:=bS hgo1
   clear hgo hgo1
   refine ⟨_,_,F',fC p.1,δ1,rfl,en'.en,tF hFb,z1,fun σ1 l1 q1 e1=>⟨_,ch',F',ρ',o1,en'.mg rfl l1 q1 e1,z2,?_⟩⟩
   cases o1 with
   | nx δ2 c2=>exact fun σ2 F3 H3 ρ3 a4 en4=>⟨δ2,c2,F3,ρ3,a'.trans en2.gh a4,en4,hgo2⟩
   | ct δ2 c2=>exact fun σ2 F3 H3 ρ3 a4 en4=>⟨δ2,c2,F3,ρ3,a'.trans en2.gh a4,en4,hgo2⟩
   | bk δ2 c2 =>
    cases hgo2
    obtain ⟨c,hcc,rfl⟩:=mS hth
    intro σ2 F3 H3 ρ3 a4 en4
    obtain ⟨w1,w2⟩:=back (a'.trans en2.gh a4) hcc
    refine ⟨_,ob,kvs,hn,w1,k1 σ2 F3 _ ρ3 w2 ⟨w2.gh,en4.len,fun m x hx=>?_⟩⟩
    obtain ⟨v,v1,v2⟩:=en4.has m x hx
    refine ⟨v,v1,v2.mono (Same.refl _) (fun _ _=>rfl) ?_⟩
    have:=(j0 hcc)
    omega
   | rt c c2 =>
    cases hgo2
    obtain ⟨c',hcc,rfl⟩:=mS hth
    intro v F3 H3 ρ3 a4 r
    obtain ⟨w1,w2⟩:=back (a'.trans en2.gh a4) hcc
    refine ⟨_,ob,kvs,hn,w1,k1 v F3 _ ρ3 w2 (r.mono (Same.refl _) (fun _ _=>rfl) ?_)⟩
    have:=(j0 hcc)
    omega
 · rintro σ' H' ⟨δ',ch',F',ρ',a',en',hgo⟩
   rw [<- lens,List.drop_length] at hgo
   cases hgo
   obtain ⟨c,hcc,rfl⟩:=mS hth
   obtain ⟨w1,w2⟩:=back a' hcc
   refine ⟨_,ob,kvs,hn,w1,k1 σ' F' _ ρ' w2 ⟨w2.gh,en'.len,fun m x hx=>?_⟩⟩
   obtain ⟨v,v1,v2⟩:=en'.has m x hx
   refine ⟨v,v1,v2.mono (Same.refl _) (fun _ _=>rfl) ?_⟩
   have:=(j0 hcc)
   omega
end
def ji:List CV->Option (List Key)
 | []=>some []
 | .dat d::r=>(iN d).bind fun k=>(ji r).map (k::·)
 | _=>none
def iB {K:PySem.W.Frag} {F:Hp} {ρ:Nat->Addr} {n:Nat}:∀ {l:List CV} {ks:List Key} {vs:List V},ji l=some ks->RelCs K F ρ n l vs->vs=ks.map kV
 | [],ks,vs,h,r=>by cases h;exact r
 | .dat d::l,ks,vs,h,r=>by
  simp only [ji] at h
  obtain ⟨k,hk,h⟩:=bS h
  obtain ⟨ks',hks,rfl⟩:=mS h
  obtain ⟨v,ws,rfl,r1,r2⟩:=r
  rw [iB hks r2,eJ hk r1]
  rfl
 | .ref i::l,ks,vs,h,r=>by cases h
section
variable {X:Cx} {e a b o value:Expr} {es:List Expr} {f fa fb fc fe fk:Fg} {fs:Fgs} {pos apos cpos tpos p:Pos} {sc:Scope} {x:Str} {K:PySem.W.Frag}
def eNT:Fg:=fun _ ch=>some (.ref ch.length,ch++[.dT []])
def vI:GE X (.Dict [] [] pos) eNT:=PE.mono sj fun σ H Q ⟨δ,ch,F,ρ,c,ch',en,hf,k⟩ q hq=>by
 cases hf
 refine k (.ref q) F _ _ (gY (o:=.dT []) en.gh hq ⟨[],az,rfl,rfl⟩) ⟨by simp,?_⟩
 dsimp only
 rw [if_pos rfl]
def asT:CO->Option (List (List Key×CV))
 | .dT l=>some l
 | .wt l=>some l
 | _=>none
def yo {F H:Hp} {ρ:Nat->Addr} {n:Nat} {ad:Addr} {o:CO} {l:List (List Key×CV)} (h:asT o=some l) (ok:CoOk K F H ρ n ad o):∃ kvs,Rd H ad (.dT kvs)/\kvs.map (·.1)=l.map (·.1)/\RelCs K F ρ n (l.map (·.2)) (kvs.map (·.2)):=by
 cases o with
 | dT m=>cases h;obtain ⟨kvs,h1,h2,h3⟩:=ok;exact ⟨kvs,.inl h1,h2,h3⟩
 | wt m=>cases h;obtain ⟨ob,kvs,h1,h2,h3⟩:=ok;exact ⟨kvs,.inr ⟨ob,h1⟩,h2,h3⟩
 | _=>cases h
noncomputable def qV (fo:Fg) (fs:Fgs):Fg:=fun δ ch=>(fo δ ch).bind fun p=>(fs δ p.2).bind fun q=>match p.1 with
 | .ref i=>((q.2[i]?).bind asT).bind fun l=>if q.1.length<=sizeLine then (ji q.1).bind fun ks=>(lkC l ks).map fun c=>(c,q.2) else none
 | _=>none
def yp {m:Nat} {x1} (hr:Room m X.A) (ho:GE X o fa) (ha:GA X es fs) (hn:sg (.Tuple es x1 apos):=by exact fun _ _=>rfl):GE X (.Subscript o (.Tuple es x1 apos) pos) (qV fa fs):=
 PE.mono (lF (jK hr) ho (jH ha) hn) fun σ H Q ⟨δ,ch,F,ρ,c,ch',en,hf,kk⟩=>by
  unfold qV at hf
  obtain ⟨⟨c1,ch1⟩,hp,hf1⟩:=bS hf
  clear hf
  obtain ⟨⟨cs,ch2⟩,hq,hf2⟩:=bS hf1
  clear hf1
  dsimp only at hq hf2
  split at hf2<;>first | (cases hf2;done) | skip
  rename_i i
  obtain ⟨l,hl0,hf2b⟩:=bS hf2
  obtain ⟨ob,hl,has⟩:=bS hl0
  clear hf2 hl0
  split at hf2b<;>first | (cases hf2b;done) | skip
  rename_i hz
  obtain ⟨ks,hk,hf3⟩:=bS hf2b
  obtain ⟨c',hc,hf4⟩:=mS hf3
  cases hf4
  refine ⟨δ,ch,F,ρ,_,ch1,en,hp,fun v F1 H1 ρ1 a1 r1=>⟨δ,ch1,F1,ρ1,_,_,en.adv a1,hq,fun vs F2 H2 ρ2 a2 r2=>⟨by rw [r2.length];exact hz,fun q hq2=>?_⟩⟩⟩
  have ev:=iB hk r2
  subst ev
  have a3:=Adv.of a2.gh (Step.made (o:=.tup (ks.map kV)) a2.gh.fh hq2)
  have aa:=(a1.trans en.gh a2).trans en.gh a3
  obtain ⟨kvs,h1,h2,h3⟩:=yo has (a3.gh.ok i _ hl)
  have lk:=jw (k:=ks) h2 h3
  rw [hc] at lk
  obtain ⟨u,hu,ru⟩:=lk
  exact ⟨_,u,(r1.mono a2.old a2.ext a2.len).2,by rw [<- hu];exact .inr ⟨kvs,ks,_,h1,rfl,az,rfl⟩,kk u F2 _ ρ2 aa ru⟩
noncomputable def iS (fo:Fg) (fs:Fgs) (fe:Fg):Fs:=fun δ ch=>(fe δ ch).bind fun p=>(fo δ p.2).bind fun q=>(fs δ q.2).bind fun r=>match q.1 with
 | .ref i=>match r.2[i]? with
  | some (.dT l)=>if r.1.length<=sizeLine/\l.length<sizeLine/\(l.map (·.1)).Nodup then (ji r.1).map fun ks=>.nx δ (r.2.set i (.dT (dG l ks p.1))) else none
  | _=>none
 | _=>none
def pY {m:Nat} {x1} (hr:Room m X.A) (ho:GE X o fa) (ha:GA X es fs) (he:GE X e fe) (hs:swapsWith e (some (.Subscript o (.Tuple es x1 apos) tpos)) pos.line X.env=pure false:=by rfl) :
  GS1 X (.Assign [.Subscript o (.Tuple es x1 apos) tpos] e pos) (iS fa fs fe):=
 PS.mono (lG (jK hr) ho (jH ha) he hs) fun D σ H ⟨δ,ch,F,ρ,og,en,hg,kk⟩=>by
  unfold iS at hg
  obtain ⟨⟨c1,ch1⟩,hp,hg1⟩:=bS hg
  clear hg
  obtain ⟨⟨c2,ch2⟩,hq,hg2⟩:=bS hg1
  clear hg1
  obtain ⟨⟨cs,ch3⟩,hw,hg3⟩:=bS hg2
  clear hg2
  dsimp only at hq hw hg3
  split at hg3<;>first | (cases hg3;done) | skip
  rename_i i
  split at hg3<;>first | (cases hg3;done) | skip
  rename_i l hl
  split at hg3<;>first | (cases hg3;done) | skip
  rename_i hz
  obtain ⟨ks,hk,hg4⟩:=mS hg3
  cases hg4
  refine ⟨δ,ch,F,ρ,_,ch1,en,hp,fun v F1 H1 ρ1 a1 r1=>⟨δ,ch1,F1,ρ1,_,ch2,en.adv a1,hq,fun x F2 H2 ρ2 a2 r2=>⟨δ,ch2,F2,ρ2,_,ch3,(en.adv a1).adv a2,hw,fun ys F3 H3 ρ3 a3 r3=>⟨by rw [r3.length];exact hz.1,fun q hq2=>?_⟩⟩⟩⟩
  have ev:=iB hk r3
  subst ev
  have a4:=Adv.of a3.gh (Step.made (o:=.tup (ks.map kV)) a3.gh.fh hq2)
  have hi:i<ch3.length:=(gX hl).1
  have a14:=((a1.trans en.gh a2).trans en.gh a3).trans en.gh a4
  have r1':=(r1.mono a2.old a2.ext a2.len).mono a3.old a3.ext a3.len
  obtain ⟨kvs,q1,q2,q3⟩:=a4.gh.ok i _ hl
  obtain ⟨z1,z2⟩:=iu (k:=ks) r1' hz.2.2 q2 q3
  have hlen:kvs.length=l.length:=by
   have:=congrArg List.length q2
   simpa using this
  refine ⟨_,upd (upd H3 q (.tup (ks.map kV))) (ρ3 i) (.dT (bO kvs ks v)),(r2.mono a3.old a3.ext a3.len).2,DPut.t q1 az (by rw [hlen];exact hz.2.1),?_⟩
  have a5:=Adv.upd (o:=.dT (dG l ks c1)) (u:=.dT (bO kvs ks v)) a4.gh hi q1 (fun _ _ z=>nomatch z) ⟨_,az,z1,z2⟩
  have aa:=a14.trans en.gh a5
  exact kk σ F3 _ ρ3 aa (en.adv aa)
def rUpd:V->List V->Hp->VK->Prop:=fun x vs H Q=>∃ d o kvs more,x=.ref d/\vs=[.ref o]/\d≠o/\H d=some (.dK kvs)/\H o=some (.dK more)/\kvs.length+more.length<=sizeLine/\Q .non (upd H d (.dK (cS kvs more)))
def j1:∀ (ps kvs:List (Key×Value)),merged kvs ps=eQ kvs ps
 | [],kvs=>rfl
 | p::ps,kvs=>j1 ps _
def yq:MtM X "dict.update" rUpd:=by
 intro pins s σ H x vs v us Q I rx rv h
 obtain ⟨d,o,kvs,more,rfl,rfl,hne,hd,ho,hz,q⟩:=h
 cases rx
 obtain ⟨u,rfl,ru⟩:=rv.one
 cases ru
 obtain ⟨z1,y1,vs1,k1,D1⟩:=I.hok d _ hd
 obtain ⟨z2,y2,vs2,k2,D2⟩:=I.hok o _ ho
 have l1:=k1.length
 have l2:=k2.length
 refine call_meetsIn PySem.F.slot_dict_update (show Heap.DictOf (bp X.prog X.w) s.heap d vs1 from D1).typeIs PySem.F.entry_dict_update (PySem.F.args_dict_update_2 _ _) (meets_dict_update (bp X.prog X.w) d o hne y2)
  ⟨vs1,vs2,D1,D2,by omega,fun h' hm _ hs=>?_⟩
 have kall:=KV.all k2 k1
 obtain ⟨od,es,ep,e1,rest⟩:=id hm
 refine ⟨.non,_,I.write (x:=d) (e:=d) (o:=.dK (cS kvs more)) (h':=h') (t':=s.toks) (by rw [hd];trivial) (.inl rfl) (fun b u hb hu=>(hs.2 b hb).trans hu) ⟨od,e1⟩ ⟨?_,y1,_,kall,?_⟩,rfl,q⟩
 · have:=gZ more kvs
   omega
 · rw [<- j1]
   exact hm
noncomputable def na (fa fe:Fg):Fs:=fun δ ch=>(fa δ ch).bind fun p=>(fe δ p.2).bind fun q=>match p.1,q.1 with
 | .ref i,.ref j=>if i=j then none else match p.2[i]?,q.2[i]?,q.2[j]? with
  | some (.dK _),some (.dK l),some (.dK m)=>if ((l++m).map (·.1)).Nodup/\l.length+m.length<=sizeLine then some (.nx δ (q.2.set i (.dK (l++m)))) else none
  | _,_,_=>none
 | _,_=>none
def yr (hx:GE X o fa) (he:GE X e fe)
  (hbase:attributeBase o "update" X.env (eval o X.env)=eval o X.env:=by rfl)
  (hfew:((backTo cpos (starEach [e] X.env)).all (fun x=>!x.1)&&(backToKw cpos (keywordEach [] X.env)).all (fun x=>x.1.isSome)
   && decide ([e].length+([]:List Keyword).length+(if ([]:List Keyword).isEmpty then 0 else 1)<30))=true:=by rfl)
  (hline:(apos.endLine==cpos.line)=true:=by rfl) (hs:starEach [e] X.env=(false,eval e X.env)::starEach [] X.env:=by rfl) (hplain:(backTo cpos (starEach [] X.env)).any (·.1)=false:=by rfl)
  (hsw:swapsWith (.Call (.Attribute o "update" apos) [e] [] cpos) none pos.line X.env=pure false:=by rfl) :
  GS1 X (.Expr (.Call (.Attribute o "update" apos) [e] [] cpos) pos) (na fa fe):=
 PS.mono (jq (mI PySem.F.plainAttrs_dict PySem.F.slot_dict_update PySem.F.type_dict_update yq hx (dX he fM hs) hbase hfew hline hs hplain) hsw) fun D σ H ⟨δ,ch,F,ρ,og,en,hg,k⟩=>by
  unfold na at hg
  obtain ⟨⟨c1,ch1⟩,hp,hg1⟩:=bS hg
  clear hg
  obtain ⟨⟨c2,ch2⟩,hq,hg⟩:=bS hg1
  clear hg1
  dsimp only at hq hg
  split at hg<;>first | (cases hg;done) | skip
  rename_i i j
  split at hg<;>first | (cases hg;done) | skip
  rename_i hij
  split at hg<;>first | (cases hg;done) | skip
  rename_i l0 l m h0 h1 h2
  split at hg<;>cases hg
  rename_i hz
  refine ⟨δ,ch,F,ρ,_,ch1,en,hp,fun v F1 H1 ρ1 a1 r1=>?_⟩
  obtain ⟨kv0,q0,_⟩:=a1.gh.ok i _ h0
  obtain ⟨hi,rfl⟩:=r1
  refine ⟨.inr (.inr (.inl ⟨rfl,.inl ⟨_,q0⟩⟩)),δ,ch1,F1,ρ1,_,ch2,en.adv a1,hq,fun w F2 H2 ρ2 a2 r2=>?_⟩
  obtain ⟨kv1,q1,q2,q3⟩:=a2.gh.ok i _ h1
  obtain ⟨kv2,p1,p2,p3⟩:=a2.gh.ok j _ h2
  have hi2:i<ch2.length:=(gX h1).1
  have hj2:j<ch2.length:=(gX h2).1
  have el1:kv1.length=l.length:=by have:=congrArg List.length q2;simpa using this
  have el2:kv2.length=m.length:=by have:=congrArg List.length p2;simpa using this
  have epa:cS kv1 kv2=kv1++kv2:=g0 (by
   rw [List.map_append,q2,p2,<- List.map_append]
   exact hz.1)
  refine ⟨ρ1 i,ρ2 j,kv1,kv2,rfl,by rw [r2.2],fun z=>hij (a2.gh.inj i j hi2 hj2 (by rw [a2.ext i hi];exact z)),by rw [<- a2.ext i hi];exact q1,p1,by omega,?_⟩
  rw [epa,<- a2.ext i hi]
  have a3:=Adv.upd (o:=.dK (l++m)) (u:=.dK (kv1++kv2)) (w:=.dK kv1) a2.gh hi2 q1 (fun _ _ z=>nomatch z) ⟨_,az,by rw [List.map_append,List.map_append,q2,p2],by rw [List.map_append,List.map_append];exact q3.append p3⟩
  have aa:=(a1.trans en.gh a2).trans en.gh a3
  exact k σ F2 _ ρ2 aa (en.adv aa)
end
def j2:fillsNumberSlot (.type "tuple") "mul"=pure false:=
 PySem.fillsNumberSlot_seq (id:="tuple.__mul__") (r:=some (.builtin "tuple.__rmul__")) F.slot_tuple_mul.lookup (by decide +kernel) F.slot_tuple_rmul.lookup (by decide +kernel)
def vJ:seqRepeat? (.type "tuple")=pure (some (.builtin "tuple.__mul__")):=by
 unfold seqRepeat?
 rw [PySem.seqSlot_of (T:="tuple") (name:="__mul__") (id:="tuple.__mul__") F.slot_tuple_mul.lookup (by decide +kernel),PySem.seqSlot_of (T:="tuple") (name:="__rmul__") (id:="tuple.__rmul__") F.slot_tuple_rmul.lookup (by decide +kernel)]
 rfl
def tJ (a:Int) (t:Tok) (l:Addr) (its:Array Value) (n:Nat) (dd:Option Addr) (sl:Array (Option Value)) :
  Meets (Builtin.«int.__rmul__» ⟨[.int a t,.ref l],[]⟩) (fun _ R s=>s.heap.get? l=some {cls:=.type "tuple",dict:=dd,data:=.seq its n,slots:=sl}/\R (.ok (.ret Value.notImplemented)) s):=
 .of_wp fun prog w A R s h=>by
  obtain ⟨hp,g,d,tk,os⟩:=s;obtain ⟨hl,h⟩:=h;wp_walk;exact ⟨_,rfl,h⟩
def vK (l:Addr) (its:Array Value) (n:Nat) (dd:Option Addr) (sl:Array (Option Value)) (x:Int) (u:Tok) (h1:1<x) (h2:x<=1000) (h3:its.isEmpty=false) (h4:its.size<=1000) :
  Meets (Builtin.«tuple.__mul__» ⟨[.ref l,.int x u],[]⟩) (fun _ R s=>s.heap.get? l=some {cls:=.type "tuple",dict:=dd,data:=.seq its n,slots:=sl}/\R (.ok (.ret (Value.ref s.heap.objs.size))) {s with heap:=s.heap.push {cls:=Value.type "tuple",data:=Data.seq (List.foldl (fun x1 x2=>x1++x2) #[] (List.replicate x.toNat its))},toks:=s.toks}):=
 .of_wp fun prog w A R s h=>by
  obtain ⟨hp,g,d,tk,os⟩:=s;obtain ⟨hl,h⟩:=h
  wp_walk
  refine wpAny_ite_false (by rw [decide_eq_false (by omega:¬ x < -2^63),decide_eq_false (by omega:¬ x ≥ 2^63)];rfl) ?_
  wp_walk
  refine wpAny_ite_false (by rw [h3];simp;omega) ?_
  wp_walk
  refine wpAny_ite_false (by rw [h3];simp;omega) ?_
  wp_walk
  have hm:(its.size:Int)*x<=1000*1000:=Int.le_trans (Int.mul_le_mul_of_nonneg_right (by omega) (by omega)) (Int.mul_le_mul_of_nonneg_left h2 (by omega))
  refine wpAny_ite_false (by simp;omega) ?_
  wp_walk
  have hL:(sizeLine:Int)=16777216:=by rw [sizeLine_eq];rfl
  refine wpAny_ite_false (by unfold Builtin.Tuple.tupleTooMany;rw [hL,decide_eq_false_iff_not,decide_eq_true_eq];omega) ?_
  wp_walk
  have hfs:(List.foldl (fun x1 x2=>x1++x2) #[] (List.replicate x.toNat its)).size<=sizeLine:=by
   have h5:=gd its.toList x.toNat []
   rw [List.nil_append,Array.toArray_toList] at h5
   rw [show (#[]:Array Value)=[].toArray from rfl,h5,List.size_toArray,lD,Array.length_toList,sizeLine_eq]
   exact Nat.le_trans (Nat.mul_le_mul (by omega:x.toNat<=1000) h4) (by decide)
  refine wpAny_ite_false (decide_eq_false (Nat.not_lt.mpr hfs)) ?_
  wp_walk
  exact ⟨_,rfl,h⟩
def w8 (K:PySem.W.Frag):R2:=fun x y H Q=>∃ a k xs,x=.ref a/\y=.int k/\SqT K H a xs/\1<k/\k<=1000/\xs≠[]/\xs.length<=1000/\∀ p,H p=none->Q (.ref p) (upd H p (.tup (List.replicate k.toNat xs).flatten))
def vM {X:Cx}:OpR X (binaryOp .Mult) (w8 X.K):=by
 intro pins s σ H x y v u Q I rx ry h
 obtain ⟨a,k,xs,rfl,rfl,hT,h1,h2,hne,hl,q⟩:=h
 cases rx
 obtain ⟨t,rfl⟩:=ry
 obtain ⟨its,r,pl,hz⟩:=I.tuple hT
 obtain ⟨⟨cls,dd,data,sl⟩,ho,hc,n,hd⟩:=id pl
 simp only at hc hd
 subst hc hd
 have hlen:=r.length
 have hemp:its.toArray.isEmpty=false:=by
  cases its with
  | nil=>cases r;exact absurd rfl hne
  | cons i r=>rfl
 have hsz:its.toArray.size<=1000:=by rw [List.size_toArray];omega
 refine wpAny_binaryOp_repeat_ref (T:="tuple") (U:="int") (by decide) ⟨_,ho,rfl⟩ (fun s'=>typeIs_int s' k t) j2 F.fills_int_mul F.slot_int_rmul vJ F.slot_int_index.lookup
  (call_meets F.slot_int_rmul (typeIs_int s k t) F.entry_int_rmul (F.args_int_rmul_2 _ _) (tJ k t a its.toArray n dd sl)
   ⟨ho,rfl,⟨_,ho,rfl⟩,call_meets F.slot_tuple_mul ⟨_,ho,rfl⟩ F.entry_tuple_mul (F.args_tuple_mul_2 _ _) (vK a its.toArray n dd sl k t h1 h2 hemp hsz) ⟨ho,?_⟩⟩)
 have hnew:List.foldl (fun x1 x2=>x1++x2) #[] (List.replicate k.toNat its.toArray)=(List.replicate k.toNat its).flatten.toArray:=by
  have:=gd its k.toNat []
  rw [List.nil_append] at this
  exact this
 rw [hnew]
 refine ⟨.ref s.heap.objs.size,_,I.laid (t':=s.toks) (o:=.tup (List.replicate k.toNat xs).flatten) (fun b ob q=>gP _ q) (nL _) ⟨?_,_,r.rep k.toNat,IsTup.new _ _⟩,rfl,q _ (I.hok.fresh (nL _))⟩
 rw [lD,sizeLine_eq]
 exact Nat.le_trans (Nat.mul_le_mul (by omega:k.toNat<=1000) hl) (by decide)
def nc {K:PySem.W.Frag} {F:Hp}:∀ {l m:List Dt} {vs ws:List V},Reps K F l vs->Reps K F m ws->Reps K F (l++m) (vs++ws)
 | [],m,vs,ws,h,h'=>by simp only [Reps] at h;subst h;exact h'
 | d::l,m,vs,ws,h,h'=>by
  simp only [Reps] at h
  obtain ⟨v,us,rfl,h1,h2⟩:=h
  simp only [List.cons_append,Reps]
  exact ⟨v,_,rfl,h1,nc h2 h'⟩
def ng {K:PySem.W.Frag} {F:Hp} {l:List Dt} {vs:List V} (h:Reps K F l vs):∀ k:Nat,Reps K F (List.replicate k l).flatten (List.replicate k vs).flatten
 | 0=>by simp only [List.replicate_zero,List.flatten_nil,Reps]
 | k+1=>by
  rw [List.replicate_succ,List.replicate_succ,List.flatten_cons,List.flatten_cons]
  exact nc h (ng h k)
def ni:Dt->Dt->Option T
 | .tup l,.int k=>if 1<k/\k<=1000/\l.isEmpty=false/\l.length<=1000 then some (.leaf (.tup (List.replicate k.toNat l).flatten)) else none
 | _,_=>none
def yt {K:PySem.W.Frag}:R2D K (w8 K) ni:=by
 intro F H x y vx vy Q t fh rx ry hg k
 unfold ni at hg
 split at hg<;>first | (cases hg;done) | skip
 rename_i l j
 split at hg<;>cases hg
 rename_i hz
 obtain ⟨a,vs,rfl,h1,h2⟩:=rx
 cases ry
 refine ⟨a,j,vs,rfl,rfl,fh.tup h1,hz.1,hz.2.1,fun e=>?_,by rw [h2.length];exact hz.2.2.2,fun p hp=>k.tup fh (ng h2 _) hp⟩
 have:=h2.length
 rw [e] at this
 cases l with
 | nil=>exact absurd hz.2.2.1 (by simp)
 | cons _ _=>simp at this
def kj (ch:CH):CV->Option (List CV)
 | .dat (.tup ds)=>some (ds.map .dat)
 | .ref i=>match ch[i]? with
  | some (.tup l)=>some l
  | _=>none
 | _=>none
section
variable {K:PySem.W.Frag} {F H:Hp} {ρ:Nat->Addr} {ch:CH} {c:CV} {v:V}
def iC (g:Gh K F H ρ ch) {l:List CV} (h:kj ch c=some l) (r:RelC K F ρ ch.length c v):∃ a vs,v=.ref a/\SqT K H a vs/\RelCs K F ρ ch.length l vs:=by
 unfold kj at h
 split at h
 · rename_i ds
   cases h
   have r:Rep K F (.tup ds) v:=r
   simp only [Rep] at r
   obtain ⟨a,vs,rfl,h1,h2⟩:=r
   exact ⟨a,vs,rfl,g.fh.tup h1,RelCs.dats h2⟩
 · rename_i i
   split at h<;>cases h
   rename_i ho
   obtain ⟨vs,h1,h2⟩:=g.ok i _ ho
   exact ⟨_,vs,r.2,SqT.of h1,h2⟩
 · cases h
end
section
variable {X:Cx} {e a b o iter tg:Expr} {es:List Expr} {body:List Stmt} {g:Fs} {f fa fb fc fe fk:Fg} {fs:Fgs} {pos apos cpos tpos p:Pos} {sc:Scope} {x:Str} {K:PySem.W.Frag}
noncomputable def eTa (fa fb:Fg):Fg:=fun δ ch=>(fa δ ch).bind fun p=>(fb δ p.2).bind fun q=>(kj q.2 p.1).bind fun xs=>(kj q.2 q.1).bind fun ys=>if xs.isEmpty=false/\ys.isEmpty=false/\xs.length+ys.length<=sizeLine then some (.ref q.2.length,q.2++[.tup (xs++ys)]) else none
def w9 (ha:GE X a fa) (hb:GE X b fb):GE X (.BinOp a .Add b pos) (eTa fa fb):=PE.mono (oZ o9 ha hb) fun σ H Q ⟨δ,ch,F,ρ,c,ch',en,hf,kk⟩=>by
 unfold eTa at hf
 obtain ⟨⟨c1,ch1⟩,hp,hf1⟩:=bS hf
 clear hf
 obtain ⟨⟨c2,ch2⟩,hq,hf2⟩:=bS hf1
 clear hf1
 obtain ⟨xs,hx,hf3⟩:=bS hf2
 clear hf2
 obtain ⟨ys,hy,hf4⟩:=bS hf3
 clear hf3
 dsimp only at hq hx hy hf4
 split at hf4<;>cases hf4
 rename_i hz
 refine ⟨δ,ch,F,ρ,_,ch1,en,hp,fun v F1 H1 ρ1 a1 r1=>⟨δ,ch1,F1,ρ1,_,ch2,en.adv a1,hq,fun w F2 H2 ρ2 a2 r2=>?_⟩⟩
 obtain ⟨a',vs,rfl,h1,h2⟩:=iC a2.gh hx (r1.mono a2.old a2.ext a2.len)
 obtain ⟨b',ws,rfl,h3,h4⟩:=iC a2.gh hy r2
 have l1:=h2.length
 have l2:=h4.length
 refine ⟨a',b',vs,ws,rfl,rfl,h1,h3,fun z=>?_,by omega,fun z=>?_,fun _ q hq2=>?_⟩
 · rw [z] at l1
   cases xs with
   | nil=>exact absurd hz.1 (by simp)
   | cons _ _=>simp at l1
 · rw [z] at l2
   cases ys with
   | nil=>exact absurd hz.2.1 (by simp)
   | cons _ _=>simp at l2
 · refine kk (.ref q) F2 _ _ ((a1.trans en.gh a2).trans en.gh (gY (o:=.tup (xs++ys)) a2.gh hq2 ⟨_,az,h2.append h4⟩)) ⟨by simp,?_⟩
   dsimp only
   rw [if_pos rfl]
abbrev Fb:=CV->CH->Sl->Option Sl
abbrev Fbs:=List CV->CH->Sl->Option Sl
def tGG (K:PySem.W.Frag) (b:Fb):TG:=fun v σ H Q=>∃ δ ch F ρ c δ',Ge K δ ch σ F H ρ/\RelC K F ρ ch.length c v/\b c ch δ=some δ'/\∀ σ',Ge K δ' ch σ' F H ρ->Q σ' H
def tGGs (K:PySem.W.Frag) (b:Fbs):TGs:=fun vs σ H Q=>∃ δ ch F ρ cs δ',Ge K δ ch σ F H ρ/\RelCs K F ρ ch.length cs vs/\b cs ch δ=some δ'/\∀ σ',Ge K δ' ch σ' F H ρ->Q σ' H
def GG (X:Cx) (tg:Expr) (b:Fb):Prop:=PG X tg (tGG X.K b)
def GGs (X:Cx) (es:List Expr) (b:Fbs):Prop:=PGs X es (tGGs X.K b)
def ggN (i:Nat):Fb:=fun c _ δ=>some (δ.set i (some c))
def cO {i:Nat} (h:PG X tg (iY i)):GG X tg (ggN i):=PG.mono h fun v σ H Q ⟨δ,ch,F,ρ,c,δ',en,r,hb,k⟩=>by
 cases hb
 exact k _ (en.put r i)
def d7:Fbs:=fun cs _ δ=>match cs with
 | []=>some δ
 | _=>none
def bv (b:Fb) (bs:Fbs):Fbs:=fun cs ch δ=>match cs with
 | c::r=>(b c ch δ).bind (bs r ch)
 | []=>none
def PGs.mono {t t':TGs} (h:PGs X es t) (m:∀ v σ H Q,t' v σ H Q->t v σ H Q):PGs X es t':=fun pins s σ H v u Q I r q=>h pins s σ H v u Q I r (m _ _ _ _ q)
def iD:GGs X [] d7:=PGs.mono oY fun v σ H Q ⟨δ,ch,F,ρ,cs,δ',en,r,hb,k⟩=>by
 unfold d7 at hb
 split at hb<;>cases hb
 exact ⟨r,k σ en⟩
def b8 {b:Fb} {bs:Fbs} (h:GG X e b) (hr:GGs X es bs) (hs:(assignEach (e::es) X.env).map (·.2)=assign e X.env::(assignEach es X.env).map (·.2):=by rfl):GGs X (e::es) (bv b bs):=PGs.mono (mD h hr hs) fun v σ H Q ⟨δ,ch,F,ρ,cs,δ',en,r,hb,k⟩=>by
 unfold bv at hb
 split at hb<;>first | (cases hb;done) | skip
 obtain ⟨δ1,h1,h2⟩:=bS hb
 obtain ⟨v1,ws,rfl,r1,r2⟩:=r
 exact ⟨v1,ws,rfl,δ,ch,F,ρ,_,δ1,en,r1,h1,fun σ' en'=>⟨δ1,ch,F,ρ,_,δ',en',r2,h2,k⟩⟩
def PG.or {t t':TG} (h:PG X tg t) (h':PG X tg t'):PG X tg (fun v σ H Q=>t v σ H Q∨t' v σ H Q):=fun pins s σ H v u Q I r q=>q.elim (h pins s σ H v u Q I r) (h' pins s σ H v u Q I r)
def tK (ch:CH):CV->Option (List CV)
 | .dat (.lst ds)=>some (ds.map .dat)
 | .ref i=>match ch[i]? with
  | some (.lst l)=>some l
  | _=>none
 | _=>none
def vN {F H:Hp} {ρ:Nat->Addr} {ch:CH} {c:CV} {v:V} (g:Gh K F H ρ ch) {l:List CV} (h:tK ch c=some l) (r:RelC K F ρ ch.length c v):∃ a vs,v=.ref a/\SqL K H a vs/\RelCs K F ρ ch.length l vs:=by
 unfold tK at h
 split at h
 · rename_i ds
   cases h
   have r:Rep K F (.lst ds) v:=r
   simp only [Rep] at r
   obtain ⟨a,vs,rfl,h1,h2⟩:=r
   exact ⟨a,vs,rfl,Same.seq g.fh h1,RelCs.dats h2⟩
 · rename_i i
   split at h<;>cases h
   rename_i ho
   obtain ⟨vs,h1,h2⟩:=g.ok i _ ho
   exact ⟨_,vs,r.2,SqL.of h1,h2⟩
 · cases h
def ggT (n:Nat) (bs:Fbs):Fb:=fun c ch δ=>match tK ch c with
 | some l=>if l.length=n then bs l ch δ else none
 | none=>(kj ch c).bind fun l=>if l.length=n then bs l ch δ else none
def j3 {k n:Nat} {bs:Fbs} (hc:X.calm=true) (h:GGs X es bs) (hn:(assignEach es X.env).length=n:=by rfl) (hst:(assignEach es X.env).findIdx? (·.1)=none:=by rfl):GG X (.Tuple es k pos) (ggT n bs):=
 PG.mono (PG.or (ym hc h hn hst) (rG hc h hn hst)) fun v σ H Q ⟨δ,ch,F,ρ,c,δ',en,r,hb,q⟩=>by
  unfold ggT at hb
  split at hb
  · rename_i l hl
    split at hb<;>first | (cases hb;done) | skip
    rename_i hz
    obtain ⟨a,vs,rfl,h1,h2⟩:=vN en.gh hl r
    exact .inl ⟨a,vs,rfl,h1,by rw [h2.length];exact hz,δ,ch,F,ρ,l,δ',en,h2,hb,q⟩
  · obtain ⟨l,hl,hb1⟩:=bS hb
    split at hb1<;>first | (cases hb1;done) | skip
    rename_i hz
    obtain ⟨a,vs,rfl,h1,h2⟩:=iC en.gh hl r
    exact .inr ⟨a,vs,rfl,h1,by rw [h2.length];exact hz,δ,ch,F,ρ,l,δ',en,h2,hb1,q⟩
def jo (fe:Fg) (b:Fb):Fs:=fun δ ch=>(fe δ ch).bind fun p=>(b p.1 p.2 δ).map fun δ'=>.nx δ' p.2
def pZ {b:Fb} (he:GE X e fe) (hg:GG X tg b) (hs:swapsWithSole [tg] e pos.line X.env=pure false:=by rfl) (hw:swappedStores [tg] e X.env=pure none:=by rfl)
  (h1:(assignEach [tg] X.env).map (·.2)=[assign tg X.env]:=by rfl):GS1 X (.Assign [tg] e pos) (jo fe b):=PS.mono (nN he hg hs hw h1) fun D σ H ⟨δ,ch,F,ρ,o,en,hg,k⟩=>by
 unfold jo at hg
 obtain ⟨p,hp,hg1⟩:=bS hg
 obtain ⟨δ',hb,hg2⟩:=mS hg1
 cases hg2
 exact ⟨δ,ch,F,ρ,p.1,p.2,en,hp,fun v F' H' ρ' a r=>⟨δ,p.2,F',ρ',p.1,δ',en.adv a,r,hb,fun σ' en'=>k σ' F' H' ρ' a en'⟩⟩
noncomputable def iT (i:Nat) (b:Fb) (g:Fs):Nat->Nat->Sl->CH->Option Og
 | 0,_,_,_=>none
 | n+1,k,δ,ch=>match ch[i]? with
  | some (.lst l)=>match l[k]? with
   | none=>some (.nx δ ch)
   | some c=>(b c ch δ).bind fun δ1=>(g δ1 ch).bind fun o=>match o with
    | .nx δ2 ch2=>iT i b g n (k+1) δ2 ch2
    | .ct δ2 ch2=>iT i b g n (k+1) δ2 ch2
    | .bk δ2 ch2=>some (.nx δ2 ch2)
    | .rt c ch2=>some (.rt c ch2)
  | _=>none
def iU (fd:Fg) (b:Fb) (g:Fs) (n:Nat):Fs:=fun δ ch=>(fd δ ch).bind fun p=>match p.1 with
 | .ref i=>iT i b g n 0 δ p.2
 | _=>none
def vO {b:Fb} (n:Nat) (hp:PassesOwn (model X.prog X.w) X.A X.env X.xe) (hc:X.calm=true) (hd:GE X iter fa) (hg:GG X tg b) (hb:GS X body g)
  (hs:∀ x,foldedSetIterable iter X.env x=pure x:=by intro _;rfl):GS1 X (.For tg iter body [] pos) (iU fa b g n):=PS.mono (jF hp hc (lv hd) hg hb hs) fun D σ H ⟨δ,ch,F,ρ,og,en,hgg,k⟩=>by
 unfold iU at hgg
 obtain ⟨⟨c1,ch1⟩,hpp,hg1⟩:=bS hgg
 clear hgg
 dsimp only at hg1
 split at hg1<;>first | (cases hg1;done) | skip
 rename_i i
 rw [hZ]
 refine ⟨δ,ch,F,ρ,_,ch1,en,hpp,fun v F1 H1 ρ1 a1 r1=>?_⟩
 obtain ⟨hi,rfl⟩:=r1
 have en1:=en.adv a1
 have k1:=k.adv en.gh a1
 refine ⟨ρ1 i,rfl,?_,?_⟩
 · cases n with
   | zero=>cases hg1
   | succ n =>
    unfold iT at hg1
    split at hg1<;>first | (cases hg1;done) | skip
    rename_i l hl
    obtain ⟨vs,q1,_⟩:=a1.gh.ok i _ hl
    exact ⟨vs,SqL.of q1⟩
 refine ⟨fun j m σ' H'=>∃ δ' ch' F' ρ',Adv X.K F1 H1 ρ1 ch1 F' H' ρ' ch'/\Ge X.K δ' ch' σ' F' H' ρ'/\iT i b g m j δ' ch'=some og,⟨n,δ,ch1,F1,ρ1,Adv.refl a1.gh,en1,hg1⟩,?_⟩
 rintro j m σ' H' ⟨δ',ch',F',ρ',a',en',hgo⟩
 cases m with
 | zero=>cases hgo
 | succ m =>
  unfold iT at hgo
  split at hgo<;>first | (cases hgo;done) | skip
  rename_i l hl
  obtain ⟨vs,q1,q2⟩:=a'.gh.ok i _ hl
  rw [a'.ext i hi] at q1
  split at hgo
  · rename_i hj
    cases hgo
    refine .inl ⟨⟨vs,SqL.of q1,?_⟩,k1 σ' F' H' ρ' a' en'⟩
    rw [q2.length]
    exact List.getElem?_eq_none_iff.mp hj
  · rename_i c hj
    obtain ⟨δ1,z1,hgo1⟩:=bS hgo
    obtain ⟨o1,z2,hgo2⟩:=bS hgo1
    clear hgo hgo1
    obtain ⟨v,hv,rv⟩:=q2.get hj
    refine .inr ⟨⟨vs,v,SqL.of q1,hv⟩,fun σ2 H2=>∃ δ' ch' F' ρ',Adv X.K F1 H1 ρ1 ch1 F' H2 ρ' ch'/\Ge X.K δ' ch' σ2 F' H2 ρ'/\iT i b g m (j+1) δ' ch'=some og,fun σ2 H2 z=>⟨m,by omega,z⟩,fun x H'' hy=>?_⟩
    obtain ⟨rfl,hy⟩:=hy
    have hx:=hy vs (SqL.of q1)
    rw [hv] at hx
    cases hx
    refine ⟨δ',ch',F',ρ',c,δ1,en',rv,z1,fun σ1 en2=>⟨δ1,ch',F',ρ',o1,en2,z2,?_⟩⟩
    cases o1 with
    | nx δ2 c2=>exact fun σ2 F3 H3 ρ3 a4 en4=>⟨δ2,c2,F3,ρ3,a'.trans a1.gh a4,en4,hgo2⟩
    | ct δ2 c2=>exact fun σ2 F3 H3 ρ3 a4 en4=>⟨δ2,c2,F3,ρ3,a'.trans a1.gh a4,en4,hgo2⟩
    | bk δ2 c2=>cases hgo2;exact fun σ2 F3 H3 ρ3 a4 en4=>k1 σ2 F3 H3 ρ3 (a'.trans a1.gh a4) en4
    | rt c c2=>cases hgo2;exact fun v F3 H3 ρ3 a4 r=>k1 v F3 H3 ρ3 (a'.trans a1.gh a4) r
def fL {α β:Type} (f:α->Option β):List α->Option (List β)
 | []=>some []
 | a::l=>(f a).bind fun b=>(fL f l).map (b::·)
noncomputable def vwD (ch:CH):Nat->CV->Option Dt
 | _,.dat d=>some d
 | 0,.ref _=>none
 | n+1,.ref i=>match ch[i]? with
  | some (.lst l)=>(fL (vwD ch n) l).map .lst
  | some (.tup l)=>(fL (vwD ch n) l).map .tup
  | some (.dK l)=>(fL (vwD ch n) (l.map (·.2))).map (.dct (l.map (·.1)))
  | some (.dT l)=>(fL (vwD ch n) (l.map (·.2))).map (.dcT (l.map (·.1)))
  | _=>none
def eR {F H:Hp} {ρ:Nat->Addr} {m:Nat} {f:CV->Option Dt} (hf:∀ c v d,RelC K F ρ m c v->f c=some d->Rep K H d v):∀ {l:List CV} {ds:List Dt} {vs:List V},RelCs K F ρ m l vs->fL f l=some ds->Reps K H ds vs
 | [],ds,vs,r,h=>by cases h;simp only [Reps];exact r
 | c::l,ds,vs,r,h=>by
  simp only [fL] at h
  obtain ⟨d,hd,h⟩:=bS h
  obtain ⟨es,he,rfl⟩:=mS h
  obtain ⟨v,ws,rfl,r1,r2⟩:=r
  simp only [Reps]
  exact ⟨v,ws,rfl,hf c v d r1 hd,eR hf r2 he⟩
def mi {F H:Hp} {ρ:Nat->Addr} {ch:CH} (gh:Gh K F H ρ ch):∀ (n:Nat) (c:CV) (v:V) (d:Dt),RelC K F ρ ch.length c v->vwD ch n c=some d->Rep K H d v
 | 0,.dat d',v,d,r,h=>by simp only [vwD] at h;cases h;exact Rep.same gh.fh r
 | n+1,.dat d',v,d,r,h=>by simp only [vwD] at h;cases h;exact Rep.same gh.fh r
 | 0,.ref i,v,d,r,h=>by simp only [vwD] at h;cases h
 | n+1,.ref i,v,d,r,h=>by
  obtain ⟨hi,rfl⟩:=r
  simp only [vwD] at h
  have ih:=mi gh n
  split at h
  · rename_i l hl
    obtain ⟨ds,hd,rfl⟩:=mS h
    obtain ⟨vs,h1,h2⟩:=gh.ok i _ hl
    simp only [Rep]
    exact ⟨_,vs,rfl,SqL.of h1,eR ih h2 hd⟩
  · rename_i l hl
    obtain ⟨ds,hd,rfl⟩:=mS h
    obtain ⟨vs,h1,h2⟩:=gh.ok i _ hl
    simp only [Rep]
    exact ⟨_,vs,rfl,SqT.of h1,eR ih h2 hd⟩
  · rename_i l hl
    obtain ⟨ds,hd,rfl⟩:=mS h
    obtain ⟨vs,h1,h2,h3⟩:=gh.ok i _ hl
    simp only [Rep]
    exact ⟨_,vs,rfl,.inl h1,h2,eR ih h3 hd⟩
  · rename_i l hl
    obtain ⟨ds,hd,rfl⟩:=mS h
    obtain ⟨vs,h1,h2,h3⟩:=gh.ok i _ hl
    simp only [Rep]
    exact ⟨_,vs,rfl,.inl h1,h2,eR ih h3 hd⟩
  · cases h
def e2D (m:Nat) (g:Dt->Dt->Option T) (fa fb:Fg):Fg:=fun δ ch=>(fa δ ch).bind fun p=>(fb δ p.2).bind fun q=>(vwD q.2 m p.1).bind fun x=>(vwD q.2 m q.1).bind fun y=>(g x y).bind fun u=>(sW u).bind (al q.2)
def tM {m:Nat} {r:R2} {g:Dt->Dt->Option T} {σ:St} {H:Hp} {Q:VK} (hr:R2D K r g) (h:tG K (e2D m g fa fb) σ H Q):tOp r (tG K fa) (tG K fb) σ H Q:=by
 obtain ⟨δ,ch,F,ρ,c,ch',en,hf,k⟩:=h
 unfold e2D at hf
 obtain ⟨p,hp,hf⟩:=bS hf
 obtain ⟨q,hq,hf⟩:=bS hf
 obtain ⟨x,hx,hf⟩:=bS hf
 obtain ⟨y,hy,hf⟩:=bS hf
 obtain ⟨u,hu,hf⟩:=bS hf
 obtain ⟨t,ht,hf⟩:=bS hf
 refine ⟨δ,ch,F,ρ,p.1,p.2,en,hp,fun v F1 H1 ρ1 a1 r1=>⟨δ,p.2,F1,ρ1,q.1,q.2,en.adv a1,hq,fun w F2 H2 ρ2 a2 r2=>?_⟩⟩
 exact hr H2 H2 x y v w Q u (Same.refl _) (RepB.of (Same.refl _) (mi a2.gh m _ _ _ (r1.mono a2.old a2.ext a2.len) hx)) (RepB.of (Same.refl _) (mi a2.gh m _ _ _ r2 hy)) hu (sX a2.gh.fh ht (m5 a2.gh hf (k.adv en.gh (a1.trans en.gh a2))))
def p5 (m:Nat) {op:CmpOp} {r:R2} {g:Dt->Dt->Option T} (ho:OpR X (compareOp op) r) (hr:R2D X.K r g) (ha:GE X a fa) (hb:GE X b fb) (hm:behindInMarks op b=false):GT X (.Compare a [op] [b] pos) (fK (e2D m g fa fb)):=
 PT.mono (lx ho ha hb hm) fun _ _ _ h=>tM hr (pS h)
def vP (m:Nat) {op:CmpOp} {r:R2} {g:Dt->Dt->Option T} (ho:OpR X (compareOp op) r) (hr:R2D X.K r g) (ha:GE X a fa) (hb:GE X b fb) (hm:behindInMarks op b=false):GE X (.Compare a [op] [b] pos) (e2D m g fa fb):=PE.mono (o6 ho ha hb hm) fun _ _ _ h=>tM hr h
end
set_option maxRecDepth 20000
def xa (i j:Int):Prop:=0<j/\j<18446744073709551616
def nj {X:Cx}:OpR X (binaryOp .FloorDiv) (rI xa fun i j=>.int (i/j)):=opI fun i j _ _ _ _ _ hc q=>by
 have h1:(0:Int)<j:=hc.1
 have h2:j<18446744073709551616:=hc.2
 refine floordiv_int (by omega) (by rw [Int.fdiv_eq_ediv_of_nonneg i (by omega)];exact q) (.inl (PyProof.noPylong_of_log2 ?_))
 have h3:j.natAbs≠0:=by omega
 exact Nat.lt_trans ((Nat.log2_lt h3).mpr (show j.natAbs<2^64 by omega)) (by decide)
def fV:Dt->Dt->Option T
 | .int i,.int j=>if 0<j/\j<18446744073709551616 then some (.leaf (.int (i/j))) else none
 | _,_=>none
def tN {K:PySem.W.Frag}:R2D K (rI xa fun i j=>.int (i/j)) fV:=by
 intro F H x y vx vy Q t fh rx ry hg k
 unfold fV at hg
 split at hg<;>first | (cases hg;done) | skip
 split at hg
 · rename_i hc
   cases hg;cases rx;cases ry;exact ⟨_,_,rfl,rfl,hc,k.int fh⟩
 · cases hg
section
variable {K:PySem.W.Frag} {F:Hp} {ρ:Nat->Addr} {n:Nat}
def RelCs.drop:∀ {l:List CV} {vs:List V} (i:Nat),RelCs K F ρ n l vs->RelCs K F ρ n (l.drop i) (vs.drop i)
 | l,vs,0,h=>h
 | [],vs,i+1,h=>by
  cases (show vs=[] from h)
  exact rfl
 | c::l,vs,i+1,h=>by
  obtain ⟨v,ws,rfl,_,r⟩:=h
  exact RelCs.drop i r
def RelCs.take:∀ {l:List CV} {vs:List V} (i:Nat),RelCs K F ρ n l vs->RelCs K F ρ n (l.take i) (vs.take i)
 | l,vs,0,h=>by rw [List.take_zero,List.take_zero];exact rfl
 | [],vs,i+1,h=>by
  cases (show vs=[] from h)
  exact rfl
 | c::l,vs,i+1,h=>by
  obtain ⟨v,ws,rfl,r1,r⟩:=h
  exact ⟨v,ws.take i,rfl,r1,RelCs.take i r⟩
def RelCs.erase:∀ {l:List CV} {vs:List V} (i:Nat),RelCs K F ρ n l vs->RelCs K F ρ n (l.eraseIdx i) (vs.eraseIdx i)
 | [],vs,i,h=>by
  cases (show vs=[] from h)
  exact rfl
 | c::l,vs,0,h=>by
  obtain ⟨v,ws,rfl,_,r⟩:=h
  exact r
 | c::l,vs,i+1,h=>by
  obtain ⟨v,ws,rfl,r1,r⟩:=h
  exact ⟨v,ws.eraseIdx i,rfl,r1,RelCs.erase i r⟩
end
def qW {j:Int} {n:Nat} (h0:0<=j) (h1:j<n):seqIndex? j n=some j.toNat:=by
 unfold seqIndex?
 have e:(if j<0 then j+(n:Int) else j)=j:=if_neg (by omega)
 simp only [e]
 rw [if_pos (by simp [h0,h1])]
section
variable {X:Cx} {e a b o iter tg:Expr} {es:List Expr} {body:List Stmt} {g:Fs} {f fa fb fc fe fk:Fg} {fs:Fgs} {pos apos cpos tpos p:Pos} {sc:Scope} {x:Str} {K:PySem.W.Frag}
noncomputable def qX (fa fe:Fg):Fg:=fun δ ch=>(fa δ ch).bind fun p=>(fe δ p.2).bind fun q=>match p.1,q.1 with
 | .ref i,.dat (.int j)=>match p.2[i]?,q.2[i]? with
  | some (.lst _),some (.lst l)=>if 0<=j/\j<l.length/\l.length<=1000000 then (l[j.toNat]?).map fun c=>(c,q.2.set i (.lst (l.eraseIdx j.toNat))) else none
  | _,_=>none
 | _,_=>none
def yu (hx:GE X o fa) (he:GE X e fe)
  (hbase:attributeBase o "pop" X.env (eval o X.env)=eval o X.env:=by rfl)
  (hfew:((backTo cpos (starEach [e] X.env)).all (fun x=>!x.1)&&(backToKw cpos (keywordEach [] X.env)).all (fun x=>x.1.isSome)
   && decide ([e].length+([]:List Keyword).length+(if ([]:List Keyword).isEmpty then 0 else 1)<30))=true:=by rfl)
  (hline:(apos.endLine==cpos.line)=true:=by rfl) (hs:starEach [e] X.env=(false,eval e X.env)::starEach [] X.env:=by rfl) (hplain:(backTo cpos (starEach [] X.env)).any (·.1)=false:=by rfl) :
  GE X (.Call (.Attribute o "pop" apos) [e] [] cpos) (qX fa fe):=
 PE.mono (mI PySem.F.plainAttrs_list PySem.F.slot_list_pop PySem.F.type_list_pop rZ hx (dX he fM hs) hbase hfew hline hs hplain) fun σ H Q ⟨δ,ch,F,ρ,c,ch',en,hf,kk⟩=>by
  unfold qX at hf
  obtain ⟨⟨c1,ch1⟩,hp,hg1⟩:=bS hf
  clear hf
  obtain ⟨⟨c2,ch2⟩,hq,hg⟩:=bS hg1
  clear hg1
  dsimp only at hq hg
  split at hg<;>first | (cases hg;done) | skip
  rename_i i j
  split at hg<;>first | (cases hg;done) | skip
  rename_i l0 l h0 h1
  split at hg<;>first | (cases hg;done) | skip
  rename_i hz
  obtain ⟨c0,hc0,hg2⟩:=mS hg
  cases hg2
  refine ⟨δ,ch,F,ρ,_,ch1,en,hp,fun v F1 H1 ρ1 a1 r1=>?_⟩
  obtain ⟨vs0,q0,_⟩:=a1.gh.ok i _ h0
  obtain ⟨hi,rfl⟩:=r1
  refine ⟨.inl ⟨rfl,vs0,.inl (.inl q0)⟩,δ,ch1,F1,ρ1,_,ch2,en.adv a1,hq,fun w F2 H2 ρ2 a2 r2=>?_⟩
  obtain ⟨vs,q1,q2⟩:=a2.gh.ok i _ h1
  rw [a2.ext i hi] at q1
  obtain ⟨y,hy,ry⟩:=q2.get hc0
  have hw:w=.int j:=r2
  subst hw
  have hi2:i<ch2.length:=(gX h1).1
  have hl:=q2.length
  refine ⟨_,vs,j,j.toNat,y,rfl,rfl,q1,by omega,by omega,?_,hy,?_⟩
  · rw [hl]
    exact qW hz.1 hz.2.1
  · have a3:=Adv.upd (o:=.lst (l.eraseIdx j.toNat)) (u:=.lst (vs.eraseIdx j.toNat)) (w:=.lst vs) a2.gh hi2 (by rw [a2.ext i hi];exact q1) (fun _ _ z=>nomatch z) ⟨_,az,q2.erase _⟩
    rw [a2.ext i hi] at a3
    exact kk y F2 _ ρ2 ((a1.trans en.gh a2).trans en.gh a3) (ry.mono a3.old a3.ext a3.len)
def yv (xs:List CV) (lo hi:Option Int):List CV:=(xs.drop (HT.sIx xs.length 0 lo)).take (HT.sIx xs.length xs.length hi-HT.sIx xs.length 0 lo)
noncomputable def qY (fa:Fg) (fl fh:De->Option (Option Int)):Fg:=fun δ ch=>(fa δ ch).bind fun p=>(fl (lo δ p.2)).bind fun l=>(fh (lo δ p.2)).bind fun h=>(kj p.2 p.1).bind fun xs =>
 if HT.sIx xs.length 0 l=0/\HT.sIx xs.length xs.length h=xs.length then none else some (.ref p.2.length,p.2++[.tup (yv xs l h)])
def yw {lo' hi':Option Expr} {p2:Pos} {fl fh:De->Option (Option Int)} (ha:GE X a fa) (hl:DP X lo' fl) (hh:DP X hi' fh):GE X (.Subscript a (.Slice lo' hi' none p2) pos) (qY fa fl fh):=
 PE.mono (mG rW ha hl hh) fun σ H Q ⟨δ,ch,F,ρ,c,ch',en,hf,kk⟩=>by
  unfold qY at hf
  obtain ⟨⟨c1,ch1⟩,hp,hf1⟩:=bS hf
  clear hf
  obtain ⟨l,hfl,hf2⟩:=bS hf1
  clear hf1
  obtain ⟨h,hfh,hf3⟩:=bS hf2
  clear hf2
  obtain ⟨xs,hx,hf4⟩:=bS hf3
  clear hf3
  dsimp only at hfl hfh hx hf4
  split at hf4<;>cases hf4
  rename_i hz
  refine ⟨δ,ch,F,ρ,_,ch1,en,hp,fun v F1 H1 ρ1 a1 r1=>⟨_,_,F1,l,rfl,(en.adv a1).en,hfl,fun H2 F2 s2=>?_⟩⟩
  have a2:=Adv.of a1.gh s2
  refine ⟨_,_,F2,h,rfl,((en.adv a1).adv a2).en,hfh,fun H3 F3 s3=>?_⟩
  have a3:=Adv.of a2.gh s3
  obtain ⟨a',vs,rfl,h1,h2⟩:=iC a3.gh hx ((r1.mono a2.old a2.ext a2.len).mono a3.old a3.ext a3.len)
  have hl:=h2.length
  refine ⟨a',vs,rfl,h1,by rw [hl];exact hz,fun q hq2=>?_⟩
  refine kk (.ref q) F3 _ _ (((a1.trans en.gh a2).trans en.gh a3).trans en.gh (gY (o:=.tup (yv xs l h)) a3.gh hq2 ⟨_,az,?_⟩)) ⟨by simp,?_⟩
  · unfold yv lz
    rw [hl]
    exact (h2.drop _).take _
  · dsimp only
    rw [if_pos rfl]
end
def vQ (lo st:Int) (n:Nat):It:=⟨fun i _=>i<n,fun i H x H'=>H'=H/\x=.int (lo+i*st),fun i _=>n<=i⟩
def nl {P:Program} {w:World} {K:PySem.W.Frag} {tg:Expr} (it:Addr) (lo st:Int) (n:Nat):Turn P w K tg (vQ lo st n) [it] it (fun i h=>IsRangeIter h it (lo+(i:Nat)*st) ((n:Int)-(i:Nat)) st) where
 mem:=by simp
 obj:=fun i h q b hb=>by
  have e:b=it:=by simpa using hb
  subst e
  exact ⟨_,q,fun v z=>by
   have z':Data.fields _=Data.cell v:=z
   cases z'⟩
 keep:=fun i h h' q k=>k it (by simp) _ q
 item:=by
  intro X hP hw hK hc i pins s σ H E I hf q hg
  subst hP hw hK
  obtain ⟨f0,f1,f2,f3,f4,f5⟩:=hf it (by simp)
  have W:=Walks.range (prog:=X.prog) (w:=X.w) (I.ok.hd hc) it lo st n
  refine W.item i s _ _ hg q fun v h' tk hv q' kk=>?_
  obtain ⟨t,rfl⟩:=hv
  have I1:Inv X pins σ H {s with heap:=h',toks:=tk}:=I.turned (fun b o hb e=>kk b o (by simpa using hb) e) f0 f1 f3 f4 f5
  exact ⟨_,rfl,jE (s:={s with heap:=h',toks:=tk}) (n:="range_iterator") q' rfl rfl (by decide) ⟨.int (lo+i*st),H,I1,⟨t,rfl⟩,⟨rfl,rfl⟩,q',fun b hb=>(hf b hb).1⟩⟩
 done:=by
  intro X hP hw hK hc i pins s σ H E I hf q hg
  subst hP hw hK
  obtain ⟨f0,f1,f2,f3,f4,f5⟩:=hf it (by simp)
  exact wpAny_pyNext_range_end (I.ok.hd hc) q (by have:n<=i:=hg;omega) fun h' eb=>⟨rfl,I.turned (t':=s.toks) (fun b o hb e=>eb b o hb e) f0 f1 f3 f4 f5⟩
 self:=fun _ _ _ _ _ q h=>wpAny_pyIter_rangeiter q h
def yx (a b c:Int):Bool:=decide (-1000000<=a)&&decide (a<=1000000)&&decide (-1000000<=b)&&decide (b<=1000000)&&decide (-1000000<=c)&&decide (c<=1000000)&&decide (c≠0)
structure R3 (a b c:Int):Prop where
 a0:-1000000<=a
 a1:a<=1000000
 b0:-1000000<=b
 b1:b<=1000000
 c0:-1000000<=c
 c1:c<=1000000
 c:c≠0
def zv {a b c:Int} (h:yx a b c=true):R3 a b c:=by
 unfold yx at h
 simp only [Bool.and_eq_true,decide_eq_true_eq] at h
 obtain ⟨⟨⟨⟨⟨⟨h1,h2⟩,h3⟩,h4⟩,h5⟩,h6⟩,h7⟩:=h
 exact ⟨h1,h2,h3,h4,h5,h6,h7⟩
def R3.size {a b c:Int} (h:R3 a b c):0<=Builtin.Range.rangeSize a b c/\Builtin.Range.rangeSize a b c<=2000001:=by
 obtain ⟨h1,h2,h3,h4,h5,h6,h7⟩:=h
 unfold Builtin.Range.rangeSize
 split
 · rename_i hc
   split
   · have e1:0<=(b-a-1)/c:=Int.ediv_nonneg (by omega) (by omega)
     have e2:(b-a-1)/c<=b-a-1:=Int.ediv_le_self _ (by omega)
     omega
   · omega
 · split
   · have e1:0<=(a-b-1) / -c:=Int.ediv_nonneg (by omega) (by omega)
     have e2:(a-b-1) / -c<=a-b-1:=Int.ediv_le_self _ (by omega)
     omega
   · omega
def qZ {a:Int} (h0:-9000000<=a) (h1:a<=9000000):Builtin.Range.rangeFitsLong a=true:=by
 unfold Builtin.Range.rangeFitsLong
 simp
 omega
def R3.small {a b c:Int} (h:R3 a b c):Builtin.Range.small a b c=true:=by
 have hs:=h.size
 obtain ⟨h1,h2,h3,h4,h5,h6,h7⟩:=h
 unfold Builtin.Range.small
 rw [qZ (a:=a) (by omega) (by omega),qZ (a:=b) (by omega) (by omega),qZ (a:=c) (by omega) (by omega),qZ (a:=Builtin.Range.rangeSize a b c) (by omega) (by omega)]
 simp only [Bool.and_self,Bool.true_and,Bool.or_eq_true]
 right
 split
 · exact qZ (by omega) (by omega)
 · exact qZ (by omega) (by omega)
section
variable {X:Cx} {tg:Expr}
def ra {pins:List (Addr×Obj)} {σ:St} {H:Hp} {s:Shared} {R:It->Hp->Prop} {E:Value->Shared->Prop} {a b c:Int} {t u v:Tok} {tk:Nat} (I:Inv X pins σ H s) (h:R3 a b c)
  (q:R (vQ a c (Builtin.Range.rangeSize a b c).toNat) H):wpAny (model X.prog X.w) X.A (pyIter (.ref s.heap.objs.size)) (PIE X pins σ tg R) E {s with heap:=s.heap.push {cls:=.type "range",data:=.fields #[.int a t,.int b u,.int c v]},toks:=tk}:=by
 refine wpAny_pyIter_range (IsRange.new ..) h.small ?_
 have I1:Inv X pins σ H {s with heap:=s.heap.push {cls:=.type "range",data:=.fields #[.int a t,.int b u,.int c v]},toks:=tk}:=I.kept fun b o e=>gP _ e
 refine ⟨(s.heap.push {cls:=.type "range",data:=.fields #[.int a t,.int b u,.int c v]}).objs.size,[(s.heap.push {cls:=.type "range",data:=.fields #[.int a t,.int b u,.int c v]}).objs.size],_,_,H,rfl,
  I1.kept (t':=tk) fun b o e=>gP _ e,nl _ a c (Builtin.Range.rangeSize a b c).toNat,?_,fun bb hb=>?_,q⟩
 · have e1:a+((0:Nat):Int)*c=a:=by simp
   have e2:(((Builtin.Range.rangeSize a b c).toNat:Nat):Int)-((0:Nat):Int)=Builtin.Range.rangeSize a b c:=by have:=h.size;omega
   show IsRangeIter _ _ (a+((0:Nat):Int)*c) ((((Builtin.Range.rangeSize a b c).toNat:Nat):Int)-((0:Nat):Int)) c
   rw [e1,e2]
   exact Heap.get?_push_size _ rfl
 · have e:bb=(s.heap.push {cls:=.type "range",data:=.fields #[.int a t,.int b u,.int c v]}).objs.size:=by simpa using hb
   subst e
   exact I1.fpOk (nL _) (I1.hok.fresh (nL _))
def zw (ta:TA):TI:=fun σ H R=>ta σ H fun vs H1=>∃ a b c:Int,vs=[.int a,.int b,.int c]/\R3 a b c/\R (vQ a c (Builtin.Range.rangeSize a b c).toNat) H1
def rb {a b c:Expr} {ta:TA} {p pos:Pos} (hg:Gl X "range") (hm:X.mg "range"=none) (ha:PA X [a,b,c] ta) (hs:starEach [a,b,c] X.env=[(false,eval a X.env),(false,eval b X.env),(false,eval c X.env)]:=by rfl) (hs2:starEach [b,c] X.env=[(false,eval b X.env),(false,eval c X.env)]:=by rfl) :
  PI X tg (.Call (.Name "range" p) [a,b,c] [] pos) (zw ta):=by
 intro pins s σ H R I h
 refine Call_ (jD I hg hm boot_range (PyProof.Rows.callWith_type1 (thn (ha pos pins s σ H _ I h) fun us s1 ⟨vs,H1,I1,r1,q1⟩=>?_) (by rw [hs,hs2]) (by rw [hs2];rfl)))
 obtain ⟨i,j,k,e,q0,q⟩:=q1
 subst e
 cases r1 with
 | cons r rr =>
  cases rr with
  | cons r' rr =>
   cases rr with
   | cons r'' rr =>
    cases rr
    obtain ⟨t,rfl⟩:=r
    obtain ⟨t',rfl⟩:=r'
    obtain ⟨t'',rfl⟩:=r''
    refine call_range_3 q0.c (ra I1 q0 q) (.inl (PyProof.noPylong_small ?_))
    have:=q0.c0
    have:=q0.c1
    omega
def iE (lo st:Int) (n:Nat):List V:=(List.range n).map fun (i:Nat)=>V.int (lo+i*st)
def plain_rangeS {lo st:Int} {n:Nat}:Plain (vQ lo st n) (iE lo st n) (fun _=>True):=fun i H h=>by
 refine ⟨fun hi=>?_,fun e=>?_,fun x H' hi y=>?_⟩
 · show i<n
   simpa [iE] using hi
 · show n<=i
   simp [iE] at e
   omega
 · obtain ⟨e,rfl⟩:=y
   refine ⟨e,?_⟩
   unfold iE at hi ⊢
   rw [List.length_map,List.length_range] at hi
   rw [List.getElem?_map,List.getElem?_range hi]
   rfl
def j4 (lo st:Int) (n:Nat):List Dt:=(List.range n).map fun (i:Nat)=>.int (lo+i*st)
def nn {K:PySem.W.Frag} {F:Hp} (lo st:Int) (n:Nat):Reps K F (j4 lo st n) (iE lo st n):=Reps.map (fun _=>gi) _
def tP:List Dt->Option (List Dt)
 | [.int a,.int b,.int c]=>if yx a b c then some (j4 a c (Builtin.Range.rangeSize a b c).toNat) else none
 | _=>none
variable {p pos:Pos} {sc:Scope} {x y z:Expr} {fs:De->Option (List Dt)}
def rc (h:bq sc "range"=true) (hm:X.mg "range"=none) (ha:DA X [x,y,z] fs) (e1:cW X sc:=by rfl) (hs:starEach [x,y,z] X.env=[(false,eval x X.env),(false,eval y X.env),(false,eval z X.env)]:=by rfl) (hs2:starEach [y,z] X.env=[(false,eval y X.env),(false,eval z X.env)]:=by rfl) :
  DIF X tg (.Call (.Name "range" p) [x,y,z] [] pos) (dO tP fs):=
 PI.mono (rb (glD h e1) hm ha.pa hs hs2) fun σ H R ⟨Φ,δ,F,ds,hK,en,hf,k⟩=>by
  unfold dO at hf
  obtain ⟨as,hd,hf⟩:=bS hf
  refine ⟨Φ,δ,F,as,hK,en,hd,fun vs H' F' st r=>?_⟩
  unfold tP at hf
  split at hf
  · rename_i i j l
    split at hf
    · rename_i hj
      cases hf
      simp only [Reps,Rep] at r
      obtain ⟨v,ws,rfl,rfl,w,us,rfl,rfl,w',us',rfl,rfl,rfl⟩:=r
      exact ⟨i,j,l,rfl,zv hj,k _ _ H' F' st (plain_rangeS.walk (nn _ _ _)) fun _ _=>trivial⟩
    · cases hf
  · cases hf
end
section
variable {X:Cx} {pins:List (Addr×Obj)} {σ:St} {H:Hp} {s:Shared} {a b:Addr} {v:V} {r:Value} {A:Around} {E:Value->Shared->Prop}
def yy {ks:List Key} (I:Inv X pins σ H s) (h:SqT X.K H b (ks.map kV)):(tupleKind (bp X.prog X.w)).is s.heap ks b:=by
 obtain ⟨its,q,t,_⟩:=I.tuple h
 obtain ⟨o,h1,h2,n,h3⟩:=(show s.heap.IsTuple b its.toArray from t)
 exact ⟨o,its.toArray,n,h1,h2,h3,by simpa using iL q⟩
def oG {kvs:List (List Key×V)} {k:List Key} {Q:Unit->Shared->Prop} (hu:A.units+1<cLine) (I:Inv X pins σ H s) (e:H a=some (.dT kvs)) (hb:SqT X.K H b (k.map kV)) (l:kvs.length<sizeLine) (hk:(dU kvs k).isSome=true) (rv:RelV v r) (h:∀ s',Inv X pins σ (upd H a (.dT (bO kvs k v))) s'->Q () s') :
  wpAny (model X.prog X.w) A (setItem (.ref a) (.ref b) r) Q E s:=by
 obtain ⟨z,hd,xs,rel,dd⟩:=wK I.hok e
 have hz:xs.length<=sizeLine:=by rw [<- Paired.length rel];exact z
 have hl:(bO kvs k v).length<=sizeLine:=by have:=dY kvs k v;omega
 refine wpAny_setItem_heap (hsz:=hz) (tupleKind_room_in1 hu) (yy I hb) dd fun h' dd' hs=>h _ ?_
 obtain ⟨q,es,ep,hq,h2,h3,h4,_,h5⟩:=dd'
 have ea:(kvs.any fun kv=>decide (kv.1=k))=(atKey xs k).isSome:=by
  rw [dL,(rel.val k).isSome_eq,Option.isSome_map]
 have put:KT H (bO kvs k v) (storedH xs k b r):=by
  unfold bO storedH
  rw [ea]
  have q:(atKey xs k).isSome=true:=by rw [<- ea,dL];exact hk
  rw [if_pos q,if_pos q]
  exact rel.repl k rv
 refine lE I (by rw [e];exact True.intro) hs ⟨q,hq⟩ ⟨hl,hd,_,put.keeps fun c ys ec=>?_,q,es,ep,hq,h2,h3,h4,h5⟩
 rw [aF (wx ec e (fun z=>nomatch z))]
 exact ec
end
noncomputable def yz (K:PySem.W.Frag) (td ty tv:TE):TS:=fun D σ H=>tv σ H fun v H1=>td σ H1 fun x H2=>ty σ H2 fun y H3=>∃ a b kvs k,x=.ref a/\y=.ref b/\H3 a=some (.dT kvs)/\SqT K H3 b (List.map kV k)/\kvs.length<sizeLine/\(dU kvs k).isSome=true/\D.nx σ (upd H3 a (.dT (bO kvs k v)))
section
variable {X:Cx} {o i e value:Expr} {pos pos' tpos:Pos} {td ty tv:TE} {fa fk fe:Fg}
def tQ (hu:X.A.units+1<cLine) (ho:PE X o td) (hi:PE X i ty) (hv:PE X value tv) (hs:swapsWith value (some (.Subscript o i pos')) pos.line X.env=pure false) :
  PS X (.Assign [.Subscript o i pos'] value pos) (yz X.K td ty tv):=by
 intro pins s σ H D I h
 refine wpAny_Assign_Subscript (thn (hv pins s σ H _ I h) fun r s1 ⟨v,H1,I1,rv,q1⟩=>thn (ho pins s1 σ H1 _ I1 q1) fun u s2 ⟨x,H2,I2,rx,q2⟩=>thn (hi pins s2 σ H2 _ I2 q2) fun iv s3 ⟨y,H3,I3,ry,a,b,kvs,k,ex,ey,e1,e2,e3,e4,q3⟩=>?_) hs
 subst ex ey
 obtain rfl:u=Value.ref a:=rx
 obtain rfl:iv=Value.ref b:=ry
 exact oG hu I3 e1 e2 e3 e4 rv fun s4 I4=>⟨σ,_,I4,q3⟩
noncomputable def mj (fo fk fe:Fg):Fs:=fun δ ch=>(fe δ ch).bind fun p=>(fo δ p.2).bind fun q=>(fk δ q.2).bind fun r=>match q.1,r.1 with
 | .ref i,.dat (.tup ds)=>match r.2[i]? with
  | some (.dT l)=>(ji (ds.map .dat)).bind fun ks=>if (l.any fun z=>decide (z.1=ks))=true/\l.length<sizeLine/\(l.map (fun (z:List Key×CV)=>z.1)).Nodup then some (.nx δ (r.2.set i (.dT (dG l ks p.1)))) else none
  | _=>none
 | _,_=>none
def vR {m:Nat} (hr:Room m X.A) (ho:GE X o fa) (hk:GE X i fk) (he:GE X e fe) (hs:swapsWith e (some (.Subscript o i tpos)) pos.line X.env=pure false:=by rfl) :
  GS1 X (.Assign [.Subscript o i tpos] e pos) (mj fa fk fe):=
 PS.mono (tQ (jK hr) ho hk he hs) fun D σ H ⟨δ,ch,F,ρ,og,en,hg,kk⟩=>by
  unfold mj at hg
  obtain ⟨⟨c1,ch1⟩,hp,hg1⟩:=bS hg
  clear hg
  obtain ⟨⟨c2,ch2⟩,hq,hg2⟩:=bS hg1
  clear hg1
  obtain ⟨⟨c3,ch3⟩,hw,hg3⟩:=bS hg2
  clear hg2
  dsimp only at hq hw hg3
  split at hg3<;>first | (cases hg3;done) | skip
  rename_i i ds
  split at hg3<;>first | (cases hg3;done) | skip
  rename_i l hl
  obtain ⟨ks,hk,hg4⟩:=bS hg3
  clear hg3
  split at hg4<;>cases hg4
  rename_i hz
  refine ⟨δ,ch,F,ρ,_,ch1,en,hp,fun v F1 H1 ρ1 a1 r1=>⟨δ,ch1,F1,ρ1,_,ch2,en.adv a1,hq,fun x F2 H2 ρ2 a2 r2=>⟨δ,ch2,F2,ρ2,_,ch3,(en.adv a1).adv a2,hw,fun y F3 H3 ρ3 a3 r3=>?_⟩⟩⟩
  obtain ⟨b',vs,rfl,t1,t2⟩:=iC (c:=.dat (.tup ds)) a3.gh rfl r3
  have ev:=iB hk t2
  subst ev
  have hi:i<ch3.length:=(gX hl).1
  have r1':=(r1.mono a2.old a2.ext a2.len).mono a3.old a3.ext a3.len
  obtain ⟨kvs,q1,q2,q3⟩:=a3.gh.ok i _ hl
  obtain ⟨z1,z2⟩:=iu (k:=ks) r1' hz.2.2 q2 q3
  have hlen:kvs.length=l.length:=by
   have:=congrArg List.length q2
   simpa using this
  have hsome:(dU kvs ks).isSome=true:=by
   rw [<- dL,List.any_eq_true]
   obtain ⟨z0,m0,e0⟩:=List.any_eq_true.mp hz.1
   have:ks∈l.map (·.1):=List.mem_map.mpr ⟨z0,m0,by simpa using e0⟩
   rw [<- q2] at this
   obtain ⟨kv,h1,h2⟩:=List.mem_map.mp this
   exact ⟨kv,h1,by simpa using h2⟩
  refine ⟨_,b',kvs,ks,(r2.mono a3.old a3.ext a3.len).2,rfl,q1,t1,by rw [hlen];exact hz.2.1,hsome,?_⟩
  have a5:=Adv.upd (o:=.dT (dG l ks c1)) (u:=.dT (bO kvs ks v)) a3.gh hi q1 (fun _ _ z=>nomatch z) ⟨_,az,z1,z2⟩
  have aa:=((a1.trans en.gh a2).trans en.gh a3).trans en.gh a5
  exact kk σ F3 _ ρ3 aa (en.adv aa)
end
section
variable {X:Cx} {es:List Expr} {pos:Pos}
def eTd (fs:Fgs):Fg:=fun δ ch=>(fs δ ch).bind fun p=>(dats p.1).bind fun ds=>if ds.length<=sizeLine then some (.dat (.tup ds),p.2) else none
def vT {fs:Fgs} {x1} (h:GA X es fs):GE X (.Tuple es x1 pos) (eTd fs):=PE.mono (jH h) fun σ H Q ⟨δ,ch,F,ρ,c,ch',en,hf,k⟩=>by
 unfold eTd at hf
 obtain ⟨p,hp,hf1⟩:=bS hf
 clear hf
 obtain ⟨ds,hd,hf⟩:=bS hf1
 clear hf1
 split at hf<;>cases hf
 rename_i hz
 refine ⟨δ,ch,F,ρ,p.1,p.2,en,hp,fun vs F1 H1 ρ1 a1 r1=>?_⟩
 have rs:=dl hd r1
 refine ⟨by rw [rs.length];exact hz,fun q hq=>?_⟩
 refine k (.ref q) _ _ _ (a1.trans en.gh (Adv.of a1.gh (Step.new a1.gh.fh hq))) ?_
 show Rep X.K _ (.tup ds) (.ref q)
 simp only [Rep]
 exact ⟨q,vs,rfl,SqT.of az,rs.same (Same.upd (a1.gh.fh.free hq))⟩
end
section
variable {X:Cx} {e a b o iter tg:Expr} {es:List Expr} {body:List Stmt} {g:Fs} {f fa fb fc fe fk:Fg} {fs:Fgs} {pos apos cpos tpos p:Pos} {sc:Scope} {x:Str} {K:PySem.W.Frag}
def j5 (fs:Fgs) (ts:List Nat) (bb:Dt->De->Option De) (g:Fs):Fs:=fun δ ch=>(fs δ ch).bind fun p=>match p.1 with
 | [.dat (.int n)]=>if il n then dw ts bb g (cj 0 n.toNat) δ p.2 else none
 | _=>none
def vU {ts:List Nat} {bb:Dt->De->Option De} (hp:PassesOwn (model X.prog X.w) X.A X.env X.xe) (hc:X.calm=true) (h:bq sc "range"=true) (hm:X.mg "range"=none) (ha:GA X [a] fs) (hg:DG X tg ts bb) (hb:GS X body g) (e1:cW X sc:=by rfl)
  (hst:starEach [a] X.env=[(false,eval a X.env)]:=by rfl) (hs:∀ x,foldedSetIterable (.Call (.Name "range" p) [a] [] cpos) X.env x=pure x:=by intro _;rfl):GS1 X (.For tg (.Call (.Name "range" p) [a] [] cpos) body [] pos) (j5 fs ts bb g):=PS.mono (jF hp hc (jO h hm ha e1 hst) hg hb hs) fun D σ H ⟨δ,ch,F,ρ,o,en,hg,k⟩=>by
 unfold j5 at hg
 obtain ⟨⟨cs,ch1⟩,hd,hg1⟩:=bS hg
 clear hg
 dsimp only at hg1
 split at hg1<;>first | (cases hg1;done) | skip
 rename_i n
 split at hg1<;>first | (cases hg1;done) | skip
 rename_i hn
 rw [hZ]
 refine ⟨δ,ch,F,ρ,_,ch1,en,hd,fun vs F1 H1 ρ1 a1 r1=>?_⟩
 obtain ⟨v,ws,rfl,rv,rw0⟩:=r1
 have hv:v=.int n:=rv
 have hw:ws=[]:=rw0
 subst hv hw
 refine ⟨n,rfl,(gk hn).1,(gk hn).2,?_⟩
 have en1:=en.adv a1
 have k1:=k.adv en.gh a1
 have wd:=plain_range.walk (jR (K:=X.K) (F:=F1) 0 n.toNat)
 generalize hds:cj 0 n.toNat=ds at hg1 wd
 refine ij (n:=ds.length) (fun i σ' H'=>∃ δ' ch' F' ρ',Adv X.K F1 H1 ρ1 ch1 F' H' ρ' ch'/\Ge X.K δ' ch' σ' F' H' ρ'/\dw ts bb g (ds.drop i) δ' ch'=some o) ⟨δ,ch1,F1,ρ1,Adv.refl en1.gh,en1,by simpa using hg1⟩ (fun i σ' H' ⟨δ',ch',F',ρ',a',en',_⟩=>?_) ?_ ?_
 · obtain ⟨p1,p2,_⟩:=wd i H' F' trivial en'.gh.fh a'.old
   exact ⟨p1,p2⟩
 · rintro i x σ' H' H'' hi ⟨δ',ch',F',ρ',a',en',hgo⟩ hy
   obtain ⟨_,_,p3⟩:=wd i H' F' trivial en'.gh.fh a'.old
   obtain ⟨d,F2,hd',st2,rd⟩:=p3 x H'' hi hy
   rw [gj hd'] at hgo
   unfold dw at hgo
   obtain ⟨δ1,h1,hgo1⟩:=bS hgo
   clear hgo
   obtain ⟨o1,h2,hgo⟩:=bS hgo1
   clear hgo1
   have a2:=Adv.of en'.gh st2
   have a3:=a'.trans en1.gh a2
   have en2:=en'.adv a2
   refine ⟨_,_,F2,d,δ1,rfl,en2.en,rd,h1,fun σ1 l1 q1 e1=>⟨_,ch',F2,ρ',o1,en2.mg rfl l1 q1 e1,h2,?_⟩⟩
   cases o1 with
   | nx δ2 c2=>exact fun σ2 F3 H3 ρ3 a4 en4=>⟨δ2,c2,F3,ρ3,a3.trans en1.gh a4,en4,hgo⟩
   | ct δ2 c2=>exact fun σ2 F3 H3 ρ3 a4 en4=>⟨δ2,c2,F3,ρ3,a3.trans en1.gh a4,en4,hgo⟩
   | bk δ2 c2=>cases hgo;exact fun σ2 F3 H3 ρ3 a4 en4=>k1 σ2 F3 H3 ρ3 (a3.trans en1.gh a4) en4
   | rt c c2=>cases hgo;exact fun v F3 H3 ρ3 a4 r=>k1 v F3 H3 ρ3 (a3.trans en1.gh a4) r
 · rintro σ' H' ⟨δ',ch',F',ρ',a',en',hgo⟩
   rw [List.drop_length] at hgo
   cases hgo
   exact k1 σ' F' H' ρ' a' en'
end
section
variable {c f m:Str} {fa fb fe fk fo fx:Fg} {fs:Fgs} {g:Fd} {δ:Sl} {ch ch1 ch2 ch3:CH} {i:Nat} {ns:List Str} {l cs:List CV} {x v w:CV} {d:Dt} {o o':CO}
def dD (h1:fa δ ch=some (.ref i,ch1)) (h2:ch1[i]?=some (.ins c ns l)) (h3:sY ns l f=some x):eF c f fa δ ch=some (x,ch1):=by
 unfold eF
 rw [h1]
 simp only [Option.bind_some,h2,if_true,h3,Option.map_some]
def eU (h1:fo δ ch=some (.ref i,ch1)) (h2:ch1[i]?=some (.ins c ns l)) (h3:m∉ns) (h4:fs δ ch1=some (cs,ch2)):eM c m g fo fs δ ch=g (.ref i::cs) ch2:=by
 unfold eM
 rw [h1]
 simp only [Option.bind_some,h2,h3,not_false_eq_true,and_self,if_true,h4]
def fW (h4:fs δ ch=some (cs,ch2)):eC g fs δ ch=g cs ch2:=by
 unfold eC
 rw [h4,Option.bind_some]
def av (h1:fa δ ch=some (x,ch1)) (h2:fs δ ch1=some (cs,ch2)):ae fa fs δ ch=some (x::cs,ch2):=by
 unfold ae
 rw [h1,Option.bind_some]
 dsimp only
 rw [h2,Option.map_some]
def dS (he:fe δ ch=some (v,ch1)) (ha:fa δ ch1=some (.ref i,ch2)) (hk:fk δ ch2=some (.dat d,ch3)) (ho:ch3[i]?=some o) (hp:vt o d v=some o'):jh fa fk fe δ ch=some (.nx δ (ch3.set i o')):=by
 unfold jh
 rw [he,Option.bind_some]
 dsimp only
 rw [ha,Option.bind_some]
 dsimp only
 rw [hk,Option.bind_some]
 simp only [ho,Option.bind_some,hp,Option.map_some]
def np (he:fe δ ch=some (v,ch1)) (ha:fa δ ch1=some (.ref i,ch2)) (ho:ch2[i]?=some (.ins c ns l)) (hn:ns.length<1000):fH c f fa fe δ ch=some (.nx δ (ch2.set i (.ins c (d4 ns l f v).1 (d4 ns l f v).2))):=by
 unfold fH
 rw [he,Option.bind_some]
 dsimp only
 rw [ha,Option.bind_some]
 simp only [ho,hn,and_self,if_true]
def cm (h1:fa δ ch=some (.ref i,ch1)) (h2:fb δ ch1=some (.dat d,ch2)) (ho:ch2[i]?=some o) (hx:ixO o d=some x):eIx fa fb δ ch=some (x,ch2):=by
 unfold eIx
 rw [h1,Option.bind_some]
 dsimp only
 rw [h2,Option.bind_some]
 simp only [ho,Option.bind_some,hx,Option.map_some]
def p6 {y e:Dt} (h1:fa δ ch=some (.dat y,ch1)) (h2:fb δ ch1=some (.dat d,ch2)) (hx:gIx y d=some (.leaf e)):eIx fa fb δ ch=some (.dat e,ch2):=by
 unfold eIx
 rw [h1,Option.bind_some]
 dsimp only
 rw [h2,Option.bind_some]
 simp only [hx,Option.bind_some]
 rfl
def xb {g:Dt->Dt->Option T} {y z:Dt} {t:T} (h1:fa δ ch=some (x,ch1)) (h2:fb δ ch1=some (v,ch2)) (hx:vw ch2 x=some y) (hv:vw ch2 v=some z) (hg:g y z=some t):e2 g fa fb δ ch=al ch2 t:=by
 unfold e2
 rw [h1,Option.bind_some]
 dsimp only
 rw [h2,Option.bind_some]
 simp only [hx,hv,Option.bind_some,hg]
def lg {g:List Dt->Option T} {ds:List Dt} {t:T} (h1:fs δ ch=some (cs,ch1)) (h2:vws ch1 cs=some ds) (h3:g ds=some t):eB g fs δ ch=al ch1 t:=by
 unfold eB
 rw [h1,Option.bind_some]
 dsimp only
 rw [h2,Option.bind_some,h3,Option.bind_some]
def aO {fd:De->Option Dt} (h:fd (lo δ ch)=some d):eD fd δ ch=some (.dat d,ch):=by
 unfold eD
 rw [h]
 rfl
def lh {ft:De->Option Bool} {b:Bool} (h:ft (lo δ ch)=some b):tD ft δ ch=some (b,ch):=by
 unfold tD
 rw [h]
 rfl
def aK (h:δ[i]?=some (some v)):eV i δ ch=some (v,ch):=by
 unfold eV
 rw [h]
def bA (h:fa δ ch=some (v,ch1)):bG i fa δ ch=some (.nx (δ.set i (some v)) ch1):=by
 unfold bG
 rw [h]
 rfl
def dg (h:fa δ ch=some (v,ch1)):cv fa δ ch=some (.rt v ch1):=by
 unfold cv
 rw [h]
 rfl
def cq (h:fa δ ch=some (v,ch1)):cb fa δ ch=some (.nx δ ch1):=by
 unfold cb
 rw [h]
 rfl
def tR {b:Bool} (h:fa δ ch=some (.dat (.bl b),ch1)):gB fa δ ch=some (b,ch1):=by
 unfold gB
 rw [h]
 rfl
def nq {i:Nat} (hl:i<δ.length):mgS [i] δ ((lo δ ch).set i (some (.leaf d)))=δ.set i (some (.dat d)):=by
 have h2:(lo δ ch).length=δ.length:=fq ch [] δ
 apply List.ext_getElem?
 intro j
 unfold mgS
 rw [List.getElem?_mapIdx]
 by_cases e:i=j
 · subst e
   rw [List.getElem?_set_self hl,gQ hl,List.getElem?_set_self (by rw [h2];exact hl)]
   simp
 · rw [gN e,gN e]
   have e':¬ j=i:=fun z=>e z.symm
   cases h:δ[j]? with
   | none=>rfl
   | some x=>simp [e']
def ml {i:Nat} {g:Fs} {r:List Dt} {δ2:Sl} (hl:i<δ.length) (h:g (δ.set i (some (.dat d))) ch=some (.nx δ2 ch2)):dw [i] (am i) g (d::r) δ ch=dw [i] (am i) g r δ2 ch2:=by
 show ((am i d (lo δ ch)).bind fun δ1=>(g (mgS [i] δ δ1) ch).bind fun o=>_)=_
 unfold am
 rw [Option.bind_some,nq hl,h]
 rfl
def jj {i:Nat} {g:Fs} {I:Sl->CH->Prop} (hI:∀ δ ch,I δ ch->i<δ.length):∀ {ds:List Dt} {δ:Sl} {ch:CH},(∀ d∈ds,∀ δ ch,I δ ch->∃ δ2 ch2,g (δ.set i (some (.dat d))) ch=some (.nx δ2 ch2)/\I δ2 ch2)->I δ ch->∃ δ2 ch2,dw [i] (am i) g ds δ ch=some (.nx δ2 ch2)/\I δ2 ch2
 | [],δ,ch,_,h=>⟨δ,ch,rfl,h⟩
 | d::ds,δ,ch,hb,h=>by
  obtain ⟨δ1,ch1,e,h1⟩:=hb d (by simp) δ ch h
  rw [ml (hI _ _ h) e]
  exact jj hI (fun z hz=>hb z (by simp [hz])) h1
end
open PySem
end L2
seal L2.PE L2.PS L2.PSs L2.PT L2.PW L2.PA L2.PI L2.PG L2.PTs L2.PO L2.PGs L2.CallR L2.OpR L2.IxR L2.SlR L2.MtR L2.UnR L2.DO L2.DL L2.DB L2.DT L2.DW L2.DS L2.DS1 L2.R2D L2.CRD L2.MRD L2.DG L2.DGs L2.DIF L2.DIB L2.DTs L2.DP L2.GE L2.GT L2.GW L2.GA L2.GS L2.GS1
namespace P62
open PySem L2
def top (i:Nat):Stmt:=PySem.Challenge.pw_dimhouse_k62_whole_writing_cut_off.main.body.getD i (.Pass ⟨0,0,0,0⟩)
def kl (i j:Nat):Stmt:=match top i with
 | .ClassDef _ _ _ body _ _ _ _ _ _ _=>body.getD j (.Pass ⟨0,0,0,0⟩)
 | _=>.Pass ⟨0,0,0,0⟩
noncomputable section
noncomputable def y6:List Dt->Option T:=lS 4 ((dy (cX 3 (toT (toD (b6 (ab (kD (.int 10007)) (ab (kD (.int 10009)) (ab (kD (.int 10037)) (ab (kD (.int 10039)) (ab (kD (.int 10061)) (ab (kD (.int 10067)) (ab (kD (.int 10069)) (ab (kD (.int 10079)) au))))))))))))
  (n6 (d2 bU (toD (d2 bU (toD (d2 bm (toD (d2 cp (vB 0) (kD (.int 48271)))) (toD (d2 cp (kD (.int 7919)) (vB 1))))) (toD (d2 aS (vB 3) (toD (d2 bU (vB 1) (kD (.int 8)))))))) (vB 2)))))
def y39:De->Option Dt:=(toD (d2 aS (vB 2) (toD (aB y6 (ab (vL 1) (ab (vL 0) (ab (kD (.int 26)) au)))))))
noncomputable def y13:List Dt->Option T:=lS 5 ((dy (cX 2 (toT (kD (.str "abcdefghijklmnopqrstuvwxyz"))))
  (dy (cX 3 (toT (toD (d2 bm (kD (.int 1)) (toD (aB y6 (ab (vL 0) (ab (kD (.int 7)) (ab (kD (.int 6)) au)))))))))
  (dy (cX 4 (ck [none,some 0,some 2] (dO iM (ab (vL 3) au)) (am 0) br y39))
  (dy (sJ 4 (toD (aB y6 (ab (vL 0) (ab (kD (.int 3)) (ab (vL 3) au))))) (toD (d2 aS (vB 2) (toD (d2 bU (toD (d2 bm (toD (aB y6 (ab (vL 0) (ab (kD (.int 4)) (ab (kD (.int 26)) au))))) (vB 1))) (kD (.int 26)))))))
  (n6 (pM gW (kD (.str "")) (ab (vB 4) au))))))))
noncomputable def q34:De->Option Out:=(z27 2 (toD (b6 (ab (toD (aB y13 (ab (vL 1) (ab (vL 3) au)))) (ab (toD (d2 bU (toD (d2 cp (toD (d2 bm (vB 0) (toD (d2 cp (kD (.int 31)) (vB 3))))) (kD (.int 94906267)))) (toD (d2 im (kD (.int 2)) (kD (.int 40)))))) (ab (kD (.bl true)) au))))))
noncomputable def q33:De->Option Out:=(z27 4 (toD (b6 (ab (toD (aB y13 (ab (vL 1) (ab (toD (d2 bm (kD (.int 8)) (vB 3))) au)))) (ab (toD (d2 bm (kD (.int 1)) (toD (aB y6 (ab (toD (d2 bm (vB 0) (vB 3))) (ab (kD (.int 2)) (ab (kD (.int 8)) au))))))) (ab (kD (.bl true)) au))))))
noncomputable def y26:List Dt->Option T:=lS 5 ((dy (cX 2 (bN au))
  (dy (lO (dO iM (ab (toD (d2 bm (kD (.int 1)) (toD (aB y6 (ab (vL 0) (ab (kD (.int 0)) (ab (kD (.int 3)) au))))))) au)) (am 3) q34)
  (dy (cX 4 (bN au))
  (dy (lO (dO iM (ab (toD (d2 bm (kD (.int 1)) (toD (aB y6 (ab (vL 0) (ab (kD (.int 1)) (ab (kD (.int 2)) au))))))) au)) (am 3) q33)
  (n6 (b6 (ab (toD (aB fm (ab (vB 2) au))) (ab (toD (aB fm (ab (vB 4) au))) (ab (toD (d2 ni (toD (b6 (ab (toD (b6 (ab (kD (.str "end")) (ab (kD (.int 0)) au)))) au))) (kD (.int 60)))) au))))))))))
def q31:De->Option Dt:=(toD (b6 (ab (vL 0) (ab (kD (.int 0)) au))))
def y36:De->Option Dt:=(toD (b6 (ab (vL 1) (ab (vL 0) au))))
def q26:De->Option Out:=(cX 1 (toT (toD (d2 bm (vB 1) (toD (ck [none,some 2] (dO iM (ab (vL 3) au)) (am 0) br y36))))))
noncomputable def y31:List Dt->Option T:=lS 5 ((dy (cX 1 (toT (toD (ck [none,none,none] (fIt (toD (d2 aS (vB 0) (kD (.int 0))))) (cf 3 (aH (am 0) (aH (am 1) (aH (am 2) ce)))) br q31))))
  (dy (lO (fIt (toD (d2 aS (vB 0) (kD (.int 1))))) (cf 3 (aH (am 2) (aH (am 3) (aH (am 4) ce)))) q26)
  (pF 1))))
def y27:Fg:=(eT (ae (eD (toD (d2 aS (vB 0) (kD (.int 0))))) (ae (eN (bN (ab (toD (d2 aS (vB 0) (kD (.int 1)))) au))) ar)))
def z22:Fg:=(eT (ae (eD (toD (d2 aS (vB 0) (kD (.int 0))))) (ae (tp (eN (bN (ab (kD (.int 0)) au))) (eD (toD (d2 aS (vB 0) (kD (.int 1)))))) ar)))
def y22:De->Option Dt:=(toD (b6 (ab (vL 0) (ab (kD (.int 0)) au))))
noncomputable def q20:Fd:=dR 3 ((aN (fH "Store" "home" (eV 0) (iz (gE [none] (fIt (toD (d2 aS (vB 1) (kD (.int 0))))) [0] (am 0) br y27)))
  (aN (na (eF "Store" "home" (eV 0)) (iz (gE [none] (fIt (toD (d2 aS (vB 1) (kD (.int 1))))) [0] (am 0) br z22)))
  (aN (fH "Store" "heads" (eV 0) (eN (bN (ab (toD (b6 (ab (kD (.int 0)) (ab (kD (.int 0)) (ab (kD (.int 0)) (ab (kD (.int 0)) au)))))) (ab (toD (b6 (ab (kD (.int 0)) (ab (kD (.int 0)) (ab (kD (.int 0)) (ab (kD (.int 0)) au)))))) au)))))
  (aN (fH "Store" "page_boxes" (eV 0) (eL (ae (eN (ck [none] (fIt (vB 2)) (am 0) br y22)) (ae (eN (bN au)) ar))))
  (aN (fH "Store" "page_turns" (eV 0) (eL (ae (eN (bN au)) (ae (eN (bN au)) ar))))
  (aN (fH "Store" "counting" (eV 0) (eN (toT (kD (.int 0)))))
  (fH "Store" "result" (eV 0) (eN (toT (kD .non)))))))))))
noncomputable def y19:List Dt->Option T:=lS 3 ((dy (sIf (tB2 (fT fun i j=>decide (i<j)) (vB 1) (toD (aB bB (ab (vB 0) au)))) (n6 (d2 aS (vB 0) (vB 1))) xX)
  (dy (cX 2 (toT (kD (.int 7))))
  (dy (sIf (tB2 (fT fun i j=>decide (j<i)) (toD (aB bB (ab (vB 0) au))) (kD (.int 0))) (cX 2 (toT (toD (d2 bU (toD (d2 aS (vB 0) (toD (d2 bU (vB 1) (toD (aB bB (ab (vB 0) au))))))) (kD (.int 999983)))))) xX)
  (n6 (d2 bU (toD (d2 cp (toD (d2 bm (toD (d2 bm (vB 2) (toD (d2 cp (kD (.int 613)) (vB 1))))) (kD (.int 29)))) (toD (d2 bm (toD (d2 bm (vB 2) (toD (d2 cp (kD (.int 71)) (vB 1))))) (kD (.int 5)))))) (kD (.int 1000003))))))))
def y11:Fd:=dR 2 ((cv (eTa (eIx (eF "Store" "heads" (eV 0)) (eD (vL 1))) (eT (ae (eB ip (ae (eIx (eF "Store" "page_boxes" (eV 0)) (eD (vL 1))) ar)) (ae (eB ip (ae (eIx (eF "Store" "page_turns" (eV 0)) (eD (vL 1))) ar)) ar))))))
def y9:Fd:=dR 1 ((cv (eF "Store" "counting" (eV 0))))
noncomputable def z12:Fd:=dR 5 ((aN (jo (eV 1) (ggT 3 (bv (ggN 2) (bv (ggN 3) (bv (ggN 4) d7)))))
  (cv (e2D 3 (gEq false) (eM "Store" "page" y11 (eV 0) (ae (eM "Store" "face" y9 (eV 0) ar) ar)) (eTa (eB fm (ae (eV 2) ar)) (eT (ae (eV 3) (ae (eV 4) ar))))))))
def z20:Fd:=dR 3 ((cv (eIx (eIx (eF "Store" "home" (eV 0)) (eD (vL 1))) (eD (vL 2)))))
def z34:Fs:=(dW (fK (e2 (gEq true) (eM "Store" "get_home" z20 (eV 0) (ae (eD (vL 2)) (ae (eD (vL 3)) ar))) (qV (eV 1) (ae (eD (vL 2)) (ae (eD (vL 3)) ar))))) (cv (eD (kD (.bl false)))) dh)
def q17:Fd:=dR 4 ((aN (jZ (eV 1) [2,3] (cf 2 (aH (am 2) (aH (am 3) ce))) z34)
  (cv (eD (kD (.bl true))))))
noncomputable def z28:De->Option Out:=(sIf (sv (vB 2)) (dy (z27 3 (toD (d2 bU (vB 4) (toD (d2 im (kD (.int 2)) (kD (.int 40)))))))
  (cX 4 (toT (toD (d2 fV (vB 4) (toD (d2 im (kD (.int 2)) (kD (.int 40))))))))) (dy (cX 6 (toT (toD (d2 bU (toD (d2 bm (toD (d2 bm (toD (d2 cp (toD (d2 bU (vB 0) (kD (.int 2147483647)))) (kD (.int 48271)))) (toD (d2 cp (kD (.int 7919)) (vB 5))))) (kD (.int 1)))) (kD (.int 2147483629))))))
  (z27 3 (toD (d2 bm (toD (d2 bU (toD (d2 cp (toD (d2 bU (toD (d2 cp (vB 6) (vB 6))) (kD (.int 2147483587)))) (kD (.int 512)))) (toD (d2 im (kD (.int 2)) (kD (.int 40)))))) (toD (d2 bU (vB 6) (kD (.int 512)))))))))
def z16:List Dt->Option T:=lS 7 ((dy (cX 3 (bN au))
  (dy (cX 4 (toT (vL 0)))
  (dy (lO (dO iM (ab (vL 1) au)) (am 5) z28)
  (pF 3)))))
def q15:De->Option Dt:=(toD (d2 bU (toD (d2 cp (toD (d2 aS (vB 1) (vB 0))) (kD (.int 94906267)))) (kD (.int 3000))))
def z32:Fs:=(gA (eV 4) (eD (toD (b6 (ab (toD (aB y13 (ab (toD (d2 aS (vB 0) (kD (.int 4)))) (ab (vL 5) au)))) (ab (vL 6) au))))))
noncomputable def y32:Fs:=(aN (gA (eV 7) (eTd (ae (qX (eV 8) (e2 bU (eD (toD (d2 bU (vB 6) (kD (.int 19))))) (eB bB (ae (eV 8) ar)))) (ae (eD (vL 9)) ar))))
  (bG 6 (eD (toD (d2 aS (toD (bN (ab (toD (d2 bm (toD (d2 cp (vB 6) (kD (.int 48271)))) (kD (.int 7919)))) (ab (toD (d2 fV (vB 6) (kD (.int 19)))) au)))) (toD (aB qM (ab (vB 3) au))))))))
noncomputable def y25:Fd:=dR 10 ((aN (bG 2 (eN (d2 bm (toD (bN (ab (toD (aB y6 (ab (toD (d2 aS (vB 0) (kD (.int 0)))) (ab (kD (.int 0)) (ab (kD (.int 60)) au))))) au))) (toD (ck [none,some 0] (fIt (toD (b6 (ab (kD (.int 1)) (ab (kD (.int 2)) (ab (kD (.int 3)) au)))))) (am 0) br q15)))))
  (aN (bG 3 (eD (toD (d2 (gEq false) (toD (aB y6 (ab (toD (d2 aS (vB 0) (kD (.int 0)))) (ab (kD (.int 4)) (ab (kD (.int 2)) au))))) (kD (.int 1))))))
  (aN (bG 4 (eN (bN au)))
  (aN (de (dO kT (ab (toD (aB z16 (ab (toD (d2 aS (vB 0) (kD (.int 1)))) (ab (toD (aB y6 (ab (toD (d2 aS (vB 0) (kD (.int 0)))) (ab (kD (.int 1)) (ab (kD (.int 7)) au))))) (ab (vL 3) au))))) au)) [5,6] (cf 2 (aH (am 5) (aH (am 6) ce))) z32)
  (aN (bG 7 (eN (bN au)))
  (aN (bG 8 (eN (aB ip (ab (vB 1) au))))
  (aN (bG 6 (eD (toD (d2 aS (vB 0) (kD (.int 3))))))
  (aN (de (fIt (toD (aB z16 (ab (toD (d2 aS (vB 0) (kD (.int 2)))) (ab (toD (aB iA (ab (toD (aB y6 (ab (toD (d2 aS (vB 0) (kD (.int 0)))) (ab (kD (.int 3)) (ab (kD (.int 10)) au))))) (ab (toD (aB bB (ab (vB 1) au))) au)))) (ab (vL 3) au)))))) [9] (am 9) y32)
  (cv (eL (ae (eV 2) (ae (eV 4) (ae (eV 7) ar))))))))))))))
def y10:Fd:=dR 1 ((cv (e2 cu (eD (kD (.int 1))) (eF "Store" "counting" (eV 0)))))
noncomputable def y16:Fd:=dR 5 ((aN (jh (eF "Store" "heads" (eV 0)) (eM "Store" "other" y10 (eV 0) ar) (eD (toD (b6 (ab (vL 1) (ab (vL 2) (ab (vL 3) (ab (vL 4) au))))))))
  (aN (jh (eF "Store" "page_boxes" (eV 0)) (eM "Store" "other" y10 (eV 0) ar) (eN (bN au)))
  (jh (eF "Store" "page_turns" (eV 0)) (eM "Store" "other" y10 (eV 0) ar) (eN (bN au))))))
def y20:Fd:=dR 3 ((gA (eIx (eF "Store" "page_boxes" (eV 0)) (eM "Store" "other" y10 (eV 0) ar)) (eD (toD (b6 (ab (vL 1) (ab (vL 2) au)))))))
def z18:Fd:=dR 4 ((gA (eIx (eF "Store" "page_turns" (eV 0)) (eM "Store" "other" y10 (eV 0) ar)) (eD (toD (b6 (ab (toD (b6 (ab (vL 1) (ab (vL 2) au)))) (ab (vL 3) au)))))))
def y34:Fd:=dR 1 ((fH "Store" "counting" (eV 0) (eM "Store" "other" y10 (eV 0) ar)))
def z23:Fd:=dR 4 ((jh (eIx (eF "Store" "home" (eV 0)) (eD (vL 1))) (eD (vL 2)) (eD (vL 3))))
noncomputable def q30:Fd:=dR 8 ((aN (jo (eV 1) (ggT 3 (bv (ggN 3) (bv (ggN 4) (bv (ggN 5) d7)))))
  (dW (tD (tB2 (gEq false) (vB 2) (kD (.int 0)))) (cb (eM "Store" "begin_page" y16 (eV 0) (ae (eIx (eV 3) (eD (kD (.int 0)))) (ae (eIx (eV 3) (eD (kD (.int 1)))) (ae (eIx (eV 3) (eD (kD (.int 2)))) (ae (eIx (eV 3) (eD (kD (.int 3)))) ar)))))) (dW (fK (e2 (fT fun i j=>decide (i<=j)) (eD (vL 2)) (eB bB (ae (eV 4) ar)))) (cb (eM "Store" "keep_box" y20 (eV 0) (ae (eIx (eIx (eV 4) (eD (toD (d2 cu (vB 2) (kD (.int 1)))))) (eD (kD (.int 0)))) (ae (eIx (eIx (eV 4) (eD (toD (d2 cu (vB 2) (kD (.int 1)))))) (eD (kD (.int 1)))) ar)))) (dW (fK (e2 (fT fun i j=>decide (i<=j)) (eD (vL 2)) (e2 bm (eB bB (ae (eV 4) ar)) (eB bB (ae (eV 5) ar))))) (aN (jo (eIx (eV 5) (e2 cu (eD (toD (d2 cu (vB 2) (kD (.int 1))))) (eB bB (ae (eV 4) ar)))) (ggT 2 (bv (ggN 6) (bv (ggN 7) d7))))
  (cb (eM "Store" "keep_turn" z18 (eV 0) (ae (eD (toD (d2 aS (vB 6) (kD (.int 0))))) (ae (eD (toD (d2 aS (vB 6) (kD (.int 1))))) (ae (eD (vL 7)) ar)))))) (dW (fK (e2 (gEq false) (eD (vL 2)) (e2 bm (e2 bm (eB bB (ae (eV 4) ar)) (eB bB (ae (eV 5) ar))) (eD (kD (.int 1)))))) (cb (eM "Store" "turn" y34 (eV 0) ar)) (aN (jo (eIx (eV 5) (e2 cu (e2 cu (eD (toD (d2 cu (vB 2) (kD (.int 2))))) (eB bB (ae (eV 4) ar))) (eB bB (ae (eV 5) ar)))) (ggT 2 (bv (ggN 6) (bv (ggN 7) d7))))
  (cb (eM "Store" "put" z23 (eV 0) (ae (eD (toD (d2 aS (vB 6) (kD (.int 0))))) (ae (eD (toD (d2 aS (vB 6) (kD (.int 1))))) (ae (eD (vL 7)) ar))))))))))))
noncomputable def q27:Fs:=(aN (cb (eC q30 (ae (eV 0) (ae (eV 1) (ae (eD (vL 5)) ar)))))
  (aN (bG 6 (eV 2))
  (aN (dW (tD (tB2 (fT fun i j=>decide (j<=i)) (vB 5) (vB 4))) (bG 6 (eV 1)) dh)
  (aN (dW (iw (gB (eC z12 (ae (eV 0) (ae (eV 6) ar))))) (cv (eD (kD .non))) dh)
  (dW (m7 (tD (tB2 (fT fun i j=>decide (i<j)) (vB 5) (vB 4))) (fK (e2D 2 (gEq true) (qY (eM "Store" "page" y11 (eV 0) (ae (e2 cu (eD (kD (.int 1))) (eM "Store" "face" y9 (eV 0) ar)) ar)) jf (gz (kD (.int 4)))) (eB fm (ae (eIx (eV 1) (eD (kD (.int 0)))) ar))))) (cv (eD (kD .non))) dh)))))
noncomputable def q19:Fd:=dR 7 ((aN (bG 4 (e2 bm (e2 bm (eB bB (ae (eIx (eV 1) (eD (kD (.int 1)))) ar)) (eB bB (ae (eIx (eV 1) (eD (kD (.int 2)))) ar))) (eD (kD (.int 1)))))
  (aN (j5 (ae (eB iA (ae (eD (vL 3)) (ae (e2 bm (eD (toD (d2 bm (vB 4) (kD (.int 1))))) (eB bB (ae (eIx (eV 1) (eD (kD (.int 2)))) ar))) ar))) ar) [5] (am 5) q27)
  (aN (dW (tD (tB2 (fT fun i j=>decide (j<i)) (vB 3) (vB 4))) (cv (eV 1)) dh)
  (cv (eV 2))))))
def y33:Fs:=(cb (eM "Store" "put" z23 (eV 0) (ae (eD (toD (d2 aS (vB 3) (kD (.int 0))))) (ae (eD (toD (d2 aS (vB 3) (kD (.int 1))))) (ae (eD (vL 4)) ar)))))
def y12:Fd:=dR 5 ((aN (bG 2 (eIx (eM "Store" "page" y11 (eV 0) (ae (eM "Store" "face" y9 (eV 0) ar) ar)) (eD (kD (.int 5)))))
  (de (fIt (toD (vSl (vB 2) jf (gz (vB 1))))) [3,4] (cf 2 (aH (am 3) (aH (am 4) ce))) y33)))
def q62:Fs:=(iS (eV 5) (ae (eD (vL 6)) (ae (eD (vL 7)) ar)) (eD (kD (.int 0))))
def q61:Fs:=(iS (eV 5) (ae (eD (vL 6)) (ae (eD (kD (.int 0))) ar)) (eD (vL 8)))
def z48:De->Option Dt:=(toD (aB y19 (ab (vL 1) (ab (toD (d2 bm (vB 2) (vB 0))) au))))
def y45:Fs:=(mj (eV 5) (eD (vL 15)) (eD (vL 16)))
noncomputable def q49:Fs:=(dW (tD (tB2 (fT fun i j=>decide (i<j)) (vB 10) (toD (aB bB (ab (vB 0) au))))) (aN (bG 11 (eD (toD (ck [none,some 0,some 10] (dO iM (ab (kD (.int 6)) au)) (am 0) br z48))))
  (aN (bG 12 (eC y25 (ae (eD (vL 11)) (ae (eD (vL 2)) ar))))
  (aN (bG 13 (e2 bm (e2 bm (eD (kD (.int 2))) (eB bB (ae (eIx (eV 12) (eD (kD (.int 1)))) ar))) (e2 cp (eD (kD (.int 2))) (eB bB (ae (eIx (eV 12) (eD (kD (.int 2)))) ar)))))
  (aN (bG 14 (eD (toD (d2 aS (toD (bN (ab (vL 13) (ab (vL 13) (ab (toD (aB y6 (ab (toD (d2 aS (vB 11) (kD (.int 5)))) (ab (kD (.int 1)) (ab (toD (d2 bm (vB 13) (kD (.int 1)))) au))))) au))))) (toD (aB iA (ab (kD (.int 2)) (ab (toD (aB y6 (ab (toD (d2 aS (vB 11) (kD (.int 5)))) (ab (kD (.int 2)) (ab (kD (.int 5)) au))))) au))))))))
  (aN (bG 4 (eC q19 (ae (eV 3) (ae (eV 12) (ae (eV 4) (ae (eD (vL 14)) ar))))))
  (aN (dW (fK (e2D 3 (gIs false) (eV 4) (eD (kD .non)))) (cv (eD (kD (.bl false)))) dh)
  (aN (iU (eIx (eV 4) (eD (kD (.int 2)))) (ggT 2 (bv (ggN 15) (bv (ggN 16) d7))) y45 100000)
  (aN (dW (tD (tB2 (gEq false) (toD (aB y6 (ab (toD (d2 aS (vB 11) (kD (.int 5)))) (ab (kD (.int 3)) (ab (kD (.int 3)) au))))) (kD (.int 0)))) (cb (eC y12 (ae (eV 3) (ae (eD (toD (aB y6 (ab (toD (d2 aS (vB 11) (kD (.int 5)))) (ab (kD (.int 4)) (ab (kD (.int 10)) au)))))) ar)))) dh)
  (aN (cb (eC y12 (ae (eV 3) (ae (eD (kD (.int 99))) ar))))
  (dW (sZ (iw (gB (eC z12 (ae (eV 3) (ae (eV 4) ar))))) (iw (gB (eC q17 (ae (eV 3) (ae (eV 5) ar)))))) (cv (eD (kD (.bl false)))) dh)))))))))) dh)
noncomputable def p7:Fd:=dR 17 ((aN (bG 1 (eD (toD (aB y26 (ab (toD (aB y19 (ab (vL 0) (ab (kD (.int 0)) au)))) (ab (toD (aB y19 (ab (vL 0) (ab (kD (.int 1)) au)))) au))))))
  (aN (bG 2 (eD (toD (aB y31 (ab (vL 1) au)))))
  (aN (bG 3 (eMk "Store" q20 (ae (eD (vL 1)) (ae (eD (toD (b6 (ab (kD (.str "a")) (ab (kD (.str "b")) au))))) ar))))
  (aN (bG 4 (eL (ae (eN (bN (ab (kD (.int 0)) (ab (kD (.int 0)) (ab (kD (.int 0)) (ab (kD (.int 0)) au)))))) (ae (eN (bN (ab (toD (b6 (ab (kD (.str "a")) (ab (kD (.int 0)) au)))) (ab (toD (b6 (ab (kD (.str "b")) (ab (kD (.int 0)) au)))) au)))) (ae (eN (bN au)) ar)))))
  (aN (bG 5 eNT)
  (aN (de (fIt (vL 2)) [6,7] (cf 2 (aH (am 6) (aH (am 7) ce))) q62)
  (aN (de (fIt (toD (d2 aS (vB 1) (kD (.int 0))))) [6,8,9] (cf 3 (aH (am 6) (aH (am 8) (aH (am 9) ce)))) q61)
  (aN (de (dO tP (ab (kD (.int 2)) (ab (kD (.int 62)) (ab (kD (.int 6)) au)))) [10] (am 10) q49)
  (cv (tf (eC z12 (ae (eV 3) (ae (eV 4) ar))) (eC q17 (ae (eV 3) (ae (eV 5) ar))))))))))))))
end
structure Txt (P:Program) (w:World) (K:PySem.W.Frag) (mg:Str->Option Value):Prop where
 n_dict:mg "dict"=none
 n_enumerate:mg "enumerate"=none
 n_int:mg "int"=none
 n_len:mg "len"=none
 n_list:mg "list"=none
 n_min:mg "min"=none
 n_range:mg "range"=none
 n_tuple:mg "tuple"=none
 f_Store_counting:m4 K "Store" "counting"
 f_Store_heads:m4 K "Store" "heads"
 f_Store_home:m4 K "Store" "home"
 f_Store_page_boxes:m4 K "Store" "page_boxes"
 f_Store_page_turns:m4 K "Store" "page_turns"
 f_Store_result:m4 K "Store" "result"
section
variable {P:Program} {w:World} {K:PySem.W.Frag} {mg:Str->Option Value} {base:Heap}
abbrev y29:Stmt:=top 5
def y55:FnScope ["_law_cell_here","_law_j","_law_many","_law_primes"] ["_law_cell_here","_law_j","_law_many"] (ac y29):=⟨rfl,rfl,rfl,by decide +kernel,rfl,by decide +kernel,by decide +kernel⟩
def bZ:dn (ac y29) ["_law_cell_here","_law_j","_law_many","_law_primes"]=true:=by decide +kernel
def z64 (T:Txt P w K mg) (D:DefF K mg "_law_part" y29 ["_law_cell_here","_law_j","_law_many"]):OkF P w K mg base "_law_part" 1 ["_law_cell_here","_law_j","_law_many"] (spD K 3 y6):=
 kO D y55 rfl fun f cdv A outer s H E hr=>(bE (dz (nsN bZ 3) (nsL bZ 3) y55.nd (DL.toO (DO.toL (bP (ag ah (ag ah (ag ah (ag ah (ag ah (ag ah (ag ah (ag ah aD))))))))))))
     (db (jQ (aJ cg dv (DO.toB (aJ cg dv (DO.toB (aJ bj bI (DO.toB (aJ cY d3 (aw (pvN 0 bZ)) (DL.toB ah))) (DO.toB (aJ cY d3 (DL.toB ah) (aw (pvN 1 bZ)))))) (DO.toB (bn hr (aw (pvN 3 bZ)) (DO.toB (aJ cg dv (aw (pvN 1 bZ)) (DL.toB ah))))))) (aw (pvN 2 bZ))))))
abbrev z13:Stmt:=top 6
def q41:FnScope ["_law_base","_law_k","_law_letters","_law_size","_law_some"] ["_law_base","_law_k"] (ac z13):=⟨rfl,rfl,rfl,by decide +kernel,rfl,by decide +kernel,by decide +kernel⟩
def aZ:dn (ac z13) ["_law_base","_law_k","_law_letters","_law_size","_law_some"]=true:=by decide +kernel
def z30:bq (ac z13) "_law_part"=true:=by decide +kernel
def q57:bq (ac z13) "range"=true:=by decide +kernel
def y64 (T:Txt P w K mg) (D:DefF K mg "_law_name" z13 ["_law_base","_law_k"]) (z9:OkF P w K mg base "_law_part" 1 ["_law_cell_here","_law_j","_law_many"] (spD K 3 (y6))):OkF P w K mg base "_law_name" 2 ["_law_base","_law_k"] (spD K 2 y13):=
 kO D q41 rfl fun f cdv A outer s H E hr=>(bE (dz (nsN aZ 2) (nsL aZ 2) q41.nd (DL.toO gM))
     (bE (dz (nsN aZ 3) (nsL aZ 3) q41.nd (DL.toO (DO.toL (aJ bj bI (DL.toB ah) (DO.toB (bc z30 z9 (hr.mono (by decide)) (ag (aG (pvN 0 aZ)) (ag ah (ag ah aD)))))))))
     (bE (vp (nsN aZ 4) (nsL aZ 4) q41.nd (M:=["_law_j","_law_base","_law_letters"]) (src:=[none,some 0,some 2]) (ts:=[0]) (CmpScope.of (N:=["_law_base","_law_k","_law_letters","_law_size","_law_some"]) (outer:=ac z13) (by decide +kernel)) rfl (DIF.toB (dJ q57 T.n_range (ag (aG (pvN 3 aZ)) aD))) (fun nd _ _ _ _=>(bi (cx (N:=["_law_j","_law_base","_law_letters"]) (i:=0) (by decide +kernel) (by decide +kernel) nd (scC (outer:=ac z13) (by exact rfl))))) (fun _ _ _ _=>dZ) (fun _ _ _ _=>(DO.toL (bn hr (aw (pvD (N:=["_law_j","_law_base","_law_letters"]) 2 (by decide +kernel) (scC (outer:=ac z13) rfl))) (DO.toB (bc (by decide +kernel) z9 (hr.mono (by decide)) (ag (aG (pvD (N:=["_law_j","_law_base","_law_letters"]) 1 (by decide +kernel) (scC (outer:=ac z13) rfl))) (ag (aG (pvD (N:=["_law_j","_law_base","_law_letters"]) 0 (by decide +kernel) (scC (outer:=ac z13) rfl))) (ag ah aD))) (e1:=(scC (outer:=ac z13) rfl))))))) (by decide +kernel))
     (bE (x0 hr (pvN 4 aZ) (DO.toB (bc z30 z9 (hr.mono (by decide)) (ag (aG (pvN 0 aZ)) (ag ah (ag (aG (pvN 3 aZ)) aD))))) (DO.toL (bn hr (aw (pvN 2 aZ)) (DO.toB (aJ cg dv (DO.toB (aJ bj bI (DO.toB (bc z30 z9 (hr.mono (by decide)) (ag (aG (pvN 0 aZ)) (ag ah (ag ah aD))))) (aw (pvN 1 aZ)))) (DL.toB ah))))))
     (db (jQ (vg (DL.toB gM) (bK (aw (pvN 4 aZ)) cN))))))))
abbrev z14:Stmt:=top 7
def y28:FnScope ["_law_cell_here","_law_base","_law_cells","_law_k","_law_shelves"] ["_law_cell_here","_law_base"] (ac z14):=⟨rfl,rfl,rfl,by decide +kernel,rfl,by decide +kernel,by decide +kernel⟩
def aC:dn (ac z14) ["_law_cell_here","_law_base","_law_cells","_law_k","_law_shelves"]=true:=by decide +kernel
def y24:bq (ac z14) "_law_part"=true:=by decide +kernel
def z40:bq (ac z14) "range"=true:=by decide +kernel
def q36:bq (ac z14) "_law_name"=true:=by decide +kernel
def y40:bq (ac z14) "tuple"=true:=by decide +kernel
def q59 (T:Txt P w K mg) (D:DefF K mg "_law_program" z14 ["_law_cell_here","_law_base"]) (z29:OkF P w K mg base "_law_name" 2 ["_law_base","_law_k"] (spD K 2 (y13))) (z9:OkF P w K mg base "_law_part" 1 ["_law_cell_here","_law_j","_law_many"] (spD K 3 (y6))):OkF P w K mg base "_law_program" 3 ["_law_cell_here","_law_base"] (spD K 2 y26):=
 kO D y28 rfl fun f cdv A outer s H E hr=>(bE (dz (nsN aC 2) (nsL aC 2) y28.nd (bY aD))
     (bE (lP PassesOwn.never rfl (dJ z40 T.n_range (ag (DO.toL (aJ bj bI (DL.toB ah) (DO.toB (bc y24 z9 (hr.mono (by decide)) (ag (aG (pvN 0 aC)) (ag ah (ag ah aD))))))) aD)) (bi (aP (nsN aC 3) (nsL aC 3) y28.nd)) (db (gl (pvN 2 aC) (DO.toL (bP (ag (DO.toL (bc q36 z29 (hr.mono (by decide)) (ag (aG (pvN 1 aC)) (ag (aG (pvN 3 aC)) aD)))) (ag (DO.toL (aJ cg dv (DO.toB (aJ cY d3 (DO.toB (aJ bj bI (aw (pvN 0 aC)) (DO.toB (aJ cY d3 (DL.toB ah) (aw (pvN 3 aC)))))) (DL.toB ah))) (DO.toB (aJ lw pJ (DL.toB ah) (DL.toB ah))))) (ag kK aD))))))))
     (bE (dz (nsN aC 4) (nsL aC 4) y28.nd (bY aD))
     (bE (lP PassesOwn.never rfl (dJ z40 T.n_range (ag (DO.toL (aJ bj bI (DL.toB ah) (DO.toB (bc y24 z9 (hr.mono (by decide)) (ag (aG (pvN 0 aC)) (ag ah (ag ah aD))))))) aD)) (bi (aP (nsN aC 3) (nsL aC 3) y28.nd)) (db (gl (pvN 4 aC) (DO.toL (bP (ag (DO.toL (bc q36 z29 (hr.mono (by decide)) (ag (aG (pvN 1 aC)) (ag (DO.toL (aJ bj bI (DL.toB ah) (aw (pvN 3 aC)))) aD)))) (ag (DO.toL (aJ bj bI (DL.toB ah) (DO.toB (bc y24 z9 (hr.mono (by decide)) (ag (DO.toL (aJ bj bI (aw (pvN 0 aC)) (aw (pvN 3 aC)))) (ag ah (ag ah aD))))))) (ag kK aD))))))))
     (db (jQ (bP (ag (DO.toL (ii y40 dq jv T.n_tuple hW (bK (aw (pvN 2 aC)) cN))) (ag (DO.toL (ii y40 dq jv T.n_tuple hW (bK (aw (pvN 4 aC)) cN))) (ag (DO.toL (aJ vM yt (DO.toB (bP (ag (DO.toL (bP (ag gM (ag ah aD)))) aD))) (DL.toB ah))) aD))))))))))
abbrev z10:Stmt:=top 8
def q28:FnScope ["_law_program_here","_law_seats_here","_law_name_here","_law_size","_law_twin"] ["_law_program_here"] (ac z10):=⟨rfl,rfl,rfl,by decide +kernel,rfl,by decide +kernel,by decide +kernel⟩
def aV:dn (ac z10) ["_law_program_here","_law_seats_here","_law_name_here","_law_size","_law_twin"]=true:=by decide +kernel
def q52:bq (ac z10) "range"=true:=by decide +kernel
def z63 (T:Txt P w K mg) (D:DefF K mg "_law_seats" z10 ["_law_program_here"]):OkF P w K mg base "_law_seats" 1 ["_law_program_here"] (spD K 1 y31):=
 kO D q28 rfl fun f cdv A outer s H E hr=>(bE (sV (nsN aV 1) (nsL aV 1) q28.nd (M:=["_law_name_here","_law_start","_law_twin"]) (src:=[none,none,none]) (ts:=[0,1,2]) (CmpScope.of (N:=["_law_program_here","_law_seats_here","_law_name_here","_law_size","_law_twin"]) (outer:=ac z10) (by decide +kernel)) rfl (lQ (DO.toB (bn hr (aw (pvN 0 aV)) (DL.toB ah)))) (fun nd _ _ _ _=>(gO rfl (bC (bi (cx (N:=["_law_name_here","_law_start","_law_twin"]) (i:=0) (by decide +kernel) (by decide +kernel) nd (scC (outer:=ac z10) (by exact rfl)))) (bC (bi (cx (N:=["_law_name_here","_law_start","_law_twin"]) (i:=1) (by decide +kernel) (by decide +kernel) nd (scC (outer:=ac z10) (by exact rfl)))) (bC (bi (cx (N:=["_law_name_here","_law_start","_law_twin"]) (i:=2) (by decide +kernel) (by decide +kernel) nd (scC (outer:=ac z10) (by exact rfl)))) fj))))) (fun _ _ _ _=>dZ) (fun _ _ _ _=>(DO.toL (bP (ag (aG (pvD (N:=["_law_name_here","_law_start","_law_twin"]) 0 (by decide +kernel) (scC (outer:=ac z10) rfl))) (ag ah aD))))) (by decide +kernel))
     (bE (lP PassesOwn.never rfl (gT (DO.toL (bn hr (aw (pvN 0 aV)) (DL.toB ah)))) (gO rfl (bC (bi (aP (nsN aV 2) (nsL aV 2) q28.nd)) (bC (bi (aP (nsN aV 3) (nsL aV 3) q28.nd)) (bC (bi (aP (nsN aV 4) (nsL aV 4) q28.nd)) fj)))) (db (dz (nsN aV 1) (nsL aV 1) q28.nd (DL.toO (DO.toL (aJ bj bI (aw (pvN 1 aV)) (DO.toB (lR (M:=["_law_place","_law_name_here"]) (src:=[none,some 2]) (ts:=[0]) (CmpScope.of (N:=["_law_program_here","_law_seats_here","_law_name_here","_law_size","_law_twin"]) (outer:=ac z10) (by decide +kernel)) rfl (DIF.toB (dJ q52 T.n_range (ag (aG (pvN 3 aV)) aD))) (fun nd _ _ _ _=>(bi (cx (N:=["_law_place","_law_name_here"]) (i:=0) (by decide +kernel) (by decide +kernel) nd (scC (outer:=ac z10) (by exact rfl))))) (fun _ _ _ _=>dZ) (fun _ _ _ _=>(DO.toL (bP (ag (aG (pvD (N:=["_law_place","_law_name_here"]) 1 (by decide +kernel) (scC (outer:=ac z10) rfl))) (ag (aG (pvD (N:=["_law_place","_law_name_here"]) 0 (by decide +kernel) (scC (outer:=ac z10) rfl))) aD))))) (by decide +kernel)))))))))
     (db (pG (pvN 1 aV)))))
abbrev z7:Stmt:=kl 2 0
def y54:FnScope ["self","program","begin"] ["self","program","begin"] (ac z7):=⟨rfl,rfl,rfl,by decide +kernel,rfl,by decide +kernel,by decide +kernel⟩
def aW:dn (ac z7) ["self","program","begin"]=true:=by decide +kernel
def y37:bq (ac z7) "dict"=true:=by decide +kernel
def y56 (T:Txt P w K mg) (D:DefI K mg "Store" "Store.__init__" z7 ["self","program","begin"]):OkI P w K mg base "Store" 1 ["self","program","begin"] (spG K 3 (q20)):=
 vC D y54 rfl fun f cdv A outer s H E hr=>(aL (fw (aq (pvN 0 aW)) T.f_Store_home (pV y37 rfl T.n_dict pj (pW (M:=["head"]) (src:=[none]) (ts:=[0]) (CmpScope.of (N:=["self","program","begin"]) (outer:=ac z7) (by decide +kernel)) rfl (gT (DO.toL (bn hr (aw (pvN 1 aW)) (DL.toB ah)))) (fun nd _ _ _ _=>(bi (cx (N:=["head"]) (i:=0) (by decide +kernel) (by decide +kernel) nd (scC (outer:=ac z7) (by exact rfl))))) (fun _ _ _ _=>dZ) (fun _ _ _ _=>(ma (ak (ax (DO.toL (bn hr (aw (pvD (N:=["head"]) 0 (by decide +kernel) (scC (outer:=ac z7) rfl))) (DL.toB ah)))) (ak (ca (bY (ag (DO.toL (bn hr (aw (pvD (N:=["head"]) 0 (by decide +kernel) (scC (outer:=ac z7) rfl))) (DL.toB ah))) aD))) aM)))) (by decide +kernel))))
     (aL (yr (dm (aq (pvN 0 aW)) T.f_Store_home) (pV y37 rfl T.n_dict pj (pW (M:=["head"]) (src:=[none]) (ts:=[0]) (CmpScope.of (N:=["self","program","begin"]) (outer:=ac z7) (by decide +kernel)) rfl (gT (DO.toL (bn hr (aw (pvN 1 aW)) (DL.toB ah)))) (fun nd _ _ _ _=>(bi (cx (N:=["head"]) (i:=0) (by decide +kernel) (by decide +kernel) nd (scC (outer:=ac z7) (by exact rfl))))) (fun _ _ _ _=>dZ) (fun _ _ _ _=>(ma (ak (ax (DO.toL (bn hr (aw (pvD (N:=["head"]) 0 (by decide +kernel) (scC (outer:=ac z7) rfl))) (DL.toB ah)))) (ak (yk (ca (bY (ag ah aD))) (ax (DO.toL (bn hr (aw (pvD (N:=["head"]) 0 (by decide +kernel) (scC (outer:=ac z7) rfl))) (DL.toB ah))))) aM)))) (by decide +kernel))))
     (aL (fw (aq (pvN 0 aW)) T.f_Store_heads (ca (bY (ag (DO.toL (bP (ag ah (ag ah (ag ah (ag ah aD)))))) (ag (DO.toL (bP (ag ah (ag ah (ag ah (ag ah aD)))))) aD)))))
     (aL (fw (aq (pvN 0 aW)) T.f_Store_page_boxes (lZ (ak (ca (lR (M:=["box"]) (src:=[none]) (ts:=[0]) (CmpScope.of (N:=["self","program","begin"]) (outer:=ac z7) (by decide +kernel)) rfl (lQ (aw (pvN 2 aW))) (fun nd _ _ _ _=>(bi (cx (N:=["box"]) (i:=0) (by decide +kernel) (by decide +kernel) nd (scC (outer:=ac z7) (by exact rfl))))) (fun _ _ _ _=>dZ) (fun _ _ _ _=>(DO.toL (bP (ag (aG (pvD (N:=["box"]) 0 (by decide +kernel) (scC (outer:=ac z7) rfl))) (ag ah aD))))) (by decide +kernel))) (ak (ca (bY aD)) aM))))
     (aL (fw (aq (pvN 0 aW)) T.f_Store_page_turns (lZ (ak (ca (bY aD)) (ak (ca (bY aD)) aM))))
     (aL (fw (aq (pvN 0 aW)) T.f_Store_counting (ca (DL.toO ah)))
     (aU (fw (aq (pvN 0 aW)) T.f_Store_result (ca (DL.toO lN))))))))))
abbrev z25:Stmt:=top 4
def z47:FnScope ["_law_script","_law_k","_law_seed"] ["_law_script","_law_k"] (ac z25):=⟨rfl,rfl,rfl,by decide +kernel,rfl,by decide +kernel,by decide +kernel⟩
def aX:dn (ac z25) ["_law_script","_law_k","_law_seed"]=true:=by decide +kernel
def q40:bq (ac z25) "len"=true:=by decide +kernel
def y65 (T:Txt P w K mg) (D:DefF K mg "_law_cell" z25 ["_law_script","_law_k"]):OkF P w K mg base "_law_cell" 1 ["_law_script","_law_k"] (spD K 2 y19):=
 kO D z47 rfl fun f cdv A outer s H E hr=>(bE (sB (fS rM jd (aw (pvN 1 aX)) (DO.toB (dN q40 bw dc T.n_len bX (bK (aw (pvN 0 aX)) cN))) (cw _)) (db (jQ (bn hr (aw (pvN 0 aX)) (aw (pvN 1 aX))))) sA)
     (bE (dz (nsN aX 2) (nsL aX 2) z47.nd (DL.toO ah))
     (bE (sB (fS wC jd (DO.toB (dN q40 bw dc T.n_len bX (bK (aw (pvN 0 aX)) cN))) (DL.toB ah) (cw _)) (db (dz (nsN aX 2) (nsL aX 2) z47.nd (DL.toO (DO.toL (aJ cg dv (DO.toB (bn hr (aw (pvN 0 aX)) (DO.toB (aJ cg dv (aw (pvN 1 aX)) (DO.toB (dN q40 bw dc T.n_len bX (bK (aw (pvN 0 aX)) cN))))))) (DL.toB ah)))))) sA)
     (db (jQ (aJ cg dv (DO.toB (aJ cY d3 (DO.toB (aJ bj bI (DO.toB (aJ bj bI (aw (pvN 2 aX)) (DO.toB (aJ cY d3 (DL.toB ah) (aw (pvN 1 aX)))))) (DL.toB ah))) (DO.toB (aJ bj bI (DO.toB (aJ bj bI (aw (pvN 2 aX)) (DO.toB (aJ cY d3 (DL.toB ah) (aw (pvN 1 aX)))))) (DL.toB ah))))) (DL.toB ah)))))))
abbrev z17:Stmt:=kl 2 6
def y59:FnScope ["self","number"] ["self","number"] (ac z17):=⟨rfl,rfl,rfl,by decide +kernel,rfl,by decide +kernel,by decide +kernel⟩
def bT:dn (ac z17) ["self","number"]=true:=by decide +kernel
def z41:bq (ac z17) "list"=true:=by decide +kernel
def q60 (T:Txt P w K mg) (D:DefM K "Store" "page" "Store.page" z17 ["self","number"]):OkM P w K mg base "Store" "page" 1 ["self","number"] (spG K 2 (y11)):=
 dH D y59 rfl fun f cdv A outer s H E hr=>(aU (cR (w9 (bV hr (dm (aq (pvN 0 bT)) T.f_Store_heads) (ax (aG (pvN 1 bT)))) (ma (ak (iy z41 eY oe T.n_list lJ (ak (bV hr (dm (aq (pvN 0 bT)) T.f_Store_page_boxes) (ax (aG (pvN 1 bT)))) aM)) (ak (iy z41 eY oe T.n_list lJ (ak (bV hr (dm (aq (pvN 0 bT)) T.f_Store_page_turns) (ax (aG (pvN 1 bT)))) aM)) aM))))))
abbrev z21:Stmt:=kl 2 5
def y61:FnScope ["self"] ["self"] (ac z21):=⟨rfl,rfl,rfl,by decide +kernel,rfl,by decide +kernel,by decide +kernel⟩
def j6:dn (ac z21) ["self"]=true:=by decide +kernel
def y60 (T:Txt P w K mg) (D:DefM K "Store" "face" "Store.face" z21 ["self"]):OkM P w K mg base "Store" "face" 1 ["self"] (spG K 1 (y9)):=
 dH D y61 rfl fun f cdv A outer s H E hr=>(aU (cR (dm (aq (pvN 0 j6)) T.f_Store_counting)))
abbrev y21:Stmt:=top 12
def q37:FnScope ["_law_store","_law_writing_here","_law_head","_law_boxes","_law_turns"] ["_law_store","_law_writing_here"] (ac y21):=⟨rfl,rfl,rfl,by decide +kernel,rfl,by decide +kernel,by decide +kernel⟩
def bg:dn (ac y21) ["_law_store","_law_writing_here","_law_head","_law_boxes","_law_turns"]=true:=by decide +kernel
def y50:bq (ac y21) "tuple"=true:=by decide +kernel
def z60 (T:Txt P w K mg) (D:DefF K mg "_law_counts" y21 ["_law_store","_law_writing_here"]) (q18:OkM P w K mg base "Store" "page" 1 ["self","number"] (spG K 2 (y11))) (y17:OkM P w K mg base "Store" "face" 1 ["self"] (spG K 1 (y9))):OkF P w K mg base "_law_counts" 2 ["_law_store","_law_writing_here"] (spG K 2 (z12)):=
 gu D q37 rfl fun f cdv A outer s H E hr=>(aL (pZ (aq (pvN 1 bg)) (j3 rfl (b8 (cO (aP (nsN bg 2) (nsL bg 2) q37.nd)) (b8 (cO (aP (nsN bg 3) (nsL bg 3) q37.nd)) (b8 (cO (aP (nsN bg 4) (nsL bg 4) q37.nd)) iD)))))
     (aU (cR (vP 3 (jS hr) sF (dE q18 (hr.mono (by decide)) (aq (pvN 0 bg)) (ak (cz y17 (hr.mono (by decide)) (aq (pvN 0 bg))) aM) (kg (z8 bR))) (w9 (iy y50 dq jv T.n_tuple hW (ak (aq (pvN 2 bg)) aM)) (ma (ak (aq (pvN 3 bg)) (ak (aq (pvN 4 bg)) aM)))) (cw _)))))
abbrev z15:Stmt:=kl 2 4
def z56:FnScope ["self","name","place"] ["self","name","place"] (ac z15):=⟨rfl,rfl,rfl,by decide +kernel,rfl,by decide +kernel,by decide +kernel⟩
def cT:dn (ac z15) ["self","name","place"]=true:=by decide +kernel
def z55 (T:Txt P w K mg) (D:DefM K "Store" "get_home" "Store.get_home" z15 ["self","name","place"]):OkM P w K mg base "Store" "get_home" 1 ["self","name","place"] (spG K 3 (z20)):=
 dH D z56 rfl fun f cdv A outer s H E hr=>(aU (cR (bV hr (bV hr (dm (aq (pvN 0 cT)) T.f_Store_home) (ax (aG (pvN 1 cT)))) (ax (aG (pvN 2 cT))))))
abbrev y30:Stmt:=top 14
def q46:FnScope ["_law_store","_law_home_here","_law_name_here","_law_place"] ["_law_store","_law_home_here"] (ac y30):=⟨rfl,rfl,rfl,by decide +kernel,rfl,by decide +kernel,by decide +kernel⟩
def bx:dn (ac y30) ["_law_store","_law_home_here","_law_name_here","_law_place"]=true:=by decide +kernel
def q64 (T:Txt P w K mg) (D:DefF K mg "_law_home" y30 ["_law_store","_law_home_here"]) (y38:OkM P w K mg base "Store" "get_home" 1 ["self","name","place"] (spG K 3 (z20))):OkF P w K mg base "_law_home" 2 ["_law_store","_law_home_here"] (spG K 2 (q17)):=
 gu D q46 rfl fun f cdv A outer s H E hr=>(aL (vH PassesOwn.never rfl (aq (pvN 1 bx)) (gO rfl (bC (bi (aP (nsN bx 2) (nsL bx 2) q46.nd)) (bC (bi (aP (nsN bx 3) (nsL bx 3) q46.nd)) fj))) (aU (eO (lX (sD hr) r_ne (dE y38 (hr.mono (by decide)) (aq (pvN 0 bx)) (ak (ax (aG (pvN 2 bx))) (ak (ax (aG (pvN 3 bx))) aM)) (kg (z8 (z8 bR)))) (yp hr (aq (pvN 1 bx)) (ak (ax (aG (pvN 2 bx))) (ak (ax (aG (pvN 3 bx))) aM))) (cw _)) (aU (cR (ax kK))) fu)))
     (aU (cR (ax kK))))
abbrev q22:Stmt:=top 9
def z26:FnScope ["_law_cell_here","_law_many","_law_free","_law_found","_law_number","_law_k","_law_mixed"] ["_law_cell_here","_law_many","_law_free"] (ac q22):=⟨rfl,rfl,rfl,by decide +kernel,rfl,by decide +kernel,by decide +kernel⟩
def aE:dn (ac q22) ["_law_cell_here","_law_many","_law_free","_law_found","_law_number","_law_k","_law_mixed"]=true:=by decide +kernel
def z50:bq (ac q22) "range"=true:=by decide +kernel
def z61 (T:Txt P w K mg) (D:DefF K mg "_law_values" q22 ["_law_cell_here","_law_many","_law_free"]):OkF P w K mg base "_law_values" 1 ["_law_cell_here","_law_many","_law_free"] (spD K 3 z16):=
 kO D z26 rfl fun f cdv A outer s H E hr=>(bE (dz (nsN aE 3) (nsL aE 3) z26.nd (bY aD))
     (bE (dz (nsN aE 4) (nsL aE 4) z26.nd (DL.toO (aG (pvN 0 aE))))
     (bE (lP PassesOwn.never rfl (dJ z50 T.n_range (ag (aG (pvN 1 aE)) aD)) (bi (aP (nsN aE 5) (nsL aE 5) z26.nd)) (db (sB (sw (aw (pvN 2 aE)) (fun _=>rfl)) (bE (gl (pvN 3 aE) (DO.toL (aJ cg dv (aw (pvN 4 aE)) (DO.toB (aJ lw pJ (DL.toB ah) (DL.toB ah))))))
     (db (dz (nsN aE 4) (nsL aE 4) z26.nd (DL.toO (DO.toL (aJ nj tN (aw (pvN 4 aE)) (DO.toB (aJ lw pJ (DL.toB ah) (DL.toB ah))))))))) (bE (dz (nsN aE 6) (nsL aE 6) z26.nd (DL.toO (DO.toL (aJ cg dv (DO.toB (aJ bj bI (DO.toB (aJ bj bI (DO.toB (aJ cY d3 (DO.toB (aJ cg dv (aw (pvN 0 aE)) (DL.toB ah))) (DL.toB ah))) (DO.toB (aJ cY d3 (DL.toB ah) (aw (pvN 5 aE)))))) (DL.toB ah))) (DL.toB ah)))))
     (db (gl (pvN 3 aE) (DO.toL (aJ bj bI (DO.toB (aJ cg dv (DO.toB (aJ cY d3 (DO.toB (aJ cg dv (DO.toB (aJ cY d3 (aw (pvN 6 aE)) (aw (pvN 6 aE)))) (DL.toB ah))) (DL.toB ah))) (DO.toB (aJ lw pJ (DL.toB ah) (DL.toB ah))))) (DO.toB (aJ cg dv (aw (pvN 6 aE)) (DL.toB ah)))))))))))
     (db (pG (pvN 3 aE))))))
abbrev y8:Stmt:=top 10
def q13:FnScope ["_law_cells","_law_seats_here","_law_head","_law_free","_law_boxes","_law_k","_law_number","_law_turns","_law_left","_law_told"] ["_law_cells","_law_seats_here"] (ac y8):=⟨rfl,rfl,rfl,by decide +kernel,rfl,by decide +kernel,by decide +kernel⟩
def ai:dn (ac y8) ["_law_cells","_law_seats_here","_law_head","_law_free","_law_boxes","_law_k","_law_number","_law_turns","_law_left","_law_told"]=true:=by decide +kernel
def z19:bq (ac y8) "_law_part"=true:=by decide +kernel
def q32:bq (ac y8) "_law_values"=true:=by decide +kernel
def y44:bq (ac y8) "enumerate"=true:=by decide +kernel
def q45:bq (ac y8) "_law_name"=true:=by decide +kernel
def z49:bq (ac y8) "list"=true:=by decide +kernel
def q42:bq (ac y8) "len"=true:=by decide +kernel
def q53:bq (ac y8) "min"=true:=by decide +kernel
def z51:bq (ac y8) "int"=true:=by decide +kernel
def z58 (T:Txt P w K mg) (D:DefF K mg "_law_writing" y8 ["_law_cells","_law_seats_here"]) (z39:OkF P w K mg base "_law_values" 1 ["_law_cell_here","_law_many","_law_free"] (spD K 3 (z16))) (z9:OkF P w K mg base "_law_part" 1 ["_law_cell_here","_law_j","_law_many"] (spD K 3 (y6))) (z29:OkF P w K mg base "_law_name" 2 ["_law_base","_law_k"] (spD K 2 (y13))):OkF P w K mg base "_law_writing" 3 ["_law_cells","_law_seats_here"] (spG K 2 (y25)):=
 gu D q13 rfl fun f cdv A outer s H E hr=>(aL (bQ (nsN ai 2) (nsL ai 2) q13.nd (ca (aJ bj bI (DO.toB (bY (ag (DO.toL (bc z19 z9 (hr.mono (by decide)) (ag (DO.toL (bn hr (aw (pvN 0 ai)) (DL.toB ah))) (ag ah (ag ah aD))))) aD))) (DO.toB (lR (M:=["_law_k","_law_cells"]) (src:=[none,some 0]) (ts:=[0]) (CmpScope.of (N:=["_law_cells","_law_seats_here","_law_head","_law_free","_law_boxes","_law_k","_law_number","_law_turns","_law_left","_law_told"]) (outer:=ac y8) (by decide +kernel)) rfl (lQ (DO.toB (bP (ag ah (ag ah (ag ah aD)))))) (fun nd _ _ _ _=>(bi (cx (N:=["_law_k","_law_cells"]) (i:=0) (by decide +kernel) (by decide +kernel) nd (scC (outer:=ac y8) (by exact rfl))))) (fun _ _ _ _=>dZ) (fun _ _ _ _=>(DO.toL (aJ cg dv (DO.toB (aJ cY d3 (DO.toB (bn hr (aw (pvD (N:=["_law_k","_law_cells"]) 1 (by decide +kernel) (scC (outer:=ac y8) rfl))) (aw (pvD (N:=["_law_k","_law_cells"]) 0 (by decide +kernel) (scC (outer:=ac y8) rfl))))) (DL.toB ah))) (DL.toB ah)))) (by decide +kernel))))))
     (aL (bQ (nsN ai 3) (nsL ai 3) q13.nd (ax (DO.toL (xW (jS hr) sF (DO.toB (bc z19 z9 (hr.mono (by decide)) (ag (DO.toL (bn hr (aw (pvN 0 ai)) (DL.toB ah))) (ag ah (ag ah aD))))) (DL.toB ah) (cw _)))))
     (aL (bQ (nsN ai 4) (nsL ai 4) q13.nd (ca (bY aD)))
     (aL (iP PassesOwn.never rfl (lT y44 T.n_enumerate (ag (DO.toL (bc q32 z39 (hr.mono (by decide)) (ag (DO.toL (bn hr (aw (pvN 0 ai)) (DL.toB ah))) (ag (DO.toL (bc z19 z9 (hr.mono (by decide)) (ag (DO.toL (bn hr (aw (pvN 0 ai)) (DL.toB ah))) (ag ah (ag ah aD))))) (ag (aG (pvN 3 ai)) aD))))) aD)) (gO rfl (bC (bi (aP (nsN ai 5) (nsL ai 5) q13.nd)) (bC (bi (aP (nsN ai 6) (nsL ai 6) q13.nd)) fj))) (aU (gt (aq (pvN 4 ai)) (ax (DO.toL (bP (ag (DO.toL (bc q45 z29 (hr.mono (by decide)) (ag (DO.toL (bn hr (aw (pvN 0 ai)) (DL.toB ah))) (ag (aG (pvN 5 ai)) aD)))) (ag (aG (pvN 6 ai)) aD))))))))
     (aL (bQ (nsN ai 7) (nsL ai 7) q13.nd (ca (bY aD)))
     (aL (bQ (nsN ai 8) (nsL ai 8) q13.nd (ca (ii z49 eY oe T.n_list lJ (bK (aw (pvN 1 ai)) cN))))
     (aL (bQ (nsN ai 6) (nsL ai 6) q13.nd (ax (DO.toL (bn hr (aw (pvN 0 ai)) (DL.toB ah)))))
     (aL (iP PassesOwn.never rfl (gT (DO.toL (bc q32 z39 (hr.mono (by decide)) (ag (DO.toL (bn hr (aw (pvN 0 ai)) (DL.toB ah))) (ag (DO.toL (dN q53 (iQ rfl) tu T.n_min n5 (bK (DO.toB (bc z19 z9 (hr.mono (by decide)) (ag (DO.toL (bn hr (aw (pvN 0 ai)) (DL.toB ah))) (ag ah (ag ah aD))))) (bK (DO.toB (dN q42 bw dc T.n_len bX (bK (aw (pvN 1 ai)) cN))) cN)))) (ag (aG (pvN 3 ai)) aD)))))) (bi (aP (nsN ai 9) (nsL ai 9) q13.nd)) (aL (gt (aq (pvN 7 ai)) (vT (ak (yu (aq (pvN 8 ai)) (cQ cg dv (ax (DO.toL (aJ cg dv (aw (pvN 6 ai)) (DL.toB ah)))) (bH q42 bw dc T.n_len bX (ak (aq (pvN 8 ai)) aM)))) (ak (ax (aG (pvN 9 ai))) aM))))
     (aU (bQ (nsN ai 6) (nsL ai 6) q13.nd (ax (DO.toL (bn hr (DO.toB (bY (ag (DO.toL (aJ bj bI (DO.toB (aJ cY d3 (aw (pvN 6 ai)) (DL.toB ah))) (DL.toB ah))) (ag (DO.toL (aJ nj tN (aw (pvN 6 ai)) (DL.toB ah))) aD)))) (DO.toB (ii z51 qN zm T.n_int xR (bK (aw (pvN 3 ai)) cN))))))))))
     (aU (cR (lZ (ak (aq (pvN 2 ai)) (ak (aq (pvN 4 ai)) (ak (aq (pvN 7 ai)) aM))))))))))))))
abbrev y18:Stmt:=kl 2 7
def y57:FnScope ["self"] ["self"] (ac y18):=⟨rfl,rfl,rfl,by decide +kernel,rfl,by decide +kernel,by decide +kernel⟩
def jp:dn (ac y18) ["self"]=true:=by decide +kernel
def z59 (T:Txt P w K mg) (D:DefM K "Store" "other" "Store.other" y18 ["self"]):OkM P w K mg base "Store" "other" 1 ["self"] (spG K 1 (y10)):=
 dH D y57 rfl fun f cdv A outer s H E hr=>(aU (cR (cQ eX io (ax ah) (dm (aq (pvN 0 jp)) T.f_Store_counting))))
abbrev q14:Stmt:=kl 2 8
def y49:FnScope ["self","row","count","heard","sent"] ["self","row","count","heard","sent"] (ac q14):=⟨rfl,rfl,rfl,by decide +kernel,rfl,by decide +kernel,by decide +kernel⟩
def aQ:dn (ac q14) ["self","row","count","heard","sent"]=true:=by decide +kernel
def q51 (T:Txt P w K mg) (D:DefM K "Store" "begin_page" "Store.begin_page" q14 ["self","row","count","heard","sent"]) (z11:OkM P w K mg base "Store" "other" 1 ["self"] (spG K 1 (y10))):OkM P w K mg base "Store" "begin_page" 2 ["self","row","count","heard","sent"] (spG K 5 (y16)):=
 dH D y49 rfl fun f cdv A outer s H E hr=>(aL (md hr (dm (aq (pvN 0 aQ)) T.f_Store_heads) (cz z11 (hr.mono (by decide)) (aq (pvN 0 aQ))) (ax (DO.toL (bP (ag (aG (pvN 1 aQ)) (ag (aG (pvN 2 aQ)) (ag (aG (pvN 3 aQ)) (ag (aG (pvN 4 aQ)) aD))))))))
     (aL (md hr (dm (aq (pvN 0 aQ)) T.f_Store_page_boxes) (cz z11 (hr.mono (by decide)) (aq (pvN 0 aQ))) (ca (bY aD)))
     (aU (md hr (dm (aq (pvN 0 aQ)) T.f_Store_page_turns) (cz z11 (hr.mono (by decide)) (aq (pvN 0 aQ))) (ca (bY aD))))))
abbrev y15:Stmt:=kl 2 9
def q56:FnScope ["self","name","value"] ["self","name","value"] (ac y15):=⟨rfl,rfl,rfl,by decide +kernel,rfl,by decide +kernel,by decide +kernel⟩
def b5:dn (ac y15) ["self","name","value"]=true:=by decide +kernel
def q55 (T:Txt P w K mg) (D:DefM K "Store" "keep_box" "Store.keep_box" y15 ["self","name","value"]) (z11:OkM P w K mg base "Store" "other" 1 ["self"] (spG K 1 (y10))):OkM P w K mg base "Store" "keep_box" 2 ["self","name","value"] (spG K 3 (y20)):=
 dH D q56 rfl fun f cdv A outer s H E hr=>(aU (gt (bV hr (dm (aq (pvN 0 b5)) T.f_Store_page_boxes) (cz z11 (hr.mono (by decide)) (aq (pvN 0 b5)))) (ax (DO.toL (bP (ag (aG (pvN 1 b5)) (ag (aG (pvN 2 b5)) aD)))))))
abbrev y14:Stmt:=kl 2 10
def z52:FnScope ["self","name","place","value"] ["self","name","place","value"] (ac y14):=⟨rfl,rfl,rfl,by decide +kernel,rfl,by decide +kernel,by decide +kernel⟩
def bD:dn (ac y14) ["self","name","place","value"]=true:=by decide +kernel
def y51 (T:Txt P w K mg) (D:DefM K "Store" "keep_turn" "Store.keep_turn" y14 ["self","name","place","value"]) (z11:OkM P w K mg base "Store" "other" 1 ["self"] (spG K 1 (y10))):OkM P w K mg base "Store" "keep_turn" 2 ["self","name","place","value"] (spG K 4 (z18)):=
 dH D z52 rfl fun f cdv A outer s H E hr=>(aU (gt (bV hr (dm (aq (pvN 0 bD)) T.f_Store_page_turns) (cz z11 (hr.mono (by decide)) (aq (pvN 0 bD)))) (ax (DO.toL (bP (ag (DO.toL (bP (ag (aG (pvN 1 bD)) (ag (aG (pvN 2 bD)) aD)))) (ag (aG (pvN 3 bD)) aD)))))))
abbrev q21:Stmt:=kl 2 11
def y62:FnScope ["self"] ["self"] (ac q21):=⟨rfl,rfl,rfl,by decide +kernel,rfl,by decide +kernel,by decide +kernel⟩
def fX:dn (ac q21) ["self"]=true:=by decide +kernel
def z62 (T:Txt P w K mg) (D:DefM K "Store" "turn" "Store.turn" q21 ["self"]) (z11:OkM P w K mg base "Store" "other" 1 ["self"] (spG K 1 (y10))):OkM P w K mg base "Store" "turn" 2 ["self"] (spG K 1 (y34)):=
 dH D y62 rfl fun f cdv A outer s H E hr=>(aU (fw (aq (pvN 0 fX)) T.f_Store_counting (cz z11 (hr.mono (by decide)) (aq (pvN 0 fX)))))
abbrev y23:Stmt:=kl 2 3
def q63:FnScope ["self","name","place","value"] ["self","name","place","value"] (ac y23):=⟨rfl,rfl,rfl,by decide +kernel,rfl,by decide +kernel,by decide +kernel⟩
def du:dn (ac y23) ["self","name","place","value"]=true:=by decide +kernel
def y63 (T:Txt P w K mg) (D:DefM K "Store" "put" "Store.put" y23 ["self","name","place","value"]):OkM P w K mg base "Store" "put" 1 ["self","name","place","value"] (spG K 4 (z23)):=
 dH D q63 rfl fun f cdv A outer s H E hr=>(aU (md hr (bV hr (dm (aq (pvN 0 du)) T.f_Store_home) (ax (aG (pvN 1 du)))) (ax (aG (pvN 2 du))) (ax (aG (pvN 3 du)))))
abbrev q25:Stmt:=top 11
def q24:FnScope ["_law_store","_law_writing_here","_law_k","_law_head","_law_boxes","_law_turns","_law_seat","_law_number"] ["_law_store","_law_writing_here","_law_k"] (ac q25):=⟨rfl,rfl,rfl,by decide +kernel,rfl,by decide +kernel,by decide +kernel⟩
def aj:dn (ac q25) ["_law_store","_law_writing_here","_law_k","_law_head","_law_boxes","_law_turns","_law_seat","_law_number"]=true:=by decide +kernel
def q16:bq (ac q25) "len"=true:=by decide +kernel
def q65 (T:Txt P w K mg) (D:DefF K mg "_law_step" q25 ["_law_store","_law_writing_here","_law_k"]) (q35:OkM P w K mg base "Store" "begin_page" 2 ["self","row","count","heard","sent"] (spG K 5 (y16))) (z38:OkM P w K mg base "Store" "keep_box" 2 ["self","name","value"] (spG K 3 (y20))) (z36:OkM P w K mg base "Store" "keep_turn" 2 ["self","name","place","value"] (spG K 4 (z18))) (z44:OkM P w K mg base "Store" "turn" 2 ["self"] (spG K 1 (y34))) (z31:OkM P w K mg base "Store" "put" 1 ["self","name","place","value"] (spG K 4 (z23))):OkF P w K mg base "_law_step" 3 ["_law_store","_law_writing_here","_law_k"] (spG K 3 (q30)):=
 gu D q24 rfl fun f cdv A outer s H E hr=>(aL (pZ (aq (pvN 1 aj)) (j3 rfl (b8 (cO (aP (nsN aj 3) (nsL aj 3) q24.nd)) (b8 (cO (aP (nsN aj 4) (nsL aj 4) q24.nd)) (b8 (cO (aP (nsN aj 5) (nsL aj 5) q24.nd)) iD)))))
     (aU (eO (iO (fS (jS hr) sF (aw (pvN 2 aj)) (DL.toB ah) (cw _))) (aU (dF (dE q35 (hr.mono (by decide)) (aq (pvN 0 aj)) (ak (bV hr (aq (pvN 3 aj)) (ax ah)) (ak (bV hr (aq (pvN 3 aj)) (ax ah)) (ak (bV hr (aq (pvN 3 aj)) (ax ah)) (ak (bV hr (aq (pvN 3 aj)) (ax ah)) aM)))) (kg (z8 (z8 (z8 (z8 bR)))))))) (aU (eO (lX wA jd (ax (aG (pvN 2 aj))) (bH q16 bw dc T.n_len bX (ak (aq (pvN 4 aj)) aM)) (cw _)) (aU (dF (dE z38 (hr.mono (by decide)) (aq (pvN 0 aj)) (ak (bV hr (bV hr (aq (pvN 4 aj)) (ax (DO.toL (aJ eX io (aw (pvN 2 aj)) (DL.toB ah))))) (ax ah)) (ak (bV hr (bV hr (aq (pvN 4 aj)) (ax (DO.toL (aJ eX io (aw (pvN 2 aj)) (DL.toB ah))))) (ax ah)) aM)) (kg (z8 (z8 bR)))))) (aU (eO (lX wA jd (ax (aG (pvN 2 aj))) (cQ bj bI (bH q16 bw dc T.n_len bX (ak (aq (pvN 4 aj)) aM)) (bH q16 bw dc T.n_len bX (ak (aq (pvN 5 aj)) aM))) (cw _)) (aL (pZ (bV hr (aq (pvN 5 aj)) (cQ eX io (ax (DO.toL (aJ eX io (aw (pvN 2 aj)) (DL.toB ah)))) (bH q16 bw dc T.n_len bX (ak (aq (pvN 4 aj)) aM)))) (j3 rfl (b8 (cO (aP (nsN aj 6) (nsL aj 6) q24.nd)) (b8 (cO (aP (nsN aj 7) (nsL aj 7) q24.nd)) iD))))
     (aU (dF (dE z36 (hr.mono (by decide)) (aq (pvN 0 aj)) (ak (ax (DO.toL (bn hr (aw (pvN 6 aj)) (DL.toB ah)))) (ak (ax (DO.toL (bn hr (aw (pvN 6 aj)) (DL.toB ah)))) (ak (ax (aG (pvN 7 aj))) aM))) (kg (z8 (z8 (z8 bR)))))))) (aU (eO (lX (jS hr) sF (ax (aG (pvN 2 aj))) (cQ bj bI (cQ bj bI (bH q16 bw dc T.n_len bX (ak (aq (pvN 4 aj)) aM)) (bH q16 bw dc T.n_len bX (ak (aq (pvN 5 aj)) aM))) (ax ah)) (cw _)) (aU (dF (cz z44 (hr.mono (by decide)) (aq (pvN 0 aj))))) (aL (pZ (bV hr (aq (pvN 5 aj)) (cQ eX io (cQ eX io (ax (DO.toL (aJ eX io (aw (pvN 2 aj)) (DL.toB ah)))) (bH q16 bw dc T.n_len bX (ak (aq (pvN 4 aj)) aM))) (bH q16 bw dc T.n_len bX (ak (aq (pvN 5 aj)) aM)))) (j3 rfl (b8 (cO (aP (nsN aj 6) (nsL aj 6) q24.nd)) (b8 (cO (aP (nsN aj 7) (nsL aj 7) q24.nd)) iD))))
     (aU (dF (dE z31 (hr.mono (by decide)) (aq (pvN 0 aj)) (ak (ax (DO.toL (bn hr (aw (pvN 6 aj)) (DL.toB ah)))) (ak (ax (DO.toL (bn hr (aw (pvN 6 aj)) (DL.toB ah)))) (ak (ax (aG (pvN 7 aj))) aM))) (kg (z8 (z8 (z8 bR)))))))))))))))))
abbrev q12:Stmt:=top 15
def q29:FnScope ["_law_store","_law_writing_here","_law_last","_law_broken","_law_face","_law_k","_law_due"] ["_law_store","_law_writing_here","_law_last","_law_broken"] (ac q12):=⟨rfl,rfl,rfl,by decide +kernel,rfl,by decide +kernel,by decide +kernel⟩
def ao:dn (ac q12) ["_law_store","_law_writing_here","_law_last","_law_broken","_law_face","_law_k","_law_due"]=true:=by decide +kernel
def z35:bq (ac q12) "len"=true:=by decide +kernel
def y52:bq (ac q12) "min"=true:=by decide +kernel
def z45:bq (ac q12) "_law_step"=true:=by decide +kernel
def q44:bq (ac q12) "_law_counts"=true:=by decide +kernel
def q48:bq (ac q12) "tuple"=true:=by decide +kernel
def y48:bq (ac q12) "range"=true:=by decide +kernel
def y58 (T:Txt P w K mg) (D:DefF K mg "_law_written" q12 ["_law_store","_law_writing_here","_law_last","_law_broken"]) (y47:OkF P w K mg base "_law_step" 3 ["_law_store","_law_writing_here","_law_k"] (spG K 3 (q30))) (z24:OkF P w K mg base "_law_counts" 2 ["_law_store","_law_writing_here"] (spG K 2 (z12))) (q18:OkM P w K mg base "Store" "page" 1 ["self","number"] (spG K 2 (y11))) (y17:OkM P w K mg base "Store" "face" 1 ["self"] (spG K 1 (y9))):OkF P w K mg base "_law_written" 4 ["_law_store","_law_writing_here","_law_last","_law_broken"] (spG K 4 (q19)):=
 gu D q29 rfl fun f cdv A outer s H E hr=>(aL (bQ (nsN ao 4) (nsL ao 4) q29.nd (cQ bj bI (cQ bj bI (bH z35 bw dc T.n_len bX (ak (bV hr (aq (pvN 1 ao)) (ax ah)) aM)) (bH z35 bw dc T.n_len bX (ak (bV hr (aq (pvN 1 ao)) (ax ah)) aM))) (ax ah)))
     (aL (vU PassesOwn.never rfl y48 T.n_range (ak (bH y52 (iQ rfl) tu T.n_min n5 (ak (ax (aG (pvN 3 ao))) (ak (cQ bj bI (ax (DO.toL (aJ bj bI (aw (pvN 4 ao)) (DL.toB ah)))) (bH z35 bw dc T.n_len bX (ak (bV hr (aq (pvN 1 ao)) (ax ah)) aM))) aM))) aM) (bi (aP (nsN ao 5) (nsL ao 5) q29.nd)) (aL (dF (dr z45 y47 (hr.mono (by decide)) (ak (aq (pvN 0 ao)) (ak (aq (pvN 1 ao)) (ak (ax (aG (pvN 5 ao))) aM))) (z8 (z8 (z8 bR)))))
     (aL (bQ (nsN ao 6) (nsL ao 6) q29.nd (aq (pvN 2 ao)))
     (aL (eO (iO (fS yY jd (aw (pvN 5 ao)) (aw (pvN 4 ao)) (cw _))) (aU (bQ (nsN ao 6) (nsL ao 6) q29.nd (aq (pvN 1 ao)))) fu)
     (aL (eO (oA (jW (dr q44 z24 (hr.mono (by decide)) (ak (aq (pvN 0 ao)) (ak (aq (pvN 6 ao)) aM)) (z8 (z8 bR))) (fun _=>rfl))) (aU (cR (ax lN))) fu)
     (aU (eO (GW.t (yg (iO (fS rM jd (aw (pvN 5 ao)) (aw (pvN 4 ao)) (cw _))) (vv (p5 2 (sD hr) r_ne (yw (dE q18 (hr.mono (by decide)) (aq (pvN 0 ao)) (ak (cQ eX io (ax ah) (cz y17 (hr.mono (by decide)) (aq (pvN 0 ao)))) aM) (kg (z8 bR))) pK (pL (DL.toB ah))) (iy q48 dq jv T.n_tuple hW (ak (bV hr (aq (pvN 1 ao)) (ax ah)) aM)) (cw _))))) (aU (cR (ax lN))) fu)))))))
     (aL (eO (iO (fS wC jd (aw (pvN 3 ao)) (aw (pvN 4 ao)) (cw _))) (aU (cR (aq (pvN 1 ao)))) fu)
     (aU (cR (aq (pvN 2 ao)))))))
abbrev q23:Stmt:=top 13
def y35:FnScope ["_law_store","_law_many","_law_turns","_law_seat","_law_number"] ["_law_store","_law_many"] (ac q23):=⟨rfl,rfl,rfl,by decide +kernel,rfl,by decide +kernel,by decide +kernel⟩
def aR:dn (ac q23) ["_law_store","_law_many","_law_turns","_law_seat","_law_number"]=true:=by decide +kernel
def q58 (T:Txt P w K mg) (D:DefF K mg "_law_put_all" q23 ["_law_store","_law_many"]) (q18:OkM P w K mg base "Store" "page" 1 ["self","number"] (spG K 2 (y11))) (z31:OkM P w K mg base "Store" "put" 1 ["self","name","place","value"] (spG K 4 (z23))) (y17:OkM P w K mg base "Store" "face" 1 ["self"] (spG K 1 (y9))):OkF P w K mg base "_law_put_all" 2 ["_law_store","_law_many"] (spG K 2 (y12)):=
 gu D y35 rfl fun f cdv A outer s H E hr=>(aL (bQ (nsN aR 2) (nsL aR 2) y35.nd (bV hr (dE q18 (hr.mono (by decide)) (aq (pvN 0 aR)) (ak (cz y17 (hr.mono (by decide)) (aq (pvN 0 aR))) aM) (kg (z8 bR))) (ax ah)))
     (aU (iP PassesOwn.never rfl (gT (DO.toL (sI (aw (pvN 2 aR)) pK (pL (aw (pvN 1 aR)))))) (gO rfl (bC (bi (aP (nsN aR 3) (nsL aR 3) y35.nd)) (bC (bi (aP (nsN aR 4) (nsL aR 4) y35.nd)) fj))) (aU (dF (dE z31 (hr.mono (by decide)) (aq (pvN 0 aR)) (ak (ax (DO.toL (bn hr (aw (pvN 3 aR)) (DL.toB ah)))) (ak (ax (DO.toL (bn hr (aw (pvN 3 aR)) (DL.toB ah)))) (ak (ax (aG (pvN 4 aR))) aM))) (kg (z8 (z8 (z8 bR))))))))))
abbrev bM:Stmt:=top 16
def sc_law:FnScope ["_law_script","_law_program_here","_law_seats_here","_law_store","_law_last","_law_home_here","_law_name_here","_law_place","_law_start","_law_twin","_law_at","_law_cells","_law_writing_here","_law_whole","_law_broken","_law_seat","_law_number"] ["_law_script"] (ac bM):=⟨rfl,rfl,rfl,by decide +kernel,rfl,by decide +kernel,by decide +kernel⟩
def ay:dn (ac bM) ["_law_script","_law_program_here","_law_seats_here","_law_store","_law_last","_law_home_here","_law_name_here","_law_place","_law_start","_law_twin","_law_at","_law_cells","_law_writing_here","_law_whole","_law_broken","_law_seat","_law_number"]=true:=by decide +kernel
def q47:bq (ac bM) "_law_cell"=true:=by decide +kernel
def y53:bq (ac bM) "_law_program"=true:=by decide +kernel
def z57:bq (ac bM) "_law_seats"=true:=by decide +kernel
def z65:bq (ac bM) "Store"=true:=by decide +kernel
def z54:bq (ac bM) "range"=true:=by decide +kernel
def q50:bq (ac bM) "len"=true:=by decide +kernel
def q54:bq (ac bM) "_law_writing"=true:=by decide +kernel
def z33:bq (ac bM) "_law_part"=true:=by decide +kernel
def z66:bq (ac bM) "min"=true:=by decide +kernel
def z53:bq (ac bM) "_law_written"=true:=by decide +kernel
def y41:bq (ac bM) "_law_put_all"=true:=by decide +kernel
def y46:bq (ac bM) "_law_home"=true:=by decide +kernel
def y43:bq (ac bM) "_law_counts"=true:=by decide +kernel
def yA {f:Addr} {fd:FuncData} (T:Txt P w K mg) (D:Fun K "law" "law" bM f fd) (q43:OkF P w K mg base "_law_program" 3 ["_law_cell_here","_law_base"] (spD K 2 (y26))) (z46:OkF P w K mg base "_law_seats" 1 ["_law_program_here"] (spD K 1 (y31))) (q38:OkI P w K mg base "Store" 1 ["self","program","begin"] (spG K 3 (q20))) (q39:OkF P w K mg base "_law_cell" 1 ["_law_script","_law_k"] (spD K 2 (y19))) (z24:OkF P w K mg base "_law_counts" 2 ["_law_store","_law_writing_here"] (spG K 2 (z12))) (z43:OkF P w K mg base "_law_home" 2 ["_law_store","_law_home_here"] (spG K 2 (q17))) (z42:OkF P w K mg base "_law_writing" 3 ["_law_cells","_law_seats_here"] (spG K 2 (y25))) (y42:OkF P w K mg base "_law_written" 4 ["_law_store","_law_writing_here","_law_last","_law_broken"] (spG K 4 (q19))) (z37:OkF P w K mg base "_law_put_all" 2 ["_law_store","_law_many"] (spG K 2 (y12))) (z9:OkF P w K mg base "_law_part" 1 ["_law_cell_here","_law_j","_law_many"] (spD K 3 (y6))):FnOk P w K mg base CX0 5 f fd ["_law_script"] (spG K 1 p7):=
 me D sc_law rfl fun cdv A outer s H E hr=>(aL (bQ (nsN ay 1) (nsL ay 1) sc_law.nd (ax (DO.toL (bc y53 q43 (hr.mono (by decide)) (ag (DO.toL (bc q47 q39 (hr.mono (by decide)) (ag (aG (pvN 0 ay)) (ag ah aD)))) (ag (DO.toL (bc q47 q39 (hr.mono (by decide)) (ag (aG (pvN 0 ay)) (ag ah aD)))) aD))))))
     (aL (bQ (nsN ay 2) (nsL ay 2) sc_law.nd (ax (DO.toL (bc z57 z46 (hr.mono (by decide)) (ag (aG (pvN 1 ay)) aD)))))
     (aL (bQ (nsN ay 3) (nsL ay 3) sc_law.nd (vA z65 q38 (hr.mono (by decide)) (ak (ax (aG (pvN 1 ay))) (ak (ax (DO.toL (bP (ag gM (ag gM aD))))) aM)) (kg (z8 (z8 bR)))))
     (aL (bQ (nsN ay 4) (nsL ay 4) sc_law.nd (lZ (ak (ca (bY (ag ah (ag ah (ag ah (ag ah aD)))))) (ak (ca (bY (ag (DO.toL (bP (ag gM (ag ah aD)))) (ag (DO.toL (bP (ag gM (ag ah aD)))) aD)))) (ak (ca (bY aD)) aM)))))
     (aL (bQ (nsN ay 5) (nsL ay 5) sc_law.nd vI)
     (aL (iP PassesOwn.never rfl (gT (aG (pvN 2 ay))) (gO rfl (bC (bi (aP (nsN ay 6) (nsL ay 6) sc_law.nd)) (bC (bi (aP (nsN ay 7) (nsL ay 7) sc_law.nd)) fj))) (aU (pY hr (aq (pvN 5 ay)) (ak (ax (aG (pvN 6 ay))) (ak (ax (aG (pvN 7 ay))) aM)) (ax ah))))
     (aL (iP PassesOwn.never rfl (gT (DO.toL (bn hr (aw (pvN 1 ay)) (DL.toB ah)))) (gO rfl (bC (bi (aP (nsN ay 6) (nsL ay 6) sc_law.nd)) (bC (bi (aP (nsN ay 8) (nsL ay 8) sc_law.nd)) (bC (bi (aP (nsN ay 9) (nsL ay 9) sc_law.nd)) fj)))) (aU (pY hr (aq (pvN 5 ay)) (ak (ax (aG (pvN 6 ay))) (ak (ax ah) aM)) (ax (aG (pvN 8 ay))))))
     (aL (iP PassesOwn.never rfl (rc z54 T.n_range (ag ah (ag ah (ag ah aD)))) (bi (aP (nsN ay 10) (nsL ay 10) sc_law.nd)) (aU (eO (iO (fS rM jd (aw (pvN 10 ay)) (DO.toB (dN q50 bw dc T.n_len bX (bK (aw (pvN 0 ay)) cN))) (cw _))) (aL (tw (nsN ay 11) (nsL ay 11) sc_law.nd (M:=["_law_k","_law_script","_law_at"]) (src:=[none,some 0,some 10]) (ts:=[0]) (CmpScope.of (N:=["_law_script","_law_program_here","_law_seats_here","_law_store","_law_last","_law_home_here","_law_name_here","_law_place","_law_start","_law_twin","_law_at","_law_cells","_law_writing_here","_law_whole","_law_broken","_law_seat","_law_number"]) (outer:=ac bM) (by decide +kernel)) rfl (DIF.toB (dJ z54 T.n_range (ag ah aD))) (fun nd _ _ _ _=>(bi (cx (N:=["_law_k","_law_script","_law_at"]) (i:=0) (by decide +kernel) (by decide +kernel) nd (scC (outer:=ac bM) (by exact rfl))))) (fun _ _ _ _=>dZ) (fun _ _ _ _=>(DO.toL (bc (by decide +kernel) q39 (hr.mono (by decide)) (ag (aG (pvD (N:=["_law_k","_law_script","_law_at"]) 1 (by decide +kernel) (scC (outer:=ac bM) rfl))) (ag (DO.toL (aJ bj bI (aw (pvD (N:=["_law_k","_law_script","_law_at"]) 2 (by decide +kernel) (scC (outer:=ac bM) rfl))) (aw (pvD (N:=["_law_k","_law_script","_law_at"]) 0 (by decide +kernel) (scC (outer:=ac bM) rfl))))) aD)) (e1:=(scC (outer:=ac bM) rfl))))) (by decide +kernel))
     (aL (bQ (nsN ay 12) (nsL ay 12) sc_law.nd (dr q54 z42 (hr.mono (by decide)) (ak (ax (aG (pvN 11 ay))) (ak (ax (aG (pvN 2 ay))) aM)) (z8 (z8 bR))))
     (aL (bQ (nsN ay 13) (nsL ay 13) sc_law.nd (cQ bj bI (cQ bj bI (ax ah) (bH q50 bw dc T.n_len bX (ak (bV hr (aq (pvN 12 ay)) (ax ah)) aM))) (cQ cY d3 (ax ah) (bH q50 bw dc T.n_len bX (ak (bV hr (aq (pvN 12 ay)) (ax ah)) aM)))))
     (aL (bQ (nsN ay 14) (nsL ay 14) sc_law.nd (ax (DO.toL (bn hr (DO.toB (bY (ag (aG (pvN 13 ay)) (ag (aG (pvN 13 ay)) (ag (DO.toL (bc z33 z9 (hr.mono (by decide)) (ag (DO.toL (bn hr (aw (pvN 11 ay)) (DL.toB ah))) (ag ah (ag (DO.toL (aJ bj bI (aw (pvN 13 ay)) (DL.toB ah))) aD))))) aD))))) (DO.toB (dN z66 (iQ rfl) tu T.n_min n5 (bK (DL.toB ah) (bK (DO.toB (bc z33 z9 (hr.mono (by decide)) (ag (DO.toL (bn hr (aw (pvN 11 ay)) (DL.toB ah))) (ag ah (ag ah aD))))) cN))))))))
     (aL (bQ (nsN ay 4) (nsL ay 4) sc_law.nd (dr z53 y42 (hr.mono (by decide)) (ak (aq (pvN 3 ay)) (ak (aq (pvN 12 ay)) (ak (aq (pvN 4 ay)) (ak (ax (aG (pvN 14 ay))) aM)))) (z8 (z8 (z8 (z8 bR))))))
     (aL (eO (p5 3 xF r_is (aq (pvN 4 ay)) (ax lN) (cw _)) (aU (cR (ax kK))) fu)
     (aL (vO 100000 PassesOwn.never rfl (bV hr (aq (pvN 4 ay)) (ax ah)) (j3 rfl (b8 (cO (aP (nsN ay 15) (nsL ay 15) sc_law.nd)) (b8 (cO (aP (nsN ay 16) (nsL ay 16) sc_law.nd)) iD))) (aU (vR hr (aq (pvN 5 ay)) (ax (aG (pvN 15 ay))) (ax (aG (pvN 16 ay))))))
     (aL (eO (iO (fS (jS hr) sF (DO.toB (bc z33 z9 (hr.mono (by decide)) (ag (DO.toL (bn hr (aw (pvN 11 ay)) (DL.toB ah))) (ag ah (ag ah aD))))) (DL.toB ah) (cw _))) (aU (dF (dr y41 z37 (hr.mono (by decide)) (ak (aq (pvN 3 ay)) (ak (ax (DO.toL (bc z33 z9 (hr.mono (by decide)) (ag (DO.toL (bn hr (aw (pvN 11 ay)) (DL.toB ah))) (ag ah (ag ah aD)))))) aM)) (z8 (z8 bR))))) fu)
     (aL (dF (dr y41 z37 (hr.mono (by decide)) (ak (aq (pvN 3 ay)) (ak (ax ah) aM)) (z8 (z8 bR))))
     (aU (eO (GW.t (zq (oA (jW (dr y43 z24 (hr.mono (by decide)) (ak (aq (pvN 3 ay)) (ak (aq (pvN 4 ay)) aM)) (z8 (z8 bR))) (fun _=>rfl))) (yf (oA (jW (dr y46 z43 (hr.mono (by decide)) (ak (aq (pvN 3 ay)) (ak (aq (pvN 5 ay)) aM)) (z8 (z8 bR))) (fun _=>rfl)))))) (aU (cR (ax kK))) fu))))))))))) fu)))
     (aU (cR (yj (dr y43 z24 (hr.mono (by decide)) (ak (aq (pvN 3 ay)) (ak (aq (pvN 4 ay)) aM)) (z8 (z8 bR))) (yi (dr y46 z43 (hr.mono (by decide)) (ak (aq (pvN 3 ay)) (ak (aq (pvN 5 ay)) aM)) (z8 (z8 bR)))))))))))))))
end
local macro_rules | `(tactic| walk_at "d") => `(tactic| simp -implicitDefEqProofs only [L2.ou, L2.zE, L2.dA, L2.b7, L2.xX, L2.cX, L2.n6, L2.pF, L2.wV, L2.vk, L2.vm, L2.sJ, L2.toT, L2.toD, L2.T.d, L2.kD, L2.vL, L2.vB, L2.d2, L2.tB2, L2.sv, L2.au, L2.ab, L2.vTup_d, L2.sR, L2.zF, L2.aB, L2.pM, L2.vo, L2.vSl, L2.jf, L2.gz, L2.fIt, L2.dO, L2.am, L2.dC, L2.br, L2.gAdd_i, List.all_cons, List.all_nil, List.any_cons, List.any_nil, L2.ye, L2.jU, L2.jT, L2.vj, L2.gMod_w, L2.gCmp_i, L2.sG, L2.gIx_l, L2.gIx_t, L2.gLen_l, L2.asB_b, List.map_cons, List.map_nil, List.length_cons, List.length_nil, List.cons_append, List.nil_append, List.replicate, List.getElem?_cons_zero, List.getElem?_cons_succ, List.set_cons_zero, List.set_cons_succ, Option.bind_some, Option.bind_none, Option.map_some, Option.map_none, Option.join_some, Option.join_none, Nat.reduceAdd, Nat.reduceSub, Nat.reduceLeDiff, Int.reduceLT, Int.reduceEq, eq_self, Int.reduceNeg, Int.reduceLE, if_true, if_false, ite_true, ite_false, Bool.false_eq_true, decide_true, decide_false, Bool.not_true, Bool.not_false, Bool.and_true, Bool.true_and, Bool.or_true, Bool.true_or, Bool.or_false, Bool.false_or, Bool.and_false, Bool.false_and, String.reduceBEq, reduceCtorEq])
local macro_rules | `(tactic| walk_at "m") => `(tactic| simp only [List.map_cons, List.map_nil, List.length_cons, List.length_nil, List.cons_append, List.nil_append, Nat.reduceAdd, Nat.reduceSub, List.replicate])
def Hv (ch:CH) (l:List (Nat×CO)):Prop:=(l.map (·.1)).Nodup/\∀ x∈l,ch[x.1]?=some x.2
def Hv.at {ch:CH} {l:List (Nat×CO)} (h:Hv ch l) (k:Nat) {i:Nat} {o:CO} (e:l[k]?=some (i,o)):ch[i]?=some o:=h.2 (i,o) (List.mem_of_getElem? e)
def tT {l:List (Nat×CO)} (nd:(l.map (·.1)).Nodup) {k j:Nat} {x y:Nat×CO} (hk:l[k]?=some x) (hj:l[j]?=some y) (e:x.1=y.1):k=j:=by
 have h1:(l.map (·.1))[k]?=some x.1:=by rw [List.getElem?_map,hk];rfl
 have h2:(l.map (·.1))[j]?=some x.1:=by rw [List.getElem?_map,hj,e];rfl
 exact (List.getElem?_inj (by
  have:=(gX h1).1
  exact this) nd).mp (h1.trans h2.symm)
def tU {l:List (Nat×CO)} {k i:Nat} {o o':CO} (e:l[k]?=some (i,o)):(l.set k (i,o')).map (·.1)=l.map (·.1):=by
 rw [List.map_set]
 exact tz (by rw [List.getElem?_map,e];rfl)
def Hv.set {ch:CH} {l:List (Nat×CO)} (h:Hv ch l) (k:Nat) {i:Nat} {o:CO} (e:l[k]?=some (i,o)) (o':CO):Hv (ch.set i o') (l.set k (i,o')):=by
 refine ⟨by rw [tU e];exact h.1,fun x hx=>?_⟩
 obtain ⟨j,hj⟩:=List.getElem?_of_mem hx
 have hi:i<ch.length:=(gX (h.at k e)).1
 by_cases hjk:k=j
 · subst hjk
   have hkl:k<l.length:=(gX e).1
   rw [List.getElem?_set_self hkl] at hj
   cases hj
   simp [hi]
 · rw [gN hjk] at hj
   rw [gN fun z=>hjk (tT h.1 e hj z)]
   exact h.at j hj
def Hv.lt {ch:CH} {l:List (Nat×CO)} (h:Hv ch l) {x:Nat×CO} (hx:x∈l):x.1<ch.length:=(gX (h.2 x hx)).1
def Hv.app {ch:CH} {l:List (Nat×CO)} (h:Hv ch l) (g:CH):Hv (ch++g) l:=⟨h.1,fun x hx=>by rw [gL (h.lt hx)];exact h.2 x hx⟩
def lj {j:Nat}:∀ {l:List Nat} (k:Nat),l.Nodup->j∉l->(l.set k j).Nodup
 | [],_,h,_=>h
 | a::l,0,h,hj=>List.nodup_cons.mpr ⟨fun z=>hj (List.mem_cons_of_mem _ z),(List.nodup_cons.mp h).2⟩
 | a::l,k+1,h,hj=>List.nodup_cons.mpr ⟨fun z=>by
     rcases List.mem_or_eq_of_mem_set z with z | z
     · exact (List.nodup_cons.mp h).1 z
     · exact hj (by rw [z];exact .head _),lj k (List.nodup_cons.mp h).2 fun z=>hj (List.mem_cons_of_mem _ z)⟩
def Hv.move {ch:CH} {l:List (Nat×CO)} (h:Hv ch l) (k:Nat) {j:Nat} {o':CO} (hj:j∉l.map (·.1)) (ho:ch[j]?=some o'):Hv ch (l.set k (j,o')):=by
 refine ⟨?_,fun x hx=>?_⟩
 · rw [List.map_set]
   exact lj k h.1 hj
 · rcases List.mem_or_eq_of_mem_set hx with hx | rfl
   · exact h.2 x hx
   · exact ho
def Hv.fresh {ch:CH} {l:List (Nat×CO)} (h:Hv ch l) {j:Nat} (hj:ch.length<=j):j∉l.map (·.1):=fun z=>by
 obtain ⟨x,hx,rfl⟩:=List.mem_map.mp z
 exact absurd (h.lt hx) (Nat.not_lt.mpr hj)
def Hv.perm {ch:CH} {l m:List (Nat×CO)} (h:Hv ch l) (p:l.Perm m):Hv ch m:=⟨(p.map _).nodup_iff.mp h.1,fun x hx=>h.2 x (p.mem_iff.mpr hx)⟩
def Hv.add {ch:CH} {l:List (Nat×CO)} (h:Hv ch l) {j:Nat} {o:CO} (hj:j∉l.map (·.1)) (ho:ch[j]?=some o):Hv ch ((j,o)::l):=⟨List.nodup_cons.mpr ⟨hj,h.1⟩,fun x hx=>by
 rcases List.mem_cons.mp hx with rfl | hx
 · exact ho
 · exact h.2 x hx⟩
def Hv.sub {ch:CH} {l m:List (Nat×CO)} (h:Hv ch l) (s:m.Sublist l):Hv ch m:=⟨(s.map _).nodup h.1,fun x hx=>h.2 x (s.subset hx)⟩
def bf {ch:CH} {o:CO}:(ch++[o])[ch.length]?=some o:=by simp
def cP {ch:CH} {i:Nat} {o:CO} {g:CH} (h:ch[i]?=some o):(ch++g)[i]?=some o:=by
 rw [gL (gX h).1]
 exact h
def li (vs:List Int):CO:=.lst (vs.map fun v=>.dat (.int v))
def dP (ns:List Str) (ps:List Nat):List (Key×CV):=(ns.zip ps).map fun p=>(.inr p.1,.ref p.2)
abbrev Hm:=List (Str×List Int)
def lkS {α:Type}:List (Str×α)->Str->Option α
 | [],_=>none
 | p::l,x=>if p.1=x then some p.2 else lkS l x
def ptS {α:Type}:List (Str×α)->Str->α->List (Str×α)
 | [],x,v=>[(x,v)]
 | p::l,x,v=>if p.1=x then (p.1,v)::l else p::ptS l x v
def iF {κ:Type} [DecidableEq κ] (p:κ×CV) (l:List (κ×CV)) (k:κ):lkC (p::l) k=if p.1=k then some p.2 else lkC l k:=by
 unfold lkC
 by_cases h:p.1=k
 · simp [h]
 · simp [h]
def hl (ps:List Nat) (hm:Hm):List (Nat×CO):=(ps.zip hm).map fun p=>(p.1,li p.2.2)
def xc {x:Str} {vs:List Int}:∀ {ps:List Nat} {hm:Hm},ps.length=hm.length->lkS hm x=some vs->∃ q k,lkC (dP (hm.map (·.1)) ps) (.inr x)=some (.ref q)/\(hl ps hm)[k]?=some (q,li vs)/\hm[k]?=some (x,vs)/\(∀ ws,hl ps (ptS hm x ws)=(hl ps hm).set k (q,li ws))/\∀ ws,(ptS hm x ws).map (·.1)=hm.map (·.1)/\ptS hm x ws=hm.set k (x,ws)
 | [],[],_,h=>by cases h
 | [],_::_,h,_=>by cases h
 | _::_,[],h,_=>by cases h
 | p::ps,s::hm,hle,hx=>by
  rw [lkS] at hx
  have e0:dP ((s::hm).map (·.1)) (p::ps)=(.inr s.1,.ref p)::dP (hm.map (·.1)) ps:=rfl
  rw [e0,iF]
  by_cases h:s.1=x
  · rw [if_pos h] at hx
    cases hx
    refine ⟨p,0,by rw [if_pos (by rw [h])],rfl,by rw [<- h];rfl,fun ws=>?_,fun ws=>?_⟩
    · rw [ptS,if_pos h];rfl
    · rw [ptS,if_pos h];exact ⟨rfl,by rw [<- h];rfl⟩
  · rw [if_neg h] at hx
    obtain ⟨q,k,h1,h2,h3,h4,h5⟩:=xc (ps:=ps) (by simpa using hle) hx
    refine ⟨q,k+1,by rw [if_neg (fun z=>h (Sum.inr.inj z))];exact h1,h2,by simpa using h3,fun ws=>?_,fun ws=>?_⟩
    · rw [ptS,if_neg h]
      show (p,li s.2)::hl ps (ptS hm x ws)=_
      rw [h4];rfl
    · rw [ptS,if_neg h,List.map_cons,(h5 ws).1,(h5 ws).2]
      exact ⟨rfl,rfl⟩
structure Pg where
 h:List Int
 b:List (Str×Int)
 t:List ((Str×Int)×Int)
structure Sta where
 hm:Hm
 p0:Pg
 p1:Pg
 f:Bool
 r:Option Int
 w:Bool
structure Pl where
 (s h d b b0 b1 t t0 t1:Nat)
 ps:List Nat
def oD:Option Int->Dt
 | none=>.non
 | some v=>.int v
def fI (b:Bool):Int:=if b then 1 else 0
def bd (p:Str×Int):Dt:=.tup [.str p.1,.int p.2]
def td (p:(Str×Int)×Int):Dt:=.tup [.tup [.str p.1.1,.int p.1.2],.int p.2]
def bl (l:List (Str×Int)):CO:=.lst (l.map fun p=>.dat (bd p))
def tl (l:List ((Str×Int)×Int)):CO:=.lst (l.map fun p=>.dat (td p))
def hd (h:List Int):Dt:=.tup (h.map .int)
def dI (x:Str) (k:Nat):List Int->List (List Key×CV)
 | []=>[]
 | v::vs=>([.inr x,.inl (k:Int)],.dat (.int v))::dI x (k+1) vs
def dTm:Hm->List (List Key×CV)
 | []=>[]
 | s::hm=>dI s.1 0 s.2++dTm hm
def fns:List Str:=["home","heads","page_boxes","page_turns","counting","result"]
def so (P:Pl) (S:Sta):CO:=.ins "Store" fns [.ref P.h,.ref P.d,.ref P.b,.ref P.t,.dat (.int (fI S.f)),.dat (oD S.r)]
noncomputable def cs (P:Pl) (S:Sta) (R:List (Nat×CO)):List (Nat×CO):=
 (P.s,so P S)::(P.h,.dK (dP (S.hm.map (·.1)) P.ps))::(P.d,.lst [.dat (hd S.p0.h),.dat (hd S.p1.h)])::(P.b,.lst [.ref P.b0,.ref P.b1])::(P.b0,bl S.p0.b)::(P.b1,bl S.p1.b)::
 (P.t,.lst [.ref P.t0,.ref P.t1])::(P.t0,tl S.p0.t)::(P.t1,tl S.p1.t)::(hl P.ps S.hm++R)
section
variable {ch:CH} {P:Pl} {S:Sta} {R:List (Nat×CO)} {x:Str} {vs:List Int} {v:Int} {k:Nat}
def gc {α:Type} {l:List α} {k:Nat} {a:α} (h:l[k]?=some a):atI l (k:Int)=some a:=by
 have hk:=(gX h).1
 unfold atI ixN
 simp only [Int.natCast_nonneg,if_true,Int.toNat_natCast,Int.ofNat_lt,hk,Option.bind_some]
 exact h
def xf (h:vs[k]?=some v):ixO (li vs) (.int k)=some (.dat (.int v)):=by
 unfold ixO li
 simp only [asI,Option.bind_some]
 exact gc (by rw [List.getElem?_map,h];rfl)
def p8 (h:Hv ch (cs P S R)) (hp:P.ps.length=S.hm.length) (hx:lkS S.hm x=some vs):∃ q j,ixO (.dK (dP (S.hm.map (·.1)) P.ps)) (.str x)=some (.ref q)/\ch[q]?=some (li vs)/\(cs P S R)[9+j]?=some (q,li vs)/\S.hm[j]?=some (x,vs)∧
  (∀ ws,hl P.ps (ptS S.hm x ws)=(hl P.ps S.hm).set j (q,li ws))/\j<(hl P.ps S.hm).length/\∀ ws,(ptS S.hm x ws).map (·.1)=S.hm.map (·.1)/\ptS S.hm x ws=S.hm.set j (x,ws):=by
 obtain ⟨q,j,h1,h2,h3,h4,h5⟩:=xc hp hx
 have hj:=(gX h2).1
 have e:(cs P S R)[9+j]?=some (q,li vs):=by
  rw [Nat.add_comm]
  show (hl P.ps S.hm++R)[j]?=_
  rw [gL hj]
  exact h2
 exact ⟨q,j,h1,h.at (9+j) e,e,h3,h4,hj,h5⟩
def yB (h:Hv ch (cs P S R)) (hp:P.ps.length=S.hm.length) (hx:lkS S.hm x=some vs) (hv:vs[k]?=some v):z20 [.ref P.s,.dat (.str x),.dat (.int k)] ch=some (.dat (.int v),ch):=by
 obtain ⟨q,j,h1,h2,_⟩:=p8 h hp hx
 unfold z20
 rw [cc]
 walk_at "m"
 rw [dg (cm (cm (dD (x:=.ref P.h) (aK rfl) (h.at 0 rfl) rfl) (aO (d:=.str x) (bz rfl)) (h.at 1 rfl) h1) (aO (d:=.int k) (bz rfl)) h2 (xf hv))]
 rfl
def j7:∀ ds:List Dt,dats (ds.map .dat)=some ds
 | []=>rfl
 | d::ds=>by rw [List.map_cons,dats,j7 ds];rfl
def p9 {q:Nat} {ds:List Dt} (h:ch[q]?=some (.lst (ds.map .dat))):vw ch (.ref q)=some (.lst ds):=by
 simp only [vw,h,Option.bind_some,vwO,j7,Option.map_some]
def nr (l:List (Str×Int)):bl l=.lst ((l.map bd).map .dat):=by unfold bl;rw [List.map_map];rfl
def oH (l:List ((Str×Int)×Int)):tl l=.lst ((l.map td).map .dat):=by unfold tl;rw [List.map_map];rfl
def li_d (l:List Int):li l=.lst ((l.map Dt.int).map .dat):=by unfold li;rw [List.map_map];rfl
def xg {q:Nat} (h:ch[q]?=some (li vs)):vw ch (.ref q)=some (.lst (vs.map .int)):=p9 (by rw [<- li_d];exact h)
def nu {fa:Fg} {δ:Sl} {c1:CH} {q:Nat} {ds:List Dt} (h:fa δ ch=some (.ref q,c1)) (hq:c1[q]?=some (.lst (ds.map .dat))):eB ip (ae fa ar) δ ch=some (.ref c1.length,c1++[.lst (ds.map .dat)]):=by
 rw [lg (av h rfl) (ds:=[.lst ds]) (by simp only [vws,p9 hq,Option.bind_some,Option.map_some]) (t:=.lst ds) rfl]
 rfl
def vV (h:Hv ch (cs P S R)):y9 [.ref P.s] ch=some (.dat (.int (fI S.f)),ch):=by
 unfold y9
 rw [cc]
 walk_at "m"
 rw [dg (dD (x:=.dat (.int (fI S.f))) (aK rfl) (h.at 0 rfl) rfl)]
 rfl
def nv (h:Hv ch (cs P S R)):y10 [.ref P.s] ch=some (.dat (.int (1-fI S.f)),ch):=by
 unfold y10
 rw [cc]
 walk_at "m"
 rw [dg (v:=.dat (.int (1-fI S.f))) (ch1:=ch) (by rw [xb (aO (d:=.int 1) rfl) (dD (x:=.dat (.int (fI S.f))) (aK rfl) (h.at 0 rfl) rfl) rfl rfl (t:=.leaf (.int (1-fI S.f))) rfl];rfl)]
 rfl
end
section
variable {ch:CH} {P:Pl} {S:Sta} {R:List (Nat×CO)} {x:Str} {vs:List Int} {v:Int} {k:Nat}
def yC {j q:Nat} {o:CO} (hj:j<(hl P.ps S.hm).length):∃ l:List (Nat×CO),(cs P S R).set (9+j) (q,o)=l++((hl P.ps S.hm).set j (q,o)++R)/\∀ S',S'.hm.map (·.1)=S.hm.map (·.1)->S'.p0=S.p0->S'.p1=S.p1->S'.f=S.f->S'.r=S.r->cs P S' R=l++(hl P.ps S'.hm++R):=by
 rw [Nat.add_comm]
 refine ⟨(cs P S R).take 9,?_,fun S' h1 h2 h3 h4 h5=>?_⟩
 · show _::_::_::_::_::_::_::_::_::(hl P.ps S.hm++R).set j (q,o)=_
   rw [List.set_append_left _ _ hj]
   rfl
 · unfold cs so
   rw [h1,h2,h3,h4,h5]
   rfl
def vW {n k:Nat} (h:k<n):ixN n (k:Int)=some k:=by
 unfold ixN
 simp only [Int.natCast_nonneg,if_true,Int.toNat_natCast,Int.ofNat_lt,h]
def yD (h:k<vs.length):vt (li vs) (.int k) (.dat (.int v))=some (li (vs.set k v)):=by
 unfold vt li
 simp only [asI,Option.bind_some,List.length_map,vW h,Option.map_some]
 rw [<- List.map_set]
def yE (h:Hv ch (cs P S R)) (hp:P.ps.length=S.hm.length) (hx:lkS S.hm x=some vs) (hk:k<vs.length):∃ ch',z23 [.ref P.s,.dat (.str x),.dat (.int k),.dat (.int v)] ch=some (.dat .non,ch')/\Hv ch' (cs P {S with hm:=ptS S.hm x (vs.set k v)} R):=by
 obtain ⟨q,j,h1,h2,h3,h4,h5,h6,h7⟩:=p8 h hp hx
 refine ⟨ch.set q (li (vs.set k v)),?_,?_⟩
 · unfold z23
   rw [cc]
   walk_at "m"
   rw [dS (aO (d:=.int v) (bz rfl)) (cm (dD (x:=.ref P.h) (aK rfl) (h.at 0 rfl) rfl) (aO (d:=.str x) (bz rfl)) (h.at 1 rfl) h1) (aO (d:=.int k) (bz rfl)) h2 (yD hk)]
   rfl
 · have hs:=h.set (9+j) h3 (li (vs.set k v))
   obtain ⟨l,e1,e2⟩:=yC (R:=R) (q:=q) (o:=li (vs.set k v)) h6
   rw [e2 {S with hm:=ptS S.hm x (vs.set k v)} (h7 _).1 rfl rfl rfl rfl,show hl P.ps ({S with hm:=ptS S.hm x (vs.set k v)}:Sta).hm=_ from h5 _,<- e1]
   exact hs
def vX (h:Hv ch (cs P S R)):∃ ch',y34 [.ref P.s] ch=some (.dat .non,ch')/\Hv ch' (cs P {S with f:=!S.f} R):=by
 have e:(1-fI S.f)=fI (!S.f):=by cases S.f<;>rfl
 refine ⟨ch.set P.s (so P {S with f:=!S.f}),?_,h.set 0 rfl _⟩
 unfold y34
 rw [cc]
 walk_at "m"
 rw [np (v:=.dat (.int (1-fI S.f))) (ch1:=ch) (by rw [eU (aK rfl) (h.at 0 rfl) (by decide +kernel) rfl];exact nv h) (aK rfl) (h.at 0 rfl) (by decide),e]
 rfl
end
def Sta.pg (S:Sta) (n:Bool):Pg:=if n then S.p1 else S.p0
section
variable {ch:CH} {P:Pl} {S:Sta} {R:List (Nat×CO)} {x:Str} {vs:List Int} {v:Int} {k:Nat} {n:Bool}
def tV {fa fb:Fg} {δ:Sl} {c1 c2:CH} {a b:CV} {xs ys:List CV} (h1:fa δ ch=some (a,c1)) (h2:fb δ c1=some (b,c2)) (h3:kj c2 a=some xs) (h4:kj c2 b=some ys) (h5:xs.isEmpty=false) (h6:ys.isEmpty=false) (h7:xs.length+ys.length<=1000) :
  eTa fa fb δ ch=some (.ref c2.length,c2++[.tup (xs++ys)]):=by
 unfold eTa
 rw [h1,Option.bind_some]
 dsimp only
 rw [h2,Option.bind_some]
 dsimp only
 rw [h3,Option.bind_some,h4,Option.bind_some,if_pos ⟨h5,h6,Nat.le_trans h7 (by decide)⟩]
def qa {fs:Fgs} {δ:Sl} {c1:CH} {xs:List CV} (h1:fs δ ch=some (xs,c1)) (h7:xs.length<=1000):eT fs δ ch=some (.ref c1.length,c1++[.tup xs]):=by
 unfold eT
 rw [h1,Option.bind_some,if_pos (Nat.le_trans h7 (by decide))]
def pgH (n:Nat) (p:Pg):CH:=[bl p.b,tl p.t,.tup [.ref n,.ref (n+1)],.tup ((p.h.map Dt.int).map .dat++[.ref n,.ref (n+1)])]
def mm (h:Hv ch (cs P S R)) (hz:(S.pg n).h.length=4):y11 [.ref P.s,.dat (.int (fI n))] ch=some (.ref (ch.length+3),ch++pgH ch.length (S.pg n)):=by
 have key:∀ (q1 q2:Nat),ixO (.lst [.dat (hd S.p0.h),.dat (hd S.p1.h)]) (.int (fI n))=some (.dat (hd (S.pg n).h))->ixO (.lst [.ref P.b0,.ref P.b1]) (.int (fI n))=some (.ref q1)->ixO (.lst [.ref P.t0,.ref P.t1]) (.int (fI n))=some (.ref q2)->ch[q1]?=some (bl (S.pg n).b)->ch[q2]?=some (tl (S.pg n).t)->y11 [.ref P.s,.dat (.int (fI n))] ch=some (.ref (ch.length+3),ch++pgH ch.length (S.pg n)):=fun q1 q2 i1 i2 i3 g1 g2=>by
  unfold y11
  rw [cc]
  walk_at "m"
  rw [nr] at g1
  rw [oH] at g2
  have h1:=h.app [bl (S.pg n).b]
  rw [nr] at h1
  rw [dg (tV (c1:=ch) (a:=.dat (hd (S.pg n).h)) (xs:=((S.pg n).h.map Dt.int).map .dat) (ys:=[.ref ch.length,.ref (ch.length+1)]) (cm (dD (x:=.ref P.d) (aK rfl) (h.at 0 rfl) rfl) (aO (d:=.int (fI n)) (bz rfl)) (h.at 2 rfl) i1)
   (qa (av (nu (cm (dD (x:=.ref P.b) (aK rfl) (h.at 0 rfl) rfl) (aO (d:=.int (fI n)) (bz rfl)) (h.at 3 rfl) i2) g1)
    (av (x:=.ref (ch.length+1)) (ch1:=ch++[.lst (((S.pg n).b.map bd).map .dat)]++[.lst (((S.pg n).t.map td).map .dat)]) (by rw [nu (cm (dD (x:=.ref P.t) (aK rfl) (h1.at 0 rfl) rfl) (aO (d:=.int (fI n)) (bz rfl)) (h1.at 6 rfl) i3) (cP g2)];simp only [List.length_append,List.length_cons,List.length_nil]) rfl)) (by simp)) rfl (by
     show (match (ch++[CO.lst (((S.pg n).b.map bd).map .dat)]++[CO.lst (((S.pg n).t.map td).map .dat)]++[CO.tup [.ref ch.length,.ref (ch.length+1)]])[(ch++[CO.lst (((S.pg n).b.map bd).map .dat)]++[CO.lst (((S.pg n).t.map td).map .dat)]).length]? with
      | some (.tup l)=>some l
      | _=>none)=_
     rw [bf]) (by cases he:(S.pg n).h with
      | nil=>rw [he] at hz;cases hz
      | cons a l=>rfl) rfl (by simp [hz]))]
  rw [<- nr,<- oH]
  show some (CV.ref (ch++[bl (S.pg n).b]++[tl (S.pg n).t]++[CO.tup [.ref ch.length,.ref (ch.length+1)]]).length,ch++[bl (S.pg n).b]++[tl (S.pg n).t]++[CO.tup [.ref ch.length,.ref (ch.length+1)]]++[CO.tup (((S.pg n).h.map Dt.int).map .dat++[.ref ch.length,.ref (ch.length+1)])])=_
  simp only [List.append_assoc,List.cons_append,List.nil_append,List.length_append,List.length_cons,List.length_nil]
  rfl
 cases n
 · exact key P.b0 P.t0 rfl rfl rfl (h.at 4 rfl) (h.at 7 rfl)
 · exact key P.b1 P.t1 rfl rfl rfl (h.at 5 rfl) (h.at 8 rfl)
def j8 {fa fe:Fg} {δ:Sl} {q:Nat} {l:List CV} {c:CV} (h1:fa δ ch=some (.ref q,ch)) (h2:fe δ ch=some (c,ch)) (h3:ch[q]?=some (.lst l)) (h4:l.length<1000):gA fa fe δ ch=some (.nx δ (ch.set q (.lst (l++[c])))):=by
 unfold gA
 rw [h1,Option.bind_some]
 dsimp only
 rw [h2,Option.bind_some]
 simp only [h3,Nat.lt_of_lt_of_le h4 (show 1000<=sizeLine by decide),if_true]
def Sta.setP (S:Sta) (n:Bool) (p:Pg):Sta:=if n then {S with p1:=p} else {S with p0:=p}
def fY {δ:Sl} (h:Hv ch (cs P S R)) (h0:δ[0]?=some (some (.ref P.s))):eM "Store" "other" y10 (eV 0) ar δ ch=some (.dat (.int (fI (!S.f))),ch):=by
 rw [eU (aK h0) (h.at 0 rfl) (by decide +kernel) rfl]
 have:=nv h
 rw [show (1-fI S.f)=fI (!S.f) by cases S.f<;>rfl] at this
 exact this
def yF (h:Hv ch (cs P S R)) (hz:(S.pg (!S.f)).b.length<1000):∃ ch',y20 [.ref P.s,.dat (.str x),.dat (.int v)] ch=some (.dat .non,ch')/\Hv ch' (cs P (S.setP (!S.f) {S.pg (!S.f) with b:=(S.pg (!S.f)).b++[(x,v)]}) R):=by
 have key:∀ (q:Nat),ixO (.lst [.ref P.b0,.ref P.b1]) (.int (fI (!S.f)))=some (.ref q)->ch[q]?=some (bl (S.pg (!S.f)).b)->y20 [.ref P.s,.dat (.str x),.dat (.int v)] ch=some (.dat .non,ch.set q (bl ((S.pg (!S.f)).b++[(x,v)]))):=fun q i1 g1=>by
  unfold y20
  rw [cc]
  walk_at "m"
  have et:toD (b6 (ab (vL 1) (ab (vL 2) au))) (lo [some (CV.ref P.s),some (.dat (.str x)),some (.dat (.int v))] ch)=some (bd (x,v)):=by
   unfold toD b6 ab au
   rw [bz (d:=.str x) rfl,bz (d:=.int v) rfl]
   rfl
  rw [j8 (cm (dD (x:=.ref P.b) (aK rfl) (h.at 0 rfl) rfl) (fY h rfl) (h.at 3 rfl) i1) (aO et) g1 (by simpa using hz)]
  unfold bl
  rw [List.map_append]
  rfl
 obtain ⟨hm,p0,p1,f,r,w⟩:=S
 cases f
 · exact ⟨_,key P.b1 rfl (h.at 5 rfl),h.set 5 rfl _⟩
 · exact ⟨_,key P.b0 rfl (h.at 4 rfl),h.set 4 rfl _⟩
def tW (h:Hv ch (cs P S R)) (hz:(S.pg (!S.f)).t.length<1000):∃ ch',z18 [.ref P.s,.dat (.str x),.dat (.int k),.dat (.int v)] ch=some (.dat .non,ch')/\Hv ch' (cs P (S.setP (!S.f) {S.pg (!S.f) with t:=(S.pg (!S.f)).t++[((x,(k:Int)),v)]}) R):=by
 have key:∀ (q:Nat),ixO (.lst [.ref P.t0,.ref P.t1]) (.int (fI (!S.f)))=some (.ref q)->ch[q]?=some (tl (S.pg (!S.f)).t)->z18 [.ref P.s,.dat (.str x),.dat (.int k),.dat (.int v)] ch=some (.dat .non,ch.set q (tl ((S.pg (!S.f)).t++[((x,(k:Int)),v)]))):=fun q i1 g1=>by
  unfold z18
  rw [cc]
  walk_at "m"
  have et:toD (b6 (ab (toD (b6 (ab (vL 1) (ab (vL 2) au)))) (ab (vL 3) au))) (lo [some (CV.ref P.s),some (.dat (.str x)),some (.dat (.int k)),some (.dat (.int v))] ch)=some (td ((x,(k:Int)),v)):=by
   rfl
  rw [j8 (cm (dD (x:=.ref P.t) (aK rfl) (h.at 0 rfl) rfl) (fY h rfl) (h.at 6 rfl) i1) (aO et) g1 (by simpa using hz)]
  unfold tl
  rw [List.map_append]
  rfl
 obtain ⟨hm,p0,p1,f,r,w⟩:=S
 cases f
 · exact ⟨_,key P.t1 rfl (h.at 8 rfl),h.set 8 rfl _⟩
 · exact ⟨_,key P.t0 rfl (h.at 7 rfl),h.set 7 rfl _⟩
end
section
variable {ch:CH} {P:Pl} {S:Sta} {R:List (Nat×CO)} {x:Str} {vs:List Int} {v:Int} {k:Nat} {n:Bool}
def Pl.newB (P:Pl) (j:Bool) (n m:Nat):Pl:=if j then {P with b1:=n,t1:=m} else {P with b0:=n,t0:=m}
def tX (a b c d:Int) (h:Hv ch (cs P S R)):∃ ch' n m,y16 [.ref P.s,.dat (.int a),.dat (.int b),.dat (.int c),.dat (.int d)] ch=some (.dat .non,ch')/\Hv ch' (cs (P.newB (!S.f) n m) (S.setP (!S.f) ⟨[a,b,c,d],[],[]⟩) R):=by
 obtain ⟨hm,p0,p1,f,r,w⟩:=S
 cases f
 · have h1:=h.set 2 rfl (.lst [.dat (hd p0.h),.dat (hd [a,b,c,d])])
   generalize e1:ch.set P.d (CO.lst [.dat (hd p0.h),.dat (hd [a,b,c,d])])=c1 at h1
   have h2:=h1.app [.lst []]
   have h2':=h2.move 5 (h1.fresh (nL _)) bf
   have h3:=h2'.set 3 rfl (.lst [.ref P.b0,.ref c1.length])
   generalize e3:(c1++[CO.lst []]).set P.b (.lst [.ref P.b0,.ref c1.length])=c3 at h3
   have h4:=h3.app [.lst []]
   have h4':=h4.move 8 (h3.fresh (nL _)) bf
   have h5:=h4'.set 6 rfl (.lst [.ref P.t0,.ref c3.length])
   refine ⟨_,c1.length,c3.length,?_,h5⟩
   unfold y16
   rw [cc]
   walk_at "m"
   rw [aI,dS (v:=.dat (hd [a,b,c,d])) (ch1:=ch) (aO rfl) (dD (x:=.ref P.d) (aK rfl) (h.at 0 rfl) rfl) (fY h rfl) (h.at 2 rfl) (o':=.lst [.dat (hd p0.h),.dat (hd [a,b,c,d])]) rfl,aA,e1,aI,
    dS (v:=.ref c1.length) (ch1:=c1++[.lst []]) rfl (dD (x:=.ref P.b) (aK rfl) (h2.at 0 rfl) rfl) (fY (S:=⟨hm,p0,{p1 with h:=[a,b,c,d]},false,r,w⟩) h2 rfl) (h2.at 3 rfl) (o':=.lst [.ref P.b0,.ref c1.length]) rfl,aA,e3,
    dS (v:=.ref c3.length) (ch1:=c3++[.lst []]) rfl (dD (x:=.ref P.t) (aK rfl) (h4.at 0 rfl) rfl) (fY (P:={P with b1:=c1.length}) (S:=⟨hm,p0,{p1 with h:=[a,b,c,d],b:=[]},false,r,w⟩) h4 rfl) (h4.at 6 rfl) (o':=.lst [.ref P.t0,.ref c3.length]) rfl]
   rfl
 · have h1:=h.set 2 rfl (.lst [.dat (hd [a,b,c,d]),.dat (hd p1.h)])
   generalize e1:ch.set P.d (CO.lst [.dat (hd [a,b,c,d]),.dat (hd p1.h)])=c1 at h1
   have h2:=h1.app [.lst []]
   have h2':=h2.move 4 (h1.fresh (nL _)) bf
   have h3:=h2'.set 3 rfl (.lst [.ref c1.length,.ref P.b1])
   generalize e3:(c1++[CO.lst []]).set P.b (.lst [.ref c1.length,.ref P.b1])=c3 at h3
   have h4:=h3.app [.lst []]
   have h4':=h4.move 7 (h3.fresh (nL _)) bf
   have h5:=h4'.set 6 rfl (.lst [.ref c3.length,.ref P.t1])
   refine ⟨_,c1.length,c3.length,?_,h5⟩
   unfold y16
   rw [cc]
   walk_at "m"
   rw [aI,dS (v:=.dat (hd [a,b,c,d])) (ch1:=ch) (aO rfl) (dD (x:=.ref P.d) (aK rfl) (h.at 0 rfl) rfl) (fY h rfl) (h.at 2 rfl) (o':=.lst [.dat (hd [a,b,c,d]),.dat (hd p1.h)]) rfl,aA,e1,aI,
    dS (v:=.ref c1.length) (ch1:=c1++[.lst []]) rfl (dD (x:=.ref P.b) (aK rfl) (h2.at 0 rfl) rfl) (fY (S:=⟨hm,{p0 with h:=[a,b,c,d]},p1,true,r,w⟩) h2 rfl) (h2.at 3 rfl) (o':=.lst [.ref c1.length,.ref P.b1]) rfl,aA,e3,
    dS (v:=.ref c3.length) (ch1:=c3++[.lst []]) rfl (dD (x:=.ref P.t) (aK rfl) (h4.at 0 rfl) rfl) (fY (P:={P with b0:=c1.length}) (S:=⟨hm,{p0 with h:=[a,b,c,d],b:=[]},p1,true,r,w⟩) h4 rfl) (h4.at 6 rfl) (o':=.lst [.ref c3.length,.ref P.t1]) rfl]
   rfl
end
def j9 (ns:List Int) (k:Nat) (hk:k<=1000):∃ v,y19 [.lst (ns.map .int),.int k]=some (.leaf (.int v)):=by
 unfold y19
 walk_at "d"
 rw [List.length_map]
 by_cases h:k<ns.length
 · rw [pP (by simpa using h)]
   walk_at "d"
   obtain ⟨v,e,hm⟩:=sT (xs:=ns.map Dt.int) (i:=k) (by omega) (by rw [List.length_map];omega)
   obtain ⟨x,_,rfl⟩:=List.mem_map.mp hm
   rw [e]
   exact ⟨x,rfl⟩
 · rw [pQ (by simpa using h)]
   walk_at "d"
   rw [List.length_map]
   by_cases h0:0<ns.length
   · rw [pP (by simpa using h0)]
     walk_at "d"
     rw [List.length_map,jT (by omega)]
     walk_at "d"
     obtain ⟨v,e,hm⟩:=sT (xs:=ns.map Dt.int) (i:=(k:Int)%(ns.length:Nat)) (Int.emod_nonneg _ (by omega)) (by rw [List.length_map];exact Int.emod_lt_of_pos _ (by omega))
     obtain ⟨x,_,rfl⟩:=List.mem_map.mp hm
     rw [e]
     walk_at "d"
     have m0:=Int.emod_nonneg x (show (999983:Int)≠0 by decide)
     have m1:=Int.emod_lt_of_pos x (show (0:Int)<999983 by decide)
     rw [jU (by omega) (by omega)]
     walk_at "d"
     exact ⟨_,rfl⟩
   · rw [pQ (by simpa using h0)]
     walk_at "d"
     rw [jU (by omega) (by omega)]
     walk_at "d"
     exact ⟨_,rfl⟩
def bF (c j m:Int):Int:=match y6 [.int c,.int j,.int m] with | some (.leaf (.int v))=>v | _=>0
def rf (j:Nat):∃ q:Int,atI [Dt.int 10007,.int 10009,.int 10037,.int 10039,.int 10061,.int 10067,.int 10069,.int 10079] ((j:Int)%8)=some (.int q)/\0<q:=by
 obtain ⟨k,hk,ek⟩:=oz (j:Int) (n:=8) (by decide)
 rw [show ((8:Nat):Int)=8 from rfl] at ek
 rw [ek]
 have q:k=0∨k=1∨k=2∨k=3∨k=4∨k=5∨k=6∨k=7:=by omega
 rcases q with rfl | rfl | rfl | rfl | rfl | rfl | rfl | rfl<;>exact ⟨_,rfl,by decide⟩
def cU (c:Int) (j:Nat) {m:Int} (hm:0<m):y6 [.int c,.int j,.int m]=some (.leaf (.int (bF c j m)))/\0<=bF c j m/\bF c j m<m:=by
 obtain ⟨q,eq,hq⟩:=rf j
 have e:y6 [.int c,.int j,.int m]=some (.leaf (.int ((c*48271+7919*j)%q%m))):=by
  unfold y6
  walk_at "d"
  rw [eq]
  walk_at "d"
  rw [jT hq]
  walk_at "d"
  rw [jT hm]
  rfl
 have e2:bF c j m=(c*48271+7919*j)%q%m:=by unfold bF;rw [e]
 rw [e2]
 exact ⟨e,Int.emod_nonneg _ (by omega),Int.emod_lt_of_pos _ hm⟩
def km:(Str.ofString "abcdefghijklmnopqrstuvwxyz").cps.toList=[97,98,99,100,101,102,103,104,105,106,107,108,109,110,111,112,113,114,115,116,117,118,119,120,121,122]:=by decide +kernel
def letters:Str:="abcdefghijklmnopqrstuvwxyz"
def ka (i:Nat) (h:i<26):aS (.str letters) (.int i)=some (.leaf (.str ⟨#[97+i]⟩)):=by
 have key:∀ i<26,([97,98,99,100,101,102,103,104,105,106,107,108,109,110,111,112,113,114,115,116,117,118,119,120,121,122]:List Nat)[i]?=some (97+i):=by decide
 rw [zp (small (by decide +kernel)),sQ,show letters.cps.toList=_ from km,key i h]
 rfl
def nsz (b:Int):Nat:=(1+bF b 7 6).toNat
def tY (b:Int):((nsz b:Nat):Int)=1+bF b 7 6/\1<=nsz b/\nsz b<=6:=by
 have h:=cU b 7 (m:=6) (by decide)
 unfold nsz
 have h1:=h.2.1
 have h2:=h.2.2
 have e:(((7:Nat):Int))=7:=rfl
 rw [e] at h1 h2
 omega
def ncs (b:Int):List Nat:=(List.range (nsz b)).map fun i:Nat=>97+(bF b i 26).toNat
def jx (b:Int):(ncs b).length=nsz b:=by simp [ncs]
def npos (b:Int):Nat:=(bF b 3 (nsz b)).toNat
def rg (b:Int) (k:Nat):Nat:=97+((bF b 4 26).toNat+k)%26
def nam (b:Int) (k:Nat):Str:=⟨((ncs b).set (npos b) (rg b k)).toArray⟩
def qb (b:Int):npos b<nsz b/\((npos b:Nat):Int)=bF b 3 (nsz b):=by
 have h:=cU b 3 (m:=nsz b) (by have:=(tY b).2.1;omega)
 have h1:=h.2.1
 have h2:=h.2.2
 have e:(((3:Nat):Int))=3:=rfl
 rw [e] at h1 h2
 unfold npos
 omega
def yG (b:Int):cr (am 0) br y39 [none,some (.leaf (.int b)),some (.leaf (.str letters))] (cj 0 (nsz b))=some (sgD (ncs b)):=by
 have key:∀ n:Nat,cr (am 0) br y39 [none,some (.leaf (.int b)),some (.leaf (.str letters))] (cj 0 n)=some ((cj 0 n).map fun d=>match d with | .int i=>.str ⟨#[97+(bF b i 26).toNat]⟩ | d=>d):=fun n=>by
  refine gm fun d hd=>?_
  obtain ⟨i,hi,rfl⟩:=mem_range hd
  refine ⟨_,rfl,rfl,?_⟩
  rw [Int.zero_add]
  unfold y39
  have h:=cU b i (m:=26) (by decide)
  walk_at "d"
  rw [h.1]
  walk_at "d"
  obtain ⟨v,hv⟩:∃ v:Nat,bF b i 26=v:=⟨(bF b i 26).toNat,by omega⟩
  rw [hv,ka v (by omega)]
  rfl
 rw [key]
 unfold cj ncs sgD
 rw [List.map_map,List.map_map]
 exact congrArg some (List.map_congr_left fun i _=>by
  simp only [Function.comp_apply,Int.zero_add])
def tZ {i j:Nat} {fk fe:De->Option Dt} {δ:De} {l:List Dt} {n:Int} {d:Dt} (h:δ[i]?=some (some (.lst l))) (hk:fk δ=some (.int n)) (he:fe δ=some d) (hn:n=j) (hj:j<l.length) :
  sJ i fk fe δ=some (.nx (δ.set i (some (.lst (l.set j d))))):=by
 unfold sJ
 rw [he,hk,h]
 show ((ixN l.length n).map fun j=>Out.nx (δ.set i (some (.lst (l.set j d)))))=_
 subst hn
 unfold ixN
 rw [if_pos (by omega),if_pos (by omega)]
 rfl
def mn (b:Int) (k:Nat) (hk:k<=100):y13 [.int b,.int k]=some (.leaf (.str (nam b k))):=by
 have h4:=cU b 4 (m:=26) (by decide)
 rw [show ((4:Nat):Int)=4 from rfl] at h4
 obtain ⟨z1,z2,z3⟩:=tY b
 obtain ⟨p1,p2⟩:=qb b
 have h7:=cU b 7 (m:=6) (by decide)
 have h3:=cU b 3 (m:=nsz b) (by omega)
 rw [show ((7:Nat):Int)=7 from rfl] at h7
 rw [show ((3:Nat):Int)=3 from rfl] at h3
 unfold y13
 walk_at "d"
 rw [h7.1]
 walk_at "d"
 rw [<- z1,oq (by omega),Option.bind_some,show Str.ofString "abcdefghijklmnopqrstuvwxyz"=letters from rfl,yG,Option.bind_some,sR (by unfold sgD;rw [List.length_map,jx];omega)]
 obtain ⟨v,hv⟩:∃ v:Nat,bF b 4 26=v:=⟨(bF b 4 26).toNat,by omega⟩
 rw [Option.map_some,b7,dA,tZ (l:=sgD (ncs b)) (n:=bF b 3 (nsz b)) (j:=npos b) (d:=.str ⟨#[rg b k]⟩) ?a1 ?a2 ?a3 p2.symm ?a4]
 case a1=>rfl
 case a2 =>
  walk_at "d"
  rw [h3.1]
  rfl
 case a3 =>
  walk_at "d"
  rw [h4.1]
  walk_at "d"
  rw [hv,show ((v:Int)+(k:Int))%26=(((v+k)%26:Nat):Int) by omega,ka _ (by omega)]
  unfold rg
  rw [hv]
  rfl
 case a4 =>
  unfold sgD
  rw [List.length_map,jx]
  exact p1
 walk_at "d"
 rw [show (sgD (ncs b)).set (npos b) (.str ⟨#[rg b k]⟩)=sgD ((ncs b).set (npos b) (rg b k)) by unfold sgD;rw [List.map_set],show Str.ofString ""=("":Str) from rfl,sS (by rw [List.length_set,jx];omega)]
 rfl
def vY (b:Int) {k j:Nat} (hk2:k<=25) (hj2:j<=25) (e:nam b k=nam b j):k=j:=by
 have hp:=(qb b).1
 have e:=congrArg (fun s:Str=>s.cps.toList) e
 simp only [nam] at e
 have e:=congrArg (fun l:List Nat=>l[npos b]?) e
 simp only [List.getElem?_set,jx,hp,if_true] at e
 have e:=Option.some.inj e
 unfold rg at e
 omega
def gv (x:Str):∀ (vs:List Int) (k:Nat),(dI x k vs).map (·.1)=(List.range' k vs.length).map fun i:Nat=>([.inr x,.inl (i:Int)]:List Key)
 | [],k=>rfl
 | v::vs,k=>by
  rw [dI,List.map_cons,gv x vs (k+1),List.length_cons,List.range'_succ,List.map_cons]
def ua {x y:Str} {i j:Int} (h:x≠y):([.inr x,.inl i]:List Key)≠[.inr y,.inl j]:=fun e=>h (by
 have:=List.cons.inj e
 exact Sum.inr.inj this.1)
def qc {x y:Str} {i j:Int} (h:i≠j):([.inr x,.inl i]:List Key)≠[.inr y,.inl j]:=fun e=>h (by
 have:=List.cons.inj (List.cons.inj e).2
 exact Sum.inl.inj this.1)
def kb {x y:Str} (h:x≠y) (i:Int):∀ (vs:List Int) (k:Nat) (m:List (List Key×CV)),lkC (dI x k vs++m) [.inr y,.inl i]=lkC m [.inr y,.inl i]
 | [],k,m=>rfl
 | v::vs,k,m=>by
  rw [dI,List.cons_append,iF,if_neg (ua h),kb h i vs (k+1) m]
def qd {x:Str} {v:Int} (m:List (List Key×CV)):∀ (vs:List Int) (k j:Nat),vs[j]?=some v->lkC (dI x k vs++m) [.inr x,.inl ((k+j:Nat):Int)]=some (.dat (.int v))
 | [],k,j,h=>by simp at h
 | u::vs,k,0,h=>by
  simp at h
  subst h
  rw [dI,List.cons_append,iF,if_pos (by simp)]
 | u::vs,k,j+1,h=>by
  rw [dI,List.cons_append,iF,if_neg (qc (by omega)),show k+(j+1)=(k+1)+j by omega]
  exact qd m vs (k+1) j (by simpa using h)
def oI {x:Str} {vs:List Int} {v:Int} {k:Nat}:∀ {hm:Hm},lkS hm x=some vs->vs[k]?=some v->lkC (dTm hm) [.inr x,.inl (k:Int)]=some (.dat (.int v))
 | [],h,_=>by cases h
 | s::hm,h,hv=>by
  rw [lkS] at h
  rw [dTm]
  by_cases e:s.1=x
  · rw [if_pos e] at h
    cases h
    have:=qd (x:=x) (dTm hm) s.2 0 k hv
    rw [Nat.zero_add] at this
    rw [e]
    exact this
  · rw [if_neg e] at h
    rw [kb e]
    exact oI h hv
def fZ {x y:Str} (h:x≠y) (i:Int) (c:CV):∀ (vs:List Int) (k:Nat) (m:List (List Key×CV)),dG (dI x k vs++m) [.inr y,.inl i] c=dI x k vs++dG m [.inr y,.inl i] c
 | [],k,m=>rfl
 | v::vs,k,m=>by
  rw [dI,List.cons_append,dG,if_neg (ua h),fZ h i c vs (k+1) m]
  rfl
def ny {x:Str} {v:Int} (m:List (List Key×CV)):∀ (vs:List Int) (k j:Nat),j<vs.length->dG (dI x k vs++m) [.inr x,.inl ((k+j:Nat):Int)] (.dat (.int v))=dI x k (vs.set j v)++m
 | [],k,j,h=>by simp at h
 | u::vs,k,0,h=>by
  rw [dI,List.cons_append,dG,if_pos (by simp)]
  rfl
 | u::vs,k,j+1,h=>by
  rw [dI,List.cons_append,dG,if_neg (qc (by omega)),show k+(j+1)=(k+1)+j by omega,ny m vs (k+1) j (by simpa using h)]
  rfl
def mo {x:Str} {vs:List Int} {v:Int} {k:Nat}:∀ {hm:Hm},lkS hm x=some vs->k<vs.length->dG (dTm hm) [.inr x,.inl (k:Int)] (.dat (.int v))=dTm (ptS hm x (vs.set k v))
 | [],h,_=>by cases h
 | s::hm,h,hv=>by
  rw [lkS] at h
  rw [dTm,ptS]
  by_cases e:s.1=x
  · rw [if_pos e] at h
    cases h
    rw [if_pos e,dTm,e]
    have:=ny (x:=x) (v:=v) (dTm hm) s.2 0 k hv
    rw [Nat.zero_add] at this
    exact this
  · rw [if_neg e] at h
    rw [if_neg e,dTm,fZ e,mo h hv]
def ub {hm hm':Hm} (h:hm.map (fun s=>(s.1,s.2.length))=hm'.map fun s=>(s.1,s.2.length)):(dTm hm).map (·.1)=(dTm hm').map (·.1):=by
 induction hm generalizing hm' with
 | nil =>
  cases hm' with
  | nil=>rfl
  | cons _ _=>cases h
 | cons s hm ih =>
  cases hm' with
  | nil=>cases h
  | cons s' hm' =>
   simp only [List.map_cons,List.cons.injEq,Prod.mk.injEq] at h
   rw [dTm,dTm,List.map_append,List.map_append,ih h.2,gv,gv,h.1.1,h.1.2]
def jy {x:List Key×CV}:∀ {hm:Hm},(hm.map (·.1)).Nodup->x∈dTm hm->∃ (n:Str) (vs:List Int) (k:Nat) (v:Int),x=([.inr n,.inl (k:Int)],.dat (.int v))/\lkS hm n=some vs/\vs[k]?=some v/\n∈hm.map (·.1)
 | [],_,h=>by cases h
 | s::hm,nd,h=>by
  rw [dTm] at h
  rcases List.mem_append.mp h with h | h
  · have key:∀ (vs:List Int) (j:Nat),x∈dI s.1 j vs->∃ (k:Nat) (v:Int),x=([.inr s.1,.inl ((j+k:Nat):Int)],.dat (.int v))/\vs[k]?=some v:=fun vs=>by
     induction vs with
     | nil=>intro j h;cases h
     | cons u vs ih =>
      intro j h
      rw [dI] at h
      rcases List.mem_cons.mp h with rfl | h
      · exact ⟨0,u,rfl,rfl⟩
      · obtain ⟨k,v,h1,h2⟩:=ih (j+1) h
        exact ⟨k+1,v,by rw [h1,show j+1+k=j+(k+1) by omega],by simpa using h2⟩
    obtain ⟨k,v,h1,h2⟩:=key s.2 0 h
    rw [Nat.zero_add] at h1
    exact ⟨s.1,s.2,k,v,h1,by rw [lkS,if_pos rfl],h2,by simp⟩
  · obtain ⟨n,vs,k,v,h1,h2,h3,h4⟩:=jy (List.nodup_cons.mp nd).2 h
    refine ⟨n,vs,k,v,h1,?_,h3,by simp only [List.map_cons];exact List.mem_cons_of_mem _ h4⟩
    rw [lkS,if_neg (fun e:s.1=n=>(List.nodup_cons.mp nd).1 (by show s.1∈_;rw [e];exact h4))]
    exact h2
def mq:∀ {hm:Hm},(hm.map (·.1)).Nodup->((dTm hm).map (·.1)).Nodup
 | [],_=>List.nodup_nil
 | s::hm,nd=>by
  rw [dTm,List.map_append,gv]
  refine List.nodup_append.mpr ⟨?_,mq (List.nodup_cons.mp nd).2,fun a ha b hb e=>?_⟩
  · exact List.pairwise_map.mpr ((List.nodup_range' (step:=1)).imp fun h z=>h (by
     have:=List.cons.inj (List.cons.inj z).2
     have:=Sum.inl.inj this.1
     omega))
  · subst e
    obtain ⟨i,_,rfl⟩:=List.mem_map.mp ha
    obtain ⟨y,hy,e⟩:=List.mem_map.mp hb
    obtain ⟨n,vs,k,v,rfl,_,_,h4⟩:=jy (List.nodup_cons.mp nd).2 hy
    have e1:=Sum.inr.inj (List.cons.inj e).1
    exact (List.nodup_cons.mp nd).1 (by show s.1∈_;rw [<- e1];exact h4)
section
variable {ch c1 c2:CH} {δ:Sl} {fa fb fo:Fg} {fs:Fgs} {i:Nat}
def vZ {xs:List CV} {l:List (List Key×CV)} {ks:List Key} {c:CV} {o:CO} (h1:fo δ ch=some (.ref i,c1)) (h2:fs δ c1=some (xs,c2)) (h3:c2[i]?=some o) (h4:asT o=some l) (h5:ji xs=some ks) (h6:lkC l ks=some c) (h7:xs.length<=1000):qV fo fs δ ch=some (c,c2):=by
 unfold qV
 rw [h1,Option.bind_some]
 dsimp only
 rw [h2,Option.bind_some]
 simp only [h3,Option.bind_some,h4,if_pos (Nat.le_trans h7 (show 1000<=sizeLine by decide)),h5,h6,Option.map_some]
def jz {b:Bool} (h:fa δ ch=some (.dat (.bl b),c1)):iw (gB fa) δ ch=some (!b,c1):=by
 unfold iw
 rw [tR h]
 rfl
def kc {f:Ft} {g:Fs} (h:f δ ch=some (false,c1)):dW f g dh δ ch=some (.nx δ c1):=by
 rw [fB,h,vE]
 rfl
end
section
variable {ch:CH} {δ:Sl}
def mgS3 {i j k:Nat} {a b c:Dt} (hij:i≠j) (hik:i≠k) (hjk:j≠k) (hi:i<δ.length) (hj:j<δ.length) (hk:k<δ.length):mgS [i,j,k] δ ((((lo δ ch).set i (some (.leaf a))).set j (some (.leaf b))).set k (some (.leaf c)))=((δ.set i (some (.dat a))).set j (some (.dat b))).set k (some (.dat c)):=by
 have h2:(lo δ ch).length=δ.length:=fq ch [] δ
 apply List.ext_getElem?
 intro m
 unfold mgS
 rw [List.getElem?_mapIdx]
 by_cases ek:k=m
 · subst ek
   rw [List.getElem?_set_self (by simpa [h2] using hk),List.getElem?_set_self (by simpa [h2] using hk),List.getElem?_eq_getElem hk]
   simp
 · rw [gN ek,gN ek]
   by_cases ej:j=m
   · subst ej
     rw [List.getElem?_set_self (by simpa [h2] using hj),List.getElem?_set_self (by simpa [h2] using hj),List.getElem?_eq_getElem hj]
     simp
   · rw [gN ej,gN ej]
     by_cases ei:i=m
     · subst ei
       rw [List.getElem?_set_self (by simpa [h2] using hi),List.getElem?_set_self (by simpa [h2] using hi),List.getElem?_eq_getElem hi]
       simp
     · rw [gN ei,gN ei]
       have e1:¬ m=i:=fun z=>ei z.symm
       have e2:¬ m=j:=fun z=>ej z.symm
       have e3:¬ m=k:=fun z=>ek z.symm
       cases h:δ[m]? with
       | none=>rfl
       | some x=>simp [e1,e2,e3]
def mgS2 {i j:Nat} {a b:Dt} (hij:i≠j) (hi:i<δ.length) (hj:j<δ.length):mgS [i,j] δ (((lo δ ch).set i (some (.leaf a))).set j (some (.leaf b)))=(δ.set i (some (.dat a))).set j (some (.dat b)):=by
 have h2:(lo δ ch).length=δ.length:=fq ch [] δ
 apply List.ext_getElem?
 intro m
 unfold mgS
 rw [List.getElem?_mapIdx]
 by_cases ej:j=m
 · subst ej
   rw [List.getElem?_set_self (by simpa [h2] using hj),List.getElem?_set_self (by simpa [h2] using hj),List.getElem?_eq_getElem hj]
   simp
 · rw [gN ej,gN ej]
   by_cases ei:i=m
   · subst ei
     rw [List.getElem?_set_self (by simpa [h2] using hi),List.getElem?_set_self (by simpa [h2] using hi),List.getElem?_eq_getElem hi]
     simp
   · rw [gN ei,gN ei]
     have e1:¬ m=i:=fun z=>ei z.symm
     have e2:¬ m=j:=fun z=>ej z.symm
     cases h:δ[m]? with
     | none=>rfl
     | some x=>simp [e1,e2]
end
def nz {i j:Nat} {g:Fs} {I:Sl->CH->Prop} (hij:i≠j) (hI:∀ δ ch,I δ ch->i<δ.length/\j<δ.length):∀ {ds:List (Dt×Dt)} {δ:Sl} {ch:CH},(∀ d∈ds,∀ δ ch,I δ ch->∃ δ2 ch2,g ((δ.set i (some (.dat d.1))).set j (some (.dat d.2))) ch=some (.nx δ2 ch2)/\I δ2 ch2)->I δ ch→
  ∃ δ2 ch2,dw [i,j] (cf 2 (aH (am i) (aH (am j) ce))) g (ds.map fun d=>.tup [d.1,d.2]) δ ch=some (.nx δ2 ch2)/\I δ2 ch2
 | [],δ,ch,_,h=>⟨δ,ch,rfl,h⟩
 | d::ds,δ,ch,hb,h=>by
  obtain ⟨δ1,ch1,e,h1⟩:=hb d (by simp) δ ch h
  obtain ⟨q1,q2⟩:=hI _ _ h
  obtain ⟨δ2,ch2,e2,h2⟩:=nz hij hI (ds:=ds) (δ:=δ1) (ch:=ch1) (fun z hz=>hb z (by simp [hz])) h1
  refine ⟨δ2,ch2,?_,h2⟩
  rw [List.map_cons]
  show ((cf 2 (aH (am i) (aH (am j) ce)) (.tup [d.1,d.2]) (lo δ ch)).bind fun δ1=>(g (mgS [i,j] δ δ1) ch).bind fun o=>_)=_
  rw [show cf 2 (aH (am i) (aH (am j) ce)) (.tup [d.1,d.2]) (lo δ ch)=some (((lo δ ch).set i (some (.leaf d.1))).set j (some (.leaf d.2))) from rfl,Option.bind_some,mgS2 hij q1 q2,e]
  exact e2
abbrev Hd:=Str×Int×Bool
def hdD (h:Hd):Dt:=.tup [.str h.1,.int h.2.1,.bl h.2.2]
def b9 (cl sh:List Hd) (rw:Dt):Dt:=.tup [.tup (cl.map hdD),.tup (sh.map hdD),rw]
section
variable {δ:Sl}
def in3 {a b c:Option CV} {i j k:Nat} (hi:i<δ.length) (hij:i≠j) (hik:i≠k):(((δ.set i a).set j b).set k c)[i]?=some a:=by
 rw [gN (Ne.symm hik),gN (Ne.symm hij),List.getElem?_set_self hi]
end
def kp (q:List Key):Dt×Dt:=match q with
 | [a,b]=>(m8 a,m8 b)
 | _=>(.non,.non)
def d8 (c:CH) (m:Nat):∀ ds:List Dt,fL (vwD c m) (ds.map .dat)=some ds
 | []=>rfl
 | d::ds=>by
  rw [List.map_cons,fL,d8 c m ds]
  cases m<;>rfl
def v6 {α β:Type} {f:α->Option β} {l m:List α} {a b:List β} (h1:fL f l=some a) (h2:fL f m=some b):fL f (l++m)=some (a++b):=by
 induction l generalizing a with
 | nil=>cases h1;exact h2
 | cons x l ih =>
  simp only [fL] at h1
  obtain ⟨y,hy,h1⟩:=bS h1
  obtain ⟨ys,hys,rfl⟩:=mS h1
  simp only [List.cons_append,fL,hy,Option.bind_some,ih hys,Option.map_some]
def pgD (p:Pg):Dt:=.tup (p.h.map .int++[.lst (p.b.map bd),.lst (p.t.map td)])
def qe {c:CH} {q a b:Nat} {p:Pg} (h1:c[q]?=some (.tup ((p.h.map Dt.int).map .dat++[.ref a,.ref b]))) (h2:c[a]?=some (bl p.b)) (h3:c[b]?=some (tl p.t)):vwD c 3 (.ref q)=some (pgD p):=by
 have e1:vwD c 2 (.ref a)=some (.lst (p.b.map bd)):=by
  simp only [vwD,h2,nr,d8,Option.map_some]
 have e2:vwD c 2 (.ref b)=some (.lst (p.t.map td)):=by
  simp only [vwD,h3,oH,d8,Option.map_some]
 have e3:fL (vwD c 2) ((p.h.map Dt.int).map .dat++[.ref a,.ref b])=some (p.h.map Dt.int++[.lst (p.b.map bd),.lst (p.t.map td)]):=v6 (d8 c 2 _) (by simp only [fL,e1,e2,Option.bind_some,Option.map_some])
 simp only [vwD,h1,e3,Option.map_some]
 rfl
def oJ (ch:CH) (p:Pg) (g:CH):(ch++pgH ch.length p++g)[ch.length]?=some (bl p.b)/\(ch++pgH ch.length p++g)[ch.length+1]?=some (tl p.t)/\(ch++pgH ch.length p++g)[ch.length+3]?=some (.tup ((p.h.map Dt.int).map .dat++[.ref ch.length,.ref (ch.length+1)])):=by
 have e:∀ j,j<4->(ch++pgH ch.length p++g)[ch.length+j]?=(pgH ch.length p)[j]?:=fun j hj=>by
  rw [List.append_assoc,gR (by omega),Nat.add_sub_cancel_left,gL (by exact hj)]
 exact ⟨e 0 (by decide),e 1 (by decide),e 3 (by decide)⟩
def Hv.nil {ch:CH}:Hv ch []:=⟨List.nodup_nil,fun x h=>by cases h⟩
def rh {fe:Fg} {d:Dt} {ds:List Dt} {ch c1 c2:CH} {c:CV} {cs:List CV} (h1:fe [some (.dat d)] ch=some (c,c1)) (h2:fJ [0] (am 0) br fe [none] ds c1=some (cs,c2)):fJ [0] (am 0) br fe [none] (d::ds) ch=some (c::cs,c2):=by
 show ((am 0 d (lo [none] ch)).bind fun δ1=>(br (lo (mgS [0] [none] δ1) ch)).bind fun b=>if b then (fe (mgS [0] [none] δ1) ch).bind fun p'=>(fJ [0] (am 0) br fe [none] ds p'.2).map fun q=>(p'.1::q.1,q.2) else fJ [0] (am 0) br fe [none] ds ch)=_
 unfold am
 rw [Option.bind_some,nq (by show 0<1;decide)]
 show ((fe [some (.dat d)] ch).bind fun p'=>(fJ [0] (am 0) br fe [none] ds p'.2).map fun q=>(p'.1::q.1,q.2))=_
 rw [h1,Option.bind_some]
 dsimp only
 rw [h2]
 rfl
def nA {ch:CH} {c:CV} {l:List CV} {p:Key×CV} {ps:List (Key×CV)} (h1:kZ ch c=some p) (h2:fA ch l=some ps):fA ch (c::l)=some (p::ps):=by
 simp only [fA,h1,h2,Option.bind_some,Option.map_some]
def uc {ch:CH} {q p:Nat} {x:Str} (h:ch[q]?=some (.tup [.dat (.str x),.ref p])):kZ ch (.ref q)=some (.inr x,.ref p):=by
 simp only [kZ,h,iN,Option.map_some]
def hJ {α:Type} {E:Fg} {f:α->Dt} {nm:α->Str} {vf:α->List Int}:∀ (l:List α),(∀ a∈l,∀ c:CH,∃ g p q,E [some (.dat (f a))] c=some (.ref q,c++g)/\(c++g)[q]?=some (.tup [.dat (.str (nm a)),.ref p])/\(c++g)[p]?=some (li (vf a))/\c.length<=p)->∀ c:CH,
  ∃ g rs ps,fJ [0] (am 0) br E [none] (l.map f) c=some (rs,c++g)/\(∀ g',fA (c++g++g') rs=some (dP (l.map nm) ps))/\ps.length=l.length/\rs.length=l.length/\Hv (c++g) (hl ps (l.map fun a=>(nm a,vf a)))/\∀ p∈ps,c.length<=p
 | [],_,c=>⟨[],[],[],by simp;rfl,fun _=>rfl,rfl,rfl,Hv.nil,fun p h=>by cases h⟩
 | a::l,h,c=>by
  obtain ⟨g,p,q,e,h1,h2,h3⟩:=h a (by simp) c
  obtain ⟨g',rs,ps,e',i1,i2,i3,i4,i5⟩:=hJ l (fun b hb=>h b (by simp [hb])) (c++g)
  have hp:p<(c++g).length:=(gX h2).1
  refine ⟨g++g',.ref q::rs,p::ps,?_,fun g2=>?_,by simp [i2],by simp [i3],?_,fun z hz=>?_⟩
  · rw [List.map_cons,<- List.append_assoc]
    exact rh e e'
  · rw [<- List.append_assoc]
    exact nA (uc (cP (cP h1))) (i1 g2)
  · rw [<- List.append_assoc]
    refine i4.add (o:=li (vf a)) (fun z=>?_) (cP h2)
    obtain ⟨y,hy,e⟩:=List.mem_map.mp z
    unfold hl at hy
    obtain ⟨⟨u,w⟩,hw,rfl⟩:=List.mem_map.mp hy
    have:=i5 u (List.of_mem_zip hw).1
    simp only at e
    omega
  · rcases List.mem_cons.mp hz with rfl | hz
    · exact h3
    · have:=i5 z hz
      rw [List.length_append] at this
      omega
def nB:∀ m:Nat,(List.replicate m [CV.dat (.int 0)]).flatten=(List.replicate m 0).map fun v=>CV.dat (.int v)
 | 0=>rfl
 | m+1=>by
  rw [List.replicate_succ,List.flatten_cons,List.replicate_succ,List.map_cons,nB m]
  rfl
def yH (h:Hd) (c:CH):∃ g p q,y27 [some (.dat (hdD h))] c=some (.ref q,c++g)/\(c++g)[q]?=some (.tup [.dat (.str h.1),.ref p])/\(c++g)[p]?=some (li [h.2.1])/\c.length<=p:=by
 refine ⟨[li [h.2.1],.tup [.dat (.str h.1),.ref c.length]],c.length,c.length+1,?_,?_,?_,nL _⟩
 · unfold y27
   rw [qa (xs:=[.dat (.str h.1),.ref c.length]) (c1:=c++[li [h.2.1]]) (av (aO rfl) (av (x:=.ref c.length) (ch1:=c++[li [h.2.1]]) rfl rfl)) (by simp)]
   simp
 · rw [gR (by omega)]
   simp
 · rw [gR (by omega)]
   simp
def v7 {h:Hd} {m:Nat} (hm:h.2.1=m) (h8:m<=8) (c:CH):∃ g p q,z22 [some (.dat (hdD h))] c=some (.ref q,c++g)/\(c++g)[q]?=some (.tup [.dat (.str h.1),.ref p])/\(c++g)[p]?=some (li (List.replicate m 0))/\c.length<=p:=by
 refine ⟨[.lst [.dat (.int 0)],li (List.replicate m 0),.tup [.dat (.str h.1),.ref (c.length+1)]],c.length+1,c.length+2,?_,?_,?_,Nat.le_succ _⟩
 · have er:tp (eN (bN (ab (kD (.int 0)) au))) (eD (toD (d2 aS (vB 0) (kD (.int 1))))) [some (.dat (hdD h))] c=some (.ref (c.length+1),c++[.lst [.dat (.int 0)],li (List.replicate m 0)]):=by
    unfold tp
    rw [show eN (bN (ab (kD (.int 0)) au)) [some (.dat (hdD h))] c=some (.ref c.length,c++[.lst [.dat (.int 0)]]) from rfl,Option.bind_some]
    dsimp only
    rw [show eD (toD (d2 aS (vB 0) (kD (.int 1)))) [some (.dat (hdD h))] (c++[.lst [.dat (.int 0)]])=some (.dat (.int m),c++[.lst [.dat (.int 0)]]) by rw [<- hm];rfl,Option.bind_some]
    simp only [bf]
    have sz:1000<=sizeLine:=by decide
    rw [if_pos ⟨by omega,by omega,by simp;omega⟩]
    rw [Int.toNat_natCast,nB]
    simp [li]
   unfold z22
   rw [qa (xs:=[.dat (.str h.1),.ref (c.length+1)]) (c1:=c++[.lst [.dat (.int 0)],li (List.replicate m 0)]) (av (aO rfl) (av er rfl)) (by simp)]
   simp
 · rw [gR (by omega)]
   simp
 · rw [gR (by omega)]
   simp
def Hv.join {c g:CH} {A B:List (Nat×CO)} (ha:Hv (c++g) A) (hg:∀ a∈A,c.length<=a.1) (hb:Hv c B):Hv (c++g) (A++B):=by
 refine ⟨?_,fun x hx=>?_⟩
 · rw [List.map_append]
   refine List.nodup_append.mpr ⟨ha.1,hb.1,fun u hu w hw e=>?_⟩
   obtain ⟨a,ha',rfl⟩:=List.mem_map.mp hu
   obtain ⟨b,hb',rfl⟩:=List.mem_map.mp hw
   have h1:=hg a ha'
   have h2:=hb.lt hb'
   omega
 · rcases List.mem_append.mp hx with hx | hx
   · exact ha.2 x hx
   · exact (hb.app g).2 x hx
def ud {α:Type} (is:List Nat) (l:List α):List α:=is.filterMap fun i=>l[i]?
def ue {α:Type} (l:List α):ud (List.range l.length) l=l:=by
 unfold ud
 induction l with
 | nil=>rfl
 | cons a l ih =>
  rw [List.length_cons,List.range_succ_eq_map,List.filterMap_cons]
  simp only [List.getElem?_cons_zero,List.filterMap_map]
  congr 1
def Hv.pick {c:CH} {l X:List (Nat×CO)} (h:Hv c (l++X)) (is:List Nat) (hp:is.Perm (List.range l.length)):Hv c (ud is l++X):=by
 refine h.perm (List.Perm.append_right X ?_)
 have:=hp.filterMap fun i=>l[i]?
 rw [show (List.range l.length).filterMap (fun i=>l[i]?)=l from ue l] at this
 exact this.symm
def yI {ps qs:List Nat} {a b:Hm} (h:ps.length=a.length):hl (ps++qs) (a++b)=hl ps a++hl qs b:=by
 unfold hl
 rw [List.zip_append h,List.map_append]
def uf {ps qs:List Nat} {a b:List Str} (h:a.length=ps.length):dP (a++b) (ps++qs)=dP a ps++dP b qs:=by
 unfold dP
 rw [List.zip_append h,List.map_append]
def jA:∀ {ns:List Str} {ps:List Nat},ns.length=ps.length->(dP ns ps).map (·.1)=ns.map fun y=>(.inr y:Key)
 | [],_,_=>rfl
 | _::_,[],h=>by cases h
 | n::ns,p::ps,h=>by
  have:=jA (ns:=ns) (ps:=ps) (by simpa using h)
  unfold dP at this ⊢
  rw [List.zip_cons_cons,List.map_cons,List.map_cons,List.map_cons,this]
def ug {ns:List Str} {ps:List Nat} (h:ns.length=ps.length) (nd:ns.Nodup):((dP ns ps).map (·.1)).Nodup:=by
 rw [jA h]
 exact List.pairwise_map.mpr (nd.imp fun h z=>h (Sum.inr.inj z))
def ll {f:Str} {c:CV}:∀ {ns:List Str} {l:List CV},ns.length=l.length->f∉ns->d4 ns l f c=(ns++[f],l++[c])
 | [],[],_,_=>rfl
 | [],_::_,h,_=>by cases h
 | _::_,[],h,_=>by cases h
 | n::ns,x::l,h,hf=>by
  have ih:=ll (f:=f) (c:=c) (ns:=ns) (l:=l) (by simpa using h) fun z=>hf (List.mem_cons_of_mem _ z)
  rw [d4,if_neg (fun z=>hf (by rw [z];exact .head _)),ih]
  rfl
section
variable {ch c1:CH} {δ:Sl} {fa fe:Fg} {i:Nat}
def iV {f:Str} {v:CV} {ns ns':List Str} {l l':List CV} (he:fe δ ch=some (v,c1)) (ha:δ[0]?=some (some (.ref i))) (ho:c1[i]?=some (.ins "Store" ns l)) (hn:ns.length<1000) (hl:ns.length=l.length) (hf:f∉ns) (e1:ns++[f]=ns') (e2:l++[v]=l'):fH "Store" f (eV 0) fe δ ch=some (.nx δ (c1.set i (.ins "Store" ns' l'))):=by
 rw [np he (aK ha) ho hn,ll hl hf,<- e1,<- e2]
def nC {src:List (Option Nat)} {fi:De->Option (List Dt)} {E:Fg} {ds:List Dt} {rs:List CV} (h1:fi (lo δ ch)=some ds) (h2:fJ [0] (am 0) br E (gC src δ) ds ch=some (rs,c1)) (h3:rs.length<=1000):gE src fi [0] (am 0) br E δ ch=some (.ref c1.length,c1++[.lst rs]):=by
 unfold gE
 rw [h1,Option.bind_some,h2,Option.bind_some,if_pos (Nat.le_trans h3 (by decide))]
def nE {rs:List CV} {ps:List (Key×CV)} (h1:fa δ ch=some (.ref i,c1)) (h2:c1[i]?=some (.lst rs)) (h3:fA c1 rs=some ps) (h4:(ps.map (·.1)).Nodup):iz fa δ ch=some (.ref c1.length,c1++[.dK ps]):=by
 unfold iz
 rw [h1]
 simp only [Option.bind_some,h2,h3,if_pos h4]
end
def hmC (cl:List Hd):Hm:=cl.map fun h=>(h.1,[h.2.1])
def hmS (sh:List Hd):Hm:=sh.map fun h=>(h.1,List.replicate h.2.1.toNat 0)
def hm0 (cl sh:List Hd):Hm:=hmC cl++hmS sh
def b0D (bs:List Str):List (Str×Int):=bs.map fun x=>(x,0)
section
variable {ch c1:CH} {δ:Sl} {R:List (Nat×CO)} {cl sh:List Hd} {rw:Dt} {bs:List Str}
def uh (h2:δ[2]?=some (some (.dat (.tup (bs.map .str))))) (hb:bs.length<=10):eN (ck [none] (fIt (vB 2)) (am 0) br y22) δ ch=some (.ref ch.length,ch++[bl (b0D bs)]):=by
 have hc:cr (am 0) br y22 [none] (bs.map Dt.str)=some ((bs.map Dt.str).map fun d=>match d with | .str x=>bd (x,0) | d=>d):=gm fun d hd=>by
  obtain ⟨x,_,rfl⟩:=List.mem_map.mp hd
  exact ⟨_,rfl,rfl,rfl⟩
 have hv:ck [none] (fIt (vB 2)) (am 0) br y22 (lo δ ch)=some (.lst ((b0D bs).map bd)):=by
  rw [vo,show fIt (vB 2) (lo δ ch)=some (bs.map .str) by unfold fIt;rw [bL h2];rfl,Option.bind_some,show dC [none] (lo δ ch)=[none] from rfl,hc,Option.bind_some,sR (by simp;omega)]
  congr 2
  unfold b0D
  rw [List.map_map,List.map_map]
  rfl
 unfold eN
 rw [hv,nr]
 rfl
def qf {fs:Fgs} {xs:List CV} (h1:fs δ ch=some (xs,c1)) (h7:xs.length<=1000):eL fs δ ch=some (.ref c1.length,c1++[.lst xs]):=by
 unfold eL
 rw [h1,Option.bind_some,if_pos (Nat.le_trans h7 (by decide))]
def xh {c:CH} {ps:List Nat} {a:Hm} (h:∀ p∈ps,c.length<=p):∀ x∈hl ps a,c.length<=x.1:=fun x hx=>by
 unfold hl at hx
 obtain ⟨⟨u,w⟩,hw,rfl⟩:=List.mem_map.mp hx
 exact h u (List.of_mem_zip hw).1
def v8 (h:Hv ch R) (nd:((hm0 cl sh).map (·.1)).Nodup) (hsz:∀ h∈sh,0<=h.2.1/\h.2.1<=8) (hcl:cl.length<=8) (hsh:sh.length<=8) (hb:bs.length<=10) :
  ∃ ch' ph pd pb pb0 pb1 pt pt0 pt1 ps,q20 [.ref ch.length,.dat (b9 cl sh rw),.dat (.tup (bs.map .str))] (ch++[.ins "Store" [] []])=some (.dat .non,ch')/\ps.length=(hm0 cl sh).length∧
   Hv ch' ([(ch.length,.ins "Store" fns [.ref ph,.ref pd,.ref pb,.ref pt,.dat (.int 0),.dat .non]),(ph,.dK (dP ((hm0 cl sh).map (·.1)) ps)),(pd,.lst [.dat (hd [0,0,0,0]),.dat (hd [0,0,0,0])]),(pb,.lst [.ref pb0,.ref pb1]),(pb0,bl (b0D bs)),(pb1,bl []),(pt,.lst [.ref pt0,.ref pt1]),(pt0,tl []),(pt1,tl [])]++(hl ps (hm0 cl sh)++R)):=by
 have hδ1:([some (CV.ref ch.length),some (.dat (b9 cl sh rw)),some (.dat (.tup (bs.map .str)))]:Sl)[1]?=some (some (.dat (b9 cl sh rw))):=rfl
 have H0:Hv (ch++[.ins "Store" [] []]) ((ch.length,.ins "Store" [] [])::R):=(h.app _).add (h.fresh (nL _)) bf
 generalize hs:ch.length=s at H0 hδ1 ⊢
 generalize ch++[CO.ins "Store" [] []]=c0 at H0 ⊢
 -- the cells
 obtain ⟨g1,rs1,ps1,e1,p1,l1,r1,v1,b1⟩:=hJ (nm:=fun h:Hd=>h.1) (vf:=fun h=>[h.2.1]) cl (fun a _ c=>yH a c) c0
 have H1:=v1.join (xh b1) H0
 have nd1:(cl.map fun h=>h.1).Nodup:=by
  have:=(List.nodup_append.mp (by rw [hm0,List.map_append] at nd;exact nd)).1
  unfold hmC at this
  rw [List.map_map] at this
  exact this
 have nd2:(sh.map fun h=>h.1).Nodup:=by
  have:=(List.nodup_append.mp (by rw [hm0,List.map_append] at nd;exact nd)).2.1
  unfold hmS at this
  rw [List.map_map] at this
  exact this
 have f1:iz (gE [none] (fIt (toD (d2 aS (vB 1) (kD (.int 0))))) [0] (am 0) br y27) [some (.ref s),some (.dat (b9 cl sh rw)),some (.dat (.tup (bs.map .str)))] c0=some (.ref (c0++g1++[CO.lst rs1]).length,c0++g1++[CO.lst rs1]++[CO.dK (dP (cl.map fun h=>h.1) ps1)]):=
  nE (nC (src:=[none]) (fi:=fIt (toD (d2 aS (vB 1) (kD (.int 0))))) (ds:=cl.map hdD) (by unfold fIt toD d2;rw [bL hδ1];rfl) e1 (by omega)) bf (p1 _) (ug (by simp [l1]) nd1)
 have HA:=((H1.app [.lst rs1]).app [.dK (dP (cl.map fun h=>h.1) ps1)]).add (((H1.app [.lst rs1])).fresh (nL _)) bf
 generalize (c0++g1++[CO.lst rs1]).length=D at f1 HA
 generalize c0++g1++[CO.lst rs1]++[CO.dK (dP (cl.map fun h=>h.1) ps1)]=cA at f1 HA
 have HA':Hv cA ((s,.ins "Store" [] [])::(D,.dK (dP (cl.map fun h=>h.1) ps1))::(hl ps1 (hmC cl)++R)):=HA.perm ((List.Perm.cons _ List.perm_middle).trans (List.Perm.swap _ _ _))
 have HB:=HA'.set 0 rfl (.ins "Store" ["home"] [.ref D])
 have x1:=iV (δ:=[some (.ref s),some (.dat (b9 cl sh rw)),some (.dat (.tup (bs.map .str)))]) (f:="home") (i:=s) (ns':=["home"]) (l':=[.ref D]) f1 rfl (HA'.at 0 rfl) (by decide) rfl (by decide +kernel) rfl rfl
 generalize cA.set s (CO.ins "Store" ["home"] [.ref D])=cB at HB x1
 -- the shelves
 obtain ⟨g2,rs2,ps2,e2,p2,l2,r2,v2,b2⟩:=hJ (nm:=fun h:Hd=>h.1) (vf:=fun h=>List.replicate h.2.1.toNat 0) sh (fun a ha c=>v7 (m:=a.2.1.toNat) (by have:=hsz a ha;omega) (by have:=hsz a ha;omega) c) cB
 have H2:=v2.join (xh b2) HB
 have f2:iz (gE [none] (fIt (toD (d2 aS (vB 1) (kD (.int 1))))) [0] (am 0) br z22) [some (.ref s),some (.dat (b9 cl sh rw)),some (.dat (.tup (bs.map .str)))] cB=some (.ref (cB++g2++[CO.lst rs2]).length,cB++g2++[CO.lst rs2]++[CO.dK (dP (sh.map fun h=>h.1) ps2)]):=
  nE (nC (src:=[none]) (fi:=fIt (toD (d2 aS (vB 1) (kD (.int 1))))) (ds:=sh.map hdD) (by unfold fIt toD d2;rw [bL hδ1];rfl) e2 (by omega)) bf (p2 _) (ug (by simp [l2]) nd2)
 have H2a:=(H2.app [.lst rs2]).app [.dK (dP (sh.map fun h=>h.1) ps2)]
 have H2b:Hv (cB++g2++[.lst rs2]++[.dK (dP (sh.map fun h=>h.1) ps2)]) ((s,.ins "Store" ["home"] [.ref D])::(D,.dK (dP (cl.map fun h=>h.1) ps1))::(hl ps1 (hmC cl)++(hl ps2 (hmS sh)++R))):=by
  refine H2a.perm ?_
  show (hl ps2 (hmS sh)++((s,.ins "Store" ["home"] [.ref D])::(D,.dK (dP (cl.map fun h=>h.1) ps1))::(hl ps1 (hmC cl)++R))).Perm _
  refine List.perm_middle.trans (List.Perm.cons _ (List.perm_middle.trans (List.Perm.cons _ ?_)))
  rw [<- List.append_assoc,<- List.append_assoc]
  exact List.Perm.append_right R List.perm_append_comm
 have gD2:(cB++g2++[CO.lst rs2]++[CO.dK (dP (sh.map fun h=>h.1) ps2)])[(cB++g2++[CO.lst rs2]).length]?=some (.dK (dP (sh.map fun h=>h.1) ps2)):=bf
 have nD2:(cB++g2++[CO.lst rs2]).length≠D:=fun e=>by
  have:=(H2.app [.lst rs2]).lt (x:=(D,.dK (dP (cl.map fun h=>h.1) ps1))) (List.mem_append_right _ (by simp))
  omega
 generalize (cB++g2++[CO.lst rs2]).length=D2 at f2 gD2 nD2
 generalize cB++g2++[CO.lst rs2]++[CO.dK (dP (sh.map fun h=>h.1) ps2)]=cC at f2 H2b gD2
 have ndk:((dP (cl.map fun h=>h.1) ps1++dP (sh.map fun h=>h.1) ps2).map (·.1)).Nodup:=by
  rw [<- uf (by simp [l1])]
  refine ug (by simp [l1,l2]) ?_
  have:(cl.map fun h=>h.1)++(sh.map fun h=>h.1)=(hm0 cl sh).map (·.1):=by
   unfold hm0 hmC hmS
   rw [List.map_append,List.map_map,List.map_map]
   rfl
  rw [this]
  exact nd
 have x2:na (eF "Store" "home" (eV 0)) (iz (gE [none] (fIt (toD (d2 aS (vB 1) (kD (.int 1))))) [0] (am 0) br z22)) [some (.ref s),some (.dat (b9 cl sh rw)),some (.dat (.tup (bs.map .str)))] cB=some (.nx [some (.ref s),some (.dat (b9 cl sh rw)),some (.dat (.tup (bs.map .str)))] (cC.set D (.dK (dP (cl.map fun h=>h.1) ps1++dP (sh.map fun h=>h.1) ps2)))):=by
  unfold na
  rw [dD (x:=.ref D) (aK rfl) (HB.at 0 rfl) rfl,Option.bind_some]
  dsimp only
  rw [f2,Option.bind_some]
  simp only [if_neg (Ne.symm nD2),HB.at 1 rfl,H2b.at 1 rfl,gD2]
  have sz:1000<=sizeLine:=by decide
  rw [if_pos ⟨ndk,by
   have k1:=congrArg List.length (jA (ns:=cl.map fun h=>h.1) (ps:=ps1) (by simp [l1]))
   have k2:=congrArg List.length (jA (ns:=sh.map fun h=>h.1) (ps:=ps2) (by simp [l2]))
   simp only [List.length_map] at k1 k2
   omega⟩]
 have H3:=H2b.set 1 rfl (.dK (dP (cl.map fun h=>h.1) ps1++dP (sh.map fun h=>h.1) ps2))
 rw [<- uf (by simp [l1])] at x2 H3
 generalize cC.set D (.dK (dP ((cl.map fun h=>h.1)++(sh.map fun h=>h.1)) (ps1++ps2)))=cD at x2 H3
 have H3':Hv cD ([(s,.ins "Store" ["home"] [.ref D]),(D,.dK (dP ((hm0 cl sh).map (·.1)) (ps1++ps2)))]++(hl (ps1++ps2) (hm0 cl sh)++R)):=by
  have e1:(cl.map fun h=>h.1)++(sh.map fun h=>h.1)=(hm0 cl sh).map (·.1):=by
   unfold hm0 hmC hmS
   rw [List.map_append,List.map_map,List.map_map]
   rfl
  rw [e1] at H3
  have e2:hl (ps1++ps2) (hm0 cl sh)=hl ps1 (hmC cl)++hl ps2 (hmS sh):=yI (by simp [l1,hmC])
  rw [e2,List.append_assoc]
  exact H3
 have hps:(ps1++ps2).length=(hm0 cl sh).length:=by simp [hm0,hmC,hmS,l1,l2]
 clear H3 H2b H2a H2 HB HA' HA H1 H0 v1 v2 e1 e2 p1 p2 f1 f2 ndk gD2 nd1 nd2 b1 b2
 generalize ps1++ps2=ps at x2 H3' hps
 -- heads
 have f3:eN (bN (ab (toD (b6 (ab (kD (.int 0)) (ab (kD (.int 0)) (ab (kD (.int 0)) (ab (kD (.int 0)) au)))))) (ab (toD (b6 (ab (kD (.int 0)) (ab (kD (.int 0)) (ab (kD (.int 0)) (ab (kD (.int 0)) au)))))) au))) [some (.ref s),some (.dat (b9 cl sh rw)),some (.dat (.tup (bs.map .str)))] cD=some (.ref cD.length,cD++[.lst [.dat (hd [0,0,0,0]),.dat (hd [0,0,0,0])]]):=rfl
 have H4:=(H3'.app [.lst [.dat (hd [0,0,0,0]),.dat (hd [0,0,0,0])]]).add (H3'.fresh (nL _)) bf
 generalize cD.length=d at f3 H4
 generalize cD++[CO.lst [.dat (hd [0,0,0,0]),.dat (hd [0,0,0,0])]]=cE at f3 H4
 have x3:=iV (δ:=[some (.ref s),some (.dat (b9 cl sh rw)),some (.dat (.tup (bs.map .str)))]) (f:="heads") (i:=s) (ns':=["home","heads"]) (l':=[.ref D,.ref d]) f3 rfl (H4.at 1 rfl) (by decide) rfl (by decide +kernel) rfl rfl
 have H4':=H4.set 1 rfl (.ins "Store" ["home","heads"] [.ref D,.ref d])
 generalize cE.set s (CO.ins "Store" ["home","heads"] [.ref D,.ref d])=cF at x3 H4'
 -- page_boxes
 have f4:eL (ae (eN (ck [none] (fIt (vB 2)) (am 0) br y22)) (ae (eN (bN au)) ar)) [some (.ref s),some (.dat (b9 cl sh rw)),some (.dat (.tup (bs.map .str)))] cF=some (.ref (cF++[bl (b0D bs)]++[CO.lst []]).length,cF++[bl (b0D bs)]++[CO.lst []]++[CO.lst [.ref cF.length,.ref (cF++[bl (b0D bs)]).length]]):=qf (av (uh rfl hb) (av rfl rfl)) (by simp)
 have H5:=(((H4'.app [bl (b0D bs)]).add (H4'.fresh (nL _)) bf).app [CO.lst []]).add (((H4'.app [bl (b0D bs)]).add (H4'.fresh (nL _)) bf).fresh (nL _)) bf
 have H6:=(H5.app [CO.lst [.ref cF.length,.ref (cF++[bl (b0D bs)]).length]]).add (H5.fresh (nL _)) bf
 generalize (cF++[bl (b0D bs)]++[CO.lst []]).length=b at f4 H6
 generalize (cF++[bl (b0D bs)]).length=b1 at f4 H6
 generalize cF.length=b0 at f4 H6
 generalize cF++[bl (b0D bs)]++[CO.lst []]++[CO.lst [.ref b0,.ref b1]]=cG at f4 H6
 have x4:=iV (δ:=[some (.ref s),some (.dat (b9 cl sh rw)),some (.dat (.tup (bs.map .str)))]) (f:="page_boxes") (i:=s) (ns':=["home","heads","page_boxes"]) (l':=[.ref D,.ref d,.ref b]) f4 rfl (H6.at 4 rfl) (by decide) rfl (by decide +kernel) rfl rfl
 have H6':=H6.set 4 rfl (.ins "Store" ["home","heads","page_boxes"] [.ref D,.ref d,.ref b])
 generalize cG.set s (CO.ins "Store" ["home","heads","page_boxes"] [.ref D,.ref d,.ref b])=cI at x4 H6'
 -- page_turns
 have f5:eL (ae (eN (bN au)) (ae (eN (bN au)) ar)) [some (.ref s),some (.dat (b9 cl sh rw)),some (.dat (.tup (bs.map .str)))] cI=some (.ref (cI++[CO.lst []]++[CO.lst []]).length,cI++[CO.lst []]++[CO.lst []]++[CO.lst [.ref cI.length,.ref (cI++[CO.lst []]).length]]):=qf (av rfl (av rfl rfl)) (by simp)
 have H7:=(((H6'.app [CO.lst []]).add (H6'.fresh (nL _)) bf).app [CO.lst []]).add (((H6'.app [CO.lst []]).add (H6'.fresh (nL _)) bf).fresh (nL _)) bf
 have H8:=(H7.app [CO.lst [.ref cI.length,.ref (cI++[CO.lst []]).length]]).add (H7.fresh (nL _)) bf
 generalize (cI++[CO.lst []]++[CO.lst []]).length=t at f5 H8
 generalize (cI++[CO.lst []]).length=t1 at f5 H8
 generalize cI.length=t0 at f5 H8
 generalize cI++[CO.lst []]++[CO.lst []]++[CO.lst [.ref t0,.ref t1]]=cJ at f5 H8
 have x5:=iV (δ:=[some (.ref s),some (.dat (b9 cl sh rw)),some (.dat (.tup (bs.map .str)))]) (f:="page_turns") (i:=s) (ns':=["home","heads","page_boxes","page_turns"]) (l':=[.ref D,.ref d,.ref b,.ref t]) f5 rfl (H8.at 7 rfl) (by decide) rfl (by decide +kernel) rfl rfl
 have H8':=H8.set 7 rfl (.ins "Store" ["home","heads","page_boxes","page_turns"] [.ref D,.ref d,.ref b,.ref t])
 generalize cJ.set s (CO.ins "Store" ["home","heads","page_boxes","page_turns"] [.ref D,.ref d,.ref b,.ref t])=cK at x5 H8'
 -- counting,result
 have x6:=iV (δ:=[some (.ref s),some (.dat (b9 cl sh rw)),some (.dat (.tup (bs.map .str)))]) (fe:=eN (toT (kD (.int 0)))) (ch:=cK) (c1:=cK) (v:=.dat (.int 0)) (f:="counting") (i:=s) (ns':=["home","heads","page_boxes","page_turns","counting"]) (l':=[.ref D,.ref d,.ref b,.ref t,.dat (.int 0)]) rfl rfl (H8'.at 7 rfl) (by decide) rfl (by decide +kernel) rfl rfl
 have H9:=H8'.set 7 rfl (.ins "Store" ["home","heads","page_boxes","page_turns","counting"] [.ref D,.ref d,.ref b,.ref t,.dat (.int 0)])
 generalize cK.set s (CO.ins "Store" ["home","heads","page_boxes","page_turns","counting"] [.ref D,.ref d,.ref b,.ref t,.dat (.int 0)])=cL at x6 H9
 have x7:=iV (δ:=[some (.ref s),some (.dat (b9 cl sh rw)),some (.dat (.tup (bs.map .str)))]) (fe:=eN (toT (kD .non))) (ch:=cL) (c1:=cL) (v:=.dat .non) (f:="result") (i:=s) (ns':=fns) (l':=[.ref D,.ref d,.ref b,.ref t,.dat (.int 0),.dat .non]) rfl rfl (H9.at 7 rfl) (by decide) rfl (by decide +kernel) rfl rfl
 have H10:=H9.set 7 rfl (.ins "Store" fns [.ref D,.ref d,.ref b,.ref t,.dat (.int 0),.dat .non])
 generalize cL.set s (CO.ins "Store" fns [.ref D,.ref d,.ref b,.ref t,.dat (.int 0),.dat .non])=cM at x7 H10
 have HF:=Hv.pick (l:=[(t,CO.lst [.ref t0,.ref t1]),(t1,.lst []),(t0,.lst []),(b,.lst [.ref b0,.ref b1]),(b1,.lst []),(b0,bl (b0D bs)),(d,.lst [.dat (hd [0,0,0,0]),.dat (hd [0,0,0,0])]),(s,.ins "Store" fns [.ref D,.ref d,.ref b,.ref t,.dat (.int 0),.dat .non]),(D,.dK (dP ((hm0 cl sh).map (·.1)) ps))]) (X:=hl ps (hm0 cl sh)++R) H10 [7,8,6,3,5,4,0,2,1] (show [7,8,6,3,5,4,0,2,1].Perm (List.range 9) by decide)
 refine ⟨cM,D,d,b,b0,b1,t,t0,t1,ps,?_,hps,HF⟩
 unfold q20
 rw [cc]
 walk_at "m"
 rw [aI,x1,aA,aI,x2,aA,aI,x3,aA,aI,x4,aA,aI,x5,aA,aI,x6,aA,x7]
 rfl
end
def Hv.new {ch:CH} {l:List (Nat×CO)} (h:Hv ch l) (o:CO):Hv (ch++[o]) ((ch.length,o)::l):=(h.app _).add (h.fresh (nL _)) bf
def rj {i j k:Nat} {g:Fs} {δ δ2:Sl} {ch ch2:CH} {a b c:Dt} {r:List Dt} (hij:i≠j) (hik:i≠k) (hjk:j≠k) (hi:i<δ.length) (hj:j<δ.length) (hk:k<δ.length) (e:g (((δ.set i (some (.dat a))).set j (some (.dat b))).set k (some (.dat c))) ch=some (.nx δ2 ch2)) :
  dw [i,j,k] (cf 3 (aH (am i) (aH (am j) (aH (am k) ce)))) g (.tup [a,b,c]::r) δ ch=dw [i,j,k] (cf 3 (aH (am i) (aH (am j) (aH (am k) ce)))) g r δ2 ch2:=by
 show ((cf 3 (aH (am i) (aH (am j) (aH (am k) ce))) (.tup [a,b,c]) (lo δ ch)).bind fun δ1=>(g (mgS [i,j,k] δ δ1) ch).bind fun o=>_)=_
 rw [show cf 3 (aH (am i) (aH (am j) (aH (am k) ce))) (.tup [a,b,c]) (lo δ ch)=some ((((lo δ ch).set i (some (.leaf a))).set j (some (.leaf b))).set k (some (.leaf c))) from rfl,Option.bind_some,mgS3 hij hik hjk hi hj hk,e]
 rfl
def qg:∀ (a b:Hm),dTm (a++b)=dTm a++dTm b
 | [],b=>rfl
 | s::a,b=>by rw [List.cons_append,dTm,dTm,qg a b,List.append_assoc]
def nF (x:Str):∀ (vs:List Int) (k:Nat),(dI x k vs).length=vs.length
 | [],_=>rfl
 | v::vs,k=>by rw [dI,List.length_cons,List.length_cons,nF x vs (k+1)]
def nG {κ:Type} [DecidableEq κ] {k:κ} {c:CV}:∀ {l:List (κ×CV)},k∉l.map (·.1)->dG l k c=l++[(k,c)]
 | [],_=>rfl
 | p::l,h=>by
  rw [dG,if_neg (fun z=>h (by rw [<- z];simp)),nG (l:=l) (fun z=>h (by rw [List.map_cons];exact List.mem_cons_of_mem _ z))]
  rfl
section
variable {ch:CH} {δ:Sl} {q:Nat} {x:Str}
def gb (m:Nat):cj 0 m=(List.range' 0 m).map fun i:Nat=>.int (i:Int):=by
 unfold cj
 rw [List.range_eq_range']
 exact List.map_congr_left fun i _=>by rw [Int.zero_add]
end
def jB {α:Type} {x:Str} {v:α}:∀ {hm:List (Str×α)},(hm.map (·.1)).Nodup->(x,v)∈hm->lkS hm x=some v
 | [],_,h=>by cases h
 | s::hm,nd,h=>by
  rw [lkS]
  rcases List.mem_cons.mp h with rfl | h
  · rw [if_pos rfl]
  · rw [if_neg fun e:s.1=x=>(List.nodup_cons.mp nd).1 (List.mem_map.mpr ⟨(x,v),h,e.symm⟩)]
    exact jB (List.nodup_cons.mp nd).2 h
def lm:∀ (hm:Hm),(∀ s∈hm,s.2.length<=8)->(dTm hm).length<=8*hm.length
 | [],_=>nL _
 | s::hm,h=>by
  have:=lm hm fun z hz=>h z (by simp [hz])
  have h1:=h s (by simp)
  rw [dTm,List.length_append,nF,List.length_cons]
  omega
abbrev Tn:=(Str×Int)×Int
def st:Hm->Str->Nat->Int->Hm
 | [],_,_,_=>[]
 | p::hm,x,k,v=>if p.1=x then (p.1,p.2.set k v)::hm else p::st hm x k v
def qh {x:Str} {vs:List Int} {k:Nat} {v:Int}:∀ {hm:Hm},lkS hm x=some vs->ptS hm x (vs.set k v)=st hm x k v
 | [],h=>by cases h
 | p::hm,h=>by
  rw [lkS] at h
  rw [ptS,st]
  by_cases e:p.1=x
  · rw [if_pos e] at h
    cases h
    rw [if_pos e,if_pos e]
  · rw [if_neg e] at h
    rw [if_neg e,if_neg e,qh h]
def qi {x:Str} {k:Nat} {v u:Int}:∀ {hm:Hm},st (st hm x k v) x k u=st hm x k u
 | []=>rfl
 | p::hm=>by
  rw [st,st]
  by_cases e:p.1=x
  · rw [if_pos e,if_pos e,st,if_pos e,List.set_set]
  · rw [if_neg e,if_neg e,st,if_neg e,qi]
def qj {x y:Str} {k j:Nat} {v u:Int} (h:¬ (x=y/\k=j)):∀ {hm:Hm},st (st hm x k v) y j u=st (st hm y j u) x k v
 | []=>rfl
 | p::hm=>by
  rw [st,st]
  by_cases e:p.1=x
  · rw [if_pos e]
    by_cases e2:p.1=y
    · rw [if_pos e2,st,if_pos e2,st,if_pos e,List.set_comm _ _ (fun z=>h ⟨e.symm.trans e2,z⟩)]
    · rw [if_neg e2,st,if_neg e2,st,if_pos e]
  · rw [if_neg e]
    by_cases e2:p.1=y
    · rw [if_pos e2,st,if_pos e2,st,if_neg e]
    · rw [if_neg e2,st,if_neg e2,st,if_neg e,qj h]
def ap (ts:List Tn) (hm:Hm):Hm:=ts.foldl (fun h t=>st h t.1.1 t.1.2.toNat t.2) hm
def ui {x:Str} {k:Nat} {v:Int}:∀ {ts:List Tn} {hm:Hm},(∃ t∈ts,t.1.1=x/\t.1.2.toNat=k)->ap ts (st hm x k v)=ap ts hm
 | [],_,h=>by
  obtain ⟨t,h,_⟩:=h
  cases h
 | a::ts,hm,h=>by
  show ap ts (st (st hm x k v) a.1.1 a.1.2.toNat a.2)=ap ts (st hm a.1.1 a.1.2.toNat a.2)
  by_cases e:x=a.1.1/\k=a.1.2.toNat
  · rw [e.1,e.2,qi]
  · rw [qj e]
    obtain ⟨t,ht,h1,h2⟩:=h
    rcases List.mem_cons.mp ht with rfl | ht
    · exact absurd ⟨h1.symm,h2.symm⟩ e
    · exact ui ⟨t,ht,h1,h2⟩
def mr {ts:List Tn}:∀ {us:List Tn} {hm:Hm},(∀ u∈us,u∈ts)->ap ts (ap us hm)=ap ts hm
 | [],_,_=>rfl
 | u::us,hm,h=>by
  show ap ts (ap us (st hm u.1.1 u.1.2.toNat u.2))=_
  rw [mr fun z hz=>h z (List.mem_cons_of_mem _ hz)]
  exact ui ⟨u,h u (.head _),rfl,rfl⟩
def v9 (ts:List Tn) (t:Tn) (hm:Hm):ap (ts++[t]) hm=st (ap ts hm) t.1.1 t.1.2.toNat t.2:=by
 unfold ap
 rw [List.foldl_append]
 rfl
def shp (hm:Hm):List (Str×Nat):=hm.map fun s=>(s.1,s.2.length)
def st_shp {x:Str} {k:Nat} {v:Int}:∀ {hm:Hm},shp (st hm x k v)=shp hm
 | []=>rfl
 | p::hm=>by
  have ih:=st_shp (x:=x) (k:=k) (v:=v) (hm:=hm)
  unfold shp at ih ⊢
  rw [st]
  by_cases e:p.1=x
  · rw [if_pos e,List.map_cons,List.map_cons,List.length_set]
  · rw [if_neg e,List.map_cons,List.map_cons,ih]
def ms:∀ {ts:List Tn} {hm:Hm},shp (ap ts hm)=shp hm
 | [],_=>rfl
 | t::ts,hm=>(ms (ts:=ts)).trans st_shp
def jC {x:Str}:∀ {hm:Hm},lkS (shp hm) x=(lkS hm x).map List.length
 | []=>rfl
 | p::hm=>by
  show (if p.1=x then some p.2.length else lkS (shp hm) x)=_
  rw [lkS]
  by_cases e:p.1=x
  · rw [if_pos e,if_pos e];rfl
  · rw [if_neg e,if_neg e,jC]
def vS (l:List (Str×Nat)) (t:Str×Int):Prop:=∃ m n:Nat,lkS l t.1=some m/\t.2=(n:Int)/\n<m
def xi {hm:Hm} {t:Str×Int} (h:vS (shp hm) t):∃ (vs:List Int) (v:Int),lkS hm t.1=some vs/\t.2=((t.2.toNat:Nat):Int)/\t.2.toNat<vs.length/\vs[t.2.toNat]?=some v:=by
 obtain ⟨m,n,h1,h2,h3⟩:=h
 rw [jC] at h1
 obtain ⟨vs,h4,rfl⟩:=mS h1
 have e:t.2.toNat=n:=by omega
 rw [e]
 exact ⟨vs,vs[n],h4,h2,h3,gQ h3⟩
structure Ok (G:List (Str×Nat)) (P:Pl) (S:Sta):Prop where
 pl:P.ps.length=G.length
 sh:shp S.hm=G
 nd:(G.map (·.1)).Nodup
 tot:∀ hm,shp hm=G->(dTm hm).length<900
def Ok.len {G:List (Str×Nat)} {P:Pl} {S:Sta} (h:Ok G P S):P.ps.length=S.hm.length:=by
 rw [h.pl,<- h.sh]
 exact List.length_map _
def Ok.nds {G:List (Str×Nat)} {P:Pl} {S:Sta} (h:Ok G P S):(S.hm.map (·.1)).Nodup:=by
 have:=h.nd
 rw [<- h.sh] at this
 unfold shp at this
 rw [List.map_map] at this
 exact this
def Ok.to {G:List (Str×Nat)} {P P':Pl} {S S':Sta} (h:Ok G P S) (e:S'.hm=S.hm) (ep:P'.ps=P.ps):Ok G P' S':=⟨by rw [ep];exact h.pl,by rw [e];exact h.sh,h.nd,h.tot⟩
def Ok.ap {G:List (Str×Nat)} {P P':Pl} {S S':Sta} (h:Ok G P S) {ts:List Tn} (e:S'.hm=ap ts S.hm) (ep:P'.ps=P.ps):Ok G P' S':=⟨by rw [ep];exact h.pl,by rw [e,ms];exact h.sh,h.nd,h.tot⟩
section
variable {ch:CH} {P:Pl} {S:Sta} {R:List (Nat×CO)} {G:List (Str×Nat)}
def putS {t:Tn} (h:Hv ch (cs P S R)) (ok:Ok G P S) (hv:vS G t.1):∃ ch',z23 [.ref P.s,.dat (.str t.1.1),.dat (.int t.1.2),.dat (.int t.2)] ch=some (.dat .non,ch')/\Hv ch' (cs P {S with hm:=st S.hm t.1.1 t.1.2.toNat t.2} R):=by
 rw [<- ok.sh] at hv
 obtain ⟨vs,v,h1,h2,h3,_⟩:=xi hv
 have:=yE (v:=t.2) h ok.len h1 h3
 rw [<- h2,qh h1] at this
 exact this
def gw {l:List Dt} (h:∀ d∈l,dk d d=true):cmpbs l l=true:=by
 induction l with
 | nil=>rfl
 | cons d l ih =>
  simp only [cmpbs,h d (by simp),ih fun z hz=>h z (by simp [hz]),Bool.and_self]
def iG {l:List Dt} {n:Nat} (h:∀ d∈l,eG d<=n):deeps l<=n:=by
 induction l with
 | nil=>simp only [deeps];omega
 | cons d l ih =>
  simp only [deeps]
  have h1:=h d (by simp)
  have h2:=ih fun z hz=>h z (by simp [hz])
  omega
def wa (p:Pg):cmpbs (p.h.map .int++[.lst (p.b.map bd),.lst (p.t.map td)]) (p.h.map .int++[.lst (p.b.map bd),.lst (p.t.map td)])=true:=gw fun d hd=>by
 rcases List.mem_append.mp hd with hd | hd
 · obtain ⟨i,_,rfl⟩:=List.mem_map.mp hd
   rfl
 · have hb:dk (.lst (p.b.map bd)) (.lst (p.b.map bd))=true:=by
    rw [dk]
    refine gw fun d hd=>?_
    obtain ⟨i,_,rfl⟩:=List.mem_map.mp hd
    rfl
   have ht:dk (.lst (p.t.map td)) (.lst (p.t.map td))=true:=by
    rw [dk]
    refine gw fun d hd=>?_
    obtain ⟨i,_,rfl⟩:=List.mem_map.mp hd
    rfl
   rcases List.mem_cons.mp hd with rfl | hd
   · exact hb
   · rw [List.mem_singleton.mp hd]
     exact ht
def uj (p:Pg):deeps (p.h.map .int++[.lst (p.b.map bd),.lst (p.t.map td)])<=59:=by
 refine iG fun d hd=>?_
 rcases List.mem_append.mp hd with hd | hd
 · obtain ⟨i,_,rfl⟩:=List.mem_map.mp hd
   simp only [eG]
   omega
 · have hb:deeps (p.b.map bd)<=50:=iG fun d hd=>by
    obtain ⟨i,_,rfl⟩:=List.mem_map.mp hd
    simp only [bd,eG,deeps]
    omega
   have ht:deeps (p.t.map td)<=50:=iG fun d hd=>by
    obtain ⟨i,_,rfl⟩:=List.mem_map.mp hd
    simp only [td,eG,deeps]
    omega
   rcases List.mem_cons.mp hd with rfl | hd
   · simp only [eG]
     omega
   · rw [List.mem_singleton.mp hd]
     simp only [eG]
     omega
def yJ (p:Pg):gEq false (pgD p) (pgD p)=some (.leaf (.bl true)):=by
 have e:eqD (pgD p) (pgD p)=some true:=by
  unfold pgD
  rw [wT (by rw [wa,decide_eq_true (uj p)];rfl),peqs_self]
 exact yc e
structure At (ch:CH) (q a b c:Nat) (p:Pg):Prop where
 q:ch[q]?=some (.lst [.ref a,.ref b,.ref c])
 a:ch[a]?=some (li p.h)
 b:ch[b]?=some (bl p.b)
 c:ch[c]?=some (tl p.t)
def At.old {q a b c:Nat} {p:Pg} (h:At ch q a b c p) (g:CH):At (ch++g) q a b c p:=⟨cP h.q,cP h.a,cP h.b,cP h.c⟩
def oK {δ:Sl} {fa fb:Fg} {m:Nat} {g:Dt->Dt->Option T} {c1 c2:CH} {x y:CV} {d e:Dt} {b:Bool} (h1:fa δ ch=some (x,c1)) (h2:fb δ c1=some (y,c2)) (h3:vwD c2 m x=some d) (h4:vwD c2 m y=some e) (h5:g d e=some (.leaf (.bl b))):e2D m g fa fb δ ch=some (.dat (.bl b),c2):=by
 unfold e2D
 rw [h1,Option.bind_some]
 dsimp only
 rw [h2,Option.bind_some]
 dsimp only
 rw [h3,Option.bind_some,h4,Option.bind_some,h5]
 rfl
def un3 {δ:Sl} {q i j k:Nat} {a b c:CV} (h:ch[q]?=some (.lst [a,b,c])):ggT 3 (bv (ggN i) (bv (ggN j) (bv (ggN k) d7))) (.ref q) ch δ=some (((δ.set i (some a)).set j (some b)).set k (some c)):=by
 have e:tK ch (.ref q)=some [a,b,c]:=by
  unfold tK
  simp only [h]
 unfold ggT
 rw [e]
 rfl
def mt {δ:Sl} (h:Hv ch (cs P S R)) (h0:δ[0]?=some (some (.ref P.s))):eM "Store" "face" y9 (eV 0) ar δ ch=some (.dat (.int (fI S.f)),ch):=by
 rw [eU (aK h0) (h.at 0 rfl) (by decide +kernel) rfl]
 exact vV h
def gx {q a b c:Nat} {p:Pg} (h:Hv ch (cs P S R)) (hz:p.h.length=4) (w:At ch q a b c p) (e:S.pg S.f=p):∃ g,z12 [.ref P.s,.ref q] ch=some (.dat (.bl true),ch++g):=by
 have d0:([some (CV.ref P.s),some (.ref q),some (.ref a),some (.ref b),some (.ref c)]:Sl)[0]?=some (some (.ref P.s)):=rfl
 have x1:jo (eV 1) (ggT 3 (bv (ggN 2) (bv (ggN 3) (bv (ggN 4) d7)))) [some (.ref P.s),some (.ref q),none,none,none] ch=some (.nx [some (.ref P.s),some (.ref q),some (.ref a),some (.ref b),some (.ref c)] ch):=by
  unfold jo
  rw [aK rfl,Option.bind_some]
  dsimp only
  rw [un3 w.q]
  rfl
 have t2:([some (CV.ref P.s),some (.ref q),some (.ref a),some (.ref b),some (.ref c)]:Sl)[2]?=some (some (.ref a)):=rfl
 have t3:([some (CV.ref P.s),some (.ref q),some (.ref a),some (.ref b),some (.ref c)]:Sl)[3]?=some (some (.ref b)):=rfl
 have t4:([some (CV.ref P.s),some (.ref q),some (.ref a),some (.ref b),some (.ref c)]:Sl)[4]?=some (some (.ref c)):=rfl
 generalize ([some (CV.ref P.s),some (.ref q),some (.ref a),some (.ref b),some (.ref c)]:Sl)=δ at d0 t2 t3 t4 x1
 have e2:eM "Store" "page" y11 (eV 0) (ae (eM "Store" "face" y9 (eV 0) ar) ar) δ ch=some (.ref (ch.length+3),ch++pgH ch.length p):=by
  rw [eU (aK d0) (h.at 0 rfl) (by decide +kernel) (av (mt h d0) rfl)]
  have:=mm (n:=S.f) h (by rw [e];exact hz)
  rw [e] at this
  exact this
 obtain ⟨p1,p2,p3⟩:=oJ ch p [CO.tup [.ref b,.ref c],CO.tup ((p.h.map Dt.int).map .dat++[.ref b,.ref c])]
 have w1:=w.old (pgH ch.length p)
 generalize hc1:ch++pgH ch.length p=c1 at w1 e2
 have e3:eTa (eB fm (ae (eV 2) ar)) (eT (ae (eV 3) (ae (eV 4) ar))) δ c1=some (.ref (c1++[CO.tup [.ref b,.ref c]]).length,c1++[CO.tup [.ref b,.ref c]]++[CO.tup ((p.h.map Dt.int).map .dat++[.ref b,.ref c])]):=by
  refine tV (c1:=c1) (a:=.dat (.tup (p.h.map Dt.int))) (b:=.ref c1.length) (xs:=(p.h.map Dt.int).map .dat) (ys:=[.ref b,.ref c]) ?_ (qa (av (aK t3) (av (aK t4) rfl)) (by simp)) rfl ?_ (by cases he:p.h with
   | nil=>rw [he] at hz;cases hz
   | cons a l=>rfl) rfl (by simp [hz])
  · rw [lg (av (aK t2) rfl) (ds:=[.lst (p.h.map .int)]) (by simp only [vws,xg w1.a,Option.bind_some,Option.map_some]) (t:=.leaf (.tup (p.h.map .int))) rfl]
    rfl
  · show (match (c1++[CO.tup [.ref b,.ref c]])[c1.length]? with
     | some (.tup l)=>some l
     | _=>none)=_
    rw [bf]
 have w2:=(w1.old [.tup [.ref b,.ref c]]).old [.tup ((p.h.map Dt.int).map .dat++[.ref b,.ref c])]
 have q6:(c1++[CO.tup [.ref b,.ref c]]++[CO.tup ((p.h.map Dt.int).map .dat++[.ref b,.ref c])])[(c1++[CO.tup [.ref b,.ref c]]).length]?=some (.tup ((p.h.map Dt.int).map .dat++[.ref b,.ref c])):=bf
 have ee:ch++pgH ch.length p++[CO.tup [.ref b,.ref c],CO.tup ((p.h.map Dt.int).map .dat++[.ref b,.ref c])]=c1++[CO.tup [.ref b,.ref c]]++[CO.tup ((p.h.map Dt.int).map .dat++[.ref b,.ref c])]:=by rw [hc1,List.append_assoc];rfl
 rw [ee] at p1 p2 p3
 have e4:=oK (m:=3) (g:=gEq false) e2 e3 (qe p3 p1 p2) (qe q6 w2.b w2.c) (yJ p)
 refine ⟨pgH ch.length p++[CO.tup [.ref b,.ref c],CO.tup ((p.h.map Dt.int).map .dat++[.ref b,.ref c])],?_⟩
 unfold z12
 rw [cc]
 show hG (aN _ _ [some (.ref P.s),some (.ref q),none,none,none] ch)=_
 rw [aI,x1,aA,dg e4,<- List.append_assoc,ee]
 rfl
end
def wl (q a b c:Nat) (p:Pg):List (Nat×CO):=[(q,.lst [.ref a,.ref b,.ref c]),(a,li p.h),(b,bl p.b),(c,tl p.t)]
def gF {ch:CH} {P:Pl} {S:Sta} {R:List (Nat×CO)} {q a b c:Nat} {p:Pg} (h:Hv ch (cs P S R)) (hw:∀ x∈wl q a b c p,x∈R):At ch q a b c p:=by
 have key:∀ x∈wl q a b c p,ch[x.1]?=some x.2:=fun x hx=>h.2 x (by
  unfold cs
  simp only [List.mem_cons,List.mem_append]
  exact .inr (.inr (.inr (.inr (.inr (.inr (.inr (.inr (.inr (.inr (hw x hx)))))))))))
 exact ⟨key (q,.lst [.ref a,.ref b,.ref c]) (.head _),key (a,li p.h) (.tail _ (.head _)),key (b,bl p.b) (.tail _ (.tail _ (.head _))),key (c,tl p.t) (.tail _ (.tail _ (.tail _ (.head _))))⟩
def fE (S:Sta) (n:Bool) (p:Pg):(S.setP n p).pg n=p:=by cases n<;>rfl
def nH (S:Sta) (n:Bool) (p:Pg):(S.setP n p).pg (!n)=S.pg (!n):=by cases n<;>rfl
def hU (S:Sta) (n:Bool) (p:Pg):(S.setP n p).f=S.f:=by cases n<;>rfl
def qk (S:Sta) (n:Bool) (p:Pg):(S.setP n p).hm=S.hm:=by cases n<;>rfl
def ln (S:Sta) (n:Bool) (p p':Pg):(S.setP n p).setP n p'=S.setP n p':=by cases n<;>rfl
noncomputable def stt (S:Sta) (w:Pg) (k:Nat):Sta:=
 if k=0 then S
 else if k<=w.b.length+w.t.length+1 then S.setP (!S.f) ⟨w.h,w.b.take (k-1),w.t.take (k-1-w.b.length)⟩
 else {S.setP (!S.f) w with f:=!S.f,hm:=ap (w.t.take (k-(w.b.length+w.t.length+2))) S.hm}
section
variable {ch c1:CH} {P:Pl} {S:Sta} {R:List (Nat×CO)} {G:List (Str×Nat)} {δ:Sl} {q a b c k:Nat} {w:Pg} {x6 x7:Option CV}
def sl (P:Pl) (q k a b c:Nat) (x6 x7:Option CV):Sl:=[some (.ref P.s),some (.ref q),some (.dat (.int k)),some (.ref a),some (.ref b),some (.ref c),x6,x7]
def uk {i j:Nat} {ds:List Dt} (h1:δ[i]?=some (some (.ref j))) (h2:ch[j]?=some (.lst (ds.map .dat))):eB bB (ae (eV i) ar) δ ch=some (.dat (.int (ds.length:Nat)),ch):=by
 rw [lg (av (aK h1) rfl) (ds:=[.lst ds]) (by simp only [vws,p9 h2,Option.bind_some,Option.map_some]) (t:=.leaf (.int (ds.length:Nat))) rfl]
 rfl
def ul (w0:At ch q a b c w):eB bB (ae (eV 4) ar) (sl P q k a b c x6 x7) ch=some (.dat (.int (w.b.length:Nat)),ch):=by
 have:=uk (ch:=ch) (δ:=sl P q k a b c x6 x7) (i:=4) (j:=b) (ds:=w.b.map bd) rfl (by rw [<- nr];exact w0.b)
 rw [List.length_map] at this
 exact this
def yK (w0:At ch q a b c w):eB bB (ae (eV 5) ar) (sl P q k a b c x6 x7) ch=some (.dat (.int (w.t.length:Nat)),ch):=by
 have:=uk (ch:=ch) (δ:=sl P q k a b c x6 x7) (i:=5) (j:=c) (ds:=w.t.map td) rfl (by rw [<- oH];exact w0.c)
 rw [List.length_map] at this
 exact this
def e2i {g:Dt->Dt->Option T} {fa fb:Fg} {i j:Int} {d:Dt} (h1:fa δ ch=some (.dat (.int i),ch)) (h2:fb δ ch=some (.dat (.int j),ch)) (h3:g (.int i) (.int j)=some (.leaf d)):e2 g fa fb δ ch=some (.dat d,ch):=by
 rw [xb h1 h2 rfl rfl h3]
 rfl
def k_at:eD (vL 2) (sl P q k a b c x6 x7) ch=some (.dat (.int k),ch):=aO (bz rfl)
def oM {i:Int}:eD (toD (d2 cu (vB 2) (kD (.int i)))) (sl P q k a b c x6 x7) ch=some (.dat (.int (k-i)),ch):=by
 refine aO ?_
 unfold toD d2
 rw [bL (d:=.int k) rfl]
 rfl
def xj {ts:List Tn} {j:Nat} {t:Tn} (h:ts[j]?=some t):ixO (tl ts) (.int j)=some (.dat (td t)):=by
 unfold ixO tl
 simp only [asI,Option.bind_some]
 exact gc (by rw [List.getElem?_map,h];rfl)
def zx {ts:List (Str×Int)} {j:Nat} {t:Str×Int} (h:ts[j]?=some t):ixO (bl ts) (.int j)=some (.dat (bd t)):=by
 unfold ixO bl
 simp only [asI,Option.bind_some]
 exact gc (by rw [List.getElem?_map,h];rfl)
def ql {fe:Fg} {t:Tn} (h:fe (sl P q k a b c x6 x7) ch=some (.dat (td t),ch)):jo fe (ggT 2 (bv (ggN 6) (bv (ggN 7) d7))) (sl P q k a b c x6 x7) ch=some (.nx (sl P q k a b c (some (.dat (.tup [.str t.1.1,.int t.1.2]))) (some (.dat (.int t.2)))) ch):=by
 unfold jo
 rw [h]
 rfl
def lp {t:Tn}:ae (eD (toD (d2 aS (vB 6) (kD (.int 0))))) (ae (eD (toD (d2 aS (vB 6) (kD (.int 1))))) (ae (eD (vL 7)) ar)) (sl P q k a b c (some (.dat (.tup [.str t.1.1,.int t.1.2]))) (some (.dat (.int t.2)))) ch=some ([.dat (.str t.1.1),.dat (.int t.1.2),.dat (.int t.2)],ch):=by
 have e:vB 6 (lo (sl P q k a b c (some (.dat (.tup [.str t.1.1,.int t.1.2]))) (some (.dat (.int t.2)))) ch)=some (.tup [.str t.1.1,.int t.1.2]):=bL rfl
 exact av (aO (by unfold toD d2;rw [e];rfl)) (av (aO (by unfold toD d2;rw [e];rfl)) (av (aO (bz rfl)) rfl))
def wc (h:Hv ch (cs P (stt S w k) R)) (hw:∀ x∈wl q a b c w,x∈R) (ok:Ok G P S) (hv:∀ t∈w.t,vS G t.1) (hh:w.h.length=4) (hb:w.b.length<=10) (ht:w.t.length<=20) (hk:k<w.b.length+w.t.length+2+w.t.length) :
  ∃ ch' P',q30 [.ref P.s,.ref q,.dat (.int k)] ch=some (.dat .non,ch')/\Hv ch' (cs P' (stt S w (k+1)) R)/\P'.s=P.s/\P'.ps=P.ps:=by
 have w0:=gF h hw
 have x1:jo (eV 1) (ggT 3 (bv (ggN 3) (bv (ggN 4) (bv (ggN 5) d7)))) [some (.ref P.s),some (.ref q),some (.dat (.int k)),none,none,none,none,none] ch=some (.nx (sl P q k a b c none none) ch):=by
  unfold jo
  rw [aK rfl,Option.bind_some]
  dsimp only
  rw [un3 w0.q]
  rfl
 unfold q30
 rw [cc]
 show ∃ ch' P',hG (aN _ _ [some (.ref P.s),some (.ref q),some (.dat (.int k)),none,none,none,none,none] ch)=_/\_
 rw [aI,x1,aA]
 have T1:tD (tB2 (gEq false) (vB 2) (kD (.int 0))) (sl P q k a b c none none) ch=some (decide ((k:Int)=0),ch):=lh (by
  have:vB 2 (lo (sl P q k a b c none none) ch)=some (.int k):=bL rfl
  unfold tB2
  unfold d2
  rw [this]
  rfl)
 have T2:fK (e2 (fT fun i j=>decide (i<=j)) (eD (vL 2)) (eB bB (ae (eV 4) ar))) (sl P q k a b c none none) ch=some (decide ((k:Int)<=(w.b.length:Nat)),ch):=iR (e2i k_at (ul w0) rfl)
 have T3:fK (e2 (fT fun i j=>decide (i<=j)) (eD (vL 2)) (e2 bm (eB bB (ae (eV 4) ar)) (eB bB (ae (eV 5) ar)))) (sl P q k a b c none none) ch=some (decide ((k:Int)<=(w.b.length:Nat)+(w.t.length:Nat)),ch):=iR (e2i k_at (e2i (ul w0) (yK w0) rfl) rfl)
 have T4:fK (e2 (gEq false) (eD (vL 2)) (e2 bm (e2 bm (eB bB (ae (eV 4) ar)) (eB bB (ae (eV 5) ar))) (eD (kD (.int 1))))) (sl P q k a b c none none) ch=some (decide ((k:Int)=(w.b.length:Nat)+(w.t.length:Nat)+1),ch):=iR (e2i k_at (e2i (e2i (ul w0) (yK w0) rfl) (aO rfl) rfl) rfl)
 rw [fB,T1]
 by_cases h0:k=0
 · rw [d5 (by simp [h0])]
   have hS:stt S w k=S:=by unfold stt;rw [if_pos h0]
   rw [hS] at h
   obtain ⟨v0,v1,v2,v3,hwh⟩:∃ v0 v1 v2 v3,w.h=[v0,v1,v2,v3]:=by
    match hx:w.h,hh with
    | [v0,v1,v2,v3],_=>exact ⟨v0,v1,v2,v3,rfl⟩
   obtain ⟨ch',n,m,e,H⟩:=tX v0 v1 v2 v3 h
   have la:=w0.a
   rw [hwh] at la
   have ix:∀ (j:Nat) (v:Int),[v0,v1,v2,v3][j]?=some v->eIx (eV 3) (eD (kD (.int j))) (sl P q k a b c none none) ch=some (.dat (.int v),ch):=fun j v hj=>cm (aK rfl) (aO rfl) la (xf hj)
   have i0:eIx (eV 3) (eD (kD (.int 0))) (sl P q k a b c none none) ch=some (.dat (.int v0),ch):=ix 0 v0 rfl
   have i1:eIx (eV 3) (eD (kD (.int 1))) (sl P q k a b c none none) ch=some (.dat (.int v1),ch):=ix 1 v1 rfl
   have i2:eIx (eV 3) (eD (kD (.int 2))) (sl P q k a b c none none) ch=some (.dat (.int v2),ch):=ix 2 v2 rfl
   have i3:eIx (eV 3) (eD (kD (.int 3))) (sl P q k a b c none none) ch=some (.dat (.int v3),ch):=ix 3 v3 rfl
   refine ⟨ch',P.newB (!S.f) n m,?_,?_,?_,?_⟩
   · rw [cq (v:=.dat .non) (ch1:=ch')]
     · rfl
     · rw [eU (aK rfl) (h.at 0 rfl) (by decide +kernel) (av i0 (av i1 (av i2 (av i3 rfl))))]
       exact e
   · have:stt S w (k+1)=S.setP (!S.f) ⟨[v0,v1,v2,v3],[],[]⟩:=by
      unfold stt
      rw [if_neg (by omega),if_pos (by omega),hwh,h0]
      simp
     rw [this]
     exact H
   · cases S.f<;>rfl
   · cases S.f<;>rfl
 rw [d6 (by simp;omega),fB,T2]
 have hS:k<=w.b.length+w.t.length+1->stt S w k=S.setP (!S.f) ⟨w.h,w.b.take (k-1),w.t.take (k-1-w.b.length)⟩:=fun hle=>by unfold stt;rw [if_neg h0,if_pos hle]
 by_cases h1:k<=w.b.length
 · rw [d5 (by simp;omega)]
   rw [hS (by omega)] at h
   obtain ⟨t,hj⟩:∃ t,w.b[k-1]?=some t:=⟨w.b[k-1],gQ (by omega)⟩
   obtain ⟨ch',e,H⟩:=yF (x:=t.1) (v:=t.2) h (by rw [hU,fE];simp only [List.length_take];omega)
   have hi:=zx hj
   rw [show ((k-1:Nat):Int)=(k:Int)-1 by omega] at hi
   have ib:eIx (eV 4) (eD (toD (d2 cu (vB 2) (kD (.int 1))))) (sl P q k a b c none none) ch=some (.dat (bd t),ch):=cm (aK rfl) oM w0.b hi
   refine ⟨ch',P,?_,?_,rfl,rfl⟩
   · rw [cq (v:=.dat .non) (ch1:=ch')]
     · rfl
     · rw [eU (aK rfl) (h.at 0 rfl) (by decide +kernel) (av (p6 (e:=.str t.1) ib (aO rfl) rfl) (av (p6 (e:=.int t.2) ib (aO rfl) rfl) rfl))]
       exact e
   · have:stt S w (k+1)=(S.setP (!S.f) ⟨w.h,w.b.take (k-1),w.t.take (k-1-w.b.length)⟩).setP (!S.f) ⟨w.h,w.b.take (k-1)++[t],w.t.take (k-1-w.b.length)⟩:=by
      unfold stt
      rw [if_neg (by omega),if_pos (by omega),ln,Nat.add_sub_cancel]
      have e1:w.b.take k=w.b.take (k-1)++[t]:=by
       obtain ⟨m,rfl⟩:∃ m,k=m+1:=⟨k-1,by omega⟩
       rw [Nat.add_sub_cancel] at hj ⊢
       rw [List.take_succ,hj]
       rfl
      have e2:k-w.b.length=k-1-w.b.length:=by omega
      rw [e1,e2]
     rw [this]
     rw [hU,fE] at H
     exact H
 rw [d6 (by simp;omega),fB,T3]
 by_cases h2:k<=w.b.length+w.t.length
 · rw [d5 (by simp;omega)]
   rw [hS (by omega)] at h
   obtain ⟨t,hj⟩:∃ t,w.t[k-1-w.b.length]?=some t:=⟨w.t[k-1-w.b.length],gQ (by omega)⟩
   obtain ⟨m,n,_,hn,_⟩:=hv t (List.mem_of_getElem? hj)
   obtain ⟨ch',e,H⟩:=tW (x:=t.1.1) (k:=n) (v:=t.2) h (by rw [hU,fE];simp only [List.length_take];omega)
   rw [<- hn] at e H
   have hi:=xj hj
   rw [show ((k-1-w.b.length:Nat):Int)=(k:Int)-1-(w.b.length:Nat) by omega] at hi
   have ib:eIx (eV 5) (e2 cu (eD (toD (d2 cu (vB 2) (kD (.int 1))))) (eB bB (ae (eV 4) ar))) (sl P q k a b c none none) ch=some (.dat (td t),ch):=cm (aK rfl) (e2i oM (ul w0) rfl) w0.c hi
   refine ⟨ch',P,?_,?_,rfl,rfl⟩
   · rw [aI,ql ib,aA,cq (v:=.dat .non) (ch1:=ch')]
     · rfl
     · rw [eU (aK rfl) (h.at 0 rfl) (by decide +kernel) lp]
       exact e
   · have:stt S w (k+1)=(S.setP (!S.f) ⟨w.h,w.b.take (k-1),w.t.take (k-1-w.b.length)⟩).setP (!S.f) ⟨w.h,w.b.take (k-1),w.t.take (k-1-w.b.length)++[t]⟩:=by
      unfold stt
      rw [if_neg (by omega),if_pos (by omega),ln,Nat.add_sub_cancel]
      have e1:w.t.take (k-w.b.length)=w.t.take (k-1-w.b.length)++[t]:=by
       rw [show k-w.b.length=(k-1-w.b.length)+1 by omega,List.take_succ,hj]
       rfl
      have e2:w.b.take k=w.b.take (k-1):=by rw [List.take_of_length_le (by omega),List.take_of_length_le (by omega)]
      rw [e1,e2]
     rw [this]
     rw [hU,fE] at H
     exact H
 rw [d6 (by simp;omega),fB,T4]
 by_cases h3:k=w.b.length+w.t.length+1
 · rw [d5 (by simp;omega)]
   rw [hS (by omega)] at h
   obtain ⟨ch',e,H⟩:=vX h
   refine ⟨ch',P,?_,?_,rfl,rfl⟩
   · rw [cq (v:=.dat .non) (ch1:=ch')]
     · rfl
     · rw [eU (aK rfl) (h.at 0 rfl) (by decide +kernel) rfl]
       exact e
   · have e0:(⟨w.h,w.b.take (k-1),w.t.take (k-1-w.b.length)⟩:Pg)=w:=by
      rw [List.take_of_length_le (by omega),List.take_of_length_le (by omega)]
     rw [e0,hU] at H
     have:stt S w (k+1)={S.setP (!S.f) w with f:=!S.f}:=by
      unfold stt
      rw [if_neg (by omega),if_neg (by omega),show k+1-(w.b.length+w.t.length+2)=0 by omega,List.take_zero]
      show ({S.setP (!S.f) w with f:=!S.f,hm:=S.hm}:Sta)=_
      rw [<- qk S (!S.f) w]
     rw [this]
     exact H
 rw [d6 (by simp;omega)]
 have hS3:stt S w k={S.setP (!S.f) w with f:=!S.f,hm:=ap (w.t.take (k-(w.b.length+w.t.length+2))) S.hm}:=by
  unfold stt
  rw [if_neg h0,if_neg (by omega)]
 rw [hS3] at h
 obtain ⟨t,hj⟩:∃ t,w.t[k-(w.b.length+w.t.length+2)]?=some t:=⟨w.t[k-(w.b.length+w.t.length+2)],gQ (by omega)⟩
 obtain ⟨ch',e,H⟩:=putS (t:=t) h (ok.ap (S':={S.setP (!S.f) w with f:=!S.f,hm:=ap (w.t.take (k-(w.b.length+w.t.length+2))) S.hm}) rfl rfl) (hv t (List.mem_of_getElem? hj))
 have hi:=xj hj
 rw [show ((k-(w.b.length+w.t.length+2):Nat):Int)=(k:Int)-2-(w.b.length:Nat)-(w.t.length:Nat) by omega] at hi
 have ib:eIx (eV 5) (e2 cu (e2 cu (eD (toD (d2 cu (vB 2) (kD (.int 2))))) (eB bB (ae (eV 4) ar))) (eB bB (ae (eV 5) ar))) (sl P q k a b c none none) ch=some (.dat (td t),ch):=cm (aK rfl) (e2i (e2i oM (ul w0) rfl) (yK w0) rfl) w0.c hi
 refine ⟨ch',P,?_,?_,rfl,rfl⟩
 · rw [aI,ql ib,aA,cq (v:=.dat .non) (ch1:=ch')]
   · rfl
   · rw [eU (aK rfl) (h.at 0 rfl) (by decide +kernel) lp]
     exact e
 · have:stt S w (k+1)={S.setP (!S.f) w with f:=!S.f,hm:=st (ap (w.t.take (k-(w.b.length+w.t.length+2))) S.hm) t.1.1 t.1.2.toNat t.2}:=by
    unfold stt
    rw [if_neg (by omega),if_neg (by omega),show k+1-(w.b.length+w.t.length+2)=(k-(w.b.length+w.t.length+2))+1 by omega,List.take_succ,hj]
    show ({S.setP (!S.f) w with f:=!S.f,hm:=ap (_++[t]) S.hm}:Sta)=_
    rw [v9]
   rw [this]
   exact H
end
structure S7 (P:Pl) (q L B fc:Nat) (δ:Sl):Prop where
 len:δ.length=7
 s0:δ[0]?=some (some (.ref P.s))
 s1:δ[1]?=some (some (.ref q))
 s2:δ[2]?=some (some (.ref L))
 s3:δ[3]?=some (some (.dat (.int B)))
 s4:δ[4]?=some (some (.dat (.int fc)))
def S7.set {P:Pl} {q L B fc i:Nat} {δ:Sl} (h:S7 P q L B fc δ) (hi:5<=i) (x:Option CV):S7 P q L B fc (δ.set i x):=⟨by rw [List.length_set];exact h.len,by rw [gN (by omega)];exact h.s0,by rw [gN (by omega)];exact h.s1,by rw [gN (by omega)];exact h.s2,by rw [gN (by omega)];exact h.s3,by rw [gN (by omega)];exact h.s4⟩
def S7.at {P:Pl} {q L B fc i:Nat} {δ:Sl} (h:S7 P q L B fc δ) (hi:i<7) (x:Option CV):(δ.set i x)[i]?=some x:=List.getElem?_set_self (by rw [h.len];exact hi)
def S7.to {P P':Pl} {q L B fc:Nat} {δ:Sl} (h:S7 P q L B fc δ) (e:P'.s=P.s):S7 P' q L B fc δ:=⟨h.len,by rw [e];exact h.s0,h.s1,h.s2,h.s3,h.s4⟩
section
variable {ch c1:CH} {P:Pl} {S:Sta} {R:List (Nat×CO)} {G:List (Str×Nat)} {δ:Sl} {q a b c k:Nat} {w:Pg}
def um {S:Sta} {w:Pg} {k:Nat} (h:k<w.b.length+w.t.length+1):stt S w (k+1)=S.setP (!S.f) ⟨w.h,w.b.take k,w.t.take (k-w.b.length)⟩:=by
 unfold stt
 rw [if_neg (by omega),if_pos (by omega),Nat.add_sub_cancel]
def yL {S:Sta} {w:Pg} {k:Nat} (h:w.b.length+w.t.length+1<=k):stt S w (k+1)={S.setP (!S.f) w with f:=!S.f,hm:=ap (w.t.take (k+1-(w.b.length+w.t.length+2))) S.hm}:=by
 unfold stt
 rw [if_neg (by omega),if_neg (by omega)]
def we (hs:List Int):gEq true (.tup (hs.map .int)) (.tup (hs.map .int))=some (.leaf (.bl false)):=by
 have e:eqD (.tup (hs.map .int)) (.tup (hs.map .int))=some true:=by
  rw [wT (by
   rw [gw (fun d hd=>by
    obtain ⟨i,_,rfl⟩:=List.mem_map.mp hd
    rfl),decide_eq_true (iG (n:=59) (fun d hd=>by
    obtain ⟨i,_,rfl⟩:=List.mem_map.mp hd
    simp only [eG]
    omega))]
   rfl),peqs_self]
 unfold gEq
 rw [e]
 rfl
def uo (h:Hv ch (cs P S R)) {hs:List Int} (he:(S.pg (!S.f)).h=hs) (hz:hs.length=4) (hq:ch[q]?=some (.lst [.ref a,.ref b,.ref c])) (ha:ch[a]?=some (li hs)) (h0:δ[0]?=some (some (.ref P.s))) (h1:δ[1]?=some (some (.ref q))) :
  ∃ g,fK (e2D 2 (gEq true) (qY (eM "Store" "page" y11 (eV 0) (ae (e2 cu (eD (kD (.int 1))) (eM "Store" "face" y9 (eV 0) ar)) ar)) jf (gz (kD (.int 4)))) (eB fm (ae (eIx (eV 1) (eD (kD (.int 0)))) ar))) δ ch=some (false,ch++g):=by
 have e1:e2 cu (eD (kD (.int 1))) (eM "Store" "face" y9 (eV 0) ar) δ ch=some (.dat (.int (fI (!S.f))),ch):=by
  rw [e2i (aO (d:=.int 1) rfl) (mt h h0) (d:=.int (1-fI S.f)) rfl,show (1-fI S.f)=fI (!S.f) by cases S.f<;>rfl]
 have ep:eM "Store" "page" y11 (eV 0) (ae (e2 cu (eD (kD (.int 1))) (eM "Store" "face" y9 (eV 0) ar)) ar) δ ch=some (.ref (ch.length+3),ch++pgH ch.length (S.pg (!S.f))):=by
  rw [eU (aK h0) (h.at 0 rfl) (by decide +kernel) (av e1 rfl)]
  exact mm (n:=!S.f) h (by rw [he];exact hz)
 obtain ⟨_,_,p3⟩:=oJ ch (S.pg (!S.f)) []
 rw [List.append_nil] at p3
 have gq:=cP (g:=pgH ch.length (S.pg (!S.f))) hq
 have ga:=cP (g:=pgH ch.length (S.pg (!S.f))) ha
 generalize hc1:ch++pgH ch.length (S.pg (!S.f))=c1 at ep p3 gq ga
 rw [he] at p3
 have e3:qY (eM "Store" "page" y11 (eV 0) (ae (e2 cu (eD (kD (.int 1))) (eM "Store" "face" y9 (eV 0) ar)) ar)) jf (gz (kD (.int 4))) δ ch=some (.ref c1.length,c1++[.tup ((hs.map Dt.int).map .dat)]):=by
  unfold qY
  rw [ep,Option.bind_some]
  dsimp only
  rw [show jf (lo δ c1)=some none from rfl,Option.bind_some,show gz (kD (.int 4)) (lo δ c1)=some (some 4) from rfl,Option.bind_some]
  have et:kj c1 (.ref (ch.length+3))=some ((hs.map Dt.int).map .dat++[.ref ch.length,.ref (ch.length+1)]):=by
   unfold kj
   simp only [p3]
  rw [et,Option.bind_some]
  obtain ⟨v0,v1,v2,v3,rfl⟩:∃ v0 v1 v2 v3,hs=[v0,v1,v2,v3]:=by
   match hs,hz with
   | [v0,v1,v2,v3],_=>exact ⟨v0,v1,v2,v3,rfl⟩
  rw [if_neg (by show ¬ (_/\4=6);omega)]
  rfl
 have gq2:=cP (g:=[CO.tup ((hs.map Dt.int).map .dat)]) gq
 have ga2:=cP (g:=[CO.tup ((hs.map Dt.int).map .dat)]) ga
 have gn:(c1++[CO.tup ((hs.map Dt.int).map .dat)])[c1.length]?=some (.tup ((hs.map Dt.int).map .dat)):=bf
 have e4:eB fm (ae (eIx (eV 1) (eD (kD (.int 0)))) ar) δ (c1++[CO.tup ((hs.map Dt.int).map .dat)])=some (.dat (.tup (hs.map .int)),c1++[CO.tup ((hs.map Dt.int).map .dat)]):=by
  rw [lg (av (cm (aK h1) (aO (d:=.int 0) rfl) gq2 (x:=.ref a) rfl) rfl) (ds:=[.lst (hs.map .int)]) (by simp only [vws,xg ga2,Option.bind_some,Option.map_some]) (t:=.leaf (.tup (hs.map .int))) rfl]
  rfl
 have vd:vwD (c1++[CO.tup ((hs.map Dt.int).map .dat)]) 2 (.ref c1.length)=some (.tup (hs.map .int)):=by
  simp only [vwD,gn,d8,Option.map_some]
 refine ⟨pgH ch.length (S.pg (!S.f))++[CO.tup ((hs.map Dt.int).map .dat)],?_⟩
 rw [iR (oK e3 e4 vd rfl (we hs)),<- List.append_assoc,hc1]
def up {L a' b' c' B:Nat} {last:Pg} (h:Hv ch (cs P (stt S w k) R)) (hw:∀ x∈wl q a b c w,x∈R) (hl:∀ x∈wl L a' b' c' last,x∈R) (ok:Ok G P S) (hv:∀ t∈w.t,vS G t.1) (hh:w.h.length=4) (hlh:last.h.length=4) (el:S.pg S.f=last) (hb:w.b.length<=10) (ht:w.t.length<=20) (hk:k<w.b.length+w.t.length+2+w.t.length)
  (hδ:S7 P q L B (w.b.length+w.t.length+1) δ):∃ δ2 ch2 P',q27 (δ.set 5 (some (.dat (.int k)))) ch=some (.nx δ2 ch2)/\Hv ch2 (cs P' (stt S w (k+1)) R)/\P'.s=P.s/\P'.ps=P.ps/\S7 P q L B (w.b.length+w.t.length+1) δ2:=by
 have q5:=hδ.set (i:=5) (by decide) (some (.dat (.int k)))
 have t5:=hδ.at (i:=5) (by decide) (some (.dat (.int k)))
 generalize δ.set 5 (some (.dat (.int k)))=δ0 at q5 t5
 obtain ⟨c1,P',e1,H1,hs,hp⟩:=wc h hw ok hv hh hb ht hk
 have x1:cb (eC q30 (ae (eV 0) (ae (eV 1) (ae (eD (vL 5)) ar)))) δ0 ch=some (.nx δ0 c1):=cq ((fW (g:=q30) (av (aK q5.s0) (av (aK q5.s1) (av (aO (bz t5)) rfl)))).trans e1)
 have x2:=bA (i:=6) (fa:=eV 2) (ch:=c1) (aK q5.s2)
 have q6:=q5.set (i:=6) (by decide) (some (.ref L))
 have t6:=q5.at (i:=6) (by decide) (some (.ref L))
 have t65:(δ0.set 6 (some (.ref L)))[5]?=some (some (.dat (.int k))):=by rw [gN (by decide)];exact t5
 generalize δ0.set 6 (some (CV.ref L))=δ1 at x2 q6 t6 t65
 have T1:∀ (δ:Sl) (c:CH),δ[5]?=some (some (.dat (.int k)))->δ[4]?=some (some (.dat (.int ((w.b.length+w.t.length+1:Nat):Int))))->tD (tB2 (fT fun i j=>decide (j<=i)) (vB 5) (vB 4)) δ c=some (decide (((w.b.length+w.t.length+1:Nat):Int)<=k),c):=fun δ c g5 g4=>lh (by
  unfold tB2 d2
  rw [bL g5,bL g4]
  rfl)
 have T2:∀ (δ:Sl) (c:CH),δ[5]?=some (some (.dat (.int k)))->δ[4]?=some (some (.dat (.int ((w.b.length+w.t.length+1:Nat):Int))))->tD (tB2 (fT fun i j=>decide (i<j)) (vB 5) (vB 4)) δ c=some (decide ((k:Int)<((w.b.length+w.t.length+1:Nat):Int)),c):=fun δ c g5 g4=>lh (by
  unfold tB2 d2
  rw [bL g5,bL g4]
  rfl)
 unfold q27
 rw [aI,x1,aA,aI,x2,aA,aI,fB,T1 _ _ t65 q6.s4]
 by_cases hf:k<w.b.length+w.t.length+1
 · have eS:=um (S:=S) hf
   rw [d6 (by simp;omega),show dh δ1 c1=some (.nx δ1 c1) from rfl,aA]
   have ef:(stt S w (k+1)).f=S.f:=by rw [eS,hU]
   obtain ⟨g,e2⟩:=gx H1 hlh (gF H1 hl) (by
    rw [ef,eS]
    have:=nH S (!S.f) ⟨w.h,w.b.take k,w.t.take (k-w.b.length)⟩
    rw [Bool.not_not] at this
    rw [this]
    exact el)
   rw [hs] at e2
   have H2:=H1.app g
   have w2:=(gF H1 hw).old g
   obtain ⟨g',e3⟩:=uo (δ:=δ1) H2 (hs:=w.h) (by
    rw [ef,eS,fE]) hh w2.q w2.a (by rw [hs];exact q6.s0) q6.s1
   refine ⟨δ1,c1++g++g',P',?_,H2.app g',hs,hp,q6⟩
   rw [aI,kc (by rw [jz ((fW (g:=z12) (av (aK q6.s0) (av (aK t6) rfl))).trans e2)];rfl),aA]
   refine kc ?_
   unfold m7
   rw [T2 _ _ t65 q6.s4,Option.bind_some]
   dsimp only
   rw [if_pos (by simp;omega)]
   exact e3
 · have eS:=yL (S:=S) (w:=w) (k:=k) (by omega)
   rw [d5 (by simp;omega)]
   have x3:=bA (i:=6) (fa:=eV 1) (ch:=c1) (aK q6.s1)
   have q7:=q6.set (i:=6) (by decide) (some (.ref q))
   have t7:=q6.at (i:=6) (by decide) (some (.ref q))
   have t75:(δ1.set 6 (some (.ref q)))[5]?=some (some (.dat (.int k))):=by rw [gN (by decide)];exact t65
   generalize δ1.set 6 (some (CV.ref q))=δ2 at x3 q7 t7 t75
   rw [x3,aA]
   obtain ⟨g,e2⟩:=gx H1 hh (gF H1 hw) (by
    rw [eS]
    exact fE S (!S.f) w)
   rw [hs] at e2
   refine ⟨δ2,c1++g,P',?_,H1.app g,hs,hp,q7⟩
   rw [aI,kc (by rw [jz ((fW (g:=z12) (av (aK q7.s0) (av (aK t7) rfl))).trans e2)];rfl),aA]
   refine kc ?_
   unfold m7
   rw [T2 _ _ t75 q7.s4,Option.bind_some]
   dsimp only
   rw [if_neg (by simp;omega)]
end
section
variable {ch c1:CH} {P:Pl} {S:Sta} {R:List (Nat×CO)} {G:List (Str×Nat)} {δ:Sl} {q a b c k:Nat} {w:Pg}
def uq {L a' b' c' B:Nat} {last:Pg} (hw:∀ x∈wl q a b c w,x∈R) (hl:∀ x∈wl L a' b' c' last,x∈R) (hv:∀ t∈w.t,vS G t.1) (hh:w.h.length=4) (hlh:last.h.length=4) (el:S.pg S.f=last) (hb:w.b.length<=10) (ht:w.t.length<=20) (n:Nat) :
  ∀ {k:Nat} {δ:Sl} {ch:CH} {P:Pl},Hv ch (cs P (stt S w k) R)->Ok G P S->k+n<=w.b.length+w.t.length+2+w.t.length->S7 P q L B (w.b.length+w.t.length+1) δ->∃ δ2 ch2 P',dw [5] (am 5) q27 ((List.range' k n).map fun i:Nat=>.int (i:Int)) δ ch=some (.nx δ2 ch2)/\Hv ch2 (cs P' (stt S w (k+n)) R)/\P'.s=P.s/\P'.ps=P.ps/\S7 P q L B (w.b.length+w.t.length+1) δ2:=by
 induction n with
 | zero =>
  intro k δ ch P h ok hk hδ
  exact ⟨δ,ch,P,rfl,h,rfl,rfl,hδ⟩
 | succ n ih =>
  intro k δ ch P h ok hk hδ
  obtain ⟨δ1,c1,P1,e1,h1,hs,hp,q1⟩:=up h hw hl ok hv hh hlh el hb ht (by omega) hδ
  obtain ⟨δ2,c2,P2,e2,h2,hs2,hp2,q2⟩:=ih h1 (ok.to rfl hp) (by omega) (q1.to hs)
  refine ⟨δ2,c2,P2,?_,by rw [show k+(n+1)=k+1+n by omega];exact h2,hs2.trans hs,hp2.trans hp,q2.to hs.symm⟩
  rw [List.range'_succ,List.map_cons,ml (by rw [hδ.len];decide) e1,e2]
def oN {fa:Fg} {j:Nat} {ds:List Dt} (h1:fa δ ch=some (.ref j,ch)) (h2:ch[j]?=some (.lst (ds.map .dat))):eB bB (ae fa ar) δ ch=some (.dat (.int (ds.length:Nat)),ch):=by
 rw [lg (av h1 rfl) (ds:=[.lst ds]) (by simp only [vws,p9 h2,Option.bind_some,Option.map_some]) (t:=.leaf (.int (ds.length:Nat))) rfl]
 rfl
def lenB {i:Nat} (w0:At ch q a b c w) (h1:δ[i]?=some (some (.ref q))):eB bB (ae (eIx (eV i) (eD (kD (.int 1)))) ar) δ ch=some (.dat (.int (w.b.length:Nat)),ch):=by
 have:=oN (δ:=δ) (ds:=w.b.map bd) (cm (aK h1) (aO (fd:=kD (.int 1)) (d:=.int 1) rfl) w0.q (x:=.ref b) rfl) (by rw [<- nr];exact w0.b)
 rw [List.length_map] at this
 exact this
def yM {i:Nat} (w0:At ch q a b c w) (h1:δ[i]?=some (some (.ref q))):eB bB (ae (eIx (eV i) (eD (kD (.int 2)))) ar) δ ch=some (.dat (.int (w.t.length:Nat)),ch):=by
 have:=oN (δ:=δ) (ds:=w.t.map td) (cm (aK h1) (aO (fd:=kD (.int 2)) (d:=.int 2) rfl) w0.q (x:=.ref c) rfl) (by rw [<- oH];exact w0.c)
 rw [List.length_map] at this
 exact this
def oO {L a' b' c' B:Nat} {last:Pg} (h:Hv ch (cs P S R)) (hw:∀ x∈wl q a b c w,x∈R) (hl:∀ x∈wl L a' b' c' last,x∈R) (ok:Ok G P S) (hv:∀ t∈w.t,vS G t.1) (hh:w.h.length=4) (hlh:last.h.length=4) (el:S.pg S.f=last) (hb:w.b.length<=10) (ht:w.t.length<=20) :
  ∃ ch' P',q19 [.ref P.s,.ref q,.ref L,.dat (.int B)] ch=some (.ref (if w.b.length+w.t.length+1<B then q else L),ch')/\Hv ch' (cs P' (stt S w (min B (w.b.length+w.t.length+2+w.t.length))) R)/\P'.s=P.s/\P'.ps=P.ps:=by
 have w0:=gF h hw
 have x1:bG 4 (e2 bm (e2 bm (eB bB (ae (eIx (eV 1) (eD (kD (.int 1)))) ar)) (eB bB (ae (eIx (eV 1) (eD (kD (.int 2)))) ar))) (eD (kD (.int 1)))) [some (.ref P.s),some (.ref q),some (.ref L),some (.dat (.int B)),none,none,none] ch=some (.nx [some (.ref P.s),some (.ref q),some (.ref L),some (.dat (.int B)),some (.dat (.int ((w.b.length+w.t.length+1:Nat):Int))),none,none] ch):=by
  rw [bA (e2i (e2i (lenB w0 rfl) (yM w0 rfl) rfl) (aO (d:=.int 1) rfl) (d:=.int ((w.b.length:Nat)+(w.t.length:Nat)+1)) rfl)]
  rw [show ((w.b.length:Nat):Int)+(w.t.length:Nat)+1=((w.b.length+w.t.length+1:Nat):Int) by omega]
  rfl
 have q0:S7 P q L B (w.b.length+w.t.length+1) [some (.ref P.s),some (.ref q),some (.ref L),some (.dat (.int B)),some (.dat (.int ((w.b.length+w.t.length+1:Nat):Int))),none,none]:=⟨rfl,rfl,rfl,rfl,rfl,rfl⟩
 generalize ([some (.ref P.s),some (.ref q),some (.ref L),some (.dat (.int B)),some (.dat (.int ((w.b.length+w.t.length+1:Nat):Int))),none,none]:Sl)=δ0 at x1 q0
 have hm:eB iA (ae (eD (vL 3)) (ae (e2 bm (eD (toD (d2 bm (vB 4) (kD (.int 1))))) (eB bB (ae (eIx (eV 1) (eD (kD (.int 2)))) ar))) ar)) δ0 ch=some (.dat (.int ((min B (w.b.length+w.t.length+2+w.t.length):Nat):Int)),ch):=by
  have e4:eD (toD (d2 bm (vB 4) (kD (.int 1)))) δ0 ch=some (.dat (.int (((w.b.length+w.t.length+1:Nat):Int)+1)),ch):=aO (by
   unfold toD d2
   rw [bL q0.s4]
   rfl)
  rw [lg (av (aO (bz q0.s3)) (av (e2i e4 (yM w0 q0.s1) rfl) rfl)) (ds:=[.int B,.int (((w.b.length+w.t.length+1:Nat):Int)+1+(w.t.length:Nat))]) rfl (t:=.leaf (.int (if ((w.b.length+w.t.length+1:Nat):Int)+1+(w.t.length:Nat)<(B:Int) then ((w.b.length+w.t.length+1:Nat):Int)+1+(w.t.length:Nat) else (B:Int)))) rfl]
  have e:(if ((w.b.length+w.t.length+1:Nat):Int)+1+(w.t.length:Nat)<(B:Int) then ((w.b.length+w.t.length+1:Nat):Int)+1+(w.t.length:Nat) else (B:Int))=((min B (w.b.length+w.t.length+2+w.t.length):Nat):Int):=by
   split<;>omega
  rw [e]
  rfl
 have hS:stt S w 0=S:=by unfold stt;rw [if_pos rfl]
 obtain ⟨δ2,c2,P2,ef,h2,hs,hp,q2⟩:=uq (B:=B) hw hl hv hh hlh el hb ht (min B (w.b.length+w.t.length+2+w.t.length)) (k:=0) (by rw [hS];exact h) ok (by omega) q0
 rw [Nat.zero_add] at h2
 have x2:j5 (ae (eB iA (ae (eD (vL 3)) (ae (e2 bm (eD (toD (d2 bm (vB 4) (kD (.int 1))))) (eB bB (ae (eIx (eV 1) (eD (kD (.int 2)))) ar))) ar))) ar) [5] (am 5) q27 δ0 ch=some (.nx δ2 c2):=by
  unfold j5
  rw [av hm rfl,Option.bind_some]
  dsimp only
  have hr:il ((min B (w.b.length+w.t.length+2+w.t.length):Nat):Int)=true:=by
   unfold il
   simp only [Bool.and_eq_true,decide_eq_true_eq]
   omega
  rw [if_pos hr,Int.toNat_natCast,gb]
  exact ef
 have T:tD (tB2 (fT fun i j=>decide (j<i)) (vB 3) (vB 4)) δ2 c2=some (decide (((w.b.length+w.t.length+1:Nat):Int)<B),c2):=lh (by
  unfold tB2 d2
  rw [bL q2.s3,bL q2.s4]
  rfl)
 refine ⟨c2,P2,?_,h2,hs,hp⟩
 unfold q19
 rw [cc]
 show hG (aN _ _ [some (.ref P.s),some (.ref q),some (.ref L),some (.dat (.int B)),none,none,none] ch)=_
 rw [aI,x1,aA,aI,x2,aA,aI,fB,T]
 by_cases hf:w.b.length+w.t.length+1<B
 · rw [d5 (by simp;omega),dg (aK q2.s1),if_pos hf]
   rfl
 · rw [d6 (by simp;omega),show dh δ2 c2=some (.nx δ2 c2) from rfl,aA,dg (aK q2.s2),if_neg hf]
   rfl
structure S5 (P:Pl) (δ:Sl):Prop where
 len:δ.length=5
 s0:δ[0]?=some (some (.ref P.s))
def S5.set {P:Pl} {i:Nat} {δ:Sl} (h:S5 P δ) (hi:1<=i) (x:Option CV):S5 P (δ.set i x):=⟨by rw [List.length_set];exact h.len,by rw [gN (by omega)];exact h.s0⟩
def sd (t:Tn):Dt×Dt:=(.tup [.str t.1.1,.int t.1.2],.int t.2)
def iW {i j:Nat} {g:Fs} {δ δ2:Sl} {ch ch2:CH} {a b:Dt} {r:List Dt} (hij:i≠j) (hi:i<δ.length) (hj:j<δ.length) (e:g ((δ.set i (some (.dat a))).set j (some (.dat b))) ch=some (.nx δ2 ch2)) :
  dw [i,j] (cf 2 (aH (am i) (aH (am j) ce))) g (.tup [a,b]::r) δ ch=dw [i,j] (cf 2 (aH (am i) (aH (am j) ce))) g r δ2 ch2:=by
 show ((cf 2 (aH (am i) (aH (am j) ce)) (.tup [a,b]) (lo δ ch)).bind fun δ1=>(g (mgS [i,j] δ δ1) ch).bind fun o=>_)=_
 rw [show cf 2 (aH (am i) (aH (am j) ce)) (.tup [a,b]) (lo δ ch)=some (((lo δ ch).set i (some (.leaf a))).set j (some (.leaf b))) from rfl,Option.bind_some,mgS2 hij hi hj,e]
 rfl
def wf (ts:List Tn):∀ {δ:Sl} {ch:CH} {S:Sta},Hv ch (cs P S R)->Ok G P S->(∀ t∈ts,vS G t.1)->S5 P δ->∃ δ2 ch2,dw [3,4] (cf 2 (aH (am 3) (aH (am 4) ce))) y33 (ts.map td) δ ch=some (.nx δ2 ch2)/\Hv ch2 (cs P {S with hm:=ap ts S.hm} R):=by
 induction ts with
 | nil =>
  intro δ ch S h ok hv hδ
  exact ⟨δ,ch,rfl,h⟩
 | cons t ts ih =>
  intro δ ch S h ok hv hδ
  obtain ⟨c1,e1,h1⟩:=putS (t:=t) h ok (hv t (by simp))
  have q':=(hδ.set (i:=3) (by decide) (some (.dat (sd t).1))).set (i:=4) (by decide) (some (.dat (sd t).2))
  have t3:((δ.set 3 (some (.dat (sd t).1))).set 4 (some (.dat (sd t).2)))[3]?=some (some (.dat (sd t).1)):=by rw [gN (by decide),List.getElem?_set_self (by rw [hδ.len];decide)]
  have t4:((δ.set 3 (some (.dat (sd t).1))).set 4 (some (.dat (sd t).2)))[4]?=some (some (.dat (sd t).2)):=List.getElem?_set_self (by rw [List.length_set,hδ.len];decide)
  obtain ⟨δ2,c2,e2,h2⟩:=ih h1 (ok.ap (ts:=[t]) (S':={S with hm:=st S.hm t.1.1 t.1.2.toNat t.2}) rfl rfl) (fun z hz=>hv z (by simp [hz])) q'
  refine ⟨δ2,c2,?_,h2⟩
  rw [List.map_cons,<- e2]
  refine iW (a:=(sd t).1) (b:=(sd t).2) (by decide) (by rw [hδ.len];decide) (by rw [hδ.len];decide) ?_
  unfold y33
  refine cq (v:=.dat .non) ?_
  rw [eU (aK q'.s0) (h.at 0 rfl) (by decide +kernel) (av (x:=.dat (.str t.1.1)) (aO (by unfold toD d2;rw [bL t3];rfl)) (av (x:=.dat (.int t.1.2)) (aO (by unfold toD d2;rw [bL t3];rfl)) (av (aO (bz t4)) rfl)))]
  exact e1
def ke {m:Nat} {p:Pg} (h:Hv ch (cs P S R)) (ok:Ok G P S) (e:S.pg S.f=p) (hz:p.h.length=4) (hv:∀ t∈p.t,vS G t.1):∃ ch',y12 [.ref P.s,.dat (.int m)] ch=some (.dat .non,ch')/\Hv ch' (cs P {S with hm:=ap (p.t.take m) S.hm} R):=by
 have e2:eM "Store" "page" y11 (eV 0) (ae (eM "Store" "face" y9 (eV 0) ar) ar) [some (.ref P.s),some (.dat (.int m)),none,none,none] ch=some (.ref (ch.length+3),ch++pgH ch.length p):=by
  rw [eU (aK rfl) (h.at 0 rfl) (by decide +kernel) (av (mt h rfl) rfl)]
  have:=mm (n:=S.f) h (by rw [e];exact hz)
  rw [e] at this
  exact this
 obtain ⟨_,p2,p3⟩:=oJ ch p []
 rw [List.append_nil] at p2 p3
 have H:=h.app (pgH ch.length p)
 generalize hc1:ch++pgH ch.length p=c1 at e2 p2 p3 H
 have hx5:((p.h.map Dt.int).map CV.dat++[.ref ch.length,.ref (ch.length+1)])[5]?=some (.ref (ch.length+1)):=by
  rw [List.getElem?_append_right (by simp [hz])]
  simp [hz]
 have x1:=bA (i:=2) (cm e2 (fb:=eD (kD (.int 5))) (aO rfl) p3 (show ixO (.tup _) (.int 5)=_ from gc (k:=5) hx5))
 have hne:ch.length+1≠P.s:=fun z=>by
  have:=h.lt (x:=(P.s,so P S)) (.head _)
  simp only at this
  omega
 have ev:vB 2 (lo [some (.ref P.s),some (.dat (.int m)),some (.ref (ch.length+1)),none,none] c1)=some (.lst (p.t.map td)):=by
  have e:(lo [some (.ref P.s),some (.dat (.int m)),some (.ref (ch.length+1)),none,none] c1)[2]?=some (some (.lst (p.t.map td))):=by
   unfold lo
   simp only [loA,List.getElem?_cons_succ,List.getElem?_cons_zero]
   rw [if_neg (by simp [hne]),p2,oH]
   simp only [Option.bind_some,tvO,j7,Option.map_some]
  unfold vB
  rw [e]
  rfl
 have ei:fIt (toD (vSl (vB 2) jf (gz (vB 1)))) (lo [some (.ref P.s),some (.dat (.int m)),some (.ref (ch.length+1)),none,none] c1)=some ((p.t.take m).map td):=by
  have e1:vB 1 (lo [some (.ref P.s),some (.dat (.int m)),some (.ref (ch.length+1)),none,none] c1)=some (.int m):=bL rfl
  unfold fIt toD vSl
  rw [ev]
  unfold gz
  rw [e1]
  show (((gSl (.lst (p.t.map td)) none (some (m:Int))).map T.d).bind _)=_
  have:gSl (.lst (p.t.map td)) none (some (m:Int))=some (.lst ((p.t.take m).map td)):=by
   show some (T.lst (L2.vc (p.t.map td) none (some (m:Int))))=_
   unfold L2.vc
   rw [HT.zb,HT.zC,List.drop_zero,Nat.sub_zero,List.length_map,List.map_take]
   congr 2
   by_cases hl:m<=p.t.length
   · rw [Nat.min_eq_left hl]
   · rw [Nat.min_eq_right (by omega),List.take_of_length_le (by rw [List.length_map];omega),List.take_of_length_le (by rw [List.length_map];omega)]
  rw [this]
  rfl
 obtain ⟨δ2,c2,ef,h2⟩:=wf (p.t.take m) (δ:=[some (.ref P.s),some (.dat (.int m)),some (.ref (ch.length+1)),none,none]) H ok (fun t ht=>hv t (List.mem_of_mem_take ht)) ⟨rfl,rfl⟩
 refine ⟨c2,?_,h2⟩
 unfold y12
 rw [cc]
 show hG (aN _ _ [some (.ref P.s),some (.dat (.int m)),none,none,none] ch)=_
 rw [aI,x1,aA]
 unfold de
 show hG ((fIt (toD (vSl (vB 2) jf (gz (vB 1)))) (lo [some (.ref P.s),some (.dat (.int m)),some (.ref (ch.length+1)),none,none] c1)).bind fun ds=>dw [3,4] (cf 2 (aH (am 3) (aH (am 4) ce))) y33 ds [some (.ref P.s),some (.dat (.int m)),some (.ref (ch.length+1)),none,none] c1)=_
 rw [ei,Option.bind_some,ef]
 rfl
def iX {A B:List (Nat×CO)}:cs P S (A++B)=cs P S A++B:=by
 unfold cs
 simp only [List.cons_append,List.append_assoc]
def cs_mid {a:Nat×CO}:(cs P S (a::R)).Perm (a::cs P S R):=by
 have e1:cs P S (a::R)=cs P S []++a::R:=iX (A:=[]) (B:=a::R)
 have e2:cs P S R=cs P S []++R:=iX (A:=[]) (B:=R)
 rw [e1,e2]
 exact List.perm_middle
def qm {D:Nat} (h:Hv ch (cs P S ((D,.dT (dTm S.hm))::R))) (ok:Ok G P S):∃ ch',q17 [.ref P.s,.ref D] ch=some (.dat (.bl true),ch')/\Hv ch' (cs P S ((D,.dT (dTm S.hm))::R)):=by
 have hF:=h.perm cs_mid
 have hw:=hF.set 0 rfl (.wt (dTm S.hm))
 have hD:=hF.at 0 rfl
 have ek:(dTm S.hm).map (fun q=>fC q.1)=((dTm S.hm).map fun q=>kp q.1).map fun d=>.tup [d.1,d.2]:=by
  rw [List.map_map]
  refine List.map_congr_left fun q hq=>?_
  obtain ⟨m,vs,j,v,rfl,_⟩:=jy ok.nds hq
  rfl
 obtain ⟨δ2,ch2,e,h2,h3⟩:=nz (i:=2) (j:=3) (g:=z34) (I:=fun δ c=>(δ.length=4/\δ[0]?=some (some (.ref P.s))/\δ[1]?=some (some (.ref D)))/\Hv c ((D,.wt (dTm S.hm))::cs P S R)) (by decide) (fun δ c q=>by rw [q.1.1];decide) (ds:=(dTm S.hm).map fun q=>kp q.1) (δ:=[some (.ref P.s),some (.ref D),none,none]) (ch:=ch.set D (.wt (dTm S.hm))) (fun d hd δ' c ⟨⟨q1,q2,q3⟩,hc⟩=>by
     obtain ⟨y,hy,rfl⟩:=List.mem_map.mp hd
     obtain ⟨m,vs,j,v,rfl,hx,hv,_⟩:=jy ok.nds hy
     have r0:((δ'.set 2 (some (.dat (.str m)))).set 3 (some (.dat (.int j))))[0]?=some (some (.ref P.s)):=by rw [gN (by decide),gN (by decide)];exact q2
     have r1:((δ'.set 2 (some (.dat (.str m)))).set 3 (some (.dat (.int j))))[1]?=some (some (.ref D)):=by rw [gN (by decide),gN (by decide)];exact q3
     have s2:((δ'.set 2 (some (.dat (.str m)))).set 3 (some (.dat (.int j))))[2]?=some (some (.dat (.str m))):=by rw [gN (by decide),List.getElem?_set_self (by rw [q1];decide)]
     have s3:((δ'.set 2 (some (.dat (.str m)))).set 3 (some (.dat (.int j))))[3]?=some (some (.dat (.int j))):=List.getElem?_set_self (by rw [List.length_set,q1];decide)
     refine ⟨(δ'.set 2 (some (.dat (.str m)))).set 3 (some (.dat (.int j))),c,?_,⟨by rw [List.length_set,List.length_set];exact q1,r0,r1⟩,hc⟩
     show z34 ((δ'.set 2 (some (.dat (.str m)))).set 3 (some (.dat (.int j)))) c=_
     have hcs:Hv c (cs P S R):=hc.sub (List.sublist_cons_self _ _)
     have f1:eM "Store" "get_home" z20 (eV 0) (ae (eD (vL 2)) (ae (eD (vL 3)) ar)) ((δ'.set 2 (some (.dat (.str m)))).set 3 (some (.dat (.int j)))) c=some (.dat (.int v),c):=by
      rw [eU (aK r0) (hcs.at 0 rfl) (by decide +kernel) (av (aO (bz s2)) (av (aO (bz s3)) rfl))]
      exact yB hcs ok.len hx hv
     have f2:qV (eV 1) (ae (eD (vL 2)) (ae (eD (vL 3)) ar)) ((δ'.set 2 (some (.dat (.str m)))).set 3 (some (.dat (.int j)))) c=some (.dat (.int v),c):=
      vZ (aK r1) (av (aO (bz s2)) (av (aO (bz s3)) rfl)) (hc.at 0 rfl) rfl (ks:=[.inr m,.inl (j:Int)]) rfl (oI hx hv) (by simp)
     unfold z34
     exact kc (iR (e2i (d:=.bl false) f1 f2 (by unfold gEq;rw [zo,decide_eq_true rfl];rfl)))) ⟨⟨rfl,rfl,rfl⟩,hw⟩
 have hwt:ch2[D]?=some (.wt (dTm S.hm)):=h3.at 0 rfl
 have x1:jZ (eV 1) [2,3] (cf 2 (aH (am 2) (aH (am 3) ce))) z34 [some (.ref P.s),some (.ref D),none,none] ch=some (.nx δ2 (ch2.set D (.dT (dTm S.hm)))):=by
  unfold jZ
  rw [aK rfl]
  simp only [Option.bind_some,hD]
  rw [ek,e]
  simp only [Option.bind_some,w6,ki,hwt,Option.map_some]
 refine ⟨ch2.set D (.dT (dTm S.hm)),?_,(h3.set 0 rfl (.dT (dTm S.hm))).perm cs_mid.symm⟩
 unfold q17
 rw [cc]
 show hG (aN _ _ [some (.ref P.s),some (.ref D),none,none] ch)=_
 rw [aI,x1,aA]
 rfl
end
def qo {i j:Int} (h0:0<j) (h1:j<18446744073709551616):fV (.int i) (.int j)=some (.leaf (.int (i/j))):=if_pos ⟨h0,h1⟩
def wg:wide<18446744073709551616:=by rw [lU];decide
section
variable {x y:Int} {n:Int} {f:Bool} {l:List Dt} {z5 z6:Option T}
def rk {k:Nat} (hk:k<=100) (hl:l.length<100):∃ (v y':Int) (z6':Option T),z28 [some (.leaf (.int x)),some (.leaf (.int n)),some (.leaf (.bl f)),some (.lst l),some (.leaf (.int y)),some (.leaf (.int k)),z6]=some (.nx [some (.leaf (.int x)),some (.leaf (.int n)),some (.leaf (.bl f)),some (.lst (l++[.int v])),some (.leaf (.int y')),some (.leaf (.int k)),z6']):=by
 have hsz:l.length<sizeLine:=Nat.lt_of_lt_of_le hl (by decide)
 cases f
 · have m0:=Int.emod_nonneg x (show (2147483647:Int)≠0 by decide)
   have m1:=Int.emod_lt_of_pos x (show (0:Int)<2147483647 by decide)
   have hm:∃ m:Int,toD (d2 bU (toD (d2 bm (toD (d2 bm (toD (d2 cp (toD (d2 bU (vB 0) (kD (.int 2147483647)))) (kD (.int 48271)))) (toD (d2 cp (kD (.int 7919)) (vB 5))))) (kD (.int 1)))) (kD (.int 2147483629))) [some (.leaf (.int x)),some (.leaf (.int n)),some (.leaf (.bl false)),some (.lst l),some (.leaf (.int y)),some (.leaf (.int k)),z6]=some (.int m)/\0<=m/\m<2147483629:=by
    refine ⟨(x%2147483647*48271+7919*k+1)%2147483629,?_,Int.emod_nonneg _ (by decide),Int.emod_lt_of_pos _ (by decide)⟩
    walk_at "d"
   obtain ⟨m,em,h0,h1⟩:=hm
   have hv:∃ v:Int,toD (d2 bm (toD (d2 bU (toD (d2 cp (toD (d2 bU (toD (d2 cp (vB 6) (vB 6))) (kD (.int 2147483587)))) (kD (.int 512)))) (toD (d2 im (kD (.int 2)) (kD (.int 40)))))) (toD (d2 bU (vB 6) (kD (.int 512))))) [some (.leaf (.int x)),some (.leaf (.int n)),some (.leaf (.bl false)),some (.lst l),some (.leaf (.int y)),some (.leaf (.int k)),some (.leaf (.int m))]=some (.int v):=by
    refine ⟨m*m%2147483587*512%wide+m%512,?_⟩
    walk_at "d"
    rw [jU (by omega) (by omega)]
    walk_at "d"
   obtain ⟨v,ev⟩:=hv
   refine ⟨v,y,some (.leaf (.int m)),?_⟩
   unfold z28
   rw [wV,show sv (vB 2) [some (.leaf (.int x)),some (.leaf (.int n)),some (.leaf (.bl false)),some (.lst l),some (.leaf (.int y)),some (.leaf (.int k)),z6]=some false from rfl,vm,dA]
   have s1:cX 6 (toT (toD (d2 bU (toD (d2 bm (toD (d2 bm (toD (d2 cp (toD (d2 bU (vB 0) (kD (.int 2147483647)))) (kD (.int 48271)))) (toD (d2 cp (kD (.int 7919)) (vB 5))))) (kD (.int 1)))) (kD (.int 2147483629))))) [some (.leaf (.int x)),some (.leaf (.int n)),some (.leaf (.bl false)),some (.lst l),some (.leaf (.int y)),some (.leaf (.int k)),z6]=some (.nx [some (.leaf (.int x)),some (.leaf (.int n)),some (.leaf (.bl false)),some (.lst l),some (.leaf (.int y)),some (.leaf (.int k)),some (.leaf (.int m))]):=by
    unfold cX toT
    rw [em]
    rfl
   rw [s1,b7]
   unfold z27
   simp only [List.getElem?_cons_zero,List.getElem?_cons_succ]
   rw [ev,Option.bind_some,if_pos hsz]
   rfl
 · refine ⟨y%wide,y/wide,z6,?_⟩
   have ev:toD (d2 bU (vB 4) (toD (d2 im (kD (.int 2)) (kD (.int 40))))) [some (.leaf (.int x)),some (.leaf (.int n)),some (.leaf (.bl true)),some (.lst l),some (.leaf (.int y)),some (.leaf (.int k)),z6]=some (.int (y%wide)):=by
    walk_at "d"
   unfold z28
   rw [wV,show sv (vB 2) [some (.leaf (.int x)),some (.leaf (.int n)),some (.leaf (.bl true)),some (.lst l),some (.leaf (.int y)),some (.leaf (.int k)),z6]=some true from rfl,vk,dA]
   have s1:z27 3 (toD (d2 bU (vB 4) (toD (d2 im (kD (.int 2)) (kD (.int 40)))))) [some (.leaf (.int x)),some (.leaf (.int n)),some (.leaf (.bl true)),some (.lst l),some (.leaf (.int y)),some (.leaf (.int k)),z6]=some (.nx [some (.leaf (.int x)),some (.leaf (.int n)),some (.leaf (.bl true)),some (.lst (l++[.int (y%wide)])),some (.leaf (.int y)),some (.leaf (.int k)),z6]):=by
    unfold z27
    simp only [List.getElem?_cons_zero,List.getElem?_cons_succ]
    rw [ev,Option.bind_some,if_pos hsz]
    rfl
   rw [s1,b7]
   have e2:toD (d2 fV (vB 4) (toD (d2 im (kD (.int 2)) (kD (.int 40))))) [some (.leaf (.int x)),some (.leaf (.int n)),some (.leaf (.bl true)),some (.lst (l++[.int (y%wide)])),some (.leaf (.int y)),some (.leaf (.int k)),z6]=some (.int (y/wide)):=by
    show Option.map T.d ((((im (.int 2) (.int 40)).map T.d).bind fun b=>fV (.int y) b))=_
    rw [vj]
    show Option.map T.d (fV (.int y) (.int wide))=_
    rw [qo mZ wg]
    rfl
   unfold cX toT
   rw [e2]
   rfl
def oP (m:Nat):∀ {j:Nat} {l:List Dt} {y:Int} {z5 z6:Option T},j+m<=50->l.length+m<=50->∃ (vs:List Int) (y':Int) (z5' z6':Option T),vs.length=m∧
  gS (am 5) z28 ((List.range' j m).map fun i:Nat=>.int (i:Int)) [some (.leaf (.int x)),some (.leaf (.int n)),some (.leaf (.bl f)),some (.lst l),some (.leaf (.int y)),z5,z6]=some (.nx [some (.leaf (.int x)),some (.leaf (.int n)),some (.leaf (.bl f)),some (.lst (l++vs.map .int)),some (.leaf (.int y')),z5',z6']):=by
 induction m with
 | zero =>
  intro j l y z5 z6 _ _
  exact ⟨[],y,z5,z6,rfl,by rw [List.map_nil,List.append_nil];rfl⟩
 | succ m ih =>
  intro j l y z5 z6 hj hl
  obtain ⟨v,y1,z1,e⟩:=rk (x:=x) (n:=n) (f:=f) (y:=y) (z6:=z6) (l:=l) (k:=j) (by omega) (by omega)
  obtain ⟨vs,y2,z2,z3,h2,e2⟩:=ih (j:=j+1) (l:=l++[.int v]) (y:=y1) (z5:=some (.leaf (.int j))) (z6:=z1) (by omega) (by simp;omega)
  refine ⟨v::vs,y2,z2,z3,by rw [List.length_cons,h2],?_⟩
  rw [List.range'_succ,List.map_cons,gp (δ1:=[some (.leaf (.int x)),some (.leaf (.int n)),some (.leaf (.bl f)),some (.lst l),some (.leaf (.int y)),some (.leaf (.int j)),z6]) rfl e,e2]
  simp
end
def oQ {f:De->Option (List Dt)} {bb:Dt->De->Option De} {g:De->Option Out} {δ:De} {n:Nat} (h:f δ=some [.int n]) (hn:n<=1000000000):lO (dO iM f) bb g δ=gS bb g (cj 0 n) δ:=by
 unfold lO dO
 rw [h,Option.bind_some,oq hn]
 rfl
def rl (x:Int) (n:Nat) (f:Bool) (hn:n<=20):∃ vs:List Int,vs.length=n/\z16 [.int x,.int n,.bl f]=some (.lst (vs.map .int)):=by
 obtain ⟨vs,y',z5,z6,h,e⟩:=oP (x:=x) (n:=n) (f:=f) n (j:=0) (l:=[]) (y:=x) (z5:=none) (z6:=none) (by omega) (by simp;omega)
 refine ⟨vs,h,?_⟩
 rw [List.nil_append] at e
 unfold z16
 rw [ou]
 show qR (dy _ _ [some (.leaf (.int x)),some (.leaf (.int n)),some (.leaf (.bl f)),none,none,none,none])=_
 rw [dA,show cX 3 (bN au) [some (.leaf (.int x)),some (.leaf (.int n)),some (.leaf (.bl f)),none,none,none,none]=some (.nx [some (.leaf (.int x)),some (.leaf (.int n)),some (.leaf (.bl f)),some (.lst []),none,none,none]) from rfl,b7,dA,
  show cX 4 (toT (vL 0)) [some (.leaf (.int x)),some (.leaf (.int n)),some (.leaf (.bl f)),some (.lst []),none,none,none]=some (.nx [some (.leaf (.int x)),some (.leaf (.int n)),some (.leaf (.bl f)),some (.lst []),some (.leaf (.int x)),none,none]) from rfl,b7,dA,oQ (n:=n) rfl (by omega),gb,e,b7]
 rfl
def aY (s:Str×Int):Dt:=.tup [.str s.1,.int s.2]
def lf (l:List (Str×Int)):CO:=.lst (l.map fun s=>.dat (aY s))
structure W5 (cl se:Dt) (a b:Nat) (f:Bool) (δ:Sl):Prop where
 len:δ.length=10
 s0:δ[0]?=some (some (.dat cl))
 s1:δ[1]?=some (some (.dat se))
 s2:δ[2]?=some (some (.ref a))
 s3:δ[3]?=some (some (.dat (.bl f)))
 s4:δ[4]?=some (some (.ref b))
def W5.set {cl se:Dt} {a b i:Nat} {f:Bool} {δ:Sl} (h:W5 cl se a b f δ) (hi:5<=i) (x:Option CV):W5 cl se a b f (δ.set i x):=⟨by rw [List.length_set];exact h.len,by rw [gN (by omega)];exact h.s0,by rw [gN (by omega)];exact h.s1,by rw [gN (by omega)];exact h.s2,by rw [gN (by omega)];exact h.s3,by rw [gN (by omega)];exact h.s4⟩
def W5.at {cl se:Dt} {a b i:Nat} {f:Bool} {δ:Sl} (h:W5 cl se a b f δ) (hi:i<10) (x:Option CV):(δ.set i x)[i]?=some x:=List.getElem?_set_self (by rw [h.len];exact hi)
section
variable {ch c1:CH} {R:List (Nat×CO)} {δ:Sl} {a b c l:Nat} {f:Bool} {cl se:Dt}
def ur {c4:Int} (hc:aS cl (.int 4)=some (.leaf (.int c4))) (vs:List Int):∀ {j:Nat} {bs:List (Str×Int)} {δ:Sl} {ch:CH},j+vs.length<=50->bs.length+vs.length<=50->Hv ch ((b,bl bs)::R)->W5 cl se a b f δ->∃ δ2 ch2 bs',bs'.length=bs.length+vs.length∧
  dw [5,6] (cf 2 (aH (am 5) (aH (am 6) ce))) z32 (fG j (vs.map .int)) δ ch=some (.nx δ2 ch2)/\Hv ch2 ((b,bl bs')::R)/\W5 cl se a b f δ2:=by
 induction vs with
 | nil =>
  intro j bs δ ch _ _ h hδ
  exact ⟨δ,ch,bs,rfl,rfl,h,hδ⟩
 | cons v vs ih =>
  intro j bs δ ch hj hl h hδ
  rw [List.length_cons] at hj hl
  have q':=(hδ.set (i:=5) (by decide) (some (.dat (.int j)))).set (i:=6) (by decide) (some (.dat (.int v)))
  have t5:((δ.set 5 (some (.dat (.int j)))).set 6 (some (.dat (.int v))))[5]?=some (some (.dat (.int j))):=by rw [gN (by decide)];exact hδ.at (by decide) _
  have t6:((δ.set 5 (some (.dat (.int j)))).set 6 (some (.dat (.int v))))[6]?=some (some (.dat (.int v))):=(hδ.set (i:=5) (by decide) _).at (by decide) _
  have et:toD (b6 (ab (toD (aB y13 (ab (toD (d2 aS (vB 0) (kD (.int 4)))) (ab (vL 5) au)))) (ab (vL 6) au))) (lo ((δ.set 5 (some (.dat (.int j)))).set 6 (some (.dat (.int v)))) ch)=some (bd (nam c4 j,v)):=by
   have e1:toD (d2 aS (vB 0) (kD (.int 4))) (lo ((δ.set 5 (some (.dat (.int j)))).set 6 (some (.dat (.int v)))) ch)=some (.int c4):=by
    unfold toD d2
    rw [bL q'.s0]
    show Option.map T.d (aS cl (.int 4))=_
    rw [hc]
    rfl
   have e2:toD (aB y13 (ab (toD (d2 aS (vB 0) (kD (.int 4)))) (ab (vL 5) au))) (lo ((δ.set 5 (some (.dat (.int j)))).set 6 (some (.dat (.int v)))) ch)=some (.str (nam c4 j)):=by
    rw [show ∀ (g1 g2:De->Option Dt) (d:De),toD (aB y13 (ab g1 (ab g2 au))) d=((((g1 d).bind fun x=>((g2 d).bind fun y=>some [y]).bind fun ds=>some (x::ds)).bind y13).map T.d) from fun _ _ _=>rfl,e1,bz t5]
    show (y13 [.int c4,.int j]).map T.d=_
    rw [mn c4 j (by omega)]
    rfl
   rw [show ∀ (g1 g2:De->Option Dt) (d:De),toD (b6 (ab g1 (ab g2 au))) d=((((g1 d).bind fun x=>((g2 d).bind fun y=>some [y]).bind fun ds=>some (x::ds)).bind vn).map T.d) from fun _ _ _=>rfl,e2,bz t6]
   rfl
  have e:=j8 (fa:=eV 4) (aK q'.s4) (aO et) (h.at 0 rfl) (by rw [List.length_map];omega)
  have H:=h.set 0 rfl (bl (bs++[(nam c4 j,v)]))
  obtain ⟨δ2,c2,bs',h1,e2,h2,q2⟩:=ih (j:=j+1) (bs:=bs++[(nam c4 j,v)]) (by omega) (by simp;omega) H q'
  refine ⟨δ2,c2,bs',by rw [h1];simp;omega,?_,h2,q2⟩
  rw [List.map_cons,fG,<- e2]
  refine iW (by decide) (by rw [hδ.len];decide) (by rw [hδ.len];decide) ?_
  unfold z32
  rw [e]
  unfold bl
  rw [List.map_append]
  rfl
def lq {α β:Type} (g:α->β):∀ (l:List α) (i:Nat),(l.map g).eraseIdx i=(l.eraseIdx i).map g
 | [],_=>rfl
 | _::_,0=>rfl
 | x::l,i+1=>by
  show g x::(l.map g).eraseIdx i=_
  rw [lq g l i]
  rfl
structure W9 (c l:Nat) (y:Int) (δ:Sl):Prop where
 s6:δ[6]?=some (some (.dat (.int y)))
 s7:δ[7]?=some (some (.ref c))
 s8:δ[8]?=some (some (.ref l))
def wj {y:Int} {ls:List (Str×Int)} (hl:Hv ch ((c,tl ts)::(l,lf ls)::R)) (hδ:W5 cl se a b f δ) (h9:W9 c l y δ) (hn:0<ls.length) (hz:ls.length<=100):∃ s ls',s∈ls/\(∀ z∈ls',z∈ls)/\ls'.length+1=ls.length/\qX (eV 8) (e2 bU (eD (toD (d2 bU (vB 6) (kD (.int 19))))) (eB bB (ae (eV 8) ar))) δ ch=some (.dat (aY s),ch.set l (lf ls')):=by
 have hL:=hl.at 1 rfl
 have e1:eB bB (ae (eV 8) ar) δ ch=some (.dat (.int (ls.length:Nat)),ch):=by
  have:=oN (δ:=δ) (ch:=ch) (ds:=ls.map aY) (aK h9.s8) (by rw [List.map_map];exact hL)
  rw [List.length_map] at this
  exact this
 have ed:eD (toD (d2 bU (vB 6) (kD (.int 19)))) δ ch=some (.dat (.int (y%19)),ch):=aO (by
  unfold toD d2
  rw [bL h9.s6]
  rfl)
 have e3:e2 bU (eD (toD (d2 bU (vB 6) (kD (.int 19))))) (eB bB (ae (eV 8) ar)) δ ch=some (.dat (.int (y%19%(ls.length:Nat))),ch):=e2i ed e1 (jT (by omega))
 have m0:=Int.emod_nonneg (y%19) (show ((ls.length:Nat):Int)≠0 by omega)
 have m1:=Int.emod_lt_of_pos (y%19) (show (0:Int)<((ls.length:Nat):Int) by omega)
 generalize y%19%(ls.length:Nat)=j at e3 m0 m1
 have hj:j.toNat<ls.length:=by omega
 refine ⟨ls[j.toNat],ls.eraseIdx j.toNat,List.getElem_mem _,fun z hz=>List.mem_of_mem_eraseIdx hz,by rw [List.length_eraseIdx_of_lt hj];omega,?_⟩
 unfold qX
 rw [aK h9.s8,Option.bind_some]
 dsimp only
 rw [e3,Option.bind_some]
 simp only [hL,lf]
 rw [if_pos ⟨m0,by rw [List.length_map];exact m1,by rw [List.length_map];omega⟩,List.getElem?_map,gQ hj,lq]
 rfl
end
section
variable {ch c1:CH} {R:List (Nat×CO)} {δ:Sl} {a b c l:Nat} {f:Bool} {cl se:Dt}
def rm {fa fe:Fg} {q:Nat} {l l0:List CV} {v:CV} (h1:fa δ ch=some (.ref q,ch)) (h2:fe δ ch=some (v,c1)) (h0:ch[q]?=some (.lst l0)) (h3:c1[q]?=some (.lst l)) (h4:l.length<1000):gA fa fe δ ch=some (.nx δ (c1.set q (.lst (l++[v])))):=by
 unfold gA
 rw [h1,Option.bind_some]
 dsimp only
 rw [h2,Option.bind_some]
 simp only [h0,h3,Nat.lt_of_lt_of_le h4 (show 1000<=sizeLine by decide),if_true]
def yN {fs:Fgs} {xs:List CV} {ds:List Dt} (h1:fs δ ch=some (xs,c1)) (h2:dats xs=some ds) (h3:ds.length<=1000):eTd fs δ ch=some (.dat (.tup ds),c1):=by
 unfold eTd
 rw [h1,Option.bind_some]
 dsimp only
 rw [h2,Option.bind_some,if_pos (Nat.le_trans h3 (by decide))]
def wm {y:Int} (h6:δ[6]?=some (some (.dat (.int y)))) (h3:δ[3]?=some (some (.dat (.bl f)))):∃ y',toD (d2 aS (toD (bN (ab (toD (d2 bm (toD (d2 cp (vB 6) (kD (.int 48271)))) (kD (.int 7919)))) (ab (toD (d2 fV (vB 6) (kD (.int 19)))) au)))) (toD (aB qM (ab (vB 3) au)))) (lo δ ch)=some (.int y'):=by
 have e1:toD (d2 bm (toD (d2 cp (vB 6) (kD (.int 48271)))) (kD (.int 7919))) (lo δ ch)=some (.int (y*48271+7919)):=by
  show Option.map T.d ((((vB 6 (lo δ ch)).bind fun x=>cp x (.int 48271)).map T.d).bind fun x=>bm x (.int 7919))=_
  rw [bL h6]
  show Option.map T.d (((cp (.int y) (.int 48271)).map T.d).bind fun x=>bm x (.int 7919))=_
  rw [jU (by decide) (by decide)]
  rfl
 have e2:toD (d2 fV (vB 6) (kD (.int 19))) (lo δ ch)=some (.int (y/19)):=by
  unfold toD d2
  rw [bL h6]
  show Option.map T.d (fV (.int y) (.int 19))=_
  rw [qo (by decide) (by decide)]
  rfl
 rw [show ∀ (g1 g2 g3:De->Option Dt) (d:De),toD (d2 aS (toD (bN (ab g1 (ab g2 au)))) (toD (aB qM (ab g3 au)))) d=((((((g1 d).bind fun x=>((g2 d).bind fun y=>some [y]).bind fun ds=>some (x::ds)).bind mkL).map T.d).bind fun x=>((((g3 d).bind fun z=>some [z]).bind qM).map T.d).bind fun y=>aS x y).map T.d) from fun _ _ _ _=>rfl,e1,e2,bL h3]
 cases f
 · exact ⟨_,rfl⟩
 · exact ⟨_,rfl⟩
def ut {Vp:Str×Int->Prop} (vs:List Int):∀ {y:Int} {ts:List Tn} {ls:List (Str×Int)} {δ:Sl} {ch:CH},vs.length<=ls.length->ls.length<=100->ts.length+vs.length<=100->(∀ s∈ls,Vp s)->(∀ t∈ts,Vp t.1)->Hv ch ((c,tl ts)::(l,lf ls)::R)->W5 cl se a b f δ->W9 c l y δ→
  ∃ δ2 ch2 ts' ls' y',ts'.length=ts.length+vs.length/\(∀ t∈ts',Vp t.1)/\dw [9] (am 9) y32 (vs.map .int) δ ch=some (.nx δ2 ch2)/\Hv ch2 ((c,tl ts')::(l,lf ls')::R)/\W5 cl se a b f δ2/\W9 c l y' δ2:=by
 induction vs with
 | nil =>
  intro y ts ls δ ch _ _ _ _ ht h hδ h9
  exact ⟨δ,ch,ts,ls,y,rfl,ht,rfl,h,hδ,h9⟩
 | cons v vs ih =>
  intro y ts ls δ ch h1 h2 h3 hs ht h hδ h9
  rw [List.length_cons] at h1 h3
  have q':=hδ.set (i:=9) (by decide) (some (.dat (.int v)))
  have t9:=hδ.at (i:=9) (by decide) (some (.dat (.int v)))
  have n9:W9 c l y (δ.set 9 (some (.dat (.int v)))):=⟨by rw [gN (by decide)];exact h9.s6,by rw [gN (by decide)];exact h9.s7,by rw [gN (by decide)];exact h9.s8⟩
  generalize hd0:δ.set 9 (some (CV.dat (.int v)))=δ0 at q' t9 n9
  obtain ⟨s,ls',hm,hsub,hlen,ep⟩:=wj h q' n9 (by omega) h2
  have H:=h.set 1 rfl (lf ls')
  have e1:eTd (ae (qX (eV 8) (e2 bU (eD (toD (d2 bU (vB 6) (kD (.int 19))))) (eB bB (ae (eV 8) ar)))) (ae (eD (vL 9)) ar)) δ0 ch=some (.dat (td (s,v)),ch.set l (lf ls')):=yN (av ep (av (aO (bz t9)) rfl)) rfl (by simp)
  have x1:=rm (fa:=eV 7) (aK n9.s7) e1 (h.at 0 rfl) (H.at 0 rfl) (by rw [List.length_map];omega)
  have H2:=H.set 0 rfl (tl (ts++[(s,v)]))
  rw [show CO.lst ((ts.map fun p=>CV.dat (td p))++[.dat (td (s,v))])=tl (ts++[(s,v)]) by unfold tl;rw [List.map_append];rfl] at x1
  generalize (ch.set l (lf ls')).set c (tl (ts++[(s,v)]))=c2 at x1 H2
  obtain ⟨y',ey⟩:=wm (ch:=c2) n9.s6 q'.s3
  have x2:=bA (i:=6) (aO ey)
  have q6:=q'.set (i:=6) (by decide) (some (.dat (.int y')))
  have m9:W9 c l y' (δ0.set 6 (some (.dat (.int y')))):=⟨q'.at (by decide) _,by rw [gN (by decide)];exact n9.s7,by rw [gN (by decide)];exact n9.s8⟩
  obtain ⟨δ2,c3,ts',ls2,y2,k1,k2,k3,k4,k5,k6⟩:=ih (y:=y') (ts:=ts++[(s,v)]) (ls:=ls') (by omega) (by omega) (by simp;omega) (fun z hz=>hs z (hsub z hz)) (fun z hz=>by
   rcases List.mem_append.mp hz with hz | hz
   · exact ht z hz
   · rw [List.mem_singleton.mp hz]
     exact hs s hm) H2 q6 m9
  refine ⟨δ2,c3,ts',ls2,y2,by rw [k1];simp;omega,k2,?_,k4,k5,k6⟩
  rw [List.map_cons,<- k3]
  refine ml (by rw [hδ.len];decide) ?_
  unfold y32
  rw [hd0,aI,x1,aA,x2]
end
def clD (k0 k1 k2 k3 k4 k5:Int):Dt:=.lst [.int k0,.int k1,.int k2,.int k3,.int k4,.int k5]
section
variable {ch:CH} {R:List (Nat×CO)} {δ:Sl} {k0 k1 k2 k3 k4 k5:Int} {f:Bool} {se:Dt}
def cH {g:De->Option Dt} {d:De} {x:Int} (j:Nat) {m:Int} (hm:0<m) (h:g d=some (.int x)):toD (aB y6 (ab g (ab (kD (.int j)) (ab (kD (.int m)) au)))) d=some (.int (bF x j m)):=by
 rw [show ∀ (g:De->Option Dt) (d:De),toD (aB y6 (ab g (ab (kD (.int j)) (ab (kD (.int m)) au)))) d=((((g d).bind fun x=>some [x,.int j,.int m]).bind y6).map T.d) from fun _ _=>rfl,h]
 show (y6 [.int x,.int j,.int m]).map T.d=_
 rw [(cU x j hm).1]
 rfl
def xk {F:List Dt->Option T} {g1 g2 g3:De->Option Dt} {d:De} {a b c:Dt} {t:T} (h1:g1 d=some a) (h2:g2 d=some b) (h3:g3 d=some c) (e:F [a,b,c]=some t):toD (aB F (ab g1 (ab g2 (ab g3 au)))) d=some (T.d t):=by
 rw [show ∀ (g1 g2 g3:De->Option Dt) (d:De),toD (aB F (ab g1 (ab g2 (ab g3 au)))) d=((((g1 d).bind fun x=>((g2 d).bind fun y=>((g3 d).bind fun z=>some [z]).bind fun ds=>some (y::ds)).bind fun ds=>some (x::ds)).bind F).map T.d) from fun _ _ _ _=>rfl,h1,h2,h3]
 show (F [a,b,c]).map T.d=_
 rw [e]
 rfl
def qp {g1 g2 g3:De->Option Dt} {d:De} {x:Int} {n:Nat} (hn:n<=20) (h1:g1 d=some (.int x)) (h2:g2 d=some (.int n)) (h3:g3 d=some (.bl f)):∃ vs:List Int,vs.length=n/\toD (aB z16 (ab g1 (ab g2 (ab g3 au)))) d=some (.lst (vs.map .int)):=by
 obtain ⟨vs,hl,e⟩:=rl x n f hn
 exact ⟨vs,hl,xk h1 h2 h3 e⟩
def fF {i:Int} {x:Int} (h0:δ[0]?=some (some (.dat (clD k0 k1 k2 k3 k4 k5)))) (hx:aS (clD k0 k1 k2 k3 k4 k5) (.int i)=some (.leaf (.int x))):toD (d2 aS (vB 0) (kD (.int i))) (lo δ ch)=some (.int x):=by
 unfold toD d2
 rw [bL h0]
 show Option.map T.d (aS (clD k0 k1 k2 k3 k4 k5) (.int i))=_
 rw [hx]
 rfl
def wn (h0:δ[0]?=some (some (.dat (clD k0 k1 k2 k3 k4 k5)))):∃ hs:List Int,hs.length=4/\eN (d2 bm (toD (bN (ab (toD (aB y6 (ab (toD (d2 aS (vB 0) (kD (.int 0)))) (ab (kD (.int 0)) (ab (kD (.int 60)) au))))) au))) (toD (ck [none,some 0] (fIt (toD (b6 (ab (kD (.int 1)) (ab (kD (.int 2)) (ab (kD (.int 3)) au)))))) (am 0) br q15))) δ ch=some (.ref ch.length,ch++[li hs]):=by
 have e1:toD (bN (ab (toD (aB y6 (ab (toD (d2 aS (vB 0) (kD (.int 0)))) (ab (kD (.int 0)) (ab (kD (.int 60)) au))))) au)) (lo δ ch)=some (.lst [.int (bF k0 0 60)]):=by
  have:=cH (d:=lo δ ch) 0 (m:=60) (by decide) (fF (ch:=ch) (i:=0) (x:=k0) h0 rfl)
  rw [show ∀ (g:De->Option Dt) (d:De),toD (bN (ab g au)) d=((((g d).bind fun x=>some [x]).bind mkL).map T.d) from fun _ _=>rfl]
  rw [show toD (aB y6 (ab (toD (d2 aS (vB 0) (kD (.int 0)))) (ab (kD (.int 0)) (ab (kD (.int 60)) au)))) (lo δ ch)=some (.int (bF k0 0 60)) from this]
  rfl
 have ex:∀ (i x:Int),aS (clD k0 k1 k2 k3 k4 k5) (.int i)=some (.leaf (.int x))->q15 [some (.leaf (.int i)),some (.leaf (clD k0 k1 k2 k3 k4 k5))]=some (.int (x*94906267%3000)):=fun i x hx=>by
  unfold q15
  show Option.map T.d (((((aS (clD k0 k1 k2 k3 k4 k5) (.int i)).map T.d).bind fun x=>cp x (.int 94906267)).map T.d).bind fun x=>bU x (.int 3000))=_
  rw [hx]
  show Option.map T.d (((cp (.int x) (.int 94906267)).map T.d).bind fun x=>bU x (.int 3000))=_
  rw [jU (by decide) (by decide)]
  rfl
 have hc:cr (am 0) br q15 [none,some (.leaf (clD k0 k1 k2 k3 k4 k5))] [.int 1,.int 2,.int 3]=some [.int (k1*94906267%3000),.int (k2*94906267%3000),.int (k3*94906267%3000)]:=by
  show ((q15 [some (.leaf (.int 1)),some (.leaf (clD k0 k1 k2 k3 k4 k5))]).bind fun y=>((q15 [some (.leaf (.int 2)),some (.leaf (clD k0 k1 k2 k3 k4 k5))]).bind fun y=>((q15 [some (.leaf (.int 3)),some (.leaf (clD k0 k1 k2 k3 k4 k5))]).bind fun y=>some [y]).bind fun ys=>some (y::ys)).bind fun ys=>some (y::ys))=_
  rw [ex 1 k1 rfl,ex 2 k2 rfl,ex 3 k3 rfl]
  rfl
 have e2:toD (ck [none,some 0] (fIt (toD (b6 (ab (kD (.int 1)) (ab (kD (.int 2)) (ab (kD (.int 3)) au)))))) (am 0) br q15) (lo δ ch)=some (.lst [.int (k1*94906267%3000),.int (k2*94906267%3000),.int (k3*94906267%3000)]):=by
  rw [show ∀ f:De->Option T,toD f (lo δ ch)=(f (lo δ ch)).map T.d from fun _=>rfl,iq (ds:=[.int 1,.int 2,.int 3]) rfl (ys:=[.int (k1*94906267%3000),.int (k2*94906267%3000),.int (k3*94906267%3000)]) ?_ (by simp)]
  · rfl
  · rw [show dC [none,some 0] (lo δ ch)=[none,((lo δ ch)[0]?).join] from rfl,jX h0]
    exact hc
 refine ⟨[bF k0 0 60,k1*94906267%3000,k2*94906267%3000,k3*94906267%3000],rfl,?_⟩
 unfold eN
 rw [show ∀ (g1 g2:De->Option Dt) (d:De),d2 bm g1 g2 d=(g1 d).bind fun x=>(g2 d).bind fun y=>bm x y from fun _ _ _=>rfl,e1,e2]
 rfl
def oR {ss:List (Str×Int)} {Vp:Str×Int->Prop} (h:Hv ch R) (hz:ss.length<=100) (hs:∀ s∈ss,Vp s):∃ ch' q a b c p,y25 [.dat (clD k0 k1 k2 k3 k4 k5),.dat (.lst (ss.map aY))] ch=some (.ref q,ch')/\Hv ch' (wl q a b c p++R)/\p.h.length=4/\p.b.length<=10/\p.t.length<=20/\∀ t∈p.t,Vp t.1:=by
 obtain ⟨hd,hl,e1⟩:=wn (ch:=ch) (δ:=[some (.dat (clD k0 k1 k2 k3 k4 k5)),some (.dat (.lst (ss.map aY))),none,none,none,none,none,none,none,none]) rfl
 have x1:=bA (i:=2) e1
 have H1:=h.new (li hd)
 generalize ch.length=a at x1 H1
 generalize ch++[li hd]=c1 at x1 H1
 -- free
 have e2:toD (d2 (gEq false) (toD (aB y6 (ab (toD (d2 aS (vB 0) (kD (.int 0)))) (ab (kD (.int 4)) (ab (kD (.int 2)) au))))) (kD (.int 1))) (lo [some (.dat (clD k0 k1 k2 k3 k4 k5)),some (.dat (.lst (ss.map aY))),some (.ref a),none,none,none,none,none,none,none] c1)=some (.bl (decide (bF k0 4 2=1))):=by
  have:=cH (d:=lo [some (.dat (clD k0 k1 k2 k3 k4 k5)),some (.dat (.lst (ss.map aY))),some (.ref a),none,none,none,none,none,none,none] c1) 4 (m:=2) (by decide) (fF (ch:=c1) (δ:=[some (.dat (clD k0 k1 k2 k3 k4 k5)),some (.dat (.lst (ss.map aY))),some (.ref a),none,none,none,none,none,none,none]) (i:=0) (x:=k0) rfl rfl)
  rw [show ∀ (g:De->Option Dt) (d:De),toD (d2 (gEq false) g (kD (.int 1))) d=(((g d).bind fun x=>gEq false x (.int 1)).map T.d) from fun _ _=>rfl]
  rw [show toD (aB y6 (ab (toD (d2 aS (vB 0) (kD (.int 0)))) (ab (kD (.int 4)) (ab (kD (.int 2)) au)))) (lo [some (.dat (clD k0 k1 k2 k3 k4 k5)),some (.dat (.lst (ss.map aY))),some (.ref a),none,none,none,none,none,none,none] c1)=some (.int (bF k0 4 2)) from this]
  rfl
 have x2:=bA (i:=3) (aO e2)
 generalize decide (bF k0 4 2=1)=f at x2
 have x3:bG 4 (eN (bN au)) [some (.dat (clD k0 k1 k2 k3 k4 k5)),some (.dat (.lst (ss.map aY))),some (.ref a),some (.dat (.bl f)),none,none,none,none,none,none] c1=some (.nx [some (.dat (clD k0 k1 k2 k3 k4 k5)),some (.dat (.lst (ss.map aY))),some (.ref a),some (.dat (.bl f)),some (.ref c1.length),none,none,none,none,none] (c1++[bl []])):=rfl
 have H2:=H1.new (bl [])
 generalize c1.length=b at x3 H2
 generalize c1++[bl []]=c2 at x3 H2
 have q0:W5 (clD k0 k1 k2 k3 k4 k5) (.lst (ss.map aY)) a b f [some (.dat (clD k0 k1 k2 k3 k4 k5)),some (.dat (.lst (ss.map aY))),some (.ref a),some (.dat (.bl f)),some (.ref b),none,none,none,none,none]:=⟨rfl,rfl,rfl,rfl,rfl,rfl⟩
 generalize ([some (.dat (clD k0 k1 k2 k3 k4 k5)),some (.dat (.lst (ss.map aY))),some (.ref a),some (.dat (.bl f)),some (.ref b),none,none,none,none,none]:Sl)=δ0 at x3 q0
 -- boxes
 have h1:=cU k0 1 (m:=7) (by decide)
 obtain ⟨n1,en1⟩:∃ n:Nat,bF k0 ((1:Nat):Int) 7=n:=⟨(bF k0 ((1:Nat):Int) 7).toNat,by omega⟩
 have p1:=cH (d:=lo δ0 c2) 1 (m:=7) (by decide) (fF (ch:=c2) (i:=0) (x:=k0) q0.s0 rfl)
 rw [en1] at p1
 obtain ⟨vs1,hv1,ev1⟩:=qp (f:=f) (d:=lo δ0 c2) (n:=n1) (by omega) (fF (ch:=c2) (i:=1) (x:=k1) q0.s0 rfl) p1 (bz q0.s3)
 obtain ⟨δ1,c3,bs,hb,ef1,H3,q1⟩:=ur (b:=b) (c4:=k4) (cl:=clD k0 k1 k2 k3 k4 k5) rfl vs1 (j:=0) (bs:=[]) (by omega) (by simp;omega) H2 q0
 have x4:de (dO kT (ab (toD (aB z16 (ab (toD (d2 aS (vB 0) (kD (.int 1)))) (ab (toD (aB y6 (ab (toD (d2 aS (vB 0) (kD (.int 0)))) (ab (kD (.int 1)) (ab (kD (.int 7)) au))))) (ab (vL 3) au))))) au)) [5,6] (cf 2 (aH (am 5) (aH (am 6) ce))) z32 δ0 c2=some (.nx δ1 c3):=by
  unfold de
  rw [show ∀ (g:De->Option Dt) (d:De),dO kT (ab g au) d=((g d).bind fun x=>some [x]).bind kT from fun _ _=>rfl,show toD (aB z16 (ab (toD (d2 aS (vB 0) (kD (.int 1)))) (ab (toD (aB y6 (ab (toD (d2 aS (vB 0) (kD (.int 0)))) (ab (kD (.int 1)) (ab (kD (.int 7)) au))))) (ab (vL 3) au)))) (lo δ0 c2)=some (.lst (vs1.map .int)) from ev1]
  exact ef1
 -- turns and what is left
 have x5:bG 7 (eN (bN au)) δ1 c3=some (.nx (δ1.set 7 (some (.ref c3.length))) (c3++[tl []])):=rfl
 have H4:=H3.new (tl [])
 have q2:=q1.set (i:=7) (by decide) (some (.ref c3.length))
 have t7:=q1.at (i:=7) (by decide) (some (.ref c3.length))
 generalize c3.length=c at x5 H4 q2 t7
 generalize δ1.set 7 (some (CV.ref c))=δ2 at x5 q2 t7
 generalize c3++[tl []]=c4 at x5 H4
 have e6:eN (aB ip (ab (vB 1) au)) δ2 c4=some (.ref c4.length,c4++[lf ss]):=by
  unfold eN
  rw [show ∀ (g:De->Option Dt) (d:De),aB ip (ab g au) d=((g d).bind fun x=>some [x]).bind ip from fun _ _=>rfl,bL q2.s1]
  show some (CV.ref c4.length,c4++[CO.lst ((ss.map aY).map .dat)])=_
  rw [List.map_map]
  rfl
 have x6:=bA (i:=8) e6
 have H5:=H4.new (lf ss)
 have q3:=q2.set (i:=8) (by decide) (some (.ref c4.length))
 have t8:=q2.at (i:=8) (by decide) (some (.ref c4.length))
 have t87:(δ2.set 8 (some (.ref c4.length)))[7]?=some (some (.ref c)):=by rw [gN (by decide)];exact t7
 generalize c4.length=l at x6 H5 q3 t8 t87
 generalize δ2.set 8 (some (CV.ref l))=δ3 at x6 q3 t8 t87
 generalize c4++[lf ss]=c5 at x6 H5
 have x7:=bA (i:=6) (aO (fF (ch:=c5) (i:=3) (x:=k3) q3.s0 rfl))
 have q4:=q3.set (i:=6) (by decide) (some (.dat (.int k3)))
 have n9:W9 c l k3 (δ3.set 6 (some (.dat (.int k3)))):=⟨q3.at (by decide) _,by rw [gN (by decide)];exact t87,by rw [gN (by decide)];exact t8⟩
 generalize δ3.set 6 (some (CV.dat (.int k3)))=δ4 at x7 q4 n9
 have h3:=cU k0 3 (m:=10) (by decide)
 obtain ⟨n3,en3⟩:∃ n:Nat,bF k0 ((3:Nat):Int) 10=n:=⟨(bF k0 ((3:Nat):Int) 10).toNat,by omega⟩
 have p3:=cH (d:=lo δ4 c5) 3 (m:=10) (by decide) (fF (ch:=c5) (i:=0) (x:=k0) q4.s0 rfl)
 rw [en3] at p3
 have pm:toD (aB iA (ab (toD (aB y6 (ab (toD (d2 aS (vB 0) (kD (.int 0)))) (ab (kD (.int 3)) (ab (kD (.int 10)) au))))) (ab (toD (aB bB (ab (vB 1) au))) au))) (lo δ4 c5)=some (.int ((min n3 ss.length:Nat):Int)):=by
  have el:toD (aB bB (ab (vB 1) au)) (lo δ4 c5)=some (.int (ss.length:Nat)):=by
   rw [show ∀ (g:De->Option Dt) (d:De),toD (aB bB (ab g au)) d=((((g d).bind fun x=>some [x]).bind bB).map T.d) from fun _ _=>rfl,bL q4.s1]
   show some (Dt.int ((ss.map aY).length:Nat))=_
   rw [List.length_map]
  rw [show ∀ (g1 g2:De->Option Dt) (d:De),toD (aB iA (ab g1 (ab g2 au))) d=((((g1 d).bind fun x=>((g2 d).bind fun y=>some [y]).bind fun ds=>some (x::ds)).bind iA).map T.d) from fun _ _ _=>rfl,show toD (aB y6 (ab (toD (d2 aS (vB 0) (kD (.int 0)))) (ab (kD (.int 3)) (ab (kD (.int 10)) au)))) (lo δ4 c5)=some (.int n3) from p3,el]
  show some (Dt.int (if ((ss.length:Nat):Int)<(n3:Int) then ((ss.length:Nat):Int) else (n3:Int)))=_
  congr 2
  split<;>omega
 obtain ⟨vs2,hv2,ev2⟩:=qp (f:=f) (d:=lo δ4 c5) (n:=min n3 ss.length) (by omega) (fF (ch:=c5) (i:=2) (x:=k2) q4.s0 rfl) pm (bz q4.s3)
 have H6:=H5.perm (List.Perm.swap _ _ _)
 obtain ⟨δ5,c6,ts,ls,y',ht,hT,ef2,H7,q5,m9⟩:=ut (Vp:=Vp) vs2 (y:=k3) (ts:=[]) (ls:=ss) (by omega) hz (by simp;omega) hs (fun t ht=>by cases ht) H6 q4 n9
 have x8:de (fIt (toD (aB z16 (ab (toD (d2 aS (vB 0) (kD (.int 2)))) (ab (toD (aB iA (ab (toD (aB y6 (ab (toD (d2 aS (vB 0) (kD (.int 0)))) (ab (kD (.int 3)) (ab (kD (.int 10)) au))))) (ab (toD (aB bB (ab (vB 1) au))) au)))) (ab (vL 3) au)))))) [9] (am 9) y32 δ4 c5=some (.nx δ5 c6):=by
  unfold de
  rw [show ∀ (g:De->Option Dt) (d:De) (t:List Dt),g d=some (.lst t)->fIt g d=some t from fun _ _ _ e=>by unfold fIt;rw [e];rfl]
  · exact ef2
  · exact ev2
 have x9:=dg (qf (fs:=ae (eV 2) (ae (eV 4) (ae (eV 7) ar))) (δ:=δ5) (ch:=c6) (av (aK q5.s2) (av (aK q5.s4) (av (aK m9.s7) rfl))) (by simp))
 have H8:=H7.new (.lst [.ref a,.ref b,.ref c])
 generalize c6.length=q at x9 H8
 generalize c6++[CO.lst [.ref a,.ref b,.ref c]]=c7 at x9 H8
 have H9:=(Hv.pick (l:=[(q,.lst [.ref a,.ref b,.ref c]),(c,tl ts),(l,lf ls),(b,bl bs),(a,li hd)]) (X:=R) H8 [0,4,3,1,2] (show [0,4,3,1,2].Perm (List.range 5) by decide))
 have H10:Hv c7 (wl q a b c ⟨hd,bs,ts⟩++R):=H9.sub (by
  show ([(q,.lst [.ref a,.ref b,.ref c]),(a,li hd),(b,bl bs),(c,tl ts)]++R).Sublist ([(q,.lst [.ref a,.ref b,.ref c]),(a,li hd),(b,bl bs),(c,tl ts),(l,lf ls)]++R)
  exact List.Sublist.append (List.sublist_append_left [(q,CO.lst [.ref a,.ref b,.ref c]),(a,li hd),(b,bl bs),(c,tl ts)] [(l,lf ls)]) (List.Sublist.refl _))
 refine ⟨c7,q,a,b,c,⟨hd,bs,ts⟩,?_,H10,hl,?_,?_,hT⟩
 · unfold y25
   rw [cc]
   show hG (aN _ _ [some (.dat (clD k0 k1 k2 k3 k4 k5)),some (.dat (.lst (ss.map aY))),none,none,none,none,none,none,none,none] ch)=_
   rw [aI,x1,aA]
   show hG (aN _ _ [some (.dat (clD k0 k1 k2 k3 k4 k5)),some (.dat (.lst (ss.map aY))),some (.ref a),none,none,none,none,none,none,none] c1)=_
   rw [aI,x2,aA]
   show hG (aN _ _ [some (.dat (clD k0 k1 k2 k3 k4 k5)),some (.dat (.lst (ss.map aY))),some (.ref a),some (.dat (.bl f)),none,none,none,none,none,none] c1)=_
   rw [aI,x3,aA,aI,x4,aA,aI,x5,aA,aI,x6,aA,aI,x7,aA,aI,x8,aA,x9]
   rfl
 · show bs.length<=10
   rw [hb]
   simp
   omega
 · show ts.length<=20
   rw [ht]
   simp
   omega
end
section
variable {c b:Int} {z w:Option T} {l:List Dt}
def uu {k:Nat} (hk:k<=8) (hl:l.length<100):∃ h:Hd,h.1=nam b k/\q34 [some (.leaf (.int c)),some (.leaf (.int b)),some (.lst l),some (.leaf (.int k)),w]=some (.nx [some (.leaf (.int c)),some (.leaf (.int b)),some (.lst (l++[hdD h])),some (.leaf (.int k)),w]):=by
 refine ⟨(nam b k,(c+31*k)*94906267%wide,true),rfl,?_⟩
 unfold q34 z27
 simp only [List.getElem?_cons_zero,List.getElem?_cons_succ]
 have e:toD (b6 (ab (toD (aB y13 (ab (vL 1) (ab (vL 3) au)))) (ab (toD (d2 bU (toD (d2 cp (toD (d2 bm (vB 0) (toD (d2 cp (kD (.int 31)) (vB 3))))) (kD (.int 94906267)))) (toD (d2 im (kD (.int 2)) (kD (.int 40)))))) (ab (kD (.bl true)) au)))) [some (.leaf (.int c)),some (.leaf (.int b)),some (.lst l),some (.leaf (.int k)),w]=some (hdD (nam b k,(c+31*k)*94906267%wide,true)):=by
  walk_at "d"
  rw [mn b k (by omega)]
  walk_at "d"
  rfl
 rw [e,Option.bind_some,if_pos (Nat.lt_of_lt_of_le hl (by decide))]
 rfl
def rn {k:Nat} (hk:k<=8) (hl:l.length<100):∃ h:Hd,h.1=nam b (8+k)/\(0<=h.2.1/\h.2.1<=8)/\q33 [some (.leaf (.int c)),some (.leaf (.int b)),z,some (.leaf (.int k)),some (.lst l)]=some (.nx [some (.leaf (.int c)),some (.leaf (.int b)),z,some (.leaf (.int k)),some (.lst (l++[hdD h]))]):=by
 have h4:=cU (c+k) 2 (m:=8) (by decide)
 rw [show ((2:Nat):Int)=2 from rfl] at h4
 refine ⟨(nam b (8+k),1+bF (c+k) 2 8,true),rfl,(show 0<=1+bF (c+k) 2 8/\1+bF (c+k) 2 8<=8 by omega),?_⟩
 unfold q33 z27
 simp only [List.getElem?_cons_zero,List.getElem?_cons_succ]
 have e:toD (b6 (ab (toD (aB y13 (ab (vL 1) (ab (toD (d2 bm (kD (.int 8)) (vB 3))) au)))) (ab (toD (d2 bm (kD (.int 1)) (toD (aB y6 (ab (toD (d2 bm (vB 0) (vB 3))) (ab (kD (.int 2)) (ab (kD (.int 8)) au))))))) (ab (kD (.bl true)) au)))) [some (.leaf (.int c)),some (.leaf (.int b)),z,some (.leaf (.int k)),some (.lst l)]=some (hdD (nam b (8+k),1+bF (c+k) 2 8,true)):=by
  walk_at "d"
  rw [show (8:Int)+(k:Int)=((8+k:Nat):Int) by omega,mn b (8+k) (by omega)]
  walk_at "d"
  rw [h4.1]
  walk_at "d"
  rfl
 rw [e,Option.bind_some,if_pos (Nat.lt_of_lt_of_le hl (by decide))]
 rfl
def rz (n:Nat):∀ {j:Nat} {l:List Dt} {z:Option T},j+n<=8->l.length+n<=50->∃ (hs:List Hd) (z':Option T),hs.map (·.1)=(List.range' j n).map (nam b)∧
  gS (am 3) q34 ((List.range' j n).map fun i:Nat=>.int (i:Int)) [some (.leaf (.int c)),some (.leaf (.int b)),some (.lst l),z,w]=some (.nx [some (.leaf (.int c)),some (.leaf (.int b)),some (.lst (l++hs.map hdD)),z',w]):=by
 induction n with
 | zero =>
  intro j l z _ _
  exact ⟨[],z,rfl,by rw [List.map_nil,List.append_nil];rfl⟩
 | succ n ih =>
  intro j l z hj hl
  obtain ⟨h,h1,e⟩:=uu (c:=c) (b:=b) (w:=w) (l:=l) (k:=j) (by omega) (by omega)
  obtain ⟨hs,z',h2,e2⟩:=ih (j:=j+1) (l:=l++[hdD h]) (z:=some (.leaf (.int j))) (by omega) (by simp;omega)
  refine ⟨h::hs,z',by rw [List.range'_succ,List.map_cons,List.map_cons,h2,h1],?_⟩
  rw [List.range'_succ,List.map_cons,gp (δ1:=[some (.leaf (.int c)),some (.leaf (.int b)),some (.lst l),some (.leaf (.int j)),w]) rfl e,e2]
  simp
def oS (n:Nat):∀ {j:Nat} {l:List Dt} {y:Option T},j+n<=8->l.length+n<=50->∃ (hs:List Hd) (y':Option T),hs.map (·.1)=(List.range' j n).map (fun i=>nam b (8+i))/\(∀ h∈hs,0<=h.2.1/\h.2.1<=8)∧
  gS (am 3) q33 ((List.range' j n).map fun i:Nat=>.int (i:Int)) [some (.leaf (.int c)),some (.leaf (.int b)),z,y,some (.lst l)]=some (.nx [some (.leaf (.int c)),some (.leaf (.int b)),z,y',some (.lst (l++hs.map hdD))]):=by
 induction n with
 | zero =>
  intro j l y _ _
  exact ⟨[],y,rfl,(fun h hh=>by cases hh),by rw [List.map_nil,List.append_nil];rfl⟩
 | succ n ih =>
  intro j l y hj hl
  obtain ⟨h,h1,h0,e⟩:=rn (c:=c) (b:=b) (z:=z) (l:=l) (k:=j) (by omega) (by omega)
  obtain ⟨hs,y',h2,h3,e2⟩:=ih (j:=j+1) (l:=l++[hdD h]) (y:=some (.leaf (.int j))) (by omega) (by simp;omega)
  refine ⟨h::hs,y',by rw [List.range'_succ,List.map_cons,List.map_cons,h2,h1],fun a ha=>?_,?_⟩
  · rcases List.mem_cons.mp ha with rfl | ha
    · exact h0
    · exact h3 a ha
  · rw [List.range'_succ,List.map_cons,gp (δ1:=[some (.leaf (.int c)),some (.leaf (.int b)),z,some (.leaf (.int j)),some (.lst l)]) rfl e,e2]
    simp
end
def uv {b:Int} {cl sh:List Hd} {n m:Nat} (h1:cl.map (·.1)=(List.range' 0 n).map (nam b)) (h2:sh.map (·.1)=(List.range' 0 m).map (fun i=>nam b (8+i))) (hn:n<=8) (hm:m<=8):((hm0 cl sh).map (·.1)).Nodup:=by
 have e:(hm0 cl sh).map (·.1)=(List.range' 0 n).map (nam b)++(List.range' 0 m).map (fun i=>nam b (8+i)):=by
  unfold hm0 hmC hmS
  rw [List.map_append,List.map_map,List.map_map,<- h1,<- h2]
  rfl
 rw [e]
 have key:∀ {i j:Nat},i<=25->j<=25->i≠j->nam b i≠nam b j:=fun hi hj ne z=>ne (vY b hi hj z)
 have inr:∀ {i n:Nat},i∈List.range' 0 n->i<n:=fun {i n} h=>by
  have:=List.mem_range'_1.mp h
  omega
 refine List.nodup_append.mpr ⟨?_,?_,fun x hx y hy=>?_⟩
 · refine List.pairwise_map.mpr (List.Pairwise.imp_of_mem (fun {i j} hi hj ne=>key ?_ ?_ ne) (List.nodup_range' (step:=1)))
   · have:=inr hi
     omega
   · have:=inr hj
     omega
 · refine List.pairwise_map.mpr (List.Pairwise.imp_of_mem (fun {i j} hi hj ne=>key ?_ ?_ ?_) (List.nodup_range' (step:=1)))
   · have:=inr hi
     omega
   · have:=inr hj
     omega
   · omega
 · obtain ⟨i,hi,rfl⟩:=List.mem_map.mp hx
   obtain ⟨j,hj,rfl⟩:=List.mem_map.mp hy
   have:=inr hi
   have:=inr hj
   exact key (by omega) (by omega) (by omega)
def oT (c b:Int):∃ cl sh rw,y26 [.int c,.int b]=some (.leaf (b9 cl sh rw))/\((hm0 cl sh).map (·.1)).Nodup/\(∀ h∈sh,0<=h.2.1/\h.2.1<=8)/\cl.length<=8/\sh.length<=8:=by
 have h0:=cU c 0 (m:=3) (by decide)
 have h1:=cU c 1 (m:=2) (by decide)
 obtain ⟨u,eu⟩:∃ u:Nat,1+bF c ((0:Nat):Int) 3=u:=⟨(1+bF c ((0:Nat):Int) 3).toNat,by omega⟩
 obtain ⟨v,ev⟩:∃ v:Nat,1+bF c ((1:Nat):Int) 2=v:=⟨(1+bF c ((1:Nat):Int) 2).toNat,by omega⟩
 obtain ⟨rw',er⟩:∃ rw',ni (.tup [.tup [.str "end",.int 0]]) (.int 60)=some (.leaf rw'):=⟨_,rfl⟩
 obtain ⟨cl,z,g1,e1⟩:=rz (c:=c) (b:=b) (w:=none) u (j:=0) (l:=[]) (z:=none) (by omega) (by simp;omega)
 obtain ⟨sh,y,g2,g3,e2⟩:=oS (c:=c) (b:=b) (z:=some (.lst (cl.map hdD))) v (j:=0) (l:=[]) (y:=z) (by omega) (by simp;omega)
 have l1:=congrArg List.length g1
 have l2:=congrArg List.length g2
 simp only [List.length_map,List.length_range'] at l1 l2
 rw [List.nil_append] at e1 e2
 refine ⟨cl,sh,rw',?_,uv g1 g2 (by omega) (by omega),g3,by omega,by omega⟩
 have a1:ab (toD (d2 bm (kD (.int 1)) (toD (aB y6 (ab (vL 0) (ab (kD (.int 0)) (ab (kD (.int 3)) au))))))) au [some (.leaf (.int c)),some (.leaf (.int b)),some (.lst []),none,none]=some [.int u]:=by
  have:=cH (g:=vL 0) (d:=[some (.leaf (.int c)),some (.leaf (.int b)),some (.lst []),none,none]) 0 (m:=3) (by decide) (x:=c) rfl
  rw [show ∀ (g:De->Option Dt) (d:De),ab (toD (d2 bm (kD (.int 1)) g)) au d=(((g d).bind fun y=>bm (.int 1) y).map T.d).bind fun d=>some [d] from fun _ _=>rfl,show toD (aB y6 (ab (vL 0) (ab (kD (.int 0)) (ab (kD (.int 3)) au)))) [some (.leaf (.int c)),some (.leaf (.int b)),some (.lst []),none,none]=some (.int (bF c ((0:Nat):Int) 3)) from this]
  show some [Dt.int (1+bF c ((0:Nat):Int) 3)]=_
  rw [eu]
 have a2:ab (toD (d2 bm (kD (.int 1)) (toD (aB y6 (ab (vL 0) (ab (kD (.int 1)) (ab (kD (.int 2)) au))))))) au [some (.leaf (.int c)),some (.leaf (.int b)),some (.lst (cl.map hdD)),z,some (.lst [])]=some [.int v]:=by
  have:=cH (g:=vL 0) (d:=[some (.leaf (.int c)),some (.leaf (.int b)),some (.lst (cl.map hdD)),z,some (.lst [])]) 1 (m:=2) (by decide) (x:=c) rfl
  rw [show ∀ (g:De->Option Dt) (d:De),ab (toD (d2 bm (kD (.int 1)) g)) au d=(((g d).bind fun y=>bm (.int 1) y).map T.d).bind fun d=>some [d] from fun _ _=>rfl,show toD (aB y6 (ab (vL 0) (ab (kD (.int 1)) (ab (kD (.int 2)) au)))) [some (.leaf (.int c)),some (.leaf (.int b)),some (.lst (cl.map hdD)),z,some (.lst [])]=some (.int (bF c ((1:Nat):Int) 2)) from this]
  show some [Dt.int (1+bF c ((1:Nat):Int) 2)]=_
  rw [ev]
 unfold y26
 rw [ou]
 show qR (dy _ _ [some (.leaf (.int c)),some (.leaf (.int b)),none,none,none])=_
 rw [dA,show cX 2 (bN au) [some (.leaf (.int c)),some (.leaf (.int b)),none,none,none]=some (.nx [some (.leaf (.int c)),some (.leaf (.int b)),some (.lst []),none,none]) from rfl,b7,dA,oQ a1 (by omega),gb,e1,b7,dA]
 rw [show cX 4 (bN au) [some (.leaf (.int c)),some (.leaf (.int b)),some (.lst (cl.map hdD)),z,none]=some (.nx [some (.leaf (.int c)),some (.leaf (.int b)),some (.lst (cl.map hdD)),z,some (.lst [])]) from rfl,b7,dA,oQ a2 (by omega),gb,e2,b7]
 show qR ((((ni (.tup [.tup [.str "end",.int 0]]) (.int 60)).map T.d).bind fun d=>(vn [.tup (cl.map hdD),.tup (sh.map hdD),d])).map Out.rt)=_
 rw [er]
 rfl
def seC (cl:List Hd):List (Str×Int):=cl.map fun h=>(h.1,0)
def seS (sh:List Hd):List (Str×Int):=sh.flatMap fun h=>(List.range' 0 h.2.1.toNat).map fun i:Nat=>(h.1,(i:Int))
def kn {pr:Dt} (sh:List Hd):∀ {ss:List (Str×Int)} {z2 z3 z4:Option T},(∀ h∈sh,0<=h.2.1/\h.2.1<=8)->ss.length+8*sh.length<=900->∃ z2' z3' z4',gS (cf 3 (aH (am 2) (aH (am 3) (aH (am 4) ce)))) q26 (sh.map hdD) [some (.leaf pr),some (.leaf (.lst (ss.map aY))),z2,z3,z4]=some (.nx [some (.leaf pr),some (.leaf (.lst ((ss++seS sh).map aY))),z2',z3',z4']):=by
 induction sh with
 | nil =>
  intro ss z2 z3 z4 _ _
  exact ⟨z2,z3,z4,by unfold seS;rw [List.flatMap_nil,List.append_nil];rfl⟩
 | cons h sh ih =>
  intro ss z2 z3 z4 hs hl
  have hh:=hs h (by simp)
  obtain ⟨m,em⟩:∃ m:Nat,h.2.1=m:=⟨h.2.1.toNat,by omega⟩
  have hc:cr (am 0) br y36 [none,some (.leaf (.str h.1))] (cj 0 m)=some (((List.range' 0 m).map fun i:Nat=>(h.1,(i:Int))).map aY):=by
   rw [gb,List.map_map]
   have e:cr (am 0) br y36 [none,some (.leaf (.str h.1))] ((List.range' 0 m).map fun i:Nat=>.int (i:Int))=some (((List.range' 0 m).map fun i:Nat=>Dt.int (i:Int)).map fun d=>.tup [.str h.1,d]):=gm fun d hd=>⟨_,rfl,rfl,rfl⟩
   rw [e,List.map_map]
   rfl
  have ec:toD (ck [none,some 2] (dO iM (ab (vL 3) au)) (am 0) br y36) [some (.leaf pr),some (.leaf (.lst (ss.map aY))),some (.leaf (.str h.1)),some (.leaf (.int m)),some (.leaf (.bl h.2.2))]=some (.lst (((List.range' 0 m).map fun i:Nat=>(h.1,(i:Int))).map aY)):=by
   rw [show ∀ (f:De->Option T) (d:De),toD f d=(f d).map T.d from fun _ _=>rfl,iq (ds:=cj 0 m) (by unfold dO;rw [show ab (vL 3) au [some (.leaf pr),some (.leaf (.lst (ss.map aY))),some (.leaf (.str h.1)),some (.leaf (.int m)),some (.leaf (.bl h.2.2))]=some [.int m] from rfl,Option.bind_some,oq (by omega)]) hc (by simp;omega)]
   rfl
  have step:q26 [some (.leaf pr),some (.leaf (.lst (ss.map aY))),some (.leaf (.str h.1)),some (.leaf (.int m)),some (.leaf (.bl h.2.2))]=some (.nx [some (.leaf pr),some (.leaf (.lst ((ss++(List.range' 0 m).map fun i:Nat=>(h.1,(i:Int))).map aY))),some (.leaf (.str h.1)),some (.leaf (.int m)),some (.leaf (.bl h.2.2))]):=by
   unfold q26 cX toT
   rw [show ∀ (g:De->Option Dt) (t0 t2 t3 t4:Option T),toD (d2 bm (vB 1) g) [t0,some (.leaf (.lst (ss.map aY))),t2,t3,t4]=((g [t0,some (.leaf (.lst (ss.map aY))),t2,t3,t4]).bind fun y=>bm (.lst (ss.map aY)) y).map T.d from fun _ _ _ _ _=>rfl,ec]
   have sz:1000<=sizeLine:=by decide
   rw [Option.bind_some,ya (by simp;rw [List.length_cons] at hl;omega),<- List.map_append]
   rfl
  obtain ⟨y2,y3,y4,e⟩:=ih (ss:=ss++(List.range' 0 m).map fun i:Nat=>(h.1,(i:Int))) (z2:=some (.leaf (.str h.1))) (z3:=some (.leaf (.int m))) (z4:=some (.leaf (.bl h.2.2))) (fun a ha=>hs a (by simp [ha])) (by simp;rw [List.length_cons] at hl;omega)
  refine ⟨y2,y3,y4,?_⟩
  rw [List.map_cons,gp (δ1:=[some (.leaf pr),some (.leaf (.lst (ss.map aY))),some (.leaf (.str h.1)),some (.leaf (.int m)),some (.leaf (.bl h.2.2))]) (by rw [<- em];rfl) step,e]
  have:ss++seS (h::sh)=(ss++(List.range' 0 m).map fun i:Nat=>(h.1,(i:Int)))++seS sh:=by
   unfold seS
   rw [List.flatMap_cons,em,Int.toNat_natCast,List.append_assoc]
  rw [this]
def uw {cl sh:List Hd} {rw:Dt} (hs:∀ h∈sh,0<=h.2.1/\h.2.1<=8) (hc:cl.length<=8) (hl:sh.length<=8):y31 [b9 cl sh rw]=some (.leaf (.lst ((seC cl++seS sh).map aY))):=by
 have h1:cr (cf 3 (aH (am 0) (aH (am 1) (aH (am 2) ce)))) br q31 [none,none,none] (cl.map hdD)=some ((seC cl).map aY):=by
  have:∀ cl:List Hd,cr (cf 3 (aH (am 0) (aH (am 1) (aH (am 2) ce)))) br q31 [none,none,none] (cl.map hdD)=some ((seC cl).map aY):=fun cl=>by
   induction cl with
   | nil=>rfl
   | cons h cl ih =>
    rw [List.map_cons]
    show ((cr (cf 3 (aH (am 0) (aH (am 1) (aH (am 2) ce)))) br q31 [none,none,none] (cl.map hdD)).bind fun ys=>some (aY (h.1,0)::ys))=_
    rw [ih]
    rfl
  exact this cl
 have e1:cX 1 (toT (toD (ck [none,none,none] (fIt (toD (d2 aS (vB 0) (kD (.int 0))))) (cf 3 (aH (am 0) (aH (am 1) (aH (am 2) ce)))) br q31))) [some (.leaf (b9 cl sh rw)),none,none,none,none]=some (.nx [some (.leaf (b9 cl sh rw)),some (.leaf (.lst ((seC cl).map aY))),none,none,none]):=by
  unfold cX toT
  rw [show ∀ (f:De->Option T) (d:De),toD f d=(f d).map T.d from fun _ _=>rfl,iq (ds:=cl.map hdD) rfl h1 (by unfold seC;simp;omega)]
  rfl
 obtain ⟨z2,z3,z4,e2⟩:=kn (pr:=b9 cl sh rw) sh (ss:=seC cl) (z2:=none) (z3:=none) (z4:=none) hs (by unfold seC;rw [List.length_map];omega)
 unfold y31
 rw [ou]
 show qR (dy _ _ [some (.leaf (b9 cl sh rw)),none,none,none,none])=_
 rw [dA,e1,b7,dA,show lO (fIt (toD (d2 aS (vB 0) (kD (.int 1))))) (cf 3 (aH (am 2) (aH (am 3) (aH (am 4) ce)))) q26 [some (.leaf (b9 cl sh rw)),some (.leaf (.lst ((seC cl).map aY))),none,none,none]=gS (cf 3 (aH (am 2) (aH (am 3) (aH (am 4) ce)))) q26 (sh.map hdD) [some (.leaf (b9 cl sh rw)),some (.leaf (.lst ((seC cl).map aY))),none,none,none] from rfl,e2,b7]
 rfl
structure S17 (sc pr se:Dt) (s L D:Nat) (δ:Sl):Prop where
 len:δ.length=17
 s0:δ[0]?=some (some (.dat sc))
 s1:δ[1]?=some (some (.dat pr))
 s2:δ[2]?=some (some (.dat se))
 s3:δ[3]?=some (some (.ref s))
 s4:δ[4]?=some (some (.ref L))
 s5:δ[5]?=some (some (.ref D))
def S17.set {sc pr se:Dt} {s L D i:Nat} {δ:Sl} (h:S17 sc pr se s L D δ) (hi:6<=i) (x:Option CV):S17 sc pr se s L D (δ.set i x):=⟨by rw [List.length_set];exact h.len,by rw [gN (by omega)];exact h.s0,by rw [gN (by omega)];exact h.s1,by rw [gN (by omega)];exact h.s2,by rw [gN (by omega)];exact h.s3,by rw [gN (by omega)];exact h.s4,by rw [gN (by omega)];exact h.s5⟩
def S17.at {sc pr se:Dt} {s L D i:Nat} {δ:Sl} (h:S17 sc pr se s L D δ) (hi:i<17) (x:Option CV):(δ.set i x)[i]?=some x:=List.getElem?_set_self (by rw [h.len];exact hi)
def zk (s:Str×Int):List Key×CV:=([.inr s.1,.inl s.2],.dat (.int 0))
def hmO (cl:List Hd):Hm:=cl.map fun h=>(h.1,[0])
def hmZ (cl sh:List Hd):Hm:=hmO cl++hmS sh
def nI (x:Str):∀ (n k:Nat),dI x k (List.replicate n 0)=((List.range' k n).map fun i:Nat=>(x,(i:Int))).map zk
 | 0,_=>rfl
 | n+1,k=>by
  rw [List.replicate_succ,dI,nI x n (k+1),List.range'_succ,List.map_cons,List.map_cons]
  rfl
def ux (cl sh:List Hd):(seC cl++seS sh).map zk=dTm (hmZ cl sh):=by
 unfold hmZ
 rw [qg,List.map_append]
 congr 1
 · induction cl with
   | nil=>rfl
   | cons h cl ih =>
    show zk (h.1,0)::(seC cl).map zk=dI h.1 0 [0]++dTm (hmO cl)
    rw [ih]
    rfl
 · induction sh with
   | nil=>rfl
   | cons h sh ih =>
    show (seS (h::sh)).map zk=dI h.1 0 (List.replicate h.2.1.toNat 0)++dTm (hmS sh)
    rw [nI,<- ih]
    unfold seS
    rw [List.flatMap_cons,List.map_append]
def rA (cl sh:List Hd):(hmZ cl sh).map (·.1)=(hm0 cl sh).map (·.1):=by
 unfold hmZ hmO hm0 hmC
 rw [List.map_append,List.map_append,List.map_map,List.map_map]
 rfl
def uy {x:Str} {vs:List Int} {k:Nat} {v:Int} {B:Hm}:∀ {A:Hm},x∉A.map (·.1)->st (A++(x,vs)::B) x k v=A++(x,vs.set k v)::B
 | [],_=>by rw [List.nil_append,st,if_pos rfl];rfl
 | p::A,h=>by
  rw [List.cons_append,st,if_neg (fun z=>h (by rw [<- z];simp)),uy fun z=>h (by rw [List.map_cons];exact List.mem_cons_of_mem _ z)]
  rfl
section
variable {ch:CH} {δ:Sl} {R:List (Nat×CO)} {cl sh:List Hd} {sc pr se:Dt} {s L D:Nat}
def nJ {fo fx fy fe:Fg} {q:Nat} {l:List (List Key×CV)} {x:Str} {k v:Int} (ho:fo δ ch=some (.ref q,ch)) (hx:fx δ ch=some (.dat (.str x),ch)) (hy:fy δ ch=some (.dat (.int k),ch)) (he:fe δ ch=some (.dat (.int v),ch)) (hD:ch[q]?=some (.dT l)) (hl:l.length<1000) (nd:(l.map (·.1)).Nodup) :
  iS fo (ae fx (ae fy ar)) fe δ ch=some (.nx δ (ch.set q (.dT (dG l [.inr x,.inl k] (.dat (.int v)))))):=by
 unfold iS
 rw [he,Option.bind_some]
 dsimp only
 rw [ho,Option.bind_some]
 dsimp only
 rw [av hx (av hy rfl),Option.bind_some]
 have sz:1000<=sizeLine:=by decide
 simp only [hD]
 rw [if_pos ⟨by simp only [List.length_cons,List.length_nil];omega,by omega,nd⟩]
 rfl
def uz (ss:List (Str×Int)):∀ {done:List (Str×Int)} {δ:Sl} {ch:CH},(((done++ss).map zk).map (·.1)).Nodup->(done++ss).length<=900->Hv ch ((D,.dT (done.map zk))::R)->S17 sc pr se s L D δ→
  ∃ δ2 ch2,dw [6,7] (cf 2 (aH (am 6) (aH (am 7) ce))) q62 (ss.map aY) δ ch=some (.nx δ2 ch2)/\Hv ch2 ((D,.dT ((done++ss).map zk))::R)/\S17 sc pr se s L D δ2:=by
 induction ss with
 | nil =>
  intro done δ ch _ _ h hδ
  exact ⟨δ,ch,rfl,by rw [List.append_nil];exact h,hδ⟩
 | cons t ss ih =>
  intro done δ ch nd hl h hδ
  have e0:done++t::ss=(done++[t])++ss:=by simp
  rw [e0] at nd hl ⊢
  have q':=(hδ.set (i:=6) (by decide) (some (.dat (.str t.1)))).set (i:=7) (by decide) (some (.dat (.int t.2)))
  have t6:((δ.set 6 (some (.dat (.str t.1)))).set 7 (some (.dat (.int t.2))))[6]?=some (some (.dat (.str t.1))):=by rw [gN (by decide)];exact hδ.at (by decide) _
  have t7:((δ.set 6 (some (.dat (.str t.1)))).set 7 (some (.dat (.int t.2))))[7]?=some (some (.dat (.int t.2))):=(hδ.set (i:=6) (by decide) _).at (by decide) _
  have nd1:(((done++[t]).map zk).map (·.1)).Nodup:=by
   rw [List.map_append,List.map_append] at nd
   exact (List.nodup_append.mp nd).1
  have nd0:((done.map zk).map (·.1)).Nodup:=by
   rw [List.map_append,List.map_append] at nd1
   exact (List.nodup_append.mp nd1).1
  have hx:([.inr t.1,.inl t.2]:List Key)∉(done.map zk).map (·.1):=fun z=>by
   rw [List.map_append,List.map_append] at nd1
   exact (List.nodup_append.mp nd1).2.2 _ z _ (by simp [zk]) rfl
  have step:=nJ (fo:=eV 5) (fx:=eD (vL 6)) (fy:=eD (vL 7)) (fe:=eD (kD (.int 0))) (aK q'.s5) (aO (bz t6)) (aO (bz t7)) (aO (d:=.int 0) rfl) (h.at 0 rfl) (by rw [List.length_map];simp at hl;omega) nd0
  rw [nG hx,show done.map zk++[([.inr t.1,.inl t.2],CV.dat (.int 0))]=(done++[t]).map zk by rw [List.map_append];rfl] at step
  have H:=h.set 0 rfl (.dT ((done++[t]).map zk))
  obtain ⟨δ2,c2,e,h1,h2⟩:=ih (done:=done++[t]) nd hl H q'
  refine ⟨δ2,c2,?_,h1,h2⟩
  rw [List.map_cons,<- e]
  exact iW (a:=.str t.1) (b:=.int t.2) (by decide) (by rw [hδ.len];decide) (by rw [hδ.len];decide) step
def rB {B:Hm} (cl:List Hd):∀ {A:Hm} {δ:Sl} {ch:CH},((A++(hmO cl++B)).map (·.1)).Nodup->(∀ hm:Hm,shp hm=shp (A++(hmO cl++B))->(dTm hm).length<900)->Hv ch ((D,.dT (dTm (A++(hmO cl++B))))::R)->S17 sc pr se s L D δ→
  ∃ δ2 ch2,dw [6,8,9] (cf 3 (aH (am 6) (aH (am 8) (aH (am 9) ce)))) q61 (cl.map hdD) δ ch=some (.nx δ2 ch2)/\Hv ch2 ((D,.dT (dTm (A++(hmC cl++B))))::R)/\S17 sc pr se s L D δ2:=by
 induction cl with
 | nil =>
  intro A δ ch _ _ h hδ
  exact ⟨δ,ch,rfl,h,hδ⟩
 | cons a cl ih =>
  intro A δ ch nd tot h hδ
  have e0:A++(hmO (a::cl)++B)=A++(a.1,[0])::(hmO cl++B):=rfl
  rw [e0] at nd tot h
  have q':=((hδ.set (i:=6) (by decide) (some (.dat (.str a.1)))).set (i:=8) (by decide) (some (.dat (.int a.2.1)))).set (i:=9) (by decide) (some (.dat (.bl a.2.2)))
  have t6:(((δ.set 6 (some (.dat (.str a.1)))).set 8 (some (.dat (.int a.2.1)))).set 9 (some (.dat (.bl a.2.2))))[6]?=some (some (.dat (.str a.1))):=in3 (by rw [hδ.len];decide) (by decide) (by decide)
  have t8:(((δ.set 6 (some (.dat (.str a.1)))).set 8 (some (.dat (.int a.2.1)))).set 9 (some (.dat (.bl a.2.2))))[8]?=some (some (.dat (.int a.2.1))):=by
   rw [gN (by decide),List.getElem?_set_self (by rw [List.length_set,hδ.len];decide)]
  have hx:a.1∉A.map (·.1):=fun z=>by
   rw [List.map_append] at nd
   exact (List.nodup_append.mp nd).2.2 _ z a.1 (by simp) rfl
  have hlk:lkS (A++(a.1,[0])::(hmO cl++B)) a.1=some [0]:=jB nd (List.mem_append_right _ (.head _))
  have step:=nJ (fo:=eV 5) (fx:=eD (vL 6)) (fy:=eD (kD (.int 0))) (fe:=eD (vL 8)) (k:=((0:Nat):Int)) (aK q'.s5) (aO (bz t6)) rfl (aO (bz t8)) (h.at 0 rfl) (by have:=tot _ rfl;omega) (mq nd)
  rw [mo hlk (by simp),qh hlk,uy hx] at step
  have H:=h.set 0 rfl (.dT (dTm (A++(a.1,[a.2.1])::(hmO cl++B))))
  have e1:A++(a.1,[a.2.1])::(hmO cl++B)=(A++[(a.1,[a.2.1])])++(hmO cl++B):=by simp
  rw [e1] at H
  obtain ⟨δ2,c2,e,h1,h2⟩:=ih (A:=A++[(a.1,[a.2.1])]) (by
   rw [<- e1]
   have:(A++(a.1,[a.2.1])::(hmO cl++B)).map (·.1)=(A++(a.1,[0])::(hmO cl++B)).map (·.1):=by simp
   rw [this]
   exact nd) (fun hm hh=>tot hm (by rw [hh];simp [shp])) H q'
  refine ⟨δ2,c2,?_,?_,h2⟩
  · rw [List.map_cons,<- e]
    rw [show [0].set 0 a.2.1=[a.2.1] from rfl,e1] at step
    exact rj (a:=.str a.1) (b:=.int a.2.1) (c:=.bl a.2.2) (by decide) (by decide) (by decide) (by rw [hδ.len];decide) (by rw [hδ.len];decide) (by rw [hδ.len];decide) step
  · have:A++(hmC (a::cl)++B)=(A++[(a.1,[a.2.1])])++(hmC cl++B):=by unfold hmC;simp
    rw [this]
    exact h1
def tot0 (hsz:∀ h∈sh,0<=h.2.1/\h.2.1<=8) (hcl:cl.length<=8) (hsh:sh.length<=8):∀ hm,shp hm=shp (hm0 cl sh)->(dTm hm).length<900:=fun hm hh=>by
 have h1:(dTm (hm0 cl sh)).length<=8*(hm0 cl sh).length:=lm _ fun s hs=>by
  unfold hm0 at hs
  rcases List.mem_append.mp hs with hs | hs
  · obtain ⟨h,_,rfl⟩:=List.mem_map.mp hs
    exact (by decide:1<=8)
  · obtain ⟨h,hh,rfl⟩:=List.mem_map.mp hs
    have:=hsz h hh
    show (List.replicate h.2.1.toNat (0:Int)).length<=8
    rw [List.length_replicate]
    omega
 have h2:(hm0 cl sh).length=cl.length+sh.length:=by unfold hm0 hmC hmS;rw [List.length_append,List.length_map,List.length_map]
 have h3:=congrArg List.length (ub (hm:=hm) (hm':=hm0 cl sh) hh)
 rw [List.length_map,List.length_map] at h3
 omega
def wo (nd:((hm0 cl sh).map (·.1)).Nodup) (hsz:∀ h∈sh,0<=h.2.1/\h.2.1<=8):∀ t∈seC cl++seS sh,vS (shp (hm0 cl sh)) t:=fun t ht=>by
 rcases List.mem_append.mp ht with ht | ht
 · obtain ⟨h,hh,rfl⟩:=List.mem_map.mp ht
   refine ⟨1,0,?_,rfl,by decide⟩
   rw [jC,jB nd (v:=[h.2.1]) (List.mem_append_left _ (List.mem_map.mpr ⟨h,hh,rfl⟩))]
   rfl
 · unfold seS at ht
   obtain ⟨h,hh,ht⟩:=List.mem_flatMap.mp ht
   obtain ⟨i,hi,rfl⟩:=List.mem_map.mp ht
   have:=List.mem_range'_1.mp hi
   refine ⟨h.2.1.toNat,i,?_,rfl,by omega⟩
   rw [jC,jB nd (v:=List.replicate h.2.1.toNat 0) (List.mem_append_right _ (List.mem_map.mpr ⟨h,hh,rfl⟩)),Option.map_some,List.length_replicate]
def rC (hsz:∀ h∈sh,0<=h.2.1/\h.2.1<=8) (hcl:cl.length<=8) (hsh:sh.length<=8):(seC cl++seS sh).length<=100:=by
 have key:∀ sh:List Hd,(∀ h∈sh,0<=h.2.1/\h.2.1<=8)->(seS sh).length<=8*sh.length:=fun sh=>by
  induction sh with
  | nil=>intro _;exact nL _
  | cons h sh ih =>
   intro hs
   have h1:=ih fun a ha=>hs a (by simp [ha])
   have h2:=hs h (by simp)
   unfold seS at h1 ⊢
   rw [List.flatMap_cons,List.length_append,List.length_map,List.length_range',List.length_cons]
   omega
 have:=key sh hsz
 unfold seC
 rw [List.length_append,List.length_map]
 omega
end
section
variable {ch c1 c2:CH} {δ:Sl} {X R:List (Nat×CO)} {G:List (Str×Nat)} {sc pr se:Dt} {s L D:Nat} {P:Pl} {S:Sta}
def rD {i n j:Nat} {b:Fb} {g:Fs} {l:List CV} {c:CV} {δ1 δ2:Sl} (h1:ch[i]?=some (.lst l)) (h2:l[j]?=some c) (h3:b c ch δ=some δ1) (h4:g δ1 ch=some (.nx δ2 c2)):iT i b g (n+1) j δ ch=iT i b g n (j+1) δ2 c2:=by
 rw [iT]
 simp only [h1,h2,h3,Option.bind_some,h4]
def uA {i n j:Nat} {b:Fb} {g:Fs} {l:List CV} (h1:ch[i]?=some (.lst l)) (h2:l[j]?=none):iT i b g (n+1) j δ ch=some (.nx δ ch):=by
 rw [iT]
 simp only [h1,h2]
def wp {hm:Hm} {t:Tn} (hs:shp hm=G) (nd:(G.map (·.1)).Nodup) (tot:(dTm hm).length<900) (hv:vS G t.1) (h5:δ[5]?=some (some (.ref D))) (h15:δ[15]?=some (some (.dat (.tup [.str t.1.1,.int t.1.2])))) (h16:δ[16]?=some (some (.dat (.int t.2)))) (hD:ch[D]?=some (.dT (dTm hm))) :
  y45 δ ch=some (.nx δ (ch.set D (.dT (dTm (st hm t.1.1 t.1.2.toNat t.2))))):=by
 rw [<- hs] at hv nd
 obtain ⟨vs,v,h1,h2,h3,h4⟩:=xi hv
 have ndm:(hm.map (·.1)).Nodup:=by
  unfold shp at nd
  rw [List.map_map] at nd
  exact nd
 have hk:=oI h1 h4
 have hp:=mo (v:=t.2) h1 h3
 rw [<- h2] at hk hp
 rw [qh h1] at hp
 have ha:((dTm hm).any fun z=>decide (z.1=[.inr t.1.1,.inl t.1.2]))=true:=by
  unfold lkC at hk
  obtain ⟨p,hf,_⟩:=mS hk
  rw [List.any_eq_true]
  exact ⟨p,List.mem_of_find?_eq_some hf,List.find?_some (p:=fun p:List Key×CV=>decide (p.1=[.inr t.1.1,.inl t.1.2])) hf⟩
 unfold y45 mj
 rw [aO (bz h16),Option.bind_some]
 dsimp only
 rw [aK h5,Option.bind_some]
 dsimp only
 rw [aO (bz h15),Option.bind_some]
 simp only [hD]
 have sz:1000<=sizeLine:=by decide
 rw [show ji ([Dt.str t.1.1,.int t.1.2].map .dat)=some [.inr t.1.1,.inl t.1.2] from rfl,Option.bind_some,if_pos ⟨ha,by omega,mq ndm⟩,hp]
def nK {c':Nat} {ts:List Tn} {cl11:Dt} (nd:(G.map (·.1)).Nodup) (tot:∀ hm,shp hm=G->(dTm hm).length<900) (hv:∀ t∈ts,vS G t.1) (hX:(c',tl ts)∈X):∀ (rest done:List Tn) {n:Nat} {δ:Sl} {ch:CH} {hm:Hm},ts=done++rest->rest.length<n->shp hm=G->Hv ch ((D,.dT (dTm hm))::X)->S17 sc pr se s L D δ->δ[11]?=some (some (.dat cl11))→
  ∃ δ2 ch2,iT c' (ggT 2 (bv (ggN 15) (bv (ggN 16) d7))) y45 n done.length δ ch=some (.nx δ2 ch2)/\Hv ch2 ((D,.dT (dTm (ap rest hm)))::X)/\S17 sc pr se s L D δ2/\δ2[11]?=some (some (.dat cl11))
 | [],done,n,δ,ch,hm,e,hn,hs,h,hδ,h11=>by
  obtain ⟨m,rfl⟩:∃ m,n=m+1:=⟨n-1,by simp at hn;omega⟩
  refine ⟨δ,ch,uA (h.2 (c',tl ts) (List.mem_cons_of_mem _ hX)) ?_,h,hδ,h11⟩
  rw [List.getElem?_map,e,List.append_nil,List.getElem?_eq_none (nL _)]
  rfl
 | t::rest,done,n,δ,ch,hm,e,hn,hs,h,hδ,h11=>by
  obtain ⟨m,rfl⟩:∃ m,n=m+1:=⟨n-1,by simp at hn;omega⟩
  rw [List.length_cons] at hn
  have hc:=h.2 (c',tl ts) (List.mem_cons_of_mem _ hX)
  have q':=(hδ.set (i:=15) (by decide) (some (.dat (.tup [.str t.1.1,.int t.1.2])))).set (i:=16) (by decide) (some (.dat (.int t.2)))
  have t15:((δ.set 15 (some (.dat (.tup [.str t.1.1,.int t.1.2])))).set 16 (some (.dat (.int t.2))))[15]?=some (some (.dat (.tup [.str t.1.1,.int t.1.2]))):=by rw [gN (by decide)];exact hδ.at (by decide) _
  have t16:((δ.set 15 (some (.dat (.tup [.str t.1.1,.int t.1.2])))).set 16 (some (.dat (.int t.2))))[16]?=some (some (.dat (.int t.2))):=(hδ.set (i:=15) (by decide) _).at (by decide) _
  have t11:((δ.set 15 (some (.dat (.tup [.str t.1.1,.int t.1.2])))).set 16 (some (.dat (.int t.2))))[11]?=some (some (.dat cl11)):=by rw [gN (by decide),gN (by decide)];exact h11
  have htm:t∈ts:=by rw [e];simp
  have step:=wp hs nd (tot hm hs) (hv t htm) q'.s5 t15 t16 (h.at 0 rfl)
  have H:=h.set 0 rfl (.dT (dTm (st hm t.1.1 t.1.2.toNat t.2)))
  obtain ⟨δ2,c2,e2,k1,k2,k3⟩:=nK (c':=c') (ts:=ts) nd tot hv hX rest (done++[t]) (n:=m) (by rw [e];simp) (by omega) (st_shp.trans hs) H q' t11
  refine ⟨δ2,c2,?_,k1,k2,k3⟩
  rw [List.length_append,List.length_cons,List.length_nil] at e2
  exact (rD hc (by
   rw [List.getElem?_map,e,gR (nL _),Nat.sub_self]
   rfl) rfl step).trans e2
noncomputable def Iv (G:List (Str×Nat)) (sc pr se:Dt) (δ:Sl) (ch:CH):Prop:=∃ (P:Pl) (S:Sta) (D L a b c:Nat) (last:Pg),S17 sc pr se P.s L D δ/\Hv ch (cs P S ((D,.dT (dTm S.hm))::wl L a b c last))/\Ok G P S/\S.pg S.f=last/\last.h.length=4/\(∀ t∈last.t,vS G t.1)/\last.t.length<=20
def mv {k0 k1 k2 k3 k4 k5:Int} (h11:δ[11]?=some (some (.dat (clD k0 k1 k2 k3 k4 k5)))):toD (d2 aS (vB 11) (kD (.int 5))) (lo δ ch)=some (.int k5):=by
 unfold toD d2
 rw [bL h11]
 rfl
noncomputable def rest:Fs:=aN (iU (eIx (eV 4) (eD (kD (.int 2)))) (ggT 2 (bv (ggN 15) (bv (ggN 16) d7))) y45 100000)
  (aN (dW (tD (tB2 (gEq false) (toD (aB y6 (ab (toD (d2 aS (vB 11) (kD (.int 5)))) (ab (kD (.int 3)) (ab (kD (.int 3)) au))))) (kD (.int 0)))) (cb (eC y12 (ae (eV 3) (ae (eD (toD (aB y6 (ab (toD (d2 aS (vB 11) (kD (.int 5)))) (ab (kD (.int 4)) (ab (kD (.int 10)) au)))))) ar)))) dh)
  (aN (cb (eC y12 (ae (eV 3) (ae (eD (kD (.int 99))) ar))))
  (dW (sZ (iw (gB (eC z12 (ae (eV 3) (ae (eV 4) ar))))) (iw (gB (eC q17 (ae (eV 3) (ae (eV 5) ar)))))) (cv (eD (kD (.bl false)))) dh)))
def wq {a b c:Nat} {last:Pg} {hm:Hm} {us:List Tn} {k0 k1 k2 k3 k4 k5:Int} (hδ:S17 sc pr se P.s L D δ) (h11:δ[11]?=some (some (.dat (clD k0 k1 k2 k3 k4 k5)))) (h:Hv ch (cs P S ((D,.dT (dTm hm))::wl L a b c last))) (ok:Ok G P S) (el:S.pg S.f=last) (hh:last.h.length=4) (hv:∀ t∈last.t,vS G t.1) (ht:last.t.length<=20) (hus:S.hm=ap us hm) (husub:∀ u∈us,u∈last.t) :
  ∃ δ2 ch2,rest δ ch=some (.nx δ2 ch2)/\Iv G sc pr se δ2 ch2:=by
 have w0:=gF h (q:=L) (a:=a) (b:=b) (c:=c) (p:=last) (fun x hx=>List.mem_cons_of_mem _ hx)
 have hF:=h.perm cs_mid
 have shm:shp hm=G:=by
  have:=ok.sh
  rw [hus,ms] at this
  exact this
 obtain ⟨δ1,c1,e1,H1,q1,t11⟩:=nK (c':=c) (ts:=last.t) (L:=L) (s:=P.s) (sc:=sc) (pr:=pr) (se:=se) ok.nd ok.tot hv (X:=cs P S (wl L a b c last)) (by
  unfold cs wl
  simp) last.t [] (n:=100000) rfl (by omega) shm hF hδ h11
 have x1:iU (eIx (eV 4) (eD (kD (.int 2)))) (ggT 2 (bv (ggN 15) (bv (ggN 16) d7))) y45 100000 δ ch=some (.nx δ1 c1):=by
  unfold iU
  rw [cm (aK hδ.s4) (aO (fd:=kD (.int 2)) (d:=.int 2) rfl) w0.q (x:=.ref c) rfl,Option.bind_some]
  exact e1
 have H2:=H1.perm cs_mid.symm
 -- some of the turns,perhaps
 have p3:=cH (d:=lo δ1 c1) 3 (m:=3) (by decide) (mv (ch:=c1) t11)
 have h4:=cU k5 4 (m:=10) (by decide)
 obtain ⟨n4,en4⟩:∃ n:Nat,bF k5 ((4:Nat):Int) 10=n:=⟨(bF k5 ((4:Nat):Int) 10).toNat,by omega⟩
 have p4:=cH (d:=lo δ1 c1) 4 (m:=10) (by decide) (mv (ch:=c1) t11)
 rw [en4] at p4
 have T:tD (tB2 (gEq false) (toD (aB y6 (ab (toD (d2 aS (vB 11) (kD (.int 5)))) (ab (kD (.int 3)) (ab (kD (.int 3)) au))))) (kD (.int 0))) δ1 c1=some (decide (bF k5 ((3:Nat):Int) 3=0),c1):=lh (by
  rw [show ∀ (g:De->Option Dt) (d:De),tB2 (gEq false) g (kD (.int 0)) d=((g d).bind fun x=>gEq false x (.int 0)).bind (fun t=>match t with | .leaf (.bl b)=>some b | _=>none) from fun _ _=>rfl,show toD (aB y6 (ab (toD (d2 aS (vB 11) (kD (.int 5)))) (ab (kD (.int 3)) (ab (kD (.int 3)) au)))) (lo δ1 c1)=some (.int (bF k5 ((3:Nat):Int) 3)) from p3]
  rfl)
 have x2:∃ c2 vs,(∀ u∈vs,u∈last.t)/\dW (tD (tB2 (gEq false) (toD (aB y6 (ab (toD (d2 aS (vB 11) (kD (.int 5)))) (ab (kD (.int 3)) (ab (kD (.int 3)) au))))) (kD (.int 0)))) (cb (eC y12 (ae (eV 3) (ae (eD (toD (aB y6 (ab (toD (d2 aS (vB 11) (kD (.int 5)))) (ab (kD (.int 4)) (ab (kD (.int 10)) au)))))) ar)))) dh δ1 c1=some (.nx δ1 c2)/\Hv c2 (cs P {S with hm:=ap vs S.hm} ((D,.dT (dTm (ap last.t hm)))::wl L a b c last)):=by
  rw [fB,T]
  by_cases hz:bF k5 ((3:Nat):Int) 3=0
  · obtain ⟨c2,e2,g2⟩:=ke (m:=n4) H2 ok el hh hv
    refine ⟨c2,last.t.take n4,fun u hu=>List.mem_of_mem_take hu,?_,g2⟩
    rw [d5 (by simpa using hz)]
    exact cq ((fW (g:=y12) (av (aK q1.s3) (av (aO (show toD (aB y6 (ab (toD (d2 aS (vB 11) (kD (.int 5)))) (ab (kD (.int 4)) (ab (kD (.int 10)) au)))) (lo δ1 c1)=some (.int n4) from p4)) rfl))).trans e2)
  · refine ⟨c1,[],(fun u hu=>by cases hu),?_,H2⟩
    rw [d6 (by simpa using hz)]
    rfl
 obtain ⟨c2,vs,hvs,x2,H3⟩:=x2
 -- all of them
 obtain ⟨c3,e3,H4⟩:=ke (m:=99) H3 (ok.ap (S':={S with hm:=ap vs S.hm}) (ts:=vs) rfl rfl) el hh hv
 have x3:cb (eC y12 (ae (eV 3) (ae (eD (kD (.int 99))) ar))) δ1 c2=some (.nx δ1 c3):=cq ((fW (g:=y12) (av (aK q1.s3) (av (aO (fd:=kD (.int 99)) (d:=.int ((99:Nat):Int)) rfl) rfl))).trans e3)
 have eh:ap (last.t.take 99) (ap vs S.hm)=ap last.t hm:=by
  rw [List.take_of_length_le (by omega),mr hvs,hus,mr husub]
 have H5:Hv c3 (cs P {S with hm:=ap last.t hm} ((D,.dT (dTm (ap last.t hm)))::wl L a b c last)):=by
  rw [<- eh]
  rw [show ({S with hm:=ap (last.t.take 99) (ap vs S.hm)}:Sta)={({S with hm:=ap vs S.hm}:Sta) with hm:=ap (last.t.take 99) (ap vs S.hm)} from rfl]
  rw [eh]
  rw [eh] at H4
  exact H4
 have ok':Ok G P {S with hm:=ap last.t hm}:=⟨ok.pl,by rw [show ({S with hm:=ap last.t hm}:Sta).hm=ap last.t hm from rfl,ms];exact shm,ok.nd,ok.tot⟩
 have w5:=gF H5 (q:=L) (a:=a) (b:=b) (c:=c) (p:=last) (fun x hx=>List.mem_cons_of_mem _ hx)
 obtain ⟨g,e5⟩:=gx H5 hh w5 el
 obtain ⟨c6,e6,H6⟩:=qm (H5.app g) ok'
 refine ⟨δ1,c6,?_,P,{S with hm:=ap last.t hm},D,L,a,b,c,last,q1,H6,ok',el,hh,hv,ht⟩
 unfold rest
 rw [aI,x1,aA,aI,x2,aA,aI,x3,aA]
 refine kc ?_
 unfold sZ
 rw [jz ((fW (g:=z12) (av (aK q1.s3) (av (aK q1.s4) rfl))).trans e5),Option.bind_some]
 dsimp only
 rw [show (!true)=false from rfl,if_neg (by decide),jz ((fW (g:=q17) (av (aK q1.s3) (av (aK q1.s5) rfl))).trans e6)]
 rfl
end
section
variable {ch c1 c2:CH} {δ:Sl} {G:List (Str×Nat)} {sc pr se:Dt} {s L D:Nat} {P:Pl} {S:Sta} {k0 k1 k2 k3 k4 k5:Int}
def gy {fe:De->Option Dt} {env:De} {d y:Dt} {r ys:List Dt} (h1:fe (env.set 0 (some (.leaf d)))=some y) (h2:cr (am 0) br fe env r=some ys):cr (am 0) br fe env (d::r)=some (y::ys):=by
 show ((fe (env.set 0 (some (.leaf d)))).bind fun y=>(cr (am 0) br fe env r).bind fun ys=>some (y::ys))=_
 rw [h1,h2]
 rfl
def uB {ns:List Int} {k:Nat} (hk:k<=900) (h0:δ[0]?=some (some (.dat (.lst (ns.map .int))))) (h10:δ[10]?=some (some (.dat (.int k)))):∃ k0 k1 k2 k3 k4 k5,toD (ck [none,some 0,some 10] (dO iM (ab (kD (.int 6)) au)) (am 0) br z48) (lo δ ch)=some (clD k0 k1 k2 k3 k4 k5):=by
 have ex:∀ i:Nat,i<=5->∃ v,z48 [some (.leaf (.int (i:Int))),some (.leaf (.lst (ns.map .int))),some (.leaf (.int k))]=some (.int v):=fun i hi=>by
  obtain ⟨v,e⟩:=j9 ns (k+i) (by omega)
  refine ⟨v,?_⟩
  unfold z48
  show (y19 [.lst (ns.map .int),.int ((k:Int)+(i:Int))]).map T.d=_
  rw [show (k:Int)+(i:Int)=((k+i:Nat):Int) by omega,e]
  rfl
 obtain ⟨v0,e0⟩:=ex 0 (by decide)
 obtain ⟨v1,e1⟩:=ex 1 (by decide)
 obtain ⟨v2,e2⟩:=ex 2 (by decide)
 obtain ⟨v3,e3⟩:=ex 3 (by decide)
 obtain ⟨v4,e4⟩:=ex 4 (by decide)
 obtain ⟨v5,e5⟩:=ex 5 (by decide)
 refine ⟨v0,v1,v2,v3,v4,v5,?_⟩
 have hc:cr (am 0) br z48 [none,some (.leaf (.lst (ns.map .int))),some (.leaf (.int k))] [.int ((0:Nat):Int),.int ((1:Nat):Int),.int ((2:Nat):Int),.int ((3:Nat):Int),.int ((4:Nat):Int),.int ((5:Nat):Int)]=some [.int v0,.int v1,.int v2,.int v3,.int v4,.int v5]:=
  gy e0 (gy e1 (gy e2 (gy e3 (gy e4 (gy e5 rfl)))))
 rw [show ∀ (f:De->Option T) (d:De),toD f d=(f d).map T.d from fun _ _=>rfl,iq (ds:=[.int ((0:Nat):Int),.int ((1:Nat):Int),.int ((2:Nat):Int),.int ((3:Nat):Int),.int ((4:Nat):Int),.int ((5:Nat):Int)]) rfl (ys:=[.int v0,.int v1,.int v2,.int v3,.int v4,.int v5]) ?_ (by simp)]
 · rfl
 · rw [show dC [none,some 0,some 10] (lo δ ch)=[none,((lo δ ch)[0]?).join,((lo δ ch)[10]?).join] from rfl,jX h0,jX h10]
   exact hc
def rE {n:Nat} (h11:δ[11]?=some (some (.dat (clD k0 k1 k2 k3 k4 k5)))) (h13:δ[13]?=some (some (.dat (.int n)))):∃ B:Nat,toD (d2 aS (toD (bN (ab (vL 13) (ab (vL 13) (ab (toD (aB y6 (ab (toD (d2 aS (vB 11) (kD (.int 5)))) (ab (kD (.int 1)) (ab (toD (d2 bm (vB 13) (kD (.int 1)))) au))))) au))))) (toD (aB iA (ab (kD (.int 2)) (ab (toD (aB y6 (ab (toD (d2 aS (vB 11) (kD (.int 5)))) (ab (kD (.int 2)) (ab (kD (.int 5)) au))))) au))))) (lo δ ch)=some (.int (B:Nat)):=by
 have h1:=cU k5 1 (m:=(n:Int)+1) (by omega)
 obtain ⟨x,ex⟩:∃ x:Nat,bF k5 ((1:Nat):Int) ((n:Int)+1)=x:=⟨(bF k5 ((1:Nat):Int) ((n:Int)+1)).toNat,by omega⟩
 have a3:toD (d2 bm (vB 13) (kD (.int 1))) (lo δ ch)=some (.int ((n:Int)+1)):=by
  unfold toD d2
  rw [bL h13]
  rfl
 have px:toD (aB y6 (ab (toD (d2 aS (vB 11) (kD (.int 5)))) (ab (kD (.int 1)) (ab (toD (d2 bm (vB 13) (kD (.int 1)))) au)))) (lo δ ch)=some (.int x):=by
  rw [<- ex]
  exact xk (mv (ch:=ch) h11) (g2:=kD (.int 1)) (b:=.int ((1:Nat):Int)) rfl a3 h1.1
 have py:=cH (d:=lo δ ch) 2 (m:=5) (by decide) (mv (ch:=ch) h11)
 have hy:=cU k5 2 (m:=5) (by decide)
 obtain ⟨y,ey⟩:∃ y:Nat,bF k5 ((2:Nat):Int) 5=y:=⟨(bF k5 ((2:Nat):Int) 5).toNat,by omega⟩
 rw [ey] at py
 rw [show ∀ (g1 g2 g3 g4:De->Option Dt) (d:De),toD (d2 aS (toD (bN (ab g1 (ab g2 (ab g3 au))))) (toD (aB iA (ab (kD (.int 2)) (ab g4 au))))) d=((((((g1 d).bind fun x=>((g2 d).bind fun y=>((g3 d).bind fun z=>some [z]).bind fun ds=>some (y::ds)).bind fun ds=>some (x::ds)).bind mkL).map T.d).bind fun x=>(((((g4 d).bind fun z=>some [z]).bind fun ds=>some (.int 2::ds)).bind iA).map T.d).bind fun y=>aS x y).map T.d) from fun _ _ _ _ _=>rfl,
  bz h13,px,show toD (aB y6 (ab (toD (d2 aS (vB 11) (kD (.int 5)))) (ab (kD (.int 2)) (ab (kD (.int 5)) au)))) (lo δ ch)=some (.int y) from py]
 show ∃ B:Nat,Option.map T.d (aS (.lst [.int n,.int n,.int x]) (.int (if (y:Int)<2 then (y:Int) else 2)))=some (.int (B:Nat))
 rcases (show (if (y:Int)<2 then (y:Int) else 2)=0∨(if (y:Int)<2 then (y:Int) else 2)=1∨(if (y:Int)<2 then (y:Int) else 2)=2 by split<;>omega) with e | e | e
 · rw [e];exact ⟨n,rfl⟩
 · rw [e];exact ⟨n,rfl⟩
 · rw [e];exact ⟨x,rfl⟩
def zy {q a b c:Nat} {p:Pg} (w:At ch q a b c p):vwD ch 3 (.ref q)=some (.lst [.lst (p.h.map .int),.lst (p.b.map bd),.lst (p.t.map td)]):=by
 have e1:vwD ch 2 (.ref a)=some (.lst (p.h.map .int)):=by
  simp only [vwD,w.a,li_d,d8,Option.map_some]
 have e2:vwD ch 2 (.ref b)=some (.lst (p.b.map bd)):=by
  simp only [vwD,w.b,nr,d8,Option.map_some]
 have e3:vwD ch 2 (.ref c)=some (.lst (p.t.map td)):=by
  simp only [vwD,w.c,oH,d8,Option.map_some]
 have e4:fL (vwD ch 2) [.ref a,.ref b,.ref c]=some [.lst (p.h.map .int),.lst (p.b.map bd),.lst (p.t.map td)]:=by
  simp only [fL,e1,e2,e3,Option.bind_some,Option.map_some]
 simp only [vwD,w.q,e4,Option.map_some]
def wr {S:Sta} {w:Pg} {B:Nat} (hf:w.b.length+w.t.length+1<B):(stt S w (min B (w.b.length+w.t.length+2+w.t.length))).pg (stt S w (min B (w.b.length+w.t.length+2+w.t.length))).f=w/\∃ us,(∀ u∈us,u∈w.t)/\(stt S w (min B (w.b.length+w.t.length+2+w.t.length))).hm=ap us S.hm:=by
 have e:stt S w (min B (w.b.length+w.t.length+2+w.t.length))={S.setP (!S.f) w with f:=!S.f,hm:=ap (w.t.take (min B (w.b.length+w.t.length+2+w.t.length)-(w.b.length+w.t.length+2))) S.hm}:=by
  unfold stt
  rw [if_neg (by omega),if_neg (by omega)]
 rw [e]
 exact ⟨fE S (!S.f) w,_,fun u hu=>List.mem_of_mem_take hu,rfl⟩
def wu {S:Sta} {w:Pg} {B:Nat} (hf:¬ w.b.length+w.t.length+1<B):(stt S w (min B (w.b.length+w.t.length+2+w.t.length))).pg (stt S w (min B (w.b.length+w.t.length+2+w.t.length))).f=S.pg S.f/\(stt S w (min B (w.b.length+w.t.length+2+w.t.length))).hm=S.hm:=by
 by_cases h0:min B (w.b.length+w.t.length+2+w.t.length)=0
 · rw [h0]
   exact ⟨rfl,rfl⟩
 · obtain ⟨k,hk⟩:∃ k,min B (w.b.length+w.t.length+2+w.t.length)=k+1:=⟨_,(Nat.succ_pred h0).symm⟩
   rw [hk,um (by omega),hU,qk]
   have:=nH S (!S.f) ⟨w.h,w.b.take k,w.t.take (k-w.b.length)⟩
   rw [Bool.not_not] at this
   exact ⟨this,rfl⟩
def ww {ns:List Int} {ss:List (Str×Int)} {k:Nat} (hk:k<=900) (hz:ss.length<=100) (hss:∀ t∈ss,vS G t) (h:Iv G (.lst (ns.map .int)) pr (.lst (ss.map aY)) δ ch):∃ δ2 ch2,q49 (δ.set 10 (some (.dat (.int k)))) ch=some (.nx δ2 ch2)/\Iv G (.lst (ns.map .int)) pr (.lst (ss.map aY)) δ2 ch2:=by
 obtain ⟨P,S,D,L,a,b,c,last,hδ,H,ok,el,hh,hv,ht⟩:=h
 have q0:=hδ.set (i:=10) (by decide) (some (.dat (.int k)))
 have t10:=hδ.at (i:=10) (by decide) (some (.dat (.int k)))
 generalize δ.set 10 (some (.dat (.int k)))=δ0 at q0 t10
 have T:tD (tB2 (fT fun i j=>decide (i<j)) (vB 10) (toD (aB bB (ab (vB 0) au)))) δ0 ch=some (decide ((k:Int)<(ns.length:Nat)),ch):=lh (by
  have el:toD (aB bB (ab (vB 0) au)) (lo δ0 ch)=some (.int (ns.length:Nat)):=by
   rw [show ∀ (g:De->Option Dt) (d:De),toD (aB bB (ab g au)) d=((((g d).bind fun x=>some [x]).bind bB).map T.d) from fun _ _=>rfl,bL q0.s0]
   show some (Dt.int ((ns.map Dt.int).length:Nat))=_
   rw [List.length_map]
  unfold tB2 d2
  rw [bL t10,el]
  rfl)
 unfold q49
 rw [fB,T]
 by_cases hn:k<ns.length
 · rw [d5 (by simpa using hn)]
   obtain ⟨k0,k1,k2,k3,k4,k5,e1⟩:=uB (ch:=ch) hk q0.s0 t10
   have x1:=bA (i:=11) (aO e1)
   have q1:=q0.set (i:=11) (by decide) (some (.dat (clD k0 k1 k2 k3 k4 k5)))
   have t11:=q0.at (i:=11) (by decide) (some (.dat (clD k0 k1 k2 k3 k4 k5)))
   generalize δ0.set 11 (some (CV.dat (clD k0 k1 k2 k3 k4 k5)))=δ1 at x1 q1 t11
   obtain ⟨c1,q,a',b',c',w,ew,H2,wh,wb,wt,wv⟩:=oR (k0:=k0) (k1:=k1) (k2:=k2) (k3:=k3) (k4:=k4) (k5:=k5) (Vp:=vS G) H hz hss
   have x2:=bA (i:=12) ((fW (g:=y25) (fs:=ae (eD (vL 11)) (ae (eD (vL 2)) ar)) (av (aO (bz t11)) (av (aO (bz q1.s2)) rfl))).trans ew)
   have q2:=q1.set (i:=12) (by decide) (some (.ref q))
   have t12:=q1.at (i:=12) (by decide) (some (.ref q))
   have t21:(δ1.set 12 (some (.ref q)))[11]?=some (some (.dat (clD k0 k1 k2 k3 k4 k5))):=by rw [gN (by decide)];exact t11
   generalize δ1.set 12 (some (CV.ref q))=δ2 at x2 q2 t12 t21
   have H3:Hv c1 (cs P S (((D,.dT (dTm S.hm))::wl L a b c last)++wl q a' b' c' w)):=by
    rw [iX]
    exact H2.perm List.perm_append_comm
   have hw:∀ x∈wl q a' b' c' w,x∈((D,CO.dT (dTm S.hm))::wl L a b c last)++wl q a' b' c' w:=fun x hx=>List.mem_append_right _ hx
   have hl:∀ x∈wl L a b c last,x∈((D,CO.dT (dTm S.hm))::wl L a b c last)++wl q a' b' c' w:=fun x hx=>List.mem_append_left _ (List.mem_cons_of_mem _ hx)
   have w3:=gF H3 hw
   have e3:e2 bm (e2 bm (eD (kD (.int 2))) (eB bB (ae (eIx (eV 12) (eD (kD (.int 1)))) ar))) (e2 cp (eD (kD (.int 2))) (eB bB (ae (eIx (eV 12) (eD (kD (.int 2)))) ar))) δ2 c1=some (.dat (.int ((2+w.b.length+2*w.t.length:Nat):Int)),c1):=by
    rw [e2i (e2i (aO (fd:=kD (.int 2)) (d:=.int 2) rfl) (lenB w3 t12) rfl) (e2i (aO (fd:=kD (.int 2)) (d:=.int 2) rfl) (yM w3 t12) (ye (by decide) (by decide))) (d:=.int (2+(w.b.length:Nat)+2*(w.t.length:Nat))) rfl]
    rw [show (2:Int)+(w.b.length:Nat)+2*(w.t.length:Nat)=((2+w.b.length+2*w.t.length:Nat):Int) by omega]
   have x3:=bA (i:=13) e3
   have q3:=q2.set (i:=13) (by decide) (some (.dat (.int ((2+w.b.length+2*w.t.length:Nat):Int))))
   have t13:=q2.at (i:=13) (by decide) (some (.dat (.int ((2+w.b.length+2*w.t.length:Nat):Int))))
   have t31:(δ2.set 13 (some (.dat (.int ((2+w.b.length+2*w.t.length:Nat):Int)))))[11]?=some (some (.dat (clD k0 k1 k2 k3 k4 k5))):=by rw [gN (by decide)];exact t21
   have t32:(δ2.set 13 (some (.dat (.int ((2+w.b.length+2*w.t.length:Nat):Int)))))[12]?=some (some (.ref q)):=by rw [gN (by decide)];exact t12
   generalize δ2.set 13 (some (CV.dat (.int ((2+w.b.length+2*w.t.length:Nat):Int))))=δ3 at x3 q3 t13 t31 t32
   obtain ⟨B,e4⟩:=rE (ch:=c1) t31 t13
   have x4:=bA (i:=14) (aO e4)
   have q4:=q3.set (i:=14) (by decide) (some (.dat (.int (B:Nat))))
   have t14:=q3.at (i:=14) (by decide) (some (.dat (.int (B:Nat))))
   have t41:(δ3.set 14 (some (.dat (.int (B:Nat)))))[11]?=some (some (.dat (clD k0 k1 k2 k3 k4 k5))):=by rw [gN (by decide)];exact t31
   have t42:(δ3.set 14 (some (.dat (.int (B:Nat)))))[12]?=some (some (.ref q)):=by rw [gN (by decide)];exact t32
   generalize δ3.set 14 (some (CV.dat (.int (B:Nat))))=δ4 at x4 q4 t14 t41 t42
   obtain ⟨c2,P',e5,H5,hs,hp⟩:=oO (B:=B) H3 hw hl ok wv wh hh el wb wt
   have ec:=(fW (g:=q19) (fs:=ae (eV 3) (ae (eV 12) (ae (eV 4) (ae (eD (vL 14)) ar)))) (δ:=δ4) (ch:=c1) (av (aK q4.s3) (av (aK t42) (av (aK q4.s4) (av (aO (bz t14)) rfl))))).trans e5
   have fin:∀ (L' x y z:Nat) (last':Pg) (us:List Tn) (S1:Sta),eC q19 (ae (eV 3) (ae (eV 12) (ae (eV 4) (ae (eD (vL 14)) ar)))) δ4 c1=some (.ref L',c2)->Hv c2 (cs P' S1 ((D,.dT (dTm S.hm))::wl L' x y z last'))->Ok G P' S1->S1.pg S1.f=last'->last'.h.length=4->(∀ t∈last'.t,vS G t.1)->last'.t.length<=20->S1.hm=ap us S.hm->(∀ u∈us,u∈last'.t)->∃ δ2 ch2,aN (bG 4 (eC q19 (ae (eV 3) (ae (eV 12) (ae (eV 4) (ae (eD (vL 14)) ar)))))) (aN (dW (fK (e2D 3 (gIs false) (eV 4) (eD (kD .non)))) (cv (eD (kD (.bl false)))) dh) rest) δ4 c1=some (.nx δ2 ch2)/\Iv G (.lst (ns.map .int)) pr (.lst (ss.map aY)) δ2 ch2:=fun L' x y z last' us S1 g1 g2 g3 g4 g5 g6 g7 g8 g9=>by
    have x5:=bA (i:=4) g1
    have q5:S17 (.lst (ns.map .int)) pr (.lst (ss.map aY)) P'.s L' D (δ4.set 4 (some (.ref L'))):=⟨by rw [List.length_set];exact q4.len,by rw [gN (by decide)];exact q4.s0,by rw [gN (by decide)];exact q4.s1,by rw [gN (by decide)];exact q4.s2,by rw [gN (by decide),hs];exact q4.s3,List.getElem?_set_self (by rw [q4.len];decide),by rw [gN (by decide)];exact q4.s5⟩
    have t51:(δ4.set 4 (some (.ref L')))[11]?=some (some (.dat (clD k0 k1 k2 k3 k4 k5))):=by rw [gN (by decide)];exact t41
    generalize δ4.set 4 (some (CV.ref L'))=δ5 at x5 q5 t51
    have w5:=gF g2 (q:=L') (a:=x) (b:=y) (c:=z) (p:=last') (fun x hx=>List.mem_cons_of_mem _ hx)
    have x6:dW (fK (e2D 3 (gIs false) (eV 4) (eD (kD .non)))) (cv (eD (kD (.bl false)))) dh δ5 c2=some (.nx δ5 c2):=kc (iR (oK (aK q5.s4) (aO (fd:=kD .non) (d:=.non) rfl) (zy w5) rfl rfl))
    obtain ⟨δ6,c6,e6,i6⟩:=wq q5 t51 g2 g3 g4 g5 g6 g7 g8 g9
    refine ⟨δ6,c6,?_,i6⟩
    rw [aI,x5,aA,aI,x6,aA,e6]
   rw [aI,x1,aA,aI,x2,aA,aI,x3,aA,aI,x4,aA]
   by_cases hf:w.b.length+w.t.length+1<B
   · rw [if_pos hf] at ec
     obtain ⟨g1,us,g2,g3⟩:=wr (S:=S) hf
     refine fin q a' b' c' w us _ ec ?_ (ok.ap g3 hp) g1 wh wv wt g3 g2
     refine H5.sub ?_
     have e:∀ Y,cs P' (stt S w (min B (w.b.length+w.t.length+2+w.t.length))) Y=cs P' (stt S w (min B (w.b.length+w.t.length+2+w.t.length))) []++Y:=fun Y=>iX (A:=[]) (B:=Y)
     rw [e (((D,.dT (dTm S.hm))::wl L a b c last)++wl q a' b' c' w),e ((D,.dT (dTm S.hm))::wl q a' b' c' w)]
     exact List.Sublist.append_left (List.Sublist.cons_cons _ (List.sublist_append_right _ _)) _
   · rw [if_neg hf] at ec
     obtain ⟨g1,g3⟩:=wu (S:=S) hf
     refine fin L a b c last [] _ ec ?_ (ok.to g3 hp) (g1.trans el) hh hv ht g3 (fun u hu=>by cases hu)
     refine H5.sub ?_
     have e:∀ Y,cs P' (stt S w (min B (w.b.length+w.t.length+2+w.t.length))) Y=cs P' (stt S w (min B (w.b.length+w.t.length+2+w.t.length))) []++Y:=fun Y=>iX (A:=[]) (B:=Y)
     rw [e (((D,.dT (dTm S.hm))::wl L a b c last)++wl q a' b' c' w),e ((D,.dT (dTm S.hm))::wl L a b c last)]
     exact List.Sublist.append_left (List.sublist_append_left _ _) _
 · rw [d6 (by simpa using hn)]
   exact ⟨δ0,ch,rfl,P,S,D,L,a,b,c,last,q0,H,ok,el,hh,hv,ht⟩
end
section
variable {ch c1:CH} {δ:Sl}
def zz {fs:Fgs} {cs:List CV} {F:Fd} (h1:fs δ ch=some (cs,ch)) (h2:F (.ref ch.length::cs) (ch++[.ins "Store" [] []])=some (.dat .non,c1)) (h3:ch.length<c1.length):eMk "Store" F fs δ ch=some (.ref ch.length,c1):=by
 unfold eMk
 rw [h1,Option.bind_some]
 dsimp only
 rw [h2,Option.bind_some]
 dsimp only
 rw [if_pos h3]
end
def uC {F:List Dt->Option T} {g1 g2:De->Option Dt} {d:De} {a b:Dt} {t:T} (h1:g1 d=some a) (h2:g2 d=some b) (e:F [a,b]=some t):toD (aB F (ab g1 (ab g2 au))) d=some (T.d t):=by
 rw [show ∀ (g1 g2:De->Option Dt) (d:De),toD (aB F (ab g1 (ab g2 au))) d=((((g1 d).bind fun x=>((g2 d).bind fun z=>some [z]).bind fun ds=>some (x::ds)).bind F).map T.d) from fun _ _ _=>rfl,h1,h2]
 show (F [a,b]).map T.d=_
 rw [e]
 rfl
def zA {F:List Dt->Option T} {g1:De->Option Dt} {d:De} {a:Dt} {t:T} (h1:g1 d=some a) (e:F [a]=some t):toD (aB F (ab g1 au)) d=some (T.d t):=by
 rw [show ∀ (g1:De->Option Dt) (d:De),toD (aB F (ab g1 au)) d=((((g1 d).bind fun x=>some [x]).bind F).map T.d) from fun _ _=>rfl,h1]
 show (F [a]).map T.d=_
 rw [e]
 rfl
def main (ns:List Int) (h:ns.length<=63):∃ ch',p7 [.dat (.lst (ns.map .int))] []=some (.dat (.bl true),ch'):=by
 -- program,seats
 obtain ⟨v0,ev0⟩:=j9 ns 0 (by decide)
 obtain ⟨v1,ev1⟩:=j9 ns 1 (by decide)
 obtain ⟨cl,sh,rw',ep,nd,hsz,hcl,hsh⟩:=oT v0 v1
 have d0:∀ c:CH,vL 0 (lo [some (.dat (.lst (ns.map .int))),none,none,none,none,none,none,none,none,none,none,none,none,none,none,none,none] c)=some (.lst (ns.map .int)):=fun c=>bz rfl
 have x1:=bA (i:=1) (aO (δ:=[some (.dat (.lst (ns.map .int))),none,none,none,none,none,none,none,none,none,none,none,none,none,none,none,none]) (ch:=[]) (uC (F:=y26) (uC (F:=y19) (d0 []) (g2:=kD (.int 0)) rfl ev0) (uC (F:=y19) (d0 []) (g2:=kD (.int 1)) rfl ev1) ep))
 have x2:=bA (i:=2) (aO (δ:=[some (.dat (.lst (ns.map .int))),some (.dat (b9 cl sh rw')),none,none,none,none,none,none,none,none,none,none,none,none,none,none,none]) (ch:=[]) (zA (F:=y31) (g1:=vL 1) (bz rfl) (uw (rw:=rw') hsz hcl hsh)))
 -- the store
 obtain ⟨c0,ph,pd,pb,pb0,pb1,pt,pt0,pt1,ps,ei,hps,H0⟩:=v8 (ch:=[]) (R:=[]) (rw:=rw') (bs:=["a","b"]) Hv.nil nd hsz hcl hsh (by decide)
 have hlt:([]:CH).length<c0.length:=H0.lt (List.mem_append_left _ (.head _))
 have x3:=bA (i:=3) (zz (F:=q20) (fs:=ae (eD (vL 1)) (ae (eD (toD (b6 (ab (kD (.str "a")) (ab (kD (.str "b")) au))))) ar)) (δ:=[some (.dat (.lst (ns.map .int))),some (.dat (b9 cl sh rw')),some (.dat (.lst ((seC cl++seS sh).map aY))),none,none,none,none,none,none,none,none,none,none,none,none,none,none]) (ch:=[]) (av (aO (bz rfl)) (av (aO rfl) rfl)) ei hlt)
 have H0:Hv c0 (cs ⟨0,ph,pd,pb,pb0,pb1,pt,pt0,pt1,ps⟩ ⟨hm0 cl sh,⟨[0,0,0,0],b0D ["a","b"],[]⟩,⟨[0,0,0,0],[],[]⟩,false,none,false⟩ []):=H0
 have ok:Ok (shp (hm0 cl sh)) ⟨0,ph,pd,pb,pb0,pb1,pt,pt0,pt1,ps⟩ ⟨hm0 cl sh,⟨[0,0,0,0],b0D ["a","b"],[]⟩,⟨[0,0,0,0],[],[]⟩,false,none,false⟩:=⟨by rw [show (shp (hm0 cl sh)).length=(hm0 cl sh).length from List.length_map _];exact hps,rfl,by
  unfold shp
  rw [List.map_map]
  exact nd,tot0 hsz hcl hsh⟩
 have hs0:([]:CH).length=0:=rfl
 generalize hP:(⟨0,ph,pd,pb,pb0,pb1,pt,pt0,pt1,ps⟩:Pl)=P at H0 ok
 have hPs:P.s=0:=by rw [<- hP]
 generalize hS:(⟨hm0 cl sh,⟨[0,0,0,0],b0D ["a","b"],[]⟩,⟨[0,0,0,0],[],[]⟩,false,none,false⟩:Sta)=S at H0 ok
 have hSm:S.hm=hm0 cl sh:=by rw [<- hS]
 have hSp:S.pg S.f=⟨[0,0,0,0],[("a",0),("b",0)],[]⟩:=by rw [<- hS];rfl
 -- the last writing
 have e4:eL (ae (eN (bN (ab (kD (.int 0)) (ab (kD (.int 0)) (ab (kD (.int 0)) (ab (kD (.int 0)) au)))))) (ae (eN (bN (ab (toD (b6 (ab (kD (.str "a")) (ab (kD (.int 0)) au)))) (ab (toD (b6 (ab (kD (.str "b")) (ab (kD (.int 0)) au)))) au)))) (ae (eN (bN au)) ar))) [some (.dat (.lst (ns.map .int))),some (.dat (b9 cl sh rw')),some (.dat (.lst ((seC cl++seS sh).map aY))),some (.ref 0),none,none,none,none,none,none,none,none,none,none,none,none,none] c0=some (.ref (c0++[li [0,0,0,0]]++[bl [("a",0),("b",0)]]++[tl []]).length,c0++[li [0,0,0,0]]++[bl [("a",0),("b",0)]]++[tl []]++[CO.lst [.ref c0.length,.ref (c0++[li [0,0,0,0]]).length,.ref (c0++[li [0,0,0,0]]++[bl [("a",0),("b",0)]]).length]]):=
  qf (av (ch1:=c0++[li [0,0,0,0]]) rfl (av (ch1:=c0++[li [0,0,0,0]]++[bl [("a",0),("b",0)]]) rfl (av rfl rfl))) (by simp)
 have H1:=(((H0.new (li [0,0,0,0])).new (bl [("a",0),("b",0)])).new (tl [])).new (CO.lst [.ref c0.length,.ref (c0++[li [0,0,0,0]]).length,.ref (c0++[li [0,0,0,0]]++[bl [("a",0),("b",0)]]).length])
 generalize (c0++[li [0,0,0,0]]++[bl [("a",0),("b",0)]]++[tl []]).length=L at e4 H1
 generalize (c0++[li [0,0,0,0]]++[bl [("a",0),("b",0)]]).length=c at e4 H1
 generalize (c0++[li [0,0,0,0]]).length=b at e4 H1
 generalize c0.length=a at e4 H1
 generalize c0++[li [0,0,0,0]]++[bl [("a",0),("b",0)]]++[tl []]++[CO.lst [.ref a,.ref b,.ref c]]=c1 at e4 H1
 have x4:=bA (i:=4) e4
 have H2:Hv c1 (wl L a b c ⟨[0,0,0,0],[("a",0),("b",0)],[]⟩++cs P S []):=Hv.pick (l:=[(L,CO.lst [.ref a,.ref b,.ref c]),(c,tl []),(b,bl [("a",0),("b",0)]),(a,li [0,0,0,0])]) (X:=cs P S []) H1 [0,3,2,1] (show [0,3,2,1].Perm (List.range 4) by decide)
 -- the home
 have x5:bG 5 eNT [some (.dat (.lst (ns.map .int))),some (.dat (b9 cl sh rw')),some (.dat (.lst ((seC cl++seS sh).map aY))),some (.ref 0),some (.ref L),none,none,none,none,none,none,none,none,none,none,none,none] c1=some (.nx [some (.dat (.lst (ns.map .int))),some (.dat (b9 cl sh rw')),some (.dat (.lst ((seC cl++seS sh).map aY))),some (.ref 0),some (.ref L),some (.ref c1.length),none,none,none,none,none,none,none,none,none,none,none] (c1++[.dT []])):=rfl
 have H3:=H2.new (.dT [])
 generalize c1.length=D at x5 H3
 generalize c1++[CO.dT []]=c2 at x5 H3
 have q5:S17 (.lst (ns.map .int)) (b9 cl sh rw') (.lst ((seC cl++seS sh).map aY)) P.s L D [some (.dat (.lst (ns.map .int))),some (.dat (b9 cl sh rw')),some (.dat (.lst ((seC cl++seS sh).map aY))),some (.ref 0),some (.ref L),some (.ref D),none,none,none,none,none,none,none,none,none,none,none]:=by
  rw [hPs]
  exact ⟨rfl,rfl,rfl,rfl,rfl,rfl,rfl⟩
 generalize ([some (.dat (.lst (ns.map .int))),some (.dat (b9 cl sh rw')),some (.dat (.lst ((seC cl++seS sh).map aY))),some (.ref 0),some (.ref L),some (.ref D),none,none,none,none,none,none,none,none,none,none,none]:Sl)=δ5 at x5 q5
 have ndZ:((hmZ cl sh).map (·.1)).Nodup:=by rw [rA];exact nd
 have hlen:=rC hsz hcl hsh
 obtain ⟨δ6,c3,e6,H4,q6⟩:=uz (seC cl++seS sh) (done:=[]) (by rw [List.nil_append,ux];exact mq ndZ) (by rw [List.nil_append];omega) H3 q5
 have x6:de (fIt (vL 2)) [6,7] (cf 2 (aH (am 6) (aH (am 7) ce))) q62 δ5 c2=some (.nx δ6 c3):=by
  unfold de
  rw [show ∀ (g:De->Option Dt) (d:De) (t:List Dt),g d=some (.lst t)->fIt g d=some t from fun _ _ _ e=>by unfold fIt;rw [e];rfl]
  · exact e6
  · exact bz q5.s2
 rw [List.nil_append,ux] at H4
 have shZ:shp ([]++(hmO cl++hmS sh))=shp (hm0 cl sh):=by
  unfold shp hmO hm0 hmC
  simp
 obtain ⟨δ7,c4,e7,H5,q7⟩:=rB (B:=hmS sh) cl (A:=[]) ndZ (fun hm hh=>tot0 hsz hcl hsh hm (hh.trans shZ)) H4 q6
 have x7:de (fIt (toD (d2 aS (vB 1) (kD (.int 0))))) [6,8,9] (cf 3 (aH (am 6) (aH (am 8) (aH (am 9) ce)))) q61 δ6 c3=some (.nx δ7 c4):=by
  unfold de
  rw [show fIt (toD (d2 aS (vB 1) (kD (.int 0)))) (lo δ6 c3)=some (cl.map hdD) by unfold fIt toD d2;rw [bL q6.s1];rfl,Option.bind_some]
  exact e7
 have H6:Hv c4 (cs P S ((D,.dT (dTm S.hm))::wl L a b c ⟨[0,0,0,0],[("a",0),("b",0)],[]⟩)):=by
  rw [hSm]
  have e:cs P S ((D,.dT (dTm (hm0 cl sh)))::wl L a b c ⟨[0,0,0,0],[("a",0),("b",0)],[]⟩)=cs P S []++((D,.dT (dTm (hm0 cl sh)))::wl L a b c ⟨[0,0,0,0],[("a",0),("b",0)],[]⟩):=iX (A:=[])
  rw [e]
  exact H5.perm (show (((D,CO.dT (dTm (hm0 cl sh)))::wl L a b c ⟨[0,0,0,0],[("a",0),("b",0)],[]⟩)++cs P S []).Perm _ from List.perm_append_comm)
 have I0:Iv (shp (hm0 cl sh)) (.lst (ns.map .int)) (b9 cl sh rw') (.lst ((seC cl++seS sh).map aY)) δ7 c4:=⟨P,S,D,L,a,b,c,⟨[0,0,0,0],[("a",0),("b",0)],[]⟩,q7,H6,ok,hSp,rfl,(fun t ht=>by cases ht),by decide⟩
 -- the writings
 obtain ⟨δ8,c5,e8,I8⟩:=jj (i:=10) (g:=q49) (I:=Iv (shp (hm0 cl sh)) (.lst (ns.map .int)) (b9 cl sh rw') (.lst ((seC cl++seS sh).map aY))) (fun δ ch ⟨_,_,_,_,_,_,_,_,q,_⟩=>by rw [q.len];decide) (ds:=j4 2 6 10) (δ:=δ7) (ch:=c4) (fun d hd δ ch hI=>by
  unfold j4 at hd
  obtain ⟨i,hi,rfl⟩:=List.mem_map.mp hd
  have:=List.mem_range.mp hi
  have e:(2:Int)+(i:Int)*6=((2+i*6:Nat):Int):=by omega
  rw [e]
  exact ww (by omega) hlen (wo nd hsz) hI) I0
 have x8:de (dO tP (ab (kD (.int 2)) (ab (kD (.int 62)) (ab (kD (.int 6)) au)))) [10] (am 10) q49 δ7 c4=some (.nx δ8 c5):=by
  unfold de
  rw [show dO tP (ab (kD (.int 2)) (ab (kD (.int 62)) (ab (kD (.int 6)) au))) (lo δ7 c4)=some (j4 2 6 10) from rfl,Option.bind_some]
  exact e8
 obtain ⟨P',S',D',L',a',b',c',last,q8,H8,ok8,el,hh,hv,ht⟩:=I8
 obtain ⟨g,e9⟩:=gx H8 hh (gF H8 (fun x hx=>List.mem_cons_of_mem _ hx)) el
 obtain ⟨c6,e10,_⟩:=qm (H8.app g) ok8
 refine ⟨c6,?_⟩
 unfold p7
 rw [cc]
 show hG (aN _ _ [some (.dat (.lst (ns.map .int))),none,none,none,none,none,none,none,none,none,none,none,none,none,none,none,none] [])=_
 rw [aI,x1,aA]
 show hG (aN _ _ [some (.dat (.lst (ns.map .int))),some (.dat (b9 cl sh rw')),none,none,none,none,none,none,none,none,none,none,none,none,none,none,none] [])=_
 rw [aI,x2,aA]
 show hG (aN _ _ [some (.dat (.lst (ns.map .int))),some (.dat (b9 cl sh rw')),some (.dat (.lst ((seC cl++seS sh).map aY))),none,none,none,none,none,none,none,none,none,none,none,none,none,none] [])=_
 rw [aI,x3,aA]
 show hG (aN _ _ [some (.dat (.lst (ns.map .int))),some (.dat (b9 cl sh rw')),some (.dat (.lst ((seC cl++seS sh).map aY))),some (.ref 0),none,none,none,none,none,none,none,none,none,none,none,none,none] c0)=_
 rw [aI,x4,aA]
 show hG (aN _ _ [some (.dat (.lst (ns.map .int))),some (.dat (b9 cl sh rw')),some (.dat (.lst ((seC cl++seS sh).map aY))),some (.ref 0),some (.ref L),none,none,none,none,none,none,none,none,none,none,none,none] c1)=_
 rw [aI,x5,aA,aI,x6,aA,aI,x7,aA,aI,x8,aA]
 have ef:tf (eC z12 (ae (eV 3) (ae (eV 4) ar))) (eC q17 (ae (eV 3) (ae (eV 5) ar))) δ8 c5=some (.dat (.bl true),c6):=by
  unfold tf
  rw [(fW (g:=z12) (av (aK q8.s3) (av (aK q8.s4) rfl))).trans e9,Option.bind_some]
  show eC q17 (ae (eV 3) (ae (eV 5) ar)) δ8 (c5++g)=_
  exact (fW (g:=q17) (av (aK q8.s3) (av (aK q8.s5) rfl))).trans e10
 rw [dg ef]
 rfl
def mw (K:PySem.W.Frag):Sp:=fun vs H Q _=>∃ (a:Addr) (ns:List Int),vs=[.ref a]/\SqL K H a (ns.map V.int)/\ns.length<=63/\uU H/\∀ H',Q (.bl true) H'
def yO {K:PySem.W.Frag} {vs:List V} {H:Hp} {Q:VK} {E:XK} (h:mw K vs H Q E):spG K 1 p7 vs H Q E:=by
 obtain ⟨a,ns,rfl,hS,hl,hO,q⟩:=h
 obtain ⟨ch',hm⟩:=main ns hl
 refine ⟨H,fun _=>a,[.dat (.lst (ns.map .int))],[],.dat (.bl true),ch',⟨Same.refl H,fun i j hi=>absurd hi (Nat.not_lt_zero _),fun i hi=>absurd hi (Nat.not_lt_zero _),fun i o h=>by simp at h⟩,rfl,⟨_,[],rfl,?_,rfl⟩,hm,fun v F' H' ρ' _ o=>?_⟩
 · show Rep K H (.lst (ns.map .int)) (.ref a)
   simp only [Rep]
   exact ⟨a,_,rfl,hS,Reps.map (fun _=>gi) ns⟩
 · have o:Rep K F' (.bl true) v:=o
   simp only [Rep] at o
   subst o
   exact q H'
def all_mk {l:PySem.W.OpenLaw} {w:World} {K:PySem.W.Frag} {h:Heap} {mg:Str->Option Value} {fa:Addr} (X:K.In h) (G:h.Ns mainGlobals mg) (hfa:mg "law"=some (.ref fa))
  {C_Store:Addr} (ac_Store:PySem.W.nsIn K mainGlobals "Store"=some (some (.ref C_Store))) (pg_Store:PySem.W.plainGet K C_Store Str.empty=true) (hd_Store:PySem.W.hasDictIn K C_Store=true) (po_Store:PySem.W.plainOver K C_Store=true) (sa_Store:PySem.W.findIn K (.ref C_Store) "__setattr__"=some (some (.builtin "object.__setattr__")))
  (mk_Store:PySem.W.makesIn K C_Store=true) (kc_Store:PySem.W.keepIn K (.ref C_Store)=true)
  (nf_Store_counting:PySem.W.findIn K (.ref C_Store) "counting"=some none)
  (nf_Store_heads:PySem.W.findIn K (.ref C_Store) "heads"=some none)
  (nf_Store_home:PySem.W.findIn K (.ref C_Store) "home"=some none)
  (nf_Store_page_boxes:PySem.W.findIn K (.ref C_Store) "page_boxes"=some none)
  (nf_Store_page_turns:PySem.W.findIn K (.ref C_Store) "page_turns"=some none)
  (nf_Store_result:PySem.W.findIn K (.ref C_Store) "result"=some none)
  {f0 f1 f2 f3 f4 f5 f6 f7 f8 f9 f10 f11 f12 f13 f14 f15 f16 f17 f18 f19 f20 f21 f22:Addr} {od0 an0 od1 an1 od2 an2 od3 an3 od4 an4 od5 an5 od6 an6 od7 an7 od8 an8 od9 an9 od10 an10 od11 an11 od12 an12 od13 an13 od14 an14 od15 an15 od16 an16 od17 an17 od18 an18 od19 an19 od20 an20 od21 an21 od22 an22:Option Addr} {sl0 sl1 sl2 sl3 sl4 sl5 sl6 sl7 sl8 sl9 sl10 sl11 sl12 sl13 sl14 sl15 sl16 sl17 sl18 sl19 sl20 sl21 sl22:Array (Option Value)} {oc0 kV0 dc0 pm0 cd0 ct0 oc1 kV1 dc1 pm1 cd1 ct1 oc2 kV2 dc2 pm2 cd2 ct2 oc3 kV3 dc3 pm3 cd3 ct3 oc4 kV4 dc4 pm4 cd4 ct4 oc5 kV5 dc5 pm5 cd5 ct5 oc6 kV6 dc6 pm6 cd6 ct6 oc7 kV7 dc7 pm7 cd7 ct7 oc8 kV8 dc8 pm8 cd8 ct8 oc9 kV9 dc9 pm9 cd9 ct9 oc10 kV10 dc10 pm10 cd10 ct10 oc11 kV11 dc11 pm11 cd11 ct11 oc12 kV12 dc12 pm12 cd12 ct12 oc13 kV13 dc13 pm13 cd13 ct13 oc14 kV14 dc14 pm14 cd14 ct14 oc15 kV15 dc15 pm15 cd15 ct15 oc16 kV16 dc16 pm16 cd16 ct16 oc17 kV17 dc17 pm17 cd17 ct17 oc18 kV18 dc18 pm18 cd18 ct18 oc19 kV19 dc19 pm19 cd19 ct19 oc20 kV20 dc20 pm20 cd20 ct20 oc21 kV21 dc21 pm21 cd21 ct21 oc22 kV22 dc22 pm22 cd22 ct22:Value}
  (a0:PySem.W.nsIn K mainGlobals "_law_part"=some (some (.ref f0)))
  (l0:K.lookup f0=some ⟨oc0,od0,.func (PySem.W.fnOf "_law_part" "_law_part" (bh y29) (aT y29) (ac y29) .none kV0 dc0 pm0 an0 cd0 ct0),sl0⟩) (c0:PySem.W.codeIn K cd0 "_law_part"=true) (k0:PySem.W.keepIn K (.ref f0)=true)
  (a1:PySem.W.nsIn K mainGlobals "_law_name"=some (some (.ref f1)))
  (l1:K.lookup f1=some ⟨oc1,od1,.func (PySem.W.fnOf "_law_name" "_law_name" (bh z13) (aT z13) (ac z13) .none kV1 dc1 pm1 an1 cd1 ct1),sl1⟩) (c1:PySem.W.codeIn K cd1 "_law_name"=true) (k1:PySem.W.keepIn K (.ref f1)=true)
  (a2:PySem.W.nsIn K mainGlobals "_law_program"=some (some (.ref f2)))
  (l2:K.lookup f2=some ⟨oc2,od2,.func (PySem.W.fnOf "_law_program" "_law_program" (bh z14) (aT z14) (ac z14) .none kV2 dc2 pm2 an2 cd2 ct2),sl2⟩) (c2:PySem.W.codeIn K cd2 "_law_program"=true) (k2:PySem.W.keepIn K (.ref f2)=true)
  (a3:PySem.W.nsIn K mainGlobals "_law_seats"=some (some (.ref f3)))
  (l3:K.lookup f3=some ⟨oc3,od3,.func (PySem.W.fnOf "_law_seats" "_law_seats" (bh z10) (aT z10) (ac z10) .none kV3 dc3 pm3 an3 cd3 ct3),sl3⟩) (c3:PySem.W.codeIn K cd3 "_law_seats"=true) (k3:PySem.W.keepIn K (.ref f3)=true)
  (a4:PySem.W.findIn K (.ref C_Store) "__init__"=some (some (.ref f4))) (i4:PySem.W.isFn K (.ref f4)=true)
  (l4:K.lookup f4=some ⟨oc4,od4,.func (PySem.W.fnOf "__init__" "Store.__init__" (bh z7) (aT z7) (ac z7) .none kV4 dc4 pm4 an4 cd4 ct4),sl4⟩) (c4:PySem.W.codeIn K cd4 "Store.__init__"=true) (k4:PySem.W.keepIn K (.ref f4)=true)
  (a5:PySem.W.nsIn K mainGlobals "_law_cell"=some (some (.ref f5)))
  (l5:K.lookup f5=some ⟨oc5,od5,.func (PySem.W.fnOf "_law_cell" "_law_cell" (bh z25) (aT z25) (ac z25) .none kV5 dc5 pm5 an5 cd5 ct5),sl5⟩) (c5:PySem.W.codeIn K cd5 "_law_cell"=true) (k5:PySem.W.keepIn K (.ref f5)=true)
  (a6:PySem.W.findIn K (.ref C_Store) "page"=some (some (.ref f6))) (i6:PySem.W.isFn K (.ref f6)=true)
  (l6:K.lookup f6=some ⟨oc6,od6,.func (PySem.W.fnOf "page" "Store.page" (bh z17) (aT z17) (ac z17) .none kV6 dc6 pm6 an6 cd6 ct6),sl6⟩) (c6:PySem.W.codeIn K cd6 "Store.page"=true) (k6:PySem.W.keepIn K (.ref f6)=true)
  (a7:PySem.W.findIn K (.ref C_Store) "face"=some (some (.ref f7))) (i7:PySem.W.isFn K (.ref f7)=true)
  (l7:K.lookup f7=some ⟨oc7,od7,.func (PySem.W.fnOf "face" "Store.face" (bh z21) (aT z21) (ac z21) .none kV7 dc7 pm7 an7 cd7 ct7),sl7⟩) (c7:PySem.W.codeIn K cd7 "Store.face"=true) (k7:PySem.W.keepIn K (.ref f7)=true)
  (a8:PySem.W.nsIn K mainGlobals "_law_counts"=some (some (.ref f8)))
  (l8:K.lookup f8=some ⟨oc8,od8,.func (PySem.W.fnOf "_law_counts" "_law_counts" (bh y21) (aT y21) (ac y21) .none kV8 dc8 pm8 an8 cd8 ct8),sl8⟩) (c8:PySem.W.codeIn K cd8 "_law_counts"=true) (k8:PySem.W.keepIn K (.ref f8)=true)
  (a9:PySem.W.findIn K (.ref C_Store) "get_home"=some (some (.ref f9))) (i9:PySem.W.isFn K (.ref f9)=true)
  (l9:K.lookup f9=some ⟨oc9,od9,.func (PySem.W.fnOf "get_home" "Store.get_home" (bh z15) (aT z15) (ac z15) .none kV9 dc9 pm9 an9 cd9 ct9),sl9⟩) (c9:PySem.W.codeIn K cd9 "Store.get_home"=true) (k9:PySem.W.keepIn K (.ref f9)=true)
  (a10:PySem.W.nsIn K mainGlobals "_law_home"=some (some (.ref f10)))
  (l10:K.lookup f10=some ⟨oc10,od10,.func (PySem.W.fnOf "_law_home" "_law_home" (bh y30) (aT y30) (ac y30) .none kV10 dc10 pm10 an10 cd10 ct10),sl10⟩) (c10:PySem.W.codeIn K cd10 "_law_home"=true) (k10:PySem.W.keepIn K (.ref f10)=true)
  (a11:PySem.W.nsIn K mainGlobals "_law_values"=some (some (.ref f11)))
  (l11:K.lookup f11=some ⟨oc11,od11,.func (PySem.W.fnOf "_law_values" "_law_values" (bh q22) (aT q22) (ac q22) .none kV11 dc11 pm11 an11 cd11 ct11),sl11⟩) (c11:PySem.W.codeIn K cd11 "_law_values"=true) (k11:PySem.W.keepIn K (.ref f11)=true)
  (a12:PySem.W.nsIn K mainGlobals "_law_writing"=some (some (.ref f12)))
  (l12:K.lookup f12=some ⟨oc12,od12,.func (PySem.W.fnOf "_law_writing" "_law_writing" (bh y8) (aT y8) (ac y8) .none kV12 dc12 pm12 an12 cd12 ct12),sl12⟩) (c12:PySem.W.codeIn K cd12 "_law_writing"=true) (k12:PySem.W.keepIn K (.ref f12)=true)
  (a13:PySem.W.findIn K (.ref C_Store) "other"=some (some (.ref f13))) (i13:PySem.W.isFn K (.ref f13)=true)
  (l13:K.lookup f13=some ⟨oc13,od13,.func (PySem.W.fnOf "other" "Store.other" (bh y18) (aT y18) (ac y18) .none kV13 dc13 pm13 an13 cd13 ct13),sl13⟩) (c13:PySem.W.codeIn K cd13 "Store.other"=true) (k13:PySem.W.keepIn K (.ref f13)=true)
  (a14:PySem.W.findIn K (.ref C_Store) "begin_page"=some (some (.ref f14))) (i14:PySem.W.isFn K (.ref f14)=true)
  (l14:K.lookup f14=some ⟨oc14,od14,.func (PySem.W.fnOf "begin_page" "Store.begin_page" (bh q14) (aT q14) (ac q14) .none kV14 dc14 pm14 an14 cd14 ct14),sl14⟩) (c14:PySem.W.codeIn K cd14 "Store.begin_page"=true) (k14:PySem.W.keepIn K (.ref f14)=true)
  (a15:PySem.W.findIn K (.ref C_Store) "keep_box"=some (some (.ref f15))) (i15:PySem.W.isFn K (.ref f15)=true)
  (l15:K.lookup f15=some ⟨oc15,od15,.func (PySem.W.fnOf "keep_box" "Store.keep_box" (bh y15) (aT y15) (ac y15) .none kV15 dc15 pm15 an15 cd15 ct15),sl15⟩) (c15:PySem.W.codeIn K cd15 "Store.keep_box"=true) (k15:PySem.W.keepIn K (.ref f15)=true)
  (a16:PySem.W.findIn K (.ref C_Store) "keep_turn"=some (some (.ref f16))) (i16:PySem.W.isFn K (.ref f16)=true)
  (l16:K.lookup f16=some ⟨oc16,od16,.func (PySem.W.fnOf "keep_turn" "Store.keep_turn" (bh y14) (aT y14) (ac y14) .none kV16 dc16 pm16 an16 cd16 ct16),sl16⟩) (c16:PySem.W.codeIn K cd16 "Store.keep_turn"=true) (k16:PySem.W.keepIn K (.ref f16)=true)
  (a17:PySem.W.findIn K (.ref C_Store) "turn"=some (some (.ref f17))) (i17:PySem.W.isFn K (.ref f17)=true)
  (l17:K.lookup f17=some ⟨oc17,od17,.func (PySem.W.fnOf "turn" "Store.turn" (bh q21) (aT q21) (ac q21) .none kV17 dc17 pm17 an17 cd17 ct17),sl17⟩) (c17:PySem.W.codeIn K cd17 "Store.turn"=true) (k17:PySem.W.keepIn K (.ref f17)=true)
  (a18:PySem.W.findIn K (.ref C_Store) "put"=some (some (.ref f18))) (i18:PySem.W.isFn K (.ref f18)=true)
  (l18:K.lookup f18=some ⟨oc18,od18,.func (PySem.W.fnOf "put" "Store.put" (bh y23) (aT y23) (ac y23) .none kV18 dc18 pm18 an18 cd18 ct18),sl18⟩) (c18:PySem.W.codeIn K cd18 "Store.put"=true) (k18:PySem.W.keepIn K (.ref f18)=true)
  (a19:PySem.W.nsIn K mainGlobals "_law_step"=some (some (.ref f19)))
  (l19:K.lookup f19=some ⟨oc19,od19,.func (PySem.W.fnOf "_law_step" "_law_step" (bh q25) (aT q25) (ac q25) .none kV19 dc19 pm19 an19 cd19 ct19),sl19⟩) (c19:PySem.W.codeIn K cd19 "_law_step"=true) (k19:PySem.W.keepIn K (.ref f19)=true)
  (a20:PySem.W.nsIn K mainGlobals "_law_written"=some (some (.ref f20)))
  (l20:K.lookup f20=some ⟨oc20,od20,.func (PySem.W.fnOf "_law_written" "_law_written" (bh q12) (aT q12) (ac q12) .none kV20 dc20 pm20 an20 cd20 ct20),sl20⟩) (c20:PySem.W.codeIn K cd20 "_law_written"=true) (k20:PySem.W.keepIn K (.ref f20)=true)
  (a21:PySem.W.nsIn K mainGlobals "_law_put_all"=some (some (.ref f21)))
  (l21:K.lookup f21=some ⟨oc21,od21,.func (PySem.W.fnOf "_law_put_all" "_law_put_all" (bh q23) (aT q23) (ac q23) .none kV21 dc21 pm21 an21 cd21 ct21),sl21⟩) (c21:PySem.W.codeIn K cd21 "_law_put_all"=true) (k21:PySem.W.keepIn K (.ref f21)=true)
  (a22:PySem.W.nsIn K mainGlobals "law"=some (some (.ref f22)))
  (l22:K.lookup f22=some ⟨oc22,od22,.func (PySem.W.fnOf "law" "law" (bh bM) (aT bM) (ac bM) .none kV22 dc22 pm22 an22 cd22 ct22),sl22⟩) (c22:PySem.W.codeIn K cd22 "law"=true) (k22:PySem.W.keepIn K (.ref f22)=true)
  (z_dict:PySem.W.nsIn K mainGlobals "dict"=some none)
  (z_enumerate:PySem.W.nsIn K mainGlobals "enumerate"=some none)
  (z_int:PySem.W.nsIn K mainGlobals "int"=some none)
  (z_len:PySem.W.nsIn K mainGlobals "len"=some none)
  (z_list:PySem.W.nsIn K mainGlobals "list"=some none)
  (z_min:PySem.W.nsIn K mainGlobals "min"=some none)
  (z_range:PySem.W.nsIn K mainGlobals "range"=some none)
  (z_tuple:PySem.W.nsIn K mainGlobals "tuple"=some none)
  : ∃ fd:FuncData,(∀ (s:Shared) (v:Value),BindsTo s fd ⟨[v],[]⟩ [("_law_script",v)])/\∀ base:Heap,K.In base->base.Ns mainGlobals mg->FnOk l.prog w K mg base CX0 5 fa fd ["_law_script"] (mw K):=by
 have e:=hfa.symm.trans (PySem.W.mg_of X G a22)
 cases e
 have T:Txt l.prog w K mg:={n_dict:=PySem.W.mg_none_of X G z_dict,n_enumerate:=PySem.W.mg_none_of X G z_enumerate,n_int:=PySem.W.mg_none_of X G z_int,n_len:=PySem.W.mg_none_of X G z_len,n_list:=PySem.W.mg_none_of X G z_list,n_min:=PySem.W.mg_none_of X G z_min,n_range:=PySem.W.mg_none_of X G z_range,n_tuple:=PySem.W.mg_none_of X G z_tuple,f_Store_counting:=⟨C_Store,ac_Store,⟨pg_Store,hd_Store,po_Store,sa_Store⟩,nf_Store_counting⟩,f_Store_heads:=⟨C_Store,ac_Store,⟨pg_Store,hd_Store,po_Store,sa_Store⟩,nf_Store_heads⟩,f_Store_home:=⟨C_Store,ac_Store,⟨pg_Store,hd_Store,po_Store,sa_Store⟩,nf_Store_home⟩,f_Store_page_boxes:=⟨C_Store,ac_Store,⟨pg_Store,hd_Store,po_Store,sa_Store⟩,nf_Store_page_boxes⟩,f_Store_page_turns:=⟨C_Store,ac_Store,⟨pg_Store,hd_Store,po_Store,sa_Store⟩,nf_Store_page_turns⟩,f_Store_result:=⟨C_Store,ac_Store,⟨pg_Store,hd_Store,po_Store,sa_Store⟩,nf_Store_result⟩}
 have D0:DefF K mg "_law_part" y29 ["_law_cell_here","_law_j","_law_many"]:=DefF.mk' X G a0 l0 c0 k0 fun _ _ _ _ _ _ us hl=>match us,hl with | [_,_,_],_=>rfl
 have D1:DefF K mg "_law_name" z13 ["_law_base","_law_k"]:=DefF.mk' X G a1 l1 c1 k1 fun _ _ _ _ _ _ us hl=>match us,hl with | [_,_],_=>rfl
 have D2:DefF K mg "_law_program" z14 ["_law_cell_here","_law_base"]:=DefF.mk' X G a2 l2 c2 k2 fun _ _ _ _ _ _ us hl=>match us,hl with | [_,_],_=>rfl
 have D3:DefF K mg "_law_seats" z10 ["_law_program_here"]:=DefF.mk' X G a3 l3 c3 k3 fun _ _ _ _ _ _ us hl=>match us,hl with | [_],_=>rfl
 have FF4:=dj (st:=z7) l4 c4 k4
 have D4:DefI K mg "Store" "Store.__init__" z7 ["self","program","begin"]:=⟨C_Store,_,_,ac_Store,PySem.W.mg_of X G ac_Store,⟨mk_Store,a4,i4,kc_Store⟩,FF4.binds (fun _ _ _ _ _ _ us hl=>match us,hl with | [_,_,_],_=>rfl),FF4⟩
 have D5:DefF K mg "_law_cell" z25 ["_law_script","_law_k"]:=DefF.mk' X G a5 l5 c5 k5 fun _ _ _ _ _ _ us hl=>match us,hl with | [_,_],_=>rfl
 have FF6:=dj (st:=z17) l6 c6 k6
 have D6:DefM K "Store" "page" "Store.page" z17 ["self","number"]:=⟨C_Store,_,_,ac_Store,⟨pg_Store,hd_Store,po_Store,sa_Store⟩,⟨a6,i6,k6⟩,FF6.binds (fun _ _ _ _ _ _ us hl=>match us,hl with | [_,_],_=>rfl),FF6⟩
 have FF7:=dj (st:=z21) l7 c7 k7
 have D7:DefM K "Store" "face" "Store.face" z21 ["self"]:=⟨C_Store,_,_,ac_Store,⟨pg_Store,hd_Store,po_Store,sa_Store⟩,⟨a7,i7,k7⟩,FF7.binds (fun _ _ _ _ _ _ us hl=>match us,hl with | [_],_=>rfl),FF7⟩
 have D8:DefF K mg "_law_counts" y21 ["_law_store","_law_writing_here"]:=DefF.mk' X G a8 l8 c8 k8 fun _ _ _ _ _ _ us hl=>match us,hl with | [_,_],_=>rfl
 have FF9:=dj (st:=z15) l9 c9 k9
 have D9:DefM K "Store" "get_home" "Store.get_home" z15 ["self","name","place"]:=⟨C_Store,_,_,ac_Store,⟨pg_Store,hd_Store,po_Store,sa_Store⟩,⟨a9,i9,k9⟩,FF9.binds (fun _ _ _ _ _ _ us hl=>match us,hl with | [_,_,_],_=>rfl),FF9⟩
 have D10:DefF K mg "_law_home" y30 ["_law_store","_law_home_here"]:=DefF.mk' X G a10 l10 c10 k10 fun _ _ _ _ _ _ us hl=>match us,hl with | [_,_],_=>rfl
 have D11:DefF K mg "_law_values" q22 ["_law_cell_here","_law_many","_law_free"]:=DefF.mk' X G a11 l11 c11 k11 fun _ _ _ _ _ _ us hl=>match us,hl with | [_,_,_],_=>rfl
 have D12:DefF K mg "_law_writing" y8 ["_law_cells","_law_seats_here"]:=DefF.mk' X G a12 l12 c12 k12 fun _ _ _ _ _ _ us hl=>match us,hl with | [_,_],_=>rfl
 have FF13:=dj (st:=y18) l13 c13 k13
 have D13:DefM K "Store" "other" "Store.other" y18 ["self"]:=⟨C_Store,_,_,ac_Store,⟨pg_Store,hd_Store,po_Store,sa_Store⟩,⟨a13,i13,k13⟩,FF13.binds (fun _ _ _ _ _ _ us hl=>match us,hl with | [_],_=>rfl),FF13⟩
 have FF14:=dj (st:=q14) l14 c14 k14
 have D14:DefM K "Store" "begin_page" "Store.begin_page" q14 ["self","row","count","heard","sent"]:=⟨C_Store,_,_,ac_Store,⟨pg_Store,hd_Store,po_Store,sa_Store⟩,⟨a14,i14,k14⟩,FF14.binds (fun _ _ _ _ _ _ us hl=>match us,hl with | [_,_,_,_,_],_=>rfl),FF14⟩
 have FF15:=dj (st:=y15) l15 c15 k15
 have D15:DefM K "Store" "keep_box" "Store.keep_box" y15 ["self","name","value"]:=⟨C_Store,_,_,ac_Store,⟨pg_Store,hd_Store,po_Store,sa_Store⟩,⟨a15,i15,k15⟩,FF15.binds (fun _ _ _ _ _ _ us hl=>match us,hl with | [_,_,_],_=>rfl),FF15⟩
 have FF16:=dj (st:=y14) l16 c16 k16
 have D16:DefM K "Store" "keep_turn" "Store.keep_turn" y14 ["self","name","place","value"]:=⟨C_Store,_,_,ac_Store,⟨pg_Store,hd_Store,po_Store,sa_Store⟩,⟨a16,i16,k16⟩,FF16.binds (fun _ _ _ _ _ _ us hl=>match us,hl with | [_,_,_,_],_=>rfl),FF16⟩
 have FF17:=dj (st:=q21) l17 c17 k17
 have D17:DefM K "Store" "turn" "Store.turn" q21 ["self"]:=⟨C_Store,_,_,ac_Store,⟨pg_Store,hd_Store,po_Store,sa_Store⟩,⟨a17,i17,k17⟩,FF17.binds (fun _ _ _ _ _ _ us hl=>match us,hl with | [_],_=>rfl),FF17⟩
 have FF18:=dj (st:=y23) l18 c18 k18
 have D18:DefM K "Store" "put" "Store.put" y23 ["self","name","place","value"]:=⟨C_Store,_,_,ac_Store,⟨pg_Store,hd_Store,po_Store,sa_Store⟩,⟨a18,i18,k18⟩,FF18.binds (fun _ _ _ _ _ _ us hl=>match us,hl with | [_,_,_,_],_=>rfl),FF18⟩
 have D19:DefF K mg "_law_step" q25 ["_law_store","_law_writing_here","_law_k"]:=DefF.mk' X G a19 l19 c19 k19 fun _ _ _ _ _ _ us hl=>match us,hl with | [_,_,_],_=>rfl
 have D20:DefF K mg "_law_written" q12 ["_law_store","_law_writing_here","_law_last","_law_broken"]:=DefF.mk' X G a20 l20 c20 k20 fun _ _ _ _ _ _ us hl=>match us,hl with | [_,_,_,_],_=>rfl
 have D21:DefF K mg "_law_put_all" q23 ["_law_store","_law_many"]:=DefF.mk' X G a21 l21 c21 k21 fun _ _ _ _ _ _ us hl=>match us,hl with | [_,_],_=>rfl
 refine ⟨PySem.W.fnOf "law" "law" (bh bM) (aT bM) (ac bM) .none kV22 dc22 pm22 an22 cd22 ct22,fun s v=>.of_eq rfl,fun base _ _=>?_⟩
 have z9:=z64 (P:=l.prog) (w:=w) (base:=base) T D0 
 have z29:=y64 (P:=l.prog) (w:=w) (base:=base) T D1 z9
 have q43:=q59 (P:=l.prog) (w:=w) (base:=base) T D2 z29 z9
 have z46:=z63 (P:=l.prog) (w:=w) (base:=base) T D3 
 have q38:=y56 (P:=l.prog) (w:=w) (base:=base) T D4 
 have q39:=y65 (P:=l.prog) (w:=w) (base:=base) T D5 
 have q18:=q60 (P:=l.prog) (w:=w) (base:=base) T D6 
 have y17:=y60 (P:=l.prog) (w:=w) (base:=base) T D7 
 have z24:=z60 (P:=l.prog) (w:=w) (base:=base) T D8 q18 y17
 have y38:=z55 (P:=l.prog) (w:=w) (base:=base) T D9 
 have z43:=q64 (P:=l.prog) (w:=w) (base:=base) T D10 y38
 have z39:=z61 (P:=l.prog) (w:=w) (base:=base) T D11 
 have z42:=z58 (P:=l.prog) (w:=w) (base:=base) T D12 z39 z9 z29
 have z11:=z59 (P:=l.prog) (w:=w) (base:=base) T D13 
 have q35:=q51 (P:=l.prog) (w:=w) (base:=base) T D14 z11
 have z38:=q55 (P:=l.prog) (w:=w) (base:=base) T D15 z11
 have z36:=y51 (P:=l.prog) (w:=w) (base:=base) T D16 z11
 have z44:=z62 (P:=l.prog) (w:=w) (base:=base) T D17 z11
 have z31:=y63 (P:=l.prog) (w:=w) (base:=base) T D18 
 have y47:=q65 (P:=l.prog) (w:=w) (base:=base) T D19 q35 z38 z36 z44 z31
 have y42:=y58 (P:=l.prog) (w:=w) (base:=base) T D20 y47 z24 q18 y17
 have z37:=q58 (P:=l.prog) (w:=w) (base:=base) T D21 q18 z31 y17
 exact (yA T (dj (st:=bM) l22 c22 k22) q43 z46 q38 q39 z24 z43 z42 y42 z37 z9).imp fun vs H Q E z=>yO z
def walk {l:PySem.W.OpenLaw} {q:Program} {loose:List Str} {XP:(Str->Option Value)->Heap->Prop} {YP:World->Heap->Prop} {d:DefRec} {K:Params->PySem.W.Frag} (hn:l.most=some 63) (hdf:d.params.defaults=[])
  (hY:∀ (w:World) (h:Heap),YP w h->(K w.params).In h)
  (F:∀ (w:World) (mg:Str->Option Value) (fa:Addr) (h:Heap),(K w.params).In h->h.Ns mainGlobals mg->mg d.name=some (.ref fa)→
   ∃ fd:FuncData,(∀ (s:Shared) (u:Value),BindsTo s fd ⟨[u],[]⟩ [("_law_script",u)])/\∀ base:Heap,(K w.params).In base->base.Ns mainGlobals mg->FnOk l.prog w (K w.params) mg base CX0 5 fa fd ["_law_script"] (mw (K w.params))) :
  PySem.W.WalkO q loose XP YP l.row.toRowW d [] (fun f vs=>PySem.call f vs):=
 L2.zD (n:=63) (k:=5) (x:="_law_script") (CX:=fun _=>CX0) (sp:=fun w=>mw (K w.params)) hn (by decide) hdf ⟨rfl,by decide,by decide⟩ hY F (fun _ _ a ns hl hO hS=>⟨a,ns,rfl,hS,hl,hO,fun _=>rfl⟩) fun _ _ _ _ _ z=>z
end P62
open PySem PySem.W PyProof.Rows
set_option maxRecDepth 100000 in
set_option maxHeartbeats 0 in
theorem PySem.Challenge.cw_dimhouse_k62_whole_writing_cut_off_holds : PySem.Challenge.rw_dimhouse_k62_whole_writing_cut_off.Holds := by
 w_on;o_law
 refine holds_open (q:=P62.seen) (loose:=[]) (Xt:=fun s=>xlAt P62.seen [] s&&recOk (RowW.records (OpenRow.toRowW PySem.Challenge.rw_dimhouse_k62_whole_writing_cut_off.row)) s) (XP:=XL P62.seen []) (Yf:=Hook.obs P62.hook) (Ya:=Hook.val P62.hook) (YP:=Hook.says P62.hook) (N:=2316) ?hl (Hook.of P62.hook) (Hook.keeps P62.hook) (fun s e=>xl_of s (Bool.and_eq_true_iff.mp e).1) XL.keeps (by rfl) (by rfl) (by rfl) (fun s e=>recFacts_of (Bool.and_eq_true_iff.mp e).2) (by rfl) (by first | assumption | decide +kernel) (by decide +kernel) ⟨rfl,rfl,rfl,rfl,rfl,by decide +kernel⟩ ?hw ?hc
 case hl=>exact LeftO.of_split "special-get-raises" fun w=>P62.map_two (P62.run_false w) (P62.run_true w)
 case hw=>w_witness2
 delta P62.hook
 k_fill
 refine P62.walk (l:=PySem.Challenge.rw_dimhouse_k62_whole_writing_cut_off) rfl rfl (fun w h Y=>PySem.W.kIn_of Y) ?F
 case F =>
  intro w mg fa h KX G hmg
  refine' P62.all_mk KX G hmg ?ac_Store ?pg_Store ?hd_Store ?po_Store ?sa_Store ?mk_Store ?kc_Store ?nf_Store_counting ?nf_Store_heads ?nf_Store_home ?nf_Store_page_boxes ?nf_Store_page_turns ?nf_Store_result ?a0 ?l0 ?c0 ?k0 ?a1 ?l1 ?c1 ?k1 ?a2 ?l2 ?c2 ?k2 ?a3 ?l3 ?c3 ?k3 ?a4 ?i4 ?l4 ?c4 ?k4 ?a5 ?l5 ?c5 ?k5 ?a6 ?i6 ?l6 ?c6 ?k6 ?a7 ?i7 ?l7 ?c7 ?k7 ?a8 ?l8 ?c8 ?k8 ?a9 ?i9 ?l9 ?c9 ?k9 ?a10 ?l10 ?c10 ?k10 ?a11 ?l11 ?c11 ?k11 ?a12 ?l12 ?c12 ?k12 ?a13 ?i13 ?l13 ?c13 ?k13 ?a14 ?i14 ?l14 ?c14 ?k14 ?a15 ?i15 ?l15 ?c15 ?k15 ?a16 ?i16 ?l16 ?c16 ?k16 ?a17 ?i17 ?l17 ?c17 ?k17 ?a18 ?i18 ?l18 ?c18 ?k18 ?a19 ?l19 ?c19 ?k19 ?a20 ?l20 ?c20 ?k20 ?a21 ?l21 ?c21 ?k21 ?a22 ?l22 ?c22 ?k22 ?z_dict ?z_enumerate ?z_int ?z_len ?z_list ?z_min ?z_range ?z_tuple
  (case ac_Store | pg_Store | hd_Store | po_Store | sa_Store | mk_Store | kc_Store | nf_Store_counting | nf_Store_heads | nf_Store_home | nf_Store_page_boxes | nf_Store_page_turns | nf_Store_result | a0 | l0 | c0 | k0 | a1 | l1 | c1 | k1 | a2 | l2 | c2 | k2 | a3 | l3 | c3 | k3 | a4 | i4 | l4 | c4 | k4 | a5 | l5 | c5 | k5 | a6 | i6 | l6 | c6 | k6 | a7 | i7 | l7 | c7 | k7 | a8 | l8 | c8 | k8 | a9 | i9 | l9 | c9 | k9 | a10 | l10 | c10 | k10 | a11 | l11 | c11 | k11 | a12 | l12 | c12 | k12 | a13 | i13 | l13 | c13 | k13 | a14 | i14 | l14 | c14 | k14 | a15 | i15 | l15 | c15 | k15 | a16 | i16 | l16 | c16 | k16 | a17 | i17 | l17 | c17 | k17 | a18 | i18 | l18 | c18 | k18 | a19 | l19 | c19 | k19 | a20 | l20 | c20 | k20 | a21 | l21 | c21 | k21 | a22 | l22 | c22 | k22 | z_dict | z_enumerate | z_int | z_len | z_list | z_min | z_range | z_tuple=>k_is)
