import PyProof.Rows.All
import Wide.All
import OpenK.AllK
import Wide.FinOn
import Lean
import PyProof.EqAt
import PyProof.EqKinds
import PyProof.TupleCall
import PySem.Challenge.RW_dimhouse_k32_what_is_needed
set_option Elab.async false
set_option linter.all false
namespace P32
open PySem PySem.W PyProof.Rows
section
local macro_rules | `(tactic| o_head $_) => `(tactic| exact (by assumption : ∀ p : Prop, p) _)
set_option maxRecDepth 100000 in
set_option maxHeartbeats 0 in
theorem pre (h0:∀ p:Prop,p):PySem.Challenge.rw_dimhouse_k32_what_is_needed.row.Holds:=by
  k_head
end
def seen:Program:={PySem.Challenge.pw_dimhouse_k32_what_is_needed with main:={PySem.Challenge.pw_dimhouse_k32_what_is_needed.main with body:=[1,2,4,5,6,7,8,9,10,12,13,14,15,16,17,18,19,20,21,22,23,24,25].filterMap fun i=>PySem.Challenge.pw_dimhouse_k32_what_is_needed.main.body[i]?}}
noncomputable abbrev hook:Hook:=kHook P32.pre.heap_1 [2,3,15,17,18,20,21,22,25,26,27,28,29,30,31,32,33,34,35,36,37,39,40,42,43,44,46,47,49,50,51,53,54,56,57,58,61,62,63,66,67,68,70,71,73,74,75,77,78,80,81,82,84,85,87,88,89,91,92,94,95,96,99,100,101,103,104,106,107,108,110,111,113,114,115,118,119,120,122,123,125,126,127,130,131,132,134,135,137,138,139,141,142,144,145,146,148,149,151,152,153,156,157] (fun _=>by kernel_rfl)
theorem map_two {α β γ:Type} {x:Option α} {f:α→β} {g:α→γ} {a:β} {b:γ} (h:x.map f=some a) (h':x.map g=some b):x.map (fun s=>(f s,g s))=some (a,b):=by
  cases x with
  | none=>cases h
  | some s=>simp only [Option.map_some,Option.some.injEq] at h h' ⊢;rw [h,h']
set_option maxRecDepth 100000 in
set_option maxHeartbeats 0 in
theorem run_false (w:World):(fencedOpening treeTable PySem.Challenge.rw_dimhouse_k32_what_is_needed.row.prog w 1796).map (fun s₀=>(topFrom treeTable PySem.Challenge.rw_dimhouse_k32_what_is_needed.row.prog (w.withFollow "special-get-raises" false) 1796 s₀).map (fun s=>(openSeen seen [PySem.Str.ofString "ATOM_PLACES"] (importedModules PySem.Challenge.rw_dimhouse_k32_what_is_needed.row.prog.main.body) (fun s=>xlAt seen [] s&&recOk (RowW.records (OpenRow.toRowW PySem.Challenge.rw_dimhouse_k32_what_is_needed.row)) s) true s,Hook.obs hook s)))=some (some (openGood seen [PySem.Str.ofString "ATOM_PLACES"],Hook.val hook (w.withFollow "special-get-raises" false))):=by
  kernel_rfl
set_option maxRecDepth 100000 in
set_option maxHeartbeats 0 in
theorem run_true (w:World):(fencedOpening treeTable PySem.Challenge.rw_dimhouse_k32_what_is_needed.row.prog w 1796).map (fun s₀=>(topFrom treeTable PySem.Challenge.rw_dimhouse_k32_what_is_needed.row.prog (w.withFollow "special-get-raises" true) 1796 s₀).map (fun s=>(openSeen seen [PySem.Str.ofString "ATOM_PLACES"] (importedModules PySem.Challenge.rw_dimhouse_k32_what_is_needed.row.prog.main.body) (fun s=>xlAt seen [] s&&recOk (RowW.records (OpenRow.toRowW PySem.Challenge.rw_dimhouse_k32_what_is_needed.row)) s) true s,Hook.obs hook s)))=some (some (openGood seen [PySem.Str.ofString "ATOM_PLACES"],Hook.val hook (w.withFollow "special-get-raises" true))):=by
  kernel_rfl
end P32
set_option maxRecDepth 100000
set_option maxHeartbeats 4000000
noncomputable section
def bS {α β:Type _} {o:Option α} {f:α->Option β} {b:β} (h:o.bind f=some b):∃ a,o=some a/\f a=some b:=Option.bind_eq_some_iff.mp h
def mS {α β:Type _} {o:Option α} {f:α->β} {b:β} (h:o.map f=some b):∃ a,o=some a/\f a=b:=Option.map_eq_some_iff.mp h
def gX {α:Type _} {l:List α} {i:Nat} {a:α} (h:l[i]?=some a):∃ z:i<l.length,l[i]=a:=List.getElem?_eq_some_iff.mp h
open PySem PySem.Spec PyProof.Rows in abbrev gN := @List.getElem?_set_ne
open PySem PySem.Spec PyProof.Rows in abbrev gP := @Heap.get?_push_of_some
open PySem PySem.Spec PyProof.Rows in abbrev wB := @wpAny_bind
open PySem PySem.Spec PyProof.Rows in abbrev gR := @List.getElem?_append_right
open PySem PySem.Spec PyProof.Rows in abbrev gQ := @List.getElem?_eq_getElem
open PySem PySem.Spec PyProof.Rows in abbrev nL := @Nat.le_refl
set_option maxRecDepth 100000
namespace L2
open PySem PySem.Spec PyProof.Rows
abbrev Key:=Sum Int Str
def iu:Key->Value->Bool
 | .inl k,v=>Value.isInt k v
 | .inr x,v=>Value.isStrOf x v
def keyH (w:World):Key->Int
 | .inl k=>hashInt k
 | .inr x=>hashStr w x
def bq:∀ {k:Key} {v:Value},iu k v=true->(∃ i t,k=Sum.inl i/\v=Value.int i t)∨(∃ x t,k=Sum.inr x/\v=Value.str x t)
 | .inl i,v,h=>by
  obtain ⟨t,e⟩:=Value.isInt_shape (k:=i) (v:=v) h
  exact .inl ⟨i,t,rfl,e⟩
 | .inr x,v,h=>by
  obtain ⟨t,e⟩:=Value.isStrOf_shape (x:=x) (v:=v) h
  exact .inr ⟨x,t,rfl,e⟩
def pQ (i:Int) (t:Tok):iu (.inl i) (.int i t)=true:=by simp [iu,Value.isInt]
def pR (x:Str) (t:Tok):iu (.inr x) (.str x t)=true:=by simp [iu,Value.isStrOf]
def wW (a b:Int):decide ((Sum.inl a:Key)=Sum.inl b)=(a==b):=by
 by_cases e:a=b
 · subst e;simp
 · have h:¬ (Sum.inl a:Key)=Sum.inl b:=fun q=>e (Sum.inl.inj q)
   rw [decide_eq_false h]
   exact (beq_eq_false_iff_ne.mpr e).symm
def wX (a b:Str):decide ((Sum.inr a:Key)=Sum.inr b)=decide (a=b):=by
 by_cases e:a=b
 · subst e;simp
 · have h:¬ (Sum.inr a:Key)=Sum.inr b:=fun q=>e (Sum.inr.inj q)
   rw [decide_eq_false h,decide_eq_false e]
def wY (a:Int) (b:Str):decide ((Sum.inl a:Key)=Sum.inr b)=false:=decide_eq_false (fun q=>nomatch q)
def wZ (a:Str) (b:Int):decide ((Sum.inr a:Key)=Sum.inl b)=false:=decide_eq_false (fun q=>nomatch q)
noncomputable def bj (prog:Program) (w:World):PySem.KeyKind prog w Key where
 is:=iu
 hash:=keyH w
 inj:=fun v a b ha hb=>by
  rcases bq ha with ⟨i,t,rfl,rfl⟩ | ⟨x,t,rfl,rfl⟩
  · rcases bq hb with ⟨j,u,rfl,e⟩ | ⟨y,u,rfl,e⟩
    · injection e with e1 _;rw [e1]
    · exact nomatch e
  · rcases bq hb with ⟨j,u,rfl,e⟩ | ⟨y,u,rfl,e⟩
    · exact nomatch e
    · injection e with e1 _;rw [e1]
 byValue:=fun k v h=>by
  rcases bq h with ⟨i,t,rfl,rfl⟩ | ⟨x,t,rfl,rfl⟩<;>rfl
 pyHash:=fun hv h=>by
  rcases bq hv with ⟨i,t,rfl,rfl⟩ | ⟨x,t,rfl,rfl⟩
  · exact wpAny_pyHash_int h
  · exact wpAny_pyHash_str h
 eqBool:=fun hu hv h=>by
  rcases bq hu with ⟨i,t,rfl,rfl⟩ | ⟨x,t,rfl,rfl⟩
  · rcases bq hv with ⟨j,u,rfl,rfl⟩ | ⟨y,u,rfl,rfl⟩
    · rw [wW] at h;exact wpAny_eqBool_int h
    · rw [wY] at h;exact SeqAt.EqAt.int_str i t y u _ _ _ _ h
  · rcases bq hv with ⟨j,u,rfl,rfl⟩ | ⟨y,u,rfl,rfl⟩
    · rw [wZ] at h;exact SeqAt.EqAt.str_int x t j u _ _ _ _ h
    · rw [wX] at h;exact wpAny_eqBool_str h
 «strs»:=fun k x t v h=>by
  rcases bq h with ⟨i,u,rfl,e⟩ | ⟨y,u,rfl,e⟩
  · exact nomatch e
  · injection e with e1 _
    subst e1
    cases v<;>rfl
def lH (prog:Program) (w:World) (i:Int) (t:Tok):(bj prog w).is (.inl i) (.int i t)=true:=pQ i t
def dQ (prog:Program) (w:World) (x:Str) (t:Tok):(bj prog w).is (.inr x) (.str x t)=true:=pR x t
inductive V where
 | non | bl (b:Bool) | int (i:Int) | str (x:Str) | byt (b:Array UInt8) | flt (b:UInt64) | ref (a:Addr) | ty (n:String)
 deriving DecidableEq
noncomputable def RelV:V->Value->Prop
 | .non,u=>u=Value.none
 | .bl b,u=>u=Value.bool b
 | .int i,u=>∃ t,u=Value.int i t
 | .str x,u=>∃ t,u=Value.str x t
 | .byt b,u=>∃ t,u=Value.bytes b t
 | .flt b,u=>∃ t,u=Value.float b t
 | .ref a,u=>u=Value.ref a
 | .ty n,u=>u=Value.type n
abbrev Vals:List V->List Value->Prop:=Paired RelV
def Vals.length {xs:List V} {us:List Value} (r:Vals xs us):xs.length=us.length:=Paired.length r
def Vals.get:∀ {xs:List V} {us:List Value} {i:Nat} {x:V},Vals xs us->xs[i]?=some x->∃ u,us[i]?=some u/\RelV x u
 | _,_,_,_,.nil,e=>by simp at e
 | _,_,0,_,.cons r _,e=>by simp at e;subst e;exact ⟨_,rfl,r⟩
 | _,_,i+1,x,.cons _ t,e=>by
  obtain ⟨u,h1,h2⟩:=Vals.get (i:=i) (x:=x) t (by simpa using e)
  exact ⟨u,by simpa using h1,h2⟩
def Vals.set {x:V} {u:Value} (r:RelV x u):∀ {xs:List V} {us:List Value} (i:Nat),Vals xs us->Vals (xs.set i x) (us.set i u)
 | _,_,_,.nil=>.nil
 | _,_,0,.cons _ t=>.cons r t
 | _,_,i+1,.cons q t=>.cons q (Vals.set r i t)
def Vals.append:∀ {xs ys:List V} {us ws:List Value},Vals xs us->Vals ys ws->Vals (xs++ys) (us++ws)
 | _,_,_,_,.nil,s=>s
 | _,_,_,_,.cons r t,s=>.cons r (Vals.append t s)
def Vals.take:∀ {xs:List V} {us:List Value} (n:Nat),Vals xs us->Vals (xs.take n) (us.take n)
 | _,_,0,_=>.nil
 | _,_,_+1,.nil=>.nil
 | _,_,n+1,.cons r t=>.cons r (Vals.take n t)
def Vals.drop:∀ {xs:List V} {us:List Value} (n:Nat),Vals xs us->Vals (xs.drop n) (us.drop n)
 | _,_,0,r=>r
 | _,_,_+1,.nil=>.nil
 | _,_,n+1,.cons _ t=>Vals.drop n t
def RelO:Option V->Option Value->Prop
 | some v,some u=>RelV v u
 | none,none=>True
 | _,_=>False
def KV {κ:Type}:List (κ×V)->List (κ×Value)->Prop:=Paired fun (p:κ×V) (q:κ×Value)=>p.1=q.1/\RelV p.2 q.2
def kV:Key->V
 | .inl i=>.int i
 | .inr x=>.str x
inductive HO where
 | lst (xs:List V)
 | tup (xs:List V)
 | dK (kvs:List (Key×V)) | dT (kvs:List (List Key×V))
 | set (S:Int->Bool) (n:Nat)
 | ins (C dx:Addr) (fs:List (Str×V))
 | own (x:Addr)
 | xd (fs:List (Str×V))
 | met (f x:Addr)
 | rng (lo hi:Int)
 | frz (o:Obj) (u:HO)
 | tbl (ps:Array Value)
 | ext (φ:Heap->Prop)
abbrev Hp:=Addr->Option HO
def upd (H:Hp) (a:Addr) (o:HO):Hp:=fun b=>if b=a then some o else H b
def aI {H:Hp} {a:Addr} {o:HO}:upd H a o a=some o:=by unfold upd;rw [if_pos rfl]
def aJ {H:Hp} {a b:Addr} {o:HO} (h:b≠a):upd H a o b=H b:=by unfold upd;rw [if_neg h]
def zq {H:Hp} {a b:Addr} {o u:HO} (h:H a=some o) (h':H b=some u) (d:o≠u):a≠b:=by
 intro e;subst e;rw [h] at h';exact d (Option.some.inj h')
def bE {H:Hp} {a b:Addr} {o:HO} (h:H a=some o) (h':H b=none):a≠b:=by
 intro e;subst e;rw [h] at h';cases h'
section
variable (P:Program) (w:World)
noncomputable def ObjOk (H:Hp) (h:Heap) (a:Addr):HO->Prop
 | .lst xs=>xs.length<=sizeLine/\∃ (its:List Value) (n:Nat),Vals xs its/\h.get? a=some {cls:=.type "list",data:=.seq its.toArray n}
 | .tup xs=>xs.length<=sizeLine/\∃ its:List Value,Vals xs its/\IsTup h a its.toArray
 | .dK kvs=>kvs.length<=sizeLine/\(a==sysModules)=false/\∃ vs,KV kvs vs/\h.DictOf (bj P w) a vs
 | .dT kvs=>kvs.length<=sizeLine/\(a==sysModules)=false/\∃ xs:List (List Key×Addr×Value),
     Paired (fun (p:List Key×V) (q:List Key×Addr×Value)=>p.1=q.1/\H q.2.1=some (.tup (p.1.map kV))/\RelV p.2 q.2.2) kvs xs∧
     ∃ o es ep,h.get? a=some o/\o.ExactDict/\o.data=.dict es ep/\es.toList=xs.map (entryOfKey (tupleKind (bj P w)))/\(xs.map (·.1)).Nodup
 | .set S n=>h.SetOf (intKind P w) a S n
 | .ins C dx fs=>H dx=some (.own a)/\fs.length<=1000/\dx≠a/\h.get? a=some (PySem.W.instObj C dx)∧
     ∃ mA,h.Ns1 dx mA/\(∀ f,RelO (fs.lookup f) (mA f))/\PySem.Within mA (fs.map (·.1))
 | .own _=>∃ o,h.get? a=some o
 | .xd fs=>∃ mA,h.Ns1 a mA/\∀ f,RelO (fs.lookup f) (mA f)
 | .rng lo hi=>∃ t u v,h.get? a=some {cls:=.type "range",data:=.fields #[.int lo t,.int hi u,.int 1 v]}
 | .frz o u=>h.get? a=some o/\ObjOk H h a u
 | .tbl ps=>h.get? a=some {cls:=.none,data:=.fields ps}
 | .met f x=>h.get? a=some (PySem.W.methodObj (.ref f) (.ref x))
 | .ext φ=>φ h/\(∃ o,h.get? a=some o)/\∀ h1 h2:Heap,φ h1->(∀ o,h1.get? a=some o->h2.get? a=some o)->φ h2
def HOk (H:Hp) (h:Heap):Prop:=∀ a o,H a=some o->ObjOk P w H h a o
end
section
variable {P:Program} {w:World} {H H':Hp} {h h':Heap} {a:Addr} {o:HO}
def ObjOk.lt (x:ObjOk P w H h a o):a<h.objs.size:=by
 cases o with
 | lst xs=>obtain ⟨_,_,_,_,e⟩:=x;exact Heap.lt_size e
 | tup xs=>obtain ⟨_,_,_,p⟩:=x;exact p.lt
 | dK kvs=>obtain ⟨_,_,_,_,o,_,_,e,_⟩:=x;exact Heap.lt_size e
 | dT kvs=>obtain ⟨_,_,_,_,o,_,_,e,_⟩:=x;exact Heap.lt_size e
 | set S n=>obtain ⟨o,_,_,_,e,_⟩:=x;exact Heap.lt_size e
 | ins C dx fs=>obtain ⟨_,_,_,e,_⟩:=x;exact Heap.lt_size e
 | own y=>obtain ⟨_,e⟩:=x;exact Heap.lt_size e
 | xd fs=>obtain ⟨_,⟨_,_,_,e,_⟩,_⟩:=x;exact Heap.lt_size e
 | rng lo hi=>obtain ⟨_,_,_,e⟩:=x;exact Heap.lt_size e
 | frz ob u=>obtain ⟨e,_⟩:=x;exact Heap.lt_size e
 | tbl ps=>exact Heap.lt_size (show h.get? a=some _ from x)
 | met f y=>exact Heap.lt_size (show h.get? a=some _ from x)
 | ext φ=>obtain ⟨_,⟨_,e⟩,_⟩:=x;exact Heap.lt_size e
def Paired.mapP {α β:Type} {F G:α->β->Prop}:∀ {l₁:List α} {l₂:List β},Paired F l₁ l₂->(∀ a b,F a b->G a b)->Paired G l₁ l₂
 | _,_,.nil,_=>.nil
 | _,_,.cons r t,f=>.cons (f _ _ r) (Paired.mapP t f)
def ObjOk.stay (x:ObjOk P w H h a o) (k:∀ b u,(b=a∨H b=some (.own a))->h.get? b=some u->h'.get? b=some u)
  (ho:∀ b,H b=some (.own a)->H' b=some (.own a)) (ht:∀ b xs,H b=some (.tup xs)->H' b=some (.tup xs)):ObjOk P w H' h' a o:=by
 induction o with
 | lst xs=>obtain ⟨z,its,n,r,e⟩:=x;exact ⟨z,its,n,r,k _ _ (.inl rfl) e⟩
 | tup xs=>obtain ⟨z,its,r,ob,e,c⟩:=x;exact ⟨z,its,r,ob,k _ _ (.inl rfl) e,c⟩
 | dK kvs=>obtain ⟨z,y,vs,r,ob,es,ep,e,c⟩:=x;exact ⟨z,y,vs,r,ob,es,ep,k _ _ (.inl rfl) e,c⟩
 | dT kvs =>
  obtain ⟨z,y,xs,r,ob,es,ep,e,c⟩:=x
  exact ⟨z,y,xs,Paired.mapP r fun p q z=>⟨z.1,ht _ _ z.2.1,z.2.2⟩,ob,es,ep,k _ _ (.inl rfl) e,c⟩
 | set S n=>obtain ⟨ob,es,ep,t,e,c⟩:=x;exact ⟨ob,es,ep,t,k _ _ (.inl rfl) e,c⟩
 | ins C dx fs =>
  obtain ⟨d,z,ne,e,mA,⟨od,es,ep,e2,c⟩,r⟩:=x
  exact ⟨ho _ d,z,ne,k _ _ (.inl rfl) e,mA,⟨od,es,ep,k _ _ (.inr d) e2,c⟩,r⟩
 | own y=>obtain ⟨ob,e⟩:=x;exact ⟨ob,k _ _ (.inl rfl) e⟩
 | xd fs=>obtain ⟨mA,⟨od,es,ep,e,c⟩,r⟩:=x;exact ⟨mA,⟨od,es,ep,k _ _ (.inl rfl) e,c⟩,r⟩
 | rng lo hi=>obtain ⟨t,u,v,e⟩:=x;exact ⟨t,u,v,k _ _ (.inl rfl) e⟩
 | frz ob u ih=>obtain ⟨e,q⟩:=x;exact ⟨k _ _ (.inl rfl) e,ih q⟩
 | tbl ps =>
  have e:h.get? a=some {cls:=.none,data:=.fields ps}:=x
  show h'.get? a=some {cls:=.none,data:=.fields ps}
  exact k a _ (.inl rfl) e
 | met f y =>
  have e:h.get? a=some (PySem.W.methodObj (.ref f) (.ref y)):=x
  show h'.get? a=some (PySem.W.methodObj (.ref f) (.ref y))
  exact k a _ (.inl rfl) e
 | ext φ=>obtain ⟨p,⟨o,e⟩,st⟩:=x;exact ⟨st _ _ p fun o q=>k _ _ (.inl rfl) q,⟨o,k _ _ (.inl rfl) e⟩,st⟩
def HOk.lt (x:HOk P w H h) (e:H a=some o):a<h.objs.size:=(x a o e).lt
def HOk.fresh (x:HOk P w H h) (e:h.objs.size<=a):H a=none:=by
 cases q:H a with
 | none=>rfl
 | some u=>exact absurd (Nat.lt_of_lt_of_le (x.lt q) e) (Nat.lt_irrefl _)
def HOk.kept (x:HOk P w H h) (k:∀ b u,h.get? b=some u->h'.get? b=some u):HOk P w H h':=fun a o e =>
 (x a o e).stay (fun b u _ q=>k b u q) (fun _ q=>q) fun _ _ q=>q
def HOk.laid (x:HOk P w H h) (k:∀ b u,h.get? b=some u->h'.get? b=some u) (hp:h.objs.size<=a) (new:ObjOk P w (upd H a o) h' a o):HOk P w (upd H a o) h':=fun b u e=>by
 have hn:=x.fresh hp
 by_cases hb:b=a
 · subst hb;rw [aI] at e;cases e;exact new
 · rw [aJ hb] at e
   exact (x b u e).stay (fun c v _ q=>k c v q) (fun c q=>by rw [aJ (bE q hn)];exact q) fun c xs q=>by rw [aJ (bE q hn)];exact q
end
def Rd (H:Hp) (a:Addr) (u:HO):Prop:=H a=some u∨∃ o,H a=some (.frz o u)
def Rd.ok {P:Program} {w:World} {H:Hp} {h:Heap} {a:Addr} {u:HO} (r:Rd H a u) (x:HOk P w H h):ObjOk P w H h a u:=by
 rcases r with r | ⟨o,r⟩
 · exact x a u r
 · obtain ⟨_,q⟩:=x a _ r
   exact q
def Mut:Option HO->Prop
 | some (.lst _)=>True
 | some (.dK _)=>True
 | some (.dT _)=>True
 | some (.set _ _)=>True
 | some (.ins _ _ _)=>True
 | some (.ext _)=>True
 | _=>False
section
variable {P:Program} {w:World} {H:Hp} {h h':Heap} {x e:Addr} {o':HO}
def HOk.write (ok:HOk P w H h) (mu:Mut (H x)) (he:e=x∨H e=some (.own x)) (k:∀ b u,b≠e->h.get? b=some u->h'.get? b=some u) (heo:∃ u,h'.get? e=some u)
  (new:ObjOk P w (upd H x o') h' x o'):HOk P w (upd H x o') h':=fun b u q=>by
 have nown:∀ c y,H c=some (.own y)->c≠x:=fun c y r z=>by subst z;rw [r] at mu;exact mu
 have ntup:∀ c xs,H c=some (.tup xs)->c≠x:=fun c xs r z=>by subst z;rw [r] at mu;exact mu
 by_cases hb:b=x
 · subst hb;rw [aI] at q;cases q;exact new
 · rw [aJ hb] at q
   by_cases hbe:b=e
   · have q':H b=some (.own x):=by
      rcases he with z | z
      · exact absurd (hbe.trans z) hb
      · rw [hbe];exact z
     rw [q] at q';cases q'
     obtain ⟨v,hv⟩:=heo
     exact ⟨v,by rw [hbe];exact hv⟩
   · refine (ok b u q).stay (fun c v hc r=>k c v ?_ r) (fun c r=>by rw [aJ (nown c b r)];exact r) fun c xs r=>by rw [aJ (ntup c xs r)];exact r
     rcases hc with rfl | hc
     · exact hbe
     · rintro rfl
       rcases he with z | z
       · exact nown c b hc z
       · rw [hc] at z;cases z;exact hb rfl
end
structure Un (fs ex:List Addr) (H H':Hp) (h h':Heap):Prop where
 keep:∀ b o,h.get? b=some o->H b=none->b∉fs->b∉ex->h'.get? b=some o
 slot:∀ b o,h.get? b=some o->H b=none->b∈fs->b∉ex->∃ sl,h'.get? b=some {o with slots:=sl}
 free:∀ b o,h.get? b=some o->H b=none->b∉ex->H' b=none
 there:∀ b o,h.get? b=some o->b∉ex->∃ o',h'.get? b=some o'
 tups:∀ b xs,H b=some (.tup xs)->H' b=some (.tup xs)
 frzs:∀ b o u,H b=some (.frz o u)->H' b=some (.frz o u)
 tbls:∀ b ps,H b=some (.tbl ps)->∃ more,H' b=some (.tbl (ps++more))
section
variable {fs fs' ex ex':List Addr} {H H1 H2:Hp} {h h1 h2 h':Heap} {a x e:Addr} {o:HO}
def Un.any (u:Un fs ex H H1 h h1) {b:Addr} {ob:Obj} (q:h.get? b=some ob) (n:H b=none) (hx:b∉ex):∃ sl,h1.get? b=some {ob with slots:=sl}:=by
 by_cases hb:b∈fs
 · exact u.slot b ob q n hb hx
 · exact ⟨ob.slots,u.keep b ob q n hb hx⟩
def Un.kept (k:∀ b u,h.get? b=some u->h'.get? b=some u):Un fs ex H H h h':=
 ⟨fun b ob q _ _ _=>k b ob q,fun b ob q _ _ _=>⟨ob.slots,k b ob q⟩,fun _ _ _ n _=>n,fun b ob q _=>⟨ob,k b ob q⟩,fun _ _ q=>q,fun _ _ _ q=>q,fun _ ps q=>⟨#[],by rw [q];simp⟩⟩
def Un.refl:Un fs ex H H h h:=Un.kept fun _ _ q=>q
def Un.laid (k:∀ b u,h.get? b=some u->h'.get? b=some u) (hp:h.objs.size<=a) (hn:H a=none):Un fs ex H (upd H a o) h h' where
 keep:=fun b u q _ _ _=>k b u q
 slot:=fun b u q _ _ _=>⟨u.slots,k b u q⟩
 free:=fun b u q n _=>by rw [aJ (Nat.ne_of_lt (Nat.lt_of_lt_of_le (Heap.lt_size q) hp))];exact n
 there:=fun b u q _=>⟨u,k b u q⟩
 tups:=fun b xs q=>by rw [aJ (bE q hn)];exact q
 frzs:=fun b u xs q=>by rw [aJ (bE q hn)];exact q
 tbls:=fun b ps q=>⟨#[],by rw [aJ (bE q hn),q];simp⟩
def Un.write (mu:Mut (H x)) (he:e=x∨H e=some (.own x)) (k:∀ b u,b≠e->h.get? b=some u->h'.get? b=some u) (heo:∃ u,h'.get? e=some u):Un fs ex H (upd H x o) h h':=by
 have hx:∀ b,H b=none->b≠x:=fun b n z=>by subst z;rw [n] at mu;exact mu
 have hb:∀ b,H b=none->b≠e:=fun b n z=>by
  subst z
  rcases he with r | r
  · exact hx b n r
  · rw [n] at r;cases r
 have hm:∀ b u,H b=some u->¬ Mut (some u)->b≠x:=fun b u q nm z=>by subst z;rw [q] at mu;exact nm mu
 refine ⟨fun b u q n _ _=>k b u (hb b n) q,fun b u q n _ _=>⟨u.slots,k b u (hb b n) q⟩,fun b u q n _=>by rw [aJ (hx b n)];exact n,fun b u q _=>?_,
  fun b xs q=>by rw [aJ (hm b _ q fun z=>z)];exact q,fun b u xs q=>by rw [aJ (hm b _ q fun z=>z)];exact q,fun b ps q=>⟨#[],by rw [aJ (hm b _ q fun z=>z),q];simp⟩⟩
 by_cases hbe:b=e
 · subst hbe;exact heo
 · exact ⟨u,k b u hbe q⟩
end
def trk (h:Heap) (H:Hp):List Addr:=(List.range h.objs.size).filter fun a=>(H a).isSome
def km (h:Heap) (H:Hp):Heap:=PySem.W.hideAll h (trk h H)
def pS (h:Heap) (H:Hp):(km h H).objs.size=h.objs.size:=PySem.W.hideAll_size _ _
def qN {h:Heap} {H:Hp} {b:Addr} {o:Obj} (e:h.get? b=some o) (n:H b=none):(km h H).get? b=some o:=
 PySem.W.hideAll_get _ e fun hm=>by
  have q:(H b).isSome=true:=(List.mem_filter.mp hm).2
  rw [n] at q;simp at q
def t4 {h:Heap} {H:Hp} {b:Addr} {o:Obj} (e:(km h H).get? b=some o):h.get? b=some o/\H b=none:=by
 have e':h.get? b=some o:=PySem.W.of_hideAll (trk h H) e
 refine ⟨e',?_⟩
 cases q:H b with
 | none=>rfl
 | some x =>
  have hm:b∈trk h H:=List.mem_filter.mpr ⟨List.mem_range.mpr (Heap.lt_size e'),by simp [q]⟩
  have z:(km h H).get? b=none:=PySem.W.hideAll_none (trk h H) hm
  rw [z] at e;cases e
def t5 (g h:Heap) (L:Addr):List (Addr×Obj):=(List.range h.objs.size).filterMap fun a=>if a=L∨(g.get? a).isSome=true then none else (h.get? a).map fun o=>(a,o)
def rest (g h:Heap) (L d:Addr):List (Addr×Obj):=(t5 g h L).filter fun p=>decide (p.1≠d)
structure Mod (K:PySem.W.Frag) (mg:Str->Option Value) (base:Heap):Prop where
 kin:K.In base
 glob:base.Ns mainGlobals mg
 blt:∃ mb,base.Ns builtinsNs mb/\∀ x:Str,x≠"__name__"->mb x=bootBuiltins x
 nolimit:base.NoLimit
structure Cx where
 prog:Program
 w:World
 K:PySem.W.Frag
 mg:Str->Option Value
 base:Heap
 A:Around
 N:List Str
 s₀:Shared
 H₀:Hp
 env:Env
 outer:List Env
 stack:List Env
 ex:List Addr
 fn:Str->Bool
 calm:Bool
 pn:List (Addr×Obj)
 xe:Value->Shared->Prop
def frs (l:List Env):List Addr:=l.filterMap (·.frame)
abbrev Cx.fs (X:Cx):List Addr:=frs X.outer
def Vis (sc:Scope) (x:Str):Prop:=sc.names.lookup x=some .local∨sc.names.lookup x=some .cell∨sc.names.lookup x=some .free
def Loc (sc:Scope) (x:Str):Prop:=sc.names.lookup x=some .local∨sc.names.lookup x=some .cell
noncomputable def Look (env:Env) (h:Heap) (m:Str->Option Value) (x:Str) (u:Value):Prop:=
 (env.kindOf x=some .local/\m x=some u)∨((env.kindOf x=some .cell∨env.kindOf x=some .free)/\∃ c,env.cells.lookup x=some c/\h.IsCell c (some u))
structure Cx.Ok (X:Cx):Prop where
 mod:Mod X.K X.mg X.base
 kind:X.env.scope.kind=.function
 glob:X.env.globals=mainGlobals
 blt:X.env.builtins=builtinsNs
 above:X.s₀.heap.objs.size<=X.env.locals
 inj:∀ x y c,X.env.cells.lookup x=some c->X.env.cells.lookup y=some c->x=y
 has:∀ x,(X.env.kindOf x=some .cell∨X.env.kindOf x=some .free)->∃ c,X.env.cells.lookup x=some c
 cab:∀ x c,X.fn x=true->X.env.cells.lookup x=some c->X.s₀.heap.objs.size<=c
 hd:X.calm=true->X.A.handled=none
 frames:X.A.frames=some X.stack
 stk:X.stack=X.outer∨(X.stack=X.env::X.outer/\X.env.frame=some X.env.locals)
 exf:∀ b∈X.ex,b≠X.env.locals/\∀ x c,X.env.cells.lookup x=some c->c≠b
 bs:∀ b o,X.base.get? b=some o->X.s₀.heap.get? b=some o/\X.H₀ b=none
 bsz:X.base.objs.size<=X.s₀.heap.objs.size
 noex:∀ b o,X.base.get? b=some o->b∉X.ex
 exfs:∀ b∈X.ex,b∉X.fs
 funs:X.s₀.heap.FunFrames X.base X.outer
 frf:∀ b∈X.fs,X.H₀ b=none
structure Inv (X:Cx) (pins:List (Addr×Obj)) (σ:List (Option V)) (H:Hp) (s:Shared):Prop where
 ok:X.Ok
 os:s.os=X.s₀.os
 bare:AllBare s.gens
 base:Un X.fs X.ex X.H₀ H X.s₀.heap s.heap
 loc:∃ m,s.heap.Ns X.env.locals m/\∀ (i:Nat) (x:Str) (v:V),X.N[i]?=some x->σ[i]?=some (some v)->Vis X.env.scope x->∃ u,RelV v u/\Look X.env s.heap m x u
 cell:∀ x c,X.env.cells.lookup x=some c->∃ v,s.heap.IsCell c v
 free:H X.env.locals=none
 freeC:∀ x c,X.env.cells.lookup x=some c->H c=none
 pin:∀ p∈X.pn++pins,s.heap.get? p.1=some p.2/\H p.1=none/\p.1≠X.env.locals/\p.1∉X.fs/\∀ v,p.2.data≠.cell v
 hok:HOk X.prog X.w H s.heap
 len:σ.length=X.N.length
section
variable {X:Cx} {pins:List (Addr×Obj)} {σ:List (Option V)} {H H':Hp} {s:Shared} {h':Heap}
def Cx.Ok.nofr (ok:X.Ok) {b:Addr} {o:Obj} (e:X.base.get? b=some o):b∉X.fs:=fun hb=>by
 have:=(ok.funs.mem hb).1
 rw [e] at this;cases this
def Inv.bs (I:Inv X pins σ H s):∀ b o,X.base.get? b=some o->s.heap.get? b=some o/\H b=none:=fun b o e =>
 ⟨I.base.keep b o (I.ok.bs b o e).1 (I.ok.bs b o e).2 (I.ok.nofr e) (I.ok.noex b o e),I.base.free b o (I.ok.bs b o e).1 (I.ok.bs b o e).2 (I.ok.noex b o e)⟩
def Inv.bk (I:Inv X pins σ H s):∀ b o,X.base.get? b=some o->s.heap.get? b=some o:=fun b o e=>(I.bs b o e).1
def Inv.mod (I:Inv X pins σ H s):Mod X.K X.mg X.base:=I.ok.mod
def Inv.kIn (I:Inv X pins σ H s):X.K.In s.heap:=I.ok.mod.kin.keeps I.bk
def Inv.fr (I:Inv X pins σ H s):∃ m,Fr X.base X.env.locals s.heap m:=
 let ⟨m,hn,_⟩:=I.loc
 ⟨m,hn,I.bk,Nat.le_trans I.ok.bsz I.ok.above⟩
def Inv.lt (I:Inv X pins σ H s):X.env.locals<s.heap.objs.size:=let ⟨_,hn,_⟩:=I.loc;hn.lt
def Inv.sz (I:Inv X pins σ H s):X.s₀.heap.objs.size<=s.heap.objs.size:=Nat.le_trans I.ok.above (Nat.le_of_lt I.lt)
def Inv.nofs (I:Inv X pins σ H s) {a:Addr} (h:s.heap.objs.size<=a):a∉X.fs:=fun hb=>by
 obtain ⟨_,o,ho,_⟩:=I.ok.funs.mem hb
 exact absurd (Nat.lt_of_lt_of_le (Heap.lt_size ho) (Nat.le_trans I.sz h)) (Nat.lt_irrefl _)
def Inv.cne (I:Inv X pins σ H s):∀ x c,X.env.cells.lookup x=some c->c≠X.env.locals:=fun x c e z=>by
 obtain ⟨v,o,ho,hd⟩:=I.cell x c e
 obtain ⟨m,⟨o',es,ep,ho',hd',_⟩,_⟩:=I.loc
 rw [z,ho'] at ho;cases ho;rw [hd'] at hd;cases hd
def Inv.funs (I:Inv X pins σ H s):s.heap.FunFrames X.base X.outer:=by
 have all:∀ (l:List Env),(∀ b∈frs l,b∈X.fs)->X.s₀.heap.FunFrames X.base l->s.heap.FunFrames X.base l:=by
  intro l
  induction l with
  | nil=>intro _ _;trivial
  | cons env r ih =>
   intro hs hl
   obtain ⟨hk,⟨L,o,hf,hn,ho,hd⟩,hr⟩:=hl
   have hL:L∈X.fs:=hs L (by unfold frs;rw [List.filterMap_cons,hf];exact List.mem_cons_self)
   obtain ⟨sl,e⟩:=I.base.slot L o ho (I.ok.frf L hL) hL fun z=>I.ok.exfs L z hL
   exact ⟨hk,⟨L,_,hf,hn,e,hd⟩,ih (fun b hb=>hs b (by unfold frs;rw [List.filterMap_cons,hf];exact List.mem_cons_of_mem _ hb)) hr⟩
 exact all X.outer (fun _ hb=>hb) I.ok.funs
def Inv.stack (I:Inv X pins σ H s):s.heap.FunFrames X.base X.stack:=by
 rcases I.ok.stk with e | ⟨e,hf⟩
 · rw [e];exact I.funs
 · rw [e]
   obtain ⟨m,hn,_⟩:=I.loc
   refine .cons (by rw [I.ok.kind];decide) hf hn ?_ I.funs
   exact Heap.get?_none_of_le (Nat.le_trans I.ok.bsz I.ok.above)
def Inv.stkSub (I:Inv X pins σ H s):∀ b∈frs X.stack,b∈X.env.locals::X.fs:=fun b hb=>by
 rcases I.ok.stk with e | ⟨e,hf⟩
 · rw [e] at hb;exact List.mem_cons_of_mem _ hb
 · rw [e] at hb
   unfold frs at hb
   rw [List.filterMap_cons,hf] at hb
   exact hb
def Inv.stkFree (I:Inv X pins σ H s):∀ b∈frs X.stack,H b=none:=fun b hb=>by
 rcases List.mem_cons.mp (I.stkSub b hb) with e | hb
 · rw [e];exact I.free
 · obtain ⟨_,o,ho,_⟩:=I.ok.funs.mem hb
   exact I.base.free b o ho (I.ok.frf b hb) fun z=>I.ok.exfs b z hb
def Inv.step {g':Array GenState} {t':Nat} {d':Drawn} {ch:List Addr} (I:Inv X pins σ H s)
  (hch:∀ b∈ch,(b∈X.ex∨X.s₀.heap.objs.size<=b)/\b≠X.env.locals/\(∀ x c,X.env.cells.lookup x=some c->c≠b)/\∀ p∈X.pn++pins,p.1≠b)
  (keep:∀ b o,b≠X.env.locals->b∉X.fs->b∉ch->s.heap.get? b=some o->H b=none->h'.get? b=some o)
  (slot:∀ b o,b≠X.env.locals->b∈X.fs->b∉ch->s.heap.get? b=some o->H b=none->∃ sl,h'.get? b=some {o with slots:=sl}) (free:∀ b o,b∉ch->s.heap.get? b=some o->H b=none->H' b=none)
  (there:∀ b o,b∉ch->s.heap.get? b=some o->∃ o',h'.get? b=some o')
  (tups:∀ b xs,H b=some (.tup xs)->H' b=some (.tup xs)) (frzs:∀ b o u,H b=some (.frz o u)->H' b=some (.frz o u)) (tbls:∀ b ps,H b=some (.tbl ps)->∃ more,H' b=some (.tbl (ps++more)))
  (ns:∀ m,s.heap.Ns X.env.locals m->h'.Ns X.env.locals m) (hok:HOk X.prog X.w H' h') (hg:AllBare g') :
  Inv X pins σ H' {s with heap:=h',gens:=g',drawn:=d',toks:=t'}:=by
 have neL:∀ b o,X.s₀.heap.get? b=some o->b≠X.env.locals:=fun b o e=>Nat.ne_of_lt (Nat.lt_of_lt_of_le (Heap.lt_size e) I.ok.above)
 have neC:∀ b o,X.s₀.heap.get? b=some o->b∉X.ex->b∉ch:=fun b o e hx hb=>by
  rcases (hch b hb).1 with z | z
  · exact hx z
  · exact absurd (Nat.lt_of_lt_of_le (Heap.lt_size e) z) (Nat.lt_irrefl _)
 have cellK:∀ x c,X.env.cells.lookup x=some c->∀ v,s.heap.IsCell c v->h'.IsCell c v:=fun x c e v ⟨o,ho,hd⟩=>by
  have nch:c∉ch:=fun z=>(hch c z).2.2.1 x c e rfl
  by_cases hc:c∈X.fs
  · obtain ⟨sl,q⟩:=slot c o (I.cne x c e) hc nch ho (I.freeC x c e)
    exact ⟨_,q,hd⟩
  · exact ⟨o,keep c o (I.cne x c e) hc nch ho (I.freeC x c e),hd⟩
 refine ⟨I.ok,I.os,hg,⟨fun b o e n hb hx=>?_,fun b o e n hb hx=>?_,fun b o e n hx=>?_,fun b o e hx=>?_,fun b xs e=>tups b xs (I.base.tups b xs e),fun b o xs e=>frzs b o xs (I.base.frzs b o xs e),fun b ps e=>?_⟩,?_,fun x c e=>?_,?_,fun x c e=>?_,fun p hp=>?_,hok,I.len⟩
 · exact keep b o (neL b o e) hb (neC b o e hx) (I.base.keep b o e n hb hx) (I.base.free b o e n hx)
 · obtain ⟨sl,e1⟩:=I.base.slot b o e n hb hx
   obtain ⟨sl',e2⟩:=slot b _ (neL b o e) hb (neC b o e hx) e1 (I.base.free b o e n hx)
   exact ⟨sl',e2⟩
 · obtain ⟨o',e1⟩:=I.base.there b o e hx
   exact free b o' (neC b o e hx) e1 (I.base.free b o e n hx)
 · obtain ⟨o',e1⟩:=I.base.there b o e hx
   exact there b o' (neC b o e hx) e1
 · obtain ⟨m1,e1⟩:=I.base.tbls b ps e
   obtain ⟨m2,e2⟩:=tbls b _ e1
   exact ⟨m1++m2,by rw [e2,Array.append_assoc]⟩
 · obtain ⟨m,hn,hl⟩:=I.loc
   refine ⟨m,ns m hn,fun i x v e1 e2 e3=>?_⟩
   obtain ⟨u,r,l⟩:=hl i x v e1 e2 e3
   refine ⟨u,r,?_⟩
   rcases l with l | ⟨k,c,e,z⟩
   · exact .inl l
   · exact .inr ⟨k,c,e,cellK x c e _ z⟩
 · obtain ⟨v,z⟩:=I.cell x c e
   exact ⟨v,cellK x c e v z⟩
 · obtain ⟨m,⟨o,_,_,ho,_⟩,_⟩:=I.loc
   exact free _ o (fun z=>(hch _ z).2.1 rfl) ho I.free
 · obtain ⟨v,o,ho,hd⟩:=I.cell x c e
   exact free c o (fun z=>(hch c z).2.2.1 x c e rfl) ho (I.freeC x c e)
 · obtain ⟨e,n,ne,nf,d⟩:=I.pin p hp
   have nch:p.1∉ch:=fun z=>(hch p.1 z).2.2.2 p hp rfl
   exact ⟨keep p.1 p.2 ne nf nch e n,free p.1 p.2 nch e n,ne,nf,d⟩
def Inv.un {t':Nat} (I:Inv X pins σ H s) (u:Un X.fs [] H H' s.heap h') (hok:HOk X.prog X.w H' h'):Inv X pins σ H' {s with heap:=h',toks:=t'}:=by
 obtain ⟨m,⟨o,es,ep,ho,r⟩,_⟩:=id I.loc
 obtain ⟨sl,hL⟩:=u.any ho I.free (by simp)
 exact I.step (g':=s.gens) (d':=s.drawn) (ch:=[]) (fun _ z=>nomatch z) (fun b o _ hb _ e n=>u.keep b o e n hb (by simp)) (fun b o _ hb _ e n=>u.slot b o e n hb (by simp)) (fun b o _ e n=>u.free b o e n (by simp)) (fun b o _ e=>u.there b o e (by simp)) u.tups u.frzs u.tbls (fun m' hm=>by
  obtain ⟨o',es',ep',ho',r'⟩:=hm
  rw [ho] at ho';cases ho'
  exact ⟨_,es',ep',hL,r'⟩) hok I.bare
def Inv.call {g':Array GenState} {t':Nat} {d':Drawn} {ch:List Addr} (I:Inv X pins σ H s) (u:Un (frs X.stack) ch H H' s.heap h') (hok:HOk X.prog X.w H' h') (hg:AllBare g')
  (hch:∀ b∈ch,(b∈X.ex∨X.s₀.heap.objs.size<=b)/\b≠X.env.locals/\(∀ x c,X.env.cells.lookup x=some c->c≠b)/\∀ p∈X.pn++pins,p.1≠b) :
  Inv X pins σ H' {s with heap:=h',gens:=g',drawn:=d',toks:=t'}:=by
 obtain ⟨m,⟨o,es,ep,ho,r⟩,_⟩:=id I.loc
 obtain ⟨sl,hL⟩:=u.any ho I.free fun z=>(hch _ z).2.1 rfl
 exact I.step (ch:=ch) hch (fun b o hL hb hc e n=>u.keep b o e n (fun z=>(List.mem_cons.mp (I.stkSub b z)).elim hL hb) hc) (fun b o _ _ hc e n=>u.any e n hc) (fun b o hc e n=>u.free b o e n hc) (fun b o hc e=>u.there b o e hc) u.tups u.frzs u.tbls (fun m' hm=>by
  obtain ⟨o',es',ep',ho',r'⟩:=hm
  rw [ho] at ho';cases ho'
  exact ⟨_,es',ep',hL,r'⟩) hok hg
def Inv.turned {t':Nat} {it:Addr} (I:Inv X pins σ H s) (k:∀ b o,b≠it->s.heap.get? b=some o->h'.get? b=some o) (hn:H it=none) (hL:it≠X.env.locals)
  (h1:it∈X.ex∨X.s₀.heap.objs.size<=it) (h2:∀ x c,X.env.cells.lookup x=some c->c≠it) (h3:∀ p∈X.pn++pins,p.1≠it):Inv X pins σ H {s with heap:=h',toks:=t'}:=by
 have nit:∀ b u,H b=some u->b≠it:=fun b u e z=>by rw [z,hn] at e;cases e
 refine I.step (g':=s.gens) (d':=s.drawn) (ch:=[it]) (fun b hb=>?_) (fun b o _ _ hc e _=>k b o (fun z=>hc (by simp [z])) e) (fun b o _ _ hc e _=>⟨o.slots,k b o (fun z=>hc (by simp [z])) e⟩) (fun _ _ _ _ n=>n)
  (fun b o hc e=>⟨o,k b o (fun z=>hc (by simp [z])) e⟩) (fun _ _ e=>e) (fun _ _ _ e=>e) (fun b ps e=>⟨#[],by rw [e];simp⟩) (fun m hm=>?_) (fun b u e=>?_) I.bare
 · have e:b=it:=by simpa using hb
   subst e
   exact ⟨h1,hL,h2,h3⟩
 · obtain ⟨o,es,ep,ho,r⟩:=hm
   exact ⟨o,es,ep,k _ o (Ne.symm hL) ho,r⟩
 · refine (I.hok b u e).stay (fun c v hc q=>k c v ?_ q) (fun _ q=>q) fun _ _ q=>q
   rcases hc with z | z
   · rw [z];exact nit b u e
   · exact nit c _ z
def Inv.tok (I:Inv X pins σ H s) (t:Nat):Inv X pins σ H {s with toks:=t}:=I.un (h':=s.heap) (t':=t) Un.refl I.hok
def Inv.kept {t':Nat} (I:Inv X pins σ H s) (k:∀ b u,s.heap.get? b=some u->h'.get? b=some u):Inv X pins σ H {s with heap:=h',toks:=t'}:=I.un (Un.kept k) (I.hok.kept k)
def Inv.laid {a:Addr} {o:HO} {t':Nat} (I:Inv X pins σ H s) (k:∀ b u,s.heap.get? b=some u->h'.get? b=some u) (hp:s.heap.objs.size<=a) (new:ObjOk X.prog X.w (upd H a o) h' a o) :
  Inv X pins σ (upd H a o) {s with heap:=h',toks:=t'}:=I.un (Un.laid k hp (I.hok.fresh hp)) (I.hok.laid k hp new)
def Inv.write {x e:Addr} {o:HO} {t':Nat} (I:Inv X pins σ H s) (mu:Mut (H x)) (he:e=x∨H e=some (.own x)) (k:∀ b u,b≠e->s.heap.get? b=some u->h'.get? b=some u) (heo:∃ u,h'.get? e=some u)
  (new:ObjOk X.prog X.w (upd H x o) h' x o):Inv X pins σ (upd H x o) {s with heap:=h',toks:=t'}:=I.un (Un.write mu he k heo) (I.hok.write mu he k heo new)
def Inv.weak {σ':List (Option V)} (I:Inv X pins σ H s) (hl:σ'.length=σ.length) (w:∀ (i:Nat) v,σ'[i]?=some (some v)->σ[i]?=some (some v)):Inv X pins σ' H s:=
 ⟨I.ok,I.os,I.bare,I.base,let ⟨m,hn,hl'⟩:=I.loc;⟨m,hn,fun i x v e1 e2 e3=>hl' i x v e1 (w i v e2) e3⟩,I.cell,I.free,I.freeC,I.pin,I.hok,hl.trans I.len⟩
def Inv.pins_of {pins':List (Addr×Obj)} (I:Inv X pins σ H s) (h:∀ p∈pins',s.heap.get? p.1=some p.2/\H p.1=none/\p.1≠X.env.locals/\p.1∉X.fs/\∀ v,p.2.data≠.cell v):Inv X pins' σ H s:=
 ⟨I.ok,I.os,I.bare,I.base,I.loc,I.cell,I.free,I.freeC,fun p hp=>(List.mem_append.mp hp).elim (fun z=>I.pin p (List.mem_append_left _ z)) (h p),I.hok,I.len⟩
def lI {N:List Str} (hN:N.Nodup) {i j:Nat} {x:Str} (a:N[i]?=some x) (b:N[j]?=some x):i=j:=by
 obtain ⟨h1,e1⟩:=gX a
 obtain ⟨h2,e2⟩:=gX b
 exact (List.getElem_inj hN).mp (e1.trans e2.symm)
def ju {M:Model} {A:Around} {E:Value->Shared->Prop} {i:Nat} {x:Str} {v:V} {u:Value} {Q:Unit->Shared->Prop} (I:Inv X pins σ H s) (hN:X.N.Nodup) (hi:X.N[i]?=some x) (hx:Loc X.env.scope x) (r:RelV v u)
  (h:∀ s',Inv X pins (σ.set i (some v)) H s'->(∃ a,Heap.SameBut a s.heap s'.heap/\(a=X.env.locals∨X.env.cells.lookup x=some a))->Q () s') (hf:X.fn x=true∨X.env.scope.names.lookup x=some .local:=by first | exact .inl rfl | exact .inr rfl | assumption):wpAny M A (storeName X.env x u) Q E s:=by
 obtain ⟨m,hn,hl⟩:=id I.loc
 have hcls:(X.env.scope.kind==.class||(X.env.scope.kind==.module&&X.env.locals != X.env.globals))=false:=by rw [I.ok.kind];rfl
 have hiσ:i<σ.length:=by rw [I.len];exact (gX hi).1
 have cne:=I.cne
 have tracked:∀ {a:Addr} {h':Heap},(∃ o,s.heap.get? a=some o/\H a=none)->Heap.SameBut a s.heap h'->HOk X.prog X.w H h':=fun {a h'} ha hs b ob e=>by
  obtain ⟨_,_,hfree⟩:=ha
  refine (I.hok b ob e).stay (fun c w' hc q=>(hs.2 c ?_).trans q) (fun _ q=>q) fun _ _ q=>q
  rintro rfl
  rcases hc with rfl | hc
  · rw [hfree] at e;cases e
  · rw [hfree] at hc;cases hc
 rcases hx with hk | hk
 · refine wpAny_storeName_local hk hn (fun h' hn' hs=>?_) hcls
   obtain ⟨oL,_,_,hoL,_⟩:=id hn
   refine h _ ⟨I.ok,I.os,I.bare,⟨fun b o e n hb hx=>?_,fun b o e n hb hx=>?_,I.base.free,fun b o e hx=>?_,I.base.tups,I.base.frzs,I.base.tbls⟩,⟨_,hn',fun j y v' e1 e2 e3=>?_⟩,fun y c e=>?_,I.free,I.freeC,fun p hp=>?_,tracked ⟨oL,hoL,I.free⟩ hs,by simpa using I.len⟩ ⟨_,hs,.inl rfl⟩
   · exact (hs.2 b (Nat.ne_of_lt (Nat.lt_of_lt_of_le (Heap.lt_size e) I.ok.above))).trans (I.base.keep b o e n hb hx)
   · obtain ⟨sl,e1⟩:=I.base.slot b o e n hb hx
     exact ⟨sl,(hs.2 b (Nat.ne_of_lt (Nat.lt_of_lt_of_le (Heap.lt_size e) I.ok.above))).trans e1⟩
   · obtain ⟨o',e1⟩:=I.base.there b o e hx
     exact ⟨o',(hs.2 b (Nat.ne_of_lt (Nat.lt_of_lt_of_le (Heap.lt_size e) I.ok.above))).trans e1⟩
   · by_cases hj:j=i
     · subst hj
       rw [hi] at e1;cases e1
       rw [List.getElem?_set_self hiσ] at e2
       cases e2
       exact ⟨u,r,.inl ⟨hk,by simp⟩⟩
     · rw [gN (Ne.symm hj)] at e2
       obtain ⟨u',r',q⟩:=hl j y v' e1 e2 e3
       refine ⟨u',r',?_⟩
       rcases q with ⟨k,e⟩ | ⟨k,c,e,z⟩
       · refine .inl ⟨k,?_⟩
         have:y≠x:=fun e=>hj (lI hN e1 (e▸hi))
         simp [this,e]
       · exact .inr ⟨k,c,e,z.sameBut hs (cne y c e)⟩
   · obtain ⟨w',z⟩:=I.cell y c e
     exact ⟨w',z.sameBut hs (cne y c e)⟩
   · obtain ⟨e,n,ne,nf,d⟩:=I.pin p hp
     exact ⟨(hs.2 p.1 ne).trans e,n,ne,nf,d⟩
 · have hfn:X.fn x=true:=by
    rcases hf with z | z
    · exact z
    · rw [z] at hk;cases hk
   obtain ⟨c,hc⟩:=I.ok.has x (.inl hk)
   obtain ⟨w',z⟩:=I.cell x c hc
   refine wpAny_storeName_cell I.ok.kind hk hc z (fun h' hc' hs=>?_)
   obtain ⟨oc,hoc,hocd⟩:=id z
   refine h {s with heap:=h'} ⟨I.ok,I.os,I.bare,⟨fun b o e n hb hx=>?_,fun b o e n hb hx=>?_,I.base.free,fun b o e hx=>?_,I.base.tups,I.base.frzs,I.base.tbls⟩,⟨m,hn.sameBut hs (Ne.symm (cne x c hc)),fun j y v' e1 e2 e3=>?_⟩,fun y c' e=>?_,I.free,I.freeC,fun p hp=>?_,tracked ⟨oc,hoc,I.freeC x c hc⟩ hs,by simpa using I.len⟩ ⟨c,hs,.inr hc⟩
   · exact (hs.2 b (Nat.ne_of_lt (Nat.lt_of_lt_of_le (Heap.lt_size e) (I.ok.cab x c hfn hc)))).trans (I.base.keep b o e n hb hx)
   · obtain ⟨sl,e1⟩:=I.base.slot b o e n hb hx
     exact ⟨sl,(hs.2 b (Nat.ne_of_lt (Nat.lt_of_lt_of_le (Heap.lt_size e) (I.ok.cab x c hfn hc)))).trans e1⟩
   · obtain ⟨o',e1⟩:=I.base.there b o e hx
     exact ⟨o',(hs.2 b (Nat.ne_of_lt (Nat.lt_of_lt_of_le (Heap.lt_size e) (I.ok.cab x c hfn hc)))).trans e1⟩
   · by_cases hj:j=i
     · subst hj
       rw [hi] at e1;cases e1
       rw [List.getElem?_set_self hiσ] at e2
       cases e2
       exact ⟨u,r,.inr ⟨.inl hk,c,hc,hc'⟩⟩
     · rw [gN (Ne.symm hj)] at e2
       obtain ⟨u',r',q⟩:=hl j y v' e1 e2 e3
       refine ⟨u',r',?_⟩
       rcases q with q | ⟨k,c',e,z'⟩
       · exact .inl q
       · refine .inr ⟨k,c',e,z'.sameBut hs ?_⟩
         rintro rfl
         exact hj (lI hN e1 (I.ok.inj _ _ _ e hc▸hi))
   · by_cases hcc:c'=c
     · subst hcc;exact ⟨_,hc'⟩
     · obtain ⟨w2,z2⟩:=I.cell y c' e
       exact ⟨w2,z2.sameBut hs hcc⟩
   · obtain ⟨e,n,ne,nf,d⟩:=I.pin p hp
     refine ⟨(hs.2 p.1 ?_).trans e,n,ne,nf,d⟩
     intro q
     rw [q,hoc] at e
     have q':oc=p.2:=Option.some.inj e
     exact d w' (by rw [<- q'];exact hocd)
def lJ {M:Model} {A:Around} {E:Value->Shared->Prop} {i:Nat} {x:Str} {v:V} {u:Value} {Q:Unit->Shared->Prop} (I:Inv X pins σ H s) (hN:X.N.Nodup) (hi:X.N[i]?=some x) (hx:Loc X.env.scope x) (r:RelV v u)
  (h:∀ s',Inv X pins (σ.set i (some v)) H s'->Q () s') (hf:X.fn x=true∨X.env.scope.names.lookup x=some .local:=by first | exact .inl rfl | exact .inr rfl | assumption):wpAny M A (storeName X.env x u) Q E s:=
 ju I hN hi hx r (fun s' I' _=>h s' I') hf
def Inv.call' {s':Shared} {ch:List Addr} (I:Inv X pins σ H s) (ho:s'.os=s.os) (u:Un (frs X.stack) ch H H' s.heap s'.heap) (hok:HOk X.prog X.w H' s'.heap) (hg:AllBare s'.gens)
  (hch:∀ b∈ch,(b∈X.ex∨X.s₀.heap.objs.size<=b)/\b≠X.env.locals/\(∀ x c,X.env.cells.lookup x=some c->c≠b)/\∀ p∈X.pn++pins,p.1≠b):Inv X pins σ H' s':=by
 obtain ⟨h',g',d',t',o'⟩:=s'
 have e:o'=s.os:=ho
 subst e
 exact I.call (g':=g') (t':=t') (d':=d') u hok hg hch
end
abbrev XK:=Value->Option Addr->Hp->Prop
abbrev St:=List (Option V)
abbrev VK:=V->Hp->Prop
abbrev TE:=St->Hp->VK->Prop
abbrev TT:=St->Hp->(Bool->Hp->Prop)->Prop
abbrev TA:=St->Hp->(List V->Hp->Prop)->Prop
structure Ends where
 nx:St->Hp->Prop
 rt:VK
 bk:St->Hp->Prop:=fun _ _=>False
 ct:St->Hp->Prop:=fun _ _=>False
abbrev TS:=Ends->St->Hp->Prop
def EP (X:Cx) (pins:List (Addr×Obj)) (σ:St) (Q:VK) (u:Value) (s':Shared):Prop:=∃ v H',Inv X pins σ H' s'/\RelV v u/\Q v H'
def TP (X:Cx) (pins:List (Addr×Obj)) (σ:St) (Q:Bool->Hp->Prop) (b:Bool) (s':Shared):Prop:=∃ H',Inv X pins σ H' s'/\Q b H'
def AP (X:Cx) (pins:List (Addr×Obj)) (σ:St) (Q:List V->Hp->Prop) (us:List Value) (s':Shared):Prop:=∃ vs H',Inv X pins σ H' s'/\Vals vs us/\Q vs H'
noncomputable def SP (X:Cx) (pins:List (Addr×Obj)) (D:Ends) (f:Flow) (s':Shared):Prop:=
 match f with
 | .next=>∃ σ' H',Inv X pins σ' H' s'/\D.nx σ' H'
 | .brk=>∃ σ' H',Inv X pins σ' H' s'/\D.bk σ' H'
 | .cont=>∃ σ' H',Inv X pins σ' H' s'/\D.ct σ' H'
 | .ret u=>∃ v σ' H',Inv X pins σ' H' s'/\RelV v u/\D.rt v H'
def PE (X:Cx) (e:Expr) (t:TE):Prop:=
 ∀ (pins:List (Addr×Obj)) (s:Shared) (σ:St) (H:Hp) (Q:VK),Inv X pins σ H s->t σ H Q->wpAny (model X.prog X.w) X.A (eval e X.env) (EP X pins σ Q) X.xe s
noncomputable def PT (X:Cx) (e:Expr) (t:TT):Prop:=
 ∀ (pins:List (Addr×Obj)) (s:Shared) (σ:St) (H:Hp) (Q:Bool->Hp->Prop),Inv X pins σ H s->t σ H Q->wpAny (model X.prog X.w) X.A (isTrue e X.env (eval e X.env)) (TP X pins σ Q) X.xe s
noncomputable def PW (X:Cx) (e:Expr) (t:TT):Prop:=
 ∀ (whole:Sem Value) (pins:List (Addr×Obj)) (s:Shared) (σ:St) (H:Hp) (Q:Bool->Hp->Prop),Inv X pins σ H s->t σ H Q->wpAny (model X.prog X.w) X.A (isTrue e X.env whole) (TP X pins σ Q) X.xe s
def PW.pt {X:Cx} {e:Expr} {t:TT} (h:PW X e t):PT X e t:=h _
noncomputable def PA (X:Cx) (es:List Expr) (t:TA):Prop:=
 ∀ (pos:Pos) (pins:List (Addr×Obj)) (s:Shared) (σ:St) (H:Hp) (Q:List V->Hp->Prop),Inv X pins σ H s->t σ H Q->wpAny (model X.prog X.w) X.A (spliced (backTo pos (starEach es X.env))) (AP X pins σ Q) X.xe s
def PS (X:Cx) (st:Stmt) (t:TS):Prop:=
 ∀ (pins:List (Addr×Obj)) (s:Shared) (σ:St) (H:Hp) (D:Ends),Inv X pins σ H s->t D σ H->wpAny (model X.prog X.w) X.A (exec st X.env) (SP X pins D) X.xe s
def PSs (X:Cx) (st:List Stmt) (t:TS):Prop:=
 ∀ (pins:List (Addr×Obj)) (s:Shared) (σ:St) (H:Hp) (D:Ends),Inv X pins σ H s->t D σ H->wpAny (model X.prog X.w) X.A (execs st X.env) (SP X pins D) X.xe s
def thn {α:Type} {t:Sem α} {Q Q':α->Shared->Prop} {M:Model} {A:Around} {E:Value->Shared->Prop} {s:Shared} (h:wpAny M A t Q E s) (hQ:∀ a s,Q a s->Q' a s):wpAny M A t Q' E s:=wpAny_mono h hQ fun _ _ x=>x
section
variable {X:Cx}
def bin {a b:Expr} {ta tb:TE} (ha:PE X a ta) (hb:PE X b tb) {pins:List (Addr×Obj)} {s:Shared} {σ:St} {H:Hp} {R:V->V->Hp->Prop} (I:Inv X pins σ H s) (h:ta σ H fun x H1=>tb σ H1 fun y H2=>R x y H2)
  {α:Type} {Q:α->Shared->Prop} {f:Value->Value->Sem α}
  (hf:∀ v u s2 x y H2,Inv X pins σ H2 s2->RelV x v->RelV y u->R x y H2->wpAny (model X.prog X.w) X.A (f v u) Q X.xe s2) :
  wpAny (model X.prog X.w) X.A (eval a X.env) (fun v s₁=>wpAny (model X.prog X.w) X.A (eval b X.env) (fun u s₂=>wpAny (model X.prog X.w) X.A (f v u) Q X.xe s₂) X.xe s₁) X.xe s:=by
 refine thn (ha pins s σ H _ I h) fun v s1 ⟨x,H1,I1,r1,q1⟩=>?_
 refine thn (hb pins s1 σ H1 _ I1 q1) fun u s2 ⟨y,H2,I2,r2,q2⟩=>?_
 exact hf v u s2 x y H2 I2 r1 r2 q2
def jm (i:Nat):TE:=fun σ H Q=>∃ v,σ[i]?=some (some v)/\Q v H
def tC (v:V):TE:=fun _ H Q=>Q v H
def w4 {i:Nat} {x:Str} {pos:Pos} (hN:X.N[i]?=some x) (hv:Vis X.env.scope x) (hd:(x==("__debug__":Str))=false:=by decide) (hcd:(x==("__classdict__":Str))=false:=by decide):PE X (.Name x pos) (jm i):=by
 intro pins s σ H Q I h
 obtain ⟨v,e,h⟩:=h
 obtain ⟨m,hn,hl⟩:=I.loc
 obtain ⟨u,r,l⟩:=hl i x v hN e hv
 have fin:EP X pins σ Q u s:=⟨v,H,I,r,h⟩
 rcases l with ⟨hk,hm⟩ | ⟨hk,c,hc,hcell⟩
 · exact wpAny_Name (wpAny_loadName_local I.ok.kind hk hn hm fin) hd
 · rcases hk with hk | hk
   · exact wpAny_Name (wpAny_loadName_cell I.ok.kind hk hc hcell fin) hd
   · exact wpAny_Name (wpAny_loadName_free I.ok.kind hk hc hcell fin hcd) hd
def w6 {i j pos}:PE X (.Constant (.int i) j pos) (tC (.int i)):=fun _ _ _ H _ I h=>wpAny_Constant_int ⟨.int i,H,I.tok _,⟨_,rfl⟩,h⟩
def zr {b j pos}:PE X (.Constant (.bool b) j pos) (tC (.bl b)):=fun _ _ _ H _ I h=>Constant_bool ⟨.bl b,H,I,rfl,h⟩
def w8 {j pos}:PE X (.Constant .none j pos) (tC .non):=fun _ _ _ H _ I h=>Constant_none ⟨.non,H,I,rfl,h⟩
def w9 {x j pos}:PE X (.Constant (.str x) j pos) (tC (.str x)):=fun _ _ _ H _ I h=>Calls.Constant_str ⟨.str x,H,I.tok _,⟨_,rfl⟩,h⟩
def Gl (X:Cx) (x:Str):Prop:=X.env.kindOf x=some .globalImplicit
def oB {E:Value->Shared->Prop} {pins:List (Addr×Obj)} {s:Shared} {σ:St} {H:Hp} {x:Str} {u:Value} {pos:Pos} {Q:Value->Shared->Prop} (I:Inv X pins σ H s) (hg:Gl X x) (hm:X.mg x=some u) (h:Q u s)
  (hd:(x==("__debug__":Str))=false:=by decide):wpAny (model X.prog X.w) X.A (eval (.Name x pos) X.env) Q E s:=
 Calls.Name_function_global I.ok.kind hg (Calls.loadGlobal_global (by rw [I.ok.glob];exact I.mod.glob.keeps I.bk) hm h) hd
def gx {E:Value->Shared->Prop} {pins:List (Addr×Obj)} {s:Shared} {σ:St} {H:Hp} {x:Str} {u:Value} {pos:Pos} {Q:Value->Shared->Prop} (I:Inv X pins σ H s) (hg:Gl X x) (hm:X.mg x=none) (hv:bootBuiltins x=some u) (h:Q u s)
  (hn:x≠"__name__":=by decide) (hd:(x==("__debug__":Str))=false:=by decide):wpAny (model X.prog X.w) X.A (eval (.Name x pos) X.env) Q E s:=by
 obtain ⟨mb,h1,h2⟩:=I.mod.blt
 exact Calls.Name_function_global I.ok.kind hg (Calls.loadGlobal_builtin (by rw [I.ok.glob];exact I.mod.glob.keeps I.bk) hm (by rw [I.ok.blt];exact h1.keeps I.bk) ((h2 x hn).trans hv) h) hd
def t6 {x:Str} {v:V} {u:Value} {pos:Pos} (hg:Gl X x) (hm:X.mg x=some u) (r:RelV v u) (hd:(x==("__debug__":Str))=false:=by decide):PE X (.Name x pos) (tC v):=
 fun _ _ _ H _ I h=>oB I hg hm ⟨v,H,I,r,h⟩ hd
def t7 {x:Str} {v:V} {u:Value} {pos:Pos} (hg:Gl X x) (hm:X.mg x=none) (hv:bootBuiltins x=some u) (r:RelV v u) (hn:x≠"__name__":=by decide) (hd:(x==("__debug__":Str))=false:=by decide):PE X (.Name x pos) (tC v):=
 fun _ _ _ H _ I h=>gx I hg hm hv ⟨v,H,I,r,h⟩ hn hd
variable {a b:Expr} {ta tb:TE} {pos:Pos}
noncomputable def PC (X:Cx) (op:CmpOp) (a b:Expr) (t:TE):Prop:=
 ∀ (pins:List (Addr×Obj)) (s:Shared) (σ:St) (H:Hp) (Q:VK),Inv X pins σ H s->t σ H Q→
  wpAny (model X.prog X.w) X.A (eval a X.env) (fun v s₁=>wpAny (model X.prog X.w) X.A (eval b X.env) (fun u s₂=>wpAny (model X.prog X.w) X.A (compareOp op v u) (EP X pins σ Q) X.xe s₂) X.xe s₁) X.xe s
def tB (t:TE):TT:=fun σ H Q=>t σ H fun x H1=>∃ c,x=.bl c/\Q c H1
def nn {op:CmpOp} {t:TE} (h:PC X op a b t) (h1:behindInMarks op b=false:=by first | exact nobehind _ (by decide) (by decide) | rfl):PT X (.Compare a [op] [b] pos) (tB t):=by
 intro pins s σ H Q I hw
 refine wpAny_isTrue_Compare1 (thn (h pins s σ H _ I hw) fun v s1 h1=>thn h1 fun u s2 h2=>thn h2 fun c s3 ⟨x,H1,I1,r1,q1⟩=>?_) h1
 obtain ⟨d,rfl,q⟩:=q1
 cases r1
 exact wpAny_truthy_bool ⟨H1,I1,q⟩
variable {tA tB':TT} {rest:List Expr}
def tAnd (t u:TT):TT:=fun σ H Q=>t σ H fun c H1=>if c=true then u σ H1 Q else Q false H1
def tOr (t u:TT):TT:=fun σ H Q=>t σ H fun c H1=>if c=true then Q true H1 else u σ H1 Q
def tNot (t:TT):TT:=fun σ H Q=>t σ H fun c H1=>Q (!c) H1
def t8 (ha:PT X a tA):PW X (.BoolOp .And [a] pos) tA:=by
 intro wh pins s σ H Q I h
 refine isTrue_and (thn (ha pins s σ H Q I h) fun c s1 e=>?_)
 cases c with
 | true=>exact isTrue_and_nil e
 | false=>exact e
def xa (ha:PT X a tA):PW X (.BoolOp .Or [a] pos) tA:=by
 intro wh pins s σ H Q I h
 refine isTrue_or (thn (ha pins s σ H Q I h) fun c s1 e=>?_)
 cases c with
 | false=>exact isTrue_or_nil e
 | true=>exact e
def xb (ha:PT X a tA) (hb:PW X (.BoolOp .And (b::rest) pos) tB'):PW X (.BoolOp .And (a::b::rest) pos) (tAnd tA tB'):=by
 intro wh pins s σ H Q I h
 refine isTrue_and (thn (ha pins s σ H _ I h) fun c s1 ⟨H1,I1,q1⟩=>?_)
 cases c with
 | true=>exact hb wh pins s1 σ H1 Q I1 q1
 | false=>exact ⟨H1,I1,q1⟩
def zt (ha:PT X a tA) (hb:PW X (.BoolOp .Or (b::rest) pos) tB'):PW X (.BoolOp .Or (a::b::rest) pos) (tOr tA tB'):=by
 intro wh pins s σ H Q I h
 refine isTrue_or (thn (ha pins s σ H _ I h) fun c s1 ⟨H1,I1,q1⟩=>?_)
 cases c with
 | true=>exact ⟨H1,I1,q1⟩
 | false=>exact hb wh pins s1 σ H1 Q I1 q1
def xc (ha:PT X a tA):PT X (.UnaryOp .Not a pos) (tNot tA):=by
 intro pins s σ H Q I h
 exact isTrue_not (ha pins s σ H (fun c H1=>Q (!c) H1) I h)
def zu (ta tb:TE):TE:=fun σ H Q=>ta σ H fun x H1=>∃ c,x=.bl c/\if c=true then tb σ H1 Q else Q (.bl false) H1
def qO {op} {t:TE} (h:PE X a t):PE X (.BoolOp op [a] pos) t:=fun pins s σ H Q I hw=>BoolOp_one (h pins s σ H Q I hw)
def qP (ha:PE X a ta) (hb:PE X (.BoolOp .And (b::rest) pos) tb):PE X (.BoolOp .And (a::b::rest) pos) (zu ta tb):=by
 intro pins s σ H Q I h
 refine BoolOp_and (thn (ha pins s σ H _ I h) fun v s1 ⟨x,H1,I1,r1,q1⟩=>?_)
 obtain ⟨c,rfl,q1⟩:=q1
 cases r1
 refine wpAny_truthy_bool ?_
 cases c with
 | true=>exact hb pins s1 σ H1 Q I1 q1
 | false=>exact ⟨.bl false,H1,I1,rfl,q1⟩
def tIf (t:TT) (ta tb:TE):TE:=fun σ H Q=>t σ H fun c H1=>if c=true then ta σ H1 Q else tb σ H1 Q
def qQ {c:Expr} (hc:PT X c tA) (ha:PE X a ta) (hb:PE X b tb):PE X (.IfExp c a b pos) (tIf tA ta tb):=by
 intro pins s σ H Q I h
 refine wpAny_IfExp (thn (hc pins s σ H _ I h) fun d s1 ⟨H1,I1,q1⟩=>?_)
 cases d with
 | true=>exact ha pins s1 σ H1 Q I1 q1
 | false=>exact hb pins s1 σ H1 Q I1 q1
end
noncomputable def SqL (K:PySem.W.Frag) (H:Hp) (a:Addr) (xs:List V):Prop:=
 Rd H a (.lst xs)∨
  ∃ (o:Obj) (its:Array Value) (n:Nat),K.lookup a=some o/\o.cls=.type "list"/\o.dict=none/\o.data=.seq its n/\its.size<=sizeLine/\Vals xs its.toList
noncomputable def SqT (K:PySem.W.Frag) (H:Hp) (a:Addr) (xs:List V):Prop:=
 Rd H a (.tup xs)∨
  ∃ (o:Obj) (its:Array Value) (n:Nat),K.lookup a=some o/\o.cls=.type "tuple"/\o.data=.seq its n/\its.size<=sizeLine/\Vals xs its.toList
noncomputable def absV:Value->Option V
 | .none=>some .non
 | .bool b=>some (.bl b)
 | .int i _=>some (.int i)
 | .str x _=>some (.str x)
 | .bytes b _=>some (.byt b)
 | .float b _=>some (.flt b)
 | .ref a=>some (.ref a)
 | .type n=>some (.ty n)
 | _=>none
def RelV.abs {x:V} {u:Value} (r:RelV x u):absV u=some x:=by
 cases x with
 | non=>cases r;rfl
 | bl _=>cases r;rfl
 | int _=>obtain ⟨t,rfl⟩:=r;rfl
 | str _=>obtain ⟨t,rfl⟩:=r;rfl
 | byt _=>obtain ⟨t,rfl⟩:=r;rfl
 | flt _=>obtain ⟨t,rfl⟩:=r;rfl
 | ref _=>cases r;rfl
 | ty _=>cases r;rfl
def RelV.inj {x y:V} {u:Value} (r:RelV x u) (q:RelV y u):x=y:=Option.some.inj (r.abs.symm.trans q.abs)
def Vals.inj:∀ {xs ys:List V} {us:List Value},Vals xs us->Vals ys us->xs=ys
 | _,_,_,.nil,.nil=>rfl
 | _,_,_,.cons r t,.cons r' t'=>by rw [r.inj r',Vals.inj t t']
section
variable {X:Cx} {pins:List (Addr×Obj)} {σ:St} {H:Hp} {s:Shared} {a:Addr} {xs ys:List V}
def SqL.of {K:PySem.W.Frag} (h:H a=some (.lst xs)):SqL K H a xs:=.inl (.inl h)
def SqT.of {K:PySem.W.Frag} (h:H a=some (.tup xs)):SqT K H a xs:=.inl (.inl h)
def Inv.list (I:Inv X pins σ H s) (h:SqL X.K H a xs):∃ its:List Value,Vals xs its/\PlainL s.heap a its.toArray/\xs.length<=sizeLine:=by
 rcases h with h | ⟨o,its,n,hk,hc,hd,hs,hz,r⟩
 · obtain ⟨z,its,n,r,e⟩:=h.ok I.hok
   exact ⟨its,r,⟨_,n,e,rfl,rfl,rfl⟩,z⟩
 · refine ⟨its.toList,r,⟨o,n,I.kIn a o hk,hc,hd,by simpa using hs⟩,?_⟩
   have e:=r.length
   simp only [Array.length_toList] at e
   omega
def Inv.tuple (I:Inv X pins σ H s) (h:SqT X.K H a xs):∃ its:List Value,Vals xs its/\IsTup s.heap a its.toArray/\xs.length<=sizeLine:=by
 rcases h with h | ⟨o,its,n,hk,hc,hs,hz,r⟩
 · obtain ⟨z,its,r,p⟩:=h.ok I.hok
   exact ⟨its,r,p,z⟩
 · refine ⟨its.toList,r,⟨o,I.kIn a o hk,hc,n,by simpa using hs⟩,?_⟩
   have e:=r.length
   simp only [Array.length_toList] at e
   omega
def Inv.list_inj (I:Inv X pins σ H s) (h:SqL X.K H a xs) (h':SqL X.K H a ys):xs=ys:=by
 obtain ⟨its,r,⟨o,n,e,_,_,d⟩,_⟩:=I.list h
 obtain ⟨its',r',⟨o',n',e',_,_,d'⟩,_⟩:=I.list h'
 rw [e] at e';cases e'
 rw [d] at d'
 injection d' with d1 _
 have:its=its':=by simpa using congrArg Array.toList d1
 subst this
 exact r.inj r'
def Inv.tuple_inj (I:Inv X pins σ H s) (h:SqT X.K H a xs) (h':SqT X.K H a ys):xs=ys:=by
 obtain ⟨its,r,⟨o,e,_,n,d⟩,_⟩:=I.tuple h
 obtain ⟨its',r',⟨o',e',_,n',d'⟩,_⟩:=I.tuple h'
 rw [e] at e';cases e'
 rw [d] at d'
 injection d' with d1 _
 have:its=its':=by simpa using congrArg Array.toList d1
 subst this
 exact r.inj r'
end
abbrev Cx.wish (X:Cx) (E:Value->Shared->Prop):Cx:={X with xe:=E}
abbrev Cx.nox (X:Cx):Cx:=X.wish fun _ _=>False
def Cx.Ok.wish {X:Cx} (ok:X.Ok) (E:Value->Shared->Prop):(X.wish E).Ok:=
 ⟨ok.mod,ok.kind,ok.glob,ok.blt,ok.above,ok.inj,ok.has,ok.cab,ok.hd,ok.frames,ok.stk,ok.exf,ok.bs,ok.bsz,ok.noex,ok.exfs,ok.funs,ok.frf⟩
def Cx.Ok.unwish {X:Cx} {E:Value->Shared->Prop} (ok:(X.wish E).Ok):X.Ok:=
 ⟨ok.mod,ok.kind,ok.glob,ok.blt,ok.above,ok.inj,ok.has,ok.cab,ok.hd,ok.frames,ok.stk,ok.exf,ok.bs,ok.bsz,ok.noex,ok.exfs,ok.funs,ok.frf⟩
section
variable {X:Cx} {pins:List (Addr×Obj)} {σ:St} {H:Hp} {s:Shared} {E:Value->Shared->Prop}
def Inv.wish (I:Inv X pins σ H s) (E:Value->Shared->Prop):Inv (X.wish E) pins σ H s:=⟨I.ok.wish E,I.os,I.bare,I.base,I.loc,I.cell,I.free,I.freeC,I.pin,I.hok,I.len⟩
def Inv.unwish (I:Inv (X.wish E) pins σ H s):Inv X pins σ H s:=⟨I.ok.unwish,I.os,I.bare,I.base,I.loc,I.cell,I.free,I.freeC,I.pin,I.hok,I.len⟩
def SP.unwish {D:Ends} {f:Flow} {s':Shared} (h:SP (X.wish E) pins D f s'):SP X pins D f s':=by
 cases f with
 | next=>obtain ⟨σ',H',I,q⟩:=h;exact ⟨σ',H',I.unwish,q⟩
 | brk=>obtain ⟨σ',H',I,q⟩:=h;exact ⟨σ',H',I.unwish,q⟩
 | cont=>obtain ⟨σ',H',I,q⟩:=h;exact ⟨σ',H',I.unwish,q⟩
 | ret u=>obtain ⟨v,σ',H',I,r,q⟩:=h;exact ⟨v,σ',H',I.unwish,r,q⟩
def PSs.nox {st:List Stmt} {t:TS} (h:PSs X.nox st t):PSs X st t:=fun pins s σ H D I hw =>
 wpAny_mono (h pins s σ H D (I.wish _) hw) (fun _ _ q=>q.unwish) fun _ _ z=>False.elim z
end
section
variable {X:Cx} {st:Stmt} {rest:List Stmt} {t u:TS} {e:Expr} {te:TE} {pos:Pos}
def zv:TS:=fun D σ H=>D.nx σ H
def tSeq (t u:TS):TS:=fun D σ H=>t {D with nx:=u D} σ H
def oC:PSs X [] zv:=fun _ _ σ H _ I h=>wpAny_execs_nil ⟨σ,H,I,h⟩
def lK (h1:PS X st t) (h2:PSs X rest u):PSs X (st::rest) (tSeq t u):=by
 intro pins s σ H D I h
 refine wpAny_execs_cons (thn (h1 pins s σ H {D with nx:=u D} I h) fun f s1 q=>?_)
 cases f with
 | next =>
  obtain ⟨σ',H',I',q⟩:=q
  exact h2 pins s1 σ' H' D I' q
 | ret v=>exact q
 | brk=>exact q
 | cont=>exact q
def oD (h1:PS X st t):PSs X [st] t:=by
 intro pins s σ H D I h
 refine wpAny_execs_cons (thn (h1 pins s σ H D I h) fun f s1 q=>?_)
 cases f with
 | next=>exact wpAny_execs_nil q
 | ret v=>exact q
 | brk=>exact q
 | cont=>exact q
def Inv.quiet {pins:List (Addr×Obj)} {σ:St} {H:Hp} {s:Shared} (I:Inv X pins σ H s):interactive X.env=false:=by simp [interactive,I.ok.kind]
def zw (te:TE):TS:=fun D σ H=>te σ H fun _ H1=>D.nx σ H1
def kn (he:PE X e te) (hs:swapsWith e none pos.line X.env=pure false:=by rfl):PS X (.Expr e pos) (zw te):=by
 intro pins s σ H D I h
 exact wpAny_Expr_any (thn (he pins s σ H _ I h) fun v s1 ⟨x,H1,I1,r1,q1⟩=>⟨σ,H1,I1,q1⟩) I.quiet hs
def tRet (te:TE):TS:=fun D σ H=>te σ H D.rt
def np (he:PE X e te):PS X (.Return (some e) pos) (tRet te):=by
 intro pins s σ H D I h
 exact wpAny_Return_some (thn (he pins s σ H _ I h) fun v s1 ⟨x,H1,I1,r1,q1⟩=>⟨x,σ,H1,I1,r1,q1⟩)
def tIfS (c:TT) (t u:TS):TS:=fun D σ H=>c σ H fun b H1=>if b=true then t D σ H1 else u D σ H1
def vU {c:Expr} {a b:List Stmt} {tc:TT} (hc:PT X c tc) (ha:PSs X a t) (hb:PSs X b u):PS X (.If c a b pos) (tIfS tc t u):=by
 intro pins s σ H D I h
 refine wpAny_If (thn (hc pins s σ H _ I h) fun d s1 ⟨H1,I1,q1⟩=>?_)
 cases d with
 | true=>exact ha pins s1 σ H1 D I1 q1
 | false=>exact hb pins s1 σ H1 D I1 q1
end
abbrev TG:=V->St->Hp->(St->Hp->Prop)->Prop
abbrev TGs:=List V->St->Hp->(St->Hp->Prop)->Prop
noncomputable def PG (X:Cx) (target:Expr) (t:TG):Prop:=
 ∀ (pins:List (Addr×Obj)) (s:Shared) (σ:St) (H:Hp) (v:V) (u:Value) (Q:St->Hp->Prop),Inv X pins σ H s->RelV v u->t v σ H Q→
  wpAny (model X.prog X.w) X.A (assign target X.env u) (fun _ s'=>∃ σ' H',Inv X pins σ' H' s'/\Q σ' H') X.xe s
noncomputable def PGs (X:Cx) (ts:List Expr) (t:TGs):Prop:=
 ∀ (pins:List (Addr×Obj)) (s:Shared) (σ:St) (H:Hp) (vs:List V) (us:List Value) (Q:St->Hp->Prop),Inv X pins σ H s->Vals vs us->t vs σ H Q→
  wpAny (model X.prog X.w) X.A (assignInOrder ((assignEach ts X.env).map (·.2)) us) (fun _ s'=>∃ σ' H',Inv X pins σ' H' s'/\Q σ' H') X.xe s
abbrev xf:=V->V->V->Hp->(Hp->Prop)->Prop
noncomputable def PSet (X:Cx) (t:xf):Prop:=
 ∀ (pins:List (Addr×Obj)) (s:Shared) (σ:St) (H:Hp) (o i v:V) (ov iv u:Value) (Q:Hp->Prop),Inv X pins σ H s->RelV o ov->RelV i iv->RelV v u->t o i v H Q→
  wpAny (model X.prog X.w) X.A (setItem ov iv u) (fun _ s'=>∃ H',Inv X pins σ H' s'/\Q H') X.xe s
section
variable {X:Cx} {pos:Pos}
def eU (i:Nat):TG:=fun v σ H Q=>Q (σ.set i (some v)) H
def oE {i:Nat} {x:Str} (hN:X.N.Nodup) (hi:X.N[i]?=some x) (hx:Loc X.env.scope x) (hf:X.fn x=true∨X.env.scope.names.lookup x=some .local:=by first | exact .inl rfl | exact .inr rfl | assumption):PG X (.Name x pos) (eU i):=by
 intro pins s σ H v u Q I r h
 exact wpAny_assign_Name (lJ I hN hi hx r (fun s' I'=>⟨_,H,I',h⟩) hf)
def gNil:TGs:=fun vs σ H Q=>vs=[]/\Q σ H
def zx (t:TG) (u:TGs):TGs:=fun vs σ H Q=>∃ v r,vs=v::r/\t v σ H fun σ' H'=>u r σ' H' Q
def t9:PGs X [] gNil:=by
 intro pins s σ H vs us Q I r h
 obtain ⟨e,h⟩:=h
 subst e
 cases r
 exact assignInOrder_nil ⟨σ,H,I,h⟩
def qR {e:Expr} {es:List Expr} {t:TG} {u:TGs} (h1:PG X e t) (h2:PGs X es u)
  (hs:(assignEach (e::es) X.env).map (·.2)=assign e X.env::(assignEach es X.env).map (·.2):=by rfl):PGs X (e::es) (zx t u):=by
 intro pins s σ H vs us Q I r h
 obtain ⟨v,vr,e1,h⟩:=h
 subst e1
 cases r with
 | cons r rr =>
  rw [hs]
  refine assignInOrder_cons (thn (h1 pins s σ H _ _ _ I r h) fun _ s1 ⟨σ1,H1,I1,q1⟩=>?_)
  exact h2 pins s1 σ1 H1 _ _ Q I1 rr q1
def gTup (K:PySem.W.Frag) (n:Nat) (t:TGs):TG:=fun v σ H Q=>∃ a xs,v=.ref a/\SqT K H a xs/\xs.length=n/\t xs σ H Q
def xg {es:List Expr} {k:Nat} {t:TGs} {n:Nat} (hc:X.calm=true) (h:PGs X es t)
  (hn:(assignEach es X.env).length=n:=by rfl) (hst:(assignEach es X.env).findIdx? (·.1)=none:=by rfl):PG X (.Tuple es k pos) (gTup X.K n t):=by
 intro pins s σ H v u Q I r hw
 obtain ⟨a,xs,e1,hq,hl,hw⟩:=hw
 subst e1
 cases r
 obtain ⟨its,rv,ht,hz⟩:=I.tuple hq
 refine assign_Tuple_tuple (I.ok.hd hc) ht (by simp [hn,<- hl,rv.length]) hst fun h' hx=>?_
 have I1:Inv X pins σ H {s with heap:=h'}:=I.kept (t':=s.toks) fun b o e=>hx b o (Nat.ne_of_lt (Heap.lt_size e)) e
 exact h pins _ σ H xs _ Q I1 (by simpa using rv) hw
def gSub (to ti:TE) (t:xf):TG:=fun v σ H Q=>to σ H fun o H1=>ti σ H1 fun i H2=>t o i v H2 fun H3=>Q σ H3
def qS {o i:Expr} {to ti:TE} {t:xf} (ho:PE X o to) (hi:PE X i ti) (hs:PSet X t)
  (ha:∀ v,assign (.Subscript o i pos) X.env v=(do
   let ov <- holding [v] (eval o X.env)
   let iv <- holding [v,ov] (eval i X.env)
   standAt pos
   holding [v,ov,iv] (setItem ov iv v)
   release [v,ov,iv] []):=by intro _;rfl):PG X (.Subscript o i pos) (gSub to ti t):=by
 intro pins s σ H v u Q I r h
 rw [ha]
 refine wB (wpAny_holding (thn (ho pins s σ H _ I h) fun ov s1 ⟨x,H1,I1,r1,q1⟩=>?_))
 refine wB (wpAny_holding (thn (hi pins s1 σ H1 _ I1 q1) fun iv s2 ⟨y,H2,I2,r2,q2⟩=>?_))
 refine wB (wpAny_standAt (wB (wpAny_holding (thn (hs pins s2 σ H2 x y v ov iv u _ I2 r1 r2 r q2) fun _ s3 ⟨H3,I3,q3⟩=>?_))))
 exact wpAny_release ⟨σ,H3,I3,q3⟩
def ua (te:TE) (g:TG):TS:=fun D σ H=>te σ H fun x H1=>g x σ H1 D.nx
def nq {tg e:Expr} {te:TE} {g:TG} (he:PE X e te) (hg:PG X tg g) (hs:swapsWithSole [tg] e pos.line X.env=pure false:=by rfl) (hw:swappedStores [tg] e X.env=pure none:=by rfl)
  (h1:(assignEach [tg] X.env).map (·.2)=[assign tg X.env]:=by rfl):PS X (.Assign [tg] e pos) (ua te g):=by
 intro pins s σ H D I h
 refine wpAny_Assign_stores (thn (he pins s σ H _ I h) fun v s1 ⟨x,H1,I1,r1,q1⟩=>?_) hs hw
 rw [h1]
 exact thn (hg pins s1 σ H1 x v _ I1 r1 q1) fun _ s2 q=>q
def xh {i:Nat} {x:Str} {e:Expr} {te:TE} {pos':Pos} (hN:X.N.Nodup) (hi:X.N[i]?=some x) (hx:Loc X.env.scope x) (he:PE X e te) (hs:swapsWith e (some (.Name x pos')) pos.line X.env=pure false:=by rfl) (hf:X.fn x=true∨X.env.scope.names.lookup x=some .local:=by first | exact .inl rfl | exact .inr rfl | assumption) :
  PS X (.Assign [.Name x pos'] e pos) (ua te (eU i)):=by
 intro pins s σ H D I h
 refine wpAny_Assign_Name (thn (he pins s σ H _ I h) fun v s1 ⟨y,H1,I1,r1,q1⟩=>?_) hs
 exact lJ I1 hN hi hx r1 (fun s2 I2=>⟨_,H1,I2,q1⟩) hf
end
section
variable {X:Cx} {pos:Pos}
noncomputable def xi (c:TT) (tb:TS):TS:=fun D σ H=>∃ W:Nat->St->Hp->Prop,(∃ m,W m σ H)/\∀ m σ H,W m σ H→
 c σ H fun b H1=>if b=true then ∃ N:St->Hp->Prop,(∀ σ' H',N σ' H'->∃ m',m'<m/\W m' σ' H')/\tb {D with nx:=N,ct:=N,bk:=D.nx} σ H1 else D.nx σ H1
def lL {c:Expr} {body:List Stmt} {tc:TT} {tb:TS} (hp:PassesOwn (model X.prog X.w) X.A X.env X.xe) (hc:PT X c tc) (hb:PSs X body tb):PS X (.While c body [] pos) (xi tc tb):=by
 intro pins s σ H D I h
 obtain ⟨W,⟨m0,w0⟩,turn⟩:=h
 refine wpAny_While (codeAny_whileLoop (fun n s'=>∃ σ' H',Inv X pins σ' H' s'/\W n σ' H') ?_ m0 ⟨σ,H,I,w0⟩)
 rintro n s1 ⟨σ1,H1,I1,w1⟩
 refine wpAny_passesOwn hp (thn (hc pins s1 σ1 H1 _ I1 (turn n σ1 H1 w1)) fun b s2 ⟨H2,I2,q2⟩=>?_)
 cases b with
 | true =>
  obtain ⟨N,hN,q2⟩:=q2
  rw [if_pos rfl]
  refine wpAny_passesOwn hp (thn (hb pins s2 σ1 H2 _ I2 q2) fun f s3 q3=>?_)
  cases f with
  | next =>
   obtain ⟨σ3,H3,I3,n3⟩:=q3
   obtain ⟨m',hm,w3⟩:=hN σ3 H3 n3
   exact ⟨m',hm,σ3,H3,I3,w3⟩
  | cont =>
   obtain ⟨σ3,H3,I3,n3⟩:=q3
   obtain ⟨m',hm,w3⟩:=hN σ3 H3 n3
   exact ⟨m',hm,σ3,H3,I3,w3⟩
  | brk=>exact q3
  | ret v=>exact q3
 | false =>
  rw [if_neg Bool.false_ne_true]
  exact wpAny_execs_nil ⟨σ1,H2,I2,q2⟩
end
structure It where
 go:Nat->Hp->Prop
 yld:Nat->Hp->V->Hp->Prop
 stop:Nat->Hp->Prop
def e9 (X:Cx) (pins:List (Addr×Obj)) (H:Hp) (b:Addr):Prop:=
 H b=none/\b≠X.env.locals/\b∉X.fs/\(b∈X.ex∨X.s₀.heap.objs.size<=b)/\(∀ x c,X.env.cells.lookup x=some c->c≠b)/\∀ p∈X.pn++pins,p.1≠b
def Inv.fpOk {X:Cx} {pins:List (Addr×Obj)} {σ:St} {H H':Hp} {s:Shared} {b:Addr} (I:Inv X pins σ H s) (hb:s.heap.objs.size<=b) (hn:H' b=none):e9 X pins H' b:=by
 refine ⟨hn,Nat.ne_of_gt (Nat.lt_of_lt_of_le I.lt hb),I.nofs hb,.inr (Nat.le_trans I.sz hb),fun x c e z=>?_,fun p hp z=>?_⟩
 · obtain ⟨v,q⟩:=I.cell x c e
   exact absurd (Nat.lt_of_lt_of_le q.lt (by rw [z];exact hb)) (Nat.lt_irrefl _)
 · exact absurd (Nat.lt_of_lt_of_le (Heap.lt_size (I.pin p hp).1) (by rw [z];exact hb)) (Nat.lt_irrefl _)
structure Turn (P:Program) (w:World) (K:PySem.W.Frag) (tg:Expr) (J:It) (fp:List Addr) (it:Addr) (tn:Nat->Heap->Prop):Prop where
 mem:it∈fp
 obj:∀ i h,tn i h->∀ b∈fp,∃ o,h.get? b=some o/\∀ v,o.data≠.cell v
 keep:∀ i h h',tn i h->(∀ b∈fp,∀ o,h.get? b=some o->h'.get? b=some o)->tn i h'
 item:∀ (X:Cx),X.prog=P->X.w=w->X.K=K->X.calm=true->∀ (i:Nat) (pins:List (Addr×Obj)) (s:Shared) (σ:St) (H:Hp) (E:Value->Shared->Prop),Inv X pins σ H s->(∀ b∈fp,e9 X pins H b)->tn i s.heap->J.go i H→
  wpAny (model P w) X.A (pyNext (.ref it)) (fun r s1=>∃ u,r=some u∧
   wpAny (model P w) X.A (letOwnedTupleGo tg (.ref it) u) (fun _ s2=>∃ x H',Inv X pins σ H' s2/\RelV x u/\J.yld i H x H'/\tn (i+1) s2.heap/\∀ b∈fp,H' b=none) E s1) E s
 done:∀ (X:Cx),X.prog=P->X.w=w->X.K=K->X.calm=true->∀ (i:Nat) (pins:List (Addr×Obj)) (s:Shared) (σ:St) (H:Hp) (E:Value->Shared->Prop),Inv X pins σ H s->(∀ b∈fp,e9 X pins H b)->tn i s.heap->J.stop i H→
  wpAny (model P w) X.A (pyNext (.ref it)) (fun r s1=>r=none/\Inv X pins σ H s1) E s
 self:∀ (A:Around) (i:Nat) (s:Shared) (Q:Value->Shared->Prop) (E:Value->Shared->Prop),tn i s.heap->Q (.ref it) s->wpAny (model P w) A (pyIter (.ref it)) Q E s
abbrev TI:=St->Hp->(It->Hp->Prop)->Prop
noncomputable def PIE (X:Cx) (pins:List (Addr×Obj)) (σ:St) (tg:Expr) (R:It->Hp->Prop) (itv:Value) (s2:Shared):Prop:=
 ∃ (it:Addr) (fp:List Addr) (tn:Nat->Heap->Prop) (J:It) (H':Hp),itv=.ref it/\Inv X pins σ H' s2/\Turn X.prog X.w X.K tg J fp it tn/\tn 0 s2.heap/\(∀ b∈fp,e9 X pins H' b)/\R J H'
noncomputable def PI (X:Cx) (tg iter:Expr) (wi:TI):Prop:=
 ∀ (pins:List (Addr×Obj)) (s:Shared) (σ:St) (H:Hp) (R:It->Hp->Prop),Inv X pins σ H s->wi σ H R→
  wpAny (model X.prog X.w) X.A (eval iter X.env) (fun v s1=>wpAny (model X.prog X.w) X.A (pyIter v) (PIE X pins σ tg R) X.xe s1) X.xe s
def jv {M:Model} {A:Around} {E:Value->Shared->Prop} {s:Shared} {tg:Expr} {it:Addr} {u:Value} {o:Obj} {n:String} {vs:Array Value} {Q:Unit->Shared->Prop} (ho:s.heap.get? it=some o) (hc:o.cls=.type n) (hd:o.data=.fields vs)
  (hn:["enumerate","zip","dict_itemiterator","dict_reverseitemiterator","odict_iterator","itertools.zip_longest","itertools.pairwise"].contains n=false) (hQ:Q () s):wpAny M A (letOwnedTupleGo tg (.ref it) u) Q E s:=by
 unfold letOwnedTupleGo
 cases tg<;>first
  | exact wpAny_pure hQ
  | (cases u<;>first
      | exact wpAny_pure hQ
      | (refine wB (wpAny_load ho ?_)
         rw [hc,hd]
         show wpAny M A (if (["enumerate","zip","dict_itemiterator","dict_reverseitemiterator","odict_iterator","itertools.zip_longest","itertools.pairwise"].contains n&&vs[0]?==some (rawInt _))=true then _ else _) Q E s
         rw [if_neg (by intro h;rw [hn,Bool.false_and] at h;cases h)]
         exact wpAny_pure hQ))
def Itl (K:PySem.W.Frag) (a:Addr):It:=
 ⟨fun i H=>∃ xs x,SqL K H a xs/\xs[i]?=some x,fun i H x H'=>H'=H/\∀ xs,SqL K H a xs->xs[i]?=some x,fun i H=>∃ xs,SqL K H a xs/\xs.length<=i⟩
def Itt (K:PySem.W.Frag) (a:Addr):It:=
 ⟨fun i H=>∃ xs x,SqT K H a xs/\xs[i]?=some x,fun i H x H'=>H'=H/\∀ xs,SqT K H a xs->xs[i]?=some x,fun i H=>∃ xs,SqT K H a xs/\xs.length<=i⟩
def Itr (lo:Int) (n:Nat):It:=⟨fun i _=>i<n,fun i H x H'=>H'=H/\x=.int (lo+i),fun i _=>n<=i⟩
def pT {P:Program} {w:World} {K:PySem.W.Frag} {tg:Expr} (a it:Addr):Turn P w K tg (Itl K a) [it] it (fun i h=>h.IsListIter it a i) where
 mem:=by simp
 obj:=fun i h st b hb=>by
  have e:b=it:=by simpa using hb
  subst e
  obtain ⟨o,e,c,d⟩:=st
  exact ⟨o,e,fun v z=>by rw [d] at z;cases z⟩
 keep:=fun i h h' st k=>st.at fun o e=>k it (by simp) o e
 item:=by
  intro X hP hw hK hc i pins s σ H E I hf st hg
  subst hP hw hK
  obtain ⟨xs,x,hq,hx⟩:=hg
  obtain ⟨its,rv,p,hz⟩:=I.list hq
  obtain ⟨u,hu,ru⟩:=rv.get hx
  obtain ⟨f0,f1,f2,f3,f4,f5⟩:=hf it (by simp)
  refine wpAny_pyNext_list_item st p.isList (x:=u) (by simpa using hu) fun h' st' sb=>?_
  have I1:Inv X pins σ H {s with heap:=h'}:=I.turned (t':=s.toks) (fun b o hb e=>(sb.2 b hb).trans e) f0 f1 f3 f4 f5
  obtain ⟨o,e,c,d⟩:=id st'
  exact ⟨u,rfl,jv (s:={s with heap:=h'}) e c d (by decide) ⟨x,H,I1,ru,⟨rfl,fun ys hy=>by rw [I.list_inj hy hq];exact hx⟩,st',fun b hb=>(hf b hb).1⟩⟩
 done:=by
  intro X hP hw hK hc i pins s σ H E I hf st hg
  subst hP hw hK
  obtain ⟨xs,hq,hx⟩:=hg
  obtain ⟨its,rv,p,hz⟩:=I.list hq
  obtain ⟨f0,f1,f2,f3,f4,f5⟩:=hf it (by simp)
  have hl:=rv.length
  exact wpAny_pyNext_list_end (I.ok.hd hc) st p.isList (by simp;omega) fun h' eb=>⟨rfl,I.turned (t':=s.toks) (fun b o hb e=>eb b o hb e) f0 f1 f3 f4 f5⟩
 self:=fun _ _ _ _ _ st h=>wpAny_pyIter_listiter st h
def nr {P:Program} {w:World} {K:PySem.W.Frag} {tg:Expr} (a it:Addr):Turn P w K tg (Itt K a) [it] it (fun i h=>h.IsTupleIter it a i) where
 mem:=by simp
 obj:=fun i h st b hb=>by
  have e:b=it:=by simpa using hb
  subst e
  obtain ⟨o,e,c,d⟩:=st
  exact ⟨o,e,fun v z=>by rw [d] at z;cases z⟩
 keep:=fun i h h' st k=>st.at fun o e=>k it (by simp) o e
 item:=by
  intro X hP hw hK hc i pins s σ H E I hf st hg
  subst hP hw hK
  obtain ⟨xs,x,hq,hx⟩:=hg
  obtain ⟨its,rv,p,hz⟩:=I.tuple hq
  obtain ⟨u,hu,ru⟩:=rv.get hx
  obtain ⟨f0,f1,f2,f3,f4,f5⟩:=hf it (by simp)
  refine wpAny_pyNext_tuple_item st (show s.heap.IsTuple a its.toArray from p) (x:=u) (by simpa using hu) fun h' st' sb=>?_
  have I1:Inv X pins σ H {s with heap:=h'}:=I.turned (t':=s.toks) (fun b o hb e=>(sb.2 b hb).trans e) f0 f1 f3 f4 f5
  obtain ⟨o,e,c,d⟩:=id st'
  exact ⟨u,rfl,jv (s:={s with heap:=h'}) e c d (by decide) ⟨x,H,I1,ru,⟨rfl,fun ys hy=>by rw [I.tuple_inj hy hq];exact hx⟩,st',fun b hb=>(hf b hb).1⟩⟩
 done:=by
  intro X hP hw hK hc i pins s σ H E I hf st hg
  subst hP hw hK
  obtain ⟨xs,hq,hx⟩:=hg
  obtain ⟨its,rv,p,hz⟩:=I.tuple hq
  obtain ⟨f0,f1,f2,f3,f4,f5⟩:=hf it (by simp)
  have hl:=rv.length
  exact wpAny_pyNext_tuple_end (I.ok.hd hc) st (show s.heap.IsTuple a its.toArray from p) (by simp;omega) fun h' eb=>⟨rfl,I.turned (t':=s.toks) (fun b o hb e=>eb b o hb e) f0 f1 f3 f4 f5⟩
 self:=fun _ _ _ _ _ st h=>wpAny_pyIter_tupleiter st h
def nu {P:Program} {w:World} {K:PySem.W.Frag} {tg:Expr} (it:Addr) (lo:Int) (n:Nat):Turn P w K tg (Itr lo n) [it] it (fun i h=>IsRangeIter h it (lo+(i:Nat)*1) ((n:Int)-(i:Nat)) 1) where
 mem:=by simp
 obj:=fun i h st b hb=>by
  have e:b=it:=by simpa using hb
  subst e
  exact ⟨_,st,fun v z=>by
   have z':Data.fields _=Data.cell v:=z
   cases z'⟩
 keep:=fun i h h' st k=>k it (by simp) _ st
 item:=by
  intro X hP hw hK hc i pins s σ H E I hf st hg
  subst hP hw hK
  obtain ⟨f0,f1,f2,f3,f4,f5⟩:=hf it (by simp)
  have W:=Walks.range (prog:=X.prog) (w:=X.w) (I.ok.hd hc) it lo 1 n
  refine W.item i s _ _ hg st fun v h' tk hv st' kk=>?_
  obtain ⟨t,rfl⟩:=hv
  have I1:Inv X pins σ H {s with heap:=h',toks:=tk}:=I.turned (fun b o hb e=>kk b o (by simpa using hb) e) f0 f1 f3 f4 f5
  refine ⟨_,rfl,jv (s:={s with heap:=h',toks:=tk}) (n:="range_iterator") st' rfl rfl (by decide) ⟨.int (lo+i),H,I1,⟨t,?_⟩,⟨rfl,rfl⟩,st',fun b hb=>(hf b hb).1⟩⟩
  rw [Int.mul_one]
 done:=by
  intro X hP hw hK hc i pins s σ H E I hf st hg
  subst hP hw hK
  obtain ⟨f0,f1,f2,f3,f4,f5⟩:=hf it (by simp)
  exact wpAny_pyNext_range_end (I.ok.hd hc) st (by have:n<=i:=hg;omega) fun h' eb=>⟨rfl,I.turned (t':=s.toks) (fun b o hb e=>eb b o hb e) f0 f1 f3 f4 f5⟩
 self:=fun _ _ _ _ _ st h=>wpAny_pyIter_rangeiter st h
section
variable {X:Cx} {tg:Expr}
def vV (K:PySem.W.Frag) (tl:TE):TI:=fun σ H R=>tl σ H fun x H1=>∃ a,x=.ref a/\(∃ xs,SqL K H1 a xs)/\R (Itl K a) H1
def iTup (K:PySem.W.Frag) (tl:TE):TI:=fun σ H R=>tl σ H fun x H1=>∃ a,x=.ref a/\(∃ xs,SqT K H1 a xs)/\R (Itt K a) H1
def ko {l:Expr} {tl:TE} (hl:PE X l tl):PI X tg l (vV X.K tl):=by
 intro pins s σ H R I h
 refine thn (hl pins s σ H _ I h) fun v s1 ⟨x,H1,I1,r1,q1⟩=>?_
 obtain ⟨a,e,⟨xs,hq⟩,q⟩:=q1
 subst e
 cases r1
 obtain ⟨its,rv,p,hz⟩:=I1.list hq
 refine wpAny_pyIter_list p.isList ?_
 refine ⟨s1.heap.objs.size,[s1.heap.objs.size],_,_,H1,rfl,I1.kept (t':=s1.toks) fun b o e=>gP _ e,pT a _,⟨_,Heap.get?_push_size _ rfl,rfl,rfl⟩,fun b hb=>?_,q⟩
 have e:b=s1.heap.objs.size:=by simpa using hb
 subst e
 exact I1.fpOk (nL _) (I1.hok.fresh (nL _))
def qT {l:Expr} {tl:TE} (hl:PE X l tl):PI X tg l (iTup X.K tl):=by
 intro pins s σ H R I h
 refine thn (hl pins s σ H _ I h) fun v s1 ⟨x,H1,I1,r1,q1⟩=>?_
 obtain ⟨a,e,⟨xs,hq⟩,q⟩:=q1
 subst e
 cases r1
 obtain ⟨its,rv,p,hz⟩:=I1.tuple hq
 refine wpAny_pyIter_tuple (show s1.heap.IsTuple a its.toArray from p) ?_
 refine ⟨s1.heap.objs.size,[s1.heap.objs.size],_,_,H1,rfl,I1.kept (t':=s1.toks) fun b o e=>gP _ e,nr a _,⟨_,Heap.get?_push_size _ rfl,rfl,rfl⟩,fun b hb=>?_,q⟩
 have e:b=s1.heap.objs.size:=by simpa using hb
 subst e
 exact I1.fpOk (nL _) (I1.hok.fresh (nL _))
def qU {pins:List (Addr×Obj)} {σ:St} {H:Hp} {s:Shared} {R:It->Hp->Prop} {E:Value->Shared->Prop} {lo hi:Int} {t u v:Tok} {tk:Nat} (I:Inv X pins σ H s) (h1:-(2^62)<=lo) (h2:lo<2^62) (h3:-(2^62)<=hi) (h4:hi<2^62)
  (q:R (Itr lo (hi-lo).toNat) H):wpAny (model X.prog X.w) X.A (pyIter (.ref s.heap.objs.size)) (PIE X pins σ tg R) E {s with heap:=s.heap.push {cls:=.type "range",data:=.fields #[.int lo t,.int hi u,.int 1 v]},toks:=tk}:=by
 refine wpAny_pyIter_range (IsRange.new ..) (small_one h1 h2 h3 h4) ?_
 have I1:Inv X pins σ H {s with heap:=s.heap.push {cls:=.type "range",data:=.fields #[.int lo t,.int hi u,.int 1 v]},toks:=tk}:=I.kept fun b o e=>gP _ e
 refine ⟨(s.heap.push {cls:=.type "range",data:=.fields #[.int lo t,.int hi u,.int 1 v]}).objs.size,[(s.heap.push {cls:=.type "range",data:=.fields #[.int lo t,.int hi u,.int 1 v]}).objs.size],_,_,H,rfl,
  I1.kept (t':=tk) fun b o e=>gP _ e,nu _ lo (hi-lo).toNat,?_,fun b hb=>?_,q⟩
 · have e1:lo+((0:Nat):Int)*1=lo:=by simp
   have e2:(((hi-lo).toNat:Nat):Int)-((0:Nat):Int)=Builtin.Range.rangeSize lo hi 1:=by rw [rangeSize_one];split<;>omega
   show IsRangeIter _ _ (lo+((0:Nat):Int)*1) ((((hi-lo).toNat:Nat):Int)-((0:Nat):Int)) 1
   rw [e1,e2]
   exact Heap.get?_push_size _ rfl
 · have e:b=(s.heap.push {cls:=.type "range",data:=.fields #[.int lo t,.int hi u,.int 1 v]}).objs.size:=by simpa using hb
   subst e
   exact I1.fpOk (nL _) (I1.hok.fresh (nL _))
def vW (ta:TA):TI:=fun σ H R=>ta σ H fun vs H1=>∃ j:Int,vs=[.int j]/\-(2^62)<=j/\j<2^62/\R (Itr 0 j.toNat) H1
def pU {a:Expr} {ta:TA} {p pos:Pos} (hg:Gl X "range") (hm:X.mg "range"=none) (ha:PA X [a] ta) (hs:starEach [a] X.env=[(false,eval a X.env)]:=by rfl):PI X tg (.Call (.Name "range" p) [a] [] pos) (vW ta):=by
 intro pins s σ H R I h
 refine Call_ (gx I hg hm boot_range (PyProof.Rows.callWith_type1 (thn (ha pos pins s σ H _ I h) fun us s1 ⟨vs,H1,I1,r1,q1⟩=>?_) hs rfl))
 obtain ⟨j,e,q1,q2,q⟩:=q1
 subst e
 cases r1 with
 | cons r rr =>
  cases rr
  obtain ⟨t,rfl⟩:=r
  exact call_range_1 (qU I1 (by omega) (by omega) q1 q2 (by simpa using q))
noncomputable def tFor (wi:TI) (g:TG) (tb:TS):TS:=fun D σ H=>wi σ H fun J H1=>∃ W:Nat->Nat->St->Hp->Prop,(∃ m,W 0 m σ H1)/\∀ i m σ H,W i m σ H→
 (J.stop i H/\D.nx σ H)∨(J.go i H/\∃ N:St->Hp->Prop,(∀ σ' H',N σ' H'->∃ m',m'<m/\W (i+1) m' σ' H')/\∀ x H',J.yld i H x H'->g x σ H' fun σ2 H2=>tb {D with nx:=N,ct:=N,bk:=D.nx} σ2 H2)
def gy (fp:List Addr) (h:Heap):List (Addr×Obj):=fp.filterMap fun b=>(h.get? b).map fun o=>(b,o)
def cq {fp:List Addr} {h:Heap} {b:Addr} {o:Obj} (hb:b∈fp) (e:h.get? b=some o):(b,o)∈gy fp h:=List.mem_filterMap.mpr ⟨b,hb,by rw [e];rfl⟩
def pV {fp:List Addr} {h:Heap} {p:Addr×Obj} (hp:p∈gy fp h):p.1∈fp/\h.get? p.1=some p.2:=by
 obtain ⟨b,hb,e⟩:=List.mem_filterMap.mp hp
 cases q:h.get? b with
 | none=>rw [q] at e;cases e
 | some o =>
  rw [q] at e
  have e':(b,o)=p:=Option.some.inj e
  subst e'
  exact ⟨hb,q⟩
def Inv.pinned {pins:List (Addr×Obj)} {σ:St} {H:Hp} {s:Shared} {fp:List Addr} (I:Inv X pins σ H s) (hf:∀ b∈fp,e9 X pins H b) (ho:∀ b∈fp,∃ o,s.heap.get? b=some o/\∀ v,o.data≠.cell v):Inv X (pins++gy fp s.heap) σ H s:=
 I.pins_of fun p hp=>(List.mem_append.mp hp).elim (fun z=>I.pin p (List.mem_append_right _ z)) fun z=>by
  obtain ⟨hb,e⟩:=pV z
  obtain ⟨f0,f1,f2,_⟩:=hf p.1 hb
  obtain ⟨o,e',d⟩:=ho p.1 hb
  rw [e] at e';cases e'
  exact ⟨e,f0,f1,f2,d⟩
def Inv.unpinned {pins pl:List (Addr×Obj)} {σ:St} {H:Hp} {s:Shared} (I:Inv X (pins++pl) σ H s):Inv X pins σ H s:=I.pins_of fun p hp=>I.pin p (List.mem_append_right _ (List.mem_append_left _ hp))
def qV {iter:Expr} {body:List Stmt} {wi:TI} {g:TG} {tb:TS} {pos:Pos} (hp:PassesOwn (model X.prog X.w) X.A X.env X.xe) (hc:X.calm=true) (hi:PI X tg iter wi) (hg:PG X tg g) (hb:PSs X body tb)
  (hs:∀ x,foldedSetIterable iter X.env x=pure x:=by intro _;rfl):PS X (.For tg iter body [] pos) (tFor wi g tb):=by
 intro pins s σ H D I h
 refine wpAny_For (thn (hi pins s σ H _ I h) fun v s1 h1=>thn h1 fun itv s2 h2=>?_) hs
 obtain ⟨it,fp,tn,J,H2,e,I2,T,st2,f2,W,⟨m0,w0⟩,turn⟩:=h2
 subst e
 -- what stays true of the iterator's objects through the loop
 have stat:∀ {H':Hp},(∀ b∈fp,H' b=none)->∀ b∈fp,e9 X pins H' b:=fun hn b hb=>⟨hn b hb,(f2 b hb).2⟩
 refine codeAny_forLoop_any (fun n s'=>∃ i σ' H',Inv X pins σ' H' s'/\tn i s'.heap/\(∀ b∈fp,H' b=none)/\W i n σ' H') ?_ m0 ⟨0,σ,H2,I2,st2,fun b hb=>(f2 b hb).1,w0⟩
 rintro n s3 ⟨i,σ3,H3,I3,st3,fr3,w3⟩
 rcases turn i n σ3 H3 w3 with ⟨stop,qn⟩ | ⟨go,N,hN,step⟩
 · refine wpAny_passesOwn hp (thn (T.done X rfl rfl rfl hc i pins s3 σ3 H3 X.xe I3 (stat fr3) st3 stop) fun r s4 ⟨hr,I4⟩=>?_)
   subst hr
   exact wpAny_execs_nil ⟨σ3,H3,I4,qn⟩
 · refine wpAny_passesOwn hp (thn (T.item X rfl rfl rfl hc i pins s3 σ3 H3 X.xe I3 (stat fr3) st3 go) fun r s4 ⟨u,hr,h4⟩=>?_)
   subst hr
   refine wpAny_passesOwn hp (thn h4 fun _ s5 ⟨x,H5,I5,r5,y5,st5,fr5⟩=>?_)
   have I5':=I5.pinned (stat fr5) (T.obj _ _ st5)
   refine wpAny_passesOwn hp (thn (hg _ s5 σ3 H5 x u _ I5' r5 (step x H5 y5)) fun _ s6 ⟨σ6,H6,I6,q6⟩=>?_)
   refine wpAny_passesOwn hp (thn (hb _ s6 σ6 H6 _ I6 q6) fun f s7 q7=>?_)
   have again:∀ {σ7:St} {H7:Hp},Inv X (pins++gy fp s5.heap) σ7 H7 s7->N σ7 H7->∃ m,m<n/\∃ i σ' H',Inv X pins σ' H' s7/\tn i s7.heap/\(∀ b∈fp,H' b=none)/\W i m σ' H':=fun {σ7 H7} I7 n7=>by
    obtain ⟨m',hm,w7⟩:=hN σ7 H7 n7
    refine ⟨m',hm,i+1,σ7,H7,I7.unpinned,T.keep _ _ _ st5 fun b hb o e=>(I7.pin (b,o) (List.mem_append_right _ (List.mem_append_right _ (cq hb e)))).1,fun b hb=>?_,w7⟩
    obtain ⟨o,e,d⟩:=T.obj _ _ st5 b hb
    exact (I7.pin (b,o) (List.mem_append_right _ (List.mem_append_right _ (cq hb e)))).2.1
   cases f with
   | next=>obtain ⟨σ7,H7,I7,n7⟩:=q7;exact again I7 n7
   | cont=>obtain ⟨σ7,H7,I7,n7⟩:=q7;exact again I7 n7
   | brk=>obtain ⟨σ7,H7,I7,q7⟩:=q7;exact ⟨σ7,H7,I7.unpinned,q7⟩
   | ret v=>obtain ⟨x7,σ7,H7,I7,r7,q7⟩:=q7;exact ⟨x7,σ7,H7,I7.unpinned,r7,q7⟩
end
abbrev R2:=V->V->Hp->VK->Prop
noncomputable def OpR (X:Cx) (f:Value->Value->Sem Value) (r:R2):Prop:=
 ∀ (pins:List (Addr×Obj)) (s:Shared) (σ:St) (H:Hp) (x y:V) (v u:Value) (Q:VK),Inv X pins σ H s->RelV x v->RelV y u->r x y H Q→
  wpAny (model X.prog X.w) X.A (f v u) (EP X pins σ Q) X.xe s
noncomputable def UnR (X:Cx) (f:Value->Sem Value) (r:V->Hp->VK->Prop):Prop:=
 ∀ (pins:List (Addr×Obj)) (s:Shared) (σ:St) (H:Hp) (x:V) (v:Value) (Q:VK),Inv X pins σ H s->RelV x v->r x H Q→
  wpAny (model X.prog X.w) X.A (f v) (EP X pins σ Q) X.xe s
noncomputable def b7 (X:Cx) (f:Value) (r:List V->Hp->VK->Prop):Prop:=
 ∀ (pins:List (Addr×Obj)) (s:Shared) (σ:St) (H:Hp) (xs:List V) (us:List Value) (Q:VK),Inv X pins σ H s->Vals xs us->r xs H Q→
  wpAny (model X.prog X.w) X.A (call f us) (EP X pins σ Q) X.xe s
noncomputable def TruR (X:Cx) (r:V->Hp->(Bool->Hp->Prop)->Prop):Prop:=
 ∀ (pins:List (Addr×Obj)) (s:Shared) (σ:St) (H:Hp) (x:V) (v:Value) (Q:Bool->Hp->Prop),Inv X pins σ H s->RelV x v->r x H Q→
  wpAny (model X.prog X.w) X.A (truthy v) (TP X pins σ Q) X.xe s
def tOp (r:R2) (ta tb:TE):TE:=fun σ H Q=>ta σ H fun x H1=>tb σ H1 fun y H2=>r x y H2 Q
def tUn (r:V->Hp->VK->Prop) (ta:TE):TE:=fun σ H Q=>ta σ H fun x H1=>r x H1 Q
def rI (C:Int->Int->Prop) (g:Int->Int->V):R2:=fun x y H Q=>∃ i j,x=.int i/\y=.int j/\C i j/\Q (g i j) H
def rI0 (g:Int->Int->V):R2:=fun x y H Q=>∃ i j,x=.int i/\y=.int j/\Q (g i j) H
def rU (g:Int->V):V->Hp->VK->Prop:=fun x H Q=>∃ i,x=.int i/\Q (g i) H
section
variable {X:Cx} {a b c:Expr} {ta tb tc:TE} {pos:Pos}
def xj (ha:PE X a ta) (hb:PE X b tb) {pins:List (Addr×Obj)} {s:Shared} {σ:St} {H:Hp} {R:V->V->Hp->Prop} (I:Inv X pins σ H s)
  (h:ta σ H fun x H1=>tb σ H1 fun y H2=>R x y H2) {Q:Value->Shared->Prop} {f:Value->Value->Sem Value}
  (hf:∀ v u s2 x y H2,Inv X pins σ H2 s2->RelV x v->RelV y u->R x y H2->wpAny (model X.prog X.w) X.A (f v u) Q X.xe s2) :
  wpAny (model X.prog X.w) X.A (eval a X.env) (fun v s₁=>wpAny (model X.prog X.w) X.A (eval b X.env) (fun u s₂=>wpAny (model X.prog X.w) X.A (f v u) Q X.xe s₂) X.xe s₁) X.xe s:=by
 refine thn (ha pins s σ H _ I h) fun v s1 ⟨x,H1,I1,r1,q1⟩=>?_
 refine thn (hb pins s1 σ H1 _ I1 q1) fun u s2 ⟨y,H2,I2,r2,q2⟩=>?_
 exact hf v u s2 x y H2 I2 r1 r2 q2
def zy {op:Operator} {r:R2} (ho:OpR X (binaryOp op) r) (ha:PE X a ta) (hb:PE X b tb):PE X (.BinOp a op b pos) (tOp r ta tb):=by
 intro pins s σ H Q I h
 exact wpAny_BinOp (xj ha hb I h fun v u s2 x y H2 I2 rx ry q=>ho pins s2 σ H2 x y v u Q I2 rx ry q)
def zz {op:UnaryOp} {r:V->Hp->VK->Prop} (ho:UnR X (unaryOp op) r) (ha:PE X a ta):PE X (.UnaryOp op a pos) (tUn r ta):=by
 intro pins s σ H Q I h
 exact UnaryOp_ (thn (ha pins s σ H _ I h) fun v s1 ⟨x,H1,I1,r1,q1⟩=>ho pins s1 σ H1 x v Q I1 r1 q1)
def opI {f:Value->Value->Sem Value} {C:Int->Int->Prop} {g:Int->Int->Int}
  (rule:∀ (i j:Int) (t u:Tok) (s:Shared) (Q:Value->Shared->Prop) (E:Value->Shared->Prop),C i j->Q (.int (g i j) s.toks) {s with toks:=s.toks+1}->wpAny (model X.prog X.w) X.A (f (.int i t) (.int j u)) Q E s) :
  OpR X f (rI C fun i j=>.int (g i j)):=by
 intro pins s σ H x y v u Q I rx ry h
 obtain ⟨i,j,rfl,rfl,hc,q⟩:=h
 obtain ⟨t,rfl⟩:=rx
 obtain ⟨t',rfl⟩:=ry
 exact rule i j t t' s _ _ hc ⟨.int (g i j),H,I.tok _,⟨_,rfl⟩,q⟩
def opI0 {f:Value->Value->Sem Value} {g:Int->Int->Int}
  (rule:∀ (i j:Int) (t u:Tok) (s:Shared) (Q:Value->Shared->Prop) (E:Value->Shared->Prop),Q (.int (g i j) s.toks) {s with toks:=s.toks+1}->wpAny (model X.prog X.w) X.A (f (.int i t) (.int j u)) Q E s) :
  OpR X f (rI0 fun i j=>.int (g i j)):=by
 intro pins s σ H x y v u Q I rx ry h
 obtain ⟨i,j,rfl,rfl,q⟩:=h
 obtain ⟨t,rfl⟩:=rx
 obtain ⟨t',rfl⟩:=ry
 exact rule i j t t' s _ _ ⟨.int (g i j),H,I.tok _,⟨_,rfl⟩,q⟩
def opB0 {f:Value->Value->Sem Value} {g:Int->Int->Bool}
  (rule:∀ (i j:Int) (t u:Tok) (s:Shared) (Q:Value->Shared->Prop) (E:Value->Shared->Prop),Q (.bool (g i j)) s->wpAny (model X.prog X.w) X.A (f (.int i t) (.int j u)) Q E s) :
  OpR X f (rI0 fun i j=>.bl (g i j)):=by
 intro pins s σ H x y v u Q I rx ry h
 obtain ⟨i,j,rfl,rfl,q⟩:=h
 obtain ⟨t,rfl⟩:=rx
 obtain ⟨t',rfl⟩:=ry
 exact rule i j t t' s _ _ ⟨.bl (g i j),H,I,rfl,q⟩
def xk (i j:Int):Prop:=0<=j/\j<=1000000/\i.natAbs<2^64
def CMul (i j:Int):Prop:=(-(2^64)<i/\i<2^64)∨(-(2^64)<j/\j<2^64)
def CMul.ok {i j:Int} (h:CMul i j):IntMulOk i j:=by
 rcases h with ⟨h1,h2⟩ | ⟨h1,h2⟩
 · exact .of_left (intBits_le_64 h1 h2)
 · exact .of_right (intBits_le_64 h1 h2)
def xl:OpR X (binaryOp .Add) (rI0 fun i j=>.int (i+j)):=opI0 fun _ _ _ _ _ _ _ q=>add_int q
def gz:OpR X (binaryOp .Sub) (rI0 fun i j=>.int (i-j)):=opI0 fun _ _ _ _ _ _ _ q=>sub_int q
def fj:OpR X (binaryOp .Mult) (rI CMul fun i j=>.int (i*j)):=opI fun _ _ _ _ _ _ _ hc q=>mul_int q hc.ok
def cw:OpR X (binaryOp .Mod) (rI (fun _ j=>0<j) fun i j=>.int (i%j)):=opI fun i j _ _ _ _ _ hc q=>by
 have h1:(0:Int)<j:=hc
 exact mod_int' (by omega) (by rw [Int.fmod_eq_emod_of_nonneg i (by omega)];exact q)
def fm:OpR X (binaryOp .Pow) (rI xk fun i j=>.int (i^j.toNat)):=opI fun _ _ _ _ _ _ _ hc q=>pow_int_small hc.1 hc.2.1 hc.2.2 q
def unI {f:Value->Sem Value} {g:Int->Int}
  (rule:∀ (i:Int) (t:Tok) (s:Shared) (Q:Value->Shared->Prop) (E:Value->Shared->Prop),Q (.int (g i) s.toks) {s with toks:=s.toks+1}->wpAny (model X.prog X.w) X.A (f (.int i t)) Q E s) :
  UnR X f (rU fun i=>.int (g i)):=by
 intro pins s σ H x v Q I rx h
 obtain ⟨i,rfl,q⟩:=h
 obtain ⟨t,rfl⟩:=rx
 exact rule i t s _ _ ⟨.int (g i),H,I.tok _,⟨_,rfl⟩,q⟩
def xm:UnR X (unaryOp .USub) (rU fun i=>.int (-i)):=unI fun _ _ _ _ _ q=>neg_int q
end
noncomputable def xn:V->V->Bool
 | .non,.non=>true | .non,.int _=>true | .int _,.non=>true | .non,.bl _=>true | .bl _,.non=>true | .non,.str _=>true | .str _,.non=>true
 | .int _,.int _=>true | .bl _,.bl _=>true | .str _,.str _=>true | .byt _,.byt _=>true
 | .int _,.str _=>true | .str _,.int _=>true | .bl _,.str _=>true | .str _,.bl _=>true
 | _,_=>false
def rEq:R2:=fun x y H Q=>xn x y=true/\Q (.bl (decide (x=y))) H
def rNe:R2:=fun x y H Q=>xn x y=true/\Q (.bl (!decide (x=y))) H
def oF {i j:Int}:decide (V.int i=V.int j)=(i==j):=by
 rw [Bool.eq_iff_iff]
 simp
def qW {i j:Bool}:decide (V.bl i=V.bl j)=(i==j):=by
 rw [Bool.eq_iff_iff]
 simp
def oG {i j:Str}:decide (V.str i=V.str j)=(i==j):=by
 rw [Bool.eq_iff_iff]
 simp
def oH {i j:Array UInt8}:decide (V.byt i=V.byt j)=(i.toList==j.toList):=by
 rw [Bool.eq_iff_iff]
 cases i
 cases j
 simp
section
variable {X:Cx} {a b c:Expr} {ta tb tc:TE} {pos:Pos}
def aX {pins:List (Addr×Obj)} {σ:St} {H:Hp} {s:Shared} {Q:VK} {k k':Bool} (I:Inv X pins σ H s) (q:Q (.bl k) H) (e:k=k'):EP X pins σ Q (.bool k') s:=by
 subst e
 exact ⟨.bl k,H,I,rfl,q⟩
def zA:OpR X (compareOp .Eq) rEq:=by
 intro pins s σ H x y v u Q I rx ry h
 obtain ⟨hs,q⟩:=h
 cases x with
 | non =>
  cases rx
  cases y with
  | non=>cases ry;exact PySem.EqNone.eq_none_none (aX I q (by simp))
  | bl j=>cases ry;exact PySem.EqNone.eq_none_bool (aX I q (by simp))
  | int j=>obtain ⟨t',rfl⟩:=ry;exact PySem.EqNone.eq_none_int (aX I q (by simp))
  | str j=>obtain ⟨t',rfl⟩:=ry;exact PySem.EqNone.eq_none_str (aX I q (by simp))
  | _=>exact absurd (show false=true from hs) Bool.false_ne_true
 | bl i =>
  cases rx
  cases y with
  | non=>cases ry;exact PySem.EqNone.eq_bool_none (aX I q (by simp))
  | bl j=>cases ry;exact eq_bool (aX I q qW)
  | str j=>obtain ⟨t',rfl⟩:=ry;exact PySem.EqMixed.eq_bool_str (aX I q (by simp))
  | _=>exact absurd (show false=true from hs) Bool.false_ne_true
 | int i =>
  obtain ⟨t,rfl⟩:=rx
  cases y with
  | non=>cases ry;exact PySem.EqNone.eq_int_none (aX I q (by simp))
  | int j=>obtain ⟨t',rfl⟩:=ry;exact eq_int (aX I q oF)
  | str j=>obtain ⟨t',rfl⟩:=ry;exact PySem.EqMixed.eq_int_str (aX I q (by simp))
  | _=>exact absurd (show false=true from hs) Bool.false_ne_true
 | str i =>
  obtain ⟨t,rfl⟩:=rx
  cases y with
  | non=>cases ry;exact PySem.EqNone.eq_str_none (aX I q (by simp))
  | bl j=>cases ry;exact PySem.EqMixed.eq_str_bool (aX I q (by simp))
  | int j=>obtain ⟨t',rfl⟩:=ry;exact PySem.EqMixed.eq_str_int (aX I q (by simp))
  | str j=>obtain ⟨t',rfl⟩:=ry;exact eq_str (aX I q oG)
  | _=>exact absurd (show false=true from hs) Bool.false_ne_true
 | byt i =>
  obtain ⟨t,rfl⟩:=rx
  cases y with
  | byt j=>obtain ⟨t',rfl⟩:=ry;exact PySem.W.eq_bytes (aX I q oH)
  | _=>exact absurd (show false=true from hs) Bool.false_ne_true
 | _=>cases y<;>exact absurd (show false=true from hs) Bool.false_ne_true
def zB:OpR X (compareOp .NotEq) rNe:=by
 intro pins s σ H x y v u Q I rx ry h
 obtain ⟨hs,q⟩:=h
 cases x with
 | non =>
  cases rx
  cases y with
  | non=>cases ry;exact PySem.EqNone.ne_none_none (aX I q (by simp))
  | bl j=>cases ry;exact PySem.EqNone.ne_none_bool (aX I q (by simp))
  | int j=>obtain ⟨t',rfl⟩:=ry;exact PySem.EqNone.ne_none_int (aX I q (by simp))
  | str j=>obtain ⟨t',rfl⟩:=ry;exact PySem.EqNone.ne_none_str (aX I q (by simp))
  | _=>exact absurd (show false=true from hs) Bool.false_ne_true
 | bl i =>
  cases rx
  cases y with
  | non=>cases ry;exact PySem.EqNone.ne_bool_none (aX I q (by simp))
  | bl j=>cases ry;exact ne_bool (aX I q (congrArg not qW))
  | str j=>obtain ⟨t',rfl⟩:=ry;exact PySem.EqMixed.ne_bool_str (aX I q (by simp))
  | _=>exact absurd (show false=true from hs) Bool.false_ne_true
 | int i =>
  obtain ⟨t,rfl⟩:=rx
  cases y with
  | non=>cases ry;exact PySem.EqNone.ne_int_none (aX I q (by simp))
  | int j=>obtain ⟨t',rfl⟩:=ry;exact ne_int (aX I q (congrArg not oF))
  | str j=>obtain ⟨t',rfl⟩:=ry;exact PySem.EqMixed.ne_int_str (aX I q (by simp))
  | _=>exact absurd (show false=true from hs) Bool.false_ne_true
 | str i =>
  obtain ⟨t,rfl⟩:=rx
  cases y with
  | non=>cases ry;exact PySem.EqNone.ne_str_none (aX I q (by simp))
  | bl j=>cases ry;exact PySem.EqMixed.ne_str_bool (aX I q (by simp))
  | int j=>obtain ⟨t',rfl⟩:=ry;exact PySem.EqMixed.ne_str_int (aX I q (by simp))
  | str j=>obtain ⟨t',rfl⟩:=ry;exact ne_str (aX I q (congrArg not oG))
  | _=>exact absurd (show false=true from hs) Bool.false_ne_true
 | byt i =>
  obtain ⟨t,rfl⟩:=rx
  cases y with
  | byt j=>obtain ⟨t',rfl⟩:=ry;exact PySem.W.ne_bytes (aX I q (congrArg not oH))
  | _=>exact absurd (show false=true from hs) Bool.false_ne_true
 | _=>cases y<;>exact absurd (show false=true from hs) Bool.false_ne_true
def vX:OpR X (compareOp .Lt) (rI0 fun i j=>.bl (decide (i<j))):=opB0 fun _ _ _ _ _ _ _ q=>lt_int q
def vY:OpR X (compareOp .Gt) (rI0 fun i j=>.bl (decide (j<i))):=opB0 fun _ _ _ _ _ _ _ q=>gt_int q
def pW:OpR X (compareOp .In) (fun x y H Q=>∃ i j,x=.str i/\y=.str j/\Q (.bl (!(Builtin.Str.occurrences j i 0 j.length 1).isEmpty)) H):=by
 intro pins s σ H x y v u Q I rx ry h
 obtain ⟨i,j,rfl,rfl,q⟩:=h
 obtain ⟨t,rfl⟩:=rx
 obtain ⟨t',rfl⟩:=ry
 exact in_str (aX I q rfl)
def OpR.or {f:Value->Value->Sem Value} {r r':R2} (h:OpR X f r) (h':OpR X f r'):OpR X f (fun x y H Q=>r x y H Q∨r' x y H Q):=by
 intro pins s σ H x y v u Q I rx ry q
 rcases q with q | q
 · exact h pins s σ H x y v u Q I rx ry q
 · exact h' pins s σ H x y v u Q I rx ry q
def bf (b:Expr) {op:CmpOp} (h:op≠.In:=by decide) (h2:op≠.NotIn:=by decide):behindInMarks op b=false:=by
 have e1:(op==CmpOp.In)=false:=by cases op<;>first | rfl | exact absurd rfl h
 have e2:(op==CmpOp.NotIn)=false:=by cases op<;>first | rfl | exact absurd rfl h2
 cases b<;>simp [behindInMarks,e1,e2]
def oI {op:CmpOp} {r:R2} (ho:OpR X (compareOp op) r) (ha:PE X a ta) (hb:PE X b tb) (hm:behindInMarks op b=false):PE X (.Compare a [op] [b] pos) (tOp r ta tb):=by
 intro pins s σ H Q I h
 exact wpAny_Compare1 (xj ha hb I h fun v u s2 x y H2 I2 rx ry q=>ho pins s2 σ H2 x y v u Q I2 rx ry q) hm
def zC (t:TE):TT:=fun σ H Q=>t σ H fun x H'=>∃ k,x=.bl k/\Q k H'
def ii {op:CmpOp} {r:R2} (ho:OpR X (compareOp op) r) (ha:PE X a ta) (hb:PE X b tb) (hm:behindInMarks op b=false):PT X (.Compare a [op] [b] pos) (zC (tOp r ta tb)):=by
 intro pins s σ H Q I h
 refine wpAny_isTrue_Compare1 (thn (ha pins s σ H _ I h) fun v s1 ⟨x,H1,I1,r1,q1⟩=>thn (hb pins s1 σ H1 _ I1 q1) fun u s2 ⟨y,H2,I2,r2,q2⟩ =>
  thn (ho pins s2 σ H2 x y v u _ I2 r1 r2 q2) fun c s3 ⟨z,H3,I3,r3,k,e,q3⟩=>?_) hm
 subst e
 cases r3
 exact wpAny_truthy_bool ⟨H3,I3,q3⟩
noncomputable def xo (K:PySem.W.Frag) (x:V) (H:Hp) (k:Bool):Prop:=
 match x with
 | .non=>k=false
 | .bl b=>k=b
 | .int i=>k=(i != 0)
 | .str y=>y.length<=sizeLine/\k=((y.length:Int) != 0)
 | .byt y=>y.size<=sizeLine/\k=((y.size:Int) != 0)
 | .ref p=>(∃ xs,SqL K H p xs/\k=!xs.isEmpty)∨(∃ xs,SqT K H p xs/\k=!xs.isEmpty)∨∃ kvs,H p=some (.dK kvs)/\k=!kvs.isEmpty
 | _=>False
def nv {κ:Type} {kvs:List (κ×V)} {vs:List (κ×Value)} (r:KV kvs vs):(!vs.isEmpty)=!kvs.isEmpty:=by
 cases r<;>rfl
def iw {xs:List V} {its:List Value} (r:Vals xs its):(!its.toArray.isEmpty)=!xs.isEmpty:=by
 cases r<;>simp
def gA:(sizeLine:Nat)<2^63:=by rw [sizeLine_eq];decide
def xp:TruR X (fun x H Q=>∃ k,xo X.K x H k/\Q k H):=by
 intro pins s σ H x v Q I rx h
 obtain ⟨k,e,q⟩:=h
 have hl:=gA
 have hs:sizeLine=16777216:=sizeLine_eq
 cases x with
 | non =>
  cases rx
  have e':k=false:=e
  subst e'
  exact truthy_none ⟨H,I,q⟩
 | bl b =>
  cases rx
  have e':k=b:=e
  subst e'
  exact wpAny_truthy_bool ⟨H,I,q⟩
 | int i =>
  obtain ⟨t,rfl⟩:=rx
  have e':k=(i != 0):=e
  subst e'
  exact PySem.P.truthy_int ⟨H,I,q⟩
 | str y =>
  obtain ⟨t,rfl⟩:=rx
  obtain ⟨hy,e'⟩:y.length<=sizeLine/\k=((y.length:Int) != 0):=e
  subst e'
  exact PySem.P.truthy_str (by omega) ⟨H,I.tok _,q⟩
 | byt y =>
  obtain ⟨t,rfl⟩:=rx
  obtain ⟨hy,e'⟩:y.size<=sizeLine/\k=((y.size:Int) != 0):=e
  subst e'
  exact PySem.W.truthy_bytes (by omega) ⟨H,I.tok _,q⟩
 | ref p =>
  cases rx
  have e':(∃ xs,SqL X.K H p xs/\k=!xs.isEmpty)∨(∃ xs,SqT X.K H p xs/\k=!xs.isEmpty)∨∃ kvs,H p=some (.dK kvs)/\k=!kvs.isEmpty:=e
  rcases e' with ⟨xs,hx,e'⟩ | ⟨xs,hx,e'⟩ | ⟨kvs,hx,e'⟩
  · subst e'
    obtain ⟨its,r,pl,hz⟩:=I.list hx
    have hlen:=r.length
    exact wpAny_truthy_list pl.isList (by simp only [List.size_toArray];omega) ⟨H,I.tok _,by rw [iw r];exact q⟩
  · subst e'
    obtain ⟨its,r,pl,hz⟩:=I.tuple hx
    have hlen:=r.length
    exact truthy_tuple pl (by simp only [List.size_toArray];omega) ⟨H,I.tok _,by rw [iw r];exact q⟩
  · subst e'
    obtain ⟨hz,hS,vs,r,m⟩:kvs.length<=sizeLine/\(p==sysModules)=false/\∃ vs,KV kvs vs/\s.heap.DictOf (bj X.prog X.w) p vs:=I.hok p _ hx
    have hlen:kvs.length=vs.length:=Paired.length r
    exact wpAny_truthy_dict hS m (by omega) ⟨H,I.tok _,by rw [nv r];exact q⟩
 | _=>exact (show False from e).elim
def qX (ha:PE X a ta) (he:∀ whole,isTrue a X.env whole=(do let v <- whole;standAt a.pos;holding [v] (truthy v))) :
  PT X a (fun σ H Q=>ta σ H fun x H'=>∃ k,xo X.K x H' k/\Q k H'):=by
 intro pins s σ H Q I h
 exact isTrue_plain (thn (ha pins s σ H _ I h) fun v s1 ⟨x,H1,I1,r1,q1⟩=>xp pins s1 σ H1 x v Q I1 r1 q1) (he _)
def ny:OpR X (binaryOp .Add) (fun x y H Q=>∃ i j,x=.str i/\y=.str j/\i.length+j.length<=sizeLine/\Q (.str (i++j)) H):=by
 intro pins s σ H x y v u Q I rx ry h
 obtain ⟨i,j,rfl,rfl,hz,q⟩:=h
 obtain ⟨t,rfl⟩:=rx
 obtain ⟨t',rfl⟩:=ry
 exact add_str (fun t' tk=>⟨.str (i++j),H,I.tok _,⟨_,rfl⟩,q⟩) hz
def g0 {x:V} {us:List Value} (r:Vals [x] us):∃ u,us=[u]/\RelV x u:=by
 cases r with
 | cons r1 r2=>cases r2;exact ⟨_,rfl,r1⟩
def qY {x y:V} {us:List Value} (r:Vals [x,y] us):∃ u w',us=[u,w']/\RelV x u/\RelV y w':=by
 cases r with
 | cons r1 r2 =>
  cases r2 with
  | cons r3 r4=>cases r4;exact ⟨_,_,rfl,r1,r3⟩
def pX (hc:X.calm=true):b7 X (.builtin "max") (fun xs H Q=>∃ i j,xs=[.int i,.int j]/\Q (.int (if j > i then j else i)) H):=by
 intro pins s σ H xs us Q I r h
 obtain ⟨i,j,rfl,q⟩:=h
 obtain ⟨u,w',rfl,⟨t,rfl⟩,⟨t',rfl⟩⟩:=qY r
 refine max_two_ints (I.ok.hd hc) fun h' tk k=>⟨_,H,I.kept k,?_,q⟩
 by_cases hj:j > i
 · rw [if_pos hj,if_pos hj];exact ⟨_,rfl⟩
 · rw [if_neg hj,if_neg hj];exact ⟨_,rfl⟩
def pY (hc:X.calm=true):b7 X (.builtin "min") (fun xs H Q=>∃ i j,xs=[.int i,.int j]/\Q (.int (if j<i then j else i)) H):=by
 intro pins s σ H xs us Q I r h
 obtain ⟨i,j,rfl,q⟩:=h
 obtain ⟨u,w',rfl,⟨t,rfl⟩,⟨t',rfl⟩⟩:=qY r
 refine min_two_ints (I.ok.hd hc) fun h' tk k=>⟨_,H,I.kept k,?_,q⟩
 by_cases hj:j<i
 · rw [if_pos hj,if_pos hj];exact ⟨_,rfl⟩
 · rw [if_neg hj,if_neg hj];exact ⟨_,rfl⟩
noncomputable def LenV (K:PySem.W.Frag) (x:V) (H:Hp) (n:Nat):Prop:=
 match x with
 | .str y=>y.length<=sizeLine/\n=y.length
 | .byt y=>y.size<=sizeLine/\n=y.size
 | .ref p=>(∃ xs,SqL K H p xs/\n=xs.length)∨∃ xs,SqT K H p xs/\n=xs.length
 | _=>False
def br:b7 X (.builtin "len") (fun xs H Q=>∃ x n,xs=[x]/\LenV X.K x H n/\Q (.int n) H):=by
 intro pins s σ H xs us Q I r h
 obtain ⟨x,n,rfl,e,q⟩:=h
 obtain ⟨u,rfl,rx⟩:=g0 r
 have hl:=gA
 have hs:sizeLine=16777216:=sizeLine_eq
 cases x with
 | str y =>
  obtain ⟨t,rfl⟩:=rx
  obtain ⟨hy,e'⟩:y.length<=sizeLine/\n=y.length:=e
  subst e'
  exact len_str (by omega) ⟨.int _,H,I.tok _,⟨_,rfl⟩,q⟩
 | byt y =>
  obtain ⟨t,rfl⟩:=rx
  obtain ⟨hy,e'⟩:y.size<=sizeLine/\n=y.size:=e
  subst e'
  exact PySem.W.len_bytes (by omega) ⟨.int _,H,I.tok _,⟨_,rfl⟩,q⟩
 | ref p =>
  cases rx
  have e':(∃ xs,SqL X.K H p xs/\n=xs.length)∨∃ xs,SqT X.K H p xs/\n=xs.length:=e
  rcases e' with ⟨xs,hx,e'⟩ | ⟨xs,hx,e'⟩
  · subst e'
    obtain ⟨its,r',pl,hz⟩:=I.list hx
    have hlen:=r'.length
    exact Calls.call_len_list pl.isList (by simp only [List.size_toArray];omega) ⟨.int xs.length,H,I.tok _,⟨_,by simp only [List.size_toArray];rw [hlen]⟩,q⟩
  · subst e'
    obtain ⟨its,r',pl,hz⟩:=I.tuple hx
    have hlen:=r'.length
    exact len_tuple pl (by simp only [List.size_toArray];omega) ⟨.int xs.length,H,I.tok _,⟨_,by simp only [List.size_toArray];rw [hlen]⟩,q⟩
 | _=>exact (show False from e).elim
end
structure ObjM (h:Heap) (x dx C:Addr) (mA:Str->Option Value):Prop where
 obj:h.get? x=some (PySem.W.instObj C dx)
 ns:h.Ns1 dx mA
 ne:dx≠x
def pZ {h:Heap} {dx:Addr} {mA:Str->Option Value} (n:h.Ns1 dx mA):∃ od,h.get? dx=some od/\∀ name,PySem.W.lookIn name od=some (mA name):=by
 obtain ⟨o,es,ep,ho,hd,hk,_,hm⟩:=n
 refine ⟨o,ho,fun name=>?_⟩
 have e:=hm name
 unfold nsFind findBy at e
 rw [<- Array.find?_toList] at e
 unfold PySem.W.lookIn
 rw [hd]
 dsimp only
 split
 · rename_i y q
   rw [q] at e
   exact congrArg some e
 · rename_i q
   rw [q] at e
   have a:es.toList.any (·.refKey)=false:=by
    rw [List.any_eq_false]
    intro y hy
    obtain ⟨z,t,hkey⟩:=hk y (Array.mem_toList_iff.mp hy)
    simp [DictEntry.refKey,hkey]
   have a':¬ es.toList.any (·.refKey)=true:=by rw [a];exact Bool.false_ne_true
   rw [if_neg a']
   exact congrArg some e
def ObjM.look {h:Heap} {x dx C:Addr} {mA:Str->Option Value} (I:ObjM h x dx C mA):∃ od,PySem.W.InstAt h x (PySem.W.instObj C dx) C (some od)/\∀ name,PySem.W.lookIn name od=some (mA name):=
 let ⟨od,ho,hl⟩:=pZ I.ns
 ⟨od,⟨I.obj,rfl,rfl,ho⟩,hl⟩
section
variable {prog:Program} {w:World} {A:Around} {E:Value->Shared->Prop} {s:Shared} {K:PySem.W.Frag} {x dx C f:Addr} {mA:Str->Option Value} {name:Str} {v:Value}
end
def RelO.some_of {v:V} {o:Option Value} (r:RelO (some v) o):∃ u,o=some u/\RelV v u:=by
 cases o with
 | none=>exact (show False from r).elim
 | some u=>exact ⟨u,rfl,r⟩
section
variable {P:Program} {w:World} {H H':Hp} {h h':Heap} {a C dx:Addr} {fs fs':List (Str×V)}
def ub (hok:HOk P w H h) (e:H a=some (.ins C dx fs)):∃ mA,ObjM h a dx C mA/\(∀ f,RelO (fs.lookup f) (mA f))/\PySem.Within mA (fs.map (·.1))/\fs.length<=1000/\H dx=some (.own a):=by
 obtain ⟨d,z,ne,ob,mA,n,r,q⟩:=(show ObjOk P w H h a (.ins C dx fs) from hok a _ e)
 exact ⟨mA,⟨ob,n,ne⟩,r,q,z,d⟩
end
structure Cls (K:PySem.W.Frag) (C:Addr):Prop where
 pg:PySem.W.plainGet K C Str.empty=true
 hd:PySem.W.hasDictIn K C=true
 po:PySem.W.plainOver K C=true
 sa:PySem.W.findIn K (.ref C) "__setattr__"=some (some (.builtin "object.__setattr__"))
def Cls.get {K:PySem.W.Frag} {C:Addr} (c:Cls K C) (f:Str):PySem.W.plainGet K C f=true:=c.pg
section
variable {X:Cx} {pins:List (Addr×Obj)} {σ:St} {H:Hp} {s:Shared} {a C dx:Addr} {fs:List (Str×V)} {f:Str} {v:V} {A:Around} {E:Value->Shared->Prop}
end
section
variable {X:Cx} {o e value:Expr} {f:Str} {pos pos' tpos:Pos} {ta tv:TE}
end
section
variable {X:Cx} {pins:List (Addr×Obj)} {σ:St} {H:Hp} {s:Shared} {A:Around} {E:Value->Shared->Prop} {Q:Value->Shared->Prop} {c:Value} {b:Bool}
inductive TyOf (K:PySem.W.Frag) (H:Hp):V->Value->Prop where
 | non:TyOf K H .non (.type "NoneType")
 | bl (x:Bool):TyOf K H (.bl x) (.type "bool")
 | int (i:Int):TyOf K H (.int i) (.type "int")
 | str (x:Str):TyOf K H (.str x) (.type "str")
 | flt (x:UInt64):TyOf K H (.flt x) (.type "float")
 | lst {a:Addr} {xs:List V} (e:H a=some (.lst xs)):TyOf K H (.ref a) (.type "list")
 | frz {a:Addr} {o:Obj} {xs:List V} (e:H a=some (.frz o (.lst xs))):TyOf K H (.ref a) (.type "list")
 | tup {a:Addr} {xs:List V} (e:H a=some (.tup xs)):TyOf K H (.ref a) (.type "tuple")
 | dK {a:Addr} {kvs:List (Key×V)} (e:H a=some (.dK kvs)):TyOf K H (.ref a) (.type "dict")
 | dT {a:Addr} {kvs:List (List Key×V)} (e:H a=some (.dT kvs)):TyOf K H (.ref a) (.type "dict")
 | ins {a C dx:Addr} {fs:List (Str×V)} (e:H a=some (.ins C dx fs)) (cl:Cls K C) (ha:PySem.W.findIn K (.ref C) "__class__"=some (some (.builtin "object.__class__")))
     (hn:PySem.W.specialIn K (.builtin "object.__class__") "__get__"=some (some (.builtin "getset_descriptor.__get__"))) (htk:PySem.W.takesIn K (.builtin "object.__class__")=some true)
     (hm:PySem.W.mroIn K C (.type "object")=some true):TyOf K H (.ref a) (.ref C)
def eu {x:V} {u t:Value} (I:Inv X pins σ H s) (rx:RelV x u) (ty:TyOf X.K H x t) (e:PySem.W.kitOne X.K t c=some b) (h:∀ tk,Q (.bool b) {s with toks:=tk}) :
  wpAny (model X.prog X.w) A (call (.builtin "isinstance") [u,c]) Q E s:=by
 cases ty with
 | non=>cases (show u=Value.none from rx);exact PySem.W.kia_one PySem.W.kitx_none I.kIn True.intro e (fun z=>nomatch z) h
 | bl y=>cases (show u=Value.bool y from rx);exact PySem.W.kia_one PySem.W.kitx_bool I.kIn True.intro e (fun z=>nomatch z) h
 | int i=>obtain ⟨t,q⟩:=(show ∃ t,u=Value.int i t from rx);cases q;exact PySem.W.kia_one PySem.W.kitx_int I.kIn True.intro e (fun z=>nomatch z) h
 | str y=>obtain ⟨t,q⟩:=(show ∃ t,u=Value.str y t from rx);cases q;exact PySem.W.kia_one PySem.W.kitx_str I.kIn True.intro e (fun z=>nomatch z) h
 | flt y=>obtain ⟨t,q⟩:=(show ∃ t,u=Value.float y t from rx);cases q;exact PySem.W.kia_one PySem.W.kitx_float I.kIn True.intro e (fun z=>nomatch z) h
 | @lst a xs ea =>
  cases (show u=Value.ref a from rx)
  obtain ⟨_,_,n,_,h1⟩:=(show ObjOk X.prog X.w H s.heap a (.lst xs) from I.hok a _ ea)
  exact PySem.W.kia_one PySem.W.kitx_list I.kIn ⟨_,h1,rfl⟩ e (fun z=>nomatch z) h
 | @frz a ob xs ea =>
  cases (show u=Value.ref a from rx)
  obtain ⟨_,_,_,n,_,h1⟩:=(show ObjOk X.prog X.w H s.heap a (.frz ob (.lst xs)) from I.hok a _ ea)
  exact PySem.W.kia_one PySem.W.kitx_list I.kIn ⟨_,h1,rfl⟩ e (fun z=>nomatch z) h
 | @tup a xs ea =>
  cases (show u=Value.ref a from rx)
  obtain ⟨_,_,_,p⟩:=(show ObjOk X.prog X.w H s.heap a (.tup xs) from I.hok a _ ea)
  obtain ⟨o,h1,h2,_⟩:=p
  exact PySem.W.kia_one PySem.W.kitx_tuple I.kIn ⟨o,h1,h2⟩ e (fun z=>nomatch z) h
 | @dK a kvs ea =>
  cases (show u=Value.ref a from rx)
  obtain ⟨_,_,vs,_,p⟩:=(show ObjOk X.prog X.w H s.heap a (.dK kvs) from I.hok a _ ea)
  obtain ⟨o,es,ep,h1,h2,_⟩:=p
  exact PySem.W.kia_one PySem.W.kitx_dict I.kIn ⟨o,h1,h2.1⟩ e (fun z=>nomatch z) h
 | @dT a kvs ea =>
  cases (show u=Value.ref a from rx)
  obtain ⟨_,_,xs,_,o,es,ep,h1,h2,_⟩:=(show ObjOk X.prog X.w H s.heap a (.dT kvs) from I.hok a _ ea)
  exact PySem.W.kia_one PySem.W.kitx_dict I.kIn ⟨o,h1,h2.1⟩ e (fun z=>nomatch z) h
 | @ins a C dx fs ea cl ha hn htk hm =>
  cases (show u=Value.ref a from rx)
  obtain ⟨mA,O,_⟩:=ub I.hok ea
  obtain ⟨od,J,_⟩:=O.look
  exact PySem.W.kia_one (PySem.W.kitx_own (cl.get _) cl.hd ha hn htk hm) I.kIn J e (fun z=>nomatch z) h
end
structure Room (k:Nat) (A:Around):Prop where
 hd:A.handled=none
 dp:A.depth+3*k+5<recursionLimit
 un:A.units+16*k+200<cLine
def Room.mono {j k:Nat} {A:Around} (r:Room k A) (h:j<=k):Room j A:=⟨r.hd,by have:=r.dp;omega,by have:=r.un;omega⟩
def Room.deeper {k:Nat} {A:Around} (r:Room (k+1) A) (env:Env):Room k (A.deeper env):=
 ⟨r.hd,by have:=r.dp;show A.depth+1+3*k+5<_;omega,by have:=r.un;show A.units+3+16*k+200<_;omega⟩
def Room.depth {k:Nat} {A:Around} (r:Room k A):A.depth<recursionLimit:=by have:=r.dp;omega
def Room.units {k:Nat} {A:Around} (r:Room k A):A.units+64<cLine:=by have:=r.un;omega
def tNil:TA:=fun _ H Q=>Q [] H
def zD (ta:TE) (tr:TA):TA:=fun σ H Q=>ta σ H fun x H1=>tr σ H1 fun xs H2=>Q (x::xs) H2
section
variable {X:Cx} {e:Expr} {es:List Expr} {te:TE} {t:TA} {pos:Pos}
def dU:PA X [] tNil:=fun _ _ _ _ H Q I h=>Calls.spliced_nil ⟨[],H,I,.nil,h⟩
def cF (ha:PE X e te) (hr:PA X es t) (hs:starEach (e::es) X.env=(false,eval e X.env)::starEach es X.env:=by rfl):PA X (e::es) (zD te t):=by
 intro pos pins s σ H Q I h
 rw [hs]
 show wpAny _ _ (spliced ((false,eval e X.env)::backTo pos (starEach es X.env))) _ _ s
 refine Calls.spliced_cons (thn (ha pins s σ H _ I h) fun u s1 ⟨x,H1,I1,r1,q1⟩=>?_)
 exact thn (hr pos pins s1 σ H1 _ I1 q1) fun us s2 ⟨xs,H2,I2,r2,q2⟩=>⟨x::xs,H2,I2,.cons r1 r2,q2⟩
def tTup (t:TA):TE:=fun σ H Q=>t σ H fun xs H1=>xs.length<=sizeLine/\∀ p,H1 p=none->Q (.ref p) (upd H1 p (.tup xs))
def tLst (t:TA):TE:=fun σ H Q=>t σ H fun xs H1=>xs.length<=sizeLine/\∀ p,H1 p=none->Q (.ref p) (upd H1 p (.lst xs))
def xq {x1} (h:PA X es t):PE X (.Tuple es x1 pos) (tTup t):=by
 intro pins s σ H Q I hq
 refine wpAny_Tuple_spliced (thn (h pos pins s σ H _ I hq) fun us s1 ⟨xs,H1,I1,r,z,q⟩=>⟨by rw [<- r.length];exact z,?_⟩)
 have hf:H1 s1.heap.objs.size=none:=I1.hok.fresh (nL _)
 refine ⟨.ref s1.heap.objs.size,upd H1 s1.heap.objs.size (.tup xs),I1.laid (t':=s1.toks) (fun b u e=>gP _ e) (nL _) ?_,rfl,q _ hf⟩
 exact ⟨z,us,r,⟨_,Heap.get?_push_size _ rfl,rfl,_,rfl⟩⟩
def xr (h:PA X es t):PE X (.List es pos) (tLst t):=by
 intro pins s σ H Q I hq
 refine wpAny_List_spliced (thn (h pos pins s σ H _ I hq) fun us s1 ⟨xs,H1,I1,r,z,q⟩=>⟨by rw [<- r.length];exact z,?_⟩)
 have hf:H1 s1.heap.objs.size=none:=I1.hok.fresh (nL _)
 refine ⟨.ref s1.heap.objs.size,upd H1 s1.heap.objs.size (.lst xs),I1.laid (t':=s1.toks) (fun b u e=>gP _ e) (nL _) ?_,rfl,q _ hf⟩
 exact ⟨z,us,0,r,Heap.get?_push_size _ rfl⟩
end
abbrev Sp:=List V->Hp->VK->XK->Prop
abbrev CXT:=List Env->Hp->Shared->XK->Value->Shared->Prop
structure Env0 (P:Program) (w:World) (K:PySem.W.Frag) (mg:Str->Option Value) (base:Heap) (A:Around) (outer:List Env) (s:Shared) (H:Hp):Prop where
 frames:A.frames=some outer
 mod:Mod K mg base
 bs:∀ b o,base.get? b=some o->s.heap.get? b=some o/\H b=none
 bsz:base.objs.size<=s.heap.objs.size
 funs:s.heap.FunFrames base outer
 frf:∀ b∈frs outer,H b=none
 hok:HOk P w H s.heap
 bare:AllBare s.gens
def CE (outer:List Env) (P:Program) (w:World) (H:Hp) (s:Shared) (Q:VK) (u:Value) (s':Shared):Prop:=
 ∃ v H',s'.os=s.os/\AllBare s'.gens/\Un (frs outer) [] H H' s.heap s'.heap/\HOk P w H' s'.heap/\RelV v u/\Q v H'
def CR (CX:CXT) (outer:List Env) (P:Program) (w:World) (H:Hp) (s:Shared) (Q:VK) (E:XK) (r:Result) (s':Shared):Prop:=
 match r with
 | .ok (.ret u)=>CE outer P w H s Q u s'
 | .ok _=>False
 | .error e=>CX outer H s E e s'
structure FnOk (P:Program) (w:World) (K:PySem.W.Frag) (mg:Str->Option Value) (base:Heap) (CX:CXT) (k:Nat) (f:Addr) (fd:FuncData) (ps:List Str) (sp:Sp):Prop where
 len:∀ vs H Q E,sp vs H Q E->vs.length=ps.length
 run:∀ (A:Around) (outer:List Env) (s:Shared) (H:Hp) (args:Args) (us:List Value) (vs:List V) (Q:VK) (E:XK),Room k A->Env0 P w K mg base A outer s H->BindsTo s fd args (ps.zip us)->Vals vs us->sp vs H Q E→
  codeAny (model P w) A (.call (.ref f) args) (CR CX outer P w H s Q E) s
def FnOk.imp {P:Program} {w:World} {K:PySem.W.Frag} {mg:Str->Option Value} {base:Heap} {CX:CXT} {k:Nat} {f:Addr} {fd:FuncData} {ps:List Str} {sp sp':Sp} (F:FnOk P w K mg base CX k f fd ps sp)
  (h:∀ vs H Q E,sp' vs H Q E->sp vs H Q E):FnOk P w K mg base CX k f fd ps sp':=
 ⟨fun vs H Q E q=>F.len vs H Q E (h _ _ _ _ q),fun A outer s H args us vs Q E hr he hb hv hs=>F.run A outer s H args us vs Q E hr he hb hv (h _ _ _ _ hs)⟩
section
variable {X:Cx} {pins:List (Addr×Obj)} {σ:St} {H:Hp} {s s':Shared}
def Inv.env0 (I:Inv X pins σ H s):Env0 X.prog X.w X.K X.mg X.base X.A X.stack s H:=
 ⟨I.ok.frames,I.ok.mod,I.bs,Nat.le_trans I.ok.bsz I.sz,I.stack,I.stkFree,I.hok,I.bare⟩
def Inv.after {Q:VK} {u:Value} (I:Inv X pins σ H s) (h:CE X.stack X.prog X.w H s Q u s'):EP X pins σ Q u s':=by
 obtain ⟨v,H',os,bare,un,hok,r,q⟩:=h
 obtain ⟨hh,g,d,t,os'⟩:=s'
 obtain rfl:os'=s.os:=os
 exact ⟨v,H',I.call (h':=hh) (g':=g) (d':=d) (t':=t) (ch:=[]) un hok bare (fun b z=>absurd z (by simp)),r,q⟩
end
def qZ (sp:Sp) (dvs:List V) (E:XK) (t:TA):TE:=fun σ H Q=>t σ H fun vs H1=>sp (vs++dvs) H1 Q E
def Binds (K:PySem.W.Frag) (fd:FuncData) (ps:List Str) (ds:List Value):Prop:=
 ∀ (s:Shared) (us:List Value),K.In s.heap->(us++ds).length=ps.length->BindsTo s fd ⟨us,[]⟩ (ps.zip (us++ds))
def Binds.all {K:PySem.W.Frag} {fd:FuncData} {ps:List Str} (h:∀ us:List Value,us.length=ps.length->bindArgs fd ⟨us,[]⟩=pure (ps.zip us)):Binds K fd ps []:=fun s us _ hl=>by
 rw [List.append_nil] at hl ⊢
 exact .of_eq (h us hl)
def nz (CX:CXT) (X:Cx) (E:XK):Prop:=∀ (pins:List (Addr×Obj)) (σ:St) (H:Hp) (s:Shared) (e:Value) (s':Shared),Inv X pins σ H s->CX X.stack H s E e s'->X.xe e s'
section
variable {X:Cx} {CX:CXT} {k:Nat} {f C:Addr} {fd:FuncData} {ps:List Str} {sp:Sp} {dvs:List V} {ds:List Value} {E:XK} {x m:Str} {p pos apos:Pos} {e o:Expr} {es:List Expr} {ta:TE} {t:TA}
def xt {pins:List (Addr×Obj)} {σ:St} {H:Hp} {s:Shared} {Q:VK} {us:List Value} {vs:List V} (F:FnOk X.prog X.w X.K X.mg X.base CX k f fd ps sp) (hr:Room k X.A) (hb:Binds X.K fd ps ds) (hd:Vals dvs ds) (hx:nz CX X E)
  (I:Inv X pins σ H s) (r:Vals vs us) (h:sp (vs++dvs) H Q E):wpAny (model X.prog X.w) X.A (call (.ref f) us) (EP X pins σ Q) X.xe s:=by
 have r2:Vals (vs++dvs) (us++ds):=r.append hd
 have hl:(us++ds).length=ps.length:=by rw [<- r2.length];exact F.len _ _ _ _ h
 refine wpAny_call (codeAny_mono (F.run X.A X.stack s H ⟨us,[]⟩ (us++ds) (vs++dvs) Q E hr I.env0 (hb s us I.kIn hl) r2 h) fun r s' hq=>?_)
 cases r with
 | error e=>exact hx pins σ H s e s' I hq
 | ok fl =>
  cases fl with
  | ret u=>exact I.after hq
  | next=>exact False.elim hq
  | brk=>exact False.elim hq
  | cont=>exact False.elim hq
def uc (F:FnOk X.prog X.w X.K X.mg X.base CX k f fd ps sp) (hr:Room k X.A) (hg:Gl X x) (hm:X.mg x=some (.ref f)) (hk:PySem.W.keepIn X.K (.ref f)=true) (hb:Binds X.K fd ps ds) (hd:Vals dvs ds) (hx:nz CX X E)
  (ha:PA X (e::es) t) (hdb:(x==("__debug__":Str))=false:=by decide) (he:starEach (e::es) X.env=(false,eval e X.env)::starEach es X.env:=by rfl) (hpl:(backTo pos (starEach es X.env)).any (·.1)=false:=by rfl) :
  PE X (.Call (.Name x p) (e::es) [] pos) (qZ sp dvs E t):=by
 intro pins s σ H Q I h
 refine wpAny_Call_Name_kw (oB I hg hm ?_ hdb)
 refine PySem.W.callWith_K (h₀:=X.base) I.ok.mod.kin hk (thn (ha pos pins s σ H _ I h) fun us s1 ⟨vs,H1,I1,r,q⟩=>⟨I1.kIn,?_⟩) he hpl
 exact xt F hr hb hd hx I1 r q
end
section
variable {X:Cx} {CX:CXT} {k:Nat} {f C:Addr} {fd:FuncData} {ps ks:List Str} {sp:Sp} {E:XK} {x m:Str} {p pos apos kpos:Pos} {e o:Expr} {es:List Expr} {kws:List Keyword} {te ta:TE} {t tk:TA} {nm:Option Str}
variable {g:List Value->List Value->List Value} {gV:List V->List V->List V}
end
structure FnScope (N P:List Str) (sc:Scope):Prop where
 kind:sc.kind=.function
 co:sc.isCoroutine=false
 gen:sc.isGenerator=false
 nd:N.Nodup
 pre:N.take P.length=P
 par:∀ x∈P,sc.names.lookup x=some .local∨sc.names.lookup x=some .cell
 nofree:∀ y∈sc.names,y.2≠.free
def jw {kindOf:Str->Option NameKind} {x:Str}:∀ {binds:List (Str×Value)} {m:Str->Option Value},(∀ v,(x,v)∉binds)->bindL kindOf binds m x=m x
 | [],_,_=>rfl
 | (n,v)::r,m,h=>by
  unfold bindL
  rw [jw fun w hw=>h w (List.mem_cons_of_mem _ hw)]
  split
  · have:x≠n:=by rintro rfl;exact h v List.mem_cons_self
    simp [this]
  · rfl
def jx {kindOf:Str->Option NameKind} {x:Str}:∀ {binds:List (Str×Value)} {m:Str->Option Value},(∀ v,(x,v)∉binds)->bindC kindOf binds m x=m x
 | [],_,_=>rfl
 | (n,v)::r,m,h=>by
  unfold bindC
  rw [jx fun w hw=>h w (List.mem_cons_of_mem _ hw)]
  split
  · rfl
  · have:x≠n:=by rintro rfl;exact h v List.mem_cons_self
    simp [this]
def jy {kindOf:Str->Option NameKind} {x:Str} {v:Value}:∀ {P:List Str} {vs:List Value} {i:Nat} {m:Str->Option Value},P.Nodup->P[i]?=some x->vs[i]?=some v->kindOf x=some .local→
  bindL kindOf (P.zip vs) m x=some v
 | [],_,_,_,_,h,_,_=>by simp at h
 | _::_,[],_,_,_,_,h,_=>by simp at h
 | p::P,w::vs,0,m,nd,h1,h2,hk=>by
  simp at h1 h2;subst h1;subst h2
  show bindL kindOf ((p,w)::P.zip vs) m p=_
  unfold bindL
  rw [jw fun v hv=>(List.nodup_cons.mp nd).1 (List.of_mem_zip hv).1,if_pos hk]
  simp
 | p::P,w::vs,i+1,m,nd,h1,h2,hk=>by
  show bindL kindOf ((p,w)::P.zip vs) m x=_
  unfold bindL
  exact jy (i:=i) (List.nodup_cons.mp nd).2 (by simpa using h1) (by simpa using h2) hk
def jz {kindOf:Str->Option NameKind} {x:Str} {v:Value}:∀ {P:List Str} {vs:List Value} {i:Nat} {m:Str->Option Value},P.Nodup->P[i]?=some x->vs[i]?=some v->kindOf x≠some .local→
  bindC kindOf (P.zip vs) m x=some v
 | [],_,_,_,_,h,_,_=>by simp at h
 | _::_,[],_,_,_,_,h,_=>by simp at h
 | p::P,w::vs,0,m,nd,h1,h2,hk=>by
  simp at h1 h2;subst h1;subst h2
  show bindC kindOf ((p,w)::P.zip vs) m p=_
  unfold bindC
  rw [jx fun v hv=>(List.nodup_cons.mp nd).1 (List.of_mem_zip hv).1,if_neg hk]
  simp
 | p::P,w::vs,i+1,m,nd,h1,h2,hk=>by
  show bindC kindOf ((p,w)::P.zip vs) m x=_
  unfold bindC
  exact jz (i:=i) (List.nodup_cons.mp nd).2 (by simpa using h1) (by simpa using h2) hk
def start (N:List Str) (vs:List V):St:=vs.map some++List.replicate (N.length-vs.length) none
noncomputable def jn (CX:CXT) (P:Program) (w:World) (K:PySem.W.Frag) (mg:Str->Option Value) (base:Heap) (N:List Str) (qual:Str) (scope:Scope) (f:Addr) (cd:Value) (A:Around) (outer:List Env) (s:Shared) (H:Hp) (E:XK):Cx where
 prog:=P
 w:=w
 K:=K
 mg:=mg
 base:=base
 A:=A.deeper (envOfC qual scope s.heap.objs.size f cd)
 N:=N
 s₀:=s
 H₀:=H
 env:=envOfC qual scope s.heap.objs.size f cd
 outer:=outer
 stack:=envOfC qual scope s.heap.objs.size f cd::outer
 ex:=[]
 calm:=true
 fn:=fun _=>true
 pn:=[]
 xe:=fun e s'=>wpAny (model P w) (A.deeper (envOfC qual scope s.heap.objs.size f cd)) (leaving (envOfC qual scope s.heap.objs.size f cd) e) (fun _ s''=>CX outer H s E e s'') (fun e' s''=>CX outer H s E e' s'') s'
def lM {sc:Scope} {n:Nat} {x:Str} (h:sc.names.lookup x=some .cell):∃ c,(cellsFrom n sc.names []).lookup x=some c:=by
 have q:=PySem.W.cellsFrom_some sc.names n [] (.inl h)
 exact Option.isSome_iff_exists.mp q
def p0 {CX:CXT} {P:Program} {w:World} {K:PySem.W.Frag} {mg:Str->Option Value} {base:Heap} {N ps:List Str} {qual:Str} {scope:Scope} {f:Addr} {cd:Value} {A:Around} {outer:List Env} {s s1:Shared} {H:Hp} {E:XK} {us:List Value} {vs:List V}
  (S:FnScope N ps scope) (hd:A.handled=none) (e0:Env0 P w K mg base A outer s H) (hl:vs.length=ps.length) (r:Vals vs us)
  (x:InCallC s s.heap.objs.size (bindL (envOfC qual scope s.heap.objs.size f cd).kindOf (ps.zip us) fun _=>none) (cellsFrom (s.heap.objs.size+1) scope.names []) (bindC (envOfC qual scope s.heap.objs.size f cd).kindOf (ps.zip us) fun _=>none) s1) :
  Inv (jn CX P w K mg base N qual scope f cd A outer s H E) [] (start N vs) H s1:=by
 have hpl:ps.length<=N.length:=by have:=congrArg List.length S.pre;rw [List.length_take] at this;omega
 obtain ⟨h1,tk,rfl,hk⟩:=x.done
 have noA:∀ b:Addr,b∉(jn CX P w K mg base N qual scope f cd A outer s H E).ex:=fun b z=>absurd (show b∈([]:List Addr) from z) (by simp)
 refine ⟨⟨e0.mod,S.kind,rfl,rfl,nL _,fun y z c h1 h2=>?_,fun y hy=>?_,fun y c _ h=>?_,fun _=>hd,Around.frames_deeper e0.frames,.inr ⟨rfl,rfl⟩,fun b z=>absurd z (noA b),e0.bs,e0.bsz,fun b _ _=>noA b,fun b z=>absurd z (noA b),e0.funs,e0.frf⟩,
  rfl,e0.bare,Un.kept hk,⟨_,x.toInCall.ns,fun i y v h1 h2 h3=>?_⟩,fun y c h=>⟨_,x.cell y c h⟩,e0.hok.fresh (Nat.le_refl _),fun y c h=>?_,fun p hp=>absurd (show p∈([]:List (Addr×Obj)) from hp) (by simp),e0.hok.kept hk,?_⟩
 · exact name_of_addr x.apart (PySem.mem_of_lookup h1) (PySem.mem_of_lookup h2)
 · have hy:scope.names.lookup y=some .cell∨scope.names.lookup y=some .free:=hy
   rcases hy with hy | hy
   · exact lM hy
   · exact absurd rfl (S.nofree _ (PySem.mem_of_lookup hy))
 · exact Nat.le_of_lt (x.above y c (PySem.mem_of_lookup h))
 · have hi:i<vs.length:=by
    unfold start at h2
    by_cases hi:i<vs.length
    · exact hi
    · rw [List.getElem?_append_right (by simpa using hi)] at h2
      rw [List.getElem?_replicate] at h2
      split at h2<;>cases h2
   have ha:vs[i]?=some v:=by
    unfold start at h2
    rw [List.getElem?_append_left (by simpa using hi),List.getElem?_map] at h2
    cases e:vs[i]? with
    | none=>rw [e] at h2;cases h2
    | some a=>rw [e] at h2;cases h2;rfl
   obtain ⟨u,hu,rv⟩:=r.get ha
   have hp:ps[i]?=some y:=by
    rw [<- S.pre,List.getElem?_take_of_lt (by omega)];exact h1
   have ndP:ps.Nodup:=by rw [<- S.pre];exact S.nd.sublist (List.take_sublist _ _)
   refine ⟨u,rv,?_⟩
   rcases S.par y (List.mem_of_getElem? hp) with k | k
   · exact .inl ⟨k,jy ndP hp hu k⟩
   · obtain ⟨c,e⟩:=lM (n:=s.heap.objs.size+1) k
     refine .inr ⟨.inl k,c,e,?_⟩
     have q:=x.cell y c e
     rw [jz ndP hp hu (by show scope.names.lookup y≠_;rw [k];decide)] at q
     exact q
 · exact e0.hok.fresh (Nat.le_of_lt (x.above y c (PySem.mem_of_lookup h)))
 · unfold start
   show _=N.length
   rw [List.length_append,List.length_map,List.length_replicate]
   omega
def zE {CX:CXT} {P:Program} {w:World} {K:PySem.W.Frag} {mg:Str->Option Value} {base:Heap} {k:Nat} {f:Addr} {name qual:Str} {params:Arguments} {body:List Stmt} {scope:Scope} {dV kV doc pm cdv ct oc:Value} {an od:Option Addr}
  {osl:Array (Option Value)} {N ps:List Str} {sp:Sp} (lk:K.lookup f=some ⟨oc,od,.func (PySem.W.fnOf name qual params body scope dV kV doc pm an cdv ct),osl⟩) (hcd:PySem.W.codeIn K cdv qual=true) (S:FnScope N ps scope)
  (len:∀ vs H Q E,sp vs H Q E->vs.length=ps.length)
  (hbody:∀ (A:Around) (outer:List Env) (s:Shared) (H:Hp) (vs:List V) (Q:VK) (E:XK),Room k (A.deeper (envOfC qual scope s.heap.objs.size f cdv))->sp vs H Q E→
   ∃ t,PSs (jn CX P w K mg base N qual scope f cdv A outer s H E) body t/\t {nx:=fun _ H'=>Q .non H',rt:=Q} (start N vs) H) :
  FnOk P w K mg base CX (k+1) f (PySem.W.fnOf name qual params body scope dV kV doc pm an cdv ct) ps sp:=by
 refine ⟨len,fun A outer s H args us vs Q E hr e0 hb r hsp=>?_⟩
 have hl:=len _ _ _ _ hsp
 have KX:K.In s.heap:=e0.mod.kin.keeps fun b o e=>(e0.bs b o e).1
 have lim:s.heap.NoLimit:=e0.mod.nolimit.keeps fun b o e=>(e0.bs b o e).1
 have hkind:∀ y∈ps.zip us,scope.names.lookup y.1=some .local∨(scope.names.lookup y.1=some .cell/\((cellsFrom (s.heap.objs.size+1) scope.names []).lookup y.1).isSome=true):=fun ⟨n,v⟩ hy=>by
  rcases S.par n (List.of_mem_zip hy).1 with q | q
  · exact .inl q
  · exact .inr ⟨q,PySem.W.cellsFrom_some _ _ _ (.inl q)⟩
 refine codeAny_call_function hr.depth (KX _ _ lk) rfl S.co S.gen rfl (PySem.W.codeRec_of KX hcd) (hb _ _ _ _ ?_)
 refine wpAny_newFunctionEnv_cells S.kind hkind fun env he s1 x=>?_
 subst he
 refine ⟨lim.keeps x.toInCall.keep,codeAny_func ?_⟩
 obtain ⟨t,ht,hq⟩:=hbody A outer s H vs Q E (hr.deeper _) hsp
 have I:Inv (jn CX P w K mg base N qual scope f cdv A outer s H E) [] (start N vs) H s1:=p0 S hr.hd e0 hl r x
 refine wpAny_mono (ht [] s1 (start N vs) H _ I hq) (fun fl s' hs=>?_) fun e s' hs=>hs
 have fin:∀ {σ':St} {H':Hp} {v:V} {u:Value},Inv (jn CX P w K mg base N qual scope f cdv A outer s H E) [] σ' H' s'->RelV v u->Q v H'->CE outer P w H s Q u s':=
  fun {σ' H' v u} J rv q=>⟨v,H',J.os,J.bare,J.base,J.hok,rv,q⟩
 cases fl with
 | ret u =>
  obtain ⟨v,σ',H',J,rv,q⟩:=hs
  exact fin J rv q
 | next =>
  obtain ⟨σ',H',J,q⟩:=hs
  exact fin (v:=V.non) (u:=Value.none) J rfl q
 | brk =>
  obtain ⟨_,_,_,q⟩:=hs
  exact False.elim q
 | cont =>
  obtain ⟨_,_,_,q⟩:=hs
  exact False.elim q
section
variable {X:Cx} {x:Str} {p pos:Pos} {e:Expr} {es:List Expr} {t:TA} {id T:String} {r:List V->Hp->VK->Prop}
def tCB (r:List V->Hp->VK->Prop) (t:TA):TE:=fun σ H Q=>t σ H fun vs H1=>r vs H1 Q
def ra (hc:b7 X (.builtin id) r) (hg:Gl X x) (hm:X.mg x=none) (hv:bootBuiltins x=some (.builtin id)) (ha:PA X (e::es) t) (hn:x≠"__name__":=by decide) (hdb:(x==("__debug__":Str))=false:=by decide)
  (he:starEach (e::es) X.env=(false,eval e X.env)::starEach es X.env:=by rfl) (hpl:(backTo pos (starEach es X.env)).any (·.1)=false:=by rfl):PE X (.Call (.Name x p) (e::es) [] pos) (tCB r t):=by
 intro pins s σ H Q I h
 refine wpAny_Call_Name_kw (gx I hg hm hv ?_ hn hdb)
 exact PyProof.Rows.callWith_builtin1 (thn (ha pos pins s σ H _ I h) fun us s1 ⟨vs,H1,I1,r1,q1⟩=>hc pins s1 σ H1 vs us Q I1 r1 q1) he hpl
def p4 (hc:b7 X (.type T) r) (hg:Gl X x) (hm:X.mg x=none) (hv:bootBuiltins x=some (.type T)) (ha:PA X (e::es) t) (hn:x≠"__name__":=by decide) (hdb:(x==("__debug__":Str))=false:=by decide)
  (he:starEach (e::es) X.env=(false,eval e X.env)::starEach es X.env:=by rfl) (hpl:(backTo pos (starEach es X.env)).any (·.1)=false:=by rfl):PE X (.Call (.Name x p) (e::es) [] pos) (tCB r t):=by
 intro pins s σ H Q I h
 refine wpAny_Call_Name_kw (gx I hg hm hv ?_ hn hdb)
 exact PyProof.Rows.callWith_type1 (thn (ha pos pins s σ H _ I h) fun us s1 ⟨vs,H1,I1,r1,q1⟩=>hc pins s1 σ H1 vs us Q I1 r1 q1) he hpl
end
end L2
namespace HT
open PySem PyProof.Rows
section
open PySem.SeqAt
open PySem.AutoSeq1 (wpAny_loadPart')
open PySem.MeetsSeq PySem.MeetsSeq2 PySem.MeetsSeq3
end
section
variable {prog:Program} {w:World} {A:Around} {E:Value->Shared->Prop} {s:Shared}
def Aw {t b:Addr} {vs ws:List Value} {Q:Value->Shared->Prop} (ht:IsTup s.heap t vs.toArray) (hb:IsTup s.heap b ws.toArray) (hv:vs≠[])
  (h1:ws=[]->Q (.ref t) s) (h2:ws≠[]->Q (.ref s.heap.objs.size) {s with heap:=s.heap.push {cls:=.type "tuple",data:=.seq (vs++ws).toArray}})
  (hsz:vs.length+ws.length<=sizeLine):wpAny (model prog w) A (binaryOp .Add (.ref t) (.ref b)) Q E s:=by
 obtain ⟨⟨cls,dd,data,sl⟩,ho,hc,n,hd⟩:=id ht
 obtain ⟨⟨cls2,dd2,data2,sl2⟩,ho2,hc2,n2,hd2⟩:=id hb
 simp only at hc hd hc2 hd2
 subst hc hd hc2 hd2
 have e:vs.toArray++ws.toArray=(vs++ws).toArray:=by simp
 by_cases hw:ws=[]
 · exact concat_meets ⟨_,ho,rfl⟩ ⟨_,ho2,rfl⟩ noFill_tuple_add seq_tuple_add PySem.F.slot_tuple_add PySem.F.entry_tuple_add (PySem.F.args_tuple_add_2 _ _)
    (tuple_addW1 t b vs.toArray ws.toArray n n2 dd dd2 sl sl2 (by simpa using hv) (by simp [hw])) ⟨ho,ho2,h1 hw⟩
 · refine concat_meets ⟨_,ho,rfl⟩ ⟨_,ho2,rfl⟩ noFill_tuple_add seq_tuple_add PySem.F.slot_tuple_add PySem.F.entry_tuple_add (PySem.F.args_tuple_add_2 _ _)
    (tuple_addW2 t b vs.toArray ws.toArray n n2 dd dd2 sl sl2 (by simpa using hv) (by simpa using hw) (by rw [List.size_toArray,List.size_toArray];exact hsz)) ⟨ho,ho2,?_⟩
   rw [e]
   exact h2 hw
def sIx (n d:Nat):Option Int->Nat
 | none=>d
 | some v=>if v<0 then (v+(n:Int)).toNat else min v.toNat n
def xu (n d:Nat) (hd:d<=n) (o:Option Int):sIx n d o<=n:=by
 cases o with
 | none=>exact hd
 | some v =>
  show (if v<0 then (v+(n:Int)).toNat else min v.toNat n)<=n
  by_cases hv:v<0
  · rw [if_pos hv];omega
  · rw [if_neg hv];exact Nat.min_le_right _ _
def oJ (v:Int) (n d:Nat):(if v<0 then max (v+(n:Int)) 0 else min v (n:Int))=((sIx n d (some v):Nat):Int):=by
 show (if v<0 then max (v+(n:Int)) 0 else min v (n:Int))=(((if v<0 then (v+(n:Int)).toNat else min v.toNat n):Nat):Int)
 by_cases hv:v<0
 · simp only [if_pos hv];omega
 · simp only [if_neg hv];omega
def nA (lo hi:Option Int) (n:Nat):Builtin.Slice.sliceAdjust lo hi 1 (n:Int)=(((sIx n 0 lo:Nat):Int),((sIx n n hi:Nat):Int)):=by
 have h1:¬ ((1:Int)<0):=by omega
 unfold Builtin.Slice.sliceAdjust
 simp only [h1,if_false]
 refine Prod.ext ?_ ?_
 · cases lo with
   | none=>rfl
   | some v=>exact oJ v n 0
 · cases hi with
   | none=>rfl
   | some v=>exact oJ v n n
def nB (i j:Nat):Builtin.Slice.slicePlaces (i:Int) (j:Int) 1=j-i:=by
 unfold Builtin.Slice.slicePlaces
 have h1:(1:Int) > 0:=by omega
 simp only [h1,if_true,Int.ediv_one]
 split<;>omega
def ix {v:Value} {o:Option Int} {Q:Option Int->Shared->Prop} (p:IsPart v o) (h:Q o s):wpAny (model prog w) A (Builtin.Slice.slicePartIndex v) Q E s:=by
 cases p with
 | none=>exact slicePart_none h
 | int i t=>exact slicePart_int h
def gB {sl:Addr} {vl vu:Value} {lo hi:Option Int} {n:Nat} {Q:Int×Int×Nat->Shared->Prop} (hs:s.heap.IsSliceOf sl vl vu .none) (pl:IsPart vl lo) (pu:IsPart vu hi)
  (h:Q (((sIx n 0 lo:Nat):Int),1,sIx n n hi-sIx n 0 lo) s):wpAny (model prog w) A (Builtin.Slice.sliceApplied (.ref sl) (pure (n:Int))) Q E s:=by
 obtain ⟨os,hos,hcs,hds⟩:=id hs
 unfold Builtin.Slice.sliceApplied Builtin.Slice.sliceFields
 refine wB (wB (wpAny_field hos hds (x:=vl) rfl (wB (wpAny_field hos hds (x:=vu) rfl (wB (wpAny_field hos hds (x:=.none) rfl (wpAny_pure ?_)))))))
 refine wB (slicePart_none ?_)
 show wpAny _ _ (if ((1:Int)==0)=true then _ else _) _ _ s
 rw [if_neg (by decide)]
 refine wB (ix pl (wB (ix pu (wB (wpAny_pure ?_)))))
 show wpAny _ _ (match Builtin.Slice.sliceAdjust lo hi 1 (n:Int) with | (lo,hi)=>pure (lo,(1:Int),Builtin.Slice.slicePlaces lo hi 1)) _ _ s
 rw [nA lo hi n]
 show wpAny _ _ (pure (((sIx n 0 lo:Nat):Int),(1:Int),Builtin.Slice.slicePlaces ((sIx n 0 lo:Nat):Int) ((sIx n n hi:Nat):Int) 1)) _ _ s
 rw [nB]
 exact wpAny_pure h
def rb (xs:Array Value) (i k:Nat):((List.range k).filterMap fun (m:Nat)=>xs[((i:Int)+(m:Int)*1).toNat]?).toArray=((xs.toList.drop i).take k).toArray:=by
 have e:(fun (m:Nat)=>xs[((i:Int)+(m:Int)*1).toNat]?)=fun m=>xs[i+m]?:=by
  funext m
  have:((i:Int)+(m:Int)*1).toNat=i+m:=by omega
  rw [this]
 rw [e]
 have:=pick_run xs i k
 rw [List.filterMap_map] at this
 have e2:((fun x=>xs[x]?) ∘ fun x=>i+x)=fun m=>xs[i+m]?:=rfl
 rw [e2] at this
 rw [this]
def oK {t sl:Addr} {items:Array Value} {vl vu:Value} {lo hi:Option Int} {Q:Value->Shared->Prop} (ht:IsTup s.heap t items) (hs:s.heap.IsSliceOf sl vl vu .none) (pl:IsPart vl lo) (pu:IsPart vu hi)
  (hw:¬ (sIx items.size 0 lo=0/\sIx items.size items.size hi=items.size))
  (h:Q (.ref s.heap.objs.size) {s with heap:=s.heap.push {cls:=.type "tuple",data:=.seq ((items.toList.drop (sIx items.size 0 lo)).take (sIx items.size items.size hi-sIx items.size 0 lo)).toArray}})
  (hsz:items.size<=sizeLine):wpAny (model prog w) A (getItem (.ref t) (.ref sl)) Q E s:=by
 have htake:sizeOk (.seq ((items.toList.drop (sIx items.size 0 lo)).take (sIx items.size items.size hi-sIx items.size 0 lo)).toArray):=by
  show ((items.toList.drop (sIx items.size 0 lo)).take (sIx items.size items.size hi-sIx items.size 0 lo)).toArray.size<=sizeLine
  rw [List.size_toArray,List.length_take,List.length_drop,Array.length_toList]
  omega
 have hj:sIx items.size items.size hi<=items.size:=xu _ _ (nL _) hi
 obtain ⟨os,hos,hcs,hds⟩:=id hs
 have hTs:s.TypeIs (.ref sl) "slice":=⟨os,hos,hcs⟩
 unfold getItem
 try with_reducible refine wpAny_holding ?_
 first | refine wB (wpAny_pure ?_) | skip
 refine wB (wpAny_sequenceKey ht.typeIs (by decide) ?_)
 refine wB (wpAny_callSpecial?_slot (name:=Str.ofString "__getitem__") ht.typeIs PyProof.Rows.slot_tuple_getitem
  (wpAny_call_entry PyProof.Rows.slot_tuple_getitem ht.typeIs entry_tuple_getitem ?_ (args_tuple_getitem _ _)))
 show wpAny _ _ (Builtin.Tuple.tupleItemsOf (.ref t) >>= _) _ _ s
 refine wB (tupleItemsOf_ ht ?_)
 refine wB (wpAny_typeOf hTs ?_)
 rw [if_pos (by decide)]
 refine wB (gB hs pl pu ?_)
 have hno:¬ ((((sIx items.size 0 lo:Nat):Int)==0&&(1:Int)==1&&(sIx items.size items.size hi-sIx items.size 0 lo)==items.size)=true):=by
  intro q
  rw [Bool.and_eq_true,Bool.and_eq_true] at q
  have q1:((sIx items.size 0 lo:Nat):Int)=0:=eq_of_beq q.1.1
  have q2:sIx items.size items.size hi-sIx items.size 0 lo=items.size:=eq_of_beq q.2
  exact hw ⟨by omega,by omega⟩
 show wpAny _ _ (if (((sIx items.size 0 lo:Nat):Int)==0&&(1:Int)==1&&(sIx items.size items.size hi-sIx items.size 0 lo)==items.size)=true then _ else _) _ _ s
 rw [if_neg hno,rb]
 first
  | exact wB (m:=Builtin.Tuple.tupleExact _) (wpAny_newObj_type (wpAny_pure ⟨_,rfl,wpAny_pure h⟩) htake)
  | exact wB (m:=Builtin.Tuple.tupleExact _) (wpAny_newObj_type (wB (wpAny_pure (wpAny_pure ⟨_,rfl,wpAny_pure h⟩))) htake)
  | exact wB (wB (m:=Builtin.Tuple.tupleExact _) (wpAny_newObj_type (wpAny_pure (wpAny_pure ⟨_,rfl,wpAny_pure h⟩)) htake))
  | exact wB (wB (m:=Builtin.Tuple.tupleExact _) (wpAny_newObj_type (wpAny_pure ⟨_,rfl,wpAny_pure h⟩) htake))
end
end HT
namespace L2
open PySem PySem.Spec PyProof.Rows
abbrev TO:=St->Hp->(Option Int->Hp->Prop)->Prop
noncomputable def PO (X:Cx) (e:Option Expr) (t:TO):Prop:=
 ∀ (pins:List (Addr×Obj)) (s:Shared) (σ:St) (H:Hp) (Q:Option Int->Hp->Prop),Inv X pins σ H s->t σ H Q→
  wpAny (model X.prog X.w) X.A (evalPart e X.env) (fun u s'=>∃ o H',Inv X pins σ H' s'/\IsPart u o/\Q o H') X.xe s
def ud:TO:=fun _ H Q=>Q none H
def zF (t:TE):TO:=fun σ H Q=>t σ H fun x H1=>∃ i,x=.int i/\Q (some i) H1
section
variable {X:Cx} {e:Expr} {te:TE} {lo hi:Option Expr} {tl th:TO} {pos p2:Pos}
def ue:PO X none ud:=by
 intro pins s σ H Q I h
 rw [evalPart_none]
 exact wpAny_pure ⟨none,H,I,.none,h⟩
def uf (h:PE X e te):PO X (some e) (zF te):=by
 intro pins s σ H Q I hw
 rw [evalPart_some]
 refine thn (h pins s σ H _ I hw) fun u s1 ⟨x,H1,I1,r1,q1⟩=>?_
 obtain ⟨i,rfl,q⟩:=q1
 obtain ⟨t,rfl⟩:=r1
 exact ⟨some i,H1,I1,.int i t,q⟩
noncomputable def SlR (X:Cx) (r:V->Option Int->Option Int->Hp->VK->Prop):Prop:=
 ∀ (pins:List (Addr×Obj)) (s:Shared) (σ:St) (H:Hp) (x:V) (v vl vu:Value) (lo hi:Option Int) (sl:Addr) (Q:VK),Inv X pins σ H s->RelV x v->s.heap.IsSliceOf sl vl vu .none->IsPart vl lo->IsPart vu hi->r x lo hi H Q→
  ∃ T id,typeLookup (.type T) "__getitem__"=pure (some (.builtin id))/\s.TypeIs v T/\wpAny (model X.prog X.w) X.A (getItem v (.ref sl)) (EP X pins σ Q) X.xe s
def SlR.or {r r':V->Option Int->Option Int->Hp->VK->Prop} (h:SlR X r) (h':SlR X r'):SlR X (fun x lo hi H Q=>r x lo hi H Q∨r' x lo hi H Q):=by
 intro pins s σ H x v vl vu lo hi sl Q I rx hs pl pu q
 rcases q with q | q
 · exact h pins s σ H x v vl vu lo hi sl Q I rx hs pl pu q
 · exact h' pins s σ H x v vl vu lo hi sl Q I rx hs pl pu q
def tSl (r:V->Option Int->Option Int->Hp->VK->Prop) (te:TE) (tl th:TO):TE:=fun σ H Q=>te σ H fun x H1=>tl σ H1 fun l H2=>th σ H2 fun u H3=>r x l u H3 Q
def rc {r:V->Option Int->Option Int->Hp->VK->Prop} (hr:SlR X r) (he:PE X e te) (hl:PO X lo tl) (hu:PO X hi th):PE X (.Subscript e (.Slice lo hi none p2) pos) (tSl r te tl th):=by
 intro pins s σ H Q I h
 refine Subscript_ (thn (he pins s σ H _ I h) fun v s1 ⟨x,H1,I1,r1,q1⟩=>?_)
 refine wpAny_Slice (thn (hl pins s1 σ H1 _ I1 q1) fun vl s2 ⟨l,H2,I2,pl,q2⟩=>thn (hu pins s2 σ H2 _ I2 q2) fun vu s3 ⟨u,H3,I3,pu,q3⟩=>?_)
 rw [evalPart_none]
 refine wpAny_pure ?_
 have I4:Inv X pins σ H3 {s3 with heap:=s3.heap.push {cls:=.type "slice",data:=.fields #[vl,vu,.none]}}:=I3.kept (t':=s3.toks) fun b ob q=>gP _ q
 obtain ⟨T,id,hT,ht,hg⟩:=hr pins {s3 with heap:=s3.heap.push {cls:=.type "slice",data:=.fields #[vl,vu,.none]}} σ H3 x v vl vu l u s3.heap.objs.size Q I4 r1 (Heap.IsSliceOf.new ..) pl pu q3
 show wpAny (model X.prog X.w) X.A (subscriptTail e (.Slice lo hi none p2) v (.ref s3.heap.objs.size)) (EP X pins σ Q) X.xe {s3 with heap:=s3.heap.push {cls:=.type "slice",data:=.fields #[vl,vu,.none]}}
 exact tail_any (ops:=[.ref s3.heap.objs.size,v]) ht hT hg (by with_unfolding_all rfl)
def lN (xs:List V) (lo hi:Option Int):List V:=(xs.drop (HT.sIx xs.length 0 lo)).take (HT.sIx xs.length xs.length hi-HT.sIx xs.length 0 lo)
def g4 (xs:List V) (lo hi:Option Int):(lN xs lo hi).length<=xs.length:=by
 unfold lN
 rw [List.length_take,List.length_drop]
 omega
noncomputable def rSlT (K:PySem.W.Frag):V->Option Int->Option Int->Hp->VK->Prop:=fun x lo hi H Q=>∃ a xs,x=.ref a/\SqT K H a xs∧
 ¬ (HT.sIx xs.length 0 lo=0/\HT.sIx xs.length xs.length hi=xs.length)/\∀ p,H p=none->Q (.ref p) (upd H p (.tup (lN xs lo hi)))
def xv:SlR X (rSlT X.K):=by
 intro pins s σ H x v vl vu lo hi sl Q I rx hs pl pu h
 obtain ⟨a,xs,rfl,hx,hw,q⟩:=h
 cases rx
 obtain ⟨its,r,ht,hz⟩:=I.tuple hx
 have hlen:its.toArray.size=xs.length:=by rw [List.size_toArray];exact r.length.symm
 refine ⟨"tuple",_,PyProof.Rows.slot_tuple_getitem.lookup,ht.typeIs,?_⟩
 refine HT.oK ht hs pl pu (by rw [hlen];exact hw) ?_ (by rw [hlen];exact hz)
 rw [hlen]
 refine ⟨.ref s.heap.objs.size,_,I.laid (t':=s.toks) (o:=.tup (lN xs lo hi)) (fun b ob q=>gP _ q) (nL _) ?_,rfl,q _ (I.hok.fresh (nL _))⟩
 exact ⟨Nat.le_trans (g4 xs lo hi) hz,_,(r.drop (HT.sIx xs.length 0 lo)).take (HT.sIx xs.length xs.length hi-HT.sIx xs.length 0 lo),IsTup.new _ _⟩
noncomputable def vZ (K:PySem.W.Frag):R2:=fun x y H Q=>∃ a b xs ys,x=.ref a/\y=.ref b/\SqT K H a xs/\SqT K H b ys/\xs≠[]/\xs.length+ys.length<=sizeLine∧
 (ys=[]->Q (.ref a) H)/\(ys≠[]->∀ p,H p=none->Q (.ref p) (upd H p (.tup (xs++ys))))
def Vals.nil_iff {xs:List V} {us:List Value} (r:Vals xs us):us=[]↔xs=[]:=by
 cases r with
 | nil=>simp
 | cons _ _=>simp
def ug:OpR X (binaryOp .Add) (vZ X.K):=by
 intro pins s σ H x y v u Q I rx ry h
 obtain ⟨a,b,xs,ys,rfl,rfl,ha,hb,hx,hz,q1,q2⟩:=h
 cases rx
 cases ry
 obtain ⟨its,r1,p1,_⟩:=I.tuple ha
 obtain ⟨its2,r2,p2,_⟩:=I.tuple hb
 refine HT.Aw p1 p2 (fun z=>hx (r1.nil_iff.mp z)) (fun z=>⟨.ref a,H,I,rfl,q1 (r2.nil_iff.mp z)⟩) (fun z=>?_) (by rw [<- r1.length,<- r2.length];exact hz)
 refine ⟨.ref s.heap.objs.size,_,I.laid (t':=s.toks) (o:=.tup (xs++ys)) (fun b ob q=>gP _ q) (nL _) ?_,rfl,q2 (fun w=>z (r2.nil_iff.mpr w)) _ (I.hok.fresh (nL _))⟩
 exact ⟨by rw [List.length_append];exact hz,_,r1.append r2,IsTup.new _ _⟩
end
def ixN (n:Nat) (i:Int):Option Nat:=if 0<=i then (if i<n then some i.toNat else none) else if -(n:Int)<=i then some (i+n).toNat else none
def atI {α:Type} (xs:List α) (i:Int):Option α:=(ixN xs.length i).bind fun j=>xs[j]?
def oM {n:Nat} {i:Int} {j:Nat} (h:ixN n i=some j):seqIndex? i n=some j/\j<n/\-(n:Int)<=i/\i<n:=by
 unfold ixN at h
 by_cases h0:0<=i
 · rw [if_pos h0] at h
   by_cases h1:i<n
   · rw [if_pos h1] at h
     have e:i.toNat=j:=Option.some.inj h
     exact ⟨by rw [seqIndex_of h0 h1,e],by omega,by omega,h1⟩
   · rw [if_neg h1] at h;cases h
 · rw [if_neg h0] at h
   by_cases h1:-(n:Int)<=i
   · rw [if_pos h1] at h
     have e:(i+n).toNat=j:=Option.some.inj h
     exact ⟨by rw [seqIndex_neg (by omega) h1,e],by omega,h1,by omega⟩
   · rw [if_neg h1] at h;cases h
def kr {α:Type} {xs:List α} {i:Int} {v:α} (h:atI xs i=some v):∃ j,seqIndex? i xs.length=some j/\xs[j]?=some v/\j<xs.length/\-(xs.length:Int)<=i/\i<xs.length:=by
 unfold atI at h
 cases e:ixN xs.length i with
 | none=>rw [e] at h;cases h
 | some j =>
  rw [e] at h
  obtain ⟨h1,h2,h3,h4⟩:=oM e
  exact ⟨j,h1,h,h2,h3,h4⟩
def uh {α:Type} {xs:List α} {j:Nat} {v:α} (h:xs[j]?=some v):atI xs (j:Int)=some v:=by
 have hj:j<xs.length:=(gX h).1
 have e:ixN xs.length (j:Int)=some j:=by
  unfold ixN
  rw [if_pos (by omega),if_pos (by omega)];simp
 unfold atI;rw [e];exact h
def kt (b:Expr):Prop:=∀ o i,subscripted b false o i=operate [o,i] (getItem o i)
noncomputable def IxR (X:Cx) (r:R2):Prop:=
 ∀ (value slice:Expr) (pins:List (Addr×Obj)) (s:Shared) (σ:St) (H:Hp) (x y:V) (v u:Value) (Q:VK),Inv X pins σ H s->RelV x v->RelV y u->r x y H Q→
  subscripted slice false v u=operate [v,u] (getItem v u)->wpAny (model X.prog X.w) X.A (subscriptTail value slice v u) (EP X pins σ Q) X.xe s
noncomputable def MtR (X:Cx) (id:String) (r:V->List V->Hp->VK->Prop):Prop:=
 ∀ (pins:List (Addr×Obj)) (s:Shared) (σ:St) (H:Hp) (x:V) (xs:List V) (v:Value) (us:List Value) (Q:VK),Inv X pins σ H s->RelV x v->Vals xs us->r x xs H Q→
  wpAny (model X.prog X.w) X.A (call (.builtin id) (v::us)) (EP X pins σ Q) X.xe s
section
variable {X:Cx} {a b:Expr} {ta tb:TE} {pos:Pos}
def IxR.or {r r':R2} (h:IxR X r) (h':IxR X r'):IxR X (fun x y H Q=>r x y H Q∨r' x y H Q):=by
 intro value slice pins s σ H x y v u Q I rx ry q hs
 rcases q with q | q
 · exact h value slice pins s σ H x y v u Q I rx ry q hs
 · exact h' value slice pins s σ H x y v u Q I rx ry q hs
def v0 {r:R2} (hr:IxR X r) (ha:PE X a ta) (hb:PE X b tb) (hs:kt b):PE X (.Subscript a b pos) (tOp r ta tb):=by
 intro pins s σ H Q I h
 exact Subscript_ (xj ha hb I h fun v u s2 x y H2 I2 rx ry q=>hr a b pins s2 σ H2 x y v u Q I2 rx ry q (hs _ _))
def rIxL (K:PySem.W.Frag):R2:=fun x y H Q=>∃ p xs i v,x=.ref p/\y=.int i/\SqL K H p xs/\atI xs i=some v/\Q v H
def rIxT (K:PySem.W.Frag):R2:=fun x y H Q=>∃ p xs i v,x=.ref p/\y=.int i/\SqT K H p xs/\atI xs i=some v/\Q v H
def rIxS:R2:=fun x y H Q=>∃ z i c,x=.str z/\y=.int i/\z.length<=sizeLine/\atI z.cps.toList i=some c/\Q (.str ⟨#[c]⟩) H
def ix_list:IxR X (rIxL X.K):=by
 intro value slice pins s σ H x y v u Q I rx ry h hs
 obtain ⟨p,xs,i,z,rfl,rfl,hq,he,q⟩:=h
 cases rx
 obtain ⟨t,rfl⟩:=ry
 obtain ⟨its,r,pl,hz⟩:=I.list hq
 obtain ⟨j,h1,h2,h3,h4,h5⟩:=kr he
 obtain ⟨w,ew,rw'⟩:=r.get h2
 have hl:=r.length
 have hn:=gA
 have fin:EP X pins σ Q w s:=⟨z,H,I,rw',q⟩
 by_cases h0:0<=i
 · have hj:i.toNat=j:=by
    rw [seqIndex_of h0 h5] at h1
    exact Option.some.inj h1
   exact item_listR pl.isList h0 (by omega) (by rw [hj];simpa using ew) fin hs
 · have hj:(i+(its.toArray.size:Int)).toNat=j:=by
    rw [seqIndex_neg (by omega) h4] at h1
    rw [List.size_toArray,<- hl]
    exact Option.some.inj h1
   exact subscriptTail_builtinR (x:=w) pl.isList.typeIs slot_list_getitem.lookup
    (wpAny_getItem_list_neg (Q:=fun r s'=>r=w/\EP X pins σ Q r s') pl.isList (by omega) (by rw [List.size_toArray]<;>omega) (by omega) (by rw [hj];simpa using ew) ⟨rfl,fin⟩) hs
def ix_tup:IxR X (rIxT X.K):=by
 intro value slice pins s σ H x y v u Q I rx ry h hs
 obtain ⟨p,xs,i,z,rfl,rfl,hq,he,q⟩:=h
 cases rx
 obtain ⟨t,rfl⟩:=ry
 obtain ⟨its,r,pl,hz⟩:=I.tuple hq
 obtain ⟨j,h1,h2,h3,h4,h5⟩:=kr he
 obtain ⟨w,ew,rw'⟩:=r.get h2
 have hl:=r.length
 have hn:=gA
 have fin:EP X pins σ Q w s:=⟨z,H,I,rw',q⟩
 exact subscriptTail_builtinR (x:=w) pl.typeIs slot_tuple_getitem.lookup
  (getItem_tuple (j:=j) (Q:=fun r s'=>r=w/\EP X pins σ Q r s') pl (by omega) (by omega) (by rw [List.size_toArray,<- hl];exact h1) (by simpa using ew) ⟨rfl,fin⟩) hs
def xw:IxR X rIxS:=by
 intro value slice pins s σ H x y v u Q I rx ry h hs
 obtain ⟨z,i,c,rfl,rfl,hz,he,q⟩:=h
 obtain ⟨t,rfl⟩:=rx
 obtain ⟨t',rfl⟩:=ry
 obtain ⟨j,h1,h2,h3,h4,h5⟩:=kr he
 have hl:z.cps.toList.length=z.length:=by simp [Str.length]
 rw [hl] at h1 h4 h5
 have hn:=gA
 exact tail_any (typeIs_str s z t) slot_str_getitem.lookup (getItem_str (c:=c) (by
  have e1:decide (i < -(2^63:Int))=false:=decide_eq_false (by omega)
  have e2:decide (i ≥ 2^63)=false:=decide_eq_false (by omega)
  rw [e1,e2,Bool.or_false]) (by rw [h1];simpa using h2) ⟨.str ⟨#[c]⟩,H,I.tok _,⟨_,rfl⟩,q⟩) hs
def rIx (K:PySem.W.Frag):R2:=fun x y H Q=>rIxL K x y H Q∨rIxT K x y H Q∨rIxS x y H Q
def rf:IxR X (rIx X.K):=ix_list.or (ix_tup.or xw)
def nC (its:List Value) (n j:Nat) (u:Value):Obj.mapSeq (·.setIfInBounds j u) {cls:=.type "list",data:=.seq its.toArray n}={cls:=.type "list",data:=.seq (its.set j u).toArray n}:=by
 simp [Obj.mapSeq]
def Inv.lst {pins:List (Addr×Obj)} {σ:St} {H:Hp} {s:Shared} {p:Addr} {xs:List V} (I:Inv X pins σ H s) (h:H p=some (.lst xs)) :
  ∃ (its:List Value) (n:Nat),Vals xs its/\s.heap.get? p=some {cls:=.type "list",data:=.seq its.toArray n}/\xs.length<=sizeLine:=by
 obtain ⟨z,its,n,r,e⟩:=I.hok p _ h
 exact ⟨its,n,r,e,z⟩
def Inv.lstUpd {pins:List (Addr×Obj)} {σ:St} {H:Hp} {s:Shared} {p:Addr} {xs ys:List V} {its its':List Value} {n n':Nat} {f:Obj->Obj} (I:Inv X pins σ H s) (h:H p=some (.lst xs))
  (ho:s.heap.get? p=some {cls:=.type "list",data:=.seq its.toArray n}) (hf:f {cls:=.type "list",data:=.seq its.toArray n}={cls:=.type "list",data:=.seq its'.toArray n'}) (r:Vals ys its') (hz:ys.length<=sizeLine) (t:Nat) :
  Inv X pins σ (upd H p (.lst ys)) {s with heap:=s.heap.update p f,toks:=t}:=by
 have e:(s.heap.update p f).get? p=some {cls:=.type "list",data:=.seq its'.toArray n'}:=by
  rw [Heap.get?_update_self f ho (by rw [hf]<;>rfl),hf]
 refine I.write (x:=p) (e:=p) (by rw [h];trivial) (.inl rfl) (fun b u hb q=>(Heap.get?_update_other _ _ (Ne.symm hb)).trans q) ⟨_,e⟩ ?_
 exact ⟨hz,its',n',r,e⟩
def zG:V->V->V->Hp->(Hp->Prop)->Prop:=fun o i v H Q=>∃ p xs k j,o=.ref p/\i=.int k/\H p=some (.lst xs)/\ixN xs.length k=some j/\Q (upd H p (.lst (xs.set j v)))
def lO:PSet X zG:=by
 intro pins s σ H o i v ov iv u Q I ro ri rv h
 obtain ⟨p,xs,k,j,rfl,rfl,hp,hj,q⟩:=h
 cases ro
 obtain ⟨t,rfl⟩:=ri
 obtain ⟨its,n,r,ho,hz⟩:=I.lst hp
 obtain ⟨h1,h2,h3,h4⟩:=oM hj
 have hl:=r.length
 have hn:=gA
 have I':Inv X pins σ (upd H p (.lst (xs.set j v))) {s with heap:=s.heap.update p (Obj.mapSeq (·.setIfInBounds j u))}:=
  I.lstUpd hp ho (nC its n j u) (r.set rv j) (by rw [List.length_set];exact hz) s.toks
 by_cases h0:0<=k
 · have hk:k.toNat=j:=by
    rw [seqIndex_of h0 h4] at h1
    exact Option.some.inj h1
   exact PySem.W.ki_setAt ho h0 (by omega) (by rw [List.size_toArray,<- hl];exact h4) (by rw [hk];exact ⟨_,I',q⟩)
 · have hk:(k+(its.toArray.size:Int)).toNat=j:=by
    rw [seqIndex_neg (by omega) h3] at h1
    rw [List.size_toArray,<- hl]
    exact Option.some.inj h1
   exact PySem.W.ki_setBack ho (by omega) (by rw [List.size_toArray,<- hl];exact h3) (by omega) (by rw [hk];exact ⟨_,I',q⟩)
def ku (lo hi:Option Int) (n:Nat):(sliceBounds lo hi none n).1=((HT.sIx n 0 lo:Nat):Int)/\(sliceBounds lo hi none n).2.1=((HT.sIx n n hi:Nat):Int)/\(sliceBounds lo hi none n).2.2=1:=by
 refine ⟨?_,?_,rfl⟩
 · cases lo with
   | none=>simp [sliceBounds,HT.sIx]
   | some i =>
    simp only [sliceBounds,HT.sIx,Option.getD_none,show (1:Int) > 0 by decide,if_true]
    by_cases h:i<0
    · simp only [h,if_true]<;>omega
    · simp only [h,if_false]<;>omega
 · cases hi with
   | none=>simp [sliceBounds,HT.sIx]
   | some i =>
    simp only [sliceBounds,HT.sIx,Option.getD_none,show (1:Int) > 0 by decide,if_true]
    by_cases h:i<0
    · simp only [h,if_true]<;>omega
    · simp only [h,if_false]<;>omega
def jo (its:List Value) (lo hi:Option Int):slicePick its.toArray lo hi none=((its.drop (HT.sIx its.length 0 lo)).take (HT.sIx its.length its.length hi-HT.sIx its.length 0 lo)).toArray:=by
 obtain ⟨h1,h2,h3⟩:=ku lo hi its.toArray.size
 unfold slicePick
 rw [h1,h2,h3]
 simp only [sliceRange_one,pick_run,List.size_toArray]<;>rfl
def rSlL (K:PySem.W.Frag):V->Option Int->Option Int->Hp->VK->Prop:=fun x lo hi H Q=>∃ a xs,x=.ref a/\SqL K H a xs/\∀ p,H p=none->Q (.ref p) (upd H p (.lst (lN xs lo hi)))
def ui:SlR X (rSlL X.K):=by
 intro pins s σ H x v vl vu lo hi sl Q I rx hs pl pu h
 obtain ⟨a,xs,rfl,hx,q⟩:=h
 cases rx
 obtain ⟨its,r,ht,hz⟩:=I.list hx
 have hlen:=r.length
 refine ⟨"list",_,slot_list_getitem.lookup,ht.isList.typeIs,?_⟩
 refine wpAny_getItem_list_slice ht.isList hs pl pu .none (by simp) ?_ (by rw [List.size_toArray]<;>omega)
 rw [jo,<- hlen]
 refine ⟨.ref s.heap.objs.size,_,I.laid (t':=s.toks) (o:=.lst (lN xs lo hi)) (fun b ob q=>gP _ q) (nL _) ?_,rfl,q _ (I.hok.fresh (nL _))⟩
 exact ⟨Nat.le_trans (g4 xs lo hi) hz,_,0,(r.drop (HT.sIx xs.length 0 lo)).take (HT.sIx xs.length xs.length hi-HT.sIx xs.length 0 lo),Heap.get?_push_size _ rfl⟩
def eX:V->Bool
 | .non=>true
 | .bl _=>true
 | .int _=>true
 | .str _=>true
 | _=>false
def eqV:V->V->Bool
 | .non,.non=>true
 | .bl a,.bl b=>a==b
 | .bl a,.int b=>(if a then 1 else 0)==b
 | .int a,.bl b=>a==(if b then 1 else 0)
 | .int a,.int b=>a==b
 | .str a,.str b=>a==b
 | _,_=>false
def gE {A:Around} {s:Shared} {y x:V} {u v:Value} (ry:RelV y u) (rx:RelV x v) (fy:eX y=true) (fx:eX x=true):SeqAt.EqAt A s u v (eqV y x):=by
 cases y with
 | non =>
  cases ry
  cases x with
  | non=>cases rx;exact SeqAt.EqAt.same _
  | bl b=>cases rx;exact SeqAt.EqAt.none_bool b
  | int b=>obtain ⟨t,rfl⟩:=rx;exact SeqAt.EqAt.none_int b t
  | str b=>obtain ⟨t,rfl⟩:=rx;exact SeqAt.EqAt.none_str b t
  | _=>exact absurd (show false=true from fx) Bool.false_ne_true
 | bl a =>
  cases ry
  cases x with
  | non=>cases rx;exact SeqAt.EqAt.bool_none a
  | bl b=>cases rx;exact SeqAt.EqAt.bool_bool a b
  | int b=>obtain ⟨t,rfl⟩:=rx;exact SeqAt.EqAt.bool_int a b t
  | str b=>obtain ⟨t,rfl⟩:=rx;exact SeqAt.EqAt.bool_str a b t
  | _=>exact absurd (show false=true from fx) Bool.false_ne_true
 | int a =>
  obtain ⟨t',rfl⟩:=ry
  cases x with
  | non=>cases rx;exact SeqAt.EqAt.int_none a t'
  | bl b=>cases rx;exact SeqAt.EqAt.int_bool a t' b
  | int b=>obtain ⟨t,rfl⟩:=rx;exact SeqAt.EqAt.int_int a t' b t
  | str b=>obtain ⟨t,rfl⟩:=rx;exact SeqAt.EqAt.int_str a t' b t
  | _=>exact absurd (show false=true from fx) Bool.false_ne_true
 | str a =>
  obtain ⟨t',rfl⟩:=ry
  cases x with
  | non=>cases rx;exact SeqAt.EqAt.str_none a t'
  | bl b=>cases rx;exact SeqAt.EqAt.str_bool a t' b
  | int b=>obtain ⟨t,rfl⟩:=rx;exact SeqAt.EqAt.str_int a t' b t
  | str b=>obtain ⟨t,rfl⟩:=rx;exact SeqAt.EqAt.str_str a t' b t
  | _=>exact absurd (show false=true from fx) Bool.false_ne_true
 | _=>exact absurd (show false=true from fy) Bool.false_ne_true
def eqU (x:V) (u:Value):Bool:=match u with
 | .none=>eqV .non x
 | .bool b=>eqV (.bl b) x
 | .int i _=>eqV (.int i) x
 | .str z _=>eqV (.str z) x
 | _=>false
def rg {x y:V} {u:Value} (r:RelV y u) (f:eX y=true):eqU x u=eqV y x:=by
 cases y with
 | non=>cases r;rfl
 | bl b=>cases r;rfl
 | int i=>obtain ⟨t,rfl⟩:=r;rfl
 | str z=>obtain ⟨t,rfl⟩:=r;rfl
 | _=>exact absurd (show false=true from f) Bool.false_ne_true
def fK {x:V}:∀ {xs:List V} {us:List Value},Vals xs us->xs.all eX=true->us.any (eqU x)=xs.any fun y=>eqV y x
 | _,_,.nil,_=>rfl
 | y::xs,u::us,.cons r t,f=>by
  rw [List.all_cons,Bool.and_eq_true] at f
  rw [List.any_cons,List.any_cons,rg r f.1,fK t f.2]
def dX {A:Around} {s:Shared} {x:V} {v:Value} (rx:RelV x v) (fx:eX x=true):∀ {xs:List V} {us:List Value},Vals xs us->xs.all eX=true->∀ u∈us,SeqAt.EqAt A s u v (eqU x u)
 | _,_,.nil,_=>fun u hu=>by cases hu
 | y::xs,u::us,.cons r t,f=>fun u' hu=>by
  rw [List.all_cons,Bool.and_eq_true] at f
  rcases List.mem_cons.mp hu with rfl | hu
  · rw [rg r f.1];exact gE r rx f.1 fx
  · exact dX rx fx t f.2 u' hu
def inV (x:V) (xs:List V):Bool:=xs.any fun y=>eqV y x
def rIn (K:PySem.W.Frag) (neg:Bool):R2:=fun x y H Q=>∃ p xs,y=.ref p/\(SqL K H p xs∨SqT K H p xs)/\eX x=true/\xs.all eX=true/\Q (.bl (if neg then !inV x xs else inV x xs)) H
def p5:OpR X (compareOp .In) (rIn X.K false):=by
 intro pins s σ H x y v u Q I rx ry h
 obtain ⟨p,xs,rfl,hq,fx,fs,q⟩:=h
 cases ry
 rcases hq with hq | hq
 · obtain ⟨its,r,pl,hz⟩:=I.list hq
   refine SeqAt.in_listAt (eqU x) pl.isList (fun w hw=>dX rx fx r fs w (by simpa using hw)) ⟨.bl _,H,I,rfl,?_⟩
   rw [show its.toArray.any (eqU x)=its.any (eqU x) by simp,fK r fs]
   exact q
 · obtain ⟨its,r,pl,hz⟩:=I.tuple hq
   refine SeqAt.in_tupleAt (eqU x) pl (fun w hw=>dX rx fx r fs w (by simpa using hw)) ⟨.bl _,H,I,rfl,?_⟩
   rw [show its.toArray.any (eqU x)=its.any (eqU x) by simp,fK r fs]
   exact q
def kw:OpR X (compareOp .NotIn) (rIn X.K true):=by
 intro pins s σ H x y v u Q I rx ry h
 obtain ⟨p,xs,rfl,hq,fx,fs,q⟩:=h
 cases ry
 rcases hq with hq | hq
 · obtain ⟨its,r,pl,hz⟩:=I.list hq
   refine SeqAt.notIn_listAt (eqU x) pl.isList (fun w hw=>dX rx fx r fs w (by simpa using hw)) ⟨.bl _,H,I,rfl,?_⟩
   rw [show its.toArray.any (eqU x)=its.any (eqU x) by simp,fK r fs]
   exact q
 · obtain ⟨its,r,pl,hz⟩:=I.tuple hq
   refine SeqAt.notIn_tupleAt (eqU x) pl (fun w hw=>dX rx fx r fs w (by simpa using hw)) ⟨.bl _,H,I,rfl,?_⟩
   rw [show its.toArray.any (eqU x)=its.any (eqU x) by simp,fK r fs]
   exact q
def kx:OpR X (compareOp .NotIn) (fun x y H Q=>∃ i j,x=.str i/\y=.str j/\Q (.bl (!(!(Builtin.Str.occurrences j i 0 j.length 1).isEmpty))) H):=by
 intro pins s σ H x y v u Q I rx ry h
 obtain ⟨i,j,rfl,rfl,q⟩:=h
 obtain ⟨t,rfl⟩:=rx
 obtain ⟨t',rfl⟩:=ry
 exact notIn_str ⟨.bl _,H,I,rfl,q⟩
def ky:b7 X (.type "list") (fun xs H Q=>∃ p ys,xs=[.ref p]/\(SqL X.K H p ys∨SqT X.K H p ys)/\∀ l,H l=none->Q (.ref l) (upd H l (.lst ys))):=by
 intro pins s σ H xs us Q I r h
 obtain ⟨p,ys,rfl,hq,q⟩:=h
 obtain ⟨u,rfl,rx⟩:=g0 r
 cases rx
 have fin:∀ (its:List Value),Vals ys its->ys.length<=sizeLine->∀ (h':Heap) (c':Nat),(∀ b o',s.heap.get? b=some o'->h'.get? b=some o')→
     h'.get? s.heap.objs.size=some {cls:=.type "list",dict:=none,data:=.seq its.toArray c',slots:=#[]}->EP X pins σ Q (.ref s.heap.objs.size) {s with heap:=h'}:=fun its r' hz h' c' kp e =>
  ⟨.ref s.heap.objs.size,_,I.laid (t':=s.toks) kp (nL _) (show ObjOk X.prog X.w _ h' _ (.lst ys) from ⟨hz,its,c',r',e⟩),rfl,q _ (I.hok.fresh (nL _))⟩
 rcases hq with hq | hq
 · obtain ⟨its,r',pl,hz⟩:=I.list hq
   have hlen:=r'.length
   obtain ⟨o,ho,hc,n,hd⟩:=pl.isList
   exact call_list_seq p (.inl rfl) ho hc hd (fun h' c' kp e=>fin its r' hz h' c' kp e) (by simp only [List.size_toArray]<;>omega)
 · obtain ⟨its,r',pl,hz⟩:=I.tuple hq
   have hlen:=r'.length
   obtain ⟨o,ho,hc,n,hd⟩:=pl
   exact call_list_seq p (.inr rfl) ho hc hd (fun h' c' kp e=>fin its r' hz h' c' kp e) (by simp only [List.size_toArray]<;>omega)
def df:b7 X (.type "tuple") (fun xs H Q=>∃ p ys,xs=[.ref p]/\((SqL X.K H p ys/\∀ l,H l=none->Q (.ref l) (upd H l (.tup ys)))∨(SqT X.K H p ys/\Q (.ref p) H))):=by
 intro pins s σ H xs us Q I r h
 obtain ⟨p,ys,rfl,h⟩:=h
 obtain ⟨u,rfl,rx⟩:=g0 r
 cases rx
 rcases h with ⟨hq,q⟩ | ⟨hq,q⟩
 · obtain ⟨its,r',pl,hz⟩:=I.list hq
   have hlen:=r'.length
   refine call_tuple_list pl.isList (fun h' kp=>?_) (by simp only [List.size_toArray]<;>omega)
   have I1:Inv X pins σ H {s with heap:=h'}:=I.kept (t':=s.toks) kp
   have I2:Inv X pins σ (upd H h'.objs.size (.tup ys)) {s with heap:=h'.push {cls:=.type "tuple",data:=.seq its.toArray}}:=
    I1.laid (t':=s.toks) (fun b o e=>gP _ e) (nL _) (show ObjOk X.prog X.w _ _ _ (.tup ys) from ⟨hz,its,r',IsTup.new _ _⟩)
   exact ⟨.ref h'.objs.size,_,I2,rfl,q _ (I1.hok.fresh (nL _))⟩
 · obtain ⟨its,r',pl,hz⟩:=I.tuple hq
   exact call_tuple_same pl ⟨.ref p,H,I,rfl,q⟩
noncomputable def tyV (K:PySem.W.Frag) (T:String) (x:V) (H:Hp):Prop:=match x with
 | .str _=>T="str"
 | .int _=>T="int"
 | .ref p=>(T="list"/\∃ xs,SqL K H p xs)∨(T="tuple"/\∃ o,K.lookup p=some o/\o.cls=.type "tuple"/\o.dict=none)∨
     (T="dict"/\((∃ kvs,H p=some (.dK kvs))∨∃ kvs,H p=some (.dT kvs)))∨(T="set"/\∃ S n,H p=some (.set S n))
 | _=>False
def rh {pins:List (Addr×Obj)} {σ:St} {H:Hp} {s:Shared} {T:String} {x:V} {v:Value} (I:Inv X pins σ H s) (r:RelV x v) (ty:tyV X.K T x H) :
  s.TypeIs v T/\∀ a,v=.ref a->∃ ob,s.heap.get? a=some ob/\ob.dict=none:=by
 cases x with
 | str z =>
  obtain ⟨t,rfl⟩:=r
  cases (show T="str" from ty)
  exact ⟨typeIs_str s z t,fun _ e=>nomatch e⟩
 | int i =>
  obtain ⟨t,rfl⟩:=r
  cases (show T="int" from ty)
  exact ⟨typeIs_int s i t,fun _ e=>nomatch e⟩
 | ref p =>
  cases r
  rcases ty with ⟨rfl,xs,hq⟩ | ⟨rfl,o,hk,hc,hd⟩ | ⟨rfl,hk⟩ | ⟨rfl,S,n,hk⟩
  · obtain ⟨its,_,pl,_⟩:=I.list hq
    refine ⟨pl.isList.typeIs,fun a e=>?_⟩
    cases e
    obtain ⟨o,n,e,c,hd,_⟩:=pl
    exact ⟨o,e,hd⟩
  · refine ⟨⟨o,I.kIn p o hk,hc⟩,fun a e=>?_⟩
    cases e
    exact ⟨o,I.kIn _ o hk,hd⟩
  · have z:∃ o,s.heap.get? p=some o/\o.ExactDict:=by
     rcases hk with ⟨kvs,hk⟩ | ⟨kvs,hk⟩
     · obtain ⟨_,_,_,_,o,_,_,e,ex,_⟩:=I.hok p _ hk
       exact ⟨o,e,ex⟩
     · obtain ⟨_,_,_,_,o,_,_,e,ex,_⟩:=I.hok p _ hk
       exact ⟨o,e,ex⟩
    obtain ⟨o,e,ex⟩:=z
    refine ⟨⟨o,e,ex.1⟩,fun a e2=>?_⟩
    cases e2
    exact ⟨o,e,ex.2.1⟩
  · obtain ⟨o,_,_,_,e,ex,_⟩:=I.hok p _ hk
    refine ⟨⟨o,e,ex.1⟩,fun a e2=>?_⟩
    cases e2
    exact ⟨o,e,ex.2.1⟩
 | _=>exact False.elim ty
def tBM0 (K:PySem.W.Frag) (T:String) (r:V->List V->Hp->VK->Prop) (to:TE):TE:=fun σ H Q=>to σ H fun x H1=>tyV K T x H1/\r x [] H1 Q
def tBM (K:PySem.W.Frag) (T:String) (r:V->List V->Hp->VK->Prop) (to:TE) (t:TA):TE:=fun σ H Q=>to σ H fun x H1=>tyV K T x H1/\t σ H1 fun xs H2=>r x xs H2 Q
variable {o e:Expr} {es:List Expr} {to:TE} {t:TA} {name:Str} {apos cpos:Pos} {T id:String} {r:V->List V->Hp->VK->Prop}
def xx (pa:PlainAttrs T) (slot:Slot T name id) (hty:typeOf (.builtin id)=pure (.type "method_descriptor")) (hm:MtR X id r) (ho:PE X o to)
  (hbase:attributeBase o name X.env (eval o X.env)=eval o X.env:=by rfl) (hline:(apos.endLine==cpos.line)=true:=by rfl):PE X (.Call (.Attribute o name apos) [] [] cpos) (tBM0 X.K T r to):=by
 intro pins s σ H Q I h
 refine wpAny_Call_method0_late hbase hline (thn (ho pins s σ H _ I h) fun v s1 ⟨x,H1,I1,r1,ty,q1⟩=>?_)
 obtain ⟨h1,h2⟩:=rh I1 r1 ty
 exact ⟨T,id,pa,slot,hty,h1,h2,Calls.callWith_builtin rfl (PySem.evalArgs_none (hm pins s1 σ H1 x [] v [] Q I1 r1 .nil q1))⟩
def oN (pa:PlainAttrs T) (slot:Slot T name id) (hty:typeOf (.builtin id)=pure (.type "method_descriptor")) (hm:MtR X id r) (ho:PE X o to) (ha:PA X (e::es) t)
  (hbase:attributeBase o name X.env (eval o X.env)=eval o X.env:=by rfl)
  (hfew:((backTo cpos (starEach (e::es) X.env)).all (fun x=>!x.1)&&(backToKw cpos (keywordEach [] X.env)).all (fun x=>x.1.isSome)
   && decide ((e::es).length+([]:List Keyword).length+(if ([]:List Keyword).isEmpty then 0 else 1)<30))=true:=by rfl)
  (hline:(apos.endLine==cpos.line)=true:=by rfl) (hs:starEach (e::es) X.env=(false,eval e X.env)::starEach es X.env:=by rfl) (hplain:(backTo cpos (starEach es X.env)).any (·.1)=false:=by rfl) :
  PE X (.Call (.Attribute o name apos) (e::es) [] cpos) (tBM X.K T r to t):=by
 intro pins s σ H Q I h
 refine wpAny_Call_method_late hbase hfew hline rfl (thn (ho pins s σ H _ I h) fun v s1 ⟨x,H1,I1,r1,ty,q1⟩=>?_)
 obtain ⟨h1,h2⟩:=rh I1 r1 ty
 refine ⟨T,id,pa,slot,hty,h1,h2,?_⟩
 have hA:=ha cpos pins s1 σ H1 _ I1 q1
 rw [hs] at hA ⊢
 refine Calls.callWith_builtin (by show (false||(backTo cpos (starEach es X.env)).any (·.1))=false;rw [hplain]<;>rfl) (Calls.evalArgs_plain ?_)
 exact thn hA fun us s2 ⟨vs,H2,I2,r2,q2⟩=>hm pins s2 σ H2 x vs v us Q I2 r1 r2 q2
/- xs.append(e),list.index on a module's tuple .. are MtR facts of 06m -/
end
noncomputable def MtM (X:Cx) (id:String) (r:V->List V->Hp->VK->Prop):Prop:=
 ∀ (pins:List (Addr×Obj)) (s:Shared) (σ:St) (H:Hp) (x:V) (xs:List V) (v:Value) (us:List Value) (Q:VK),Inv X pins σ H s->RelV x v->Vals xs us->r x xs H Q→
  wpAny (model X.prog X.w) X.A (call (.builtin id) (v::us)) (EP X pins σ Q) X.xe s
def Vals.one:∀ {x:V} {us:List Value},Vals [x] us->∃ u,us=[u]/\RelV x u
 | _,_,.cons r .nil=>⟨_,rfl,r⟩
def Vals.zero:∀ {us:List Value},Vals [] us->us=[]
 | _,.nil=>rfl
def Vals.dropLast {xs:List V} {us:List Value} (h:Vals xs us):Vals xs.dropLast us.dropLast:=by
 induction h with
 | nil=>exact .nil
 | cons r t ih =>
  cases t with
  | nil=>exact .nil
  | cons q t'=>exact .cons r ih
def nE {α:Type} (l:List α):l.eraseIdx (l.length-1)=l.dropLast:=by
 induction l with
 | nil=>rfl
 | cons a r ih =>
  cases r with
  | nil=>rfl
  | cons b r =>
   have e:(a::b::r).length-1=((b::r).length-1)+1:=by
    have h1:(a::b::r).length=r.length+2:=rfl
    have h2:(b::r).length=r.length+1:=rfl
    omega
   rw [e,List.eraseIdx_cons_succ,ih]
   all_goals rfl
section
variable {X:Cx} {pins:List (Addr×Obj)} {σ:St} {H:Hp} {s:Shared} {l b:Addr} {xs ys zs:List V}
def Inv.lset {its its':List Value} {n:Nat} {f:Array Value->Array Value} {t':Nat} (I:Inv X pins σ H s) (hH:H l=some (.lst xs))
  (e:s.heap.get? l=some {cls:=.type "list",data:=.seq its.toArray n}) (hf:f its.toArray=its'.toArray) (hv:Vals ys its') (hz:ys.length<=sizeLine) :
  Inv X pins σ (upd H l (.lst ys)) {s with heap:=s.heap.update l (Obj.mapSeq f),toks:=t'}:=by
 have q:=PySem.IsL.update e f
 rw [hf] at q
 refine I.write (x:=l) (e:=l) (by rw [hH];exact trivial) (.inl rfl) (fun b' u hb hu=>(Heap.get?_update_other s.heap (Obj.mapSeq f) (Ne.symm hb)).trans hu) ⟨_,q⟩ ?_
 exact ⟨hz,its',_,hv,q⟩
def Inv.lnew {its:List Value} {t':Nat} (I:Inv X pins σ H s) (hv:Vals ys its) (hz:ys.length<=sizeLine) :
  Inv X pins σ (upd H s.heap.objs.size (.lst ys)) {s with heap:=s.heap.push {cls:=.type "list",data:=.seq its.toArray},toks:=t'}:=
 I.laid (fun _ _ q=>gP _ q) (nL _) ⟨hz,its,0,hv,Heap.get?_push_size _ rfl⟩
def Inv.fresh (I:Inv X pins σ H s):H s.heap.objs.size=none:=I.hok.fresh (nL _)
def Inv.lstM (I:Inv X pins σ H s) (hH:H l=some (.lst xs)):xs.length<=sizeLine/\∃ (its:List Value) (n:Nat),Vals xs its/\xs.length=its.length/\s.heap.get? l=some {cls:=.type "list",data:=.seq its.toArray n}:=by
 obtain ⟨z,its,n,r,e⟩:=I.hok l _ hH
 exact ⟨z,its,n,r,r.length,e⟩
def rj {n:Nat} (h:n<=sizeLine):Builtin.List.listTooLong n=false:=by
 unfold Builtin.List.listTooLong
 exact decide_eq_false (by omega)
end
section
variable {X:Cx}
def uj:V->List V->Hp->VK->Prop:=fun x vs H Q=>∃ l xs y,x=.ref l/\vs=[y]/\H l=some (.lst xs)/\xs.length<sizeLine/\Q .non (upd H l (.lst (xs++[y])))
def ez:MtM X "list.append" uj:=by
 intro pins s σ H x vs v us Q I rx rv h
 obtain ⟨l,xs,y,rfl,rfl,hH,hz,q⟩:=h
 cases rx
 obtain ⟨u,rfl,ru⟩:=rv.one
 obtain ⟨z,its,n,r,hl,e⟩:=I.lstM hH
 refine call_meets F.slot_list_append ⟨_,e,rfl⟩ F.entry_list_append (F.args_list_append_2 _ _) (PySem.list_append l its.toArray n u (by rw [List.size_toArray];omega)) ⟨e,?_⟩
 refine ⟨.non,_,I.lset (its':=its++[u]) hH e (by simp) (r.append (.cons ru .nil)) ?_,rfl,q⟩
 rw [List.length_append,List.length_singleton]
 omega
def uk:V->List V->Hp->VK->Prop:=fun x vs H Q=>∃ l b xs zs,x=.ref l/\vs=[.ref b]/\H l=some (.lst xs)/\H b=some (.lst zs)/\xs.length+zs.length<=sizeLine/\Q .non (upd H l (.lst (xs++zs)))
def p6:MtM X "list.extend" uk:=by
 intro pins s σ H x vs v us Q I rx rv h
 obtain ⟨l,b,xs,zs,rfl,rfl,hH,hB,hz,q⟩:=h
 cases rx
 obtain ⟨u,rfl,ru⟩:=rv.one
 cases ru
 obtain ⟨z,its,n,r,hl,e⟩:=I.lstM hH
 obtain ⟨z2,its2,n2,r2,hl2,e2⟩:=I.lstM hB
 have hsz:its.toArray.size+its2.toArray.size<=sizeLine:=by rw [List.size_toArray,List.size_toArray];omega
 have hlong:¬ (!its.toArray.isEmpty&&Builtin.List.listTooLong (its.toArray.size+its2.toArray.size))=true:=by
  rw [rj hsz,Bool.and_false]
  exact Bool.false_ne_true
 refine call_meets F.slot_list_extend ⟨_,e,rfl⟩ F.entry_list_extend (F.args_list_extend_2 _ _)
  (AutoSeq1.list_extend_list_list_0 l its.toArray n b its2.toArray n2 hlong (by rw [List.size_toArray];omega) (by omega)) ⟨e,e2,?_⟩
 refine ⟨.non,_,I.lset (its':=its++its2) hH e (by simp) (r.append r2) ?_,rfl,q⟩
 rw [List.length_append]
 omega
def rPop:V->List V->Hp->VK->Prop:=fun x vs H Q=>∃ l xs y,x=.ref l/\vs=[]/\H l=some (.lst xs)/\xs[xs.length-1]?=some y/\Q y (upd H l (.lst xs.dropLast))
def xy:MtM X "list.pop" rPop:=by
 intro pins s σ H x vs v us Q I rx rv h
 obtain ⟨l,xs,y,rfl,rfl,hH,hy,q⟩:=h
 cases rx
 have hus:=rv.zero
 subst hus
 obtain ⟨z,its,n,r,hl,e⟩:=I.lstM hH
 obtain ⟨u,hu,ru⟩:=r.get hy
 have hy':its.toArray[its.toArray.size-1]?=some u:=by
  show its.toArray[its.length-1]?=some u
  rw [<- Array.getElem?_toList,<- hl]
  exact hu
 refine call_meets F.slot_list_pop ⟨_,e,rfl⟩ F.entry_list_pop (F.args_list_pop_1 _) (MeetsSeq.list_pop_last l its.toArray n u hy' (by rw [List.size_toArray];omega)) ⟨e,?_⟩
 refine ⟨y,_,I.lset (its':=its.dropLast) hH e ?_ r.dropLast ?_,ru,q⟩
 · show its.toArray.eraseIdxIfInBounds (its.toArray.size-1)=its.dropLast.toArray
   rw [List.size_toArray,List.eraseIdxIfInBounds_toArray,nE]
 · rw [List.length_dropLast]
   omega
end
section
variable {prog:Program} {w:World} {A:Around} {E:Value->Shared->Prop} {s:Shared}
end
section
variable {X:Cx}
end
section
variable {κ:Type} [DecidableEq κ]
def cy (kvs:List (κ×V)) (k:κ):Option V:=(kvs.find? fun kv=>decide (kv.1=k)).map (·.2)
def bL (kvs:List (κ×V)) (k:κ) (v:V):List (κ×V):=
 if (kvs.any fun kv=>decide (kv.1=k))=true then kvs.map (fun kv=>if kv.1=k then (kv.1,v) else kv) else kvs++[(k,v)]
def dY {p:κ×V} {r:List (κ×V)} {k:κ} (e:p.1=k):cy (p::r) k=some p.2:=by simp [cy,List.find?_cons,e]
def dm {p:κ×V} {r:List (κ×V)} {k:κ} (e:¬ p.1=k):cy (p::r) k=cy r k:=by simp [cy,List.find?_cons,e]
def fL (k:κ):∀ kvs:List (κ×V),(kvs.any fun kv=>decide (kv.1=k))=(cy kvs k).isSome
 | []=>rfl
 | p::r=>by
  rw [List.any_cons]
  by_cases e:p.1=k
  · simp only [dY e,decide_eq_true e,Bool.true_or,Option.isSome_some]
  · rw [dm e,decide_eq_false e,Bool.false_or];exact fL k r
def dZ (kvs:List (κ×V)) (k:κ) (v:V):(bL kvs k v).length<=kvs.length+1:=by
 unfold bL
 split
 · rw [List.length_map];omega
 · rw [List.length_append,List.length_cons,List.length_nil];omega
def rl {kvs:List (κ×V)} {k:κ} (v:V) (h:cy kvs k=none):bL kvs k v=kvs++[(k,v)]:=by
 unfold bL
 rw [fL,h]
 exact if_neg (by decide)
def RelO.isSome_eq {o:Option V} {u:Option Value} (r:RelO o u):o.isSome=u.isSome:=by
 cases o with
 | none=>cases u with
  | none=>rfl
  | some _=>exact (show False from r).elim
 | some _=>cases u with
  | none=>exact (show False from r).elim
  | some _=>rfl
def RelO.getD {o:Option V} {u:Option Value} {d:V} {d':Value} (r:RelO o u) (rd:RelV d d'):RelV (o.getD d) (u.getD d'):=by
 cases o with
 | none=>cases u with
  | none=>exact rd
  | some _=>exact (show False from r).elim
 | some _=>cases u with
  | none=>exact (show False from r).elim
  | some _=>exact r
def KV.val {kvs:List (κ×V)} {vs:List (κ×Value)} (r:KV kvs vs) (k:κ):RelO (cy kvs k) (valueAt vs k):=by
 unfold KV at r
 induction r with
 | nil=>exact True.intro
 | @cons p q ps qs h t ih =>
  obtain ⟨h1,h2⟩:=h
  by_cases e:p.1=k
  · have e':q.1=k:=h1.symm.trans e
    have b:valueAt (q::qs) k=some q.2:=by simp [valueAt,List.find?_cons,e']
    rw [dY e,b];exact h2
  · have e':¬ q.1=k:=fun z=>e (h1.trans z)
    have b:valueAt (q::qs) k=valueAt qs k:=by simp [valueAt,List.find?_cons,e']
    rw [dm e,b];exact ih
def KV.any {kvs:List (κ×V)} {vs:List (κ×Value)} (r:KV kvs vs) (k:κ):(kvs.any fun kv=>decide (kv.1=k))=vs.any fun kv=>decide (kv.1=k):=by
 unfold KV at r
 induction r with
 | nil=>rfl
 | cons h t ih=>rw [List.any_cons,List.any_cons,ih,h.1]
def KV.repl {kvs:List (κ×V)} {vs:List (κ×Value)} (r:KV kvs vs) (k:κ) {y:V} {u:Value} (ry:RelV y u) :
  KV (kvs.map fun kv=>if kv.1=k then (kv.1,y) else kv) (vs.map fun kv=>if kv.1=k then (kv.1,u) else kv):=by
 unfold KV at r ⊢
 induction r with
 | nil=>exact .nil
 | @cons p q ps qs h t ih =>
  rw [List.map_cons,List.map_cons]
  refine .cons ?_ ih
  obtain ⟨h1,h2⟩:=h
  by_cases e:p.1=k
  · rw [if_pos e,if_pos (h1.symm.trans e)];exact ⟨h1,ry⟩
  · rw [if_neg e,if_neg (fun z=>e (h1.trans z))];exact ⟨h1,h2⟩
def KV.put {kvs:List (κ×V)} {vs:List (κ×Value)} (r:KV kvs vs) (k:κ) {y:V} {u:Value} (ry:RelV y u):KV (bL kvs k y) (stored vs k u):=by
 unfold bL stored
 rw [r.any k]
 by_cases e:(vs.any fun kv=>decide (kv.1=k))=true
 · rw [if_pos e,if_pos e];exact r.repl k ry
 · rw [if_neg e,if_neg e];exact Paired.snoc r ⟨rfl,ry⟩
def KV.keys {kvs:List (κ×V)} {vs:List (κ×Value)} (r:KV kvs vs):kvs.map (·.1)=vs.map (·.1):=by
 unfold KV at r
 induction r with
 | nil=>rfl
 | cons h t ih=>rw [List.map_cons,List.map_cons,ih,h.1]
def KV.length {kvs:List (κ×V)} {vs:List (κ×Value)} (r:KV kvs vs):kvs.length=vs.length:=Paired.length r
end
def g5 {P:Program} {w:World} {k:Key} {u:Value} (r:RelV (kV k) u):(bj P w).is k u=true:=by
 cases k with
 | inl i=>obtain ⟨t,e⟩:=(show ∃ t,u=Value.int i t from r);subst e;exact lH P w i t
 | inr x=>obtain ⟨t,e⟩:=(show ∃ t,u=Value.str x t from r);subst e;exact dQ P w x t
def jA {P:Program} {w:World}:∀ {ks:List Key} {us:List Value},Vals (ks.map kV) us->ItemsAre (bj P w) ks us
 | [],_,r=>by rw [List.map_nil] at r;cases r;exact .nil
 | k::ks,_,r=>by
  rw [List.map_cons] at r
  cases r with
  | cons h t=>exact .cons (g5 h) (jA t)
abbrev KT (H:Hp):List (List Key×V)->List (List Key×Addr×Value)->Prop:=Paired fun p q=>p.1=q.1/\H q.2.1=some (.tup (p.1.map kV))/\RelV p.2 q.2.2
def KT.val {H:Hp} {kvs:List (List Key×V)} {xs:List (List Key×Addr×Value)} (r:KT H kvs xs) (k:List Key):RelO (cy kvs k) ((atKey xs k).map (·.2)):=by
 induction r with
 | nil=>exact True.intro
 | @cons p q ps qs h t ih =>
  obtain ⟨h1,_,h2⟩:=h
  by_cases e:p.1=k
  · have e':q.1=k:=h1.symm.trans e
    have b:atKey (q::qs) k=some q.2:=by simp [atKey,List.find?_cons,e']
    rw [dY e,b];exact h2
  · have e':¬ q.1=k:=fun z=>e (h1.trans z)
    have b:atKey (q::qs) k=atKey qs k:=by simp [atKey,List.find?_cons,e']
    rw [dm e,b];exact ih
def KT.repl {H:Hp} {kvs:List (List Key×V)} {xs:List (List Key×Addr×Value)} (r:KT H kvs xs) (k:List Key) {y:V} {u:Value} (ry:RelV y u) :
  KT H (kvs.map fun kv=>if kv.1=k then (kv.1,y) else kv) (xs.map (putAt k u)):=by
 induction r with
 | nil=>exact .nil
 | @cons p q ps qs h t ih =>
  rw [List.map_cons,List.map_cons]
  refine .cons ?_ ih
  obtain ⟨h1,h2,h3⟩:=h
  unfold putAt
  by_cases e:p.1=k
  · rw [if_pos e,if_pos (h1.symm.trans e)];exact ⟨h1,h2,ry⟩
  · rw [if_neg e,if_neg (fun z=>e (h1.trans z))];exact ⟨h1,h2,h3⟩
def KT.put {H:Hp} {kvs:List (List Key×V)} {xs:List (List Key×Addr×Value)} (r:KT H kvs xs) (k:List Key) {b:Addr} {y:V} {u:Value} (hb:H b=some (.tup (k.map kV))) (ry:RelV y u) :
  KT H (bL kvs k y) (storedH xs k b u):=by
 have e:(kvs.any fun kv=>decide (kv.1=k))=(atKey xs k).isSome:=by
  rw [fL,(r.val k).isSome_eq,Option.isSome_map]
 unfold bL storedH
 rw [e]
 by_cases q:(atKey xs k).isSome=true
 · rw [if_pos q,if_pos q];exact r.repl k ry
 · rw [if_neg q,if_neg q];exact Paired.snoc r ⟨rfl,hb,ry⟩
def KT.keeps {H H':Hp} {kvs:List (List Key×V)} {xs:List (List Key×Addr×Value)} (r:KT H kvs xs) (ht:∀ b ys,H b=some (.tup ys)->H' b=some (.tup ys)):KT H' kvs xs:=
 Paired.mapP r fun _ _ z=>⟨z.1,ht _ _ z.2.1,z.2.2⟩
section
variable {P:Program} {w:World} {H:Hp} {h:Heap} {a:Addr}
def v4 {u:HO} (ok:HOk P w H h) (e:Rd H a u):ObjOk P w H h a u:=e.ok ok
def iy {kvs:List (Key×V)} (ok:HOk P w H h) (e:Rd H a (.dK kvs)):kvs.length<=sizeLine/\(a==sysModules)=false/\∃ vs,KV kvs vs/\h.DictOf (bj P w) a vs:=
 show ObjOk P w H h a (.dK kvs) from v4 ok e
def v5 {kvs:List (Key×V)} (ok:HOk P w H h) (e:H a=some (.dK kvs)):kvs.length<=sizeLine/\(a==sysModules)=false/\∃ vs,KV kvs vs/\h.DictOf (bj P w) a vs:=iy ok (.inl e)
def iz {ks:List Key} (ok:HOk P w H h) (e:H a=some (.tup (ks.map kV))):(tupleKind (bj P w)).is h ks a:=by
 obtain ⟨_,its,r,o,h1,h2,n,h3⟩:=(show ObjOk P w H h a (.tup (ks.map kV)) from ok a _ e)
 exact ⟨o,its.toArray,n,h1,h2,h3,by simpa using jA r⟩
def lP {kvs:List (List Key×V)} (ok:HOk P w H h) (e:Rd H a (.dT kvs)):kvs.length<=sizeLine/\(a==sysModules)=false∧
  ∃ xs,KT H kvs xs/\h.DictOfH (tupleKind (bj P w)) a xs:=by
 obtain ⟨z,y,xs,r,o,es,ep,h1,h2,h3,h4,h5⟩:=(show ObjOk P w H h a (.dT kvs) from v4 ok e)
 refine ⟨z,y,xs,r,o,es,ep,h1,h2,h3,h4,fun x hx=>?_,h5⟩
 have all:∀ {l:List (List Key×V)} {m:List (List Key×Addr×Value)},KT H l m->∀ x∈m,(tupleKind (bj P w)).is h x.1 x.2.1:=by
  intro l m q
  induction q with
  | nil=>intro x hx;exact nomatch hx
  | @cons p q ps qs hq t ih =>
   intro x hx
   rcases List.mem_cons.mp hx with e | hx
   · subst e
     exact iz ok (by rw [<- hq.1];exact hq.2.1)
   · exact ih x hx
 exact all r x hx
def zH {kvs:List (List Key×V)} (ok:HOk P w H h) (e:H a=some (.dT kvs)):kvs.length<=sizeLine/\(a==sysModules)=false∧
  ∃ xs,KT H kvs xs/\h.DictOfH (tupleKind (bj P w)) a xs:=lP ok (.inl e)
end
def DGet (H:Hp) (a:Addr) (y:V) (r:Option V):Prop:=
 (∃ kvs k,Rd H a (.dK kvs)/\y=kV k/\r=cy kvs k)∨∃ kvs k b,Rd H a (.dT kvs)/\y=.ref b/\H b=some (.tup (k.map kV))/\r=cy kvs k
noncomputable def DPut (H:Hp) (a:Addr) (y v:V) (H':Hp):Prop:=
 (∃ kvs k,H a=some (.dK kvs)/\y=kV k/\kvs.length<sizeLine/\H'=upd H a (.dK (bL kvs k v)))∨
 ∃ kvs k b,H a=some (.dT kvs)/\y=.ref b/\H b=some (.tup (k.map kV))/\kvs.length<sizeLine/\H'=upd H a (.dT (bL kvs k v))
def DGet.k {H:Hp} {a:Addr} {kvs:List (Key×V)} {k:Key} (e:H a=some (.dK kvs)):DGet H a (kV k) (cy kvs k):=.inl ⟨kvs,k,.inl e,rfl,rfl⟩
def DPut.k {H:Hp} {a:Addr} {kvs:List (Key×V)} {k:Key} {v:V} (e:H a=some (.dK kvs)) (hl:kvs.length<sizeLine):DPut H a (kV k) v (upd H a (.dK (bL kvs k v))):=.inl ⟨kvs,k,e,rfl,hl,rfl⟩
section
variable {X:Cx} {pins:List (Addr×Obj)} {σ:St} {H:Hp} {s:Shared} {a:Addr} {y v:V} {u r:Value} {o:Option V} {A:Around} {E:Value->Shared->Prop}
def Inv.big (I:Inv X pins σ H s):sysModules<s.heap.objs.size:=by
 have h:mainGlobals<s.heap.objs.size:=(I.mod.glob.keeps I.bk).lt
 exact Nat.lt_trans (by decide) h
def p7 {Q:Value->Shared->Prop} (hu:A.units+1<cLine) (I:Inv X pins σ H s) (g:DGet H a y (some v)) (ry:RelV y u) (h:∀ w' s',Inv X pins σ H s'->RelV v w'->Q w' s') :
  wpAny (model X.prog X.w) A (getItem (.ref a) u) Q E s:=by
 rcases g with ⟨kvs,k,e,ey,l⟩ | ⟨kvs,k,b,e,ey,eb,l⟩
 · subst ey
   obtain ⟨z,hd,vs,rel,dd⟩:=iy I.hok e
   obtain ⟨w',hw,rw'⟩:=RelO.some_of (v:=v) (o:=valueAt vs k) (by rw [l];exact rel.val k)
   exact wpAny_getItem_of (g5 ry) dd.mapOf hw (h w' _ (I.tok _) rw')
 · subst ey
   cases (show u=Value.ref b from ry)
   obtain ⟨z,hd,xs,rel,dd⟩:=lP I.hok e
   obtain ⟨w',hw,rw'⟩:=RelO.some_of (v:=v) (o:=(atKey xs k).map (·.2)) (by rw [l];exact rel.val k)
   obtain ⟨p,hp,hp2⟩:=mS hw
   refine wpAny_getItem_heap (tupleKind_room_in1 hu) (iz I.hok eb) dd hp ?_
   rw [hp2]
   exact h w' _ (I.tok _) rw'
def d_in {Q:Value->Shared->Prop} (hu:A.units+1<cLine) (I:Inv X pins σ H s) (g:DGet H a y o) (ry:RelV y u) (h:∀ s',Inv X pins σ H s'->Q (.bool o.isSome) s') :
  wpAny (model X.prog X.w) A (compareOp .In u (.ref a)) Q E s:=by
 rcases g with ⟨kvs,k,e,ey,l⟩ | ⟨kvs,k,b,e,ey,eb,l⟩
 · subst ey
   obtain ⟨z,hd,vs,rel,dd⟩:=iy I.hok e
   refine wpAny_in_of (g5 ry) hd dd.mapOf ?_
   rw [<- (rel.val k).isSome_eq,<- l]
   exact h _ (I.tok _)
 · subst ey
   cases (show u=Value.ref b from ry)
   obtain ⟨z,hd,xs,rel,dd⟩:=lP I.hok e
   refine wpAny_in_heap (tupleKind_room_in1 hu) (iz I.hok eb) hd dd ?_
   have q:=(rel.val k).isSome_eq
   rw [Option.isSome_map] at q
   rw [<- q,<- l]
   exact h _ (I.tok _)
def ul {Q:Value->Shared->Prop} (hu:A.units+1<cLine) (I:Inv X pins σ H s) (g:DGet H a y o) (ry:RelV y u) (h:∀ s',Inv X pins σ H s'->Q (.bool (!o.isSome)) s') :
  wpAny (model X.prog X.w) A (compareOp .NotIn u (.ref a)) Q E s:=by
 rcases g with ⟨kvs,k,e,ey,l⟩ | ⟨kvs,k,b,e,ey,eb,l⟩
 · subst ey
   obtain ⟨z,hd,vs,rel,dd⟩:=iy I.hok e
   refine wpAny_notIn_of (g5 ry) hd dd.mapOf ?_
   rw [<- (rel.val k).isSome_eq,<- l]
   exact h _ (I.tok _)
 · subst ey
   cases (show u=Value.ref b from ry)
   obtain ⟨z,hd,xs,rel,dd⟩:=lP I.hok e
   refine wpAny_notIn_heap (tupleKind_room_in1 hu) (iz I.hok eb) hd dd ?_
   have q:=(rel.val k).isSome_eq
   rw [Option.isSome_map] at q
   rw [<- q,<- l]
   exact h _ (I.tok _)
def kz {h':Heap} {t':Nat} {ob:HO} (I:Inv X pins σ H s) (mu:Mut (H a)) (hs:Heap.SameBut a s.heap h') (he:∃ q,h'.get? a=some q) (new:ObjOk X.prog X.w (upd H a ob) h' a ob) :
  Inv X pins σ (upd H a ob) {s with heap:=h',toks:=t'}:=
 I.write (x:=a) (e:=a) mu (.inl rfl) (fun b q hb z=>(hs.2 b hb).trans z) he new
def rm {P:Program} {w:World} {H':Hp} {h':Heap} {kvs:List (Key×V)} {vs:List (Key×Value)} (z:kvs.length<=sizeLine) (hd:(a==sysModules)=false) (rel:KV kvs vs) (dd:h'.DictOf (bj P w) a vs) :
  ObjOk P w H' h' a (.dK kvs):=⟨z,hd,vs,rel,dd⟩
def p8 {H':Hp} {Q:Unit->Shared->Prop} (hu:A.units+1<cLine) (I:Inv X pins σ H s) (g:DPut H a y v H') (ry:RelV y u) (rv:RelV v r) (h:∀ s',Inv X pins σ H' s'->Q () s') :
  wpAny (model X.prog X.w) A (setItem (.ref a) u r) Q E s:=by
 rcases g with ⟨kvs,k,e,ey,l,eH⟩ | ⟨kvs,k,b,e,ey,eb,l,eH⟩
 · subst ey eH
   obtain ⟨z,hd,vs,rel,dd⟩:=v5 I.hok e
   have hz:vs.length<=sizeLine:=by rw [<- rel.length];exact z
   have hl:(bL kvs k v).length<=sizeLine:=by have:=dZ kvs k v;omega
   refine wpAny_setItem_pairs (hsz:=hz) (g5 ry) dd fun h' dd' hs=>h _ ?_
   have he:∃ q,h'.get? a=some q:=let ⟨q,_,_,hq,_⟩:=dd';⟨q,hq⟩
   exact kz I (by rw [e];exact True.intro) hs he (rm hl hd (rel.put k rv) dd')
 · subst ey eH
   cases (show u=Value.ref b from ry)
   obtain ⟨z,hd,xs,rel,dd⟩:=zH I.hok e
   have hz:xs.length<=sizeLine:=by rw [<- Paired.length rel];exact z
   have hl:(bL kvs k v).length<=sizeLine:=by have:=dZ kvs k v;omega
   refine wpAny_setItem_heap (hsz:=hz) (tupleKind_room_in1 hu) (iz I.hok eb) dd fun h' dd' hs=>h _ ?_
   obtain ⟨q,es,ep,hq,h2,h3,h4,_,h5⟩:=dd'
   refine kz I (by rw [e];exact True.intro) hs ⟨q,hq⟩ ⟨hl,hd,_,(rel.put k eb rv).keeps fun c ys ec=>?_,q,es,ep,hq,h2,h3,h4,h5⟩
   rw [aJ (zq ec e (fun z=>nomatch z))]
   exact ec
end
section
variable {X:Cx} {pins:List (Addr×Obj)} {σ:St} {H:Hp} {s:Shared} {a:Addr} {kvs:List (Key×V)} {k:Key} {u:Value} {A:Around} {E:Value->Shared->Prop}
end
def p9 (i:Expr):Prop:=∀ ov iv,subscripted i false ov iv=operate [ov,iv] (getItem ov iv)
def oO {prog:Program} {w:World} {A:Around} {E:Value->Shared->Prop} {s:Shared} {env:Env} {value slice:Expr} {pos:Pos} {T id:String} {Q:Value->Shared->Prop}
  (hl:typeLookup (.type T) "__getitem__"=pure (some (.builtin id))) (hs:p9 slice)
  (h:wpAny (model prog w) A (eval value env) (fun o s₁=>wpAny (model prog w) A (eval slice env) (fun i s₂=>s₂.TypeIs o T/\wpAny (model prog w) A (getItem o i) Q E s₂) E s₁) E s) :
  wpAny (model prog w) A (eval (.Subscript value slice pos) env) Q E s:=by
 refine Subscript_ (wpAny_mono h (fun o s₁ h₁=>wpAny_mono h₁ (fun i s₂ h₂=>?_) fun _ _ x=>x) fun _ _ x=>x)
 obtain ⟨hT,h₂⟩:=h₂
 unfold subscriptTail
 refine wB ?_
 rw [getitemInPython_of_ne hT.not_modules]
 refine wB (wpAny_specialOf hT hl ?_)
 have fin:wpAny (model prog w) A (subscripted slice false o i) (fun r s₃=>wpAny (model prog w) A (letTemporaryGo value o r >>= fun _=>pure r) Q E s₃) E s₂:=by
  rw [hs o i]
  exact wpAny_operating (wpAny_mono h₂ (fun r s₃ h₃=>wB (wpAny_letTemporaryGo (wpAny_pure h₃))) fun _ _ x=>x)
 first
  | exact wpAny_pure (wB fin)
  | exact wB (wpAny_pure (wB fin))
  | exact wB fin
def lQ {X:Cx} {pins:List (Addr×Obj)} {σ:St} {H:Hp} {s:Shared} {a:Addr} {y:V} {o:Option V} (I:Inv X pins σ H s) (g:DGet H a y o):s.TypeIs (.ref a) "dict":=by
 rcases g with ⟨kvs,k,e,_,_⟩ | ⟨kvs,k,b,e,_,_,_⟩
 · obtain ⟨_,_,vs,_,dd⟩:=iy I.hok e
   exact dd.typeIs
 · obtain ⟨_,_,xs,_,dd⟩:=lP I.hok e
   exact dd.typeIs
def zI (td ty:TE):TE:=fun σ H Q=>td σ H fun x H1=>ty σ H1 fun y H2=>∃ a v,x=.ref a/\DGet H2 a y (some v)/\Q v H2
def tDIn (ty td:TE):TE:=fun σ H Q=>ty σ H fun y H1=>td σ H1 fun x H2=>∃ a o,x=.ref a/\DGet H2 a y o/\Q (.bl o.isSome) H2
def oP (ty td:TE):TE:=fun σ H Q=>ty σ H fun y H1=>td σ H1 fun x H2=>∃ a o,x=.ref a/\DGet H2 a y o/\Q (.bl (!o.isSome)) H2
def zJ (td ty tv:TE):TS:=fun D σ H=>tv σ H fun v H1=>td σ H1 fun x H2=>ty σ H2 fun y H3=>∃ a H4,x=.ref a/\DPut H3 a y v H4/\D.nx σ H4
section
variable {X:Cx} {o i e value:Expr} {pos pos' tpos:Pos} {td ty tv:TE}
def oQ (hu:X.A.units+1<cLine) (ho:PE X o td) (hi:PE X i ty) (hs:p9 i):PE X (.Subscript o i pos) (zI td ty):=by
 intro pins s σ H Q I h
 refine oO PySem.F.slot_dict_getitem.lookup hs (thn (ho pins s σ H _ I h) fun u s1 ⟨x,H1,I1,rx,q1⟩=>thn (hi pins s1 σ H1 _ I1 q1) fun iv s2 ⟨y,H2,I2,ry,a,v,ex,g,q2⟩=>?_)
 subst ex
 obtain rfl:u=Value.ref a:=rx
 exact ⟨lQ I2 g,p7 hu I2 g ry fun w' s3 I3 rw'=>⟨v,H2,I3,rw',q2⟩⟩
def xz (hu:X.A.units+1<cLine) (hi:PE X i ty) (ho:PE X o td):PC X .In i o (tDIn ty td):=by
 intro pins s σ H Q I h
 refine thn (hi pins s σ H _ I h) fun iv s1 ⟨y,H1,I1,ry,q1⟩=>thn (ho pins s1 σ H1 _ I1 q1) fun u s2 ⟨x,H2,I2,rx,a,ov,ex,g,q2⟩=>?_
 subst ex
 obtain rfl:u=Value.ref a:=rx
 exact d_in hu I2 g ry fun s3 I3=>⟨.bl ov.isSome,H2,I3,rfl,q2⟩
def qa (hu:X.A.units+1<cLine) (hi:PE X i ty) (ho:PE X o td):PC X .NotIn i o (oP ty td):=by
 intro pins s σ H Q I h
 refine thn (hi pins s σ H _ I h) fun iv s1 ⟨y,H1,I1,ry,q1⟩=>thn (ho pins s1 σ H1 _ I1 q1) fun u s2 ⟨x,H2,I2,rx,a,ov,ex,g,q2⟩=>?_
 subst ex
 obtain rfl:u=Value.ref a:=rx
 exact ul hu I2 g ry fun s3 I3=>⟨.bl (!ov.isSome),H2,I3,rfl,q2⟩
def oR (hu:X.A.units+1<cLine) (ho:PE X o td) (hi:PE X i ty) (hv:PE X value tv) (hs:swapsWith value (some (.Subscript o i pos')) pos.line X.env=pure false) :
  PS X (.Assign [.Subscript o i pos'] value pos) (zJ td ty tv):=by
 intro pins s σ H D I h
 refine wpAny_Assign_Subscript (thn (hv pins s σ H _ I h) fun r s1 ⟨v,H1,I1,rv,q1⟩=>thn (ho pins s1 σ H1 _ I1 q1) fun u s2 ⟨x,H2,I2,rx,q2⟩=>thn (hi pins s2 σ H2 _ I2 q2) fun iv s3 ⟨y,H3,I3,ry,a,H4,ex,g,q3⟩=>?_) hs
 subst ex
 obtain rfl:u=Value.ref a:=rx
 exact p8 hu I3 g ry rv fun s4 I4=>⟨σ,H4,I4,q3⟩
end
def lR {P:Program} {w:World} {H:Hp} (h:Heap) (hb:sysModules<h.objs.size):ObjOk P w H (h.push {cls:=.type "dict",data:=.dict #[]}) h.objs.size (.dK []):=
 ⟨Nat.zero_le _,beq_eq_false_iff_ne.mpr (Ne.symm (Nat.ne_of_lt hb)),[],.nil,Heap.DictOf.new h⟩
def xA:TE:=fun _ H Q=>∀ p,H p=none->Q (.ref p) (upd H p (.dK []))
section
variable {X:Cx} {pos:Pos}
def rn:PE X (.Dict [] [] pos) xA:=fun pins s σ H Q I h =>
 wpAny_Dict_empty ⟨.ref s.heap.objs.size,_,I.laid (a:=s.heap.objs.size) (o:=.dK []) (t':=s.toks) (fun _ _ q=>gP _ q) (nL _) (lR s.heap I.big),rfl,h _ (I.hok.fresh (nL _))⟩
end
def kA:List (TE×TE)->St->Hp->(List (V×V)->Hp->Prop)->Prop
 | [],_,H,Q=>Q [] H
 | (tk,tv)::r,σ,H,Q=>tk σ H fun x H1=>tv σ H1 fun y H2=>kA r σ H2 fun ps H3=>Q ((x,y)::ps) H3
abbrev VV:List (V×V)->List (Value×Value)->Prop:=Paired fun p q=>RelV p.1 q.1/\RelV p.2 q.2
noncomputable def PPs (X:Cx) (pos:Pos) (keys:List (Option Expr)) (values:List Expr) (trs:List (TE×TE)):Prop:=
 ∀ (pins:List (Addr×Obj)) (s:Shared) (σ:St) (H:Hp) (Q:List (V×V)->Hp->Prop),Inv X pins σ H s->kA trs σ H Q→
  wpAny (model X.prog X.w) X.A (evalPairs (pairTrees keys values X.env pos)) (fun vs s'=>∃ ps H',Inv X pins σ H' s'/\VV ps vs/\Q ps H') X.xe s
def um {X:Cx} {pos:Pos}:PPs X pos [] [] []:=fun pins s σ H Q I h=>pairTrees_nil_walk ⟨[],H,I,.nil,h⟩
def rp {X:Cx} {pos:Pos} {k v:Expr} {ks:List (Option Expr)} {vs:List Expr} {tk tv:TE} {trs:List (TE×TE)} (hk:PE X k tk) (hv:PE X v tv) (hr:PPs X pos ks vs trs) :
  PPs X pos (some k::ks) (v::vs) ((tk,tv)::trs):=fun pins s σ H Q I h =>
 pairTrees_cons_walk (thn (hk pins s σ H _ I h) fun u s1 ⟨x,H1,I1,rx,q1⟩=>thn (hv pins s1 σ H1 _ I1 q1) fun w2 s2 ⟨y,H2,I2,ry,q2⟩ =>
  thn (hr pins s2 σ H2 _ I2 q2) fun ws s3 ⟨ps,H3,I3,rel,q3⟩=>⟨(x,y)::ps,H3,I3,.cons ⟨rx,ry⟩ rel,q3⟩)
def d4 (kvs more:List (Key×V)):List (Key×V):=more.foldl (fun acc kv=>bL acc kv.1 kv.2) kvs
def KV.merge:∀ {more:List (Key×V)} {rs:List (Key×Value)} {kvs:List (Key×V)} {vs:List (Key×Value)},KV more rs->KV kvs vs->KV (d4 kvs more) (merged vs rs):=by
 intro more rs kvs vs r
 unfold KV at r
 induction r generalizing kvs vs with
 | nil=>intro q;exact q
 | @cons p q ps qs h t ih =>
  intro r0
  have e:KV (bL kvs p.1 p.2) (stored vs q.1 q.2):=by
   have:=r0.put p.1 h.2
   rw [<- h.1];exact this
  exact ih e
def eY:∀ (more kvs:List (Key×V)),(d4 kvs more).length<=kvs.length+more.length
 | [],kvs=>by show kvs.length<=kvs.length+0;omega
 | p::r,kvs=>by
  have h1:=eY r (bL kvs p.1 p.2)
  have h2:=dZ kvs p.1 p.2
  show (d4 (bL kvs p.1 p.2) r).length<=_
  rw [List.length_cons];omega
def iA {P:Program} {w:World}:∀ {kvs:List (Key×V)} {ws:List (Value×Value)},VV (kvs.map fun kv=>(kV kv.1,kv.2)) ws->∃ rs,Carries (bj P w) ws rs/\KV kvs rs
 | [],_,r=>by rw [List.map_nil] at r;cases r;exact ⟨[],True.intro,.nil⟩
 | p::kvs,_,r=>by
  rw [List.map_cons] at r
  cases r with
  | @cons a b as bs h t =>
   obtain ⟨rs,c,q⟩:=iA (P:=P) (w:=w) t
   obtain ⟨b1,b2⟩:=b
   exact ⟨(p.1,b2)::rs,⟨g5 h.1,rfl,c⟩,.cons ⟨rfl,h.2⟩ q⟩
noncomputable def zK (trs:List (TE×TE)):TE:=fun σ H Q=>∀ p,H p=none->kA trs σ (upd H p (.dK [])) fun ps H2=>H2 p=some (.dK [])/\∃ kvs:List (Key×V),ps=kvs.map (fun kv=>(kV kv.1,kv.2))/\kvs.length<=15/\Q (.ref p) (upd H2 p (.dK (d4 [] kvs)))
def uo {X:Cx} {pos:Pos} {keys:List (Option Expr)} {values:List Expr} {trs:List (TE×TE)} (h:PPs X pos keys values trs) (hall:keys.all (·.isSome)=true) (hl:keys.length=values.length) (h0:keys≠[])
  (h15:keys.length<=15):PE X (.Dict keys values pos) (zK trs):=by
 intro pins s σ H Q I q
 have hn:=I.hok.fresh (nL s.heap.objs.size)
 have I1:=I.laid (a:=s.heap.objs.size) (o:=.dK []) (h':=s.heap.push {cls:=.type "dict",data:=.dict #[]}) (t':=s.toks) (fun _ _ q=>gP _ q) (nL _) (lR s.heap I.big)
 refine wpAny_Dict_walk (knd:=bj X.prog X.w) hall hl h0 h15 (thn (h pins _ σ _ _ I1 (q _ hn)) fun ws s2 ⟨ps,H2,I2,rel,e,kvs,ep,lk,q2⟩=>?_)
 subst ep
 obtain ⟨rs,c,rk⟩:=iA (P:=X.prog) (w:=X.w) rel
 obtain ⟨z,hd,vs0,r0,dd⟩:=v5 I2.hok e
 cases r0
 refine ⟨rs,c,dd,fun h' dd' hs=>⟨.ref s.heap.objs.size,_,?_,rfl,q2⟩⟩
 have hz:(d4 [] kvs).length<=sizeLine:=by
  have h1:=eY kvs []
  rw [List.length_nil] at h1
  rw [sizeLine_eq];omega
 have he:∃ q,h'.get? s.heap.objs.size=some q:=let ⟨q,_,_,hq,_⟩:=dd';⟨q,hq⟩
 exact kz I2 (by rw [e];exact True.intro) hs he (rm hz hd (rk.merge .nil) dd')
section
variable {X:Cx} {pins:List (Addr×Obj)} {σ:St} {H:Hp} {s:Shared} {a:Addr} {y d:V} {u r:Value} {o:Option V} {A:Around} {E:Value->Shared->Prop}
end
section
variable {X:Cx} {o e f:Expr} {apos cpos:Pos} {td ty tx:TE}
end
section
variable {X:Cx} {pins:List (Addr×Obj)} {σ:St} {H:Hp} {s:Shared} {a:Addr} {kvs:List (Key×V)} {A:Around} {E:Value->Shared->Prop}
end
section
variable {X:Cx} {pins:List (Addr×Obj)} {σ:St} {H:Hp} {s:Shared} {a:Addr} {y:V} {u:Value} {A:Around} {E:Value->Shared->Prop}
end
end L2
namespace Att
open PySem PySem.W PySem.Calls PyProof.Rows
def hZ {P:Params} {h:Heap}:∀ (ns:List Int) (vs:List Value),WellAll P h vs (ns.map WData.int)->IntsAre vs ns:=by
 intro ns
 induction ns with
 | nil =>
  intro vs w
  rw [List.map_nil] at w
  cases w
  exact .nil
 | cons n ns ih =>
  intro vs w
  rw [List.map_cons] at w
  cases w with
  | cons a b =>
   cases a
   exact .cons _ _ (ih _ b)
def qb {l:OpenLaw} {n:Nat} (hn:l.most=some n) {P:Params} {h:Heap} {args:List WData} {vals:List Value}
  (hpre:l.row.toRowW.claim.pre args=true) (hwl:WellAll P h vals args) :
  ∃ a vs ns,vals=[Value.ref a]/\args=[WData.list (ns.map WData.int)]/\h.get? a=some {cls:=.type "list",data:=.seq vs.toArray}/\IntsAre vs ns/\ns.length<=n:=by
 have hsh:WShape.hasAll [] args [.list .int]=true:=(pre_splitW hpre).1
 have hc:l.pre.holds [] {args:=args}=true:=(pre_splitW hpre).2
 obtain ⟨d,r,rfl,h1,h2⟩:=hasAllW_cons hsh
 obtain rfl:=hasAllW_nil h2
 obtain ⟨xs,rfl,h3⟩:=hasW_list h1
 obtain ⟨ns,rfl⟩:=items_int h3
 have hlen:ns.length<=n:=by
  unfold OpenLaw.pre at hc
  have h4:(WTm.not (.lt (.lit (.int (n:Int))) (.len (.arg 0)))).holds [] {args:=[.list (ns.map .int)]}=true:=by
   have h4:=(holds_andW hc).1
   rw [hn] at h4
   exact h4
  have h5:=condW_of h4 (w_not (w_lt w_lit (w_len_list (w_arg rfl))))
  rw [List.length_map] at h5
  refine Nat.le_of_not_lt fun q=>?_
  have q':(n:Int)<((ns.length:Nat):Int):=by omega
  first
   | (rw [decide_eq_true q'] at h5;exact absurd h5 (by decide))
   | (simp at h5;omega)
 cases hwl with
 | cons w1 w2 =>
  cases w2
  cases w1 with
  | list ho hall=>exact ⟨_,_,ns,rfl,rfl,ho,hZ ns _ hall,hlen⟩
def qc (l:OpenLaw) (args:List WData):l.row.toRowW.claim.post args (.bool true) args=true:=
 postW_of (r:=l.row.toRowW) (X:=(true==true))
  (show WShape.has [] (.bool true) .bool=true by first | rfl | decide | simp [WShape.has,WShape.arms,WShape.armsAll])
  (show (WTm.eq .res (.lit (.bool true))).value [] {args:=args,res:=some (.bool true),after:=args}=some (.bool (true==true)) from w_eq_bool (w_res rfl) w_lit) rfl
def v6 {l:OpenLaw} {n:Nat} {q:Program} {loose:List Str} {XP:(Str->Option Value)->Heap->Prop} {YP:World->Heap->Prop} {d:DefRec}
  (hn:l.most=some n) (hdf:d.params.defaults=[])
  (call:∀ (w:World) (s₀ s₁:Shared) (mg mb:Str->Option Value) (fa:Addr) (o:Obj) (pm cd doc:Value) (a:Addr) (vs:List Value) (ns:List Int),
   Ground q loose [] XP w s₀ mg mb s₁.heap->YP w s₁.heap→
   s₁.heap.get? fa=some o->o.data=.func (docDef d.name d.params d.body d.scope pm cd doc)->s₁.heap.CodeRec cd d.name->mg d.name=some (.ref fa)→
   s₁.heap.get? a=some {cls:=.type "list",data:=.seq vs.toArray}->IntsAre vs ns->ns.length<=n->s₁.gens=#[]→
   codeAny (model l.prog w) callerA (.call (.ref fa) ⟨[.ref a],[]⟩) (fun r s'=>r=.ok (.ret (.bool true))/\OldK s₁.heap s'.heap/\s'.os=s₁.os/\AllBare s'.gens) s₁) :
  WalkO q loose XP YP l.row.toRowW d [] (fun f vs=>PySem.call f vs):=by
 intro w s₀ s₁ mg mb G Y fa o pm cd doc dV kV ho hd hcd hD hmg hg args vals as hpre hlay hrd hwl hlo
 obtain rfl:dV=.none:=Dflts.none hD hdf
 obtain rfl:kV=.none:=Dflts.noKw hD
 obtain ⟨a,vs,ns,rfl,rfl,hobj,hints,hlen⟩:=qb hn hpre hwl
 refine enter_call (codeAny_mono (call w s₀ s₁ mg mb fa o pm cd doc a vs ns G Y ho (fd_plain hd) hcd hmg hobj hints hlen hg) fun r s' hq=>?_)
 obtain ⟨rfl,h2,h3,h4⟩:=hq
 exact ⟨.inl ⟨.bool true,.bool true,[],rfl,fun _=>rfl,.bool true,qc l _,fun _=>⟨List.Pairwise.nil,fun _ hm=>(nomatch hm)⟩⟩,h2,h3,h4⟩
section
variable {prog:Program} {w:World} {A:Around} {E:Value->Shared->Prop} {s:Shared} {K:Frag}
end
end Att
namespace L2
open PySem PySem.Spec PyProof.Rows
def jB:∀ {vs:List Value} {ns:List Int},IntsAre vs ns->Vals (ns.map V.int) vs
 | _,_,.nil=>.nil
 | _,_,.cons n t h=>.cons ⟨t,rfl⟩ (jB h)
def up (H:Hp):Prop:=∀ b,H b=none∨∃ o xs,H b=some (.frz o (.lst xs))
def rq {P:Program} {w:World} {K:PySem.W.Frag} {mg mb:Str->Option Value} {CX:CXT} {k:Nat} {fa a:Addr} {fd:FuncData} {x:Str} {sp:Sp} {s₁:Shared} {vs:List Value} {ns:List Int}
  (KX:K.In s₁.heap) (hns:s₁.heap.Ns mainGlobals mg) (hb:s₁.heap.Ns builtinsNs mb) (hbb:∀ x:Str,x≠"__name__"->mb x=bootBuiltins x) (hlim:s₁.heap.NoLimit) (hg:s₁.gens=#[])
  (ha:s₁.heap.get? a=some {cls:=.type "list",data:=.seq vs.toArray}) (hi:IntsAre vs ns) (hl:ns.length<=sizeLine) (hr:Room k callerA)
  (F:∀ base:Heap,K.In base->base.Ns mainGlobals mg->FnOk P w K mg base CX k fa fd [x] sp) (hbind:∀ (s:Shared) (u:Value),BindsTo s fd ⟨[u],[]⟩ [(x,u)])
  (hsp:∀ H:Hp,up H->SqL K H a (ns.map V.int)->sp [.ref a] H (fun v _=>v=.bl true) fun _ _ _=>False)
  (hCX:∀ H e s',CX [] H s₁ (fun _ _ _=>False) e s'->False) :
  codeAny (model P w) callerA (.call (.ref fa) ⟨[.ref a],[]⟩) (fun r s'=>r=.ok (.ret (.bool true))/\OldK s₁.heap s'.heap/\s'.os=s₁.os/\AllBare s'.gens) s₁:=by
 have rv:=jB hi
 have lenV:=hi.length
 -- from an abstract heap in which nothing but the script may be tracked
 have core:∀ H:Hp,up H->SqL K H a (ns.map V.int)->HOk P w H s₁.heap->(∀ b,H b≠none->b=a)->(H a≠none->K.lookup a=none)→
     codeAny (model P w) callerA (.call (.ref fa) ⟨[.ref a],[]⟩) (fun r s'=>r=.ok (.ret (.bool true))/\OldK s₁.heap s'.heap/\s'.os=s₁.os/\AllBare s'.gens) s₁:=by
  intro H hO hS hok hA hK
  have base_of:∀ {b:Addr} {o:Obj},s₁.heap.get? b=some o->H b=none->(km s₁.heap H).get? b=some o:=fun e n=>qN e n
  have noA:∀ {b:Addr} {o:Obj} {es:Array DictEntry} {ep:Nat},s₁.heap.get? b=some o->o.data=.dict es ep->H b=none:=fun {b o es ep} e d=>by
   cases q:H b with
   | none=>rfl
   | some u =>
    have e':b=a:=hA b (by rw [q];simp)
    subst e'
    rw [ha] at e;cases e
    have d':Data.seq vs.toArray _=Data.dict es ep:=d
    cases d'
  have nsK:∀ {b:Addr} {m:Str->Option Value},s₁.heap.Ns b m->(km s₁.heap H).Ns b m:=fun {b m} ⟨o,es,ep,e,d,r⟩=>⟨o,es,ep,base_of e (noA e d),d,r⟩
  have hKb:K.In (km s₁.heap H):=fun b o e=>base_of (KX b o e) (by
   cases q:H b with
   | none=>rfl
   | some u =>
    have e':b=a:=hA b (by rw [q];simp)
    subst e'
    rw [hK (by rw [q];simp)] at e;cases e)
  have hM:Mod K mg (km s₁.heap H):=⟨hKb,nsK hns,⟨mb,nsK hb,hbb⟩,let ⟨mc,h1,h2⟩:=hlim;⟨mc,nsK h1,h2⟩⟩
  have e0:Env0 P w K mg (km s₁.heap H) callerA [] s₁ H:=⟨rfl,hM,fun b o e=>t4 e,Nat.le_of_eq (pS _ _),trivial,fun b hb=>absurd (show b∈([]:List Addr) from hb) (by simp),hok,.of_eq hg⟩
  refine codeAny_mono ((F _ hKb (nsK hns)).run callerA [] s₁ H ⟨[.ref a],[]⟩ [.ref a] [.ref a] _ _ hr e0 (hbind s₁ (.ref a)) (.cons rfl .nil) (hsp H hO hS)) fun r s' h=>?_
  cases r with
  | error e=>exact (hCX H e s' h).elim
  | ok fl =>
   cases fl with
   | next=>exact False.elim h
   | brk=>exact False.elim h
   | cont=>exact False.elim h
   | ret u =>
    obtain ⟨v,H',os,bare,un,hok',r',q⟩:=h
    have q':v=.bl true:=q
    subst q'
    obtain rfl:u=Value.bool true:=r'
    refine ⟨rfl,OldK.of_keep fun b o e=>?_,os,bare⟩
    cases q:H b with
    | none=>exact un.keep b o e q (by intro z;exact absurd (show b∈([]:List Addr) from z) (by simp)) (by simp)
    | some u =>
     rcases hO b with z | ⟨ob,xs,z⟩
     · rw [q] at z;cases z
     · have z2:=un.frzs b ob _ z
       obtain ⟨e1,_⟩:=hok b _ z
       obtain ⟨e2,_⟩:=hok' b _ z2
       rw [e] at e1;cases e1
       exact e2
 cases hk:K.lookup a with
 | some o =>
  -- the script is one of the module's own objects
  have e:=KX a o hk
  rw [ha] at e
  cases e
  refine core (fun _=>none) (fun _=>.inl rfl) (.inr ⟨_,vs.toArray,_,hk,rfl,rfl,rfl,by rw [List.size_toArray,lenV];exact hl,by simpa using rv⟩) (fun b u z=>by have z':(none:Option HO)=some u:=z;cases z') (fun b z=>absurd rfl z) fun z=>absurd rfl z
 | none =>
  refine core (fun b=>if b=a then some (.frz {cls:=.type "list",data:=.seq vs.toArray} (.lst (ns.map V.int))) else none) (fun b=>?_) (.inl (.inr ⟨{cls:=.type "list",data:=.seq vs.toArray},if_pos rfl⟩)) (fun b u z=>?_) (fun b z=>?_) fun _=>hk
  · by_cases hb:b=a
    · exact .inr ⟨_,_,if_pos hb⟩
    · exact .inl (if_neg hb)
  · by_cases hb:b=a
    · have z':=(if_pos hb).symm.trans z
      cases z'
      subst hb
      exact ⟨ha,by rw [List.length_map];exact hl,vs,_,rv,ha⟩
    · have z':=(if_neg hb).symm.trans z
      cases z'
  · by_cases hb:b=a
    · exact hb
    · exact absurd (if_neg hb) z
def Ax {l:PySem.W.OpenLaw} {n k:Nat} {q:Program} {loose:List Str} {XP:(Str->Option Value)->Heap->Prop} {YP:World->Heap->Prop} {d:DefRec} {K:Params->PySem.W.Frag} {CX:World->CXT} {sp:World->Sp} {x:Str}
  (hn:l.most=some n) (hn2:n<=sizeLine) (hdf:d.params.defaults=[]) (hr:Room k callerA)
  (hY:∀ (w:World) (h:Heap),YP w h->(K w.params).In h)
  (F:∀ (w:World) (mg:Str->Option Value) (fa:Addr) (h:Heap),(K w.params).In h->h.Ns mainGlobals mg->mg d.name=some (.ref fa)→
   ∃ fd:FuncData,(∀ (s:Shared) (u:Value),BindsTo s fd ⟨[u],[]⟩ [(x,u)])∧
    ∀ base:Heap,(K w.params).In base->base.Ns mainGlobals mg->FnOk l.prog w (K w.params) mg base (CX w) k fa fd [x] (sp w))
  (hsp:∀ (w:World) (H:Hp) (a:Addr) (ns:List Int),ns.length<=n->up H->SqL (K w.params) H a (ns.map V.int)->sp w [.ref a] H (fun v _=>v=.bl true) fun _ _ _=>False)
  (hCX:∀ (w:World) (H:Hp) (s:Shared) (e:Value) (s':Shared),CX w [] H s (fun _ _ _=>False) e s'->False) :
  PySem.W.WalkO q loose XP YP l.row.toRowW d [] (fun f vs=>PySem.call f vs):=by
 refine Att.v6 hn hdf fun w s₀ s₁ mg mb fa o pm cd doc a vs ns G Y ho hd hcd hmg hobj hints hlen hg=>?_
 have KX:=hY w _ Y
 obtain ⟨fd,hb,hF⟩:=F w mg fa _ KX G.T.g hmg
 exact rq KX G.T.g G.T.b G.T.builtins G.T.nolimit hg hobj hints (Nat.le_trans hlen hn2) hr hF hb (fun H hO hS=>hsp w H a ns hlen hO hS) fun H e s'=>hCX w H s₁ e s'
end L2
/- THE LAST THEOREM (shape;LID,My.* are yours):
   My.Adr: a structure of the addresses that your layer names (classes,functions);My.Txt K t: a structure (Prop) of the equations over K;
   My.txt_mk:{K} {implicit addresses ..} (e1:nsIn K mainGlobals "law"=some (some (.ref f))) (e2:K.lookup f=some ⟨oc,od,.func (fnOf "law" "law" params body scope dV kV doc pm an cdv ct),sl⟩) (e3:codeIn K cdv "law"=true) ..:∃ t,My.Txt K t
(the tactic k_is has no namespace: write k_is) -/
namespace L2
open PySem PySem.Spec PyProof.Rows
def aQ (s:Stmt):Arguments:=match s with
 | .FunctionDef _ a _ _ _ _ _ _ _ _=>a
 | _=>{posonlyargs:=[],args:=[],vararg:=none,kwonlyargs:=[],kw_defaults:=[],kwarg:=none,defaults:=[]}
def aK (s:Stmt):List Stmt:=match s with
 | .FunctionDef _ _ b _ _ _ _ _ _ _=>b
 | _=>[]
def aa (s:Stmt):Scope:=match s with
 | .FunctionDef _ _ _ _ _ _ sc _ _ _=>sc
 | _=>{kind:=.function,names:=[],isGenerator:=false,isCoroutine:=false}
abbrev CX0:CXT:=fun _ _ _ _ _ _=>False
abbrev E0:XK:=fun _ _ _=>False
def zL {X:Cx}:nz CX0 X E0:=fun _ _ _ _ _ _ _ h=>h.elim
structure Fun (K:PySem.W.Frag) (x qual:Str) (st:Stmt) (f:Addr) (fd:FuncData):Prop where
 ex:∃ (oc:Value) (od:Option Addr) (kV doc pm:Value) (an:Option Addr) (cdv ct:Value) (osl:Array (Option Value)),
  fd=PySem.W.fnOf x qual (aQ st) (aK st) (aa st) .none kV doc pm an cdv ct/\K.lookup f=some ⟨oc,od,.func fd,osl⟩/\PySem.W.codeIn K cdv qual=true
 kp:PySem.W.keepIn K (.ref f)=true
section
variable {P:Program} {w:World} {K:PySem.W.Frag} {mg:Str->Option Value} {base:Heap}
def Fun.ok {x qual:Str} {st:Stmt} {f:Addr} {fd:FuncData} {N ps:List Str} {k:Nat} {sp:Sp} (F:Fun K x qual st f fd) (S:FnScope N ps (aa st)) (len:∀ vs H Q E,sp vs H Q E->vs.length=ps.length)
  (hbody:∀ (cdv:Value) (A:Around) (outer:List Env) (s:Shared) (H:Hp) (vs:List V) (Q:VK) (E:XK),Room k (A.deeper (envOfC qual (aa st) s.heap.objs.size f cdv))->sp vs H Q E→
   ∃ t,PSs (jn CX0 P w K mg base N qual (aa st) f cdv A outer s H E).nox (aK st) t/\t {nx:=fun _ H'=>Q .non H',rt:=Q} (start N vs) H):FnOk P w K mg base CX0 (k+1) f fd ps sp:=by
 obtain ⟨oc,od,kV,doc,pm,an,cdv,ct,osl,rfl,lk,hcd⟩:=F.ex
 refine zE lk hcd S len fun A outer s H vs Q E hr hsp=>?_
 obtain ⟨t,h,q⟩:=hbody cdv A outer s H vs Q E hr hsp
 exact ⟨t,h.nox,q⟩
def Fun.binds {x qual:Str} {st:Stmt} {f:Addr} {fd:FuncData} {ps:List Str} (F:Fun K x qual st f fd)
  (h:∀ (kV doc pm:Value) (an:Option Addr) (cdv ct:Value) (us:List Value),us.length=ps.length->bindArgs (PySem.W.fnOf x qual (aQ st) (aK st) (aa st) .none kV doc pm an cdv ct) ⟨us,[]⟩=pure (ps.zip us)):Binds K fd ps []:=by
 obtain ⟨oc,od,kV,doc,pm,an,cdv,ct,osl,rfl,lk,hcd⟩:=F.ex
 exact .all (h kV doc pm an cdv ct)
def nF {x qual:Str} {st:Stmt} {f:Addr} {oc:Value} {od an:Option Addr} {osl:Array (Option Value)} {kV doc pm cdv ct:Value} (l:K.lookup f=some ⟨oc,od,.func (PySem.W.fnOf x qual (aQ st) (aK st) (aa st) .none kV doc pm an cdv ct),osl⟩)
  (c:PySem.W.codeIn K cdv qual=true) (k:PySem.W.keepIn K (.ref f)=true):Fun K x qual st f (PySem.W.fnOf x qual (aQ st) (aK st) (aa st) .none kV doc pm an cdv ct):=⟨⟨oc,od,kV,doc,pm,an,cdv,ct,osl,rfl,l,c⟩,k⟩
end
def jC {A:Around} {k:Nat} (hr:Room k A):A.units+1<cLine:=Nat.lt_of_le_of_lt (Nat.add_le_add_left (by decide:1<=64) _) hr.units
section
variable {X:Cx}
end
def Same (H H':Hp):Prop:=∀ b o,H b=some o->H' b=some o
def Same.refl (H:Hp):Same H H:=fun _ _ h=>h
def Same.trans {H H1 H2:Hp} (a:Same H H1) (b:Same H1 H2):Same H H2:=fun c o h=>b c o (a c o h)
def Same.free {H H':Hp} (e:Same H H') {l:Addr} (h:H' l=Option.none):H l=Option.none:=by
 cases q:H l with
 | none=>rfl
 | some o =>
  rw [e l o q] at h
  cases h
def Same.seq {K:PySem.W.Frag} {H H':Hp} {a:Addr} {xs:List V} (e:Same H H') (h:SqL K H a xs):SqL K H' a xs:=by
 rcases h with (h | ⟨o,h⟩) | h
 · exact .inl (.inl (e _ _ h))
 · exact .inl (.inr ⟨o,e _ _ h⟩)
 · exact .inr h
section
variable {κ:Type} [DecidableEq κ]
def uq {kvs:List (κ×V)} {k:κ} {v:V} (h:cy kvs k=some v):k∈kvs.map (·.1):=by
 have q:(kvs.any fun kv=>decide (kv.1=k))=true:=by
  rw [fL,h]
  all_goals rfl
 obtain ⟨p,hp,e⟩:=List.any_eq_true.mp q
 exact List.mem_map.mpr ⟨p,hp,of_decide_eq_true e⟩
end
set_option maxRecDepth 100000
set_option maxHeartbeats 4000000
def lS (names:List (Str×NameKind)) (cells:List (Str×Addr)):List (Str×Addr):=
 names.foldl (fun cs nk=>if nk.2==NameKind.free then (nk.1,(cells.lookup nk.1).getD 0)::cs else cs) []
def oS {cells:List (Str×Addr)} {env:Env} (hc:env.cells=cells):∀ (names:List (Str×NameKind)) (acc:List (Str×Addr)),(∀ x∈names,x.2=.free->∃ c,cells.lookup x.1=some c)→
  (forIn names acc (fun (x:Str×NameKind) (r:List (Str×Addr))=>if (x.2==NameKind.free)=true then (do let c <- cellOf env x.1;pure (ForInStep.yield ((x.1,c)::r))) else (pure (ForInStep.yield r):Sem _)))
   = (pure (names.foldl (fun cs nk=>if nk.2==NameKind.free then (nk.1,(cells.lookup nk.1).getD 0)::cs else cs) acc):Sem (List (Str×Addr)))
 | [],acc,_=>rfl
 | x::r,acc,h=>by
  have ih:=fun acc=>oS hc r acc fun y hy=>h y (List.mem_cons_of_mem _ hy)
  simp only [List.forIn_cons,List.foldl_cons]
  cases e:(x.2==NameKind.free) with
  | false =>
   simp only [Bool.false_eq_true,if_false]
   exact ih acc
  | true =>
   obtain ⟨c,hcx⟩:=h x List.mem_cons_self (by simpa using e)
   have hcell:cellOf env x.1=pure c:=by unfold cellOf;rw [hc,hcx]
   simp only [if_true,hcell,hcx,Option.getD_some]
   exact ih _
def iB {scope:Scope} {env:Env} (h:∀ x∈scope.names,x.2=.free->∃ c,env.cells.lookup x.1=some c):closureFor scope env=pure (lS scope.names env.cells):=by
 have:=oS (env:=env) rfl scope.names [] h
 unfold closureFor lS
 rw [<- this]
 simp only [bind_pure]
def jD {cells:List (Str×Addr)}:∀ {names:List (Str×NameKind)} {acc:List (Str×Addr)} {x:Str} {c:Addr},(∀ y∈names,y.2=.free->∃ c,cells.lookup y.1=some c)→
  (names.foldl (fun cs nk=>if nk.2==NameKind.free then (nk.1,(cells.lookup nk.1).getD 0)::cs else cs) acc).lookup x=some c->(∀ c,acc.lookup x=some c->cells.lookup x=some c)->cells.lookup x=some c
 | [],acc,x,c,_,h,ha=>ha c h
 | y::r,acc,x,c,hy,h,ha=>by
  simp only [List.foldl_cons] at h
  refine jD (fun z hz=>hy z (List.mem_cons_of_mem _ hz)) h ?_
  intro c' h'
  split at h'
  · rename_i hf
    obtain ⟨c0,e0⟩:=hy y List.mem_cons_self (by simpa using hf)
    rw [List.lookup_cons] at h'
    split at h'
    · rename_i hx
      have hx':x=y.1:=by simpa using hx
      rw [e0] at h'
      subst hx'
      rw [e0]
      simpa using h'
    · exact ha c' h'
  · exact ha c' h'
def d5 {names:List (Str×NameKind)} {cells:List (Str×Addr)} {x:Str} {c:Addr} (hy:∀ y∈names,y.2=.free->∃ c,cells.lookup y.1=some c) (h:(lS names cells).lookup x=some c):cells.lookup x=some c:=
 jD hy h fun c h=>by simp at h
def jE {cells:List (Str×Addr)}:∀ {names:List (Str×NameKind)} {acc:List (Str×Addr)} {x:Str},((x,NameKind.free)∈names∨(acc.lookup x).isSome)→
  ((names.foldl (fun cs nk=>if nk.2==NameKind.free then (nk.1,(cells.lookup nk.1).getD 0)::cs else cs) acc).lookup x).isSome
 | [],acc,x,h=>by simpa using h
 | y::r,acc,x,h=>by
  simp only [List.foldl_cons]
  refine jE ?_
  rcases h with h | h
  · rcases List.mem_cons.mp h with e | h
    · subst e
      right
      simp [List.lookup_cons]
    · exact .inl h
  · right
    split
    · rw [List.lookup_cons]
      split
      · rfl
      · exact h
    · exact h
def lT {names:List (Str×NameKind)} {cells:List (Str×Addr)} {x:Str} (h:(x,NameKind.free)∈names):∃ c,(lS names cells).lookup x=some c:=
 Option.isSome_iff_exists.mp (jE (.inl h))
structure CmpScope (N:List Str) (outer scope:Scope) (M:List Str) (src:List (Option Nat)):Prop where
 kind:scope.kind=.function
 nocell:∀ y∈scope.names,y.2≠.cell
 free:∀ y∈scope.names,y.2=.free->outer.names.lookup y.1=some .cell∨outer.names.lookup y.1=some .free
 names:∀ y∈scope.names,y.2=.local->scope.names.lookup y.1=some .local
 lf:∀ y∈scope.names,y.2=.free->scope.names.lookup y.1=some .free
 len:M.length=src.length
 nd:M.Nodup
 src:∀ p∈M.zip src,∀ j∈p.2,N[j]?=some p.1/\(p.1,NameKind.free)∈scope.names
def stC (src:List (Option Nat)) (σ:St):St:=src.map fun o=>o.bind fun j=>(σ[j]?).join
noncomputable def cxC (X:Cx) (M:List Str) (scope:Scope) (C:Addr) (s:Shared) (H:Hp) (ex:List Addr):Cx:=
 {X with N:=M,s₀:=s,H₀:=H,env:=compEnvC scope (lS scope.names X.env.cells) C X.env,outer:=X.stack,ex:=ex,fn:=fun _=>false,pn:=[],xe:=fun _ _=>False}
noncomputable def PTs (X:Cx) (ifs:List Expr) (t:TT):Prop:=
 ∀ (pins:List (Addr×Obj)) (s:Shared) (σ:St) (H:Hp) (Q:Bool->Hp->Prop),Inv X pins σ H s->t σ H Q→
  wpAny (model X.prog X.w) X.A (forIn ifs true fun c r=>if r=true then do let ok <- isTrue c X.env (eval c X.env);pure (ForInStep.yield ok) else pure (ForInStep.yield r)) (TP X pins σ Q) X.xe s
def tYes:TT:=fun _ H Q=>Q true H
def oT {X:Cx}:PTs X [] tYes:=fun pins s σ H Q I h=>wpAny_tests_nil ⟨H,I,h⟩
def ur {X:Cx} {c:Expr} {t:TT} (h:PT X c t):PTs X [c] t:=fun pins s σ H Q I hq=>wpAny_tests_one (h pins s σ H Q I hq)
def Wk (a b:St):Prop:=a.length=b.length/\∀ (i:Nat) v,a[i]?=some (some v)->b[i]?=some (some v)
noncomputable def iC (src:List (Option Nat)) (wi:TI) (g:TG) (tt:TT) (te:TE):TE:=fun σ H Q=>wi σ H fun J H1=>∀ D,H1 D=none->∃ W:Nat->Nat->Hp->Prop,(∃ m,W 0 m (upd H1 D (.lst [])))/\∀ i m H,W i m H→
 (J.stop i H/\Q (.ref D) H)∨(J.go i H/\∃ N:Hp->Prop,(∀ H',N H'->∃ m',m'<m/\W (i+1) m' H')/\∀ x H',J.yld i H x H'→
  g x (stC src σ) H' fun σ2 H2=>Wk (stC src σ) σ2/\tt σ2 H2 fun b H3=>if b=true then te σ2 H3 fun v H4=>∃ ys,H4 D=some (.lst ys)/\ys.length<sizeLine/\N (upd H4 D (.lst (ys++[v]))) else N H3)
def fM {prog:Program} {w:World} {A:Around} {R:Result->Shared->Prop} {s:Shared} {elt target iter:Expr} {ifs:List Expr} {scope:Scope} {pos:Pos} {it acc:Value} {env:Env} (I:Nat->Shared->Prop)
  (turn:∀ n s,I n s->wpAny (model prog w) A (pyNext it) (fun r s₁=>match r with
   | none=>R (.ok .next) s₁
   | some v=>wpAny (model prog w) A (letOwnedTupleGo target it v) (fun _ s₁'=>wpAny (model prog w) A (assign target env v) (fun _ s₂ =>
       wpAny (model prog w) A (forIn ifs true fun c r=>if r=true then do let ok <- isTrue c env (eval c env);pure (ForInStep.yield ok) else pure (ForInStep.yield r)) (fun ok s₃ =>
        if ok=true then wpAny (model prog w) A (eval elt env) (fun x s₄ =>
         wpAny (model prog w) A (call (.builtin "list.append") [acc,x]) (fun _ s₅=>∃ m,m<n/\I m s₅) (fun _ _=>False) s₄) (fun _ _=>False) s₃
        else ∃ m,m<n/\I m s₃) (fun _ _=>False) s₂) (fun _ _=>False) s₁') (fun _ _=>False) s₁) (fun _ _=>False) s)
  (n:Nat) (h:I n s) :
  codeAny (model prog w) A (.compLoop (.ListComp elt [⟨target,iter,ifs,0⟩] scope pos) 0 it acc env) R s:=by
 refine codeAny_loop rfl I (fun n s hI=>?_) n h
 show wpAny _ A ((compTurn (.ListComp elt [⟨target,iter,ifs,0⟩] scope pos) 0 it acc env).onRaise (fun x=>do noteFrame x env;theTreesLotGoes x)) _ _ s
 refine wpAny_noted ?_
 rw [compTurn_list]
 refine wB (wpAny_standAt (wB (wpAny_mono (turn n s hI) (fun r s₁ h₁=>?_) fun _ _ h'=>h'.elim)))
 cases r with
 | none=>exact wpAny_pure h₁
 | some v =>
  refine wB (wpAny_mono h₁ (fun _ s₁' h₁'=>?_) fun _ _ h'=>h'.elim)
  refine wB (wpAny_mono h₁' (fun _ s₂ h₂=>wB (wpAny_mono h₂ (fun ok s₃ h₃=>?_) fun _ _ h'=>h'.elim)) fun _ _ h'=>h'.elim)
  cases ok with
  | false=>exact wpAny_pure ⟨rfl,h₃⟩
  | true =>
   exact wB (wB (wpAny_mono h₃ (fun x s₄ h₄=>wB (wpAny_mono h₄ (fun _ s₅ h₅=>wpAny_pure (wpAny_pure ⟨rfl,h₅⟩)) fun _ _ h'=>h'.elim)) fun _ _ h'=>h'.elim))
section
variable {X:Cx} {elt tg iter:Expr} {ifs:List Expr} {scope:Scope} {pos:Pos} {M:List Str} {src:List (Option Nat)} {wi:TI} {g:TG} {tt:TT} {te:TE}
def kE {env:Env} {scope:Scope} {x:Str} (hn:∀ y∈scope.names,y.2≠.cell) (h:(relabel scope env).names.lookup x=some .cell∨(relabel scope env).names.lookup x=some .free):(x,NameKind.free)∈scope.names:=by
 have key:∀ k,(relabel scope env).names.lookup x=some k->(k=.cell∨k=.free)->(x,NameKind.free)∈scope.names:=by
  intro k hk hkk
  have hm:=PySem.mem_of_lookup hk
  unfold relabel at hm
  obtain ⟨⟨n,k0⟩,hy,e⟩:=List.mem_map.mp hm
  dsimp only at e
  split at e
  · rename_i hc
    simp only [Bool.and_eq_true] at hc
    have:k0=.free:=by simpa using hc.1.1
    subst this
    cases e
    exact hy
  · cases e
    rcases hkk with z | z
    · subst z;exact absurd rfl (hn _ hy)
    · subst z;exact hy
 rcases h with h | h
 · exact key _ h (.inl rfl)
 · exact key _ h (.inr rfl)
def lU {pins:List (Addr×Obj)} {σ:St} {H:Hp} {s s1:Shared} {fp:List Addr} {m1:Str->Option Value} (S:CmpScope X.N X.env.scope scope M src) (I:Inv X pins σ H s) (hf:∀ b∈fp,e9 X pins H b)
  (hfl:∀ b∈fp,b<s.heap.objs.size) (hn:s1.heap.Ns s.heap.objs.size m1) (hk:∀ b o,s.heap.get? b=some o->s1.heap.get? b=some o) (hos:s1.os=s.os) (hg:s1.gens=s.gens) :
  Inv (cxC X M scope s.heap.objs.size s H fp) [] (stC src σ) H s1:=by
 have hcells:∀ x∈scope.names,x.2=.free->∃ c,X.env.cells.lookup x.1=some c:=fun x hx hfr=>I.ok.has x.1 (S.free x hx hfr)
 have sub:∀ x c,(lS scope.names X.env.cells).lookup x=some c->X.env.cells.lookup x=some c:=fun x c h=>d5 hcells h
 have cellK:∀ c v,s.heap.IsCell c v->s1.heap.IsCell c v:=fun c v ⟨o,ho,hd⟩=>⟨o,hk c o ho,hd⟩
 refine ⟨⟨I.ok.mod,S.kind,I.ok.glob,I.ok.blt,nL _,fun y z c h1 h2=>I.ok.inj y z c (sub _ _ h1) (sub _ _ h2),fun x hx=>lT (kE S.nocell hx),fun x c h=>(nomatch h),I.ok.hd,I.ok.frames,.inl rfl,
  fun b hb=>⟨Nat.ne_of_lt (hfl b hb),fun x c h=>(hf b hb).2.2.2.2.1 x c (sub _ _ h)⟩,I.bs,Nat.le_trans I.ok.bsz I.sz,fun b o e hb=>?_,fun b hb z=>?_,I.stack,I.stkFree⟩,
  hos,(by rw [hg];exact I.bare),Un.kept hk,⟨m1,hn,fun i x v h1 h2 h3=>?_⟩,fun x c h=>?_,I.hok.fresh (Nat.le_refl _),fun x c h=>I.freeC x c (sub _ _ h),fun p hp=>absurd hp (by simp [cxC]),I.hok.kept hk,?_⟩
 · rcases (hf b hb).2.2.2.1 with z | z
   · exact I.ok.noex b o e z
   · exact absurd (Nat.lt_of_lt_of_le (Heap.lt_size e) (Nat.le_trans I.ok.bsz z)) (Nat.lt_irrefl _)
 · rcases List.mem_cons.mp (I.stkSub b z) with q | q
   · exact (hf b hb).2.1 q
   · exact (hf b hb).2.2.1 q
 · -- a name taken over
   have h1:M[i]?=some x:=h1
   unfold stC at h2
   rw [List.getElem?_map] at h2
   cases hs:src[i]? with
   | none=>rw [hs] at h2;cases h2
   | some o =>
    rw [hs] at h2
    simp only [Option.map_some,Option.some.injEq] at h2
    cases o with
    | none=>cases h2
    | some j =>
     simp only [Option.bind_some] at h2
     have hmem:(x,some j)∈M.zip src:=by
      have:(M.zip src)[i]?=some (x,some j):=by rw [List.getElem?_zip_eq_some];exact ⟨h1,hs⟩
      exact List.mem_of_getElem? this
     obtain ⟨hN,hfr⟩:=S.src _ hmem j rfl
     have hσ:σ[j]?=some (some v):=by
      cases e:σ[j]? with
      | none=>rw [e] at h2;cases h2
      | some o=>rw [e] at h2;simp only [Option.join_some] at h2;rw [h2]
     have hkind:=S.free _ hfr rfl
     obtain ⟨m,hm,hl⟩:=I.loc
     obtain ⟨u,r,l⟩:=hl j x v hN hσ (.inr hkind)
     refine ⟨u,r,?_⟩
     have hloc:X.env.kindOf x≠some .local:=by
      show X.env.scope.names.lookup x≠_
      rcases hkind with q | q<;>rw [q]<;>decide
     rcases l with l | ⟨_,c,e,z⟩
     · exact absurd l.1 hloc
     · obtain ⟨c',e'⟩:=lT (cells:=X.env.cells) hfr
       have:=sub _ _ e'
       rw [e] at this
       cases this
       refine .inr ⟨?_,c,e',cellK _ _ z⟩
       rcases h3 with q | q
       · exact absurd q (by
          -- a name that is free in the block is not local there
          exact (by
           intro q
           have:scope.names.lookup x=some .local:=by
            have hb:∀ (names:List (Str×NameKind)),(names.map fun (n,k)=>if (k==NameKind.free&&X.env.scope.kind==.function&&X.env.kindOf n==some .cell) then (n,NameKind.cell) else (n,k)).lookup x=some .local->names.lookup x=some .local:=by
             intro names
             induction names with
             | nil=>intro h;simp at h
             | cons y r ih =>
              obtain ⟨n,k⟩:=y
              intro h
              simp only [List.map_cons] at h
              by_cases hx:x=n
              · subst hx
                split at h
                · simp [List.lookup_cons] at h
                · simpa [List.lookup_cons] using h
              · have hx':(x==n)=false:=by simpa using hx
                split at h
                · simp only [List.lookup_cons,hx'] at h ⊢;exact ih h
                · simp only [List.lookup_cons,hx'] at h ⊢;exact ih h
            exact hb _ q
           rw [S.lf _ hfr rfl] at this
           cases this))
       · exact q
 · obtain ⟨v,z⟩:=I.cell x c (sub _ _ h)
   exact ⟨v,cellK _ _ z⟩
 · show (stC src σ).length=M.length
   unfold stC
   rw [List.length_map,S.len]
def lV (S:CmpScope X.N X.env.scope scope M src) (hc:X.calm=true) (hi:PI X tg iter wi) (hg:M.Nodup->∀ C s H ex,PG (cxC X M scope C s H ex) tg g) (ht:∀ C s H ex,PTs (cxC X M scope C s H ex) ifs tt)
  (he:∀ C s H ex,PE (cxC X M scope C s H ex) elt te) (hs:∀ x,foldedSetIterable iter X.env x=pure x:=by intro _;rfl) :
  PE X (.ListComp elt [⟨tg,iter,ifs,0⟩] scope pos) (iC src wi g tt te):=by
 intro pins s σ H Q I h
 rw [eval_ListComp]
 have hcells:∀ x∈scope.names,x.2=.free->∃ c,X.env.cells.lookup x.1=some c:=fun x hx hfr=>I.ok.has x.1 (S.free x hx hfr)
 refine wpAny_comprehension_free (use:=none) rfl hs (iB hcells) S.kind S.names (thn (hi pins s σ H _ I h) fun v s1 h1=>thn h1 fun itv s2 h2=>?_)
 obtain ⟨it,fp,tn,J,H2,rfl,I2,T,st2,f2,hq⟩:=h2
 refine wpAny_newObj_type ?_
 have I3:Inv X pins σ (upd H2 s2.heap.objs.size (.lst [])) {s2 with heap:=s2.heap.push {cls:=.type "list",dict:=none,data:=.seq ([]:List Value).toArray},toks:=s2.toks}:=I2.lnew (its:=[]) (ys:=[]) (t':=s2.toks) .nil (by simp)
 have hD:H2 s2.heap.objs.size=none:=I2.fresh
 obtain ⟨W,⟨m0,w0⟩,turn⟩:=hq _ hD
 generalize hDn:s2.heap.objs.size=D at*
 generalize hs3:({s2 with heap:=s2.heap.push {cls:=.type "list",dict:=none,data:=.seq ([]:List Value).toArray},toks:=s2.toks}:Shared)=s3 at*
 have f3:∀ b∈fp,e9 X pins (upd H2 D (.lst [])) b:=fun b hb=>⟨by
  obtain ⟨o,e,_⟩:=T.obj _ _ st2 b hb
  rw [aJ (by rw [<- hDn];exact Nat.ne_of_lt (Heap.lt_size e))]
  exact (f2 b hb).1,(f2 b hb).2⟩
 have k23:∀ b o,s2.heap.get? b=some o->s3.heap.get? b=some o:=fun b o e=>by rw [<- hs3];exact gP _ e
 have st3:tn 0 s3.heap:=T.keep _ _ _ st2 fun b _ o e=>k23 b o e
 have fl3:∀ b∈fp,b<s3.heap.objs.size:=fun b hb=>by
  obtain ⟨o,e,_⟩:=T.obj _ _ st3 b hb
  exact Heap.lt_size e
 refine wpAny_newFunctionEnv S.nocell (by intro y hy;simp at hy) (fun h₁ hns₁ hsb₁=>?_) S.kind
 have k34:∀ b o,s3.heap.get? b=some o->h₁.get? b=some o:=fun b o e=>hsb₁.extBut b o (Nat.ne_of_lt (Heap.lt_size e)) (gP _ e)
 generalize hs4:({s3 with heap:=h₁,toks:=s3.toks+([]:List (Str×Value)).length}:Shared)=s4
 have I4:Inv (cxC X M scope s3.heap.objs.size s3 (upd H2 D (.lst [])) fp) [] (stC src σ) (upd H2 D (.lst [])) s4:=by
  rw [<- hs4]
  exact lU S I3 f3 fl3 hns₁ k34 rfl rfl
 have st4:tn 0 s4.heap:=T.keep _ _ _ st3 fun b _ o e=>by rw [<- hs4];exact k34 b o e
 generalize hX':cxC X M scope s3.heap.objs.size s3 (upd H2 D (.lst [])) fp=X' at*
 have hg':PG X' tg g:=by rw [<- hX'];exact hg S.nd _ _ _ _
 have ht':PTs X' ifs tt:=by rw [<- hX'];exact ht _ _ _ _
 have he':PE X' elt te:=by rw [<- hX'];exact he _ _ _ _
 have eP:X'.prog=X.prog:=by rw [<- hX'];rfl
 have eW:X'.w=X.w:=by rw [<- hX'];rfl
 have eK:X'.K=X.K:=by rw [<- hX'];rfl
 have eA:X'.A=X.A:=by rw [<- hX'];rfl
 have ex':X'.xe=fun _ _=>False:=by rw [<- hX'];rfl
 have ec:X'.calm=true:=by rw [<- hX'];exact hc
 have eE:X'.env=compEnvC scope (lS scope.names X.env.cells) s3.heap.objs.size X.env:=by rw [<- hX'];rfl
 have stat:∀ {H':Hp},(∀ b∈fp,H' b=none)->∀ b∈fp,e9 X' [] H' b:=fun hn b hb=>by
  rw [<- hX']
  refine ⟨hn b hb,Nat.ne_of_lt (fl3 b hb),fun z=>?_,.inl hb,fun x c h=>(f3 b hb).2.2.2.2.1 x c (d5 hcells h),fun p hp=>absurd hp (by simp [cxC])⟩
  rcases List.mem_cons.mp (I3.stkSub b z) with q | q
  · exact (f3 b hb).2.1 q
  · exact (f3 b hb).2.2.1 q
 -- behind the block
 have fin:∀ (H':Hp) (s':Shared),Inv X' [] (stC src σ) H' s'->Q (.ref D) H'->compPost (model X.prog X.w) X.A X.xe none (EP X pins σ Q) (.ref D) s3.heap.objs.size (.ok .next) s':=by
  intro H' s' J' q
  rw [<- hX'] at J'
  obtain ⟨m,hn,_⟩:=id J'.loc
  refine ⟨m,hn,fun h' sb=>⟨.ref D,H',?_,rfl,q⟩⟩
  have hC:H' s3.heap.objs.size=none:=J'.free
  have un:Un (frs X.stack) fp (upd H2 D (.lst [])) H' s3.heap s'.heap:=J'.base
  have kC:∀ b o,b≠s3.heap.objs.size->s'.heap.get? b=some o->h'.get? b=some o:=fun b o hb e=>sb.extBut b o hb e
  have un':Un (frs X.stack) fp (upd H2 D (.lst [])) H' s3.heap h':=
   ⟨fun b o e n hb hx=>kC b o (Nat.ne_of_lt (Heap.lt_size e)) (un.keep b o e n hb hx),
    fun b o e n hb hx=>by
     obtain ⟨sl,e'⟩:=un.slot b o e n hb hx
     exact ⟨sl,kC b _ (Nat.ne_of_lt (Heap.lt_size e)) e'⟩,
    un.free,
    fun b o e hx=>by
     obtain ⟨o',e'⟩:=un.there b o e hx
     exact ⟨o',kC b _ (Nat.ne_of_lt (Heap.lt_size e)) e'⟩,un.tups,un.frzs,un.tbls⟩
  have hok':HOk X.prog X.w H' h':=fun b u e=>by
   have nb:b≠s3.heap.objs.size:=fun z=>by rw [z,hC] at e;cases e
   refine (J'.hok b u e).stay (fun c v hc' q=>kC c v ?_ q) (fun _ q=>q) fun _ _ q=>q
   rcases hc' with z | z
   · rw [z];exact nb
   · intro w;rw [w,hC] at z;cases z
  exact I3.call' (s':={s' with heap:=h'}) (show s'.os=s3.os from J'.os) un' hok' J'.bare fun b hb=>⟨(f3 b hb).2.2.2.1,(f3 b hb).2.1,(f3 b hb).2.2.2.2.1,(f3 b hb).2.2.2.2.2⟩
 have loop:∀ s4':Shared,s4'=s4->codeAny (model X.prog X.w) X.A (.compLoop (.ListComp elt [⟨tg,iter,ifs,0⟩] scope pos) 0 (.ref it) (.ref D) X'.env) (compPost (model X.prog X.w) X.A X.xe none (EP X pins σ Q) (.ref D) s3.heap.objs.size) s4':=by
  rintro _ rfl
  refine fM (fun n s'=>∃ i H',Inv X' [] (stC src σ) H' s'/\tn i s'.heap/\(∀ b∈fp,H' b=none)/\W i n H') ?_ m0 ⟨0,_,I4,st4,fun b hb=>(f3 b hb).1,w0⟩
  rintro n s5 ⟨i,H5,I5,st5,fr5,w5⟩
  rcases turn i n H5 w5 with ⟨stop,qn⟩ | ⟨go,N,hN,step⟩
  · have:=T.done X' eP eW eK ec i [] s5 (stC src σ) H5 (fun _ _=>False) I5 (stat fr5) st5 stop
    rw [eA] at this
    refine thn this fun r s6 ⟨hr,I6⟩=>?_
    subst hr
    exact fin H5 s6 I6 qn
  · have:=T.item X' eP eW eK ec i [] s5 (stC src σ) H5 (fun _ _=>False) I5 (stat fr5) st5 go
    rw [eA] at this
    refine thn this fun r s6 ⟨u,hr,h6⟩=>?_
    subst hr
    refine thn h6 fun _ s7 ⟨x,H7,I7,r7,y7,st7,fr7⟩=>?_
    have I7':=I7.pinned (stat fr7) (T.obj _ _ st7)
    have a1:=hg' _ s7 (stC src σ) H7 x u _ I7' r7 (step x H7 y7)
    rw [ex',eP,eW,eA] at a1
    refine thn a1 fun _ s8 ⟨σ8,H8,I8,wk8,q8⟩=>?_
    have a2:=ht' _ s8 σ8 H8 _ I8 q8
    rw [ex',eP,eW,eA] at a2
    refine thn a2 fun ok s9 ⟨H9,I9,q9⟩=>?_
    have again:∀ {H7':Hp} {s':Shared},Inv X' ([]++gy fp s7.heap) σ8 H7' s'->N H7'->∃ m,m<n/\∃ i H',Inv X' [] (stC src σ) H' s'/\tn i s'.heap/\(∀ b∈fp,H' b=none)/\W i m H':=fun {H7' s'} J7 n7=>by
     obtain ⟨m',hm,w7⟩:=hN H7' n7
     refine ⟨m',hm,i+1,H7',J7.unpinned.weak wk8.1 wk8.2,T.keep _ _ _ st7 fun b hb o e=>(J7.pin (b,o) (List.mem_append_right _ (List.mem_append_right _ (cq hb e)))).1,fun b hb=>?_,w7⟩
     obtain ⟨o,e,d⟩:=T.obj _ _ st7 b hb
     exact (J7.pin (b,o) (List.mem_append_right _ (List.mem_append_right _ (cq hb e)))).2.1
    cases ok with
    | false=>exact again I9 q9
    | true =>
     have a3:=he' _ s9 σ8 H9 _ I9 q9
     rw [ex',eP,eW,eA] at a3
     refine thn a3 fun v s10 ⟨y,H10,I10,r10,ys,hl,hz,q10⟩=>?_
     have a4:=ez (X:=X') _ s10 σ8 H10 (.ref D) [y] (.ref D) [v] (fun _ H'=>N H') I10 rfl (.cons r10 .nil) ⟨D,ys,y,rfl,rfl,hl,hz,q10⟩
     rw [ex',eP,eW,eA] at a4
     refine thn a4 fun _ s11 ⟨_,H11,I11,_,q11⟩=>?_
     exact again I11 q11
 have e4:∀ c:Env,c=X'.env->codeAny (model X.prog X.w) X.A (.compStart (.ListComp elt [⟨tg,iter,ifs,0⟩] scope pos) 0 (.ref it) (.ref D) c) (compPost (model X.prog X.w) X.A X.xe none (EP X pins σ Q) (.ref D) s3.heap.objs.size) s4:=by
  rintro _ rfl
  exact codeAny_compStart_list (loop _ rfl) (T.self _ _ _ _ _ st4 (loop _ rfl))
 exact e4 _ (by rw [eE];rfl)
end
def Its (x:Str):It:=⟨fun i _=>i<x.cps.size,fun i H v H'=>H'=H/\∃ c,x.cps[i]?=some c/\v=.str ⟨#[c]⟩,fun i _=>i=x.cps.size⟩
def qd {P:Program} {w:World} {K:PySem.W.Frag} {tg:Expr} (x:Str) (t:Tok) (it:Addr):Turn P w K tg (Its x) [it] it (fun i h=>h.IsStrIter it "str_ascii_iterator" x t i) where
 mem:=by simp
 obj:=fun i h st b hb=>by
  have e:b=it:=by simpa using hb
  subst e
  obtain ⟨o,e,c,d⟩:=st
  exact ⟨o,e,fun v z=>by rw [d] at z;cases z⟩
 keep:=fun i h h' st k=>let ⟨o,ho,r⟩:=st;⟨o,k it (by simp) o ho,r⟩
 item:=by
  intro X hP hw hK hc i pins s σ H E I hf st hg
  subst hP hw hK
  obtain ⟨f0,f1,f2,f3,f4,f5⟩:=hf it (by simp)
  have hg:i<x.cps.size:=hg
  refine wpAny_pyNext_ascii_item st (c:=x.cps[i]) (by simp [hg]) fun h' st' sb=>?_
  have I1:Inv X pins σ H {s with heap:=h',toks:=s.toks+1}:=I.turned (t':=s.toks+1) (fun b o hb e=>(sb.2 b hb).trans e) f0 f1 f3 f4 f5
  obtain ⟨o,e,c,d⟩:=id st'
  exact ⟨_,rfl,jv (s:={s with heap:=h',toks:=s.toks+1}) e c d (by decide) ⟨.str ⟨#[x.cps[i]]⟩,H,I1,⟨_,rfl⟩,⟨rfl,x.cps[i],by simp [hg],rfl⟩,st',fun b hb=>(hf b hb).1⟩⟩
 done:=by
  intro X hP hw hK hc i pins s σ H E I hf st hg
  subst hP hw hK
  have hg:i=x.cps.size:=hg
  obtain ⟨f0,f1,f2,f3,f4,f5⟩:=hf it (by simp)
  exact wpAny_pyNext_ascii_end (I.ok.hd hc) st (by simp [hg]) fun h' eb=>⟨rfl,I.turned (t':=s.toks) (fun b o hb e=>eb b o hb e) f0 f1 f3 f4 f5⟩
 self:=fun _ _ _ _ _ st h=>wpAny_pyIter_striter_ascii st h
def qe {P:Program} {w:World} {K:PySem.W.Frag} {tg:Expr} (x:Str) (t:Tok) (it:Addr):Turn P w K tg (Its x) [it] it (fun i h=>h.IsStrIter it "str_iterator" x t i) where
 mem:=by simp
 obj:=fun i h st b hb=>by
  have e:b=it:=by simpa using hb
  subst e
  obtain ⟨o,e,c,d⟩:=st
  exact ⟨o,e,fun v z=>by rw [d] at z;cases z⟩
 keep:=fun i h h' st k=>let ⟨o,ho,r⟩:=st;⟨o,k it (by simp) o ho,r⟩
 item:=by
  intro X hP hw hK hc i pins s σ H E I hf st hg
  subst hP hw hK
  obtain ⟨f0,f1,f2,f3,f4,f5⟩:=hf it (by simp)
  have hg:i<x.cps.size:=hg
  refine wpAny_pyNext_wide_item st (c:=x.cps[i]) (by simp [hg]) fun h' st' sb=>?_
  have I1:Inv X pins σ H {s with heap:=h',toks:=s.toks+1}:=I.turned (t':=s.toks+1) (fun b o hb e=>(sb.2 b hb).trans e) f0 f1 f3 f4 f5
  obtain ⟨o,e,c,d⟩:=id st'
  exact ⟨_,rfl,jv (s:={s with heap:=h',toks:=s.toks+1}) e c d (by decide) ⟨.str ⟨#[x.cps[i]]⟩,H,I1,⟨_,rfl⟩,⟨rfl,x.cps[i],by simp [hg],rfl⟩,st',fun b hb=>(hf b hb).1⟩⟩
 done:=by
  intro X hP hw hK hc i pins s σ H E I hf st hg
  subst hP hw hK
  have hg:i=x.cps.size:=hg
  obtain ⟨f0,f1,f2,f3,f4,f5⟩:=hf it (by simp)
  exact wpAny_pyNext_wide_end (I.ok.hd hc) st (by simp [hg]) fun h' eb=>⟨rfl,I.turned (t':=s.toks) (fun b o hb e=>eb b o hb e) f0 f1 f3 f4 f5⟩
 self:=fun _ _ _ _ _ st h=>wpAny_pyIter_striter_wide st h
section
variable {X:Cx} {tg:Expr}
def iStr (tl:TE):TI:=fun σ H R=>tl σ H fun v H1=>∃ x,v=.str x/\R (Its x) H1
def rz {l:Expr} {tl:TE} (hl:PE X l tl):PI X tg l (iStr tl):=by
 intro pins s σ H R I h
 refine thn (hl pins s σ H _ I h) fun v s1 ⟨y,H1,I1,r1,q1⟩=>?_
 obtain ⟨x,e,q⟩:=q1
 subst e
 obtain ⟨t,rfl⟩:=r1
 have fin:∀ b∈[s1.heap.objs.size],e9 X pins H1 b:=fun b hb=>by
  have e:b=s1.heap.objs.size:=by simpa using hb
  subst e
  exact I1.fpOk (nL _) (I1.hok.fresh (nL _))
 cases ha:x.cps.all (· < 128)
 · refine wpAny_pyIter_wide ha ?_
   exact ⟨s1.heap.objs.size,[s1.heap.objs.size],_,_,H1,rfl,I1.kept (t':=s1.toks) fun b o e=>gP _ e,qe x t _,⟨_,Heap.get?_push_size _ rfl,rfl,rfl⟩,fin,q⟩
 · refine wpAny_pyIter_ascii ha ?_
   exact ⟨s1.heap.objs.size,[s1.heap.objs.size],_,_,H1,rfl,I1.kept (t':=s1.toks) fun b o e=>gP _ e,qd x t _,⟨_,Heap.get?_push_size _ rfl,rfl,rfl⟩,fin,q⟩
def jF:∀ {ts:List Str} {us:List Value},Vals (ts.map V.str) us->∃ l,us=strValues l/\l.map (·.1)=ts
 | [],_,.nil=>⟨[],rfl,rfl⟩
 | x::r,_,.cons h t=>by
  obtain ⟨tk,rfl⟩:=h
  obtain ⟨l,e1,e2⟩:=jF t
  exact ⟨(x,tk)::l,by rw [e1];rfl,by rw [<- e2];rfl⟩
def ut:MtR X "str.join" (fun x vs H Q=>∃ (a:Str) (l:Addr) (ts:List Str),x=.str a/\vs=[.ref l]/\SqL X.K H l (ts.map V.str)/\JoinOk a ts=true/\Q (.str (Txt.join a ts)) H):=by
 intro pins s σ H x vs v us Q I rx rv h
 obtain ⟨a,l,ts,rfl,rfl,hq,hj,q⟩:=h
 obtain ⟨t,rfl⟩:=rx
 obtain ⟨u,rfl,ru⟩:=rv.one
 cases ru
 obtain ⟨its,r,p,hz⟩:=I.list hq
 obtain ⟨ls,rfl,e2⟩:=jF r
 exact SC.join p.isList e2 hj fun t' k=>⟨.str _,H,I.tok _,⟨_,rfl⟩,q⟩
def oU {v:Value} {o:Option Int} (h:IsPart v o):∃ p:Option (Int×Tok),v=partValue p/\o=p.map (·.1):=by
 cases o with
 | none=>exact ⟨none,by cases h<;>rfl,rfl⟩
 | some i =>
  cases h
  exact ⟨some (i,_),rfl,rfl⟩
def rSlS:V->Option Int->Option Int->Hp->VK->Prop:=fun x lo hi H Q=>∃ z,x=.str z/\z.length<=sizeLine/\Q (.str (Txt.slice z lo hi)) H
def xB:SlR X rSlS:=by
 intro pins s σ H x v vl vu lo hi sl Q I rx hs pl pu h
 obtain ⟨z,rfl,hz,q⟩:=h
 obtain ⟨t,rfl⟩:=rx
 obtain ⟨l,rfl,rfl⟩:=oU pl
 obtain ⟨u,rfl,rfl⟩:=oU pu
 refine ⟨"str",_,F.slot_str_getitem.lookup,typeIs_str _ _ _,?_⟩
 exact wpAny_getItem_str_slice (l:=l) (u:=u) (st:=none) hs rfl (post_val_or_str ⟨Nat.le_trans (Txt.slice_le z _ _) hz,fun t' k=>⟨.str _,H,I.tok _,⟨_,rfl⟩,q⟩⟩)
end
def bW:bootBuiltins "len"=some (.builtin "len"):=by first | exact PySem.boot_len | exact PyProof.Rows.boot_len | decide +kernel
def jp:bootBuiltins "isinstance"=some (.builtin "isinstance"):=by first | exact PySem.boot_isinstance | exact PyProof.Rows.boot_isinstance | decide +kernel
def nG:bootBuiltins "max"=some (.builtin "max"):=by first | exact PySem.boot_max | exact PyProof.Rows.boot_max | decide +kernel
def xC:bootBuiltins "min"=some (.builtin "min"):=by first | exact PySem.boot_min | exact PyProof.Rows.boot_min | decide +kernel
def jG:bootBuiltins "sorted"=some (.builtin "sorted"):=by first | exact PySem.boot_sorted | exact PyProof.Rows.boot_sorted | decide +kernel
def rA:bootBuiltins "str"=some (.type "str"):=by first | exact PySem.boot_str | exact PyProof.Rows.boot_str | decide +kernel
def iD:bootBuiltins "tuple"=some (.type "tuple"):=by first | exact PySem.boot_tuple | exact PyProof.Rows.boot_tuple | decide +kernel
def kF:bootBuiltins "list"=some (.type "list"):=by first | exact PySem.boot_list | exact PyProof.Rows.boot_list | decide +kernel
def kG:bootBuiltins "enumerate"=some (.type "enumerate"):=by first | exact PySem.boot_enumerate | exact PyProof.Rows.boot_enumerate | decide +kernel
structure OkF (P:Program) (w:World) (K:PySem.W.Frag) (mg:Str->Option Value) (base:Heap) (x:Str) (k:Nat) (ps:List Str) (sp:Sp):Prop where
 ex:∃ f fd,mg x=some (.ref f)/\PySem.W.keepIn K (.ref f)=true/\Binds K fd ps []/\FnOk P w K mg base CX0 k f fd ps sp
structure DefF (K:PySem.W.Frag) (mg:Str->Option Value) (x:Str) (st:Stmt) (ps:List Str):Prop where
 ex:∃ f fd,mg x=some (.ref f)/\PySem.W.keepIn K (.ref f)=true/\Binds K fd ps []/\Fun K x x st f fd
section
variable {P:Program} {w:World} {K:PySem.W.Frag} {mg:Str->Option Value} {base:Heap}
def DefF.ok {x:Str} {st:Stmt} {N ps:List Str} {k:Nat} {sp:Sp} (F:DefF K mg x st ps) (S:FnScope N ps (aa st)) (len:∀ vs H Q E,sp vs H Q E->vs.length=ps.length)
  (hbody:∀ (f:Addr) (cdv:Value) (A:Around) (outer:List Env) (s:Shared) (H:Hp) (vs:List V) (Q:VK) (E:XK),Room k (A.deeper (envOfC x (aa st) s.heap.objs.size f cdv))->sp vs H Q E→
   ∃ t,PSs (jn CX0 P w K mg base N x (aa st) f cdv A outer s H E).nox (aK st) t/\t {nx:=fun _ H'=>Q .non H',rt:=Q} (start N vs) H):OkF P w K mg base x (k+1) ps sp:=by
 obtain ⟨f,fd,h1,h2,h3,h4⟩:=F.ex
 exact ⟨f,fd,h1,h2,h3,h4.ok S len (hbody f)⟩
def DefF.mk' {x:Str} {st:Stmt} {ps:List Str} {f:Addr} {oc:Value} {od an:Option Addr} {osl:Array (Option Value)} {kV doc pm cdv ct:Value} {h:Heap} (X:K.In h) (G:h.Ns mainGlobals mg)
  (a:PySem.W.nsIn K mainGlobals x=some (some (.ref f)))
  (l:K.lookup f=some ⟨oc,od,.func (PySem.W.fnOf x x (aQ st) (aK st) (aa st) .none kV doc pm an cdv ct),osl⟩) (c:PySem.W.codeIn K cdv x=true) (k:PySem.W.keepIn K (.ref f)=true)
  (hb:∀ (kV doc pm:Value) (an:Option Addr) (cdv ct:Value) (us:List Value),us.length=ps.length->bindArgs (PySem.W.fnOf x x (aQ st) (aK st) (aa st) .none kV doc pm an cdv ct) ⟨us,[]⟩=pure (ps.zip us)):DefF K mg x st ps:=
 ⟨f,_,PySem.W.mg_of X G a,k,(nF l c k).binds hb,nF l c k⟩
end
section
variable {X:Cx} {k:Nat} {ps:List Str} {sp:Sp} {x:Str} {p pos:Pos} {e:Expr} {es:List Expr} {t:TA}
def rB (F:OkF X.prog X.w X.K X.mg X.base x k ps sp) (hr:Room k X.A) (hg:Gl X x) (ha:PA X (e::es) t) (hdb:(x==("__debug__":Str))=false:=by decide)
  (he:starEach (e::es) X.env=(false,eval e X.env)::starEach es X.env:=by rfl) (hpl:(backTo pos (starEach es X.env)).any (·.1)=false:=by rfl):PE X (.Call (.Name x p) (e::es) [] pos) (qZ sp [] E0 t):=by
 obtain ⟨f,fd,h1,h2,h3,h4⟩:=F.ex
 exact uc h4 hr hg h1 h2 h3 .nil zL ha hdb he hpl
end
noncomputable def v7 (N:List Str) (outer scope:Scope) (M:List Str) (src:List (Option Nat)):Bool:=
 (match scope.kind with | .function=>true | _=>false)&&
 scope.names.all (fun y=>decide (y.2≠.cell))&&
 scope.names.all (fun y=>!decide (y.2=.free)||(decide (outer.names.lookup y.1=some .cell)||decide (outer.names.lookup y.1=some .free)))&&
 scope.names.all (fun y=>!decide (y.2=.local)||decide (scope.names.lookup y.1=some .local))&&
 scope.names.all (fun y=>!decide (y.2=.free)||decide (scope.names.lookup y.1=some .free))&&
 decide (M.length=src.length)&&decide M.Nodup&&
 (M.zip src).all (fun p=>match p.2 with | none=>true | some j=>decide (N[j]?=some p.1)&&decide ((p.1,NameKind.free)∈scope.names))
def CmpScope.of {N:List Str} {outer scope:Scope} {M:List Str} {src:List (Option Nat)} (h:v7 N outer scope M src=true):CmpScope N outer scope M src:=by
 unfold v7 at h
 simp only [Bool.and_eq_true,List.all_eq_true,Bool.or_eq_true,Bool.not_eq_true',decide_eq_true_eq,decide_eq_false_iff_not] at h
 obtain ⟨⟨⟨⟨⟨⟨⟨h1,h2⟩,h3⟩,h4⟩,h5⟩,h6⟩,h7⟩,h8⟩:=h
 refine ⟨?_,h2,fun y hy e=>(h3 y hy).resolve_left fun z=>z e,fun y hy e=>(h4 y hy).resolve_left fun z=>z e,fun y hy e=>(h5 y hy).resolve_left fun z=>z e,h6,h7,fun p hp j hj=>?_⟩
 · revert h1
   cases scope.kind<;>simp
 · have:=h8 p hp
   cases e:p.2 with
   | none=>rw [e] at hj;cases hj
   | some j' =>
    rw [e] at hj this
    cases hj
    simpa using this
def Plain (J:It) (xs:List V) (ok:Hp->Prop):Prop:=∀ i H,ok H->(i<xs.length->J.go i H)/\(i=xs.length->J.stop i H)/\∀ x H',i<xs.length->J.yld i H x H'->H'=H/\xs[i]?=some x
def plain_list {K:PySem.W.Frag} {a:Addr} {xs:List V}:Plain (Itl K a) xs (fun H=>SqL K H a xs):=fun i H h =>
 ⟨fun hi=>⟨xs,xs[i],h,by simp [hi]⟩,fun e=>⟨xs,h,by omega⟩,fun x H' _ y=>⟨y.1,y.2 xs h⟩⟩
def plain_tup {K:PySem.W.Frag} {a:Addr} {xs:List V}:Plain (Itt K a) xs (fun H=>SqT K H a xs):=fun i H h =>
 ⟨fun hi=>⟨xs,xs[i],h,by simp [hi]⟩,fun e=>⟨xs,h,by omega⟩,fun x H' _ y=>⟨y.1,y.2 xs h⟩⟩
def iE (lo:Int) (n:Nat):List V:=(List.range n).map fun (i:Nat)=>V.int (lo+i)
def plain_range {lo:Int} {n:Nat}:Plain (Itr lo n) (iE lo n) (fun _=>True):=fun i H h=>by
 refine ⟨fun hi=>?_,fun e=>?_,fun x H' hi y=>?_⟩
 · show i<n
   simpa [iE] using hi
 · show n<=i
   simp [iE] at e
   omega
 · obtain ⟨e,rfl⟩:=y
   refine ⟨e,?_⟩
   unfold iE at hi ⊢
   rw [List.length_map,List.length_range] at hi
   rw [List.getElem?_map,List.getElem?_range hi]
   rfl
def oV (x:Str):List V:=x.cps.toList.map fun c=>V.str ⟨#[c]⟩
def plain_str {x:Str}:Plain (Its x) (oV x) (fun _=>True):=fun i H h=>by
 refine ⟨fun hi=>?_,fun e=>?_,fun v H' hi y=>?_⟩
 · show i<x.cps.size
   simpa [oV] using hi
 · show i=x.cps.size
   simpa [oV] using e
 · obtain ⟨e,c,hc,rfl⟩:=y
   refine ⟨e,?_⟩
   unfold oV
   rw [List.getElem?_map,Array.getElem?_toList,hc]
   rfl
noncomputable def v8 (src:List (Option Nat)) (g:TG) (tt:TT) (te:TE) (σ:St) (J:It) (H1:Hp) (Q:VK) (D:Addr):Prop:=∃ W:Nat->Nat->Hp->Prop,(∃ m,W 0 m (upd H1 D (.lst [])))/\∀ i m H,W i m H→
 (J.stop i H/\Q (.ref D) H)∨(J.go i H/\∃ N:Hp->Prop,(∀ H',N H'->∃ m',m'<m/\W (i+1) m' H')/\∀ x H',J.yld i H x H'→
  g x (stC src σ) H' fun σ2 H2=>Wk (stC src σ) σ2/\tt σ2 H2 fun b H3=>if b=true then te σ2 H3 fun v H4=>∃ ys,H4 D=some (.lst ys)/\ys.length<sizeLine/\N (upd H4 D (.lst (ys++[v]))) else N H3)
def lW {src:List (Option Nat)} {wi:TI} {g:TG} {tt:TT} {te:TE} {σ:St} {H:Hp} {Q:VK}:iC src wi g tt te σ H Q=wi σ H fun J H1=>∀ D,H1 D=none->v8 src g tt te σ J H1 Q D:=rfl
noncomputable def ForW (g:TG) (tb:TS) (D:Ends) (J:It) (σ:St) (H1:Hp):Prop:=∃ W:Nat->Nat->St->Hp->Prop,(∃ m,W 0 m σ H1)/\∀ i m σ H,W i m σ H→
 (J.stop i H/\D.nx σ H)∨(J.go i H/\∃ N:St->Hp->Prop,(∀ σ' H',N σ' H'->∃ m',m'<m/\W (i+1) m' σ' H')/\∀ x H',J.yld i H x H'->g x σ H' fun σ2 H2=>tb {D with nx:=N,ct:=N,bk:=D.nx} σ2 H2)
def oW {wi:TI} {g:TG} {tb:TS} {D:Ends} {σ:St} {H:Hp}:tFor wi g tb D σ H=wi σ H fun J H1=>ForW g tb D J σ H1:=rfl
def rC {X:Cx} {x:Str} {v:V} {pos:Pos} (hg:Gl X x) (hm:∃ u,X.mg x=some u/\RelV v u) (hd:(x==("__debug__":Str))=false:=by decide):PE X (.Name x pos) (tC v):=by
 obtain ⟨u,h1,h2⟩:=hm
 exact t6 hg h1 h2 hd
section
variable {X:Cx} {K:PySem.W.Frag} {tg:Expr}
end
def rD (scope outer:Scope):Scope:={scope with names:=scope.names.map fun (n,k)=>if (k==.free&&outer.kind==.function&&outer.names.lookup n==some .cell) then (n,.cell) else (n,k)}
noncomputable def dA (sc:Scope) (N:List Str) (i:Nat) (x:Str):Bool:=
 decide (N[i]?=some x)&&(decide (sc.names.lookup x=some .local)||(decide (sc.names.lookup x=some .cell)||decide (sc.names.lookup x=some .free)))&&!(x==("__debug__":Str))&&!(x==("__classdict__":Str))
def iF (sc:Scope) (x:Str):Bool:=decide (sc.names.lookup x=some .local)||decide (sc.names.lookup x=some .cell)
def aH (sc:Scope) (x:Str):Bool:=decide (sc.names.lookup x=some .globalImplicit)&&!(x==("__debug__":Str))&&!decide (x=("__name__":Str))
section
variable {sc:Scope} {N:List Str} {i:Nat} {x:Str}
def gF (h:dA sc N i x=true):N[i]?=some x:=by
 unfold dA at h
 simp only [Bool.and_eq_true,decide_eq_true_eq] at h
 exact h.1.1.1
def xD (h:dA sc N i x=true):Vis sc x:=by
 unfold dA at h
 simp only [Bool.and_eq_true,Bool.or_eq_true,decide_eq_true_eq] at h
 exact h.1.1.2
def xE (h:dA sc N i x=true):(x==("__debug__":Str))=false:=by
 unfold dA at h
 simp only [Bool.and_eq_true,Bool.not_eq_true'] at h
 exact h.1.2
def zM (h:dA sc N i x=true):(x==("__classdict__":Str))=false:=by
 unfold dA at h
 simp only [Bool.and_eq_true,Bool.not_eq_true'] at h
 exact h.2
def kH (h:iF sc x=true):Loc sc x:=by
 unfold iF at h
 simp only [Bool.or_eq_true,decide_eq_true_eq] at h
 exact h
def y71 (h:aH sc x=true):sc.names.lookup x=some .globalImplicit:=by
 unfold aH at h
 simp only [Bool.and_eq_true,decide_eq_true_eq] at h
 exact h.1.1
def iG (h:aH sc x=true):(x==("__debug__":Str))=false:=by
 unfold aH at h
 simp only [Bool.and_eq_true,Bool.not_eq_true'] at h
 exact h.1.2
def q63 (h:aH sc x=true):x≠("__name__":Str):=by
 unfold aH at h
 simp only [Bool.and_eq_true,Bool.not_eq_true',decide_eq_false_iff_not] at h
 exact h.2
end
def bM (X:Cx) (sc:Scope):Prop:=X.env.scope=sc
section
variable {X:Cx} {sc:Scope} {N:List Str} {x:Str} {pos p:Pos}
def pvD (i:Nat) (h:dA sc N i x=true) (e1:bM X sc:=by rfl) (e2:X.N=N:=by rfl):PE X (.Name x pos) (jm i):=by
 have e1:X.env.scope=sc:=e1
 subst e1 e2
 exact w4 (gF h) (xD h) (xE h) (zM h)
def glD (h:aH sc x=true) (e1:bM X sc:=by rfl):Gl X x:=by
 have e1:X.env.scope=sc:=e1
 subst e1
 exact y71 h
def oX {i:Nat} {e:Expr} {te:TE} {pos':Pos} (h:dA sc N i x=true) (hl:iF sc x=true) (nd:N.Nodup) (he:PE X e te) (e1:bM X sc:=by rfl) (e2:X.N=N:=by rfl) (hf:X.fn x=true∨X.env.scope.names.lookup x=some .local:=by exact .inl rfl)
  (hs:swapsWith e (some (.Name x pos')) pos.line X.env=pure false:=by rfl):PS X (.Assign [.Name x pos'] e pos) (ua te (eU i)):=by
 have e1:X.env.scope=sc:=e1
 subst e1 e2
 exact xh nd (gF h) (kH hl) he hs hf
def aF {i:Nat} (h:dA sc N i x=true) (hl:iF sc x=true) (nd:N.Nodup) (e1:bM X sc:=by rfl) (e2:X.N=N:=by rfl) (hf:X.fn x=true∨X.env.scope.names.lookup x=some .local:=by exact .inl rfl):PG X (.Name x pos) (eU i):=by
 have e1:X.env.scope=sc:=e1
 subst e1 e2
 exact oE nd (gF h) (kH hl) hf
def loOk (sc:Scope) (x:Str):Bool:=decide (sc.names.lookup x=some .local)
def bQ {i:Nat} (h:dA sc N i x=true) (hl:loOk sc x=true) (nd:X.N.Nodup) (e1:bM X sc) (e2:X.N=N:=by rfl):PG X (.Name x pos) (eU i):=by
 have e1:X.env.scope=sc:=e1
 subst e1 e2
 have hl:X.env.scope.names.lookup x=some .local:=of_decide_eq_true hl
 exact oE nd (gF h) (.inl hl) (.inr hl)
def iH {v:V} (h:aH sc x=true) (hm:∃ u,X.mg x=some u/\RelV v u) (e1:bM X sc:=by rfl):PE X (.Name x pos) (tC v):=rC (glD h e1) hm (iG h)
def rE {v:V} {u:Value} (h:aH sc x=true) (hm:X.mg x=none) (hv:bootBuiltins x=some u) (r:RelV v u) (e1:bM X sc:=by rfl):PE X (.Name x pos) (tC v):=t7 (glD h e1) hm hv r (q63 h) (iG h)
variable {e:Expr} {es:List Expr} {t:TA} {id T:String} {r:List V->Hp->VK->Prop} {k:Nat} {ps:List Str} {sp:Sp}
def gG (h:aH sc x=true) (hc:b7 X (.builtin id) r) (hm:X.mg x=none) (hv:bootBuiltins x=some (.builtin id)) (ha:PA X (e::es) t) (e1:bM X sc:=by rfl)
  (he:starEach (e::es) X.env=(false,eval e X.env)::starEach es X.env:=by rfl) (hpl:(backTo pos (starEach es X.env)).any (·.1)=false:=by rfl):PE X (.Call (.Name x p) (e::es) [] pos) (tCB r t):=
 ra hc (glD h e1) hm hv ha (q63 h) (iG h) he hpl
def fq (h:aH sc x=true) (hc:b7 X (.type T) r) (hm:X.mg x=none) (hv:bootBuiltins x=some (.type T)) (ha:PA X (e::es) t) (e1:bM X sc:=by rfl)
  (he:starEach (e::es) X.env=(false,eval e X.env)::starEach es X.env:=by rfl) (hpl:(backTo pos (starEach es X.env)).any (·.1)=false:=by rfl):PE X (.Call (.Name x p) (e::es) [] pos) (tCB r t):=
 p4 hc (glD h e1) hm hv ha (q63 h) (iG h) he hpl
def jH (h:aH sc x=true) (F:OkF X.prog X.w X.K X.mg X.base x k ps sp) (hr:Room k X.A) (ha:PA X (e::es) t) (e1:bM X sc:=by rfl)
  (he:starEach (e::es) X.env=(false,eval e X.env)::starEach es X.env:=by rfl) (hpl:(backTo pos (starEach es X.env)).any (·.1)=false:=by rfl):PE X (.Call (.Name x p) (e::es) [] pos) (qZ sp [] E0 t):=
 rB F hr (glD h e1) ha (iG h) he hpl
variable {tg a b:Expr} {ta:TA}
def nH (h:aH sc "range"=true) (hm:X.mg "range"=none) (ha:PA X [a] ta) (e1:bM X sc:=by rfl) (hs:starEach [a] X.env=[(false,eval a X.env)]:=by rfl):PI X tg (.Call (.Name "range" p) [a] [] pos) (vW ta):=pU (glD h e1) hm ha hs
end
section
variable {X:Cx} {M:List Str} {scope outer:Scope} {C:Addr} {s:Shared} {H:Hp} {ex:List Addr} {x:Str} {pos p:Pos}
def scC (ho:bM X outer):bM (cxC X M scope C s H ex) (rD scope outer):=by
 have ho:X.env.scope=outer:=ho
 subst ho
 rfl
end
inductive Dt where
 | non | bl (b:Bool) | int (i:Int) | str (x:Str) | tup (l:List Dt) | lst (l:List Dt) | dct (ks:List Key) (l:List Dt) | dcT (ks:List (List Key)) (l:List Dt)
 | ins (c:Str) (ns:List Str) (l:List Dt)
mutual
noncomputable def peq:Dt->Dt->Bool
 | .non,.non=>true
 | .bl a,.bl b=>a==b
 | .bl a,.int j=>(if a then (1:Int) else 0)==j
 | .int i,.bl b=>i==(if b then (1:Int) else 0)
 | .int i,.int j=>i==j
 | .str x,.str y=>x==y
 | .tup l,.tup m=>peqs l m
 | .lst l,.lst m=>peqs l m
 | .dct ks l,.dct js m=>decide (ks=js)&&peqs l m
 | .dcT ks l,.dcT js m=>decide (ks=js)&&peqs l m
 | .ins _ _ _,.ins _ _ _=>true
 | _,_=>false
noncomputable def peqs:List Dt->List Dt->Bool
 | [],[]=>true
 | d::l,e::m=>peq d e&&peqs l m
 | _,_=>false
end
mutual
def fN:∀ d:Dt,peq d d=true
 | .non=>by simp [peq]
 | .bl b=>by simp [peq]
 | .int i=>by simp [peq]
 | .str x=>by simp [peq]
 | .tup l=>by simp only [peq];exact peqs_self l
 | .lst l=>by simp only [peq];exact peqs_self l
 | .dct ks l=>by simp only [peq,decide_true,Bool.true_and];exact peqs_self l
 | .dcT ks l=>by simp only [peq,decide_true,Bool.true_and];exact peqs_self l
 | .ins c ns l=>by simp only [peq]
def peqs_self:∀ l:List Dt,peqs l l=true
 | []=>by simp [peqs]
 | d::l=>by simp only [peqs,fN d,peqs_self l,Bool.and_self]
end
mutual
noncomputable def cN:Dt->Nat
 | .tup l=>deeps l+1
 | .lst l=>deeps l+1
 | _=>0
noncomputable def deeps:List Dt->Nat
 | []=>0
 | d::l=>max (cN d) (deeps l)
end
def rF (K:PySem.W.Frag) (c:Str) (C:Addr):Prop:=PySem.W.nsIn K mainGlobals c=some (some (.ref C))
mutual
noncomputable def Rep (K:PySem.W.Frag) (H:Hp):Dt->V->Prop
 | .non,v=>v=.non
 | .bl b,v=>v=.bl b
 | .int i,v=>v=.int i
 | .str x,v=>v=.str x
 | .tup l,v=>∃ a vs,v=.ref a/\SqT K H a vs/\Reps K H l vs
 | .lst l,v=>∃ a vs,v=.ref a/\SqL K H a vs/\Reps K H l vs
 | .dct ks l,v=>∃ a kvs,v=.ref a/\Rd H a (.dK kvs)/\kvs.map (·.1)=ks/\Reps K H l (kvs.map (·.2))
 | .dcT ks l,v=>∃ a kvs,v=.ref a/\Rd H a (.dT kvs)/\kvs.map (·.1)=ks/\Reps K H l (kvs.map (·.2))
 | .ins c ns l,v=>∃ a C dx fs,v=.ref a/\rF K c C/\H a=some (.ins C dx fs)/\fs.map (·.1)=ns/\Reps K H l (fs.map (·.2))
noncomputable def Reps (K:PySem.W.Frag) (H:Hp):List Dt->List V->Prop
 | [],vs=>vs=[]
 | d::l,vs=>∃ v ws,vs=v::ws/\Rep K H d v/\Reps K H l ws
end
def Same.tup {K:PySem.W.Frag} {H H':Hp} {a:Addr} {xs:List V} (e:Same H H') (h:SqT K H a xs):SqT K H' a xs:=by
 rcases h with (h | ⟨o,h⟩) | h
 · exact .inl (.inl (e _ _ h))
 · exact .inl (.inr ⟨o,e _ _ h⟩)
 · exact .inr h
def Same.rd {H H':Hp} {a:Addr} {u:HO} (e:Same H H') (h:Rd H a u):Rd H' a u:=by
 rcases h with h | ⟨o,h⟩
 · exact .inl (e _ _ h)
 · exact .inr ⟨o,e _ _ h⟩
mutual
def Rep.same {K:PySem.W.Frag} {H H':Hp} (e:Same H H'):∀ {d:Dt} {v:V},Rep K H d v->Rep K H' d v
 | .non,v,h=>h
 | .bl _,v,h=>h
 | .int _,v,h=>h
 | .str _,v,h=>h
 | .tup l,v,h=>by
  unfold Rep at h ⊢
  obtain ⟨a,vs,h1,h2,h3⟩:=h
  exact ⟨a,vs,h1,e.tup h2,Reps.same e h3⟩
 | .lst l,v,h=>by
  unfold Rep at h ⊢
  obtain ⟨a,vs,h1,h2,h3⟩:=h
  exact ⟨a,vs,h1,e.seq h2,Reps.same e h3⟩
 | .dct ks l,v,h=>by
  unfold Rep at h ⊢
  obtain ⟨a,vs,h1,h2,h3,h4⟩:=h
  exact ⟨a,vs,h1,e.rd h2,h3,Reps.same e h4⟩
 | .dcT ks l,v,h=>by
  unfold Rep at h ⊢
  obtain ⟨a,vs,h1,h2,h3,h4⟩:=h
  exact ⟨a,vs,h1,e.rd h2,h3,Reps.same e h4⟩
 | .ins c ns l,v,h=>by
  unfold Rep at h ⊢
  obtain ⟨a,C,dx,fs,h1,h2,h3,h4,h5⟩:=h
  exact ⟨a,C,dx,fs,h1,h2,e _ _ h3,h4,Reps.same e h5⟩
def Reps.same {K:PySem.W.Frag} {H H':Hp} (e:Same H H'):∀ {l:List Dt} {vs:List V},Reps K H l vs->Reps K H' l vs
 | [],vs,h=>h
 | d::l,vs,h=>by
  unfold Reps at h ⊢
  obtain ⟨v,ws,h1,h2,h3⟩:=h
  exact ⟨v,ws,h1,Rep.same e h2,Reps.same e h3⟩
end
def Reps.length {K:PySem.W.Frag} {H:Hp}:∀ {l:List Dt} {vs:List V},Reps K H l vs->vs.length=l.length
 | [],vs,h=>by unfold Reps at h;rw [h];rfl
 | d::l,vs,h=>by
  unfold Reps at h
  obtain ⟨v,ws,rfl,_,h3⟩:=h
  simp [Reps.length h3]
def Reps.get {K:PySem.W.Frag} {H:Hp}:∀ {l:List Dt} {vs:List V} {i:Nat} {d:Dt},Reps K H l vs->l[i]?=some d->∃ v,vs[i]?=some v/\Rep K H d v
 | [],vs,i,d,h,e=>by simp at e
 | d0::l,vs,0,d,h,e=>by
  unfold Reps at h
  obtain ⟨v,ws,rfl,h2,_⟩:=h
  simp at e
  subst e
  exact ⟨v,rfl,h2⟩
 | d0::l,vs,i+1,d,h,e=>by
  unfold Reps at h
  obtain ⟨v,ws,rfl,_,h3⟩:=h
  obtain ⟨u,e1,e2⟩:=Reps.get (i:=i) h3 (by simpa using e)
  exact ⟨u,by simpa using e1,e2⟩
def Reps.append {K:PySem.W.Frag} {H:Hp}:∀ {l m:List Dt} {vs ws:List V},Reps K H l vs->Reps K H m ws->Reps K H (l++m) (vs++ws)
 | [],m,vs,ws,h,h'=>by unfold Reps at h;rw [h];exact h'
 | d::l,m,vs,ws,h,h'=>by
  unfold Reps at h
  obtain ⟨v,us,rfl,h2,h3⟩:=h
  show Reps K H (d::(l++m)) (v::(us++ws))
  unfold Reps
  exact ⟨v,_,rfl,h2,Reps.append h3 h'⟩
def Reps.one {K:PySem.W.Frag} {H:Hp} {d:Dt} {v:V} (h:Rep K H d v):Reps K H [d] [v]:=by
 unfold Reps
 exact ⟨v,[],rfl,h,by unfold Reps;rfl⟩
def Reps.take {K:PySem.W.Frag} {H:Hp}:∀ {l:List Dt} {vs:List V} (n:Nat),Reps K H l vs->Reps K H (l.take n) (vs.take n)
 | _,_,0,_=>by simp [Reps]
 | [],vs,n+1,h=>by unfold Reps at h;rw [h];simp [Reps]
 | d::l,vs,n+1,h=>by
  unfold Reps at h
  obtain ⟨v,us,rfl,h2,h3⟩:=h
  show Reps K H (d::l.take n) (v::us.take n)
  unfold Reps
  exact ⟨v,_,rfl,h2,Reps.take n h3⟩
def Reps.drop {K:PySem.W.Frag} {H:Hp}:∀ {l:List Dt} {vs:List V} (n:Nat),Reps K H l vs->Reps K H (l.drop n) (vs.drop n)
 | _,_,0,h=>h
 | [],vs,n+1,h=>by unfold Reps at h;rw [h];simp [Reps]
 | d::l,vs,n+1,h=>by
  unfold Reps at h
  obtain ⟨v,us,rfl,h2,h3⟩:=h
  exact Reps.drop n h3
section
variable {X:Cx} {pins:List (Addr×Obj)} {σ:St} {H:Hp} {s:Shared} {K:PySem.W.Frag}
def Inv.notBoth {a:Addr} {xs ys:List V} (I:Inv X pins σ H s) (h:SqL X.K H a xs) (h':SqT X.K H a ys):False:=by
 obtain ⟨its,r,pl,_⟩:=I.list h
 obtain ⟨its',r',pt,_⟩:=I.tuple h'
 obtain ⟨o,n,e,hc,_⟩:=pl
 obtain ⟨o',e',hc',_⟩:=pt
 rw [e] at e'
 cases e'
 rw [hc] at hc'
 injection hc' with z
 exact absurd z (by decide)
def zN {a:Addr} {u w:List (Key×V)} (h:Rd H a (.dK u)) (h':Rd H a (.dK w)):u=w:=by
 rcases h with h | ⟨o,h⟩<;>rcases h' with h' | ⟨o',h'⟩<;>rw [h] at h'<;>cases h'<;>rfl
def zO {a:Addr} {u w:List (List Key×V)} (h:Rd H a (.dT u)) (h':Rd H a (.dT w)):u=w:=by
 rcases h with h | ⟨o,h⟩<;>rcases h' with h' | ⟨o',h'⟩<;>rw [h] at h'<;>cases h'<;>rfl
def ij {a:Addr} {u:HO} (h:Rd H a u):∃ o,H a=some o:=by
 rcases h with h | ⟨o,h⟩
 · exact ⟨_,h⟩
 · exact ⟨_,h⟩
def Inv.kNone (I:Inv X pins σ H s) {a:Addr} {o:Obj} (h:X.K.lookup a=some o):H a=none:=(I.bs a o (I.ok.mod.kin a o h)).2
def Inv.sqT_dK (I:Inv X pins σ H s) {a:Addr} {xs:List V} {u:List (Key×V)} (h:SqT X.K H a xs) (h':Rd H a (.dK u)):False:=by
 rcases h with h | ⟨o,_,_,h,_⟩
 · rcases h with h | ⟨o,h⟩<;>rcases h' with h' | ⟨o',h'⟩<;>rw [h] at h'<;>cases h'
 · obtain ⟨o',e⟩:=ij h'
   rw [I.kNone h] at e
   cases e
def Inv.sqT_dT (I:Inv X pins σ H s) {a:Addr} {xs:List V} {u:List (List Key×V)} (h:SqT X.K H a xs) (h':Rd H a (.dT u)):False:=by
 rcases h with h | ⟨o,_,_,h,_⟩
 · rcases h with h | ⟨o,h⟩<;>rcases h' with h' | ⟨o',h'⟩<;>rw [h] at h'<;>cases h'
 · obtain ⟨o',e⟩:=ij h'
   rw [I.kNone h] at e
   cases e
def Inv.sqL_dK (I:Inv X pins σ H s) {a:Addr} {xs:List V} {u:List (Key×V)} (h:SqL X.K H a xs) (h':Rd H a (.dK u)):False:=by
 rcases h with h | ⟨o,_,_,h,_⟩
 · rcases h with h | ⟨o,h⟩<;>rcases h' with h' | ⟨o',h'⟩<;>rw [h] at h'<;>cases h'
 · obtain ⟨o',e⟩:=ij h'
   rw [I.kNone h] at e
   cases e
def Inv.sqL_dT (I:Inv X pins σ H s) {a:Addr} {xs:List V} {u:List (List Key×V)} (h:SqL X.K H a xs) (h':Rd H a (.dT u)):False:=by
 rcases h with h | ⟨o,_,_,h,_⟩
 · rcases h with h | ⟨o,h⟩<;>rcases h' with h' | ⟨o',h'⟩<;>rw [h] at h'<;>cases h'
 · obtain ⟨o',e⟩:=ij h'
   rw [I.kNone h] at e
   cases e
def rG {a:Addr} {u:List (Key×V)} {w:List (List Key×V)} (h:Rd H a (.dK u)) (h':Rd H a (.dT w)):False:=by
 rcases h with h | ⟨o,h⟩<;>rcases h' with h' | ⟨o',h'⟩<;>rw [h] at h'<;>cases h'
def bG:Dt->Nat
 | .non=>0
 | .bl _=>1
 | .int _=>2
 | .str _=>3
 | .tup _=>4
 | .lst _=>5
 | .dct _ _=>6
 | .dcT _ _=>7
 | .ins _ _ _=>8
def oY (I:Inv X pins σ H s) {a C dx:Addr} {fs:List (Str×V)} {vs:List V} (h:SqT X.K H a vs) (h':H a=some (.ins C dx fs)):False:=by
 rcases h with (h | ⟨o,h⟩) | ⟨o,its,n,h,_⟩
 · rw [h'] at h;cases h
 · rw [h'] at h;cases h
 · rw [I.kNone h] at h';cases h'
def oZ (I:Inv X pins σ H s) {a C dx:Addr} {fs:List (Str×V)} {vs:List V} (h:SqL X.K H a vs) (h':H a=some (.ins C dx fs)):False:=by
 rcases h with (h | ⟨o,h⟩) | ⟨o,its,n,h,_⟩
 · rw [h'] at h;cases h
 · rw [h'] at h;cases h
 · rw [I.kNone h] at h';cases h'
def o2 {a C dx:Addr} {fs:List (Str×V)} {u:List (Key×V)} (h:Rd H a (.dK u)) (h':H a=some (.ins C dx fs)):False:=by
 rcases h with h | ⟨o,h⟩<;>rw [h] at h'<;>cases h'
def o4 {a C dx:Addr} {fs:List (Str×V)} {u:List (List Key×V)} (h:Rd H a (.dT u)) (h':H a=some (.ins C dx fs)):False:=by
 rcases h with h | ⟨o,h⟩<;>rw [h] at h'<;>cases h'
def b8 (I:Inv X pins σ H s) {d e:Dt} {v:V} (h:Rep X.K H d v) (h':Rep X.K H e v):bG d=bG e:=by
 cases d<;>cases e<;>first
  | rfl
  | (simp only [Rep] at h h';subst h;cases h';done)
  | (simp only [Rep] at h h';obtain ⟨_,_,e,_⟩:=h';rw [h] at e;cases e;done)
  | (simp only [Rep] at h h';obtain ⟨_,_,e,_⟩:=h;rw [h'] at e;cases e;done)
  | (simp only [Rep] at h h';obtain ⟨_,_,rfl,h2,_⟩:=h;obtain ⟨_,_,e,h2',_⟩:=h';cases e
     first
      | exact (I.sqT_dK h2 h2').elim
      | exact (I.sqT_dK h2' h2).elim
      | exact (I.sqT_dT h2 h2').elim
      | exact (I.sqT_dT h2' h2).elim
      | exact (I.notBoth h2 h2').elim
      | exact (I.notBoth h2' h2).elim
      | exact (I.sqL_dK h2 h2').elim
      | exact (I.sqL_dK h2' h2).elim
      | exact (I.sqL_dT h2 h2').elim
      | exact (I.sqL_dT h2' h2).elim
      | exact (rG h2 h2').elim
      | exact (rG h2' h2).elim)
  | (simp only [Rep] at h h';obtain ⟨_,_,_,_,e,_⟩:=h';rw [h] at e;cases e;done)
  | (simp only [Rep] at h h';obtain ⟨_,_,_,_,e,_⟩:=h;rw [h'] at e;cases e;done)
  | (simp only [Rep] at h h';obtain ⟨_,_,_,_,rfl,_,h2,_⟩:=h;obtain ⟨_,_,e,h2',_⟩:=h';cases e
     first
      | exact (oY I h2' h2).elim
      | exact (oZ I h2' h2).elim
      | exact (o2 h2' h2).elim
      | exact (o4 h2' h2).elim)
  | (simp only [Rep] at h h';obtain ⟨_,_,_,_,rfl,_,h2,_⟩:=h';obtain ⟨_,_,e,h2',_⟩:=h;cases e
     first
      | exact (oY I h2' h2).elim
      | exact (oZ I h2' h2).elim
      | exact (o2 h2' h2).elim
      | exact (o4 h2' h2).elim)
mutual
def kJ (I:Inv X pins σ H s):∀ (d e:Dt) (v:V),Rep X.K H d v->Rep X.K H e v->peq d e=true:=fun d=>by
 match d with
 | .tup l =>
  intro e v h h'
  have hk:=b8 I h h'
  cases e<;>first | (simp [bG] at hk;done) | skip
  simp only [Rep] at h h'
  obtain ⟨a,vs,rfl,h2,h3⟩:=h
  obtain ⟨b,ws,e,h2',h3'⟩:=h'
  cases e
  have:=I.tuple_inj h2 h2'
  subst this
  simp only [peq]
  exact reps_inj I l _ _ h3 h3'
 | .lst l =>
  intro e v h h'
  have hk:=b8 I h h'
  cases e<;>first | (simp [bG] at hk;done) | skip
  simp only [Rep] at h h'
  obtain ⟨a,vs,rfl,h2,h3⟩:=h
  obtain ⟨b,ws,e,h2',h3'⟩:=h'
  cases e
  have:=I.list_inj h2 h2'
  subst this
  simp only [peq]
  exact reps_inj I l _ _ h3 h3'
 | .dct ks l =>
  intro e v h h'
  have hk:=b8 I h h'
  cases e<;>first | (simp [bG] at hk;done) | skip
  simp only [Rep] at h h'
  obtain ⟨a,vs,rfl,h2,h3,h4⟩:=h
  obtain ⟨b,ws,e,h2',h3',h4'⟩:=h'
  cases e
  have:=zN h2 h2'
  subst this
  subst h3 h3'
  simp only [peq,decide_true,Bool.true_and]
  exact reps_inj I l _ _ h4 h4'
 | .dcT ks l =>
  intro e v h h'
  have hk:=b8 I h h'
  cases e<;>first | (simp [bG] at hk;done) | skip
  simp only [Rep] at h h'
  obtain ⟨a,vs,rfl,h2,h3,h4⟩:=h
  obtain ⟨b,ws,e,h2',h3',h4'⟩:=h'
  cases e
  have:=zO h2 h2'
  subst this
  subst h3 h3'
  simp only [peq,decide_true,Bool.true_and]
  exact reps_inj I l _ _ h4 h4'
 | .ins c ns l =>
  intro e v h h'
  have hk:=b8 I h h'
  cases e<;>first | (simp [bG] at hk;done) | skip
  simp only [peq]
 | .non =>
  intro e v h h'
  have hk:=b8 I h h'
  cases e<;>first | (simp [bG] at hk;done) | simp only [peq]
 | .bl b =>
  intro e v h h'
  have hk:=b8 I h h'
  cases e<;>first | (simp [bG] at hk;done) | (simp only [Rep] at h h';rw [h] at h';cases h';exact fN _)
 | .int b =>
  intro e v h h'
  have hk:=b8 I h h'
  cases e<;>first | (simp [bG] at hk;done) | (simp only [Rep] at h h';rw [h] at h';cases h';exact fN _)
 | .str b =>
  intro e v h h'
  have hk:=b8 I h h'
  cases e<;>first | (simp [bG] at hk;done) | (simp only [Rep] at h h';rw [h] at h';cases h';exact fN _)
def reps_inj (I:Inv X pins σ H s):∀ (l m:List Dt) (vs:List V),Reps X.K H l vs->Reps X.K H m vs->peqs l m=true:=fun l=>by
 match l with
 | [] =>
  intro m vs h h'
  cases m with
  | nil=>simp only [peqs]
  | cons e m=>unfold Reps at h h';obtain ⟨v,ws,e,_⟩:=h';rw [h] at e;cases e
 | d::l =>
  intro m vs h h'
  cases m with
  | nil=>unfold Reps at h h';obtain ⟨v,ws,e,_⟩:=h;rw [h'] at e;cases e
  | cons e m =>
   unfold Reps at h h'
   obtain ⟨v,ws,rfl,h2,h3⟩:=h
   obtain ⟨v',ws',e',h2',h3'⟩:=h'
   cases e'
   simp only [peqs,kJ I d _ _ h2 h2',reps_inj I l _ _ h3 h3',Bool.and_self]
end
end
end L2
namespace L2
open PySem PySem.Spec PyProof.Rows
mutual
noncomputable def bX:Dt->Dt->Bool
 | .tup l,.tup m=>cmpbs l m
 | .lst l,.lst m=>cmpbs l m
 | d,e=>decide (bG d<4)&&decide (bG e<4)
noncomputable def cmpbs:List Dt->List Dt->Bool
 | d::l,e::m=>bX d e&&cmpbs l m
 | _,_=>true
end
def dn:∀ {l m:List Dt} {j:Nat} {d e:Dt},cmpbs l m=true->l[j]?=some d->m[j]?=some e->bX d e=true
 | [],_,j,d,e,_,h,_=>by simp at h
 | _::_,[],j,d,e,_,_,h=>by simp at h
 | d0::l,e0::m,0,d,e,h,h1,h2=>by
  simp only [cmpbs,Bool.and_eq_true] at h
  simp at h1 h2
  subst h1 h2
  exact h.1
 | d0::l,e0::m,j+1,d,e,h,h1,h2=>by
  simp only [cmpbs,Bool.and_eq_true] at h
  exact dn (j:=j) h.2 (by simpa using h1) (by simpa using h2)
def d6:∀ {l:List Dt} {j:Nat} {d:Dt},l[j]?=some d->cN d<=deeps l
 | [],j,d,h=>by simp at h
 | d0::l,0,d,h=>by
  simp at h
  subst h
  simp only [deeps]
  exact Nat.le_max_left ..
 | d0::l,j+1,d,h=>by
  simp only [deeps]
  exact Nat.le_trans (d6 (j:=j) (by simpa using h)) (Nat.le_max_right ..)
def bR (l m:List Dt) (j:Nat):Bool:=peq (l.getD j .non) (m.getD j .non)
def cO:∀ (l m:List Dt),peqs l m=((List.range (min l.length m.length)).all (bR l m)&&l.length==m.length)
 | [],[]=>by simp [peqs]
 | [],_::_=>by simp [peqs]
 | _::_,[]=>by simp [peqs]
 | d::l,e::m=>by
  have ih:=cO l m
  simp only [peqs,ih,List.length_cons]
  rw [show min (l.length+1) (m.length+1)=min l.length m.length+1 by omega,List.range_succ_eq_map,List.all_cons,List.all_map]
  have e1:bR (d::l) (e::m) 0=peq d e:=rfl
  have e2:(bR (d::l) (e::m) ∘ Nat.succ)=bR l m:=by
   funext j
   rfl
  have e3:(l.length+1==m.length+1)=(l.length==m.length):=by
   rw [Bool.eq_iff_iff]
   simp
  rw [e1,e2,e3,Bool.and_assoc]
section
variable {X:Cx} {pins:List (Addr×Obj)} {σ:St} {H:Hp} {s:Shared}
def bZ {l:List Dt} {vs:List V} {its:List Value} (h:Reps X.K H l vs) (r:Vals vs its) {j:Nat} (hj:j<its.length):∃ d v,l[j]?=some d/\Rep X.K H d v/\RelV v its[j]:=by
 have hl:j<l.length:=by rw [<- h.length,r.length];exact hj
 obtain ⟨v,e1,e2⟩:=h.get (i:=j) (d:=l[j]) (by simp [hl])
 obtain ⟨u,e3,e4⟩:=r.get e1
 have:its[j]=u:=by
  have:=gQ hj
  rw [this] at e3
  exact Option.some.inj e3
 exact ⟨l[j],v,by simp [hl],e2,by rw [this];exact e4⟩
def v9 (I:Inv X pins σ H s):∀ (n:Nat) {A:Around} {d e:Dt} {v w:V} {u u':Value},cN d<=n->A.units+n<cLine->bX d e=true->Rep X.K H d v->Rep X.K H e w->RelV v u->RelV w u'->SeqAt.EqAt A s u u' (peq d e):=by
 intro n
 induction n with
 | zero =>
  intro A d e v w u u' hd hu hc h h' r r'
  cases d<;>cases e<;>first
   | (simp only [Rep] at h h';subst h h';exact gE r r' rfl rfl)
   | (simp only [cN] at hd;omega)
   | (simp [bX,bG] at hc)
 | succ n ih =>
  intro A d e v w u u' hd hu hc h h' r r'
  cases d with
  | tup l =>
   cases e with
   | tup m =>
    have h0:=h
    have h0':=h'
    simp only [Rep] at h h'
    obtain ⟨a,vs,rfl,h2,h3⟩:=h
    obtain ⟨b,ws,rfl,h2',h3'⟩:=h'
    cases r
    cases r'
    by_cases hab:a=b
    · subst hab
      have:=kJ I _ _ _ h0 h0'
      rw [this]
      exact SeqAt.EqAt.same _
    obtain ⟨its,rv,pt,_⟩:=I.tuple h2
    obtain ⟨its',rv',pt',_⟩:=I.tuple h2'
    have n1:its.length=l.length:=by rw [<- h3.length,rv.length]
    have n2:its'.length=m.length:=by rw [<- h3'.length,rv'.length]
    simp only [peq]
    rw [cO,<- n1,<- n2]
    simp only [cN] at hd
    simp only [bX] at hc
    have key:=SeqAt.RcAt.tuples (A:=A) (e:=bR l m) pt pt' (by omega) (fun j h1 h2=>by
     have h1':j<its.length:=by simpa using h1
     have h2':j<its'.length:=by simpa using h2
     obtain ⟨d,v,g1,g2,g3⟩:=bZ h3 rv h1'
     obtain ⟨e,w,g1',g2',g3'⟩:=bZ h3' rv' h2'
     have:bR l m j=peq d e:=by unfold bR;rw [List.getD_eq_getElem?_getD,List.getD_eq_getElem?_getD,g1,g1'];rfl
     rw [this]
     have:=ih (A:=A.in1) (Nat.le_trans (d6 g1) (by omega)) (show A.units+1+n<cLine by omega) (dn hc g1 g1') g2 g2' g3 g3'
     simpa using this)
    have key':SeqAt.RcAt A s (.ref a) (.ref b) ((List.range (min its.length its'.length)).all (bR l m)&&its.length==its'.length):=by simpa using key
    exact SeqAt.EqAt.of_refs hab key'
   | _=>exact absurd hc (by simp [bX,bG])
  | lst l =>
   cases e with
   | lst m =>
    have h0:=h
    have h0':=h'
    simp only [Rep] at h h'
    obtain ⟨a,vs,rfl,h2,h3⟩:=h
    obtain ⟨b,ws,rfl,h2',h3'⟩:=h'
    cases r
    cases r'
    by_cases hab:a=b
    · subst hab
      have:=kJ I _ _ _ h0 h0'
      rw [this]
      exact SeqAt.EqAt.same _
    obtain ⟨its,rv,pt,_⟩:=I.list h2
    obtain ⟨its',rv',pt',_⟩:=I.list h2'
    have n1:its.length=l.length:=by rw [<- h3.length,rv.length]
    have n2:its'.length=m.length:=by rw [<- h3'.length,rv'.length]
    simp only [peq]
    rw [cO,<- n1,<- n2]
    simp only [cN] at hd
    simp only [bX] at hc
    by_cases hlen:its.length=its'.length
    · have key:=SeqAt.RcAt.lists (A:=A) (e:=bR l m) pt.isList pt'.isList (by simpa using hlen) (by omega) (fun j h1 h2=>by
       have h1':j<its.length:=by simpa using h1
       have h2':j<its'.length:=by simpa using h2
       obtain ⟨d,v,g1,g2,g3⟩:=bZ h3 rv h1'
       obtain ⟨e,w,g1',g2',g3'⟩:=bZ h3' rv' h2'
       have:bR l m j=peq d e:=by unfold bR;rw [List.getD_eq_getElem?_getD,List.getD_eq_getElem?_getD,g1,g1'];rfl
       rw [this]
       have:=ih (A:=A.in1) (Nat.le_trans (d6 g1) (by omega)) (show A.units+1+n<cLine by omega) (dn hc g1 g1') g2 g2' g3 g3'
       simpa using this)
      have e1:(its.length==its'.length)=true:=by simpa using hlen
      rw [e1,Bool.and_true,show min its.length its'.length=its.length by omega]
      exact SeqAt.EqAt.of_refs hab (by simpa using key)
    · have e1:(its.length==its'.length)=false:=by simpa using hlen
      rw [e1,Bool.and_false]
      exact SeqAt.EqAt.of_refs hab (SeqAt.RcAt.lists_lengths pt.isList pt'.isList (by simpa using hlen) (by omega))
   | _=>exact absurd hc (by simp [bX,bG])
  | non=>cases e<;>first | (simp only [Rep] at h h';subst h h';exact gE r r' rfl rfl) | (simp [bX,bG] at hc)
  | bl b=>cases e<;>first | (simp only [Rep] at h h';subst h h';exact gE r r' rfl rfl) | (simp [bX,bG] at hc)
  | int b=>cases e<;>first | (simp only [Rep] at h h';subst h h';exact gE r r' rfl rfl) | (simp [bX,bG] at hc)
  | str b=>cases e<;>first | (simp only [Rep] at h h';subst h h';exact gE r r' rfl rfl) | (simp [bX,bG] at hc)
  | dct ks l=>cases e<;>(simp [bX,bG] at hc)
  | dcT ks l=>cases e<;>(simp [bX,bG] at hc)
  | ins c ns l=>cases e<;>(simp [bX,bG] at hc)
def wa (I:Inv X pins σ H s) {A:Around} {d e:Dt} {v w:V} {u u':Value} (hq:(∃ l m,d=.tup l/\e=.tup m)∨∃ l m,d=.lst l/\e=.lst m) (hu:A.units+cN d<cLine) (hc:bX d e=true) (h:Rep X.K H d v) (h':Rep X.K H e w) (r:RelV v u) (r':RelV w u') :
  SeqAt.RcAt A s u u' (peq d e)/\SeqAt.RcNeAt A s u u' (!peq d e):=by
 rcases hq with ⟨l,m,rfl,rfl⟩ | ⟨l,m,rfl,rfl⟩
 · simp only [Rep] at h h'
   obtain ⟨a,vs,rfl,h2,h3⟩:=h
   obtain ⟨b,ws,rfl,h2',h3'⟩:=h'
   cases r
   cases r'
   obtain ⟨its,rv,pt,_⟩:=I.tuple h2
   obtain ⟨its',rv',pt',_⟩:=I.tuple h2'
   have n1:its.length=l.length:=by rw [<- h3.length,rv.length]
   have n2:its'.length=m.length:=by rw [<- h3'.length,rv'.length]
   simp only [peq]
   rw [cO,<- n1,<- n2]
   simp only [cN] at hu
   simp only [bX] at hc
   have he:∀ j (h1:j<its.toArray.size) (h2:j<its'.toArray.size),SeqAt.EqAt A.in1 s its.toArray[j] its'.toArray[j] (bR l m j):=fun j h1 h2=>by
    have h1':j<its.length:=by simpa using h1
    have h2':j<its'.length:=by simpa using h2
    obtain ⟨d,v,g1,g2,g3⟩:=bZ h3 rv h1'
    obtain ⟨e,w,g1',g2',g3'⟩:=bZ h3' rv' h2'
    have:bR l m j=peq d e:=by unfold bR;rw [List.getD_eq_getElem?_getD,List.getD_eq_getElem?_getD,g1,g1'];rfl
    rw [this]
    have:=v9 I (deeps l) (A:=A.in1) (d6 g1) (show A.units+1+deeps l<cLine by omega) (dn hc g1 g1') g2 g2' g3 g3'
    simpa using this
   exact ⟨by simpa using SeqAt.RcAt.tuples (A:=A) (e:=bR l m) pt pt' (by omega) he,by simpa using SeqAt.RcNeAt.tuples (A:=A) (e:=bR l m) pt pt' (by omega) he⟩
 · simp only [Rep] at h h'
   obtain ⟨a,vs,rfl,h2,h3⟩:=h
   obtain ⟨b,ws,rfl,h2',h3'⟩:=h'
   cases r
   cases r'
   obtain ⟨its,rv,pt,_⟩:=I.list h2
   obtain ⟨its',rv',pt',_⟩:=I.list h2'
   have n1:its.length=l.length:=by rw [<- h3.length,rv.length]
   have n2:its'.length=m.length:=by rw [<- h3'.length,rv'.length]
   simp only [peq]
   rw [cO,<- n1,<- n2]
   simp only [cN] at hu
   simp only [bX] at hc
   by_cases hlen:its.length=its'.length
   · have he:∀ j (h1:j<its.toArray.size) (h2:j<its'.toArray.size),SeqAt.EqAt A.in1 s its.toArray[j] its'.toArray[j] (bR l m j):=fun j h1 h2=>by
      have h1':j<its.length:=by simpa using h1
      have h2':j<its'.length:=by simpa using h2
      obtain ⟨d,v,g1,g2,g3⟩:=bZ h3 rv h1'
      obtain ⟨e,w,g1',g2',g3'⟩:=bZ h3' rv' h2'
      have:bR l m j=peq d e:=by unfold bR;rw [List.getD_eq_getElem?_getD,List.getD_eq_getElem?_getD,g1,g1'];rfl
      rw [this]
      have:=v9 I (deeps l) (A:=A.in1) (d6 g1) (show A.units+1+deeps l<cLine by omega) (dn hc g1 g1') g2 g2' g3 g3'
      simpa using this
     have e1:(its.length==its'.length)=true:=by simpa using hlen
     rw [e1,Bool.and_true,show min its.length its'.length=its.length by omega]
     exact ⟨by simpa using SeqAt.RcAt.lists (A:=A) (e:=bR l m) pt.isList pt'.isList (by simpa using hlen) (by omega) he,by simpa using SeqAt.RcNeAt.lists (A:=A) (e:=bR l m) pt.isList pt'.isList (by simpa using hlen) (by omega) he⟩
   · have e1:(its.length==its'.length)=false:=by simpa using hlen
     rw [e1,Bool.and_false]
     exact ⟨SeqAt.RcAt.lists_lengths pt.isList pt'.isList (by simpa using hlen) (by omega),SeqAt.RcNeAt.lists_lengths pt.isList pt'.isList (by simpa using hlen) (by omega)⟩
noncomputable def uu (K:PySem.W.Frag) (neg:Bool):R2:=fun x y H Q=>∃ d e,((∃ l m,d=.tup l/\e=.tup m)∨∃ l m,d=.lst l/\e=.lst m)/\Rep K H d x/\Rep K H e y/\bX d e=true/\cN d<=60/\Q (.bl (if neg then !peq d e else peq d e)) H
def xF {K:PySem.W.Frag} {k:Nat} (hr:Room k X.A) (hK:X.K=K):OpR X (compareOp .Eq) (uu K false):=by
 subst hK
 intro pins s σ H x y v u Q I rx ry h
 obtain ⟨d,e,hq,hd,he,hc,hdp,q⟩:=h
 have hu:=hr.units
 exact (wa I hq (by omega) hc hd he rx ry).1 _ _ _ _ ⟨.bl (peq d e),H,I,rfl,q⟩
def xG {K:PySem.W.Frag} {k:Nat} (hr:Room k X.A) (hK:X.K=K):OpR X (compareOp .NotEq) (uu K true):=by
 subst hK
 intro pins s σ H x y v u Q I rx ry h
 obtain ⟨d,e,hq,hd,he,hc,hdp,q⟩:=h
 have hu:=hr.units
 exact (wa I hq (by omega) hc hd he rx ry).2 _ _ _ _ ⟨.bl (!peq d e),H,I,rfl,q⟩
end
end L2
namespace L2
open PySem PySem.Spec PyProof.Rows
structure Step (F H F' H':Hp):Prop where
 hh:Same H H'
 ff:Same F F'
 fh:Same F' H'
 nw:∀ b o,F' b=some o->F b=some o∨H b=none
section
variable {F H F' H' F1 H1:Hp} {p:Addr} {o:HO}
def Step.refl (h:Same F H):Step F H F H:=⟨Same.refl _,Same.refl _,h,fun _ _ e=>.inl e⟩
def Step.trans (a:Step F H F1 H1) (b:Step F1 H1 F' H'):Step F H F' H':=
 ⟨a.hh.trans b.hh,a.ff.trans b.ff,b.fh,fun c o e=>(b.nw c o e).elim (a.nw c o) fun z=>.inr (a.hh.free z)⟩
def Same.upd (hp:H p=none):Same H (upd H p o):=fun b u e=>by
 rw [aJ (bE e hp)]
 exact e
def Step.new (h:Same F H) (hp:H p=none):Step F H (upd F p o) (upd H p o) where
 hh:=Same.upd hp
 ff:=Same.upd (h.free hp)
 fh:=fun b u e=>by
  by_cases hb:b=p
  · subst hb
    rw [aI] at e ⊢
    exact e
  · rw [aJ hb] at e ⊢
    exact h _ _ e
 nw:=fun b u e=>by
  by_cases hb:b=p
  · subst hb
    exact .inr hp
  · rw [aJ hb] at e
    exact .inl e
def Step.made (h:Same F H) (hp:H p=none):Step F H F (upd H p o) where
 hh:=Same.upd hp
 ff:=Same.refl _
 fh:=h.trans (Same.upd hp)
 nw:=fun b u e=>.inl e
end
inductive Fl where
 | leaf (d:Dt) | lst (l:List Dt) | dct (l:List (Key×Dt)) | dcT (l:List (List Key×Dt))
def Fl.d:Fl->Dt
 | .leaf d=>d
 | .lst l=>.lst l
 | .dct l=>.dct (l.map (·.1)) (l.map (·.2))
 | .dcT l=>.dcT (l.map (·.1)) (l.map (·.2))
inductive T where
 | leaf (d:Dt) | lst (l:List Dt) | dct (l:List (Key×Dt)) | dcT (l:List (List Key×Dt)) | obj (c:Str) (ns:List Str) (l:List Fl) | pin (a:Addr) (t:T)
def T.d:T->Dt
 | .leaf d=>d
 | .lst l=>.lst l
 | .dct l=>.dct (l.map (·.1)) (l.map (·.2))
 | .dcT l=>.dcT (l.map (·.1)) (l.map (·.2))
 | .obj c ns l=>.ins c ns (l.map Fl.d)
 | .pin _ t=>t.d
noncomputable def OwnF (K:PySem.W.Frag) (F H:Hp):Fl->V->(Addr->Prop)->Prop
 | .leaf d,v,_=>Rep K F d v
 | .lst l,v,S=>∃ a vs,v=.ref a/\S a/\H a=some (.lst vs)/\Reps K F l vs
 | .dct l,v,S=>∃ a kvs,v=.ref a/\S a/\H a=some (.dK kvs)/\kvs.map (·.1)=l.map (·.1)/\Reps K F (l.map (·.2)) (kvs.map (·.2))
 | .dcT l,v,S=>∃ a kvs,v=.ref a/\S a/\H a=some (.dT kvs)/\kvs.map (·.1)=l.map (·.1)/\Reps K F (l.map (·.2)) (kvs.map (·.2))
structure OwnFs (K:PySem.W.Frag) (F H:Hp) (l:List Fl) (vs:List V) (a:Addr) (S:Addr->Prop) (Z:Nat->Addr->Prop):Prop where
 len:l.length=vs.length
 own:∀ i f v,l[i]?=some f->vs[i]?=some v->OwnF K F H f v (Z i)
 sub:∀ i b,Z i b->S b/\b≠a
 dis:∀ i j b,Z i b->Z j b->i=j
noncomputable def Own (K:PySem.W.Frag) (F H:Hp):T->V->(Addr->Prop)->Prop
 | .leaf d,v,_=>Rep K F d v
 | .lst l,v,S=>∃ a vs,v=.ref a/\S a/\H a=some (.lst vs)/\Reps K F l vs
 | .dct l,v,S=>∃ a kvs,v=.ref a/\S a/\H a=some (.dK kvs)/\kvs.map (·.1)=l.map (·.1)/\Reps K F (l.map (·.2)) (kvs.map (·.2))
 | .dcT l,v,S=>∃ a kvs,v=.ref a/\S a/\H a=some (.dT kvs)/\kvs.map (·.1)=l.map (·.1)/\Reps K F (l.map (·.2)) (kvs.map (·.2))
 | .obj c ns l,v,S=>∃ a C dx fs Z,v=.ref a/\S a/\rF K c C/\H a=some (.ins C dx fs)/\fs.map (·.1)=ns/\OwnFs K F H l (fs.map (·.2)) a S Z
 | .pin a t,v,S=>v=.ref a/\(∀ d,t≠.leaf d)/\Own K F H t v S
noncomputable def RepB (K:PySem.W.Frag) (F H:Hp):Dt->V->Prop
 | .lst l,v=>∃ a vs,v=.ref a/\SqL K H a vs/\Reps K F l vs
 | .dct ks l,v=>∃ a kvs,v=.ref a/\Rd H a (.dK kvs)/\kvs.map (·.1)=ks/\Reps K F l (kvs.map (·.2))
 | .dcT ks l,v=>∃ a kvs,v=.ref a/\Rd H a (.dT kvs)/\kvs.map (·.1)=ks/\Reps K F l (kvs.map (·.2))
 | .ins c ns l,v=>Rep K H (.ins c ns l) v
 | .non,v=>v=.non
 | .bl b,v=>v=.bl b
 | .int i,v=>v=.int i
 | .str x,v=>v=.str x
 | .tup l,v=>∃ a vs,v=.ref a/\SqT K F a vs/\Reps K F l vs
def OwnF.step {K:PySem.W.Frag} {F H F' H':Hp} {t:Fl} {v:V} {S:Addr->Prop} (ff:Same F F') (hh:∀ b o,S b->H b=some o->H' b=some o) (h:OwnF K F H t v S):OwnF K F' H' t v S:=by
 cases t with
 | leaf d=>exact Rep.same ff h
 | lst l =>
  obtain ⟨a,vs,e,hs,h1,h2⟩:=h
  exact ⟨a,vs,e,hs,hh _ _ hs h1,h2.same ff⟩
 | dct l =>
  obtain ⟨a,vs,e,hs,h1,h2,h3⟩:=h
  exact ⟨a,vs,e,hs,hh _ _ hs h1,h2,h3.same ff⟩
 | dcT l =>
  obtain ⟨a,vs,e,hs,h1,h2,h3⟩:=h
  exact ⟨a,vs,e,hs,hh _ _ hs h1,h2,h3.same ff⟩
def OwnF.rep {K:PySem.W.Frag} {F H G:Hp} {t:Fl} {v:V} {S:Addr->Prop} (ff:Same F G) (hg:∀ b o,S b->H b=some o->G b=some o) (h:OwnF K F H t v S):Rep K G t.d v:=by
 cases t with
 | leaf d=>exact Rep.same ff h
 | lst l =>
  obtain ⟨a,vs,e,q,h1,h2⟩:=h
  simp only [Fl.d,Rep]
  exact ⟨a,vs,e,SqL.of (hg _ _ q h1),h2.same ff⟩
 | dct l =>
  obtain ⟨a,vs,e,q,h1,h2,h3⟩:=h
  simp only [Fl.d,Rep]
  exact ⟨a,vs,e,.inl (hg _ _ q h1),h2,h3.same ff⟩
 | dcT l =>
  obtain ⟨a,vs,e,q,h1,h2,h3⟩:=h
  simp only [Fl.d,Rep]
  exact ⟨a,vs,e,.inl (hg _ _ q h1),h2,h3.same ff⟩
def lX {K:PySem.W.Frag} {G:Hp}:∀ {l:List Fl} {vs:List V},l.length=vs.length->(∀ (i:Nat) (f:Fl) (v:V),l[i]?=some f->vs[i]?=some v->Rep K G f.d v)->Reps K G (l.map Fl.d) vs
 | [],[],_,_=>by simp [Reps]
 | [],_::_,h,_=>by cases h
 | _::_,[],h,_=>by cases h
 | f::l,v::vs,h,k=>by
  simp only [List.map_cons,Reps]
  exact ⟨v,vs,rfl,k 0 f v rfl rfl,lX (by simpa using h) fun i f v h1 h2=>k (i+1) f v (by simpa using h1) (by simpa using h2)⟩
def o5 {K:PySem.W.Frag} {F H G:Hp} {c:Str} {ns:List Str} {l:List Fl} {v:V} {S:Addr->Prop} (ff:Same F G) (hg:∀ b o,S b->H b=some o->G b=some o) (h:Own K F H (.obj c ns l) v S):Rep K G (.ins c ns (l.map Fl.d)) v:=by
 obtain ⟨a,C,dx,fs,Z,e,hs,hc,h1,h2,h3⟩:=h
 simp only [Rep]
 exact ⟨a,C,dx,fs,e,hc,hg _ _ hs h1,h2,lX h3.len fun i f v e1 e2=>(h3.own i f v e1 e2).rep ff fun b o z=>hg b o (h3.sub i b z).1⟩
section
variable {K:PySem.W.Frag} {F H F' H':Hp} {t:T} {v:V} {d:Dt} {S:Addr->Prop}
def Own.step (ff:Same F F') (hh:∀ b o,S b->H b=some o->H' b=some o) (h:Own K F H t v S):Own K F' H' t v S:=by
 induction t with
 | leaf d=>exact Rep.same ff h
 | lst l =>
  obtain ⟨a,vs,e,hs,h1,h2⟩:=h
  exact ⟨a,vs,e,hs,hh _ _ hs h1,h2.same ff⟩
 | dct l =>
  obtain ⟨a,vs,e,hs,h1,h2,h3⟩:=h
  exact ⟨a,vs,e,hs,hh _ _ hs h1,h2,h3.same ff⟩
 | dcT l =>
  obtain ⟨a,vs,e,hs,h1,h2,h3⟩:=h
  exact ⟨a,vs,e,hs,hh _ _ hs h1,h2,h3.same ff⟩
 | obj c ns l =>
  obtain ⟨a,C,dx,fs,Z,e,hs,hc,h1,h2,h3⟩:=h
  exact ⟨a,C,dx,fs,Z,e,hs,hc,hh _ _ hs h1,h2,h3.len,fun i f v e1 e2=>(h3.own i f v e1 e2).step ff fun b o z=>hh b o (h3.sub i b z).1,h3.sub,h3.dis⟩
 | pin a t ih=>exact ⟨h.1,h.2.1,ih h.2.2⟩
def Own.grow {S':Addr->Prop} (hs:∀ b,S b->S' b) (h:Own K F H t v S):Own K F H t v S':=by
 induction t with
 | leaf d=>exact h
 | lst l =>
  obtain ⟨a,vs,e,q,h1⟩:=h
  exact ⟨a,vs,e,hs _ q,h1⟩
 | dct l =>
  obtain ⟨a,vs,e,q,h1⟩:=h
  exact ⟨a,vs,e,hs _ q,h1⟩
 | dcT l =>
  obtain ⟨a,vs,e,q,h1⟩:=h
  exact ⟨a,vs,e,hs _ q,h1⟩
 | obj c ns l =>
  obtain ⟨a,C,dx,fs,Z,e,q,hc,h1,h2,h3⟩:=h
  exact ⟨a,C,dx,fs,Z,e,hs _ q,hc,h1,h2,h3.len,h3.own,fun i b z=>⟨hs _ (h3.sub i b z).1,(h3.sub i b z).2⟩,h3.dis⟩
 | pin a t ih=>exact ⟨h.1,h.2.1,ih h.2.2⟩
def RepB.of (fh:Same F H) (h:Rep K F d v):RepB K F H d v:=by
 cases d with
 | lst l =>
  simp only [Rep] at h
  obtain ⟨a,vs,e,h1,h2⟩:=h
  exact ⟨a,vs,e,fh.seq h1,h2⟩
 | dct ks l =>
  simp only [Rep] at h
  obtain ⟨a,vs,e,h1,h2⟩:=h
  exact ⟨a,vs,e,fh.rd h1,h2⟩
 | dcT ks l =>
  simp only [Rep] at h
  obtain ⟨a,vs,e,h1,h2⟩:=h
  exact ⟨a,vs,e,fh.rd h1,h2⟩
 | tup l =>
  simp only [Rep] at h
  exact h
 | ins c ns l=>exact Rep.same fh h
 | _ =>
  simp only [Rep] at h
  exact h
def RepB.rep (fh:Same F H) (h:RepB K F H d v):Rep K H d v:=by
 cases d with
 | lst l =>
  obtain ⟨a,vs,e,h1,h2⟩:=h
  simp only [Rep]
  exact ⟨a,vs,e,h1,h2.same fh⟩
 | dct ks l =>
  obtain ⟨a,vs,e,h1,h2,h3⟩:=h
  simp only [Rep]
  exact ⟨a,vs,e,h1,h2,h3.same fh⟩
 | dcT ks l =>
  obtain ⟨a,vs,e,h1,h2,h3⟩:=h
  simp only [Rep]
  exact ⟨a,vs,e,h1,h2,h3.same fh⟩
 | tup l =>
  obtain ⟨a,vs,e,h1,h2⟩:=h
  simp only [Rep]
  exact ⟨a,vs,e,fh.tup h1,h2.same fh⟩
 | ins c ns l=>exact h
 | _ =>
  simp only [Rep]
  exact h
def RepB.step (ff:Same F F') (hh:Same H H') (h:RepB K F H d v):RepB K F' H' d v:=by
 cases d with
 | lst l =>
  obtain ⟨a,vs,e,h1,h2⟩:=h
  exact ⟨a,vs,e,hh.seq h1,h2.same ff⟩
 | dct ks l =>
  obtain ⟨a,vs,e,h1,h2,h3⟩:=h
  exact ⟨a,vs,e,hh.rd h1,h2,h3.same ff⟩
 | dcT ks l =>
  obtain ⟨a,vs,e,h1,h2,h3⟩:=h
  exact ⟨a,vs,e,hh.rd h1,h2,h3.same ff⟩
 | tup l =>
  obtain ⟨a,vs,e,h1,h2⟩:=h
  exact ⟨a,vs,e,ff.tup h1,h2.same ff⟩
 | ins c ns l=>exact Rep.same hh h
 | _=>exact h
def Own.repB (fh:Same F H) (h:Own K F H t v S):RepB K F H t.d v:=by
 induction t with
 | leaf d=>exact RepB.of fh h
 | lst l =>
  obtain ⟨a,vs,e,_,h1,h2⟩:=h
  exact ⟨a,vs,e,SqL.of h1,h2⟩
 | dct l =>
  obtain ⟨a,vs,e,_,h1,h2⟩:=h
  exact ⟨a,vs,e,.inl h1,h2⟩
 | dcT l =>
  obtain ⟨a,vs,e,_,h1,h2⟩:=h
  exact ⟨a,vs,e,.inl h1,h2⟩
 | obj c ns l=>exact o5 fh (fun _ _ _ e=>e) h
 | pin a t ih=>exact ih h.2.2
open Classical in
def qf (F H:Hp) (S:Addr->Prop):Hp:=fun b=>if S b then H b else F b
def fO {b:Addr} (h:S b):qf F H S b=H b:=if_pos h
def iI {b:Addr} (h:¬ S b):qf F H S b=F b:=if_neg h
def o6 (hs:∀ b,S b->F b=none):Same F (qf F H S):=fun b o e=>by
 have:¬ S b:=fun z=>by rw [hs b z] at e;cases e
 rw [iI this]
 exact e
def uv (fh:Same F H):Same (qf F H S) H:=fun b o e=>by
 by_cases h:S b
 · rw [fO h] at e
   exact e
 · rw [iI h] at e
   exact fh _ _ e
def Own.freeze (hs:∀ b,S b->F b=none) (h:Own K F H t v S):Rep K (qf F H S) t.d v:=by
 have ff:=o6 (H:=H) hs
 induction t with
 | leaf d=>exact Rep.same ff h
 | lst l =>
  obtain ⟨a,vs,e,q,h1,h2⟩:=h
  simp only [T.d,Rep]
  exact ⟨a,vs,e,SqL.of (by rw [fO q];exact h1),h2.same ff⟩
 | dct l =>
  obtain ⟨a,vs,e,q,h1,h2,h3⟩:=h
  simp only [T.d,Rep]
  exact ⟨a,vs,e,.inl (by rw [fO q];exact h1),h2,h3.same ff⟩
 | dcT l =>
  obtain ⟨a,vs,e,q,h1,h2,h3⟩:=h
  simp only [T.d,Rep]
  exact ⟨a,vs,e,.inl (by rw [fO q];exact h1),h2,h3.same ff⟩
 | obj c ns l=>exact o5 ff (fun b o z e=>by rw [fO z];exact e) h
 | pin a t ih=>exact ih h.2.2
end
abbrev Ix:=Nat
abbrev De:=List (Option T)
structure Sep (K:PySem.W.Frag) (F H:Hp) (B:Addr->Prop) (L:Ix->Option (T×V)) (S:Ix->Addr->Prop):Prop where
 own:∀ i t v,L i=some (t,v)->Own K F H t v (S i)
 out:∀ i b,S i b->F b=none/\(∃ o,H b=some o)/\B b
 dis:∀ i j b,S i b->S j b->i=j
def jI (δ:De) (σ:St) (i:Nat):Option (T×V):=match δ[i]?,σ[i]? with
 | some (some t),some (some v)=>some (t,v)
 | _,_=>none
structure Fm where
 K:PySem.W.Frag
 F0:Hp
 H0:Hp
 S0:Addr->Prop
def Fm.B (Φ:Fm) (b:Addr):Prop:=Φ.H0 b=none∨Φ.S0 b
structure En (Φ:Fm) (δ:De) (σ:St) (F H:Hp):Prop where
 fh:Same F H
 prot:∀ b o,Φ.H0 b=some o->¬ Φ.S0 b->H b=some o
 old:Same Φ.F0 F
 nw:∀ b o,F b=some o->Φ.F0 b=some o∨Φ.B b
 len:δ.length=σ.length
 has:∀ (i:Nat) (t:T),δ[i]?=some (some t)->∃ v,σ[i]?=some (some v)
 sep:∃ S,Sep Φ.K F H Φ.B (jI δ σ) S
section
variable {Φ:Fm} {δ:De} {σ:St} {F H F' H':Hp}
def b9 {i:Nat} {t:T} {v:V} (h1:δ[i]?=some (some t)) (h2:σ[i]?=some (some v)):jI δ σ i=some (t,v):=by
 unfold jI
 rw [h1,h2]
def dq {i:Nat} {t:T} {v:V} (h:jI δ σ i=some (t,v)):δ[i]?=some (some t)/\σ[i]?=some (some v):=by
 unfold jI at h
 split at h
 · rename_i e1 e2
   cases h
   exact ⟨e1,e2⟩
 · cases h
def En.fresh (e:En Φ δ σ F H) {p:Addr} (hp:H p=none):Φ.B p:=by
 by_cases h:Φ.S0 p
 · exact .inr h
 · left
   cases q:Φ.H0 p with
   | none=>rfl
   | some o=>rw [e.prot p o q h] at hp;cases hp
def Sep.step {K:PySem.W.Frag} {B:Addr->Prop} {L:Ix->Option (T×V)} {S:Ix->Addr->Prop} (s:Sep K F H B L S) (st:Step F H F' H'):Sep K F' H' B L S where
 own:=fun i t v h=>(s.own i t v h).step st.ff fun b o _ e=>st.hh b o e
 out:=fun i b h=>by
  obtain ⟨h1,⟨o,h2⟩,h3⟩:=s.out i b h
  refine ⟨?_,⟨o,st.hh _ _ h2⟩,h3⟩
  cases q:F' b with
  | none=>rfl
  | some o' =>
   rcases st.nw b o' q with z | z
   · rw [h1] at z;cases z
   · rw [h2] at z;cases z
 dis:=s.dis
def En.step (e:En Φ δ σ F H) (st:Step F H F' H'):En Φ δ σ F' H' where
 fh:=st.fh
 prot:=fun b o h1 h2=>st.hh _ _ (e.prot b o h1 h2)
 old:=e.old.trans st.ff
 nw:=fun b o h=>by
  rcases st.nw b o h with z | z
  · exact e.nw b o z
  · exact .inr (e.fresh z)
 len:=e.len
 has:=e.has
 sep:=let ⟨S,s⟩:=e.sep;⟨S,s.step st⟩
def En.slot (e:En Φ δ σ F H) {i:Nat} {t:T} (h:δ[i]?=some (some t)):∃ v,σ[i]?=some (some v)/\RepB Φ.K F H t.d v:=by
 obtain ⟨v,hv⟩:=e.has i t h
 obtain ⟨S,s⟩:=e.sep
 exact ⟨v,hv,(s.own i t v (b9 h hv)).repB e.fh⟩
def En.leaf (e:En Φ δ σ F H) {i:Nat} {d:Dt} (h:δ[i]?=some (some (.leaf d))):∃ v,σ[i]?=some (some v)/\Rep Φ.K F d v:=by
 obtain ⟨v,hv⟩:=e.has i _ h
 obtain ⟨S,s⟩:=e.sep
 exact ⟨v,hv,s.own i _ v (b9 h hv)⟩
def dB {α:Type} {l:List (Option α)} {i j:Nat} {x y:Option α} (h:(l.set i x)[j]?=some y):(i=j/\y=x)∨(i≠j/\l[j]?=some y):=by
 by_cases hij:i=j
 · subst hij
   left
   rw [List.getElem?_set] at h
   simp only [if_true] at h
   split at h
   · cases h;exact ⟨rfl,rfl⟩
   · cases h
 · right
   rw [gN hij] at h
   exact ⟨hij,h⟩
def En.put (e:En Φ δ σ F H) {t:T} {v:V} {S':Addr->Prop} (st:Step F H F' H') (ho:Own Φ.K F' H' t v S') (hs:∀ b,S' b->F' b=none/\H b=none/\∃ o,H' b=some o) (i:Nat):En Φ (δ.set i (some t)) (σ.set i (some v)) F' H':=by
 have e':=e.step st
 obtain ⟨S,s⟩:=e.sep
 have s':=s.step st
 refine ⟨e'.fh,e'.prot,e'.old,e'.nw,by simp [e.len],fun j u h=>?_,fun j b=>if j=i then S' b else S j b,?_,?_,?_⟩
 · rcases dB h with ⟨rfl,z⟩ | ⟨hn,z⟩
   · have hi:i<σ.length:=by
      rw [<- e.len]
      have:=(gX h).1
      simpa using this
     exact ⟨v,by simp [hi]⟩
   · obtain ⟨w,hw⟩:=e.has j u z
     exact ⟨w,by rw [gN hn];exact hw⟩
 · intro j u w h
   obtain ⟨h1,h2⟩:=dq h
   rcases dB h1 with ⟨rfl,z⟩ | ⟨hn,z⟩
   · rcases dB h2 with ⟨_,z2⟩ | ⟨hn2,_⟩
     · cases z
       cases z2
       show Own _ _ _ _ _ (fun b=>if i=i then S' b else S i b)
       simp only [if_true]
       exact ho
     · exact absurd rfl hn2
   · rcases dB h2 with ⟨z2,_⟩ | ⟨_,z2⟩
     · exact absurd z2 hn
     · have:¬ j=i:=fun q=>hn q.symm
       show Own _ _ _ _ _ (fun b=>if j=i then S' b else S j b)
       simp only [if_neg this]
       exact s'.own j u w (b9 z z2)
 · intro j b h
   split at h
   · obtain ⟨h1,h2,h3⟩:=hs b h
     exact ⟨h1,h3,e.fresh h2⟩
   · exact s'.out _ b h
 · have old:∀ j b,S j b->¬ S' b:=fun j b h z=>by
    obtain ⟨_,⟨o,h2⟩,_⟩:=s.out j b h
    rw [(hs b z).2.1] at h2
    cases h2
   intro j k b hj hk
   split at hj<;>split at hk
   · rename_i q1 q2
     rw [q1,q2]
   · exact absurd hj (old _ b hk)
   · exact absurd hk (old _ b hj)
   · exact s.dis _ _ b hj hk
def qg {K:PySem.W.Frag} {t:T} {a:Addr} {S:Addr->Prop} (ht:∀ d,t≠.leaf d) (h:Own K F H t (.ref a) S):S a:=by
 induction t with
 | leaf d=>exact absurd rfl (ht d)
 | lst l=>obtain ⟨b,_,e,q,_⟩:=h;cases e;exact q
 | dct l=>obtain ⟨b,_,e,q,_⟩:=h;cases e;exact q
 | dcT l=>obtain ⟨b,_,e,q,_⟩:=h;cases e;exact q
 | obj c ns l=>obtain ⟨b,_,_,_,_,e,q,_⟩:=h;cases e;exact q
 | pin b t ih=>exact ih h.2.1 h.2.2
def En.poke (e:En Φ δ σ F H) {i:Nat} {t t':T} {a:Addr} {o:HO} (h:δ[i]?=some (some t)) (hv:σ[i]?=some (some (.ref a))) (ht:∀ d,t≠.leaf d) (ho:∀ S:Addr->Prop,S a->Own Φ.K F (upd H a o) t' (.ref a) S) :
  En Φ (δ.set i (some t')) σ F (upd H a o):=by
 obtain ⟨S,s⟩:=e.sep
 have sa:S i a:=qg ht (s.own i t _ (b9 h hv))
 obtain ⟨fa,⟨oa,ha⟩,ba⟩:=s.out _ a sa
 have hi:i<δ.length:=(gX h).1
 refine ⟨fun b u z=>?_,fun b u h1 h2=>?_,e.old,e.nw,by simp [e.len],fun j u z=>?_,S,fun j u w z=>?_,fun j b z=>?_,s.dis⟩
 · have:b≠a:=fun q=>by rw [q,fa] at z;cases z
   rw [aJ this]
   exact e.fh _ _ z
 · have:b≠a:=fun q=>by
    subst q
    rcases ba with z | z
    · rw [z] at h1;cases h1
    · exact h2 z
   rw [aJ this]
   exact e.prot b u h1 h2
 · rcases dB z with ⟨rfl,_⟩ | ⟨hn,z⟩
   · exact ⟨_,hv⟩
   · exact e.has j u z
 · obtain ⟨h1,h2⟩:=dq z
   rcases dB h1 with ⟨rfl,z1⟩ | ⟨hn,z1⟩
   · cases z1
     rw [hv] at h2
     cases h2
     exact ho _ sa
   · refine (s.own j u w (b9 z1 h2)).step (Same.refl _) fun b q hb hq=>?_
     have:b≠a:=fun y=>by
      subst y
      exact hn (s.dis _ _ _ hb sa).symm
     rw [aJ this]
     exact hq
 · obtain ⟨h1,⟨q,h2⟩,h3⟩:=s.out j b z
   refine ⟨h1,?_,h3⟩
   by_cases y:b=a
   · subst y
     exact ⟨o,aI⟩
   · exact ⟨q,by rw [aJ y];exact h2⟩
end
def KO (K:PySem.W.Frag) (F H:Hp) (t:T) (Q:VK):Prop:=∀ v H' F' S,Step F H F' H'->Own K F' H' t v S->(∀ b,S b->F' b=none/\H b=none/\∃ o,H' b=some o)->Q v H'
def KL (K:PySem.W.Frag) (F H:Hp) (d:Dt) (Q:VK):Prop:=∀ v H' F',Step F H F' H'->Rep K F' d v->Q v H'
def KB (K:PySem.W.Frag) (F H:Hp) (d:Dt) (Q:VK):Prop:=∀ v H' F',Step F H F' H'->RepB K F' H' d v->Q v H'
section
variable {K:PySem.W.Frag} {F H F1 H1:Hp} {t:T} {d:Dt} {Q:VK}
def KO.step (k:KO K F H t Q) (st:Step F H F1 H1):KO K F1 H1 t Q:=fun v H' F' S s o hs=>k v H' F' S (st.trans s) o fun b z=>⟨(hs b z).1,st.hh.free (hs b z).2.1,(hs b z).2.2⟩
def KO.leaf (k:KO K F H (.leaf d) Q):KL K F H d Q:=fun v H' F' st r=>k v H' F' (fun _=>False) st r fun _ z=>z.elim
def KL.here (k:KL K F H d Q) (fh:Same F H) {v:V} (r:Rep K F d v):Q v H:=k v H F (Step.refl fh) r
def KB.to (k:KB K F H d Q):KL K F H d Q:=fun v H' F' st r=>k v H' F' st (RepB.of st.fh r)
def KL.to (k:KL K F H t.d Q):KO K F H t Q:=fun v H' F' S st o hs=>by
 refine k v H' (qf F' H' S) ⟨st.hh,st.ff.trans (o6 fun b z=>(hs b z).1),uv st.fh,fun b u z=>?_⟩ (o.freeze fun b z=>(hs b z).1)
 by_cases hb:S b
 · exact .inr (hs b hb).2.1
 · rw [iI hb] at z
   exact st.nw b u z
def KB.toO (k:KB K F H t.d Q):KO K F H t Q:=fun v H' F' S st o hs=>k v H' F' st (o.repB st.fh)
end
def tO (K:PySem.W.Frag) (f:De->Option T):TE:=fun σ H Q=>∃ Φ δ F t,Fm.K Φ=K/\En Φ δ σ F H/\f δ=some t/\KO K F H t Q
def tL (K:PySem.W.Frag) (f:De->Option Dt):TE:=fun σ H Q=>∃ Φ δ F d,Fm.K Φ=K/\En Φ δ σ F H/\f δ=some d/\KL K F H d Q
def tBd (K:PySem.W.Frag) (f:De->Option Dt):TE:=fun σ H Q=>∃ Φ δ F d,Fm.K Φ=K/\En Φ δ σ F H/\f δ=some d/\KB K F H d Q
def tTr (K:PySem.W.Frag) (f:De->Option Bool):TT:=fun σ H Q=>∃ Φ δ F b,Fm.K Φ=K/\En Φ δ σ F H/\f δ=some b/\∀ H' F',Step F H F' H'->Q b H'
def DO (X:Cx) (e:Expr) (f:De->Option T):Prop:=PE X e (tO X.K f)
def DL (X:Cx) (e:Expr) (f:De->Option Dt):Prop:=PE X e (tL X.K f)
def DB (X:Cx) (e:Expr) (f:De->Option Dt):Prop:=PE X e (tBd X.K f)
def DT (X:Cx) (e:Expr) (f:De->Option Bool):Prop:=PT X e (tTr X.K f)
def DW (X:Cx) (e:Expr) (f:De->Option Bool):Prop:=PW X e (tTr X.K f)
def PE.mono {X:Cx} {e:Expr} {t t':TE} (h:PE X e t) (m:∀ σ H Q,t' σ H Q->t σ H Q):PE X e t':=fun pins s σ H Q I q=>h pins s σ H Q I (m _ _ _ q)
def PT.mono {X:Cx} {e:Expr} {t t':TT} (h:PT X e t) (m:∀ σ H Q,t' σ H Q->t σ H Q):PT X e t':=fun pins s σ H Q I q=>h pins s σ H Q I (m _ _ _ q)
def PW.mono {X:Cx} {e:Expr} {t t':TT} (h:PW X e t) (m:∀ σ H Q,t' σ H Q->t σ H Q):PW X e t':=fun whole pins s σ H Q I q=>h whole pins s σ H Q I (m _ _ _ q)
def PA.mono {X:Cx} {e:List Expr} {t t':TA} (h:PA X e t) (m:∀ σ H Q,t' σ H Q->t σ H Q):PA X e t':=fun pos pins s σ H Q I q=>h pos pins s σ H Q I (m _ _ _ q)
def PI.mono {X:Cx} {tg e:Expr} {t t':TI} (h:PI X tg e t) (m:∀ σ H Q,t' σ H Q->t σ H Q):PI X tg e t':=fun pins s σ H Q I q=>h pins s σ H Q I (m _ _ _ q)
def PG.mono {X:Cx} {e:Expr} {t t':TG} (h:PG X e t) (m:∀ v σ H Q,t' v σ H Q->t v σ H Q):PG X e t':=fun pins s σ H v u Q I r q=>h pins s σ H v u Q I r (m _ _ _ _ q)
def PS.mono {X:Cx} {e:Stmt} {t t':TS} (h:PS X e t) (m:∀ D σ H,t' D σ H->t D σ H):PS X e t':=fun pins s σ H Q I q=>h pins s σ H Q I (m _ _ _ q)
def PSs.mono {X:Cx} {e:List Stmt} {t t':TS} (h:PSs X e t) (m:∀ D σ H,t' D σ H->t D σ H):PSs X e t':=fun pins s σ H Q I q=>h pins s σ H Q I (m _ _ _ q)
def PE.or {X:Cx} {e:Expr} {t t':TE} (h:PE X e t) (h':PE X e t'):PE X e (fun σ H Q=>t σ H Q∨t' σ H Q):=fun pins s σ H Q I q=>q.elim (h pins s σ H Q I) (h' pins s σ H Q I)
def PI.or {X:Cx} {tg e:Expr} {t t':TI} (h:PI X tg e t) (h':PI X tg e t'):PI X tg e (fun σ H Q=>t σ H Q∨t' σ H Q):=fun pins s σ H Q I q=>q.elim (h pins s σ H Q I) (h' pins s σ H Q I)
section
variable {X:Cx} {e a b c:Expr} {f:De->Option T} {g fa fb fc:De->Option Dt} {pos:Pos}
def toD (f:De->Option T):De->Option Dt:=fun δ=>(f δ).map T.d
def toT (f:De->Option Dt):De->Option T:=fun δ=>(f δ).map T.leaf
def DO.toL (h:DO X e f):DL X e (toD f):=PE.mono h fun σ H Q ⟨Φ,δ,F,d,hK,en,hf,k⟩=>by
 unfold toD at hf
 cases ht:f δ with
 | none=>rw [ht] at hf;cases hf
 | some t =>
  rw [ht] at hf
  cases hf
  exact ⟨Φ,δ,F,t,hK,en,ht,k.to⟩
def DO.toB (h:DO X e f):DB X e (toD f):=PE.mono h fun σ H Q ⟨Φ,δ,F,d,hK,en,hf,k⟩=>by
 unfold toD at hf
 cases ht:f δ with
 | none=>rw [ht] at hf;cases hf
 | some t =>
  rw [ht] at hf
  cases hf
  exact ⟨Φ,δ,F,t,hK,en,ht,k.toO⟩
def DL.toB (h:DL X e g):DB X e g:=PE.mono h fun σ H Q ⟨Φ,δ,F,d,hK,en,hf,k⟩=>⟨Φ,δ,F,d,hK,en,hf,k.to⟩
def DL.toO (h:DL X e g):DO X e (toT g):=PE.mono h fun σ H Q ⟨Φ,δ,F,t,hK,en,hf,k⟩=>by
 unfold toT at hf
 cases hd:g δ with
 | none=>rw [hd] at hf;cases hf
 | some d =>
  rw [hd] at hf
  cases hf
  exact ⟨Φ,δ,F,d,hK,en,hd,k.leaf⟩
def vL (i:Nat):De->Option Dt:=fun δ=>match δ[i]? with
 | some (some (.leaf d))=>some d
 | _=>none
def vB (i:Nat):De->Option Dt:=fun δ=>match δ[i]? with
 | some (some t)=>some t.d
 | _=>none
def ar {i:Nat} (h:PE X e (jm i)):DL X e (vL i):=PE.mono h fun σ H Q ⟨Φ,δ,F,d,hK,en,hf,k⟩=>by
 unfold vL at hf
 split at hf
 · rename_i q
   cases hf
   obtain ⟨v,h1,h2⟩:=en.leaf q
   exact ⟨v,h1,k.here en.fh (hK▸h2)⟩
 · cases hf
def af {i:Nat} (h:PE X e (jm i)):DB X e (vB i):=PE.mono h fun σ H Q ⟨Φ,δ,F,d,hK,en,hf,k⟩=>by
 unfold vB at hf
 split at hf
 · rename_i q
   cases hf
   obtain ⟨v,h1,h2⟩:=en.slot q
   exact ⟨v,h1,k v H F (Step.refl en.fh) (hK▸h2)⟩
 · cases hf
def kD (d:Dt):De->Option Dt:=fun _=>some d
def rH {v:V} {d:Dt} (h:PE X e (tC v)) (r:∀ F,Rep X.K F d v):DL X e (kD d):=PE.mono h fun σ H Q ⟨Φ,δ,F,d',hK,en,hf,k⟩=>by
 cases hf
 exact k.here en.fh (r F)
def ag {i:Int} {j}:DL X (.Constant (.int i) j pos) (kD (.int i)):=rH w6 fun F=>by simp only [Rep]
def dJ {i:Bool} {j}:DL X (.Constant (.bool i) j pos) (kD (.bl i)):=rH zr fun F=>by simp only [Rep]
def rJ {j}:DL X (.Constant .none j pos) (kD .non):=rH w8 fun F=>by simp only [Rep]
def aP {x:Str} {j}:DL X (.Constant (.str x) j pos) (kD (.str x)):=rH w9 fun F=>by simp only [Rep]
def R2D (K:PySem.W.Frag) (r:R2) (g:Dt->Dt->Option T):Prop:=∀ F H x y vx vy (Q:VK) t,Same F H->RepB K F H x vx->RepB K F H y vy->g x y=some t->KO K F H t Q->r vx vy H Q
def d2 (g:Dt->Dt->Option T) (fa fb:De->Option Dt):De->Option T:=fun δ=>(fa δ).bind fun x=>(fb δ).bind fun y=>g x y
def jJ {K:PySem.W.Frag} {r:R2} {g:Dt->Dt->Option T} (hr:R2D K r g) {σ:St} {H:Hp} {Q:VK} (h:tO K (d2 g fa fb) σ H Q):tOp r (tBd K fa) (tBd K fb) σ H Q:=by
 obtain ⟨Φ,δ,F,t,hK,en,hf,k⟩:=h
 unfold d2 at hf
 obtain ⟨x,hx,hf⟩:=bS hf
 obtain ⟨y,hy,hf⟩:=bS hf
 exact ⟨Φ,δ,F,x,hK,en,hx,fun v H1 F1 st rv=>⟨Φ,δ,F1,y,hK,en.step st,hy,fun v2 H2 F2 st2 rv2=>hr F2 H2 x y v v2 Q t st2.fh (rv.step st2.ff st2.hh) rv2 hf (k.step (st.trans st2))⟩⟩
def ax {op:Operator} {r:R2} {g:Dt->Dt->Option T} (ho:OpR X (binaryOp op) r) (hr:R2D X.K r g) (ha:DB X a fa) (hb:DB X b fb):DO X (.BinOp a op b pos) (d2 g fa fb):=PE.mono (zy ho ha hb) fun σ H Q h=>jJ hr h
def kK {op:CmpOp} {r:R2} {g:Dt->Dt->Option T} (ho:OpR X (compareOp op) r) (hr:R2D X.K r g) (ha:DB X a fa) (hb:DB X b fb) (hm:behindInMarks op b=false):DO X (.Compare a [op] [b] pos) (d2 g fa fb):=PE.mono (oI ho ha hb hm) fun σ H Q h=>jJ hr h
def asB:T->Option Bool
 | .leaf (.bl b)=>some b
 | _=>none
def tB2 (g:Dt->Dt->Option T) (fa fb:De->Option Dt):De->Option Bool:=fun δ=>(d2 g fa fb δ).bind asB
def o7 {K:PySem.W.Frag} {F H:Hp} {t:T} {v:V} {S:Addr->Prop} {b:Bool} (h:asB t=some b) (o:Own K F H t v S):v=.bl b:=by
 unfold asB at h
 split at h
 · cases h
   have o:Rep K F (.bl b) v:=o
   simp only [Rep] at o
   exact o
 · cases h
def bv {op:CmpOp} {r:R2} {g:Dt->Dt->Option T} (ho:OpR X (compareOp op) r) (hr:R2D X.K r g) (ha:DB X a fa) (hb:DB X b fb) (hm:behindInMarks op b=false):DT X (.Compare a [op] [b] pos) (tB2 g fa fb):=PT.mono (ii ho ha hb hm) fun σ H Q ⟨Φ,δ,F,t,hK,en,hf,k⟩=>by
 unfold tB2 at hf
 obtain ⟨z,hz,hf⟩:=bS hf
 refine jJ hr ⟨Φ,δ,F,z,hK,en,hz,fun v H' F' S st o hs=>?_⟩
 exact ⟨t,o7 hf o,k H' F' st⟩
def uw:Dt->Option Bool
 | .non=>some false
 | .bl b=>some b
 | .int i=>some (i != 0)
 | .str x=>if x.length<=sizeLine then some ((x.length:Int) != 0) else none
 | .tup l=>some (!l.isEmpty)
 | .lst l=>some (!l.isEmpty)
 | _=>none
def iJ (f:De->Option Dt):De->Option Bool:=fun δ=>(f δ).bind uw
def fP {K:PySem.W.Frag} {F:Hp} {l:List Dt} {vs:List V} (h:Reps K F l vs):l.isEmpty=vs.isEmpty:=by
 cases l with
 | nil=>unfold Reps at h;rw [h];rfl
 | cons d l=>unfold Reps at h;obtain ⟨v,ws,rfl,_⟩:=h;rfl
def ux {K:PySem.W.Frag} {F H:Hp} {d:Dt} {v:V} {b:Bool} (fh:Same F H) (h:RepB K F H d v) (hb:uw d=some b):xo K v H b:=by
 cases d with
 | non=>cases h;cases hb;rfl
 | bl x=>cases h;cases hb;rfl
 | int x=>cases h;cases hb;rfl
 | str x =>
  cases h
  simp only [uw] at hb
  split at hb
  · cases hb;exact ⟨by assumption,rfl⟩
  · cases hb
 | tup l =>
  obtain ⟨a,vs,rfl,h1,h2⟩:=h
  cases hb
  exact .inr (.inl ⟨vs,fh.tup h1,by rw [fP h2]⟩)
 | lst l =>
  obtain ⟨a,vs,rfl,h1,h2⟩:=h
  cases hb
  exact .inl ⟨vs,h1,by rw [fP h2]⟩
 | dct ks l=>cases hb
 | dcT ks l=>cases hb
 | ins c ns l=>cases hb
def du (ha:DB X a fa) (he:∀ whole,isTrue a X.env whole=(do let v <- whole;standAt a.pos;holding [v] (truthy v))):DT X a (iJ fa):=PT.mono (qX ha he) fun σ H Q ⟨Φ,δ,F,b,hK,en,hf,k⟩=>by
 unfold iJ at hf
 obtain ⟨d,hd,hf⟩:=bS hf
 exact ⟨Φ,δ,F,d,hK,en,hd,fun v H' F' st r=>⟨b,ux st.fh r hf,k H' F' st⟩⟩
def nI (f:De->Option Bool):De->Option Bool:=fun δ=>(f δ).map (!·)
def qh (f g:De->Option Bool):De->Option Bool:=fun δ=>(f δ).bind fun b=>if b then g δ else some false
def fOr (f g:De->Option Bool):De->Option Bool:=fun δ=>(f δ).bind fun b=>if b then some true else g δ
variable {ta tb tc:De->Option Bool} {rest:List Expr}
def rK (h:DT X a ta):DT X (.UnaryOp .Not a pos) (nI ta):=PT.mono (xc h) fun σ H Q ⟨Φ,δ,F,b,hK,en,hf,k⟩=>by
 unfold nI at hf
 cases q:ta δ with
 | none=>rw [q] at hf;cases hf
 | some c =>
  rw [q] at hf
  cases hf
  exact ⟨Φ,δ,F,c,hK,en,q,fun H' F' st=>k H' F' st⟩
def kL (h:DT X a ta):DW X (.BoolOp .And [a] pos) ta:=t8 h
def xH (h:DT X a ta):DW X (.BoolOp .Or [a] pos) ta:=xa h
def nJ (h:DT X a ta) (h':DW X (.BoolOp .And (b::rest) pos) tb):DW X (.BoolOp .And (a::b::rest) pos) (qh ta tb):=PW.mono (xb h h') fun σ H Q ⟨Φ,δ,F,t,hK,en,hf,k⟩=>by
 unfold qh at hf
 obtain ⟨c,hc,hf⟩:=bS hf
 refine ⟨Φ,δ,F,c,hK,en,hc,fun H' F' st=>?_⟩
 split at hf
 · rename_i q
   rw [if_pos q]
   exact ⟨Φ,δ,F',t,hK,en.step st,hf,fun H2 F2 s2=>k H2 F2 (st.trans s2)⟩
 · rename_i q
   rw [if_neg q]
   cases hf
   exact k H' F' st
def zP (h:DT X a ta) (h':DW X (.BoolOp .Or (b::rest) pos) tb):DW X (.BoolOp .Or (a::b::rest) pos) (fOr ta tb):=PW.mono (zt h h') fun σ H Q ⟨Φ,δ,F,t,hK,en,hf,k⟩=>by
 unfold fOr at hf
 obtain ⟨c,hc,hf⟩:=bS hf
 refine ⟨Φ,δ,F,c,hK,en,hc,fun H' F' st=>?_⟩
 split at hf
 · rename_i q
   rw [if_pos q]
   cases hf
   exact k H' F' st
 · rename_i q
   rw [if_neg q]
   exact ⟨Φ,δ,F',t,hK,en.step st,hf,fun H2 F2 s2=>k H2 F2 (st.trans s2)⟩
def DW.t (h:DW X a ta):DT X a ta:=h.pt
def rL:Dt->Option Bool
 | .bl b=>some b
 | _=>none
def rM (f:De->Option Dt) (g:De->Option T):De->Option T:=fun δ=>(f δ).bind fun x=>(rL x).bind fun b=>if b then g δ else some (.leaf (.bl false))
def vIf (c:De->Option Bool) (f g:De->Option T):De->Option T:=fun δ=>(c δ).bind fun b=>if b then f δ else g δ
def uy {K:PySem.W.Frag} {F H:Hp} {x:Dt} {v:V} {b:Bool} (h:rL x=some b) (r:RepB K F H x v):v=.bl b:=by
 unfold rL at h
 split at h
 · cases h;exact r
 · cases h
def nK {K:PySem.W.Frag} {F:Hp} {b:Bool}:Rep K F (.bl b) (.bl b):=by simp only [Rep]
def fQ {K:PySem.W.Frag} {F:Hp} {b:Int}:Rep K F (.int b) (.int b):=by simp only [Rep]
def kM {K:PySem.W.Frag} {F:Hp} {b:Str}:Rep K F (.str b) (.str b):=by simp only [Rep]
def o8 {K:PySem.W.Frag} {F:Hp}:Rep K F .non .non:=by simp only [Rep]
variable {oa ob:De->Option T}
def xI {op} (h:DO X a oa):DO X (.BoolOp op [a] pos) oa:=qO h
def xJ (h:DB X a fa) (h':DO X (.BoolOp .And (b::rest) pos) ob):DO X (.BoolOp .And (a::b::rest) pos) (rM fa ob):=PE.mono (qP h h') fun σ H Q ⟨Φ,δ,F,t,hK,en,hf,k⟩=>by
 unfold rM at hf
 obtain ⟨x,hx,hf⟩:=bS hf
 obtain ⟨b,hb,hf⟩:=bS hf
 refine ⟨Φ,δ,F,x,hK,en,hx,fun v H' F' st r=>⟨b,uy hb r,?_⟩⟩
 split at hf
 · rename_i q
   rw [if_pos q]
   exact ⟨Φ,δ,F',t,hK,en.step st,hf,k.step st⟩
 · rename_i q
   rw [if_neg q]
   cases hf
   exact (k.step st).leaf.here st.fh nK
def zQ (hc:DT X c tc) (h:DO X a oa) (h':DO X b ob):DO X (.IfExp c a b pos) (vIf tc oa ob):=PE.mono (qQ hc h h') fun σ H Q ⟨Φ,δ,F,t,hK,en,hf,k⟩=>by
 unfold vIf at hf
 obtain ⟨x,hx,hf⟩:=bS hf
 refine ⟨Φ,δ,F,x,hK,en,hx,fun H' F' st=>?_⟩
 split at hf
 · rename_i q
   rw [if_pos q]
   exact ⟨Φ,δ,F',t,hK,en.step st,hf,k.step st⟩
 · rename_i q
   rw [if_neg q]
   exact ⟨Φ,δ,F',t,hK,en.step st,hf,k.step st⟩
def iK (K:PySem.W.Frag) (F H:Hp):List Dt->List V->Prop
 | [],vs=>vs=[]
 | d::l,vs=>∃ v ws,vs=v::ws/\RepB K F H d v/\iK K F H l ws
def tAL (K:PySem.W.Frag) (f:De->Option (List Dt)):TA:=fun σ H Q=>∃ Φ δ F ds,Fm.K Φ=K/\En Φ δ σ F H/\f δ=some ds/\∀ vs H' F',Step F H F' H'->Reps K F' ds vs->Q vs H'
def tAB (K:PySem.W.Frag) (f:De->Option (List Dt)):TA:=fun σ H Q=>∃ Φ δ F ds,Fm.K Φ=K/\En Φ δ σ F H/\f δ=some ds/\∀ vs H' F',Step F H F' H'->iK K F' H' ds vs->Q vs H'
structure DA (X:Cx) (es:List Expr) (f:De->Option (List Dt)):Prop where
 len:∀ δ ds,f δ=some ds->ds.length=es.length
 pa:PA X es (tAL X.K f)
structure DAB (X:Cx) (es:List Expr) (f:De->Option (List Dt)):Prop where
 len:∀ δ ds,f δ=some ds->ds.length=es.length
 pa:PA X es (tAB X.K f)
def ao:De->Option (List Dt):=fun _=>some []
def ae (f:De->Option Dt) (g:De->Option (List Dt)):De->Option (List Dt):=fun δ=>(f δ).bind fun d=>(g δ).bind fun ds=>some (d::ds)
variable {es:List Expr} {fs:De->Option (List Dt)}
def jK {n:Nat} {f:De->Option Dt} (h:∀ δ ds,fs δ=some ds->ds.length=n):∀ δ ds,ae f fs δ=some ds->ds.length=n+1:=fun δ ds hf=>by
 unfold ae at hf
 obtain ⟨x,hx,hf⟩:=bS hf
 obtain ⟨y,hy,hf⟩:=bS hf
 cases hf
 simp [h δ y hy]
def ai:DA X [] ao:=⟨fun _ _ h=>by cases h;rfl,PA.mono dU fun σ H Q ⟨Φ,δ,F,ds,hK,en,hf,k⟩=>by
 cases hf
 exact k [] H F (Step.refl en.fh) (by simp only [Reps])⟩
def aS:DAB X [] ao:=⟨fun _ _ h=>by cases h;rfl,PA.mono dU fun σ H Q ⟨Φ,δ,F,ds,hK,en,hf,k⟩=>by
 cases hf
 exact k [] H F (Step.refl en.fh) rfl⟩
def ab (h:DL X e g) (h':DA X es fs) (hs:starEach (e::es) X.env=(false,eval e X.env)::starEach es X.env:=by rfl):DA X (e::es) (ae g fs):=
 ⟨jK h'.len,PA.mono (cF h h'.pa hs) fun σ H Q ⟨Φ,δ,F,ds,hK,en,hf,k⟩=>by
  unfold ae at hf
  obtain ⟨x,hx,hf⟩:=bS hf
  obtain ⟨y,hy,hf⟩:=bS hf
  cases hf
  exact ⟨Φ,δ,F,x,hK,en,hx,fun v H1 F1 st r=>⟨Φ,δ,F1,y,hK,en.step st,hy,fun vs H2 F2 s2 r2=>k (v::vs) H2 F2 (st.trans s2) (by simp only [Reps];exact ⟨v,vs,rfl,r.same s2.ff,r2⟩)⟩⟩⟩
def aG (h:DB X e g) (h':DAB X es fs) (hs:starEach (e::es) X.env=(false,eval e X.env)::starEach es X.env:=by rfl):DAB X (e::es) (ae g fs):=
 ⟨jK h'.len,PA.mono (cF h h'.pa hs) fun σ H Q ⟨Φ,δ,F,ds,hK,en,hf,k⟩=>by
  unfold ae at hf
  obtain ⟨x,hx,hf⟩:=bS hf
  obtain ⟨y,hy,hf⟩:=bS hf
  cases hf
  exact ⟨Φ,δ,F,x,hK,en,hx,fun v H1 F1 st r=>⟨Φ,δ,F1,y,hK,en.step st,hy,fun vs H2 F2 s2 r2=>k (v::vs) H2 F2 (st.trans s2) ⟨v,vs,rfl,r.step s2.ff s2.hh,r2⟩⟩⟩⟩
def bT (f:De->Option (List Dt)):De->Option T:=fun δ=>(f δ).bind fun ds=>if ds.length<=sizeLine then some (.leaf (.tup ds)) else none
def bH (f:De->Option (List Dt)):De->Option T:=fun δ=>(f δ).bind fun ds=>if ds.length<=sizeLine then some (.lst ds) else none
def bc {x1} (h:DA X es fs):DO X (.Tuple es x1 pos) (bT fs):=PE.mono (xq h.pa) fun σ H Q ⟨Φ,δ,F,t,hK,en,hf,k⟩=>by
 unfold bT at hf
 obtain ⟨ds,hd,hf⟩:=bS hf
 split at hf
 · rename_i hl
   cases hf
   refine ⟨Φ,δ,F,ds,hK,en,hd,fun vs H1 F1 st r=>⟨by rw [r.length];exact hl,fun p hp=>?_⟩⟩
   refine (k.step st).leaf _ _ _ (Step.new st.fh hp) ?_
   simp only [Rep]
   exact ⟨p,vs,rfl,SqT.of aI,r.same (Same.upd (st.fh.free hp))⟩
 · cases hf
def cY {K:PySem.W.Frag} {F H:Hp} {ds:List Dt} {vs:List V} {p:Addr} {Q:VK} (k:KO K F H (.lst ds) Q) (fh:Same F H) (r:Reps K F ds vs) (hp:H p=none):Q (.ref p) (upd H p (.lst vs)):=by
 refine k _ _ F (fun b=>b=p) (Step.made fh hp) ⟨p,vs,rfl,rfl,aI,r⟩ fun b z=>?_
 subst z
 exact ⟨fh.free hp,hp,_,aI⟩
def aY (h:DA X es fs):DO X (.List es pos) (bH fs):=PE.mono (xr h.pa) fun σ H Q ⟨Φ,δ,F,t,hK,en,hf,k⟩=>by
 unfold bH at hf
 obtain ⟨ds,hd,hf⟩:=bS hf
 split at hf
 · rename_i hl
   cases hf
   exact ⟨Φ,δ,F,ds,hK,en,hd,fun vs H1 F1 st r=>⟨by rw [r.length];exact hl,fun p hp=>cY (k.step st) st.fh r hp⟩⟩
 · cases hf
def CRD (K:PySem.W.Frag) (r:List V->Hp->VK->Prop) (g:List Dt->Option T):Prop:=∀ F H ds vs (Q:VK) t,Same F H->iK K F H ds vs->g ds=some t->KO K F H t Q->r vs H Q
def aw (g:List Dt->Option T) (f:De->Option (List Dt)):De->Option T:=fun δ=>(f δ).bind g
def rN {K:PySem.W.Frag} {r:List V->Hp->VK->Prop} {g:List Dt->Option T} (hr:CRD K r g) {σ:St} {H:Hp} {Q:VK} (h:tO K (aw g fs) σ H Q):tCB r (tAB K fs) σ H Q:=by
 obtain ⟨Φ,δ,F,t,hK,en,hf,k⟩:=h
 unfold aw at hf
 obtain ⟨ds,hd,hf⟩:=bS hf
 exact ⟨Φ,δ,F,ds,hK,en,hd,fun vs H1 F1 st r=>hr F1 H1 ds vs Q t st.fh r hf (k.step st)⟩
variable {x:Str} {p:Pos} {id Ty:String} {sc:Scope} {r:List V->Hp->VK->Prop} {gg:List Dt->Option T}
def aV (h:aH sc x=true) (hc:b7 X (.builtin id) r) (hr:CRD X.K r gg) (hm:X.mg x=none) (hv:bootBuiltins x=some (.builtin id)) (ha:DAB X (e::es) fs) (e1:bM X sc:=by rfl)
  (he:starEach (e::es) X.env=(false,eval e X.env)::starEach es X.env:=by rfl) (hpl:(backTo pos (starEach es X.env)).any (·.1)=false:=by rfl):DO X (.Call (.Name x p) (e::es) [] pos) (aw gg fs):=
 PE.mono (gG h hc hm hv ha.pa e1 he hpl) fun σ H Q q=>rN hr q
def iL (h:aH sc x=true) (hc:b7 X (.type Ty) r) (hr:CRD X.K r gg) (hm:X.mg x=none) (hv:bootBuiltins x=some (.type Ty)) (ha:DAB X (e::es) fs) (e1:bM X sc:=by rfl)
  (he:starEach (e::es) X.env=(false,eval e X.env)::starEach es X.env:=by rfl) (hpl:(backTo pos (starEach es X.env)).any (·.1)=false:=by rfl):DO X (.Call (.Name x p) (e::es) [] pos) (aw gg fs):=
 PE.mono (fq h hc hm hv ha.pa e1 he hpl) fun σ H Q q=>rN hr q
def spD (K:PySem.W.Frag) (n:Nat) (f:List Dt->Option T):Sp:=fun vs H Q _=>∃ F ds t,Same F H/\ds.length=n/\Reps K F ds vs/\f ds=some t/\KO K F H t Q
def aC {k n:Nat} {ps:List Str} {ff:List Dt->Option T} (h:aH sc x=true) (F:OkF X.prog X.w X.K X.mg X.base x k ps (spD X.K n ff)) (hr:Room k X.A) (ha:DA X (e::es) fs) (hn:(e::es).length=n:=by rfl) (e1:bM X sc:=by rfl)
  (he:starEach (e::es) X.env=(false,eval e X.env)::starEach es X.env:=by rfl) (hpl:(backTo pos (starEach es X.env)).any (·.1)=false:=by rfl):DO X (.Call (.Name x p) (e::es) [] pos) (aw ff fs):=
 PE.mono (jH h F hr ha.pa e1 he hpl) fun σ H Q ⟨Φ,δ,Fz,t,hK,en,hf,k⟩=>by
  unfold aw at hf
  obtain ⟨ds,hd,hf⟩:=bS hf
  refine ⟨Φ,δ,Fz,ds,hK,en,hd,fun vs H1 F1 st r=>?_⟩
  show spD X.K n ff (vs++[]) H1 Q E0
  rw [List.append_nil]
  exact ⟨F1,ds,t,st.fh,(ha.len δ ds hd).trans hn,r,hf,k.step st⟩
end
inductive Out where
 | nx (δ:De) | rt (t:T) | bk (δ:De) | ct (δ:De) | re (t:T) (δ:De)
structure Rt (Φ:Fm) (t:T) (v:V) (F H:Hp):Prop where
 fh:Same F H
 prot:∀ b o,Φ.H0 b=some o->¬ Φ.S0 b->H b=some o
 old:Same Φ.F0 F
 nw:∀ b o,F b=some o->Φ.F0 b=some o∨Φ.B b
 own:∃ S,Own Φ.K F H t v S/\∀ b,S b->F b=none/\(∃ o,H b=some o)/\Φ.B b
structure Re (Φ:Fm) (t:T) (v:V) (δ:De) (σ:St) (F H:Hp):Prop where
 en:En Φ δ σ F H
 own:∃ S R,Sep Φ.K F H Φ.B (jI δ σ) S/\Own Φ.K F H t v R/\∀ b,R b->F b=none/\(∃ o,H b=some o)/\Φ.B b/\∀ i,¬ S i b
noncomputable def Post (Φ:Fm) (D:Ends):Out->Prop
 | .nx δ=>∀ σ F H,En Φ δ σ F H->D.nx σ H
 | .rt t=>∀ v F H,Rt Φ t v F H->D.rt v H
 | .bk δ=>∀ σ F H,En Φ δ σ F H->D.bk σ H
 | .ct δ=>∀ σ F H,En Φ δ σ F H->D.ct σ H
 | .re t δ=>∀ v σ F H,Re Φ t v δ σ F H->D.rt v H
def tS (K:PySem.W.Frag) (g:De->Option Out):TS:=fun D σ H=>∃ Φ δ F o,Fm.K Φ=K/\En Φ δ σ F H/\g δ=some o/\Post Φ D o
def DS1 (X:Cx) (st:Stmt) (g:De->Option Out):Prop:=PS X st (tS X.K g)
def DS (X:Cx) (ss:List Stmt) (g:De->Option Out):Prop:=PSs X ss (tS X.K g)
section
variable {X:Cx} {st:Stmt} {rest a b body:List Stmt} {g g1 g2:De->Option Out} {e c tg iter:Expr} {pos:Pos} {f:De->Option T} {fd:De->Option Dt} {tc:De->Option Bool} {i:Nat}
def cW:De->Option Out:=fun δ=>some (.nx δ)
def aT (g1 g2:De->Option Out):De->Option Out:=fun δ=>(g1 δ).bind fun o=>match o with
 | .nx δ'=>g2 δ'
 | o=>some o
def bA:DS X [] cW:=PSs.mono oC fun D σ H ⟨Φ,δ,F,o,hK,en,hg,k⟩=>by
 cases hg
 exact k σ F H en
def aD (h:DS1 X st g):DS X [st] g:=oD h
def aq (h1:DS1 X st g1) (h2:DS X rest g2):DS X (st::rest) (aT g1 g2):=PSs.mono (lK h1 h2) fun D σ H ⟨Φ,δ,F,o,hK,en,hg,k⟩=>by
 unfold aT at hg
 obtain ⟨o1,h1,hg⟩:=bS hg
 refine ⟨Φ,δ,F,o1,hK,en,h1,?_⟩
 cases o1 with
 | nx δ'=>exact fun σ' F' H' en'=>⟨Φ,δ',F',o,hK,en',hg,k⟩
 | rt t=>cases hg;exact k
 | bk δ'=>cases hg;exact k
 | ct δ'=>cases hg;exact k
 | re t δ'=>cases hg;exact k
def b6 (f:De->Option T):De->Option Out:=fun δ=>(f δ).map .rt
def En.rt {Φ:Fm} {δ:De} {σ:St} {F H F' H':Hp} {t:T} {v:V} {S:Addr->Prop} (en:En Φ δ σ F H) (st:Step F H F' H') (o:Own Φ.K F' H' t v S) (hs:∀ b,S b->F' b=none/\H b=none/\∃ o,H' b=some o):Rt Φ t v F' H':=by
 have e':=en.step st
 exact ⟨e'.fh,e'.prot,e'.old,e'.nw,S,o,fun b z=>⟨(hs b z).1,(hs b z).2.2,en.fresh (hs b z).2.1⟩⟩
def bg (h:DO X e f):DS1 X (.Return (some e) pos) (b6 f):=PS.mono (np h) fun D σ H ⟨Φ,δ,F,o,hK,en,hg,k⟩=>by
 unfold b6 at hg
 obtain ⟨t,ht,hg⟩:=mS hg
 cases hg
 exact ⟨Φ,δ,F,t,hK,en,ht,fun v H' F' S st o hs=>k v F' H' (en.rt st (hK▸o) hs)⟩
def jL (i:Nat):De->Option Out:=fun δ=>match δ[i]? with
 | some (some t)=>some (.rt t)
 | _=>none
def il (h:PE X e (jm i)):DS1 X (.Return (some e) pos) (jL i):=PS.mono (np h) fun D σ H ⟨Φ,δ,F,o,hK,en,hg,k⟩=>by
 unfold jL at hg
 split at hg
 · rename_i t q
   cases hg
   obtain ⟨v,hv⟩:=en.has i t q
   obtain ⟨S,s⟩:=en.sep
   exact ⟨v,hv,k v F H ⟨en.fh,en.prot,en.old,en.nw,S i,s.own i t v (b9 q hv),fun b z=>s.out i b z⟩⟩
 · cases hg
def sIf (c:De->Option Bool) (g1 g2:De->Option Out):De->Option Out:=fun δ=>(c δ).bind fun b=>if b then g1 δ else g2 δ
def bU (hc:DT X c tc) (h1:DS X a g1) (h2:DS X b g2):DS1 X (.If c a b pos) (sIf tc g1 g2):=PS.mono (vU hc h1 h2) fun D σ H ⟨Φ,δ,F,o,hK,en,hg,k⟩=>by
 unfold sIf at hg
 obtain ⟨x,hx,hg⟩:=bS hg
 refine ⟨Φ,δ,F,x,hK,en,hx,fun H' F' st=>?_⟩
 split at hg
 · rename_i q
   rw [if_pos q]
   exact ⟨Φ,δ,F',o,hK,en.step st,hg,k⟩
 · rename_i q
   rw [if_neg q]
   exact ⟨Φ,δ,F',o,hK,en.step st,hg,k⟩
def bz (i:Nat) (f:De->Option T):De->Option Out:=fun δ=>(f δ).map fun t=>.nx (δ.set i (some t))
def aN {sc:Scope} {N:List Str} {x:Str} {pos':Pos} (h:dA sc N i x=true) (hl:iF sc x=true) (nd:N.Nodup) (he:DO X e f) (e1:bM X sc:=by rfl) (e2:X.N=N:=by rfl) (hf:X.fn x=true∨X.env.scope.names.lookup x=some .local:=by exact .inl rfl)
  (hs:swapsWith e (some (.Name x pos')) pos.line X.env=pure false:=by rfl):DS1 X (.Assign [.Name x pos'] e pos) (bz i f):=PS.mono (oX h hl nd he e1 e2 hf hs) fun D σ H ⟨Φ,δ,F,o,hK,en,hg,k⟩=>by
 unfold bz at hg
 obtain ⟨t,ht,hg⟩:=mS hg
 cases hg
 exact ⟨Φ,δ,F,t,hK,en,ht,fun v H' F' S st o hs=>k _ F' H' (en.put st (hK▸o) hs i)⟩
noncomputable def gD (K:PySem.W.Frag) (ts:List Nat) (st:Dt->De->Option De):TG:=fun v σ H Q=>∃ Φ δ F d δ',Fm.K Φ=K/\En Φ δ σ F H/\Rep K F d v/\st d δ=some δ'/\∀ σ',σ'.length=σ.length->(∀ j,j∉ts->σ'[j]?=σ[j]?)->En Φ δ' σ' F H->Q σ' H
noncomputable def gsD (K:PySem.W.Frag) (ts:List Nat) (st:List Dt->De->Option De):TGs:=fun vs σ H Q=>∃ Φ δ F ds δ',Fm.K Φ=K/\En Φ δ σ F H/\Reps K F ds vs/\st ds δ=some δ'/\∀ σ',σ'.length=σ.length->(∀ j,j∉ts->σ'[j]?=σ[j]?)->En Φ δ' σ' F H->Q σ' H
def DG (X:Cx) (tg:Expr) (ts:List Nat) (bb:Dt->De->Option De):Prop:=PG X tg (gD X.K ts bb)
def DGs (X:Cx) (tg:List Expr) (ts:List Nat) (bb:List Dt->De->Option De):Prop:=PGs X tg (gsD X.K ts bb)
def ay (i:Nat):Dt->De->Option De:=fun d δ=>some (δ.set i (some (.leaf d)))
def En.name {Φ:Fm} {δ:De} {σ:St} {F H:Hp} (en:En Φ δ σ F H) {d:Dt} {v:V} (r:Rep Φ.K F d v) (i:Nat):En Φ (δ.set i (some (.leaf d))) (σ.set i (some v)) F H:=
 en.put (Step.refl en.fh) (S':=fun _=>False) (t:=.leaf d) r (fun _ z=>z.elim) i
def aE (h:PG X tg (eU i)):DG X tg [i] (ay i):=PG.mono h fun v σ H Q ⟨Φ,δ,F,d,δ',hK,en,r,hd,k⟩=>by
 cases hd
 refine k _ (by simp) (fun j hj=>?_) (en.name (hK▸r) i)
 rw [List.getElem?_set_ne fun z=>hj (by simp [z])]
def jq:List Dt->De->Option De:=fun ds δ=>if ds.isEmpty then some δ else none
def bJ (b:Dt->De->Option De) (bs:List Dt->De->Option De):List Dt->De->Option De:=fun ds δ=>match ds with
 | d::r=>(b d δ).bind fun δ1=>bs r δ1
 | []=>none
def rO (n:Nat) (bs:List Dt->De->Option De):Dt->De->Option De:=fun d δ=>match d with
 | .tup ds=>if ds.length=n then bs ds δ else none
 | _=>none
def fR:DGs X [] [] jq:=fun pins s σ H vs us Q I r q=>t9 pins s σ H vs us Q I r (by
 obtain ⟨Φ,δ,F,ds,δ',hK,en,rs,hd,k⟩:=q
 unfold jq at hd
 cases ds with
 | nil=>cases hd;simp only [Reps] at rs;exact ⟨rs,k σ rfl (fun _ _=>rfl) en⟩
 | cons d l=>cases hd)
def bd {es:List Expr} {ts ts':List Nat} {bb:Dt->De->Option De} {bs:List Dt->De->Option De} (h1:DG X e ts bb) (h2:DGs X es ts' bs)
  (hs:(assignEach (e::es) X.env).map (·.2)=assign e X.env::(assignEach es X.env).map (·.2):=by rfl):DGs X (e::es) (ts++ts') (bJ bb bs):=fun pins s σ H vs us Q I r q=>qR h1 h2 hs pins s σ H vs us Q I r (by
 obtain ⟨Φ,δ,F,ds,δ',hK,en,rs,hd,k⟩:=q
 unfold bJ at hd
 cases ds with
 | nil=>cases hd
 | cons d l =>
  simp only [Reps] at rs
  obtain ⟨v,ws,e,r1,r2⟩:=rs
  dsimp only at hd
  obtain ⟨δ1,hb,hd⟩:=bS hd
  refine ⟨v,ws,e,Φ,δ,F,d,δ1,hK,en,r1,hb,fun σ1 l1 k1 en1=>⟨Φ,δ1,F,l,δ',hK,en1,r2,hd,fun σ2 l2 k2 en2=>k σ2 (l2.trans l1) (fun j hj=>?_) en2⟩⟩
  rw [k2 j fun z=>hj (List.mem_append_right _ z),k1 j fun z=>hj (List.mem_append_left _ z)])
def rP {es:List Expr} {k:Nat} {n:Nat} {ts:List Nat} {bs:List Dt->De->Option De} (hc:X.calm=true) (h:DGs X es ts bs)
  (hn:(assignEach es X.env).length=n:=by rfl) (hst:(assignEach es X.env).findIdx? (·.1)=none:=by rfl):DG X (.Tuple es k pos) ts (rO n bs):=PG.mono (xg hc h hn hst) fun v σ H Q ⟨Φ,δ,F,d,δ',hK,en,r,hd,q⟩=>by
 unfold rO at hd
 split at hd
 · rename_i ds
   split at hd
   · rename_i hl
     simp only [Rep] at r
     obtain ⟨a,vs,e,h1,h2⟩:=r
     exact ⟨a,vs,e,en.fh.tup h1,by rw [h2.length];exact hl,Φ,δ,F,ds,δ',hK,en,h2,hd,q⟩
   · cases hd
 · cases hd
def qi (fd:De->Option Dt) (bb:Dt->De->Option De):De->Option Out:=fun δ=>(fd δ).bind fun d=>(bb d δ).map .nx
def kN {ts:List Nat} {bb:Dt->De->Option De} (he:DL X e fd) (hg:DG X tg ts bb) (hs:swapsWithSole [tg] e pos.line X.env=pure false:=by rfl) (hw:swappedStores [tg] e X.env=pure none:=by rfl)
  (h1:(assignEach [tg] X.env).map (·.2)=[assign tg X.env]:=by rfl):DS1 X (.Assign [tg] e pos) (qi fd bb):=PS.mono (nq he hg hs hw h1) fun D σ H ⟨Φ,δ,F,o,hK,en,hg,k⟩=>by
 unfold qi at hg
 obtain ⟨d,hd,hg⟩:=bS hg
 obtain ⟨δ',hb,hg⟩:=mS hg
 cases hg
 exact ⟨Φ,δ,F,d,hK,en,hd,fun v H' F' st r=>⟨Φ,δ,F',d,δ',hK,en.step st,r,hb,fun σ' _ _ en'=>k σ' F' H' en'⟩⟩
noncomputable def o9 (K:PySem.W.Frag) (F':Hp) (J:It) (ds:List Dt) (ok:Hp->Prop):Prop:=∀ (i:Nat) (H F:Hp),ok H->Same F H->Same F' F->(i<ds.length->J.go i H)/\(i=ds.length->J.stop i H)/\∀ x H',i<ds.length->J.yld i H x H'->∃ d F2,ds[i]?=some d/\Step F H F2 H'/\Rep K F2 d x
def Plain.walk {K:PySem.W.Frag} {F':Hp} {J:It} {xs:List V} {ds:List Dt} {ok:Hp->Prop} (pl:Plain J xs ok) (r:Reps K F' ds xs):o9 K F' J ds ok:=fun i H F hok fh ff=>by
 obtain ⟨p1,p2,p3⟩:=pl i H hok
 have hl:=r.length
 refine ⟨fun h=>p1 (by omega),fun h=>p2 (by omega),fun x H' hi hy=>?_⟩
 obtain ⟨rfl,hx⟩:=p3 x H' (by omega) hy
 have hd:ds[i]?=some ds[i]:=by simp [hi]
 obtain ⟨v,e,rv⟩:=r.get hd
 rw [hx] at e
 cases e
 exact ⟨_,F,hd,Step.refl fh,rv.same ff⟩
def tIF (K:PySem.W.Frag) (f:De->Option (List Dt)):TI:=fun σ H R=>∃ Φ δ F ds,Fm.K Φ=K/\En Φ δ σ F H/\f δ=some ds/\∀ J ok H' F',Step F H F' H'->o9 K F' J ds ok->(∀ H2,Same F' H2->ok H2)->R J H'
def tIB (K:PySem.W.Frag) (f:De->Option (List Dt)):TI:=fun σ H R=>∃ Φ δ F ds,Fm.K Φ=K/\En Φ δ σ F H/\f δ=some ds/\∀ J ok H' F',Step F H F' H'->o9 K F' J ds ok->(∀ H2,Same H' H2->ok H2)->R J H'
def DIF (X:Cx) (tg iter:Expr) (f:De->Option (List Dt)):Prop:=PI X tg iter (tIF X.K f)
def DIB (X:Cx) (tg iter:Expr) (f:De->Option (List Dt)):Prop:=PI X tg iter (tIB X.K f)
def DIF.toB {fi:De->Option (List Dt)} (h:DIF X tg iter fi):DIB X tg iter fi:=PI.mono h fun σ H R ⟨Φ,δ,F,ds,hK,en,hf,k⟩=>⟨Φ,δ,F,ds,hK,en,hf,fun J ok H' F' st wd ho=>k J ok H' F' st wd fun H2 s=>ho H2 (st.fh.trans s)⟩
end
section
variable {X:Cx} {st:Stmt} {rest a b body:List Stmt} {g g1 g2:De->Option Out} {e c tg iter l:Expr} {pos:Pos} {f:De->Option T} {fd:De->Option Dt} {tc:De->Option Bool} {i:Nat} {fi:De->Option (List Dt)}
noncomputable def cz (bb:Dt->De->Option De) (g:De->Option Out):List Dt->De->Option Out
 | [],δ=>some (.nx δ)
 | d::r,δ=>(bb d δ).bind fun δ1=>(g δ1).bind fun o=>match o with
  | .nx δ2=>cz bb g r δ2
  | .ct δ2=>cz bb g r δ2
  | .bk δ2=>some (.nx δ2)
  | .rt t=>some (.rt t)
  | .re t δ2=>some (.re t δ2)
def gH (fi:De->Option (List Dt)) (bb:Dt->De->Option De) (g:De->Option Out):De->Option Out:=fun δ=>(fi δ).bind fun ds=>cz bb g ds δ
def Reps.same_get {K:PySem.W.Frag} {F:Hp} {ds:List Dt} {xs:List V} (r:Reps K F ds xs) {i:Nat} {x:V} (h:xs[i]?=some x):∃ d,ds[i]?=some d/\Rep K F d x:=by
 have hl:=r.length
 have hi:i<xs.length:=(gX h).1
 have hd:ds[i]?=some ds[i]:=by simp [show i<ds.length by omega]
 obtain ⟨v,e,rv⟩:=r.get hd
 rw [h] at e
 cases e
 exact ⟨_,hd,rv⟩
def im {α:Type} {l:List α} {i:Nat} {d:α} (h:l[i]?=some d):l.drop i=d::l.drop (i+1):=by
 have hi:i<l.length:=(gX h).1
 rw [List.drop_eq_getElem_cons hi]
 congr 1
 have:=(gX h).2
 exact this
def Fm.at (Φ:Fm) (F1:Hp):Fm:={Φ with F0:=F1}
def En.back {Φ:Fm} {δ δ':De} {σ σ':St} {F1 H1 F H:Hp} (en:En Φ δ σ F1 H1) (e:En (Φ.at F1) δ' σ' F H):En Φ δ' σ' F H:=
 ⟨e.fh,e.prot,en.old.trans e.old,fun b o h=>(e.nw b o h).elim (fun z=>en.nw b o z) .inr,e.len,e.has,e.sep⟩
def Rt.back {Φ:Fm} {δ:De} {σ:St} {F1 H1 F H:Hp} {t:T} {v:V} (en:En Φ δ σ F1 H1) (e:Rt (Φ.at F1) t v F H):Rt Φ t v F H:=
 ⟨e.fh,e.prot,en.old.trans e.old,fun b o h=>(e.nw b o h).elim (fun z=>en.nw b o z) .inr,e.own⟩
def Re.back {Φ:Fm} {δ δ':De} {σ σ':St} {F1 H1 F H:Hp} {t:T} {v:V} (en:En Φ δ σ F1 H1) (e:Re (Φ.at F1) t v δ' σ' F H):Re Φ t v δ' σ' F H:=⟨en.back e.en,e.own⟩
def En.at {Φ:Fm} {δ:De} {σ:St} {F1 H1:Hp} (en:En Φ δ σ F1 H1):En (Φ.at F1) δ σ F1 H1:=
 ⟨en.fh,en.prot,Same.refl _,fun b o h=>.inl h,en.len,en.has,en.sep⟩
def Post.at {Φ:Fm} {D:Ends} {o:Out} {δ:De} {σ:St} {F1 H1:Hp} (en:En Φ δ σ F1 H1) (k:Post Φ D o):Post (Φ.at F1) D o:=by
 cases o with
 | nx δ'=>exact fun σ' F H e=>k σ' F H (en.back e)
 | bk δ'=>exact fun σ' F H e=>k σ' F H (en.back e)
 | ct δ'=>exact fun σ' F H e=>k σ' F H (en.back e)
 | rt t=>exact fun v F H e=>k v F H (Rt.back en e)
 | re t δ'=>exact fun v σ' F H e=>k v σ' F H (Re.back en e)
def lY {n:Nat} {g:TG} {tb:TS} {D:Ends} {J:It} {σ:St} {H1:Hp} (Pv:Nat->St->Hp->Prop) (h0:Pv 0 σ H1) (hgo:∀ i σ H,Pv i σ H->(i<n->J.go i H)/\(i=n->J.stop i H))
  (hs:∀ i x σ H H',i<n->Pv i σ H->J.yld i H x H'->g x σ H' fun σ2 H2=>tb {D with nx:=Pv (i+1),ct:=Pv (i+1),bk:=D.nx} σ2 H2) (hd:∀ σ H,Pv n σ H->D.nx σ H):ForW g tb D J σ H1:=by
 refine ⟨fun i m σ H=>m=n-i/\i<=n/\Pv i σ H,⟨n,by simp,Nat.zero_le _,h0⟩,?_⟩
 rintro i m σ H ⟨rfl,hi,p⟩
 obtain ⟨p1,p2⟩:=hgo i σ H p
 by_cases hlt:i<n
 · exact .inr ⟨p1 hlt,Pv (i+1),fun σ' H' p'=>⟨n-(i+1),by omega,rfl,hlt,p'⟩,fun x H' y=>hs i x σ H H' hlt p y⟩
 · have e:i=n:=by omega
   subst e
   exact .inl ⟨p2 rfl,hd σ H p⟩
def dg {ts:List Nat} {bb:Dt->De->Option De} (hp:PassesOwn (model X.prog X.w) X.A X.env X.xe) (hc:X.calm=true) (hi:DIF X tg iter fi) (hg:DG X tg ts bb) (hb:DS X body g)
  (hs:∀ x,foldedSetIterable iter X.env x=pure x:=by intro _;rfl):DS1 X (.For tg iter body [] pos) (gH fi bb g):=PS.mono (qV hp hc hi hg hb hs) fun D σ H ⟨Φ,δ,F,o,hK,en,hg,k⟩=>by
 unfold gH at hg
 obtain ⟨ds,hd,hg⟩:=bS hg
 rw [oW]
 refine ⟨Φ,δ,F,ds,hK,en,hd,fun J ok H1 F1 st1 wd ho=>?_⟩
 have en1:=en.step st1
 have k1:=Post.at en1 k
 refine lY (n:=ds.length) (fun i σ' H'=>∃ δ' F',En (Φ.at F1) δ' σ' F' H'/\cz bb g (ds.drop i) δ'=some o) ⟨δ,F1,en1.at,by simpa using hg⟩ (fun i σ' H' ⟨δ',F',en',_⟩=>?_) ?_ ?_
 · obtain ⟨p1,p2,_⟩:=wd i H' F' (ho H' (en'.old.trans en'.fh)) en'.fh en'.old
   exact ⟨p1,p2⟩
 · rintro i x σ' H' H'' hi ⟨δ',F',en',hgo⟩ hy
   obtain ⟨_,_,p3⟩:=wd i H' F' (ho H' (en'.old.trans en'.fh)) en'.fh en'.old
   obtain ⟨d,F2,hd',st2,rd⟩:=p3 x H'' hi hy
   rw [im hd'] at hgo
   unfold cz at hgo
   obtain ⟨δ1,h1,hgo⟩:=bS hgo
   obtain ⟨o1,h2,hgo⟩:=bS hgo
   refine ⟨Φ.at F1,δ',F2,d,δ1,hK,en'.step st2,rd,h1,fun σ1 _ _ en1=>⟨Φ.at F1,δ1,F2,o1,hK,en1,h2,?_⟩⟩
   cases o1 with
   | nx δ2=>exact fun σ2 F2 H2 en2=>⟨δ2,F2,en2,hgo⟩
   | ct δ2=>exact fun σ2 F2 H2 en2=>⟨δ2,F2,en2,hgo⟩
   | bk δ2=>cases hgo;exact fun σ2 F2 H2 en2=>k1 σ2 F2 H2 en2
   | rt t=>cases hgo;exact fun v F2 H2 q=>k1 v F2 H2 q
   | re t δ2=>cases hgo;exact fun v σ2 F2 H2 q=>k1 v σ2 F2 H2 q
 · rintro σ' H' ⟨δ',F',en',hgo⟩
   rw [List.drop_length] at hgo
   cases hgo
   exact k1 σ' F' H' en'
noncomputable def dh (c:De->Option Bool) (g:De->Option Out):Nat->De->Option Out
 | 0,_=>none
 | n+1,δ=>(c δ).bind fun b=>if b then (g δ).bind fun o=>match o with
  | .nx δ2=>dh c g n δ2
  | .ct δ2=>dh c g n δ2
  | .bk δ2=>some (.nx δ2)
  | .rt t=>some (.rt t)
  | .re t δ2=>some (.re t δ2) else some (.nx δ)
def lZ (n:Nat) (hp:PassesOwn (model X.prog X.w) X.A X.env X.xe) (hc:DT X c tc) (hb:DS X body g):DS1 X (.While c body [] pos) (dh tc g n):=PS.mono (lL hp hc hb) fun D σ H ⟨Φ,δ,F,o,hK,en,hg,k⟩=>by
 refine ⟨fun m σ' H'=>∃ δ' F',En Φ δ' σ' F' H'/\dh tc g m δ'=some o,⟨n,δ,F,en,hg⟩,?_⟩
 rintro m σ' H' ⟨δ',F',en',hgo⟩
 cases m with
 | zero=>cases hgo
 | succ m =>
  unfold dh at hgo
  obtain ⟨x,hx,hgo⟩:=bS hgo
  refine ⟨Φ,δ',F',x,hK,en',hx,fun H1 F1 st=>?_⟩
  split at hgo
  · rename_i q
    rw [if_pos q]
    obtain ⟨o1,h2,hgo⟩:=bS hgo
    refine ⟨fun σ2 H2=>∃ δ2 F2,En Φ δ2 σ2 F2 H2/\dh tc g m δ2=some o,fun σ2 H2 z=>⟨m,Nat.lt_succ_self m,z⟩,Φ,δ',F1,o1,hK,en'.step st,h2,?_⟩
    cases o1 with
    | nx δ2=>exact fun σ2 F2 H2 en2=>⟨δ2,F2,en2,hgo⟩
    | ct δ2=>exact fun σ2 F2 H2 en2=>⟨δ2,F2,en2,hgo⟩
    | bk δ2=>cases hgo;exact fun σ2 F2 H2 en2=>k σ2 F2 H2 en2
    | rt t=>cases hgo;exact fun v F2 H2 q=>k v F2 H2 q
    | re t δ2=>cases hgo;exact fun v σ2 F2 H2 q=>k v σ2 F2 H2 q
  · rename_i q
    rw [if_neg q]
    cases hgo
    exact k σ' F1 H1 (en'.step st)
def zR (x:Str):List Dt:=x.cps.toList.map fun c=>.str ⟨#[c]⟩
def d7 (lo:Int) (n:Nat):List Dt:=(List.range n).map fun (i:Nat)=>.int (lo+i)
def Reps.map {K:PySem.W.Frag} {F:Hp} {α:Type} {f:α->Dt} {g:α->V} (h:∀ x,Rep K F (f x) (g x)):∀ l:List α,Reps K F (l.map f) (l.map g)
 | []=>by simp [Reps]
 | x::l=>by
  simp only [List.map_cons,Reps]
  exact ⟨_,_,rfl,h x,Reps.map h l⟩
def itD:Dt->Option (List Dt)
 | .lst l=>some l
 | .tup l=>some l
 | .str x=>some (zR x)
 | _=>none
def fIt (f:De->Option Dt):De->Option (List Dt):=fun δ=>(f δ).bind itD
def di (h:DL X l fd):DIF X tg l (fIt fd):=PI.mono (PI.or (ko h) (PI.or (qT h) (rz h))) fun σ H R ⟨Φ,δ,F,ds,hK,en,hf,k⟩=>by
 unfold fIt at hf
 obtain ⟨d,hd,hf⟩:=bS hf
 cases d with
 | lst l =>
  cases hf
  refine .inl ⟨Φ,δ,F,_,hK,en,hd,fun v H' F' st r=>?_⟩
  simp only [Rep] at r
  obtain ⟨a,vs,rfl,h1,h2⟩:=r
  exact ⟨a,rfl,⟨vs,st.fh.seq h1⟩,k _ _ H' F' st (plain_list.walk h2) fun H2 s=>s.seq h1⟩
 | tup l =>
  cases hf
  refine .inr (.inl ⟨Φ,δ,F,_,hK,en,hd,fun v H' F' st r=>?_⟩)
  simp only [Rep] at r
  obtain ⟨a,vs,rfl,h1,h2⟩:=r
  exact ⟨a,rfl,⟨vs,st.fh.tup h1⟩,k _ _ H' F' st (plain_tup.walk h2) fun H2 s=>s.tup h1⟩
 | str x =>
  cases hf
  refine .inr (.inr ⟨Φ,δ,F,_,hK,en,hd,fun v H' F' st r=>?_⟩)
  simp only [Rep] at r
  exact ⟨x,r,k _ _ H' F' st (plain_str.walk (Reps.map (fun c=>kM) _)) fun _ _=>trivial⟩
 | _=>cases hf
def kO (h:DB X l fd):DIB X tg l (fIt fd):=PI.mono (PI.or (ko h) (PI.or (qT h) (rz h))) fun σ H R ⟨Φ,δ,F,ds,hK,en,hf,k⟩=>by
 unfold fIt at hf
 obtain ⟨d,hd,hf⟩:=bS hf
 cases d with
 | lst l =>
  cases hf
  refine .inl ⟨Φ,δ,F,_,hK,en,hd,fun v H' F' st r=>?_⟩
  obtain ⟨a,vs,rfl,h1,h2⟩:=r
  exact ⟨a,rfl,⟨vs,h1⟩,k _ _ H' F' st (plain_list.walk h2) fun H2 s=>s.seq h1⟩
 | tup l =>
  cases hf
  refine .inr (.inl ⟨Φ,δ,F,_,hK,en,hd,fun v H' F' st r=>?_⟩)
  obtain ⟨a,vs,rfl,h1,h2⟩:=r
  exact ⟨a,rfl,⟨vs,st.fh.tup h1⟩,k _ _ H' F' st (plain_tup.walk h2) fun H2 s=>s.tup (st.fh.tup h1)⟩
 | str x =>
  cases hf
  refine .inr (.inr ⟨Φ,δ,F,_,hK,en,hd,fun v H' F' st r=>?_⟩)
  exact ⟨x,r,k _ _ H' F' st (plain_str.walk (Reps.map (fun c=>kM) _)) fun _ _=>trivial⟩
 | _=>cases hf
def jM (j:Int):Bool:=decide (-(2^62)<=j)&&decide (j<2^62)
def h9:List Dt->Option (List Dt)
 | [.int j]=>if jM j then some (d7 0 j.toNat) else none
 | _=>none
def dj (r:List Dt->Option (List Dt)) (f:De->Option (List Dt)):De->Option (List Dt):=fun δ=>(f δ).bind r
variable {p:Pos} {sc:Scope} {x y:Expr} {fs:De->Option (List Dt)}
def jN {j:Int} (h:jM j=true):-(2^62)<=j/\j<2^62:=by
 unfold jM at h
 simpa using h
def nM {K:PySem.W.Frag} {F:Hp} (lo:Int) (n:Nat):Reps K F (d7 lo n) (iE lo n):=Reps.map (fun _=>fQ) _
def cI (h:aH sc "range"=true) (hm:X.mg "range"=none) (ha:DA X [x] fs) (e1:bM X sc:=by rfl) (hs:starEach [x] X.env=[(false,eval x X.env)]:=by rfl):DIF X tg (.Call (.Name "range" p) [x] [] pos) (dj h9 fs):=
 PI.mono (nH h hm ha.pa e1 hs) fun σ H R ⟨Φ,δ,F,ds,hK,en,hf,k⟩=>by
  unfold dj at hf
  obtain ⟨as,hd,hf⟩:=bS hf
  refine ⟨Φ,δ,F,as,hK,en,hd,fun vs H' F' st r=>?_⟩
  unfold h9 at hf
  split at hf
  · rename_i j
    split at hf
    · rename_i hj
      cases hf
      simp only [Reps,Rep] at r
      obtain ⟨v,ws,rfl,rfl,rfl⟩:=r
      exact ⟨j,rfl,(jN hj).1,(jN hj).2,k _ _ H' F' st (plain_range.walk (nM _ _)) fun _ _=>trivial⟩
    · cases hf
  · cases hf
end
def dC (src:List (Option Nat)) (δ:De):De:=src.map fun o=>o.bind fun j=>(δ[j]?).join
noncomputable def ca (bb:Dt->De->Option De) (ft:De->Option Bool) (fe:De->Option Dt) (δ:De):List Dt->Option (List Dt)
 | []=>some []
 | d::r=>(bb d δ).bind fun δ1=>(ft δ1).bind fun b=>if b then (fe δ1).bind fun y=>(ca bb ft fe δ r).bind fun ys=>some (y::ys) else ca bb ft fe δ r
noncomputable def cP (src:List (Option Nat)) (fi:De->Option (List Dt)) (bb:Dt->De->Option De) (ft:De->Option Bool) (fe:De->Option Dt):De->Option T:=fun δ =>
 (fi δ).bind fun ds=>(ca bb ft fe (dC src δ) ds).bind fun ys=>if ys.length<=sizeLine then some (.lst ys) else none
def cQ:De->Option Bool:=fun _=>some true
def DTs (X:Cx) (ifs:List Expr) (f:De->Option Bool):Prop:=PTs X ifs (tTr X.K f)
def fS {X:Cx}:DTs X [] cQ:=fun pins s σ H Q I h=>oT pins s σ H Q I (by
 obtain ⟨Φ,δ,F,b,hK,en,hf,k⟩:=h
 cases hf
 exact k H F (Step.refl en.fh))
def kP {X:Cx} {c:Expr} {f:De->Option Bool} (h:DT X c f):DTs X [c] f:=ur h
section
variable {X:Cx} {elt tg iter:Expr} {ifs:List Expr} {scope:Scope} {pos:Pos} {M:List Str} {src:List (Option Nat)} {fi:De->Option (List Dt)} {ft:De->Option Bool} {fe:De->Option Dt}
def uz (S:CmpScope X.N X.env.scope scope M src) {k l j:Nat} (hk:src[k]?=some (some j)) (hl:src[l]?=some (some j)):k=l:=by
 have nm:∀ k,src[k]?=some (some j)->∃ x,M[k]?=some x/\X.N[j]?=some x:=fun k h=>by
  have hlt:k<M.length:=by rw [S.len];exact (gX h).1
  have hm:M[k]?=some M[k]:=by simp [hlt]
  have hz:(M.zip src)[k]?=some (M[k],some j):=by rw [List.getElem?_zip_eq_some];exact ⟨hm,h⟩
  exact ⟨_,hm,(S.src _ (List.mem_of_getElem? hz) j rfl).1⟩
 obtain ⟨x,h1,h2⟩:=nm k hk
 obtain ⟨y,h3,h4⟩:=nm l hl
 rw [h2] at h4
 cases h4
 exact (List.getElem?_inj (gX h1).1 S.nd).mp (h1.trans h3.symm)
def rQ {δ:De} {k:Nat} {t:T} (h:(dC src δ)[k]?=some (some t)):∃ j,src[k]?=some (some j)/\δ[j]?=some (some t):=by
 unfold dC at h
 rw [List.getElem?_map] at h
 cases e:src[k]? with
 | none=>rw [e] at h;cases h
 | some o =>
  rw [e] at h
  cases o with
  | none=>cases h
  | some j =>
   simp only [Option.map_some,Option.bind_some,Option.some.injEq] at h
   refine ⟨j,rfl,?_⟩
   cases q:δ[j]? with
   | none=>rw [q] at h;cases h
   | some u=>rw [q] at h;simp only [Option.join_some] at h;rw [h]
def pb {σ:St} {k j:Nat} {v:V} (h1:src[k]?=some (some j)) (h2:σ[j]?=some (some v)):(stC src σ)[k]?=some (some v):=by
 unfold stC
 rw [List.getElem?_map,h1]
 simp [h2]
def kQ {σ:St} {k:Nat} {v:V} (h:(stC src σ)[k]?=some (some v)):∃ j,src[k]?=some (some j)/\σ[j]?=some (some v):=by
 unfold stC at h
 rw [List.getElem?_map] at h
 cases e:src[k]? with
 | none=>rw [e] at h;cases h
 | some o =>
  rw [e] at h
  cases o with
  | none=>cases h
  | some j =>
   simp only [Option.map_some,Option.bind_some,Option.some.injEq] at h
   refine ⟨j,rfl,?_⟩
   cases q:σ[j]? with
   | none=>rw [q] at h;cases h
   | some u=>rw [q] at h;simp only [Option.join_some] at h;rw [h]
def En.comp {Φ:Fm} {δ:De} {σ:St} {F H:Hp} (S:CmpScope X.N X.env.scope scope M src) (en:En Φ δ σ F H):En Φ (dC src δ) (stC src σ) F H:=by
 refine ⟨en.fh,en.prot,en.old,en.nw,by simp [dC,stC],fun k t h=>?_,?_⟩
 · obtain ⟨j,h1,h2⟩:=rQ h
   obtain ⟨v,hv⟩:=en.has j t h2
   exact ⟨v,pb h1 hv⟩
 · obtain ⟨Z,s⟩:=en.sep
   refine ⟨fun k b=>∃ j,src[k]?=some (some j)/\Z j b,fun k t v h=>?_,fun k b ⟨j,_,z⟩=>s.out j b z,fun k l b ⟨j,h1,z⟩ ⟨j',h2,z'⟩=>?_⟩
   · obtain ⟨h1,h2⟩:=dq h
     obtain ⟨j,e1,e2⟩:=rQ h1
     obtain ⟨j',e3,e4⟩:=kQ h2
     rw [e1] at e3
     cases e3
     exact (s.own j t v (b9 e2 e4)).grow fun b z=>⟨j,e1,z⟩
   · have:=s.dis _ _ b z z'
     subst this
     exact uz S h1 h2
def jO {n:Nat} {g:TG} {tt:TT} {te:TE} {σ:St} {J:It} {H1:Hp} {Q:VK} {D:Addr} (Pv:Nat->Hp->Prop) (h0:Pv 0 (upd H1 D (.lst []))) (hgo:∀ i H,Pv i H->(i<n->J.go i H)/\(i=n->J.stop i H))
  (hs:∀ i x H H',i<n->Pv i H->J.yld i H x H'->g x (stC src σ) H' fun σ2 H2=>Wk (stC src σ) σ2/\tt σ2 H2 fun b H3=>if b=true then te σ2 H3 fun v H4=>∃ ys,H4 D=some (.lst ys)/\ys.length<sizeLine/\Pv (i+1) (upd H4 D (.lst (ys++[v]))) else Pv (i+1) H3)
  (hd:∀ H,Pv n H->Q (.ref D) H):v8 src g tt te σ J H1 Q D:=by
 refine ⟨fun i m H=>m=n-i/\i<=n/\Pv i H,⟨n,by simp,Nat.zero_le _,h0⟩,?_⟩
 rintro i m H ⟨rfl,hi,p⟩
 obtain ⟨p1,p2⟩:=hgo i H p
 by_cases hlt:i<n
 · exact .inr ⟨p1 hlt,Pv (i+1),fun H' p'=>⟨n-(i+1),by omega,rfl,hlt,p'⟩,fun x H' y=>hs i x H H' hlt p y⟩
 · have e:i=n:=by omega
   subst e
   exact .inl ⟨p2 rfl,hd H p⟩
def pc {ts:List Nat} {bb:Dt->De->Option De} (S:CmpScope X.N X.env.scope scope M src) (hts:(ts.all fun k=>decide (src[k]?=some none))=true):∀ (σ:St) (H:Hp) (Q:VK),tO X.K (cP src fi bb ft fe) σ H Q->iC src (tIB X.K fi) (gD X.K ts bb) (tTr X.K ft) (tL X.K fe) σ H Q:=fun σ H Q ⟨Φ,δ,F,t,hK,en,hf,k⟩=>by
 unfold cP at hf
 obtain ⟨ds,hd,hf⟩:=bS hf
 obtain ⟨all,ha,hf⟩:=bS hf
 split at hf
 case isFalse=>cases hf
 rename_i hz
 cases hf
 rw [lW]
 refine ⟨Φ,δ,F,ds,hK,en,hd,fun J ok H1 F1 st1 wd ho D hD=>?_⟩
 have en1:=en.step st1
 have k1:=k.step st1
 have wk:∀ {σ2:St},σ2.length=(stC src σ).length->(∀ j,j∉ts->σ2[j]?=(stC src σ)[j]?)->Wk (stC src σ) σ2:=fun {σ2} h1 h2=>by
  refine ⟨h1.symm,fun j v hj=>?_⟩
  by_cases hm:j∈ts
  · have:=List.all_eq_true.mp hts j hm
    have hn:src[j]?=some none:=of_decide_eq_true this
    obtain ⟨i,e,_⟩:=kQ hj
    rw [hn] at e
    cases e
  · rw [h2 j hm]
    exact hj
 have ok':∀ {F H:Hp},Step F1 H1 F H->ok H:=fun st=>ho _ st.hh
 refine jO (n:=ds.length) (fun i H=>∃ F ys done rest',Step F1 H1 F H/\H D=some (.lst ys)/\F D=none/\Reps X.K F done ys/\ca bb ft fe (dC src δ) (ds.drop i)=some rest'/\done++rest'=all) ?_ ?_ ?_ ?_
 · exact ⟨F1,[],[],all,Step.made st1.fh hD,aI,st1.fh.free hD,by simp [Reps],by simpa using ha,rfl⟩
 · rintro i H' ⟨F',ys,done,rest',st,_⟩
   obtain ⟨p1,p2,_⟩:=wd i H' F' (ok' st) st.fh st.ff
   exact ⟨p1,p2⟩
 · rintro i x H0' H' hi ⟨F0',ys,done,rest',st0,hD0,hFD0,rys0,hgo,hall⟩ hy0
   obtain ⟨_,_,p3⟩:=wd i H0' F0' (ok' st0) st0.fh st0.ff
   obtain ⟨d,F',hd',stw,rd⟩:=p3 x H' hi hy0
   have st:=st0.trans stw
   have hD':H' D=some (.lst ys):=stw.hh _ _ hD0
   have hFD:F' D=none:=by
    cases q:F' D with
    | none=>rfl
    | some o =>
     rcases stw.nw D o q with z | z
     · rw [hFD0] at z;cases z
     · rw [hD0] at z;cases z
   have rys:=rys0.same stw.ff
   rw [im hd'] at hgo
   unfold ca at hgo
   obtain ⟨δ1,h1,hgo⟩:=bS hgo
   obtain ⟨b,h2,hgo⟩:=bS hgo
   refine ⟨Φ,dC src δ,F',d,δ1,hK,(en1.step st).comp S,rd,h1,fun σ2 l2 k2 en2=>⟨wk l2 k2,Φ,δ1,F',b,hK,en2,h2,fun H3 F3 st3=>?_⟩⟩
   have hD3:H3 D=some (.lst ys):=st3.hh _ _ hD'
   have hF3:F3 D=none:=by
    cases q:F3 D with
    | none=>rfl
    | some o =>
     rcases st3.nw D o q with z | z
     · rw [hFD] at z;cases z
     · rw [hD'] at z;cases z
   dsimp only
   split at hgo
   · rename_i q
     rw [if_pos q]
     obtain ⟨y,hy,hgo⟩:=bS hgo
     obtain ⟨zs,hzs,hgo⟩:=bS hgo
     cases hgo
     refine ⟨Φ,δ1,F3,y,hK,en2.step st3,hy,fun v H4 F4 st4 rv=>?_⟩
     have hD4:H4 D=some (.lst ys):=st4.hh _ _ hD3
     have hF4:F4 D=none:=by
      cases q:F4 D with
      | none=>rfl
      | some o =>
       rcases st4.nw D o q with z | z
       · rw [hF3] at z;cases z
       · rw [hD3] at z;cases z
     have s14:=(st.trans st3).trans st4
     refine ⟨ys,hD4,?_,F4,ys++[v],done++[y],zs,?_,aI,hF4,(rys.same (st3.ff.trans st4.ff)).append (Reps.one rv),hzs,by rw [<- hall];simp⟩
     · have e1:=rys.length
       have e2:all.length=done.length+(zs.length+1):=by rw [<- hall];simp
       omega
     · refine ⟨fun c o e=>?_,s14.ff,fun c o e=>?_,s14.nw⟩
       · rw [aJ (bE e hD)]
         exact s14.hh _ _ e
       · rw [aJ (bE e hF4)]
         exact s14.fh _ _ e
   · rename_i q
     rw [if_neg q]
     exact ⟨F3,ys,done,rest',st.trans st3,hD3,hF3,rys.same st3.ff,hgo,hall⟩
 · rintro H' ⟨F',ys,done,rest',st,hD',hFD,rys,hgo,hall⟩
   rw [List.drop_length] at hgo
   cases hgo
   rw [List.append_nil] at hall
   subst hall
   exact k1 (.ref D) H' F' (fun b=>b=D) st ⟨D,ys,rfl,rfl,hD',rys⟩ fun b z=>by
    subst z
    exact ⟨hFD,hD,_,hD'⟩
def fT {ts:List Nat} {bb:Dt->De->Option De} (S:CmpScope X.N X.env.scope scope M src) (hc:X.calm=true) (hi:DIB X tg iter fi) (hg:M.Nodup->∀ C s H ex,DG (cxC X M scope C s H ex) tg ts bb)
  (ht:∀ C s H ex,DTs (cxC X M scope C s H ex) ifs ft) (he:∀ C s H ex,DL (cxC X M scope C s H ex) elt fe) (hts:(ts.all fun k=>decide (src[k]?=some none))=true) (hs:∀ x,foldedSetIterable iter X.env x=pure x:=by intro _;rfl) :
  DO X (.ListComp elt [⟨tg,iter,ifs,0⟩] scope pos) (cP src fi bb ft fe):=PE.mono (lV (g:=gD X.K ts bb) (tt:=tTr X.K ft) (te:=tL X.K fe) S hc hi (fun nd C s H ex=>hg nd C s H ex) (fun C s H ex=>ht C s H ex) (fun C s H ex=>he C s H ex) hs) (pc S hts)
end
def dk (m:Nat) (g:De->Option Out):List Dt->Option T:=fun ds=>match g (ds.map (fun d=>some (T.leaf d))++List.replicate (m-ds.length) none) with
 | some (.rt t)=>some t
 | some (.nx _)=>some (.leaf .non)
 | _=>none
def ma {K:PySem.W.Frag} {F H:Hp} {ds:List Dt} {vs:List V} {N:List Str} (fh:Same F H) (r:Reps K F ds vs) :
  En ⟨K,F,H,fun _=>False⟩ (ds.map (fun d=>some (T.leaf d))++List.replicate (N.length-ds.length) none) (start N vs) F H:=by
 have hl:=r.length
 have key:∀ (i:Nat) (t:T),(ds.map (fun d=>some (T.leaf d))++List.replicate (N.length-ds.length) none)[i]?=some (some t)->∃ d v,t=T.leaf d/\vs[i]?=some v/\Rep K F d v/\(start N vs)[i]?=some (some v):=fun i t h=>by
  by_cases hi:i<ds.length
  · rw [List.getElem?_append_left (by simpa using hi),List.getElem?_map] at h
    have hd:ds[i]?=some ds[i]:=by simp [hi]
    rw [hd] at h
    cases h
    obtain ⟨v,hv,rv⟩:=r.get hd
    refine ⟨_,v,rfl,hv,rv,?_⟩
    unfold start
    rw [List.getElem?_append_left (by simp;omega),List.getElem?_map,hv]
    rfl
  · rw [List.getElem?_append_right (by simpa using hi)] at h
    rw [List.getElem?_replicate] at h
    split at h<;>cases h
 refine ⟨fh,fun b o h _=>h,Same.refl _,fun b o h=>.inl h,by simp [start,hl],fun i t h=>?_,fun _ _=>False,fun i t v h=>?_,fun _ _ z=>z.elim,fun _ _ _ z=>z.elim⟩
 · obtain ⟨d,v,_,_,_,e⟩:=key i t h
   exact ⟨v,e⟩
 · obtain ⟨h1,h2⟩:=dq h
   obtain ⟨d,w,rfl,_,rv,e⟩:=key i t h1
   rw [h2] at e
   cases e
   exact rv
section
variable {P:Program} {w:World} {K:PySem.W.Frag} {mg:Str->Option Value} {base:Heap}
def Rt.step {F H:Hp} {t:T} {v:V} {F' H':Hp} (h:Rt ⟨K,F,H,fun _=>False⟩ t v F' H') {Q:VK} (k:KO K F H t Q):Q v H':=by
 obtain ⟨fh,prot,old,nw,S,o,hs⟩:=h
 refine k v H' F' S ⟨fun b u e=>prot b u e id,old,fh,fun b u e=>(nw b u e).elim .inl fun z=>z.elim .inr False.elim⟩ o fun b z=>?_
 obtain ⟨h1,h2,h3⟩:=hs b z
 exact ⟨h1,h3.elim id False.elim,h2⟩
def cm {x:Str} {st:Stmt} {N ps:List Str} {k n:Nat} {g:De->Option Out} (D:DefF K mg x st ps) (S:FnScope N ps (aa st)) (hn:ps.length=n)
  (hbody:∀ (f:Addr) (cdv:Value) (A:Around) (outer:List Env) (s:Shared) (H:Hp) (E:XK),Room k (A.deeper (envOfC x (aa st) s.heap.objs.size f cdv))->DS (jn CX0 P w K mg base N x (aa st) f cdv A outer s H E).nox (aK st) g) :
  OkF P w K mg base x (k+1) ps (spD K n (dk N.length g)):=by
 refine D.ok S (fun vs H Q E h=>?_) (fun f cdv A outer s H vs Q E hr h=>?_)
 · obtain ⟨F,ds,t,_,hl,r,_⟩:=h
   rw [r.length,hl,hn]
 · obtain ⟨F,ds,t,fh,hl,r,hf,kq⟩:=h
   refine ⟨_,hbody f cdv A outer s H E hr,?_⟩
   unfold dk at hf
   split at hf
   · rename_i t' q
     cases hf
     exact ⟨⟨K,F,H,fun _=>False⟩,_,F,_,rfl,ma fh r,q,fun v F' H' z=>z.step kq⟩
   · rename_i δ' q
     cases hf
     exact ⟨⟨K,F,H,fun _=>False⟩,_,F,_,rfl,ma fh r,q,fun σ' F' H' z=>(z.rt (Step.refl z.fh) (t:=.leaf .non) (S:=fun _=>False) (o8 (K:=K) (F:=F')) fun _ y=>y.elim).step kq⟩
   · cases hf
end
section
variable {K:PySem.W.Frag} {F H:Hp} {Q:VK}
def KO.int {i:Int} (k:KO K F H (.leaf (.int i)) Q) (fh:Same F H):Q (.int i) H:=k.leaf.here fh fQ
def KO.bl {i:Bool} (k:KO K F H (.leaf (.bl i)) Q) (fh:Same F H):Q (.bl i) H:=k.leaf.here fh nK
def KO.str {i:Str} (k:KO K F H (.leaf (.str i)) Q) (fh:Same F H):Q (.str i) H:=k.leaf.here fh kM
def KO.tup {l:List Dt} {vs:List V} {p:Addr} (k:KO K F H (.leaf (.tup l)) Q) (fh:Same F H) (r:Reps K F l vs) (hp:H p=none):Q (.ref p) (upd H p (.tup vs)):=by
 refine k.leaf _ _ _ (Step.new fh hp) ?_
 simp only [Rep]
 exact ⟨p,vs,rfl,SqT.of aI,r.same (Same.upd (fh.free hp))⟩
end
def g6 (i j:Int):Bool:=(decide (-(2^64)<i)&&decide (i<2^64))||(decide (-(2^64)<j)&&decide (j<2^64))
def uA {i j:Int} (h:g6 i j=true):CMul i j:=by
 unfold g6 at h
 simp only [Bool.or_eq_true,Bool.and_eq_true,decide_eq_true_eq] at h
 exact h
def uB {i j:Int} (h1:-1000000000000000000<i) (h2:i<1000000000000000000):g6 i j=true:=by
 unfold g6
 simp only [Bool.or_eq_true,Bool.and_eq_true,decide_eq_true_eq]
 left
 omega
def uC {i j:Int} (h1:-1000000000000000000<j) (h2:j<1000000000000000000):g6 i j=true:=by
 unfold g6
 simp only [Bool.or_eq_true,Bool.and_eq_true,decide_eq_true_eq]
 right
 omega
def jP (i j:Int):Bool:=decide (0<=j)&&decide (j<=1000000)&&decide (i.natAbs<2^64)
def uD {i j:Int} (h:jP i j=true):xk i j:=by
 unfold jP at h
 simp only [Bool.and_eq_true,decide_eq_true_eq] at h
 exact ⟨h.1.1,h.1.2,h.2⟩
noncomputable def bN:Dt->Dt->Option T
 | .int i,.int j=>some (.leaf (.int (i+j)))
 | .str a,.str b=>if a.length+b.length<=sizeLine then some (.leaf (.str (a++b))) else none
 | .lst l,.lst m=>if l.length+m.length<=sizeLine then some (.lst (l++m)) else none
 | .tup l,.tup m=>if l.length+m.length<=sizeLine/\l≠[]/\m≠[] then some (.leaf (.tup (l++m))) else none
 | _,_=>none
def fU:Dt->Dt->Option T
 | .int i,.int j=>some (.leaf (.int (i-j)))
 | _,_=>none
def ia:Dt->Dt->Option T
 | .int i,.int j=>if g6 i j then some (.leaf (.int (i*j))) else none
 | _,_=>none
def cX:Dt->Dt->Option T
 | .int i,.int j=>if 0<j then some (.leaf (.int (i%j))) else none
 | _,_=>none
def ib:Dt->Dt->Option T
 | .int i,.int j=>if jP i j then some (.leaf (.int (i^j.toNat))) else none
 | _,_=>none
def nN (f:Int->Int->Bool):Dt->Dt->Option T
 | .int i,.int j=>some (.leaf (.bl (f i j)))
 | _,_=>none
section
variable {X:Cx}
def uE:OpR X (binaryOp .Add) (fun x y H Q=>∃ l b xs zs,x=.ref l/\y=.ref b/\SqL X.K H l xs/\SqL X.K H b zs/\xs.length+zs.length<=sizeLine/\∀ p,H p=none->Q (.ref p) (upd H p (.lst (xs++zs)))):=by
 intro pins s σ H x y v u Q I rx ry h
 obtain ⟨l,b,xs,zs,rfl,rfl,hH,hB,hz,q⟩:=h
 cases rx
 cases ry
 obtain ⟨its,r,pl,_⟩:=I.list hH
 obtain ⟨its2,r2,pl2,_⟩:=I.list hB
 obtain ⟨⟨cls,dd,data,sl⟩,n,ho,hc,hd0,hd⟩:=pl
 obtain ⟨⟨cls2,dd2,data2,sl2⟩,n2,ho2,hc2,hd02,hd2⟩:=pl2
 simp only at hc hd hc2 hd2
 subst hc hd hc2 hd2
 have e:its.toArray++its2.toArray=(its++its2).toArray:=by simp
 refine concat_meets ⟨_,ho,rfl⟩ ⟨_,ho2,rfl⟩ noFill_list_add seq_list_add PySem.F.slot_list_add PySem.F.entry_list_add (PySem.F.args_list_add_2 _ _) (list_addW l b its.toArray its2.toArray n n2 dd dd2 sl sl2 (by rw [List.size_toArray,List.size_toArray,<- r.length,<- r2.length];exact hz)) ⟨ho,ho2,?_⟩
 rw [e]
 exact ⟨.ref _,_,I.lnew (t':=s.toks) (r.append r2) (by rw [List.length_append];exact hz),rfl,q _ I.fresh⟩
noncomputable abbrev wb (K:PySem.W.Frag):R2:=fun x y H Q=>(rI0 (fun i j=>.int (i+j)) x y H Q)∨(∃ i j,x=.str i/\y=.str j/\i.length+j.length<=sizeLine/\Q (.str (i++j)) H)∨
 (∃ l b xs zs,x=.ref l/\y=.ref b/\SqL K H l xs/\SqL K H b zs/\xs.length+zs.length<=sizeLine/\∀ p,H p=none->Q (.ref p) (upd H p (.lst (xs++zs))))∨vZ K x y H Q
def aU:OpR X (binaryOp .Add) (wb X.K):=OpR.or xl (OpR.or ny (OpR.or uE ug))
def bC {K:PySem.W.Frag}:R2D K (wb K) bN:=by
 intro F H x y vx vy Q t fh rx ry hg k
 unfold bN at hg
 split at hg<;>first | (cases hg;done) | skip
 · cases hg;cases rx;cases ry;exact .inl ⟨_,_,rfl,rfl,k.int fh⟩
 · split at hg
   · cases hg;cases rx;cases ry;exact .inr (.inl ⟨_,_,rfl,rfl,by assumption,k.str fh⟩)
   · cases hg
 · split at hg
   · rename_i hl
     cases hg
     obtain ⟨a,vs,rfl,h1,h2⟩:=rx
     obtain ⟨b,ws,rfl,h3,h4⟩:=ry
     exact .inr (.inr (.inl ⟨a,b,vs,ws,rfl,rfl,h1,h3,by rw [h2.length,h4.length];exact hl,fun p hp=>cY k fh (h2.append h4) hp⟩))
   · cases hg
 · split at hg
   · rename_i hl
     cases hg
     obtain ⟨a,vs,rfl,h1,h2⟩:=rx
     obtain ⟨b,ws,rfl,h3,h4⟩:=ry
     obtain ⟨hl,n1,n2⟩:=hl
     refine .inr (.inr (.inr ⟨a,b,vs,ws,rfl,rfl,fh.tup h1,fh.tup h3,fun z=>?_,by rw [h2.length,h4.length];exact hl,fun z=>?_,fun _ p hp=>k.tup fh (h2.append h4) hp⟩))
     · subst z
       have:=h2.length
       exact n1 (List.eq_nil_of_length_eq_zero this.symm)
     · subst z
       have:=h4.length
       exact absurd (List.eq_nil_of_length_eq_zero this.symm) n2
   · cases hg
def jQ {K:PySem.W.Frag}:R2D K (rI0 fun i j=>.int (i-j)) fU:=by
 intro F H x y vx vy Q t fh rx ry hg k
 unfold fU at hg
 split at hg<;>first | (cases hg;done) | skip
 cases hg;cases rx;cases ry;exact ⟨_,_,rfl,rfl,k.int fh⟩
def iM {K:PySem.W.Frag}:R2D K (rI CMul fun i j=>.int (i*j)) ia:=by
 intro F H x y vx vy Q t fh rx ry hg k
 unfold ia at hg
 split at hg<;>first | (cases hg;done) | skip
 split at hg
 · cases hg;cases rx;cases ry;exact ⟨_,_,rfl,rfl,uA (by assumption),k.int fh⟩
 · cases hg
def dL {K:PySem.W.Frag}:R2D K (rI (fun _ j=>0<j) fun i j=>.int (i%j)) cX:=by
 intro F H x y vx vy Q t fh rx ry hg k
 unfold cX at hg
 split at hg<;>first | (cases hg;done) | skip
 split at hg
 · cases hg;cases rx;cases ry;exact ⟨_,_,rfl,rfl,by assumption,k.int fh⟩
 · cases hg
def iN {K:PySem.W.Frag}:R2D K (rI xk fun i j=>.int (i^j.toNat)) ib:=by
 intro F H x y vx vy Q t fh rx ry hg k
 unfold ib at hg
 split at hg<;>first | (cases hg;done) | skip
 split at hg
 · cases hg;cases rx;cases ry;exact ⟨_,_,rfl,rfl,uD (by assumption),k.int fh⟩
 · cases hg
def pd {K:PySem.W.Frag} {f:Int->Int->Bool}:R2D K (rI0 fun i j=>.bl (f i j)) (nN f):=by
 intro F H x y vx vy Q t fh rx ry hg k
 unfold nN at hg
 split at hg<;>first | (cases hg;done) | skip
 cases hg;cases rx;cases ry;exact ⟨_,_,rfl,rfl,k.bl fh⟩
noncomputable def eqD:Dt->Dt->Option Bool
 | .non,.non=>some true
 | .non,.int _=>some false
 | .non,.bl _=>some false
 | .non,.str _=>some false
 | .int _,.non=>some false
 | .bl _,.non=>some false
 | .str _,.non=>some false
 | .int i,.int j=>some (decide (i=j))
 | .bl i,.bl j=>some (decide (i=j))
 | .str i,.str j=>some (decide (i=j))
 | .int _,.str _=>some false
 | .str _,.int _=>some false
 | .bl _,.str _=>some false
 | .str _,.bl _=>some false
 | .tup l,.tup m=>if cmpbs l m&&decide (deeps l<=59) then some (peqs l m) else none
 | .lst l,.lst m=>if cmpbs l m&&decide (deeps l<=59) then some (peqs l m) else none
 | _,_=>none
def gEq (neg:Bool) (x y:Dt):Option T:=(eqD x y).map fun b=>.leaf (.bl (if neg then !b else b))
abbrev rEqA (K:PySem.W.Frag):R2:=fun x y H Q=>rEq x y H Q∨uu K false x y H Q
abbrev rNeA (K:PySem.W.Frag):R2:=fun x y H Q=>rNe x y H Q∨uu K true x y H Q
def bO {k:Nat} (hr:Room k X.A):OpR X (compareOp .Eq) (rEqA X.K):=OpR.or zA (xF hr rfl)
def d8 {k:Nat} (hr:Room k X.A):OpR X (compareOp .NotEq) (rNeA X.K):=OpR.or zB (xG hr rfl)
def rR {K:PySem.W.Frag} {F H:Hp} {x y:Dt} {vx vy:V} {b:Bool} (fh:Same F H) (rx:RepB K F H x vx) (ry:RepB K F H y vy) (h:eqD x y=some b) :
  (xn vx vy=true/\b=decide (vx=vy))∨(((∃ l m,x=.tup l/\y=.tup m)∨∃ l m,x=.lst l/\y=.lst m)/\bX x y=true/\cN x<=60/\b=peq x y):=by
 unfold eqD at h
 split at h<;>first
  | (cases h;done)
  | (cases h;cases rx;cases ry;left;refine ⟨rfl,?_⟩;simp;done)
  | skip
 · right
   split at h
   · rename_i q
     simp only [Bool.and_eq_true,decide_eq_true_eq] at q
     cases h
     exact ⟨.inl ⟨_,_,rfl,rfl⟩,by simp only [bX];exact q.1,by simp only [cN];omega,by simp only [peq]⟩
   · cases h
 · right
   split at h
   · rename_i q
     simp only [Bool.and_eq_true,decide_eq_true_eq] at q
     cases h
     exact ⟨.inr ⟨_,_,rfl,rfl⟩,by simp only [bX];exact q.1,by simp only [cN];omega,by simp only [peq]⟩
   · cases h
def eT {K:PySem.W.Frag}:R2D K (rEqA K) (gEq false):=by
 intro F H x y vx vy Q t fh rx ry hg k
 unfold gEq at hg
 obtain ⟨b,hb,hg⟩:=mS hg
 cases hg
 have kk:Q (.bl b) H:=k.bl fh
 rcases rR fh rx ry hb with ⟨h1,rfl⟩ | ⟨h1,h2,h3,rfl⟩
 · exact .inl ⟨h1,kk⟩
 · exact .inr ⟨x,y,h1,rx.rep fh,ry.rep fh,h2,h3,kk⟩
def md {K:PySem.W.Frag}:R2D K (rNeA K) (gEq true):=by
 intro F H x y vx vy Q t fh rx ry hg k
 unfold gEq at hg
 obtain ⟨b,hb,hg⟩:=mS hg
 cases hg
 have kk:Q (.bl (!b)) H:=k.bl fh
 rcases rR fh rx ry hb with ⟨h1,rfl⟩ | ⟨h1,h2,h3,rfl⟩
 · exact .inl ⟨h1,kk⟩
 · exact .inr ⟨x,y,h1,rx.rep fh,ry.rep fh,h2,h3,kk⟩
def isNon:Dt->Bool
 | .non=>true
 | _=>false
def bD:Dt->Bool
 | .non=>true
 | .bl _=>true
 | .int _=>true
 | .str _=>true
 | _=>false
def eqF:Dt->Dt->Bool
 | .non,.non=>true
 | .bl a,.bl b=>a==b
 | .bl a,.int b=>(if a then 1 else 0)==b
 | .int a,.bl b=>a==(if b then 1 else 0)
 | .int a,.int b=>a==b
 | .str a,.str b=>a==b
 | _,_=>false
def inS (j i:Str):Bool:=!(Builtin.Str.occurrences j i 0 j.length 1).isEmpty
def inD:Dt->Dt->Option Bool
 | .str i,.str j=>some (inS j i)
 | x,.lst l=>if bD x&&l.all bD then some (l.any fun y=>eqF y x) else none
 | x,.tup l=>if bD x&&l.all bD then some (l.any fun y=>eqF y x) else none
 | _,_=>none
def gIn (neg:Bool) (x y:Dt):Option T:=(inD x y).map fun b=>.leaf (.bl (if neg then !b else b))
def kR {K:PySem.W.Frag} {F:Hp} {d:Dt} {v:V} (r:Rep K F d v) (h:bD d=true):eX v=true:=by
 cases d<;>simp only [Rep] at r<;>first
  | (subst r;rfl)
  | cases h
def xK {K:PySem.W.Frag} {F F':Hp} {d e:Dt} {v w:V} (r:Rep K F d v) (r':Rep K F' e w) (h:bD d=true) (h':bD e=true):eqF d e=eqV v w:=by
 cases d<;>first | cases h;done | skip
 all_goals cases e<;>first | cases h';done | skip
 all_goals simp only [Rep] at r r';subst r r';rfl
def iO {K:PySem.W.Frag} {F:Hp}:∀ {l:List Dt} {vs:List V},Reps K F l vs->l.all bD=true->vs.all eX=true
 | [],vs,r,_=>by simp only [Reps] at r;subst r;rfl
 | d::l,vs,r,h=>by
  simp only [Reps] at r
  obtain ⟨v,ws,rfl,h1,h2⟩:=r
  rw [List.all_cons,Bool.and_eq_true] at h ⊢
  exact ⟨kR h1 h.1,iO h2 h.2⟩
def nO {K:PySem.W.Frag} {F F':Hp} {x:Dt} {w:V} (r':Rep K F' x w) (hx:bD x=true):∀ {l:List Dt} {vs:List V},Reps K F l vs->l.all bD=true->(l.any fun y=>eqF y x)=inV w vs
 | [],vs,r,_=>by simp only [Reps] at r;subst r;rfl
 | d::l,vs,r,h=>by
  simp only [Reps] at r
  obtain ⟨v,ws,rfl,h1,h2⟩:=r
  rw [List.all_cons,Bool.and_eq_true] at h
  unfold inV
  rw [List.any_cons,List.any_cons,xK h1 r' h.1 hx,nO r' hx h2 h.2]
  rfl
abbrev rS (K:PySem.W.Frag) (neg:Bool):R2:=fun x y H Q=>(∃ i j,x=.str i/\y=.str j/\Q (.bl (if neg then !inS j i else inS j i)) H)∨rIn K neg x y H Q
def xL:OpR X (compareOp .In) (rS X.K false):=OpR.or pW p5
def qj:OpR X (compareOp .NotIn) (rS X.K true):=OpR.or kx kw
def r_in {K:PySem.W.Frag} (neg:Bool):R2D K (rS K neg) (gIn neg):=by
 intro F H x y vx vy Q t fh rx ry hg k
 unfold gIn at hg
 obtain ⟨b,hb,hg⟩:=mS hg
 cases hg
 have kk:=k.bl fh
 unfold inD at hb
 split at hb<;>first | (cases hb;done) | skip
 · cases hb;cases rx;cases ry
   exact .inl ⟨_,_,rfl,rfl,kk⟩
 · split at hb
   · rename_i q
     rw [Bool.and_eq_true] at q
     cases hb
     obtain ⟨a,vs,rfl,h1,h2⟩:=ry
     have rx':=rx.rep fh
     rw [nO rx' q.1 h2 q.2] at kk
     exact .inr ⟨a,vs,rfl,.inl h1,kR rx' q.1,iO h2 q.2,kk⟩
   · cases hb
 · split at hb
   · rename_i q
     rw [Bool.and_eq_true] at q
     cases hb
     obtain ⟨a,vs,rfl,h1,h2⟩:=ry
     have rx':=rx.rep fh
     rw [nO rx' q.1 h2 q.2] at kk
     exact .inr ⟨a,vs,rfl,.inr (fh.tup h1),kR rx' q.1,iO h2 q.2,kk⟩
   · cases hb
def me {K:PySem.W.Frag} {F:Hp} {l:List Dt} {vs:List V} {i:Int} {d:Dt} (r:Reps K F l vs) (h:atI l i=some d):∃ v,atI vs i=some v/\Rep K F d v:=by
 unfold atI at h ⊢
 rw [r.length]
 obtain ⟨j,hj,h⟩:=bS h
 obtain ⟨v,e,rv⟩:=r.get h
 exact ⟨v,by rw [hj];exact e,rv⟩
def gIx:Dt->Dt->Option T
 | .lst l,.int i=>(atI l i).map .leaf
 | .tup l,.int i=>(atI l i).map .leaf
 | .str x,.int i=>if x.length<=sizeLine then (atI x.cps.toList i).map fun c=>.leaf (.str ⟨#[c]⟩) else none
 | _,_=>none
def r_ix {K:PySem.W.Frag}:R2D K (rIx K) gIx:=by
 intro F H x y vx vy Q t fh rx ry hg k
 unfold gIx at hg
 split at hg<;>first | (cases hg;done) | skip
 · obtain ⟨d,hd,hg⟩:=mS hg
   cases hg;cases ry
   obtain ⟨a,vs,rfl,h1,h2⟩:=rx
   obtain ⟨v,e,rv⟩:=me h2 hd
   exact .inl ⟨a,vs,_,v,rfl,rfl,h1,e,k.leaf.here fh rv⟩
 · obtain ⟨d,hd,hg⟩:=mS hg
   cases hg;cases ry
   obtain ⟨a,vs,rfl,h1,h2⟩:=rx
   obtain ⟨v,e,rv⟩:=me h2 hd
   exact .inr (.inl ⟨a,vs,_,v,rfl,rfl,fh.tup h1,e,k.leaf.here fh rv⟩)
 · split at hg
   · rename_i hl
     obtain ⟨c,hc,hg⟩:=mS hg
     cases hg;cases rx;cases ry
     exact .inr (.inr ⟨_,_,c,rfl,rfl,hl,hc,k.str fh⟩)
   · cases hg
variable {a b c:Expr} {fa fb fc:De->Option Dt} {pos:Pos}
def uF (l:List Dt) (lo hi:Option Int):List Dt:=(l.drop (HT.sIx l.length 0 lo)).take (HT.sIx l.length l.length hi-HT.sIx l.length 0 lo)
noncomputable def gSl:Dt->Option Int->Option Int->Option T
 | .str x,lo,hi=>if x.length<=sizeLine then some (.leaf (.str (Txt.slice x lo hi))) else none
 | .lst l,lo,hi=>some (.lst (uF l lo hi))
 | .tup l,lo,hi=>if HT.sIx l.length 0 lo=0/\HT.sIx l.length l.length hi=l.length then none else some (.leaf (.tup (uF l lo hi)))
 | _,_,_=>none
abbrev rSlA (K:PySem.W.Frag):V->Option Int->Option Int->Hp->VK->Prop:=fun x lo hi H Q=>rSlS x lo hi H Q∨rSlL K x lo hi H Q∨rSlT K x lo hi H Q
def xM:SlR X (rSlA X.K):=SlR.or xB (SlR.or ui xv)
def mf {K:PySem.W.Frag} {F:Hp} {l:List Dt} {vs:List V} (r:Reps K F l vs) (lo hi:Option Int):Reps K F (uF l lo hi) (lN vs lo hi):=by
 unfold uF lN
 rw [r.length]
 exact (r.drop _).take _
def r_sl {K:PySem.W.Frag} {F H:Hp} {x:Dt} {v:V} {lo hi:Option Int} {Q:VK} {t:T} (fh:Same F H) (rx:RepB K F H x v) (hg:gSl x lo hi=some t) (k:KO K F H t Q):rSlA K v lo hi H Q:=by
 unfold gSl at hg
 split at hg<;>first | (cases hg;done) | skip
 · split at hg
   · cases hg;cases rx
     exact .inl ⟨_,rfl,by assumption,k.str fh⟩
   · cases hg
 · obtain ⟨a,vs,rfl,h1,h2⟩:=rx
   cases hg
   exact .inr (.inl ⟨a,vs,rfl,h1,fun p hp=>cY k fh (mf h2 _ _) hp⟩)
 · obtain ⟨a,vs,rfl,h1,h2⟩:=rx
   split at hg
   · cases hg
   · rename_i hn
     cases hg
     rw [<- h2.length] at hn
     exact .inr (.inr ⟨a,vs,rfl,fh.tup h1,hn,fun p hp=>k.tup fh (mf h2 _ _) hp⟩)
def tOD (K:PySem.W.Frag) (f:De->Option (Option Int)):TO:=fun σ H Q=>∃ Φ δ F d,Fm.K Φ=K/\En Φ δ σ F H/\f δ=some d/\∀ H' F',Step F H F' H'->Q d H'
def wc:De->Option (Option Int):=fun _=>some none
def asI:Dt->Option Int
 | .int i=>some i
 | _=>none
def mh (f:De->Option Dt):De->Option (Option Int):=fun δ=>(f δ).bind fun d=>(asI d).map some
def iP {K:PySem.W.Frag} {F H:Hp} {x:Dt} {v:V} {b:Int} (h:asI x=some b) (r:RepB K F H x v):v=.int b:=by
 cases x<;>first | cases h;done | skip
 cases h;exact r
def DP (X:Cx) (e:Option Expr) (f:De->Option (Option Int)):Prop:=PO X e (tOD X.K f)
def uG:DP X none wc:=fun pins s σ H Q I h=>ue pins s σ H Q I (by
 obtain ⟨Φ,δ,F,d,hK,en,hf,k⟩:=h
 cases hf
 exact k H F (Step.refl en.fh))
def kS {e:Expr} {f:De->Option Dt} (h:DB X e f):DP X (some e) (mh f):=fun pins s σ H Q I q=>uf h pins s σ H Q I (by
 obtain ⟨Φ,δ,F,d,hK,en,hf,k⟩:=q
 unfold mh at hf
 obtain ⟨x,hx,hf⟩:=bS hf
 obtain ⟨i,hi,hf⟩:=mS hf
 cases hf
 exact ⟨Φ,δ,F,x,hK,en,hx,fun v H' F' st r=>⟨i,iP hi r,k H' F' st⟩⟩)
def vSl (fa:De->Option Dt) (fl fh:De->Option (Option Int)):De->Option T:=fun δ=>(fa δ).bind fun x=>(fl δ).bind fun l=>(fh δ).bind fun h=>gSl x l h
def mi {e:Expr} {lo hi:Option Expr} {p2:Pos} {f:De->Option Dt} {fl fh:De->Option (Option Int)} (he:DB X e f) (hl:DP X lo fl) (hh:DP X hi fh):DO X (.Subscript e (.Slice lo hi none p2) pos) (vSl f fl fh):=
 PE.mono (rc xM he hl hh) fun σ H Q ⟨Φ,δ,F,t,hK,en,hf,k⟩=>by
  unfold vSl at hf
  obtain ⟨x,hx,hf⟩:=bS hf
  obtain ⟨l,hl,hf⟩:=bS hf
  obtain ⟨h,hh,hf⟩:=bS hf
  exact ⟨Φ,δ,F,x,hK,en,hx,fun v H1 F1 s1 r1=>⟨Φ,δ,F1,l,hK,en.step s1,hl,fun H2 F2 s2=>⟨Φ,δ,F2,h,hK,en.step (s1.trans s2),hh,fun H3 F3 s3=>r_sl s3.fh (r1.step (s2.ff.trans s3.ff) (s2.hh.trans s3.hh)) hf (k.step ((s1.trans s2).trans s3))⟩⟩⟩
def qk (f:De->Option Dt):De->Option T:=fun δ=>(f δ).bind fun d=>(asI d).map fun i=>.leaf (.int (-i))
def kU (h:DB X a fa):DO X (.UnaryOp .USub a pos) (qk fa):=PE.mono (zz xm h) fun σ H Q ⟨Φ,δ,F,t,hK,en,hf,k⟩=>by
 unfold qk at hf
 obtain ⟨x,hx,hf⟩:=bS hf
 obtain ⟨i,hi,hf⟩:=mS hf
 cases hf
 exact ⟨Φ,δ,F,x,hK,en,hx,fun v H' F' st r=>⟨i,iP hi r,(k.step st).int st.fh⟩⟩
def cb:List Dt->Option T
 | [.str x]=>if x.length<=sizeLine then some (.leaf (.int x.length)) else none
 | [.tup l]=>some (.leaf (.int l.length))
 | [.lst l]=>some (.leaf (.int l.length))
 | _=>none
def cA {K:PySem.W.Frag} {F H:Hp} {d:Dt} {vs:List V} (r:iK K F H [d] vs):∃ v,vs=[v]/\RepB K F H d v:=by
 obtain ⟨v,ws,rfl,h1,h2⟩:=r
 cases h2
 exact ⟨v,rfl,h1⟩
def cR {K:PySem.W.Frag}:CRD K (fun xs H Q=>∃ x n,xs=[x]/\LenV K x H n/\Q (.int n) H) cb:=by
 intro F H ds vs Q t fh r hg k
 unfold cb at hg
 split at hg<;>first | (cases hg;done) | skip
 · split at hg
   · rename_i hl
     cases hg
     obtain ⟨v,rfl,rv⟩:=cA r
     cases rv
     exact ⟨_,_,rfl,⟨hl,rfl⟩,k.int fh⟩
   · cases hg
 · cases hg
   obtain ⟨v,rfl,rv⟩:=cA r
   obtain ⟨a,vs,rfl,h1,h2⟩:=rv
   rw [<- h2.length] at k
   exact ⟨_,_,rfl,.inr ⟨vs,fh.tup h1,rfl⟩,k.int fh⟩
 · cases hg
   obtain ⟨v,rfl,rv⟩:=cA r
   obtain ⟨a,vs,rfl,h1,h2⟩:=rv
   rw [<- h2.length] at k
   exact ⟨_,_,rfl,.inl ⟨vs,h1,rfl⟩,k.int fh⟩
def gI:List Dt->Option T
 | [.lst l]=>some (.leaf (.tup l))
 | [.tup l]=>some (.leaf (.tup l))
 | _=>none
def kW {K:PySem.W.Frag}:CRD K (fun xs H Q=>∃ p ys,xs=[.ref p]/\((SqL K H p ys/\∀ l,H l=none->Q (.ref l) (upd H l (.tup ys)))∨(SqT K H p ys/\Q (.ref p) H))) gI:=by
 intro F H ds vs Q t fh r hg k
 unfold gI at hg
 split at hg<;>first | (cases hg;done) | skip
 · cases hg
   obtain ⟨v,rfl,rv⟩:=cA r
   obtain ⟨a,vs,rfl,h1,h2⟩:=rv
   exact ⟨a,vs,rfl,.inl ⟨h1,fun p hp=>k.tup fh h2 hp⟩⟩
 · cases hg
   obtain ⟨v,rfl,rv⟩:=cA r
   rename_i l
   have rv':Rep K F (.tup l) v:=by simp only [Rep];exact rv
   obtain ⟨a,vs,rfl,h1,h2⟩:=rv
   exact ⟨a,vs,rfl,.inr ⟨fh.tup h1,k.leaf.here fh rv'⟩⟩
def rT:List Dt->Option T
 | [.lst l]=>some (.lst l)
 | [.tup l]=>some (.lst l)
 | _=>none
def xN {K:PySem.W.Frag}:CRD K (fun xs H Q=>∃ p ys,xs=[.ref p]/\(SqL K H p ys∨SqT K H p ys)/\∀ l,H l=none->Q (.ref l) (upd H l (.lst ys))) rT:=by
 intro F H ds vs Q t fh r hg k
 unfold rT at hg
 split at hg<;>first | (cases hg;done) | skip
 · cases hg
   obtain ⟨v,rfl,rv⟩:=cA r
   obtain ⟨a,vs,rfl,h1,h2⟩:=rv
   exact ⟨a,vs,rfl,.inl h1,fun p hp=>cY k fh h2 hp⟩
 · cases hg
   obtain ⟨v,rfl,rv⟩:=cA r
   obtain ⟨a,vs,rfl,h1,h2⟩:=rv
   exact ⟨a,vs,rfl,.inr (fh.tup h1),fun p hp=>cY k fh h2 hp⟩
end
section
variable {X:Cx} {o a b e c:Expr} {es:List Expr} {fa fb fo fe:De->Option Dt} {fs:De->Option (List Dt)} {pos apos cpos p:Pos} {x:Str} {sc:Scope} {i:Nat}
def rV (K:PySem.W.Frag) (mg:Str->Option Value) (x:Str) (d:Dt):Prop:=∃ v,(∃ u,mg x=some u/\RelV v u)/\∀ F,Rep K F d v
def uH {d:Dt} (h:aH sc x=true) (hm:rV X.K X.mg x d) (e1:bM X sc:=by rfl):DL X (.Name x pos) (kD d):=by
 obtain ⟨v,h1,h2⟩:=hm
 exact rH (iH h h1 e1) h2
def mj:Dt->Bool
 | .ins _ _ _=>true
 | _=>false
def tyD:Dt->String
 | .ins _ _ _=>"object"
 | .non=>"NoneType"
 | .bl _=>"bool"
 | .int _=>"int"
 | .str _=>"str"
 | .tup _=>"tuple"
 | .lst _=>"list"
 | .dct _ _=>"dict"
 | .dcT _ _=>"dict"
noncomputable def we (c:String):Dt->Bool
 | .ins _ _ _=>false
 | .non=>c=="NoneType"
 | .bl _=>c=="bool"||c=="int"
 | .int _=>c=="int"
 | .str _=>c=="str"
 | .tup _=>c=="tuple"
 | .lst _=>c=="list"
 | .dct _ _=>c=="dict"
 | .dcT _ _=>c=="dict"
def nP {pins:List (Addr×Obj)} {σ:St} {H:Hp} {s:Shared} {A:Around} {E:Value->Shared->Prop} {Q:Value->Shared->Prop} {c:Value} {b:Bool} {v:V} {u:Value} {d:Dt} (I:Inv X pins σ H s) (rx:RelV v u) (r:Rep X.K H d v) (hi:mj d=false) (e:PySem.W.kitOne X.K (.type (tyD d)) c=some b) (h:∀ tk,Q (.bool b) {s with toks:=tk}) :
  wpAny (model X.prog X.w) A (call (.builtin "isinstance") [u,c]) Q E s:=by
 cases d with
 | non=>simp only [Rep] at r;subst r;exact eu I rx .non e h
 | bl y=>simp only [Rep] at r;subst r;exact eu I rx (.bl y) e h
 | int y=>simp only [Rep] at r;subst r;exact eu I rx (.int y) e h
 | str y=>simp only [Rep] at r;subst r;exact eu I rx (.str y) e h
 | tup l =>
  simp only [Rep] at r
  obtain ⟨a,vs,rfl,h1,h2⟩:=r
  cases rx
  obtain ⟨its,_,pl,_⟩:=I.tuple h1
  obtain ⟨o,e1,e2,_⟩:=pl
  exact PySem.W.kia_one PySem.W.kitx_tuple I.kIn ⟨o,e1,e2⟩ e (fun z=>nomatch z) h
 | lst l =>
  simp only [Rep] at r
  obtain ⟨a,vs,rfl,h1,h2⟩:=r
  cases rx
  obtain ⟨its,_,pl,_⟩:=I.list h1
  obtain ⟨o,n,e1,e2,_⟩:=pl
  exact PySem.W.kia_one PySem.W.kitx_list I.kIn ⟨o,e1,e2⟩ e (fun z=>nomatch z) h
 | dct ks l =>
  simp only [Rep] at r
  obtain ⟨a,kvs,rfl,h1,_⟩:=r
  cases rx
  obtain ⟨_,_,vs,_,p⟩:=iy I.hok h1
  obtain ⟨o,es,ep,e1,e2,_⟩:=p
  exact PySem.W.kia_one PySem.W.kitx_dict I.kIn ⟨o,e1,e2.1⟩ e (fun z=>nomatch z) h
 | dcT ks l =>
  simp only [Rep] at r
  obtain ⟨a,kvs,rfl,h1,_⟩:=r
  cases rx
  obtain ⟨_,_,xs,_,o,es,ep,e1,e2,_⟩:=(show ObjOk X.prog X.w H s.heap a (.dT kvs) from h1.ok I.hok)
  exact PySem.W.kia_one PySem.W.kitx_dict I.kIn ⟨o,e1,e2.1⟩ e (fun z=>nomatch z) h
 | ins c ns l=>cases hi
def nQ (K:PySem.W.Frag) (c:String):Prop:=∀ d:Dt,mj d=false->PySem.W.kitOne K (.type (tyD d)) (.type c)=some (we c d)
def nR:b7 X (.builtin "isinstance") (fun xs H Q=>∃ v c d b,xs=[v,.ty c]/\Rep X.K H d v/\mj d=false/\PySem.W.kitOne X.K (.type (tyD d)) (.type c)=some b/\Q (.bl b) H):=by
 intro pins s σ H xs us Q I r h
 obtain ⟨v,c,d,b,rfl,rd,hi,e,q⟩:=h
 obtain ⟨u,w',rfl,ru,rw'⟩:=qY r
 cases rw'
 exact nP I ru rd hi e fun tk=>⟨.bl b,H,I.tok _,rfl,q⟩
def g7 (c:String) (f:De->Option Dt):De->Option T:=fun δ=>(f δ).bind fun d=>if mj d then none else some (.leaf (.bl (we c d)))
def eF {cn:Str} {cs:String} {p1 p2:Pos} (h:aH sc "isinstance"=true) (hcn:aH sc cn=true) (hm:X.mg "isinstance"=none) (hmc:X.mg cn=none) (hv:bootBuiltins cn=some (.type cs)) (hk:nQ X.K cs) (ha:DB X a fa) (e1:bM X sc:=by rfl)
  (he:starEach [a,.Name cn p2] X.env=(false,eval a X.env)::starEach [.Name cn p2] X.env:=by rfl) (he2:starEach [.Name cn p2] X.env=(false,eval (.Name cn p2) X.env)::starEach [] X.env:=by rfl) (hpl:(backTo pos (starEach [.Name cn p2] X.env)).any (·.1)=false:=by rfl) :
  DO X (.Call (.Name "isinstance" p1) [a,.Name cn p2] [] pos) (g7 cs fa):=
 PE.mono (gG h nR hm jp (cF ha (cF (rE (v:=.ty cs) hcn hmc hv rfl e1) dU he2) he) e1 he hpl) fun σ H Q ⟨Φ,δ,F,t,hK,en,hf,k⟩=>by
  unfold g7 at hf
  obtain ⟨d,hd,hf⟩:=bS hf
  cases hi:mj d with
  | true=>rw [hi] at hf;cases hf
  | false =>
   rw [hi] at hf
   cases hf
   exact ⟨Φ,δ,F,d,hK,en,hd,fun v H' F' st r=>⟨v,cs,d,_,rfl,r.rep st.fh,hi,hk d hi,(k.step st).bl st.fh⟩⟩
def MRD (K:PySem.W.Frag) (r:V->List V->Hp->VK->Prop) (g:Dt->List Dt->Option T):Prop:=∀ F H d v ds vs (Q:VK) t,Same F H->RepB K F H d v->iK K F H ds vs->g d ds=some t->KO K F H t Q->r v vs H Q
def jR (g:Dt->List Dt->Option T) (fo:De->Option Dt) (fs:De->Option (List Dt)):De->Option T:=fun δ=>(fo δ).bind fun d=>(fs δ).bind fun ds=>g d ds
def rW {name:Str} {id:String} {r:V->List V->Hp->VK->Prop} {g:Dt->List Dt->Option T} (slot:Slot "str" name id) (hty:typeOf (.builtin id)=pure (.type "method_descriptor")) (hm:MtR X id r) (hr:MRD X.K r g) (hg:∀ d ds t,g d ds=some t->∃ z,d=.str z)
  (ho:DB X o fo) (ha:DAB X (e::es) fs)
  (hbase:attributeBase o name X.env (eval o X.env)=eval o X.env:=by rfl)
  (hfew:((backTo cpos (starEach (e::es) X.env)).all (fun x=>!x.1)&&(backToKw cpos (keywordEach [] X.env)).all (fun x=>x.1.isSome)
   && decide ((e::es).length+([]:List Keyword).length+(if ([]:List Keyword).isEmpty then 0 else 1)<30))=true:=by rfl)
  (hline:(apos.endLine==cpos.line)=true:=by rfl) (hs:starEach (e::es) X.env=(false,eval e X.env)::starEach es X.env:=by rfl) (hplain:(backTo cpos (starEach es X.env)).any (·.1)=false:=by rfl) :
  DO X (.Call (.Attribute o name apos) (e::es) [] cpos) (jR g fo fs):=PE.mono (oN PySem.F.plainAttrs_str slot hty hm ho ha.pa hbase hfew hline hs hplain) fun σ H Q ⟨Φ,δ,F,t,hK,en,hf,k⟩=>by
 unfold jR at hf
 obtain ⟨d,hd,hf⟩:=bS hf
 obtain ⟨ds,hds,hf⟩:=bS hf
 refine ⟨Φ,δ,F,d,hK,en,hd,fun v H1 F1 st rv=>⟨?_,Φ,δ,F1,ds,hK,en.step st,hds,fun vs H2 F2 st2 rvs=>hr F2 H2 d v ds vs Q t st2.fh (rv.step st2.ff st2.hh) rvs hf (k.step (st.trans st2))⟩⟩
 obtain ⟨z,rfl⟩:=hg d ds t hf
 cases rv
 rfl
def dD:List Dt->Option (List Str)
 | []=>some []
 | .str b::r=>(dD r).map (b::·)
 | _=>none
def eG {K:PySem.W.Frag} {F:Hp}:∀ {l:List Dt} {vs:List V} {bs:List Str},Reps K F l vs->dD l=some bs->vs=bs.map V.str
 | [],vs,bs,r,h=>by cases h;simp only [Reps] at r;exact r
 | d::l,vs,bs,r,h=>by
  cases d<;>first | cases h;done | skip
  simp only [dD] at h
  obtain ⟨cs,hc,h⟩:=mS h
  cases h
  simp only [Reps,Rep] at r
  obtain ⟨v,ws,rfl,rfl,r2⟩:=r
  rw [eG r2 hc]
  rfl
def fu:Dt->List Dt->Option T
 | .str a,[.lst l]=>(dD l).bind fun ts=>if JoinOk a ts then some (.leaf (.str (Txt.join a ts))) else none
 | _,_=>none
def uI {K:PySem.W.Frag}:MRD K (fun x vs H Q=>∃ (a:Str) (l:Addr) (ts:List Str),x=.str a/\vs=[.ref l]/\SqL K H l (ts.map V.str)/\JoinOk a ts=true/\Q (.str (Txt.join a ts)) H) fu:=by
 intro F H d v ds vs Q t fh rd rs hg k
 unfold fu at hg
 split at hg<;>first | cases hg;done | skip
 obtain ⟨ts,ht,hg⟩:=bS hg
 split at hg
 · rename_i hj
   cases hg
   cases rd
   obtain ⟨v,rfl,rv⟩:=cA rs
   obtain ⟨a,vs,rfl,h1,h2⟩:=rv
   have:=eG h2 ht
   subst this
   exact ⟨_,a,ts,rfl,rfl,h1,hj,k.str fh⟩
 · cases hg
def nS:∀ d ds t,fu d ds=some t->∃ z,d=.str z:=fun d ds t h=>by
 unfold fu at h
 split at h
 · exact ⟨_,rfl⟩
 · cases h
def uJ (ho:DB X o fo) (ha:DAB X (e::es) fs)
  (hbase:attributeBase o "join" X.env (eval o X.env)=eval o X.env:=by rfl)
  (hfew:((backTo cpos (starEach (e::es) X.env)).all (fun x=>!x.1)&&(backToKw cpos (keywordEach [] X.env)).all (fun x=>x.1.isSome)
   && decide ((e::es).length+([]:List Keyword).length+(if ([]:List Keyword).isEmpty then 0 else 1)<30))=true:=by rfl)
  (hline:(apos.endLine==cpos.line)=true:=by rfl) (hs:starEach (e::es) X.env=(false,eval e X.env)::starEach es X.env:=by rfl) (hplain:(backTo cpos (starEach es X.env)).any (·.1)=false:=by rfl) :
  DO X (.Call (.Attribute o "join" apos) (e::es) [] cpos) (jR fu fo fs):=rW PySem.F.slot_str_join PySem.F.type_str_join ut uI nS ho ha hbase hfew hline hs hplain
def z25 (i:Nat) (f:De->Option Dt):De->Option Out:=fun δ=>match δ[i]? with
 | some (some (.lst l))=>(f δ).bind fun d=>if l.length<sizeLine then some (.nx (δ.set i (some (.lst (l++[d]))))) else none
 | _=>none
def En.ownL {Φ:Fm} {δ:De} {σ:St} {F H:Hp} (en:En Φ δ σ F H) {l:List Dt} (h:δ[i]?=some (some (.lst l))):∃ a vs,σ[i]?=some (some (.ref a))/\H a=some (.lst vs)/\Reps Φ.K F l vs:=by
 obtain ⟨v,hv⟩:=en.has i _ h
 obtain ⟨S,s⟩:=en.sep
 obtain ⟨a,vs,rfl,_,h1,h2⟩:=s.own i _ v (b9 h hv)
 exact ⟨a,vs,hv,h1,h2⟩
def cJ (hx:PE X o (jm i)) (he:DL X e fe)
  (hbase:attributeBase o "append" X.env (eval o X.env)=eval o X.env:=by rfl)
  (hfew:((backTo cpos (starEach [e] X.env)).all (fun x=>!x.1)&&(backToKw cpos (keywordEach [] X.env)).all (fun x=>x.1.isSome)
   && decide ([e].length+([]:List Keyword).length+(if ([]:List Keyword).isEmpty then 0 else 1)<30))=true:=by rfl)
  (hline:(apos.endLine==cpos.line)=true:=by rfl) (hs:starEach [e] X.env=(false,eval e X.env)::starEach [] X.env:=by rfl) (hplain:(backTo cpos (starEach [] X.env)).any (·.1)=false:=by rfl)
  (hsw:swapsWith (.Call (.Attribute o "append" apos) [e] [] cpos) none pos.line X.env=pure false:=by rfl) :
  DS1 X (.Expr (.Call (.Attribute o "append" apos) [e] [] cpos) pos) (z25 i fe):=
 PS.mono (kn (oN PySem.F.plainAttrs_list PySem.F.slot_list_append PySem.F.type_list_append ez hx (cF he dU hs) hbase hfew hline hs hplain) hsw) fun D σ H ⟨Φ,δ,F,ot,hK,en,hg,k⟩=>by
  unfold z25 at hg
  split at hg<;>first | cases hg;done | skip
  rename_i l hl
  obtain ⟨d,hd,hg⟩:=bS hg
  split at hg<;>first | cases hg;done | skip
  rename_i hz
  cases hg
  obtain ⟨a,vs,hv,h1,h2⟩:=en.ownL hl
  refine ⟨.ref a,hv,.inl ⟨rfl,vs,.inl (.inl h1)⟩,Φ,δ,F,d,hK,en,hd,fun v H1 F1 st rv=>?_⟩
  have en1:=en.step st
  have h1':=st.hh _ _ h1
  refine ⟨a,vs,v,rfl,rfl,h1',by rw [h2.length];exact hz,?_⟩
  refine k σ F1 _ (en1.poke hl hv (fun d z=>nomatch z) fun S sa=>⟨a,vs++[v],rfl,sa,aI,(h2.same st.ff).append (Reps.one (hK▸rv))⟩)
def Reps.set {K:PySem.W.Frag} {F:Hp} {d:Dt} {v:V} (h:Rep K F d v):∀ {l:List Dt} {vs:List V} (j:Nat),Reps K F l vs->Reps K F (l.set j d) (vs.set j v)
 | [],vs,j,r=>by simp only [Reps] at r;subst r;simp [Reps]
 | e::l,vs,0,r=>by
  simp only [Reps] at r
  obtain ⟨w,ws,rfl,_,r2⟩:=r
  simp only [List.set_cons_zero,Reps]
  exact ⟨v,ws,rfl,h,r2⟩
 | e::l,vs,j+1,r=>by
  simp only [Reps] at r
  obtain ⟨w,ws,rfl,r1,r2⟩:=r
  simp only [List.set_cons_succ,Reps]
  exact ⟨w,_,rfl,r1,Reps.set h j r2⟩
end
def cp {κ:Type} [DecidableEq κ]:List κ->List Dt->κ->Option Dt
 | k'::ks,d::l,k=>if k'=k then some d else cp ks l k
 | _,_,_=>none
def eI {κ:Type} [DecidableEq κ] {K:PySem.W.Frag} {F:Hp} {k:κ}:∀ {kvs:List (κ×V)} {l:List Dt} {d:Dt},Reps K F l (kvs.map (·.2))->cp (kvs.map (·.1)) l k=some d->∃ v,cy kvs k=some v/\Rep K F d v
 | [],l,d,r,h=>by cases l<;>cases h
 | p::kvs,[],d,r,h=>by cases h
 | p::kvs,e::l,d,r,h=>by
  simp only [List.map_cons,Reps] at r
  obtain ⟨v,ws,hv,r1,r2⟩:=r
  cases hv
  simp only [List.map_cons,cp] at h
  by_cases hk:p.1=k
  · rw [if_pos hk] at h
    cases h
    exact ⟨p.2,dY hk,r1⟩
  · rw [if_neg hk] at h
    rw [dm hk]
    exact eI r2 h
def jS {κ:Type} [DecidableEq κ] {K:PySem.W.Frag} {F:Hp} {k:κ}:∀ {kvs:List (κ×V)} {l:List Dt},Reps K F l (kvs.map (·.2))->cp (kvs.map (·.1)) l k=none->cy kvs k=none
 | [],l,r,h=>rfl
 | p::kvs,[],r,h=>by
  simp only [List.map_cons,Reps] at r
  cases r
 | p::kvs,e::l,r,h=>by
  simp only [List.map_cons,Reps] at r
  obtain ⟨v,ws,hv,r1,r2⟩:=r
  cases hv
  simp only [List.map_cons,cp] at h
  by_cases hk:p.1=k
  · rw [if_pos hk] at h
    cases h
  · rw [if_neg hk] at h
    rw [dm hk]
    exact jS r2 h
def fV:Dt->Option Key
 | .int i=>some (.inl i)
 | .str x=>some (.inr x)
 | _=>none
def eJ {K:PySem.W.Frag} {F H:Hp} {d:Dt} {v:V} {k:Key} (r:RepB K F H d v) (h:fV d=some k):v=kV k:=by
 unfold fV at h
 split at h<;>first | (cases h;done) | skip
 · cases h;exact r
 · cases h;exact r
def aA:Dt->Dt->Option T
 | .dct ks l,k=>(fV k).bind fun k=>(cp ks l k).map .leaf
 | x,y=>gIx x y
section
variable {X:Cx} {o a b e c:Expr} {es:List Expr} {fa fb fo fe fk:De->Option Dt} {fs:De->Option (List Dt)} {pos apos cpos p:Pos} {x:Str} {sc:Scope} {i:Nat}
def am {k:Nat} (hr:Room k X.A) (ha:DB X a fa) (hb:DB X b fb) (hs:kt b:=by exact fun _ _=>rfl) (hn:p9 b:=by exact fun _ _=>rfl):DO X (.Subscript a b pos) (d2 aA fa fb):=
 PE.mono (PE.or (v0 rf ha hb hs) (oQ (jC hr) ha hb hn)) fun σ H Q ⟨Φ,δ,F,t,hK,en,hf,k⟩=>by
  unfold d2 at hf
  obtain ⟨x,hx,hf⟩:=bS hf
  obtain ⟨y,hy,hf⟩:=bS hf
  unfold aA at hf
  split at hf
  · rename_i ks l _
    obtain ⟨kk,hk,hf⟩:=bS hf
    obtain ⟨d,hd,hf⟩:=mS hf
    cases hf
    refine .inr ⟨Φ,δ,F,_,hK,en,hx,fun v H1 F1 st rv=>⟨Φ,δ,F1,y,hK,en.step st,hy,fun v2 H2 F2 st2 rv2=>?_⟩⟩
    obtain ⟨ad,kvs,rfl,h1,h2,h3⟩:=rv
    subst h2
    obtain ⟨w,hw,rw'⟩:=eI h3 hd
    have:=eJ rv2 hk
    subst this
    exact ⟨ad,w,rfl,.inl ⟨kvs,kk,st2.hh.rd h1,rfl,hw.symm⟩,(k.step (st.trans st2)).leaf.here st2.fh (rw'.same st2.ff)⟩
  · exact .inl (jJ r_ix ⟨Φ,δ,F,t,hK,en,by unfold d2;rw [hx,hy];exact hf,k⟩)
def cv (neg:Bool):Dt->Dt->Option T
 | k,.dct ks l=>(fV k).map fun k=>.leaf (.bl (if neg then !(cp ks l k).isSome else (cp ks l k).isSome))
 | x,y=>gIn neg x y
def kX {κ:Type} [DecidableEq κ] {K:PySem.W.Frag} {F:Hp} {k:κ} {kvs:List (κ×V)} {l:List Dt} (r:Reps K F l (kvs.map (·.2))):(cp (kvs.map (·.1)) l k).isSome=(cy kvs k).isSome:=by
 cases h:cp (kvs.map (·.1)) l k with
 | none=>rw [jS r h];rfl
 | some d =>
  obtain ⟨v,e,_⟩:=eI r h
  rw [e]
  rfl
def zS {K:PySem.W.Frag} {σ:St} {H:Hp} {Q:VK} (h:tO K (d2 (cv false) fa fb) σ H Q):tOp (rS K false) (tBd K fa) (tBd K fb) σ H Q∨tDIn (tBd K fa) (tBd K fb) σ H Q:=by
 obtain ⟨Φ,δ,F,t,hK,en,hf,k⟩:=h
 unfold d2 at hf
 obtain ⟨x,hx,hf⟩:=bS hf
 obtain ⟨y,hy,hf⟩:=bS hf
 unfold cv at hf
 split at hf
 · rename_i ks l
   obtain ⟨kk,hk,hf⟩:=mS hf
   cases hf
   refine .inr ⟨Φ,δ,F,x,hK,en,hx,fun v H1 F1 st rv=>⟨Φ,δ,F1,_,hK,en.step st,hy,fun v2 H2 F2 st2 rv2=>?_⟩⟩
   obtain ⟨ad,kvs,rfl,h1,h2,h3⟩:=rv2
   subst h2
   have:=eJ rv hk
   subst this
   refine ⟨ad,_,rfl,.inl ⟨kvs,kk,h1,rfl,rfl⟩,?_⟩
   rw [<- kX h3]
   exact (k.step (st.trans st2)).bl st2.fh
 · exact .inl (jJ (r_in false) ⟨Φ,δ,F,t,hK,en,by unfold d2;rw [hx,hy];exact hf,k⟩)
def rX {K:PySem.W.Frag} {σ:St} {H:Hp} {Q:VK} (h:tO K (d2 (cv true) fa fb) σ H Q):tOp (rS K true) (tBd K fa) (tBd K fb) σ H Q∨oP (tBd K fa) (tBd K fb) σ H Q:=by
 obtain ⟨Φ,δ,F,t,hK,en,hf,k⟩:=h
 unfold d2 at hf
 obtain ⟨x,hx,hf⟩:=bS hf
 obtain ⟨y,hy,hf⟩:=bS hf
 unfold cv at hf
 split at hf
 · rename_i ks l
   obtain ⟨kk,hk,hf⟩:=mS hf
   cases hf
   refine .inr ⟨Φ,δ,F,x,hK,en,hx,fun v H1 F1 st rv=>⟨Φ,δ,F1,_,hK,en.step st,hy,fun v2 H2 F2 st2 rv2=>?_⟩⟩
   obtain ⟨ad,kvs,rfl,h1,h2,h3⟩:=rv2
   subst h2
   have:=eJ rv hk
   subst this
   refine ⟨ad,_,rfl,.inl ⟨kvs,kk,h1,rfl,rfl⟩,?_⟩
   rw [<- kX h3]
   exact (k.step (st.trans st2)).bl st2.fh
 · exact .inl (jJ (r_in true) ⟨Φ,δ,F,t,hK,en,by unfold d2;rw [hx,hy];exact hf,k⟩)
def PT.or {X:Cx} {e:Expr} {t t':TT} (h:PT X e t) (h':PT X e t'):PT X e (fun σ H Q=>t σ H Q∨t' σ H Q):=fun pins s σ H Q I q=>q.elim (h pins s σ H Q I) (h' pins s σ H Q I)
def wf {K:PySem.W.Frag} {g:Dt->Dt->Option T} {σ:St} {H:Hp} {Q:Bool->Hp->Prop} (h:tTr K (tB2 g fa fb) σ H Q):tO K (d2 g fa fb) σ H (fun v H'=>∃ c,v=.bl c/\Q c H'):=by
 obtain ⟨Φ,δ,F,t,hK,en,hf,k⟩:=h
 unfold tB2 at hf
 obtain ⟨z,hz,hf⟩:=bS hf
 exact ⟨Φ,δ,F,z,hK,en,hz,fun v H' F' S st o hs=>⟨t,o7 hf o,k H' F' st⟩⟩
def g8 {k:Nat} (hr:Room k X.A) (ha:DB X a fa) (hb:DB X b fb) (hm:behindInMarks .In b=false:=by with_unfolding_all rfl):DT X (.Compare a [.In] [b] pos) (tB2 (cv false) fa fb):=
 PT.mono (PT.or (ii xL ha hb hm) (nn (xz (jC hr) ha hb) hm)) fun σ H Q h=>zS (wf h)
def ml {k:Nat} (hr:Room k X.A) (ha:DB X a fa) (hb:DB X b fb) (hm:behindInMarks .NotIn b=false:=by with_unfolding_all rfl):DT X (.Compare a [.NotIn] [b] pos) (tB2 (cv true) fa fb):=
 PT.mono (PT.or (ii qj ha hb hm) (nn (qa (jC hr) ha hb) hm)) fun σ H Q h=>rX (wf h)
def rY:De->Option T:=fun _=>some (.dct [])
def uK:DO X (.Dict [] [] pos) rY:=PE.mono rn fun σ H Q ⟨Φ,δ,F,t,hK,en,hf,k⟩=>by
 cases hf
 intro p hp
 refine k _ _ F (fun b=>b=p) (Step.made en.fh hp) ⟨p,[],rfl,rfl,aI,rfl,by simp [Reps]⟩ fun b z=>?_
 subst z
 exact ⟨en.fh.free hp,hp,_,aI⟩
def mm {κ:Type} [DecidableEq κ]:List (κ×Dt)->κ->Dt->List (κ×Dt)
 | [],k,d=>[(k,d)]
 | p::l,k,d=>if p.1=k then (p.1,d)::l else p::mm l k d
noncomputable def rZ (i:Nat) (fk fe:De->Option Dt):De->Option Out:=fun δ=>(fe δ).bind fun d=>(fk δ).bind fun k=>match δ[i]? with
 | some (some (.lst l))=>(asI k).bind fun n=>(ixN l.length n).map fun j=>.nx (δ.set i (some (.lst (l.set j d))))
 | some (some (.dct l))=>(fV k).bind fun k=>if l.length<sizeLine/\(l.map (·.1)).Nodup then some (.nx (δ.set i (some (.dct (mm l k d))))) else none
 | _=>none
def uL {κ:Type} [DecidableEq κ] (k:κ) (v:V):∀ (kvs:List (κ×V)) (l:List (κ×Dt)) (d:Dt),(kvs.map (·.1)).Nodup->kvs.map (·.1)=l.map (·.1)->(bL kvs k v).map (·.1)=(mm l k d).map (·.1)∧
  ∀ (K:PySem.W.Frag) (F:Hp),Rep K F d v->Reps K F (l.map (·.2)) (kvs.map (·.2))->Reps K F ((mm l k d).map (·.2)) ((bL kvs k v).map (·.2)):=by
 have key:∀ (kvs:List (κ×V)),(kvs.map (·.1)).Nodup->bL kvs k v=match kvs with | []=>[(k,v)] | p::r=>if p.1=k then (p.1,v)::r else p::bL r k v:=fun kvs hn=>by
  cases kvs with
  | nil=>rfl
  | cons p r =>
   dsimp only
   by_cases hp:p.1=k
   · rw [if_pos hp]
     unfold bL
     rw [if_pos (by simp [hp])]
     simp only [List.map_cons,if_pos hp]
     congr 1
     have hk:∀ q∈r,¬ q.1=k:=fun q hq z=>by
      have:=(List.nodup_cons.mp hn).1
      exact this (show p.1∈r.map (·.1) by rw [hp,<- z];exact List.mem_map_of_mem hq)
     exact (List.map_congr_left fun q hq=>if_neg (hk q hq)).trans (List.map_id' r)
   · rw [if_neg hp]
     unfold bL
     have e:(p::r).any (fun kv=>decide (kv.1=k))=r.any fun kv=>decide (kv.1=k):=by simp [hp]
     rw [e]
     split
     · simp only [List.map_cons,if_neg hp]
     · rfl
 intro kvs
 induction kvs with
 | nil =>
  intro l d hn he
  cases l with
  | nil=>exact ⟨rfl,fun K F r _=>by simpa [mm,bL] using Reps.one r⟩
  | cons q l=>cases he
 | cons p r ih =>
  intro l d hn he
  cases l with
  | nil=>cases he
  | cons q l =>
   simp only [List.map_cons,List.cons.injEq] at he
   have hn':=(List.nodup_cons.mp hn).2
   rw [key _ hn]
   simp only [mm]
   rw [<- he.1]
   by_cases hp:p.1=k
   · rw [if_pos hp,if_pos hp]
     refine ⟨by simp [he.2],fun K F rd rs=>?_⟩
     simp only [List.map_cons,Reps] at rs ⊢
     obtain ⟨w,ws,hw,r1,r2⟩:=rs
     cases hw
     exact ⟨_,_,rfl,rd,r2⟩
   · rw [if_neg hp,if_neg hp]
     obtain ⟨i1,i2⟩:=ih l d hn' he.2
     refine ⟨by simp [he.1,i1],fun K F rd rs=>?_⟩
     simp only [List.map_cons,Reps] at rs ⊢
     obtain ⟨w,ws,hw,r1,r2⟩:=rs
     cases hw
     exact ⟨_,_,rfl,r1,i2 K F rd r2⟩
def PS.or {X:Cx} {e:Stmt} {t t':TS} (h:PS X e t) (h':PS X e t'):PS X e (fun σ H Q=>t σ H Q∨t' σ H Q):=fun pins s σ H Q I q=>q.elim (h pins s σ H Q I) (h' pins s σ H Q I)
def En.ownD {Φ:Fm} {δ:De} {σ:St} {F H:Hp} (en:En Φ δ σ F H) {l:List (Key×Dt)} (h:δ[i]?=some (some (.dct l))):∃ a kvs,σ[i]?=some (some (.ref a))/\H a=some (.dK kvs)/\kvs.map (·.1)=l.map (·.1)/\Reps Φ.K F (l.map (·.2)) (kvs.map (·.2)):=by
 obtain ⟨v,hv⟩:=en.has i _ h
 obtain ⟨S,s⟩:=en.sep
 obtain ⟨a,vs,rfl,_,h1,h2,h3⟩:=s.own i _ v (b9 h hv)
 exact ⟨a,vs,hv,h1,h2,h3⟩
def r6 {k:Nat} {ox ik:Expr} (hr:Room k X.A) (hx:PE X ox (jm i)) (hk:DB X ik fk) (he:DL X e fe)
  (hs:swapsWith e (some (.Subscript ox ik apos)) pos.line X.env=pure false:=by rfl)
  (hs1:swapsWithSole [.Subscript ox ik apos] e pos.line X.env=pure false:=by rfl) (hw:swappedStores [.Subscript ox ik apos] e X.env=pure none:=by rfl)
  (h1:(assignEach [.Subscript ox ik apos] X.env).map (·.2)=[assign (.Subscript ox ik apos) X.env]:=by rfl)
  (ha:∀ v,assign (.Subscript ox ik apos) X.env v=(do
   let ov <- holding [v] (eval ox X.env)
   let iv <- holding [v,ov] (eval ik X.env)
   standAt apos
   holding [v,ov,iv] (setItem ov iv v)
   release [v,ov,iv] []):=by intro _;rfl):DS1 X (.Assign [.Subscript ox ik apos] e pos) (rZ i fk fe):=
 PS.mono (PS.or (nq he (qS hx hk lO ha) hs1 hw h1) (oR (jC hr) hx hk he hs)) fun D σ H ⟨Φ,δ,F,ot,hK,en,hg,k⟩=>by
  unfold rZ at hg
  obtain ⟨d,hd,hg⟩:=bS hg
  obtain ⟨kd,hkd,hg⟩:=bS hg
  split at hg<;>first | (cases hg;done) | skip
  · rename_i l hl
    obtain ⟨n,hn,hg⟩:=bS hg
    obtain ⟨j,hj,hg⟩:=mS hg
    cases hg
    refine .inl ⟨Φ,δ,F,d,hK,en,hd,fun v H1 F1 st rv=>?_⟩
    have en1:=en.step st
    obtain ⟨a,vs,hv,h1,h2⟩:=en1.ownL hl
    refine ⟨.ref a,hv,Φ,δ,F1,kd,hK,en1,hkd,fun w H2 F2 st2 rw'=>?_⟩
    have en2:=en1.step st2
    refine ⟨a,vs,n,j,rfl,iP hn rw',st2.hh _ _ h1,by rw [h2.length];exact hj,?_⟩
    exact k σ F2 _ (en2.poke hl hv (fun d z=>nomatch z) fun S sa=>⟨a,_,rfl,sa,aI,Reps.set (hK▸rv.same st2.ff) j (h2.same st2.ff)⟩)
  · rename_i l hl
    obtain ⟨kk,hkk,hg⟩:=bS hg
    split at hg<;>first | (cases hg;done) | skip
    rename_i hc
    cases hg
    refine .inr ⟨Φ,δ,F,d,hK,en,hd,fun v H1 F1 st rv=>?_⟩
    have en1:=en.step st
    obtain ⟨a,kvs,hv,h1,h2,h3⟩:=en1.ownD hl
    refine ⟨.ref a,hv,Φ,δ,F1,kd,hK,en1,hkd,fun w H2 F2 st2 rw'=>?_⟩
    have en2:=en1.step st2
    have:=eJ rw' hkk
    subst this
    have hlen:kvs.length=l.length:=by simpa using congrArg List.length h2
    refine ⟨a,_,rfl,.inl ⟨kvs,kk,st2.hh _ _ h1,rfl,by rw [hlen];exact hc.1,rfl⟩,?_⟩
    obtain ⟨p1,p2⟩:=uL kk v kvs l d (by rw [h2];exact hc.2) h2
    exact k σ F2 _ (en2.poke hl hv (fun d z=>nomatch z) fun S sa=>⟨a,_,rfl,sa,aI,p1,p2 _ _ (hK▸rv.same st2.ff) (h3.same st2.ff)⟩)
end
section
variable {prog:Program} {w:World} {A:Around} {E:Value->Shared->Prop} {s:Shared} {I t:Addr} {j:Nat} {vs:Array Value}
def nT {y:Value} {Q:Value->Shared->Prop} (hI:s.heap.IsTupleIter I t j) (hv:s.heap.IsTuple t vs) (hy:vs[j]?=some y)
  (q:∀ h',h'.IsTupleIter I t (j+1)->Heap.SameBut I s.heap h'->Q y {s with heap:=h'}):wpAny (model prog w) A (Builtin.SmallTypes.nextOf (.ref I)) Q E s:=by
 obtain ⟨oi,hoi,hci,hdi⟩:=id hI
 obtain ⟨ot,hot,_,nt,hdt⟩:=hv
 unfold Builtin.SmallTypes.nextOf
 refine wB (wpAny_callSpecial?_slot (name:=Str.ofString "__next__") hI.typeIs F.slot_tuple_iterator_next (wpAny_call_entry F.slot_tuple_iterator_next hI.typeIs F.entry_tuple_iterator_next ?_ (F.args_tuple_iterator_next_1 _)))
 show wpAny _ _ (field (.ref I) 0 >>= _) _ _ s
 refine wB (wpAny_field hoi hdi (x:=.ref t) rfl ?_)
 show wpAny _ _ (if (Value.ref t==Value.none)=true then _ else _) _ _ s
 rw [if_neg (show ¬ (Value.ref t==Value.none)=true by exact Bool.false_ne_true)]
 show wpAny _ _ (field (.ref I) 1 >>= _) _ _ s
 refine wB (wpAny_field hoi hdi (x:=.int j 0) rfl ?_)
 show wpAny _ _ (seqItems? (.ref t) >>= _) _ _ s
 refine wB (wpAny_seqItems hot hdt ?_)
 simp only [Int.toNat_natCast,hy]
 refine wpAny_bind (wpAny_setField hoi hdi (by simp) (wpAny_pure ⟨y,rfl,wpAny_pure (q _ ?_ (Heap.SameBut.update ..))⟩))
 exact ⟨_,Heap.get?_update_self _ hoi (Obj.isFreed_of_fields (Obj.data_mapFields hdi _)),(Obj.cls_mapFields ..).trans hci,by rw [Obj.data_mapFields hdi];simp [rawInt]⟩
def ql {Q:Value->Shared->Prop} (hh:A.handled=none) (hI:s.heap.IsTupleIter I t j) (hv:s.heap.IsTuple t vs) (hy:vs[j]?=none)
  (q:∀ h' e,Heap.ExtBut I s.heap h'->(∃ o,h'.get? e=some o/\o.cls=.type "StopIteration")->E (.ref e) {s with heap:=h'}):wpAny (model prog w) A (Builtin.SmallTypes.nextOf (.ref I)) Q E s:=by
 obtain ⟨oi,hoi,hci,hdi⟩:=id hI
 obtain ⟨ot,hot,_,nt,hdt⟩:=hv
 unfold Builtin.SmallTypes.nextOf
 refine wB (wpAny_callSpecial?_slot (name:=Str.ofString "__next__") hI.typeIs F.slot_tuple_iterator_next (wpAny_call_entry F.slot_tuple_iterator_next hI.typeIs F.entry_tuple_iterator_next ?_ (F.args_tuple_iterator_next_1 _)))
 show wpAny _ _ (field (.ref I) 0 >>= _) _ _ s
 refine wB (wpAny_field hoi hdi (x:=.ref t) rfl ?_)
 show wpAny _ _ (if (Value.ref t==Value.none)=true then _ else _) _ _ s
 rw [if_neg (show ¬ (Value.ref t==Value.none)=true by exact Bool.false_ne_true)]
 show wpAny _ _ (field (.ref I) 1 >>= _) _ _ s
 refine wB (wpAny_field hoi hdi (x:=.int j 0) rfl ?_)
 show wpAny _ _ (seqItems? (.ref t) >>= _) _ _ s
 refine wB (wpAny_seqItems hot hdt ?_)
 simp only [Int.toNat_natCast,hy]
 refine wpAny_bind (wpAny_rule (wpAny_bind (wpAny_setField hoi hdi (by simp) ?_)))
 show wpAny _ _ (newExc (.type "StopIteration") [] >>= _) _ _ _
 refine wB ?_
 simp only [newExc,newTuple]
 refine wB (wpAny_newObj_type ?_ (by first | size_fits | decide))
 refine wpAny_bind (m:=firstArgMember _ _) (wpAny_of_eq (a:=Value.none) (by first | rfl | (simp only [firstArgMember]<;>rfl)) ?_)
 refine wpAny_newObj_type ?_ (by first | size_fits | decide)
 simp only [raiseNew]
 refine wB (wpAny_handled ?_)
 first | rw [hh] | rw [show A.in1.handled=none by exact hh]
 refine wB (wpAny_pure (wpAny_throw ?_))
 exact q _ _ (((Heap.SameBut.update ..).extBut.push _).push _) ⟨_,Heap.get?_push_size _ rfl,rfl⟩
end
def mn {prog:Program} {w:World} {A:Around} (hh:A.handled=none) (I t:Addr) (hne:t≠I) (vs:Array Value):Draws prog w A I [I,t] vs.size (fun i v=>vs[i]?=some v) (fun i h=>h.IsTupleIter I t i/\h.IsTuple t vs) where
 live:=fun _ _ st=>let ⟨o,ho,_⟩:=st.1;⟨o,ho⟩
 frame:=fun _ _ _ st hk=>⟨let ⟨o,ho,r⟩:=st.1;⟨o,hk I (by simp) o ho,r⟩,let ⟨o,ho,r⟩:=st.2;⟨o,hk t (by simp) o ho,r⟩⟩
 item:=fun i s Q E hi st hQ=>nT st.1 st.2 (y:=vs[i]) (by simp [hi]) fun h' a b=>hQ _ h' s.toks (by simp [hi]) ⟨a,let ⟨o,ho,r⟩:=st.2;⟨o,b.extBut _ _ hne ho,r⟩⟩ b
 done:=fun s Q E st hE=>ql hh st.1 st.2 (by simp) hE
def SqB (b:Bool) (K:PySem.W.Frag) (H:Hp) (a:Addr) (xs:List V):Prop:=match b with
 | true=>SqL K H a xs
 | false=>SqT K H a xs
def ItB (b:Bool) (h:Heap) (I a:Addr) (i:Nat):Prop:=match b with
 | true=>h.IsListIter I a i
 | false=>h.IsTupleIter I a i
def CoB (b:Bool) (h:Heap) (a:Addr) (vs:Array Value):Prop:=match b with
 | true=>h.IsList a vs
 | false=>h.IsTuple a vs
def ItB.obj {b:Bool} {h:Heap} {I a:Addr} {i:Nat} (x:ItB b h I a i):∃ o,h.get? I=some o/\(o.cls=.type "list_iterator"∨o.cls=.type "tuple_iterator")/\∀ v,o.data≠.cell v:=by
 cases b with
 | true=>obtain ⟨o,e,c,d⟩:=x;exact ⟨o,e,.inl c,fun v z=>by rw [d] at z;cases z⟩
 | false=>obtain ⟨o,e,c,d⟩:=x;exact ⟨o,e,.inr c,fun v z=>by rw [d] at z;cases z⟩
def ItB.at {b:Bool} {h h':Heap} {I a:Addr} {i:Nat} (x:ItB b h I a i) (k:∀ o,h.get? I=some o->h'.get? I=some o):ItB b h' I a i:=by
 cases b with
 | true=>obtain ⟨o,e,r⟩:=x;exact ⟨o,k o e,r⟩
 | false=>obtain ⟨o,e,r⟩:=x;exact ⟨o,k o e,r⟩
def CoB.obj {b:Bool} {h:Heap} {a:Addr} {vs:Array Value} (x:CoB b h a vs):∃ o,h.get? a=some o/\(o.cls=.type "list"∨o.cls=.type "tuple"):=by
 cases b with
 | true=>obtain ⟨o,e,c,_⟩:=x;exact ⟨o,e,.inl c⟩
 | false=>obtain ⟨o,e,c,_⟩:=x;exact ⟨o,e,.inr c⟩
def wg {x y:String} (h:x≠y):Value.type x≠Value.type y:=fun z=>h (by cases z;rfl)
def r8 {b c:Bool} {h:Heap} {I a l:Addr} {i:Nat} {vs:Array Value} (x:ItB b h I a i) (y:CoB c h l vs):l≠I:=by
 obtain ⟨o,e1,c1,_⟩:=x.obj
 obtain ⟨o',e2,c2⟩:=y.obj
 rintro rfl
 rw [e1] at e2
 cases e2
 rcases c1 with c1 | c1<;>rcases c2 with c2 | c2<;>rw [c1] at c2<;>exact absurd c2 (wg (by decide))
section
variable {X:Cx} {pins:List (Addr×Obj)} {σ:St} {H:Hp} {s:Shared} {a I:Addr} {xs:List V} {b:Bool}
def Inv.seqB (J:Inv X pins σ H s) (h:SqB b X.K H a xs):∃ its:List Value,Vals xs its/\CoB b s.heap a its.toArray:=by
 cases b with
 | true=>obtain ⟨its,r,p,_⟩:=J.list h;exact ⟨its,r,p.isList⟩
 | false=>obtain ⟨its,r,p,_⟩:=J.tuple h;exact ⟨its,r,p⟩
def Inv.seqB_inj {ys:List V} (J:Inv X pins σ H s) (h:SqB b X.K H a xs) (h':SqB b X.K H a ys):xs=ys:=by
 cases b with
 | true=>exact J.list_inj h h'
 | false=>exact J.tuple_inj h h'
def r9 {prog:Program} {w:World} {A:Around} (hh:A.handled=none) (hne:a≠I) (vs:Array Value):Draws prog w A I [I,a] vs.size (fun i v=>vs[i]?=some v) (fun i h=>ItB b h I a i/\CoB b h a vs):=by
 cases b with
 | true=>exact Draws.list hh I a hne vs
 | false=>exact mn hh I a hne vs
def Inv.turnedL {h':Heap} {t':Nat} {fp:List Addr} (J:Inv X pins σ H s) (k:∀ b o,b∉fp->s.heap.get? b=some o->h'.get? b=some o) (hf:∀ b∈fp,e9 X pins H b):Inv X pins σ H {s with heap:=h',toks:=t'}:=by
 have nit:∀ b u,H b=some u->b∉fp:=fun b u e z=>by rw [(hf b z).1] at e;cases e
 refine J.step (g':=s.gens) (d':=s.drawn) (ch:=fp) (fun b hb=>?_) (fun b o _ _ hc e _=>k b o hc e) (fun b o _ _ hc e _=>⟨o.slots,k b o hc e⟩) (fun _ _ _ _ n=>n)
  (fun b o hc e=>⟨o,k b o hc e⟩) (fun _ _ e=>e) (fun _ _ _ e=>e) (fun b ps e=>⟨#[],by rw [e];simp⟩) (fun m hm=>?_) (fun b u e=>?_) J.bare
 · exact ⟨(hf b hb).2.2.2.1,(hf b hb).2.1,(hf b hb).2.2.2.2.1,(hf b hb).2.2.2.2.2⟩
 · obtain ⟨o,es,ep,ho,r⟩:=hm
   exact ⟨o,es,ep,k _ o (fun z=>(hf _ z).2.1 rfl) ho,r⟩
 · refine (J.hok b u e).stay (fun c v hc q=>k c v ?_ q) (fun _ q=>q) fun _ _ q=>q
   rcases hc with z | z
   · rw [z];exact nit b u e
   · exact nit c _ z
end
section
variable {X:Cx} {pins:List (Addr×Obj)} {σ:St} {H:Hp} {s:Shared}
def Inv.turnedT {h':Heap} {t':Nat} {fp:List Addr} {t:Addr} {u:HO} (J:Inv X pins σ H s) (k:∀ b o,b∉fp->s.heap.get? b=some o->h'.get? b=some o) (hf:∀ b∈fp,e9 X pins H b) (ht:s.heap.objs.size<=t) (new:ObjOk X.prog X.w (upd H t u) h' t u) :
  Inv X pins σ (upd H t u) {s with heap:=h',toks:=t'}:=by
 have nit:∀ b u,H b=some u->b∉fp:=fun b u e z=>by rw [(hf b z).1] at e;cases e
 have hn:H t=none:=J.hok.fresh ht
 have net:∀ b v,H b=some v->b≠t:=fun b v e=>bE e hn
 have nlt:∀ b o,s.heap.get? b=some o->b≠t:=fun b o e z=>by subst z;exact absurd (Heap.lt_size e) (Nat.not_lt.mpr ht)
 refine J.step (g':=s.gens) (d':=s.drawn) (ch:=fp) (fun b hb=>?_) (fun b o _ _ hc e _=>k b o hc e) (fun b o _ _ hc e _=>⟨o.slots,k b o hc e⟩) (fun b o _ e n=>by rw [aJ (nlt b o e)];exact n)
  (fun b o hc e=>⟨o,k b o hc e⟩) (fun b xs e=>by rw [aJ (net b _ e)];exact e) (fun b o v e=>by rw [aJ (net b _ e)];exact e) (fun b ps e=>⟨#[],by rw [aJ (net b _ e),e];simp⟩) (fun m hm=>?_) (fun b v e=>?_) J.bare
 · exact ⟨(hf b hb).2.2.2.1,(hf b hb).2.1,(hf b hb).2.2.2.2.1,(hf b hb).2.2.2.2.2⟩
 · obtain ⟨o,es,ep,ho,r⟩:=hm
   exact ⟨o,es,ep,k _ o (fun z=>(hf _ z).2.1 rfl) ho,r⟩
 · by_cases hb:b=t
   · subst hb
     rw [aI] at e
     cases e
     exact new
   · rw [aJ hb] at e
     refine (J.hok b v e).stay (fun c ob hc q=>k c ob ?_ q) (fun c q=>by rw [aJ (net c _ q)];exact q) fun c ys q=>by rw [aJ (net c _ q)];exact q
     rcases hc with z | z
     · rw [z];exact nit b v e
     · exact nit c _ z
end
noncomputable def Ite (b:Bool) (K:PySem.W.Frag) (a:Addr):It:=
 ⟨fun i H=>∃ xs x,SqB b K H a xs/\xs[i]?=some x,fun i H x H'=>∃ t v,H t=none/\x=.ref t/\H'=upd H t (.tup [.int i,v])/\∀ xs,SqB b K H a xs->xs[i]?=some v,fun i H=>∃ xs,SqB b K H a xs/\xs.length=i⟩
def qm {P:Program} {w:World} {K:PySem.W.Frag} {elts:List Expr} {n:Nat} {pos:Pos} (b:Bool) (a e I:Addr) (hne:e≠I) :
  Turn P w K (.Tuple elts n pos) (Ite b K a) [e,I] e (fun i h=>(∃ old,IsEnum h e I i old)/\ItB b h I a i) where
 mem:=by simp
 obj:=fun i h st c hc=>by
  obtain ⟨⟨old,st1⟩,st2⟩:=st
  simp only [List.mem_cons,List.not_mem_nil,or_false] at hc
  rcases hc with rfl | rfl
  · exact ⟨_,st1,fun v z=>nomatch z⟩
  · obtain ⟨o,q,_,d⟩:=st2.obj
    exact ⟨o,q,d⟩
 keep:=fun i h h' st k=>by
  obtain ⟨⟨old,st1⟩,st2⟩:=st
  exact ⟨⟨old,k e (by simp) _ st1⟩,st2.at fun o q=>k I (by simp) o q⟩
 item:=by
  intro X hP hw hK hc i pins s σ H E J hf st hg
  subst hP hw hK
  obtain ⟨⟨old,st1⟩,st2⟩:=st
  obtain ⟨xs,x,hq,hx⟩:=hg
  obtain ⟨its,rv,co⟩:=J.seqB hq
  obtain ⟨u,hu,ru⟩:=rv.get hx
  have hi:i<its.toArray.size:=by simpa using (gX hu).1
  have hae:e∉[I,a]:=by
   simp only [List.mem_cons,List.not_mem_nil,or_false,not_or]
   refine ⟨hne,fun z=>?_⟩
   obtain ⟨o,q,c⟩:=co.obj
   rw [<- z,st1] at q
   cases q
   rcases c with c | c<;>exact absurd c (wg (by decide))
  refine wpAny_pyNext_enum_itemD (r9 (A:=X.A.in1) (b:=b) (I:=I) (a:=a) (show X.A.in1.handled=none from J.ok.hd hc) (r8 st2 co) its.toArray) st1 ⟨st2,co⟩ hi hne hae fun y h1 tk hy ho hs1 hT hsz hk=>⟨_,rfl,?_⟩
  have ey:y=u:=by
   rw [show its.toArray[i]?=its[i]? by simp,hu] at hy
   exact (Option.some.inj hy).symm
  subst ey
  refine wpAny_letOwnedTupleGo_enum ho fun h2 he2 sb2=>?_
  have kk:∀ c o,c∉[e,I]->s.heap.get? c=some o->h2.get? c=some o:=fun c o hc' q=>by
   simp only [List.mem_cons,List.not_mem_nil,or_false,not_or] at hc'
   exact (sb2.2 c hc'.1).trans (hk c o hc'.1 hc'.2 q)
  have lt:∀ c∈[e,I],c<s.heap.objs.size:=fun c hc'=>by
   simp only [List.mem_cons,List.not_mem_nil,or_false] at hc'
   rcases hc' with rfl | rfl
   · exact Heap.lt_size st1
   · obtain ⟨o,q,_⟩:=st2.obj
     exact Heap.lt_size q
  -- first the records,then the pair
  have hT2:h2.get? s.heap.objs.size=some {cls:=.type "tuple",data:=.seq #[.int i tk,y]}:=(sb2.2 _ (fun z=>Nat.lt_irrefl _ (z▸lt e (by simp)))).trans hT
  have J2:Inv X pins σ (upd H s.heap.objs.size (.tup [.int i,x])) {s with heap:=h2,toks:=tk+1}:=by
   refine J.turnedT kk hf (nL _) ⟨by show 2<=sizeLine;decide,[.int i tk,y],.cons ⟨_,rfl⟩ (.cons ru .nil),?_⟩
   exact ⟨_,hT2,rfl,_,rfl⟩
  refine ⟨.ref s.heap.objs.size,_,J2,rfl,⟨_,x,J.hok.fresh (Nat.le_refl _),rfl,rfl,fun ys hy=>by rw [J.seqB_inj hy hq];exact hx⟩,⟨⟨_,by simpa using he2⟩,hs1.1.at fun o q=>(sb2.2 I (Ne.symm hne)).trans q⟩,fun c hc'=>?_⟩
  rw [aJ (Nat.ne_of_lt (lt c hc'))]
  exact (hf c hc').1
 done:=by
  intro X hP hw hK hc i pins s σ H E J hf st hg
  subst hP hw hK
  obtain ⟨⟨old,st1⟩,st2⟩:=st
  obtain ⟨xs,hq,hx⟩:=hg
  obtain ⟨its,rv,co⟩:=J.seqB hq
  have hi:i=its.toArray.size:=by rw [<- hx];simpa using rv.length
  refine wpAny_pyNext_enum_endD (r9 (A:=X.A.in1) (b:=b) (I:=I) (a:=a) (show X.A.in1.handled=none from J.ok.hd hc) (r8 st2 co) its.toArray) st1 (show ItB b s.heap I a its.toArray.size/\CoB b s.heap a its.toArray from ⟨hi▸st2,co⟩) fun h' eb=>⟨rfl,?_⟩
  exact J.turnedL (t':=s.toks) (fun c o hc' q=>eb c o (fun z=>hc' (by simp [z])) q) hf
 self:=fun A i s Q E st h=>by
  obtain ⟨⟨old,st1⟩,st2⟩:=st
  exact wpAny_pyIter_enum st1 h
def mo (t:Addr) (vs:Array Value) (n:Nat) (dd:Option Addr) (sl:Array (Option Value)) :
  Meets (Builtin.«enumerate.__new__» ⟨[.type "enumerate",.ref t],[]⟩) (fun _ R s=>s.heap.get? t=some {cls:=.type "tuple",dict:=dd,data:=.seq vs n,slots:=sl}∧
   R (.ok (.ret (.ref (s.heap.push {cls:=.type "tuple_iterator",data:=.fields #[.ref t,.int 0 0]}).objs.size)))
    {s with heap:=(s.heap.push {cls:=.type "tuple_iterator",data:=.fields #[.ref t,.int 0 0]}).push {cls:=.type "enumerate",data:=.fields #[.none,.bool false,.ref s.heap.objs.size,rawInt 0,.none,.none]}}):=
 .of_wp fun prog w A R s h=>by
  obtain ⟨hp,g,d,tk,os⟩:=s
  obtain ⟨ht,h⟩:=h
  have hsub:=sub_enumerate
  have hT:Heap.IsTuple (Shared.heap ⟨hp,g,d,tk,os⟩) t vs:=⟨_,ht,rfl,n,rfl⟩
  wp_walk using AutoSeq1.wpAny_loadPart' ht
  refine wpAny_stack_any fun st=>wpAny_pure ?_
  split
  · rename_i c _ _ _ _ _
    cases (c==Value.type "enumerate")<;>(wp_walk using AutoSeq1.wpAny_loadPart' ht,wpAny_pyIter_tuple hT)<;>exact ⟨_,rfl,h⟩
  · (wp_walk using AutoSeq1.wpAny_loadPart' ht,wpAny_pyIter_tuple hT)<;>exact ⟨_,rfl,h⟩
section
variable {prog:Program} {w:World} {A:Around} {E:Value->Shared->Prop} {s:Shared}
def nU {t:Addr} {vs:Array Value} {Q:Value->Shared->Prop} (hT:s.heap.IsTuple t vs)
  (h:∀ h',IsEnum h' (s.heap.objs.size+1) s.heap.objs.size 0 .none->h'.IsTupleIter s.heap.objs.size t 0->h'.objs.size=s.heap.objs.size+2→
   (∀ c u,s.heap.get? c=some u->h'.get? c=some u)->Q (.ref (s.heap.objs.size+1)) {s with heap:=h'}) :
  wpAny (model prog w) A (call (.type "enumerate") [.ref t]) Q E s:=by
 obtain ⟨⟨c,dct,dt,sl⟩,hl,hc,n,hd⟩:=hT
 have hc:c=.type "tuple":=hc
 have hd:dt=.seq vs n:=hd
 subst hc hd
 refine callType_new F.called_enumerate (by decide) (F.typeCall_enumerate_1 _) (F.newCall_enumerate_1 _) (fun obj=>F.args_object_init_2 obj _) F.entry_enumerate_new (mo t vs n dct sl) ⟨hl,?_⟩
 have hz:(s.heap.push {cls:=.type "tuple_iterator",data:=.fields #[.ref t,.int 0 0]}).objs.size=s.heap.objs.size+1:=Heap.size_push ..
 have hz2:((s.heap.push {cls:=.type "tuple_iterator",data:=.fields #[.ref t,.int 0 0]}).push {cls:=.type "enumerate",data:=.fields #[.none,.bool false,.ref s.heap.objs.size,rawInt 0,.none,.none]}).objs.size=s.heap.objs.size+2:=by rw [Heap.size_push,hz]
 rw [hz]
 have hen:=Heap.get?_push_size (s.heap.push {cls:=.type "tuple_iterator",data:=.fields #[.ref t,.int 0 0]}) (o:={cls:=.type "enumerate",data:=.fields #[.none,.bool false,.ref s.heap.objs.size,rawInt 0,.none,.none]}) rfl
 rw [hz] at hen
 exact ⟨⟨_,hen,rfl⟩,h _ hen ⟨_,gP _ (Heap.get?_push_size _ rfl),rfl,rfl⟩ hz2 fun c u z=>gP _ (gP _ z)⟩
def nV {b:Bool} {t:Addr} {vs:Array Value} {Q:Value->Shared->Prop} (hT:CoB b s.heap t vs)
  (h:∀ h',IsEnum h' (s.heap.objs.size+1) s.heap.objs.size 0 .none->ItB b h' s.heap.objs.size t 0->h'.objs.size=s.heap.objs.size+2→
   (∀ c u,s.heap.get? c=some u->h'.get? c=some u)->Q (.ref (s.heap.objs.size+1)) {s with heap:=h'}) :
  wpAny (model prog w) A (call (.type "enumerate") [.ref t]) Q E s:=by
 cases b with
 | true=>exact call_enumerate_list hT h
 | false=>exact nU hT h
end
section
variable {X:Cx} {x:Expr} {p pos tpos:Pos} {sc:Scope} {fs:De->Option (List Dt)} {elts:List Expr} {n:Nat}
def zT (K:PySem.W.Frag) (ta:TA):TI:=fun σ H R=>ta σ H fun vs H1=>∃ b a xs,vs=[.ref a]/\SqB b K H1 a xs/\R (Ite b K a) H1
def uM {ta:TA} (h:aH sc "enumerate"=true) (hm:X.mg "enumerate"=none) (ha:PA X [x] ta) (e1:bM X sc:=by rfl) (hs:starEach [x] X.env=[(false,eval x X.env)]:=by rfl) :
  PI X (.Tuple elts n tpos) (.Call (.Name "enumerate" p) [x] [] pos) (zT X.K ta):=by
 intro pins s σ H R I h'
 refine Call_ (gx I (glD h e1) hm kG (PyProof.Rows.callWith_type1 (thn (ha pos pins s σ H _ I h') fun us s1 ⟨vs,H1,I1,r1,q1⟩=>?_) hs rfl))
 obtain ⟨b,a,xs,rfl,hq,q⟩:=q1
 obtain ⟨u,rfl,ru⟩:=g0 r1
 cases ru
 obtain ⟨its,rv,co⟩:=I1.seqB hq
 refine nV co fun h2 he hi hz hk=>wpAny_pyIter_enum he ?_
 have I2:Inv X pins σ H1 {s1 with heap:=h2}:=I1.kept (t':=s1.toks) hk
 refine ⟨s1.heap.objs.size+1,[s1.heap.objs.size+1,s1.heap.objs.size],_,_,H1,rfl,I2,qm b a _ _ (Nat.ne_of_gt (Nat.lt_succ_self _)),⟨⟨_,he⟩,hi⟩,fun c hc=>?_,q⟩
 have hge:s1.heap.objs.size<=c:=by
  simp only [List.mem_cons,List.not_mem_nil,or_false] at hc
  rcases hc with rfl | rfl
  · exact Nat.le_succ _
  · exact nL _
 exact I1.fpOk hge (I1.hok.fresh hge)
def cZ (i:Nat):List Dt->List Dt
 | []=>[]
 | d::r=>.tup [.int i,d]::cZ (i+1) r
def jT:∀ (l:List Dt) (i:Nat),(cZ i l).length=l.length
 | [],_=>rfl
 | _::r,i=>by simp [cZ,jT r]
def jU:∀ (l:List Dt) (i k:Nat),(cZ i l)[k]?=l[k]?.map fun d=>.tup [.int ((i+k:Nat):Int),d]
 | [],i,k=>by simp [cZ]
 | d::r,i,0=>by simp [cZ]
 | d::r,i,k+1=>by simp [cZ,jU r,Nat.add_assoc,Nat.add_comm 1]
def pe:List Dt->Option (List Dt)
 | [.lst l]=>some (cZ 0 l)
 | [.tup l]=>some (cZ 0 l)
 | _=>none
def se {K:PySem.W.Frag} {F:Hp} {d e:Dt} {v w:V} {t:Addr} (h:F t=some (.tup [v,w])) (r:Rep K F d v) (r':Rep K F e w):Rep K F (.tup [d,e]) (.ref t):=by
 simp only [Rep,Reps]
 exact ⟨t,_,rfl,SqT.of h,v,[w],rfl,r,w,[],rfl,r',rfl⟩
def jV {K:PySem.W.Frag} {F:Hp} {b:Bool} {a:Addr} {xs:List V} {l:List Dt} (r:Reps K F l xs):o9 K F (Ite b K a) (cZ 0 l) (fun H=>SqB b K H a xs):=fun i H F2 hok fh ff=>by
 have hl:=r.length
 rw [jT]
 refine ⟨fun h=>⟨xs,xs[i],hok,by simp [show i<xs.length by omega]⟩,fun h=>⟨xs,hok,by omega⟩,fun x H' hi hy=>?_⟩
 obtain ⟨t,v,ht,rfl,rfl,hv⟩:=hy
 have hx:=hv xs hok
 obtain ⟨d,hd,rd⟩:=r.same_get hx
 refine ⟨_,upd F2 t (.tup [.int i,v]),?_,Step.new fh ht,se aI fQ ((rd.same ff).same (Same.upd (fh.free ht)))⟩
 rw [jU,hd]
 simp
def kY (h:aH sc "enumerate"=true) (hm:X.mg "enumerate"=none) (ha:DA X [x] fs) (e1:bM X sc:=by rfl) (hs:starEach [x] X.env=[(false,eval x X.env)]:=by rfl) :
  DIF X (.Tuple elts n tpos) (.Call (.Name "enumerate" p) [x] [] pos) (dj pe fs):=PI.mono (uM h hm ha.pa e1 hs) fun σ H R ⟨Φ,δ,F,ds,hK,en,hf,k⟩=>by
 unfold dj at hf
 obtain ⟨as,hd,hf⟩:=bS hf
 refine ⟨Φ,δ,F,as,hK,en,hd,fun vs H' F' st r=>?_⟩
 unfold pe at hf
 split at hf<;>first | (cases hf;done) | skip
 · cases hf
   simp only [Reps,Rep] at r
   obtain ⟨v,ws,rfl,⟨a,xs,rfl,h1,h2⟩,rfl⟩:=r
   exact ⟨true,a,xs,rfl,st.fh.seq h1,k _ _ H' F' st (jV (b:=true) h2) fun H2 s=>s.seq h1⟩
 · cases hf
   simp only [Reps,Rep] at r
   obtain ⟨v,ws,rfl,⟨a,xs,rfl,h1,h2⟩,rfl⟩:=r
   exact ⟨false,a,xs,rfl,st.fh.tup h1,k _ _ H' F' st (jV (b:=false) h2) fun H2 s=>s.tup h1⟩
end
section
variable {prog:Program} {w:World} {A:Around} {E:Value->Shared->Prop} {s:Shared} {z ti tO i1 i2:Addr} {fp1 fp2:List Addr} {n1 n2 k:Nat} {P1 P2:Nat->Value->Prop} {S1 S2:Nat->Heap->Prop} {va vb:Value}
end
section
variable {prog:Program} {w:World} {A:Around} {E:Value->Shared->Prop} {s:Shared}
end
section
variable {X:Cx} {pins:List (Addr×Obj)} {σ:St} {H:Hp} {s:Shared} {a:Addr} {xs ys:List V} {b c:Bool}
end
section
variable {X:Cx} {x y:Expr} {p pos tpos:Pos} {sc:Scope} {fs:De->Option (List Dt)} {elts:List Expr} {n:Nat}
end
section
variable {X:Cx} {o a b e c:Expr} {es:List Expr} {fa fb fo fe:De->Option Dt} {fs:De->Option (List Dt)} {pos apos cpos p:Pos} {i:Nat}
end
def mq {K:PySem.W.Frag} {F F':Hp} {d:Dt} {v:V} (r:Rep K F d v) (h:bD d=true):Rep K F' d v:=by
 cases d<;>first | (cases h;done) | (simp only [Rep] at r ⊢;exact r)
section
variable {X:Cx} {e:Expr} {es:List Expr} {fs:De->Option (List Dt)} {pos p:Pos} {x:Str} {sc:Scope}
end
noncomputable def uN (P:Program) (w:World) (K:PySem.W.Frag) (mg:Str->Option Value) (x:Str) (ks:List Key) (l:List Dt):Prop:=
 ∃ (a:Addr) (kvs:List (Key×V)) (vs:List (Key×Value)),mg x=some (.ref a)/\(a==sysModules)=false/\kvs.map (·.1)=ks/\(∀ F,Reps K F l (kvs.map (·.2)))/\KV kvs vs/\∀ h:Heap,K.In h->h.DictOf (bj P w) a vs
def gSg (ks:List Key) (l:List Dt):Dt->Option T:=fun k=>(fV k).bind fun k=>(cp ks l k).map .leaf
def vSg (ks:List Key) (l:List Dt) (f:De->Option Dt):De->Option T:=fun δ=>(f δ).bind (gSg ks l)
def gSi (neg:Bool) (ks:List Key) (l:List Dt):Dt->Option Bool:=fun k=>(fV k).map fun k=>if neg then !(cp ks l k).isSome else (cp ks l k).isSome
def fSi (neg:Bool) (ks:List Key) (l:List Dt) (f:De->Option Dt):De->Option Bool:=fun δ=>(f δ).bind (gSi neg ks l)
section
variable {X:Cx} {b:Expr} {fb:De->Option Dt} {pos p:Pos} {x:Str} {sc:Scope} {ks:List Key} {l:List Dt}
def tSg (kvs:List (Key×V)) (ty:TE):TE:=fun σ H Q=>ty σ H fun y H1=>∃ k v,y=kV k/\cy kvs k=some v/\Q v H1
def tSi (neg:Bool) (kvs:List (Key×V)) (ty:TE):TE:=fun σ H Q=>ty σ H fun y H1=>∃ k,y=kV k/\Q (.bl (if neg then !(cy kvs k).isSome else (cy kvs k).isSome)) H1
def zU {a:Addr} {kvs:List (Key×V)} {vs:List (Key×Value)} {ty:TE} (h:aH sc x=true) (hg:X.mg x=some (.ref a)) (rel:KV kvs vs) (hD:∀ h:Heap,X.K.In h->h.DictOf (bj X.prog X.w) a vs) (hb:PE X b ty) (hn:p9 b) (e1:bM X sc:=by rfl) :
  PE X (.Subscript (.Name x p) b pos) (tSg kvs ty):=by
 intro pins s σ H Q I q
 have hx:PE X (.Name x p) (tC (.ref a)):=iH h ⟨_,hg,rfl⟩ e1
 refine oO PySem.F.slot_dict_getitem.lookup hn (thn (hx pins s σ H (fun y H1=>y=.ref a/\tSg kvs ty σ H1 Q) I ⟨rfl,q⟩) fun u s1 ⟨y0,H1,I1,rx,e0,q1⟩=>thn (hb pins s1 σ H1 _ I1 q1) fun iv s2 ⟨y,H2,I2,ry,k,v,ey,hv,q2⟩=>?_)
 subst e0 ey
 obtain rfl:u=Value.ref a:=rx
 have dd:=hD _ I2.kIn
 obtain ⟨w',hw,rw'⟩:=RelO.some_of (v:=v) (o:=valueAt vs k) (by rw [<- hv];exact rel.val k)
 exact ⟨dd.typeIs,wpAny_getItem_of (g5 ry) dd.mapOf hw ⟨v,H2,I2.tok _,rw',q2⟩⟩
def xO {a:Addr} {kvs:List (Key×V)} {vs:List (Key×Value)} {ty:TE} (h:aH sc x=true) (hg:X.mg x=some (.ref a)) (hs:(a==sysModules)=false) (rel:KV kvs vs) (hD:∀ h:Heap,X.K.In h->h.DictOf (bj X.prog X.w) a vs) (hb:PE X b ty) (e1:bM X sc:=by rfl) :
  PC X .NotIn b (.Name x p) (tSi true kvs ty):=by
 intro pins s σ H Q I q
 have hx:PE X (.Name x p) (tC (.ref a)):=iH h ⟨_,hg,rfl⟩ e1
 refine thn (hb pins s σ H _ I q) fun iv s1 ⟨y,H1,I1,ry,k,ey,q1⟩=>thn (hx pins s1 σ H1 (fun y H2=>y=.ref a/\Q (.bl (!(cy kvs k).isSome)) H2) I1 ⟨rfl,q1⟩) fun u s2 ⟨y0,H2,I2,rx,e0,q2⟩=>?_
 subst e0 ey
 obtain rfl:u=Value.ref a:=rx
 have dd:=hD _ I2.kIn
 refine wpAny_notIn_of (g5 ry) hs dd.mapOf ?_
 rw [<- (rel.val k).isSome_eq]
 exact ⟨.bl (!(cy kvs k).isSome),H2,I2.tok _,rfl,q2⟩
def zV (h:aH sc x=true) (hm:uN X.prog X.w X.K X.mg x ks l) (hb:DB X b fb) (e1:bM X sc:=by rfl) (hn:p9 b:=by exact fun _ _=>rfl):DO X (.Subscript (.Name x p) b pos) (vSg ks l fb):=by
 obtain ⟨a,kvs,vs,hg,hs,rfl,hR,rel,hD⟩:=hm
 refine PE.mono (zU h hg rel hD hb hn e1) fun σ H Q ⟨Φ,δ,F,t,hK,en,hf,k⟩=>?_
 unfold vSg at hf
 obtain ⟨y,hy,hf⟩:=bS hf
 obtain ⟨kk,hk,hf⟩:=bS hf
 obtain ⟨d,hd,hf⟩:=mS hf
 cases hf
 refine ⟨Φ,δ,F,y,hK,en,hy,fun v H1 F1 st rv=>?_⟩
 obtain ⟨w,hw,rw'⟩:=eI (hR F1) hd
 exact ⟨kk,w,eJ rv hk,hw,(k.step st).leaf.here st.fh rw'⟩
def zW {neg:Bool} {K:PySem.W.Frag} {kvs:List (Key×V)} (hR:∀ F,Reps K F l (kvs.map (·.2))) {σ:St} {H:Hp} {Q:Bool->Hp->Prop} (h:tTr K (fSi neg (kvs.map (·.1)) l fb) σ H Q):tSi neg kvs (tBd K fb) σ H (fun v H'=>∃ c,v=.bl c/\Q c H'):=by
 obtain ⟨Φ,δ,F,t,hK,en,hf,k⟩:=h
 unfold fSi at hf
 obtain ⟨y,hy,hf⟩:=bS hf
 obtain ⟨kk,hk,hf⟩:=mS hf
 subst hf
 refine ⟨Φ,δ,F,y,hK,en,hy,fun v H1 F1 st rv=>⟨kk,eJ rv hk,_,rfl,?_⟩⟩
 rw [<- kX (hR F1)]
 exact k H1 F1 st
def xP (h:aH sc x=true) (hm:uN X.prog X.w X.K X.mg x ks l) (hb:DB X b fb) (e1:bM X sc:=by rfl) (hk:behindInMarks .NotIn (.Name x p)=false:=by with_unfolding_all rfl):DT X (.Compare b [.NotIn] [.Name x p] pos) (fSi true ks l fb):=by
 obtain ⟨a,kvs,vs,hg,hs,rfl,hR,rel,hD⟩:=hm
 exact PT.mono (nn (xO h hg hs rel hD hb e1) hk) fun σ H Q q=>zW hR q
end
def sEnt (p:Params) (q:Str×Tok×V×Value):DictEntry:=⟨PyData.keyHash p q.1,.str q.1 q.2.1,q.2.2.2⟩
def uO {P:Program} {w:World} {K:PySem.W.Frag} {mg:Str->Option Value} {x:Str} {a:Addr} {o:Obj} {ep:Nat} {l:List Dt} (rs:List (Str×Tok×V×Value)) (hm:mg x=some (.ref a)) (hl:K.lookup a=some o) (hc:o.ExactDict) (hd:o.data=.dict (rs.map (sEnt w.params)).toArray ep)
  (hs:(a==sysModules)=false) (hn:(rs.map (·.1)).Nodup) (hv:∀ r∈rs,RelV r.2.2.1 r.2.2.2) (hR:∀ F,Reps K F l (rs.map (·.2.2.1))):uN P w K mg x (rs.map fun r=>.inr r.1) l:=by
 refine ⟨a,rs.map fun r=>(.inr r.1,r.2.2.1),rs.map fun r=>(.inr r.1,r.2.2.2),hm,hs,by rw [List.map_map];rfl,fun F=>by rw [List.map_map];exact hR F,?_,fun h X=>⟨o,_,ep,X a o hl,hc,hd,?_,?_,?_⟩⟩
 · clear hd hn hR
   induction rs with
   | nil=>exact .nil
   | cons r rs ih=>exact .cons ⟨rfl,hv r List.mem_cons_self⟩ (ih fun r hr=>hv r (List.mem_cons_of_mem _ hr))
 · intro e he
   obtain ⟨r,_,rfl⟩:=List.mem_map.mp (List.mem_toArray.mp he)
   exact ⟨.inr r.1,dQ P w r.1 r.2.1,rfl⟩
 · show Pairs (bj P w) (rs.map (sEnt w.params)) _
   clear hd hn hR hv
   induction rs with
   | nil=>exact .nil
   | cons r rs ih=>exact .cons (dQ P w r.1 r.2.1) rfl ih
 · rw [List.map_map]
   have:(rs.map ((fun x:Key×Value=>x.1) ∘ fun r=>((Sum.inr r.1:Key),r.2.2.2)))=(rs.map (·.1)).map Sum.inr:=by rw [List.map_map];rfl
   rw [this]
   exact List.Pairwise.map _ (fun a b h q=>h (Sum.inr.inj q)) hn
def cc {K:PySem.W.Frag} {a:Addr} {o:Obj} {its:Array Value} {n:Nat} {xs:List V} {ds:List Dt} (hl:K.lookup a=some o) (hc:o.cls=.type "tuple") (hd:o.data=.seq its n) (hr:Vals xs its.toList) (hz:xs.length<=sizeLine) {F:Hp} (hx:Reps K F ds xs):Rep K F (.tup ds) (.ref a):=by
 simp only [Rep]
 exact ⟨a,xs,rfl,.inr ⟨o,its,n,hl,hc,hd,by rw [<- Array.length_toList,<- hr.length];exact hz,hr⟩,hx⟩
def sf {K:PySem.W.Frag} {mg:Str->Option Value} {x:Str} {a:Addr} {o:Obj} {its:Array Value} {n:Nat} {xs:List V} {ds:List Dt} (hm:mg x=some (.ref a)) (hl:K.lookup a=some o) (hc:o.cls=.type "tuple") (hd:o.data=.seq its n) (hr:Vals xs its.toList) (hz:xs.length<=sizeLine) (hx:∀ F,Reps K F ds xs):rV K mg x (.tup ds):=
 ⟨.ref a,⟨_,hm,rfl⟩,fun F=>cc hl hc hd hr hz (hx F)⟩
inductive RepsI (K:PySem.W.Frag) (F:Hp):List Dt->List V->Prop
 | nil:RepsI K F [] []
 | cons {d:Dt} {v:V} {l:List Dt} {vs:List V}:Rep K F d v->RepsI K F l vs->RepsI K F (d::l) (v::vs)
def uP {K:PySem.W.Frag} {F:Hp} {l:List Dt} {vs:List V} (h:RepsI K F l vs):Reps K F l vs:=by
 induction h with
 | nil=>simp [Reps]
 | cons h _ ih=>simp only [Reps];exact ⟨_,_,rfl,h,ih⟩
section
variable {X:Cx} {elt tg iter:Expr} {ifs:List Expr} {scope:Scope} {pos:Pos} {M:List Str} {src:List (Option Nat)} {wi:TI} {g:TG} {tt:TT} {te:TE}
def qo {pins:List (Addr×Obj)} {s:Shared} {σ:St} {H:Hp} {Q:VK} {cpos:Pos} {use:Option (Value->Sem Unit)} {QQ:Value->Shared->Prop} (S:CmpScope X.N X.env.scope scope M src) (hc:X.calm=true) (hi:PI X tg iter wi) (hg:M.Nodup->∀ C s H ex,PG (cxC X M scope C s H ex) tg g) (ht:∀ C s H ex,PTs (cxC X M scope C s H ex) ifs tt)
  (he:∀ C s H ex,PE (cxC X M scope C s H ex) elt te) (hs:∀ x,foldedSetIterable iter X.env x=pure x) (I:Inv X pins σ H s) (h:iC src wi g tt te σ H Q)
  (hfin:∀ (D C:Addr) (H':Hp) (s':Shared) (m:Str->Option Value),Inv X pins σ H' s'->e9 X pins H' C->s'.heap.Ns C m->Q (.ref D) H'->compPost (model X.prog X.w) X.A X.xe use QQ (.ref D) C (.ok .next) s') :
  wpAny (model X.prog X.w) X.A (comprehension (.ListComp elt [⟨tg,iter,ifs,0⟩] scope pos) scope X.env cpos (newList []) false (eval iter X.env) use) QQ X.xe s:=by
 have hcells:∀ x∈scope.names,x.2=.free->∃ c,X.env.cells.lookup x.1=some c:=fun x hx hfr=>I.ok.has x.1 (S.free x hx hfr)
 refine wpAny_comprehension_free (use:=use) rfl hs (iB hcells) S.kind S.names (thn (hi pins s σ H _ I h) fun v s1 h1=>thn h1 fun itv s2 h2=>?_)
 obtain ⟨it,fp,tn,J,H2,rfl,I2,T,st2,f2,hq⟩:=h2
 refine wpAny_newObj_type ?_
 have I3:Inv X pins σ (upd H2 s2.heap.objs.size (.lst [])) {s2 with heap:=s2.heap.push {cls:=.type "list",dict:=none,data:=.seq ([]:List Value).toArray},toks:=s2.toks}:=I2.lnew (its:=[]) (ys:=[]) (t':=s2.toks) .nil (by simp)
 have hD:H2 s2.heap.objs.size=none:=I2.fresh
 obtain ⟨W,⟨m0,w0⟩,turn⟩:=hq _ hD
 generalize hDn:s2.heap.objs.size=D at*
 generalize hs3:({s2 with heap:=s2.heap.push {cls:=.type "list",dict:=none,data:=.seq ([]:List Value).toArray},toks:=s2.toks}:Shared)=s3 at*
 have f3:∀ b∈fp,e9 X pins (upd H2 D (.lst [])) b:=fun b hb=>⟨by
  obtain ⟨o,e,_⟩:=T.obj _ _ st2 b hb
  rw [aJ (by rw [<- hDn];exact Nat.ne_of_lt (Heap.lt_size e))]
  exact (f2 b hb).1,(f2 b hb).2⟩
 have k23:∀ b o,s2.heap.get? b=some o->s3.heap.get? b=some o:=fun b o e=>by rw [<- hs3];exact gP _ e
 have st3:tn 0 s3.heap:=T.keep _ _ _ st2 fun b _ o e=>k23 b o e
 have fl3:∀ b∈fp,b<s3.heap.objs.size:=fun b hb=>by
  obtain ⟨o,e,_⟩:=T.obj _ _ st3 b hb
  exact Heap.lt_size e
 refine wpAny_newFunctionEnv S.nocell (by intro y hy;simp at hy) (fun h₁ hns₁ hsb₁=>?_) S.kind
 have k34:∀ b o,s3.heap.get? b=some o->h₁.get? b=some o:=fun b o e=>hsb₁.extBut b o (Nat.ne_of_lt (Heap.lt_size e)) (gP _ e)
 generalize hs4:({s3 with heap:=h₁,toks:=s3.toks+([]:List (Str×Value)).length}:Shared)=s4
 have I4:Inv (cxC X M scope s3.heap.objs.size s3 (upd H2 D (.lst [])) fp) [] (stC src σ) (upd H2 D (.lst [])) s4:=by
  rw [<- hs4]
  exact lU S I3 f3 fl3 hns₁ k34 rfl rfl
 have st4:tn 0 s4.heap:=T.keep _ _ _ st3 fun b _ o e=>by rw [<- hs4];exact k34 b o e
 generalize hX':cxC X M scope s3.heap.objs.size s3 (upd H2 D (.lst [])) fp=X' at*
 have hg':PG X' tg g:=by rw [<- hX'];exact hg S.nd _ _ _ _
 have ht':PTs X' ifs tt:=by rw [<- hX'];exact ht _ _ _ _
 have he':PE X' elt te:=by rw [<- hX'];exact he _ _ _ _
 have eP:X'.prog=X.prog:=by rw [<- hX'];rfl
 have eW:X'.w=X.w:=by rw [<- hX'];rfl
 have eK:X'.K=X.K:=by rw [<- hX'];rfl
 have eA:X'.A=X.A:=by rw [<- hX'];rfl
 have ex':X'.xe=fun _ _=>False:=by rw [<- hX'];rfl
 have ec:X'.calm=true:=by rw [<- hX'];exact hc
 have eE:X'.env=compEnvC scope (lS scope.names X.env.cells) s3.heap.objs.size X.env:=by rw [<- hX'];rfl
 have stat:∀ {H':Hp},(∀ b∈fp,H' b=none)->∀ b∈fp,e9 X' [] H' b:=fun hn b hb=>by
  rw [<- hX']
  refine ⟨hn b hb,Nat.ne_of_lt (fl3 b hb),fun z=>?_,.inl hb,fun x c h=>(f3 b hb).2.2.2.2.1 x c (d5 hcells h),fun p hp=>absurd hp (by simp [cxC])⟩
  rcases List.mem_cons.mp (I3.stkSub b z) with q | q
  · exact (f3 b hb).2.1 q
  · exact (f3 b hb).2.2.1 q
 -- behind the block
 have fin:∀ (H':Hp) (s':Shared),Inv X' [] (stC src σ) H' s'->Q (.ref D) H'->compPost (model X.prog X.w) X.A X.xe use QQ (.ref D) s3.heap.objs.size (.ok .next) s':=by
  intro H' s' J' q
  rw [<- hX'] at J'
  obtain ⟨m,hn,_⟩:=id J'.loc
  have hC:H' s3.heap.objs.size=none:=J'.free
  have un:Un (frs X.stack) fp (upd H2 D (.lst [])) H' s3.heap s'.heap:=J'.base
  have IA:Inv X pins σ H' s':=I3.call' (s':=s') (show s'.os=s3.os from J'.os) un J'.hok J'.bare fun b hb=>⟨(f3 b hb).2.2.2.1,(f3 b hb).2.1,(f3 b hb).2.2.2.2.1,(f3 b hb).2.2.2.2.2⟩
  exact hfin D _ H' s' m IA (I3.fpOk (nL _) hC) hn q
 have loop:∀ s4':Shared,s4'=s4->codeAny (model X.prog X.w) X.A (.compLoop (.ListComp elt [⟨tg,iter,ifs,0⟩] scope pos) 0 (.ref it) (.ref D) X'.env) (compPost (model X.prog X.w) X.A X.xe use QQ (.ref D) s3.heap.objs.size) s4':=by
  rintro _ rfl
  refine fM (fun n s'=>∃ i H',Inv X' [] (stC src σ) H' s'/\tn i s'.heap/\(∀ b∈fp,H' b=none)/\W i n H') ?_ m0 ⟨0,_,I4,st4,fun b hb=>(f3 b hb).1,w0⟩
  rintro n s5 ⟨i,H5,I5,st5,fr5,w5⟩
  rcases turn i n H5 w5 with ⟨stop,qn⟩ | ⟨go,N,hN,step⟩
  · have:=T.done X' eP eW eK ec i [] s5 (stC src σ) H5 (fun _ _=>False) I5 (stat fr5) st5 stop
    rw [eA] at this
    refine thn this fun r s6 ⟨hr,I6⟩=>?_
    subst hr
    exact fin H5 s6 I6 qn
  · have:=T.item X' eP eW eK ec i [] s5 (stC src σ) H5 (fun _ _=>False) I5 (stat fr5) st5 go
    rw [eA] at this
    refine thn this fun r s6 ⟨u,hr,h6⟩=>?_
    subst hr
    refine thn h6 fun _ s7 ⟨x,H7,I7,r7,y7,st7,fr7⟩=>?_
    have I7':=I7.pinned (stat fr7) (T.obj _ _ st7)
    have a1:=hg' _ s7 (stC src σ) H7 x u _ I7' r7 (step x H7 y7)
    rw [ex',eP,eW,eA] at a1
    refine thn a1 fun _ s8 ⟨σ8,H8,I8,wk8,q8⟩=>?_
    have a2:=ht' _ s8 σ8 H8 _ I8 q8
    rw [ex',eP,eW,eA] at a2
    refine thn a2 fun ok s9 ⟨H9,I9,q9⟩=>?_
    have again:∀ {H7':Hp} {s':Shared},Inv X' ([]++gy fp s7.heap) σ8 H7' s'->N H7'->∃ m,m<n/\∃ i H',Inv X' [] (stC src σ) H' s'/\tn i s'.heap/\(∀ b∈fp,H' b=none)/\W i m H':=fun {H7' s'} J7 n7=>by
     obtain ⟨m',hm,w7⟩:=hN H7' n7
     refine ⟨m',hm,i+1,H7',J7.unpinned.weak wk8.1 wk8.2,T.keep _ _ _ st7 fun b hb o e=>(J7.pin (b,o) (List.mem_append_right _ (List.mem_append_right _ (cq hb e)))).1,fun b hb=>?_,w7⟩
     obtain ⟨o,e,d⟩:=T.obj _ _ st7 b hb
     exact (J7.pin (b,o) (List.mem_append_right _ (List.mem_append_right _ (cq hb e)))).2.1
    cases ok with
    | false=>exact again I9 q9
    | true =>
     have a3:=he' _ s9 σ8 H9 _ I9 q9
     rw [ex',eP,eW,eA] at a3
     refine thn a3 fun v s10 ⟨y,H10,I10,r10,ys,hl,hz,q10⟩=>?_
     have a4:=ez (X:=X') _ s10 σ8 H10 (.ref D) [y] (.ref D) [v] (fun _ H'=>N H') I10 rfl (.cons r10 .nil) ⟨D,ys,y,rfl,rfl,hl,hz,q10⟩
     rw [ex',eP,eW,eA] at a4
     refine thn a4 fun _ s11 ⟨_,H11,I11,_,q11⟩=>?_
     exact again I11 q11
 have e4:∀ c:Env,c=X'.env->codeAny (model X.prog X.w) X.A (.compStart (.ListComp elt [⟨tg,iter,ifs,0⟩] scope pos) 0 (.ref it) (.ref D) c) (compPost (model X.prog X.w) X.A X.xe use QQ (.ref D) s3.heap.objs.size) s4:=by
  rintro _ rfl
  exact codeAny_compStart_list (loop _ rfl) (T.self _ _ _ _ _ st4 (loop _ rfl))
 exact e4 _ (by rw [eE];rfl)
def pf {i:Nat} {y:Str} {py spos:Pos} (hN:X.N.Nodup) (hi':X.N[i]?=some y) (hx:Loc X.env.scope y) (hf:X.fn y=true∨X.env.scope.names.lookup y=some .local)
  (S:CmpScope X.N X.env.scope scope M src) (hc:X.calm=true) (hi:PI X tg iter wi) (hg:M.Nodup->∀ C s H ex,PG (cxC X M scope C s H ex) tg g) (ht:∀ C s H ex,PTs (cxC X M scope C s H ex) ifs tt)
  (he:∀ C s H ex,PE (cxC X M scope C s H ex) elt te) (hs:∀ x,foldedSetIterable iter X.env x=pure x)
  (hsw:swapsWith (.ListComp elt [⟨tg,iter,ifs,0⟩] scope pos) (some (.Name y py)) spos.line X.env=pure true) :
  PS X (.Assign [.Name y py] (.ListComp elt [⟨tg,iter,ifs,0⟩] scope pos) spos) (ua (iC src wi g tt te) (eU i)):=by
 intro pins s σ H D I h
 rw [exec_Assign_Name_used _ _ _ _ hsw]
 refine wB (wpAny_standAt (wB ?_))
 show wpAny _ X.A (do let _ <- comprehension (.ListComp elt [⟨tg,iter,ifs,0⟩] scope pos) scope X.env _ (newList []) false (eval iter X.env) (some (assign (.Name y py) X.env))) _ _ s
 refine wB (wpAny_mono (qo (use:=some (assign (.Name y py) X.env)) (QQ:=fun _ s'=>∃ σ' H',Inv X pins σ' H' s'/\D.nx σ' H') S hc hi hg ht he hs I h ?_) (fun _ s' hq=>wpAny_pure (wpAny_pure hq)) fun _ _ e=>e)
 intro Dd C H' s' m IA hC hn q
 show wpAny _ X.A (assign (.Name y py) X.env (.ref Dd)) _ _ s'
 refine wpAny_assign_Name (ju IA hN hi' hx (v:=.ref Dd) rfl (fun s2 I2 hsb=>?_) hf)
 obtain ⟨a,sb,ha⟩:=hsb
 have ne:C≠a:=by
  rcases ha with rfl | ha
  · exact hC.2.1
  · exact Ne.symm (hC.2.2.2.2.1 y a ha)
 refine ⟨m,hn.sameBut sb ne,fun h3 sb3=>⟨_,H',?_,q⟩⟩
 have kC:∀ b o,b≠C->s2.heap.get? b=some o->h3.get? b=some o:=fun b o hb e=>sb3.extBut b o hb e
 have nm:∀ {b:Addr},b∉[C]->b≠C:=fun hb z=>hb (by rw [z];exact List.mem_cons_self)
 refine I2.call' (s':={s2 with heap:=h3}) (ch:=[C]) rfl ⟨fun b o e n hb hx=>kC b o (nm hx) e,fun b o e n hb hx=>⟨o.slots,kC b o (nm hx) e⟩,fun b o e n hx=>n,fun b o e hx=>⟨o,kC b o (nm hx) e⟩,fun b xs e=>e,fun b o u e=>e,fun b ps e=>⟨#[],by rw [Array.append_empty];exact e⟩⟩ ?_ I2.bare fun b hb=>?_
 · intro b u e
   have nb:b≠C:=fun z=>by rw [z,hC.1] at e;cases e
   refine (I2.hok b u e).stay (fun c v hc' q=>kC c v ?_ q) (fun _ q=>q) fun _ _ q=>q
   rcases hc' with z | z
   · rw [z];exact nb
   · intro w;rw [w,hC.1] at z;cases z
 · cases List.mem_singleton.mp hb
   exact ⟨hC.2.2.2.1,hC.2.1,hC.2.2.2.2.1,hC.2.2.2.2.2⟩
end
section
variable {X:Cx} {elt tg iter:Expr} {ifs:List Expr} {scope:Scope} {pos:Pos} {M:List Str} {src:List (Option Nat)} {fi:De->Option (List Dt)} {ft:De->Option Bool} {fe:De->Option Dt} {i:Nat}
def uQ {sc:Scope} {N:List Str} {y:Str} {py spos:Pos} {ts:List Nat} {bb:Dt->De->Option De} (h:dA sc N i y=true) (hl:iF sc y=true) (nd:N.Nodup) (S:CmpScope X.N X.env.scope scope M src) (hc:X.calm=true) (hi:DIB X tg iter fi) (hg:M.Nodup->∀ C s H ex,DG (cxC X M scope C s H ex) tg ts bb)
  (ht:∀ C s H ex,DTs (cxC X M scope C s H ex) ifs ft) (he:∀ C s H ex,DL (cxC X M scope C s H ex) elt fe) (hts:(ts.all fun k=>decide (src[k]?=some none))=true) (hs:∀ x,foldedSetIterable iter X.env x=pure x:=by intro _;rfl)
  (e1:bM X sc:=by rfl) (e2:X.N=N:=by rfl) (hf:X.fn y=true∨X.env.scope.names.lookup y=some .local:=by exact .inl rfl) (hsw:swapsWith (.ListComp elt [⟨tg,iter,ifs,0⟩] scope pos) (some (.Name y py)) spos.line X.env=pure true:=by rfl) :
  DS1 X (.Assign [.Name y py] (.ListComp elt [⟨tg,iter,ifs,0⟩] scope pos) spos) (bz i (cP src fi bb ft fe)):=by
 have e1:X.env.scope=sc:=e1
 subst e1 e2
 refine PS.mono (pf (g:=gD X.K ts bb) (tt:=tTr X.K ft) (te:=tL X.K fe) nd (gF h) (kH hl) hf S hc hi (fun nd C s H ex=>hg nd C s H ex) (fun C s H ex=>ht C s H ex) (fun C s H ex=>he C s H ex) hs hsw) fun D σ H ⟨Φ,δ,F,o,hK,en,hf',k⟩=>?_
 unfold bz at hf'
 obtain ⟨t,ht',hf'⟩:=mS hf'
 cases hf'
 exact pc S hts σ H _ ⟨Φ,δ,F,t,hK,en,ht',fun v H' F' S st o hs=>k _ F' H' (en.put st (hK▸o) hs i)⟩
end
section
variable {X:Cx} {e o:Expr} {f:Str} {pos pos' apos cpos:Pos} {i j:Nat} {c:Str} {NS:List Str} {fe:De->Option T} {fd:De->Option Dt}
end
section
variable {X:Cx} {e o ik:Expr} {f:Str} {pos pos' apos cpos spos:Pos} {i j:Nat} {c:Str} {NS:List Str} {fe:De->Option T} {fd fk:De->Option Dt}
end
def mr:T->Option T
 | .leaf d=>if bD d then some (.leaf d) else none
 | .lst l=>if l.all bD then some (.lst l) else none
 | _=>none
def jW {K:PySem.W.Frag} {F F':Hp}:∀ {l:List Dt} {vs:List V},Reps K F l vs->l.all bD=true->Reps K F' l vs
 | [],vs,h,_=>by simp only [Reps] at h ⊢;exact h
 | d::l,vs,h,hf=>by
  simp only [List.all_cons,Bool.and_eq_true] at hf
  simp only [Reps] at h ⊢
  obtain ⟨v,ws,e,h1,h2⟩:=h
  exact ⟨v,ws,e,mq h1 hf.1,jW h2 hf.2⟩
def ms {K:PySem.W.Frag} {F1 H1:Hp} {u t:T} {Q:VK} (fh:Same F1 H1) (hf:mr u=some t) (k:KO K F1 H1 t Q):KO K H1 H1 u Q:=fun v H' F' S st o hs=>by
 unfold mr at hf
 split at hf<;>first | (cases hf;done) | skip
 · split at hf<;>first | (cases hf;done) | skip
   rename_i d hd
   cases hf
   exact k.leaf v H' F1 ⟨st.hh,Same.refl _,fh.trans st.hh,fun b o e=>.inl e⟩ (mq o hd)
 · split at hf<;>first | (cases hf;done) | skip
   rename_i l hl
   cases hf
   obtain ⟨a,vs,e,sa,h1,h2⟩:=o
   refine k v H' F1 S ⟨st.hh,Same.refl _,fh.trans st.hh,fun b o e=>.inl e⟩ ⟨a,vs,e,sa,h1,jW h2 hl⟩ fun b z=>⟨?_,(hs b z).2.1,(hs b z).2.2⟩
   cases q:F1 b with
   | none=>rfl
   | some o=>have y:=(hs b z).2.1;rw [fh _ _ q] at y;cases y
section
variable {X:Cx} {e o:Expr} {es:List Expr} {m c:Str} {pos apos cpos p:Pos} {i j:Nat} {NS ps:List Str} {fo:De->Option Dt} {fs:De->Option (List Dt)} {ff:List Dt->Option T} {k n:Nat}
end
section
variable {K:PySem.W.Frag} {F H:Hp} {ts:List T} {vs:List V} {S:Nat->Addr->Prop} {N:List Str}
end
section
variable {P:Program} {w:World} {K:PySem.W.Frag} {mg:Str->Option Value} {base:Heap}
end
section
variable {X:Cx} {e:Expr} {pos:Pos} {fd:De->Option Dt}
end
section
variable {X:Cx} {e:Expr} {es:List Expr} {i:Nat} {ags:List Ag} {f:De->Option Dt}
end
section
variable {X:Cx} {e o:Expr} {es:List Expr} {x m c:Str} {pos apos cpos p:Pos} {i j:Nat} {NS ps:List Str} {sc:Scope} {k n:Nat} {f:List T->Option (T×List T)} {ags:List Ag} {fs:De->Option (List Dt)} {fe fk:De->Option Dt}
end
section
variable {X:Cx}
end
section
variable {X:Cx} {pos:Pos} {k v:Expr} {ks:List (Option Expr)} {vs:List Expr} {fk fv:De->Option Dt} {g:De->Option (List (Key×Dt))}
end
section
variable {X:Cx} {pins:List (Addr×Obj)} {σ:St} {H:Hp} {s:Shared} {a:Addr} {u:HO} {ob:Obj}
end
section
variable {X:Cx} {tg:Expr}
end
inductive CV where
 | dat (d:Dt) | ref (i:Nat)
inductive CO where
 | lst (l:List CV) | tup (l:List CV) | dK (l:List (Key×CV)) | ins (c:Str) (ns:List Str) (l:List CV) | wk (l:List (Key×CV)) | dT (l:List (List Key×CV)) | wt (l:List (List Key×CV))
abbrev CH:=List CO
abbrev Sl:=List (Option CV)
section
variable (K:PySem.W.Frag) (F H:Hp) (ρ:Nat->Addr) (n:Nat)
def RelC:CV->V->Prop
 | .dat d,v=>Rep K F d v
 | .ref i,v=>i<n/\v=.ref (ρ i)
def RelCs:List CV->List V->Prop
 | [],vs=>vs=[]
 | c::l,vs=>∃ v ws,vs=v::ws/\RelC K F ρ n c v/\RelCs l ws
noncomputable def CoOk (a:Addr):CO->Prop
 | .lst l=>∃ vs,H a=some (.lst vs)/\RelCs K F ρ n l vs
 | .tup l=>∃ vs,H a=some (.tup vs)/\RelCs K F ρ n l vs
 | .dK l=>∃ kvs,H a=some (.dK kvs)/\kvs.map (·.1)=l.map (·.1)/\RelCs K F ρ n (l.map (·.2)) (kvs.map (·.2))
 | .ins c ns l=>∃ C dx fs,rF K c C/\H a=some (.ins C dx fs)/\fs.map (·.1)=ns/\RelCs K F ρ n l (fs.map (·.2))
 | .wk l=>∃ o kvs,H a=some (.frz o (.dK kvs))/\kvs.map (·.1)=l.map (·.1)/\RelCs K F ρ n (l.map (·.2)) (kvs.map (·.2))
 | .dT l=>∃ kvs,H a=some (.dT kvs)/\kvs.map (·.1)=l.map (·.1)/\RelCs K F ρ n (l.map (·.2)) (kvs.map (·.2))
 | .wt l=>∃ o kvs,H a=some (.frz o (.dT kvs))/\kvs.map (·.1)=l.map (·.1)/\RelCs K F ρ n (l.map (·.2)) (kvs.map (·.2))
end
section
variable {K:PySem.W.Frag} {F H F' H' F1 H1:Hp} {ρ ρ' ρ1:Nat->Addr} {n n':Nat} {c:CV} {v:V}
def RelC.mono (ff:Same F F') (he:∀ i,i<n->ρ' i=ρ i) (hn:n<=n') (h:RelC K F ρ n c v):RelC K F' ρ' n' c v:=by
 cases c with
 | dat d=>exact Rep.same ff h
 | ref i=>exact ⟨Nat.lt_of_lt_of_le h.1 hn,by rw [he i h.1];exact h.2⟩
def RelCs.mono (ff:Same F F') (he:∀ i,i<n->ρ' i=ρ i) (hn:n<=n'):∀ {l:List CV} {vs:List V},RelCs K F ρ n l vs->RelCs K F' ρ' n' l vs
 | [],_,h=>h
 | c::l,vs,h=>by
  obtain ⟨v,ws,e,h1,h2⟩:=h
  exact ⟨v,ws,e,h1.mono ff he hn,RelCs.mono ff he hn h2⟩
def RelCs.length:∀ {l:List CV} {vs:List V},RelCs K F ρ n l vs->vs.length=l.length
 | [],_,h=>by rw [show _=[] from h];rfl
 | c::l,vs,h=>by
  obtain ⟨v,ws,rfl,h1,h2⟩:=h
  simp [RelCs.length h2]
def RelCs.get:∀ {l:List CV} {vs:List V} {i:Nat} {c:CV},RelCs K F ρ n l vs->l[i]?=some c->∃ v,vs[i]?=some v/\RelC K F ρ n c v
 | [],_,_,_,_,e=>by simp at e
 | c::l,vs,0,c',h,e=>by
  obtain ⟨v,ws,rfl,h1,h2⟩:=h
  simp at e
  subst e
  exact ⟨v,rfl,h1⟩
 | c::l,vs,i+1,c',h,e=>by
  obtain ⟨v,ws,rfl,h1,h2⟩:=h
  obtain ⟨u,q1,q2⟩:=RelCs.get (i:=i) h2 (by simpa using e)
  exact ⟨u,by simpa using q1,q2⟩
def RelCs.set {c:CV} {v:V} (r:RelC K F ρ n c v):∀ {l:List CV} {vs:List V} (i:Nat),RelCs K F ρ n l vs->RelCs K F ρ n (l.set i c) (vs.set i v)
 | [],vs,i,h=>by rw [show vs=[] from h];rfl
 | x::l,vs,0,h=>by
  obtain ⟨u,ws,rfl,h1,h2⟩:=h
  exact ⟨v,ws,rfl,r,h2⟩
 | x::l,vs,i+1,h=>by
  obtain ⟨u,ws,rfl,h1,h2⟩:=h
  exact ⟨u,ws.set i v,rfl,h1,RelCs.set r i h2⟩
def RelCs.append:∀ {l m:List CV} {vs ws:List V},RelCs K F ρ n l vs->RelCs K F ρ n m ws->RelCs K F ρ n (l++m) (vs++ws)
 | [],m,vs,ws,h,h'=>by rw [show vs=[] from h];exact h'
 | x::l,m,vs,ws,h,h'=>by
  obtain ⟨u,us,rfl,h1,h2⟩:=h
  exact ⟨u,us++ws,rfl,h1,RelCs.append h2 h'⟩
def RelCs.one {c:CV} {v:V} (r:RelC K F ρ n c v):RelCs K F ρ n [c] [v]:=⟨v,[],rfl,r,rfl⟩
def RelCs.dats:∀ {l:List Dt} {vs:List V},Reps K F l vs->RelCs K F ρ n (l.map .dat) vs
 | [],vs,h=>by simp only [Reps] at h;exact h
 | d::l,vs,h=>by
  simp only [Reps] at h
  obtain ⟨v,ws,e,h1,h2⟩:=h
  exact ⟨v,ws,e,h1,RelCs.dats h2⟩
def CoOk.mono {a:Addr} {o:CO} (ff:Same F F') (he:∀ i,i<n->ρ' i=ρ i) (hn:n<=n') (ha:∀ u,H a=some u->H' a=some u) (h:CoOk K F H ρ n a o):CoOk K F' H' ρ' n' a o:=by
 cases o with
 | lst l=>obtain ⟨vs,h1,h2⟩:=h;exact ⟨vs,ha _ h1,h2.mono ff he hn⟩
 | tup l=>obtain ⟨vs,h1,h2⟩:=h;exact ⟨vs,ha _ h1,h2.mono ff he hn⟩
 | dK l=>obtain ⟨vs,h1,h2,h3⟩:=h;exact ⟨vs,ha _ h1,h2,h3.mono ff he hn⟩
 | ins c ns l=>obtain ⟨C,dx,fs,h0,h1,h2,h3⟩:=h;exact ⟨C,dx,fs,h0,ha _ h1,h2,h3.mono ff he hn⟩
 | wk l=>obtain ⟨o,vs,h1,h2,h3⟩:=h;exact ⟨o,vs,ha _ h1,h2,h3.mono ff he hn⟩
 | dT l=>obtain ⟨vs,h1,h2,h3⟩:=h;exact ⟨vs,ha _ h1,h2,h3.mono ff he hn⟩
 | wt l=>obtain ⟨o,vs,h1,h2,h3⟩:=h;exact ⟨o,vs,ha _ h1,h2,h3.mono ff he hn⟩
def CoOk.there {a:Addr} {o:CO} (h:CoOk K F H ρ n a o):∃ u,H a=some u:=by
 cases o with
 | lst l=>obtain ⟨vs,h1,h2⟩:=h;exact ⟨_,h1⟩
 | tup l=>obtain ⟨vs,h1,h2⟩:=h;exact ⟨_,h1⟩
 | dK l=>obtain ⟨vs,h1,h2⟩:=h;exact ⟨_,h1⟩
 | ins c ns l=>obtain ⟨C,dx,fs,h0,h1,h2⟩:=h;exact ⟨_,h1⟩
 | wk l=>obtain ⟨o,vs,h1,h2⟩:=h;exact ⟨_,h1⟩
 | dT l=>obtain ⟨vs,h1,h2⟩:=h;exact ⟨_,h1⟩
 | wt l=>obtain ⟨o,vs,h1,h2⟩:=h;exact ⟨_,h1⟩
end
structure Gh (K:PySem.W.Frag) (F H:Hp) (ρ:Nat->Addr) (ch:CH):Prop where
 fh:Same F H
 inj:∀ i j,i<ch.length->j<ch.length->ρ i=ρ j->i=j
 out:∀ i,i<ch.length->F (ρ i)=none∨∃ xs,F (ρ i)=some (.tup xs)
 ok:∀ i o,ch[i]?=some o->CoOk K F H ρ ch.length (ρ i) o
structure Adv (K:PySem.W.Frag) (F H:Hp) (ρ:Nat->Addr) (ch:CH) (F' H':Hp) (ρ':Nat->Addr) (ch':CH):Prop where
 gh:Gh K F' H' ρ' ch'
 len:ch.length<=ch'.length
 ext:∀ i,i<ch.length->ρ' i=ρ i
 fr:∀ i,ch.length<=i->i<ch'.length->H (ρ' i)=none
 prot:∀ b o,H b=some o->(∀ i,i<ch.length->ρ i≠b)->H' b=some o
 old:Same F F'
 nw:∀ b o,F' b=some o->F b=some o∨H b=none∨∃ xs,o=.tup xs
 fz:∀ b o u,H b=some (.frz o u)->H' b=some (.frz o u)
section
variable {K:PySem.W.Frag} {F H F' H' F1 H1:Hp} {ρ ρ' ρ1:Nat->Addr} {ch ch' ch1:CH} {c:CV} {v:V}
def Gh.at (g:Gh K F H ρ ch) {i:Nat} (hi:i<ch.length):∃ u,H (ρ i)=some u:=(g.ok i ch[i] (by simp [hi])).there
def Adv.refl (g:Gh K F H ρ ch):Adv K F H ρ ch F H ρ ch:=⟨g,nL _,fun _ _=>rfl,fun i h1 h2=>absurd h2 (Nat.not_lt.mpr h1),fun _ _ h _=>h,Same.refl _,fun _ _ h=>.inl h,fun _ _ _ h=>h⟩
def Adv.back (g:Gh K F H ρ ch) (a:Adv K F H ρ ch F1 H1 ρ1 ch1) {b:Addr} (h:H1 b=none):H b=none:=by
 cases q:H b with
 | none=>rfl
 | some o =>
  by_cases z:∃ i,i<ch.length/\ρ i=b
  · obtain ⟨i,hi,rfl⟩:=z
    obtain ⟨u,hu⟩:=a.gh.at (Nat.lt_of_lt_of_le hi a.len)
    rw [a.ext i hi,h] at hu
    cases hu
  · rw [a.prot b o q fun i hi e=>z ⟨i,hi,e⟩] at h
    cases h
def Adv.trans (g:Gh K F H ρ ch) (a:Adv K F H ρ ch F1 H1 ρ1 ch1) (b:Adv K F1 H1 ρ1 ch1 F' H' ρ' ch'):Adv K F H ρ ch F' H' ρ' ch' where
 gh:=b.gh
 len:=Nat.le_trans a.len b.len
 ext:=fun i hi=>(b.ext i (Nat.lt_of_lt_of_le hi a.len)).trans (a.ext i hi)
 fr:=fun i h1 h2=>by
  by_cases hi:i<ch1.length
  · rw [b.ext i hi]
    exact a.fr i h1 hi
  · exact a.back g (b.fr i (Nat.not_lt.mp hi) h2)
 prot:=fun x o h1 h2=>b.prot x o (a.prot x o h1 h2) fun i hi e=>by
  by_cases hj:i<ch.length
  · rw [a.ext i hj] at e
    exact h2 i hj e
  · have:=a.fr i (Nat.not_lt.mp hj) hi
    rw [e,h1] at this
    cases this
 old:=a.old.trans b.old
 nw:=fun x o h=>(b.nw x o h).elim (a.nw x o) fun z=>.inr (z.imp_left fun z=>a.back g z)
 fz:=fun x o u h=>b.fz x o u (a.fz x o u h)
def Gh.of (g:Gh K F H ρ ch) (st:Step F H F' H'):Gh K F' H' ρ ch:=by
 refine ⟨st.fh,g.inj,fun i hi=>?_,fun i o h=>(g.ok i o h).mono st.ff (fun _ _=>rfl) (nL _) fun u hu=>st.hh _ _ hu⟩
 cases q:F' (ρ i) with
 | none=>exact .inl rfl
 | some o =>
  rcases st.nw _ _ q with z | z
  · rcases g.out i hi with y | ⟨xs,y⟩
    · rw [y] at z;cases z
    · rw [y] at z;cases z;exact .inr ⟨xs,rfl⟩
  · obtain ⟨u,hu⟩:=g.at hi
    rw [hu] at z;cases z
def Adv.of (g:Gh K F H ρ ch) (st:Step F H F' H'):Adv K F H ρ ch F' H' ρ ch:=
 ⟨g.of st,nL _,fun _ _=>rfl,fun i h1 h2=>absurd h2 (Nat.not_lt.mpr h1),fun b o h _=>st.hh b o h,st.ff,fun b o h=>(st.nw b o h).imp_right .inl,fun b o u h=>st.hh b _ h⟩
def Adv.upd (g:Gh K F H ρ ch) {i:Nat} {o:CO} {u w:HO} (hi:i<ch.length) (hw:H (ρ i)=some w) (hz:∀ x y,w≠.frz x y) (ho:CoOk K F (upd H (ρ i) u) ρ ch.length (ρ i) o) (ht:∀ xs,w≠.tup xs:=by intro _ z;cases z):Adv K F H ρ ch F (upd H (ρ i) u) ρ (ch.set i o) where
 gh:=⟨fun b x e=>by
     have:b≠ρ i:=fun q=>by
      rw [q] at e
      rcases g.out i hi with y | ⟨xs,y⟩
      · rw [y] at e;cases e
      · have:=g.fh _ _ y
        rw [hw] at this
        exact ht xs (Option.some.inj this)
     rw [aJ this]
     exact g.fh b x e,fun j k hj hk=>g.inj j k (by simpa using hj) (by simpa using hk),fun j hj=>g.out j (by simpa using hj),fun j x hx=>by
     rw [List.length_set]
     rw [List.getElem?_set] at hx
     split at hx
     · rename_i q
       subst q
       first
        | (split at hx<;>first | (cases hx;exact ho) | cases hx)
        | (cases hx;exact ho)
     · rename_i q
       refine (g.ok j x hx).mono (Same.refl _) (fun _ _=>rfl) (nL _) fun y hy=>?_
       have hj:j<ch.length:=(gX hx).1
       rw [aJ fun e=>q (g.inj j i hj hi e).symm]
       exact hy⟩
 len:=by simp
 ext:=fun _ _=>rfl
 fr:=fun j h1 h2=>absurd h2 (by simpa using h1)
 prot:=fun b x h1 h2=>by
  rw [aJ fun e=>h2 i hi e.symm]
  exact h1
 old:=Same.refl _
 nw:=fun b x h=>.inl h
 fz:=fun b x y h=>by
  rw [aJ fun e=>by rw [e,hw] at h;exact hz x y (Option.some.inj h)]
  exact h
def Adv.new (g:Gh K F H ρ ch) (st:Step F H F' H') {a:Addr} {o:CO} (ha:H a=none) (hf:F' a=none) (ho:CoOk K F' H' (fun i=>if i=ch.length then a else ρ i) (ch.length+1) a o) :
  Adv K F H ρ ch F' H' (fun i=>if i=ch.length then a else ρ i) (ch++[o]):=by
 have g':=(Adv.of g st).gh
 have lt:∀ {i:Nat},i<ch.length->(if i=ch.length then a else ρ i)=ρ i:=fun {i} hi=>if_neg (Nat.ne_of_lt hi)
 have ne:∀ {i:Nat},i<ch.length->ρ i≠a:=fun {i} hi e=>by
  obtain ⟨u,hu⟩:=g.at hi
  rw [e,ha] at hu
  cases hu
 refine ⟨⟨st.fh,fun i j hi hj e=>?_,fun i hi=>?_,fun i x hx=>?_⟩,by simp,fun i hi=>lt hi,fun i h1 h2=>?_,fun b x h1 _=>st.hh b x h1,st.ff,fun b o h=>(st.nw b o h).imp_right .inl,fun b o u h=>st.hh b _ h⟩
 · simp only [List.length_append,List.length_cons,List.length_nil] at hi hj
   by_cases h1:i=ch.length<;>by_cases h2:j=ch.length
   · rw [h1,h2]
   · rw [if_pos h1,if_neg h2] at e
     exact absurd e.symm (ne (by omega))
   · rw [if_neg h1,if_pos h2] at e
     exact absurd e (ne (by omega))
   · rw [if_neg h1,if_neg h2] at e
     exact g.inj i j (by omega) (by omega) e
 · simp only [List.length_append,List.length_cons,List.length_nil] at hi
   (try dsimp only)
   by_cases h1:i=ch.length
   · rw [if_pos h1];exact .inl hf
   · rw [if_neg h1];exact g'.out i (by omega)
 · simp only [List.length_append,List.length_cons,List.length_nil]
   by_cases h1:i<ch.length
   · rw [List.getElem?_append_left h1] at hx
     (try dsimp only)
     rw [lt h1]
     exact (g'.ok i x hx).mono (Same.refl _) (fun j hj=>lt hj) (Nat.le_succ _) fun u hu=>hu
   · rw [gR (Nat.not_lt.mp h1)] at hx
     have h2:i=ch.length:=by
      have:=(gX hx).1
      simp at this
      omega
     subst h2
     simp at hx
     subst hx
     (try dsimp only)
     rw [if_pos rfl]
     exact ho
 · simp only [List.length_append,List.length_cons,List.length_nil] at h2
   have h3:i=ch.length:=by omega
   (try dsimp only)
   rw [if_pos h3]
   exact ha
end
structure Ge (K:PySem.W.Frag) (δ:Sl) (ch:CH) (σ:St) (F H:Hp) (ρ:Nat->Addr):Prop where
 gh:Gh K F H ρ ch
 len:δ.length=σ.length
 has:∀ (i:Nat) (c:CV),δ[i]?=some (some c)->∃ v,σ[i]?=some (some v)/\RelC K F ρ ch.length c v
def KG (K:PySem.W.Frag) (F H:Hp) (ρ:Nat->Addr) (ch:CH) (c:CV) (ch':CH) (Q:VK):Prop:=∀ v F' H' ρ',Adv K F H ρ ch F' H' ρ' ch'->RelC K F' ρ' ch'.length c v->Q v H'
abbrev Fg:=Sl->CH->Option (CV×CH)
def tG (K:PySem.W.Frag) (f:Fg):TE:=fun σ H Q=>∃ δ ch F ρ c ch',Ge K δ ch σ F H ρ/\f δ ch=some (c,ch')/\KG K F H ρ ch c ch' Q
def GE (X:Cx) (e:Expr) (f:Fg):Prop:=PE X e (tG X.K f)
def dats:List CV->Option (List Dt)
 | []=>some []
 | .dat d::l=>(dats l).map (d::·)
 | _=>none
def cM {K:PySem.W.Frag} {F:Hp} {ρ:Nat->Addr} {n:Nat}:∀ {l:List CV} {ds:List Dt} {vs:List V},dats l=some ds->RelCs K F ρ n l vs->Reps K F ds vs
 | [],ds,vs,h,r=>by cases h;simp only [Reps];exact r
 | .dat d::l,ds,vs,h,r=>by
  simp only [dats] at h
  obtain ⟨es,he,rfl⟩:=mS h
  obtain ⟨v,ws,e,h1,h2⟩:=r
  simp only [Reps]
  exact ⟨v,ws,e,h1,cM he h2⟩
 | .ref i::l,ds,vs,h,r=>by cases h
def tvO:CO->Option T
 | .lst l=>(dats l).map .lst
 | .dK l=>(dats (l.map (·.2))).map fun ds=>.dct ((l.map (·.1)).zip ds)
 | _=>none
def loA (ch:CH):List Nat->Sl->De
 | _,[]=>[]
 | u,none::r=>none::loA ch u r
 | u,some (.dat d)::r=>some (.leaf d)::loA ch u r
 | u,some (.ref i)::r=>(if i∈u then none else (ch[i]?).bind tvO)::loA ch (i::u) r
def lo (δ:Sl) (ch:CH):De:=loA ch [] δ
section
variable {K:PySem.W.Frag} {F H F' H' F1 H1:Hp} {ρ ρ' ρ1:Nat->Addr} {δ:Sl} {σ:St} {ch ch' ch1 ch2:CH} {c:CV} {v:V} {Q:VK}
def Ge.adv (e:Ge K δ ch σ F H ρ) (a:Adv K F H ρ ch F' H' ρ' ch'):Ge K δ ch' σ F' H' ρ':=⟨a.gh,e.len,fun i c h=>by
 obtain ⟨v,h1,h2⟩:=e.has i c h
 exact ⟨v,h1,h2.mono a.old a.ext a.len⟩⟩
def KG.adv (k:KG K F H ρ ch c ch' Q) (g:Gh K F H ρ ch) (a:Adv K F H ρ ch F1 H1 ρ1 ch1):KG K F1 H1 ρ1 ch1 c ch' Q:=fun v F' H' ρ' b r=>k v F' H' ρ' (a.trans g b) r
def fW (ch:CH):∀ (u:List Nat) (δ:Sl),(loA ch u δ).length=δ.length
 | _,[]=>rfl
 | u,none::r=>by simp [loA,fW ch u r]
 | u,some (.dat d)::r=>by simp [loA,fW ch u r]
 | u,some (.ref i)::r=>by simp [loA,fW ch (i::u) r]
def fX {ch:CH}:∀ {u:List Nat} {δ:Sl} {j:Nat} {t:T},(loA ch u δ)[j]?=some (some t)->(∃ d,t=.leaf d/\δ[j]?=some (some (.dat d)))∨∃ i o,δ[j]?=some (some (.ref i))/\ch[i]?=some o/\tvO o=some t/\i∉u/\∀ m,m<j->δ[m]?≠some (some (.ref i))
 | _,[],j,t,h=>by simp [loA] at h
 | u,none::r,0,t,h=>by simp [loA] at h
 | u,none::r,j+1,t,h=>by
  rcases fX (u:=u) (δ:=r) (j:=j) (t:=t) (by simpa [loA] using h) with ⟨d,e,q⟩ | ⟨i,o,q1,q2,q3,q4,q5⟩
  · exact .inl ⟨d,e,by simpa using q⟩
  · refine .inr ⟨i,o,by simpa using q1,q2,q3,q4,fun m hm=>?_⟩
    cases m with
    | zero=>simp
    | succ m=>simpa using q5 m (by omega)
 | u,some (.dat d)::r,0,t,h=>by
  simp [loA] at h
  exact .inl ⟨d,h.symm,rfl⟩
 | u,some (.dat d)::r,j+1,t,h=>by
  rcases fX (u:=u) (δ:=r) (j:=j) (t:=t) (by simpa [loA] using h) with ⟨d',e,q⟩ | ⟨i,o,q1,q2,q3,q4,q5⟩
  · exact .inl ⟨d',e,by simpa using q⟩
  · refine .inr ⟨i,o,by simpa using q1,q2,q3,q4,fun m hm=>?_⟩
    cases m with
    | zero=>simp
    | succ m=>simpa using q5 m (by omega)
 | u,some (.ref i)::r,0,t,h=>by
  simp only [loA,List.getElem?_cons_zero,Option.some.injEq] at h
  split at h
  · cases h
  · rename_i hi
    obtain ⟨o,ho,h⟩:=bS h
    exact .inr ⟨i,o,rfl,ho,h,hi,fun m hm=>absurd hm (Nat.not_lt_zero _)⟩
 | u,some (.ref i)::r,j+1,t,h=>by
  rcases fX (u:=i::u) (δ:=r) (j:=j) (t:=t) (by simpa [loA] using h) with ⟨d,e,q⟩ | ⟨i',o,q1,q2,q3,q4,q5⟩
  · exact .inl ⟨d,e,by simpa using q⟩
  · simp only [List.mem_cons,not_or] at q4
    refine .inr ⟨i',o,by simpa using q1,q2,q3,q4.2,fun m hm=>?_⟩
    cases m with
    | zero =>
     simp only [List.getElem?_cons_zero,ne_eq,Option.some.injEq,CV.ref.injEq]
     exact fun z=>q4.1 z.symm
    | succ m=>simpa using q5 m (by omega)
def ph {α β:Type}:∀ {l:List α} {m:List β},l.length=m.length->(l.zip m).map (·.1)=l/\(l.zip m).map (·.2)=m
 | [],[],_=>⟨rfl,rfl⟩
 | [],_::_,h=>by cases h
 | _::_,[],h=>by cases h
 | a::l,b::m,h=>by
  obtain ⟨h1,h2⟩:=ph (l:=l) (m:=m) (by simpa using h)
  simp [h1,h2]
def uR {o:CO} {t:T} {n:Nat} {a:Addr} {S:Addr->Prop} (h:tvO o=some t) (ok:CoOk K F H ρ n a o) (hs:S a):Own K F H t (.ref a) S:=by
 cases o with
 | lst l =>
  obtain ⟨ds,hd,rfl⟩:=mS h
  obtain ⟨vs,h1,h2⟩:=ok
  exact ⟨a,vs,rfl,hs,h1,cM hd h2⟩
 | dK l =>
  obtain ⟨ds,hd,rfl⟩:=mS h
  obtain ⟨vs,h1,h2,h3⟩:=ok
  have r:=cM hd h3
  have e:(l.map (·.1)).length=ds.length:=by
   have e1:=congrArg List.length h2
   have e2:=r.length
   simp only [List.length_map] at e1 e2 ⊢
   omega
  obtain ⟨z1,z2⟩:=ph e
  exact ⟨a,vs,rfl,hs,h1,by rw [z1];exact h2,by rw [z2];exact r⟩
 | tup l=>cases h
 | ins c ns l=>cases h
 | wk l=>cases h
 | dT l=>cases h
 | wt l=>cases h
def Gh.outO (g:Gh K F H ρ ch) {i:Nat} {o:CO} (h:ch[i]?=some o) (ht:tvO o≠none):F (ρ i)=none:=by
 rcases g.out i (gX h).1 with y | ⟨xs,y⟩
 · exact y
 · have z:=g.fh _ _ y
   cases o with
   | lst l=>obtain ⟨vs,h1,_⟩:=g.ok i _ h;rw [h1] at z;cases z
   | dK l=>obtain ⟨vs,h1,_⟩:=g.ok i _ h;rw [h1] at z;cases z
   | tup l=>exact absurd rfl ht
   | ins c ns l=>exact absurd rfl ht
   | wk l=>exact absurd rfl ht
   | dT l=>exact absurd rfl ht
   | wt l=>exact absurd rfl ht
def Ge.en (e:Ge K δ ch σ F H ρ):En ⟨K,F,H,fun b=>∃ i,i<ch.length/\ρ i=b⟩ (lo δ ch) σ F H:=by
 refine ⟨e.gh.fh,fun b o h _=>h,Same.refl _,fun b o h=>.inl h,by simp [lo,fW,e.len],fun j t h=>?_,fun j b=>∃ i o,δ[j]?=some (some (.ref i))/\ch[i]?=some o/\ρ i=b/\tvO o≠none/\∀ m,m<j->δ[m]?≠some (some (.ref i)),fun j t v h=>?_,fun j b z=>?_,fun j k b z1 z2=>?_⟩
 · rcases fX h with ⟨d,_,q⟩ | ⟨i,o,q,_⟩
   · obtain ⟨v,hv,_⟩:=e.has j _ q
     exact ⟨v,hv⟩
   · obtain ⟨v,hv,_⟩:=e.has j _ q
     exact ⟨v,hv⟩
 · obtain ⟨h1,h2⟩:=dq h
   rcases fX h1 with ⟨d,rfl,q⟩ | ⟨i,o,q1,q2,q3,q4,q5⟩
   · obtain ⟨w,hw,r⟩:=e.has j _ q
     rw [h2] at hw
     cases hw
     exact r
   · obtain ⟨w,hw,r⟩:=e.has j _ q1
     rw [h2] at hw
     cases hw
     obtain ⟨hi,rfl⟩:=r
     exact uR q3 (e.gh.ok i o q2) ⟨i,o,q1,q2,rfl,by rw [q3];simp,q5⟩
 · obtain ⟨i,o,q1,q2,rfl,qt,q3⟩:=z
   have hi:i<ch.length:=(gX q2).1
   exact ⟨e.gh.outO q2 qt,e.gh.at hi,.inr ⟨i,hi,rfl⟩⟩
 · obtain ⟨i,o,q1,q2,e1,qt,q3⟩:=z1
   obtain ⟨i',o',q1',q2',e2,qt',q3'⟩:=z2
   have hi:i<ch.length:=(gX q2).1
   have hi':i'<ch.length:=(gX q2').1
   have:=e.gh.inj i i' hi hi' (e1.trans e2.symm)
   subst this
   by_cases h1:j<k
   · exact absurd q1 (q3' j h1)
   · by_cases h2:k<j
     · exact absurd q1' (q3 k h2)
     · exact Nat.le_antisymm (Nat.not_lt.mp h2) (Nat.not_lt.mp h1)
end
section
variable {X:Cx} {e a b o:Expr} {f fa fb:Fg} {fd:De->Option Dt} {ft:De->Option T} {pos:Pos} {i:Nat}
def eD (fd:De->Option Dt):Fg:=fun δ ch=>(fd (lo δ ch)).map fun d=>(.dat d,ch)
def bi (h:DL X e fd):GE X e (eD fd):=PE.mono h fun σ H Q ⟨δ,ch,F,ρ,c,ch',en,hf,k⟩=>by
 unfold eD at hf
 obtain ⟨d,hd,hf⟩:=mS hf
 cases hf
 exact ⟨_,_,F,d,rfl,en.en,hd,fun v H' F' st r=>k v F' H' ρ (Adv.of en.gh st) r⟩
def al (ch:CH):T->Option (CV×CH)
 | .leaf d=>some (.dat d,ch)
 | .lst l=>some (.ref ch.length,ch++[.lst (l.map .dat)])
 | .dct l=>some (.ref ch.length,ch++[.dK (l.map fun p=>(p.1,.dat p.2))])
 | _=>none
def jX {K:PySem.W.Frag} {F H:Hp} {ρ:Nat->Addr} {ch ch':CH} {c:CV} {t:T} {Q:VK} (g:Gh K F H ρ ch) (h:al ch t=some (c,ch')) (k:KG K F H ρ ch c ch' Q):KO K F H t Q:=fun v H' F' S st o hs=>by
 cases t with
 | leaf d =>
  cases h
  exact k v F' H' ρ (Adv.of g st) o
 | lst l =>
  cases h
  obtain ⟨x,vs,rfl,sa,h1,h2⟩:=o
  obtain ⟨q1,q2,_⟩:=hs x sa
  refine k _ F' H' _ (Adv.new g st q2 q1 ⟨vs,h1,RelCs.dats h2⟩) ⟨by simp,?_⟩
  dsimp only
  rw [if_pos rfl]
 | dct l =>
  cases h
  obtain ⟨x,vs,rfl,sa,h1,h2,h3⟩:=o
  obtain ⟨q1,q2,_⟩:=hs x sa
  refine k _ F' H' _ (Adv.new g st q2 q1 ⟨vs,h1,by rw [h2];simp,?_⟩) ⟨by simp,?_⟩
  · have:=RelCs.dats (ρ:=fun i=>if i=ch.length then x else ρ i) (n:=ch.length+1) h3
    rw [List.map_map] at this
    rw [List.map_map]
    exact this
  · dsimp only
    rw [if_pos rfl]
 | dcT l=>cases h
 | obj c ns l=>cases h
 | pin a t=>cases h
def eN (ft:De->Option T):Fg:=fun δ ch=>(ft (lo δ ch)).bind (al ch)
def sh (h:DO X e ft):GE X e (eN ft):=PE.mono h fun σ H Q ⟨δ,ch,F,ρ,c,ch',en,hf,k⟩=>by
 unfold eN at hf
 obtain ⟨t,ht,hf⟩:=bS hf
 exact ⟨_,_,F,t,rfl,en.en,ht,jX en.gh hf k⟩
def eV (i:Nat):Fg:=fun δ ch=>match δ[i]? with
 | some (some c)=>some (c,ch)
 | _=>none
def cB (h:PE X e (jm i)):GE X e (eV i):=PE.mono h fun σ H Q ⟨δ,ch,F,ρ,c,ch',en,hf,k⟩=>by
 unfold eV at hf
 split at hf<;>cases hf
 rename_i c q
 obtain ⟨v,h1,h2⟩:=en.has i _ q
 exact ⟨v,h1,k v F H ρ (Adv.refl en.gh) h2⟩
end
def vwO:CO->Option Dt
 | .lst l=>(dats l).map .lst
 | .dK l=>(dats (l.map (·.2))).map (.dct (l.map (·.1)))
 | .wk l=>(dats (l.map (·.2))).map (.dct (l.map (·.1)))
 | _=>none
def vw (ch:CH):CV->Option Dt
 | .dat d=>some d
 | .ref i=>(ch[i]?).bind vwO
section
variable {K:PySem.W.Frag} {F H F' H' F1 H1:Hp} {ρ ρ' ρ1:Nat->Addr} {n:Nat} {δ:Sl} {σ:St} {ch ch' ch1 ch2:CH} {c:CV} {v:V} {Q:VK} {d:Dt}
def fY (g:Gh K F H ρ ch) (r:RelC K F ρ ch.length c v) (h:vw ch c=some d):RepB K F H d v:=by
 cases c with
 | dat e=>cases h;exact RepB.of g.fh r
 | ref i =>
  obtain ⟨hi,rfl⟩:=r
  simp only [vw] at h
  obtain ⟨o,ho,h⟩:=bS h
  have ok:=g.ok i o ho
  cases o with
  | lst l =>
   obtain ⟨ds,hd,rfl⟩:=mS h
   obtain ⟨vs,h1,h2⟩:=ok
   exact ⟨_,vs,rfl,SqL.of h1,cM hd h2⟩
  | dK l =>
   obtain ⟨ds,hd,rfl⟩:=mS h
   obtain ⟨vs,h1,h2,h3⟩:=ok
   exact ⟨_,vs,rfl,.inl h1,h2,cM hd h3⟩
  | wk l =>
   obtain ⟨ds,hd,rfl⟩:=mS h
   obtain ⟨o,vs,h1,h2,h3⟩:=ok
   exact ⟨_,vs,rfl,.inr ⟨o,h1⟩,h2,cM hd h3⟩
  | tup l=>cases h
  | ins c ns l=>cases h
  | dT l=>cases h
  | wt l=>cases h
end
section
variable {X:Cx} {e a b o:Expr} {es:List Expr} {f fa fb fc:Fg} {fd:De->Option Dt} {ft:De->Option T} {pos apos cpos p:Pos} {i:Nat} {σ:St} {H:Hp} {Q:VK} {K:PySem.W.Frag}
def e2 (g:Dt->Dt->Option T) (fa fb:Fg):Fg:=fun δ ch=>(fa δ ch).bind fun p=>(fb δ p.2).bind fun q=>(vw q.2 p.1).bind fun x=>(vw q.2 q.1).bind fun y=>(g x y).bind (al q.2)
def zX {r:R2} {g:Dt->Dt->Option T} (hr:R2D K r g) (h:tG K (e2 g fa fb) σ H Q):tOp r (tG K fa) (tG K fb) σ H Q:=by
 obtain ⟨δ,ch,F,ρ,c,ch',en,hf,k⟩:=h
 unfold e2 at hf
 obtain ⟨p,hp,hf⟩:=bS hf
 obtain ⟨q,hq,hf⟩:=bS hf
 obtain ⟨x,hx,hf⟩:=bS hf
 obtain ⟨y,hy,hf⟩:=bS hf
 obtain ⟨t,ht,hf⟩:=bS hf
 refine ⟨δ,ch,F,ρ,p.1,p.2,en,hp,fun v F1 H1 ρ1 a1 r1=>⟨δ,p.2,F1,ρ1,q.1,q.2,en.adv a1,hq,fun w F2 H2 ρ2 a2 r2=>?_⟩⟩
 exact hr F2 H2 x y v w Q t a2.gh.fh (fY a2.gh (r1.mono a2.old a2.ext a2.len) hx) (fY a2.gh r2 hy) ht (jX a2.gh hf (k.adv en.gh (a1.trans en.gh a2)))
abbrev Ft:=Sl->CH->Option (Bool×CH)
def tGT (K:PySem.W.Frag) (f:Ft):TT:=fun σ H Q=>∃ δ ch F ρ b ch',Ge K δ ch σ F H ρ/\f δ ch=some (b,ch')/\∀ F' H' ρ',Adv K F H ρ ch F' H' ρ' ch'->Q b H'
def GT (X:Cx) (e:Expr) (f:Ft):Prop:=PT X e (tGT X.K f)
def tD (ft:De->Option Bool):Ft:=fun δ ch=>(ft (lo δ ch)).map fun b=>(b,ch)
def iQ {ft:De->Option Bool} (h:DT X e ft):GT X e (tD ft):=PT.mono h fun σ H Q ⟨δ,ch,F,ρ,b,ch',en,hf,k⟩=>by
 unfold tD at hf
 obtain ⟨x,hx,hf⟩:=mS hf
 cases hf
 exact ⟨_,_,F,_,rfl,en.en,hx,fun H' F' st=>k F' H' ρ (Adv.of en.gh st)⟩
def qp (f:Fg):Ft:=fun δ ch=>(f δ ch).bind fun p=>match p.1 with
 | .dat (.bl b)=>some (b,p.2)
 | _=>none
def uS {f:Fg} {Q:Bool->Hp->Prop} (h:tGT K (qp f) σ H Q):tG K f σ H fun x H'=>∃ k,x=.bl k/\Q k H':=by
 obtain ⟨δ,ch,F,ρ,b,ch',en,hf,k⟩:=h
 unfold qp at hf
 obtain ⟨p,hp,hf⟩:=bS hf
 obtain ⟨c,ch1⟩:=p
 dsimp only at hf
 split at hf<;>cases hf
 refine ⟨δ,ch,F,ρ,_,_,en,hp,fun v F' H' ρ' a r=>⟨b,?_,k F' H' ρ' a⟩⟩
 have r:Rep K F' (.bl b) v:=r
 simp only [Rep] at r
 exact r
def xQ {op:CmpOp} {r:R2} {g:Dt->Dt->Option T} (ho:OpR X (compareOp op) r) (hr:R2D X.K r g) (ha:GE X a fa) (hb:GE X b fb) (hm:behindInMarks op b=false):GT X (.Compare a [op] [b] pos) (qp (e2 g fa fb)):=
 PT.mono (ii ho ha hb hm) fun _ _ _ h=>zX hr (uS h)
def lkC {κ:Type} [DecidableEq κ] (l:List (κ×CV)) (k:κ):Option CV:=(l.find? fun p=>decide (p.1=k)).map (·.2)
def kZ {κ:Type} [DecidableEq κ] {F:Hp} {ρ:Nat->Addr} {n:Nat} {k:κ}:∀ {l:List (κ×CV)} {kvs:List (κ×V)},kvs.map (·.1)=l.map (·.1)->RelCs K F ρ n (l.map (·.2)) (kvs.map (·.2))→
  match lkC l k with | some c=>∃ v,cy kvs k=some v/\RelC K F ρ n c v | none=>cy kvs k=none
 | [],[],_,_=>rfl
 | [],p::kvs,h,_=>by cases h
 | p::l,[],h,_=>by cases h
 | p::l,q::kvs,h,r=>by
  simp only [List.map_cons,List.cons.injEq] at h
  obtain ⟨v,ws,e,r1,r2⟩:=r
  simp only [List.map_cons,List.cons.injEq] at e
  obtain ⟨rfl,rfl⟩:=e
  have ih:=kZ (k:=k) h.2 r2
  by_cases hk:p.1=k
  · have e1:lkC (p::l) k=some p.2:=by simp [lkC,hk]
    rw [e1]
    exact ⟨q.2,dY (h.1.trans hk),r1⟩
  · have e1:lkC (p::l) k=lkC l k:=by simp [lkC,hk]
    rw [e1,dm (by rw [h.1];exact hk)]
    exact ih
def ixO (o:CO) (d:Dt):Option CV:=match o with
 | .lst l=>(asI d).bind (atI l)
 | .tup l=>(asI d).bind (atI l)
 | .dK l=>(fV d).bind (lkC l)
 | .wk l=>(fV d).bind (lkC l)
 | _=>none
def lb {F:Hp} {d:Dt} {v:V} {j:Int} (h:asI d=some j) (r:Rep K F d v):v=.int j:=by
 unfold asI at h
 split at h<;>cases h
 simp only [Rep] at r
 exact r
def fZ {F:Hp} {d:Dt} {v:V} {j:Key} (h:fV d=some j) (r:Rep K F d v):v=kV j:=by
 unfold fV at h
 split at h<;>cases h<;>(simp only [Rep] at r;exact r)
def pi {F:Hp} {ρ:Nat->Addr} {n:Nat} {l:List CV} {vs:List V} {j:Int} {c:CV} (r:RelCs K F ρ n l vs) (h:atI l j=some c):∃ v,atI vs j=some v/\RelC K F ρ n c v:=by
 unfold atI at h ⊢
 obtain ⟨m,hm,h⟩:=bS h
 obtain ⟨v,h1,h2⟩:=r.get h
 exact ⟨v,by rw [r.length,hm];exact h1,h2⟩
def eIx (fa fb:Fg):Fg:=fun δ ch=>(fa δ ch).bind fun p=>(fb δ p.2).bind fun q=>match p.1,q.1 with
 | .ref i,.dat d=>((q.2[i]?).bind fun o=>ixO o d).map fun c=>(c,q.2)
 | .dat x,.dat d=>(gIx x d).bind (al q.2)
 | _,_=>none
def wj {k:Nat} (hr:Room k X.A) (ha:GE X a fa) (hb:GE X b fb) (hs:kt b:=by exact fun _ _=>rfl) (hn:p9 b:=by exact fun _ _=>rfl):GE X (.Subscript a b pos) (eIx fa fb):=
 PE.mono (PE.or (v0 rf ha hb hs) (oQ (jC hr) ha hb hn)) fun σ H Q ⟨δ,ch,F,ρ,c,ch',en,hf,kk⟩=>by
  unfold eIx at hf
  obtain ⟨⟨c1,ch1⟩,hp,hf⟩:=bS hf
  obtain ⟨⟨c2,ch2⟩,hq,hf⟩:=bS hf
  dsimp only at hq hf
  split at hf<;>first | (cases hf;done) | skip
  rotate_left
  · rename_i x d hz
    obtain ⟨t,ht,hf⟩:=bS hf
    left
    refine ⟨δ,ch,F,ρ,_,ch1,en,hp,fun v F1 H1 ρ1 a1 r1=>⟨δ,ch1,F1,ρ1,_,_,en.adv a1,hq,fun w F2 H2 ρ2 a2 r2=>?_⟩⟩
    exact r_ix F2 H2 x d v w Q t a2.gh.fh (fY (c:=.dat x) a2.gh (r1.mono a2.old a2.ext a2.len) rfl) (fY (c:=.dat d) a2.gh r2 rfl) ht (jX a2.gh hf (kk.adv en.gh (a1.trans en.gh a2)))
  rename_i i d hz
  obtain ⟨c',hc,hf⟩:=mS hf
  cases hf
  obtain ⟨o,ho,hc⟩:=bS hc
  cases o with
  | lst l =>
   obtain ⟨j,hj,hc⟩:=bS hc
   left
   refine ⟨δ,ch,F,ρ,_,ch1,en,hp,fun v F1 H1 ρ1 a1 r1=>⟨δ,ch1,F1,ρ1,_,_,en.adv a1,hq,fun w F2 H2 ρ2 a2 r2=>?_⟩⟩
   obtain ⟨vs,h1,h2⟩:=a2.gh.ok i _ ho
   obtain ⟨u,hu,ru⟩:=pi h2 hc
   exact .inl ⟨_,vs,j,u,(r1.mono a2.old a2.ext a2.len).2,lb hj r2,SqL.of h1,hu,kk u F2 H2 ρ2 (a1.trans en.gh a2) ru⟩
  | tup l =>
   obtain ⟨j,hj,hc⟩:=bS hc
   left
   refine ⟨δ,ch,F,ρ,_,ch1,en,hp,fun v F1 H1 ρ1 a1 r1=>⟨δ,ch1,F1,ρ1,_,_,en.adv a1,hq,fun w F2 H2 ρ2 a2 r2=>?_⟩⟩
   obtain ⟨vs,h1,h2⟩:=a2.gh.ok i _ ho
   obtain ⟨u,hu,ru⟩:=pi h2 hc
   exact .inr (.inl ⟨_,vs,j,u,(r1.mono a2.old a2.ext a2.len).2,lb hj r2,SqT.of h1,hu,kk u F2 H2 ρ2 (a1.trans en.gh a2) ru⟩)
  | dK l =>
   obtain ⟨j,hj,hc⟩:=bS hc
   right
   refine ⟨δ,ch,F,ρ,_,ch1,en,hp,fun v F1 H1 ρ1 a1 r1=>⟨δ,ch1,F1,ρ1,_,_,en.adv a1,hq,fun w F2 H2 ρ2 a2 r2=>?_⟩⟩
   obtain ⟨kvs,h1,h2,h3⟩:=a2.gh.ok i _ ho
   have lk:=kZ (k:=j) h2 h3
   rw [hc] at lk
   obtain ⟨u,hu,ru⟩:=lk
   refine ⟨_,u,(r1.mono a2.old a2.ext a2.len).2,?_,kk u F2 H2 ρ2 (a1.trans en.gh a2) ru⟩
   rw [fZ hj r2,<- hu]
   exact DGet.k h1
  | wk l =>
   obtain ⟨j,hj,hc⟩:=bS hc
   right
   refine ⟨δ,ch,F,ρ,_,ch1,en,hp,fun v F1 H1 ρ1 a1 r1=>⟨δ,ch1,F1,ρ1,_,_,en.adv a1,hq,fun w F2 H2 ρ2 a2 r2=>?_⟩⟩
   obtain ⟨o,kvs,h1,h2,h3⟩:=a2.gh.ok i _ ho
   have lk:=kZ (k:=j) h2 h3
   rw [hc] at lk
   obtain ⟨u,hu,ru⟩:=lk
   refine ⟨_,u,(r1.mono a2.old a2.ext a2.len).2,?_,kk u F2 H2 ρ2 (a1.trans en.gh a2) ru⟩
   rw [fZ hj r2,<- hu]
   exact .inl ⟨kvs,j,.inr ⟨o,h1⟩,rfl,rfl⟩
  | ins c ns l=>cases hc
  | dT l=>cases hc
  | wt l=>cases hc
abbrev Fgs:=Sl->CH->Option (List CV×CH)
def tGs (K:PySem.W.Frag) (f:Fgs):TA:=fun σ H Q=>∃ δ ch F ρ cs ch',Ge K δ ch σ F H ρ/\f δ ch=some (cs,ch')/\∀ vs F' H' ρ',Adv K F H ρ ch F' H' ρ' ch'->RelCs K F' ρ' ch'.length cs vs->Q vs H'
def GA (X:Cx) (es:List Expr) (f:Fgs):Prop:=PA X es (tGs X.K f)
def iR:Fgs:=fun _ ch=>some ([],ch)
def cT (f:Fg) (fs:Fgs):Fgs:=fun δ ch=>(f δ ch).bind fun p=>(fs δ p.2).map fun q=>(p.1::q.1,q.2)
def nW:GA X [] iR:=PA.mono dU fun σ H Q ⟨δ,ch,F,ρ,cs,ch',en,hf,k⟩=>by
 cases hf
 exact k [] F H ρ (Adv.refl en.gh) rfl
def ld {fs:Fgs} (h:GE X e f) (hr:GA X es fs) (hs:starEach (e::es) X.env=(false,eval e X.env)::starEach es X.env:=by rfl):GA X (e::es) (cT f fs):=PA.mono (cF h hr hs) fun σ H Q ⟨δ,ch,F,ρ,cs,ch',en,hf,k⟩=>by
 unfold cT at hf
 obtain ⟨p,hp,hf⟩:=bS hf
 obtain ⟨q,hq,hf⟩:=mS hf
 cases hf
 exact ⟨δ,ch,F,ρ,p.1,p.2,en,hp,fun v F1 H1 ρ1 a1 r1=>⟨δ,p.2,F1,ρ1,q.1,q.2,en.adv a1,hq,fun ws F2 H2 ρ2 a2 r2=>k (v::ws) F2 H2 ρ2 (a1.trans en.gh a2) ⟨v,ws,rfl,r1.mono a2.old a2.ext a2.len,r2⟩⟩⟩
def xR {F H:Hp} {ρ:Nat->Addr} {ch:CH} {o:CO} {u:HO} {a:Addr} (g:Gh K F H ρ ch) (ha:H a=none) (ho:CoOk K F (upd H a u) ρ ch.length a o):Adv K F H ρ ch F (upd H a u) (fun i=>if i=ch.length then a else ρ i) (ch++[o]):=
 Adv.new g (Step.made g.fh ha) ha (g.fh.free ha) (ho.mono (Same.refl _) (fun i hi=>if_neg (Nat.ne_of_lt hi)) (Nat.le_succ _) fun _ h=>h)
abbrev Fd:=List CV->CH->Option (CV×CH)
def spG (K:PySem.W.Frag) (n:Nat) (f:Fd):Sp:=fun vs H Q _=>∃ F ρ cs ch c ch',Gh K F H ρ ch/\cs.length=n/\RelCs K F ρ ch.length cs vs/\f cs ch=some (c,ch')/\KG K F H ρ ch c ch' Q
def eC (g:Fd) (fs:Fgs):Fg:=fun δ ch=>(fs δ ch).bind fun p=>g p.1 p.2
def pj {sc:Scope} {x:Str} {k n:Nat} {ps:List Str} {g:Fd} {fs:Fgs} (h:aH sc x=true) (F:OkF X.prog X.w X.K X.mg X.base x k ps (spG X.K n g)) (hr:Room k X.A) (ha:GA X (e::es) fs) (hn:∀ δ ch p,fs δ ch=some p->p.1.length=n) (e1:bM X sc:=by rfl)
  (he:starEach (e::es) X.env=(false,eval e X.env)::starEach es X.env:=by rfl) (hpl:(backTo cpos (starEach es X.env)).any (·.1)=false:=by rfl):GE X (.Call (.Name x p) (e::es) [] cpos) (eC g fs):=
 PE.mono (jH h F hr ha e1 he hpl) fun σ H Q ⟨δ,ch,F,ρ,c,ch',en,hf,k⟩=>by
  unfold eC at hf
  obtain ⟨p,hp,hf⟩:=bS hf
  refine ⟨δ,ch,F,ρ,p.1,p.2,en,hp,fun vs F1 H1 ρ1 a1 r1=>?_⟩
  show spG X.K n g (vs++[]) H1 Q E0
  rw [List.append_nil]
  exact ⟨F1,ρ1,p.1,p.2,c,ch',a1.gh,hn δ ch p hp,r1,hf,k.adv en.gh a1⟩
end
inductive Og where
 | nx (δ:Sl) (ch:CH) | rt (c:CV) (ch:CH) | bk (δ:Sl) (ch:CH) | ct (δ:Sl) (ch:CH)
noncomputable def PostG (K:PySem.W.Frag) (F H:Hp) (ρ:Nat->Addr) (ch:CH) (D:Ends):Og->Prop
 | .nx δ' ch'=>∀ σ' F' H' ρ',Adv K F H ρ ch F' H' ρ' ch'->Ge K δ' ch' σ' F' H' ρ'->D.nx σ' H'
 | .rt c ch'=>∀ v F' H' ρ',Adv K F H ρ ch F' H' ρ' ch'->RelC K F' ρ' ch'.length c v->D.rt v H'
 | .bk δ' ch'=>∀ σ' F' H' ρ',Adv K F H ρ ch F' H' ρ' ch'->Ge K δ' ch' σ' F' H' ρ'->D.bk σ' H'
 | .ct δ' ch'=>∀ σ' F' H' ρ',Adv K F H ρ ch F' H' ρ' ch'->Ge K δ' ch' σ' F' H' ρ'->D.ct σ' H'
abbrev Fs:=Sl->CH->Option Og
def tGS (K:PySem.W.Frag) (g:Fs):TS:=fun D σ H=>∃ δ ch F ρ o,Ge K δ ch σ F H ρ/\g δ ch=some o/\PostG K F H ρ ch D o
def GS1 (X:Cx) (st:Stmt) (g:Fs):Prop:=PS X st (tGS X.K g)
def GS (X:Cx) (ss:List Stmt) (g:Fs):Prop:=PSs X ss (tGS X.K g)
section
variable {K:PySem.W.Frag} {F H F' H' F1 H1:Hp} {ρ ρ' ρ1:Nat->Addr} {ch ch' ch1:CH} {D:Ends} {o:Og}
def PostG.adv (k:PostG K F H ρ ch D o) (g:Gh K F H ρ ch) (a:Adv K F H ρ ch F1 H1 ρ1 ch1):PostG K F1 H1 ρ1 ch1 D o:=by
 cases o with
 | nx δ' c'=>exact fun σ' F' H' ρ' b e=>k σ' F' H' ρ' (a.trans g b) e
 | rt c c'=>exact fun v F' H' ρ' b e=>k v F' H' ρ' (a.trans g b) e
 | bk δ' c'=>exact fun σ' F' H' ρ' b e=>k σ' F' H' ρ' (a.trans g b) e
 | ct δ' c'=>exact fun σ' F' H' ρ' b e=>k σ' F' H' ρ' (a.trans g b) e
end
section
variable {X:Cx} {st:Stmt} {rest a b body:List Stmt} {g g1 g2:Fs} {e c o tg iter:Expr} {es:List Expr} {pos apos cpos:Pos} {f fa fe fk:Fg} {tc:Ft} {i:Nat} {K:PySem.W.Frag}
def ga:Fs:=fun δ ch=>some (.nx δ ch)
def bm (g1 g2:Fs):Fs:=fun δ ch=>(g1 δ ch).bind fun o=>match o with
 | .nx δ' ch'=>g2 δ' ch'
 | o=>some o
def fw:GS X [] ga:=PSs.mono oC fun D σ H ⟨δ,ch,F,ρ,o,en,hg,k⟩=>by
 cases hg
 exact k σ F H ρ (Adv.refl en.gh) en
def bP (h:GS1 X st g):GS X [st] g:=oD h
def aZ (h1:GS1 X st g1) (h2:GS X rest g2):GS X (st::rest) (bm g1 g2):=PSs.mono (lK h1 h2) fun D σ H ⟨δ,ch,F,ρ,o,en,hg,k⟩=>by
 unfold bm at hg
 obtain ⟨o1,h1,hg⟩:=bS hg
 refine ⟨δ,ch,F,ρ,o1,en,h1,?_⟩
 cases o1 with
 | nx δ' ch'=>exact fun σ' F' H' ρ' a en'=>⟨δ',ch',F',ρ',o,en',hg,k.adv en.gh a⟩
 | rt c ch'=>cases hg;exact k
 | bk δ' ch'=>cases hg;exact k
 | ct δ' ch'=>cases hg;exact k
def dM (f:Fg):Fs:=fun δ ch=>(f δ ch).map fun p=>.rt p.1 p.2
def fA (h:GE X e f):GS1 X (.Return (some e) pos) (dM f):=PS.mono (np h) fun D σ H ⟨δ,ch,F,ρ,o,en,hg,k⟩=>by
 unfold dM at hg
 obtain ⟨p,hp,hg⟩:=mS hg
 cases hg
 exact ⟨δ,ch,F,ρ,p.1,p.2,en,hp,k⟩
def gb (c:Ft) (g1 g2:Fs):Fs:=fun δ ch=>(c δ ch).bind fun p=>if p.1 then g1 δ p.2 else g2 δ p.2
def iS (hc:GT X c tc) (h1:GS X a g1) (h2:GS X b g2):GS1 X (.If c a b pos) (gb tc g1 g2):=PS.mono (vU hc h1 h2) fun D σ H ⟨δ,ch,F,ρ,o,en,hg,k⟩=>by
 unfold gb at hg
 obtain ⟨p,hp,hg⟩:=bS hg
 refine ⟨δ,ch,F,ρ,p.1,p.2,en,hp,fun F' H' ρ' a=>?_⟩
 split at hg
 · rename_i q
   rw [if_pos q]
   exact ⟨δ,p.2,F',ρ',o,en.adv a,hg,k.adv en.gh a⟩
 · rename_i q
   rw [if_neg q]
   exact ⟨δ,p.2,F',ρ',o,en.adv a,hg,k.adv en.gh a⟩
def Ge.put {δ:Sl} {σ:St} {F H:Hp} {ρ:Nat->Addr} {ch:CH} {x:CV} {v:V} (en:Ge K δ ch σ F H ρ) (r:RelC K F ρ ch.length x v) (i:Nat):Ge K (δ.set i (some x)) ch (σ.set i (some v)) F H ρ:=⟨en.gh,by simp [en.len],fun j y h=>by
 rcases dB h with ⟨rfl,z⟩ | ⟨hn,z⟩
 · cases z
   have hi:i<σ.length:=by
    rw [<- en.len]
    have:=(gX h).1
    simpa using this
   exact ⟨v,by simp [hi],r⟩
 · obtain ⟨w,h1,h2⟩:=en.has j y z
   exact ⟨w,by rw [gN hn];exact h1,h2⟩⟩
def bp (i:Nat) (f:Fg):Fs:=fun δ ch=>(f δ ch).map fun p=>.nx (δ.set i (some p.1)) p.2
def ce {sc:Scope} {N:List Str} {x:Str} {pos':Pos} (h:dA sc N i x=true) (hl:iF sc x=true) (nd:N.Nodup) (he:GE X e f) (e1:bM X sc:=by rfl) (e2:X.N=N:=by rfl) (hf:X.fn x=true∨X.env.scope.names.lookup x=some .local:=by exact .inl rfl)
  (hs:swapsWith e (some (.Name x pos')) pos.line X.env=pure false:=by rfl):GS1 X (.Assign [.Name x pos'] e pos) (bp i f):=PS.mono (oX h hl nd he e1 e2 hf hs) fun D σ H ⟨δ,ch,F,ρ,o,en,hg,k⟩=>by
 unfold bp at hg
 obtain ⟨p,hp,hg⟩:=mS hg
 cases hg
 exact ⟨δ,ch,F,ρ,p.1,p.2,en,hp,fun v F' H' ρ' a r=>k _ F' H' ρ' a ((en.adv a).put r i)⟩
def mgS (ts:List Nat) (δ:Sl) (δ1:De):Sl:=δ.mapIdx fun j x=>if j∈ts then (match δ1[j]? with | some (some (.leaf d))=>some (.dat d) | _=>none) else x
def Ge.mg {δ:Sl} {σ σ':St} {F H:Hp} {ρ:Nat->Addr} {ch:CH} {ts:List Nat} {δ1:De} {Φ:Fm} (en:Ge K δ ch σ F H ρ) (hK:Φ.K=K) (hl:σ'.length=σ.length) (hs:∀ j,j∉ts->σ'[j]?=σ[j]?) (e:En Φ δ1 σ' F H):Ge K (mgS ts δ δ1) ch σ' F H ρ:=⟨en.gh,by simp [mgS,en.len,hl],fun j x h=>by
 unfold mgS at h
 rw [List.getElem?_mapIdx] at h
 obtain ⟨y,hy,h⟩:=mS h
 by_cases hj:j∈ts
 · rw [if_pos hj] at h
   split at h<;>cases h
   rename_i d q
   obtain ⟨v,h1,h2⟩:=e.leaf q
   exact ⟨v,h1,(hK▸h2:Rep K F d v)⟩
 · rw [if_neg hj] at h
   subst h
   obtain ⟨v,h1,h2⟩:=en.has j x hy
   exact ⟨v,by rw [hs j hj];exact h1,h2⟩⟩
noncomputable def gJ (ts:List Nat) (bb:Dt->De->Option De) (g:Fs):List Dt->Sl->CH->Option Og
 | [],δ,ch=>some (.nx δ ch)
 | d::r,δ,ch=>(bb d (lo δ ch)).bind fun δ1=>(g (mgS ts δ δ1) ch).bind fun o=>match o with
  | .nx δ2 ch2=>gJ ts bb g r δ2 ch2
  | .ct δ2 ch2=>gJ ts bb g r δ2 ch2
  | .bk δ2 ch2=>some (.nx δ2 ch2)
  | .rt c ch2=>some (.rt c ch2)
def eZ (fi:De->Option (List Dt)) (ts:List Nat) (bb:Dt->De->Option De) (g:Fs):Fs:=fun δ ch=>(fi (lo δ ch)).bind fun ds=>gJ ts bb g ds δ ch
def lg {fi:De->Option (List Dt)} {ts:List Nat} {bb:Dt->De->Option De} (hp:PassesOwn (model X.prog X.w) X.A X.env X.xe) (hc:X.calm=true) (hi:DIF X tg iter fi) (hg:DG X tg ts bb) (hb:GS X body g)
  (hs:∀ x,foldedSetIterable iter X.env x=pure x:=by intro _;rfl):GS1 X (.For tg iter body [] pos) (eZ fi ts bb g):=PS.mono (qV hp hc hi hg hb hs) fun D σ H ⟨δ,ch,F,ρ,o,en,hg,k⟩=>by
 unfold eZ at hg
 obtain ⟨ds,hd,hg⟩:=bS hg
 rw [oW]
 refine ⟨_,_,F,ds,rfl,en.en,hd,fun J ok H1 F1 st1 wd ho=>?_⟩
 have a1:=Adv.of en.gh st1
 have en1:=en.adv a1
 have k1:=k.adv en.gh a1
 refine lY (n:=ds.length) (fun i σ' H'=>∃ δ' ch' F' ρ',Adv X.K F1 H1 ρ ch F' H' ρ' ch'/\Ge X.K δ' ch' σ' F' H' ρ'/\gJ ts bb g (ds.drop i) δ' ch'=some o) ⟨δ,ch,F1,ρ,Adv.refl en1.gh,en1,by simpa using hg⟩ (fun i σ' H' ⟨δ',ch',F',ρ',a',en',_⟩=>?_) ?_ ?_
 · obtain ⟨p1,p2,_⟩:=wd i H' F' (ho H' (a'.old.trans en'.gh.fh)) en'.gh.fh a'.old
   exact ⟨p1,p2⟩
 · rintro i x σ' H' H'' hi ⟨δ',ch',F',ρ',a',en',hgo⟩ hy
   obtain ⟨_,_,p3⟩:=wd i H' F' (ho H' (a'.old.trans en'.gh.fh)) en'.gh.fh a'.old
   obtain ⟨d,F2,hd',st2,rd⟩:=p3 x H'' hi hy
   rw [im hd'] at hgo
   unfold gJ at hgo
   obtain ⟨δ1,h1,hgo⟩:=bS hgo
   obtain ⟨o1,h2,hgo⟩:=bS hgo
   have a2:=Adv.of en'.gh st2
   have a3:=a'.trans en1.gh a2
   have en2:=en'.adv a2
   refine ⟨_,_,F2,d,δ1,rfl,en2.en,rd,h1,fun σ1 l1 q1 e1=>⟨_,ch',F2,ρ',o1,en2.mg rfl l1 q1 e1,h2,?_⟩⟩
   cases o1 with
   | nx δ2 c2=>exact fun σ2 F3 H3 ρ3 a4 en4=>⟨δ2,c2,F3,ρ3,a3.trans en1.gh a4,en4,hgo⟩
   | ct δ2 c2=>exact fun σ2 F3 H3 ρ3 a4 en4=>⟨δ2,c2,F3,ρ3,a3.trans en1.gh a4,en4,hgo⟩
   | bk δ2 c2=>cases hgo;exact fun σ2 F3 H3 ρ3 a4 en4=>k1 σ2 F3 H3 ρ3 (a3.trans en1.gh a4) en4
   | rt c c2=>cases hgo;exact fun v F3 H3 ρ3 a4 r=>k1 v F3 H3 ρ3 (a3.trans en1.gh a4) r
 · rintro σ' H' ⟨δ',ch',F',ρ',a',en',hgo⟩
   rw [List.drop_length] at hgo
   cases hgo
   exact k1 σ' F' H' ρ' a' en'
noncomputable def cf (c:Ft) (g:Fs):Nat->Fs
 | 0,_,_=>none
 | n+1,δ,ch=>(c δ ch).bind fun p=>if p.1 then (g δ p.2).bind fun o=>match o with
  | .nx δ2 ch2=>cf c g n δ2 ch2
  | .ct δ2 ch2=>cf c g n δ2 ch2
  | .bk δ2 ch2=>some (.nx δ2 ch2)
  | .rt c ch2=>some (.rt c ch2) else some (.nx δ p.2)
noncomputable def e5 (fa fe:Fg):Fs:=fun δ ch=>(fa δ ch).bind fun p=>(fe δ p.2).bind fun q=>match p.1 with
 | .ref i=>match p.2[i]?,q.2[i]? with
  | some (.lst _),some (.lst l)=>if l.length<sizeLine then some (.nx δ (q.2.set i (.lst (l++[q.1])))) else none
  | _,_=>none
 | _=>none
def gK (hx:GE X o fa) (he:GE X e fe)
  (hbase:attributeBase o "append" X.env (eval o X.env)=eval o X.env:=by rfl)
  (hfew:((backTo cpos (starEach [e] X.env)).all (fun x=>!x.1)&&(backToKw cpos (keywordEach [] X.env)).all (fun x=>x.1.isSome)
   && decide ([e].length+([]:List Keyword).length+(if ([]:List Keyword).isEmpty then 0 else 1)<30))=true:=by rfl)
  (hline:(apos.endLine==cpos.line)=true:=by rfl) (hs:starEach [e] X.env=(false,eval e X.env)::starEach [] X.env:=by rfl) (hplain:(backTo cpos (starEach [] X.env)).any (·.1)=false:=by rfl)
  (hsw:swapsWith (.Call (.Attribute o "append" apos) [e] [] cpos) none pos.line X.env=pure false:=by rfl) :
  GS1 X (.Expr (.Call (.Attribute o "append" apos) [e] [] cpos) pos) (e5 fa fe):=
 PS.mono (kn (oN PySem.F.plainAttrs_list PySem.F.slot_list_append PySem.F.type_list_append ez hx (cF he dU hs) hbase hfew hline hs hplain) hsw) fun D σ H ⟨δ,ch,F,ρ,og,en,hg,k⟩=>by
  unfold e5 at hg
  obtain ⟨⟨c1,ch1⟩,hp,hg1⟩:=bS hg
  clear hg
  obtain ⟨⟨c2,ch2⟩,hq,hg⟩:=bS hg1
  clear hg1
  dsimp only at hq hg
  split at hg<;>first | (cases hg;done) | skip
  rename_i i
  split at hg<;>first | (cases hg;done) | skip
  rename_i l0 l h0 h1
  split at hg<;>cases hg
  rename_i hz
  refine ⟨δ,ch,F,ρ,_,ch1,en,hp,fun v F1 H1 ρ1 a1 r1=>?_⟩
  obtain ⟨vs0,q0,_⟩:=a1.gh.ok i _ h0
  obtain ⟨hi,rfl⟩:=r1
  refine ⟨.inl ⟨rfl,vs0,.inl (.inl q0)⟩,δ,ch1,F1,ρ1,c2,ch2,en.adv a1,hq,fun w F2 H2 ρ2 a2 r2=>?_⟩
  obtain ⟨vs,q1,q2⟩:=a2.gh.ok i _ h1
  rw [a2.ext i hi] at q1
  refine ⟨_,vs,w,rfl,rfl,q1,by rw [q2.length];exact hz,?_⟩
  have hi2:i<ch2.length:=(gX h1).1
  have a3:=Adv.upd (o:=.lst (l++[c2])) (u:=.lst (vs++[w])) (w:=.lst vs) a2.gh hi2 (by rw [a2.ext i hi];exact q1) (fun _ _ z=>nomatch z) ⟨_,aI,q2.append (RelCs.one r2)⟩
  rw [a2.ext i hi] at a3
  have a:=(a1.trans en.gh a2).trans en.gh a3
  exact k σ F2 _ ρ2 a (en.adv a)
def ic {κ:Type} [DecidableEq κ]:List (κ×CV)->κ->CV->List (κ×CV)
 | [],k,c=>[(k,c)]
 | p::l,k,c=>if p.1=k then (p.1,c)::l else p::ic l k c
noncomputable def si (o:CO) (d:Dt) (c:CV):Option CO:=match o with
 | .lst l=>(asI d).bind fun j=>(ixN l.length j).map fun m=>.lst (l.set m c)
 | .dK l=>(fV d).bind fun k=>if l.length<sizeLine/\(l.map (·.1)).Nodup then some (.dK (ic l k c)) else none
 | _=>none
def mt {κ:Type} [DecidableEq κ] {F:Hp} {ρ:Nat->Addr} {n:Nat} {k:κ} {c:CV} {v:V} (r:RelC K F ρ n c v):∀ {l:List (κ×CV)} {kvs:List (κ×V)},(l.map (·.1)).Nodup->kvs.map (·.1)=l.map (·.1)->RelCs K F ρ n (l.map (·.2)) (kvs.map (·.2))→
  (bL kvs k v).map (·.1)=(ic l k c).map (·.1)/\RelCs K F ρ n ((ic l k c).map (·.2)) ((bL kvs k v).map (·.2))
 | [],[],_,_,_=>⟨rfl,⟨v,[],rfl,r,rfl⟩⟩
 | [],q::kvs,_,h,_=>by cases h
 | p::l,[],_,h,_=>by cases h
 | p::l,q::kvs,nd,h,rs=>by
  simp only [List.map_cons,List.cons.injEq] at h
  obtain ⟨h1,h2⟩:=h
  obtain ⟨w,ws,e,r1,r2⟩:=rs
  simp only [List.map_cons,List.cons.injEq] at e
  obtain ⟨rfl,rfl⟩:=e
  have nd':=List.nodup_cons.mp nd
  by_cases hk:p.1=k
  · have hq:q.1=k:=h1.trans hk
    have hnone:∀ x∈kvs,¬ x.1=k:=fun x hx e=>nd'.1 (by
     have:x.1∈kvs.map (·.1):=List.mem_map_of_mem hx
     rw [h2] at this
     rw [e,<- hk] at this
     exact this)
    have e2:bL (q::kvs) k v=(q.1,v)::kvs:=by
     unfold bL
     rw [if_pos (by simp [hq])]
     simp only [List.map_cons,if_pos hq,List.cons.injEq,true_and]
     have:∀ x∈kvs,(if x.1=k then (x.1,v) else x)=id x:=fun x hx=>if_neg (hnone x hx)
     rw [List.map_congr_left this,List.map_id]
    have e1:ic (p::l) k c=(p.1,c)::l:=by simp only [ic,if_pos hk]
    rw [e1,e2]
    exact ⟨by simp [h1,h2],⟨v,_,rfl,r,r2⟩⟩
  · have hq:¬ q.1=k:=fun z=>hk (h1.symm.trans z)
    have e2:bL (q::kvs) k v=q::bL kvs k v:=by
     unfold bL
     by_cases ha:(kvs.any fun kv=>decide (kv.1=k))=true
     · rw [if_pos ha,if_pos (by simp only [List.any_cons,ha,Bool.or_true])]
       simp only [List.map_cons,if_neg hq]
     · rw [if_neg ha,if_neg (by simp only [List.any_cons,decide_eq_false hq,Bool.false_or];exact ha)]
       rfl
    have e1:ic (p::l) k c=p::ic l k c:=by simp only [ic,if_neg hk]
    obtain ⟨i1,i2⟩:=mt (k:=k) r nd'.2 h2 r2
    rw [e1,e2]
    exact ⟨by simp [h1,i1],⟨q.2,_,rfl,r1,i2⟩⟩
def g9 (fa fk fe:Fg):Fs:=fun δ ch=>(fe δ ch).bind fun p=>(fa δ p.2).bind fun q=>(fk δ q.2).bind fun r=>match q.1,r.1 with
 | .ref i,.dat d=>((r.2[i]?).bind fun o=>si o d p.1).map fun o'=>.nx δ (r.2.set i o')
 | _,_=>none
def sj {k:Nat} {ik:Expr} {pos':Pos} (hr:Room k X.A) (hx:GE X o fa) (hk:GE X ik fk) (he:GE X e fe) (hs:swapsWith e (some (.Subscript o ik pos')) pos.line X.env=pure false:=by rfl)
  (hs2:swapsWithSole [.Subscript o ik pos'] e pos.line X.env=pure false:=by rfl) (hw:swappedStores [.Subscript o ik pos'] e X.env=pure none:=by rfl)
  (h1:(assignEach [.Subscript o ik pos'] X.env).map (·.2)=[assign (.Subscript o ik pos') X.env]:=by rfl)
  (ha:∀ v,assign (.Subscript o ik pos') X.env v=(do
   let ov <- holding [v] (eval o X.env)
   let iv <- holding [v,ov] (eval ik X.env)
   standAt pos'
   holding [v,ov,iv] (setItem ov iv v)
   release [v,ov,iv] []):=by intro _;rfl):GS1 X (.Assign [.Subscript o ik pos'] e pos) (g9 fa fk fe):=
 PS.mono (PS.or (nq he (qS hx hk lO ha) hs2 hw h1) (oR (jC hr) hx hk he hs)) fun D σ H ⟨δ,ch,F,ρ,og,en,hg,kk⟩=>by
  unfold g9 at hg
  obtain ⟨⟨c1,ch1⟩,hp,hg1⟩:=bS hg
  clear hg
  obtain ⟨⟨c2,ch2⟩,hq,hg2⟩:=bS hg1
  clear hg1
  obtain ⟨⟨c3,ch3⟩,hw,hg⟩:=bS hg2
  clear hg2
  dsimp only at hq hw hg
  split at hg<;>first | (cases hg;done) | skip
  rename_i i d
  obtain ⟨o',hput,hg⟩:=mS hg
  cases hg
  obtain ⟨o0,ho,hput⟩:=bS hput
  cases o0 with
  | lst l =>
   obtain ⟨j,hj,hput⟩:=bS hput
   obtain ⟨m,hm,rfl⟩:=mS hput
   left
   refine ⟨δ,ch,F,ρ,_,ch1,en,hp,fun v F1 H1 ρ1 a1 r1=>⟨δ,ch1,F1,ρ1,_,ch2,en.adv a1,hq,fun x F2 H2 ρ2 a2 r2=>⟨δ,ch2,F2,ρ2,_,ch3,(en.adv a1).adv a2,hw,fun y F3 H3 ρ3 a3 r3=>?_⟩⟩⟩
   obtain ⟨vs,q1,q2⟩:=a3.gh.ok i _ ho
   have hi3:i<ch3.length:=(gX ho).1
   have a12:=a1.trans en.gh a2
   have a13:=a12.trans en.gh a3
   have r1':=(r1.mono a2.old a2.ext a2.len).mono a3.old a3.ext a3.len
   refine ⟨_,vs,j,m,(r2.mono a3.old a3.ext a3.len).2,lb hj r3,q1,by rw [q2.length];exact hm,?_⟩
   have a4:=Adv.upd (o:=.lst (l.set m c1)) (u:=.lst (vs.set m v)) a3.gh hi3 q1 (fun _ _ z=>nomatch z) ⟨_,aI,q2.set r1' m⟩
   have a:=a13.trans en.gh a4
   exact kk σ F3 _ ρ3 a (en.adv a)
  | dK l =>
   obtain ⟨j,hj,hput⟩:=bS hput
   split at hput<;>first | (cases hput;done) | skip
   rename_i hz
   cases hput
   right
   refine ⟨δ,ch,F,ρ,_,ch1,en,hp,fun v F1 H1 ρ1 a1 r1=>⟨δ,ch1,F1,ρ1,_,ch2,en.adv a1,hq,fun x F2 H2 ρ2 a2 r2=>⟨δ,ch2,F2,ρ2,_,ch3,(en.adv a1).adv a2,hw,fun y F3 H3 ρ3 a3 r3=>?_⟩⟩⟩
   obtain ⟨kvs,q1,q2,q3⟩:=a3.gh.ok i _ ho
   have hi3:i<ch3.length:=(gX ho).1
   have a12:=a1.trans en.gh a2
   have a13:=a12.trans en.gh a3
   have r1':=(r1.mono a2.old a2.ext a2.len).mono a3.old a3.ext a3.len
   obtain ⟨z1,z2⟩:=mt (k:=j) r1' hz.2 q2 q3
   have hlen:kvs.length=l.length:=by
    have:=congrArg List.length q2
    simpa using this
   refine ⟨_,upd H3 (ρ3 i) (.dK (bL kvs j v)),(r2.mono a3.old a3.ext a3.len).2,?_,?_⟩
   · rw [fZ hj r3]
     exact DPut.k q1 (by rw [hlen];exact hz.1)
   · have a4:=Adv.upd (o:=.dK (ic l j c1)) (u:=.dK (bL kvs j v)) a3.gh hi3 q1 (fun _ _ z=>nomatch z) ⟨_,aI,z1,z2⟩
     have a:=a13.trans en.gh a4
     exact kk σ F3 _ ρ3 a (en.adv a)
  | tup l=>cases hput
  | ins c ns l=>cases hput
  | wk l=>cases hput
  | dT l=>cases hput
  | wt l=>cases hput
end
def mw (m:Nat) (g:Fs):Fd:=fun cs ch=>match g (cs.map some++List.replicate (m-cs.length) none) ch with
 | some (.rt c ch')=>some (c,ch')
 | some (.nx _ ch')=>some (.dat .non,ch')
 | _=>none
def mx {K:PySem.W.Frag} {F H:Hp} {ρ:Nat->Addr} {ch:CH} {cs:List CV} {vs:List V} {N:List Str} (g:Gh K F H ρ ch) (r:RelCs K F ρ ch.length cs vs):Ge K (cs.map some++List.replicate (N.length-cs.length) none) ch (start N vs) F H ρ:=by
 have hl:=r.length
 refine ⟨g,by simp [start,hl],fun i c h=>?_⟩
 by_cases hi:i<cs.length
 · rw [List.getElem?_append_left (by simpa using hi),List.getElem?_map] at h
   have hd:cs[i]?=some cs[i]:=by simp [hi]
   rw [hd] at h
   cases h
   obtain ⟨v,hv,rv⟩:=r.get hd
   refine ⟨v,?_,rv⟩
   unfold start
   rw [List.getElem?_append_left (by simp;omega),List.getElem?_map,hv]
   rfl
 · rw [List.getElem?_append_right (by simpa using hi)] at h
   rw [List.getElem?_replicate] at h
   split at h<;>cases h
section
variable {P:Program} {w:World} {K:PySem.W.Frag} {mg:Str->Option Value} {base:Heap}
def sk {x q:Str} {st:Stmt} {N ps:List Str} {k n:Nat} {g:Fs} {f:Addr} {fd:FuncData} (D:Fun K x q st f fd) (S:FnScope N ps (aa st)) (hn:ps.length=n)
  (hbody:∀ (cdv:Value) (A:Around) (outer:List Env) (s:Shared) (H:Hp) (E:XK),Room k (A.deeper (envOfC q (aa st) s.heap.objs.size f cdv))->GS (jn CX0 P w K mg base N q (aa st) f cdv A outer s H E).nox (aK st) g) :
  FnOk P w K mg base CX0 (k+1) f fd ps (spG K n (mw N.length g)):=by
 refine D.ok S (fun vs H Q E h=>?_) (fun cdv A outer s H vs Q E hr h=>?_)
 · obtain ⟨F,ρ,cs,ch,c,ch',_,hl,r,_⟩:=h
   rw [r.length,hl,hn]
 · obtain ⟨F,ρ,cs,ch,c,ch',gh,hl,r,hf,kq⟩:=h
   refine ⟨_,hbody cdv A outer s H E hr,?_⟩
   unfold mw at hf
   split at hf
   · rename_i c1 ch1 q
     cases hf
     exact ⟨_,ch,F,ρ,_,mx gh r,q,fun v F' H' ρ' a z=>kq v F' H' ρ' a z⟩
   · rename_i δ1 ch1 q
     cases hf
     exact ⟨_,ch,F,ρ,_,mx gh r,q,fun σ' F' H' ρ' a z=>kq .non F' H' ρ' a (o8 (K:=K) (F:=F'))⟩
   · cases hf
end
section
variable {X:Cx} {e a b o:Expr} {es rest:List Expr} {f fa fb fe:Fg} {fs:Fgs} {ta tb:Ft} {pos apos cpos p:Pos} {sc:Scope} {x:Str} {K:PySem.W.Frag}
def GW (X:Cx) (e:Expr) (f:Ft):Prop:=PW X e (tGT X.K f)
def xS:CV->Option Bool
 | .dat (.bl b)=>some b
 | _=>none
def uT {F:Hp} {ρ:Nat->Addr} {n:Nat} {c:CV} {b:Bool} {v:V} (h:xS c=some b) (r:RelC K F ρ n c v):v=.bl b:=by
 unfold xS at h
 split at h<;>cases h
 have r:Rep K F (.bl b) v:=r
 simp only [Rep] at r
 exact r
def uU (f g:Fg):Fg:=fun δ ch=>(f δ ch).bind fun p=>(xS p.1).bind fun b=>if b then g δ p.2 else some (.dat (.bl false),p.2)
def xT {op} (h:GE X a fa):GE X (.BoolOp op [a] pos) fa:=qO h
def xU (h:GE X a fa) (h':GE X (.BoolOp .And (b::rest) pos) fb):GE X (.BoolOp .And (a::b::rest) pos) (uU fa fb):=PE.mono (qP h h') fun σ H Q ⟨δ,ch,F,ρ,c,ch',en,hf,k⟩=>by
 unfold uU at hf
 obtain ⟨p,hp,hf⟩:=bS hf
 obtain ⟨b,hb,hf⟩:=bS hf
 refine ⟨δ,ch,F,ρ,p.1,p.2,en,hp,fun v F' H' ρ' a r=>⟨b,uT hb r,?_⟩⟩
 split at hf
 · rename_i q
   rw [if_pos q]
   exact ⟨δ,p.2,F',ρ',c,ch',en.adv a,hf,k.adv en.gh a⟩
 · rename_i q
   rw [if_neg q]
   cases hf
   exact k _ F' H' ρ' a (nK (K:=X.K) (F:=F'))
def vws (ch:CH):List CV->Option (List Dt)
 | []=>some []
 | c::l=>(vw ch c).bind fun d=>(vws ch l).map (d::·)
def jY {F H:Hp} {ρ:Nat->Addr} {ch:CH} (g:Gh K F H ρ ch):∀ {l:List CV} {ds:List Dt} {vs:List V},RelCs K F ρ ch.length l vs->vws ch l=some ds->iK K F H ds vs
 | [],ds,vs,r,h=>by cases h;exact r
 | c::l,ds,vs,r,h=>by
  simp only [vws] at h
  obtain ⟨d,hd,h⟩:=bS h
  obtain ⟨es,he,rfl⟩:=mS h
  obtain ⟨v,ws,e,r1,r2⟩:=r
  exact ⟨v,ws,e,fY g r1 hd,jY g r2 he⟩
def eB (g:List Dt->Option T) (fs:Fgs):Fg:=fun δ ch=>(fs δ ch).bind fun p=>(vws p.2 p.1).bind fun ds=>(g ds).bind (al p.2)
def zY {r:List V->Hp->VK->Prop} {g:List Dt->Option T} (hr:CRD K r g) {σ:St} {H:Hp} {Q:VK} (h:tG K (eB g fs) σ H Q):tCB r (tGs K fs) σ H Q:=by
 obtain ⟨δ,ch,F,ρ,c,ch',en,hf,k⟩:=h
 unfold eB at hf
 obtain ⟨p,hp,hf⟩:=bS hf
 obtain ⟨ds,hd,hf⟩:=bS hf
 obtain ⟨t,ht,hf⟩:=bS hf
 exact ⟨δ,ch,F,ρ,p.1,p.2,en,hp,fun vs F1 H1 ρ1 a1 r1=>hr F1 H1 ds vs Q t a1.gh.fh (jY a1.gh r1 hd) ht (jX a1.gh hf (k.adv en.gh a1))⟩
def sm {Ty:String} {r:List V->Hp->VK->Prop} {gg:List Dt->Option T} (h:aH sc x=true) (hc:b7 X (.type Ty) r) (hr:CRD X.K r gg) (hm:X.mg x=none) (hv:bootBuiltins x=some (.type Ty)) (ha:GA X (e::es) fs) (e1:bM X sc:=by rfl)
  (he:starEach (e::es) X.env=(false,eval e X.env)::starEach es X.env:=by rfl) (hpl:(backTo pos (starEach es X.env)).any (·.1)=false:=by rfl):GE X (.Call (.Name x p) (e::es) [] pos) (eB gg fs):=
 PE.mono (fq h hc hm hv ha e1 he hpl) fun σ H Q q=>zY hr q
def so:∀ δ ch p,iR δ ch=some p->p.1.length=0:=fun δ ch p h=>by cases h;rfl
def z68 {f:Fg} {fs:Fgs} {n:Nat} (h:∀ δ ch p,fs δ ch=some p->p.1.length=n):∀ δ ch p,cT f fs δ ch=some p->p.1.length=n+1:=fun δ ch p hp=>by
 unfold cT at hp
 obtain ⟨a,ha,hp⟩:=bS hp
 obtain ⟨b,hb,hp⟩:=mS hp
 cases hp
 simp [h _ _ _ hb]
end
section
variable {P:Program} {w:World} {K:PySem.W.Frag} {mg:Str->Option Value} {base:Heap}
def pk {x:Str} {st:Stmt} {N ps:List Str} {k n:Nat} {g:Fs} (D:DefF K mg x st ps) (S:FnScope N ps (aa st)) (hn:ps.length=n)
  (hbody:∀ (f:Addr) (cdv:Value) (A:Around) (outer:List Env) (s:Shared) (H:Hp) (E:XK),Room k (A.deeper (envOfC x (aa st) s.heap.objs.size f cdv))->GS (jn CX0 P w K mg base N x (aa st) f cdv A outer s H E).nox (aK st) g) :
  OkF P w K mg base x (k+1) ps (spG K n (mw N.length g)):=by
 obtain ⟨f,fd,h1,h2,h3,h4⟩:=D.ex
 exact ⟨f,fd,h1,h2,h3,sk h4 S hn (hbody f)⟩
end
section
variable {X:Cx} {e a b c o:Expr} {es rest:List Expr} {f fa fb fe:Fg} {fs:Fgs} {ta tb tc:Ft} {pos apos cpos p:Pos} {sc:Scope} {x:Str} {K:PySem.W.Frag} {g:Fs} {body:List Stmt}
def my (n:Nat) (hp:PassesOwn (model X.prog X.w) X.A X.env X.xe) (hc:GT X c tc) (hb:GS X body g):GS1 X (.While c body [] pos) (cf tc g n):=PS.mono (lL hp hc hb) fun D σ H ⟨δ,ch,F,ρ,o,en,hg,k⟩=>by
 refine ⟨fun m σ' H'=>∃ δ' ch' F' ρ',Adv X.K F H ρ ch F' H' ρ' ch'/\Ge X.K δ' ch' σ' F' H' ρ'/\cf tc g m δ' ch'=some o,⟨n,δ,ch,F,ρ,Adv.refl en.gh,en,hg⟩,?_⟩
 rintro m σ' H' ⟨δ',ch',F',ρ',a',en',hgo⟩
 cases m with
 | zero=>cases hgo
 | succ m =>
  unfold cf at hgo
  obtain ⟨p,hp',hgo1⟩:=bS hgo
  clear hgo
  refine ⟨δ',ch',F',ρ',p.1,p.2,en',hp',fun F1 H1 ρ1 a1=>?_⟩
  have a2:=a'.trans en.gh a1
  have en1:=en'.adv a1
  dsimp only
  split at hgo1
  · rename_i q
    rw [if_pos q]
    obtain ⟨o1,h2,hgo⟩:=bS hgo1
    refine ⟨fun σ' H'=>∃ δ' ch' F' ρ',Adv X.K F H ρ ch F' H' ρ' ch'/\Ge X.K δ' ch' σ' F' H' ρ'/\cf tc g m δ' ch'=some o,fun σ2 H2 z=>⟨m,Nat.lt_succ_self m,z⟩,δ',p.2,F1,ρ1,o1,en1,h2,?_⟩
    cases o1 with
    | nx δ2 c2=>exact fun σ2 F3 H3 ρ3 a4 en4=>⟨δ2,c2,F3,ρ3,a2.trans en.gh a4,en4,hgo⟩
    | ct δ2 c2=>exact fun σ2 F3 H3 ρ3 a4 en4=>⟨δ2,c2,F3,ρ3,a2.trans en.gh a4,en4,hgo⟩
    | bk δ2 c2=>cases hgo;exact fun σ2 F3 H3 ρ3 a4 en4=>k σ2 F3 H3 ρ3 (a2.trans en.gh a4) en4
    | rt c c2=>cases hgo;exact fun v F3 H3 ρ3 a4 r=>k v F3 H3 ρ3 (a2.trans en.gh a4) r
  · rename_i q
    rw [if_neg q]
    cases hgo1
    exact k σ' F1 H1 ρ1 a2 en1
end
section
variable {prog:Program} {w:World} {A:Around} {E:Value->Shared->Prop} {s:Shared} {a:Addr} {its:Array Value} {c:Nat} {sl:Array (Option Value)}
end
section
variable {prog:Program} {w:World} {A:Around} {E:Value->Shared->Prop} {s:Shared} {a:Addr} {its:Array Value} {c:Nat} {sl:Array (Option Value)}
end
section
variable {X:Cx} {e o:Expr} {sc:Scope} {p pos:Pos} {fs:De->Option (List Dt)}
end
section
variable {prog:Program} {w:World} {A:Around}
variable {E:Value->Shared->Prop} {s:Shared} {a:Addr} {its:Array Value} {c:Nat} {sl:Array (Option Value)}
end
def iT (kvs:List (Key×V)):List (Key×V)->List (Key×V)
 | []=>kvs
 | p::ps=>iT (bL kvs p.1 p.2) ps
section
variable {X:Cx}
end
def lh {kvs:List (Key×V)} {k:Key} (h:k∉kvs.map (·.1)):cy kvs k=none:=by
 cases q:cy kvs k with
 | none=>rfl
 | some v=>exact absurd (uq q) h
def iU:∀ {ps kvs:List (Key×V)},((kvs++ps).map (·.1)).Nodup->iT kvs ps=kvs++ps
 | [],kvs,_=>by simp [iT]
 | p::ps,kvs,h=>by
  have hk:p.1∉kvs.map (·.1):=fun z=>by
   rw [List.map_append] at h
   exact (List.nodup_append.mp h).2.2 p.1 z p.1 (by simp) rfl
  simp only [iT]
  rw [rl _ (lh hk),iU (by simpa using h)]
  simp
section
variable {K:PySem.W.Frag} {F H:Hp} {ρ:Nat->Addr} {ch:CH}
end
section
variable {X:Cx} {e a b o:Expr} {es:List Expr} {f fa fb fc fe:Fg} {fs:Fgs} {pos apos cpos p:Pos} {sc:Scope} {x:Str} {K:PySem.W.Frag}
end
section
variable {X:Cx} {e a b o value:Expr} {es:List Expr} {f fa fb fc fe fk:Fg} {fs:Fgs} {pos apos cpos tpos p:Pos} {sc:Scope} {x:Str} {K:PySem.W.Frag}
end
def gC (src:List (Option Nat)) (δ:Sl):Sl:=src.map fun o=>o.bind fun j=>(δ[j]?).join
noncomputable def cD (ts:List Nat) (bb:Dt->De->Option De) (ft:De->Option Bool) (fe:Fg) (δ:Sl):List Dt->CH->Option (List CV×CH)
 | [],ch=>some ([],ch)
 | d::r,ch=>(bb d (lo δ ch)).bind fun δ1=>(ft (lo (mgS ts δ δ1) ch)).bind fun b=>if b then (fe (mgS ts δ δ1) ch).bind fun p=>(cD ts bb ft fe δ r p.2).map fun q=>(p.1::q.1,q.2) else cD ts bb ft fe δ r ch
noncomputable def gd (src:List (Option Nat)) (fi:De->Option (List Dt)) (ts:List Nat) (bb:Dt->De->Option De) (ft:De->Option Bool) (fe:Fg):Fg:=fun δ ch =>
 (fi (lo δ ch)).bind fun ds=>(cD ts bb ft fe (gC src δ) ds ch).bind fun p=>if p.1.length<=sizeLine then some (.ref p.2.length,p.2++[.lst p.1]) else none
section
variable {K:PySem.W.Frag} {F H F' H' F1 H1:Hp} {ρ ρ' ρ1:Nat->Addr} {ch ch' ch1:CH} {src:List (Option Nat)} {δ:Sl} {σ:St}
def xV {k:Nat} {c:CV} (h:(gC src δ)[k]?=some (some c)):∃ j,src[k]?=some (some j)/\δ[j]?=some (some c):=by
 unfold gC at h
 rw [List.getElem?_map] at h
 cases e:src[k]? with
 | none=>rw [e] at h;cases h
 | some o =>
  rw [e] at h
  cases o with
  | none=>cases h
  | some j =>
   simp only [Option.map_some,Option.bind_some,Option.some.injEq] at h
   refine ⟨j,rfl,?_⟩
   cases q:δ[j]? with
   | none=>rw [q] at h;cases h
   | some u=>rw [q] at h;simp only [Option.join_some] at h;rw [h]
def Ge.comp (en:Ge K δ ch σ F H ρ):Ge K (gC src δ) ch (stC src σ) F H ρ:=⟨en.gh,by simp [gC,stC],fun k c h=>by
 obtain ⟨j,h1,h2⟩:=xV h
 obtain ⟨v,h3,h4⟩:=en.has j c h2
 exact ⟨v,pb h1 h3,h4⟩⟩
structure Bd (K:PySem.W.Frag) (F1 H1:Hp) (ρ1:Nat->Addr) (ch1:CH) (D:Addr) (F H:Hp) (ρ:Nat->Addr) (ch:CH) (done:List CV) (ys:List V):Prop where
 adv:Adv K F1 H1 ρ1 ch1 F H ρ ch
 hD:H D=some (.lst ys)
 fD:F D=none
 nD:∀ i,i<ch.length->ρ i≠D
 rel:RelCs K F ρ ch.length done ys
variable {D:Addr} {done:List CV} {ys:List V}
def Bd.step (g1:Gh K F1 H1 ρ1 ch1) (b:Bd K F1 H1 ρ1 ch1 D F H ρ ch done ys) (a:Adv K F H ρ ch F' H' ρ' ch'):Bd K F1 H1 ρ1 ch1 D F' H' ρ' ch' done ys where
 adv:=b.adv.trans g1 a
 hD:=a.prot D _ b.hD fun i hi=>b.nD i hi
 fD:=by
  cases q:F' D with
  | none=>rfl
  | some o =>
   rcases a.nw D o q with z | z | ⟨xs,z⟩
   · rw [b.fD] at z;cases z
   · rw [b.hD] at z;cases z
   · subst z
     have z1:=a.gh.fh _ _ q
     rw [a.prot D _ b.hD fun i hi=>b.nD i hi] at z1
     cases z1
 nD:=fun i hi e=>by
  by_cases h:i<ch.length
  · rw [a.ext i h] at e
    exact b.nD i h e
  · have:=a.fr i (Nat.not_lt.mp h) hi
    rw [e,b.hD] at this
    cases this
 rel:=b.rel.mono a.old a.ext a.len
def Bd.more (hD1:H1 D=none) (b:Bd K F1 H1 ρ1 ch1 D F H ρ ch done ys) {c:CV} {v:V} (r:RelC K F ρ ch.length c v):Bd K F1 H1 ρ1 ch1 D F (upd H D (.lst (ys++[v]))) ρ ch (done++[c]) (ys++[v]) where
 adv:=⟨⟨fun x o e=>by
     have:x≠D:=fun z=>by rw [z,b.fD] at e;cases e
     rw [aJ this]
     exact b.adv.gh.fh x o e,b.adv.gh.inj,b.adv.gh.out,fun i o h=>(b.adv.gh.ok i o h).mono (Same.refl _) (fun _ _=>rfl) (nL _) fun u hu=>by
     rw [aJ (b.nD i (gX h).1)]
     exact hu⟩,b.adv.len,b.adv.ext,b.adv.fr,fun x o h1 h2=>by
     have:x≠D:=fun z=>by rw [z,hD1] at h1;cases h1
     rw [aJ this]
     exact b.adv.prot x o h1 h2,b.adv.old,b.adv.nw,fun x o u h=>by
     have:x≠D:=fun z=>by rw [z,hD1] at h;cases h
     rw [aJ this]
     exact b.adv.fz x o u h⟩
 hD:=aI
 fD:=b.fD
 nD:=b.nD
 rel:=b.rel.append (RelCs.one r)
def Bd.fin (hD1:H1 D=none) (b:Bd K F1 H1 ρ1 ch1 D F H ρ ch done ys):Adv K F1 H1 ρ1 ch1 F H (fun i=>if i=ch.length then D else ρ i) (ch++[.lst done]):=by
 have lt:∀ {i:Nat},i<ch.length->(if i=ch.length then D else ρ i)=ρ i:=fun {i} hi=>if_neg (Nat.ne_of_lt hi)
 have g:=b.adv.gh
 refine ⟨⟨g.fh,fun i j hi hj e=>?_,fun i hi=>?_,fun i x hx=>?_⟩,by have:=b.adv.len;simp;omega,fun i hi=>?_,fun i h1 h2=>?_,b.adv.prot,b.adv.old,b.adv.nw,b.adv.fz⟩
 · simp only [List.length_append,List.length_cons,List.length_nil] at hi hj
   by_cases h1:i=ch.length<;>by_cases h2:j=ch.length
   · rw [h1,h2]
   · rw [if_pos h1,if_neg h2] at e
     exact absurd e.symm (b.nD j (by omega))
   · rw [if_neg h1,if_pos h2] at e
     exact absurd e (b.nD i (by omega))
   · rw [if_neg h1,if_neg h2] at e
     exact g.inj i j (by omega) (by omega) e
 · simp only [List.length_append,List.length_cons,List.length_nil] at hi
   by_cases h1:i=ch.length
   · rw [if_pos h1];exact .inl b.fD
   · rw [if_neg h1];exact g.out i (by omega)
 · simp only [List.length_append,List.length_cons,List.length_nil]
   by_cases h1:i<ch.length
   · rw [List.getElem?_append_left h1] at hx
     rw [lt h1]
     exact (g.ok i x hx).mono (Same.refl _) (fun j hj=>lt hj) (Nat.le_succ _) fun u hu=>hu
   · rw [gR (Nat.not_lt.mp h1)] at hx
     have h2:i=ch.length:=by
      have:=(gX hx).1
      simp at this
      omega
     subst h2
     simp at hx
     subst hx
     rw [if_pos rfl]
     exact ⟨ys,b.hD,b.rel.mono (Same.refl _) (fun j hj=>lt hj) (Nat.le_succ _)⟩
 · rw [lt (Nat.lt_of_lt_of_le hi b.adv.len)]
   exact b.adv.ext i hi
 · simp only [List.length_append,List.length_cons,List.length_nil] at h2
   by_cases h3:i=ch.length
   · rw [if_pos h3];exact hD1
   · rw [if_neg h3];exact b.adv.fr i h1 (by omega)
end
section
variable {X:Cx} {elt tg iter:Expr} {ifs:List Expr} {scope:Scope} {pos:Pos} {M:List Str} {src:List (Option Nat)} {fi:De->Option (List Dt)} {ft:De->Option Bool} {fe:Fg}
def sq {ts:List Nat} {bb:Dt->De->Option De} (hts:(ts.all fun k=>decide (src[k]?=some none))=true):∀ (σ:St) (H:Hp) (Q:VK),tG X.K (gd src fi ts bb ft fe) σ H Q->iC src (tIF X.K fi) (gD X.K ts bb) (tTr X.K ft) (tG X.K fe) σ H Q:=fun σ H Q ⟨δ,ch,F,ρ,c,ch',en,hf,k⟩=>by
 unfold gd at hf
 obtain ⟨ds,hd,hf1⟩:=bS hf
 obtain ⟨⟨all,ch2⟩,ha,hf2⟩:=bS hf1
 clear hf hf1
 split at hf2<;>first | (cases hf2;done) | skip
 rename_i hz
 cases hf2
 have hz:all.length<=sizeLine:=hz
 rw [lW]
 refine ⟨_,_,F,ds,rfl,en.en,hd,fun J ok H1 F1 st1 wd ho D hD=>?_⟩
 have a1:=Adv.of en.gh st1
 have en1:=en.adv a1
 have k1:=k.adv en.gh a1
 have wk:∀ {σ2:St},σ2.length=(stC src σ).length->(∀ j,j∉ts->σ2[j]?=(stC src σ)[j]?)->Wk (stC src σ) σ2:=fun {σ2} h1 h2=>by
  refine ⟨h1.symm,fun j v hj=>?_⟩
  by_cases hm:j∈ts
  · have:=List.all_eq_true.mp hts j hm
    have hn:src[j]?=some none:=of_decide_eq_true this
    obtain ⟨i,e,_⟩:=kQ hj
    rw [hn] at e
    cases e
  · rw [h2 j hm]
    exact hj
 refine jO (n:=ds.length) (fun i H=>∃ F ρ' c' ys done rest',Bd X.K F1 H1 ρ ch D F H ρ' c' done ys/\cD ts bb ft fe (gC src δ) (ds.drop i) c'=some (rest',ch2)/\done++rest'=all) ?_ ?_ ?_ ?_
 · refine ⟨F1,ρ,ch,[],[],all,⟨Adv.of en1.gh (Step.made en1.gh.fh hD),aI,en1.gh.fh.free hD,fun i hi e=>?_,rfl⟩,by simpa using ha,rfl⟩
   obtain ⟨u,hu⟩:=en1.gh.at hi
   rw [e,hD] at hu
   cases hu
 · rintro i H' ⟨F',ρ',c',ys,done,rest',b,_⟩
   obtain ⟨p1,p2,_⟩:=wd i H' F' (ho H' (b.adv.old.trans b.adv.gh.fh)) b.adv.gh.fh b.adv.old
   exact ⟨p1,p2⟩
 · rintro i x H0' H' hi ⟨F0',ρ0,c0,ys,done,rest',b0,hgo,hall⟩ hy0
   obtain ⟨_,_,p3⟩:=wd i H0' F0' (ho H0' (b0.adv.old.trans b0.adv.gh.fh)) b0.adv.gh.fh b0.adv.old
   obtain ⟨d,F',hd',stw,rd⟩:=p3 x H' hi hy0
   have b1:=b0.step en1.gh (Adv.of b0.adv.gh stw)
   have en2:=(en1.adv b1.adv).comp (src:=src)
   rw [im hd'] at hgo
   unfold cD at hgo
   obtain ⟨δ1,h1,hgo1⟩:=bS hgo
   obtain ⟨bo,h2,hgo2⟩:=bS hgo1
   clear hgo hgo1
   refine ⟨_,_,F',d,δ1,rfl,en2.en,rd,h1,fun σ2 l2 k2 e2=>⟨wk l2 k2,?_⟩⟩
   have en3:=en2.mg rfl l2 k2 e2
   refine ⟨_,_,F',bo,rfl,en3.en,h2,fun H3 F3 st3=>?_⟩
   have b3:=b1.step en1.gh (Adv.of b1.adv.gh st3)
   have en4:=en3.adv (Adv.of b1.adv.gh st3)
   dsimp only
   split at hgo2
   · rename_i q
     rw [if_pos q]
     obtain ⟨⟨y,c4⟩,hy,hgo3⟩:=bS hgo2
     obtain ⟨⟨zs,c5⟩,hzs,hgo4⟩:=mS hgo3
     cases hgo4
     refine ⟨_,_,F3,ρ0,y,c4,en4,hy,fun v F4 H4 ρ4 a4 rv=>?_⟩
     have b4:=b3.step en1.gh a4
     refine ⟨ys,b4.hD,?_,F4,ρ4,c4,ys++[v],done++[y],zs,b4.more hD rv,hzs,by rw [<- hall];simp⟩
     have e1:=b4.rel.length
     have e2:all.length=done.length+(zs.length+1):=by rw [<- hall];simp
     omega
   · rename_i q
     rw [if_neg q]
     exact ⟨F3,ρ0,c0,ys,done,rest',b3,hgo2,hall⟩
 · rintro H' ⟨F',ρ',c',ys,done,rest',b,hgo,hall⟩
   rw [List.drop_length] at hgo
   cases hgo
   rw [List.append_nil] at hall
   subst hall
   refine k1 (.ref D) F' H' _ (b.fin hD) ⟨by simp,?_⟩
   dsimp only
   rw [if_pos rfl]
def pp {ts:List Nat} {bb:Dt->De->Option De} (S:CmpScope X.N X.env.scope scope M src) (hc:X.calm=true) (hi:DIF X tg iter fi) (hg:M.Nodup->∀ C s H ex,DG (cxC X M scope C s H ex) tg ts bb)
  (ht:∀ C s H ex,DTs (cxC X M scope C s H ex) ifs ft) (he:∀ C s H ex,GE (cxC X M scope C s H ex) elt fe) (hts:(ts.all fun k=>decide (src[k]?=some none))=true) (hs:∀ x,foldedSetIterable iter X.env x=pure x:=by intro _;rfl) :
  GE X (.ListComp elt [⟨tg,iter,ifs,0⟩] scope pos) (gd src fi ts bb ft fe):=PE.mono (lV (g:=gD X.K ts bb) (tt:=tTr X.K ft) (te:=tG X.K fe) S hc hi (fun nd C s H ex=>hg nd C s H ex) (fun C s H ex=>ht C s H ex) (fun C s H ex=>he C s H ex) hs) (sq hts)
end
section
variable {K:PySem.W.Frag} {F H F' H' F1 H1:Hp} {ρ ρ' ρ1:Nat->Addr} {ch ch' ch1:CH} {i:Nat} {l:List (Key×CV)} {kvs:List (Key×V)} {ob:Obj}
end
section
variable {X:Cx} {tg d:Expr} {body:List Stmt} {fd:Fg} {g:Fs} {pos:Pos}
end
noncomputable def li:List (Fg×Fg)->Sl->CH->Option (List (Key×CV)×CH)
 | [],_,ch=>some ([],ch)
 | (fk,fv)::r,δ,ch=>(fk δ ch).bind fun p=>match p.1 with
  | .dat d=>(fV d).bind fun k=>(fv δ p.2).bind fun q=>(li r δ q.2).map fun z=>((k,q.1)::z.1,z.2)
  | _=>none
noncomputable def pq (fps:List (Fg×Fg)):Fg:=fun δ ch=>(li fps δ (ch++[.dK []])).bind fun p=>match p.2[ch.length]? with
 | some (.dK [])=>if p.1.length<=15/\(p.1.map (·.1)).Nodup then some (.ref ch.length,p.2.set ch.length (.dK p.1)) else none
 | _=>none
section
variable {X:Cx} {pos:Pos} {σ:St} {δ:Sl}
def jZ {K:PySem.W.Frag}:∀ {fps:List (Fg×Fg)} {ch ch':CH} {F H:Hp} {ρ:Nat->Addr} {ps:List (Key×CV)} {Q:List (V×V)->Hp->Prop},Ge K δ ch σ F H ρ->li fps δ ch=some (ps,ch')→
  (∀ (qs:List (Key×V)) F' H' ρ',Adv K F H ρ ch F' H' ρ' ch'->qs.map (·.1)=ps.map (·.1)->RelCs K F' ρ' ch'.length (ps.map (·.2)) (qs.map (·.2))->Q (qs.map fun kv=>(kV kv.1,kv.2)) H')->kA (fps.map fun p=>(tG K p.1,tG K p.2)) σ H Q
 | [],ch,ch',F,H,ρ,ps,Q,en,h,k=>by
  cases h
  exact k [] F H ρ (Adv.refl en.gh) rfl rfl
 | (fk,fv)::r,ch,ch',F,H,ρ,ps,Q,en,h,k=>by
  simp only [li] at h
  obtain ⟨⟨c1,ch1⟩,hp,h1⟩:=bS h
  dsimp only at h1
  split at h1<;>first | (cases h1;done) | skip
  rename_i d
  obtain ⟨kk,hk,h2⟩:=bS h1
  obtain ⟨⟨c2,ch2⟩,hq,h3⟩:=bS h2
  obtain ⟨⟨z,ch3⟩,hz,h4⟩:=mS h3
  cases h4
  refine ⟨δ,ch,F,ρ,_,ch1,en,hp,fun v F1 H1 ρ1 a1 r1=>⟨δ,ch1,F1,ρ1,c2,ch2,en.adv a1,hq,fun w F2 H2 ρ2 a2 r2=>?_⟩⟩
  have en2:=(en.adv a1).adv a2
  have a12:=a1.trans en.gh a2
  refine jZ en2 hz fun qs F3 H3 ρ3 a3 e1 r3=>?_
  have hv:=fZ hk r1
  subst hv
  exact k ((kk,w)::qs) F3 H3 ρ3 (a12.trans en.gh a3) (by simp [e1]) ⟨w,_,rfl,r2.mono a3.old a3.ext a3.len,r3⟩
def nX {qs:List (Key×V)} (h:(qs.map (·.1)).Nodup):d4 [] qs=qs:=by
 have:∀ (ps kvs:List (Key×V)),d4 kvs ps=iT kvs ps:=fun ps=>by
  induction ps with
  | nil=>intro kvs;rfl
  | cons p ps ih=>intro kvs;exact ih _
 rw [this,iU (by simpa using h)]
 simp
def uV {keys:List (Option Expr)} {values:List Expr} {fps:List (Fg×Fg)} (h:PPs X pos keys values (fps.map fun p=>(tG X.K p.1,tG X.K p.2))) (hall:keys.all (·.isSome)=true) (hl:keys.length=values.length) (h0:keys≠[]) (h15:keys.length<=15) :
  GE X (.Dict keys values pos) (pq fps):=PE.mono (uo h hall hl h0 h15) fun σ H Q ⟨δ,ch,F,ρ,c,ch',en,hf,k⟩=>by
 unfold pq at hf
 obtain ⟨⟨ps,ch2⟩,hp,hf1⟩:=bS hf
 clear hf
 dsimp only at hf1
 split at hf1<;>first | (cases hf1;done) | skip
 rename_i hn
 split at hf1<;>first | (cases hf1;done) | skip
 rename_i hz
 cases hf1
 intro p hpn
 have a1:=xR (o:=.dK []) (u:=.dK []) en.gh hpn ⟨[],aI,rfl,rfl⟩
 have en1:=en.adv a1
 refine jZ en1 hp fun qs F' H' ρ' a2 e1 r2=>?_
 have hr:ρ' ch.length=p:=by rw [a2.ext ch.length (by simp)];simp
 obtain ⟨kvs,q1,q2,q3⟩:=a2.gh.ok _ _ hn
 have q2:kvs=[]:=by simpa using q2
 subst q2
 rw [hr] at q1
 have e3:d4 [] qs=qs:=nX (by rw [e1];exact hz.2)
 have hlen:qs.length=ps.length:=by simpa using congrArg List.length e1
 refine ⟨q1,qs,rfl,by rw [hlen];exact hz.1,?_⟩
 rw [e3]
 have hi:ch.length<ch2.length:=(gX hn).1
 have a3:=Adv.upd (o:=.dK ps) (u:=.dK qs) (w:=.dK []) a2.gh hi (by rw [hr];exact q1) (fun _ _ z=>nomatch z) ⟨qs,aI,e1,r2⟩
 rw [hr] at a3
 refine k (.ref p) F' _ ρ' ((a1.trans en.gh a2).trans en.gh a3) ⟨by simpa using hi,by rw [hr]⟩
end
section
variable {X:Cx} {o:Expr} {fa:Fg} {pos apos cpos:Pos}
end
def uW:List Dt->Option T
 | [.int i,.int j]=>some (.leaf (.int (if j<i then j else i)))
 | _=>none
def rMin:List V->Hp->VK->Prop:=fun xs H Q=>∃ i j,xs=[.int i,.int j]/\Q (.int (if j<i then j else i)) H
def qq {X:Cx} (hc:X.calm=true):b7 X (.builtin "min") rMin:=pY hc
def zZ {K:PySem.W.Frag}:CRD K rMin uW:=by
 intro F H ds vs Q t fh r hg k
 unfold uW at hg
 split at hg<;>first | (cases hg;done) | skip
 cases hg
 obtain ⟨v,ws,rfl,r1,w,ws',rfl,r2,r3⟩:=r
 cases r1
 cases r2
 have r3:ws'=[]:=r3
 subst r3
 exact ⟨_,_,rfl,k.int fh⟩
section
variable {X:Cx} {elt tg iter:Expr} {ifs:List Expr} {scope:Scope} {pos:Pos} {M:List Str} {src:List (Option Nat)} {fi:De->Option (List Dt)} {ft:De->Option Bool} {fe:De->Option Dt} {fg:Fg} {i:Nat}
end
def uX {X:Cx} {pos:Pos}:PPs X pos [] [] (([]:List (Fg×Fg)).map fun p=>(tG X.K p.1,tG X.K p.2)):=um
def sr {X:Cx} {pos:Pos} {k v:Expr} {ks:List (Option Expr)} {vs:List Expr} {fk fv:Fg} {fps:List (Fg×Fg)} (hk:GE X k fk) (hv:GE X v fv) (hr:PPs X pos ks vs (fps.map fun p=>(tG X.K p.1,tG X.K p.2))) :
  PPs X pos (some k::ks) (v::vs) (((fk,fv)::fps).map fun p=>(tG X.K p.1,tG X.K p.2)):=rp hk hv hr
section
variable {X:Cx}
def z0 (K:PySem.W.Frag) (n:Nat) (t:TGs):TG:=fun v σ H Q=>∃ a xs,v=.ref a/\SqL K H a xs/\xs.length=n/\t xs σ H Q
def xW {es:List Expr} {k:Nat} {t:TGs} {n:Nat} {pos:Pos} (hc:X.calm=true) (h:PGs X es t)
  (hn:(assignEach es X.env).length=n:=by rfl) (hst:(assignEach es X.env).findIdx? (·.1)=none:=by rfl):PG X (.Tuple es k pos) (z0 X.K n t):=by
 intro pins s σ H v u Q I r hw
 obtain ⟨a,xs,e1,hq,hl,hw⟩:=hw
 subst e1
 cases r
 obtain ⟨its,rv,ht,hz⟩:=I.list hq
 rw [assign_Tuple]
 refine wB (wpAny_standAt ?_)
 unfold unpack
 rw [show (assignEach es X.env).length=its.toArray.size by simp [hn,<- hl,rv.length],hst]
 refine wB (wpAny_holding (PySem.W.kun_itemsOf (I.ok.hd hc) ht.isList fun h' hx=>?_))
 have I1:Inv X pins σ H {s with heap:=h'}:=I.kept (t':=s.toks) fun b o e=>hx b o (Nat.ne_of_lt (Heap.lt_size e)) e
 exact h pins _ σ H xs _ Q I1 (by simpa using rv) hw
def mz (n:Nat) (bs:List Dt->De->Option De):Dt->De->Option De:=fun d δ=>match d with
 | .lst ds=>if ds.length=n then bs ds δ else none
 | _=>none
def nY {es:List Expr} {k:Nat} {n:Nat} {ts:List Nat} {bs:List Dt->De->Option De} {pos:Pos} (hc:X.calm=true) (h:DGs X es ts bs)
  (hn:(assignEach es X.env).length=n:=by rfl) (hst:(assignEach es X.env).findIdx? (·.1)=none:=by rfl):DG X (.Tuple es k pos) ts (mz n bs):=PG.mono (xW hc h hn hst) fun v σ H Q ⟨Φ,δ,F,d,δ',hK,en,r,hd,q⟩=>by
 unfold mz at hd
 split at hd
 · rename_i ds
   split at hd
   · rename_i hl
     simp only [Rep] at r
     obtain ⟨a,vs,e,h1,h2⟩:=r
     exact ⟨a,vs,e,Same.seq en.fh h1,by rw [h2.length];exact hl,Φ,δ,F,ds,δ',hK,en,h2,hd,q⟩
   · cases hd
 · cases hd
end
def cC (sc:Scope) (N:List Str):Bool:=(List.range N.length).all fun i=>match N[i]? with
 | some x=>dA sc N i x&&iF sc x
 | none=>false
def nsB {sc:Scope} {N:List Str} {i:Nat} {x:Str} (h:cC sc N=true) (e:N[i]?=some x):dA sc N i x=true/\iF sc x=true:=by
 have h1:=List.all_eq_true.mp h i (List.mem_range.mpr (gX e).1)
 rw [e] at h1
 exact Bool.and_eq_true_iff.mp h1
def nsN {sc:Scope} {N:List Str} (h:cC sc N=true) (i:Nat) {x:Str} (e:N[i]?=some x:=by rfl):dA sc N i x=true:=(nsB h e).1
def nsL {sc:Scope} {N:List Str} (h:cC sc N=true) (i:Nat) {x:Str} (e:N[i]?=some x:=by rfl):iF sc x=true:=(nsB h e).2
def pvN {X:Cx} {sc:Scope} {N:List Str} {x:Str} {pos:Pos} (i:Nat) (h:cC sc N=true) (e:N[i]?=some x:=by rfl) (e1:bM X sc:=by rfl) (e2:X.N=N:=by rfl):PE X (.Name x pos) (jm i):=pvD i (nsN h i e) e1 e2
def pr:∀ a b:List Nat,ltCps a b=false->ltCps b a=false->a=b
 | [],[],_,_=>rfl
 | [],_::_,h,_=>by simp [ltCps] at h
 | _::_,[],_,h=>by simp [ltCps] at h
 | x::r,y::t,h,h'=>by
  simp only [ltCps,Bool.or_eq_false_iff,decide_eq_false_iff_not,Bool.and_eq_false_imp,beq_iff_eq] at h h'
  have e:x=y:=by omega
  subst e
  rw [pr r t (h.2 rfl) (h'.2 rfl)]
def pv:∀ a b:List Nat,ltCps a b=true->ltCps b a=false
 | [],[],h=>by simp [ltCps] at h
 | [],_::_,_=>rfl
 | _::_,[],h=>by simp [ltCps] at h
 | x::r,y::t,h=>by
  simp only [ltCps,Bool.or_eq_true,decide_eq_true_eq,Bool.and_eq_true,beq_iff_eq] at h
  simp only [ltCps,Bool.or_eq_false_iff,decide_eq_false_iff_not,Bool.and_eq_false_imp,beq_iff_eq]
  rcases h with h | ⟨rfl,h⟩
  · exact ⟨by omega,fun e=>by omega⟩
  · exact ⟨by omega,fun _=>pv r t h⟩
def j0:∀ a b c:List Nat,ltCps b a=false->ltCps c b=false->ltCps c a=false
 | [],b,c,h1,h2=>by
  cases b with
  | nil=>exact h2
  | cons y t =>
   cases c with
   | nil=>simp [ltCps] at h2
   | cons z u=>rfl
 | x::r,[],c,h1,h2=>by simp [ltCps] at h1
 | x::r,y::t,[],h1,h2=>by simp [ltCps] at h2
 | x::r,y::t,z::u,h1,h2=>by
  simp only [ltCps,Bool.or_eq_false_iff,decide_eq_false_iff_not,Bool.and_eq_false_imp,beq_iff_eq] at h1 h2 ⊢
  refine ⟨by omega,fun e=>?_⟩
  subst e
  have e:y=z:=by omega
  subst e
  exact j0 r t u (h1.2 rfl) (h2.2 rfl)
def leS (a b:Str):Bool:=!ltCps b.cps.toList a.cps.toList
def leS_iff {a b:Str}:leS a b=true↔ltCps b.cps.toList a.cps.toList=false:=by simp [leS]
def j1 (a b c:Str) (h:leS a b=true) (h':leS b c=true):leS a c=true:=leS_iff.mpr (j0 _ _ _ (leS_iff.mp h) (leS_iff.mp h'))
def qr (a b:Str):(leS a b||leS b a)=true:=by
 cases h:leS a b with
 | true=>rfl
 | false =>
  have h1:ltCps b.cps.toList a.cps.toList=true:=by simpa [leS] using h
  simp [leS_iff.mpr (pv _ _ h1)]
def mB {a b:Str} (h:leS a b=true) (h':leS b a=true):a=b:=by
 have e:=pr _ _ (leS_iff.mp h') (leS_iff.mp h)
 cases a with
 | mk a=>cases b with
  | mk b=>simp only at e;rw [Array.toList_inj.mp e]
def bn (ss:List Str):List Str:=ss.mergeSort leS
def bF (ss:List Str):(bn ss).Perm ss:=List.mergeSort_perm ss leS
def ge (ss:List Str):(bn ss).Pairwise fun a b=>leS a b=true:=List.pairwise_mergeSort j1 qr ss
def j2:∀ (p:Str) (l:List Str),risingS p l=true->(p::l).Pairwise fun a b=>leS a b=true
 | p,[],_=>by simp
 | p,x::r,h=>by
  simp only [risingS,Bool.and_eq_true] at h
  have ih:=j2 x r h.2
  have h1:leS p x=true:=h.1
  refine List.pairwise_cons.mpr ⟨fun y hy=>?_,ih⟩
  rcases List.mem_cons.mp hy with rfl | hy
  · exact h1
  · exact j1 _ _ _ h1 ((List.pairwise_cons.mp ih).1 y hy)
def gM:∀ l:List Str,sortedS l=true->l.Pairwise fun a b=>leS a b=true
 | [],_=>List.Pairwise.nil
 | x::r,h=>j2 x r h
def eL:∀ {a b:List Str},a.Perm b->(a.Pairwise fun a b=>leS a b=true)->(b.Pairwise fun a b=>leS a b=true)->a=b
 | [],_,p,_,_=>p.nil_eq
 | x::r,b,p,ha,hb=>by
  cases b with
  | nil=>exact absurd p.length_eq (by simp)
  | cons y t =>
   have hx:x∈y::t:=p.mem_iff.mp (.head _)
   have hy:y∈x::r:=p.mem_iff.mpr (.head _)
   have e:x=y:=by
    rcases List.mem_cons.mp hx with h | h
    · exact h
    · rcases List.mem_cons.mp hy with h' | h'
      · exact h'.symm
      · exact mB ((List.pairwise_cons.mp ha).1 y h') ((List.pairwise_cons.mp hb).1 x h)
   subst e
   rw [eL (List.Perm.cons_inv p) (List.pairwise_cons.mp ha).2 (List.pairwise_cons.mp hb).2]
def fB:∀ {ss:List Str} {its:List Value},Vals (ss.map V.str) its->StrsAre its ss
 | [],_,h=>by cases h;exact .nil
 | x::ss,_,h=>by
  cases h with
  | cons h1 h2 =>
   obtain ⟨t,rfl⟩:=h1
   exact .cons x t (fB h2)
def eM:∀ {its:List Value} {ss:List Str},StrsAre its ss->Vals (ss.map V.str) its
 | _,_,.nil=>.nil
 | _,_,.cons x t h=>.cons ⟨t,rfl⟩ (eM h)
section
variable {X:Cx}
def lj:b7 X (.builtin "sorted") (fun xs H Q=>∃ p ss,xs=[.ref p]/\SqL X.K H p (ss.map V.str)/\ss.length<64/\∀ l,H l=none->Q (.ref l) (upd H l (.lst ((bn ss).map V.str)))):=by
 intro pins s σ H xs us Q I r h
 obtain ⟨p,ss,rfl,hq,hz,q⟩:=h
 obtain ⟨u,rfl,rx⟩:=g0 r
 cases rx
 obtain ⟨its,r',pl,hz'⟩:=I.list hq
 have hS:=fB r'
 have hlen:its.length=ss.length:=by have:=r'.length;simpa using this.symm
 refine sorted_strs pl.isList hS (by omega) fun out ss' a1 a2 a3=>?_
 have e:ss'=bn ss:=eL (a2.trans (bF ss).symm) (gM ss' a3) (ge ss)
 subst e
 obtain ⟨c,hc⟩:=sortedAll_at s.heap its out
 refine ⟨.ref (s.heap.objs.size+1),_,I.laid (t':=s.toks) (fun _ _=>sortedAll_old) (Nat.le_succ _) (show ObjOk X.prog X.w _ _ _ (.lst ((bn ss).map V.str)) from ⟨?_,out.toList,c,eM a1,hc⟩),rfl,q _ (I.hok.fresh (Nat.le_succ _))⟩
 rw [List.length_map,(bF ss).length_eq]
 exact Nat.le_trans (Nat.le_of_lt hz) (by decide)
def da:List Dt->Option T
 | [.lst ds]=>(dD ds).bind fun ss=>if ss.length<64 then some (.lst ((bn ss).map .str)) else none
 | _=>none
def eO {K:PySem.W.Frag} {F:Hp}:∀ ss:List Str,Reps K F (ss.map .str) (ss.map V.str)
 | []=>by simp only [List.map_nil,Reps]
 | x::ss=>by
  simp only [List.map_cons,Reps]
  exact ⟨_,_,rfl,by simp only [Rep],eO ss⟩
def su {K:PySem.W.Frag}:CRD K (fun xs H Q=>∃ p ss,xs=[.ref p]/\SqL K H p (ss.map V.str)/\ss.length<64/\∀ l,H l=none->Q (.ref l) (upd H l (.lst ((bn ss).map V.str)))) da:=by
 intro F H ds vs Q t fh r hg k
 unfold da at hg
 split at hg<;>first | (cases hg;done) | skip
 obtain ⟨ss,hs,hg⟩:=bS hg
 split at hg<;>cases hg
 rename_i hz
 obtain ⟨v,rfl,rv⟩:=cA r
 obtain ⟨a,vs,rfl,h1,h2⟩:=rv
 have:=eG h2 hs
 subst this
 exact ⟨a,ss,rfl,h1,hz,fun p hp=>cY k fh (eO _) hp⟩
end
section
variable {prog:Program} {w:World} {A:Around} {E:Value->Shared->Prop} {s:Shared} {d it:Addr} {ks:List Value} {i ep:Nat}
end
section
variable {K:PySem.W.Frag} {F H:Hp} {ρ:Nat->Addr} {ch:CH}
end
section
variable {X:Cx} {tg:Expr}
end
section
variable {K:PySem.W.Frag} {F H F' H' F1 H1:Hp} {ρ ρ' ρ1:Nat->Addr} {ch ch' ch1:CH} {i:Nat} {l:List (List Key×CV)} {kvs:List (List Key×V)} {ob:Obj}
end
section
variable {X:Cx} {tg d:Expr} {body:List Stmt} {fd:Fg} {g:Fs} {pos:Pos}
end
section
variable {X:Cx} {e a b o value:Expr} {es:List Expr} {f fa fb fc fe fk:Fg} {fs:Fgs} {pos apos cpos tpos p:Pos} {sc:Scope} {x:Str} {K:PySem.W.Frag}
end
def tupC (ch:CH):CV->Option (List CV)
 | .dat (.tup ds)=>some (ds.map .dat)
 | .ref i=>match ch[i]? with
  | some (.tup l)=>some l
  | _=>none
 | _=>none
section
variable {K:PySem.W.Frag} {F H:Hp} {ρ:Nat->Addr} {ch:CH} {c:CV} {v:V}
end
section
variable {X:Cx} {e a b o iter tg:Expr} {es:List Expr} {body:List Stmt} {g:Fs} {f fa fb fc fe fk:Fg} {fs:Fgs} {pos apos cpos tpos p:Pos} {sc:Scope} {x:Str} {K:PySem.W.Frag}
abbrev Fb:=CV->CH->Sl->Option Sl
def fC {α β:Type} (f:α->Option β):List α->Option (List β)
 | []=>some []
 | a::l=>(f a).bind fun b=>(fC f l).map (b::·)
noncomputable def vwD (ch:CH):Nat->CV->Option Dt
 | _,.dat d=>some d
 | 0,.ref _=>none
 | n+1,.ref i=>match ch[i]? with
  | some (.lst l)=>(fC (vwD ch n) l).map .lst
  | some (.tup l)=>(fC (vwD ch n) l).map .tup
  | some (.dK l)=>(fC (vwD ch n) (l.map (·.2))).map (.dct (l.map (·.1)))
  | some (.dT l)=>(fC (vwD ch n) (l.map (·.2))).map (.dcT (l.map (·.1)))
  | _=>none
def cr {F H:Hp} {ρ:Nat->Addr} {m:Nat} {f:CV->Option Dt} (hf:∀ c v d,RelC K F ρ m c v->f c=some d->Rep K H d v):∀ {l:List CV} {ds:List Dt} {vs:List V},RelCs K F ρ m l vs->fC f l=some ds->Reps K H ds vs
 | [],ds,vs,r,h=>by cases h;simp only [Reps];exact r
 | c::l,ds,vs,r,h=>by
  simp only [fC] at h
  obtain ⟨d,hd,h⟩:=bS h
  obtain ⟨es,he,rfl⟩:=mS h
  obtain ⟨v,ws,rfl,r1,r2⟩:=r
  simp only [Reps]
  exact ⟨v,ws,rfl,hf c v d r1 hd,cr hf r2 he⟩
def io {F H:Hp} {ρ:Nat->Addr} {ch:CH} (gh:Gh K F H ρ ch):∀ (n:Nat) (c:CV) (v:V) (d:Dt),RelC K F ρ ch.length c v->vwD ch n c=some d->Rep K H d v
 | 0,.dat d',v,d,r,h=>by simp only [vwD] at h;cases h;exact Rep.same gh.fh r
 | n+1,.dat d',v,d,r,h=>by simp only [vwD] at h;cases h;exact Rep.same gh.fh r
 | 0,.ref i,v,d,r,h=>by simp only [vwD] at h;cases h
 | n+1,.ref i,v,d,r,h=>by
  obtain ⟨hi,rfl⟩:=r
  simp only [vwD] at h
  have ih:=io gh n
  split at h
  · rename_i l hl
    obtain ⟨ds,hd,rfl⟩:=mS h
    obtain ⟨vs,h1,h2⟩:=gh.ok i _ hl
    simp only [Rep]
    exact ⟨_,vs,rfl,SqL.of h1,cr ih h2 hd⟩
  · rename_i l hl
    obtain ⟨ds,hd,rfl⟩:=mS h
    obtain ⟨vs,h1,h2⟩:=gh.ok i _ hl
    simp only [Rep]
    exact ⟨_,vs,rfl,SqT.of h1,cr ih h2 hd⟩
  · rename_i l hl
    obtain ⟨ds,hd,rfl⟩:=mS h
    obtain ⟨vs,h1,h2,h3⟩:=gh.ok i _ hl
    simp only [Rep]
    exact ⟨_,vs,rfl,.inl h1,h2,cr ih h3 hd⟩
  · rename_i l hl
    obtain ⟨ds,hd,rfl⟩:=mS h
    obtain ⟨vs,h1,h2,h3⟩:=gh.ok i _ hl
    simp only [Rep]
    exact ⟨_,vs,rfl,.inl h1,h2,cr ih h3 hd⟩
  · cases h
def e2D (m:Nat) (g:Dt->Dt->Option T) (fa fb:Fg):Fg:=fun δ ch=>(fa δ ch).bind fun p=>(fb δ p.2).bind fun q=>(vwD q.2 m p.1).bind fun x=>(vwD q.2 m q.1).bind fun y=>(g x y).bind fun u=>(mr u).bind (al q.2)
def xX {m:Nat} {r:R2} {g:Dt->Dt->Option T} {σ:St} {H:Hp} {Q:VK} (hr:R2D K r g) (h:tG K (e2D m g fa fb) σ H Q):tOp r (tG K fa) (tG K fb) σ H Q:=by
 obtain ⟨δ,ch,F,ρ,c,ch',en,hf,k⟩:=h
 unfold e2D at hf
 obtain ⟨p,hp,hf⟩:=bS hf
 obtain ⟨q,hq,hf⟩:=bS hf
 obtain ⟨x,hx,hf⟩:=bS hf
 obtain ⟨y,hy,hf⟩:=bS hf
 obtain ⟨u,hu,hf⟩:=bS hf
 obtain ⟨t,ht,hf⟩:=bS hf
 refine ⟨δ,ch,F,ρ,p.1,p.2,en,hp,fun v F1 H1 ρ1 a1 r1=>⟨δ,p.2,F1,ρ1,q.1,q.2,en.adv a1,hq,fun w F2 H2 ρ2 a2 r2=>?_⟩⟩
 exact hr H2 H2 x y v w Q u (Same.refl _) (RepB.of (Same.refl _) (io a2.gh m _ _ _ (r1.mono a2.old a2.ext a2.len) hx)) (RepB.of (Same.refl _) (io a2.gh m _ _ _ r2 hy)) hu (ms a2.gh.fh ht (jX a2.gh hf (k.adv en.gh (a1.trans en.gh a2))))
def uY (m:Nat) {op:CmpOp} {r:R2} {g:Dt->Dt->Option T} (ho:OpR X (compareOp op) r) (hr:R2D X.K r g) (ha:GE X a fa) (hb:GE X b fb) (hm:behindInMarks op b=false):GE X (.Compare a [op] [b] pos) (e2D m g fa fb):=PE.mono (oI ho ha hb hm) fun _ _ _ h=>xX hr h
end
set_option maxRecDepth 20000
def wl (i j:Int):Prop:=0<j/\j<18446744073709551616
def cg {X:Cx}:OpR X (binaryOp .FloorDiv) (rI wl fun i j=>.int (i/j)):=opI fun i j _ _ _ _ _ hc q=>by
 have h1:(0:Int)<j:=hc.1
 have h2:j<18446744073709551616:=hc.2
 refine floordiv_int (by omega) (by rw [Int.fdiv_eq_ediv_of_nonneg i (by omega)];exact q) (.inl (PyProof.noPylong_of_log2 ?_))
 have h3:j.natAbs≠0:=by omega
 exact Nat.lt_trans ((Nat.log2_lt h3).mpr (show j.natAbs<2^64 by omega)) (by decide)
def dN:Dt->Dt->Option T
 | .int i,.int j=>if 0<j/\j<18446744073709551616 then some (.leaf (.int (i/j))) else none
 | _,_=>none
def dE {K:PySem.W.Frag}:R2D K (rI wl fun i j=>.int (i/j)) dN:=by
 intro F H x y vx vy Q t fh rx ry hg k
 unfold dN at hg
 split at hg<;>first | (cases hg;done) | skip
 split at hg
 · rename_i hc
   cases hg;cases rx;cases ry;exact ⟨_,_,rfl,rfl,hc,k.int fh⟩
 · cases hg
section
variable {K:PySem.W.Frag} {F:Hp} {ρ:Nat->Addr} {n:Nat}
def RelCs.drop:∀ {l:List CV} {vs:List V} (i:Nat),RelCs K F ρ n l vs->RelCs K F ρ n (l.drop i) (vs.drop i)
 | l,vs,0,h=>h
 | [],vs,i+1,h=>by
  cases (show vs=[] from h)
  exact rfl
 | c::l,vs,i+1,h=>by
  obtain ⟨v,ws,rfl,_,r⟩:=h
  exact RelCs.drop i r
def RelCs.take:∀ {l:List CV} {vs:List V} (i:Nat),RelCs K F ρ n l vs->RelCs K F ρ n (l.take i) (vs.take i)
 | l,vs,0,h=>by rw [List.take_zero,List.take_zero];exact rfl
 | [],vs,i+1,h=>by
  cases (show vs=[] from h)
  exact rfl
 | c::l,vs,i+1,h=>by
  obtain ⟨v,ws,rfl,r1,r⟩:=h
  exact ⟨v,ws.take i,rfl,r1,RelCs.take i r⟩
end
section
variable {X:Cx} {e a b o iter tg:Expr} {es:List Expr} {body:List Stmt} {g:Fs} {f fa fb fc fe fk:Fg} {fs:Fgs} {pos apos cpos tpos p:Pos} {sc:Scope} {x:Str} {K:PySem.W.Frag}
end
def uZ (lo st:Int) (n:Nat):It:=⟨fun i _=>i<n,fun i H x H'=>H'=H/\x=.int (lo+i*st),fun i _=>n<=i⟩
def mC {P:Program} {w:World} {K:PySem.W.Frag} {tg:Expr} (it:Addr) (lo st:Int) (n:Nat):Turn P w K tg (uZ lo st n) [it] it (fun i h=>IsRangeIter h it (lo+(i:Nat)*st) ((n:Int)-(i:Nat)) st) where
 mem:=by simp
 obj:=fun i h q b hb=>by
  have e:b=it:=by simpa using hb
  subst e
  exact ⟨_,q,fun v z=>by
   have z':Data.fields _=Data.cell v:=z
   cases z'⟩
 keep:=fun i h h' q k=>k it (by simp) _ q
 item:=by
  intro X hP hw hK hc i pins s σ H E I hf q hg
  subst hP hw hK
  obtain ⟨f0,f1,f2,f3,f4,f5⟩:=hf it (by simp)
  have W:=Walks.range (prog:=X.prog) (w:=X.w) (I.ok.hd hc) it lo st n
  refine W.item i s _ _ hg q fun v h' tk hv q' kk=>?_
  obtain ⟨t,rfl⟩:=hv
  have I1:Inv X pins σ H {s with heap:=h',toks:=tk}:=I.turned (fun b o hb e=>kk b o (by simpa using hb) e) f0 f1 f3 f4 f5
  exact ⟨_,rfl,jv (s:={s with heap:=h',toks:=tk}) (n:="range_iterator") q' rfl rfl (by decide) ⟨.int (lo+i*st),H,I1,⟨t,rfl⟩,⟨rfl,rfl⟩,q',fun b hb=>(hf b hb).1⟩⟩
 done:=by
  intro X hP hw hK hc i pins s σ H E I hf q hg
  subst hP hw hK
  obtain ⟨f0,f1,f2,f3,f4,f5⟩:=hf it (by simp)
  exact wpAny_pyNext_range_end (I.ok.hd hc) q (by have:n<=i:=hg;omega) fun h' eb=>⟨rfl,I.turned (t':=s.toks) (fun b o hb e=>eb b o hb e) f0 f1 f3 f4 f5⟩
 self:=fun _ _ _ _ _ q h=>wpAny_pyIter_rangeiter q h
def nZ (a b c:Int):Bool:=decide (-1000000<=a)&&decide (a<=1000000)&&decide (-1000000<=b)&&decide (b<=1000000)&&decide (-1000000<=c)&&decide (c<=1000000)&&decide (c≠0)
structure R3 (a b c:Int):Prop where
 a0:-1000000<=a
 a1:a<=1000000
 b0:-1000000<=b
 b1:b<=1000000
 c0:-1000000<=c
 c1:c<=1000000
 c:c≠0
def Aa {a b c:Int} (h:nZ a b c=true):R3 a b c:=by
 unfold nZ at h
 simp only [Bool.and_eq_true,decide_eq_true_eq] at h
 obtain ⟨⟨⟨⟨⟨⟨h1,h2⟩,h3⟩,h4⟩,h5⟩,h6⟩,h7⟩:=h
 exact ⟨h1,h2,h3,h4,h5,h6,h7⟩
def R3.size {a b c:Int} (h:R3 a b c):0<=Builtin.Range.rangeSize a b c/\Builtin.Range.rangeSize a b c<=2000001:=by
 obtain ⟨h1,h2,h3,h4,h5,h6,h7⟩:=h
 unfold Builtin.Range.rangeSize
 split
 · rename_i hc
   split
   · have e1:0<=(b-a-1)/c:=Int.ediv_nonneg (by omega) (by omega)
     have e2:(b-a-1)/c<=b-a-1:=Int.ediv_le_self _ (by omega)
     omega
   · omega
 · split
   · have e1:0<=(a-b-1) / -c:=Int.ediv_nonneg (by omega) (by omega)
     have e2:(a-b-1) / -c<=a-b-1:=Int.ediv_le_self _ (by omega)
     omega
   · omega
def fits {a:Int} (h0:-9000000<=a) (h1:a<=9000000):Builtin.Range.rangeFitsLong a=true:=by
 unfold Builtin.Range.rangeFitsLong
 simp
 omega
def R3.small {a b c:Int} (h:R3 a b c):Builtin.Range.small a b c=true:=by
 have hs:=h.size
 obtain ⟨h1,h2,h3,h4,h5,h6,h7⟩:=h
 unfold Builtin.Range.small
 rw [fits (a:=a) (by omega) (by omega),fits (a:=b) (by omega) (by omega),fits (a:=c) (by omega) (by omega),fits (a:=Builtin.Range.rangeSize a b c) (by omega) (by omega)]
 simp only [Bool.and_self,Bool.true_and,Bool.or_eq_true]
 right
 split
 · exact fits (by omega) (by omega)
 · exact fits (by omega) (by omega)
section
variable {X:Cx} {tg:Expr}
def qu {pins:List (Addr×Obj)} {σ:St} {H:Hp} {s:Shared} {R:It->Hp->Prop} {E:Value->Shared->Prop} {a b c:Int} {t u v:Tok} {tk:Nat} (I:Inv X pins σ H s) (h:R3 a b c)
  (q:R (uZ a c (Builtin.Range.rangeSize a b c).toNat) H):wpAny (model X.prog X.w) X.A (pyIter (.ref s.heap.objs.size)) (PIE X pins σ tg R) E {s with heap:=s.heap.push {cls:=.type "range",data:=.fields #[.int a t,.int b u,.int c v]},toks:=tk}:=by
 refine wpAny_pyIter_range (IsRange.new ..) h.small ?_
 have I1:Inv X pins σ H {s with heap:=s.heap.push {cls:=.type "range",data:=.fields #[.int a t,.int b u,.int c v]},toks:=tk}:=I.kept fun b o e=>gP _ e
 refine ⟨(s.heap.push {cls:=.type "range",data:=.fields #[.int a t,.int b u,.int c v]}).objs.size,[(s.heap.push {cls:=.type "range",data:=.fields #[.int a t,.int b u,.int c v]}).objs.size],_,_,H,rfl,
  I1.kept (t':=tk) fun b o e=>gP _ e,mC _ a c (Builtin.Range.rangeSize a b c).toNat,?_,fun bb hb=>?_,q⟩
 · have e1:a+((0:Nat):Int)*c=a:=by simp
   have e2:(((Builtin.Range.rangeSize a b c).toNat:Nat):Int)-((0:Nat):Int)=Builtin.Range.rangeSize a b c:=by have:=h.size;omega
   show IsRangeIter _ _ (a+((0:Nat):Int)*c) ((((Builtin.Range.rangeSize a b c).toNat:Nat):Int)-((0:Nat):Int)) c
   rw [e1,e2]
   exact Heap.get?_push_size _ rfl
 · have e:bb=(s.heap.push {cls:=.type "range",data:=.fields #[.int a t,.int b u,.int c v]}).objs.size:=by simpa using hb
   subst e
   exact I1.fpOk (nL _) (I1.hok.fresh (nL _))
def Ab (ta:TA):TI:=fun σ H R=>ta σ H fun vs H1=>∃ a b c:Int,vs=[.int a,.int b,.int c]/\R3 a b c/\R (uZ a c (Builtin.Range.rangeSize a b c).toNat) H1
def qv {a b c:Expr} {ta:TA} {p pos:Pos} (hg:Gl X "range") (hm:X.mg "range"=none) (ha:PA X [a,b,c] ta) (hs:starEach [a,b,c] X.env=[(false,eval a X.env),(false,eval b X.env),(false,eval c X.env)]:=by rfl) (hs2:starEach [b,c] X.env=[(false,eval b X.env),(false,eval c X.env)]:=by rfl) :
  PI X tg (.Call (.Name "range" p) [a,b,c] [] pos) (Ab ta):=by
 intro pins s σ H R I h
 refine Call_ (gx I hg hm boot_range (PyProof.Rows.callWith_type1 (thn (ha pos pins s σ H _ I h) fun us s1 ⟨vs,H1,I1,r1,q1⟩=>?_) (by rw [hs,hs2]) (by rw [hs2];rfl)))
 obtain ⟨i,j,k,e,q0,q⟩:=q1
 subst e
 cases r1 with
 | cons r rr =>
  cases rr with
  | cons r' rr =>
   cases rr with
   | cons r'' rr =>
    cases rr
    obtain ⟨t,rfl⟩:=r
    obtain ⟨t',rfl⟩:=r'
    obtain ⟨t'',rfl⟩:=r''
    refine call_range_3 q0.c (qu I1 q0 q) (.inl (PyProof.noPylong_small ?_))
    have:=q0.c0
    have:=q0.c1
    omega
def gf (lo st:Int) (n:Nat):List V:=(List.range n).map fun (i:Nat)=>V.int (lo+i*st)
def plain_rangeS {lo st:Int} {n:Nat}:Plain (uZ lo st n) (gf lo st n) (fun _=>True):=fun i H h=>by
 refine ⟨fun hi=>?_,fun e=>?_,fun x H' hi y=>?_⟩
 · show i<n
   simpa [gf] using hi
 · show n<=i
   simp [gf] at e
   omega
 · obtain ⟨e,rfl⟩:=y
   refine ⟨e,?_⟩
   unfold gf at hi ⊢
   rw [List.length_map,List.length_range] at hi
   rw [List.getElem?_map,List.getElem?_range hi]
   rfl
def ll (lo st:Int) (n:Nat):List Dt:=(List.range n).map fun (i:Nat)=>.int (lo+i*st)
def mD {K:PySem.W.Frag} {F:Hp} (lo st:Int) (n:Nat):Reps K F (ll lo st n) (gf lo st n):=Reps.map (fun _=>fQ) _
def iV:List Dt->Option (List Dt)
 | [.int a,.int b,.int c]=>if nZ a b c then some (ll a c (Builtin.Range.rangeSize a b c).toNat) else none
 | _=>none
variable {p pos:Pos} {sc:Scope} {x y z:Expr} {fs:De->Option (List Dt)}
def j3 (h:aH sc "range"=true) (hm:X.mg "range"=none) (ha:DA X [x,y,z] fs) (e1:bM X sc:=by rfl) (hs:starEach [x,y,z] X.env=[(false,eval x X.env),(false,eval y X.env),(false,eval z X.env)]:=by rfl) (hs2:starEach [y,z] X.env=[(false,eval y X.env),(false,eval z X.env)]:=by rfl) :
  DIF X tg (.Call (.Name "range" p) [x,y,z] [] pos) (dj iV fs):=
 PI.mono (qv (glD h e1) hm ha.pa hs hs2) fun σ H R ⟨Φ,δ,F,ds,hK,en,hf,k⟩=>by
  unfold dj at hf
  obtain ⟨as,hd,hf⟩:=bS hf
  refine ⟨Φ,δ,F,as,hK,en,hd,fun vs H' F' st r=>?_⟩
  unfold iV at hf
  split at hf
  · rename_i i j l
    split at hf
    · rename_i hj
      cases hf
      simp only [Reps,Rep] at r
      obtain ⟨v,ws,rfl,rfl,w,us,rfl,rfl,w',us',rfl,rfl,rfl⟩:=r
      exact ⟨i,j,l,rfl,Aa hj,k _ _ H' F' st (plain_rangeS.walk (mD _ _ _)) fun _ _=>trivial⟩
    · cases hf
  · cases hf
end
section
variable {X:Cx} {pins:List (Addr×Obj)} {σ:St} {H:Hp} {s:Shared} {a b:Addr} {v:V} {r:Value} {A:Around} {E:Value->Shared->Prop}
end
section
variable {X:Cx} {o i e value:Expr} {pos pos' tpos:Pos} {td ty tv:TE} {fa fk fe:Fg}
end
section
variable {X:Cx} {es:List Expr} {pos:Pos}
end
section
variable {X:Cx} {e a b o iter tg:Expr} {es:List Expr} {body:List Stmt} {g:Fs} {f fa fb fc fe fk:Fg} {fs:Fgs} {pos apos cpos tpos p:Pos} {sc:Scope} {x:Str} {K:PySem.W.Frag}
end
def sw:Value->Str
 | .str k _=>k
 | _=>""
structure Tx (P:Program) (u:World) (l:List (Int×Value)) (ss:List Str):Prop where
 all:∀ e∈l,∃ k t,e.2=.str k t/\e.1=(PySem.strKind P u).hash k
 per:(l.map fun e=>sw e.2).Perm ss
 nd:ss.Nodup
variable {P:Program} {u:World}
def Tx.elems {l:List (Int×Value)} {ss:List Str} (x:Tx P u l ss):ElemsOf (PySem.strKind P u) l:=fun e he=>by
 obtain ⟨k,t,h1,h2⟩:=x.all e he
 rw [h1]
 exact ⟨⟨k,strKind_is P u k t,h2⟩,rfl⟩
def Tx.perm {l m:List (Int×Value)} {ss:List Str} (x:Tx P u l ss) (p:m.Perm l):Tx P u m ss:=⟨fun e he=>x.all e (p.mem_iff.mp he),(p.map _).trans x.per,x.nd⟩
def xY {k:Str} {v:Value} (h:(PySem.strKind P u).is k v=true):∃ t,v=.str k t:=by
 cases v<;>simp [PySem.strKind,Value.isStrOf] at h
 subst h
 exact ⟨_,rfl⟩
def Tx.mem {l:List (Int×Value)} {ss:List Str} (x:Tx P u l ss) (k:Str):k∈ss↔∃ e∈l,(PySem.strKind P u).is k e.2=true:=by
 rw [<- x.per.mem_iff]
 constructor
 · intro h
   obtain ⟨e,he,e1⟩:=List.mem_map.mp h
   obtain ⟨k',t,h1,_⟩:=x.all e he
   rw [h1] at e1
   refine ⟨e,he,?_⟩
   rw [h1,<- show k'=k from e1]
   exact strKind_is P u k' t
 · rintro ⟨e,he,h⟩
   obtain ⟨t,h1⟩:=xY h
   exact List.mem_map.mpr ⟨e,he,by rw [h1];rfl⟩
def Tx.push {l:List (Int×Value)} {ss:List Str} (x:Tx P u l ss) {k:Str} {t:Tok} (hk:k∉ss):Tx P u (l++[((PySem.strKind P u).hash k,.str k t)]) (ss++[k]):=⟨fun e he=>by
 rcases List.mem_append.mp he with he | he
 · exact x.all e he
 · rw [List.mem_singleton.mp he]
   exact ⟨k,t,rfl,rfl⟩,by
 rw [List.map_append]
 exact x.per.append_right _,by
 refine List.nodup_append.mpr ⟨x.nd,by simp,fun a ha b hb e=>?_⟩
 rw [List.mem_singleton.mp hb] at e
 exact hk (e▸ha)⟩
structure TxS (P:Program) (u:World) (h:Heap) (a:Addr) (ss:List Str) (led:Bool):Prop where
 ex:∃ o es ep t,h.get? a=some o/\o.ExactSet/\o.data=.set es ep t/\Tx P u es.toList ss/\es.size<scanBound/\t.fits es.size=true/\t.led=led/\(es.size=0∨t.plain=false)
def mE (t:SetTable) (n:Nat):(t.orStandIn n).led=t.led/\(t.plain=false->(t.orStandIn n).plain=false):=by
 unfold SetTable.orStandIn
 split
 · exact ⟨rfl,id⟩
 · exact ⟨rfl,fun _=>rfl⟩
def n0 (t:SetTable) (es:Array (Int×Value)) (h:Int) (x:Value):(layNew t es h x).2.1.led=t.led/\(t.plain=false->(layNew t es h x).2.1.plain=false):=by
 unfold layNew
 split
 · exact mE _ _
 · exact ⟨rfl,fun _=>rfl⟩
def n4 {t t':SetTable} {hs:Array Int} {n:Nat} {order:Array Nat} (h:t.relaid hs n=some (t',order)):t'.led=t.led/\t'.plain=t.plain:=by
 unfold SetTable.relaid SetTable.laid at h
 simp only [Option.bind_eq_bind,Option.bind_eq_some_iff,Option.map_eq_some_iff] at h
 obtain ⟨_,_,h⟩:=h
 cases h
 exact ⟨rfl,rfl⟩
def qw (t:SetTable) (es:Array (Int×Value)) (n:Nat):(relayAll t es n).2.1.led=t.led/\(t.plain=false->(relayAll t es n).2.1.plain=false):=by
 unfold relayAll
 split
 · rename_i t' order e
   obtain ⟨h1,h2⟩:=n4 e
   dsimp only
   split
   · exact ⟨h1,fun z=>h2.trans z⟩
   · exact ⟨rfl,fun _=>rfl⟩
 · exact ⟨rfl,fun _=>rfl⟩
end L2
namespace L2
open PySem PySem.Spec PyProof.Rows
section
variable {P:Program} {u:World} {A:Around} {E:Value->Shared->Prop} {s:Shared} {a:Addr} {ss:List Str} {led:Bool}
def j4 {hp:Heap} {o:Obj} {es fs:Array (Int×Value)} {ep:Nat} {tb tc:SetTable} (g1:hp.get? a=some o) (g2:o.ExactSet) (g3:o.data=.set es ep tb) (x:Tx P u fs.toList ss) (hb:fs.size<scanBound) (hf:tc.fits fs.size=true) (hl:tc.led=led) (hq:tc.plain=false) :
  (hp.update a (Obj.putSet fs tc)).get? a=some {o with data:=.set fs (ep+1) tc}/\TxS P u (hp.update a (Obj.putSet fs tc)) a ss led:=by
 have e:=(SetOf_store (knd:=PySem.strKind P u) (S':=fun k=>decide (k∈ss)) g1 g2 g3 x.elems (fun k=>by rw [decide_eq_true_eq];exact x.mem k) hb hf).1
 exact ⟨e,⟨_,fs,ep+1,tc,e,g2,rfl,x,hb,hf,hl,.inr hq⟩⟩
def u0 {k:Str} {t:Tok} {Q:Bool->Shared->Prop} (hS:TxS P u s.heap a ss led) (room:ss.length+1<scanBound)
  (q:∀ hp,Heap.SameBut a s.heap hp->TxS P u hp a (if k∈ss then ss else ss++[k]) led->∀ b,Q b {s with heap:=hp}):wpAny (model P u) A (setAddHashed a (.str k t) ((PySem.strKind P u).hash k)) Q E s:=by
 obtain ⟨o,es,ep,tb,g1,g2,g3,x,hb,hf,hl,hpl⟩:=hS.ex
 have hn:es.size=ss.length:=by rw [<- x.per.length_eq,List.length_map,Array.length_toList]
 have big:es.size+1<scanBound:=by rw [hn];exact room
 unfold setAddHashed setAddHashedIn
 refine wpAny_holding (wB (wpAny_setState_of g1 g3 hf ?_))
 dsimp only
 rw [byScan_of (knd:=PySem.strKind P u) (show Value.scannable (.str k t)=true from rfl) hb x.elems]
 simp only [↓reduceIte]
 unfold setAddByScan
 refine wB (wB (wpAny_rule (wB (wpAny_setScan_of (strKind_is P u k t) g1 g3 hf x.elems ?_))))
 cases hr:List.findIdx? (fun e=>(PySem.strKind P u).is k e.2) es.toList with
 | some j =>
  dsimp only
  obtain ⟨hj,hpj,_⟩:=List.findIdx?_eq_some_iff_getElem.mp hr
  have hm:k∈ss:=(x.mem k).mpr ⟨es.toList[j],List.getElem_mem hj,hpj⟩
  refine wpAny_pure (wpAny_pure ?_)
  have:=q s.heap (Heap.SameBut.refl a s.heap) (by rw [if_pos hm];exact hS) false
  rw [show s={s with heap:=s.heap} by cases s;rfl]
  exact this
 | none =>
  dsimp only
  have hm:k∉ss:=fun z=>by
   obtain ⟨e,he,hp⟩:=(x.mem k).mp z
   have:=List.findIdx?_eq_none_iff.mp hr e he
   rw [hp] at this
   exact Bool.noConfusion this
  rw [if_neg hm] at q
  have perm:=layNew_perm tb es ((PySem.strKind P u).hash k) (.str k t)
  have fits:=layNew_fits tb es ((PySem.strKind P u).hash k) (.str k t)
  have ledd:=n0 tb es ((PySem.strKind P u).hash k) (.str k t)
  generalize layNew tb es ((PySem.strKind P u).hash k) (.str k t)=L at perm fits ledd ⊢
  obtain ⟨fs,tc,wasD,gave⟩:=L
  dsimp only at perm fits ledd ⊢
  rw [Array.toList_push] at perm
  have y:Tx P u fs.toList (ss++[k]):=(x.push hm).perm perm
  have hb2:fs.size<scanBound:=by rw [<- Array.length_toList,perm.length_eq,List.length_append,Array.length_toList];simpa using big
  have gw:∀ (b:Bool) {s1:Shared} {Q1:Unit->Shared->Prop},Q1 () s1->wpAny (model P u) A (match b with | true=>rule "set.scan.the-table-gave-way" | false=>pure ()) Q1 E s1:=fun b s1 Q1 z=>by
   cases b
   · exact wpAny_pure z
   · exact wpAny_rule z
  refine wB (gw _ ?_)
  have tail:∀ tc2:SetTable,tc2.fits fs.size=true->tc2.led=led->tc2.plain=false->wpAny (model P u) A (do
      storeSet a fs tc2
      if (!wasD&&tc2.tooFull)=true then do
          (match (relayAll tc2 fs (SetTable.grown fs.size)).2.2 with | true=>rule "set.scan.the-table-gave-way" | false=>pure ())
          storeSet a (relayAll tc2 fs (SetTable.grown fs.size)).1 (relayAll tc2 fs (SetTable.grown fs.size)).2.1
          pure (some true)
       else pure (some true)) (fun r s1=>wpAny (model P u) A (match r with | some added=>pure added | none=>setAddHashedIn a (.str k t) ((PySem.strKind P u).hash k) 99999) Q E s1) E s:=fun tc2 h1 h2 h3=>by
   refine wB (wpAny_storeSet_of g1 g3 ?_ (fits_of_scanBound hb2))
   obtain ⟨e1,T1⟩:=j4 g1 g2 g3 y hb2 h1 h2 h3
   have sb:=Heap.SameBut.update s.heap a (Obj.putSet fs tc2)
   split
   · have p2:=relayAll_perm tc2 fs (SetTable.grown fs.size)
     have f2:=relayAll_fits tc2 fs (SetTable.grown fs.size)
     have l2:=qw tc2 fs (SetTable.grown fs.size)
     generalize relayAll tc2 fs (SetTable.grown fs.size)=M at p2 f2 l2 ⊢
     obtain ⟨gs,td,gave2⟩:=M
     dsimp only at p2 f2 l2 ⊢
     have sz:gs.size=fs.size:=by rw [<- Array.length_toList,p2.length_eq,Array.length_toList]
     have hb3:gs.size<scanBound:=by rw [sz];exact hb2
     refine wB (gw _ (wB (wpAny_storeSet_of e1 rfl ?_ (fits_of_scanBound hb3))))
     obtain ⟨_,T2⟩:=j4 e1 g2 rfl (y.perm p2) hb3 f2 (l2.1.trans h2) (l2.2 h3)
     exact wpAny_pure (wpAny_pure (q _ (sb.trans (Heap.SameBut.update _ a _)) T2 true))
   · exact wpAny_pure (wpAny_pure (q _ sb T1 true))
  split
  · refine wB ?_
    rw [hashByValue_scannable 8 (show Value.scannable (.str k t)=true from rfl)]
    refine wpAny_pure ?_
    exact tail {tc with plain:=false} (SetTable.fits_plain_off fits) (ledd.1.trans hl) rfl
  · rename_i hpl2
    exact tail tc fits (ledd.1.trans hl) (by simpa using hpl2)
end
def bI (acc:List Str) (k:Str):List Str:=if k∈acc then acc else acc++[k]
def met (val:Nat->Str) (i:Nat):List Str:=((List.range i).map val).foldl bI []
def mF (val:Nat->Str) (i:Nat):met val (i+1)=bI (met val i) (val i):=by
 unfold met
 rw [List.range_succ,List.map_append,List.foldl_append]
 rfl
def lm (val:Nat->Str):∀ i,(met val i).length<=i
 | 0=>nL _
 | i+1=>by
  rw [mF]
  have:=lm val i
  unfold bI
  split
  · omega
  · rw [List.length_append,List.length_singleton]
    omega
section
variable {P:Program} {u:World} {A:Around} {R:Result->Shared->Prop} {I:Addr} {fp wr:List Addr} {G:Array GenState->Array GenState->Prop} {n:Nat} {Pv:Nat->Value->Prop} {St:Nat->Shared->Prop} {led:Bool}
def TxS.moved {h h':Heap} {a:Addr} {ss:List Str} (x:TxS P u h a ss led) (e:∀ o,h.get? a=some o->h'.get? a=some o):TxS P u h' a ss led:=by
 obtain ⟨o,es,ep,t,g,r⟩:=x.ex
 exact ⟨o,es,ep,t,e o g,r⟩
def sx (W:WalksS P u A.in1 I fp wr G n Pv St) (S:Addr) (out:S∉fp) (val:Nat->Str) (hval:∀ i v,Pv i v->∃ t,v=.str (val i) t) (hb:n+1<scanBound) :
  ∀ (m i:Nat) (s:Shared),n-i=m->i<=n->St i s->TxS P u s.heap S (met val i) led->(∀ s',Moved (S::wr) G s s'->TxS P u s'.heap S (met val n) led->R (.ok (.ret .none)) s')→
   codeAny (model P u) A (.builtin "set.update.loop" ⟨[.ref S,.ref I],[]⟩) R s:=by
 have nw:S∉wr:=fun h=>out (W.sub _ h)
 have sub:∀ b∈wr,b∈S::wr:=fun b hb=>List.mem_cons_of_mem _ hb
 intro m
 induction m with
 | zero =>
  intro i s hm hi hst hS hR
  obtain rfl:i=n:=by omega
  refine codeAny_builtin F.entry_set_update_loop ?_
  rw [Around.under_plainId F.plain_set_update_loop _]
  refine wB (W.done s _ _ hst fun s1 mv=>?_)
  exact wpAny_pure (hR s1 (mv.mono sub) (hS.moved fun o e=>mv.heap S _ nw e))
 | succ m ih =>
  intro i s hm hi hst hS hR
  have lt:i<n:=by omega
  refine codeAny_builtin F.entry_set_update_loop ?_
  rw [Around.under_plainId F.plain_set_update_loop _]
  refine wB (W.item i s _ _ lt hst fun v s1 hP hst1 mv=>?_)
  obtain ⟨t,rfl⟩:=hval i v hP
  have hS1:TxS P u s1.heap S (met val i) led:=hS.moved fun o e=>mv.heap S _ nw e
  show wpAny _ A.in1 (holding [Value.str (val i) t] (setAdd S (.str (val i) t)) >>= _) _ _ s1
  refine wB (wpAny_holding ?_)
  unfold setAdd
  refine wpAny_holding (wB ((PySem.strKind P u).pyHash (k:=val i) (strKind_is P u _ _) ?_))
  have room:(met val i).length+1<scanBound:=by have:=lm val i;omega
  refine u0 (s:={s1 with toks:=s1.toks+1}) hS1 room fun h2 sb hS2 b=>?_
  have hS3:TxS P u h2 S (met val (i+1)) led:=by rw [mF];exact hS2
  refine wpAny_pure ⟨plainId_quiet F.plain_set_update_loop _,ih (i+1) _ (by omega) lt (W.frame _ s1 _ _ hst1 (Nat.le_succ _) fun b hb o e=>?_) hS3 fun s2 mv2 hS4=>?_⟩
  · rw [sb.2 b (fun h:b=S=>out (by rw [<- h];exact hb))]
    exact e
  · refine hR s2 (Moved.trans W.gtrans ((mv.mono sub).then_heap (Nat.le_succ _) fun b o hb e=>?_) mv2) hS4
    rw [sb.2 b (fun h:b=S=>hb (by rw [h];exact List.mem_cons_self))]
    exact e
end
def ci (u:World):Bool:=!(u.params.followText "set-order")
section
variable {P:Program} {u:World} {A:Around} {E:Value->Shared->Prop} {s:Shared}
def u1 (v:Value) {Q1:Value->Shared->Prop} (q:Q1 (.ref s.heap.objs.size) {s with heap:=s.heap.push {cls:=.type "set",dict:=none,data:=.set #[] 0 (.fresh 0 0 (ci u))}}) :
  codeAny (model P u) A (.call (.builtin "set.__new__") ⟨[.type "set",v],[]⟩) (wants Q1 E) s:=by
 refine codeAny_of_tree ?_
 show wpAny _ A.in1 (do checkBuiltinCall "set.__new__" ⟨[.type "set",v],[]⟩;again (.builtin "set.__new__" ⟨[.type "set",v],[]⟩)) _ _ s
 refine wB (wpAny_of_eq (F.newCall_set_1 v) (wpAny_pure ⟨plainId_quiet F.plain_set_new _,codeAny_builtin F.entry_set_new ?_⟩))
 rw [Around.under_plainId F.plain_set_new _]
 unfold Builtin.«set.__new__» Builtin.Frozenset.newClass
 have z:=sub_set_self
 obtain ⟨hp,g,d,tk,os⟩:=s
 dsimp only
 wp_walk
 refine wpAny_askSetting (wpAny_pure ?_)
 dsimp only
 simp only [newObj]
 refine wB (wpAny_alloc (wpAny_pure ?_))
 exact wpAny_pure q
end
section
variable {P:Program} {u:World} {A:Around} {E:Value->Shared->Prop} {s:Shared}
def qx {hp:Heap} {a:Addr} {led:Bool} (e:hp.get? a=some {cls:=.type "set",dict:=none,data:=.set #[] 0 (.fresh 0 0 led)}):TxS P u hp a [] led:=
 ⟨_,#[],0,.fresh 0 0 led,e,⟨rfl,rfl,rfl⟩,rfl,⟨(fun e he=>by cases he),List.Perm.refl _,List.nodup_nil⟩,(by unfold scanBound;decide),(by cases led<;>rfl),rfl,.inl rfl⟩
def sy {l:Addr} {vs:Array Value} {val:Nat->Str} {Q:Value->Shared->Prop} (calm:A.handled=none) (hl:s.heap.IsList l vs) (hi:∀ (i:Nat) (v:Value),vs[i]?=some v->∃ t,v=.str (val i) t) (hb:vs.size+1<scanBound)
  (q:∀ (hp:Heap) (tk:Nat),TxS P u hp s.heap.objs.size (met val vs.size) (ci u)->(∀ b o,b<s.heap.objs.size->s.heap.get? b=some o->hp.get? b=some o)->Q (.ref s.heap.objs.size) {s with heap:=hp,toks:=tk}) :
  wpAny (model P u) A (call (.type "set") [.ref l]) Q E s:=by
 obtain ⟨c0,tl0,m0⟩:=F.called_set.mro
 have m1:=F.called_set.made
 have m2:=F.called_set.sub
 refine wpAny_call (codeAny_of_tree ?_)
 show wpAny _ _ (callAny (.type "set") _) _ _ _
 refine wpAny_pure ⟨Code.quiet_builtin _ (by decide +kernel),codeAny_builtin F.entry_type_call ?_⟩
 rw [Around.under_plain (weight_type_call_type "set" [.ref l] []) rfl]
 have m3:=F.called_set.notType
 have m4:=F.called_set.canCreate
 have m5:=F.typeCall_set_1 (.ref l)
 repeat (any_goals (first | assumption | wp_step))
 refine codeAny_mono (u1 (.ref l) (E:=E) (Q1:=fun x s1=>x=.ref s.heap.objs.size/\s1={s with heap:=s.heap.push {cls:=.type "set",dict:=none,data:=.set #[] 0 (.fresh 0 0 (ci u))}}) ⟨rfl,rfl⟩) fun r s1 hr=>?_
 cases r with
 | error e=>exact hr
 | ok fl =>
  cases fl with
  | ret x =>
   obtain ⟨rfl,rfl⟩:=hr
   have gS:(s.heap.push {cls:=.type "set",dict:=none,data:=.set #[] 0 (.fresh 0 0 (ci u))}).get? s.heap.objs.size=some {cls:=.type "set",dict:=none,data:=.set #[] 0 (.fresh 0 0 (ci u))}:=Heap.get?_push_size _ rfl
   have tS:Shared.TypeIs {s with heap:=s.heap.push {cls:=.type "set",dict:=none,data:=.set #[] 0 (.fresh 0 0 (ci u))}} (.ref s.heap.objs.size) "set":=⟨_,gS,rfl⟩
   have n1:=F.called_set.init.lookup
   have n2:=F.called_set.init.bind (.ref s.heap.objs.size)
   repeat (any_goals (first | assumption | wp_step))
   refine codeAny_mono (codeAny_call_builtin (R:=wants (fun r s2=>r=.none/\∃ hp tk,s2={s with heap:=hp,toks:=tk}/\TxS P u hp s.heap.objs.size (met val vs.size) (ci u)/\(∀ b o,b<s.heap.objs.size->s.heap.get? b=some o->hp.get? b=some o)) E) F.called_set.init.plain F.entry_set_init (check_set_init_1 tS ?_)) fun r2 s2 hr2=>?_
   · obtain ⟨ol,hol,hcl,nl,hdl⟩:=hl
     obtain ⟨oc,od,oda,osl⟩:=ol
     simp only at hcl hdl
     subst hcl hdl
     have hol2:(s.heap.push {cls:=.type "set",dict:=none,data:=.set #[] 0 (.fresh 0 0 (ci u))}).get? l=some {cls:=.type "list",dict:=od,data:=.seq vs nl,slots:=osl}:=gP _ hol
     have k1:=F.sub_list_set
     have k2:=F.sub_list_frozenset
     have k3:(Value.type "list"==Value.type "dict")=false:=by decide
     have hl1:(s.heap.push {cls:=.type "set",dict:=none,data:=.set #[] 0 (.fresh 0 0 (ci u))}).IsList l vs:=⟨_,hol2,rfl,nl,rfl⟩
     unfold Builtin.«set.__init__» noKeywords Builtin.Frozenset.updateFrom
     generalize hPI:pyIter=PI
     wp_walk
     subst hPI
     refine wpAny_pyIter_list hl1 (wB (wpAny_runValue ?_))
     have ls:l<s.heap.objs.size:=Heap.lt_size hol
     have c3:A.in1.in1.in1.handled=none:=by simp [calm]
     have ne1:l≠(s.heap.push {cls:=.type "set",dict:=none,data:=.set #[] 0 (.fresh 0 0 (ci u))}).objs.size:=by
      rw [Heap.size_push]
      exact Nat.ne_of_lt (Nat.lt_succ_of_lt ls)
     have ne2:s.heap.objs.size∉[(s.heap.push {cls:=.type "set",dict:=none,data:=.set #[] 0 (.fresh 0 0 (ci u))}).objs.size,l]:=by
      rw [Heap.size_push]
      simp only [List.mem_cons,List.mem_singleton,List.not_mem_nil,or_false,not_or]
      exact ⟨Nat.ne_of_lt (Nat.lt_succ_self _),Nat.ne_of_gt ls⟩
     refine sx ((Walks.list c3 _ l ne1 vs).toS) s.heap.objs.size ne2 val hi hb (vs.size-0) 0 _ (by omega) (Nat.zero_le _) ⟨⟨_,Heap.get?_push_size _ rfl,rfl,rfl⟩,(hl1.push _)⟩ (qx (gP _ gS)) fun s3 mv hS3=>?_
     obtain ⟨hp,g3,d3,tk3,o3⟩:=s3
     have eg:g3=s.gens:=mv.gens
     have ed:d3=s.drawn:=mv.drawn
     have eo:o3=s.os:=mv.os
     subst eg ed eo
     show wpAny _ _ _ _ _ _
     refine wpAny_pure ?_
     show wpAny _ _ (ret Value.none) _ _ _
     refine wpAny_pure ⟨rfl,hp,tk3,rfl,hS3,fun b o hb e=>?_⟩
     have b1:b≠s.heap.objs.size:=Nat.ne_of_lt hb
     have b2:b≠(s.heap.push {cls:=.type "set",dict:=none,data:=.set #[] 0 (.fresh 0 0 (ci u))}).objs.size:=by
      rw [Heap.size_push]
      exact Nat.ne_of_lt (Nat.lt_succ_of_lt hb)
     exact mv.heap b o (by simp only [List.mem_cons,List.mem_singleton,List.not_mem_nil,or_false,not_or];exact ⟨b1,b2⟩) (Heap.get?_push_of_some _ (Heap.get?_push_of_some _ e))
   · cases r2 with
     | error e=>exact hr2
     | ok f2 =>
      cases f2 with
      | ret r =>
       obtain ⟨rfl,hp,tk,rfl,hS3,kept⟩:=hr2
       repeat (any_goals (first | assumption | wp_step))
       exact q _ _ hS3 kept
      | _=>exact hr2.elim
  | _=>exact hr.elim
end
def gO {α:Type}:∀ {l:List α} {i:Nat} (h:i<l.length),(l[i]::l.eraseIdx i).Perm l
 | x::l,0,h=>List.Perm.refl _
 | x::l,i+1,h=>by
  have:=gO (l:=l) (i:=i) (by simpa using h)
  exact (List.Perm.swap _ _ _).trans (this.cons x)
section
variable {M:Model} {A:Around} {E:Value->Shared->Prop}
def n5 {src:Source} {n:Nat} {Q:Nat->Shared->Prop} {s:Shared} (hn:n≠0) (q:∀ i d,i<n->Q i {s with drawn:=d}):wpAny M A (choose src n) Q E s:=fun G p hG=>by
 show Sem.wp M G (.choose src n .pure) _ _ p s
 rw [Sem.wp_choose]
 refine ⟨hn,?_⟩
 rw [Sem.wp_pure]
 exact q _ _ (Nat.mod_lt _ (Nat.pos_of_ne_zero hn))
def e8 {α:Type}:∀ (n:Nat) (xs:List α) {Q:List α->Shared->Prop} {s:Shared},xs.length=n->(∀ ys d,ys.Perm xs->Q ys {s with drawn:=d})->wpAny M A (drawOrder n xs) Q E s
 | 0,xs,Q,s,hl,q=>by
  have e:xs=[]:=List.length_eq_zero_iff.mp hl
  subst e
  show wpAny M A (pure []) Q E s
  refine wpAny_pure ?_
  have:=q [] s.drawn (List.Perm.refl _)
  cases s
  exact this
 | n+1,[],Q,s,hl,q=>by cases hl
 | n+1,x::xs,Q,s,hl,q=>by
  show wpAny M A (choose .order (x::xs).length >>= fun i=>match (x::xs)[i]? with | some y=>(drawOrder n ((x::xs).eraseIdx i)) >>= fun ys=>pure (y::ys) | none=>unsupported "internal:drawOrder") Q E s
  refine wpAny_bind (n5 (by simp) fun i d hi=>?_)
  rw [gQ hi]
  dsimp only
  refine wB (e8 n ((x::xs).eraseIdx i) (by rw [List.length_eraseIdx_of_lt hi];omega) fun ys d2 p=>wpAny_pure (q _ d2 ?_))
  exact (p.cons _).trans (gO hi)
end
def ln:entryFor table "set.__iter__"=some Builtin.«frozenset.__iter__»:=entryFor_alias (id':="frozenset.__iter__") (by kernel_rfl) rfl (by decide +kernel) (by kernel_rfl)
def hJ:typeLookup (.type "set_iterator") "__next__"=pure (some (.builtin "set_iterator.__next__")):=by rw [typeLookup_type,builtinLookup_eq_fast];kernel_rfl
section
variable {P:Program} {u:World} {A:Around} {E:Value->Shared->Prop} {s:Shared} {a:Addr} {o:Obj} {es:Array (Int×Value)} {ep:Nat} {t:SetTable}
def iW (first:Value) (i:Int) (a:Addr) (n ep:Nat):Obj:={cls:=.type "set_iterator",data:=.fields #[first,rawInt i,.ref a,rawInt n,rawInt ep]}
def mG {Q:Value->Shared->Prop} (g1:s.heap.get? a=some o) (g2:o.ExactSet) (g3:o.data=.set es ep t) (hf:t.fits es.size=true) (hb:es.size<scanBound)
  (q1:∀ (ys:List Nat) d,ci u=true->(t.plain=false/\1<es.size)->ys.Perm (List.range es.size)->Q (.ref (s.heap.objs.size+1)) {s with drawn:=d,heap:=(s.heap.push {cls:=.type "tuple",data:=.seq (ys.map fun (i:Nat)=>rawInt i).toArray}).push (iW (.ref s.heap.objs.size) 0 a es.size ep)})
  (q2:(ci u=false∨¬ (t.plain=false/\1<es.size))->Q (.ref s.heap.objs.size) {s with heap:=s.heap.push (iW (rawInt 0) 0 a es.size ep)}):wpAny (model P u) A (pyIter (.ref a)) Q E s:=by
 have hT:s.TypeIs (.ref a) "set":=⟨o,g1,g2.1⟩
 refine wpAny_pyIter_slot hT F.slot_set_iter (wpAny_call_entry F.slot_set_iter hT ln ?_ (F.args_set_iter_1 _))
 unfold Builtin.«frozenset.__iter__»
 refine wB (wB (wpAny_pure (wpAny_pure ?_)))
 unfold Builtin.Frozenset.sizeOf setEntries
 refine wB (wB (wB (wpAny_setState_of g1 g3 hf (wpAny_pure (wpAny_pure ?_)))))
 unfold setDrawn setsByText
 refine wB (wB (wpAny_setState_of g1 g3 hf (wB (wB (wpAny_askSetting (wpAny_pure (wpAny_pure ?_)))))))
 have hl:(!(u.params.followText "set-order"))=ci u:=rfl
 show wpAny (model P u) A.in1 (if (!(u.params.followText "set-order")&&(!t.plain&&decide (es.size > 1)))=true then (drawOrder es.size (List.range es.size) >>= fun ys=>newTuple (ys.map fun (i:Nat)=>rawInt i) >>= fun first=>setEpoch a >>= fun e=>newFields "set_iterator" [first,rawInt 0,.ref a,rawInt es.size,rawInt e] >>= fun v=>ret v) else (pure (rawInt 0) >>= fun first=>setEpoch a >>= fun e=>newFields "set_iterator" [first,rawInt 0,.ref a,rawInt es.size,rawInt e] >>= fun v=>ret v)) _ _ s
 rw [hl]
 by_cases hd:(ci u&&(!t.plain&&decide (es.size > 1)))=true
 · rw [if_pos hd]
   simp only [Bool.and_eq_true,Bool.not_eq_true',decide_eq_true_eq] at hd
   refine wpAny_bind (e8 _ _ (by simp) fun ys d p=>?_)
   have hlen:ys.length=es.size:=by rw [p.length_eq,List.length_range]
   refine wB ?_
   refine wpAny_newTuple ?_ (by rw [List.length_map,hlen];exact fits_of_scanBound hb)
   unfold setEpoch
   refine wB (wB (wpAny_setState_of (s:={s with drawn:=d,heap:=s.heap.push {cls:=.type "tuple",data:=.seq (ys.map fun (i:Nat)=>rawInt i).toArray}}) (gP _ g1) g3 hf (wpAny_pure ?_)))
   refine wB (wpAny_newObj_type (wpAny_pure ⟨_,rfl,"set_iterator",_,⟨_,Heap.get?_push_size _ rfl,rfl⟩,hJ,?_⟩))
   have:=q1 ys d hd.1 hd.2 p
   rw [Heap.size_push]
   exact this
 · rw [if_neg hd]
   refine wB (wpAny_pure ?_)
   unfold setEpoch
   refine wB (wB (wpAny_setState_of g1 g3 hf (wpAny_pure ?_)))
   refine wB (wpAny_newObj_type (wpAny_pure ⟨_,rfl,"set_iterator",_,⟨_,Heap.get?_push_size _ rfl,rfl⟩,hJ,?_⟩))
   refine q2 ?_
   by_cases h1:ci u=true
   · right
     intro z
     exact hd (by rw [h1,z.1];simp;exact z.2)
   · left
     simpa using h1
end
def j5:Manifest.owners.lookup (String.ofList ['r','o','t','a','r','e','t','i','_','t','e','s'].reverse)=some Manifest.sig_set_iterator:=by kernel_rfl
def slot_setit:Slot "set_iterator" "__next__" "set_iterator.__next__":=.of (owner:="set_iterator") (n:="__next__") (by rw [typeLookup_type,builtinLookup_eq_fast];kernel_rfl) (by decide +kernel) (by decide +kernel) (by decide +kernel) (by first | exact .inl (by decide +kernel) | exact .inr (by decide +kernel)) (by rw [isSubtype_type];kernel_rfl)
def eQ:entryFor table "set_iterator.__next__"=some Builtin.«set_iterator.__next__»:=entryFor_of_tree (by kernel_rfl)
def dG (v:Value):argsOk "set_iterator.__next__" ⟨[v],[]⟩:=by unfold argsOk;rw [signature?_of (id:="set_iterator.__next__") (n:=['_','_','t','x','e','n','_','_']) (o:=['r','o','t','a','r','e','t','i','_','t','e','s']) (by kernel_rfl) j5];kernel_rfl
section
variable {P:Program} {u:World} {A:Around} {E:Value->Shared->Prop} {s:Shared} {a I:Addr} {o:Obj} {es:Array (Int×Value)} {ep n:Nat} {t:SetTable}
def ItAt (h:Heap) (I:Addr) (first:Value) (i:Nat) (a:Addr) (n ep:Nat):Prop:=∃ q,h.get? I=some q/\q.cls=.type "set_iterator"/\q.data=.fields #[first,rawInt i,.ref a,rawInt n,rawInt ep]
def ItAt.ty {first:Value} {i:Nat} (x:ItAt s.heap I first i a n ep):s.TypeIs (.ref I) "set_iterator":=let ⟨q,h,c,_⟩:=x;⟨q,h,c⟩
def iX {T:Addr} {ot:Obj} {ps:Array Value} {m i p:Nat} {hx:Int} {x:Value} {Q:Option Value->Shared->Prop} (hit:ItAt s.heap I (.ref T) i a es.size ep) (g1:s.heap.get? a=some o) (g3:o.data=.set es ep t) (hf:t.fits es.size=true) (k1:s.heap.get? T=some ot) (k2:ot.data=.seq ps m) (hp:ps[i]?=some (rawInt p)) (hx:es[p]?=some (hx,x))
  (q:∀ h',ItAt h' I (.ref T) (i+1) a es.size ep->Heap.SameBut I s.heap h'->Q (some x) {s with heap:=h'}):wpAny (model P u) A (pyNext (.ref I)) Q E s:=by
 obtain ⟨oi,hi,hc,hd⟩:=id hit
 unfold pyNext
 refine wB (wpAny_attempt (wpAny_callSpecial?_slot (name:=Str.ofString "__next__") hit.ty slot_setit (wpAny_call_entry slot_setit hit.ty eQ ?_ (dG _))))
 unfold Builtin.«set_iterator.__next__»
 refine wB (wpAny_pure (wB (wpAny_fieldsOf hi hd ?_)))
 unfold setEntries
 refine wB (wB (wpAny_setState_of g1 g3 hf (wpAny_pure ?_)))
 rw [if_neg (by simp)]
 refine wB (wpAny_seqItems k1 k2 ?_)
 dsimp only
 rw [Int.toNat_natCast,hp]
 show wpAny _ _ (setNextDrawn a ((p:Int)).toNat ((ep:Int)).toNat >>= fun x=>setField (.ref I) 1 (rawInt ((i:Int)+1)) >>= fun _=>ret x) _ _ s
 rw [Int.toNat_natCast,Int.toNat_natCast]
 unfold setNextDrawn
 refine wB (wB (wpAny_setState_of g1 g3 hf ?_))
 dsimp only
 rw [if_neg (by simp),hx]
 refine wpAny_pure ?_
 refine wpAny_bind (wpAny_setField hi hd (by simp) ?_)
 have hit2:ItAt (s.heap.update I (Obj.mapFields (·.setIfInBounds 1 (rawInt ((i:Int)+1))))) I (.ref T) (i+1) a es.size ep:=
  ⟨_,Heap.get?_update_self _ hi (Obj.isFreed_of_fields (Obj.data_mapFields hd _)),(Obj.cls_mapFields ..).trans hc,by rw [Obj.data_mapFields hd];simp [rawInt]⟩
 exact wpAny_pure ⟨_,rfl,wpAny_pure (q _ hit2 (Heap.SameBut.update ..))⟩
end
set_option maxHeartbeats 400000
section
variable {P:Program} {u:World} {A:Around} {E:Value->Shared->Prop} {s:Shared} {a I:Addr} {o:Obj} {es:Array (Int×Value)} {ep n:Nat} {t:SetTable}
def jr {T:Addr} {ot:Obj} {ps:Array Value} {m:Nat} {Q:Option Value->Shared->Prop} (calm:A.handled=none) (hit:ItAt s.heap I (.ref T) es.size a es.size ep) (g1:s.heap.get? a=some o) (g3:o.data=.set es ep t) (hf:t.fits es.size=true) (k1:s.heap.get? T=some ot) (k2:ot.data=.seq ps m) (hp:ps.size=es.size)
  (q:∀ h',Heap.ExtBut I s.heap h'->Q none {s with heap:=h'}):wpAny (model P u) A (pyNext (.ref I)) Q E s:=by
 obtain ⟨oi,hi,hc,hd⟩:=id hit
 unfold pyNext
 refine wB (wpAny_attempt (wpAny_callSpecial?_slot (name:=Str.ofString "__next__") hit.ty slot_setit (wpAny_call_entry slot_setit hit.ty eQ ?_ (dG _))))
 unfold Builtin.«set_iterator.__next__»
 refine wB (wpAny_pure (wB (wpAny_fieldsOf hi hd ?_)))
 unfold setEntries
 refine wB (wB (wpAny_setState_of g1 g3 hf (wpAny_pure ?_)))
 rw [if_neg (by simp)]
 refine wB (wpAny_seqItems k1 k2 ?_)
 dsimp only
 rw [Int.toNat_natCast,Array.getElem?_eq_none (by omega)]
 show wpAny _ _ (setField (.ref I) 0 (rawInt 0) >>= fun _=>setField (.ref I) 2 .none >>= fun _=>newExc (.type "StopIteration") [] >>= fun e=>raiseNew e) _ _ s
 refine wpAny_bind (wpAny_setField hi hd (by simp) ?_)
 refine wpAny_bind (wpAny_setField (Heap.get?_update_self _ hi (Obj.isFreed_of_fields (Obj.data_mapFields hd _))) (Obj.data_mapFields hd _) (by simp) ?_)
 show wpAny _ _ (newExc (.type "StopIteration") [] >>= _) _ _ _
 refine wB ?_
 simp only [newExc,newTuple]
 refine wB (wpAny_newObj_type ?_ (by size_fits))
 refine wpAny_bind (m:=firstArgMember _ _) (wpAny_of_eq (a:=Value.none) (by first | rfl | (simp only [firstArgMember];rfl)) ?_)
 refine wpAny_newObj_type ?_ (by size_fits)
 simp only [raiseNew]
 refine wB (wpAny_handled ?_)
 rw [show A.in1.handled=none from calm]
 refine wB (wpAny_pure (wpAny_throw ?_))
 refine wB (wpAny_isInstance (T:="StopIteration") (b:=true) ⟨_,Heap.get?_push_size _ rfl,rfl⟩ isSubtype_stop ?_)
 exact wpAny_pure (q _ (((Heap.SameBut.update ..).trans (Heap.SameBut.update ..)).extBut.push _ |>.push _))
end
def pw {α:Type} (f:Nat->Nat):∀ (n k:Nat) (l:List α) (out:Array α),l.length=n->(pickOrder.go f n k l out).toList.Perm (out.toList++l)
 | 0,k,l,out,hl=>by
  have e:l=[]:=List.length_eq_zero_iff.mp hl
  subst e
  rw [pickOrder.go,List.append_nil]
 | n+1,k,l,out,hl=>by
  have hlt:f k%l.length<l.length:=Nat.mod_lt _ (by omega)
  rw [pickOrder.go,gQ hlt]
  dsimp only
  refine (pw f n (k+1) (l.eraseIdx (f k%l.length)) (out.push l[f k%l.length]) (by rw [List.length_eraseIdx_of_lt hlt];omega)).trans ?_
  rw [Array.toList_push,List.append_assoc]
  exact List.Perm.append_left _ (gO hlt)
def px {α:Type} (f:Nat->Nat) (xs:Array α):(pickOrder f xs).toList.Perm xs.toList:=by
 have:=pw f xs.size 0 xs.toList #[] (by simp)
 simpa [pickOrder] using this
section
variable {P:Program} {u:World} {A:Around} {E:Value->Shared->Prop} {s:Shared} {a I:Addr} {o:Obj} {es:Array (Int×Value)} {ep n:Nat} {t:SetTable}
def dv {j i:Nat} {Q:Option (Value×Nat)->Shared->Prop} (byT:ci u=false) (g1:s.heap.get? a=some o) (g3:o.data=.set es ep t) (hf:t.fits es.size=true)
  (q:Q (((pickOrder (u.params.setOrder a ep) es)[i]?).map fun e=>(e.2,j)) s):wpAny (model P u) A (setNext a j i ep) Q E s:=by
 have hb:u.params.followText "set-order"=true:=by
  unfold ci at byT
  simpa using byT
 unfold setNext setsByText
 refine wB (wpAny_setState_of g1 g3 hf (wB (wB (wpAny_askSetting (wpAny_pure ?_)))))
 show wpAny (model P u) A (if u.params.followText "set-order"=true then _ else _) Q E s
 rw [if_pos hb,if_neg (by simp)]
 unfold setWalk setsByText
 refine wB (wB (wpAny_setState_of g1 g3 hf (wB (wB (wpAny_askSetting (wpAny_pure ?_))))))
 show wpAny (model P u) A (if u.params.followText "set-order"=true then _ else _) _ E s
 rw [if_pos hb]
 refine wB (wpAny_askSetting (wpAny_pure ?_))
 exact wpAny_pure q
end
section
variable {P:Program} {u:World} {A:Around} {E:Value->Shared->Prop} {s:Shared} {a I:Addr} {o:Obj} {es:Array (Int×Value)} {ep n:Nat} {t:SetTable}
def dO {j i:Nat} {Q:Option (Value×Nat)->Shared->Prop} (byP:ci u=true) (hld:t.led=true) (one:es.size<=1) (g1:s.heap.get? a=some o) (g3:o.data=.set es ep t) (hf:t.fits es.size=true)
  (q:Q (match es[SetTable.below t.place j]?,t.place[SetTable.below t.place j]? with | some (_,x),some k=>some (x,k+1) | _,_=>none) s):wpAny (model P u) A (setNext a j i ep) Q E s:=by
 have hb:u.params.followText "set-order"=false:=by
  unfold ci at byP
  simpa using byP
 unfold setNext setsByText
 refine wB (wpAny_setState_of g1 g3 hf (wB (wB (wpAny_askSetting (wpAny_pure ?_)))))
 show wpAny (model P u) A (if u.params.followText "set-order"=true then _ else if (!t.plain&&decide (es.size > 1))=true then _ else (if (!t.led&&!es.isEmpty)=true then unsupported "set:maker-not-led" else pure ()) >>= fun _=>pure (match es[SetTable.below t.place j]?,t.place[SetTable.below t.place j]? with | some (_,x),some k=>some (x,k+1) | _,_=>none)) Q E s
 rw [hb,if_neg (by decide),if_neg (by simp;omega),if_neg (by simp [hld])]
 exact wB (wpAny_pure (wpAny_pure q))
def iY {j i next:Nat} {x:Value} {Q:Option Value->Shared->Prop} (hit:ItAt s.heap I (rawInt j) i a es.size ep) (g1:s.heap.get? a=some o) (g3:o.data=.set es ep t) (hf:t.fits es.size=true) (hn:∀ {A':Around} {Q':Option (Value×Nat)->Shared->Prop} {E':Value->Shared->Prop},Q' (some (x,next)) s->wpAny (model P u) A' (setNext a j i ep) Q' E' s)
  (q:∀ h',ItAt h' I (rawInt next) (i+1) a es.size ep->Heap.SameBut I s.heap h'->Q (some x) {s with heap:=h'}):wpAny (model P u) A (pyNext (.ref I)) Q E s:=by
 obtain ⟨oi,hi,hc,hd⟩:=id hit
 unfold pyNext
 refine wB (wpAny_attempt (wpAny_callSpecial?_slot (name:=Str.ofString "__next__") hit.ty slot_setit (wpAny_call_entry slot_setit hit.ty eQ ?_ (dG _))))
 unfold Builtin.«set_iterator.__next__»
 refine wB (wpAny_pure (wB (wpAny_fieldsOf hi hd ?_)))
 unfold setEntries
 refine wB (wB (wpAny_setState_of g1 g3 hf (wpAny_pure ?_)))
 rw [if_neg (by simp)]
 show wpAny _ _ (setNext a ((j:Int)).toNat ((i:Int)).toNat ((ep:Int)).toNat >>= _) _ _ s
 rw [Int.toNat_natCast,Int.toNat_natCast,Int.toNat_natCast]
 refine wB (hn ?_)
 show wpAny _ _ (setField (.ref I) 0 (rawInt next) >>= fun _=>setField (.ref I) 1 (rawInt ((i:Int)+1)) >>= fun _=>ret x) _ _ s
 refine wpAny_bind (wpAny_setField hi hd (by simp) ?_)
 refine wpAny_bind (wpAny_setField (Heap.get?_update_self _ hi (Obj.isFreed_of_fields (Obj.data_mapFields hd _))) (Obj.data_mapFields hd _) (by simp) ?_)
 have e1:(s.heap.update I (Obj.mapFields (·.setIfInBounds 0 (rawInt next)))).get? I=some (Obj.mapFields (·.setIfInBounds 0 (rawInt next)) oi):=Heap.get?_update_self _ hi (Obj.isFreed_of_fields (Obj.data_mapFields hd _))
 have d1:=Obj.data_mapFields hd (·.setIfInBounds 0 (rawInt next))
 have hit2:ItAt ((s.heap.update I (Obj.mapFields (·.setIfInBounds 0 (rawInt next)))).update I (Obj.mapFields (·.setIfInBounds 1 (rawInt ((i:Int)+1))))) I (rawInt next) (i+1) a es.size ep:=
  ⟨_,Heap.get?_update_self _ e1 (Obj.isFreed_of_fields (Obj.data_mapFields d1 _)),(Obj.cls_mapFields ..).trans ((Obj.cls_mapFields ..).trans hc),by rw [Obj.data_mapFields d1];simp [rawInt]⟩
 exact wpAny_pure ⟨_,rfl,wpAny_pure (q _ hit2 ((Heap.SameBut.update ..).trans (Heap.SameBut.update ..)))⟩
def jt {j i:Nat} {Q:Option Value->Shared->Prop} (calm:A.handled=none) (hit:ItAt s.heap I (rawInt j) i a es.size ep) (g1:s.heap.get? a=some o) (g3:o.data=.set es ep t) (hf:t.fits es.size=true) (hn:∀ {A':Around} {Q':Option (Value×Nat)->Shared->Prop} {E':Value->Shared->Prop},Q' none s->wpAny (model P u) A' (setNext a j i ep) Q' E' s)
  (q:∀ h',Heap.ExtBut I s.heap h'->Q none {s with heap:=h'}):wpAny (model P u) A (pyNext (.ref I)) Q E s:=by
 obtain ⟨oi,hi,hc,hd⟩:=id hit
 unfold pyNext
 refine wB (wpAny_attempt (wpAny_callSpecial?_slot (name:=Str.ofString "__next__") hit.ty slot_setit (wpAny_call_entry slot_setit hit.ty eQ ?_ (dG _))))
 unfold Builtin.«set_iterator.__next__»
 refine wB (wpAny_pure (wB (wpAny_fieldsOf hi hd ?_)))
 unfold setEntries
 refine wB (wB (wpAny_setState_of g1 g3 hf (wpAny_pure ?_)))
 rw [if_neg (by simp)]
 show wpAny _ _ (setNext a ((j:Int)).toNat ((i:Int)).toNat ((ep:Int)).toNat >>= _) _ _ s
 rw [Int.toNat_natCast,Int.toNat_natCast,Int.toNat_natCast]
 refine wB (hn ?_)
 show wpAny _ _ (setField (.ref I) 2 .none >>= fun _=>newExc (.type "StopIteration") [] >>= fun e=>raiseNew e) _ _ s
 refine wpAny_bind (wpAny_setField hi hd (by simp) ?_)
 show wpAny _ _ (newExc (.type "StopIteration") [] >>= _) _ _ _
 refine wB ?_
 simp only [newExc,newTuple]
 refine wB (wpAny_newObj_type ?_ (by size_fits))
 refine wpAny_bind (m:=firstArgMember _ _) (wpAny_of_eq (a:=Value.none) (by first | rfl | (simp only [firstArgMember];rfl)) ?_)
 refine wpAny_newObj_type ?_ (by size_fits)
 simp only [raiseNew]
 refine wB (wpAny_handled ?_)
 rw [show A.in1.handled=none from calm]
 refine wB (wpAny_pure (wpAny_throw ?_))
 refine wB (wpAny_isInstance (T:="StopIteration") (b:=true) ⟨_,Heap.get?_push_size _ rfl,rfl⟩ isSubtype_stop ?_)
 exact wpAny_pure (q _ ((Heap.SameBut.update ..).extBut.push _ |>.push _))
end
def dP:Slot "set_iterator" "__iter__" "set_iterator.__iter__":=.of (owner:="set_iterator") (n:="__iter__") (by rw [typeLookup_type,builtinLookup_eq_fast];kernel_rfl) (by decide +kernel) (by decide +kernel) (by decide +kernel) (by first | exact .inl (by decide +kernel) | exact .inr (by decide +kernel)) (by rw [isSubtype_type];kernel_rfl)
def iZ:entryFor table "set_iterator.__iter__"=some Builtin.«dict_keyiterator.__iter__»:=entryFor_alias (id':="dict_keyiterator.__iter__") (by kernel_rfl) rfl (by decide +kernel) (by kernel_rfl)
def ie (v:Value):argsOk "set_iterator.__iter__" ⟨[v],[]⟩:=by unfold argsOk;rw [signature?_of (id:="set_iterator.__iter__") (n:=['_','_','r','e','t','i','_','_']) (o:=['r','o','t','a','r','e','t','i','_','t','e','s']) (by kernel_rfl) j5];kernel_rfl
section
variable {P:Program} {u:World} {A:Around} {E:Value->Shared->Prop} {s:Shared} {a I:Addr} {o:Obj} {es:Array (Int×Value)} {ep n:Nat} {t:SetTable}
def d9 {first:Value} {i:Nat} {Q:Value->Shared->Prop} (hit:ItAt s.heap I first i a n ep) (q:Q (.ref I) s):wpAny (model P u) A (pyIter (.ref I)) Q E s:=by
 refine wpAny_pyIter_slot hit.ty dP (wpAny_call_entry dP hit.ty iZ ?_ (ie _))
 show wpAny _ _ (ret (.ref I)) _ _ s
 exact wpAny_pure ⟨_,rfl,"set_iterator",_,hit.ty,slot_setit.lookup,q⟩
def lp {Q:Bool->Shared->Prop} (hT:s.TypeIs (.ref a) "set") (q:Q false s):wpAny (model P u) A (Builtin.List.listLengthHint (.ref a)) Q E s:=by
 unfold Builtin.List.listLengthHint
 refine wB (wpAny_specialOf hT PySem.F.slot_set_len.lookup ?_)
 generalize hid:("set.__len__":String)=id0
 wp_delta
 rw [show splitId id0=some ("set","__len__") from by subst hid;decide +kernel]
 subst hid
 refine wB (wpAny_isInstance (T:="set") (b:=true) hT sub_set_self ?_)
 refine wpAny_ite_split (fun z=>absurd z (by decide)) (fun _=>?_)
 refine wpAny_ite_split (fun _=>wB (wpAny_typeOf hT (wpAny_pure q))) (fun z=>absurd (by decide +kernel) z)
def ItAt.keep {h h':Heap} {first:Value} {i:Nat} (x:ItAt h I first i a n ep) (e:∀ q,h.get? I=some q->h'.get? I=some q):ItAt h' I first i a n ep:=let ⟨q,g,r⟩:=x;⟨q,e q g,r⟩
def n6 {T:Addr} {ot:Obj} {ps:Array Value} {m:Nat} {ord:Nat->Value} (calm:A.handled=none) (g3:o.data=.set es ep t) (hf:t.fits es.size=true) (k2:ot.data=.seq ps m) (hps:ps.size=es.size) (hI:I≠a) (hIT:I≠T) (hord:∀ i,i<es.size->∃ p hx,ps[i]?=some (rawInt (p:Nat))/\es[p]?=some (hx,ord i)) :
  WalksS P u A I [I,a,T] [I] (fun x y=>y=x) es.size (fun i v=>v=ord i) (fun i s=>ItAt s.heap I (.ref T) i a es.size ep/\s.heap.get? a=some o/\s.heap.get? T=some ot) where
 sub:=fun b hb=>by rw [List.mem_singleton.mp hb];exact .head _
 grefl:=fun _=>rfl
 gtrans:=fun _ _ _ h1 h2=>h2.trans h1
 frame:=fun i s h' tk ⟨x,y,z⟩ _ e=>⟨x.keep fun q g=>e I (.head _) q g,e a (.tail _ (.head _)) _ y,e T (.tail _ (.tail _ (.head _))) _ z⟩
 item:=fun i s Q E hi ⟨x,y,z⟩ q=>by
  obtain ⟨p,hx,h1,h2⟩:=hord i hi
  refine iX x y g3 hf z k2 h1 h2 fun h' it sb=>q _ _ rfl ⟨it,(sb.2 a (Ne.symm hI)).trans y,(sb.2 T (Ne.symm hIT)).trans z⟩ ⟨fun b ob hb e=>?_,rfl,rfl,rfl,nL _⟩
  exact (sb.2 b (fun w=>hb (by rw [w];exact .head _))).trans e
 done:=fun s Q E ⟨x,y,z⟩ q=>jr calm x y g3 hf z k2 hps fun h' eb=>q _ ⟨fun b ob hb e=>eb b ob (fun w=>hb (by rw [w];exact .head _)) e,rfl,rfl,rfl,nL _⟩
 self:=fun i s Q E ⟨x,_⟩ q=>d9 x q
end
section
variable {P:Program} {u:World} {A:Around} {E:Value->Shared->Prop} {s:Shared} {a I:Addr} {o:Obj} {es:Array (Int×Value)} {ep n:Nat} {t:SetTable}
def i0 {sl:Nat->Nat} {ord:Nat->Value} (calm:A.handled=none) (g3:o.data=.set es ep t) (hf:t.fits es.size=true) (hI:I≠a)
  (hn:∀ i,i<es.size->∀ (s:Shared),s.heap.get? a=some o->∀ {A':Around} {Q':Option (Value×Nat)->Shared->Prop} {E':Value->Shared->Prop},Q' (some (ord i,sl (i+1))) s->wpAny (model P u) A' (setNext a (sl i) i ep) Q' E' s)
  (he:∀ (s:Shared),s.heap.get? a=some o->∀ {A':Around} {Q':Option (Value×Nat)->Shared->Prop} {E':Value->Shared->Prop},Q' none s->wpAny (model P u) A' (setNext a (sl es.size) es.size ep) Q' E' s) :
  WalksS P u A I [I,a] [I] (fun x y=>y=x) es.size (fun i v=>v=ord i) (fun i s=>ItAt s.heap I (rawInt (sl i)) i a es.size ep/\s.heap.get? a=some o) where
 sub:=fun b hb=>by rw [List.mem_singleton.mp hb];exact .head _
 grefl:=fun _=>rfl
 gtrans:=fun _ _ _ h1 h2=>h2.trans h1
 frame:=fun i s h' tk ⟨x,y⟩ _ e=>⟨x.keep fun q g=>e I (.head _) q g,e a (.tail _ (.head _)) _ y⟩
 item:=fun i s Q E hi ⟨x,y⟩ q=>iY x y g3 hf (hn i hi s y) fun h' it sb=>q _ _ rfl ⟨it,(sb.2 a (Ne.symm hI)).trans y⟩ ⟨fun b ob hb e=>(sb.2 b (fun w=>hb (by rw [w];exact .head _))).trans e,rfl,rfl,rfl,nL _⟩
 done:=fun s Q E ⟨x,y⟩ q=>jt calm x y g3 hf (he s y) fun h' eb=>q _ ⟨fun b ob hb e=>eb b ob (fun w=>hb (by rw [w];exact .head _)) e,rfl,rfl,rfl,nL _⟩
 self:=fun i s Q E ⟨x,_⟩ q=>d9 x q
def mH {ss:List Str} {l m:List (Int×Value)} (x:Tx P u l ss) (p:m.Perm l):∃ ks,StrsAre (m.map (·.2)) ks/\ks.Perm ss:=by
 have y:=x.perm p
 refine ⟨m.map fun e=>sw e.2,?_,y.per⟩
 have key:∀ m:List (Int×Value),(∀ e∈m,∃ k t,e.2=.str k t/\e.1=(PySem.strKind P u).hash k)->StrsAre (m.map (·.2)) (m.map fun e=>sw e.2):=fun m=>by
  induction m with
  | nil=>intro _;exact .nil
  | cons e m ih =>
   intro h
   obtain ⟨k,tk,h1,_⟩:=h e (by simp)
   rw [List.map_cons,List.map_cons,h1]
   exact .cons k tk (ih fun z hz=>h z (by simp [hz]))
 exact key m y.all
def lq {ss:List Str} {Q:Value->Shared->Prop} (hS:TxS P u s.heap a ss (ci u))
  (q:∀ (I:Addr) (fp:List Addr) (vs:List Value) (ks:List Str) (St:Nat->Shared->Prop) (d:Drawn) (h':Heap),(∀ A':Around,A'.handled=none->WalksS P u A' I fp [I] (fun x y=>y=x) vs.length (fun i v=>v=vs.getD i .none) St)->St 0 {s with drawn:=d,heap:=h'}->(∀ b∈fp,b<h'.objs.size/\(b=a∨s.heap.objs.size<=b))->(∀ b ob,s.heap.get? b=some ob->h'.get? b=some ob)->s.heap.objs.size<=I->StrsAre vs ks->ks.Perm ss->Q (.ref I) {s with drawn:=d,heap:=h'}) :
  wpAny (model P u) A (pyIter (.ref a)) Q E s:=by
 obtain ⟨o,es,ep,t,g1,g2,g3,x,hb,hf,hl,hp⟩:=hS.ex
 have la:a<s.heap.objs.size:=Heap.lt_size g1
 refine mG g1 g2 g3 hf hb (fun ys d byP hd p=>?_) (fun hm=>?_)
 · -- drawn
   have hyl:ys.length=es.size:=by rw [p.length_eq,List.length_range]
   have perm:(ys.map fun i=>es.toList.getD i (0,.none)).Perm es.toList:=by
    refine (p.map _).trans ?_
    have e:(List.range es.size).map (fun i=>es.toList.getD i (0,.none))=es.toList:=by
     apply List.ext_getElem
     · simp
     · intro i h1 h2
       simp at h1 h2
       simp [h2]
    rw [e]
   obtain ⟨ks,k1,k2⟩:=mH x perm
   have hlen:((ys.map fun i=>es.toList.getD i (0,.none)).map (·.2)).length=es.size:=by rw [List.length_map,List.length_map,hyl]
   refine q (s.heap.objs.size+1) [s.heap.objs.size+1,a,s.heap.objs.size] ((ys.map fun i=>es.toList.getD i (0,.none)).map (·.2)) ks (fun i s'=>ItAt s'.heap (s.heap.objs.size+1) (.ref s.heap.objs.size) i a es.size ep/\s'.heap.get? a=some o/\s'.heap.get? s.heap.objs.size=some {cls:=.type "tuple",data:=.seq (ys.map fun (i:Nat)=>rawInt i).toArray}) d _ (fun A' calm=>?_) ⟨⟨iW (.ref s.heap.objs.size) 0 a es.size ep,?_,rfl,rfl⟩,?_,?_⟩ ?_ ?_ (Nat.le_succ _) k1 k2
   · rw [hlen]
     refine n6 calm g3 hf rfl (by simp [hyl]) (Nat.ne_of_gt (Nat.lt_succ_of_lt la)) (Nat.succ_ne_self _) fun i hi=>?_
     have hi2:i<ys.length:=by omega
     have hy:ys[i]<es.size:=List.mem_range.mp (p.mem_iff.mp (List.getElem_mem hi2))
     refine ⟨ys[i],es[ys[i]].1,by simp [hi2],?_⟩
     simp [hi2,hy]
   · have:=Heap.get?_push_size (s.heap.push {cls:=.type "tuple",data:=.seq (ys.map fun (i:Nat)=>rawInt i).toArray}) (o:=iW (.ref s.heap.objs.size) 0 a es.size ep) rfl
     rw [Heap.size_push] at this
     exact this
   · exact gP _ (gP _ g1)
   · exact gP _ (Heap.get?_push_size _ rfl)
   · intro b hb
     rw [Heap.size_push,Heap.size_push]
     rcases List.mem_cons.mp hb with rfl | hb
     · exact ⟨Nat.lt_succ_self _,.inr (Nat.le_succ _)⟩
     · rcases List.mem_cons.mp hb with rfl | hb
       · exact ⟨Nat.lt_succ_of_lt (Nat.lt_succ_of_lt la),.inl rfl⟩
       · rw [List.mem_singleton.mp hb]
         exact ⟨Nat.lt_succ_of_lt (Nat.lt_succ_self _),.inr (nL _)⟩
   · exact fun b ob e=>gP _ (gP _ e)
 · -- by the world's text,or one at most
   have fin:∀ (m:List (Int×Value)) (sl:Nat->Nat),m.Perm es.toList->sl 0=0->(∀ A':Around,A'.handled=none->WalksS P u A' s.heap.objs.size [s.heap.objs.size,a] [s.heap.objs.size] (fun x y=>y=x) es.size (fun i v=>v=(m.map (·.2)).getD i .none) (fun i s'=>ItAt s'.heap s.heap.objs.size (rawInt (sl i)) i a es.size ep/\s'.heap.get? a=some o))->Q (.ref s.heap.objs.size) {s with heap:=s.heap.push (iW (rawInt 0) 0 a es.size ep)}:=fun m sl p h0 W=>by
    obtain ⟨ks,k1,k2⟩:=mH x p
    have hlen:(m.map (·.2)).length=es.size:=by rw [List.length_map,p.length_eq,Array.length_toList]
    have:=q s.heap.objs.size [s.heap.objs.size,a] (m.map (·.2)) ks (fun i s'=>ItAt s'.heap s.heap.objs.size (rawInt (sl i)) i a es.size ep/\s'.heap.get? a=some o) s.drawn (s.heap.push (iW (rawInt 0) 0 a es.size ep)) (by rw [hlen];exact W) ⟨⟨iW (rawInt 0) 0 a es.size ep,Heap.get?_push_size _ rfl,rfl,by rw [h0];rfl⟩,gP _ g1⟩ (fun b hb=>by
     rw [Heap.size_push]
     rcases List.mem_cons.mp hb with rfl | hb
     · exact ⟨Nat.lt_succ_self _,.inr (nL _)⟩
     · rw [List.mem_singleton.mp hb]
       exact ⟨Nat.lt_succ_of_lt la,.inl rfl⟩) (fun b ob e=>gP _ e) (nL _) k1 k2
    exact this
   have ne:s.heap.objs.size≠a:=Nat.ne_of_gt la
   by_cases byT:ci u=false
   · refine fin (pickOrder (u.params.setOrder a ep) es).toList (fun _=>0) (px _ _) rfl fun A' calm=>?_
     have hsz:(pickOrder (u.params.setOrder a ep) es).size=es.size:=by
      have:=(px (u.params.setOrder a ep) es).length_eq
      simpa using this
     refine i0 calm g3 hf ne (fun i hi s' gs A' Q' E' q'=>dv byT gs g3 hf ?_) (fun s' gs A' Q' E' q'=>dv byT gs g3 hf ?_)
     · have hi2:i<(pickOrder (u.params.setOrder a ep) es).size:=by omega
       rw [Array.getElem?_eq_getElem hi2]
       simpa [hi2] using q'
     · rw [Array.getElem?_eq_none (by omega)]
       exact q'
   · have byP:ci u=true:=by simpa using byT
     have one:es.size<=1:=by
      rcases hm with h1 | h1
      · exact absurd h1 byT
      · rcases hp with h2 | h2
        · omega
        · exact Nat.le_of_not_lt fun z=>h1 ⟨h2,z⟩
     have hpl:t.place.size=es.size:=by
      unfold SetTable.fits at hf
      simp at hf
      exact hf.1
     refine fin es.toList (fun i=>if i=0 then 0 else t.place.getD 0 0+1) (List.Perm.refl _) rfl fun A' calm=>?_
     refine i0 calm g3 hf ne (fun i hi s' gs A' Q' E' q'=>dO byP (hl.trans byP) one gs g3 hf ?_) (fun s' gs A' Q' E' q'=>dO byP (hl.trans byP) one gs g3 hf ?_)
     · obtain rfl:i=0:=by omega
       have h1:es.size=1:=by omega
       have h2:t.place.size=1:=by omega
       have e0:SetTable.below t.place 0=0:=by
        unfold SetTable.below
        rw [h2]
        simp [SetTable.below.go]
       rw [if_pos rfl,e0,Array.getElem?_eq_getElem (by omega),Array.getElem?_eq_getElem (by omega)]
       simpa [h1,h2] using q'
     · by_cases h0:es.size=0
       · have h2:t.place.size=0:=by omega
         have e0:SetTable.below t.place 0=0:=by
          unfold SetTable.below
          rw [h2]
          simp [SetTable.below.go]
         rw [if_pos h0,e0,Array.getElem?_eq_none (by omega)]
         exact q'
       · have h2:t.place.size=1:=by omega
         have e0:SetTable.below t.place (t.place.getD 0 0+1)=1:=by
          unfold SetTable.below
          rw [h2]
          simp [SetTable.below.go,h2]
         rw [if_neg h0,e0,Array.getElem?_eq_none (by omega)]
         exact q'
end
section
variable {P:Program} {u:World} {A:Around} {E:Value->Shared->Prop} {s:Shared} {a:Addr}
def TxS.small {h:Heap} {ss:List Str} {led:Bool} (x:TxS P u h a ss led):ss.length<scanBound/\∃ o,h.get? a=some o/\o.cls=.type "set":=by
 obtain ⟨o,es,ep,t,g1,g2,g3,y,hb,_⟩:=x.ex
 refine ⟨?_,o,g1,g2.1⟩
 rw [<- y.per.length_eq,List.length_map,Array.length_toList]
 exact hb
def ig {ss:List Str} {Q:List Value->Shared->Prop} (calm:A.handled=none) (hS:TxS P u s.heap a ss (ci u))
  (q:∀ (vs:List Value) (ks:List Str) (d:Drawn) (h':Heap) (tk:Nat),StrsAre vs ks->ks.Perm ss->s.heap.objs.size<=h'.objs.size->(∀ b ob,s.heap.get? b=some ob->h'.get? b=some ob)->Q vs {s with drawn:=d,heap:=h',toks:=tk}):wpAny (model P u) A (collect (.ref a)) Q E s:=by
 obtain ⟨hsz,o,g1,gc⟩:=hS.small
 have la:a<s.heap.objs.size:=Heap.lt_size g1
 unfold collect
 refine wB (wpAny_runValue (codeAny_builtin PySem.F.entry_proto_collect ?_))
 rw [Around.under_plainId PySem.F.plain_proto_collect _]
 show wpAny _ A.in1 (newList [] >>= fun l=>again (.builtin "list.__iadd__" ⟨[l,.ref a],[]⟩)) _ _ s
 refine wB (wpAny_newObj_type ?_)
 refine wpAny_pure ⟨plainId_quiet PySem.F.plain_list_iadd _,codeAny_builtin PySem.F.entry_list_iadd ?_⟩
 rw [Around.under_plainId PySem.F.plain_list_iadd _]
 show wpAny _ A.in1 (Builtin.List.listExtendWith (.ref s.heap.objs.size) (.ref a) (.ref s.heap.objs.size)) _ _ _
 have hS1:TxS P u (s.heap.push {cls:=.type "list",data:=.seq ([]:List Value).toArray}) a ss (ci u):=hS.moved fun ob e=>gP _ e
 have hT1:Shared.TypeIs {s with heap:=s.heap.push {cls:=.type "list",data:=.seq ([]:List Value).toArray}} (.ref a) "set":=⟨o,gP _ g1,gc⟩
 have gL:(s.heap.push {cls:=.type "list",data:=.seq ([]:List Value).toArray}).get? s.heap.objs.size=some {cls:=.type "list",data:=.seq ([]:List Value).toArray}:=Heap.get?_push_size _ rfl
 unfold Builtin.List.listExtendWith
 refine wB (wpAny_typeOf hT1 ?_)
 have h1:Builtin.List.listSameRef (.ref s.heap.objs.size) (.ref a)=false:=by simp [Builtin.List.listSameRef,Nat.ne_of_gt la]
 have h2:(Value.type "set"==Value.type "list")=false:=by decide
 have h3:(Value.type "set"==Value.type "tuple")=false:=by decide
 simp only [h1,h2,h3,Bool.or_false,Bool.false_eq_true,if_false]
 refine wB (lq (s:={s with heap:=s.heap.push {cls:=.type "list",data:=.seq ([]:List Value).toArray}}) hS1 fun I fp vs ks St d h' W st hfp keep hI k1 k2=>?_)
 have hTI:Shared.TypeIs {s with drawn:=d,heap:=h'} (.ref a) "set":=⟨o,keep a o (gP _ g1),gc⟩
 refine wB (wpAny_holding (lp hTI ?_))
 show wpAny _ A.in1 (rule "list.extend.makes-room" >>= fun _=>Builtin.List.listTouch (.ref s.heap.objs.size) >>= fun _=>again (.builtin "list.extend.loop" ⟨[.ref s.heap.objs.size,.ref I,.ref s.heap.objs.size],[]⟩)) _ _ _
 refine wB (wpAny_rule (wB ?_))
 have gL1:=keep _ _ gL
 show wpAny _ A.in1 (updateSeq s.heap.objs.size (·.push .none) >>= fun _=>updateSeq s.heap.objs.size (·.pop)) _ _ _
 refine wB (wpAny_updateSeq gL1 rfl ?_)
 have gL2:=Heap.get?_update_self (Obj.mapSeq (·.push Value.none)) gL1 rfl
 refine wpAny_updateSeq gL2 rfl ?_
 have gL3:=Heap.get?_update_self (Obj.mapSeq (·.pop)) gL2 rfl
 have oth:∀ b ob,b≠s.heap.objs.size->h'.get? b=some ob->((h'.update s.heap.objs.size (Obj.mapSeq (·.push Value.none))).update s.heap.objs.size (Obj.mapSeq (·.pop))).get? b=some ob:=fun b ob hb e=>(Heap.get?_update_other _ _ (Ne.symm hb)).trans ((Heap.get?_update_other _ _ (Ne.symm hb)).trans e)
 have out:s.heap.objs.size∉fp:=fun hm=>by
  rcases (hfp _ hm).2 with z | z
  · exact Nat.ne_of_gt la z
  · have z:(s.heap.push {cls:=.type "list",data:=.seq ([]:List Value).toArray}).objs.size<=s.heap.objs.size:=z
    rw [Heap.size_push] at z
    exact Nat.not_succ_le_self _ z
 have W1:=W A.in1 (by simp [calm])
 have hvl:vs.length<=sizeLine:=by
  have e:vs.length=ss.length:=by
   rw [<- k2.length_eq]
   clear k2 W1 W
   induction k1 with
   | nil=>rfl
   | cons y tk _ ih=>simp [ih]
  rw [e]
  exact fits_of_scanBound hsz
 refine wpAny_pure ⟨plainId_quiet PySem.F.plain_extend_loop _,codeAny_extend_loopS W1 hvl _ out _ vs.length 0 _ _ _ rfl (Nat.zero_le _) (W1.frame 0 ({s with drawn:=d,heap:=h'}:Shared) _ s.toks st (nL _) fun b hb ob e=>oth b ob (fun h=>out (h▸hb)) e) gL3 (ItemsOf.nil _) fun s2 acc c2 mv gS2 hacc=>?_⟩
 show wpAny _ A (load s.heap.objs.size >>= _) _ _ s2
 refine wB (wpAny_load gS2 ?_)
 have hav:acc.toList=vs:=by
  apply List.ext_getElem
  · simpa using hacc.1
  · intro i h1 h2
    have:=hacc.2 i acc.toList[i] (by simp)
    rw [this]
    simp [h2]
 rw [<- hav] at k1
 obtain ⟨h2',g2',d2',tk2',o2'⟩:=s2
 have eg:g2'=s.gens:=mv.gens
 have ed:d2'=d:=mv.drawn
 have eo:o2'=s.os:=mv.os
 subst eg ed eo
 refine wpAny_pure (q acc.toList ks d2' h2' tk2' k1 k2 (Nat.le_of_lt (Heap.lt_size gS2)) fun b ob e=>?_)
 have nb:b≠s.heap.objs.size:=Nat.ne_of_lt (Heap.lt_size e)
 refine mv.heap b ob (fun hm=>?_) (oth b ob nb (keep b ob (gP _ e)))
 rcases List.mem_cons.mp hm with z | z
 · exact nb z
 · rw [List.mem_singleton.mp z] at e
   have z2:(s.heap.push {cls:=.type "list",data:=.seq ([]:List Value).toArray}).objs.size<=I:=hI
   rw [Heap.size_push] at z2
   exact absurd (Heap.lt_size e) (Nat.not_lt.mpr (Nat.le_of_succ_le z2))
end
section
variable {P:Program} {u:World} {A:Around} {E:Value->Shared->Prop} {s:Shared} {a:Addr}
def mI {vs:List Value} {ks:List Str} (h:StrsAre vs ks):vs.length=ks.length:=by
 induction h with
 | nil=>rfl
 | cons y tk _ ih=>simp [ih]
def i3 {ss:List Str} {Q:Value->Shared->Prop} (calm:A.handled=none) (hS:TxS P u s.heap a ss (ci u)) (few:ss.length<64)
  (q:∀ (l:Addr) (out:Array Value) (ks:List Str) (d:Drawn) (h':Heap) (tk:Nat),StrsAre out.toList ks->ks.Perm ss->sortedS ks=true->(∃ e,h'.get? l=some (seqObj "list" out e))->s.heap.objs.size<=l->(∀ b ob,s.heap.get? b=some ob->h'.get? b=some ob)->Q (.ref l) {s with drawn:=d,heap:=h',toks:=tk}):wpAny (model P u) A (call (.builtin "sorted") [.ref a]) Q E s:=by
 refine Calls.call_function_entry kind_sorted plain_sorted entry_sorted (args_sorted1 _) ?_
 unfold Builtin.«sorted»
 refine wB (m:=checkCount "sorted" 1 1 _) (wpAny_pure ?_)
 refine wpAny_bind (ig (by simp [calm]) hS fun vs ks d h' tk k1 k2 le keep=>?_)
 have hlen:vs.length<64:=by rw [mI k1,k2.length_eq];exact few
 refine wB (wpAny_newList ?_ (Nat.le_trans (Nat.le_of_lt hlen) (by decide)))
 have gL:(h'.push (seqObj "list" vs.toArray 0)).get? h'.objs.size=some (seqObj "list" vs.toArray 0):=Heap.get?_push_size _ rfl
 show wpAny _ _ _ _ _ {s with drawn:=d,toks:=tk,heap:=h'.push (seqObj "list" vs.toArray 0)}
 refine wB (wpAny_holding (wpAny_call_entry slot_list_sort ⟨_,gL,rfl⟩ entry_list_sort (list_sort_treeK strKind_oneLt gL k1.keysOf (fun v1 v2 r e=>keyKind_strs (by rw [<- e];exact k1)) hlen fun st a1 a2=>⟨_,rfl,?_⟩) (args_list_sort _)))
 obtain ⟨ks2,e1,e2,e3⟩:=sorted_out_str k1 a1 a2
 refine wpAny_pure ⟨_,rfl,?_⟩
 refine q _ _ ks2 d _ tk e1 (e2.trans k2) e3 (sortedHeap_at gL) le fun b ob e=>?_
 have lt:b<h'.objs.size:=Heap.lt_size (keep b ob e)
 rw [sortedHeap_old (Nat.ne_of_lt lt) (by rw [size_push'];exact Nat.lt_succ_of_lt lt)]
 exact gP _ (keep b ob e)
end
def cE (ss:List Str):List Str:=ss.foldl bI []
def j6 (ss:List Str):met (fun i=>ss.getD i "") ss.length=cE ss:=by
 unfold met cE
 congr 1
 apply List.ext_getElem
 · simp
 · intro i h1 h2
   simp at h1
   simp [h1]
def j7 (ss:List Str):(cE ss).length<=ss.length:=by
 rw [<- j6]
 exact lm _ _
def Inv.dr {X:Cx} {pins:List (Addr×Obj)} {σ:St} {H:Hp} {s:Shared} (I:Inv X pins σ H s) (d:Drawn):Inv X pins σ H {s with drawn:=d}:=⟨I.ok,I.os,I.bare,I.base,I.loc,I.cell,I.free,I.freeC,I.pin,I.hok,I.len⟩
def pz:∀ {vs:List Value} {ss:List Str},StrsAre vs ss->∀ (i:Nat) (v:Value),vs[i]?=some v->∃ t,v=.str (ss.getD i "") t
 | _,_,.nil,i,v,h=>by simp at h
 | _,_,.cons y t r,0,v,h=>by
  simp at h
  exact ⟨t,by rw [<- h];rfl⟩
 | _,_,.cons y t r,i+1,v,h=>pz r i v (by simpa using h)
abbrev sA (X:Cx) (l:Addr) (ss:List Str):HO:=.ext fun h=>TxS X.prog X.w h l ss (ci X.w)
section
variable {X:Cx}
def qy (calm:X.calm=true):b7 X (.type "set") (fun xs H Q=>∃ p ss,xs=[.ref p]/\SqL X.K H p (ss.map V.str)/\ss.length<64/\∀ l,H l=none->Q (.ref l) (upd H l (sA X l (cE ss)))):=by
 intro pins s σ H xs us Q I r h
 obtain ⟨p,ss,rfl,hq,hz,q⟩:=h
 obtain ⟨u,rfl,rx⟩:=g0 r
 cases rx
 obtain ⟨its,r',pl,hz'⟩:=I.list hq
 have hS:=fB r'
 have hlen:its.length=ss.length:=by have:=r'.length;simpa using this.symm
 have hi:∀ (i:Nat) (v:Value),its.toArray[i]?=some v->∃ t,v=.str (ss.getD i "") t:=fun i v hv=>pz hS i v (by simpa using hv)
 have hb:its.toArray.size+1<scanBound:=by
  have:its.toArray.size=ss.length:=by simpa using hlen
  rw [this]
  unfold scanBound
  omega
 refine sy (I.ok.hd calm) pl.isList hi hb fun hp tk hT kept=>?_
 have e:met (fun i=>ss.getD i "") its.toArray.size=cE ss:=by
  rw [show its.toArray.size=ss.length by simpa using hlen]
  exact j6 ss
 rw [e] at hT
 refine ⟨.ref s.heap.objs.size,_,I.laid (t':=tk) (fun b o g=>kept b o (Heap.lt_size g) g) (nL _) (show ObjOk X.prog X.w _ _ _ (sA X s.heap.objs.size (cE ss)) from ⟨hT,?_,fun h1 h2 x g=>x.moved g⟩),rfl,q _ (I.hok.fresh (nL _))⟩
 obtain ⟨_,o,g,_⟩:=hT.small
 exact ⟨o,g⟩
def lr (calm:X.calm=true):b7 X (.builtin "sorted") (fun xs H Q=>∃ p ss,xs=[.ref p]/\H p=some (sA X p ss)/\ss.length<64/\∀ l,H l=none->Q (.ref l) (upd H l (.lst ((bn ss).map V.str)))):=by
 intro pins s σ H xs us Q I r h
 obtain ⟨p,ss,rfl,hq,hz,q⟩:=h
 obtain ⟨u,rfl,rx⟩:=g0 r
 cases rx
 have hT:TxS X.prog X.w s.heap p ss (ci X.w):=(show ObjOk X.prog X.w H s.heap p (sA X p ss) from I.hok p _ hq).1
 refine i3 (I.ok.hd calm) hT hz fun l out ks d h' tk a1 a2 a3 hc le kept=>?_
 have e:ks=bn ss:=eL (a2.trans (bF ss).symm) (gM ks a3) (ge ss)
 subst e
 obtain ⟨c,hc⟩:=hc
 refine ⟨.ref l,_,(I.laid (t':=tk) kept le (show ObjOk X.prog X.w _ _ _ (.lst ((bn ss).map V.str)) from ⟨?_,out.toList,c,eM a1,hc⟩)).dr d,rfl,q _ (I.hok.fresh le)⟩
 rw [List.length_map,(bF ss).length_eq]
 exact Nat.le_trans (Nat.le_of_lt hz) (by decide)
end
def ee:List Dt->Option T
 | [.lst ds]=>(dD ds).bind fun ss=>if ss.length<64 then some (.lst ((bn (cE ss)).map .str)) else none
 | _=>none
section
variable {X:Cx} {e:Expr} {pos pos2 p p2:Pos} {sc:Scope} {fs:De->Option (List Dt)}
def n8 (h1:aH sc "sorted"=true) (h2:aH sc "set"=true) (hc:X.calm=true) (m1:X.mg "sorted"=none) (m2:X.mg "set"=none) (ha:DAB X [e] fs) (e1:bM X sc:=by rfl)
  (s1:starEach [.Call (.Name "set" p2) [e] [] pos2] X.env=(false,eval (.Call (.Name "set" p2) [e] [] pos2) X.env)::starEach [] X.env:=by rfl) (n1:(backTo pos (starEach [] X.env)).any (·.1)=false:=by rfl)
  (s2:starEach [e] X.env=(false,eval e X.env)::starEach [] X.env:=by rfl) (n2:(backTo pos2 (starEach [] X.env)).any (·.1)=false:=by rfl):DO X (.Call (.Name "sorted" p) [.Call (.Name "set" p2) [e] [] pos2] [] pos) (aw ee fs):=
 PE.mono (gG h1 (lr hc) m1 (by rfl) (cF (fq h2 (qy hc) m2 (by rfl) ha.pa e1 s2 n2) dU s1) e1 s1 n1) fun σ H Q ⟨Φ,δ,F,t,hK,en,hf,k⟩=>by
  unfold aw at hf
  obtain ⟨ds,hd,hg⟩:=bS hf
  refine ⟨Φ,δ,F,ds,hK,en,hd,fun vs H1 F1 st r=>?_⟩
  unfold ee at hg
  split at hg<;>first | (cases hg;done) | skip
  obtain ⟨ss,hs,hg⟩:=bS hg
  split at hg<;>cases hg
  rename_i hz
  obtain ⟨v,rfl,rv⟩:=cA r
  obtain ⟨b,ws,rfl,g1,g2⟩:=rv
  have:=eG g2 hs
  subst this
  refine ⟨b,ss,rfl,g1,hz,fun l hl=>?_⟩
  have st2:Step F1 H1 F1 (upd H1 l (sA X l (cE ss))):=Step.made st.fh hl
  refine ⟨l,cE ss,rfl,aI,Nat.lt_of_le_of_lt (j7 ss) hz,fun l2 hl2=>?_⟩
  exact cY (k.step (st.trans st2)) st2.fh (eO _) hl2
end
def n9:List Dt->Option T
 | [.int i,.int j]=>some (.leaf (.int (if i<j then j else i)))
 | _=>none
def rMax:List V->Hp->VK->Prop:=fun xs H Q=>∃ i j,xs=[.int i,.int j]/\Q (.int (if i<j then j else i)) H
def gT {X:Cx} (hc:X.calm=true):b7 X (.builtin "max") rMax:=pX hc
def sB {K:PySem.W.Frag}:CRD K rMax n9:=by
 intro F H ds vs Q t fh r hg k
 unfold n9 at hg
 split at hg<;>first | (cases hg;done) | skip
 cases hg
 rename_i i j
 simp only [iK,RepB,Rep] at r
 obtain ⟨v,ws,rfl,rfl,w,us,rfl,rfl,rfl⟩:=r
 exact ⟨i,j,rfl,k.int fh⟩
section
variable {X:Cx} {e o:Expr} {fa fe:Fg} {pos apos cpos:Pos}
def mJ (fa:Fg):Fg:=fun δ ch=>(fa δ ch).bind fun p=>match p.1 with
 | .ref i=>match p.2[i]? with
  | some (.lst l)=>(l.getLast?).map fun c=>(c,p.2.set i (.lst l.dropLast))
  | _=>none
 | _=>none
def RelCs.dropLast {K:PySem.W.Frag} {F:Hp} {ρ:Nat->Addr} {n:Nat} {l:List CV} {vs:List V} (h:RelCs K F ρ n l vs):RelCs K F ρ n l.dropLast vs.dropLast:=by
 rw [List.dropLast_eq_take,List.dropLast_eq_take,h.length]
 exact h.take _
def u2 (hx:GE X o fa) (hbase:attributeBase o "pop" X.env (eval o X.env)=eval o X.env:=by rfl) (hline:(apos.endLine==cpos.line)=true:=by rfl):GE X (.Call (.Attribute o "pop" apos) [] [] cpos) (mJ fa):=
 PE.mono (xx PySem.F.plainAttrs_list PySem.F.slot_list_pop PySem.F.type_list_pop xy hx hbase hline) fun σ H Q ⟨δ,ch,F,ρ,c,ch',en,hf,kk⟩=>by
  unfold mJ at hf
  obtain ⟨⟨c1,ch1⟩,hp,hg⟩:=bS hf
  clear hf
  dsimp only at hg
  split at hg<;>first | (cases hg;done) | skip
  rename_i i
  split at hg<;>first | (cases hg;done) | skip
  rename_i l h0
  obtain ⟨c0,hc0,hg2⟩:=mS hg
  cases hg2
  refine ⟨δ,ch,F,ρ,_,ch1,en,hp,fun v F1 H1 ρ1 a1 r1=>?_⟩
  obtain ⟨vs,q1,q2⟩:=a1.gh.ok i _ h0
  obtain ⟨hi,rfl⟩:=r1
  have hl:=q2.length
  rw [List.getLast?_eq_getElem?] at hc0
  obtain ⟨y,hy,ry⟩:=q2.get hc0
  rw [<- hl] at hy
  have hi2:i<ch1.length:=(gX h0).1
  have a3:=Adv.upd (o:=.lst l.dropLast) (u:=.lst vs.dropLast) (w:=.lst vs) a1.gh hi2 q1 (fun _ _ z=>nomatch z) ⟨_,aI,q2.dropLast⟩
  refine ⟨.inl ⟨rfl,vs,.inl (.inl q1)⟩,_,vs,y,rfl,rfl,q1,hy,?_⟩
  exact kk y F1 _ ρ1 (a1.trans en.gh a3) (ry.mono a3.old a3.ext a3.len)
end
section
variable {P:Program} {u:World} {A:Around} {E:Value->Shared->Prop} {s:Shared} {Ty:String} {r d:Addr} {n:Nat} {Pr:Nat->Value->Prop} {OK:Heap->Prop}
def sC {R:Result->Shared->Prop} (K:PySem.W.KdlSrc P u Ty r d n Pr OK) (calm:A.handled=none) (hok:OK s.heap) (hn:n<=sizeLine)
  (q:∀ (h':Heap) (tk:Nat) (acc:Array Value) (c:Nat),(∀ b o,s.heap.get? b=some o->h'.get? b=some o)->h'.get? s.heap.objs.size=some {cls:=.type "list",dict:=none,data:=.seq acc c,slots:=#[]}->ItemsOf Pr acc n->R (.ok (.ret (.ref s.heap.objs.size))) {s with heap:=h',toks:=tk}):codeAny (model P u) A (.builtin "proto.collect" ⟨[.ref r],[]⟩) R s:=by
 have hlt:=K.there _ hok
 refine codeAny_builtin PySem.F.entry_proto_collect ?_
 rw [Around.under_plainId PySem.F.plain_proto_collect _]
 show wpAny _ A.in1 (newList [] >>= fun l=>again (.builtin "list.__iadd__" ⟨[l,.ref r],[]⟩)) _ _ s
 refine wB (wpAny_newObj_type ?_)
 refine wpAny_pure ⟨plainId_quiet PySem.F.plain_list_iadd _,codeAny_builtin PySem.F.entry_list_iadd ?_⟩
 rw [Around.under_plainId PySem.F.plain_list_iadd _]
 show wpAny _ A.in1 (Builtin.List.listExtendWith (.ref s.heap.objs.size) (.ref r) (.ref s.heap.objs.size)) _ _ _
 have gL:(s.heap.push {cls:=.type "list",data:=.seq ([]:List Value).toArray}).get? s.heap.objs.size=some {cls:=.type "list",data:=.seq ([]:List Value).toArray}:=Heap.get?_push_size _ rfl
 exact PySem.W.kdl_extend (R:=R) (s:={s with heap:=s.heap.push {cls:=.type "list",data:=.seq ([]:List Value).toArray}}) K calm (K.keep _ _ hok fun b _ o e=>gP _ e) _ (Nat.ne_of_gt hlt.1) (Nat.ne_of_gt hlt.2) _ 0 gL (fun h' tk acc c kp hS hacc=>q h' tk acc c (fun b o e=>kp b o (Nat.ne_of_lt (Heap.lt_size e)) (gP _ e)) hS hacc) hn
def mK {Q:List Value->Shared->Prop} (K:PySem.W.KdlSrc P u Ty r d n Pr OK) (calm:A.handled=none) (hok:OK s.heap) (hn:n<=sizeLine)
  (q:∀ (h':Heap) (tk:Nat) (acc:Array Value),(∀ b o,s.heap.get? b=some o->h'.get? b=some o)->s.heap.objs.size<=h'.objs.size->ItemsOf Pr acc n->Q acc.toList {s with heap:=h',toks:=tk}):wpAny (model P u) A (collect (.ref r)) Q E s:=by
 unfold collect
 refine wB (wpAny_runValue (sC K calm hok hn fun h' tk acc c kp hS hacc=>?_))
 show wpAny _ A (load s.heap.objs.size >>= _) _ _ _
 refine wB (wpAny_load hS ?_)
 exact wpAny_pure (q h' tk acc kp (Nat.le_of_lt (Heap.lt_size hS)) hacc)
def i4 {ss:List Str} {Q:Value->Shared->Prop} (K:PySem.W.KdlSrc P u Ty r d n Pr OK) (calm:A.handled=none) (hok:OK s.heap) (hP:∀ acc,ItemsOf Pr acc n->StrsAre acc.toList ss) (few:ss.length<64) (hn:n<=sizeLine)
  (q:∀ (l:Addr) (out:Array Value) (ks:List Str) (h':Heap) (tk:Nat),StrsAre out.toList ks->ks.Perm ss->sortedS ks=true->(∃ e,h'.get? l=some (seqObj "list" out e))->s.heap.objs.size<=l->(∀ b ob,s.heap.get? b=some ob->h'.get? b=some ob)->Q (.ref l) {s with heap:=h',toks:=tk}):wpAny (model P u) A (call (.builtin "sorted") [.ref r]) Q E s:=by
 refine Calls.call_function_entry kind_sorted plain_sorted entry_sorted (args_sorted1 _) ?_
 unfold Builtin.«sorted»
 refine wB (m:=checkCount "sorted" 1 1 _) (wpAny_pure ?_)
 refine wpAny_bind (mK K (by simp [calm]) hok hn fun h' tk acc keep le hacc=>?_)
 have k1:=hP acc hacc
 have hlen:acc.toList.length<64:=by rw [mI k1];exact few
 refine wB (wpAny_newList ?_ (Nat.le_trans (Nat.le_of_lt hlen) (by decide)))
 have gL:(h'.push (seqObj "list" acc.toList.toArray 0)).get? h'.objs.size=some (seqObj "list" acc.toList.toArray 0):=Heap.get?_push_size _ rfl
 show wpAny _ _ _ _ _ {s with toks:=tk,heap:=h'.push (seqObj "list" acc.toList.toArray 0)}
 refine wB (wpAny_holding (wpAny_call_entry slot_list_sort ⟨_,gL,rfl⟩ entry_list_sort (list_sort_treeK strKind_oneLt gL k1.keysOf (fun v1 v2 r e=>keyKind_strs (by rw [<- e];exact k1)) hlen fun st a1 a2=>⟨_,rfl,?_⟩) (args_list_sort _)))
 obtain ⟨ks2,e1,e2,e3⟩:=sorted_out_str k1 a1 a2
 refine wpAny_pure ⟨_,rfl,?_⟩
 refine q _ _ ks2 _ tk e1 e2 e3 (sortedHeap_at gL) le fun b ob e=>?_
 have lt:b<h'.objs.size:=Heap.lt_size (keep b ob e)
 rw [sortedHeap_old (Nat.ne_of_lt lt) (by rw [size_push'];exact Nat.lt_succ_of_lt lt)]
 exact gP _ (keep b ob e)
end
def mL:∀ {l:List Value} {ss:List Str},l.length=ss.length->(∀ (i:Nat) (v:Value) (x:Str),l[i]?=some v->ss[i]?=some x->∃ t,v=.str x t)->StrsAre l ss
 | [],[],_,_=>.nil
 | [],_::_,h,_=>by cases h
 | _::_,[],h,_=>by cases h
 | v::l,x::ss,h,q=>by
  obtain ⟨t,rfl⟩:=q 0 v x rfl rfl
  exact .cons x t (mL (by simpa using h) fun i v x h1 h2=>q (i+1) v x (by simpa using h1) (by simpa using h2))
section
variable {X:Cx}
def sD:List V->Hp->VK->Prop:=fun xs H Q=>∃ a kvs ss,xs=[.ref a]/\Rd H a (.dK kvs)/\kvs.map (·.1)=ss.map Sum.inr/\ss.length<64/\∀ l,H l=none->Q (.ref l) (upd H l (.lst ((bn ss).map V.str)))
def lu (calm:X.calm=true):b7 X (.builtin "sorted") sD:=by
 intro pins s σ H xs us Q I r h
 obtain ⟨p,kvs,ss,rfl,hq,hk,hz,q⟩:=h
 obtain ⟨u,rfl,rx⟩:=g0 r
 cases rx
 obtain ⟨z,y,vs,rel,ep,hat⟩:kvs.length<=sizeLine/\(p==sysModules)=false/\∃ vs,KV kvs vs/\∃ ep,s.heap.DictAt (bj X.prog X.w) p vs ep:=by
  obtain ⟨z,y,vs,rel,o,es,ep,e1,e2,e3,e4⟩:=iy I.hok hq
  exact ⟨z,y,vs,rel,ep,o,es,e1,e2,e3,e4⟩
 have hkeys:vs.map (·.1)=ss.map Sum.inr:=rel.keys.symm.trans hk
 have hl:vs.length=ss.length:=by have:=congrArg List.length hkeys;simpa using this
 refine i4 (PySem.W.kdl_dict y) (I.ok.hd calm) hat (ss:=ss) (fun acc hacc=>?_) hz (by rw [hl];exact Nat.le_trans (Nat.le_of_lt hz) (by decide)) fun l out ks h' tk a1 a2 a3 hc le kept=>?_
 · refine mL (by rw [Array.length_toList,hacc.1,hl]) fun i v x h1 h2=>?_
   obtain ⟨k,w,hw,hv⟩:=hacc.2 i v (by rw [<- Array.getElem?_toList];exact h1)
   have e:(vs.map (·.1))[i]?=some k:=by rw [List.getElem?_map,hw];rfl
   rw [hkeys,List.getElem?_map,h2] at e
   cases e
   rcases bq (show iu (.inr x) v=true from hv) with ⟨i,t,e,rfl⟩ | ⟨x,t,e,rfl⟩
   · cases e
   · cases e
     exact ⟨t,rfl⟩
 · have e:ks=bn ss:=eL (a2.trans (bF ss).symm) (gM ks a3) (ge ss)
   subst e
   obtain ⟨c,hc⟩:=hc
   refine ⟨.ref l,_,I.laid (t':=tk) kept le (show ObjOk X.prog X.w _ _ _ (.lst ((bn ss).map V.str)) from ⟨?_,out.toList,c,eM a1,hc⟩),rfl,q _ (I.hok.fresh le)⟩
   rw [List.length_map,(bF ss).length_eq]
   exact Nat.le_trans (Nat.le_of_lt hz) (by decide)
def eR:List Key->Option (List Str)
 | []=>some []
 | .inr x::r=>(eR r).map (x::·)
 | _=>none
def i5:∀ {ks:List Key} {ss:List Str},eR ks=some ss->ks=ss.map Sum.inr
 | [],ss,h=>by cases h;rfl
 | .inr x::r,ss,h=>by
  simp only [eR] at h
  obtain ⟨ts,ht,rfl⟩:=mS h
  rw [i5 ht];rfl
 | .inl x::r,ss,h=>by cases h
def hU:∀ ss:List Str,eR (ss.map Sum.inr)=some ss
 | []=>rfl
 | x::ss=>by
  show (eR (ss.map Sum.inr)).map (x::·)=_
  rw [hU ss]
  rfl
def i6:List Dt->Option T
 | [.dct ks _]=>(eR ks).bind fun ss=>if ss.length<64 then some (.lst ((bn ss).map .str)) else none
 | _=>none
def u3 {K:PySem.W.Frag}:CRD K sD i6:=by
 intro F H ds vs Q t fh r hg k
 unfold i6 at hg
 split at hg<;>first | (cases hg;done) | skip
 obtain ⟨ss,hs,hg⟩:=bS hg
 split at hg<;>cases hg
 rename_i hz
 obtain ⟨v,rfl,rv⟩:=cA r
 obtain ⟨a,kvs,rfl,h1,h2,h3⟩:=rv
 exact ⟨a,kvs,ss,rfl,h1,h2.trans (i5 hs),hz,fun p hp=>cY k fh (eO _) hp⟩
def sE:MtR X "str.index" (fun x vs H Q=>∃ a b i rest,x=.str a/\vs=[.str b]/\Builtin.Str.occurrences a b 0 a.length 1=i::rest/\Q (.int i) H):=by
 intro pins s σ H x vs v us Q I rx rv h
 obtain ⟨a,b,i,rest,rfl,rfl,ho,q⟩:=h
 obtain ⟨t,rfl⟩:=rx
 obtain ⟨u,rfl,ru⟩:=rv.one
 obtain ⟨t',rfl⟩:=ru
 exact SC.index ho ⟨.int _,H,I.tok _,⟨_,rfl⟩,q⟩
def db:Dt->List Dt->Option T
 | .str a,[.str b]=>match Builtin.Str.occurrences a b 0 a.length 1 with
  | i::_=>some (.leaf (.int (Int.ofNat i)))
  | []=>none
 | _,_=>none
def sF {K:PySem.W.Frag}:MRD K (fun x vs H Q=>∃ a b i rest,x=.str a/\vs=[.str b]/\Builtin.Str.occurrences a b 0 a.length 1=i::rest/\Q (.int i) H) db:=by
 intro F H d v ds vs Q t fh rd rs hg k
 unfold db at hg
 split at hg<;>first | cases hg;done | skip
 split at hg<;>first | cases hg;done | skip
 rename_i i rest ho
 cases hg
 cases rd
 obtain ⟨v,rfl,rv⟩:=cA rs
 cases rv
 exact ⟨_,_,i,rest,rfl,rfl,ho,k.int fh⟩
def mM:∀ d ds t,db d ds=some t->∃ z,d=.str z:=fun d ds t h=>by
 unfold db at h
 split at h
 · exact ⟨_,rfl⟩
 · cases h
variable {e o:Expr} {es:List Expr} {fo:De->Option Dt} {fs:De->Option (List Dt)} {apos cpos pos:Pos}
def sG (ho:DB X o fo) (ha:DAB X (e::es) fs)
  (hbase:attributeBase o "index" X.env (eval o X.env)=eval o X.env:=by rfl)
  (hfew:((backTo cpos (starEach (e::es) X.env)).all (fun x=>!x.1)&&(backToKw cpos (keywordEach [] X.env)).all (fun x=>x.1.isSome)
   && decide ((e::es).length+([]:List Keyword).length+(if ([]:List Keyword).isEmpty then 0 else 1)<30))=true:=by rfl)
  (hline:(apos.endLine==cpos.line)=true:=by rfl) (hs:starEach (e::es) X.env=(false,eval e X.env)::starEach es X.env:=by rfl) (hplain:(backTo cpos (starEach es X.env)).any (·.1)=false:=by rfl) :
  DO X (.Call (.Attribute o "index" apos) (e::es) [] cpos) (jR db fo fs):=rW PySem.F.slot_str_index PySem.F.type_str_index sE sF mM ho ha hbase hfew hline hs hplain
noncomputable def y44 (i:Nat) (f:De->Option T):De->Option Out:=fun δ=>match δ[i]? with
 | some (some (.lst l))=>(f δ).bind fun t=>match t with
  | .lst m=>if l.length+m.length<=sizeLine then some (.nx (δ.set i (some (.lst (l++m))))) else none
  | _=>none
 | _=>none
def qz {i:Nat} {fe:De->Option T} (hx:PE X o (jm i)) (he:DO X e fe)
  (hbase:attributeBase o "extend" X.env (eval o X.env)=eval o X.env:=by rfl)
  (hfew:((backTo cpos (starEach [e] X.env)).all (fun x=>!x.1)&&(backToKw cpos (keywordEach [] X.env)).all (fun x=>x.1.isSome)
   && decide ([e].length+([]:List Keyword).length+(if ([]:List Keyword).isEmpty then 0 else 1)<30))=true:=by rfl)
  (hline:(apos.endLine==cpos.line)=true:=by rfl) (hs:starEach [e] X.env=(false,eval e X.env)::starEach [] X.env:=by rfl) (hplain:(backTo cpos (starEach [] X.env)).any (·.1)=false:=by rfl)
  (hsw:swapsWith (.Call (.Attribute o "extend" apos) [e] [] cpos) none pos.line X.env=pure false:=by rfl) :
  DS1 X (.Expr (.Call (.Attribute o "extend" apos) [e] [] cpos) pos) (y44 i fe):=
 PS.mono (kn (oN PySem.F.plainAttrs_list PySem.F.slot_list_extend PySem.F.type_list_extend p6 hx (cF he dU hs) hbase hfew hline hs hplain) hsw) fun D σ H ⟨Φ,δ,F,ot,hK,en,hg,k⟩=>by
  unfold y44 at hg
  split at hg<;>first | cases hg;done | skip
  rename_i l hl
  obtain ⟨t,hd,hg⟩:=bS hg
  split at hg<;>first | cases hg;done | skip
  rename_i m
  split at hg<;>first | cases hg;done | skip
  rename_i hz
  cases hg
  obtain ⟨a,vs,hv,h1,h2⟩:=en.ownL hl
  refine ⟨.ref a,hv,.inl ⟨rfl,vs,.inl (.inl h1)⟩,Φ,δ,F,.lst m,hK,en,hd,fun v H1 F1 S st ov hS=>?_⟩
  have en1:=en.step st
  have h1':=st.hh _ _ h1
  obtain ⟨b,ws,rfl,sb,g1,g2⟩:=ov
  refine ⟨a,b,vs,ws,rfl,rfl,h1',g1,by rw [h2.length,g2.length];exact hz,?_⟩
  refine k σ F1 _ (en1.poke hl hv (fun d z=>nomatch z) fun S sa=>⟨a,vs++ws,rfl,sa,aI,(h2.same st.ff).append (hK▸g2)⟩)
end
noncomputable def ef (i t:Nat) (ft:Ft) (fe:Fg) (δ:Sl):Nat->Nat->CH->Option (List CV×CH)
 | 0,_,_=>none
 | n+1,k,ch=>match ch[i]? with
  | some (.lst l)=>match l[k]? with
   | none=>some ([],ch)
   | some c=>(ft (δ.set t (some c)) ch).bind fun p=>if p.1 then (fe (δ.set t (some c)) p.2).bind fun q=>(ef i t ft fe δ n (k+1) q.2).map fun r=>(q.1::r.1,r.2) else ef i t ft fe δ n (k+1) p.2
  | _=>none
noncomputable def i7 (src:List (Option Nat)) (fd:Fg) (t:Nat) (ft:Ft) (fe:Fg) (n:Nat):Fg:=fun δ ch=>(fd δ ch).bind fun p=>match p.1 with
 | .ref i=>(ef i t ft fe (gC src δ) n 0 p.2).bind fun q=>if q.1.length<=sizeLine then some (.ref q.2.length,q.2++[.lst q.1]) else none
 | _=>none
def mN:Ft:=fun _ ch=>some (true,ch)
def u4 {X:Cx}:PTs X [] (tGT X.K mN):=fun pins s σ H Q I h=>oT pins s σ H Q I (by
 obtain ⟨δ,ch,F,ρ,b,ch',en,hf,k⟩:=h
 cases hf
 exact k F H ρ (Adv.refl en.gh))
section
variable {X:Cx} {elt tg iter:Expr} {ifs:List Expr} {scope:Scope} {pos:Pos} {M:List Str} {src:List (Option Nat)} {fd fe:Fg} {ft:Ft} {i t:Nat}
def qA {n:Nat} (hts:decide (src[t]?=some none)=true):∀ (σ:St) (H:Hp) (Q:VK),tG X.K (i7 src fd t ft fe n) σ H Q->iC src (vV X.K (tG X.K fd)) (eU t) (tGT X.K ft) (tG X.K fe) σ H Q:=fun σ H Q ⟨δ,ch,F,ρ,c,ch',en,hf,k⟩=>by
 unfold i7 at hf
 obtain ⟨⟨c1,ch1⟩,hp,hf1⟩:=bS hf
 clear hf
 dsimp only at hf1
 split at hf1<;>first | (cases hf1;done) | skip
 rename_i i
 obtain ⟨⟨all,ch2⟩,ha,hf2⟩:=bS hf1
 clear hf1
 split at hf2<;>first | (cases hf2;done) | skip
 rename_i hz
 cases hf2
 have hz:all.length<=sizeLine:=hz
 have hn:src[t]?=some none:=of_decide_eq_true hts
 refine ⟨δ,ch,F,ρ,_,ch1,en,hp,fun v F1 H1 ρ1 a1 r1=>?_⟩
 obtain ⟨hi,rfl⟩:=r1
 have en1:=en.adv a1
 have k1:=k.adv en.gh a1
 refine ⟨ρ1 i,rfl,?_,fun D hD=>?_⟩
 · cases n with
   | zero=>cases ha
   | succ n =>
    unfold ef at ha
    split at ha<;>first | (cases ha;done) | skip
    rename_i l hl
    obtain ⟨vs,q1,_⟩:=a1.gh.ok i _ hl
    exact ⟨vs,SqL.of q1⟩
 have wk:∀ v,Wk (stC src σ) ((stC src σ).set t (some v)):=fun v=>by
  refine ⟨by simp,fun j u hj=>?_⟩
  by_cases hm:j=t
  · obtain ⟨i',e,_⟩:=kQ hj
    rw [hm,hn] at e
    cases e
  · rw [gN (Ne.symm hm)]
    exact hj
 refine ⟨fun j m H=>∃ F ρ' c' ys done rest',Bd X.K F1 H1 ρ1 ch1 D F H ρ' c' done ys/\ef i t ft fe (gC src δ) m j c'=some (rest',ch2)/\done++rest'=all,⟨n,F1,ρ1,ch1,[],[],all,⟨Adv.of en1.gh (Step.made en1.gh.fh hD),aI,en1.gh.fh.free hD,fun i hi e=>?_,rfl⟩,ha,rfl⟩,?_⟩
 · obtain ⟨u,hu⟩:=en1.gh.at hi
   rw [e,hD] at hu
   cases hu
 rintro j m H' ⟨F',ρ',c',ys,done,rest',b,hgo,hall⟩
 cases m with
 | zero=>cases hgo
 | succ m =>
  unfold ef at hgo
  split at hgo<;>first | (cases hgo;done) | skip
  rename_i l hl
  obtain ⟨vs,q1,q2⟩:=b.adv.gh.ok i _ hl
  rw [b.adv.ext i hi] at q1
  split at hgo
  · rename_i hj
    cases hgo
    rw [List.append_nil] at hall
    subst hall
    refine .inl ⟨⟨vs,SqL.of q1,?_⟩,k1 (.ref D) F' H' _ (b.fin hD) ⟨by simp,?_⟩⟩
    · rw [q2.length]
      exact List.getElem?_eq_none_iff.mp hj
    · dsimp only
      rw [if_pos rfl]
  · rename_i c hj
    obtain ⟨⟨bo,c3⟩,h2,hgo2⟩:=bS hgo
    clear hgo
    obtain ⟨v,hv,rv⟩:=q2.get hj
    refine .inr ⟨⟨vs,v,SqL.of q1,hv⟩,fun H=>∃ F ρ' c' ys done rest',Bd X.K F1 H1 ρ1 ch1 D F H ρ' c' done ys/\ef i t ft fe (gC src δ) m (j+1) c'=some (rest',ch2)/\done++rest'=all,fun H2 z=>⟨m,by omega,z⟩,fun x H'' hy=>?_⟩
    obtain ⟨rfl,hy⟩:=hy
    have hx:=hy vs (SqL.of q1)
    rw [hv] at hx
    cases hx
    have en2:=((en1.adv b.adv).comp (src:=src)).put rv t
    refine ⟨wk v,_,_,_,_,bo,c3,en2,h2,fun F3 H3 ρ3 a3=>?_⟩
    have b3:=b.step en1.gh a3
    have en4:=en2.adv a3
    dsimp only at hgo2 ⊢
    split at hgo2
    · rename_i q
      have q:bo=true:=q
      rw [if_pos q]
      obtain ⟨⟨y,c4⟩,hy,hgo3⟩:=bS hgo2
      obtain ⟨⟨zs,c5⟩,hzs,hgo4⟩:=mS hgo3
      cases hgo4
      refine ⟨_,_,F3,ρ3,y,c4,en4,hy,fun v F4 H4 ρ4 a4 rv=>?_⟩
      have b4:=b3.step en1.gh a4
      refine ⟨ys,b4.hD,?_,F4,ρ4,c4,ys++[v],done++[y],zs,b4.more hD rv,hzs,by rw [<- hall];simp⟩
      have e1:=b4.rel.length
      have e2:all.length=done.length+(zs.length+1):=by rw [<- hall];simp
      omega
    · rename_i q
      rw [if_neg q]
      exact ⟨F3,ρ3,c3,ys,done,rest',b3,hgo2,hall⟩
def sH (n:Nat) {sc:Scope} {N:List Str} {y:Str} {py spos:Pos} (h:dA sc N i y=true) (hl:iF sc y=true) (nd:N.Nodup) (S:CmpScope X.N X.env.scope scope M src) (hc:X.calm=true) (hi:GE X iter fd) (hg:M.Nodup->∀ C s H ex,PG (cxC X M scope C s H ex) tg (eU t))
  (ht:∀ C s H ex,PTs (cxC X M scope C s H ex) ifs (tGT X.K ft)) (he:∀ C s H ex,GE (cxC X M scope C s H ex) elt fe) (hts:decide (src[t]?=some none)=true) (hs:∀ x,foldedSetIterable iter X.env x=pure x:=by intro _;rfl)
  (e1:bM X sc:=by rfl) (e2:X.N=N:=by rfl) (hf:X.fn y=true∨X.env.scope.names.lookup y=some .local:=by exact .inl rfl) (hsw:swapsWith (.ListComp elt [⟨tg,iter,ifs,0⟩] scope pos) (some (.Name y py)) spos.line X.env=pure true:=by rfl) :
  GS1 X (.Assign [.Name y py] (.ListComp elt [⟨tg,iter,ifs,0⟩] scope pos) spos) (bp i (i7 src fd t ft fe n)):=by
 have e1:X.env.scope=sc:=e1
 subst e1 e2
 refine PS.mono (pf (g:=eU t) (tt:=tGT X.K ft) (te:=tG X.K fe) nd (gF h) (kH hl) hf S hc (ko hi) (fun nd C s H ex=>hg nd C s H ex) (fun C s H ex=>ht C s H ex) (fun C s H ex=>he C s H ex) hs hsw) fun D σ H ⟨δ,ch,F,ρ,o,en,hf',k⟩=>?_
 unfold bp at hf'
 obtain ⟨p,hp,hf1⟩:=mS hf'
 cases hf1
 refine qA hts σ H _ ⟨δ,ch,F,ρ,p.1,p.2,en,hp,fun v F' H' ρ' a r=>?_⟩
 exact k _ F' H' ρ' a ((en.adv a).put r i)
end
def loD (m:Nat) (δ:Sl) (ch:CH):De:=δ.map fun o=>o.bind fun c=>(vwD ch m c).map T.leaf
section
variable {K:PySem.W.Frag} {F H:Hp} {ρ:Nat->Addr} {δ:Sl} {σ:St} {ch:CH}
def pA {m j:Nat} {t:T} (h:(loD m δ ch)[j]?=some (some t)):∃ c d,δ[j]?=some (some c)/\vwD ch m c=some d/\t=.leaf d:=by
 unfold loD at h
 rw [List.getElem?_map] at h
 obtain ⟨o,ho,h1⟩:=mS h
 obtain ⟨c,hc,h2⟩:=bS h1
 obtain ⟨d,hd,h3⟩:=mS h2
 exact ⟨c,d,by rw [ho,hc],hd,h3.symm⟩
def Ge.enD (m:Nat) (e:Ge K δ ch σ F H ρ):En ⟨K,H,H,fun _=>False⟩ (loD m δ ch) σ H H:=by
 refine ⟨Same.refl _,fun b o h _=>h,Same.refl _,fun b o h=>.inl h,by simp [loD,e.len],fun j t h=>?_,fun _ _=>False,fun j t v h=>?_,fun j b z=>z.elim,fun j k b z _=>z.elim⟩
 · obtain ⟨c,d,q,_⟩:=pA h
   obtain ⟨v,hv,_⟩:=e.has j _ q
   exact ⟨v,hv⟩
 · obtain ⟨h1,h2⟩:=dq h
   obtain ⟨c,d,q,hd,rfl⟩:=pA h1
   obtain ⟨w,hw,r⟩:=e.has j _ q
   rw [h2] at hw
   cases hw
   exact io e.gh m c v d r hd
end
def eDV (m:Nat) (f:De->Option T):Fg:=fun δ ch=>(f (loD m δ ch)).bind fun u=>(mr u).bind (al ch)
def tDV (m:Nat) (f:De->Option Bool):Ft:=fun δ ch=>(f (loD m δ ch)).map fun b=>(b,ch)
section
variable {X:Cx} {e:Expr}
def Ac (m:Nat) {f:De->Option T} (h:DO X e f):GE X e (eDV m f):=PE.mono h fun σ H Q ⟨δ,ch,F,ρ,c,ch',en,hf,k⟩=>by
 unfold eDV at hf
 obtain ⟨u,hu,hf⟩:=bS hf
 obtain ⟨t,ht,hf⟩:=bS hf
 exact ⟨_,loD m δ ch,H,u,rfl,en.enD m,hu,ms en.gh.fh ht (jX en.gh hf k)⟩
def sI (m:Nat) {f:De->Option Bool} (h:DT X e f):GT X e (tDV m f):=PT.mono h fun σ H Q ⟨δ,ch,F,ρ,b,ch',en,hf,k⟩=>by
 unfold tDV at hf
 obtain ⟨b',hb,hf⟩:=mS hf
 cases hf
 exact ⟨_,loD m δ ch,H,b,rfl,en.enD m,hb,fun H' F' st=>k F H' ρ (Adv.of en.gh ⟨st.hh,Same.refl _,en.gh.fh.trans st.hh,fun _ _ z=>.inl z⟩)⟩
end
def sJ:Dt->Bool
 | .non=>true | .bl _=>true | .int _=>true | .str _=>true
 | _=>false
def mO {K:PySem.W.Frag} {F F':Hp} {d:Dt} {v:V} (h:sJ d=true) (r:Rep K F d v):Rep K F' d v:=by
 cases d<;>first | (simp [sJ] at h;done) | (simp only [Rep] at r ⊢;exact r)
noncomputable def svD (ch:CH):Nat->CV->Option Dt
 | _,.dat d=>if sJ d then some d else none
 | 0,.ref _=>none
 | n+1,.ref i=>match ch[i]? with
  | some (.lst l)=>(fC (svD ch n) l).map .lst
  | some (.tup l)=>(fC (svD ch n) l).map .tup
  | _=>none
def pB {K:PySem.W.Frag} {F H G:Hp} {ρ:Nat->Addr} {ch:CH} (gh:Gh K F H ρ ch) (hG:∀ i u,i<ch.length->H (ρ i)=some u->G (ρ i)=some u):∀ (n:Nat) (c:CV) (v:V) (d:Dt),RelC K F ρ ch.length c v->svD ch n c=some d->Rep K G d v
 | 0,.dat d',v,d,r,h=>by
  simp only [svD] at h
  split at h<;>cases h
  rename_i hs
  exact mO hs r
 | n+1,.dat d',v,d,r,h=>by
  simp only [svD] at h
  split at h<;>cases h
  rename_i hs
  exact mO hs r
 | 0,.ref i,v,d,r,h=>by simp only [svD] at h;cases h
 | n+1,.ref i,v,d,r,h=>by
  obtain ⟨hi,rfl⟩:=r
  simp only [svD] at h
  have ih:=pB gh hG n
  split at h
  · rename_i l hl
    obtain ⟨ds,hd,rfl⟩:=mS h
    obtain ⟨vs,h1,h2⟩:=gh.ok i _ hl
    simp only [Rep]
    exact ⟨_,vs,rfl,SqL.of (hG i _ hi h1),cr ih h2 hd⟩
  · rename_i l hl
    obtain ⟨ds,hd,rfl⟩:=mS h
    obtain ⟨vs,h1,h2⟩:=gh.ok i _ hl
    simp only [Rep]
    exact ⟨_,vs,rfl,SqT.of (hG i _ hi h1),cr ih h2 hd⟩
  · cases h
def mP (g:Fd):List Dt->Option T:=fun ds=>(g (ds.map .dat) []).bind fun p=>(svD p.2 4 p.1).map .leaf
def Ad {K:PySem.W.Frag} {n:Nat} {g:Fd} {vs:List V} {H:Hp} {Q:VK} {E:XK} (h:spD K n (mP g) vs H Q E):spG K n g vs H Q E:=by
 obtain ⟨F,ds,t,fh,hl,r,hf,k⟩:=h
 unfold mP at hf
 obtain ⟨⟨c,ch'⟩,hp,hf1⟩:=bS hf
 obtain ⟨d,hd,rfl⟩:=mS hf1
 refine ⟨F,fun _=>0,ds.map .dat,[],c,ch',⟨fh,fun i j hi=>absurd hi (Nat.not_lt_zero _),fun i hi=>absurd hi (Nat.not_lt_zero _),fun i o h=>by simp at h⟩,by simpa using hl,RelCs.dats r,hp,fun v F' H' ρ' a rv=>?_⟩
 have hh:Same H H':=fun b o e=>a.prot b o e fun i hi=>absurd hi (Nat.not_lt_zero _)
 have fr:∀ i,i<ch'.length->H (ρ' i)=none:=fun i hi=>a.fr i (Nat.zero_le _) hi
 classical
 let G:Hp:=fun b=>if (∃ i,i<ch'.length/\ρ' i=b) then H' b else F b
 have Gin:∀ i,i<ch'.length->G (ρ' i)=H' (ρ' i):=fun i hi=>if_pos ⟨i,hi,rfl⟩
 have Gout:∀ b,(¬ ∃ i,i<ch'.length/\ρ' i=b)->G b=F b:=fun b h=>if_neg h
 have st:Step F H G H':=by
  refine ⟨hh,fun b o e=>?_,fun b o e=>?_,fun b o e=>?_⟩
  · rw [Gout b]
    · exact e
    · rintro ⟨i,hi,rfl⟩
      have:=fh _ _ e
      rw [fr i hi] at this
      cases this
  · by_cases z:∃ i,i<ch'.length/\ρ' i=b
    · obtain ⟨i,hi,rfl⟩:=z
      rw [Gin i hi] at e
      exact e
    · rw [Gout b z] at e
      exact hh _ _ (fh _ _ e)
  · by_cases z:∃ i,i<ch'.length/\ρ' i=b
    · obtain ⟨i,hi,rfl⟩:=z
      exact .inr (fr i hi)
    · rw [Gout b z] at e
      exact .inl e
 exact k.leaf v H' G st (pB a.gh (fun i u hi hu=>(Gin i hi).trans hu) 4 c v d rv hd)
def okD {P:Program} {w:World} {K:PySem.W.Frag} {mg:Str->Option Value} {base:Heap} {x:Str} {k n:Nat} {ps:List Str} {g:Fd} (h:OkF P w K mg base x k ps (spG K n g)):OkF P w K mg base x k ps (spD K n (mP g)):=by
 obtain ⟨f,fd,h1,h2,h3,h4⟩:=h.ex
 exact ⟨f,fd,h1,h2,h3,h4.imp fun vs H Q E z=>Ad z⟩
end L2
seal L2.PE L2.PS L2.PSs L2.PT L2.PW L2.PA L2.PI L2.PG L2.PTs L2.PO L2.PGs L2.b7 L2.OpR L2.IxR L2.SlR L2.MtR L2.UnR L2.DO L2.DL L2.DB L2.DT L2.DW L2.DS L2.DS1 L2.R2D L2.CRD L2.MRD L2.DG L2.DGs L2.DIF L2.DIB L2.DTs L2.DP L2.GE L2.GT L2.GW L2.GA L2.GS L2.GS1
namespace P32
open PySem L2
def top (i:Nat):Stmt:=PySem.Challenge.pw_dimhouse_k32_what_is_needed.main.body.getD i (.Pass ⟨0,0,0,0⟩)
def k_ATOM_PLACES:List Key:=[.inr "copy",.inr "op",.inr "store",.inr "take",.inr "lay",.inr "say",.inr "if",.inr "end"]
noncomputable def dl:List Dt:=[(.tup [(.int 2),(.int 3)]),(.tup [(.int 3),(.int 5)]),(.tup [(.int 2),(.int 3)]),(.tup [(.int 3),(.int 4)]),(.tup [(.int 2),(.int 4)]),(.tup [(.int 1),(.int 2)]),(.tup [(.int 1),(.int 2)]),(.tup [(.int 1),(.int 2)])]
def gU:Dt:=(.tup [(.str "copy"),(.str "op"),(.str "load"),(.str "take"),(.str "hear")])
def y3:List Dt->Option T:=dk 2 ((aT (sIf (tB2 (nN fun i j=>decide (i<j)) (vB 1) (toD (aw cb (ae (vB 0) ao)))) (b6 (d2 aA (vB 0) (vB 1))) cW)
  (b6 (toT (kD (.int 0))))))
noncomputable def y40:De->Option Out:=(aT (bz 3 (toT (toD (d2 cX (toD (d2 bN (toD (d2 bN (toD (d2 ia (vB 3) (vB 3))) (toD (d2 ia (kD (.int 69621)) (vB 3))))) (vB 4))) (kD (.int 2147483629))))))
  (aT (bz 3 (toT (toD (d2 cX (toD (d2 bN (toD (d2 bN (toD (d2 ia (vB 3) (kD (.int 16807)))) (toD (d2 ia (kD (.int 7919)) (vB 4))))) (vB 1))) (kD (.int 2147483587))))))
  (bz 2 (toT (toD (d2 bN (toD (d2 ia (vB 2) (kD (.int 2147483587)))) (vB 3)))))))
noncomputable def y30:List Dt->Option T:=dk 5 ((aT (bz 2 (toT (kD (.int 0))))
  (aT (bz 3 (toT (toD (d2 bN (toD (d2 bN (toD (d2 cX (vB 0) (kD (.int 2147483629)))) (toD (d2 ia (kD (.int 48271)) (vB 1))))) (kD (.int 11))))))
  (aT (gH (dj h9 (ae (kD (.int 15)) ao)) (ay 4) y40)
  (jL 2)))))
noncomputable def y15:List Dt->Option T:=dk 2 ((aT (sIf (tB2 (gEq false) (toD (d2 cX (toD (aw y3 (ae (vL 0) (ae (kD (.int 0)) ao)))) (kD (.int 2)))) (kD (.int 0))) (b6 (aw y3 (ae (vL 0) (ae (vL 1) ao)))) cW)
  (b6 (aw y30 (ae (toD (aw y3 (ae (vL 0) (ae (vL 1) ao)))) (ae (vL 1) ao))))))
def q34:De->Option Out:=(aT (z25 2 (toD (d2 cX (vB 0) (vB 3))))
  (bz 0 (toT (toD (d2 dN (vB 0) (vB 3))))))
def y8:List Dt->Option T:=dk 4 ((aT (bz 2 (bH ao))
  (aT (gH (fIt (vL 1)) (ay 3) q34)
  (jL 2))))
def z33:De->Option Out:=(bz 0 (toT (toD (d2 dN (vB 0) (vB 14)))))
noncomputable def y32:List Dt->Option T:=dk 19 ((aT (qi (vL 1) (rO 4 (bJ (ay 3) (bJ (ay 4) (bJ (ay 5) (bJ (ay 6) jq))))))
  (aT (bz 7 (toT (toD (bH (ae (kD (.int 11)) (ae (toD (aw cb (ae (vB 3) ao))) (ae (toD (aw n9 (ae (kD (.int 1)) (ae (toD (aw cb (ae (vB 4) ao))) ao)))) (ae (toD (aw n9 (ae (kD (.int 1)) (ae (toD (aw cb (ae (vB 5) ao))) ao)))) (ae (kD (.int 8)) (ae (vL 2) ao))))))))))
  (aT (qi (toD (aw y8 (ae (vL 0) (ae (vL 7) ao)))) (mz 6 (bJ (ay 8) (bJ (ay 9) (bJ (ay 10) (bJ (ay 11) (bJ (ay 12) (bJ (ay 13) jq))))))))
  (aT (gH (fIt (vL 7)) (ay 14) z33)
  (aT (bz 15 (toT (toD (aw y8 (ae (vL 0) (ae (toD (bH (ae (toD (d2 bN (toD (aw cb (ae (vB 3) ao))) (kD (.int 1)))) (ae (toD (d2 ib (kD (.int 2)) (kD (.int 40)))) (ae (toD (d2 bN (toD (aw cb (ae (vB 3) ao))) (kD (.int 1)))) (ae (toD (d2 ib (kD (.int 2)) (kD (.int 40)))) ao)))))) ao))))))
  (aT (bz 16 (toT (toD (d2 aA (toD (d2 bN (vB 3) (toD (bH (ae (toD (d2 aA (vB 15) (kD (.int 1)))) ao))))) (toD (d2 aA (vB 15) (kD (.int 0))))))))
  (aT (bz 17 (toT (toD (d2 aA (toD (d2 bN (vB 3) (toD (bH (ae (toD (d2 aA (vB 15) (kD (.int 3)))) ao))))) (toD (d2 aA (vB 15) (kD (.int 2))))))))
  (aT (sIf (qh (tB2 (cv false) (vB 8) (toD (bT (ae (kD (.int 2)) (ae (kD (.int 3)) ao))))) (tB2 (gEq true) (vB 4) (toD (bT ao)))) (b6 (d2 aA (toD (bH (ae (toD (bT (ae (kD (.str "load")) (ae (toD (d2 aA (vB 3) (vB 9))) (ae (toD (d2 aA (toD (d2 aA (vB 4) (vB 10))) (kD (.int 0)))) ao))))) (ae (toD (bT (ae (kD (.str "store")) (ae (toD (d2 aA (toD (d2 aA (vB 4) (vB 10))) (kD (.int 0)))) (ae (vL 16) ao))))) ao)))) (toD (d2 fU (vB 8) (kD (.int 2)))))) cW)
  (aT (sIf (qh (tB2 (cv false) (vB 8) (toD (bT (ae (kD (.int 4)) (ae (kD (.int 5)) ao))))) (tB2 (gEq true) (vB 5) (toD (bT ao)))) (b6 (d2 aA (toD (bH (ae (toD (bT (ae (kD (.str "take")) (ae (toD (d2 aA (vB 3) (vB 9))) (ae (toD (d2 aA (toD (d2 aA (vB 5) (vB 11))) (kD (.int 0)))) (ae (vL 16) ao)))))) (ae (toD (bT (ae (kD (.str "lay")) (ae (toD (d2 aA (toD (d2 aA (vB 5) (vB 11))) (kD (.int 0)))) (ae (vL 16) (ae (vL 17) ao)))))) ao)))) (toD (d2 fU (vB 8) (kD (.int 4)))))) cW)
  (aT (sIf (tB2 (gEq false) (vB 8) (kD (.int 1))) (b6 (bT (ae (kD (.str "op")) (ae (toD (d2 aA (vB 3) (vB 9))) (ae (toD (d2 aA (kD (.str "+-*<=&|^")) (vB 12))) (ae (vL 16) (ae (vL 17) ao))))))) cW)
  (aT (bz 18 (toT (toD (bH (ae (toD (bT (ae (kD (.str "hear")) (ae (toD (d2 aA (vB 3) (vB 9))) ao)))) (ae (toD (bT (ae (kD (.str "say")) (ae (vL 16) ao)))) (ae (toD (bT (ae (kD (.str "if")) (ae (vL 16) (ae (vL 13) ao))))) (ae (toD (bT (ae (kD (.str "go")) (ae (vL 13) ao)))) (ae (toD (bT (ae (kD (.str "end")) (ae (vL 16) ao)))) ao)))))))))
  (aT (sIf (tB2 (nN fun i j=>decide (j<i)) (vB 8) (kD (.int 5))) (b6 (d2 aA (vB 18) (toD (d2 fU (vB 8) (kD (.int 6)))))) cW)
  (b6 (bT (ae (kD (.str "copy")) (ae (toD (d2 aA (vB 3) (vB 9))) (ae (vL 16) ao))))))))))))))))))
def z29:De->Option Dt:=(toD (d2 aA (vB 1) (toD (d2 aA (vB 2) (toD (d2 bN (kD (.int 1)) (vB 0)))))))
noncomputable def z28:De->Option Out:=(bz 5 (toT (toD (d2 bN (toD (vSl (vB 5) wc (mh (toD (qk (kD (.int 1))))))) (toD (d2 aA (vB 2) (toD (d2 cX (toD (d2 bN (toD (jR db (vB 2) (ae (toD (d2 aA (vB 5) (toD (qk (kD (.int 1)))))) ao))) (kD (.int 1)))) (kD (.int 26))))))))))
def z21:De->Option Bool:=(tB2 (cv false) (vB 5) (vB 3))
noncomputable def q30:De->Option Out:=(aT (bz 4 (toT (toD (aw y8 (ae (vL 0) (ae (toD (bH (ae (kD (.int 6)) (ae (kD (.int 26)) (ae (kD (.int 26)) (ae (kD (.int 26)) (ae (kD (.int 26)) (ae (kD (.int 26)) (ae (kD (.int 26)) ao))))))))) ao))))))
  (aT (bz 5 (toT (toD (jR fu (kD (.str "")) (ae (toD (cP [none,some 2,some 4] (dj h9 (ae (toD (d2 bN (kD (.int 1)) (toD (d2 aA (vB 4) (kD (.int 0)))))) ao)) (ay 0) cQ z29)) ao)))))
  (aT (bz 0 (toT (toD (d2 dN (vB 0) (toD (d2 ia (kD (.int 6)) (toD (d2 ib (kD (.int 26)) (kD (.int 6))))))))))
  (aT (dh z21 z28 100000)
  (z25 3 (vL 5))))))
def q21:De->Option Bool:=(tB2 (nN fun i j=>decide (i<j)) (toD (aw cb (ae (vB 3) ao))) (vB 1))
def q22:List Dt->Option T:=dk 6 ((aT (bz 2 (toT (kD (.str "abcdefghijklmnopqrstuvwxyz"))))
  (aT (bz 3 (bH ao))
  (aT (dh q21 q30 100000)
  (jL 3)))))
noncomputable def y38:De->Option Out:=(aT (z25 6 (toD (bT (ae (toD (d2 aA (vB 5) (vB 7))) (ae (toD (d2 cX (vB 1) (toD (d2 ib (kD (.int 2)) (kD (.int 40)))))) (ae (toD (d2 (gEq false) (toD (d2 cX (toD (d2 dN (vB 1) (toD (d2 ib (kD (.int 2)) (kD (.int 40)))))) (kD (.int 2)))) (kD (.int 1)))) ao))))))
  (bz 1 (toT (toD (d2 dN (vB 1) (toD (d2 ib (kD (.int 2)) (kD (.int 41)))))))))
noncomputable def y36:De->Option Out:=(aT (z25 8 (toD (bT (ae (toD (d2 aA (vB 5) (toD (d2 bN (kD (.int 8)) (vB 7))))) (ae (toD (d2 bN (kD (.int 1)) (toD (d2 cX (vB 1) (kD (.int 8)))))) (ae (toD (d2 (gEq false) (toD (d2 cX (toD (d2 dN (vB 1) (kD (.int 8)))) (kD (.int 2)))) (kD (.int 1)))) ao))))))
  (bz 1 (toT (toD (d2 dN (vB 1) (kD (.int 16)))))))
noncomputable def z15:List Dt->Option T:=dk 9 ((aT (bz 1 (toT (toD (aw y15 (ae (vL 0) (ae (kD (.int 3)) ao))))))
  (aT (qi (toD (aw y8 (ae (vL 1) (ae (toD (bH (ae (kD (.int 9)) (ae (kD (.int 5)) (ae (kD (.int 12)) ao))))) ao)))) (mz 3 (bJ (ay 2) (bJ (ay 3) (bJ (ay 4) jq)))))
  (aT (bz 1 (toT (toD (d2 dN (vB 1) (kD (.int 540))))))
  (aT (bz 5 (toT (toD (aw q22 (ae (toD (aw y15 (ae (vL 0) (ae (toD (d2 aA (toD (bH (ae (kD (.int 1)) (ae (kD (.int 1)) (ae (kD (.int 2)) ao))))) (toD (d2 cX (toD (d2 dN (toD (aw y3 (ae (vL 0) (ae (kD (.int 0)) ao)))) (kD (.int 2)))) (kD (.int 3)))))) ao)))) (ae (kD (.int 12)) ao))))))
  (aT (bz 6 (bH ao))
  (aT (gH (dj h9 (ae (vL 2) ao)) (ay 7) y38)
  (aT (bz 8 (bH ao))
  (aT (gH (dj h9 (ae (vL 3) ao)) (ay 7) y36)
  (b6 (bT (ae (toD (aw q22 (ae (toD (aw y15 (ae (vL 0) (ae (kD (.int 2)) ao)))) (ae (toD (d2 bN (kD (.int 1)) (vB 4))) ao)))) (ae (toD (aw gI (ae (vB 6) ao))) (ae (toD (aw gI (ae (vB 8) ao))) (ae (vL 1) ao)))))))))))))))
def y26:De->Option Dt:=(toD (aw y32 (ae (toD (aw y15 (ae (vL 1) (ae (toD (d2 bN (kD (.int 6)) (vB 0))) ao)))) (ae (vL 2) (ae (vL 3) ao)))))
noncomputable def q14:List Dt->Option T:=dk 9 ((aT (bz 2 (toT (toD (aw z15 (ae (vL 0) ao)))))
  (aT (bz 3 (toT (toD (aw n9 (ae (kD (.int 1)) (ae (toD (aw uW (ae (toD (d2 fU (toD (aw cb (ae (vB 0) ao))) (kD (.int 5)))) (ae (toD (d2 bN (kD (.int 1)) (vB 1))) ao)))) ao))))))
  (aT (bz 4 (cP [none,some 0,some 2,some 3] (dj h9 (ae (toD (d2 fU (vB 3) (kD (.int 1)))) ao)) (ay 0) cQ y26))
  (aT (qi (toD (aw y8 (ae (toD (d2 aA (vB 2) (kD (.int 3)))) (ae (toD (bH (ae (kD (.int 2)) (ae (vL 3) (ae (toD (d2 bN (toD (aw cb (ae (toD (d2 aA (vB 2) (kD (.int 0)))) ao))) (kD (.int 1)))) (ae (toD (d2 ib (kD (.int 2)) (kD (.int 40)))) ao)))))) ao)))) (mz 4 (bJ (ay 5) (bJ (ay 6) (bJ (ay 7) (bJ (ay 8) jq))))))
  (aT (z25 4 (toD (d2 aA (toD (bH (ae (toD (bT (ae (kD (.str "end")) (ae (toD (d2 aA (toD (d2 bN (toD (d2 aA (vB 2) (kD (.int 0)))) (toD (bH (ae (vL 8) ao))))) (vB 7))) ao)))) (ae (toD (bT (ae (kD (.str "go")) (ae (vL 6) ao)))) ao)))) (vB 5))))
  (b6 (bT (ae (toD (d2 aA (vB 2) (kD (.int 1)))) (ae (toD (d2 aA (vB 2) (kD (.int 2)))) (ae (toD (aw gI (ae (vB 4) ao))) ao)))))))))))
noncomputable def y39:List Dt->Option T:=dk 2 ((aT (sIf (tB2 (gEq false) (toD (d2 aA (vB 1) (kD (.int 0)))) (kD (.str "go"))) (b6 (bT (ae (toD (d2 aA (vB 1) (kD (.int 1)))) ao))) cW)
  (aT (sIf (tB2 (gEq false) (toD (d2 aA (vB 1) (kD (.int 0)))) (kD (.str "if"))) (b6 (bT (ae (toD (d2 aA (vB 1) (kD (.int 2)))) (ae (toD (d2 bN (vB 0) (kD (.int 1)))) ao)))) cW)
  (aT (sIf (tB2 (gEq false) (toD (d2 aA (vB 1) (kD (.int 0)))) (kD (.str "end"))) (b6 (bT ao)) cW)
  (b6 (bT (ae (toD (d2 bN (vB 0) (kD (.int 1)))) ao)))))))
def z66:De->Option Dt:=(toD (aw y39 (ae (vL 0) (ae (vL 1) ao))))
def fE:List Dt->Option T:=dk 1 ((b6 (cP [none,none] (dj pe (ae (toD (d2 aA (vB 0) (kD (.int 2)))) ao)) (rO 2 (bJ (ay 0) (bJ (ay 1) jq))) cQ z66)))
def z47:List Dt->Option T:=dk 1 ((b6 (vIf (tB2 (cv false) (toD (d2 aA (vB 0) (kD (.int 0)))) (kD gU)) (d2 aA (vB 0) (kD (.int 1))) (toT (kD .non)))))
noncomputable def q47:List Dt->Option T:=dk 2 ((aT (sIf (fSi true k_ATOM_PLACES dl (toD (d2 aA (vB 0) (kD (.int 0))))) (b6 (bT ao)) cW)
  (aT (bz 1 (toT (toD (vSg k_ATOM_PLACES dl (toD (d2 aA (vB 0) (kD (.int 0))))))))
  (b6 (vSl (vB 0) (mh (toD (d2 aA (vB 1) (kD (.int 0))))) (mh (toD (d2 aA (vB 1) (kD (.int 1))))))))))
def z45:De->Option Out:=(sIf (qh (iJ (toD (g7 "str" (vB 2)))) (tB2 (cv true) (vB 2) (vB 1))) (z25 1 (vL 2)) cW)
def q48:List Dt->Option T:=dk 3 ((aT (bz 1 (bH ao))
  (aT (gH (fIt (toD (aw q47 (ae (vL 0) ao)))) (ay 2) z45)
  (jL 1))))
def q31:De->Option Bool:=(tB2 (gEq true) (vB 0) (toD (aw z47 (ae (vL 1) ao))))
def z31:De->Option Out:=(y44 2 (cP [none,some 0] (fIt (vB 3)) (ay 0) q31 (vL 0)))
def y17:List Dt->Option T:=dk 4 ((aT (bz 2 (aw q48 (ae (vL 0) ao)))
  (aT (gH (fIt (vL 1)) (ay 3) z31)
  (b6 (aw ee (ae (vB 2) ao))))))
def z23:Fg:=(eN (bH ao))
def q43:De->Option Dt:=(toD (d2 aA (vB 1) (vB 0)))
noncomputable def z43:Fs:=(bm (bp 6 (eDV 2 (aw y17 (ae (toD (d2 aA (vB 1) (vB 5))) (ae (toD (cP [none,some 3] (fIt (toD (d2 aA (vB 2) (vB 5)))) (ay 0) cQ q43)) ao)))))
  (gb (tDV 2 (tB2 (gEq true) (vB 6) (toD (d2 aA (vB 3) (vB 5))))) (bm (g9 (eV 3) (eD (vL 5)) (eV 6))
  (bp 4 (eD (kD (.bl true))))) ga))
def y42:Fs:=(bm (bp 4 (eD (kD (.bl false))))
  (eZ (dj iV (ae (toD (d2 fU (toD (aw cb (ae (vB 1) ao))) (kD (.int 1)))) (ae (toD (qk (kD (.int 1)))) (ae (toD (qk (kD (.int 1)))) ao)))) [5] (ay 5) z43))
def q60:Ft:=(tD (iJ (vB 4)))
noncomputable def y24:Fd:=mw 7 ((bm (bp 1 (eD (toD (d2 aA (vB 0) (kD (.int 2))))))
  (bm (bp 2 (eD (toD (aw fE (ae (vL 0) ao)))))
  (bm (bp 3 (gd [none] (fIt (vL 1)) [0] (ay 0) cQ z23))
  (bm (bp 4 (eD (kD (.bl true))))
  (bm (cf q60 y42 100000)
  (dM (eV 3))))))))
noncomputable def y16:List Dt->Option T:=dk 2 ((aT (sIf (tB2 (gEq false) (toD (d2 aA (toD (d2 aA (vB 0) (vB 1))) (kD (.int 0)))) (kD (.str "end"))) (b6 (bH ao)) cW)
  (aT (sIf (tB2 (gEq false) (toD (d2 aA (toD (d2 aA (vB 0) (vB 1))) (kD (.int 0)))) (kD (.str "go"))) (b6 (bH (ae (toD (d2 aA (toD (d2 aA (vB 0) (vB 1))) (kD (.int 1)))) ao))) cW)
  (aT (sIf (tB2 (gEq false) (toD (d2 aA (toD (d2 aA (vB 0) (vB 1))) (kD (.int 0)))) (kD (.str "if"))) (b6 (bH (ae (toD (d2 aA (toD (d2 aA (vB 0) (vB 1))) (kD (.int 2)))) (ae (toD (d2 bN (vB 1) (kD (.int 1)))) ao)))) cW)
  (b6 (bH (ae (toD (d2 bN (vB 1) (kD (.int 1)))) ao)))))))
def z44:De->Option Bool:=(iJ (toD (g7 "str" (vB 0))))
noncomputable def z14:List Dt->Option T:=dk 2 ((aT (bz 1 (toT (toD (bH ao))))
  (aT (sIf (tB2 (cv false) (toD (d2 aA (vB 0) (kD (.int 0)))) (toD (bT (ae (kD (.str "copy")) (ae (kD (.str "store")) ao))))) (bz 1 (toT (toD (bH (ae (toD (d2 aA (vB 0) (kD (.int 2)))) ao))))) cW)
  (aT (sIf (tB2 (gEq false) (toD (d2 aA (vB 0) (kD (.int 0)))) (kD (.str "op"))) (bz 1 (toT (toD (bH (ae (toD (d2 aA (vB 0) (kD (.int 3)))) (ae (toD (d2 aA (vB 0) (kD (.int 4)))) ao)))))) cW)
  (aT (sIf (tB2 (gEq false) (toD (d2 aA (vB 0) (kD (.int 0)))) (kD (.str "take"))) (bz 1 (toT (toD (bH (ae (toD (d2 aA (vB 0) (kD (.int 3)))) ao))))) cW)
  (aT (sIf (tB2 (gEq false) (toD (d2 aA (vB 0) (kD (.int 0)))) (kD (.str "lay"))) (bz 1 (toT (toD (bH (ae (toD (d2 aA (vB 0) (kD (.int 2)))) (ae (toD (d2 aA (vB 0) (kD (.int 3)))) ao)))))) cW)
  (aT (sIf (tB2 (cv false) (toD (d2 aA (vB 0) (kD (.int 0)))) (toD (bT (ae (kD (.str "say")) (ae (kD (.str "if")) (ae (kD (.str "end")) ao)))))) (bz 1 (toT (toD (bH (ae (toD (d2 aA (vB 0) (kD (.int 1)))) ao))))) cW)
  (b6 (cP [none] (fIt (vB 1)) (ay 0) z44 (vL 0))))))))))
noncomputable def z17:List Dt->Option T:=dk 1 ((aT (sIf (tB2 (cv false) (toD (d2 aA (vB 0) (kD (.int 0)))) (toD (bT (ae (kD (.str "copy")) (ae (kD (.str "op")) (ae (kD (.str "load")) (ae (kD (.str "take")) (ae (kD (.str "hear")) ao)))))))) (b6 (d2 aA (vB 0) (kD (.int 1)))) cW)
  (b6 (toT (kD .non)))))
def y37:De->Option Out:=(rZ 3 (vB 4) (kD (.bl true)))
def q29:De->Option Out:=(sIf (tB2 (gEq true) (vB 4) (toD (aw z17 (ae (toD (d2 aA (vB 0) (vB 2))) ao)))) (rZ 3 (vB 4) (kD (.bl true))) cW)
def q39:De->Option Out:=(gH (fIt (toD (d2 aA (vB 1) (vB 5)))) (ay 4) q29)
noncomputable def y25:List Dt->Option T:=dk 6 ((aT (bz 3 rY)
  (aT (gH (fIt (toD (aw z14 (ae (toD (d2 aA (vB 0) (vB 2))) ao)))) (ay 4) y37)
  (aT (gH (fIt (toD (aw y16 (ae (vL 0) (ae (vL 2) ao))))) (ay 5) q39)
  (b6 (rM (toD (g7 "list" (toD (d2 aA (vB 1) (vB 2))))) (d2 (gEq false) (toD (d2 aA (vB 1) (vB 2))) (toD (aw i6 (ae (vB 3) ao))))))))))
def z18:Fs:=(gb (tD (tB2 (cv true) (vB 6) (vB 3))) (bm (g9 (eV 3) (eD (vL 6)) (eD (kD (.bl true))))
  (e5 (eV 4) (eD (vL 6)))) ga)
noncomputable def y13:Fs:=(bm (bp 5 (mJ (eV 4)))
  (bm (gb (tD (tB2 (cv false) (vB 2) (toD (aw z14 (ae (toD (d2 aA (vB 0) (vB 5))) ao))))) (dM (eD (kD (.bl true)))) ga)
  (gb (tD (tB2 (gEq true) (toD (aw z17 (ae (toD (d2 aA (vB 0) (vB 5))) ao))) (vB 2))) (eZ (fIt (toD (aw y16 (ae (vL 0) (ae (vL 5) ao))))) [6] (ay 6) z18) ga)))
def q16:Ft:=(tD (tB2 (nN fun i j=>decide (j<i)) (toD (aw cb (ae (vB 4) ao))) (kD (.int 0))))
def q13:Fd:=mw 7 ((bm (bp 3 (pq [((eD (vL 1)),(eD (kD (.bl true))))]))
  (bm (bp 4 (eN (bH (ae (vL 1) ao))))
  (bm (cf q16 y13 100000)
  (dM (eD (kD (.bl false))))))))
def y49:Fs:=(gb (tDV 2 (nI (iJ (toD (aw y25 (ae (vL 2) (ae (vL 4) (ae (vL 5) ao)))))))) (dM (eD (kD (.bl false)))) ga)
def z38:De->Option Bool:=(iJ (toD (aw (mP q13) (ae (vL 1) (ae (vL 2) (ae (vL 0) ao))))))
def q49:Fs:=(gb (qp (e2 (gEq true) (gd [none,some 2,some 5] (fIt (toD (aw da (ae (vB 3) ao)))) [0] (ay 0) z38 (eD (vL 0))) (eIx (eV 4) (eD (vL 5))))) (dM (eD (kD (.bl false)))) ga)
def q38:Fg:=(eB rT (cT (eV 0) iR))
noncomputable def pC:Fd:=mw 7 ((bm (bp 1 (eD (toD (aw q14 (ae (vL 0) (ae (kD (.int 57)) ao))))))
  (bm (bp 2 (eD (toD (d2 aA (vB 1) (kD (.int 2))))))
  (bm (bp 3 (eD (toD (d2 aA (toD (aw z15 (ae (vL 0) ao))) (kD (.int 0))))))
  (bm (bp 4 (eC y24 (cT (eD (vL 1)) iR)))
  (bm (gb (tDV 2 (fOr (nI (iJ (toD (g7 "list" (vB 4))))) (tB2 (gEq true) (toD (aw cb (ae (vB 4) ao))) (toD (aw cb (ae (vB 2) ao)))))) (dM (eD (kD (.bl false)))) ga)
  (bm (eZ (dj h9 (ae (toD (aw cb (ae (vB 2) ao))) ao)) [5] (ay 5) y49)
  (bm (eZ (dj iV (ae (toD (d2 cX (toD (aw y3 (ae (vL 0) (ae (kD (.int 5)) ao)))) (kD (.int 4)))) (ae (toD (aw cb (ae (vB 2) ao))) (ae (kD (.int 4)) ao)))) [5] (ay 5) q49)
  (bm (bp 6 (i7 [none] (eV 4) 0 mN q38 100000))
  (bm (e5 (eIx (eV 4) (eD (kD (.int 0)))) (eD (kD (.str "z"))))
  (bm (e5 (eV 4) (eD (toD (bH ao))))
  (dM (uU (e2D 2 (gEq false) (eC y24 (cT (eD (vL 1)) iR)) (eV 6)) (eD (toD (d2 (gEq false) (vB 1) (toD (aw q14 (ae (vL 0) (ae (kD (.int 57)) ao))))))))))))))))))))
structure Txt (P:Program) (w:World) (K:PySem.W.Frag) (mg:Str->Option Value):Prop where
 n_enumerate:mg "enumerate"=none
 n_isinstance:mg "isinstance"=none
 n_len:mg "len"=none
 n_list:mg "list"=none
 n_max:mg "max"=none
 n_min:mg "min"=none
 n_range:mg "range"=none
 n_set:mg "set"=none
 n_sorted:mg "sorted"=none
 n_str:mg "str"=none
 n_tuple:mg "tuple"=none
 g_ATOM_PLACES:uN P w K mg "ATOM_PLACES" k_ATOM_PLACES dl
 g_SETTING:rV K mg "SETTING" gU
 k_str:nQ K "str"
 k_list:nQ K "list"
section
variable {P:Program} {w:World} {K:PySem.W.Frag} {mg:Str->Option Value} {base:Heap}
abbrev z16:Stmt:=top 12
def q59:FnScope ["_law_script","_law_k"] ["_law_script","_law_k"] (aa z16):=⟨rfl,rfl,rfl,by decide +kernel,rfl,by decide +kernel,by decide +kernel⟩
def bV:cC (aa z16) ["_law_script","_law_k"]=true:=by decide +kernel
def z53:aH (aa z16) "len"=true:=by decide +kernel
def z59 (T:Txt P w K mg) (D:DefF K mg "_law_cell_at" z16 ["_law_script","_law_k"]):OkF P w K mg base "_law_cell_at" 1 ["_law_script","_law_k"] (spD K 2 y3):=
 cm D q59 rfl fun f cdv A outer s H E hr=>(aq (bU (bv vX pd (af (pvN 1 bV)) (DO.toB (aV z53 br cR T.n_len bW (aG (af (pvN 0 bV)) aS))) (bf _)) (aD (bg (am hr (af (pvN 0 bV)) (af (pvN 1 bV))))) bA)
     (aD (bg (DL.toO ag))))
abbrev z20:Stmt:=top 13
def y21:FnScope ["_law_cell","_law_k","_law_found","_law_number","_law_j"] ["_law_cell","_law_k"] (aa z20):=⟨rfl,rfl,rfl,by decide +kernel,rfl,by decide +kernel,by decide +kernel⟩
def az:cC (aa z20) ["_law_cell","_law_k","_law_found","_law_number","_law_j"]=true:=by decide +kernel
def q55:aH (aa z20) "range"=true:=by decide +kernel
def y66 (T:Txt P w K mg) (D:DefF K mg "_law_rich" z20 ["_law_cell","_law_k"]):OkF P w K mg base "_law_rich" 1 ["_law_cell","_law_k"] (spD K 2 y30):=
 cm D y21 rfl fun f cdv A outer s H E hr=>(aq (aN (nsN az 2) (nsL az 2) y21.nd (DL.toO ag))
     (aq (aN (nsN az 3) (nsL az 3) y21.nd (DL.toO (DO.toL (ax aU bC (DO.toB (ax aU bC (DO.toB (ax cw dL (af (pvN 0 az)) (DL.toB ag))) (DO.toB (ax fj iM (DL.toB ag) (af (pvN 1 az)))))) (DL.toB ag)))))
     (aq (dg PassesOwn.never rfl (cI q55 T.n_range (ab ag ai)) (aE (aF (nsN az 4) (nsL az 4) y21.nd)) (aq (aN (nsN az 3) (nsL az 3) y21.nd (DL.toO (DO.toL (ax cw dL (DO.toB (ax aU bC (DO.toB (ax aU bC (DO.toB (ax fj iM (af (pvN 3 az)) (af (pvN 3 az)))) (DO.toB (ax fj iM (DL.toB ag) (af (pvN 3 az)))))) (af (pvN 4 az)))) (DL.toB ag)))))
     (aq (aN (nsN az 3) (nsL az 3) y21.nd (DL.toO (DO.toL (ax cw dL (DO.toB (ax aU bC (DO.toB (ax aU bC (DO.toB (ax fj iM (af (pvN 3 az)) (DL.toB ag))) (DO.toB (ax fj iM (DL.toB ag) (af (pvN 4 az)))))) (af (pvN 1 az)))) (DL.toB ag)))))
     (aD (aN (nsN az 2) (nsL az 2) y21.nd (DL.toO (DO.toL (ax aU bC (DO.toB (ax fj iM (af (pvN 2 az)) (DL.toB ag))) (af (pvN 3 az))))))))))
     (aD (il (pvN 2 az))))))
abbrev q20:Stmt:=top 14
def q68:FnScope ["_law_script","_law_k"] ["_law_script","_law_k"] (aa q20):=⟨rfl,rfl,rfl,by decide +kernel,rfl,by decide +kernel,by decide +kernel⟩
def b5:cC (aa q20) ["_law_script","_law_k"]=true:=by decide +kernel
def z22:aH (aa q20) "_law_cell_at"=true:=by decide +kernel
def z48:aH (aa q20) "_law_rich"=true:=by decide +kernel
def z67 (T:Txt P w K mg) (D:DefF K mg "_law_big" q20 ["_law_script","_law_k"]) (y12:OkF P w K mg base "_law_cell_at" 1 ["_law_script","_law_k"] (spD K 2 (y3))) (q46:OkF P w K mg base "_law_rich" 1 ["_law_cell","_law_k"] (spD K 2 (y30))):OkF P w K mg base "_law_big" 2 ["_law_script","_law_k"] (spD K 2 y15):=
 cm D q68 rfl fun f cdv A outer s H E hr=>(aq (bU (bv (bO hr) eT (DO.toB (ax cw dL (DO.toB (aC z22 y12 (hr.mono (by decide)) (ab (ar (pvN 0 b5)) (ab ag ai)))) (DL.toB ag))) (DL.toB ag) (bf _)) (aD (bg (aC z22 y12 (hr.mono (by decide)) (ab (ar (pvN 0 b5)) (ab (ar (pvN 1 b5)) ai))))) bA)
     (aD (bg (aC z48 q46 (hr.mono (by decide)) (ab (DO.toL (aC z22 y12 (hr.mono (by decide)) (ab (ar (pvN 0 b5)) (ab (ar (pvN 1 b5)) ai)))) (ab (ar (pvN 1 b5)) ai))))))
abbrev y18:Stmt:=top 15
def y28:FnScope ["_law_number","_law_sizes","_law_digits_here","_law_size"] ["_law_number","_law_sizes"] (aa y18):=⟨rfl,rfl,rfl,by decide +kernel,rfl,by decide +kernel,by decide +kernel⟩
def aL:cC (aa y18) ["_law_number","_law_sizes","_law_digits_here","_law_size"]=true:=by decide +kernel
def z61 (T:Txt P w K mg) (D:DefF K mg "_law_digits" y18 ["_law_number","_law_sizes"]):OkF P w K mg base "_law_digits" 1 ["_law_number","_law_sizes"] (spD K 2 y8):=
 cm D y28 rfl fun f cdv A outer s H E hr=>(aq (aN (nsN aL 2) (nsL aL 2) y28.nd (aY ai))
     (aq (dg PassesOwn.never rfl (di (ar (pvN 1 aL))) (aE (aF (nsN aL 3) (nsL aL 3) y28.nd)) (aq (cJ (pvN 2 aL) (DO.toL (ax cw dL (af (pvN 0 aL)) (af (pvN 3 aL)))))
     (aD (aN (nsN aL 0) (nsL aL 0) y28.nd (DL.toO (DO.toL (ax cg dE (af (pvN 0 aL)) (af (pvN 3 aL)))))))))
     (aD (il (pvN 2 aL)))))
abbrev q18:Stmt:=top 18
def z9:FnScope ["_law_number","_law_world_here","_law_many","_law_boxes","_law_cells","_law_shelves","_law_rest","_law_sizes","_law_kind","_law_x","_law_c","_law_f","_law_sign","_law_goal","_law_size","_law_atoms","_law_one","_law_other","_law_some"] ["_law_number","_law_world_here","_law_many"] (aa q18):=⟨rfl,rfl,rfl,by decide +kernel,rfl,by decide +kernel,by decide +kernel⟩
def ac:cC (aa q18) ["_law_number","_law_world_here","_law_many","_law_boxes","_law_cells","_law_shelves","_law_rest","_law_sizes","_law_kind","_law_x","_law_c","_law_f","_law_sign","_law_goal","_law_size","_law_atoms","_law_one","_law_other","_law_some"]=true:=by decide +kernel
def q24:aH (aa q18) "len"=true:=by decide +kernel
def y45:aH (aa q18) "max"=true:=by decide +kernel
def z30:aH (aa q18) "_law_digits"=true:=by decide +kernel
def y67 (T:Txt P w K mg) (D:DefF K mg "_law_row" q18 ["_law_number","_law_world_here","_law_many"]) (z11:OkF P w K mg base "_law_digits" 1 ["_law_number","_law_sizes"] (spD K 2 (y8))):OkF P w K mg base "_law_row" 2 ["_law_number","_law_world_here","_law_many"] (spD K 3 y32):=
 cm D z9 rfl fun f cdv A outer s H E hr=>(aq (kN (ar (pvN 1 ac)) (rP rfl (bd (aE (aF (nsN ac 3) (nsL ac 3) z9.nd)) (bd (aE (aF (nsN ac 4) (nsL ac 4) z9.nd)) (bd (aE (aF (nsN ac 5) (nsL ac 5) z9.nd)) (bd (aE (aF (nsN ac 6) (nsL ac 6) z9.nd)) fR))))))
     (aq (aN (nsN ac 7) (nsL ac 7) z9.nd (DL.toO (DO.toL (aY (ab ag (ab (DO.toL (aV q24 br cR T.n_len bW (aG (af (pvN 3 ac)) aS))) (ab (DO.toL (aV y45 (gT rfl) sB T.n_max nG (aG (DL.toB ag) (aG (DO.toB (aV q24 br cR T.n_len bW (aG (af (pvN 4 ac)) aS))) aS)))) (ab (DO.toL (aV y45 (gT rfl) sB T.n_max nG (aG (DL.toB ag) (aG (DO.toB (aV q24 br cR T.n_len bW (aG (af (pvN 5 ac)) aS))) aS)))) (ab ag (ab (ar (pvN 2 ac)) ai))))))))))
     (aq (kN (DO.toL (aC z30 z11 (hr.mono (by decide)) (ab (ar (pvN 0 ac)) (ab (ar (pvN 7 ac)) ai)))) (nY rfl (bd (aE (aF (nsN ac 8) (nsL ac 8) z9.nd)) (bd (aE (aF (nsN ac 9) (nsL ac 9) z9.nd)) (bd (aE (aF (nsN ac 10) (nsL ac 10) z9.nd)) (bd (aE (aF (nsN ac 11) (nsL ac 11) z9.nd)) (bd (aE (aF (nsN ac 12) (nsL ac 12) z9.nd)) (bd (aE (aF (nsN ac 13) (nsL ac 13) z9.nd)) fR))))))))
     (aq (dg PassesOwn.never rfl (di (ar (pvN 7 ac))) (aE (aF (nsN ac 14) (nsL ac 14) z9.nd)) (aD (aN (nsN ac 0) (nsL ac 0) z9.nd (DL.toO (DO.toL (ax cg dE (af (pvN 0 ac)) (af (pvN 14 ac))))))))
     (aq (aN (nsN ac 15) (nsL ac 15) z9.nd (DL.toO (DO.toL (aC z30 z11 (hr.mono (by decide)) (ab (ar (pvN 0 ac)) (ab (DO.toL (aY (ab (DO.toL (ax aU bC (DO.toB (aV q24 br cR T.n_len bW (aG (af (pvN 3 ac)) aS))) (DL.toB ag))) (ab (DO.toL (ax fm iN (DL.toB ag) (DL.toB ag))) (ab (DO.toL (ax aU bC (DO.toB (aV q24 br cR T.n_len bW (aG (af (pvN 3 ac)) aS))) (DL.toB ag))) (ab (DO.toL (ax fm iN (DL.toB ag) (DL.toB ag))) ai)))))) ai))))))
     (aq (aN (nsN ac 16) (nsL ac 16) z9.nd (DL.toO (DO.toL (am hr (DO.toB (ax aU bC (af (pvN 3 ac)) (DO.toB (aY (ab (DO.toL (am hr (af (pvN 15 ac)) (DL.toB ag))) ai))))) (DO.toB (am hr (af (pvN 15 ac)) (DL.toB ag)))))))
     (aq (aN (nsN ac 17) (nsL ac 17) z9.nd (DL.toO (DO.toL (am hr (DO.toB (ax aU bC (af (pvN 3 ac)) (DO.toB (aY (ab (DO.toL (am hr (af (pvN 15 ac)) (DL.toB ag))) ai))))) (DO.toB (am hr (af (pvN 15 ac)) (DL.toB ag)))))))
     (aq (bU (DW.t (nJ (g8 hr (af (pvN 8 ac)) (DO.toB (bc (ab ag (ab ag ai))))) (kL (bv (d8 hr) md (af (pvN 4 ac)) (DO.toB (bc ai)) (bf _))))) (aD (bg (am hr (DO.toB (aY (ab (DO.toL (bc (ab aP (ab (DO.toL (am hr (af (pvN 3 ac)) (af (pvN 9 ac)))) (ab (DO.toL (am hr (DO.toB (am hr (af (pvN 4 ac)) (af (pvN 10 ac)))) (DL.toB ag))) ai))))) (ab (DO.toL (bc (ab aP (ab (DO.toL (am hr (DO.toB (am hr (af (pvN 4 ac)) (af (pvN 10 ac)))) (DL.toB ag))) (ab (ar (pvN 16 ac)) ai))))) ai)))) (DO.toB (ax gz jQ (af (pvN 8 ac)) (DL.toB ag)))))) bA)
     (aq (bU (DW.t (nJ (g8 hr (af (pvN 8 ac)) (DO.toB (bc (ab ag (ab ag ai))))) (kL (bv (d8 hr) md (af (pvN 5 ac)) (DO.toB (bc ai)) (bf _))))) (aD (bg (am hr (DO.toB (aY (ab (DO.toL (bc (ab aP (ab (DO.toL (am hr (af (pvN 3 ac)) (af (pvN 9 ac)))) (ab (DO.toL (am hr (DO.toB (am hr (af (pvN 5 ac)) (af (pvN 11 ac)))) (DL.toB ag))) (ab (ar (pvN 16 ac)) ai)))))) (ab (DO.toL (bc (ab aP (ab (DO.toL (am hr (DO.toB (am hr (af (pvN 5 ac)) (af (pvN 11 ac)))) (DL.toB ag))) (ab (ar (pvN 16 ac)) (ab (ar (pvN 17 ac)) ai)))))) ai)))) (DO.toB (ax gz jQ (af (pvN 8 ac)) (DL.toB ag)))))) bA)
     (aq (bU (bv (bO hr) eT (af (pvN 8 ac)) (DL.toB ag) (bf _)) (aD (bg (bc (ab aP (ab (DO.toL (am hr (af (pvN 3 ac)) (af (pvN 9 ac)))) (ab (DO.toL (am hr (DL.toB aP) (af (pvN 12 ac)))) (ab (ar (pvN 16 ac)) (ab (ar (pvN 17 ac)) ai)))))))) bA)
     (aq (aN (nsN ac 18) (nsL ac 18) z9.nd (DL.toO (DO.toL (aY (ab (DO.toL (bc (ab aP (ab (DO.toL (am hr (af (pvN 3 ac)) (af (pvN 9 ac)))) ai)))) (ab (DO.toL (bc (ab aP (ab (ar (pvN 16 ac)) ai)))) (ab (DO.toL (bc (ab aP (ab (ar (pvN 16 ac)) (ab (ar (pvN 13 ac)) ai))))) (ab (DO.toL (bc (ab aP (ab (ar (pvN 13 ac)) ai)))) (ab (DO.toL (bc (ab aP (ab (ar (pvN 16 ac)) ai)))) ai)))))))))
     (aq (bU (bv vY pd (af (pvN 8 ac)) (DL.toB ag) (bf _)) (aD (bg (am hr (af (pvN 18 ac)) (DO.toB (ax gz jQ (af (pvN 8 ac)) (DL.toB ag)))))) bA)
     (aD (bg (bc (ab aP (ab (DO.toL (am hr (af (pvN 3 ac)) (af (pvN 9 ac)))) (ab (ar (pvN 16 ac)) ai))))))))))))))))))
abbrev z10:Stmt:=top 16
def z19:FnScope ["_law_number","_law_many","_law_letters","_law_found","_law_digits_here","_law_word"] ["_law_number","_law_many"] (aa z10):=⟨rfl,rfl,rfl,by decide +kernel,rfl,by decide +kernel,by decide +kernel⟩
def au:cC (aa z10) ["_law_number","_law_many","_law_letters","_law_found","_law_digits_here","_law_word"]=true:=by decide +kernel
def y56:aH (aa z10) "len"=true:=by decide +kernel
def z42:aH (aa z10) "_law_digits"=true:=by decide +kernel
def y53:aH (aa z10) "range"=true:=by decide +kernel
def y63 (T:Txt P w K mg) (D:DefF K mg "_law_names" z10 ["_law_number","_law_many"]) (z11:OkF P w K mg base "_law_digits" 1 ["_law_number","_law_sizes"] (spD K 2 (y8))):OkF P w K mg base "_law_names" 2 ["_law_number","_law_many"] (spD K 2 q22):=
 cm D z19 rfl fun f cdv A outer s H E hr=>(aq (aN (nsN au 2) (nsL au 2) z19.nd (DL.toO aP))
     (aq (aN (nsN au 3) (nsL au 3) z19.nd (aY ai))
     (aq (lZ 100000 PassesOwn.never (bv vX pd (DO.toB (aV y56 br cR T.n_len bW (aG (af (pvN 3 au)) aS))) (af (pvN 1 au)) (bf _)) (aq (aN (nsN au 4) (nsL au 4) z19.nd (DL.toO (DO.toL (aC z42 z11 (hr.mono (by decide)) (ab (ar (pvN 0 au)) (ab (DO.toL (aY (ab ag (ab ag (ab ag (ab ag (ab ag (ab ag (ab ag ai))))))))) ai))))))
     (aq (aN (nsN au 5) (nsL au 5) z19.nd (DL.toO (DO.toL (uJ (DL.toB aP) (aG (DO.toB (fT (M:=["_law_k","_law_letters","_law_digits_here"]) (src:=[none,some 2,some 4]) (ts:=[0]) (CmpScope.of (N:=["_law_number","_law_many","_law_letters","_law_found","_law_digits_here","_law_word"]) (outer:=aa z10) (by decide +kernel)) rfl (DIF.toB (cI y53 T.n_range (ab (DO.toL (ax aU bC (DL.toB ag) (DO.toB (am hr (af (pvN 4 au)) (DL.toB ag))))) ai))) (fun nd _ _ _ _=>(aE (bQ (N:=["_law_k","_law_letters","_law_digits_here"]) (i:=0) (by decide +kernel) (by decide +kernel) nd (scC (outer:=aa z10) (by exact rfl))))) (fun _ _ _ _=>fS) (fun _ _ _ _=>(DO.toL (am hr (af (pvD (N:=["_law_k","_law_letters","_law_digits_here"]) 1 (by decide +kernel) (scC (outer:=aa z10) rfl))) (DO.toB (am hr (af (pvD (N:=["_law_k","_law_letters","_law_digits_here"]) 2 (by decide +kernel) (scC (outer:=aa z10) rfl))) (DO.toB (ax aU bC (DL.toB ag) (af (pvD (N:=["_law_k","_law_letters","_law_digits_here"]) 0 (by decide +kernel) (scC (outer:=aa z10) rfl)))))))))) (by decide +kernel))) aS)))))
     (aq (aN (nsN au 0) (nsL au 0) z19.nd (DL.toO (DO.toL (ax cg dE (af (pvN 0 au)) (DO.toB (ax fj iM (DL.toB ag) (DO.toB (ax fm iN (DL.toB ag) (DL.toB ag)))))))))
     (aq (lZ 100000 PassesOwn.never (g8 hr (af (pvN 5 au)) (af (pvN 3 au))) (aD (aN (nsN au 5) (nsL au 5) z19.nd (DL.toO (DO.toL (ax aU bC (DO.toB (mi (af (pvN 5 au)) uG (kS (DO.toB (kU (DL.toB ag)))))) (DO.toB (am hr (af (pvN 2 au)) (DO.toB (ax cw dL (DO.toB (ax aU bC (DO.toB (sG (af (pvN 2 au)) (aG (DO.toB (am hr (af (pvN 5 au)) (DO.toB (kU (DL.toB ag))))) aS))) (DL.toB ag))) (DL.toB ag)))))))))))
     (aD (cJ (pvN 3 au) (ar (pvN 5 au)))))))))
     (aD (il (pvN 3 au))))))
abbrev q12:Stmt:=top 17
def y11:FnScope ["_law_script","_law_number","_law_count","_law_more","_law_many","_law_things","_law_cells","_law_k","_law_shelves"] ["_law_script"] (aa q12):=⟨rfl,rfl,rfl,by decide +kernel,rfl,by decide +kernel,by decide +kernel⟩
def ah:cC (aa q12) ["_law_script","_law_number","_law_count","_law_more","_law_many","_law_things","_law_cells","_law_k","_law_shelves"]=true:=by decide +kernel
def q25:aH (aa q12) "_law_big"=true:=by decide +kernel
def y41:aH (aa q12) "_law_digits"=true:=by decide +kernel
def z40:aH (aa q12) "_law_cell_at"=true:=by decide +kernel
def q28:aH (aa q12) "_law_names"=true:=by decide +kernel
def y35:aH (aa q12) "range"=true:=by decide +kernel
def z36:aH (aa q12) "tuple"=true:=by decide +kernel
def q65 (T:Txt P w K mg) (D:DefF K mg "_law_world" q12 ["_law_script"]) (y23:OkF P w K mg base "_law_big" 2 ["_law_script","_law_k"] (spD K 2 (y15))) (y12:OkF P w K mg base "_law_cell_at" 1 ["_law_script","_law_k"] (spD K 2 (y3))) (z11:OkF P w K mg base "_law_digits" 1 ["_law_number","_law_sizes"] (spD K 2 (y8))) (q33:OkF P w K mg base "_law_names" 2 ["_law_number","_law_many"] (spD K 2 (q22))):OkF P w K mg base "_law_world" 3 ["_law_script"] (spD K 1 z15):=
 cm D y11 rfl fun f cdv A outer s H E hr=>(aq (aN (nsN ah 1) (nsL ah 1) y11.nd (DL.toO (DO.toL (aC q25 y23 (hr.mono (by decide)) (ab (ar (pvN 0 ah)) (ab ag ai))))))
     (aq (kN (DO.toL (aC y41 z11 (hr.mono (by decide)) (ab (ar (pvN 1 ah)) (ab (DO.toL (aY (ab ag (ab ag (ab ag ai))))) ai)))) (nY rfl (bd (aE (aF (nsN ah 2) (nsL ah 2) y11.nd)) (bd (aE (aF (nsN ah 3) (nsL ah 3) y11.nd)) (bd (aE (aF (nsN ah 4) (nsL ah 4) y11.nd)) fR)))))
     (aq (aN (nsN ah 1) (nsL ah 1) y11.nd (DL.toO (DO.toL (ax cg dE (af (pvN 1 ah)) (DL.toB ag)))))
     (aq (aN (nsN ah 5) (nsL ah 5) y11.nd (DL.toO (DO.toL (aC q28 q33 (hr.mono (by decide)) (ab (DO.toL (aC q25 y23 (hr.mono (by decide)) (ab (ar (pvN 0 ah)) (ab (DO.toL (am hr (DO.toB (aY (ab ag (ab ag (ab ag ai))))) (DO.toB (ax cw dL (DO.toB (ax cg dE (DO.toB (aC z40 y12 (hr.mono (by decide)) (ab (ar (pvN 0 ah)) (ab ag ai)))) (DL.toB ag))) (DL.toB ag))))) ai)))) (ab ag ai))))))
     (aq (aN (nsN ah 6) (nsL ah 6) y11.nd (aY ai))
     (aq (dg PassesOwn.never rfl (cI y35 T.n_range (ab (ar (pvN 2 ah)) ai)) (aE (aF (nsN ah 7) (nsL ah 7) y11.nd)) (aq (cJ (pvN 6 ah) (DO.toL (bc (ab (DO.toL (am hr (af (pvN 5 ah)) (af (pvN 7 ah)))) (ab (DO.toL (ax cw dL (af (pvN 1 ah)) (DO.toB (ax fm iN (DL.toB ag) (DL.toB ag))))) (ab (DO.toL (kK (bO hr) eT (DO.toB (ax cw dL (DO.toB (ax cg dE (af (pvN 1 ah)) (DO.toB (ax fm iN (DL.toB ag) (DL.toB ag))))) (DL.toB ag))) (DL.toB ag) (bf _))) ai))))))
     (aD (aN (nsN ah 1) (nsL ah 1) y11.nd (DL.toO (DO.toL (ax cg dE (af (pvN 1 ah)) (DO.toB (ax fm iN (DL.toB ag) (DL.toB ag))))))))))
     (aq (aN (nsN ah 8) (nsL ah 8) y11.nd (aY ai))
     (aq (dg PassesOwn.never rfl (cI y35 T.n_range (ab (ar (pvN 3 ah)) ai)) (aE (aF (nsN ah 7) (nsL ah 7) y11.nd)) (aq (cJ (pvN 8 ah) (DO.toL (bc (ab (DO.toL (am hr (af (pvN 5 ah)) (DO.toB (ax aU bC (DL.toB ag) (af (pvN 7 ah)))))) (ab (DO.toL (ax aU bC (DL.toB ag) (DO.toB (ax cw dL (af (pvN 1 ah)) (DL.toB ag))))) (ab (DO.toL (kK (bO hr) eT (DO.toB (ax cw dL (DO.toB (ax cg dE (af (pvN 1 ah)) (DL.toB ag))) (DL.toB ag))) (DL.toB ag) (bf _))) ai))))))
     (aD (aN (nsN ah 1) (nsL ah 1) y11.nd (DL.toO (DO.toL (ax cg dE (af (pvN 1 ah)) (DL.toB ag))))))))
     (aD (bg (bc (ab (DO.toL (aC q28 q33 (hr.mono (by decide)) (ab (DO.toL (aC q25 y23 (hr.mono (by decide)) (ab (ar (pvN 0 ah)) (ab ag ai)))) (ab (DO.toL (ax aU bC (DL.toB ag) (af (pvN 4 ah)))) ai)))) (ab (DO.toL (iL z36 df kW T.n_tuple iD (aG (af (pvN 6 ah)) aS))) (ab (DO.toL (iL z36 df kW T.n_tuple iD (aG (af (pvN 8 ah)) aS))) (ab (ar (pvN 1 ah)) ai)))))))))))))))
abbrev z3:Stmt:=top 19
def q15:FnScope ["_law_script","_law_most","_law_world_here","_law_many","_law_rows","_law_last","_law_goal","_law_box","_law_number"] ["_law_script","_law_most"] (aa z3):=⟨rfl,rfl,rfl,by decide +kernel,rfl,by decide +kernel,by decide +kernel⟩
def ak:cC (aa z3) ["_law_script","_law_most","_law_world_here","_law_many","_law_rows","_law_last","_law_goal","_law_box","_law_number"]=true:=by decide +kernel
def q41:aH (aa z3) "_law_world"=true:=by decide +kernel
def z35:aH (aa z3) "len"=true:=by decide +kernel
def y52:aH (aa z3) "min"=true:=by decide +kernel
def q52:aH (aa z3) "max"=true:=by decide +kernel
def z49:aH (aa z3) "range"=true:=by decide +kernel
def z39:aH (aa z3) "_law_digits"=true:=by decide +kernel
def y47:aH (aa z3) "tuple"=true:=by decide +kernel
def q58 (T:Txt P w K mg) (D:DefF K mg "_law_program" z3 ["_law_script","_law_most"]) (y23:OkF P w K mg base "_law_big" 2 ["_law_script","_law_k"] (spD K 2 (y15))) (z11:OkF P w K mg base "_law_digits" 1 ["_law_number","_law_sizes"] (spD K 2 (y8))) (z50:OkF P w K mg base "_law_row" 2 ["_law_number","_law_world_here","_law_many"] (spD K 3 (y32))) (z26:OkF P w K mg base "_law_world" 3 ["_law_script"] (spD K 1 (z15))):OkF P w K mg base "_law_program" 4 ["_law_script","_law_most"] (spD K 2 q14):=
 cm D q15 rfl fun f cdv A outer s H E hr=>(aq (aN (nsN ak 2) (nsL ak 2) q15.nd (DL.toO (DO.toL (aC q41 z26 (hr.mono (by decide)) (ab (ar (pvN 0 ak)) ai)))))
     (aq (aN (nsN ak 3) (nsL ak 3) q15.nd (DL.toO (DO.toL (aV q52 (gT rfl) sB T.n_max nG (aG (DL.toB ag) (aG (DO.toB (aV y52 (qq rfl) zZ T.n_min xC (aG (DO.toB (ax gz jQ (DO.toB (aV z35 br cR T.n_len bW (aG (af (pvN 0 ak)) aS))) (DL.toB ag))) (aG (DO.toB (ax aU bC (DL.toB ag) (af (pvN 1 ak)))) aS)))) aS))))))
     (aq (uQ (nsN ak 4) (nsL ak 4) q15.nd (M:=["_law_k","_law_script","_law_world_here","_law_many"]) (src:=[none,some 0,some 2,some 3]) (ts:=[0]) (CmpScope.of (N:=["_law_script","_law_most","_law_world_here","_law_many","_law_rows","_law_last","_law_goal","_law_box","_law_number"]) (outer:=aa z3) (by decide +kernel)) rfl (DIF.toB (cI z49 T.n_range (ab (DO.toL (ax gz jQ (af (pvN 3 ak)) (DL.toB ag))) ai))) (fun nd _ _ _ _=>(aE (bQ (N:=["_law_k","_law_script","_law_world_here","_law_many"]) (i:=0) (by decide +kernel) (by decide +kernel) nd (scC (outer:=aa z3) (by exact rfl))))) (fun _ _ _ _=>fS) (fun _ _ _ _=>(DO.toL (aC (by decide +kernel) z50 (hr.mono (by decide)) (ab (DO.toL (aC (by decide +kernel) y23 (hr.mono (by decide)) (ab (ar (pvD (N:=["_law_k","_law_script","_law_world_here","_law_many"]) 1 (by decide +kernel) (scC (outer:=aa z3) rfl))) (ab (DO.toL (ax aU bC (DL.toB ag) (af (pvD (N:=["_law_k","_law_script","_law_world_here","_law_many"]) 0 (by decide +kernel) (scC (outer:=aa z3) rfl))))) ai)) (e1:=(scC (outer:=aa z3) rfl)))) (ab (ar (pvD (N:=["_law_k","_law_script","_law_world_here","_law_many"]) 2 (by decide +kernel) (scC (outer:=aa z3) rfl))) (ab (ar (pvD (N:=["_law_k","_law_script","_law_world_here","_law_many"]) 3 (by decide +kernel) (scC (outer:=aa z3) rfl))) ai))) (e1:=(scC (outer:=aa z3) rfl))))) (by decide +kernel))
     (aq (kN (DO.toL (aC z39 z11 (hr.mono (by decide)) (ab (DO.toL (am hr (af (pvN 2 ak)) (DL.toB ag))) (ab (DO.toL (aY (ab ag (ab (ar (pvN 3 ak)) (ab (DO.toL (ax aU bC (DO.toB (aV z35 br cR T.n_len bW (aG (DO.toB (am hr (af (pvN 2 ak)) (DL.toB ag))) aS))) (DL.toB ag))) (ab (DO.toL (ax fm iN (DL.toB ag) (DL.toB ag))) ai)))))) ai)))) (nY rfl (bd (aE (aF (nsN ak 5) (nsL ak 5) q15.nd)) (bd (aE (aF (nsN ak 6) (nsL ak 6) q15.nd)) (bd (aE (aF (nsN ak 7) (nsL ak 7) q15.nd)) (bd (aE (aF (nsN ak 8) (nsL ak 8) q15.nd)) fR))))))
     (aq (cJ (pvN 4 ak) (DO.toL (am hr (DO.toB (aY (ab (DO.toL (bc (ab aP (ab (DO.toL (am hr (DO.toB (ax aU bC (DO.toB (am hr (af (pvN 2 ak)) (DL.toB ag))) (DO.toB (aY (ab (ar (pvN 8 ak)) ai))))) (af (pvN 7 ak)))) ai)))) (ab (DO.toL (bc (ab aP (ab (ar (pvN 6 ak)) ai)))) ai)))) (af (pvN 5 ak)))))
     (aD (bg (bc (ab (DO.toL (am hr (af (pvN 2 ak)) (DL.toB ag))) (ab (DO.toL (am hr (af (pvN 2 ak)) (DL.toB ag))) (ab (DO.toL (iL y47 df kW T.n_tuple iD (aG (af (pvN 4 ak)) aS))) ai)))))))))))
abbrev y27:Stmt:=top 1
def y68:FnScope ["number","row"] ["number","row"] (aa y27):=⟨rfl,rfl,rfl,by decide +kernel,rfl,by decide +kernel,by decide +kernel⟩
def bY:cC (aa y27) ["number","row"]=true:=by decide +kernel
def q69 (T:Txt P w K mg) (D:DefF K mg "ways_of" y27 ["number","row"]):OkF P w K mg base "ways_of" 1 ["number","row"] (spD K 2 y39):=
 cm D y68 rfl fun f cdv A outer s H E hr=>(aq (bU (bv (bO hr) eT (DO.toB (am hr (af (pvN 1 bY)) (DL.toB ag))) (DL.toB aP) (bf _)) (aD (bg (bc (ab (DO.toL (am hr (af (pvN 1 bY)) (DL.toB ag))) ai)))) bA)
     (aq (bU (bv (bO hr) eT (DO.toB (am hr (af (pvN 1 bY)) (DL.toB ag))) (DL.toB aP) (bf _)) (aD (bg (bc (ab (DO.toL (am hr (af (pvN 1 bY)) (DL.toB ag))) (ab (DO.toL (ax aU bC (af (pvN 0 bY)) (DL.toB ag))) ai))))) bA)
     (aq (bU (bv (bO hr) eT (DO.toB (am hr (af (pvN 1 bY)) (DL.toB ag))) (DL.toB aP) (bf _)) (aD (bg (bc ai))) bA)
     (aD (bg (bc (ab (DO.toL (ax aU bC (af (pvN 0 bY)) (DL.toB ag))) ai)))))))
abbrev cj:Stmt:=top 2
def q71:FnScope ["program"] ["program"] (aa cj):=⟨rfl,rfl,rfl,by decide +kernel,rfl,by decide +kernel,by decide +kernel⟩
def u5:cC (aa cj) ["program"]=true:=by decide +kernel
def z55:aH (aa cj) "enumerate"=true:=by decide +kernel
def z71 (T:Txt P w K mg) (D:DefF K mg "ways" cj ["program"]) (q54:OkF P w K mg base "ways_of" 1 ["number","row"] (spD K 2 (y39))):OkF P w K mg base "ways" 2 ["program"] (spD K 1 fE):=
 cm D q71 rfl fun f cdv A outer s H E hr=>(aD (bg (fT (M:=["number","row"]) (src:=[none,none]) (ts:=[0,1]) (CmpScope.of (N:=["program"]) (outer:=aa cj) (by decide +kernel)) rfl (DIF.toB (kY z55 T.n_enumerate (ab (DO.toL (am hr (af (pvN 0 u5)) (DL.toB ag))) ai))) (fun nd _ _ _ _=>(rP rfl (bd (aE (bQ (N:=["number","row"]) (i:=0) (by decide +kernel) (by decide +kernel) nd (scC (outer:=aa cj) (by exact rfl)))) (bd (aE (bQ (N:=["number","row"]) (i:=1) (by decide +kernel) (by decide +kernel) nd (scC (outer:=aa cj) (by exact rfl)))) fR)))) (fun _ _ _ _=>fS) (fun _ _ _ _=>(DO.toL (aC (by decide +kernel) q54 (hr.mono (by decide)) (ab (ar (pvD (N:=["number","row"]) 0 (by decide +kernel) (scC (outer:=aa cj) rfl))) (ab (ar (pvD (N:=["number","row"]) 1 (by decide +kernel) (scC (outer:=aa cj) rfl))) ai)) (e1:=(scC (outer:=aa cj) rfl))))) (by decide +kernel))))
abbrev q32:Stmt:=top 8
def y69:FnScope ["row"] ["row"] (aa q32):=⟨rfl,rfl,rfl,by decide +kernel,rfl,by decide +kernel,by decide +kernel⟩
def mQ:cC (aa q32) ["row"]=true:=by decide +kernel
def y57:aH (aa q32) "SETTING"=true:=by decide +kernel
def z70 (T:Txt P w K mg) (D:DefF K mg "gives" q32 ["row"]):OkF P w K mg base "gives" 1 ["row"] (spD K 1 z47):=
 cm D y69 rfl fun f cdv A outer s H E hr=>(aD (bg (zQ (g8 hr (DO.toB (am hr (af (pvN 0 mQ)) (DL.toB ag))) (DL.toB (uH y57 T.g_SETTING))) (am hr (af (pvN 0 mQ)) (DL.toB ag)) (DL.toO rJ))))
abbrev z32:Stmt:=top 6
def q66:FnScope ["row","bounds"] ["row"] (aa z32):=⟨rfl,rfl,rfl,by decide +kernel,rfl,by decide +kernel,by decide +kernel⟩
def cU:cC (aa z32) ["row","bounds"]=true:=by decide +kernel
def y34:aH (aa z32) "ATOM_PLACES"=true:=by decide +kernel
def y70 (T:Txt P w K mg) (D:DefF K mg "atoms" z32 ["row"]):OkF P w K mg base "atoms" 1 ["row"] (spD K 1 q47):=
 cm D q66 rfl fun f cdv A outer s H E hr=>(aq (bU (xP y34 T.g_ATOM_PLACES (DO.toB (am hr (af (pvN 0 cU)) (DL.toB ag)))) (aD (bg (bc ai))) bA)
     (aq (aN (nsN cU 1) (nsL cU 1) q66.nd (DL.toO (DO.toL (zV y34 T.g_ATOM_PLACES (DO.toB (am hr (af (pvN 0 cU)) (DL.toB ag)))))))
     (aD (bg (mi (af (pvN 0 cU)) (kS (DO.toB (am hr (af (pvN 1 cU)) (DL.toB ag)))) (kS (DO.toB (am hr (af (pvN 1 cU)) (DL.toB ag)))))))))
abbrev z27:Stmt:=top 7
def z57:FnScope ["row","boxes","atom"] ["row"] (aa z27):=⟨rfl,rfl,rfl,by decide +kernel,rfl,by decide +kernel,by decide +kernel⟩
def bK:cC (aa z27) ["row","boxes","atom"]=true:=by decide +kernel
def y62:aH (aa z27) "atoms"=true:=by decide +kernel
def z52:aH (aa z27) "isinstance"=true:=by decide +kernel
def y65:aH (aa z27) "str"=true:=by decide +kernel
def q70 (T:Txt P w K mg) (D:DefF K mg "reads" z27 ["row"]) (y61:OkF P w K mg base "atoms" 1 ["row"] (spD K 1 (q47))):OkF P w K mg base "reads" 2 ["row"] (spD K 1 q48):=
 cm D z57 rfl fun f cdv A outer s H E hr=>(aq (aN (nsN bK 1) (nsL bK 1) z57.nd (aY ai))
     (aq (dg PassesOwn.never rfl (di (DO.toL (aC y62 y61 (hr.mono (by decide)) (ab (ar (pvN 0 bK)) ai)))) (aE (aF (nsN bK 2) (nsL bK 2) z57.nd)) (aD (bU (DW.t (nJ (du (DO.toB (eF z52 y65 T.n_isinstance T.n_str rA T.k_str (af (pvN 2 bK)))) (fun _=>rfl)) (kL (ml hr (af (pvN 2 bK)) (af (pvN 1 bK)))))) (aD (cJ (pvN 1 bK) (ar (pvN 2 bK)))) bA)))
     (aD (il (pvN 1 bK)))))
abbrev z8:Stmt:=top 9
def z34:FnScope ["row","behind","boxes","later"] ["row","behind"] (aa z8):=⟨rfl,rfl,rfl,by decide +kernel,rfl,by decide +kernel,by decide +kernel⟩
def aW:cC (aa z8) ["row","behind","boxes","later"]=true:=by decide +kernel
def y48:aH (aa z8) "reads"=true:=by decide +kernel
def z46:aH (aa z8) "sorted"=true:=by decide +kernel
def y51:aH (aa z8) "set"=true:=by decide +kernel
def y58 (T:Txt P w K mg) (D:DefF K mg "needed_ahead" z8 ["row","behind"]) (z62:OkF P w K mg base "gives" 1 ["row"] (spD K 1 (z47))) (y60:OkF P w K mg base "reads" 2 ["row"] (spD K 1 (q48))):OkF P w K mg base "needed_ahead" 3 ["row","behind"] (spD K 2 y17):=
 cm D z34 rfl fun f cdv A outer s H E hr=>(aq (aN (nsN aW 2) (nsL aW 2) z34.nd (aC y48 y60 (hr.mono (by decide)) (ab (ar (pvN 0 aW)) ai)))
     (aq (dg PassesOwn.never rfl (di (ar (pvN 1 aW))) (aE (aF (nsN aW 3) (nsL aW 3) z34.nd)) (aD (qz (pvN 2 aW) (fT (M:=["box","row"]) (src:=[none,some 0]) (ts:=[0]) (CmpScope.of (N:=["row","behind","boxes","later"]) (outer:=aa z8) (by decide +kernel)) rfl (kO (af (pvN 3 aW))) (fun nd _ _ _ _=>(aE (bQ (N:=["box","row"]) (i:=0) (by decide +kernel) (by decide +kernel) nd (scC (outer:=aa z8) (by exact rfl))))) (fun _ _ _ _=>kP (bv (d8 hr) md (af (pvD (N:=["box","row"]) 0 (by decide +kernel) (scC (outer:=aa z8) rfl))) (DO.toB (aC (by decide +kernel) z62 (hr.mono (by decide)) (ab (ar (pvD (N:=["box","row"]) 1 (by decide +kernel) (scC (outer:=aa z8) rfl))) ai) (e1:=(scC (outer:=aa z8) rfl)))) (bf _))) (fun _ _ _ _=>(ar (pvD (N:=["box","row"]) 0 (by decide +kernel) (scC (outer:=aa z8) rfl)))) (by decide +kernel)))))
     (aD (bg (n8 z46 y51 rfl T.n_sorted T.n_set (aG (af (pvN 2 aW)) aS))))))
abbrev z13:Stmt:=top 10
def z24:FnScope ["program","rows","onward","found","changed","number","boxes"] ["program"] (aa z13):=⟨rfl,rfl,rfl,by decide +kernel,rfl,by decide +kernel,by decide +kernel⟩
def aB:cC (aa z13) ["program","rows","onward","found","changed","number","boxes"]=true:=by decide +kernel
def z60:aH (aa z13) "ways"=true:=by decide +kernel
def z63:aH (aa z13) "len"=true:=by decide +kernel
def z58:aH (aa z13) "range"=true:=by decide +kernel
def y46:aH (aa z13) "needed_ahead"=true:=by decide +kernel
def z69 (T:Txt P w K mg) (D:DefF K mg "needed" z13 ["program"]) (h_ways:OkF P w K mg base "ways" 2 ["program"] (spD K 1 (fE))) (z37:OkF P w K mg base "needed_ahead" 3 ["row","behind"] (spD K 2 (y17))):OkF P w K mg base "needed" 4 ["program"] (spG K 1 (y24)):=
 pk D z24 rfl fun f cdv A outer s H E hr=>(aZ (ce (nsN aB 1) (nsL aB 1) z24.nd (bi (DO.toL (am hr (af (pvN 0 aB)) (DL.toB ag)))))
     (aZ (ce (nsN aB 2) (nsL aB 2) z24.nd (bi (DO.toL (aC z60 h_ways (hr.mono (by decide)) (ab (ar (pvN 0 aB)) ai)))))
     (aZ (ce (nsN aB 3) (nsL aB 3) z24.nd (pp (M:=["row"]) (src:=[none]) (ts:=[0]) (CmpScope.of (N:=["program","rows","onward","found","changed","number","boxes"]) (outer:=aa z13) (by decide +kernel)) rfl (di (ar (pvN 1 aB))) (fun nd _ _ _ _=>(aE (bQ (N:=["row"]) (i:=0) (by decide +kernel) (by decide +kernel) nd (scC (outer:=aa z13) (by exact rfl))))) (fun _ _ _ _=>fS) (fun _ _ _ _=>(sh (aY ai))) (by decide +kernel)))
     (aZ (ce (nsN aB 4) (nsL aB 4) z24.nd (bi dJ))
     (aZ (my 100000 PassesOwn.never (iQ (du (af (pvN 4 aB)) (fun _=>rfl))) (aZ (ce (nsN aB 4) (nsL aB 4) z24.nd (bi dJ))
     (bP (lg PassesOwn.never rfl (j3 z58 T.n_range (ab (DO.toL (ax gz jQ (DO.toB (aV z63 br cR T.n_len bW (aG (af (pvN 1 aB)) aS))) (DL.toB ag))) (ab (DO.toL (kU (DL.toB ag))) (ab (DO.toL (kU (DL.toB ag))) ai)))) (aE (aF (nsN aB 5) (nsL aB 5) z24.nd)) (aZ (ce (nsN aB 6) (nsL aB 6) z24.nd (Ac 2 (aC y46 z37 (hr.mono (by decide)) (ab (DO.toL (am hr (af (pvN 1 aB)) (af (pvN 5 aB)))) (ab (DO.toL (fT (M:=["way","found"]) (src:=[none,some 3]) (ts:=[0]) (CmpScope.of (N:=["program","rows","onward","found","changed","number","boxes"]) (outer:=aa z13) (by decide +kernel)) rfl (kO (DO.toB (am hr (af (pvN 2 aB)) (af (pvN 5 aB))))) (fun nd _ _ _ _=>(aE (bQ (N:=["way","found"]) (i:=0) (by decide +kernel) (by decide +kernel) nd (scC (outer:=aa z13) (by exact rfl))))) (fun _ _ _ _=>fS) (fun _ _ _ _=>(DO.toL (am hr (af (pvD (N:=["way","found"]) 1 (by decide +kernel) (scC (outer:=aa z13) rfl))) (af (pvD (N:=["way","found"]) 0 (by decide +kernel) (scC (outer:=aa z13) rfl)))))) (by decide +kernel))) ai)))))
     (bP (iS (sI 2 (bv (d8 hr) md (af (pvN 6 aB)) (DO.toB (am hr (af (pvN 3 aB)) (af (pvN 5 aB)))) (bf _))) (aZ (sj hr (cB (pvN 3 aB)) (bi (ar (pvN 5 aB))) (cB (pvN 6 aB)))
     (bP (ce (nsN aB 4) (nsL aB 4) z24.nd (bi dJ)))) fw)))))))
     (bP (fA (cB (pvN 3 aB)))))))))
abbrev y22:Stmt:=top 20
def z64:FnScope ["_law_rows","_law_at"] ["_law_rows","_law_at"] (aa y22):=⟨rfl,rfl,rfl,by decide +kernel,rfl,by decide +kernel,by decide +kernel⟩
def aR:cC (aa y22) ["_law_rows","_law_at"]=true:=by decide +kernel
def z65 (T:Txt P w K mg) (D:DefF K mg "_law_exits" y22 ["_law_rows","_law_at"]):OkF P w K mg base "_law_exits" 1 ["_law_rows","_law_at"] (spD K 2 y16):=
 cm D z64 rfl fun f cdv A outer s H E hr=>(aq (bU (bv (bO hr) eT (DO.toB (am hr (DO.toB (am hr (af (pvN 0 aR)) (af (pvN 1 aR)))) (DL.toB ag))) (DL.toB aP) (bf _)) (aD (bg (aY ai))) bA)
     (aq (bU (bv (bO hr) eT (DO.toB (am hr (DO.toB (am hr (af (pvN 0 aR)) (af (pvN 1 aR)))) (DL.toB ag))) (DL.toB aP) (bf _)) (aD (bg (aY (ab (DO.toL (am hr (DO.toB (am hr (af (pvN 0 aR)) (af (pvN 1 aR)))) (DL.toB ag))) ai)))) bA)
     (aq (bU (bv (bO hr) eT (DO.toB (am hr (DO.toB (am hr (af (pvN 0 aR)) (af (pvN 1 aR)))) (DL.toB ag))) (DL.toB aP) (bf _)) (aD (bg (aY (ab (DO.toL (am hr (DO.toB (am hr (af (pvN 0 aR)) (af (pvN 1 aR)))) (DL.toB ag))) (ab (DO.toL (ax aU bC (af (pvN 1 aR)) (DL.toB ag))) ai))))) bA)
     (aD (bg (aY (ab (DO.toL (ax aU bC (af (pvN 1 aR)) (DL.toB ag))) ai)))))))
abbrev y10:Stmt:=top 21
def q17:FnScope ["_law_row_here","_law_atoms"] ["_law_row_here"] (aa y10):=⟨rfl,rfl,rfl,by decide +kernel,rfl,by decide +kernel,by decide +kernel⟩
def ap:cC (aa y10) ["_law_row_here","_law_atoms"]=true:=by decide +kernel
def y59 (T:Txt P w K mg) (D:DefF K mg "_law_read_by" y10 ["_law_row_here"]):OkF P w K mg base "_law_read_by" 1 ["_law_row_here"] (spD K 1 z14):=
 cm D q17 rfl fun f cdv A outer s H E hr=>(aq (aN (nsN ap 1) (nsL ap 1) q17.nd (DL.toO (DO.toL (aY ai))))
     (aq (bU (g8 hr (DO.toB (am hr (af (pvN 0 ap)) (DL.toB ag))) (DO.toB (bc (ab aP (ab aP ai))))) (aD (aN (nsN ap 1) (nsL ap 1) q17.nd (DL.toO (DO.toL (aY (ab (DO.toL (am hr (af (pvN 0 ap)) (DL.toB ag))) ai)))))) bA)
     (aq (bU (bv (bO hr) eT (DO.toB (am hr (af (pvN 0 ap)) (DL.toB ag))) (DL.toB aP) (bf _)) (aD (aN (nsN ap 1) (nsL ap 1) q17.nd (DL.toO (DO.toL (aY (ab (DO.toL (am hr (af (pvN 0 ap)) (DL.toB ag))) (ab (DO.toL (am hr (af (pvN 0 ap)) (DL.toB ag))) ai))))))) bA)
     (aq (bU (bv (bO hr) eT (DO.toB (am hr (af (pvN 0 ap)) (DL.toB ag))) (DL.toB aP) (bf _)) (aD (aN (nsN ap 1) (nsL ap 1) q17.nd (DL.toO (DO.toL (aY (ab (DO.toL (am hr (af (pvN 0 ap)) (DL.toB ag))) ai)))))) bA)
     (aq (bU (bv (bO hr) eT (DO.toB (am hr (af (pvN 0 ap)) (DL.toB ag))) (DL.toB aP) (bf _)) (aD (aN (nsN ap 1) (nsL ap 1) q17.nd (DL.toO (DO.toL (aY (ab (DO.toL (am hr (af (pvN 0 ap)) (DL.toB ag))) (ab (DO.toL (am hr (af (pvN 0 ap)) (DL.toB ag))) ai))))))) bA)
     (aq (bU (g8 hr (DO.toB (am hr (af (pvN 0 ap)) (DL.toB ag))) (DO.toB (bc (ab aP (ab aP (ab aP ai)))))) (aD (aN (nsN ap 1) (nsL ap 1) q17.nd (DL.toO (DO.toL (aY (ab (DO.toL (am hr (af (pvN 0 ap)) (DL.toB ag))) ai)))))) bA)
     (aD (bg (fT (M:=["_law_atom"]) (src:=[none]) (ts:=[0]) (CmpScope.of (N:=["_law_row_here","_law_atoms"]) (outer:=aa y10) (by decide +kernel)) rfl (kO (af (pvN 1 ap))) (fun nd _ _ _ _=>(aE (bQ (N:=["_law_atom"]) (i:=0) (by decide +kernel) (by decide +kernel) nd (scC (outer:=aa y10) (by exact rfl))))) (fun _ _ _ _=>kP (du (DO.toB (eF (by decide +kernel) (by decide +kernel) T.n_isinstance T.n_str rA T.k_str (af (pvD (N:=["_law_atom"]) 0 (by decide +kernel) (scC (outer:=aa y10) rfl))) (e1:=(scC (outer:=aa y10) rfl)))) (fun _=>rfl))) (fun _ _ _ _=>(ar (pvD (N:=["_law_atom"]) 0 (by decide +kernel) (scC (outer:=aa y10) rfl)))) (by decide +kernel))))))))))
abbrev q19:Stmt:=top 22
def q61:FnScope ["_law_row_here"] ["_law_row_here"] (aa q19):=⟨rfl,rfl,rfl,by decide +kernel,rfl,by decide +kernel,by decide +kernel⟩
def eh:cC (aa q19) ["_law_row_here"]=true:=by decide +kernel
def q62 (T:Txt P w K mg) (D:DefF K mg "_law_set_by" q19 ["_law_row_here"]):OkF P w K mg base "_law_set_by" 1 ["_law_row_here"] (spD K 1 z17):=
 cm D q61 rfl fun f cdv A outer s H E hr=>(aq (bU (g8 hr (DO.toB (am hr (af (pvN 0 eh)) (DL.toB ag))) (DO.toB (bc (ab aP (ab aP (ab aP (ab aP (ab aP ai)))))))) (aD (bg (am hr (af (pvN 0 eh)) (DL.toB ag)))) bA)
     (aD (bg (DL.toO rJ))))
abbrev z12:Stmt:=top 24
def q27:FnScope ["_law_rows","_law_found","_law_at","_law_due","_law_box","_law_to"] ["_law_rows","_law_found","_law_at"] (aa z12):=⟨rfl,rfl,rfl,by decide +kernel,rfl,by decide +kernel,by decide +kernel⟩
def av:cC (aa z12) ["_law_rows","_law_found","_law_at","_law_due","_law_box","_law_to"]=true:=by decide +kernel
def q40:aH (aa z12) "_law_read_by"=true:=by decide +kernel
def q44:aH (aa z12) "_law_exits"=true:=by decide +kernel
def q42:aH (aa z12) "_law_set_by"=true:=by decide +kernel
def y50:aH (aa z12) "sorted"=true:=by decide +kernel
def q45:aH (aa z12) "isinstance"=true:=by decide +kernel
def z54:aH (aa z12) "list"=true:=by decide +kernel
def y64 (T:Txt P w K mg) (D:DefF K mg "_law_equal" z12 ["_law_rows","_law_found","_law_at"]) (q26:OkF P w K mg base "_law_exits" 1 ["_law_rows","_law_at"] (spD K 2 (y16))) (y20:OkF P w K mg base "_law_read_by" 1 ["_law_row_here"] (spD K 1 (z14))) (q23:OkF P w K mg base "_law_set_by" 1 ["_law_row_here"] (spD K 1 (z17))):OkF P w K mg base "_law_equal" 2 ["_law_rows","_law_found","_law_at"] (spD K 3 y25):=
 cm D q27 rfl fun f cdv A outer s H E hr=>(aq (aN (nsN av 3) (nsL av 3) q27.nd uK)
     (aq (dg PassesOwn.never rfl (di (DO.toL (aC q40 y20 (hr.mono (by decide)) (ab (DO.toL (am hr (af (pvN 0 av)) (af (pvN 2 av)))) ai)))) (aE (aF (nsN av 4) (nsL av 4) q27.nd)) (aD (r6 hr (pvN 3 av) (af (pvN 4 av)) dJ)))
     (aq (dg PassesOwn.never rfl (di (DO.toL (aC q44 q26 (hr.mono (by decide)) (ab (ar (pvN 0 av)) (ab (ar (pvN 2 av)) ai))))) (aE (aF (nsN av 5) (nsL av 5) q27.nd)) (aD (dg PassesOwn.never rfl (di (DO.toL (am hr (af (pvN 1 av)) (af (pvN 5 av))))) (aE (aF (nsN av 4) (nsL av 4) q27.nd)) (aD (bU (bv (d8 hr) md (af (pvN 4 av)) (DO.toB (aC q42 q23 (hr.mono (by decide)) (ab (DO.toL (am hr (af (pvN 0 av)) (af (pvN 2 av)))) ai))) (bf _)) (aD (r6 hr (pvN 3 av) (af (pvN 4 av)) dJ)) bA)))))
     (aD (bg (xJ (DO.toB (eF q45 z54 T.n_isinstance T.n_list kF T.k_list (DO.toB (am hr (af (pvN 1 av)) (af (pvN 2 av)))))) (xI (kK (bO hr) eT (DO.toB (am hr (af (pvN 1 av)) (af (pvN 2 av)))) (DO.toB (aV y50 (lu rfl) u3 T.n_sorted jG (aG (af (pvN 3 av)) aS))) (bf _)))))))))
abbrev y9:Stmt:=top 23
def y19:FnScope ["_law_rows","_law_at","_law_box","_law_seen","_law_left","_law_here","_law_to"] ["_law_rows","_law_at","_law_box"] (aa y9):=⟨rfl,rfl,rfl,by decide +kernel,rfl,by decide +kernel,by decide +kernel⟩
def aj:cC (aa y9) ["_law_rows","_law_at","_law_box","_law_seen","_law_left","_law_here","_law_to"]=true:=by decide +kernel
def q50:aH (aa y9) "len"=true:=by decide +kernel
def y33:aH (aa y9) "_law_read_by"=true:=by decide +kernel
def q35:aH (aa y9) "_law_set_by"=true:=by decide +kernel
def q37:aH (aa y9) "_law_exits"=true:=by decide +kernel
def q56 (T:Txt P w K mg) (D:DefF K mg "_law_is_needed" y9 ["_law_rows","_law_at","_law_box"]) (y20:OkF P w K mg base "_law_read_by" 1 ["_law_row_here"] (spD K 1 (z14))) (q23:OkF P w K mg base "_law_set_by" 1 ["_law_row_here"] (spD K 1 (z17))) (q26:OkF P w K mg base "_law_exits" 1 ["_law_rows","_law_at"] (spD K 2 (y16))):OkF P w K mg base "_law_is_needed" 2 ["_law_rows","_law_at","_law_box"] (spG K 3 (q13)):=
 pk D y19 rfl fun f cdv A outer s H E hr=>(aZ (ce (nsN aj 3) (nsL aj 3) y19.nd (uV (fps:=[((eD (vL 1)),(eD (kD (.bl true))))]) (sr (bi (ar (pvN 1 aj))) (bi dJ) uX) rfl rfl (by simp) (by decide)))
     (aZ (ce (nsN aj 4) (nsL aj 4) y19.nd (sh (aY (ab (ar (pvN 1 aj)) ai))))
     (aZ (my 100000 PassesOwn.never (iQ (bv vY pd (DO.toB (aV q50 br cR T.n_len bW (aG (af (pvN 4 aj)) aS))) (DL.toB ag) (bf _))) (aZ (ce (nsN aj 5) (nsL aj 5) y19.nd (u2 (cB (pvN 4 aj))))
     (aZ (iS (iQ (g8 hr (af (pvN 2 aj)) (DO.toB (aC y33 y20 (hr.mono (by decide)) (ab (DO.toL (am hr (af (pvN 0 aj)) (af (pvN 5 aj)))) ai))))) (bP (fA (bi dJ))) fw)
     (bP (iS (iQ (bv (d8 hr) md (DO.toB (aC q35 q23 (hr.mono (by decide)) (ab (DO.toL (am hr (af (pvN 0 aj)) (af (pvN 5 aj)))) ai))) (af (pvN 2 aj)) (bf _))) (bP (lg PassesOwn.never rfl (di (DO.toL (aC q37 q26 (hr.mono (by decide)) (ab (ar (pvN 0 aj)) (ab (ar (pvN 5 aj)) ai))))) (aE (aF (nsN aj 6) (nsL aj 6) y19.nd)) (bP (iS (iQ (ml hr (af (pvN 6 aj)) (af (pvN 3 aj)))) (aZ (sj hr (cB (pvN 3 aj)) (bi (ar (pvN 6 aj))) (bi dJ))
     (bP (gK (cB (pvN 4 aj)) (bi (ar (pvN 6 aj)))))) fw)))) fw)))))
     (bP (fA (bi dJ))))))
abbrev bt:Stmt:=top 25
def sc_law:FnScope ["_law_script","_law_program_here","_law_rows","_law_boxes","_law_found","_law_at","_law_told"] ["_law_script"] (aa bt):=⟨rfl,rfl,rfl,by decide +kernel,rfl,by decide +kernel,by decide +kernel⟩
def aO:cC (aa bt) ["_law_script","_law_program_here","_law_rows","_law_boxes","_law_found","_law_at","_law_told"]=true:=by decide +kernel
def q36:aH (aa bt) "_law_program"=true:=by decide +kernel
def y55:aH (aa bt) "_law_world"=true:=by decide +kernel
def z51:aH (aa bt) "needed"=true:=by decide +kernel
def z41:aH (aa bt) "len"=true:=by decide +kernel
def q57:aH (aa bt) "isinstance"=true:=by decide +kernel
def q67:aH (aa bt) "list"=true:=by decide +kernel
def y54:aH (aa bt) "range"=true:=by decide +kernel
def z56:aH (aa bt) "_law_equal"=true:=by decide +kernel
def q53:aH (aa bt) "_law_cell_at"=true:=by decide +kernel
def q64:aH (aa bt) "sorted"=true:=by decide +kernel
def xZ {f:Addr} {fd:FuncData} (T:Txt P w K mg) (D:Fun K "law" "law" bt f fd) (y29:OkF P w K mg base "_law_program" 4 ["_law_script","_law_most"] (spD K 2 (q14))) (q51:OkF P w K mg base "needed" 4 ["program"] (spG K 1 (y24))) (z26:OkF P w K mg base "_law_world" 3 ["_law_script"] (spD K 1 (z15))) (y43:OkF P w K mg base "_law_equal" 2 ["_law_rows","_law_found","_law_at"] (spD K 3 (y25))) (y12:OkF P w K mg base "_law_cell_at" 1 ["_law_script","_law_k"] (spD K 2 (y3))) (y31:OkF P w K mg base "_law_is_needed" 2 ["_law_rows","_law_at","_law_box"] (spG K 3 (q13))):FnOk P w K mg base CX0 5 f fd ["_law_script"] (spG K 1 pC):=
 sk D sc_law rfl fun cdv A outer s H E hr=>(aZ (ce (nsN aO 1) (nsL aO 1) sc_law.nd (bi (DO.toL (aC q36 y29 (hr.mono (by decide)) (ab (ar (pvN 0 aO)) (ab ag ai))))))
     (aZ (ce (nsN aO 2) (nsL aO 2) sc_law.nd (bi (DO.toL (am hr (af (pvN 1 aO)) (DL.toB ag)))))
     (aZ (ce (nsN aO 3) (nsL aO 3) sc_law.nd (bi (DO.toL (am hr (DO.toB (aC y55 z26 (hr.mono (by decide)) (ab (ar (pvN 0 aO)) ai))) (DL.toB ag)))))
     (aZ (ce (nsN aO 4) (nsL aO 4) sc_law.nd (pj z51 q51 (hr.mono (by decide)) (ld (bi (ar (pvN 1 aO))) nW) (z68 so)))
     (aZ (iS (sI 2 (DW.t (zP (rK (du (DO.toB (eF q57 q67 T.n_isinstance T.n_list kF T.k_list (af (pvN 4 aO)))) (fun _=>rfl))) (xH (bv (d8 hr) md (DO.toB (aV z41 br cR T.n_len bW (aG (af (pvN 4 aO)) aS))) (DO.toB (aV z41 br cR T.n_len bW (aG (af (pvN 2 aO)) aS))) (bf _)))))) (bP (fA (bi dJ))) fw)
     (aZ (lg PassesOwn.never rfl (cI y54 T.n_range (ab (DO.toL (aV z41 br cR T.n_len bW (aG (af (pvN 2 aO)) aS))) ai)) (aE (aF (nsN aO 5) (nsL aO 5) sc_law.nd)) (bP (iS (sI 2 (rK (du (DO.toB (aC z56 y43 (hr.mono (by decide)) (ab (ar (pvN 2 aO)) (ab (ar (pvN 4 aO)) (ab (ar (pvN 5 aO)) ai))))) (fun _=>rfl)))) (bP (fA (bi dJ))) fw)))
     (aZ (lg PassesOwn.never rfl (j3 y54 T.n_range (ab (DO.toL (ax cw dL (DO.toB (aC q53 y12 (hr.mono (by decide)) (ab (ar (pvN 0 aO)) (ab ag ai)))) (DL.toB ag))) (ab (DO.toL (aV z41 br cR T.n_len bW (aG (af (pvN 2 aO)) aS))) (ab ag ai)))) (aE (aF (nsN aO 5) (nsL aO 5) sc_law.nd)) (bP (iS (xQ (d8 hr) md (pp (M:=["_law_box","_law_rows","_law_at"]) (src:=[none,some 2,some 5]) (ts:=[0]) (CmpScope.of (N:=["_law_script","_law_program_here","_law_rows","_law_boxes","_law_found","_law_at","_law_told"]) (outer:=aa bt) (by decide +kernel)) rfl (di (DO.toL (aV q64 lj su T.n_sorted jG (aG (af (pvN 3 aO)) aS)))) (fun nd _ _ _ _=>(aE (bQ (N:=["_law_box","_law_rows","_law_at"]) (i:=0) (by decide +kernel) (by decide +kernel) nd (scC (outer:=aa bt) (by exact rfl))))) (fun _ _ _ _=>kP (du (DO.toB (aC (by decide +kernel) (okD y31) (hr.mono (by decide)) (ab (ar (pvD (N:=["_law_box","_law_rows","_law_at"]) 1 (by decide +kernel) (scC (outer:=aa bt) rfl))) (ab (ar (pvD (N:=["_law_box","_law_rows","_law_at"]) 2 (by decide +kernel) (scC (outer:=aa bt) rfl))) (ab (ar (pvD (N:=["_law_box","_law_rows","_law_at"]) 0 (by decide +kernel) (scC (outer:=aa bt) rfl))) ai))) (e1:=(scC (outer:=aa bt) rfl)))) (fun _=>rfl))) (fun _ _ _ _=>(bi (ar (pvD (N:=["_law_box","_law_rows","_law_at"]) 0 (by decide +kernel) (scC (outer:=aa bt) rfl))))) (by decide +kernel)) (wj hr (cB (pvN 4 aO)) (bi (ar (pvN 5 aO)))) (bf _)) (bP (fA (bi dJ))) fw)))
     (aZ (sH 100000 (nsN aO 6) (nsL aO 6) sc_law.nd (M:=["_law_some"]) (src:=[none]) (t:=0) (CmpScope.of (N:=["_law_script","_law_program_here","_law_rows","_law_boxes","_law_found","_law_at","_law_told"]) (outer:=aa bt) (by decide +kernel)) rfl (cB (pvN 4 aO)) (fun nd _ _ _ _=>(bQ (N:=["_law_some"]) (i:=0) (by decide +kernel) (by decide +kernel) nd (scC (outer:=aa bt) (by exact rfl)))) (fun _ _ _ _=>u4) (fun _ _ _ _=>(sm (by decide +kernel) ky xN T.n_list kF (ld (cB (pvD (N:=["_law_some"]) 0 (by decide +kernel) (scC (outer:=aa bt) rfl))) nW) (e1:=(scC (outer:=aa bt) rfl)))) (by decide +kernel))
     (aZ (gK (wj hr (cB (pvN 4 aO)) (bi ag)) (bi aP))
     (aZ (gK (cB (pvN 4 aO)) (bi (DO.toL (aY ai))))
     (bP (fA (xU (uY 2 (bO hr) eT (pj z51 q51 (hr.mono (by decide)) (ld (bi (ar (pvN 1 aO))) nW) (z68 so)) (cB (pvN 6 aO)) (bf _)) (xT (bi (DO.toL (kK (bO hr) eT (af (pvN 1 aO)) (DO.toB (aC q36 y29 (hr.mono (by decide)) (ab (ar (pvN 0 aO)) (ab ag ai)))) (bf _))))))))))))))))))
end
end P32
namespace L2
open PySem PySem.Spec PyProof.Rows
def sK {acc:List Str} {k x:Str}:x∈bI acc k↔x∈acc∨x=k:=by
 unfold bI
 split
 · rename_i h
   exact ⟨.inl,fun z=>z.elim id fun e=>e▸h⟩
 · simp
def foldl_once_mem {x:Str}:∀ {ss acc:List Str},x∈ss.foldl bI acc↔x∈acc∨x∈ss
 | [],acc=>by simp
 | s::ss,acc=>by
  rw [List.foldl_cons,foldl_once_mem,sK,List.mem_cons,or_assoc]
def onces_mem {ss:List Str} {x:Str}:x∈cE ss↔x∈ss:=by
 unfold cE
 rw [foldl_once_mem]
 simp
def fF {acc:List Str} {k:Str} (h:acc.Nodup):(bI acc k).Nodup:=by
 unfold bI
 split
 · exact h
 · rename_i hk
   rw [List.nodup_append]
   exact ⟨h,by simp,fun a ha b hb e=>hk (by rw [List.mem_singleton.mp hb] at e;exact e▸ha)⟩
def bB:∀ {ss acc:List Str},acc.Nodup->(ss.foldl bI acc).Nodup
 | [],acc,h=>h
 | s::ss,acc,h=>by
  rw [List.foldl_cons]
  exact bB (fF h)
def dc (ss:List Str):(cE ss).Nodup:=bB List.nodup_nil
def Sd (l:List Str):Prop:=l.Pairwise fun a b=>leS a b=true/\a≠b
def lv {ss:List Str} (nd:ss.Nodup):Sd (bn ss):=by
 have h1:=ge ss
 have h2:(bn ss).Pairwise fun a b=>a≠b:=(bF ss).nodup_iff.mpr nd
 exact h1.and h2
def Sd.nodup {l:List Str} (h:Sd l):l.Nodup:=List.Pairwise.imp (fun z=>z.2) h
def i8:∀ {l m:List Str},Sd l->Sd m->(∀ x,x∈l↔x∈m)->l=m
 | [],[],_,_,_=>rfl
 | [],b::m,_,_,h=>by simpa using (h b).mpr (.head _)
 | a::l,[],_,_,h=>by simpa using (h a).mp (.head _)
 | a::l,b::m,hl,hm,h=>by
  have hl':=List.pairwise_cons.mp hl
  have hm':=List.pairwise_cons.mp hm
  have e:a=b:=by
   rcases List.mem_cons.mp ((h a).mp (.head _)) with z | z
   · exact z
   · rcases List.mem_cons.mp ((h b).mpr (.head _)) with y | y
     · exact y.symm
     · exact mB (hl'.1 b y).1 (hm'.1 a z).1
  subst e
  congr 1
  refine i8 hl'.2 hm'.2 fun x=>⟨fun hx=>?_,fun hx=>?_⟩
  · rcases List.mem_cons.mp ((h x).mp (.tail _ hx)) with z | z
    · exact absurd z.symm (hl'.1 x hx).2
    · exact z
  · rcases List.mem_cons.mp ((h x).mpr (.tail _ hx)) with z | z
    · exact absurd z.symm (hm'.1 x hx).2
    · exact z
def cu {α:Type} [DecidableEq α]:∀ {l m:List α},l.Nodup->(∀ x∈l,x∈m)->l.length<=m.length
 | [],m,_,_=>Nat.zero_le _
 | a::l,m,h,hs=>by
  obtain ⟨h1,h2⟩:=List.nodup_cons.mp h
  have ha:a∈m:=hs a (.head _)
  have:=cu (m:=m.erase a) h2 fun x hx=>(List.mem_erase_of_ne (show x≠a from fun e=>h1 (by rw [<- e];exact hx))).mpr (hs x (.tail _ hx))
  rw [List.length_erase_of_mem ha] at this
  have hp:=List.length_pos_of_mem ha
  rw [List.length_cons]
  omega
def Ae {l m:List Str} (hl:Sd l) (hm:Sd m) (h:∀ x∈l,x∈m) (ne:l≠m):l.length<m.length:=by
 by_cases z:∃ x,x∈m/\x∉l
 · obtain ⟨x,h1,h2⟩:=z
   have:=cu (l:=x::l) (m:=m) (List.nodup_cons.mpr ⟨h2,hl.nodup⟩) fun y hy=>by
    rcases List.mem_cons.mp hy with rfl | hy
    · exact h1
    · exact h y hy
   rw [List.length_cons] at this
   omega
 · exact absurd (i8 hl hm fun x=>⟨h x,fun hx=>Classical.byContradiction fun q=>z ⟨x,hx,q⟩⟩) ne
inductive Atm where
 | nm (x:Str) | vl (i:Int)
inductive Rw where
 | copy (x:Str) (a:Atm) | op (x s:Str) (a b:Atm) | load (x c:Str) | store (c:Str) (a:Atm) | take (x f:Str) (a:Atm) | lay (f:Str) (a b:Atm) | hear (x:Str) | say (a:Atm) | iff (a:Atm) (g:Nat) | go (g:Nat) | fin (a:Atm)
def Rw.atoms:Rw->List Atm
 | .copy _ a=>[a] | .op _ _ a b=>[a,b] | .load _ _=>[] | .store _ a=>[a] | .take _ _ a=>[a] | .lay _ a b=>[a,b] | .hear _=>[] | .say a=>[a] | .iff a _=>[a] | .go _=>[] | .fin a=>[a]
def nms:List Atm->List Str
 | []=>[]
 | .nm x::r=>x::nms r
 | .vl _::r=>nms r
def Rw.reads (r:Rw):List Str:=cE (nms r.atoms)
def Rw.sets:Rw->Option Str
 | .copy x _=>some x | .op x _ _ _=>some x | .load x _=>some x | .take x _ _=>some x | .hear x=>some x
 | _=>none
def Rw.outs (n:Nat):Rw->List Nat
 | .go g=>[g] | .iff _ g=>[g,n+1] | .fin _=>[]
 | _=>[n+1]
def gi:∀ l:List Atm,(nms l).length<=l.length
 | []=>nL _
 | .nm x::r=>Nat.succ_le_succ (gi r)
 | .vl _::r=>Nat.le_succ_of_le (gi r)
def Rw.reads_len (r:Rw):r.reads.length<=2:=by
 have h1:=j7 (nms r.atoms)
 have h2:=gi r.atoms
 have h3:r.atoms.length<=2:=by cases r<;>simp [Rw.atoms]
 unfold Rw.reads
 omega
def Rw.outs_len (r:Rw) (n:Nat):(r.outs n).length<=2:=by cases r<;>simp [Rw.outs]
def de (r:Rw) (ls:List (List Str)):List Str:=ls.flatMap fun l=>l.filter fun b=>decide (r.sets≠some b)
def NA (r:Rw) (ls:List (List Str)):List Str:=bn (cE (r.reads++de r ls))
def dw {ss:List Str} {x:Str}:x∈bn ss↔x∈ss:=(bF ss).mem_iff
def x9 {r:Rw} {ls:List (List Str)} {b:Str}:b∈NA r ls↔b∈r.reads∨(r.sets≠some b/\∃ l∈ls,b∈l):=by
 unfold NA de
 rw [dw,onces_mem,List.mem_append,List.mem_flatMap]
 constructor
 · rintro (h | ⟨l,hl,hb⟩)
   · exact .inl h
   · rw [List.mem_filter,decide_eq_true_eq] at hb
     exact .inr ⟨hb.2,l,hl,hb.1⟩
 · rintro (h | ⟨h,l,hl,hb⟩)
   · exact .inl h
   · exact .inr ⟨l,hl,List.mem_filter.mpr ⟨hb,decide_eq_true_eq.mpr h⟩⟩
def Af (r:Rw) (ls:List (List Str)):Sd (NA r ls):=lv (dc _)
inductive Needs (rows:List Rw):Nat->Str->Prop
 | here {i:Nat} {r:Rw} {b:Str}:rows[i]?=some r->b∈r.reads->Needs rows i b
 | on {i j:Nat} {r:Rw} {b:Str}:rows[i]?=some r->r.sets≠some b->j∈r.outs i->Needs rows j b->Needs rows i b
def nw (rows:List Rw) (found:List (List Str)) (i:Nat):List Str:=match rows[i]? with
 | some r=>NA r ((r.outs i).map fun j=>found.getD j [])
 | none=>[]
def i9 {rows:List Rw} {found:List (List Str)} {i:Nat} {b:Str} {r:Rw} (h:rows[i]?=some r):b∈nw rows found i↔b∈r.reads∨(r.sets≠some b/\∃ j∈r.outs i,b∈found.getD j []):=by
 unfold nw
 rw [h]
 show b∈NA r _↔_
 rw [x9]
 simp only [List.mem_map]
 constructor
 · rintro (h | ⟨h,l,⟨j,hj,rfl⟩,hb⟩)
   · exact .inl h
   · exact .inr ⟨h,j,hj,hb⟩
 · rintro (h | ⟨h,j,hj,hb⟩)
   · exact .inl h
   · exact .inr ⟨h,_,⟨j,hj,rfl⟩,hb⟩
def sM (rows:List Rw) (found:List (List Str)) (i:Nat):Sd (nw rows found i):=by
 unfold nw
 split
 · exact Af _ _
 · exact List.Pairwise.nil
def lw {α:Type} {l:List (List α)} {j:Nat} {b:α} (h:b∈l.getD j []):∃ m,l[j]?=some m/\b∈m:=by
 rw [List.getD_eq_getElem?_getD] at h
 cases q:l[j]? with
 | none=>rw [q] at h;simp at h
 | some m=>rw [q] at h;exact ⟨m,rfl,h⟩
def gj {α:Type} {l:List (List α)} {j:Nat} {m:List α} (h:l[j]?=some m):l.getD j []=m:=by
 rw [List.getD_eq_getElem?_getD,h]
 rfl
structure Fnd (rows:List Rw) (B:List Str) (found:List (List Str)):Prop where
 len:found.length=rows.length
 sd:∀ (i:Nat) (l:List Str),found[i]?=some l->Sd l
 sub:∀ (i:Nat) (l:List Str) (b:Str),found[i]?=some l->b∈l->b∈B
 nd:∀ (i:Nat) (l:List Str) (b:Str),found[i]?=some l->b∈l->Needs rows i b
 inc:∀ (i:Nat) (l:List Str) (b:Str),found[i]?=some l->b∈l->b∈nw rows found i
def tot (found:List (List Str)):Nat:=(found.map List.length).sum
def Fnd.start {rows:List Rw} {B:List Str}:Fnd rows B (rows.map fun _=>[]):=by
 have h0:∀ (i:Nat) (l:List Str),(rows.map fun _=>([]:List Str))[i]?=some l->l=[]:=fun i l h=>by
  rw [List.getElem?_map] at h
  obtain ⟨r,_,e⟩:=mS h
  exact e.symm
 refine ⟨by simp,fun i l h=>?_,fun i l b h hb=>?_,fun i l b h hb=>?_,fun i l b h hb=>?_⟩
 · rw [h0 i l h];exact List.Pairwise.nil
 all_goals (rw [h0 i l h] at hb;cases hb)
section
variable {rows:List Rw} {B:List Str} {found:List (List Str)}
def pE {f g:List (List Str)} (h:∀ j b,b∈f.getD j []->b∈g.getD j []) {i:Nat} {b:Str} (hb:b∈nw rows f i):b∈nw rows g i:=by
 cases q:rows[i]? with
 | none=>unfold nw at hb;rw [q] at hb;cases hb
 | some r =>
  rw [i9 q] at hb ⊢
  exact hb.imp id fun ⟨h1,j,hj,hb⟩=>⟨h1,j,hj,h j b hb⟩
def Fnd.step (F:Fnd rows B found) (hB:∀ (i:Nat) (r:Rw) (b:Str),rows[i]?=some r->b∈r.reads->b∈B) {i:Nat} (hi:i<rows.length):Fnd rows B (found.set i (nw rows found i)):=by
 have hl:i<found.length:=by rw [F.len];exact hi
 obtain ⟨r,hr⟩:∃ r,rows[i]?=some r:=⟨rows[i],by simp [hi]⟩
 have mono:∀ j b,b∈found.getD j []->b∈(found.set i (nw rows found i)).getD j []:=fun j b hb=>by
  obtain ⟨m,hm,hb2⟩:=lw hb
  by_cases e:i=j
  · subst e
    rw [gj (List.getElem?_set_self hl)]
    exact F.inc i m b hm hb2
  · rw [gj (l:=found.set i (nw rows found i)) (m:=m) (by rw [gN e];exact hm)]
    exact hb2
 refine ⟨by simp [F.len],fun j l h=>?_,fun j l b h hb=>?_,fun j l b h hb=>?_,fun j l b h hb=>?_⟩
 · by_cases e:i=j
   · subst e
     rw [List.getElem?_set_self hl] at h
     cases h
     exact sM _ _ _
   · rw [gN e] at h
     exact F.sd j l h
 · by_cases e:i=j
   · subst e
     rw [List.getElem?_set_self hl] at h
     cases h
     rcases (i9 hr).mp hb with z | ⟨_,j,_,z⟩
     · exact hB i r b hr z
     · obtain ⟨m,hm,hb⟩:=lw z
       exact F.sub j m b hm hb
   · rw [gN e] at h
     exact F.sub j l b h hb
 · by_cases e:i=j
   · subst e
     rw [List.getElem?_set_self hl] at h
     cases h
     rcases (i9 hr).mp hb with z | ⟨h1,j,hj,z⟩
     · exact .here hr z
     · obtain ⟨m,hm,hb⟩:=lw z
       exact .on hr h1 hj (F.nd j m b hm hb)
   · rw [gN e] at h
     exact F.nd j l b h hb
 · by_cases e:i=j
   · subst e
     rw [List.getElem?_set_self hl] at h
     cases h
     exact pE mono hb
   · rw [gN e] at h
     exact pE mono (F.inc j l b h hb)
def pF:∀ {found:List (List Str)} {i:Nat} {l m:List Str},found[i]?=some l->tot (found.set i m)+l.length=tot found+m.length
 | [],i,l,m,h=>by simp at h
 | x::f,0,l,m,h=>by
  simp at h
  subst h
  simp only [tot,List.set_cons_zero,List.map_cons,List.sum_cons]
  omega
 | x::f,i+1,l,m,h=>by
  have:=pF (found:=f) (i:=i) (l:=l) (m:=m) (by simpa using h)
  simp only [tot,List.set_cons_succ,List.map_cons,List.sum_cons] at this ⊢
  omega
def tot_le {n:Nat}:∀ {found:List (List Str)},(∀ l∈found,l.length<=n)->tot found<=found.length*n
 | [],_=>by simp [tot]
 | x::f,h=>by
  have:=tot_le (found:=f) fun l hl=>h l (.tail _ hl)
  have h1:=h x (.head _)
  simp only [tot,List.map_cons,List.sum_cons,List.length_cons,Nat.succ_mul] at this ⊢
  omega
def Fnd.short (F:Fnd rows B found) {i:Nat} {l:List Str} (h:found[i]?=some l):l.length<=B.length:=cu (F.sd i l h).nodup fun b hb=>F.sub i l b h hb
def Fnd.tot_le (F:Fnd rows B found):tot found<=rows.length*B.length:=by
 rw [<- F.len]
 refine L2.tot_le fun l hl=>?_
 obtain ⟨i,h⟩:=List.getElem?_of_mem hl
 exact F.short h
def Fnd.more (F:Fnd rows B found) {i:Nat} {l:List Str} (h:found[i]?=some l) (ne:nw rows found i≠l):tot found<tot (found.set i (nw rows found i)):=by
 have h1:=pF (m:=nw rows found i) h
 have h2:=Ae (F.sd i l h) (sM rows found i) (fun x hx=>F.inc i l x h hx) (Ne.symm ne)
 omega
def Fix (rows:List Rw) (found:List (List Str)):Prop:=∀ (i:Nat) (l:List Str),found[i]?=some l->nw rows found i=l
def Fix.all (F:Fnd rows B found) (x:Fix rows found) (hO:∀ (i:Nat) (r:Rw) (j:Nat),rows[i]?=some r->j∈r.outs i->j<rows.length) {i:Nat} {b:Str} (h:Needs rows i b):∀ l,found[i]?=some l->b∈l:=by
 induction h with
 | here hr hb=>exact fun l hl=>by rw [<- x _ l hl,i9 hr];exact .inl hb
 | @on i j r b hr h1 hj _ ih =>
  intro l hl
  rw [<- x _ l hl,i9 hr]
  have hlt:j<found.length:=by rw [F.len];exact hO i r j hr hj
  have e:found[j]?=some found[j]:=by simp [hlt]
  exact .inr ⟨h1,j,hj,by rw [gj e];exact ih _ e⟩
def Fnd.iff (F:Fnd rows B found) (x:Fix rows found) (hO:∀ (i:Nat) (r:Rw) (j:Nat),rows[i]?=some r->j∈r.outs i->j<rows.length) {i:Nat} {l:List Str} (hl:found[i]?=some l) (b:Str):b∈l↔Needs rows i b:=⟨F.nd i l b hl,fun h=>Fix.all F x hO h l hl⟩
def Fnd.uniq {found2:List (List Str)} (F:Fnd rows B found) (x:Fix rows found) (F2:Fnd rows B found2) (x2:Fix rows found2) (hO:∀ (i:Nat) (r:Rw) (j:Nat),rows[i]?=some r->j∈r.outs i->j<rows.length):found=found2:=by
 apply List.ext_getElem
 · rw [F.len,F2.len]
 · intro i h1 h2
   have e1:found[i]?=some found[i]:=by simp [h1]
   have e2:found2[i]?=some found2[i]:=by simp [h2]
   exact i8 (F.sd i _ e1) (F2.sd i _ e2) fun b=>(F.iff x hO e1 b).trans (F2.iff x2 hO e2 b).symm
end
def gAdd_i {i j:Int}:bN (.int i) (.int j)=some (.leaf (.int (i+j))):=rfl
def ya {x y:Str} (h:x.length+y.length<=sizeLine):bN (.str x) (.str y)=some (.leaf (.str (x++y))):=if_pos h
def yb {l m:List Dt} (h:l.length+m.length<=sizeLine):bN (.lst l) (.lst m)=some (.lst (l++m)):=if_pos h
def gSub_i {i j:Int}:fU (.int i) (.int j)=some (.leaf (.int (i-j))):=rfl
def sN {i j:Int} (h:g6 i j=true):ia (.int i) (.int j)=some (.leaf (.int (i*j))):=if_pos h
def oe {i j:Int} (h:0<j):cX (.int i) (.int j)=some (.leaf (.int (i%j))):=if_pos h
def oh {i j:Int} (h:jP i j=true):ib (.int i) (.int j)=some (.leaf (.int (i^j.toNat))):=if_pos h
def sO:jP 2 40=true:=by decide
@[irreducible] def wide:Int:=1099511627776
def lx:wide=1099511627776:=by unfold wide;rfl
def Ay:ib (.int 2) (.int 40)=some (.leaf (.int wide)):=by
 rw [oh sO,lx]
 rfl
def sP:(0:Int)<wide:=by rw [lx];decide
def gMod_w {i:Int}:cX (.int i) (.int wide)=some (.leaf (.int (i%wide))):=oe sP
def gCmp_i {f:Int->Int->Bool} {i j:Int}:nN f (.int i) (.int j)=some (.leaf (.bl (f i j))):=rfl
def wm {l m:List Dt} (h:(cmpbs l m&&decide (deeps l<=59))=true):eqD (.tup l) (.tup m)=some (peqs l m):=if_pos h
def wn {l m:List Dt} (h:(cmpbs l m&&decide (deeps l<=59))=true):eqD (.lst l) (.lst m)=some (peqs l m):=if_pos h
def ly {neg:Bool} {x y:Dt} {b:Bool} (h:eqD x y=some b):gEq neg x y=some (.leaf (.bl (if neg then !b else b))):=by
 unfold gEq
 rw [h]
 rfl
def gEq_ii {i j:Int}:gEq false (.int i) (.int j)=some (.leaf (.bl (decide (i=j)))):=rfl
def gEq_ss {i j:Str}:gEq false (.str i) (.str j)=some (.leaf (.bl (decide (i=j)))):=rfl
def yc {i j:Int}:gEq true (.int i) (.int j)=some (.leaf (.bl (!decide (i=j)))):=rfl
def sQ {i j:Str}:gEq true (.str i) (.str j)=some (.leaf (.bl (!decide (i=j)))):=rfl
def mR {l:List Dt} {i:Int}:aA (.lst l) (.int i)=(atI l i).map .leaf:=rfl
def pG {l:List Dt} {i:Int}:aA (.tup l) (.int i)=(atI l i).map .leaf:=rfl
def sR {x:Str} {i:Int} (h:x.length<=sizeLine):aA (.str x) (.int i)=(atI x.cps.toList i).map fun c=>.leaf (.str ⟨#[c]⟩):=if_pos h
def Ah {neg:Bool} {ks:List Key} {l:List Dt} {k:Dt}:cv neg k (.dct ks l)=(fV k).map fun k=>.leaf (.bl (if neg then !(cp ks l k).isSome else (cp ks l k).isSome)):=rfl
def Ai {neg:Bool} {x:Dt} {l:List Dt} (h:(bD x&&l.all bD)=true):cv neg x (.lst l)=some (.leaf (.bl (if neg then !(l.any fun y=>eqF y x) else l.any fun y=>eqF y x))):=by
 cases x<;>simp only [cv,gIn,inD]<;>first | rw [if_pos h];rfl | cases h
def gIn_t {neg:Bool} {x:Dt} {l:List Dt} (h:(bD x&&l.all bD)=true):cv neg x (.tup l)=some (.leaf (.bl (if neg then !(l.any fun y=>eqF y x) else l.any fun y=>eqF y x))):=by
 cases x<;>simp only [cv,gIn,inD]<;>first | rw [if_pos h];rfl | cases h
def gLen_l {l:List Dt}:cb [.lst l]=some (.leaf (.int l.length)):=rfl
def gLen_t {l:List Dt}:cb [.tup l]=some (.leaf (.int l.length)):=rfl
def Aj {l:List Dt}:gI [.lst l]=some (.leaf (.tup l)):=rfl
def sS {j:Int} (h:jM j=true):h9 [.int j]=some (d7 0 j.toNat):=if_pos h
def sT {j:Int} (h0:-1000000000<=j) (h1:j<=1000000000):jM j=true:=by
 unfold jM
 simp only [Bool.and_eq_true,decide_eq_true_eq]
 omega
def ja {n:Nat} (h:n<=1000000000):h9 [.int n]=some (d7 0 n):=by
 rw [sS (sT (by omega) (by omega))]
 rfl
def itD_l {l:List Dt}:itD (.lst l)=some l:=rfl
def itD_t {l:List Dt}:itD (.tup l)=some l:=rfl
def truD_b {b:Bool}:uw (.bl b)=some b:=rfl
def asB_b {b:Bool}:asB (.leaf (.bl b))=some b:=rfl
def asBl_b {b:Bool}:rL (.bl b)=some b:=rfl
def sU {b:Int}:asI (.int b)=some b:=rfl
def small {n:Nat} (h:n<=1000000):n<=sizeLine:=Nat.le_trans h (by decide)
def ei {n:Nat} (h:n<1000000):n<sizeLine:=Nat.lt_of_lt_of_le h (by decide)
def sV {src:List (Option Nat)} {fi:De->Option (List Dt)} {bb:Dt->De->Option De} {ft:De->Option Bool} {fe:De->Option Dt} {δ:De} {ds ys:List Dt} (h1:fi δ=some ds) (h2:ca bb ft fe (dC src δ) ds=some ys) (h3:ys.length<=1000000):cP src fi bb ft fe δ=some (.lst ys):=by
 unfold cP
 rw [h1,Option.bind_some,h2,Option.bind_some]
 exact if_pos (small h3)
def bw {bb:Dt->De->Option De} {g:De->Option Out} {d:Dt} {r:List Dt} {δ δ1 δ2:De} (h1:bb d δ=some δ1) (h2:g δ1=some (.nx δ2)):cz bb g (d::r) δ=cz bb g r δ2:=by
 show ((bb d δ).bind fun δ1=>(g δ1).bind fun o=>match o with | .nx δ2=>cz bb g r δ2 | .ct δ2=>cz bb g r δ2 | .bk δ2=>some (.nx δ2) | .rt t=>some (.rt t) | .re t δ2=>some (.re t δ2))=_
 rw [h1,Option.bind_some,h2]
 rfl
def bh {α:Type} {l:List α} {k:Nat}:atI l (k:Int)=l[k]?:=by
 unfold atI ixN
 rw [if_pos (by omega)]
 by_cases h:k<l.length
 · rw [if_pos (by omega)]
   simp
 · rw [if_neg (by omega)]
   simp
   omega
def yd {i j:Int} (h1:-1000000000000000000<i) (h2:i<1000000000000000000):ia (.int i) (.int j)=some (.leaf (.int (i*j))):=sN (uB h1 h2)
def gMul_r {i j:Int} (h1:-1000000000000000000<j) (h2:j<1000000000000000000):ia (.int i) (.int j)=some (.leaf (.int (i*j))):=sN (uC h1 h2)
def sW (o:Option Out) (g:De->Option Out):Option Out:=o.bind fun o=>match o with
 | .nx δ'=>g δ'
 | o=>some o
def sSeq_d {g1 g2:De->Option Out} {δ:De}:aT g1 g2 δ=sW (g1 δ) g2:=rfl
def Ak {δ:De} {g:De->Option Out}:sW (some (.nx δ)) g=g δ:=rfl
def Al {t:T} {g:De->Option Out}:sW (some (.rt t)) g=some (.rt t):=rfl
def ye:Option Out->Option T
 | some (.rt t)=>some t
 | some (.nx _)=>some (.leaf .non)
 | _=>none
def runD_d {m:Nat} {g:De->Option Out} {ds:List Dt}:dk m g ds=ye (g (ds.map (fun d=>some (.leaf d))++List.replicate (m-ds.length) none)):=rfl
def Az {t:T}:ye (some (.rt t))=some t:=rfl
def gk {α:Type} (b:Option Bool) (f g:De->Option α) (δ:De):Option α:=b.bind fun b=>if b then f δ else g δ
def AA {α:Type} {f g:De->Option α} {δ:De}:gk (some true) f g δ=f δ:=rfl
def AB {α:Type} {f g:De->Option α} {δ:De}:gk (some false) f g δ=g δ:=rfl
def ip {α:Type} {f g:De->Option α} {δ:De} {b:Bool} (h:b=true):gk (some b) f g δ=f δ:=by subst h;rfl
def iq {α:Type} {f g:De->Option α} {δ:De} {b:Bool} (h:b=false):gk (some b) f g δ=g δ:=by subst h;rfl
def sIf_d {c:De->Option Bool} {g1 g2:De->Option Out} {δ:De}:sIf c g1 g2 δ=gk (c δ) g1 g2 δ:=rfl
def vIf_d {c:De->Option Bool} {g1 g2:De->Option T} {δ:De}:vIf c g1 g2 δ=gk (c δ) g1 g2 δ:=rfl
def kB (b:Bool):De->Option Bool:=fun _=>some b
def kT (b:Bool):De->Option T:=fun _=>some (.leaf (.bl b))
def kB_d {b:Bool} {δ:De}:kB b δ=some b:=rfl
def fAnd_d {f g:De->Option Bool} {δ:De}:qh f g δ=gk (f δ) g (kB false) δ:=rfl
def vAnd_d {f:De->Option Dt} {g:De->Option T} {δ:De}:rM f g δ=gk ((f δ).bind rL) g (kT false) δ:=by
 unfold rM gk kT
 cases f δ with
 | none=>rfl
 | some d=>rfl
def mkL (ds:List Dt):Option T:=if ds.length<=sizeLine then some (.lst ds) else none
def mkTp (ds:List Dt):Option T:=if ds.length<=sizeLine then some (.leaf (.tup ds)) else none
def em {ds:List Dt} (h:ds.length<=1000000):mkL ds=some (.lst ds):=if_pos (small h)
def AC {ds:List Dt} (h:ds.length<=1000000):mkTp ds=some (.leaf (.tup ds)):=if_pos (small h)
def oj {f:De->Option (List Dt)} {δ:De}:bH f δ=(f δ).bind mkL:=rfl
def vTup_d {f:De->Option (List Dt)} {δ:De}:bT f δ=(f δ).bind mkTp:=rfl
def AD {src:List (Option Nat)} {fi:De->Option (List Dt)} {bb:Dt->De->Option De} {ft:De->Option Bool} {fe:De->Option Dt} {δ:De}:cP src fi bb ft fe δ=(fi δ).bind fun ds=>(ca bb ft fe (dC src δ) ds).bind mkL:=rfl
def appL (l:List Dt) (i:Nat) (δ:De) (d:Dt):Option Out:=if l.length<sizeLine then some (.nx (δ.set i (some (.lst (l++[d]))))) else none
def eS {l:List Dt} {i:Nat} {δ:De} {d:Dt} (h:l.length<1000000):appL l i δ d=some (.nx (δ.set i (some (.lst (l++[d]))))):=if_pos (ei h)
def j8 {i:Nat} {f:De->Option Dt} {δ:De} {l:List Dt} (h:δ[i]?=some (some (.lst l))):z25 i f δ=(f δ).bind (appL l i δ):=by
 unfold z25
 rw [h]
 rfl
def om (cs:List Nat):Txt.join "" (cs.map fun c=>(⟨#[c]⟩:Str))=⟨cs.toArray⟩:=by
 have e0:("":Str).cps=#[]:=by decide +kernel
 have go:∀ (l:List Nat) (acc:Array Nat),(l.map fun c=>(⟨#[c]⟩:Str)).foldl (fun acc p=>acc++("":Str).cps++p.cps) acc=acc++l.toArray:=by
  intro l
  induction l with
  | nil=>intro acc;simp
  | cons c l ih =>
   intro acc
   rw [List.map_cons,List.foldl_cons,ih,e0]
   simp
 unfold Txt.join Builtin.Str.glued
 cases cs with
 | nil=>rfl
 | cons c r =>
  show (⟨(r.map fun c=>(⟨#[c]⟩:Str)).foldl (fun acc p=>acc++("":Str).cps++p.cps) (#[c]:Array Nat)⟩:Str)=_
  rw [go]
  simp
def lz (cs:List Nat) (h:cs.length<=1000):JoinOk "" (cs.map fun c=>(⟨#[c]⟩:Str))=true:=by
 unfold JoinOk
 have h1:∀ y∈cs.map (fun c=>(⟨#[c]⟩:Str)),y.length<=1:=fun y hy=>by
  obtain ⟨c,_,rfl⟩:=List.mem_map.mp hy
  exact nL _
 rw [StrLaws.joinFits h1 (by rw [List.length_map,show ("":Str).length=0 by decide +kernel];omega)]
 rfl
def dH:∀ ts:List Str,dD (ts.map .str)=some ts
 | []=>rfl
 | t::r=>by
  show (dD (r.map .str)).map (t::·)=_
  rw [dH r]
  rfl
def sgD (cs:List Nat):List Dt:=cs.map fun c=>.str ⟨#[c]⟩
def sX {cs:List Nat} (h:cs.length<=1000):fu (.str "") [.lst (sgD cs)]=some (.leaf (.str ⟨cs.toArray⟩)):=by
 have e:sgD cs=(cs.map fun c=>(⟨#[c]⟩:Str)).map .str:=by unfold sgD;rw [List.map_map];rfl
 show (dD (sgD cs)).bind _=_
 rw [e,dH,Option.bind_some,if_pos (lz cs h),om]
def yf {α:Type} {xs:List α} {i:Int} (h0:0<=i) (h1:i<xs.length):∃ v,atI xs i=some v/\v∈xs:=by
 obtain ⟨n,rfl⟩:=Int.eq_ofNat_of_zero_le h0
 have hn:n<xs.length:=by omega
 exact ⟨xs[n],uh (by simp [hn]),List.getElem_mem hn⟩
def u6 (x:Str):x.length=x.cps.toList.length:=by
 show x.cps.size=_
 simp
def u7 {x:Str} {i:Int} (hl:x.length<=1000000) (h0:0<=i) (h1:i<x.length):∃ c,aA (.str x) (.int i)=some (.leaf (.str ⟨#[c]⟩))/\c∈x.cps.toList:=by
 obtain ⟨c,e,hm⟩:=yf (xs:=x.cps.toList) h0 (by rw [<- u6];exact h1)
 refine ⟨c,?_,hm⟩
 rw [sR (small hl),e]
 rfl
def AE {i:Int}:bD (.int i)=true:=rfl
def AF {x:Str}:bD (.str x)=true:=rfl
def eqF_s {x y:Str}:eqF (.str x) (.str y)=decide (x=y):=by
 show (x==y)=_
 rw [Bool.eq_iff_iff]
 simp
def eqF_i {x y:Int}:eqF (.int x) (.int y)=decide (x=y):=by
 show (x==y)=_
 rw [Bool.eq_iff_iff]
 simp
def jb:∀ {l m:List Dt},l.all bD=true->m.all bD=true->cmpbs l m=true
 | [],m,_,_=>by cases m<;>simp [cmpbs]
 | _::_,[],_,_=>by simp [cmpbs]
 | d::l,e::m,h,h'=>by
  simp only [List.all_cons,Bool.and_eq_true] at h h'
  simp only [cmpbs,jb h.2 h'.2,Bool.and_true]
  cases d<;>first | (cases h.1;done) | skip
  all_goals cases e<;>first | (cases h'.1;done) | rfl
def jc:∀ {l:List Dt},l.all bD=true->deeps l=0
 | [],_=>by simp [deeps]
 | d::l,h=>by
  simp only [List.all_cons,Bool.and_eq_true] at h
  simp only [deeps,jc h.2]
  cases d<;>first | (cases h.1;done) | rfl
def sY {neg:Bool} {l m:List Dt} (hl:l.all bD=true) (hm:m.all bD=true):gEq neg (.lst l) (.lst m)=some (.leaf (.bl (if neg then !peqs l m else peqs l m))):=
 ly (wn (by rw [jb hl hm,jc hl];rfl))
def sFor_d {fi:De->Option (List Dt)} {bb:Dt->De->Option De} {g:De->Option Out} {δ:De}:gH fi bb g δ=(fi δ).bind fun ds=>cz bb g ds δ:=rfl
def jd (a:Int) {n:Nat} (hn:0<n):∃ k:Nat,k<n/\a%(n:Int)=(k:Int):=by
 have h0:=Int.emod_nonneg a (show (n:Int)≠0 by omega)
 have h1:=Int.emod_lt_of_pos a (show (0:Int)<n by omega)
 exact ⟨(a%(n:Int)).toNat,by omega,by omega⟩
def atI_0 {α:Type} {l:List α}:atI l 0=l[0]?:=bh (k:=0)
def atI_1 {α:Type} {l:List α}:atI l 1=l[1]?:=bh (k:=1)
def atI_2 {α:Type} {l:List α}:atI l 2=l[2]?:=bh (k:=2)
def atI_3 {α:Type} {l:List α}:atI l 3=l[3]?:=bh (k:=3)
def atI_4 {α:Type} {l:List α}:atI l 4=l[4]?:=bh (k:=4)
open PySem
def yg:(Str.ofString "copy"=Str.ofString "op")=False:=eq_false (by decide +kernel)
def u8:(Str.ofString "copy"=Str.ofString "load")=False:=eq_false (by decide +kernel)
def tU:(Str.ofString "copy"=Str.ofString "store")=False:=eq_false (by decide +kernel)
def u9:(Str.ofString "copy"=Str.ofString "take")=False:=eq_false (by decide +kernel)
def wo:(Str.ofString "copy"=Str.ofString "lay")=False:=eq_false (by decide +kernel)
def vc:(Str.ofString "copy"=Str.ofString "hear")=False:=eq_false (by decide +kernel)
def wq:(Str.ofString "copy"=Str.ofString "say")=False:=eq_false (by decide +kernel)
def yh:(Str.ofString "copy"=Str.ofString "if")=False:=eq_false (by decide +kernel)
def yi:(Str.ofString "copy"=Str.ofString "go")=False:=eq_false (by decide +kernel)
def wu:(Str.ofString "copy"=Str.ofString "end")=False:=eq_false (by decide +kernel)
def yj:(Str.ofString "op"=Str.ofString "copy")=False:=eq_false (by decide +kernel)
def yk:(Str.ofString "op"=Str.ofString "load")=False:=eq_false (by decide +kernel)
def wv:(Str.ofString "op"=Str.ofString "store")=False:=eq_false (by decide +kernel)
def yl:(Str.ofString "op"=Str.ofString "take")=False:=eq_false (by decide +kernel)
def yZ:(Str.ofString "op"=Str.ofString "lay")=False:=eq_false (by decide +kernel)
def ym:(Str.ofString "op"=Str.ofString "hear")=False:=eq_false (by decide +kernel)
def za:(Str.ofString "op"=Str.ofString "say")=False:=eq_false (by decide +kernel)
def Am:(Str.ofString "op"=Str.ofString "if")=False:=eq_false (by decide +kernel)
def An:(Str.ofString "op"=Str.ofString "go")=False:=eq_false (by decide +kernel)
def zb:(Str.ofString "op"=Str.ofString "end")=False:=eq_false (by decide +kernel)
def vd:(Str.ofString "load"=Str.ofString "copy")=False:=eq_false (by decide +kernel)
def yn:(Str.ofString "load"=Str.ofString "op")=False:=eq_false (by decide +kernel)
def tV:(Str.ofString "load"=Str.ofString "store")=False:=eq_false (by decide +kernel)
def ve:(Str.ofString "load"=Str.ofString "take")=False:=eq_false (by decide +kernel)
def ww:(Str.ofString "load"=Str.ofString "lay")=False:=eq_false (by decide +kernel)
def vf:(Str.ofString "load"=Str.ofString "hear")=False:=eq_false (by decide +kernel)
def wx:(Str.ofString "load"=Str.ofString "say")=False:=eq_false (by decide +kernel)
def yo:(Str.ofString "load"=Str.ofString "if")=False:=eq_false (by decide +kernel)
def yp:(Str.ofString "load"=Str.ofString "go")=False:=eq_false (by decide +kernel)
def wy:(Str.ofString "load"=Str.ofString "end")=False:=eq_false (by decide +kernel)
def tW:(Str.ofString "store"=Str.ofString "copy")=False:=eq_false (by decide +kernel)
def wz:(Str.ofString "store"=Str.ofString "op")=False:=eq_false (by decide +kernel)
def tX:(Str.ofString "store"=Str.ofString "load")=False:=eq_false (by decide +kernel)
def tY:(Str.ofString "store"=Str.ofString "take")=False:=eq_false (by decide +kernel)
def vg:(Str.ofString "store"=Str.ofString "lay")=False:=eq_false (by decide +kernel)
def tZ:(Str.ofString "store"=Str.ofString "hear")=False:=eq_false (by decide +kernel)
def vh:(Str.ofString "store"=Str.ofString "say")=False:=eq_false (by decide +kernel)
def wA:(Str.ofString "store"=Str.ofString "if")=False:=eq_false (by decide +kernel)
def wC:(Str.ofString "store"=Str.ofString "go")=False:=eq_false (by decide +kernel)
def vi:(Str.ofString "store"=Str.ofString "end")=False:=eq_false (by decide +kernel)
def vj:(Str.ofString "take"=Str.ofString "copy")=False:=eq_false (by decide +kernel)
def yq:(Str.ofString "take"=Str.ofString "op")=False:=eq_false (by decide +kernel)
def vk:(Str.ofString "take"=Str.ofString "load")=False:=eq_false (by decide +kernel)
def t0:(Str.ofString "take"=Str.ofString "store")=False:=eq_false (by decide +kernel)
def wE:(Str.ofString "take"=Str.ofString "lay")=False:=eq_false (by decide +kernel)
def vm:(Str.ofString "take"=Str.ofString "hear")=False:=eq_false (by decide +kernel)
def wF:(Str.ofString "take"=Str.ofString "say")=False:=eq_false (by decide +kernel)
def yr:(Str.ofString "take"=Str.ofString "if")=False:=eq_false (by decide +kernel)
def yt:(Str.ofString "take"=Str.ofString "go")=False:=eq_false (by decide +kernel)
def wG:(Str.ofString "take"=Str.ofString "end")=False:=eq_false (by decide +kernel)
def zc:(Str.ofString "lay"=Str.ofString "op")=False:=eq_false (by decide +kernel)
def wH:(Str.ofString "lay"=Str.ofString "take")=False:=eq_false (by decide +kernel)
def zd:(Str.ofString "lay"=Str.ofString "if")=False:=eq_false (by decide +kernel)
def ze:(Str.ofString "lay"=Str.ofString "go")=False:=eq_false (by decide +kernel)
def yu:(Str.ofString "lay"=Str.ofString "end")=False:=eq_false (by decide +kernel)
def vn:(Str.ofString "hear"=Str.ofString "copy")=False:=eq_false (by decide +kernel)
def yv:(Str.ofString "hear"=Str.ofString "op")=False:=eq_false (by decide +kernel)
def vo:(Str.ofString "hear"=Str.ofString "load")=False:=eq_false (by decide +kernel)
def t3:(Str.ofString "hear"=Str.ofString "store")=False:=eq_false (by decide +kernel)
def vp:(Str.ofString "hear"=Str.ofString "take")=False:=eq_false (by decide +kernel)
def wI:(Str.ofString "hear"=Str.ofString "lay")=False:=eq_false (by decide +kernel)
def wJ:(Str.ofString "hear"=Str.ofString "say")=False:=eq_false (by decide +kernel)
def yw:(Str.ofString "hear"=Str.ofString "if")=False:=eq_false (by decide +kernel)
def yx:(Str.ofString "hear"=Str.ofString "go")=False:=eq_false (by decide +kernel)
def wK:(Str.ofString "hear"=Str.ofString "end")=False:=eq_false (by decide +kernel)
def wL:(Str.ofString "say"=Str.ofString "copy")=False:=eq_false (by decide +kernel)
def zf:(Str.ofString "say"=Str.ofString "op")=False:=eq_false (by decide +kernel)
def wM:(Str.ofString "say"=Str.ofString "load")=False:=eq_false (by decide +kernel)
def vq:(Str.ofString "say"=Str.ofString "store")=False:=eq_false (by decide +kernel)
def wN:(Str.ofString "say"=Str.ofString "take")=False:=eq_false (by decide +kernel)
def yy:(Str.ofString "say"=Str.ofString "lay")=False:=eq_false (by decide +kernel)
def wO:(Str.ofString "say"=Str.ofString "hear")=False:=eq_false (by decide +kernel)
def zg:(Str.ofString "say"=Str.ofString "if")=False:=eq_false (by decide +kernel)
def zh:(Str.ofString "say"=Str.ofString "go")=False:=eq_false (by decide +kernel)
def yz:(Str.ofString "say"=Str.ofString "end")=False:=eq_false (by decide +kernel)
def yA:(Str.ofString "if"=Str.ofString "copy")=False:=eq_false (by decide +kernel)
def Ao:(Str.ofString "if"=Str.ofString "op")=False:=eq_false (by decide +kernel)
def yB:(Str.ofString "if"=Str.ofString "load")=False:=eq_false (by decide +kernel)
def wP:(Str.ofString "if"=Str.ofString "store")=False:=eq_false (by decide +kernel)
def yC:(Str.ofString "if"=Str.ofString "take")=False:=eq_false (by decide +kernel)
def zi:(Str.ofString "if"=Str.ofString "lay")=False:=eq_false (by decide +kernel)
def yD:(Str.ofString "if"=Str.ofString "hear")=False:=eq_false (by decide +kernel)
def zj:(Str.ofString "if"=Str.ofString "say")=False:=eq_false (by decide +kernel)
def Ap:(Str.ofString "if"=Str.ofString "go")=False:=eq_false (by decide +kernel)
def zk:(Str.ofString "if"=Str.ofString "end")=False:=eq_false (by decide +kernel)
def Aq:(Str.ofString "go"=Str.ofString "op")=False:=eq_false (by decide +kernel)
def yE:(Str.ofString "go"=Str.ofString "take")=False:=eq_false (by decide +kernel)
def zl:(Str.ofString "go"=Str.ofString "lay")=False:=eq_false (by decide +kernel)
def zm:(Str.ofString "go"=Str.ofString "end")=False:=eq_false (by decide +kernel)
def wQ:(Str.ofString "end"=Str.ofString "copy")=False:=eq_false (by decide +kernel)
def zn:(Str.ofString "end"=Str.ofString "op")=False:=eq_false (by decide +kernel)
def wR:(Str.ofString "end"=Str.ofString "load")=False:=eq_false (by decide +kernel)
def vv:(Str.ofString "end"=Str.ofString "store")=False:=eq_false (by decide +kernel)
def wS:(Str.ofString "end"=Str.ofString "take")=False:=eq_false (by decide +kernel)
def yF:(Str.ofString "end"=Str.ofString "lay")=False:=eq_false (by decide +kernel)
def wT:(Str.ofString "end"=Str.ofString "hear")=False:=eq_false (by decide +kernel)
def yG:(Str.ofString "end"=Str.ofString "say")=False:=eq_false (by decide +kernel)
def zo:(Str.ofString "end"=Str.ofString "if")=False:=eq_false (by decide +kernel)
def zp:(Str.ofString "end"=Str.ofString "go")=False:=eq_false (by decide +kernel)
section
variable {c f m:Str} {fa fb fe fk fo fx:Fg} {fs:Fgs} {g:Fd} {δ:Sl} {ch ch1 ch2 ch3:CH} {i:Nat} {ns:List Str} {l cs:List CV} {x v w:CV} {d:Dt} {o o':CO}
def wU (h4:fs δ ch=some (cs,ch2)):eC g fs δ ch=g cs ch2:=by
 unfold eC
 rw [h4,Option.bind_some]
def lA (h1:fa δ ch=some (x,ch1)) (h2:fs δ ch1=some (cs,ch2)):cT fa fs δ ch=some (x::cs,ch2):=by
 unfold cT
 rw [h1,Option.bind_some]
 dsimp only
 rw [h2,Option.map_some]
def mT (he:fe δ ch=some (v,ch1)) (ha:fa δ ch1=some (.ref i,ch2)) (hk:fk δ ch2=some (.dat d,ch3)) (ho:ch3[i]?=some o) (hp:si o d v=some o'):g9 fa fk fe δ ch=some (.nx δ (ch3.set i o')):=by
 unfold g9
 rw [he,Option.bind_some]
 dsimp only
 rw [ha,Option.bind_some]
 dsimp only
 rw [hk,Option.bind_some]
 simp only [ho,Option.bind_some,hp,Option.map_some]
def sZ (h1:fa δ ch=some (.ref i,ch1)) (h2:fb δ ch1=some (.dat d,ch2)) (ho:ch2[i]?=some o) (hx:ixO o d=some x):eIx fa fb δ ch=some (x,ch2):=by
 unfold eIx
 rw [h1,Option.bind_some]
 dsimp only
 rw [h2,Option.bind_some]
 simp only [ho,Option.bind_some,hx,Option.map_some]
def Ar {g:Dt->Dt->Option T} {y z:Dt} {t:T} (h1:fa δ ch=some (x,ch1)) (h2:fb δ ch1=some (v,ch2)) (hx:vw ch2 x=some y) (hv:vw ch2 v=some z) (hg:g y z=some t):e2 g fa fb δ ch=al ch2 t:=by
 unfold e2
 rw [h1,Option.bind_some]
 dsimp only
 rw [h2,Option.bind_some]
 simp only [hx,hv,Option.bind_some,hg]
def As {g:List Dt->Option T} {ds:List Dt} {t:T} (h1:fs δ ch=some (cs,ch1)) (h2:vws ch1 cs=some ds) (h3:g ds=some t):eB g fs δ ch=al ch1 t:=by
 unfold eB
 rw [h1,Option.bind_some]
 dsimp only
 rw [h2,Option.bind_some,h3,Option.bind_some]
def ck {fd:De->Option Dt} (h:fd (lo δ ch)=some d):eD fd δ ch=some (.dat d,ch):=by
 unfold eD
 rw [h]
 rfl
def mU {ft:De->Option Bool} {b:Bool} (h:ft (lo δ ch)=some b):tD ft δ ch=some (b,ch):=by
 unfold tD
 rw [h]
 rfl
def je (h:δ[i]?=some (some v)):eV i δ ch=some (v,ch):=by
 unfold eV
 rw [h]
def bu (h:fa δ ch=some (v,ch1)):bp i fa δ ch=some (.nx (δ.set i (some v)) ch1):=by
 unfold bp
 rw [h]
 rfl
def gl (h:fa δ ch=some (v,ch1)):dM fa δ ch=some (.rt v ch1):=by
 unfold dM
 rw [h]
 rfl
def mV {i:Nat} (hl:i<δ.length):mgS [i] δ ((lo δ ch).set i (some (.leaf d)))=δ.set i (some (.dat d)):=by
 have h2:(lo δ ch).length=δ.length:=fW ch [] δ
 apply List.ext_getElem?
 intro j
 unfold mgS
 rw [List.getElem?_mapIdx]
 by_cases e:i=j
 · subst e
   rw [List.getElem?_set_self hl,gQ hl,List.getElem?_set_self (by rw [h2];exact hl)]
   simp
 · rw [gN e,gN e]
   have e':¬ j=i:=fun z=>e z.symm
   cases h:δ[j]? with
   | none=>rfl
   | some x=>simp [e']
def gm {i:Nat} {g:Fs} {r:List Dt} {δ2:Sl} (hl:i<δ.length) (h:g (δ.set i (some (.dat d))) ch=some (.nx δ2 ch2)):gJ [i] (ay i) g (d::r) δ ch=gJ [i] (ay i) g r δ2 ch2:=by
 show ((ay i d (lo δ ch)).bind fun δ1=>(g (mgS [i] δ δ1) ch).bind fun o=>_)=_
 unfold ay
 rw [Option.bind_some,mV hl,h]
 rfl
end
def Atm.d:Atm->Dt
 | .nm x=>.str x
 | .vl i=>.int i
noncomputable def Rw.d:Rw->Dt
 | .copy x a=>.tup [.str "copy",.str x,a.d]
 | .op x s a b=>.tup [.str "op",.str x,.str s,a.d,b.d]
 | .load x c=>.tup [.str "load",.str x,.str c]
 | .store c a=>.tup [.str "store",.str c,a.d]
 | .take x f a=>.tup [.str "take",.str x,.str f,a.d]
 | .lay f a b=>.tup [.str "lay",.str f,a.d,b.d]
 | .hear x=>.tup [.str "hear",.str x]
 | .say a=>.tup [.str "say",a.d]
 | .iff a g=>.tup [.str "if",a.d,.int g]
 | .go g=>.tup [.str "go",.int g]
 | .fin a=>.tup [.str "end",a.d]
def dI (j:Nat):Dt:=.int (j:Int)
def dS (l:List Str):Dt:=.lst (l.map .str)
def dF (f:List (List Str)):Dt:=.lst (f.map dS)
def dR (rows:List Rw):Dt:=.tup (rows.map Rw.d)
def fG {α:Type} {bb:Dt->De->Option De} {ft:De->Option Bool} {fe:De->Option Dt} {δ:De} {f h:α->Dt}:∀ {l:List α},(∀ a∈l,∃ δ1,bb (f a) δ=some δ1/\ft δ1=some true/\fe δ1=some (h a))->ca bb ft fe δ (l.map f)=some (l.map h)
 | [],_=>rfl
 | a::l,q=>by
  obtain ⟨δ1,h1,h2,h3⟩:=q a List.mem_cons_self
  rw [List.map_cons]
  unfold ca
  rw [h1,Option.bind_some,h2,Option.bind_some,if_pos rfl,h3,Option.bind_some,fG fun e he=>q e (List.mem_cons_of_mem _ he)]
  rfl
def jf {α:Type} {bb:Dt->De->Option De} {ft:De->Option Bool} {fe:De->Option Dt} {δ:De} {f h:α->Dt} {p:α->Bool}:∀ {l:List α},(∀ a∈l,∃ δ1,bb (f a) δ=some δ1/\ft δ1=some (p a)/\(p a=true->fe δ1=some (h a)))->ca bb ft fe δ (l.map f)=some ((l.filter p).map h)
 | [],_=>rfl
 | a::l,q=>by
  obtain ⟨δ1,h1,h2,h3⟩:=q a List.mem_cons_self
  have ih:=jf (l:=l) fun e he=>q e (List.mem_cons_of_mem _ he)
  rw [List.map_cons]
  unfold ca
  rw [h1,Option.bind_some,h2,Option.bind_some]
  cases hp:p a with
  | true =>
   rw [if_pos rfl,h3 hp,Option.bind_some,ih,List.filter_cons_of_pos hp]
   rfl
  | false =>
   rw [if_neg (by simp),ih,List.filter_cons_of_neg (by simp [hp])]
def qB {α:Type} {f:α->Dt}:∀ (l:List α) (i:Nat),cZ i (l.map f)=(l.mapIdx fun k a=>Dt.tup [.int ((i+k:Nat):Int),f a])
 | [],_=>rfl
 | a::l,i=>by
  rw [List.map_cons,cZ,qB l (i+1),List.mapIdx_cons]
  congr 1
  congr 1
  funext k a
  rw [show i+1+k=i+(k+1) by omega]
def jg {α:Type} {bb:Dt->De->Option De} {fe:De->Option Dt} {δ:De} {f:α->Dt} {h:Nat->α->Dt}:∀ {l:List α} (i:Nat),(∀ k a,∃ δ1,bb (.tup [.int ((k:Nat):Int),f a]) δ=some δ1/\fe δ1=some (h k a))->ca bb cQ fe δ (cZ i (l.map f))=some (l.mapIdx fun k a=>h (i+k) a)
 | [],_,_=>rfl
 | a::l,i,q=>by
  obtain ⟨δ1,h1,h3⟩:=q i a
  rw [List.map_cons,cZ]
  unfold ca
  rw [h1,Option.bind_some]
  show ((fe δ1).bind fun y=>_)=_
  rw [h3,Option.bind_some,jg (i+1) q,List.mapIdx_cons]
  show some _=some _
  congr 1
  congr 1
  congr 1
  funext k a
  rw [show i+1+k=i+(k+1) by omega]
def cG (l:List Str):(l.map Dt.str).all bD=true:=by
 rw [List.all_eq_true]
 intro x hx
 obtain ⟨y,_,rfl⟩:=List.mem_map.mp hx
 rfl
def vz (l:List Str) (x:Str):((l.map Dt.str).any fun y=>eqF y (.str x))=decide (x∈l):=by
 induction l with
 | nil=>rfl
 | cons a l ih =>
  rw [List.map_cons,List.any_cons,ih,show eqF (.str a) (.str x)=decide (a=x) from rfl]
  by_cases h:a=x
  · simp [h]
  · have:¬ x=a:=fun z=>h z.symm
    simp [h,this]
def gn {neg:Bool} {l:List Str} {x:Str}:cv neg (.str x) (.lst (l.map .str))=some (.leaf (.bl (if neg then !decide (x∈l) else decide (x∈l)))):=by
 rw [Ai (by rw [cG];rfl),vz]
def mW {l:List Str} (h:l.length<64):ee [.lst (l.map .str)]=some (.lst ((bn (cE l)).map .str)):=by
 unfold ee
 dsimp only
 rw [dH,Option.bind_some,if_pos h]
def oo {l:List Str} (h:l.length<64):da [.lst (l.map .str)]=some (.lst ((bn l).map .str)):=by
 unfold da
 dsimp only
 rw [dH,Option.bind_some,if_pos h]
def qC {l:List Str} {vs:List Dt} (h:l.length<64):i6 [.dct (l.map Sum.inr) vs]=some (.lst ((bn l).map .str)):=by
 unfold i6
 dsimp only
 rw [hU,Option.bind_some,if_pos h]
def extL (l m:List Dt) (i:Nat) (δ:De):Option Out:=if l.length+m.length<=sizeLine then some (.nx (δ.set i (some (.lst (l++m))))) else none
def vA {l m:List Dt} {i:Nat} {δ:De} (h:l.length+m.length<=1000000):extL l m i δ=some (.nx (δ.set i (some (.lst (l++m))))):=if_pos (small h)
def At {i:Nat} {f:De->Option T} {δ:De} {l m:List Dt} (h:δ[i]?=some (some (.lst l))) (hf:f δ=some (.lst m)):y44 i f δ=extL l m i δ:=by
 unfold y44
 rw [h]
 dsimp only
 rw [hf]
 rfl
def j9:∀ {l m:List Str},peqs (l.map .str) (m.map .str)=decide (l=m)
 | [],[]=>rfl
 | [],_::_=>rfl
 | _::_,[]=>rfl
 | a::l,b::m=>by
  rw [List.map_cons,List.map_cons]
  show (decide (a=b)&&peqs (l.map .str) (m.map .str))=_
  rw [j9]
  by_cases h1:a=b<;>by_cases h2:l=m<;>simp [h1,h2]
def jh {neg:Bool} {l m:List Str}:gEq neg (.lst (l.map .str)) (.lst (m.map .str))=some (.leaf (.bl (if neg then !decide (l=m) else decide (l=m)))):=by
 rw [sY (cG l) (cG m),j9]
end L2
local macro_rules | `(tactic| walk_at "d") => `(tactic| simp -implicitDefEqProofs only [L2.runD_d, L2.Az, L2.sSeq_d, L2.Ak, L2.Al, L2.cW, L2.bz, L2.b6, L2.jL, L2.sIf_d, L2.AA, L2.AB, L2.kB_d, L2.sFor_d, L2.qi, L2.rZ, L2.toT, L2.toD, L2.T.d, L2.kD, L2.vL, L2.vB, L2.d2, L2.tB2, L2.iJ, L2.nI, L2.fAnd_d, L2.vAnd_d, L2.vIf_d, L2.ao, L2.ae, L2.vTup_d, L2.oj, L2.em, L2.AC, L2.eS, L2.aw, L2.jR, L2.AD, L2.vSl, L2.wc, L2.mh, L2.g7, L2.we, L2.mj, L2.qk, L2.fIt, L2.dj, L2.ay, L2.dC, L2.cQ, L2.gAdd_i, L2.atI_0, L2.atI_1, L2.atI_2, L2.atI_3, L2.atI_4, L2.Ai, L2.gIn_t, L2.AE, L2.AF, L2.eqF_s, L2.eqF_i, List.all_cons, List.all_nil, List.any_cons, List.any_nil, L2.gSub_i, L2.yd, L2.gMul_r, L2.oe, L2.Ay, L2.gMod_w, L2.gCmp_i, L2.gEq_ii, L2.gEq_ss, L2.yc, L2.sQ, L2.isNon, L2.mR, L2.pG, L2.Ah, L2.gLen_l, L2.gLen_t, L2.Aj, L2.itD_l, L2.itD_t, L2.truD_b, L2.asB_b, L2.asBl_b, L2.sU, List.map_cons, List.map_nil, List.length_cons, List.length_nil, List.cons_append, List.nil_append, List.replicate, List.getElem?_cons_zero, List.getElem?_cons_succ, List.set_cons_zero, List.set_cons_succ, Option.bind_some, Option.bind_none, Option.map_some, Option.map_none, Option.join_some, Option.join_none, Nat.reduceAdd, Nat.reduceSub, Nat.reduceLeDiff, Int.reduceLT, Int.reduceEq, eq_self, Int.reduceNeg, Int.reduceLE, if_true, if_false, ite_true, ite_false, Bool.false_eq_true, decide_true, decide_false, Bool.not_true, Bool.not_false, Bool.and_true, Bool.true_and, Bool.or_true, Bool.true_or, Bool.or_false, Bool.false_or, Bool.and_false, Bool.false_and, String.reduceBEq, reduceCtorEq])
local macro_rules | `(tactic| walk_at "k") => `(tactic| simp -implicitDefEqProofs only [L2.runD_d, L2.Az, L2.sSeq_d, L2.Ak, L2.Al, L2.cW, L2.bz, L2.b6, L2.jL, L2.sIf_d, L2.AA, L2.AB, L2.kB_d, L2.sFor_d, L2.qi, L2.rZ, L2.toT, L2.toD, L2.T.d, L2.kD, L2.vL, L2.vB, L2.d2, L2.tB2, L2.iJ, L2.nI, L2.fAnd_d, L2.vAnd_d, L2.vIf_d, L2.ao, L2.ae, L2.vTup_d, L2.oj, L2.em, L2.AC, L2.eS, L2.aw, L2.jR, L2.AD, L2.vSl, L2.wc, L2.mh, L2.g7, L2.we, L2.mj, L2.qk, L2.fIt, L2.dj, L2.ay, L2.dC, L2.cQ, L2.gAdd_i, L2.atI_0, L2.atI_1, L2.atI_2, L2.atI_3, L2.atI_4, L2.Ai, L2.gIn_t, L2.AE, L2.AF, L2.eqF_s, L2.eqF_i, List.all_cons, List.all_nil, List.any_cons, List.any_nil, L2.gSub_i, L2.yd, L2.gMul_r, L2.oe, L2.Ay, L2.gMod_w, L2.gCmp_i, L2.gEq_ii, L2.gEq_ss, L2.yc, L2.sQ, L2.isNon, L2.mR, L2.pG, L2.Ah, L2.gLen_l, L2.gLen_t, L2.Aj, L2.itD_l, L2.itD_t, L2.truD_b, L2.asB_b, L2.asBl_b, L2.sU, List.map_cons, List.map_nil, List.length_cons, List.length_nil, List.cons_append, List.nil_append, List.replicate, List.getElem?_cons_zero, List.getElem?_cons_succ, List.set_cons_zero, List.set_cons_succ, Option.bind_some, Option.bind_none, Option.map_some, Option.map_none, Option.join_some, Option.join_none, Nat.reduceAdd, Nat.reduceSub, Nat.reduceLeDiff, Int.reduceLT, Int.reduceEq, eq_self, Int.reduceNeg, Int.reduceLE, if_true, if_false, ite_true, ite_false, Bool.false_eq_true, decide_true, decide_false, Bool.not_true, Bool.not_false, Bool.and_true, Bool.true_and, Bool.or_true, Bool.true_or, Bool.or_false, Bool.false_or, Bool.and_false, Bool.false_and, String.reduceBEq, reduceCtorEq, L2.yg, L2.u8, L2.tU, L2.u9, L2.wo, L2.vc, L2.wq, L2.yh, L2.yi, L2.wu, L2.yj, L2.yk, L2.wv, L2.yl, L2.yZ, L2.ym, L2.za, L2.Am, L2.An, L2.zb, L2.vd, L2.yn, L2.tV, L2.ve, L2.ww, L2.vf, L2.wx, L2.yo, L2.yp, L2.wy, L2.tW, L2.wz, L2.tX, L2.tY, L2.vg, L2.tZ, L2.vh, L2.wA, L2.wC, L2.vi, L2.vj, L2.yq, L2.vk, L2.t0, L2.wE, L2.vm, L2.wF, L2.yr, L2.yt, L2.wG, L2.zc, L2.wH, L2.zd, L2.ze, L2.yu, L2.vn, L2.yv, L2.vo, L2.t3, L2.vp, L2.wI, L2.wJ, L2.yw, L2.yx, L2.wK, L2.wL, L2.zf, L2.wM, L2.vq, L2.wN, L2.yy, L2.wO, L2.zg, L2.zh, L2.yz, L2.yA, L2.Ao, L2.yB, L2.wP, L2.yC, L2.zi, L2.yD, L2.zj, L2.Ap, L2.zk, L2.Aq, L2.yE, L2.zl, L2.zm, L2.wQ, L2.zn, L2.wR, L2.vv, L2.wS, L2.yF, L2.wT, L2.yG, L2.zo, L2.zp])
namespace P32
open PySem L2
def oq (n:Nat) (r:Rw):y39 [.int n,r.d]=some (.leaf (.tup ((r.outs n).map dI))):=by
 cases r<;>(unfold y39;simp only [Rw.d,Rw.outs,dI,List.map];walk_at "k")<;>rfl
def dW (rows:List Rw):Dt:=.lst (rows.mapIdx fun k r=>.tup ((r.outs k).map dI))
def vC (c s:Dt) (rows:List Rw) (h:rows.length<=1000):fE [.tup [c,s,dR rows]]=some (.lst (rows.mapIdx fun k r=>.tup ((r.outs k).map dI))):=by
 unfold fE
 walk_at "k"
 unfold pe dR
 walk_at "k"
 rw [jg (h:=fun k r=>.tup ((r.outs k).map dI)) 0 fun k a=>⟨_,rfl,by
  unfold z66
  walk_at "k"
  rw [oq]
  walk_at "k"⟩]
 walk_at "k"
 rw [em (by rw [List.length_mapIdx];omega)]
 walk_at "k"
 simp
def s0 (r:Rw):z47 [r.d]=some (.leaf (match r.sets with | some x=>.str x | none=>.non)):=by
 cases r<;>(unfold z47 gU;simp only [Rw.d,Rw.sets];walk_at "k")<;>rfl
def tf (r:Rw):q47 [r.d]=some (.leaf (.tup (r.atoms.map Atm.d))):=by
 cases r<;>(unfold q47;simp only [Rw.d,Rw.atoms,List.map];walk_at "k")<;>rfl
def fH (x0:Option T):∀ (as:List Atm) (acc:List Str) (x2:Option T),acc.length+as.length<=10->∃ y,cz (ay 2) z45 (as.map Atm.d) [x0,some (.lst (acc.map .str)),x2]=some (.nx [x0,some (.lst (((nms as).foldl bI acc).map .str)),y])
 | [],acc,x2,_=>⟨x2,rfl⟩
 | .vl i::as,acc,x2,h=>by
  obtain ⟨y,e⟩:=fH x0 as acc (some (.leaf (.int i))) (by simp at h ⊢;omega)
  refine ⟨y,?_⟩
  rw [List.map_cons,bw (δ1:=[x0,some (.lst (acc.map .str)),some (.leaf (.int i))]) (δ2:=[x0,some (.lst (acc.map .str)),some (.leaf (.int i))]) rfl (by unfold z45;walk_at "k"<;>rfl)]
  exact e
 | .nm x::as,acc,x2,h=>by
  have hl:acc.length<10:=by simp at h;omega
  obtain ⟨y,e⟩:=fH x0 as (bI acc x) (some (.leaf (.str x))) (by
   have:(bI acc x).length<=acc.length+1:=by unfold bI;split<;>simp
   simp at h ⊢;omega)
  refine ⟨y,?_⟩
  rw [List.map_cons,bw (δ1:=[x0,some (.lst (acc.map .str)),some (.leaf (.str x))]) (δ2:=[x0,some (.lst ((bI acc x).map .str)),some (.leaf (.str x))]) rfl ?_]
  · exact e
  · unfold z45 bI
    walk_at "k"
    rw [gn]
    walk_at "k"
    by_cases hx:x∈acc
    · rw [iq (by simp [hx]),if_pos hx]
      rfl
    · rw [ip (by simp [hx]),if_neg hx,j8 rfl]
      walk_at "k"
      rw [eS (by rw [List.length_map];omega)]
      simp
def tj (r:Rw):q48 [r.d]=some (.lst (r.reads.map .str)):=by
 have hl:r.atoms.length<=2:=by cases r<;>simp [Rw.atoms]
 obtain ⟨y,e⟩:=fH (some (.leaf r.d)) r.atoms [] none (by simp;omega)
 unfold q48
 walk_at "k"
 rw [tf]
 walk_at "k"
 rw [show ([]:List Dt)=([]:List Str).map .str from rfl,e]
 walk_at "k"
 rfl
def qD (r:Rw) (l:List Str):ca (ay 0) q31 (vL 0) [none,some (.leaf r.d)] (l.map .str)=some ((l.filter fun b=>decide (r.sets≠some b)).map .str):=
 jf fun b _=>⟨[some (.leaf (.str b)),some (.leaf r.d)],rfl,by
  unfold q31
  walk_at "k"
  rw [s0]
  walk_at "k"
  cases hs:r.sets with
  | none =>
   walk_at "k"
   rw [show gEq true (Dt.str b) Dt.non=some (.leaf (.bl true)) from rfl]
   simp [asB]
  | some x =>
   walk_at "k"
   by_cases h:b=x
   · simp [h]
   · have:¬ x=b:=fun z=>h z.symm
     simp [h,this],fun _=>rfl⟩
def ji (r:Rw) (x1:Option T):∀ (ls:List (List Str)) (acc:List Str) (x3:Option T),acc.length+(ls.map List.length).sum<=1000->∃ y,cz (ay 3) z31 (ls.map dS) [some (.leaf r.d),x1,some (.lst (acc.map .str)),x3]=some (.nx [some (.leaf r.d),x1,some (.lst ((acc++de r ls).map .str)),y])
 | [],acc,x3,_=>⟨x3,by unfold de;simp [cz]⟩
 | l::ls,acc,x3,h=>by
  simp only [List.map_cons,List.sum_cons] at h
  have hf:=List.length_filter_le (fun b=>decide (r.sets≠some b)) l
  obtain ⟨y,e⟩:=ji r x1 ls (acc++l.filter fun b=>decide (r.sets≠some b)) (some (.leaf (dS l))) (by rw [List.length_append];omega)
  refine ⟨y,?_⟩
  rw [List.map_cons,bw (δ1:=[some (.leaf r.d),x1,some (.lst (acc.map .str)),some (.leaf (dS l))]) (δ2:=[some (.leaf r.d),x1,some (.lst ((acc++l.filter fun b=>decide (r.sets≠some b)).map .str)),some (.leaf (dS l))]) rfl ?_]
  · rw [e]
    unfold de
    simp
  · unfold z31
    rw [At (l:=acc.map .str) (m:=(l.filter fun b=>decide (r.sets≠some b)).map .str) rfl (sV (ds:=l.map .str) rfl (qD r l) (by rw [List.length_map];omega)),vA (by rw [List.length_map,List.length_map];omega)]
    simp
def tm (r:Rw) (ls:List (List Str)) (h:(ls.map List.length).sum<=60):y17 [r.d,.lst (ls.map dS)]=some (.lst ((NA r ls).map .str)):=by
 have hr:=r.reads_len
 have hl:(de r ls).length<=(ls.map List.length).sum:=by
  clear h hr
  induction ls with
  | nil=>simp [de]
  | cons l ls ih =>
   have hf:=List.length_filter_le (fun b=>decide (r.sets≠some b)) l
   unfold de at ih ⊢
   simp only [List.flatMap_cons,List.length_append,List.map_cons,List.sum_cons]
   omega
 obtain ⟨y,e⟩:=ji r (some (.leaf (.lst (ls.map dS)))) ls r.reads none (by omega)
 unfold y17
 walk_at "k"
 rw [tj]
 walk_at "k"
 rw [e]
 walk_at "k"
 rw [mW (by rw [List.length_append];omega)]
 rfl
def mX (rows:List Rw) (n:Nat) (r:Rw) (h:rows[n]?=some r):y16 [dR rows,.int n]=some (.lst ((r.outs n).map dI)):=by
 have e:aA (dR rows) (.int n)=some (.leaf r.d):=by
  unfold dR
  rw [pG,bh,List.getElem?_map,h]
  rfl
 cases r<;>(unfold y16;simp only [Rw.d] at e;walk_at "k";repeat (rw [e];walk_at "k"))<;>rfl
def sv (r:Rw):Dt:=match r.sets with | some x=>.str x | none=>.non
def gW (r:Rw):z17 [r.d]=some (.leaf (sv r)):=by
 cases r<;>(unfold z17 sv;simp only [Rw.d,Rw.sets];walk_at "k")<;>rfl
def gY:∀ as:List Atm,ca (ay 0) z44 (vL 0) [none] (as.map Atm.d)=some ((nms as).map .str)
 | []=>rfl
 | .nm x::as=>by
  rw [List.map_cons]
  unfold ca
  rw [gY as]
  rfl
 | .vl i::as=>by
  rw [List.map_cons]
  unfold ca
  rw [gY as]
  rfl
def fI (r:Rw):z14 [r.d]=some (.lst ((nms r.atoms).map .str)):=by
 have hl:(nms r.atoms).length<=2:=Nat.le_trans (gi _) (by cases r<;>simp [Rw.atoms])
 have e:=gY r.atoms
 cases r<;>(simp only [Rw.atoms,List.map] at e hl ⊢;unfold z14;simp only [Rw.d];walk_at "k";first | rw [e] | skip)<;>(try walk_at "k")<;>(try rw [em (by rw [List.length_map];omega)])<;>rfl
def duL (ss:List Str):List (Key×Dt):=ss.map fun x=>(.inr x,.bl true)
def pH (x:Str):∀ ss:List Str,mm (duL ss) (.inr x) (.bl true)=duL (bI ss x)
 | []=>rfl
 | a::ss=>by
  have ih:=pH x ss
  unfold duL at ih ⊢
  rw [List.map_cons]
  unfold mm
  by_cases h:a=x
  · subst h
    rw [if_pos rfl]
    unfold bI
    rw [if_pos (.head _)]
    rfl
  · rw [if_neg (fun z=>h (Sum.inr.inj z)),ih]
    unfold bI
    have h':¬ x=a:=fun z=>h z.symm
    by_cases hx:x∈ss
    · rw [if_pos hx,if_pos (.tail _ hx)]
      rfl
    · rw [if_neg hx,if_neg (by simp [hx,h'])]
      rfl
def mY (ss:List Str):(duL ss).map (·.1)=ss.map Sum.inr:=by unfold duL;simp
def yH {ss:List Str} (h:ss.Nodup):((duL ss).map (·.1)).Nodup:=by
 rw [mY,List.nodup_iff_pairwise_ne,List.pairwise_map]
 exact List.Pairwise.imp (fun z e=>z (Sum.inr.inj e)) h
def pI (x0 x1 x2 x5:Option T) {ss:List Str} (nd:ss.Nodup) (hl:ss.length<1000) (x:Str):rZ 3 (vB 4) (kD (.bl true)) [x0,x1,x2,some (.dct (duL ss)),some (.leaf (.str x)),x5]=some (.nx [x0,x1,x2,some (.dct (duL (bI ss x))),some (.leaf (.str x)),x5]):=by
 show (if _ then _ else none)=_
 rw [if_pos ⟨ei (by unfold duL;rw [List.length_map];omega),yH nd⟩,pH]
 rfl
def jj (ss:List Str) (x:Str):(bI ss x).length<=ss.length+1:=by unfold bI;split<;>simp
def ka (x0 x1 x2 x5:Option T):∀ (bs ss:List Str) (x4:Option T),ss.Nodup->ss.length+bs.length<1000->∃ y,cz (ay 4) y37 (bs.map .str) [x0,x1,x2,some (.dct (duL ss)),x4,x5]=some (.nx [x0,x1,x2,some (.dct (duL (bs.foldl bI ss))),y,x5])
 | [],ss,x4,_,_=>⟨x4,rfl⟩
 | b::bs,ss,x4,nd,hl=>by
  have:=jj ss b
  obtain ⟨y,e⟩:=ka x0 x1 x2 x5 bs (bI ss b) (some (.leaf (.str b))) (fF nd) (by simp at hl;omega)
  refine ⟨y,?_⟩
  rw [List.map_cons,bw (g:=y37) (δ1:=[x0,x1,x2,some (.dct (duL ss)),some (.leaf (.str b)),x5]) rfl (pI x0 x1 x2 x5 nd (by simp at hl;omega) b)]
  exact e
def ou (rows:List Rw) (r:Rw) (n:Nat) (hr:rows[n]?=some r) (x1 x5:Option T):∀ (bs ss:List Str) (x4:Option T),ss.Nodup->ss.length+bs.length<1000->∃ y,cz (ay 4) q29 (bs.map .str) [some (.leaf (dR rows)),x1,some (.leaf (.int n)),some (.dct (duL ss)),x4,x5]=some (.nx [some (.leaf (dR rows)),x1,some (.leaf (.int n)),some (.dct (duL ((bs.filter fun b=>decide (r.sets≠some b)).foldl bI ss))),y,x5])
 | [],ss,x4,_,_=>⟨x4,rfl⟩
 | b::bs,ss,x4,nd,hl=>by
  have hz:=jj ss b
  have e0:aA (dR rows) (.int n)=some (.leaf r.d):=by
   unfold dR
   rw [pG,bh,List.getElem?_map,hr]
   rfl
  have hq:gEq true (.str b) (sv r)=some (.leaf (.bl (decide (r.sets≠some b)))):=by
   unfold sv
   cases r.sets with
   | none=>simp;rfl
   | some x =>
    show gEq true (.str b) (.str x)=_
    rw [sQ]
    by_cases h:b=x
    · simp [h]
    · have:¬ x=b:=fun z=>h z.symm
      simp [h,this]
  by_cases hb:r.sets≠some b
  · obtain ⟨y,e⟩:=ou rows r n hr x1 x5 bs (bI ss b) (some (.leaf (.str b))) (fF nd) (by simp at hl;omega)
    refine ⟨y,?_⟩
    rw [List.map_cons,List.filter_cons_of_pos (by simpa using hb),List.foldl_cons,bw (δ1:=[some (.leaf (dR rows)),x1,some (.leaf (.int n)),some (.dct (duL ss)),some (.leaf (.str b)),x5]) (δ2:=[some (.leaf (dR rows)),x1,some (.leaf (.int n)),some (.dct (duL (bI ss b))),some (.leaf (.str b)),x5]) rfl ?_]
    · exact e
    · unfold q29
      walk_at "k"
      rw [e0]
      walk_at "k"
      rw [gW]
      walk_at "k"
      rw [hq]
      walk_at "k"
      rw [ip (by simpa using hb)]
      exact pI _ _ _ _ nd (by simp at hl;omega) b
  · obtain ⟨y,e⟩:=ou rows r n hr x1 x5 bs ss (some (.leaf (.str b))) nd (by simp at hl;omega)
    refine ⟨y,?_⟩
    rw [List.map_cons,List.filter_cons_of_neg (by simpa using hb),bw (δ1:=[some (.leaf (dR rows)),x1,some (.leaf (.int n)),some (.dct (duL ss)),some (.leaf (.str b)),x5]) (δ2:=[some (.leaf (dR rows)),x1,some (.leaf (.int n)),some (.dct (duL ss)),some (.leaf (.str b)),x5]) rfl ?_]
    · exact e
    · unfold q29
      walk_at "k"
      rw [e0]
      walk_at "k"
      rw [gW]
      walk_at "k"
      rw [hq]
      walk_at "k"
      rw [iq (by simpa using hb)]
      rfl
def pJ (rows:List Rw) (found:List (List Str)) (r:Rw) (n:Nat) (hr:rows[n]?=some r) (hs:∀ l∈found,l.length<=12):∀ (js:List Nat) (ss:List Str) (x4 x5:Option T),(∀ j∈js,j<found.length)->ss.Nodup->ss.length+12*js.length<900→
  ∃ y z,cz (ay 5) q39 (js.map dI) [some (.leaf (dR rows)),some (.leaf (dF found)),some (.leaf (.int n)),some (.dct (duL ss)),x4,x5]=some (.nx [some (.leaf (dR rows)),some (.leaf (dF found)),some (.leaf (.int n)),some (.dct (duL ((de r (js.map fun j=>found.getD j [])).foldl bI ss))),y,z])
 | [],ss,x4,x5,_,_,_=>⟨x4,x5,rfl⟩
 | j::js,ss,x4,x5,hj,nd,hl=>by
  have hjl:=hj j (.head _)
  have ej:found[j]?=some found[j]:=by simp [hjl]
  have hjs:(found[j]).length<=12:=hs _ (List.getElem_mem _)
  obtain ⟨y1,e1⟩:=ou rows r n hr (some (.leaf (dF found))) (some (.leaf (dI j))) found[j] ss x4 nd (by simp at hl;omega)
  have hf:((found[j].filter fun b=>decide (r.sets≠some b)).foldl bI ss).length<=ss.length+12:=by
   have h1:=List.length_filter_le (fun b=>decide (r.sets≠some b)) found[j]
   have h2:∀ (l ss:List Str),(l.foldl bI ss).length<=ss.length+l.length:=fun l=>by
    induction l with
    | nil=>intro ss;simp
    | cons a l ih =>
     intro ss
     have:=ih (bI ss a)
     have:=jj ss a
     simp only [List.foldl_cons,List.length_cons]
     omega
   have:=h2 (found[j].filter fun b=>decide (r.sets≠some b)) ss
   omega
  obtain ⟨y,z,e⟩:=pJ rows found r n hr hs js ((found[j].filter fun b=>decide (r.sets≠some b)).foldl bI ss) y1 (some (.leaf (dI j))) (fun k hk=>hj k (.tail _ hk)) (bB nd) (by simp at hl;omega)
  refine ⟨y,z,?_⟩
  rw [List.map_cons,bw (δ1:=[some (.leaf (dR rows)),some (.leaf (dF found)),some (.leaf (.int n)),some (.dct (duL ss)),x4,some (.leaf (dI j))]) rfl ?_]
  · rw [e]
    unfold de
    rw [List.map_cons,List.flatMap_cons,List.foldl_append,gj ej]
  · unfold q39
    walk_at "k"
    have e2:aA (dF found) (dI j)=some (.leaf (dS found[j])):=by
     unfold dF dI
     rw [mR,bh,List.getElem?_map,ej]
     rfl
    rw [e2]
    walk_at "k"
    unfold dS
    walk_at "k"
    exact e1
def tq (rows:List Rw) (found:List (List Str)) (r:Rw) (n:Nat) (l:List Str) (hr:rows[n]?=some r) (hn:found[n]?=some l) (hs:∀ l∈found,l.length<=12) (hj:∀ j∈r.outs n,j<found.length) (he:nw rows found n=l) :
  y25 [dR rows,dF found,.int n]=some (.leaf (.bl true)):=by
 have e0:aA (dR rows) (.int n)=some (.leaf r.d):=by
  unfold dR
  rw [pG,bh,List.getElem?_map,hr]
  rfl
 have e1:aA (dF found) (.int n)=some (.leaf (dS l)):=by
  unfold dF
  rw [mR,bh,List.getElem?_map,hn]
  rfl
 have ha:=gi r.atoms
 have ha2:r.atoms.length<=2:=by cases r<;>simp [Rw.atoms]
 have ho:=r.outs_len n
 have hrl:=r.reads_len
 obtain ⟨y1,e2⟩:=ka (some (.leaf (dR rows))) (some (.leaf (dF found))) (some (.leaf (.int n))) none (nms r.atoms) [] none List.nodup_nil (by simp;omega)
 obtain ⟨y2,z2,e3⟩:=pJ rows found r n hr hs (r.outs n) r.reads y1 none hj (dc _) (by omega)
 have hd:duL []=[]:=rfl
 have hlen:((de r ((r.outs n).map fun j=>found.getD j [])).foldl bI r.reads).length<64:=by
  have h1:∀ x∈((de r ((r.outs n).map fun j=>found.getD j [])).foldl bI r.reads),x∈NA r ((r.outs n).map fun j=>found.getD j []):=fun x hx=>by
   unfold NA
   rw [dw,onces_mem,List.mem_append]
   exact foldl_once_mem.mp hx
  have h2:((de r ((r.outs n).map fun j=>found.getD j [])).foldl bI r.reads).length<=(NA r ((r.outs n).map fun j=>found.getD j [])).length:=cu (bB (dc _)) h1
  have h3:NA r ((r.outs n).map fun j=>found.getD j [])=l:=by
   rw [<- he]
   unfold nw
   rw [hr]
  rw [h3] at h2
  have:=hs l (List.mem_of_getElem? hn)
  omega
 have hend:bn ((de r ((r.outs n).map fun j=>found.getD j [])).foldl bI r.reads)=l:=by
  rw [<- he]
  refine i8 (lv (bB (dc _))) (sM _ _ _) fun x=>?_
  rw [dw,foldl_once_mem]
  unfold nw
  rw [hr]
  show _↔x∈bn (cE _)
  rw [dw,onces_mem,List.mem_append]
 unfold y25 rY
 walk_at "k"
 rw [e0]
 walk_at "k"
 rw [fI]
 walk_at "k"
 rw [show ([]:List (Key×Dt))=duL [] from rfl,e2]
 walk_at "k"
 rw [mX rows n r hr]
 walk_at "k"
 rw [show (nms r.atoms).foldl bI []=r.reads from rfl,e3]
 walk_at "k"
 rw [e1]
 walk_at "k"
 unfold dS
 walk_at "k"
 rw [mY,qC hlen,hend]
 walk_at "k"
 rw [e1]
 walk_at "k"
 unfold dS
 rw [jh]
 simp [ye]
end P32
namespace L2
open PySem PySem.Spec PyProof.Rows
def cS (l:List Str):CO:=.lst (l.map fun x=>.dat (.str x))
structure Pl (ch:CH) (fi:Nat) (refs:List Nat) (found:List (List Str)):Prop where
 top:ch[fi]?=some (.lst (refs.map CV.ref))
 len:refs.length=found.length
 out:fi∉refs
 has:∀ (k r:Nat) (l:List Str),refs[k]?=some r->found[k]?=some l->ch[r]?=some (cS l)
def gp {ch:CH} {d:Dt}:∀ n:Nat,vwD ch n (.dat d)=some d
 | 0=>by simp only [vwD]
 | n+1=>by simp only [vwD]
def kb {ch:CH} {n:Nat}:∀ l:List Str,fC (vwD ch n) (l.map fun x=>CV.dat (.str x))=some (l.map .str)
 | []=>rfl
 | x::l=>by
  rw [List.map_cons]
  unfold fC
  rw [gp,Option.bind_some,kb l]
  rfl
def mZ {ch:CH} {r n:Nat} {l:List Str} (h:ch[r]?=some (cS l)):vwD ch (n+1) (.ref r)=some (dS l):=by
 unfold vwD
 rw [h]
 show (fC (vwD ch n) _).map _=_
 rw [kb]
 rfl
def kc {ch:CH} {n:Nat}:∀ {refs:List Nat} {found:List (List Str)},refs.length=found.length->(∀ (k r:Nat) (l:List Str),refs[k]?=some r->found[k]?=some l->ch[r]?=some (cS l))->fC (vwD ch (n+1)) (refs.map CV.ref)=some (found.map dS)
 | [],[],_,_=>rfl
 | [],_::_,h,_=>by cases h
 | _::_,[],h,_=>by cases h
 | r::refs,l::found,h,q=>by
  rw [List.map_cons]
  unfold fC
  rw [mZ (q 0 r l rfl rfl),Option.bind_some,kc (by simpa using h) fun k r l h1 h2=>q (k+1) r l (by simpa using h1) (by simpa using h2)]
  rfl
section
variable {ch:CH} {fi:Nat} {refs:List Nat} {found:List (List Str)}
def Pl.view (h:Pl ch fi refs found):vwD ch 2 (.ref fi)=some (dF found):=by
 unfold vwD
 rw [h.top]
 show (fC (vwD ch 1) _).map _=_
 rw [kc h.len h.has]
 rfl
def Pl.lt (h:Pl ch fi refs found):fi<ch.length:=(gX h.top).1
def Pl.ltr (h:Pl ch fi refs found) {r:Nat} (hr:r∈refs):r<ch.length:=by
 obtain ⟨k,hk⟩:=List.getElem?_of_mem hr
 have hlt:k<found.length:=by rw [<- h.len];exact (gX hk).1
 exact (gX (h.has k r found[k] hk (by simp [hlt]))).1
def pK {ch g:CH} {i:Nat} {o:CO} (h:ch[i]?=some o):(ch++g)[i]?=some o:=by
 rw [List.getElem?_append_left (gX h).1]
 exact h
def Pl.app (h:Pl ch fi refs found) (g:CH):Pl (ch++g) fi refs found:=⟨pK h.top,h.len,h.out,fun k r l h1 h2=>pK (h.has k r l h1 h2)⟩
def Pl.keep {ch':CH} (h:Pl ch fi refs found) (q:∀ i,i<ch.length->ch'[i]?=ch[i]?):Pl ch' fi refs found:=
 ⟨by rw [q _ h.lt];exact h.top,h.len,h.out,fun k r l h1 h2=>by rw [q r (h.ltr (List.mem_of_getElem? h1))];exact h.has k r l h1 h2⟩
def Pl.put (h:Pl ch fi refs found) {i new:Nat} {m:List Str} (hm:ch[new]?=some (cS m)) (hn:new≠fi):Pl (ch.set fi (.lst ((refs.map CV.ref).set i (.ref new)))) fi (refs.set i new) (found.set i m):=by
 have hlt:=h.lt
 refine ⟨by rw [List.getElem?_set_self hlt,List.map_set],by simp [h.len],fun z=>?_,fun k r l h1 h2=>?_⟩
 · rcases List.mem_or_eq_of_mem_set z with z | z
   · exact h.out z
   · exact hn z.symm
 · have hr:r≠fi:=fun e=>by
    rw [e] at h1
    rcases List.mem_or_eq_of_mem_set (List.mem_of_getElem? h1) with z | z
    · exact h.out z
    · exact hn z.symm
   rw [gN (Ne.symm hr)]
   rw [List.getElem?_set] at h1 h2
   split at h1
   · rename_i e
     subst e
     rw [if_pos rfl] at h2
     split at h1<;>cases h1
     split at h2<;>cases h2
     exact hm
   · rename_i e
     rw [if_neg e] at h2
     exact h.has k r l h1 h2
end
def yI {m:Nat} {f:De->Option T} {δ:Sl} {ch:CH} {l:List Str} (h:f (loD m δ ch)=some (.lst (l.map .str))):eDV m f δ ch=some (.ref ch.length,ch++[cS l]):=by
 unfold eDV
 rw [h,Option.bind_some]
 unfold mr
 dsimp only
 rw [if_pos (cG l),Option.bind_some]
 unfold al cS
 simp
def ow {m:Nat} {f:De->Option Bool} {δ:Sl} {ch:CH} {b:Bool} (h:f (loD m δ ch)=some b):tDV m f δ ch=some (b,ch):=by
 unfold tDV
 rw [h]
 rfl
def aM {g1 g2:Fs} {δ δ1:Sl} {ch ch1:CH} (h:g1 δ ch=some (.nx δ1 ch1)):bm g1 g2 δ ch=g2 δ1 ch1:=by
 unfold bm
 rw [h]
 rfl
def m6 {g1 g2:Fs} {δ:Sl} {ch ch1:CH} {c:CV} (h:g1 δ ch=some (.rt c ch1)):bm g1 g2 δ ch=some (.rt c ch1):=by
 unfold bm
 rw [h]
 rfl
def pL {c:Ft} {g1 g2:Fs} {δ:Sl} {ch ch1:CH} {b:Bool} (h:c δ ch=some (b,ch1)):gb c g1 g2 δ ch=if b then g1 δ ch1 else g2 δ ch1:=by
 unfold gb
 rw [h]
 rfl
def lB {c:Ft} {g1 g2:Fs} {δ:Sl} {ch ch1:CH} (h:c δ ch=some (true,ch1)):gb c g1 g2 δ ch=g1 δ ch1:=by
 rw [pL h,if_pos rfl]
def fJ {c:Ft} {g1 g2:Fs} {δ:Sl} {ch ch1:CH} (h:c δ ch=some (false,ch1)):gb c g1 g2 δ ch=g2 δ ch1:=by
 rw [pL h,if_neg (by simp)]
def m7 {c:Ft} {g:Fs} {n:Nat} {δ δ1:Sl} {ch ch1 ch2:CH} (h:c δ ch=some (true,ch1)) (hg:g δ ch1=some (.nx δ1 ch2)):cf c g (n+1) δ ch=cf c g n δ1 ch2:=by
 show ((c δ ch).bind fun p=>_)=_
 rw [h,Option.bind_some]
 dsimp only
 rw [if_pos rfl,hg]
 rfl
def m8 {c:Ft} {g:Fs} {n:Nat} {δ:Sl} {ch ch1:CH} (h:c δ ch=some (false,ch1)):cf c g (n+1) δ ch=some (.nx δ ch1):=by
 show ((c δ ch).bind fun p=>_)=_
 rw [h,Option.bind_some]
 rfl
def ir {m:Nat} {g:Fs} {cs:List CV} {ch ch':CH} {c:CV} (h:g (cs.map some++List.replicate (m-cs.length) none) ch=some (.rt c ch')):mw m g cs ch=some (c,ch'):=by
 unfold mw
 rw [h]
def yJ {n k:Nat} (h:k<n):ixN n (k:Int)=some k:=by
 unfold ixN
 rw [if_pos (by omega),if_pos (by omega)]
 simp
def yK {l:List CV} {k:Nat} {c:CV} (h:k<l.length):si (.lst l) (dI k) c=some (.lst (l.set k c)):=by
 unfold si dI
 simp only [sU,Option.bind_some,yJ h,Option.map_some]
def qE {n:Nat} (h:n<=1000):iV [.int ((n:Int)-1),.int (-1),.int (-1)]=some (((List.range n).map fun i=>n-1-i).map dI):=by
 unfold iV
 have e:(Builtin.Range.rangeSize ((n:Int)-1) (-1) (-1)).toNat=n:=by
  unfold Builtin.Range.rangeSize
  rw [if_neg (by decide)]
  by_cases h0:(n:Int)-1 > -1
  · rw [if_pos h0]
    have:((n:Int)-1 - -1-1)/(- -1)=(n:Int)-1:=by rw [show (- -1:Int)=1 by decide,Int.ediv_one];omega
    rw [this]
    omega
  · rw [if_neg h0]
    omega
 dsimp only
 rw [if_pos (show nZ ((n:Int)-1) (-1) (-1)=true by unfold nZ;simp;omega),e]
 congr 1
 unfold ll
 rw [List.map_map]
 refine List.map_congr_left fun i hi=>?_
 have:=List.mem_range.mp hi
 show Dt.int _=Dt.int ((n-1-i:Nat):Int)
 congr 1
 omega
end L2
namespace P32
open PySem L2
def tu {found:List (List Str)} (hs:∀ l∈found,l.length<=12):∀ js:List Nat,((js.map fun j=>found.getD j []).map List.length).sum<=12*js.length
 | []=>Nat.zero_le _
 | j::js=>by
  have ih:=tu hs js
  have:(found.getD j []).length<=12:=by
   rw [List.getD_eq_getElem?_getD]
   cases h:found[j]? with
   | none=>simp
   | some l=>exact hs l (List.mem_of_getElem? h)
  simp only [List.map_cons,List.sum_cons,List.length_cons]
  omega
section
variable {P:Dt} {rows:List Rw} {B:List Str} {found:List (List Str)} {fi:Nat} {refs:List Nat} {ch:CH}
def vD {i:Nat} {r:Rw} (h:rows[i]?=some r):aA (dW rows) (.int i)=some (.leaf (.tup ((r.outs i).map dI))):=by
 unfold dW
 rw [mR,bh,List.getElem?_mapIdx,h]
 rfl
def lC {i:Nat} {r:Rw} (h:rows[i]?=some r):aA (dR rows) (.int i)=some (.leaf r.d):=by
 unfold dR
 rw [pG,bh,List.getElem?_map,h]
 rfl
def tw {i:Nat} {l:List Str} (h:found[i]?=some l):aA (dF found) (.int i)=some (.leaf (dS l)):=by
 unfold dF
 rw [mR,bh,List.getElem?_map,h]
 rfl
def qF {i:Nat} {r:Rw} (hr:rows[i]?=some r) (hs:∀ l∈found,l.length<=12) (hj:∀ j∈r.outs i,j<found.length) (y4 y6:Option T) :
  aw y17 (ae (toD (d2 aA (vB 1) (vB 5))) (ae (toD (cP [none,some 3] (fIt (toD (d2 aA (vB 2) (vB 5)))) (ay 0) cQ q43)) ao)) [some (.leaf P),some (.leaf (dR rows)),some (.leaf (dW rows)),some (.leaf (dF found)),y4,some (.leaf (.int i)),y6]=some (.lst ((nw rows found i).map .str)):=by
 walk_at "k"
 rw [lC hr,vD hr]
 walk_at "k"
 rw [fG (h:=fun j=>dS (found.getD j [])) fun j hjm=>⟨[some (.leaf (dI j)),some (.leaf (dF found))],rfl,rfl,by
  have hlt:=hj j hjm
  unfold q43 dI
  walk_at "k"
  rw [tw (l:=found[j]) (by simp [hlt])]
  walk_at "k"
  rw [gj (m:=found[j]) (by simp [hlt])]⟩]
 walk_at "k"
 have ho:=r.outs_len i
 rw [em (by rw [List.length_map];omega)]
 walk_at "k"
 have e:(r.outs i).map (fun j=>dS (found.getD j []))=((r.outs i).map fun j=>found.getD j []).map dS:=by rw [List.map_map];rfl
 rw [e,tm r _ (Nat.le_trans (tu hs _) (by omega))]
 unfold nw
 rw [hr]
def sl (P:Dt) (rows:List Rw) (fi:Nat) (c:Bool) (x5 x6:Option CV):Sl:=[some (.dat P),some (.dat (dR rows)),some (.dat (dW rows)),some (.ref fi),some (.dat (.bl c)),x5,x6]
def vE (pl:Pl ch fi refs found) {i:Nat} {r:Rw} {l:List Str} (hr:rows[i]?=some r) (hl:found[i]?=some l) (hs:∀ l∈found,l.length<=12) (hj:∀ j∈r.outs i,j<found.length) (c:Bool) (x6:Option CV) :
  ∃ refs' found' c' ch',z43 (sl P rows fi c (some (.dat (dI i))) x6) ch=some (.nx (sl P rows fi c' (some (.dat (dI i))) (some (.ref ch.length))) ch')/\Pl ch' fi refs' found'/\ch.length<=ch'.length/\(∀ k,k<ch.length->k≠fi->ch'[k]?=ch[k]?)∧
   ((nw rows found i=l/\found'=found/\c'=c)∨(nw rows found i≠l/\found'=found.set i (nw rows found i)/\c'=true)):=by
 have hfi:=pl.lt
 have pl2:=pl.app [cS (nw rows found i)]
 have hnew:(ch++[cS (nw rows found i)])[ch.length]?=some (cS (nw rows found i)):=by simp
 have h1:bp 6 (eDV 2 (aw y17 (ae (toD (d2 aA (vB 1) (vB 5))) (ae (toD (cP [none,some 3] (fIt (toD (d2 aA (vB 2) (vB 5)))) (ay 0) cQ q43)) ao)))) (sl P rows fi c (some (.dat (dI i))) x6) ch=some (.nx (sl P rows fi c (some (.dat (dI i))) (some (.ref ch.length))) (ch++[cS (nw rows found i)])):=by
  refine bu (yI ?_)
  have:=qF (P:=P) hr hs hj (some (.leaf (.bl c))) (x6.bind fun c=>(vwD ch 2 c).map T.leaf)
  rw [<- this]
  congr 1
  unfold loD sl
  simp only [List.map_cons,List.map_nil,Option.bind_some,gp,Option.map_some,pl.view]
  rfl
 have h2:tDV 2 (tB2 (gEq true) (vB 6) (toD (d2 aA (vB 3) (vB 5)))) (sl P rows fi c (some (.dat (dI i))) (some (.ref ch.length))) (ch++[cS (nw rows found i)])=some (!decide (nw rows found i=l),ch++[cS (nw rows found i)]):=by
  refine ow ?_
  unfold loD sl
  simp only [List.map_cons,List.map_nil,Option.bind_some,gp,Option.map_some,pl2.view,mZ hnew]
  walk_at "k"
  unfold dI
  rw [tw hl]
  walk_at "k"
  unfold dS
  rw [jh]
  rfl
 unfold z43
 rw [aM h1]
 by_cases he:nw rows found i=l
 · refine ⟨refs,found,c,_,?_,pl2,by simp,fun k hk _=>List.getElem?_append_left hk,.inl ⟨he,rfl,rfl⟩⟩
   rw [decide_eq_true he] at h2
   rw [fJ h2]
   rfl
 · have hi:i<refs.length:=by rw [pl.len];exact (gX hl).1
   have h3:g9 (eV 3) (eD (vL 5)) (eV 6) (sl P rows fi c (some (.dat (dI i))) (some (.ref ch.length))) (ch++[cS (nw rows found i)])=some (.nx (sl P rows fi c (some (.dat (dI i))) (some (.ref ch.length))) ((ch++[cS (nw rows found i)]).set fi (.lst ((refs.map CV.ref).set i (.ref ch.length))))):=
    mT (je rfl) (je rfl) (ck rfl) pl2.top (yK (by rw [List.length_map];exact hi))
   refine ⟨refs.set i ch.length,found.set i (nw rows found i),true,_,?_,pl2.put (i:=i) hnew (Nat.ne_of_gt hfi),?_,?_,.inr ⟨he,rfl,rfl⟩⟩
   · rw [decide_eq_false he] at h2
     rw [lB h2,aM h3]
     exact bu rfl
   · simp
   · intro k hk hf
     rw [gN (Ne.symm hf)]
     exact List.getElem?_append_left hk
def pass (hB:∀ (i:Nat) (r:Rw) (b:Str),rows[i]?=some r->b∈r.reads->b∈B) (hO:∀ (i:Nat) (r:Rw) (j:Nat),rows[i]?=some r->j∈r.outs i->j<rows.length) (hb:B.length<=12) :
  ∀ (js:List Nat) (refs:List Nat) (found:List (List Str)) (c:Bool) (x5 x6:Option CV) (ch:CH),Pl ch fi refs found->Fnd rows B found->(∀ j∈js,j<rows.length)→
  ∃ refs' found' c' y5 y6 ch',gJ [5] (ay 5) z43 (js.map dI) (sl P rows fi c x5 x6) ch=some (.nx (sl P rows fi c' y5 y6) ch')/\Pl ch' fi refs' found'/\Fnd rows B found'/\ch.length<=ch'.length/\(∀ k,k<ch.length->k≠fi->ch'[k]?=ch[k]?)∧
   tot found<=tot found'/\(c'=true->c=true∨tot found<tot found')/\(c'=false->c=false/\found'=found/\∀ j∈js,∀ l,found[j]?=some l->nw rows found j=l)
 | [],refs,found,c,x5,x6,ch,pl,F,_=>⟨refs,found,c,x5,x6,ch,rfl,pl,F,nL _,fun _ _ _=>rfl,nL _,.inl,fun h=>⟨h,rfl,fun j hj=>by cases hj⟩⟩
 | j::js,refs,found,c,x5,x6,ch,pl,F,hj=>by
  have hjl:=hj j (.head _)
  have hr:rows[j]?=some rows[j]:=by simp [hjl]
  have hlt:j<found.length:=by rw [F.len];exact hjl
  have hl:found[j]?=some found[j]:=by simp [hlt]
  have hs:∀ l∈found,l.length<=12:=fun l hl=>by
   obtain ⟨i,h⟩:=List.getElem?_of_mem hl
   exact Nat.le_trans (F.short h) hb
  obtain ⟨refs1,found1,c1,ch1,e1,pl1,le1,kp1,q1⟩:=vE (P:=P) pl hr hl hs (fun k hk=>by rw [F.len];exact hO j _ k hr hk) c x6
  have F1:Fnd rows B found1:=by
   rcases q1 with ⟨_,rfl,_⟩ | ⟨_,rfl,_⟩
   · exact F
   · exact F.step hB hjl
  obtain ⟨refs2,found2,c2,y5,y6,ch2,e2,pl2,F2,le2,kp2,t2,q2,q3⟩:=pass hB hO hb js refs1 found1 c1 (some (.dat (dI j))) (some (.ref ch.length)) ch1 pl1 F1 fun k hk=>hj k (.tail _ hk)
  refine ⟨refs2,found2,c2,y5,y6,ch2,?_,pl2,F2,Nat.le_trans le1 le2,fun k hk hf=>(kp2 k (Nat.lt_of_lt_of_le hk le1) hf).trans (kp1 k hk hf),?_,?_,?_⟩
  · rw [List.map_cons,gm (δ2:=sl P rows fi c1 (some (.dat (dI j))) (some (.ref ch.length))) (show 5<7 by decide) e1]
    exact e2
  · rcases q1 with ⟨_,rfl,_⟩ | ⟨ne,rfl,_⟩
    · exact t2
    · exact Nat.le_trans (Nat.le_of_lt (F.more hl ne)) t2
  · intro h
    rcases q1 with ⟨_,rfl,rfl⟩ | ⟨ne,rfl,_⟩
    · exact q2 h
    · exact .inr (Nat.lt_of_lt_of_le (F.more hl ne) t2)
  · intro h
    obtain ⟨h1,h2,h3⟩:=q3 h
    rcases q1 with ⟨q,rfl,rfl⟩ | ⟨ne,rfl,rfl⟩
    · refine ⟨h1,h2,fun k hk l hl2=>?_⟩
      rcases List.mem_cons.mp hk with rfl | hk
      · rw [hl] at hl2
        cases hl2
        exact q
      · exact h3 k hk l hl2
    · cases h1
def loop (hB:∀ (i:Nat) (r:Rw) (b:Str),rows[i]?=some r->b∈r.reads->b∈B) (hO:∀ (i:Nat) (r:Rw) (j:Nat),rows[i]?=some r->j∈r.outs i->j<rows.length) (hb:B.length<=12) (hn:rows.length<=1000) :
  ∀ (m:Nat) (refs:List Nat) (found:List (List Str)) (x5 x6:Option CV) (ch:CH),Pl ch fi refs found->Fnd rows B found->rows.length*B.length+2<=m+tot found→
  ∃ refs' found' y5 y6 ch',cf q60 y42 m (sl P rows fi true x5 x6) ch=some (.nx (sl P rows fi false y5 y6) ch')/\Pl ch' fi refs' found'/\Fnd rows B found'/\Fix rows found'/\ch.length<=ch'.length/\(∀ k,k<ch.length->k≠fi->ch'[k]?=ch[k]?)
 | 0,refs,found,x5,x6,ch,pl,F,hm=>by
  have:=F.tot_le
  omega
 | m+1,refs,found,x5,x6,ch,pl,F,hm=>by
  obtain ⟨refs1,found1,c1,y5,y6,ch1,e1,pl1,F1,le1,kp1,t1,q1,q2⟩:=pass (P:=P) hB hO hb ((List.range rows.length).map fun i=>rows.length-1-i) refs found false x5 x6 ch pl F fun j hj=>by
   obtain ⟨i,hi,rfl⟩:=List.mem_map.mp hj
   have:=List.mem_range.mp hi
   omega
  have hb1:y42 (sl P rows fi true x5 x6) ch=some (.nx (sl P rows fi c1 y5 y6) ch1):=by
   unfold y42
   rw [aM (δ1:=sl P rows fi false x5 x6) (ch1:=ch) (bu rfl)]
   show (iV [.int (((rows.map Rw.d).length:Int)-1),.int (-1),.int (-1)]).bind _=_
   rw [List.length_map,qE hn,Option.bind_some]
   exact e1
  rw [m7 (ch1:=ch) rfl hb1]
  cases c1 with
  | true =>
   rcases q1 rfl with h | h
   · cases h
   · obtain ⟨refs2,found2,z5,z6,ch2,e2,pl2,F2,x2,le2,kp2⟩:=loop hB hO hb hn m refs1 found1 y5 y6 ch1 pl1 F1 (by omega)
     exact ⟨refs2,found2,z5,z6,ch2,e2,pl2,F2,x2,Nat.le_trans le1 le2,fun k hk hf=>(kp2 k (Nat.lt_of_lt_of_le hk le1) hf).trans (kp1 k hk hf)⟩
  | false =>
   obtain ⟨_,rfl,q3⟩:=q2 rfl
   have hm2:∃ m',m=m'+1:=by
    have:=F1.tot_le
    exact ⟨m-1,by omega⟩
   obtain ⟨m',rfl⟩:=hm2
   refine ⟨refs1,found1,y5,y6,ch1,m8 rfl,pl1,F1,fun i l hl=>?_,le1,kp1⟩
   have hi:i<rows.length:=by rw [<- F1.len];exact (gX hl).1
   exact q3 i (List.mem_map.mpr ⟨rows.length-1-i,List.mem_range.mpr (by omega),by omega⟩) l hl
end
def Au (δ:Sl) (ch:CH):z23 δ ch=some (.ref ch.length,ch++[.lst []]):=by
 unfold z23 eN
 rw [oj]
 show (((some []).bind mkL).bind _)=_
 rw [Option.bind_some,em (by simp)]
 rfl
def m9:∀ (ds:List Dt) (ch:CH),cD [0] (ay 0) cQ z23 [none] ds ch=some (((List.range ds.length).map fun k=>ch.length+k).map CV.ref,ch++List.replicate ds.length (.lst []))
 | [],ch=>by simp [cD]
 | d::ds,ch=>by
  unfold cD ay
  rw [Option.bind_some]
  show ((z23 (mgS [0] [none] ((lo [none] ch).set 0 (some (.leaf d)))) ch).bind fun p=>(cD [0] (ay 0) cQ z23 [none] ds p.2).map fun q=>(p.1::q.1,q.2))=_
  rw [Au,Option.bind_some]
  dsimp only
  rw [m9 ds (ch++[CO.lst []]),Option.map_some]
  simp only [List.length_cons,List.range_succ_eq_map,List.map_cons,List.map_map,Nat.add_zero,List.length_append,List.length_nil,List.replicate_succ,List.append_assoc,List.singleton_append]
  congr 3
  refine List.map_congr_left fun k _=>?_
  simp only [Function.comp_apply]
  congr 1
  omega
def ke {c s:Dt} {rows:List Rw} {B:List Str} (hB:∀ (i:Nat) (r:Rw) (b:Str),rows[i]?=some r->b∈r.reads->b∈B) (hO:∀ (i:Nat) (r:Rw) (j:Nat),rows[i]?=some r->j∈r.outs i->j<rows.length) (hb:B.length<=12) (hn:rows.length<=1000) (ch:CH) :
  ∃ fi refs found ch',y24 [.dat (.tup [c,s,dR rows])] ch=some (.ref fi,ch')/\Pl ch' fi refs found/\Fnd rows B found/\Fix rows found/\ch.length<=fi/\(∀ k,k<ch.length->ch'[k]?=ch[k]?):=by
 have hlen:((List.range rows.length).map fun k=>ch.length+k).length=rows.length:=by simp
 have pl0:Pl (ch++List.replicate rows.length (.lst [])++[.lst (((List.range rows.length).map fun k=>ch.length+k).map CV.ref)]) (ch.length+rows.length) ((List.range rows.length).map fun k=>ch.length+k) (rows.map fun _=>[]):=by
  refine ⟨?_,by simp,fun h=>?_,fun k r l h1 h2=>?_⟩
  · rw [List.getElem?_append_right (by simp)]
    simp
  · obtain ⟨k,hk,e⟩:=List.mem_map.mp h
    have:=List.mem_range.mp hk
    omega
  · rw [List.getElem?_map] at h1 h2
    obtain ⟨k',hk',rfl⟩:=mS h1
    obtain ⟨w,_,rfl⟩:=mS h2
    have hkl:=(gX hk').1
    rw [List.length_range] at hkl
    rw [List.getElem?_range hkl] at hk'
    cases hk'
    rw [List.append_assoc,List.getElem?_append_right (by omega),Nat.add_sub_cancel_left,List.getElem?_append_left (by simp;exact hkl),List.getElem?_replicate,if_pos hkl]
    rfl
 have hB12:rows.length*B.length<=1000*12:=Nat.mul_le_mul hn hb
 obtain ⟨refs,found,y5,y6,ch',e,pl,F,x,le,kp⟩:=loop (P:=.tup [c,s,dR rows]) hB hO hb hn 100000 _ _ none none _ pl0 Fnd.start (by omega)
 refine ⟨_,refs,found,ch',?_,pl,F,x,by omega,fun k hk=>?_⟩
 · unfold y24
   refine ir ?_
   have s1:bp 1 (eD (toD (d2 aA (vB 0) (kD (.int 2))))) [some (.dat (.tup [c,s,dR rows])),none,none,none,none,none,none] ch=some (.nx [some (.dat (.tup [c,s,dR rows])),some (.dat (dR rows)),none,none,none,none,none] ch):=bu (ck rfl)
   have s2:bp 2 (eD (toD (aw fE (ae (vL 0) ao)))) [some (.dat (.tup [c,s,dR rows])),some (.dat (dR rows)),none,none,none,none,none] ch=some (.nx [some (.dat (.tup [c,s,dR rows])),some (.dat (dR rows)),some (.dat (dW rows)),none,none,none,none] ch):=by
    refine bu (ck ?_)
    show ((fE [.tup [c,s,dR rows]]).map T.d)=_
    rw [vC c s rows hn]
    rfl
   have s3:bp 3 (gd [none] (fIt (vL 1)) [0] (ay 0) cQ z23) [some (.dat (.tup [c,s,dR rows])),some (.dat (dR rows)),some (.dat (dW rows)),none,none,none,none] ch=some (.nx [some (.dat (.tup [c,s,dR rows])),some (.dat (dR rows)),some (.dat (dW rows)),some (.ref (ch.length+rows.length)),none,none,none] (ch++List.replicate rows.length (.lst [])++[.lst (((List.range rows.length).map fun k=>ch.length+k).map CV.ref)])):=by
    refine bu ?_
    show ((cD [0] (ay 0) cQ z23 [none] (rows.map Rw.d) ch).bind fun p=>if p.1.length<=sizeLine then some (CV.ref p.2.length,p.2++[.lst p.1]) else none)=_
    rw [m9,Option.bind_some,List.length_map,if_pos (small (by simp;omega))]
    simp
   show bm _ _ [some (.dat (.tup [c,s,dR rows])),none,none,none,none,none,none] ch=_
   rw [aM s1,aM s2,aM s3,aM (δ1:=sl (.tup [c,s,dR rows]) rows (ch.length+rows.length) true none none) (bu rfl),aM e]
   exact gl rfl
 · rw [kp k (by simp;omega) (by omega),List.append_assoc,List.getElem?_append_left hk]
def kI (j:Nat):Key:=.inl (j:Int)
def oy {a j:Nat} (z:kI a=kI j):a=j:=by
 unfold kI at z
 have:=Sum.inl.inj z
 omega
def cK (seen:List Nat):CO:=.dK (seen.map fun j=>(kI j,.dat (.bl true)))
def cL (left:List Nat):CO:=.lst (left.map fun j=>.dat (dI j))
def s2 (rows:List Rw) (n:Nat) (b:Str) (x5 x6:Option Dt):Sl:=[some (.dat (dR rows)),some (.dat (.int n)),some (.dat (.str b)),some (.ref 0),some (.ref 1),x5.map .dat,x6.map .dat]
noncomputable def d2L (rows:List Rw) (n:Nat) (b:Str) (seen left:List Nat) (x5 x6:Option Dt):De:=[some (.leaf (dR rows)),some (.leaf (.int n)),some (.leaf (.str b)),some (.dct (seen.map fun j=>(kI j,.bl true))),some (.lst (left.map dI)),x5.map .leaf,x6.map .leaf]
def pM:∀ l:List Nat,dats ((l.map fun j=>(kI j,CV.dat (.bl true))).map (·.2))=some (l.map fun _=>Dt.bl true)
 | []=>rfl
 | j::l=>by
  have:=pM l
  simp only [List.map_cons,dats] at this ⊢
  rw [this]
  rfl
def pN:∀ l:List Nat,dats (l.map fun j=>CV.dat (dI j))=some (l.map dI)
 | []=>rfl
 | j::l=>by
  have:=pN l
  simp only [List.map_cons,dats] at this ⊢
  rw [this]
  rfl
def tz:∀ l:List Nat,(l.map fun j=>kI j).zip (l.map fun _=>Dt.bl true)=l.map fun j=>(kI j,.bl true)
 | []=>rfl
 | j::l=>by simp only [List.map_cons,List.zip_cons_cons,tz l]
def tv_K (seen:List Nat):tvO (cK seen)=some (.dct (seen.map fun j=>(kI j,.bl true))):=by
 unfold tvO cK
 dsimp only
 rw [pM,Option.map_some,List.map_map]
 congr 2
 exact tz seen
def tv_L (left:List Nat):tvO (cL left)=some (.lst (left.map dI)):=by
 unfold tvO cL
 dsimp only
 rw [pN]
 rfl
def hV (rows:List Rw) (n:Nat) (b:Str) (seen left:List Nat) (x5 x6:Option Dt):lo (s2 rows n b x5 x6) [cK seen,cL left]=d2L rows n b seen left x5 x6:=by
 have h1:(([cK seen,cL left]:CH)[0]?).bind tvO=some (.dct (seen.map fun j=>(kI j,.bl true))):=tv_K seen
 have h2:(([cK seen,cL left]:CH)[1]?).bind tvO=some (.lst (left.map dI)):=tv_L left
 unfold lo s2 d2L
 cases x5<;>cases x6<;>simp only [loA,Option.map_some,Option.map_none,List.not_mem_nil,List.mem_cons,if_false,h1,h2,Nat.one_ne_zero,or_false]
def kf (j:Nat):∀ seen:List Nat,(cp (seen.map fun j=>kI j) (seen.map fun _=>Dt.bl true) (kI j)).isSome=decide (j∈seen)
 | []=>rfl
 | a::seen=>by
  simp only [List.map_cons,cp]
  by_cases h:a=j
  · subst h
    rw [if_pos rfl]
    simp
  · have h':¬ j=a:=fun z=>h z.symm
    rw [if_neg (fun z=>h (oy z)),kf j seen]
    simp [h']
def kg (j:Nat):∀ seen:List Nat,j∉seen->ic (seen.map fun j=>(kI j,CV.dat (.bl true))) (kI j) (.dat (.bl true))=(seen++[j]).map fun j=>(kI j,.dat (.bl true))
 | [],_=>rfl
 | a::seen,h=>by
  have h1:¬ a=j:=fun z=>h (z▸.head _)
  simp only [List.map_cons,List.cons_append]
  unfold ic
  rw [if_neg (fun z=>h1 (oy z)),kg j seen fun z=>h (.tail _ z)]
def vF {seen:List Nat} (h:seen.Nodup):((seen.map fun j=>(kI j,CV.dat (.bl true))).map (·.1)).Nodup:=by
 rw [List.map_map,List.nodup_iff_pairwise_ne,List.pairwise_map]
 exact List.Pairwise.imp (fun {a b} (z:a≠b) e=>z (oy e)) h
def vG {rows:List Rw} {n:Nat} {b:Str} {seen left:List Nat} {x5:Option Dt} (nd:seen.Nodup) (hs:seen.length<1000) (hl:left.length<1000) (j:Nat) :
  z18 (s2 rows n b x5 (some (dI j))) [cK seen,cL left]=some (.nx (s2 rows n b x5 (some (dI j))) (if j∈seen then [cK seen,cL left] else [cK (seen++[j]),cL (left++[j])])):=by
 have ht:tD (tB2 (cv true) (vB 6) (vB 3)) (s2 rows n b x5 (some (dI j))) [cK seen,cL left]=some (!decide (j∈seen),[cK seen,cL left]):=by
  refine mU ?_
  rw [hV]
  unfold d2L
  show ((cv true (dI j) (.dct ((seen.map fun j=>(kI j,Dt.bl true)).map (·.1)) ((seen.map fun j=>(kI j,Dt.bl true)).map (·.2)))).bind asB)=_
  rw [Ah,List.map_map,List.map_map]
  unfold dI
  show some (!(cp (seen.map fun j=>kI j) (seen.map fun _=>Dt.bl true) (kI j)).isSome)=_
  rw [kf]
 unfold z18
 by_cases h:j∈seen
 · rw [decide_eq_true h] at ht
   rw [fJ ht,if_pos h]
   rfl
 · rw [decide_eq_false h] at ht
   rw [lB ht,if_neg h]
   have hp:g9 (eV 3) (eD (vL 6)) (eD (kD (.bl true))) (s2 rows n b x5 (some (dI j))) [cK seen,cL left]=some (.nx (s2 rows n b x5 (some (dI j))) [cK (seen++[j]),cL left]):=by
    refine (mT (i:=0) (d:=dI j) (o:=cK seen) (o':=cK (seen++[j])) (ck rfl) (je rfl) (ck ?_) rfl ?_).trans rfl
    · rw [hV]
      rfl
    · unfold si cK dI
      show (if _ then _ else none)=_
      rw [if_pos ⟨ei (by rw [List.length_map];omega),vF nd⟩,show (Sum.inl ((j:Nat):Int):Key)=kI j from rfl,kg j seen h]
   rw [aM hp]
   unfold e5
   have e1:eV 4 (s2 rows n b x5 (some (dI j))) [cK (seen++[j]),cL left]=some (.ref 1,[cK (seen++[j]),cL left]):=rfl
   have e2:eD (vL 6) (s2 rows n b x5 (some (dI j))) [cK (seen++[j]),cL left]=some (.dat (dI j),[cK (seen++[j]),cL left]):=ck (by rw [hV];rfl)
   rw [e1,Option.bind_some]
   dsimp only
   rw [e2,Option.bind_some]
   show (if _ then _ else none)=_
   rw [if_pos (ei (by rw [List.length_map];omega))]
   unfold cL
   rw [List.map_append]
   rfl
def gZ {rows:List Rw} {n:Nat} {b:Str} {x5:Option Dt} {N:Nat}:∀ (js seen left:List Nat) (x6:Option Dt),seen.Nodup->(∀ j∈js,j<N)->(∀ j∈seen,j<N)->N<=500->left.length<=seen.length→
  ∃ seen' left' y6,gJ [6] (ay 6) z18 (js.map dI) (s2 rows n b x5 x6) [cK seen,cL left]=some (.nx (s2 rows n b x5 y6) [cK seen',cL left'])/\seen'.Nodup/\(∀ j∈seen',j<N)/\(∀ j,j∈seen'↔j∈seen∨j∈js)/\(∀ j,j∈left'↔j∈left∨(j∈js/\j∉seen))/\seen'.length+left.length=seen.length+left'.length/\seen.length<=seen'.length
 | [],seen,left,x6,nd,_,hs,_,_=>⟨seen,left,x6,rfl,nd,hs,by simp,by simp,rfl,Nat.le_refl _⟩
 | j::js,seen,left,x6,nd,hj,hs,hN,hl=>by
  have hlen:seen.length<=N:=by
   have:=cu (m:=List.range N) nd fun x hx=>List.mem_range.mpr (hs x hx)
   simpa using this
  have e1:=vG (rows:=rows) (n:=n) (b:=b) (x5:=x5) nd (by omega) (by omega:left.length<1000) j
  by_cases h:j∈seen
  · rw [if_pos h] at e1
    obtain ⟨seen',left',y6,e,nd',hs',m1,m2,h1,h2⟩:=gZ (rows:=rows) (n:=n) (b:=b) (x5:=x5) js seen left (some (dI j)) nd (fun k hk=>hj k (.tail _ hk)) hs hN hl
    refine ⟨seen',left',y6,?_,nd',hs',fun k=>?_,fun k=>?_,h1,h2⟩
    · rw [List.map_cons,gm (δ2:=s2 rows n b x5 (some (dI j))) (show 6<7 by decide) e1]
      exact e
    · rw [m1,List.mem_cons]
      exact ⟨fun z=>z.imp id .inr,fun z=>z.elim .inl fun z=>z.elim (fun e=>.inl (e▸h)) .inr⟩
    · rw [m2,List.mem_cons]
      exact ⟨fun z=>z.imp id fun y=>⟨.inr y.1,y.2⟩,fun z=>z.imp id fun y=>⟨y.1.elim (fun e=>absurd (e▸h) y.2) id,y.2⟩⟩
  · rw [if_neg h] at e1
    obtain ⟨seen',left',y6,e,nd',hs',m1,m2,h1,h2⟩:=gZ (rows:=rows) (n:=n) (b:=b) (x5:=x5) js (seen++[j]) (left++[j]) (some (dI j)) (by
     rw [List.nodup_append]
     exact ⟨nd,by simp,fun a ha c hc e=>h (by rw [List.mem_singleton.mp hc] at e;exact e▸ha)⟩) (fun k hk=>hj k (.tail _ hk)) (fun k hk=>by
     rcases List.mem_append.mp hk with z | z
     · exact hs k z
     · rw [List.mem_singleton.mp z]
       exact hj j (.head _)) hN (by simp;omega)
    refine ⟨seen',left',y6,?_,nd',hs',fun k=>?_,fun k=>?_,by simp at h1;omega,by simp at h2;omega⟩
    · rw [List.map_cons,gm (δ2:=s2 rows n b x5 (some (dI j))) (show 6<7 by decide) e1]
      exact e
    · rw [m1,List.mem_cons,List.mem_append,List.mem_singleton,or_assoc]
    · rw [m2,List.mem_cons]
      simp only [List.mem_append,List.mem_singleton]
      constructor
      · rintro ((z | rfl) | ⟨z,y⟩)
        · exact .inl z
        · exact .inr ⟨.inl rfl,h⟩
        · exact .inr ⟨.inr z,fun q=>y (.inl q)⟩
      · rintro (z | ⟨rfl | z,y⟩)
        · exact .inl (.inl z)
        · exact .inl (.inr rfl)
        · by_cases q:k=j
          · exact .inl (.inr q)
          · exact .inr ⟨z,fun w=>w.elim y q⟩
structure Srch (rows:List Rw) (n:Nat) (b:Str) (seen left:List Nat):Prop where
 nd:seen.Nodup
 lt:∀ j∈seen,j<rows.length
 sub:∀ j∈left,j∈seen
 len:left.length<=seen.length
 home:n∈seen
 way:∀ j∈seen,Needs rows j b->Needs rows n b
 done:∀ j r,j∈seen->j∉left->rows[j]?=some r->b∉r.reads/\(r.sets=some b∨∀ k∈r.outs j,k∈seen)
def C_at {rows:List Rw} {n:Nat} {b:Str} {seen left:List Nat} {x5 x6:Option Dt}:q16 (s2 rows n b x5 x6) [cK seen,cL left]=some (decide (0<left.length),[cK seen,cL left]):=by
 unfold q16
 refine mU ?_
 rw [hV]
 unfold d2L
 walk_at "k"
 show some (decide ((0:Int)<((left.map dI).length:Int)))=_
 rw [List.length_map]
 congr 1
 by_cases h:0<left.length
 · rw [decide_eq_true h,decide_eq_true (by omega)]
 · rw [decide_eq_false h,decide_eq_false (by omega)]
def tE {rows:List Rw} {n:Nat} {b:Str} {seen left:List Nat} {x5 x6:Option Dt} {j:Nat}:bp 5 (mJ (eV 4)) (s2 rows n b x5 x6) [cK seen,cL (left++[j])]=some (.nx (s2 rows n b (some (dI j)) x6) [cK seen,cL left]):=by
 refine (bu (v:=.dat (dI j)) (ch1:=[cK seen,cL left]) ?_).trans rfl
 unfold mJ
 show (((left++[j]).map fun j=>CV.dat (dI j)).getLast?).map (fun c=>(c,([cK seen,cL (left++[j])]:CH).set 1 (.lst ((left++[j]).map fun j=>CV.dat (dI j)).dropLast)))=_
 rw [List.map_append]
 simp [cL]
def tF {rows:List Rw} {n:Nat} {b:Str} {seen left:List Nat} {x5 x6:Option Dt} {j:Nat} {r:Rw} (hr:rows[j]?=some r) (hb:b∈r.reads) :
  ∃ ch,y13 (s2 rows n b x5 x6) [cK seen,cL (left++[j])]=some (.rt (.dat (.bl true)) ch):=by
 have hm:b∈nms r.atoms:=onces_mem.mp hb
 unfold y13
 rw [aM tE]
 have ht:tD (tB2 (cv false) (vB 2) (toD (aw z14 (ae (toD (d2 aA (vB 0) (vB 5))) ao)))) (s2 rows n b (some (dI j)) x6) [cK seen,cL left]=some (true,[cK seen,cL left]):=by
  refine mU ?_
  rw [hV]
  unfold d2L dI
  walk_at "k"
  rw [lC hr]
  walk_at "k"
  rw [fI]
  walk_at "k"
  rw [gn]
  simp [asB,hm]
 exact ⟨_,m6 (by rw [lB ht];exact gl (ck rfl))⟩
def vH {rows:List Rw} {n:Nat} {b:Str} {seen left:List Nat} {x5 x6:Option Dt} {j:Nat} {r:Rw} (hr:rows[j]?=some r) (hb:b∉r.reads) (hN:rows.length<=500) (hO:∀ (i:Nat) (r:Rw) (j:Nat),rows[i]?=some r->j∈r.outs i->j<rows.length) (S:Srch rows n b seen (left++[j])) :
  ∃ seen' left' y6,y13 (s2 rows n b x5 x6) [cK seen,cL (left++[j])]=some (.nx (s2 rows n b (some (dI j)) y6) [cK seen',cL left'])/\Srch rows n b seen' left'/\2*seen.length+left'.length<2*seen'.length+(left++[j]).length/\seen.length<=seen'.length:=by
 have hm:b∉nms r.atoms:=fun z=>hb (onces_mem.mpr z)
 unfold y13
 rw [aM tE]
 have ht:tD (tB2 (cv false) (vB 2) (toD (aw z14 (ae (toD (d2 aA (vB 0) (vB 5))) ao)))) (s2 rows n b (some (dI j)) x6) [cK seen,cL left]=some (false,[cK seen,cL left]):=by
  refine mU ?_
  rw [hV]
  unfold d2L dI
  walk_at "k"
  rw [lC hr]
  walk_at "k"
  rw [fI]
  walk_at "k"
  rw [gn]
  simp [asB,hm]
 rw [aM (δ1:=s2 rows n b (some (dI j)) x6) (ch1:=[cK seen,cL left]) (by rw [fJ ht];rfl)]
 have hq:gEq true (sv r) (.str b)=some (.leaf (.bl (decide (r.sets≠some b)))):=by
  unfold sv
  cases r.sets with
  | none=>simp;rfl
  | some x =>
   show gEq true (.str x) (.str b)=_
   rw [sQ]
   by_cases h:x=b<;>simp [h]
 have ht2:tD (tB2 (gEq true) (toD (aw z17 (ae (toD (d2 aA (vB 0) (vB 5))) ao))) (vB 2)) (s2 rows n b (some (dI j)) x6) [cK seen,cL left]=some (decide (r.sets≠some b),[cK seen,cL left]):=by
  refine mU ?_
  rw [hV]
  unfold d2L dI
  walk_at "k"
  rw [lC hr]
  walk_at "k"
  rw [gW]
  walk_at "k"
  rw [hq]
  rfl
 have hl:=S.len
 rw [List.length_append,List.length_singleton] at hl
 by_cases hs:r.sets=some b
 · rw [decide_eq_false (by simp [hs])] at ht2
   refine ⟨seen,left,x6,by rw [fJ ht2];rfl,⟨S.nd,S.lt,fun k hk=>S.sub k (List.mem_append_left _ hk),by omega,S.home,S.way,fun k r' hk hk2 hr'=>?_⟩,by simp,Nat.le_refl _⟩
   by_cases e:k=j
   · subst e
     rw [hr] at hr'
     cases hr'
     exact ⟨hb,.inl hs⟩
   · exact S.done k r' hk (fun z=>by
      rcases List.mem_append.mp z with z | z
      · exact hk2 z
      · exact e (List.mem_singleton.mp z)) hr'
 · rw [decide_eq_true (by simpa using hs)] at ht2
   obtain ⟨seen',left',y6,e,nd',hs',m1,m2,h1,h2⟩:=gZ (rows:=rows) (n:=n) (b:=b) (x5:=some (dI j)) (r.outs j) seen left x6 S.nd (fun k hk=>hO j r k hr hk) S.lt hN (by omega)
   refine ⟨seen',left',y6,?_,⟨nd',hs',fun k hk=>?_,by omega,(m1 n).mpr (.inl S.home),fun k hk hn=>?_,fun k r' hk hk2 hr'=>?_⟩,by simp;omega,h2⟩
   · rw [lB ht2]
     show ((fIt (toD (aw y16 (ae (vL 0) (ae (vL 5) ao)))) (lo (s2 rows n b (some (dI j)) x6) [cK seen,cL left])).bind fun ds=>gJ [6] (ay 6) z18 ds (s2 rows n b (some (dI j)) x6) [cK seen,cL left])=_
     rw [hV]
     show ((((y16 [dR rows,.int j]).map T.d).bind itD).bind fun ds=>_)=_
     rw [mX rows j r hr]
     exact e
   · rw [m1]
     rcases (m2 k).mp hk with z | z
     · exact .inl (S.sub k (List.mem_append_left _ z))
     · exact .inr z.1
   · rcases (m1 k).mp hk with z | z
     · exact S.way k z hn
     · exact S.way j (S.sub j (by simp)) (.on hr hs z hn)
   · by_cases ek:k=j
     · subst ek
       rw [hr] at hr'
       cases hr'
       exact ⟨hb,.inr fun i hi=>(m1 i).mpr (.inr hi)⟩
     · rcases (m1 k).mp hk with z | z
       · obtain ⟨q1,q2⟩:=S.done k r' z (fun w=>by
          rcases List.mem_append.mp w with w | w
          · exact hk2 ((m2 k).mpr (.inl w))
          · exact ek (List.mem_singleton.mp w)) hr'
         exact ⟨q1,q2.imp id fun q i hi=>(m1 i).mpr (.inl (q i hi))⟩
       · by_cases w:k∈seen
         · obtain ⟨q1,q2⟩:=S.done k r' w (fun w=>by
            rcases List.mem_append.mp w with w | w
            · exact hk2 ((m2 k).mpr (.inl w))
            · exact ek (List.mem_singleton.mp w)) hr'
           exact ⟨q1,q2.imp id fun q i hi=>(m1 i).mpr (.inl (q i hi))⟩
         · exact absurd ((m2 k).mpr (.inr ⟨z,w⟩)) hk2
def qG {rows:List Rw} {n:Nat} {b:Str} {seen:List Nat} (S:Srch rows n b seen []):¬ Needs rows n b:=by
 have key:∀ i,Needs rows i b->i∈seen->False:=fun i h=>by
  induction h with
  | here hr hb=>exact fun hi=>(S.done _ _ hi (by simp) hr).1 hb
  | on hr h1 hj _ ih =>
   intro hi
   rcases (S.done _ _ hi (by simp) hr).2 with z | z
   · exact h1 z
   · exact ih S (z _ hj)
 exact fun h=>key n h S.home
def tH {rows:List Rw} {n:Nat} {b:Str} (hN:rows.length<=500) (hO:∀ (i:Nat) (r:Rw) (j:Nat),rows[i]?=some r->j∈r.outs i->j<rows.length):∀ (m:Nat) (seen left:List Nat) (x5 x6:Option Dt),Srch rows n b seen left->2*rows.length+left.length<m+2*seen.length→
  ∃ ch,(cf q16 y13 m (s2 rows n b x5 x6) [cK seen,cL left]=some (.rt (.dat (.bl true)) ch)/\Needs rows n b)∨((∃ δ,cf q16 y13 m (s2 rows n b x5 x6) [cK seen,cL left]=some (.nx δ ch))/\¬ Needs rows n b)
 | 0,seen,left,x5,x6,S,hm=>by
  have hlen:seen.length<=rows.length:=by
   have:=cu (m:=List.range rows.length) S.nd fun x hx=>List.mem_range.mpr (S.lt x hx)
   simpa using this
  omega
 | m+1,seen,left,x5,x6,S,hm=>by
  rcases List.eq_nil_or_concat left with rfl | ⟨left,j,rfl⟩
  · have hC:=C_at (rows:=rows) (n:=n) (b:=b) (seen:=seen) (left:=[]) (x5:=x5) (x6:=x6)
    exact ⟨[cK seen,cL []],.inr ⟨⟨_,m8 hC⟩,qG S⟩⟩
  · rw [List.concat_eq_append] at S hm ⊢
    have hC:=C_at (rows:=rows) (n:=n) (b:=b) (seen:=seen) (left:=left++[j]) (x5:=x5) (x6:=x6)
    rw [decide_eq_true (by simp)] at hC
    have hjl:=S.lt j (S.sub j (by simp))
    have hr:rows[j]?=some rows[j]:=by simp [hjl]
    by_cases hb:b∈(rows[j]).reads
    · obtain ⟨ch,e⟩:=tF (rows:=rows) (n:=n) (b:=b) (seen:=seen) (left:=left) (x5:=x5) (x6:=x6) hr hb
      refine ⟨ch,.inl ⟨?_,S.way j (S.sub j (by simp)) (.here hr hb)⟩⟩
      show ((q16 _ _).bind fun p=>_)=_
      rw [hC,Option.bind_some]
      dsimp only
      rw [if_pos rfl,e]
      rfl
    · obtain ⟨seen',left',y6,e,S',h1,h2⟩:=vH (x5:=x5) (x6:=x6) hr hb hN hO S
      rw [m7 hC e]
      exact tH hN hO m seen' left' _ _ S' (by omega)
def lD {rows:List Rw} {n:Nat} {b:Str} (hN:rows.length<=500) (hn:n<rows.length) (hO:∀ (i:Nat) (r:Rw) (j:Nat),rows[i]?=some r->j∈r.outs i->j<rows.length) :
  ∃ bo,mP q13 [dR rows,.int n,.str b]=some (.leaf (.bl bo))/\(bo=true↔Needs rows n b):=by
 have S:Srch rows n b [n] [n]:=⟨by simp,fun j hj=>by rw [List.mem_singleton.mp hj];exact hn,fun j hj=>hj,Nat.le_refl _,by simp,fun j hj h=>by rw [List.mem_singleton.mp hj] at h;exact h,fun j r h1 h2=>absurd h1 h2⟩
 obtain ⟨ch,h⟩:=tH hN hO 100000 [n] [n] none none S (by simp;omega)
 have s1:bp 3 (pq [((eD (vL 1)),(eD (kD (.bl true))))]) [some (.dat (dR rows)),some (.dat (.int n)),some (.dat (.str b)),none,none,none,none] []=some (.nx [some (.dat (dR rows)),some (.dat (.int n)),some (.dat (.str b)),some (.ref 0),none,none,none] [cK [n]]):=by
  refine (bu (v:=.ref 0) (ch1:=[cK [n]]) ?_).trans rfl
  show (if (([(kI n,CV.dat (.bl true))]:List (Key×CV)).length<=15/\(([(kI n,CV.dat (.bl true))]:List (Key×CV)).map (·.1)).Nodup) then some (CV.ref 0,[cK [n]]) else none)=_
  rw [if_pos ⟨by simp,by simp⟩]
 have s4:bp 4 (eN (bH (ae (vL 1) ao))) [some (.dat (dR rows)),some (.dat (.int n)),some (.dat (.str b)),some (.ref 0),none,none,none] [cK [n]]=some (.nx (s2 rows n b none none) [cK [n],cL [n]]):=by
  refine (bu (v:=.ref 1) (ch1:=[cK [n],cL [n]]) ?_).trans rfl
  unfold eN
  rw [oj]
  show ((((some (Dt.int n)).bind fun d=>(some []).bind fun ds=>some (d::ds)).bind mkL).bind _)=_
  rw [Option.bind_some,Option.bind_some,Option.bind_some,em (by simp)]
  rfl
 rcases h with ⟨h,hn⟩ | ⟨⟨δ,h⟩,hn⟩
 · refine ⟨true,?_,by simp [hn]⟩
   have e:q13 [.dat (dR rows),.dat (.int n),.dat (.str b)] []=some (.dat (.bl true),ch):=by
    unfold q13
    refine ir ?_
    show bm _ _ [some (.dat (dR rows)),some (.dat (.int n)),some (.dat (.str b)),none,none,none,none] []=_
    rw [aM s1,aM s4]
    exact m6 h
   unfold mP
   simp only [List.map_cons,List.map_nil]
   rw [e]
   rfl
 · refine ⟨false,?_,by simp [hn]⟩
   have e:q13 [.dat (dR rows),.dat (.int n),.dat (.str b)] []=some (.dat (.bl false),ch):=by
    unfold q13
    refine ir ?_
    show bm _ _ [some (.dat (dR rows)),some (.dat (.int n)),some (.dat (.str b)),none,none,none,none] []=_
    rw [aM s1,aM s4,aM h]
    exact gl (ck rfl)
   unfold mP
   simp only [List.map_cons,List.map_nil]
   rw [e]
   rfl
def jk {α β:Type} (f:α->β) (l:List α) (k:Nat) (h:k<l.length) (d:α):atI (l.map f) (k:Int)=some (f (l.getD k d)):=by
 unfold atI ixN
 rw [if_pos (by omega),List.length_map,if_pos (by omega)]
 simp [h]
def gq (ns:List Int) (k:Nat):y3 [.lst (ns.map .int),.int k]=some (.leaf (.int (ns.getD k 0))):=by
 unfold y3
 walk_at "d"
 by_cases h:k<ns.length
 · rw [ip (by simpa using h)]
   walk_at "d"
   rw [jk Dt.int ns k h 0]
   rfl
 · rw [iq (by simpa using h)]
   walk_at "d"
   simp [List.getD,show ns.length<=k by omega]
def kh (x0:Option T) (k:Nat) (hk:k<=1000):∀ (ds:List Nat) (f n:Int) (x4:Option T),-1000000000<=n->n<=10000000000->(∀ j∈ds,j<=100)->∃ f' n' y,cz (ay 4) y40 (ds.map dI) [x0,some (.leaf (.int k)),some (.leaf (.int f)),some (.leaf (.int n)),x4]=some (.nx [x0,some (.leaf (.int k)),some (.leaf (.int f')),some (.leaf (.int n')),y])
 | [],f,n,x4,_,_,_=>⟨f,n,x4,rfl⟩
 | j::ds,f,n,x4,h0,h1,hj=>by
  have hj0:=hj j (.head _)
  have a0:=Int.emod_nonneg (n*n+69621*n+(j:Int)) (show (2147483629:Int)≠0 by decide)
  have a1:=Int.emod_lt_of_pos (n*n+69621*n+(j:Int)) (show (0:Int)<2147483629 by decide)
  generalize hu:(n*n+69621*n+(j:Int))%2147483629=u at a0 a1
  have b0:=Int.emod_nonneg (u*16807+7919*(j:Int)+(k:Int)) (show (2147483587:Int)≠0 by decide)
  have b1:=Int.emod_lt_of_pos (u*16807+7919*(j:Int)+(k:Int)) (show (0:Int)<2147483587 by decide)
  generalize hv:(u*16807+7919*(j:Int)+(k:Int))%2147483587=v at b0 b1
  obtain ⟨f',n',y,e⟩:=kh x0 k hk ds (f*2147483587+v) v (some (.leaf (dI j))) (by omega) (by omega) fun i hi=>hj i (.tail _ hi)
  refine ⟨f',n',y,?_⟩
  rw [List.map_cons,bw (δ1:=[x0,some (.leaf (.int k)),some (.leaf (.int f)),some (.leaf (.int n)),some (.leaf (dI j))]) (δ2:=[x0,some (.leaf (.int k)),some (.leaf (.int (f*2147483587+v))),some (.leaf (.int v)),some (.leaf (dI j))]) rfl ?_]
  · exact e
  · unfold y40 dI
    walk_at "d"
    rw [yd (i:=n) (j:=n) (by omega) (by omega)]
    walk_at "d"
    rw [hu,hv]
def cH {i j:Int} (h0:0<j) (h1:j<10000000000000):dN (.int i) (.int j)=some (.leaf (.int (i/j))):=if_pos ⟨h0,by omega⟩
def vI (c:Int) (k:Nat) (hk:k<=1000):∃ v:Int,y30 [.int c,.int k]=some (.leaf (.int v)):=by
 have c0:=Int.emod_nonneg c (show (2147483629:Int)≠0 by decide)
 have c1:=Int.emod_lt_of_pos c (show (0:Int)<2147483629 by decide)
 obtain ⟨f',n',y,e⟩:=kh (some (.leaf (.int c))) k hk (List.range 15) 0 (c%2147483629+48271*(k:Int)+11) none (by omega) (by omega) fun j hj=>by have:=List.mem_range.mp hj;omega
 have er:d7 0 15=(List.range 15).map dI:=by
  unfold d7 dI
  simp
 refine ⟨f',?_⟩
 unfold y30
 walk_at "d"
 rw [sS (by decide),Option.bind_some,show (15:Int).toNat=15 from rfl,er,e]
 walk_at "d"
def lE (ns:List Int) (k:Nat) (hk:k<=1000):∃ v:Int,y15 [.lst (ns.map .int),.int k]=some (.leaf (.int v)):=by
 unfold y15
 walk_at "d"
 rw [show (Dt.int 0)=.int ((0:Nat):Int) from rfl,gq]
 walk_at "d"
 by_cases h:ns.getD 0 0%2=0
 · rw [ip (by simpa using h)]
   walk_at "d"
   rw [gq]
   exact ⟨_,rfl⟩
 · rw [iq (by simpa using h)]
   walk_at "d"
   rw [gq]
   walk_at "d"
   obtain ⟨v,e⟩:=vI (ns.getD k 0) k hk
   rw [e]
   exact ⟨_,rfl⟩
def hW (x1:Option T):∀ (zs:List Nat) (n:Int) (done:List Nat) (x3:Option T),(∀ z∈zs,0<z/\z<10000000000000)->done.length+zs.length<=100->∃ (n':Int) (ds:List Nat) (y:Option T),cz (ay 3) q34 (zs.map dI) [some (.leaf (.int n)),x1,some (.lst (done.map dI)),x3]=some (.nx [some (.leaf (.int n')),x1,some (.lst ((done++ds).map dI)),y])/\ds.length=zs.length/\∀ (i d z:Nat),ds[i]?=some d->zs[i]?=some z->d<z
 | [],n,done,x3,_,_=>⟨n,[],x3,by simp [cz],rfl,fun i d z h=>by simp at h⟩
 | z::zs,n,done,x3,hz,hl=>by
  obtain ⟨h0,h1⟩:=hz z (.head _)
  have m0:=Int.emod_nonneg n (show (z:Int)≠0 by omega)
  have m1:=Int.emod_lt_of_pos n (show (0:Int)<z by omega)
  obtain ⟨d,hd⟩:∃ d:Nat,n%(z:Int)=(d:Int):=⟨(n%(z:Int)).toNat,by omega⟩
  obtain ⟨n',ds,y,e,el,ed⟩:=hW x1 zs (n/z) (done++[d]) (some (.leaf (dI z))) (fun w hw=>hz w (.tail _ hw)) (by simp at hl ⊢;omega)
  refine ⟨n',d::ds,y,?_,by simp [el],fun i d' z' h1 h2=>?_⟩
  · rw [List.map_cons,bw (δ1:=[some (.leaf (.int n)),x1,some (.lst (done.map dI)),some (.leaf (dI z))]) (δ2:=[some (.leaf (.int (n/z))),x1,some (.lst ((done++[d]).map dI)),some (.leaf (dI z))]) rfl ?_]
    · rw [e]
      simp
    · unfold q34 dI
      walk_at "d"
      rw [j8 rfl]
      walk_at "d"
      rw [oe (by omega),hd]
      walk_at "d"
      rw [eS (by rw [List.length_map];simp at hl;omega)]
      walk_at "d"
      rw [cH (by omega) (by omega)]
      walk_at "d"
      simp [dI]
  · cases i with
    | zero =>
     simp at h1 h2
     subst h1 h2
     omega
    | succ i=>exact ed i d' z' (by simpa using h1) (by simpa using h2)
def dy (n:Int) (zs:List Nat) (hz:∀ z∈zs,0<z/\z<10000000000000) (hl:zs.length<=50):∃ ds:List Nat,y8 [.int n,.lst (zs.map dI)]=some (.lst (ds.map dI))/\ds.length=zs.length/\∀ (i d z:Nat),ds[i]?=some d->zs[i]?=some z->d<z:=by
 obtain ⟨n',ds,y,e,el,ed⟩:=hW (some (.leaf (.lst (zs.map dI)))) zs n [] none hz (by simp;omega)
 refine ⟨ds,?_,el,ed⟩
 unfold y8
 walk_at "d"
 rw [show ([]:List Dt)=([]:List Nat).map dI from rfl,e]
 walk_at "d"
def letters:Str:="abcdefghijklmnopqrstuvwxyz"
def na:letters.length=26:=by decide +kernel
def sgN (i:Nat):Nat:=letters.cps.toList.getD i 0
def tI (i:Nat) (h1:i<26):aA (.str letters) (.int i)=some (.leaf (.str ⟨#[sgN i]⟩)):=by
 have hl:letters.cps.toList.length=26:=by decide +kernel
 rw [sR (by rw [na];exact small (by decide)),bh,gQ (by omega)]
 unfold sgN
 rw [List.getD_eq_getElem?_getD,gQ (by omega)]
 rfl
def vJ:∀ i<26,∀ j<26,sgN i=sgN j->i=j:=by decide +kernel
def yL:∀ i<26,Builtin.Str.occurrences letters ⟨#[sgN i]⟩ 0 letters.length 1=[i]:=by decide +kernel
def qH (i:Nat) (h:i<26):db (.str letters) [.str ⟨#[sgN i]⟩]=some (.leaf (.int i)):=by
 unfold db
 dsimp only
 rw [yL i h]
 rfl
def wd (base:List Nat) (e:Nat):Str:=⟨(base++[sgN e]).toArray⟩
def tJ (base:List Nat) (e:Nat):(wd base e).length=base.length+1:=by
 show ((base++[sgN e]).toArray).size=_
 simp
def yM {base:List Nat} {i j:Nat} (hi:i<26) (hj:j<26) (h:wd base i=wd base j):i=j:=by
 have e:=congrArg (fun s:Str=>s.cps.toList) h
 simp only [wd] at e
 have e:=List.append_cancel_left e
 exact vJ i hi j hj (by simpa using e)
def nc:∀ (l m:List Nat),(List.range l.length).filterMap (fun i=>(l++m)[i]?)=l
 | [],m=>rfl
 | a::l,m=>by
  rw [List.length_cons,List.range_succ_eq_map,List.filterMap_cons]
  simp only [List.cons_append,List.getElem?_cons_zero,List.filterMap_map]
  congr 1
  exact nc l m
def yN:∀ n<10,Builtin.Str.strSliceIndices none (some (-1)) 1 (n+1)=List.range n:=by decide +kernel
def yO (base:List Nat) (e:Nat) (h:base.length<10):gSl (.str (wd base e)) none (some (-1))=some (.leaf (.str ⟨base.toArray⟩)):=by
 have hl:=tJ base e
 unfold gSl
 dsimp only
 rw [if_pos (small (by omega))]
 unfold Txt.slice
 rw [hl,yN _ h,if_neg (by simp)]
 have:=nc base [sgN e]
 have q:(List.range base.length).filterMap (fun i=>(wd base e).cps[i]?)=base:=by
  refine Eq.trans ?_ this
  congr 1
  funext i
  unfold wd
  simp
 rw [q]
def vK (base:List Nat) (e:Nat) (h:base.length<10):aA (.str (wd base e)) (.int (-1))=some (.leaf (.str ⟨#[sgN e]⟩)):=by
 rw [sR (by rw [tJ];exact small (by omega))]
 have:(wd base e).cps.toList=base++[sgN e]:=by unfold wd;simp
 rw [this]
 unfold atI ixN
 rw [if_neg (by decide),if_pos (by simp;omega)]
 simp only [Option.bind_some,List.length_append,List.length_singleton]
 rw [show ((-1:Int)+((base.length+1:Nat):Int)).toNat=base.length by omega]
 simp
def yP (base:List Nat) (e:Nat) (h:base.length<10):bN (.str ⟨base.toArray⟩) (.str ⟨#[sgN e]⟩)=some (.leaf (.str (wd base e))):=by
 rw [ya (small (by show base.toArray.size+1<=_;simp;omega))]
 congr 3
 show (⟨base.toArray++#[sgN e]⟩:Str)=_
 unfold wd
 simp
def qI {n m:Dt} {fd:List Str} {x4:Option T} {base:List Nat} {e:Nat} (h:base.length<10) (he:e<26) :
  z28 [some (.leaf n),some (.leaf m),some (.leaf (.str letters)),some (.lst (fd.map .str)),x4,some (.leaf (.str (wd base e)))]=some (.nx [some (.leaf n),some (.leaf m),some (.leaf (.str letters)),some (.lst (fd.map .str)),x4,some (.leaf (.str (wd base ((e+1)%26))))]):=by
 unfold z28
 walk_at "d"
 rw [show (-(1:Int))=-1 from rfl,vK base e h]
 walk_at "d"
 rw [yO base e h,qH e he]
 walk_at "d"
 rw [show ((e:Int)+1)%26=(((e+1)%26:Nat):Int) by omega,tI _ (Nat.mod_lt _ (by decide))]
 walk_at "d"
 rw [yP _ _ h]
 walk_at "d"
def qJ {n m:Dt} {fd:List Str} {x4:Option T} {w:Str}:z21 [some (.leaf n),some (.leaf m),some (.leaf (.str letters)),some (.lst (fd.map .str)),x4,some (.leaf (.str w))]=some (decide (w∈fd)):=by
 unfold z21
 walk_at "d"
 rw [gn]
 rfl
def wV {n m:Dt} {fd:List Str} {x4:Option T} {base:List Nat} {e0:Nat} (h:base.length<10) (hf:fd.length<=12):∀ (d s fuel:Nat),s+d=13->d<fuel->(∀ t,t<s->wd base ((e0+t)%26)∈fd)→
  ∃ e,e<26/\wd base e∉fd/\dh z21 z28 fuel [some (.leaf n),some (.leaf m),some (.leaf (.str letters)),some (.lst (fd.map .str)),x4,some (.leaf (.str (wd base ((e0+s)%26))))]=some (.nx [some (.leaf n),some (.leaf m),some (.leaf (.str letters)),some (.lst (fd.map .str)),x4,some (.leaf (.str (wd base e)))])
 | 0,s,fuel,hs,_,hw=>by
  exfalso
  have hl:((List.range s).map fun t=>wd base ((e0+t)%26)).length<=fd.length:=cu (by
   rw [List.nodup_iff_pairwise_ne,List.pairwise_map]
   refine List.pairwise_iff_getElem.mpr fun i j hi hj hij q=>?_
   simp only [List.length_range] at hi hj
   simp only [List.getElem_range] at q
   have:=yM (Nat.mod_lt _ (by decide)) (Nat.mod_lt _ (by decide)) q
   omega) fun x hx=>by
   obtain ⟨t,ht,rfl⟩:=List.mem_map.mp hx
   exact hw t (List.mem_range.mp ht)
  simp at hl
  omega
 | d+1,s,0,hs,hfu,hw=>by omega
 | d+1,s,fuel+1,hs,hfu,hw=>by
  have hC:=qJ (n:=n) (m:=m) (fd:=fd) (x4:=x4) (w:=wd base ((e0+s)%26))
  by_cases hx:wd base ((e0+s)%26)∈fd
  · obtain ⟨e,h1,h2,h3⟩:=wV (n:=n) (m:=m) (x4:=x4) (e0:=e0) h hf d (s+1) fuel (by omega) (by omega) fun t ht=>by
     by_cases q:t=s
     · rw [q];exact hx
     · exact hw t (by omega)
    refine ⟨e,h1,h2,?_⟩
    rw [decide_eq_true hx] at hC
    show ((z21 _).bind fun b=>_)=_
    rw [hC,Option.bind_some,if_pos rfl,qI h (Nat.mod_lt _ (by decide)),Option.bind_some]
    dsimp only
    rw [show ((e0+s)%26+1)%26=(e0+(s+1))%26 by omega]
    exact h3
  · refine ⟨_,Nat.mod_lt _ (by decide),hx,?_⟩
    rw [decide_eq_false hx] at hC
    show ((z21 _).bind fun b=>_)=_
    rw [hC]
    rfl
def dz (k:Nat):d7 0 k=(List.range k).map dI:=by
 unfold d7 dI
 simp
def yQ {ds:List Nat} (hl:ds.length=7) (hd:∀ i,0<i->i<7->ds.getD i 0<26) (i:Nat) (hi:i<6):z29 [some (.leaf (dI i)),some (.leaf (.str letters)),some (.leaf (.lst (ds.map dI)))]=some (.str ⟨#[sgN (ds.getD (1+i) 0)]⟩):=by
 unfold z29
 walk_at "d"
 unfold dI
 walk_at "d"
 rw [show (1:Int)+(i:Int)=((1+i:Nat):Int) by omega,jk (fun j:Nat=>Dt.int (j:Int)) ds (1+i) (by omega) 0]
 walk_at "d"
 rw [tI _ (hd (1+i) (by omega) (by omega))]
 walk_at "d"
def qK (n:Int) (m:Dt) (fd:List Str) (hf:fd.length<=12) (x4 x5:Option T):∃ (n':Int) (w:Str) (y4:Option T),w∉fd/\q30 [some (.leaf (.int n)),some (.leaf m),some (.leaf (.str letters)),some (.lst (fd.map .str)),x4,x5]=some (.nx [some (.leaf (.int n')),some (.leaf m),some (.leaf (.str letters)),some (.lst ((fd++[w]).map .str)),y4,some (.leaf (.str w))]):=by
 obtain ⟨ds,e,el,ed⟩:=dy n [6,26,26,26,26,26,26] (by intro z hz;simp at hz;omega) (by simp)
 have hl:ds.length=7:=el
 have hg:∀ i,i<7->ds[i]?=some (ds.getD i 0):=fun i hi=>by
  rw [List.getD_eq_getElem?_getD,gQ (by omega)]
  rfl
 have h0:ds.getD 0 0<6:=ed 0 _ 6 (hg 0 (by omega)) rfl
 have hd:∀ i,0<i->i<7->ds.getD i 0<26:=fun i hi hi7=>ed i _ 26 (hg i hi7) (by
  have q:i=1∨i=2∨i=3∨i=4∨i=5∨i=6:=by omega
  rcases q with rfl | rfl | rfl | rfl | rfl | rfl<;>rfl)
 generalize hd0:ds.getD 0 0=d0 at h0
 have he0:=hd (1+d0) (by omega) (by omega)
 generalize hbase:(List.range d0).map (fun i=>sgN (ds.getD (1+i) 0))=base
 have hbl:base.length=d0:=by rw [<- hbase];simp
 have hcs:((List.range (d0+1)).map fun i=>sgN (ds.getD (1+i) 0))=base++[sgN (ds.getD (1+d0) 0)]:=by
  rw [List.range_succ,List.map_append,hbase]
  rfl
 obtain ⟨e',h1,h2,h3⟩:=wV (n:=.int (n/1853494656)) (m:=m) (fd:=fd) (x4:=some (.leaf (.lst (ds.map dI)))) (base:=base) (e0:=ds.getD (1+d0) 0) (by omega) hf 13 0 100000 (by omega) (by omega) (fun t ht=>by omega)
 rw [Nat.add_zero,Nat.mod_eq_of_lt he0] at h3
 refine ⟨n/1853494656,wd base e',some (.leaf (.lst (ds.map dI))),h2,?_⟩
 have ec:=fG (bb:=ay 0) (ft:=cQ) (fe:=z29) (δ:=[none,some (.leaf (.str letters)),some (.leaf (.lst (ds.map dI)))]) (f:=dI) (h:=fun i=>.str ⟨#[sgN (ds.getD (1+i) 0)]⟩) (l:=List.range (d0+1)) fun i hi=>⟨_,rfl,rfl,yQ hl hd i (by have:=List.mem_range.mp hi;omega)⟩
 have es:(List.range (d0+1)).map (fun i=>Dt.str ⟨#[sgN (ds.getD (1+i) 0)]⟩)=sgD (base++[sgN (ds.getD (1+d0) 0)]):=by
  rw [<- hcs]
  unfold sgD
  rw [List.map_map]
  rfl
 rw [es] at ec
 have hx0:(ds.map dI)[0]?=some (.int (d0:Int)):=by
  rw [List.getElem?_map,hg 0 (by omega),hd0]
  rfl
 unfold q30
 walk_at "d"
 rw [show Dt.lst [.int 6,.int 26,.int 26,.int 26,.int 26,.int 26,.int 26]=.lst (([6,26,26,26,26,26,26]:List Nat).map dI) from rfl,e]
 walk_at "d"
 rw [hx0]
 walk_at "d"
 rw [show (1:Int)+(d0:Int)=((d0+1:Nat):Int) by omega,ja (by omega),Option.bind_some,dz,ec,Option.bind_some,em (by unfold sgD;simp;omega)]
 walk_at "d"
 rw [show Str.ofString ""=("":Str) from rfl,sX (by simp;omega)]
 walk_at "d"
 rw [oh (show jP 26 6=true by decide +kernel)]
 walk_at "d"
 rw [show (6:Int)*26^(6:Int).toNat=1853494656 from by decide +kernel,cH (by decide) (by decide)]
 walk_at "d"
 rw [show (⟨(base++[sgN (ds.getD (1+d0) 0)]).toArray⟩:Str)=wd base (ds.getD (1+d0) 0) from rfl,h3]
 walk_at "d"
 rw [j8 rfl]
 walk_at "d"
 rw [eS (by rw [List.length_map];omega)]
 walk_at "d"
 simp
def ng (m:Nat) (hm:m<=12):∀ (d fuel:Nat) (n:Int) (fd:List Str) (x4 x5:Option T),fd.length+d=m->d<fuel->fd.Nodup->∃ (B:List Str) (n':Int) (y4 y5:Option T),B.Nodup/\B.length=m/\dh q21 q30 fuel [some (.leaf (.int n)),some (.leaf (.int m)),some (.leaf (.str letters)),some (.lst (fd.map .str)),x4,x5]=some (.nx [some (.leaf (.int n')),some (.leaf (.int m)),some (.leaf (.str letters)),some (.lst (B.map .str)),y4,y5])
 | d,0,n,fd,x4,x5,h1,h2,nd=>by omega
 | d,fuel+1,n,fd,x4,x5,h1,h2,nd=>by
  have hC:q21 [some (.leaf (.int n)),some (.leaf (.int m)),some (.leaf (.str letters)),some (.lst (fd.map .str)),x4,x5]=some (decide (fd.length<m)):=by
   unfold q21
   walk_at "d"
   rw [List.length_map]
   congr 1
   by_cases q:fd.length<m
   · rw [decide_eq_true q,decide_eq_true (by omega)]
   · rw [decide_eq_false q,decide_eq_false (by omega)]
  cases d with
  | zero =>
   refine ⟨fd,n,x4,x5,nd,by omega,?_⟩
   rw [decide_eq_false (by omega)] at hC
   show ((q21 _).bind fun b=>_)=_
   rw [hC]
   rfl
  | succ d =>
   obtain ⟨n',w,y4,hw,e⟩:=qK n (.int m) fd (by omega) x4 x5
   obtain ⟨B,n2,z4,z5,ndB,hB,e2⟩:=ng m hm d fuel n' (fd++[w]) y4 (some (.leaf (.str w))) (by simp;omega) (by omega) (by
    rw [List.nodup_append]
    exact ⟨nd,by simp,fun a ha c hc q=>hw (by rw [List.mem_singleton.mp hc] at q;exact q▸ha)⟩)
   refine ⟨B,n2,z4,z5,ndB,hB,?_⟩
   rw [decide_eq_true (by omega)] at hC
   show ((q21 _).bind fun b=>_)=_
   rw [hC,Option.bind_some,if_pos rfl,e,Option.bind_some]
   exact e2
def nh (n:Int) (m:Nat) (hm:m<=12):∃ B:List Str,q22 [.int n,.int m]=some (.lst (B.map .str))/\B.length=m/\B.Nodup:=by
 obtain ⟨B,n',y4,y5,nd,hB,e⟩:=ng m hm m 100000 n [] none none (by simp) (by omega) List.nodup_nil
 refine ⟨B,?_,hB,nd⟩
 unfold q22
 walk_at "d"
 rw [show Str.ofString "abcdefghijklmnopqrstuvwxyz"=letters from rfl,show ([]:List Dt)=([]:List Str).map .str from rfl,e]
 walk_at "d"
structure Hd where
 x:Str
 n:Int
 b:Bool
def hdD (h:Hd):Dt:=.tup [.str h.x,.int h.n,.bl h.b]
def pw41:ib (.int 2) (.int 41)=some (.leaf (.int 2199023255552)):=by
 rw [oh (by decide +kernel)]
 rfl
def oz:wide=1099511627776:=lx
def tK {th:List Str} {k:Nat} (h:k<th.length):atI (th.map Dt.str) (k:Int)=some (.str (th.getD k "")):=jk Dt.str th k h ""
def ceH (th:List Str) (num:Int) (k:Nat):Hd:=⟨th.getD k "",num%1099511627776,decide (num/1099511627776%2=1)⟩
def shH (th:List Str) (num:Int) (k:Nat):Hd:=⟨th.getD (8+k) "",1+num%8,decide (num/8%2=1)⟩
def jl (x0 x2 x3 x4 x8:Option T) (th:List Str) (hth:th.length=12):∀ (ks:List Nat) (done:List Hd) (num:Int) (x7:Option T),(∀ k∈ks,k<12)->done.length+ks.length<=100→
  ∃ (hs:List Hd) (num':Int) (y7:Option T),cz (ay 7) y38 (ks.map dI) [x0,some (.leaf (.int num)),x2,x3,x4,some (.leaf (dS th)),some (.lst (done.map hdD)),x7,x8]=some (.nx [x0,some (.leaf (.int num')),x2,x3,x4,some (.leaf (dS th)),some (.lst ((done++hs).map hdD)),y7,x8])/\hs.map (·.x)=ks.map (fun k=>th.getD k "")/\∀ h∈hs,0<=h.n/\h.n<1099511627776
 | [],done,num,x7,_,_=>⟨[],num,x7,by simp [cz],rfl,fun h hh=>by cases hh⟩
 | k::ks,done,num,x7,hk,hl=>by
  have hk0:=hk k (.head _)
  obtain ⟨hs,num',y7,e,e1,e2⟩:=jl x0 x2 x3 x4 x8 th hth ks (done++[ceH th num k]) (num/2199023255552) (some (.leaf (dI k))) (fun j hj=>hk j (.tail _ hj)) (by simp at hl ⊢;omega)
  refine ⟨ceH th num k::hs,num',y7,?_,by simp only [List.map_cons,e1];rfl,fun h hh=>?_⟩
  · rw [List.map_cons,bw (δ1:=[x0,some (.leaf (.int num)),x2,x3,x4,some (.leaf (dS th)),some (.lst (done.map hdD)),some (.leaf (dI k)),x8]) (δ2:=[x0,some (.leaf (.int (num/2199023255552))),x2,x3,x4,some (.leaf (dS th)),some (.lst ((done++[ceH th num k]).map hdD)),some (.leaf (dI k)),x8]) rfl ?_]
    · rw [e,List.append_assoc]
      rfl
    · unfold y38 dI dS
      walk_at "d"
      rw [j8 rfl]
      walk_at "d"
      rw [tK (by omega)]
      walk_at "d"
      rw [oz,cH (by decide) (by decide)]
      walk_at "d"
      rw [eS (by rw [List.length_map];simp at hl;omega)]
      walk_at "d"
      rw [pw41]
      walk_at "d"
      rw [cH (by decide) (by decide)]
      walk_at "d"
      rw [List.map_append]
      rfl
  · rcases List.mem_cons.mp hh with rfl | hh
    · exact ⟨Int.emod_nonneg _ (by decide),Int.emod_lt_of_pos _ (by decide)⟩
    · exact e2 h hh
def gr (x0 x2 x3 x4 x6:Option T) (th:List Str) (hth:th.length=12):∀ (ks:List Nat) (done:List Hd) (num:Int) (x7:Option T),(∀ k∈ks,k<4)->done.length+ks.length<=100→
  ∃ (hs:List Hd) (num':Int) (y7:Option T),cz (ay 7) y36 (ks.map dI) [x0,some (.leaf (.int num)),x2,x3,x4,some (.leaf (dS th)),x6,x7,some (.lst (done.map hdD))]=some (.nx [x0,some (.leaf (.int num')),x2,x3,x4,some (.leaf (dS th)),x6,y7,some (.lst ((done++hs).map hdD))])/\hs.map (·.x)=ks.map (fun k=>th.getD (8+k) "")/\∀ h∈hs,1<=h.n/\h.n<=8
 | [],done,num,x7,_,_=>⟨[],num,x7,by simp [cz],rfl,fun h hh=>by cases hh⟩
 | k::ks,done,num,x7,hk,hl=>by
  have hk0:=hk k (.head _)
  have m0:=Int.emod_nonneg num (show (8:Int)≠0 by decide)
  have m1:=Int.emod_lt_of_pos num (show (0:Int)<8 by decide)
  obtain ⟨hs,num',y7,e,e1,e2⟩:=gr x0 x2 x3 x4 x6 th hth ks (done++[shH th num k]) (num/16) (some (.leaf (dI k))) (fun j hj=>hk j (.tail _ hj)) (by simp at hl ⊢;omega)
  refine ⟨shH th num k::hs,num',y7,?_,by simp only [List.map_cons,e1];rfl,fun h hh=>?_⟩
  · rw [List.map_cons,bw (δ1:=[x0,some (.leaf (.int num)),x2,x3,x4,some (.leaf (dS th)),x6,some (.leaf (dI k)),some (.lst (done.map hdD))]) (δ2:=[x0,some (.leaf (.int (num/16))),x2,x3,x4,some (.leaf (dS th)),x6,some (.leaf (dI k)),some (.lst ((done++[shH th num k]).map hdD))]) rfl ?_]
    · rw [e,List.append_assoc]
      rfl
    · unfold y36 dI dS
      walk_at "d"
      rw [j8 rfl]
      walk_at "d"
      rw [show (8:Int)+(k:Int)=((8+k:Nat):Int) by omega,tK (by omega)]
      walk_at "d"
      rw [cH (by decide) (by decide)]
      walk_at "d"
      rw [eS (by rw [List.length_map];simp at hl;omega)]
      walk_at "d"
      rw [cH (by decide) (by decide)]
      walk_at "d"
      rw [List.map_append]
      rfl
  · rcases List.mem_cons.mp hh with rfl | hh
    · exact ⟨by show 1<=1+num%8;omega,by show 1+num%8<=8;omega⟩
    · exact e2 h hh
structure Wld (B:List Str) (cs ss:List Hd):Prop where
 b0:0<B.length
 b1:B.length<=12
 nd:B.Nodup
 c1:cs.length<=8
 s1:ss.length<=4
 hn:((cs++ss).map (·.x)).Nodup
 cn:∀ h∈cs,0<=h.n/\h.n<1099511627776
 sn:∀ h∈ss,1<=h.n/\h.n<=8
def wD (B:List Str) (cs ss:List Hd) (rest:Int):Dt:=.tup [dS B,.tup (cs.map hdD),.tup (ss.map hdD),.int rest]
def tM (ns:List Int):∃ (B:List Str) (cs ss:List Hd) (rest:Int),z15 [.lst (ns.map .int)]=some (.leaf (wD B cs ss rest))/\Wld B cs ss:=by
 obtain ⟨v3,e3⟩:=lE ns 3 (by omega)
 obtain ⟨v2,e2⟩:=lE ns 2 (by omega)
 obtain ⟨v1,e1⟩:=lE ns 1 (by omega)
 obtain ⟨ds,ed,el,hd⟩:=dy v3 [9,5,12] (by intro z hz;simp at hz;omega) (by simp)
 have hl:ds.length=3:=el
 obtain ⟨a,b,c,rfl⟩:∃ a b c,ds=[a,b,c]:=by
  match ds,hl with
  | [a,b,c],_=>exact ⟨a,b,c,rfl⟩
 have ha:a<9:=hd 0 a 9 rfl rfl
 have hb:b<5:=hd 1 b 5 rfl rfl
 have hc:c<12:=hd 2 c 12 rfl rfl
 obtain ⟨k,hk,ek⟩:=jd (ns.getD 0 0/2) (n:=3) (by decide)
 obtain ⟨vt,et⟩:∃ vt:Int,∃ j:Nat,y15 [.lst (ns.map .int),.int j]=some (.leaf (.int vt))/\atI [Dt.int 1,Dt.int 1,Dt.int 2] (k:Int)=some (.int j):=by
  have q:k=0∨k=1∨k=2:=by omega
  rcases q with rfl | rfl | rfl
  · exact ⟨v1,1,e1,rfl⟩
  · exact ⟨v1,1,e1,rfl⟩
  · exact ⟨v2,2,e2,rfl⟩
 obtain ⟨j,et,ej⟩:=et
 obtain ⟨th,en,hth,ndt⟩:=nh vt 12 (by omega)
 obtain ⟨B,eB,hB,ndB⟩:=nh v2 (1+c) (by omega)
 obtain ⟨cs,n1,y7,ec,hc1,hc2⟩:=jl (some (.leaf (.lst (ns.map .int)))) (some (.leaf (.int a))) (some (.leaf (.int b))) (some (.leaf (.int c))) none th hth (List.range a) [] (v3/540) none (fun k hk=>by have:=List.mem_range.mp hk;omega) (by simp;omega)
 obtain ⟨ss,n2,z7,es,hs1,hs2⟩:=gr (some (.leaf (.lst (ns.map .int)))) (some (.leaf (.int a))) (some (.leaf (.int b))) (some (.leaf (.int c))) (some (.lst (cs.map hdD))) th hth (List.range b) [] n1 y7 (fun k hk=>by have:=List.mem_range.mp hk;omega) (by simp;omega)
 have lc:cs.length=a:=by have:=congrArg List.length hc1;simpa using this
 have ls:ss.length=b:=by have:=congrArg List.length hs1;simpa using this
 refine ⟨B,cs,ss,n2,?_,⟨by omega,by omega,ndB,by omega,by omega,?_,hc2,hs2⟩⟩
 · have e3':y15 [.lst (ns.map .int),.int 3]=some (.leaf (.int v3)):=e3
   have e2':y15 [.lst (ns.map .int),.int 2]=some (.leaf (.int v2)):=e2
   have c0':y3 [.lst (ns.map .int),.int 0]=some (.leaf (.int (ns.getD 0 0))):=gq ns 0
   have en':q22 [.int vt,.int 12]=some (.lst (th.map .str)):=en
   have ed':y8 [.int v3,.lst [.int 9,.int 5,.int 12]]=some (.lst [.int a,.int b,.int c]):=ed
   have ek':ns.getD 0 0/2%3=(k:Int):=ek
   unfold z15
   walk_at "d"
   rw [e3']
   walk_at "d"
   rw [ed']
   walk_at "d"
   unfold mz bJ jq
   walk_at "d"
   simp only [List.isEmpty_nil,if_true]
   walk_at "d"
   rw [cH (by decide) (by decide)]
   walk_at "d"
   rw [c0']
   walk_at "d"
   rw [cH (by decide) (by decide)]
   walk_at "d"
   rw [ek',ej]
   walk_at "d"
   rw [et]
   walk_at "d"
   rw [en']
   walk_at "d"
   rw [ja (by omega),Option.bind_some,dz]
   rw [show (Dt.lst (th.map .str))=dS th from rfl,show (([]:List Dt))=([]:List Hd).map hdD from rfl,ec]
   walk_at "d"
   rw [ja (by omega),Option.bind_some,dz]
   rw [show (([]:List Dt))=([]:List Hd).map hdD from rfl,es]
   walk_at "d"
   rw [e2']
   walk_at "d"
   rw [show (1:Int)+(c:Int)=((1+c:Nat):Int) by omega,eB]
   walk_at "d"
   rfl
 · rw [List.map_append,hc1,hs1]
   have e:(List.range a).map (fun k=>th.getD k "")++(List.range b).map (fun k=>th.getD (8+k) "")=((List.range a)++(List.range b).map (8 + ·)).map (fun k=>th.getD k ""):=by
    rw [List.map_append,List.map_map]
    rfl
   rw [e,List.nodup_iff_pairwise_ne,List.pairwise_map]
   have nd2:((List.range a)++(List.range b).map (8 + ·)).Nodup:=by
    rw [List.nodup_append]
    refine ⟨List.nodup_range,?_,fun x hx y hy q=>?_⟩
    · rw [List.nodup_iff_pairwise_ne,List.pairwise_map]
      exact List.Pairwise.imp (fun {a b} (z:a≠b) q=>z (Nat.add_left_cancel q)) List.nodup_range
    · have:=List.mem_range.mp hx
      obtain ⟨w,_,rfl⟩:=List.mem_map.mp hy
      omega
   refine List.Pairwise.imp_of_mem (fun {x y} hx hy (z:x≠y) q=>z ?_) nd2
   have lt:∀ x,x∈(List.range a)++(List.range b).map (8 + ·)->x<12:=fun x hx=>by
    rcases List.mem_append.mp hx with h | h
    · have:=List.mem_range.mp h;omega
    · obtain ⟨w,hw,rfl⟩:=List.mem_map.mp h
      have:=List.mem_range.mp hw
      omega
   have hx2:=lt x hx
   have hy2:=lt y hy
   rw [List.getD_eq_getElem?_getD,List.getD_eq_getElem?_getD,gQ (by omega),gQ (by omega)] at q
   exact (List.getElem_inj ndt).mp (by simpa using q)
local macro_rules | `(tactic| walk_at "l") => `(tactic| simp only [Int.reduceEq, Int.reduceLT, Int.reduceSub, decide_true, decide_false, Bool.or_false, Bool.false_or, Bool.or_self, Bool.or_true, Bool.true_or, Bool.not_true, Bool.not_false, Int.reduceToNat, Option.map_some, Option.bind_some])
def AtB (B:List Str) (a:Atm):Prop:=∀ x,a=.nm x->x∈B
def lF {B:List Str} {v j:Nat} (hB:B.length<=100) (hj:j<B.length+1):∃ a:Atm,AtB B a/\((bN (.lst (B.map .str)) (.lst [.int v])).map T.d).bind (fun x=>aA x (.int j))=some (.leaf a.d):=by
 rw [yb (small (by simp;omega))]
 show ∃ a:Atm,AtB B a/\aA (.lst (B.map .str++[.int v])) (.int j)=some (.leaf a.d)
 rw [mR,bh]
 by_cases h:j<B.length
 · refine ⟨.nm (B.getD j ""),fun x q=>?_,?_⟩
   · cases q
     rw [List.getD_eq_getElem?_getD,gQ h]
     exact List.getElem_mem _
   · rw [List.getElem?_append_left (by simpa using h),List.getElem?_map,List.getElem?_eq_getElem h,List.getD_eq_getElem?_getD,List.getElem?_eq_getElem h]
     rfl
 · refine ⟨.vl v,fun x q=>(by cases q),?_⟩
   rw [List.getElem?_append_right (by simpa using h)]
   have:j-(B.map Dt.str).length=0:=by simp;omega
   rw [this]
   rfl
def ni (xs:List (Option T)):∀ (zs:List Nat) (n:Int) (x14:Option T),(∀ z∈zs,0<z/\z<10000000000000)->xs.length=13->∀ r,∃ (n':Int) (y:Option T),cz (ay 14) z33 (zs.map dI) (some (.leaf (.int n))::(xs++x14::r))=some (.nx (some (.leaf (.int n'))::(xs++y::r)))
 | [],n,x14,_,_,r=>⟨n,x14,rfl⟩
 | z::zs,n,x14,hz,hx,r=>by
  obtain ⟨h0,h1⟩:=hz z (.head _)
  obtain ⟨n',y,e⟩:=ni xs zs (n/z) (some (.leaf (dI z))) (fun w hw=>hz w (.tail _ hw)) hx r
  refine ⟨n',y,?_⟩
  rw [List.map_cons,bw (δ1:=some (.leaf (.int n))::(xs++some (.leaf (dI z))::r)) (δ2:=some (.leaf (.int (n/z)))::(xs++some (.leaf (dI z))::r)) ?_ ?_]
  · exact e
  · unfold ay
    rw [List.set_cons_succ,List.set_append_right _ _ (by omega)]
    rw [show 13-xs.length=0 by omega]
    rfl
  · have q:(some (T.leaf (Dt.int n))::(xs++some (T.leaf (dI z))::r))[14]?=some (some (.leaf (dI z))):=by
     rw [List.getElem?_cons_succ,gR (by omega),show 13-xs.length=0 by omega]
     rfl
    unfold z33 bz toT toD d2 vB
    simp only [q,List.getElem?_cons_zero,Option.bind_some,T.d]
    unfold dI
    rw [cH (by omega) (by omega)]
    rfl
def RwB (B:List Str) (many:Nat) (r:Rw):Prop:=(∀ a∈r.atoms,AtB B a)/\∀ g,(∃ a,r=.iff a g)∨r=.go g->g<many
def yR (n:Nat):n9 [.int 1,.int n]=some (.leaf (.int ((max 1 n:Nat):Int))):=by
 show some (T.leaf (Dt.int (if (1:Int)<n then (n:Int) else 1)))=_
 by_cases h:1<n
 · rw [if_pos (by omega)]
   congr 3
   omega
 · rw [if_neg (by omega)]
   congr 3
   omega
def gt:∀ cs:List Hd,deeps (cs.map hdD)<=5
 | []=>by simp [deeps]
 | h::cs=>by
  have:=gt cs
  simp only [List.map_cons,deeps,hdD,cN] at this ⊢
  omega
def hX (cs:List Hd):gEq true (.tup (cs.map hdD)) (.tup [])=some (.leaf (.bl (!cs.isEmpty))):=by
 rw [ly (b:=peqs (cs.map hdD) []) (wm (by
  have:=gt cs
  rw [decide_eq_true (by omega)]
  cases cs<;>simp [cmpbs]))]
 cases cs<;>rfl
def pO {cs:List Hd} {c:Nat} (h:c<cs.length):∃ (x:Str) (n:Int) (t:Bool),atI (cs.map hdD) (c:Int)=some (.tup [.str x,.int n,.bl t]):=by
 rw [bh,List.getElem?_map,gQ h]
 exact ⟨(cs[c]).x,(cs[c]).n,(cs[c]).b,rfl⟩
def yS (n rest:Int) (B:List Str) (cs ss:List Hd) (many:Nat) (W:Wld B cs ss) (hm:0<many) (hm2:many<=100):∃ r:Rw,y32 [.int n,wD B cs ss rest,.int many]=some (.leaf r.d)/\RwB B many r:=by
 have b0:=W.b0
 have b1:=W.b1
 have c1:=W.c1
 have s1:=W.s1
 obtain ⟨ds,ed,el,hd⟩:=dy n [11,B.length,max 1 cs.length,max 1 ss.length,8,many] (by intro z hz;simp at hz;omega) (by simp)
 have hl:ds.length=6:=el
 obtain ⟨k,x,c,f,sg,g,rfl⟩:∃ k x c f sg g,ds=[k,x,c,f,sg,g]:=by
  match ds,hl with
  | [k,x,c,f,sg,g],_=>exact ⟨k,x,c,f,sg,g,rfl⟩
 have hk:k<11:=hd 0 _ _ rfl rfl
 have hx:x<B.length:=hd 1 _ _ rfl rfl
 have hc:c<max 1 cs.length:=hd 2 _ _ rfl rfl
 have hf:f<max 1 ss.length:=hd 3 _ _ rfl rfl
 have hs:sg<8:=hd 4 _ _ rfl rfl
 have hg:g<many:=hd 5 _ _ rfl rfl
 have ed':y8 [.int n,.lst [.int 11,.int B.length,.int ((max 1 cs.length:Nat):Int),.int ((max 1 ss.length:Nat):Int),.int 8,.int many]]=some (.lst [.int k,.int x,.int c,.int f,.int sg,.int g]):=ed
 obtain ⟨n1,y14,e1⟩:=ni [some (.leaf (.tup [.lst (B.map .str),.tup (cs.map hdD),.tup (ss.map hdD),.int rest])),some (.leaf (.int many)),some (.leaf (.lst (B.map .str))),some (.leaf (.tup (cs.map hdD))),some (.leaf (.tup (ss.map hdD))),some (.leaf (.int rest)),
  some (.leaf (.lst [.int 11,.int B.length,.int ((max 1 cs.length:Nat):Int),.int ((max 1 ss.length:Nat):Int),.int 8,.int many])),some (.leaf (.int k)),some (.leaf (.int x)),some (.leaf (.int c)),some (.leaf (.int f)),some (.leaf (.int sg)),some (.leaf (.int g))] [11,B.length,max 1 cs.length,max 1 ss.length,8,many] n none (by intro z hz;simp at hz;omega) rfl [none,none,none,none]
 have e1':cz (ay 14) z33 [.int 11,.int B.length,.int ((max 1 cs.length:Nat):Int),.int ((max 1 ss.length:Nat):Int),.int 8,.int many] [some (.leaf (.int n)),some (.leaf (.tup [.lst (B.map .str),.tup (cs.map hdD),.tup (ss.map hdD),.int rest])),some (.leaf (.int many)),some (.leaf (.lst (B.map .str))),some (.leaf (.tup (cs.map hdD))),some (.leaf (.tup (ss.map hdD))),some (.leaf (.int rest)),
  some (.leaf (.lst [.int 11,.int B.length,.int ((max 1 cs.length:Nat):Int),.int ((max 1 ss.length:Nat):Int),.int 8,.int many])),some (.leaf (.int k)),some (.leaf (.int x)),some (.leaf (.int c)),some (.leaf (.int f)),some (.leaf (.int sg)),some (.leaf (.int g)),none,none,none,none,none]=some (.nx [some (.leaf (.int n1)),some (.leaf (.tup [.lst (B.map .str),.tup (cs.map hdD),.tup (ss.map hdD),.int rest])),some (.leaf (.int many)),some (.leaf (.lst (B.map .str))),some (.leaf (.tup (cs.map hdD))),some (.leaf (.tup (ss.map hdD))),some (.leaf (.int rest)),
  some (.leaf (.lst [.int 11,.int B.length,.int ((max 1 cs.length:Nat):Int),.int ((max 1 ss.length:Nat):Int),.int 8,.int many])),some (.leaf (.int k)),some (.leaf (.int x)),some (.leaf (.int c)),some (.leaf (.int f)),some (.leaf (.int sg)),some (.leaf (.int g)),y14,none,none,none,none]):=e1
 obtain ⟨ds2,ed2,el2,hd2⟩:=dy n1 [B.length+1,1099511627776,B.length+1,1099511627776] (by intro z hz;simp at hz;omega) (by simp)
 have hl2:ds2.length=4:=el2
 obtain ⟨p,q,u,v,rfl⟩:∃ p q u v,ds2=[p,q,u,v]:=by
  match ds2,hl2 with
  | [p,q,u,v],_=>exact ⟨p,q,u,v,rfl⟩
 have hp:p<B.length+1:=hd2 0 _ _ rfl rfl
 have hu:u<B.length+1:=hd2 2 _ _ rfl rfl
 have ed2':y8 [.int n1,.lst [.int ((B.length:Int)+1),.int wide,.int ((B.length:Int)+1),.int wide]]=some (.lst [.int p,.int q,.int u,.int v]):=by
  rw [oz]
  exact ed2
 obtain ⟨one,ho,eo⟩:=lF (B:=B) (v:=q) (j:=p) (by omega) hp
 obtain ⟨oth,ht,et⟩:=lF (B:=B) (v:=v) (j:=u) (by omega) hu
 have hbx:=tK (th:=B) (k:=x) hx
 clear ed el hd e1 ed2 el2 hd2
 unfold y32 wD
 walk_at "k"
 unfold rO mz bJ jq
 walk_at "k"
 simp only [List.isEmpty_nil,if_true]
 walk_at "k"
 unfold dS
 walk_at "k"
 simp only [List.length_map,yR]
 walk_at "k"
 rw [ed']
 walk_at "k"
 simp only [List.isEmpty_nil,if_true]
 walk_at "k"
 rw [e1']
 walk_at "k"
 simp only [List.length_map]
 rw [ed2']
 walk_at "k"
 rw [eo]
 walk_at "k"
 rw [et]
 walk_at "k"
 obtain ⟨sgn,esg,_⟩:=u7 (x:=Str.ofString "+-*<=&|^") (i:=(sg:Int)) (by decide +kernel) (by omega) (by
  have:(Str.ofString "+-*<=&|^").length=8:=by decide +kernel
  omega)
 have atB1:∀ r:Rw,r.atoms=[one]->∀ a∈r.atoms,AtB B a:=fun r e a ha=>by rw [e] at ha;rw [List.mem_singleton.mp ha];exact ho
 have atB2:∀ r:Rw,r.atoms=[one,oth]->∀ a∈r.atoms,AtB B a:=fun r e a ha=>by
  rw [e] at ha
  rcases List.mem_cons.mp ha with rfl | ha
  · exact ho
  · rw [List.mem_singleton.mp ha];exact ht
 have atB0:∀ r:Rw,r.atoms=[]->∀ a∈r.atoms,AtB B a:=fun r e a ha=>by rw [e] at ha;cases ha
 have fin:∀ r:Rw,(∀ g,¬ ((∃ a,r=.iff a g)∨r=.go g))->∀ g,(∃ a,r=.iff a g)∨r=.go g->g<many:=fun r h g z=>absurd z (h g)
 have k11:k=0∨k=1∨k=2∨k=3∨k=4∨k=5∨k=6∨k=7∨k=8∨k=9∨k=10:=by omega
 rcases k11 with q0 | q0 | q0 | q0 | q0 | q0 | q0 | q0 | q0 | q0 | q0
 · have hk':(k:Int)=0:=by omega
   rw [hk']
   repeat (first | walk_at "l" | walk_at "k" | rw [hbx])
   exact ⟨.copy _ one,rfl,atB1 _ rfl,fin _ (by simp)⟩
 · have hk':(k:Int)=1:=by omega
   rw [hk']
   repeat (first | walk_at "l" | walk_at "k" | rw [hbx] | rw [esg])
   exact ⟨.op _ _ one oth,rfl,atB2 _ rfl,fin _ (by simp)⟩
 · have hk':(k:Int)=2:=by omega
   rw [hk']
   cases hcs:cs.isEmpty with
   | true =>
    repeat (first | walk_at "l" | walk_at "k" | rw [hbx] | rw [hX,hcs])
    exact ⟨.copy _ one,rfl,atB1 _ rfl,fin _ (by simp)⟩
   | false =>
    obtain ⟨cx,_,_,ecx⟩:=pO (cs:=cs) (c:=c) (by cases cs<;>simp at hcs hc ⊢;omega)
    repeat (first | walk_at "l" | walk_at "k" | rw [hbx] | rw [hX,hcs] | rw [ecx])
    exact ⟨.load _ cx,rfl,atB0 _ rfl,fin _ (by simp)⟩
 · have hk':(k:Int)=3:=by omega
   rw [hk']
   cases hcs:cs.isEmpty with
   | true =>
    repeat (first | walk_at "l" | walk_at "k" | rw [hbx] | rw [hX,hcs])
    exact ⟨.copy _ one,rfl,atB1 _ rfl,fin _ (by simp)⟩
   | false =>
    obtain ⟨cx,_,_,ecx⟩:=pO (cs:=cs) (c:=c) (by cases cs<;>simp at hcs hc ⊢;omega)
    repeat (first | walk_at "l" | walk_at "k" | rw [hbx] | rw [hX,hcs] | rw [ecx])
    exact ⟨.store cx one,rfl,atB1 _ rfl,fin _ (by simp)⟩
 · have hk':(k:Int)=4:=by omega
   rw [hk']
   cases hss:ss.isEmpty with
   | true =>
    repeat (first | walk_at "l" | walk_at "k" | rw [hbx] | rw [hX,hss])
    exact ⟨.copy _ one,rfl,atB1 _ rfl,fin _ (by simp)⟩
   | false =>
    obtain ⟨fx,_,_,efx⟩:=pO (cs:=ss) (c:=f) (by cases ss<;>simp at hss hf ⊢;omega)
    repeat (first | walk_at "l" | walk_at "k" | rw [hbx] | rw [hX,hss] | rw [efx])
    exact ⟨.take _ fx one,rfl,atB1 _ rfl,fin _ (by simp)⟩
 · have hk':(k:Int)=5:=by omega
   rw [hk']
   cases hss:ss.isEmpty with
   | true =>
    repeat (first | walk_at "l" | walk_at "k" | rw [hbx] | rw [hX,hss])
    exact ⟨.copy _ one,rfl,atB1 _ rfl,fin _ (by simp)⟩
   | false =>
    obtain ⟨fx,_,_,efx⟩:=pO (cs:=ss) (c:=f) (by cases ss<;>simp at hss hf ⊢;omega)
    repeat (first | walk_at "l" | walk_at "k" | rw [hbx] | rw [hX,hss] | rw [efx])
    exact ⟨.lay fx one oth,rfl,atB2 _ rfl,fin _ (by simp)⟩
 · have hk':(k:Int)=6:=by omega
   rw [hk']
   repeat (first | walk_at "l" | walk_at "k" | rw [hbx])
   exact ⟨.hear _,rfl,atB0 _ rfl,fin _ (by simp)⟩
 · have hk':(k:Int)=7:=by omega
   rw [hk']
   repeat (first | walk_at "l" | walk_at "k" | rw [hbx])
   exact ⟨.say one,rfl,atB1 _ rfl,fin _ (by simp)⟩
 · have hk':(k:Int)=8:=by omega
   rw [hk']
   repeat (first | walk_at "l" | walk_at "k" | rw [hbx])
   exact ⟨.iff one g,rfl,atB1 _ rfl,fun g' h=>by rcases h with ⟨a,h⟩ | h<;>cases h;exact hg⟩
 · have hk':(k:Int)=9:=by omega
   rw [hk']
   repeat (first | walk_at "l" | walk_at "k" | rw [hbx])
   exact ⟨.go g,rfl,atB0 _ rfl,fun g' h=>by rcases h with ⟨a,h⟩ | h<;>cases h;exact hg⟩
 · have hk':(k:Int)=10:=by omega
   rw [hk']
   repeat (first | walk_at "l" | walk_at "k" | rw [hbx])
   exact ⟨.fin one,rfl,atB1 _ rfl,fin _ (by simp)⟩
def ki {α β:Type} {bb:Dt->De->Option De} {fe:De->Option Dt} {δ:De} {f:α->Dt} {h:β->Dt} {P:β->Prop}:∀ {l:List α},(∀ a∈l,∃ δ1 y,bb (f a) δ=some δ1/\fe δ1=some (h y)/\P y)->∃ ys:List β,ca bb cQ fe δ (l.map f)=some (ys.map h)/\ys.length=l.length/\∀ y∈ys,P y
 | [],_=>⟨[],rfl,rfl,fun y hy=>by cases hy⟩
 | a::l,q=>by
  obtain ⟨δ1,y,h1,h2,h3⟩:=q a List.mem_cons_self
  obtain ⟨ys,e,el,hp⟩:=ki (l:=l) fun e he=>q e (List.mem_cons_of_mem _ he)
  refine ⟨y::ys,?_,by simp [el],fun z hz=>?_⟩
  · rw [List.map_cons]
    unfold ca
    rw [h1,Option.bind_some]
    show ((fe δ1).bind fun y=>_)=_
    rw [h2,Option.bind_some,e]
    rfl
  · rcases List.mem_cons.mp hz with rfl | hz
    · exact h3
    · exact hp z hz
def many (ns:List Int):Nat:=max 1 (min (ns.length-5) 58)
def tN (ns:List Int):Int:=if (58:Int)<(ns.length:Int)-5 then 58 else (ns.length:Int)-5
def yT (ns:List Int):uW [.int ((ns.length:Int)-5),.int (1+57)]=some (.leaf (.int (tN ns))):=rfl
def vM (ns:List Int):n9 [.int 1,.int (tN ns)]=some (.leaf (.int (many ns))):=by
 show some (T.leaf (Dt.int (if (1:Int)<tN ns then tN ns else 1)))=_
 congr 3
 unfold many tN
 split<;>split<;>omega
def Av {scr:Dt} {ns:List Int} (hscr:scr=.lst (ns.map .int)) {B:List Str} {cs ss:List Hd} {rest:Int} (W:Wld B cs ss) (k:Nat) (hk:k<100) (m:Nat) (hm:0<m) (hm2:m<=100):∃ r:Rw,y26 [some (.leaf (dI k)),some (.leaf scr),some (.leaf (wD B cs ss rest)),some (.leaf (.int m))]=some r.d/\RwB B m r:=by
 subst hscr
 obtain ⟨v,ev⟩:=lE ns (6+k) (by omega)
 obtain ⟨r,er,hr⟩:=yS v rest B cs ss m W hm hm2
 refine ⟨r,?_,hr⟩
 unfold y26 dI
 walk_at "d"
 rw [show (6:Int)+(k:Int)=((6+k:Nat):Int) by omega,ev]
 walk_at "d"
 rw [er]
 rfl
def RwB.outs {B:List Str} {m:Nat} {r:Rw} (h:RwB B m r) {i j:Nat} (hi:i+1<m) (hj:j∈r.outs i):j<m:=by
 cases r<;>simp [Rw.outs] at hj<;>first | omega | skip
 · rcases hj with rfl | rfl
   · exact h.2 _ (.inl ⟨_,rfl⟩)
   · exact hi
 · subst hj
   exact h.2 _ (.inr rfl)
def RwB.reads {B:List Str} {m:Nat} {r:Rw} (h:RwB B m r) {b:Str} (hb:b∈r.reads):b∈B:=by
 have hb:=onces_mem.mp hb
 have key:∀ l:List Atm,(∀ a∈l,AtB B a)->b∈nms l->b∈B:=fun l=>by
  induction l with
  | nil=>intro _ z;cases z
  | cons a l ih =>
   intro q z
   cases a with
   | nm x =>
    rcases List.mem_cons.mp z with rfl | z
    · exact q _ (.head _) _ rfl
    · exact ih (fun a ha=>q a (.tail _ ha)) z
   | vl i=>exact ih (fun a ha=>q a (.tail _ ha)) z
 exact key _ h.1 hb
structure Prg (B:List Str) (rows:List Rw):Prop where
 l0:0<rows.length
 l1:rows.length<=58
 hB:∀ (i:Nat) (r:Rw) (b:Str),rows[i]?=some r->b∈r.reads->b∈B
 hO:∀ (i:Nat) (r:Rw) (j:Nat),rows[i]?=some r->j∈r.outs i->j<rows.length
def pD (cs ss:List Hd) (rows:List Rw):Dt:=.tup [.tup (cs.map hdD),.tup (ss.map hdD),dR rows]
def vN (ns:List Int):∃ (B:List Str) (cs ss:List Hd) (rest:Int) (rows:List Rw),z15 [.lst (ns.map .int)]=some (.leaf (wD B cs ss rest))/\q14 [.lst (ns.map .int),.int 57]=some (.leaf (pD cs ss rows))/\Wld B cs ss/\Prg B rows:=by
 obtain ⟨B,cs,ss,rest,ew,W⟩:=tM ns
 have hm:0<many ns:=by unfold many;omega
 have hm2:many ns<=58:=by unfold many;omega
 have b1:=W.b1
 obtain ⟨rows,er,el,hr⟩:=ki (bb:=ay 0) (fe:=y26) (δ:=[none,some (.leaf (.lst (ns.map .int))),some (.leaf (wD B cs ss rest)),some (.leaf (.int (many ns)))]) (f:=dI) (h:=Rw.d) (P:=RwB B (many ns)) (l:=List.range (many ns-1)) fun k hk=>by
  have hk:=List.mem_range.mp hk
  obtain ⟨r,e,h⟩:=Av (ns:=ns) (rest:=rest) rfl W k (by omega) (many ns) hm (by omega)
  exact ⟨_,r,rfl,e,h⟩
 have el:rows.length=many ns-1:=by simpa using el
 obtain ⟨ds,ed,eld,hd⟩:=dy rest [2,many ns,B.length+1,1099511627776] (by intro z hz;simp at hz;omega) (by simp)
 have hl:ds.length=4:=eld
 obtain ⟨la,g,bx,num,rfl⟩:∃ la g bx num,ds=[la,g,bx,num]:=by
  match ds,hl with
  | [la,g,bx,num],_=>exact ⟨la,g,bx,num,rfl⟩
 have hla:la<2:=hd 0 _ _ rfl rfl
 have hg:g<many ns:=hd 1 _ _ rfl rfl
 have hbx:bx<B.length+1:=hd 2 _ _ rfl rfl
 have ed':y8 [.int rest,.lst [.int 2,.int (many ns),.int ((B.length:Int)+1),.int wide]]=some (.lst [.int la,.int g,.int bx,.int num]):=by
  rw [oz]
  exact ed
 obtain ⟨at1,ha,ea⟩:=lF (B:=B) (v:=num) (j:=bx) (by omega) hbx
 obtain ⟨last,elast,hlast⟩:∃ last:Rw,atI [Dt.tup [.str "end",at1.d],.tup [.str "go",.int g]] (la:Int)=some last.d/\((∃ a,AtB B a/\last=.fin a)∨(∃ g,g<many ns/\last=.go g)):=by
  have q:la=0∨la=1:=by omega
  rcases q with rfl | rfl
  · exact ⟨.fin at1,rfl,.inl ⟨at1,ha,rfl⟩⟩
  · exact ⟨.go g,rfl,.inr ⟨g,hg,rfl⟩⟩
 have hlb:RwB B (many ns) last:=by
  rcases hlast with ⟨a,h,rfl⟩ | ⟨g,h,rfl⟩
  · exact ⟨fun b hb=>by rw [List.mem_singleton.mp hb];exact h,fun g z=>by simp at z⟩
  · exact ⟨fun b hb=>(by cases hb),fun g' z=>by simp at z;rw [<- z];exact h⟩
 have hlo:∀ i j,j∈last.outs i->j<many ns:=fun i j hj=>by
  rcases hlast with ⟨a,h,rfl⟩ | ⟨g,h,rfl⟩
  · cases hj
  · rw [List.mem_singleton.mp hj];exact h
 refine ⟨B,cs,ss,rest,rows++[last],ew,?_,W,⟨by simp,by simp;omega,fun i r b h hb=>?_,fun i r j h hj=>?_⟩⟩
 · unfold q14
   walk_at "d"
   rw [ew]
   walk_at "d"
   simp only [List.length_map]
   rw [yT]
   walk_at "d"
   rw [vM]
   walk_at "d"
   rw [show ((many ns:Nat):Int)-1=((many ns-1:Nat):Int) by omega,ja (by omega),Option.bind_some,dz,er,Option.bind_some,em (by rw [List.length_map];omega)]
   walk_at "d"
   unfold wD
   walk_at "d"
   unfold dS
   walk_at "d"
   simp only [List.length_map]
   rw [ed']
   walk_at "d"
   unfold mz bJ jq
   walk_at "d"
   simp only [List.isEmpty_nil,if_true]
   walk_at "d"
   rw [j8 rfl]
   walk_at "d"
   rw [ea]
   walk_at "d"
   rw [elast]
   walk_at "d"
   rw [eS (by rw [List.length_map];omega)]
   walk_at "d"
   unfold pD dR
   rw [List.map_append]
   rfl
 · by_cases hi:i<rows.length
   · rw [List.getElem?_append_left hi] at h
     exact (hr r (List.mem_of_getElem? h)).reads hb
   · rw [gR (by omega)] at h
     have:=List.mem_of_getElem? h
     rw [List.mem_singleton.mp this] at hb
     exact hlb.reads hb
 · rw [List.length_append,List.length_singleton]
   by_cases hi:i<rows.length
   · rw [List.getElem?_append_left hi] at h
     have:=(hr r (List.mem_of_getElem? h)).outs (i:=i) (j:=j) (by omega) hj
     omega
   · rw [gR (by omega)] at h
     have:=List.mem_of_getElem? h
     rw [List.mem_singleton.mp this] at hj
     have:=hlo i j hj
     omega
def cV {α:Type} {f:α->Dt} (h:∀ a,bX (f a) (f a)=true):∀ l:List α,cmpbs (l.map f) (l.map f)=true
 | []=>rfl
 | a::l=>by
  rw [List.map_cons]
  unfold cmpbs
  rw [h a,cV h l]
  rfl
def gu {α:Type} {f:α->Dt} {n:Nat} (h:∀ a,cN (f a)<=n):∀ l:List α,deeps (l.map f)<=n
 | []=>Nat.zero_le _
 | a::l=>by
  have h1:=h a
  have h2:=gu h l
  rw [List.map_cons]
  unfold deeps
  omega
def vO (a:Atm):bX a.d a.d=true:=by cases a<;>rfl
def gv (a:Atm):cN a.d<=1:=by cases a<;>simp [Atm.d,cN]
def yU (r:Rw):bX r.d r.d=true:=by
 cases r<;>simp [Rw.d,bX,cmpbs,bG,vO]
def vP (r:Rw):cN r.d<=5:=by
 cases r<;>(simp only [Rw.d,cN,deeps];first | omega | (rename_i a;have:=gv a;omega) | (rename_i a _;have:=gv a;omega) | (rename_i a b;have:=gv a;have:=gv b;omega))
def yV (h:Hd):bX (hdD h) (hdD h)=true:=by simp [hdD,bX,cmpbs,bG]
def vQ (x:Str):bX (.str x) (.str x)=true:=rfl
def yW (l:List Str):bX (dS l) (dS l)=true:=cV vQ l
def vR (l:List Str):cN (dS l)<=5:=by
 have:=gu (f:=Dt.str) (n:=1) (fun x=>by simp [cN]) l
 unfold dS cN
 omega
def qL (cs ss:List Hd) (rows:List Rw):gEq false (pD cs ss rows) (pD cs ss rows)=some (.leaf (.bl true)):=by
 unfold pD
 have h1:=gt cs
 have h2:=gt ss
 have h3:=gu vP rows
 rw [ly (b:=true) ((wm ?_).trans (by rw [peqs_self]))]
 · rfl
 · rw [Bool.and_eq_true]
   refine ⟨?_,decide_eq_true ?_⟩
   · simp only [cmpbs,dR,bX,cV yV,cV yU,Bool.and_self]
   · simp only [deeps,cN,dR]
     omega
def oA (found:List (List Str)):gEq false (dF found) (dF found)=some (.leaf (.bl true)):=by
 unfold dF
 have h:=gu vR found
 rw [ly (b:=true) ((wn ?_).trans (by rw [peqs_self]))]
 · rfl
 · rw [Bool.and_eq_true]
   exact ⟨cV yW found,decide_eq_true (by omega)⟩
def kj:∀ l:List Str,dats (l.map fun x=>CV.dat (.str x))=some (l.map .str)
 | []=>rfl
 | x::l=>by
  simp only [List.map_cons,dats,kj l]
  rfl
def tP {ch:CH} {i:Nat} {l:List Str} (h:ch[i]?=some (cS l)):vw ch (.ref i)=some (dS l):=by
 show (ch[i]?).bind vwO=_
 rw [h,Option.bind_some]
 unfold vwO cS
 dsimp only
 rw [kj]
 rfl
def kl {ch:CH} {C:De->Option Bool} {δ:Sl} {p:Str->Bool} (h0:0<δ.length):∀ l:List Str,(∀ b∈l,C (lo (δ.set 0 (some (.dat (.str b)))) ch)=some (p b))->cD [0] (ay 0) C (eD (vL 0)) δ (l.map .str) ch=some ((l.filter p).map (fun x=>.dat (.str x)),ch)
 | [],_=>rfl
 | b::l,h=>by
  have ih:=kl (C:=C) (p:=p) h0 l fun x hx=>h x (.tail _ hx)
  have hb:=h b (.head _)
  rw [List.map_cons]
  unfold cD ay
  rw [Option.bind_some,mV h0,hb,Option.bind_some]
  have ev:eD (vL 0) (δ.set 0 (some (.dat (.str b)))) ch=some (.dat (.str b),ch):=by
   cases δ with
   | nil=>simp at h0
   | cons a δ=>exact ck rfl
  cases hp:p b with
  | true =>
   rw [if_pos rfl,ev,Option.bind_some]
   dsimp only
   show (Option.map _ (cD [0] (ay 0) C (eD (vL 0)) δ (l.map .str) ch))=_
   rw [ih,List.filter_cons_of_pos hp]
   rfl
  | false =>
   rw [if_neg (by simp)]
   show cD [0] (ay 0) C (eD (vL 0)) δ (l.map .str) ch=_
   rw [ih,List.filter_cons_of_neg (by simp [hp])]
def qM {l:List Str} (h:Sd l) (p:Str->Bool):Sd (l.filter p):=List.Pairwise.filter p h
def sL (scr:Dt) (cs ss:List Hd) (rows:List Rw) (B:List Str) (fi:Nat) (x5 x6:Option CV):Sl:=[some (.dat scr),some (.dat (pD cs ss rows)),some (.dat (dR rows)),some (.dat (dS B)),some (.ref fi),x5,x6]
section
variable {scr:Dt} {cs ss:List Hd} {rows:List Rw} {B:List Str} {found:List (List Str)} {fi:Nat} {refs:List Nat} {ch:CH} {x6:Option CV}
def vS (pl:Pl ch fi refs found) (W:Wld B cs ss) (G:Prg B rows) (F:Fnd rows B found) (X:Fix rows found) {i:Nat} (hi:i<rows.length) :
  ∃ m,q49 (sL scr cs ss rows B fi (some (.dat (dI i))) x6) ch=some (.nx (sL scr cs ss rows B fi (some (.dat (dI i))) x6) (ch++[cS m])):=by
 have hlt:i<found.length:=by rw [F.len];exact hi
 have hl:found[i]?=some found[i]:=by simp [hlt]
 have hr:i<refs.length:=by rw [pl.len];exact hlt
 have hrr:refs[i]?=some refs[i]:=by simp [hr]
 obtain ⟨p,hp⟩:∃ p:Str->Bool,∀ b,mP q13 [dR rows,.int i,.str b]=some (.leaf (.bl (p b)))/\(p b=true↔Needs rows i b):=by
  have h:=fun b=>lD (rows:=rows) (n:=i) (b:=b) (by have:=G.l1;omega) hi G.hO
  exact ⟨fun b=>Classical.choose (h b),fun b=>Classical.choose_spec (h b)⟩
 have hf:(bn B).filter p=found[i]:=by
  refine i8 (qM (lv W.nd) p) (F.sd i _ hl) fun x=>?_
  rw [List.mem_filter,dw,(hp x).2,F.iff X G.hO hl]
  exact ⟨fun z=>z.2,fun z=>⟨F.sub i _ x hl ((F.iff X G.hO hl x).mpr z),z⟩⟩
 refine ⟨(bn B).filter p,?_⟩
 have e1:gd [none,some 2,some 5] (fIt (toD (aw da (ae (vB 3) ao)))) [0] (ay 0) z38 (eD (vL 0)) (sL scr cs ss rows B fi (some (.dat (dI i))) x6) ch=some (.ref ch.length,ch++[cS ((bn B).filter p)]):=by
  unfold gd
  show (((((da [.lst (B.map .str)]).map T.d).bind itD).bind fun ds=>(cD [0] (ay 0) z38 (eD (vL 0)) [none,some (.dat (dR rows)),some (.dat (dI i))] ds ch).bind fun p=>if p.1.length<=sizeLine then some (CV.ref p.2.length,p.2++[.lst p.1]) else none))=_
  rw [oo (by have:=W.b1;omega)]
  show ((cD [0] (ay 0) z38 (eD (vL 0)) [none,some (.dat (dR rows)),some (.dat (dI i))] ((bn B).map .str) ch).bind fun p=>if p.1.length<=sizeLine then some (CV.ref p.2.length,p.2++[.lst p.1]) else none)=_
  rw [kl (p:=p) (by simp) (bn B) fun b _=>by
   show z38 [some (.leaf (.str b)),some (.leaf (dR rows)),some (.leaf (dI i))]=some (p b)
   unfold z38 dI
   walk_at "k"
   rw [(hp b).1]
   rfl,Option.bind_some]
  have:((bn B).filter p).length<=12:=Nat.le_trans (List.length_filter_le _ _) (by rw [(bF B).length_eq];exact W.b1)
  rw [if_pos (small (by rw [List.length_map];omega))]
  rfl
 have e2':eIx (eV 4) (eD (vL 5)) (sL scr cs ss rows B fi (some (.dat (dI i))) x6) (ch++[cS ((bn B).filter p)])=some (.ref refs[i],ch++[cS ((bn B).filter p)]):=by
  refine sZ (je rfl) (ck (d:=dI i) ?_) (pl.app _).top ?_
  · rfl
  · unfold ixO dI
    dsimp only
    rw [sU,Option.bind_some,bh,List.getElem?_map,hrr]
    rfl
 unfold q49
 have ht:qp (e2 (gEq true) (gd [none,some 2,some 5] (fIt (toD (aw da (ae (vB 3) ao)))) [0] (ay 0) z38 (eD (vL 0))) (eIx (eV 4) (eD (vL 5)))) (sL scr cs ss rows B fi (some (.dat (dI i))) x6) ch=some (false,ch++[cS ((bn B).filter p)]):=by
  unfold qp
  rw [Ar (y:=dS ((bn B).filter p)) (z:=dS found[i]) (t:=.leaf (.bl false)) e1 e2' (tP (by simp)) (tP ((pl.app _).has i _ _ hrr hl)) (by unfold dS;rw [jh,hf];simp)]
  rfl
 rw [fJ ht]
 rfl
def pP (W:Wld B cs ss) (G:Prg B rows) (F:Fnd rows B found) (X:Fix rows found):∀ (js:List Nat) (ch:CH) (x5:Option CV),Pl ch fi refs found->(∀ j∈js,j<rows.length)->∃ y5 g,gJ [5] (ay 5) q49 (js.map dI) (sL scr cs ss rows B fi x5 x6) ch=some (.nx (sL scr cs ss rows B fi y5 x6) (ch++g))
 | [],ch,x5,pl,_=>⟨x5,[],by simp [gJ]⟩
 | j::js,ch,x5,pl,hj=>by
  obtain ⟨m,e⟩:=vS (scr:=scr) (x6:=x6) pl W G F X (hj j (.head _))
  obtain ⟨y5,g,e2⟩:=pP W G F X js (ch++[cS m]) (some (.dat (dI j))) (pl.app _) fun k hk=>hj k (.tail _ hk)
  refine ⟨y5,[cS m]++g,?_⟩
  rw [List.map_cons,gm (δ2:=sL scr cs ss rows B fi (some (.dat (dI j))) x6) (show 5<7 by decide) e,e2,List.append_assoc]
def tQ (pl:Pl ch fi refs found) (W:Wld B cs ss) (G:Prg B rows) (F:Fnd rows B found) (X:Fix rows found):∀ (js:List Nat) (x5:Option CV),(∀ j∈js,j<rows.length)->∃ y5,gJ [5] (ay 5) y49 (js.map dI) (sL scr cs ss rows B fi x5 x6) ch=some (.nx (sL scr cs ss rows B fi y5 x6) ch)
 | [],x5,_=>⟨x5,rfl⟩
 | j::js,x5,hj=>by
  have hjl:=hj j (.head _)
  have hr:rows[j]?=some rows[j]:=by simp [hjl]
  have hlt:j<found.length:=by rw [F.len];exact hjl
  have hl:found[j]?=some found[j]:=by simp [hlt]
  have he:=tq rows found rows[j] j found[j] hr hl (fun l hl=>by
   obtain ⟨i,h⟩:=List.getElem?_of_mem hl
   exact Nat.le_trans (F.short h) W.b1) (fun k hk=>by rw [F.len];exact G.hO j _ k hr hk) (X j _ hl)
  have ht:tDV 2 (nI (iJ (toD (aw y25 (ae (vL 2) (ae (vL 4) (ae (vL 5) ao))))))) (sL scr cs ss rows B fi (some (.dat (dI j))) x6) ch=some (false,ch):=by
   refine ow ?_
   unfold loD sL
   simp only [List.map_cons,List.map_nil,Option.bind_some,gp,Option.map_some,pl.view]
   unfold dI
   walk_at "k"
   rw [he]
   rfl
  have e:y49 (sL scr cs ss rows B fi (some (.dat (dI j))) x6) ch=some (.nx (sL scr cs ss rows B fi (some (.dat (dI j))) x6) ch):=by
   unfold y49
   rw [fJ ht]
   rfl
  obtain ⟨y5,e2⟩:=tQ pl W G F X js (some (.dat (dI j))) fun k hk=>hj k (.tail _ hk)
  refine ⟨y5,?_⟩
  rw [List.map_cons,gm (δ2:=sL scr cs ss rows B fi (some (.dat (dI j))) x6) (show 5<7 by decide) e]
  exact e2
end
def yX {ch:CH} {r:Nat} {l:List Str} (h:ch[r]?=some (cS l)):q38 [some (.ref r)] ch=some (.ref ch.length,ch++[cS l]):=by
 unfold q38
 rw [As (ds:=[dS l]) (t:=.lst (l.map .str)) (lA (je rfl) rfl) ?_ rfl]
 · unfold al cS
   simp
 · unfold vws
   rw [tP h]
   rfl
def tR {fi:Nat} {refs:List Nat} {found:List (List Str)}:∀ (d k fuel:Nat) (ch:CH),Pl ch fi refs found->k+d=refs.length->d<fuel->ef fi 0 mN q38 [none] fuel k ch=some (((List.range d).map fun t=>ch.length+t).map CV.ref,ch++(found.drop k).map cS)
 | _,_,0,_,_,_,h=>by omega
 | 0,k,fuel+1,ch,pl,hk,_=>by
  unfold ef
  rw [pl.top]
  dsimp only
  rw [show (refs.map CV.ref)[k]?=none from List.getElem?_eq_none_iff.mpr (by rw [List.length_map];omega)]
  dsimp only
  rw [List.drop_eq_nil_of_le (by rw [<- pl.len];omega)]
  simp
 | d+1,k,fuel+1,ch,pl,hk,hf=>by
  have hkr:k<refs.length:=by omega
  have hkf:k<found.length:=by rw [<- pl.len];exact hkr
  have h1:(refs.map CV.ref)[k]?=some (.ref refs[k]):=by rw [List.getElem?_map,gQ hkr];rfl
  have h2:=pl.has k refs[k] found[k] (by simp [hkr]) (by simp [hkf])
  have ih:=tR d (k+1) fuel (ch++[cS found[k]]) (pl.app _) (by omega) (by omega)
  unfold ef
  rw [pl.top]
  dsimp only
  rw [h1]
  dsimp only
  show ((q38 [some (.ref refs[k])] ch).bind fun q=>_)=_
  rw [yX h2,Option.bind_some]
  dsimp only
  rw [ih,Option.map_some,List.drop_eq_getElem_cons hkf]
  simp only [List.length_append,List.length_singleton,List.range_succ_eq_map,List.map_cons,List.map_map,Nat.add_zero,List.append_assoc,List.singleton_append]
  congr 3
  refine List.map_congr_left fun t _=>?_
  simp only [Function.comp_apply]
  congr 1
  omega
def vT {fi:Nat} {refs:List Nat} {found:List (List Str)} {ch:CH}:Pl (ch++found.map cS++[.lst (((List.range found.length).map fun t=>ch.length+t).map CV.ref)]) (ch.length+found.length) ((List.range found.length).map fun t=>ch.length+t) found:=by
 refine ⟨?_,by simp,fun h=>?_,fun k r l h1 h2=>?_⟩
 · rw [List.getElem?_append_right (by simp)]
   simp
 · obtain ⟨k,hk,e⟩:=List.mem_map.mp h
   have:=List.mem_range.mp hk
   omega
 · rw [List.getElem?_map] at h1
   obtain ⟨k',hk',rfl⟩:=mS h1
   have hkl:=(gX hk').1
   rw [List.length_range] at hkl
   rw [List.getElem?_range hkl] at hk'
   cases hk'
   rw [List.append_assoc,List.getElem?_append_right (by omega),Nat.add_sub_cancel_left,List.getElem?_append_left (by simp;exact hkl),List.getElem?_map,h2]
   rfl
def tT {ch:CH} {fi r:Nat} {refs:List Nat} {found:List (List Str)} {o:CO} (pl:Pl ch fi refs found) (h1:r≠fi) (h2:r∉refs):Pl (ch.set r o) fi refs found:=
 ⟨by rw [gN h1];exact pl.top,pl.len,pl.out,fun k x l q1 q2=>by rw [gN (fun e=>h2 (by rw [e];exact List.mem_of_getElem? q1))];exact pl.has k x l q1 q2⟩
def nj {fa fe:Fg} {δ:Sl} {ch ch1 ch2:CH} {i:Nat} {c:CV} {l m:List CV} (h1:fa δ ch=some (.ref i,ch1)) (h2:fe δ ch1=some (c,ch2)) (h3:ch1[i]?=some (.lst m)) (h4:ch2[i]?=some (.lst l)) (h5:l.length<1000000):e5 fa fe δ ch=some (.nx δ (ch2.set i (.lst (l++[c])))):=by
 unfold e5
 rw [h1,Option.bind_some]
 dsimp only
 rw [h2,Option.bind_some]
 simp only [h3,h4]
 rw [if_pos (ei h5)]
def rng4 {a n:Nat} (ha:a<4) (hn:n<=1000):∃ js:List Nat,iV [.int a,.int n,.int 4]=some (js.map dI)/\∀ j∈js,j<n:=by
 unfold iV
 dsimp only
 rw [if_pos (show nZ a n 4=true by unfold nZ;simp;omega)]
 have hs:(Builtin.Range.rangeSize (a:Int) n 4)=if (a:Int)<n then ((n:Int)-a-1)/4+1 else 0:=by
  unfold Builtin.Range.rangeSize
  rw [if_pos (by decide)]
 refine ⟨(List.range (Builtin.Range.rangeSize (a:Int) n 4).toNat).map fun i=>a+i*4,?_,fun j hj=>?_⟩
 · congr 1
   unfold ll
   rw [List.map_map]
   refine List.map_congr_left fun i _=>?_
   show Dt.int _=Dt.int ((a+i*4:Nat):Int)
   congr 1
 · obtain ⟨i,hi,rfl⟩:=List.mem_map.mp hj
   have hi:=List.mem_range.mp hi
   rw [hs] at hi
   split at hi<;>omega
def main (ns:List Int) (hn:ns.length<=63):∃ ch',pC [.dat (.lst (ns.map .int))] []=some (.dat (.bl true),ch'):=by
 obtain ⟨B,cs,ss,rest,rows,ew,ep,W,G⟩:=vN ns
 obtain ⟨fi,refs,found,ch1,en,pl,F,X,_,_⟩:=ke (c:=.tup (cs.map hdD)) (s:=.tup (ss.map hdD)) G.hB G.hO W.b1 (by have:=G.l1;omega) []
 generalize hscr:Dt.lst (ns.map .int)=scr at ew ep ⊢
 have hfl:found.length=rows.length:=F.len
 have l0:=G.l0
 have l1:=G.l1
 have s1:bp 1 (eD (toD (aw q14 (ae (vL 0) (ae (kD (.int 57)) ao))))) [some (.dat scr),none,none,none,none,none,none] []=some (.nx [some (.dat scr),some (.dat (pD cs ss rows)),none,none,none,none,none] []):=by
  refine bu (ck ?_)
  show ((q14 [scr,.int 57]).map T.d)=_
  rw [ep]
  rfl
 have s2:bp 2 (eD (toD (d2 aA (vB 1) (kD (.int 2))))) [some (.dat scr),some (.dat (pD cs ss rows)),none,none,none,none,none] []=some (.nx [some (.dat scr),some (.dat (pD cs ss rows)),some (.dat (dR rows)),none,none,none,none] []):=bu (ck rfl)
 have s3:bp 3 (eD (toD (d2 aA (toD (aw z15 (ae (vL 0) ao))) (kD (.int 0))))) [some (.dat scr),some (.dat (pD cs ss rows)),some (.dat (dR rows)),none,none,none,none] []=some (.nx [some (.dat scr),some (.dat (pD cs ss rows)),some (.dat (dR rows)),some (.dat (dS B)),none,none,none] []):=by
  refine bu (ck ?_)
  show (((z15 [scr]).map T.d).bind fun x=>aA x (.int 0)).map T.d=_
  rw [ew]
  rfl
 have s4:bp 4 (eC y24 (cT (eD (vL 1)) iR)) [some (.dat scr),some (.dat (pD cs ss rows)),some (.dat (dR rows)),some (.dat (dS B)),none,none,none] []=some (.nx (sL scr cs ss rows B fi none none) ch1):=by
  refine (bu (v:=.ref fi) (ch1:=ch1) ?_).trans rfl
  rw [wU (cs:=[.dat (pD cs ss rows)]) (ch2:=[]) (lA (ck rfl) rfl)]
  exact en
 have s5:gb (tDV 2 (fOr (nI (iJ (toD (g7 "list" (vB 4))))) (tB2 (gEq true) (toD (aw cb (ae (vB 4) ao))) (toD (aw cb (ae (vB 2) ao)))))) (dM (eD (kD (.bl false)))) ga (sL scr cs ss rows B fi none none) ch1=some (.nx (sL scr cs ss rows B fi none none) ch1):=by
  have ht:tDV 2 (fOr (nI (iJ (toD (g7 "list" (vB 4))))) (tB2 (gEq true) (toD (aw cb (ae (vB 4) ao))) (toD (aw cb (ae (vB 2) ao))))) (sL scr cs ss rows B fi none none) ch1=some (false,ch1):=by
   refine ow ?_
   unfold loD sL
   simp only [List.map_cons,List.map_nil,Option.bind_some,Option.bind_none,gp,Option.map_some,pl.view]
   show ((gEq true (.int ((found.map dS).length:Int)) (.int ((rows.map Rw.d).length:Int))).bind asB)=_
   rw [List.length_map,List.length_map,hfl,yc]
   simp [asB]
  rw [fJ ht]
  rfl
 obtain ⟨y5,e6⟩:=tQ (scr:=scr) (x6:=none) pl W G F X (List.range rows.length) none fun j hj=>List.mem_range.mp hj
 have s6:eZ (dj h9 (ae (toD (aw cb (ae (vB 2) ao))) ao)) [5] (ay 5) y49 (sL scr cs ss rows B fi none none) ch1=some (.nx (sL scr cs ss rows B fi y5 none) ch1):=by
  have hfi:dj h9 (ae (toD (aw cb (ae (vB 2) ao))) ao) (lo (sL scr cs ss rows B fi none none) ch1)=some ((List.range rows.length).map dI):=by
   unfold dj
   rw [show ae (toD (aw cb (ae (vB 2) ao))) ao (lo (sL scr cs ss rows B fi none none) ch1)=some [.int ((rows.map Rw.d).length:Int)] from rfl,Option.bind_some,List.length_map,ja (by omega),dz]
  unfold eZ
  rw [hfi]
  exact e6
 obtain ⟨a,ha,ea⟩:=jd (ns.getD 5 0) (n:=4) (by decide)
 obtain ⟨js,e7,hj7⟩:=rng4 (a:=a) (n:=rows.length) ha (by omega)
 obtain ⟨z5,g,e7'⟩:=pP (scr:=scr) (x6:=none) W G F X js ch1 y5 pl hj7
 have s7:eZ (dj iV (ae (toD (d2 cX (toD (aw y3 (ae (vL 0) (ae (kD (.int 5)) ao)))) (kD (.int 4)))) (ae (toD (aw cb (ae (vB 2) ao))) (ae (kD (.int 4)) ao)))) [5] (ay 5) q49 (sL scr cs ss rows B fi y5 none) ch1=some (.nx (sL scr cs ss rows B fi z5 none) (ch1++g)):=by
  have c5:y3 [scr,.int 5]=some (.leaf (.int (ns.getD 5 0))):=by rw [<- hscr];exact gq ns 5
  have hfi:dj iV (ae (toD (d2 cX (toD (aw y3 (ae (vL 0) (ae (kD (.int 5)) ao)))) (kD (.int 4)))) (ae (toD (aw cb (ae (vB 2) ao))) (ae (kD (.int 4)) ao))) (lo (sL scr cs ss rows B fi y5 none) ch1)=some (js.map dI):=by
   unfold dj
   rw [show ae (toD (d2 cX (toD (aw y3 (ae (vL 0) (ae (kD (.int 5)) ao)))) (kD (.int 4)))) (ae (toD (aw cb (ae (vB 2) ao))) (ae (kD (.int 4)) ao)) (lo (sL scr cs ss rows B fi y5 none) ch1)=((((y3 [scr,.int 5]).map T.d).bind fun x=>cX x (.int 4)).map T.d).bind (fun d=>some [d,.int ((rows.map Rw.d).length:Int),.int 4]) from rfl,c5]
   rw [show (((some (T.leaf (.int (ns.getD 5 0)))).map T.d).bind fun x=>cX x (.int 4))=cX (.int (ns.getD 5 0)) (.int 4) from rfl,oe (by decide),show ns.getD 5 0%4=(a:Int) from ea,List.length_map]
   exact e7
  unfold eZ
  rw [hfi]
  exact e7'
 have pl2:=pl.app g
 generalize hch2:ch1++g=ch2 at s7 pl2
 have hcp:=tR refs.length 0 100000 ch2 pl2 (by omega) (by rw [pl.len];omega)
 rw [List.drop_zero,pl.len] at hcp
 have tp:=vT (fi:=fi) (refs:=refs) (found:=found) (ch:=ch2)
 have pl3:Pl (ch2++found.map cS++[.lst (((List.range found.length).map fun t=>ch2.length+t).map CV.ref)]) fi refs found:=by
  rw [List.append_assoc]
  exact pl2.app _
 have s8:bp 6 (i7 [none] (eV 4) 0 mN q38 100000) (sL scr cs ss rows B fi z5 none) ch2=some (.nx (sL scr cs ss rows B fi z5 (some (.ref (ch2.length+found.length)))) (ch2++found.map cS++[.lst (((List.range found.length).map fun t=>ch2.length+t).map CV.ref)])):=by
  refine bu ?_
  show ((ef fi 0 mN q38 [none] 100000 0 ch2).bind fun q=>if q.1.length<=sizeLine then some (CV.ref q.2.length,q.2++[.lst q.1]) else none)=_
  rw [hcp,Option.bind_some,if_pos (small (by simp;omega))]
  simp
 have hfi:=pl2.lt
 have hrl:∀ r∈refs,r<ch2.length:=fun r hr=>pl2.ltr hr
 generalize hch3:ch2++found.map cS++[.lst (((List.range found.length).map fun t=>ch2.length+t).map CV.ref)]=ch3 at s8 tp pl3
 have hr0:0<refs.length:=by rw [pl.len];omega
 have hf0:0<found.length:=by omega
 have er0:refs[0]?=some refs[0]:=by simp [hr0]
 have ef0:found[0]?=some found[0]:=by simp [hf0]
 have hr0l:=hrl _ (List.mem_of_getElem? er0)
 have s9:e5 (eIx (eV 4) (eD (kD (.int 0)))) (eD (kD (.str "z"))) (sL scr cs ss rows B fi z5 (some (.ref (ch2.length+found.length)))) ch3=some (.nx (sL scr cs ss rows B fi z5 (some (.ref (ch2.length+found.length)))) (ch3.set refs[0] (.lst (found[0].map (fun x=>CV.dat (.str x))++[.dat (.str "z")])))):=by
  have q:=pl3.has 0 refs[0] found[0] er0 ef0
  refine nj (m:=found[0].map fun x=>CV.dat (.str x)) (sZ (je rfl) (ck rfl) pl3.top ?_) (ck rfl) q q ?_
  · unfold ixO
    dsimp only
    rw [sU,Option.bind_some,show ((0:Int))=((0:Nat):Int) from rfl,bh,List.getElem?_map,er0]
    rfl
  · rw [List.length_map]
    have:=F.short ef0
    have:=W.b1
    omega
 have tp2:Pl (ch3.set refs[0] (.lst (found[0].map (fun x=>CV.dat (.str x))++[.dat (.str "z")]))) (ch2.length+found.length) ((List.range found.length).map fun t=>ch2.length+t) found:=tT tp (by omega) (fun h=>by
  obtain ⟨t,_,e⟩:=List.mem_map.mp h
  omega)
 have hne:refs[0]≠fi:=fun e=>pl.out (e▸List.mem_of_getElem? er0)
 have top4:(ch3.set refs[0] (.lst (found[0].map (fun x=>CV.dat (.str x))++[.dat (.str "z")])))[fi]?=some (.lst (refs.map CV.ref)):=by
  rw [gN hne]
  exact pl3.top
 generalize hch4:ch3.set refs[0] (.lst (found[0].map (fun x=>CV.dat (.str x))++[.dat (.str "z")]))=ch4 at s9 tp2 top4
 have s10:e5 (eV 4) (eD (toD (bH ao))) (sL scr cs ss rows B fi z5 (some (.ref (ch2.length+found.length)))) ch4=some (.nx (sL scr cs ss rows B fi z5 (some (.ref (ch2.length+found.length)))) (ch4.set fi (.lst (refs.map CV.ref++[.dat (.lst [])])))):=by
  refine nj (je rfl) (ck ?_) top4 top4 (by rw [List.length_map,pl.len];omega)
  show ((bH ao _).map T.d)=_
  rw [oj]
  show (((some []).bind mkL).map T.d)=_
  rw [Option.bind_some,em (by simp)]
  rfl
 have tp3:Pl (ch4.set fi (.lst (refs.map CV.ref++[.dat (.lst [])]))) (ch2.length+found.length) ((List.range found.length).map fun t=>ch2.length+t) found:=tT tp2 (by omega) (fun h=>by
  obtain ⟨t,_,e⟩:=List.mem_map.mp h
  omega)
 generalize hch5:ch4.set fi (.lst (refs.map CV.ref++[.dat (.lst [])]))=ch5 at s10 tp3
 obtain ⟨fi2,refs2,found2,ch6,en2,plb,Fb,Xb,_,kp⟩:=ke (c:=.tup (cs.map hdD)) (s:=.tup (ss.map hdD)) G.hB G.hO W.b1 (by omega) ch5
 have hsame:found2=found:=Fb.uniq Xb F X G.hO
 subst hsame
 have tp4:=tp3.keep kp
 have e11:e2D 2 (gEq false) (eC y24 (cT (eD (vL 1)) iR)) (eV 6) (sL scr cs ss rows B fi z5 (some (.ref (ch2.length+found2.length)))) ch5=some (.dat (.bl true),ch6):=by
  unfold e2D
  rw [wU (cs:=[.dat (pD cs ss rows)]) (ch2:=ch5) (lA (ck rfl) rfl)]
  show ((y24 [.dat (pD cs ss rows)] ch5).bind fun p=>_)=_
  rw [show y24 [.dat (pD cs ss rows)] ch5=some (.ref fi2,ch6) from en2,Option.bind_some]
  dsimp only
  rw [show eV 6 (sL scr cs ss rows B fi z5 (some (.ref (ch2.length+found2.length)))) ch6=some (.ref (ch2.length+found2.length),ch6) from rfl,Option.bind_some]
  dsimp only
  rw [plb.view,Option.bind_some,tp4.view,Option.bind_some,oA]
  rfl
 refine ⟨ch6,?_⟩
 unfold pC
 refine ir ?_
 show bm _ _ [some (.dat scr),none,none,none,none,none,none] []=_
 rw [aM s1,aM s2,aM s3,aM s4,aM s5,aM s6,aM s7,aM s8,aM s9,aM s10]
 refine gl ?_
 unfold uU
 rw [e11,Option.bind_some]
 show (eD _ _ ch6)=_
 refine ck ?_
 show (((gEq false (pD cs ss rows) =<< ((q14 [scr,.int 57]).map T.d))).map T.d)=_
 rw [ep]
 show ((gEq false (pD cs ss rows) (pD cs ss rows)).map T.d)=_
 rw [qL]
 rfl
def lG (K:PySem.W.Frag):Sp:=fun vs H Q _=>∃ (a:Addr) (ns:List Int),vs=[.ref a]/\SqL K H a (ns.map V.int)/\ns.length<=63/\up H/\∀ H',Q (.bl true) H'
def yY {K:PySem.W.Frag} {vs:List V} {H:Hp} {Q:VK} {E:XK} (h:lG K vs H Q E):spG K 1 pC vs H Q E:=by
 obtain ⟨a,ns,rfl,hS,hl,hO,q⟩:=h
 obtain ⟨ch',hm⟩:=main ns hl
 refine ⟨H,fun _=>a,[.dat (.lst (ns.map .int))],[],.dat (.bl true),ch',⟨Same.refl H,fun i j hi=>absurd hi (Nat.not_lt_zero _),fun i hi=>absurd hi (Nat.not_lt_zero _),fun i o h=>by simp at h⟩,rfl,⟨_,[],rfl,?_,rfl⟩,hm,fun v F' H' ρ' _ o=>?_⟩
 · show Rep K H (.lst (ns.map .int)) (.ref a)
   simp only [Rep]
   exact ⟨a,_,rfl,hS,Reps.map (fun _=>fQ) ns⟩
 · have o:Rep K F' (.bl true) v:=o
   simp only [Rep] at o
   subst o
   exact q H'
def all_mk {l:PySem.W.OpenLaw} {w:World} {K:PySem.W.Frag} {h:Heap} {mg:Str->Option Value} {fa:Addr} (X:K.In h) (G:h.Ns mainGlobals mg) (hfa:mg "law"=some (.ref fa))
  {f0 f1 f2 f3 f4 f5 f6 f7 f8 f9 f10 f11 f12 f13 f14 f15 f16 f17 f18 f19 f20:Addr} {od0 an0 od1 an1 od2 an2 od3 an3 od4 an4 od5 an5 od6 an6 od7 an7 od8 an8 od9 an9 od10 an10 od11 an11 od12 an12 od13 an13 od14 an14 od15 an15 od16 an16 od17 an17 od18 an18 od19 an19 od20 an20:Option Addr} {sl0 sl1 sl2 sl3 sl4 sl5 sl6 sl7 sl8 sl9 sl10 sl11 sl12 sl13 sl14 sl15 sl16 sl17 sl18 sl19 sl20:Array (Option Value)} {oc0 kV0 dc0 pm0 cd0 ct0 oc1 kV1 dc1 pm1 cd1 ct1 oc2 kV2 dc2 pm2 cd2 ct2 oc3 kV3 dc3 pm3 cd3 ct3 oc4 kV4 dc4 pm4 cd4 ct4 oc5 kV5 dc5 pm5 cd5 ct5 oc6 kV6 dc6 pm6 cd6 ct6 oc7 kV7 dc7 pm7 cd7 ct7 oc8 kV8 dc8 pm8 cd8 ct8 oc9 kV9 dc9 pm9 cd9 ct9 oc10 kV10 dc10 pm10 cd10 ct10 oc11 kV11 dc11 pm11 cd11 ct11 oc12 kV12 dc12 pm12 cd12 ct12 oc13 kV13 dc13 pm13 cd13 ct13 oc14 kV14 dc14 pm14 cd14 ct14 oc15 kV15 dc15 pm15 cd15 ct15 oc16 kV16 dc16 pm16 cd16 ct16 oc17 kV17 dc17 pm17 cd17 ct17 oc18 kV18 dc18 pm18 cd18 ct18 oc19 kV19 dc19 pm19 cd19 ct19 oc20 kV20 dc20 pm20 cd20 ct20:Value}
  (a0:PySem.W.nsIn K mainGlobals "_law_cell_at"=some (some (.ref f0)))
  (l0:K.lookup f0=some ⟨oc0,od0,.func (PySem.W.fnOf "_law_cell_at" "_law_cell_at" (aQ z16) (aK z16) (aa z16) .none kV0 dc0 pm0 an0 cd0 ct0),sl0⟩) (c0:PySem.W.codeIn K cd0 "_law_cell_at"=true) (k0:PySem.W.keepIn K (.ref f0)=true)
  (a1:PySem.W.nsIn K mainGlobals "_law_rich"=some (some (.ref f1)))
  (l1:K.lookup f1=some ⟨oc1,od1,.func (PySem.W.fnOf "_law_rich" "_law_rich" (aQ z20) (aK z20) (aa z20) .none kV1 dc1 pm1 an1 cd1 ct1),sl1⟩) (c1:PySem.W.codeIn K cd1 "_law_rich"=true) (k1:PySem.W.keepIn K (.ref f1)=true)
  (a2:PySem.W.nsIn K mainGlobals "_law_big"=some (some (.ref f2)))
  (l2:K.lookup f2=some ⟨oc2,od2,.func (PySem.W.fnOf "_law_big" "_law_big" (aQ q20) (aK q20) (aa q20) .none kV2 dc2 pm2 an2 cd2 ct2),sl2⟩) (c2:PySem.W.codeIn K cd2 "_law_big"=true) (k2:PySem.W.keepIn K (.ref f2)=true)
  (a3:PySem.W.nsIn K mainGlobals "_law_digits"=some (some (.ref f3)))
  (l3:K.lookup f3=some ⟨oc3,od3,.func (PySem.W.fnOf "_law_digits" "_law_digits" (aQ y18) (aK y18) (aa y18) .none kV3 dc3 pm3 an3 cd3 ct3),sl3⟩) (c3:PySem.W.codeIn K cd3 "_law_digits"=true) (k3:PySem.W.keepIn K (.ref f3)=true)
  (a4:PySem.W.nsIn K mainGlobals "_law_row"=some (some (.ref f4)))
  (l4:K.lookup f4=some ⟨oc4,od4,.func (PySem.W.fnOf "_law_row" "_law_row" (aQ q18) (aK q18) (aa q18) .none kV4 dc4 pm4 an4 cd4 ct4),sl4⟩) (c4:PySem.W.codeIn K cd4 "_law_row"=true) (k4:PySem.W.keepIn K (.ref f4)=true)
  (a5:PySem.W.nsIn K mainGlobals "_law_names"=some (some (.ref f5)))
  (l5:K.lookup f5=some ⟨oc5,od5,.func (PySem.W.fnOf "_law_names" "_law_names" (aQ z10) (aK z10) (aa z10) .none kV5 dc5 pm5 an5 cd5 ct5),sl5⟩) (c5:PySem.W.codeIn K cd5 "_law_names"=true) (k5:PySem.W.keepIn K (.ref f5)=true)
  (a6:PySem.W.nsIn K mainGlobals "_law_world"=some (some (.ref f6)))
  (l6:K.lookup f6=some ⟨oc6,od6,.func (PySem.W.fnOf "_law_world" "_law_world" (aQ q12) (aK q12) (aa q12) .none kV6 dc6 pm6 an6 cd6 ct6),sl6⟩) (c6:PySem.W.codeIn K cd6 "_law_world"=true) (k6:PySem.W.keepIn K (.ref f6)=true)
  (a7:PySem.W.nsIn K mainGlobals "_law_program"=some (some (.ref f7)))
  (l7:K.lookup f7=some ⟨oc7,od7,.func (PySem.W.fnOf "_law_program" "_law_program" (aQ z3) (aK z3) (aa z3) .none kV7 dc7 pm7 an7 cd7 ct7),sl7⟩) (c7:PySem.W.codeIn K cd7 "_law_program"=true) (k7:PySem.W.keepIn K (.ref f7)=true)
  (a8:PySem.W.nsIn K mainGlobals "ways_of"=some (some (.ref f8)))
  (l8:K.lookup f8=some ⟨oc8,od8,.func (PySem.W.fnOf "ways_of" "ways_of" (aQ y27) (aK y27) (aa y27) .none kV8 dc8 pm8 an8 cd8 ct8),sl8⟩) (c8:PySem.W.codeIn K cd8 "ways_of"=true) (k8:PySem.W.keepIn K (.ref f8)=true)
  (a9:PySem.W.nsIn K mainGlobals "ways"=some (some (.ref f9)))
  (l9:K.lookup f9=some ⟨oc9,od9,.func (PySem.W.fnOf "ways" "ways" (aQ cj) (aK cj) (aa cj) .none kV9 dc9 pm9 an9 cd9 ct9),sl9⟩) (c9:PySem.W.codeIn K cd9 "ways"=true) (k9:PySem.W.keepIn K (.ref f9)=true)
  (a10:PySem.W.nsIn K mainGlobals "gives"=some (some (.ref f10)))
  (l10:K.lookup f10=some ⟨oc10,od10,.func (PySem.W.fnOf "gives" "gives" (aQ q32) (aK q32) (aa q32) .none kV10 dc10 pm10 an10 cd10 ct10),sl10⟩) (c10:PySem.W.codeIn K cd10 "gives"=true) (k10:PySem.W.keepIn K (.ref f10)=true)
  (a11:PySem.W.nsIn K mainGlobals "atoms"=some (some (.ref f11)))
  (l11:K.lookup f11=some ⟨oc11,od11,.func (PySem.W.fnOf "atoms" "atoms" (aQ z32) (aK z32) (aa z32) .none kV11 dc11 pm11 an11 cd11 ct11),sl11⟩) (c11:PySem.W.codeIn K cd11 "atoms"=true) (k11:PySem.W.keepIn K (.ref f11)=true)
  (a12:PySem.W.nsIn K mainGlobals "reads"=some (some (.ref f12)))
  (l12:K.lookup f12=some ⟨oc12,od12,.func (PySem.W.fnOf "reads" "reads" (aQ z27) (aK z27) (aa z27) .none kV12 dc12 pm12 an12 cd12 ct12),sl12⟩) (c12:PySem.W.codeIn K cd12 "reads"=true) (k12:PySem.W.keepIn K (.ref f12)=true)
  (a13:PySem.W.nsIn K mainGlobals "needed_ahead"=some (some (.ref f13)))
  (l13:K.lookup f13=some ⟨oc13,od13,.func (PySem.W.fnOf "needed_ahead" "needed_ahead" (aQ z8) (aK z8) (aa z8) .none kV13 dc13 pm13 an13 cd13 ct13),sl13⟩) (c13:PySem.W.codeIn K cd13 "needed_ahead"=true) (k13:PySem.W.keepIn K (.ref f13)=true)
  (a14:PySem.W.nsIn K mainGlobals "needed"=some (some (.ref f14)))
  (l14:K.lookup f14=some ⟨oc14,od14,.func (PySem.W.fnOf "needed" "needed" (aQ z13) (aK z13) (aa z13) .none kV14 dc14 pm14 an14 cd14 ct14),sl14⟩) (c14:PySem.W.codeIn K cd14 "needed"=true) (k14:PySem.W.keepIn K (.ref f14)=true)
  (a15:PySem.W.nsIn K mainGlobals "_law_exits"=some (some (.ref f15)))
  (l15:K.lookup f15=some ⟨oc15,od15,.func (PySem.W.fnOf "_law_exits" "_law_exits" (aQ y22) (aK y22) (aa y22) .none kV15 dc15 pm15 an15 cd15 ct15),sl15⟩) (c15:PySem.W.codeIn K cd15 "_law_exits"=true) (k15:PySem.W.keepIn K (.ref f15)=true)
  (a16:PySem.W.nsIn K mainGlobals "_law_read_by"=some (some (.ref f16)))
  (l16:K.lookup f16=some ⟨oc16,od16,.func (PySem.W.fnOf "_law_read_by" "_law_read_by" (aQ y10) (aK y10) (aa y10) .none kV16 dc16 pm16 an16 cd16 ct16),sl16⟩) (c16:PySem.W.codeIn K cd16 "_law_read_by"=true) (k16:PySem.W.keepIn K (.ref f16)=true)
  (a17:PySem.W.nsIn K mainGlobals "_law_set_by"=some (some (.ref f17)))
  (l17:K.lookup f17=some ⟨oc17,od17,.func (PySem.W.fnOf "_law_set_by" "_law_set_by" (aQ q19) (aK q19) (aa q19) .none kV17 dc17 pm17 an17 cd17 ct17),sl17⟩) (c17:PySem.W.codeIn K cd17 "_law_set_by"=true) (k17:PySem.W.keepIn K (.ref f17)=true)
  (a18:PySem.W.nsIn K mainGlobals "_law_equal"=some (some (.ref f18)))
  (l18:K.lookup f18=some ⟨oc18,od18,.func (PySem.W.fnOf "_law_equal" "_law_equal" (aQ z12) (aK z12) (aa z12) .none kV18 dc18 pm18 an18 cd18 ct18),sl18⟩) (c18:PySem.W.codeIn K cd18 "_law_equal"=true) (k18:PySem.W.keepIn K (.ref f18)=true)
  (a19:PySem.W.nsIn K mainGlobals "_law_is_needed"=some (some (.ref f19)))
  (l19:K.lookup f19=some ⟨oc19,od19,.func (PySem.W.fnOf "_law_is_needed" "_law_is_needed" (aQ y9) (aK y9) (aa y9) .none kV19 dc19 pm19 an19 cd19 ct19),sl19⟩) (c19:PySem.W.codeIn K cd19 "_law_is_needed"=true) (k19:PySem.W.keepIn K (.ref f19)=true)
  (a20:PySem.W.nsIn K mainGlobals "law"=some (some (.ref f20)))
  (l20:K.lookup f20=some ⟨oc20,od20,.func (PySem.W.fnOf "law" "law" (aQ bt) (aK bt) (aa bt) .none kV20 dc20 pm20 an20 cd20 ct20),sl20⟩) (c20:PySem.W.codeIn K cd20 "law"=true) (k20:PySem.W.keepIn K (.ref f20)=true)
  (z_enumerate:PySem.W.nsIn K mainGlobals "enumerate"=some none)
  (z_isinstance:PySem.W.nsIn K mainGlobals "isinstance"=some none)
  (z_len:PySem.W.nsIn K mainGlobals "len"=some none)
  (z_list:PySem.W.nsIn K mainGlobals "list"=some none)
  (z_max:PySem.W.nsIn K mainGlobals "max"=some none)
  (z_min:PySem.W.nsIn K mainGlobals "min"=some none)
  (z_range:PySem.W.nsIn K mainGlobals "range"=some none)
  (z_set:PySem.W.nsIn K mainGlobals "set"=some none)
  (z_sorted:PySem.W.nsIn K mainGlobals "sorted"=some none)
  (z_str:PySem.W.nsIn K mainGlobals "str"=some none)
  (z_tuple:PySem.W.nsIn K mainGlobals "tuple"=some none)
  {d_ATOM_PLACES:Addr} {o_ATOM_PLACES:Obj} {m_ATOM_PLACES:Nat} {t0_ATOM_PLACES:Tok} {t1_ATOM_PLACES:Tok} {t2_ATOM_PLACES:Tok} {t3_ATOM_PLACES:Tok} {t4_ATOM_PLACES:Tok} {t5_ATOM_PLACES:Tok} {t6_ATOM_PLACES:Tok} {t7_ATOM_PLACES:Tok} {a0_ATOM_PLACES:Addr} {a1_ATOM_PLACES:Addr} {a2_ATOM_PLACES:Addr} {a3_ATOM_PLACES:Addr} {a4_ATOM_PLACES:Addr} {a5_ATOM_PLACES:Addr} {a6_ATOM_PLACES:Addr} {a7_ATOM_PLACES:Addr} (b_ATOM_PLACES:PySem.W.nsIn K mainGlobals "ATOM_PLACES"=some (some (.ref d_ATOM_PLACES))) (l_ATOM_PLACES:K.lookup d_ATOM_PLACES=some o_ATOM_PLACES) (e_ATOM_PLACES:o_ATOM_PLACES.ExactDict) (f_ATOM_PLACES:o_ATOM_PLACES.data=.dict #[⟨PyData.keyHash w.params "copy",.str "copy" t0_ATOM_PLACES,.ref a0_ATOM_PLACES⟩,⟨PyData.keyHash w.params "op",.str "op" t1_ATOM_PLACES,.ref a1_ATOM_PLACES⟩,⟨PyData.keyHash w.params "store",.str "store" t2_ATOM_PLACES,.ref a2_ATOM_PLACES⟩,⟨PyData.keyHash w.params "take",.str "take" t3_ATOM_PLACES,.ref a3_ATOM_PLACES⟩,⟨PyData.keyHash w.params "lay",.str "lay" t4_ATOM_PLACES,.ref a4_ATOM_PLACES⟩,⟨PyData.keyHash w.params "say",.str "say" t5_ATOM_PLACES,.ref a5_ATOM_PLACES⟩,⟨PyData.keyHash w.params "if",.str "if" t6_ATOM_PLACES,.ref a6_ATOM_PLACES⟩,⟨PyData.keyHash w.params "end",.str "end" t7_ATOM_PLACES,.ref a7_ATOM_PLACES⟩] m_ATOM_PLACES) (z_ATOM_PLACES:(d_ATOM_PLACES==sysModules)=false)
  {o0_ATOM_PLACES:Obj} {i0_ATOM_PLACES:Array Value} {m0_ATOM_PLACES:Nat} (l0_ATOM_PLACES:K.lookup a0_ATOM_PLACES=some o0_ATOM_PLACES) (e0_ATOM_PLACES:o0_ATOM_PLACES.cls=.type "tuple") (f0_ATOM_PLACES:o0_ATOM_PLACES.data=.seq i0_ATOM_PLACES m0_ATOM_PLACES) (r0_ATOM_PLACES:Vals [V.int 2,V.int 3] i0_ATOM_PLACES.toList)
  {o1_ATOM_PLACES:Obj} {i1_ATOM_PLACES:Array Value} {m1_ATOM_PLACES:Nat} (l1_ATOM_PLACES:K.lookup a1_ATOM_PLACES=some o1_ATOM_PLACES) (e1_ATOM_PLACES:o1_ATOM_PLACES.cls=.type "tuple") (f1_ATOM_PLACES:o1_ATOM_PLACES.data=.seq i1_ATOM_PLACES m1_ATOM_PLACES) (r1_ATOM_PLACES:Vals [V.int 3,V.int 5] i1_ATOM_PLACES.toList)
  {o2_ATOM_PLACES:Obj} {i2_ATOM_PLACES:Array Value} {m2_ATOM_PLACES:Nat} (l2_ATOM_PLACES:K.lookup a2_ATOM_PLACES=some o2_ATOM_PLACES) (e2_ATOM_PLACES:o2_ATOM_PLACES.cls=.type "tuple") (f2_ATOM_PLACES:o2_ATOM_PLACES.data=.seq i2_ATOM_PLACES m2_ATOM_PLACES) (r2_ATOM_PLACES:Vals [V.int 2,V.int 3] i2_ATOM_PLACES.toList)
  {o3_ATOM_PLACES:Obj} {i3_ATOM_PLACES:Array Value} {m3_ATOM_PLACES:Nat} (l3_ATOM_PLACES:K.lookup a3_ATOM_PLACES=some o3_ATOM_PLACES) (e3_ATOM_PLACES:o3_ATOM_PLACES.cls=.type "tuple") (f3_ATOM_PLACES:o3_ATOM_PLACES.data=.seq i3_ATOM_PLACES m3_ATOM_PLACES) (r3_ATOM_PLACES:Vals [V.int 3,V.int 4] i3_ATOM_PLACES.toList)
  {o4_ATOM_PLACES:Obj} {i4_ATOM_PLACES:Array Value} {m4_ATOM_PLACES:Nat} (l4_ATOM_PLACES:K.lookup a4_ATOM_PLACES=some o4_ATOM_PLACES) (e4_ATOM_PLACES:o4_ATOM_PLACES.cls=.type "tuple") (f4_ATOM_PLACES:o4_ATOM_PLACES.data=.seq i4_ATOM_PLACES m4_ATOM_PLACES) (r4_ATOM_PLACES:Vals [V.int 2,V.int 4] i4_ATOM_PLACES.toList)
  {o5_ATOM_PLACES:Obj} {i5_ATOM_PLACES:Array Value} {m5_ATOM_PLACES:Nat} (l5_ATOM_PLACES:K.lookup a5_ATOM_PLACES=some o5_ATOM_PLACES) (e5_ATOM_PLACES:o5_ATOM_PLACES.cls=.type "tuple") (f5_ATOM_PLACES:o5_ATOM_PLACES.data=.seq i5_ATOM_PLACES m5_ATOM_PLACES) (r5_ATOM_PLACES:Vals [V.int 1,V.int 2] i5_ATOM_PLACES.toList)
  {o6_ATOM_PLACES:Obj} {i6_ATOM_PLACES:Array Value} {m6_ATOM_PLACES:Nat} (l6_ATOM_PLACES:K.lookup a6_ATOM_PLACES=some o6_ATOM_PLACES) (e6_ATOM_PLACES:o6_ATOM_PLACES.cls=.type "tuple") (f6_ATOM_PLACES:o6_ATOM_PLACES.data=.seq i6_ATOM_PLACES m6_ATOM_PLACES) (r6_ATOM_PLACES:Vals [V.int 1,V.int 2] i6_ATOM_PLACES.toList)
  {o7_ATOM_PLACES:Obj} {i7_ATOM_PLACES:Array Value} {m7_ATOM_PLACES:Nat} (l7_ATOM_PLACES:K.lookup a7_ATOM_PLACES=some o7_ATOM_PLACES) (e7_ATOM_PLACES:o7_ATOM_PLACES.cls=.type "tuple") (f7_ATOM_PLACES:o7_ATOM_PLACES.data=.seq i7_ATOM_PLACES m7_ATOM_PLACES) (r7_ATOM_PLACES:Vals [V.int 1,V.int 2] i7_ATOM_PLACES.toList)
  {d_SETTING:Addr} {o_SETTING:Obj} {i_SETTING:Array Value} {m_SETTING:Nat} (b_SETTING:PySem.W.nsIn K mainGlobals "SETTING"=some (some (.ref d_SETTING))) (l_SETTING:K.lookup d_SETTING=some o_SETTING) (e_SETTING:o_SETTING.cls=.type "tuple") (f_SETTING:o_SETTING.data=.seq i_SETTING m_SETTING) (r_SETTING:Vals [V.str "copy",V.str "op",V.str "load",V.str "take",V.str "hear"] i_SETTING.toList)
  (x_str_NoneType:PySem.W.kitOne K (.type "NoneType") (.type "str")=some false)
  (x_str_bool:PySem.W.kitOne K (.type "bool") (.type "str")=some false)
  (x_str_int:PySem.W.kitOne K (.type "int") (.type "str")=some false)
  (x_str_str:PySem.W.kitOne K (.type "str") (.type "str")=some true)
  (x_str_tuple:PySem.W.kitOne K (.type "tuple") (.type "str")=some false)
  (x_str_list:PySem.W.kitOne K (.type "list") (.type "str")=some false)
  (x_str_dict:PySem.W.kitOne K (.type "dict") (.type "str")=some false)
  (x_list_NoneType:PySem.W.kitOne K (.type "NoneType") (.type "list")=some false)
  (x_list_bool:PySem.W.kitOne K (.type "bool") (.type "list")=some false)
  (x_list_int:PySem.W.kitOne K (.type "int") (.type "list")=some false)
  (x_list_str:PySem.W.kitOne K (.type "str") (.type "list")=some false)
  (x_list_tuple:PySem.W.kitOne K (.type "tuple") (.type "list")=some false)
  (x_list_list:PySem.W.kitOne K (.type "list") (.type "list")=some true)
  (x_list_dict:PySem.W.kitOne K (.type "dict") (.type "list")=some false)
  : ∃ fd:FuncData,(∀ (s:Shared) (v:Value),BindsTo s fd ⟨[v],[]⟩ [("_law_script",v)])/\∀ base:Heap,K.In base->base.Ns mainGlobals mg->FnOk l.prog w K mg base CX0 5 fa fd ["_law_script"] (lG K):=by
 have e:=hfa.symm.trans (PySem.W.mg_of X G a20)
 cases e
 have T:Txt l.prog w K mg:={n_enumerate:=PySem.W.mg_none_of X G z_enumerate,n_isinstance:=PySem.W.mg_none_of X G z_isinstance,n_len:=PySem.W.mg_none_of X G z_len,n_list:=PySem.W.mg_none_of X G z_list,n_max:=PySem.W.mg_none_of X G z_max,n_min:=PySem.W.mg_none_of X G z_min,n_range:=PySem.W.mg_none_of X G z_range,n_set:=PySem.W.mg_none_of X G z_set,n_sorted:=PySem.W.mg_none_of X G z_sorted,n_str:=PySem.W.mg_none_of X G z_str,n_tuple:=PySem.W.mg_none_of X G z_tuple,g_ATOM_PLACES:=uO [("copy",t0_ATOM_PLACES,.ref a0_ATOM_PLACES,.ref a0_ATOM_PLACES),("op",t1_ATOM_PLACES,.ref a1_ATOM_PLACES,.ref a1_ATOM_PLACES),("store",t2_ATOM_PLACES,.ref a2_ATOM_PLACES,.ref a2_ATOM_PLACES),("take",t3_ATOM_PLACES,.ref a3_ATOM_PLACES,.ref a3_ATOM_PLACES),("lay",t4_ATOM_PLACES,.ref a4_ATOM_PLACES,.ref a4_ATOM_PLACES),("say",t5_ATOM_PLACES,.ref a5_ATOM_PLACES,.ref a5_ATOM_PLACES),("if",t6_ATOM_PLACES,.ref a6_ATOM_PLACES,.ref a6_ATOM_PLACES),("end",t7_ATOM_PLACES,.ref a7_ATOM_PLACES,.ref a7_ATOM_PLACES)] (PySem.W.mg_of X G b_ATOM_PLACES) l_ATOM_PLACES e_ATOM_PLACES f_ATOM_PLACES z_ATOM_PLACES (show (["copy","op","store","take","lay","say","if","end"]:List Str).Nodup by decide +kernel) (by simp [RelV]) (fun F=>uP (.cons (cc l0_ATOM_PLACES e0_ATOM_PLACES f0_ATOM_PLACES r0_ATOM_PLACES (by decide) (by simp [Reps,Rep])) (.cons (cc l1_ATOM_PLACES e1_ATOM_PLACES f1_ATOM_PLACES r1_ATOM_PLACES (by decide) (by simp [Reps,Rep])) (.cons (cc l2_ATOM_PLACES e2_ATOM_PLACES f2_ATOM_PLACES r2_ATOM_PLACES (by decide) (by simp [Reps,Rep])) (.cons (cc l3_ATOM_PLACES e3_ATOM_PLACES f3_ATOM_PLACES r3_ATOM_PLACES (by decide) (by simp [Reps,Rep])) (.cons (cc l4_ATOM_PLACES e4_ATOM_PLACES f4_ATOM_PLACES r4_ATOM_PLACES (by decide) (by simp [Reps,Rep])) (.cons (cc l5_ATOM_PLACES e5_ATOM_PLACES f5_ATOM_PLACES r5_ATOM_PLACES (by decide) (by simp [Reps,Rep])) (.cons (cc l6_ATOM_PLACES e6_ATOM_PLACES f6_ATOM_PLACES r6_ATOM_PLACES (by decide) (by simp [Reps,Rep])) (.cons (cc l7_ATOM_PLACES e7_ATOM_PLACES f7_ATOM_PLACES r7_ATOM_PLACES (by decide) (by simp [Reps,Rep])) .nil))))))))),g_SETTING:=sf (PySem.W.mg_of X G b_SETTING) l_SETTING e_SETTING f_SETTING r_SETTING (by decide) (fun F=>by simp [Reps,Rep]),k_str:=fun d hd=>(by cases d<;>first | (cases hd;done) | exact x_str_NoneType | exact x_str_bool | exact x_str_int | exact x_str_str | exact x_str_tuple | exact x_str_list | exact x_str_dict),k_list:=fun d hd=>(by cases d<;>first | (cases hd;done) | exact x_list_NoneType | exact x_list_bool | exact x_list_int | exact x_list_str | exact x_list_tuple | exact x_list_list | exact x_list_dict)}
 have D0:DefF K mg "_law_cell_at" z16 ["_law_script","_law_k"]:=DefF.mk' X G a0 l0 c0 k0 fun _ _ _ _ _ _ us hl=>match us,hl with | [_,_],_=>rfl
 have D1:DefF K mg "_law_rich" z20 ["_law_cell","_law_k"]:=DefF.mk' X G a1 l1 c1 k1 fun _ _ _ _ _ _ us hl=>match us,hl with | [_,_],_=>rfl
 have D2:DefF K mg "_law_big" q20 ["_law_script","_law_k"]:=DefF.mk' X G a2 l2 c2 k2 fun _ _ _ _ _ _ us hl=>match us,hl with | [_,_],_=>rfl
 have D3:DefF K mg "_law_digits" y18 ["_law_number","_law_sizes"]:=DefF.mk' X G a3 l3 c3 k3 fun _ _ _ _ _ _ us hl=>match us,hl with | [_,_],_=>rfl
 have D4:DefF K mg "_law_row" q18 ["_law_number","_law_world_here","_law_many"]:=DefF.mk' X G a4 l4 c4 k4 fun _ _ _ _ _ _ us hl=>match us,hl with | [_,_,_],_=>rfl
 have D5:DefF K mg "_law_names" z10 ["_law_number","_law_many"]:=DefF.mk' X G a5 l5 c5 k5 fun _ _ _ _ _ _ us hl=>match us,hl with | [_,_],_=>rfl
 have D6:DefF K mg "_law_world" q12 ["_law_script"]:=DefF.mk' X G a6 l6 c6 k6 fun _ _ _ _ _ _ us hl=>match us,hl with | [_],_=>rfl
 have D7:DefF K mg "_law_program" z3 ["_law_script","_law_most"]:=DefF.mk' X G a7 l7 c7 k7 fun _ _ _ _ _ _ us hl=>match us,hl with | [_,_],_=>rfl
 have D8:DefF K mg "ways_of" y27 ["number","row"]:=DefF.mk' X G a8 l8 c8 k8 fun _ _ _ _ _ _ us hl=>match us,hl with | [_,_],_=>rfl
 have D9:DefF K mg "ways" cj ["program"]:=DefF.mk' X G a9 l9 c9 k9 fun _ _ _ _ _ _ us hl=>match us,hl with | [_],_=>rfl
 have D10:DefF K mg "gives" q32 ["row"]:=DefF.mk' X G a10 l10 c10 k10 fun _ _ _ _ _ _ us hl=>match us,hl with | [_],_=>rfl
 have D11:DefF K mg "atoms" z32 ["row"]:=DefF.mk' X G a11 l11 c11 k11 fun _ _ _ _ _ _ us hl=>match us,hl with | [_],_=>rfl
 have D12:DefF K mg "reads" z27 ["row"]:=DefF.mk' X G a12 l12 c12 k12 fun _ _ _ _ _ _ us hl=>match us,hl with | [_],_=>rfl
 have D13:DefF K mg "needed_ahead" z8 ["row","behind"]:=DefF.mk' X G a13 l13 c13 k13 fun _ _ _ _ _ _ us hl=>match us,hl with | [_,_],_=>rfl
 have D14:DefF K mg "needed" z13 ["program"]:=DefF.mk' X G a14 l14 c14 k14 fun _ _ _ _ _ _ us hl=>match us,hl with | [_],_=>rfl
 have D15:DefF K mg "_law_exits" y22 ["_law_rows","_law_at"]:=DefF.mk' X G a15 l15 c15 k15 fun _ _ _ _ _ _ us hl=>match us,hl with | [_,_],_=>rfl
 have D16:DefF K mg "_law_read_by" y10 ["_law_row_here"]:=DefF.mk' X G a16 l16 c16 k16 fun _ _ _ _ _ _ us hl=>match us,hl with | [_],_=>rfl
 have D17:DefF K mg "_law_set_by" q19 ["_law_row_here"]:=DefF.mk' X G a17 l17 c17 k17 fun _ _ _ _ _ _ us hl=>match us,hl with | [_],_=>rfl
 have D18:DefF K mg "_law_equal" z12 ["_law_rows","_law_found","_law_at"]:=DefF.mk' X G a18 l18 c18 k18 fun _ _ _ _ _ _ us hl=>match us,hl with | [_,_,_],_=>rfl
 have D19:DefF K mg "_law_is_needed" y9 ["_law_rows","_law_at","_law_box"]:=DefF.mk' X G a19 l19 c19 k19 fun _ _ _ _ _ _ us hl=>match us,hl with | [_,_,_],_=>rfl
 refine ⟨PySem.W.fnOf "law" "law" (aQ bt) (aK bt) (aa bt) .none kV20 dc20 pm20 an20 cd20 ct20,fun s v=>.of_eq rfl,fun base _ _=>?_⟩
 have y12:=z59 (P:=l.prog) (w:=w) (base:=base) T D0 
 have q46:=y66 (P:=l.prog) (w:=w) (base:=base) T D1 
 have y23:=z67 (P:=l.prog) (w:=w) (base:=base) T D2 y12 q46
 have z11:=z61 (P:=l.prog) (w:=w) (base:=base) T D3 
 have z50:=y67 (P:=l.prog) (w:=w) (base:=base) T D4 z11
 have q33:=y63 (P:=l.prog) (w:=w) (base:=base) T D5 z11
 have z26:=q65 (P:=l.prog) (w:=w) (base:=base) T D6 y23 y12 z11 q33
 have y29:=q58 (P:=l.prog) (w:=w) (base:=base) T D7 y23 z11 z50 z26
 have q54:=q69 (P:=l.prog) (w:=w) (base:=base) T D8 
 have h_ways:=z71 (P:=l.prog) (w:=w) (base:=base) T D9 q54
 have z62:=z70 (P:=l.prog) (w:=w) (base:=base) T D10 
 have y61:=y70 (P:=l.prog) (w:=w) (base:=base) T D11 
 have y60:=q70 (P:=l.prog) (w:=w) (base:=base) T D12 y61
 have z37:=y58 (P:=l.prog) (w:=w) (base:=base) T D13 z62 y60
 have q51:=z69 (P:=l.prog) (w:=w) (base:=base) T D14 h_ways z37
 have q26:=z65 (P:=l.prog) (w:=w) (base:=base) T D15 
 have y20:=y59 (P:=l.prog) (w:=w) (base:=base) T D16 
 have q23:=q62 (P:=l.prog) (w:=w) (base:=base) T D17 
 have y43:=y64 (P:=l.prog) (w:=w) (base:=base) T D18 q26 y20 q23
 have y31:=q56 (P:=l.prog) (w:=w) (base:=base) T D19 y20 q23 q26
 exact (xZ T (nF (st:=bt) l20 c20 k20) y29 q51 z26 y43 y12 y31).imp fun vs H Q E z=>yY z
def walk {l:PySem.W.OpenLaw} {q:Program} {loose:List Str} {XP:(Str->Option Value)->Heap->Prop} {YP:World->Heap->Prop} {d:DefRec} {K:Params->PySem.W.Frag} (hn:l.most=some 63) (hdf:d.params.defaults=[])
  (hY:∀ (w:World) (h:Heap),YP w h->(K w.params).In h)
  (F:∀ (w:World) (mg:Str->Option Value) (fa:Addr) (h:Heap),(K w.params).In h->h.Ns mainGlobals mg->mg d.name=some (.ref fa)→
   ∃ fd:FuncData,(∀ (s:Shared) (u:Value),BindsTo s fd ⟨[u],[]⟩ [("_law_script",u)])/\∀ base:Heap,(K w.params).In base->base.Ns mainGlobals mg->FnOk l.prog w (K w.params) mg base CX0 5 fa fd ["_law_script"] (lG (K w.params))) :
  PySem.W.WalkO q loose XP YP l.row.toRowW d [] (fun f vs=>PySem.call f vs):=
 L2.Ax (n:=63) (k:=5) (x:="_law_script") (CX:=fun _=>CX0) (sp:=fun w=>lG (K w.params)) hn (by decide) hdf ⟨rfl,by decide,by decide⟩ hY F (fun _ _ a ns hl hO hS=>⟨a,ns,rfl,hS,hl,hO,fun _=>rfl⟩) fun _ _ _ _ _ z=>z
end P32
open PySem PySem.W PyProof.Rows
set_option maxRecDepth 100000 in
set_option maxHeartbeats 0 in
theorem PySem.Challenge.cw_dimhouse_k32_what_is_needed_holds : PySem.Challenge.rw_dimhouse_k32_what_is_needed.Holds := by
 w_on;o_law
 refine holds_open (q:=P32.seen) (loose:=[PySem.Str.ofString "ATOM_PLACES"]) (Xt:=fun s=>xlAt P32.seen [] s&&recOk (RowW.records (OpenRow.toRowW PySem.Challenge.rw_dimhouse_k32_what_is_needed.row)) s) (XP:=XL P32.seen []) (Yf:=Hook.obs P32.hook) (Ya:=Hook.val P32.hook) (YP:=Hook.says P32.hook) (N:=1796) ?hl (Hook.of P32.hook) (Hook.keeps P32.hook) (fun s e=>xl_of s (Bool.and_eq_true_iff.mp e).1) XL.keeps (by rfl) (by rfl) (by rfl) (fun s e=>recFacts_of (Bool.and_eq_true_iff.mp e).2) (by rfl) (by first | assumption | decide +kernel) (by decide +kernel) ⟨rfl,rfl,rfl,rfl,rfl,by decide +kernel⟩ ?hw ?hc
 case hl=>exact LeftO.of_split "special-get-raises" fun w=>P32.map_two (P32.run_false w) (P32.run_true w)
 case hw=>w_witness2
 delta P32.hook
 k_fill
 refine P32.walk (l:=PySem.Challenge.rw_dimhouse_k32_what_is_needed) rfl rfl (fun w h Y=>PySem.W.kIn_of Y) ?F
 case F =>
  intro w mg fa h KX G hmg
  refine' P32.all_mk KX G hmg ?a0 ?l0 ?c0 ?k0 ?a1 ?l1 ?c1 ?k1 ?a2 ?l2 ?c2 ?k2 ?a3 ?l3 ?c3 ?k3 ?a4 ?l4 ?c4 ?k4 ?a5 ?l5 ?c5 ?k5 ?a6 ?l6 ?c6 ?k6 ?a7 ?l7 ?c7 ?k7 ?a8 ?l8 ?c8 ?k8 ?a9 ?l9 ?c9 ?k9 ?a10 ?l10 ?c10 ?k10 ?a11 ?l11 ?c11 ?k11 ?a12 ?l12 ?c12 ?k12 ?a13 ?l13 ?c13 ?k13 ?a14 ?l14 ?c14 ?k14 ?a15 ?l15 ?c15 ?k15 ?a16 ?l16 ?c16 ?k16 ?a17 ?l17 ?c17 ?k17 ?a18 ?l18 ?c18 ?k18 ?a19 ?l19 ?c19 ?k19 ?a20 ?l20 ?c20 ?k20 ?z_enumerate ?z_isinstance ?z_len ?z_list ?z_max ?z_min ?z_range ?z_set ?z_sorted ?z_str ?z_tuple ?b_ATOM_PLACES ?l_ATOM_PLACES ?e_ATOM_PLACES ?f_ATOM_PLACES ?z_ATOM_PLACES ?l0_ATOM_PLACES ?e0_ATOM_PLACES ?f0_ATOM_PLACES ?r0_ATOM_PLACES ?l1_ATOM_PLACES ?e1_ATOM_PLACES ?f1_ATOM_PLACES ?r1_ATOM_PLACES ?l2_ATOM_PLACES ?e2_ATOM_PLACES ?f2_ATOM_PLACES ?r2_ATOM_PLACES ?l3_ATOM_PLACES ?e3_ATOM_PLACES ?f3_ATOM_PLACES ?r3_ATOM_PLACES ?l4_ATOM_PLACES ?e4_ATOM_PLACES ?f4_ATOM_PLACES ?r4_ATOM_PLACES ?l5_ATOM_PLACES ?e5_ATOM_PLACES ?f5_ATOM_PLACES ?r5_ATOM_PLACES ?l6_ATOM_PLACES ?e6_ATOM_PLACES ?f6_ATOM_PLACES ?r6_ATOM_PLACES ?l7_ATOM_PLACES ?e7_ATOM_PLACES ?f7_ATOM_PLACES ?r7_ATOM_PLACES ?b_SETTING ?l_SETTING ?e_SETTING ?f_SETTING ?r_SETTING ?x_str_NoneType ?x_str_bool ?x_str_int ?x_str_str ?x_str_tuple ?x_str_list ?x_str_dict ?x_list_NoneType ?x_list_bool ?x_list_int ?x_list_str ?x_list_tuple ?x_list_list ?x_list_dict
  (case a0 | l0 | c0 | k0 | a1 | l1 | c1 | k1 | a2 | l2 | c2 | k2 | a3 | l3 | c3 | k3 | a4 | l4 | c4 | k4 | a5 | l5 | c5 | k5 | a6 | l6 | c6 | k6 | a7 | l7 | c7 | k7 | a8 | l8 | c8 | k8 | a9 | l9 | c9 | k9 | a10 | l10 | c10 | k10 | a11 | l11 | c11 | k11 | a12 | l12 | c12 | k12 | a13 | l13 | c13 | k13 | a14 | l14 | c14 | k14 | a15 | l15 | c15 | k15 | a16 | l16 | c16 | k16 | a17 | l17 | c17 | k17 | a18 | l18 | c18 | k18 | a19 | l19 | c19 | k19 | a20 | l20 | c20 | k20 | z_enumerate | z_isinstance | z_len | z_list | z_max | z_min | z_range | z_set | z_sorted | z_str | z_tuple | b_ATOM_PLACES | l_ATOM_PLACES=>k_is)
  (case e_ATOM_PLACES=>exact ⟨rfl,rfl,rfl⟩)
  (case f_ATOM_PLACES=>rfl)
  (case z_ATOM_PLACES=>rfl)
  (case l0_ATOM_PLACES=>k_is)
  (case e0_ATOM_PLACES=>rfl)
  (case f0_ATOM_PLACES=>rfl)
  (case r0_ATOM_PLACES=>exact (.cons ⟨_,rfl⟩ (.cons ⟨_,rfl⟩ .nil)))
  (case l1_ATOM_PLACES=>k_is)
  (case e1_ATOM_PLACES=>rfl)
  (case f1_ATOM_PLACES=>rfl)
  (case r1_ATOM_PLACES=>exact (.cons ⟨_,rfl⟩ (.cons ⟨_,rfl⟩ .nil)))
  (case l2_ATOM_PLACES=>k_is)
  (case e2_ATOM_PLACES=>rfl)
  (case f2_ATOM_PLACES=>rfl)
  (case r2_ATOM_PLACES=>exact (.cons ⟨_,rfl⟩ (.cons ⟨_,rfl⟩ .nil)))
  (case l3_ATOM_PLACES=>k_is)
  (case e3_ATOM_PLACES=>rfl)
  (case f3_ATOM_PLACES=>rfl)
  (case r3_ATOM_PLACES=>exact (.cons ⟨_,rfl⟩ (.cons ⟨_,rfl⟩ .nil)))
  (case l4_ATOM_PLACES=>k_is)
  (case e4_ATOM_PLACES=>rfl)
  (case f4_ATOM_PLACES=>rfl)
  (case r4_ATOM_PLACES=>exact (.cons ⟨_,rfl⟩ (.cons ⟨_,rfl⟩ .nil)))
  (case l5_ATOM_PLACES=>k_is)
  (case e5_ATOM_PLACES=>rfl)
  (case f5_ATOM_PLACES=>rfl)
  (case r5_ATOM_PLACES=>exact (.cons ⟨_,rfl⟩ (.cons ⟨_,rfl⟩ .nil)))
  (case l6_ATOM_PLACES=>k_is)
  (case e6_ATOM_PLACES=>rfl)
  (case f6_ATOM_PLACES=>rfl)
  (case r6_ATOM_PLACES=>exact (.cons ⟨_,rfl⟩ (.cons ⟨_,rfl⟩ .nil)))
  (case l7_ATOM_PLACES=>k_is)
  (case e7_ATOM_PLACES=>rfl)
  (case f7_ATOM_PLACES=>rfl)
  (case r7_ATOM_PLACES=>exact (.cons ⟨_,rfl⟩ (.cons ⟨_,rfl⟩ .nil)))
  (case b_SETTING | l_SETTING=>k_is)
  (case e_SETTING=>rfl)
  (case f_SETTING=>rfl)
  (case r_SETTING=>exact (.cons ⟨_,rfl⟩ (.cons ⟨_,rfl⟩ (.cons ⟨_,rfl⟩ (.cons ⟨_,rfl⟩ (.cons ⟨_,rfl⟩ .nil))))))
  (case x_str_NoneType=>first | k_is | rfl)
  (case x_str_bool=>first | k_is | rfl)
  (case x_str_int=>first | k_is | rfl)
  (case x_str_str=>first | k_is | rfl)
  (case x_str_tuple=>first | k_is | rfl)
  (case x_str_list=>first | k_is | rfl)
  (case x_str_dict=>first | k_is | rfl)
  (case x_list_NoneType=>first | k_is | rfl)
  (case x_list_bool=>first | k_is | rfl)
  (case x_list_int=>first | k_is | rfl)
  (case x_list_str=>first | k_is | rfl)
  (case x_list_tuple=>first | k_is | rfl)
  (case x_list_list=>first | k_is | rfl)
  (case x_list_dict=>first | k_is | rfl)
