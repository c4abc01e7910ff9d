import PyProof.Rows.All
import Wide.All
import OpenK.AllK
import Wide.FinOn
import Lean
import PyProof.EqAt
import PyProof.EqKinds
import PyProof.TupleCall
import PySem.Challenge.RW_dimhouse_k24_whole_plain_runs
set_option Elab.async false
set_option linter.all false
namespace P24
open PySem PySem.W PyProof.Rows
section
local macro_rules | `(tactic| o_head $_) => `(tactic| exact (by assumption : ∀ p : Prop, p) _)
set_option maxRecDepth 100000 in
set_option maxHeartbeats 0 in
theorem pre (h0:∀ p:Prop,p):PySem.Challenge.rw_dimhouse_k24_whole_plain_runs.row.Holds:=by
  k_head
end
def seen:Program:={PySem.Challenge.pw_dimhouse_k24_whole_plain_runs with main:={PySem.Challenge.pw_dimhouse_k24_whole_plain_runs.main with body:=[0,2,3,4,5,7,9,10,11,12,13,14,15,16,17,18,19,20,21,22,23,24,25,26].filterMap fun i=>PySem.Challenge.pw_dimhouse_k24_whole_plain_runs.main.body[i]?}}
noncomputable abbrev hook:Hook:=kHook P24.pre.heap_1 [2,3,15,17,18,20,21,22,25,26,27,29,30,32,33,34,36,37,39,40,48,51,52,53,55,56,58,59,60,62,63,65,66,67,69,70,72,73,74,76,77,79,80,81,83,84,86,87,88,90,91,93,94,95,97,98,100,101,102,104,105,107,108,109,111,112,114,115,116,118,119,121,122,123,125,126,128,129,130,132,133,135,136,137,139,140,142,143,144,146,147,149,150,151,153,154,156,157,158,159,160,161,162,165,167,168,170,171,172,175,176,177,180,181,182,184,185,187,188,189,191,192,194,195,196,199,200,201,203,204,206,207,208,210,211,213,214,215,218,219,220,222,223,225,226,227,229,230,232,233,234,236,237,239,240,241,243,244,246,247,248,250,251,253,254,255,257,258,260,261,262,265,266,267,269,270,272,273,274,276,277,279,280] (fun _=>by kernel_rfl)
theorem map_two {α β γ:Type} {x:Option α} {f:α→β} {g:α→γ} {a:β} {b:γ} (h:x.map f=some a) (h':x.map g=some b):x.map (fun s=>(f s,g s))=some (a,b):=by
  cases x with
  | none=>cases h
  | some s=>simp only [Option.map_some,Option.some.injEq] at h h' ⊢;rw [h,h']
set_option maxRecDepth 100000 in
set_option maxHeartbeats 0 in
theorem run_false (w:World):(fencedOpening treeTable PySem.Challenge.rw_dimhouse_k24_whole_plain_runs.row.prog w 2968).map (fun s₀=>(topFrom treeTable PySem.Challenge.rw_dimhouse_k24_whole_plain_runs.row.prog (w.withFollow "special-get-raises" false) 2968 s₀).map (fun s=>(openSeen seen [] (importedModules PySem.Challenge.rw_dimhouse_k24_whole_plain_runs.row.prog.main.body) (fun s=>xlAt seen [] s&&recOk (RowW.records (OpenRow.toRowW PySem.Challenge.rw_dimhouse_k24_whole_plain_runs.row)) s) true s,Hook.obs hook s)))=some (some (openGood seen [],Hook.val hook (w.withFollow "special-get-raises" false))):=by
  kernel_rfl
set_option maxRecDepth 100000 in
set_option maxHeartbeats 0 in
theorem run_true (w:World):(fencedOpening treeTable PySem.Challenge.rw_dimhouse_k24_whole_plain_runs.row.prog w 2968).map (fun s₀=>(topFrom treeTable PySem.Challenge.rw_dimhouse_k24_whole_plain_runs.row.prog (w.withFollow "special-get-raises" true) 2968 s₀).map (fun s=>(openSeen seen [] (importedModules PySem.Challenge.rw_dimhouse_k24_whole_plain_runs.row.prog.main.body) (fun s=>xlAt seen [] s&&recOk (RowW.records (OpenRow.toRowW PySem.Challenge.rw_dimhouse_k24_whole_plain_runs.row)) s) true s,Hook.obs hook s)))=some (some (openGood seen [],Hook.val hook (w.withFollow "special-get-raises" true))):=by
  kernel_rfl
end P24
set_option maxRecDepth 100000
set_option maxHeartbeats 4000000
noncomputable section
def bS {α β:Type _} {o:Option α} {f:α->Option β} {b:β} (h:o.bind f=some b):∃ a,o=some a/\f a=some b:=Option.bind_eq_some_iff.mp h
def mS {α β:Type _} {o:Option α} {f:α->β} {b:β} (h:o.map f=some b):∃ a,o=some a/\f a=b:=Option.map_eq_some_iff.mp h
def gX {α:Type _} {l:List α} {i:Nat} {a:α} (h:l[i]?=some a):∃ z:i<l.length,l[i]=a:=List.getElem?_eq_some_iff.mp h
open PySem PySem.Spec PyProof.Rows in abbrev gN := @List.getElem?_set_ne
open PySem PySem.Spec PyProof.Rows in abbrev gP := @Heap.get?_push_of_some
open PySem PySem.Spec PyProof.Rows in abbrev wB := @wpAny_bind
open PySem PySem.Spec PyProof.Rows in abbrev gL := @List.getElem?_append_left
open PySem PySem.Spec PyProof.Rows in abbrev gR := @List.getElem?_append_right
open PySem PySem.Spec PyProof.Rows in abbrev gQ := @List.getElem?_eq_getElem
open PySem PySem.Spec PyProof.Rows in abbrev nL := @Nat.le_refl
set_option maxRecDepth 100000
namespace L2
open PySem PySem.Spec PyProof.Rows
abbrev Key:=Sum Int Str
def ly:Key->Value->Bool
 | .inl k,v=>Value.isInt k v
 | .inr x,v=>Value.isStrOf x v
def keyH (w:World):Key->Int
 | .inl k=>hashInt k
 | .inr x=>hashStr w x
def cq:∀ {k:Key} {v:Value},ly k v=true->(∃ i t,k=Sum.inl i/\v=Value.int i t)∨(∃ x t,k=Sum.inr x/\v=Value.str x t)
 | .inl i,v,h=>by
  obtain ⟨t,e⟩:=Value.isInt_shape (k:=i) (v:=v) h
  exact .inl ⟨i,t,rfl,e⟩
 | .inr x,v,h=>by
  obtain ⟨t,e⟩:=Value.isStrOf_shape (x:=x) (v:=v) h
  exact .inr ⟨x,t,rfl,e⟩
def rE (i:Int) (t:Tok):ly (.inl i) (.int i t)=true:=by simp [ly,Value.isInt]
def rF (x:Str) (t:Tok):ly (.inr x) (.str x t)=true:=by simp [ly,Value.isStrOf]
def xJ (a b:Int):decide ((Sum.inl a:Key)=Sum.inl b)=(a==b):=by
 by_cases e:a=b
 · subst e;simp
 · have h:¬ (Sum.inl a:Key)=Sum.inl b:=fun q=>e (Sum.inl.inj q)
   rw [decide_eq_false h]
   exact (beq_eq_false_iff_ne.mpr e).symm
def xK (a b:Str):decide ((Sum.inr a:Key)=Sum.inr b)=decide (a=b):=by
 by_cases e:a=b
 · subst e;simp
 · have h:¬ (Sum.inr a:Key)=Sum.inr b:=fun q=>e (Sum.inr.inj q)
   rw [decide_eq_false h,decide_eq_false e]
def xL (a:Int) (b:Str):decide ((Sum.inl a:Key)=Sum.inr b)=false:=decide_eq_false (fun q=>nomatch q)
def xM (a:Str) (b:Int):decide ((Sum.inr a:Key)=Sum.inl b)=false:=decide_eq_false (fun q=>nomatch q)
noncomputable def bJ (prog:Program) (w:World):PySem.KeyKind prog w Key where
 is:=ly
 hash:=keyH w
 inj:=fun v a b ha hb=>by
  rcases cq ha with ⟨i,t,rfl,rfl⟩ | ⟨x,t,rfl,rfl⟩
  · rcases cq hb with ⟨j,u,rfl,e⟩ | ⟨y,u,rfl,e⟩
    · injection e with e1 _;rw [e1]
    · exact nomatch e
  · rcases cq hb with ⟨j,u,rfl,e⟩ | ⟨y,u,rfl,e⟩
    · exact nomatch e
    · injection e with e1 _;rw [e1]
 byValue:=fun k v h=>by
  rcases cq h with ⟨i,t,rfl,rfl⟩ | ⟨x,t,rfl,rfl⟩<;>rfl
 pyHash:=fun hv h=>by
  rcases cq hv with ⟨i,t,rfl,rfl⟩ | ⟨x,t,rfl,rfl⟩
  · exact wpAny_pyHash_int h
  · exact wpAny_pyHash_str h
 eqBool:=fun hu hv h=>by
  rcases cq hu with ⟨i,t,rfl,rfl⟩ | ⟨x,t,rfl,rfl⟩
  · rcases cq hv with ⟨j,u,rfl,rfl⟩ | ⟨y,u,rfl,rfl⟩
    · rw [xJ] at h;exact wpAny_eqBool_int h
    · rw [xL] at h;exact SeqAt.EqAt.int_str i t y u _ _ _ _ h
  · rcases cq hv with ⟨j,u,rfl,rfl⟩ | ⟨y,u,rfl,rfl⟩
    · rw [xM] at h;exact SeqAt.EqAt.str_int x t j u _ _ _ _ h
    · rw [xK] at h;exact wpAny_eqBool_str h
 «strs»:=fun k x t v h=>by
  rcases cq h with ⟨i,u,rfl,e⟩ | ⟨y,u,rfl,e⟩
  · exact nomatch e
  · injection e with e1 _
    subst e1
    cases v<;>rfl
def nu (prog:Program) (w:World) (i:Int) (t:Tok):(bJ prog w).is (.inl i) (.int i t)=true:=rE i t
def nv (prog:Program) (w:World) (x:Str) (t:Tok):(bJ prog w).is (.inr x) (.str x t)=true:=rF x t
inductive V where
 | non | bl (b:Bool) | int (i:Int) | str (x:Str) | byt (b:Array UInt8) | flt (b:UInt64) | ref (a:Addr) | ty (n:String)
 deriving DecidableEq
noncomputable def RelV:V->Value->Prop
 | .non,u=>u=Value.none
 | .bl b,u=>u=Value.bool b
 | .int i,u=>∃ t,u=Value.int i t
 | .str x,u=>∃ t,u=Value.str x t
 | .byt b,u=>∃ t,u=Value.bytes b t
 | .flt b,u=>∃ t,u=Value.float b t
 | .ref a,u=>u=Value.ref a
 | .ty n,u=>u=Value.type n
abbrev Vals:List V->List Value->Prop:=Paired RelV
def Vals.length {xs:List V} {us:List Value} (r:Vals xs us):xs.length=us.length:=Paired.length r
def Vals.get:∀ {xs:List V} {us:List Value} {i:Nat} {x:V},Vals xs us->xs[i]?=some x->∃ u,us[i]?=some u/\RelV x u
 | _,_,_,_,.nil,e=>by simp at e
 | _,_,0,_,.cons r _,e=>by simp at e;subst e;exact ⟨_,rfl,r⟩
 | _,_,i+1,x,.cons _ t,e=>by
  obtain ⟨u,h1,h2⟩:=Vals.get (i:=i) (x:=x) t (by simpa using e)
  exact ⟨u,by simpa using h1,h2⟩
def Vals.set {x:V} {u:Value} (r:RelV x u):∀ {xs:List V} {us:List Value} (i:Nat),Vals xs us->Vals (xs.set i x) (us.set i u)
 | _,_,_,.nil=>.nil
 | _,_,0,.cons _ t=>.cons r t
 | _,_,i+1,.cons q t=>.cons q (Vals.set r i t)
def Vals.append:∀ {xs ys:List V} {us ws:List Value},Vals xs us->Vals ys ws->Vals (xs++ys) (us++ws)
 | _,_,_,_,.nil,s=>s
 | _,_,_,_,.cons r t,s=>.cons r (Vals.append t s)
def Vals.take:∀ {xs:List V} {us:List Value} (n:Nat),Vals xs us->Vals (xs.take n) (us.take n)
 | _,_,0,_=>.nil
 | _,_,_+1,.nil=>.nil
 | _,_,n+1,.cons r t=>.cons r (Vals.take n t)
def Vals.drop:∀ {xs:List V} {us:List Value} (n:Nat),Vals xs us->Vals (xs.drop n) (us.drop n)
 | _,_,0,r=>r
 | _,_,_+1,.nil=>.nil
 | _,_,n+1,.cons _ t=>Vals.drop n t
def RelO:Option V->Option Value->Prop
 | some v,some u=>RelV v u
 | none,none=>True
 | _,_=>False
def KV {κ:Type}:List (κ×V)->List (κ×Value)->Prop:=Paired fun (p:κ×V) (q:κ×Value)=>p.1=q.1/\RelV p.2 q.2
def kV:Key->V
 | .inl i=>.int i
 | .inr x=>.str x
inductive HO where
 | lst (xs:List V)
 | tup (xs:List V)
 | dK (kvs:List (Key×V)) | dT (kvs:List (List Key×V))
 | set (S:Int->Bool) (n:Nat)
 | ins (C dx:Addr) (fs:List (Str×V))
 | own (x:Addr)
 | xd (fs:List (Str×V))
 | met (f x:Addr)
 | rng (lo hi:Int)
 | frz (o:Obj) (u:HO)
 | tbl (ps:Array Value)
 | ext (φ:Heap->Prop)
abbrev Hp:=Addr->Option HO
def upd (H:Hp) (a:Addr) (o:HO):Hp:=fun b=>if b=a then some o else H b
def aY {H:Hp} {a:Addr} {o:HO}:upd H a o a=some o:=by unfold upd;rw [if_pos rfl]
def bc {H:Hp} {a b:Addr} {o:HO} (h:b≠a):upd H a o b=H b:=by unfold upd;rw [if_neg h]
def zS {H:Hp} {a b:Addr} {o u:HO} (h:H a=some o) (h':H b=some u) (d:o≠u):a≠b:=by
 intro e;subst e;rw [h] at h';exact d (Option.some.inj h')
def cg {H:Hp} {a b:Addr} {o:HO} (h:H a=some o) (h':H b=none):a≠b:=by
 intro e;subst e;rw [h] at h';cases h'
section
variable (P:Program) (w:World)
noncomputable def ObjOk (H:Hp) (h:Heap) (a:Addr):HO->Prop
 | .lst xs=>xs.length<=sizeLine/\∃ (its:List Value) (n:Nat),Vals xs its/\h.get? a=some {cls:=.type "list",data:=.seq its.toArray n}
 | .tup xs=>xs.length<=sizeLine/\∃ its:List Value,Vals xs its/\IsTup h a its.toArray
 | .dK kvs=>kvs.length<=sizeLine/\(a==sysModules)=false/\∃ vs,KV kvs vs/\h.DictOf (bJ P w) a vs
 | .dT kvs=>kvs.length<=sizeLine/\(a==sysModules)=false/\∃ xs:List (List Key×Addr×Value),
     Paired (fun (p:List Key×V) (q:List Key×Addr×Value)=>p.1=q.1/\H q.2.1=some (.tup (p.1.map kV))/\RelV p.2 q.2.2) kvs xs∧
     ∃ o es ep,h.get? a=some o/\o.ExactDict/\o.data=.dict es ep/\es.toList=xs.map (entryOfKey (tupleKind (bJ P w)))/\(xs.map (·.1)).Nodup
 | .set S n=>h.SetOf (intKind P w) a S n
 | .ins C dx fs=>H dx=some (.own a)/\fs.length<=1000/\dx≠a/\h.get? a=some (PySem.W.instObj C dx)∧
     ∃ mA,h.Ns1 dx mA/\(∀ f,RelO (fs.lookup f) (mA f))/\PySem.Within mA (fs.map (·.1))
 | .own _=>∃ o,h.get? a=some o
 | .xd fs=>∃ mA,h.Ns1 a mA/\∀ f,RelO (fs.lookup f) (mA f)
 | .rng lo hi=>∃ t u v,h.get? a=some {cls:=.type "range",data:=.fields #[.int lo t,.int hi u,.int 1 v]}
 | .frz o u=>h.get? a=some o/\ObjOk H h a u
 | .tbl ps=>h.get? a=some {cls:=.none,data:=.fields ps}
 | .met f x=>h.get? a=some (PySem.W.methodObj (.ref f) (.ref x))
 | .ext φ=>φ h/\(∃ o,h.get? a=some o)/\∀ h1 h2:Heap,φ h1->(∀ o,h1.get? a=some o->h2.get? a=some o)->φ h2
def HOk (H:Hp) (h:Heap):Prop:=∀ a o,H a=some o->ObjOk P w H h a o
end
section
variable {P:Program} {w:World} {H H':Hp} {h h':Heap} {a:Addr} {o:HO}
def ObjOk.lt (x:ObjOk P w H h a o):a<h.objs.size:=by
 cases o with
 | lst xs=>obtain ⟨_,_,_,_,e⟩:=x;exact Heap.lt_size e
 | tup xs=>obtain ⟨_,_,_,p⟩:=x;exact p.lt
 | dK kvs=>obtain ⟨_,_,_,_,o,_,_,e,_⟩:=x;exact Heap.lt_size e
 | dT kvs=>obtain ⟨_,_,_,_,o,_,_,e,_⟩:=x;exact Heap.lt_size e
 | set S n=>obtain ⟨o,_,_,_,e,_⟩:=x;exact Heap.lt_size e
 | ins C dx fs=>obtain ⟨_,_,_,e,_⟩:=x;exact Heap.lt_size e
 | own y=>obtain ⟨_,e⟩:=x;exact Heap.lt_size e
 | xd fs=>obtain ⟨_,⟨_,_,_,e,_⟩,_⟩:=x;exact Heap.lt_size e
 | rng lo hi=>obtain ⟨_,_,_,e⟩:=x;exact Heap.lt_size e
 | frz ob u=>obtain ⟨e,_⟩:=x;exact Heap.lt_size e
 | tbl ps=>exact Heap.lt_size (show h.get? a=some _ from x)
 | met f y=>exact Heap.lt_size (show h.get? a=some _ from x)
 | ext φ=>obtain ⟨_,⟨_,e⟩,_⟩:=x;exact Heap.lt_size e
def Paired.mapP {α β:Type} {F G:α->β->Prop}:∀ {l₁:List α} {l₂:List β},Paired F l₁ l₂->(∀ a b,F a b->G a b)->Paired G l₁ l₂
 | _,_,.nil,_=>.nil
 | _,_,.cons r t,f=>.cons (f _ _ r) (Paired.mapP t f)
def ObjOk.stay (x:ObjOk P w H h a o) (k:∀ b u,(b=a∨H b=some (.own a))->h.get? b=some u->h'.get? b=some u)
  (ho:∀ b,H b=some (.own a)->H' b=some (.own a)) (ht:∀ b xs,H b=some (.tup xs)->H' b=some (.tup xs)):ObjOk P w H' h' a o:=by
 induction o with
 | lst xs=>obtain ⟨z,its,n,r,e⟩:=x;exact ⟨z,its,n,r,k _ _ (.inl rfl) e⟩
 | tup xs=>obtain ⟨z,its,r,ob,e,c⟩:=x;exact ⟨z,its,r,ob,k _ _ (.inl rfl) e,c⟩
 | dK kvs=>obtain ⟨z,y,vs,r,ob,es,ep,e,c⟩:=x;exact ⟨z,y,vs,r,ob,es,ep,k _ _ (.inl rfl) e,c⟩
 | dT kvs =>
  obtain ⟨z,y,xs,r,ob,es,ep,e,c⟩:=x
  exact ⟨z,y,xs,Paired.mapP r fun p q z=>⟨z.1,ht _ _ z.2.1,z.2.2⟩,ob,es,ep,k _ _ (.inl rfl) e,c⟩
 | set S n=>obtain ⟨ob,es,ep,t,e,c⟩:=x;exact ⟨ob,es,ep,t,k _ _ (.inl rfl) e,c⟩
 | ins C dx fs =>
  obtain ⟨d,z,ne,e,mA,⟨od,es,ep,e2,c⟩,r⟩:=x
  exact ⟨ho _ d,z,ne,k _ _ (.inl rfl) e,mA,⟨od,es,ep,k _ _ (.inr d) e2,c⟩,r⟩
 | own y=>obtain ⟨ob,e⟩:=x;exact ⟨ob,k _ _ (.inl rfl) e⟩
 | xd fs=>obtain ⟨mA,⟨od,es,ep,e,c⟩,r⟩:=x;exact ⟨mA,⟨od,es,ep,k _ _ (.inl rfl) e,c⟩,r⟩
 | rng lo hi=>obtain ⟨t,u,v,e⟩:=x;exact ⟨t,u,v,k _ _ (.inl rfl) e⟩
 | frz ob u ih=>obtain ⟨e,q⟩:=x;exact ⟨k _ _ (.inl rfl) e,ih q⟩
 | tbl ps =>
  have e:h.get? a=some {cls:=.none,data:=.fields ps}:=x
  show h'.get? a=some {cls:=.none,data:=.fields ps}
  exact k a _ (.inl rfl) e
 | met f y =>
  have e:h.get? a=some (PySem.W.methodObj (.ref f) (.ref y)):=x
  show h'.get? a=some (PySem.W.methodObj (.ref f) (.ref y))
  exact k a _ (.inl rfl) e
 | ext φ=>obtain ⟨p,⟨o,e⟩,st⟩:=x;exact ⟨st _ _ p fun o q=>k _ _ (.inl rfl) q,⟨o,k _ _ (.inl rfl) e⟩,st⟩
def HOk.lt (x:HOk P w H h) (e:H a=some o):a<h.objs.size:=(x a o e).lt
def HOk.fresh (x:HOk P w H h) (e:h.objs.size<=a):H a=none:=by
 cases q:H a with
 | none=>rfl
 | some u=>exact absurd (Nat.lt_of_lt_of_le (x.lt q) e) (Nat.lt_irrefl _)
def HOk.kept (x:HOk P w H h) (k:∀ b u,h.get? b=some u->h'.get? b=some u):HOk P w H h':=fun a o e =>
 (x a o e).stay (fun b u _ q=>k b u q) (fun _ q=>q) fun _ _ q=>q
def HOk.laid (x:HOk P w H h) (k:∀ b u,h.get? b=some u->h'.get? b=some u) (hp:h.objs.size<=a) (new:ObjOk P w (upd H a o) h' a o):HOk P w (upd H a o) h':=fun b u e=>by
 have hn:=x.fresh hp
 by_cases hb:b=a
 · subst hb;rw [aY] at e;cases e;exact new
 · rw [bc hb] at e
   exact (x b u e).stay (fun c v _ q=>k c v q) (fun c q=>by rw [bc (cg q hn)];exact q) fun c xs q=>by rw [bc (cg q hn)];exact q
end
def Rd (H:Hp) (a:Addr) (u:HO):Prop:=H a=some u∨∃ o,H a=some (.frz o u)
def Rd.ok {P:Program} {w:World} {H:Hp} {h:Heap} {a:Addr} {u:HO} (r:Rd H a u) (x:HOk P w H h):ObjOk P w H h a u:=by
 rcases r with r | ⟨o,r⟩
 · exact x a u r
 · obtain ⟨_,q⟩:=x a _ r
   exact q
def Mut:Option HO->Prop
 | some (.lst _)=>True
 | some (.dK _)=>True
 | some (.dT _)=>True
 | some (.set _ _)=>True
 | some (.ins _ _ _)=>True
 | some (.ext _)=>True
 | _=>False
section
variable {P:Program} {w:World} {H:Hp} {h h':Heap} {x e:Addr} {o':HO}
def HOk.write (ok:HOk P w H h) (mu:Mut (H x)) (he:e=x∨H e=some (.own x)) (k:∀ b u,b≠e->h.get? b=some u->h'.get? b=some u) (heo:∃ u,h'.get? e=some u)
  (new:ObjOk P w (upd H x o') h' x o'):HOk P w (upd H x o') h':=fun b u q=>by
 have nown:∀ c y,H c=some (.own y)->c≠x:=fun c y r z=>by subst z;rw [r] at mu;exact mu
 have ntup:∀ c xs,H c=some (.tup xs)->c≠x:=fun c xs r z=>by subst z;rw [r] at mu;exact mu
 by_cases hb:b=x
 · subst hb;rw [aY] at q;cases q;exact new
 · rw [bc hb] at q
   by_cases hbe:b=e
   · have q':H b=some (.own x):=by
      rcases he with z | z
      · exact absurd (hbe.trans z) hb
      · rw [hbe];exact z
     rw [q] at q';cases q'
     obtain ⟨v,hv⟩:=heo
     exact ⟨v,by rw [hbe];exact hv⟩
   · refine (ok b u q).stay (fun c v hc r=>k c v ?_ r) (fun c r=>by rw [bc (nown c b r)];exact r) fun c xs r=>by rw [bc (ntup c xs r)];exact r
     rcases hc with rfl | hc
     · exact hbe
     · rintro rfl
       rcases he with z | z
       · exact nown c b hc z
       · rw [hc] at z;cases z;exact hb rfl
end
structure Un (fs ex:List Addr) (H H':Hp) (h h':Heap):Prop where
 keep:∀ b o,h.get? b=some o->H b=none->b∉fs->b∉ex->h'.get? b=some o
 slot:∀ b o,h.get? b=some o->H b=none->b∈fs->b∉ex->∃ sl,h'.get? b=some {o with slots:=sl}
 free:∀ b o,h.get? b=some o->H b=none->b∉ex->H' b=none
 there:∀ b o,h.get? b=some o->b∉ex->∃ o',h'.get? b=some o'
 tups:∀ b xs,H b=some (.tup xs)->H' b=some (.tup xs)
 frzs:∀ b o u,H b=some (.frz o u)->H' b=some (.frz o u)
 tbls:∀ b ps,H b=some (.tbl ps)->∃ more,H' b=some (.tbl (ps++more))
section
variable {fs fs' ex ex':List Addr} {H H1 H2:Hp} {h h1 h2 h':Heap} {a x e:Addr} {o:HO}
def Un.any (u:Un fs ex H H1 h h1) {b:Addr} {ob:Obj} (q:h.get? b=some ob) (n:H b=none) (hx:b∉ex):∃ sl,h1.get? b=some {ob with slots:=sl}:=by
 by_cases hb:b∈fs
 · exact u.slot b ob q n hb hx
 · exact ⟨ob.slots,u.keep b ob q n hb hx⟩
def Un.trans (a:Un fs ex H H1 h h1) (b:Un fs ex H1 H2 h1 h2):Un fs ex H H2 h h2 where
 keep:=fun c ob q n hc hx=>b.keep c ob (a.keep c ob q n hc hx) (a.free c ob q n hx) hc hx
 slot:=fun c ob q n hc hx=>by
  obtain ⟨sl,e1⟩:=a.slot c ob q n hc hx
  obtain ⟨sl',e2⟩:=b.slot c _ e1 (a.free c ob q n hx) hc hx
  exact ⟨sl',e2⟩
 free:=fun c ob q n hx=>by
  obtain ⟨o',e1⟩:=a.there c ob q hx
  exact b.free c o' e1 (a.free c ob q n hx) hx
 there:=fun c ob q hx=>by
  obtain ⟨o',e1⟩:=a.there c ob q hx
  exact b.there c o' e1 hx
 tups:=fun c xs q=>b.tups c xs (a.tups c xs q)
 frzs:=fun c ob xs q=>b.frzs c ob xs (a.frzs c ob xs q)
 tbls:=fun c ps q=>by
  obtain ⟨m1,e1⟩:=a.tbls c ps q
  obtain ⟨m2,e2⟩:=b.tbls c _ e1
  exact ⟨m1++m2,by rw [e2,Array.append_assoc]⟩
def Un.kept (k:∀ b u,h.get? b=some u->h'.get? b=some u):Un fs ex H H h h':=
 ⟨fun b ob q _ _ _=>k b ob q,fun b ob q _ _ _=>⟨ob.slots,k b ob q⟩,fun _ _ _ n _=>n,fun b ob q _=>⟨ob,k b ob q⟩,fun _ _ q=>q,fun _ _ _ q=>q,fun _ ps q=>⟨#[],by rw [q];simp⟩⟩
def Un.refl:Un fs ex H H h h:=Un.kept fun _ _ q=>q
def Un.laid (k:∀ b u,h.get? b=some u->h'.get? b=some u) (hp:h.objs.size<=a) (hn:H a=none):Un fs ex H (upd H a o) h h' where
 keep:=fun b u q _ _ _=>k b u q
 slot:=fun b u q _ _ _=>⟨u.slots,k b u q⟩
 free:=fun b u q n _=>by rw [bc (Nat.ne_of_lt (Nat.lt_of_lt_of_le (Heap.lt_size q) hp))];exact n
 there:=fun b u q _=>⟨u,k b u q⟩
 tups:=fun b xs q=>by rw [bc (cg q hn)];exact q
 frzs:=fun b u xs q=>by rw [bc (cg q hn)];exact q
 tbls:=fun b ps q=>⟨#[],by rw [bc (cg q hn),q];simp⟩
def Un.write (mu:Mut (H x)) (he:e=x∨H e=some (.own x)) (k:∀ b u,b≠e->h.get? b=some u->h'.get? b=some u) (heo:∃ u,h'.get? e=some u):Un fs ex H (upd H x o) h h':=by
 have hx:∀ b,H b=none->b≠x:=fun b n z=>by subst z;rw [n] at mu;exact mu
 have hb:∀ b,H b=none->b≠e:=fun b n z=>by
  subst z
  rcases he with r | r
  · exact hx b n r
  · rw [n] at r;cases r
 have hm:∀ b u,H b=some u->¬ Mut (some u)->b≠x:=fun b u q nm z=>by subst z;rw [q] at mu;exact nm mu
 refine ⟨fun b u q n _ _=>k b u (hb b n) q,fun b u q n _ _=>⟨u.slots,k b u (hb b n) q⟩,fun b u q n _=>by rw [bc (hx b n)];exact n,fun b u q _=>?_,
  fun b xs q=>by rw [bc (hm b _ q fun z=>z)];exact q,fun b u xs q=>by rw [bc (hm b _ q fun z=>z)];exact q,fun b ps q=>⟨#[],by rw [bc (hm b _ q fun z=>z),q];simp⟩⟩
 by_cases hbe:b=e
 · subst hbe;exact heo
 · exact ⟨u,k b u hbe q⟩
end
def trk (h:Heap) (H:Hp):List Addr:=(List.range h.objs.size).filter fun a=>(H a).isSome
def mr (h:Heap) (H:Hp):Heap:=PySem.W.hideAll h (trk h H)
def rG (h:Heap) (H:Hp):(mr h H).objs.size=h.objs.size:=PySem.W.hideAll_size _ _
def sA {h:Heap} {H:Hp} {b:Addr} {o:Obj} (e:h.get? b=some o) (n:H b=none):(mr h H).get? b=some o:=
 PySem.W.hideAll_get _ e fun hm=>by
  have q:(H b).isSome=true:=(List.mem_filter.mp hm).2
  rw [n] at q;simp at q
def uX {h:Heap} {H:Hp} {b:Addr} {o:Obj} (e:(mr h H).get? b=some o):h.get? b=some o/\H b=none:=by
 have e':h.get? b=some o:=PySem.W.of_hideAll (trk h H) e
 refine ⟨e',?_⟩
 cases q:H b with
 | none=>rfl
 | some x =>
  have hm:b∈trk h H:=List.mem_filter.mpr ⟨List.mem_range.mpr (Heap.lt_size e'),by simp [q]⟩
  have z:(mr h H).get? b=none:=PySem.W.hideAll_none (trk h H) hm
  rw [z] at e;cases e
def uY (g h:Heap) (L:Addr):List (Addr×Obj):=(List.range h.objs.size).filterMap fun a=>if a=L∨(g.get? a).isSome=true then none else (h.get? a).map fun o=>(a,o)
def rest (g h:Heap) (L d:Addr):List (Addr×Obj):=(uY g h L).filter fun p=>decide (p.1≠d)
structure Mod (K:PySem.W.Frag) (mg:Str->Option Value) (base:Heap):Prop where
 kin:K.In base
 glob:base.Ns mainGlobals mg
 blt:∃ mb,base.Ns builtinsNs mb/\∀ x:Str,x≠"__name__"->mb x=bootBuiltins x
 nolimit:base.NoLimit
structure Cx where
 prog:Program
 w:World
 K:PySem.W.Frag
 mg:Str->Option Value
 base:Heap
 A:Around
 N:List Str
 s₀:Shared
 H₀:Hp
 env:Env
 outer:List Env
 stack:List Env
 ex:List Addr
 fn:Str->Bool
 calm:Bool
 pn:List (Addr×Obj)
 xe:Value->Shared->Prop
def frs (l:List Env):List Addr:=l.filterMap (·.frame)
abbrev Cx.fs (X:Cx):List Addr:=frs X.outer
def Vis (sc:Scope) (x:Str):Prop:=sc.names.lookup x=some .local∨sc.names.lookup x=some .cell∨sc.names.lookup x=some .free
def Loc (sc:Scope) (x:Str):Prop:=sc.names.lookup x=some .local∨sc.names.lookup x=some .cell
noncomputable def Look (env:Env) (h:Heap) (m:Str->Option Value) (x:Str) (u:Value):Prop:=
 (env.kindOf x=some .local/\m x=some u)∨((env.kindOf x=some .cell∨env.kindOf x=some .free)/\∃ c,env.cells.lookup x=some c/\h.IsCell c (some u))
structure Cx.Ok (X:Cx):Prop where
 mod:Mod X.K X.mg X.base
 kind:X.env.scope.kind=.function
 glob:X.env.globals=mainGlobals
 blt:X.env.builtins=builtinsNs
 above:X.s₀.heap.objs.size<=X.env.locals
 inj:∀ x y c,X.env.cells.lookup x=some c->X.env.cells.lookup y=some c->x=y
 has:∀ x,(X.env.kindOf x=some .cell∨X.env.kindOf x=some .free)->∃ c,X.env.cells.lookup x=some c
 cab:∀ x c,X.fn x=true->X.env.cells.lookup x=some c->X.s₀.heap.objs.size<=c
 hd:X.calm=true->X.A.handled=none
 frames:X.A.frames=some X.stack
 stk:X.stack=X.outer∨(X.stack=X.env::X.outer/\X.env.frame=some X.env.locals)
 exf:∀ b∈X.ex,b≠X.env.locals/\∀ x c,X.env.cells.lookup x=some c->c≠b
 bs:∀ b o,X.base.get? b=some o->X.s₀.heap.get? b=some o/\X.H₀ b=none
 bsz:X.base.objs.size<=X.s₀.heap.objs.size
 noex:∀ b o,X.base.get? b=some o->b∉X.ex
 exfs:∀ b∈X.ex,b∉X.fs
 funs:X.s₀.heap.FunFrames X.base X.outer
 frf:∀ b∈X.fs,X.H₀ b=none
structure Inv (X:Cx) (pins:List (Addr×Obj)) (σ:List (Option V)) (H:Hp) (s:Shared):Prop where
 ok:X.Ok
 os:s.os=X.s₀.os
 bare:AllBare s.gens
 base:Un X.fs X.ex X.H₀ H X.s₀.heap s.heap
 loc:∃ m,s.heap.Ns X.env.locals m/\∀ (i:Nat) (x:Str) (v:V),X.N[i]?=some x->σ[i]?=some (some v)->Vis X.env.scope x->∃ u,RelV v u/\Look X.env s.heap m x u
 cell:∀ x c,X.env.cells.lookup x=some c->∃ v,s.heap.IsCell c v
 free:H X.env.locals=none
 freeC:∀ x c,X.env.cells.lookup x=some c->H c=none
 pin:∀ p∈X.pn++pins,s.heap.get? p.1=some p.2/\H p.1=none/\p.1≠X.env.locals/\p.1∉X.fs/\∀ v,p.2.data≠.cell v
 hok:HOk X.prog X.w H s.heap
 len:σ.length=X.N.length
section
variable {X:Cx} {pins:List (Addr×Obj)} {σ:List (Option V)} {H H':Hp} {s:Shared} {h':Heap}
def Cx.Ok.nofr (ok:X.Ok) {b:Addr} {o:Obj} (e:X.base.get? b=some o):b∉X.fs:=fun hb=>by
 have:=(ok.funs.mem hb).1
 rw [e] at this;cases this
def Inv.bs (I:Inv X pins σ H s):∀ b o,X.base.get? b=some o->s.heap.get? b=some o/\H b=none:=fun b o e =>
 ⟨I.base.keep b o (I.ok.bs b o e).1 (I.ok.bs b o e).2 (I.ok.nofr e) (I.ok.noex b o e),I.base.free b o (I.ok.bs b o e).1 (I.ok.bs b o e).2 (I.ok.noex b o e)⟩
def Inv.bk (I:Inv X pins σ H s):∀ b o,X.base.get? b=some o->s.heap.get? b=some o:=fun b o e=>(I.bs b o e).1
def Inv.mod (I:Inv X pins σ H s):Mod X.K X.mg X.base:=I.ok.mod
def Inv.kIn (I:Inv X pins σ H s):X.K.In s.heap:=I.ok.mod.kin.keeps I.bk
def Inv.fr (I:Inv X pins σ H s):∃ m,Fr X.base X.env.locals s.heap m:=
 let ⟨m,hn,_⟩:=I.loc
 ⟨m,hn,I.bk,Nat.le_trans I.ok.bsz I.ok.above⟩
def Inv.lt (I:Inv X pins σ H s):X.env.locals<s.heap.objs.size:=let ⟨_,hn,_⟩:=I.loc;hn.lt
def Inv.sz (I:Inv X pins σ H s):X.s₀.heap.objs.size<=s.heap.objs.size:=Nat.le_trans I.ok.above (Nat.le_of_lt I.lt)
def Inv.nofs (I:Inv X pins σ H s) {a:Addr} (h:s.heap.objs.size<=a):a∉X.fs:=fun hb=>by
 obtain ⟨_,o,ho,_⟩:=I.ok.funs.mem hb
 exact absurd (Nat.lt_of_lt_of_le (Heap.lt_size ho) (Nat.le_trans I.sz h)) (Nat.lt_irrefl _)
def Inv.cne (I:Inv X pins σ H s):∀ x c,X.env.cells.lookup x=some c->c≠X.env.locals:=fun x c e z=>by
 obtain ⟨v,o,ho,hd⟩:=I.cell x c e
 obtain ⟨m,⟨o',es,ep,ho',hd',_⟩,_⟩:=I.loc
 rw [z,ho'] at ho;cases ho;rw [hd'] at hd;cases hd
def Inv.funs (I:Inv X pins σ H s):s.heap.FunFrames X.base X.outer:=by
 have all:∀ (l:List Env),(∀ b∈frs l,b∈X.fs)->X.s₀.heap.FunFrames X.base l->s.heap.FunFrames X.base l:=by
  intro l
  induction l with
  | nil=>intro _ _;trivial
  | cons env r ih =>
   intro hs hl
   obtain ⟨hk,⟨L,o,hf,hn,ho,hd⟩,hr⟩:=hl
   have hL:L∈X.fs:=hs L (by unfold frs;rw [List.filterMap_cons,hf];exact List.mem_cons_self)
   obtain ⟨sl,e⟩:=I.base.slot L o ho (I.ok.frf L hL) hL fun z=>I.ok.exfs L z hL
   exact ⟨hk,⟨L,_,hf,hn,e,hd⟩,ih (fun b hb=>hs b (by unfold frs;rw [List.filterMap_cons,hf];exact List.mem_cons_of_mem _ hb)) hr⟩
 exact all X.outer (fun _ hb=>hb) I.ok.funs
def Inv.stack (I:Inv X pins σ H s):s.heap.FunFrames X.base X.stack:=by
 rcases I.ok.stk with e | ⟨e,hf⟩
 · rw [e];exact I.funs
 · rw [e]
   obtain ⟨m,hn,_⟩:=I.loc
   refine .cons (by rw [I.ok.kind];decide) hf hn ?_ I.funs
   exact Heap.get?_none_of_le (Nat.le_trans I.ok.bsz I.ok.above)
def Inv.stkSub (I:Inv X pins σ H s):∀ b∈frs X.stack,b∈X.env.locals::X.fs:=fun b hb=>by
 rcases I.ok.stk with e | ⟨e,hf⟩
 · rw [e] at hb;exact List.mem_cons_of_mem _ hb
 · rw [e] at hb
   unfold frs at hb
   rw [List.filterMap_cons,hf] at hb
   exact hb
def Inv.stkFree (I:Inv X pins σ H s):∀ b∈frs X.stack,H b=none:=fun b hb=>by
 rcases List.mem_cons.mp (I.stkSub b hb) with e | hb
 · rw [e];exact I.free
 · obtain ⟨_,o,ho,_⟩:=I.ok.funs.mem hb
   exact I.base.free b o ho (I.ok.frf b hb) fun z=>I.ok.exfs b z hb
def Inv.step {g':Array GenState} {t':Nat} {d':Drawn} {ch:List Addr} (I:Inv X pins σ H s)
  (hch:∀ b∈ch,(b∈X.ex∨X.s₀.heap.objs.size<=b)/\b≠X.env.locals/\(∀ x c,X.env.cells.lookup x=some c->c≠b)/\∀ p∈X.pn++pins,p.1≠b)
  (keep:∀ b o,b≠X.env.locals->b∉X.fs->b∉ch->s.heap.get? b=some o->H b=none->h'.get? b=some o)
  (slot:∀ b o,b≠X.env.locals->b∈X.fs->b∉ch->s.heap.get? b=some o->H b=none->∃ sl,h'.get? b=some {o with slots:=sl}) (free:∀ b o,b∉ch->s.heap.get? b=some o->H b=none->H' b=none)
  (there:∀ b o,b∉ch->s.heap.get? b=some o->∃ o',h'.get? b=some o')
  (tups:∀ b xs,H b=some (.tup xs)->H' b=some (.tup xs)) (frzs:∀ b o u,H b=some (.frz o u)->H' b=some (.frz o u)) (tbls:∀ b ps,H b=some (.tbl ps)->∃ more,H' b=some (.tbl (ps++more)))
  (ns:∀ m,s.heap.Ns X.env.locals m->h'.Ns X.env.locals m) (hok:HOk X.prog X.w H' h') (hg:AllBare g') :
  Inv X pins σ H' {s with heap:=h',gens:=g',drawn:=d',toks:=t'}:=by
 have neL:∀ b o,X.s₀.heap.get? b=some o->b≠X.env.locals:=fun b o e=>Nat.ne_of_lt (Nat.lt_of_lt_of_le (Heap.lt_size e) I.ok.above)
 have neC:∀ b o,X.s₀.heap.get? b=some o->b∉X.ex->b∉ch:=fun b o e hx hb=>by
  rcases (hch b hb).1 with z | z
  · exact hx z
  · exact absurd (Nat.lt_of_lt_of_le (Heap.lt_size e) z) (Nat.lt_irrefl _)
 have cellK:∀ x c,X.env.cells.lookup x=some c->∀ v,s.heap.IsCell c v->h'.IsCell c v:=fun x c e v ⟨o,ho,hd⟩=>by
  have nch:c∉ch:=fun z=>(hch c z).2.2.1 x c e rfl
  by_cases hc:c∈X.fs
  · obtain ⟨sl,q⟩:=slot c o (I.cne x c e) hc nch ho (I.freeC x c e)
    exact ⟨_,q,hd⟩
  · exact ⟨o,keep c o (I.cne x c e) hc nch ho (I.freeC x c e),hd⟩
 refine ⟨I.ok,I.os,hg,⟨fun b o e n hb hx=>?_,fun b o e n hb hx=>?_,fun b o e n hx=>?_,fun b o e hx=>?_,fun b xs e=>tups b xs (I.base.tups b xs e),fun b o xs e=>frzs b o xs (I.base.frzs b o xs e),fun b ps e=>?_⟩,?_,fun x c e=>?_,?_,fun x c e=>?_,fun p hp=>?_,hok,I.len⟩
 · exact keep b o (neL b o e) hb (neC b o e hx) (I.base.keep b o e n hb hx) (I.base.free b o e n hx)
 · obtain ⟨sl,e1⟩:=I.base.slot b o e n hb hx
   obtain ⟨sl',e2⟩:=slot b _ (neL b o e) hb (neC b o e hx) e1 (I.base.free b o e n hx)
   exact ⟨sl',e2⟩
 · obtain ⟨o',e1⟩:=I.base.there b o e hx
   exact free b o' (neC b o e hx) e1 (I.base.free b o e n hx)
 · obtain ⟨o',e1⟩:=I.base.there b o e hx
   exact there b o' (neC b o e hx) e1
 · obtain ⟨m1,e1⟩:=I.base.tbls b ps e
   obtain ⟨m2,e2⟩:=tbls b _ e1
   exact ⟨m1++m2,by rw [e2,Array.append_assoc]⟩
 · obtain ⟨m,hn,hl⟩:=I.loc
   refine ⟨m,ns m hn,fun i x v e1 e2 e3=>?_⟩
   obtain ⟨u,r,l⟩:=hl i x v e1 e2 e3
   refine ⟨u,r,?_⟩
   rcases l with l | ⟨k,c,e,z⟩
   · exact .inl l
   · exact .inr ⟨k,c,e,cellK x c e _ z⟩
 · obtain ⟨v,z⟩:=I.cell x c e
   exact ⟨v,cellK x c e v z⟩
 · obtain ⟨m,⟨o,_,_,ho,_⟩,_⟩:=I.loc
   exact free _ o (fun z=>(hch _ z).2.1 rfl) ho I.free
 · obtain ⟨v,o,ho,hd⟩:=I.cell x c e
   exact free c o (fun z=>(hch c z).2.2.1 x c e rfl) ho (I.freeC x c e)
 · obtain ⟨e,n,ne,nf,d⟩:=I.pin p hp
   have nch:p.1∉ch:=fun z=>(hch p.1 z).2.2.2 p hp rfl
   exact ⟨keep p.1 p.2 ne nf nch e n,free p.1 p.2 nch e n,ne,nf,d⟩
def Inv.un {t':Nat} (I:Inv X pins σ H s) (u:Un X.fs [] H H' s.heap h') (hok:HOk X.prog X.w H' h'):Inv X pins σ H' {s with heap:=h',toks:=t'}:=by
 obtain ⟨m,⟨o,es,ep,ho,r⟩,_⟩:=id I.loc
 obtain ⟨sl,hL⟩:=u.any ho I.free (by simp)
 exact I.step (g':=s.gens) (d':=s.drawn) (ch:=[]) (fun _ z=>nomatch z) (fun b o _ hb _ e n=>u.keep b o e n hb (by simp)) (fun b o _ hb _ e n=>u.slot b o e n hb (by simp)) (fun b o _ e n=>u.free b o e n (by simp)) (fun b o _ e=>u.there b o e (by simp)) u.tups u.frzs u.tbls (fun m' hm=>by
  obtain ⟨o',es',ep',ho',r'⟩:=hm
  rw [ho] at ho';cases ho'
  exact ⟨_,es',ep',hL,r'⟩) hok I.bare
def Inv.call {g':Array GenState} {t':Nat} {d':Drawn} {ch:List Addr} (I:Inv X pins σ H s) (u:Un (frs X.stack) ch H H' s.heap h') (hok:HOk X.prog X.w H' h') (hg:AllBare g')
  (hch:∀ b∈ch,(b∈X.ex∨X.s₀.heap.objs.size<=b)/\b≠X.env.locals/\(∀ x c,X.env.cells.lookup x=some c->c≠b)/\∀ p∈X.pn++pins,p.1≠b) :
  Inv X pins σ H' {s with heap:=h',gens:=g',drawn:=d',toks:=t'}:=by
 obtain ⟨m,⟨o,es,ep,ho,r⟩,_⟩:=id I.loc
 obtain ⟨sl,hL⟩:=u.any ho I.free fun z=>(hch _ z).2.1 rfl
 exact I.step (ch:=ch) hch (fun b o hL hb hc e n=>u.keep b o e n (fun z=>(List.mem_cons.mp (I.stkSub b z)).elim hL hb) hc) (fun b o _ _ hc e n=>u.any e n hc) (fun b o hc e n=>u.free b o e n hc) (fun b o hc e=>u.there b o e hc) u.tups u.frzs u.tbls (fun m' hm=>by
  obtain ⟨o',es',ep',ho',r'⟩:=hm
  rw [ho] at ho';cases ho'
  exact ⟨_,es',ep',hL,r'⟩) hok hg
def Inv.turned {t':Nat} {it:Addr} (I:Inv X pins σ H s) (k:∀ b o,b≠it->s.heap.get? b=some o->h'.get? b=some o) (hn:H it=none) (hL:it≠X.env.locals)
  (h1:it∈X.ex∨X.s₀.heap.objs.size<=it) (h2:∀ x c,X.env.cells.lookup x=some c->c≠it) (h3:∀ p∈X.pn++pins,p.1≠it):Inv X pins σ H {s with heap:=h',toks:=t'}:=by
 have nit:∀ b u,H b=some u->b≠it:=fun b u e z=>by rw [z,hn] at e;cases e
 refine I.step (g':=s.gens) (d':=s.drawn) (ch:=[it]) (fun b hb=>?_) (fun b o _ _ hc e _=>k b o (fun z=>hc (by simp [z])) e) (fun b o _ _ hc e _=>⟨o.slots,k b o (fun z=>hc (by simp [z])) e⟩) (fun _ _ _ _ n=>n)
  (fun b o hc e=>⟨o,k b o (fun z=>hc (by simp [z])) e⟩) (fun _ _ e=>e) (fun _ _ _ e=>e) (fun b ps e=>⟨#[],by rw [e];simp⟩) (fun m hm=>?_) (fun b u e=>?_) I.bare
 · have e:b=it:=by simpa using hb
   subst e
   exact ⟨h1,hL,h2,h3⟩
 · obtain ⟨o,es,ep,ho,r⟩:=hm
   exact ⟨o,es,ep,k _ o (Ne.symm hL) ho,r⟩
 · refine (I.hok b u e).stay (fun c v hc q=>k c v ?_ q) (fun _ q=>q) fun _ _ q=>q
   rcases hc with z | z
   · rw [z];exact nit b u e
   · exact nit c _ z
def Inv.tok (I:Inv X pins σ H s) (t:Nat):Inv X pins σ H {s with toks:=t}:=I.un (h':=s.heap) (t':=t) Un.refl I.hok
def Inv.kept {t':Nat} (I:Inv X pins σ H s) (k:∀ b u,s.heap.get? b=some u->h'.get? b=some u):Inv X pins σ H {s with heap:=h',toks:=t'}:=I.un (Un.kept k) (I.hok.kept k)
def Inv.laid {a:Addr} {o:HO} {t':Nat} (I:Inv X pins σ H s) (k:∀ b u,s.heap.get? b=some u->h'.get? b=some u) (hp:s.heap.objs.size<=a) (new:ObjOk X.prog X.w (upd H a o) h' a o) :
  Inv X pins σ (upd H a o) {s with heap:=h',toks:=t'}:=I.un (Un.laid k hp (I.hok.fresh hp)) (I.hok.laid k hp new)
def Inv.write {x e:Addr} {o:HO} {t':Nat} (I:Inv X pins σ H s) (mu:Mut (H x)) (he:e=x∨H e=some (.own x)) (k:∀ b u,b≠e->s.heap.get? b=some u->h'.get? b=some u) (heo:∃ u,h'.get? e=some u)
  (new:ObjOk X.prog X.w (upd H x o) h' x o):Inv X pins σ (upd H x o) {s with heap:=h',toks:=t'}:=I.un (Un.write mu he k heo) (I.hok.write mu he k heo new)
def Inv.weak {σ':List (Option V)} (I:Inv X pins σ H s) (hl:σ'.length=σ.length) (w:∀ (i:Nat) v,σ'[i]?=some (some v)->σ[i]?=some (some v)):Inv X pins σ' H s:=
 ⟨I.ok,I.os,I.bare,I.base,let ⟨m,hn,hl'⟩:=I.loc;⟨m,hn,fun i x v e1 e2 e3=>hl' i x v e1 (w i v e2) e3⟩,I.cell,I.free,I.freeC,I.pin,I.hok,hl.trans I.len⟩
def Inv.pins_of {pins':List (Addr×Obj)} (I:Inv X pins σ H s) (h:∀ p∈pins',s.heap.get? p.1=some p.2/\H p.1=none/\p.1≠X.env.locals/\p.1∉X.fs/\∀ v,p.2.data≠.cell v):Inv X pins' σ H s:=
 ⟨I.ok,I.os,I.bare,I.base,I.loc,I.cell,I.free,I.freeC,fun p hp=>(List.mem_append.mp hp).elim (fun z=>I.pin p (List.mem_append_left _ z)) (h p),I.hok,I.len⟩
def ny {N:List Str} (hN:N.Nodup) {i j:Nat} {x:Str} (a:N[i]?=some x) (b:N[j]?=some x):i=j:=by
 obtain ⟨h1,e1⟩:=gX a
 obtain ⟨h2,e2⟩:=gX b
 exact (List.getElem_inj hN).mp (e1.trans e2.symm)
def lz {M:Model} {A:Around} {E:Value->Shared->Prop} {i:Nat} {x:Str} {v:V} {u:Value} {Q:Unit->Shared->Prop} (I:Inv X pins σ H s) (hN:X.N.Nodup) (hi:X.N[i]?=some x) (hx:Loc X.env.scope x) (r:RelV v u)
  (h:∀ s',Inv X pins (σ.set i (some v)) H s'->(∃ a,Heap.SameBut a s.heap s'.heap/\(a=X.env.locals∨X.env.cells.lookup x=some a))->Q () s') (hf:X.fn x=true∨X.env.scope.names.lookup x=some .local:=by first | exact .inl rfl | exact .inr rfl | assumption):wpAny M A (storeName X.env x u) Q E s:=by
 obtain ⟨m,hn,hl⟩:=id I.loc
 have hcls:(X.env.scope.kind==.class||(X.env.scope.kind==.module&&X.env.locals != X.env.globals))=false:=by rw [I.ok.kind];rfl
 have hiσ:i<σ.length:=by rw [I.len];exact (gX hi).1
 have cne:=I.cne
 have tracked:∀ {a:Addr} {h':Heap},(∃ o,s.heap.get? a=some o/\H a=none)->Heap.SameBut a s.heap h'->HOk X.prog X.w H h':=fun {a h'} ha hs b ob e=>by
  obtain ⟨_,_,hfree⟩:=ha
  refine (I.hok b ob e).stay (fun c w' hc q=>(hs.2 c ?_).trans q) (fun _ q=>q) fun _ _ q=>q
  rintro rfl
  rcases hc with rfl | hc
  · rw [hfree] at e;cases e
  · rw [hfree] at hc;cases hc
 rcases hx with hk | hk
 · refine wpAny_storeName_local hk hn (fun h' hn' hs=>?_) hcls
   obtain ⟨oL,_,_,hoL,_⟩:=id hn
   refine h _ ⟨I.ok,I.os,I.bare,⟨fun b o e n hb hx=>?_,fun b o e n hb hx=>?_,I.base.free,fun b o e hx=>?_,I.base.tups,I.base.frzs,I.base.tbls⟩,⟨_,hn',fun j y v' e1 e2 e3=>?_⟩,fun y c e=>?_,I.free,I.freeC,fun p hp=>?_,tracked ⟨oL,hoL,I.free⟩ hs,by simpa using I.len⟩ ⟨_,hs,.inl rfl⟩
   · exact (hs.2 b (Nat.ne_of_lt (Nat.lt_of_lt_of_le (Heap.lt_size e) I.ok.above))).trans (I.base.keep b o e n hb hx)
   · obtain ⟨sl,e1⟩:=I.base.slot b o e n hb hx
     exact ⟨sl,(hs.2 b (Nat.ne_of_lt (Nat.lt_of_lt_of_le (Heap.lt_size e) I.ok.above))).trans e1⟩
   · obtain ⟨o',e1⟩:=I.base.there b o e hx
     exact ⟨o',(hs.2 b (Nat.ne_of_lt (Nat.lt_of_lt_of_le (Heap.lt_size e) I.ok.above))).trans e1⟩
   · by_cases hj:j=i
     · subst hj
       rw [hi] at e1;cases e1
       rw [List.getElem?_set_self hiσ] at e2
       cases e2
       exact ⟨u,r,.inl ⟨hk,by simp⟩⟩
     · rw [gN (Ne.symm hj)] at e2
       obtain ⟨u',r',q⟩:=hl j y v' e1 e2 e3
       refine ⟨u',r',?_⟩
       rcases q with ⟨k,e⟩ | ⟨k,c,e,z⟩
       · refine .inl ⟨k,?_⟩
         have:y≠x:=fun e=>hj (ny hN e1 (e▸hi))
         simp [this,e]
       · exact .inr ⟨k,c,e,z.sameBut hs (cne y c e)⟩
   · obtain ⟨w',z⟩:=I.cell y c e
     exact ⟨w',z.sameBut hs (cne y c e)⟩
   · obtain ⟨e,n,ne,nf,d⟩:=I.pin p hp
     exact ⟨(hs.2 p.1 ne).trans e,n,ne,nf,d⟩
 · have hfn:X.fn x=true:=by
    rcases hf with z | z
    · exact z
    · rw [z] at hk;cases hk
   obtain ⟨c,hc⟩:=I.ok.has x (.inl hk)
   obtain ⟨w',z⟩:=I.cell x c hc
   refine wpAny_storeName_cell I.ok.kind hk hc z (fun h' hc' hs=>?_)
   obtain ⟨oc,hoc,hocd⟩:=id z
   refine h {s with heap:=h'} ⟨I.ok,I.os,I.bare,⟨fun b o e n hb hx=>?_,fun b o e n hb hx=>?_,I.base.free,fun b o e hx=>?_,I.base.tups,I.base.frzs,I.base.tbls⟩,⟨m,hn.sameBut hs (Ne.symm (cne x c hc)),fun j y v' e1 e2 e3=>?_⟩,fun y c' e=>?_,I.free,I.freeC,fun p hp=>?_,tracked ⟨oc,hoc,I.freeC x c hc⟩ hs,by simpa using I.len⟩ ⟨c,hs,.inr hc⟩
   · exact (hs.2 b (Nat.ne_of_lt (Nat.lt_of_lt_of_le (Heap.lt_size e) (I.ok.cab x c hfn hc)))).trans (I.base.keep b o e n hb hx)
   · obtain ⟨sl,e1⟩:=I.base.slot b o e n hb hx
     exact ⟨sl,(hs.2 b (Nat.ne_of_lt (Nat.lt_of_lt_of_le (Heap.lt_size e) (I.ok.cab x c hfn hc)))).trans e1⟩
   · obtain ⟨o',e1⟩:=I.base.there b o e hx
     exact ⟨o',(hs.2 b (Nat.ne_of_lt (Nat.lt_of_lt_of_le (Heap.lt_size e) (I.ok.cab x c hfn hc)))).trans e1⟩
   · by_cases hj:j=i
     · subst hj
       rw [hi] at e1;cases e1
       rw [List.getElem?_set_self hiσ] at e2
       cases e2
       exact ⟨u,r,.inr ⟨.inl hk,c,hc,hc'⟩⟩
     · rw [gN (Ne.symm hj)] at e2
       obtain ⟨u',r',q⟩:=hl j y v' e1 e2 e3
       refine ⟨u',r',?_⟩
       rcases q with q | ⟨k,c',e,z'⟩
       · exact .inl q
       · refine .inr ⟨k,c',e,z'.sameBut hs ?_⟩
         rintro rfl
         exact hj (ny hN e1 (I.ok.inj _ _ _ e hc▸hi))
   · by_cases hcc:c'=c
     · subst hcc;exact ⟨_,hc'⟩
     · obtain ⟨w2,z2⟩:=I.cell y c' e
       exact ⟨w2,z2.sameBut hs hcc⟩
   · obtain ⟨e,n,ne,nf,d⟩:=I.pin p hp
     refine ⟨(hs.2 p.1 ?_).trans e,n,ne,nf,d⟩
     intro q
     rw [q,hoc] at e
     have q':oc=p.2:=Option.some.inj e
     exact d w' (by rw [<- q'];exact hocd)
def nz {M:Model} {A:Around} {E:Value->Shared->Prop} {i:Nat} {x:Str} {v:V} {u:Value} {Q:Unit->Shared->Prop} (I:Inv X pins σ H s) (hN:X.N.Nodup) (hi:X.N[i]?=some x) (hx:Loc X.env.scope x) (r:RelV v u)
  (h:∀ s',Inv X pins (σ.set i (some v)) H s'->Q () s') (hf:X.fn x=true∨X.env.scope.names.lookup x=some .local:=by first | exact .inl rfl | exact .inr rfl | assumption):wpAny M A (storeName X.env x u) Q E s:=
 lz I hN hi hx r (fun s' I' _=>h s' I') hf
def Inv.call' {s':Shared} {ch:List Addr} (I:Inv X pins σ H s) (ho:s'.os=s.os) (u:Un (frs X.stack) ch H H' s.heap s'.heap) (hok:HOk X.prog X.w H' s'.heap) (hg:AllBare s'.gens)
  (hch:∀ b∈ch,(b∈X.ex∨X.s₀.heap.objs.size<=b)/\b≠X.env.locals/\(∀ x c,X.env.cells.lookup x=some c->c≠b)/\∀ p∈X.pn++pins,p.1≠b):Inv X pins σ H' s':=by
 obtain ⟨h',g',d',t',o'⟩:=s'
 have e:o'=s.os:=ho
 subst e
 exact I.call (g':=g') (t':=t') (d':=d') u hok hg hch
end
abbrev XK:=Value->Option Addr->Hp->Prop
abbrev St:=List (Option V)
abbrev VK:=V->Hp->Prop
abbrev TE:=St->Hp->VK->Prop
abbrev TT:=St->Hp->(Bool->Hp->Prop)->Prop
abbrev TA:=St->Hp->(List V->Hp->Prop)->Prop
structure Ends where
 nx:St->Hp->Prop
 rt:VK
 bk:St->Hp->Prop:=fun _ _=>False
 ct:St->Hp->Prop:=fun _ _=>False
abbrev TS:=Ends->St->Hp->Prop
def EP (X:Cx) (pins:List (Addr×Obj)) (σ:St) (Q:VK) (u:Value) (s':Shared):Prop:=∃ v H',Inv X pins σ H' s'/\RelV v u/\Q v H'
def TP (X:Cx) (pins:List (Addr×Obj)) (σ:St) (Q:Bool->Hp->Prop) (b:Bool) (s':Shared):Prop:=∃ H',Inv X pins σ H' s'/\Q b H'
def AP (X:Cx) (pins:List (Addr×Obj)) (σ:St) (Q:List V->Hp->Prop) (us:List Value) (s':Shared):Prop:=∃ vs H',Inv X pins σ H' s'/\Vals vs us/\Q vs H'
noncomputable def SP (X:Cx) (pins:List (Addr×Obj)) (D:Ends) (f:Flow) (s':Shared):Prop:=
 match f with
 | .next=>∃ σ' H',Inv X pins σ' H' s'/\D.nx σ' H'
 | .brk=>∃ σ' H',Inv X pins σ' H' s'/\D.bk σ' H'
 | .cont=>∃ σ' H',Inv X pins σ' H' s'/\D.ct σ' H'
 | .ret u=>∃ v σ' H',Inv X pins σ' H' s'/\RelV v u/\D.rt v H'
def PE (X:Cx) (e:Expr) (t:TE):Prop:=
 ∀ (pins:List (Addr×Obj)) (s:Shared) (σ:St) (H:Hp) (Q:VK),Inv X pins σ H s->t σ H Q->wpAny (model X.prog X.w) X.A (eval e X.env) (EP X pins σ Q) X.xe s
noncomputable def PT (X:Cx) (e:Expr) (t:TT):Prop:=
 ∀ (pins:List (Addr×Obj)) (s:Shared) (σ:St) (H:Hp) (Q:Bool->Hp->Prop),Inv X pins σ H s->t σ H Q->wpAny (model X.prog X.w) X.A (isTrue e X.env (eval e X.env)) (TP X pins σ Q) X.xe s
noncomputable def PW (X:Cx) (e:Expr) (t:TT):Prop:=
 ∀ (whole:Sem Value) (pins:List (Addr×Obj)) (s:Shared) (σ:St) (H:Hp) (Q:Bool->Hp->Prop),Inv X pins σ H s->t σ H Q->wpAny (model X.prog X.w) X.A (isTrue e X.env whole) (TP X pins σ Q) X.xe s
def PW.pt {X:Cx} {e:Expr} {t:TT} (h:PW X e t):PT X e t:=h _
noncomputable def PA (X:Cx) (es:List Expr) (t:TA):Prop:=
 ∀ (pos:Pos) (pins:List (Addr×Obj)) (s:Shared) (σ:St) (H:Hp) (Q:List V->Hp->Prop),Inv X pins σ H s->t σ H Q->wpAny (model X.prog X.w) X.A (spliced (backTo pos (starEach es X.env))) (AP X pins σ Q) X.xe s
def PS (X:Cx) (st:Stmt) (t:TS):Prop:=
 ∀ (pins:List (Addr×Obj)) (s:Shared) (σ:St) (H:Hp) (D:Ends),Inv X pins σ H s->t D σ H->wpAny (model X.prog X.w) X.A (exec st X.env) (SP X pins D) X.xe s
def PSs (X:Cx) (st:List Stmt) (t:TS):Prop:=
 ∀ (pins:List (Addr×Obj)) (s:Shared) (σ:St) (H:Hp) (D:Ends),Inv X pins σ H s->t D σ H->wpAny (model X.prog X.w) X.A (execs st X.env) (SP X pins D) X.xe s
def thn {α:Type} {t:Sem α} {Q Q':α->Shared->Prop} {M:Model} {A:Around} {E:Value->Shared->Prop} {s:Shared} (h:wpAny M A t Q E s) (hQ:∀ a s,Q a s->Q' a s):wpAny M A t Q' E s:=wpAny_mono h hQ fun _ _ x=>x
section
variable {X:Cx}
def bin {a b:Expr} {ta tb:TE} (ha:PE X a ta) (hb:PE X b tb) {pins:List (Addr×Obj)} {s:Shared} {σ:St} {H:Hp} {R:V->V->Hp->Prop} (I:Inv X pins σ H s) (h:ta σ H fun x H1=>tb σ H1 fun y H2=>R x y H2)
  {α:Type} {Q:α->Shared->Prop} {f:Value->Value->Sem α}
  (hf:∀ v u s2 x y H2,Inv X pins σ H2 s2->RelV x v->RelV y u->R x y H2->wpAny (model X.prog X.w) X.A (f v u) Q X.xe s2) :
  wpAny (model X.prog X.w) X.A (eval a X.env) (fun v s₁=>wpAny (model X.prog X.w) X.A (eval b X.env) (fun u s₂=>wpAny (model X.prog X.w) X.A (f v u) Q X.xe s₂) X.xe s₁) X.xe s:=by
 refine thn (ha pins s σ H _ I h) fun v s1 ⟨x,H1,I1,r1,q1⟩=>?_
 refine thn (hb pins s1 σ H1 _ I1 q1) fun u s2 ⟨y,H2,I2,r2,q2⟩=>?_
 exact hf v u s2 x y H2 I2 r1 r2 q2
def oO (i:Nat):TE:=fun σ H Q=>∃ v,σ[i]?=some (some v)/\Q v H
def tC (v:V):TE:=fun _ H Q=>Q v H
def xN {i:Nat} {x:Str} {pos:Pos} (hN:X.N[i]?=some x) (hv:Vis X.env.scope x) (hd:(x==("__debug__":Str))=false:=by decide) (hcd:(x==("__classdict__":Str))=false:=by decide):PE X (.Name x pos) (oO i):=by
 intro pins s σ H Q I h
 obtain ⟨v,e,h⟩:=h
 obtain ⟨m,hn,hl⟩:=I.loc
 obtain ⟨u,r,l⟩:=hl i x v hN e hv
 have fin:EP X pins σ Q u s:=⟨v,H,I,r,h⟩
 rcases l with ⟨hk,hm⟩ | ⟨hk,c,hc,hcell⟩
 · exact wpAny_Name (wpAny_loadName_local I.ok.kind hk hn hm fin) hd
 · rcases hk with hk | hk
   · exact wpAny_Name (wpAny_loadName_cell I.ok.kind hk hc hcell fin) hd
   · exact wpAny_Name (wpAny_loadName_free I.ok.kind hk hc hcell fin hcd) hd
def xO {i j pos}:PE X (.Constant (.int i) j pos) (tC (.int i)):=fun _ _ _ H _ I h=>wpAny_Constant_int ⟨.int i,H,I.tok _,⟨_,rfl⟩,h⟩
def zT {b j pos}:PE X (.Constant (.bool b) j pos) (tC (.bl b)):=fun _ _ _ H _ I h=>Constant_bool ⟨.bl b,H,I,rfl,h⟩
def xP {j pos}:PE X (.Constant .none j pos) (tC .non):=fun _ _ _ H _ I h=>Constant_none ⟨.non,H,I,rfl,h⟩
def xQ {x j pos}:PE X (.Constant (.str x) j pos) (tC (.str x)):=fun _ _ _ H _ I h=>Calls.Constant_str ⟨.str x,H,I.tok _,⟨_,rfl⟩,h⟩
def Gl (X:Cx) (x:Str):Prop:=X.env.kindOf x=some .globalImplicit
def ms {E:Value->Shared->Prop} {pins:List (Addr×Obj)} {s:Shared} {σ:St} {H:Hp} {x:Str} {u:Value} {pos:Pos} {Q:Value->Shared->Prop} (I:Inv X pins σ H s) (hg:Gl X x) (hm:X.mg x=some u) (h:Q u s)
  (hd:(x==("__debug__":Str))=false:=by decide):wpAny (model X.prog X.w) X.A (eval (.Name x pos) X.env) Q E s:=
 Calls.Name_function_global I.ok.kind hg (Calls.loadGlobal_global (by rw [I.ok.glob];exact I.mod.glob.keeps I.bk) hm h) hd
def kb {E:Value->Shared->Prop} {pins:List (Addr×Obj)} {s:Shared} {σ:St} {H:Hp} {x:Str} {u:Value} {pos:Pos} {Q:Value->Shared->Prop} (I:Inv X pins σ H s) (hg:Gl X x) (hm:X.mg x=none) (hv:bootBuiltins x=some u) (h:Q u s)
  (hn:x≠"__name__":=by decide) (hd:(x==("__debug__":Str))=false:=by decide):wpAny (model X.prog X.w) X.A (eval (.Name x pos) X.env) Q E s:=by
 obtain ⟨mb,h1,h2⟩:=I.mod.blt
 exact Calls.Name_function_global I.ok.kind hg (Calls.loadGlobal_builtin (by rw [I.ok.glob];exact I.mod.glob.keeps I.bk) hm (by rw [I.ok.blt];exact h1.keeps I.bk) ((h2 x hn).trans hv) h) hd
def uZ {x:Str} {v:V} {u:Value} {pos:Pos} (hg:Gl X x) (hm:X.mg x=some u) (r:RelV v u) (hd:(x==("__debug__":Str))=false:=by decide):PE X (.Name x pos) (tC v):=
 fun _ _ _ H _ I h=>ms I hg hm ⟨v,H,I,r,h⟩ hd
def u1 {x:Str} {v:V} {u:Value} {pos:Pos} (hg:Gl X x) (hm:X.mg x=none) (hv:bootBuiltins x=some u) (r:RelV v u) (hn:x≠"__name__":=by decide) (hd:(x==("__debug__":Str))=false:=by decide):PE X (.Name x pos) (tC v):=
 fun _ _ _ H _ I h=>kb I hg hm hv ⟨v,H,I,r,h⟩ hn hd
variable {a b:Expr} {ta tb:TE} {pos:Pos}
variable {tA tB':TT} {rest:List Expr}
def tAnd (t u:TT):TT:=fun σ H Q=>t σ H fun c H1=>if c=true then u σ H1 Q else Q false H1
def tOr (t u:TT):TT:=fun σ H Q=>t σ H fun c H1=>if c=true then Q true H1 else u σ H1 Q
def tNot (t:TT):TT:=fun σ H Q=>t σ H fun c H1=>Q (!c) H1
def pW (ha:PT X a tA):PW X (.BoolOp .And [a] pos) tA:=by
 intro wh pins s σ H Q I h
 refine isTrue_and (thn (ha pins s σ H Q I h) fun c s1 e=>?_)
 cases c with
 | true=>exact isTrue_and_nil e
 | false=>exact e
def xR (ha:PT X a tA):PW X (.BoolOp .Or [a] pos) tA:=by
 intro wh pins s σ H Q I h
 refine isTrue_or (thn (ha pins s σ H Q I h) fun c s1 e=>?_)
 cases c with
 | false=>exact isTrue_or_nil e
 | true=>exact e
def sB (ha:PT X a tA) (hb:PW X (.BoolOp .And (b::rest) pos) tB'):PW X (.BoolOp .And (a::b::rest) pos) (tAnd tA tB'):=by
 intro wh pins s σ H Q I h
 refine isTrue_and (thn (ha pins s σ H _ I h) fun c s1 ⟨H1,I1,q1⟩=>?_)
 cases c with
 | true=>exact hb wh pins s1 σ H1 Q I1 q1
 | false=>exact ⟨H1,I1,q1⟩
def zU (ha:PT X a tA) (hb:PW X (.BoolOp .Or (b::rest) pos) tB'):PW X (.BoolOp .Or (a::b::rest) pos) (tOr tA tB'):=by
 intro wh pins s σ H Q I h
 refine isTrue_or (thn (ha pins s σ H _ I h) fun c s1 ⟨H1,I1,q1⟩=>?_)
 cases c with
 | true=>exact ⟨H1,I1,q1⟩
 | false=>exact hb wh pins s1 σ H1 Q I1 q1
def xS (ha:PT X a tA):PT X (.UnaryOp .Not a pos) (tNot tA):=by
 intro pins s σ H Q I h
 exact isTrue_not (ha pins s σ H (fun c H1=>Q (!c) H1) I h)
def zV (ta tb:TE):TE:=fun σ H Q=>ta σ H fun x H1=>∃ c,x=.bl c/\if c=true then tb σ H1 Q else Q (.bl false) H1
def tOrV (ta tb:TE):TE:=fun σ H Q=>ta σ H fun x H1=>∃ c,x=.bl c/\if c=true then Q (.bl true) H1 else tb σ H1 Q
def zW (ta:TE):TE:=fun σ H Q=>ta σ H fun x H1=>∃ c,x=.bl c/\Q (.bl (!c)) H1
def sC {op} {t:TE} (h:PE X a t):PE X (.BoolOp op [a] pos) t:=fun pins s σ H Q I hw=>BoolOp_one (h pins s σ H Q I hw)
def sD (ha:PE X a ta) (hb:PE X (.BoolOp .And (b::rest) pos) tb):PE X (.BoolOp .And (a::b::rest) pos) (zV ta tb):=by
 intro pins s σ H Q I h
 refine BoolOp_and (thn (ha pins s σ H _ I h) fun v s1 ⟨x,H1,I1,r1,q1⟩=>?_)
 obtain ⟨c,rfl,q1⟩:=q1
 cases r1
 refine wpAny_truthy_bool ?_
 cases c with
 | true=>exact hb pins s1 σ H1 Q I1 q1
 | false=>exact ⟨.bl false,H1,I1,rfl,q1⟩
def zX (ha:PE X a ta) (hb:PE X (.BoolOp .Or (b::rest) pos) tb):PE X (.BoolOp .Or (a::b::rest) pos) (tOrV ta tb):=by
 intro pins s σ H Q I h
 refine BoolOp_or (thn (ha pins s σ H _ I h) fun v s1 ⟨x,H1,I1,r1,q1⟩=>?_)
 obtain ⟨c,rfl,q1⟩:=q1
 cases r1
 refine wpAny_truthy_bool ?_
 cases c with
 | false=>exact hb pins s1 σ H1 Q I1 q1
 | true=>exact ⟨.bl true,H1,I1,rfl,q1⟩
def xT (ha:PE X a ta):PE X (.UnaryOp .Not a pos) (zW ta):=by
 intro pins s σ H Q I h
 refine UnaryOp_ (thn (ha pins s σ H _ I h) fun v s1 ⟨x,H1,I1,r1,q1⟩=>?_)
 obtain ⟨c,rfl,q1⟩:=q1
 cases r1
 exact not_of (wpAny_truthy_bool ⟨.bl (!c),H1,I1,rfl,q1⟩)
def tIf (t:TT) (ta tb:TE):TE:=fun σ H Q=>t σ H fun c H1=>if c=true then ta σ H1 Q else tb σ H1 Q
def nA {c:Expr} (hc:PT X c tA) (ha:PE X a ta) (hb:PE X b tb):PE X (.IfExp c a b pos) (tIf tA ta tb):=by
 intro pins s σ H Q I h
 refine wpAny_IfExp (thn (hc pins s σ H _ I h) fun d s1 ⟨H1,I1,q1⟩=>?_)
 cases d with
 | true=>exact ha pins s1 σ H1 Q I1 q1
 | false=>exact hb pins s1 σ H1 Q I1 q1
end
noncomputable def SqL (K:PySem.W.Frag) (H:Hp) (a:Addr) (xs:List V):Prop:=
 Rd H a (.lst xs)∨
  ∃ (o:Obj) (its:Array Value) (n:Nat),K.lookup a=some o/\o.cls=.type "list"/\o.dict=none/\o.data=.seq its n/\its.size<=sizeLine/\Vals xs its.toList
noncomputable def SqT (K:PySem.W.Frag) (H:Hp) (a:Addr) (xs:List V):Prop:=
 Rd H a (.tup xs)∨
  ∃ (o:Obj) (its:Array Value) (n:Nat),K.lookup a=some o/\o.cls=.type "tuple"/\o.data=.seq its n/\its.size<=sizeLine/\Vals xs its.toList
noncomputable def absV:Value->Option V
 | .none=>some .non
 | .bool b=>some (.bl b)
 | .int i _=>some (.int i)
 | .str x _=>some (.str x)
 | .bytes b _=>some (.byt b)
 | .float b _=>some (.flt b)
 | .ref a=>some (.ref a)
 | .type n=>some (.ty n)
 | _=>none
def RelV.abs {x:V} {u:Value} (r:RelV x u):absV u=some x:=by
 cases x with
 | non=>cases r;rfl
 | bl _=>cases r;rfl
 | int _=>obtain ⟨t,rfl⟩:=r;rfl
 | str _=>obtain ⟨t,rfl⟩:=r;rfl
 | byt _=>obtain ⟨t,rfl⟩:=r;rfl
 | flt _=>obtain ⟨t,rfl⟩:=r;rfl
 | ref _=>cases r;rfl
 | ty _=>cases r;rfl
def RelV.inj {x y:V} {u:Value} (r:RelV x u) (q:RelV y u):x=y:=Option.some.inj (r.abs.symm.trans q.abs)
def Vals.inj:∀ {xs ys:List V} {us:List Value},Vals xs us->Vals ys us->xs=ys
 | _,_,_,.nil,.nil=>rfl
 | _,_,_,.cons r t,.cons r' t'=>by rw [r.inj r',Vals.inj t t']
section
variable {X:Cx} {pins:List (Addr×Obj)} {σ:St} {H:Hp} {s:Shared} {a:Addr} {xs ys:List V}
def SqL.of {K:PySem.W.Frag} (h:H a=some (.lst xs)):SqL K H a xs:=.inl (.inl h)
def SqT.of {K:PySem.W.Frag} (h:H a=some (.tup xs)):SqT K H a xs:=.inl (.inl h)
def Inv.list (I:Inv X pins σ H s) (h:SqL X.K H a xs):∃ its:List Value,Vals xs its/\PlainL s.heap a its.toArray/\xs.length<=sizeLine:=by
 rcases h with h | ⟨o,its,n,hk,hc,hd,hs,hz,r⟩
 · obtain ⟨z,its,n,r,e⟩:=h.ok I.hok
   exact ⟨its,r,⟨_,n,e,rfl,rfl,rfl⟩,z⟩
 · refine ⟨its.toList,r,⟨o,n,I.kIn a o hk,hc,hd,by simpa using hs⟩,?_⟩
   have e:=r.length
   simp only [Array.length_toList] at e
   omega
def Inv.tuple (I:Inv X pins σ H s) (h:SqT X.K H a xs):∃ its:List Value,Vals xs its/\IsTup s.heap a its.toArray/\xs.length<=sizeLine:=by
 rcases h with h | ⟨o,its,n,hk,hc,hs,hz,r⟩
 · obtain ⟨z,its,r,p⟩:=h.ok I.hok
   exact ⟨its,r,p,z⟩
 · refine ⟨its.toList,r,⟨o,I.kIn a o hk,hc,n,by simpa using hs⟩,?_⟩
   have e:=r.length
   simp only [Array.length_toList] at e
   omega
def Inv.list_inj (I:Inv X pins σ H s) (h:SqL X.K H a xs) (h':SqL X.K H a ys):xs=ys:=by
 obtain ⟨its,r,⟨o,n,e,_,_,d⟩,_⟩:=I.list h
 obtain ⟨its',r',⟨o',n',e',_,_,d'⟩,_⟩:=I.list h'
 rw [e] at e';cases e'
 rw [d] at d'
 injection d' with d1 _
 have:its=its':=by simpa using congrArg Array.toList d1
 subst this
 exact r.inj r'
def Inv.tuple_inj (I:Inv X pins σ H s) (h:SqT X.K H a xs) (h':SqT X.K H a ys):xs=ys:=by
 obtain ⟨its,r,⟨o,e,_,n,d⟩,_⟩:=I.tuple h
 obtain ⟨its',r',⟨o',e',_,n',d'⟩,_⟩:=I.tuple h'
 rw [e] at e';cases e'
 rw [d] at d'
 injection d' with d1 _
 have:its=its':=by simpa using congrArg Array.toList d1
 subst this
 exact r.inj r'
end
abbrev Cx.wish (X:Cx) (E:Value->Shared->Prop):Cx:={X with xe:=E}
abbrev Cx.nox (X:Cx):Cx:=X.wish fun _ _=>False
def Cx.Ok.wish {X:Cx} (ok:X.Ok) (E:Value->Shared->Prop):(X.wish E).Ok:=
 ⟨ok.mod,ok.kind,ok.glob,ok.blt,ok.above,ok.inj,ok.has,ok.cab,ok.hd,ok.frames,ok.stk,ok.exf,ok.bs,ok.bsz,ok.noex,ok.exfs,ok.funs,ok.frf⟩
def Cx.Ok.unwish {X:Cx} {E:Value->Shared->Prop} (ok:(X.wish E).Ok):X.Ok:=
 ⟨ok.mod,ok.kind,ok.glob,ok.blt,ok.above,ok.inj,ok.has,ok.cab,ok.hd,ok.frames,ok.stk,ok.exf,ok.bs,ok.bsz,ok.noex,ok.exfs,ok.funs,ok.frf⟩
section
variable {X:Cx} {pins:List (Addr×Obj)} {σ:St} {H:Hp} {s:Shared} {E:Value->Shared->Prop}
def Inv.wish (I:Inv X pins σ H s) (E:Value->Shared->Prop):Inv (X.wish E) pins σ H s:=⟨I.ok.wish E,I.os,I.bare,I.base,I.loc,I.cell,I.free,I.freeC,I.pin,I.hok,I.len⟩
def Inv.unwish (I:Inv (X.wish E) pins σ H s):Inv X pins σ H s:=⟨I.ok.unwish,I.os,I.bare,I.base,I.loc,I.cell,I.free,I.freeC,I.pin,I.hok,I.len⟩
def SP.unwish {D:Ends} {f:Flow} {s':Shared} (h:SP (X.wish E) pins D f s'):SP X pins D f s':=by
 cases f with
 | next=>obtain ⟨σ',H',I,q⟩:=h;exact ⟨σ',H',I.unwish,q⟩
 | brk=>obtain ⟨σ',H',I,q⟩:=h;exact ⟨σ',H',I.unwish,q⟩
 | cont=>obtain ⟨σ',H',I,q⟩:=h;exact ⟨σ',H',I.unwish,q⟩
 | ret u=>obtain ⟨v,σ',H',I,r,q⟩:=h;exact ⟨v,σ',H',I.unwish,r,q⟩
def PSs.nox {st:List Stmt} {t:TS} (h:PSs X.nox st t):PSs X st t:=fun pins s σ H D I hw =>
 wpAny_mono (h pins s σ H D (I.wish _) hw) (fun _ _ q=>q.unwish) fun _ _ z=>False.elim z
end
section
variable {X:Cx} {st:Stmt} {rest:List Stmt} {t u:TS} {e:Expr} {te:TE} {pos:Pos}
def zY:TS:=fun D σ H=>D.nx σ H
def tSeq (t u:TS):TS:=fun D σ H=>t {D with nx:=u D} σ H
def pX:PSs X [] zY:=fun _ _ σ H _ I h=>wpAny_execs_nil ⟨σ,H,I,h⟩
def nB (h1:PS X st t) (h2:PSs X rest u):PSs X (st::rest) (tSeq t u):=by
 intro pins s σ H D I h
 refine wpAny_execs_cons (thn (h1 pins s σ H {D with nx:=u D} I h) fun f s1 q=>?_)
 cases f with
 | next =>
  obtain ⟨σ',H',I',q⟩:=q
  exact h2 pins s1 σ' H' D I' q
 | ret v=>exact q
 | brk=>exact q
 | cont=>exact q
def pY (h1:PS X st t):PSs X [st] t:=by
 intro pins s σ H D I h
 refine wpAny_execs_cons (thn (h1 pins s σ H D I h) fun f s1 q=>?_)
 cases f with
 | next=>exact wpAny_execs_nil q
 | ret v=>exact q
 | brk=>exact q
 | cont=>exact q
def Inv.quiet {pins:List (Addr×Obj)} {σ:St} {H:Hp} {s:Shared} (I:Inv X pins σ H s):interactive X.env=false:=by simp [interactive,I.ok.kind]
def zZ (te:TE):TS:=fun D σ H=>te σ H fun _ H1=>D.nx σ H1
def mt (he:PE X e te) (hs:swapsWith e none pos.line X.env=pure false:=by rfl):PS X (.Expr e pos) (zZ te):=by
 intro pins s σ H D I h
 exact wpAny_Expr_any (thn (he pins s σ H _ I h) fun v s1 ⟨x,H1,I1,r1,q1⟩=>⟨σ,H1,I1,q1⟩) I.quiet hs
def tRet (te:TE):TS:=fun D σ H=>te σ H D.rt
def sE (he:PE X e te):PS X (.Return (some e) pos) (tRet te):=by
 intro pins s σ H D I h
 exact wpAny_Return_some (thn (he pins s σ H _ I h) fun v s1 ⟨x,H1,I1,r1,q1⟩=>⟨x,σ,H1,I1,r1,q1⟩)
def Aa:TS:=fun D _ H=>D.rt .non H
def u2:PS X (.Return none pos) Aa:=fun _ _ σ H _ I h=>wpAny_Return_none ⟨.non,σ,H,I,rfl,h⟩
def tIfS (c:TT) (t u:TS):TS:=fun D σ H=>c σ H fun b H1=>if b=true then t D σ H1 else u D σ H1
def wU {c:Expr} {a b:List Stmt} {tc:TT} (hc:PT X c tc) (ha:PSs X a t) (hb:PSs X b u):PS X (.If c a b pos) (tIfS tc t u):=by
 intro pins s σ H D I h
 refine wpAny_If (thn (hc pins s σ H _ I h) fun d s1 ⟨H1,I1,q1⟩=>?_)
 cases d with
 | true=>exact ha pins s1 σ H1 D I1 q1
 | false=>exact hb pins s1 σ H1 D I1 q1
end
abbrev TG:=V->St->Hp->(St->Hp->Prop)->Prop
abbrev TGs:=List V->St->Hp->(St->Hp->Prop)->Prop
noncomputable def PG (X:Cx) (target:Expr) (t:TG):Prop:=
 ∀ (pins:List (Addr×Obj)) (s:Shared) (σ:St) (H:Hp) (v:V) (u:Value) (Q:St->Hp->Prop),Inv X pins σ H s->RelV v u->t v σ H Q→
  wpAny (model X.prog X.w) X.A (assign target X.env u) (fun _ s'=>∃ σ' H',Inv X pins σ' H' s'/\Q σ' H') X.xe s
noncomputable def PGs (X:Cx) (ts:List Expr) (t:TGs):Prop:=
 ∀ (pins:List (Addr×Obj)) (s:Shared) (σ:St) (H:Hp) (vs:List V) (us:List Value) (Q:St->Hp->Prop),Inv X pins σ H s->Vals vs us->t vs σ H Q→
  wpAny (model X.prog X.w) X.A (assignInOrder ((assignEach ts X.env).map (·.2)) us) (fun _ s'=>∃ σ' H',Inv X pins σ' H' s'/\Q σ' H') X.xe s
abbrev xU:=V->V->V->Hp->(Hp->Prop)->Prop
noncomputable def PSet (X:Cx) (t:xU):Prop:=
 ∀ (pins:List (Addr×Obj)) (s:Shared) (σ:St) (H:Hp) (o i v:V) (ov iv u:Value) (Q:Hp->Prop),Inv X pins σ H s->RelV o ov->RelV i iv->RelV v u->t o i v H Q→
  wpAny (model X.prog X.w) X.A (setItem ov iv u) (fun _ s'=>∃ H',Inv X pins σ H' s'/\Q H') X.xe s
section
variable {X:Cx} {pos:Pos}
def kc (i:Nat):TG:=fun v σ H Q=>Q (σ.set i (some v)) H
def pZ {i:Nat} {x:Str} (hN:X.N.Nodup) (hi:X.N[i]?=some x) (hx:Loc X.env.scope x) (hf:X.fn x=true∨X.env.scope.names.lookup x=some .local:=by first | exact .inl rfl | exact .inr rfl | assumption):PG X (.Name x pos) (kc i):=by
 intro pins s σ H v u Q I r h
 exact wpAny_assign_Name (nz I hN hi hx r (fun s' I'=>⟨_,H,I',h⟩) hf)
def gNil:TGs:=fun vs σ H Q=>vs=[]/\Q σ H
def Ab (t:TG) (u:TGs):TGs:=fun vs σ H Q=>∃ v r,vs=v::r/\t v σ H fun σ' H'=>u r σ' H' Q
def u3:PGs X [] gNil:=by
 intro pins s σ H vs us Q I r h
 obtain ⟨e,h⟩:=h
 subst e
 cases r
 exact assignInOrder_nil ⟨σ,H,I,h⟩
def sF {e:Expr} {es:List Expr} {t:TG} {u:TGs} (h1:PG X e t) (h2:PGs X es u)
  (hs:(assignEach (e::es) X.env).map (·.2)=assign e X.env::(assignEach es X.env).map (·.2):=by rfl):PGs X (e::es) (Ab t u):=by
 intro pins s σ H vs us Q I r h
 obtain ⟨v,vr,e1,h⟩:=h
 subst e1
 cases r with
 | cons r rr =>
  rw [hs]
  refine assignInOrder_cons (thn (h1 pins s σ H _ _ _ I r h) fun _ s1 ⟨σ1,H1,I1,q1⟩=>?_)
  exact h2 pins s1 σ1 H1 _ _ Q I1 rr q1
def gTup (K:PySem.W.Frag) (n:Nat) (t:TGs):TG:=fun v σ H Q=>∃ a xs,v=.ref a/\SqT K H a xs/\xs.length=n/\t xs σ H Q
def xV {es:List Expr} {k:Nat} {t:TGs} {n:Nat} (hc:X.calm=true) (h:PGs X es t)
  (hn:(assignEach es X.env).length=n:=by rfl) (hst:(assignEach es X.env).findIdx? (·.1)=none:=by rfl):PG X (.Tuple es k pos) (gTup X.K n t):=by
 intro pins s σ H v u Q I r hw
 obtain ⟨a,xs,e1,hq,hl,hw⟩:=hw
 subst e1
 cases r
 obtain ⟨its,rv,ht,hz⟩:=I.tuple hq
 refine assign_Tuple_tuple (I.ok.hd hc) ht (by simp [hn,<- hl,rv.length]) hst fun h' hx=>?_
 have I1:Inv X pins σ H {s with heap:=h'}:=I.kept (t':=s.toks) fun b o e=>hx b o (Nat.ne_of_lt (Heap.lt_size e)) e
 exact h pins _ σ H xs _ Q I1 (by simpa using rv) hw
def gSub (to ti:TE) (t:xU):TG:=fun v σ H Q=>to σ H fun o H1=>ti σ H1 fun i H2=>t o i v H2 fun H3=>Q σ H3
def xW {o i:Expr} {to ti:TE} {t:xU} (ho:PE X o to) (hi:PE X i ti) (hs:PSet X t)
  (ha:∀ v,assign (.Subscript o i pos) X.env v=(do
   let ov <- holding [v] (eval o X.env)
   let iv <- holding [v,ov] (eval i X.env)
   standAt pos
   holding [v,ov,iv] (setItem ov iv v)
   release [v,ov,iv] []):=by intro _;rfl):PG X (.Subscript o i pos) (gSub to ti t):=by
 intro pins s σ H v u Q I r h
 rw [ha]
 refine wB (wpAny_holding (thn (ho pins s σ H _ I h) fun ov s1 ⟨x,H1,I1,r1,q1⟩=>?_))
 refine wB (wpAny_holding (thn (hi pins s1 σ H1 _ I1 q1) fun iv s2 ⟨y,H2,I2,r2,q2⟩=>?_))
 refine wB (wpAny_standAt (wB (wpAny_holding (thn (hs pins s2 σ H2 x y v ov iv u _ I2 r1 r2 r q2) fun _ s3 ⟨H3,I3,q3⟩=>?_))))
 exact wpAny_release ⟨σ,H3,I3,q3⟩
def u4 (te:TE) (g:TG):TS:=fun D σ H=>te σ H fun x H1=>g x σ H1 D.nx
def oP {tg e:Expr} {te:TE} {g:TG} (he:PE X e te) (hg:PG X tg g) (hs:swapsWithSole [tg] e pos.line X.env=pure false:=by rfl) (hw:swappedStores [tg] e X.env=pure none:=by rfl)
  (h1:(assignEach [tg] X.env).map (·.2)=[assign tg X.env]:=by rfl):PS X (.Assign [tg] e pos) (u4 te g):=by
 intro pins s σ H D I h
 refine wpAny_Assign_stores (thn (he pins s σ H _ I h) fun v s1 ⟨x,H1,I1,r1,q1⟩=>?_) hs hw
 rw [h1]
 exact thn (hg pins s1 σ H1 x v _ I1 r1 q1) fun _ s2 q=>q
def xX {i:Nat} {x:Str} {e:Expr} {te:TE} {pos':Pos} (hN:X.N.Nodup) (hi:X.N[i]?=some x) (hx:Loc X.env.scope x) (he:PE X e te) (hs:swapsWith e (some (.Name x pos')) pos.line X.env=pure false:=by rfl) (hf:X.fn x=true∨X.env.scope.names.lookup x=some .local:=by first | exact .inl rfl | exact .inr rfl | assumption) :
  PS X (.Assign [.Name x pos'] e pos) (u4 te (kc i)):=by
 intro pins s σ H D I h
 refine wpAny_Assign_Name (thn (he pins s σ H _ I h) fun v s1 ⟨y,H1,I1,r1,q1⟩=>?_) hs
 exact nz I1 hN hi hx r1 (fun s2 I2=>⟨_,H1,I2,q1⟩) hf
end
section
variable {X:Cx} {pos:Pos}
end
structure It where
 go:Nat->Hp->Prop
 yld:Nat->Hp->V->Hp->Prop
 stop:Nat->Hp->Prop
def iG (X:Cx) (pins:List (Addr×Obj)) (H:Hp) (b:Addr):Prop:=
 H b=none/\b≠X.env.locals/\b∉X.fs/\(b∈X.ex∨X.s₀.heap.objs.size<=b)/\(∀ x c,X.env.cells.lookup x=some c->c≠b)/\∀ p∈X.pn++pins,p.1≠b
def Inv.fpOk {X:Cx} {pins:List (Addr×Obj)} {σ:St} {H H':Hp} {s:Shared} {b:Addr} (I:Inv X pins σ H s) (hb:s.heap.objs.size<=b) (hn:H' b=none):iG X pins H' b:=by
 refine ⟨hn,Nat.ne_of_gt (Nat.lt_of_lt_of_le I.lt hb),I.nofs hb,.inr (Nat.le_trans I.sz hb),fun x c e z=>?_,fun p hp z=>?_⟩
 · obtain ⟨v,q⟩:=I.cell x c e
   exact absurd (Nat.lt_of_lt_of_le q.lt (by rw [z];exact hb)) (Nat.lt_irrefl _)
 · exact absurd (Nat.lt_of_lt_of_le (Heap.lt_size (I.pin p hp).1) (by rw [z];exact hb)) (Nat.lt_irrefl _)
structure Turn (P:Program) (w:World) (K:PySem.W.Frag) (tg:Expr) (J:It) (fp:List Addr) (it:Addr) (tn:Nat->Heap->Prop):Prop where
 mem:it∈fp
 obj:∀ i h,tn i h->∀ b∈fp,∃ o,h.get? b=some o/\∀ v,o.data≠.cell v
 keep:∀ i h h',tn i h->(∀ b∈fp,∀ o,h.get? b=some o->h'.get? b=some o)->tn i h'
 item:∀ (X:Cx),X.prog=P->X.w=w->X.K=K->X.calm=true->∀ (i:Nat) (pins:List (Addr×Obj)) (s:Shared) (σ:St) (H:Hp) (E:Value->Shared->Prop),Inv X pins σ H s->(∀ b∈fp,iG X pins H b)->tn i s.heap->J.go i H→
  wpAny (model P w) X.A (pyNext (.ref it)) (fun r s1=>∃ u,r=some u∧
   wpAny (model P w) X.A (letOwnedTupleGo tg (.ref it) u) (fun _ s2=>∃ x H',Inv X pins σ H' s2/\RelV x u/\J.yld i H x H'/\tn (i+1) s2.heap/\∀ b∈fp,H' b=none) E s1) E s
 done:∀ (X:Cx),X.prog=P->X.w=w->X.K=K->X.calm=true->∀ (i:Nat) (pins:List (Addr×Obj)) (s:Shared) (σ:St) (H:Hp) (E:Value->Shared->Prop),Inv X pins σ H s->(∀ b∈fp,iG X pins H b)->tn i s.heap->J.stop i H→
  wpAny (model P w) X.A (pyNext (.ref it)) (fun r s1=>r=none/\Inv X pins σ H s1) E s
 self:∀ (A:Around) (i:Nat) (s:Shared) (Q:Value->Shared->Prop) (E:Value->Shared->Prop),tn i s.heap->Q (.ref it) s->wpAny (model P w) A (pyIter (.ref it)) Q E s
abbrev TI:=St->Hp->(It->Hp->Prop)->Prop
noncomputable def PIE (X:Cx) (pins:List (Addr×Obj)) (σ:St) (tg:Expr) (R:It->Hp->Prop) (itv:Value) (s2:Shared):Prop:=
 ∃ (it:Addr) (fp:List Addr) (tn:Nat->Heap->Prop) (J:It) (H':Hp),itv=.ref it/\Inv X pins σ H' s2/\Turn X.prog X.w X.K tg J fp it tn/\tn 0 s2.heap/\(∀ b∈fp,iG X pins H' b)/\R J H'
noncomputable def PI (X:Cx) (tg iter:Expr) (wi:TI):Prop:=
 ∀ (pins:List (Addr×Obj)) (s:Shared) (σ:St) (H:Hp) (R:It->Hp->Prop),Inv X pins σ H s->wi σ H R→
  wpAny (model X.prog X.w) X.A (eval iter X.env) (fun v s1=>wpAny (model X.prog X.w) X.A (pyIter v) (PIE X pins σ tg R) X.xe s1) X.xe s
def nC {M:Model} {A:Around} {E:Value->Shared->Prop} {s:Shared} {tg:Expr} {it:Addr} {u:Value} {o:Obj} {n:String} {vs:Array Value} {Q:Unit->Shared->Prop} (ho:s.heap.get? it=some o) (hc:o.cls=.type n) (hd:o.data=.fields vs)
  (hn:["enumerate","zip","dict_itemiterator","dict_reverseitemiterator","odict_iterator","itertools.zip_longest","itertools.pairwise"].contains n=false) (hQ:Q () s):wpAny M A (letOwnedTupleGo tg (.ref it) u) Q E s:=by
 unfold letOwnedTupleGo
 cases tg<;>first
  | exact wpAny_pure hQ
  | (cases u<;>first
      | exact wpAny_pure hQ
      | (refine wB (wpAny_load ho ?_)
         rw [hc,hd]
         show wpAny M A (if (["enumerate","zip","dict_itemiterator","dict_reverseitemiterator","odict_iterator","itertools.zip_longest","itertools.pairwise"].contains n&&vs[0]?==some (rawInt _))=true then _ else _) Q E s
         rw [if_neg (by intro h;rw [hn,Bool.false_and] at h;cases h)]
         exact wpAny_pure hQ))
def Itl (K:PySem.W.Frag) (a:Addr):It:=
 ⟨fun i H=>∃ xs x,SqL K H a xs/\xs[i]?=some x,fun i H x H'=>H'=H/\∀ xs,SqL K H a xs->xs[i]?=some x,fun i H=>∃ xs,SqL K H a xs/\xs.length<=i⟩
def Itt (K:PySem.W.Frag) (a:Addr):It:=
 ⟨fun i H=>∃ xs x,SqT K H a xs/\xs[i]?=some x,fun i H x H'=>H'=H/\∀ xs,SqT K H a xs->xs[i]?=some x,fun i H=>∃ xs,SqT K H a xs/\xs.length<=i⟩
def Itr (lo:Int) (n:Nat):It:=⟨fun i _=>i<n,fun i H x H'=>H'=H/\x=.int (lo+i),fun i _=>n<=i⟩
def rH {P:Program} {w:World} {K:PySem.W.Frag} {tg:Expr} (a it:Addr):Turn P w K tg (Itl K a) [it] it (fun i h=>h.IsListIter it a i) where
 mem:=by simp
 obj:=fun i h st b hb=>by
  have e:b=it:=by simpa using hb
  subst e
  obtain ⟨o,e,c,d⟩:=st
  exact ⟨o,e,fun v z=>by rw [d] at z;cases z⟩
 keep:=fun i h h' st k=>st.at fun o e=>k it (by simp) o e
 item:=by
  intro X hP hw hK hc i pins s σ H E I hf st hg
  subst hP hw hK
  obtain ⟨xs,x,hq,hx⟩:=hg
  obtain ⟨its,rv,p,hz⟩:=I.list hq
  obtain ⟨u,hu,ru⟩:=rv.get hx
  obtain ⟨f0,f1,f2,f3,f4,f5⟩:=hf it (by simp)
  refine wpAny_pyNext_list_item st p.isList (x:=u) (by simpa using hu) fun h' st' sb=>?_
  have I1:Inv X pins σ H {s with heap:=h'}:=I.turned (t':=s.toks) (fun b o hb e=>(sb.2 b hb).trans e) f0 f1 f3 f4 f5
  obtain ⟨o,e,c,d⟩:=id st'
  exact ⟨u,rfl,nC (s:={s with heap:=h'}) e c d (by decide) ⟨x,H,I1,ru,⟨rfl,fun ys hy=>by rw [I.list_inj hy hq];exact hx⟩,st',fun b hb=>(hf b hb).1⟩⟩
 done:=by
  intro X hP hw hK hc i pins s σ H E I hf st hg
  subst hP hw hK
  obtain ⟨xs,hq,hx⟩:=hg
  obtain ⟨its,rv,p,hz⟩:=I.list hq
  obtain ⟨f0,f1,f2,f3,f4,f5⟩:=hf it (by simp)
  have hl:=rv.length
  exact wpAny_pyNext_list_end (I.ok.hd hc) st p.isList (by simp;omega) fun h' eb=>⟨rfl,I.turned (t':=s.toks) (fun b o hb e=>eb b o hb e) f0 f1 f3 f4 f5⟩
 self:=fun _ _ _ _ _ st h=>wpAny_pyIter_listiter st h
def oQ {P:Program} {w:World} {K:PySem.W.Frag} {tg:Expr} (a it:Addr):Turn P w K tg (Itt K a) [it] it (fun i h=>h.IsTupleIter it a i) where
 mem:=by simp
 obj:=fun i h st b hb=>by
  have e:b=it:=by simpa using hb
  subst e
  obtain ⟨o,e,c,d⟩:=st
  exact ⟨o,e,fun v z=>by rw [d] at z;cases z⟩
 keep:=fun i h h' st k=>st.at fun o e=>k it (by simp) o e
 item:=by
  intro X hP hw hK hc i pins s σ H E I hf st hg
  subst hP hw hK
  obtain ⟨xs,x,hq,hx⟩:=hg
  obtain ⟨its,rv,p,hz⟩:=I.tuple hq
  obtain ⟨u,hu,ru⟩:=rv.get hx
  obtain ⟨f0,f1,f2,f3,f4,f5⟩:=hf it (by simp)
  refine wpAny_pyNext_tuple_item st (show s.heap.IsTuple a its.toArray from p) (x:=u) (by simpa using hu) fun h' st' sb=>?_
  have I1:Inv X pins σ H {s with heap:=h'}:=I.turned (t':=s.toks) (fun b o hb e=>(sb.2 b hb).trans e) f0 f1 f3 f4 f5
  obtain ⟨o,e,c,d⟩:=id st'
  exact ⟨u,rfl,nC (s:={s with heap:=h'}) e c d (by decide) ⟨x,H,I1,ru,⟨rfl,fun ys hy=>by rw [I.tuple_inj hy hq];exact hx⟩,st',fun b hb=>(hf b hb).1⟩⟩
 done:=by
  intro X hP hw hK hc i pins s σ H E I hf st hg
  subst hP hw hK
  obtain ⟨xs,hq,hx⟩:=hg
  obtain ⟨its,rv,p,hz⟩:=I.tuple hq
  obtain ⟨f0,f1,f2,f3,f4,f5⟩:=hf it (by simp)
  have hl:=rv.length
  exact wpAny_pyNext_tuple_end (I.ok.hd hc) st (show s.heap.IsTuple a its.toArray from p) (by simp;omega) fun h' eb=>⟨rfl,I.turned (t':=s.toks) (fun b o hb e=>eb b o hb e) f0 f1 f3 f4 f5⟩
 self:=fun _ _ _ _ _ st h=>wpAny_pyIter_tupleiter st h
def oR {P:Program} {w:World} {K:PySem.W.Frag} {tg:Expr} (it:Addr) (lo:Int) (n:Nat):Turn P w K tg (Itr lo n) [it] it (fun i h=>IsRangeIter h it (lo+(i:Nat)*1) ((n:Int)-(i:Nat)) 1) where
 mem:=by simp
 obj:=fun i h st b hb=>by
  have e:b=it:=by simpa using hb
  subst e
  exact ⟨_,st,fun v z=>by
   have z':Data.fields _=Data.cell v:=z
   cases z'⟩
 keep:=fun i h h' st k=>k it (by simp) _ st
 item:=by
  intro X hP hw hK hc i pins s σ H E I hf st hg
  subst hP hw hK
  obtain ⟨f0,f1,f2,f3,f4,f5⟩:=hf it (by simp)
  have W:=Walks.range (prog:=X.prog) (w:=X.w) (I.ok.hd hc) it lo 1 n
  refine W.item i s _ _ hg st fun v h' tk hv st' kk=>?_
  obtain ⟨t,rfl⟩:=hv
  have I1:Inv X pins σ H {s with heap:=h',toks:=tk}:=I.turned (fun b o hb e=>kk b o (by simpa using hb) e) f0 f1 f3 f4 f5
  refine ⟨_,rfl,nC (s:={s with heap:=h',toks:=tk}) (n:="range_iterator") st' rfl rfl (by decide) ⟨.int (lo+i),H,I1,⟨t,?_⟩,⟨rfl,rfl⟩,st',fun b hb=>(hf b hb).1⟩⟩
  rw [Int.mul_one]
 done:=by
  intro X hP hw hK hc i pins s σ H E I hf st hg
  subst hP hw hK
  obtain ⟨f0,f1,f2,f3,f4,f5⟩:=hf it (by simp)
  exact wpAny_pyNext_range_end (I.ok.hd hc) st (by have:n<=i:=hg;omega) fun h' eb=>⟨rfl,I.turned (t':=s.toks) (fun b o hb e=>eb b o hb e) f0 f1 f3 f4 f5⟩
 self:=fun _ _ _ _ _ st h=>wpAny_pyIter_rangeiter st h
section
variable {X:Cx} {tg:Expr}
def Ac (K:PySem.W.Frag) (tl:TE):TI:=fun σ H R=>tl σ H fun x H1=>∃ a,x=.ref a/\(∃ xs,SqL K H1 a xs)/\R (Itl K a) H1
def iTup (K:PySem.W.Frag) (tl:TE):TI:=fun σ H R=>tl σ H fun x H1=>∃ a,x=.ref a/\(∃ xs,SqT K H1 a xs)/\R (Itt K a) H1
def p0 {l:Expr} {tl:TE} (hl:PE X l tl):PI X tg l (Ac X.K tl):=by
 intro pins s σ H R I h
 refine thn (hl pins s σ H _ I h) fun v s1 ⟨x,H1,I1,r1,q1⟩=>?_
 obtain ⟨a,e,⟨xs,hq⟩,q⟩:=q1
 subst e
 cases r1
 obtain ⟨its,rv,p,hz⟩:=I1.list hq
 refine wpAny_pyIter_list p.isList ?_
 refine ⟨s1.heap.objs.size,[s1.heap.objs.size],_,_,H1,rfl,I1.kept (t':=s1.toks) fun b o e=>gP _ e,rH a _,⟨_,Heap.get?_push_size _ rfl,rfl,rfl⟩,fun b hb=>?_,q⟩
 have e:b=s1.heap.objs.size:=by simpa using hb
 subst e
 exact I1.fpOk (nL _) (I1.hok.fresh (nL _))
def sG {l:Expr} {tl:TE} (hl:PE X l tl):PI X tg l (iTup X.K tl):=by
 intro pins s σ H R I h
 refine thn (hl pins s σ H _ I h) fun v s1 ⟨x,H1,I1,r1,q1⟩=>?_
 obtain ⟨a,e,⟨xs,hq⟩,q⟩:=q1
 subst e
 cases r1
 obtain ⟨its,rv,p,hz⟩:=I1.tuple hq
 refine wpAny_pyIter_tuple (show s1.heap.IsTuple a its.toArray from p) ?_
 refine ⟨s1.heap.objs.size,[s1.heap.objs.size],_,_,H1,rfl,I1.kept (t':=s1.toks) fun b o e=>gP _ e,oQ a _,⟨_,Heap.get?_push_size _ rfl,rfl,rfl⟩,fun b hb=>?_,q⟩
 have e:b=s1.heap.objs.size:=by simpa using hb
 subst e
 exact I1.fpOk (nL _) (I1.hok.fresh (nL _))
def sH {pins:List (Addr×Obj)} {σ:St} {H:Hp} {s:Shared} {R:It->Hp->Prop} {E:Value->Shared->Prop} {lo hi:Int} {t u v:Tok} {tk:Nat} (I:Inv X pins σ H s) (h1:-(2^62)<=lo) (h2:lo<2^62) (h3:-(2^62)<=hi) (h4:hi<2^62)
  (q:R (Itr lo (hi-lo).toNat) H):wpAny (model X.prog X.w) X.A (pyIter (.ref s.heap.objs.size)) (PIE X pins σ tg R) E {s with heap:=s.heap.push {cls:=.type "range",data:=.fields #[.int lo t,.int hi u,.int 1 v]},toks:=tk}:=by
 refine wpAny_pyIter_range (IsRange.new ..) (small_one h1 h2 h3 h4) ?_
 have I1:Inv X pins σ H {s with heap:=s.heap.push {cls:=.type "range",data:=.fields #[.int lo t,.int hi u,.int 1 v]},toks:=tk}:=I.kept fun b o e=>gP _ e
 refine ⟨(s.heap.push {cls:=.type "range",data:=.fields #[.int lo t,.int hi u,.int 1 v]}).objs.size,[(s.heap.push {cls:=.type "range",data:=.fields #[.int lo t,.int hi u,.int 1 v]}).objs.size],_,_,H,rfl,
  I1.kept (t':=tk) fun b o e=>gP _ e,oR _ lo (hi-lo).toNat,?_,fun b hb=>?_,q⟩
 · have e1:lo+((0:Nat):Int)*1=lo:=by simp
   have e2:(((hi-lo).toNat:Nat):Int)-((0:Nat):Int)=Builtin.Range.rangeSize lo hi 1:=by rw [rangeSize_one];split<;>omega
   show IsRangeIter _ _ (lo+((0:Nat):Int)*1) ((((hi-lo).toNat:Nat):Int)-((0:Nat):Int)) 1
   rw [e1,e2]
   exact Heap.get?_push_size _ rfl
 · have e:b=(s.heap.push {cls:=.type "range",data:=.fields #[.int lo t,.int hi u,.int 1 v]}).objs.size:=by simpa using hb
   subst e
   exact I1.fpOk (nL _) (I1.hok.fresh (nL _))
def wV (ta:TA):TI:=fun σ H R=>ta σ H fun vs H1=>∃ j:Int,vs=[.int j]/\-(2^62)<=j/\j<2^62/\R (Itr 0 j.toNat) H1
def rJ {a:Expr} {ta:TA} {p pos:Pos} (hg:Gl X "range") (hm:X.mg "range"=none) (ha:PA X [a] ta) (hs:starEach [a] X.env=[(false,eval a X.env)]:=by rfl):PI X tg (.Call (.Name "range" p) [a] [] pos) (wV ta):=by
 intro pins s σ H R I h
 refine Call_ (kb I hg hm boot_range (PyProof.Rows.callWith_type1 (thn (ha pos pins s σ H _ I h) fun us s1 ⟨vs,H1,I1,r1,q1⟩=>?_) hs rfl))
 obtain ⟨j,e,q1,q2,q⟩:=q1
 subst e
 cases r1 with
 | cons r rr =>
  cases rr
  obtain ⟨t,rfl⟩:=r
  exact call_range_1 (sH I1 (by omega) (by omega) q1 q2 (by simpa using q))
noncomputable def tFor (wi:TI) (g:TG) (tb:TS):TS:=fun D σ H=>wi σ H fun J H1=>∃ W:Nat->Nat->St->Hp->Prop,(∃ m,W 0 m σ H1)/\∀ i m σ H,W i m σ H→
 (J.stop i H/\D.nx σ H)∨(J.go i H/\∃ N:St->Hp->Prop,(∀ σ' H',N σ' H'->∃ m',m'<m/\W (i+1) m' σ' H')/\∀ x H',J.yld i H x H'->g x σ H' fun σ2 H2=>tb {D with nx:=N,ct:=N,bk:=D.nx} σ2 H2)
def jm (fp:List Addr) (h:Heap):List (Addr×Obj):=fp.filterMap fun b=>(h.get? b).map fun o=>(b,o)
def d4 {fp:List Addr} {h:Heap} {b:Addr} {o:Obj} (hb:b∈fp) (e:h.get? b=some o):(b,o)∈jm fp h:=List.mem_filterMap.mpr ⟨b,hb,by rw [e];rfl⟩
def rK {fp:List Addr} {h:Heap} {p:Addr×Obj} (hp:p∈jm fp h):p.1∈fp/\h.get? p.1=some p.2:=by
 obtain ⟨b,hb,e⟩:=List.mem_filterMap.mp hp
 cases q:h.get? b with
 | none=>rw [q] at e;cases e
 | some o =>
  rw [q] at e
  have e':(b,o)=p:=Option.some.inj e
  subst e'
  exact ⟨hb,q⟩
def Inv.pinned {pins:List (Addr×Obj)} {σ:St} {H:Hp} {s:Shared} {fp:List Addr} (I:Inv X pins σ H s) (hf:∀ b∈fp,iG X pins H b) (ho:∀ b∈fp,∃ o,s.heap.get? b=some o/\∀ v,o.data≠.cell v):Inv X (pins++jm fp s.heap) σ H s:=
 I.pins_of fun p hp=>(List.mem_append.mp hp).elim (fun z=>I.pin p (List.mem_append_right _ z)) fun z=>by
  obtain ⟨hb,e⟩:=rK z
  obtain ⟨f0,f1,f2,_⟩:=hf p.1 hb
  obtain ⟨o,e',d⟩:=ho p.1 hb
  rw [e] at e';cases e'
  exact ⟨e,f0,f1,f2,d⟩
def Inv.unpinned {pins pl:List (Addr×Obj)} {σ:St} {H:Hp} {s:Shared} (I:Inv X (pins++pl) σ H s):Inv X pins σ H s:=I.pins_of fun p hp=>I.pin p (List.mem_append_right _ (List.mem_append_left _ hp))
def sI {iter:Expr} {body:List Stmt} {wi:TI} {g:TG} {tb:TS} {pos:Pos} (hp:PassesOwn (model X.prog X.w) X.A X.env X.xe) (hc:X.calm=true) (hi:PI X tg iter wi) (hg:PG X tg g) (hb:PSs X body tb)
  (hs:∀ x,foldedSetIterable iter X.env x=pure x:=by intro _;rfl):PS X (.For tg iter body [] pos) (tFor wi g tb):=by
 intro pins s σ H D I h
 refine wpAny_For (thn (hi pins s σ H _ I h) fun v s1 h1=>thn h1 fun itv s2 h2=>?_) hs
 obtain ⟨it,fp,tn,J,H2,e,I2,T,st2,f2,W,⟨m0,w0⟩,turn⟩:=h2
 subst e
 -- what stays true of the iterator's objects through the loop
 have stat:∀ {H':Hp},(∀ b∈fp,H' b=none)->∀ b∈fp,iG X pins H' b:=fun hn b hb=>⟨hn b hb,(f2 b hb).2⟩
 refine codeAny_forLoop_any (fun n s'=>∃ i σ' H',Inv X pins σ' H' s'/\tn i s'.heap/\(∀ b∈fp,H' b=none)/\W i n σ' H') ?_ m0 ⟨0,σ,H2,I2,st2,fun b hb=>(f2 b hb).1,w0⟩
 rintro n s3 ⟨i,σ3,H3,I3,st3,fr3,w3⟩
 rcases turn i n σ3 H3 w3 with ⟨stop,qn⟩ | ⟨go,N,hN,step⟩
 · refine wpAny_passesOwn hp (thn (T.done X rfl rfl rfl hc i pins s3 σ3 H3 X.xe I3 (stat fr3) st3 stop) fun r s4 ⟨hr,I4⟩=>?_)
   subst hr
   exact wpAny_execs_nil ⟨σ3,H3,I4,qn⟩
 · refine wpAny_passesOwn hp (thn (T.item X rfl rfl rfl hc i pins s3 σ3 H3 X.xe I3 (stat fr3) st3 go) fun r s4 ⟨u,hr,h4⟩=>?_)
   subst hr
   refine wpAny_passesOwn hp (thn h4 fun _ s5 ⟨x,H5,I5,r5,y5,st5,fr5⟩=>?_)
   have I5':=I5.pinned (stat fr5) (T.obj _ _ st5)
   refine wpAny_passesOwn hp (thn (hg _ s5 σ3 H5 x u _ I5' r5 (step x H5 y5)) fun _ s6 ⟨σ6,H6,I6,q6⟩=>?_)
   refine wpAny_passesOwn hp (thn (hb _ s6 σ6 H6 _ I6 q6) fun f s7 q7=>?_)
   have again:∀ {σ7:St} {H7:Hp},Inv X (pins++jm fp s5.heap) σ7 H7 s7->N σ7 H7->∃ m,m<n/\∃ i σ' H',Inv X pins σ' H' s7/\tn i s7.heap/\(∀ b∈fp,H' b=none)/\W i m σ' H':=fun {σ7 H7} I7 n7=>by
    obtain ⟨m',hm,w7⟩:=hN σ7 H7 n7
    refine ⟨m',hm,i+1,σ7,H7,I7.unpinned,T.keep _ _ _ st5 fun b hb o e=>(I7.pin (b,o) (List.mem_append_right _ (List.mem_append_right _ (d4 hb e)))).1,fun b hb=>?_,w7⟩
    obtain ⟨o,e,d⟩:=T.obj _ _ st5 b hb
    exact (I7.pin (b,o) (List.mem_append_right _ (List.mem_append_right _ (d4 hb e)))).2.1
   cases f with
   | next=>obtain ⟨σ7,H7,I7,n7⟩:=q7;exact again I7 n7
   | cont=>obtain ⟨σ7,H7,I7,n7⟩:=q7;exact again I7 n7
   | brk=>obtain ⟨σ7,H7,I7,q7⟩:=q7;exact ⟨σ7,H7,I7.unpinned,q7⟩
   | ret v=>obtain ⟨x7,σ7,H7,I7,r7,q7⟩:=q7;exact ⟨x7,σ7,H7,I7.unpinned,r7,q7⟩
end
abbrev R2:=V->V->Hp->VK->Prop
noncomputable def OpR (X:Cx) (f:Value->Value->Sem Value) (r:R2):Prop:=
 ∀ (pins:List (Addr×Obj)) (s:Shared) (σ:St) (H:Hp) (x y:V) (v u:Value) (Q:VK),Inv X pins σ H s->RelV x v->RelV y u->r x y H Q→
  wpAny (model X.prog X.w) X.A (f v u) (EP X pins σ Q) X.xe s
noncomputable def UnR (X:Cx) (f:Value->Sem Value) (r:V->Hp->VK->Prop):Prop:=
 ∀ (pins:List (Addr×Obj)) (s:Shared) (σ:St) (H:Hp) (x:V) (v:Value) (Q:VK),Inv X pins σ H s->RelV x v->r x H Q→
  wpAny (model X.prog X.w) X.A (f v) (EP X pins σ Q) X.xe s
noncomputable def CallR (X:Cx) (f:Value) (r:List V->Hp->VK->Prop):Prop:=
 ∀ (pins:List (Addr×Obj)) (s:Shared) (σ:St) (H:Hp) (xs:List V) (us:List Value) (Q:VK),Inv X pins σ H s->Vals xs us->r xs H Q→
  wpAny (model X.prog X.w) X.A (call f us) (EP X pins σ Q) X.xe s
noncomputable def TruR (X:Cx) (r:V->Hp->(Bool->Hp->Prop)->Prop):Prop:=
 ∀ (pins:List (Addr×Obj)) (s:Shared) (σ:St) (H:Hp) (x:V) (v:Value) (Q:Bool->Hp->Prop),Inv X pins σ H s->RelV x v->r x H Q→
  wpAny (model X.prog X.w) X.A (truthy v) (TP X pins σ Q) X.xe s
def tOp (r:R2) (ta tb:TE):TE:=fun σ H Q=>ta σ H fun x H1=>tb σ H1 fun y H2=>r x y H2 Q
def tUn (r:V->Hp->VK->Prop) (ta:TE):TE:=fun σ H Q=>ta σ H fun x H1=>r x H1 Q
def rI (C:Int->Int->Prop) (g:Int->Int->V):R2:=fun x y H Q=>∃ i j,x=.int i/\y=.int j/\C i j/\Q (g i j) H
def rI0 (g:Int->Int->V):R2:=fun x y H Q=>∃ i j,x=.int i/\y=.int j/\Q (g i j) H
def rU (g:Int->V):V->Hp->VK->Prop:=fun x H Q=>∃ i,x=.int i/\Q (g i) H
section
variable {X:Cx} {a b c:Expr} {ta tb tc:TE} {pos:Pos}
def xY (ha:PE X a ta) (hb:PE X b tb) {pins:List (Addr×Obj)} {s:Shared} {σ:St} {H:Hp} {R:V->V->Hp->Prop} (I:Inv X pins σ H s)
  (h:ta σ H fun x H1=>tb σ H1 fun y H2=>R x y H2) {Q:Value->Shared->Prop} {f:Value->Value->Sem Value}
  (hf:∀ v u s2 x y H2,Inv X pins σ H2 s2->RelV x v->RelV y u->R x y H2->wpAny (model X.prog X.w) X.A (f v u) Q X.xe s2) :
  wpAny (model X.prog X.w) X.A (eval a X.env) (fun v s₁=>wpAny (model X.prog X.w) X.A (eval b X.env) (fun u s₂=>wpAny (model X.prog X.w) X.A (f v u) Q X.xe s₂) X.xe s₁) X.xe s:=by
 refine thn (ha pins s σ H _ I h) fun v s1 ⟨x,H1,I1,r1,q1⟩=>?_
 refine thn (hb pins s1 σ H1 _ I1 q1) fun u s2 ⟨y,H2,I2,r2,q2⟩=>?_
 exact hf v u s2 x y H2 I2 r1 r2 q2
def sJ {op:Operator} {r:R2} (ho:OpR X (binaryOp op) r) (ha:PE X a ta) (hb:PE X b tb):PE X (.BinOp a op b pos) (tOp r ta tb):=by
 intro pins s σ H Q I h
 exact wpAny_BinOp (xY ha hb I h fun v u s2 x y H2 I2 rx ry q=>ho pins s2 σ H2 x y v u Q I2 rx ry q)
def Ad {op:UnaryOp} {r:V->Hp->VK->Prop} (ho:UnR X (unaryOp op) r) (ha:PE X a ta):PE X (.UnaryOp op a pos) (tUn r ta):=by
 intro pins s σ H Q I h
 exact UnaryOp_ (thn (ha pins s σ H _ I h) fun v s1 ⟨x,H1,I1,r1,q1⟩=>ho pins s1 σ H1 x v Q I1 r1 q1)
def opI {f:Value->Value->Sem Value} {C:Int->Int->Prop} {g:Int->Int->Int}
  (rule:∀ (i j:Int) (t u:Tok) (s:Shared) (Q:Value->Shared->Prop) (E:Value->Shared->Prop),C i j->Q (.int (g i j) s.toks) {s with toks:=s.toks+1}->wpAny (model X.prog X.w) X.A (f (.int i t) (.int j u)) Q E s) :
  OpR X f (rI C fun i j=>.int (g i j)):=by
 intro pins s σ H x y v u Q I rx ry h
 obtain ⟨i,j,rfl,rfl,hc,q⟩:=h
 obtain ⟨t,rfl⟩:=rx
 obtain ⟨t',rfl⟩:=ry
 exact rule i j t t' s _ _ hc ⟨.int (g i j),H,I.tok _,⟨_,rfl⟩,q⟩
def sK {f:Value->Value->Sem Value} {g:Int->Int->Int}
  (rule:∀ (i j:Int) (t u:Tok) (s:Shared) (Q:Value->Shared->Prop) (E:Value->Shared->Prop),Q (.int (g i j) s.toks) {s with toks:=s.toks+1}->wpAny (model X.prog X.w) X.A (f (.int i t) (.int j u)) Q E s) :
  OpR X f (rI0 fun i j=>.int (g i j)):=by
 intro pins s σ H x y v u Q I rx ry h
 obtain ⟨i,j,rfl,rfl,q⟩:=h
 obtain ⟨t,rfl⟩:=rx
 obtain ⟨t',rfl⟩:=ry
 exact rule i j t t' s _ _ ⟨.int (g i j),H,I.tok _,⟨_,rfl⟩,q⟩
def opB0 {f:Value->Value->Sem Value} {g:Int->Int->Bool}
  (rule:∀ (i j:Int) (t u:Tok) (s:Shared) (Q:Value->Shared->Prop) (E:Value->Shared->Prop),Q (.bool (g i j)) s->wpAny (model X.prog X.w) X.A (f (.int i t) (.int j u)) Q E s) :
  OpR X f (rI0 fun i j=>.bl (g i j)):=by
 intro pins s σ H x y v u Q I rx ry h
 obtain ⟨i,j,rfl,rfl,q⟩:=h
 obtain ⟨t,rfl⟩:=rx
 obtain ⟨t',rfl⟩:=ry
 exact rule i j t t' s _ _ ⟨.bl (g i j),H,I,rfl,q⟩
def xZ (i j:Int):Prop:=0<j/\j<1073741824
def x9 (i j:Int):Prop:=0<=j/\j<=1000000/\i.natAbs<2^64
def CMul (i j:Int):Prop:=(-(2^64)<i/\i<2^64)∨(-(2^64)<j/\j<2^64)
def CMul.ok {i j:Int} (h:CMul i j):IntMulOk i j:=by
 rcases h with ⟨h1,h2⟩ | ⟨h1,h2⟩
 · exact .of_left (intBits_le_64 h1 h2)
 · exact .of_right (intBits_le_64 h1 h2)
def oS (k:Nat):(0:Int)<=2^k:=by
 rw [two_pow_cast]
 exact Int.natCast_nonneg _
def ya:OpR X (binaryOp .Add) (rI0 fun i j=>.int (i+j)):=sK fun _ _ _ _ _ _ _ q=>add_int q
def gK:OpR X (binaryOp .Sub) (rI0 fun i j=>.int (i-j)):=sK fun _ _ _ _ _ _ _ q=>sub_int q
def fw:OpR X (binaryOp .Mult) (rI CMul fun i j=>.int (i*j)):=opI fun _ _ _ _ _ _ _ hc q=>mul_int q hc.ok
def dv:OpR X (binaryOp .FloorDiv) (rI xZ fun i j=>.int (i/j)):=opI fun i j _ _ _ _ _ hc q=>by
 have h1:(0:Int)<j:=hc.1
 have h2:j<1073741824:=hc.2
 exact floordiv_int (by omega) (by rw [Int.fdiv_eq_ediv_of_nonneg i (by omega)];exact q) (.inl (PyProof.noPylong_small (by omega)))
def bm:OpR X (binaryOp .Mod) (rI (fun _ j=>0<j) fun i j=>.int (i%j)):=opI fun i j _ _ _ _ _ hc q=>by
 have h1:(0:Int)<j:=hc
 exact mod_int' (by omega) (by rw [Int.fmod_eq_emod_of_nonneg i (by omega)];exact q)
def ke:OpR X (binaryOp .Pow) (rI x9 fun i j=>.int (i^j.toNat)):=opI fun _ _ _ _ _ _ _ hc q=>pow_int_small hc.1 hc.2.1 hc.2.2 q
def yb:OpR X (binaryOp .RShift) (rI (fun _ j=>0<=j) fun i j=>.int (i/2^j.toNat)):=opI fun i j _ _ _ _ _ hc q =>
 rshift_int hc (by rw [Int.fdiv_eq_ediv_of_nonneg i (oS _)];exact q)
def sM:OpR X (binaryOp .BitAnd) (rI0 fun i j=>.int (Builtin.bitAnd i j)):=sK fun _ _ _ _ _ _ _ q=>and_int q
def wW:OpR X (binaryOp .BitOr) (rI0 fun i j=>.int (Builtin.bitOr i j)):=sK fun _ _ _ _ _ _ _ q=>or_int q
def sN:OpR X (binaryOp .BitXor) (rI0 fun i j=>.int (Builtin.bitXor i j)):=sK fun _ _ _ _ _ _ _ q=>xor_int q
def unI {f:Value->Sem Value} {g:Int->Int}
  (rule:∀ (i:Int) (t:Tok) (s:Shared) (Q:Value->Shared->Prop) (E:Value->Shared->Prop),Q (.int (g i) s.toks) {s with toks:=s.toks+1}->wpAny (model X.prog X.w) X.A (f (.int i t)) Q E s) :
  UnR X f (rU fun i=>.int (g i)):=by
 intro pins s σ H x v Q I rx h
 obtain ⟨i,rfl,q⟩:=h
 obtain ⟨t,rfl⟩:=rx
 exact rule i t s _ _ ⟨.int (g i),H,I.tok _,⟨_,rfl⟩,q⟩
def yc:UnR X (unaryOp .USub) (rU fun i=>.int (-i)):=unI fun _ _ _ _ _ q=>neg_int q
end
noncomputable def yd:V->V->Bool
 | .non,.non=>true | .non,.int _=>true | .int _,.non=>true | .non,.bl _=>true | .bl _,.non=>true | .non,.str _=>true | .str _,.non=>true
 | .int _,.int _=>true | .bl _,.bl _=>true | .str _,.str _=>true | .byt _,.byt _=>true
 | .int _,.str _=>true | .str _,.int _=>true | .bl _,.str _=>true | .str _,.bl _=>true
 | _,_=>false
def rEq:R2:=fun x y H Q=>yd x y=true/\Q (.bl (decide (x=y))) H
def rNe:R2:=fun x y H Q=>yd x y=true/\Q (.bl (!decide (x=y))) H
def p4 {i j:Int}:decide (V.int i=V.int j)=(i==j):=by
 rw [Bool.eq_iff_iff]
 simp
def sO {i j:Bool}:decide (V.bl i=V.bl j)=(i==j):=by
 rw [Bool.eq_iff_iff]
 simp
def p5 {i j:Str}:decide (V.str i=V.str j)=(i==j):=by
 rw [Bool.eq_iff_iff]
 simp
def p6 {i j:Array UInt8}:decide (V.byt i=V.byt j)=(i.toList==j.toList):=by
 rw [Bool.eq_iff_iff]
 cases i
 cases j
 simp
section
variable {X:Cx} {a b c:Expr} {ta tb tc:TE} {pos:Pos}
def bK {pins:List (Addr×Obj)} {σ:St} {H:Hp} {s:Shared} {Q:VK} {k k':Bool} (I:Inv X pins σ H s) (q:Q (.bl k) H) (e:k=k'):EP X pins σ Q (.bool k') s:=by
 subst e
 exact ⟨.bl k,H,I,rfl,q⟩
def Ae:OpR X (compareOp .Eq) rEq:=by
 intro pins s σ H x y v u Q I rx ry h
 obtain ⟨hs,q⟩:=h
 cases x with
 | non =>
  cases rx
  cases y with
  | non=>cases ry;exact PySem.EqNone.eq_none_none (bK I q (by simp))
  | bl j=>cases ry;exact PySem.EqNone.eq_none_bool (bK I q (by simp))
  | int j=>obtain ⟨t',rfl⟩:=ry;exact PySem.EqNone.eq_none_int (bK I q (by simp))
  | str j=>obtain ⟨t',rfl⟩:=ry;exact PySem.EqNone.eq_none_str (bK I q (by simp))
  | _=>exact absurd (show false=true from hs) Bool.false_ne_true
 | bl i =>
  cases rx
  cases y with
  | non=>cases ry;exact PySem.EqNone.eq_bool_none (bK I q (by simp))
  | bl j=>cases ry;exact eq_bool (bK I q sO)
  | str j=>obtain ⟨t',rfl⟩:=ry;exact PySem.EqMixed.eq_bool_str (bK I q (by simp))
  | _=>exact absurd (show false=true from hs) Bool.false_ne_true
 | int i =>
  obtain ⟨t,rfl⟩:=rx
  cases y with
  | non=>cases ry;exact PySem.EqNone.eq_int_none (bK I q (by simp))
  | int j=>obtain ⟨t',rfl⟩:=ry;exact eq_int (bK I q p4)
  | str j=>obtain ⟨t',rfl⟩:=ry;exact PySem.EqMixed.eq_int_str (bK I q (by simp))
  | _=>exact absurd (show false=true from hs) Bool.false_ne_true
 | str i =>
  obtain ⟨t,rfl⟩:=rx
  cases y with
  | non=>cases ry;exact PySem.EqNone.eq_str_none (bK I q (by simp))
  | bl j=>cases ry;exact PySem.EqMixed.eq_str_bool (bK I q (by simp))
  | int j=>obtain ⟨t',rfl⟩:=ry;exact PySem.EqMixed.eq_str_int (bK I q (by simp))
  | str j=>obtain ⟨t',rfl⟩:=ry;exact eq_str (bK I q p5)
  | _=>exact absurd (show false=true from hs) Bool.false_ne_true
 | byt i =>
  obtain ⟨t,rfl⟩:=rx
  cases y with
  | byt j=>obtain ⟨t',rfl⟩:=ry;exact PySem.W.eq_bytes (bK I q p6)
  | _=>exact absurd (show false=true from hs) Bool.false_ne_true
 | _=>cases y<;>exact absurd (show false=true from hs) Bool.false_ne_true
def Af:OpR X (compareOp .NotEq) rNe:=by
 intro pins s σ H x y v u Q I rx ry h
 obtain ⟨hs,q⟩:=h
 cases x with
 | non =>
  cases rx
  cases y with
  | non=>cases ry;exact PySem.EqNone.ne_none_none (bK I q (by simp))
  | bl j=>cases ry;exact PySem.EqNone.ne_none_bool (bK I q (by simp))
  | int j=>obtain ⟨t',rfl⟩:=ry;exact PySem.EqNone.ne_none_int (bK I q (by simp))
  | str j=>obtain ⟨t',rfl⟩:=ry;exact PySem.EqNone.ne_none_str (bK I q (by simp))
  | _=>exact absurd (show false=true from hs) Bool.false_ne_true
 | bl i =>
  cases rx
  cases y with
  | non=>cases ry;exact PySem.EqNone.ne_bool_none (bK I q (by simp))
  | bl j=>cases ry;exact ne_bool (bK I q (congrArg not sO))
  | str j=>obtain ⟨t',rfl⟩:=ry;exact PySem.EqMixed.ne_bool_str (bK I q (by simp))
  | _=>exact absurd (show false=true from hs) Bool.false_ne_true
 | int i =>
  obtain ⟨t,rfl⟩:=rx
  cases y with
  | non=>cases ry;exact PySem.EqNone.ne_int_none (bK I q (by simp))
  | int j=>obtain ⟨t',rfl⟩:=ry;exact ne_int (bK I q (congrArg not p4))
  | str j=>obtain ⟨t',rfl⟩:=ry;exact PySem.EqMixed.ne_int_str (bK I q (by simp))
  | _=>exact absurd (show false=true from hs) Bool.false_ne_true
 | str i =>
  obtain ⟨t,rfl⟩:=rx
  cases y with
  | non=>cases ry;exact PySem.EqNone.ne_str_none (bK I q (by simp))
  | bl j=>cases ry;exact PySem.EqMixed.ne_str_bool (bK I q (by simp))
  | int j=>obtain ⟨t',rfl⟩:=ry;exact PySem.EqMixed.ne_str_int (bK I q (by simp))
  | str j=>obtain ⟨t',rfl⟩:=ry;exact ne_str (bK I q (congrArg not p5))
  | _=>exact absurd (show false=true from hs) Bool.false_ne_true
 | byt i =>
  obtain ⟨t,rfl⟩:=rx
  cases y with
  | byt j=>obtain ⟨t',rfl⟩:=ry;exact PySem.W.ne_bytes (bK I q (congrArg not p6))
  | _=>exact absurd (show false=true from hs) Bool.false_ne_true
 | _=>cases y<;>exact absurd (show false=true from hs) Bool.false_ne_true
def jK:OpR X (compareOp .Lt) (rI0 fun i j=>.bl (decide (i<j))):=opB0 fun _ _ _ _ _ _ _ q=>lt_int q
def ye:OpR X (compareOp .Is) (fun x y H Q=>y=.non/\Q (.bl (decide (x=.non))) H):=by
 intro pins s σ H x y v u Q I rx ry h
 obtain ⟨rfl,q⟩:=h
 cases ry
 refine is_none_gen (bK I q ?_)
 cases x<;>first
  | (cases rx;rfl)
  | (obtain ⟨t,rfl⟩:=rx;rfl)
def p7:OpR X (compareOp .IsNot) (fun x y H Q=>y=.non/\Q (.bl (!decide (x=.non))) H):=by
 intro pins s σ H x y v u Q I rx ry h
 obtain ⟨rfl,q⟩:=h
 cases ry
 refine isnot_none_gen (bK I q ?_)
 cases x<;>first
  | (cases rx;rfl)
  | (obtain ⟨t,rfl⟩:=rx;rfl)
def OpR.or {f:Value->Value->Sem Value} {r r':R2} (h:OpR X f r) (h':OpR X f r'):OpR X f (fun x y H Q=>r x y H Q∨r' x y H Q):=by
 intro pins s σ H x y v u Q I rx ry q
 rcases q with q | q
 · exact h pins s σ H x y v u Q I rx ry q
 · exact h' pins s σ H x y v u Q I rx ry q
def aJ (b:Expr) {op:CmpOp} (h:op≠.In:=by decide) (h2:op≠.NotIn:=by decide):behindInMarks op b=false:=by
 have e1:(op==CmpOp.In)=false:=by cases op<;>first | rfl | exact absurd rfl h
 have e2:(op==CmpOp.NotIn)=false:=by cases op<;>first | rfl | exact absurd rfl h2
 cases b<;>simp [behindInMarks,e1,e2]
def p8 {op:CmpOp} {r:R2} (ho:OpR X (compareOp op) r) (ha:PE X a ta) (hb:PE X b tb) (hm:behindInMarks op b=false):PE X (.Compare a [op] [b] pos) (tOp r ta tb):=by
 intro pins s σ H Q I h
 exact wpAny_Compare1 (xY ha hb I h fun v u s2 x y H2 I2 rx ry q=>ho pins s2 σ H2 x y v u Q I2 rx ry q) hm
def Ah (t:TE):TT:=fun σ H Q=>t σ H fun x H'=>∃ k,x=.bl k/\Q k H'
def p9 {op:CmpOp} {r:R2} (ho:OpR X (compareOp op) r) (ha:PE X a ta) (hb:PE X b tb) (hm:behindInMarks op b=false):PT X (.Compare a [op] [b] pos) (Ah (tOp r ta tb)):=by
 intro pins s σ H Q I h
 refine wpAny_isTrue_Compare1 (thn (ha pins s σ H _ I h) fun v s1 ⟨x,H1,I1,r1,q1⟩=>thn (hb pins s1 σ H1 _ I1 q1) fun u s2 ⟨y,H2,I2,r2,q2⟩ =>
  thn (ho pins s2 σ H2 x y v u _ I2 r1 r2 q2) fun c s3 ⟨z,H3,I3,r3,k,e,q3⟩=>?_) hm
 subst e
 cases r3
 exact wpAny_truthy_bool ⟨H3,I3,q3⟩
noncomputable def yf (K:PySem.W.Frag) (x:V) (H:Hp) (k:Bool):Prop:=
 match x with
 | .non=>k=false
 | .bl b=>k=b
 | .int i=>k=(i != 0)
 | .str y=>y.length<=sizeLine/\k=((y.length:Int) != 0)
 | .byt y=>y.size<=sizeLine/\k=((y.size:Int) != 0)
 | .ref p=>(∃ xs,SqL K H p xs/\k=!xs.isEmpty)∨(∃ xs,SqT K H p xs/\k=!xs.isEmpty)∨∃ kvs,H p=some (.dK kvs)/\k=!kvs.isEmpty
 | _=>False
def oT {κ:Type} {kvs:List (κ×V)} {vs:List (κ×Value)} (r:KV kvs vs):(!vs.isEmpty)=!kvs.isEmpty:=by
 cases r<;>rfl
def kf {xs:List V} {its:List Value} (r:Vals xs its):(!its.toArray.isEmpty)=!xs.isEmpty:=by
 cases r<;>simp
def jn:(sizeLine:Nat)<2^63:=by rw [sizeLine_eq];decide
def yg:TruR X (fun x H Q=>∃ k,yf X.K x H k/\Q k H):=by
 intro pins s σ H x v Q I rx h
 obtain ⟨k,e,q⟩:=h
 have hl:=jn
 have hs:sizeLine=16777216:=sizeLine_eq
 cases x with
 | non =>
  cases rx
  have e':k=false:=e
  subst e'
  exact truthy_none ⟨H,I,q⟩
 | bl b =>
  cases rx
  have e':k=b:=e
  subst e'
  exact wpAny_truthy_bool ⟨H,I,q⟩
 | int i =>
  obtain ⟨t,rfl⟩:=rx
  have e':k=(i != 0):=e
  subst e'
  exact PySem.P.truthy_int ⟨H,I,q⟩
 | str y =>
  obtain ⟨t,rfl⟩:=rx
  obtain ⟨hy,e'⟩:y.length<=sizeLine/\k=((y.length:Int) != 0):=e
  subst e'
  exact PySem.P.truthy_str (by omega) ⟨H,I.tok _,q⟩
 | byt y =>
  obtain ⟨t,rfl⟩:=rx
  obtain ⟨hy,e'⟩:y.size<=sizeLine/\k=((y.size:Int) != 0):=e
  subst e'
  exact PySem.W.truthy_bytes (by omega) ⟨H,I.tok _,q⟩
 | ref p =>
  cases rx
  have e':(∃ xs,SqL X.K H p xs/\k=!xs.isEmpty)∨(∃ xs,SqT X.K H p xs/\k=!xs.isEmpty)∨∃ kvs,H p=some (.dK kvs)/\k=!kvs.isEmpty:=e
  rcases e' with ⟨xs,hx,e'⟩ | ⟨xs,hx,e'⟩ | ⟨kvs,hx,e'⟩
  · subst e'
    obtain ⟨its,r,pl,hz⟩:=I.list hx
    have hlen:=r.length
    exact wpAny_truthy_list pl.isList (by simp only [List.size_toArray];omega) ⟨H,I.tok _,by rw [kf r];exact q⟩
  · subst e'
    obtain ⟨its,r,pl,hz⟩:=I.tuple hx
    have hlen:=r.length
    exact truthy_tuple pl (by simp only [List.size_toArray];omega) ⟨H,I.tok _,by rw [kf r];exact q⟩
  · subst e'
    obtain ⟨hz,hS,vs,r,m⟩:kvs.length<=sizeLine/\(p==sysModules)=false/\∃ vs,KV kvs vs/\s.heap.DictOf (bJ X.prog X.w) p vs:=I.hok p _ hx
    have hlen:kvs.length=vs.length:=Paired.length r
    exact wpAny_truthy_dict hS m (by omega) ⟨H,I.tok _,by rw [oT r];exact q⟩
 | _=>exact (show False from e).elim
def nE (ha:PE X a ta) (he:∀ whole,isTrue a X.env whole=(do let v <- whole;standAt a.pos;holding [v] (truthy v))) :
  PT X a (fun σ H Q=>ta σ H fun x H'=>∃ k,yf X.K x H' k/\Q k H'):=by
 intro pins s σ H Q I h
 exact isTrue_plain (thn (ha pins s σ H _ I h) fun v s1 ⟨x,H1,I1,r1,q1⟩=>yg pins s1 σ H1 x v Q I1 r1 q1) (he _)
def oU:OpR X (binaryOp .Add) (fun x y H Q=>∃ i j,x=.str i/\y=.str j/\i.length+j.length<=sizeLine/\Q (.str (i++j)) H):=by
 intro pins s σ H x y v u Q I rx ry h
 obtain ⟨i,j,rfl,rfl,hz,q⟩:=h
 obtain ⟨t,rfl⟩:=rx
 obtain ⟨t',rfl⟩:=ry
 exact add_str (fun t' tk=>⟨.str (i++j),H,I.tok _,⟨_,rfl⟩,q⟩) hz
def iX {x:V} {us:List Value} (r:Vals [x] us):∃ u,us=[u]/\RelV x u:=by
 cases r with
 | cons r1 r2=>cases r2;exact ⟨_,rfl,r1⟩
def wX {x y:V} {us:List Value} (r:Vals [x,y] us):∃ u w',us=[u,w']/\RelV x u/\RelV y w':=by
 cases r with
 | cons r1 r2 =>
  cases r2 with
  | cons r3 r4=>cases r4;exact ⟨_,_,rfl,r1,r3⟩
def rL:CallR X (.type "int") (fun xs H Q=>(∃ i,xs=[.int i]/\Q (.int i) H)∨∃ k,xs=[.bl k]/\Q (.int (if k then 1 else 0)) H):=by
 intro pins s σ H xs us Q I r h
 rcases h with ⟨i,rfl,q⟩ | ⟨k,rfl,q⟩
 · obtain ⟨u,rfl,t,rfl⟩:=iX r
   exact call_int_int ⟨.int i,H,I,⟨_,rfl⟩,q⟩
 · obtain ⟨u,rfl,r1⟩:=iX r
   cases r1
   exact call_int_bool ⟨.int (if k then 1 else 0),H,I.tok _,⟨_,rfl⟩,q⟩
noncomputable def LenV (K:PySem.W.Frag) (x:V) (H:Hp) (n:Nat):Prop:=
 match x with
 | .str y=>y.length<=sizeLine/\n=y.length
 | .byt y=>y.size<=sizeLine/\n=y.size
 | .ref p=>(∃ xs,SqL K H p xs/\n=xs.length)∨∃ xs,SqT K H p xs/\n=xs.length
 | _=>False
def cL:CallR X (.builtin "len") (fun xs H Q=>∃ x n,xs=[x]/\LenV X.K x H n/\Q (.int n) H):=by
 intro pins s σ H xs us Q I r h
 obtain ⟨x,n,rfl,e,q⟩:=h
 obtain ⟨u,rfl,rx⟩:=iX r
 have hl:=jn
 have hs:sizeLine=16777216:=sizeLine_eq
 cases x with
 | str y =>
  obtain ⟨t,rfl⟩:=rx
  obtain ⟨hy,e'⟩:y.length<=sizeLine/\n=y.length:=e
  subst e'
  exact len_str (by omega) ⟨.int _,H,I.tok _,⟨_,rfl⟩,q⟩
 | byt y =>
  obtain ⟨t,rfl⟩:=rx
  obtain ⟨hy,e'⟩:y.size<=sizeLine/\n=y.size:=e
  subst e'
  exact PySem.W.len_bytes (by omega) ⟨.int _,H,I.tok _,⟨_,rfl⟩,q⟩
 | ref p =>
  cases rx
  have e':(∃ xs,SqL X.K H p xs/\n=xs.length)∨∃ xs,SqT X.K H p xs/\n=xs.length:=e
  rcases e' with ⟨xs,hx,e'⟩ | ⟨xs,hx,e'⟩
  · subst e'
    obtain ⟨its,r',pl,hz⟩:=I.list hx
    have hlen:=r'.length
    exact Calls.call_len_list pl.isList (by simp only [List.size_toArray];omega) ⟨.int xs.length,H,I.tok _,⟨_,by simp only [List.size_toArray];rw [hlen]⟩,q⟩
  · subst e'
    obtain ⟨its,r',pl,hz⟩:=I.tuple hx
    have hlen:=r'.length
    exact len_tuple pl (by simp only [List.size_toArray];omega) ⟨.int xs.length,H,I.tok _,⟨_,by simp only [List.size_toArray];rw [hlen]⟩,q⟩
 | _=>exact (show False from e).elim
end
structure ObjM (h:Heap) (x dx C:Addr) (mA:Str->Option Value):Prop where
 obj:h.get? x=some (PySem.W.instObj C dx)
 ns:h.Ns1 dx mA
 ne:dx≠x
def rM {h:Heap} {dx:Addr} {mA:Str->Option Value} (n:h.Ns1 dx mA):∃ od,h.get? dx=some od/\∀ name,PySem.W.lookIn name od=some (mA name):=by
 obtain ⟨o,es,ep,ho,hd,hk,_,hm⟩:=n
 refine ⟨o,ho,fun name=>?_⟩
 have e:=hm name
 unfold nsFind findBy at e
 rw [<- Array.find?_toList] at e
 unfold PySem.W.lookIn
 rw [hd]
 dsimp only
 split
 · rename_i y q
   rw [q] at e
   exact congrArg some e
 · rename_i q
   rw [q] at e
   have a:es.toList.any (·.refKey)=false:=by
    rw [List.any_eq_false]
    intro y hy
    obtain ⟨z,t,hkey⟩:=hk y (Array.mem_toList_iff.mp hy)
    simp [DictEntry.refKey,hkey]
   have a':¬ es.toList.any (·.refKey)=true:=by rw [a];exact Bool.false_ne_true
   rw [if_neg a']
   exact congrArg some e
def ObjM.look {h:Heap} {x dx C:Addr} {mA:Str->Option Value} (I:ObjM h x dx C mA):∃ od,PySem.W.InstAt h x (PySem.W.instObj C dx) C (some od)/\∀ name,PySem.W.lookIn name od=some (mA name):=
 let ⟨od,ho,hl⟩:=rM I.ns
 ⟨od,⟨I.obj,rfl,rfl,ho⟩,hl⟩
section
variable {prog:Program} {w:World} {A:Around} {E:Value->Shared->Prop} {s:Shared} {K:PySem.W.Frag} {x dx C f:Addr} {mA:Str->Option Value} {name:Str} {v:Value}
def u5 {expr:Bool} {Q:Value->Shared->Prop} (X:K.In s.heap) (I:ObjM s.heap x dx C mA) (hg:PySem.W.plainGet K C name=true) (hh:PySem.W.hasDictIn K C=true)
  (ha:PySem.W.findIn K (.ref C) name=some none) (hv:mA name=some v) (hv':PySem.W.handedIn v=true) (h:Q v {s with toks:=s.toks+1}) :
  wpAny (model prog w) A (getAttr (.ref x) name expr) Q E s:=by
 obtain ⟨od,J,hl⟩:=I.look
 exact PySem.W.get_value X J (PySem.W.plainGet_of hg).1 (PySem.W.findObj_own hh ha rfl (by rw [hl,hv])) hv' h
def sP {pl:Sem Bool} {Q:Value×List Value->Shared->Prop} (X:K.In s.heap) (I:ObjM s.heap x dx C mA) (hg:PySem.W.plainGet K C name=true)
  (hf:PySem.W.findIn K (.ref C) name=some (some (.ref f))) (ht:PySem.W.isFn K (.ref f)=true) (hv:mA name=none) (h:Q (.ref f,[.ref x]) s) :
  wpAny (model prog w) A (getMethod (.ref x) name pl) Q E s:=by
 obtain ⟨od,J,hl⟩:=I.look
 exact PySem.W.method_fn X J (PySem.W.plainGet_of hg).1 (PySem.W.plainGet_of hg).2 hf (beq_iff_eq.mp ht) (by show (PySem.W.lookIn name od).map (·.isSome)=some false;rw [hl,hv];rfl) h
def u6 {ns:List Str} {Q:Unit->Shared->Prop} (X:K.In s.heap) (I:ObjM s.heap x dx C mA)
  (hs:PySem.W.findIn K (.ref C) "__setattr__"=some (some (.builtin "object.__setattr__"))) (hp:PySem.W.plainOver K C=true) (ht:PySem.W.takerIn K C name=some none) (hh:PySem.W.hasDictIn K C=true)
  (hw:PySem.Within mA ns) (hsz:ns.length<=sizeLine)
  (h:∀ h',ObjM h' x dx C (fun y=>if y=name then some v else mA y)->Heap.SameBut dx s.heap h'->Q () {s with heap:=h',toks:=s.toks+2}) :
  wpAny (model prog w) A (setAttr (.ref x) name v) Q E s:=by
 obtain ⟨od,J,hl⟩:=I.look
 refine PySem.W.set_plain X J hs (PySem.W.osa_open (s:={s with toks:=s.toks+1}) (r:=none) X J hp ht fun b=>?_)
 obtain ⟨cd,hc,hd'⟩:=PySem.W.any_some hh
 have hx:s.heap.get? x=some ⟨.ref C,some dx,.plain,#[]⟩:=I.obj
 refine wB (wpAny_pure (wB (wB (wpAny_loadPart hx (wB (PySem.W.Looks.here (s:={s with toks:=s.toks+1}) (PySem.W.looks_clsIn X hc) ?_))))))
 rw [hd']
 refine wpAny_pure (a:=some dx) (wB (wpAny_pure (wB ?_)))
 refine wpAny_nsSet1 (s:={s with toks:=s.toks+1}) I.ns fun h' hn2 hs2=>?_
 obtain ⟨oD,esD,epD,hoD,hdD,hcD⟩:=hn2.count (PySem.Within.cons name v hw)
 refine wB (wpAny_lookBehind hoD (by rw [hdD];exact pastItsLine_dict (Nat.le_trans hcD (by rw [List.length_cons];omega))) ?_)
 exact wpAny_pure (h _ ⟨(hs2.2 _ (Ne.symm I.ne)).trans I.obj,hn2,I.ne⟩ hs2)
def sQ {R:Result->Shared->Prop} {vs:List Value} {kw:List (Str×Value)} (X:K.In s.heap) (hm:PySem.W.makesIn K C=true)
  (hi:PySem.W.findIn K (.ref C) "__init__"=some (some (.ref f))) (hf:PySem.W.typeIn K (.ref f)=some (.type "function"))
  (h:codeAny (model prog w) (A.under (.builtin "type.__call__" ⟨.ref C::vs,kw⟩)) (.call (.ref f) ⟨.ref (s.heap.objs.size+1)::vs,kw⟩) (PySem.W.InitBack (s.heap.objs.size+1) R)
   {s with heap:=(s.heap.push PySem.W.emptyDict).push (PySem.W.instObj C s.heap.objs.size)}) :
  codeAny (model prog w) A (.call (.ref C) ⟨vs,kw⟩) R s:=by
 obtain ⟨hh,g,d,t,os⟩:=s
 exact PySem.W.make_core (PySem.W.makes_of X hm) (PySem.W.looks_findIn X hi) (fun self=>PySem.W.bind_fn X self hf) (.inl rfl) h
end
def fA (f:Str) (v:V):List (Str×V)->List (Str×V)
 | []=>[(f,v)]
 | (g,x)::r=>if g=f then (g,v)::r else (g,x)::fA f v r
def jL (f g:Str) (v:V):∀ fs:List (Str×V),(fA f v fs).lookup g=if g=f then some v else fs.lookup g
 | []=>by
  show List.lookup g [(f,v)]=_
  by_cases h:g=f
  · have hb:(g==f)=true:=beq_iff_eq.mpr h
    simp only [List.lookup,hb,if_pos h]
  · have hb:(g==f)=false:=beq_eq_false_iff_ne.mpr h
    simp only [List.lookup,hb,if_neg h]
 | (k,x)::r=>by
  have ih:=jL f g v r
  rw [show fA f v ((k,x)::r)=(if k=f then (k,v)::r else (k,x)::fA f v r) from rfl]
  by_cases hk:k=f
  · rw [if_pos hk]
    by_cases h:g=k
    · have hb:(g==k)=true:=beq_iff_eq.mpr h
      simp only [List.lookup,hb,if_pos (h.trans hk)]
    · have hb:(g==k)=false:=beq_eq_false_iff_ne.mpr h
      simp only [List.lookup,hb,if_neg (fun e:g=f=>h (e.trans hk.symm))]
  · rw [if_neg hk]
    by_cases h:g=k
    · have hb:(g==k)=true:=beq_iff_eq.mpr h
      simp only [List.lookup,hb,if_neg (fun e:g=f=>hk (h.symm.trans e))]
    · have hb:(g==k)=false:=beq_eq_false_iff_ne.mpr h
      simp only [List.lookup,hb]
      exact ih
def jo (f:Str) (v:V):∀ fs:List (Str×V),f∈(fA f v fs).map (·.1)/\∀ g,g∈fs.map (·.1)->g∈(fA f v fs).map (·.1)
 | []=>⟨by simp [fA],fun g h=>by simp at h⟩
 | (k,x)::r=>by
  obtain ⟨i1,i2⟩:=jo f v r
  rw [show fA f v ((k,x)::r)=(if k=f then (k,v)::r else (k,x)::fA f v r) from rfl]
  by_cases hk:k=f
  · rw [if_pos hk]
    subst hk
    exact ⟨by simp,fun g h=>by simpa using h⟩
  · rw [if_neg hk]
    refine ⟨?_,fun g h=>?_⟩
    · rw [List.map_cons]
      exact List.mem_cons_of_mem _ i1
    · rw [List.map_cons] at h ⊢
      rcases List.mem_cons.mp h with e | e
      · exact List.mem_cons.mpr (.inl e)
      · exact List.mem_cons_of_mem _ (i2 g e)
def jM (f:Str) (v:V):∀ fs:List (Str×V),(fA f v fs).length<=fs.length+1
 | []=>by simp [fA]
 | (k,x)::r=>by
  have ih:=jM f v r
  rw [show fA f v ((k,x)::r)=(if k=f then (k,v)::r else (k,x)::fA f v r) from rfl]
  by_cases hk:k=f
  · rw [if_pos hk,List.length_cons,List.length_cons];omega
  · rw [if_neg hk,List.length_cons,List.length_cons];omega
def RelO.some_of {v:V} {o:Option Value} (r:RelO (some v) o):∃ u,o=some u/\RelV v u:=by
 cases o with
 | none=>exact (show False from r).elim
 | some u=>exact ⟨u,rfl,r⟩
def RelO.none_of {o:Option Value} (r:RelO none o):o=none:=by
 cases o with
 | none=>rfl
 | some u=>exact (show False from r).elim
def rN {v:V} {u:Value} (r:RelV v u):PySem.W.handedIn u=true:=by
 cases v with
 | non=>cases (show u=Value.none from r);rfl
 | bl b=>cases (show u=Value.bool b from r);rfl
 | int i=>obtain ⟨t,e⟩:=(show ∃ t,u=Value.int i t from r);cases e;rfl
 | str x=>obtain ⟨t,e⟩:=(show ∃ t,u=Value.str x t from r);cases e;rfl
 | byt b=>obtain ⟨t,e⟩:=(show ∃ t,u=Value.bytes b t from r);cases e;rfl
 | flt b=>obtain ⟨t,e⟩:=(show ∃ t,u=Value.float b t from r);cases e;rfl
 | ref a=>cases (show u=Value.ref a from r);rfl
 | ty n=>cases (show u=Value.type n from r);rfl
section
variable {P:Program} {w:World} {H H':Hp} {h h':Heap} {a C dx:Addr} {fs fs':List (Str×V)}
def j5 (hok:HOk P w H h) (e:H a=some (.ins C dx fs)):∃ mA,ObjM h a dx C mA/\(∀ f,RelO (fs.lookup f) (mA f))/\PySem.Within mA (fs.map (·.1))/\fs.length<=1000/\H dx=some (.own a):=by
 obtain ⟨d,z,ne,ob,mA,n,r,q⟩:=(show ObjOk P w H h a (.ins C dx fs) from hok a _ e)
 exact ⟨mA,⟨ob,n,ne⟩,r,q,z,d⟩
end
structure Cls (K:PySem.W.Frag) (C:Addr):Prop where
 pg:PySem.W.plainGet K C Str.empty=true
 hd:PySem.W.hasDictIn K C=true
 po:PySem.W.plainOver K C=true
 sa:PySem.W.findIn K (.ref C) "__setattr__"=some (some (.builtin "object.__setattr__"))
def Cls.get {K:PySem.W.Frag} {C:Addr} (c:Cls K C) (f:Str):PySem.W.plainGet K C f=true:=c.pg
def NoAttr (K:PySem.W.Frag) (C:Addr) (f:Str):Prop:=PySem.W.findIn K (.ref C) f=some none
def NoAttr.taker {K:PySem.W.Frag} {C:Addr} {f:Str} (n:NoAttr K C f):PySem.W.takerIn K C f=some none:=by
 unfold PySem.W.takerIn
 rw [show PySem.W.findIn K (.ref C) f=some none from n]
 rfl
structure Meth (K:PySem.W.Frag) (C:Addr) (m:Str) (f:Addr):Prop where
 at_:PySem.W.findIn K (.ref C) m=some (some (.ref f))
 fn:PySem.W.isFn K (.ref f)=true
 kp:PySem.W.keepIn K (.ref f)=true
section
variable {X:Cx} {pins:List (Addr×Obj)} {σ:St} {H:Hp} {s:Shared} {a C dx:Addr} {fs:List (Str×V)} {f:Str} {v:V} {A:Around} {E:Value->Shared->Prop}
def kg {b:Bool} {Q:Value->Shared->Prop} (I:Inv X pins σ H s) (e:H a=some (.ins C dx fs)) (c:Cls X.K C) (n:NoAttr X.K C f) (l:fs.lookup f=some v)
  (h:∀ u s',Inv X pins σ H s'->RelV v u->Q u s'):wpAny (model X.prog X.w) A (getAttr (.ref a) f b) Q E s:=by
 obtain ⟨mA,O,r,_,_,_⟩:=j5 I.hok e
 obtain ⟨u,hu,ru⟩:=RelO.some_of (v:=v) (o:=mA f) (by rw [<- l];exact r f)
 exact u5 I.kIn O (c.get f) c.hd n hu (rN ru) (h u _ (I.tok _) ru)
def iH {m:Str} {g:Addr} {pl:Sem Bool} {Q:Value×List Value->Shared->Prop} (I:Inv X pins σ H s) (e:H a=some (.ins C dx fs)) (c:Cls X.K C) (k:Meth X.K C m g) (l:fs.lookup m=none)
  (h:Q (.ref g,[.ref a]) s):wpAny (model X.prog X.w) A (getMethod (.ref a) m pl) Q E s:=by
 obtain ⟨mA,O,r,_,_,_⟩:=j5 I.hok e
 have hn:mA m=none:=RelO.none_of (by rw [<- l];exact r m)
 exact sP I.kIn O (c.get m) k.at_ k.fn hn h
def kh {y:V} {u:Value} {Q:Unit->Shared->Prop} (I:Inv X pins σ H s) (e:H a=some (.ins C dx fs)) (c:Cls X.K C) (n:NoAttr X.K C f) (hl:fs.length<1000) (ry:RelV y u)
  (h:∀ s',Inv X pins σ (upd H a (.ins C dx (fA f y fs))) s'->Q () s'):wpAny (model X.prog X.w) A (setAttr (.ref a) f u) Q E s:=by
 obtain ⟨mA,O,r,wi,_,ho⟩:=j5 I.hok e
 have hz:(fs.map (·.1)).length<=sizeLine:=by rw [List.length_map,sizeLine_eq];omega
 refine u6 I.kIn O c.sa c.po n.taker c.hd wi hz fun h' O' sb=>h _ ?_
 have hd:∃ o,h'.get? dx=some o:=let ⟨o,_,_,e',_⟩:=O'.ns;⟨o,e'⟩
 refine I.write (x:=a) (e:=dx) (by rw [e];exact True.intro) (.inr ho) (fun b q hb z=>(sb.2 b hb).trans z) hd ?_
 refine ⟨by rw [bc O.ne];exact ho,?_,O.ne,O'.obj,_,O'.ns,fun g=>?_,fun g hg=>?_⟩
 · have:=jM f y fs;omega
 · show RelO ((fA f y fs).lookup g) (if g=f then some u else mA g)
   rw [jL]
   by_cases q:g=f
   · rw [if_pos q,if_pos q];exact ry
   · rw [if_neg q,if_neg q];exact r g
 · by_cases q:g=f
   · rw [q];exact (jo f y fs).1
   · refine (jo f y fs).2 g (wi g fun z=>hg ?_)
     show (if g=f then some u else mA g)=none
     rw [if_neg q];exact z
def Inv.made (I:Inv X pins σ H s):Inv X pins σ (upd (upd H s.heap.objs.size (.own (s.heap.objs.size+1))) (s.heap.objs.size+1) (.ins C s.heap.objs.size []))
  {s with heap:=(s.heap.push PySem.W.emptyDict).push (PySem.W.instObj C s.heap.objs.size)}:=by
 have e1:(s.heap.push PySem.W.emptyDict).get? s.heap.objs.size=some PySem.W.emptyDict:=Heap.get?_push_size s.heap rfl
 have e2:((s.heap.push PySem.W.emptyDict).push (PySem.W.instObj C s.heap.objs.size)).get? (s.heap.objs.size+1)=some (PySem.W.instObj C s.heap.objs.size):=by
  have:=Heap.get?_push_size (s.heap.push PySem.W.emptyDict) (o:=PySem.W.instObj C s.heap.objs.size) rfl
  rwa [Heap.size_push] at this
 have e3:(s.heap.push PySem.W.emptyDict).Ns s.heap.objs.size (fun _=>none):=⟨PySem.W.emptyDict,#[],_,e1,rfl,(fun e he=>absurd he (by simp)),fun _=>rfl⟩
 have I1:=I.laid (a:=s.heap.objs.size) (o:=.own (s.heap.objs.size+1)) (h':=s.heap.push PySem.W.emptyDict) (t':=s.toks) (fun b u q=>gP _ q) (nL _) ⟨_,e1⟩
 refine I1.laid (a:=s.heap.objs.size+1) (o:=.ins C s.heap.objs.size []) (t':=s.toks) (fun b u q=>gP _ q) (Nat.le_of_eq (Heap.size_push _ _)) ?_
 have ne:s.heap.objs.size≠s.heap.objs.size+1:=Nat.ne_of_lt (Nat.lt_succ_self _)
 refine ⟨by rw [bc ne,aY],Nat.zero_le _,ne,e2,fun _=>none,(Heap.Ns1.of_empty e3).at fun o q=>gP _ q,fun _=>True.intro,fun y hy=>absurd rfl hy⟩
def u7 {prog:Program} {w:World} {env:Env} {e:Expr} {f:Str} {pos:Pos} {s:Shared} {Q:Value->Shared->Prop} (hb:attributeBase e f env (eval e env)=eval e env)
  (h:wpAny (model prog w) A (eval e env) (fun o s₁=>wpAny (model prog w) A (getAttr o f true) Q E s₁) E s):wpAny (model prog w) A (eval (.Attribute e f pos) env) Q E s:=
 Attribute_any_ h (by rw [arm_eval_Attribute,hb])
end
def tFld (K:PySem.W.Frag) (ta:TE) (f:Str):TE:=fun σ H Q=>ta σ H fun x H1=>∃ a C dx fs v,x=.ref a/\H1 a=some (.ins C dx fs)/\Cls K C/\NoAttr K C f/\fs.lookup f=some v/\Q v H1
noncomputable def sFld (K:PySem.W.Frag) (ta tv:TE) (f:Str):TS:=fun D σ H=>tv σ H fun y H1=>ta σ H1 fun x H2=>∃ a C dx fs,x=.ref a/\H2 a=some (.ins C dx fs)/\Cls K C/\NoAttr K C f/\fs.length<1000∧
 D.nx σ (upd H2 a (.ins C dx (fA f y fs)))
noncomputable def InOp (X:Cx) (op:Operator) (rd:V->V->Hp->VK->Prop):Prop:=
 ∀ (pins:List (Addr×Obj)) (s:Shared) (σ:St) (H:Hp) (x y:V) (u v:Value) (Q:VK),Inv X pins σ H s->RelV x u->RelV y v->rd x y H Q->wpAny (model X.prog X.w) X.A (inplaceOp op u v) (EP X pins σ Q) X.xe s
noncomputable def qa (K:PySem.W.Frag) (ta tv:TE) (rd:V->V->Hp->VK->Prop) (f:Str):TS:=fun D σ H=>ta σ H fun x H1=>∃ a C dx fs v,x=.ref a/\H1 a=some (.ins C dx fs)/\Cls K C/\NoAttr K C f/\fs.lookup f=some v∧
 tv σ H1 fun y H2=>rd v y H2 fun z H3=>∃ dx' fs',H3 a=some (.ins C dx' fs')/\fs'.length<1000/\D.nx σ (upd H3 a (.ins C dx' (fA f z fs')))
section
variable {X:Cx} {o e value:Expr} {f:Str} {pos pos' tpos:Pos} {ta tv:TE}
def yh (he:PE X e ta) (hb:attributeBase e f X.env (eval e X.env)=eval e X.env):PE X (.Attribute e f pos) (tFld X.K ta f):=by
 intro pins s σ H Q I h
 refine u7 hb (thn (he pins s σ H _ I h) fun u s1 ⟨x,H1,I1,rx,a,C,dx,fs,v,ex,ea,c,n,l,q⟩=>?_)
 subst ex
 obtain rfl:u=Value.ref a:=rx
 exact kg I1 ea c n l fun u' s2 I2 ru=>⟨v,H1,I2,ru,q⟩
def yi (ha:PE X o ta) (hv:PE X value tv) (hs:swapsWith value (some (.Attribute o f pos')) pos.line X.env=pure false):PS X (.Assign [.Attribute o f pos'] value pos) (sFld X.K ta tv f):=by
 intro pins s σ H D I h
 refine plainObj_wpAny_Assign_Attribute (thn (hv pins s σ H _ I h) fun u s1 ⟨y,H1,I1,ry,q⟩=>thn (ha pins s1 σ H1 _ I1 q) fun ov s2 ⟨x,H2,I2,rx,a,C,dx,fs,ex,ea,c,n,l,q2⟩=>?_) hs
 subst ex
 obtain rfl:ov=Value.ref a:=rx
 exact kh I2 ea c n l ry fun s3 I3=>⟨σ,_,I3,q2⟩
def rO {op:Operator} {rd:V->V->Hp->VK->Prop} (ha:PE X o ta) (hv:PE X value tv) (hop:InOp X op rd):PS X (.AugAssign (.Attribute o f tpos) op value pos) (qa X.K ta tv rd f):=by
 intro pins s σ H D I h
 refine wpAny_AugAssign_AttributeAny (thn (ha pins s σ H _ I h) fun ov s1 ⟨x,H1,I1,rx,a,C,dx,fs,v,ex,ea,c,n,l,q⟩=>?_)
 subst ex
 obtain rfl:ov=Value.ref a:=rx
 refine kg I1 ea c n l fun u s2 I2 ru=>thn (hv pins s2 σ H1 _ I2 q) fun w3 s3 ⟨y,H2,I3,ry,q3⟩=>thn (hop pins s3 σ H2 v y u w3 _ I3 ru ry q3) fun w4 s4 ⟨z,H3,I4,rz,dx',fs',ea',l',q4⟩=>?_
 exact kh I4 ea' c n l' rz fun s5 I5=>⟨σ,_,I5,q4⟩
def rAdd:V->V->Hp->VK->Prop:=fun x y H Q=>∃ i j,x=.int i/\y=.int j/\Q (.int (i+j)) H
def yj:InOp X .Add rAdd:=by
 rintro pins s σ H x y u v Q I rx ry ⟨i,j,rfl,rfl,q⟩
 obtain ⟨t,rfl⟩:=(show ∃ t,u=Value.int i t from rx)
 obtain ⟨t',rfl⟩:=(show ∃ t',v=Value.int j t' from ry)
 exact PyProof.Rows.iadd_int ⟨.int (i+j),H,I.tok _,⟨_,rfl⟩,q⟩
def wY {pl:Sem Bool} {m:Str} {apos:Pos} {args:List Expr} {pins:List (Addr×Obj)} {s:Shared} {σ:St} {H:Hp} {Q:Value->Shared->Prop} {te:TE} (he:PE X e te) (I:Inv X pins σ H s)
  (h:te σ H fun x H1=>∃ a C dx fs g,x=.ref a/\H1 a=some (.ins C dx fs)/\Cls X.K C/\Meth X.K C m g/\fs.lookup m=none∧
   ∀ s1,Inv X pins σ H1 s1->wpAny (model X.prog X.w) X.A (callWith pos (.ref g) [.ref a] (backTo pos (starEach args X.env)) (backToKw pos (keywordEach [] X.env))) Q X.xe s1)
  (ht:eval (.Call (.Attribute e m apos) args [] pos) X.env=(do
   let ov <- eval e X.env
   standAt apos.atName
   let (f,first) <- holding [ov] (getMethod ov m pl)
   callWith pos f first (backTo pos (starEach args X.env)) (backToKw pos (keywordEach [] X.env)))) :
  wpAny (model X.prog X.w) X.A (eval (.Call (.Attribute e m apos) args [] pos) X.env) Q X.xe s:=by
 refine PySem.W.methodCall_KW (pl:=pl) (thn (he pins s σ H _ I h) fun u s1 ⟨x,H1,I1,rx,a,C,dx,fs,g,ex,ea,c,k,l,q⟩=>?_) ht
 subst ex
 obtain rfl:u=Value.ref a:=rx
 exact iH I1 ea c k l (q s1 I1)
end
section
variable {X:Cx} {pins:List (Addr×Obj)} {σ:St} {H:Hp} {s:Shared} {A:Around} {E:Value->Shared->Prop} {Q:Value->Shared->Prop} {c:Value} {b:Bool}
inductive TyOf (K:PySem.W.Frag) (H:Hp):V->Value->Prop where
 | non:TyOf K H .non (.type "NoneType")
 | bl (x:Bool):TyOf K H (.bl x) (.type "bool")
 | int (i:Int):TyOf K H (.int i) (.type "int")
 | str (x:Str):TyOf K H (.str x) (.type "str")
 | flt (x:UInt64):TyOf K H (.flt x) (.type "float")
 | lst {a:Addr} {xs:List V} (e:H a=some (.lst xs)):TyOf K H (.ref a) (.type "list")
 | frz {a:Addr} {o:Obj} {xs:List V} (e:H a=some (.frz o (.lst xs))):TyOf K H (.ref a) (.type "list")
 | tup {a:Addr} {xs:List V} (e:H a=some (.tup xs)):TyOf K H (.ref a) (.type "tuple")
 | dK {a:Addr} {kvs:List (Key×V)} (e:H a=some (.dK kvs)):TyOf K H (.ref a) (.type "dict")
 | dT {a:Addr} {kvs:List (List Key×V)} (e:H a=some (.dT kvs)):TyOf K H (.ref a) (.type "dict")
 | ins {a C dx:Addr} {fs:List (Str×V)} (e:H a=some (.ins C dx fs)) (cl:Cls K C) (ha:PySem.W.findIn K (.ref C) "__class__"=some (some (.builtin "object.__class__")))
     (hn:PySem.W.specialIn K (.builtin "object.__class__") "__get__"=some (some (.builtin "getset_descriptor.__get__"))) (htk:PySem.W.takesIn K (.builtin "object.__class__")=some true)
     (hm:PySem.W.mroIn K C (.type "object")=some true):TyOf K H (.ref a) (.ref C)
def ig {x:V} {u t:Value} (I:Inv X pins σ H s) (rx:RelV x u) (ty:TyOf X.K H x t) (e:PySem.W.kitOne X.K t c=some b) (h:∀ tk,Q (.bool b) {s with toks:=tk}) :
  wpAny (model X.prog X.w) A (call (.builtin "isinstance") [u,c]) Q E s:=by
 cases ty with
 | non=>cases (show u=Value.none from rx);exact PySem.W.kia_one PySem.W.kitx_none I.kIn True.intro e (fun z=>nomatch z) h
 | bl y=>cases (show u=Value.bool y from rx);exact PySem.W.kia_one PySem.W.kitx_bool I.kIn True.intro e (fun z=>nomatch z) h
 | int i=>obtain ⟨t,q⟩:=(show ∃ t,u=Value.int i t from rx);cases q;exact PySem.W.kia_one PySem.W.kitx_int I.kIn True.intro e (fun z=>nomatch z) h
 | str y=>obtain ⟨t,q⟩:=(show ∃ t,u=Value.str y t from rx);cases q;exact PySem.W.kia_one PySem.W.kitx_str I.kIn True.intro e (fun z=>nomatch z) h
 | flt y=>obtain ⟨t,q⟩:=(show ∃ t,u=Value.float y t from rx);cases q;exact PySem.W.kia_one PySem.W.kitx_float I.kIn True.intro e (fun z=>nomatch z) h
 | @lst a xs ea =>
  cases (show u=Value.ref a from rx)
  obtain ⟨_,_,n,_,h1⟩:=(show ObjOk X.prog X.w H s.heap a (.lst xs) from I.hok a _ ea)
  exact PySem.W.kia_one PySem.W.kitx_list I.kIn ⟨_,h1,rfl⟩ e (fun z=>nomatch z) h
 | @frz a ob xs ea =>
  cases (show u=Value.ref a from rx)
  obtain ⟨_,_,_,n,_,h1⟩:=(show ObjOk X.prog X.w H s.heap a (.frz ob (.lst xs)) from I.hok a _ ea)
  exact PySem.W.kia_one PySem.W.kitx_list I.kIn ⟨_,h1,rfl⟩ e (fun z=>nomatch z) h
 | @tup a xs ea =>
  cases (show u=Value.ref a from rx)
  obtain ⟨_,_,_,p⟩:=(show ObjOk X.prog X.w H s.heap a (.tup xs) from I.hok a _ ea)
  obtain ⟨o,h1,h2,_⟩:=p
  exact PySem.W.kia_one PySem.W.kitx_tuple I.kIn ⟨o,h1,h2⟩ e (fun z=>nomatch z) h
 | @dK a kvs ea =>
  cases (show u=Value.ref a from rx)
  obtain ⟨_,_,vs,_,p⟩:=(show ObjOk X.prog X.w H s.heap a (.dK kvs) from I.hok a _ ea)
  obtain ⟨o,es,ep,h1,h2,_⟩:=p
  exact PySem.W.kia_one PySem.W.kitx_dict I.kIn ⟨o,h1,h2.1⟩ e (fun z=>nomatch z) h
 | @dT a kvs ea =>
  cases (show u=Value.ref a from rx)
  obtain ⟨_,_,xs,_,o,es,ep,h1,h2,_⟩:=(show ObjOk X.prog X.w H s.heap a (.dT kvs) from I.hok a _ ea)
  exact PySem.W.kia_one PySem.W.kitx_dict I.kIn ⟨o,h1,h2.1⟩ e (fun z=>nomatch z) h
 | @ins a C dx fs ea cl ha hn htk hm =>
  cases (show u=Value.ref a from rx)
  obtain ⟨mA,O,_⟩:=j5 I.hok ea
  obtain ⟨od,J,_⟩:=O.look
  exact PySem.W.kia_one (PySem.W.kitx_own (cl.get _) cl.hd ha hn htk hm) I.kIn J e (fun z=>nomatch z) h
end
structure Room (k:Nat) (A:Around):Prop where
 hd:A.handled=none
 dp:A.depth+3*k+5<recursionLimit
 un:A.units+16*k+200<cLine
def Room.mono {j k:Nat} {A:Around} (r:Room k A) (h:j<=k):Room j A:=⟨r.hd,by have:=r.dp;omega,by have:=r.un;omega⟩
def Room.deeper {k:Nat} {A:Around} (r:Room (k+1) A) (env:Env):Room k (A.deeper env):=
 ⟨r.hd,by have:=r.dp;show A.depth+1+3*k+5<_;omega,by have:=r.un;show A.units+3+16*k+200<_;omega⟩
def oV {A:Around} {C:Addr} {us:List Value} {kw:List (Str×Value)}:(A.under (.builtin "type.__call__" ⟨.ref C::us,kw⟩)).depth=A.depth+1:=by
 first | rfl | simp [Around.under,Code.weight,Code.isCreation,Code.isGuard,Code.isCaller,Code.frames,Code.isFrame,guardIds]
def oW {A:Around} {C:Addr} {us:List Value} {kw:List (Str×Value)}:(A.under (.builtin "type.__call__" ⟨.ref C::us,kw⟩)).units=A.units+1:=by
 first | rfl | simp [Around.under,Code.cUnits,Code.frames,Code.isFrame]
def Room.make {k:Nat} {A:Around} (r:Room (k+1) A) (C:Addr) (us:List Value) (kw:List (Str×Value)):Room k (A.under (.builtin "type.__call__" ⟨.ref C::us,kw⟩)):=
 ⟨r.hd,by have:=r.dp;rw [oV];omega,by have:=r.un;rw [oW];omega⟩
def Room.depth {k:Nat} {A:Around} (r:Room k A):A.depth<recursionLimit:=by have:=r.dp;omega
def Room.units {k:Nat} {A:Around} (r:Room k A):A.units+64<cLine:=by have:=r.un;omega
def tNil:TA:=fun _ H Q=>Q [] H
def Ai (ta:TE) (tr:TA):TA:=fun σ H Q=>ta σ H fun x H1=>tr σ H1 fun xs H2=>Q (x::xs) H2
section
variable {X:Cx} {e:Expr} {es:List Expr} {te:TE} {t:TA} {pos:Pos}
def iI:PA X [] tNil:=fun _ _ _ _ H Q I h=>Calls.spliced_nil ⟨[],H,I,.nil,h⟩
def fR (ha:PE X e te) (hr:PA X es t) (hs:starEach (e::es) X.env=(false,eval e X.env)::starEach es X.env:=by rfl):PA X (e::es) (Ai te t):=by
 intro pos pins s σ H Q I h
 rw [hs]
 show wpAny _ _ (spliced ((false,eval e X.env)::backTo pos (starEach es X.env))) _ _ s
 refine Calls.spliced_cons (thn (ha pins s σ H _ I h) fun u s1 ⟨x,H1,I1,r1,q1⟩=>?_)
 exact thn (hr pos pins s1 σ H1 _ I1 q1) fun us s2 ⟨xs,H2,I2,r2,q2⟩=>⟨x::xs,H2,I2,.cons r1 r2,q2⟩
def tTup (t:TA):TE:=fun σ H Q=>t σ H fun xs H1=>xs.length<=sizeLine/\∀ p,H1 p=none->Q (.ref p) (upd H1 p (.tup xs))
def tLst (t:TA):TE:=fun σ H Q=>t σ H fun xs H1=>xs.length<=sizeLine/\∀ p,H1 p=none->Q (.ref p) (upd H1 p (.lst xs))
def sR {x1} (h:PA X es t):PE X (.Tuple es x1 pos) (tTup t):=by
 intro pins s σ H Q I hq
 refine wpAny_Tuple_spliced (thn (h pos pins s σ H _ I hq) fun us s1 ⟨xs,H1,I1,r,z,q⟩=>⟨by rw [<- r.length];exact z,?_⟩)
 have hf:H1 s1.heap.objs.size=none:=I1.hok.fresh (nL _)
 refine ⟨.ref s1.heap.objs.size,upd H1 s1.heap.objs.size (.tup xs),I1.laid (t':=s1.toks) (fun b u e=>gP _ e) (nL _) ?_,rfl,q _ hf⟩
 exact ⟨z,us,r,⟨_,Heap.get?_push_size _ rfl,rfl,_,rfl⟩⟩
def sS (h:PA X es t):PE X (.List es pos) (tLst t):=by
 intro pins s σ H Q I hq
 refine wpAny_List_spliced (thn (h pos pins s σ H _ I hq) fun us s1 ⟨xs,H1,I1,r,z,q⟩=>⟨by rw [<- r.length];exact z,?_⟩)
 have hf:H1 s1.heap.objs.size=none:=I1.hok.fresh (nL _)
 refine ⟨.ref s1.heap.objs.size,upd H1 s1.heap.objs.size (.lst xs),I1.laid (t':=s1.toks) (fun b u e=>gP _ e) (nL _) ?_,rfl,q _ hf⟩
 exact ⟨z,us,0,r,Heap.get?_push_size _ rfl⟩
end
abbrev Sp:=List V->Hp->VK->XK->Prop
abbrev CXT:=List Env->Hp->Shared->XK->Value->Shared->Prop
structure Env0 (P:Program) (w:World) (K:PySem.W.Frag) (mg:Str->Option Value) (base:Heap) (A:Around) (outer:List Env) (s:Shared) (H:Hp):Prop where
 frames:A.frames=some outer
 mod:Mod K mg base
 bs:∀ b o,base.get? b=some o->s.heap.get? b=some o/\H b=none
 bsz:base.objs.size<=s.heap.objs.size
 funs:s.heap.FunFrames base outer
 frf:∀ b∈frs outer,H b=none
 hok:HOk P w H s.heap
 bare:AllBare s.gens
def CE (outer:List Env) (P:Program) (w:World) (H:Hp) (s:Shared) (Q:VK) (u:Value) (s':Shared):Prop:=
 ∃ v H',s'.os=s.os/\AllBare s'.gens/\Un (frs outer) [] H H' s.heap s'.heap/\HOk P w H' s'.heap/\RelV v u/\Q v H'
def CR (CX:CXT) (outer:List Env) (P:Program) (w:World) (H:Hp) (s:Shared) (Q:VK) (E:XK) (r:Result) (s':Shared):Prop:=
 match r with
 | .ok (.ret u)=>CE outer P w H s Q u s'
 | .ok _=>False
 | .error e=>CX outer H s E e s'
structure FnOk (P:Program) (w:World) (K:PySem.W.Frag) (mg:Str->Option Value) (base:Heap) (CX:CXT) (k:Nat) (f:Addr) (fd:FuncData) (ps:List Str) (sp:Sp):Prop where
 len:∀ vs H Q E,sp vs H Q E->vs.length=ps.length
 run:∀ (A:Around) (outer:List Env) (s:Shared) (H:Hp) (args:Args) (us:List Value) (vs:List V) (Q:VK) (E:XK),Room k A->Env0 P w K mg base A outer s H->BindsTo s fd args (ps.zip us)->Vals vs us->sp vs H Q E→
  codeAny (model P w) A (.call (.ref f) args) (CR CX outer P w H s Q E) s
def FnOk.imp {P:Program} {w:World} {K:PySem.W.Frag} {mg:Str->Option Value} {base:Heap} {CX:CXT} {k:Nat} {f:Addr} {fd:FuncData} {ps:List Str} {sp sp':Sp} (F:FnOk P w K mg base CX k f fd ps sp)
  (h:∀ vs H Q E,sp' vs H Q E->sp vs H Q E):FnOk P w K mg base CX k f fd ps sp':=
 ⟨fun vs H Q E q=>F.len vs H Q E (h _ _ _ _ q),fun A outer s H args us vs Q E hr he hb hv hs=>F.run A outer s H args us vs Q E hr he hb hv (h _ _ _ _ hs)⟩
def Env0.make {P:Program} {w:World} {K:PySem.W.Frag} {mg:Str->Option Value} {base:Heap} {A:Around} {outer:List Env} {s:Shared} {H:Hp} (e:Env0 P w K mg base A outer s H) (C:Addr) (us:List Value) (kw:List (Str×Value)) :
  Env0 P w K mg base (A.under (.builtin "type.__call__" ⟨.ref C::us,kw⟩)) outer s H:=⟨by first | exact e.frames | (simpa [Around.under,Code.envs,Code.isFrame,pushEnvs] using e.frames),e.mod,e.bs,e.bsz,e.funs,e.frf,e.hok,e.bare⟩
section
variable {X:Cx} {pins:List (Addr×Obj)} {σ:St} {H:Hp} {s s':Shared}
def Inv.env0 (I:Inv X pins σ H s):Env0 X.prog X.w X.K X.mg X.base X.A X.stack s H:=
 ⟨I.ok.frames,I.ok.mod,I.bs,Nat.le_trans I.ok.bsz I.sz,I.stack,I.stkFree,I.hok,I.bare⟩
def Inv.after {Q:VK} {u:Value} (I:Inv X pins σ H s) (h:CE X.stack X.prog X.w H s Q u s'):EP X pins σ Q u s':=by
 obtain ⟨v,H',os,bare,un,hok,r,q⟩:=h
 obtain ⟨hh,g,d,t,os'⟩:=s'
 obtain rfl:os'=s.os:=os
 exact ⟨v,H',I.call (h':=hh) (g':=g) (d':=d) (t':=t) (ch:=[]) un hok bare (fun b z=>absurd z (by simp)),r,q⟩
end
def sT (sp:Sp) (dvs:List V) (E:XK) (t:TA):TE:=fun σ H Q=>t σ H fun vs H1=>sp (vs++dvs) H1 Q E
def sU (C:Addr) (m:Str) (sp:Sp) (dvs:List V) (E:XK) (ta:TE) (t:TA):TE:=fun σ H Q=>ta σ H fun x H1=>∃ a dx fs,x=.ref a/\H1 a=some (.ins C dx fs)/\fs.lookup m=none∧
 t σ H1 fun vs H2=>sp (x::(vs++dvs)) H2 Q E
noncomputable def wZ (C:Addr) (sp:Sp) (dvs:List V) (E:XK) (t:TA):TE:=fun σ H Q=>t σ H fun vs H1=>∀ x dx,H1 x=none->H1 dx=none->dx≠x→
 sp (.ref x::(vs++dvs)) (upd (upd H1 dx (.own x)) x (.ins C dx [])) (fun v H2=>v=.non/\Q (.ref x) H2) E
def Binds (K:PySem.W.Frag) (fd:FuncData) (ps:List Str) (ds:List Value):Prop:=
 ∀ (s:Shared) (us:List Value),K.In s.heap->(us++ds).length=ps.length->BindsTo s fd ⟨us,[]⟩ (ps.zip (us++ds))
def Binds.all {K:PySem.W.Frag} {fd:FuncData} {ps:List Str} (h:∀ us:List Value,us.length=ps.length->bindArgs fd ⟨us,[]⟩=pure (ps.zip us)):Binds K fd ps []:=fun s us _ hl=>by
 rw [List.append_nil] at hl ⊢
 exact .of_eq (h us hl)
def iJ (CX:CXT) (X:Cx) (E:XK):Prop:=∀ (pins:List (Addr×Obj)) (σ:St) (H:Hp) (s:Shared) (e:Value) (s':Shared),Inv X pins σ H s->CX X.stack H s E e s'->X.xe e s'
section
variable {X:Cx} {CX:CXT} {k:Nat} {f C:Addr} {fd:FuncData} {ps:List Str} {sp:Sp} {dvs:List V} {ds:List Value} {E:XK} {x m:Str} {p pos apos:Pos} {e o:Expr} {es:List Expr} {ta:TE} {t:TA}
def oX {pins:List (Addr×Obj)} {σ:St} {H:Hp} {s:Shared} {Q:VK} {us:List Value} {vs:List V} (F:FnOk X.prog X.w X.K X.mg X.base CX k f fd ps sp) (hr:Room k X.A) (hb:Binds X.K fd ps ds) (hd:Vals dvs ds) (hx:iJ CX X E)
  (I:Inv X pins σ H s) (r:Vals vs us) (h:sp (vs++dvs) H Q E):wpAny (model X.prog X.w) X.A (call (.ref f) us) (EP X pins σ Q) X.xe s:=by
 have r2:Vals (vs++dvs) (us++ds):=r.append hd
 have hl:(us++ds).length=ps.length:=by rw [<- r2.length];exact F.len _ _ _ _ h
 refine wpAny_call (codeAny_mono (F.run X.A X.stack s H ⟨us,[]⟩ (us++ds) (vs++dvs) Q E hr I.env0 (hb s us I.kIn hl) r2 h) fun r s' hq=>?_)
 cases r with
 | error e=>exact hx pins σ H s e s' I hq
 | ok fl =>
  cases fl with
  | ret u=>exact I.after hq
  | next=>exact False.elim hq
  | brk=>exact False.elim hq
  | cont=>exact False.elim hq
def u8 (F:FnOk X.prog X.w X.K X.mg X.base CX k f fd ps sp) (hr:Room k X.A) (hg:Gl X x) (hm:X.mg x=some (.ref f)) (hk:PySem.W.keepIn X.K (.ref f)=true) (hb:Binds X.K fd ps ds) (hd:Vals dvs ds) (hx:iJ CX X E)
  (ha:PA X (e::es) t) (hdb:(x==("__debug__":Str))=false:=by decide) (he:starEach (e::es) X.env=(false,eval e X.env)::starEach es X.env:=by rfl) (hpl:(backTo pos (starEach es X.env)).any (·.1)=false:=by rfl) :
  PE X (.Call (.Name x p) (e::es) [] pos) (sT sp dvs E t):=by
 intro pins s σ H Q I h
 refine wpAny_Call_Name_kw (ms I hg hm ?_ hdb)
 refine PySem.W.callWith_K (h₀:=X.base) I.ok.mod.kin hk (thn (ha pos pins s σ H _ I h) fun us s1 ⟨vs,H1,I1,r,q⟩=>⟨I1.kIn,?_⟩) he hpl
 exact oX F hr hb hd hx I1 r q
def u9 {pl:Sem Bool} (he:PE X o ta) (c:Cls X.K C) (hm:Meth X.K C m f) (F:FnOk X.prog X.w X.K X.mg X.base CX k f fd ps sp) (hr:Room k X.A) (hb:Binds X.K fd ps ds) (hd:Vals dvs ds) (hx:iJ CX X E) (ha:PA X (e::es) t)
  (hst:starEach (e::es) X.env=(false,eval e X.env)::starEach es X.env:=by rfl) (hpl:(backTo pos (starEach es X.env)).any (·.1)=false:=by rfl)
  (ht:eval (.Call (.Attribute o m apos) (e::es) [] pos) X.env=(do
   let ov <- eval o X.env
   standAt apos.atName
   let (f,first) <- holding [ov] (getMethod ov m pl)
   callWith pos f first (backTo pos (starEach (e::es) X.env)) (backToKw pos (keywordEach [] X.env))):=by rfl) :
  PE X (.Call (.Attribute o m apos) (e::es) [] pos) (sU C m sp dvs E ta t):=by
 intro pins s σ H Q I h
 refine PySem.W.methodCall_KW (pl:=pl) (thn (he pins s σ H _ I h) fun u s1 ⟨x,H1,I1,rx,a,dx,fs,ex,ea,l,q⟩=>?_) ht
 subst ex
 obtain rfl:u=Value.ref a:=rx
 refine iH I1 ea c hm l ?_
 refine PySem.W.callWith_K (first:=[.ref a]) (h₀:=X.base) I.ok.mod.kin hm.kp (thn (ha pos pins s1 σ H1 _ I1 q) fun us s2 ⟨vs,H2,I2,r,q2⟩=>⟨I2.kIn,?_⟩) hst hpl
 exact oX (us:=.ref a::us) (vs:=.ref a::vs) F hr hb hd hx I2 (.cons rfl r) q2
def sV {pl:Sem Bool} (he:PE X o ta) (c:Cls X.K C) (hm:Meth X.K C m f) (F:FnOk X.prog X.w X.K X.mg X.base CX k f fd ps sp) (hr:Room k X.A) (hb:Binds X.K fd ps ds) (hd:Vals dvs ds) (hx:iJ CX X E)
  (ht:eval (.Call (.Attribute o m apos) [] [] pos) X.env=(do
   let ov <- eval o X.env
   standAt apos.atName
   let (f,first) <- holding [ov] (getMethod ov m pl)
   callWith pos f first (backTo pos (starEach [] X.env)) (backToKw pos (keywordEach [] X.env))):=by rfl) :
  PE X (.Call (.Attribute o m apos) [] [] pos) (sU C m sp dvs E ta tNil):=by
 intro pins s σ H Q I h
 refine PySem.W.methodCall_KW (pl:=pl) (thn (he pins s σ H _ I h) fun u s1 ⟨x,H1,I1,rx,a,dx,fs,ex,ea,l,q⟩=>?_) ht
 subst ex
 obtain rfl:u=Value.ref a:=rx
 refine iH I1 ea c hm l ?_
 exact PySem.W.callWith_K0 (first:=[.ref a]) I1.kIn hm.kp (oX (us:=[.ref a]) (vs:=[.ref a]) F hr hb hd hx I1 (.cons rfl .nil) q)
structure Mk (K:PySem.W.Frag) (C f:Addr):Prop where
 makes:PySem.W.makesIn K C=true
 init:PySem.W.findIn K (.ref C) "__init__"=some (some (.ref f))
 fn:PySem.W.isFn K (.ref f)=true
 kp:PySem.W.keepIn K (.ref C)=true
def sW {pins:List (Addr×Obj)} {σ:St} {H:Hp} {s:Shared} {Q:VK} {us:List Value} {vs:List V} (M:Mk X.K C f) (F:FnOk X.prog X.w X.K X.mg X.base CX k f fd ps sp) (hr:Room (k+1) X.A) (hb:Binds X.K fd ps ds) (hd:Vals dvs ds)
  (hx:iJ CX X E) (I:Inv X pins σ H s) (r:Vals vs us)
  (h:∀ x dx,H x=none->H dx=none->dx≠x->sp (.ref x::(vs++dvs)) (upd (upd H dx (.own x)) x (.ins C dx [])) (fun v H2=>v=.non/\Q (.ref x) H2) E) :
  wpAny (model X.prog X.w) X.A (call (.ref C) us) (EP X pins σ Q) X.xe s:=by
 have hq:=h (s.heap.objs.size+1) s.heap.objs.size (I.hok.fresh (Nat.le_succ _)) (I.hok.fresh (nL _)) (Nat.ne_of_lt (Nat.lt_succ_self _))
 have I2:=Inv.made (C:=C) I
 have r2:Vals (V.ref (s.heap.objs.size+1)::(vs++dvs)) (Value.ref (s.heap.objs.size+1)::(us++ds)):=.cons rfl (r.append hd)
 have hl:(Value.ref (s.heap.objs.size+1)::us++ds).length=ps.length:=by
  have e:=r2.length
  rw [F.len _ _ _ _ hq] at e
  exact e.symm
 refine wpAny_call (sQ (f:=f) I.kIn M.makes M.init (beq_iff_eq.mp M.fn) (codeAny_mono (F.run _ X.stack _ _ ⟨Value.ref (s.heap.objs.size+1)::us,[]⟩ (Value.ref (s.heap.objs.size+1)::(us++ds)) _ _ E (hr.make C us [])
  (I2.env0.make C us []) (hb _ (Value.ref (s.heap.objs.size+1)::us) I2.kIn hl) r2 hq) fun r s' hq'=>?_))
 cases r with
 | error e=>exact hx pins σ _ _ e s' I2 hq'
 | ok fl =>
  cases fl with
  | ret u =>
   obtain ⟨v,H',I3,rv,ev,q3⟩:=I2.after hq'
   subst ev
   exact ⟨rv,⟨V.ref (s.heap.objs.size+1),H',I3,rfl,q3⟩⟩
  | next=>exact False.elim hq'
  | brk=>exact False.elim hq'
  | cont=>exact False.elim hq'
def vc (M:Mk X.K C f) (F:FnOk X.prog X.w X.K X.mg X.base CX k f fd ps sp) (hr:Room (k+1) X.A) (hg:Gl X x) (hm:X.mg x=some (.ref C)) (hb:Binds X.K fd ps ds) (hd:Vals dvs ds) (hx:iJ CX X E)
  (ha:PA X (e::es) t) (hdb:(x==("__debug__":Str))=false:=by decide) (he:starEach (e::es) X.env=(false,eval e X.env)::starEach es X.env:=by rfl) (hpl:(backTo pos (starEach es X.env)).any (·.1)=false:=by rfl) :
  PE X (.Call (.Name x p) (e::es) [] pos) (wZ C sp dvs E t):=by
 intro pins s σ H Q I h
 refine wpAny_Call_Name_kw (ms I hg hm ?_ hdb)
 refine PySem.W.callWith_K (h₀:=X.base) I.ok.mod.kin M.kp (thn (ha pos pins s σ H _ I h) fun us s1 ⟨vs,H1,I1,r,q⟩=>⟨I1.kIn,?_⟩) he hpl
 exact sW M F hr hb hd hx I1 r q
end
section
variable {X:Cx} {CX:CXT} {k:Nat} {f C:Addr} {fd:FuncData} {ps ks:List Str} {sp:Sp} {E:XK} {x m:Str} {p pos apos kpos:Pos} {e o:Expr} {es:List Expr} {kws:List Keyword} {te ta:TE} {t tk:TA} {nm:Option Str}
variable {g:List Value->List Value->List Value} {gV:List V->List V->List V}
end
structure FnScope (N P:List Str) (sc:Scope):Prop where
 kind:sc.kind=.function
 co:sc.isCoroutine=false
 gen:sc.isGenerator=false
 nd:N.Nodup
 pre:N.take P.length=P
 par:∀ x∈P,sc.names.lookup x=some .local∨sc.names.lookup x=some .cell
 nofree:∀ y∈sc.names,y.2≠.free
def lA {kindOf:Str->Option NameKind} {x:Str}:∀ {binds:List (Str×Value)} {m:Str->Option Value},(∀ v,(x,v)∉binds)->bindL kindOf binds m x=m x
 | [],_,_=>rfl
 | (n,v)::r,m,h=>by
  unfold bindL
  rw [lA fun w hw=>h w (List.mem_cons_of_mem _ hw)]
  split
  · have:x≠n:=by rintro rfl;exact h v List.mem_cons_self
    simp [this]
  · rfl
def lB {kindOf:Str->Option NameKind} {x:Str}:∀ {binds:List (Str×Value)} {m:Str->Option Value},(∀ v,(x,v)∉binds)->bindC kindOf binds m x=m x
 | [],_,_=>rfl
 | (n,v)::r,m,h=>by
  unfold bindC
  rw [lB fun w hw=>h w (List.mem_cons_of_mem _ hw)]
  split
  · rfl
  · have:x≠n:=by rintro rfl;exact h v List.mem_cons_self
    simp [this]
def lC {kindOf:Str->Option NameKind} {x:Str} {v:Value}:∀ {P:List Str} {vs:List Value} {i:Nat} {m:Str->Option Value},P.Nodup->P[i]?=some x->vs[i]?=some v->kindOf x=some .local→
  bindL kindOf (P.zip vs) m x=some v
 | [],_,_,_,_,h,_,_=>by simp at h
 | _::_,[],_,_,_,_,h,_=>by simp at h
 | p::P,w::vs,0,m,nd,h1,h2,hk=>by
  simp at h1 h2;subst h1;subst h2
  show bindL kindOf ((p,w)::P.zip vs) m p=_
  unfold bindL
  rw [lA fun v hv=>(List.nodup_cons.mp nd).1 (List.of_mem_zip hv).1,if_pos hk]
  simp
 | p::P,w::vs,i+1,m,nd,h1,h2,hk=>by
  show bindL kindOf ((p,w)::P.zip vs) m x=_
  unfold bindL
  exact lC (i:=i) (List.nodup_cons.mp nd).2 (by simpa using h1) (by simpa using h2) hk
def lD {kindOf:Str->Option NameKind} {x:Str} {v:Value}:∀ {P:List Str} {vs:List Value} {i:Nat} {m:Str->Option Value},P.Nodup->P[i]?=some x->vs[i]?=some v->kindOf x≠some .local→
  bindC kindOf (P.zip vs) m x=some v
 | [],_,_,_,_,h,_,_=>by simp at h
 | _::_,[],_,_,_,_,h,_=>by simp at h
 | p::P,w::vs,0,m,nd,h1,h2,hk=>by
  simp at h1 h2;subst h1;subst h2
  show bindC kindOf ((p,w)::P.zip vs) m p=_
  unfold bindC
  rw [lB fun v hv=>(List.nodup_cons.mp nd).1 (List.of_mem_zip hv).1,if_neg hk]
  simp
 | p::P,w::vs,i+1,m,nd,h1,h2,hk=>by
  show bindC kindOf ((p,w)::P.zip vs) m x=_
  unfold bindC
  exact lD (i:=i) (List.nodup_cons.mp nd).2 (by simpa using h1) (by simpa using h2) hk
def eX (N:List Str) (vs:List V):St:=vs.map some++List.replicate (N.length-vs.length) none
noncomputable def jY (CX:CXT) (P:Program) (w:World) (K:PySem.W.Frag) (mg:Str->Option Value) (base:Heap) (N:List Str) (qual:Str) (scope:Scope) (f:Addr) (cd:Value) (A:Around) (outer:List Env) (s:Shared) (H:Hp) (E:XK):Cx where
 prog:=P
 w:=w
 K:=K
 mg:=mg
 base:=base
 A:=A.deeper (envOfC qual scope s.heap.objs.size f cd)
 N:=N
 s₀:=s
 H₀:=H
 env:=envOfC qual scope s.heap.objs.size f cd
 outer:=outer
 stack:=envOfC qual scope s.heap.objs.size f cd::outer
 ex:=[]
 calm:=true
 fn:=fun _=>true
 pn:=[]
 xe:=fun e s'=>wpAny (model P w) (A.deeper (envOfC qual scope s.heap.objs.size f cd)) (leaving (envOfC qual scope s.heap.objs.size f cd) e) (fun _ s''=>CX outer H s E e s'') (fun e' s''=>CX outer H s E e' s'') s'
def nF {sc:Scope} {n:Nat} {x:Str} (h:sc.names.lookup x=some .cell):∃ c,(cellsFrom n sc.names []).lookup x=some c:=by
 have q:=PySem.W.cellsFrom_some sc.names n [] (.inl h)
 exact Option.isSome_iff_exists.mp q
def rP {CX:CXT} {P:Program} {w:World} {K:PySem.W.Frag} {mg:Str->Option Value} {base:Heap} {N ps:List Str} {qual:Str} {scope:Scope} {f:Addr} {cd:Value} {A:Around} {outer:List Env} {s s1:Shared} {H:Hp} {E:XK} {us:List Value} {vs:List V}
  (S:FnScope N ps scope) (hd:A.handled=none) (e0:Env0 P w K mg base A outer s H) (hl:vs.length=ps.length) (r:Vals vs us)
  (x:InCallC s s.heap.objs.size (bindL (envOfC qual scope s.heap.objs.size f cd).kindOf (ps.zip us) fun _=>none) (cellsFrom (s.heap.objs.size+1) scope.names []) (bindC (envOfC qual scope s.heap.objs.size f cd).kindOf (ps.zip us) fun _=>none) s1) :
  Inv (jY CX P w K mg base N qual scope f cd A outer s H E) [] (eX N vs) H s1:=by
 have hpl:ps.length<=N.length:=by have:=congrArg List.length S.pre;rw [List.length_take] at this;omega
 obtain ⟨h1,tk,rfl,hk⟩:=x.done
 have noA:∀ b:Addr,b∉(jY CX P w K mg base N qual scope f cd A outer s H E).ex:=fun b z=>absurd (show b∈([]:List Addr) from z) (by simp)
 refine ⟨⟨e0.mod,S.kind,rfl,rfl,nL _,fun y z c h1 h2=>?_,fun y hy=>?_,fun y c _ h=>?_,fun _=>hd,Around.frames_deeper e0.frames,.inr ⟨rfl,rfl⟩,fun b z=>absurd z (noA b),e0.bs,e0.bsz,fun b _ _=>noA b,fun b z=>absurd z (noA b),e0.funs,e0.frf⟩,
  rfl,e0.bare,Un.kept hk,⟨_,x.toInCall.ns,fun i y v h1 h2 h3=>?_⟩,fun y c h=>⟨_,x.cell y c h⟩,e0.hok.fresh (Nat.le_refl _),fun y c h=>?_,fun p hp=>absurd (show p∈([]:List (Addr×Obj)) from hp) (by simp),e0.hok.kept hk,?_⟩
 · exact name_of_addr x.apart (PySem.mem_of_lookup h1) (PySem.mem_of_lookup h2)
 · have hy:scope.names.lookup y=some .cell∨scope.names.lookup y=some .free:=hy
   rcases hy with hy | hy
   · exact nF hy
   · exact absurd rfl (S.nofree _ (PySem.mem_of_lookup hy))
 · exact Nat.le_of_lt (x.above y c (PySem.mem_of_lookup h))
 · have hi:i<vs.length:=by
    unfold eX at h2
    by_cases hi:i<vs.length
    · exact hi
    · rw [List.getElem?_append_right (by simpa using hi)] at h2
      rw [List.getElem?_replicate] at h2
      split at h2<;>cases h2
   have ha:vs[i]?=some v:=by
    unfold eX at h2
    rw [List.getElem?_append_left (by simpa using hi),List.getElem?_map] at h2
    cases e:vs[i]? with
    | none=>rw [e] at h2;cases h2
    | some a=>rw [e] at h2;cases h2;rfl
   obtain ⟨u,hu,rv⟩:=r.get ha
   have hp:ps[i]?=some y:=by
    rw [<- S.pre,List.getElem?_take_of_lt (by omega)];exact h1
   have ndP:ps.Nodup:=by rw [<- S.pre];exact S.nd.sublist (List.take_sublist _ _)
   refine ⟨u,rv,?_⟩
   rcases S.par y (List.mem_of_getElem? hp) with k | k
   · exact .inl ⟨k,lC ndP hp hu k⟩
   · obtain ⟨c,e⟩:=nF (n:=s.heap.objs.size+1) k
     refine .inr ⟨.inl k,c,e,?_⟩
     have q:=x.cell y c e
     rw [lD ndP hp hu (by show scope.names.lookup y≠_;rw [k];decide)] at q
     exact q
 · exact e0.hok.fresh (Nat.le_of_lt (x.above y c (PySem.mem_of_lookup h)))
 · unfold eX
   show _=N.length
   rw [List.length_append,List.length_map,List.length_replicate]
   omega
def Aj {CX:CXT} {P:Program} {w:World} {K:PySem.W.Frag} {mg:Str->Option Value} {base:Heap} {k:Nat} {f:Addr} {name qual:Str} {params:Arguments} {body:List Stmt} {scope:Scope} {dV kV doc pm cdv ct oc:Value} {an od:Option Addr}
  {osl:Array (Option Value)} {N ps:List Str} {sp:Sp} (lk:K.lookup f=some ⟨oc,od,.func (PySem.W.fnOf name qual params body scope dV kV doc pm an cdv ct),osl⟩) (hcd:PySem.W.codeIn K cdv qual=true) (S:FnScope N ps scope)
  (len:∀ vs H Q E,sp vs H Q E->vs.length=ps.length)
  (hbody:∀ (A:Around) (outer:List Env) (s:Shared) (H:Hp) (vs:List V) (Q:VK) (E:XK),Room k (A.deeper (envOfC qual scope s.heap.objs.size f cdv))->sp vs H Q E→
   ∃ t,PSs (jY CX P w K mg base N qual scope f cdv A outer s H E) body t/\t {nx:=fun _ H'=>Q .non H',rt:=Q} (eX N vs) H) :
  FnOk P w K mg base CX (k+1) f (PySem.W.fnOf name qual params body scope dV kV doc pm an cdv ct) ps sp:=by
 refine ⟨len,fun A outer s H args us vs Q E hr e0 hb r hsp=>?_⟩
 have hl:=len _ _ _ _ hsp
 have KX:K.In s.heap:=e0.mod.kin.keeps fun b o e=>(e0.bs b o e).1
 have lim:s.heap.NoLimit:=e0.mod.nolimit.keeps fun b o e=>(e0.bs b o e).1
 have hkind:∀ y∈ps.zip us,scope.names.lookup y.1=some .local∨(scope.names.lookup y.1=some .cell/\((cellsFrom (s.heap.objs.size+1) scope.names []).lookup y.1).isSome=true):=fun ⟨n,v⟩ hy=>by
  rcases S.par n (List.of_mem_zip hy).1 with q | q
  · exact .inl q
  · exact .inr ⟨q,PySem.W.cellsFrom_some _ _ _ (.inl q)⟩
 refine codeAny_call_function hr.depth (KX _ _ lk) rfl S.co S.gen rfl (PySem.W.codeRec_of KX hcd) (hb _ _ _ _ ?_)
 refine wpAny_newFunctionEnv_cells S.kind hkind fun env he s1 x=>?_
 subst he
 refine ⟨lim.keeps x.toInCall.keep,codeAny_func ?_⟩
 obtain ⟨t,ht,hq⟩:=hbody A outer s H vs Q E (hr.deeper _) hsp
 have I:Inv (jY CX P w K mg base N qual scope f cdv A outer s H E) [] (eX N vs) H s1:=rP S hr.hd e0 hl r x
 refine wpAny_mono (ht [] s1 (eX N vs) H _ I hq) (fun fl s' hs=>?_) fun e s' hs=>hs
 have fin:∀ {σ':St} {H':Hp} {v:V} {u:Value},Inv (jY CX P w K mg base N qual scope f cdv A outer s H E) [] σ' H' s'->RelV v u->Q v H'->CE outer P w H s Q u s':=
  fun {σ' H' v u} J rv q=>⟨v,H',J.os,J.bare,J.base,J.hok,rv,q⟩
 cases fl with
 | ret u =>
  obtain ⟨v,σ',H',J,rv,q⟩:=hs
  exact fin J rv q
 | next =>
  obtain ⟨σ',H',J,q⟩:=hs
  exact fin (v:=V.non) (u:=Value.none) J rfl q
 | brk =>
  obtain ⟨_,_,_,q⟩:=hs
  exact False.elim q
 | cont =>
  obtain ⟨_,_,_,q⟩:=hs
  exact False.elim q
section
variable {X:Cx} {x:Str} {p pos:Pos} {e:Expr} {es:List Expr} {t:TA} {id T:String} {r:List V->Hp->VK->Prop}
def tCB (r:List V->Hp->VK->Prop) (t:TA):TE:=fun σ H Q=>t σ H fun vs H1=>r vs H1 Q
def sX (hc:CallR X (.builtin id) r) (hg:Gl X x) (hm:X.mg x=none) (hv:bootBuiltins x=some (.builtin id)) (ha:PA X (e::es) t) (hn:x≠"__name__":=by decide) (hdb:(x==("__debug__":Str))=false:=by decide)
  (he:starEach (e::es) X.env=(false,eval e X.env)::starEach es X.env:=by rfl) (hpl:(backTo pos (starEach es X.env)).any (·.1)=false:=by rfl):PE X (.Call (.Name x p) (e::es) [] pos) (tCB r t):=by
 intro pins s σ H Q I h
 refine wpAny_Call_Name_kw (kb I hg hm hv ?_ hn hdb)
 exact PyProof.Rows.callWith_builtin1 (thn (ha pos pins s σ H _ I h) fun us s1 ⟨vs,H1,I1,r1,q1⟩=>hc pins s1 σ H1 vs us Q I1 r1 q1) he hpl
def rQ (hc:CallR X (.type T) r) (hg:Gl X x) (hm:X.mg x=none) (hv:bootBuiltins x=some (.type T)) (ha:PA X (e::es) t) (hn:x≠"__name__":=by decide) (hdb:(x==("__debug__":Str))=false:=by decide)
  (he:starEach (e::es) X.env=(false,eval e X.env)::starEach es X.env:=by rfl) (hpl:(backTo pos (starEach es X.env)).any (·.1)=false:=by rfl):PE X (.Call (.Name x p) (e::es) [] pos) (tCB r t):=by
 intro pins s σ H Q I h
 refine wpAny_Call_Name_kw (kb I hg hm hv ?_ hn hdb)
 exact PyProof.Rows.callWith_type1 (thn (ha pos pins s σ H _ I h) fun us s1 ⟨vs,H1,I1,r1,q1⟩=>hc pins s1 σ H1 vs us Q I1 r1 q1) he hpl
end
end L2
namespace HT
open PySem PyProof.Rows
section
open PySem.SeqAt
open PySem.AutoSeq1 (wpAny_loadPart')
open PySem.MeetsSeq PySem.MeetsSeq2 PySem.MeetsSeq3
end
section
variable {prog:Program} {w:World} {A:Around} {E:Value->Shared->Prop} {s:Shared}
def BK {t b:Addr} {vs ws:List Value} {Q:Value->Shared->Prop} (ht:IsTup s.heap t vs.toArray) (hb:IsTup s.heap b ws.toArray) (hv:vs≠[])
  (h1:ws=[]->Q (.ref t) s) (h2:ws≠[]->Q (.ref s.heap.objs.size) {s with heap:=s.heap.push {cls:=.type "tuple",data:=.seq (vs++ws).toArray}})
  (hsz:vs.length+ws.length<=sizeLine):wpAny (model prog w) A (binaryOp .Add (.ref t) (.ref b)) Q E s:=by
 obtain ⟨⟨cls,dd,data,sl⟩,ho,hc,n,hd⟩:=id ht
 obtain ⟨⟨cls2,dd2,data2,sl2⟩,ho2,hc2,n2,hd2⟩:=id hb
 simp only at hc hd hc2 hd2
 subst hc hd hc2 hd2
 have e:vs.toArray++ws.toArray=(vs++ws).toArray:=by simp
 by_cases hw:ws=[]
 · exact concat_meets ⟨_,ho,rfl⟩ ⟨_,ho2,rfl⟩ noFill_tuple_add seq_tuple_add PySem.F.slot_tuple_add PySem.F.entry_tuple_add (PySem.F.args_tuple_add_2 _ _)
    (tuple_addW1 t b vs.toArray ws.toArray n n2 dd dd2 sl sl2 (by simpa using hv) (by simp [hw])) ⟨ho,ho2,h1 hw⟩
 · refine concat_meets ⟨_,ho,rfl⟩ ⟨_,ho2,rfl⟩ noFill_tuple_add seq_tuple_add PySem.F.slot_tuple_add PySem.F.entry_tuple_add (PySem.F.args_tuple_add_2 _ _)
    (tuple_addW2 t b vs.toArray ws.toArray n n2 dd dd2 sl sl2 (by simpa using hv) (by simpa using hw) (by rw [List.size_toArray,List.size_toArray];exact hsz)) ⟨ho,ho2,?_⟩
   rw [e]
   exact h2 hw
def sIx (n d:Nat):Option Int->Nat
 | none=>d
 | some v=>if v<0 then (v+(n:Int)).toNat else min v.toNat n
def Ak (n d:Nat):sIx n d none=d:=rfl
def BL (n d k:Nat):sIx n d (some (k:Int))=min k n:=by
 show (if (k:Int)<0 then ((k:Int)+(n:Int)).toNat else min (k:Int).toNat n)=min k n
 rw [if_neg (by omega),Int.toNat_natCast]
def yk (n d:Nat) (hd:d<=n) (o:Option Int):sIx n d o<=n:=by
 cases o with
 | none=>exact hd
 | some v =>
  show (if v<0 then (v+(n:Int)).toNat else min v.toNat n)<=n
  by_cases hv:v<0
  · rw [if_pos hv];omega
  · rw [if_neg hv];exact Nat.min_le_right _ _
def qb (v:Int) (n d:Nat):(if v<0 then max (v+(n:Int)) 0 else min v (n:Int))=((sIx n d (some v):Nat):Int):=by
 show (if v<0 then max (v+(n:Int)) 0 else min v (n:Int))=(((if v<0 then (v+(n:Int)).toNat else min v.toNat n):Nat):Int)
 by_cases hv:v<0
 · simp only [if_pos hv];omega
 · simp only [if_neg hv];omega
def oY (lo hi:Option Int) (n:Nat):Builtin.Slice.sliceAdjust lo hi 1 (n:Int)=(((sIx n 0 lo:Nat):Int),((sIx n n hi:Nat):Int)):=by
 have h1:¬ ((1:Int)<0):=by omega
 unfold Builtin.Slice.sliceAdjust
 simp only [h1,if_false]
 refine Prod.ext ?_ ?_
 · cases lo with
   | none=>rfl
   | some v=>exact qb v n 0
 · cases hi with
   | none=>rfl
   | some v=>exact qb v n n
def oZ (i j:Nat):Builtin.Slice.slicePlaces (i:Int) (j:Int) 1=j-i:=by
 unfold Builtin.Slice.slicePlaces
 have h1:(1:Int) > 0:=by omega
 simp only [h1,if_true,Int.ediv_one]
 split<;>omega
def ki {v:Value} {o:Option Int} {Q:Option Int->Shared->Prop} (p:IsPart v o) (h:Q o s):wpAny (model prog w) A (Builtin.Slice.slicePartIndex v) Q E s:=by
 cases p with
 | none=>exact slicePart_none h
 | int i t=>exact slicePart_int h
def jp {sl:Addr} {vl vu:Value} {lo hi:Option Int} {n:Nat} {Q:Int×Int×Nat->Shared->Prop} (hs:s.heap.IsSliceOf sl vl vu .none) (pl:IsPart vl lo) (pu:IsPart vu hi)
  (h:Q (((sIx n 0 lo:Nat):Int),1,sIx n n hi-sIx n 0 lo) s):wpAny (model prog w) A (Builtin.Slice.sliceApplied (.ref sl) (pure (n:Int))) Q E s:=by
 obtain ⟨os,hos,hcs,hds⟩:=id hs
 unfold Builtin.Slice.sliceApplied Builtin.Slice.sliceFields
 refine wB (wB (wpAny_field hos hds (x:=vl) rfl (wB (wpAny_field hos hds (x:=vu) rfl (wB (wpAny_field hos hds (x:=.none) rfl (wpAny_pure ?_)))))))
 refine wB (slicePart_none ?_)
 show wpAny _ _ (if ((1:Int)==0)=true then _ else _) _ _ s
 rw [if_neg (by decide)]
 refine wB (ki pl (wB (ki pu (wB (wpAny_pure ?_)))))
 show wpAny _ _ (match Builtin.Slice.sliceAdjust lo hi 1 (n:Int) with | (lo,hi)=>pure (lo,(1:Int),Builtin.Slice.slicePlaces lo hi 1)) _ _ s
 rw [oY lo hi n]
 show wpAny _ _ (pure (((sIx n 0 lo:Nat):Int),(1:Int),Builtin.Slice.slicePlaces ((sIx n 0 lo:Nat):Int) ((sIx n n hi:Nat):Int) 1)) _ _ s
 rw [oZ]
 exact wpAny_pure h
def sY (xs:Array Value) (i k:Nat):((List.range k).filterMap fun (m:Nat)=>xs[((i:Int)+(m:Int)*1).toNat]?).toArray=((xs.toList.drop i).take k).toArray:=by
 have e:(fun (m:Nat)=>xs[((i:Int)+(m:Int)*1).toNat]?)=fun m=>xs[i+m]?:=by
  funext m
  have:((i:Int)+(m:Int)*1).toNat=i+m:=by omega
  rw [this]
 rw [e]
 have:=pick_run xs i k
 rw [List.filterMap_map] at this
 have e2:((fun x=>xs[x]?) ∘ fun x=>i+x)=fun m=>xs[i+m]?:=rfl
 rw [e2] at this
 rw [this]
def qc {t sl:Addr} {items:Array Value} {vl vu:Value} {lo hi:Option Int} {Q:Value->Shared->Prop} (ht:IsTup s.heap t items) (hs:s.heap.IsSliceOf sl vl vu .none) (pl:IsPart vl lo) (pu:IsPart vu hi)
  (hw:¬ (sIx items.size 0 lo=0/\sIx items.size items.size hi=items.size))
  (h:Q (.ref s.heap.objs.size) {s with heap:=s.heap.push {cls:=.type "tuple",data:=.seq ((items.toList.drop (sIx items.size 0 lo)).take (sIx items.size items.size hi-sIx items.size 0 lo)).toArray}})
  (hsz:items.size<=sizeLine):wpAny (model prog w) A (getItem (.ref t) (.ref sl)) Q E s:=by
 have htake:sizeOk (.seq ((items.toList.drop (sIx items.size 0 lo)).take (sIx items.size items.size hi-sIx items.size 0 lo)).toArray):=by
  show ((items.toList.drop (sIx items.size 0 lo)).take (sIx items.size items.size hi-sIx items.size 0 lo)).toArray.size<=sizeLine
  rw [List.size_toArray,List.length_take,List.length_drop,Array.length_toList]
  omega
 have hj:sIx items.size items.size hi<=items.size:=yk _ _ (nL _) hi
 obtain ⟨os,hos,hcs,hds⟩:=id hs
 have hTs:s.TypeIs (.ref sl) "slice":=⟨os,hos,hcs⟩
 unfold getItem
 try with_reducible refine wpAny_holding ?_
 first | refine wB (wpAny_pure ?_) | skip
 refine wB (wpAny_sequenceKey ht.typeIs (by decide) ?_)
 refine wB (wpAny_callSpecial?_slot (name:=Str.ofString "__getitem__") ht.typeIs PyProof.Rows.slot_tuple_getitem
  (wpAny_call_entry PyProof.Rows.slot_tuple_getitem ht.typeIs entry_tuple_getitem ?_ (args_tuple_getitem _ _)))
 show wpAny _ _ (Builtin.Tuple.tupleItemsOf (.ref t) >>= _) _ _ s
 refine wB (tupleItemsOf_ ht ?_)
 refine wB (wpAny_typeOf hTs ?_)
 rw [if_pos (by decide)]
 refine wB (jp hs pl pu ?_)
 have hno:¬ ((((sIx items.size 0 lo:Nat):Int)==0&&(1:Int)==1&&(sIx items.size items.size hi-sIx items.size 0 lo)==items.size)=true):=by
  intro q
  rw [Bool.and_eq_true,Bool.and_eq_true] at q
  have q1:((sIx items.size 0 lo:Nat):Int)=0:=eq_of_beq q.1.1
  have q2:sIx items.size items.size hi-sIx items.size 0 lo=items.size:=eq_of_beq q.2
  exact hw ⟨by omega,by omega⟩
 show wpAny _ _ (if (((sIx items.size 0 lo:Nat):Int)==0&&(1:Int)==1&&(sIx items.size items.size hi-sIx items.size 0 lo)==items.size)=true then _ else _) _ _ s
 rw [if_neg hno,sY]
 first
  | exact wB (m:=Builtin.Tuple.tupleExact _) (wpAny_newObj_type (wpAny_pure ⟨_,rfl,wpAny_pure h⟩) htake)
  | exact wB (m:=Builtin.Tuple.tupleExact _) (wpAny_newObj_type (wB (wpAny_pure (wpAny_pure ⟨_,rfl,wpAny_pure h⟩))) htake)
  | exact wB (wB (m:=Builtin.Tuple.tupleExact _) (wpAny_newObj_type (wpAny_pure (wpAny_pure ⟨_,rfl,wpAny_pure h⟩)) htake))
  | exact wB (wB (m:=Builtin.Tuple.tupleExact _) (wpAny_newObj_type (wpAny_pure ⟨_,rfl,wpAny_pure h⟩) htake))
end
end HT
namespace L2
open PySem PySem.Spec PyProof.Rows
abbrev TO:=St->Hp->(Option Int->Hp->Prop)->Prop
noncomputable def PO (X:Cx) (e:Option Expr) (t:TO):Prop:=
 ∀ (pins:List (Addr×Obj)) (s:Shared) (σ:St) (H:Hp) (Q:Option Int->Hp->Prop),Inv X pins σ H s->t σ H Q→
  wpAny (model X.prog X.w) X.A (evalPart e X.env) (fun u s'=>∃ o H',Inv X pins σ H' s'/\IsPart u o/\Q o H') X.xe s
def vd:TO:=fun _ H Q=>Q none H
def Am (t:TE):TO:=fun σ H Q=>t σ H fun x H1=>∃ i,x=.int i/\Q (some i) H1
section
variable {X:Cx} {e:Expr} {te:TE} {lo hi:Option Expr} {tl th:TO} {pos p2:Pos}
def ve:PO X none vd:=by
 intro pins s σ H Q I h
 rw [evalPart_none]
 exact wpAny_pure ⟨none,H,I,.none,h⟩
def vf (h:PE X e te):PO X (some e) (Am te):=by
 intro pins s σ H Q I hw
 rw [evalPart_some]
 refine thn (h pins s σ H _ I hw) fun u s1 ⟨x,H1,I1,r1,q1⟩=>?_
 obtain ⟨i,rfl,q⟩:=q1
 obtain ⟨t,rfl⟩:=r1
 exact ⟨some i,H1,I1,.int i t,q⟩
noncomputable def SlR (X:Cx) (r:V->Option Int->Option Int->Hp->VK->Prop):Prop:=
 ∀ (pins:List (Addr×Obj)) (s:Shared) (σ:St) (H:Hp) (x:V) (v vl vu:Value) (lo hi:Option Int) (sl:Addr) (Q:VK),Inv X pins σ H s->RelV x v->s.heap.IsSliceOf sl vl vu .none->IsPart vl lo->IsPart vu hi->r x lo hi H Q→
  ∃ T id,typeLookup (.type T) "__getitem__"=pure (some (.builtin id))/\s.TypeIs v T/\wpAny (model X.prog X.w) X.A (getItem v (.ref sl)) (EP X pins σ Q) X.xe s
def SlR.or {r r':V->Option Int->Option Int->Hp->VK->Prop} (h:SlR X r) (h':SlR X r'):SlR X (fun x lo hi H Q=>r x lo hi H Q∨r' x lo hi H Q):=by
 intro pins s σ H x v vl vu lo hi sl Q I rx hs pl pu q
 rcases q with q | q
 · exact h pins s σ H x v vl vu lo hi sl Q I rx hs pl pu q
 · exact h' pins s σ H x v vl vu lo hi sl Q I rx hs pl pu q
def tSl (r:V->Option Int->Option Int->Hp->VK->Prop) (te:TE) (tl th:TO):TE:=fun σ H Q=>te σ H fun x H1=>tl σ H1 fun l H2=>th σ H2 fun u H3=>r x l u H3 Q
def sZ {r:V->Option Int->Option Int->Hp->VK->Prop} (hr:SlR X r) (he:PE X e te) (hl:PO X lo tl) (hu:PO X hi th):PE X (.Subscript e (.Slice lo hi none p2) pos) (tSl r te tl th):=by
 intro pins s σ H Q I h
 refine Subscript_ (thn (he pins s σ H _ I h) fun v s1 ⟨x,H1,I1,r1,q1⟩=>?_)
 refine wpAny_Slice (thn (hl pins s1 σ H1 _ I1 q1) fun vl s2 ⟨l,H2,I2,pl,q2⟩=>thn (hu pins s2 σ H2 _ I2 q2) fun vu s3 ⟨u,H3,I3,pu,q3⟩=>?_)
 rw [evalPart_none]
 refine wpAny_pure ?_
 have I4:Inv X pins σ H3 {s3 with heap:=s3.heap.push {cls:=.type "slice",data:=.fields #[vl,vu,.none]}}:=I3.kept (t':=s3.toks) fun b ob q=>gP _ q
 obtain ⟨T,id,hT,ht,hg⟩:=hr pins {s3 with heap:=s3.heap.push {cls:=.type "slice",data:=.fields #[vl,vu,.none]}} σ H3 x v vl vu l u s3.heap.objs.size Q I4 r1 (Heap.IsSliceOf.new ..) pl pu q3
 show wpAny (model X.prog X.w) X.A (subscriptTail e (.Slice lo hi none p2) v (.ref s3.heap.objs.size)) (EP X pins σ Q) X.xe {s3 with heap:=s3.heap.push {cls:=.type "slice",data:=.fields #[vl,vu,.none]}}
 exact tail_any (ops:=[.ref s3.heap.objs.size,v]) ht hT hg (by with_unfolding_all rfl)
def nG (xs:List V) (lo hi:Option Int):List V:=(xs.drop (HT.sIx xs.length 0 lo)).take (HT.sIx xs.length xs.length hi-HT.sIx xs.length 0 lo)
def jN (xs:List V) (lo hi:Option Int):(nG xs lo hi).length<=xs.length:=by
 unfold nG
 rw [List.length_take,List.length_drop]
 omega
noncomputable def rSlT (K:PySem.W.Frag):V->Option Int->Option Int->Hp->VK->Prop:=fun x lo hi H Q=>∃ a xs,x=.ref a/\SqT K H a xs∧
 ¬ (HT.sIx xs.length 0 lo=0/\HT.sIx xs.length xs.length hi=xs.length)/\∀ p,H p=none->Q (.ref p) (upd H p (.tup (nG xs lo hi)))
def yl:SlR X (rSlT X.K):=by
 intro pins s σ H x v vl vu lo hi sl Q I rx hs pl pu h
 obtain ⟨a,xs,rfl,hx,hw,q⟩:=h
 cases rx
 obtain ⟨its,r,ht,hz⟩:=I.tuple hx
 have hlen:its.toArray.size=xs.length:=by rw [List.size_toArray];exact r.length.symm
 refine ⟨"tuple",_,PyProof.Rows.slot_tuple_getitem.lookup,ht.typeIs,?_⟩
 refine HT.qc ht hs pl pu (by rw [hlen];exact hw) ?_ (by rw [hlen];exact hz)
 rw [hlen]
 refine ⟨.ref s.heap.objs.size,_,I.laid (t':=s.toks) (o:=.tup (nG xs lo hi)) (fun b ob q=>gP _ q) (nL _) ?_,rfl,q _ (I.hok.fresh (nL _))⟩
 exact ⟨Nat.le_trans (jN xs lo hi) hz,_,(r.drop (HT.sIx xs.length 0 lo)).take (HT.sIx xs.length xs.length hi-HT.sIx xs.length 0 lo),IsTup.new _ _⟩
noncomputable def w6 (K:PySem.W.Frag):R2:=fun x y H Q=>∃ a b xs ys,x=.ref a/\y=.ref b/\SqT K H a xs/\SqT K H b ys/\xs≠[]/\xs.length+ys.length<=sizeLine∧
 (ys=[]->Q (.ref a) H)/\(ys≠[]->∀ p,H p=none->Q (.ref p) (upd H p (.tup (xs++ys))))
def Vals.nil_iff {xs:List V} {us:List Value} (r:Vals xs us):us=[]↔xs=[]:=by
 cases r with
 | nil=>simp
 | cons _ _=>simp
def vg:OpR X (binaryOp .Add) (w6 X.K):=by
 intro pins s σ H x y v u Q I rx ry h
 obtain ⟨a,b,xs,ys,rfl,rfl,ha,hb,hx,hz,q1,q2⟩:=h
 cases rx
 cases ry
 obtain ⟨its,r1,p1,_⟩:=I.tuple ha
 obtain ⟨its2,r2,p2,_⟩:=I.tuple hb
 refine HT.BK p1 p2 (fun z=>hx (r1.nil_iff.mp z)) (fun z=>⟨.ref a,H,I,rfl,q1 (r2.nil_iff.mp z)⟩) (fun z=>?_) (by rw [<- r1.length,<- r2.length];exact hz)
 refine ⟨.ref s.heap.objs.size,_,I.laid (t':=s.toks) (o:=.tup (xs++ys)) (fun b ob q=>gP _ q) (nL _) ?_,rfl,q2 (fun w=>z (r2.nil_iff.mpr w)) _ (I.hok.fresh (nL _))⟩
 exact ⟨by rw [List.length_append];exact hz,_,r1.append r2,IsTup.new _ _⟩
end
def ixN (n:Nat) (i:Int):Option Nat:=if 0<=i then (if i<n then some i.toNat else none) else if -(n:Int)<=i then some (i+n).toNat else none
def atI {α:Type} (xs:List α) (i:Int):Option α:=(ixN xs.length i).bind fun j=>xs[j]?
def qd {n:Nat} {i:Int} {j:Nat} (h:ixN n i=some j):seqIndex? i n=some j/\j<n/\-(n:Int)<=i/\i<n:=by
 unfold ixN at h
 by_cases h0:0<=i
 · rw [if_pos h0] at h
   by_cases h1:i<n
   · rw [if_pos h1] at h
     have e:i.toNat=j:=Option.some.inj h
     exact ⟨by rw [seqIndex_of h0 h1,e],by omega,by omega,h1⟩
   · rw [if_neg h1] at h;cases h
 · rw [if_neg h0] at h
   by_cases h1:-(n:Int)<=i
   · rw [if_pos h1] at h
     have e:(i+n).toNat=j:=Option.some.inj h
     exact ⟨by rw [seqIndex_neg (by omega) h1,e],by omega,h1,by omega⟩
   · rw [if_neg h1] at h;cases h
def mv {α:Type} {xs:List α} {i:Int} {v:α} (h:atI xs i=some v):∃ j,seqIndex? i xs.length=some j/\xs[j]?=some v/\j<xs.length/\-(xs.length:Int)<=i/\i<xs.length:=by
 unfold atI at h
 cases e:ixN xs.length i with
 | none=>rw [e] at h;cases h
 | some j =>
  rw [e] at h
  obtain ⟨h1,h2,h3,h4⟩:=qd e
  exact ⟨j,h1,h,h2,h3,h4⟩
def vh {α:Type} {xs:List α} {j:Nat} {v:α} (h:xs[j]?=some v):atI xs (j:Int)=some v:=by
 have hj:j<xs.length:=(gX h).1
 have e:ixN xs.length (j:Int)=some j:=by
  unfold ixN
  rw [if_pos (by omega),if_pos (by omega)];simp
 unfold atI;rw [e];exact h
def mw (b:Expr):Prop:=∀ o i,subscripted b false o i=operate [o,i] (getItem o i)
noncomputable def IxR (X:Cx) (r:R2):Prop:=
 ∀ (value slice:Expr) (pins:List (Addr×Obj)) (s:Shared) (σ:St) (H:Hp) (x y:V) (v u:Value) (Q:VK),Inv X pins σ H s->RelV x v->RelV y u->r x y H Q→
  subscripted slice false v u=operate [v,u] (getItem v u)->wpAny (model X.prog X.w) X.A (subscriptTail value slice v u) (EP X pins σ Q) X.xe s
noncomputable def MtR (X:Cx) (id:String) (r:V->List V->Hp->VK->Prop):Prop:=
 ∀ (pins:List (Addr×Obj)) (s:Shared) (σ:St) (H:Hp) (x:V) (xs:List V) (v:Value) (us:List Value) (Q:VK),Inv X pins σ H s->RelV x v->Vals xs us->r x xs H Q→
  wpAny (model X.prog X.w) X.A (call (.builtin id) (v::us)) (EP X pins σ Q) X.xe s
section
variable {X:Cx} {a b:Expr} {ta tb:TE} {pos:Pos}
def IxR.or {r r':R2} (h:IxR X r) (h':IxR X r'):IxR X (fun x y H Q=>r x y H Q∨r' x y H Q):=by
 intro value slice pins s σ H x y v u Q I rx ry q hs
 rcases q with q | q
 · exact h value slice pins s σ H x y v u Q I rx ry q hs
 · exact h' value slice pins s σ H x y v u Q I rx ry q hs
def w8 {r:R2} (hr:IxR X r) (ha:PE X a ta) (hb:PE X b tb) (hs:mw b):PE X (.Subscript a b pos) (tOp r ta tb):=by
 intro pins s σ H Q I h
 exact Subscript_ (xY ha hb I h fun v u s2 x y H2 I2 rx ry q=>hr a b pins s2 σ H2 x y v u Q I2 rx ry q (hs _ _))
def rIxL (K:PySem.W.Frag):R2:=fun x y H Q=>∃ p xs i v,x=.ref p/\y=.int i/\SqL K H p xs/\atI xs i=some v/\Q v H
def rIxT (K:PySem.W.Frag):R2:=fun x y H Q=>∃ p xs i v,x=.ref p/\y=.int i/\SqT K H p xs/\atI xs i=some v/\Q v H
def rIxS:R2:=fun x y H Q=>∃ z i c,x=.str z/\y=.int i/\z.length<=sizeLine/\atI z.cps.toList i=some c/\Q (.str ⟨#[c]⟩) H
def ix_list:IxR X (rIxL X.K):=by
 intro value slice pins s σ H x y v u Q I rx ry h hs
 obtain ⟨p,xs,i,z,rfl,rfl,hq,he,q⟩:=h
 cases rx
 obtain ⟨t,rfl⟩:=ry
 obtain ⟨its,r,pl,hz⟩:=I.list hq
 obtain ⟨j,h1,h2,h3,h4,h5⟩:=mv he
 obtain ⟨w,ew,rw'⟩:=r.get h2
 have hl:=r.length
 have hn:=jn
 have fin:EP X pins σ Q w s:=⟨z,H,I,rw',q⟩
 by_cases h0:0<=i
 · have hj:i.toNat=j:=by
    rw [seqIndex_of h0 h5] at h1
    exact Option.some.inj h1
   exact item_listR pl.isList h0 (by omega) (by rw [hj];simpa using ew) fin hs
 · have hj:(i+(its.toArray.size:Int)).toNat=j:=by
    rw [seqIndex_neg (by omega) h4] at h1
    rw [List.size_toArray,<- hl]
    exact Option.some.inj h1
   exact subscriptTail_builtinR (x:=w) pl.isList.typeIs slot_list_getitem.lookup
    (wpAny_getItem_list_neg (Q:=fun r s'=>r=w/\EP X pins σ Q r s') pl.isList (by omega) (by rw [List.size_toArray]<;>omega) (by omega) (by rw [hj];simpa using ew) ⟨rfl,fin⟩) hs
def ix_tup:IxR X (rIxT X.K):=by
 intro value slice pins s σ H x y v u Q I rx ry h hs
 obtain ⟨p,xs,i,z,rfl,rfl,hq,he,q⟩:=h
 cases rx
 obtain ⟨t,rfl⟩:=ry
 obtain ⟨its,r,pl,hz⟩:=I.tuple hq
 obtain ⟨j,h1,h2,h3,h4,h5⟩:=mv he
 obtain ⟨w,ew,rw'⟩:=r.get h2
 have hl:=r.length
 have hn:=jn
 have fin:EP X pins σ Q w s:=⟨z,H,I,rw',q⟩
 exact subscriptTail_builtinR (x:=w) pl.typeIs slot_tuple_getitem.lookup
  (getItem_tuple (j:=j) (Q:=fun r s'=>r=w/\EP X pins σ Q r s') pl (by omega) (by omega) (by rw [List.size_toArray,<- hl];exact h1) (by simpa using ew) ⟨rfl,fin⟩) hs
def ym:IxR X rIxS:=by
 intro value slice pins s σ H x y v u Q I rx ry h hs
 obtain ⟨z,i,c,rfl,rfl,hz,he,q⟩:=h
 obtain ⟨t,rfl⟩:=rx
 obtain ⟨t',rfl⟩:=ry
 obtain ⟨j,h1,h2,h3,h4,h5⟩:=mv he
 have hl:z.cps.toList.length=z.length:=by simp [Str.length]
 rw [hl] at h1 h4 h5
 have hn:=jn
 exact tail_any (typeIs_str s z t) slot_str_getitem.lookup (getItem_str (c:=c) (by
  have e1:decide (i < -(2^63:Int))=false:=decide_eq_false (by omega)
  have e2:decide (i ≥ 2^63)=false:=decide_eq_false (by omega)
  rw [e1,e2,Bool.or_false]) (by rw [h1];simpa using h2) ⟨.str ⟨#[c]⟩,H,I.tok _,⟨_,rfl⟩,q⟩) hs
def rIx (K:PySem.W.Frag):R2:=fun x y H Q=>rIxL K x y H Q∨rIxT K x y H Q∨rIxS x y H Q
def tf:IxR X (rIx X.K):=ix_list.or (ix_tup.or ym)
def o7 (its:List Value) (n j:Nat) (u:Value):Obj.mapSeq (·.setIfInBounds j u) {cls:=.type "list",data:=.seq its.toArray n}={cls:=.type "list",data:=.seq (its.set j u).toArray n}:=by
 simp [Obj.mapSeq]
def Inv.lst {pins:List (Addr×Obj)} {σ:St} {H:Hp} {s:Shared} {p:Addr} {xs:List V} (I:Inv X pins σ H s) (h:H p=some (.lst xs)) :
  ∃ (its:List Value) (n:Nat),Vals xs its/\s.heap.get? p=some {cls:=.type "list",data:=.seq its.toArray n}/\xs.length<=sizeLine:=by
 obtain ⟨z,its,n,r,e⟩:=I.hok p _ h
 exact ⟨its,n,r,e,z⟩
def Inv.lstUpd {pins:List (Addr×Obj)} {σ:St} {H:Hp} {s:Shared} {p:Addr} {xs ys:List V} {its its':List Value} {n n':Nat} {f:Obj->Obj} (I:Inv X pins σ H s) (h:H p=some (.lst xs))
  (ho:s.heap.get? p=some {cls:=.type "list",data:=.seq its.toArray n}) (hf:f {cls:=.type "list",data:=.seq its.toArray n}={cls:=.type "list",data:=.seq its'.toArray n'}) (r:Vals ys its') (hz:ys.length<=sizeLine) (t:Nat) :
  Inv X pins σ (upd H p (.lst ys)) {s with heap:=s.heap.update p f,toks:=t}:=by
 have e:(s.heap.update p f).get? p=some {cls:=.type "list",data:=.seq its'.toArray n'}:=by
  rw [Heap.get?_update_self f ho (by rw [hf]<;>rfl),hf]
 refine I.write (x:=p) (e:=p) (by rw [h];trivial) (.inl rfl) (fun b u hb q=>(Heap.get?_update_other _ _ (Ne.symm hb)).trans q) ⟨_,e⟩ ?_
 exact ⟨hz,its',n',r,e⟩
def An:V->V->V->Hp->(Hp->Prop)->Prop:=fun o i v H Q=>∃ p xs k j,o=.ref p/\i=.int k/\H p=some (.lst xs)/\ixN xs.length k=some j/\Q (upd H p (.lst (xs.set j v)))
def tj:PSet X An:=by
 intro pins s σ H o i v ov iv u Q I ro ri rv h
 obtain ⟨p,xs,k,j,rfl,rfl,hp,hj,q⟩:=h
 cases ro
 obtain ⟨t,rfl⟩:=ri
 obtain ⟨its,n,r,ho,hz⟩:=I.lst hp
 obtain ⟨h1,h2,h3,h4⟩:=qd hj
 have hl:=r.length
 have hn:=jn
 have I':Inv X pins σ (upd H p (.lst (xs.set j v))) {s with heap:=s.heap.update p (Obj.mapSeq (·.setIfInBounds j u))}:=
  I.lstUpd hp ho (o7 its n j u) (r.set rv j) (by rw [List.length_set];exact hz) s.toks
 by_cases h0:0<=k
 · have hk:k.toNat=j:=by
    rw [seqIndex_of h0 h4] at h1
    exact Option.some.inj h1
   exact PySem.W.ki_setAt ho h0 (by omega) (by rw [List.size_toArray,<- hl];exact h4) (by rw [hk];exact ⟨_,I',q⟩)
 · have hk:(k+(its.toArray.size:Int)).toNat=j:=by
    rw [seqIndex_neg (by omega) h3] at h1
    rw [List.size_toArray,<- hl]
    exact Option.some.inj h1
   exact PySem.W.ki_setBack ho (by omega) (by rw [List.size_toArray,<- hl];exact h3) (by omega) (by rw [hk];exact ⟨_,I',q⟩)
def mx (lo hi:Option Int) (n:Nat):(sliceBounds lo hi none n).1=((HT.sIx n 0 lo:Nat):Int)/\(sliceBounds lo hi none n).2.1=((HT.sIx n n hi:Nat):Int)/\(sliceBounds lo hi none n).2.2=1:=by
 refine ⟨?_,?_,rfl⟩
 · cases lo with
   | none=>simp [sliceBounds,HT.sIx]
   | some i =>
    simp only [sliceBounds,HT.sIx,Option.getD_none,show (1:Int) > 0 by decide,if_true]
    by_cases h:i<0
    · simp only [h,if_true]<;>omega
    · simp only [h,if_false]<;>omega
 · cases hi with
   | none=>simp [sliceBounds,HT.sIx]
   | some i =>
    simp only [sliceBounds,HT.sIx,Option.getD_none,show (1:Int) > 0 by decide,if_true]
    by_cases h:i<0
    · simp only [h,if_true]<;>omega
    · simp only [h,if_false]<;>omega
def lr (its:List Value) (lo hi:Option Int):slicePick its.toArray lo hi none=((its.drop (HT.sIx its.length 0 lo)).take (HT.sIx its.length its.length hi-HT.sIx its.length 0 lo)).toArray:=by
 obtain ⟨h1,h2,h3⟩:=mx lo hi its.toArray.size
 unfold slicePick
 rw [h1,h2,h3]
 simp only [sliceRange_one,pick_run,List.size_toArray]<;>rfl
def rSlL (K:PySem.W.Frag):V->Option Int->Option Int->Hp->VK->Prop:=fun x lo hi H Q=>∃ a xs,x=.ref a/\SqL K H a xs/\∀ p,H p=none->Q (.ref p) (upd H p (.lst (nG xs lo hi)))
def vi:SlR X (rSlL X.K):=by
 intro pins s σ H x v vl vu lo hi sl Q I rx hs pl pu h
 obtain ⟨a,xs,rfl,hx,q⟩:=h
 cases rx
 obtain ⟨its,r,ht,hz⟩:=I.list hx
 have hlen:=r.length
 refine ⟨"list",_,slot_list_getitem.lookup,ht.isList.typeIs,?_⟩
 refine wpAny_getItem_list_slice ht.isList hs pl pu .none (by simp) ?_ (by rw [List.size_toArray]<;>omega)
 rw [lr,<- hlen]
 refine ⟨.ref s.heap.objs.size,_,I.laid (t':=s.toks) (o:=.lst (nG xs lo hi)) (fun b ob q=>gP _ q) (nL _) ?_,rfl,q _ (I.hok.fresh (nL _))⟩
 exact ⟨Nat.le_trans (jN xs lo hi) hz,_,0,(r.drop (HT.sIx xs.length 0 lo)).take (HT.sIx xs.length xs.length hi-HT.sIx xs.length 0 lo),Heap.get?_push_size _ rfl⟩
def w9:V->Bool
 | .non=>true
 | .bl _=>true
 | .int _=>true
 | .str _=>true
 | _=>false
def eqV:V->V->Bool
 | .non,.non=>true
 | .bl a,.bl b=>a==b
 | .bl a,.int b=>(if a then 1 else 0)==b
 | .int a,.bl b=>a==(if b then 1 else 0)
 | .int a,.int b=>a==b
 | .str a,.str b=>a==b
 | _,_=>false
def kj {A:Around} {s:Shared} {y x:V} {u v:Value} (ry:RelV y u) (rx:RelV x v) (fy:w9 y=true) (fx:w9 x=true):SeqAt.EqAt A s u v (eqV y x):=by
 cases y with
 | non =>
  cases ry
  cases x with
  | non=>cases rx;exact SeqAt.EqAt.same _
  | bl b=>cases rx;exact SeqAt.EqAt.none_bool b
  | int b=>obtain ⟨t,rfl⟩:=rx;exact SeqAt.EqAt.none_int b t
  | str b=>obtain ⟨t,rfl⟩:=rx;exact SeqAt.EqAt.none_str b t
  | _=>exact absurd (show false=true from fx) Bool.false_ne_true
 | bl a =>
  cases ry
  cases x with
  | non=>cases rx;exact SeqAt.EqAt.bool_none a
  | bl b=>cases rx;exact SeqAt.EqAt.bool_bool a b
  | int b=>obtain ⟨t,rfl⟩:=rx;exact SeqAt.EqAt.bool_int a b t
  | str b=>obtain ⟨t,rfl⟩:=rx;exact SeqAt.EqAt.bool_str a b t
  | _=>exact absurd (show false=true from fx) Bool.false_ne_true
 | int a =>
  obtain ⟨t',rfl⟩:=ry
  cases x with
  | non=>cases rx;exact SeqAt.EqAt.int_none a t'
  | bl b=>cases rx;exact SeqAt.EqAt.int_bool a t' b
  | int b=>obtain ⟨t,rfl⟩:=rx;exact SeqAt.EqAt.int_int a t' b t
  | str b=>obtain ⟨t,rfl⟩:=rx;exact SeqAt.EqAt.int_str a t' b t
  | _=>exact absurd (show false=true from fx) Bool.false_ne_true
 | str a =>
  obtain ⟨t',rfl⟩:=ry
  cases x with
  | non=>cases rx;exact SeqAt.EqAt.str_none a t'
  | bl b=>cases rx;exact SeqAt.EqAt.str_bool a t' b
  | int b=>obtain ⟨t,rfl⟩:=rx;exact SeqAt.EqAt.str_int a t' b t
  | str b=>obtain ⟨t,rfl⟩:=rx;exact SeqAt.EqAt.str_str a t' b t
  | _=>exact absurd (show false=true from fx) Bool.false_ne_true
 | _=>exact absurd (show false=true from fy) Bool.false_ne_true
def CallR.or {f:Value} {r r':List V->Hp->VK->Prop} (h:CallR X f r) (h':CallR X f r'):CallR X f (fun xs H Q=>r xs H Q∨r' xs H Q):=by
 intro pins s σ H xs us Q I rs q
 rcases q with q | q
 · exact h pins s σ H xs us Q I rs q
 · exact h' pins s σ H xs us Q I rs q
def gq:CallR X (.type "list") (fun xs H Q=>∃ p ys,xs=[.ref p]/\(SqL X.K H p ys∨SqT X.K H p ys)/\∀ l,H l=none->Q (.ref l) (upd H l (.lst ys))):=by
 intro pins s σ H xs us Q I r h
 obtain ⟨p,ys,rfl,hq,q⟩:=h
 obtain ⟨u,rfl,rx⟩:=iX r
 cases rx
 have fin:∀ (its:List Value),Vals ys its->ys.length<=sizeLine->∀ (h':Heap) (c':Nat),(∀ b o',s.heap.get? b=some o'->h'.get? b=some o')→
     h'.get? s.heap.objs.size=some {cls:=.type "list",dict:=none,data:=.seq its.toArray c',slots:=#[]}->EP X pins σ Q (.ref s.heap.objs.size) {s with heap:=h'}:=fun its r' hz h' c' kp e =>
  ⟨.ref s.heap.objs.size,_,I.laid (t':=s.toks) kp (nL _) (show ObjOk X.prog X.w _ h' _ (.lst ys) from ⟨hz,its,c',r',e⟩),rfl,q _ (I.hok.fresh (nL _))⟩
 rcases hq with hq | hq
 · obtain ⟨its,r',pl,hz⟩:=I.list hq
   have hlen:=r'.length
   obtain ⟨o,ho,hc,n,hd⟩:=pl.isList
   exact call_list_seq p (.inl rfl) ho hc hd (fun h' c' kp e=>fin its r' hz h' c' kp e) (by simp only [List.size_toArray]<;>omega)
 · obtain ⟨its,r',pl,hz⟩:=I.tuple hq
   have hlen:=r'.length
   obtain ⟨o,ho,hc,n,hd⟩:=pl
   exact call_list_seq p (.inr rfl) ho hc hd (fun h' c' kp e=>fin its r' hz h' c' kp e) (by simp only [List.size_toArray]<;>omega)
def fX:CallR X (.type "tuple") (fun xs H Q=>∃ p ys,xs=[.ref p]/\((SqL X.K H p ys/\∀ l,H l=none->Q (.ref l) (upd H l (.tup ys)))∨(SqT X.K H p ys/\Q (.ref p) H))):=by
 intro pins s σ H xs us Q I r h
 obtain ⟨p,ys,rfl,h⟩:=h
 obtain ⟨u,rfl,rx⟩:=iX r
 cases rx
 rcases h with ⟨hq,q⟩ | ⟨hq,q⟩
 · obtain ⟨its,r',pl,hz⟩:=I.list hq
   have hlen:=r'.length
   refine call_tuple_list pl.isList (fun h' kp=>?_) (by simp only [List.size_toArray]<;>omega)
   have I1:Inv X pins σ H {s with heap:=h'}:=I.kept (t':=s.toks) kp
   have I2:Inv X pins σ (upd H h'.objs.size (.tup ys)) {s with heap:=h'.push {cls:=.type "tuple",data:=.seq its.toArray}}:=
    I1.laid (t':=s.toks) (fun b o e=>gP _ e) (nL _) (show ObjOk X.prog X.w _ _ _ (.tup ys) from ⟨hz,its,r',IsTup.new _ _⟩)
   exact ⟨.ref h'.objs.size,_,I2,rfl,q _ (I1.hok.fresh (nL _))⟩
 · obtain ⟨its,r',pl,hz⟩:=I.tuple hq
   exact call_tuple_same pl ⟨.ref p,H,I,rfl,q⟩
noncomputable def tyV (K:PySem.W.Frag) (T:String) (x:V) (H:Hp):Prop:=match x with
 | .str _=>T="str"
 | .int _=>T="int"
 | .ref p=>(T="list"/\∃ xs,SqL K H p xs)∨(T="tuple"/\∃ o,K.lookup p=some o/\o.cls=.type "tuple"/\o.dict=none)∨
     (T="dict"/\((∃ kvs,H p=some (.dK kvs))∨∃ kvs,H p=some (.dT kvs)))∨(T="set"/\∃ S n,H p=some (.set S n))
 | _=>False
def yn {pins:List (Addr×Obj)} {σ:St} {H:Hp} {s:Shared} {T:String} {x:V} {v:Value} (I:Inv X pins σ H s) (r:RelV x v) (ty:tyV X.K T x H) :
  s.TypeIs v T/\∀ a,v=.ref a->∃ ob,s.heap.get? a=some ob/\ob.dict=none:=by
 cases x with
 | str z =>
  obtain ⟨t,rfl⟩:=r
  cases (show T="str" from ty)
  exact ⟨typeIs_str s z t,fun _ e=>nomatch e⟩
 | int i =>
  obtain ⟨t,rfl⟩:=r
  cases (show T="int" from ty)
  exact ⟨typeIs_int s i t,fun _ e=>nomatch e⟩
 | ref p =>
  cases r
  rcases ty with ⟨rfl,xs,hq⟩ | ⟨rfl,o,hk,hc,hd⟩ | ⟨rfl,hk⟩ | ⟨rfl,S,n,hk⟩
  · obtain ⟨its,_,pl,_⟩:=I.list hq
    refine ⟨pl.isList.typeIs,fun a e=>?_⟩
    cases e
    obtain ⟨o,n,e,c,hd,_⟩:=pl
    exact ⟨o,e,hd⟩
  · refine ⟨⟨o,I.kIn p o hk,hc⟩,fun a e=>?_⟩
    cases e
    exact ⟨o,I.kIn _ o hk,hd⟩
  · have z:∃ o,s.heap.get? p=some o/\o.ExactDict:=by
     rcases hk with ⟨kvs,hk⟩ | ⟨kvs,hk⟩
     · obtain ⟨_,_,_,_,o,_,_,e,ex,_⟩:=I.hok p _ hk
       exact ⟨o,e,ex⟩
     · obtain ⟨_,_,_,_,o,_,_,e,ex,_⟩:=I.hok p _ hk
       exact ⟨o,e,ex⟩
    obtain ⟨o,e,ex⟩:=z
    refine ⟨⟨o,e,ex.1⟩,fun a e2=>?_⟩
    cases e2
    exact ⟨o,e,ex.2.1⟩
  · obtain ⟨o,_,_,_,e,ex,_⟩:=I.hok p _ hk
    refine ⟨⟨o,e,ex.1⟩,fun a e2=>?_⟩
    cases e2
    exact ⟨o,e,ex.2.1⟩
 | _=>exact False.elim ty
def tBM (K:PySem.W.Frag) (T:String) (r:V->List V->Hp->VK->Prop) (to:TE) (t:TA):TE:=fun σ H Q=>to σ H fun x H1=>tyV K T x H1/\t σ H1 fun xs H2=>r x xs H2 Q
variable {o e:Expr} {es:List Expr} {to:TE} {t:TA} {name:Str} {apos cpos:Pos} {T id:String} {r:V->List V->Hp->VK->Prop}
def tm (pa:PlainAttrs T) (slot:Slot T name id) (hty:typeOf (.builtin id)=pure (.type "method_descriptor")) (hm:MtR X id r) (ho:PE X o to) (ha:PA X (e::es) t)
  (hbase:attributeBase o name X.env (eval o X.env)=eval o X.env:=by rfl)
  (hfew:((backTo cpos (starEach (e::es) X.env)).all (fun x=>!x.1)&&(backToKw cpos (keywordEach [] X.env)).all (fun x=>x.1.isSome)
   && decide ((e::es).length+([]:List Keyword).length+(if ([]:List Keyword).isEmpty then 0 else 1)<30))=true:=by rfl)
  (hline:(apos.endLine==cpos.line)=true:=by rfl) (hs:starEach (e::es) X.env=(false,eval e X.env)::starEach es X.env:=by rfl) (hplain:(backTo cpos (starEach es X.env)).any (·.1)=false:=by rfl) :
  PE X (.Call (.Attribute o name apos) (e::es) [] cpos) (tBM X.K T r to t):=by
 intro pins s σ H Q I h
 refine wpAny_Call_method_late hbase hfew hline rfl (thn (ho pins s σ H _ I h) fun v s1 ⟨x,H1,I1,r1,ty,q1⟩=>?_)
 obtain ⟨h1,h2⟩:=yn I1 r1 ty
 refine ⟨T,id,pa,slot,hty,h1,h2,?_⟩
 have hA:=ha cpos pins s1 σ H1 _ I1 q1
 rw [hs] at hA ⊢
 refine Calls.callWith_builtin (by show (false||(backTo cpos (starEach es X.env)).any (·.1))=false;rw [hplain]<;>rfl) (Calls.evalArgs_plain ?_)
 exact thn hA fun us s2 ⟨vs,H2,I2,r2,q2⟩=>hm pins s2 σ H2 x vs v us Q I2 r1 r2 q2
/- xs.append(e),list.index on a module's tuple .. are MtR facts of 06m -/
end
noncomputable def MtM (X:Cx) (id:String) (r:V->List V->Hp->VK->Prop):Prop:=
 ∀ (pins:List (Addr×Obj)) (s:Shared) (σ:St) (H:Hp) (x:V) (xs:List V) (v:Value) (us:List Value) (Q:VK),Inv X pins σ H s->RelV x v->Vals xs us->r x xs H Q→
  wpAny (model X.prog X.w) X.A (call (.builtin id) (v::us)) (EP X pins σ Q) X.xe s
def Vals.one:∀ {x:V} {us:List Value},Vals [x] us->∃ u,us=[u]/\RelV x u
 | _,_,.cons r .nil=>⟨_,rfl,r⟩
def Vals.rep {xs:List V} {us:List Value} (h:Vals xs us):∀ k:Nat,Vals (List.replicate k xs).flatten (List.replicate k us).flatten
 | 0=>.nil
 | k+1=>by
  rw [List.replicate_succ,List.replicate_succ,List.flatten_cons,List.flatten_cons]
  exact Vals.append h (Vals.rep h k)
def lE (its:List Value):∀ (k:Nat) (acc:List Value),
  List.foldl (fun x1 x2=>x1++x2) acc.toArray (List.replicate k its.toArray)=(acc++(List.replicate k its).flatten).toArray
 | 0,acc=>by simp
 | k+1,acc=>by
  have e:acc.toArray++its.toArray=(acc++its).toArray:=by simp
  have e2:(acc++its)++(List.replicate k its).flatten=acc++(List.replicate (k+1) its).flatten:=by
   rw [List.replicate_succ,List.flatten_cons,List.append_assoc]
  rw [<- e2,<- lE its k (acc++its),<- e,List.replicate_succ,List.foldl_cons]
section
variable {X:Cx} {pins:List (Addr×Obj)} {σ:St} {H:Hp} {s:Shared} {l b:Addr} {xs ys zs:List V}
def Inv.lset {its its':List Value} {n:Nat} {f:Array Value->Array Value} {t':Nat} (I:Inv X pins σ H s) (hH:H l=some (.lst xs))
  (e:s.heap.get? l=some {cls:=.type "list",data:=.seq its.toArray n}) (hf:f its.toArray=its'.toArray) (hv:Vals ys its') (hz:ys.length<=sizeLine) :
  Inv X pins σ (upd H l (.lst ys)) {s with heap:=s.heap.update l (Obj.mapSeq f),toks:=t'}:=by
 have q:=PySem.IsL.update e f
 rw [hf] at q
 refine I.write (x:=l) (e:=l) (by rw [hH];exact trivial) (.inl rfl) (fun b' u hb hu=>(Heap.get?_update_other s.heap (Obj.mapSeq f) (Ne.symm hb)).trans hu) ⟨_,q⟩ ?_
 exact ⟨hz,its',_,hv,q⟩
def Inv.lnew {its:List Value} {t':Nat} (I:Inv X pins σ H s) (hv:Vals ys its) (hz:ys.length<=sizeLine) :
  Inv X pins σ (upd H s.heap.objs.size (.lst ys)) {s with heap:=s.heap.push {cls:=.type "list",data:=.seq its.toArray},toks:=t'}:=
 I.laid (fun _ _ q=>gP _ q) (nL _) ⟨hz,its,0,hv,Heap.get?_push_size _ rfl⟩
def Inv.fresh (I:Inv X pins σ H s):H s.heap.objs.size=none:=I.hok.fresh (nL _)
def Inv.lstM (I:Inv X pins σ H s) (hH:H l=some (.lst xs)):xs.length<=sizeLine/\∃ (its:List Value) (n:Nat),Vals xs its/\xs.length=its.length/\s.heap.get? l=some {cls:=.type "list",data:=.seq its.toArray n}:=by
 obtain ⟨z,its,n,r,e⟩:=I.hok l _ hH
 exact ⟨z,its,n,r,r.length,e⟩
def tp {n:Nat} (h:n<=sizeLine):Builtin.List.listTooLong n=false:=by
 unfold Builtin.List.listTooLong
 exact decide_eq_false (by omega)
end
section
variable {X:Cx}
def vj:V->List V->Hp->VK->Prop:=fun x vs H Q=>∃ l xs y,x=.ref l/\vs=[y]/\H l=some (.lst xs)/\xs.length<sizeLine/\Q .non (upd H l (.lst (xs++[y])))
def ii:MtM X "list.append" vj:=by
 intro pins s σ H x vs v us Q I rx rv h
 obtain ⟨l,xs,y,rfl,rfl,hH,hz,q⟩:=h
 cases rx
 obtain ⟨u,rfl,ru⟩:=rv.one
 obtain ⟨z,its,n,r,hl,e⟩:=I.lstM hH
 refine call_meets F.slot_list_append ⟨_,e,rfl⟩ F.entry_list_append (F.args_list_append_2 _ _) (PySem.list_append l its.toArray n u (by rw [List.size_toArray];omega)) ⟨e,?_⟩
 refine ⟨.non,_,I.lset (its':=its++[u]) hH e (by simp) (r.append (.cons ru .nil)) ?_,rfl,q⟩
 rw [List.length_append,List.length_singleton]
 omega
def rRep:R2:=fun x y H Q=>∃ l k xs,x=.ref l/\y=.int k/\H l=some (.lst xs)/\-(2^63)<=k/\k<2^63/\xs.length*k.toNat<=sizeLine∧
 ∀ p,H p=none->Q (.ref p) (upd H p (.lst (List.replicate k.toNat xs).flatten))
def vk {α:Type} (xs:List α) (k:Nat):(List.replicate k xs).flatten.length=k*xs.length:=by
 induction k with
 | zero=>simp
 | succ k ih=>rw [List.replicate_succ,List.flatten_cons,List.length_append,ih,Nat.succ_mul,Nat.add_comm]
def yo:OpR X (binaryOp .Mult) rRep:=by
 intro pins s σ H x y v u Q I rx ry h
 obtain ⟨l,k,xs,rfl,rfl,hH,h1,h2,hz,q⟩:=h
 cases rx
 obtain ⟨t,rfl⟩:=ry
 obtain ⟨z,its,n,r,hl,e⟩:=I.lstM hH
 have hlen:its.toArray.size*k.toNat<=sizeLine:=by rw [List.size_toArray,<- hl];exact hz
 have hcap:¬ its.toArray.size*k.toNat > (2^63-1)/8:=by
  have:(sizeLine:Nat)<=(2^63-1)/8:=by decide
  omega
 have hfit:¬ (!Builtin.List.listFitsIndex k)=true:=by
  rw [fitsIndex_both h1 h2]
  exact Bool.false_ne_true
 have hlong:¬ Builtin.List.listTooLong (its.toArray.size*k.toNat)=true:=by
  rw [tp hlen]
  exact Bool.false_ne_true
 have hnew:List.foldl (fun x1 x2=>x1++x2) #[] (List.replicate (if its.toArray.isEmpty=true then 0 else k.toNat) its.toArray)=(List.replicate k.toNat its).flatten.toArray:=by
  have f0:∀ m:Nat,List.foldl (fun x1 x2=>x1++x2) #[] (List.replicate m its.toArray)=(List.replicate m its).flatten.toArray:=fun m=>by
   have:=lE its m []
   rw [List.nil_append] at this
   exact this
  rw [f0]
  cases its with
  | nil=>simp
  | cons a r'=>rw [if_neg (by simp)]
 refine wpAny_binaryOp_repeat_ref (T:="list") (U:="int") (by decide) ⟨_,e,rfl⟩ (fun s'=>typeIs_int s' k t) noFill_list_mul F.fills_int_mul F.slot_int_rmul repeat_list F.slot_int_index.lookup
  (call_meets F.slot_int_rmul (typeIs_int s k t) F.entry_int_rmul (F.args_int_rmul_2 _ _) (int___rmul___int_list k t l its.toArray n)
   ⟨e,rfl,⟨_,e,rfl⟩,call_meets F.slot_list_mul ⟨_,e,rfl⟩ F.entry_list_mul (F.args_list_mul_2 _ _) (AutoListH.list___mul___list_int_3 l its.toArray n k t hfit hcap hlong) ⟨e,?_⟩⟩)
 rw [hnew]
 exact ⟨.ref _,_,I.lnew (t':=s.toks) (r.rep k.toNat) (by rw [vk,Nat.mul_comm];exact hz),rfl,q _ I.fresh⟩
end
section
variable {prog:Program} {w:World} {A:Around} {E:Value->Shared->Prop} {s:Shared}
end
section
variable {X:Cx}
end
section
variable {κ:Type} [DecidableEq κ]
def gc (kvs:List (κ×V)) (k:κ):Option V:=(kvs.find? fun kv=>decide (kv.1=k)).map (·.2)
def dl (kvs:List (κ×V)) (k:κ) (v:V):List (κ×V):=
 if (kvs.any fun kv=>decide (kv.1=k))=true then kvs.map (fun kv=>if kv.1=k then (kv.1,v) else kv) else kvs++[(k,v)]
def gM {p:κ×V} {r:List (κ×V)} {k:κ} (e:p.1=k):gc (p::r) k=some p.2:=by simp [gc,List.find?_cons,e]
def gO {p:κ×V} {r:List (κ×V)} {k:κ} (e:¬ p.1=k):gc (p::r) k=gc r k:=by simp [gc,List.find?_cons,e]
def iY (k:κ):∀ kvs:List (κ×V),(kvs.any fun kv=>decide (kv.1=k))=(gc kvs k).isSome
 | []=>rfl
 | p::r=>by
  rw [List.any_cons]
  by_cases e:p.1=k
  · simp only [gM e,decide_eq_true e,Bool.true_or,Option.isSome_some]
  · rw [gO e,decide_eq_false e,Bool.false_or];exact iY k r
def fS (kvs:List (κ×V)) (k:κ) (v:V):(dl kvs k v).length<=kvs.length+1:=by
 unfold dl
 split
 · rw [List.length_map];omega
 · rw [List.length_append,List.length_cons,List.length_nil];omega
def tq {kvs:List (κ×V)} {k:κ} (v:V) (h:gc kvs k=none):dl kvs k v=kvs++[(k,v)]:=by
 unfold dl
 rw [iY,h]
 exact if_neg (by decide)
def RelO.isSome_eq {o:Option V} {u:Option Value} (r:RelO o u):o.isSome=u.isSome:=by
 cases o with
 | none=>cases u with
  | none=>rfl
  | some _=>exact (show False from r).elim
 | some _=>cases u with
  | none=>exact (show False from r).elim
  | some _=>rfl
def RelO.getD {o:Option V} {u:Option Value} {d:V} {d':Value} (r:RelO o u) (rd:RelV d d'):RelV (o.getD d) (u.getD d'):=by
 cases o with
 | none=>cases u with
  | none=>exact rd
  | some _=>exact (show False from r).elim
 | some _=>cases u with
  | none=>exact (show False from r).elim
  | some _=>exact r
def KV.val {kvs:List (κ×V)} {vs:List (κ×Value)} (r:KV kvs vs) (k:κ):RelO (gc kvs k) (valueAt vs k):=by
 unfold KV at r
 induction r with
 | nil=>exact True.intro
 | @cons p q ps qs h t ih =>
  obtain ⟨h1,h2⟩:=h
  by_cases e:p.1=k
  · have e':q.1=k:=h1.symm.trans e
    have b:valueAt (q::qs) k=some q.2:=by simp [valueAt,List.find?_cons,e']
    rw [gM e,b];exact h2
  · have e':¬ q.1=k:=fun z=>e (h1.trans z)
    have b:valueAt (q::qs) k=valueAt qs k:=by simp [valueAt,List.find?_cons,e']
    rw [gO e,b];exact ih
def KV.any {kvs:List (κ×V)} {vs:List (κ×Value)} (r:KV kvs vs) (k:κ):(kvs.any fun kv=>decide (kv.1=k))=vs.any fun kv=>decide (kv.1=k):=by
 unfold KV at r
 induction r with
 | nil=>rfl
 | cons h t ih=>rw [List.any_cons,List.any_cons,ih,h.1]
def KV.repl {kvs:List (κ×V)} {vs:List (κ×Value)} (r:KV kvs vs) (k:κ) {y:V} {u:Value} (ry:RelV y u) :
  KV (kvs.map fun kv=>if kv.1=k then (kv.1,y) else kv) (vs.map fun kv=>if kv.1=k then (kv.1,u) else kv):=by
 unfold KV at r ⊢
 induction r with
 | nil=>exact .nil
 | @cons p q ps qs h t ih =>
  rw [List.map_cons,List.map_cons]
  refine .cons ?_ ih
  obtain ⟨h1,h2⟩:=h
  by_cases e:p.1=k
  · rw [if_pos e,if_pos (h1.symm.trans e)];exact ⟨h1,ry⟩
  · rw [if_neg e,if_neg (fun z=>e (h1.trans z))];exact ⟨h1,h2⟩
def KV.put {kvs:List (κ×V)} {vs:List (κ×Value)} (r:KV kvs vs) (k:κ) {y:V} {u:Value} (ry:RelV y u):KV (dl kvs k y) (stored vs k u):=by
 unfold dl stored
 rw [r.any k]
 by_cases e:(vs.any fun kv=>decide (kv.1=k))=true
 · rw [if_pos e,if_pos e];exact r.repl k ry
 · rw [if_neg e,if_neg e];exact Paired.snoc r ⟨rfl,ry⟩
def KV.length {kvs:List (κ×V)} {vs:List (κ×Value)} (r:KV kvs vs):kvs.length=vs.length:=Paired.length r
end
def lF {P:Program} {w:World} {k:Key} {u:Value} (r:RelV (kV k) u):(bJ P w).is k u=true:=by
 cases k with
 | inl i=>obtain ⟨t,e⟩:=(show ∃ t,u=Value.int i t from r);subst e;exact nu P w i t
 | inr x=>obtain ⟨t,e⟩:=(show ∃ t,u=Value.str x t from r);subst e;exact nv P w x t
def lG {P:Program} {w:World}:∀ {ks:List Key} {us:List Value},Vals (ks.map kV) us->ItemsAre (bJ P w) ks us
 | [],_,r=>by rw [List.map_nil] at r;cases r;exact .nil
 | k::ks,_,r=>by
  rw [List.map_cons] at r
  cases r with
  | cons h t=>exact .cons (lF h) (lG t)
abbrev KT (H:Hp):List (List Key×V)->List (List Key×Addr×Value)->Prop:=Paired fun p q=>p.1=q.1/\H q.2.1=some (.tup (p.1.map kV))/\RelV p.2 q.2.2
def KT.val {H:Hp} {kvs:List (List Key×V)} {xs:List (List Key×Addr×Value)} (r:KT H kvs xs) (k:List Key):RelO (gc kvs k) ((atKey xs k).map (·.2)):=by
 induction r with
 | nil=>exact True.intro
 | @cons p q ps qs h t ih =>
  obtain ⟨h1,_,h2⟩:=h
  by_cases e:p.1=k
  · have e':q.1=k:=h1.symm.trans e
    have b:atKey (q::qs) k=some q.2:=by simp [atKey,List.find?_cons,e']
    rw [gM e,b];exact h2
  · have e':¬ q.1=k:=fun z=>e (h1.trans z)
    have b:atKey (q::qs) k=atKey qs k:=by simp [atKey,List.find?_cons,e']
    rw [gO e,b];exact ih
def KT.repl {H:Hp} {kvs:List (List Key×V)} {xs:List (List Key×Addr×Value)} (r:KT H kvs xs) (k:List Key) {y:V} {u:Value} (ry:RelV y u) :
  KT H (kvs.map fun kv=>if kv.1=k then (kv.1,y) else kv) (xs.map (putAt k u)):=by
 induction r with
 | nil=>exact .nil
 | @cons p q ps qs h t ih =>
  rw [List.map_cons,List.map_cons]
  refine .cons ?_ ih
  obtain ⟨h1,h2,h3⟩:=h
  unfold putAt
  by_cases e:p.1=k
  · rw [if_pos e,if_pos (h1.symm.trans e)];exact ⟨h1,h2,ry⟩
  · rw [if_neg e,if_neg (fun z=>e (h1.trans z))];exact ⟨h1,h2,h3⟩
def KT.put {H:Hp} {kvs:List (List Key×V)} {xs:List (List Key×Addr×Value)} (r:KT H kvs xs) (k:List Key) {b:Addr} {y:V} {u:Value} (hb:H b=some (.tup (k.map kV))) (ry:RelV y u) :
  KT H (dl kvs k y) (storedH xs k b u):=by
 have e:(kvs.any fun kv=>decide (kv.1=k))=(atKey xs k).isSome:=by
  rw [iY,(r.val k).isSome_eq,Option.isSome_map]
 unfold dl storedH
 rw [e]
 by_cases q:(atKey xs k).isSome=true
 · rw [if_pos q,if_pos q];exact r.repl k ry
 · rw [if_neg q,if_neg q];exact Paired.snoc r ⟨rfl,hb,ry⟩
def KT.keeps {H H':Hp} {kvs:List (List Key×V)} {xs:List (List Key×Addr×Value)} (r:KT H kvs xs) (ht:∀ b ys,H b=some (.tup ys)->H' b=some (.tup ys)):KT H' kvs xs:=
 Paired.mapP r fun _ _ z=>⟨z.1,ht _ _ z.2.1,z.2.2⟩
section
variable {P:Program} {w:World} {H:Hp} {h:Heap} {a:Addr}
def xa {u:HO} (ok:HOk P w H h) (e:Rd H a u):ObjOk P w H h a u:=e.ok ok
def lH {kvs:List (Key×V)} (ok:HOk P w H h) (e:Rd H a (.dK kvs)):kvs.length<=sizeLine/\(a==sysModules)=false/\∃ vs,KV kvs vs/\h.DictOf (bJ P w) a vs:=
 show ObjOk P w H h a (.dK kvs) from xa ok e
def xb {kvs:List (Key×V)} (ok:HOk P w H h) (e:H a=some (.dK kvs)):kvs.length<=sizeLine/\(a==sysModules)=false/\∃ vs,KV kvs vs/\h.DictOf (bJ P w) a vs:=lH ok (.inl e)
def my {ks:List Key} (ok:HOk P w H h) (e:H a=some (.tup (ks.map kV))):(tupleKind (bJ P w)).is h ks a:=by
 obtain ⟨_,its,r,o,h1,h2,n,h3⟩:=(show ObjOk P w H h a (.tup (ks.map kV)) from ok a _ e)
 exact ⟨o,its.toArray,n,h1,h2,h3,by simpa using lG r⟩
def nH {kvs:List (List Key×V)} (ok:HOk P w H h) (e:Rd H a (.dT kvs)):kvs.length<=sizeLine/\(a==sysModules)=false∧
  ∃ xs,KT H kvs xs/\h.DictOfH (tupleKind (bJ P w)) a xs:=by
 obtain ⟨z,y,xs,r,o,es,ep,h1,h2,h3,h4,h5⟩:=(show ObjOk P w H h a (.dT kvs) from xa ok e)
 refine ⟨z,y,xs,r,o,es,ep,h1,h2,h3,h4,fun x hx=>?_,h5⟩
 have all:∀ {l:List (List Key×V)} {m:List (List Key×Addr×Value)},KT H l m->∀ x∈m,(tupleKind (bJ P w)).is h x.1 x.2.1:=by
  intro l m q
  induction q with
  | nil=>intro x hx;exact nomatch hx
  | @cons p q ps qs hq t ih =>
   intro x hx
   rcases List.mem_cons.mp hx with e | hx
   · subst e
     exact my ok (by rw [<- hq.1];exact hq.2.1)
   · exact ih x hx
 exact all r x hx
def Ao {kvs:List (List Key×V)} (ok:HOk P w H h) (e:H a=some (.dT kvs)):kvs.length<=sizeLine/\(a==sysModules)=false∧
  ∃ xs,KT H kvs xs/\h.DictOfH (tupleKind (bJ P w)) a xs:=nH ok (.inl e)
end
def DGet (H:Hp) (a:Addr) (y:V) (r:Option V):Prop:=
 (∃ kvs k,Rd H a (.dK kvs)/\y=kV k/\r=gc kvs k)∨∃ kvs k b,Rd H a (.dT kvs)/\y=.ref b/\H b=some (.tup (k.map kV))/\r=gc kvs k
noncomputable def DPut (H:Hp) (a:Addr) (y v:V) (H':Hp):Prop:=
 (∃ kvs k,H a=some (.dK kvs)/\y=kV k/\kvs.length<sizeLine/\H'=upd H a (.dK (dl kvs k v)))∨
 ∃ kvs k b,H a=some (.dT kvs)/\y=.ref b/\H b=some (.tup (k.map kV))/\kvs.length<sizeLine/\H'=upd H a (.dT (dl kvs k v))
def DGet.k {H:Hp} {a:Addr} {kvs:List (Key×V)} {k:Key} (e:H a=some (.dK kvs)):DGet H a (kV k) (gc kvs k):=.inl ⟨kvs,k,.inl e,rfl,rfl⟩
def DPut.k {H:Hp} {a:Addr} {kvs:List (Key×V)} {k:Key} {v:V} (e:H a=some (.dK kvs)) (hl:kvs.length<sizeLine):DPut H a (kV k) v (upd H a (.dK (dl kvs k v))):=.inl ⟨kvs,k,e,rfl,hl,rfl⟩
section
variable {X:Cx} {pins:List (Addr×Obj)} {σ:St} {H:Hp} {s:Shared} {a:Addr} {y v:V} {u r:Value} {o:Option V} {A:Around} {E:Value->Shared->Prop}
def Inv.big (I:Inv X pins σ H s):sysModules<s.heap.objs.size:=by
 have h:mainGlobals<s.heap.objs.size:=(I.mod.glob.keeps I.bk).lt
 exact Nat.lt_trans (by decide) h
def rR {Q:Value->Shared->Prop} (hu:A.units+1<cLine) (I:Inv X pins σ H s) (g:DGet H a y (some v)) (ry:RelV y u) (h:∀ w' s',Inv X pins σ H s'->RelV v w'->Q w' s') :
  wpAny (model X.prog X.w) A (getItem (.ref a) u) Q E s:=by
 rcases g with ⟨kvs,k,e,ey,l⟩ | ⟨kvs,k,b,e,ey,eb,l⟩
 · subst ey
   obtain ⟨z,hd,vs,rel,dd⟩:=lH I.hok e
   obtain ⟨w',hw,rw'⟩:=RelO.some_of (v:=v) (o:=valueAt vs k) (by rw [l];exact rel.val k)
   exact wpAny_getItem_of (lF ry) dd.mapOf hw (h w' _ (I.tok _) rw')
 · subst ey
   cases (show u=Value.ref b from ry)
   obtain ⟨z,hd,xs,rel,dd⟩:=nH I.hok e
   obtain ⟨w',hw,rw'⟩:=RelO.some_of (v:=v) (o:=(atKey xs k).map (·.2)) (by rw [l];exact rel.val k)
   obtain ⟨p,hp,hp2⟩:=mS hw
   refine wpAny_getItem_heap (tupleKind_room_in1 hu) (my I.hok eb) dd hp ?_
   rw [hp2]
   exact h w' _ (I.tok _) rw'
def mz {h':Heap} {t':Nat} {ob:HO} (I:Inv X pins σ H s) (mu:Mut (H a)) (hs:Heap.SameBut a s.heap h') (he:∃ q,h'.get? a=some q) (new:ObjOk X.prog X.w (upd H a ob) h' a ob) :
  Inv X pins σ (upd H a ob) {s with heap:=h',toks:=t'}:=
 I.write (x:=a) (e:=a) mu (.inl rfl) (fun b q hb z=>(hs.2 b hb).trans z) he new
def o8 {P:Program} {w:World} {H':Hp} {h':Heap} {kvs:List (Key×V)} {vs:List (Key×Value)} (z:kvs.length<=sizeLine) (hd:(a==sysModules)=false) (rel:KV kvs vs) (dd:h'.DictOf (bJ P w) a vs) :
  ObjOk P w H' h' a (.dK kvs):=⟨z,hd,vs,rel,dd⟩
def rS {H':Hp} {Q:Unit->Shared->Prop} (hu:A.units+1<cLine) (I:Inv X pins σ H s) (g:DPut H a y v H') (ry:RelV y u) (rv:RelV v r) (h:∀ s',Inv X pins σ H' s'->Q () s') :
  wpAny (model X.prog X.w) A (setItem (.ref a) u r) Q E s:=by
 rcases g with ⟨kvs,k,e,ey,l,eH⟩ | ⟨kvs,k,b,e,ey,eb,l,eH⟩
 · subst ey eH
   obtain ⟨z,hd,vs,rel,dd⟩:=xb I.hok e
   have hz:vs.length<=sizeLine:=by rw [<- rel.length];exact z
   have hl:(dl kvs k v).length<=sizeLine:=by have:=fS kvs k v;omega
   refine wpAny_setItem_pairs (hsz:=hz) (lF ry) dd fun h' dd' hs=>h _ ?_
   have he:∃ q,h'.get? a=some q:=let ⟨q,_,_,hq,_⟩:=dd';⟨q,hq⟩
   exact mz I (by rw [e];exact True.intro) hs he (o8 hl hd (rel.put k rv) dd')
 · subst ey eH
   cases (show u=Value.ref b from ry)
   obtain ⟨z,hd,xs,rel,dd⟩:=Ao I.hok e
   have hz:xs.length<=sizeLine:=by rw [<- Paired.length rel];exact z
   have hl:(dl kvs k v).length<=sizeLine:=by have:=fS kvs k v;omega
   refine wpAny_setItem_heap (hsz:=hz) (tupleKind_room_in1 hu) (my I.hok eb) dd fun h' dd' hs=>h _ ?_
   obtain ⟨q,es,ep,hq,h2,h3,h4,_,h5⟩:=dd'
   refine mz I (by rw [e];exact True.intro) hs ⟨q,hq⟩ ⟨hl,hd,_,(rel.put k eb rv).keeps fun c ys ec=>?_,q,es,ep,hq,h2,h3,h4,h5⟩
   rw [bc (zS ec e (fun z=>nomatch z))]
   exact ec
end
section
variable {X:Cx} {pins:List (Addr×Obj)} {σ:St} {H:Hp} {s:Shared} {a:Addr} {kvs:List (Key×V)} {k:Key} {u:Value} {A:Around} {E:Value->Shared->Prop}
end
def vm (i:Expr):Prop:=∀ ov iv,subscripted i false ov iv=operate [ov,iv] (getItem ov iv)
def vn {prog:Program} {w:World} {A:Around} {E:Value->Shared->Prop} {s:Shared} {env:Env} {value slice:Expr} {pos:Pos} {T id:String} {Q:Value->Shared->Prop}
  (hl:typeLookup (.type T) "__getitem__"=pure (some (.builtin id))) (hs:vm slice)
  (h:wpAny (model prog w) A (eval value env) (fun o s₁=>wpAny (model prog w) A (eval slice env) (fun i s₂=>s₂.TypeIs o T/\wpAny (model prog w) A (getItem o i) Q E s₂) E s₁) E s) :
  wpAny (model prog w) A (eval (.Subscript value slice pos) env) Q E s:=by
 refine Subscript_ (wpAny_mono h (fun o s₁ h₁=>wpAny_mono h₁ (fun i s₂ h₂=>?_) fun _ _ x=>x) fun _ _ x=>x)
 obtain ⟨hT,h₂⟩:=h₂
 unfold subscriptTail
 refine wB ?_
 rw [getitemInPython_of_ne hT.not_modules]
 refine wB (wpAny_specialOf hT hl ?_)
 have fin:wpAny (model prog w) A (subscripted slice false o i) (fun r s₃=>wpAny (model prog w) A (letTemporaryGo value o r >>= fun _=>pure r) Q E s₃) E s₂:=by
  rw [hs o i]
  exact wpAny_operating (wpAny_mono h₂ (fun r s₃ h₃=>wB (wpAny_letTemporaryGo (wpAny_pure h₃))) fun _ _ x=>x)
 first
  | exact wpAny_pure (wB fin)
  | exact wB (wpAny_pure (wB fin))
  | exact wB fin
def nI {X:Cx} {pins:List (Addr×Obj)} {σ:St} {H:Hp} {s:Shared} {a:Addr} {y:V} {o:Option V} (I:Inv X pins σ H s) (g:DGet H a y o):s.TypeIs (.ref a) "dict":=by
 rcases g with ⟨kvs,k,e,_,_⟩ | ⟨kvs,k,b,e,_,_,_⟩
 · obtain ⟨_,_,vs,_,dd⟩:=lH I.hok e
   exact dd.typeIs
 · obtain ⟨_,_,xs,_,dd⟩:=nH I.hok e
   exact dd.typeIs
def Ap (td ty:TE):TE:=fun σ H Q=>td σ H fun x H1=>ty σ H1 fun y H2=>∃ a v,x=.ref a/\DGet H2 a y (some v)/\Q v H2
def Aq (td ty tv:TE):TS:=fun D σ H=>tv σ H fun v H1=>td σ H1 fun x H2=>ty σ H2 fun y H3=>∃ a H4,x=.ref a/\DPut H3 a y v H4/\D.nx σ H4
section
variable {X:Cx} {o i e value:Expr} {pos pos' tpos:Pos} {td ty tv:TE}
def qe (hu:X.A.units+1<cLine) (ho:PE X o td) (hi:PE X i ty) (hs:vm i):PE X (.Subscript o i pos) (Ap td ty):=by
 intro pins s σ H Q I h
 refine vn PySem.F.slot_dict_getitem.lookup hs (thn (ho pins s σ H _ I h) fun u s1 ⟨x,H1,I1,rx,q1⟩=>thn (hi pins s1 σ H1 _ I1 q1) fun iv s2 ⟨y,H2,I2,ry,a,v,ex,g,q2⟩=>?_)
 subst ex
 obtain rfl:u=Value.ref a:=rx
 exact ⟨nI I2 g,rR hu I2 g ry fun w' s3 I3 rw'=>⟨v,H2,I3,rw',q2⟩⟩
def vo (hu:X.A.units+1<cLine) (ho:PE X o td) (hi:PE X i ty) (hv:PE X value tv) (hs:swapsWith value (some (.Subscript o i pos')) pos.line X.env=pure false) :
  PS X (.Assign [.Subscript o i pos'] value pos) (Aq td ty tv):=by
 intro pins s σ H D I h
 refine wpAny_Assign_Subscript (thn (hv pins s σ H _ I h) fun r s1 ⟨v,H1,I1,rv,q1⟩=>thn (ho pins s1 σ H1 _ I1 q1) fun u s2 ⟨x,H2,I2,rx,q2⟩=>thn (hi pins s2 σ H2 _ I2 q2) fun iv s3 ⟨y,H3,I3,ry,a,H4,ex,g,q3⟩=>?_) hs
 subst ex
 obtain rfl:u=Value.ref a:=rx
 exact rS hu I3 g ry rv fun s4 I4=>⟨σ,H4,I4,q3⟩
end
def nJ {P:Program} {w:World} {H:Hp} (h:Heap) (hb:sysModules<h.objs.size):ObjOk P w H (h.push {cls:=.type "dict",data:=.dict #[]}) h.objs.size (.dK []):=
 ⟨Nat.zero_le _,beq_eq_false_iff_ne.mpr (Ne.symm (Nat.ne_of_lt hb)),[],.nil,Heap.DictOf.new h⟩
def yp:TE:=fun _ H Q=>∀ p,H p=none->Q (.ref p) (upd H p (.dK []))
section
variable {X:Cx} {pos:Pos}
def tu:PE X (.Dict [] [] pos) yp:=fun pins s σ H Q I h =>
 wpAny_Dict_empty ⟨.ref s.heap.objs.size,_,I.laid (a:=s.heap.objs.size) (o:=.dK []) (t':=s.toks) (fun _ _ q=>gP _ q) (nL _) (nJ s.heap I.big),rfl,h _ (I.hok.fresh (nL _))⟩
end
def kl:List (TE×TE)->St->Hp->(List (V×V)->Hp->Prop)->Prop
 | [],_,H,Q=>Q [] H
 | (tk,tv)::r,σ,H,Q=>tk σ H fun x H1=>tv σ H1 fun y H2=>kl r σ H2 fun ps H3=>Q ((x,y)::ps) H3
abbrev VV:List (V×V)->List (Value×Value)->Prop:=Paired fun p q=>RelV p.1 q.1/\RelV p.2 q.2
noncomputable def PPs (X:Cx) (pos:Pos) (keys:List (Option Expr)) (values:List Expr) (trs:List (TE×TE)):Prop:=
 ∀ (pins:List (Addr×Obj)) (s:Shared) (σ:St) (H:Hp) (Q:List (V×V)->Hp->Prop),Inv X pins σ H s->kl trs σ H Q→
  wpAny (model X.prog X.w) X.A (evalPairs (pairTrees keys values X.env pos)) (fun vs s'=>∃ ps H',Inv X pins σ H' s'/\VV ps vs/\Q ps H') X.xe s
def qf {X:Cx} {pos:Pos}:PPs X pos [] [] []:=fun pins s σ H Q I h=>pairTrees_nil_walk ⟨[],H,I,.nil,h⟩
def nK {X:Cx} {pos:Pos} {k v:Expr} {ks:List (Option Expr)} {vs:List Expr} {tk tv:TE} {trs:List (TE×TE)} (hk:PE X k tk) (hv:PE X v tv) (hr:PPs X pos ks vs trs) :
  PPs X pos (some k::ks) (v::vs) ((tk,tv)::trs):=fun pins s σ H Q I h =>
 pairTrees_cons_walk (thn (hk pins s σ H _ I h) fun u s1 ⟨x,H1,I1,rx,q1⟩=>thn (hv pins s1 σ H1 _ I1 q1) fun w2 s2 ⟨y,H2,I2,ry,q2⟩ =>
  thn (hr pins s2 σ H2 _ I2 q2) fun ws s3 ⟨ps,H3,I3,rel,q3⟩=>⟨(x,y)::ps,H3,I3,.cons ⟨rx,ry⟩ rel,q3⟩)
def fB (kvs more:List (Key×V)):List (Key×V):=more.foldl (fun acc kv=>dl acc kv.1 kv.2) kvs
def KV.merge:∀ {more:List (Key×V)} {rs:List (Key×Value)} {kvs:List (Key×V)} {vs:List (Key×Value)},KV more rs->KV kvs vs->KV (fB kvs more) (merged vs rs):=by
 intro more rs kvs vs r
 unfold KV at r
 induction r generalizing kvs vs with
 | nil=>intro q;exact q
 | @cons p q ps qs h t ih =>
  intro r0
  have e:KV (dl kvs p.1 p.2) (stored vs q.1 q.2):=by
   have:=r0.put p.1 h.2
   rw [<- h.1];exact this
  exact ih e
def iA:∀ (more kvs:List (Key×V)),(fB kvs more).length<=kvs.length+more.length
 | [],kvs=>by show kvs.length<=kvs.length+0;omega
 | p::r,kvs=>by
  have h1:=iA r (dl kvs p.1 p.2)
  have h2:=fS kvs p.1 p.2
  show (fB (dl kvs p.1 p.2) r).length<=_
  rw [List.length_cons];omega
def km {P:Program} {w:World}:∀ {kvs:List (Key×V)} {ws:List (Value×Value)},VV (kvs.map fun kv=>(kV kv.1,kv.2)) ws->∃ rs,Carries (bJ P w) ws rs/\KV kvs rs
 | [],_,r=>by rw [List.map_nil] at r;cases r;exact ⟨[],True.intro,.nil⟩
 | p::kvs,_,r=>by
  rw [List.map_cons] at r
  cases r with
  | @cons a b as bs h t =>
   obtain ⟨rs,c,q⟩:=km (P:=P) (w:=w) t
   obtain ⟨b1,b2⟩:=b
   exact ⟨(p.1,b2)::rs,⟨lF h.1,rfl,c⟩,.cons ⟨rfl,h.2⟩ q⟩
noncomputable def Ar (trs:List (TE×TE)):TE:=fun σ H Q=>∀ p,H p=none->kl trs σ (upd H p (.dK [])) fun ps H2=>H2 p=some (.dK [])/\∃ kvs:List (Key×V),ps=kvs.map (fun kv=>(kV kv.1,kv.2))/\kvs.length<=15/\Q (.ref p) (upd H2 p (.dK (fB [] kvs)))
def qg {X:Cx} {pos:Pos} {keys:List (Option Expr)} {values:List Expr} {trs:List (TE×TE)} (h:PPs X pos keys values trs) (hall:keys.all (·.isSome)=true) (hl:keys.length=values.length) (h0:keys≠[])
  (h15:keys.length<=15):PE X (.Dict keys values pos) (Ar trs):=by
 intro pins s σ H Q I q
 have hn:=I.hok.fresh (nL s.heap.objs.size)
 have I1:=I.laid (a:=s.heap.objs.size) (o:=.dK []) (h':=s.heap.push {cls:=.type "dict",data:=.dict #[]}) (t':=s.toks) (fun _ _ q=>gP _ q) (nL _) (nJ s.heap I.big)
 refine wpAny_Dict_walk (knd:=bJ X.prog X.w) hall hl h0 h15 (thn (h pins _ σ _ _ I1 (q _ hn)) fun ws s2 ⟨ps,H2,I2,rel,e,kvs,ep,lk,q2⟩=>?_)
 subst ep
 obtain ⟨rs,c,rk⟩:=km (P:=X.prog) (w:=X.w) rel
 obtain ⟨z,hd,vs0,r0,dd⟩:=xb I2.hok e
 cases r0
 refine ⟨rs,c,dd,fun h' dd' hs=>⟨.ref s.heap.objs.size,_,?_,rfl,q2⟩⟩
 have hz:(fB [] kvs).length<=sizeLine:=by
  have h1:=iA kvs []
  rw [List.length_nil] at h1
  rw [sizeLine_eq];omega
 have he:∃ q,h'.get? s.heap.objs.size=some q:=let ⟨q,_,_,hq,_⟩:=dd';⟨q,hq⟩
 exact mz I2 (by rw [e];exact True.intro) hs he (o8 hz hd (rk.merge .nil) dd')
structure M2 (X:Cx) (o:Expr) (m:Str) (apos:Pos) (e f:Expr) (cpos:Pos):Prop where
 base:attributeBase o m X.env (eval o X.env)=eval o X.env
 few:((backTo cpos (starEach [e,f] X.env)).all (fun x=>!x.1)&&(backToKw cpos (keywordEach [] X.env)).all (fun x=>x.1.isSome)
  && decide (([e,f]:List Expr).length+([]:List Keyword).length+(if ([]:List Keyword).isEmpty then 0 else 1)<30))=true
 line:(apos.endLine==cpos.line)=true
 trees:backTo cpos (starEach [e,f] X.env)=[(false,eval e X.env),(false,eval f X.env)]
def IsD (H:Hp) (a:Addr):Prop:=(∃ kvs,Rd H a (.dK kvs))∨∃ kvs,Rd H a (.dT kvs)
def yq {X:Cx} {pins:List (Addr×Obj)} {σ:St} {H:Hp} {s:Shared} {a:Addr} (I:Inv X pins σ H s) (d:IsD H a) :
  s.TypeIs (.ref a) "dict"/\(∀ b,Value.ref a=.ref b->∃ ob,s.heap.get? b=some ob/\ob.dict=none)/\(a==sysModules)=false:=by
 rcases d with ⟨kvs,e⟩ | ⟨kvs,e⟩
 · obtain ⟨_,hd,vs,_,dd⟩:=lH I.hok e
   refine ⟨dd.typeIs,fun b q=>?_,hd⟩
   cases q
   obtain ⟨ob,_,_,h1,h2,_⟩:=dd
   exact ⟨ob,h1,h2.2.1⟩
 · obtain ⟨_,hd,xs,_,dd⟩:=nH I.hok e
   refine ⟨dd.typeIs,fun b q=>?_,hd⟩
   cases q
   obtain ⟨ob,_,_,h1,h2,_⟩:=dd
   exact ⟨ob,h1,h2.2.1⟩
section
variable {X:Cx} {pins:List (Addr×Obj)} {σ:St} {H:Hp} {s:Shared} {a:Addr} {y d:V} {u r:Value} {o:Option V} {A:Around} {E:Value->Shared->Prop}
def yr {Q:Value->Shared->Prop} (hu:A.units+1<cLine) (I:Inv X pins σ H s) (g:DGet H a y o) (ry:RelV y u) (rd:RelV d r) (h:∀ w' s',Inv X pins σ H s'->RelV (o.getD d) w'->Q w' s') :
  wpAny (model X.prog X.w) A (call (.builtin "dict.get") [.ref a,u,r]) Q E s:=by
 rcases g with ⟨kvs,k,e,ey,l⟩ | ⟨kvs,k,b,e,ey,eb,l⟩
 · subst ey
   obtain ⟨z,hd,vs,rel,dd⟩:=lH I.hok e
   refine call_meetsIn PySem.F.slot_dict_get dd.typeIs PySem.F.entry_dict_get (PySem.F.args_dict_get_3 _ _ _) (meets_dict_get_default (bJ X.prog X.w) a (lF ry) hd r) ⟨_,dd.mapOf,h _ _ (I.tok _) ?_⟩
   rw [l]
   exact (rel.val k).getD rd
 · subst ey
   cases (show u=Value.ref b from ry)
   obtain ⟨z,hd,xs,rel,dd⟩:=nH I.hok e
   refine call_meetsIn PySem.F.slot_dict_get dd.typeIs PySem.F.entry_dict_get (PySem.F.args_dict_get_3 _ _ _) (meetsH_dict_get_default (tupleKind (bJ X.prog X.w)) a b hd r) ⟨tupleKind_room_in1 hu,k,xs,my I.hok eb,dd,h _ _ (I.tok _) ?_⟩
   rw [l]
   exact (rel.val k).getD rd
end
def yt (td ty tx:TE):TE:=fun σ H Q=>td σ H fun x H1=>∃ a,x=.ref a/\IsD H1 a/\ty σ H1 fun y H2=>tx σ H2 fun z H3=>∃ o,DGet H3 a y o/\Q (o.getD z) H3
section
variable {X:Cx} {o e f:Expr} {apos cpos:Pos} {td ty tx:TE}
def tw (hu:X.A.units+1<cLine) (ho:PE X o td) (he:PE X e ty) (hf:PE X f tx) (m:M2 X o "get" apos e f cpos):PE X (.Call (.Attribute o "get" apos) [e,f] [] cpos) (yt td ty tx):=by
 intro pins s σ H Q I h
 refine wpAny_Call_method m.base m.few m.line PySem.F.plainAttrs_dict PySem.F.slot_dict_get PySem.F.type_dict_get (thn (ho pins s σ H _ I h) fun u s1 ⟨x,H1,I1,rx,a,ex,d,q1⟩=>?_)
 subst ex
 obtain rfl:u=Value.ref a:=rx
 obtain ⟨t1,t2,_⟩:=yq I1 d
 refine ⟨t1,t2,?_⟩
 rw [m.trees]
 refine Calls.callWith_builtin rfl (Calls.evalArgs_plain (Calls.spliced_cons (thn (he pins s1 σ H1 _ I1 q1) fun iv s2 ⟨y,H2,I2,ry,q2⟩ =>
  Calls.spliced_cons (thn (hf pins s2 σ H2 _ I2 q2) fun fv s3 ⟨z,H3,I3,rz,ov,g,q3⟩=>Calls.spliced_nil ?_))))
 exact yr hu I3 g ry rz fun w' s4 I4 rw'=>⟨_,H3,I4,rw',q3⟩
end
section
variable {X:Cx} {pins:List (Addr×Obj)} {σ:St} {H:Hp} {s:Shared} {a:Addr} {kvs:List (Key×V)} {A:Around} {E:Value->Shared->Prop}
end
section
variable {X:Cx} {pins:List (Addr×Obj)} {σ:St} {H:Hp} {s:Shared} {a:Addr} {y:V} {u:Value} {A:Around} {E:Value->Shared->Prop}
end
end L2
namespace Att
open PySem PySem.W PySem.Calls PyProof.Rows
def jZ {P:Params} {h:Heap}:∀ (ns:List Int) (vs:List Value),WellAll P h vs (ns.map WData.int)->IntsAre vs ns:=by
 intro ns
 induction ns with
 | nil =>
  intro vs w
  rw [List.map_nil] at w
  cases w
  exact .nil
 | cons n ns ih =>
  intro vs w
  rw [List.map_cons] at w
  cases w with
  | cons a b =>
   cases a
   exact .cons _ _ (ih _ b)
def rT {l:OpenLaw} {n:Nat} (hn:l.most=some n) {P:Params} {h:Heap} {args:List WData} {vals:List Value}
  (hpre:l.row.toRowW.claim.pre args=true) (hwl:WellAll P h vals args) :
  ∃ a vs ns,vals=[Value.ref a]/\args=[WData.list (ns.map WData.int)]/\h.get? a=some {cls:=.type "list",data:=.seq vs.toArray}/\IntsAre vs ns/\ns.length<=n:=by
 have hsh:WShape.hasAll [] args [.list .int]=true:=(pre_splitW hpre).1
 have hc:l.pre.holds [] {args:=args}=true:=(pre_splitW hpre).2
 obtain ⟨d,r,rfl,h1,h2⟩:=hasAllW_cons hsh
 obtain rfl:=hasAllW_nil h2
 obtain ⟨xs,rfl,h3⟩:=hasW_list h1
 obtain ⟨ns,rfl⟩:=items_int h3
 have hlen:ns.length<=n:=by
  unfold OpenLaw.pre at hc
  have h4:(WTm.not (.lt (.lit (.int (n:Int))) (.len (.arg 0)))).holds [] {args:=[.list (ns.map .int)]}=true:=by
   have h4:=(holds_andW hc).1
   rw [hn] at h4
   exact h4
  have h5:=condW_of h4 (w_not (w_lt w_lit (w_len_list (w_arg rfl))))
  rw [List.length_map] at h5
  refine Nat.le_of_not_lt fun q=>?_
  have q':(n:Int)<((ns.length:Nat):Int):=by omega
  first
   | (rw [decide_eq_true q'] at h5;exact absurd h5 (by decide))
   | (simp at h5;omega)
 cases hwl with
 | cons w1 w2 =>
  cases w2
  cases w1 with
  | list ho hall=>exact ⟨_,_,ns,rfl,rfl,ho,jZ ns _ hall,hlen⟩
def rV (l:OpenLaw) (args:List WData):l.row.toRowW.claim.post args (.bool true) args=true:=
 postW_of (r:=l.row.toRowW) (X:=(true==true))
  (show WShape.has [] (.bool true) .bool=true by first | rfl | decide | simp [WShape.has,WShape.arms,WShape.armsAll])
  (show (WTm.eq .res (.lit (.bool true))).value [] {args:=args,res:=some (.bool true),after:=args}=some (.bool (true==true)) from w_eq_bool (w_res rfl) w_lit) rfl
def xc {l:OpenLaw} {n:Nat} {q:Program} {loose:List Str} {XP:(Str->Option Value)->Heap->Prop} {YP:World->Heap->Prop} {d:DefRec}
  (hn:l.most=some n) (hdf:d.params.defaults=[])
  (call:∀ (w:World) (s₀ s₁:Shared) (mg mb:Str->Option Value) (fa:Addr) (o:Obj) (pm cd doc:Value) (a:Addr) (vs:List Value) (ns:List Int),
   Ground q loose [] XP w s₀ mg mb s₁.heap->YP w s₁.heap→
   s₁.heap.get? fa=some o->o.data=.func (docDef d.name d.params d.body d.scope pm cd doc)->s₁.heap.CodeRec cd d.name->mg d.name=some (.ref fa)→
   s₁.heap.get? a=some {cls:=.type "list",data:=.seq vs.toArray}->IntsAre vs ns->ns.length<=n->s₁.gens=#[]→
   codeAny (model l.prog w) callerA (.call (.ref fa) ⟨[.ref a],[]⟩) (fun r s'=>r=.ok (.ret (.bool true))/\OldK s₁.heap s'.heap/\s'.os=s₁.os/\AllBare s'.gens) s₁) :
  WalkO q loose XP YP l.row.toRowW d [] (fun f vs=>PySem.call f vs):=by
 intro w s₀ s₁ mg mb G Y fa o pm cd doc dV kV ho hd hcd hD hmg hg args vals as hpre hlay hrd hwl hlo
 obtain rfl:dV=.none:=Dflts.none hD hdf
 obtain rfl:kV=.none:=Dflts.noKw hD
 obtain ⟨a,vs,ns,rfl,rfl,hobj,hints,hlen⟩:=rT hn hpre hwl
 refine enter_call (codeAny_mono (call w s₀ s₁ mg mb fa o pm cd doc a vs ns G Y ho (fd_plain hd) hcd hmg hobj hints hlen hg) fun r s' hq=>?_)
 obtain ⟨rfl,h2,h3,h4⟩:=hq
 exact ⟨.inl ⟨.bool true,.bool true,[],rfl,fun _=>rfl,.bool true,rV l _,fun _=>⟨List.Pairwise.nil,fun _ hm=>(nomatch hm)⟩⟩,h2,h3,h4⟩
section
variable {prog:Program} {w:World} {A:Around} {E:Value->Shared->Prop} {s:Shared} {K:Frag}
end
end Att
namespace L2
open PySem PySem.Spec PyProof.Rows
def lI:∀ {vs:List Value} {ns:List Int},IntsAre vs ns->Vals (ns.map V.int) vs
 | _,_,.nil=>.nil
 | _,_,.cons n t h=>.cons ⟨t,rfl⟩ (lI h)
def vp (H:Hp):Prop:=∀ b,H b=none∨∃ o xs,H b=some (.frz o (.lst xs))
def tz {P:Program} {w:World} {K:PySem.W.Frag} {mg mb:Str->Option Value} {CX:CXT} {k:Nat} {fa a:Addr} {fd:FuncData} {x:Str} {sp:Sp} {s₁:Shared} {vs:List Value} {ns:List Int}
  (KX:K.In s₁.heap) (hns:s₁.heap.Ns mainGlobals mg) (hb:s₁.heap.Ns builtinsNs mb) (hbb:∀ x:Str,x≠"__name__"->mb x=bootBuiltins x) (hlim:s₁.heap.NoLimit) (hg:s₁.gens=#[])
  (ha:s₁.heap.get? a=some {cls:=.type "list",data:=.seq vs.toArray}) (hi:IntsAre vs ns) (hl:ns.length<=sizeLine) (hr:Room k callerA)
  (F:∀ base:Heap,K.In base->base.Ns mainGlobals mg->FnOk P w K mg base CX k fa fd [x] sp) (hbind:∀ (s:Shared) (u:Value),BindsTo s fd ⟨[u],[]⟩ [(x,u)])
  (hsp:∀ H:Hp,vp H->SqL K H a (ns.map V.int)->sp [.ref a] H (fun v _=>v=.bl true) fun _ _ _=>False)
  (hCX:∀ H e s',CX [] H s₁ (fun _ _ _=>False) e s'->False) :
  codeAny (model P w) callerA (.call (.ref fa) ⟨[.ref a],[]⟩) (fun r s'=>r=.ok (.ret (.bool true))/\OldK s₁.heap s'.heap/\s'.os=s₁.os/\AllBare s'.gens) s₁:=by
 have rv:=lI hi
 have lenV:=hi.length
 -- from an abstract heap in which nothing but the script may be tracked
 have core:∀ H:Hp,vp H->SqL K H a (ns.map V.int)->HOk P w H s₁.heap->(∀ b,H b≠none->b=a)->(H a≠none->K.lookup a=none)→
     codeAny (model P w) callerA (.call (.ref fa) ⟨[.ref a],[]⟩) (fun r s'=>r=.ok (.ret (.bool true))/\OldK s₁.heap s'.heap/\s'.os=s₁.os/\AllBare s'.gens) s₁:=by
  intro H hO hS hok hA hK
  have base_of:∀ {b:Addr} {o:Obj},s₁.heap.get? b=some o->H b=none->(mr s₁.heap H).get? b=some o:=fun e n=>sA e n
  have noA:∀ {b:Addr} {o:Obj} {es:Array DictEntry} {ep:Nat},s₁.heap.get? b=some o->o.data=.dict es ep->H b=none:=fun {b o es ep} e d=>by
   cases q:H b with
   | none=>rfl
   | some u =>
    have e':b=a:=hA b (by rw [q];simp)
    subst e'
    rw [ha] at e;cases e
    have d':Data.seq vs.toArray _=Data.dict es ep:=d
    cases d'
  have nsK:∀ {b:Addr} {m:Str->Option Value},s₁.heap.Ns b m->(mr s₁.heap H).Ns b m:=fun {b m} ⟨o,es,ep,e,d,r⟩=>⟨o,es,ep,base_of e (noA e d),d,r⟩
  have hKb:K.In (mr s₁.heap H):=fun b o e=>base_of (KX b o e) (by
   cases q:H b with
   | none=>rfl
   | some u =>
    have e':b=a:=hA b (by rw [q];simp)
    subst e'
    rw [hK (by rw [q];simp)] at e;cases e)
  have hM:Mod K mg (mr s₁.heap H):=⟨hKb,nsK hns,⟨mb,nsK hb,hbb⟩,let ⟨mc,h1,h2⟩:=hlim;⟨mc,nsK h1,h2⟩⟩
  have e0:Env0 P w K mg (mr s₁.heap H) callerA [] s₁ H:=⟨rfl,hM,fun b o e=>uX e,Nat.le_of_eq (rG _ _),trivial,fun b hb=>absurd (show b∈([]:List Addr) from hb) (by simp),hok,.of_eq hg⟩
  refine codeAny_mono ((F _ hKb (nsK hns)).run callerA [] s₁ H ⟨[.ref a],[]⟩ [.ref a] [.ref a] _ _ hr e0 (hbind s₁ (.ref a)) (.cons rfl .nil) (hsp H hO hS)) fun r s' h=>?_
  cases r with
  | error e=>exact (hCX H e s' h).elim
  | ok fl =>
   cases fl with
   | next=>exact False.elim h
   | brk=>exact False.elim h
   | cont=>exact False.elim h
   | ret u =>
    obtain ⟨v,H',os,bare,un,hok',r',q⟩:=h
    have q':v=.bl true:=q
    subst q'
    obtain rfl:u=Value.bool true:=r'
    refine ⟨rfl,OldK.of_keep fun b o e=>?_,os,bare⟩
    cases q:H b with
    | none=>exact un.keep b o e q (by intro z;exact absurd (show b∈([]:List Addr) from z) (by simp)) (by simp)
    | some u =>
     rcases hO b with z | ⟨ob,xs,z⟩
     · rw [q] at z;cases z
     · have z2:=un.frzs b ob _ z
       obtain ⟨e1,_⟩:=hok b _ z
       obtain ⟨e2,_⟩:=hok' b _ z2
       rw [e] at e1;cases e1
       exact e2
 cases hk:K.lookup a with
 | some o =>
  -- the script is one of the module's own objects
  have e:=KX a o hk
  rw [ha] at e
  cases e
  refine core (fun _=>none) (fun _=>.inl rfl) (.inr ⟨_,vs.toArray,_,hk,rfl,rfl,rfl,by rw [List.size_toArray,lenV];exact hl,by simpa using rv⟩) (fun b u z=>by have z':(none:Option HO)=some u:=z;cases z') (fun b z=>absurd rfl z) fun z=>absurd rfl z
 | none =>
  refine core (fun b=>if b=a then some (.frz {cls:=.type "list",data:=.seq vs.toArray} (.lst (ns.map V.int))) else none) (fun b=>?_) (.inl (.inr ⟨{cls:=.type "list",data:=.seq vs.toArray},if_pos rfl⟩)) (fun b u z=>?_) (fun b z=>?_) fun _=>hk
  · by_cases hb:b=a
    · exact .inr ⟨_,_,if_pos hb⟩
    · exact .inl (if_neg hb)
  · by_cases hb:b=a
    · have z':=(if_pos hb).symm.trans z
      cases z'
      subst hb
      exact ⟨ha,by rw [List.length_map];exact hl,vs,_,rv,ha⟩
    · have z':=(if_neg hb).symm.trans z
      cases z'
  · by_cases hb:b=a
    · exact hb
    · exact absurd (if_neg hb) z
def BM {l:PySem.W.OpenLaw} {n k:Nat} {q:Program} {loose:List Str} {XP:(Str->Option Value)->Heap->Prop} {YP:World->Heap->Prop} {d:DefRec} {K:Params->PySem.W.Frag} {CX:World->CXT} {sp:World->Sp} {x:Str}
  (hn:l.most=some n) (hn2:n<=sizeLine) (hdf:d.params.defaults=[]) (hr:Room k callerA)
  (hY:∀ (w:World) (h:Heap),YP w h->(K w.params).In h)
  (F:∀ (w:World) (mg:Str->Option Value) (fa:Addr) (h:Heap),(K w.params).In h->h.Ns mainGlobals mg->mg d.name=some (.ref fa)→
   ∃ fd:FuncData,(∀ (s:Shared) (u:Value),BindsTo s fd ⟨[u],[]⟩ [(x,u)])∧
    ∀ base:Heap,(K w.params).In base->base.Ns mainGlobals mg->FnOk l.prog w (K w.params) mg base (CX w) k fa fd [x] (sp w))
  (hsp:∀ (w:World) (H:Hp) (a:Addr) (ns:List Int),ns.length<=n->vp H->SqL (K w.params) H a (ns.map V.int)->sp w [.ref a] H (fun v _=>v=.bl true) fun _ _ _=>False)
  (hCX:∀ (w:World) (H:Hp) (s:Shared) (e:Value) (s':Shared),CX w [] H s (fun _ _ _=>False) e s'->False) :
  PySem.W.WalkO q loose XP YP l.row.toRowW d [] (fun f vs=>PySem.call f vs):=by
 refine Att.xc hn hdf fun w s₀ s₁ mg mb fa o pm cd doc a vs ns G Y ho hd hcd hmg hobj hints hlen hg=>?_
 have KX:=hY w _ Y
 obtain ⟨fd,hb,hF⟩:=F w mg fa _ KX G.T.g hmg
 exact tz KX G.T.g G.T.b G.T.builtins G.T.nolimit hg hobj hints (Nat.le_trans hlen hn2) hr hF hb (fun H hO hS=>hsp w H a ns hlen hO hS) fun H e s'=>hCX w H s₁ e s'
end L2
/- THE LAST THEOREM (shape;LID,My.* are yours):
   My.Adr: a structure of the addresses that your layer names (classes,functions);My.Txt K t: a structure (Prop) of the equations over K;
   My.txt_mk:{K} {implicit addresses ..} (e1:nsIn K mainGlobals "law"=some (some (.ref f))) (e2:K.lookup f=some ⟨oc,od,.func (fnOf "law" "law" params body scope dV kV doc pm an cdv ct),sl⟩) (e3:codeIn K cdv "law"=true) ..:∃ t,My.Txt K t
(the tactic k_is has no namespace: write k_is) -/
namespace L2
open PySem PySem.Spec PyProof.Rows
def aU (s:Stmt):Arguments:=match s with
 | .FunctionDef _ a _ _ _ _ _ _ _ _=>a
 | _=>{posonlyargs:=[],args:=[],vararg:=none,kwonlyargs:=[],kw_defaults:=[],kwarg:=none,defaults:=[]}
def aO (s:Stmt):List Stmt:=match s with
 | .FunctionDef _ _ b _ _ _ _ _ _ _=>b
 | _=>[]
def ab (s:Stmt):Scope:=match s with
 | .FunctionDef _ _ _ _ _ _ sc _ _ _=>sc
 | _=>{kind:=.function,names:=[],isGenerator:=false,isCoroutine:=false}
abbrev CX0:CXT:=fun _ _ _ _ _ _=>False
abbrev E0:XK:=fun _ _ _=>False
def qh {X:Cx}:iJ CX0 X E0:=fun _ _ _ _ _ _ _ h=>h.elim
structure Fun (K:PySem.W.Frag) (x qual:Str) (st:Stmt) (f:Addr) (fd:FuncData):Prop where
 ex:∃ (oc:Value) (od:Option Addr) (kV doc pm:Value) (an:Option Addr) (cdv ct:Value) (osl:Array (Option Value)),
  fd=PySem.W.fnOf x qual (aU st) (aO st) (ab st) .none kV doc pm an cdv ct/\K.lookup f=some ⟨oc,od,.func fd,osl⟩/\PySem.W.codeIn K cdv qual=true
 kp:PySem.W.keepIn K (.ref f)=true
section
variable {P:Program} {w:World} {K:PySem.W.Frag} {mg:Str->Option Value} {base:Heap}
def Fun.ok {x qual:Str} {st:Stmt} {f:Addr} {fd:FuncData} {N ps:List Str} {k:Nat} {sp:Sp} (F:Fun K x qual st f fd) (S:FnScope N ps (ab st)) (len:∀ vs H Q E,sp vs H Q E->vs.length=ps.length)
  (hbody:∀ (cdv:Value) (A:Around) (outer:List Env) (s:Shared) (H:Hp) (vs:List V) (Q:VK) (E:XK),Room k (A.deeper (envOfC qual (ab st) s.heap.objs.size f cdv))->sp vs H Q E→
   ∃ t,PSs (jY CX0 P w K mg base N qual (ab st) f cdv A outer s H E).nox (aO st) t/\t {nx:=fun _ H'=>Q .non H',rt:=Q} (eX N vs) H):FnOk P w K mg base CX0 (k+1) f fd ps sp:=by
 obtain ⟨oc,od,kV,doc,pm,an,cdv,ct,osl,rfl,lk,hcd⟩:=F.ex
 refine Aj lk hcd S len fun A outer s H vs Q E hr hsp=>?_
 obtain ⟨t,h,q⟩:=hbody cdv A outer s H vs Q E hr hsp
 exact ⟨t,h.nox,q⟩
def Fun.binds {x qual:Str} {st:Stmt} {f:Addr} {fd:FuncData} {ps:List Str} (F:Fun K x qual st f fd)
  (h:∀ (kV doc pm:Value) (an:Option Addr) (cdv ct:Value) (us:List Value),us.length=ps.length->bindArgs (PySem.W.fnOf x qual (aU st) (aO st) (ab st) .none kV doc pm an cdv ct) ⟨us,[]⟩=pure (ps.zip us)):Binds K fd ps []:=by
 obtain ⟨oc,od,kV,doc,pm,an,cdv,ct,osl,rfl,lk,hcd⟩:=F.ex
 exact .all (h kV doc pm an cdv ct)
def cH {x qual:Str} {st:Stmt} {f:Addr} {oc:Value} {od an:Option Addr} {osl:Array (Option Value)} {kV doc pm cdv ct:Value} (l:K.lookup f=some ⟨oc,od,.func (PySem.W.fnOf x qual (aU st) (aO st) (ab st) .none kV doc pm an cdv ct),osl⟩)
  (c:PySem.W.codeIn K cdv qual=true) (k:PySem.W.keepIn K (.ref f)=true):Fun K x qual st f (PySem.W.fnOf x qual (aU st) (aO st) (ab st) .none kV doc pm an cdv ct):=⟨⟨oc,od,kV,doc,pm,an,cdv,ct,osl,rfl,l,c⟩,k⟩
end
def qi {A:Around} {k:Nat} (hr:Room k A):A.units+1<cLine:=Nat.lt_of_le_of_lt (Nat.add_le_add_left (by decide:1<=64) _) hr.units
section
variable {X:Cx}
end
def Same (H H':Hp):Prop:=∀ b o,H b=some o->H' b=some o
def Same.refl (H:Hp):Same H H:=fun _ _ h=>h
def Same.trans {H H1 H2:Hp} (a:Same H H1) (b:Same H1 H2):Same H H2:=fun c o h=>b c o (a c o h)
def Same.free {H H':Hp} (e:Same H H') {l:Addr} (h:H' l=Option.none):H l=Option.none:=by
 cases q:H l with
 | none=>rfl
 | some o =>
  rw [e l o q] at h
  cases h
def Same.seq {K:PySem.W.Frag} {H H':Hp} {a:Addr} {xs:List V} (e:Same H H') (h:SqL K H a xs):SqL K H' a xs:=by
 rcases h with (h | ⟨o,h⟩) | h
 · exact .inl (.inl (e _ _ h))
 · exact .inl (.inr ⟨o,e _ _ h⟩)
 · exact .inr h
section
variable {κ:Type} [DecidableEq κ]
def vq {kvs:List (κ×V)} {k:κ} {v:V} (h:gc kvs k=some v):k∈kvs.map (·.1):=by
 have q:(kvs.any fun kv=>decide (kv.1=k))=true:=by
  rw [iY,h]
  all_goals rfl
 obtain ⟨p,hp,e⟩:=List.any_eq_true.mp q
 exact List.mem_map.mpr ⟨p,hp,of_decide_eq_true e⟩
end
set_option maxRecDepth 100000
set_option maxHeartbeats 4000000
def nM (names:List (Str×NameKind)) (cells:List (Str×Addr)):List (Str×Addr):=
 names.foldl (fun cs nk=>if nk.2==NameKind.free then (nk.1,(cells.lookup nk.1).getD 0)::cs else cs) []
def qj {cells:List (Str×Addr)} {env:Env} (hc:env.cells=cells):∀ (names:List (Str×NameKind)) (acc:List (Str×Addr)),(∀ x∈names,x.2=.free->∃ c,cells.lookup x.1=some c)→
  (forIn names acc (fun (x:Str×NameKind) (r:List (Str×Addr))=>if (x.2==NameKind.free)=true then (do let c <- cellOf env x.1;pure (ForInStep.yield ((x.1,c)::r))) else (pure (ForInStep.yield r):Sem _)))
   = (pure (names.foldl (fun cs nk=>if nk.2==NameKind.free then (nk.1,(cells.lookup nk.1).getD 0)::cs else cs) acc):Sem (List (Str×Addr)))
 | [],acc,_=>rfl
 | x::r,acc,h=>by
  have ih:=fun acc=>qj hc r acc fun y hy=>h y (List.mem_cons_of_mem _ hy)
  simp only [List.forIn_cons,List.foldl_cons]
  cases e:(x.2==NameKind.free) with
  | false =>
   simp only [Bool.false_eq_true,if_false]
   exact ih acc
  | true =>
   obtain ⟨c,hcx⟩:=h x List.mem_cons_self (by simpa using e)
   have hcell:cellOf env x.1=pure c:=by unfold cellOf;rw [hc,hcx]
   simp only [if_true,hcell,hcx,Option.getD_some]
   exact ih _
def kn {scope:Scope} {env:Env} (h:∀ x∈scope.names,x.2=.free->∃ c,env.cells.lookup x.1=some c):closureFor scope env=pure (nM scope.names env.cells):=by
 have:=qj (env:=env) rfl scope.names [] h
 unfold closureFor nM
 rw [<- this]
 simp only [bind_pure]
def lJ {cells:List (Str×Addr)}:∀ {names:List (Str×NameKind)} {acc:List (Str×Addr)} {x:Str} {c:Addr},(∀ y∈names,y.2=.free->∃ c,cells.lookup y.1=some c)→
  (names.foldl (fun cs nk=>if nk.2==NameKind.free then (nk.1,(cells.lookup nk.1).getD 0)::cs else cs) acc).lookup x=some c->(∀ c,acc.lookup x=some c->cells.lookup x=some c)->cells.lookup x=some c
 | [],acc,x,c,_,h,ha=>ha c h
 | y::r,acc,x,c,hy,h,ha=>by
  simp only [List.foldl_cons] at h
  refine lJ (fun z hz=>hy z (List.mem_cons_of_mem _ hz)) h ?_
  intro c' h'
  split at h'
  · rename_i hf
    obtain ⟨c0,e0⟩:=hy y List.mem_cons_self (by simpa using hf)
    rw [List.lookup_cons] at h'
    split at h'
    · rename_i hx
      have hx':x=y.1:=by simpa using hx
      rw [e0] at h'
      subst hx'
      rw [e0]
      simpa using h'
    · exact ha c' h'
  · exact ha c' h'
def gS {names:List (Str×NameKind)} {cells:List (Str×Addr)} {x:Str} {c:Addr} (hy:∀ y∈names,y.2=.free->∃ c,cells.lookup y.1=some c) (h:(nM names cells).lookup x=some c):cells.lookup x=some c:=
 lJ hy h fun c h=>by simp at h
def lK {cells:List (Str×Addr)}:∀ {names:List (Str×NameKind)} {acc:List (Str×Addr)} {x:Str},((x,NameKind.free)∈names∨(acc.lookup x).isSome)→
  ((names.foldl (fun cs nk=>if nk.2==NameKind.free then (nk.1,(cells.lookup nk.1).getD 0)::cs else cs) acc).lookup x).isSome
 | [],acc,x,h=>by simpa using h
 | y::r,acc,x,h=>by
  simp only [List.foldl_cons]
  refine lK ?_
  rcases h with h | h
  · rcases List.mem_cons.mp h with e | h
    · subst e
      right
      simp [List.lookup_cons]
    · exact .inl h
  · right
    split
    · rw [List.lookup_cons]
      split
      · rfl
      · exact h
    · exact h
def nN {names:List (Str×NameKind)} {cells:List (Str×Addr)} {x:Str} (h:(x,NameKind.free)∈names):∃ c,(nM names cells).lookup x=some c:=
 Option.isSome_iff_exists.mp (lK (.inl h))
structure CmpScope (N:List Str) (outer scope:Scope) (M:List Str) (src:List (Option Nat)):Prop where
 kind:scope.kind=.function
 nocell:∀ y∈scope.names,y.2≠.cell
 free:∀ y∈scope.names,y.2=.free->outer.names.lookup y.1=some .cell∨outer.names.lookup y.1=some .free
 names:∀ y∈scope.names,y.2=.local->scope.names.lookup y.1=some .local
 lf:∀ y∈scope.names,y.2=.free->scope.names.lookup y.1=some .free
 len:M.length=src.length
 nd:M.Nodup
 src:∀ p∈M.zip src,∀ j∈p.2,N[j]?=some p.1/\(p.1,NameKind.free)∈scope.names
def stC (src:List (Option Nat)) (σ:St):St:=src.map fun o=>o.bind fun j=>(σ[j]?).join
noncomputable def cxC (X:Cx) (M:List Str) (scope:Scope) (C:Addr) (s:Shared) (H:Hp) (ex:List Addr):Cx:=
 {X with N:=M,s₀:=s,H₀:=H,env:=compEnvC scope (nM scope.names X.env.cells) C X.env,outer:=X.stack,ex:=ex,fn:=fun _=>false,pn:=[],xe:=fun _ _=>False}
noncomputable def PTs (X:Cx) (ifs:List Expr) (t:TT):Prop:=
 ∀ (pins:List (Addr×Obj)) (s:Shared) (σ:St) (H:Hp) (Q:Bool->Hp->Prop),Inv X pins σ H s->t σ H Q→
  wpAny (model X.prog X.w) X.A (forIn ifs true fun c r=>if r=true then do let ok <- isTrue c X.env (eval c X.env);pure (ForInStep.yield ok) else pure (ForInStep.yield r)) (TP X pins σ Q) X.xe s
def tYes:TT:=fun _ H Q=>Q true H
def vt {X:Cx}:PTs X [] tYes:=fun pins s σ H Q I h=>wpAny_tests_nil ⟨H,I,h⟩
def Wk (a b:St):Prop:=a.length=b.length/\∀ (i:Nat) v,a[i]?=some (some v)->b[i]?=some (some v)
noncomputable def lL (src:List (Option Nat)) (wi:TI) (g:TG) (tt:TT) (te:TE):TE:=fun σ H Q=>wi σ H fun J H1=>∀ D,H1 D=none->∃ W:Nat->Nat->Hp->Prop,(∃ m,W 0 m (upd H1 D (.lst [])))/\∀ i m H,W i m H→
 (J.stop i H/\Q (.ref D) H)∨(J.go i H/\∃ N:Hp->Prop,(∀ H',N H'->∃ m',m'<m/\W (i+1) m' H')/\∀ x H',J.yld i H x H'→
  g x (stC src σ) H' fun σ2 H2=>Wk (stC src σ) σ2/\tt σ2 H2 fun b H3=>if b=true then te σ2 H3 fun v H4=>∃ ys,H4 D=some (.lst ys)/\ys.length<sizeLine/\N (upd H4 D (.lst (ys++[v]))) else N H3)
def iZ {prog:Program} {w:World} {A:Around} {R:Result->Shared->Prop} {s:Shared} {elt target iter:Expr} {ifs:List Expr} {scope:Scope} {pos:Pos} {it acc:Value} {env:Env} (I:Nat->Shared->Prop)
  (turn:∀ n s,I n s->wpAny (model prog w) A (pyNext it) (fun r s₁=>match r with
   | none=>R (.ok .next) s₁
   | some v=>wpAny (model prog w) A (letOwnedTupleGo target it v) (fun _ s₁'=>wpAny (model prog w) A (assign target env v) (fun _ s₂ =>
       wpAny (model prog w) A (forIn ifs true fun c r=>if r=true then do let ok <- isTrue c env (eval c env);pure (ForInStep.yield ok) else pure (ForInStep.yield r)) (fun ok s₃ =>
        if ok=true then wpAny (model prog w) A (eval elt env) (fun x s₄ =>
         wpAny (model prog w) A (call (.builtin "list.append") [acc,x]) (fun _ s₅=>∃ m,m<n/\I m s₅) (fun _ _=>False) s₄) (fun _ _=>False) s₃
        else ∃ m,m<n/\I m s₃) (fun _ _=>False) s₂) (fun _ _=>False) s₁') (fun _ _=>False) s₁) (fun _ _=>False) s)
  (n:Nat) (h:I n s) :
  codeAny (model prog w) A (.compLoop (.ListComp elt [⟨target,iter,ifs,0⟩] scope pos) 0 it acc env) R s:=by
 refine codeAny_loop rfl I (fun n s hI=>?_) n h
 show wpAny _ A ((compTurn (.ListComp elt [⟨target,iter,ifs,0⟩] scope pos) 0 it acc env).onRaise (fun x=>do noteFrame x env;theTreesLotGoes x)) _ _ s
 refine wpAny_noted ?_
 rw [compTurn_list]
 refine wB (wpAny_standAt (wB (wpAny_mono (turn n s hI) (fun r s₁ h₁=>?_) fun _ _ h'=>h'.elim)))
 cases r with
 | none=>exact wpAny_pure h₁
 | some v =>
  refine wB (wpAny_mono h₁ (fun _ s₁' h₁'=>?_) fun _ _ h'=>h'.elim)
  refine wB (wpAny_mono h₁' (fun _ s₂ h₂=>wB (wpAny_mono h₂ (fun ok s₃ h₃=>?_) fun _ _ h'=>h'.elim)) fun _ _ h'=>h'.elim)
  cases ok with
  | false=>exact wpAny_pure ⟨rfl,h₃⟩
  | true =>
   exact wB (wB (wpAny_mono h₃ (fun x s₄ h₄=>wB (wpAny_mono h₄ (fun _ s₅ h₅=>wpAny_pure (wpAny_pure ⟨rfl,h₅⟩)) fun _ _ h'=>h'.elim)) fun _ _ h'=>h'.elim))
section
variable {X:Cx} {elt tg iter:Expr} {ifs:List Expr} {scope:Scope} {pos:Pos} {M:List Str} {src:List (Option Nat)} {wi:TI} {g:TG} {tt:TT} {te:TE}
def mB {env:Env} {scope:Scope} {x:Str} (hn:∀ y∈scope.names,y.2≠.cell) (h:(relabel scope env).names.lookup x=some .cell∨(relabel scope env).names.lookup x=some .free):(x,NameKind.free)∈scope.names:=by
 have key:∀ k,(relabel scope env).names.lookup x=some k->(k=.cell∨k=.free)->(x,NameKind.free)∈scope.names:=by
  intro k hk hkk
  have hm:=PySem.mem_of_lookup hk
  unfold relabel at hm
  obtain ⟨⟨n,k0⟩,hy,e⟩:=List.mem_map.mp hm
  dsimp only at e
  split at e
  · rename_i hc
    simp only [Bool.and_eq_true] at hc
    have:k0=.free:=by simpa using hc.1.1
    subst this
    cases e
    exact hy
  · cases e
    rcases hkk with z | z
    · subst z;exact absurd rfl (hn _ hy)
    · subst z;exact hy
 rcases h with h | h
 · exact key _ h (.inl rfl)
 · exact key _ h (.inr rfl)
def nO {pins:List (Addr×Obj)} {σ:St} {H:Hp} {s s1:Shared} {fp:List Addr} {m1:Str->Option Value} (S:CmpScope X.N X.env.scope scope M src) (I:Inv X pins σ H s) (hf:∀ b∈fp,iG X pins H b)
  (hfl:∀ b∈fp,b<s.heap.objs.size) (hn:s1.heap.Ns s.heap.objs.size m1) (hk:∀ b o,s.heap.get? b=some o->s1.heap.get? b=some o) (hos:s1.os=s.os) (hg:s1.gens=s.gens) :
  Inv (cxC X M scope s.heap.objs.size s H fp) [] (stC src σ) H s1:=by
 have hcells:∀ x∈scope.names,x.2=.free->∃ c,X.env.cells.lookup x.1=some c:=fun x hx hfr=>I.ok.has x.1 (S.free x hx hfr)
 have sub:∀ x c,(nM scope.names X.env.cells).lookup x=some c->X.env.cells.lookup x=some c:=fun x c h=>gS hcells h
 have cellK:∀ c v,s.heap.IsCell c v->s1.heap.IsCell c v:=fun c v ⟨o,ho,hd⟩=>⟨o,hk c o ho,hd⟩
 refine ⟨⟨I.ok.mod,S.kind,I.ok.glob,I.ok.blt,nL _,fun y z c h1 h2=>I.ok.inj y z c (sub _ _ h1) (sub _ _ h2),fun x hx=>nN (mB S.nocell hx),fun x c h=>(nomatch h),I.ok.hd,I.ok.frames,.inl rfl,
  fun b hb=>⟨Nat.ne_of_lt (hfl b hb),fun x c h=>(hf b hb).2.2.2.2.1 x c (sub _ _ h)⟩,I.bs,Nat.le_trans I.ok.bsz I.sz,fun b o e hb=>?_,fun b hb z=>?_,I.stack,I.stkFree⟩,
  hos,(by rw [hg];exact I.bare),Un.kept hk,⟨m1,hn,fun i x v h1 h2 h3=>?_⟩,fun x c h=>?_,I.hok.fresh (Nat.le_refl _),fun x c h=>I.freeC x c (sub _ _ h),fun p hp=>absurd hp (by simp [cxC]),I.hok.kept hk,?_⟩
 · rcases (hf b hb).2.2.2.1 with z | z
   · exact I.ok.noex b o e z
   · exact absurd (Nat.lt_of_lt_of_le (Heap.lt_size e) (Nat.le_trans I.ok.bsz z)) (Nat.lt_irrefl _)
 · rcases List.mem_cons.mp (I.stkSub b z) with q | q
   · exact (hf b hb).2.1 q
   · exact (hf b hb).2.2.1 q
 · -- a name taken over
   have h1:M[i]?=some x:=h1
   unfold stC at h2
   rw [List.getElem?_map] at h2
   cases hs:src[i]? with
   | none=>rw [hs] at h2;cases h2
   | some o =>
    rw [hs] at h2
    simp only [Option.map_some,Option.some.injEq] at h2
    cases o with
    | none=>cases h2
    | some j =>
     simp only [Option.bind_some] at h2
     have hmem:(x,some j)∈M.zip src:=by
      have:(M.zip src)[i]?=some (x,some j):=by rw [List.getElem?_zip_eq_some];exact ⟨h1,hs⟩
      exact List.mem_of_getElem? this
     obtain ⟨hN,hfr⟩:=S.src _ hmem j rfl
     have hσ:σ[j]?=some (some v):=by
      cases e:σ[j]? with
      | none=>rw [e] at h2;cases h2
      | some o=>rw [e] at h2;simp only [Option.join_some] at h2;rw [h2]
     have hkind:=S.free _ hfr rfl
     obtain ⟨m,hm,hl⟩:=I.loc
     obtain ⟨u,r,l⟩:=hl j x v hN hσ (.inr hkind)
     refine ⟨u,r,?_⟩
     have hloc:X.env.kindOf x≠some .local:=by
      show X.env.scope.names.lookup x≠_
      rcases hkind with q | q<;>rw [q]<;>decide
     rcases l with l | ⟨_,c,e,z⟩
     · exact absurd l.1 hloc
     · obtain ⟨c',e'⟩:=nN (cells:=X.env.cells) hfr
       have:=sub _ _ e'
       rw [e] at this
       cases this
       refine .inr ⟨?_,c,e',cellK _ _ z⟩
       rcases h3 with q | q
       · exact absurd q (by
          -- a name that is free in the block is not local there
          exact (by
           intro q
           have:scope.names.lookup x=some .local:=by
            have hb:∀ (names:List (Str×NameKind)),(names.map fun (n,k)=>if (k==NameKind.free&&X.env.scope.kind==.function&&X.env.kindOf n==some .cell) then (n,NameKind.cell) else (n,k)).lookup x=some .local->names.lookup x=some .local:=by
             intro names
             induction names with
             | nil=>intro h;simp at h
             | cons y r ih =>
              obtain ⟨n,k⟩:=y
              intro h
              simp only [List.map_cons] at h
              by_cases hx:x=n
              · subst hx
                split at h
                · simp [List.lookup_cons] at h
                · simpa [List.lookup_cons] using h
              · have hx':(x==n)=false:=by simpa using hx
                split at h
                · simp only [List.lookup_cons,hx'] at h ⊢;exact ih h
                · simp only [List.lookup_cons,hx'] at h ⊢;exact ih h
            exact hb _ q
           rw [S.lf _ hfr rfl] at this
           cases this))
       · exact q
 · obtain ⟨v,z⟩:=I.cell x c (sub _ _ h)
   exact ⟨v,cellK _ _ z⟩
 · show (stC src σ).length=M.length
   unfold stC
   rw [List.length_map,S.len]
def nP (S:CmpScope X.N X.env.scope scope M src) (hc:X.calm=true) (hi:PI X tg iter wi) (hg:M.Nodup->∀ C s H ex,PG (cxC X M scope C s H ex) tg g) (ht:∀ C s H ex,PTs (cxC X M scope C s H ex) ifs tt)
  (he:∀ C s H ex,PE (cxC X M scope C s H ex) elt te) (hs:∀ x,foldedSetIterable iter X.env x=pure x:=by intro _;rfl) :
  PE X (.ListComp elt [⟨tg,iter,ifs,0⟩] scope pos) (lL src wi g tt te):=by
 intro pins s σ H Q I h
 rw [eval_ListComp]
 have hcells:∀ x∈scope.names,x.2=.free->∃ c,X.env.cells.lookup x.1=some c:=fun x hx hfr=>I.ok.has x.1 (S.free x hx hfr)
 refine wpAny_comprehension_free (use:=none) rfl hs (kn hcells) S.kind S.names (thn (hi pins s σ H _ I h) fun v s1 h1=>thn h1 fun itv s2 h2=>?_)
 obtain ⟨it,fp,tn,J,H2,rfl,I2,T,st2,f2,hq⟩:=h2
 refine wpAny_newObj_type ?_
 have I3:Inv X pins σ (upd H2 s2.heap.objs.size (.lst [])) {s2 with heap:=s2.heap.push {cls:=.type "list",dict:=none,data:=.seq ([]:List Value).toArray},toks:=s2.toks}:=I2.lnew (its:=[]) (ys:=[]) (t':=s2.toks) .nil (by simp)
 have hD:H2 s2.heap.objs.size=none:=I2.fresh
 obtain ⟨W,⟨m0,w0⟩,turn⟩:=hq _ hD
 generalize hDn:s2.heap.objs.size=D at*
 generalize hs3:({s2 with heap:=s2.heap.push {cls:=.type "list",dict:=none,data:=.seq ([]:List Value).toArray},toks:=s2.toks}:Shared)=s3 at*
 have f3:∀ b∈fp,iG X pins (upd H2 D (.lst [])) b:=fun b hb=>⟨by
  obtain ⟨o,e,_⟩:=T.obj _ _ st2 b hb
  rw [bc (by rw [<- hDn];exact Nat.ne_of_lt (Heap.lt_size e))]
  exact (f2 b hb).1,(f2 b hb).2⟩
 have k23:∀ b o,s2.heap.get? b=some o->s3.heap.get? b=some o:=fun b o e=>by rw [<- hs3];exact gP _ e
 have st3:tn 0 s3.heap:=T.keep _ _ _ st2 fun b _ o e=>k23 b o e
 have fl3:∀ b∈fp,b<s3.heap.objs.size:=fun b hb=>by
  obtain ⟨o,e,_⟩:=T.obj _ _ st3 b hb
  exact Heap.lt_size e
 refine wpAny_newFunctionEnv S.nocell (by intro y hy;simp at hy) (fun h₁ hns₁ hsb₁=>?_) S.kind
 have k34:∀ b o,s3.heap.get? b=some o->h₁.get? b=some o:=fun b o e=>hsb₁.extBut b o (Nat.ne_of_lt (Heap.lt_size e)) (gP _ e)
 generalize hs4:({s3 with heap:=h₁,toks:=s3.toks+([]:List (Str×Value)).length}:Shared)=s4
 have I4:Inv (cxC X M scope s3.heap.objs.size s3 (upd H2 D (.lst [])) fp) [] (stC src σ) (upd H2 D (.lst [])) s4:=by
  rw [<- hs4]
  exact nO S I3 f3 fl3 hns₁ k34 rfl rfl
 have st4:tn 0 s4.heap:=T.keep _ _ _ st3 fun b _ o e=>by rw [<- hs4];exact k34 b o e
 generalize hX':cxC X M scope s3.heap.objs.size s3 (upd H2 D (.lst [])) fp=X' at*
 have hg':PG X' tg g:=by rw [<- hX'];exact hg S.nd _ _ _ _
 have ht':PTs X' ifs tt:=by rw [<- hX'];exact ht _ _ _ _
 have he':PE X' elt te:=by rw [<- hX'];exact he _ _ _ _
 have eP:X'.prog=X.prog:=by rw [<- hX'];rfl
 have eW:X'.w=X.w:=by rw [<- hX'];rfl
 have eK:X'.K=X.K:=by rw [<- hX'];rfl
 have eA:X'.A=X.A:=by rw [<- hX'];rfl
 have ex':X'.xe=fun _ _=>False:=by rw [<- hX'];rfl
 have ec:X'.calm=true:=by rw [<- hX'];exact hc
 have eE:X'.env=compEnvC scope (nM scope.names X.env.cells) s3.heap.objs.size X.env:=by rw [<- hX'];rfl
 have stat:∀ {H':Hp},(∀ b∈fp,H' b=none)->∀ b∈fp,iG X' [] H' b:=fun hn b hb=>by
  rw [<- hX']
  refine ⟨hn b hb,Nat.ne_of_lt (fl3 b hb),fun z=>?_,.inl hb,fun x c h=>(f3 b hb).2.2.2.2.1 x c (gS hcells h),fun p hp=>absurd hp (by simp [cxC])⟩
  rcases List.mem_cons.mp (I3.stkSub b z) with q | q
  · exact (f3 b hb).2.1 q
  · exact (f3 b hb).2.2.1 q
 -- behind the block
 have fin:∀ (H':Hp) (s':Shared),Inv X' [] (stC src σ) H' s'->Q (.ref D) H'->compPost (model X.prog X.w) X.A X.xe none (EP X pins σ Q) (.ref D) s3.heap.objs.size (.ok .next) s':=by
  intro H' s' J' q
  rw [<- hX'] at J'
  obtain ⟨m,hn,_⟩:=id J'.loc
  refine ⟨m,hn,fun h' sb=>⟨.ref D,H',?_,rfl,q⟩⟩
  have hC:H' s3.heap.objs.size=none:=J'.free
  have un:Un (frs X.stack) fp (upd H2 D (.lst [])) H' s3.heap s'.heap:=J'.base
  have kC:∀ b o,b≠s3.heap.objs.size->s'.heap.get? b=some o->h'.get? b=some o:=fun b o hb e=>sb.extBut b o hb e
  have un':Un (frs X.stack) fp (upd H2 D (.lst [])) H' s3.heap h':=
   ⟨fun b o e n hb hx=>kC b o (Nat.ne_of_lt (Heap.lt_size e)) (un.keep b o e n hb hx),
    fun b o e n hb hx=>by
     obtain ⟨sl,e'⟩:=un.slot b o e n hb hx
     exact ⟨sl,kC b _ (Nat.ne_of_lt (Heap.lt_size e)) e'⟩,
    un.free,
    fun b o e hx=>by
     obtain ⟨o',e'⟩:=un.there b o e hx
     exact ⟨o',kC b _ (Nat.ne_of_lt (Heap.lt_size e)) e'⟩,un.tups,un.frzs,un.tbls⟩
  have hok':HOk X.prog X.w H' h':=fun b u e=>by
   have nb:b≠s3.heap.objs.size:=fun z=>by rw [z,hC] at e;cases e
   refine (J'.hok b u e).stay (fun c v hc' q=>kC c v ?_ q) (fun _ q=>q) fun _ _ q=>q
   rcases hc' with z | z
   · rw [z];exact nb
   · intro w;rw [w,hC] at z;cases z
  exact I3.call' (s':={s' with heap:=h'}) (show s'.os=s3.os from J'.os) un' hok' J'.bare fun b hb=>⟨(f3 b hb).2.2.2.1,(f3 b hb).2.1,(f3 b hb).2.2.2.2.1,(f3 b hb).2.2.2.2.2⟩
 have loop:∀ s4':Shared,s4'=s4->codeAny (model X.prog X.w) X.A (.compLoop (.ListComp elt [⟨tg,iter,ifs,0⟩] scope pos) 0 (.ref it) (.ref D) X'.env) (compPost (model X.prog X.w) X.A X.xe none (EP X pins σ Q) (.ref D) s3.heap.objs.size) s4':=by
  rintro _ rfl
  refine iZ (fun n s'=>∃ i H',Inv X' [] (stC src σ) H' s'/\tn i s'.heap/\(∀ b∈fp,H' b=none)/\W i n H') ?_ m0 ⟨0,_,I4,st4,fun b hb=>(f3 b hb).1,w0⟩
  rintro n s5 ⟨i,H5,I5,st5,fr5,w5⟩
  rcases turn i n H5 w5 with ⟨stop,qn⟩ | ⟨go,N,hN,step⟩
  · have:=T.done X' eP eW eK ec i [] s5 (stC src σ) H5 (fun _ _=>False) I5 (stat fr5) st5 stop
    rw [eA] at this
    refine thn this fun r s6 ⟨hr,I6⟩=>?_
    subst hr
    exact fin H5 s6 I6 qn
  · have:=T.item X' eP eW eK ec i [] s5 (stC src σ) H5 (fun _ _=>False) I5 (stat fr5) st5 go
    rw [eA] at this
    refine thn this fun r s6 ⟨u,hr,h6⟩=>?_
    subst hr
    refine thn h6 fun _ s7 ⟨x,H7,I7,r7,y7,st7,fr7⟩=>?_
    have I7':=I7.pinned (stat fr7) (T.obj _ _ st7)
    have a1:=hg' _ s7 (stC src σ) H7 x u _ I7' r7 (step x H7 y7)
    rw [ex',eP,eW,eA] at a1
    refine thn a1 fun _ s8 ⟨σ8,H8,I8,wk8,q8⟩=>?_
    have a2:=ht' _ s8 σ8 H8 _ I8 q8
    rw [ex',eP,eW,eA] at a2
    refine thn a2 fun ok s9 ⟨H9,I9,q9⟩=>?_
    have again:∀ {H7':Hp} {s':Shared},Inv X' ([]++jm fp s7.heap) σ8 H7' s'->N H7'->∃ m,m<n/\∃ i H',Inv X' [] (stC src σ) H' s'/\tn i s'.heap/\(∀ b∈fp,H' b=none)/\W i m H':=fun {H7' s'} J7 n7=>by
     obtain ⟨m',hm,w7⟩:=hN H7' n7
     refine ⟨m',hm,i+1,H7',J7.unpinned.weak wk8.1 wk8.2,T.keep _ _ _ st7 fun b hb o e=>(J7.pin (b,o) (List.mem_append_right _ (List.mem_append_right _ (d4 hb e)))).1,fun b hb=>?_,w7⟩
     obtain ⟨o,e,d⟩:=T.obj _ _ st7 b hb
     exact (J7.pin (b,o) (List.mem_append_right _ (List.mem_append_right _ (d4 hb e)))).2.1
    cases ok with
    | false=>exact again I9 q9
    | true =>
     have a3:=he' _ s9 σ8 H9 _ I9 q9
     rw [ex',eP,eW,eA] at a3
     refine thn a3 fun v s10 ⟨y,H10,I10,r10,ys,hl,hz,q10⟩=>?_
     have a4:=ii (X:=X') _ s10 σ8 H10 (.ref D) [y] (.ref D) [v] (fun _ H'=>N H') I10 rfl (.cons r10 .nil) ⟨D,ys,y,rfl,rfl,hl,hz,q10⟩
     rw [ex',eP,eW,eA] at a4
     refine thn a4 fun _ s11 ⟨_,H11,I11,_,q11⟩=>?_
     exact again I11 q11
 have e4:∀ c:Env,c=X'.env->codeAny (model X.prog X.w) X.A (.compStart (.ListComp elt [⟨tg,iter,ifs,0⟩] scope pos) 0 (.ref it) (.ref D) c) (compPost (model X.prog X.w) X.A X.xe none (EP X pins σ Q) (.ref D) s3.heap.objs.size) s4:=by
  rintro _ rfl
  exact codeAny_compStart_list (loop _ rfl) (T.self _ _ _ _ _ st4 (loop _ rfl))
 exact e4 _ (by rw [eE];rfl)
end
def Its (x:Str):It:=⟨fun i _=>i<x.cps.size,fun i H v H'=>H'=H/\∃ c,x.cps[i]?=some c/\v=.str ⟨#[c]⟩,fun i _=>i=x.cps.size⟩
def rW {P:Program} {w:World} {K:PySem.W.Frag} {tg:Expr} (x:Str) (t:Tok) (it:Addr):Turn P w K tg (Its x) [it] it (fun i h=>h.IsStrIter it "str_ascii_iterator" x t i) where
 mem:=by simp
 obj:=fun i h st b hb=>by
  have e:b=it:=by simpa using hb
  subst e
  obtain ⟨o,e,c,d⟩:=st
  exact ⟨o,e,fun v z=>by rw [d] at z;cases z⟩
 keep:=fun i h h' st k=>let ⟨o,ho,r⟩:=st;⟨o,k it (by simp) o ho,r⟩
 item:=by
  intro X hP hw hK hc i pins s σ H E I hf st hg
  subst hP hw hK
  obtain ⟨f0,f1,f2,f3,f4,f5⟩:=hf it (by simp)
  have hg:i<x.cps.size:=hg
  refine wpAny_pyNext_ascii_item st (c:=x.cps[i]) (by simp [hg]) fun h' st' sb=>?_
  have I1:Inv X pins σ H {s with heap:=h',toks:=s.toks+1}:=I.turned (t':=s.toks+1) (fun b o hb e=>(sb.2 b hb).trans e) f0 f1 f3 f4 f5
  obtain ⟨o,e,c,d⟩:=id st'
  exact ⟨_,rfl,nC (s:={s with heap:=h',toks:=s.toks+1}) e c d (by decide) ⟨.str ⟨#[x.cps[i]]⟩,H,I1,⟨_,rfl⟩,⟨rfl,x.cps[i],by simp [hg],rfl⟩,st',fun b hb=>(hf b hb).1⟩⟩
 done:=by
  intro X hP hw hK hc i pins s σ H E I hf st hg
  subst hP hw hK
  have hg:i=x.cps.size:=hg
  obtain ⟨f0,f1,f2,f3,f4,f5⟩:=hf it (by simp)
  exact wpAny_pyNext_ascii_end (I.ok.hd hc) st (by simp [hg]) fun h' eb=>⟨rfl,I.turned (t':=s.toks) (fun b o hb e=>eb b o hb e) f0 f1 f3 f4 f5⟩
 self:=fun _ _ _ _ _ st h=>wpAny_pyIter_striter_ascii st h
def rX {P:Program} {w:World} {K:PySem.W.Frag} {tg:Expr} (x:Str) (t:Tok) (it:Addr):Turn P w K tg (Its x) [it] it (fun i h=>h.IsStrIter it "str_iterator" x t i) where
 mem:=by simp
 obj:=fun i h st b hb=>by
  have e:b=it:=by simpa using hb
  subst e
  obtain ⟨o,e,c,d⟩:=st
  exact ⟨o,e,fun v z=>by rw [d] at z;cases z⟩
 keep:=fun i h h' st k=>let ⟨o,ho,r⟩:=st;⟨o,k it (by simp) o ho,r⟩
 item:=by
  intro X hP hw hK hc i pins s σ H E I hf st hg
  subst hP hw hK
  obtain ⟨f0,f1,f2,f3,f4,f5⟩:=hf it (by simp)
  have hg:i<x.cps.size:=hg
  refine wpAny_pyNext_wide_item st (c:=x.cps[i]) (by simp [hg]) fun h' st' sb=>?_
  have I1:Inv X pins σ H {s with heap:=h',toks:=s.toks+1}:=I.turned (t':=s.toks+1) (fun b o hb e=>(sb.2 b hb).trans e) f0 f1 f3 f4 f5
  obtain ⟨o,e,c,d⟩:=id st'
  exact ⟨_,rfl,nC (s:={s with heap:=h',toks:=s.toks+1}) e c d (by decide) ⟨.str ⟨#[x.cps[i]]⟩,H,I1,⟨_,rfl⟩,⟨rfl,x.cps[i],by simp [hg],rfl⟩,st',fun b hb=>(hf b hb).1⟩⟩
 done:=by
  intro X hP hw hK hc i pins s σ H E I hf st hg
  subst hP hw hK
  have hg:i=x.cps.size:=hg
  obtain ⟨f0,f1,f2,f3,f4,f5⟩:=hf it (by simp)
  exact wpAny_pyNext_wide_end (I.ok.hd hc) st (by simp [hg]) fun h' eb=>⟨rfl,I.turned (t':=s.toks) (fun b o hb e=>eb b o hb e) f0 f1 f3 f4 f5⟩
 self:=fun _ _ _ _ _ st h=>wpAny_pyIter_striter_wide st h
section
variable {X:Cx} {tg:Expr}
def iStr (tl:TE):TI:=fun σ H R=>tl σ H fun v H1=>∃ x,v=.str x/\R (Its x) H1
def tB {l:Expr} {tl:TE} (hl:PE X l tl):PI X tg l (iStr tl):=by
 intro pins s σ H R I h
 refine thn (hl pins s σ H _ I h) fun v s1 ⟨y,H1,I1,r1,q1⟩=>?_
 obtain ⟨x,e,q⟩:=q1
 subst e
 obtain ⟨t,rfl⟩:=r1
 have fin:∀ b∈[s1.heap.objs.size],iG X pins H1 b:=fun b hb=>by
  have e:b=s1.heap.objs.size:=by simpa using hb
  subst e
  exact I1.fpOk (nL _) (I1.hok.fresh (nL _))
 cases ha:x.cps.all (· < 128)
 · refine wpAny_pyIter_wide ha ?_
   exact ⟨s1.heap.objs.size,[s1.heap.objs.size],_,_,H1,rfl,I1.kept (t':=s1.toks) fun b o e=>gP _ e,rX x t _,⟨_,Heap.get?_push_size _ rfl,rfl,rfl⟩,fin,q⟩
 · refine wpAny_pyIter_ascii ha ?_
   exact ⟨s1.heap.objs.size,[s1.heap.objs.size],_,_,H1,rfl,I1.kept (t':=s1.toks) fun b o e=>gP _ e,rW x t _,⟨_,Heap.get?_push_size _ rfl,rfl,rfl⟩,fin,q⟩
def ko:∀ {bs:List Bool} {us:List Value},Vals (bs.map V.bl) us->us=bs.map Value.bool
 | [],_,.nil=>rfl
 | b::r,_,.cons h t=>by
  have h:_=Value.bool b:=h
  rw [h,ko t]
  rfl
def rY {bs:List Bool}:(List.range bs.length).map (fun i=>bs.getD i false)=bs:=by
 apply List.ext_getElem
 · simp
 · intro i h1 h2
   simp at h1
   simp [h1]
def tE (hc:X.calm=true):CallR X (.builtin "all") (fun xs H Q=>∃ (a:Addr) (bs:List Bool),xs=[.ref a]/\SqL X.K H a (bs.map V.bl)/\Q (.bl (bs.all id)) H):=by
 intro pins s σ H xs us Q I r h
 obtain ⟨a,bs,rfl,hq,q⟩:=h
 obtain ⟨u,rfl,ru⟩:=iX r
 cases ru
 obtain ⟨its,rv,p,hz⟩:=I.list hq
 have eu:=ko rv
 subst eu
 have hne:a≠s.heap.objs.size:=by
  obtain ⟨o,n,e,_⟩:=p
  exact Nat.ne_of_lt (Heap.lt_size e)
 refine call_all_walk (wpAny_pyIter_list p.isList ⟨s.heap.objs.size,_,_,_,_,_,fun i=>bs.getD i false,rfl,Walks.list (A:=X.A.in1) (I.ok.hd hc) _ a hne (bs.map Value.bool).toArray,⟨⟨_,Heap.get?_push_size _ rfl,rfl,rfl⟩,?_⟩,?_,?_⟩)
 · obtain ⟨o,ho,hr⟩:=p.isList
   exact ⟨o,gP _ ho,hr⟩
 · intro i v s' Q' E' hP hQ
   rw [List.getElem?_toArray,List.getElem?_map] at hP
   cases e:bs[i]? with
   | none=>rw [e] at hP;cases hP
   | some b =>
    rw [e] at hP
    cases hP
    refine wpAny_truthy_bool ?_
    dsimp only at hQ
    rw [List.getD_eq_getElem?_getD,e] at hQ
    exact hQ
 · intro h' tk hk
   refine ⟨.bl _,H,I.kept (h':=h') (t':=tk) fun b o e=>hk b o (fun z=>?_) (gP _ e),rfl,?_⟩
   · have z:b=s.heap.objs.size:=by simpa using z
     subst z
     exact absurd (Heap.lt_size e) (Nat.lt_irrefl _)
   · have e:(List.range (bs.map Value.bool).toArray.size).all (fun i=>bs.getD i false)=bs.all id:=by
      conv=>rhs;rw [<- rY (bs:=bs)]
      rw [List.all_map]
      simp
     rw [e]
     exact q
def lM:∀ {ts:List Str} {us:List Value},Vals (ts.map V.str) us->∃ l,us=strValues l/\l.map (·.1)=ts
 | [],_,.nil=>⟨[],rfl,rfl⟩
 | x::r,_,.cons h t=>by
  obtain ⟨tk,rfl⟩:=h
  obtain ⟨l,e1,e2⟩:=lM t
  exact ⟨(x,tk)::l,by rw [e1];rfl,by rw [<- e2];rfl⟩
def vv:MtR X "str.join" (fun x vs H Q=>∃ (a:Str) (l:Addr) (ts:List Str),x=.str a/\vs=[.ref l]/\SqL X.K H l (ts.map V.str)/\JoinOk a ts=true/\Q (.str (Txt.join a ts)) H):=by
 intro pins s σ H x vs v us Q I rx rv h
 obtain ⟨a,l,ts,rfl,rfl,hq,hj,q⟩:=h
 obtain ⟨t,rfl⟩:=rx
 obtain ⟨u,rfl,ru⟩:=rv.one
 cases ru
 obtain ⟨its,r,p,hz⟩:=I.list hq
 obtain ⟨ls,rfl,e2⟩:=lM r
 exact SC.join p.isList e2 hj fun t' k=>⟨.str _,H,I.tok _,⟨_,rfl⟩,q⟩
def mC:CallR X (.type "int") (fun xs H Q=>∃ x n,xs=[.str x]/\PySem.intText? x=some n/\x.length<=640/\Q (.int n) H):=by
 intro pins s σ H xs us Q I r h
 obtain ⟨x,n,rfl,hn,hl,q⟩:=h
 obtain ⟨u,rfl,ru⟩:=iX r
 obtain ⟨t,rfl⟩:=ru
 exact PySem.W.KIN.call_text hn hl ⟨.int n,H,I.tok _,⟨_,rfl⟩,q⟩
def qk {v:Value} {o:Option Int} (h:IsPart v o):∃ p:Option (Int×Tok),v=partValue p/\o=p.map (·.1):=by
 cases o with
 | none=>exact ⟨none,by cases h<;>rfl,rfl⟩
 | some i =>
  cases h
  exact ⟨some (i,_),rfl,rfl⟩
def rSlS:V->Option Int->Option Int->Hp->VK->Prop:=fun x lo hi H Q=>∃ z,x=.str z/\z.length<=sizeLine/\Q (.str (Txt.slice z lo hi)) H
def yu:SlR X rSlS:=by
 intro pins s σ H x v vl vu lo hi sl Q I rx hs pl pu h
 obtain ⟨z,rfl,hz,q⟩:=h
 obtain ⟨t,rfl⟩:=rx
 obtain ⟨l,rfl,rfl⟩:=qk pl
 obtain ⟨u,rfl,rfl⟩:=qk pu
 refine ⟨"str",_,F.slot_str_getitem.lookup,typeIs_str _ _ _,?_⟩
 exact wpAny_getItem_str_slice (l:=l) (u:=u) (st:=none) hs rfl (post_val_or_str ⟨Nat.le_trans (Txt.slice_le z _ _) hz,fun t' k=>⟨.str _,H,I.tok _,⟨_,rfl⟩,q⟩⟩)
end
def eR:bootBuiltins "len"=some (.builtin "len"):=by first | exact PySem.boot_len | exact PyProof.Rows.boot_len | decide +kernel
def yv:bootBuiltins "all"=some (.builtin "all"):=by first | exact PySem.boot_all | exact PyProof.Rows.boot_all | decide +kernel
def lu:bootBuiltins "isinstance"=some (.builtin "isinstance"):=by first | exact PySem.boot_isinstance | exact PyProof.Rows.boot_isinstance | decide +kernel
def mD:bootBuiltins "int"=some (.type "int"):=by first | exact PySem.boot_int | exact PyProof.Rows.boot_int | decide +kernel
def tF:bootBuiltins "str"=some (.type "str"):=by first | exact PySem.boot_str | exact PyProof.Rows.boot_str | decide +kernel
def ql:bootBuiltins "bool"=some (.type "bool"):=by first | exact PySem.boot_bool | exact PyProof.Rows.boot_bool | decide +kernel
def kr:bootBuiltins "tuple"=some (.type "tuple"):=by first | exact PySem.boot_tuple | exact PyProof.Rows.boot_tuple | decide +kernel
def mE:bootBuiltins "list"=some (.type "list"):=by first | exact PySem.boot_list | exact PyProof.Rows.boot_list | decide +kernel
def qm:bootBuiltins "dict"=some (.type "dict"):=by first | exact PySem.boot_dict | exact PyProof.Rows.boot_dict | decide +kernel
def mF:bootBuiltins "enumerate"=some (.type "enumerate"):=by first | exact PySem.boot_enumerate | exact PyProof.Rows.boot_enumerate | decide +kernel
structure OkF (P:Program) (w:World) (K:PySem.W.Frag) (mg:Str->Option Value) (base:Heap) (x:Str) (k:Nat) (ps:List Str) (sp:Sp):Prop where
 ex:∃ f fd,mg x=some (.ref f)/\PySem.W.keepIn K (.ref f)=true/\Binds K fd ps []/\FnOk P w K mg base CX0 k f fd ps sp
structure DefF (K:PySem.W.Frag) (mg:Str->Option Value) (x:Str) (st:Stmt) (ps:List Str):Prop where
 ex:∃ f fd,mg x=some (.ref f)/\PySem.W.keepIn K (.ref f)=true/\Binds K fd ps []/\Fun K x x st f fd
section
variable {P:Program} {w:World} {K:PySem.W.Frag} {mg:Str->Option Value} {base:Heap}
def DefF.ok {x:Str} {st:Stmt} {N ps:List Str} {k:Nat} {sp:Sp} (F:DefF K mg x st ps) (S:FnScope N ps (ab st)) (len:∀ vs H Q E,sp vs H Q E->vs.length=ps.length)
  (hbody:∀ (f:Addr) (cdv:Value) (A:Around) (outer:List Env) (s:Shared) (H:Hp) (vs:List V) (Q:VK) (E:XK),Room k (A.deeper (envOfC x (ab st) s.heap.objs.size f cdv))->sp vs H Q E→
   ∃ t,PSs (jY CX0 P w K mg base N x (ab st) f cdv A outer s H E).nox (aO st) t/\t {nx:=fun _ H'=>Q .non H',rt:=Q} (eX N vs) H):OkF P w K mg base x (k+1) ps sp:=by
 obtain ⟨f,fd,h1,h2,h3,h4⟩:=F.ex
 exact ⟨f,fd,h1,h2,h3,h4.ok S len (hbody f)⟩
def DefF.mk' {x:Str} {st:Stmt} {ps:List Str} {f:Addr} {oc:Value} {od an:Option Addr} {osl:Array (Option Value)} {kV doc pm cdv ct:Value} {h:Heap} (X:K.In h) (G:h.Ns mainGlobals mg)
  (a:PySem.W.nsIn K mainGlobals x=some (some (.ref f)))
  (l:K.lookup f=some ⟨oc,od,.func (PySem.W.fnOf x x (aU st) (aO st) (ab st) .none kV doc pm an cdv ct),osl⟩) (c:PySem.W.codeIn K cdv x=true) (k:PySem.W.keepIn K (.ref f)=true)
  (hb:∀ (kV doc pm:Value) (an:Option Addr) (cdv ct:Value) (us:List Value),us.length=ps.length->bindArgs (PySem.W.fnOf x x (aU st) (aO st) (ab st) .none kV doc pm an cdv ct) ⟨us,[]⟩=pure (ps.zip us)):DefF K mg x st ps:=
 ⟨f,_,PySem.W.mg_of X G a,k,(cH l c k).binds hb,cH l c k⟩
end
section
variable {X:Cx} {k:Nat} {ps:List Str} {sp:Sp} {x:Str} {p pos:Pos} {e:Expr} {es:List Expr} {t:TA}
def tH (F:OkF X.prog X.w X.K X.mg X.base x k ps sp) (hr:Room k X.A) (hg:Gl X x) (ha:PA X (e::es) t) (hdb:(x==("__debug__":Str))=false:=by decide)
  (he:starEach (e::es) X.env=(false,eval e X.env)::starEach es X.env:=by rfl) (hpl:(backTo pos (starEach es X.env)).any (·.1)=false:=by rfl):PE X (.Call (.Name x p) (e::es) [] pos) (sT sp [] E0 t):=by
 obtain ⟨f,fd,h1,h2,h3,h4⟩:=F.ex
 exact u8 h4 hr hg h1 h2 h3 .nil qh ha hdb he hpl
end
noncomputable def xf (N:List Str) (outer scope:Scope) (M:List Str) (src:List (Option Nat)):Bool:=
 (match scope.kind with | .function=>true | _=>false)&&
 scope.names.all (fun y=>decide (y.2≠.cell))&&
 scope.names.all (fun y=>!decide (y.2=.free)||(decide (outer.names.lookup y.1=some .cell)||decide (outer.names.lookup y.1=some .free)))&&
 scope.names.all (fun y=>!decide (y.2=.local)||decide (scope.names.lookup y.1=some .local))&&
 scope.names.all (fun y=>!decide (y.2=.free)||decide (scope.names.lookup y.1=some .free))&&
 decide (M.length=src.length)&&decide M.Nodup&&
 (M.zip src).all (fun p=>match p.2 with | none=>true | some j=>decide (N[j]?=some p.1)&&decide ((p.1,NameKind.free)∈scope.names))
def CmpScope.of {N:List Str} {outer scope:Scope} {M:List Str} {src:List (Option Nat)} (h:xf N outer scope M src=true):CmpScope N outer scope M src:=by
 unfold xf at h
 simp only [Bool.and_eq_true,List.all_eq_true,Bool.or_eq_true,Bool.not_eq_true',decide_eq_true_eq,decide_eq_false_iff_not] at h
 obtain ⟨⟨⟨⟨⟨⟨⟨h1,h2⟩,h3⟩,h4⟩,h5⟩,h6⟩,h7⟩,h8⟩:=h
 refine ⟨?_,h2,fun y hy e=>(h3 y hy).resolve_left fun z=>z e,fun y hy e=>(h4 y hy).resolve_left fun z=>z e,fun y hy e=>(h5 y hy).resolve_left fun z=>z e,h6,h7,fun p hp j hj=>?_⟩
 · revert h1
   cases scope.kind<;>simp
 · have:=h8 p hp
   cases e:p.2 with
   | none=>rw [e] at hj;cases hj
   | some j' =>
    rw [e] at hj this
    cases hj
    simpa using this
def Plain (J:It) (xs:List V) (ok:Hp->Prop):Prop:=∀ i H,ok H->(i<xs.length->J.go i H)/\(i=xs.length->J.stop i H)/\∀ x H',i<xs.length->J.yld i H x H'->H'=H/\xs[i]?=some x
def plain_list {K:PySem.W.Frag} {a:Addr} {xs:List V}:Plain (Itl K a) xs (fun H=>SqL K H a xs):=fun i H h =>
 ⟨fun hi=>⟨xs,xs[i],h,by simp [hi]⟩,fun e=>⟨xs,h,by omega⟩,fun x H' _ y=>⟨y.1,y.2 xs h⟩⟩
def plain_tup {K:PySem.W.Frag} {a:Addr} {xs:List V}:Plain (Itt K a) xs (fun H=>SqT K H a xs):=fun i H h =>
 ⟨fun hi=>⟨xs,xs[i],h,by simp [hi]⟩,fun e=>⟨xs,h,by omega⟩,fun x H' _ y=>⟨y.1,y.2 xs h⟩⟩
def ku (lo:Int) (n:Nat):List V:=(List.range n).map fun (i:Nat)=>V.int (lo+i)
def plain_range {lo:Int} {n:Nat}:Plain (Itr lo n) (ku lo n) (fun _=>True):=fun i H h=>by
 refine ⟨fun hi=>?_,fun e=>?_,fun x H' hi y=>?_⟩
 · show i<n
   simpa [ku] using hi
 · show n<=i
   simp [ku] at e
   omega
 · obtain ⟨e,rfl⟩:=y
   refine ⟨e,?_⟩
   unfold ku at hi ⊢
   rw [List.length_map,List.length_range] at hi
   rw [List.getElem?_map,List.getElem?_range hi]
   rfl
def qo (x:Str):List V:=x.cps.toList.map fun c=>V.str ⟨#[c]⟩
def plain_str {x:Str}:Plain (Its x) (qo x) (fun _=>True):=fun i H h=>by
 refine ⟨fun hi=>?_,fun e=>?_,fun v H' hi y=>?_⟩
 · show i<x.cps.size
   simpa [qo] using hi
 · show i=x.cps.size
   simpa [qo] using e
 · obtain ⟨e,c,hc,rfl⟩:=y
   refine ⟨e,?_⟩
   unfold qo
   rw [List.getElem?_map,Array.getElem?_toList,hc]
   rfl
noncomputable def xg (src:List (Option Nat)) (g:TG) (tt:TT) (te:TE) (σ:St) (J:It) (H1:Hp) (Q:VK) (D:Addr):Prop:=∃ W:Nat->Nat->Hp->Prop,(∃ m,W 0 m (upd H1 D (.lst [])))/\∀ i m H,W i m H→
 (J.stop i H/\Q (.ref D) H)∨(J.go i H/\∃ N:Hp->Prop,(∀ H',N H'->∃ m',m'<m/\W (i+1) m' H')/\∀ x H',J.yld i H x H'→
  g x (stC src σ) H' fun σ2 H2=>Wk (stC src σ) σ2/\tt σ2 H2 fun b H3=>if b=true then te σ2 H3 fun v H4=>∃ ys,H4 D=some (.lst ys)/\ys.length<sizeLine/\N (upd H4 D (.lst (ys++[v]))) else N H3)
def nQ {src:List (Option Nat)} {wi:TI} {g:TG} {tt:TT} {te:TE} {σ:St} {H:Hp} {Q:VK}:lL src wi g tt te σ H Q=wi σ H fun J H1=>∀ D,H1 D=none->xg src g tt te σ J H1 Q D:=rfl
noncomputable def ForW (g:TG) (tb:TS) (D:Ends) (J:It) (σ:St) (H1:Hp):Prop:=∃ W:Nat->Nat->St->Hp->Prop,(∃ m,W 0 m σ H1)/\∀ i m σ H,W i m σ H→
 (J.stop i H/\D.nx σ H)∨(J.go i H/\∃ N:St->Hp->Prop,(∀ σ' H',N σ' H'->∃ m',m'<m/\W (i+1) m' σ' H')/\∀ x H',J.yld i H x H'->g x σ H' fun σ2 H2=>tb {D with nx:=N,ct:=N,bk:=D.nx} σ2 H2)
def qp {wi:TI} {g:TG} {tb:TS} {D:Ends} {σ:St} {H:Hp}:tFor wi g tb D σ H=wi σ H fun J H1=>ForW g tb D J σ H1:=rfl
def tI {X:Cx} {x:Str} {v:V} {pos:Pos} (hg:Gl X x) (hm:∃ u,X.mg x=some u/\RelV v u) (hd:(x==("__debug__":Str))=false:=by decide):PE X (.Name x pos) (tC v):=by
 obtain ⟨u,h1,h2⟩:=hm
 exact uZ hg h1 h2 hd
section
variable {X:Cx} {K:PySem.W.Frag} {tg:Expr}
end
def tJ (scope outer:Scope):Scope:={scope with names:=scope.names.map fun (n,k)=>if (k==.free&&outer.kind==.function&&outer.names.lookup n==some .cell) then (n,.cell) else (n,k)}
noncomputable def gH (sc:Scope) (N:List Str) (i:Nat) (x:Str):Bool:=
 decide (N[i]?=some x)&&(decide (sc.names.lookup x=some .local)||(decide (sc.names.lookup x=some .cell)||decide (sc.names.lookup x=some .free)))&&!(x==("__debug__":Str))&&!(x==("__classdict__":Str))
def lv (sc:Scope) (x:Str):Bool:=decide (sc.names.lookup x=some .local)||decide (sc.names.lookup x=some .cell)
def bt (sc:Scope) (x:Str):Bool:=decide (sc.names.lookup x=some .globalImplicit)&&!(x==("__debug__":Str))&&!decide (x=("__name__":Str))
section
variable {sc:Scope} {N:List Str} {i:Nat} {x:Str}
def kx (h:gH sc N i x=true):N[i]?=some x:=by
 unfold gH at h
 simp only [Bool.and_eq_true,decide_eq_true_eq] at h
 exact h.1.1.1
def yw (h:gH sc N i x=true):Vis sc x:=by
 unfold gH at h
 simp only [Bool.and_eq_true,Bool.or_eq_true,decide_eq_true_eq] at h
 exact h.1.1.2
def yx (h:gH sc N i x=true):(x==("__debug__":Str))=false:=by
 unfold gH at h
 simp only [Bool.and_eq_true,Bool.not_eq_true'] at h
 exact h.1.2
def As (h:gH sc N i x=true):(x==("__classdict__":Str))=false:=by
 unfold gH at h
 simp only [Bool.and_eq_true,Bool.not_eq_true'] at h
 exact h.2
def o9 (h:lv sc x=true):Loc sc x:=by
 unfold lv at h
 simp only [Bool.or_eq_true,decide_eq_true_eq] at h
 exact h
def q96 (h:bt sc x=true):sc.names.lookup x=some .globalImplicit:=by
 unfold bt at h
 simp only [Bool.and_eq_true,decide_eq_true_eq] at h
 exact h.1.1
def jq (h:bt sc x=true):(x==("__debug__":Str))=false:=by
 unfold bt at h
 simp only [Bool.and_eq_true,Bool.not_eq_true'] at h
 exact h.1.2
def q86 (h:bt sc x=true):x≠("__name__":Str):=by
 unfold bt at h
 simp only [Bool.and_eq_true,Bool.not_eq_true',decide_eq_false_iff_not] at h
 exact h.2
end
def dE (X:Cx) (sc:Scope):Prop:=X.env.scope=sc
section
variable {X:Cx} {sc:Scope} {N:List Str} {x:Str} {pos p:Pos}
def pvD (i:Nat) (h:gH sc N i x=true) (e1:dE X sc:=by rfl) (e2:X.N=N:=by rfl):PE X (.Name x pos) (oO i):=by
 have e1:X.env.scope=sc:=e1
 subst e1 e2
 exact xN (kx h) (yw h) (yx h) (As h)
def glD (h:bt sc x=true) (e1:dE X sc:=by rfl):Gl X x:=by
 have e1:X.env.scope=sc:=e1
 subst e1
 exact q96 h
def qq {i:Nat} {e:Expr} {te:TE} {pos':Pos} (h:gH sc N i x=true) (hl:lv sc x=true) (nd:N.Nodup) (he:PE X e te) (e1:dE X sc:=by rfl) (e2:X.N=N:=by rfl) (hf:X.fn x=true∨X.env.scope.names.lookup x=some .local:=by exact .inl rfl)
  (hs:swapsWith e (some (.Name x pos')) pos.line X.env=pure false:=by rfl):PS X (.Assign [.Name x pos'] e pos) (u4 te (kc i)):=by
 have e1:X.env.scope=sc:=e1
 subst e1 e2
 exact xX nd (kx h) (o9 hl) he hs hf
def bG {i:Nat} (h:gH sc N i x=true) (hl:lv sc x=true) (nd:N.Nodup) (e1:dE X sc:=by rfl) (e2:X.N=N:=by rfl) (hf:X.fn x=true∨X.env.scope.names.lookup x=some .local:=by exact .inl rfl):PG X (.Name x pos) (kc i):=by
 have e1:X.env.scope=sc:=e1
 subst e1 e2
 exact pZ nd (kx h) (o9 hl) hf
def loOk (sc:Scope) (x:Str):Bool:=decide (sc.names.lookup x=some .local)
def cD {i:Nat} (h:gH sc N i x=true) (hl:loOk sc x=true) (nd:X.N.Nodup) (e1:dE X sc) (e2:X.N=N:=by rfl):PG X (.Name x pos) (kc i):=by
 have e1:X.env.scope=sc:=e1
 subst e1 e2
 have hl:X.env.scope.names.lookup x=some .local:=of_decide_eq_true hl
 exact pZ nd (kx h) (.inl hl) (.inr hl)
def tK {v:V} (h:bt sc x=true) (hm:∃ u,X.mg x=some u/\RelV v u) (e1:dE X sc:=by rfl):PE X (.Name x pos) (tC v):=tI (glD h e1) hm (jq h)
def tM {v:V} {u:Value} (h:bt sc x=true) (hm:X.mg x=none) (hv:bootBuiltins x=some u) (r:RelV v u) (e1:dE X sc:=by rfl):PE X (.Name x pos) (tC v):=u1 (glD h e1) hm hv r (q86 h) (jq h)
variable {e:Expr} {es:List Expr} {t:TA} {id T:String} {r:List V->Hp->VK->Prop} {k:Nat} {ps:List Str} {sp:Sp}
def jr (h:bt sc x=true) (hc:CallR X (.builtin id) r) (hm:X.mg x=none) (hv:bootBuiltins x=some (.builtin id)) (ha:PA X (e::es) t) (e1:dE X sc:=by rfl)
  (he:starEach (e::es) X.env=(false,eval e X.env)::starEach es X.env:=by rfl) (hpl:(backTo pos (starEach es X.env)).any (·.1)=false:=by rfl):PE X (.Call (.Name x p) (e::es) [] pos) (tCB r t):=
 sX hc (glD h e1) hm hv ha (q86 h) (jq h) he hpl
def iK (h:bt sc x=true) (hc:CallR X (.type T) r) (hm:X.mg x=none) (hv:bootBuiltins x=some (.type T)) (ha:PA X (e::es) t) (e1:dE X sc:=by rfl)
  (he:starEach (e::es) X.env=(false,eval e X.env)::starEach es X.env:=by rfl) (hpl:(backTo pos (starEach es X.env)).any (·.1)=false:=by rfl):PE X (.Call (.Name x p) (e::es) [] pos) (tCB r t):=
 rQ hc (glD h e1) hm hv ha (q86 h) (jq h) he hpl
def jt (h:bt sc x=true) (F:OkF X.prog X.w X.K X.mg X.base x k ps sp) (hr:Room k X.A) (ha:PA X (e::es) t) (e1:dE X sc:=by rfl)
  (he:starEach (e::es) X.env=(false,eval e X.env)::starEach es X.env:=by rfl) (hpl:(backTo pos (starEach es X.env)).any (·.1)=false:=by rfl):PE X (.Call (.Name x p) (e::es) [] pos) (sT sp [] E0 t):=
 tH F hr (glD h e1) ha (jq h) he hpl
variable {tg a b:Expr} {ta:TA}
def pb (h:bt sc "range"=true) (hm:X.mg "range"=none) (ha:PA X [a] ta) (e1:dE X sc:=by rfl) (hs:starEach [a] X.env=[(false,eval a X.env)]:=by rfl):PI X tg (.Call (.Name "range" p) [a] [] pos) (wV ta):=rJ (glD h e1) hm ha hs
end
section
variable {X:Cx} {M:List Str} {scope outer:Scope} {C:Addr} {s:Shared} {H:Hp} {ex:List Addr} {x:Str} {pos p:Pos}
def scC (ho:dE X outer):dE (cxC X M scope C s H ex) (tJ scope outer):=by
 have ho:X.env.scope=outer:=ho
 subst ho
 rfl
end
inductive Dt where
 | non | bl (b:Bool) | int (i:Int) | str (x:Str) | tup (l:List Dt) | lst (l:List Dt) | dct (ks:List Key) (l:List Dt) | dcT (ks:List (List Key)) (l:List Dt)
 | ins (c:Str) (ns:List Str) (l:List Dt)
mutual
noncomputable def peq:Dt->Dt->Bool
 | .non,.non=>true
 | .bl a,.bl b=>a==b
 | .bl a,.int j=>(if a then (1:Int) else 0)==j
 | .int i,.bl b=>i==(if b then (1:Int) else 0)
 | .int i,.int j=>i==j
 | .str x,.str y=>x==y
 | .tup l,.tup m=>peqs l m
 | .lst l,.lst m=>peqs l m
 | .dct ks l,.dct js m=>decide (ks=js)&&peqs l m
 | .dcT ks l,.dcT js m=>decide (ks=js)&&peqs l m
 | .ins _ _ _,.ins _ _ _=>true
 | _,_=>false
noncomputable def peqs:List Dt->List Dt->Bool
 | [],[]=>true
 | d::l,e::m=>peq d e&&peqs l m
 | _,_=>false
end
mutual
def i0:∀ d:Dt,peq d d=true
 | .non=>by simp [peq]
 | .bl b=>by simp [peq]
 | .int i=>by simp [peq]
 | .str x=>by simp [peq]
 | .tup l=>by simp only [peq];exact peqs_self l
 | .lst l=>by simp only [peq];exact peqs_self l
 | .dct ks l=>by simp only [peq,decide_true,Bool.true_and];exact peqs_self l
 | .dcT ks l=>by simp only [peq,decide_true,Bool.true_and];exact peqs_self l
 | .ins c ns l=>by simp only [peq]
def peqs_self:∀ l:List Dt,peqs l l=true
 | []=>by simp [peqs]
 | d::l=>by simp only [peqs,i0 d,peqs_self l,Bool.and_self]
end
mutual
noncomputable def i6:Dt->Nat
 | .tup l=>deeps l+1
 | .lst l=>deeps l+1
 | _=>0
noncomputable def deeps:List Dt->Nat
 | []=>0
 | d::l=>max (i6 d) (deeps l)
end
def ClsAt (K:PySem.W.Frag) (c:Str) (C:Addr):Prop:=PySem.W.nsIn K mainGlobals c=some (some (.ref C))
mutual
noncomputable def Rep (K:PySem.W.Frag) (H:Hp):Dt->V->Prop
 | .non,v=>v=.non
 | .bl b,v=>v=.bl b
 | .int i,v=>v=.int i
 | .str x,v=>v=.str x
 | .tup l,v=>∃ a vs,v=.ref a/\SqT K H a vs/\Reps K H l vs
 | .lst l,v=>∃ a vs,v=.ref a/\SqL K H a vs/\Reps K H l vs
 | .dct ks l,v=>∃ a kvs,v=.ref a/\Rd H a (.dK kvs)/\kvs.map (·.1)=ks/\Reps K H l (kvs.map (·.2))
 | .dcT ks l,v=>∃ a kvs,v=.ref a/\Rd H a (.dT kvs)/\kvs.map (·.1)=ks/\Reps K H l (kvs.map (·.2))
 | .ins c ns l,v=>∃ a C dx fs,v=.ref a/\ClsAt K c C/\H a=some (.ins C dx fs)/\fs.map (·.1)=ns/\Reps K H l (fs.map (·.2))
noncomputable def Reps (K:PySem.W.Frag) (H:Hp):List Dt->List V->Prop
 | [],vs=>vs=[]
 | d::l,vs=>∃ v ws,vs=v::ws/\Rep K H d v/\Reps K H l ws
end
def Same.tup {K:PySem.W.Frag} {H H':Hp} {a:Addr} {xs:List V} (e:Same H H') (h:SqT K H a xs):SqT K H' a xs:=by
 rcases h with (h | ⟨o,h⟩) | h
 · exact .inl (.inl (e _ _ h))
 · exact .inl (.inr ⟨o,e _ _ h⟩)
 · exact .inr h
def Same.rd {H H':Hp} {a:Addr} {u:HO} (e:Same H H') (h:Rd H a u):Rd H' a u:=by
 rcases h with h | ⟨o,h⟩
 · exact .inl (e _ _ h)
 · exact .inr ⟨o,e _ _ h⟩
mutual
def Rep.same {K:PySem.W.Frag} {H H':Hp} (e:Same H H'):∀ {d:Dt} {v:V},Rep K H d v->Rep K H' d v
 | .non,v,h=>h
 | .bl _,v,h=>h
 | .int _,v,h=>h
 | .str _,v,h=>h
 | .tup l,v,h=>by
  unfold Rep at h ⊢
  obtain ⟨a,vs,h1,h2,h3⟩:=h
  exact ⟨a,vs,h1,e.tup h2,Reps.same e h3⟩
 | .lst l,v,h=>by
  unfold Rep at h ⊢
  obtain ⟨a,vs,h1,h2,h3⟩:=h
  exact ⟨a,vs,h1,e.seq h2,Reps.same e h3⟩
 | .dct ks l,v,h=>by
  unfold Rep at h ⊢
  obtain ⟨a,vs,h1,h2,h3,h4⟩:=h
  exact ⟨a,vs,h1,e.rd h2,h3,Reps.same e h4⟩
 | .dcT ks l,v,h=>by
  unfold Rep at h ⊢
  obtain ⟨a,vs,h1,h2,h3,h4⟩:=h
  exact ⟨a,vs,h1,e.rd h2,h3,Reps.same e h4⟩
 | .ins c ns l,v,h=>by
  unfold Rep at h ⊢
  obtain ⟨a,C,dx,fs,h1,h2,h3,h4,h5⟩:=h
  exact ⟨a,C,dx,fs,h1,h2,e _ _ h3,h4,Reps.same e h5⟩
def Reps.same {K:PySem.W.Frag} {H H':Hp} (e:Same H H'):∀ {l:List Dt} {vs:List V},Reps K H l vs->Reps K H' l vs
 | [],vs,h=>h
 | d::l,vs,h=>by
  unfold Reps at h ⊢
  obtain ⟨v,ws,h1,h2,h3⟩:=h
  exact ⟨v,ws,h1,Rep.same e h2,Reps.same e h3⟩
end
def Reps.length {K:PySem.W.Frag} {H:Hp}:∀ {l:List Dt} {vs:List V},Reps K H l vs->vs.length=l.length
 | [],vs,h=>by unfold Reps at h;rw [h];rfl
 | d::l,vs,h=>by
  unfold Reps at h
  obtain ⟨v,ws,rfl,_,h3⟩:=h
  simp [Reps.length h3]
def Reps.get {K:PySem.W.Frag} {H:Hp}:∀ {l:List Dt} {vs:List V} {i:Nat} {d:Dt},Reps K H l vs->l[i]?=some d->∃ v,vs[i]?=some v/\Rep K H d v
 | [],vs,i,d,h,e=>by simp at e
 | d0::l,vs,0,d,h,e=>by
  unfold Reps at h
  obtain ⟨v,ws,rfl,h2,_⟩:=h
  simp at e
  subst e
  exact ⟨v,rfl,h2⟩
 | d0::l,vs,i+1,d,h,e=>by
  unfold Reps at h
  obtain ⟨v,ws,rfl,_,h3⟩:=h
  obtain ⟨u,e1,e2⟩:=Reps.get (i:=i) h3 (by simpa using e)
  exact ⟨u,by simpa using e1,e2⟩
def Reps.append {K:PySem.W.Frag} {H:Hp}:∀ {l m:List Dt} {vs ws:List V},Reps K H l vs->Reps K H m ws->Reps K H (l++m) (vs++ws)
 | [],m,vs,ws,h,h'=>by unfold Reps at h;rw [h];exact h'
 | d::l,m,vs,ws,h,h'=>by
  unfold Reps at h
  obtain ⟨v,us,rfl,h2,h3⟩:=h
  show Reps K H (d::(l++m)) (v::(us++ws))
  unfold Reps
  exact ⟨v,_,rfl,h2,Reps.append h3 h'⟩
def Reps.one {K:PySem.W.Frag} {H:Hp} {d:Dt} {v:V} (h:Rep K H d v):Reps K H [d] [v]:=by
 unfold Reps
 exact ⟨v,[],rfl,h,by unfold Reps;rfl⟩
def Reps.take {K:PySem.W.Frag} {H:Hp}:∀ {l:List Dt} {vs:List V} (n:Nat),Reps K H l vs->Reps K H (l.take n) (vs.take n)
 | _,_,0,_=>by simp [Reps]
 | [],vs,n+1,h=>by unfold Reps at h;rw [h];simp [Reps]
 | d::l,vs,n+1,h=>by
  unfold Reps at h
  obtain ⟨v,us,rfl,h2,h3⟩:=h
  show Reps K H (d::l.take n) (v::us.take n)
  unfold Reps
  exact ⟨v,_,rfl,h2,Reps.take n h3⟩
def Reps.drop {K:PySem.W.Frag} {H:Hp}:∀ {l:List Dt} {vs:List V} (n:Nat),Reps K H l vs->Reps K H (l.drop n) (vs.drop n)
 | _,_,0,h=>h
 | [],vs,n+1,h=>by unfold Reps at h;rw [h];simp [Reps]
 | d::l,vs,n+1,h=>by
  unfold Reps at h
  obtain ⟨v,us,rfl,h2,h3⟩:=h
  exact Reps.drop n h3
section
variable {X:Cx} {pins:List (Addr×Obj)} {σ:St} {H:Hp} {s:Shared} {K:PySem.W.Frag}
def Inv.notBoth {a:Addr} {xs ys:List V} (I:Inv X pins σ H s) (h:SqL X.K H a xs) (h':SqT X.K H a ys):False:=by
 obtain ⟨its,r,pl,_⟩:=I.list h
 obtain ⟨its',r',pt,_⟩:=I.tuple h'
 obtain ⟨o,n,e,hc,_⟩:=pl
 obtain ⟨o',e',hc',_⟩:=pt
 rw [e] at e'
 cases e'
 rw [hc] at hc'
 injection hc' with z
 exact absurd z (by decide)
def Au {a:Addr} {u w:List (Key×V)} (h:Rd H a (.dK u)) (h':Rd H a (.dK w)):u=w:=by
 rcases h with h | ⟨o,h⟩<;>rcases h' with h' | ⟨o',h'⟩<;>rw [h] at h'<;>cases h'<;>rfl
def Av {a:Addr} {u w:List (List Key×V)} (h:Rd H a (.dT u)) (h':Rd H a (.dT w)):u=w:=by
 rcases h with h | ⟨o,h⟩<;>rcases h' with h' | ⟨o',h'⟩<;>rw [h] at h'<;>cases h'<;>rfl
def j6 {a:Addr} {u:HO} (h:Rd H a u):∃ o,H a=some o:=by
 rcases h with h | ⟨o,h⟩
 · exact ⟨_,h⟩
 · exact ⟨_,h⟩
def Inv.kNone (I:Inv X pins σ H s) {a:Addr} {o:Obj} (h:X.K.lookup a=some o):H a=none:=(I.bs a o (I.ok.mod.kin a o h)).2
def Inv.sqT_dK (I:Inv X pins σ H s) {a:Addr} {xs:List V} {u:List (Key×V)} (h:SqT X.K H a xs) (h':Rd H a (.dK u)):False:=by
 rcases h with h | ⟨o,_,_,h,_⟩
 · rcases h with h | ⟨o,h⟩<;>rcases h' with h' | ⟨o',h'⟩<;>rw [h] at h'<;>cases h'
 · obtain ⟨o',e⟩:=j6 h'
   rw [I.kNone h] at e
   cases e
def Inv.sqT_dT (I:Inv X pins σ H s) {a:Addr} {xs:List V} {u:List (List Key×V)} (h:SqT X.K H a xs) (h':Rd H a (.dT u)):False:=by
 rcases h with h | ⟨o,_,_,h,_⟩
 · rcases h with h | ⟨o,h⟩<;>rcases h' with h' | ⟨o',h'⟩<;>rw [h] at h'<;>cases h'
 · obtain ⟨o',e⟩:=j6 h'
   rw [I.kNone h] at e
   cases e
def Inv.sqL_dK (I:Inv X pins σ H s) {a:Addr} {xs:List V} {u:List (Key×V)} (h:SqL X.K H a xs) (h':Rd H a (.dK u)):False:=by
 rcases h with h | ⟨o,_,_,h,_⟩
 · rcases h with h | ⟨o,h⟩<;>rcases h' with h' | ⟨o',h'⟩<;>rw [h] at h'<;>cases h'
 · obtain ⟨o',e⟩:=j6 h'
   rw [I.kNone h] at e
   cases e
def Inv.sqL_dT (I:Inv X pins σ H s) {a:Addr} {xs:List V} {u:List (List Key×V)} (h:SqL X.K H a xs) (h':Rd H a (.dT u)):False:=by
 rcases h with h | ⟨o,_,_,h,_⟩
 · rcases h with h | ⟨o,h⟩<;>rcases h' with h' | ⟨o',h'⟩<;>rw [h] at h'<;>cases h'
 · obtain ⟨o',e⟩:=j6 h'
   rw [I.kNone h] at e
   cases e
def tN {a:Addr} {u:List (Key×V)} {w:List (List Key×V)} (h:Rd H a (.dK u)) (h':Rd H a (.dT w)):False:=by
 rcases h with h | ⟨o,h⟩<;>rcases h' with h' | ⟨o',h'⟩<;>rw [h] at h'<;>cases h'
def cR:Dt->Nat
 | .non=>0
 | .bl _=>1
 | .int _=>2
 | .str _=>3
 | .tup _=>4
 | .lst _=>5
 | .dct _ _=>6
 | .dcT _ _=>7
 | .ins _ _ _=>8
def qr (I:Inv X pins σ H s) {a C dx:Addr} {fs:List (Str×V)} {vs:List V} (h:SqT X.K H a vs) (h':H a=some (.ins C dx fs)):False:=by
 rcases h with (h | ⟨o,h⟩) | ⟨o,its,n,h,_⟩
 · rw [h'] at h;cases h
 · rw [h'] at h;cases h
 · rw [I.kNone h] at h';cases h'
def qt (I:Inv X pins σ H s) {a C dx:Addr} {fs:List (Str×V)} {vs:List V} (h:SqL X.K H a vs) (h':H a=some (.ins C dx fs)):False:=by
 rcases h with (h | ⟨o,h⟩) | ⟨o,its,n,h,_⟩
 · rw [h'] at h;cases h
 · rw [h'] at h;cases h
 · rw [I.kNone h] at h';cases h'
def qu {a C dx:Addr} {fs:List (Str×V)} {u:List (Key×V)} (h:Rd H a (.dK u)) (h':H a=some (.ins C dx fs)):False:=by
 rcases h with h | ⟨o,h⟩<;>rw [h] at h'<;>cases h'
def qv {a C dx:Addr} {fs:List (Str×V)} {u:List (List Key×V)} (h:Rd H a (.dT u)) (h':H a=some (.ins C dx fs)):False:=by
 rcases h with h | ⟨o,h⟩<;>rw [h] at h'<;>cases h'
def dQ (I:Inv X pins σ H s) {d e:Dt} {v:V} (h:Rep X.K H d v) (h':Rep X.K H e v):cR d=cR e:=by
 cases d<;>cases e<;>first
  | rfl
  | (simp only [Rep] at h h';subst h;cases h';done)
  | (simp only [Rep] at h h';obtain ⟨_,_,e,_⟩:=h';rw [h] at e;cases e;done)
  | (simp only [Rep] at h h';obtain ⟨_,_,e,_⟩:=h;rw [h'] at e;cases e;done)
  | (simp only [Rep] at h h';obtain ⟨_,_,rfl,h2,_⟩:=h;obtain ⟨_,_,e,h2',_⟩:=h';cases e
     first
      | exact (I.sqT_dK h2 h2').elim
      | exact (I.sqT_dK h2' h2).elim
      | exact (I.sqT_dT h2 h2').elim
      | exact (I.sqT_dT h2' h2).elim
      | exact (I.notBoth h2 h2').elim
      | exact (I.notBoth h2' h2).elim
      | exact (I.sqL_dK h2 h2').elim
      | exact (I.sqL_dK h2' h2).elim
      | exact (I.sqL_dT h2 h2').elim
      | exact (I.sqL_dT h2' h2).elim
      | exact (tN h2 h2').elim
      | exact (tN h2' h2).elim)
  | (simp only [Rep] at h h';obtain ⟨_,_,_,_,e,_⟩:=h';rw [h] at e;cases e;done)
  | (simp only [Rep] at h h';obtain ⟨_,_,_,_,e,_⟩:=h;rw [h'] at e;cases e;done)
  | (simp only [Rep] at h h';obtain ⟨_,_,_,_,rfl,_,h2,_⟩:=h;obtain ⟨_,_,e,h2',_⟩:=h';cases e
     first
      | exact (qr I h2' h2).elim
      | exact (qt I h2' h2).elim
      | exact (qu h2' h2).elim
      | exact (qv h2' h2).elim)
  | (simp only [Rep] at h h';obtain ⟨_,_,_,_,rfl,_,h2,_⟩:=h';obtain ⟨_,_,e,h2',_⟩:=h;cases e
     first
      | exact (qr I h2' h2).elim
      | exact (qt I h2' h2).elim
      | exact (qu h2' h2).elim
      | exact (qv h2' h2).elim)
mutual
def mG (I:Inv X pins σ H s):∀ (d e:Dt) (v:V),Rep X.K H d v->Rep X.K H e v->peq d e=true:=fun d=>by
 match d with
 | .tup l =>
  intro e v h h'
  have hk:=dQ I h h'
  cases e<;>first | (simp [cR] at hk;done) | skip
  simp only [Rep] at h h'
  obtain ⟨a,vs,rfl,h2,h3⟩:=h
  obtain ⟨b,ws,e,h2',h3'⟩:=h'
  cases e
  have:=I.tuple_inj h2 h2'
  subst this
  simp only [peq]
  exact reps_inj I l _ _ h3 h3'
 | .lst l =>
  intro e v h h'
  have hk:=dQ I h h'
  cases e<;>first | (simp [cR] at hk;done) | skip
  simp only [Rep] at h h'
  obtain ⟨a,vs,rfl,h2,h3⟩:=h
  obtain ⟨b,ws,e,h2',h3'⟩:=h'
  cases e
  have:=I.list_inj h2 h2'
  subst this
  simp only [peq]
  exact reps_inj I l _ _ h3 h3'
 | .dct ks l =>
  intro e v h h'
  have hk:=dQ I h h'
  cases e<;>first | (simp [cR] at hk;done) | skip
  simp only [Rep] at h h'
  obtain ⟨a,vs,rfl,h2,h3,h4⟩:=h
  obtain ⟨b,ws,e,h2',h3',h4'⟩:=h'
  cases e
  have:=Au h2 h2'
  subst this
  subst h3 h3'
  simp only [peq,decide_true,Bool.true_and]
  exact reps_inj I l _ _ h4 h4'
 | .dcT ks l =>
  intro e v h h'
  have hk:=dQ I h h'
  cases e<;>first | (simp [cR] at hk;done) | skip
  simp only [Rep] at h h'
  obtain ⟨a,vs,rfl,h2,h3,h4⟩:=h
  obtain ⟨b,ws,e,h2',h3',h4'⟩:=h'
  cases e
  have:=Av h2 h2'
  subst this
  subst h3 h3'
  simp only [peq,decide_true,Bool.true_and]
  exact reps_inj I l _ _ h4 h4'
 | .ins c ns l =>
  intro e v h h'
  have hk:=dQ I h h'
  cases e<;>first | (simp [cR] at hk;done) | skip
  simp only [peq]
 | .non =>
  intro e v h h'
  have hk:=dQ I h h'
  cases e<;>first | (simp [cR] at hk;done) | simp only [peq]
 | .bl b =>
  intro e v h h'
  have hk:=dQ I h h'
  cases e<;>first | (simp [cR] at hk;done) | (simp only [Rep] at h h';rw [h] at h';cases h';exact i0 _)
 | .int b =>
  intro e v h h'
  have hk:=dQ I h h'
  cases e<;>first | (simp [cR] at hk;done) | (simp only [Rep] at h h';rw [h] at h';cases h';exact i0 _)
 | .str b =>
  intro e v h h'
  have hk:=dQ I h h'
  cases e<;>first | (simp [cR] at hk;done) | (simp only [Rep] at h h';rw [h] at h';cases h';exact i0 _)
def reps_inj (I:Inv X pins σ H s):∀ (l m:List Dt) (vs:List V),Reps X.K H l vs->Reps X.K H m vs->peqs l m=true:=fun l=>by
 match l with
 | [] =>
  intro m vs h h'
  cases m with
  | nil=>simp only [peqs]
  | cons e m=>unfold Reps at h h';obtain ⟨v,ws,e,_⟩:=h';rw [h] at e;cases e
 | d::l =>
  intro m vs h h'
  cases m with
  | nil=>unfold Reps at h h';obtain ⟨v,ws,e,_⟩:=h;rw [h'] at e;cases e
  | cons e m =>
   unfold Reps at h h'
   obtain ⟨v,ws,rfl,h2,h3⟩:=h
   obtain ⟨v',ws',e',h2',h3'⟩:=h'
   cases e'
   simp only [peqs,mG I d _ _ h2 h2',reps_inj I l _ _ h3 h3',Bool.and_self]
end
end
end L2
namespace L2
open PySem PySem.Spec PyProof.Rows
mutual
noncomputable def fP:Dt->Dt->Bool
 | .tup l,.tup m=>cmpbs l m
 | .lst l,.lst m=>cmpbs l m
 | d,e=>decide (cR d<4)&&decide (cR e<4)
noncomputable def cmpbs:List Dt->List Dt->Bool
 | d::l,e::m=>fP d e&&cmpbs l m
 | _,_=>true
end
def gd:∀ {l m:List Dt} {j:Nat} {d e:Dt},cmpbs l m=true->l[j]?=some d->m[j]?=some e->fP d e=true
 | [],_,j,d,e,_,h,_=>by simp at h
 | _::_,[],j,d,e,_,_,h=>by simp at h
 | d0::l,e0::m,0,d,e,h,h1,h2=>by
  simp only [cmpbs,Bool.and_eq_true] at h
  simp at h1 h2
  subst h1 h2
  exact h.1
 | d0::l,e0::m,j+1,d,e,h,h1,h2=>by
  simp only [cmpbs,Bool.and_eq_true] at h
  exact gd (j:=j) h.2 (by simpa using h1) (by simpa using h2)
def gT:∀ {l:List Dt} {j:Nat} {d:Dt},l[j]?=some d->i6 d<=deeps l
 | [],j,d,h=>by simp at h
 | d0::l,0,d,h=>by
  simp at h
  subst h
  simp only [deeps]
  exact Nat.le_max_left ..
 | d0::l,j+1,d,h=>by
  simp only [deeps]
  exact Nat.le_trans (gT (j:=j) (by simpa using h)) (Nat.le_max_right ..)
def dm (l m:List Dt) (j:Nat):Bool:=peq (l.getD j .non) (m.getD j .non)
def fC:∀ (l m:List Dt),peqs l m=((List.range (min l.length m.length)).all (dm l m)&&l.length==m.length)
 | [],[]=>by simp [peqs]
 | [],_::_=>by simp [peqs]
 | _::_,[]=>by simp [peqs]
 | d::l,e::m=>by
  have ih:=fC l m
  simp only [peqs,ih,List.length_cons]
  rw [show min (l.length+1) (m.length+1)=min l.length m.length+1 by omega,List.range_succ_eq_map,List.all_cons,List.all_map]
  have e1:dm (d::l) (e::m) 0=peq d e:=rfl
  have e2:(dm (d::l) (e::m) ∘ Nat.succ)=dm l m:=by
   funext j
   rfl
  have e3:(l.length+1==m.length+1)=(l.length==m.length):=by
   rw [Bool.eq_iff_iff]
   simp
  rw [e1,e2,e3,Bool.and_assoc]
section
variable {X:Cx} {pins:List (Addr×Obj)} {σ:St} {H:Hp} {s:Shared}
def dJ {l:List Dt} {vs:List V} {its:List Value} (h:Reps X.K H l vs) (r:Vals vs its) {j:Nat} (hj:j<its.length):∃ d v,l[j]?=some d/\Rep X.K H d v/\RelV v its[j]:=by
 have hl:j<l.length:=by rw [<- h.length,r.length];exact hj
 obtain ⟨v,e1,e2⟩:=h.get (i:=j) (d:=l[j]) (by simp [hl])
 obtain ⟨u,e3,e4⟩:=r.get e1
 have:its[j]=u:=by
  have:=gQ hj
  rw [this] at e3
  exact Option.some.inj e3
 exact ⟨l[j],v,by simp [hl],e2,by rw [this];exact e4⟩
def xh (I:Inv X pins σ H s):∀ (n:Nat) {A:Around} {d e:Dt} {v w:V} {u u':Value},i6 d<=n->A.units+n<cLine->fP d e=true->Rep X.K H d v->Rep X.K H e w->RelV v u->RelV w u'->SeqAt.EqAt A s u u' (peq d e):=by
 intro n
 induction n with
 | zero =>
  intro A d e v w u u' hd hu hc h h' r r'
  cases d<;>cases e<;>first
   | (simp only [Rep] at h h';subst h h';exact kj r r' rfl rfl)
   | (simp only [i6] at hd;omega)
   | (simp [fP,cR] at hc)
 | succ n ih =>
  intro A d e v w u u' hd hu hc h h' r r'
  cases d with
  | tup l =>
   cases e with
   | tup m =>
    have h0:=h
    have h0':=h'
    simp only [Rep] at h h'
    obtain ⟨a,vs,rfl,h2,h3⟩:=h
    obtain ⟨b,ws,rfl,h2',h3'⟩:=h'
    cases r
    cases r'
    by_cases hab:a=b
    · subst hab
      have:=mG I _ _ _ h0 h0'
      rw [this]
      exact SeqAt.EqAt.same _
    obtain ⟨its,rv,pt,_⟩:=I.tuple h2
    obtain ⟨its',rv',pt',_⟩:=I.tuple h2'
    have n1:its.length=l.length:=by rw [<- h3.length,rv.length]
    have n2:its'.length=m.length:=by rw [<- h3'.length,rv'.length]
    simp only [peq]
    rw [fC,<- n1,<- n2]
    simp only [i6] at hd
    simp only [fP] at hc
    have key:=SeqAt.RcAt.tuples (A:=A) (e:=dm l m) pt pt' (by omega) (fun j h1 h2=>by
     have h1':j<its.length:=by simpa using h1
     have h2':j<its'.length:=by simpa using h2
     obtain ⟨d,v,g1,g2,g3⟩:=dJ h3 rv h1'
     obtain ⟨e,w,g1',g2',g3'⟩:=dJ h3' rv' h2'
     have:dm l m j=peq d e:=by unfold dm;rw [List.getD_eq_getElem?_getD,List.getD_eq_getElem?_getD,g1,g1'];rfl
     rw [this]
     have:=ih (A:=A.in1) (Nat.le_trans (gT g1) (by omega)) (show A.units+1+n<cLine by omega) (gd hc g1 g1') g2 g2' g3 g3'
     simpa using this)
    have key':SeqAt.RcAt A s (.ref a) (.ref b) ((List.range (min its.length its'.length)).all (dm l m)&&its.length==its'.length):=by simpa using key
    exact SeqAt.EqAt.of_refs hab key'
   | _=>exact absurd hc (by simp [fP,cR])
  | lst l =>
   cases e with
   | lst m =>
    have h0:=h
    have h0':=h'
    simp only [Rep] at h h'
    obtain ⟨a,vs,rfl,h2,h3⟩:=h
    obtain ⟨b,ws,rfl,h2',h3'⟩:=h'
    cases r
    cases r'
    by_cases hab:a=b
    · subst hab
      have:=mG I _ _ _ h0 h0'
      rw [this]
      exact SeqAt.EqAt.same _
    obtain ⟨its,rv,pt,_⟩:=I.list h2
    obtain ⟨its',rv',pt',_⟩:=I.list h2'
    have n1:its.length=l.length:=by rw [<- h3.length,rv.length]
    have n2:its'.length=m.length:=by rw [<- h3'.length,rv'.length]
    simp only [peq]
    rw [fC,<- n1,<- n2]
    simp only [i6] at hd
    simp only [fP] at hc
    by_cases hlen:its.length=its'.length
    · have key:=SeqAt.RcAt.lists (A:=A) (e:=dm l m) pt.isList pt'.isList (by simpa using hlen) (by omega) (fun j h1 h2=>by
       have h1':j<its.length:=by simpa using h1
       have h2':j<its'.length:=by simpa using h2
       obtain ⟨d,v,g1,g2,g3⟩:=dJ h3 rv h1'
       obtain ⟨e,w,g1',g2',g3'⟩:=dJ h3' rv' h2'
       have:dm l m j=peq d e:=by unfold dm;rw [List.getD_eq_getElem?_getD,List.getD_eq_getElem?_getD,g1,g1'];rfl
       rw [this]
       have:=ih (A:=A.in1) (Nat.le_trans (gT g1) (by omega)) (show A.units+1+n<cLine by omega) (gd hc g1 g1') g2 g2' g3 g3'
       simpa using this)
      have e1:(its.length==its'.length)=true:=by simpa using hlen
      rw [e1,Bool.and_true,show min its.length its'.length=its.length by omega]
      exact SeqAt.EqAt.of_refs hab (by simpa using key)
    · have e1:(its.length==its'.length)=false:=by simpa using hlen
      rw [e1,Bool.and_false]
      exact SeqAt.EqAt.of_refs hab (SeqAt.RcAt.lists_lengths pt.isList pt'.isList (by simpa using hlen) (by omega))
   | _=>exact absurd hc (by simp [fP,cR])
  | non=>cases e<;>first | (simp only [Rep] at h h';subst h h';exact kj r r' rfl rfl) | (simp [fP,cR] at hc)
  | bl b=>cases e<;>first | (simp only [Rep] at h h';subst h h';exact kj r r' rfl rfl) | (simp [fP,cR] at hc)
  | int b=>cases e<;>first | (simp only [Rep] at h h';subst h h';exact kj r r' rfl rfl) | (simp [fP,cR] at hc)
  | str b=>cases e<;>first | (simp only [Rep] at h h';subst h h';exact kj r r' rfl rfl) | (simp [fP,cR] at hc)
  | dct ks l=>cases e<;>(simp [fP,cR] at hc)
  | dcT ks l=>cases e<;>(simp [fP,cR] at hc)
  | ins c ns l=>cases e<;>(simp [fP,cR] at hc)
def xi (I:Inv X pins σ H s) {A:Around} {d e:Dt} {v w:V} {u u':Value} (hq:(∃ l m,d=.tup l/\e=.tup m)∨∃ l m,d=.lst l/\e=.lst m) (hu:A.units+i6 d<cLine) (hc:fP d e=true) (h:Rep X.K H d v) (h':Rep X.K H e w) (r:RelV v u) (r':RelV w u') :
  SeqAt.RcAt A s u u' (peq d e)/\SeqAt.RcNeAt A s u u' (!peq d e):=by
 rcases hq with ⟨l,m,rfl,rfl⟩ | ⟨l,m,rfl,rfl⟩
 · simp only [Rep] at h h'
   obtain ⟨a,vs,rfl,h2,h3⟩:=h
   obtain ⟨b,ws,rfl,h2',h3'⟩:=h'
   cases r
   cases r'
   obtain ⟨its,rv,pt,_⟩:=I.tuple h2
   obtain ⟨its',rv',pt',_⟩:=I.tuple h2'
   have n1:its.length=l.length:=by rw [<- h3.length,rv.length]
   have n2:its'.length=m.length:=by rw [<- h3'.length,rv'.length]
   simp only [peq]
   rw [fC,<- n1,<- n2]
   simp only [i6] at hu
   simp only [fP] at hc
   have he:∀ j (h1:j<its.toArray.size) (h2:j<its'.toArray.size),SeqAt.EqAt A.in1 s its.toArray[j] its'.toArray[j] (dm l m j):=fun j h1 h2=>by
    have h1':j<its.length:=by simpa using h1
    have h2':j<its'.length:=by simpa using h2
    obtain ⟨d,v,g1,g2,g3⟩:=dJ h3 rv h1'
    obtain ⟨e,w,g1',g2',g3'⟩:=dJ h3' rv' h2'
    have:dm l m j=peq d e:=by unfold dm;rw [List.getD_eq_getElem?_getD,List.getD_eq_getElem?_getD,g1,g1'];rfl
    rw [this]
    have:=xh I (deeps l) (A:=A.in1) (gT g1) (show A.units+1+deeps l<cLine by omega) (gd hc g1 g1') g2 g2' g3 g3'
    simpa using this
   exact ⟨by simpa using SeqAt.RcAt.tuples (A:=A) (e:=dm l m) pt pt' (by omega) he,by simpa using SeqAt.RcNeAt.tuples (A:=A) (e:=dm l m) pt pt' (by omega) he⟩
 · simp only [Rep] at h h'
   obtain ⟨a,vs,rfl,h2,h3⟩:=h
   obtain ⟨b,ws,rfl,h2',h3'⟩:=h'
   cases r
   cases r'
   obtain ⟨its,rv,pt,_⟩:=I.list h2
   obtain ⟨its',rv',pt',_⟩:=I.list h2'
   have n1:its.length=l.length:=by rw [<- h3.length,rv.length]
   have n2:its'.length=m.length:=by rw [<- h3'.length,rv'.length]
   simp only [peq]
   rw [fC,<- n1,<- n2]
   simp only [i6] at hu
   simp only [fP] at hc
   by_cases hlen:its.length=its'.length
   · have he:∀ j (h1:j<its.toArray.size) (h2:j<its'.toArray.size),SeqAt.EqAt A.in1 s its.toArray[j] its'.toArray[j] (dm l m j):=fun j h1 h2=>by
      have h1':j<its.length:=by simpa using h1
      have h2':j<its'.length:=by simpa using h2
      obtain ⟨d,v,g1,g2,g3⟩:=dJ h3 rv h1'
      obtain ⟨e,w,g1',g2',g3'⟩:=dJ h3' rv' h2'
      have:dm l m j=peq d e:=by unfold dm;rw [List.getD_eq_getElem?_getD,List.getD_eq_getElem?_getD,g1,g1'];rfl
      rw [this]
      have:=xh I (deeps l) (A:=A.in1) (gT g1) (show A.units+1+deeps l<cLine by omega) (gd hc g1 g1') g2 g2' g3 g3'
      simpa using this
     have e1:(its.length==its'.length)=true:=by simpa using hlen
     rw [e1,Bool.and_true,show min its.length its'.length=its.length by omega]
     exact ⟨by simpa using SeqAt.RcAt.lists (A:=A) (e:=dm l m) pt.isList pt'.isList (by simpa using hlen) (by omega) he,by simpa using SeqAt.RcNeAt.lists (A:=A) (e:=dm l m) pt.isList pt'.isList (by simpa using hlen) (by omega) he⟩
   · have e1:(its.length==its'.length)=false:=by simpa using hlen
     rw [e1,Bool.and_false]
     exact ⟨SeqAt.RcAt.lists_lengths pt.isList pt'.isList (by simpa using hlen) (by omega),SeqAt.RcNeAt.lists_lengths pt.isList pt'.isList (by simpa using hlen) (by omega)⟩
noncomputable def vz (K:PySem.W.Frag) (neg:Bool):R2:=fun x y H Q=>∃ d e,((∃ l m,d=.tup l/\e=.tup m)∨∃ l m,d=.lst l/\e=.lst m)/\Rep K H d x/\Rep K H e y/\fP d e=true/\i6 d<=60/\Q (.bl (if neg then !peq d e else peq d e)) H
def yy {K:PySem.W.Frag} {k:Nat} (hr:Room k X.A) (hK:X.K=K):OpR X (compareOp .Eq) (vz K false):=by
 subst hK
 intro pins s σ H x y v u Q I rx ry h
 obtain ⟨d,e,hq,hd,he,hc,hdp,q⟩:=h
 have hu:=hr.units
 exact (xi I hq (by omega) hc hd he rx ry).1 _ _ _ _ ⟨.bl (peq d e),H,I,rfl,q⟩
def yz {K:PySem.W.Frag} {k:Nat} (hr:Room k X.A) (hK:X.K=K):OpR X (compareOp .NotEq) (vz K true):=by
 subst hK
 intro pins s σ H x y v u Q I rx ry h
 obtain ⟨d,e,hq,hd,he,hc,hdp,q⟩:=h
 have hu:=hr.units
 exact (xi I hq (by omega) hc hd he rx ry).2 _ _ _ _ ⟨.bl (!peq d e),H,I,rfl,q⟩
end
end L2
namespace L2
open PySem PySem.Spec PyProof.Rows
structure Step (F H F' H':Hp):Prop where
 hh:Same H H'
 ff:Same F F'
 fh:Same F' H'
 nw:∀ b o,F' b=some o->F b=some o∨H b=none
section
variable {F H F' H' F1 H1:Hp} {p:Addr} {o:HO}
def Step.refl (h:Same F H):Step F H F H:=⟨Same.refl _,Same.refl _,h,fun _ _ e=>.inl e⟩
def Step.trans (a:Step F H F1 H1) (b:Step F1 H1 F' H'):Step F H F' H':=
 ⟨a.hh.trans b.hh,a.ff.trans b.ff,b.fh,fun c o e=>(b.nw c o e).elim (a.nw c o) fun z=>.inr (a.hh.free z)⟩
def Same.upd (hp:H p=none):Same H (upd H p o):=fun b u e=>by
 rw [bc (cg e hp)]
 exact e
def Step.new (h:Same F H) (hp:H p=none):Step F H (upd F p o) (upd H p o) where
 hh:=Same.upd hp
 ff:=Same.upd (h.free hp)
 fh:=fun b u e=>by
  by_cases hb:b=p
  · subst hb
    rw [aY] at e ⊢
    exact e
  · rw [bc hb] at e ⊢
    exact h _ _ e
 nw:=fun b u e=>by
  by_cases hb:b=p
  · subst hb
    exact .inr hp
  · rw [bc hb] at e
    exact .inl e
def Step.made (h:Same F H) (hp:H p=none):Step F H F (upd H p o) where
 hh:=Same.upd hp
 ff:=Same.refl _
 fh:=h.trans (Same.upd hp)
 nw:=fun b u e=>.inl e
end
inductive Fl where
 | leaf (d:Dt) | lst (l:List Dt) | dct (l:List (Key×Dt)) | dcT (l:List (List Key×Dt))
def Fl.d:Fl->Dt
 | .leaf d=>d
 | .lst l=>.lst l
 | .dct l=>.dct (l.map (·.1)) (l.map (·.2))
 | .dcT l=>.dcT (l.map (·.1)) (l.map (·.2))
inductive T where
 | leaf (d:Dt) | lst (l:List Dt) | dct (l:List (Key×Dt)) | dcT (l:List (List Key×Dt)) | obj (c:Str) (ns:List Str) (l:List Fl) | pin (a:Addr) (t:T)
def T.d:T->Dt
 | .leaf d=>d
 | .lst l=>.lst l
 | .dct l=>.dct (l.map (·.1)) (l.map (·.2))
 | .dcT l=>.dcT (l.map (·.1)) (l.map (·.2))
 | .obj c ns l=>.ins c ns (l.map Fl.d)
 | .pin _ t=>t.d
noncomputable def OwnF (K:PySem.W.Frag) (F H:Hp):Fl->V->(Addr->Prop)->Prop
 | .leaf d,v,_=>Rep K F d v
 | .lst l,v,S=>∃ a vs,v=.ref a/\S a/\H a=some (.lst vs)/\Reps K F l vs
 | .dct l,v,S=>∃ a kvs,v=.ref a/\S a/\H a=some (.dK kvs)/\kvs.map (·.1)=l.map (·.1)/\Reps K F (l.map (·.2)) (kvs.map (·.2))
 | .dcT l,v,S=>∃ a kvs,v=.ref a/\S a/\H a=some (.dT kvs)/\kvs.map (·.1)=l.map (·.1)/\Reps K F (l.map (·.2)) (kvs.map (·.2))
structure OwnFs (K:PySem.W.Frag) (F H:Hp) (l:List Fl) (vs:List V) (a:Addr) (S:Addr->Prop) (Z:Nat->Addr->Prop):Prop where
 len:l.length=vs.length
 own:∀ i f v,l[i]?=some f->vs[i]?=some v->OwnF K F H f v (Z i)
 sub:∀ i b,Z i b->S b/\b≠a
 dis:∀ i j b,Z i b->Z j b->i=j
noncomputable def Own (K:PySem.W.Frag) (F H:Hp):T->V->(Addr->Prop)->Prop
 | .leaf d,v,_=>Rep K F d v
 | .lst l,v,S=>∃ a vs,v=.ref a/\S a/\H a=some (.lst vs)/\Reps K F l vs
 | .dct l,v,S=>∃ a kvs,v=.ref a/\S a/\H a=some (.dK kvs)/\kvs.map (·.1)=l.map (·.1)/\Reps K F (l.map (·.2)) (kvs.map (·.2))
 | .dcT l,v,S=>∃ a kvs,v=.ref a/\S a/\H a=some (.dT kvs)/\kvs.map (·.1)=l.map (·.1)/\Reps K F (l.map (·.2)) (kvs.map (·.2))
 | .obj c ns l,v,S=>∃ a C dx fs Z,v=.ref a/\S a/\ClsAt K c C/\H a=some (.ins C dx fs)/\fs.map (·.1)=ns/\OwnFs K F H l (fs.map (·.2)) a S Z
 | .pin a t,v,S=>v=.ref a/\(∀ d,t≠.leaf d)/\Own K F H t v S
noncomputable def RepB (K:PySem.W.Frag) (F H:Hp):Dt->V->Prop
 | .lst l,v=>∃ a vs,v=.ref a/\SqL K H a vs/\Reps K F l vs
 | .dct ks l,v=>∃ a kvs,v=.ref a/\Rd H a (.dK kvs)/\kvs.map (·.1)=ks/\Reps K F l (kvs.map (·.2))
 | .dcT ks l,v=>∃ a kvs,v=.ref a/\Rd H a (.dT kvs)/\kvs.map (·.1)=ks/\Reps K F l (kvs.map (·.2))
 | .ins c ns l,v=>Rep K H (.ins c ns l) v
 | .non,v=>v=.non
 | .bl b,v=>v=.bl b
 | .int i,v=>v=.int i
 | .str x,v=>v=.str x
 | .tup l,v=>∃ a vs,v=.ref a/\SqT K F a vs/\Reps K F l vs
def OwnF.step {K:PySem.W.Frag} {F H F' H':Hp} {t:Fl} {v:V} {S:Addr->Prop} (ff:Same F F') (hh:∀ b o,S b->H b=some o->H' b=some o) (h:OwnF K F H t v S):OwnF K F' H' t v S:=by
 cases t with
 | leaf d=>exact Rep.same ff h
 | lst l =>
  obtain ⟨a,vs,e,hs,h1,h2⟩:=h
  exact ⟨a,vs,e,hs,hh _ _ hs h1,h2.same ff⟩
 | dct l =>
  obtain ⟨a,vs,e,hs,h1,h2,h3⟩:=h
  exact ⟨a,vs,e,hs,hh _ _ hs h1,h2,h3.same ff⟩
 | dcT l =>
  obtain ⟨a,vs,e,hs,h1,h2,h3⟩:=h
  exact ⟨a,vs,e,hs,hh _ _ hs h1,h2,h3.same ff⟩
def OwnF.rep {K:PySem.W.Frag} {F H G:Hp} {t:Fl} {v:V} {S:Addr->Prop} (ff:Same F G) (hg:∀ b o,S b->H b=some o->G b=some o) (h:OwnF K F H t v S):Rep K G t.d v:=by
 cases t with
 | leaf d=>exact Rep.same ff h
 | lst l =>
  obtain ⟨a,vs,e,q,h1,h2⟩:=h
  simp only [Fl.d,Rep]
  exact ⟨a,vs,e,SqL.of (hg _ _ q h1),h2.same ff⟩
 | dct l =>
  obtain ⟨a,vs,e,q,h1,h2,h3⟩:=h
  simp only [Fl.d,Rep]
  exact ⟨a,vs,e,.inl (hg _ _ q h1),h2,h3.same ff⟩
 | dcT l =>
  obtain ⟨a,vs,e,q,h1,h2,h3⟩:=h
  simp only [Fl.d,Rep]
  exact ⟨a,vs,e,.inl (hg _ _ q h1),h2,h3.same ff⟩
def nR {K:PySem.W.Frag} {G:Hp}:∀ {l:List Fl} {vs:List V},l.length=vs.length->(∀ (i:Nat) (f:Fl) (v:V),l[i]?=some f->vs[i]?=some v->Rep K G f.d v)->Reps K G (l.map Fl.d) vs
 | [],[],_,_=>by simp [Reps]
 | [],_::_,h,_=>by cases h
 | _::_,[],h,_=>by cases h
 | f::l,v::vs,h,k=>by
  simp only [List.map_cons,Reps]
  exact ⟨v,vs,rfl,k 0 f v rfl rfl,nR (by simpa using h) fun i f v h1 h2=>k (i+1) f v (by simpa using h1) (by simpa using h2)⟩
def qw {K:PySem.W.Frag} {F H G:Hp} {c:Str} {ns:List Str} {l:List Fl} {v:V} {S:Addr->Prop} (ff:Same F G) (hg:∀ b o,S b->H b=some o->G b=some o) (h:Own K F H (.obj c ns l) v S):Rep K G (.ins c ns (l.map Fl.d)) v:=by
 obtain ⟨a,C,dx,fs,Z,e,hs,hc,h1,h2,h3⟩:=h
 simp only [Rep]
 exact ⟨a,C,dx,fs,e,hc,hg _ _ hs h1,h2,nR h3.len fun i f v e1 e2=>(h3.own i f v e1 e2).rep ff fun b o z=>hg b o (h3.sub i b z).1⟩
section
variable {K:PySem.W.Frag} {F H F' H':Hp} {t:T} {v:V} {d:Dt} {S:Addr->Prop}
def Own.step (ff:Same F F') (hh:∀ b o,S b->H b=some o->H' b=some o) (h:Own K F H t v S):Own K F' H' t v S:=by
 induction t with
 | leaf d=>exact Rep.same ff h
 | lst l =>
  obtain ⟨a,vs,e,hs,h1,h2⟩:=h
  exact ⟨a,vs,e,hs,hh _ _ hs h1,h2.same ff⟩
 | dct l =>
  obtain ⟨a,vs,e,hs,h1,h2,h3⟩:=h
  exact ⟨a,vs,e,hs,hh _ _ hs h1,h2,h3.same ff⟩
 | dcT l =>
  obtain ⟨a,vs,e,hs,h1,h2,h3⟩:=h
  exact ⟨a,vs,e,hs,hh _ _ hs h1,h2,h3.same ff⟩
 | obj c ns l =>
  obtain ⟨a,C,dx,fs,Z,e,hs,hc,h1,h2,h3⟩:=h
  exact ⟨a,C,dx,fs,Z,e,hs,hc,hh _ _ hs h1,h2,h3.len,fun i f v e1 e2=>(h3.own i f v e1 e2).step ff fun b o z=>hh b o (h3.sub i b z).1,h3.sub,h3.dis⟩
 | pin a t ih=>exact ⟨h.1,h.2.1,ih h.2.2⟩
def Own.grow {S':Addr->Prop} (hs:∀ b,S b->S' b) (h:Own K F H t v S):Own K F H t v S':=by
 induction t with
 | leaf d=>exact h
 | lst l =>
  obtain ⟨a,vs,e,q,h1⟩:=h
  exact ⟨a,vs,e,hs _ q,h1⟩
 | dct l =>
  obtain ⟨a,vs,e,q,h1⟩:=h
  exact ⟨a,vs,e,hs _ q,h1⟩
 | dcT l =>
  obtain ⟨a,vs,e,q,h1⟩:=h
  exact ⟨a,vs,e,hs _ q,h1⟩
 | obj c ns l =>
  obtain ⟨a,C,dx,fs,Z,e,q,hc,h1,h2,h3⟩:=h
  exact ⟨a,C,dx,fs,Z,e,hs _ q,hc,h1,h2,h3.len,h3.own,fun i b z=>⟨hs _ (h3.sub i b z).1,(h3.sub i b z).2⟩,h3.dis⟩
 | pin a t ih=>exact ⟨h.1,h.2.1,ih h.2.2⟩
def RepB.of (fh:Same F H) (h:Rep K F d v):RepB K F H d v:=by
 cases d with
 | lst l =>
  simp only [Rep] at h
  obtain ⟨a,vs,e,h1,h2⟩:=h
  exact ⟨a,vs,e,fh.seq h1,h2⟩
 | dct ks l =>
  simp only [Rep] at h
  obtain ⟨a,vs,e,h1,h2⟩:=h
  exact ⟨a,vs,e,fh.rd h1,h2⟩
 | dcT ks l =>
  simp only [Rep] at h
  obtain ⟨a,vs,e,h1,h2⟩:=h
  exact ⟨a,vs,e,fh.rd h1,h2⟩
 | tup l =>
  simp only [Rep] at h
  exact h
 | ins c ns l=>exact Rep.same fh h
 | _ =>
  simp only [Rep] at h
  exact h
def RepB.rep (fh:Same F H) (h:RepB K F H d v):Rep K H d v:=by
 cases d with
 | lst l =>
  obtain ⟨a,vs,e,h1,h2⟩:=h
  simp only [Rep]
  exact ⟨a,vs,e,h1,h2.same fh⟩
 | dct ks l =>
  obtain ⟨a,vs,e,h1,h2,h3⟩:=h
  simp only [Rep]
  exact ⟨a,vs,e,h1,h2,h3.same fh⟩
 | dcT ks l =>
  obtain ⟨a,vs,e,h1,h2,h3⟩:=h
  simp only [Rep]
  exact ⟨a,vs,e,h1,h2,h3.same fh⟩
 | tup l =>
  obtain ⟨a,vs,e,h1,h2⟩:=h
  simp only [Rep]
  exact ⟨a,vs,e,fh.tup h1,h2.same fh⟩
 | ins c ns l=>exact h
 | _ =>
  simp only [Rep]
  exact h
def RepB.step (ff:Same F F') (hh:Same H H') (h:RepB K F H d v):RepB K F' H' d v:=by
 cases d with
 | lst l =>
  obtain ⟨a,vs,e,h1,h2⟩:=h
  exact ⟨a,vs,e,hh.seq h1,h2.same ff⟩
 | dct ks l =>
  obtain ⟨a,vs,e,h1,h2,h3⟩:=h
  exact ⟨a,vs,e,hh.rd h1,h2,h3.same ff⟩
 | dcT ks l =>
  obtain ⟨a,vs,e,h1,h2,h3⟩:=h
  exact ⟨a,vs,e,hh.rd h1,h2,h3.same ff⟩
 | tup l =>
  obtain ⟨a,vs,e,h1,h2⟩:=h
  exact ⟨a,vs,e,ff.tup h1,h2.same ff⟩
 | ins c ns l=>exact Rep.same hh h
 | _=>exact h
def Own.repB (fh:Same F H) (h:Own K F H t v S):RepB K F H t.d v:=by
 induction t with
 | leaf d=>exact RepB.of fh h
 | lst l =>
  obtain ⟨a,vs,e,_,h1,h2⟩:=h
  exact ⟨a,vs,e,SqL.of h1,h2⟩
 | dct l =>
  obtain ⟨a,vs,e,_,h1,h2⟩:=h
  exact ⟨a,vs,e,.inl h1,h2⟩
 | dcT l =>
  obtain ⟨a,vs,e,_,h1,h2⟩:=h
  exact ⟨a,vs,e,.inl h1,h2⟩
 | obj c ns l=>exact qw fh (fun _ _ _ e=>e) h
 | pin a t ih=>exact ih h.2.2
open Classical in
def rZ (F H:Hp) (S:Addr->Prop):Hp:=fun b=>if S b then H b else F b
def i7 {b:Addr} (h:S b):rZ F H S b=H b:=if_pos h
def ky {b:Addr} (h:¬ S b):rZ F H S b=F b:=if_neg h
def qx (hs:∀ b,S b->F b=none):Same F (rZ F H S):=fun b o e=>by
 have:¬ S b:=fun z=>by rw [hs b z] at e;cases e
 rw [ky this]
 exact e
def vA (fh:Same F H):Same (rZ F H S) H:=fun b o e=>by
 by_cases h:S b
 · rw [i7 h] at e
   exact e
 · rw [ky h] at e
   exact fh _ _ e
def Own.freeze (hs:∀ b,S b->F b=none) (h:Own K F H t v S):Rep K (rZ F H S) t.d v:=by
 have ff:=qx (H:=H) hs
 induction t with
 | leaf d=>exact Rep.same ff h
 | lst l =>
  obtain ⟨a,vs,e,q,h1,h2⟩:=h
  simp only [T.d,Rep]
  exact ⟨a,vs,e,SqL.of (by rw [i7 q];exact h1),h2.same ff⟩
 | dct l =>
  obtain ⟨a,vs,e,q,h1,h2,h3⟩:=h
  simp only [T.d,Rep]
  exact ⟨a,vs,e,.inl (by rw [i7 q];exact h1),h2,h3.same ff⟩
 | dcT l =>
  obtain ⟨a,vs,e,q,h1,h2,h3⟩:=h
  simp only [T.d,Rep]
  exact ⟨a,vs,e,.inl (by rw [i7 q];exact h1),h2,h3.same ff⟩
 | obj c ns l=>exact qw ff (fun b o z e=>by rw [i7 z];exact e) h
 | pin a t ih=>exact ih h.2.2
end
abbrev Ix:=Nat
abbrev De:=List (Option T)
structure Sep (K:PySem.W.Frag) (F H:Hp) (B:Addr->Prop) (L:Ix->Option (T×V)) (S:Ix->Addr->Prop):Prop where
 own:∀ i t v,L i=some (t,v)->Own K F H t v (S i)
 out:∀ i b,S i b->F b=none/\(∃ o,H b=some o)/\B b
 dis:∀ i j b,S i b->S j b->i=j
def lN (δ:De) (σ:St) (i:Nat):Option (T×V):=match δ[i]?,σ[i]? with
 | some (some t),some (some v)=>some (t,v)
 | _,_=>none
structure Fm where
 K:PySem.W.Frag
 F0:Hp
 H0:Hp
 S0:Addr->Prop
def Fm.B (Φ:Fm) (b:Addr):Prop:=Φ.H0 b=none∨Φ.S0 b
structure En (Φ:Fm) (δ:De) (σ:St) (F H:Hp):Prop where
 fh:Same F H
 prot:∀ b o,Φ.H0 b=some o->¬ Φ.S0 b->H b=some o
 old:Same Φ.F0 F
 nw:∀ b o,F b=some o->Φ.F0 b=some o∨Φ.B b
 len:δ.length=σ.length
 has:∀ (i:Nat) (t:T),δ[i]?=some (some t)->∃ v,σ[i]?=some (some v)
 sep:∃ S,Sep Φ.K F H Φ.B (lN δ σ) S
section
variable {Φ:Fm} {δ:De} {σ:St} {F H F' H':Hp}
def fE {i:Nat} {t:T} {v:V} (h1:δ[i]?=some (some t)) (h2:σ[i]?=some (some v)):lN δ σ i=some (t,v):=by
 unfold lN
 rw [h1,h2]
def gU {i:Nat} {t:T} {v:V} (h:lN δ σ i=some (t,v)):δ[i]?=some (some t)/\σ[i]?=some (some v):=by
 unfold lN at h
 split at h
 · rename_i e1 e2
   cases h
   exact ⟨e1,e2⟩
 · cases h
def En.fresh (e:En Φ δ σ F H) {p:Addr} (hp:H p=none):Φ.B p:=by
 by_cases h:Φ.S0 p
 · exact .inr h
 · left
   cases q:Φ.H0 p with
   | none=>rfl
   | some o=>rw [e.prot p o q h] at hp;cases hp
def Sep.step {K:PySem.W.Frag} {B:Addr->Prop} {L:Ix->Option (T×V)} {S:Ix->Addr->Prop} (s:Sep K F H B L S) (st:Step F H F' H'):Sep K F' H' B L S where
 own:=fun i t v h=>(s.own i t v h).step st.ff fun b o _ e=>st.hh b o e
 out:=fun i b h=>by
  obtain ⟨h1,⟨o,h2⟩,h3⟩:=s.out i b h
  refine ⟨?_,⟨o,st.hh _ _ h2⟩,h3⟩
  cases q:F' b with
  | none=>rfl
  | some o' =>
   rcases st.nw b o' q with z | z
   · rw [h1] at z;cases z
   · rw [h2] at z;cases z
 dis:=s.dis
def En.step (e:En Φ δ σ F H) (st:Step F H F' H'):En Φ δ σ F' H' where
 fh:=st.fh
 prot:=fun b o h1 h2=>st.hh _ _ (e.prot b o h1 h2)
 old:=e.old.trans st.ff
 nw:=fun b o h=>by
  rcases st.nw b o h with z | z
  · exact e.nw b o z
  · exact .inr (e.fresh z)
 len:=e.len
 has:=e.has
 sep:=let ⟨S,s⟩:=e.sep;⟨S,s.step st⟩
def En.slot (e:En Φ δ σ F H) {i:Nat} {t:T} (h:δ[i]?=some (some t)):∃ v,σ[i]?=some (some v)/\RepB Φ.K F H t.d v:=by
 obtain ⟨v,hv⟩:=e.has i t h
 obtain ⟨S,s⟩:=e.sep
 exact ⟨v,hv,(s.own i t v (fE h hv)).repB e.fh⟩
def En.leaf (e:En Φ δ σ F H) {i:Nat} {d:Dt} (h:δ[i]?=some (some (.leaf d))):∃ v,σ[i]?=some (some v)/\Rep Φ.K F d v:=by
 obtain ⟨v,hv⟩:=e.has i _ h
 obtain ⟨S,s⟩:=e.sep
 exact ⟨v,hv,s.own i _ v (fE h hv)⟩
def gr {α:Type} {l:List (Option α)} {i j:Nat} {x y:Option α} (h:(l.set i x)[j]?=some y):(i=j/\y=x)∨(i≠j/\l[j]?=some y):=by
 by_cases hij:i=j
 · subst hij
   left
   rw [List.getElem?_set] at h
   simp only [if_true] at h
   split at h
   · cases h;exact ⟨rfl,rfl⟩
   · cases h
 · right
   rw [gN hij] at h
   exact ⟨hij,h⟩
def En.put (e:En Φ δ σ F H) {t:T} {v:V} {S':Addr->Prop} (st:Step F H F' H') (ho:Own Φ.K F' H' t v S') (hs:∀ b,S' b->F' b=none/\H b=none/\∃ o,H' b=some o) (i:Nat):En Φ (δ.set i (some t)) (σ.set i (some v)) F' H':=by
 have e':=e.step st
 obtain ⟨S,s⟩:=e.sep
 have s':=s.step st
 refine ⟨e'.fh,e'.prot,e'.old,e'.nw,by simp [e.len],fun j u h=>?_,fun j b=>if j=i then S' b else S j b,?_,?_,?_⟩
 · rcases gr h with ⟨rfl,z⟩ | ⟨hn,z⟩
   · have hi:i<σ.length:=by
      rw [<- e.len]
      have:=(gX h).1
      simpa using this
     exact ⟨v,by simp [hi]⟩
   · obtain ⟨w,hw⟩:=e.has j u z
     exact ⟨w,by rw [gN hn];exact hw⟩
 · intro j u w h
   obtain ⟨h1,h2⟩:=gU h
   rcases gr h1 with ⟨rfl,z⟩ | ⟨hn,z⟩
   · rcases gr h2 with ⟨_,z2⟩ | ⟨hn2,_⟩
     · cases z
       cases z2
       show Own _ _ _ _ _ (fun b=>if i=i then S' b else S i b)
       simp only [if_true]
       exact ho
     · exact absurd rfl hn2
   · rcases gr h2 with ⟨z2,_⟩ | ⟨_,z2⟩
     · exact absurd z2 hn
     · have:¬ j=i:=fun q=>hn q.symm
       show Own _ _ _ _ _ (fun b=>if j=i then S' b else S j b)
       simp only [if_neg this]
       exact s'.own j u w (fE z z2)
 · intro j b h
   split at h
   · obtain ⟨h1,h2,h3⟩:=hs b h
     exact ⟨h1,h3,e.fresh h2⟩
   · exact s'.out _ b h
 · have old:∀ j b,S j b->¬ S' b:=fun j b h z=>by
    obtain ⟨_,⟨o,h2⟩,_⟩:=s.out j b h
    rw [(hs b z).2.1] at h2
    cases h2
   intro j k b hj hk
   split at hj<;>split at hk
   · rename_i q1 q2
     rw [q1,q2]
   · exact absurd hj (old _ b hk)
   · exact absurd hk (old _ b hj)
   · exact s.dis _ _ b hj hk
def r8 {K:PySem.W.Frag} {t:T} {a:Addr} {S:Addr->Prop} (ht:∀ d,t≠.leaf d) (h:Own K F H t (.ref a) S):S a:=by
 induction t with
 | leaf d=>exact absurd rfl (ht d)
 | lst l=>obtain ⟨b,_,e,q,_⟩:=h;cases e;exact q
 | dct l=>obtain ⟨b,_,e,q,_⟩:=h;cases e;exact q
 | dcT l=>obtain ⟨b,_,e,q,_⟩:=h;cases e;exact q
 | obj c ns l=>obtain ⟨b,_,_,_,_,e,q,_⟩:=h;cases e;exact q
 | pin b t ih=>exact ih h.2.1 h.2.2
def En.poke (e:En Φ δ σ F H) {i:Nat} {t t':T} {a:Addr} {o:HO} (h:δ[i]?=some (some t)) (hv:σ[i]?=some (some (.ref a))) (ht:∀ d,t≠.leaf d) (ho:∀ S:Addr->Prop,S a->Own Φ.K F (upd H a o) t' (.ref a) S) :
  En Φ (δ.set i (some t')) σ F (upd H a o):=by
 obtain ⟨S,s⟩:=e.sep
 have sa:S i a:=r8 ht (s.own i t _ (fE h hv))
 obtain ⟨fa,⟨oa,ha⟩,ba⟩:=s.out _ a sa
 have hi:i<δ.length:=(gX h).1
 refine ⟨fun b u z=>?_,fun b u h1 h2=>?_,e.old,e.nw,by simp [e.len],fun j u z=>?_,S,fun j u w z=>?_,fun j b z=>?_,s.dis⟩
 · have:b≠a:=fun q=>by rw [q,fa] at z;cases z
   rw [bc this]
   exact e.fh _ _ z
 · have:b≠a:=fun q=>by
    subst q
    rcases ba with z | z
    · rw [z] at h1;cases h1
    · exact h2 z
   rw [bc this]
   exact e.prot b u h1 h2
 · rcases gr z with ⟨rfl,_⟩ | ⟨hn,z⟩
   · exact ⟨_,hv⟩
   · exact e.has j u z
 · obtain ⟨h1,h2⟩:=gU z
   rcases gr h1 with ⟨rfl,z1⟩ | ⟨hn,z1⟩
   · cases z1
     rw [hv] at h2
     cases h2
     exact ho _ sa
   · refine (s.own j u w (fE z1 h2)).step (Same.refl _) fun b q hb hq=>?_
     have:b≠a:=fun y=>by
      subst y
      exact hn (s.dis _ _ _ hb sa).symm
     rw [bc this]
     exact hq
 · obtain ⟨h1,⟨q,h2⟩,h3⟩:=s.out j b z
   refine ⟨h1,?_,h3⟩
   by_cases y:b=a
   · subst y
     exact ⟨o,aY⟩
   · exact ⟨q,by rw [bc y];exact h2⟩
end
def KO (K:PySem.W.Frag) (F H:Hp) (t:T) (Q:VK):Prop:=∀ v H' F' S,Step F H F' H'->Own K F' H' t v S->(∀ b,S b->F' b=none/\H b=none/\∃ o,H' b=some o)->Q v H'
def KL (K:PySem.W.Frag) (F H:Hp) (d:Dt) (Q:VK):Prop:=∀ v H' F',Step F H F' H'->Rep K F' d v->Q v H'
def KB (K:PySem.W.Frag) (F H:Hp) (d:Dt) (Q:VK):Prop:=∀ v H' F',Step F H F' H'->RepB K F' H' d v->Q v H'
section
variable {K:PySem.W.Frag} {F H F1 H1:Hp} {t:T} {d:Dt} {Q:VK}
def KO.step (k:KO K F H t Q) (st:Step F H F1 H1):KO K F1 H1 t Q:=fun v H' F' S s o hs=>k v H' F' S (st.trans s) o fun b z=>⟨(hs b z).1,st.hh.free (hs b z).2.1,(hs b z).2.2⟩
def KO.leaf (k:KO K F H (.leaf d) Q):KL K F H d Q:=fun v H' F' st r=>k v H' F' (fun _=>False) st r fun _ z=>z.elim
def KL.here (k:KL K F H d Q) (fh:Same F H) {v:V} (r:Rep K F d v):Q v H:=k v H F (Step.refl fh) r
def KB.to (k:KB K F H d Q):KL K F H d Q:=fun v H' F' st r=>k v H' F' st (RepB.of st.fh r)
def KL.to (k:KL K F H t.d Q):KO K F H t Q:=fun v H' F' S st o hs=>by
 refine k v H' (rZ F' H' S) ⟨st.hh,st.ff.trans (qx fun b z=>(hs b z).1),vA st.fh,fun b u z=>?_⟩ (o.freeze fun b z=>(hs b z).1)
 by_cases hb:S b
 · exact .inr (hs b hb).2.1
 · rw [ky hb] at z
   exact st.nw b u z
def KB.toO (k:KB K F H t.d Q):KO K F H t Q:=fun v H' F' S st o hs=>k v H' F' st (o.repB st.fh)
end
def tO (K:PySem.W.Frag) (f:De->Option T):TE:=fun σ H Q=>∃ Φ δ F t,Fm.K Φ=K/\En Φ δ σ F H/\f δ=some t/\KO K F H t Q
def tL (K:PySem.W.Frag) (f:De->Option Dt):TE:=fun σ H Q=>∃ Φ δ F d,Fm.K Φ=K/\En Φ δ σ F H/\f δ=some d/\KL K F H d Q
def tBd (K:PySem.W.Frag) (f:De->Option Dt):TE:=fun σ H Q=>∃ Φ δ F d,Fm.K Φ=K/\En Φ δ σ F H/\f δ=some d/\KB K F H d Q
def tTr (K:PySem.W.Frag) (f:De->Option Bool):TT:=fun σ H Q=>∃ Φ δ F b,Fm.K Φ=K/\En Φ δ σ F H/\f δ=some b/\∀ H' F',Step F H F' H'->Q b H'
def DO (X:Cx) (e:Expr) (f:De->Option T):Prop:=PE X e (tO X.K f)
def DL (X:Cx) (e:Expr) (f:De->Option Dt):Prop:=PE X e (tL X.K f)
def DB (X:Cx) (e:Expr) (f:De->Option Dt):Prop:=PE X e (tBd X.K f)
def DT (X:Cx) (e:Expr) (f:De->Option Bool):Prop:=PT X e (tTr X.K f)
def DW (X:Cx) (e:Expr) (f:De->Option Bool):Prop:=PW X e (tTr X.K f)
def PE.mono {X:Cx} {e:Expr} {t t':TE} (h:PE X e t) (m:∀ σ H Q,t' σ H Q->t σ H Q):PE X e t':=fun pins s σ H Q I q=>h pins s σ H Q I (m _ _ _ q)
def PT.mono {X:Cx} {e:Expr} {t t':TT} (h:PT X e t) (m:∀ σ H Q,t' σ H Q->t σ H Q):PT X e t':=fun pins s σ H Q I q=>h pins s σ H Q I (m _ _ _ q)
def PW.mono {X:Cx} {e:Expr} {t t':TT} (h:PW X e t) (m:∀ σ H Q,t' σ H Q->t σ H Q):PW X e t':=fun whole pins s σ H Q I q=>h whole pins s σ H Q I (m _ _ _ q)
def PA.mono {X:Cx} {e:List Expr} {t t':TA} (h:PA X e t) (m:∀ σ H Q,t' σ H Q->t σ H Q):PA X e t':=fun pos pins s σ H Q I q=>h pos pins s σ H Q I (m _ _ _ q)
def PI.mono {X:Cx} {tg e:Expr} {t t':TI} (h:PI X tg e t) (m:∀ σ H Q,t' σ H Q->t σ H Q):PI X tg e t':=fun pins s σ H Q I q=>h pins s σ H Q I (m _ _ _ q)
def PG.mono {X:Cx} {e:Expr} {t t':TG} (h:PG X e t) (m:∀ v σ H Q,t' v σ H Q->t v σ H Q):PG X e t':=fun pins s σ H v u Q I r q=>h pins s σ H v u Q I r (m _ _ _ _ q)
def PS.mono {X:Cx} {e:Stmt} {t t':TS} (h:PS X e t) (m:∀ D σ H,t' D σ H->t D σ H):PS X e t':=fun pins s σ H Q I q=>h pins s σ H Q I (m _ _ _ q)
def PSs.mono {X:Cx} {e:List Stmt} {t t':TS} (h:PSs X e t) (m:∀ D σ H,t' D σ H->t D σ H):PSs X e t':=fun pins s σ H Q I q=>h pins s σ H Q I (m _ _ _ q)
def PE.or {X:Cx} {e:Expr} {t t':TE} (h:PE X e t) (h':PE X e t'):PE X e (fun σ H Q=>t σ H Q∨t' σ H Q):=fun pins s σ H Q I q=>q.elim (h pins s σ H Q I) (h' pins s σ H Q I)
def PI.or {X:Cx} {tg e:Expr} {t t':TI} (h:PI X tg e t) (h':PI X tg e t'):PI X tg e (fun σ H Q=>t σ H Q∨t' σ H Q):=fun pins s σ H Q I q=>q.elim (h pins s σ H Q I) (h' pins s σ H Q I)
section
variable {X:Cx} {e a b c:Expr} {f:De->Option T} {g fa fb fc:De->Option Dt} {pos:Pos}
def toD (f:De->Option T):De->Option Dt:=fun δ=>(f δ).map T.d
def toT (f:De->Option Dt):De->Option T:=fun δ=>(f δ).map T.leaf
def DO.toL (h:DO X e f):DL X e (toD f):=PE.mono h fun σ H Q ⟨Φ,δ,F,d,hK,en,hf,k⟩=>by
 unfold toD at hf
 cases ht:f δ with
 | none=>rw [ht] at hf;cases hf
 | some t =>
  rw [ht] at hf
  cases hf
  exact ⟨Φ,δ,F,t,hK,en,ht,k.to⟩
def DO.toB (h:DO X e f):DB X e (toD f):=PE.mono h fun σ H Q ⟨Φ,δ,F,d,hK,en,hf,k⟩=>by
 unfold toD at hf
 cases ht:f δ with
 | none=>rw [ht] at hf;cases hf
 | some t =>
  rw [ht] at hf
  cases hf
  exact ⟨Φ,δ,F,t,hK,en,ht,k.toO⟩
def DL.toB (h:DL X e g):DB X e g:=PE.mono h fun σ H Q ⟨Φ,δ,F,d,hK,en,hf,k⟩=>⟨Φ,δ,F,d,hK,en,hf,k.to⟩
def DL.toO (h:DL X e g):DO X e (toT g):=PE.mono h fun σ H Q ⟨Φ,δ,F,t,hK,en,hf,k⟩=>by
 unfold toT at hf
 cases hd:g δ with
 | none=>rw [hd] at hf;cases hf
 | some d =>
  rw [hd] at hf
  cases hf
  exact ⟨Φ,δ,F,d,hK,en,hd,k.leaf⟩
def vL (i:Nat):De->Option Dt:=fun δ=>match δ[i]? with
 | some (some (.leaf d))=>some d
 | _=>none
def vB (i:Nat):De->Option Dt:=fun δ=>match δ[i]? with
 | some (some t)=>some t.d
 | _=>none
def aq {i:Nat} (h:PE X e (oO i)):DL X e (vL i):=PE.mono h fun σ H Q ⟨Φ,δ,F,d,hK,en,hf,k⟩=>by
 unfold vL at hf
 split at hf
 · rename_i q
   cases hf
   obtain ⟨v,h1,h2⟩:=en.leaf q
   exact ⟨v,h1,k.here en.fh (hK▸h2)⟩
 · cases hf
def ae {i:Nat} (h:PE X e (oO i)):DB X e (vB i):=PE.mono h fun σ H Q ⟨Φ,δ,F,d,hK,en,hf,k⟩=>by
 unfold vB at hf
 split at hf
 · rename_i q
   cases hf
   obtain ⟨v,h1,h2⟩:=en.slot q
   exact ⟨v,h1,k v H F (Step.refl en.fh) (hK▸h2)⟩
 · cases hf
def kD (d:Dt):De->Option Dt:=fun _=>some d
def tP {v:V} {d:Dt} (h:PE X e (tC v)) (r:∀ F,Rep X.K F d v):DL X e (kD d):=PE.mono h fun σ H Q ⟨Φ,δ,F,d',hK,en,hf,k⟩=>by
 cases hf
 exact k.here en.fh (r F)
def ac {i:Int} {j}:DL X (.Constant (.int i) j pos) (kD (.int i)):=tP xO fun F=>by simp only [Rep]
def gW {i:Bool} {j}:DL X (.Constant (.bool i) j pos) (kD (.bl i)):=tP zT fun F=>by simp only [Rep]
def kz {j}:DL X (.Constant .none j pos) (kD .non):=tP xP fun F=>by simp only [Rep]
def au {x:Str} {j}:DL X (.Constant (.str x) j pos) (kD (.str x)):=tP xQ fun F=>by simp only [Rep]
def R2D (K:PySem.W.Frag) (r:R2) (g:Dt->Dt->Option T):Prop:=∀ F H x y vx vy (Q:VK) t,Same F H->RepB K F H x vx->RepB K F H y vy->g x y=some t->KO K F H t Q->r vx vy H Q
def d2 (g:Dt->Dt->Option T) (fa fb:De->Option Dt):De->Option T:=fun δ=>(fa δ).bind fun x=>(fb δ).bind fun y=>g x y
def qy {K:PySem.W.Frag} {r:R2} {g:Dt->Dt->Option T} (hr:R2D K r g) {σ:St} {H:Hp} {Q:VK} (h:tO K (d2 g fa fb) σ H Q):tOp r (tBd K fa) (tBd K fb) σ H Q:=by
 obtain ⟨Φ,δ,F,t,hK,en,hf,k⟩:=h
 unfold d2 at hf
 obtain ⟨x,hx,hf⟩:=bS hf
 obtain ⟨y,hy,hf⟩:=bS hf
 exact ⟨Φ,δ,F,x,hK,en,hx,fun v H1 F1 st rv=>⟨Φ,δ,F1,y,hK,en.step st,hy,fun v2 H2 F2 st2 rv2=>hr F2 H2 x y v v2 Q t st2.fh (rv.step st2.ff st2.hh) rv2 hf (k.step (st.trans st2))⟩⟩
def ap {op:Operator} {r:R2} {g:Dt->Dt->Option T} (ho:OpR X (binaryOp op) r) (hr:R2D X.K r g) (ha:DB X a fa) (hb:DB X b fb):DO X (.BinOp a op b pos) (d2 g fa fb):=PE.mono (sJ ho ha hb) fun σ H Q h=>qy hr h
def ju {op:CmpOp} {r:R2} {g:Dt->Dt->Option T} (ho:OpR X (compareOp op) r) (hr:R2D X.K r g) (ha:DB X a fa) (hb:DB X b fb) (hm:behindInMarks op b=false):DO X (.Compare a [op] [b] pos) (d2 g fa fb):=PE.mono (p8 ho ha hb hm) fun σ H Q h=>qy hr h
def asB:T->Option Bool
 | .leaf (.bl b)=>some b
 | _=>none
def tB2 (g:Dt->Dt->Option T) (fa fb:De->Option Dt):De->Option Bool:=fun δ=>(d2 g fa fb δ).bind asB
def vC {K:PySem.W.Frag} {F H:Hp} {t:T} {v:V} {S:Addr->Prop} {b:Bool} (h:asB t=some b) (o:Own K F H t v S):v=.bl b:=by
 unfold asB at h
 split at h
 · cases h
   have o:Rep K F (.bl b) v:=o
   simp only [Rep] at o
   exact o
 · cases h
def bp {op:CmpOp} {r:R2} {g:Dt->Dt->Option T} (ho:OpR X (compareOp op) r) (hr:R2D X.K r g) (ha:DB X a fa) (hb:DB X b fb) (hm:behindInMarks op b=false):DT X (.Compare a [op] [b] pos) (tB2 g fa fb):=PT.mono (p9 ho ha hb hm) fun σ H Q ⟨Φ,δ,F,t,hK,en,hf,k⟩=>by
 unfold tB2 at hf
 obtain ⟨z,hz,hf⟩:=bS hf
 refine qy hr ⟨Φ,δ,F,z,hK,en,hz,fun v H' F' S st o hs=>?_⟩
 exact ⟨t,vC hf o,k H' F' st⟩
def tQ:Dt->Option Bool
 | .non=>some false
 | .bl b=>some b
 | .int i=>some (i != 0)
 | .str x=>if x.length<=sizeLine then some ((x.length:Int) != 0) else none
 | .tup l=>some (!l.isEmpty)
 | .lst l=>some (!l.isEmpty)
 | _=>none
def kA (f:De->Option Dt):De->Option Bool:=fun δ=>(f δ).bind tQ
def i8 {K:PySem.W.Frag} {F:Hp} {l:List Dt} {vs:List V} (h:Reps K F l vs):l.isEmpty=vs.isEmpty:=by
 cases l with
 | nil=>unfold Reps at h;rw [h];rfl
 | cons d l=>unfold Reps at h;obtain ⟨v,ws,rfl,_⟩:=h;rfl
def qz {K:PySem.W.Frag} {F H:Hp} {d:Dt} {v:V} {b:Bool} (fh:Same F H) (h:RepB K F H d v) (hb:tQ d=some b):yf K v H b:=by
 cases d with
 | non=>cases h;cases hb;rfl
 | bl x=>cases h;cases hb;rfl
 | int x=>cases h;cases hb;rfl
 | str x =>
  cases h
  simp only [tQ] at hb
  split at hb
  · cases hb;exact ⟨by assumption,rfl⟩
  · cases hb
 | tup l =>
  obtain ⟨a,vs,rfl,h1,h2⟩:=h
  cases hb
  exact .inr (.inl ⟨vs,fh.tup h1,by rw [i8 h2]⟩)
 | lst l =>
  obtain ⟨a,vs,rfl,h1,h2⟩:=h
  cases hb
  exact .inl ⟨vs,h1,by rw [i8 h2]⟩
 | dct ks l=>cases hb
 | dcT ks l=>cases hb
 | ins c ns l=>cases hb
def kB (ha:DB X a fa) (he:∀ whole,isTrue a X.env whole=(do let v <- whole;standAt a.pos;holding [v] (truthy v))):DT X a (kA fa):=PT.mono (nE ha he) fun σ H Q ⟨Φ,δ,F,b,hK,en,hf,k⟩=>by
 unfold kA at hf
 obtain ⟨d,hd,hf⟩:=bS hf
 exact ⟨Φ,δ,F,d,hK,en,hd,fun v H' F' st r=>⟨b,qz st.fh r hf,k H' F' st⟩⟩
def mH (f g:De->Option Bool):De->Option Bool:=fun δ=>(f δ).bind fun b=>if b then g δ else some false
variable {ta tb tc:De->Option Bool} {rest:List Expr}
def vD (h:DT X a ta):DW X (.BoolOp .And [a] pos) ta:=pW h
def yA (h:DT X a ta) (h':DW X (.BoolOp .And (b::rest) pos) tb):DW X (.BoolOp .And (a::b::rest) pos) (mH ta tb):=PW.mono (sB h h') fun σ H Q ⟨Φ,δ,F,t,hK,en,hf,k⟩=>by
 unfold mH at hf
 obtain ⟨c,hc,hf⟩:=bS hf
 refine ⟨Φ,δ,F,c,hK,en,hc,fun H' F' st=>?_⟩
 split at hf
 · rename_i q
   rw [if_pos q]
   exact ⟨Φ,δ,F',t,hK,en.step st,hf,fun H2 F2 s2=>k H2 F2 (st.trans s2)⟩
 · rename_i q
   rw [if_neg q]
   cases hf
   exact k H' F' st
def DW.t (h:DW X a ta):DT X a ta:=h.pt
def tR:Dt->Option Bool
 | .bl b=>some b
 | _=>none
def yB (f:De->Option Dt):De->Option T:=fun δ=>(f δ).bind fun x=>(tR x).map fun b=>.leaf (.bl (!b))
def yC (f:De->Option Dt) (g:De->Option T):De->Option T:=fun δ=>(f δ).bind fun x=>(tR x).bind fun b=>if b then g δ else some (.leaf (.bl false))
def vIf (c:De->Option Bool) (f g:De->Option T):De->Option T:=fun δ=>(c δ).bind fun b=>if b then f δ else g δ
def qA {K:PySem.W.Frag} {F H:Hp} {x:Dt} {v:V} {b:Bool} (h:tR x=some b) (r:RepB K F H x v):v=.bl b:=by
 unfold tR at h
 split at h
 · cases h;exact r
 · cases h
def kE {K:PySem.W.Frag} {F:Hp} {b:Bool}:Rep K F (.bl b) (.bl b):=by simp only [Rep]
def ij {K:PySem.W.Frag} {F:Hp} {b:Int}:Rep K F (.int b) (.int b):=by simp only [Rep]
def mI {K:PySem.W.Frag} {F:Hp} {b:Str}:Rep K F (.str b) (.str b):=by simp only [Rep]
def mJ {K:PySem.W.Frag} {F:Hp}:Rep K F .non .non:=by simp only [Rep]
variable {oa ob:De->Option T}
def yD (h:DB X a fa):DO X (.UnaryOp .Not a pos) (yB fa):=PE.mono (xT h) fun σ H Q ⟨Φ,δ,F,t,hK,en,hf,k⟩=>by
 unfold yB at hf
 obtain ⟨x,hx,hf⟩:=bS hf
 cases q:tR x with
 | none=>rw [q] at hf;cases hf
 | some b =>
  rw [q] at hf
  cases hf
  exact ⟨Φ,δ,F,x,hK,en,hx,fun v H' F' st r=>⟨b,qA q r,(k.step st).leaf.here st.fh kE⟩⟩
def yE {op} (h:DO X a oa):DO X (.BoolOp op [a] pos) oa:=sC h
def yF (h:DB X a fa) (h':DO X (.BoolOp .And (b::rest) pos) ob):DO X (.BoolOp .And (a::b::rest) pos) (yC fa ob):=PE.mono (sD h h') fun σ H Q ⟨Φ,δ,F,t,hK,en,hf,k⟩=>by
 unfold yC at hf
 obtain ⟨x,hx,hf⟩:=bS hf
 obtain ⟨b,hb,hf⟩:=bS hf
 refine ⟨Φ,δ,F,x,hK,en,hx,fun v H' F' st r=>⟨b,qA hb r,?_⟩⟩
 split at hf
 · rename_i q
   rw [if_pos q]
   exact ⟨Φ,δ,F',t,hK,en.step st,hf,k.step st⟩
 · rename_i q
   rw [if_neg q]
   cases hf
   exact (k.step st).leaf.here st.fh kE
def xj (hc:DT X c tc) (h:DO X a oa) (h':DO X b ob):DO X (.IfExp c a b pos) (vIf tc oa ob):=PE.mono (nA hc h h') fun σ H Q ⟨Φ,δ,F,t,hK,en,hf,k⟩=>by
 unfold vIf at hf
 obtain ⟨x,hx,hf⟩:=bS hf
 refine ⟨Φ,δ,F,x,hK,en,hx,fun H' F' st=>?_⟩
 split at hf
 · rename_i q
   rw [if_pos q]
   exact ⟨Φ,δ,F',t,hK,en.step st,hf,k.step st⟩
 · rename_i q
   rw [if_neg q]
   exact ⟨Φ,δ,F',t,hK,en.step st,hf,k.step st⟩
def RepBs (K:PySem.W.Frag) (F H:Hp):List Dt->List V->Prop
 | [],vs=>vs=[]
 | d::l,vs=>∃ v ws,vs=v::ws/\RepB K F H d v/\RepBs K F H l ws
def tAL (K:PySem.W.Frag) (f:De->Option (List Dt)):TA:=fun σ H Q=>∃ Φ δ F ds,Fm.K Φ=K/\En Φ δ σ F H/\f δ=some ds/\∀ vs H' F',Step F H F' H'->Reps K F' ds vs->Q vs H'
def tAB (K:PySem.W.Frag) (f:De->Option (List Dt)):TA:=fun σ H Q=>∃ Φ δ F ds,Fm.K Φ=K/\En Φ δ σ F H/\f δ=some ds/\∀ vs H' F',Step F H F' H'->RepBs K F' H' ds vs->Q vs H'
structure DA (X:Cx) (es:List Expr) (f:De->Option (List Dt)):Prop where
 len:∀ δ ds,f δ=some ds->ds.length=es.length
 pa:PA X es (tAL X.K f)
structure DAB (X:Cx) (es:List Expr) (f:De->Option (List Dt)):Prop where
 len:∀ δ ds,f δ=some ds->ds.length=es.length
 pa:PA X es (tAB X.K f)
def aI:De->Option (List Dt):=fun _=>some []
def ag (f:De->Option Dt) (g:De->Option (List Dt)):De->Option (List Dt):=fun δ=>(f δ).bind fun d=>(g δ).bind fun ds=>some (d::ds)
variable {es:List Expr} {fs:De->Option (List Dt)}
def lO {n:Nat} {f:De->Option Dt} (h:∀ δ ds,fs δ=some ds->ds.length=n):∀ δ ds,ag f fs δ=some ds->ds.length=n+1:=fun δ ds hf=>by
 unfold ag at hf
 obtain ⟨x,hx,hf⟩:=bS hf
 obtain ⟨y,hy,hf⟩:=bS hf
 cases hf
 simp [h δ y hy]
def aC:DA X [] aI:=⟨fun _ _ h=>by cases h;rfl,PA.mono iI fun σ H Q ⟨Φ,δ,F,ds,hK,en,hf,k⟩=>by
 cases hf
 exact k [] H F (Step.refl en.fh) (by simp only [Reps])⟩
def b9:DAB X [] aI:=⟨fun _ _ h=>by cases h;rfl,PA.mono iI fun σ H Q ⟨Φ,δ,F,ds,hK,en,hf,k⟩=>by
 cases hf
 exact k [] H F (Step.refl en.fh) rfl⟩
def af (h:DL X e g) (h':DA X es fs) (hs:starEach (e::es) X.env=(false,eval e X.env)::starEach es X.env:=by rfl):DA X (e::es) (ag g fs):=
 ⟨lO h'.len,PA.mono (fR h h'.pa hs) fun σ H Q ⟨Φ,δ,F,ds,hK,en,hf,k⟩=>by
  unfold ag at hf
  obtain ⟨x,hx,hf⟩:=bS hf
  obtain ⟨y,hy,hf⟩:=bS hf
  cases hf
  exact ⟨Φ,δ,F,x,hK,en,hx,fun v H1 F1 st r=>⟨Φ,δ,F1,y,hK,en.step st,hy,fun vs H2 F2 s2 r2=>k (v::vs) H2 F2 (st.trans s2) (by simp only [Reps];exact ⟨v,vs,rfl,r.same s2.ff,r2⟩)⟩⟩⟩
def bU (h:DB X e g) (h':DAB X es fs) (hs:starEach (e::es) X.env=(false,eval e X.env)::starEach es X.env:=by rfl):DAB X (e::es) (ag g fs):=
 ⟨lO h'.len,PA.mono (fR h h'.pa hs) fun σ H Q ⟨Φ,δ,F,ds,hK,en,hf,k⟩=>by
  unfold ag at hf
  obtain ⟨x,hx,hf⟩:=bS hf
  obtain ⟨y,hy,hf⟩:=bS hf
  cases hf
  exact ⟨Φ,δ,F,x,hK,en,hx,fun v H1 F1 st r=>⟨Φ,δ,F1,y,hK,en.step st,hy,fun vs H2 F2 s2 r2=>k (v::vs) H2 F2 (st.trans s2) ⟨v,vs,rfl,r.step s2.ff s2.hh,r2⟩⟩⟩⟩
def cB (f:De->Option (List Dt)):De->Option T:=fun δ=>(f δ).bind fun ds=>if ds.length<=sizeLine then some (.leaf (.tup ds)) else none
def dN (f:De->Option (List Dt)):De->Option T:=fun δ=>(f δ).bind fun ds=>if ds.length<=sizeLine then some (.lst ds) else none
def bN {x1} (h:DA X es fs):DO X (.Tuple es x1 pos) (cB fs):=PE.mono (sR h.pa) fun σ H Q ⟨Φ,δ,F,t,hK,en,hf,k⟩=>by
 unfold cB at hf
 obtain ⟨ds,hd,hf⟩:=bS hf
 split at hf
 · rename_i hl
   cases hf
   refine ⟨Φ,δ,F,ds,hK,en,hd,fun vs H1 F1 st r=>⟨by rw [r.length];exact hl,fun p hp=>?_⟩⟩
   refine (k.step st).leaf _ _ _ (Step.new st.fh hp) ?_
   simp only [Rep]
   exact ⟨p,vs,rfl,SqT.of aY,r.same (Same.upd (st.fh.free hp))⟩
 · cases hf
def i9 {K:PySem.W.Frag} {F H:Hp} {ds:List Dt} {vs:List V} {p:Addr} {Q:VK} (k:KO K F H (.lst ds) Q) (fh:Same F H) (r:Reps K F ds vs) (hp:H p=none):Q (.ref p) (upd H p (.lst vs)):=by
 refine k _ _ F (fun b=>b=p) (Step.made fh hp) ⟨p,vs,rfl,rfl,aY,r⟩ fun b z=>?_
 subst z
 exact ⟨fh.free hp,hp,_,aY⟩
def dh (h:DA X es fs):DO X (.List es pos) (dN fs):=PE.mono (sS h.pa) fun σ H Q ⟨Φ,δ,F,t,hK,en,hf,k⟩=>by
 unfold dN at hf
 obtain ⟨ds,hd,hf⟩:=bS hf
 split at hf
 · rename_i hl
   cases hf
   exact ⟨Φ,δ,F,ds,hK,en,hd,fun vs H1 F1 st r=>⟨by rw [r.length];exact hl,fun p hp=>i9 (k.step st) st.fh r hp⟩⟩
 · cases hf
def CRD (K:PySem.W.Frag) (r:List V->Hp->VK->Prop) (g:List Dt->Option T):Prop:=∀ F H ds vs (Q:VK) t,Same F H->RepBs K F H ds vs->g ds=some t->KO K F H t Q->r vs H Q
def aW (g:List Dt->Option T) (f:De->Option (List Dt)):De->Option T:=fun δ=>(f δ).bind g
def tT {K:PySem.W.Frag} {r:List V->Hp->VK->Prop} {g:List Dt->Option T} (hr:CRD K r g) {σ:St} {H:Hp} {Q:VK} (h:tO K (aW g fs) σ H Q):tCB r (tAB K fs) σ H Q:=by
 obtain ⟨Φ,δ,F,t,hK,en,hf,k⟩:=h
 unfold aW at hf
 obtain ⟨ds,hd,hf⟩:=bS hf
 exact ⟨Φ,δ,F,ds,hK,en,hd,fun vs H1 F1 st r=>hr F1 H1 ds vs Q t st.fh r hf (k.step st)⟩
variable {x:Str} {p:Pos} {id Ty:String} {sc:Scope} {r:List V->Hp->VK->Prop} {gg:List Dt->Option T}
def cM (h:bt sc x=true) (hc:CallR X (.builtin id) r) (hr:CRD X.K r gg) (hm:X.mg x=none) (hv:bootBuiltins x=some (.builtin id)) (ha:DAB X (e::es) fs) (e1:dE X sc:=by rfl)
  (he:starEach (e::es) X.env=(false,eval e X.env)::starEach es X.env:=by rfl) (hpl:(backTo pos (starEach es X.env)).any (·.1)=false:=by rfl):DO X (.Call (.Name x p) (e::es) [] pos) (aW gg fs):=
 PE.mono (jr h hc hm hv ha.pa e1 he hpl) fun σ H Q q=>tT hr q
def ge (h:bt sc x=true) (hc:CallR X (.type Ty) r) (hr:CRD X.K r gg) (hm:X.mg x=none) (hv:bootBuiltins x=some (.type Ty)) (ha:DAB X (e::es) fs) (e1:dE X sc:=by rfl)
  (he:starEach (e::es) X.env=(false,eval e X.env)::starEach es X.env:=by rfl) (hpl:(backTo pos (starEach es X.env)).any (·.1)=false:=by rfl):DO X (.Call (.Name x p) (e::es) [] pos) (aW gg fs):=
 PE.mono (iK h hc hm hv ha.pa e1 he hpl) fun σ H Q q=>tT hr q
def spD (K:PySem.W.Frag) (n:Nat) (f:List Dt->Option T):Sp:=fun vs H Q _=>∃ F ds t,Same F H/\ds.length=n/\Reps K F ds vs/\f ds=some t/\KO K F H t Q
def bA {k n:Nat} {ps:List Str} {ff:List Dt->Option T} (h:bt sc x=true) (F:OkF X.prog X.w X.K X.mg X.base x k ps (spD X.K n ff)) (hr:Room k X.A) (ha:DA X (e::es) fs) (hn:(e::es).length=n:=by rfl) (e1:dE X sc:=by rfl)
  (he:starEach (e::es) X.env=(false,eval e X.env)::starEach es X.env:=by rfl) (hpl:(backTo pos (starEach es X.env)).any (·.1)=false:=by rfl):DO X (.Call (.Name x p) (e::es) [] pos) (aW ff fs):=
 PE.mono (jt h F hr ha.pa e1 he hpl) fun σ H Q ⟨Φ,δ,Fz,t,hK,en,hf,k⟩=>by
  unfold aW at hf
  obtain ⟨ds,hd,hf⟩:=bS hf
  refine ⟨Φ,δ,Fz,ds,hK,en,hd,fun vs H1 F1 st r=>?_⟩
  show spD X.K n ff (vs++[]) H1 Q E0
  rw [List.append_nil]
  exact ⟨F1,ds,t,st.fh,(ha.len δ ds hd).trans hn,r,hf,k.step st⟩
end
inductive Out where
 | nx (δ:De) | rt (t:T) | bk (δ:De) | ct (δ:De) | re (t:T) (δ:De)
structure Rt (Φ:Fm) (t:T) (v:V) (F H:Hp):Prop where
 fh:Same F H
 prot:∀ b o,Φ.H0 b=some o->¬ Φ.S0 b->H b=some o
 old:Same Φ.F0 F
 nw:∀ b o,F b=some o->Φ.F0 b=some o∨Φ.B b
 own:∃ S,Own Φ.K F H t v S/\∀ b,S b->F b=none/\(∃ o,H b=some o)/\Φ.B b
structure Re (Φ:Fm) (t:T) (v:V) (δ:De) (σ:St) (F H:Hp):Prop where
 en:En Φ δ σ F H
 own:∃ S R,Sep Φ.K F H Φ.B (lN δ σ) S/\Own Φ.K F H t v R/\∀ b,R b->F b=none/\(∃ o,H b=some o)/\Φ.B b/\∀ i,¬ S i b
noncomputable def Post (Φ:Fm) (D:Ends):Out->Prop
 | .nx δ=>∀ σ F H,En Φ δ σ F H->D.nx σ H
 | .rt t=>∀ v F H,Rt Φ t v F H->D.rt v H
 | .bk δ=>∀ σ F H,En Φ δ σ F H->D.bk σ H
 | .ct δ=>∀ σ F H,En Φ δ σ F H->D.ct σ H
 | .re t δ=>∀ v σ F H,Re Φ t v δ σ F H->D.rt v H
def tS (K:PySem.W.Frag) (g:De->Option Out):TS:=fun D σ H=>∃ Φ δ F o,Fm.K Φ=K/\En Φ δ σ F H/\g δ=some o/\Post Φ D o
def DS1 (X:Cx) (st:Stmt) (g:De->Option Out):Prop:=PS X st (tS X.K g)
def DS (X:Cx) (ss:List Stmt) (g:De->Option Out):Prop:=PSs X ss (tS X.K g)
section
variable {X:Cx} {st:Stmt} {rest a b body:List Stmt} {g g1 g2:De->Option Out} {e c tg iter:Expr} {pos:Pos} {f:De->Option T} {fd:De->Option Dt} {tc:De->Option Bool} {i:Nat}
def fF:De->Option Out:=fun δ=>some (.nx δ)
def b7 (g1 g2:De->Option Out):De->Option Out:=fun δ=>(g1 δ).bind fun o=>match o with
 | .nx δ'=>g2 δ'
 | o=>some o
def cm:DS X [] fF:=PSs.mono pX fun D σ H ⟨Φ,δ,F,o,hK,en,hg,k⟩=>by
 cases hg
 exact k σ F H en
def bD (h:DS1 X st g):DS X [st] g:=pY h
def aR (h1:DS1 X st g1) (h2:DS X rest g2):DS X (st::rest) (b7 g1 g2):=PSs.mono (nB h1 h2) fun D σ H ⟨Φ,δ,F,o,hK,en,hg,k⟩=>by
 unfold b7 at hg
 obtain ⟨o1,h1,hg⟩:=bS hg
 refine ⟨Φ,δ,F,o1,hK,en,h1,?_⟩
 cases o1 with
 | nx δ'=>exact fun σ' F' H' en'=>⟨Φ,δ',F',o,hK,en',hg,k⟩
 | rt t=>cases hg;exact k
 | bk δ'=>cases hg;exact k
 | ct δ'=>cases hg;exact k
 | re t δ'=>cases hg;exact k
def cI (f:De->Option T):De->Option Out:=fun δ=>(f δ).map .rt
def En.rt {Φ:Fm} {δ:De} {σ:St} {F H F' H':Hp} {t:T} {v:V} {S:Addr->Prop} (en:En Φ δ σ F H) (st:Step F H F' H') (o:Own Φ.K F' H' t v S) (hs:∀ b,S b->F' b=none/\H b=none/\∃ o,H' b=some o):Rt Φ t v F' H':=by
 have e':=en.step st
 exact ⟨e'.fh,e'.prot,e'.old,e'.nw,S,o,fun b z=>⟨(hs b z).1,(hs b z).2.2,en.fresh (hs b z).2.1⟩⟩
def bF (h:DO X e f):DS1 X (.Return (some e) pos) (cI f):=PS.mono (sE h) fun D σ H ⟨Φ,δ,F,o,hK,en,hg,k⟩=>by
 unfold cI at hg
 obtain ⟨t,ht,hg⟩:=mS hg
 cases hg
 exact ⟨Φ,δ,F,t,hK,en,ht,fun v H' F' S st o hs=>k v F' H' (en.rt st (hK▸o) hs)⟩
def sIf (c:De->Option Bool) (g1 g2:De->Option Out):De->Option Out:=fun δ=>(c δ).bind fun b=>if b then g1 δ else g2 δ
def df (hc:DT X c tc) (h1:DS X a g1) (h2:DS X b g2):DS1 X (.If c a b pos) (sIf tc g1 g2):=PS.mono (wU hc h1 h2) fun D σ H ⟨Φ,δ,F,o,hK,en,hg,k⟩=>by
 unfold sIf at hg
 obtain ⟨x,hx,hg⟩:=bS hg
 refine ⟨Φ,δ,F,x,hK,en,hx,fun H' F' st=>?_⟩
 split at hg
 · rename_i q
   rw [if_pos q]
   exact ⟨Φ,δ,F',o,hK,en.step st,hg,k⟩
 · rename_i q
   rw [if_neg q]
   exact ⟨Φ,δ,F',o,hK,en.step st,hg,k⟩
def dF (i:Nat) (f:De->Option T):De->Option Out:=fun δ=>(f δ).map fun t=>.nx (δ.set i (some t))
def cx {sc:Scope} {N:List Str} {x:Str} {pos':Pos} (h:gH sc N i x=true) (hl:lv sc x=true) (nd:N.Nodup) (he:DO X e f) (e1:dE X sc:=by rfl) (e2:X.N=N:=by rfl) (hf:X.fn x=true∨X.env.scope.names.lookup x=some .local:=by exact .inl rfl)
  (hs:swapsWith e (some (.Name x pos')) pos.line X.env=pure false:=by rfl):DS1 X (.Assign [.Name x pos'] e pos) (dF i f):=PS.mono (qq h hl nd he e1 e2 hf hs) fun D σ H ⟨Φ,δ,F,o,hK,en,hg,k⟩=>by
 unfold dF at hg
 obtain ⟨t,ht,hg⟩:=mS hg
 cases hg
 exact ⟨Φ,δ,F,t,hK,en,ht,fun v H' F' S st o hs=>k _ F' H' (en.put st (hK▸o) hs i)⟩
noncomputable def gD (K:PySem.W.Frag) (ts:List Nat) (st:Dt->De->Option De):TG:=fun v σ H Q=>∃ Φ δ F d δ',Fm.K Φ=K/\En Φ δ σ F H/\Rep K F d v/\st d δ=some δ'/\∀ σ',σ'.length=σ.length->(∀ j,j∉ts->σ'[j]?=σ[j]?)->En Φ δ' σ' F H->Q σ' H
noncomputable def gsD (K:PySem.W.Frag) (ts:List Nat) (st:List Dt->De->Option De):TGs:=fun vs σ H Q=>∃ Φ δ F ds δ',Fm.K Φ=K/\En Φ δ σ F H/\Reps K F ds vs/\st ds δ=some δ'/\∀ σ',σ'.length=σ.length->(∀ j,j∉ts->σ'[j]?=σ[j]?)->En Φ δ' σ' F H->Q σ' H
def DG (X:Cx) (tg:Expr) (ts:List Nat) (bb:Dt->De->Option De):Prop:=PG X tg (gD X.K ts bb)
def DGs (X:Cx) (tg:List Expr) (ts:List Nat) (bb:List Dt->De->Option De):Prop:=PGs X tg (gsD X.K ts bb)
def av (i:Nat):Dt->De->Option De:=fun d δ=>some (δ.set i (some (.leaf d)))
def En.name {Φ:Fm} {δ:De} {σ:St} {F H:Hp} (en:En Φ δ σ F H) {d:Dt} {v:V} (r:Rep Φ.K F d v) (i:Nat):En Φ (δ.set i (some (.leaf d))) (σ.set i (some v)) F H:=
 en.put (Step.refl en.fh) (S':=fun _=>False) (t:=.leaf d) r (fun _ z=>z.elim) i
def bj (h:PG X tg (kc i)):DG X tg [i] (av i):=PG.mono h fun v σ H Q ⟨Φ,δ,F,d,δ',hK,en,r,hd,k⟩=>by
 cases hd
 refine k _ (by simp) (fun j hj=>?_) (en.name (hK▸r) i)
 rw [List.getElem?_set_ne fun z=>hj (by simp [z])]
def eS:List Dt->De->Option De:=fun ds δ=>if ds.isEmpty then some δ else none
def aX (b:Dt->De->Option De) (bs:List Dt->De->Option De):List Dt->De->Option De:=fun ds δ=>match ds with
 | d::r=>(b d δ).bind fun δ1=>bs r δ1
 | []=>none
def fG (n:Nat) (bs:List Dt->De->Option De):Dt->De->Option De:=fun d δ=>match d with
 | .tup ds=>if ds.length=n then bs ds δ else none
 | _=>none
def gt:DGs X [] [] eS:=fun pins s σ H vs us Q I r q=>u3 pins s σ H vs us Q I r (by
 obtain ⟨Φ,δ,F,ds,δ',hK,en,rs,hd,k⟩:=q
 unfold eS at hd
 cases ds with
 | nil=>cases hd;simp only [Reps] at rs;exact ⟨rs,k σ rfl (fun _ _=>rfl) en⟩
 | cons d l=>cases hd)
def bO {es:List Expr} {ts ts':List Nat} {bb:Dt->De->Option De} {bs:List Dt->De->Option De} (h1:DG X e ts bb) (h2:DGs X es ts' bs)
  (hs:(assignEach (e::es) X.env).map (·.2)=assign e X.env::(assignEach es X.env).map (·.2):=by rfl):DGs X (e::es) (ts++ts') (aX bb bs):=fun pins s σ H vs us Q I r q=>sF h1 h2 hs pins s σ H vs us Q I r (by
 obtain ⟨Φ,δ,F,ds,δ',hK,en,rs,hd,k⟩:=q
 unfold aX at hd
 cases ds with
 | nil=>cases hd
 | cons d l =>
  simp only [Reps] at rs
  obtain ⟨v,ws,e,r1,r2⟩:=rs
  dsimp only at hd
  obtain ⟨δ1,hb,hd⟩:=bS hd
  refine ⟨v,ws,e,Φ,δ,F,d,δ1,hK,en,r1,hb,fun σ1 l1 k1 en1=>⟨Φ,δ1,F,l,δ',hK,en1,r2,hd,fun σ2 l2 k2 en2=>k σ2 (l2.trans l1) (fun j hj=>?_) en2⟩⟩
  rw [k2 j fun z=>hj (List.mem_append_right _ z),k1 j fun z=>hj (List.mem_append_left _ z)])
def jv {es:List Expr} {k:Nat} {n:Nat} {ts:List Nat} {bs:List Dt->De->Option De} (hc:X.calm=true) (h:DGs X es ts bs)
  (hn:(assignEach es X.env).length=n:=by rfl) (hst:(assignEach es X.env).findIdx? (·.1)=none:=by rfl):DG X (.Tuple es k pos) ts (fG n bs):=PG.mono (xV hc h hn hst) fun v σ H Q ⟨Φ,δ,F,d,δ',hK,en,r,hd,q⟩=>by
 unfold fG at hd
 split at hd
 · rename_i ds
   split at hd
   · rename_i hl
     simp only [Rep] at r
     obtain ⟨a,vs,e,h1,h2⟩:=r
     exact ⟨a,vs,e,en.fh.tup h1,by rw [h2.length];exact hl,Φ,δ,F,ds,δ',hK,en,h2,hd,q⟩
   · cases hd
 · cases hd
def yG (fd:De->Option Dt) (bb:Dt->De->Option De):De->Option Out:=fun δ=>(fd δ).bind fun d=>(bb d δ).map .nx
def yH {ts:List Nat} {bb:Dt->De->Option De} (he:DL X e fd) (hg:DG X tg ts bb) (hs:swapsWithSole [tg] e pos.line X.env=pure false:=by rfl) (hw:swappedStores [tg] e X.env=pure none:=by rfl)
  (h1:(assignEach [tg] X.env).map (·.2)=[assign tg X.env]:=by rfl):DS1 X (.Assign [tg] e pos) (yG fd bb):=PS.mono (oP he hg hs hw h1) fun D σ H ⟨Φ,δ,F,o,hK,en,hg,k⟩=>by
 unfold yG at hg
 obtain ⟨d,hd,hg⟩:=bS hg
 obtain ⟨δ',hb,hg⟩:=mS hg
 cases hg
 exact ⟨Φ,δ,F,d,hK,en,hd,fun v H' F' st r=>⟨Φ,δ,F',d,δ',hK,en.step st,r,hb,fun σ' _ _ en'=>k σ' F' H' en'⟩⟩
noncomputable def qB (K:PySem.W.Frag) (F':Hp) (J:It) (ds:List Dt) (ok:Hp->Prop):Prop:=∀ (i:Nat) (H F:Hp),ok H->Same F H->Same F' F->(i<ds.length->J.go i H)/\(i=ds.length->J.stop i H)/\∀ x H',i<ds.length->J.yld i H x H'->∃ d F2,ds[i]?=some d/\Step F H F2 H'/\Rep K F2 d x
def Plain.walk {K:PySem.W.Frag} {F':Hp} {J:It} {xs:List V} {ds:List Dt} {ok:Hp->Prop} (pl:Plain J xs ok) (r:Reps K F' ds xs):qB K F' J ds ok:=fun i H F hok fh ff=>by
 obtain ⟨p1,p2,p3⟩:=pl i H hok
 have hl:=r.length
 refine ⟨fun h=>p1 (by omega),fun h=>p2 (by omega),fun x H' hi hy=>?_⟩
 obtain ⟨rfl,hx⟩:=p3 x H' (by omega) hy
 have hd:ds[i]?=some ds[i]:=by simp [hi]
 obtain ⟨v,e,rv⟩:=r.get hd
 rw [hx] at e
 cases e
 exact ⟨_,F,hd,Step.refl fh,rv.same ff⟩
def tIF (K:PySem.W.Frag) (f:De->Option (List Dt)):TI:=fun σ H R=>∃ Φ δ F ds,Fm.K Φ=K/\En Φ δ σ F H/\f δ=some ds/\∀ J ok H' F',Step F H F' H'->qB K F' J ds ok->(∀ H2,Same F' H2->ok H2)->R J H'
def tIB (K:PySem.W.Frag) (f:De->Option (List Dt)):TI:=fun σ H R=>∃ Φ δ F ds,Fm.K Φ=K/\En Φ δ σ F H/\f δ=some ds/\∀ J ok H' F',Step F H F' H'->qB K F' J ds ok->(∀ H2,Same H' H2->ok H2)->R J H'
def DIF (X:Cx) (tg iter:Expr) (f:De->Option (List Dt)):Prop:=PI X tg iter (tIF X.K f)
def DIB (X:Cx) (tg iter:Expr) (f:De->Option (List Dt)):Prop:=PI X tg iter (tIB X.K f)
def DIF.toB {fi:De->Option (List Dt)} (h:DIF X tg iter fi):DIB X tg iter fi:=PI.mono h fun σ H R ⟨Φ,δ,F,ds,hK,en,hf,k⟩=>⟨Φ,δ,F,ds,hK,en,hf,fun J ok H' F' st wd ho=>k J ok H' F' st wd fun H2 s=>ho H2 (st.fh.trans s)⟩
end
section
variable {X:Cx} {st:Stmt} {rest a b body:List Stmt} {g g1 g2:De->Option Out} {e c tg iter l:Expr} {pos:Pos} {f:De->Option T} {fd:De->Option Dt} {tc:De->Option Bool} {i:Nat} {fi:De->Option (List Dt)}
noncomputable def nS (bb:Dt->De->Option De) (g:De->Option Out):List Dt->De->Option Out
 | [],δ=>some (.nx δ)
 | d::r,δ=>(bb d δ).bind fun δ1=>(g δ1).bind fun o=>match o with
  | .nx δ2=>nS bb g r δ2
  | .ct δ2=>nS bb g r δ2
  | .bk δ2=>some (.nx δ2)
  | .rt t=>some (.rt t)
  | .re t δ2=>some (.re t δ2)
def vE (fi:De->Option (List Dt)) (bb:Dt->De->Option De) (g:De->Option Out):De->Option Out:=fun δ=>(fi δ).bind fun ds=>nS bb g ds δ
def Reps.same_get {K:PySem.W.Frag} {F:Hp} {ds:List Dt} {xs:List V} (r:Reps K F ds xs) {i:Nat} {x:V} (h:xs[i]?=some x):∃ d,ds[i]?=some d/\Rep K F d x:=by
 have hl:=r.length
 have hi:i<xs.length:=(gX h).1
 have hd:ds[i]?=some ds[i]:=by simp [show i<ds.length by omega]
 obtain ⟨v,e,rv⟩:=r.get hd
 rw [h] at e
 cases e
 exact ⟨_,hd,rv⟩
def j7 {α:Type} {l:List α} {i:Nat} {d:α} (h:l[i]?=some d):l.drop i=d::l.drop (i+1):=by
 have hi:i<l.length:=(gX h).1
 rw [List.drop_eq_getElem_cons hi]
 congr 1
 have:=(gX h).2
 exact this
def Fm.at (Φ:Fm) (F1:Hp):Fm:={Φ with F0:=F1}
def En.back {Φ:Fm} {δ δ':De} {σ σ':St} {F1 H1 F H:Hp} (en:En Φ δ σ F1 H1) (e:En (Φ.at F1) δ' σ' F H):En Φ δ' σ' F H:=
 ⟨e.fh,e.prot,en.old.trans e.old,fun b o h=>(e.nw b o h).elim (fun z=>en.nw b o z) .inr,e.len,e.has,e.sep⟩
def Rt.back {Φ:Fm} {δ:De} {σ:St} {F1 H1 F H:Hp} {t:T} {v:V} (en:En Φ δ σ F1 H1) (e:Rt (Φ.at F1) t v F H):Rt Φ t v F H:=
 ⟨e.fh,e.prot,en.old.trans e.old,fun b o h=>(e.nw b o h).elim (fun z=>en.nw b o z) .inr,e.own⟩
def Re.back {Φ:Fm} {δ δ':De} {σ σ':St} {F1 H1 F H:Hp} {t:T} {v:V} (en:En Φ δ σ F1 H1) (e:Re (Φ.at F1) t v δ' σ' F H):Re Φ t v δ' σ' F H:=⟨en.back e.en,e.own⟩
def En.at {Φ:Fm} {δ:De} {σ:St} {F1 H1:Hp} (en:En Φ δ σ F1 H1):En (Φ.at F1) δ σ F1 H1:=
 ⟨en.fh,en.prot,Same.refl _,fun b o h=>.inl h,en.len,en.has,en.sep⟩
def Post.at {Φ:Fm} {D:Ends} {o:Out} {δ:De} {σ:St} {F1 H1:Hp} (en:En Φ δ σ F1 H1) (k:Post Φ D o):Post (Φ.at F1) D o:=by
 cases o with
 | nx δ'=>exact fun σ' F H e=>k σ' F H (en.back e)
 | bk δ'=>exact fun σ' F H e=>k σ' F H (en.back e)
 | ct δ'=>exact fun σ' F H e=>k σ' F H (en.back e)
 | rt t=>exact fun v F H e=>k v F H (Rt.back en e)
 | re t δ'=>exact fun v σ' F H e=>k v σ' F H (Re.back en e)
def nT {n:Nat} {g:TG} {tb:TS} {D:Ends} {J:It} {σ:St} {H1:Hp} (Pv:Nat->St->Hp->Prop) (h0:Pv 0 σ H1) (hgo:∀ i σ H,Pv i σ H->(i<n->J.go i H)/\(i=n->J.stop i H))
  (hs:∀ i x σ H H',i<n->Pv i σ H->J.yld i H x H'->g x σ H' fun σ2 H2=>tb {D with nx:=Pv (i+1),ct:=Pv (i+1),bk:=D.nx} σ2 H2) (hd:∀ σ H,Pv n σ H->D.nx σ H):ForW g tb D J σ H1:=by
 refine ⟨fun i m σ H=>m=n-i/\i<=n/\Pv i σ H,⟨n,by simp,Nat.zero_le _,h0⟩,?_⟩
 rintro i m σ H ⟨rfl,hi,p⟩
 obtain ⟨p1,p2⟩:=hgo i σ H p
 by_cases hlt:i<n
 · exact .inr ⟨p1 hlt,Pv (i+1),fun σ' H' p'=>⟨n-(i+1),by omega,rfl,hlt,p'⟩,fun x H' y=>hs i x σ H H' hlt p y⟩
 · have e:i=n:=by omega
   subst e
   exact .inl ⟨p2 rfl,hd σ H p⟩
def yI {ts:List Nat} {bb:Dt->De->Option De} (hp:PassesOwn (model X.prog X.w) X.A X.env X.xe) (hc:X.calm=true) (hi:DIF X tg iter fi) (hg:DG X tg ts bb) (hb:DS X body g)
  (hs:∀ x,foldedSetIterable iter X.env x=pure x:=by intro _;rfl):DS1 X (.For tg iter body [] pos) (vE fi bb g):=PS.mono (sI hp hc hi hg hb hs) fun D σ H ⟨Φ,δ,F,o,hK,en,hg,k⟩=>by
 unfold vE at hg
 obtain ⟨ds,hd,hg⟩:=bS hg
 rw [qp]
 refine ⟨Φ,δ,F,ds,hK,en,hd,fun J ok H1 F1 st1 wd ho=>?_⟩
 have en1:=en.step st1
 have k1:=Post.at en1 k
 refine nT (n:=ds.length) (fun i σ' H'=>∃ δ' F',En (Φ.at F1) δ' σ' F' H'/\nS bb g (ds.drop i) δ'=some o) ⟨δ,F1,en1.at,by simpa using hg⟩ (fun i σ' H' ⟨δ',F',en',_⟩=>?_) ?_ ?_
 · obtain ⟨p1,p2,_⟩:=wd i H' F' (ho H' (en'.old.trans en'.fh)) en'.fh en'.old
   exact ⟨p1,p2⟩
 · rintro i x σ' H' H'' hi ⟨δ',F',en',hgo⟩ hy
   obtain ⟨_,_,p3⟩:=wd i H' F' (ho H' (en'.old.trans en'.fh)) en'.fh en'.old
   obtain ⟨d,F2,hd',st2,rd⟩:=p3 x H'' hi hy
   rw [j7 hd'] at hgo
   unfold nS at hgo
   obtain ⟨δ1,h1,hgo⟩:=bS hgo
   obtain ⟨o1,h2,hgo⟩:=bS hgo
   refine ⟨Φ.at F1,δ',F2,d,δ1,hK,en'.step st2,rd,h1,fun σ1 _ _ en1=>⟨Φ.at F1,δ1,F2,o1,hK,en1,h2,?_⟩⟩
   cases o1 with
   | nx δ2=>exact fun σ2 F2 H2 en2=>⟨δ2,F2,en2,hgo⟩
   | ct δ2=>exact fun σ2 F2 H2 en2=>⟨δ2,F2,en2,hgo⟩
   | bk δ2=>cases hgo;exact fun σ2 F2 H2 en2=>k1 σ2 F2 H2 en2
   | rt t=>cases hgo;exact fun v F2 H2 q=>k1 v F2 H2 q
   | re t δ2=>cases hgo;exact fun v σ2 F2 H2 q=>k1 v σ2 F2 H2 q
 · rintro σ' H' ⟨δ',F',en',hgo⟩
   rw [List.drop_length] at hgo
   cases hgo
   exact k1 σ' F' H' en'
def Aw (x:Str):List Dt:=x.cps.toList.map fun c=>.str ⟨#[c]⟩
def bX (lo:Int) (n:Nat):List Dt:=(List.range n).map fun (i:Nat)=>.int (lo+i)
def Reps.map {K:PySem.W.Frag} {F:Hp} {α:Type} {f:α->Dt} {g:α->V} (h:∀ x,Rep K F (f x) (g x)):∀ l:List α,Reps K F (l.map f) (l.map g)
 | []=>by simp [Reps]
 | x::l=>by
  simp only [List.map_cons,Reps]
  exact ⟨_,_,rfl,h x,Reps.map h l⟩
def itD:Dt->Option (List Dt)
 | .lst l=>some l
 | .tup l=>some l
 | .str x=>some (Aw x)
 | _=>none
def fIt (f:De->Option Dt):De->Option (List Dt):=fun δ=>(f δ).bind itD
def iL (h:DL X l fd):DIF X tg l (fIt fd):=PI.mono (PI.or (p0 h) (PI.or (sG h) (tB h))) fun σ H R ⟨Φ,δ,F,ds,hK,en,hf,k⟩=>by
 unfold fIt at hf
 obtain ⟨d,hd,hf⟩:=bS hf
 cases d with
 | lst l =>
  cases hf
  refine .inl ⟨Φ,δ,F,_,hK,en,hd,fun v H' F' st r=>?_⟩
  simp only [Rep] at r
  obtain ⟨a,vs,rfl,h1,h2⟩:=r
  exact ⟨a,rfl,⟨vs,st.fh.seq h1⟩,k _ _ H' F' st (plain_list.walk h2) fun H2 s=>s.seq h1⟩
 | tup l =>
  cases hf
  refine .inr (.inl ⟨Φ,δ,F,_,hK,en,hd,fun v H' F' st r=>?_⟩)
  simp only [Rep] at r
  obtain ⟨a,vs,rfl,h1,h2⟩:=r
  exact ⟨a,rfl,⟨vs,st.fh.tup h1⟩,k _ _ H' F' st (plain_tup.walk h2) fun H2 s=>s.tup h1⟩
 | str x =>
  cases hf
  refine .inr (.inr ⟨Φ,δ,F,_,hK,en,hd,fun v H' F' st r=>?_⟩)
  simp only [Rep] at r
  exact ⟨x,r,k _ _ H' F' st (plain_str.walk (Reps.map (fun c=>mI) _)) fun _ _=>trivial⟩
 | _=>cases hf
def mK (h:DB X l fd):DIB X tg l (fIt fd):=PI.mono (PI.or (p0 h) (PI.or (sG h) (tB h))) fun σ H R ⟨Φ,δ,F,ds,hK,en,hf,k⟩=>by
 unfold fIt at hf
 obtain ⟨d,hd,hf⟩:=bS hf
 cases d with
 | lst l =>
  cases hf
  refine .inl ⟨Φ,δ,F,_,hK,en,hd,fun v H' F' st r=>?_⟩
  obtain ⟨a,vs,rfl,h1,h2⟩:=r
  exact ⟨a,rfl,⟨vs,h1⟩,k _ _ H' F' st (plain_list.walk h2) fun H2 s=>s.seq h1⟩
 | tup l =>
  cases hf
  refine .inr (.inl ⟨Φ,δ,F,_,hK,en,hd,fun v H' F' st r=>?_⟩)
  obtain ⟨a,vs,rfl,h1,h2⟩:=r
  exact ⟨a,rfl,⟨vs,st.fh.tup h1⟩,k _ _ H' F' st (plain_tup.walk h2) fun H2 s=>s.tup (st.fh.tup h1)⟩
 | str x =>
  cases hf
  refine .inr (.inr ⟨Φ,δ,F,_,hK,en,hd,fun v H' F' st r=>?_⟩)
  exact ⟨x,r,k _ _ H' F' st (plain_str.walk (Reps.map (fun c=>mI) _)) fun _ _=>trivial⟩
 | _=>cases hf
def lP (j:Int):Bool:=decide (-(2^62)<=j)&&decide (j<2^62)
def gf:List Dt->Option (List Dt)
 | [.int j]=>if lP j then some (bX 0 j.toNat) else none
 | _=>none
def gi (r:List Dt->Option (List Dt)) (f:De->Option (List Dt)):De->Option (List Dt):=fun δ=>(f δ).bind r
variable {p:Pos} {sc:Scope} {x y:Expr} {fs:De->Option (List Dt)}
def lQ {j:Int} (h:lP j=true):-(2^62)<=j/\j<2^62:=by
 unfold lP at h
 simpa using h
def pc {K:PySem.W.Frag} {F:Hp} (lo:Int) (n:Nat):Reps K F (bX lo n) (ku lo n):=Reps.map (fun _=>ij) _
def da (h:bt sc "range"=true) (hm:X.mg "range"=none) (ha:DA X [x] fs) (e1:dE X sc:=by rfl) (hs:starEach [x] X.env=[(false,eval x X.env)]:=by rfl):DIF X tg (.Call (.Name "range" p) [x] [] pos) (gi gf fs):=
 PI.mono (pb h hm ha.pa e1 hs) fun σ H R ⟨Φ,δ,F,ds,hK,en,hf,k⟩=>by
  unfold gi at hf
  obtain ⟨as,hd,hf⟩:=bS hf
  refine ⟨Φ,δ,F,as,hK,en,hd,fun vs H' F' st r=>?_⟩
  unfold gf at hf
  split at hf
  · rename_i j
    split at hf
    · rename_i hj
      cases hf
      simp only [Reps,Rep] at r
      obtain ⟨v,ws,rfl,rfl,rfl⟩:=r
      exact ⟨j,rfl,(lQ hj).1,(lQ hj).2,k _ _ H' F' st (plain_range.walk (pc _ _)) fun _ _=>trivial⟩
    · cases hf
  · cases hf
end
def dC (src:List (Option Nat)) (δ:De):De:=src.map fun o=>o.bind fun j=>(δ[j]?).join
noncomputable def eG (bb:Dt->De->Option De) (ft:De->Option Bool) (fe:De->Option Dt) (δ:De):List Dt->Option (List Dt)
 | []=>some []
 | d::r=>(bb d δ).bind fun δ1=>(ft δ1).bind fun b=>if b then (fe δ1).bind fun y=>(eG bb ft fe δ r).bind fun ys=>some (y::ys) else eG bb ft fe δ r
noncomputable def cN (src:List (Option Nat)) (fi:De->Option (List Dt)) (bb:Dt->De->Option De) (ft:De->Option Bool) (fe:De->Option Dt):De->Option T:=fun δ =>
 (fi δ).bind fun ds=>(eG bb ft fe (dC src δ) ds).bind fun ys=>if ys.length<=sizeLine then some (.lst ys) else none
def bH:De->Option Bool:=fun _=>some true
def DTs (X:Cx) (ifs:List Expr) (f:De->Option Bool):Prop:=PTs X ifs (tTr X.K f)
def dw {X:Cx}:DTs X [] bH:=fun pins s σ H Q I h=>vt pins s σ H Q I (by
 obtain ⟨Φ,δ,F,b,hK,en,hf,k⟩:=h
 cases hf
 exact k H F (Step.refl en.fh))
section
variable {X:Cx} {elt tg iter:Expr} {ifs:List Expr} {scope:Scope} {pos:Pos} {M:List Str} {src:List (Option Nat)} {fi:De->Option (List Dt)} {ft:De->Option Bool} {fe:De->Option Dt}
def vF (S:CmpScope X.N X.env.scope scope M src) {k l j:Nat} (hk:src[k]?=some (some j)) (hl:src[l]?=some (some j)):k=l:=by
 have nm:∀ k,src[k]?=some (some j)->∃ x,M[k]?=some x/\X.N[j]?=some x:=fun k h=>by
  have hlt:k<M.length:=by rw [S.len];exact (gX h).1
  have hm:M[k]?=some M[k]:=by simp [hlt]
  have hz:(M.zip src)[k]?=some (M[k],some j):=by rw [List.getElem?_zip_eq_some];exact ⟨hm,h⟩
  exact ⟨_,hm,(S.src _ (List.mem_of_getElem? hz) j rfl).1⟩
 obtain ⟨x,h1,h2⟩:=nm k hk
 obtain ⟨y,h3,h4⟩:=nm l hl
 rw [h2] at h4
 cases h4
 exact (List.getElem?_inj (gX h1).1 S.nd).mp (h1.trans h3.symm)
def tU {δ:De} {k:Nat} {t:T} (h:(dC src δ)[k]?=some (some t)):∃ j,src[k]?=some (some j)/\δ[j]?=some (some t):=by
 unfold dC at h
 rw [List.getElem?_map] at h
 cases e:src[k]? with
 | none=>rw [e] at h;cases h
 | some o =>
  rw [e] at h
  cases o with
  | none=>cases h
  | some j =>
   simp only [Option.map_some,Option.bind_some,Option.some.injEq] at h
   refine ⟨j,rfl,?_⟩
   cases q:δ[j]? with
   | none=>rw [q] at h;cases h
   | some u=>rw [q] at h;simp only [Option.join_some] at h;rw [h]
def qC {σ:St} {k j:Nat} {v:V} (h1:src[k]?=some (some j)) (h2:σ[j]?=some (some v)):(stC src σ)[k]?=some (some v):=by
 unfold stC
 rw [List.getElem?_map,h1]
 simp [h2]
def pd {σ:St} {k:Nat} {v:V} (h:(stC src σ)[k]?=some (some v)):∃ j,src[k]?=some (some j)/\σ[j]?=some (some v):=by
 unfold stC at h
 rw [List.getElem?_map] at h
 cases e:src[k]? with
 | none=>rw [e] at h;cases h
 | some o =>
  rw [e] at h
  cases o with
  | none=>cases h
  | some j =>
   simp only [Option.map_some,Option.bind_some,Option.some.injEq] at h
   refine ⟨j,rfl,?_⟩
   cases q:σ[j]? with
   | none=>rw [q] at h;cases h
   | some u=>rw [q] at h;simp only [Option.join_some] at h;rw [h]
def En.comp {Φ:Fm} {δ:De} {σ:St} {F H:Hp} (S:CmpScope X.N X.env.scope scope M src) (en:En Φ δ σ F H):En Φ (dC src δ) (stC src σ) F H:=by
 refine ⟨en.fh,en.prot,en.old,en.nw,by simp [dC,stC],fun k t h=>?_,?_⟩
 · obtain ⟨j,h1,h2⟩:=tU h
   obtain ⟨v,hv⟩:=en.has j t h2
   exact ⟨v,qC h1 hv⟩
 · obtain ⟨Z,s⟩:=en.sep
   refine ⟨fun k b=>∃ j,src[k]?=some (some j)/\Z j b,fun k t v h=>?_,fun k b ⟨j,_,z⟩=>s.out j b z,fun k l b ⟨j,h1,z⟩ ⟨j',h2,z'⟩=>?_⟩
   · obtain ⟨h1,h2⟩:=gU h
     obtain ⟨j,e1,e2⟩:=tU h1
     obtain ⟨j',e3,e4⟩:=pd h2
     rw [e1] at e3
     cases e3
     exact (s.own j t v (fE e2 e4)).grow fun b z=>⟨j,e1,z⟩
   · have:=s.dis _ _ b z z'
     subst this
     exact vF S h1 h2
def lR {n:Nat} {g:TG} {tt:TT} {te:TE} {σ:St} {J:It} {H1:Hp} {Q:VK} {D:Addr} (Pv:Nat->Hp->Prop) (h0:Pv 0 (upd H1 D (.lst []))) (hgo:∀ i H,Pv i H->(i<n->J.go i H)/\(i=n->J.stop i H))
  (hs:∀ i x H H',i<n->Pv i H->J.yld i H x H'->g x (stC src σ) H' fun σ2 H2=>Wk (stC src σ) σ2/\tt σ2 H2 fun b H3=>if b=true then te σ2 H3 fun v H4=>∃ ys,H4 D=some (.lst ys)/\ys.length<sizeLine/\Pv (i+1) (upd H4 D (.lst (ys++[v]))) else Pv (i+1) H3)
  (hd:∀ H,Pv n H->Q (.ref D) H):xg src g tt te σ J H1 Q D:=by
 refine ⟨fun i m H=>m=n-i/\i<=n/\Pv i H,⟨n,by simp,Nat.zero_le _,h0⟩,?_⟩
 rintro i m H ⟨rfl,hi,p⟩
 obtain ⟨p1,p2⟩:=hgo i H p
 by_cases hlt:i<n
 · exact .inr ⟨p1 hlt,Pv (i+1),fun H' p'=>⟨n-(i+1),by omega,rfl,hlt,p'⟩,fun x H' y=>hs i x H H' hlt p y⟩
 · have e:i=n:=by omega
   subst e
   exact .inl ⟨p2 rfl,hd H p⟩
def qD {ts:List Nat} {bb:Dt->De->Option De} (S:CmpScope X.N X.env.scope scope M src) (hts:(ts.all fun k=>decide (src[k]?=some none))=true):∀ (σ:St) (H:Hp) (Q:VK),tO X.K (cN src fi bb ft fe) σ H Q->lL src (tIB X.K fi) (gD X.K ts bb) (tTr X.K ft) (tL X.K fe) σ H Q:=fun σ H Q ⟨Φ,δ,F,t,hK,en,hf,k⟩=>by
 unfold cN at hf
 obtain ⟨ds,hd,hf⟩:=bS hf
 obtain ⟨all,ha,hf⟩:=bS hf
 split at hf
 case isFalse=>cases hf
 rename_i hz
 cases hf
 rw [nQ]
 refine ⟨Φ,δ,F,ds,hK,en,hd,fun J ok H1 F1 st1 wd ho D hD=>?_⟩
 have en1:=en.step st1
 have k1:=k.step st1
 have wk:∀ {σ2:St},σ2.length=(stC src σ).length->(∀ j,j∉ts->σ2[j]?=(stC src σ)[j]?)->Wk (stC src σ) σ2:=fun {σ2} h1 h2=>by
  refine ⟨h1.symm,fun j v hj=>?_⟩
  by_cases hm:j∈ts
  · have:=List.all_eq_true.mp hts j hm
    have hn:src[j]?=some none:=of_decide_eq_true this
    obtain ⟨i,e,_⟩:=pd hj
    rw [hn] at e
    cases e
  · rw [h2 j hm]
    exact hj
 have ok':∀ {F H:Hp},Step F1 H1 F H->ok H:=fun st=>ho _ st.hh
 refine lR (n:=ds.length) (fun i H=>∃ F ys done rest',Step F1 H1 F H/\H D=some (.lst ys)/\F D=none/\Reps X.K F done ys/\eG bb ft fe (dC src δ) (ds.drop i)=some rest'/\done++rest'=all) ?_ ?_ ?_ ?_
 · exact ⟨F1,[],[],all,Step.made st1.fh hD,aY,st1.fh.free hD,by simp [Reps],by simpa using ha,rfl⟩
 · rintro i H' ⟨F',ys,done,rest',st,_⟩
   obtain ⟨p1,p2,_⟩:=wd i H' F' (ok' st) st.fh st.ff
   exact ⟨p1,p2⟩
 · rintro i x H0' H' hi ⟨F0',ys,done,rest',st0,hD0,hFD0,rys0,hgo,hall⟩ hy0
   obtain ⟨_,_,p3⟩:=wd i H0' F0' (ok' st0) st0.fh st0.ff
   obtain ⟨d,F',hd',stw,rd⟩:=p3 x H' hi hy0
   have st:=st0.trans stw
   have hD':H' D=some (.lst ys):=stw.hh _ _ hD0
   have hFD:F' D=none:=by
    cases q:F' D with
    | none=>rfl
    | some o =>
     rcases stw.nw D o q with z | z
     · rw [hFD0] at z;cases z
     · rw [hD0] at z;cases z
   have rys:=rys0.same stw.ff
   rw [j7 hd'] at hgo
   unfold eG at hgo
   obtain ⟨δ1,h1,hgo⟩:=bS hgo
   obtain ⟨b,h2,hgo⟩:=bS hgo
   refine ⟨Φ,dC src δ,F',d,δ1,hK,(en1.step st).comp S,rd,h1,fun σ2 l2 k2 en2=>⟨wk l2 k2,Φ,δ1,F',b,hK,en2,h2,fun H3 F3 st3=>?_⟩⟩
   have hD3:H3 D=some (.lst ys):=st3.hh _ _ hD'
   have hF3:F3 D=none:=by
    cases q:F3 D with
    | none=>rfl
    | some o =>
     rcases st3.nw D o q with z | z
     · rw [hFD] at z;cases z
     · rw [hD'] at z;cases z
   dsimp only
   split at hgo
   · rename_i q
     rw [if_pos q]
     obtain ⟨y,hy,hgo⟩:=bS hgo
     obtain ⟨zs,hzs,hgo⟩:=bS hgo
     cases hgo
     refine ⟨Φ,δ1,F3,y,hK,en2.step st3,hy,fun v H4 F4 st4 rv=>?_⟩
     have hD4:H4 D=some (.lst ys):=st4.hh _ _ hD3
     have hF4:F4 D=none:=by
      cases q:F4 D with
      | none=>rfl
      | some o =>
       rcases st4.nw D o q with z | z
       · rw [hF3] at z;cases z
       · rw [hD3] at z;cases z
     have s14:=(st.trans st3).trans st4
     refine ⟨ys,hD4,?_,F4,ys++[v],done++[y],zs,?_,aY,hF4,(rys.same (st3.ff.trans st4.ff)).append (Reps.one rv),hzs,by rw [<- hall];simp⟩
     · have e1:=rys.length
       have e2:all.length=done.length+(zs.length+1):=by rw [<- hall];simp
       omega
     · refine ⟨fun c o e=>?_,s14.ff,fun c o e=>?_,s14.nw⟩
       · rw [bc (cg e hD)]
         exact s14.hh _ _ e
       · rw [bc (cg e hF4)]
         exact s14.fh _ _ e
   · rename_i q
     rw [if_neg q]
     exact ⟨F3,ys,done,rest',st.trans st3,hD3,hF3,rys.same st3.ff,hgo,hall⟩
 · rintro H' ⟨F',ys,done,rest',st,hD',hFD,rys,hgo,hall⟩
   rw [List.drop_length] at hgo
   cases hgo
   rw [List.append_nil] at hall
   subst hall
   exact k1 (.ref D) H' F' (fun b=>b=D) st ⟨D,ys,rfl,rfl,hD',rys⟩ fun b z=>by
    subst z
    exact ⟨hFD,hD,_,hD'⟩
def gu {ts:List Nat} {bb:Dt->De->Option De} (S:CmpScope X.N X.env.scope scope M src) (hc:X.calm=true) (hi:DIB X tg iter fi) (hg:M.Nodup->∀ C s H ex,DG (cxC X M scope C s H ex) tg ts bb)
  (ht:∀ C s H ex,DTs (cxC X M scope C s H ex) ifs ft) (he:∀ C s H ex,DL (cxC X M scope C s H ex) elt fe) (hts:(ts.all fun k=>decide (src[k]?=some none))=true) (hs:∀ x,foldedSetIterable iter X.env x=pure x:=by intro _;rfl) :
  DO X (.ListComp elt [⟨tg,iter,ifs,0⟩] scope pos) (cN src fi bb ft fe):=PE.mono (nP (g:=gD X.K ts bb) (tt:=tTr X.K ft) (te:=tL X.K fe) S hc hi (fun nd C s H ex=>hg nd C s H ex) (fun C s H ex=>ht C s H ex) (fun C s H ex=>he C s H ex) hs) (qD S hts)
end
def gY (m:Nat) (g:De->Option Out):List Dt->Option T:=fun ds=>match g (ds.map (fun d=>some (T.leaf d))++List.replicate (m-ds.length) none) with
 | some (.rt t)=>some t
 | some (.nx _)=>some (.leaf .non)
 | _=>none
def nU {K:PySem.W.Frag} {F H:Hp} {ds:List Dt} {vs:List V} {N:List Str} (fh:Same F H) (r:Reps K F ds vs) :
  En ⟨K,F,H,fun _=>False⟩ (ds.map (fun d=>some (T.leaf d))++List.replicate (N.length-ds.length) none) (eX N vs) F H:=by
 have hl:=r.length
 have key:∀ (i:Nat) (t:T),(ds.map (fun d=>some (T.leaf d))++List.replicate (N.length-ds.length) none)[i]?=some (some t)->∃ d v,t=T.leaf d/\vs[i]?=some v/\Rep K F d v/\(eX N vs)[i]?=some (some v):=fun i t h=>by
  by_cases hi:i<ds.length
  · rw [List.getElem?_append_left (by simpa using hi),List.getElem?_map] at h
    have hd:ds[i]?=some ds[i]:=by simp [hi]
    rw [hd] at h
    cases h
    obtain ⟨v,hv,rv⟩:=r.get hd
    refine ⟨_,v,rfl,hv,rv,?_⟩
    unfold eX
    rw [List.getElem?_append_left (by simp;omega),List.getElem?_map,hv]
    rfl
  · rw [List.getElem?_append_right (by simpa using hi)] at h
    rw [List.getElem?_replicate] at h
    split at h<;>cases h
 refine ⟨fh,fun b o h _=>h,Same.refl _,fun b o h=>.inl h,by simp [eX,hl],fun i t h=>?_,fun _ _=>False,fun i t v h=>?_,fun _ _ z=>z.elim,fun _ _ _ z=>z.elim⟩
 · obtain ⟨d,v,_,_,_,e⟩:=key i t h
   exact ⟨v,e⟩
 · obtain ⟨h1,h2⟩:=gU h
   obtain ⟨d,w,rfl,_,rv,e⟩:=key i t h1
   rw [h2] at e
   cases e
   exact rv
section
variable {P:Program} {w:World} {K:PySem.W.Frag} {mg:Str->Option Value} {base:Heap}
def Rt.step {F H:Hp} {t:T} {v:V} {F' H':Hp} (h:Rt ⟨K,F,H,fun _=>False⟩ t v F' H') {Q:VK} (k:KO K F H t Q):Q v H':=by
 obtain ⟨fh,prot,old,nw,S,o,hs⟩:=h
 refine k v H' F' S ⟨fun b u e=>prot b u e id,old,fh,fun b u e=>(nw b u e).elim .inl fun z=>z.elim .inr False.elim⟩ o fun b z=>?_
 obtain ⟨h1,h2,h3⟩:=hs b z
 exact ⟨h1,h3.elim id False.elim,h2⟩
def fT {x:Str} {st:Stmt} {N ps:List Str} {k n:Nat} {g:De->Option Out} (D:DefF K mg x st ps) (S:FnScope N ps (ab st)) (hn:ps.length=n)
  (hbody:∀ (f:Addr) (cdv:Value) (A:Around) (outer:List Env) (s:Shared) (H:Hp) (E:XK),Room k (A.deeper (envOfC x (ab st) s.heap.objs.size f cdv))->DS (jY CX0 P w K mg base N x (ab st) f cdv A outer s H E).nox (aO st) g) :
  OkF P w K mg base x (k+1) ps (spD K n (gY N.length g)):=by
 refine D.ok S (fun vs H Q E h=>?_) (fun f cdv A outer s H vs Q E hr h=>?_)
 · obtain ⟨F,ds,t,_,hl,r,_⟩:=h
   rw [r.length,hl,hn]
 · obtain ⟨F,ds,t,fh,hl,r,hf,kq⟩:=h
   refine ⟨_,hbody f cdv A outer s H E hr,?_⟩
   unfold gY at hf
   split at hf
   · rename_i t' q
     cases hf
     exact ⟨⟨K,F,H,fun _=>False⟩,_,F,_,rfl,nU fh r,q,fun v F' H' z=>z.step kq⟩
   · rename_i δ' q
     cases hf
     exact ⟨⟨K,F,H,fun _=>False⟩,_,F,_,rfl,nU fh r,q,fun σ' F' H' z=>(z.rt (Step.refl z.fh) (t:=.leaf .non) (S:=fun _=>False) (mJ (K:=K) (F:=F')) fun _ y=>y.elim).step kq⟩
   · cases hf
end
section
variable {K:PySem.W.Frag} {F H:Hp} {Q:VK}
def KO.int {i:Int} (k:KO K F H (.leaf (.int i)) Q) (fh:Same F H):Q (.int i) H:=k.leaf.here fh ij
def KO.bl {i:Bool} (k:KO K F H (.leaf (.bl i)) Q) (fh:Same F H):Q (.bl i) H:=k.leaf.here fh kE
def KO.str {i:Str} (k:KO K F H (.leaf (.str i)) Q) (fh:Same F H):Q (.str i) H:=k.leaf.here fh mI
def KO.tup {l:List Dt} {vs:List V} {p:Addr} (k:KO K F H (.leaf (.tup l)) Q) (fh:Same F H) (r:Reps K F l vs) (hp:H p=none):Q (.ref p) (upd H p (.tup vs)):=by
 refine k.leaf _ _ _ (Step.new fh hp) ?_
 simp only [Rep]
 exact ⟨p,vs,rfl,SqT.of aY,r.same (Same.upd (fh.free hp))⟩
end
def jO (i j:Int):Bool:=(decide (-(2^64)<i)&&decide (i<2^64))||(decide (-(2^64)<j)&&decide (j<2^64))
def vG {i j:Int} (h:jO i j=true):CMul i j:=by
 unfold jO at h
 simp only [Bool.or_eq_true,Bool.and_eq_true,decide_eq_true_eq] at h
 exact h
def vH {i j:Int} (h1:-1000000000000000000<i) (h2:i<1000000000000000000):jO i j=true:=by
 unfold jO
 simp only [Bool.or_eq_true,Bool.and_eq_true,decide_eq_true_eq]
 left
 omega
def vI {i j:Int} (h1:-1000000000000000000<j) (h2:j<1000000000000000000):jO i j=true:=by
 unfold jO
 simp only [Bool.or_eq_true,Bool.and_eq_true,decide_eq_true_eq]
 right
 omega
def kF (i j:Int):Bool:=decide (0<=j)&&decide (j<=1000000)&&decide (i.natAbs<2^64)
def vJ {i j:Int} (h:kF i j=true):x9 i j:=by
 unfold kF at h
 simp only [Bool.and_eq_true,decide_eq_true_eq] at h
 exact ⟨h.1.1,h.1.2,h.2⟩
def nV (j:Int):Bool:=decide (0<j)&&decide (j<1073741824)
def vK {i j:Int} (h:nV j=true):xZ i j:=by
 unfold nV at h
 simp only [Bool.and_eq_true,decide_eq_true_eq] at h
 exact h
noncomputable def bY:Dt->Dt->Option T
 | .int i,.int j=>some (.leaf (.int (i+j)))
 | .str a,.str b=>if a.length+b.length<=sizeLine then some (.leaf (.str (a++b))) else none
 | .lst l,.lst m=>if l.length+m.length<=sizeLine then some (.lst (l++m)) else none
 | .tup l,.tup m=>if l.length+m.length<=sizeLine/\l≠[]/\m≠[] then some (.leaf (.tup (l++m))) else none
 | _,_=>none
def gA:Dt->Dt->Option T
 | .int i,.int j=>some (.leaf (.int (i-j)))
 | _,_=>none
def fQ:Dt->Dt->Option T
 | .int i,.int j=>if jO i j then some (.leaf (.int (i*j))) else none
 | _,_=>none
def iu:Dt->Dt->Option T
 | .int i,.int j=>if nV j then some (.leaf (.int (i/j))) else none
 | _,_=>none
def bV:Dt->Dt->Option T
 | .int i,.int j=>if 0<j then some (.leaf (.int (i%j))) else none
 | _,_=>none
def ja:Dt->Dt->Option T
 | .int i,.int j=>if kF i j then some (.leaf (.int (i^j.toNat))) else none
 | _,_=>none
def mL (f:Int->Int->Int):Dt->Dt->Option T
 | .int i,.int j=>some (.leaf (.int (f i j)))
 | _,_=>none
def j0 (f:Int->Int->Bool):Dt->Dt->Option T
 | .int i,.int j=>some (.leaf (.bl (f i j)))
 | _,_=>none
section
variable {X:Cx}
def vM:OpR X (binaryOp .Add) (fun x y H Q=>∃ l b xs zs,x=.ref l/\y=.ref b/\SqL X.K H l xs/\SqL X.K H b zs/\xs.length+zs.length<=sizeLine/\∀ p,H p=none->Q (.ref p) (upd H p (.lst (xs++zs)))):=by
 intro pins s σ H x y v u Q I rx ry h
 obtain ⟨l,b,xs,zs,rfl,rfl,hH,hB,hz,q⟩:=h
 cases rx
 cases ry
 obtain ⟨its,r,pl,_⟩:=I.list hH
 obtain ⟨its2,r2,pl2,_⟩:=I.list hB
 obtain ⟨⟨cls,dd,data,sl⟩,n,ho,hc,hd0,hd⟩:=pl
 obtain ⟨⟨cls2,dd2,data2,sl2⟩,n2,ho2,hc2,hd02,hd2⟩:=pl2
 simp only at hc hd hc2 hd2
 subst hc hd hc2 hd2
 have e:its.toArray++its2.toArray=(its++its2).toArray:=by simp
 refine concat_meets ⟨_,ho,rfl⟩ ⟨_,ho2,rfl⟩ noFill_list_add seq_list_add PySem.F.slot_list_add PySem.F.entry_list_add (PySem.F.args_list_add_2 _ _) (list_addW l b its.toArray its2.toArray n n2 dd dd2 sl sl2 (by rw [List.size_toArray,List.size_toArray,<- r.length,<- r2.length];exact hz)) ⟨ho,ho2,?_⟩
 rw [e]
 exact ⟨.ref _,_,I.lnew (t':=s.toks) (r.append r2) (by rw [List.length_append];exact hz),rfl,q _ I.fresh⟩
noncomputable abbrev qE (K:PySem.W.Frag):R2:=fun x y H Q=>(rI0 (fun i j=>.int (i+j)) x y H Q)∨(∃ i j,x=.str i/\y=.str j/\i.length+j.length<=sizeLine/\Q (.str (i++j)) H)∨
 (∃ l b xs zs,x=.ref l/\y=.ref b/\SqL K H l xs/\SqL K H b zs/\xs.length+zs.length<=sizeLine/\∀ p,H p=none->Q (.ref p) (upd H p (.lst (xs++zs))))∨w6 K x y H Q
def br:OpR X (binaryOp .Add) (qE X.K):=OpR.or ya (OpR.or oU (OpR.or vM vg))
def b6 {K:PySem.W.Frag}:R2D K (qE K) bY:=by
 intro F H x y vx vy Q t fh rx ry hg k
 unfold bY at hg
 split at hg<;>first | (cases hg;done) | skip
 · cases hg;cases rx;cases ry;exact .inl ⟨_,_,rfl,rfl,k.int fh⟩
 · split at hg
   · cases hg;cases rx;cases ry;exact .inr (.inl ⟨_,_,rfl,rfl,by assumption,k.str fh⟩)
   · cases hg
 · split at hg
   · rename_i hl
     cases hg
     obtain ⟨a,vs,rfl,h1,h2⟩:=rx
     obtain ⟨b,ws,rfl,h3,h4⟩:=ry
     exact .inr (.inr (.inl ⟨a,b,vs,ws,rfl,rfl,h1,h3,by rw [h2.length,h4.length];exact hl,fun p hp=>i9 k fh (h2.append h4) hp⟩))
   · cases hg
 · split at hg
   · rename_i hl
     cases hg
     obtain ⟨a,vs,rfl,h1,h2⟩:=rx
     obtain ⟨b,ws,rfl,h3,h4⟩:=ry
     obtain ⟨hl,n1,n2⟩:=hl
     refine .inr (.inr (.inr ⟨a,b,vs,ws,rfl,rfl,fh.tup h1,fh.tup h3,fun z=>?_,by rw [h2.length,h4.length];exact hl,fun z=>?_,fun _ p hp=>k.tup fh (h2.append h4) hp⟩))
     · subst z
       have:=h2.length
       exact n1 (List.eq_nil_of_length_eq_zero this.symm)
     · subst z
       have:=h4.length
       exact absurd (List.eq_nil_of_length_eq_zero this.symm) n2
   · cases hg
def jw {K:PySem.W.Frag} {f:Int->Int->Int}:R2D K (rI0 fun i j=>.int (f i j)) (mL f):=by
 intro F H x y vx vy Q t fh rx ry hg k
 unfold mL at hg
 split at hg<;>first | (cases hg;done) | skip
 cases hg;cases rx;cases ry;exact ⟨_,_,rfl,rfl,k.int fh⟩
def jP {K:PySem.W.Frag}:R2D K (rI0 fun i j=>.int (i-j)) gA:=by
 intro F H x y vx vy Q t fh rx ry hg k
 unfold gA at hg
 split at hg<;>first | (cases hg;done) | skip
 cases hg;cases rx;cases ry;exact ⟨_,_,rfl,rfl,k.int fh⟩
def gZ {K:PySem.W.Frag}:R2D K (rI CMul fun i j=>.int (i*j)) fQ:=by
 intro F H x y vx vy Q t fh rx ry hg k
 unfold fQ at hg
 split at hg<;>first | (cases hg;done) | skip
 split at hg
 · cases hg;cases rx;cases ry;exact ⟨_,_,rfl,rfl,vG (by assumption),k.int fh⟩
 · cases hg
def gB {K:PySem.W.Frag}:R2D K (rI xZ fun i j=>.int (i/j)) iu:=by
 intro F H x y vx vy Q t fh rx ry hg k
 unfold iu at hg
 split at hg<;>first | (cases hg;done) | skip
 split at hg
 · cases hg;cases rx;cases ry;exact ⟨_,_,rfl,rfl,vK (by assumption),k.int fh⟩
 · cases hg
def bL {K:PySem.W.Frag}:R2D K (rI (fun _ j=>0<j) fun i j=>.int (i%j)) bV:=by
 intro F H x y vx vy Q t fh rx ry hg k
 unfold bV at hg
 split at hg<;>first | (cases hg;done) | skip
 split at hg
 · cases hg;cases rx;cases ry;exact ⟨_,_,rfl,rfl,by assumption,k.int fh⟩
 · cases hg
def nW {K:PySem.W.Frag}:R2D K (rI x9 fun i j=>.int (i^j.toNat)) ja:=by
 intro F H x y vx vy Q t fh rx ry hg k
 unfold ja at hg
 split at hg<;>first | (cases hg;done) | skip
 split at hg
 · cases hg;cases rx;cases ry;exact ⟨_,_,rfl,rfl,vJ (by assumption),k.int fh⟩
 · cases hg
def jQ {K:PySem.W.Frag} {f:Int->Int->Bool}:R2D K (rI0 fun i j=>.bl (f i j)) (j0 f):=by
 intro F H x y vx vy Q t fh rx ry hg k
 unfold j0 at hg
 split at hg<;>first | (cases hg;done) | skip
 cases hg;cases rx;cases ry;exact ⟨_,_,rfl,rfl,k.bl fh⟩
noncomputable def eqD:Dt->Dt->Option Bool
 | .non,.non=>some true
 | .non,.int _=>some false
 | .non,.bl _=>some false
 | .non,.str _=>some false
 | .int _,.non=>some false
 | .bl _,.non=>some false
 | .str _,.non=>some false
 | .int i,.int j=>some (decide (i=j))
 | .bl i,.bl j=>some (decide (i=j))
 | .str i,.str j=>some (decide (i=j))
 | .int _,.str _=>some false
 | .str _,.int _=>some false
 | .bl _,.str _=>some false
 | .str _,.bl _=>some false
 | .tup l,.tup m=>if cmpbs l m&&decide (deeps l<=59) then some (peqs l m) else none
 | .lst l,.lst m=>if cmpbs l m&&decide (deeps l<=59) then some (peqs l m) else none
 | _,_=>none
def gEq (neg:Bool) (x y:Dt):Option T:=(eqD x y).map fun b=>.leaf (.bl (if neg then !b else b))
abbrev rEqA (K:PySem.W.Frag):R2:=fun x y H Q=>rEq x y H Q∨vz K false x y H Q
abbrev rNeA (K:PySem.W.Frag):R2:=fun x y H Q=>rNe x y H Q∨vz K true x y H Q
def bq {k:Nat} (hr:Room k X.A):OpR X (compareOp .Eq) (rEqA X.K):=OpR.or Ae (yy hr rfl)
def di {k:Nat} (hr:Room k X.A):OpR X (compareOp .NotEq) (rNeA X.K):=OpR.or Af (yz hr rfl)
def tV {K:PySem.W.Frag} {F H:Hp} {x y:Dt} {vx vy:V} {b:Bool} (fh:Same F H) (rx:RepB K F H x vx) (ry:RepB K F H y vy) (h:eqD x y=some b) :
  (yd vx vy=true/\b=decide (vx=vy))∨(((∃ l m,x=.tup l/\y=.tup m)∨∃ l m,x=.lst l/\y=.lst m)/\fP x y=true/\i6 x<=60/\b=peq x y):=by
 unfold eqD at h
 split at h<;>first
  | (cases h;done)
  | (cases h;cases rx;cases ry;left;refine ⟨rfl,?_⟩;simp;done)
  | skip
 · right
   split at h
   · rename_i q
     simp only [Bool.and_eq_true,decide_eq_true_eq] at q
     cases h
     exact ⟨.inl ⟨_,_,rfl,rfl⟩,by simp only [fP];exact q.1,by simp only [i6];omega,by simp only [peq]⟩
   · cases h
 · right
   split at h
   · rename_i q
     simp only [Bool.and_eq_true,decide_eq_true_eq] at q
     cases h
     exact ⟨.inr ⟨_,_,rfl,rfl⟩,by simp only [fP];exact q.1,by simp only [i6];omega,by simp only [peq]⟩
   · cases h
def cr {K:PySem.W.Frag}:R2D K (rEqA K) (gEq false):=by
 intro F H x y vx vy Q t fh rx ry hg k
 unfold gEq at hg
 obtain ⟨b,hb,hg⟩:=mS hg
 cases hg
 have kk:Q (.bl b) H:=k.bl fh
 rcases tV fh rx ry hb with ⟨h1,rfl⟩ | ⟨h1,h2,h3,rfl⟩
 · exact .inl ⟨h1,kk⟩
 · exact .inr ⟨x,y,h1,rx.rep fh,ry.rep fh,h2,h3,kk⟩
def iw {K:PySem.W.Frag}:R2D K (rNeA K) (gEq true):=by
 intro F H x y vx vy Q t fh rx ry hg k
 unfold gEq at hg
 obtain ⟨b,hb,hg⟩:=mS hg
 cases hg
 have kk:Q (.bl (!b)) H:=k.bl fh
 rcases tV fh rx ry hb with ⟨h1,rfl⟩ | ⟨h1,h2,h3,rfl⟩
 · exact .inl ⟨h1,kk⟩
 · exact .inr ⟨x,y,h1,rx.rep fh,ry.rep fh,h2,h3,kk⟩
def tW:Dt->Bool
 | .non=>true
 | _=>false
def gIs (neg:Bool) (x y:Dt):Option T:=match y with
 | .non=>some (.leaf (.bl (if neg then !tW x else tW x)))
 | _=>none
def nX {K:PySem.W.Frag} {F H:Hp} {x:Dt} {v:V} (r:RepB K F H x v):tW x=decide (v=.non):=by
 cases x<;>first
  | (cases r;rfl)
  | (obtain ⟨a,vs,rfl,_⟩:=r;rfl)
  | (simp only [RepB,Rep] at r;obtain ⟨a,C,dx,fs,rfl,_⟩:=r;rfl)
def r_is {K:PySem.W.Frag}:R2D K (fun x y H Q=>y=.non/\Q (.bl (decide (x=.non))) H) (gIs false):=by
 intro F H x y vx vy Q t fh rx ry hg k
 cases y<;>first | cases hg;done | skip
 cases hg;cases ry
 refine ⟨rfl,?_⟩
 rw [<- nX rx]
 exact k.bl fh
def qF {K:PySem.W.Frag}:R2D K (fun x y H Q=>y=.non/\Q (.bl (!decide (x=.non))) H) (gIs true):=by
 intro F H x y vx vy Q t fh rx ry hg k
 cases y<;>first | cases hg;done | skip
 cases hg;cases ry
 refine ⟨rfl,?_⟩
 rw [<- nX rx]
 exact k.bl fh
def jR:Dt->Bool
 | .non=>true
 | .bl _=>true
 | .int _=>true
 | .str _=>true
 | _=>false
def eqF:Dt->Dt->Bool
 | .non,.non=>true
 | .bl a,.bl b=>a==b
 | .bl a,.int b=>(if a then 1 else 0)==b
 | .int a,.bl b=>a==(if b then 1 else 0)
 | .int a,.int b=>a==b
 | .str a,.str b=>a==b
 | _,_=>false
def inS (j i:Str):Bool:=!(Builtin.Str.occurrences j i 0 j.length 1).isEmpty
def inD:Dt->Dt->Option Bool
 | .str i,.str j=>some (inS j i)
 | x,.lst l=>if jR x&&l.all jR then some (l.any fun y=>eqF y x) else none
 | x,.tup l=>if jR x&&l.all jR then some (l.any fun y=>eqF y x) else none
 | _,_=>none
def nY {K:PySem.W.Frag} {F:Hp} {l:List Dt} {vs:List V} {i:Int} {d:Dt} (r:Reps K F l vs) (h:atI l i=some d):∃ v,atI vs i=some v/\Rep K F d v:=by
 unfold atI at h ⊢
 rw [r.length]
 obtain ⟨j,hj,h⟩:=bS h
 obtain ⟨v,e,rv⟩:=r.get h
 exact ⟨v,by rw [hj];exact e,rv⟩
def gIx:Dt->Dt->Option T
 | .lst l,.int i=>(atI l i).map .leaf
 | .tup l,.int i=>(atI l i).map .leaf
 | .str x,.int i=>if x.length<=sizeLine then (atI x.cps.toList i).map fun c=>.leaf (.str ⟨#[c]⟩) else none
 | _,_=>none
def r_ix {K:PySem.W.Frag}:R2D K (rIx K) gIx:=by
 intro F H x y vx vy Q t fh rx ry hg k
 unfold gIx at hg
 split at hg<;>first | (cases hg;done) | skip
 · obtain ⟨d,hd,hg⟩:=mS hg
   cases hg;cases ry
   obtain ⟨a,vs,rfl,h1,h2⟩:=rx
   obtain ⟨v,e,rv⟩:=nY h2 hd
   exact .inl ⟨a,vs,_,v,rfl,rfl,h1,e,k.leaf.here fh rv⟩
 · obtain ⟨d,hd,hg⟩:=mS hg
   cases hg;cases ry
   obtain ⟨a,vs,rfl,h1,h2⟩:=rx
   obtain ⟨v,e,rv⟩:=nY h2 hd
   exact .inr (.inl ⟨a,vs,_,v,rfl,rfl,fh.tup h1,e,k.leaf.here fh rv⟩)
 · split at hg
   · rename_i hl
     obtain ⟨c,hc,hg⟩:=mS hg
     cases hg;cases rx;cases ry
     exact .inr (.inr ⟨_,_,c,rfl,rfl,hl,hc,k.str fh⟩)
   · cases hg
variable {a b c:Expr} {fa fb fc:De->Option Dt} {pos:Pos}
def vN (l:List Dt) (lo hi:Option Int):List Dt:=(l.drop (HT.sIx l.length 0 lo)).take (HT.sIx l.length l.length hi-HT.sIx l.length 0 lo)
noncomputable def gSl:Dt->Option Int->Option Int->Option T
 | .str x,lo,hi=>if x.length<=sizeLine then some (.leaf (.str (Txt.slice x lo hi))) else none
 | .lst l,lo,hi=>some (.lst (vN l lo hi))
 | .tup l,lo,hi=>if HT.sIx l.length 0 lo=0/\HT.sIx l.length l.length hi=l.length then none else some (.leaf (.tup (vN l lo hi)))
 | _,_,_=>none
abbrev rSlA (K:PySem.W.Frag):V->Option Int->Option Int->Hp->VK->Prop:=fun x lo hi H Q=>rSlS x lo hi H Q∨rSlL K x lo hi H Q∨rSlT K x lo hi H Q
def yJ:SlR X (rSlA X.K):=SlR.or yu (SlR.or vi yl)
def nZ {K:PySem.W.Frag} {F:Hp} {l:List Dt} {vs:List V} (r:Reps K F l vs) (lo hi:Option Int):Reps K F (vN l lo hi) (nG vs lo hi):=by
 unfold vN nG
 rw [r.length]
 exact (r.drop _).take _
def r_sl {K:PySem.W.Frag} {F H:Hp} {x:Dt} {v:V} {lo hi:Option Int} {Q:VK} {t:T} (fh:Same F H) (rx:RepB K F H x v) (hg:gSl x lo hi=some t) (k:KO K F H t Q):rSlA K v lo hi H Q:=by
 unfold gSl at hg
 split at hg<;>first | (cases hg;done) | skip
 · split at hg
   · cases hg;cases rx
     exact .inl ⟨_,rfl,by assumption,k.str fh⟩
   · cases hg
 · obtain ⟨a,vs,rfl,h1,h2⟩:=rx
   cases hg
   exact .inr (.inl ⟨a,vs,rfl,h1,fun p hp=>i9 k fh (nZ h2 _ _) hp⟩)
 · obtain ⟨a,vs,rfl,h1,h2⟩:=rx
   split at hg
   · cases hg
   · rename_i hn
     cases hg
     rw [<- h2.length] at hn
     exact .inr (.inr ⟨a,vs,rfl,fh.tup h1,hn,fun p hp=>k.tup fh (nZ h2 _ _) hp⟩)
def tOD (K:PySem.W.Frag) (f:De->Option (Option Int)):TO:=fun σ H Q=>∃ Φ δ F d,Fm.K Φ=K/\En Φ δ σ F H/\f δ=some d/\∀ H' F',Step F H F' H'->Q d H'
def jb:De->Option (Option Int):=fun _=>some none
def asI:Dt->Option Int
 | .int i=>some i
 | _=>none
def eY (f:De->Option Dt):De->Option (Option Int):=fun δ=>(f δ).bind fun d=>(asI d).map some
def n0 {K:PySem.W.Frag} {F H:Hp} {x:Dt} {v:V} {b:Int} (h:asI x=some b) (r:RepB K F H x v):v=.int b:=by
 cases x<;>first | cases h;done | skip
 cases h;exact r
def DP (X:Cx) (e:Option Expr) (f:De->Option (Option Int)):Prop:=PO X e (tOD X.K f)
def il:DP X none jb:=fun pins s σ H Q I h=>ve pins s σ H Q I (by
 obtain ⟨Φ,δ,F,d,hK,en,hf,k⟩:=h
 cases hf
 exact k H F (Step.refl en.fh))
def fU {e:Expr} {f:De->Option Dt} (h:DB X e f):DP X (some e) (eY f):=fun pins s σ H Q I q=>vf h pins s σ H Q I (by
 obtain ⟨Φ,δ,F,d,hK,en,hf,k⟩:=q
 unfold eY at hf
 obtain ⟨x,hx,hf⟩:=bS hf
 obtain ⟨i,hi,hf⟩:=mS hf
 cases hf
 exact ⟨Φ,δ,F,x,hK,en,hx,fun v H' F' st r=>⟨i,n0 hi r,k H' F' st⟩⟩)
def vSl (fa:De->Option Dt) (fl fh:De->Option (Option Int)):De->Option T:=fun δ=>(fa δ).bind fun x=>(fl δ).bind fun l=>(fh δ).bind fun h=>gSl x l h
def fH {e:Expr} {lo hi:Option Expr} {p2:Pos} {f:De->Option Dt} {fl fh:De->Option (Option Int)} (he:DB X e f) (hl:DP X lo fl) (hh:DP X hi fh):DO X (.Subscript e (.Slice lo hi none p2) pos) (vSl f fl fh):=
 PE.mono (sZ yJ he hl hh) fun σ H Q ⟨Φ,δ,F,t,hK,en,hf,k⟩=>by
  unfold vSl at hf
  obtain ⟨x,hx,hf⟩:=bS hf
  obtain ⟨l,hl,hf⟩:=bS hf
  obtain ⟨h,hh,hf⟩:=bS hf
  exact ⟨Φ,δ,F,x,hK,en,hx,fun v H1 F1 s1 r1=>⟨Φ,δ,F1,l,hK,en.step s1,hl,fun H2 F2 s2=>⟨Φ,δ,F2,h,hK,en.step (s1.trans s2),hh,fun H3 F3 s3=>r_sl s3.fh (r1.step (s2.ff.trans s3.ff) (s2.hh.trans s3.hh)) hf (k.step ((s1.trans s2).trans s3))⟩⟩⟩
def pe (f:De->Option Dt):De->Option T:=fun δ=>(f δ).bind fun d=>(asI d).map fun i=>.leaf (.int (-i))
def yK (h:DB X a fa):DO X (.UnaryOp .USub a pos) (pe fa):=PE.mono (Ad yc h) fun σ H Q ⟨Φ,δ,F,t,hK,en,hf,k⟩=>by
 unfold pe at hf
 obtain ⟨x,hx,hf⟩:=bS hf
 obtain ⟨i,hi,hf⟩:=mS hf
 cases hf
 exact ⟨Φ,δ,F,x,hK,en,hx,fun v H' F' st r=>⟨i,n0 hi r,(k.step st).int st.fh⟩⟩
def fj:List Dt->Option T
 | [.str x]=>if x.length<=sizeLine then some (.leaf (.int x.length)) else none
 | [.tup l]=>some (.leaf (.int l.length))
 | [.lst l]=>some (.leaf (.int l.length))
 | _=>none
def eU {K:PySem.W.Frag} {F H:Hp} {d:Dt} {vs:List V} (r:RepBs K F H [d] vs):∃ v,vs=[v]/\RepB K F H d v:=by
 obtain ⟨v,ws,rfl,h1,h2⟩:=r
 cases h2
 exact ⟨v,rfl,h1⟩
def gE {K:PySem.W.Frag}:CRD K (fun xs H Q=>∃ x n,xs=[x]/\LenV K x H n/\Q (.int n) H) fj:=by
 intro F H ds vs Q t fh r hg k
 unfold fj at hg
 split at hg<;>first | (cases hg;done) | skip
 · split at hg
   · rename_i hl
     cases hg
     obtain ⟨v,rfl,rv⟩:=eU r
     cases rv
     exact ⟨_,_,rfl,⟨hl,rfl⟩,k.int fh⟩
   · cases hg
 · cases hg
   obtain ⟨v,rfl,rv⟩:=eU r
   obtain ⟨a,vs,rfl,h1,h2⟩:=rv
   rw [<- h2.length] at k
   exact ⟨_,_,rfl,.inr ⟨vs,fh.tup h1,rfl⟩,k.int fh⟩
 · cases hg
   obtain ⟨v,rfl,rv⟩:=eU r
   obtain ⟨a,vs,rfl,h1,h2⟩:=rv
   rw [<- h2.length] at k
   exact ⟨_,_,rfl,.inl ⟨vs,h1,rfl⟩,k.int fh⟩
def lS:List Dt->Option (List Bool)
 | []=>some []
 | .bl b::r=>(lS r).map (b::·)
 | _=>none
def n5 {K:PySem.W.Frag} {F:Hp}:∀ {l:List Dt} {vs:List V} {bs:List Bool},Reps K F l vs->lS l=some bs->vs=bs.map V.bl
 | [],vs,bs,r,h=>by cases h;simp only [Reps] at r;exact r
 | d::l,vs,bs,r,h=>by
  cases d<;>first | cases h;done | skip
  simp only [lS] at h
  obtain ⟨cs,hc,h⟩:=mS h
  cases h
  simp only [Reps,Rep] at r
  obtain ⟨v,ws,rfl,rfl,r2⟩:=r
  rw [n5 r2 hc]
  rfl
def tX (f:List Bool->Bool):List Dt->Option T
 | [.lst l]=>(lS l).map fun bs=>.leaf (.bl (f bs))
 | _=>none
def Ax {K:PySem.W.Frag} {f:List Bool->Bool}:CRD K (fun xs H Q=>∃ (a:Addr) (bs:List Bool),xs=[.ref a]/\SqL K H a (bs.map V.bl)/\Q (.bl (f bs)) H) (tX f):=by
 intro F H ds vs Q t fh r hg k
 unfold tX at hg
 split at hg<;>first | (cases hg;done) | skip
 obtain ⟨bs,hb,hg⟩:=mS hg
 cases hg
 obtain ⟨v,rfl,rv⟩:=eU r
 obtain ⟨a,vs,rfl,h1,h2⟩:=rv
 have:=n5 h2 hb
 subst this
 exact ⟨a,bs,rfl,h1,k.bl fh⟩
def r9:List Dt->Option T
 | [.int i]=>some (.leaf (.int i))
 | [.bl b]=>some (.leaf (.int (if b then 1 else 0)))
 | [.str x]=>(PySem.intText? x).bind fun n=>if x.length<=640 then some (.leaf (.int n)) else none
 | _=>none
abbrev xk:List V->Hp->VK->Prop:=fun xs H Q=>((∃ i,xs=[.int i]/\Q (.int i) H)∨∃ k,xs=[.bl k]/\Q (.int (if k then 1 else 0)) H)∨∃ x n,xs=[.str x]/\PySem.intText? x=some n/\x.length<=640/\Q (.int n) H
def jx:CallR X (.type "int") xk:=CallR.or rL mC
def tY {K:PySem.W.Frag}:CRD K xk r9:=by
 intro F H ds vs Q t fh r hg k
 unfold r9 at hg
 split at hg<;>first | (cases hg;done) | skip
 · cases hg
   obtain ⟨v,rfl,rv⟩:=eU r
   cases rv
   exact .inl (.inl ⟨_,rfl,k.int fh⟩)
 · cases hg
   obtain ⟨v,rfl,rv⟩:=eU r
   cases rv
   exact .inl (.inr ⟨_,rfl,k.int fh⟩)
 · obtain ⟨n,hn,hg⟩:=bS hg
   split at hg
   · cases hg
     obtain ⟨v,rfl,rv⟩:=eU r
     cases rv
     exact .inr ⟨_,n,rfl,hn,by assumption,k.int fh⟩
   · cases hg
def fI:List Dt->Option T
 | [.lst l]=>some (.leaf (.tup l))
 | [.tup l]=>some (.leaf (.tup l))
 | _=>none
def mM {K:PySem.W.Frag}:CRD K (fun xs H Q=>∃ p ys,xs=[.ref p]/\((SqL K H p ys/\∀ l,H l=none->Q (.ref l) (upd H l (.tup ys)))∨(SqT K H p ys/\Q (.ref p) H))) fI:=by
 intro F H ds vs Q t fh r hg k
 unfold fI at hg
 split at hg<;>first | (cases hg;done) | skip
 · cases hg
   obtain ⟨v,rfl,rv⟩:=eU r
   obtain ⟨a,vs,rfl,h1,h2⟩:=rv
   exact ⟨a,vs,rfl,.inl ⟨h1,fun p hp=>k.tup fh h2 hp⟩⟩
 · cases hg
   obtain ⟨v,rfl,rv⟩:=eU r
   rename_i l
   have rv':Rep K F (.tup l) v:=by simp only [Rep];exact rv
   obtain ⟨a,vs,rfl,h1,h2⟩:=rv
   exact ⟨a,vs,rfl,.inr ⟨fh.tup h1,k.leaf.here fh rv'⟩⟩
def lT:List Dt->Option T
 | [.lst l]=>some (.lst l)
 | [.tup l]=>some (.lst l)
 | _=>none
def pf {K:PySem.W.Frag}:CRD K (fun xs H Q=>∃ p ys,xs=[.ref p]/\(SqL K H p ys∨SqT K H p ys)/\∀ l,H l=none->Q (.ref l) (upd H l (.lst ys))) lT:=by
 intro F H ds vs Q t fh r hg k
 unfold lT at hg
 split at hg<;>first | (cases hg;done) | skip
 · cases hg
   obtain ⟨v,rfl,rv⟩:=eU r
   obtain ⟨a,vs,rfl,h1,h2⟩:=rv
   exact ⟨a,vs,rfl,.inl h1,fun p hp=>i9 k fh h2 hp⟩
 · cases hg
   obtain ⟨v,rfl,rv⟩:=eU r
   obtain ⟨a,vs,rfl,h1,h2⟩:=rv
   exact ⟨a,vs,rfl,.inr (fh.tup h1),fun p hp=>i9 k fh h2 hp⟩
end
section
variable {X:Cx} {o a b e c:Expr} {es:List Expr} {fa fb fo fe:De->Option Dt} {fs:De->Option (List Dt)} {pos apos cpos p:Pos} {x:Str} {sc:Scope} {i:Nat}
def tZ (K:PySem.W.Frag) (mg:Str->Option Value) (x:Str) (d:Dt):Prop:=∃ v,(∃ u,mg x=some u/\RelV v u)/\∀ F,Rep K F d v
def vO {d:Dt} (h:bt sc x=true) (hm:tZ X.K X.mg x d) (e1:dE X sc:=by rfl):DL X (.Name x pos) (kD d):=by
 obtain ⟨v,h1,h2⟩:=hm
 exact tP (tK h h1 e1) h2
def t4 {K:PySem.W.Frag} {mg:Str->Option Value} {i:Int} (h:∃ u,mg x=some u/\RelV (.int i) u):tZ K mg x (.int i):=⟨_,h,fun _=>ij⟩
def n6:Dt->Bool
 | .ins _ _ _=>true
 | _=>false
def tyD:Dt->String
 | .ins _ _ _=>"object"
 | .non=>"NoneType"
 | .bl _=>"bool"
 | .int _=>"int"
 | .str _=>"str"
 | .tup _=>"tuple"
 | .lst _=>"list"
 | .dct _ _=>"dict"
 | .dcT _ _=>"dict"
noncomputable def xl (c:String):Dt->Bool
 | .ins _ _ _=>false
 | .non=>c=="NoneType"
 | .bl _=>c=="bool"||c=="int"
 | .int _=>c=="int"
 | .str _=>c=="str"
 | .tup _=>c=="tuple"
 | .lst _=>c=="list"
 | .dct _ _=>c=="dict"
 | .dcT _ _=>c=="dict"
def ph {pins:List (Addr×Obj)} {σ:St} {H:Hp} {s:Shared} {A:Around} {E:Value->Shared->Prop} {Q:Value->Shared->Prop} {c:Value} {b:Bool} {v:V} {u:Value} {d:Dt} (I:Inv X pins σ H s) (rx:RelV v u) (r:Rep X.K H d v) (hi:n6 d=false) (e:PySem.W.kitOne X.K (.type (tyD d)) c=some b) (h:∀ tk,Q (.bool b) {s with toks:=tk}) :
  wpAny (model X.prog X.w) A (call (.builtin "isinstance") [u,c]) Q E s:=by
 cases d with
 | non=>simp only [Rep] at r;subst r;exact ig I rx .non e h
 | bl y=>simp only [Rep] at r;subst r;exact ig I rx (.bl y) e h
 | int y=>simp only [Rep] at r;subst r;exact ig I rx (.int y) e h
 | str y=>simp only [Rep] at r;subst r;exact ig I rx (.str y) e h
 | tup l =>
  simp only [Rep] at r
  obtain ⟨a,vs,rfl,h1,h2⟩:=r
  cases rx
  obtain ⟨its,_,pl,_⟩:=I.tuple h1
  obtain ⟨o,e1,e2,_⟩:=pl
  exact PySem.W.kia_one PySem.W.kitx_tuple I.kIn ⟨o,e1,e2⟩ e (fun z=>nomatch z) h
 | lst l =>
  simp only [Rep] at r
  obtain ⟨a,vs,rfl,h1,h2⟩:=r
  cases rx
  obtain ⟨its,_,pl,_⟩:=I.list h1
  obtain ⟨o,n,e1,e2,_⟩:=pl
  exact PySem.W.kia_one PySem.W.kitx_list I.kIn ⟨o,e1,e2⟩ e (fun z=>nomatch z) h
 | dct ks l =>
  simp only [Rep] at r
  obtain ⟨a,kvs,rfl,h1,_⟩:=r
  cases rx
  obtain ⟨_,_,vs,_,p⟩:=lH I.hok h1
  obtain ⟨o,es,ep,e1,e2,_⟩:=p
  exact PySem.W.kia_one PySem.W.kitx_dict I.kIn ⟨o,e1,e2.1⟩ e (fun z=>nomatch z) h
 | dcT ks l =>
  simp only [Rep] at r
  obtain ⟨a,kvs,rfl,h1,_⟩:=r
  cases rx
  obtain ⟨_,_,xs,_,o,es,ep,e1,e2,_⟩:=(show ObjOk X.prog X.w H s.heap a (.dT kvs) from h1.ok I.hok)
  exact PySem.W.kia_one PySem.W.kitx_dict I.kIn ⟨o,e1,e2.1⟩ e (fun z=>nomatch z) h
 | ins c ns l=>cases hi
def mN (K:PySem.W.Frag) (c:String):Prop:=∀ d:Dt,n6 d=false->PySem.W.kitOne K (.type (tyD d)) (.type c)=some (xl c d)
def pi:CallR X (.builtin "isinstance") (fun xs H Q=>∃ v c d b,xs=[v,.ty c]/\Rep X.K H d v/\n6 d=false/\PySem.W.kitOne X.K (.type (tyD d)) (.type c)=some b/\Q (.bl b) H):=by
 intro pins s σ H xs us Q I r h
 obtain ⟨v,c,d,b,rfl,rd,hi,e,q⟩:=h
 obtain ⟨u,w',rfl,ru,rw'⟩:=wX r
 cases rw'
 exact ph I ru rd hi e fun tk=>⟨.bl b,H,I.tok _,rfl,q⟩
def fJ (c:String) (f:De->Option Dt):De->Option T:=fun δ=>(f δ).bind fun d=>if n6 d then none else some (.leaf (.bl (xl c d)))
def gj {cn:Str} {cs:String} {p1 p2:Pos} (h:bt sc "isinstance"=true) (hcn:bt sc cn=true) (hm:X.mg "isinstance"=none) (hmc:X.mg cn=none) (hv:bootBuiltins cn=some (.type cs)) (hk:mN X.K cs) (ha:DB X a fa) (e1:dE X sc:=by rfl)
  (he:starEach [a,.Name cn p2] X.env=(false,eval a X.env)::starEach [.Name cn p2] X.env:=by rfl) (he2:starEach [.Name cn p2] X.env=(false,eval (.Name cn p2) X.env)::starEach [] X.env:=by rfl) (hpl:(backTo pos (starEach [.Name cn p2] X.env)).any (·.1)=false:=by rfl) :
  DO X (.Call (.Name "isinstance" p1) [a,.Name cn p2] [] pos) (fJ cs fa):=
 PE.mono (jr h pi hm lu (fR ha (fR (tM (v:=.ty cs) hcn hmc hv rfl e1) iI he2) he) e1 he hpl) fun σ H Q ⟨Φ,δ,F,t,hK,en,hf,k⟩=>by
  unfold fJ at hf
  obtain ⟨d,hd,hf⟩:=bS hf
  cases hi:n6 d with
  | true=>rw [hi] at hf;cases hf
  | false =>
   rw [hi] at hf
   cases hf
   exact ⟨Φ,δ,F,d,hK,en,hd,fun v H' F' st r=>⟨v,cs,d,_,rfl,r.rep st.fh,hi,hk d hi,(k.step st).bl st.fh⟩⟩
def MRD (K:PySem.W.Frag) (r:V->List V->Hp->VK->Prop) (g:Dt->List Dt->Option T):Prop:=∀ F H d v ds vs (Q:VK) t,Same F H->RepB K F H d v->RepBs K F H ds vs->g d ds=some t->KO K F H t Q->r v vs H Q
def qG (g:Dt->List Dt->Option T) (fo:De->Option Dt) (fs:De->Option (List Dt)):De->Option T:=fun δ=>(fo δ).bind fun d=>(fs δ).bind fun ds=>g d ds
def yL {name:Str} {id:String} {r:V->List V->Hp->VK->Prop} {g:Dt->List Dt->Option T} (slot:Slot "str" name id) (hty:typeOf (.builtin id)=pure (.type "method_descriptor")) (hm:MtR X id r) (hr:MRD X.K r g) (hg:∀ d ds t,g d ds=some t->∃ z,d=.str z)
  (ho:DB X o fo) (ha:DAB X (e::es) fs)
  (hbase:attributeBase o name X.env (eval o X.env)=eval o X.env:=by rfl)
  (hfew:((backTo cpos (starEach (e::es) X.env)).all (fun x=>!x.1)&&(backToKw cpos (keywordEach [] X.env)).all (fun x=>x.1.isSome)
   && decide ((e::es).length+([]:List Keyword).length+(if ([]:List Keyword).isEmpty then 0 else 1)<30))=true:=by rfl)
  (hline:(apos.endLine==cpos.line)=true:=by rfl) (hs:starEach (e::es) X.env=(false,eval e X.env)::starEach es X.env:=by rfl) (hplain:(backTo cpos (starEach es X.env)).any (·.1)=false:=by rfl) :
  DO X (.Call (.Attribute o name apos) (e::es) [] cpos) (qG g fo fs):=PE.mono (tm PySem.F.plainAttrs_str slot hty hm ho ha.pa hbase hfew hline hs hplain) fun σ H Q ⟨Φ,δ,F,t,hK,en,hf,k⟩=>by
 unfold qG at hf
 obtain ⟨d,hd,hf⟩:=bS hf
 obtain ⟨ds,hds,hf⟩:=bS hf
 refine ⟨Φ,δ,F,d,hK,en,hd,fun v H1 F1 st rv=>⟨?_,Φ,δ,F1,ds,hK,en.step st,hds,fun vs H2 F2 st2 rvs=>hr F2 H2 d v ds vs Q t st2.fh (rv.step st2.ff st2.hh) rvs hf (k.step (st.trans st2))⟩⟩
 obtain ⟨z,rfl⟩:=hg d ds t hf
 cases rv
 rfl
def iM:List Dt->Option (List Str)
 | []=>some []
 | .str b::r=>(iM r).map (b::·)
 | _=>none
def lU {K:PySem.W.Frag} {F:Hp}:∀ {l:List Dt} {vs:List V} {bs:List Str},Reps K F l vs->iM l=some bs->vs=bs.map V.str
 | [],vs,bs,r,h=>by cases h;simp only [Reps] at r;exact r
 | d::l,vs,bs,r,h=>by
  cases d<;>first | cases h;done | skip
  simp only [iM] at h
  obtain ⟨cs,hc,h⟩:=mS h
  cases h
  simp only [Reps,Rep] at r
  obtain ⟨v,ws,rfl,rfl,r2⟩:=r
  rw [lU r2 hc]
  rfl
def iN:Dt->List Dt->Option T
 | .str a,[.lst l]=>(iM l).bind fun ts=>if JoinOk a ts then some (.leaf (.str (Txt.join a ts))) else none
 | _,_=>none
def vP {K:PySem.W.Frag}:MRD K (fun x vs H Q=>∃ (a:Str) (l:Addr) (ts:List Str),x=.str a/\vs=[.ref l]/\SqL K H l (ts.map V.str)/\JoinOk a ts=true/\Q (.str (Txt.join a ts)) H) iN:=by
 intro F H d v ds vs Q t fh rd rs hg k
 unfold iN at hg
 split at hg<;>first | cases hg;done | skip
 obtain ⟨ts,ht,hg⟩:=bS hg
 split at hg
 · rename_i hj
   cases hg
   cases rd
   obtain ⟨v,rfl,rv⟩:=eU rs
   obtain ⟨a,vs,rfl,h1,h2⟩:=rv
   have:=lU h2 ht
   subst this
   exact ⟨_,a,ts,rfl,rfl,h1,hj,k.str fh⟩
 · cases hg
def pj:∀ d ds t,iN d ds=some t->∃ z,d=.str z:=fun d ds t h=>by
 unfold iN at h
 split at h
 · exact ⟨_,rfl⟩
 · cases h
def vQ (ho:DB X o fo) (ha:DAB X (e::es) fs)
  (hbase:attributeBase o "join" X.env (eval o X.env)=eval o X.env:=by rfl)
  (hfew:((backTo cpos (starEach (e::es) X.env)).all (fun x=>!x.1)&&(backToKw cpos (keywordEach [] X.env)).all (fun x=>x.1.isSome)
   && decide ((e::es).length+([]:List Keyword).length+(if ([]:List Keyword).isEmpty then 0 else 1)<30))=true:=by rfl)
  (hline:(apos.endLine==cpos.line)=true:=by rfl) (hs:starEach (e::es) X.env=(false,eval e X.env)::starEach es X.env:=by rfl) (hplain:(backTo cpos (starEach es X.env)).any (·.1)=false:=by rfl) :
  DO X (.Call (.Attribute o "join" apos) (e::es) [] cpos) (qG iN fo fs):=yL PySem.F.slot_str_join PySem.F.type_str_join vv vP pj ho ha hbase hfew hline hs hplain
def z58 (i:Nat) (f:De->Option Dt):De->Option Out:=fun δ=>match δ[i]? with
 | some (some (.lst l))=>(f δ).bind fun d=>if l.length<sizeLine then some (.nx (δ.set i (some (.lst (l++[d]))))) else none
 | _=>none
def En.ownL {Φ:Fm} {δ:De} {σ:St} {F H:Hp} (en:En Φ δ σ F H) {l:List Dt} (h:δ[i]?=some (some (.lst l))):∃ a vs,σ[i]?=some (some (.ref a))/\H a=some (.lst vs)/\Reps Φ.K F l vs:=by
 obtain ⟨v,hv⟩:=en.has i _ h
 obtain ⟨S,s⟩:=en.sep
 obtain ⟨a,vs,rfl,_,h1,h2⟩:=s.own i _ v (fE h hv)
 exact ⟨a,vs,hv,h1,h2⟩
def sd (hx:PE X o (oO i)) (he:DL X e fe)
  (hbase:attributeBase o "append" X.env (eval o X.env)=eval o X.env:=by rfl)
  (hfew:((backTo cpos (starEach [e] X.env)).all (fun x=>!x.1)&&(backToKw cpos (keywordEach [] X.env)).all (fun x=>x.1.isSome)
   && decide ([e].length+([]:List Keyword).length+(if ([]:List Keyword).isEmpty then 0 else 1)<30))=true:=by rfl)
  (hline:(apos.endLine==cpos.line)=true:=by rfl) (hs:starEach [e] X.env=(false,eval e X.env)::starEach [] X.env:=by rfl) (hplain:(backTo cpos (starEach [] X.env)).any (·.1)=false:=by rfl)
  (hsw:swapsWith (.Call (.Attribute o "append" apos) [e] [] cpos) none pos.line X.env=pure false:=by rfl) :
  DS1 X (.Expr (.Call (.Attribute o "append" apos) [e] [] cpos) pos) (z58 i fe):=
 PS.mono (mt (tm PySem.F.plainAttrs_list PySem.F.slot_list_append PySem.F.type_list_append ii hx (fR he iI hs) hbase hfew hline hs hplain) hsw) fun D σ H ⟨Φ,δ,F,ot,hK,en,hg,k⟩=>by
  unfold z58 at hg
  split at hg<;>first | cases hg;done | skip
  rename_i l hl
  obtain ⟨d,hd,hg⟩:=bS hg
  split at hg<;>first | cases hg;done | skip
  rename_i hz
  cases hg
  obtain ⟨a,vs,hv,h1,h2⟩:=en.ownL hl
  refine ⟨.ref a,hv,.inl ⟨rfl,vs,.inl (.inl h1)⟩,Φ,δ,F,d,hK,en,hd,fun v H1 F1 st rv=>?_⟩
  have en1:=en.step st
  have h1':=st.hh _ _ h1
  refine ⟨a,vs,v,rfl,rfl,h1',by rw [h2.length];exact hz,?_⟩
  refine k σ F1 _ (en1.poke hl hv (fun d z=>nomatch z) fun S sa=>⟨a,vs++[v],rfl,sa,aY,(h2.same st.ff).append (Reps.one (hK▸rv))⟩)
end
def g0 {κ:Type} [DecidableEq κ]:List κ->List Dt->κ->Option Dt
 | k'::ks,d::l,k=>if k'=k then some d else g0 ks l k
 | _,_,_=>none
def lV {κ:Type} [DecidableEq κ] {K:PySem.W.Frag} {F:Hp} {k:κ}:∀ {kvs:List (κ×V)} {l:List Dt} {d:Dt},Reps K F l (kvs.map (·.2))->g0 (kvs.map (·.1)) l k=some d->∃ v,gc kvs k=some v/\Rep K F d v
 | [],l,d,r,h=>by cases l<;>cases h
 | p::kvs,[],d,r,h=>by cases h
 | p::kvs,e::l,d,r,h=>by
  simp only [List.map_cons,Reps] at r
  obtain ⟨v,ws,hv,r1,r2⟩:=r
  cases hv
  simp only [List.map_cons,g0] at h
  by_cases hk:p.1=k
  · rw [if_pos hk] at h
    cases h
    exact ⟨p.2,gM hk,r1⟩
  · rw [if_neg hk] at h
    rw [gO hk]
    exact lV r2 h
def fm:Dt->Option Key
 | .int i=>some (.inl i)
 | .str x=>some (.inr x)
 | _=>none
def qH {K:PySem.W.Frag} {F H:Hp} {d:Dt} {v:V} {k:Key} (r:RepB K F H d v) (h:fm d=some k):v=kV k:=by
 unfold fm at h
 split at h<;>first | (cases h;done) | skip
 · cases h;exact r
 · cases h;exact r
def ax:Dt->Dt->Option T
 | .dct ks l,k=>(fm k).bind fun k=>(g0 ks l k).map .leaf
 | x,y=>gIx x y
section
variable {X:Cx} {o a b e c:Expr} {es:List Expr} {fa fb fo fe fk:De->Option Dt} {fs:De->Option (List Dt)} {pos apos cpos p:Pos} {x:Str} {sc:Scope} {i:Nat}
def am {k:Nat} (hr:Room k X.A) (ha:DB X a fa) (hb:DB X b fb) (hs:mw b:=by exact fun _ _=>rfl) (hn:vm b:=by exact fun _ _=>rfl):DO X (.Subscript a b pos) (d2 ax fa fb):=
 PE.mono (PE.or (w8 tf ha hb hs) (qe (qi hr) ha hb hn)) fun σ H Q ⟨Φ,δ,F,t,hK,en,hf,k⟩=>by
  unfold d2 at hf
  obtain ⟨x,hx,hf⟩:=bS hf
  obtain ⟨y,hy,hf⟩:=bS hf
  unfold ax at hf
  split at hf
  · rename_i ks l _
    obtain ⟨kk,hk,hf⟩:=bS hf
    obtain ⟨d,hd,hf⟩:=mS hf
    cases hf
    refine .inr ⟨Φ,δ,F,_,hK,en,hx,fun v H1 F1 st rv=>⟨Φ,δ,F1,y,hK,en.step st,hy,fun v2 H2 F2 st2 rv2=>?_⟩⟩
    obtain ⟨ad,kvs,rfl,h1,h2,h3⟩:=rv
    subst h2
    obtain ⟨w,hw,rw'⟩:=lV h3 hd
    have:=qH rv2 hk
    subst this
    exact ⟨ad,w,rfl,.inl ⟨kvs,kk,st2.hh.rd h1,rfl,hw.symm⟩,(k.step (st.trans st2)).leaf.here st2.fh (rw'.same st2.ff)⟩
  · exact .inl (qy r_ix ⟨Φ,δ,F,t,hK,en,by unfold d2;rw [hx,hy];exact hf,k⟩)
def g6:De->Option T:=fun _=>some (.dct [])
def mO:DO X (.Dict [] [] pos) g6:=PE.mono tu fun σ H Q ⟨Φ,δ,F,t,hK,en,hf,k⟩=>by
 cases hf
 intro p hp
 refine k _ _ F (fun b=>b=p) (Step.made en.fh hp) ⟨p,[],rfl,rfl,aY,rfl,by simp [Reps]⟩ fun b z=>?_
 subst z
 exact ⟨en.fh.free hp,hp,_,aY⟩
def PS.or {X:Cx} {e:Stmt} {t t':TS} (h:PS X e t) (h':PS X e t'):PS X e (fun σ H Q=>t σ H Q∨t' σ H Q):=fun pins s σ H Q I q=>q.elim (h pins s σ H Q I) (h' pins s σ H Q I)
end
section
variable {prog:Program} {w:World} {A:Around} {E:Value->Shared->Prop} {s:Shared} {I t:Addr} {j:Nat} {vs:Array Value}
def pk {y:Value} {Q:Value->Shared->Prop} (hI:s.heap.IsTupleIter I t j) (hv:s.heap.IsTuple t vs) (hy:vs[j]?=some y)
  (q:∀ h',h'.IsTupleIter I t (j+1)->Heap.SameBut I s.heap h'->Q y {s with heap:=h'}):wpAny (model prog w) A (Builtin.SmallTypes.nextOf (.ref I)) Q E s:=by
 obtain ⟨oi,hoi,hci,hdi⟩:=id hI
 obtain ⟨ot,hot,_,nt,hdt⟩:=hv
 unfold Builtin.SmallTypes.nextOf
 refine wB (wpAny_callSpecial?_slot (name:=Str.ofString "__next__") hI.typeIs F.slot_tuple_iterator_next (wpAny_call_entry F.slot_tuple_iterator_next hI.typeIs F.entry_tuple_iterator_next ?_ (F.args_tuple_iterator_next_1 _)))
 show wpAny _ _ (field (.ref I) 0 >>= _) _ _ s
 refine wB (wpAny_field hoi hdi (x:=.ref t) rfl ?_)
 show wpAny _ _ (if (Value.ref t==Value.none)=true then _ else _) _ _ s
 rw [if_neg (show ¬ (Value.ref t==Value.none)=true by exact Bool.false_ne_true)]
 show wpAny _ _ (field (.ref I) 1 >>= _) _ _ s
 refine wB (wpAny_field hoi hdi (x:=.int j 0) rfl ?_)
 show wpAny _ _ (seqItems? (.ref t) >>= _) _ _ s
 refine wB (wpAny_seqItems hot hdt ?_)
 simp only [Int.toNat_natCast,hy]
 refine wpAny_bind (wpAny_setField hoi hdi (by simp) (wpAny_pure ⟨y,rfl,wpAny_pure (q _ ?_ (Heap.SameBut.update ..))⟩))
 exact ⟨_,Heap.get?_update_self _ hoi (Obj.isFreed_of_fields (Obj.data_mapFields hdi _)),(Obj.cls_mapFields ..).trans hci,by rw [Obj.data_mapFields hdi];simp [rawInt]⟩
def se {Q:Value->Shared->Prop} (hh:A.handled=none) (hI:s.heap.IsTupleIter I t j) (hv:s.heap.IsTuple t vs) (hy:vs[j]?=none)
  (q:∀ h' e,Heap.ExtBut I s.heap h'->(∃ o,h'.get? e=some o/\o.cls=.type "StopIteration")->E (.ref e) {s with heap:=h'}):wpAny (model prog w) A (Builtin.SmallTypes.nextOf (.ref I)) Q E s:=by
 obtain ⟨oi,hoi,hci,hdi⟩:=id hI
 obtain ⟨ot,hot,_,nt,hdt⟩:=hv
 unfold Builtin.SmallTypes.nextOf
 refine wB (wpAny_callSpecial?_slot (name:=Str.ofString "__next__") hI.typeIs F.slot_tuple_iterator_next (wpAny_call_entry F.slot_tuple_iterator_next hI.typeIs F.entry_tuple_iterator_next ?_ (F.args_tuple_iterator_next_1 _)))
 show wpAny _ _ (field (.ref I) 0 >>= _) _ _ s
 refine wB (wpAny_field hoi hdi (x:=.ref t) rfl ?_)
 show wpAny _ _ (if (Value.ref t==Value.none)=true then _ else _) _ _ s
 rw [if_neg (show ¬ (Value.ref t==Value.none)=true by exact Bool.false_ne_true)]
 show wpAny _ _ (field (.ref I) 1 >>= _) _ _ s
 refine wB (wpAny_field hoi hdi (x:=.int j 0) rfl ?_)
 show wpAny _ _ (seqItems? (.ref t) >>= _) _ _ s
 refine wB (wpAny_seqItems hot hdt ?_)
 simp only [Int.toNat_natCast,hy]
 refine wpAny_bind (wpAny_rule (wpAny_bind (wpAny_setField hoi hdi (by simp) ?_)))
 show wpAny _ _ (newExc (.type "StopIteration") [] >>= _) _ _ _
 refine wB ?_
 simp only [newExc,newTuple]
 refine wB (wpAny_newObj_type ?_ (by first | size_fits | decide))
 refine wpAny_bind (m:=firstArgMember _ _) (wpAny_of_eq (a:=Value.none) (by first | rfl | (simp only [firstArgMember]<;>rfl)) ?_)
 refine wpAny_newObj_type ?_ (by first | size_fits | decide)
 simp only [raiseNew]
 refine wB (wpAny_handled ?_)
 first | rw [hh] | rw [show A.in1.handled=none by exact hh]
 refine wB (wpAny_pure (wpAny_throw ?_))
 exact q _ _ (((Heap.SameBut.update ..).extBut.push _).push _) ⟨_,Heap.get?_push_size _ rfl,rfl⟩
end
def n8 {prog:Program} {w:World} {A:Around} (hh:A.handled=none) (I t:Addr) (hne:t≠I) (vs:Array Value):Draws prog w A I [I,t] vs.size (fun i v=>vs[i]?=some v) (fun i h=>h.IsTupleIter I t i/\h.IsTuple t vs) where
 live:=fun _ _ st=>let ⟨o,ho,_⟩:=st.1;⟨o,ho⟩
 frame:=fun _ _ _ st hk=>⟨let ⟨o,ho,r⟩:=st.1;⟨o,hk I (by simp) o ho,r⟩,let ⟨o,ho,r⟩:=st.2;⟨o,hk t (by simp) o ho,r⟩⟩
 item:=fun i s Q E hi st hQ=>pk st.1 st.2 (y:=vs[i]) (by simp [hi]) fun h' a b=>hQ _ h' s.toks (by simp [hi]) ⟨a,let ⟨o,ho,r⟩:=st.2;⟨o,b.extBut _ _ hne ho,r⟩⟩ b
 done:=fun s Q E st hE=>se hh st.1 st.2 (by simp) hE
def SqB (b:Bool) (K:PySem.W.Frag) (H:Hp) (a:Addr) (xs:List V):Prop:=match b with
 | true=>SqL K H a xs
 | false=>SqT K H a xs
def ItB (b:Bool) (h:Heap) (I a:Addr) (i:Nat):Prop:=match b with
 | true=>h.IsListIter I a i
 | false=>h.IsTupleIter I a i
def CoB (b:Bool) (h:Heap) (a:Addr) (vs:Array Value):Prop:=match b with
 | true=>h.IsList a vs
 | false=>h.IsTuple a vs
def ItB.obj {b:Bool} {h:Heap} {I a:Addr} {i:Nat} (x:ItB b h I a i):∃ o,h.get? I=some o/\(o.cls=.type "list_iterator"∨o.cls=.type "tuple_iterator")/\∀ v,o.data≠.cell v:=by
 cases b with
 | true=>obtain ⟨o,e,c,d⟩:=x;exact ⟨o,e,.inl c,fun v z=>by rw [d] at z;cases z⟩
 | false=>obtain ⟨o,e,c,d⟩:=x;exact ⟨o,e,.inr c,fun v z=>by rw [d] at z;cases z⟩
def ItB.at {b:Bool} {h h':Heap} {I a:Addr} {i:Nat} (x:ItB b h I a i) (k:∀ o,h.get? I=some o->h'.get? I=some o):ItB b h' I a i:=by
 cases b with
 | true=>obtain ⟨o,e,r⟩:=x;exact ⟨o,k o e,r⟩
 | false=>obtain ⟨o,e,r⟩:=x;exact ⟨o,k o e,r⟩
def CoB.obj {b:Bool} {h:Heap} {a:Addr} {vs:Array Value} (x:CoB b h a vs):∃ o,h.get? a=some o/\(o.cls=.type "list"∨o.cls=.type "tuple"):=by
 cases b with
 | true=>obtain ⟨o,e,c,_⟩:=x;exact ⟨o,e,.inl c⟩
 | false=>obtain ⟨o,e,c,_⟩:=x;exact ⟨o,e,.inr c⟩
def xm {x y:String} (h:x≠y):Value.type x≠Value.type y:=fun z=>h (by cases z;rfl)
def t5 {b c:Bool} {h:Heap} {I a l:Addr} {i:Nat} {vs:Array Value} (x:ItB b h I a i) (y:CoB c h l vs):l≠I:=by
 obtain ⟨o,e1,c1,_⟩:=x.obj
 obtain ⟨o',e2,c2⟩:=y.obj
 rintro rfl
 rw [e1] at e2
 cases e2
 rcases c1 with c1 | c1<;>rcases c2 with c2 | c2<;>rw [c1] at c2<;>exact absurd c2 (xm (by decide))
section
variable {X:Cx} {pins:List (Addr×Obj)} {σ:St} {H:Hp} {s:Shared} {a I:Addr} {xs:List V} {b:Bool}
def Inv.seqB (J:Inv X pins σ H s) (h:SqB b X.K H a xs):∃ its:List Value,Vals xs its/\CoB b s.heap a its.toArray:=by
 cases b with
 | true=>obtain ⟨its,r,p,_⟩:=J.list h;exact ⟨its,r,p.isList⟩
 | false=>obtain ⟨its,r,p,_⟩:=J.tuple h;exact ⟨its,r,p⟩
def Inv.seqB_inj {ys:List V} (J:Inv X pins σ H s) (h:SqB b X.K H a xs) (h':SqB b X.K H a ys):xs=ys:=by
 cases b with
 | true=>exact J.list_inj h h'
 | false=>exact J.tuple_inj h h'
def t6 {prog:Program} {w:World} {A:Around} (hh:A.handled=none) (hne:a≠I) (vs:Array Value):Draws prog w A I [I,a] vs.size (fun i v=>vs[i]?=some v) (fun i h=>ItB b h I a i/\CoB b h a vs):=by
 cases b with
 | true=>exact Draws.list hh I a hne vs
 | false=>exact n8 hh I a hne vs
def Inv.turnedL {h':Heap} {t':Nat} {fp:List Addr} (J:Inv X pins σ H s) (k:∀ b o,b∉fp->s.heap.get? b=some o->h'.get? b=some o) (hf:∀ b∈fp,iG X pins H b):Inv X pins σ H {s with heap:=h',toks:=t'}:=by
 have nit:∀ b u,H b=some u->b∉fp:=fun b u e z=>by rw [(hf b z).1] at e;cases e
 refine J.step (g':=s.gens) (d':=s.drawn) (ch:=fp) (fun b hb=>?_) (fun b o _ _ hc e _=>k b o hc e) (fun b o _ _ hc e _=>⟨o.slots,k b o hc e⟩) (fun _ _ _ _ n=>n)
  (fun b o hc e=>⟨o,k b o hc e⟩) (fun _ _ e=>e) (fun _ _ _ e=>e) (fun b ps e=>⟨#[],by rw [e];simp⟩) (fun m hm=>?_) (fun b u e=>?_) J.bare
 · exact ⟨(hf b hb).2.2.2.1,(hf b hb).2.1,(hf b hb).2.2.2.2.1,(hf b hb).2.2.2.2.2⟩
 · obtain ⟨o,es,ep,ho,r⟩:=hm
   exact ⟨o,es,ep,k _ o (fun z=>(hf _ z).2.1 rfl) ho,r⟩
 · refine (J.hok b u e).stay (fun c v hc q=>k c v ?_ q) (fun _ q=>q) fun _ _ q=>q
   rcases hc with z | z
   · rw [z];exact nit b u e
   · exact nit c _ z
end
section
variable {X:Cx} {pins:List (Addr×Obj)} {σ:St} {H:Hp} {s:Shared}
def Inv.turnedT {h':Heap} {t':Nat} {fp:List Addr} {t:Addr} {u:HO} (J:Inv X pins σ H s) (k:∀ b o,b∉fp->s.heap.get? b=some o->h'.get? b=some o) (hf:∀ b∈fp,iG X pins H b) (ht:s.heap.objs.size<=t) (new:ObjOk X.prog X.w (upd H t u) h' t u) :
  Inv X pins σ (upd H t u) {s with heap:=h',toks:=t'}:=by
 have nit:∀ b u,H b=some u->b∉fp:=fun b u e z=>by rw [(hf b z).1] at e;cases e
 have hn:H t=none:=J.hok.fresh ht
 have net:∀ b v,H b=some v->b≠t:=fun b v e=>cg e hn
 have nlt:∀ b o,s.heap.get? b=some o->b≠t:=fun b o e z=>by subst z;exact absurd (Heap.lt_size e) (Nat.not_lt.mpr ht)
 refine J.step (g':=s.gens) (d':=s.drawn) (ch:=fp) (fun b hb=>?_) (fun b o _ _ hc e _=>k b o hc e) (fun b o _ _ hc e _=>⟨o.slots,k b o hc e⟩) (fun b o _ e n=>by rw [bc (nlt b o e)];exact n)
  (fun b o hc e=>⟨o,k b o hc e⟩) (fun b xs e=>by rw [bc (net b _ e)];exact e) (fun b o v e=>by rw [bc (net b _ e)];exact e) (fun b ps e=>⟨#[],by rw [bc (net b _ e),e];simp⟩) (fun m hm=>?_) (fun b v e=>?_) J.bare
 · exact ⟨(hf b hb).2.2.2.1,(hf b hb).2.1,(hf b hb).2.2.2.2.1,(hf b hb).2.2.2.2.2⟩
 · obtain ⟨o,es,ep,ho,r⟩:=hm
   exact ⟨o,es,ep,k _ o (fun z=>(hf _ z).2.1 rfl) ho,r⟩
 · by_cases hb:b=t
   · subst hb
     rw [aY] at e
     cases e
     exact new
   · rw [bc hb] at e
     refine (J.hok b v e).stay (fun c ob hc q=>k c ob ?_ q) (fun c q=>by rw [bc (net c _ q)];exact q) fun c ys q=>by rw [bc (net c _ q)];exact q
     rcases hc with z | z
     · rw [z];exact nit b v e
     · exact nit c _ z
end
noncomputable def Ite (b:Bool) (K:PySem.W.Frag) (a:Addr):It:=
 ⟨fun i H=>∃ xs x,SqB b K H a xs/\xs[i]?=some x,fun i H x H'=>∃ t v,H t=none/\x=.ref t/\H'=upd H t (.tup [.int i,v])/\∀ xs,SqB b K H a xs->xs[i]?=some v,fun i H=>∃ xs,SqB b K H a xs/\xs.length=i⟩
def sf {P:Program} {w:World} {K:PySem.W.Frag} {elts:List Expr} {n:Nat} {pos:Pos} (b:Bool) (a e I:Addr) (hne:e≠I) :
  Turn P w K (.Tuple elts n pos) (Ite b K a) [e,I] e (fun i h=>(∃ old,IsEnum h e I i old)/\ItB b h I a i) where
 mem:=by simp
 obj:=fun i h st c hc=>by
  obtain ⟨⟨old,st1⟩,st2⟩:=st
  simp only [List.mem_cons,List.not_mem_nil,or_false] at hc
  rcases hc with rfl | rfl
  · exact ⟨_,st1,fun v z=>nomatch z⟩
  · obtain ⟨o,q,_,d⟩:=st2.obj
    exact ⟨o,q,d⟩
 keep:=fun i h h' st k=>by
  obtain ⟨⟨old,st1⟩,st2⟩:=st
  exact ⟨⟨old,k e (by simp) _ st1⟩,st2.at fun o q=>k I (by simp) o q⟩
 item:=by
  intro X hP hw hK hc i pins s σ H E J hf st hg
  subst hP hw hK
  obtain ⟨⟨old,st1⟩,st2⟩:=st
  obtain ⟨xs,x,hq,hx⟩:=hg
  obtain ⟨its,rv,co⟩:=J.seqB hq
  obtain ⟨u,hu,ru⟩:=rv.get hx
  have hi:i<its.toArray.size:=by simpa using (gX hu).1
  have hae:e∉[I,a]:=by
   simp only [List.mem_cons,List.not_mem_nil,or_false,not_or]
   refine ⟨hne,fun z=>?_⟩
   obtain ⟨o,q,c⟩:=co.obj
   rw [<- z,st1] at q
   cases q
   rcases c with c | c<;>exact absurd c (xm (by decide))
  refine wpAny_pyNext_enum_itemD (t6 (A:=X.A.in1) (b:=b) (I:=I) (a:=a) (show X.A.in1.handled=none from J.ok.hd hc) (t5 st2 co) its.toArray) st1 ⟨st2,co⟩ hi hne hae fun y h1 tk hy ho hs1 hT hsz hk=>⟨_,rfl,?_⟩
  have ey:y=u:=by
   rw [show its.toArray[i]?=its[i]? by simp,hu] at hy
   exact (Option.some.inj hy).symm
  subst ey
  refine wpAny_letOwnedTupleGo_enum ho fun h2 he2 sb2=>?_
  have kk:∀ c o,c∉[e,I]->s.heap.get? c=some o->h2.get? c=some o:=fun c o hc' q=>by
   simp only [List.mem_cons,List.not_mem_nil,or_false,not_or] at hc'
   exact (sb2.2 c hc'.1).trans (hk c o hc'.1 hc'.2 q)
  have lt:∀ c∈[e,I],c<s.heap.objs.size:=fun c hc'=>by
   simp only [List.mem_cons,List.not_mem_nil,or_false] at hc'
   rcases hc' with rfl | rfl
   · exact Heap.lt_size st1
   · obtain ⟨o,q,_⟩:=st2.obj
     exact Heap.lt_size q
  -- first the records,then the pair
  have hT2:h2.get? s.heap.objs.size=some {cls:=.type "tuple",data:=.seq #[.int i tk,y]}:=(sb2.2 _ (fun z=>Nat.lt_irrefl _ (z▸lt e (by simp)))).trans hT
  have J2:Inv X pins σ (upd H s.heap.objs.size (.tup [.int i,x])) {s with heap:=h2,toks:=tk+1}:=by
   refine J.turnedT kk hf (nL _) ⟨by show 2<=sizeLine;decide,[.int i tk,y],.cons ⟨_,rfl⟩ (.cons ru .nil),?_⟩
   exact ⟨_,hT2,rfl,_,rfl⟩
  refine ⟨.ref s.heap.objs.size,_,J2,rfl,⟨_,x,J.hok.fresh (Nat.le_refl _),rfl,rfl,fun ys hy=>by rw [J.seqB_inj hy hq];exact hx⟩,⟨⟨_,by simpa using he2⟩,hs1.1.at fun o q=>(sb2.2 I (Ne.symm hne)).trans q⟩,fun c hc'=>?_⟩
  rw [bc (Nat.ne_of_lt (lt c hc'))]
  exact (hf c hc').1
 done:=by
  intro X hP hw hK hc i pins s σ H E J hf st hg
  subst hP hw hK
  obtain ⟨⟨old,st1⟩,st2⟩:=st
  obtain ⟨xs,hq,hx⟩:=hg
  obtain ⟨its,rv,co⟩:=J.seqB hq
  have hi:i=its.toArray.size:=by rw [<- hx];simpa using rv.length
  refine wpAny_pyNext_enum_endD (t6 (A:=X.A.in1) (b:=b) (I:=I) (a:=a) (show X.A.in1.handled=none from J.ok.hd hc) (t5 st2 co) its.toArray) st1 (show ItB b s.heap I a its.toArray.size/\CoB b s.heap a its.toArray from ⟨hi▸st2,co⟩) fun h' eb=>⟨rfl,?_⟩
  exact J.turnedL (t':=s.toks) (fun c o hc' q=>eb c o (fun z=>hc' (by simp [z])) q) hf
 self:=fun A i s Q E st h=>by
  obtain ⟨⟨old,st1⟩,st2⟩:=st
  exact wpAny_pyIter_enum st1 h
def n9 (t:Addr) (vs:Array Value) (n:Nat) (dd:Option Addr) (sl:Array (Option Value)) :
  Meets (Builtin.«enumerate.__new__» ⟨[.type "enumerate",.ref t],[]⟩) (fun _ R s=>s.heap.get? t=some {cls:=.type "tuple",dict:=dd,data:=.seq vs n,slots:=sl}∧
   R (.ok (.ret (.ref (s.heap.push {cls:=.type "tuple_iterator",data:=.fields #[.ref t,.int 0 0]}).objs.size)))
    {s with heap:=(s.heap.push {cls:=.type "tuple_iterator",data:=.fields #[.ref t,.int 0 0]}).push {cls:=.type "enumerate",data:=.fields #[.none,.bool false,.ref s.heap.objs.size,rawInt 0,.none,.none]}}):=
 .of_wp fun prog w A R s h=>by
  obtain ⟨hp,g,d,tk,os⟩:=s
  obtain ⟨ht,h⟩:=h
  have hsub:=sub_enumerate
  have hT:Heap.IsTuple (Shared.heap ⟨hp,g,d,tk,os⟩) t vs:=⟨_,ht,rfl,n,rfl⟩
  wp_walk using AutoSeq1.wpAny_loadPart' ht
  refine wpAny_stack_any fun st=>wpAny_pure ?_
  split
  · rename_i c _ _ _ _ _
    cases (c==Value.type "enumerate")<;>(wp_walk using AutoSeq1.wpAny_loadPart' ht,wpAny_pyIter_tuple hT)<;>exact ⟨_,rfl,h⟩
  · (wp_walk using AutoSeq1.wpAny_loadPart' ht,wpAny_pyIter_tuple hT)<;>exact ⟨_,rfl,h⟩
section
variable {prog:Program} {w:World} {A:Around} {E:Value->Shared->Prop} {s:Shared}
def pp {t:Addr} {vs:Array Value} {Q:Value->Shared->Prop} (hT:s.heap.IsTuple t vs)
  (h:∀ h',IsEnum h' (s.heap.objs.size+1) s.heap.objs.size 0 .none->h'.IsTupleIter s.heap.objs.size t 0->h'.objs.size=s.heap.objs.size+2→
   (∀ c u,s.heap.get? c=some u->h'.get? c=some u)->Q (.ref (s.heap.objs.size+1)) {s with heap:=h'}) :
  wpAny (model prog w) A (call (.type "enumerate") [.ref t]) Q E s:=by
 obtain ⟨⟨c,dct,dt,sl⟩,hl,hc,n,hd⟩:=hT
 have hc:c=.type "tuple":=hc
 have hd:dt=.seq vs n:=hd
 subst hc hd
 refine callType_new F.called_enumerate (by decide) (F.typeCall_enumerate_1 _) (F.newCall_enumerate_1 _) (fun obj=>F.args_object_init_2 obj _) F.entry_enumerate_new (n9 t vs n dct sl) ⟨hl,?_⟩
 have hz:(s.heap.push {cls:=.type "tuple_iterator",data:=.fields #[.ref t,.int 0 0]}).objs.size=s.heap.objs.size+1:=Heap.size_push ..
 have hz2:((s.heap.push {cls:=.type "tuple_iterator",data:=.fields #[.ref t,.int 0 0]}).push {cls:=.type "enumerate",data:=.fields #[.none,.bool false,.ref s.heap.objs.size,rawInt 0,.none,.none]}).objs.size=s.heap.objs.size+2:=by rw [Heap.size_push,hz]
 rw [hz]
 have hen:=Heap.get?_push_size (s.heap.push {cls:=.type "tuple_iterator",data:=.fields #[.ref t,.int 0 0]}) (o:={cls:=.type "enumerate",data:=.fields #[.none,.bool false,.ref s.heap.objs.size,rawInt 0,.none,.none]}) rfl
 rw [hz] at hen
 exact ⟨⟨_,hen,rfl⟩,h _ hen ⟨_,gP _ (Heap.get?_push_size _ rfl),rfl,rfl⟩ hz2 fun c u z=>gP _ (gP _ z)⟩
def pq {b:Bool} {t:Addr} {vs:Array Value} {Q:Value->Shared->Prop} (hT:CoB b s.heap t vs)
  (h:∀ h',IsEnum h' (s.heap.objs.size+1) s.heap.objs.size 0 .none->ItB b h' s.heap.objs.size t 0->h'.objs.size=s.heap.objs.size+2→
   (∀ c u,s.heap.get? c=some u->h'.get? c=some u)->Q (.ref (s.heap.objs.size+1)) {s with heap:=h'}) :
  wpAny (model prog w) A (call (.type "enumerate") [.ref t]) Q E s:=by
 cases b with
 | true=>exact call_enumerate_list hT h
 | false=>exact pp hT h
end
section
variable {X:Cx} {x:Expr} {p pos tpos:Pos} {sc:Scope} {fs:De->Option (List Dt)} {elts:List Expr} {n:Nat}
def Ay (K:PySem.W.Frag) (ta:TA):TI:=fun σ H R=>ta σ H fun vs H1=>∃ b a xs,vs=[.ref a]/\SqB b K H1 a xs/\R (Ite b K a) H1
def vR {ta:TA} (h:bt sc "enumerate"=true) (hm:X.mg "enumerate"=none) (ha:PA X [x] ta) (e1:dE X sc:=by rfl) (hs:starEach [x] X.env=[(false,eval x X.env)]:=by rfl) :
  PI X (.Tuple elts n tpos) (.Call (.Name "enumerate" p) [x] [] pos) (Ay X.K ta):=by
 intro pins s σ H R I h'
 refine Call_ (kb I (glD h e1) hm mF (PyProof.Rows.callWith_type1 (thn (ha pos pins s σ H _ I h') fun us s1 ⟨vs,H1,I1,r1,q1⟩=>?_) hs rfl))
 obtain ⟨b,a,xs,rfl,hq,q⟩:=q1
 obtain ⟨u,rfl,ru⟩:=iX r1
 cases ru
 obtain ⟨its,rv,co⟩:=I1.seqB hq
 refine pq co fun h2 he hi hz hk=>wpAny_pyIter_enum he ?_
 have I2:Inv X pins σ H1 {s1 with heap:=h2}:=I1.kept (t':=s1.toks) hk
 refine ⟨s1.heap.objs.size+1,[s1.heap.objs.size+1,s1.heap.objs.size],_,_,H1,rfl,I2,sf b a _ _ (Nat.ne_of_gt (Nat.lt_succ_self _)),⟨⟨_,he⟩,hi⟩,fun c hc=>?_,q⟩
 have hge:s1.heap.objs.size<=c:=by
  simp only [List.mem_cons,List.not_mem_nil,or_false] at hc
  rcases hc with rfl | rfl
  · exact Nat.le_succ _
  · exact nL _
 exact I1.fpOk hge (I1.hok.fresh hge)
def eZ (i:Nat):List Dt->List Dt
 | []=>[]
 | d::r=>.tup [.int i,d]::eZ (i+1) r
def jy:∀ (l:List Dt) (i:Nat),(eZ i l).length=l.length
 | [],_=>rfl
 | _::r,i=>by simp [eZ,jy r]
def im:∀ (l:List Dt) (i k:Nat),(eZ i l)[k]?=l[k]?.map fun d=>.tup [.int ((i+k:Nat):Int),d]
 | [],i,k=>by simp [eZ]
 | d::r,i,0=>by simp [eZ]
 | d::r,i,k+1=>by simp [eZ,im r,Nat.add_assoc,Nat.add_comm 1]
def t7:List Dt->Option (List Dt)
 | [.lst l]=>some (eZ 0 l)
 | [.tup l]=>some (eZ 0 l)
 | _=>none
def t8 {K:PySem.W.Frag} {F:Hp} {d e:Dt} {v w:V} {t:Addr} (h:F t=some (.tup [v,w])) (r:Rep K F d v) (r':Rep K F e w):Rep K F (.tup [d,e]) (.ref t):=by
 simp only [Rep,Reps]
 exact ⟨t,_,rfl,SqT.of h,v,[w],rfl,r,w,[],rfl,r',rfl⟩
def lW {K:PySem.W.Frag} {F:Hp} {b:Bool} {a:Addr} {xs:List V} {l:List Dt} (r:Reps K F l xs):qB K F (Ite b K a) (eZ 0 l) (fun H=>SqB b K H a xs):=fun i H F2 hok fh ff=>by
 have hl:=r.length
 rw [jy]
 refine ⟨fun h=>⟨xs,xs[i],hok,by simp [show i<xs.length by omega]⟩,fun h=>⟨xs,hok,by omega⟩,fun x H' hi hy=>?_⟩
 obtain ⟨t,v,ht,rfl,rfl,hv⟩:=hy
 have hx:=hv xs hok
 obtain ⟨d,hd,rd⟩:=r.same_get hx
 refine ⟨_,upd F2 t (.tup [.int i,v]),?_,Step.new fh ht,t8 aY ij ((rd.same ff).same (Same.upd (fh.free ht)))⟩
 rw [im,hd]
 simp
def mP (h:bt sc "enumerate"=true) (hm:X.mg "enumerate"=none) (ha:DA X [x] fs) (e1:dE X sc:=by rfl) (hs:starEach [x] X.env=[(false,eval x X.env)]:=by rfl) :
  DIF X (.Tuple elts n tpos) (.Call (.Name "enumerate" p) [x] [] pos) (gi t7 fs):=PI.mono (vR h hm ha.pa e1 hs) fun σ H R ⟨Φ,δ,F,ds,hK,en,hf,k⟩=>by
 unfold gi at hf
 obtain ⟨as,hd,hf⟩:=bS hf
 refine ⟨Φ,δ,F,as,hK,en,hd,fun vs H' F' st r=>?_⟩
 unfold t7 at hf
 split at hf<;>first | (cases hf;done) | skip
 · cases hf
   simp only [Reps,Rep] at r
   obtain ⟨v,ws,rfl,⟨a,xs,rfl,h1,h2⟩,rfl⟩:=r
   exact ⟨true,a,xs,rfl,st.fh.seq h1,k _ _ H' F' st (lW (b:=true) h2) fun H2 s=>s.seq h1⟩
 · cases hf
   simp only [Reps,Rep] at r
   obtain ⟨v,ws,rfl,⟨a,xs,rfl,h1,h2⟩,rfl⟩:=r
   exact ⟨false,a,xs,rfl,st.fh.tup h1,k _ _ H' F' st (lW (b:=false) h2) fun H2 s=>s.tup h1⟩
end
section
variable {prog:Program} {w:World} {A:Around} {E:Value->Shared->Prop} {s:Shared} {z ti tO i1 i2:Addr} {fp1 fp2:List Addr} {n1 n2 k:Nat} {P1 P2:Nat->Value->Prop} {S1 S2:Nat->Heap->Prop} {va vb:Value}
end
section
variable {prog:Program} {w:World} {A:Around} {E:Value->Shared->Prop} {s:Shared}
end
section
variable {X:Cx} {pins:List (Addr×Obj)} {σ:St} {H:Hp} {s:Shared} {a:Addr} {xs ys:List V} {b c:Bool}
end
section
variable {X:Cx} {x y:Expr} {p pos tpos:Pos} {sc:Scope} {fs:De->Option (List Dt)} {elts:List Expr} {n:Nat}
end
section
variable {X:Cx} {o a b e c:Expr} {es:List Expr} {fa fb fo fe:De->Option Dt} {fs:De->Option (List Dt)} {pos apos cpos p:Pos} {i:Nat}
end
def RepBs.reps {K:PySem.W.Frag} {F H:Hp} (fh:Same F H):∀ {l:List Dt} {vs:List V},RepBs K F H l vs->Reps K H l vs
 | [],vs,h=>by simp only [Reps];exact h
 | d::l,vs,h=>by
  obtain ⟨v,ws,e,h1,h2⟩:=h
  simp only [Reps]
  exact ⟨v,ws,e,h1.rep fh,h2.reps fh⟩
def oe {K:PySem.W.Frag} {F F':Hp} {d:Dt} {v:V} (r:Rep K F d v) (h:jR d=true):Rep K F' d v:=by
 cases d<;>first | (cases h;done) | (simp only [Rep] at r ⊢;exact r)
section
variable {X:Cx} {e:Expr} {es:List Expr} {fs:De->Option (List Dt)} {pos p:Pos} {x:Str} {sc:Scope}
end
def kG {i j:Int}:bY (.int i) (.int j)=some (.leaf (.int (i+j))):=rfl
def yM {x y:Str} (h:x.length+y.length<=sizeLine):bY (.str x) (.str y)=some (.leaf (.str (x++y))):=if_pos h
def yN {l m:List Dt} (h:l.length+m.length<=sizeLine):bY (.lst l) (.lst m)=some (.lst (l++m)):=if_pos h
def gSub_i {i j:Int}:gA (.int i) (.int j)=some (.leaf (.int (i-j))):=rfl
def t9 {i j:Int} (h:jO i j=true):fQ (.int i) (.int j)=some (.leaf (.int (i*j))):=if_pos h
def ua {j:Int} (h0:0<j) (h1:j<1073741824):nV j=true:=by
 unfold nV
 simp [h0,h1]
def yO {i j:Int} (h0:0<j) (h1:j<1073741824):iu (.int i) (.int j)=some (.leaf (.int (i/j))):=if_pos (ua h0 h1)
def dG {i j:Int} (h:0<j):bV (.int i) (.int j)=some (.leaf (.int (i%j))):=if_pos h
def pr {i j:Int} (h:kF i j=true):ja (.int i) (.int j)=some (.leaf (.int (i^j.toNat))):=if_pos h
def ub:kF 2 40=true:=by decide
@[irreducible] def wide:Int:=1099511627776
def dy:wide=1099511627776:=by unfold wide;rfl
def BN:ja (.int 2) (.int 40)=some (.leaf (.int wide)):=by
 rw [pr ub,dy]
 rfl
def kH:(0:Int)<wide:=by rw [dy];decide
def gMod_w {i:Int}:bV (.int i) (.int wide)=some (.leaf (.int (i%wide))):=dG kH
def gBit_i {f:Int->Int->Int} {i j:Int}:mL f (.int i) (.int j)=some (.leaf (.int (f i j))):=rfl
def gCmp_i {f:Int->Int->Bool} {i j:Int}:j0 f (.int i) (.int j)=some (.leaf (.bl (f i j))):=rfl
def uc {i j:Int}:eqD (.int i) (.int j)=some (decide (i=j)):=rfl
def Az {l m:List Dt} (h:(cmpbs l m&&decide (deeps l<=59))=true):eqD (.lst l) (.lst m)=some (peqs l m):=if_pos h
def kI {neg:Bool} {x y:Dt} {b:Bool} (h:eqD x y=some b):gEq neg x y=some (.leaf (.bl (if neg then !b else b))):=by
 unfold gEq
 rw [h]
 rfl
def yP {i j:Int}:gEq false (.int i) (.int j)=some (.leaf (.bl (decide (i=j)))):=rfl
def ud {i j:Str}:gEq false (.str i) (.str j)=some (.leaf (.bl (decide (i=j)))):=rfl
def yQ {i j:Bool}:gEq false (.bl i) (.bl j)=some (.leaf (.bl (decide (i=j)))):=rfl
def gIx_l {l:List Dt} {i:Int}:ax (.lst l) (.int i)=(atI l i).map .leaf:=rfl
def lX {l:List Dt} {i:Int}:ax (.tup l) (.int i)=(atI l i).map .leaf:=rfl
def xn {x:Str} {i:Int} (h:x.length<=sizeLine):ax (.str x) (.int i)=(atI x.cps.toList i).map fun c=>.leaf (.str ⟨#[c]⟩):=if_pos h
def gIx_d {ks:List Key} {l:List Dt} {k:Dt}:ax (.dct ks l) k=(fm k).bind fun k=>(g0 ks l k).map .leaf:=rfl
def gLen_l {l:List Dt}:fj [.lst l]=some (.leaf (.int l.length)):=rfl
def gInt_b {i:Bool}:r9 [.bl i]=some (.leaf (.int (if i then 1 else 0))):=rfl
def g7 {j:Int} (h:lP j=true):gf [.int j]=some (bX 0 j.toNat):=if_pos h
def eI {j:Int} (h0:-1000000000<=j) (h1:j<=1000000000):lP j=true:=by
 unfold lP
 simp only [Bool.and_eq_true,decide_eq_true_eq]
 omega
def itD_l {l:List Dt}:itD (.lst l)=some l:=rfl
def truD_b {b:Bool}:tQ (.bl b)=some b:=rfl
def asB_b {b:Bool}:asB (.leaf (.bl b))=some b:=rfl
def asI_i {b:Int}:asI (.int b)=some b:=rfl
def jS {n:Nat} (h:n<=1000000):n<=sizeLine:=Nat.le_trans h (by decide)
def kJ {n:Nat} (h:n<1000000):n<sizeLine:=Nat.lt_of_lt_of_le h (by decide)
def gk {bb:Dt->De->Option De} {ft:De->Option Bool} {fe:De->Option Dt} {δ:De} {f:Dt->Dt}:∀ {ds:List Dt},(∀ d∈ds,∃ δ1,bb d δ=some δ1/\ft δ1=some true/\fe δ1=some (f d))->eG bb ft fe δ ds=some (ds.map f)
 | [],_=>rfl
 | d::r,h=>by
  obtain ⟨δ1,h1,h2,h3⟩:=h d List.mem_cons_self
  unfold eG
  rw [h1,Option.bind_some,h2,Option.bind_some,if_pos rfl,h3,Option.bind_some,gk fun e he=>h e (List.mem_cons_of_mem _ he)]
  rfl
def g8 {bb:Dt->De->Option De} {ft:De->Option Bool} {fe:De->Option Dt} {δ:De} {P:Dt->Dt->Prop}:∀ {ds:List Dt},(∀ d∈ds,∃ δ1 y,bb d δ=some δ1/\ft δ1=some true/\fe δ1=some y/\P d y)->∃ ys,eG bb ft fe δ ds=some ys/\Paired P ds ys
 | [],_=>⟨[],rfl,.nil⟩
 | d::r,h=>by
  obtain ⟨δ1,y,h1,h2,h3,h4⟩:=h d List.mem_cons_self
  obtain ⟨ys,h5,h6⟩:=g8 fun e he=>h e (List.mem_cons_of_mem _ he)
  refine ⟨y::ys,?_,.cons h4 h6⟩
  unfold eG
  rw [h1,Option.bind_some,h2,Option.bind_some,if_pos rfl,h3,Option.bind_some,h5]
  rfl
def mem_range {lo:Int} {n:Nat} {d:Dt} (h:d∈bX lo n):∃ i:Nat,i<n/\d=.int (lo+i):=by
 unfold bX at h
 obtain ⟨i,hi,rfl⟩:=List.mem_map.mp h
 exact ⟨i,List.mem_range.mp hi,rfl⟩
def d5 {lo:Int} {n:Nat}:(bX lo n).length=n:=by simp [bX]
def mQ {α:Type} {x:α} {l:List α}:atI (x::l) 0=some x:=by
 unfold atI ixN
 simp
def bZ {α:Type} {l:List α} {k:Nat}:atI l (k:Int)=l[k]?:=by
 unfold atI ixN
 rw [if_pos (by omega)]
 by_cases h:k<l.length
 · rw [if_pos (by omega)]
   simp
 · rw [if_neg (by omega)]
   simp
   omega
def kK {i j:Int} (h1:-1000000000000000000<i) (h2:i<1000000000000000000):fQ (.int i) (.int j)=some (.leaf (.int (i*j))):=t9 (vH h1 h2)
def yR {i j:Int} (h1:-1000000000000000000<j) (h2:j<1000000000000000000):fQ (.int i) (.int j)=some (.leaf (.int (i*j))):=t9 (vI h1 h2)
def qI (o:Option Out) (g:De->Option Out):Option Out:=o.bind fun o=>match o with
 | .nx δ'=>g δ'
 | o=>some o
def sSeq_d {g1 g2:De->Option Out} {δ:De}:b7 g1 g2 δ=qI (g1 δ) g2:=rfl
def ue {δ:De} {g:De->Option Out}:qI (some (.nx δ)) g=g δ:=rfl
def AA {t:T} {g:De->Option Out}:qI (some (.rt t)) g=some (.rt t):=rfl
def vS:Option Out->Option T
 | some (.rt t)=>some t
 | some (.nx _)=>some (.leaf .non)
 | _=>none
def yS {m:Nat} {g:De->Option Out} {ds:List Dt}:gY m g ds=vS (g (ds.map (fun d=>some (.leaf d))++List.replicate (m-ds.length) none)):=rfl
def BO {t:T}:vS (some (.rt t))=some t:=rfl
def lY {α:Type} (b:Option Bool) (f g:De->Option α) (δ:De):Option α:=b.bind fun b=>if b then f δ else g δ
def BP {α:Type} {f g:De->Option α} {δ:De}:lY (some true) f g δ=f δ:=rfl
def BQ {α:Type} {f g:De->Option α} {δ:De}:lY (some false) f g δ=g δ:=rfl
def dz {α:Type} {f g:De->Option α} {δ:De} {b:Bool} (h:b=true):lY (some b) f g δ=f δ:=by subst h;rfl
def cP {α:Type} {f g:De->Option α} {δ:De} {b:Bool} (h:b=false):lY (some b) f g δ=g δ:=by subst h;rfl
def sIf_d {c:De->Option Bool} {g1 g2:De->Option Out} {δ:De}:sIf c g1 g2 δ=lY (c δ) g1 g2 δ:=rfl
def vIf_d {c:De->Option Bool} {g1 g2:De->Option T} {δ:De}:vIf c g1 g2 δ=lY (c δ) g1 g2 δ:=rfl
def mkL (ds:List Dt):Option T:=if ds.length<=sizeLine then some (.lst ds) else none
def mkTp (ds:List Dt):Option T:=if ds.length<=sizeLine then some (.leaf (.tup ds)) else none
def iO {ds:List Dt} (h:ds.length<=1000000):mkL ds=some (.lst ds):=if_pos (jS h)
def BR {ds:List Dt} (h:ds.length<=1000000):mkTp ds=some (.leaf (.tup ds)):=if_pos (jS h)
def vLst_d {f:De->Option (List Dt)} {δ:De}:dN f δ=(f δ).bind mkL:=rfl
def vTup_d {f:De->Option (List Dt)} {δ:De}:cB f δ=(f δ).bind mkTp:=rfl
def BS {src:List (Option Nat)} {fi:De->Option (List Dt)} {bb:Dt->De->Option De} {ft:De->Option Bool} {fe:De->Option Dt} {δ:De}:cN src fi bb ft fe δ=(fi δ).bind fun ds=>(eG bb ft fe (dC src δ) ds).bind mkL:=rfl
def appL (l:List Dt) (i:Nat) (δ:De) (d:Dt):Option Out:=if l.length<sizeLine then some (.nx (δ.set i (some (.lst (l++[d]))))) else none
def vT {l:List Dt} {i:Nat} {δ:De} {d:Dt} (h:l.length<1000000):appL l i δ d=some (.nx (δ.set i (some (.lst (l++[d]))))):=if_pos (kJ h)
def AB {i:Nat} {f:De->Option Dt} {δ:De} {l:List Dt} (h:δ[i]?=some (some (.lst l))):z58 i f δ=(f δ).bind (appL l i δ):=by
 unfold z58
 rw [h]
 rfl
def pw (cs:List Nat):Txt.join "" (cs.map fun c=>(⟨#[c]⟩:Str))=⟨cs.toArray⟩:=by
 have e0:("":Str).cps=#[]:=by decide +kernel
 have go:∀ (l:List Nat) (acc:Array Nat),(l.map fun c=>(⟨#[c]⟩:Str)).foldl (fun acc p=>acc++("":Str).cps++p.cps) acc=acc++l.toArray:=by
  intro l
  induction l with
  | nil=>intro acc;simp
  | cons c l ih =>
   intro acc
   rw [List.map_cons,List.foldl_cons,ih,e0]
   simp
 unfold Txt.join Builtin.Str.glued
 cases cs with
 | nil=>rfl
 | cons c r =>
  show (⟨(r.map fun c=>(⟨#[c]⟩:Str)).foldl (fun acc p=>acc++("":Str).cps++p.cps) (#[c]:Array Nat)⟩:Str)=_
  rw [go]
  simp
def mR (cs:List Nat) (h:cs.length<=1000):JoinOk "" (cs.map fun c=>(⟨#[c]⟩:Str))=true:=by
 unfold JoinOk
 have h1:∀ y∈cs.map (fun c=>(⟨#[c]⟩:Str)),y.length<=1:=fun y hy=>by
  obtain ⟨c,_,rfl⟩:=List.mem_map.mp hy
  exact nL _
 rw [StrLaws.joinFits h1 (by rw [List.length_map,show ("":Str).length=0 by decide +kernel];omega)]
 rfl
def kL:∀ ts:List Str,iM (ts.map .str)=some ts
 | []=>rfl
 | t::r=>by
  show (iM (r.map .str)).map (t::·)=_
  rw [kL r]
  rfl
def sgD (cs:List Nat):List Dt:=cs.map fun c=>.str ⟨#[c]⟩
def uf {cs:List Nat} (h:cs.length<=1000):iN (.str "") [.lst (sgD cs)]=some (.leaf (.str ⟨cs.toArray⟩)):=by
 have e:sgD cs=(cs.map fun c=>(⟨#[c]⟩:Str)).map .str:=by unfold sgD;rw [List.map_map];rfl
 show (iM (sgD cs)).bind _=_
 rw [e,kL,Option.bind_some,if_pos (mR cs h),pw]
def lZ:∀ {ds ys:List Dt},Paired (fun _ y=>∃ c:Nat,y=.str ⟨#[c]⟩) ds ys->∃ cs:List Nat,ys=sgD cs/\cs.length=ds.length
 | _,_,.nil=>⟨[],rfl,rfl⟩
 | _,_,.cons ⟨c,e⟩ t=>by
  obtain ⟨cs,e1,e2⟩:=lZ t
  exact ⟨c::cs,by rw [e,e1];rfl,by simp [e2]⟩
def px {α:Type} {xs:List α} {i:Int} (h0:0<=i) (h1:i<xs.length):∃ v,atI xs i=some v/\v∈xs:=by
 obtain ⟨n,rfl⟩:=Int.eq_ofNat_of_zero_le h0
 have hn:n<xs.length:=by omega
 exact ⟨xs[n],vh (by simp [hn]),List.getElem_mem hn⟩
def vU (x:Str):x.length=x.cps.toList.length:=by
 show x.cps.size=_
 simp
def vV {x:Str} {i:Int} (hl:x.length<=1000000) (h0:0<=i) (h1:i<x.length):∃ c,ax (.str x) (.int i)=some (.leaf (.str ⟨#[c]⟩))/\c∈x.cps.toList:=by
 obtain ⟨c,e,hm⟩:=px (xs:=x.cps.toList) h0 (by rw [<- vU];exact h1)
 refine ⟨c,?_,hm⟩
 rw [xn (jS hl),e]
 rfl
def mT {l m:List Dt} (h:l.length+m.length<=1000000):bY (.lst l) (.lst m)=some (.lst (l++m)):=yN (jS h)
def sFor_d {fi:De->Option (List Dt)} {bb:Dt->De->Option De} {g:De->Option Out} {δ:De}:vE fi bb g δ=(fi δ).bind fun ds=>nS bb g ds δ:=rfl
def pz (a:Int) {n:Nat} (hn:0<n):∃ k:Nat,k<n/\a%(n:Int)=(k:Int):=by
 have h0:=Int.emod_nonneg a (show (n:Int)≠0 by omega)
 have h1:=Int.emod_lt_of_pos a (show (0:Int)<n by omega)
 exact ⟨(a%(n:Int)).toNat,by omega,by omega⟩
def atI_0 {α:Type} {l:List α}:atI l 0=l[0]?:=bZ (k:=0)
def ug {α:Type} {l:List α}:atI l 1=l[1]?:=bZ (k:=1)
def atI_2 {α:Type} {l:List α}:atI l 2=l[2]?:=bZ (k:=2)
def atI_3 {α:Type} {l:List α}:atI l 3=l[3]?:=bZ (k:=3)
def atI_4 {α:Type} {l:List α}:atI l 4=l[4]?:=bZ (k:=4)
def atI_5 {α:Type} {l:List α}:atI l 5=l[5]?:=bZ (k:=5)
def atI_6 {α:Type} {l:List α}:atI l 6=l[6]?:=bZ (k:=6)
def atI_7 {α:Type} {l:List α}:atI l 7=l[7]?:=bZ (k:=7)
def yT {α:Type} {l:List α}:atI l 12=l[12]?:=bZ (k:=12)
def yU {α:Type} {x:α} {l:List α}:atI (x::l) (-1)=(x::l)[l.length]?:=by
 unfold atI ixN
 rw [if_neg (by decide),if_pos (by simp only [List.length_cons];omega)]
 simp only [Option.bind_some]
 congr 1
 simp only [List.length_cons]
 omega
def qJ {bb:Dt->De->Option De} {g:De->Option Out} (P:List Dt->De->Prop) (all:List Dt):∀ (ds done:List Dt) (δ:De),all=done++ds->P done δ->(∀ done d r δ,all=done++d::r->P done δ->∃ δ1 δ2,bb d δ=some δ1/\(g δ1=some (.nx δ2)∨g δ1=some (.ct δ2))/\P (done++[d]) δ2)->∃ δ',nS bb g ds δ=some (.nx δ')/\P all δ'
 | [],done,δ,ha,h,_=>⟨δ,rfl,by rw [ha,List.append_nil];exact h⟩
 | d::r,done,δ,ha,h,hs=>by
  obtain ⟨δ1,δ2,h1,h2,h3⟩:=hs done d r δ ha h
  obtain ⟨δ',h4,h5⟩:=qJ P all r (done++[d]) δ2 (by rw [ha];simp) h3 hs
  refine ⟨δ',?_,h5⟩
  unfold nS
  rw [h1,Option.bind_some]
  rcases h2 with h2 | h2<;>rw [h2,Option.bind_some]<;>exact h4
def uh {lo:Int} {n:Nat} {done r:List Dt} {d:Dt} (h:bX lo n=done++d::r):d=.int (lo+done.length)/\done.length<n:=by
 have hl:done.length<n:=by
  have e:=congrArg List.length h
  rw [d5,List.length_append,List.length_cons] at e
  omega
 have e:(bX lo n)[done.length]?=some d:=by rw [h];simp
 unfold bX at e
 rw [List.getElem?_map,List.getElem?_range hl] at e
 exact ⟨(Option.some.inj e).symm,hl⟩
open PySem
def yV:(Str.ofString "copy"=Str.ofString "if")=False:=eq_false (by decide +kernel)
def yW:(Str.ofString "copy"=Str.ofString "go")=False:=eq_false (by decide +kernel)
def xo:(Str.ofString "copy"=Str.ofString "end")=False:=eq_false (by decide +kernel)
def AC:(Str.ofString "op"=Str.ofString "if")=False:=eq_false (by decide +kernel)
def AD:(Str.ofString "op"=Str.ofString "go")=False:=eq_false (by decide +kernel)
def zL:(Str.ofString "op"=Str.ofString "end")=False:=eq_false (by decide +kernel)
def yX:(Str.ofString "load"=Str.ofString "if")=False:=eq_false (by decide +kernel)
def yY:(Str.ofString "load"=Str.ofString "go")=False:=eq_false (by decide +kernel)
def xp:(Str.ofString "load"=Str.ofString "end")=False:=eq_false (by decide +kernel)
def xq:(Str.ofString "store"=Str.ofString "if")=False:=eq_false (by decide +kernel)
def xr:(Str.ofString "store"=Str.ofString "go")=False:=eq_false (by decide +kernel)
def vW:(Str.ofString "store"=Str.ofString "end")=False:=eq_false (by decide +kernel)
def yZ:(Str.ofString "take"=Str.ofString "if")=False:=eq_false (by decide +kernel)
def y0:(Str.ofString "take"=Str.ofString "go")=False:=eq_false (by decide +kernel)
def xt:(Str.ofString "take"=Str.ofString "end")=False:=eq_false (by decide +kernel)
def zM:(Str.ofString "lay"=Str.ofString "if")=False:=eq_false (by decide +kernel)
def zN:(Str.ofString "lay"=Str.ofString "go")=False:=eq_false (by decide +kernel)
def za:(Str.ofString "lay"=Str.ofString "end")=False:=eq_false (by decide +kernel)
def zb:(Str.ofString "hear"=Str.ofString "if")=False:=eq_false (by decide +kernel)
def zc:(Str.ofString "hear"=Str.ofString "go")=False:=eq_false (by decide +kernel)
def xu:(Str.ofString "hear"=Str.ofString "end")=False:=eq_false (by decide +kernel)
def zO:(Str.ofString "say"=Str.ofString "if")=False:=eq_false (by decide +kernel)
def zP:(Str.ofString "say"=Str.ofString "go")=False:=eq_false (by decide +kernel)
def zd:(Str.ofString "say"=Str.ofString "end")=False:=eq_false (by decide +kernel)
def AE:(Str.ofString "if"=Str.ofString "go")=False:=eq_false (by decide +kernel)
def zQ:(Str.ofString "end"=Str.ofString "if")=False:=eq_false (by decide +kernel)
def zR:(Str.ofString "end"=Str.ofString "go")=False:=eq_false (by decide +kernel)
def AF:(Str.ofString "+"=Str.ofString "-")=False:=eq_false (by decide +kernel)
def AG:(Str.ofString "+"=Str.ofString "*")=False:=eq_false (by decide +kernel)
def AH:(Str.ofString "+"=Str.ofString "&")=False:=eq_false (by decide +kernel)
def AI:(Str.ofString "+"=Str.ofString "|")=False:=eq_false (by decide +kernel)
def AJ:(Str.ofString "+"=Str.ofString "^")=False:=eq_false (by decide +kernel)
def AK:(Str.ofString "-"=Str.ofString "+")=False:=eq_false (by decide +kernel)
def AL:(Str.ofString "-"=Str.ofString "*")=False:=eq_false (by decide +kernel)
def AM:(Str.ofString "-"=Str.ofString "&")=False:=eq_false (by decide +kernel)
def AN:(Str.ofString "-"=Str.ofString "|")=False:=eq_false (by decide +kernel)
def AO:(Str.ofString "-"=Str.ofString "^")=False:=eq_false (by decide +kernel)
def AQ:(Str.ofString "*"=Str.ofString "+")=False:=eq_false (by decide +kernel)
def AR:(Str.ofString "*"=Str.ofString "-")=False:=eq_false (by decide +kernel)
def AS:(Str.ofString "*"=Str.ofString "&")=False:=eq_false (by decide +kernel)
def AT:(Str.ofString "*"=Str.ofString "|")=False:=eq_false (by decide +kernel)
def AU:(Str.ofString "*"=Str.ofString "^")=False:=eq_false (by decide +kernel)
def AV:(Str.ofString "<"=Str.ofString "+")=False:=eq_false (by decide +kernel)
def AW:(Str.ofString "<"=Str.ofString "-")=False:=eq_false (by decide +kernel)
def AX:(Str.ofString "<"=Str.ofString "*")=False:=eq_false (by decide +kernel)
def AY:(Str.ofString "="=Str.ofString "+")=False:=eq_false (by decide +kernel)
def AZ:(Str.ofString "="=Str.ofString "-")=False:=eq_false (by decide +kernel)
def A0:(Str.ofString "="=Str.ofString "*")=False:=eq_false (by decide +kernel)
def A5:(Str.ofString "="=Str.ofString "<")=False:=eq_false (by decide +kernel)
def A6:(Str.ofString "&"=Str.ofString "+")=False:=eq_false (by decide +kernel)
def A7:(Str.ofString "&"=Str.ofString "-")=False:=eq_false (by decide +kernel)
def A8:(Str.ofString "&"=Str.ofString "*")=False:=eq_false (by decide +kernel)
def A9:(Str.ofString "&"=Str.ofString "<")=False:=eq_false (by decide +kernel)
def Ba:(Str.ofString "&"=Str.ofString "=")=False:=eq_false (by decide +kernel)
def Bb:(Str.ofString "&"=Str.ofString "|")=False:=eq_false (by decide +kernel)
def Bc:(Str.ofString "&"=Str.ofString "^")=False:=eq_false (by decide +kernel)
def Be:(Str.ofString "|"=Str.ofString "+")=False:=eq_false (by decide +kernel)
def Bf:(Str.ofString "|"=Str.ofString "-")=False:=eq_false (by decide +kernel)
def Bg:(Str.ofString "|"=Str.ofString "*")=False:=eq_false (by decide +kernel)
def Bh:(Str.ofString "|"=Str.ofString "<")=False:=eq_false (by decide +kernel)
def Bi:(Str.ofString "|"=Str.ofString "=")=False:=eq_false (by decide +kernel)
def Bj:(Str.ofString "|"=Str.ofString "&")=False:=eq_false (by decide +kernel)
def Bk:(Str.ofString "|"=Str.ofString "^")=False:=eq_false (by decide +kernel)
def Bl:(Str.ofString "^"=Str.ofString "+")=False:=eq_false (by decide +kernel)
def Bm:(Str.ofString "^"=Str.ofString "-")=False:=eq_false (by decide +kernel)
def Bn:(Str.ofString "^"=Str.ofString "*")=False:=eq_false (by decide +kernel)
def Bo:(Str.ofString "^"=Str.ofString "<")=False:=eq_false (by decide +kernel)
def Bp:(Str.ofString "^"=Str.ofString "=")=False:=eq_false (by decide +kernel)
def Bq:(Str.ofString "^"=Str.ofString "&")=False:=eq_false (by decide +kernel)
def Br:(Str.ofString "^"=Str.ofString "|")=False:=eq_false (by decide +kernel)
section
variable {X:Cx} {b:Expr} {fb:De->Option Dt} {pos p:Pos} {x:Str} {sc:Scope} {ks:List Key} {l:List Dt}
end
section
variable {X:Cx} {elt tg iter:Expr} {ifs:List Expr} {scope:Scope} {pos:Pos} {M:List Str} {src:List (Option Nat)} {wi:TI} {g:TG} {tt:TT} {te:TE}
def sg {pins:List (Addr×Obj)} {s:Shared} {σ:St} {H:Hp} {Q:VK} {cpos:Pos} {use:Option (Value->Sem Unit)} {QQ:Value->Shared->Prop} (S:CmpScope X.N X.env.scope scope M src) (hc:X.calm=true) (hi:PI X tg iter wi) (hg:M.Nodup->∀ C s H ex,PG (cxC X M scope C s H ex) tg g) (ht:∀ C s H ex,PTs (cxC X M scope C s H ex) ifs tt)
  (he:∀ C s H ex,PE (cxC X M scope C s H ex) elt te) (hs:∀ x,foldedSetIterable iter X.env x=pure x) (I:Inv X pins σ H s) (h:lL src wi g tt te σ H Q)
  (hfin:∀ (D C:Addr) (H':Hp) (s':Shared) (m:Str->Option Value),Inv X pins σ H' s'->iG X pins H' C->s'.heap.Ns C m->Q (.ref D) H'->compPost (model X.prog X.w) X.A X.xe use QQ (.ref D) C (.ok .next) s') :
  wpAny (model X.prog X.w) X.A (comprehension (.ListComp elt [⟨tg,iter,ifs,0⟩] scope pos) scope X.env cpos (newList []) false (eval iter X.env) use) QQ X.xe s:=by
 have hcells:∀ x∈scope.names,x.2=.free->∃ c,X.env.cells.lookup x.1=some c:=fun x hx hfr=>I.ok.has x.1 (S.free x hx hfr)
 refine wpAny_comprehension_free (use:=use) rfl hs (kn hcells) S.kind S.names (thn (hi pins s σ H _ I h) fun v s1 h1=>thn h1 fun itv s2 h2=>?_)
 obtain ⟨it,fp,tn,J,H2,rfl,I2,T,st2,f2,hq⟩:=h2
 refine wpAny_newObj_type ?_
 have I3:Inv X pins σ (upd H2 s2.heap.objs.size (.lst [])) {s2 with heap:=s2.heap.push {cls:=.type "list",dict:=none,data:=.seq ([]:List Value).toArray},toks:=s2.toks}:=I2.lnew (its:=[]) (ys:=[]) (t':=s2.toks) .nil (by simp)
 have hD:H2 s2.heap.objs.size=none:=I2.fresh
 obtain ⟨W,⟨m0,w0⟩,turn⟩:=hq _ hD
 generalize hDn:s2.heap.objs.size=D at*
 generalize hs3:({s2 with heap:=s2.heap.push {cls:=.type "list",dict:=none,data:=.seq ([]:List Value).toArray},toks:=s2.toks}:Shared)=s3 at*
 have f3:∀ b∈fp,iG X pins (upd H2 D (.lst [])) b:=fun b hb=>⟨by
  obtain ⟨o,e,_⟩:=T.obj _ _ st2 b hb
  rw [bc (by rw [<- hDn];exact Nat.ne_of_lt (Heap.lt_size e))]
  exact (f2 b hb).1,(f2 b hb).2⟩
 have k23:∀ b o,s2.heap.get? b=some o->s3.heap.get? b=some o:=fun b o e=>by rw [<- hs3];exact gP _ e
 have st3:tn 0 s3.heap:=T.keep _ _ _ st2 fun b _ o e=>k23 b o e
 have fl3:∀ b∈fp,b<s3.heap.objs.size:=fun b hb=>by
  obtain ⟨o,e,_⟩:=T.obj _ _ st3 b hb
  exact Heap.lt_size e
 refine wpAny_newFunctionEnv S.nocell (by intro y hy;simp at hy) (fun h₁ hns₁ hsb₁=>?_) S.kind
 have k34:∀ b o,s3.heap.get? b=some o->h₁.get? b=some o:=fun b o e=>hsb₁.extBut b o (Nat.ne_of_lt (Heap.lt_size e)) (gP _ e)
 generalize hs4:({s3 with heap:=h₁,toks:=s3.toks+([]:List (Str×Value)).length}:Shared)=s4
 have I4:Inv (cxC X M scope s3.heap.objs.size s3 (upd H2 D (.lst [])) fp) [] (stC src σ) (upd H2 D (.lst [])) s4:=by
  rw [<- hs4]
  exact nO S I3 f3 fl3 hns₁ k34 rfl rfl
 have st4:tn 0 s4.heap:=T.keep _ _ _ st3 fun b _ o e=>by rw [<- hs4];exact k34 b o e
 generalize hX':cxC X M scope s3.heap.objs.size s3 (upd H2 D (.lst [])) fp=X' at*
 have hg':PG X' tg g:=by rw [<- hX'];exact hg S.nd _ _ _ _
 have ht':PTs X' ifs tt:=by rw [<- hX'];exact ht _ _ _ _
 have he':PE X' elt te:=by rw [<- hX'];exact he _ _ _ _
 have eP:X'.prog=X.prog:=by rw [<- hX'];rfl
 have eW:X'.w=X.w:=by rw [<- hX'];rfl
 have eK:X'.K=X.K:=by rw [<- hX'];rfl
 have eA:X'.A=X.A:=by rw [<- hX'];rfl
 have ex':X'.xe=fun _ _=>False:=by rw [<- hX'];rfl
 have ec:X'.calm=true:=by rw [<- hX'];exact hc
 have eE:X'.env=compEnvC scope (nM scope.names X.env.cells) s3.heap.objs.size X.env:=by rw [<- hX'];rfl
 have stat:∀ {H':Hp},(∀ b∈fp,H' b=none)->∀ b∈fp,iG X' [] H' b:=fun hn b hb=>by
  rw [<- hX']
  refine ⟨hn b hb,Nat.ne_of_lt (fl3 b hb),fun z=>?_,.inl hb,fun x c h=>(f3 b hb).2.2.2.2.1 x c (gS hcells h),fun p hp=>absurd hp (by simp [cxC])⟩
  rcases List.mem_cons.mp (I3.stkSub b z) with q | q
  · exact (f3 b hb).2.1 q
  · exact (f3 b hb).2.2.1 q
 -- behind the block
 have fin:∀ (H':Hp) (s':Shared),Inv X' [] (stC src σ) H' s'->Q (.ref D) H'->compPost (model X.prog X.w) X.A X.xe use QQ (.ref D) s3.heap.objs.size (.ok .next) s':=by
  intro H' s' J' q
  rw [<- hX'] at J'
  obtain ⟨m,hn,_⟩:=id J'.loc
  have hC:H' s3.heap.objs.size=none:=J'.free
  have un:Un (frs X.stack) fp (upd H2 D (.lst [])) H' s3.heap s'.heap:=J'.base
  have IA:Inv X pins σ H' s':=I3.call' (s':=s') (show s'.os=s3.os from J'.os) un J'.hok J'.bare fun b hb=>⟨(f3 b hb).2.2.2.1,(f3 b hb).2.1,(f3 b hb).2.2.2.2.1,(f3 b hb).2.2.2.2.2⟩
  exact hfin D _ H' s' m IA (I3.fpOk (nL _) hC) hn q
 have loop:∀ s4':Shared,s4'=s4->codeAny (model X.prog X.w) X.A (.compLoop (.ListComp elt [⟨tg,iter,ifs,0⟩] scope pos) 0 (.ref it) (.ref D) X'.env) (compPost (model X.prog X.w) X.A X.xe use QQ (.ref D) s3.heap.objs.size) s4':=by
  rintro _ rfl
  refine iZ (fun n s'=>∃ i H',Inv X' [] (stC src σ) H' s'/\tn i s'.heap/\(∀ b∈fp,H' b=none)/\W i n H') ?_ m0 ⟨0,_,I4,st4,fun b hb=>(f3 b hb).1,w0⟩
  rintro n s5 ⟨i,H5,I5,st5,fr5,w5⟩
  rcases turn i n H5 w5 with ⟨stop,qn⟩ | ⟨go,N,hN,step⟩
  · have:=T.done X' eP eW eK ec i [] s5 (stC src σ) H5 (fun _ _=>False) I5 (stat fr5) st5 stop
    rw [eA] at this
    refine thn this fun r s6 ⟨hr,I6⟩=>?_
    subst hr
    exact fin H5 s6 I6 qn
  · have:=T.item X' eP eW eK ec i [] s5 (stC src σ) H5 (fun _ _=>False) I5 (stat fr5) st5 go
    rw [eA] at this
    refine thn this fun r s6 ⟨u,hr,h6⟩=>?_
    subst hr
    refine thn h6 fun _ s7 ⟨x,H7,I7,r7,y7,st7,fr7⟩=>?_
    have I7':=I7.pinned (stat fr7) (T.obj _ _ st7)
    have a1:=hg' _ s7 (stC src σ) H7 x u _ I7' r7 (step x H7 y7)
    rw [ex',eP,eW,eA] at a1
    refine thn a1 fun _ s8 ⟨σ8,H8,I8,wk8,q8⟩=>?_
    have a2:=ht' _ s8 σ8 H8 _ I8 q8
    rw [ex',eP,eW,eA] at a2
    refine thn a2 fun ok s9 ⟨H9,I9,q9⟩=>?_
    have again:∀ {H7':Hp} {s':Shared},Inv X' ([]++jm fp s7.heap) σ8 H7' s'->N H7'->∃ m,m<n/\∃ i H',Inv X' [] (stC src σ) H' s'/\tn i s'.heap/\(∀ b∈fp,H' b=none)/\W i m H':=fun {H7' s'} J7 n7=>by
     obtain ⟨m',hm,w7⟩:=hN H7' n7
     refine ⟨m',hm,i+1,H7',J7.unpinned.weak wk8.1 wk8.2,T.keep _ _ _ st7 fun b hb o e=>(J7.pin (b,o) (List.mem_append_right _ (List.mem_append_right _ (d4 hb e)))).1,fun b hb=>?_,w7⟩
     obtain ⟨o,e,d⟩:=T.obj _ _ st7 b hb
     exact (J7.pin (b,o) (List.mem_append_right _ (List.mem_append_right _ (d4 hb e)))).2.1
    cases ok with
    | false=>exact again I9 q9
    | true =>
     have a3:=he' _ s9 σ8 H9 _ I9 q9
     rw [ex',eP,eW,eA] at a3
     refine thn a3 fun v s10 ⟨y,H10,I10,r10,ys,hl,hz,q10⟩=>?_
     have a4:=ii (X:=X') _ s10 σ8 H10 (.ref D) [y] (.ref D) [v] (fun _ H'=>N H') I10 rfl (.cons r10 .nil) ⟨D,ys,y,rfl,rfl,hl,hz,q10⟩
     rw [ex',eP,eW,eA] at a4
     refine thn a4 fun _ s11 ⟨_,H11,I11,_,q11⟩=>?_
     exact again I11 q11
 have e4:∀ c:Env,c=X'.env->codeAny (model X.prog X.w) X.A (.compStart (.ListComp elt [⟨tg,iter,ifs,0⟩] scope pos) 0 (.ref it) (.ref D) c) (compPost (model X.prog X.w) X.A X.xe use QQ (.ref D) s3.heap.objs.size) s4:=by
  rintro _ rfl
  exact codeAny_compStart_list (loop _ rfl) (T.self _ _ _ _ _ st4 (loop _ rfl))
 exact e4 _ (by rw [eE];rfl)
def vX {i:Nat} {y:Str} {py spos:Pos} (hN:X.N.Nodup) (hi':X.N[i]?=some y) (hx:Loc X.env.scope y) (hf:X.fn y=true∨X.env.scope.names.lookup y=some .local)
  (S:CmpScope X.N X.env.scope scope M src) (hc:X.calm=true) (hi:PI X tg iter wi) (hg:M.Nodup->∀ C s H ex,PG (cxC X M scope C s H ex) tg g) (ht:∀ C s H ex,PTs (cxC X M scope C s H ex) ifs tt)
  (he:∀ C s H ex,PE (cxC X M scope C s H ex) elt te) (hs:∀ x,foldedSetIterable iter X.env x=pure x)
  (hsw:swapsWith (.ListComp elt [⟨tg,iter,ifs,0⟩] scope pos) (some (.Name y py)) spos.line X.env=pure true) :
  PS X (.Assign [.Name y py] (.ListComp elt [⟨tg,iter,ifs,0⟩] scope pos) spos) (u4 (lL src wi g tt te) (kc i)):=by
 intro pins s σ H D I h
 rw [exec_Assign_Name_used _ _ _ _ hsw]
 refine wB (wpAny_standAt (wB ?_))
 show wpAny _ X.A (do let _ <- comprehension (.ListComp elt [⟨tg,iter,ifs,0⟩] scope pos) scope X.env _ (newList []) false (eval iter X.env) (some (assign (.Name y py) X.env))) _ _ s
 refine wB (wpAny_mono (sg (use:=some (assign (.Name y py) X.env)) (QQ:=fun _ s'=>∃ σ' H',Inv X pins σ' H' s'/\D.nx σ' H') S hc hi hg ht he hs I h ?_) (fun _ s' hq=>wpAny_pure (wpAny_pure hq)) fun _ _ e=>e)
 intro Dd C H' s' m IA hC hn q
 show wpAny _ X.A (assign (.Name y py) X.env (.ref Dd)) _ _ s'
 refine wpAny_assign_Name (lz IA hN hi' hx (v:=.ref Dd) rfl (fun s2 I2 hsb=>?_) hf)
 obtain ⟨a,sb,ha⟩:=hsb
 have ne:C≠a:=by
  rcases ha with rfl | ha
  · exact hC.2.1
  · exact Ne.symm (hC.2.2.2.2.1 y a ha)
 refine ⟨m,hn.sameBut sb ne,fun h3 sb3=>⟨_,H',?_,q⟩⟩
 have kC:∀ b o,b≠C->s2.heap.get? b=some o->h3.get? b=some o:=fun b o hb e=>sb3.extBut b o hb e
 have nm:∀ {b:Addr},b∉[C]->b≠C:=fun hb z=>hb (by rw [z];exact List.mem_cons_self)
 refine I2.call' (s':={s2 with heap:=h3}) (ch:=[C]) rfl ⟨fun b o e n hb hx=>kC b o (nm hx) e,fun b o e n hb hx=>⟨o.slots,kC b o (nm hx) e⟩,fun b o e n hx=>n,fun b o e hx=>⟨o,kC b o (nm hx) e⟩,fun b xs e=>e,fun b o u e=>e,fun b ps e=>⟨#[],by rw [Array.append_empty];exact e⟩⟩ ?_ I2.bare fun b hb=>?_
 · intro b u e
   have nb:b≠C:=fun z=>by rw [z,hC.1] at e;cases e
   refine (I2.hok b u e).stay (fun c v hc' q=>kC c v ?_ q) (fun _ q=>q) fun _ _ q=>q
   rcases hc' with z | z
   · rw [z];exact nb
   · intro w;rw [w,hC.1] at z;cases z
 · cases List.mem_singleton.mp hb
   exact ⟨hC.2.2.2.1,hC.2.1,hC.2.2.2.2.1,hC.2.2.2.2.2⟩
end
section
variable {X:Cx} {elt tg iter:Expr} {ifs:List Expr} {scope:Scope} {pos:Pos} {M:List Str} {src:List (Option Nat)} {fi:De->Option (List Dt)} {ft:De->Option Bool} {fe:De->Option Dt} {i:Nat}
def ze {K:PySem.W.Frag} {f:De->Option T} {σ:St} {H:Hp} {Q:VK} (h:tO K (toT (toD f)) σ H Q):tO K f σ H Q:=by
 obtain ⟨Φ,δ,F,t,hK,en,hf,k⟩:=h
 unfold toT toD at hf
 cases ht:f δ with
 | none=>rw [ht] at hf;cases hf
 | some u =>
  rw [ht] at hf
  cases hf
  exact ⟨Φ,δ,F,u,hK,en,ht,k.leaf.to⟩
def kM {sc:Scope} {N:List Str} {y:Str} {py spos:Pos} {ts:List Nat} {bb:Dt->De->Option De} (h:gH sc N i y=true) (hl:lv sc y=true) (nd:N.Nodup) (S:CmpScope X.N X.env.scope scope M src) (hc:X.calm=true) (hi:DIB X tg iter fi) (hg:M.Nodup->∀ C s H ex,DG (cxC X M scope C s H ex) tg ts bb)
  (ht:∀ C s H ex,DTs (cxC X M scope C s H ex) ifs ft) (he:∀ C s H ex,DL (cxC X M scope C s H ex) elt fe) (hts:(ts.all fun k=>decide (src[k]?=some none))=true) (hs:∀ x,foldedSetIterable iter X.env x=pure x:=by intro _;rfl)
  (e1:dE X sc:=by rfl) (e2:X.N=N:=by rfl) (hf:X.fn y=true∨X.env.scope.names.lookup y=some .local:=by exact .inl rfl) (hsw:swapsWith (.ListComp elt [⟨tg,iter,ifs,0⟩] scope pos) (some (.Name y py)) spos.line X.env=pure true:=by rfl) :
  DS1 X (.Assign [.Name y py] (.ListComp elt [⟨tg,iter,ifs,0⟩] scope pos) spos) (dF i (toT (toD (cN src fi bb ft fe)))):=by
 have e1:X.env.scope=sc:=e1
 subst e1 e2
 refine PS.mono (vX (g:=gD X.K ts bb) (tt:=tTr X.K ft) (te:=tL X.K fe) nd (kx h) (o9 hl) hf S hc hi (fun nd C s H ex=>hg nd C s H ex) (fun C s H ex=>ht C s H ex) (fun C s H ex=>he C s H ex) hs hsw) fun D σ H ⟨Φ,δ,F,o,hK,en,hf',k⟩=>?_
 unfold dF at hf'
 obtain ⟨t,ht',hf'⟩:=mS hf'
 cases hf'
 exact qD S hts σ H _ (ze ⟨Φ,δ,F,t,hK,en,ht',fun v H' F' S st o hs=>k _ F' H' (en.put st (hK▸o) hs i)⟩)
end
def ClsAt.inj {K:PySem.W.Frag} {c:Str} {C C':Addr} (h:ClsAt K c C) (h':ClsAt K c C'):C=C':=by
 unfold ClsAt at h h'
 rw [h] at h'
 cases h'
 rfl
def iP (K:PySem.W.Frag) (c f:Str):Prop:=∃ C,ClsAt K c C/\Cls K C/\NoAttr K C f
section
variable {X:Cx} {e o:Expr} {f:Str} {pos pos' apos cpos:Pos} {i j:Nat} {c:Str} {NS:List Str} {fe:De->Option T} {fd:De->Option Dt}
end
section
variable {X:Cx} {e o ik:Expr} {f:Str} {pos pos' apos cpos spos:Pos} {i j:Nat} {c:Str} {NS:List Str} {fe:De->Option T} {fd fk:De->Option Dt}
end
structure OkM (P:Program) (w:World) (K:PySem.W.Frag) (mg:Str->Option Value) (base:Heap) (c m:Str) (k:Nat) (ps:List Str) (sp:Sp):Prop where
 ex:∃ C f fd,ClsAt K c C/\Cls K C/\Meth K C m f/\Binds K fd ps []/\FnOk P w K mg base CX0 k f fd ps sp
structure DefM (K:PySem.W.Frag) (c m q:Str) (st:Stmt) (ps:List Str):Prop where
 ex:∃ C f fd,ClsAt K c C/\Cls K C/\Meth K C m f/\Binds K fd ps []/\Fun K m q st f fd
structure OkI (P:Program) (w:World) (K:PySem.W.Frag) (mg:Str->Option Value) (base:Heap) (c:Str) (k:Nat) (ps:List Str) (sp:Sp):Prop where
 ex:∃ C f fd,ClsAt K c C/\mg c=some (.ref C)/\Mk K C f/\Binds K fd ps []/\FnOk P w K mg base CX0 k f fd ps sp
structure DefI (K:PySem.W.Frag) (mg:Str->Option Value) (c q:Str) (st:Stmt) (ps:List Str):Prop where
 ex:∃ C f fd,ClsAt K c C/\mg c=some (.ref C)/\Mk K C f/\Binds K fd ps []/\Fun K "__init__" q st f fd
def qK:T->Option T
 | .leaf d=>if jR d then some (.leaf d) else none
 | .lst l=>if l.all jR then some (.lst l) else none
 | _=>none
def ma {K:PySem.W.Frag} {F F':Hp}:∀ {l:List Dt} {vs:List V},Reps K F l vs->l.all jR=true->Reps K F' l vs
 | [],vs,h,_=>by simp only [Reps] at h ⊢;exact h
 | d::l,vs,h,hf=>by
  simp only [List.all_cons,Bool.and_eq_true] at hf
  simp only [Reps] at h ⊢
  obtain ⟨v,ws,e,h1,h2⟩:=h
  exact ⟨v,ws,e,oe h1 hf.1,ma h2 hf.2⟩
def ui {K:PySem.W.Frag} {F1 H1:Hp} {u t:T} {Q:VK} (fh:Same F1 H1) (hf:qK u=some t) (k:KO K F1 H1 t Q):KO K H1 H1 u Q:=fun v H' F' S st o hs=>by
 unfold qK at hf
 split at hf<;>first | (cases hf;done) | skip
 · split at hf<;>first | (cases hf;done) | skip
   rename_i d hd
   cases hf
   exact k.leaf v H' F1 ⟨st.hh,Same.refl _,fh.trans st.hh,fun b o e=>.inl e⟩ (oe o hd)
 · split at hf<;>first | (cases hf;done) | skip
   rename_i l hl
   cases hf
   obtain ⟨a,vs,e,sa,h1,h2⟩:=o
   refine k v H' F1 S ⟨st.hh,Same.refl _,fh.trans st.hh,fun b o e=>.inl e⟩ ⟨a,vs,e,sa,h1,ma h2 hl⟩ fun b z=>⟨?_,(hs b z).2.1,(hs b z).2.2⟩
   cases q:F1 b with
   | none=>rfl
   | some o=>have y:=(hs b z).2.1;rw [fh _ _ q] at y;cases y
def jT {m:Str}:∀ {fs:List (Str×V)},m∉fs.map (·.1)->fs.lookup m=none
 | [],_=>rfl
 | (g,x)::fs,h=>by
  simp only [List.map_cons,List.mem_cons,not_or] at h
  have:(m==g)=false:=by simpa using h.1
  simp only [List.lookup,this]
  exact jT h.2
section
variable {X:Cx} {e o:Expr} {es:List Expr} {m c:Str} {pos apos cpos p:Pos} {i j:Nat} {NS ps:List Str} {fo:De->Option Dt} {fs:De->Option (List Dt)} {ff:List Dt->Option T} {k n:Nat}
end
section
variable {K:PySem.W.Frag} {F H:Hp} {ts:List T} {vs:List V} {S:Nat->Addr->Prop} {N:List Str}
end
section
variable {P:Program} {w:World} {K:PySem.W.Frag} {mg:Str->Option Value} {base:Heap}
end
section
variable {X:Cx} {e:Expr} {pos:Pos} {fd:De->Option Dt}
end
section
variable {X:Cx} {e:Expr} {es:List Expr} {i:Nat} {ags:List Ag} {f:De->Option Dt}
end
section
variable {X:Cx} {e o:Expr} {es:List Expr} {x m c:Str} {pos apos cpos p:Pos} {i j:Nat} {NS ps:List Str} {sc:Scope} {k n:Nat} {f:List T->Option (T×List T)} {ags:List Ag} {fs:De->Option (List Dt)} {fe fk:De->Option Dt}
end
def mU (neg:Bool):Dt->Dt->Option T
 | .bl a,.bl b=>some (.leaf (.bl (if neg then !decide (a=b) else decide (a=b))))
 | _,_=>none
section
variable {X:Cx}
def zf:OpR X (compareOp .Is) (fun x y H Q=>∃ a b,x=.bl a/\y=.bl b/\Q (.bl (decide (a=b))) H):=by
 intro pins s σ H x y v u Q I rx ry h
 obtain ⟨a,b,rfl,rfl,q⟩:=h
 cases rx
 cases ry
 refine wpAny_is_plain rfl (bK I q ?_)
 cases a<;>cases b<;>rfl
def sj:OpR X (compareOp .IsNot) (fun x y H Q=>∃ a b,x=.bl a/\y=.bl b/\Q (.bl (!decide (a=b))) H):=by
 intro pins s σ H x y v u Q I rx ry h
 obtain ⟨a,b,rfl,rfl,q⟩:=h
 cases rx
 cases ry
 refine wpAny_isNot_plain rfl (bK I q ?_)
 cases a<;>cases b<;>rfl
def Bs {K:PySem.W.Frag}:R2D K (fun x y H Q=>∃ a b,x=.bl a/\y=.bl b/\Q (.bl (decide (a=b))) H) (mU false):=by
 intro F H x y vx vy Q t fh rx ry hg k
 unfold mU at hg
 split at hg<;>first | (cases hg;done) | skip
 cases hg;cases rx;cases ry
 exact ⟨_,_,rfl,rfl,k.bl fh⟩
def uj {K:PySem.W.Frag}:R2D K (fun x y H Q=>∃ a b,x=.bl a/\y=.bl b/\Q (.bl (!decide (a=b))) H) (mU true):=by
 intro F H x y vx vy Q t fh rx ry hg k
 unfold mU at hg
 split at hg<;>first | (cases hg;done) | skip
 cases hg;cases rx;cases ry
 exact ⟨_,_,rfl,rfl,k.bl fh⟩
def uk (K:PySem.W.Frag):R2:=fun x y H Q=>∃ a b ys,x=.ref a/\y=.ref b/\SqT K H a []/\SqT K H b ys/\Q (.ref b) H
def vY:OpR X (binaryOp .Add) (uk X.K):=by
 intro pins s σ H x y v u Q I rx ry h
 obtain ⟨a,b,ys,rfl,rfl,ha,hb,q⟩:=h
 cases rx
 cases ry
 obtain ⟨its,r1,p1,_⟩:=I.tuple ha
 obtain ⟨its2,r2,p2,_⟩:=I.tuple hb
 cases r1
 obtain ⟨⟨cls,dd,data,sl⟩,ho,hc,n,hd⟩:=id p1
 obtain ⟨⟨cls2,dd2,data2,sl2⟩,ho2,hc2,n2,hd2⟩:=id p2
 simp only at hc hd hc2 hd2
 subst hc hd hc2 hd2
 exact concat_meets ⟨_,ho,rfl⟩ ⟨_,ho2,rfl⟩ noFill_tuple_add seq_tuple_add PySem.F.slot_tuple_add PySem.F.entry_tuple_add (PySem.F.args_tuple_add_2 _ _)
  (tuple_addW0 a b #[] its2.toArray n n2 dd dd2 sl sl2 rfl) ⟨ho,ho2,⟨.ref b,H,I,rfl,q⟩⟩
def md:Dt->Dt->Option T
 | .tup [],.tup m=>some (.leaf (.tup m))
 | .tup (d::l),.tup (e::m)=>bY (.tup (d::l)) (.tup (e::m))
 | _,_=>none
def vZ:OpR X (binaryOp .Add) (fun x y H Q=>uk X.K x y H Q∨qE X.K x y H Q):=OpR.or vY br
def zg {K:PySem.W.Frag}:R2D K (fun x y H Q=>uk K x y H Q∨qE K x y H Q) md:=by
 intro F H x y vx vy Q t fh rx ry hg k
 unfold md at hg
 split at hg<;>first | (cases hg;done) | skip
 · rename_i m
   cases hg
   obtain ⟨a,vs,rfl,h1,h2⟩:=rx
   obtain ⟨b,ws,rfl,h3,h4⟩:=ry
   simp only [Reps] at h2
   subst h2
   refine .inl ⟨a,b,ws,rfl,rfl,fh.tup h1,fh.tup h3,k.leaf.here fh ?_⟩
   simp only [Rep]
   exact ⟨b,ws,rfl,h3,h4⟩
 · exact .inr (b6 F H _ _ vx vy Q t fh rx ry hg k)
end
def ul:De->Option (List (Key×Dt)):=fun _=>some []
def gv (fk fv:De->Option Dt) (g:De->Option (List (Key×Dt))):De->Option (List (Key×Dt)):=fun δ=>(fk δ).bind fun k=>(fm k).bind fun k=>(fv δ).bind fun v=>(g δ).map fun l=>(k,v)::l
def qL (g:De->Option (List (Key×Dt))):De->Option T:=fun δ=>(g δ).bind fun l=>if l.length<=15/\(l.map (·.1)).Nodup then some (.dct l) else none
def me:∀ (more acc:List (Key×V)),((acc++more).map (·.1)).Nodup->fB acc more=acc++more
 | [],acc,_=>by simp [fB]
 | p::more,acc,h=>by
  have hp:dl acc p.1 p.2=acc++[(p.1,p.2)]:=by
   unfold dl
   rw [if_neg]
   rw [List.map_append,List.nodup_append] at h
   intro z
   obtain ⟨q,hq,e⟩:=List.any_eq_true.mp z
   exact h.2.2 q.1 (List.mem_map_of_mem hq) p.1 (by simp) (of_decide_eq_true e)
  show fB (dl acc p.1 p.2) more=_
  rw [hp,me more (acc++[(p.1,p.2)]) (by simpa using h)]
  simp
noncomputable def tPP (K:PySem.W.Frag) (g:De->Option (List (Key×Dt))) (σ:St) (H:Hp) (Q:List (V×V)->Hp->Prop):Prop:=∃ Φ δ F l,Fm.K Φ=K/\En Φ δ σ F H/\g δ=some l∧
 ∀ (kvs:List (Key×V)) H' F',Step F H F' H'->kvs.map (·.1)=l.map (·.1)->Reps K F' (l.map (·.2)) (kvs.map (·.2))->Q (kvs.map fun kv=>(kV kv.1,kv.2)) H'
structure DPPs (X:Cx) (pos:Pos) (keys:List (Option Expr)) (values:List Expr) (g:De->Option (List (Key×Dt))):Prop where
 ex:∃ trs,PPs X pos keys values trs/\∀ σ H Q,tPP X.K g σ H Q->kl trs σ H Q
section
variable {X:Cx} {pos:Pos} {k v:Expr} {ks:List (Option Expr)} {vs:List Expr} {fk fv:De->Option Dt} {g:De->Option (List (Key×Dt))}
def v8:DPPs X pos [] [] ul:=⟨[],qf,fun σ H Q ⟨Φ,δ,F,l,hK,en,hg,q⟩=>by
 cases hg
 exact q [] H F (Step.refl en.fh) rfl (by simp [Reps])⟩
def gl (hk:DL X k fk) (hv:DL X v fv) (h:DPPs X pos ks vs g):DPPs X pos (some k::ks) (v::vs) (gv fk fv g):=by
 obtain ⟨trs,h1,h2⟩:=h.ex
 refine ⟨_,nK hk hv h1,fun σ H Q ⟨Φ,δ,F,l,hK,en,hg,q⟩=>?_⟩
 unfold gv at hg
 obtain ⟨kd,hkd,hg1⟩:=bS hg
 obtain ⟨kk,hkk,hg2⟩:=bS hg1
 obtain ⟨d,hd,hg3⟩:=bS hg2
 obtain ⟨r,hr,hg4⟩:=mS hg3
 subst hg4
 refine ⟨Φ,δ,F,kd,hK,en,hkd,fun x H1 F1 st rx=>⟨Φ,δ,F1,d,hK,en.step st,hd,fun y H2 F2 st2 ry=>h2 _ _ _ ⟨Φ,δ,F2,r,hK,(en.step st).step st2,hr,fun kvs H3 F3 st3 e1 r3=>?_⟩⟩⟩
 have:=qH (RepB.of st.fh rx) hkk
 subst this
 refine q ((kk,y)::kvs) H3 F3 ((st.trans st2).trans st3) (by simp [e1]) ?_
 simp only [List.map_cons,Reps]
 exact ⟨y,_,rfl,ry.same st3.ff,r3⟩
def v9 (h:DPPs X pos ks vs g) (hall:ks.all (·.isSome)=true) (hl:ks.length=vs.length) (h0:ks≠[]) (h15:ks.length<=15):DO X (.Dict ks vs pos) (qL g):=by
 obtain ⟨trs,h1,h2⟩:=h.ex
 refine PE.mono (qg h1 hall hl h0 h15) fun σ H Q ⟨Φ,δ,F,t,hK,en,hg,q⟩ p hp=>h2 _ _ _ ?_
 unfold qL at hg
 obtain ⟨l,hl,hg1⟩:=bS hg
 split at hg1<;>first | (cases hg1;done) | skip
 rename_i hc
 cases hg1
 have st0:=Step.made (o:=.dK []) en.fh hp
 refine ⟨Φ,δ,F,l,hK,en.step st0,hl,fun kvs H2 F2 st e1 r=>?_⟩
 have hp2:H2 p=some (.dK []):=st.hh _ _ aY
 have len:kvs.length=l.length:=by simpa using congrArg List.length e1
 have fp:F2 p=none:=by
  cases z:F2 p with
  | none=>rfl
  | some o =>
   rcases st.nw p o z with y | y
   · rw [en.fh.free hp] at y;cases y
   · rw [aY] at y;cases y
 refine ⟨hp2,kvs,rfl,by omega,?_⟩
 rw [me kvs [] (by rw [List.nil_append,e1];exact hc.2),List.nil_append]
 refine q _ _ F2 (fun b=>b=p) ⟨fun b o e=>?_,st.ff,fun b o e=>?_,fun b o e=>?_⟩ ⟨p,kvs,rfl,rfl,aY,e1,r⟩ fun b z=>?_
 · have nb:=cg e hp
   rw [bc nb]
   exact st.hh _ _ (by rw [bc nb];exact e)
 · rw [bc (cg e fp)]
   exact st.fh _ _ e
 · rcases st.nw b o e with y | y
   · exact .inl y
   · by_cases nb:b=p
     · subst nb;exact .inr hp
     · rw [bc nb] at y;exact .inr y
 · subst z
   exact ⟨fp,hp,_,aY⟩
end
section
variable {X:Cx} {pins:List (Addr×Obj)} {σ:St} {H:Hp} {s:Shared} {a:Addr} {u:HO} {ob:Obj}
end
section
variable {X:Cx} {tg:Expr}
end
inductive CV where
 | dat (d:Dt) | ref (i:Nat)
inductive CO where
 | lst (l:List CV) | tup (l:List CV) | dK (l:List (Key×CV)) | ins (c:Str) (ns:List Str) (l:List CV) | wk (l:List (Key×CV))
abbrev CH:=List CO
abbrev Sl:=List (Option CV)
section
variable (K:PySem.W.Frag) (F H:Hp) (ρ:Nat->Addr) (n:Nat)
def RelC:CV->V->Prop
 | .dat d,v=>Rep K F d v
 | .ref i,v=>i<n/\v=.ref (ρ i)
def RelCs:List CV->List V->Prop
 | [],vs=>vs=[]
 | c::l,vs=>∃ v ws,vs=v::ws/\RelC K F ρ n c v/\RelCs l ws
noncomputable def CoOk (a:Addr):CO->Prop
 | .lst l=>∃ vs,H a=some (.lst vs)/\RelCs K F ρ n l vs
 | .tup l=>∃ vs,H a=some (.tup vs)/\RelCs K F ρ n l vs
 | .dK l=>∃ kvs,H a=some (.dK kvs)/\kvs.map (·.1)=l.map (·.1)/\RelCs K F ρ n (l.map (·.2)) (kvs.map (·.2))
 | .ins c ns l=>∃ C dx fs,ClsAt K c C/\H a=some (.ins C dx fs)/\fs.map (·.1)=ns/\RelCs K F ρ n l (fs.map (·.2))
 | .wk l=>∃ o kvs,H a=some (.frz o (.dK kvs))/\kvs.map (·.1)=l.map (·.1)/\RelCs K F ρ n (l.map (·.2)) (kvs.map (·.2))
end
section
variable {K:PySem.W.Frag} {F H F' H' F1 H1:Hp} {ρ ρ' ρ1:Nat->Addr} {n n':Nat} {c:CV} {v:V}
def RelC.mono (ff:Same F F') (he:∀ i,i<n->ρ' i=ρ i) (hn:n<=n') (h:RelC K F ρ n c v):RelC K F' ρ' n' c v:=by
 cases c with
 | dat d=>exact Rep.same ff h
 | ref i=>exact ⟨Nat.lt_of_lt_of_le h.1 hn,by rw [he i h.1];exact h.2⟩
def RelCs.mono (ff:Same F F') (he:∀ i,i<n->ρ' i=ρ i) (hn:n<=n'):∀ {l:List CV} {vs:List V},RelCs K F ρ n l vs->RelCs K F' ρ' n' l vs
 | [],_,h=>h
 | c::l,vs,h=>by
  obtain ⟨v,ws,e,h1,h2⟩:=h
  exact ⟨v,ws,e,h1.mono ff he hn,RelCs.mono ff he hn h2⟩
def RelCs.length:∀ {l:List CV} {vs:List V},RelCs K F ρ n l vs->vs.length=l.length
 | [],_,h=>by rw [show _=[] from h];rfl
 | c::l,vs,h=>by
  obtain ⟨v,ws,rfl,h1,h2⟩:=h
  simp [RelCs.length h2]
def RelCs.get:∀ {l:List CV} {vs:List V} {i:Nat} {c:CV},RelCs K F ρ n l vs->l[i]?=some c->∃ v,vs[i]?=some v/\RelC K F ρ n c v
 | [],_,_,_,_,e=>by simp at e
 | c::l,vs,0,c',h,e=>by
  obtain ⟨v,ws,rfl,h1,h2⟩:=h
  simp at e
  subst e
  exact ⟨v,rfl,h1⟩
 | c::l,vs,i+1,c',h,e=>by
  obtain ⟨v,ws,rfl,h1,h2⟩:=h
  obtain ⟨u,q1,q2⟩:=RelCs.get (i:=i) h2 (by simpa using e)
  exact ⟨u,by simpa using q1,q2⟩
def RelCs.set {c:CV} {v:V} (r:RelC K F ρ n c v):∀ {l:List CV} {vs:List V} (i:Nat),RelCs K F ρ n l vs->RelCs K F ρ n (l.set i c) (vs.set i v)
 | [],vs,i,h=>by rw [show vs=[] from h];rfl
 | x::l,vs,0,h=>by
  obtain ⟨u,ws,rfl,h1,h2⟩:=h
  exact ⟨v,ws,rfl,r,h2⟩
 | x::l,vs,i+1,h=>by
  obtain ⟨u,ws,rfl,h1,h2⟩:=h
  exact ⟨u,ws.set i v,rfl,h1,RelCs.set r i h2⟩
def RelCs.append:∀ {l m:List CV} {vs ws:List V},RelCs K F ρ n l vs->RelCs K F ρ n m ws->RelCs K F ρ n (l++m) (vs++ws)
 | [],m,vs,ws,h,h'=>by rw [show vs=[] from h];exact h'
 | x::l,m,vs,ws,h,h'=>by
  obtain ⟨u,us,rfl,h1,h2⟩:=h
  exact ⟨u,us++ws,rfl,h1,RelCs.append h2 h'⟩
def RelCs.one {c:CV} {v:V} (r:RelC K F ρ n c v):RelCs K F ρ n [c] [v]:=⟨v,[],rfl,r,rfl⟩
def RelCs.dats:∀ {l:List Dt} {vs:List V},Reps K F l vs->RelCs K F ρ n (l.map .dat) vs
 | [],vs,h=>by simp only [Reps] at h;exact h
 | d::l,vs,h=>by
  simp only [Reps] at h
  obtain ⟨v,ws,e,h1,h2⟩:=h
  exact ⟨v,ws,e,h1,RelCs.dats h2⟩
def CoOk.mono {a:Addr} {o:CO} (ff:Same F F') (he:∀ i,i<n->ρ' i=ρ i) (hn:n<=n') (ha:∀ u,H a=some u->H' a=some u) (h:CoOk K F H ρ n a o):CoOk K F' H' ρ' n' a o:=by
 cases o with
 | lst l=>obtain ⟨vs,h1,h2⟩:=h;exact ⟨vs,ha _ h1,h2.mono ff he hn⟩
 | tup l=>obtain ⟨vs,h1,h2⟩:=h;exact ⟨vs,ha _ h1,h2.mono ff he hn⟩
 | dK l=>obtain ⟨vs,h1,h2,h3⟩:=h;exact ⟨vs,ha _ h1,h2,h3.mono ff he hn⟩
 | ins c ns l=>obtain ⟨C,dx,fs,h0,h1,h2,h3⟩:=h;exact ⟨C,dx,fs,h0,ha _ h1,h2,h3.mono ff he hn⟩
 | wk l=>obtain ⟨o,vs,h1,h2,h3⟩:=h;exact ⟨o,vs,ha _ h1,h2,h3.mono ff he hn⟩
def CoOk.there {a:Addr} {o:CO} (h:CoOk K F H ρ n a o):∃ u,H a=some u:=by
 cases o with
 | lst l=>obtain ⟨vs,h1,h2⟩:=h;exact ⟨_,h1⟩
 | tup l=>obtain ⟨vs,h1,h2⟩:=h;exact ⟨_,h1⟩
 | dK l=>obtain ⟨vs,h1,h2⟩:=h;exact ⟨_,h1⟩
 | ins c ns l=>obtain ⟨C,dx,fs,h0,h1,h2⟩:=h;exact ⟨_,h1⟩
 | wk l=>obtain ⟨o,vs,h1,h2⟩:=h;exact ⟨_,h1⟩
end
structure Gh (K:PySem.W.Frag) (F H:Hp) (ρ:Nat->Addr) (ch:CH):Prop where
 fh:Same F H
 inj:∀ i j,i<ch.length->j<ch.length->ρ i=ρ j->i=j
 out:∀ i,i<ch.length->F (ρ i)=none
 ok:∀ i o,ch[i]?=some o->CoOk K F H ρ ch.length (ρ i) o
structure Adv (K:PySem.W.Frag) (F H:Hp) (ρ:Nat->Addr) (ch:CH) (F' H':Hp) (ρ':Nat->Addr) (ch':CH):Prop where
 gh:Gh K F' H' ρ' ch'
 len:ch.length<=ch'.length
 ext:∀ i,i<ch.length->ρ' i=ρ i
 fr:∀ i,ch.length<=i->i<ch'.length->H (ρ' i)=none
 prot:∀ b o,H b=some o->(∀ i,i<ch.length->ρ i≠b)->H' b=some o
 old:Same F F'
 nw:∀ b o,F' b=some o->F b=some o∨H b=none
 fz:∀ b o u,H b=some (.frz o u)->H' b=some (.frz o u)
section
variable {K:PySem.W.Frag} {F H F' H' F1 H1:Hp} {ρ ρ' ρ1:Nat->Addr} {ch ch' ch1:CH} {c:CV} {v:V}
def Gh.at (g:Gh K F H ρ ch) {i:Nat} (hi:i<ch.length):∃ u,H (ρ i)=some u:=(g.ok i ch[i] (by simp [hi])).there
def Adv.refl (g:Gh K F H ρ ch):Adv K F H ρ ch F H ρ ch:=⟨g,nL _,fun _ _=>rfl,fun i h1 h2=>absurd h2 (Nat.not_lt.mpr h1),fun _ _ h _=>h,Same.refl _,fun _ _ h=>.inl h,fun _ _ _ h=>h⟩
def Adv.back (g:Gh K F H ρ ch) (a:Adv K F H ρ ch F1 H1 ρ1 ch1) {b:Addr} (h:H1 b=none):H b=none:=by
 cases q:H b with
 | none=>rfl
 | some o =>
  by_cases z:∃ i,i<ch.length/\ρ i=b
  · obtain ⟨i,hi,rfl⟩:=z
    obtain ⟨u,hu⟩:=a.gh.at (Nat.lt_of_lt_of_le hi a.len)
    rw [a.ext i hi,h] at hu
    cases hu
  · rw [a.prot b o q fun i hi e=>z ⟨i,hi,e⟩] at h
    cases h
def Adv.trans (g:Gh K F H ρ ch) (a:Adv K F H ρ ch F1 H1 ρ1 ch1) (b:Adv K F1 H1 ρ1 ch1 F' H' ρ' ch'):Adv K F H ρ ch F' H' ρ' ch' where
 gh:=b.gh
 len:=Nat.le_trans a.len b.len
 ext:=fun i hi=>(b.ext i (Nat.lt_of_lt_of_le hi a.len)).trans (a.ext i hi)
 fr:=fun i h1 h2=>by
  by_cases hi:i<ch1.length
  · rw [b.ext i hi]
    exact a.fr i h1 hi
  · exact a.back g (b.fr i (Nat.not_lt.mp hi) h2)
 prot:=fun x o h1 h2=>b.prot x o (a.prot x o h1 h2) fun i hi e=>by
  by_cases hj:i<ch.length
  · rw [a.ext i hj] at e
    exact h2 i hj e
  · have:=a.fr i (Nat.not_lt.mp hj) hi
    rw [e,h1] at this
    cases this
 old:=a.old.trans b.old
 nw:=fun x o h=>(b.nw x o h).elim (a.nw x o) fun z=>.inr (a.back g z)
 fz:=fun x o u h=>b.fz x o u (a.fz x o u h)
def Gh.of (g:Gh K F H ρ ch) (st:Step F H F' H'):Gh K F' H' ρ ch:=by
 refine ⟨st.fh,g.inj,fun i hi=>?_,fun i o h=>(g.ok i o h).mono st.ff (fun _ _=>rfl) (nL _) fun u hu=>st.hh _ _ hu⟩
 cases q:F' (ρ i) with
 | none=>rfl
 | some o =>
  rcases st.nw _ _ q with z | z
  · rw [g.out i hi] at z;cases z
  · obtain ⟨u,hu⟩:=g.at hi
    rw [hu] at z;cases z
def Adv.of (g:Gh K F H ρ ch) (st:Step F H F' H'):Adv K F H ρ ch F' H' ρ ch:=
 ⟨g.of st,nL _,fun _ _=>rfl,fun i h1 h2=>absurd h2 (Nat.not_lt.mpr h1),fun b o h _=>st.hh b o h,st.ff,st.nw,fun b o u h=>st.hh b _ h⟩
def Adv.upd (g:Gh K F H ρ ch) {i:Nat} {o:CO} {u w:HO} (hi:i<ch.length) (hw:H (ρ i)=some w) (hz:∀ x y,w≠.frz x y) (ho:CoOk K F (upd H (ρ i) u) ρ ch.length (ρ i) o):Adv K F H ρ ch F (upd H (ρ i) u) ρ (ch.set i o) where
 gh:=⟨fun b x e=>by
     have:b≠ρ i:=fun q=>by rw [q,g.out i hi] at e;cases e
     rw [bc this]
     exact g.fh b x e,fun j k hj hk=>g.inj j k (by simpa using hj) (by simpa using hk),fun j hj=>g.out j (by simpa using hj),fun j x hx=>by
     rw [List.length_set]
     rw [List.getElem?_set] at hx
     split at hx
     · rename_i q
       subst q
       first
        | (split at hx<;>first | (cases hx;exact ho) | cases hx)
        | (cases hx;exact ho)
     · rename_i q
       refine (g.ok j x hx).mono (Same.refl _) (fun _ _=>rfl) (nL _) fun y hy=>?_
       have hj:j<ch.length:=(gX hx).1
       rw [bc fun e=>q (g.inj j i hj hi e).symm]
       exact hy⟩
 len:=by simp
 ext:=fun _ _=>rfl
 fr:=fun j h1 h2=>absurd h2 (by simpa using h1)
 prot:=fun b x h1 h2=>by
  rw [bc fun e=>h2 i hi e.symm]
  exact h1
 old:=Same.refl _
 nw:=fun b x h=>.inl h
 fz:=fun b x y h=>by
  rw [bc fun e=>by rw [e,hw] at h;exact hz x y (Option.some.inj h)]
  exact h
def Adv.new (g:Gh K F H ρ ch) (st:Step F H F' H') {a:Addr} {o:CO} (ha:H a=none) (hf:F' a=none) (ho:CoOk K F' H' (fun i=>if i=ch.length then a else ρ i) (ch.length+1) a o) :
  Adv K F H ρ ch F' H' (fun i=>if i=ch.length then a else ρ i) (ch++[o]):=by
 have g':=(Adv.of g st).gh
 have lt:∀ {i:Nat},i<ch.length->(if i=ch.length then a else ρ i)=ρ i:=fun {i} hi=>if_neg (Nat.ne_of_lt hi)
 have ne:∀ {i:Nat},i<ch.length->ρ i≠a:=fun {i} hi e=>by
  obtain ⟨u,hu⟩:=g.at hi
  rw [e,ha] at hu
  cases hu
 refine ⟨⟨st.fh,fun i j hi hj e=>?_,fun i hi=>?_,fun i x hx=>?_⟩,by simp,fun i hi=>lt hi,fun i h1 h2=>?_,fun b x h1 _=>st.hh b x h1,st.ff,st.nw,fun b o u h=>st.hh b _ h⟩
 · simp only [List.length_append,List.length_cons,List.length_nil] at hi hj
   by_cases h1:i=ch.length<;>by_cases h2:j=ch.length
   · rw [h1,h2]
   · rw [if_pos h1,if_neg h2] at e
     exact absurd e.symm (ne (by omega))
   · rw [if_neg h1,if_pos h2] at e
     exact absurd e (ne (by omega))
   · rw [if_neg h1,if_neg h2] at e
     exact g.inj i j (by omega) (by omega) e
 · simp only [List.length_append,List.length_cons,List.length_nil] at hi
   (try dsimp only)
   by_cases h1:i=ch.length
   · rw [if_pos h1];exact hf
   · rw [if_neg h1];exact g'.out i (by omega)
 · simp only [List.length_append,List.length_cons,List.length_nil]
   by_cases h1:i<ch.length
   · rw [gL h1] at hx
     (try dsimp only)
     rw [lt h1]
     exact (g'.ok i x hx).mono (Same.refl _) (fun j hj=>lt hj) (Nat.le_succ _) fun u hu=>hu
   · rw [gR (Nat.not_lt.mp h1)] at hx
     have h2:i=ch.length:=by
      have:=(gX hx).1
      simp at this
      omega
     subst h2
     simp at hx
     subst hx
     (try dsimp only)
     rw [if_pos rfl]
     exact ho
 · simp only [List.length_append,List.length_cons,List.length_nil] at h2
   have h3:i=ch.length:=by omega
   (try dsimp only)
   rw [if_pos h3]
   exact ha
end
structure Ge (K:PySem.W.Frag) (δ:Sl) (ch:CH) (σ:St) (F H:Hp) (ρ:Nat->Addr):Prop where
 gh:Gh K F H ρ ch
 len:δ.length=σ.length
 has:∀ (i:Nat) (c:CV),δ[i]?=some (some c)->∃ v,σ[i]?=some (some v)/\RelC K F ρ ch.length c v
def KG (K:PySem.W.Frag) (F H:Hp) (ρ:Nat->Addr) (ch:CH) (c:CV) (ch':CH) (Q:VK):Prop:=∀ v F' H' ρ',Adv K F H ρ ch F' H' ρ' ch'->RelC K F' ρ' ch'.length c v->Q v H'
abbrev Fg:=Sl->CH->Option (CV×CH)
def tG (K:PySem.W.Frag) (f:Fg):TE:=fun σ H Q=>∃ δ ch F ρ c ch',Ge K δ ch σ F H ρ/\f δ ch=some (c,ch')/\KG K F H ρ ch c ch' Q
def GE (X:Cx) (e:Expr) (f:Fg):Prop:=PE X e (tG X.K f)
def dats:List CV->Option (List Dt)
 | []=>some []
 | .dat d::l=>(dats l).map (d::·)
 | _=>none
def fu {K:PySem.W.Frag} {F:Hp} {ρ:Nat->Addr} {n:Nat}:∀ {l:List CV} {ds:List Dt} {vs:List V},dats l=some ds->RelCs K F ρ n l vs->Reps K F ds vs
 | [],ds,vs,h,r=>by cases h;simp only [Reps];exact r
 | .dat d::l,ds,vs,h,r=>by
  simp only [dats] at h
  obtain ⟨es,he,rfl⟩:=mS h
  obtain ⟨v,ws,e,h1,h2⟩:=r
  simp only [Reps]
  exact ⟨v,ws,e,h1,fu he h2⟩
 | .ref i::l,ds,vs,h,r=>by cases h
def tvO:CO->Option T
 | .lst l=>(dats l).map .lst
 | .dK l=>(dats (l.map (·.2))).map fun ds=>.dct ((l.map (·.1)).zip ds)
 | _=>none
def loA (ch:CH):List Nat->Sl->De
 | _,[]=>[]
 | u,none::r=>none::loA ch u r
 | u,some (.dat d)::r=>some (.leaf d)::loA ch u r
 | u,some (.ref i)::r=>(if i∈u then none else (ch[i]?).bind tvO)::loA ch (i::u) r
def lo (δ:Sl) (ch:CH):De:=loA ch [] δ
section
variable {K:PySem.W.Frag} {F H F' H' F1 H1:Hp} {ρ ρ' ρ1:Nat->Addr} {δ:Sl} {σ:St} {ch ch' ch1 ch2:CH} {c:CV} {v:V} {Q:VK}
def Ge.adv (e:Ge K δ ch σ F H ρ) (a:Adv K F H ρ ch F' H' ρ' ch'):Ge K δ ch' σ F' H' ρ':=⟨a.gh,e.len,fun i c h=>by
 obtain ⟨v,h1,h2⟩:=e.has i c h
 exact ⟨v,h1,h2.mono a.old a.ext a.len⟩⟩
def KG.adv (k:KG K F H ρ ch c ch' Q) (g:Gh K F H ρ ch) (a:Adv K F H ρ ch F1 H1 ρ1 ch1):KG K F1 H1 ρ1 ch1 c ch' Q:=fun v F' H' ρ' b r=>k v F' H' ρ' (a.trans g b) r
def io (ch:CH):∀ (u:List Nat) (δ:Sl),(loA ch u δ).length=δ.length
 | _,[]=>rfl
 | u,none::r=>by simp [loA,io ch u r]
 | u,some (.dat d)::r=>by simp [loA,io ch u r]
 | u,some (.ref i)::r=>by simp [loA,io ch (i::u) r]
def jc {ch:CH}:∀ {u:List Nat} {δ:Sl} {j:Nat} {t:T},(loA ch u δ)[j]?=some (some t)->(∃ d,t=.leaf d/\δ[j]?=some (some (.dat d)))∨∃ i o,δ[j]?=some (some (.ref i))/\ch[i]?=some o/\tvO o=some t/\i∉u/\∀ m,m<j->δ[m]?≠some (some (.ref i))
 | _,[],j,t,h=>by simp [loA] at h
 | u,none::r,0,t,h=>by simp [loA] at h
 | u,none::r,j+1,t,h=>by
  rcases jc (u:=u) (δ:=r) (j:=j) (t:=t) (by simpa [loA] using h) with ⟨d,e,q⟩ | ⟨i,o,q1,q2,q3,q4,q5⟩
  · exact .inl ⟨d,e,by simpa using q⟩
  · refine .inr ⟨i,o,by simpa using q1,q2,q3,q4,fun m hm=>?_⟩
    cases m with
    | zero=>simp
    | succ m=>simpa using q5 m (by omega)
 | u,some (.dat d)::r,0,t,h=>by
  simp [loA] at h
  exact .inl ⟨d,h.symm,rfl⟩
 | u,some (.dat d)::r,j+1,t,h=>by
  rcases jc (u:=u) (δ:=r) (j:=j) (t:=t) (by simpa [loA] using h) with ⟨d',e,q⟩ | ⟨i,o,q1,q2,q3,q4,q5⟩
  · exact .inl ⟨d',e,by simpa using q⟩
  · refine .inr ⟨i,o,by simpa using q1,q2,q3,q4,fun m hm=>?_⟩
    cases m with
    | zero=>simp
    | succ m=>simpa using q5 m (by omega)
 | u,some (.ref i)::r,0,t,h=>by
  simp only [loA,List.getElem?_cons_zero,Option.some.injEq] at h
  split at h
  · cases h
  · rename_i hi
    obtain ⟨o,ho,h⟩:=bS h
    exact .inr ⟨i,o,rfl,ho,h,hi,fun m hm=>absurd hm (Nat.not_lt_zero _)⟩
 | u,some (.ref i)::r,j+1,t,h=>by
  rcases jc (u:=i::u) (δ:=r) (j:=j) (t:=t) (by simpa [loA] using h) with ⟨d,e,q⟩ | ⟨i',o,q1,q2,q3,q4,q5⟩
  · exact .inl ⟨d,e,by simpa using q⟩
  · simp only [List.mem_cons,not_or] at q4
    refine .inr ⟨i',o,by simpa using q1,q2,q3,q4.2,fun m hm=>?_⟩
    cases m with
    | zero =>
     simp only [List.getElem?_cons_zero,ne_eq,Option.some.injEq,CV.ref.injEq]
     exact fun z=>q4.1 z.symm
    | succ m=>simpa using q5 m (by omega)
def qM {α β:Type}:∀ {l:List α} {m:List β},l.length=m.length->(l.zip m).map (·.1)=l/\(l.zip m).map (·.2)=m
 | [],[],_=>⟨rfl,rfl⟩
 | [],_::_,h=>by cases h
 | _::_,[],h=>by cases h
 | a::l,b::m,h=>by
  obtain ⟨h1,h2⟩:=qM (l:=l) (m:=m) (by simpa using h)
  simp [h1,h2]
def wa {o:CO} {t:T} {n:Nat} {a:Addr} {S:Addr->Prop} (h:tvO o=some t) (ok:CoOk K F H ρ n a o) (hs:S a):Own K F H t (.ref a) S:=by
 cases o with
 | lst l =>
  obtain ⟨ds,hd,rfl⟩:=mS h
  obtain ⟨vs,h1,h2⟩:=ok
  exact ⟨a,vs,rfl,hs,h1,fu hd h2⟩
 | dK l =>
  obtain ⟨ds,hd,rfl⟩:=mS h
  obtain ⟨vs,h1,h2,h3⟩:=ok
  have r:=fu hd h3
  have e:(l.map (·.1)).length=ds.length:=by
   have e1:=congrArg List.length h2
   have e2:=r.length
   simp only [List.length_map] at e1 e2 ⊢
   omega
  obtain ⟨z1,z2⟩:=qM e
  exact ⟨a,vs,rfl,hs,h1,by rw [z1];exact h2,by rw [z2];exact r⟩
 | tup l=>cases h
 | ins c ns l=>cases h
 | wk l=>cases h
def Ge.en (e:Ge K δ ch σ F H ρ):En ⟨K,F,H,fun b=>∃ i,i<ch.length/\ρ i=b⟩ (lo δ ch) σ F H:=by
 refine ⟨e.gh.fh,fun b o h _=>h,Same.refl _,fun b o h=>.inl h,by simp [lo,io,e.len],fun j t h=>?_,fun j b=>∃ i o,δ[j]?=some (some (.ref i))/\ch[i]?=some o/\ρ i=b/\∀ m,m<j->δ[m]?≠some (some (.ref i)),fun j t v h=>?_,fun j b z=>?_,fun j k b z1 z2=>?_⟩
 · rcases jc h with ⟨d,_,q⟩ | ⟨i,o,q,_⟩
   · obtain ⟨v,hv,_⟩:=e.has j _ q
     exact ⟨v,hv⟩
   · obtain ⟨v,hv,_⟩:=e.has j _ q
     exact ⟨v,hv⟩
 · obtain ⟨h1,h2⟩:=gU h
   rcases jc h1 with ⟨d,rfl,q⟩ | ⟨i,o,q1,q2,q3,q4,q5⟩
   · obtain ⟨w,hw,r⟩:=e.has j _ q
     rw [h2] at hw
     cases hw
     exact r
   · obtain ⟨w,hw,r⟩:=e.has j _ q1
     rw [h2] at hw
     cases hw
     obtain ⟨hi,rfl⟩:=r
     exact wa q3 (e.gh.ok i o q2) ⟨i,o,q1,q2,rfl,q5⟩
 · obtain ⟨i,o,q1,q2,rfl,q3⟩:=z
   have hi:i<ch.length:=(gX q2).1
   exact ⟨e.gh.out i hi,e.gh.at hi,.inr ⟨i,hi,rfl⟩⟩
 · obtain ⟨i,o,q1,q2,e1,q3⟩:=z1
   obtain ⟨i',o',q1',q2',e2,q3'⟩:=z2
   have hi:i<ch.length:=(gX q2).1
   have hi':i'<ch.length:=(gX q2').1
   have:=e.gh.inj i i' hi hi' (e1.trans e2.symm)
   subst this
   by_cases h1:j<k
   · exact absurd q1 (q3' j h1)
   · by_cases h2:k<j
     · exact absurd q1' (q3 k h2)
     · exact Nat.le_antisymm (Nat.not_lt.mp h2) (Nat.not_lt.mp h1)
end
section
variable {X:Cx} {e a b o:Expr} {f fa fb:Fg} {fd:De->Option Dt} {ft:De->Option T} {pos:Pos} {i:Nat}
def eD (fd:De->Option Dt):Fg:=fun δ ch=>(fd (lo δ ch)).map fun d=>(.dat d,ch)
def ai (h:DL X e fd):GE X e (eD fd):=PE.mono h fun σ H Q ⟨δ,ch,F,ρ,c,ch',en,hf,k⟩=>by
 unfold eD at hf
 obtain ⟨d,hd,hf⟩:=mS hf
 cases hf
 exact ⟨_,_,F,d,rfl,en.en,hd,fun v H' F' st r=>k v F' H' ρ (Adv.of en.gh st) r⟩
def al (ch:CH):T->Option (CV×CH)
 | .leaf d=>some (.dat d,ch)
 | .lst l=>some (.ref ch.length,ch++[.lst (l.map .dat)])
 | .dct l=>some (.ref ch.length,ch++[.dK (l.map fun p=>(p.1,.dat p.2))])
 | _=>none
def oh {K:PySem.W.Frag} {F H:Hp} {ρ:Nat->Addr} {ch ch':CH} {c:CV} {t:T} {Q:VK} (g:Gh K F H ρ ch) (h:al ch t=some (c,ch')) (k:KG K F H ρ ch c ch' Q):KO K F H t Q:=fun v H' F' S st o hs=>by
 cases t with
 | leaf d =>
  cases h
  exact k v F' H' ρ (Adv.of g st) o
 | lst l =>
  cases h
  obtain ⟨x,vs,rfl,sa,h1,h2⟩:=o
  obtain ⟨q1,q2,_⟩:=hs x sa
  refine k _ F' H' _ (Adv.new g st q2 q1 ⟨vs,h1,RelCs.dats h2⟩) ⟨by simp,?_⟩
  dsimp only
  rw [if_pos rfl]
 | dct l =>
  cases h
  obtain ⟨x,vs,rfl,sa,h1,h2,h3⟩:=o
  obtain ⟨q1,q2,_⟩:=hs x sa
  refine k _ F' H' _ (Adv.new g st q2 q1 ⟨vs,h1,by rw [h2];simp,?_⟩) ⟨by simp,?_⟩
  · have:=RelCs.dats (ρ:=fun i=>if i=ch.length then x else ρ i) (n:=ch.length+1) h3
    rw [List.map_map] at this
    rw [List.map_map]
    exact this
  · dsimp only
    rw [if_pos rfl]
 | dcT l=>cases h
 | obj c ns l=>cases h
 | pin a t=>cases h
def eN (ft:De->Option T):Fg:=fun δ ch=>(ft (lo δ ch)).bind (al ch)
def dj (h:DO X e ft):GE X e (eN ft):=PE.mono h fun σ H Q ⟨δ,ch,F,ρ,c,ch',en,hf,k⟩=>by
 unfold eN at hf
 obtain ⟨t,ht,hf⟩:=bS hf
 exact ⟨_,_,F,t,rfl,en.en,ht,oh en.gh hf k⟩
def eV (i:Nat):Fg:=fun δ ch=>match δ[i]? with
 | some (some c)=>some (c,ch)
 | _=>none
def aj (h:PE X e (oO i)):GE X e (eV i):=PE.mono h fun σ H Q ⟨δ,ch,F,ρ,c,ch',en,hf,k⟩=>by
 unfold eV at hf
 split at hf<;>cases hf
 rename_i c q
 obtain ⟨v,h1,h2⟩:=en.has i _ q
 exact ⟨v,h1,k v F H ρ (Adv.refl en.gh) h2⟩
end
def vwO:CO->Option Dt
 | .lst l=>(dats l).map .lst
 | .dK l=>(dats (l.map (·.2))).map (.dct (l.map (·.1)))
 | .wk l=>(dats (l.map (·.2))).map (.dct (l.map (·.1)))
 | _=>none
def vw (ch:CH):CV->Option Dt
 | .dat d=>some d
 | .ref i=>(ch[i]?).bind vwO
section
variable {K:PySem.W.Frag} {F H F' H' F1 H1:Hp} {ρ ρ' ρ1:Nat->Addr} {n:Nat} {δ:Sl} {σ:St} {ch ch' ch1 ch2:CH} {c:CV} {v:V} {Q:VK} {d:Dt}
def ip (g:Gh K F H ρ ch) (r:RelC K F ρ ch.length c v) (h:vw ch c=some d):RepB K F H d v:=by
 cases c with
 | dat e=>cases h;exact RepB.of g.fh r
 | ref i =>
  obtain ⟨hi,rfl⟩:=r
  simp only [vw] at h
  obtain ⟨o,ho,h⟩:=bS h
  have ok:=g.ok i o ho
  cases o with
  | lst l =>
   obtain ⟨ds,hd,rfl⟩:=mS h
   obtain ⟨vs,h1,h2⟩:=ok
   exact ⟨_,vs,rfl,SqL.of h1,fu hd h2⟩
  | dK l =>
   obtain ⟨ds,hd,rfl⟩:=mS h
   obtain ⟨vs,h1,h2,h3⟩:=ok
   exact ⟨_,vs,rfl,.inl h1,h2,fu hd h3⟩
  | wk l =>
   obtain ⟨ds,hd,rfl⟩:=mS h
   obtain ⟨o,vs,h1,h2,h3⟩:=ok
   exact ⟨_,vs,rfl,.inr ⟨o,h1⟩,h2,fu hd h3⟩
  | tup l=>cases h
  | ins c ns l=>cases h
end
section
variable {X:Cx} {e a b o:Expr} {es:List Expr} {f fa fb fc:Fg} {fd:De->Option Dt} {ft:De->Option T} {pos apos cpos p:Pos} {i:Nat} {σ:St} {H:Hp} {Q:VK} {K:PySem.W.Frag}
def e2 (g:Dt->Dt->Option T) (fa fb:Fg):Fg:=fun δ ch=>(fa δ ch).bind fun p=>(fb δ p.2).bind fun q=>(vw q.2 p.1).bind fun x=>(vw q.2 q.1).bind fun y=>(g x y).bind (al q.2)
def um {r:R2} {g:Dt->Dt->Option T} (hr:R2D K r g) (h:tG K (e2 g fa fb) σ H Q):tOp r (tG K fa) (tG K fb) σ H Q:=by
 obtain ⟨δ,ch,F,ρ,c,ch',en,hf,k⟩:=h
 unfold e2 at hf
 obtain ⟨p,hp,hf⟩:=bS hf
 obtain ⟨q,hq,hf⟩:=bS hf
 obtain ⟨x,hx,hf⟩:=bS hf
 obtain ⟨y,hy,hf⟩:=bS hf
 obtain ⟨t,ht,hf⟩:=bS hf
 refine ⟨δ,ch,F,ρ,p.1,p.2,en,hp,fun v F1 H1 ρ1 a1 r1=>⟨δ,p.2,F1,ρ1,q.1,q.2,en.adv a1,hq,fun w F2 H2 ρ2 a2 r2=>?_⟩⟩
 exact hr F2 H2 x y v w Q t a2.gh.fh (ip a2.gh (r1.mono a2.old a2.ext a2.len) hx) (ip a2.gh r2 hy) ht (oh a2.gh hf (k.adv en.gh (a1.trans en.gh a2)))
def fK {op:Operator} {r:R2} {g:Dt->Dt->Option T} (ho:OpR X (binaryOp op) r) (hr:R2D X.K r g) (ha:GE X a fa) (hb:GE X b fb):GE X (.BinOp a op b pos) (e2 g fa fb):=PE.mono (sJ ho ha hb) fun _ _ _ h=>um hr h
abbrev Ft:=Sl->CH->Option (Bool×CH)
def tGT (K:PySem.W.Frag) (f:Ft):TT:=fun σ H Q=>∃ δ ch F ρ b ch',Ge K δ ch σ F H ρ/\f δ ch=some (b,ch')/\∀ F' H' ρ',Adv K F H ρ ch F' H' ρ' ch'->Q b H'
def GT (X:Cx) (e:Expr) (f:Ft):Prop:=PT X e (tGT X.K f)
def tD (ft:De->Option Bool):Ft:=fun δ ch=>(ft (lo δ ch)).map fun b=>(b,ch)
def cj {ft:De->Option Bool} (h:DT X e ft):GT X e (tD ft):=PT.mono h fun σ H Q ⟨δ,ch,F,ρ,b,ch',en,hf,k⟩=>by
 unfold tD at hf
 obtain ⟨x,hx,hf⟩:=mS hf
 cases hf
 exact ⟨_,_,F,_,rfl,en.en,hx,fun H' F' st=>k F' H' ρ (Adv.of en.gh st)⟩
def d6 (f:Fg):Ft:=fun δ ch=>(f δ ch).bind fun p=>match p.1 with
 | .dat (.bl b)=>some (b,p.2)
 | _=>none
def wb {f:Fg} {Q:Bool->Hp->Prop} (h:tGT K (d6 f) σ H Q):tG K f σ H fun x H'=>∃ k,x=.bl k/\Q k H':=by
 obtain ⟨δ,ch,F,ρ,b,ch',en,hf,k⟩:=h
 unfold d6 at hf
 obtain ⟨p,hp,hf⟩:=bS hf
 obtain ⟨c,ch1⟩:=p
 dsimp only at hf
 split at hf<;>cases hf
 refine ⟨δ,ch,F,ρ,_,_,en,hp,fun v F' H' ρ' a r=>⟨b,?_,k F' H' ρ' a⟩⟩
 have r:Rep K F' (.bl b) v:=r
 simp only [Rep] at r
 exact r
def dk {op:CmpOp} {r:R2} {g:Dt->Dt->Option T} (ho:OpR X (compareOp op) r) (hr:R2D X.K r g) (ha:GE X a fa) (hb:GE X b fb) (hm:behindInMarks op b=false):GT X (.Compare a [op] [b] pos) (d6 (e2 g fa fb)):=
 PT.mono (p9 ho ha hb hm) fun _ _ _ h=>um hr (wb h)
def lkC {κ:Type} [DecidableEq κ] (l:List (κ×CV)) (k:κ):Option CV:=(l.find? fun p=>decide (p.1=k)).map (·.2)
def j8 {κ:Type} [DecidableEq κ] {F:Hp} {ρ:Nat->Addr} {n:Nat} {k:κ}:∀ {l:List (κ×CV)} {kvs:List (κ×V)},kvs.map (·.1)=l.map (·.1)->RelCs K F ρ n (l.map (·.2)) (kvs.map (·.2))→
  match lkC l k with | some c=>∃ v,gc kvs k=some v/\RelC K F ρ n c v | none=>gc kvs k=none
 | [],[],_,_=>rfl
 | [],p::kvs,h,_=>by cases h
 | p::l,[],h,_=>by cases h
 | p::l,q::kvs,h,r=>by
  simp only [List.map_cons,List.cons.injEq] at h
  obtain ⟨v,ws,e,r1,r2⟩:=r
  simp only [List.map_cons,List.cons.injEq] at e
  obtain ⟨rfl,rfl⟩:=e
  have ih:=j8 (k:=k) h.2 r2
  by_cases hk:p.1=k
  · have e1:lkC (p::l) k=some p.2:=by simp [lkC,hk]
    rw [e1]
    exact ⟨q.2,gM (h.1.trans hk),r1⟩
  · have e1:lkC (p::l) k=lkC l k:=by simp [lkC,hk]
    rw [e1,gO (by rw [h.1];exact hk)]
    exact ih
def ixO (o:CO) (d:Dt):Option CV:=match o with
 | .lst l=>(asI d).bind (atI l)
 | .tup l=>(asI d).bind (atI l)
 | .dK l=>(fm d).bind (lkC l)
 | .wk l=>(fm d).bind (lkC l)
 | _=>none
def mV {F:Hp} {d:Dt} {v:V} {j:Int} (h:asI d=some j) (r:Rep K F d v):v=.int j:=by
 unfold asI at h
 split at h<;>cases h
 simp only [Rep] at r
 exact r
def fL {F:Hp} {d:Dt} {v:V} {j:Key} (h:fm d=some j) (r:Rep K F d v):v=kV j:=by
 unfold fm at h
 split at h<;>cases h<;>(simp only [Rep] at r;exact r)
def qN {F:Hp} {ρ:Nat->Addr} {n:Nat} {l:List CV} {vs:List V} {j:Int} {c:CV} (r:RelCs K F ρ n l vs) (h:atI l j=some c):∃ v,atI vs j=some v/\RelC K F ρ n c v:=by
 unfold atI at h ⊢
 obtain ⟨m,hm,h⟩:=bS h
 obtain ⟨v,h1,h2⟩:=r.get h
 exact ⟨v,by rw [r.length,hm];exact h1,h2⟩
def eIx (fa fb:Fg):Fg:=fun δ ch=>(fa δ ch).bind fun p=>(fb δ p.2).bind fun q=>match p.1,q.1 with
 | .ref i,.dat d=>((q.2[i]?).bind fun o=>ixO o d).map fun c=>(c,q.2)
 | .dat x,.dat d=>(gIx x d).bind (al q.2)
 | _,_=>none
def bP {k:Nat} (hr:Room k X.A) (ha:GE X a fa) (hb:GE X b fb) (hs:mw b:=by exact fun _ _=>rfl) (hn:vm b:=by exact fun _ _=>rfl):GE X (.Subscript a b pos) (eIx fa fb):=
 PE.mono (PE.or (w8 tf ha hb hs) (qe (qi hr) ha hb hn)) fun σ H Q ⟨δ,ch,F,ρ,c,ch',en,hf,kk⟩=>by
  unfold eIx at hf
  obtain ⟨⟨c1,ch1⟩,hp,hf⟩:=bS hf
  obtain ⟨⟨c2,ch2⟩,hq,hf⟩:=bS hf
  dsimp only at hq hf
  split at hf<;>first | (cases hf;done) | skip
  rotate_left
  · rename_i x d hz
    obtain ⟨t,ht,hf⟩:=bS hf
    left
    refine ⟨δ,ch,F,ρ,_,ch1,en,hp,fun v F1 H1 ρ1 a1 r1=>⟨δ,ch1,F1,ρ1,_,_,en.adv a1,hq,fun w F2 H2 ρ2 a2 r2=>?_⟩⟩
    exact r_ix F2 H2 x d v w Q t a2.gh.fh (ip (c:=.dat x) a2.gh (r1.mono a2.old a2.ext a2.len) rfl) (ip (c:=.dat d) a2.gh r2 rfl) ht (oh a2.gh hf (kk.adv en.gh (a1.trans en.gh a2)))
  rename_i i d hz
  obtain ⟨c',hc,hf⟩:=mS hf
  cases hf
  obtain ⟨o,ho,hc⟩:=bS hc
  cases o with
  | lst l =>
   obtain ⟨j,hj,hc⟩:=bS hc
   left
   refine ⟨δ,ch,F,ρ,_,ch1,en,hp,fun v F1 H1 ρ1 a1 r1=>⟨δ,ch1,F1,ρ1,_,_,en.adv a1,hq,fun w F2 H2 ρ2 a2 r2=>?_⟩⟩
   obtain ⟨vs,h1,h2⟩:=a2.gh.ok i _ ho
   obtain ⟨u,hu,ru⟩:=qN h2 hc
   exact .inl ⟨_,vs,j,u,(r1.mono a2.old a2.ext a2.len).2,mV hj r2,SqL.of h1,hu,kk u F2 H2 ρ2 (a1.trans en.gh a2) ru⟩
  | tup l =>
   obtain ⟨j,hj,hc⟩:=bS hc
   left
   refine ⟨δ,ch,F,ρ,_,ch1,en,hp,fun v F1 H1 ρ1 a1 r1=>⟨δ,ch1,F1,ρ1,_,_,en.adv a1,hq,fun w F2 H2 ρ2 a2 r2=>?_⟩⟩
   obtain ⟨vs,h1,h2⟩:=a2.gh.ok i _ ho
   obtain ⟨u,hu,ru⟩:=qN h2 hc
   exact .inr (.inl ⟨_,vs,j,u,(r1.mono a2.old a2.ext a2.len).2,mV hj r2,SqT.of h1,hu,kk u F2 H2 ρ2 (a1.trans en.gh a2) ru⟩)
  | dK l =>
   obtain ⟨j,hj,hc⟩:=bS hc
   right
   refine ⟨δ,ch,F,ρ,_,ch1,en,hp,fun v F1 H1 ρ1 a1 r1=>⟨δ,ch1,F1,ρ1,_,_,en.adv a1,hq,fun w F2 H2 ρ2 a2 r2=>?_⟩⟩
   obtain ⟨kvs,h1,h2,h3⟩:=a2.gh.ok i _ ho
   have lk:=j8 (k:=j) h2 h3
   rw [hc] at lk
   obtain ⟨u,hu,ru⟩:=lk
   refine ⟨_,u,(r1.mono a2.old a2.ext a2.len).2,?_,kk u F2 H2 ρ2 (a1.trans en.gh a2) ru⟩
   rw [fL hj r2,<- hu]
   exact DGet.k h1
  | wk l =>
   obtain ⟨j,hj,hc⟩:=bS hc
   right
   refine ⟨δ,ch,F,ρ,_,ch1,en,hp,fun v F1 H1 ρ1 a1 r1=>⟨δ,ch1,F1,ρ1,_,_,en.adv a1,hq,fun w F2 H2 ρ2 a2 r2=>?_⟩⟩
   obtain ⟨o,kvs,h1,h2,h3⟩:=a2.gh.ok i _ ho
   have lk:=j8 (k:=j) h2 h3
   rw [hc] at lk
   obtain ⟨u,hu,ru⟩:=lk
   refine ⟨_,u,(r1.mono a2.old a2.ext a2.len).2,?_,kk u F2 H2 ρ2 (a1.trans en.gh a2) ru⟩
   rw [fL hj r2,<- hu]
   exact .inl ⟨kvs,j,.inr ⟨o,h1⟩,rfl,rfl⟩
  | ins c ns l=>cases hc
def pA (ns:List Str) (l:List CV) (f:Str):Option CV:=match ns,l with
 | n::ns,c::l=>if f=n then some c else pA ns l f
 | _,_=>none
def mW {F:Hp} {ρ:Nat->Addr} {n:Nat} {f:Str} {c:CV}:∀ {ns:List Str} {l:List CV} {fs:List (Str×V)},fs.map (·.1)=ns->RelCs K F ρ n l (fs.map (·.2))->pA ns l f=some c->∃ v,fs.lookup f=some v/\RelC K F ρ n c v
 | [],l,fs,_,_,h=>by cases h
 | m::ns,[],fs,_,_,h=>by cases h
 | m::ns,c'::l,[],e,_,_=>by cases e
 | m::ns,c'::l,p::fs,e,r,h=>by
  simp only [List.map_cons,List.cons.injEq] at e
  obtain ⟨v,ws,q,r1,r2⟩:=r
  simp only [List.map_cons,List.cons.injEq] at q
  obtain ⟨rfl,rfl⟩:=q
  obtain ⟨p1,p2⟩:=p
  obtain ⟨rfl,rfl⟩:=e
  simp only [pA] at h
  by_cases hk:f=p1
  · rw [if_pos hk] at h
    cases h
    subst hk
    exact ⟨p2,by simp [List.lookup],r1⟩
  · rw [if_neg hk] at h
    have:(f==p1)=false:=by simpa using hk
    simp only [List.lookup,this]
    exact mW rfl r2 h
def eF (c f:Str) (fa:Fg):Fg:=fun δ ch=>(fa δ ch).bind fun p=>match p.1 with
 | .ref i=>match p.2[i]? with
  | some (.ins c' ns l)=>if c'=c then (pA ns l f).map fun x=>(x,p.2) else none
  | _=>none
 | _=>none
def cp {c f:Str} (h:GE X o fa) (hf:iP X.K c f) (hb:attributeBase o f X.env (eval o X.env)=eval o X.env:=by rfl):GE X (.Attribute o f pos) (eF c f fa):=PE.mono (yh h hb) fun σ H Q ⟨δ,ch,F,ρ,c0,ch',en,hg,kk⟩=>by
 obtain ⟨C,hc,hC,hN⟩:=hf
 unfold eF at hg
 obtain ⟨⟨c1,ch1⟩,hp,hg1⟩:=bS hg
 clear hg
 dsimp only at hg1
 split at hg1<;>first | (cases hg1;done) | skip
 rename_i i
 split at hg1<;>first | (cases hg1;done) | skip
 rename_i c' ns l ho
 split at hg1<;>first | (cases hg1;done) | skip
 rename_i hcc
 subst hcc
 obtain ⟨x,hx,hg2⟩:=mS hg1
 cases hg2
 refine ⟨δ,ch,F,ρ,_,_,en,hp,fun v F1 H1 ρ1 a1 r1=>?_⟩
 obtain ⟨C',dx,fs,h0,h1,h2,h3⟩:=a1.gh.ok i _ ho
 have:=ClsAt.inj hc h0
 subst this
 obtain ⟨u,hu,ru⟩:=mW h2 h3 hx
 exact ⟨_,C,dx,fs,u,r1.2,h1,hC,hN,hu,kk u F1 H1 ρ1 a1 ru⟩
abbrev Fgs:=Sl->CH->Option (List CV×CH)
def tGs (K:PySem.W.Frag) (f:Fgs):TA:=fun σ H Q=>∃ δ ch F ρ cs ch',Ge K δ ch σ F H ρ/\f δ ch=some (cs,ch')/\∀ vs F' H' ρ',Adv K F H ρ ch F' H' ρ' ch'->RelCs K F' ρ' ch'.length cs vs->Q vs H'
def GA (X:Cx) (es:List Expr) (f:Fgs):Prop:=PA X es (tGs X.K f)
def aB:Fgs:=fun _ ch=>some ([],ch)
def ak (f:Fg) (fs:Fgs):Fgs:=fun δ ch=>(f δ ch).bind fun p=>(fs δ p.2).map fun q=>(p.1::q.1,q.2)
def bg:GA X [] aB:=PA.mono iI fun σ H Q ⟨δ,ch,F,ρ,cs,ch',en,hf,k⟩=>by
 cases hf
 exact k [] F H ρ (Adv.refl en.gh) rfl
def ay {fs:Fgs} (h:GE X e f) (hr:GA X es fs) (hs:starEach (e::es) X.env=(false,eval e X.env)::starEach es X.env:=by rfl):GA X (e::es) (ak f fs):=PA.mono (fR h hr hs) fun σ H Q ⟨δ,ch,F,ρ,cs,ch',en,hf,k⟩=>by
 unfold ak at hf
 obtain ⟨p,hp,hf⟩:=bS hf
 obtain ⟨q,hq,hf⟩:=mS hf
 cases hf
 exact ⟨δ,ch,F,ρ,p.1,p.2,en,hp,fun v F1 H1 ρ1 a1 r1=>⟨δ,p.2,F1,ρ1,q.1,q.2,en.adv a1,hq,fun ws F2 H2 ρ2 a2 r2=>k (v::ws) F2 H2 ρ2 (a1.trans en.gh a2) ⟨v,ws,rfl,r1.mono a2.old a2.ext a2.len,r2⟩⟩⟩
def eL (fs:Fgs):Fg:=fun δ ch=>(fs δ ch).bind fun p=>if p.1.length<=sizeLine then some (.ref p.2.length,p.2++[.lst p.1]) else none
def eT (fs:Fgs):Fg:=fun δ ch=>(fs δ ch).bind fun p=>if p.1.length<=sizeLine then some (.ref p.2.length,p.2++[.tup p.1]) else none
def kN {F H:Hp} {ρ:Nat->Addr} {ch:CH} {o:CO} {u:HO} {a:Addr} (g:Gh K F H ρ ch) (ha:H a=none) (ho:CoOk K F (upd H a u) ρ ch.length a o):Adv K F H ρ ch F (upd H a u) (fun i=>if i=ch.length then a else ρ i) (ch++[o]):=
 Adv.new g (Step.made g.fh ha) ha (g.fh.free ha) (ho.mono (Same.refl _) (fun i hi=>if_neg (Nat.ne_of_lt hi)) (Nat.le_succ _) fun _ h=>h)
def pB {fs:Fgs} (h:GA X es fs):GE X (.List es pos) (eL fs):=PE.mono (sS h) fun σ H Q ⟨δ,ch,F,ρ,c,ch',en,hf,k⟩=>by
 unfold eL at hf
 obtain ⟨p,hp,hf⟩:=bS hf
 split at hf<;>cases hf
 rename_i hz
 refine ⟨δ,ch,F,ρ,p.1,p.2,en,hp,fun vs F1 H1 ρ1 a1 r1=>⟨by rw [r1.length];exact hz,fun q hq=>?_⟩⟩
 refine k (.ref q) F1 _ _ (a1.trans en.gh (kN (o:=.lst p.1) a1.gh hq ⟨vs,aY,r1⟩)) ⟨by simp,?_⟩
 dsimp only
 rw [if_pos rfl]
def zh {fs:Fgs} {x1} (h:GA X es fs):GE X (.Tuple es x1 pos) (eT fs):=PE.mono (sR h) fun σ H Q ⟨δ,ch,F,ρ,c,ch',en,hf,k⟩=>by
 unfold eT at hf
 obtain ⟨p,hp,hf⟩:=bS hf
 split at hf<;>cases hf
 rename_i hz
 refine ⟨δ,ch,F,ρ,p.1,p.2,en,hp,fun vs F1 H1 ρ1 a1 r1=>⟨by rw [r1.length];exact hz,fun q hq=>?_⟩⟩
 refine k (.ref q) F1 _ _ (a1.trans en.gh (kN (o:=.tup p.1) a1.gh hq ⟨vs,aY,r1⟩)) ⟨by simp,?_⟩
 dsimp only
 rw [if_pos rfl]
abbrev Fd:=List CV->CH->Option (CV×CH)
def spG (K:PySem.W.Frag) (n:Nat) (f:Fd):Sp:=fun vs H Q _=>∃ F ρ cs ch c ch',Gh K F H ρ ch/\cs.length=n/\RelCs K F ρ ch.length cs vs/\f cs ch=some (c,ch')/\KG K F H ρ ch c ch' Q
def eC (g:Fd) (fs:Fgs):Fg:=fun δ ch=>(fs δ ch).bind fun p=>g p.1 p.2
def cu {sc:Scope} {x:Str} {k n:Nat} {ps:List Str} {g:Fd} {fs:Fgs} (h:bt sc x=true) (F:OkF X.prog X.w X.K X.mg X.base x k ps (spG X.K n g)) (hr:Room k X.A) (ha:GA X (e::es) fs) (hn:∀ δ ch p,fs δ ch=some p->p.1.length=n) (e1:dE X sc:=by rfl)
  (he:starEach (e::es) X.env=(false,eval e X.env)::starEach es X.env:=by rfl) (hpl:(backTo cpos (starEach es X.env)).any (·.1)=false:=by rfl):GE X (.Call (.Name x p) (e::es) [] cpos) (eC g fs):=
 PE.mono (jt h F hr ha e1 he hpl) fun σ H Q ⟨δ,ch,F,ρ,c,ch',en,hf,k⟩=>by
  unfold eC at hf
  obtain ⟨p,hp,hf⟩:=bS hf
  refine ⟨δ,ch,F,ρ,p.1,p.2,en,hp,fun vs F1 H1 ρ1 a1 r1=>?_⟩
  show spG X.K n g (vs++[]) H1 Q E0
  rw [List.append_nil]
  exact ⟨F1,ρ1,p.1,p.2,c,ch',a1.gh,hn δ ch p hp,r1,hf,k.adv en.gh a1⟩
noncomputable def eM (c m:Str) (g:Fd) (fo:Fg) (fs:Fgs):Fg:=fun δ ch=>(fo δ ch).bind fun p=>match p.1 with
 | .ref i=>match p.2[i]? with
  | some (.ins c' ns _)=>if c'=c/\m∉ns then (fs δ p.2).bind fun q=>g (.ref i::q.1) q.2 else none
  | _=>none
 | _=>none
def xv {c m:Str} {C:Addr} {n:Nat} {g:Fd} {fo:Fg} {fs:Fgs} {as:TA} (h1:ClsAt K c C) (hn:∀ δ ch p,fs δ ch=some p->p.1.length+1=n) (has:∀ σ H Q,tGs K fs σ H Q->as σ H Q):∀ σ H Q,tG K (eM c m g fo fs) σ H Q->sU C m (spG K n g) [] E0 (tG K fo) as σ H Q:=fun σ H Q ⟨δ,ch,F,ρ,c0,ch',en,hf,k⟩=>by
 unfold eM at hf
 obtain ⟨⟨c1,ch1⟩,hp,hf1⟩:=bS hf
 clear hf
 dsimp only at hf1
 split at hf1<;>first | (cases hf1;done) | skip
 rename_i i
 split at hf1<;>first | (cases hf1;done) | skip
 rename_i c' ns l ho
 split at hf1<;>first | (cases hf1;done) | skip
 rename_i hcc
 obtain ⟨rfl,hm⟩:=hcc
 obtain ⟨q,hq,hf⟩:=bS hf1
 refine ⟨δ,ch,F,ρ,_,_,en,hp,fun v F1 H1 ρ1 a1 r1=>?_⟩
 obtain ⟨C',dx,gs,h0,ha,h2,h3⟩:=a1.gh.ok i _ ho
 have:=ClsAt.inj h1 h0
 subst this
 refine ⟨_,dx,gs,r1.2,ha,jT (by rw [h2];exact hm),has _ _ _ ⟨δ,ch1,F1,ρ1,q.1,q.2,en.adv a1,hq,fun vs F2 H2 ρ2 a2 r2=>?_⟩⟩
 show spG K n g (v::(vs++[])) H2 Q E0
 rw [List.append_nil]
 exact ⟨F2,ρ2,.ref i::q.1,q.2,c0,ch',a2.gh,hn δ ch1 q hq,⟨v,vs,rfl,r1.mono a2.old a2.ext a2.len,r2⟩,hf,k.adv en.gh (a1.trans en.gh a2)⟩
def ca {c m:Str} {k n:Nat} {ps:List Str} {g:Fd} {fs:Fgs} (F:OkM X.prog X.w X.K X.mg X.base c m k ps (spG X.K n g)) (hr:Room k X.A) (ho:GE X o fa) (ha:GA X (e::es) fs) (hn:∀ δ ch p,fs δ ch=some p->p.1.length+1=n) {pl:Sem Bool}
  (hst:starEach (e::es) X.env=(false,eval e X.env)::starEach es X.env:=by rfl) (hpl:(backTo cpos (starEach es X.env)).any (·.1)=false:=by rfl)
  (ht:eval (.Call (.Attribute o m apos) (e::es) [] cpos) X.env=(do
   let ov <- eval o X.env
   standAt apos.atName
   let (f,first) <- holding [ov] (getMethod ov m pl)
   callWith cpos f first (backTo cpos (starEach (e::es) X.env)) (backToKw cpos (keywordEach [] X.env))):=by rfl):GE X (.Call (.Attribute o m apos) (e::es) [] cpos) (eM c m g fa fs):=by
 obtain ⟨C,f,fd,h1,h2,h3,h4,h5⟩:=F.ex
 exact PE.mono (u9 ho h2 h3 h5 hr h4 .nil qh ha hst hpl ht) (xv h1 hn fun _ _ _ q=>q)
def bQ {c m:Str} {k:Nat} {ps:List Str} {g:Fd} (F:OkM X.prog X.w X.K X.mg X.base c m k ps (spG X.K 1 g)) (hr:Room k X.A) (ho:GE X o fa) {pl:Sem Bool}
  (ht:eval (.Call (.Attribute o m apos) [] [] cpos) X.env=(do
   let ov <- eval o X.env
   standAt apos.atName
   let (f,first) <- holding [ov] (getMethod ov m pl)
   callWith cpos f first (backTo cpos (starEach [] X.env)) (backToKw cpos (keywordEach [] X.env))):=by rfl):GE X (.Call (.Attribute o m apos) [] [] cpos) (eM c m g fa aB):=by
 obtain ⟨C,f,fd,h1,h2,h3,h4,h5⟩:=F.ex
 exact PE.mono (sV ho h2 h3 h5 hr h4 .nil qh ht) (xv h1 (fun δ ch p h=>by cases h;rfl) fun σ H Q ⟨δ,ch,F,ρ,cs,ch',en,hf,k⟩=>by
  cases hf
  exact k [] F H ρ (Adv.refl en.gh) rfl)
end
inductive Og where
 | nx (δ:Sl) (ch:CH) | rt (c:CV) (ch:CH) | bk (δ:Sl) (ch:CH) | ct (δ:Sl) (ch:CH)
noncomputable def PostG (K:PySem.W.Frag) (F H:Hp) (ρ:Nat->Addr) (ch:CH) (D:Ends):Og->Prop
 | .nx δ' ch'=>∀ σ' F' H' ρ',Adv K F H ρ ch F' H' ρ' ch'->Ge K δ' ch' σ' F' H' ρ'->D.nx σ' H'
 | .rt c ch'=>∀ v F' H' ρ',Adv K F H ρ ch F' H' ρ' ch'->RelC K F' ρ' ch'.length c v->D.rt v H'
 | .bk δ' ch'=>∀ σ' F' H' ρ',Adv K F H ρ ch F' H' ρ' ch'->Ge K δ' ch' σ' F' H' ρ'->D.bk σ' H'
 | .ct δ' ch'=>∀ σ' F' H' ρ',Adv K F H ρ ch F' H' ρ' ch'->Ge K δ' ch' σ' F' H' ρ'->D.ct σ' H'
abbrev Fs:=Sl->CH->Option Og
def tGS (K:PySem.W.Frag) (g:Fs):TS:=fun D σ H=>∃ δ ch F ρ o,Ge K δ ch σ F H ρ/\g δ ch=some o/\PostG K F H ρ ch D o
def GS1 (X:Cx) (st:Stmt) (g:Fs):Prop:=PS X st (tGS X.K g)
def GS (X:Cx) (ss:List Stmt) (g:Fs):Prop:=PSs X ss (tGS X.K g)
section
variable {K:PySem.W.Frag} {F H F' H' F1 H1:Hp} {ρ ρ' ρ1:Nat->Addr} {ch ch' ch1:CH} {D:Ends} {o:Og}
def PostG.adv (k:PostG K F H ρ ch D o) (g:Gh K F H ρ ch) (a:Adv K F H ρ ch F1 H1 ρ1 ch1):PostG K F1 H1 ρ1 ch1 D o:=by
 cases o with
 | nx δ' c'=>exact fun σ' F' H' ρ' b e=>k σ' F' H' ρ' (a.trans g b) e
 | rt c c'=>exact fun v F' H' ρ' b e=>k v F' H' ρ' (a.trans g b) e
 | bk δ' c'=>exact fun σ' F' H' ρ' b e=>k σ' F' H' ρ' (a.trans g b) e
 | ct δ' c'=>exact fun σ' F' H' ρ' b e=>k σ' F' H' ρ' (a.trans g b) e
end
section
variable {X:Cx} {st:Stmt} {rest a b body:List Stmt} {g g1 g2:Fs} {e c o tg iter:Expr} {es:List Expr} {pos apos cpos:Pos} {f fa fe fk:Fg} {tc:Ft} {i:Nat} {K:PySem.W.Frag}
def cy:Fs:=fun δ ch=>some (.nx δ ch)
def aP (g1 g2:Fs):Fs:=fun δ ch=>(g1 δ ch).bind fun o=>match o with
 | .nx δ' ch'=>g2 δ' ch'
 | o=>some o
def cb:GS X [] cy:=PSs.mono pX fun D σ H ⟨δ,ch,F,ρ,o,en,hg,k⟩=>by
 cases hg
 exact k σ F H ρ (Adv.refl en.gh) en
def aL (h:GS1 X st g):GS X [st] g:=pY h
def aF (h1:GS1 X st g1) (h2:GS X rest g2):GS X (st::rest) (aP g1 g2):=PSs.mono (nB h1 h2) fun D σ H ⟨δ,ch,F,ρ,o,en,hg,k⟩=>by
 unfold aP at hg
 obtain ⟨o1,h1,hg⟩:=bS hg
 refine ⟨δ,ch,F,ρ,o1,en,h1,?_⟩
 cases o1 with
 | nx δ' ch'=>exact fun σ' F' H' ρ' a en'=>⟨δ',ch',F',ρ',o,en',hg,k.adv en.gh a⟩
 | rt c ch'=>cases hg;exact k
 | bk δ' ch'=>cases hg;exact k
 | ct δ' ch'=>cases hg;exact k
def gw (f:Fg):Fs:=fun δ ch=>(f δ ch).map fun p=>.nx δ p.2
def jd (h:GE X e f) (hs:swapsWith e none pos.line X.env=pure false:=by rfl):GS1 X (.Expr e pos) (gw f):=PS.mono (mt h hs) fun D σ H ⟨δ,ch,F,ρ,o,en,hg,k⟩=>by
 unfold gw at hg
 obtain ⟨p,hp,hg⟩:=mS hg
 cases hg
 exact ⟨δ,ch,F,ρ,p.1,p.2,en,hp,fun v F' H' ρ' a r=>k σ F' H' ρ' a (en.adv a)⟩
def bE (f:Fg):Fs:=fun δ ch=>(f δ ch).map fun p=>.rt p.1 p.2
def bB (h:GE X e f):GS1 X (.Return (some e) pos) (bE f):=PS.mono (sE h) fun D σ H ⟨δ,ch,F,ρ,o,en,hg,k⟩=>by
 unfold bE at hg
 obtain ⟨p,hp,hg⟩:=mS hg
 cases hg
 exact ⟨δ,ch,F,ρ,p.1,p.2,en,hp,k⟩
def pC:Fs:=fun _ ch=>some (.rt (.dat .non) ch)
def qO:GS1 X (.Return none pos) pC:=PS.mono u2 fun D σ H ⟨δ,ch,F,ρ,o,en,hg,k⟩=>by
 cases hg
 exact k .non F H ρ (Adv.refl en.gh) (mJ (K:=X.K) (F:=F))
def cc (c:Ft) (g1 g2:Fs):Fs:=fun δ ch=>(c δ ch).bind fun p=>if p.1 then g1 δ p.2 else g2 δ p.2
def cf (hc:GT X c tc) (h1:GS X a g1) (h2:GS X b g2):GS1 X (.If c a b pos) (cc tc g1 g2):=PS.mono (wU hc h1 h2) fun D σ H ⟨δ,ch,F,ρ,o,en,hg,k⟩=>by
 unfold cc at hg
 obtain ⟨p,hp,hg⟩:=bS hg
 refine ⟨δ,ch,F,ρ,p.1,p.2,en,hp,fun F' H' ρ' a=>?_⟩
 split at hg
 · rename_i q
   rw [if_pos q]
   exact ⟨δ,p.2,F',ρ',o,en.adv a,hg,k.adv en.gh a⟩
 · rename_i q
   rw [if_neg q]
   exact ⟨δ,p.2,F',ρ',o,en.adv a,hg,k.adv en.gh a⟩
def Ge.put {δ:Sl} {σ:St} {F H:Hp} {ρ:Nat->Addr} {ch:CH} {x:CV} {v:V} (en:Ge K δ ch σ F H ρ) (r:RelC K F ρ ch.length x v) (i:Nat):Ge K (δ.set i (some x)) ch (σ.set i (some v)) F H ρ:=⟨en.gh,by simp [en.len],fun j y h=>by
 rcases gr h with ⟨rfl,z⟩ | ⟨hn,z⟩
 · cases z
   have hi:i<σ.length:=by
    rw [<- en.len]
    have:=(gX h).1
    simpa using this
   exact ⟨v,by simp [hi],r⟩
 · obtain ⟨w,h1,h2⟩:=en.has j y z
   exact ⟨w,by rw [gN hn];exact h1,h2⟩⟩
def cQ (i:Nat) (f:Fg):Fs:=fun δ ch=>(f δ ch).map fun p=>.nx (δ.set i (some p.1)) p.2
def cJ {sc:Scope} {N:List Str} {x:Str} {pos':Pos} (h:gH sc N i x=true) (hl:lv sc x=true) (nd:N.Nodup) (he:GE X e f) (e1:dE X sc:=by rfl) (e2:X.N=N:=by rfl) (hf:X.fn x=true∨X.env.scope.names.lookup x=some .local:=by exact .inl rfl)
  (hs:swapsWith e (some (.Name x pos')) pos.line X.env=pure false:=by rfl):GS1 X (.Assign [.Name x pos'] e pos) (cQ i f):=PS.mono (qq h hl nd he e1 e2 hf hs) fun D σ H ⟨δ,ch,F,ρ,o,en,hg,k⟩=>by
 unfold cQ at hg
 obtain ⟨p,hp,hg⟩:=mS hg
 cases hg
 exact ⟨δ,ch,F,ρ,p.1,p.2,en,hp,fun v F' H' ρ' a r=>k _ F' H' ρ' a ((en.adv a).put r i)⟩
def mgS (ts:List Nat) (δ:Sl) (δ1:De):Sl:=δ.mapIdx fun j x=>if j∈ts then (match δ1[j]? with | some (some (.leaf d))=>some (.dat d) | _=>none) else x
def Ge.mg {δ:Sl} {σ σ':St} {F H:Hp} {ρ:Nat->Addr} {ch:CH} {ts:List Nat} {δ1:De} {Φ:Fm} (en:Ge K δ ch σ F H ρ) (hK:Φ.K=K) (hl:σ'.length=σ.length) (hs:∀ j,j∉ts->σ'[j]?=σ[j]?) (e:En Φ δ1 σ' F H):Ge K (mgS ts δ δ1) ch σ' F H ρ:=⟨en.gh,by simp [mgS,en.len,hl],fun j x h=>by
 unfold mgS at h
 rw [List.getElem?_mapIdx] at h
 obtain ⟨y,hy,h⟩:=mS h
 by_cases hj:j∈ts
 · rw [if_pos hj] at h
   split at h<;>cases h
   rename_i d q
   obtain ⟨v,h1,h2⟩:=e.leaf q
   exact ⟨v,h1,(hK▸h2:Rep K F d v)⟩
 · rw [if_neg hj] at h
   subst h
   obtain ⟨v,h1,h2⟩:=en.has j x hy
   exact ⟨v,by rw [hs j hj];exact h1,h2⟩⟩
def oj (fd:De->Option Dt) (ts:List Nat) (bb:Dt->De->Option De):Fs:=fun δ ch=>(fd (lo δ ch)).bind fun d=>(bb d (lo δ ch)).map fun δ1=>.nx (mgS ts δ δ1) ch
def zi {fd:De->Option Dt} {ts:List Nat} {bb:Dt->De->Option De} (he:DL X e fd) (hg:DG X tg ts bb) (hs:swapsWithSole [tg] e pos.line X.env=pure false:=by rfl) (hw:swappedStores [tg] e X.env=pure none:=by rfl)
  (h1:(assignEach [tg] X.env).map (·.2)=[assign tg X.env]:=by rfl):GS1 X (.Assign [tg] e pos) (oj fd ts bb):=PS.mono (oP he hg hs hw h1) fun D σ H ⟨δ,ch,F,ρ,o,en,hg,k⟩=>by
 unfold oj at hg
 obtain ⟨d,hd,hg⟩:=bS hg
 obtain ⟨δ1,hb,hg⟩:=mS hg
 cases hg
 refine ⟨_,_,F,d,rfl,en.en,hd,fun v H' F' st r=>?_⟩
 have a:=Adv.of en.gh st
 exact ⟨_,_,F',d,δ1,rfl,(en.adv a).en,r,hb,fun σ' l1 k1 e1=>k σ' F' H' ρ a ((en.adv a).mg rfl l1 k1 e1)⟩
noncomputable def gm (ts:List Nat) (bb:Dt->De->Option De) (g:Fs):List Dt->Sl->CH->Option Og
 | [],δ,ch=>some (.nx δ ch)
 | d::r,δ,ch=>(bb d (lo δ ch)).bind fun δ1=>(g (mgS ts δ δ1) ch).bind fun o=>match o with
  | .nx δ2 ch2=>gm ts bb g r δ2 ch2
  | .ct δ2 ch2=>gm ts bb g r δ2 ch2
  | .bk δ2 ch2=>some (.nx δ2 ch2)
  | .rt c ch2=>some (.rt c ch2)
def cS (fi:De->Option (List Dt)) (ts:List Nat) (bb:Dt->De->Option De) (g:Fs):Fs:=fun δ ch=>(fi (lo δ ch)).bind fun ds=>gm ts bb g ds δ ch
def iQ {fi:De->Option (List Dt)} {ts:List Nat} {bb:Dt->De->Option De} (hp:PassesOwn (model X.prog X.w) X.A X.env X.xe) (hc:X.calm=true) (hi:DIF X tg iter fi) (hg:DG X tg ts bb) (hb:GS X body g)
  (hs:∀ x,foldedSetIterable iter X.env x=pure x:=by intro _;rfl):GS1 X (.For tg iter body [] pos) (cS fi ts bb g):=PS.mono (sI hp hc hi hg hb hs) fun D σ H ⟨δ,ch,F,ρ,o,en,hg,k⟩=>by
 unfold cS at hg
 obtain ⟨ds,hd,hg⟩:=bS hg
 rw [qp]
 refine ⟨_,_,F,ds,rfl,en.en,hd,fun J ok H1 F1 st1 wd ho=>?_⟩
 have a1:=Adv.of en.gh st1
 have en1:=en.adv a1
 have k1:=k.adv en.gh a1
 refine nT (n:=ds.length) (fun i σ' H'=>∃ δ' ch' F' ρ',Adv X.K F1 H1 ρ ch F' H' ρ' ch'/\Ge X.K δ' ch' σ' F' H' ρ'/\gm ts bb g (ds.drop i) δ' ch'=some o) ⟨δ,ch,F1,ρ,Adv.refl en1.gh,en1,by simpa using hg⟩ (fun i σ' H' ⟨δ',ch',F',ρ',a',en',_⟩=>?_) ?_ ?_
 · obtain ⟨p1,p2,_⟩:=wd i H' F' (ho H' (a'.old.trans en'.gh.fh)) en'.gh.fh a'.old
   exact ⟨p1,p2⟩
 · rintro i x σ' H' H'' hi ⟨δ',ch',F',ρ',a',en',hgo⟩ hy
   obtain ⟨_,_,p3⟩:=wd i H' F' (ho H' (a'.old.trans en'.gh.fh)) en'.gh.fh a'.old
   obtain ⟨d,F2,hd',st2,rd⟩:=p3 x H'' hi hy
   rw [j7 hd'] at hgo
   unfold gm at hgo
   obtain ⟨δ1,h1,hgo⟩:=bS hgo
   obtain ⟨o1,h2,hgo⟩:=bS hgo
   have a2:=Adv.of en'.gh st2
   have a3:=a'.trans en1.gh a2
   have en2:=en'.adv a2
   refine ⟨_,_,F2,d,δ1,rfl,en2.en,rd,h1,fun σ1 l1 q1 e1=>⟨_,ch',F2,ρ',o1,en2.mg rfl l1 q1 e1,h2,?_⟩⟩
   cases o1 with
   | nx δ2 c2=>exact fun σ2 F3 H3 ρ3 a4 en4=>⟨δ2,c2,F3,ρ3,a3.trans en1.gh a4,en4,hgo⟩
   | ct δ2 c2=>exact fun σ2 F3 H3 ρ3 a4 en4=>⟨δ2,c2,F3,ρ3,a3.trans en1.gh a4,en4,hgo⟩
   | bk δ2 c2=>cases hgo;exact fun σ2 F3 H3 ρ3 a4 en4=>k1 σ2 F3 H3 ρ3 (a3.trans en1.gh a4) en4
   | rt c c2=>cases hgo;exact fun v F3 H3 ρ3 a4 r=>k1 v F3 H3 ρ3 (a3.trans en1.gh a4) r
 · rintro σ' H' ⟨δ',ch',F',ρ',a',en',hgo⟩
   rw [List.drop_length] at hgo
   cases hgo
   exact k1 σ' F' H' ρ' a' en'
noncomputable def kO (fa fe:Fg):Fs:=fun δ ch=>(fa δ ch).bind fun p=>(fe δ p.2).bind fun q=>match p.1 with
 | .ref i=>match p.2[i]?,q.2[i]? with
  | some (.lst _),some (.lst l)=>if l.length<sizeLine then some (.nx δ (q.2.set i (.lst (l++[q.1])))) else none
  | _,_=>none
 | _=>none
def mf (hx:GE X o fa) (he:GE X e fe)
  (hbase:attributeBase o "append" X.env (eval o X.env)=eval o X.env:=by rfl)
  (hfew:((backTo cpos (starEach [e] X.env)).all (fun x=>!x.1)&&(backToKw cpos (keywordEach [] X.env)).all (fun x=>x.1.isSome)
   && decide ([e].length+([]:List Keyword).length+(if ([]:List Keyword).isEmpty then 0 else 1)<30))=true:=by rfl)
  (hline:(apos.endLine==cpos.line)=true:=by rfl) (hs:starEach [e] X.env=(false,eval e X.env)::starEach [] X.env:=by rfl) (hplain:(backTo cpos (starEach [] X.env)).any (·.1)=false:=by rfl)
  (hsw:swapsWith (.Call (.Attribute o "append" apos) [e] [] cpos) none pos.line X.env=pure false:=by rfl) :
  GS1 X (.Expr (.Call (.Attribute o "append" apos) [e] [] cpos) pos) (kO fa fe):=
 PS.mono (mt (tm PySem.F.plainAttrs_list PySem.F.slot_list_append PySem.F.type_list_append ii hx (fR he iI hs) hbase hfew hline hs hplain) hsw) fun D σ H ⟨δ,ch,F,ρ,og,en,hg,k⟩=>by
  unfold kO at hg
  obtain ⟨⟨c1,ch1⟩,hp,hg1⟩:=bS hg
  clear hg
  obtain ⟨⟨c2,ch2⟩,hq,hg⟩:=bS hg1
  clear hg1
  dsimp only at hq hg
  split at hg<;>first | (cases hg;done) | skip
  rename_i i
  split at hg<;>first | (cases hg;done) | skip
  rename_i l0 l h0 h1
  split at hg<;>cases hg
  rename_i hz
  refine ⟨δ,ch,F,ρ,_,ch1,en,hp,fun v F1 H1 ρ1 a1 r1=>?_⟩
  obtain ⟨vs0,q0,_⟩:=a1.gh.ok i _ h0
  obtain ⟨hi,rfl⟩:=r1
  refine ⟨.inl ⟨rfl,vs0,.inl (.inl q0)⟩,δ,ch1,F1,ρ1,c2,ch2,en.adv a1,hq,fun w F2 H2 ρ2 a2 r2=>?_⟩
  obtain ⟨vs,q1,q2⟩:=a2.gh.ok i _ h1
  rw [a2.ext i hi] at q1
  refine ⟨_,vs,w,rfl,rfl,q1,by rw [q2.length];exact hz,?_⟩
  have hi2:i<ch2.length:=(gX h1).1
  have a3:=Adv.upd (o:=.lst (l++[c2])) (u:=.lst (vs++[w])) (w:=.lst vs) a2.gh hi2 (by rw [a2.ext i hi];exact q1) (fun _ _ z=>nomatch z) ⟨_,aY,q2.append (RelCs.one r2)⟩
  rw [a2.ext i hi] at a3
  have a:=(a1.trans en.gh a2).trans en.gh a3
  exact k σ F2 _ ρ2 a (en.adv a)
def iy {κ:Type} [DecidableEq κ]:List (κ×CV)->κ->CV->List (κ×CV)
 | [],k,c=>[(k,c)]
 | p::l,k,c=>if p.1=k then (p.1,c)::l else p::iy l k c
noncomputable def kP (o:CO) (d:Dt) (c:CV):Option CO:=match o with
 | .lst l=>(asI d).bind fun j=>(ixN l.length j).map fun m=>.lst (l.set m c)
 | .dK l=>(fm d).bind fun k=>if l.length<sizeLine/\(l.map (·.1)).Nodup then some (.dK (iy l k c)) else none
 | _=>none
def om {κ:Type} [DecidableEq κ] {F:Hp} {ρ:Nat->Addr} {n:Nat} {k:κ} {c:CV} {v:V} (r:RelC K F ρ n c v):∀ {l:List (κ×CV)} {kvs:List (κ×V)},(l.map (·.1)).Nodup->kvs.map (·.1)=l.map (·.1)->RelCs K F ρ n (l.map (·.2)) (kvs.map (·.2))→
  (dl kvs k v).map (·.1)=(iy l k c).map (·.1)/\RelCs K F ρ n ((iy l k c).map (·.2)) ((dl kvs k v).map (·.2))
 | [],[],_,_,_=>⟨rfl,⟨v,[],rfl,r,rfl⟩⟩
 | [],q::kvs,_,h,_=>by cases h
 | p::l,[],_,h,_=>by cases h
 | p::l,q::kvs,nd,h,rs=>by
  simp only [List.map_cons,List.cons.injEq] at h
  obtain ⟨h1,h2⟩:=h
  obtain ⟨w,ws,e,r1,r2⟩:=rs
  simp only [List.map_cons,List.cons.injEq] at e
  obtain ⟨rfl,rfl⟩:=e
  have nd':=List.nodup_cons.mp nd
  by_cases hk:p.1=k
  · have hq:q.1=k:=h1.trans hk
    have hnone:∀ x∈kvs,¬ x.1=k:=fun x hx e=>nd'.1 (by
     have:x.1∈kvs.map (·.1):=List.mem_map_of_mem hx
     rw [h2] at this
     rw [e,<- hk] at this
     exact this)
    have e2:dl (q::kvs) k v=(q.1,v)::kvs:=by
     unfold dl
     rw [if_pos (by simp [hq])]
     simp only [List.map_cons,if_pos hq,List.cons.injEq,true_and]
     have:∀ x∈kvs,(if x.1=k then (x.1,v) else x)=id x:=fun x hx=>if_neg (hnone x hx)
     rw [List.map_congr_left this,List.map_id]
    have e1:iy (p::l) k c=(p.1,c)::l:=by simp only [iy,if_pos hk]
    rw [e1,e2]
    exact ⟨by simp [h1,h2],⟨v,_,rfl,r,r2⟩⟩
  · have hq:¬ q.1=k:=fun z=>hk (h1.symm.trans z)
    have e2:dl (q::kvs) k v=q::dl kvs k v:=by
     unfold dl
     by_cases ha:(kvs.any fun kv=>decide (kv.1=k))=true
     · rw [if_pos ha,if_pos (by simp only [List.any_cons,ha,Bool.or_true])]
       simp only [List.map_cons,if_neg hq]
     · rw [if_neg ha,if_neg (by simp only [List.any_cons,decide_eq_false hq,Bool.false_or];exact ha)]
       rfl
    have e1:iy (p::l) k c=p::iy l k c:=by simp only [iy,if_neg hk]
    obtain ⟨i1,i2⟩:=om (k:=k) r nd'.2 h2 r2
    rw [e1,e2]
    exact ⟨by simp [h1,i1],⟨q.2,_,rfl,r1,i2⟩⟩
def cT (fa fk fe:Fg):Fs:=fun δ ch=>(fe δ ch).bind fun p=>(fa δ p.2).bind fun q=>(fk δ q.2).bind fun r=>match q.1,r.1 with
 | .ref i,.dat d=>((r.2[i]?).bind fun o=>kP o d p.1).map fun o'=>.nx δ (r.2.set i o')
 | _,_=>none
def d7 {k:Nat} {ik:Expr} {pos':Pos} (hr:Room k X.A) (hx:GE X o fa) (hk:GE X ik fk) (he:GE X e fe) (hs:swapsWith e (some (.Subscript o ik pos')) pos.line X.env=pure false:=by rfl)
  (hs2:swapsWithSole [.Subscript o ik pos'] e pos.line X.env=pure false:=by rfl) (hw:swappedStores [.Subscript o ik pos'] e X.env=pure none:=by rfl)
  (h1:(assignEach [.Subscript o ik pos'] X.env).map (·.2)=[assign (.Subscript o ik pos') X.env]:=by rfl)
  (ha:∀ v,assign (.Subscript o ik pos') X.env v=(do
   let ov <- holding [v] (eval o X.env)
   let iv <- holding [v,ov] (eval ik X.env)
   standAt pos'
   holding [v,ov,iv] (setItem ov iv v)
   release [v,ov,iv] []):=by intro _;rfl):GS1 X (.Assign [.Subscript o ik pos'] e pos) (cT fa fk fe):=
 PS.mono (PS.or (oP he (xW hx hk tj ha) hs2 hw h1) (vo (qi hr) hx hk he hs)) fun D σ H ⟨δ,ch,F,ρ,og,en,hg,kk⟩=>by
  unfold cT at hg
  obtain ⟨⟨c1,ch1⟩,hp,hg1⟩:=bS hg
  clear hg
  obtain ⟨⟨c2,ch2⟩,hq,hg2⟩:=bS hg1
  clear hg1
  obtain ⟨⟨c3,ch3⟩,hw,hg⟩:=bS hg2
  clear hg2
  dsimp only at hq hw hg
  split at hg<;>first | (cases hg;done) | skip
  rename_i i d
  obtain ⟨o',hput,hg⟩:=mS hg
  cases hg
  obtain ⟨o0,ho,hput⟩:=bS hput
  cases o0 with
  | lst l =>
   obtain ⟨j,hj,hput⟩:=bS hput
   obtain ⟨m,hm,rfl⟩:=mS hput
   left
   refine ⟨δ,ch,F,ρ,_,ch1,en,hp,fun v F1 H1 ρ1 a1 r1=>⟨δ,ch1,F1,ρ1,_,ch2,en.adv a1,hq,fun x F2 H2 ρ2 a2 r2=>⟨δ,ch2,F2,ρ2,_,ch3,(en.adv a1).adv a2,hw,fun y F3 H3 ρ3 a3 r3=>?_⟩⟩⟩
   obtain ⟨vs,q1,q2⟩:=a3.gh.ok i _ ho
   have hi3:i<ch3.length:=(gX ho).1
   have a12:=a1.trans en.gh a2
   have a13:=a12.trans en.gh a3
   have r1':=(r1.mono a2.old a2.ext a2.len).mono a3.old a3.ext a3.len
   refine ⟨_,vs,j,m,(r2.mono a3.old a3.ext a3.len).2,mV hj r3,q1,by rw [q2.length];exact hm,?_⟩
   have a4:=Adv.upd (o:=.lst (l.set m c1)) (u:=.lst (vs.set m v)) a3.gh hi3 q1 (fun _ _ z=>nomatch z) ⟨_,aY,q2.set r1' m⟩
   have a:=a13.trans en.gh a4
   exact kk σ F3 _ ρ3 a (en.adv a)
  | dK l =>
   obtain ⟨j,hj,hput⟩:=bS hput
   split at hput<;>first | (cases hput;done) | skip
   rename_i hz
   cases hput
   right
   refine ⟨δ,ch,F,ρ,_,ch1,en,hp,fun v F1 H1 ρ1 a1 r1=>⟨δ,ch1,F1,ρ1,_,ch2,en.adv a1,hq,fun x F2 H2 ρ2 a2 r2=>⟨δ,ch2,F2,ρ2,_,ch3,(en.adv a1).adv a2,hw,fun y F3 H3 ρ3 a3 r3=>?_⟩⟩⟩
   obtain ⟨kvs,q1,q2,q3⟩:=a3.gh.ok i _ ho
   have hi3:i<ch3.length:=(gX ho).1
   have a12:=a1.trans en.gh a2
   have a13:=a12.trans en.gh a3
   have r1':=(r1.mono a2.old a2.ext a2.len).mono a3.old a3.ext a3.len
   obtain ⟨z1,z2⟩:=om (k:=j) r1' hz.2 q2 q3
   have hlen:kvs.length=l.length:=by
    have:=congrArg List.length q2
    simpa using this
   refine ⟨_,upd H3 (ρ3 i) (.dK (dl kvs j v)),(r2.mono a3.old a3.ext a3.len).2,?_,?_⟩
   · rw [fL hj r3]
     exact DPut.k q1 (by rw [hlen];exact hz.1)
   · have a4:=Adv.upd (o:=.dK (iy l j c1)) (u:=.dK (dl kvs j v)) a3.gh hi3 q1 (fun _ _ z=>nomatch z) ⟨_,aY,z1,z2⟩
     have a:=a13.trans en.gh a4
     exact kk σ F3 _ ρ3 a (en.adv a)
  | tup l=>cases hput
  | ins c ns l=>cases hput
  | wk l=>cases hput
def cO (ns:List Str) (l:List CV) (f:Str) (c:CV):List Str×List CV:=match ns,l with
 | n::ns,x::l=>if n=f then (n::ns,c::l) else ((n::(cO ns l f c).1),(x::(cO ns l f c).2))
 | _,_=>([f],[c])
def jz {F:Hp} {ρ:Nat->Addr} {n:Nat} {f:Str} {c:CV} {v:V} (r:RelC K F ρ n c v):∀ {ns:List Str} {l:List CV} {fs:List (Str×V)},fs.map (·.1)=ns->RelCs K F ρ n l (fs.map (·.2))->(fA f v fs).map (·.1)=(cO ns l f c).1/\RelCs K F ρ n (cO ns l f c).2 ((fA f v fs).map (·.2))
 | [],l,[],_,rs=>by
  cases l with
  | nil=>exact ⟨rfl,⟨v,[],rfl,r,rfl⟩⟩
  | cons x l=>obtain ⟨_,_,e,_⟩:=rs;cases e
 | [],l,p::fs,h,_=>by cases h
 | m::ns,l,[],h,_=>by cases h
 | m::ns,[],p::fs,h,rs=>by
  have:p.2::fs.map (·.2)=[]:=rs
  cases this
 | m::ns,x::l,p::fs,h,rs=>by
  simp only [List.map_cons,List.cons.injEq] at h
  obtain ⟨w,ws,e,r1,r2⟩:=rs
  simp only [List.map_cons,List.cons.injEq] at e
  obtain ⟨rfl,rfl⟩:=e
  obtain ⟨p1,p2⟩:=p
  obtain ⟨rfl,rfl⟩:=h
  by_cases hk:p1=f
  · simp only [fA,cO,if_pos hk]
    exact ⟨by simp,⟨v,_,rfl,r,r2⟩⟩
  · obtain ⟨i1,i2⟩:=jz (f:=f) r rfl r2
    simp only [fA,cO,if_neg hk]
    exact ⟨by simp [i1],⟨p2,_,rfl,r1,i2⟩⟩
noncomputable def dR (c f:Str) (fa fe:Fg):Fs:=fun δ ch=>(fe δ ch).bind fun p=>(fa δ p.2).bind fun q=>match q.1 with
 | .ref i=>match q.2[i]? with
  | some (.ins c' ns l)=>if c'=c/\ns.length<1000 then some (.nx δ (q.2.set i (.ins c' (cO ns l f p.1).1 (cO ns l f p.1).2))) else none
  | _=>none
 | _=>none
def db {cn fn:Str} {pos':Pos} (h:GE X o fa) (hf:iP X.K cn fn) (he:GE X e fe) (hs:swapsWith e (some (.Attribute o fn pos')) pos.line X.env=pure false:=by rfl):GS1 X (.Assign [.Attribute o fn pos'] e pos) (dR cn fn fa fe):=
 PS.mono (yi h he hs) fun D σ H ⟨δ,ch,F,ρ,og,en,hg,kk⟩=>by
  obtain ⟨C,hc,hC,hN⟩:=hf
  unfold dR at hg
  obtain ⟨⟨c1,ch1⟩,hp,hg1⟩:=bS hg
  clear hg
  obtain ⟨⟨c2,ch2⟩,hq,hg⟩:=bS hg1
  clear hg1
  dsimp only at hq hg
  split at hg<;>first | (cases hg;done) | skip
  rename_i i
  split at hg<;>first | (cases hg;done) | skip
  rename_i c' ns l ho
  split at hg<;>cases hg
  rename_i hz
  obtain ⟨rfl,hz⟩:=hz
  refine ⟨δ,ch,F,ρ,_,ch1,en,hp,fun v F1 H1 ρ1 a1 r1=>⟨δ,ch1,F1,ρ1,_,ch2,en.adv a1,hq,fun x F2 H2 ρ2 a2 r2=>?_⟩⟩
  obtain ⟨C',dx,fs,h0,q1,q2,q3⟩:=a2.gh.ok i _ ho
  have:=ClsAt.inj hc h0
  subst this
  have hi:i<ch2.length:=(gX ho).1
  have r1':=r1.mono a2.old a2.ext a2.len
  obtain ⟨z1,z2⟩:=jz (f:=fn) r1' q2 q3
  refine ⟨_,C,dx,fs,r2.2,q1,hC,hN,?_,?_⟩
  · have:=congrArg List.length q2
    rw [List.length_map] at this
    omega
  · have a3:=Adv.upd (o:=.ins c' (cO ns l fn c1).1 (cO ns l fn c1).2) (u:=.ins C dx (fA fn v fs)) a2.gh hi q1 (fun _ _ z=>nomatch z) ⟨C,dx,_,hc,aY,z1,z2⟩
    have a:=(a1.trans en.gh a2).trans en.gh a3
    exact kk σ F2 _ ρ2 a (en.adv a)
end
def dO (m:Nat) (g:Fs):Fd:=fun cs ch=>match g (cs.map some++List.replicate (m-cs.length) none) ch with
 | some (.rt c ch')=>some (c,ch')
 | some (.nx _ ch')=>some (.dat .non,ch')
 | _=>none
def oo {K:PySem.W.Frag} {F H:Hp} {ρ:Nat->Addr} {ch:CH} {cs:List CV} {vs:List V} {N:List Str} (g:Gh K F H ρ ch) (r:RelCs K F ρ ch.length cs vs):Ge K (cs.map some++List.replicate (N.length-cs.length) none) ch (eX N vs) F H ρ:=by
 have hl:=r.length
 refine ⟨g,by simp [eX,hl],fun i c h=>?_⟩
 by_cases hi:i<cs.length
 · rw [List.getElem?_append_left (by simpa using hi),List.getElem?_map] at h
   have hd:cs[i]?=some cs[i]:=by simp [hi]
   rw [hd] at h
   cases h
   obtain ⟨v,hv,rv⟩:=r.get hd
   refine ⟨v,?_,rv⟩
   unfold eX
   rw [List.getElem?_append_left (by simp;omega),List.getElem?_map,hv]
   rfl
 · rw [List.getElem?_append_right (by simpa using hi)] at h
   rw [List.getElem?_replicate] at h
   split at h<;>cases h
section
variable {P:Program} {w:World} {K:PySem.W.Frag} {mg:Str->Option Value} {base:Heap}
def mX {x q:Str} {st:Stmt} {N ps:List Str} {k n:Nat} {g:Fs} {f:Addr} {fd:FuncData} (D:Fun K x q st f fd) (S:FnScope N ps (ab st)) (hn:ps.length=n)
  (hbody:∀ (cdv:Value) (A:Around) (outer:List Env) (s:Shared) (H:Hp) (E:XK),Room k (A.deeper (envOfC q (ab st) s.heap.objs.size f cdv))->GS (jY CX0 P w K mg base N q (ab st) f cdv A outer s H E).nox (aO st) g) :
  FnOk P w K mg base CX0 (k+1) f fd ps (spG K n (dO N.length g)):=by
 refine D.ok S (fun vs H Q E h=>?_) (fun cdv A outer s H vs Q E hr h=>?_)
 · obtain ⟨F,ρ,cs,ch,c,ch',_,hl,r,_⟩:=h
   rw [r.length,hl,hn]
 · obtain ⟨F,ρ,cs,ch,c,ch',gh,hl,r,hf,kq⟩:=h
   refine ⟨_,hbody cdv A outer s H E hr,?_⟩
   unfold dO at hf
   split at hf
   · rename_i c1 ch1 q
     cases hf
     exact ⟨_,ch,F,ρ,_,oo gh r,q,fun v F' H' ρ' a z=>kq v F' H' ρ' a z⟩
   · rename_i δ1 ch1 q
     cases hf
     exact ⟨_,ch,F,ρ,_,oo gh r,q,fun σ' F' H' ρ' a z=>kq .non F' H' ρ' a (mJ (K:=K) (F:=F'))⟩
   · cases hf
end
section
variable {X:Cx} {e a b o:Expr} {es rest:List Expr} {f fa fb fe:Fg} {fs:Fgs} {ta tb:Ft} {pos apos cpos p:Pos} {sc:Scope} {x:Str} {K:PySem.W.Frag}
def GW (X:Cx) (e:Expr) (f:Ft):Prop:=PW X e (tGT X.K f)
def jU (f:Ft):Ft:=fun δ ch=>(f δ ch).map fun p=>(!p.1,p.2)
def fV (f g:Ft):Ft:=fun δ ch=>(f δ ch).bind fun p=>if p.1 then g δ p.2 else some (false,p.2)
def gJ (f g:Ft):Ft:=fun δ ch=>(f δ ch).bind fun p=>if p.1 then some (true,p.2) else g δ p.2
def iB (f:Fg):Ft:=fun δ ch=>(f δ ch).bind fun p=>(vw p.2 p.1).bind fun d=>(tQ d).map fun b=>(b,p.2)
def je (ha:GE X a fa) (he:∀ whole,isTrue a X.env whole=(do let v <- whole;standAt a.pos;holding [v] (truthy v))):GT X a (iB fa):=PT.mono (nE ha he) fun σ H Q ⟨δ,ch,F,ρ,b,ch',en,hf,k⟩=>by
 unfold iB at hf
 obtain ⟨p,hp,hf⟩:=bS hf
 obtain ⟨d,hd,hf⟩:=bS hf
 obtain ⟨c,hc,hf⟩:=mS hf
 cases hf
 exact ⟨δ,ch,F,ρ,p.1,_,en,hp,fun v F' H' ρ' a r=>⟨_,qz a.gh.fh (ip a.gh r hd) hc,k F' H' ρ' a⟩⟩
def pD (h:GT X a ta):GT X (.UnaryOp .Not a pos) (jU ta):=PT.mono (xS h) fun σ H Q ⟨δ,ch,F,ρ,b,ch',en,hf,k⟩=>by
 unfold jU at hf
 obtain ⟨p,hp,hf⟩:=mS hf
 cases hf
 exact ⟨δ,ch,F,ρ,p.1,p.2,en,hp,fun F' H' ρ' a=>k F' H' ρ' a⟩
def qP (h:GT X a ta):GW X (.BoolOp .And [a] pos) ta:=pW h
def mY (h:GT X a ta):GW X (.BoolOp .Or [a] pos) ta:=xR h
def uo (h:GT X a ta) (h':GW X (.BoolOp .And (b::rest) pos) tb):GW X (.BoolOp .And (a::b::rest) pos) (fV ta tb):=PW.mono (sB h h') fun σ H Q ⟨δ,ch,F,ρ,t,ch',en,hf,k⟩=>by
 unfold fV at hf
 obtain ⟨p,hp,hf⟩:=bS hf
 refine ⟨δ,ch,F,ρ,p.1,p.2,en,hp,fun F' H' ρ' a=>?_⟩
 split at hf
 · rename_i q
   rw [if_pos q]
   exact ⟨δ,p.2,F',ρ',t,ch',en.adv a,hf,fun F2 H2 ρ2 a2=>k F2 H2 ρ2 (a.trans en.gh a2)⟩
 · rename_i q
   rw [if_neg q]
   cases hf
   exact k F' H' ρ' a
def kQ (h:GT X a ta) (h':GW X (.BoolOp .Or (b::rest) pos) tb):GW X (.BoolOp .Or (a::b::rest) pos) (gJ ta tb):=PW.mono (zU h h') fun σ H Q ⟨δ,ch,F,ρ,t,ch',en,hf,k⟩=>by
 unfold gJ at hf
 obtain ⟨p,hp,hf⟩:=bS hf
 refine ⟨δ,ch,F,ρ,p.1,p.2,en,hp,fun F' H' ρ' a=>?_⟩
 split at hf
 · rename_i q
   rw [if_pos q]
   cases hf
   exact k F' H' ρ' a
 · rename_i q
   rw [if_neg q]
   exact ⟨δ,p.2,F',ρ',t,ch',en.adv a,hf,fun F2 H2 ρ2 a2=>k F2 H2 ρ2 (a.trans en.gh a2)⟩
def GW.t (h:GW X a ta):GT X a ta:=h.pt
def mZ:CV->Option Bool
 | .dat (.bl b)=>some b
 | _=>none
def qQ {F:Hp} {ρ:Nat->Addr} {n:Nat} {c:CV} {b:Bool} {v:V} (h:mZ c=some b) (r:RelC K F ρ n c v):v=.bl b:=by
 unfold mZ at h
 split at h<;>cases h
 have r:Rep K F (.bl b) v:=r
 simp only [Rep] at r
 exact r
def pE (f g:Fg):Fg:=fun δ ch=>(f δ ch).bind fun p=>(mZ p.1).bind fun b=>if b then g δ p.2 else some (.dat (.bl false),p.2)
def eOr (f g:Fg):Fg:=fun δ ch=>(f δ ch).bind fun p=>(mZ p.1).bind fun b=>if b then some (.dat (.bl true),p.2) else g δ p.2
def pF {op} (h:GE X a fa):GE X (.BoolOp op [a] pos) fa:=sC h
def pG (h:GE X a fa) (h':GE X (.BoolOp .And (b::rest) pos) fb):GE X (.BoolOp .And (a::b::rest) pos) (pE fa fb):=PE.mono (sD h h') fun σ H Q ⟨δ,ch,F,ρ,c,ch',en,hf,k⟩=>by
 unfold pE at hf
 obtain ⟨p,hp,hf⟩:=bS hf
 obtain ⟨b,hb,hf⟩:=bS hf
 refine ⟨δ,ch,F,ρ,p.1,p.2,en,hp,fun v F' H' ρ' a r=>⟨b,qQ hb r,?_⟩⟩
 split at hf
 · rename_i q
   rw [if_pos q]
   exact ⟨δ,p.2,F',ρ',c,ch',en.adv a,hf,k.adv en.gh a⟩
 · rename_i q
   rw [if_neg q]
   cases hf
   exact k _ F' H' ρ' a (kE (K:=X.K) (F:=F'))
def Bt (h:GE X a fa) (h':GE X (.BoolOp .Or (b::rest) pos) fb):GE X (.BoolOp .Or (a::b::rest) pos) (eOr fa fb):=PE.mono (zX h h') fun σ H Q ⟨δ,ch,F,ρ,c,ch',en,hf,k⟩=>by
 unfold eOr at hf
 obtain ⟨p,hp,hf⟩:=bS hf
 obtain ⟨b,hb,hf⟩:=bS hf
 refine ⟨δ,ch,F,ρ,p.1,p.2,en,hp,fun v F' H' ρ' a r=>⟨b,qQ hb r,?_⟩⟩
 split at hf
 · rename_i q
   rw [if_pos q]
   cases hf
   exact k _ F' H' ρ' a (kE (K:=X.K) (F:=F'))
 · rename_i q
   rw [if_neg q]
   exact ⟨δ,p.2,F',ρ',c,ch',en.adv a,hf,k.adv en.gh a⟩
def jA {op:CmpOp} {r:R2} {g:Dt->Dt->Option T} (ho:OpR X (compareOp op) r) (hr:R2D X.K r g) (ha:GE X a fa) (hb:GE X b fb) (hm:behindInMarks op b=false):GE X (.Compare a [op] [b] pos) (e2 g fa fb):=PE.mono (p8 ho ha hb hm) fun _ _ _ h=>um hr h
def vws (ch:CH):List CV->Option (List Dt)
 | []=>some []
 | c::l=>(vw ch c).bind fun d=>(vws ch l).map (d::·)
def jB {F H:Hp} {ρ:Nat->Addr} {ch:CH} (g:Gh K F H ρ ch):∀ {l:List CV} {ds:List Dt} {vs:List V},RelCs K F ρ ch.length l vs->vws ch l=some ds->RepBs K F H ds vs
 | [],ds,vs,r,h=>by cases h;exact r
 | c::l,ds,vs,r,h=>by
  simp only [vws] at h
  obtain ⟨d,hd,h⟩:=bS h
  obtain ⟨es,he,rfl⟩:=mS h
  obtain ⟨v,ws,e,r1,r2⟩:=r
  exact ⟨v,ws,e,ip g r1 hd,jB g r2 he⟩
def eB (g:List Dt->Option T) (fs:Fgs):Fg:=fun δ ch=>(fs δ ch).bind fun p=>(vws p.2 p.1).bind fun ds=>(g ds).bind (al p.2)
def xw {r:List V->Hp->VK->Prop} {g:List Dt->Option T} (hr:CRD K r g) {σ:St} {H:Hp} {Q:VK} (h:tG K (eB g fs) σ H Q):tCB r (tGs K fs) σ H Q:=by
 obtain ⟨δ,ch,F,ρ,c,ch',en,hf,k⟩:=h
 unfold eB at hf
 obtain ⟨p,hp,hf⟩:=bS hf
 obtain ⟨ds,hd,hf⟩:=bS hf
 obtain ⟨t,ht,hf⟩:=bS hf
 exact ⟨δ,ch,F,ρ,p.1,p.2,en,hp,fun vs F1 H1 ρ1 a1 r1=>hr F1 H1 ds vs Q t a1.gh.fh (jB a1.gh r1 hd) ht (oh a1.gh hf (k.adv en.gh a1))⟩
def uq {id:String} {r:List V->Hp->VK->Prop} {gg:List Dt->Option T} (h:bt sc x=true) (hc:CallR X (.builtin id) r) (hr:CRD X.K r gg) (hm:X.mg x=none) (hv:bootBuiltins x=some (.builtin id)) (ha:GA X (e::es) fs) (e1:dE X sc:=by rfl)
  (he:starEach (e::es) X.env=(false,eval e X.env)::starEach es X.env:=by rfl) (hpl:(backTo pos (starEach es X.env)).any (·.1)=false:=by rfl):GE X (.Call (.Name x p) (e::es) [] pos) (eB gg fs):=
 PE.mono (jr h hc hm hv ha e1 he hpl) fun σ H Q q=>xw hr q
def kR {Ty:String} {r:List V->Hp->VK->Prop} {gg:List Dt->Option T} (h:bt sc x=true) (hc:CallR X (.type Ty) r) (hr:CRD X.K r gg) (hm:X.mg x=none) (hv:bootBuiltins x=some (.type Ty)) (ha:GA X (e::es) fs) (e1:dE X sc:=by rfl)
  (he:starEach (e::es) X.env=(false,eval e X.env)::starEach es X.env:=by rfl) (hpl:(backTo pos (starEach es X.env)).any (·.1)=false:=by rfl):GE X (.Call (.Name x p) (e::es) [] pos) (eB gg fs):=
 PE.mono (iK h hc hm hv ha e1 he hpl) fun σ H Q q=>xw hr q
def eCV (ff:List Dt->Option T) (fs:Fgs):Fg:=fun δ ch=>(fs δ ch).bind fun p=>(vws p.2 p.1).bind fun ds=>(ff ds).bind fun u=>(qK u).bind (al p.2)
def qR {ch:CH}:∀ {l:List CV} {ds:List Dt},vws ch l=some ds->ds.length=l.length
 | [],ds,h=>by cases h;rfl
 | c::l,ds,h=>by
  simp only [vws] at h
  obtain ⟨d,hd,h⟩:=bS h
  obtain ⟨es,he,rfl⟩:=mS h
  simp [qR he]
def oq {k n:Nat} {ps:List Str} {ff:List Dt->Option T} (h:bt sc x=true) (F:OkF X.prog X.w X.K X.mg X.base x k ps (spD X.K n ff)) (hr:Room k X.A) (ha:GA X (e::es) fs) (hn:∀ δ ch p,fs δ ch=some p->p.1.length=n) (e1:dE X sc:=by rfl)
  (he:starEach (e::es) X.env=(false,eval e X.env)::starEach es X.env:=by rfl) (hpl:(backTo pos (starEach es X.env)).any (·.1)=false:=by rfl):GE X (.Call (.Name x p) (e::es) [] pos) (eCV ff fs):=
 PE.mono (jt h F hr ha e1 he hpl) fun σ H Q ⟨δ,ch,Fz,ρ,c,ch',en,hf,k⟩=>by
  unfold eCV at hf
  obtain ⟨p,hp,hf⟩:=bS hf
  obtain ⟨ds,hd,hf⟩:=bS hf
  obtain ⟨u,hu,hf⟩:=bS hf
  obtain ⟨t,ht,hf⟩:=bS hf
  refine ⟨δ,ch,Fz,ρ,p.1,p.2,en,hp,fun vs F1 H1 ρ1 a1 r1=>?_⟩
  show spD X.K n ff (vs++[]) H1 Q E0
  rw [List.append_nil]
  exact ⟨H1,ds,u,Same.refl _,(qR hd).trans (hn δ ch p hp),(jB a1.gh r1 hd).reps a1.gh.fh,hu,ui a1.gh.fh ht (oh a1.gh hf (k.adv en.gh a1))⟩
noncomputable def eMk (c:Str) (g:Fd) (fs:Fgs):Fg:=fun δ ch=>(fs δ ch).bind fun p=>(g (.ref p.2.length::p.1) (p.2++[.ins c [] []])).bind fun q=>match q.1 with
 | .dat .non=>if p.2.length<q.2.length then some (.ref p.2.length,q.2) else none
 | _=>none
def Bu {c:Str} {C:Addr} {n:Nat} {g:Fd} {as:TA} (h1:ClsAt K c C) (hn:∀ δ ch p,fs δ ch=some p->p.1.length+1=n) (has:∀ σ H Q,tGs K fs σ H Q->as σ H Q):∀ σ H Q,tG K (eMk c g fs) σ H Q->wZ C (spG K n g) [] E0 as σ H Q:=fun σ H Q ⟨δ,ch,F,ρ,c0,ch',en,hf,k⟩=>by
 unfold eMk at hf
 obtain ⟨⟨cs,ch1⟩,hp,hf1⟩:=bS hf
 clear hf
 obtain ⟨⟨r,ch2⟩,hq,hf⟩:=bS hf1
 clear hf1
 dsimp only at hf
 split at hf<;>first | (cases hf;done) | skip
 split at hf<;>cases hf
 rename_i hlt
 refine has _ _ _ ⟨δ,ch,F,ρ,cs,ch1,en,hp,fun vs F1 H1 ρ1 a1 r1 x dx hx hdx hne=>?_⟩
 have st:Step F1 H1 F1 (upd (upd H1 dx (.own x)) x (.ins C dx [])):=(Step.made a1.gh.fh hdx).trans (Step.made (a1.gh.fh.trans (Same.upd hdx)) (by rw [bc (Ne.symm hne)];exact hx))
 have a2:=Adv.new (o:=.ins c [] []) a1.gh st hx (a1.gh.fh.free hx) ⟨C,dx,[],h1,aY,rfl,rfl⟩
 have a12:=a1.trans en.gh a2
 show spG K n g (V.ref x::(vs++[])) _ _ E0
 rw [List.append_nil]
 refine ⟨F1,_,.ref ch1.length::cs,ch1++[.ins c [] []],_,_,a2.gh,hn δ ch _ hp,⟨_,vs,rfl,⟨by simp,?_⟩,r1.mono (Same.refl _) a2.ext (by simp)⟩,hq,fun v F' H' ρ' a3 rv=>⟨?_,?_⟩⟩
 · (try dsimp only)
   rw [if_pos rfl]
 · have rv:Rep K F' .non v:=rv
   simp only [Rep] at rv
   exact rv
 · refine k _ F' H' ρ' (a12.trans en.gh a3) ⟨hlt,?_⟩
   rw [a3.ext ch1.length (by simp)]
   (try dsimp only)
   rw [if_pos rfl]
def qS {c:Str} {k n:Nat} {ps:List Str} {g:Fd} (h:bt sc c=true) (F:OkI X.prog X.w X.K X.mg X.base c k ps (spG X.K n g)) (hr:Room (k+1) X.A) (ha:GA X (e::es) fs) (hn:∀ δ ch p,fs δ ch=some p->p.1.length+1=n) (e1:dE X sc:=by rfl)
  (he:starEach (e::es) X.env=(false,eval e X.env)::starEach es X.env:=by rfl) (hpl:(backTo pos (starEach es X.env)).any (·.1)=false:=by rfl):GE X (.Call (.Name c p) (e::es) [] pos) (eMk c g fs):=by
 obtain ⟨C,g',fd,h1,h2,h3,h4,h5⟩:=F.ex
 exact PE.mono (vc h3 h5 hr (glD h e1) h2 h4 .nil qh ha (jq h) he hpl) (Bu h1 hn fun _ _ _ q=>q)
def eIf (c:Ft) (f g:Fg):Fg:=fun δ ch=>(c δ ch).bind fun p=>if p.1 then f δ p.2 else g δ p.2
def xx {c:Expr} {tc:Ft} (hc:GT X c tc) (h:GE X a fa) (h':GE X b fb):GE X (.IfExp c a b pos) (eIf tc fa fb):=PE.mono (nA hc h h') fun σ H Q ⟨δ,ch,F,ρ,x,ch',en,hf,k⟩=>by
 unfold eIf at hf
 obtain ⟨p,hp,hf⟩:=bS hf
 refine ⟨δ,ch,F,ρ,p.1,p.2,en,hp,fun F' H' ρ' a=>?_⟩
 split at hf
 · rename_i q
   rw [if_pos q]
   exact ⟨δ,p.2,F',ρ',x,ch',en.adv a,hf,k.adv en.gh a⟩
 · rename_i q
   rw [if_neg q]
   exact ⟨δ,p.2,F',ρ',x,ch',en.adv a,hf,k.adv en.gh a⟩
def bz:∀ δ ch p,aB δ ch=some p->p.1.length=0:=fun δ ch p h=>by cases h;rfl
def y1 {f:Fg} {fs:Fgs} {n:Nat} (h:∀ δ ch p,fs δ ch=some p->p.1.length=n):∀ δ ch p,ak f fs δ ch=some p->p.1.length=n+1:=fun δ ch p hp=>by
 unfold ak at hp
 obtain ⟨a,ha,hp⟩:=bS hp
 obtain ⟨b,hb,hp⟩:=mS hp
 cases hp
 simp [h _ _ _ hb]
def fY {fs:Fgs} {n:Nat} (h:∀ δ ch p,fs δ ch=some p->p.1.length=n):∀ δ ch p,fs δ ch=some p->p.1.length+1=n+1:=fun δ ch p hp=>by rw [h δ ch p hp]
end
section
variable {P:Program} {w:World} {K:PySem.W.Frag} {mg:Str->Option Value} {base:Heap}
def gx {x:Str} {st:Stmt} {N ps:List Str} {k n:Nat} {g:Fs} (D:DefF K mg x st ps) (S:FnScope N ps (ab st)) (hn:ps.length=n)
  (hbody:∀ (f:Addr) (cdv:Value) (A:Around) (outer:List Env) (s:Shared) (H:Hp) (E:XK),Room k (A.deeper (envOfC x (ab st) s.heap.objs.size f cdv))->GS (jY CX0 P w K mg base N x (ab st) f cdv A outer s H E).nox (aO st) g) :
  OkF P w K mg base x (k+1) ps (spG K n (dO N.length g)):=by
 obtain ⟨f,fd,h1,h2,h3,h4⟩:=D.ex
 exact ⟨f,fd,h1,h2,h3,mX h4 S hn (hbody f)⟩
def cK {c m q:Str} {st:Stmt} {N ps:List Str} {k n:Nat} {g:Fs} (D:DefM K c m q st ps) (S:FnScope N ps (ab st)) (hn:ps.length=n)
  (hbody:∀ (f:Addr) (cdv:Value) (A:Around) (outer:List Env) (s:Shared) (H:Hp) (E:XK),Room k (A.deeper (envOfC q (ab st) s.heap.objs.size f cdv))->GS (jY CX0 P w K mg base N q (ab st) f cdv A outer s H E).nox (aO st) g) :
  OkM P w K mg base c m (k+1) ps (spG K n (dO N.length g)):=by
 obtain ⟨C,f,fd,h1,h2,h3,h4,h5⟩:=D.ex
 exact ⟨C,f,fd,h1,h2,h3,h4,mX h5 S hn (hbody f)⟩
def wc {c q:Str} {st:Stmt} {N ps:List Str} {k n:Nat} {g:Fs} (D:DefI K mg c q st ps) (S:FnScope N ps (ab st)) (hn:ps.length=n)
  (hbody:∀ (f:Addr) (cdv:Value) (A:Around) (outer:List Env) (s:Shared) (H:Hp) (E:XK),Room k (A.deeper (envOfC q (ab st) s.heap.objs.size f cdv))->GS (jY CX0 P w K mg base N q (ab st) f cdv A outer s H E).nox (aO st) g) :
  OkI P w K mg base c (k+1) ps (spG K n (dO N.length g)):=by
 obtain ⟨C,f,fd,h1,h2,h3,h4,h5⟩:=D.ex
 exact ⟨C,f,fd,h1,h2,h3,h4,mX h5 S hn (hbody f)⟩
end
section
variable {X:Cx} {e a b c o:Expr} {es rest:List Expr} {f fa fb fe:Fg} {fs:Fgs} {ta tb tc:Ft} {pos apos cpos p:Pos} {sc:Scope} {x:Str} {K:PySem.W.Frag} {g:Fs} {body:List Stmt}
end
def m4:typeLookup (.type "list") "keys"=pure none:=by rw [typeLookup_type,builtinLookup_eq_fast];kernel_rfl
def j1:typeLookup (.type "list") "__getattr__"=pure none:=by rw [typeLookup_type,builtinLookup_eq_fast];kernel_rfl
def dS:plainId "dict.update.loop"=true:=by decide +kernel
def g9:entryFor table "dict.update.loop"=some Builtin.«dict.update.loop»:=entryFor_of_fast (by kernel_rfl)
section
variable {prog:Program} {w:World} {A:Around} {E:Value->Shared->Prop} {s:Shared} {a:Addr} {its:Array Value} {c:Nat} {sl:Array (Option Value)}
def pH {tk:Tok} {Q:Fin->Shared->Prop} (hx:s.heap.get? a=some {cls:=.type "list",dict:=none,data:=.seq its c,slots:=sl}) (hh:A.handled=none)
  (hE:∀ h' tk e,Heap.NewAttrErr s.heap h' e (.ref a) "keys"->E (.ref e) {s with heap:=h',toks:=tk}) :
  wpAny (model prog w) A (Builtin.«object.__getattribute__» ⟨[.ref a,.str "keys" tk],[]⟩) Q E s:=by
 obtain ⟨h,g,d,t,os⟩:=s
 have hT:(⟨h,g,d,t,os⟩:Shared).TypeIs (.ref a) "list":=⟨_,hx,rfl⟩
 have f4:=m4
 repeat (any_goals (first | assumption | wp_step))
 exact wpAny_raiseAttrError hh hE (attrMsg_fits (by decide +kernel) (by size_fits))
def sk {Q:Option Value->Shared->Prop} (hx:s.heap.get? a=some {cls:=.type "list",dict:=none,data:=.seq its c,slots:=sl}) (hh:A.handled=none)
  (hQ:∀ h' tk,(∀ b ob,s.heap.get? b=some ob->h'.get? b=some ob)->Q none {s with heap:=h',toks:=tk}) :
  wpAny (model prog w) A (getAttr? (.ref a) "keys") Q E s:=by
 obtain ⟨h,g,d,t,os⟩:=s
 have hT:(⟨h,g,d,t,os⟩:Shared).TypeIs (.ref a) "list":=⟨_,hx,rfl⟩
 have f1:=sub_AttributeError
 have f3:=F.slot_list_getattribute.lookup
 have f4:=F.slot_list_getattribute.bind (.ref a)
 have f5:=j1
 unfold getAttr? getAttrBy? getAttrBy
 repeat (any_goals (first | assumption | wp_step))
 refine codeAny_call_builtin F.slot_list_getattribute.plain F.entry_list_ga (F.slot_list_getattribute.check _ _ _ _ _ _ _ _ hT (F.args_list_getattribute_2 _ _) (pH hx hh fun h' tk e hn=>?_))
 obtain ⟨t',u',he⟩:=hn.there
 show wpAny _ _ (getattributeRaised _ _ _ _ _ _ _) _ _ _
 unfold getattributeRaised
 repeat (any_goals (first | assumption | wp_step))
 exact hQ _ _ hn.keeps
end
section
variable {prog:Program} {w:World} {A:Around} {E:Value->Shared->Prop} {s:Shared} {a:Addr} {its:Array Value} {c:Nat} {sl:Array (Option Value)}
end
section
variable {X:Cx} {e o:Expr} {sc:Scope} {p pos:Pos} {fs:De->Option (List Dt)}
end
section
variable {prog:Program} {w:World} {A:Around}
def hJ (kvs:List (Key×Value)):List (Key×Value)->List (Key×Value)
 | []=>kvs
 | p::ps=>hJ (stored kvs p.1 p.2) ps
structure PairsAt (prog:Program) (w:World) (h:Heap) (it D:Addr) (items:Array Value) (ps:List (Key×Value)):Prop where
 len:items.size=ps.length
 at_:∀ (j:Nat) (p:Key×Value),ps[j]?=some p->∃ t key o n,items[j]?=some (.ref t)/\t≠it/\t≠D/\(bJ prog w).is p.1 key=true/\h.get? t=some o/\o.cls=.type "tuple"/\o.data=.seq #[key,p.2] n
def PairsAt.keep {h h':Heap} {it D:Addr} {items:Array Value} {ps:List (Key×Value)} (P:PairsAt prog w h it D items ps) (k:∀ b o,b≠it->b≠D->h.get? b=some o->h'.get? b=some o):PairsAt prog w h' it D items ps:=
 ⟨P.len,fun j p hp=>by
  obtain ⟨t,key,o,n,h1,h2,h3,h4,h5,h6,h7⟩:=P.at_ j p hp
  exact ⟨t,key,o,n,h1,h2,h3,h4,k t o h2 h3 h5,h6,h7⟩⟩
def ur {l it D:Addr} {items:Array Value} {ps:List (Key×Value)} {result:Value} (hlD:l≠D) (hli:l≠it) (hiD:it≠D) :
  ∀ (k i:Nat) (A:Around) (s:Shared) (kvs:List (Key×Value)) (R:Result->Shared->Prop),A.handled=none->ps.length-i=k->i<=ps.length->s.heap.IsListIter it l i->s.heap.IsList l items->PairsAt prog w s.heap it D items ps->s.heap.DictOf (bJ prog w) D kvs→
   kvs.length+(ps.length-i)<=sizeLine→
   (∀ h' tk,h'.DictOf (bJ prog w) D (hJ kvs (ps.drop i))->(∀ b o,b≠it->b≠D->s.heap.get? b=some o->h'.get? b=some o)->R (.ok (.ret result)) {s with heap:=h',toks:=tk})→
   codeAny (model prog w) A (.builtin "dict.update.loop" ⟨[.ref D,.ref it,rawInt i,result],[]⟩) R s:=by
 intro k
 induction k with
 | zero =>
  intro i A s kvs R hh hk hi hit hl hP hD hz hR
  have hin:i=ps.length:=by omega
  subst hin
  refine codeAny_builtin g9 ?_
  rw [Around.under_plainId dS _]
  unfold Builtin.«dict.update.loop»
  show wpAny _ _ (pyNext (.ref _) >>= _) _ _ _
  refine wpAny_bind (wpAny_pyNext_list_end hh hit hl (by rw [<- hP.len];simp) fun h' eb=>?_)
  refine wB (wpAny_pure (wpAny_pure (hR h' s.toks ?_ fun b o hb _ e=>eb b o hb e)))
  rw [List.drop_length]
  exact hD.extBut eb (Ne.symm hiD)
 | succ k ih =>
  intro i A s kvs R hh hk hi hit hl hP hD hz hR
  have hlt:i<ps.length:=by omega
  obtain ⟨t,key,o,n,h1,h2,h3,h4,h5,h6,h7⟩:=hP.at_ i ps[i] (by simp [hlt])
  refine codeAny_builtin g9 ?_
  rw [Around.under_plainId dS _]
  unfold Builtin.«dict.update.loop»
  show wpAny _ _ (pyNext (.ref _) >>= _) _ _ _
  refine wB (wpAny_pyNext_list_item hit hl h1 fun h' hit' sb=>?_)
  have h5':h'.get? t=some o:=(sb.2 t h2).trans h5
  have hD':h'.DictOf (bJ prog w) D kvs:=hD.sameBut sb (Ne.symm hiD)
  show wpAny _ _ (holding [Value.ref t] _ >>= _) _ _ _
  refine wB (wpAny_holding (wB (wpAny_tryCatch ?_)))
  unfold Builtin.Dict.pairItems
  refine wB (wpAny_typeOf (T:="tuple") ⟨o,h5',h6⟩ ?_)
  rw [if_pos (by decide)]
  refine wB (wpAny_seqItems h5' h7 ?_)
  refine wpAny_pure ?_
  show wpAny _ _ (holding [key,ps[i].2] (dictSet D key ps[i].2)) _ _ _
  refine wpAny_holding (wpAny_dictSet_pairs (hsz:=by omega) h4 hD' fun h'' hD'' sb'=>?_)
  refine wpAny_pure ⟨plainId_quiet dS _,?_⟩
  have kp:∀ b o,b≠it->b≠D->s.heap.get? b=some o->h''.get? b=some o:=fun b o hb hb' e=>by
   rw [sb'.2 b hb',sb.2 b hb]
   exact e
  have hl':h''.IsList l items:=by
   obtain ⟨ol,e1,e2⟩:=hl
   exact ⟨ol,kp l ol hli hlD e1,e2⟩
  have hit'':h''.IsListIter it l (i+1):=by
   obtain ⟨oi,e1,e2⟩:=hit'
   exact ⟨oi,by rw [sb'.2 it hiD];exact e1,e2⟩
  refine ih (i+1) _ _ (stored kvs ps[i].1 ps[i].2) R hh (by omega) (by omega) hit'' hl' (hP.keep kp) hD'' ?_ fun h3 tk hD3 kp3=>hR h3 tk ?_ fun b o hb hb' e=>kp3 b o hb hb' (kp b o hb hb' e)
  · have:=stored_length_le kvs ps[i].1 ps[i].2
    omega
  · have:ps.drop i=ps[i]::ps.drop (i+1):=List.drop_eq_getElem_cons hlt
    rw [this]
    exact hD3
variable {E:Value->Shared->Prop} {s:Shared} {a:Addr} {its:Array Value} {c:Nat} {sl:Array (Option Value)}
def lw {Q:Value->Shared->Prop} {ps:List (Key×Value)} (hx:s.heap.get? a=some {cls:=.type "list",dict:=none,data:=.seq its c,slots:=sl}) (hh:A.handled=none) (hl:its.size=ps.length) (hz:ps.length<=sizeLine)
  (hp:∀ (j:Nat) (p:Key×Value),ps[j]?=some p->∃ t key o n,its[j]?=some (.ref t)/\(bJ prog w).is p.1 key=true/\s.heap.get? t=some o/\o.cls=.type "tuple"/\o.data=.seq #[key,p.2] n)
  (hQ:∀ h' tk,h'.DictOf (bJ prog w) s.heap.objs.size (hJ [] ps)->(∀ b ob,s.heap.get? b=some ob->h'.get? b=some ob)->Q (.ref s.heap.objs.size) {s with heap:=h',toks:=tk}) :
  wpAny (model prog w) A (call (.type "dict") [.ref a]) Q E s:=by
 refine callType_codes (Q₁:=fun obj s₁=>obj=.ref s.heap.objs.size/\s₁={s with heap:=s.heap.push {cls:=.type "dict",data:=.dict #[]}}) F.kt_called_dict (F.kt_typeCall_dict_1 _) F.entry_dict_init (kt_code_dict_new _ ⟨rfl,rfl⟩) ?_
 rintro obj s₁ ⟨rfl,rfl⟩
 have hnew:(s.heap.push {cls:=.type "dict",data:=.dict #[]}).DictOf (bJ prog w) s.heap.objs.size []:=Heap.DictOf.new s.heap
 have hx1:(s.heap.push {cls:=.type "dict",data:=.dict #[]}).get? a=some {cls:=.type "list",dict:=none,data:=.seq its c,slots:=sl}:=gP _ hx
 refine ⟨hnew.typeIs,F.args_dict_init_2 _ _,?_⟩
 unfold Builtin.«dict.__init__»
 refine wB ?_
 unfold Builtin.Dict.selfAndRest
 refine wB (wpAny_notOrdered_dict hnew.typeIs ?_)
 show wpAny _ _ (pure (s.heap.objs.size,[Value.ref a])) _ _ _
 refine wpAny_pure ?_
 show wpAny _ _ (Builtin.Dict.updateFrom "dict.__init__" s.heap.objs.size (.ref a) [] .none) _ _ _
 unfold Builtin.Dict.updateFrom
 refine wB (wpAny_typeOf (T:="list") ⟨_,hx1,rfl⟩ ?_)
 rw [if_pos (by decide)]
 refine wB (sk hx1 hh fun h' tk kp=>?_)
 rw [if_pos (by rfl)]
 refine wB (wpAny_rule ?_)
 have hx2:=kp _ _ hx1
 refine wB (wpAny_pyIter_list (items:=its) ⟨_,hx2,rfl,_,rfl⟩ ?_)
 refine wpAny_pure ⟨plainId_quiet dS _,?_⟩
 have ha:a<s.heap.objs.size:=Heap.lt_size hx
 obtain ⟨oD,esD,epD,eD,restD⟩:=hnew
 have hD2:s.heap.objs.size<h'.objs.size:=Heap.lt_size (kp _ _ eD)
 refine ur (l:=a) (it:=h'.objs.size) (D:=s.heap.objs.size) (items:=its) (ps:=ps) (Nat.ne_of_lt ha) (Nat.ne_of_lt (Nat.lt_trans ha hD2)) (Ne.symm (Nat.ne_of_lt hD2)) ps.length 0 _ _ [] _ hh (by simp) (Nat.zero_le _) ⟨_,Heap.get?_push_size _ rfl,rfl,rfl⟩ ⟨_,Heap.get?_push_of_some _ hx2,rfl,_,rfl⟩ ⟨hl,fun j p hj=>?_⟩ ⟨oD,esD,epD,Heap.get?_push_of_some _ (kp _ _ eD),restD⟩ (by simpa using hz) fun h3 tk3 hD3 kp3=>⟨rfl,?_⟩
 · obtain ⟨t,key,o,n,h1,h2,h3,h4,h5⟩:=hp j p hj
   have ht:=Heap.lt_size h3
   exact ⟨t,key,o,n,h1,Nat.ne_of_lt (Nat.lt_trans ht hD2),Nat.ne_of_lt ht,h2,gP _ (kp _ _ (gP _ h3)),h4,h5⟩
 · refine hQ h3 tk3 (by simpa using hD3) fun b ob e=>kp3 b ob (Nat.ne_of_lt (Nat.lt_trans (Heap.lt_size e) hD2)) (Nat.ne_of_lt (Heap.lt_size e)) (Heap.get?_push_of_some _ (kp _ _ (Heap.get?_push_of_some _ e)))
end
def d8 (kvs:List (Key×V)):List (Key×V)->List (Key×V)
 | []=>kvs
 | p::ps=>d8 (dl kvs p.1 p.2) ps
def KV.all:∀ {ps:List (Key×V)} {qs:List (Key×Value)} {kvs:List (Key×V)} {vs:List (Key×Value)},KV ps qs->KV kvs vs->KV (d8 kvs ps) (hJ vs qs)
 | [],[],_,_,_,r=>r
 | [],_::_,_,_,h,_=>by cases h
 | _::_,[],_,_,h,_=>by cases h
 | p::ps,q::qs,kvs,vs,h,r=>by
  cases h with
  | cons hp ht =>
   obtain ⟨e,rp⟩:=hp
   have:=KV.all ht (r.put p.1 rp)
   show KV (d8 (dl kvs p.1 p.2) ps) (hJ (stored vs q.1 q.2) qs)
   rw [<- e]
   exact this
def kS:∀ (ps kvs:List (Key×V)),(d8 kvs ps).length<=kvs.length+ps.length
 | [],kvs=>by simp [d8]
 | p::ps,kvs=>by
  have h1:=kS ps (dl kvs p.1 p.2)
  have h2:=fS kvs p.1 p.2
  simp only [d8,List.length_cons]
  omega
section
variable {X:Cx}
noncomputable def Bv (K:PySem.W.Frag):List V->Hp->VK->Prop:=fun xs H Q=>∃ (a:Addr) (vs:List V) (ps:List (Key×V)),xs=[.ref a]/\SqL K H a vs/\vs.length=ps.length∧
 (∀ (j:Nat) (p:Key×V),ps[j]?=some p->∃ t,vs[j]?=some (.ref t)/\SqT K H t [kV p.1,p.2])/\∀ p,H p=none->Q (.ref p) (upd H p (.dK (d8 [] ps)))
def pI (hc:X.calm=true):CallR X (.type "dict") (Bv X.K):=by
 intro pins s σ H xs us Q I r h
 obtain ⟨a,vs,ps,rfl,hq,hl,hp,q⟩:=h
 obtain ⟨u,rfl,rx⟩:=iX r
 cases rx
 obtain ⟨its,rv,⟨⟨cls,dd,data,sl⟩,n,ho,h1,h2,h3⟩,hz⟩:=I.list hq
 simp only at h1 h2 h3
 subst h1 h2 h3
 -- the values of the pairs
 have ex:∀ (j:Nat) (p:Key×V),ps[j]?=some p->∃ t key u n o,its[j]?=some (.ref t)/\RelV (kV p.1) key/\RelV p.2 u/\s.heap.get? t=some o/\o.cls=.type "tuple"/\o.data=.seq #[key,u] n:=fun j p hj=>by
  obtain ⟨t,ht,hT⟩:=hp j p hj
  obtain ⟨u0,hu0,ru0⟩:=rv.get ht
  obtain rfl:u0=Value.ref t:=ru0
  obtain ⟨ws,rws,⟨o,eo,ec,n,ed⟩,_⟩:=I.tuple hT
  obtain ⟨x,y,rfl,rx,ry⟩:=wX rws
  exact ⟨t,x,y,n,o,hu0,rx,ry,eo,ec,ed⟩
 have exq:∃ qs:List (Key×Value),KV ps qs/\∀ (j:Nat) (p:Key×Value),qs[j]?=some p->∃ t key o n,its[j]?=some (.ref t)/\(bJ X.prog X.w).is p.1 key=true/\s.heap.get? t=some o/\o.cls=.type "tuple"/\o.data=.seq #[key,p.2] n:=by
  have key:∀ (ps:List (Key×V)) (its:List Value),(∀ (j:Nat) (p:Key×V),ps[j]?=some p->∃ t key u n o,its[j]?=some (.ref t)/\RelV (kV p.1) key/\RelV p.2 u/\s.heap.get? t=some o/\o.cls=.type "tuple"/\o.data=.seq #[key,u] n)→
      ∃ qs:List (Key×Value),KV ps qs/\∀ (j:Nat) (p:Key×Value),qs[j]?=some p->∃ t key o n,its[j]?=some (.ref t)/\(bJ X.prog X.w).is p.1 key=true/\s.heap.get? t=some o/\o.cls=.type "tuple"/\o.data=.seq #[key,p.2] n:=fun ps=>by
   induction ps with
   | nil=>exact fun its _=>⟨[],.nil,fun j p h=>by simp at h⟩
   | cons p ps ih =>
    intro its h
    obtain ⟨t,k,u,n,o,e1,e2,e3,e4,e5,e6⟩:=h 0 p rfl
    cases its with
    | nil=>simp at e1
    | cons v its =>
     obtain ⟨qs,r1,r2⟩:=ih its fun j p hj=>h (j+1) p (by simpa using hj)
     refine ⟨(p.1,u)::qs,.cons ⟨rfl,e3⟩ r1,fun j q hj=>?_⟩
     cases j with
     | zero =>
      simp at hj
      subst hj
      exact ⟨t,k,o,n,by simpa using e1,lF e2,e4,e5,e6⟩
     | succ j=>simpa using r2 j q (by simpa using hj)
  exact key ps its ex
 obtain ⟨qs,rq,hq2⟩:=exq
 have hlen:its.length=qs.length:=by rw [<- rv.length,hl];exact rq.length
 have hzz:qs.length<=sizeLine:=by rw [<- hlen,<- rv.length];exact hz
 refine lw ho (I.ok.hd hc) (by simpa using hlen) hzz (fun j p hj=>by
  obtain ⟨t,key,o,n,e1,e2⟩:=hq2 j p hj
  exact ⟨t,key,o,n,by simpa using e1,e2⟩) fun h' tk hD kp=>⟨.ref s.heap.objs.size,_,I.laid (a:=s.heap.objs.size) (o:=.dK (d8 [] ps)) (t':=tk) kp (Nat.le_refl _) ?_,rfl,q _ (I.hok.fresh (Nat.le_refl _))⟩
 refine o8 ?_ (beq_eq_false_iff_ne.mpr (Ne.symm (Nat.ne_of_lt I.big))) (KV.all rq .nil) hD
 have:=kS ps []
 have:=rq.length
 simp at*
 omega
end
def m5 {kvs:List (Key×V)} {k:Key} (h:k∉kvs.map (·.1)):gc kvs k=none:=by
 cases q:gc kvs k with
 | none=>rfl
 | some v=>exact absurd (vq q) h
def iS:∀ {ps kvs:List (Key×V)},((kvs++ps).map (·.1)).Nodup->d8 kvs ps=kvs++ps
 | [],kvs,_=>by simp [d8]
 | p::ps,kvs,h=>by
  have hk:p.1∉kvs.map (·.1):=fun z=>by
   rw [List.map_append] at h
   exact (List.nodup_append.mp h).2.2 p.1 z p.1 (by simp) rfl
  simp only [d8]
  rw [tq _ (m5 hk),iS (by simpa using h)]
  simp
def ou (ch:CH):CV->Option (Key×CV)
 | .dat (.tup [k,d])=>(fm k).map fun k=>(k,.dat d)
 | .ref j=>match ch[j]? with
  | some (.tup [.dat k,c])=>(fm k).map fun k=>(k,c)
  | _=>none
 | _=>none
def gy (ch:CH):List CV->Option (List (Key×CV))
 | []=>some []
 | c::l=>(ou ch c).bind fun p=>(gy ch l).map (p::·)
section
variable {K:PySem.W.Frag} {F H:Hp} {ρ:Nat->Addr} {ch:CH}
def ut (g:Gh K F H ρ ch) {c:CV} {v:V} {p:Key×CV} (h:ou ch c=some p) (r:RelC K F ρ ch.length c v):∃ t u,v=.ref t/\SqT K H t [kV p.1,u]/\RelC K F ρ ch.length p.2 u:=by
 unfold ou at h
 split at h
 · rename_i k d
   obtain ⟨kk,hk,rfl⟩:=mS h
   have r:Rep K F (.tup [k,d]) v:=r
   simp only [Rep,Reps] at r
   obtain ⟨t,vs,rfl,h1,x,ws,rfl,rx,y,ws',rfl,ry,rfl⟩:=r
   have:=fL hk rx
   subst this
   exact ⟨t,y,rfl,g.fh.tup h1,ry⟩
 · rename_i j
   split at h<;>first | (cases h;done) | skip
   rename_i k c' hj
   obtain ⟨kk,hk,rfl⟩:=mS h
   obtain ⟨vs,h1,x,ws,e,rx,y,ws',e',ry,e''⟩:=g.ok j _ hj
   subst e'
   subst e
   have e'':ws'=[]:=e''
   subst e''
   have:=fL hk rx
   subst this
   exact ⟨_,y,r.2,SqT.of h1,ry⟩
 · cases h
def mh (g:Gh K F H ρ ch):∀ {l:List CV} {vs:List V} {ps:List (Key×CV)},gy ch l=some ps->RelCs K F ρ ch.length l vs->∃ qs:List (Key×V),vs.length=qs.length/\qs.map (·.1)=ps.map (·.1)/\RelCs K F ρ ch.length (ps.map (·.2)) (qs.map (·.2))/\∀ (j:Nat) (q:Key×V),qs[j]?=some q->∃ t,vs[j]?=some (.ref t)/\SqT K H t [kV q.1,q.2]
 | [],vs,ps,h,r=>by
  cases h
  have r:vs=[]:=r
  subst r
  exact ⟨[],rfl,rfl,rfl,fun j q hq=>by simp at hq⟩
 | c::l,vs,ps,h,r=>by
  simp only [gy] at h
  obtain ⟨p,hp,h⟩:=bS h
  obtain ⟨ps',hps,rfl⟩:=mS h
  obtain ⟨v,ws,rfl,r1,r2⟩:=r
  obtain ⟨t,u,rfl,h1,h2⟩:=ut g hp r1
  obtain ⟨qs,q1,q2,q3,q4⟩:=mh g hps r2
  refine ⟨(p.1,u)::qs,by simp [q1],by simp [q2],⟨u,_,rfl,h2,q3⟩,fun j q hq=>?_⟩
  cases j with
  | zero =>
   simp at hq
   subst hq
   exact ⟨t,rfl,h1⟩
  | succ j=>simpa using q4 j q (by simpa using hq)
end
section
variable {X:Cx} {e a b o:Expr} {es:List Expr} {f fa fb fc fe:Fg} {fs:Fgs} {pos apos cpos p:Pos} {sc:Scope} {x:Str} {K:PySem.W.Frag}
noncomputable def jV (fa:Fg):Fg:=fun δ ch=>(fa δ ch).bind fun p=>match p.1 with
 | .ref i=>match p.2[i]? with
  | some (.lst l)=>(gy p.2 l).bind fun ps=>if (ps.map (·.1)).Nodup then some (.ref p.2.length,p.2++[.dK ps]) else none
  | _=>none
 | _=>none
def qT (h:bt sc "dict"=true) (hc:X.calm=true) (hm:X.mg "dict"=none) (hv:bootBuiltins "dict"=some (.type "dict")) (ha:GE X a fa) (e1:dE X sc:=by rfl)
  (he:starEach [a] X.env=(false,eval a X.env)::starEach [] X.env:=by rfl) (hpl:(backTo pos (starEach [] X.env)).any (·.1)=false:=by rfl):GE X (.Call (.Name "dict" p) [a] [] pos) (jV fa):=
 PE.mono (iK h (pI hc) hm hv (fR ha iI he) e1 he hpl) fun σ H Q ⟨δ,ch,F,ρ,c,ch',en,hf,k⟩=>by
  unfold jV at hf
  obtain ⟨⟨c1,ch1⟩,hp,hf1⟩:=bS hf
  clear hf
  dsimp only at hf1
  split at hf1<;>first | (cases hf1;done) | skip
  rename_i i
  split at hf1<;>first | (cases hf1;done) | skip
  rename_i l hl
  obtain ⟨ps,hps,hf2⟩:=bS hf1
  split at hf2<;>first | (cases hf2;done) | skip
  rename_i nd
  cases hf2
  refine ⟨δ,ch,F,ρ,_,ch1,en,hp,fun v F1 H1 ρ1 a1 r1=>?_⟩
  obtain ⟨vs,h1,h2⟩:=a1.gh.ok i _ hl
  obtain ⟨qs,q1,q2,q3,q4⟩:=mh a1.gh hps h2
  refine ⟨_,vs,qs,by rw [r1.2],SqL.of h1,q1,q4,fun q hq=>?_⟩
  have e:d8 [] qs=qs:=by rw [iS (by simpa [q2] using nd)];simp
  rw [e]
  refine k (.ref q) F1 _ _ (a1.trans en.gh (kN (o:=.dK ps) a1.gh hq ⟨qs,aY,q2,q3⟩)) ⟨by simp,?_⟩
  dsimp only
  rw [if_pos rfl]
noncomputable def lx (fa fb:Fg):Fg:=fun δ ch=>(fa δ ch).bind fun p=>(fb δ p.2).bind fun q=>match p.1,q.1 with
 | .ref i,.dat (.int k)=>match q.2[i]? with
  | some (.lst l)=>if 0<=k/\k<=1000000/\l.length*k.toNat<=sizeLine then some (.ref q.2.length,q.2++[.lst (List.replicate k.toNat l).flatten]) else none
  | _=>none
 | _,_=>none
def mi {F:Hp} {ρ:Nat->Addr} {n:Nat} {l:List CV} {vs:List V} (r:RelCs K F ρ n l vs):∀ k:Nat,RelCs K F ρ n (List.replicate k l).flatten (List.replicate k vs).flatten
 | 0=>rfl
 | k+1=>by
  rw [List.replicate_succ,List.replicate_succ,List.flatten_cons,List.flatten_cons]
  exact r.append (mi r k)
def pJ (ha:GE X a fa) (hb:GE X b fb):GE X (.BinOp a .Mult b pos) (lx fa fb):=PE.mono (sJ yo ha hb) fun σ H Q ⟨δ,ch,F,ρ,c,ch',en,hf,kk⟩=>by
 unfold lx at hf
 obtain ⟨⟨c1,ch1⟩,hp,hf1⟩:=bS hf
 clear hf
 obtain ⟨⟨c2,ch2⟩,hq,hf2⟩:=bS hf1
 clear hf1
 dsimp only at hq hf2
 split at hf2<;>first | (cases hf2;done) | skip
 rename_i i k
 split at hf2<;>first | (cases hf2;done) | skip
 rename_i l hl
 split at hf2<;>first | (cases hf2;done) | skip
 rename_i hz
 cases hf2
 refine ⟨δ,ch,F,ρ,_,ch1,en,hp,fun v F1 H1 ρ1 a1 r1=>⟨δ,ch1,F1,ρ1,_,ch2,en.adv a1,hq,fun w F2 H2 ρ2 a2 r2=>?_⟩⟩
 obtain ⟨vs,h1,h2⟩:=a2.gh.ok i _ hl
 have r2:Rep X.K F2 (.int k) w:=r2
 simp only [Rep] at r2
 refine ⟨_,k,vs,(r1.mono a2.old a2.ext a2.len).2,r2,h1,by omega,by omega,by rw [h2.length];exact hz.2.2,fun q hq2=>?_⟩
 refine kk (.ref q) F2 _ _ ((a1.trans en.gh a2).trans en.gh (kN (o:=.lst (List.replicate k.toNat l).flatten) a2.gh hq2 ⟨_,aY,mi h2 _⟩)) ⟨by simp,?_⟩
 dsimp only
 rw [if_pos rfl]
noncomputable def pK (c f:Str) (op:Int->Int->Int) (fa fe:Fg):Fs:=fun δ ch=>(fa δ ch).bind fun p=>match p.1 with
 | .ref i=>match p.2[i]? with
  | some (.ins c' ns l)=>if c'=c/\ns.length<1000 then match pA ns l f with
   | some (.dat (.int n))=>(fe δ p.2).bind fun q=>match q.1,q.2[i]? with
    | .dat (.int m),some (.ins c2 ns2 l2)=>if c2=c/\ns2.length<1000 then some (.nx δ (q.2.set i (.ins c2 (cO ns2 l2 f (.dat (.int (op n m)))).1 (cO ns2 l2 f (.dat (.int (op n m)))).2))) else none
    | _,_=>none
   | _=>none
   else none
  | _=>none
 | _=>none
end
section
variable {X:Cx} {e a b o value:Expr} {es:List Expr} {f fa fb fc fe fk:Fg} {fs:Fgs} {pos apos cpos tpos p:Pos} {sc:Scope} {x:Str} {K:PySem.W.Frag}
def zj {cn fn:Str} {rd:V->V->Hp->VK->Prop} {op:Int->Int->Int} (hrd:∀ n m H Q,Q (.int (op n m)) H->rd (.int n) (.int m) H Q) (hf:iP X.K cn fn):∀ (D:Ends) (σ:St) (H:Hp),tGS X.K (pK cn fn op fa fe) D σ H->qa X.K (tG X.K fa) (tG X.K fe) rd fn D σ H:=fun D σ H ⟨δ,ch,F,ρ,og,en,hg,kk⟩=>by
 obtain ⟨C,hc,hC,hN⟩:=hf
 unfold pK at hg
 obtain ⟨⟨c1,ch1⟩,hp,hg1⟩:=bS hg
 clear hg
 dsimp only at hg1
 split at hg1<;>first | (cases hg1;done) | skip
 rename_i i
 split at hg1<;>first | (cases hg1;done) | skip
 rename_i c' ns l ho
 split at hg1<;>first | (cases hg1;done) | skip
 rename_i hz
 obtain ⟨rfl,hz⟩:=hz
 split at hg1<;>first | (cases hg1;done) | skip
 rename_i n hn
 obtain ⟨⟨c2,ch2⟩,hq,hg2⟩:=bS hg1
 clear hg1
 dsimp only at hg2
 split at hg2<;>first | (cases hg2;done) | skip
 rename_i m c2' ns2 l2 ho2
 split at hg2<;>first | (cases hg2;done) | skip
 rename_i hz2
 obtain ⟨rfl,hz2⟩:=hz2
 cases hg2
 refine ⟨δ,ch,F,ρ,_,ch1,en,hp,fun v F1 H1 ρ1 a1 r1=>?_⟩
 obtain ⟨C',dx,gs,q0,q1,q2,q3⟩:=a1.gh.ok i _ ho
 have:=ClsAt.inj hc q0
 subst this
 obtain ⟨u,hu,ru⟩:=mW q2 q3 hn
 have ru:Rep X.K F1 (.int n) u:=ru
 simp only [Rep] at ru
 subst ru
 refine ⟨_,C,dx,gs,_,r1.2,q1,hC,hN,hu,δ,ch1,F1,ρ1,_,ch2,en.adv a1,hq,fun y F2 H2 ρ2 a2 r2=>?_⟩
 have r2:Rep X.K F2 (.int m) y:=r2
 simp only [Rep] at r2
 subst r2
 refine hrd n m H2 _ ?_
 obtain ⟨C2,dx2,gs2,z0,z1,z2,z3⟩:=a2.gh.ok i _ ho2
 have:=ClsAt.inj hc z0
 subst this
 have hi2:i<ch2.length:=(gX ho2).1
 have hi1:i<ch1.length:=r1.1
 have r3:RelC X.K F2 ρ2 ch2.length (.dat (.int (op n m))) (.int (op n m)):=ij (K:=X.K) (F:=F2)
 obtain ⟨w1,w2⟩:=jz (f:=fn) r3 z2 z3
 rw [a2.ext i hi1] at z1
 refine ⟨dx2,gs2,z1,?_,?_⟩
 · have:=congrArg List.length z2
   rw [List.length_map] at this
   omega
 · have a3:=Adv.upd (o:=.ins c2' (cO ns2 l2 fn (.dat (.int (op n m)))).1 (cO ns2 l2 fn (.dat (.int (op n m)))).2) (u:=.ins C dx2 (fA fn (.int (op n m)) gs2)) (w:=.ins C dx2 gs2) a2.gh hi2 (by rw [a2.ext i hi1];exact z1) (fun _ _ z=>nomatch z) ⟨C,dx2,_,hc,aY,w1,w2⟩
   rw [a2.ext i hi1] at a3
   have aa:=(a1.trans en.gh a2).trans en.gh a3
   exact kk σ F2 _ ρ2 aa (en.adv aa)
def qU {cn fn:Str} (h:GE X o fa) (hf:iP X.K cn fn) (he:GE X value fe):GS1 X (.AugAssign (.Attribute o fn tpos) .Add value pos) (pK cn fn (fun i j=>i+j) fa fe):=
 PS.mono (rO h he yj) (zj (fun n m H Q q=>⟨n,m,rfl,rfl,q⟩) hf)
noncomputable def ow (fo fk fx:Fg):Fg:=fun δ ch=>(fo δ ch).bind fun p=>match p.1 with
 | .ref i=>match p.2[i]? with
  | some (.dK _)=>(fk δ p.2).bind fun q=>(fx δ q.2).bind fun r=>match q.1,r.2[i]? with
   | .dat d,some (.dK l)=>(fm d).map fun k=>((lkC l k).getD r.1,r.2)
   | _,_=>none
  | _=>none
 | _=>none
def m6 {m:Nat} (hr:Room m X.A) (ho:GE X o fa) (ha:GE X a fb) (hb:GE X b fc)
  (base:attributeBase o "get" X.env (eval o X.env)=eval o X.env:=by rfl)
  (few:((backTo cpos (starEach [a,b] X.env)).all (fun x=>!x.1)&&(backToKw cpos (keywordEach [] X.env)).all (fun x=>x.1.isSome)
   && decide (([a,b]:List Expr).length+([]:List Keyword).length+(if ([]:List Keyword).isEmpty then 0 else 1)<30))=true:=by rfl)
  (line:(apos.endLine==cpos.line)=true:=by rfl) (trees:backTo cpos (starEach [a,b] X.env)=[(false,eval a X.env),(false,eval b X.env)]:=by rfl) :
  GE X (.Call (.Attribute o "get" apos) [a,b] [] cpos) (ow fa fb fc):=PE.mono (tw (qi hr) ho ha hb ⟨base,few,line,trees⟩) fun σ H Q ⟨δ,ch,F,ρ,c,ch',en,hg,kk⟩=>by
 unfold ow at hg
 obtain ⟨⟨c1,ch1⟩,hp,hg1⟩:=bS hg
 clear hg
 dsimp only at hg1
 split at hg1<;>first | (cases hg1;done) | skip
 rename_i i
 split at hg1<;>first | (cases hg1;done) | skip
 rename_i l0 h0
 obtain ⟨⟨c2,ch2⟩,hq,hg2⟩:=bS hg1
 clear hg1
 obtain ⟨⟨c3,ch3⟩,hw,hg3⟩:=bS hg2
 clear hg2
 dsimp only at hq hw hg3
 split at hg3<;>first | (cases hg3;done) | skip
 rename_i d l hl
 obtain ⟨j,hj,hg4⟩:=mS hg3
 cases hg4
 refine ⟨δ,ch,F,ρ,_,ch1,en,hp,fun v F1 H1 ρ1 a1 r1=>?_⟩
 obtain ⟨hi,rfl⟩:=r1
 obtain ⟨kv0,z1,_⟩:=a1.gh.ok i _ h0
 refine ⟨_,rfl,.inl ⟨kv0,.inl z1⟩,δ,ch1,F1,ρ1,_,ch2,en.adv a1,hq,fun y F2 H2 ρ2 a2 r2=>⟨δ,ch2,F2,ρ2,_,_,(en.adv a1).adv a2,hw,fun z F3 H3 ρ3 a3 r3=>?_⟩⟩
 obtain ⟨kvs,q1,q2,q3⟩:=a3.gh.ok i _ hl
 have hi2:i<ch2.length:=Nat.lt_of_lt_of_le hi a2.len
 rw [a3.ext i hi2,a2.ext i hi] at q1
 have lk:=j8 (k:=j) q2 q3
 have aa:=(a1.trans en.gh a2).trans en.gh a3
 refine ⟨gc kvs j,by rw [fL hj r2];exact DGet.k q1,?_⟩
 cases hlk:lkC l j with
 | none =>
  rw [hlk] at lk
  have lk:gc kvs j=none:=lk
  rw [hlk] at kk
  rw [lk]
  exact kk z F3 H3 ρ3 aa r3
 | some c' =>
  rw [hlk] at lk
  obtain ⟨u,hu,ru⟩:=lk
  rw [hlk] at kk
  rw [hu]
  exact kk u F3 H3 ρ3 aa ru
end
def gC (src:List (Option Nat)) (δ:Sl):Sl:=src.map fun o=>o.bind fun j=>(δ[j]?).join
noncomputable def e9 (ts:List Nat) (bb:Dt->De->Option De) (ft:De->Option Bool) (fe:Fg) (δ:Sl):List Dt->CH->Option (List CV×CH)
 | [],ch=>some ([],ch)
 | d::r,ch=>(bb d (lo δ ch)).bind fun δ1=>(ft (lo (mgS ts δ δ1) ch)).bind fun b=>if b then (fe (mgS ts δ δ1) ch).bind fun p=>(e9 ts bb ft fe δ r p.2).map fun q=>(p.1::q.1,q.2) else e9 ts bb ft fe δ r ch
noncomputable def hU (src:List (Option Nat)) (fi:De->Option (List Dt)) (ts:List Nat) (bb:Dt->De->Option De) (ft:De->Option Bool) (fe:Fg):Fg:=fun δ ch =>
 (fi (lo δ ch)).bind fun ds=>(e9 ts bb ft fe (gC src δ) ds ch).bind fun p=>if p.1.length<=sizeLine then some (.ref p.2.length,p.2++[.lst p.1]) else none
section
variable {K:PySem.W.Frag} {F H F' H' F1 H1:Hp} {ρ ρ' ρ1:Nat->Addr} {ch ch' ch1:CH} {src:List (Option Nat)} {δ:Sl} {σ:St}
def zk {k:Nat} {c:CV} (h:(gC src δ)[k]?=some (some c)):∃ j,src[k]?=some (some j)/\δ[j]?=some (some c):=by
 unfold gC at h
 rw [List.getElem?_map] at h
 cases e:src[k]? with
 | none=>rw [e] at h;cases h
 | some o =>
  rw [e] at h
  cases o with
  | none=>cases h
  | some j =>
   simp only [Option.map_some,Option.bind_some,Option.some.injEq] at h
   refine ⟨j,rfl,?_⟩
   cases q:δ[j]? with
   | none=>rw [q] at h;cases h
   | some u=>rw [q] at h;simp only [Option.join_some] at h;rw [h]
def Ge.comp (en:Ge K δ ch σ F H ρ):Ge K (gC src δ) ch (stC src σ) F H ρ:=⟨en.gh,by simp [gC,stC],fun k c h=>by
 obtain ⟨j,h1,h2⟩:=zk h
 obtain ⟨v,h3,h4⟩:=en.has j c h2
 exact ⟨v,qC h1 h3,h4⟩⟩
structure Bd (K:PySem.W.Frag) (F1 H1:Hp) (ρ1:Nat->Addr) (ch1:CH) (D:Addr) (F H:Hp) (ρ:Nat->Addr) (ch:CH) (done:List CV) (ys:List V):Prop where
 adv:Adv K F1 H1 ρ1 ch1 F H ρ ch
 hD:H D=some (.lst ys)
 fD:F D=none
 nD:∀ i,i<ch.length->ρ i≠D
 rel:RelCs K F ρ ch.length done ys
variable {D:Addr} {done:List CV} {ys:List V}
def Bd.step (g1:Gh K F1 H1 ρ1 ch1) (b:Bd K F1 H1 ρ1 ch1 D F H ρ ch done ys) (a:Adv K F H ρ ch F' H' ρ' ch'):Bd K F1 H1 ρ1 ch1 D F' H' ρ' ch' done ys where
 adv:=b.adv.trans g1 a
 hD:=a.prot D _ b.hD fun i hi=>b.nD i hi
 fD:=by
  cases q:F' D with
  | none=>rfl
  | some o =>
   rcases a.nw D o q with z | z
   · rw [b.fD] at z;cases z
   · rw [b.hD] at z;cases z
 nD:=fun i hi e=>by
  by_cases h:i<ch.length
  · rw [a.ext i h] at e
    exact b.nD i h e
  · have:=a.fr i (Nat.not_lt.mp h) hi
    rw [e,b.hD] at this
    cases this
 rel:=b.rel.mono a.old a.ext a.len
def Bd.more (hD1:H1 D=none) (b:Bd K F1 H1 ρ1 ch1 D F H ρ ch done ys) {c:CV} {v:V} (r:RelC K F ρ ch.length c v):Bd K F1 H1 ρ1 ch1 D F (upd H D (.lst (ys++[v]))) ρ ch (done++[c]) (ys++[v]) where
 adv:=⟨⟨fun x o e=>by
     have:x≠D:=fun z=>by rw [z,b.fD] at e;cases e
     rw [bc this]
     exact b.adv.gh.fh x o e,b.adv.gh.inj,b.adv.gh.out,fun i o h=>(b.adv.gh.ok i o h).mono (Same.refl _) (fun _ _=>rfl) (nL _) fun u hu=>by
     rw [bc (b.nD i (gX h).1)]
     exact hu⟩,b.adv.len,b.adv.ext,b.adv.fr,fun x o h1 h2=>by
     have:x≠D:=fun z=>by rw [z,hD1] at h1;cases h1
     rw [bc this]
     exact b.adv.prot x o h1 h2,b.adv.old,b.adv.nw,fun x o u h=>by
     have:x≠D:=fun z=>by rw [z,hD1] at h;cases h
     rw [bc this]
     exact b.adv.fz x o u h⟩
 hD:=aY
 fD:=b.fD
 nD:=b.nD
 rel:=b.rel.append (RelCs.one r)
def Bd.fin (hD1:H1 D=none) (b:Bd K F1 H1 ρ1 ch1 D F H ρ ch done ys):Adv K F1 H1 ρ1 ch1 F H (fun i=>if i=ch.length then D else ρ i) (ch++[.lst done]):=by
 have lt:∀ {i:Nat},i<ch.length->(if i=ch.length then D else ρ i)=ρ i:=fun {i} hi=>if_neg (Nat.ne_of_lt hi)
 have g:=b.adv.gh
 refine ⟨⟨g.fh,fun i j hi hj e=>?_,fun i hi=>?_,fun i x hx=>?_⟩,by have:=b.adv.len;simp;omega,fun i hi=>?_,fun i h1 h2=>?_,b.adv.prot,b.adv.old,b.adv.nw,b.adv.fz⟩
 · simp only [List.length_append,List.length_cons,List.length_nil] at hi hj
   by_cases h1:i=ch.length<;>by_cases h2:j=ch.length
   · rw [h1,h2]
   · rw [if_pos h1,if_neg h2] at e
     exact absurd e.symm (b.nD j (by omega))
   · rw [if_neg h1,if_pos h2] at e
     exact absurd e (b.nD i (by omega))
   · rw [if_neg h1,if_neg h2] at e
     exact g.inj i j (by omega) (by omega) e
 · simp only [List.length_append,List.length_cons,List.length_nil] at hi
   by_cases h1:i=ch.length
   · rw [if_pos h1];exact b.fD
   · rw [if_neg h1];exact g.out i (by omega)
 · simp only [List.length_append,List.length_cons,List.length_nil]
   by_cases h1:i<ch.length
   · rw [gL h1] at hx
     rw [lt h1]
     exact (g.ok i x hx).mono (Same.refl _) (fun j hj=>lt hj) (Nat.le_succ _) fun u hu=>hu
   · rw [gR (Nat.not_lt.mp h1)] at hx
     have h2:i=ch.length:=by
      have:=(gX hx).1
      simp at this
      omega
     subst h2
     simp at hx
     subst hx
     rw [if_pos rfl]
     exact ⟨ys,b.hD,b.rel.mono (Same.refl _) (fun j hj=>lt hj) (Nat.le_succ _)⟩
 · rw [lt (Nat.lt_of_lt_of_le hi b.adv.len)]
   exact b.adv.ext i hi
 · simp only [List.length_append,List.length_cons,List.length_nil] at h2
   by_cases h3:i=ch.length
   · rw [if_pos h3];exact hD1
   · rw [if_neg h3];exact b.adv.fr i h1 (by omega)
end
section
variable {X:Cx} {elt tg iter:Expr} {ifs:List Expr} {scope:Scope} {pos:Pos} {M:List Str} {src:List (Option Nat)} {fi:De->Option (List Dt)} {ft:De->Option Bool} {fe:Fg}
def uu {ts:List Nat} {bb:Dt->De->Option De} (hts:(ts.all fun k=>decide (src[k]?=some none))=true):∀ (σ:St) (H:Hp) (Q:VK),tG X.K (hU src fi ts bb ft fe) σ H Q->lL src (tIF X.K fi) (gD X.K ts bb) (tTr X.K ft) (tG X.K fe) σ H Q:=fun σ H Q ⟨δ,ch,F,ρ,c,ch',en,hf,k⟩=>by
 unfold hU at hf
 obtain ⟨ds,hd,hf1⟩:=bS hf
 obtain ⟨⟨all,ch2⟩,ha,hf2⟩:=bS hf1
 clear hf hf1
 split at hf2<;>first | (cases hf2;done) | skip
 rename_i hz
 cases hf2
 have hz:all.length<=sizeLine:=hz
 rw [nQ]
 refine ⟨_,_,F,ds,rfl,en.en,hd,fun J ok H1 F1 st1 wd ho D hD=>?_⟩
 have a1:=Adv.of en.gh st1
 have en1:=en.adv a1
 have k1:=k.adv en.gh a1
 have wk:∀ {σ2:St},σ2.length=(stC src σ).length->(∀ j,j∉ts->σ2[j]?=(stC src σ)[j]?)->Wk (stC src σ) σ2:=fun {σ2} h1 h2=>by
  refine ⟨h1.symm,fun j v hj=>?_⟩
  by_cases hm:j∈ts
  · have:=List.all_eq_true.mp hts j hm
    have hn:src[j]?=some none:=of_decide_eq_true this
    obtain ⟨i,e,_⟩:=pd hj
    rw [hn] at e
    cases e
  · rw [h2 j hm]
    exact hj
 refine lR (n:=ds.length) (fun i H=>∃ F ρ' c' ys done rest',Bd X.K F1 H1 ρ ch D F H ρ' c' done ys/\e9 ts bb ft fe (gC src δ) (ds.drop i) c'=some (rest',ch2)/\done++rest'=all) ?_ ?_ ?_ ?_
 · refine ⟨F1,ρ,ch,[],[],all,⟨Adv.of en1.gh (Step.made en1.gh.fh hD),aY,en1.gh.fh.free hD,fun i hi e=>?_,rfl⟩,by simpa using ha,rfl⟩
   obtain ⟨u,hu⟩:=en1.gh.at hi
   rw [e,hD] at hu
   cases hu
 · rintro i H' ⟨F',ρ',c',ys,done,rest',b,_⟩
   obtain ⟨p1,p2,_⟩:=wd i H' F' (ho H' (b.adv.old.trans b.adv.gh.fh)) b.adv.gh.fh b.adv.old
   exact ⟨p1,p2⟩
 · rintro i x H0' H' hi ⟨F0',ρ0,c0,ys,done,rest',b0,hgo,hall⟩ hy0
   obtain ⟨_,_,p3⟩:=wd i H0' F0' (ho H0' (b0.adv.old.trans b0.adv.gh.fh)) b0.adv.gh.fh b0.adv.old
   obtain ⟨d,F',hd',stw,rd⟩:=p3 x H' hi hy0
   have b1:=b0.step en1.gh (Adv.of b0.adv.gh stw)
   have en2:=(en1.adv b1.adv).comp (src:=src)
   rw [j7 hd'] at hgo
   unfold e9 at hgo
   obtain ⟨δ1,h1,hgo1⟩:=bS hgo
   obtain ⟨bo,h2,hgo2⟩:=bS hgo1
   clear hgo hgo1
   refine ⟨_,_,F',d,δ1,rfl,en2.en,rd,h1,fun σ2 l2 k2 e2=>⟨wk l2 k2,?_⟩⟩
   have en3:=en2.mg rfl l2 k2 e2
   refine ⟨_,_,F',bo,rfl,en3.en,h2,fun H3 F3 st3=>?_⟩
   have b3:=b1.step en1.gh (Adv.of b1.adv.gh st3)
   have en4:=en3.adv (Adv.of b1.adv.gh st3)
   dsimp only
   split at hgo2
   · rename_i q
     rw [if_pos q]
     obtain ⟨⟨y,c4⟩,hy,hgo3⟩:=bS hgo2
     obtain ⟨⟨zs,c5⟩,hzs,hgo4⟩:=mS hgo3
     cases hgo4
     refine ⟨_,_,F3,ρ0,y,c4,en4,hy,fun v F4 H4 ρ4 a4 rv=>?_⟩
     have b4:=b3.step en1.gh a4
     refine ⟨ys,b4.hD,?_,F4,ρ4,c4,ys++[v],done++[y],zs,b4.more hD rv,hzs,by rw [<- hall];simp⟩
     have e1:=b4.rel.length
     have e2:all.length=done.length+(zs.length+1):=by rw [<- hall];simp
     omega
   · rename_i q
     rw [if_neg q]
     exact ⟨F3,ρ0,c0,ys,done,rest',b3,hgo2,hall⟩
 · rintro H' ⟨F',ρ',c',ys,done,rest',b,hgo,hall⟩
   rw [List.drop_length] at hgo
   cases hgo
   rw [List.append_nil] at hall
   subst hall
   refine k1 (.ref D) F' H' _ (b.fin hD) ⟨by simp,?_⟩
   dsimp only
   rw [if_pos rfl]
def qV {ts:List Nat} {bb:Dt->De->Option De} (S:CmpScope X.N X.env.scope scope M src) (hc:X.calm=true) (hi:DIF X tg iter fi) (hg:M.Nodup->∀ C s H ex,DG (cxC X M scope C s H ex) tg ts bb)
  (ht:∀ C s H ex,DTs (cxC X M scope C s H ex) ifs ft) (he:∀ C s H ex,GE (cxC X M scope C s H ex) elt fe) (hts:(ts.all fun k=>decide (src[k]?=some none))=true) (hs:∀ x,foldedSetIterable iter X.env x=pure x:=by intro _;rfl) :
  GE X (.ListComp elt [⟨tg,iter,ifs,0⟩] scope pos) (hU src fi ts bb ft fe):=PE.mono (nP (g:=gD X.K ts bb) (tt:=tTr X.K ft) (te:=tG X.K fe) S hc hi (fun nd C s H ex=>hg nd C s H ex) (fun C s H ex=>ht C s H ex) (fun C s H ex=>he C s H ex) hs) (uu hts)
end
section
variable {K:PySem.W.Frag} {F H F' H' F1 H1:Hp} {ρ ρ' ρ1:Nat->Addr} {ch ch' ch1:CH} {i:Nat} {l:List (Key×CV)} {kvs:List (Key×V)} {ob:Obj}
end
section
variable {X:Cx} {tg d:Expr} {body:List Stmt} {fd:Fg} {g:Fs} {pos:Pos}
end
noncomputable def iT:List (Fg×Fg)->Sl->CH->Option (List (Key×CV)×CH)
 | [],_,ch=>some ([],ch)
 | (fk,fv)::r,δ,ch=>(fk δ ch).bind fun p=>match p.1 with
  | .dat d=>(fm d).bind fun k=>(fv δ p.2).bind fun q=>(iT r δ q.2).map fun z=>((k,q.1)::z.1,z.2)
  | _=>none
noncomputable def ox (fps:List (Fg×Fg)):Fg:=fun δ ch=>(iT fps δ (ch++[.dK []])).bind fun p=>match p.2[ch.length]? with
 | some (.dK [])=>if p.1.length<=15/\(p.1.map (·.1)).Nodup then some (.ref ch.length,p.2.set ch.length (.dK p.1)) else none
 | _=>none
section
variable {X:Cx} {pos:Pos} {σ:St} {δ:Sl}
def mj {K:PySem.W.Frag}:∀ {fps:List (Fg×Fg)} {ch ch':CH} {F H:Hp} {ρ:Nat->Addr} {ps:List (Key×CV)} {Q:List (V×V)->Hp->Prop},Ge K δ ch σ F H ρ->iT fps δ ch=some (ps,ch')→
  (∀ (qs:List (Key×V)) F' H' ρ',Adv K F H ρ ch F' H' ρ' ch'->qs.map (·.1)=ps.map (·.1)->RelCs K F' ρ' ch'.length (ps.map (·.2)) (qs.map (·.2))->Q (qs.map fun kv=>(kV kv.1,kv.2)) H')->kl (fps.map fun p=>(tG K p.1,tG K p.2)) σ H Q
 | [],ch,ch',F,H,ρ,ps,Q,en,h,k=>by
  cases h
  exact k [] F H ρ (Adv.refl en.gh) rfl rfl
 | (fk,fv)::r,ch,ch',F,H,ρ,ps,Q,en,h,k=>by
  simp only [iT] at h
  obtain ⟨⟨c1,ch1⟩,hp,h1⟩:=bS h
  dsimp only at h1
  split at h1<;>first | (cases h1;done) | skip
  rename_i d
  obtain ⟨kk,hk,h2⟩:=bS h1
  obtain ⟨⟨c2,ch2⟩,hq,h3⟩:=bS h2
  obtain ⟨⟨z,ch3⟩,hz,h4⟩:=mS h3
  cases h4
  refine ⟨δ,ch,F,ρ,_,ch1,en,hp,fun v F1 H1 ρ1 a1 r1=>⟨δ,ch1,F1,ρ1,c2,ch2,en.adv a1,hq,fun w F2 H2 ρ2 a2 r2=>?_⟩⟩
  have en2:=(en.adv a1).adv a2
  have a12:=a1.trans en.gh a2
  refine mj en2 hz fun qs F3 H3 ρ3 a3 e1 r3=>?_
  have hv:=fL hk r1
  subst hv
  exact k ((kk,w)::qs) F3 H3 ρ3 (a12.trans en.gh a3) (by simp [e1]) ⟨w,_,rfl,r2.mono a3.old a3.ext a3.len,r3⟩
def pL {qs:List (Key×V)} (h:(qs.map (·.1)).Nodup):fB [] qs=qs:=by
 have:∀ (ps kvs:List (Key×V)),fB kvs ps=d8 kvs ps:=fun ps=>by
  induction ps with
  | nil=>intro kvs;rfl
  | cons p ps ih=>intro kvs;exact ih _
 rw [this,iS (by simpa using h)]
 simp
def we {keys:List (Option Expr)} {values:List Expr} {fps:List (Fg×Fg)} (h:PPs X pos keys values (fps.map fun p=>(tG X.K p.1,tG X.K p.2))) (hall:keys.all (·.isSome)=true) (hl:keys.length=values.length) (h0:keys≠[]) (h15:keys.length<=15) :
  GE X (.Dict keys values pos) (ox fps):=PE.mono (qg h hall hl h0 h15) fun σ H Q ⟨δ,ch,F,ρ,c,ch',en,hf,k⟩=>by
 unfold ox at hf
 obtain ⟨⟨ps,ch2⟩,hp,hf1⟩:=bS hf
 clear hf
 dsimp only at hf1
 split at hf1<;>first | (cases hf1;done) | skip
 rename_i hn
 split at hf1<;>first | (cases hf1;done) | skip
 rename_i hz
 cases hf1
 intro p hpn
 have a1:=kN (o:=.dK []) (u:=.dK []) en.gh hpn ⟨[],aY,rfl,rfl⟩
 have en1:=en.adv a1
 refine mj en1 hp fun qs F' H' ρ' a2 e1 r2=>?_
 have hr:ρ' ch.length=p:=by rw [a2.ext ch.length (by simp)];simp
 obtain ⟨kvs,q1,q2,q3⟩:=a2.gh.ok _ _ hn
 have q2:kvs=[]:=by simpa using q2
 subst q2
 rw [hr] at q1
 have e3:fB [] qs=qs:=pL (by rw [e1];exact hz.2)
 have hlen:qs.length=ps.length:=by simpa using congrArg List.length e1
 refine ⟨q1,qs,rfl,by rw [hlen];exact hz.1,?_⟩
 rw [e3]
 have hi:ch.length<ch2.length:=(gX hn).1
 have a3:=Adv.upd (o:=.dK ps) (u:=.dK qs) (w:=.dK []) a2.gh hi (by rw [hr];exact q1) (fun _ _ z=>nomatch z) ⟨qs,aY,e1,r2⟩
 rw [hr] at a3
 refine k (.ref p) F' _ ρ' ((a1.trans en.gh a2).trans en.gh a3) ⟨by simpa using hi,by rw [hr]⟩
end
section
variable {X:Cx} {o:Expr} {fa:Fg} {pos apos cpos:Pos}
end
section
variable {X:Cx} {elt tg iter:Expr} {ifs:List Expr} {scope:Scope} {pos:Pos} {M:List Str} {src:List (Option Nat)} {fi:De->Option (List Dt)} {ft:De->Option Bool} {fe:De->Option Dt} {fg:Fg} {i:Nat}
end
def wg {X:Cx} {pos:Pos}:PPs X pos [] [] (([]:List (Fg×Fg)).map fun p=>(tG X.K p.1,tG X.K p.2)):=qf
def eJ {X:Cx} {pos:Pos} {k v:Expr} {ks:List (Option Expr)} {vs:List Expr} {fk fv:Fg} {fps:List (Fg×Fg)} (hk:GE X k fk) (hv:GE X v fv) (hr:PPs X pos ks vs (fps.map fun p=>(tG X.K p.1,tG X.K p.2))) :
  PPs X pos (some k::ks) (v::vs) (((fk,fv)::fps).map fun p=>(tG X.K p.1,tG X.K p.2)):=nK hk hv hr
def sn:Dt->Dt->Option T
 | .int i,.int j=>if 0<=j then some (.leaf (.int (i/2^j.toNat))) else none
 | _,_=>none
def Bw {K:PySem.W.Frag}:R2D K (rI (fun _ j=>0<=j) fun i j=>.int (i/2^j.toNat)) sn:=by
 intro F H x y vx vy Q t fh rx ry hg k
 unfold sn at hg
 split at hg<;>first | (cases hg;done) | skip
 split at hg
 · cases hg;cases rx;cases ry;exact ⟨_,_,rfl,rfl,by assumption,k.int fh⟩
 · cases hg
def zl {i j:Int} (h:0<=j):sn (.int i) (.int j)=some (.leaf (.int (i/2^j.toNat))):=if_pos h
section
variable {X:Cx}
def Bx (K:PySem.W.Frag) (n:Nat) (t:TGs):TG:=fun v σ H Q=>∃ a xs,v=.ref a/\SqL K H a xs/\xs.length=n/\t xs σ H Q
def zm {es:List Expr} {k:Nat} {t:TGs} {n:Nat} {pos:Pos} (hc:X.calm=true) (h:PGs X es t)
  (hn:(assignEach es X.env).length=n:=by rfl) (hst:(assignEach es X.env).findIdx? (·.1)=none:=by rfl):PG X (.Tuple es k pos) (Bx X.K n t):=by
 intro pins s σ H v u Q I r hw
 obtain ⟨a,xs,e1,hq,hl,hw⟩:=hw
 subst e1
 cases r
 obtain ⟨its,rv,ht,hz⟩:=I.list hq
 rw [assign_Tuple]
 refine wB (wpAny_standAt ?_)
 unfold unpack
 rw [show (assignEach es X.env).length=its.toArray.size by simp [hn,<- hl,rv.length],hst]
 refine wB (wpAny_holding (PySem.W.kun_itemsOf (I.ok.hd hc) ht.isList fun h' hx=>?_))
 have I1:Inv X pins σ H {s with heap:=h'}:=I.kept (t':=s.toks) fun b o e=>hx b o (Nat.ne_of_lt (Heap.lt_size e)) e
 exact h pins _ σ H xs _ Q I1 (by simpa using rv) hw
def wj (n:Nat) (bs:List Dt->De->Option De):Dt->De->Option De:=fun d δ=>match d with
 | .lst ds=>if ds.length=n then bs ds δ else none
 | _=>none
def zn {es:List Expr} {k:Nat} {n:Nat} {ts:List Nat} {bs:List Dt->De->Option De} {pos:Pos} (hc:X.calm=true) (h:DGs X es ts bs)
  (hn:(assignEach es X.env).length=n:=by rfl) (hst:(assignEach es X.env).findIdx? (·.1)=none:=by rfl):DG X (.Tuple es k pos) ts (wj n bs):=PG.mono (zm hc h hn hst) fun v σ H Q ⟨Φ,δ,F,d,δ',hK,en,r,hd,q⟩=>by
 unfold wj at hd
 split at hd
 · rename_i ds
   split at hd
   · rename_i hl
     simp only [Rep] at r
     obtain ⟨a,vs,e,h1,h2⟩:=r
     exact ⟨a,vs,e,Same.seq en.fh h1,by rw [h2.length];exact hl,Φ,δ,F,ds,δ',hK,en,h2,hd,q⟩
   · cases hd
 · cases hd
end
def cC (sc:Scope) (N:List Str):Bool:=(List.range N.length).all fun i=>match N[i]? with
 | some x=>gH sc N i x&&lv sc x
 | none=>false
def nsB {sc:Scope} {N:List Str} {i:Nat} {x:Str} (h:cC sc N=true) (e:N[i]?=some x):gH sc N i x=true/\lv sc x=true:=by
 have h1:=List.all_eq_true.mp h i (List.mem_range.mpr (gX e).1)
 rw [e] at h1
 exact Bool.and_eq_true_iff.mp h1
def nsN {sc:Scope} {N:List Str} (h:cC sc N=true) (i:Nat) {x:Str} (e:N[i]?=some x:=by rfl):gH sc N i x=true:=(nsB h e).1
def nsL {sc:Scope} {N:List Str} (h:cC sc N=true) (i:Nat) {x:Str} (e:N[i]?=some x:=by rfl):lv sc x=true:=(nsB h e).2
def pvN {X:Cx} {sc:Scope} {N:List Str} {x:Str} {pos:Pos} (i:Nat) (h:cC sc N=true) (e:N[i]?=some x:=by rfl) (e1:dE X sc:=by rfl) (e2:X.N=N:=by rfl):PE X (.Name x pos) (oO i):=pvD i (nsN h i e) e1 e2
def cU:Option Og->Option (CV×CH)
 | some (.rt c ch')=>some (c,ch')
 | some (.nx _ ch')=>some (.dat .non,ch')
 | _=>none
def bM {m:Nat} {g:Fs} {cs:List CV} {ch:CH}:dO m g cs ch=cU (g (cs.map some++List.replicate (m-cs.length) none) ch):=rfl
def m7 {c:CV} {ch:CH}:cU (some (.rt c ch))=some (c,ch):=rfl
def dc {δ:Sl} {ch:CH}:cU (some (.nx δ ch))=some (.dat .non,ch):=rfl
def jf (o:Option Og) (g:Fs):Option Og:=o.bind fun o=>match o with
 | .nx δ' ch'=>g δ' ch'
 | o=>some o
def aK {g1 g2:Fs} {δ:Sl} {ch:CH}:aP g1 g2 δ ch=jf (g1 δ ch) g2:=rfl
def aE {g:Fs} {δ:Sl} {ch:CH}:jf (some (.nx δ ch)) g=g δ ch:=rfl
def uv {g:Fs} {c:CV} {ch:CH}:jf (some (.rt c ch)) g=some (.rt c ch):=rfl
def ml {α:Type} (b:Option (Bool×CH)) (f g:Sl->CH->Option α) (δ:Sl):Option α:=b.bind fun p=>if p.1 then f δ p.2 else g δ p.2
def cV {c:Ft} {g1 g2:Fs} {δ:Sl} {ch:CH}:cc c g1 g2 δ ch=ml (c δ ch) g1 g2 δ:=rfl
def qW {c:Ft} {g1 g2:Fg} {δ:Sl} {ch:CH}:eIf c g1 g2 δ ch=ml (c δ ch) g1 g2 δ:=rfl
def fW {α:Type} {f g:Sl->CH->Option α} {δ:Sl} {ch:CH}:ml (some (true,ch)) f g δ=f δ ch:=rfl
def dA {α:Type} {f g:Sl->CH->Option α} {δ:Sl} {ch:CH}:ml (some (false,ch)) f g δ=g δ ch:=rfl
def wl {α:Type} {f g:Sl->CH->Option α} {δ:Sl} {ch:CH} {b:Bool} (h:b=true):ml (some (b,ch)) f g δ=f δ ch:=by subst h;rfl
def wm {α:Type} {f g:Sl->CH->Option α} {δ:Sl} {ch:CH} {b:Bool} (h:b=false):ml (some (b,ch)) f g δ=g δ ch:=by subst h;rfl
def hV {f:Fg} {δ:Sl} {ch:CH} {b:Bool} {ch':CH} (h:f δ ch=some (.dat (.bl b),ch')):d6 f δ ch=some (b,ch'):=by unfold d6;rw [h];rfl
def uw {δ:Sl} {ch:CH} {i:Nat} {d:Dt} (h:δ[i]?=some (some (.dat d))):(lo δ ch)[i]?=some (some (.leaf d)):=by
 have key:∀ (δ:Sl) (u:List Nat) (i:Nat),δ[i]?=some (some (.dat d))->(loA ch u δ)[i]?=some (some (.leaf d)):=fun δ=>by
  induction δ with
  | nil=>intro u i h;simp at h
  | cons x r ih =>
   intro u i h
   cases i with
   | zero =>
    simp only [List.getElem?_cons_zero,Option.some.injEq] at h
    subst h
    rfl
   | succ i =>
    have h':r[i]?=some (some (.dat d)):=by simpa using h
    cases x with
    | none=>simpa [loA] using ih u i h'
    | some c=>cases c with
     | dat e=>simpa [loA] using ih u i h'
     | ref j=>simpa [loA] using ih (j::u) i h'
 exact key δ [] i h
def bT {δ:Sl} {ch:CH} {i:Nat} {d:Dt} (h:δ[i]?=some (some (.dat d))):vL i (lo δ ch)=some d:=by unfold vL;rw [uw h]
def bW {δ:Sl} {ch:CH} {i:Nat} {d:Dt} (h:δ[i]?=some (some (.dat d))):vB i (lo δ ch)=some d:=by unfold vB;rw [uw h];rfl
def eO {α:Type} (f:α->Dt):∀ l:List α,dats (l.map fun x=>.dat (f x))=some (l.map f)
 | []=>rfl
 | x::l=>by simp [dats,eO f l]
def cE {ch:CH} {o:CO}:(ch++[o])[ch.length]?=some o:=by simp
def cw {ch g:CH} {i:Nat} {o:CO} (h:ch[i]?=some o):(ch++g)[i]?=some o:=by
 rw [gL (gX h).1]
 exact h
section
variable {c f m:Str} {fa fb fe fk fo fx:Fg} {fs:Fgs} {g:Fd} {δ:Sl} {ch ch1 ch2 ch3:CH} {i:Nat} {ns:List Str} {l cs:List CV} {x v w:CV} {d:Dt} {o o':CO}
def cW (h1:fa δ ch=some (.ref i,ch1)) (h2:ch1[i]?=some (.ins c ns l)) (h3:pA ns l f=some x):eF c f fa δ ch=some (x,ch1):=by
 unfold eF
 rw [h1]
 simp only [Option.bind_some,h2,if_true,h3,Option.map_some]
def fM (h1:fo δ ch=some (.ref i,ch1)) (h2:ch1[i]?=some (.ins c ns l)) (h3:m∉ns) (h4:fs δ ch1=some (cs,ch2)):eM c m g fo fs δ ch=g (.ref i::cs) ch2:=by
 unfold eM
 rw [h1]
 simp only [Option.bind_some,h2,h3,not_false_eq_true,and_self,if_true,h4]
def jW (h4:fs δ ch=some (cs,ch2)):eC g fs δ ch=g cs ch2:=by
 unfold eC
 rw [h4,Option.bind_some]
def aS (h1:fa δ ch=some (x,ch1)) (h2:fs δ ch1=some (cs,ch2)):ak fa fs δ ch=some (x::cs,ch2):=by
 unfold ak
 rw [h1,Option.bind_some]
 dsimp only
 rw [h2,Option.map_some]
def ck (he:fe δ ch=some (v,ch1)) (ha:fa δ ch1=some (.ref i,ch2)) (hk:fk δ ch2=some (.dat d,ch3)) (ho:ch3[i]?=some o) (hp:kP o d v=some o'):cT fa fk fe δ ch=some (.nx δ (ch3.set i o')):=by
 unfold cT
 rw [he,Option.bind_some]
 dsimp only
 rw [ha,Option.bind_some]
 dsimp only
 rw [hk,Option.bind_some]
 simp only [ho,Option.bind_some,hp,Option.map_some]
def kT (he:fe δ ch=some (v,ch1)) (ha:fa δ ch1=some (.ref i,ch2)) (ho:ch2[i]?=some (.ins c ns l)) (hn:ns.length<1000):dR c f fa fe δ ch=some (.nx δ (ch2.set i (.ins c (cO ns l f v).1 (cO ns l f v).2))):=by
 unfold dR
 rw [he,Option.bind_some]
 dsimp only
 rw [ha,Option.bind_some]
 simp only [ho,hn,and_self,if_true]
def m8 {op:Int->Int->Int} {n k:Int} (ha:fa δ ch=some (.ref i,ch)) (ho:ch[i]?=some (.ins c ns l)) (hn:ns.length<1000) (hf:pA ns l f=some (.dat (.int n))) (he:fe δ ch=some (.dat (.int k),ch)) :
  pK c f op fa fe δ ch=some (.nx δ (ch.set i (.ins c (cO ns l f (.dat (.int (op n k)))).1 (cO ns l f (.dat (.int (op n k)))).2))):=by
 unfold pK
 rw [ha]
 simp only [Option.bind_some,ho,hn,and_self,if_true,hf,he]
def cX (h1:fa δ ch=some (.ref i,ch1)) (h2:fb δ ch1=some (.dat d,ch2)) (ho:ch2[i]?=some o) (hx:ixO o d=some x):eIx fa fb δ ch=some (x,ch2):=by
 unfold eIx
 rw [h1,Option.bind_some]
 dsimp only
 rw [h2,Option.bind_some]
 simp only [ho,Option.bind_some,hx,Option.map_some]
def m9 {y e:Dt} (h1:fa δ ch=some (.dat y,ch1)) (h2:fb δ ch1=some (.dat d,ch2)) (hx:gIx y d=some (.leaf e)):eIx fa fb δ ch=some (.dat e,ch2):=by
 unfold eIx
 rw [h1,Option.bind_some]
 dsimp only
 rw [h2,Option.bind_some]
 simp only [hx,Option.bind_some]
 rfl
def na {q:List (Key×CV)} {k:Key} (h1:fo δ ch=some (.ref i,ch)) (h2:ch[i]?=some (.dK q)) (h3:fk δ ch=some (.dat d,ch)) (h4:fx δ ch=some (x,ch)) (hk:fm d=some k):ow fo fk fx δ ch=some ((lkC q k).getD x,ch):=by
 unfold ow
 rw [h1]
 simp only [Option.bind_some,h2,h3,h4,hk,Option.map_some]
def cY {g:Dt->Dt->Option T} {y z:Dt} {t:T} (h1:fa δ ch=some (x,ch1)) (h2:fb δ ch1=some (v,ch2)) (hx:vw ch2 x=some y) (hv:vw ch2 v=some z) (hg:g y z=some t):e2 g fa fb δ ch=al ch2 t:=by
 unfold e2
 rw [h1,Option.bind_some]
 dsimp only
 rw [h2,Option.bind_some]
 simp only [hx,hv,Option.bind_some,hg]
def qX {g:List Dt->Option T} {ds:List Dt} {t:T} (h1:fs δ ch=some (cs,ch1)) (h2:vws ch1 cs=some ds) (h3:g ds=some t):eB g fs δ ch=al ch1 t:=by
 unfold eB
 rw [h1,Option.bind_some]
 dsimp only
 rw [h2,Option.bind_some,h3,Option.bind_some]
def ux {g:List Dt->Option T} {ds:List Dt} {e:Dt} (h1:fs δ ch=some (cs,ch1)) (h2:vws ch1 cs=some ds) (h3:g ds=some (.leaf e)) (h4:qK (.leaf e)=some (.leaf e):=by rfl):eCV g fs δ ch=some (.dat e,ch1):=by
 unfold eCV
 rw [h1,Option.bind_some]
 dsimp only
 rw [h2,Option.bind_some,h3,Option.bind_some,h4]
 rfl
def aH {fd:De->Option Dt} (h:fd (lo δ ch)=some d):eD fd δ ch=some (.dat d,ch):=by
 unfold eD
 rw [h]
 rfl
def gn {ft:De->Option Bool} {b:Bool} (h:ft (lo δ ch)=some b):tD ft δ ch=some (b,ch):=by
 unfold tD
 rw [h]
 rfl
def bf (h:δ[i]?=some (some v)):eV i δ ch=some (v,ch):=by
 unfold eV
 rw [h]
def bR (h:fa δ ch=some (v,ch1)):cQ i fa δ ch=some (.nx (δ.set i (some v)) ch1):=by
 unfold cQ
 rw [h]
 rfl
def aZ (h:fa δ ch=some (v,ch1)):bE fa δ ch=some (.rt v ch1):=by
 unfold bE
 rw [h]
 rfl
def dL (h:fa δ ch=some (v,ch1)):gw fa δ ch=some (.nx δ ch1):=by
 unfold gw
 rw [h]
 rfl
def jg {b:Bool} (h:fa δ ch=some (.dat (.bl b),ch1)):iB fa δ ch=some (b,ch1):=by
 unfold iB
 rw [h]
 rfl
def kU {i:Nat} (hl:i<δ.length):mgS [i] δ ((lo δ ch).set i (some (.leaf d)))=δ.set i (some (.dat d)):=by
 have h2:(lo δ ch).length=δ.length:=io ch [] δ
 apply List.ext_getElem?
 intro j
 unfold mgS
 rw [List.getElem?_mapIdx]
 by_cases e:i=j
 · subst e
   rw [List.getElem?_set_self hl,gQ hl,List.getElem?_set_self (by rw [h2];exact hl)]
   simp
 · rw [gN e,gN e]
   have e':¬ j=i:=fun z=>e z.symm
   cases h:δ[j]? with
   | none=>rfl
   | some x=>simp [e']
def nc {i:Nat} {g:Fs} {r:List Dt} {δ2:Sl} (hl:i<δ.length) (h:g (δ.set i (some (.dat d))) ch=some (.nx δ2 ch2)):gm [i] (av i) g (d::r) δ ch=gm [i] (av i) g r δ2 ch2:=by
 show ((av i d (lo δ ch)).bind fun δ1=>(g (mgS [i] δ δ1) ch).bind fun o=>_)=_
 unfold av
 rw [Option.bind_some,kU hl,h]
 rfl
def jX {i:Nat} {g:Fs} {I:Sl->CH->Prop} (hI:∀ δ ch,I δ ch->i<δ.length):∀ {ds:List Dt} {δ:Sl} {ch:CH},(∀ d∈ds,∀ δ ch,I δ ch->∃ δ2 ch2,g (δ.set i (some (.dat d))) ch=some (.nx δ2 ch2)/\I δ2 ch2)->I δ ch->∃ δ2 ch2,gm [i] (av i) g ds δ ch=some (.nx δ2 ch2)/\I δ2 ch2
 | [],δ,ch,_,h=>⟨δ,ch,rfl,h⟩
 | d::ds,δ,ch,hb,h=>by
  obtain ⟨δ1,ch1,e,h1⟩:=hb d (by simp) δ ch h
  rw [nc (hI _ _ h) e]
  exact jX hI (fun z hz=>hb z (by simp [hz])) h1
end
end L2
seal L2.PE L2.PS L2.PSs L2.PT L2.PW L2.PA L2.PI L2.PG L2.PTs L2.PO L2.PGs L2.CallR L2.OpR L2.IxR L2.SlR L2.MtR L2.UnR L2.DO L2.DL L2.DB L2.DT L2.DW L2.DS L2.DS1 L2.R2D L2.CRD L2.MRD L2.DG L2.DGs L2.DIF L2.DIB L2.DTs L2.DP L2.GE L2.GT L2.GW L2.GA L2.GS L2.GS1
namespace P24
open PySem L2
def top (i:Nat):Stmt:=PySem.Challenge.pw_dimhouse_k24_whole_plain_runs.main.body.getD i (.Pass ⟨0,0,0,0⟩)
def iz (i j:Nat):Stmt:=match top i with
 | .ClassDef _ _ _ body _ _ _ _ _ _ _=>body.getD j (.Pass ⟨0,0,0,0⟩)
 | _=>.Pass ⟨0,0,0,0⟩
noncomputable section
def pM:Dt:=(.int 1099511627776)
def y8:List Dt->Option T:=gY 2 ((b7 (sIf (tB2 (j0 fun i j=>decide (i<j)) (vB 1) (toD (aW fj (ag (vB 0) aI)))) (cI (d2 ax (vB 0) (vB 1))) fF)
  (cI (toT (kD (.int 0))))))
def q46:De->Option Dt:=(toD (d2 bV (toD (d2 sn (vB 1) (toD (d2 fQ (kD (.int 44)) (vB 0))))) (toD (d2 ja (kD (.int 2)) (kD (.int 44))))))
def q52:De->Option Out:=(b7 (dF 4 (toT (toD (d2 bV (toD (d2 bY (toD (d2 bY (toD (d2 fQ (vB 4) (vB 4))) (toD (d2 fQ (kD (.int 16807)) (vB 4))))) (vB 5))) (kD (.int 2147483629))))))
  (z58 3 (vL 4)))
noncomputable def z21:List Dt->Option T:=gY 6 ((b7 (sIf (kA (vB 2)) (cI (cN [none,some 0] (gi gf (ag (vL 1) aI)) (av 0) bH q46)) fF)
  (b7 (dF 3 (dN aI))
  (b7 (dF 4 (toT (toD (d2 bY (toD (d2 bV (vB 0) (kD (.int 2147483629)))) (kD (.int 69621))))))
  (b7 (vE (gi gf (ag (toD (d2 bY (vB 1) (kD (.int 1)))) aI)) (av 5) q52)
  (cI (vSl (vB 3) (eY (kD (.int 1))) jb)))))))
def q47:De->Option Dt:=(toD (d2 ax (vB 2) (toD (d2 bV (toD (d2 bY (toD (d2 iu (vB 1) (kD (.int 37)))) (toD (d2 fQ (toD (d2 fQ (kD (.int 11)) (vB 0))) (toD (d2 bV (vB 1) (kD (.int 2)))))))) (kD (.int 26))))))
noncomputable def z47:De->Option Dt:=(toD (d2 bY (toD (d2 bY (toD (vSl (vB 4) jb (eY (vB 3)))) (toD (d2 ax (vB 2) (toD (d2 bV (toD (d2 bY (toD (d2 iu (vB 1) (kD (.int 42)))) (toD (d2 fQ (kD (.int 5)) (vB 0))))) (kD (.int 26)))))))) (toD (vSl (vB 4) (eY (vB 3)) jb))))
noncomputable def z32:List Dt->Option T:=gY 6 ((b7 (dF 2 (toT (kD (.str "abcdefghijklmnopqrstuvwxyz"))))
  (b7 (dF 3 (toT (toD (d2 bV (vB 0) (kD (.int 6))))))
  (b7 (dF 4 (toT (toD (d2 bV (toD (d2 iu (vB 0) (kD (.int 6)))) (toD (d2 bY (vB 3) (kD (.int 1))))))))
  (b7 (dF 5 (toT (toD (qG iN (kD (.str "")) (ag (toD (cN [none,some 0,some 2] (gi gf (ag (vL 3) aI)) (av 0) bH q47)) aI)))))
  (cI (cN [none,some 0,some 2,some 4,some 5] (gi gf (ag (vL 1) aI)) (av 0) bH z47)))))))
noncomputable def y17:List Dt->Option T:=gY 1 ((b7 (sIf (tB2 (gEq false) (toD (d2 bV (vB 0) (kD (.int 3)))) (kD (.int 0))) (cI (d2 bV (toD (d2 iu (vB 0) (kD (.int 3)))) (kD (.int 4)))) fF)
  (b7 (sIf (tB2 (gEq false) (toD (d2 bV (vB 0) (kD (.int 3)))) (kD (.int 1))) (cI (d2 gA (toD (d2 gA (toD (d2 ja (kD (.int 2)) (kD (.int 40)))) (kD (.int 1)))) (toD (d2 bV (toD (d2 iu (vB 0) (kD (.int 3)))) (kD (.int 4)))))) fF)
  (cI (d2 bV (toD (d2 fQ (toD (d2 iu (vB 0) (kD (.int 3)))) (kD (.int 1664525)))) (toD (d2 ja (kD (.int 2)) (kD (.int 40)))))))))
noncomputable def z41:De->Option Dt:=(toD (cB (ag (toD (d2 ax (vB 1) (vB 0))) (ag (toD (aW y17 (ag (toD (d2 iu (toD (d2 ax (vB 2) (vB 0))) (kD (.int 2)))) aI))) (ag (toD (d2 (gEq false) (toD (d2 bV (toD (d2 ax (vB 2) (vB 0))) (kD (.int 2)))) (kD (.int 0)))) aI)))))
noncomputable def z40:De->Option Dt:=(toD (cB (ag (toD (d2 ax (vB 1) (toD (d2 bY (kD (.int 8)) (vB 0))))) (ag (toD (d2 bY (kD (.int 1)) (toD (d2 bV (toD (d2 ax (vB 2) (toD (d2 bY (kD (.int 8)) (vB 0))))) (kD (.int 8)))))) (ag (toD (d2 (gEq false) (toD (d2 bV (toD (d2 iu (toD (d2 ax (vB 2) (toD (d2 bY (kD (.int 8)) (vB 0))))) (kD (.int 8)))) (kD (.int 2)))) (kD (.int 0)))) aI)))))
def z64:De->Option Dt:=(toD (aW y17 (ag (vL 0) aI)))
noncomputable def z45:List Dt->Option T:=gY 9 ((b7 (dF 1 (toT (toD (aW z32 (ag (toD (aW y8 (ag (vL 0) (ag (kD (.int 0)) aI)))) (ag (kD (.int 24)) aI))))))
  (b7 (dF 2 (toT (toD (d2 (gEq false) (toD (d2 bV (toD (aW y8 (ag (vL 0) (ag (kD (.int 0)) aI)))) (kD (.int 2)))) (kD (.int 1))))))
  (b7 (dF 3 (toT (toD (aW z21 (ag (toD (aW y8 (ag (vL 0) (ag (kD (.int 1)) aI)))) (ag (kD (.int 16)) (ag (vL 2) aI)))))))
  (b7 (dF 4 (toT (toD (d2 ax (toD (dN (ag (toD (dN (ag (kD (.int 3)) (ag (kD (.int 2)) (ag (kD (.int 4)) (ag (kD (.int 7)) aI)))))) (ag (toD (dN (ag (kD (.int 8)) (ag (kD (.int 4)) (ag (kD (.int 12)) (ag (kD (.int 60)) aI)))))) aI)))) (toD (aW r9 (ag (vB 2) aI)))))))
  (b7 (dF 5 (toT (toD (cN [none,some 1,some 3] (gi gf (ag (toD (d2 bY (kD (.int 1)) (toD (d2 bV (toD (d2 ax (vB 3) (kD (.int 12)))) (toD (d2 ax (vB 4) (kD (.int 0)))))))) aI)) (av 0) bH z41))))
  (b7 (dF 6 (toT (toD (cN [none,some 1,some 3] (gi gf (ag (toD (d2 bY (kD (.int 1)) (toD (d2 bV (toD (d2 ax (vB 3) (kD (.int 13)))) (toD (d2 ax (vB 4) (kD (.int 1)))))))) aI)) (av 0) bH z40))))
  (b7 (dF 7 (toT (toD (vSl (toD (vSl (vB 1) (eY (toD (d2 gA (kD (.int 12)) (toD (d2 bV (toD (d2 ax (vB 3) (kD (.int 15)))) (kD (.int 13))))))) jb)) jb (eY (toD (d2 bY (kD (.int 1)) (toD (d2 bV (toD (d2 bY (kD (.int 3)) (toD (d2 ax (vB 3) (kD (.int 14)))))) (toD (d2 ax (vB 4) (kD (.int 2)))))))))))))
  (b7 (dF 8 (toT (toD (aW z21 (ag (toD (aW y8 (ag (vL 0) (ag (kD (.int 2)) aI)))) (ag (toD (d2 bV (toD (d2 iu (toD (d2 ax (vB 3) (kD (.int 14)))) (kD (.int 16)))) (toD (d2 ax (vB 4) (kD (.int 3)))))) (ag (vL 2) aI)))))))
  (cI (cB (ag (vL 7) (ag (vL 5) (ag (vL 6) (ag (toD (cN [none] (fIt (vB 8)) (av 0) bH z64)) (ag (vL 2) aI))))))))))))))))
noncomputable def z31:List Dt->Option T:=gY 2 ((b7 (sIf (tB2 (gEq false) (toD (d2 bV (vB 0) (kD (.int 3)))) (kD (.int 0))) (cI (aW y17 (ag (toD (d2 iu (vB 0) (kD (.int 3)))) aI))) fF)
  (cI (d2 ax (vB 1) (toD (d2 bV (toD (d2 iu (vB 0) (kD (.int 3)))) (toD (aW fj (ag (vB 1) aI)))))))))
noncomputable def z46:List Dt->Option T:=gY 3 ((b7 (sIf (tB2 (gEq false) (toD (d2 bV (toD (d2 ax (vB 0) (kD (.int 4)))) (kD (.int 6)))) (kD (.int 0))) (cI (d2 bV (toD (d2 ax (vB 0) (kD (.int 5)))) (vB 2))) fF)
  (cI (d2 bY (toD (d2 bY (vB 1) (kD (.int 1)))) (toD (d2 bV (toD (d2 ax (vB 0) (kD (.int 5)))) (toD (d2 gA (toD (d2 gA (vB 2) (kD (.int 1)))) (vB 1)))))))))
noncomputable def q50:List Dt->Option T:=gY 16 ((b7 (yG (vL 3) (fG 5 (aX (av 4) (aX (av 5) (aX (av 6) (aX (av 7) (aX (av 8) eS)))))))
  (b7 (dF 9 (toT (toD (aW z21 (ag (vL 0) (ag (kD (.int 8)) (ag (vL 8) aI)))))))
  (b7 (dF 10 (toT (toD (d2 ax (vB 4) (toD (d2 bV (toD (d2 ax (vB 9) (kD (.int 1)))) (toD (aW fj (ag (vB 4) aI)))))))))
  (b7 (dF 11 (toT (toD (d2 ax (toD (d2 ax (vB 5) (toD (d2 bV (toD (d2 ax (vB 9) (kD (.int 6)))) (toD (aW fj (ag (vB 5) aI))))))) (kD (.int 0))))))
  (b7 (dF 12 (toT (toD (d2 ax (toD (d2 ax (vB 6) (toD (d2 bV (toD (d2 ax (vB 9) (kD (.int 6)))) (toD (aW fj (ag (vB 6) aI))))))) (kD (.int 0))))))
  (b7 (dF 13 (toT (toD (aW z31 (ag (toD (d2 ax (vB 9) (kD (.int 2)))) (ag (vL 4) aI))))))
  (b7 (dF 14 (toT (toD (aW z31 (ag (toD (d2 ax (vB 9) (kD (.int 3)))) (ag (vL 4) aI))))))
  (b7 (dF 15 (toT (toD (d2 bV (toD (d2 ax (vB 9) (kD (.int 0)))) (kD (.int 23))))))
  (b7 (sIf (tB2 (j0 fun i j=>decide (i<j)) (vB 15) (kD (.int 5))) (cI (cB (ag (kD (.str "op")) (ag (vL 10) (ag (toD (d2 ax (kD (.str "+-*<=&|^")) (toD (d2 bV (toD (d2 ax (vB 9) (kD (.int 7)))) (kD (.int 8)))))) (ag (vL 13) (ag (vL 14) aI))))))) fF)
  (b7 (sIf (tB2 (j0 fun i j=>decide (i<j)) (vB 15) (kD (.int 17))) (cI (d2 ax (toD (dN (ag (toD (cB (ag (kD (.str "load")) (ag (vL 10) (ag (vL 11) aI))))) (ag (toD (cB (ag (kD (.str "store")) (ag (vL 11) (ag (vL 13) aI))))) (ag (toD (cB (ag (kD (.str "take")) (ag (vL 10) (ag (vL 12) (ag (vL 13) aI)))))) (ag (toD (cB (ag (kD (.str "lay")) (ag (vL 12) (ag (vL 13) (ag (vL 14) aI)))))) aI)))))) (toD (d2 bV (vB 15) (kD (.int 4)))))) fF)
  (b7 (sIf (tB2 (j0 fun i j=>decide (i<j)) (vB 15) (kD (.int 20))) (cI (d2 ax (toD (dN (ag (toD (cB (ag (kD (.str "copy")) (ag (vL 10) (ag (vL 13) aI))))) (ag (toD (cB (ag (kD (.str "hear")) (ag (vL 10) aI)))) (ag (toD (cB (ag (kD (.str "say")) (ag (vL 13) aI)))) aI))))) (toD (d2 bV (vB 15) (kD (.int 3)))))) fF)
  (b7 (sIf (tB2 (j0 fun i j=>decide (i<j)) (vB 15) (kD (.int 22))) (cI (cB (ag (kD (.str "if")) (ag (toD (d2 ax (toD (dN (ag (vL 10) (ag (vL 13) aI)))) (toD (d2 bV (toD (d2 ax (vB 9) (kD (.int 7)))) (kD (.int 2)))))) (ag (toD (aW z46 (ag (vL 9) (ag (vL 1) (ag (vL 2) aI))))) aI))))) fF)
  (cI (d2 ax (toD (dN (ag (toD (cB (ag (kD (.str "end")) (ag (vL 13) aI)))) (ag (toD (cB (ag (kD (.str "say")) (ag (vL 14) aI)))) (ag (toD (cB (ag (kD (.str "go")) (ag (toD (aW z46 (ag (vL 9) (ag (vL 1) (ag (vL 2) aI))))) aI)))) aI))))) (toD (d2 bV (toD (d2 ax (vB 9) (kD (.int 7)))) (kD (.int 3)))))))))))))))))))
def q36:De->Option Dt:=(toD (aW q50 (ag (toD (d2 ax (vB 1) (vB 0))) (ag (vL 0) (ag (toD (d2 bY (toD (aW fj (ag (vB 1) aI))) (kD (.int 1)))) (ag (vL 2) aI))))))
noncomputable def q35:List Dt->Option T:=gY 4 ((b7 (dF 3 (toT (toD (cN [none,some 0,some 1] (gi gf (ag (toD (aW fj (ag (vB 0) aI))) aI)) (av 0) bH q36))))
  (cI (cB (ag (toD (aW fI (ag (toD (d2 ax (vB 1) (kD (.int 1)))) aI))) (ag (toD (aW fI (ag (toD (d2 ax (vB 1) (kD (.int 2)))) aI))) (ag (toD (d2 md (toD (aW fI (ag (vB 3) aI))) (toD (cB (ag (toD (cB (ag (kD (.str "end")) (ag (vL 2) aI)))) aI))))) aI)))))))
noncomputable def y53:List Dt->Option T:=gY 2 ((b7 (sIf (tB2 (gEq false) (toD (d2 ax (vB 1) (kD (.int 0)))) (kD (.str "go"))) (cI (cB (ag (toD (d2 ax (vB 1) (kD (.int 1)))) aI))) fF)
  (b7 (sIf (tB2 (gEq false) (toD (d2 ax (vB 1) (kD (.int 0)))) (kD (.str "if"))) (cI (cB (ag (toD (d2 ax (vB 1) (kD (.int 2)))) (ag (toD (d2 bY (vB 0) (kD (.int 1)))) aI)))) fF)
  (b7 (sIf (tB2 (gEq false) (toD (d2 ax (vB 1) (kD (.int 0)))) (kD (.str "end"))) (cI (cB aI)) fF)
  (cI (cB (ag (toD (d2 bY (vB 0) (kD (.int 1)))) aI)))))))
def z75:De->Option Dt:=(toD (aW y53 (ag (vL 0) (ag (vL 1) aI))))
def hX:List Dt->Option T:=gY 1 ((cI (cN [none,none] (gi t7 (ag (toD (d2 ax (vB 0) (kD (.int 2)))) aI)) (fG 2 (aX (av 0) (aX (av 1) eS))) bH z75)))
def q37:De->Option Dt:=(toD (cB (ag (toD (d2 ax (vB 0) (kD (.int 0)))) (ag (toD (d2 ax (vB 0) (kD (.int 1)))) aI))))
def y11:Fg:=(eT (ak (eD (toD (d2 ax (vB 0) (kD (.int 0))))) (ak (lx (eN (dN (ag (kD (.int 0)) aI))) (eD (toD (d2 ax (vB 0) (kD (.int 1)))))) aB)))
noncomputable def z22:Fd:=dO 3 ((aP (dR "Plain" "rows" (eV 0) (eN (d2 ax (vB 1) (kD (.int 2)))))
  (aP (dR "Plain" "onward" (eV 0) (eN (aW hX (ag (vL 1) aI))))
  (aP (dR "Plain" "incoming" (eV 0) (eB lT (ak (eV 2) aB)))
  (aP (dR "Plain" "outgoing" (eV 0) (eN (dN aI)))
  (aP (dR "Plain" "boxes" (eV 0) (eN g6))
  (aP (dR "Plain" "cells" (eV 0) (jV (eN (cN [none] (fIt (toD (d2 ax (vB 1) (kD (.int 0))))) (av 0) bH q37))))
  (aP (dR "Plain" "shelves" (eV 0) (jV (hU [none] (fIt (toD (d2 ax (vB 1) (kD (.int 1))))) [0] (av 0) bH y11)))
  (aP (dR "Plain" "place" (eV 0) (eN (toT (kD (.int 0)))))
  (aP (dR "Plain" "hears" (eV 0) (eN (toT (kD (.int 0)))))
  (aP (dR "Plain" "done" (eV 0) (eN (toT (kD (.int 0)))))
  (dR "Plain" "result" (eV 0) (eN (toT (kD .non)))))))))))))))
def z35:Fs:=(cT (eIx (eV 2) (eD (kD (.str "places")))) (eD (vL 3)) (eN (dN (ag (vL 4) aI))))
def q34:Fs:=(cT (eIx (eV 2) (eD (kD (.str "places")))) (eD (vL 3)) (lx (eN (dN (ag (kD (.int 0)) aI))) (eD (vL 6))))
noncomputable def y44:Fd:=dO 7 ((aP (cQ 2 (ox [((eD (kD (.str "at"))),(eD (kD (.int 0)))),((eD (kD (.str "count"))),(eD (kD (.int 0)))),((eD (kD (.str "heard"))),(eD (kD (.int 0)))),((eD (kD (.str "answer"))),(eD (kD .non))),((eD (kD (.str "sent"))),(eN (dN aI))),((eD (kD (.str "letters"))),(eD (vL 1))),((eD (kD (.str "boxes"))),(eN g6)),((eD (kD (.str "places"))),(eN g6))]))
  (aP (cS (fIt (toD (d2 ax (vB 0) (kD (.int 0))))) [3,4,5] (fG 3 (aX (av 3) (aX (av 4) (aX (av 5) eS)))) z35)
  (aP (cS (fIt (toD (d2 ax (vB 0) (kD (.int 1))))) [3,6,5] (fG 3 (aX (av 3) (aX (av 6) (aX (av 5) eS)))) q34)
  (bE (eV 2))))))
def q13:Fd:=dO 1 ((bE (e2 (gIs true) (eF "Plain" "result" (eV 0)) (eD (kD .non)))))
def y16:Fd:=dO 2 ((bE (ow (eF "Plain" "boxes" (eV 0)) (eD (vL 1)) (eD (kD (.int 0))))))
def z10:Fd:=dO 2 ((bE (eIf (tD (kA (toD (fJ "str" (vB 1))))) (eM "Plain" "box" y16 (eV 0) (ak (eD (vL 1)) aB)) (eD (vL 1)))))
noncomputable def q28:Fd:=dO 2 ((aP (cQ 1 (eF "Plain" "hears" (eV 0)))
  (aP (pK "Plain" "hears" (fun i j=>i+j) (eV 0) (eD (kD (.int 1))))
  (bE (eIf (d6 (e2 (j0 fun i j=>decide (i<j)) (eD (vL 1)) (eB fj (ak (eF "Plain" "incoming" (eV 0)) aB)))) (eIx (eF "Plain" "incoming" (eV 0)) (eD (vL 1))) (eD (kD (.int 0))))))))
noncomputable def q17:List Dt->Option T:=gY 3 ((b7 (sIf (tB2 (gEq false) (vB 0) (kD (.str "+"))) (cI (d2 bY (vB 1) (vB 2))) fF)
  (b7 (sIf (tB2 (gEq false) (vB 0) (kD (.str "-"))) (cI (d2 gA (vB 1) (vB 2))) fF)
  (b7 (sIf (tB2 (gEq false) (vB 0) (kD (.str "*"))) (cI (d2 fQ (vB 1) (vB 2))) fF)
  (b7 (sIf (tB2 (gEq false) (vB 0) (kD (.str "<"))) (cI (vIf (tB2 (j0 fun i j=>decide (i<j)) (vB 1) (vB 2)) (toT (kD (.int 1))) (toT (kD (.int 0))))) fF)
  (b7 (sIf (tB2 (gEq false) (vB 0) (kD (.str "="))) (cI (vIf (tB2 (gEq false) (vB 1) (vB 2)) (toT (kD (.int 1))) (toT (kD (.int 0))))) fF)
  (b7 (sIf (tB2 (gEq false) (vB 0) (kD (.str "&"))) (cI (d2 (mL Builtin.bitAnd) (vB 1) (vB 2))) fF)
  (b7 (sIf (tB2 (gEq false) (vB 0) (kD (.str "|"))) (cI (d2 (mL Builtin.bitOr) (vB 1) (vB 2))) fF)
  (cI (d2 (mL Builtin.bitXor) (vB 1) (vB 2)))))))))))
def q44:List Dt->Option T:=gY 3 ((cI (d2 bV (toD (aW q17 (ag (vL 0) (ag (vL 1) (ag (vL 2) aI))))) (kD pM))))
noncomputable def z38:Fd:=dO 3 ((aP (cc (tD (tB2 (gEq false) (toD (d2 ax (vB 1) (kD (.int 0)))) (kD (.str "copy")))) (bE (eM "Plain" "worth" z10 (eV 0) (ak (eD (toD (d2 ax (vB 1) (kD (.int 2))))) aB))) cy)
  (aP (cc (tD (tB2 (gEq false) (toD (d2 ax (vB 1) (kD (.int 0)))) (kD (.str "op")))) (bE (eCV q44 (ak (eD (toD (d2 ax (vB 1) (kD (.int 2))))) (ak (eM "Plain" "worth" z10 (eV 0) (ak (eD (toD (d2 ax (vB 1) (kD (.int 3))))) aB)) (ak (eM "Plain" "worth" z10 (eV 0) (ak (eD (toD (d2 ax (vB 1) (kD (.int 4))))) aB)) aB))))) cy)
  (aP (cc (tD (tB2 (gEq false) (toD (d2 ax (vB 1) (kD (.int 0)))) (kD (.str "load")))) (bE (eIx (eF "Plain" "cells" (eV 0)) (eD (toD (d2 ax (vB 1) (kD (.int 2))))))) cy)
  (aP (cc (tD (tB2 (gEq false) (toD (d2 ax (vB 1) (kD (.int 0)))) (kD (.str "take")))) (aP (cQ 2 (eIx (eF "Plain" "shelves" (eV 0)) (eD (toD (d2 ax (vB 1) (kD (.int 2)))))))
  (bE (eIx (eV 2) (e2 bV (eM "Plain" "worth" z10 (eV 0) (ak (eD (toD (d2 ax (vB 1) (kD (.int 3))))) aB)) (eD (toD (aW fj (ag (vB 2) aI)))))))) cy)
  (bE (eM "Plain" "next_letter" q28 (eV 0) aB)))))))
noncomputable def z14:Fd:=dO 3 ((cc (tD (tB2 (gEq false) (toD (d2 ax (vB 1) (kD (.int 0)))) (kD (.str "store")))) (cT (eF "Plain" "cells" (eV 0)) (eD (toD (d2 ax (vB 1) (kD (.int 1))))) (eM "Plain" "worth" z10 (eV 0) (ak (eD (toD (d2 ax (vB 1) (kD (.int 2))))) aB))) (cc (tD (tB2 (gEq false) (toD (d2 ax (vB 1) (kD (.int 0)))) (kD (.str "lay")))) (aP (cQ 2 (eIx (eF "Plain" "shelves" (eV 0)) (eD (toD (d2 ax (vB 1) (kD (.int 1)))))))
  (cT (eV 2) (e2 bV (eM "Plain" "worth" z10 (eV 0) (ak (eD (toD (d2 ax (vB 1) (kD (.int 2))))) aB)) (eD (toD (aW fj (ag (vB 2) aI))))) (eM "Plain" "worth" z10 (eV 0) (ak (eD (toD (d2 ax (vB 1) (kD (.int 3))))) aB)))) (cc (tD (tB2 (gEq false) (toD (d2 ax (vB 1) (kD (.int 0)))) (kD (.str "say")))) (kO (eF "Plain" "outgoing" (eV 0)) (eM "Plain" "worth" z10 (eV 0) (ak (eD (toD (d2 ax (vB 1) (kD (.int 1))))) aB))) (cc (tD (mH (tB2 (gEq true) (toD (d2 ax (vB 1) (kD (.int 0)))) (kD (.str "if"))) (tB2 (gEq true) (toD (d2 ax (vB 1) (kD (.int 0)))) (kD (.str "go"))))) (cT (eF "Plain" "boxes" (eV 0)) (eD (toD (d2 ax (vB 1) (kD (.int 1))))) (eM "Plain" "set_by" z38 (eV 0) (ak (eD (vL 1)) aB))) cy)))))
noncomputable def y12:Fd:=dO 3 ((aP (cQ 2 (eIx (eF "Plain" "onward" (eV 0)) (eF "Plain" "place" (eV 0))))
  (aP (cc (fV (tD (tB2 (gEq false) (toD (d2 ax (vB 1) (kD (.int 0)))) (kD (.str "if")))) (d6 (e2 (gEq false) (eM "Plain" "worth" z10 (eV 0) (ak (eD (toD (d2 ax (vB 1) (kD (.int 1))))) aB)) (eD (kD (.int 0)))))) (bE (eD (toD (d2 ax (vB 2) (kD (.int 1)))))) cy)
  (bE (eD (toD (d2 ax (vB 2) (kD (.int 0)))))))))
noncomputable def z12:Fd:=dO 2 ((aP (cc (iB (eM "Plain" "ended" q13 (eV 0) aB)) pC cy)
  (aP (cQ 1 (eIx (eF "Plain" "rows" (eV 0)) (eF "Plain" "place" (eV 0))))
  (aP (pK "Plain" "done" (fun i j=>i+j) (eV 0) (eD (kD (.int 1))))
  (cc (tD (tB2 (gEq false) (toD (d2 ax (vB 1) (kD (.int 0)))) (kD (.str "end")))) (dR "Plain" "result" (eV 0) (eM "Plain" "worth" z10 (eV 0) (ak (eD (toD (d2 ax (vB 1) (kD (.int 1))))) aB))) (aP (gw (eM "Plain" "do_row" z14 (eV 0) (ak (eD (vL 1)) aB)))
  (dR "Plain" "place" (eV 0) (eM "Plain" "place_behind" y12 (eV 0) (ak (eD (vL 1)) aB)))))))))
def q16:Fd:=dO 1 ((bE (eB lT (ak (eF "Plain" "outgoing" (eV 0)) aB))))
def q14:Fd:=dO 1 ((bE (eF "Plain" "place" (eV 0))))
def q15:Fd:=dO 1 ((bE (eF "Plain" "done" (eV 0))))
def q20:Fd:=dO 1 ((bE (eF "Plain" "hears" (eV 0))))
def y13:Fg:=(eM "Plain" "box" y16 (eV 1) (ak (eD (vL 0)) aB))
def q38:De->Option Dt:=(toD (yC (toD (fJ "int" (vB 0))) (yB (toD (fJ "bool" (vB 0))))))
noncomputable def y37:Fd:=dO 3 ((aP (cQ 2 (e2 bY (e2 bY (eL (ak (eM "Plain" "stands" q14 (eV 0) aB) (ak (eM "Plain" "count" q15 (eV 0) aB) (ak (eM "Plain" "heard" q20 (eV 0) aB) aB)))) (eM "Plain" "sent" q16 (eV 0) aB)) (hU [none,some 0] (fIt (vL 1)) [0] (av 0) bH y13)))
  (bE (eD (toD (aW (tX fun bs=>bs.all id) (ag (toD (cN [none] (fIt (vB 2)) (av 0) bH q38)) aI)))))))
def q23:Fd:=dO 1 ((bE (eF "Plain" "result" (eV 0))))
def y34:Fd:=dO 2 ((bE (eB lT (ak (eIx (eF "Plain" "shelves" (eV 0)) (eD (vL 1))) aB))))
def z37:Fd:=dO 2 ((bE (eIx (eF "Plain" "cells" (eV 0)) (eD (vL 1)))))
def y43:Fs:=(cc (d6 (e2 (gEq true) (eL (ak (eM "Plain" "cell" z37 (eV 0) (ak (eD (vL 4)) aB)) aB)) (eIx (eIx (eV 1) (eD (kD (.str "places")))) (eD (vL 4))))) (bE (eD (kD (.bl false)))) cy)
def y42:Fs:=(cc (d6 (e2 (gEq true) (eM "Plain" "shelf" y34 (eV 0) (ak (eD (vL 4)) aB)) (eIx (eIx (eV 1) (eD (kD (.str "places")))) (eD (vL 4))))) (bE (eD (kD (.bl false)))) cy)
def z42:Fs:=(cc (d6 (e2 (gEq true) (eM "Plain" "box" y16 (eV 0) (ak (eD (vL 4)) aB)) (ow (eIx (eV 1) (eD (kD (.str "boxes")))) (eD (vL 4)) (eD (kD (.int 0)))))) (bE (eD (kD (.bl false)))) cy)
noncomputable def y38:Fd:=dO 9 ((aP (cc (jU (iB (eC y37 (ak (eV 0) (ak (eD (vL 3)) aB))))) (bE (eD (kD (.bl false)))) cy)
  (aP (cc (gJ (d6 (e2 (gEq true) (eM "Plain" "stands" q14 (eV 0) aB) (eIx (eV 1) (eD (kD (.str "at")))))) (gJ (d6 (e2 (gEq true) (eM "Plain" "count" q15 (eV 0) aB) (eIx (eV 1) (eD (kD (.str "count")))))) (d6 (e2 (gEq true) (eM "Plain" "heard" q20 (eV 0) aB) (eIx (eV 1) (eD (kD (.str "heard")))))))) (bE (eD (kD (.bl false)))) cy)
  (aP (cc (gJ (d6 (e2 (gEq true) (eM "Plain" "sent" q16 (eV 0) aB) (eIx (eV 1) (eD (kD (.str "sent")))))) (d6 (e2 (gEq true) (eM "Plain" "answer" q23 (eV 0) aB) (eIx (eV 1) (eD (kD (.str "answer"))))))) (bE (eD (kD (.bl false)))) cy)
  (aP (cS (fIt (toD (d2 ax (vB 2) (kD (.int 0))))) [4,5,6] (fG 3 (aX (av 4) (aX (av 5) (aX (av 6) eS)))) y43)
  (aP (cS (fIt (toD (d2 ax (vB 2) (kD (.int 1))))) [4,7,6] (fG 3 (aX (av 4) (aX (av 7) (aX (av 6) eS)))) y42)
  (aP (cS (fIt (vL 3)) [4] (av 4) z42)
  (aP (cQ 8 (eM "Plain" "ended" q13 (eV 0) aB))
  (bE (pE (eD (toD (fJ "bool" (vB 8)))) (e2 (gEq false) (eD (vL 8)) (e2 (gIs true) (eIx (eV 1) (eD (kD (.str "answer")))) (eD (kD .non))))))))))))))
def q33:Fs:=(gw (eM "Plain" "step" z12 (eV 6) aB))
noncomputable def q48:Fd:=dO 8 ((aP (oj (toD (vSl (vB 0) jb (eY (kD (.int 2))))) [2,3] (wj 2 (aX (av 2) (aX (av 3) eS))))
  (aP (cQ 4 (eD (toD (d2 bY (kD (.int 100)) (toD (d2 bV (vB 1) (kD (.int 801))))))))
  (aP (cQ 5 (eD (toD (cB (ag (toD (cB (ag (kD (.str "op")) (ag (vL 2) (ag (kD (.str "+")) (ag (vL 2) (ag (kD (.int 1)) aI))))))) (ag (toD (cB (ag (kD (.str "op")) (ag (vL 3) (ag (kD (.str "<")) (ag (vL 2) (ag (vL 4) aI))))))) (ag (toD (cB (ag (kD (.str "if")) (ag (vL 3) (ag (kD (.int 0)) aI))))) (ag (toD (cB (ag (kD (.str "say")) (ag (vL 3) aI)))) (ag (toD (cB (ag (kD (.str "end")) (ag (vL 2) aI)))) aI)))))))))
  (aP (cQ 6 (eMk "Plain" z22 (ak (eD (toD (cB (ag (toD (cB aI)) (ag (toD (cB aI)) (ag (vL 5) aI)))))) (ak (eD (toD (dN aI))) aB))))
  (aP (cS (gi gf (ag (toD (d2 bY (toD (d2 fQ (kD (.int 3)) (vB 4))) (kD (.int 1)))) aI)) [7] (av 7) q33)
  (aP (cc (gJ (d6 (e2 (gEq true) (eM "Plain" "stands" q14 (eV 6) aB) (eD (kD (.int 4))))) (gJ (d6 (e2 (mU true) (eM "Plain" "ended" q13 (eV 6) aB) (eD (kD (.bl false))))) (gJ (d6 (e2 (gEq true) (eM "Plain" "box" y16 (eV 6) (ak (eD (vL 2)) aB)) (eD (vL 4)))) (d6 (e2 (gEq true) (eM "Plain" "count" q15 (eV 6) aB) (eD (toD (d2 bY (toD (d2 fQ (kD (.int 3)) (vB 4))) (kD (.int 1)))))))))) (bE (eD (kD (.bl false)))) cy)
  (aP (gw (eM "Plain" "step" z12 (eV 6) aB))
  (bE (pE (e2 (mU false) (eM "Plain" "ended" q13 (eV 6) aB) (eD (kD (.bl true)))) (pE (e2 (gEq false) (eM "Plain" "answer" q23 (eV 6) aB) (eD (vL 4))) (e2 (gEq false) (eM "Plain" "sent" q16 (eV 6) aB) (eD (toD (dN (ag (kD (.int 0)) aI))))))))))))))))
def z11:Fd:=dO 2 ((aP (cc (tD (kA (toD (fJ "str" (vB 0))))) (bE (ow (eIx (eV 1) (eD (kD (.str "boxes")))) (eD (vL 0)) (eD (kD (.int 0))))) cy)
  (bE (eD (vL 0)))))
noncomputable def y15:List Dt->Option T:=gY 4 ((b7 (sIf (tB2 (gEq false) (vB 0) (kD (.str "<"))) (cI (aW r9 (ag (toD (d2 (j0 fun i j=>decide (i<j)) (vB 1) (vB 2))) aI))) fF)
  (b7 (sIf (tB2 (gEq false) (vB 0) (kD (.str "="))) (cI (aW r9 (ag (toD (d2 (gEq false) (vB 1) (vB 2))) aI))) fF)
  (b7 (dF 3 (toT (toD (qL (gv (kD (.str "+")) (toD (d2 bY (vB 1) (vB 2))) (gv (kD (.str "-")) (toD (d2 gA (vB 1) (vB 2))) (gv (kD (.str "*")) (toD (d2 fQ (vB 1) (vB 2))) (gv (kD (.str "&")) (toD (d2 (mL Builtin.bitAnd) (vB 1) (vB 2))) (gv (kD (.str "|")) (toD (d2 (mL Builtin.bitOr) (vB 1) (vB 2))) (gv (kD (.str "^")) (toD (d2 (mL Builtin.bitXor) (vB 1) (vB 2))) ul))))))))))
  (cI (d2 bV (toD (d2 ax (vB 3) (vB 0))) (toD (d2 ja (kD (.int 2)) (kD (.int 40))))))))))
noncomputable def z34:Fd:=dO 3 ((aP (cc (tD (tB2 (gEq false) (toD (d2 ax (vB 0) (kD (.int 0)))) (kD (.str "op")))) (bE (eCV y15 (ak (eD (toD (d2 ax (vB 0) (kD (.int 2))))) (ak (eC z11 (ak (eD (toD (d2 ax (vB 0) (kD (.int 3))))) (ak (eV 1) aB))) (ak (eC z11 (ak (eD (toD (d2 ax (vB 0) (kD (.int 4))))) (ak (eV 1) aB))) aB))))) cy)
  (aP (cc (tD (tB2 (gEq false) (toD (d2 ax (vB 0) (kD (.int 0)))) (kD (.str "load")))) (bE (eIx (eIx (eIx (eV 1) (eD (kD (.str "places")))) (eD (toD (d2 ax (vB 0) (kD (.int 2)))))) (eD (kD (.int 0))))) cy)
  (aP (cc (tD (tB2 (gEq false) (toD (d2 ax (vB 0) (kD (.int 0)))) (kD (.str "take")))) (aP (cQ 2 (eIx (eIx (eV 1) (eD (kD (.str "places")))) (eD (toD (d2 ax (vB 0) (kD (.int 2)))))))
  (bE (eIx (eV 2) (e2 bV (eC z11 (ak (eD (toD (d2 ax (vB 0) (kD (.int 3))))) (ak (eV 1) aB))) (eD (toD (aW fj (ag (vB 2) aI)))))))) cy)
  (aP (cc (tD (tB2 (gEq false) (toD (d2 ax (vB 0) (kD (.int 0)))) (kD (.str "hear")))) (aP (cT (eV 1) (eD (kD (.str "heard"))) (e2 bY (eIx (eV 1) (eD (kD (.str "heard")))) (eD (kD (.int 1)))))
  (bE (eIx (e2 bY (eIx (eV 1) (eD (kD (.str "letters")))) (lx (eN (dN (ag (kD (.int 0)) aI))) (eD (kD (.int 90))))) (e2 gA (eIx (eV 1) (eD (kD (.str "heard")))) (eD (kD (.int 1))))))) cy)
  (bE (eC z11 (ak (eD (toD (d2 ax (vB 0) (kD (.int 2))))) (ak (eV 1) aB)))))))))
noncomputable def q39:Fd:=dO 3 ((aP (cT (eV 1) (eD (kD (.str "count"))) (e2 bY (eIx (eV 1) (eD (kD (.str "count")))) (eD (kD (.int 1)))))
  (aP (cc (tD (tB2 (gEq false) (toD (d2 ax (vB 0) (kD (.int 0)))) (kD (.str "end")))) (aP (cT (eV 1) (eD (kD (.str "answer"))) (eC z11 (ak (eD (toD (d2 ax (vB 0) (kD (.int 1))))) (ak (eV 1) aB))))
  pC) cy)
  (aP (cT (eV 1) (eD (kD (.str "at"))) (e2 bY (eIx (eV 1) (eD (kD (.str "at")))) (eD (kD (.int 1)))))
  (cc (gJ (tD (tB2 (gEq false) (toD (d2 ax (vB 0) (kD (.int 0)))) (kD (.str "go")))) (fV (tD (tB2 (gEq false) (toD (d2 ax (vB 0) (kD (.int 0)))) (kD (.str "if")))) (d6 (e2 (gEq true) (eC z11 (ak (eD (toD (d2 ax (vB 0) (kD (.int 1))))) (ak (eV 1) aB))) (eD (kD (.int 0))))))) (cT (eV 1) (eD (kD (.str "at"))) (eD (toD (d2 ax (vB 0) (toD (pe (kD (.int 1)))))))) (cc (tD (tB2 (gEq false) (toD (d2 ax (vB 0) (kD (.int 0)))) (kD (.str "store")))) (cT (eIx (eV 1) (eD (kD (.str "places")))) (eD (toD (d2 ax (vB 0) (kD (.int 1))))) (eL (ak (eC z11 (ak (eD (toD (d2 ax (vB 0) (kD (.int 2))))) (ak (eV 1) aB))) aB))) (cc (tD (tB2 (gEq false) (toD (d2 ax (vB 0) (kD (.int 0)))) (kD (.str "lay")))) (aP (cQ 2 (eIx (eIx (eV 1) (eD (kD (.str "places")))) (eD (toD (d2 ax (vB 0) (kD (.int 1)))))))
  (cT (eV 2) (e2 bV (eC z11 (ak (eD (toD (d2 ax (vB 0) (kD (.int 2))))) (ak (eV 1) aB))) (eD (toD (aW fj (ag (vB 2) aI))))) (eC z11 (ak (eD (toD (d2 ax (vB 0) (kD (.int 3))))) (ak (eV 1) aB))))) (cc (tD (tB2 (gEq false) (toD (d2 ax (vB 0) (kD (.int 0)))) (kD (.str "say")))) (kO (eIx (eV 1) (eD (kD (.str "sent")))) (eC z11 (ak (eD (toD (d2 ax (vB 0) (kD (.int 1))))) (ak (eV 1) aB)))) (cc (tD (tB2 (gEq true) (toD (d2 ax (vB 0) (kD (.int 0)))) (kD (.str "if")))) (cT (eIx (eV 1) (eD (kD (.str "boxes")))) (eD (toD (d2 ax (vB 0) (kD (.int 1))))) (eC z34 (ak (eD (vL 0)) (ak (eV 1) aB)))) cy)))))))))
noncomputable def q65:Fs:=(aP (cc (jU (iB (eC y38 (ak (eV 4) (ak (eV 5) (ak (eD (vL 3)) (ak (eD (vL 2)) aB))))))) (bE (eD (kD (.bl false)))) cy)
  (aP (gw (eM "Plain" "step" z12 (eV 4) aB))
  (cc (d6 (e2 (gIs false) (eIx (eV 5) (eD (kD (.str "answer")))) (eD (kD .non)))) (gw (eC q39 (ak (eIx (eD (toD (d2 ax (vB 3) (kD (.int 2))))) (eIx (eV 5) (eD (kD (.str "at"))))) (ak (eV 5) aB)))) cy)))
noncomputable def qY:Fd:=dO 8 ((aP (cQ 1 (eD (toD (aW z45 (ag (vL 0) aI)))))
  (aP (cQ 2 (eD (toD (aW z32 (ag (toD (aW y8 (ag (vL 0) (ag (kD (.int 0)) aI)))) (ag (kD (.int 24)) aI))))))
  (aP (cQ 3 (eD (toD (aW q35 (ag (toD (vSl (vB 0) (eY (kD (.int 5))) (eY (kD (.int 55))))) (ag (vL 1) (ag (toD (aW z31 (ag (toD (d2 bV (toD (aW y8 (ag (vL 0) (ag (kD (.int 3)) aI)))) (toD (d2 ja (kD (.int 2)) (kD (.int 44)))))) (ag (toD (d2 ax (vB 1) (kD (.int 0)))) aI)))) aI)))))))
  (aP (cQ 4 (eMk "Plain" z22 (ak (eD (vL 3)) (ak (eD (toD (d2 ax (vB 1) (kD (.int 3))))) aB))))
  (aP (cQ 5 (eC y44 (ak (eD (vL 3)) (ak (eD (toD (d2 ax (vB 1) (kD (.int 3))))) aB))))
  (aP (cS (gi gf (ag (kD (.int 80)) aI)) [6] (av 6) q65)
  (aP (cc (jU (iB (eC y38 (ak (eV 4) (ak (eV 5) (ak (eD (vL 3)) (ak (eD (vL 2)) aB))))))) (bE (eD (kD (.bl false)))) cy)
  (aP (cQ 7 (eD (toD (aW y8 (ag (vL 0) (ag (kD (.int 4)) aI))))))
  (bE (eOr (eD (toD (d2 (gEq true) (toD (d2 bV (vB 7) (kD (.int 6)))) (kD (.int 1))))) (eC q48 (ak (eD (vL 2)) (ak (eD (toD (d2 iu (vB 7) (kD (.int 6))))) aB))))))))))))))
end
structure Txt (P:Program) (w:World) (K:PySem.W.Frag) (mg:Str->Option Value):Prop where
 n_all:mg "all"=none
 n_bool:mg "bool"=none
 n_dict:mg "dict"=none
 n_enumerate:mg "enumerate"=none
 n_int:mg "int"=none
 n_isinstance:mg "isinstance"=none
 n_len:mg "len"=none
 n_list:mg "list"=none
 n_range:mg "range"=none
 n_str:mg "str"=none
 n_tuple:mg "tuple"=none
 g_WIDE:tZ K mg "WIDE" pM
 k_str:mN K "str"
 k_bool:mN K "bool"
 k_int:mN K "int"
 f_Plain_boxes:iP K "Plain" "boxes"
 f_Plain_cells:iP K "Plain" "cells"
 f_Plain_done:iP K "Plain" "done"
 f_Plain_hears:iP K "Plain" "hears"
 f_Plain_incoming:iP K "Plain" "incoming"
 f_Plain_onward:iP K "Plain" "onward"
 f_Plain_outgoing:iP K "Plain" "outgoing"
 f_Plain_place:iP K "Plain" "place"
 f_Plain_result:iP K "Plain" "result"
 f_Plain_rows:iP K "Plain" "rows"
 f_Plain_shelves:iP K "Plain" "shelves"
section
variable {P:Program} {w:World} {K:PySem.W.Frag} {mg:Str->Option Value} {base:Heap}
abbrev y25:Stmt:=top 9
def q82:FnScope ["_law_script","_law_k"] ["_law_script","_law_k"] (ab y25):=⟨rfl,rfl,rfl,by decide +kernel,rfl,by decide +kernel,by decide +kernel⟩
def dB:cC (ab y25) ["_law_script","_law_k"]=true:=by decide +kernel
def q68:bt (ab y25) "len"=true:=by decide +kernel
def q83 (T:Txt P w K mg) (D:DefF K mg "_law_cell_at" y25 ["_law_script","_law_k"]):OkF P w K mg base "_law_cell_at" 1 ["_law_script","_law_k"] (spD K 2 y8):=
 fT D q82 rfl fun f cdv A outer s H E hr=>(aR (df (bp jK jQ (ae (pvN 1 dB)) (DO.toB (cM q68 cL gE T.n_len eR (bU (ae (pvN 0 dB)) b9))) (aJ _)) (bD (bF (am hr (ae (pvN 0 dB)) (ae (pvN 1 dB))))) cm)
     (bD (bF (DL.toO ac))))
abbrev z18:Stmt:=top 10
def q43:FnScope ["_law_cell","_law_many","_law_digits","_law_found","_law_number","_law_k"] ["_law_cell","_law_many","_law_digits"] (ab z18):=⟨rfl,rfl,rfl,by decide +kernel,rfl,by decide +kernel,by decide +kernel⟩
def aV:cC (ab z18) ["_law_cell","_law_many","_law_digits","_law_found","_law_number","_law_k"]=true:=by decide +kernel
def q51:bt (ab z18) "range"=true:=by decide +kernel
def y86 (T:Txt P w K mg) (D:DefF K mg "_law_drawn" z18 ["_law_cell","_law_many","_law_digits"]):OkF P w K mg base "_law_drawn" 1 ["_law_cell","_law_many","_law_digits"] (spD K 3 z21):=
 fT D q43 rfl fun f cdv A outer s H E hr=>(aR (df (kB (ae (pvN 2 aV)) (fun _=>rfl)) (bD (bF (gu (M:=["_law_k","_law_cell"]) (src:=[none,some 0]) (ts:=[0]) (CmpScope.of (N:=["_law_cell","_law_many","_law_digits","_law_found","_law_number","_law_k"]) (outer:=ab z18) (by decide +kernel)) rfl (DIF.toB (da q51 T.n_range (af (aq (pvN 1 aV)) aC))) (fun nd _ _ _ _=>(bj (cD (N:=["_law_k","_law_cell"]) (i:=0) (by decide +kernel) (by decide +kernel) nd (scC (outer:=ab z18) (by exact rfl))))) (fun _ _ _ _=>dw) (fun _ _ _ _=>(DO.toL (ap bm bL (DO.toB (ap yb Bw (ae (pvD (N:=["_law_k","_law_cell"]) 1 (by decide +kernel) (scC (outer:=ab z18) rfl))) (DO.toB (ap fw gZ (DL.toB ac) (ae (pvD (N:=["_law_k","_law_cell"]) 0 (by decide +kernel) (scC (outer:=ab z18) rfl))))))) (DO.toB (ap ke nW (DL.toB ac) (DL.toB ac)))))) (by decide +kernel)))) cm)
     (aR (cx (nsN aV 3) (nsL aV 3) q43.nd (dh aC))
     (aR (cx (nsN aV 4) (nsL aV 4) q43.nd (DL.toO (DO.toL (ap br b6 (DO.toB (ap bm bL (ae (pvN 0 aV)) (DL.toB ac))) (DL.toB ac)))))
     (aR (yI PassesOwn.never rfl (da q51 T.n_range (af (DO.toL (ap br b6 (ae (pvN 1 aV)) (DL.toB ac))) aC)) (bj (bG (nsN aV 5) (nsL aV 5) q43.nd)) (aR (cx (nsN aV 4) (nsL aV 4) q43.nd (DL.toO (DO.toL (ap bm bL (DO.toB (ap br b6 (DO.toB (ap br b6 (DO.toB (ap fw gZ (ae (pvN 4 aV)) (ae (pvN 4 aV)))) (DO.toB (ap fw gZ (DL.toB ac) (ae (pvN 4 aV)))))) (ae (pvN 5 aV)))) (DL.toB ac)))))
     (bD (sd (pvN 3 aV) (aq (pvN 4 aV))))))
     (bD (bF (fH (ae (pvN 3 aV)) (fU (DL.toB ac)) il)))))))
abbrev z9:Stmt:=top 11
def z43:FnScope ["_law_cell","_law_many","_law_letters","_law_size","_law_at","_law_common"] ["_law_cell","_law_many"] (ab z9):=⟨rfl,rfl,rfl,by decide +kernel,rfl,by decide +kernel,by decide +kernel⟩
def bC:cC (ab z9) ["_law_cell","_law_many","_law_letters","_law_size","_law_at","_law_common"]=true:=by decide +kernel
def z51:bt (ab z9) "range"=true:=by decide +kernel
def y89 (T:Txt P w K mg) (D:DefF K mg "_law_names" z9 ["_law_cell","_law_many"]):OkF P w K mg base "_law_names" 1 ["_law_cell","_law_many"] (spD K 2 z32):=
 fT D z43 rfl fun f cdv A outer s H E hr=>(aR (cx (nsN bC 2) (nsL bC 2) z43.nd (DL.toO au))
     (aR (cx (nsN bC 3) (nsL bC 3) z43.nd (DL.toO (DO.toL (ap bm bL (ae (pvN 0 bC)) (DL.toB ac)))))
     (aR (cx (nsN bC 4) (nsL bC 4) z43.nd (DL.toO (DO.toL (ap bm bL (DO.toB (ap dv gB (ae (pvN 0 bC)) (DL.toB ac))) (DO.toB (ap br b6 (ae (pvN 3 bC)) (DL.toB ac)))))))
     (aR (cx (nsN bC 5) (nsL bC 5) z43.nd (DL.toO (DO.toL (vQ (DL.toB au) (bU (DO.toB (gu (M:=["_law_k","_law_cell","_law_letters"]) (src:=[none,some 0,some 2]) (ts:=[0]) (CmpScope.of (N:=["_law_cell","_law_many","_law_letters","_law_size","_law_at","_law_common"]) (outer:=ab z9) (by decide +kernel)) rfl (DIF.toB (da z51 T.n_range (af (aq (pvN 3 bC)) aC))) (fun nd _ _ _ _=>(bj (cD (N:=["_law_k","_law_cell","_law_letters"]) (i:=0) (by decide +kernel) (by decide +kernel) nd (scC (outer:=ab z9) (by exact rfl))))) (fun _ _ _ _=>dw) (fun _ _ _ _=>(DO.toL (am hr (ae (pvD (N:=["_law_k","_law_cell","_law_letters"]) 2 (by decide +kernel) (scC (outer:=ab z9) rfl))) (DO.toB (ap bm bL (DO.toB (ap br b6 (DO.toB (ap dv gB (ae (pvD (N:=["_law_k","_law_cell","_law_letters"]) 1 (by decide +kernel) (scC (outer:=ab z9) rfl))) (DL.toB ac))) (DO.toB (ap fw gZ (DO.toB (ap fw gZ (DL.toB ac) (ae (pvD (N:=["_law_k","_law_cell","_law_letters"]) 0 (by decide +kernel) (scC (outer:=ab z9) rfl))))) (DO.toB (ap bm bL (ae (pvD (N:=["_law_k","_law_cell","_law_letters"]) 1 (by decide +kernel) (scC (outer:=ab z9) rfl))) (DL.toB ac))))))) (DL.toB ac)))))) (by decide +kernel))) b9)))))
     (bD (bF (gu (M:=["_law_k","_law_cell","_law_letters","_law_at","_law_common"]) (src:=[none,some 0,some 2,some 4,some 5]) (ts:=[0]) (CmpScope.of (N:=["_law_cell","_law_many","_law_letters","_law_size","_law_at","_law_common"]) (outer:=ab z9) (by decide +kernel)) rfl (DIF.toB (da z51 T.n_range (af (aq (pvN 1 bC)) aC))) (fun nd _ _ _ _=>(bj (cD (N:=["_law_k","_law_cell","_law_letters","_law_at","_law_common"]) (i:=0) (by decide +kernel) (by decide +kernel) nd (scC (outer:=ab z9) (by exact rfl))))) (fun _ _ _ _=>dw) (fun _ _ _ _=>(DO.toL (ap br b6 (DO.toB (ap br b6 (DO.toB (fH (ae (pvD (N:=["_law_k","_law_cell","_law_letters","_law_at","_law_common"]) 4 (by decide +kernel) (scC (outer:=ab z9) rfl))) il (fU (ae (pvD (N:=["_law_k","_law_cell","_law_letters","_law_at","_law_common"]) 3 (by decide +kernel) (scC (outer:=ab z9) rfl)))))) (DO.toB (am hr (ae (pvD (N:=["_law_k","_law_cell","_law_letters","_law_at","_law_common"]) 2 (by decide +kernel) (scC (outer:=ab z9) rfl))) (DO.toB (ap bm bL (DO.toB (ap br b6 (DO.toB (ap dv gB (ae (pvD (N:=["_law_k","_law_cell","_law_letters","_law_at","_law_common"]) 1 (by decide +kernel) (scC (outer:=ab z9) rfl))) (DL.toB ac))) (DO.toB (ap fw gZ (DL.toB ac) (ae (pvD (N:=["_law_k","_law_cell","_law_letters","_law_at","_law_common"]) 0 (by decide +kernel) (scC (outer:=ab z9) rfl))))))) (DL.toB ac))))))) (DO.toB (fH (ae (pvD (N:=["_law_k","_law_cell","_law_letters","_law_at","_law_common"]) 4 (by decide +kernel) (scC (outer:=ab z9) rfl))) (fU (ae (pvD (N:=["_law_k","_law_cell","_law_letters","_law_at","_law_common"]) 3 (by decide +kernel) (scC (outer:=ab z9) rfl)))) il))))) (by decide +kernel))))))))
abbrev z27:Stmt:=top 12
def q75:FnScope ["_law_number"] ["_law_number"] (ab z27):=⟨rfl,rfl,rfl,by decide +kernel,rfl,by decide +kernel,by decide +kernel⟩
def cF:cC (ab z27) ["_law_number"]=true:=by decide +kernel
def q78 (T:Txt P w K mg) (D:DefF K mg "_law_value_by" z27 ["_law_number"]):OkF P w K mg base "_law_value_by" 1 ["_law_number"] (spD K 1 y17):=
 fT D q75 rfl fun f cdv A outer s H E hr=>(aR (df (bp (bq hr) cr (DO.toB (ap bm bL (ae (pvN 0 cF)) (DL.toB ac))) (DL.toB ac) (aJ _)) (bD (bF (ap bm bL (DO.toB (ap dv gB (ae (pvN 0 cF)) (DL.toB ac))) (DL.toB ac)))) cm)
     (aR (df (bp (bq hr) cr (DO.toB (ap bm bL (ae (pvN 0 cF)) (DL.toB ac))) (DL.toB ac) (aJ _)) (bD (bF (ap gK jP (DO.toB (ap gK jP (DO.toB (ap ke nW (DL.toB ac) (DL.toB ac))) (DL.toB ac))) (DO.toB (ap bm bL (DO.toB (ap dv gB (ae (pvN 0 cF)) (DL.toB ac))) (DL.toB ac)))))) cm)
     (bD (bF (ap bm bL (DO.toB (ap fw gZ (DO.toB (ap dv gB (ae (pvN 0 cF)) (DL.toB ac))) (DL.toB ac))) (DO.toB (ap ke nW (DL.toB ac) (DL.toB ac))))))))
abbrev y2:Stmt:=top 14
def q24:FnScope ["_law_script","_law_names_here","_law_digits","_law_xs","_law_most","_law_cells","_law_shelves","_law_boxes","_law_letters"] ["_law_script"] (ab y2):=⟨rfl,rfl,rfl,by decide +kernel,rfl,by decide +kernel,by decide +kernel⟩
def ar:cC (ab y2) ["_law_script","_law_names_here","_law_digits","_law_xs","_law_most","_law_cells","_law_shelves","_law_boxes","_law_letters"]=true:=by decide +kernel
def y23:bt (ab y2) "_law_cell_at"=true:=by decide +kernel
def z57:bt (ab y2) "_law_names"=true:=by decide +kernel
def y45:bt (ab y2) "_law_drawn"=true:=by decide +kernel
def z74:bt (ab y2) "int"=true:=by decide +kernel
def y51:bt (ab y2) "range"=true:=by decide +kernel
def z88 (T:Txt P w K mg) (D:DefF K mg "_law_world" y2 ["_law_script"]) (z16:OkF P w K mg base "_law_cell_at" 1 ["_law_script","_law_k"] (spD K 2 (y8))) (y36:OkF P w K mg base "_law_drawn" 1 ["_law_cell","_law_many","_law_digits"] (spD K 3 (z21))) (y40:OkF P w K mg base "_law_names" 1 ["_law_cell","_law_many"] (spD K 2 (z32))) (y28:OkF P w K mg base "_law_value_by" 1 ["_law_number"] (spD K 1 (y17))):OkF P w K mg base "_law_world" 2 ["_law_script"] (spD K 1 z45):=
 fT D q24 rfl fun f cdv A outer s H E hr=>(aR (cx (nsN ar 1) (nsL ar 1) q24.nd (DL.toO (DO.toL (bA z57 y40 (hr.mono (by decide)) (af (DO.toL (bA y23 z16 (hr.mono (by decide)) (af (aq (pvN 0 ar)) (af ac aC)))) (af ac aC))))))
     (aR (cx (nsN ar 2) (nsL ar 2) q24.nd (DL.toO (DO.toL (ju (bq hr) cr (DO.toB (ap bm bL (DO.toB (bA y23 z16 (hr.mono (by decide)) (af (aq (pvN 0 ar)) (af ac aC)))) (DL.toB ac))) (DL.toB ac) (aJ _)))))
     (aR (cx (nsN ar 3) (nsL ar 3) q24.nd (DL.toO (DO.toL (bA y45 y36 (hr.mono (by decide)) (af (DO.toL (bA y23 z16 (hr.mono (by decide)) (af (aq (pvN 0 ar)) (af ac aC)))) (af ac (af (aq (pvN 2 ar)) aC)))))))
     (aR (cx (nsN ar 4) (nsL ar 4) q24.nd (DL.toO (DO.toL (am hr (DO.toB (dh (af (DO.toL (dh (af ac (af ac (af ac (af ac aC)))))) (af (DO.toL (dh (af ac (af ac (af ac (af ac aC)))))) aC)))) (DO.toB (ge z74 jx tY T.n_int mD (bU (ae (pvN 2 ar)) b9)))))))
     (aR (kM (nsN ar 5) (nsL ar 5) q24.nd (M:=["_law_k","_law_names_here","_law_xs"]) (src:=[none,some 1,some 3]) (ts:=[0]) (CmpScope.of (N:=["_law_script","_law_names_here","_law_digits","_law_xs","_law_most","_law_cells","_law_shelves","_law_boxes","_law_letters"]) (outer:=ab y2) (by decide +kernel)) rfl (DIF.toB (da y51 T.n_range (af (DO.toL (ap br b6 (DL.toB ac) (DO.toB (ap bm bL (DO.toB (am hr (ae (pvN 3 ar)) (DL.toB ac))) (DO.toB (am hr (ae (pvN 4 ar)) (DL.toB ac))))))) aC))) (fun nd _ _ _ _=>(bj (cD (N:=["_law_k","_law_names_here","_law_xs"]) (i:=0) (by decide +kernel) (by decide +kernel) nd (scC (outer:=ab y2) (by exact rfl))))) (fun _ _ _ _=>dw) (fun _ _ _ _=>(DO.toL (bN (af (DO.toL (am hr (ae (pvD (N:=["_law_k","_law_names_here","_law_xs"]) 1 (by decide +kernel) (scC (outer:=ab y2) rfl))) (ae (pvD (N:=["_law_k","_law_names_here","_law_xs"]) 0 (by decide +kernel) (scC (outer:=ab y2) rfl))))) (af (DO.toL (bA (by decide +kernel) y28 (hr.mono (by decide)) (af (DO.toL (ap dv gB (DO.toB (am hr (ae (pvD (N:=["_law_k","_law_names_here","_law_xs"]) 2 (by decide +kernel) (scC (outer:=ab y2) rfl))) (ae (pvD (N:=["_law_k","_law_names_here","_law_xs"]) 0 (by decide +kernel) (scC (outer:=ab y2) rfl))))) (DL.toB ac))) aC) (e1:=(scC (outer:=ab y2) rfl)))) (af (DO.toL (ju (bq hr) cr (DO.toB (ap bm bL (DO.toB (am hr (ae (pvD (N:=["_law_k","_law_names_here","_law_xs"]) 2 (by decide +kernel) (scC (outer:=ab y2) rfl))) (ae (pvD (N:=["_law_k","_law_names_here","_law_xs"]) 0 (by decide +kernel) (scC (outer:=ab y2) rfl))))) (DL.toB ac))) (DL.toB ac) (aJ _))) aC)))))) (by decide +kernel))
     (aR (kM (nsN ar 6) (nsL ar 6) q24.nd (M:=["_law_k","_law_names_here","_law_xs"]) (src:=[none,some 1,some 3]) (ts:=[0]) (CmpScope.of (N:=["_law_script","_law_names_here","_law_digits","_law_xs","_law_most","_law_cells","_law_shelves","_law_boxes","_law_letters"]) (outer:=ab y2) (by decide +kernel)) rfl (DIF.toB (da y51 T.n_range (af (DO.toL (ap br b6 (DL.toB ac) (DO.toB (ap bm bL (DO.toB (am hr (ae (pvN 3 ar)) (DL.toB ac))) (DO.toB (am hr (ae (pvN 4 ar)) (DL.toB ac))))))) aC))) (fun nd _ _ _ _=>(bj (cD (N:=["_law_k","_law_names_here","_law_xs"]) (i:=0) (by decide +kernel) (by decide +kernel) nd (scC (outer:=ab y2) (by exact rfl))))) (fun _ _ _ _=>dw) (fun _ _ _ _=>(DO.toL (bN (af (DO.toL (am hr (ae (pvD (N:=["_law_k","_law_names_here","_law_xs"]) 1 (by decide +kernel) (scC (outer:=ab y2) rfl))) (DO.toB (ap br b6 (DL.toB ac) (ae (pvD (N:=["_law_k","_law_names_here","_law_xs"]) 0 (by decide +kernel) (scC (outer:=ab y2) rfl))))))) (af (DO.toL (ap br b6 (DL.toB ac) (DO.toB (ap bm bL (DO.toB (am hr (ae (pvD (N:=["_law_k","_law_names_here","_law_xs"]) 2 (by decide +kernel) (scC (outer:=ab y2) rfl))) (DO.toB (ap br b6 (DL.toB ac) (ae (pvD (N:=["_law_k","_law_names_here","_law_xs"]) 0 (by decide +kernel) (scC (outer:=ab y2) rfl))))))) (DL.toB ac))))) (af (DO.toL (ju (bq hr) cr (DO.toB (ap bm bL (DO.toB (ap dv gB (DO.toB (am hr (ae (pvD (N:=["_law_k","_law_names_here","_law_xs"]) 2 (by decide +kernel) (scC (outer:=ab y2) rfl))) (DO.toB (ap br b6 (DL.toB ac) (ae (pvD (N:=["_law_k","_law_names_here","_law_xs"]) 0 (by decide +kernel) (scC (outer:=ab y2) rfl))))))) (DL.toB ac))) (DL.toB ac))) (DL.toB ac) (aJ _))) aC)))))) (by decide +kernel))
     (aR (cx (nsN ar 7) (nsL ar 7) q24.nd (DL.toO (DO.toL (fH (DO.toB (fH (ae (pvN 1 ar)) (fU (DO.toB (ap gK jP (DL.toB ac) (DO.toB (ap bm bL (DO.toB (am hr (ae (pvN 3 ar)) (DL.toB ac))) (DL.toB ac)))))) il)) il (fU (DO.toB (ap br b6 (DL.toB ac) (DO.toB (ap bm bL (DO.toB (ap br b6 (DL.toB ac) (DO.toB (am hr (ae (pvN 3 ar)) (DL.toB ac))))) (DO.toB (am hr (ae (pvN 4 ar)) (DL.toB ac))))))))))))
     (aR (cx (nsN ar 8) (nsL ar 8) q24.nd (DL.toO (DO.toL (bA y45 y36 (hr.mono (by decide)) (af (DO.toL (bA y23 z16 (hr.mono (by decide)) (af (aq (pvN 0 ar)) (af ac aC)))) (af (DO.toL (ap bm bL (DO.toB (ap dv gB (DO.toB (am hr (ae (pvN 3 ar)) (DL.toB ac))) (DL.toB ac))) (DO.toB (am hr (ae (pvN 4 ar)) (DL.toB ac))))) (af (aq (pvN 2 ar)) aC)))))))
     (bD (bF (bN (af (aq (pvN 7 ar)) (af (aq (pvN 5 ar)) (af (aq (pvN 6 ar)) (af (DO.toL (gu (M:=["_law_number"]) (src:=[none]) (ts:=[0]) (CmpScope.of (N:=["_law_script","_law_names_here","_law_digits","_law_xs","_law_most","_law_cells","_law_shelves","_law_boxes","_law_letters"]) (outer:=ab y2) (by decide +kernel)) rfl (mK (ae (pvN 8 ar))) (fun nd _ _ _ _=>(bj (cD (N:=["_law_number"]) (i:=0) (by decide +kernel) (by decide +kernel) nd (scC (outer:=ab y2) (by exact rfl))))) (fun _ _ _ _=>dw) (fun _ _ _ _=>(DO.toL (bA (by decide +kernel) y28 (hr.mono (by decide)) (af (aq (pvD (N:=["_law_number"]) 0 (by decide +kernel) (scC (outer:=ab y2) rfl))) aC) (e1:=(scC (outer:=ab y2) rfl))))) (by decide +kernel))) (af (aq (pvN 2 ar)) aC))))))))))))))))
abbrev y30:Stmt:=top 13
def y90:FnScope ["_law_number","_law_names_here"] ["_law_number","_law_names_here"] (ab y30):=⟨rfl,rfl,rfl,by decide +kernel,rfl,by decide +kernel,by decide +kernel⟩
def dU:cC (ab y30) ["_law_number","_law_names_here"]=true:=by decide +kernel
def z55:bt (ab y30) "_law_value_by"=true:=by decide +kernel
def q79:bt (ab y30) "len"=true:=by decide +kernel
def q91 (T:Txt P w K mg) (D:DefF K mg "_law_atom" y30 ["_law_number","_law_names_here"]) (y28:OkF P w K mg base "_law_value_by" 1 ["_law_number"] (spD K 1 (y17))):OkF P w K mg base "_law_atom" 2 ["_law_number","_law_names_here"] (spD K 2 z31):=
 fT D y90 rfl fun f cdv A outer s H E hr=>(aR (df (bp (bq hr) cr (DO.toB (ap bm bL (ae (pvN 0 dU)) (DL.toB ac))) (DL.toB ac) (aJ _)) (bD (bF (bA z55 y28 (hr.mono (by decide)) (af (DO.toL (ap dv gB (ae (pvN 0 dU)) (DL.toB ac))) aC)))) cm)
     (bD (bF (am hr (ae (pvN 1 dU)) (DO.toB (ap bm bL (DO.toB (ap dv gB (ae (pvN 0 dU)) (DL.toB ac))) (DO.toB (cM q79 cL gE T.n_len eR (bU (ae (pvN 1 dU)) b9)))))))))
abbrev q42:Stmt:=top 15
def y93:FnScope ["_law_xs","_law_at","_law_many"] ["_law_xs","_law_at","_law_many"] (ab q42):=⟨rfl,rfl,rfl,by decide +kernel,rfl,by decide +kernel,by decide +kernel⟩
def cZ:cC (ab q42) ["_law_xs","_law_at","_law_many"]=true:=by decide +kernel
def z93 (T:Txt P w K mg) (D:DefF K mg "_law_led" q42 ["_law_xs","_law_at","_law_many"]):OkF P w K mg base "_law_led" 1 ["_law_xs","_law_at","_law_many"] (spD K 3 z46):=
 fT D y93 rfl fun f cdv A outer s H E hr=>(aR (df (bp (bq hr) cr (DO.toB (ap bm bL (DO.toB (am hr (ae (pvN 0 cZ)) (DL.toB ac))) (DL.toB ac))) (DL.toB ac) (aJ _)) (bD (bF (ap bm bL (DO.toB (am hr (ae (pvN 0 cZ)) (DL.toB ac))) (ae (pvN 2 cZ))))) cm)
     (bD (bF (ap br b6 (DO.toB (ap br b6 (ae (pvN 1 cZ)) (DL.toB ac))) (DO.toB (ap bm bL (DO.toB (am hr (ae (pvN 0 cZ)) (DL.toB ac))) (DO.toB (ap gK jP (DO.toB (ap gK jP (ae (pvN 2 cZ)) (DL.toB ac))) (ae (pvN 1 cZ))))))))))
abbrev z28:Stmt:=top 16
def z19:FnScope ["_law_cell","_law_at","_law_many","_law_world_here","_law_boxes","_law_cells","_law_shelves","_law_letters","_law_digits","_law_xs","_law_x","_law_name","_law_shelf","_law_a","_law_b","_law_kind"] ["_law_cell","_law_at","_law_many","_law_world_here"] (ab z28):=⟨rfl,rfl,rfl,by decide +kernel,rfl,by decide +kernel,by decide +kernel⟩
def ah:cC (ab z28) ["_law_cell","_law_at","_law_many","_law_world_here","_law_boxes","_law_cells","_law_shelves","_law_letters","_law_digits","_law_xs","_law_x","_law_name","_law_shelf","_law_a","_law_b","_law_kind"]=true:=by decide +kernel
def y63:bt (ab z28) "_law_drawn"=true:=by decide +kernel
def z49:bt (ab z28) "len"=true:=by decide +kernel
def y48:bt (ab z28) "_law_atom"=true:=by decide +kernel
def y49:bt (ab z28) "_law_led"=true:=by decide +kernel
def q93 (T:Txt P w K mg) (D:DefF K mg "_law_row" z28 ["_law_cell","_law_at","_law_many","_law_world_here"]) (z39:OkF P w K mg base "_law_atom" 2 ["_law_number","_law_names_here"] (spD K 2 (z31))) (y36:OkF P w K mg base "_law_drawn" 1 ["_law_cell","_law_many","_law_digits"] (spD K 3 (z21))) (q56:OkF P w K mg base "_law_led" 1 ["_law_xs","_law_at","_law_many"] (spD K 3 (z46))):OkF P w K mg base "_law_row" 3 ["_law_cell","_law_at","_law_many","_law_world_here"] (spD K 4 q50):=
 fT D z19 rfl fun f cdv A outer s H E hr=>(aR (yH (aq (pvN 3 ah)) (jv rfl (bO (bj (bG (nsN ah 4) (nsL ah 4) z19.nd)) (bO (bj (bG (nsN ah 5) (nsL ah 5) z19.nd)) (bO (bj (bG (nsN ah 6) (nsL ah 6) z19.nd)) (bO (bj (bG (nsN ah 7) (nsL ah 7) z19.nd)) (bO (bj (bG (nsN ah 8) (nsL ah 8) z19.nd)) gt)))))))
     (aR (cx (nsN ah 9) (nsL ah 9) z19.nd (DL.toO (DO.toL (bA y63 y36 (hr.mono (by decide)) (af (aq (pvN 0 ah)) (af ac (af (aq (pvN 8 ah)) aC)))))))
     (aR (cx (nsN ah 10) (nsL ah 10) z19.nd (DL.toO (DO.toL (am hr (ae (pvN 4 ah)) (DO.toB (ap bm bL (DO.toB (am hr (ae (pvN 9 ah)) (DL.toB ac))) (DO.toB (cM z49 cL gE T.n_len eR (bU (ae (pvN 4 ah)) b9)))))))))
     (aR (cx (nsN ah 11) (nsL ah 11) z19.nd (DL.toO (DO.toL (am hr (DO.toB (am hr (ae (pvN 5 ah)) (DO.toB (ap bm bL (DO.toB (am hr (ae (pvN 9 ah)) (DL.toB ac))) (DO.toB (cM z49 cL gE T.n_len eR (bU (ae (pvN 5 ah)) b9))))))) (DL.toB ac)))))
     (aR (cx (nsN ah 12) (nsL ah 12) z19.nd (DL.toO (DO.toL (am hr (DO.toB (am hr (ae (pvN 6 ah)) (DO.toB (ap bm bL (DO.toB (am hr (ae (pvN 9 ah)) (DL.toB ac))) (DO.toB (cM z49 cL gE T.n_len eR (bU (ae (pvN 6 ah)) b9))))))) (DL.toB ac)))))
     (aR (cx (nsN ah 13) (nsL ah 13) z19.nd (DL.toO (DO.toL (bA y48 z39 (hr.mono (by decide)) (af (DO.toL (am hr (ae (pvN 9 ah)) (DL.toB ac))) (af (aq (pvN 4 ah)) aC))))))
     (aR (cx (nsN ah 14) (nsL ah 14) z19.nd (DL.toO (DO.toL (bA y48 z39 (hr.mono (by decide)) (af (DO.toL (am hr (ae (pvN 9 ah)) (DL.toB ac))) (af (aq (pvN 4 ah)) aC))))))
     (aR (cx (nsN ah 15) (nsL ah 15) z19.nd (DL.toO (DO.toL (ap bm bL (DO.toB (am hr (ae (pvN 9 ah)) (DL.toB ac))) (DL.toB ac)))))
     (aR (df (bp jK jQ (ae (pvN 15 ah)) (DL.toB ac) (aJ _)) (bD (bF (bN (af au (af (aq (pvN 10 ah)) (af (DO.toL (am hr (DL.toB au) (DO.toB (ap bm bL (DO.toB (am hr (ae (pvN 9 ah)) (DL.toB ac))) (DL.toB ac))))) (af (aq (pvN 13 ah)) (af (aq (pvN 14 ah)) aC)))))))) cm)
     (aR (df (bp jK jQ (ae (pvN 15 ah)) (DL.toB ac) (aJ _)) (bD (bF (am hr (DO.toB (dh (af (DO.toL (bN (af au (af (aq (pvN 10 ah)) (af (aq (pvN 11 ah)) aC))))) (af (DO.toL (bN (af au (af (aq (pvN 11 ah)) (af (aq (pvN 13 ah)) aC))))) (af (DO.toL (bN (af au (af (aq (pvN 10 ah)) (af (aq (pvN 12 ah)) (af (aq (pvN 13 ah)) aC)))))) (af (DO.toL (bN (af au (af (aq (pvN 12 ah)) (af (aq (pvN 13 ah)) (af (aq (pvN 14 ah)) aC)))))) aC)))))) (DO.toB (ap bm bL (ae (pvN 15 ah)) (DL.toB ac)))))) cm)
     (aR (df (bp jK jQ (ae (pvN 15 ah)) (DL.toB ac) (aJ _)) (bD (bF (am hr (DO.toB (dh (af (DO.toL (bN (af au (af (aq (pvN 10 ah)) (af (aq (pvN 13 ah)) aC))))) (af (DO.toL (bN (af au (af (aq (pvN 10 ah)) aC)))) (af (DO.toL (bN (af au (af (aq (pvN 13 ah)) aC)))) aC))))) (DO.toB (ap bm bL (ae (pvN 15 ah)) (DL.toB ac)))))) cm)
     (aR (df (bp jK jQ (ae (pvN 15 ah)) (DL.toB ac) (aJ _)) (bD (bF (bN (af au (af (DO.toL (am hr (DO.toB (dh (af (aq (pvN 10 ah)) (af (aq (pvN 13 ah)) aC)))) (DO.toB (ap bm bL (DO.toB (am hr (ae (pvN 9 ah)) (DL.toB ac))) (DL.toB ac))))) (af (DO.toL (bA y49 q56 (hr.mono (by decide)) (af (aq (pvN 9 ah)) (af (aq (pvN 1 ah)) (af (aq (pvN 2 ah)) aC))))) aC)))))) cm)
     (bD (bF (am hr (DO.toB (dh (af (DO.toL (bN (af au (af (aq (pvN 13 ah)) aC)))) (af (DO.toL (bN (af au (af (aq (pvN 14 ah)) aC)))) (af (DO.toL (bN (af au (af (DO.toL (bA y49 q56 (hr.mono (by decide)) (af (aq (pvN 9 ah)) (af (aq (pvN 1 ah)) (af (aq (pvN 2 ah)) aC))))) aC)))) aC))))) (DO.toB (ap bm bL (DO.toB (am hr (ae (pvN 9 ah)) (DL.toB ac))) (DL.toB ac))))))))))))))))))
abbrev y9:Stmt:=top 17
def y61:FnScope ["_law_some","_law_world_here","_law_last","_law_rows"] ["_law_some","_law_world_here","_law_last"] (ab y9):=⟨rfl,rfl,rfl,by decide +kernel,rfl,by decide +kernel,by decide +kernel⟩
def b8:cC (ab y9) ["_law_some","_law_world_here","_law_last","_law_rows"]=true:=by decide +kernel
def y67:bt (ab y9) "len"=true:=by decide +kernel
def y65:bt (ab y9) "range"=true:=by decide +kernel
def q41:bt (ab y9) "tuple"=true:=by decide +kernel
def y79 (T:Txt P w K mg) (D:DefF K mg "_law_program" y9 ["_law_some","_law_world_here","_law_last"]) (q67:OkF P w K mg base "_law_row" 3 ["_law_cell","_law_at","_law_many","_law_world_here"] (spD K 4 (q50))):OkF P w K mg base "_law_program" 4 ["_law_some","_law_world_here","_law_last"] (spD K 3 q35):=
 fT D y61 rfl fun f cdv A outer s H E hr=>(aR (kM (nsN b8 3) (nsL b8 3) y61.nd (M:=["_law_at","_law_some","_law_world_here"]) (src:=[none,some 0,some 1]) (ts:=[0]) (CmpScope.of (N:=["_law_some","_law_world_here","_law_last","_law_rows"]) (outer:=ab y9) (by decide +kernel)) rfl (DIF.toB (da y65 T.n_range (af (DO.toL (cM y67 cL gE T.n_len eR (bU (ae (pvN 0 b8)) b9))) aC))) (fun nd _ _ _ _=>(bj (cD (N:=["_law_at","_law_some","_law_world_here"]) (i:=0) (by decide +kernel) (by decide +kernel) nd (scC (outer:=ab y9) (by exact rfl))))) (fun _ _ _ _=>dw) (fun _ _ _ _=>(DO.toL (bA (by decide +kernel) q67 (hr.mono (by decide)) (af (DO.toL (am hr (ae (pvD (N:=["_law_at","_law_some","_law_world_here"]) 1 (by decide +kernel) (scC (outer:=ab y9) rfl))) (ae (pvD (N:=["_law_at","_law_some","_law_world_here"]) 0 (by decide +kernel) (scC (outer:=ab y9) rfl))))) (af (aq (pvD (N:=["_law_at","_law_some","_law_world_here"]) 0 (by decide +kernel) (scC (outer:=ab y9) rfl))) (af (DO.toL (ap br b6 (DO.toB (cM (by decide +kernel) cL gE T.n_len eR (bU (ae (pvD (N:=["_law_at","_law_some","_law_world_here"]) 1 (by decide +kernel) (scC (outer:=ab y9) rfl))) b9) (e1:=(scC (outer:=ab y9) rfl)))) (DL.toB ac))) (af (aq (pvD (N:=["_law_at","_law_some","_law_world_here"]) 2 (by decide +kernel) (scC (outer:=ab y9) rfl))) aC)))) (e1:=(scC (outer:=ab y9) rfl))))) (by decide +kernel))
     (bD (bF (bN (af (DO.toL (ge q41 fX mM T.n_tuple kr (bU (DO.toB (am hr (ae (pvN 1 b8)) (DL.toB ac))) b9))) (af (DO.toL (ge q41 fX mM T.n_tuple kr (bU (DO.toB (am hr (ae (pvN 1 b8)) (DL.toB ac))) b9))) (af (DO.toL (ap vZ zg (DO.toB (ge q41 fX mM T.n_tuple kr (bU (ae (pvN 3 b8)) b9))) (DO.toB (bN (af (DO.toL (bN (af au (af (aq (pvN 2 b8)) aC)))) aC))))) aC)))))))
abbrev q45:Stmt:=top 2
def y94:FnScope ["number","row"] ["number","row"] (ab q45):=⟨rfl,rfl,rfl,by decide +kernel,rfl,by decide +kernel,by decide +kernel⟩
def dH:cC (ab q45) ["number","row"]=true:=by decide +kernel
def z94 (T:Txt P w K mg) (D:DefF K mg "ways_of" q45 ["number","row"]):OkF P w K mg base "ways_of" 1 ["number","row"] (spD K 2 y53):=
 fT D y94 rfl fun f cdv A outer s H E hr=>(aR (df (bp (bq hr) cr (DO.toB (am hr (ae (pvN 1 dH)) (DL.toB ac))) (DL.toB au) (aJ _)) (bD (bF (bN (af (DO.toL (am hr (ae (pvN 1 dH)) (DL.toB ac))) aC)))) cm)
     (aR (df (bp (bq hr) cr (DO.toB (am hr (ae (pvN 1 dH)) (DL.toB ac))) (DL.toB au) (aJ _)) (bD (bF (bN (af (DO.toL (am hr (ae (pvN 1 dH)) (DL.toB ac))) (af (DO.toL (ap br b6 (ae (pvN 0 dH)) (DL.toB ac))) aC))))) cm)
     (aR (df (bp (bq hr) cr (DO.toB (am hr (ae (pvN 1 dH)) (DL.toB ac))) (DL.toB au) (aJ _)) (bD (bF (bN aC))) cm)
     (bD (bF (bN (af (DO.toL (ap br b6 (ae (pvN 0 dH)) (DL.toB ac))) aC)))))))
abbrev dW:Stmt:=top 3
def z96:FnScope ["program"] ["program"] (ab dW):=⟨rfl,rfl,rfl,by decide +kernel,rfl,by decide +kernel,by decide +kernel⟩
def wn:cC (ab dW) ["program"]=true:=by decide +kernel
def q74:bt (ab dW) "enumerate"=true:=by decide +kernel
def y95 (T:Txt P w K mg) (D:DefF K mg "ways" dW ["program"]) (q72:OkF P w K mg base "ways_of" 1 ["number","row"] (spD K 2 (y53))):OkF P w K mg base "ways" 2 ["program"] (spD K 1 hX):=
 fT D z96 rfl fun f cdv A outer s H E hr=>(bD (bF (gu (M:=["number","row"]) (src:=[none,none]) (ts:=[0,1]) (CmpScope.of (N:=["program"]) (outer:=ab dW) (by decide +kernel)) rfl (DIF.toB (mP q74 T.n_enumerate (af (DO.toL (am hr (ae (pvN 0 wn)) (DL.toB ac))) aC))) (fun nd _ _ _ _=>(jv rfl (bO (bj (cD (N:=["number","row"]) (i:=0) (by decide +kernel) (by decide +kernel) nd (scC (outer:=ab dW) (by exact rfl)))) (bO (bj (cD (N:=["number","row"]) (i:=1) (by decide +kernel) (by decide +kernel) nd (scC (outer:=ab dW) (by exact rfl)))) gt)))) (fun _ _ _ _=>dw) (fun _ _ _ _=>(DO.toL (bA (by decide +kernel) q72 (hr.mono (by decide)) (af (aq (pvD (N:=["number","row"]) 0 (by decide +kernel) (scC (outer:=ab dW) rfl))) (af (aq (pvD (N:=["number","row"]) 1 (by decide +kernel) (scC (outer:=ab dW) rfl))) aC)) (e1:=(scC (outer:=ab dW) rfl))))) (by decide +kernel))))
abbrev z8:Stmt:=iz 7 0
def y69:FnScope ["self","program","letters"] ["self","program","letters"] (ab z8):=⟨rfl,rfl,rfl,by decide +kernel,rfl,by decide +kernel,by decide +kernel⟩
def aN:cC (ab z8) ["self","program","letters"]=true:=by decide +kernel
def z60:bt (ab z8) "ways"=true:=by decide +kernel
def q61:bt (ab z8) "list"=true:=by decide +kernel
def y47:bt (ab z8) "dict"=true:=by decide +kernel
def y71 (T:Txt P w K mg) (D:DefI K mg "Plain" "Plain.__init__" z8 ["self","program","letters"]) (h_ways:OkF P w K mg base "ways" 2 ["program"] (spD K 1 (hX))):OkI P w K mg base "Plain" 3 ["self","program","letters"] (spG K 3 (z22)):=
 wc D y69 rfl fun f cdv A outer s H E hr=>(aF (db (aj (pvN 0 aN)) T.f_Plain_rows (dj (am hr (ae (pvN 1 aN)) (DL.toB ac))))
     (aF (db (aj (pvN 0 aN)) T.f_Plain_onward (dj (bA z60 h_ways (hr.mono (by decide)) (af (aq (pvN 1 aN)) aC))))
     (aF (db (aj (pvN 0 aN)) T.f_Plain_incoming (kR q61 gq pf T.n_list mE (ay (aj (pvN 2 aN)) bg)))
     (aF (db (aj (pvN 0 aN)) T.f_Plain_outgoing (dj (dh aC)))
     (aF (db (aj (pvN 0 aN)) T.f_Plain_boxes (dj mO))
     (aF (db (aj (pvN 0 aN)) T.f_Plain_cells (qT y47 rfl T.n_dict qm (dj (gu (M:=["head"]) (src:=[none]) (ts:=[0]) (CmpScope.of (N:=["self","program","letters"]) (outer:=ab z8) (by decide +kernel)) rfl (mK (DO.toB (am hr (ae (pvN 1 aN)) (DL.toB ac)))) (fun nd _ _ _ _=>(bj (cD (N:=["head"]) (i:=0) (by decide +kernel) (by decide +kernel) nd (scC (outer:=ab z8) (by exact rfl))))) (fun _ _ _ _=>dw) (fun _ _ _ _=>(DO.toL (bN (af (DO.toL (am hr (ae (pvD (N:=["head"]) 0 (by decide +kernel) (scC (outer:=ab z8) rfl))) (DL.toB ac))) (af (DO.toL (am hr (ae (pvD (N:=["head"]) 0 (by decide +kernel) (scC (outer:=ab z8) rfl))) (DL.toB ac))) aC))))) (by decide +kernel)))))
     (aF (db (aj (pvN 0 aN)) T.f_Plain_shelves (qT y47 rfl T.n_dict qm (qV (M:=["head"]) (src:=[none]) (ts:=[0]) (CmpScope.of (N:=["self","program","letters"]) (outer:=ab z8) (by decide +kernel)) rfl (iL (DO.toL (am hr (ae (pvN 1 aN)) (DL.toB ac)))) (fun nd _ _ _ _=>(bj (cD (N:=["head"]) (i:=0) (by decide +kernel) (by decide +kernel) nd (scC (outer:=ab z8) (by exact rfl))))) (fun _ _ _ _=>dw) (fun _ _ _ _=>(zh (ay (ai (DO.toL (am hr (ae (pvD (N:=["head"]) 0 (by decide +kernel) (scC (outer:=ab z8) rfl))) (DL.toB ac)))) (ay (pJ (dj (dh (af ac aC))) (ai (DO.toL (am hr (ae (pvD (N:=["head"]) 0 (by decide +kernel) (scC (outer:=ab z8) rfl))) (DL.toB ac))))) bg)))) (by decide +kernel))))
     (aF (db (aj (pvN 0 aN)) T.f_Plain_place (dj (DL.toO ac)))
     (aF (db (aj (pvN 0 aN)) T.f_Plain_hears (dj (DL.toO ac)))
     (aF (db (aj (pvN 0 aN)) T.f_Plain_done (dj (DL.toO ac)))
     (aL (db (aj (pvN 0 aN)) T.f_Plain_result (dj (DL.toO kz))))))))))))))
abbrev y35:Stmt:=top 22
def y29:FnScope ["_law_program_here","_law_letters","_law_now","_law_name","_law_start","_law_twin","_law_size"] ["_law_program_here","_law_letters"] (ab y35):=⟨rfl,rfl,rfl,by decide +kernel,rfl,by decide +kernel,by decide +kernel⟩
def aM:cC (ab y35) ["_law_program_here","_law_letters","_law_now","_law_name","_law_start","_law_twin","_law_size"]=true:=by decide +kernel
def q89 (T:Txt P w K mg) (D:DefF K mg "_law_begun" y35 ["_law_program_here","_law_letters"]):OkF P w K mg base "_law_begun" 1 ["_law_program_here","_law_letters"] (spG K 2 (y44)):=
 gx D y29 rfl fun f cdv A outer s H E hr=>(aF (cJ (nsN aM 2) (nsL aM 2) y29.nd (we (fps:=[((eD (kD (.str "at"))),(eD (kD (.int 0)))),((eD (kD (.str "count"))),(eD (kD (.int 0)))),((eD (kD (.str "heard"))),(eD (kD (.int 0)))),((eD (kD (.str "answer"))),(eD (kD .non))),((eD (kD (.str "sent"))),(eN (dN aI))),((eD (kD (.str "letters"))),(eD (vL 1))),((eD (kD (.str "boxes"))),(eN g6)),((eD (kD (.str "places"))),(eN g6))]) (eJ (ai au) (ai ac) (eJ (ai au) (ai ac) (eJ (ai au) (ai ac) (eJ (ai au) (ai kz) (eJ (ai au) (dj (dh aC)) (eJ (ai au) (ai (aq (pvN 1 aM))) (eJ (ai au) (dj mO) (eJ (ai au) (dj mO) wg)))))))) rfl rfl (by simp) (by decide)))
     (aF (iQ PassesOwn.never rfl (iL (DO.toL (am hr (ae (pvN 0 aM)) (DL.toB ac)))) (jv rfl (bO (bj (bG (nsN aM 3) (nsL aM 3) y29.nd)) (bO (bj (bG (nsN aM 4) (nsL aM 4) y29.nd)) (bO (bj (bG (nsN aM 5) (nsL aM 5) y29.nd)) gt)))) (aL (d7 hr (bP hr (aj (pvN 2 aM)) (ai au)) (ai (aq (pvN 3 aM))) (dj (dh (af (aq (pvN 4 aM)) aC))))))
     (aF (iQ PassesOwn.never rfl (iL (DO.toL (am hr (ae (pvN 0 aM)) (DL.toB ac)))) (jv rfl (bO (bj (bG (nsN aM 3) (nsL aM 3) y29.nd)) (bO (bj (bG (nsN aM 6) (nsL aM 6) y29.nd)) (bO (bj (bG (nsN aM 5) (nsL aM 5) y29.nd)) gt)))) (aL (d7 hr (bP hr (aj (pvN 2 aM)) (ai au)) (ai (aq (pvN 3 aM))) (pJ (dj (dh (af ac aC))) (ai (aq (pvN 6 aM)))))))
     (aL (bB (aj (pvN 2 aM)))))))
abbrev z25:Stmt:=iz 7 8
def q81:FnScope ["self"] ["self"] (ab z25):=⟨rfl,rfl,rfl,by decide +kernel,rfl,by decide +kernel,by decide +kernel⟩
def j2:cC (ab z25) ["self"]=true:=by decide +kernel
def z80 (T:Txt P w K mg) (D:DefM K "Plain" "ended" "Plain.ended" z25 ["self"]):OkM P w K mg base "Plain" "ended" 1 ["self"] (spG K 1 (q13)):=
 cK D q81 rfl fun f cdv A outer s H E hr=>(aL (bB (jA p7 qF (cp (aj (pvN 0 j2)) T.f_Plain_result) (ai kz) (aJ _))))
abbrev y31:Stmt:=iz 7 10
def y88:FnScope ["self","name"] ["self","name"] (ab y31):=⟨rfl,rfl,rfl,by decide +kernel,rfl,by decide +kernel,by decide +kernel⟩
def iC:cC (ab y31) ["self","name"]=true:=by decide +kernel
def z87 (T:Txt P w K mg) (D:DefM K "Plain" "box" "Plain.box" y31 ["self","name"]):OkM P w K mg base "Plain" "box" 1 ["self","name"] (spG K 2 (y16)):=
 cK D y88 rfl fun f cdv A outer s H E hr=>(aL (bB (m6 hr (cp (aj (pvN 0 iC)) T.f_Plain_boxes) (ai (aq (pvN 1 iC))) (ai ac))))
abbrev z20:Stmt:=iz 7 2
def y80:FnScope ["self","atom"] ["self","atom"] (ab z20):=⟨rfl,rfl,rfl,by decide +kernel,rfl,by decide +kernel,by decide +kernel⟩
def dD:cC (ab z20) ["self","atom"]=true:=by decide +kernel
def y54:bt (ab z20) "isinstance"=true:=by decide +kernel
def z68:bt (ab z20) "str"=true:=by decide +kernel
def z83 (T:Txt P w K mg) (D:DefM K "Plain" "worth" "Plain.worth" z20 ["self","atom"]) (y18:OkM P w K mg base "Plain" "box" 1 ["self","name"] (spG K 2 (y16))):OkM P w K mg base "Plain" "worth" 2 ["self","atom"] (spG K 2 (z10)):=
 cK D y80 rfl fun f cdv A outer s H E hr=>(aL (bB (xx (cj (kB (DO.toB (gj y54 z68 T.n_isinstance T.n_str tF T.k_str (ae (pvN 1 dD)))) (fun _=>rfl))) (ca y18 (hr.mono (by decide)) (aj (pvN 0 dD)) (ay (ai (aq (pvN 1 dD))) bg) (fY (y1 bz))) (ai (aq (pvN 1 dD))))))
abbrev z13:Stmt:=iz 7 5
def q49:FnScope ["self","number"] ["self"] (ab z13):=⟨rfl,rfl,rfl,by decide +kernel,rfl,by decide +kernel,by decide +kernel⟩
def bu:cC (ab z13) ["self","number"]=true:=by decide +kernel
def z56:bt (ab z13) "len"=true:=by decide +kernel
def q64 (T:Txt P w K mg) (D:DefM K "Plain" "next_letter" "Plain.next_letter" z13 ["self"]):OkM P w K mg base "Plain" "next_letter" 1 ["self"] (spG K 1 (q28)):=
 cK D q49 rfl fun f cdv A outer s H E hr=>(aF (cJ (nsN bu 1) (nsL bu 1) q49.nd (cp (aj (pvN 0 bu)) T.f_Plain_hears))
     (aF (qU (aj (pvN 0 bu)) T.f_Plain_hears (ai ac))
     (aL (bB (xx (dk jK jQ (ai (aq (pvN 1 bu))) (uq z56 cL gE T.n_len eR (ay (cp (aj (pvN 0 bu)) T.f_Plain_incoming) bg)) (aJ _)) (bP hr (cp (aj (pvN 0 bu)) T.f_Plain_incoming) (ai (aq (pvN 1 bu)))) (ai ac))))))
abbrev y39:Stmt:=top 4
def q90:FnScope ["sign","one","other"] ["sign","one","other"] (ab y39):=⟨rfl,rfl,rfl,by decide +kernel,rfl,by decide +kernel,by decide +kernel⟩
def aT:cC (ab y39) ["sign","one","other"]=true:=by decide +kernel
def z90 (T:Txt P w K mg) (D:DefF K mg "number_of" y39 ["sign","one","other"]):OkF P w K mg base "number_of" 1 ["sign","one","other"] (spD K 3 q17):=
 fT D q90 rfl fun f cdv A outer s H E hr=>(aR (df (bp (bq hr) cr (ae (pvN 0 aT)) (DL.toB au) (aJ _)) (bD (bF (ap br b6 (ae (pvN 1 aT)) (ae (pvN 2 aT))))) cm)
     (aR (df (bp (bq hr) cr (ae (pvN 0 aT)) (DL.toB au) (aJ _)) (bD (bF (ap gK jP (ae (pvN 1 aT)) (ae (pvN 2 aT))))) cm)
     (aR (df (bp (bq hr) cr (ae (pvN 0 aT)) (DL.toB au) (aJ _)) (bD (bF (ap fw gZ (ae (pvN 1 aT)) (ae (pvN 2 aT))))) cm)
     (aR (df (bp (bq hr) cr (ae (pvN 0 aT)) (DL.toB au) (aJ _)) (bD (bF (xj (bp jK jQ (ae (pvN 1 aT)) (ae (pvN 2 aT)) (aJ _)) (DL.toO ac) (DL.toO ac)))) cm)
     (aR (df (bp (bq hr) cr (ae (pvN 0 aT)) (DL.toB au) (aJ _)) (bD (bF (xj (bp (bq hr) cr (ae (pvN 1 aT)) (ae (pvN 2 aT)) (aJ _)) (DL.toO ac) (DL.toO ac)))) cm)
     (aR (df (bp (bq hr) cr (ae (pvN 0 aT)) (DL.toB au) (aJ _)) (bD (bF (ap sM jw (ae (pvN 1 aT)) (ae (pvN 2 aT))))) cm)
     (aR (df (bp (bq hr) cr (ae (pvN 0 aT)) (DL.toB au) (aJ _)) (bD (bF (ap wW jw (ae (pvN 1 aT)) (ae (pvN 2 aT))))) cm)
     (bD (bF (ap sN jw (ae (pvN 1 aT)) (ae (pvN 2 aT))))))))))))
abbrev y46:Stmt:=top 5
def q95:FnScope ["sign","one","other"] ["sign","one","other"] (ab y46):=⟨rfl,rfl,rfl,by decide +kernel,rfl,by decide +kernel,by decide +kernel⟩
def kW:cC (ab y46) ["sign","one","other"]=true:=by decide +kernel
def z71:bt (ab y46) "number_of"=true:=by decide +kernel
def z89:bt (ab y46) "WIDE"=true:=by decide +kernel
def z95 (T:Txt P w K mg) (D:DefF K mg "value" y46 ["sign","one","other"]) (z63:OkF P w K mg base "number_of" 1 ["sign","one","other"] (spD K 3 (q17))):OkF P w K mg base "value" 2 ["sign","one","other"] (spD K 3 q44):=
 fT D q95 rfl fun f cdv A outer s H E hr=>(bD (bF (ap bm bL (DO.toB (bA z71 z63 (hr.mono (by decide)) (af (aq (pvN 0 kW)) (af (aq (pvN 1 kW)) (af (aq (pvN 2 kW)) aC))))) (DL.toB (vO z89 T.g_WIDE)))))
abbrev z17:Stmt:=iz 7 4
def y58:FnScope ["self","row","places"] ["self","row"] (ab z17):=⟨rfl,rfl,rfl,by decide +kernel,rfl,by decide +kernel,by decide +kernel⟩
def aG:cC (ab z17) ["self","row","places"]=true:=by decide +kernel
def y62:bt (ab z17) "value"=true:=by decide +kernel
def y66:bt (ab z17) "len"=true:=by decide +kernel
def y75 (T:Txt P w K mg) (D:DefM K "Plain" "set_by" "Plain.set_by" z17 ["self","row"]) (y41:OkM P w K mg base "Plain" "next_letter" 1 ["self"] (spG K 1 (q28))) (y10:OkM P w K mg base "Plain" "worth" 2 ["self","atom"] (spG K 2 (z10))) (q84:OkF P w K mg base "value" 2 ["sign","one","other"] (spD K 3 (q44))):OkM P w K mg base "Plain" "set_by" 3 ["self","row"] (spG K 2 (z38)):=
 cK D y58 rfl fun f cdv A outer s H E hr=>(aF (cf (cj (bp (bq hr) cr (DO.toB (am hr (ae (pvN 1 aG)) (DL.toB ac))) (DL.toB au) (aJ _))) (aL (bB (ca y10 (hr.mono (by decide)) (aj (pvN 0 aG)) (ay (ai (DO.toL (am hr (ae (pvN 1 aG)) (DL.toB ac)))) bg) (fY (y1 bz))))) cb)
     (aF (cf (cj (bp (bq hr) cr (DO.toB (am hr (ae (pvN 1 aG)) (DL.toB ac))) (DL.toB au) (aJ _))) (aL (bB (oq y62 q84 (hr.mono (by decide)) (ay (ai (DO.toL (am hr (ae (pvN 1 aG)) (DL.toB ac)))) (ay (ca y10 (hr.mono (by decide)) (aj (pvN 0 aG)) (ay (ai (DO.toL (am hr (ae (pvN 1 aG)) (DL.toB ac)))) bg) (fY (y1 bz))) (ay (ca y10 (hr.mono (by decide)) (aj (pvN 0 aG)) (ay (ai (DO.toL (am hr (ae (pvN 1 aG)) (DL.toB ac)))) bg) (fY (y1 bz))) bg))) (y1 (y1 (y1 bz)))))) cb)
     (aF (cf (cj (bp (bq hr) cr (DO.toB (am hr (ae (pvN 1 aG)) (DL.toB ac))) (DL.toB au) (aJ _))) (aL (bB (bP hr (cp (aj (pvN 0 aG)) T.f_Plain_cells) (ai (DO.toL (am hr (ae (pvN 1 aG)) (DL.toB ac))))))) cb)
     (aF (cf (cj (bp (bq hr) cr (DO.toB (am hr (ae (pvN 1 aG)) (DL.toB ac))) (DL.toB au) (aJ _))) (aF (cJ (nsN aG 2) (nsL aG 2) y58.nd (bP hr (cp (aj (pvN 0 aG)) T.f_Plain_shelves) (ai (DO.toL (am hr (ae (pvN 1 aG)) (DL.toB ac))))))
     (aL (bB (bP hr (aj (pvN 2 aG)) (fK bm bL (ca y10 (hr.mono (by decide)) (aj (pvN 0 aG)) (ay (ai (DO.toL (am hr (ae (pvN 1 aG)) (DL.toB ac)))) bg) (fY (y1 bz))) (ai (DO.toL (cM y66 cL gE T.n_len eR (bU (ae (pvN 2 aG)) b9))))))))) cb)
     (aL (bB (bQ y41 (hr.mono (by decide)) (aj (pvN 0 aG)))))))))
abbrev q21:Stmt:=iz 7 3
def z59:FnScope ["self","row","places"] ["self","row"] (ab q21):=⟨rfl,rfl,rfl,by decide +kernel,rfl,by decide +kernel,by decide +kernel⟩
def aA:cC (ab q21) ["self","row","places"]=true:=by decide +kernel
def q66:bt (ab q21) "len"=true:=by decide +kernel
def y78 (T:Txt P w K mg) (D:DefM K "Plain" "do_row" "Plain.do_row" q21 ["self","row"]) (y10:OkM P w K mg base "Plain" "worth" 2 ["self","atom"] (spG K 2 (z10))) (y50:OkM P w K mg base "Plain" "set_by" 3 ["self","row"] (spG K 2 (z38))):OkM P w K mg base "Plain" "do_row" 4 ["self","row"] (spG K 2 (z14)):=
 cK D z59 rfl fun f cdv A outer s H E hr=>(aL (cf (cj (bp (bq hr) cr (DO.toB (am hr (ae (pvN 1 aA)) (DL.toB ac))) (DL.toB au) (aJ _))) (aL (d7 hr (cp (aj (pvN 0 aA)) T.f_Plain_cells) (ai (DO.toL (am hr (ae (pvN 1 aA)) (DL.toB ac)))) (ca y10 (hr.mono (by decide)) (aj (pvN 0 aA)) (ay (ai (DO.toL (am hr (ae (pvN 1 aA)) (DL.toB ac)))) bg) (fY (y1 bz))))) (aL (cf (cj (bp (bq hr) cr (DO.toB (am hr (ae (pvN 1 aA)) (DL.toB ac))) (DL.toB au) (aJ _))) (aF (cJ (nsN aA 2) (nsL aA 2) z59.nd (bP hr (cp (aj (pvN 0 aA)) T.f_Plain_shelves) (ai (DO.toL (am hr (ae (pvN 1 aA)) (DL.toB ac))))))
     (aL (d7 hr (aj (pvN 2 aA)) (fK bm bL (ca y10 (hr.mono (by decide)) (aj (pvN 0 aA)) (ay (ai (DO.toL (am hr (ae (pvN 1 aA)) (DL.toB ac)))) bg) (fY (y1 bz))) (ai (DO.toL (cM q66 cL gE T.n_len eR (bU (ae (pvN 2 aA)) b9))))) (ca y10 (hr.mono (by decide)) (aj (pvN 0 aA)) (ay (ai (DO.toL (am hr (ae (pvN 1 aA)) (DL.toB ac)))) bg) (fY (y1 bz)))))) (aL (cf (cj (bp (bq hr) cr (DO.toB (am hr (ae (pvN 1 aA)) (DL.toB ac))) (DL.toB au) (aJ _))) (aL (mf (cp (aj (pvN 0 aA)) T.f_Plain_outgoing) (ca y10 (hr.mono (by decide)) (aj (pvN 0 aA)) (ay (ai (DO.toL (am hr (ae (pvN 1 aA)) (DL.toB ac)))) bg) (fY (y1 bz))))) (aL (cf (cj (DW.t (yA (bp (di hr) iw (DO.toB (am hr (ae (pvN 1 aA)) (DL.toB ac))) (DL.toB au) (aJ _)) (vD (bp (di hr) iw (DO.toB (am hr (ae (pvN 1 aA)) (DL.toB ac))) (DL.toB au) (aJ _)))))) (aL (d7 hr (cp (aj (pvN 0 aA)) T.f_Plain_boxes) (ai (DO.toL (am hr (ae (pvN 1 aA)) (DL.toB ac)))) (ca y50 (hr.mono (by decide)) (aj (pvN 0 aA)) (ay (ai (aq (pvN 1 aA))) bg) (fY (y1 bz))))) cb))))))))
abbrev y14:Stmt:=iz 7 6
def z48:FnScope ["self","row","onward"] ["self","row"] (ab y14):=⟨rfl,rfl,rfl,by decide +kernel,rfl,by decide +kernel,by decide +kernel⟩
def bd:cC (ab y14) ["self","row","onward"]=true:=by decide +kernel
def z62 (T:Txt P w K mg) (D:DefM K "Plain" "place_behind" "Plain.place_behind" y14 ["self","row"]) (y10:OkM P w K mg base "Plain" "worth" 2 ["self","atom"] (spG K 2 (z10))):OkM P w K mg base "Plain" "place_behind" 3 ["self","row"] (spG K 2 (y12)):=
 cK D z48 rfl fun f cdv A outer s H E hr=>(aF (cJ (nsN bd 2) (nsL bd 2) z48.nd (bP hr (cp (aj (pvN 0 bd)) T.f_Plain_onward) (cp (aj (pvN 0 bd)) T.f_Plain_place)))
     (aF (cf (GW.t (uo (cj (bp (bq hr) cr (DO.toB (am hr (ae (pvN 1 bd)) (DL.toB ac))) (DL.toB au) (aJ _))) (qP (dk (bq hr) cr (ca y10 (hr.mono (by decide)) (aj (pvN 0 bd)) (ay (ai (DO.toL (am hr (ae (pvN 1 bd)) (DL.toB ac)))) bg) (fY (y1 bz))) (ai ac) (aJ _))))) (aL (bB (ai (DO.toL (am hr (ae (pvN 2 bd)) (DL.toB ac)))))) cb)
     (aL (bB (ai (DO.toL (am hr (ae (pvN 2 bd)) (DL.toB ac))))))))
abbrev q30:Stmt:=iz 7 1
def z65:FnScope ["self","row"] ["self"] (ab q30):=⟨rfl,rfl,rfl,by decide +kernel,rfl,by decide +kernel,by decide +kernel⟩
def bh:cC (ab q30) ["self","row"]=true:=by decide +kernel
def z86 (T:Txt P w K mg) (D:DefM K "Plain" "step" "Plain.step" q30 ["self"]) (q19:OkM P w K mg base "Plain" "ended" 1 ["self"] (spG K 1 (q13))) (y10:OkM P w K mg base "Plain" "worth" 2 ["self","atom"] (spG K 2 (z10))) (z50:OkM P w K mg base "Plain" "do_row" 4 ["self","row"] (spG K 2 (z14))) (q40:OkM P w K mg base "Plain" "place_behind" 3 ["self","row"] (spG K 2 (y12))):OkM P w K mg base "Plain" "step" 5 ["self"] (spG K 1 (z12)):=
 cK D z65 rfl fun f cdv A outer s H E hr=>(aF (cf (je (bQ q19 (hr.mono (by decide)) (aj (pvN 0 bh))) (fun _=>rfl)) (aL qO) cb)
     (aF (cJ (nsN bh 1) (nsL bh 1) z65.nd (bP hr (cp (aj (pvN 0 bh)) T.f_Plain_rows) (cp (aj (pvN 0 bh)) T.f_Plain_place)))
     (aF (qU (aj (pvN 0 bh)) T.f_Plain_done (ai ac))
     (aL (cf (cj (bp (bq hr) cr (DO.toB (am hr (ae (pvN 1 bh)) (DL.toB ac))) (DL.toB au) (aJ _))) (aL (db (aj (pvN 0 bh)) T.f_Plain_result (ca y10 (hr.mono (by decide)) (aj (pvN 0 bh)) (ay (ai (DO.toL (am hr (ae (pvN 1 bh)) (DL.toB ac)))) bg) (fY (y1 bz))))) (aF (jd (ca z50 (hr.mono (by decide)) (aj (pvN 0 bh)) (ay (ai (aq (pvN 1 bh))) bg) (fY (y1 bz))))
     (aL (db (aj (pvN 0 bh)) T.f_Plain_place (ca q40 (hr.mono (by decide)) (aj (pvN 0 bh)) (ay (ai (aq (pvN 1 bh))) bg) (fY (y1 bz)))))))))))
abbrev z24:Stmt:=iz 7 13
def y84:FnScope ["self"] ["self"] (ab z24):=⟨rfl,rfl,rfl,by decide +kernel,rfl,by decide +kernel,by decide +kernel⟩
def kX:cC (ab z24) ["self"]=true:=by decide +kernel
def q69:bt (ab z24) "list"=true:=by decide +kernel
def q85 (T:Txt P w K mg) (D:DefM K "Plain" "sent" "Plain.sent" z24 ["self"]):OkM P w K mg base "Plain" "sent" 1 ["self"] (spG K 1 (q16)):=
 cK D y84 rfl fun f cdv A outer s H E hr=>(aL (bB (kR q69 gq pf T.n_list mE (ay (cp (aj (pvN 0 kX)) T.f_Plain_outgoing) bg))))
abbrev z23:Stmt:=iz 7 7
def z76:FnScope ["self"] ["self"] (ab z23):=⟨rfl,rfl,rfl,by decide +kernel,rfl,by decide +kernel,by decide +kernel⟩
def jC:cC (ab z23) ["self"]=true:=by decide +kernel
def y76 (T:Txt P w K mg) (D:DefM K "Plain" "stands" "Plain.stands" z23 ["self"]):OkM P w K mg base "Plain" "stands" 1 ["self"] (spG K 1 (q14)):=
 cK D z76 rfl fun f cdv A outer s H E hr=>(aL (bB (cp (aj (pvN 0 jC)) T.f_Plain_place)))
abbrev q26:Stmt:=iz 7 15
def q80:FnScope ["self"] ["self"] (ab q26):=⟨rfl,rfl,rfl,by decide +kernel,rfl,by decide +kernel,by decide +kernel⟩
def j3:cC (ab q26) ["self"]=true:=by decide +kernel
def y83 (T:Txt P w K mg) (D:DefM K "Plain" "count" "Plain.count" q26 ["self"]):OkM P w K mg base "Plain" "count" 1 ["self"] (spG K 1 (q15)):=
 cK D q80 rfl fun f cdv A outer s H E hr=>(aL (bB (cp (aj (pvN 0 j3)) T.f_Plain_done)))
abbrev z26:Stmt:=iz 7 14
def z82:FnScope ["self"] ["self"] (ab z26):=⟨rfl,rfl,rfl,by decide +kernel,rfl,by decide +kernel,by decide +kernel⟩
def j4:cC (ab z26) ["self"]=true:=by decide +kernel
def z81 (T:Txt P w K mg) (D:DefM K "Plain" "heard" "Plain.heard" z26 ["self"]):OkM P w K mg base "Plain" "heard" 1 ["self"] (spG K 1 (q20)):=
 cK D z82 rfl fun f cdv A outer s H E hr=>(aL (bB (cp (aj (pvN 0 j4)) T.f_Plain_hears)))
abbrev q12:Stmt:=top 24
def y64:FnScope ["_law_run","_law_boxes","_law_some"] ["_law_run","_law_boxes"] (ab q12):=⟨rfl,rfl,rfl,by decide +kernel,rfl,by decide +kernel,by decide +kernel⟩
def b5:cC (ab q12) ["_law_run","_law_boxes","_law_some"]=true:=by decide +kernel
def y70:bt (ab q12) "all"=true:=by decide +kernel
def z85 (T:Txt P w K mg) (D:DefF K mg "_law_wholes" q12 ["_law_run","_law_boxes"]) (y24:OkM P w K mg base "Plain" "sent" 1 ["self"] (spG K 1 (q16))) (y18:OkM P w K mg base "Plain" "box" 1 ["self","name"] (spG K 2 (y16))) (y20:OkM P w K mg base "Plain" "stands" 1 ["self"] (spG K 1 (q14))) (q22:OkM P w K mg base "Plain" "count" 1 ["self"] (spG K 1 (q15))) (y33:OkM P w K mg base "Plain" "heard" 1 ["self"] (spG K 1 (q20))):OkF P w K mg base "_law_wholes" 2 ["_law_run","_law_boxes"] (spG K 2 (y37)):=
 gx D y64 rfl fun f cdv A outer s H E hr=>(aF (cJ (nsN b5 2) (nsL b5 2) y64.nd (fK br b6 (fK br b6 (pB (ay (bQ y20 (hr.mono (by decide)) (aj (pvN 0 b5))) (ay (bQ q22 (hr.mono (by decide)) (aj (pvN 0 b5))) (ay (bQ y33 (hr.mono (by decide)) (aj (pvN 0 b5))) bg)))) (bQ y24 (hr.mono (by decide)) (aj (pvN 0 b5)))) (qV (M:=["_law_name","_law_run"]) (src:=[none,some 0]) (ts:=[0]) (CmpScope.of (N:=["_law_run","_law_boxes","_law_some"]) (outer:=ab q12) (by decide +kernel)) rfl (iL (aq (pvN 1 b5))) (fun nd _ _ _ _=>(bj (cD (N:=["_law_name","_law_run"]) (i:=0) (by decide +kernel) (by decide +kernel) nd (scC (outer:=ab q12) (by exact rfl))))) (fun _ _ _ _=>dw) (fun _ _ _ _=>(ca y18 (hr.mono (by decide)) (aj (pvD (N:=["_law_name","_law_run"]) 1 (by decide +kernel) (scC (outer:=ab q12) rfl))) (ay (ai (aq (pvD (N:=["_law_name","_law_run"]) 0 (by decide +kernel) (scC (outer:=ab q12) rfl)))) bg) (fY (y1 bz)))) (by decide +kernel))))
     (aL (bB (ai (DO.toL (cM y70 (tE rfl) (Ax (f:=fun bs=>bs.all id)) T.n_all yv (bU (DO.toB (gu (M:=["_law_one"]) (src:=[none]) (ts:=[0]) (CmpScope.of (N:=["_law_run","_law_boxes","_law_some"]) (outer:=ab q12) (by decide +kernel)) rfl (mK (ae (pvN 2 b5))) (fun nd _ _ _ _=>(bj (cD (N:=["_law_one"]) (i:=0) (by decide +kernel) (by decide +kernel) nd (scC (outer:=ab q12) (by exact rfl))))) (fun _ _ _ _=>dw) (fun _ _ _ _=>(DO.toL (yF (DO.toB (gj (by decide +kernel) (by decide +kernel) T.n_isinstance T.n_int mD T.k_int (ae (pvD (N:=["_law_one"]) 0 (by decide +kernel) (scC (outer:=ab q12) rfl))) (e1:=(scC (outer:=ab q12) rfl)))) (yE (yD (DO.toB (gj (by decide +kernel) (by decide +kernel) T.n_isinstance T.n_bool ql T.k_bool (ae (pvD (N:=["_law_one"]) 0 (by decide +kernel) (scC (outer:=ab q12) rfl))) (e1:=(scC (outer:=ab q12) rfl))))))))) (by decide +kernel))) b9)))))))
abbrev y22:Stmt:=iz 7 9
def q77:FnScope ["self"] ["self"] (ab y22):=⟨rfl,rfl,rfl,by decide +kernel,rfl,by decide +kernel,by decide +kernel⟩
def jD:cC (ab y22) ["self"]=true:=by decide +kernel
def z77 (T:Txt P w K mg) (D:DefM K "Plain" "answer" "Plain.answer" y22 ["self"]):OkM P w K mg base "Plain" "answer" 1 ["self"] (spG K 1 (q23)):=
 cK D q77 rfl fun f cdv A outer s H E hr=>(aL (bB (cp (aj (pvN 0 jD)) T.f_Plain_result)))
abbrev y21:Stmt:=iz 7 12
def y82:FnScope ["self","name"] ["self","name"] (ab y21):=⟨rfl,rfl,rfl,by decide +kernel,rfl,by decide +kernel,by decide +kernel⟩
def gF:cC (ab y21) ["self","name"]=true:=by decide +kernel
def z66:bt (ab y21) "list"=true:=by decide +kernel
def y81 (T:Txt P w K mg) (D:DefM K "Plain" "shelf" "Plain.shelf" y21 ["self","name"]):OkM P w K mg base "Plain" "shelf" 1 ["self","name"] (spG K 2 (y34)):=
 cK D y82 rfl fun f cdv A outer s H E hr=>(aL (bB (kR z66 gq pf T.n_list mE (ay (bP hr (cp (aj (pvN 0 gF)) T.f_Plain_shelves) (ai (aq (pvN 1 gF)))) bg))))
abbrev z30:Stmt:=iz 7 11
def y85:FnScope ["self","name"] ["self","name"] (ab z30):=⟨rfl,rfl,rfl,by decide +kernel,rfl,by decide +kernel,by decide +kernel⟩
def hZ:cC (ab z30) ["self","name"]=true:=by decide +kernel
def z84 (T:Txt P w K mg) (D:DefM K "Plain" "cell" "Plain.cell" z30 ["self","name"]):OkM P w K mg base "Plain" "cell" 1 ["self","name"] (spG K 2 (z37)):=
 cK D y85 rfl fun f cdv A outer s H E hr=>(aL (bB (bP hr (cp (aj (pvN 0 hZ)) T.f_Plain_cells) (ai (aq (pvN 1 hZ))))))
abbrev y26:Stmt:=top 25
def q29:FnScope ["_law_run","_law_now","_law_program_here","_law_boxes","_law_name","_law_start","_law_twin","_law_size","_law_found"] ["_law_run","_law_now","_law_program_here","_law_boxes"] (ab y26):=⟨rfl,rfl,rfl,by decide +kernel,rfl,by decide +kernel,by decide +kernel⟩
def ao:cC (ab y26) ["_law_run","_law_now","_law_program_here","_law_boxes","_law_name","_law_start","_law_twin","_law_size","_law_found"]=true:=by decide +kernel
def y57:bt (ab y26) "_law_wholes"=true:=by decide +kernel
def y60:bt (ab y26) "isinstance"=true:=by decide +kernel
def y73:bt (ab y26) "bool"=true:=by decide +kernel
def y92 (T:Txt P w K mg) (D:DefF K mg "_law_same" y26 ["_law_run","_law_now","_law_program_here","_law_boxes"]) (q19:OkM P w K mg base "Plain" "ended" 1 ["self"] (spG K 1 (q13))) (q55:OkF P w K mg base "_law_wholes" 2 ["_law_run","_law_boxes"] (spG K 2 (y37))) (y20:OkM P w K mg base "Plain" "stands" 1 ["self"] (spG K 1 (q14))) (q22:OkM P w K mg base "Plain" "count" 1 ["self"] (spG K 1 (q15))) (y33:OkM P w K mg base "Plain" "heard" 1 ["self"] (spG K 1 (q20))) (y24:OkM P w K mg base "Plain" "sent" 1 ["self"] (spG K 1 (q16))) (y32:OkM P w K mg base "Plain" "answer" 1 ["self"] (spG K 1 (q23))) (y52:OkM P w K mg base "Plain" "shelf" 1 ["self","name"] (spG K 2 (y34))) (y18:OkM P w K mg base "Plain" "box" 1 ["self","name"] (spG K 2 (y16))) (q54:OkM P w K mg base "Plain" "cell" 1 ["self","name"] (spG K 2 (z37))):OkF P w K mg base "_law_same" 3 ["_law_run","_law_now","_law_program_here","_law_boxes"] (spG K 4 (y38)):=
 gx D q29 rfl fun f cdv A outer s H E hr=>(aF (cf (pD (je (cu y57 q55 (hr.mono (by decide)) (ay (aj (pvN 0 ao)) (ay (ai (aq (pvN 3 ao))) bg)) (y1 (y1 bz))) (fun _=>rfl))) (aL (bB (ai gW))) cb)
     (aF (cf (GW.t (kQ (dk (di hr) iw (bQ y20 (hr.mono (by decide)) (aj (pvN 0 ao))) (bP hr (aj (pvN 1 ao)) (ai au)) (aJ _)) (kQ (dk (di hr) iw (bQ q22 (hr.mono (by decide)) (aj (pvN 0 ao))) (bP hr (aj (pvN 1 ao)) (ai au)) (aJ _)) (mY (dk (di hr) iw (bQ y33 (hr.mono (by decide)) (aj (pvN 0 ao))) (bP hr (aj (pvN 1 ao)) (ai au)) (aJ _)))))) (aL (bB (ai gW))) cb)
     (aF (cf (GW.t (kQ (dk (di hr) iw (bQ y24 (hr.mono (by decide)) (aj (pvN 0 ao))) (bP hr (aj (pvN 1 ao)) (ai au)) (aJ _)) (mY (dk (di hr) iw (bQ y32 (hr.mono (by decide)) (aj (pvN 0 ao))) (bP hr (aj (pvN 1 ao)) (ai au)) (aJ _))))) (aL (bB (ai gW))) cb)
     (aF (iQ PassesOwn.never rfl (iL (DO.toL (am hr (ae (pvN 2 ao)) (DL.toB ac)))) (jv rfl (bO (bj (bG (nsN ao 4) (nsL ao 4) q29.nd)) (bO (bj (bG (nsN ao 5) (nsL ao 5) q29.nd)) (bO (bj (bG (nsN ao 6) (nsL ao 6) q29.nd)) gt)))) (aL (cf (dk (di hr) iw (pB (ay (ca q54 (hr.mono (by decide)) (aj (pvN 0 ao)) (ay (ai (aq (pvN 4 ao))) bg) (fY (y1 bz))) bg)) (bP hr (bP hr (aj (pvN 1 ao)) (ai au)) (ai (aq (pvN 4 ao)))) (aJ _)) (aL (bB (ai gW))) cb)))
     (aF (iQ PassesOwn.never rfl (iL (DO.toL (am hr (ae (pvN 2 ao)) (DL.toB ac)))) (jv rfl (bO (bj (bG (nsN ao 4) (nsL ao 4) q29.nd)) (bO (bj (bG (nsN ao 7) (nsL ao 7) q29.nd)) (bO (bj (bG (nsN ao 6) (nsL ao 6) q29.nd)) gt)))) (aL (cf (dk (di hr) iw (ca y52 (hr.mono (by decide)) (aj (pvN 0 ao)) (ay (ai (aq (pvN 4 ao))) bg) (fY (y1 bz))) (bP hr (bP hr (aj (pvN 1 ao)) (ai au)) (ai (aq (pvN 4 ao)))) (aJ _)) (aL (bB (ai gW))) cb)))
     (aF (iQ PassesOwn.never rfl (iL (aq (pvN 3 ao))) (bj (bG (nsN ao 4) (nsL ao 4) q29.nd)) (aL (cf (dk (di hr) iw (ca y18 (hr.mono (by decide)) (aj (pvN 0 ao)) (ay (ai (aq (pvN 4 ao))) bg) (fY (y1 bz))) (m6 hr (bP hr (aj (pvN 1 ao)) (ai au)) (ai (aq (pvN 4 ao))) (ai ac)) (aJ _)) (aL (bB (ai gW))) cb)))
     (aF (cJ (nsN ao 8) (nsL ao 8) q29.nd (bQ q19 (hr.mono (by decide)) (aj (pvN 0 ao))))
     (aL (bB (pG (ai (DO.toL (gj y60 y73 T.n_isinstance T.n_bool ql T.k_bool (ae (pvN 8 ao))))) (pF (jA (bq hr) cr (ai (aq (pvN 8 ao))) (jA p7 qF (bP hr (aj (pvN 1 ao)) (ai au)) (ai kz) (aJ _)) (aJ _)))))))))))))
abbrev q31:Stmt:=top 23
def z36:FnScope ["_law_names_here","_law_cell","_law_x","_law_y","_law_rounds","_law_rows","_law_run","_law_k"] ["_law_names_here","_law_cell"] (ab q31):=⟨rfl,rfl,rfl,by decide +kernel,rfl,by decide +kernel,by decide +kernel⟩
def az:cC (ab q31) ["_law_names_here","_law_cell","_law_x","_law_y","_law_rounds","_law_rows","_law_run","_law_k"]=true:=by decide +kernel
def z70:bt (ab q31) "Plain"=true:=by decide +kernel
def q71:bt (ab q31) "range"=true:=by decide +kernel
def z91 (T:Txt P w K mg) (D:DefF K mg "_law_long" q31 ["_law_names_here","_law_cell"]) (z29:OkI P w K mg base "Plain" 3 ["self","program","letters"] (spG K 3 (z22))) (z33:OkM P w K mg base "Plain" "step" 5 ["self"] (spG K 1 (z12))) (y20:OkM P w K mg base "Plain" "stands" 1 ["self"] (spG K 1 (q14))) (q19:OkM P w K mg base "Plain" "ended" 1 ["self"] (spG K 1 (q13))) (y18:OkM P w K mg base "Plain" "box" 1 ["self","name"] (spG K 2 (y16))) (q22:OkM P w K mg base "Plain" "count" 1 ["self"] (spG K 1 (q15))) (y32:OkM P w K mg base "Plain" "answer" 1 ["self"] (spG K 1 (q23))) (y24:OkM P w K mg base "Plain" "sent" 1 ["self"] (spG K 1 (q16))):OkF P w K mg base "_law_long" 6 ["_law_names_here","_law_cell"] (spG K 2 (q48)):=
 gx D z36 rfl fun f cdv A outer s H E hr=>(aF (zi (DO.toL (fH (ae (pvN 0 az)) il (fU (DL.toB ac)))) (zn rfl (bO (bj (bG (nsN az 2) (nsL az 2) z36.nd)) (bO (bj (bG (nsN az 3) (nsL az 3) z36.nd)) gt))))
     (aF (cJ (nsN az 4) (nsL az 4) z36.nd (ai (DO.toL (ap br b6 (DL.toB ac) (DO.toB (ap bm bL (ae (pvN 1 az)) (DL.toB ac)))))))
     (aF (cJ (nsN az 5) (nsL az 5) z36.nd (ai (DO.toL (bN (af (DO.toL (bN (af au (af (aq (pvN 2 az)) (af au (af (aq (pvN 2 az)) (af ac aC))))))) (af (DO.toL (bN (af au (af (aq (pvN 3 az)) (af au (af (aq (pvN 2 az)) (af (aq (pvN 4 az)) aC))))))) (af (DO.toL (bN (af au (af (aq (pvN 3 az)) (af ac aC))))) (af (DO.toL (bN (af au (af (aq (pvN 3 az)) aC)))) (af (DO.toL (bN (af au (af (aq (pvN 2 az)) aC)))) aC)))))))))
     (aF (cJ (nsN az 6) (nsL az 6) z36.nd (qS z70 z29 (hr.mono (by decide)) (ay (ai (DO.toL (bN (af (DO.toL (bN aC)) (af (DO.toL (bN aC)) (af (aq (pvN 5 az)) aC)))))) (ay (ai (DO.toL (dh aC))) bg)) (fY (y1 (y1 bz)))))
     (aF (iQ PassesOwn.never rfl (da q71 T.n_range (af (DO.toL (ap br b6 (DO.toB (ap fw gZ (DL.toB ac) (ae (pvN 4 az)))) (DL.toB ac))) aC)) (bj (bG (nsN az 7) (nsL az 7) z36.nd)) (aL (jd (bQ z33 (hr.mono (by decide)) (aj (pvN 6 az))))))
     (aF (cf (GW.t (kQ (dk (di hr) iw (bQ y20 (hr.mono (by decide)) (aj (pvN 6 az))) (ai ac) (aJ _)) (kQ (dk sj uj (bQ q19 (hr.mono (by decide)) (aj (pvN 6 az))) (ai gW) (aJ _)) (kQ (dk (di hr) iw (ca y18 (hr.mono (by decide)) (aj (pvN 6 az)) (ay (ai (aq (pvN 2 az))) bg) (fY (y1 bz))) (ai (aq (pvN 4 az))) (aJ _)) (mY (dk (di hr) iw (bQ q22 (hr.mono (by decide)) (aj (pvN 6 az))) (ai (DO.toL (ap br b6 (DO.toB (ap fw gZ (DL.toB ac) (ae (pvN 4 az)))) (DL.toB ac)))) (aJ _))))))) (aL (bB (ai gW))) cb)
     (aF (jd (bQ z33 (hr.mono (by decide)) (aj (pvN 6 az))))
     (aL (bB (pG (jA zf Bs (bQ q19 (hr.mono (by decide)) (aj (pvN 6 az))) (ai gW) (aJ _)) (pG (jA (bq hr) cr (bQ y32 (hr.mono (by decide)) (aj (pvN 6 az))) (ai (aq (pvN 4 az))) (aJ _)) (pF (jA (bq hr) cr (bQ y24 (hr.mono (by decide)) (aj (pvN 6 az))) (ai (DO.toL (dh (af ac aC)))) (aJ _))))))))))))))
abbrev y27:Stmt:=top 19
def q87:FnScope ["_law_atom_here","_law_now"] ["_law_atom_here","_law_now"] (ab y27):=⟨rfl,rfl,rfl,by decide +kernel,rfl,by decide +kernel,by decide +kernel⟩
def d9:cC (ab y27) ["_law_atom_here","_law_now"]=true:=by decide +kernel
def q59:bt (ab y27) "isinstance"=true:=by decide +kernel
def z73:bt (ab y27) "str"=true:=by decide +kernel
def y87 (T:Txt P w K mg) (D:DefF K mg "_law_worth" y27 ["_law_atom_here","_law_now"]):OkF P w K mg base "_law_worth" 1 ["_law_atom_here","_law_now"] (spG K 2 (z11)):=
 gx D q87 rfl fun f cdv A outer s H E hr=>(aF (cf (cj (kB (DO.toB (gj q59 z73 T.n_isinstance T.n_str tF T.k_str (ae (pvN 0 d9)))) (fun _=>rfl))) (aL (bB (m6 hr (bP hr (aj (pvN 1 d9)) (ai au)) (ai (aq (pvN 0 d9))) (ai ac)))) cb)
     (aL (bB (ai (aq (pvN 0 d9))))))
abbrev q32:Stmt:=top 18
def z67:FnScope ["_law_sign","_law_one","_law_other","_law_some"] ["_law_sign","_law_one","_law_other"] (ab q32):=⟨rfl,rfl,rfl,by decide +kernel,rfl,by decide +kernel,by decide +kernel⟩
def aQ:cC (ab q32) ["_law_sign","_law_one","_law_other","_law_some"]=true:=by decide +kernel
def y55:bt (ab q32) "int"=true:=by decide +kernel
def q88 (T:Txt P w K mg) (D:DefF K mg "_law_value" q32 ["_law_sign","_law_one","_law_other"]):OkF P w K mg base "_law_value" 1 ["_law_sign","_law_one","_law_other"] (spD K 3 y15):=
 fT D z67 rfl fun f cdv A outer s H E hr=>(aR (df (bp (bq hr) cr (ae (pvN 0 aQ)) (DL.toB au) (aJ _)) (bD (bF (ge y55 jx tY T.n_int mD (bU (DO.toB (ju jK jQ (ae (pvN 1 aQ)) (ae (pvN 2 aQ)) (aJ _))) b9)))) cm)
     (aR (df (bp (bq hr) cr (ae (pvN 0 aQ)) (DL.toB au) (aJ _)) (bD (bF (ge y55 jx tY T.n_int mD (bU (DO.toB (ju (bq hr) cr (ae (pvN 1 aQ)) (ae (pvN 2 aQ)) (aJ _))) b9)))) cm)
     (aR (cx (nsN aQ 3) (nsL aQ 3) z67.nd (DL.toO (DO.toL (v9 (gl au (DO.toL (ap br b6 (ae (pvN 1 aQ)) (ae (pvN 2 aQ)))) (gl au (DO.toL (ap gK jP (ae (pvN 1 aQ)) (ae (pvN 2 aQ)))) (gl au (DO.toL (ap fw gZ (ae (pvN 1 aQ)) (ae (pvN 2 aQ)))) (gl au (DO.toL (ap sM jw (ae (pvN 1 aQ)) (ae (pvN 2 aQ)))) (gl au (DO.toL (ap wW jw (ae (pvN 1 aQ)) (ae (pvN 2 aQ)))) (gl au (DO.toL (ap sN jw (ae (pvN 1 aQ)) (ae (pvN 2 aQ)))) v8)))))) rfl rfl (by decide) (by decide)))))
     (bD (bF (ap bm bL (DO.toB (am hr (ae (pvN 3 aQ)) (ae (pvN 0 aQ)))) (DO.toB (ap ke nW (DL.toB ac) (DL.toB ac)))))))))
abbrev y19:Stmt:=top 20
def z61:FnScope ["_law_row_here","_law_now","_law_some"] ["_law_row_here","_law_now"] (ab y19):=⟨rfl,rfl,rfl,by decide +kernel,rfl,by decide +kernel,by decide +kernel⟩
def aD:cC (ab y19) ["_law_row_here","_law_now","_law_some"]=true:=by decide +kernel
def q25:bt (ab y19) "_law_worth"=true:=by decide +kernel
def z54:bt (ab y19) "_law_value"=true:=by decide +kernel
def y68:bt (ab y19) "len"=true:=by decide +kernel
def z79 (T:Txt P w K mg) (D:DefF K mg "_law_brought" y19 ["_law_row_here","_law_now"]) (z15:OkF P w K mg base "_law_worth" 1 ["_law_atom_here","_law_now"] (spG K 2 (z11))) (q60:OkF P w K mg base "_law_value" 1 ["_law_sign","_law_one","_law_other"] (spD K 3 (y15))):OkF P w K mg base "_law_brought" 2 ["_law_row_here","_law_now"] (spG K 2 (z34)):=
 gx D z61 rfl fun f cdv A outer s H E hr=>(aF (cf (cj (bp (bq hr) cr (DO.toB (am hr (ae (pvN 0 aD)) (DL.toB ac))) (DL.toB au) (aJ _))) (aL (bB (oq z54 q60 (hr.mono (by decide)) (ay (ai (DO.toL (am hr (ae (pvN 0 aD)) (DL.toB ac)))) (ay (cu q25 z15 (hr.mono (by decide)) (ay (ai (DO.toL (am hr (ae (pvN 0 aD)) (DL.toB ac)))) (ay (aj (pvN 1 aD)) bg)) (y1 (y1 bz))) (ay (cu q25 z15 (hr.mono (by decide)) (ay (ai (DO.toL (am hr (ae (pvN 0 aD)) (DL.toB ac)))) (ay (aj (pvN 1 aD)) bg)) (y1 (y1 bz))) bg))) (y1 (y1 (y1 bz)))))) cb)
     (aF (cf (cj (bp (bq hr) cr (DO.toB (am hr (ae (pvN 0 aD)) (DL.toB ac))) (DL.toB au) (aJ _))) (aL (bB (bP hr (bP hr (bP hr (aj (pvN 1 aD)) (ai au)) (ai (DO.toL (am hr (ae (pvN 0 aD)) (DL.toB ac))))) (ai ac)))) cb)
     (aF (cf (cj (bp (bq hr) cr (DO.toB (am hr (ae (pvN 0 aD)) (DL.toB ac))) (DL.toB au) (aJ _))) (aF (cJ (nsN aD 2) (nsL aD 2) z61.nd (bP hr (bP hr (aj (pvN 1 aD)) (ai au)) (ai (DO.toL (am hr (ae (pvN 0 aD)) (DL.toB ac))))))
     (aL (bB (bP hr (aj (pvN 2 aD)) (fK bm bL (cu q25 z15 (hr.mono (by decide)) (ay (ai (DO.toL (am hr (ae (pvN 0 aD)) (DL.toB ac)))) (ay (aj (pvN 1 aD)) bg)) (y1 (y1 bz))) (ai (DO.toL (cM y68 cL gE T.n_len eR (bU (ae (pvN 2 aD)) b9))))))))) cb)
     (aF (cf (cj (bp (bq hr) cr (DO.toB (am hr (ae (pvN 0 aD)) (DL.toB ac))) (DL.toB au) (aJ _))) (aF (d7 hr (aj (pvN 1 aD)) (ai au) (fK br b6 (bP hr (aj (pvN 1 aD)) (ai au)) (ai ac)))
     (aL (bB (bP hr (fK br b6 (bP hr (aj (pvN 1 aD)) (ai au)) (pJ (dj (dh (af ac aC))) (ai ac))) (fK gK jP (bP hr (aj (pvN 1 aD)) (ai au)) (ai ac)))))) cb)
     (aL (bB (cu q25 z15 (hr.mono (by decide)) (ay (ai (DO.toL (am hr (ae (pvN 0 aD)) (DL.toB ac)))) (ay (aj (pvN 1 aD)) bg)) (y1 (y1 bz)))))))))
abbrev q27:Stmt:=top 21
def q70:FnScope ["_law_row_here","_law_now","_law_some"] ["_law_row_here","_law_now"] (ab q27):=⟨rfl,rfl,rfl,by decide +kernel,rfl,by decide +kernel,by decide +kernel⟩
def aw:cC (ab q27) ["_law_row_here","_law_now","_law_some"]=true:=by decide +kernel
def q18:bt (ab q27) "_law_worth"=true:=by decide +kernel
def z78:bt (ab q27) "len"=true:=by decide +kernel
def y56:bt (ab q27) "_law_brought"=true:=by decide +kernel
def y91 (T:Txt P w K mg) (D:DefF K mg "_law_done" q27 ["_law_row_here","_law_now"]) (z15:OkF P w K mg base "_law_worth" 1 ["_law_atom_here","_law_now"] (spG K 2 (z11))) (q53:OkF P w K mg base "_law_brought" 2 ["_law_row_here","_law_now"] (spG K 2 (z34))):OkF P w K mg base "_law_done" 3 ["_law_row_here","_law_now"] (spG K 2 (q39)):=
 gx D q70 rfl fun f cdv A outer s H E hr=>(aF (d7 hr (aj (pvN 1 aw)) (ai au) (fK br b6 (bP hr (aj (pvN 1 aw)) (ai au)) (ai ac)))
     (aF (cf (cj (bp (bq hr) cr (DO.toB (am hr (ae (pvN 0 aw)) (DL.toB ac))) (DL.toB au) (aJ _))) (aF (d7 hr (aj (pvN 1 aw)) (ai au) (cu q18 z15 (hr.mono (by decide)) (ay (ai (DO.toL (am hr (ae (pvN 0 aw)) (DL.toB ac)))) (ay (aj (pvN 1 aw)) bg)) (y1 (y1 bz))))
     (aL qO)) cb)
     (aF (d7 hr (aj (pvN 1 aw)) (ai au) (fK br b6 (bP hr (aj (pvN 1 aw)) (ai au)) (ai ac)))
     (aL (cf (GW.t (kQ (cj (bp (bq hr) cr (DO.toB (am hr (ae (pvN 0 aw)) (DL.toB ac))) (DL.toB au) (aJ _))) (mY (GW.t (uo (cj (bp (bq hr) cr (DO.toB (am hr (ae (pvN 0 aw)) (DL.toB ac))) (DL.toB au) (aJ _))) (qP (dk (di hr) iw (cu q18 z15 (hr.mono (by decide)) (ay (ai (DO.toL (am hr (ae (pvN 0 aw)) (DL.toB ac)))) (ay (aj (pvN 1 aw)) bg)) (y1 (y1 bz))) (ai ac) (aJ _)))))))) (aL (d7 hr (aj (pvN 1 aw)) (ai au) (ai (DO.toL (am hr (ae (pvN 0 aw)) (DO.toB (yK (DL.toB ac)))))))) (aL (cf (cj (bp (bq hr) cr (DO.toB (am hr (ae (pvN 0 aw)) (DL.toB ac))) (DL.toB au) (aJ _))) (aL (d7 hr (bP hr (aj (pvN 1 aw)) (ai au)) (ai (DO.toL (am hr (ae (pvN 0 aw)) (DL.toB ac)))) (pB (ay (cu q18 z15 (hr.mono (by decide)) (ay (ai (DO.toL (am hr (ae (pvN 0 aw)) (DL.toB ac)))) (ay (aj (pvN 1 aw)) bg)) (y1 (y1 bz))) bg)))) (aL (cf (cj (bp (bq hr) cr (DO.toB (am hr (ae (pvN 0 aw)) (DL.toB ac))) (DL.toB au) (aJ _))) (aF (cJ (nsN aw 2) (nsL aw 2) q70.nd (bP hr (bP hr (aj (pvN 1 aw)) (ai au)) (ai (DO.toL (am hr (ae (pvN 0 aw)) (DL.toB ac))))))
     (aL (d7 hr (aj (pvN 2 aw)) (fK bm bL (cu q18 z15 (hr.mono (by decide)) (ay (ai (DO.toL (am hr (ae (pvN 0 aw)) (DL.toB ac)))) (ay (aj (pvN 1 aw)) bg)) (y1 (y1 bz))) (ai (DO.toL (cM z78 cL gE T.n_len eR (bU (ae (pvN 2 aw)) b9))))) (cu q18 z15 (hr.mono (by decide)) (ay (ai (DO.toL (am hr (ae (pvN 0 aw)) (DL.toB ac)))) (ay (aj (pvN 1 aw)) bg)) (y1 (y1 bz)))))) (aL (cf (cj (bp (bq hr) cr (DO.toB (am hr (ae (pvN 0 aw)) (DL.toB ac))) (DL.toB au) (aJ _))) (aL (mf (bP hr (aj (pvN 1 aw)) (ai au)) (cu q18 z15 (hr.mono (by decide)) (ay (ai (DO.toL (am hr (ae (pvN 0 aw)) (DL.toB ac)))) (ay (aj (pvN 1 aw)) bg)) (y1 (y1 bz))))) (aL (cf (cj (bp (di hr) iw (DO.toB (am hr (ae (pvN 0 aw)) (DL.toB ac))) (DL.toB au) (aJ _))) (aL (d7 hr (bP hr (aj (pvN 1 aw)) (ai au)) (ai (DO.toL (am hr (ae (pvN 0 aw)) (DL.toB ac)))) (cu y56 q53 (hr.mono (by decide)) (ay (ai (aq (pvN 0 aw))) (ay (aj (pvN 1 aw)) bg)) (y1 (y1 bz))))) cb)))))))))))))
abbrev dq:Stmt:=top 26
def sc_law:FnScope ["_law_script","_law_world_here","_law_names_here","_law_program_here","_law_run","_law_now","_law_k","_law_cell"] ["_law_script"] (ab dq):=⟨rfl,rfl,rfl,by decide +kernel,rfl,by decide +kernel,by decide +kernel⟩
def bw:cC (ab dq) ["_law_script","_law_world_here","_law_names_here","_law_program_here","_law_run","_law_now","_law_k","_law_cell"]=true:=by decide +kernel
def q73:bt (ab dq) "_law_world"=true:=by decide +kernel
def z44:bt (ab dq) "_law_cell_at"=true:=by decide +kernel
def y72:bt (ab dq) "_law_names"=true:=by decide +kernel
def q76:bt (ab dq) "_law_atom"=true:=by decide +kernel
def z69:bt (ab dq) "_law_program"=true:=by decide +kernel
def q92:bt (ab dq) "Plain"=true:=by decide +kernel
def z72:bt (ab dq) "_law_begun"=true:=by decide +kernel
def z92:bt (ab dq) "range"=true:=by decide +kernel
def q57:bt (ab dq) "_law_same"=true:=by decide +kernel
def y74:bt (ab dq) "_law_done"=true:=by decide +kernel
def y77:bt (ab dq) "_law_long"=true:=by decide +kernel
def zo {f:Addr} {fd:FuncData} (T:Txt P w K mg) (D:Fun K "law" "law" dq f fd) (y59:OkF P w K mg base "_law_world" 2 ["_law_script"] (spD K 1 (z45))) (y40:OkF P w K mg base "_law_names" 1 ["_law_cell","_law_many"] (spD K 2 (z32))) (z52:OkF P w K mg base "_law_program" 4 ["_law_some","_law_world_here","_law_last"] (spD K 3 (q35))) (z29:OkI P w K mg base "Plain" 3 ["self","program","letters"] (spG K 3 (z22))) (q58:OkF P w K mg base "_law_begun" 1 ["_law_program_here","_law_letters"] (spG K 2 (y44))) (z16:OkF P w K mg base "_law_cell_at" 1 ["_law_script","_law_k"] (spD K 2 (y8))) (z39:OkF P w K mg base "_law_atom" 2 ["_law_number","_law_names_here"] (spD K 2 (z31))) (z33:OkM P w K mg base "Plain" "step" 5 ["self"] (spG K 1 (z12))) (z53:OkF P w K mg base "_law_same" 3 ["_law_run","_law_now","_law_program_here","_law_boxes"] (spG K 4 (y38))) (q63:OkF P w K mg base "_law_long" 6 ["_law_names_here","_law_cell"] (spG K 2 (q48))) (q62:OkF P w K mg base "_law_done" 3 ["_law_row_here","_law_now"] (spG K 2 (q39))):FnOk P w K mg base CX0 7 f fd ["_law_script"] (spG K 1 qY):=
 mX D sc_law rfl fun cdv A outer s H E hr=>(aF (cJ (nsN bw 1) (nsL bw 1) sc_law.nd (ai (DO.toL (bA q73 y59 (hr.mono (by decide)) (af (aq (pvN 0 bw)) aC)))))
     (aF (cJ (nsN bw 2) (nsL bw 2) sc_law.nd (ai (DO.toL (bA y72 y40 (hr.mono (by decide)) (af (DO.toL (bA z44 z16 (hr.mono (by decide)) (af (aq (pvN 0 bw)) (af ac aC)))) (af ac aC))))))
     (aF (cJ (nsN bw 3) (nsL bw 3) sc_law.nd (ai (DO.toL (bA z69 z52 (hr.mono (by decide)) (af (DO.toL (fH (ae (pvN 0 bw)) (fU (DL.toB ac)) (fU (DL.toB ac)))) (af (aq (pvN 1 bw)) (af (DO.toL (bA q76 z39 (hr.mono (by decide)) (af (DO.toL (ap bm bL (DO.toB (bA z44 z16 (hr.mono (by decide)) (af (aq (pvN 0 bw)) (af ac aC)))) (DO.toB (ap ke nW (DL.toB ac) (DL.toB ac))))) (af (DO.toL (am hr (ae (pvN 1 bw)) (DL.toB ac))) aC)))) aC)))))))
     (aF (cJ (nsN bw 4) (nsL bw 4) sc_law.nd (qS q92 z29 (hr.mono (by decide)) (ay (ai (aq (pvN 3 bw))) (ay (ai (DO.toL (am hr (ae (pvN 1 bw)) (DL.toB ac)))) bg)) (fY (y1 (y1 bz)))))
     (aF (cJ (nsN bw 5) (nsL bw 5) sc_law.nd (cu z72 q58 (hr.mono (by decide)) (ay (ai (aq (pvN 3 bw))) (ay (ai (DO.toL (am hr (ae (pvN 1 bw)) (DL.toB ac)))) bg)) (y1 (y1 bz))))
     (aF (iQ PassesOwn.never rfl (da z92 T.n_range (af ac aC)) (bj (bG (nsN bw 6) (nsL bw 6) sc_law.nd)) (aF (cf (pD (je (cu q57 z53 (hr.mono (by decide)) (ay (aj (pvN 4 bw)) (ay (aj (pvN 5 bw)) (ay (ai (aq (pvN 3 bw))) (ay (ai (aq (pvN 2 bw))) bg)))) (y1 (y1 (y1 (y1 bz))))) (fun _=>rfl))) (aL (bB (ai gW))) cb)
     (aF (jd (bQ z33 (hr.mono (by decide)) (aj (pvN 4 bw))))
     (aL (cf (dk ye r_is (bP hr (aj (pvN 5 bw)) (ai au)) (ai kz) (aJ _)) (aL (jd (cu y74 q62 (hr.mono (by decide)) (ay (bP hr (ai (DO.toL (am hr (ae (pvN 3 bw)) (DL.toB ac)))) (bP hr (aj (pvN 5 bw)) (ai au))) (ay (aj (pvN 5 bw)) bg)) (y1 (y1 bz))))) cb)))))
     (aF (cf (pD (je (cu q57 z53 (hr.mono (by decide)) (ay (aj (pvN 4 bw)) (ay (aj (pvN 5 bw)) (ay (ai (aq (pvN 3 bw))) (ay (ai (aq (pvN 2 bw))) bg)))) (y1 (y1 (y1 (y1 bz))))) (fun _=>rfl))) (aL (bB (ai gW))) cb)
     (aF (cJ (nsN bw 7) (nsL bw 7) sc_law.nd (ai (DO.toL (bA z44 z16 (hr.mono (by decide)) (af (aq (pvN 0 bw)) (af ac aC))))))
     (aL (bB (Bt (ai (DO.toL (ju (di hr) iw (DO.toB (ap bm bL (ae (pvN 7 bw)) (DL.toB ac))) (DL.toB ac) (aJ _)))) (pF (cu y77 q63 (hr.mono (by decide)) (ay (ai (aq (pvN 2 bw))) (ay (ai (DO.toL (ap dv gB (ae (pvN 7 bw)) (DL.toB ac)))) bg)) (y1 (y1 bz)))))))))))))))
end
local macro_rules | `(tactic| walk_at "d") => `(tactic| simp -implicitDefEqProofs only [L2.yS, L2.BO, L2.sSeq_d, L2.ue, L2.AA, L2.fF, L2.dF, L2.cI, L2.sIf_d, L2.BP, L2.BQ, L2.sFor_d, L2.yG, L2.toT, L2.toD, L2.T.d, L2.kD, L2.vL, L2.vB, L2.d2, L2.tB2, L2.kA, L2.yB, L2.vIf_d, L2.aI, L2.ag, L2.vTup_d, L2.vLst_d, L2.iO, L2.BR, L2.vT, L2.aW, L2.qG, L2.BS, L2.vSl, L2.jb, L2.eY, L2.fJ, L2.xl, L2.n6, L2.pe, L2.fIt, L2.gi, L2.av, L2.dC, L2.bH, L2.kG, L2.atI_0, L2.ug, L2.atI_2, L2.atI_3, L2.atI_4, L2.atI_5, L2.atI_6, L2.atI_7, L2.yT, L2.yU, L2.mT, List.all_cons, List.all_nil, List.any_cons, List.any_nil, L2.gSub_i, L2.kK, L2.yR, L2.yO, L2.dG, L2.BN, L2.gMod_w, L2.gBit_i, L2.gCmp_i, L2.yP, L2.ud, L2.yQ, L2.tW, L2.gIx_l, L2.lX, L2.gIx_d, L2.gLen_l, L2.gInt_b, L2.itD_l, L2.truD_b, L2.asB_b, L2.asI_i, List.map_cons, List.map_nil, List.length_cons, List.length_nil, List.cons_append, List.nil_append, List.replicate, List.getElem?_cons_zero, List.getElem?_cons_succ, List.set_cons_zero, List.set_cons_succ, Option.bind_some, Option.bind_none, Option.map_some, Option.map_none, Option.join_some, Option.join_none, Nat.reduceAdd, Nat.reduceSub, Nat.reduceLeDiff, Int.reduceLT, Int.reduceEq, eq_self, Int.reduceNeg, Int.reduceLE, if_true, if_false, ite_true, ite_false, Bool.false_eq_true, decide_true, decide_false, Bool.not_true, Bool.not_false, Bool.and_true, Bool.true_and, Bool.or_true, Bool.true_or, Bool.or_false, Bool.false_or, Bool.and_false, Bool.false_and, String.reduceBEq, reduceCtorEq])
local macro_rules | `(tactic| walk_at "k") => `(tactic| simp -implicitDefEqProofs only [L2.yS, L2.BO, L2.sSeq_d, L2.ue, L2.AA, L2.fF, L2.dF, L2.cI, L2.sIf_d, L2.BP, L2.BQ, L2.sFor_d, L2.yG, L2.toT, L2.toD, L2.T.d, L2.kD, L2.vL, L2.vB, L2.d2, L2.tB2, L2.kA, L2.yB, L2.vIf_d, L2.aI, L2.ag, L2.vTup_d, L2.vLst_d, L2.iO, L2.BR, L2.vT, L2.aW, L2.qG, L2.BS, L2.vSl, L2.jb, L2.eY, L2.fJ, L2.xl, L2.n6, L2.pe, L2.fIt, L2.gi, L2.av, L2.dC, L2.bH, L2.kG, L2.atI_0, L2.ug, L2.atI_2, L2.atI_3, L2.atI_4, L2.atI_5, L2.atI_6, L2.atI_7, L2.yT, L2.yU, L2.mT, List.all_cons, List.all_nil, List.any_cons, List.any_nil, L2.gSub_i, L2.kK, L2.yR, L2.yO, L2.dG, L2.BN, L2.gMod_w, L2.gBit_i, L2.gCmp_i, L2.yP, L2.ud, L2.yQ, L2.tW, L2.gIx_l, L2.lX, L2.gIx_d, L2.gLen_l, L2.gInt_b, L2.itD_l, L2.truD_b, L2.asB_b, L2.asI_i, List.map_cons, List.map_nil, List.length_cons, List.length_nil, List.cons_append, List.nil_append, List.replicate, List.getElem?_cons_zero, List.getElem?_cons_succ, List.set_cons_zero, List.set_cons_succ, Option.bind_some, Option.bind_none, Option.map_some, Option.map_none, Option.join_some, Option.join_none, Nat.reduceAdd, Nat.reduceSub, Nat.reduceLeDiff, Int.reduceLT, Int.reduceEq, eq_self, Int.reduceNeg, Int.reduceLE, if_true, if_false, ite_true, ite_false, Bool.false_eq_true, decide_true, decide_false, Bool.not_true, Bool.not_false, Bool.and_true, Bool.true_and, Bool.or_true, Bool.true_or, Bool.or_false, Bool.false_or, Bool.and_false, Bool.false_and, String.reduceBEq, reduceCtorEq, L2.yV, L2.yW, L2.xo, L2.AC, L2.AD, L2.zL, L2.yX, L2.yY, L2.xp, L2.xq, L2.xr, L2.vW, L2.yZ, L2.y0, L2.xt, L2.zM, L2.zN, L2.za, L2.zb, L2.zc, L2.xu, L2.zO, L2.zP, L2.zd, L2.AE, L2.zQ, L2.zR, L2.AF, L2.AG, L2.AH, L2.AI, L2.AJ, L2.AK, L2.AL, L2.AM, L2.AN, L2.AO, L2.AQ, L2.AR, L2.AS, L2.AT, L2.AU, L2.AV, L2.AW, L2.AX, L2.AY, L2.AZ, L2.A0, L2.A5, L2.A6, L2.A7, L2.A8, L2.A9, L2.Ba, L2.Bb, L2.Bc, L2.Be, L2.Bf, L2.Bg, L2.Bh, L2.Bi, L2.Bj, L2.Bk, L2.Bl, L2.Bm, L2.Bn, L2.Bo, L2.Bp, L2.Bq, L2.Br])
local macro_rules | `(tactic| walk_at "m") => `(tactic| simp only [List.map_cons, List.map_nil, List.length_cons, List.length_nil, List.cons_append, List.nil_append, Nat.reduceAdd, Nat.reduceSub, List.replicate])
def dr {α β:Type} (f:α->β) (l:List α) (k:Nat) (h:k<l.length) (d:α):atI (l.map f) (k:Int)=some (f (l.getD k d)):=by
 unfold atI ixN
 rw [if_pos (by omega),List.length_map,if_pos (by omega)]
 simp [h]
def iq (ns:List Int) (k:Nat):y8 [.lst (ns.map .int),.int k]=some (.leaf (.int (ns.getD k 0))):=by
 unfold y8
 walk_at "d"
 by_cases h:k<ns.length
 · rw [dz (by simpa using h)]
   walk_at "d"
   rw [dr Dt.int ns k h 0]
   rfl
 · rw [cP (by simpa using h)]
   walk_at "d"
   simp [List.getD,show ns.length<=k by omega]
def InR (n:Int):Prop:=0<=n/\n<wide
def jh (n:Int):∃ v,y17 [.int n]=some (.leaf (.int v))/\InR v:=by
 have m0:=Int.emod_nonneg (n/3) (show (4:Int)≠0 by decide)
 have m1:=Int.emod_lt_of_pos (n/3) (show (0:Int)<4 by decide)
 unfold y17
 walk_at "d"
 by_cases h:n%3=0
 · rw [dz (by simpa using h)]
   walk_at "d"
   exact ⟨_,rfl,m0,by rw [dy];omega⟩
 · rw [cP (by simpa using h)]
   walk_at "d"
   by_cases h:n%3=1
   · rw [dz (by simpa using h)]
     walk_at "d"
     exact ⟨_,rfl,by rw [dy];omega,by rw [dy];omega⟩
   · rw [cP (by simpa using h)]
     walk_at "d"
     exact ⟨_,rfl,Int.emod_nonneg _ (by rw [dy];decide),Int.emod_lt_of_pos _ kH⟩
def letters:Str:="abcdefghijklmnopqrstuvwxyz"
def h9:letters.length=26:=by decide +kernel
def wp (c:Int) (i:Nat) (hi:i<10):∃ g:Nat,q47 [some (.leaf (.int (0+(i:Int)))),some (.leaf (.int c)),some (.leaf (.str letters))]=some (.str ⟨#[g]⟩):=by
 have m0:=Int.emod_nonneg c (show (2:Int)≠0 by decide)
 have m1:=Int.emod_lt_of_pos c (show (0:Int)<2 by decide)
 unfold q47
 walk_at "d"
 rw [yR (i:=11*(0+(i:Int))) (j:=c%2) (by omega) (by omega)]
 walk_at "d"
 obtain ⟨g,e,_⟩:=vV (x:=letters) (i:=(c/37+11*(0+(i:Int))*(c%2))%26) (by rw [h9];decide) (Int.emod_nonneg _ (by decide)) (by rw [h9];exact Int.emod_lt_of_pos _ (by decide))
 rw [e]
 exact ⟨g,rfl⟩
def oy {x:Str} {lo hi:Option Int} (h:x.length<=1000):∃ y,gSl (.str x) lo hi=some (.leaf (.str y))/\y.length<=x.length:=
 ⟨_,if_pos (jS (by omega)),Txt.slice_le x lo hi⟩
def qZ {x y:Str} (h:x.length+y.length<=1000000):bY (.str x) (.str y)=some (.leaf (.str (x++y))):=yM (jS h)
def wr (x y:Str):(x++y).length=x.length+y.length:=by
 show (x.cps++y.cps).size=_
 rw [Array.size_append]
 rfl
def sgn (i:Int):Nat:=letters.cps.toList.getD i.toNat 0
def zp (i:Int) (h0:0<=i) (h1:i<26):ax (.str letters) (.int i)=some (.leaf (.str ⟨#[sgn i]⟩)):=by
 have hl:letters.cps.toList.length=26:=by decide +kernel
 rw [xn (by rw [h9];exact jS (by decide))]
 unfold atI ixN
 rw [if_pos h0,hl,if_pos (by omega)]
 simp only [Option.bind_some]
 unfold sgn
 rw [List.getD_eq_getElem?_getD,gQ (by omega)]
 rfl
def wt:∀ i<26,∀ j<26,letters.cps.toList.getD i 0=letters.cps.toList.getD j 0->i=j:=by decide +kernel
def wu (c p:Int) (m:Str) (hm:m.length<=6):∃ y z:Str,∀ i:Nat,z47 [some (.leaf (.int (0+(i:Int)))),some (.leaf (.int c)),some (.leaf (.str letters)),some (.leaf (.int p)),some (.leaf (.str m))]=some (.str (y++⟨#[sgn ((c/42+5*(0+(i:Int)))%26)]⟩++z)):=by
 obtain ⟨y,ey,hy⟩:=oy (x:=m) (lo:=none) (hi:=some p) (by omega)
 obtain ⟨z,ez,hz⟩:=oy (x:=m) (lo:=some p) (hi:=none) (by omega)
 refine ⟨y,z,fun i=>?_⟩
 unfold z47
 walk_at "d"
 have e:=zp ((c/42+5*(0+(i:Int)))%26) (Int.emod_nonneg _ (by decide)) (Int.emod_lt_of_pos _ (by decide))
 have hg:(⟨#[sgn ((c/42+5*(0+(i:Int)))%26)]⟩:Str).length=1:=rfl
 rw [ey]
 walk_at "d"
 rw [e]
 walk_at "d"
 rw [qZ (by omega)]
 walk_at "d"
 rw [ez]
 walk_at "d"
 rw [qZ (by rw [wr];omega)]
 rfl
def wv (x y:Str):(x++y).cps.toList=x.cps.toList++y.cps.toList:=by
 show (x.cps++y.cps).toList=_
 simp
def zq {c:Int} {y z:Str} {i j:Nat} (hi:i<24) (hj:j<24) (h:y++⟨#[sgn ((c/42+5*(0+(i:Int)))%26)]⟩++z=y++⟨#[sgn ((c/42+5*(0+(j:Int)))%26)]⟩++z):i=j:=by
 have e:=congrArg (fun s:Str=>s.cps.toList) h
 simp only [wv] at e
 have e:=List.append_cancel_left (List.append_cancel_right e)
 have e:sgn ((c/42+5*(0+(i:Int)))%26)=sgn ((c/42+5*(0+(j:Int)))%26):=by simpa using e
 have:=wt _ (by omega) _ (by omega) e
 omega
def uy (c:Int):∃ xs:List Str,z32 [.int c,.int 24]=some (.lst (xs.map .str))/\xs.length=24/\xs.Nodup:=by
 have b0:=Int.emod_nonneg c (show (6:Int)≠0 by decide)
 have b1:=Int.emod_lt_of_pos c (show (0:Int)<6 by decide)
 unfold z32
 walk_at "d"
 rw [dG (by omega)]
 walk_at "d"
 obtain ⟨ys,e,hp⟩:=g8 (bb:=av 0) (ft:=bH) (fe:=q47) (ds:=bX 0 (c%6).toNat) (δ:=[none,some (.leaf (.int c)),some (.leaf (.str letters))]) (P:=fun _ y=>∃ c:Nat,y=.str ⟨#[c]⟩) fun d hd=>by
  obtain ⟨i,hi,rfl⟩:=mem_range hd
  obtain ⟨g,e⟩:=wp c i (by omega)
  exact ⟨_,_,rfl,rfl,e,g,rfl⟩
 obtain ⟨cs,rfl,hl⟩:=lZ hp
 rw [d5] at hl
 rw [g7 (eI (by omega) (by omega)),Option.bind_some,show Str.ofString "abcdefghijklmnopqrstuvwxyz"=letters from rfl,e,Option.bind_some,iO (by unfold sgD;rw [List.length_map];omega)]
 walk_at "d"
 rw [show Str.ofString ""=("":Str) from rfl,uf (by omega)]
 walk_at "d"
 have hm:(⟨cs.toArray⟩:Str).length<=6:=by
  show cs.toArray.size<=6
  simp
  omega
 obtain ⟨y,z,hyz⟩:=wu c (c/6%(c%6+1)) ⟨cs.toArray⟩ hm
 have e:=gk (bb:=av 0) (ft:=bH) (fe:=z47) (ds:=bX 0 (24:Int).toNat) (δ:=[none,some (.leaf (.int c)),some (.leaf (.str letters)),some (.leaf (.int (c/6%(c%6+1)))),some (.leaf (.str ⟨cs.toArray⟩))]) (f:=fun d=>match d with
  | .int k=>.str (y++⟨#[sgn ((c/42+5*k)%26)]⟩++z)
  | d=>d) fun d hd=>by
  obtain ⟨i,hi,rfl⟩:=mem_range hd
  exact ⟨_,rfl,rfl,hyz i⟩
 have hr:(bX 0 (24:Int).toNat).map (fun d=>match d with
  | Dt.int k=>Dt.str (y++⟨#[sgn ((c/42+5*k)%26)]⟩++z)
  | d=>d)=((List.range 24).map fun i:Nat=>y++⟨#[sgn ((c/42+5*(0+(i:Int)))%26)]⟩++z).map Dt.str:=rfl
 rw [hr] at e
 refine ⟨(List.range 24).map fun i:Nat=>y++⟨#[sgn ((c/42+5*(0+(i:Int)))%26)]⟩++z,?_,by simp,?_⟩
 · rw [g7 (eI (by omega) (by omega)),Option.bind_some,e,Option.bind_some,iO (by rw [List.length_map,List.length_map,List.length_range];decide)]
   walk_at "d"
 · rw [List.nodup_iff_pairwise_ne,List.pairwise_map]
   refine List.pairwise_iff_getElem.mpr fun i j hi hj hij h=>?_
   simp only [List.length_range] at hi hj
   simp only [List.getElem_range] at h
   have:=zq hi hj h
   omega
def cutL (d:Dt) (ds:List Dt):gSl (.lst (d::ds)) (some 1) none=some (.lst ds):=by
 have e1:HT.sIx (d::ds).length 0 (some (1:Int))=1:=by
  rw [show (1:Int)=((1:Nat):Int) from rfl,HT.BL]
  simp
 show some (T.lst (L2.vN (d::ds) (some 1) none))=_
 unfold L2.vN
 rw [e1,HT.Ak]
 simp
def kY:∀ {ds ys:List Dt},Paired (fun _ y=>∃ c:Int,y=.int c) ds ys->∃ xs:List Int,ys=xs.map .int/\xs.length=ds.length
 | _,_,.nil=>⟨[],rfl,rfl⟩
 | _,_,.cons ⟨c,e⟩ t=>by
  obtain ⟨xs,e1,e2⟩:=kY t
  exact ⟨c::xs,by rw [e,e1];rfl,by simp [e2]⟩
def ww (c:Int) (i:Nat):∃ v:Int,q46 [some (.leaf (.int (0+(i:Int)))),some (.leaf (.int c))]=some (.int v):=by
 unfold q46
 show ∃ v,((((((fQ (.int 44) (.int (0+(i:Int)))).map T.d).bind fun y=>sn (.int c) y).map T.d).bind fun x=>((ja (.int 2) (.int 44)).map T.d).bind fun y=>bV x y).map T.d)=_
 rw [kK (by omega) (by omega)]
 show ∃ v,((((sn (.int c) (.int (44*(0+(i:Int))))).map T.d).bind fun x=>((ja (.int 2) (.int 44)).map T.d).bind fun y=>bV x y).map T.d)=_
 rw [zl (by omega),pr (show kF 2 44=true by decide +kernel)]
 show ∃ v,((bV (.int (c/2^(44*(0+(i:Int))).toNat)) (.int (2^(44:Int).toNat))).map T.d)=_
 rw [dG (show (0:Int)<2^(44:Int).toNat by decide +kernel)]
 exact ⟨_,rfl⟩
def wx (c:Int) (m:Nat) (hm:m<=100):∃ vs:List Int,z21 [.int c,.int m,.bl true]=some (.lst (vs.map .int))/\vs.length=m:=by
 obtain ⟨ys,e,hp⟩:=g8 (bb:=av 0) (ft:=bH) (fe:=q46) (ds:=bX 0 m) (δ:=[none,some (.leaf (.int c))]) (P:=fun _ y=>∃ c:Int,y=.int c) fun d hd=>by
  obtain ⟨i,hi,rfl⟩:=mem_range hd
  obtain ⟨v,e⟩:=ww c i
  exact ⟨_,_,rfl,rfl,e,v,rfl⟩
 obtain ⟨xs,rfl,hl⟩:=kY hp
 rw [d5] at hl
 refine ⟨xs,?_,hl⟩
 unfold z21
 walk_at "d"
 rw [g7 (eI (by omega) (by omega)),Option.bind_some,Int.toNat_natCast,e,Option.bind_some,iO (by rw [List.length_map];omega)]
 walk_at "d"
def wy (c:Int) (m:Nat) (hm:m<=100):∃ vs:List Int,z21 [.int c,.int m,.bl false]=some (.lst (vs.map .int))/\vs.length=m:=by
 unfold z21
 walk_at "d"
 rw [show (m:Int)+1=((m+1:Nat):Int) from rfl,g7 (eI (by omega) (by omega)),Option.bind_some]
 have c0:=Int.emod_nonneg c (show (2147483629:Int)≠0 by decide)
 have c1:=Int.emod_lt_of_pos c (show (0:Int)<2147483629 by decide)
 rw [show ((m+1:Nat):Int).toNat=m+1 from rfl]
 obtain ⟨δ',e,l,n,x,rfl,hn,hn',hl⟩:=qJ (all:=bX 0 (m+1)) (bb:=av 5) (g:=q52) (P:=fun done δ=>∃ (l:List Int) (n:Int) (x:Option T),δ=[some (.leaf (.int c)),some (.leaf (.int m)),some (.leaf (.bl false)),some (.lst (l.map .int)),some (.leaf (.int n)),x]/\0<=n/\n<3000000000/\l.length=done.length)
  (bX 0 (m+1)) [] [some (.leaf (.int c)),some (.leaf (.int m)),some (.leaf (.bl false)),some (.lst []),some (.leaf (.int (c%2147483629+69621))),none] rfl ⟨[],_,_,rfl,by omega,by omega,rfl⟩
  (fun done d r δ hd h=>by
   obtain ⟨hd,hi⟩:=uh hd
   generalize ei:done.length=i at hd hi h
   subst hd
   obtain ⟨l,n,x,rfl,h0,h1,hl⟩:=h
   refine ⟨[some (.leaf (.int c)),some (.leaf (.int m)),some (.leaf (.bl false)),some (.lst (l.map .int)),some (.leaf (.int n)),some (.leaf (.int (0+(i:Int))))],[some (.leaf (.int c)),some (.leaf (.int m)),some (.leaf (.bl false)),some (.lst ((l++[(n*n+16807*n+(0+(i:Int)))%2147483629]).map .int)),some (.leaf (.int ((n*n+16807*n+(0+(i:Int)))%2147483629))),some (.leaf (.int (0+(i:Int))))],rfl,.inl ?_,l++[(n*n+16807*n+(0+(i:Int)))%2147483629],_,_,rfl,Int.emod_nonneg _ (by decide),Int.lt_trans (Int.emod_lt_of_pos _ (by decide)) (by decide),by simp [hl,ei]⟩
   unfold q52
   walk_at "d"
   rw [kK (by omega) (by omega)]
   walk_at "d"
   rw [AB rfl]
   walk_at "d"
   rw [vT (by rw [List.length_map,hl];omega)]
   walk_at "d"
   rw [List.map_append]
   rfl)
 rw [d5] at hl
 rw [e]
 walk_at "d"
 cases l with
 | nil=>simp at hl
 | cons a l =>
  rw [List.map_cons,cutL]
  exact ⟨l,rfl,by simpa using hl⟩
def kZ (c:Int) (m:Nat) (hm:m<=100) (b:Bool):∃ vs:List Int,z21 [.int c,.int m,.bl b]=some (.lst (vs.map .int))/\vs.length=m:=by
 cases b
 · exact wy c m hm
 · exact wx c m hm
def At (d:Dt):Prop:=(∃ n,InR n/\d=.int n)∨∃ x,d=.str x
def pick {xs:List Str} {i:Int} (h0:0<=i) (h1:i<xs.length):∃ x,atI (xs.map Dt.str) i=some (.str x):=by
 obtain ⟨v,e,hm⟩:=px (xs:=xs.map Dt.str) h0 (by rw [List.length_map];exact h1)
 obtain ⟨x,_,rfl⟩:=List.mem_map.mp hm
 exact ⟨x,e⟩
def ng (c:Int) (xs:List Str) (hx:0<xs.length):∃ d,z31 [.int c,.lst (xs.map .str)]=some (.leaf d)/\At d:=by
 unfold z31
 walk_at "d"
 by_cases h:c%3=0
 · rw [dz (by simpa using h)]
   walk_at "d"
   obtain ⟨v,e,hv⟩:=jh (c/3)
   rw [e]
   walk_at "d"
   exact ⟨_,rfl,.inl ⟨v,hv,rfl⟩⟩
 · rw [cP (by simpa using h)]
   walk_at "d"
   rw [List.length_map,dG (by omega)]
   walk_at "d"
   obtain ⟨x,e⟩:=pick (xs:=xs) (i:=c/3%(xs.length:Nat)) (Int.emod_nonneg _ (by omega)) (Int.emod_lt_of_pos _ (by omega))
   rw [e]
   walk_at "d"
   exact ⟨_,rfl,.inr ⟨x,rfl⟩⟩
def Sg (s:Str):Prop:=s=Str.ofString "+"∨s=Str.ofString "-"∨s=Str.ofString "*"∨s=Str.ofString "<"∨s=Str.ofString "="∨s=Str.ofString "&"∨s=Str.ofString "|"∨s=Str.ofString "^"
def wz (v:Int):∃ s,ax (.str (Str.ofString "+-*<=&|^")) (.int (v%8))=some (.leaf (.str s))/\Sg s:=by
 obtain ⟨k,hk,ek⟩:=pz v (n:=8) (by decide)
 rw [show ((8:Nat):Int)=8 from rfl] at ek
 rw [ek]
 have q:k=0∨k=1∨k=2∨k=3∨k=4∨k=5∨k=6∨k=7:=by omega
 unfold Sg
 rcases q with rfl | rfl | rfl | rfl | rfl | rfl | rfl | rfl
 · exact ⟨_,rfl,.inl rfl⟩
 · exact ⟨_,rfl,.inr (.inl rfl)⟩
 · exact ⟨_,rfl,.inr (.inr (.inl rfl))⟩
 · exact ⟨_,rfl,.inr (.inr (.inr (.inl rfl)))⟩
 · exact ⟨_,rfl,.inr (.inr (.inr (.inr (.inl rfl))))⟩
 · exact ⟨_,rfl,.inr (.inr (.inr (.inr (.inr (.inl rfl)))))⟩
 · exact ⟨_,rfl,.inr (.inr (.inr (.inr (.inr (.inr (.inl rfl))))))⟩
 · exact ⟨_,rfl,.inr (.inr (.inr (.inr (.inr (.inr (.inr rfl))))))⟩
def wA:pM=.int wide:=by rw [dy];rfl
def InR.l {a:Int} (h:InR a):-1000000000000000000<a:=by have:=h.1;omega
def InR.r {a:Int} (h:InR a):a<1000000000000000000:=by have:=h.2;rw [dy] at this;omega
def so (a:Int):InR (a%wide):=⟨Int.emod_nonneg _ (by rw [dy];decide),Int.emod_lt_of_pos _ kH⟩
def j9 {n:Int} (h:InR n):n%wide=n:=Int.emod_eq_of_lt h.1 h.2
def sq {p:Prop} [Decidable p]:InR (if p then 1 else 0):=by split<;>exact ⟨by decide,by rw [dy];decide⟩
def du {s:Str} {a b n:Int} (h:q17 [.str s,.int a,.int b]=some (.leaf (.int n))):q44 [.str s,.int a,.int b]=some (.leaf (.int (n%wide))):=by
 unfold q44
 rw [wA]
 walk_at "k"
 rw [h]
 walk_at "k"
def iU {x y:Str} {ks:List Key} {l:List Dt} {d:Dt}:g0 ((.inr x:Key)::ks) (d::l) (.inr y)=if x=y then some d else g0 ks l (.inr y):=by
 simp [g0]
def iV {s:Str} {a b n:Int} (ha:InR a) (h1:s≠Str.ofString "<") (h2:s≠Str.ofString "=")
  (h:g0 ([.inr (Str.ofString "+"),.inr (Str.ofString "-"),.inr (Str.ofString "*"),.inr (Str.ofString "&"),.inr (Str.ofString "|"),.inr (Str.ofString "^")]:List Key) [.int (a+b),.int (a-b),.int (a*b),.int (Builtin.bitAnd a b),.int (Builtin.bitOr a b),.int (Builtin.bitXor a b)] (.inr s)=some (.int n)) :
  y15 [.str s,.int a,.int b]=some (.leaf (.int (n%wide))):=by
 unfold y15
 walk_at "k"
 rw [cP (by simpa using h1)]
 walk_at "k"
 rw [cP (by simpa using h2)]
 walk_at "k"
 unfold qL gv ul
 walk_at "k"
 rw [kK ha.l ha.r]
 walk_at "k"
 simp only [fm,Option.bind_some,Option.map_some]
 rw [if_pos ⟨by simp,show ([.inr (Str.ofString "+"),.inr (Str.ofString "-"),.inr (Str.ofString "*"),.inr (Str.ofString "&"),.inr (Str.ofString "|"),.inr (Str.ofString "^")]:List Key).Nodup by decide +kernel⟩]
 walk_at "k"
 simp only [fm,Option.bind_some,h,Option.map_some]
 walk_at "k"
def values (s:Str) (hs:Sg s) (a b:Int) (ha:InR a):∃ v,InR v/\q44 [.str s,.int a,.int b]=some (.leaf (.int v))/\y15 [.str s,.int a,.int b]=some (.leaf (.int v)):=by
 have lk:∀ {x:Str} {ks:List Key} {d:Dt} {l:List Dt},g0 ((.inr x:Key)::ks) (d::l) (.inr x)=some d:=by intros;simp [g0]
 rcases hs with rfl | rfl | rfl | rfl | rfl | rfl | rfl | rfl
 · refine ⟨_,so _,du (n:=a+b) ?_,iV ha (by decide +kernel) (by decide +kernel) ?_⟩
   · unfold q17
     walk_at "k"
   · simp only [iU,if_true]
 · refine ⟨_,so _,du (n:=a-b) ?_,iV ha (by decide +kernel) (by decide +kernel) ?_⟩
   · unfold q17
     walk_at "k"
   · simp only [iU,L2.AF,if_true,if_false]
 · refine ⟨_,so _,du (n:=a*b) ?_,iV ha (by decide +kernel) (by decide +kernel) ?_⟩
   · unfold q17
     walk_at "k"
     rw [kK ha.l ha.r]
     walk_at "k"
   · simp only [iU,L2.AG,L2.AL,if_true,if_false]
 · refine ⟨if a<b then 1 else 0,sq,(du (n:=if a<b then 1 else 0) ?_).trans (by rw [j9 sq]),?_⟩
   · unfold q17
     walk_at "k"
     by_cases h:a<b
     · rw [dz (by simpa using h),if_pos h]
       walk_at "k"
     · rw [cP (by simpa using h),if_neg h]
       walk_at "k"
   · unfold y15
     walk_at "k"
     simp
 · refine ⟨if a=b then 1 else 0,sq,(du (n:=if a=b then 1 else 0) ?_).trans (by rw [j9 sq]),?_⟩
   · unfold q17
     walk_at "k"
     by_cases h:a=b
     · rw [dz (by simpa using h),if_pos h]
       walk_at "k"
     · rw [cP (by simpa using h),if_neg h]
       walk_at "k"
   · unfold y15
     walk_at "k"
     simp
 · refine ⟨_,so _,du (n:=Builtin.bitAnd a b) ?_,iV ha (by decide +kernel) (by decide +kernel) ?_⟩
   · unfold q17
     walk_at "k"
   · simp only [iU,L2.AH,L2.AM,L2.AS,if_true,if_false]
 · refine ⟨_,so _,du (n:=Builtin.bitOr a b) ?_,iV ha (by decide +kernel) (by decide +kernel) ?_⟩
   · unfold q17
     walk_at "k"
   · simp only [iU,L2.AI,L2.AN,L2.AT,L2.Bb,if_true,if_false]
 · refine ⟨_,so _,du (n:=Builtin.bitXor a b) ?_,iV ha (by decide +kernel) (by decide +kernel) ?_⟩
   · unfold q17
     walk_at "k"
   · simp only [iU,L2.AJ,L2.AO,L2.AU,L2.Bc,L2.Bk,if_true,if_false]
abbrev Hd:=Str×Int×Bool
def hdD (p:Hd):Dt:=.tup [.str p.1,.int p.2.1,.bl p.2.2]
inductive Row (cs ss:List Str) (N:Nat):Dt->Prop
 | load {x c:Str}:c∈cs->Row cs ss N (.tup [.str "load",.str x,.str c])
 | store {c:Str} {a:Dt}:c∈cs->At a->Row cs ss N (.tup [.str "store",.str c,a])
 | take {x s:Str} {a:Dt}:s∈ss->At a->Row cs ss N (.tup [.str "take",.str x,.str s,a])
 | lay {s:Str} {a b:Dt}:s∈ss->At a->At b->Row cs ss N (.tup [.str "lay",.str s,a,b])
 | hear {x:Str}:Row cs ss N (.tup [.str "hear",.str x])
 | copy {x:Str} {a:Dt}:At a->Row cs ss N (.tup [.str "copy",.str x,a])
 | op {x s:Str} {a b:Dt}:Sg s->At a->At b->Row cs ss N (.tup [.str "op",.str x,.str s,a,b])
 | say {a:Dt}:At a->Row cs ss N (.tup [.str "say",a])
 | iff {a:Dt} {k:Nat}:At a->k<N->Row cs ss N (.tup [.str "if",a,.int k])
 | go {k:Nat}:k<N->Row cs ss N (.tup [.str "go",.int k])
 | fin {a:Dt}:At a->Row cs ss N (.tup [.str "end",a])
def xy {xs:List Hd} {i:Int} (h0:0<=i) (h1:i<xs.length):∃ p,atI (xs.map hdD) i=some (hdD p)/\p∈xs:=by
 obtain ⟨v,e,hm⟩:=px (xs:=xs.map hdD) h0 (by rw [List.length_map];exact h1)
 obtain ⟨x,hx,rfl⟩:=List.mem_map.mp hm
 exact ⟨x,e,hx⟩
def hd_0 (p:Hd):ax (hdD p) (.int 0)=some (.leaf (.str p.1)):=rfl
def len8 {α:Type}:∀ {l:List α},l.length=8->∃ a b c d e f g h,l=[a,b,c,d,e,f,g,h]
 | [a,b,c,d,e,f,g,h],_=>⟨a,b,c,d,e,f,g,h,rfl⟩
def zr (v0 v1 v2 v3 v4 v5 v6 v7:Int) (k N:Nat) (hk:k+1<N):∃ j:Nat,z46 [.lst [.int v0,.int v1,.int v2,.int v3,.int v4,.int v5,.int v6,.int v7],.int k,.int N]=some (.leaf (.int j))/\j<N:=by
 unfold z46
 walk_at "d"
 by_cases h:v4%6=0
 · rw [dz (by simpa using h)]
   walk_at "d"
   rw [dG (by omega)]
   walk_at "d"
   have h0:=Int.emod_nonneg v5 (show (N:Int)≠0 by omega)
   have h1:=Int.emod_lt_of_pos v5 (show (0:Int)<N by omega)
   exact ⟨(v5%(N:Int)).toNat,by rw [Int.toNat_of_nonneg h0],by omega⟩
 · rw [cP (by simpa using h)]
   walk_at "d"
   rw [dG (by omega)]
   walk_at "d"
   have h0:=Int.emod_nonneg v5 (show (N:Int)-1-(k:Int)≠0 by omega)
   have h1:=Int.emod_lt_of_pos v5 (show (0:Int)<(N:Int)-1-(k:Int) by omega)
   exact ⟨((k:Int)+1+v5%((N:Int)-1-(k:Int))).toNat,by rw [Int.toNat_of_nonneg (by omega)],by omega⟩
def By {a b c d e:Dt} {x0 x1 x2 x3:Option T}:fG 5 (aX (av 4) (aX (av 5) (aX (av 6) (aX (av 7) (aX (av 8) eS))))) (.tup [a,b,c,d,e]) [x0,x1,x2,x3,none,none,none,none,none,none,none,none,none,none,none,none]=some [x0,x1,x2,x3,some (.leaf a),some (.leaf b),some (.leaf c),some (.leaf d),some (.leaf e),none,none,none,none,none,none,none]:=rfl
def zt (c:Int) (k N:Nat) (hk:k+1<N) (xs:List Str) (cs ss:List Hd) (L:Dt) (b:Bool) (hx:0<xs.length) (hc:0<cs.length) (hs:0<ss.length) :
  ∃ r,q50 [.int c,.int k,.int N,.tup [.lst (xs.map .str),.lst (cs.map hdD),.lst (ss.map hdD),L,.bl b]]=some (.leaf r)/\Row (cs.map (·.1)) (ss.map (·.1)) N r:=by
 unfold q50
 obtain ⟨vs,es,hl⟩:=kZ c 8 (by decide) b
 obtain ⟨v0,v1,v2,v3,v4,v5,v6,v7,rfl⟩:=len8 hl
 obtain ⟨a2,e2,ha2⟩:=ng v2 xs hx
 obtain ⟨a3,e3,ha3⟩:=ng v3 xs hx
 obtain ⟨x,ex⟩:=pick (xs:=xs) (i:=v1%(xs.length:Nat)) (Int.emod_nonneg _ (by omega)) (Int.emod_lt_of_pos _ (by omega))
 obtain ⟨p,ep,hp⟩:=xy (xs:=cs) (i:=v6%(cs.length:Nat)) (Int.emod_nonneg _ (by omega)) (Int.emod_lt_of_pos _ (by omega))
 obtain ⟨q,eq,hq⟩:=xy (xs:=ss) (i:=v6%(ss.length:Nat)) (Int.emod_nonneg _ (by omega)) (Int.emod_lt_of_pos _ (by omega))
 obtain ⟨s,eg,hsg⟩:=wz v7
 obtain ⟨j,ej,hj⟩:=zr v0 v1 v2 v3 v4 v5 v6 v7 k N hk
 have hp':p.1∈cs.map (·.1):=List.mem_map.mpr ⟨p,hp,rfl⟩
 have hq':q.1∈ss.map (·.1):=List.mem_map.mpr ⟨q,hq,rfl⟩
 rw [show ((8:Nat):Int)=8 from rfl] at es
 simp only [List.map_cons,List.map_nil] at es
 walk_at "d"
 rw [By]
 walk_at "d"
 rw [es]
 walk_at "d"
 rw [List.length_map,dG (by omega)]
 walk_at "d"
 rw [ex]
 walk_at "d"
 rw [List.length_map,dG (by omega)]
 walk_at "d"
 rw [ep]
 walk_at "d"
 rw [hd_0]
 walk_at "d"
 rw [List.length_map,dG (by omega)]
 walk_at "d"
 rw [eq]
 walk_at "d"
 rw [hd_0]
 walk_at "d"
 rw [e2]
 walk_at "d"
 rw [e3]
 walk_at "d"
 by_cases q1:v0%23<5
 · rw [dz (by simpa using q1)]
   walk_at "d"
   rw [eg]
   walk_at "d"
   exact ⟨_,rfl,.op hsg ha2 ha3⟩
 · rw [cP (by simpa using q1)]
   walk_at "d"
   by_cases q2:v0%23<17
   · rw [dz (by simpa using q2)]
     walk_at "d"
     obtain h5 | h5 | h5 | h5:v0%23%4=0∨v0%23%4=1∨v0%23%4=2∨v0%23%4=3:=by omega
     · rw [h5];exact ⟨_,rfl,.load hp'⟩
     · rw [h5];exact ⟨_,rfl,.store hp' ha2⟩
     · rw [h5];exact ⟨_,rfl,.take hq' ha2⟩
     · rw [h5];exact ⟨_,rfl,.lay hq' ha2 ha3⟩
   · rw [cP (by simpa using q2)]
     walk_at "d"
     by_cases q3:v0%23<20
     · rw [dz (by simpa using q3)]
       walk_at "d"
       obtain h5 | h5 | h5:v0%23%3=0∨v0%23%3=1∨v0%23%3=2:=by omega
       · rw [h5];exact ⟨_,rfl,.copy ha2⟩
       · rw [h5];exact ⟨_,rfl,.hear⟩
       · rw [h5];exact ⟨_,rfl,.say ha2⟩
     · rw [cP (by simpa using q3)]
       walk_at "d"
       by_cases q4:v0%23<22
       · rw [dz (by simpa using q4)]
         walk_at "d"
         rw [ej]
         walk_at "d"
         obtain h5 | h5:v7%2=0∨v7%2=1:=by omega
         · rw [h5];exact ⟨_,rfl,.iff (.inr ⟨x,rfl⟩) hj⟩
         · rw [h5];exact ⟨_,rfl,.iff ha2 hj⟩
       · rw [cP (by simpa using q4)]
         walk_at "d"
         rw [ej]
         walk_at "d"
         obtain h5 | h5 | h5:v7%3=0∨v7%3=1∨v7%3=2:=by omega
         · rw [h5];exact ⟨_,rfl,.fin ha2⟩
         · rw [h5];exact ⟨_,rfl,.say ha3⟩
         · rw [h5];exact ⟨_,rfl,.go hj⟩
abbrev Al:=List (Str×Int)
def dI (l:Al):List (Key×CV):=l.map fun p=>(.inr p.1,.dat (.int p.2))
def li (vs:List Int):CO:=.lst (vs.map fun v=>.dat (.int v))
def dP (ns:List Str) (ps:List Nat):List (Key×CV):=(ns.zip ps).map fun p=>(.inr p.1,.ref p.2)
def lkS {α:Type}:List (Str×α)->Str->Option α
 | [],_=>none
 | p::l,x=>if p.1=x then some p.2 else lkS l x
def ptS {α:Type}:List (Str×α)->Str->α->List (Str×α)
 | [],x,v=>[(x,v)]
 | p::l,x,v=>if p.1=x then (p.1,v)::l else p::ptS l x v
def oz {κ:Type} [DecidableEq κ] (p:κ×CV) (l:List (κ×CV)) (k:κ):lkC (p::l) k=if p.1=k then some p.2 else lkC l k:=by
 unfold lkC
 by_cases h:p.1=k
 · simp [h]
 · simp [h]
def mm (x:Str):∀ l:Al,lkC (dI l) (.inr x)=(lkS l x).map fun v=>.dat (.int v)
 | []=>rfl
 | p::l=>by
  have ih:=mm x l
  unfold dI at ih ⊢
  rw [List.map_cons,oz,lkS]
  by_cases h:p.1=x
  · rw [if_pos h,if_pos (by rw [h])];rfl
  · rw [if_neg h,if_neg (fun z=>h (Sum.inr.inj z)),ih]
def xz (x:Str) (v:Int):∀ l:Al,iy (dI l) (.inr x) (.dat (.int v))=dI (ptS l x v)
 | []=>rfl
 | p::l=>by
  have ih:=xz x v l
  unfold dI at ih ⊢
  rw [List.map_cons,iy,ptS]
  by_cases h:p.1=x
  · rw [if_pos (show ((.inr p.1,.dat (.int p.2)):Key×CV).1=.inr x by rw [h]),if_pos h];rfl
  · rw [if_neg (show ¬ ((.inr p.1,.dat (.int p.2)):Key×CV).1=.inr x from fun z=>h (Sum.inr.inj z)),if_neg h,ih];rfl
def fq {α:Type} (x:Str) (v:α):∀ l:List (Str×α),(ptS l x v).map (·.1)=if x∈l.map (·.1) then l.map (·.1) else l.map (·.1)++[x]
 | []=>rfl
 | p::l=>by
  have ih:=fq x v l
  rw [ptS]
  by_cases h:p.1=x
  · rw [if_pos h];simp [h]
  · rw [if_neg h,List.map_cons,ih]
    have h':¬ x=p.1:=fun e=>h e.symm
    by_cases hm:x∈l.map (·.1)
    · rw [if_pos hm,if_pos (by simp only [List.map_cons];exact List.mem_cons_of_mem _ hm)];rfl
    · rw [if_neg hm,if_neg (by simp only [List.map_cons];exact fun z=>by rcases List.mem_cons.mp z with z | z;exact h' z;exact hm z)];rfl
def xA {α:Type} {x:Str} {v:α} {l:List (Str×α)} (h:(l.map (·.1)).Nodup):((ptS l x v).map (·.1)).Nodup:=by
 rw [fq]
 split
 · exact h
 · rename_i hm
   exact List.nodup_append.mpr ⟨h,by simp,fun a ha b hb e=>by rw [List.mem_singleton.mp hb] at e;exact hm (e▸ha)⟩
def zu {α:Type} (x:Str) (v:α) (l:List (Str×α)):(ptS l x v).length<=l.length+1:=by
 have:=congrArg List.length (fq x v l)
 simp only [List.length_map] at this
 rw [this]
 split<;>simp
def wC (l:Al):(dI l).map (·.1)=(l.map (·.1)).map (fun x=>(.inr x:Key)):=by simp [dI]
def xB {l:Al} (h:(l.map (·.1)).Nodup):((dI l).map (·.1)).Nodup:=by
 rw [wC]
 exact List.pairwise_map.mpr (h.imp fun h z=>h (Sum.inr.inj z))
def jE {α:Type} {x:Str}:∀ {l:List (Str×α)},x∈l.map (·.1)->∃ v,lkS l x=some v
 | p::l,h=>by
  rw [lkS]
  by_cases e:p.1=x
  · exact ⟨p.2,by rw [if_pos e]⟩
  · rw [if_neg e]
    rcases List.mem_cons.mp h with h | h
    · exact (e h.symm).elim
    · exact jE h
def pN {l:Al} {x:Str} {v:Int} (hz:l.length<500) (nd:(l.map (·.1)).Nodup):kP (.dK (dI l)) (.str x) (.dat (.int v))=some (.dK (dI (ptS l x v))):=by
 unfold kP
 simp only [fm,Option.bind_some]
 rw [if_pos ⟨by have:(dI l).length=l.length:=by simp [dI]
                have h2:sizeLine ≥ 1000:=by decide
                omega,xB nd⟩,xz]
structure Sta where
 bx:Al
 cl:Al
 sh:List (Str×List Int)
 hs:Nat
 out:List Int
def oD:Option Int->Dt
 | none=>.non
 | some v=>.int v
def wo (t:Sta):Dt->Int
 | .str x=>(lkS t.bx x).getD 0
 | .int i=>i
 | _=>0
def ShAt (ch:CH):List Nat->List (Str×List Int)->Prop
 | [],[]=>True
 | p::ps,s::sh=>ch[p]?=some (li s.2)/\ShAt ch ps sh
 | _,_=>False
structure Pl where
 (r o i g b c s:Nat)
 ps:List Nat
def fns:List Str:=["rows","onward","incoming","outgoing","boxes","cells","shelves","place","hears","done","result"]
def pv (p:Pl) (rows:List Dt) (k:Nat) (h n:Int) (r:Option Int):List CV:=[.dat (.tup rows),.ref p.o,.ref p.i,.ref p.g,.ref p.b,.ref p.c,.ref p.s,.dat (.int k),.dat (.int h),.dat (.int n),.dat (oD r)]
def po (p:Pl) (rows:List Dt) (k:Nat) (h n:Int) (r:Option Int):CO:=.ins "Plain" fns (pv p rows k h n r)
def Pl.all (p:Pl):List Nat:=p.r::p.o::p.i::p.g::p.b::p.c::p.s::p.ps
structure RunAt (ch:CH) (p:Pl) (rows:List Dt) (on:List CV) (ls:List Int) (k:Nat) (n:Int) (r:Option Int) (t:Sta):Prop where
 hr:ch[p.r]?=some (po p rows k t.hs n r)
 ho:ch[p.o]?=some (.lst on)
 hi:ch[p.i]?=some (li ls)
 hg:ch[p.g]?=some (li t.out)
 hb:ch[p.b]?=some (.dK (dI t.bx))
 hc:ch[p.c]?=some (.dK (dI t.cl))
 hs:ch[p.s]?=some (.dK (dP (t.sh.map (·.1)) p.ps))
 hp:ShAt ch p.ps t.sh
 nd:p.all.Nodup
section
variable {ch:CH} {p:Pl} {rows:List Dt} {on:List CV} {ls:List Int} {k:Nat} {n:Int} {r:Option Int} {t:Sta}
def nh (R:RunAt ch p rows on ls k n r t) (x:Str):y16 [.ref p.r,.dat (.str x)] ch=some (.dat (.int ((lkS t.bx x).getD 0)),ch):=by
 unfold y16
 rw [bM]
 walk_at "m"
 rw [aZ (na (cW (bf rfl) R.hr rfl) R.hb (aH (bT rfl)) (aH (d:=.int 0) rfl) rfl),m7,mm]
 cases lkS t.bx x<;>rfl
def uz (R:RunAt ch p rows on ls k n r t) {a:Dt} (h:At a):z10 [.ref p.r,.dat a] ch=some (.dat (.int (wo t a)),ch):=by
 unfold z10
 rw [bM]
 walk_at "m"
 have e0:∀ d,vL 1 (lo [some (CV.ref p.r),some (.dat d)] ch)=some d:=fun d=>bT rfl
 have e1:∀ d,vB 1 (lo [some (CV.ref p.r),some (.dat d)] ch)=some d:=fun d=>bW rfl
 rcases h with ⟨j,_,rfl⟩ | ⟨x,rfl⟩
 · have c1:tD (kA (toD (fJ "str" (vB 1)))) [some (CV.ref p.r),some (.dat (.int j))] ch=some (false,ch):=gn (by unfold kA toD fJ;rw [e1];rfl)
   rw [aZ (v:=.dat (.int j)) (ch1:=ch) (by rw [qW,c1,dA];exact aH (e0 _))]
   rfl
 · have c1:tD (kA (toD (fJ "str" (vB 1)))) [some (CV.ref p.r),some (.dat (.str x))] ch=some (true,ch):=gn (by unfold kA toD fJ;rw [e1];rfl)
   rw [aZ (v:=.dat (.int ((lkS t.bx x).getD 0))) (ch1:=ch) (by rw [qW,c1,fW,fM (bf rfl) R.hr (by decide +kernel) (aS (aH (e0 _)) rfl)];exact nh R x)]
   rfl
end
section
variable {ch ch':CH} {p:Pl} {rows:List Dt} {on:List CV} {ls:List Int} {k:Nat} {n:Int} {r:Option Int} {t:Sta}
def eh {ps:List Nat} {i q:Nat} {o:CO} (hn:i∉ps) (hq:q∈ps):(ch.set i o)[q]?=ch[q]?:=gN fun e=>by subst e;exact hn hq
def ShAt.frame:∀ {ps:List Nat} {sh:List (Str×List Int)},(∀ q∈ps,ch'[q]?=ch[q]?)->ShAt ch ps sh->ShAt ch' ps sh
 | [],[],_,_=>trivial
 | [],_::_,_,h=>h.elim
 | _::_,[],_,h=>h.elim
 | q::ps,s::sh,hf,h=>⟨by rw [hf q (by simp)];exact h.1,ShAt.frame (fun z hz=>hf z (by simp [hz])) h.2⟩
def ShAt.len:∀ {ps:List Nat} {sh:List (Str×List Int)},ShAt ch ps sh->ps.length=sh.length
 | [],[],_=>rfl
 | [],_::_,h=>h.elim
 | _::_,[],h=>h.elim
 | q::ps,s::sh,h=>by simp [ShAt.len h.2]
def ShAt.lk {x:Str} {vs:List Int}:∀ {ps:List Nat} {sh:List (Str×List Int)},ShAt ch ps sh->lkS sh x=some vs->∃ q,q∈ps/\lkC (dP (sh.map (·.1)) ps) (.inr x)=some (.ref q)/\ch[q]?=some (li vs)∧
      ∀ ws,ps.Nodup->ShAt (ch.set q (li ws)) ps (ptS sh x ws)
 | [],[],_,h=>by cases h
 | [],_::_,h,_=>h.elim
 | _::_,[],h,_=>h.elim
 | q::ps,s::sh,h,hl=>by
  rw [lkS] at hl
  have e0:dP ((s::sh).map (·.1)) (q::ps)=(.inr s.1,.ref q)::dP (sh.map (·.1)) ps:=rfl
  rw [e0,oz]
  by_cases hx:s.1=x
  · rw [if_pos hx] at hl
    cases hl
    refine ⟨q,by simp,by rw [if_pos (by rw [hx])],h.1,fun ws nd=>?_⟩
    rw [ptS,if_pos hx]
    have hq:q<ch.length:=(gX h.1).1
    exact ⟨by simp [hq],h.2.frame fun z hz=>eh (List.nodup_cons.mp nd).1 hz⟩
  · rw [if_neg hx] at hl
    obtain ⟨q',hm,h1,h2,h3⟩:=ShAt.lk h.2 hl
    refine ⟨q',by simp [hm],by rw [if_neg (fun z=>hx (Sum.inr.inj z)),h1],h2,fun ws nd=>?_⟩
    rw [ptS,if_neg hx]
    refine ⟨?_,h3 ws (List.nodup_cons.mp nd).2⟩
    rw [gN fun e=>by subst e;exact (List.nodup_cons.mp nd).1 hm]
    exact h.1
def RunAt.frame (R:RunAt ch p rows on ls k n r t) (hf:∀ q∈p.all,ch'[q]?=ch[q]?):RunAt ch' p rows on ls k n r t where
 hr:=by rw [hf _ (by simp [Pl.all])];exact R.hr
 ho:=by rw [hf _ (by simp [Pl.all])];exact R.ho
 hi:=by rw [hf _ (by simp [Pl.all])];exact R.hi
 hg:=by rw [hf _ (by simp [Pl.all])];exact R.hg
 hb:=by rw [hf _ (by simp [Pl.all])];exact R.hb
 hc:=by rw [hf _ (by simp [Pl.all])];exact R.hc
 hs:=by rw [hf _ (by simp [Pl.all])];exact R.hs
 hp:=R.hp.frame fun q hq=>hf q (by simp [Pl.all,hq])
 nd:=R.nd
def RunAt.setR (R:RunAt ch p rows on ls k n r t) (k':Nat) (h':Nat) (n':Int) (r':Option Int):RunAt (ch.set p.r (po p rows k' h' n' r')) p rows on ls k' n' r' {t with hs:=h'}:=by
 have nd:=R.nd
 simp only [Pl.all,List.nodup_cons,List.mem_cons,not_or] at nd
 obtain ⟨⟨r1,r2,r3,r4,r5,r6,r7⟩,nd⟩:=nd
 have hl:=(gX R.hr).1
 exact ⟨by simp [hl],by rw [List.getElem?_set_ne r1];exact R.ho,by rw [List.getElem?_set_ne r2];exact R.hi,by rw [List.getElem?_set_ne r3];exact R.hg,by rw [List.getElem?_set_ne r4];exact R.hb,by rw [List.getElem?_set_ne r5];exact R.hc,
  by rw [gN r6];exact R.hs,R.hp.frame fun q hq=>eh r7 hq,R.nd⟩
def RunAt.setB (R:RunAt ch p rows on ls k n r t) (l:Al):RunAt (ch.set p.b (.dK (dI l))) p rows on ls k n r {t with bx:=l}:=by
 have nd:=R.nd
 simp only [Pl.all,List.nodup_cons,List.mem_cons,not_or] at nd
 obtain ⟨⟨r1,r2,r3,r4,r5,r6,r7⟩,⟨o1,o2,o3,o4,o5,o6⟩,⟨i1,i2,i3,i4,i5⟩,⟨g1,g2,g3,g4⟩,⟨b1,b2,b3⟩,⟨c1,c2⟩,s1,nd⟩:=nd
 have hl:=(gX R.hb).1
 exact ⟨by rw [List.getElem?_set_ne (Ne.symm r4)];exact R.hr,by rw [List.getElem?_set_ne (Ne.symm o3)];exact R.ho,by rw [List.getElem?_set_ne (Ne.symm i2)];exact R.hi,by rw [List.getElem?_set_ne (Ne.symm g1)];exact R.hg,by simp [hl],by rw [List.getElem?_set_ne b1];exact R.hc,
  by rw [gN b2];exact R.hs,R.hp.frame fun q hq=>eh b3 hq,R.nd⟩
def RunAt.setC (R:RunAt ch p rows on ls k n r t) (l:Al):RunAt (ch.set p.c (.dK (dI l))) p rows on ls k n r {t with cl:=l}:=by
 have nd:=R.nd
 simp only [Pl.all,List.nodup_cons,List.mem_cons,not_or] at nd
 obtain ⟨⟨r1,r2,r3,r4,r5,r6,r7⟩,⟨o1,o2,o3,o4,o5,o6⟩,⟨i1,i2,i3,i4,i5⟩,⟨g1,g2,g3,g4⟩,⟨b1,b2,b3⟩,⟨c1,c2⟩,s1,nd⟩:=nd
 have hl:=(gX R.hc).1
 exact ⟨by rw [List.getElem?_set_ne (Ne.symm r5)];exact R.hr,by rw [List.getElem?_set_ne (Ne.symm o4)];exact R.ho,by rw [List.getElem?_set_ne (Ne.symm i3)];exact R.hi,by rw [List.getElem?_set_ne (Ne.symm g2)];exact R.hg,by rw [List.getElem?_set_ne (Ne.symm b1)];exact R.hb,by simp [hl],
  by rw [gN c1];exact R.hs,R.hp.frame fun q hq=>eh c2 hq,R.nd⟩
def RunAt.setG (R:RunAt ch p rows on ls k n r t) (l:List Int):RunAt (ch.set p.g (li l)) p rows on ls k n r {t with out:=l}:=by
 have nd:=R.nd
 simp only [Pl.all,List.nodup_cons,List.mem_cons,not_or] at nd
 obtain ⟨⟨r1,r2,r3,r4,r5,r6,r7⟩,⟨o1,o2,o3,o4,o5,o6⟩,⟨i1,i2,i3,i4,i5⟩,⟨g1,g2,g3,g4⟩,⟨b1,b2,b3⟩,⟨c1,c2⟩,s1,nd⟩:=nd
 have hl:=(gX R.hg).1
 exact ⟨by rw [List.getElem?_set_ne (Ne.symm r3)];exact R.hr,by rw [List.getElem?_set_ne (Ne.symm o2)];exact R.ho,by rw [List.getElem?_set_ne (Ne.symm i1)];exact R.hi,by simp [hl],by rw [List.getElem?_set_ne g1];exact R.hb,by rw [List.getElem?_set_ne g2];exact R.hc,
  by rw [gN g3];exact R.hs,R.hp.frame fun q hq=>eh g4 hq,R.nd⟩
def ji {α:Type} {x:Str} {v w:α} {l:List (Str×α)} (h:lkS l x=some v):x∈l.map (·.1):=by
 induction l with
 | nil=>cases h
 | cons q l ih =>
  rw [lkS] at h
  by_cases e:q.1=x
  · simp [e]
  · rw [if_neg e] at h
    simp only [List.map_cons]
    exact List.mem_cons_of_mem _ (ih h)
def RunAt.setS (R:RunAt ch p rows on ls k n r t) {x:Str} {vs:List Int} (h:lkS t.sh x=some vs):∃ q,q∈p.ps/\lkC (dP (t.sh.map (·.1)) p.ps) (.inr x)=some (.ref q)/\ch[q]?=some (li vs)∧
  ∀ ws,RunAt (ch.set q (li ws)) p rows on ls k n r {t with sh:=ptS t.sh x ws}:=by
 have nd:=R.nd
 simp only [Pl.all,List.nodup_cons,List.mem_cons,not_or] at nd
 obtain ⟨⟨r1,r2,r3,r4,r5,r6,r7⟩,⟨o1,o2,o3,o4,o5,o6⟩,⟨i1,i2,i3,i4,i5⟩,⟨g1,g2,g3,g4⟩,⟨b1,b2,b3⟩,⟨c1,c2⟩,s1,nd⟩:=nd
 obtain ⟨q,hm,h1,h2,h3⟩:=R.hp.lk h
 refine ⟨q,hm,h1,h2,fun ws=>?_⟩
 have hk:(ptS t.sh x ws).map (·.1)=t.sh.map (·.1):=by rw [fq,if_pos (ji (w:=vs) h)]
 have ne:∀ {z:Nat},¬ z∈p.ps->q≠z:=fun hz e=>hz (e▸hm)
 refine ⟨by rw [gN (ne r7)];exact R.hr,by rw [gN (ne o6)];exact R.ho,by rw [gN (ne i5)];exact R.hi,by rw [gN (ne g4)];exact R.hg,by rw [gN (ne b3)];exact R.hb,by rw [gN (ne c2)];exact R.hc,?_,h3 ws nd,R.nd⟩
 rw [gN (ne s1)]
 dsimp only
 rw [hk]
 exact R.hs
end
def rix {D:De} {l:List Dt} {i:Int} {d:Dt} (h:vB 1 D=some (.tup l)) (hx:atI l i=some d):toD (d2 ax (vB 1) (kD (.int i))) D=some d:=by
 unfold toD d2 kD
 rw [h]
 simp only [Option.bind_some,lX,hx,Option.map_some]
 rfl
def kt {D:De} {l:List Dt} {x y:Str} {b:Bool} (h:vB 1 D=some (.tup (.str x::l))) (e:decide (x=y)=b:=by decide +kernel):tB2 (gEq false) (toD (d2 ax (vB 1) (kD (.int 0)))) (kD (.str y)) D=some b:=by
 unfold tB2
 rw [show d2 (gEq false) (toD (d2 ax (vB 1) (kD (.int 0)))) (kD (.str y)) D=gEq false (.str x) (.str y) by
  show ((toD (d2 ax (vB 1) (kD (.int 0))) D).bind fun x=>(kD (.str y) D).bind fun z=>gEq false x z)=_
  rw [rix (d:=.str x) h mQ]
  rfl,ud,e]
 rfl
def ktn {D:De} {l:List Dt} {x y:Str} {b:Bool} (h:vB 1 D=some (.tup (.str x::l))) (e:(!decide (x=y))=b:=by decide +kernel):tB2 (gEq true) (toD (d2 ax (vB 1) (kD (.int 0)))) (kD (.str y)) D=some b:=by
 unfold tB2
 rw [show d2 (gEq true) (toD (d2 ax (vB 1) (kD (.int 0)))) (kD (.str y)) D=gEq true (.str x) (.str y) by
  show ((toD (d2 ax (vB 1) (kD (.int 0))) D).bind fun x=>(kD (.str y) D).bind fun z=>gEq true x z)=_
  rw [rix (d:=.str x) h mQ]
  rfl,show gEq true (.str x) (.str y)=some (.leaf (.bl (!decide (x=y)))) from rfl,e]
 rfl
section
variable {ch ch':CH} {p:Pl} {rows:List Dt} {on:List CV} {ls:List Int} {k:Nat} {n:Int} {r:Option Int} {t:Sta}
inductive Stp (ls:List Int) (k:Nat) (t:Sta):Dt->Nat->Sta->Prop
 | load {x c:Str} {v:Int}:lkS t.cl c=some v->Stp ls k t (.tup [.str "load",.str x,.str c]) (k+1) {t with bx:=ptS t.bx x v}
 | store {c:Str} {a:Dt}:c∈t.cl.map (·.1)->At a->Stp ls k t (.tup [.str "store",.str c,a]) (k+1) {t with cl:=ptS t.cl c (wo t a)}
 | take {x s:Str} {a:Dt} {vs:List Int}:lkS t.sh s=some vs->At a->Stp ls k t (.tup [.str "take",.str x,.str s,a]) (k+1) {t with bx:=ptS t.bx x (vs.getD (wo t a%(vs.length:Int)).toNat 0)}
 | lay {s:Str} {a b:Dt} {vs:List Int}:lkS t.sh s=some vs->At a->At b->Stp ls k t (.tup [.str "lay",.str s,a,b]) (k+1) {t with sh:=ptS t.sh s (vs.set (wo t a%(vs.length:Int)).toNat (wo t b))}
 | hear {x:Str}:Stp ls k t (.tup [.str "hear",.str x]) (k+1) {t with bx:=ptS t.bx x (ls.getD t.hs 0),hs:=t.hs+1}
 | copy {x:Str} {a:Dt}:At a->Stp ls k t (.tup [.str "copy",.str x,a]) (k+1) {t with bx:=ptS t.bx x (wo t a)}
 | op {x s:Str} {a b:Dt} {v:Int}:At a->At b->InR v->q44 [.str s,.int (wo t a),.int (wo t b)]=some (.leaf (.int v))->y15 [.str s,.int (wo t a),.int (wo t b)]=some (.leaf (.int v))->Stp ls k t (.tup [.str "op",.str x,.str s,a,b]) (k+1) {t with bx:=ptS t.bx x v}
 | say {a:Dt}:At a->Stp ls k t (.tup [.str "say",a]) (k+1) {t with out:=t.out++[wo t a]}
 | iffy {a:Dt} {m:Nat}:At a->wo t a≠0->Stp ls k t (.tup [.str "if",a,.int m]) m t
 | ifn {a:Dt} {m:Nat}:At a->wo t a=0->Stp ls k t (.tup [.str "if",a,.int m]) (k+1) t
 | go {m:Nat}:Stp ls k t (.tup [.str "go",.int m]) m t
def zv {r q:Nat} {row:Dt} {vs:List Int} {c:Str} {ns:List Str} {l:List CV} (hr:ch[r]?=some (.ins c ns l)) (hq:ch[q]?=some (li vs)):lo [some (.ref r),some (.dat row),some (.ref q)] ch=[none,some (.leaf row),some (.lst (vs.map .int))]:=by
 have hne:q≠r:=fun z=>by rw [z,hr] at hq;cases hq
 unfold lo
 simp only [loA,hr,hq,Option.bind_some,li,tvO,List.not_mem_nil,if_false,List.mem_singleton,if_neg hne,eO,Option.map_some]
def xC {r:Option T} {row:Option T} {vs:List Int}:toD (aW fj (ag (vB 2) aI)) [r,row,some (.lst (vs.map .int))]=some (.int vs.length):=by
 walk_at "d"
 rw [List.length_map]
def wD (R:RunAt ch p rows on ls k n r t):q28 [.ref p.r] ch=some (.dat (.int (ls.getD t.hs 0)),ch.set p.r (po p rows k ((t.hs+1:Nat):Int) n r)):=by
 unfold q28
 rw [bM]
 walk_at "m"
 have R':=R.setR k (t.hs+1) n r
 rw [aK,bR (cW (bf rfl) R.hr rfl),aE,aK,m8 (bf rfl) R.hr (by decide) (n:=(t.hs:Int)) rfl (aH (d:=.int 1) rfl),aE]
 have e1:(CO.ins "Plain" (cO fns (pv p rows k t.hs n r) "hears" (.dat (.int ((t.hs:Int)+1)))).1 (cO fns (pv p rows k t.hs n r) "hears" (.dat (.int ((t.hs:Int)+1)))).2)=po p rows k ((t.hs+1:Nat):Int) n r:=rfl
 show cU (bE _ [some (.ref p.r),some (.dat (.int t.hs))] (ch.set p.r (.ins "Plain" (cO fns (pv p rows k t.hs n r) "hears" (.dat (.int ((t.hs:Int)+1)))).1 (cO fns (pv p rows k t.hs n r) "hears" (.dat (.int ((t.hs:Int)+1)))).2)))=_
 rw [e1]
 have hin:eF "Plain" "incoming" (eV 0) [some (.ref p.r),some (.dat (.int t.hs))] (ch.set p.r (po p rows k ((t.hs+1:Nat):Int) n r))=some (.ref p.i,_):=cW (bf rfl) R'.hr rfl
 have hv:eD (vL 1) [some (.ref p.r),some (.dat (.int t.hs))] (ch.set p.r (po p rows k ((t.hs+1:Nat):Int) n r))=some (.dat (.int t.hs),_):=aH (bT rfl)
 have hlen:eB fj (ak (eF "Plain" "incoming" (eV 0)) aB) [some (.ref p.r),some (.dat (.int t.hs))] (ch.set p.r (po p rows k ((t.hs+1:Nat):Int) n r))=some (.dat (.int ls.length),ch.set p.r (po p rows k ((t.hs+1:Nat):Int) n r)):=by
  rw [qX (aS hin rfl) (ds:=[.lst (ls.map .int)]) (by simp only [vws,vw,R'.hi,Option.bind_some,li,vwO,eO,Option.map_some]) (t:=.leaf (.int ls.length)) (by show some (T.leaf (.int ((ls.map Dt.int).length)))=_;rw [List.length_map])]
  rfl
 have hc:d6 (e2 (j0 fun i j=>decide (i<j)) (eD (vL 1)) (eB fj (ak (eF "Plain" "incoming" (eV 0)) aB))) [some (.ref p.r),some (.dat (.int t.hs))] (ch.set p.r (po p rows k ((t.hs+1:Nat):Int) n r))=some (decide ((t.hs:Int)<ls.length),ch.set p.r (po p rows k ((t.hs+1:Nat):Int) n r)):=
  hV (by rw [cY hv hlen (y:=.int t.hs) (z:=.int ls.length) rfl rfl (t:=.leaf (.bl (decide ((t.hs:Int)<ls.length)))) rfl];rfl)
 by_cases h:t.hs<ls.length
 · rw [aZ (v:=.dat (.int (ls.getD t.hs 0))) (ch1:=ch.set p.r (po p rows k ((t.hs+1:Nat):Int) n r)) (by
    rw [qW,hc,wl (by simpa using h)]
    exact cX hin hv R'.hi (by show atI (ls.map fun v=>CV.dat (.int v)) (t.hs:Int)=_;rw [bZ,List.getElem?_map,gQ h,List.getD_eq_getElem?_getD,gQ h];rfl))]
   rfl
 · rw [aZ (v:=.dat (.int (ls.getD t.hs 0))) (ch1:=ch.set p.r (po p rows k ((t.hs+1:Nat):Int) n r)) (by
    rw [qW,hc,wm (by simpa using h),List.getD_eq_getElem?_getD,List.getElem?_eq_none (by omega)]
    exact aH rfl)]
   rfl
end
section
variable {ch ch':CH} {p:Pl} {rows:List Dt} {on:List CV} {ls:List Int} {k:Nat} {n:Int} {r:Option Int} {t:Sta} {δ:Sl} {g g1 g2:Fs} {ft:De->Option Bool}
def dg (h:ft (lo δ ch)=some false):aP (cc (tD ft) g cy) g2 δ ch=g2 δ ch:=by rw [aK,cV,gn h,dA];rfl
def fZ (h:ft (lo δ ch)=some true):aP (cc (tD ft) g1 g) g2 δ ch=jf (g1 δ ch) g2:=by rw [aK,cV,gn h,fW]
def ni (h:ft (lo δ ch)=some true):cc (tD ft) g1 g δ ch=g1 δ ch:=by rw [cV,gn h,fW]
def dX (h:ft (lo δ ch)=some false):cc (tD ft) g g2 δ ch=g2 δ ch:=by rw [cV,gn h,dA]
def jF {x:Str} {vs:List Int} (h0:∀ q∈t.sh,0<q.2.length/\q.2.length<300) (h:lkS t.sh x=some vs):0<vs.length:=by
 have key:∀ l:List (Str×List Int),lkS l x=some vs->∃ q∈l,q.2=vs:=fun l=>by
  induction l with
  | nil=>intro h;cases h
  | cons q l ih =>
   intro h
   rw [lkS] at h
   by_cases e:q.1=x
   · rw [if_pos e] at h;exact ⟨q,by simp,Option.some.inj h⟩
   · rw [if_neg e] at h
     obtain ⟨z,hz,e⟩:=ih h
     exact ⟨z,by simp [hz],e⟩
 obtain ⟨q,hq,e⟩:=key _ h
 rw [<- e]
 exact (h0 q hq).1
def nj (a:Int) {m:Nat} (h:0<m):0<=a%(m:Int)/\a%(m:Int)<m:=⟨Int.emod_nonneg _ (by omega),Int.emod_lt_of_pos _ (by omega)⟩
def uA {vs:List Int} (a:Int) (h:0<vs.length):atI (vs.map fun v=>CV.dat (.int v)) (a%(vs.length:Int))=some (.dat (.int (vs.getD (a%(vs.length:Int)).toNat 0))):=by
 obtain ⟨h0,h1⟩:=nj a h
 generalize a%(vs.length:Int)=i at h0 h1
 obtain ⟨j,rfl⟩:=Int.eq_ofNat_of_zero_le h0
 have hj:j<vs.length:=by omega
 rw [bZ,List.getElem?_map,gQ hj,Int.toNat_natCast,List.getD_eq_getElem?_getD,gQ hj]
 rfl
def nl {fa fb:Fg} {a:Int} {m:Nat} (h1:fa δ ch=some (.dat (.int a),ch)) (h2:fb δ ch=some (.dat (.int m),ch)) (h:0<m):e2 bV fa fb δ ch=some (.dat (.int (a%(m:Int))),ch):=by
 rw [cY h1 h2 (y:=.int a) (z:=.int m) rfl rfl (dG (by omega))]
 rfl
inductive Sb (ls:List Int) (t:Sta):List Dt->Int->Nat->Prop
 | load {x c:Str} {v:Int}:lkS t.cl c=some v->Sb ls t [.str "load",.str x,.str c] v t.hs
 | take {x s:Str} {a:Dt} {vs:List Int}:lkS t.sh s=some vs->At a->Sb ls t [.str "take",.str x,.str s,a] (vs.getD (wo t a%(vs.length:Int)).toNat 0) t.hs
 | hear {x:Str}:Sb ls t [.str "hear",.str x] (ls.getD t.hs 0) (t.hs+1)
 | copy {x:Str} {a:Dt}:At a->Sb ls t [.str "copy",.str x,a] (wo t a) t.hs
 | op {x s:Str} {a b:Dt} {v:Int}:At a->At b->q44 [.str s,.int (wo t a),.int (wo t b)]=some (.leaf (.int v))->Sb ls t [.str "op",.str x,.str s,a,b] v t.hs
def iD (R:RunAt ch p rows on ls k n r t) {a:Dt} (h:At a) {fd:De->Option Dt} (hs:δ[0]?=some (some (.ref p.r))) (hd:fd (lo δ ch)=some a):eM "Plain" "worth" z10 (eV 0) (ak (eD fd) aB) δ ch=some (.dat (.int (wo t a)),ch):=by
 rw [fM (bf hs) R.hr (by decide +kernel) (aS (aH hd) rfl)]
 exact uz R h
def zw (R:RunAt ch p rows on ls k n r t) (h0:∀ q∈t.sh,0<q.2.length/\q.2.length<300) {l:List Dt} {v:Int} {h':Nat} (s:Sb ls t l v h'):∃ ch',z38 [.ref p.r,.dat (.tup l)] ch=some (.dat (.int v),ch')/\(ch'=ch∨ch'=ch.set p.r (po p rows k (h':Int) n r))/\RunAt ch' p rows on ls k n r {t with hs:=h'}:=by
 unfold z38
 rw [bM]
 walk_at "m"
 have hv:vB 1 (lo [some (CV.ref p.r),some (.dat (.tup l)),none] ch)=some (.tup l):=bW rfl
 cases s with
 | @copy x a ha =>
  refine ⟨ch,?_,.inl rfl,R⟩
  rw [fZ (kt hv),aZ (iD R ha rfl (rix hv rfl))]
  rfl
 | @op x s a b v ha hb hv' =>
  refine ⟨ch,?_,.inl rfl,R⟩
  rw [dg (kt hv),fZ (kt hv),aZ (ux (aS (aH (d:=.str s) (rix hv rfl)) (aS (iD R ha rfl (rix hv rfl)) (aS (iD R hb rfl (rix hv rfl)) rfl))) (ds:=[.str s,.int (wo t a),.int (wo t b)]) rfl hv')]
  rfl
 | @load x c v h =>
  refine ⟨ch,?_,.inl rfl,R⟩
  rw [dg (kt hv),dg (kt hv),fZ (kt hv),
   aZ (cX (cW (bf rfl) R.hr rfl) (aH (rix hv rfl)) R.hc (x:=.dat (.int v)) (by show lkC (dI t.cl) (.inr c)=_;rw [mm,h];rfl))]
  rfl
 | @take x s a vs h ha =>
  refine ⟨ch,?_,.inl rfl,R⟩
  obtain ⟨q,hm,h1,h2,_⟩:=R.setS h
  have hl:=zv (row:=.tup [.str "take",.str x,.str s,a]) R.hr h2
  have hv2:vB 1 (lo [some (CV.ref p.r),some (.dat (.tup [.str "take",.str x,.str s,a])),some (.ref q)] ch)=some (.tup [.str "take",.str x,.str s,a]):=bW rfl
  rw [dg (kt hv),dg (kt hv),dg (kt hv),fZ (kt hv),
   aK,bR (cX (cW (bf rfl) R.hr rfl) (aH (d:=.str s) (rix hv rfl)) R.hs (x:=.ref q) (show ixO (.dK (dP (t.sh.map (·.1)) p.ps)) (.str s)=some (.ref q) from h1)),aE]
  show cU (jf (bE _ [some (.ref p.r),some (.dat (.tup [.str "take",.str x,.str s,a])),some (.ref q)] ch) _)=_
  rw [aZ (cX (bf rfl) (nl (iD R ha rfl (rix hv2 rfl)) (aH (by rw [hl];exact xC)) (jF h0 h)) h2 (uA (wo t a) (jF h0 h)))]
  rfl
 | @hear x =>
  refine ⟨_,?_,.inr rfl,R.setR k (t.hs+1) n r⟩
  rw [dg (kt hv),dg (kt hv),dg (kt hv),dg (kt hv),
   aZ (by rw [fM (bf rfl) R.hr (by decide +kernel) rfl];exact wD R)]
  rfl
end
section
variable {ch ch':CH} {p:Pl} {rows:List Dt} {on:List CV} {ls:List Int} {k:Nat} {n:Int} {r:Option Int} {t t':Sta} {δ:Sl}
structure Loc (p:Pl) (ch ch':CH):Prop where
 out:∀ q,q∉p.all->ch'[q]?=ch[q]?
 len:ch'.length=ch.length
def Loc.set {q:Nat} {o:CO} (h:q∈p.all):Loc p ch (ch.set q o):=⟨fun z hz=>gN fun e=>by subst e;exact hz h,List.length_set⟩
def Loc.trans {ch1 ch2 ch3:CH} (a:Loc p ch1 ch2) (b:Loc p ch2 ch3):Loc p ch1 ch3:=⟨fun q hq=>(b.out q hq).trans (a.out q hq),b.len.trans a.len⟩
def Loc.refl:Loc p ch ch:=⟨fun _ _=>rfl,rfl⟩
structure Wf (m:Nat) (t:Sta):Prop where
 ol:t.out.length<=m
 hh:t.hs<=m
 bi:∀ p∈t.bx,InR p.2
 ci:∀ p∈t.cl,InR p.2
 si:∀ p∈t.sh,∀ v∈p.2,InR v
 bn:(t.bx.map (·.1)).Nodup
 bl:t.bx.length<=m
 cn:(t.cl.map (·.1)).Nodup
 cz:t.cl.length<300
 s0:∀ p∈t.sh,0<p.2.length/\p.2.length<300
def zx {f g:De->Option Bool} {D:De} (h1:f D=some true) (h2:g D=some true):mH f g D=some true:=by
 unfold mH
 rw [h1]
 simp only [Option.bind_some,if_true,h2]
def xD {f g:De->Option Bool} {D:De} (h1:f D=some false):mH f g D=some false:=by
 unfold mH
 rw [h1]
 rfl
def Bz {f g:De->Option Bool} {D:De} {b:Bool} (h1:f D=some true) (h2:g D=some b):mH f g D=some b:=by
 unfold mH
 rw [h1]
 simp only [Option.bind_some,if_true,h2]
def oA {fa fe:Fg} {c1 c2:CH} {v:CV} {i:Nat} {l l':List CV} (h0:c1[i]?=some (.lst l')) (h1:fa δ ch=some (.ref i,c1)) (h2:fe δ c1=some (v,c2)) (h3:c2[i]?=some (.lst l)) (h4:l.length<sizeLine):kO fa fe δ ch=some (.nx δ (c2.set i (.lst (l++[v])))):=by
 unfold kO
 rw [h1,Option.bind_some]
 dsimp only
 rw [h2,Option.bind_some]
 simp only [h0,h3]
 rw [if_pos h4]
def ra {vs:List Int} {v:Int}:(CO.lst ((vs.map fun v=>CV.dat (.int v))++[.dat (.int v)]))=li (vs++[v]):=by simp [li]
def uB {vs:List Int} {i v:Int} (h0:0<=i) (h1:i<vs.length):kP (li vs) (.int i) (.dat (.int v))=some (li (vs.set i.toNat v)):=by
 unfold kP li
 simp only [asI,Option.bind_some]
 unfold ixN
 rw [if_pos h0,List.length_map,if_pos h1]
 simp only [Option.map_some,List.map_set]
def jj (R:RunAt ch p rows on ls k n r t) {m:Nat} (w:Wf m t) (hm:m<300) {x:Str} {y:Str} {l:List Dt} {v:Int} {h':Nat} (s:Sb ls t (.str y::.str x::l) v h')
  (e1:decide (y="store")=false:=by decide +kernel) (e2:decide (y="lay")=false:=by decide +kernel) (e3:decide (y="say")=false:=by decide +kernel) (e4:decide (y="if")=false:=by decide +kernel) (e5:decide (y="go")=false:=by decide +kernel) :
  ∃ ch',z14 [.ref p.r,.dat (.tup (.str y::.str x::l))] ch=some (.dat .non,ch')/\RunAt ch' p rows on ls k n r {t with bx:=ptS t.bx x v,hs:=h'}/\Loc p ch ch':=by
 unfold z14
 rw [bM]
 walk_at "m"
 have hv:vB 1 (lo [some (CV.ref p.r),some (.dat (.tup (.str y::.str x::l))),none] ch)=some (.tup (.str y::.str x::l)):=bW rfl
 obtain ⟨ch1,h1,h2,R1⟩:=zw R w.s0 s
 have hv1:vB 1 (lo [some (CV.ref p.r),some (.dat (.tup (.str y::.str x::l))),none] ch1)=some (.tup (.str y::.str x::l)):=bW rfl
 rw [dX (kt hv e1),dX (kt hv e2),dX (kt hv e3),ni (zx (ktn hv (by rw [e4];rfl)) (ktn hv (by rw [e5];rfl)))]
 rw [ck (v:=.dat (.int v)) (ch1:=ch1) (by rw [fM (bf rfl) R.hr (by decide +kernel) (aS (aH (bT rfl)) rfl)];exact h1) (cW (bf rfl) R1.hr rfl) (aH (d:=.str x) (rix hv1 (by rw [ug];rfl))) R1.hb (pN (l:=t.bx) (by have:=w.bl;omega) w.bn),dc]
 refine ⟨_,rfl,R1.setB _,?_⟩
 rcases h2 with rfl | rfl
 · exact Loc.set (by simp [Pl.all])
 · exact (Loc.set (by simp [Pl.all])).trans (Loc.set (by simp [Pl.all]))
def BA (R:RunAt ch p rows on ls k n r t) {m:Nat} (w:Wf m t) (hm:m<300) {row:Dt} {k':Nat} (s:Stp ls k t row k' t'):∃ ch',z14 [.ref p.r,.dat row] ch=some (.dat .non,ch')/\RunAt ch' p rows on ls k n r t'/\Loc p ch ch':=by
 cases s with
 | load h=>exact jj R w hm (.load h)
 | take h ha=>exact jj R w hm (.take h ha)
 | hear=>exact jj R w hm .hear
 | copy ha=>exact jj R w hm (.copy ha)
 | op ha hb _ hv _=>exact jj R w hm (.op ha hb hv)
 | @say a ha =>
  unfold z14
  rw [bM]
  walk_at "m"
  have hv:vB 1 (lo [some (CV.ref p.r),some (.dat (.tup [.str "say",a])),none] ch)=some (.tup [.str "say",a]):=bW rfl
  rw [dX (kt hv),dX (kt hv),ni (kt hv),oA R.hg (cW (x:=.ref p.g) (bf rfl) R.hr rfl) (iD R ha rfl (rix hv rfl)) R.hg (by have:=w.ol;rw [List.length_map];exact kJ (by omega)),dc]
  refine ⟨_,rfl,?_,Loc.set (q:=p.g) (by simp [Pl.all])⟩
  rw [ra]
  exact R.setG _
 | iffy ha h =>
  unfold z14
  rw [bM]
  walk_at "m"
  have hv:∀ row:Dt,vB 1 (lo [some (CV.ref p.r),some (.dat row),none] ch)=some row:=fun row=>bW rfl
  rw [dX (kt (hv _)),dX (kt (hv _)),dX (kt (hv _)),dX (xD (ktn (hv _)))]
  exact ⟨_,rfl,R,Loc.refl⟩
 | ifn ha h =>
  unfold z14
  rw [bM]
  walk_at "m"
  have hv:∀ row:Dt,vB 1 (lo [some (CV.ref p.r),some (.dat row),none] ch)=some row:=fun row=>bW rfl
  rw [dX (kt (hv _)),dX (kt (hv _)),dX (kt (hv _)),dX (xD (ktn (hv _)))]
  exact ⟨_,rfl,R,Loc.refl⟩
 | go =>
  unfold z14
  rw [bM]
  walk_at "m"
  have hv:∀ row:Dt,vB 1 (lo [some (CV.ref p.r),some (.dat row),none] ch)=some row:=fun row=>bW rfl
  rw [dX (kt (hv _)),dX (kt (hv _)),dX (kt (hv _)),dX (Bz (ktn (hv _)) (ktn (hv _)))]
  exact ⟨_,rfl,R,Loc.refl⟩
 | @store c a hc ha =>
  unfold z14
  rw [bM]
  walk_at "m"
  have hv:vB 1 (lo [some (CV.ref p.r),some (.dat (.tup [.str "store",.str c,a])),none] ch)=some (.tup [.str "store",.str c,a]):=bW rfl
  rw [ni (kt hv),ck (iD R ha rfl (rix hv rfl)) (cW (bf rfl) R.hr rfl) (aH (d:=.str c) (rix hv rfl)) R.hc (pN (l:=t.cl) (by have:=w.cz;omega) w.cn),dc]
  exact ⟨_,rfl,R.setC _,Loc.set (by simp [Pl.all])⟩
 | @lay s a b vs h ha hb =>
  unfold z14
  rw [bM]
  walk_at "m"
  have hv:vB 1 (lo [some (CV.ref p.r),some (.dat (.tup [.str "lay",.str s,a,b])),none] ch)=some (.tup [.str "lay",.str s,a,b]):=bW rfl
  obtain ⟨q,hq,h1,h2,h3⟩:=R.setS h
  have hl:=zv (row:=.tup [.str "lay",.str s,a,b]) R.hr h2
  have hv2:vB 1 (lo [some (CV.ref p.r),some (.dat (.tup [.str "lay",.str s,a,b])),some (.ref q)] ch)=some (.tup [.str "lay",.str s,a,b]):=bW rfl
  have hz:=jF w.s0 h
  obtain ⟨m0,m1⟩:=nj (wo t a) hz
  rw [dX (kt hv),ni (kt hv),aK,bR (cX (cW (bf rfl) R.hr rfl) (aH (d:=.str s) (rix hv rfl)) R.hs (x:=.ref q) (show ixO (.dK (dP (t.sh.map (·.1)) p.ps)) (.str s)=some (.ref q) from h1)),aE]
  show ∃ ch',cU (cT _ _ _ [some (.ref p.r),some (.dat (.tup [.str "lay",.str s,a,b])),some (.ref q)] ch)=_/\_
  rw [ck (iD R hb rfl (rix hv2 rfl)) (bf rfl) (nl (iD R ha rfl (rix hv2 rfl)) (aH (by rw [hl];exact xC)) hz) h2 (uB m0 m1),dc]
  exact ⟨_,rfl,h3 _,Loc.set (by simp [Pl.all,hq])⟩
end
def la {α:Type} {P:α->Prop} {x:Str} {v:α} (hv:P v):∀ {l:List (Str×α)},(∀ p∈l,P p.2)->∀ p∈ptS l x v,P p.2
 | [],_,p,hp=>by
  cases List.mem_singleton.mp hp
  exact hv
 | q::l,h,p,hp=>by
  rw [ptS] at hp
  by_cases e:q.1=x
  · rw [if_pos e] at hp
    rcases List.mem_cons.mp hp with rfl | hp
    · exact hv
    · exact h p (by simp [hp])
  · rw [if_neg e] at hp
    rcases List.mem_cons.mp hp with rfl | hp
    · exact h _ (by simp)
    · exact la hv (fun z hz=>h z (by simp [hz])) p hp
def jG {α:Type} {P:α->Prop} {x:Str} {v:α}:∀ {l:List (Str×α)},(∀ p∈l,P p.2)->lkS l x=some v->P v
 | [],_,e=>by cases e
 | q::l,h,e=>by
  rw [lkS] at e
  by_cases c:q.1=x
  · rw [if_pos c] at e
    cases e
    exact h q (by simp)
  · rw [if_neg c] at e
    exact jG (fun z hz=>h z (by simp [hz])) e
def wE:InR 0:=⟨by decide,by rw [dy];decide⟩
def rb {l:List Int} (h:∀ v∈l,InR v) (i:Nat):InR (l.getD i 0):=by
 rw [List.getD_eq_getElem?_getD]
 cases e:l[i]? with
 | none=>exact wE
 | some v=>exact h v (List.mem_of_getElem? e)
inductive Lead (k:Nat):Dt->List Dt->Prop
 | go {m:Dt}:Lead k (.tup [.str "go",m]) [m]
 | iff {a m:Dt}:Lead k (.tup [.str "if",a,m]) [m,.int ((k:Int)+1)]
 | fin {a:Dt}:Lead k (.tup [.str "end",a]) []
 | nxt {y:Str} {l:List Dt}:decide (y="go")=false->decide (y="if")=false->decide (y="end")=false->Lead k (.tup (.str y::l)) [.int ((k:Int)+1)]
def uC {k:Nat} {y:Str} {l w:List Dt} (h:Lead k (.tup (.str y::l)) w) (e1:decide (y="go")=false) (e2:decide (y="if")=false) (e3:decide (y="end")=false):w=[.int ((k:Int)+1)]:=by
 generalize hr:Dt.tup (.str y::l)=row at h
 cases h with
 | go=>injection hr with hr;injection hr with h1 _;injection h1 with h1;rw [h1] at e1;simp at e1
 | iff=>injection hr with hr;injection hr with h1 _;injection h1 with h1;rw [h1] at e2;simp at e2
 | fin=>injection hr with hr;injection hr with h1 _;injection h1 with h1;rw [h1] at e3;simp at e3
 | nxt _ _ _=>rfl
def wF {k:Nat} {m:Dt} {w:List Dt} (h:Lead k (.tup [.str "go",m]) w):w=[m]:=by
 generalize hr:Dt.tup [.str "go",m]=row at h
 cases h with
 | go=>injection hr with hr;injection hr with _ hr;injection hr with hr _;rw [hr]
 | iff=>injection hr with hr;injection hr with h1 _;injection h1 with h1;exact absurd h1 (by decide +kernel)
 | fin=>injection hr with hr;injection hr with h1 _;injection h1 with h1;exact absurd h1 (by decide +kernel)
 | nxt e1 _ _=>injection hr with hr;injection hr with h1 _;injection h1 with h1;rw [<- h1] at e1;simp at e1
def rc {k:Nat} {a m:Dt} {w:List Dt} (h:Lead k (.tup [.str "if",a,m]) w):w=[m,.int ((k:Int)+1)]:=by
 generalize hr:Dt.tup [.str "if",a,m]=row at h
 cases h with
 | go=>injection hr with hr;injection hr with h1 _;injection h1 with h1;exact absurd h1 (by decide +kernel)
 | iff=>injection hr with hr;injection hr with _ hr;injection hr with _ hr;injection hr with hr _;rw [hr]
 | fin=>injection hr with hr;injection hr with h1 _;injection h1 with h1;exact absurd h1 (by decide +kernel)
 | nxt _ e1 _=>injection hr with hr;injection hr with h1 _;injection h1 with h1;rw [<- h1] at e1;simp at e1
section
variable {ch ch':CH} {p:Pl} {rows:List Dt} {on:List CV} {ls:List Int} {k k':Nat} {n:Int} {r:Option Int} {t t':Sta} {δ:Sl}
def rf {m:Nat} (w:Wf m t) {a:Dt} (h:At a):InR (wo t a):=by
 rcases h with ⟨n,hn,rfl⟩ | ⟨x,rfl⟩
 · exact hn
 · show InR ((lkS t.bx x).getD 0)
   cases e:lkS t.bx x with
   | none=>exact wE
   | some v=>exact jG (P:=InR) w.bi e
def Stp.kind {row:Dt} (s:Stp ls k t row k' t'):∃ y l,row=.tup (.str y::l)/\decide (y="end")=false:=by
 cases s<;>exact ⟨_,_,rfl,by decide +kernel⟩
def wG {vs:List Int} {i:Nat} {v:Int} {sh:List (Str×List Int)} {x:Str} (hl:lkS sh x=some vs) (h:∀ q∈sh,0<q.2.length/\q.2.length<300):∀ q∈ptS sh x (vs.set i v),0<q.2.length/\q.2.length<300:=
 la (P:=fun l:List Int=>0<l.length/\l.length<300) (by rw [List.length_set];exact jG (P:=fun l:List Int=>0<l.length/\l.length<300) h hl) h
def zy {vs:List Int} {i:Nat} {v:Int} (h:∀ x∈vs,InR x) (hv:InR v):∀ x∈vs.set i v,InR x:=fun x hx=>by
 rcases List.mem_or_eq_of_mem_set hx with hx | rfl
 · exact h x hx
 · exact hv
def Wf.box {m:Nat} (w:Wf m t) {x:Str} {v:Int} (hv:InR v) {h':Nat} (hh:h'<=m+1):Wf (m+1) {t with bx:=ptS t.bx x v,hs:=h'}:=
 ⟨Nat.le_succ_of_le w.ol,hh,la (P:=InR) hv w.bi,w.ci,w.si,xA w.bn,Nat.le_trans (zu _ _ _) (Nat.succ_le_succ w.bl),w.cn,w.cz,w.s0⟩
def Wf.up {m:Nat} (w:Wf m t):Wf (m+1) t:=⟨Nat.le_succ_of_le w.ol,Nat.le_succ_of_le w.hh,w.bi,w.ci,w.si,w.bn,Nat.le_succ_of_le w.bl,w.cn,w.cz,w.s0⟩
def Stp.wf {row:Dt} {m:Nat} (s:Stp ls k t row k' t') (w:Wf m t) (hls:∀ v∈ls,InR v):Wf (m+1) t':=by
 cases s with
 | load h=>exact w.box (jG (P:=InR) w.ci h) (Nat.le_succ_of_le w.hh)
 | take h ha=>exact w.box (rb (jG (P:=fun l:List Int=>∀ v∈l,InR v) w.si h) _) (Nat.le_succ_of_le w.hh)
 | hear=>exact w.box (rb hls _) (Nat.succ_le_succ w.hh)
 | copy ha=>exact w.box (rf w ha) (Nat.le_succ_of_le w.hh)
 | op ha hb hv _ _=>exact w.box hv (Nat.le_succ_of_le w.hh)
 | say ha=>exact ⟨by simp only [List.length_append,List.length_singleton];exact Nat.succ_le_succ w.ol,Nat.le_succ_of_le w.hh,w.bi,w.ci,w.si,w.bn,Nat.le_succ_of_le w.bl,w.cn,w.cz,w.s0⟩
 | iffy ha h=>exact w.up
 | ifn ha h=>exact w.up
 | go=>exact w.up
 | @store c a hc ha =>
  refine ⟨Nat.le_succ_of_le w.ol,Nat.le_succ_of_le w.hh,w.bi,la (P:=InR) (rf w ha) w.ci,w.si,w.bn,Nat.le_succ_of_le w.bl,xA w.cn,?_,w.s0⟩
  have:=congrArg List.length (fq c (wo t a) t.cl)
  rw [if_pos hc] at this
  simp only [List.length_map] at this
  dsimp only
  rw [this]
  exact w.cz
 | @lay s a b vs h ha hb=>exact ⟨Nat.le_succ_of_le w.ol,Nat.le_succ_of_le w.hh,w.bi,w.ci,la (P:=fun l:List Int=>∀ v∈l,InR v) (zy (jG (P:=fun l:List Int=>∀ v∈l,InR v) w.si h) (rf w hb)) w.si,w.bn,Nat.le_succ_of_le w.bl,w.cn,w.cz,wG h w.s0⟩
def Stp.cl_keys {row:Dt} (s:Stp ls k t row k' t'):t'.cl.map (·.1)=t.cl.map (·.1):=by
 cases s with
 | store hc ha=>dsimp only;rw [fq,if_pos hc]
 | load | take | hear | copy | lay | op | say | iffy | ifn | go=>rfl
def Stp.sh_keys {row:Dt} (s:Stp ls k t row k' t'):t'.sh.map (·.1)=t.sh.map (·.1):=by
 cases s with
 | @lay s a b vs h ha hb=>dsimp only;rw [fq,if_pos (ji (w:=vs) h)]
 | load | take | hear | copy | store | op | say | iffy | ifn | go=>rfl
def Row.stp {row:Dt} {N m:Nat} (w:Wf m t) (r:Row (t.cl.map (·.1)) (t.sh.map (·.1)) N row):(∃ a,row=.tup [.str "end",a]/\At a)∨∃ k' t',Stp ls k t row k' t'/\(k+1<N->k'<N):=by
 cases r with
 | load h=>obtain ⟨v,e⟩:=jE h;exact .inr ⟨_,_,.load e,id⟩
 | store h ha=>exact .inr ⟨_,_,.store h ha,id⟩
 | take h ha=>obtain ⟨v,e⟩:=jE h;exact .inr ⟨_,_,.take e ha,id⟩
 | lay h ha hb=>obtain ⟨v,e⟩:=jE h;exact .inr ⟨_,_,.lay e ha hb,id⟩
 | hear=>exact .inr ⟨_,_,.hear,id⟩
 | copy ha=>exact .inr ⟨_,_,.copy ha,id⟩
 | @op x s a b hs ha hb =>
  obtain ⟨v,hv,e1,e2⟩:=values s hs (wo t a) (wo t b) (rf w ha)
  exact .inr ⟨_,_,.op ha hb hv e1 e2,id⟩
 | say ha=>exact .inr ⟨_,_,.say ha,id⟩
 | @iff a m ha hm =>
  by_cases h:wo t a=0
  · exact .inr ⟨_,_,.ifn ha h,id⟩
  · exact .inr ⟨_,_,.iffy ha h,fun _=>hm⟩
 | go hm=>exact .inr ⟨_,_,.go,fun _=>hm⟩
 | fin ha=>exact .inl ⟨_,rfl,ha⟩
def gp (R:RunAt ch p rows on ls k n r t):q13 [.ref p.r] ch=some (.dat (.bl r.isSome),ch):=by
 unfold q13
 rw [bM]
 walk_at "m"
 rw [aZ (v:=.dat (.bl r.isSome)) (ch1:=ch) (by rw [cY (cW (x:=.dat (oD r)) (bf rfl) R.hr rfl) (aH (d:=.non) rfl) (y:=oD r) (z:=.non) rfl rfl (t:=.leaf (.bl r.isSome)) (by cases r<;>rfl)];rfl)]
 rfl
def lc (R:RunAt ch p rows on ls k n r t) {y:Str} {l w:List Dt} {m:Int} (ho:on[k]?=some (.dat (.tup w))) (b:Bool)
  (hb:fV (tD (tB2 (gEq false) (toD (d2 ax (vB 1) (kD (.int 0)))) (kD (.str "if")))) (d6 (e2 (gEq false) (eM "Plain" "worth" z10 (eV 0) (ak (eD (toD (d2 ax (vB 1) (kD (.int 1))))) aB)) (eD (kD (.int 0))))) [some (CV.ref p.r),some (.dat (.tup (.str y::l))),some (.dat (.tup w))] ch=some (b,ch))
  (hw:w[if b then 1 else 0]?=some (.int m)):y12 [.ref p.r,.dat (.tup (.str y::l))] ch=some (.dat (.int m),ch):=by
 unfold y12
 rw [bM]
 walk_at "m"
 rw [aK,bR (cX (cW (bf rfl) R.hr rfl) (cW (x:=.dat (.int k)) (bf rfl) R.hr rfl) R.ho (x:=.dat (.tup w)) (by show atI on (k:Int)=_;rw [bZ];exact ho)),aE]
 show cU (aP _ _ [some (.ref p.r),some (.dat (.tup (.str y::l))),some (.dat (.tup w))] ch)=_
 have hv2:vB 2 (lo [some (CV.ref p.r),some (.dat (.tup (.str y::l))),some (.dat (.tup w))] ch)=some (.tup w):=bW rfl
 have ix:∀ i:Nat,w[i]?=some (.int m)->toD (d2 ax (vB 2) (kD (.int (i:Int)))) (lo [some (CV.ref p.r),some (.dat (.tup (.str y::l))),some (.dat (.tup w))] ch)=some (.int m):=fun i hi=>by
  unfold toD d2 kD
  rw [hv2]
  simp only [Option.bind_some,lX,bZ,hi,Option.map_some]
  rfl
 rw [aK,cV,hb]
 cases b with
 | true =>
  rw [fW,aZ (aH (fd:=toD (d2 ax (vB 2) (kD (.int 1)))) (d:=.int m) (ix 1 hw))]
  rfl
 | false =>
  rw [dA]
  show cU (jf (some (.nx _ ch)) _)=_
  rw [aE,aZ (aH (fd:=toD (d2 ax (vB 2) (kD (.int 0)))) (d:=.int m) (ix 0 hw))]
  rfl
def mn (R:RunAt ch p rows on ls k n r t) {y:Str} {l w:List Dt} {m:Int} (ho:on[k]?=some (.dat (.tup w))) (hy:decide (y="if")=false) (hw:w[0]?=some (.int m)):y12 [.ref p.r,.dat (.tup (.str y::l))] ch=some (.dat (.int m),ch):=
 lc R ho false (by
  have hv:vB 1 (lo [some (CV.ref p.r),some (.dat (.tup (.str y::l))),some (.dat (.tup w))] ch)=some (.tup (.str y::l)):=bW rfl
  unfold fV
  rw [gn (kt hv hy)]
  rfl) hw
def mo (R:RunAt ch p rows on ls k n r t) {a:Dt} {l w:List Dt} {m:Int} (ho:on[k]?=some (.dat (.tup w))) (ha:At a) (b:Bool) (hb:decide (wo t a=0)=b) (hw:w[if b then 1 else 0]?=some (.int m)):y12 [.ref p.r,.dat (.tup (.str "if"::a::l))] ch=some (.dat (.int m),ch):=
 lc R ho b (by
  have hv:vB 1 (lo [some (CV.ref p.r),some (.dat (.tup (.str "if"::a::l))),some (.dat (.tup w))] ch)=some (.tup (.str "if"::a::l)):=bW rfl
  unfold fV
  rw [gn (kt hv (b:=true) (by decide +kernel)),Option.bind_some]
  show d6 _ _ _=_
  apply hV
  rw [cY (iD R ha rfl (rix hv (by rw [ug];rfl))) (aH (d:=.int 0) rfl) (y:=.int (wo t a)) (z:=.int 0) rfl rfl yP,hb]
  rfl) hw
def dM {w:List Dt} (R:RunAt ch p rows on ls k n r t) (ho:on[k]?=some (.dat (.tup w))) {y:Str} {l:List Dt} (h:Lead k (.tup (.str y::l)) w) (e1:decide (y="go")=false:=by decide +kernel) (e2:decide (y="if")=false:=by decide +kernel) (e3:decide (y="end")=false:=by decide +kernel) :
  y12 [.ref p.r,.dat (.tup (.str y::l))] ch=some (.dat (.int ((k+1:Nat):Int)),ch):=mn R ho e2 (by rw [uC h e1 e2 e3];rfl)
def sr {row:Dt} {w:List Dt} (s:Stp ls k t row k' t') (R:RunAt ch p rows on ls k n r t') (ho:on[k]?=some (.dat (.tup w))) (hL:Lead k row w):y12 [.ref p.r,.dat row] ch=some (.dat (.int k'),ch):=by
 cases s with
 | load h=>exact dM R ho hL
 | store h ha=>exact dM R ho hL
 | take h ha=>exact dM R ho hL
 | lay h ha hb=>exact dM R ho hL
 | hear=>exact dM R ho hL
 | copy ha=>exact dM R ho hL
 | op ha hb _ _ _=>exact dM R ho hL
 | say ha=>exact dM R ho hL
 | go=>exact mn R ho (by decide +kernel) (by rw [wF hL];rfl)
 | iffy ha h=>exact mo R ho ha false (by simp [h]) (by rw [rc hL];rfl)
 | ifn ha h=>exact mo R ho ha true (by simp [h]) (by rw [rc hL];rfl)
def ir (R:RunAt ch p rows on ls k n none t) {m:Nat} (w:Wf m t) (hm:m<300) {row:Dt} (s:Stp ls k t row k' t') (hrow:rows[k]?=some row) {W:List Dt} (ho:on[k]?=some (.dat (.tup W))) (hL:Lead k row W) :
  ∃ ch',z12 [.ref p.r] ch=some (.dat .non,ch')/\RunAt ch' p rows on ls k' (n+1) none t'/\Loc p ch ch':=by
 unfold z12
 rw [bM]
 walk_at "m"
 obtain ⟨y,l,rfl,k1⟩:=s.kind
 have e0:eM "Plain" "ended" q13 (eV 0) aB [some (.ref p.r),none] ch=some (.dat (.bl false),ch):=by
  rw [fM (bf rfl) R.hr (by decide +kernel) rfl]
  exact gp R
 rw [aK,cV,jg e0,dA]
 show ∃ ch',cU (jf (some (.nx _ ch)) _)=_/\_
 rw [aE,aK,bR (m9 (cW (x:=.dat (.tup rows)) (bf rfl) R.hr rfl) (cW (x:=.dat (.int k)) (bf rfl) R.hr rfl) (e:=.tup (.str y::l)) (by show (atI rows (k:Int)).map T.leaf=_;rw [bZ,hrow];rfl)),aE]
 show ∃ ch',cU (aP _ _ [some (.ref p.r),some (.dat (.tup (.str y::l)))] ch)=_/\_
 rw [aK,m8 (bf rfl) R.hr (by decide) (n:=n) rfl (aH (d:=.int 1) rfl),aE]
 have R1:=R.setR k t.hs (n+1) none
 show ∃ ch',cU (cc _ _ _ [some (.ref p.r),some (.dat (.tup (.str y::l)))] (ch.set p.r (po p rows k t.hs (n+1) none)))=_/\_
 generalize hc1:ch.set p.r (po p rows k t.hs (n+1) none)=ch1 at R1
 have hv:vB 1 (lo [some (CV.ref p.r),some (.dat (.tup (.str y::l)))] ch1)=some (.tup (.str y::l)):=bW rfl
 obtain ⟨ch2,h2,R2,L2⟩:=BA (t:=t) R1 w hm s
 rw [dX (kt hv k1),aK,dL (by rw [fM (bf rfl) R1.hr (by decide +kernel) (aS (aH (bT rfl)) rfl)];exact h2),aE]
 rw [kT (v:=.dat (.int (k':Int))) (ch1:=ch2) (by rw [fM (bf rfl) R2.hr (by decide +kernel) (aS (aH (bT rfl)) rfl)];exact sr s R2 ho hL) (bf rfl) R2.hr (by decide),dc]
 refine ⟨_,rfl,R2.setR k' t'.hs (n+1) none,?_⟩
 have L1:Loc p ch ch1:=by rw [<- hc1];exact Loc.set (by simp [Pl.all])
 exact (L1.trans L2).trans (Loc.set (by simp [Pl.all]))
def oB (R:RunAt ch p rows on ls k n none t) {a:Dt} (ha:At a) (hrow:rows[k]?=some (.tup [.str "end",a])) :
  ∃ ch',z12 [.ref p.r] ch=some (.dat .non,ch')/\RunAt ch' p rows on ls k (n+1) (some (wo t a)) t/\Loc p ch ch':=by
 unfold z12
 rw [bM]
 walk_at "m"
 have e0:eM "Plain" "ended" q13 (eV 0) aB [some (.ref p.r),none] ch=some (.dat (.bl false),ch):=by
  rw [fM (bf rfl) R.hr (by decide +kernel) rfl]
  exact gp R
 rw [aK,cV,jg e0,dA]
 show ∃ ch',cU (jf (some (.nx _ ch)) _)=_/\_
 rw [aE,aK,bR (m9 (cW (x:=.dat (.tup rows)) (bf rfl) R.hr rfl) (cW (x:=.dat (.int k)) (bf rfl) R.hr rfl) (e:=.tup [.str "end",a]) (by show (atI rows (k:Int)).map T.leaf=_;rw [bZ,hrow];rfl)),aE]
 show ∃ ch',cU (aP _ _ [some (.ref p.r),some (.dat (.tup [.str "end",a]))] ch)=_/\_
 rw [aK,m8 (bf rfl) R.hr (by decide) (n:=n) rfl (aH (d:=.int 1) rfl),aE]
 have R1:=R.setR k t.hs (n+1) none
 show ∃ ch',cU (cc _ _ _ [some (.ref p.r),some (.dat (.tup [.str "end",a]))] (ch.set p.r (po p rows k t.hs (n+1) none)))=_/\_
 generalize hc1:ch.set p.r (po p rows k t.hs (n+1) none)=ch1 at R1
 have hv:vB 1 (lo [some (CV.ref p.r),some (.dat (.tup [.str "end",a]))] ch1)=some (.tup [.str "end",a]):=bW rfl
 rw [ni (kt hv),kT (iD R1 ha rfl (rix hv rfl)) (bf rfl) R1.hr (by decide),dc]
 refine ⟨_,rfl,R1.setR k t.hs (n+1) (some (wo t a)),?_⟩
 have L1:Loc p ch ch1:=by rw [<- hc1];exact Loc.set (by simp [Pl.all])
 exact L1.trans (Loc.set (by simp [Pl.all]))
def su {v:Int} (R:RunAt ch p rows on ls k n (some v) t):z12 [.ref p.r] ch=some (.dat .non,ch):=by
 unfold z12
 rw [bM]
 walk_at "m"
 have e0:eM "Plain" "ended" q13 (eV 0) aB [some (.ref p.r),none] ch=some (.dat (.bl true),ch):=by
  rw [fM (bf rfl) R.hr (by decide +kernel) rfl]
  exact gp R
 rw [aK,cV,jg e0,fW]
 rfl
end
def fN {D:De} {l:List Dt} {i:Int} {d:Dt} (h:vB 0 D=some (.tup l)) (hx:atI l i=some d):toD (d2 ax (vB 0) (kD (.int i))) D=some d:=by
 unfold toD d2 kD
 rw [h]
 simp only [Option.bind_some,lX,hx,Option.map_some]
 rfl
def rixm {D:De} {x:Dt} {l:List Dt} {d:Dt} (h:vB 0 D=some (.tup (x::l))) (hx:(x::l)[l.length]?=some d):toD (d2 ax (vB 0) (toD (pe (kD (.int 1))))) D=some d:=by
 have e:toD (pe (kD (.int 1))) D=some (.int (-1)):=rfl
 show (((vB 0 D).bind fun x=>(toD (pe (kD (.int 1))) D).bind fun y=>ax x y).map T.d)=_
 rw [h,e]
 simp only [Option.bind_some,lX,yU,hx,Option.map_some]
 rfl
def kt0 {D:De} {l:List Dt} {x y:Str} {b:Bool} (h:vB 0 D=some (.tup (.str x::l))) (e:decide (x=y)=b:=by decide +kernel):tB2 (gEq false) (toD (d2 ax (vB 0) (kD (.int 0)))) (kD (.str y)) D=some b:=by
 unfold tB2
 rw [show d2 (gEq false) (toD (d2 ax (vB 0) (kD (.int 0)))) (kD (.str y)) D=gEq false (.str x) (.str y) by
  show ((toD (d2 ax (vB 0) (kD (.int 0))) D).bind fun x=>(kD (.str y) D).bind fun z=>gEq false x z)=_
  rw [fN (d:=.str x) h mQ]
  rfl,ud,e]
 rfl
def kt0n {D:De} {l:List Dt} {x y:Str} {b:Bool} (h:vB 0 D=some (.tup (.str x::l))) (e:(!decide (x=y))=b:=by decide +kernel):tB2 (gEq true) (toD (d2 ax (vB 0) (kD (.int 0)))) (kD (.str y)) D=some b:=by
 unfold tB2
 rw [show d2 (gEq true) (toD (d2 ax (vB 0) (kD (.int 0)))) (kD (.str y)) D=gEq true (.str x) (.str y) by
  show ((toD (d2 ax (vB 0) (kD (.int 0))) D).bind fun x=>(kD (.str y) D).bind fun z=>gEq true x z)=_
  rw [fN (d:=.str x) h mQ]
  rfl,show gEq true (.str x) (.str y)=some (.leaf (.bl (!decide (x=y)))) from rfl,e]
 rfl
structure Nl where
 (n g b p:Nat)
 ps:List Nat
def Nl.all (q:Nl):List Nat:=q.n::q.g::q.b::q.p::q.ps
noncomputable def nd' (q:Nl) (ls:List Int) (k:Nat) (n h:Int) (r:Option Int):List (Key×CV):=[(.inr "at",.dat (.int k)),(.inr "count",.dat (.int n)),(.inr "heard",.dat (.int h)),(.inr "answer",.dat (oD r)),(.inr "sent",.ref q.g),(.inr "letters",.dat (.lst (ls.map .int))),(.inr "boxes",.ref q.b),(.inr "places",.ref q.p)]
def no (q:Nl) (ls:List Int) (k:Nat) (n h:Int) (r:Option Int):CO:=.dK (nd' q ls k n h r)
def plc (t:Sta):List (Str×List Int):=t.cl.map (fun c=>(c.1,[c.2]))++t.sh
structure NowAt (ch:CH) (q:Nl) (ls:List Int) (k:Nat) (n:Int) (r:Option Int) (t:Sta):Prop where
 hn:ch[q.n]?=some (no q ls k n t.hs r)
 hg:ch[q.g]?=some (li t.out)
 hb:ch[q.b]?=some (.dK (dI t.bx))
 hp:ch[q.p]?=some (.dK (dP ((plc t).map (·.1)) q.ps))
 hs:ShAt ch q.ps (plc t)
 nd:q.all.Nodup
 dn:((plc t).map (·.1)).Nodup
 pl:(plc t).length<400
structure Loc2 (ps:List Nat) (ch ch':CH):Prop where
 out:∀ q,q<ch.length->q∉ps->ch'[q]?=ch[q]?
 len:ch.length<=ch'.length
def rg {α:Type} {x:Str} {v:α}:∀ {l m:List (Str×α)},x∉l.map (·.1)->lkS (l++m) x=lkS m x
 | [],_,_=>rfl
 | p::l,m,h=>by
  rw [List.cons_append,lkS,if_neg (fun e=>h (by simp [e])),rg (v:=v) (fun z=>h (by simp only [List.map_cons];exact List.mem_cons_of_mem _ z))]
def rh {α:Type} {x:Str} {v:α}:∀ {l m:List (Str×α)},x∉l.map (·.1)->ptS (l++m) x v=l++ptS m x v
 | [],_,_=>rfl
 | p::l,m,h=>by
  rw [List.cons_append,ptS,if_neg (fun e=>h (by simp [e])),rh (fun z=>h (by simp only [List.map_cons];exact List.mem_cons_of_mem _ z))]
  rfl
def pO {x:Str} {v:Int} {m:List (Str×List Int)}:∀ {l:Al},lkS l x=some v->lkS (l.map (fun c=>(c.1,[c.2]))++m) x=some [v]
 | [],h=>by cases h
 | p::l,h=>by
  rw [lkS] at h
  rw [List.map_cons,List.cons_append,lkS]
  by_cases e:p.1=x
  · rw [if_pos e] at h ⊢
    cases h
    rfl
  · rw [if_neg e] at h ⊢
    exact pO h
def uD {x:Str} {v:Int} {m:List (Str×List Int)}:∀ {l:Al},x∈l.map (·.1)->ptS (l.map (fun c=>(c.1,[c.2]))++m) x [v]=(ptS l x v).map (fun c=>(c.1,[c.2]))++m
 | [],h=>by cases h
 | p::l,h=>by
  rw [List.map_cons,List.cons_append,ptS,ptS]
  by_cases e:p.1=x
  · rw [if_pos e,if_pos e]
    rfl
  · rw [if_neg e,if_neg e,uD (by
     rcases List.mem_cons.mp h with h | h
     · exact (e h.symm).elim
     · exact h)]
    rfl
def jk (t:Sta):(plc t).map (·.1)=t.cl.map (·.1)++t.sh.map (·.1):=by simp [plc,Function.comp_def]
def nn:∀ {ns:List Str} {ps:List Nat},ns.length=ps.length->(dP ns ps).map (·.1)=ns.map fun y=>(.inr y:Key)
 | [],_,_=>rfl
 | _::_,[],h=>by cases h
 | n::ns,p::ps,h=>by
  have:=nn (ns:=ns) (ps:=ps) (by simpa using h)
  simp only [dP,List.zip_cons_cons,List.map_cons] at this ⊢
  rw [this]
def wH {n:Str} {ns:List Str} {p:Nat} {ps:List Nat}:dP (n::ns) (p::ps)=(.inr n,.ref p)::dP ns ps:=rfl
def rj {x:Str} {z:Nat}:∀ {ns:List Str} {ps:List Nat},ns.length=ps.length->x∈ns->∃ ps',iy (dP ns ps) (.inr x) (.ref z)=dP ns ps'/\(∀ y∈ps',y∈ps∨y=z)/\(ps.Nodup->z∉ps->ps'.Nodup)∧
  ∀ (ch:CH) (sh:List (Str×List Int)) (vs:List Int),sh.map (·.1)=ns->ShAt ch ps sh->ch[z]?=some (li vs)->ShAt ch ps' (ptS sh x vs)
 | [],_,_,h=>by cases h
 | _::_,[],h,_=>by cases h
 | n::ns,p::ps,hl,hx=>by
  rw [wH,iy]
  by_cases e:n=x
  · refine ⟨z::ps,by rw [if_pos (show ((.inr n,.ref p):Key×CV).1=.inr x by rw [e])];rfl,fun y hy=>?_,fun nd hz=>?_,fun ch sh vs hs h hv=>?_⟩
    · rcases List.mem_cons.mp hy with rfl | hy
      · exact .inr rfl
      · exact .inl (List.mem_cons_of_mem _ hy)
    · exact List.nodup_cons.mpr ⟨fun h=>hz (List.mem_cons_of_mem _ h),(List.nodup_cons.mp nd).2⟩
    · cases sh with
      | nil=>exact h.elim
      | cons s sh =>
       have h1:s.1=n:=by simp only [List.map_cons,List.cons.injEq] at hs;exact hs.1
       rw [ptS,if_pos (h1.trans e)]
       exact ⟨hv,h.2⟩
  · obtain ⟨ps',e1,e2,e3,e4⟩:=rj (z:=z) (ns:=ns) (ps:=ps) (by simpa using hl) (by
     rcases List.mem_cons.mp hx with h | h
     · exact (e h.symm).elim
     · exact h)
    refine ⟨p::ps',by rw [if_neg (show ¬ ((.inr n,.ref p):Key×CV).1=.inr x from fun w=>e (Sum.inr.inj w)),e1];rfl,fun y hy=>?_,fun nd hz=>?_,fun ch sh vs hs h hv=>?_⟩
    · rcases List.mem_cons.mp hy with rfl | hy
      · exact .inl (by simp)
      · rcases e2 y hy with h | h
        · exact .inl (List.mem_cons_of_mem _ h)
        · exact .inr h
    · obtain ⟨n1,n2⟩:=List.nodup_cons.mp nd
      refine List.nodup_cons.mpr ⟨fun h=>?_,e3 n2 fun h=>hz (List.mem_cons_of_mem _ h)⟩
      rcases e2 p h with h | h
      · exact n1 h
      · exact hz (by rw [<- h];simp)
    · cases sh with
      | nil=>exact h.elim
      | cons s sh =>
       simp only [List.map_cons,List.cons.injEq] at hs
       rw [ptS,if_neg (by rw [hs.1];exact e)]
       exact ⟨h.1,e4 ch sh vs hs.2 h.2 hv⟩
section
variable {ch ch':CH} {q:Nl} {ls:List Int} {k:Nat} {n:Int} {r:Option Int} {t t':Sta} {δ:Sl}
def Loc2.set {ps:List Nat} {i:Nat} {o:CO} (h:i∈ps):Loc2 ps ch (ch.set i o):=⟨fun z _ hz=>gN fun e=>by subst e;exact hz h,by rw [List.length_set];exact nL _⟩
def Loc2.refl {ps:List Nat}:Loc2 ps ch ch:=⟨fun _ _ _=>rfl,nL _⟩
def Loc2.trans {ps:List Nat} {ch1 ch2 ch3:CH} (a:Loc2 ps ch1 ch2) (b:Loc2 ps ch2 ch3):Loc2 ps ch1 ch3:=⟨fun q hq hm=>(b.out q (Nat.lt_of_lt_of_le hq a.len) hm).trans (a.out q hq hm),Nat.le_trans a.len b.len⟩
def Loc2.app {ps:List Nat} {g:CH}:Loc2 ps ch (ch++g):=⟨fun q hq _=>List.getElem?_append_left hq,by simp⟩
def ShAt.app {g:CH}:∀ {ps:List Nat} {sh:List (Str×List Int)},ShAt ch ps sh->ShAt (ch++g) ps sh
 | [],[],_=>trivial
 | [],_::_,h=>h.elim
 | _::_,[],h=>h.elim
 | q::ps,s::sh,h=>⟨cw h.1,ShAt.app h.2⟩
def NowAt.app {g:CH} (N:NowAt ch q ls k n r t):NowAt (ch++g) q ls k n r t:=⟨cw N.hn,cw N.hg,cw N.hb,cw N.hp,N.hs.app,N.nd,N.dn,N.pl⟩
def RunAt.app {p:Pl} {rows:List Dt} {on:List CV} {g:CH} (R:RunAt ch p rows on ls k n r t):RunAt (ch++g) p rows on ls k n r t:=⟨cw R.hr,cw R.ho,cw R.hi,cw R.hg,cw R.hb,cw R.hc,cw R.hs,R.hp.app,R.nd⟩
def NowAt.frame (N:NowAt ch q ls k n r t) (hf:∀ z∈q.all,ch'[z]?=ch[z]?):NowAt ch' q ls k n r t where
 hn:=by rw [hf _ (by simp [Nl.all])];exact N.hn
 hg:=by rw [hf _ (by simp [Nl.all])];exact N.hg
 hb:=by rw [hf _ (by simp [Nl.all])];exact N.hb
 hp:=by rw [hf _ (by simp [Nl.all])];exact N.hp
 hs:=N.hs.frame fun z hz=>hf z (by simp [Nl.all,hz])
 nd:=N.nd
 dn:=N.dn
 pl:=N.pl
def NowAt.setN (N:NowAt ch q ls k n r t) (k':Nat) (n':Int) (h':Nat) (r':Option Int):NowAt (ch.set q.n (no q ls k' n' (h':Nat) r')) q ls k' n' r' {t with hs:=h'}:=by
 have nd:=N.nd
 simp only [Nl.all,List.nodup_cons,List.mem_cons,not_or] at nd
 obtain ⟨⟨n1,n2,n3,n4⟩,nd⟩:=nd
 have hl:=(gX N.hn).1
 exact ⟨by simp [hl],by rw [List.getElem?_set_ne n1];exact N.hg,by rw [List.getElem?_set_ne n2];exact N.hb,by rw [List.getElem?_set_ne n3];exact N.hp,N.hs.frame fun z hz=>eh n4 hz,N.nd,N.dn,N.pl⟩
def NowAt.setB (N:NowAt ch q ls k n r t) (l:Al):NowAt (ch.set q.b (.dK (dI l))) q ls k n r {t with bx:=l}:=by
 have nd:=N.nd
 simp only [Nl.all,List.nodup_cons,List.mem_cons,not_or] at nd
 obtain ⟨⟨n1,n2,n3,n4⟩,⟨g1,g2,g3⟩,⟨b1,b2⟩,p1,nd⟩:=nd
 have hl:=(gX N.hb).1
 exact ⟨by rw [List.getElem?_set_ne (Ne.symm n2)];exact N.hn,by rw [List.getElem?_set_ne (Ne.symm g1)];exact N.hg,by simp [hl],by rw [List.getElem?_set_ne b1];exact N.hp,N.hs.frame fun z hz=>eh b2 hz,N.nd,N.dn,N.pl⟩
def NowAt.setG (N:NowAt ch q ls k n r t) (l:List Int):NowAt (ch.set q.g (li l)) q ls k n r {t with out:=l}:=by
 have nd:=N.nd
 simp only [Nl.all,List.nodup_cons,List.mem_cons,not_or] at nd
 obtain ⟨⟨n1,n2,n3,n4⟩,⟨g1,g2,g3⟩,⟨b1,b2⟩,p1,nd⟩:=nd
 have hl:=(gX N.hg).1
 exact ⟨by rw [List.getElem?_set_ne (Ne.symm n1)];exact N.hn,by simp [hl],by rw [List.getElem?_set_ne g1];exact N.hb,by rw [List.getElem?_set_ne g2];exact N.hp,N.hs.frame fun z hz=>eh g3 hz,N.nd,N.dn,N.pl⟩
def NowAt.lt (N:NowAt ch q ls k n r t):∀ z∈q.all,z<ch.length:=by
 have sh:∀ {ps:List Nat} {s:List (Str×List Int)},ShAt ch ps s->∀ z∈ps,z<ch.length:=fun {ps}=>by
  induction ps with
  | nil=>intro s _ z hz;cases hz
  | cons p ps ih =>
   intro s h z hz
   cases s with
   | nil=>exact h.elim
   | cons a s =>
    rcases List.mem_cons.mp hz with rfl | hz
    · exact (gX h.1).1
    · exact ih h.2 z hz
 intro z hz
 simp only [Nl.all,List.mem_cons] at hz
 rcases hz with rfl | rfl | rfl | rfl | hz
 · exact (gX N.hn).1
 · exact (gX N.hg).1
 · exact (gX N.hb).1
 · exact (gX N.hp).1
 · exact sh N.hs z hz
def NowAt.shn (N:NowAt ch q ls k n r t) {x:Str} (h:x∈t.sh.map (·.1)):x∉(t.cl.map (fun c=>(c.1,[c.2])):List (Str×List Int)).map (·.1):=fun z=>by
 have nd:=N.dn
 rw [jk] at nd
 rw [List.map_map] at z
 exact (List.nodup_append.mp nd).2.2 x z x h rfl
def NowAt.lkH (N:NowAt ch q ls k n r t) {x:Str} {vs:List Int} (h:lkS t.sh x=some vs):lkS (plc t) x=some vs:=by
 unfold plc
 rw [rg (v:=vs) (N.shn (ji (w:=vs) h)),h]
def NowAt.setS (N:NowAt ch q ls k n r t) {x:Str} {vs:List Int} (h:lkS t.sh x=some vs):∃ z,z∈q.ps/\lkC (dP ((plc t).map (·.1)) q.ps) (.inr x)=some (.ref z)/\ch[z]?=some (li vs)∧
  ∀ ws,NowAt (ch.set z (li ws)) q ls k n r {t with sh:=ptS t.sh x ws}:=by
 have nd:=N.nd
 simp only [Nl.all,List.nodup_cons,List.mem_cons,not_or] at nd
 obtain ⟨⟨n1,n2,n3,n4⟩,⟨g1,g2,g3⟩,⟨b1,b2⟩,p1,nd⟩:=nd
 obtain ⟨z,hm,h1,h2,h3⟩:=N.hs.lk (N.lkH h)
 refine ⟨z,hm,h1,h2,fun ws=>?_⟩
 have ep:plc {t with sh:=ptS t.sh x ws}=ptS (plc t) x ws:=by
  unfold plc
  rw [rh (N.shn (ji (w:=vs) h))]
 have hk:(plc {t with sh:=ptS t.sh x ws}).map (·.1)=(plc t).map (·.1):=by rw [ep,fq,if_pos (ji (w:=vs) (N.lkH h))]
 have ne:∀ {y:Nat},¬ y∈q.ps->z≠y:=fun hy e=>hy (e▸hm)
 refine ⟨by rw [gN (ne n4)];exact N.hn,by rw [gN (ne g3)];exact N.hg,by rw [gN (ne b2)];exact N.hb,?_,?_,N.nd,by rw [hk];exact N.dn,?_⟩
 · rw [gN (ne p1),hk]
   exact N.hp
 · rw [ep]
   exact h3 ws nd
 · rw [<- List.length_map (f:=(·.1)),hk,List.length_map]
   exact N.pl
def NowAt.setC (N:NowAt ch q ls k n r t) {x:Str} {v:Int} (hx:x∈t.cl.map (·.1)):∃ ps',kP (.dK (dP ((plc t).map (·.1)) q.ps)) (.str x) (.ref ch.length)=some (.dK (dP ((plc t).map (·.1)) ps'))/\(∀ y∈ps',y∈q.ps∨ch.length<=y)∧
  NowAt ((ch++[li [v]]).set q.p (.dK (dP ((plc t).map (·.1)) ps'))) {q with ps:=ps'} ls k n r {t with cl:=ptS t.cl x v}:=by
 have nd:=N.nd
 simp only [Nl.all,List.nodup_cons,List.mem_cons,not_or] at nd
 obtain ⟨⟨n1,n2,n3,n4⟩,⟨g1,g2,g3⟩,⟨b1,b2⟩,p1,nd⟩:=nd
 have hlt:=N.lt
 have hlen:((plc t).map (·.1)).length=q.ps.length:=by rw [List.length_map];exact N.hs.len.symm
 have hx':x∈(plc t).map (·.1):=by rw [jk];exact List.mem_append_left _ hx
 obtain ⟨ps',e1,e2,e3,e4⟩:=rj (z:=ch.length) hlen hx'
 have hz:ch.length∉q.ps:=fun h=>Nat.lt_irrefl _ (hlt _ (by simp [Nl.all,h]))
 have hnew:∀ y,y<ch.length->¬ y∈q.ps->¬ y∈ps':=fun y hy hn h=>by
  rcases e2 y h with h | h
  · exact hn h
  · omega
 have N1:NowAt (ch++[li [v]]) q ls k n r t:=N.app
 have ln:=hlt q.n (by simp [Nl.all])
 have lg:=hlt q.g (by simp [Nl.all])
 have lb:=hlt q.b (by simp [Nl.all])
 have lp:=hlt q.p (by simp [Nl.all])
 have ep:plc {t with cl:=ptS t.cl x v}=ptS (plc t) x [v]:=by
  unfold plc
  rw [uD hx]
 have hk:(plc {t with cl:=ptS t.cl x v}).map (·.1)=(plc t).map (·.1):=by rw [ep,fq,if_pos hx']
 refine ⟨ps',?_,fun y hy=>?_,⟨?_,?_,?_,?_,?_,?_,by rw [hk];exact N.dn,?_⟩⟩
 · unfold kP
   simp only [fm,Option.bind_some]
   rw [if_pos ⟨by
       have h1:(dP ((plc t).map (·.1)) q.ps).length=(plc t).length:=by rw [<- List.length_map (f:=(·.1)),nn hlen,List.length_map,List.length_map]
       have h2:sizeLine ≥ 1000:=by decide
       have h3:=N.pl
       omega,by rw [nn hlen];exact List.pairwise_map.mpr (N.dn.imp fun h w=>h (Sum.inr.inj w))⟩,e1]
 · rcases e2 y hy with h | h
   · exact .inl h
   · exact .inr (Nat.le_of_eq h.symm)
 · exact (gN (Ne.symm n3)).trans N1.hn
 · exact (gN (Ne.symm g2)).trans N1.hg
 · exact (gN (Ne.symm b1)).trans N1.hb
 · rw [hk]
   exact List.getElem?_set_self (by simp;omega)
 · rw [ep]
   refine (e4 _ _ [v] rfl N1.hs (by simp)).frame fun z hz'=>eh (hnew q.p lp p1) hz'
 · have nd2:=e3 nd hz
   simp only [Nl.all,List.nodup_cons,List.mem_cons,not_or]
   exact ⟨⟨n1,n2,n3,hnew _ ln n4⟩,⟨g1,g2,hnew _ lg g3⟩,⟨b1,hnew _ lb b2⟩,hnew _ lp p1,nd2⟩
 · rw [<- List.length_map (f:=(·.1)),hk,List.length_map]
   exact N.pl
def ent {i:Nat} {x:Str} {c:CV} (N:NowAt ch q ls k n r t) (hs:δ[i]?=some (some (.ref q.n))) (hx:lkC (nd' q ls k n t.hs r) (.inr x)=some c):eIx (eV i) (eD (kD (.str x))) δ ch=some (c,ch):=cX (bf hs) (aH (d:=.str x) rfl) N.hn hx
def sv (N:NowAt ch q ls k n r t) {a:Dt} (h:At a):z11 [.dat a,.ref q.n] ch=some (.dat (.int (wo t a)),ch):=by
 unfold z11
 rw [bM]
 walk_at "m"
 have e0:∀ d,vL 0 (lo [some (CV.dat d),some (.ref q.n)] ch)=some d:=fun d=>bT rfl
 have e1:∀ d,vB 0 (lo [some (CV.dat d),some (.ref q.n)] ch)=some d:=fun d=>bW rfl
 rcases h with ⟨j,_,rfl⟩ | ⟨x,rfl⟩
 · rw [dg (by unfold kA toD fJ;rw [e1];rfl),aZ (aH (e0 _))]
   rfl
 · rw [fZ (by unfold kA toD fJ;rw [e1];rfl),aZ (na (ent N rfl (c:=.ref q.b) rfl) N.hb (aH (e0 _)) (aH (d:=.int 0) rfl) rfl),uv,m7,mm]
   show _=some (CV.dat (.int ((lkS t.bx x).getD 0)),ch)
   cases lkS t.bx x<;>rfl
def fO (N:NowAt ch q ls k n r t) {a:Dt} (h:At a) {fd:De->Option Dt} (hs:δ[1]?=some (some (.ref q.n))) (hd:fd (lo δ ch)=some a):eC z11 (ak (eD fd) (ak (eV 1) aB)) δ ch=some (.dat (.int (wo t a)),ch):=by
 rw [jW (aS (aH hd) (aS (bf hs) rfl))]
 exact sv N h
end
noncomputable def iE:Fs:=(cc (gJ (tD (tB2 (gEq false) (toD (d2 ax (vB 0) (kD (.int 0)))) (kD (.str "go")))) (fV (tD (tB2 (gEq false) (toD (d2 ax (vB 0) (kD (.int 0)))) (kD (.str "if")))) (d6 (e2 (gEq true) (eC z11 (ak (eD (toD (d2 ax (vB 0) (kD (.int 1))))) (ak (eV 1) aB))) (eD (kD (.int 0))))))) (cT (eV 1) (eD (kD (.str "at"))) (eD (toD (d2 ax (vB 0) (toD (pe (kD (.int 1)))))))) (cc (tD (tB2 (gEq false) (toD (d2 ax (vB 0) (kD (.int 0)))) (kD (.str "store")))) (cT (eIx (eV 1) (eD (kD (.str "places")))) (eD (toD (d2 ax (vB 0) (kD (.int 1))))) (eL (ak (eC z11 (ak (eD (toD (d2 ax (vB 0) (kD (.int 2))))) (ak (eV 1) aB))) aB))) (cc (tD (tB2 (gEq false) (toD (d2 ax (vB 0) (kD (.int 0)))) (kD (.str "lay")))) (aP (cQ 2 (eIx (eIx (eV 1) (eD (kD (.str "places")))) (eD (toD (d2 ax (vB 0) (kD (.int 1)))))))
  (cT (eV 2) (e2 bV (eC z11 (ak (eD (toD (d2 ax (vB 0) (kD (.int 2))))) (ak (eV 1) aB))) (eD (toD (aW fj (ag (vB 2) aI))))) (eC z11 (ak (eD (toD (d2 ax (vB 0) (kD (.int 3))))) (ak (eV 1) aB))))) (cc (tD (tB2 (gEq false) (toD (d2 ax (vB 0) (kD (.int 0)))) (kD (.str "say")))) (kO (eIx (eV 1) (eD (kD (.str "sent")))) (eC z11 (ak (eD (toD (d2 ax (vB 0) (kD (.int 1))))) (ak (eV 1) aB)))) (cc (tD (tB2 (gEq true) (toD (d2 ax (vB 0) (kD (.int 0)))) (kD (.str "if")))) (cT (eIx (eV 1) (eD (kD (.str "boxes")))) (eD (toD (d2 ax (vB 0) (kD (.int 1))))) (eC z34 (ak (eD (vL 0)) (ak (eV 1) aB)))) cy)))))
section
variable {ch ch' c:CH} {q:Nl} {ls:List Int} {k k':Nat} {n:Int} {r:Option Int} {t t':Sta} {δ:Sl}
def gG {z:Nat} {vs:List Int} (h:ch[z]?=some (li vs)):vw ch (.ref z)=some (.lst (vs.map .int)):=by simp only [vw,h,Option.bind_some,li,vwO,eO,Option.map_some]
def np (vs:List Int):CO.lst ((vs.map Dt.int).map CV.dat)=li vs:=by rw [List.map_map];rfl
def lo_n {z:Nat} {row:Dt} {vs:List Int} (N:NowAt ch q ls k n r t) (hz:ch[z]?=some (li vs)):∃ u,lo [some (.dat row),some (.ref q.n),some (.ref z)] ch=[some (.leaf row),u,some (.lst (vs.map .int))]:=by
 have hne:z≠q.n:=fun e=>by rw [e,N.hn] at hz;cases hz
 unfold lo
 exact ⟨_,by simp only [loA,hz,Option.bind_some,li,tvO,List.not_mem_nil,if_false,List.mem_singleton,if_neg hne,eO,Option.map_some];rfl⟩
def xE {r u:Option T} {vs:List Int}:toD (aW fj (ag (vB 2) aI)) [r,u,some (.lst (vs.map .int))]=some (.int vs.length):=by
 walk_at "d"
 rw [List.length_map]
def wI (ls:List Int) (h:Nat) (hh:h<90):atI ((ls.map Dt.int++(List.replicate 90 (0:Int)).map Dt.int).map CV.dat) (((h+1:Nat):Int)-1)=some (.dat (.int (ls.getD h 0))):=by
 rw [show ((h+1:Nat):Int)-1=(h:Int) by omega,bZ,<- List.map_append,List.map_map,List.getElem?_map,List.getD_eq_getElem?_getD]
 by_cases c:h<ls.length
 · rw [gL c,gQ c]
   rfl
 · rw [gR (by omega),List.getElem?_eq_none (l:=ls) (by omega),List.getElem?_replicate,if_pos (by omega)]
   rfl
def xF {f:Ft} {g1 g2:Fs} (h:f δ ch=some (true,ch)):cc f g1 g2 δ ch=g1 δ ch:=by rw [cV,h,fW]
def oC {f:Ft} {g1 g2:Fs} (h:f δ ch=some (false,ch)):cc f g1 g2 δ ch=g2 δ ch:=by rw [cV,h,dA]
def rl {f1 f2:De->Option Bool} {g:Ft} (h1:f1 (lo δ ch)=some false) (h2:f2 (lo δ ch)=some false):gJ (tD f1) (fV (tD f2) g) δ ch=some (false,ch):=by
 unfold gJ
 rw [gn h1]
 show fV (tD f2) g δ ch=_
 unfold fV
 rw [gn h2]
 rfl
def zz {f1:De->Option Bool} {g:Ft} (h1:f1 (lo δ ch)=some true):gJ (tD f1) g δ ch=some (true,ch):=by
 unfold gJ
 rw [gn h1]
 rfl
def uE {f1 f2:De->Option Bool} {g:Ft} {b:Bool} (h1:f1 (lo δ ch)=some false) (h2:f2 (lo δ ch)=some true) (h3:g δ ch=some (b,ch)):gJ (tD f1) (fV (tD f2) g) δ ch=some (b,ch):=by
 unfold gJ
 rw [gn h1]
 show fV (tD f2) g δ ch=_
 unfold fV
 rw [gn h2]
 exact h3
def oE (k:Nat):(List.replicate k [CV.dat (.int 0)]).flatten=(List.replicate k (0:Int)).map fun v=>CV.dat (.int v):=by
 induction k with
 | zero=>rfl
 | succ k ih=>rw [List.replicate_succ,List.flatten_cons,ih,List.replicate_succ];rfl
def uF {fd:De->Option Dt} {i:Int} (hd:fd (lo δ (ch++[.lst [.dat (.int 0)]]))=some (.int i)) (h0:0<=i) (h1:i<=300):lx (eN (dN (ag (kD (.int 0)) aI))) (eD fd) δ ch=some (.ref (ch.length+1),ch++[.lst [.dat (.int 0)],li (List.replicate i.toNat 0)]):=by
 unfold lx
 rw [show eN (dN (ag (kD (.int 0)) aI)) δ ch=some (.ref ch.length,ch++[.lst [.dat (.int 0)]]) from rfl,Option.bind_some]
 dsimp only
 rw [aH hd,Option.bind_some]
 simp only [cE]
 rw [if_pos ⟨h0,by omega,by have:sizeLine ≥ 1000:=by decide
                            simp;omega⟩,oE]
 simp [li]
inductive Sc (ls:List Int) (t:Sta):List Dt->Int->Nat->Prop
 | load {x c:Str} {v:Int}:lkS t.cl c=some v->Sc ls t [.str "load",.str x,.str c] v t.hs
 | take {x s:Str} {a:Dt} {vs:List Int}:lkS t.sh s=some vs->At a->Sc ls t [.str "take",.str x,.str s,a] (vs.getD (wo t a%(vs.length:Int)).toNat 0) t.hs
 | hear {x:Str}:Sc ls t [.str "hear",.str x] (ls.getD t.hs 0) (t.hs+1)
 | copy {x:Str} {a:Dt}:At a->Sc ls t [.str "copy",.str x,a] (wo t a) t.hs
 | op {x s:Str} {a b:Dt} {v:Int}:At a->At b->y15 [.str s,.int (wo t a),.int (wo t b)]=some (.leaf (.int v))->Sc ls t [.str "op",.str x,.str s,a,b] v t.hs
def pP (N:NowAt ch q ls k n r t) (h0:∀ q∈t.sh,0<q.2.length/\q.2.length<300) (hh:t.hs<90) (hls:ls.length<300) {l:List Dt} {v:Int} {h':Nat} (s:Sc ls t l v h'):∃ ch',z34 [.dat (.tup l),.ref q.n] ch=some (.dat (.int v),ch')/\NowAt ch' q ls k n r {t with hs:=h'}/\Loc2 q.all ch ch':=by
 unfold z34
 rw [bM]
 walk_at "m"
 have hv:∀ (f:Option CV) (c:CH),vB 0 (lo [some (.dat (.tup l)),some (.ref q.n),f] c)=some (.tup l):=fun f c=>bW rfl
 cases s with
 | @op x s a b v ha hb hval =>
  refine ⟨ch,?_,N,Loc2.refl⟩
  rw [fZ (kt0 (hv _ _)),aZ (ux (aS (aH (d:=.str s) (fN (hv _ _) rfl)) (aS (fO N ha rfl (fN (hv _ _) rfl)) (aS (fO N hb rfl (fN (hv _ _) rfl)) rfl))) (ds:=[.str s,.int (wo t a),.int (wo t b)]) rfl hval)]
  rfl
 | @load x c v h =>
  refine ⟨ch,?_,N,Loc2.refl⟩
  obtain ⟨z,hz,h1,h2,_⟩:=N.hs.lk (x:=c) (vs:=[v]) (by unfold plc;exact pO h)
  rw [dg (kt0 (hv _ _)),fZ (kt0 (hv _ _)),aZ (cX (cX (ent N rfl (c:=.ref q.p) rfl) (aH (d:=.str c) (fN (hv _ _) rfl)) N.hp (x:=.ref z) h1) (aH (d:=.int 0) rfl) h2 (x:=.dat (.int v)) rfl)]
  rfl
 | @take x s a vs h ha =>
  refine ⟨ch,?_,N,Loc2.refl⟩
  obtain ⟨z,hz,h1,h2,h3⟩:=N.setS h
  obtain ⟨u,e⟩:=lo_n (row:=.tup [.str "take",.str x,.str s,a]) N h2
  rw [dg (kt0 (hv _ _)),dg (kt0 (hv _ _)),fZ (kt0 (hv _ _)),aK,bR (cX (ent N rfl (c:=.ref q.p) rfl) (aH (d:=.str s) (fN (hv _ _) rfl)) N.hp (x:=.ref z) h1),aE]
  show cU (jf (bE _ [some (.dat (.tup [.str "take",.str x,.str s,a])),some (.ref q.n),some (.ref z)] ch) _)=_
  rw [aZ (cX (bf rfl) (nl (fO N ha rfl (fN (hv _ _) rfl)) (aH (by rw [e];exact xE)) (jF h0 h)) h2 (uA (wo t a) (jF h0 h)))]
  rfl
 | @copy x a ha =>
  refine ⟨ch,?_,N,Loc2.refl⟩
  rw [dg (kt0 (hv _ _)),dg (kt0 (hv _ _)),dg (kt0 (hv _ _)),dg (kt0 (hv _ _)),aZ (fO N ha rfl (fN (hv _ _) rfl))]
  rfl
 | @hear x =>
  have N1:=N.setN k n (t.hs+1) r
  rw [dg (kt0 (hv _ _)),dg (kt0 (hv _ _)),dg (kt0 (hv _ _)),fZ (kt0 (hv _ _)),aK,
   ck (v:=.dat (.int ((t.hs+1:Nat):Int))) (ch1:=ch) (by rw [cY (ent N rfl (c:=.dat (.int t.hs)) rfl) (aH (d:=.int 1) rfl) (y:=.int t.hs) (z:=.int 1) rfl rfl kG];rfl) (bf rfl) (aH (d:=.str "heard") rfl) N.hn (o':=no q ls k n ((t.hs+1:Nat):Int) r) rfl,aE]
  have L1:Loc2 q.all ch (ch.set q.n (no q ls k n ((t.hs+1:Nat):Int) r)):=Loc2.set (by simp [Nl.all])
  generalize ch.set q.n (no q ls k n ((t.hs+1:Nat):Int) r)=c1 at N1 L1
  have N2:NowAt (c1++[.lst [.dat (.int 0)],li (List.replicate (90:Int).toNat 0)]) q ls k n r {t with hs:=t.hs+1}:=N1.app
  have N3:NowAt (c1++[.lst [.dat (.int 0)],li (List.replicate (90:Int).toNat 0)]++[.lst ((ls.map Dt.int++(List.replicate 90 (0:Int)).map Dt.int).map CV.dat)]) q ls k n r {t with hs:=t.hs+1}:=N2.app
  have e1:e2 bY (eIx (eV 1) (eD (kD (.str "letters")))) (lx (eN (dN (ag (kD (.int 0)) aI))) (eD (kD (.int 90)))) [some (.dat (.tup [.str "hear",.str x])),some (.ref q.n),none] c1=some (.ref (c1++[.lst [.dat (.int 0)],li (List.replicate (90:Int).toNat 0)]).length,c1++[.lst [.dat (.int 0)],li (List.replicate (90:Int).toNat 0)]++[.lst ((ls.map Dt.int++(List.replicate 90 (0:Int)).map Dt.int).map CV.dat)]):=by
   rw [cY (ent N1 rfl (c:=.dat (.lst (ls.map .int))) rfl) (uF (i:=90) rfl (by decide) (by decide)) (y:=.lst (ls.map .int)) (z:=.lst ((List.replicate 90 (0:Int)).map .int)) rfl (by
    have g:(c1++[.lst [.dat (.int 0)],li (List.replicate (90:Int).toNat 0)])[c1.length+1]?=some (li (List.replicate (90:Int).toNat 0)):=by rw [List.getElem?_append_right (by omega)];simp
    exact gG g) (mT (by rw [List.length_map,List.length_map,List.length_replicate];omega))]
   rfl
  have e3:e2 gA (eIx (eV 1) (eD (kD (.str "heard")))) (eD (kD (.int 1))) [some (.dat (.tup [.str "hear",.str x])),some (.ref q.n),none] (c1++[.lst [.dat (.int 0)],li (List.replicate (90:Int).toNat 0)]++[.lst ((ls.map Dt.int++(List.replicate 90 (0:Int)).map Dt.int).map CV.dat)])=some (.dat (.int (((t.hs+1:Nat):Int)-1)),c1++[.lst [.dat (.int 0)],li (List.replicate (90:Int).toNat 0)]++[.lst ((ls.map Dt.int++(List.replicate 90 (0:Int)).map Dt.int).map CV.dat)]):=by
   rw [cY (ent N3 rfl (c:=.dat (.int ((t.hs+1:Nat):Int))) rfl) (aH (d:=.int 1) rfl) (y:=.int ((t.hs+1:Nat):Int)) (z:=.int 1) rfl rfl (t:=.leaf (.int (((t.hs+1:Nat):Int)-1))) rfl]
   rfl
  rw [aZ (cX e1 e3 cE (wI ls t.hs hh))]
  exact ⟨_,rfl,N3,(L1.trans Loc2.app).trans Loc2.app⟩
def uG (N:NowAt ch q ls k n r t) {m:Nat} (w:Wf m t) (hm:m<90) (hls:ls.length<300) {x y:Str} {l:List Dt} {v:Int} {h':Nat} (s:Sc ls t (.str y::.str x::l) v h')
  (e1:decide (y="store")=false:=by decide +kernel) (e2:decide (y="lay")=false:=by decide +kernel) (e3:decide (y="say")=false:=by decide +kernel) (e4:decide (y="if")=false:=by decide +kernel) (e5:decide (y="go")=false:=by decide +kernel) :
  ∃ ch',cU (iE [some (.dat (.tup (.str y::.str x::l))),some (.ref q.n),none] ch)=some (.dat .non,ch')/\NowAt ch' q ls k n r {t with bx:=ptS t.bx x v,hs:=h'}/\Loc2 q.all ch ch':=by
 unfold iE
 have hv:∀ c:CH,vB 0 (lo [some (.dat (.tup (.str y::.str x::l))),some (.ref q.n),none] c)=some (.tup (.str y::.str x::l)):=fun c=>bW rfl
 obtain ⟨c1,h1,N1,L1⟩:=pP N w.s0 (by have:=w.hh;omega) hls s
 rw [oC (rl (kt0 (hv _) e5) (kt0 (hv _) e4)),dX (kt0 (hv _) e1),dX (kt0 (hv _) e2),dX (kt0 (hv _) e3),ni (kt0n (hv _) (by rw [e4];rfl)),
  ck (v:=.dat (.int v)) (ch1:=c1) (by rw [jW (aS (aH (bT rfl)) (aS (bf rfl) rfl))];exact h1) (ent N1 rfl (c:=.ref q.b) rfl) (aH (d:=.str x) (fN (hv _) (by rw [ug];rfl))) N1.hb (pN (l:=t.bx) (by have:=w.bl;omega) w.bn),dc]
 exact ⟨_,rfl,N1.setB _,L1.trans (Loc2.set (by simp [Nl.all]))⟩
def ia (N:NowAt ch q ls k n r t) {m:Nat} (w:Wf m t) (hm:m<90) (hls:ls.length<300) {x y:Str} {l:List Dt} {v:Int} {h':Nat} (s:Sc ls t (.str y::.str x::l) v h')
  (e1:decide (y="store")=false:=by decide +kernel) (e2:decide (y="lay")=false:=by decide +kernel) (e3:decide (y="say")=false:=by decide +kernel) (e4:decide (y="if")=false:=by decide +kernel) (e5:decide (y="go")=false:=by decide +kernel) :
  ∃ ch' ps',cU (iE [some (.dat (.tup (.str y::.str x::l))),some (.ref q.n),none] ch)=some (.dat .non,ch')/\NowAt ch' {q with ps:=ps'} ls k n r {t with bx:=ptS t.bx x v,hs:=h'}/\Loc2 q.all ch ch'/\∀ y∈ps',y∈q.ps∨ch.length<=y:=by
 obtain ⟨c',h1,h2,h3⟩:=uG N w hm hls s e1 e2 e3 e4 e5
 exact ⟨c',q.ps,h1,h2,h3,fun y hy=>.inl hy⟩
def uH {fa:Fg} {v:CV} (h:fa δ ch=some (v,ch)):eL (ak fa aB) δ ch=some (.ref ch.length,ch++[.lst [v]]):=by
 unfold eL
 rw [aS h rfl,Option.bind_some]
 dsimp only
 rw [if_pos (by have:sizeLine ≥ 1000:=by decide
                simp;omega)]
def wJ (N:NowAt ch q ls (k+1) n none t) {m:Nat} (w:Wf m t) (hm:m<90) (hls:ls.length<300) {row:Dt} (s:Stp ls k t row k' t') :
  ∃ ch' ps',cU (iE [some (.dat row),some (.ref q.n),none] ch)=some (.dat .non,ch')/\NowAt ch' {q with ps:=ps'} ls k' n none t'/\Loc2 q.all ch ch'/\∀ y∈ps',y∈q.ps∨ch.length<=y:=by
 have hv:∀ (f:Option CV) (c:CH),vB 0 (lo [some (.dat row),some (.ref q.n),f] c)=some row:=fun f c=>bW rfl
 cases s with
 | load h=>exact ia N w hm hls (.load h)
 | take h ha=>exact ia N w hm hls (.take h ha)
 | hear=>exact ia N w hm hls .hear
 | copy ha=>exact ia N w hm hls (.copy ha)
 | op ha hb _ _ e=>exact ia N w hm hls (.op ha hb e)
 | @say a ha =>
  unfold iE
  rw [oC (rl (kt0 (hv _ _)) (kt0 (hv _ _))),dX (kt0 (hv _ _)),dX (kt0 (hv _ _)),ni (kt0 (hv _ _)),
   oA N.hg (ent N rfl (c:=.ref q.g) rfl) (fO N ha rfl (fN (hv _ _) rfl)) N.hg (by have:=w.ol;rw [List.length_map];exact kJ (by omega)),dc,ra]
  exact ⟨_,q.ps,rfl,N.setG _,Loc2.set (by simp [Nl.all]),fun y hy=>.inl hy⟩
 | go =>
  unfold iE
  rw [xF (zz (kt0 (hv _ _))),ck (v:=.dat (.int k')) (ch1:=ch) (aH (rixm (hv _ _) rfl)) (bf rfl) (aH (d:=.str "at") rfl) N.hn (o':=no q ls k' n t.hs none) rfl,dc]
  exact ⟨_,q.ps,rfl,N.setN k' n t.hs none,Loc2.set (by simp [Nl.all]),fun y hy=>.inl hy⟩
 | @iffy a _ ha h =>
  unfold iE
  rw [xF (uE (kt0 (hv _ _)) (kt0 (hv _ _)) (hV (by rw [cY (fO N ha rfl (fN (hv _ _) rfl)) (aH (d:=.int 0) rfl) (y:=.int (wo t a)) (z:=.int 0) rfl rfl (kI uc)];simp only [h,decide_false,Bool.not_false,if_true];rfl))),
   ck (v:=.dat (.int k')) (ch1:=ch) (aH (rixm (hv _ _) rfl)) (bf rfl) (aH (d:=.str "at") rfl) N.hn (o':=no q ls k' n t.hs none) rfl,dc]
  exact ⟨_,q.ps,rfl,N.setN k' n t.hs none,Loc2.set (by simp [Nl.all]),fun y hy=>.inl hy⟩
 | @ifn a m ha h =>
  unfold iE
  rw [oC (uE (kt0 (hv _ _)) (kt0 (hv _ _)) (hV (by rw [cY (fO N ha rfl (fN (hv _ _) rfl)) (aH (d:=.int 0) rfl) (y:=.int (wo t a)) (z:=.int 0) rfl rfl (kI uc)];simp only [h,decide_true,Bool.not_true,if_true];rfl))),
   dX (kt0 (hv _ _)),dX (kt0 (hv _ _)),dX (kt0 (hv _ _)),dX (kt0n (hv _ _))]
  exact ⟨_,q.ps,rfl,N,Loc2.refl,fun y hy=>.inl hy⟩
 | @store c a hc ha =>
  unfold iE
  obtain ⟨ps',e1,e2,N1⟩:=N.setC (v:=wo t a) hc
  have N0:NowAt (ch++[li [wo t a]]) q ls (k+1) n none t:=N.app
  rw [oC (rl (kt0 (hv _ _)) (kt0 (hv _ _))),ni (kt0 (hv _ _)),
   ck (uH (fO N ha rfl (fN (hv _ _) rfl))) (ent N0 rfl (c:=.ref q.p) rfl) (aH (d:=.str c) (fN (hv _ _) rfl)) N0.hp e1,dc]
  exact ⟨_,ps',rfl,N1,Loc2.app.trans (Loc2.set (by simp [Nl.all])),e2⟩
 | @lay s a b vs h ha hb =>
  unfold iE
  obtain ⟨z,hz,h1,h2,h3⟩:=N.setS h
  have hl:=jF w.s0 h
  obtain ⟨m0,m1⟩:=nj (wo t a) hl
  obtain ⟨u,e⟩:=lo_n (row:=.tup [.str "lay",.str s,a,b]) N h2
  rw [oC (rl (kt0 (hv _ _)) (kt0 (hv _ _))),dX (kt0 (hv _ _)),ni (kt0 (hv _ _)),aK,bR (cX (ent N rfl (c:=.ref q.p) rfl) (aH (d:=.str s) (fN (hv _ _) rfl)) N.hp (x:=.ref z) h1),aE]
  show ∃ ch' ps',cU (cT _ _ _ [some (.dat (.tup [.str "lay",.str s,a,b])),some (.ref q.n),some (.ref z)] ch)=_/\_
  rw [ck (fO N hb rfl (fN (hv _ _) rfl)) (bf rfl) (nl (fO N ha rfl (fN (hv _ _) rfl)) (aH (by rw [e];exact xE)) hl) h2 (uB m0 m1),dc]
  exact ⟨_,q.ps,rfl,h3 _,Loc2.set (by simp [Nl.all,hz]),fun y hy=>.inl hy⟩
def wK (N:NowAt ch q ls k n none t) {m:Nat} (w:Wf m t) (hm:m<90) (hls:ls.length<300) {row:Dt} (s:Stp ls k t row k' t') :
  ∃ ch' ps',q39 [.dat row,.ref q.n] ch=some (.dat .non,ch')/\NowAt ch' {q with ps:=ps'} ls k' (n+1) none t'/\Loc2 q.all ch ch'/\∀ y∈ps',y∈q.ps∨ch.length<=y:=by
 unfold q39
 rw [bM]
 walk_at "m"
 obtain ⟨y,l,hk,k1⟩:=s.kind
 have hv:∀ (c:CH),vB 0 (lo [some (.dat row),some (.ref q.n),none] c)=some (.tup (.str y::l)):=fun c=>by rw [<- hk];exact bW rfl
 have N1:=N.setN k (n+1) t.hs none
 have N2:=N1.setN (k+1) (n+1) t.hs none
 rw [aK,ck (v:=.dat (.int (n+1))) (ch1:=ch) (by rw [cY (ent N rfl (c:=.dat (.int n)) rfl) (aH (d:=.int 1) rfl) (y:=.int n) (z:=.int 1) rfl rfl kG];rfl) (bf rfl) (aH (d:=.str "count") rfl) N.hn (o':=no q ls k (n+1) t.hs none) rfl,aE,
  dg (kt0 (hv _) k1),aK,ck (v:=.dat (.int ((k+1:Nat):Int))) (ch1:=ch.set q.n (no q ls k (n+1) t.hs none)) (by rw [cY (ent N1 rfl (c:=.dat (.int k)) rfl) (aH (d:=.int 1) rfl) (y:=.int k) (z:=.int 1) rfl rfl kG];rfl) (bf rfl) (aH (d:=.str "at") rfl) N1.hn (o':=no q ls (k+1) (n+1) t.hs none) rfl,aE]
 have L:Loc2 q.all ch ((ch.set q.n (no q ls k (n+1) t.hs none)).set q.n (no q ls (k+1) (n+1) t.hs none)):=(Loc2.set (by simp [Nl.all])).trans (Loc2.set (by simp [Nl.all]))
 obtain ⟨c',ps',h1,h2,h3,h4⟩:=wJ N2 w hm hls s
 refine ⟨c',ps',h1,h2,L.trans h3,fun z hz=>?_⟩
 rcases h4 z hz with h | h
 · exact .inl h
 · exact .inr (by simpa using h)
def uI (N:NowAt ch q ls k n none t) {a:Dt} (ha:At a) :
  ∃ ch',q39 [.dat (.tup [.str "end",a]),.ref q.n] ch=some (.dat .non,ch')/\NowAt ch' q ls k (n+1) (some (wo t a)) t/\Loc2 q.all ch ch':=by
 unfold q39
 rw [bM]
 walk_at "m"
 have hv:∀ (c:CH),vB 0 (lo [some (.dat (.tup [.str "end",a])),some (.ref q.n),none] c)=some (.tup [.str "end",a]):=fun c=>bW rfl
 have N1:=N.setN k (n+1) t.hs none
 have N2:=N1.setN k (n+1) t.hs (some (wo t a))
 rw [aK,ck (v:=.dat (.int (n+1))) (ch1:=ch) (by rw [cY (ent N rfl (c:=.dat (.int n)) rfl) (aH (d:=.int 1) rfl) (y:=.int n) (z:=.int 1) rfl rfl kG];rfl) (bf rfl) (aH (d:=.str "count") rfl) N.hn (o':=no q ls k (n+1) t.hs none) rfl,aE,
  fZ (kt0 (hv _)),aK,ck (fO N1 ha rfl (fN (hv _) rfl)) (bf rfl) (aH (d:=.str "answer") rfl) N1.hn (o':=no q ls k (n+1) t.hs (some (wo t a))) rfl,aE]
 exact ⟨_,rfl,N2,(Loc2.set (by simp [Nl.all])).trans (Loc2.set (by simp [Nl.all]))⟩
end
def ka (vs:List Int):eqD (.lst (vs.map .int)) (.lst (vs.map .int))=some true:=by
 have h1:∀ vs:List Int,cmpbs (vs.map .int) (vs.map .int)=true:=fun vs=>by
  induction vs with
  | nil=>rfl
  | cons v vs ih=>simp -implicitDefEqProofs only [List.map_cons,cmpbs,ih,Bool.and_true];rfl
 have h2:∀ vs:List Int,deeps (vs.map .int)=0:=fun vs=>by
  induction vs with
  | nil=>rfl
  | cons v vs ih=>simp -implicitDefEqProofs only [List.map_cons,deeps,i6,ih];rfl
 have h3:∀ vs:List Int,peqs (vs.map .int) (vs.map .int)=true:=fun vs=>by
  induction vs with
  | nil=>rfl
  | cons v vs ih=>simp -implicitDefEqProofs only [List.map_cons,peqs,peq,ih,Bool.and_true,beq_self_eq_true]
 rw [Az (by rw [h1,h2];rfl),h3]
def eq_int (i:Int):eqD (.int i) (.int i)=some true:=by rw [uc];simp
def BB (r:Option Int):eqD (oD r) (oD r)=some true:=by
 cases r with
 | none=>rfl
 | some v=>exact eq_int v
section
variable {ch ch' c1 c2:CH} {p:Pl} {q:Nl} {rows:List Dt} {on:List CV} {ls:List Int} {k:Nat} {n:Int} {r:Option Int} {t t':Sta} {δ:Sl} {fa fb:Fg} {i:Nat}
def ic {x v:CV} {d:Dt} (h1:fa δ ch=some (x,c1)) (h2:fb δ c1=some (v,c2)) (hx:vw c2 x=some d) (hv:vw c2 v=some d) (he:eqD d d=some true):d6 (e2 (gEq true) fa fb) δ ch=some (false,c2):=hV (by rw [cY h1 h2 hx hv (kI he)];rfl)
def or2 {f g:Ft} {b:Bool} (h1:f δ ch=some (false,c1)) (h2:g δ c1=some (b,c2)):gJ f g δ ch=some (b,c2):=by
 unfold gJ
 rw [h1]
 exact h2
def jH {f:Ft} {g g2:Fs} (h:f δ ch=some (false,c1)):aP (cc f g cy) g2 δ ch=g2 δ c1:=by
 rw [aK,cV,h,dA]
 rfl
def rm {b:Bool} (h:fa δ ch=some (.dat (.bl b),c1)):jU (iB fa) δ ch=some (!b,c1):=by
 unfold jU
 rw [jg h]
 rfl
def ga {m:Str} {F:Fd} {v:CV} (R:RunAt ch p rows on ls k n r t) (h:F [.ref p.r] ch=some (v,c1)) (h0:δ[i]?=some (some (.ref p.r)):=by rfl) (hm:m∉fns:=by decide +kernel):eM "Plain" m F (eV i) aB δ ch=some (v,c1):=by
 rw [fM (bf h0) R.hr hm rfl]
 exact h
def ld (R:RunAt ch p rows on ls k n r t):q14 [.ref p.r] ch=some (.dat (.int k),ch):=by
 unfold q14
 rw [bM]
 walk_at "m"
 rw [aZ (cW (x:=.dat (.int k)) (bf rfl) R.hr rfl)]
 rfl
def le (R:RunAt ch p rows on ls k n r t):q15 [.ref p.r] ch=some (.dat (.int n),ch):=by
 unfold q15
 rw [bM]
 walk_at "m"
 rw [aZ (cW (x:=.dat (.int n)) (bf rfl) R.hr rfl)]
 rfl
def oF (R:RunAt ch p rows on ls k n r t):q20 [.ref p.r] ch=some (.dat (.int t.hs),ch):=by
 unfold q20
 rw [bM]
 walk_at "m"
 rw [aZ (cW (x:=.dat (.int t.hs)) (bf rfl) R.hr rfl)]
 rfl
def mq (R:RunAt ch p rows on ls k n r t):q23 [.ref p.r] ch=some (.dat (oD r),ch):=by
 unfold q23
 rw [bM]
 walk_at "m"
 rw [aZ (cW (x:=.dat (oD r)) (bf rfl) R.hr rfl)]
 rfl
def nq (R:RunAt ch p rows on ls k n r t):q16 [.ref p.r] ch=some (.ref ch.length,ch++[li t.out]):=by
 unfold q16
 rw [bM]
 walk_at "m"
 rw [aZ (v:=.ref ch.length) (ch1:=ch++[li t.out]) (by
  rw [qX (aS (cW (x:=.ref p.g) (bf rfl) R.hr rfl) rfl) (ds:=[.lst (t.out.map .int)]) (by simp only [vws,vw,R.hg,Option.bind_some,li,vwO,eO,Option.map_some]) (t:=.lst (t.out.map .int)) rfl]
  show some (CV.ref ch.length,ch++[.lst ((t.out.map Dt.int).map CV.dat)])=_
  rw [np])]
 rfl
def wL (R:RunAt ch p rows on ls k n r t) {x:Str} {v:Int} (h:lkS t.cl x=some v):z37 [.ref p.r,.dat (.str x)] ch=some (.dat (.int v),ch):=by
 unfold z37
 rw [bM]
 walk_at "m"
 rw [aZ (cX (cW (bf rfl) R.hr rfl) (aH (d:=.str x) (bT rfl)) R.hc (x:=.dat (.int v)) (show lkC (dI t.cl) (.inr x)=_ by rw [mm,h];rfl))]
 rfl
def uJ (R:RunAt ch p rows on ls k n r t) {x:Str} {vs:List Int} (h:lkS t.sh x=some vs):y34 [.ref p.r,.dat (.str x)] ch=some (.ref ch.length,ch++[li vs]):=by
 obtain ⟨z,hz,h1,h2,_⟩:=R.setS h
 unfold y34
 rw [bM]
 walk_at "m"
 rw [aZ (v:=.ref ch.length) (ch1:=ch++[li vs]) (by
  rw [qX (aS (cX (cW (bf rfl) R.hr rfl) (aH (d:=.str x) (bT rfl)) R.hs (x:=.ref z) (show ixO (.dK (dP (t.sh.map (·.1)) p.ps)) (.str x)=some (.ref z) from h1)) rfl) (ds:=[.lst (vs.map .int)]) (by simp only [vws,vw,h2,Option.bind_some,li,vwO,eO,Option.map_some]) (t:=.lst (vs.map .int)) rfl]
  show some (CV.ref ch.length,ch++[.lst ((vs.map Dt.int).map CV.dat)])=_
  rw [np])]
 rfl
def bv (t:Sta) (x:Str):Int:=(lkS t.bx x).getD 0
def oG:∀ (bs:List Str),RunAt ch p rows on ls k n r t->e9 [0] (av 0) bH y13 [none,some (.ref p.r)] (bs.map .str) ch=some (bs.map (fun x=>.dat (.int (bv t x))),ch)
 | [],_=>rfl
 | x::bs,R=>by
  have ih:=oG bs R
  have e:y13 [some (.dat (.str x)),some (.ref p.r)] ch=some (.dat (.int (bv t x)),ch):=by
   unfold y13
   rw [fM (bf rfl) R.hr (by decide +kernel) (aS (aH (bT rfl)) rfl)]
   exact nh R x
  rw [List.map_cons]
  show ((av 0 (.str x) (lo [none,some (.ref p.r)] ch)).bind fun δ1=>(bH (lo (mgS [0] [none,some (.ref p.r)] δ1) ch)).bind fun b=>if b then (y13 (mgS [0] [none,some (.ref p.r)] δ1) ch).bind fun p'=>(e9 [0] (av 0) bH y13 [none,some (.ref p.r)] (bs.map .str) p'.2).map fun q=>(p'.1::q.1,q.2) else e9 [0] (av 0) bH y13 [none,some (.ref p.r)] (bs.map .str) ch)=_
  unfold av
  rw [Option.bind_some,kU (by show 0<2;decide)]
  show ((y13 [some (.dat (.str x)),some (.ref p.r)] ch).bind fun p'=>(e9 [0] (av 0) bH y13 [none,some (.ref p.r)] (bs.map .str) p'.2).map fun q=>(p'.1::q.1,q.2))=_
  rw [e,Option.bind_some]
  dsimp only
  rw [ih]
  rfl
def sw (W:List Int):eG (av 0) bH q38 [none] (W.map .int)=some (W.map fun _=>.bl true):=by
 induction W with
 | nil=>rfl
 | cons v W ih =>
  have e1:q38 [some (.leaf (.int v))]=some (.bl true):=rfl
  simp -implicitDefEqProofs only [List.map_cons]
  unfold eG
  simp -implicitDefEqProofs only [av,Option.bind_some,List.set_cons_zero,bH,if_true]
  rw [e1,Option.bind_some,ih]
  rfl
def pQ (W:List Int):lS (W.map fun _=>Dt.bl true)=some (W.map fun _=>true):=by
 induction W with
 | nil=>rfl
 | cons v W ih=>simp -implicitDefEqProofs only [List.map_cons,lS,ih];rfl
def uK (W:List Int):(W.map fun _=>true).all id=true:=by rw [List.all_map];exact List.all_eq_true.mpr fun x _=>rfl
def sx (R:RunAt ch p rows on ls k n r t) (bs:List Str) (ho:t.out.length<300) (hb:bs.length<300):∃ g,y37 [.ref p.r,.dat (.lst (bs.map .str))] ch=some (.dat (.bl true),ch++g):=by
 unfold y37
 rw [bM]
 walk_at "m"
 have sz:sizeLine ≥ 1000:=by decide
 have e1:eL (ak (eM "Plain" "stands" q14 (eV 0) aB) (ak (eM "Plain" "count" q15 (eV 0) aB) (ak (eM "Plain" "heard" q20 (eV 0) aB) aB))) [some (.ref p.r),some (.dat (.lst (bs.map .str))),none] ch=some (.ref ch.length,ch++[li [(k:Int),n,(t.hs:Int)]]):=by
  unfold eL
  rw [aS (ga R (ld R)) (aS (ga R (le R)) (aS (ga R (oF R)) rfl)),Option.bind_some]
  dsimp only
  rw [if_pos (by simp;omega)]
  rfl
 have R1:RunAt (ch++[li [(k:Int),n,(t.hs:Int)]]) p rows on ls k n r t:=R.app
 have R2:RunAt (ch++[li [(k:Int),n,(t.hs:Int)]]++[li t.out]) p rows on ls k n r t:=R1.app
 have e2':e2 bY (eL (ak (eM "Plain" "stands" q14 (eV 0) aB) (ak (eM "Plain" "count" q15 (eV 0) aB) (ak (eM "Plain" "heard" q20 (eV 0) aB) aB)))) (eM "Plain" "sent" q16 (eV 0) aB) [some (.ref p.r),some (.dat (.lst (bs.map .str))),none] ch=some (.ref (ch++[li [(k:Int),n,(t.hs:Int)]]++[li t.out]).length,ch++[li [(k:Int),n,(t.hs:Int)]]++[li t.out]++[li ([(k:Int),n,(t.hs:Int)]++t.out)]):=by
  rw [cY e1 (ga R1 (nq R1)) (gG (cw cE)) (gG cE) (mT (by rw [List.length_map,List.length_map];simp only [List.length_cons,List.length_nil];omega)),<- List.map_append]
  show some (CV.ref _,_++[CO.lst ((([(k:Int),n,(t.hs:Int)]++t.out).map Dt.int).map CV.dat)])=_
  rw [np]
 have R3:RunAt (ch++[li [(k:Int),n,(t.hs:Int)]]++[li t.out]++[li ([(k:Int),n,(t.hs:Int)]++t.out)]) p rows on ls k n r t:=R2.app
 have e3:∀ {c:CH},RunAt c p rows on ls k n r t->hU [none,some 0] (fIt (vL 1)) [0] (av 0) bH y13 [some (.ref p.r),some (.dat (.lst (bs.map .str))),none] c=some (.ref c.length,c++[li (bs.map (bv t))]):=fun {c} R=>by
  unfold hU
  rw [show fIt (vL 1) (lo [some (CV.ref p.r),some (.dat (.lst (bs.map .str))),none] c)=some (bs.map .str) by unfold fIt;rw [bT (d:=.lst (bs.map .str)) rfl];rfl,Option.bind_some]
  show (e9 [0] (av 0) bH y13 [none,some (.ref p.r)] (bs.map .str) c).bind _=_
  rw [oG bs R,Option.bind_some]
  dsimp only
  rw [if_pos (by rw [List.length_map];omega)]
  simp [li]
 have e4:=e3 R3
 generalize hc3:ch++[li [(k:Int),n,(t.hs:Int)]]++[li t.out]=c0 at e2' R3 e4
 have e5:e2 bY (e2 bY (eL (ak (eM "Plain" "stands" q14 (eV 0) aB) (ak (eM "Plain" "count" q15 (eV 0) aB) (ak (eM "Plain" "heard" q20 (eV 0) aB) aB)))) (eM "Plain" "sent" q16 (eV 0) aB)) (hU [none,some 0] (fIt (vL 1)) [0] (av 0) bH y13) [some (.ref p.r),some (.dat (.lst (bs.map .str))),none] ch=some (.ref (c0++[li ([(k:Int),n,(t.hs:Int)]++t.out)]++[li (bs.map (bv t))]).length,c0++[li ([(k:Int),n,(t.hs:Int)]++t.out)]++[li (bs.map (bv t))]++[li (([(k:Int),n,(t.hs:Int)]++t.out)++bs.map (bv t))]):=by
  rw [cY e2' e4 (gG (cw cE)) (gG cE) (mT (by rw [List.length_map,List.length_map,List.length_map,List.length_append];simp only [List.length_cons,List.length_nil];omega)),<- List.map_append]
  show some (CV.ref _,_++[CO.lst (((([(k:Int),n,(t.hs:Int)]++t.out)++bs.map (bv t)).map Dt.int).map CV.dat)])=_
  rw [np]
 have R5:RunAt (c0++[li ([(k:Int),n,(t.hs:Int)]++t.out)]++[li (bs.map (bv t))]++[li (([(k:Int),n,(t.hs:Int)]++t.out)++bs.map (bv t))]) p rows on ls k n r t:=R3.app.app
 rw [aK,bR e5,aE]
 have hW:(([(k:Int),n,(t.hs:Int)]++t.out)++bs.map (bv t)).length<900:=by simp;omega
 generalize hWe:([(k:Int),n,(t.hs:Int)]++t.out)++bs.map (bv t)=W at R5 hW
 have l5:=zv (row:=.lst (bs.map .str)) R5.hr cE
 generalize hc5:c0++[li ([(k:Int),n,(t.hs:Int)]++t.out)]++[li (bs.map (bv t))]=c4 at R5 l5
 show ∃ g,cU (bE _ [some (.ref p.r),some (.dat (.lst (bs.map .str))),some (.ref c4.length)] (c4++[li W]))=_
 have cv:cN [none] (fIt (vB 2)) (av 0) bH q38 [none,some (.leaf (.lst (bs.map .str))),some (.lst (W.map .int))]=some (.lst (W.map fun _=>.bl true)):=by
  unfold cN
  rw [show fIt (vB 2) [none,some (.leaf (.lst (bs.map .str))),some (.lst (W.map .int))]=some (W.map .int) from rfl,Option.bind_some]
  rw [show dC [none] [none,some (.leaf (.lst (bs.map .str))),some (.lst (W.map .int))]=[none] from rfl,sw,Option.bind_some,if_pos (by rw [List.length_map];omega)]
 have ce:toD (aW (tX fun bs=>bs.all id) (ag (toD (cN [none] (fIt (vB 2)) (av 0) bH q38)) aI)) (lo [some (.ref p.r),some (.dat (.lst (bs.map .str))),some (.ref c4.length)] (c4++[li W]))=some (.bl true):=by
  rw [l5]
  unfold toD aW ag aI
  simp -implicitDefEqProofs only [cv,Option.map_some,Option.bind_some,T.d,tX,pQ,uK]
 rw [aZ (aH ce),m7]
 refine ⟨[li [(k:Int),n,(t.hs:Int)]]++[li t.out]++[li ([(k:Int),n,(t.hs:Int)]++t.out)]++[li (bs.map (bv t))]++[li W],?_⟩
 rw [<- hc5,<- hc3]
 simp only [List.append_assoc]
end
def prog (cs ss:List Hd) (rows:List Dt):Dt:=.tup [.tup (cs.map hdD),.tup (ss.map hdD),.tup rows]
section
variable {ch:CH} {δ:Sl} {d:Dt}
def mgS3 {i j k:Nat} {a b c:Dt} (hij:i≠j) (hik:i≠k) (hjk:j≠k) (hi:i<δ.length) (hj:j<δ.length) (hk:k<δ.length):mgS [i,j,k] δ ((((lo δ ch).set i (some (.leaf a))).set j (some (.leaf b))).set k (some (.leaf c)))=((δ.set i (some (.dat a))).set j (some (.dat b))).set k (some (.dat c)):=by
 have h2:(lo δ ch).length=δ.length:=io ch [] δ
 apply List.ext_getElem?
 intro m
 unfold mgS
 rw [List.getElem?_mapIdx]
 by_cases ek:k=m
 · subst ek
   rw [List.getElem?_set_self (by simpa [h2] using hk),List.getElem?_set_self (by simpa [h2] using hk),List.getElem?_eq_getElem hk]
   simp
 · rw [gN ek,gN ek]
   by_cases ej:j=m
   · subst ej
     rw [List.getElem?_set_self (by simpa [h2] using hj),List.getElem?_set_self (by simpa [h2] using hj),List.getElem?_eq_getElem hj]
     simp
   · rw [gN ej,gN ej]
     by_cases ei:i=m
     · subst ei
       rw [List.getElem?_set_self (by simpa [h2] using hi),List.getElem?_set_self (by simpa [h2] using hi),List.getElem?_eq_getElem hi]
       simp
     · rw [gN ei,gN ei]
       have e1:¬ m=i:=fun z=>ei z.symm
       have e2:¬ m=j:=fun z=>ej z.symm
       have e3:¬ m=k:=fun z=>ek z.symm
       cases h:δ[m]? with
       | none=>rfl
       | some x=>simp [e1,e2,e3]
end
def uL {i j k:Nat} {g:Fs} {h:Hd} {r:List Dt} {δ δ2:Sl} {ch ch2:CH} (hij:i≠j) (hik:i≠k) (hjk:j≠k) (hi:i<δ.length) (hj:j<δ.length) (hk:k<δ.length)
  (e:g (((δ.set i (some (.dat (.str h.1)))).set j (some (.dat (.int h.2.1)))).set k (some (.dat (.bl h.2.2)))) ch=some (.nx δ2 ch2)) :
  gm [i,j,k] (fG 3 (aX (av i) (aX (av j) (aX (av k) eS)))) g (hdD h::r) δ ch=gm [i,j,k] (fG 3 (aX (av i) (aX (av j) (aX (av k) eS)))) g r δ2 ch2:=by
 show ((fG 3 (aX (av i) (aX (av j) (aX (av k) eS))) (hdD h) (lo δ ch)).bind fun δ1=>(g (mgS [i,j,k] δ δ1) ch).bind fun o=>_)=_
 rw [show fG 3 (aX (av i) (aX (av j) (aX (av k) eS))) (hdD h) (lo δ ch)=some ((((lo δ ch).set i (some (.leaf (.str h.1)))).set j (some (.leaf (.int h.2.1)))).set k (some (.leaf (.bl h.2.2)))) from rfl,Option.bind_some,mgS3 hij hik hjk hi hj hk,e]
 rfl
def jI {i j k:Nat} {g:Fs} {I:Sl->CH->Prop} (hij:i≠j) (hik:i≠k) (hjk:j≠k) (hI:∀ δ ch,I δ ch->i<δ.length/\j<δ.length/\k<δ.length):∀ {hs:List Hd} {δ:Sl} {ch:CH},(∀ h∈hs,∀ δ ch,I δ ch->∃ δ2 ch2,g (((δ.set i (some (.dat (.str h.1)))).set j (some (.dat (.int h.2.1)))).set k (some (.dat (.bl h.2.2)))) ch=some (.nx δ2 ch2)/\I δ2 ch2)->I δ ch→
  ∃ δ2 ch2,gm [i,j,k] (fG 3 (aX (av i) (aX (av j) (aX (av k) eS)))) g (hs.map hdD) δ ch=some (.nx δ2 ch2)/\I δ2 ch2
 | [],δ,ch,_,h=>⟨δ,ch,rfl,h⟩
 | h::hs,δ,ch,hb,h0=>by
  obtain ⟨δ1,ch1,e,h1⟩:=hb h (by simp) δ ch h0
  obtain ⟨l1,l2,l3⟩:=hI _ _ h0
  rw [List.map_cons,uL hij hik hjk l1 l2 l3 e]
  exact jI hij hik hjk hI (fun z hz=>hb z (by simp [hz])) h1
section
variable {ch ch' c:CH} {p:Pl} {q:Nl} {rows:List Dt} {on:List CV} {ls:List Int} {k:Nat} {n:Int} {r:Option Int} {t t':Sta} {δ:Sl} {P B:Dt} {x4 x5 x6 x7 x8:Option CV}
def sl9 (p:Pl) (q:Nl) (P B:Dt) (x4 x5 x6 x7 x8:Option CV):Sl:=[some (.ref p.r),some (.ref q.n),some (.dat P),some (.dat B),x4,x5,x6,x7,x8]
def BC (R:RunAt c p rows on ls k n r t) (N:NowAt c q ls k n r t) {x:Str} {v:Int} (hx:lkS t.cl x=some v):y43 (sl9 p q P B (some (.dat (.str x))) x5 x6 x7 x8) c=some (.nx (sl9 p q P B (some (.dat (.str x))) x5 x6 x7 x8) (c++[li [v]])):=by
 unfold y43
 obtain ⟨z,hz,h1,h2,_⟩:=N.hs.lk (x:=x) (vs:=[v]) (by unfold plc;exact pO hx)
 have N1:NowAt (c++[li [v]]) q ls k n r t:=N.app
 have e1:eL (ak (eM "Plain" "cell" z37 (eV 0) (ak (eD (vL 4)) aB)) aB) (sl9 p q P B (some (.dat (.str x))) x5 x6 x7 x8) c=some (.ref c.length,c++[li [v]]):=uH (by
  rw [fM (bf rfl) R.hr (by decide +kernel) (aS (aH (bT rfl)) rfl)]
  exact wL R hx)
 rw [cV,ic e1 (cX (ent N1 rfl (c:=.ref q.p) rfl) (aH (d:=.str x) (bT rfl)) N1.hp (x:=.ref z) h1) (gG cE) (gG (cw h2)) (ka [v]),dA]
 rfl
def BD (R:RunAt c p rows on ls k n r t) (N:NowAt c q ls k n r t) {x:Str} {vs:List Int} (hx:lkS t.sh x=some vs):y42 (sl9 p q P B (some (.dat (.str x))) x5 x6 x7 x8) c=some (.nx (sl9 p q P B (some (.dat (.str x))) x5 x6 x7 x8) (c++[li vs])):=by
 unfold y42
 obtain ⟨z,hz,h1,h2,_⟩:=N.setS hx
 have N1:NowAt (c++[li vs]) q ls k n r t:=N.app
 have e1:eM "Plain" "shelf" y34 (eV 0) (ak (eD (vL 4)) aB) (sl9 p q P B (some (.dat (.str x))) x5 x6 x7 x8) c=some (.ref c.length,c++[li vs]):=by
  rw [fM (bf rfl) R.hr (by decide +kernel) (aS (aH (bT rfl)) rfl)]
  exact uJ R hx
 rw [cV,ic e1 (cX (ent N1 rfl (c:=.ref q.p) rfl) (aH (d:=.str x) (bT rfl)) N1.hp (x:=.ref z) h1) (gG cE) (gG (cw h2)) (ka vs),dA]
 rfl
def BE (R:RunAt c p rows on ls k n r t) (N:NowAt c q ls k n r t) {x:Str}:z42 (sl9 p q P B (some (.dat (.str x))) x5 x6 x7 x8) c=some (.nx (sl9 p q P B (some (.dat (.str x))) x5 x6 x7 x8) c):=by
 unfold z42
 have e1:eM "Plain" "box" y16 (eV 0) (ak (eD (vL 4)) aB) (sl9 p q P B (some (.dat (.str x))) x5 x6 x7 x8) c=some (.dat (.int (bv t x)),c):=by
  rw [fM (bf rfl) R.hr (by decide +kernel) (aS (aH (bT rfl)) rfl)]
  exact nh R x
 have e2:ow (eIx (eV 1) (eD (kD (.str "boxes")))) (eD (vL 4)) (eD (kD (.int 0))) (sl9 p q P B (some (.dat (.str x))) x5 x6 x7 x8) c=some (.dat (.int (bv t x)),c):=by
  rw [na (ent N rfl (c:=.ref q.b) rfl) N.hb (aH (d:=.str x) (bT rfl)) (aH (d:=.int 0) rfl) rfl,mm]
  unfold bv
  cases lkS t.bx x<;>rfl
 rw [cV,ic e1 e2 (d:=.int (bv t x)) rfl rfl (eq_int _),dA]
 rfl
def rix2 {D:De} {l:List Dt} {i:Int} {d:Dt} (h:vB 2 D=some (.tup l)) (hx:atI l i=some d):toD (d2 ax (vB 2) (kD (.int i))) D=some d:=by
 unfold toD d2 kD
 rw [h]
 simp only [Option.bind_some,lX,hx,Option.map_some]
 rfl
def BF (R:RunAt ch p rows on ls k n r t) (N:NowAt ch q ls k n r t) {cs ss:List Hd} {rws:List Dt} (hc:t.cl.map (·.1)=cs.map (·.1)):∃ g y4 y5 y6,cS (fIt (toD (d2 ax (vB 2) (kD (.int 0))))) [4,5,6] (fG 3 (aX (av 4) (aX (av 5) (aX (av 6) eS)))) y43 (sl9 p q (prog cs ss rws) B x4 x5 x6 x7 x8) ch=some (.nx (sl9 p q (prog cs ss rws) B y4 y5 y6 x7 x8) (ch++g)):=by
 unfold cS
 rw [show fIt (toD (d2 ax (vB 2) (kD (.int 0)))) (lo (sl9 p q (prog cs ss rws) B x4 x5 x6 x7 x8) ch)=some (cs.map hdD) by
  unfold fIt
  rw [rix2 (d:=.tup (cs.map hdD)) (bW (d:=prog cs ss rws) rfl) rfl]
  rfl,Option.bind_some]
 obtain ⟨δ2,ch2,e,g,y4,y5,y6,rfl,rfl⟩:=jI (i:=4) (j:=5) (k:=6) (g:=y43) (I:=fun δ c=>∃ g x4 x5 x6,c=ch++g/\δ=sl9 p q (prog cs ss rws) B x4 x5 x6 x7 x8) (by decide) (by decide) (by decide) (fun δ c ⟨_,_,_,_,_,e⟩=>by rw [e];exact (by decide:4<9/\5<9/\6<9)) (hs:=cs) (δ:=sl9 p q (prog cs ss rws) B x4 x5 x6 x7 x8) (ch:=ch)
  (fun h hh δ c ⟨g,x4,x5,x6,ec,eδ⟩=>by
   subst ec
   subst eδ
   obtain ⟨v,hv⟩:=jE (x:=h.1) (l:=t.cl) (by rw [hc];exact List.mem_map.mpr ⟨h,hh,rfl⟩)
   exact ⟨_,_,BC R.app N.app hv,g++[li [v]],_,_,_,by rw [List.append_assoc],rfl⟩) ⟨[],x4,x5,x6,by simp,rfl⟩
 exact ⟨g,y4,y5,y6,e⟩
def BG (R:RunAt ch p rows on ls k n r t) (N:NowAt ch q ls k n r t) {cs ss:List Hd} {rws:List Dt} (hc:t.sh.map (·.1)=ss.map (·.1)):∃ g y4 y6 y7,cS (fIt (toD (d2 ax (vB 2) (kD (.int 1))))) [4,7,6] (fG 3 (aX (av 4) (aX (av 7) (aX (av 6) eS)))) y42 (sl9 p q (prog cs ss rws) B x4 x5 x6 x7 x8) ch=some (.nx (sl9 p q (prog cs ss rws) B y4 x5 y6 y7 x8) (ch++g)):=by
 unfold cS
 rw [show fIt (toD (d2 ax (vB 2) (kD (.int 1)))) (lo (sl9 p q (prog cs ss rws) B x4 x5 x6 x7 x8) ch)=some (ss.map hdD) by
  unfold fIt
  rw [rix2 (d:=.tup (ss.map hdD)) (bW (d:=prog cs ss rws) rfl) rfl]
  rfl,Option.bind_some]
 obtain ⟨δ2,ch2,e,g,y4,y6,y7,rfl,rfl⟩:=jI (i:=4) (j:=7) (k:=6) (g:=y42) (I:=fun δ c=>∃ g x4 x6 x7,c=ch++g/\δ=sl9 p q (prog cs ss rws) B x4 x5 x6 x7 x8) (by decide) (by decide) (by decide) (fun δ c ⟨_,_,_,_,_,e⟩=>by rw [e];exact (by decide:4<9/\7<9/\6<9)) (hs:=ss) (δ:=sl9 p q (prog cs ss rws) B x4 x5 x6 x7 x8) (ch:=ch)
  (fun h hh δ c ⟨g,x4,x6,x7,ec,eδ⟩=>by
   subst ec
   subst eδ
   obtain ⟨v,hv⟩:=jE (x:=h.1) (l:=t.sh) (by rw [hc];exact List.mem_map.mpr ⟨h,hh,rfl⟩)
   exact ⟨_,_,BD R.app N.app hv,g++[li v],_,_,_,by rw [List.append_assoc],rfl⟩) ⟨[],x4,x6,x7,by simp,rfl⟩
 exact ⟨g,y4,y6,y7,e⟩
def BH (R:RunAt ch p rows on ls k n r t) (N:NowAt ch q ls k n r t) (bs:List Str):∃ y4,cS (fIt (vL 3)) [4] (av 4) z42 (sl9 p q P (.lst (bs.map .str)) x4 x5 x6 x7 x8) ch=some (.nx (sl9 p q P (.lst (bs.map .str)) y4 x5 x6 x7 x8) ch):=by
 unfold cS
 rw [show fIt (vL 3) (lo (sl9 p q P (.lst (bs.map .str)) x4 x5 x6 x7 x8) ch)=some (bs.map .str) by unfold fIt;rw [bT (d:=.lst (bs.map .str)) rfl];rfl,Option.bind_some]
 obtain ⟨δ2,ch2,e,rfl,y4,rfl⟩:=jX (i:=4) (g:=z42) (I:=fun δ c=>c=ch/\∃ x,δ=sl9 p q P (.lst (bs.map .str)) x x5 x6 x7 x8) (fun δ c ⟨_,x,e⟩=>by rw [e];exact (by decide:4<9)) (ds:=bs.map .str) (δ:=sl9 p q P (.lst (bs.map .str)) x4 x5 x6 x7 x8) (ch:=ch)
  (fun d hd δ c ⟨ec,x,eδ⟩=>by
   subst ec
   subst eδ
   obtain ⟨y,hy,rfl⟩:=List.mem_map.mp hd
   exact ⟨_,_,BE (x:=y) R N,rfl,some (.dat (.str y)),rfl⟩) ⟨rfl,x4,rfl⟩
 exact ⟨y4,e⟩
def wM (R:RunAt ch p rows on ls k n r t) (N:NowAt ch q ls k n r t) {cs ss:List Hd} {rws:List Dt} {bs:List Str} (hc:t.cl.map (·.1)=cs.map (·.1)) (hs:t.sh.map (·.1)=ss.map (·.1)) (ho:t.out.length<300) (hb:bs.length<300) :
  ∃ g,y38 [.ref p.r,.ref q.n,.dat (prog cs ss rws),.dat (.lst (bs.map .str))] ch=some (.dat (.bl true),ch++g):=by
 unfold y38
 rw [bM]
 show ∃ g,cU (aP _ _ (sl9 p q (prog cs ss rws) (.lst (bs.map .str)) none none none none none) ch)=_
 obtain ⟨g1,e1⟩:=sx R bs ho hb
 have e1':eC y37 (ak (eV 0) (ak (eD (vL 3)) aB)) (sl9 p q (prog cs ss rws) (.lst (bs.map .str)) none none none none none) ch=some (.dat (.bl true),ch++g1):=by
  rw [jW (aS (bf rfl) (aS (aH (bT rfl)) rfl))]
  exact e1
 have R1:RunAt (ch++g1) p rows on ls k n r t:=R.app
 have N1:NowAt (ch++g1) q ls k n r t:=N.app
 rw [jH (rm e1')]
 rw [jH (or2 (ic (ga R1 (ld R1)) (ent N1 rfl (c:=.dat (.int k)) rfl) (d:=.int k) rfl rfl (eq_int _)) (or2 (ic (ga R1 (le R1)) (ent N1 rfl (c:=.dat (.int n)) rfl) (d:=.int n) rfl rfl (eq_int _)) (ic (ga R1 (oF R1)) (ent N1 rfl (c:=.dat (.int t.hs)) rfl) (d:=.int t.hs) rfl rfl (eq_int _))))]
 have R2:RunAt (ch++g1++[li t.out]) p rows on ls k n r t:=R1.app
 have N2:NowAt (ch++g1++[li t.out]) q ls k n r t:=N1.app
 rw [jH (or2 (ic (ga R1 (nq R1)) (ent N2 rfl (c:=.ref q.g) rfl) (gG cE) (gG N2.hg) (ka _)) (ic (ga R2 (mq R2)) (ent N2 rfl (c:=.dat (oD r)) rfl) (d:=oD r) rfl rfl (BB _)))]
 obtain ⟨g3,y4,y5,y6,e3⟩:=BF (B:=.lst (bs.map .str)) (x4:=none) (x5:=none) (x6:=none) (x7:=none) (x8:=none) (cs:=cs) (ss:=ss) (rws:=rws) R2 N2 hc
 have R3:RunAt (ch++g1++[li t.out]++g3) p rows on ls k n r t:=R2.app
 have N3:NowAt (ch++g1++[li t.out]++g3) q ls k n r t:=N2.app
 obtain ⟨g4,z4,z6,z7,e4⟩:=BG (B:=.lst (bs.map .str)) (x4:=y4) (x5:=y5) (x6:=y6) (x7:=none) (x8:=none) (cs:=cs) (ss:=ss) (rws:=rws) R3 N3 hs
 have R4:RunAt (ch++g1++[li t.out]++g3++g4) p rows on ls k n r t:=R3.app
 have N4:NowAt (ch++g1++[li t.out]++g3++g4) q ls k n r t:=N3.app
 obtain ⟨w4,e5⟩:=BH (P:=prog cs ss rws) (x4:=z4) (x5:=y5) (x6:=z6) (x7:=z7) (x8:=none) R4 N4 bs
 rw [aK,e3,aE,aK,e4,aE,aK,e5,aE,aK,bR (ga R4 (gp R4)),aE]
 refine ⟨g1++[li t.out]++g3++g4,?_⟩
 rw [show ch++(g1++[li t.out]++g3++g4)=ch++g1++[li t.out]++g3++g4 by simp only [List.append_assoc]]
 generalize ch++g1++[li t.out]++g3++g4=c at R4 N4
 show cU (bE _ (sl9 p q (prog cs ss rws) (.lst (bs.map .str)) w4 y5 z6 z7 (some (.dat (.bl r.isSome)))) c)=_
 have f1:eD (toD (fJ "bool" (vB 8))) (sl9 p q (prog cs ss rws) (.lst (bs.map .str)) w4 y5 z6 z7 (some (.dat (.bl r.isSome)))) c=some (.dat (.bl true),c):=aH (by unfold toD fJ;rw [bW (d:=.bl r.isSome) rfl];rfl)
 have f2:e2 (gIs true) (eIx (eV 1) (eD (kD (.str "answer")))) (eD (kD .non)) (sl9 p q (prog cs ss rws) (.lst (bs.map .str)) w4 y5 z6 z7 (some (.dat (.bl r.isSome)))) c=some (.dat (.bl r.isSome),c):=by
  rw [cY (ent N4 rfl (c:=.dat (oD r)) rfl) (aH (d:=.non) rfl) (y:=oD r) (z:=.non) rfl rfl (t:=.leaf (.bl r.isSome)) (by cases r<;>rfl)]
  rfl
 have f3:e2 (gEq false) (eD (vL 8)) (e2 (gIs true) (eIx (eV 1) (eD (kD (.str "answer")))) (eD (kD .non))) (sl9 p q (prog cs ss rws) (.lst (bs.map .str)) w4 y5 z6 z7 (some (.dat (.bl r.isSome)))) c=some (.dat (.bl true),c):=by
  rw [cY (aH (d:=.bl r.isSome) (bT rfl)) f2 (y:=.bl r.isSome) (z:=.bl r.isSome) rfl rfl yQ]
  simp only [decide_true]
  rfl
 rw [aZ (v:=.dat (.bl true)) (ch1:=c) (by
  unfold pE
  rw [f1]
  simp only [Option.bind_some,mZ,if_true]
  exact f3)]
 rfl
end
def eQ (h:Hd):List Int:=List.replicate h.2.1.toNat 0
def shG:Nat->List Hd->CH
 | _,[]=>[]
 | L,h::hs=>.lst [.dat (.int 0)]::li (eQ h)::.tup [.dat (.str h.1),.ref (L+1)]::shG (L+3) hs
def shR:Nat->List Hd->List CV
 | _,[]=>[]
 | L,_::hs=>.ref (L+2)::shR (L+3) hs
def shP:Nat->List Hd->List Nat
 | _,[]=>[]
 | L,_::hs=>(L+1)::shP (L+3) hs
def sh0 (hs:List Hd):List (Str×List Int):=hs.map fun h=>(h.1,eQ h)
def pR:∀ (L:Nat) (hs:List Hd),∀ z∈shP L hs,L<z/\z<L+3*hs.length
 | _,[],z,hz=>by cases hz
 | L,h::hs,z,hz=>by
  rcases List.mem_cons.mp hz with rfl | hz
  · simp only [List.length_cons];omega
  · have:=pR (L+3) hs z hz
    simp only [List.length_cons];omega
def uM:∀ (L:Nat) (hs:List Hd),(shP L hs).Nodup
 | _,[]=>List.nodup_nil
 | L,h::hs=>List.nodup_cons.mpr ⟨fun z=>by have:=pR (L+3) hs _ z;omega,uM (L+3) hs⟩
def gz:∀ (L:Nat) (hs:List Hd),(shG L hs).length=3*hs.length
 | _,[]=>rfl
 | L,h::hs=>by simp only [shG,List.length_cons,gz (L+3) hs];omega
def uN:∀ (hs:List Hd) (ch g:CH),ShAt (ch++(shG ch.length hs++g)) (shP ch.length hs) (sh0 hs)/\gy (ch++(shG ch.length hs++g)) (shR ch.length hs)=some (dP (hs.map (·.1)) (shP ch.length hs))
 | [],ch,g=>⟨trivial,rfl⟩
 | h::hs,ch,g=>by
  obtain ⟨h1,h2⟩:=uN hs (ch++[.lst [.dat (.int 0)],li (eQ h),.tup [.dat (.str h.1),.ref (ch.length+1)]]) g
  have e:ch++(shG ch.length (h::hs)++g)=ch++[.lst [.dat (.int 0)],li (eQ h),.tup [.dat (.str h.1),.ref (ch.length+1)]]++(shG (ch.length+3) hs++g):=by simp [shG]
  have el:(ch++[.lst [.dat (.int 0)],li (eQ h),.tup [.dat (.str h.1),.ref (ch.length+1)]]).length=ch.length+3:=by simp
  rw [el] at h1 h2
  rw [e]
  refine ⟨⟨?_,h1⟩,?_⟩
  · rw [List.getElem?_append_left (by simp),List.getElem?_append_right (by omega)]
    simp
  · have e2:(ch++[.lst [.dat (.int 0)],li (eQ h),.tup [.dat (.str h.1),.ref (ch.length+1)]]++(shG (ch.length+3) hs++g))[ch.length+2]?=some (.tup [.dat (.str h.1),.ref (ch.length+1)]):=by
     rw [List.getElem?_append_left (by simp),List.getElem?_append_right (by omega)]
     simp
    simp only [shR,gy,ou,e2,fm,Option.map_some,Option.bind_some,h2]
    rfl
def uO (h:Hd) (h0:0<=h.2.1) (h1:h.2.1<=300) (ch:CH):y11 [some (.dat (hdD h))] ch=some (.ref (ch.length+2),ch++[.lst [.dat (.int 0)],li (eQ h),.tup [.dat (.str h.1),.ref (ch.length+1)]]):=by
 unfold y11 eT
 have hv:∀ c:CH,vB 0 (lo [some (CV.dat (hdD h))] c)=some (hdD h):=fun c=>bW rfl
 have e1:eN (dN (ag (kD (.int 0)) aI)) [some (.dat (hdD h))] ch=some (.ref ch.length,ch++[.lst [.dat (.int 0)]]):=rfl
 have e2:eD (toD (d2 ax (vB 0) (kD (.int 1)))) [some (.dat (hdD h))] (ch++[.lst [.dat (.int 0)]])=some (.dat (.int h.2.1),ch++[.lst [.dat (.int 0)]]):=aH (fN (hv _) rfl)
 have e3:lx (eN (dN (ag (kD (.int 0)) aI))) (eD (toD (d2 ax (vB 0) (kD (.int 1))))) [some (.dat (hdD h))] ch=some (.ref (ch.length+1),ch++[.lst [.dat (.int 0)],li (eQ h)]):=by
  unfold lx
  rw [e1,Option.bind_some]
  dsimp only
  rw [e2,Option.bind_some]
  simp only [cE]
  rw [if_pos ⟨h0,by omega,by have:sizeLine ≥ 1000:=by decide
                             simp;omega⟩,oE]
  simp [li,eQ]
 rw [aS (aH (d:=.str h.1) (fN (hv _) rfl)) (aS e3 rfl),Option.bind_some]
 dsimp only
 rw [if_pos (by have:sizeLine ≥ 1000:=by decide
                simp;omega)]
 simp
def rn:∀ (hs:List Hd) (ch:CH),(∀ h∈hs,0<=h.2.1/\h.2.1<=300)->e9 [0] (av 0) bH y11 [none] (hs.map hdD) ch=some (shR ch.length hs,ch++shG ch.length hs)
 | [],ch,_=>by simp [e9,shR,shG]
 | h::hs,ch,hh=>by
  have ih:=rn hs (ch++[.lst [.dat (.int 0)],li (eQ h),.tup [.dat (.str h.1),.ref (ch.length+1)]]) fun z hz=>hh z (by simp [hz])
  rw [show (ch++[CO.lst [.dat (.int 0)],li (eQ h),.tup [.dat (.str h.1),.ref (ch.length+1)]]).length=ch.length+3 by simp] at ih
  rw [List.map_cons]
  show ((av 0 (hdD h) (lo [none] ch)).bind fun δ1=>(bH (lo (mgS [0] [none] δ1) ch)).bind fun b=>if b then (y11 (mgS [0] [none] δ1) ch).bind fun p=>(e9 [0] (av 0) bH y11 [none] (hs.map hdD) p.2).map fun q=>(p.1::q.1,q.2) else e9 [0] (av 0) bH y11 [none] (hs.map hdD) ch)=_
  unfold av
  rw [Option.bind_some,kU (by decide)]
  show ((y11 [some (.dat (hdD h))] ch).bind fun p=>(e9 [0] (av 0) bH y11 [none] (hs.map hdD) p.2).map fun q=>(p.1::q.1,q.2))=_
  rw [uO h (hh h (by simp)).1 (hh h (by simp)).2,Option.bind_some]
  dsimp only
  rw [ih]
  simp [shR,shG]
def lh {P:Dt->Dt->Prop}:∀ {ds ys:List Dt} {k:Nat} {d:Dt},Paired P ds ys->ds[k]?=some d->∃ y,ys[k]?=some y/\P d y
 | _,_,0,_,.cons h _,e=>by cases e;exact ⟨_,rfl,h⟩
 | _,_,k+1,_,.cons _ t,e=>by
  obtain ⟨y,e',h⟩:=lh (k:=k) t (by simpa using e)
  exact ⟨y,by simpa using e',h⟩
def lj {P:Dt->Dt->Prop}:∀ {ds ys:List Dt} {y:Dt},Paired P ds ys->y∈ys->∃ d,d∈ds/\P d y
 | _,_,_,.cons h t,e=>by
  rcases List.mem_cons.mp e with rfl | e
  · exact ⟨_,List.mem_cons_self,h⟩
  · obtain ⟨d,hd,q⟩:=lj t e
    exact ⟨d,List.mem_cons_of_mem _ hd,q⟩
def uP {l:List Dt} {d:Dt} (h:d∈eZ 0 l):∃ (k:Nat) (e:Dt),e∈l/\d=.tup [.int k,e]:=by
 obtain ⟨k,hk,rfl⟩:=List.mem_iff_getElem.mp h
 have e:(eZ 0 l)[k]?=some (eZ 0 l)[k]:=gQ hk
 rw [im] at e
 obtain ⟨x,hx,q⟩:=mS e
 exact ⟨0+k,x,List.mem_of_getElem? hx,q.symm⟩
def ie {k:Nat} {y:Str} {l:List Dt} (e1:decide (y="go")=false:=by decide +kernel) (e2:decide (y="if")=false:=by decide +kernel) (e3:decide (y="end")=false:=by decide +kernel):Lead k (.tup (.str y::l)) [.int ((k:Int)+1)]:=.nxt e1 e2 e3
def wN {cs ss:List Str} {N:Nat} {r:Dt} (h:Row cs ss N r) (k:Nat):∃ w,y53 [.int k,r]=some (.leaf (.tup w))/\Lead k r w:=by
 unfold y53
 cases h with
 | load=>exact ⟨[.int ((k:Int)+1)],by walk_at "k",ie⟩
 | store=>exact ⟨[.int ((k:Int)+1)],by walk_at "k",ie⟩
 | take=>exact ⟨[.int ((k:Int)+1)],by walk_at "k",ie⟩
 | lay=>exact ⟨[.int ((k:Int)+1)],by walk_at "k",ie⟩
 | hear=>exact ⟨[.int ((k:Int)+1)],by walk_at "k",ie⟩
 | copy=>exact ⟨[.int ((k:Int)+1)],by walk_at "k",ie⟩
 | op=>exact ⟨[.int ((k:Int)+1)],by walk_at "k",ie⟩
 | say=>exact ⟨[.int ((k:Int)+1)],by walk_at "k",ie⟩
 | @iff a m=>exact ⟨[.int m,.int ((k:Int)+1)],by walk_at "k",.iff⟩
 | @go m=>exact ⟨[.int m],by walk_at "k",.go⟩
 | fin=>exact ⟨[],by walk_at "k",.fin⟩
def rA {cs ss:List Str} {N:Nat} {rr:List Dt} {p q:Dt} (hl:rr.length<=900) (h:∀ r∈rr,Row cs ss N r):∃ ws,hX [.tup [p,q,.tup rr]]=some (.lst ws)/\∀ (k:Nat) (row:Dt),rr[k]?=some row->∃ w,ws[k]?=some (.tup w)/\Lead k row w:=by
 obtain ⟨ws,e,hp⟩:=g8 (bb:=fG 2 (aX (av 0) (aX (av 1) eS))) (ft:=bH) (fe:=z75) (ds:=eZ 0 rr) (δ:=[none,none]) (P:=fun d y=>∃ (k:Nat) (r:Dt),d=.tup [.int k,r]/\∃ w,y=.tup w/\Lead k r w) fun d hd=>by
  obtain ⟨k,r,hr,rfl⟩:=uP hd
  obtain ⟨w,e,hw⟩:=wN (h r hr) k
  refine ⟨[some (.leaf (.int k)),some (.leaf r)],_,rfl,rfl,?_,k,r,rfl,w,rfl,hw⟩
  unfold z75
  walk_at "d"
  rw [e]
  rfl
 have hlen:ws.length=rr.length:=by rw [<- Paired.length hp,jy]
 refine ⟨ws,?_,fun k row hr=>?_⟩
 · unfold hX
   walk_at "d"
   show (vS (Option.map Out.rt ((some (eZ 0 rr)).bind _)))=_
   rw [Option.bind_some,e,Option.bind_some,iO (by omega)]
   rfl
 · have ee:(eZ 0 rr)[k]?=some (.tup [.int ((0+k:Nat):Int),row]):=by rw [im,hr];rfl
   obtain ⟨y,ey,k',r',q,w,hy,hL⟩:=lh hp ee
   injection q with q
   injection q with q1 q2
   injection q2 with q2
   injection q1 with q1
   subst q2
   have:k'=k:=by omega
   subst this
   exact ⟨w,by rw [ey,hy],hL⟩
def oH:∀ (ch:CH) (hs:List Hd),gy ch (hs.map fun h=>.dat (.tup [.str h.1,.int h.2.1]))=some (dI (hs.map fun h=>(h.1,h.2.1)))
 | _,[]=>rfl
 | ch,h::hs=>by
  have ih:=oH ch hs
  simp only [List.map_cons,gy,ou,fm,Option.map_some,Option.bind_some,ih]
  rfl
def mk (base:CH) (ns:List Str) (l:List CV) (G:CH):CH:=base++.ins "Plain" ns l::G
def xG {base:CH} {ns:List Str} {l:List CV} {G:CH}:(mk base ns l G)[base.length]?=some (.ins "Plain" ns l):=by simp [mk]
def iW {base:CH} {ns:List Str} {l:List CV} {G:CH}:(mk base ns l G).length=base.length+1+G.length:=by simp [mk];omega
def gb {base:CH} {ns:List Str} {l:List CV} {G g:CH}:mk base ns l G++g=mk base ns l (G++g):=by simp [mk]
def zA {base:CH} {ns ns':List Str} {l l':List CV} {G:CH}:(mk base ns l G).set base.length (.ins "Plain" ns' l')=mk base ns' l' G:=by simp [mk]
def pS {base:CH} {ns:List Str} {l:List CV} {G:CH} {i:Nat} {o:CO} (h:G[i]?=some o):(mk base ns l G)[base.length+1+i]?=some o:=by
 unfold mk
 rw [gR (by omega),show base.length+1+i-base.length=i+1 by omega,List.getElem?_cons_succ]
 exact h
def zB {base:CH} {ns:List Str} {l:List CV} {G:CH} {i:Nat} {o:CO} (h:base[i]?=some o):(mk base ns l G)[i]?=some o:=cw h
def zC {base:CH} {ns:List Str} {l:List CV} {G G':CH} {f:Str} {fe:Fg} {δ:Sl} {v:CV} (hs:δ[0]?=some (some (.ref base.length))) (hn:ns.length<1000) (he:fe δ (mk base ns l G)=some (v,mk base ns l G')) :
  dR "Plain" f (eV 0) fe δ (mk base ns l G)=some (.nx δ (mk base (cO ns l f v).1 (cO ns l f v).2 G')):=by
 rw [kT he (bf hs) xG hn,zA]
section
variable {ch:CH} {δ:Sl} {ft:De->Option T}
def jl {d:Dt} (h:ft (lo δ ch)=some (.leaf d)):eN ft δ ch=some (.dat d,ch):=by
 unfold eN
 rw [h]
 rfl
def pT {l:List Dt} (h:ft (lo δ ch)=some (.lst l)):eN ft δ ch=some (.ref ch.length,ch++[.lst (l.map .dat)]):=by
 unfold eN
 rw [h]
 rfl
def oI {fa:Fg} {i:Nat} {c1:CH} {l:List CV} {ps:List (Key×CV)} (h1:fa δ ch=some (.ref i,c1)) (h2:c1[i]?=some (.lst l)) (h3:gy c1 l=some ps) (h4:(ps.map (·.1)).Nodup):jV fa δ ch=some (.ref c1.length,c1++[.dK ps]):=by
 unfold jV
 rw [h1,Option.bind_some]
 simp only [h2,h3,Option.bind_some]
 rw [if_pos h4]
end
def Lt (base:CH) (L:CV) (ls:List Int):Prop:=L=.dat (.lst (ls.map .int))∨∃ i,L=.ref i/\base[i]?=some (li ls)
def dY {base:CH} {ns:List Str} {l:List CV} {G G':CH} {f:Str} {fe:Fg} {δ:Sl} {v:CV} (hs:δ[0]?=some (some (.ref base.length))) (he:fe δ (mk base ns l G)=some (v,mk base ns l G')) (hn:ns.length<1000) (hp:cO ns l f v=(ns++[f],l++[v])) :
  dR "Plain" f (eV 0) fe δ (mk base ns l G)=some (.nx δ (mk base (ns++[f]) (l++[v]) G')):=by
 rw [zC hs hn he,hp]
def pl0 (r m:Nat) (ss:List Hd):Pl:=⟨r,r+1,r+2,r+3,r+4,r+6,r+8+3*m,shP (r+7) ss⟩
def ce0 (cs:List Hd):Al:=cs.map fun h=>(h.1,h.2.1)
def t0 (cs ss:List Hd):Sta:=⟨[],ce0 cs,sh0 ss,0,[]⟩
def zD (r:Nat) (ss:List Hd):(pl0 r ss.length ss).all.Nodup:=by
 have h:=pR (r+7) ss
 have n1:∀ z,z<=r+7->z∉shP (r+7) ss:=fun z hz hm=>by have:=h z hm;omega
 have n2:r+8+3*ss.length∉shP (r+7) ss:=fun hm=>by have:=h _ hm;omega
 simp only [Pl.all,pl0,List.nodup_cons,List.mem_cons,not_or]
 exact ⟨⟨by omega,by omega,by omega,by omega,by omega,by omega,n1 _ (by omega)⟩,⟨by omega,by omega,by omega,by omega,by omega,n1 _ (by omega)⟩,⟨by omega,by omega,by omega,by omega,n1 _ (by omega)⟩,⟨by omega,by omega,by omega,n1 _ (by omega)⟩,⟨by omega,by omega,n1 _ (by omega)⟩,⟨by omega,n1 _ (by omega)⟩,n2,uM _ _⟩
noncomputable def gI (ws:List Dt) (ls:List Int) (cs ss:List Hd) (r:Nat):CH:=
 [.lst (ws.map .dat)]++[li ls]++[.lst []]++[.dK []]++[.lst (cs.map fun h=>.dat (.tup [.str h.1,.int h.2.1]))]++[.dK (dI (ce0 cs))]++(shG (r+7) ss++[.lst (shR (r+7) ss)])++[.dK (dP (ss.map (·.1)) (shP (r+7) ss))]
def rB {base:CH} {L:CV} {ls:List Int} {cs ss:List Hd} {rows ws:List Dt} (hL:Lt base L ls) (hw:hX [prog cs ss rows]=some (.lst ws)) (hc:(cs.map (·.1)).Nodup) (hs:(ss.map (·.1)).Nodup) (hcl:cs.length<=300) (hsl:ss.length<=300) (hz:∀ h∈ss,0<=h.2.1/\h.2.1<=300) :
  z22 [.ref base.length,.dat (prog cs ss rows),L] (base++[.ins "Plain" [] []])=some (.dat .non,mk base fns (pv (pl0 base.length ss.length ss) rows 0 0 0 none) (gI ws ls cs ss base.length)):=by
 unfold z22
 rw [bM]
 show cU (aP _ _ [some (.ref base.length),some (.dat (prog cs ss rows)),some L] (mk base [] [] []))=_
 have hv:∀ c:CH,vB 1 (lo [some (CV.ref base.length),some (.dat (prog cs ss rows)),some L] c)=some (prog cs ss rows):=fun c=>bW rfl
 have hv':∀ c:CH,vL 1 (lo [some (CV.ref base.length),some (.dat (prog cs ss rows)),some L] c)=some (prog cs ss rows):=fun c=>bT rfl
 rw [aK,dY rfl (jl (d:=.tup rows) (by unfold d2;rw [hv];rfl)) (by decide) rfl,aE]
 have ew:∀ c:CH,aW hX (ag (vL 1) aI) (lo [some (CV.ref base.length),some (.dat (prog cs ss rows)),some L] c)=some (.lst ws):=fun c=>by
  show ((ag (vL 1) aI (lo [some (CV.ref base.length),some (.dat (prog cs ss rows)),some L] c)).bind hX)=_
  rw [show ag (vL 1) aI (lo [some (CV.ref base.length),some (.dat (prog cs ss rows)),some L] c)=some [prog cs ss rows] by unfold ag;rw [hv'];rfl]
  exact hw
 rw [aK,dY rfl (by rw [pT (ew _),gb]) (by decide) rfl,aE]
 have hin:∀ (ns:List Str) (l:List CV) (G:CH),eB lT (ak (eV 2) aB) [some (CV.ref base.length),some (.dat (prog cs ss rows)),some L] (mk base ns l G)=some (.ref (mk base ns l G).length,mk base ns l (G++[li ls])):=fun ns l G=>by
  have hvw:vws (mk base ns l G) [L]=some [.lst (ls.map .int)]:=by
   rcases hL with rfl | ⟨i,rfl,hi⟩
   · rfl
   · simp only [vws,vw,zB hi,Option.bind_some,li,vwO,eO,Option.map_some]
  rw [qX (aS (bf rfl) rfl) hvw (t:=.lst (ls.map .int)) rfl]
  show some (CV.ref (mk base ns l G).length,mk base ns l G++[.lst ((ls.map Dt.int).map CV.dat)])=_
  rw [gb,List.map_map]
  rfl
 rw [aK,dY rfl (hin _ _ _) (by decide) rfl,aE]
 have hou:∀ (ns:List Str) (l:List CV) (G:CH),eN (dN aI) [some (CV.ref base.length),some (.dat (prog cs ss rows)),some L] (mk base ns l G)=some (.ref (mk base ns l G).length,mk base ns l (G++[.lst []])):=fun ns l G=>by rw [<- gb];rfl
 have hbx:∀ (ns:List Str) (l:List CV) (G:CH),eN g6 [some (CV.ref base.length),some (.dat (prog cs ss rows)),some L] (mk base ns l G)=some (.ref (mk base ns l G).length,mk base ns l (G++[.dK []])):=fun ns l G=>by rw [<- gb];rfl
 rw [aK,dY rfl (hou _ _ _) (by decide) rfl,aE]
 rw [aK,dY rfl (hbx _ _ _) (by decide) rfl,aE]
 have hpl:∀ c:CH,cN [none] (fIt (toD (d2 ax (vB 1) (kD (.int 0))))) (av 0) bH q37 (lo [some (CV.ref base.length),some (.dat (prog cs ss rows)),some L] c)=some (.lst (cs.map fun h=>.tup [.str h.1,.int h.2.1])):=fun c=>by
  have e1:fIt (toD (d2 ax (vB 1) (kD (.int 0)))) (lo [some (CV.ref base.length),some (.dat (prog cs ss rows)),some L] c)=some (cs.map hdD):=by
   unfold fIt
   rw [rix (d:=.tup (cs.map hdD)) (hv c) rfl]
   rfl
  have e2:=gk (bb:=av 0) (ft:=bH) (fe:=q37) (ds:=cs.map hdD) (δ:=dC [none] (lo [some (CV.ref base.length),some (.dat (prog cs ss rows)),some L] c)) (f:=fun d=>match d with
   | .tup [a,b,_]=>.tup [a,b]
   | d=>d) fun d hd=>by
   obtain ⟨h,_,rfl⟩:=List.mem_map.mp hd
   exact ⟨_,rfl,rfl,rfl⟩
  unfold cN
  rw [e1,Option.bind_some,e2,Option.bind_some,if_pos (by have:sizeLine ≥ 1000:=by decide
                                                         simp;omega),List.map_map]
  rfl
 have hcd:∀ (ns:List Str) (l:List CV) (G:CH),jV (eN (cN [none] (fIt (toD (d2 ax (vB 1) (kD (.int 0))))) (av 0) bH q37)) [some (CV.ref base.length),some (.dat (prog cs ss rows)),some L] (mk base ns l G)=some (.ref (base.length+1+G.length+1),mk base ns l (G++[.lst (cs.map fun h=>.dat (.tup [.str h.1,.int h.2.1]))]++[.dK (dI (ce0 cs))])):=fun ns l G=>by
  have e1:=pT (ch:=mk base ns l G) (hpl _)
  rw [List.map_map,gb] at e1
  rw [oI e1 (by rw [iW];exact pS (by simp)) (l:=cs.map fun h=>.dat (.tup [.str h.1,.int h.2.1])) (oH _ cs) (xB (by rw [List.map_map];exact hc)),gb,iW]
  simp only [List.length_append,List.length_singleton]
  rfl
 rw [aK,dY rfl (hcd _ _ _) (by decide) rfl,aE]
 have hsd:∀ (ns:List Str) (l:List CV) (G:CH),G.length=6->jV (hU [none] (fIt (toD (d2 ax (vB 1) (kD (.int 1))))) [0] (av 0) bH y11) [some (CV.ref base.length),some (.dat (prog cs ss rows)),some L] (mk base ns l G)=some (.ref (base.length+8+3*ss.length),mk base ns l (G++(shG (base.length+7) ss++[.lst (shR (base.length+7) ss)])++[.dK (dP (ss.map (·.1)) (shP (base.length+7) ss))])):=fun ns l G hG=>by
  have hlen:(mk base ns l G).length=base.length+7:=by rw [iW,hG]
  have hr:(shR (base.length+7) ss).length=ss.length:=by
   have key:∀ (L:Nat) (hs:List Hd),(shR L hs).length=hs.length:=fun L hs=>by
    induction hs generalizing L with
    | nil=>rfl
    | cons h hs ih=>simp [shR,ih]
   exact key _ _
  have e1:hU [none] (fIt (toD (d2 ax (vB 1) (kD (.int 1))))) [0] (av 0) bH y11 [some (CV.ref base.length),some (.dat (prog cs ss rows)),some L] (mk base ns l G)=some (.ref (base.length+7+3*ss.length),mk base ns l (G++(shG (base.length+7) ss++[.lst (shR (base.length+7) ss)]))):=by
   unfold hU
   rw [show fIt (toD (d2 ax (vB 1) (kD (.int 1)))) (lo [some (CV.ref base.length),some (.dat (prog cs ss rows)),some L] (mk base ns l G))=some (ss.map hdD) by
    unfold fIt
    rw [rix (d:=.tup (ss.map hdD)) (hv _) rfl]
    rfl,Option.bind_some]
   show (e9 [0] (av 0) bH y11 [none] (ss.map hdD) (mk base ns l G)).bind _=_
   rw [rn ss _ hz,Option.bind_some,hlen]
   dsimp only
   rw [if_pos (by have:sizeLine ≥ 1000:=by decide
                  omega),List.length_append,gz,hlen,List.append_assoc,gb]
  have e2:=(uN ss (mk base ns l G) [.lst (shR (base.length+7) ss)]).2
  rw [hlen,gb] at e2
  rw [oI e1 (l:=shR (base.length+7) ss) ?_ e2 ?_,gb,iW]
  · simp only [List.length_append,List.length_singleton,gz,hG]
    rw [show base.length+1+(6+(3*ss.length+1))=base.length+8+3*ss.length by omega]
  · rw [show base.length+7+3*ss.length=base.length+1+(6+3*ss.length) by omega]
    apply pS
    rw [gR (by omega),gR (by rw [gz];omega),gz]
    simp [hG]
  · have hk:∀ (L:Nat) (hs:List Hd),(dP (hs.map (·.1)) (shP L hs)).map (·.1)=hs.map fun h=>(.inr h.1:Key):=fun L hs=>by
     induction hs generalizing L with
     | nil=>rfl
     | cons h hs ih=>have:=ih (L+3);simp only [dP,List.map_cons,shP,List.zip_cons_cons] at this ⊢;rw [this]
    rw [hk]
    exact List.pairwise_map.mpr ((List.pairwise_map.mp hs).imp fun h z=>h (Sum.inr.inj z))
 rw [aK,dY rfl (hsd _ _ _ (by simp)) (by decide) rfl,aE]
 rw [aK,dY rfl (jl (d:=.int 0) rfl) (by decide) rfl,aE]
 rw [aK,dY rfl (jl (d:=.int 0) rfl) (by decide) rfl,aE]
 rw [aK,dY rfl (jl (d:=.int 0) rfl) (by decide) rfl,aE]
 rw [dY rfl (jl (d:=.non) rfl) (by decide) rfl,dc]
 simp only [iW]
 rfl
def oJ {base:CH} {ls:List Int} {cs ss:List Hd} {rows ws:List Dt}:RunAt (mk base fns (pv (pl0 base.length ss.length ss) rows 0 0 0 none) (gI ws ls cs ss base.length)) (pl0 base.length ss.length ss) rows (ws.map .dat) ls 0 0 none (t0 cs ss):=by
 have at':∀ {i:Nat} {o:CO},(gI ws ls cs ss base.length)[i]?=some o->(mk base fns (pv (pl0 base.length ss.length ss) rows 0 0 0 none) (gI ws ls cs ss base.length))[base.length+1+i]?=some o:=fun h=>pS h
 have hd:(sh0 ss).map (·.1)=ss.map (·.1):=by simp [sh0]
 refine ⟨xG,at' (i:=0) rfl,at' (i:=1) rfl,at' (i:=2) rfl,at' (i:=3) rfl,at' (i:=5) rfl,?_,?_,zD _ _⟩
 · have:=at' (i:=7+3*ss.length) (o:=.dK (dP (ss.map (·.1)) (shP (base.length+7) ss))) (by
    unfold gI
    rw [List.getElem?_append_right (by simp [gz];omega)]
    simp [gz]
    rw [show 7+3*ss.length-(3*ss.length+1+1+1+1+1+1+1)=0 by omega]
    rfl)
   rw [show base.length+1+(7+3*ss.length)=(pl0 base.length ss.length ss).s by simp [pl0];omega] at this
   rw [this]
   show _=some (CO.dK (dP ((sh0 ss).map (·.1)) (shP (base.length+7) ss)))
   rw [hd]
 · have h:=(uN ss (mk base fns (pv (pl0 base.length ss.length ss) rows 0 0 0 none) ([.lst (ws.map .dat)]++[li ls]++[.lst []]++[.dK []]++[.lst (cs.map fun h=>.dat (.tup [.str h.1,.int h.2.1]))]++[.dK (dI (ce0 cs))])) ([.lst (shR (base.length+7) ss)]++[.dK (dP (ss.map (·.1)) (shP (base.length+7) ss))])).1
   rw [gb,iW] at h
   simp only [List.length_append,List.length_singleton] at h
   have e:gI ws ls cs ss base.length=[.lst (ws.map .dat)]++[li ls]++[.lst []]++[.dK []]++[.lst (cs.map fun h=>.dat (.tup [.str h.1,.int h.2.1]))]++[.dK (dI (ce0 cs))]++(shG (base.length+7) ss++([.lst (shR (base.length+7) ss)]++[.dK (dP (ss.map (·.1)) (shP (base.length+7) ss))])):=by simp [gI]
   rw [e]
   exact h
structure Keeps (m:Nat) (c c':CH):Prop where
 out:∀ i,i<m->c'[i]?=c[i]?
 len:c.length<=c'.length
def Keeps.refl {m:Nat} {c:CH}:Keeps m c c:=⟨fun _ _=>rfl,nL _⟩
def Keeps.trans {m:Nat} {a b c:CH} (h:Keeps m a b) (h':Keeps m b c):Keeps m a c:=⟨fun i hi=>(h'.out i hi).trans (h.out i hi),Nat.le_trans h.len h'.len⟩
def Keeps.set {m i:Nat} {c:CH} {o:CO} (h:m<=i):Keeps m c (c.set i o):=⟨fun j hj=>gN (by omega),by rw [List.length_set];exact nL _⟩
def Keeps.app {m:Nat} {c g:CH} (h:m<=c.length):Keeps m c (c++g):=⟨fun j hj=>List.getElem?_append_left (by omega),by simp⟩
def ShAt.snoc {c:CH} {z:Nat} {x:Str} {vs:List Int} (hz:c[z]?=some (li vs)):∀ {ps:List Nat} {sh:List (Str×List Int)},ShAt c ps sh->ShAt c (ps++[z]) (sh++[(x,vs)])
 | [],[],_=>⟨hz,trivial⟩
 | [],_::_,h=>h.elim
 | _::_,[],h=>h.elim
 | _::_,_::_,h=>⟨h.1,ShAt.snoc hz h.2⟩
def oK {α β:Type} {a:α} {b:β}:∀ {l:List α} {m:List β},l.length=m.length->(l++[a]).zip (m++[b])=l.zip m++[(a,b)]
 | [],[],_=>rfl
 | [],_::_,h=>by cases h
 | _::_,[],h=>by cases h
 | x::l,y::m,h=>by simp [oK (l:=l) (m:=m) (by simpa using h)]
def zE {ns:List Str} {ps:List Nat} {x:Str} {z:Nat} (hl:ns.length=ps.length) (hn:x∉ns) (nd:ns.Nodup) (hz:ns.length<500):kP (.dK (dP ns ps)) (.str x) (.ref z)=some (.dK (dP (ns++[x]) (ps++[z]))):=by
 have hk:(dP ns ps).map (·.1)=ns.map fun y=>(.inr y:Key):=by
  have key:∀ (ns:List Str) (ps:List Nat),ns.length=ps.length->(dP ns ps).map (·.1)=ns.map fun y=>(.inr y:Key):=fun ns=>by
   induction ns with
   | nil=>intro ps _;rfl
   | cons n ns ih =>
    intro ps h
    cases ps with
    | nil=>cases h
    | cons p ps =>
     have:=ih ps (by simpa using h)
     simp only [dP,List.zip_cons_cons,List.map_cons] at this ⊢
     rw [this]
  exact key ns ps hl
 have hput:∀ l:List (Key×CV),(.inr x:Key)∉l.map (·.1)->iy l (.inr x) (.ref z)=l++[(.inr x,.ref z)]:=fun l=>by
  induction l with
  | nil=>intro _;rfl
  | cons p l ih =>
   intro h
   rw [iy,if_neg (fun e=>h (by simp [e])),ih (fun w=>h (by simp only [List.map_cons];exact List.mem_cons_of_mem _ w))]
   rfl
 unfold kP
 simp only [fm,Option.bind_some]
 rw [if_pos ⟨by have:(dP ns ps).length=ns.length:=by rw [<- List.length_map (f:=(·.1)),hk,List.length_map]
                have h2:sizeLine ≥ 1000:=by decide
                omega,by rw [hk];exact List.pairwise_map.mpr (nd.imp fun h w=>h (Sum.inr.inj w))⟩,hput _ (by
  rw [hk]
  intro w
  obtain ⟨y,hy,e⟩:=List.mem_map.mp w
  exact hn (Sum.inr.inj e▸hy))]
 unfold dP
 rw [oK hl,List.map_append]
 rfl
def Nl.more (q:Nl) (z:Nat):Nl:={q with ps:=q.ps++[z]}
section
variable {c:CH} {q:Nl} {ls:List Int} {k:Nat} {n:Int} {r:Option Int} {t t':Sta}
def NowAt.grow (N:NowAt c q ls k n r t) {g:CH} {z:Nat} {x:Str} {vs:List Int} (hz:(c++g)[z]?=some (li vs)) (hc:c.length<=z) (hx:x∉(plc t).map (·.1)) (hp:plc t'=plc t++[(x,vs)]) (h1:t'.hs=t.hs) (h2:t'.out=t.out) (h3:t'.bx=t.bx) (hl:(plc t').length<400) :
  kP (.dK (dP ((plc t).map (·.1)) q.ps)) (.str x) (.ref z)=some (.dK (dP ((plc t).map (·.1)++[x]) (q.ps++[z])))/\NowAt ((c++g).set q.p (.dK (dP ((plc t).map (·.1)++[x]) (q.ps++[z])))) (q.more z) ls k n r t':=by
 have hlt:=N.lt
 have nd:=N.nd
 have nd':=N.nd
 simp only [Nl.all,List.nodup_cons,List.mem_cons,not_or] at nd
 obtain ⟨⟨n1,n2,n3,n4⟩,⟨g1,g2,g3⟩,⟨b1,b2⟩,p1,nd⟩:=nd
 have N1:NowAt (c++g) q ls k n r t:=N.app
 have hpl:q.p<(c++g).length:=(gX N1.hp).1
 have hnew:z∉q.all:=fun h=>by have:=hlt _ h;omega
 have hp':q.p≠z:=fun e=>hnew (by rw [<- e];simp [Nl.all])
 have hlen:((plc t).map (·.1)).length=q.ps.length:=by rw [List.length_map];exact N.hs.len.symm
 refine ⟨zE hlen hx N.dn (by rw [List.length_map];have:=N.pl;omega),⟨?_,?_,?_,?_,?_,?_,?_,hl⟩⟩
 · rw [h1]
   exact (gN (Ne.symm n3)).trans N1.hn
 · rw [h2]
   exact (gN (Ne.symm g2)).trans N1.hg
 · rw [h3]
   exact (gN (Ne.symm b1)).trans N1.hb
 · show ((c++g).set q.p _)[q.p]?=_
   rw [List.getElem?_set_self hpl,hp,List.map_append]
   rfl
 · rw [hp]
   exact ShAt.snoc ((gN hp').trans hz) (N1.hs.frame fun y hy=>eh p1 hy)
 · have e:(q.more z).all=q.all++[z]:=by simp [Nl.all,Nl.more]
   rw [e]
   exact List.nodup_append.mpr ⟨nd',by simp,fun a ha b hb e=>by rw [List.mem_singleton.mp hb] at e;exact hnew (e▸ha)⟩
 · rw [hp,List.map_append]
   exact List.nodup_append.mpr ⟨N.dn,by simp,fun a ha b hb e=>by
    have hb:b=x:=by simpa using hb
    rw [hb] at e
    exact hx (e▸ha)⟩
def sl7 (P L:Dt) (n:Nat) (x3 x4 x5 x6:Option CV):Sl:=[some (.dat P),some (.dat L),some (.ref n),x3,x4,x5,x6]
def oM {P L:Dt} {m:Nat}:∀ {hs:List Hd} {q:Nl} {done:Al} {c:CH} {x3 x4 x5 x6:Option CV},NowAt c q ls 0 0 none ⟨[],done,[],0,[]⟩->(∀ z∈q.all,m<=z)->(done.map (·.1)++hs.map (·.1)).Nodup->done.length+hs.length<300→
  ∃ q' c' y3 y4 y5,gm [3,4,5] (fG 3 (aX (av 3) (aX (av 4) (aX (av 5) eS)))) z35 (hs.map hdD) (sl7 P L q.n x3 x4 x5 x6) c=some (.nx (sl7 P L q'.n y3 y4 y5 x6) c')/\q'.n=q.n/\NowAt c' q' ls 0 0 none ⟨[],done++ce0 hs,[],0,[]⟩/\Keeps m c c'/\∀ z∈q'.all,m<=z
 | [],q,done,c,x3,x4,x5,x6,N,hm,_,_=>⟨q,c,x3,x4,x5,rfl,rfl,by simpa [ce0] using N,Keeps.refl,hm⟩
 | h::hs,q,done,c,x3,x4,x5,x6,N,hm,nd,hl=>by
  have hlt:=N.lt
  have hk:∀ done:Al,(plc ⟨[],done,[],0,[]⟩).map (·.1)=done.map (·.1):=fun done=>by rw [jk];simp
  have hpl:∀ done:Al,(plc ⟨[],done,[],0,[]⟩).length=done.length:=fun done=>by rw [<- List.length_map (f:=(·.1)),hk,List.length_map]
  have hn:h.1∉done.map (·.1):=fun z=>by
   have:=(List.nodup_append.mp nd).2.2 _ z h.1 (by simp)
   exact this rfl
  have hml:m<=c.length:=Nat.le_of_lt (Nat.lt_of_le_of_lt (hm q.n (by simp [Nl.all])) (hlt q.n (by simp [Nl.all])))
  obtain ⟨e0,N2⟩:=N.grow (g:=[li [h.2.1]]) (z:=c.length) (x:=h.1) (vs:=[h.2.1]) (t':=⟨[],done++[(h.1,h.2.1)],[],0,[]⟩) cE (Nat.le_refl _) (by rw [hk];exact hn) (by simp [plc]) rfl rfl rfl (by rw [hpl];simp only [List.length_append,List.length_cons,List.length_nil] at hl ⊢;omega)
  have N1:NowAt (c++[li [h.2.1]]) q ls 0 0 none ⟨[],done,[],0,[]⟩:=N.app
  have e:z35 (sl7 P L q.n (some (.dat (.str h.1))) (some (.dat (.int h.2.1))) (some (.dat (.bl h.2.2))) x6) c=some (.nx (sl7 P L q.n (some (.dat (.str h.1))) (some (.dat (.int h.2.1))) (some (.dat (.bl h.2.2))) x6) ((c++[li [h.2.1]]).set q.p (.dK (dP ((plc ⟨[],done,[],0,[]⟩).map (·.1)++[h.1]) (q.ps++[c.length]))))):=by
   unfold z35
   exact ck (v:=.ref c.length) (ch1:=c++[li [h.2.1]]) (by
    rw [pT (l:=[.int h.2.1]) (by unfold dN ag;rw [bT (d:=.int h.2.1) rfl];rfl)]
    rfl) (ent N1 rfl (c:=.ref q.p) rfl) (aH (d:=.str h.1) (bT rfl)) N1.hp e0
  obtain ⟨q',c',y3,y4,y5,e',en,N',K',hm'⟩:=oM (P:=P) (L:=L) (m:=m) (hs:=hs) (x3:=some (.dat (.str h.1))) (x4:=some (.dat (.int h.2.1))) (x5:=some (.dat (.bl h.2.2))) (x6:=x6) N2 (fun z hz=>by
      have e:(q.more c.length).all=q.all++[c.length]:=by simp [Nl.all,Nl.more]
      rw [e] at hz
      rcases List.mem_append.mp hz with hz | hz
      · exact hm z hz
      · rw [List.mem_singleton.mp hz];exact hml) (by simpa [List.append_assoc] using nd) (by simp only [List.length_append,List.length_cons,List.length_nil] at hl ⊢;omega)
  refine ⟨q',c',y3,y4,y5,?_,en,by simpa [ce0,List.append_assoc] using N',((Keeps.app hml).trans (Keeps.set (hm _ (by simp [Nl.all])))).trans K',hm'⟩
  rw [List.map_cons,uL (by decide) (by decide) (by decide) (by show 3<7;decide) (by show 4<7;decide) (by show 5<7;decide) e]
  exact e'
def lm {P L:Dt} {m:Nat} {cl:Al}:∀ {hs:List Hd} {q:Nl} {done:List (Str×List Int)} {c:CH} {x3 x4 x5 x6:Option CV},NowAt c q ls 0 0 none ⟨[],cl,done,0,[]⟩->(∀ z∈q.all,m<=z)->(cl.map (·.1)++(done.map (·.1)++hs.map (·.1))).Nodup->cl.length+(done.length+hs.length)<300->(∀ h∈hs,0<=h.2.1/\h.2.1<=300)→
  ∃ q' c' y3 y5 y6,gm [3,6,5] (fG 3 (aX (av 3) (aX (av 6) (aX (av 5) eS)))) q34 (hs.map hdD) (sl7 P L q.n x3 x4 x5 x6) c=some (.nx (sl7 P L q'.n y3 x4 y5 y6) c')/\q'.n=q.n/\NowAt c' q' ls 0 0 none ⟨[],cl,done++sh0 hs,0,[]⟩/\Keeps m c c'/\∀ z∈q'.all,m<=z
 | [],q,done,c,x3,x4,x5,x6,N,hm,_,_,_=>⟨q,c,x3,x5,x6,rfl,rfl,by simpa [sh0] using N,Keeps.refl,hm⟩
 | h::hs,q,done,c,x3,x4,x5,x6,N,hm,nd,hl,hz=>by
  have hlt:=N.lt
  have hk:∀ done:List (Str×List Int),(plc ⟨[],cl,done,0,[]⟩).map (·.1)=cl.map (·.1)++done.map (·.1):=fun done=>by rw [jk]
  have hpl:∀ done:List (Str×List Int),(plc ⟨[],cl,done,0,[]⟩).length=cl.length+done.length:=fun done=>by rw [<- List.length_map (f:=(·.1)),hk,List.length_append,List.length_map,List.length_map]
  have hn:h.1∉cl.map (·.1)++done.map (·.1):=fun z=>by
   rw [<- List.append_assoc] at nd
   have:=(List.nodup_append.mp nd).2.2 _ z h.1 (by simp)
   exact this rfl
  have hml:m<=c.length:=Nat.le_of_lt (Nat.lt_of_le_of_lt (hm q.n (by simp [Nl.all])) (hlt q.n (by simp [Nl.all])))
  obtain ⟨hz0,hz1⟩:=hz h (by simp)
  obtain ⟨e0,N2⟩:=N.grow (g:=[.lst [.dat (.int 0)],li (eQ h)]) (z:=c.length+1) (x:=h.1) (vs:=eQ h) (t':=⟨[],cl,done++[(h.1,eQ h)],0,[]⟩) (by rw [List.getElem?_append_right (by omega)];simp) (by omega) (by rw [hk];exact hn) (by simp [plc]) rfl rfl rfl (by rw [hpl];simp only [List.length_append,List.length_cons,List.length_nil] at hl ⊢;omega)
  have N1:NowAt (c++[.lst [.dat (.int 0)],li (eQ h)]) q ls 0 0 none ⟨[],cl,done,0,[]⟩:=N.app
  have e:q34 (sl7 P L q.n (some (.dat (.str h.1))) x4 (some (.dat (.bl h.2.2))) (some (.dat (.int h.2.1)))) c=some (.nx (sl7 P L q.n (some (.dat (.str h.1))) x4 (some (.dat (.bl h.2.2))) (some (.dat (.int h.2.1)))) ((c++[.lst [.dat (.int 0)],li (eQ h)]).set q.p (.dK (dP ((plc ⟨[],cl,done,0,[]⟩).map (·.1)++[h.1]) (q.ps++[c.length+1]))))):=by
   unfold q34
   exact ck (uF (i:=h.2.1) (bT rfl) hz0 hz1) (ent N1 rfl (c:=.ref q.p) rfl) (aH (d:=.str h.1) (bT rfl)) N1.hp e0
  obtain ⟨q',c',y3,y5,y6,e',en,N',K',hm'⟩:=lm (P:=P) (L:=L) (m:=m) (hs:=hs) (x3:=some (.dat (.str h.1))) (x4:=x4) (x5:=some (.dat (.bl h.2.2))) (x6:=some (.dat (.int h.2.1))) N2 (fun z hz=>by
      have e:(q.more (c.length+1)).all=q.all++[c.length+1]:=by simp [Nl.all,Nl.more]
      rw [e] at hz
      rcases List.mem_append.mp hz with hz | hz
      · exact hm z hz
      · rw [List.mem_singleton.mp hz];omega) (by simpa [List.append_assoc] using nd) (by simp only [List.length_append,List.length_cons,List.length_nil] at hl ⊢;omega) (fun z hz'=>hz z (by simp [hz']))
  refine ⟨q',c',y3,y5,y6,?_,en,by simpa [sh0,List.append_assoc] using N',((Keeps.app hml).trans (Keeps.set (hm _ (by simp [Nl.all])))).trans K',hm'⟩
  rw [List.map_cons,uL (by decide) (by decide) (by decide) (by show 3<7;decide) (by show 6<7;decide) (by show 5<7;decide) e]
  exact e'
def cG {fk fv:Fg} {r:List (Fg×Fg)} {δ:Sl} {ch ch1 ch2:CH} {d:Dt} {k:Key} {v:CV} {ps:List (Key×CV)} (hk:fk δ ch=some (.dat d,ch)) (hkd:fm d=some k) (hv:fv δ ch=some (v,ch1)) (hr:iT r δ ch1=some (ps,ch2)):iT ((fk,fv)::r) δ ch=some ((k,v)::ps,ch2):=by
 show ((fk δ ch).bind fun p=>match p.1 with
  | .dat d=>(fm d).bind fun k=>(fv δ p.2).bind fun q=>(iT r δ q.2).map fun z=>((k,q.1)::z.1,z.2)
  | _=>none)=_
 rw [hk,Option.bind_some]
 simp only [hkd,hv,hr,Option.bind_some,Option.map_some]
def uQ {ch:CH} {ls:List Int} {cs ss:List Hd} {rows:List Dt} (hnd:(cs.map (·.1)++ss.map (·.1)).Nodup) (hcl:cs.length<100) (hsl:ss.length<100) (hz:∀ h∈ss,0<=h.2.1/\h.2.1<=300) :
  ∃ q c',y44 [.dat (prog cs ss rows),.dat (.lst (ls.map .int))] ch=some (.ref q.n,c')/\NowAt c' q ls 0 0 none (t0 cs ss)/\Keeps ch.length ch c'/\∀ z∈q.all,ch.length<=z:=by
 unfold y44
 rw [bM]
 let q0:Nl:=⟨ch.length,ch.length+1,ch.length+2,ch.length+3,[]⟩
 let P:=prog cs ss rows
 let L:=Dt.lst (ls.map Dt.int)
 show ∃ q c',cU (aP _ _ [some (.dat P),some (.dat L),none,none,none,none,none] ch)=_/\_
 have ed:ox [((eD (kD (.str "at"))),(eD (kD (.int 0)))),((eD (kD (.str "count"))),(eD (kD (.int 0)))),((eD (kD (.str "heard"))),(eD (kD (.int 0)))),((eD (kD (.str "answer"))),(eD (kD .non))),((eD (kD (.str "sent"))),(eN (dN aI))),((eD (kD (.str "letters"))),(eD (vL 1))),((eD (kD (.str "boxes"))),(eN g6)),((eD (kD (.str "places"))),(eN g6))] [some (.dat P),some (.dat L),none,none,none,none,none] ch
     = some (.ref ch.length,ch++[no q0 ls 0 0 0 none,.lst [],.dK [],.dK []]):=by
  have e2:=cG (δ:=[some (.dat P),some (.dat L),none,none,none,none,none]) (fk:=eD (kD (.str "at"))) (fv:=eD (kD (.int 0))) (ch:=ch++[.dK []]) (d:=.str "at") (v:=.dat (.int 0)) rfl rfl rfl
   (cG (fk:=eD (kD (.str "count"))) (fv:=eD (kD (.int 0))) (d:=.str "count") (v:=.dat (.int 0)) rfl rfl rfl
   (cG (fk:=eD (kD (.str "heard"))) (fv:=eD (kD (.int 0))) (d:=.str "heard") (v:=.dat (.int 0)) rfl rfl rfl
   (cG (fk:=eD (kD (.str "answer"))) (fv:=eD (kD .non)) (d:=.str "answer") (v:=.dat .non) rfl rfl rfl
   (cG (fk:=eD (kD (.str "sent"))) (d:=.str "sent") rfl rfl (show eN (dN aI) _ _=some (.ref (ch++[CO.dK []]).length,ch++[.dK []]++[.lst []]) from rfl)
   (cG (fk:=eD (kD (.str "letters"))) (fv:=eD (vL 1)) (d:=.str "letters") (v:=.dat L) rfl rfl (aH (bT rfl))
   (cG (fk:=eD (kD (.str "boxes"))) (d:=.str "boxes") rfl rfl (show eN g6 _ _=some (.ref (ch++[CO.dK []]++[CO.lst []]).length,ch++[.dK []]++[.lst []]++[.dK []]) from rfl)
   (cG (fk:=eD (kD (.str "places"))) (r:=[]) (d:=.str "places") rfl rfl (show eN g6 _ _=some (.ref (ch++[CO.dK []]++[CO.lst []]++[CO.dK []]).length,ch++[.dK []]++[.lst []]++[.dK []]++[.dK []]) from rfl) rfl)))))))
  unfold ox
  rw [e2,Option.bind_some]
  dsimp only
  rw [show (ch++[CO.dK []]++[.lst []]++[.dK []]++[.dK []])[ch.length]?=some (.dK []) by simp]
  dsimp only
  rw [if_pos ⟨by simp,by simp only [List.map_cons,List.map_nil];decide +kernel⟩]
  simp [no,nd',q0,oD,L]
 have N0:NowAt (ch++[no q0 ls 0 0 0 none,.lst [],.dK [],.dK []]) q0 ls 0 0 none ⟨[],[],[],0,[]⟩:=by
  have g:∀ {i:Nat} {o:CO},([no q0 ls 0 0 0 none,.lst [],.dK [],.dK []]:CH)[i]?=some o->(ch++[no q0 ls 0 0 0 none,.lst [],.dK [],.dK []])[ch.length+i]?=some o:=fun {i o} h=>by
   rw [gR (by omega),show ch.length+i-ch.length=i by omega]
   exact h
  exact ⟨g (i:=0) rfl,g (i:=1) rfl,g (i:=2) rfl,g (i:=3) rfl,trivial,by simp [Nl.all,q0],by simp [plc],by simp [plc]⟩
 rw [aK,bR ed,aE]
 show ∃ q c',cU (aP _ _ (sl7 P L q0.n none none none none) (ch++[no q0 ls 0 0 0 none,.lst [],.dK [],.dK []]))=_/\_
 obtain ⟨q1,c1,y3,y4,y5,e1,en1,N1,K1,hm1⟩:=oM (P:=P) (L:=L) (m:=ch.length) (hs:=cs) (x3:=none) (x4:=none) (x5:=none) (x6:=none) N0 (by simp [Nl.all,q0]) (by simpa using (List.nodup_append.mp hnd).1) (by simp;omega)
 have hi:∀ (n:Nat) (x3 x4 x5 x6:Option CV) (c:CH),fIt (toD (d2 ax (vB 0) (kD (.int 0)))) (lo (sl7 P L n x3 x4 x5 x6) c)=some (cs.map hdD):=fun n x3 x4 x5 x6 c=>by
  unfold fIt
  rw [fN (d:=.tup (cs.map hdD)) (bW (d:=P) rfl) rfl]
  rfl
 have hi2:∀ (n:Nat) (x3 x4 x5 x6:Option CV) (c:CH),fIt (toD (d2 ax (vB 0) (kD (.int 1)))) (lo (sl7 P L n x3 x4 x5 x6) c)=some (ss.map hdD):=fun n x3 x4 x5 x6 c=>by
  unfold fIt
  rw [fN (d:=.tup (ss.map hdD)) (bW (d:=P) rfl) rfl]
  rfl
 have hk:(ce0 cs).map (·.1)=cs.map (·.1):=by simp [ce0]
 obtain ⟨q2,c2,z3,z5,z6,e2,en2,N2,K2,hge⟩:=lm (P:=P) (L:=L) (m:=ch.length) (hs:=ss) (done:=[]) (cl:=ce0 cs) (x3:=y3) (x4:=y4) (x5:=y5) (x6:=none) (by simpa using N1) hm1 (by rw [hk];simpa using hnd) (by simp [ce0];omega) hz
 rw [aK,show ∀ n c,cS (fIt (toD (d2 ax (vB 0) (kD (.int 0))))) [3,4,5] (fG 3 (aX (av 3) (aX (av 4) (aX (av 5) eS)))) z35 (sl7 P L n none none none none) c=gm [3,4,5] (fG 3 (aX (av 3) (aX (av 4) (aX (av 5) eS)))) z35 (cs.map hdD) (sl7 P L n none none none none) c from fun n c=>by unfold cS;rw [hi];rfl,e1,aE]
 rw [aK,show ∀ n c,cS (fIt (toD (d2 ax (vB 0) (kD (.int 1))))) [3,6,5] (fG 3 (aX (av 3) (aX (av 6) (aX (av 5) eS)))) q34 (sl7 P L n y3 y4 y5 none) c=gm [3,6,5] (fG 3 (aX (av 3) (aX (av 6) (aX (av 5) eS)))) q34 (ss.map hdD) (sl7 P L n y3 y4 y5 none) c from fun n c=>by unfold cS;rw [hi2];rfl,e2,aE]
 refine ⟨q2,c2,?_,by simpa [t0] using N2,((Keeps.app (Nat.le_refl _)).trans K1).trans K2,hge⟩
 rw [aZ (bf (v:=.ref q2.n) rfl)]
 rfl
end
def Dis (a b:List Nat):Prop:=∀ z∈a,z∉b
def Dis.symm {a b:List Nat} (h:Dis a b):Dis b a:=fun z hz hb=>h z hb hz
section
variable {c c':CH} {p:Pl} {q:Nl} {rows:List Dt} {on:List CV} {ls:List Int} {k k':Nat} {n:Int} {r:Option Int} {t t':Sta}
def ShAt.lt {c:CH}:∀ {ps:List Nat} {s:List (Str×List Int)},ShAt c ps s->∀ z∈ps,z<c.length
 | [],_,_,z,hz=>by cases hz
 | _::_,[],h,_,_=>h.elim
 | p::ps,a::s,h,z,hz=>by
  rcases List.mem_cons.mp hz with rfl | hz
  · exact (gX h.1).1
  · exact ShAt.lt h.2 z hz
def RunAt.lt (R:RunAt c p rows on ls k n r t):∀ z∈p.all,z<c.length:=by
 intro z hz
 simp only [Pl.all,List.mem_cons] at hz
 rcases hz with rfl | rfl | rfl | rfl | rfl | rfl | rfl | hz
 · exact (gX R.hr).1
 · exact (gX R.ho).1
 · exact (gX R.hi).1
 · exact (gX R.hg).1
 · exact (gX R.hb).1
 · exact (gX R.hc).1
 · exact (gX R.hs).1
 · exact R.hp.lt z hz
def RunAt.keep (R:RunAt c p rows on ls k n r t) (K:Keeps c.length c c'):RunAt c' p rows on ls k n r t:=R.frame fun z hz=>K.out z (R.lt z hz)
structure Gl (rows:List Dt) (on:List CV) (ls:List Int) (cs ss:List Hd):Prop where
 row:∀ k row,rows[k]?=some row->Row (cs.map (·.1)) (ss.map (·.1)) rows.length row/\((∃ a,row=.tup [.str "end",a]/\At a)∨k+1<rows.length)
 lead:∀ k row,rows[k]?=some row->∃ w,on[k]?=some (.dat (.tup w))/\Lead k row w
 li:∀ v∈ls,InR v
 ll:ls.length<300
structure Inv (rows:List Dt) (on:List CV) (ls:List Int) (cs ss:List Hd) (p:Pl) (c:CH) (q:Nl) (k:Nat) (n:Int) (r:Option Int) (t:Sta) (m:Nat):Prop where
 R:RunAt c p rows on ls k n r t
 N:NowAt c q ls k n r t
 d:Dis q.all p.all
 w:Wf m t
 hc:t.cl.map (·.1)=cs.map (·.1)
 hs:t.sh.map (·.1)=ss.map (·.1)
 hk:k<rows.length
def sl8 (D0 D1 D2 P:Dt) (r n:Nat) (x6 x7:Option CV):Sl:=[some (.dat D0),some (.dat D1),some (.dat D2),some (.dat P),some (.ref r),some (.ref n),x6,x7]
def rix3 {D:De} {l:List Dt} {i:Int} {d:Dt} (h:vB 3 D=some (.tup l)) (hx:atI l i=some d):toD (d2 ax (vB 3) (kD (.int i))) D=some d:=by
 unfold toD d2 kD
 rw [h]
 simp only [Option.bind_some,lX,hx,Option.map_some]
 rfl
def rC {D0 D1:Dt} {bs:List Str} {cs ss:List Hd} {x6 x7:Option CV} {m:Nat} (I:Inv rows on ls cs ss p c q k n r t m) (hm:m<300) (hb:bs.length<300) :
  ∃ g,jU (iB (eC y38 (ak (eV 4) (ak (eV 5) (ak (eD (vL 3)) (ak (eD (vL 2)) aB)))))) (sl8 D0 D1 (.lst (bs.map .str)) (prog cs ss rows) p.r q.n x6 x7) c=some (false,c++g):=by
 obtain ⟨g,e⟩:=wM (rws:=rows) (bs:=bs) I.R I.N I.hc I.hs (by have:=I.w.ol;omega) hb
 refine ⟨g,rm (b:=true) ?_⟩
 rw [jW (aS (bf rfl) (aS (bf rfl) (aS (aH (bT rfl)) (aS (aH (bT rfl)) rfl))))]
 exact e
def wO {D0 D1:Dt} {bs:List Str} {cs ss:List Hd} {x6 x7:Option CV} {m:Nat} (G:Gl rows on ls cs ss) (I:Inv rows on ls cs ss p c q k n r t m) (hm:m<88) (hb:bs.length<300) :
  ∃ c' q' k' n' r' t',q65 (sl8 D0 D1 (.lst (bs.map .str)) (prog cs ss rows) p.r q.n x6 x7) c=some (.nx (sl8 D0 D1 (.lst (bs.map .str)) (prog cs ss rows) p.r q.n x6 x7) c')/\q'.n=q.n/\Inv rows on ls cs ss p c' q' k' n' r' t' (m+1):=by
 obtain ⟨g,e1⟩:=rC (D0:=D0) (D1:=D1) (x6:=x6) (x7:=x7) I (by omega) hb
 have R1:RunAt (c++g) p rows on ls k n r t:=I.R.app
 have N1:NowAt (c++g) q ls k n r t:=I.N.app
 unfold q65
 rw [jH e1]
 generalize c++g=c1 at R1 N1
 cases r with
 | some v =>
  refine ⟨c1,q,k,n,some v,t,?_,rfl,⟨R1,N1,I.d,I.w.up,I.hc,I.hs,I.hk⟩⟩
  rw [aK,dL (ga R1 (su R1)),aE,cV,hV (b:=false) (by
   rw [cY (ent N1 rfl (c:=.dat (.int v)) rfl) (aH (d:=.non) rfl) (y:=.int v) (z:=.non) rfl rfl (t:=.leaf (.bl false)) rfl]
   rfl),dA]
  rfl
 | none =>
  obtain ⟨row,hrow⟩:∃ row,rows[k]?=some row:=⟨_,gQ I.hk⟩
  obtain ⟨hR,hE⟩:=G.row k _ hrow
  obtain ⟨w,hon,hL⟩:=G.lead k _ hrow
  have fr:∀ (c2:CH),NowAt c2 q ls k n none t->eIx (eD (toD (d2 ax (vB 3) (kD (.int 2))))) (eIx (eV 5) (eD (kD (.str "at")))) (sl8 D0 D1 (.lst (bs.map .str)) (prog cs ss rows) p.r q.n x6 x7) c2=some (.dat row,c2):=fun c2 N2 =>
   m9 (aH (d:=.tup rows) (rix3 (bW (d:=prog cs ss rows) rfl) rfl)) (ent N2 rfl (c:=.dat (.int k)) rfl) (e:=row) (by show (atI rows (k:Int)).map T.leaf=_;rw [bZ,hrow];rfl)
  have ft:∀ (c2:CH),NowAt c2 q ls k n none t->d6 (e2 (gIs false) (eIx (eV 5) (eD (kD (.str "answer")))) (eD (kD .non))) (sl8 D0 D1 (.lst (bs.map .str)) (prog cs ss rows) p.r q.n x6 x7) c2=some (true,c2):=fun c2 N2=>hV (by
   rw [cY (ent N2 rfl (c:=.dat .non) rfl) (aH (d:=.non) rfl) (y:=.non) (z:=.non) rfl rfl (t:=.leaf (.bl true)) rfl]
   rfl)
  rw [<- I.hc,<- I.hs] at hR
  rcases hR.stp (ls:=ls) (k:=k) I.w with ⟨a,ha,hA⟩ | ⟨k',t',s,hk'⟩
  · subst ha
    obtain ⟨c2,e2,R2,L2⟩:=oB R1 hA hrow
    have N2:NowAt c2 q ls k n none t:=N1.frame fun z hz=>L2.out z (I.d z hz)
    obtain ⟨c3,e3,N3,L3⟩:=uI N2 hA
    have R3:=R2.frame fun z hz=>L3.out z (R2.lt z hz) (I.d.symm z hz)
    refine ⟨c3,q,k,n+1,_,t,?_,rfl,⟨R3,N3,I.d,I.w.up,I.hc,I.hs,I.hk⟩⟩
    rw [aK,dL (ga R1 e2),aE,cV,ft c2 N2,fW,dL (by rw [jW (aS (fr c2 N2) (aS (bf rfl) rfl))];exact e3)]
  · have hlt:k'<rows.length:=hk' (by
     rcases hE with ⟨a,rfl,_⟩ | h
     · obtain ⟨y,l,hy,hy'⟩:=s.kind
       injection hy with hy
       injection hy with hy _
       injection hy with hy
       rw [<- hy] at hy'
       simp at hy'
     · exact h)
    obtain ⟨c2,e2,R2,L2⟩:=ir R1 I.w (by omega) s hrow hon hL
    have N2:NowAt c2 q ls k n none t:=N1.frame fun z hz=>L2.out z (I.d z hz)
    obtain ⟨c3,ps',e3,N3,L3,hps⟩:=wK N2 I.w (by omega) G.ll s
    have hlt2:=R2.lt
    have R3:=R2.frame fun z hz=>L3.out z (R2.lt z hz) (I.d.symm z hz)
    refine ⟨c3,{q with ps:=ps'},k',n+1,none,t',?_,rfl,⟨R3,N3,fun z hz hp=>?_,s.wf I.w G.li,by rw [s.cl_keys];exact I.hc,by rw [s.sh_keys];exact I.hs,hlt⟩⟩
    · rw [aK,dL (ga R1 e2),aE,cV,ft c2 N2,fW,dL (by rw [jW (aS (fr c2 N2) (aS (bf rfl) rfl))];exact e3)]
    · have hq:z∈q.all∨c2.length<=z:=by
       simp only [Nl.all,List.mem_cons] at hz ⊢
       rcases hz with h | h | h | h | h
       · exact .inl (.inl h)
       · exact .inl (.inr (.inl h))
       · exact .inl (.inr (.inr (.inl h)))
       · exact .inl (.inr (.inr (.inr (.inl h))))
       · rcases hps z h with h | h
         · exact .inl (.inr (.inr (.inr (.inr h))))
         · exact .inr h
      rcases hq with h | h
      · exact I.d z h hp
      · have:=hlt2 z hp
        omega
def rD {D0 D1:Dt} {bs:List Str} {cs ss:List Hd} {x7:Option CV} (G:Gl rows on ls cs ss) (hb:bs.length<300) :
  ∀ {ds:List Dt} {c:CH} {q:Nl} {k:Nat} {n:Int} {r:Option Int} {t:Sta} {m:Nat} {x6:Option CV},Inv rows on ls cs ss p c q k n r t m->m+ds.length<88→
  ∃ c' q' k' n' r' t' x6' m',gm [6] (av 6) q65 ds (sl8 D0 D1 (.lst (bs.map .str)) (prog cs ss rows) p.r q.n x6 x7) c=some (.nx (sl8 D0 D1 (.lst (bs.map .str)) (prog cs ss rows) p.r q.n x6' x7) c')/\q'.n=q.n/\Inv rows on ls cs ss p c' q' k' n' r' t' m'/\m'<88
 | [],c,q,k,n,r,t,m,x6,I,hm=>⟨c,q,k,n,r,t,x6,m,rfl,rfl,I,by simpa using hm⟩
 | d::ds,c,q,k,n,r,t,m,x6,I,hm=>by
  simp only [List.length_cons] at hm
  obtain ⟨c1,q1,k1,n1,r1,t1,e1,en,I1⟩:=wO (D0:=D0) (D1:=D1) (bs:=bs) (x6:=some (.dat d)) (x7:=x7) G I (by omega) hb
  obtain ⟨c2,q2,k2,n2,r2,t2,x2,m2,e2,en2,I2,hm2⟩:=rD (D0:=D0) (D1:=D1) (x7:=x7) (ds:=ds) (x6:=some (.dat d)) G hb I1 (by omega)
  refine ⟨c2,q2,k2,n2,r2,t2,x2,m2,?_,en2.trans en,I2,hm2⟩
  rw [nc (δ2:=sl8 D0 D1 (.lst (bs.map .str)) (prog cs ss rows) p.r q.n (some (.dat d)) x7) (ch2:=c1) (by show 6<8;decide) e1,<- en]
  exact e2
end
def zF (a b:Int) (ha:InR a):q44 [.str "+",.int a,.int b]=some (.leaf (.int ((a+b)%wide)))/\y15 [.str "+",.int a,.int b]=some (.leaf (.int ((a+b)%wide))):=by
 refine ⟨du (s:=Str.ofString "+") (n:=a+b) ?_,iV (s:=Str.ofString "+") ha (by decide +kernel) (by decide +kernel) ?_⟩
 · unfold q17
   walk_at "k"
 · simp only [iU,if_true]
def zG (a b:Int):q44 [.str "<",.int a,.int b]=some (.leaf (.int (if a<b then 1 else 0)))/\y15 [.str "<",.int a,.int b]=some (.leaf (.int (if a<b then 1 else 0))):=by
 refine ⟨(du (s:=Str.ofString "<") (n:=if a<b then 1 else 0) ?_).trans (by rw [j9 sq]),?_⟩
 · unfold q17
   walk_at "k"
   by_cases h:a<b
   · rw [dz (by simpa using h),if_pos h]
     walk_at "k"
   · rw [cP (by simpa using h),if_neg h]
     walk_at "k"
 · show y15 [.str (Str.ofString "<"),.int a,.int b]=_
   unfold y15
   walk_at "k"
   simp
def cA (x y:Str) (R:Int):List Dt:=[.tup [.str "op",.str x,.str "+",.str x,.int 1],.tup [.str "op",.str y,.str "<",.str x,.int R],.tup [.str "if",.str y,.int 0],.tup [.str "say",.str y],.tup [.str "end",.str x]]
def de {v:Int} (h0:0<=v) (h1:v<=1000):InR v:=⟨h0,by rw [dy];omega⟩
def sy (x y:Str) (R:Int) (h0:0<=R) (h1:R<=1000):∀ r∈cA x y R,Row [] [] 5 r:=by
 intro r hr
 simp only [cA,List.mem_cons,List.not_mem_nil,or_false] at hr
 rcases hr with rfl | rfl | rfl | rfl | rfl
 · exact .op (.inl rfl) (.inr ⟨x,rfl⟩) (.inl ⟨1,de (by decide) (by decide),rfl⟩)
 · exact .op (.inr (.inr (.inr (.inl rfl)))) (.inr ⟨x,rfl⟩) (.inl ⟨R,de h0 h1,rfl⟩)
 · exact .iff (k:=0) (.inr ⟨y,rfl⟩) (by decide)
 · exact .say (.inr ⟨y,rfl⟩)
 · exact .fin (.inr ⟨x,rfl⟩)
def tL (bx:Al) (out:List Int):Sta:=⟨bx,[],[],0,out⟩
def wfL {bx:Al} {out:List Int} (h1:out.length<=5) (h2:∀ p∈bx,InR p.2) (h3:(bx.map (·.1)).Nodup) (h4:bx.length<=5):Wf 5 (tL bx out):=
 ⟨h1,Nat.zero_le _,h2,(fun _ h=>by cases h),(fun _ h=>by cases h),h3,h4,List.nodup_nil,(by decide:0<300),(fun _ h=>by cases h)⟩
section
variable {c c':CH} {p:Pl} {on:List CV} {k:Nat} {n:Int} {r:Option Int} {x y:Str} {R:Int}
def LdL (x y:Str) (R:Int) (on:List CV):Prop:=∀ (k:Nat) (row:Dt),(cA x y R)[k]?=some row->∃ w,on[k]?=some (.dat (.tup w))/\Lead k row w
def pt2 (hxy:x≠y) {a b v:Int}:ptS [(x,a),(y,b)] x v=[(x,v),(y,b)]:=by simp [ptS]
def pt3 (hxy:x≠y) {a b v:Int}:ptS [(x,a),(y,b)] y v=[(x,a),(y,v)]:=by simp [ptS,hxy]
def BI (hL:LdL x y R on) (hxy:x≠y) (h0:0<=R) (h1:R<=1000) {bx:Al} {j:Int} (hj:0<=j) (hj':j<R) (hb:bx=[]/\j=0∨∃ b,InR b/\bx=[(x,j),(y,b)]) (A:RunAt c p (cA x y R) on [] 0 n none (tL bx [])) :
  ∃ c1 c2 c3,z12 [.ref p.r] c=some (.dat .non,c1)/\z12 [.ref p.r] c1=some (.dat .non,c2)/\z12 [.ref p.r] c2=some (.dat .non,c3)/\(∃ t,RunAt c1 p (cA x y R) on [] 1 (n+1) none t)/\(∃ t,RunAt c2 p (cA x y R) on [] 2 (n+1+1) none t)∧
   RunAt c3 p (cA x y R) on [] (if j+1<R then 0 else 3) (n+1+1+1) none (tL [(x,j+1),(y,if j+1<R then 1 else 0)] []):=by
 have w0:Wf 5 (tL bx []):=by
  rcases hb with ⟨rfl,_⟩ | ⟨b,hb,rfl⟩
  · exact wfL (by decide) (fun _ h=>by cases h) List.nodup_nil (by decide)
  · refine wfL (by decide) (fun p hp=>?_) (by simp [hxy]) (by simp)
    simp only [List.mem_cons,List.not_mem_nil,or_false] at hp
    rcases hp with rfl | rfl
    · exact de hj (by omega)
    · exact hb
 have hx:wo (tL bx []) (.str x)=j:=by
  show (lkS bx x).getD 0=j
  rcases hb with ⟨rfl,rfl⟩ | ⟨b,hb,rfl⟩
  · rfl
  · simp [lkS]
 have iv:InR (j+1):=de (by omega) (by omega)
 have v1:=zF j 1 (de hj (by omega))
 rw [j9 iv] at v1
 obtain ⟨w1,o1,l1⟩:=hL 0 _ rfl
 have s1:Stp [] 0 (tL bx []) (.tup [.str "op",.str x,.str "+",.str x,.int 1]) 1 (tL (ptS bx x (j+1)) []):=Stp.op (.inr ⟨x,rfl⟩) (.inl ⟨1,de (by decide) (by decide),rfl⟩) iv (by rw [hx];exact v1.1) (by rw [hx];exact v1.2)
 obtain ⟨c1,e1,A1,_⟩:=ir A w0 (by decide) s1 rfl o1 l1
 have hb1:∃ z,ptS bx x (j+1)=z/\(∀ p∈z,InR p.2)/\(z.map (·.1)).Nodup/\z.length<=2/\lkS z x=some (j+1)/\∀ v,ptS z y v=[(x,j+1),(y,v)]:=by
  rcases hb with ⟨rfl,rfl⟩ | ⟨b,hb,rfl⟩
  · refine ⟨[(x,0+1)],rfl,fun p hp=>?_,by simp,by simp,by simp [lkS],fun v=>by simp [ptS,hxy]⟩
    cases List.mem_singleton.mp hp
    exact iv
  · refine ⟨[(x,j+1),(y,b)],pt2 hxy,fun p hp=>?_,by simp [hxy],by simp,by simp [lkS],fun v=>pt3 hxy⟩
    simp only [List.mem_cons,List.not_mem_nil,or_false] at hp
    rcases hp with rfl | rfl
    · exact iv
    · exact hb
 obtain ⟨z,hz,z1,z2,z3,z4,z5⟩:=hb1
 rw [hz] at A1
 have hx1:wo (tL z []) (.str x)=j+1:=by
  show (lkS z x).getD 0=j+1
  rw [z4]
  rfl
 have v2:=zG (j+1) R
 have ib:InR (if j+1<R then 1 else 0):=sq
 obtain ⟨w2,o2,l2⟩:=hL 1 _ rfl
 have s2:Stp [] 1 (tL z []) (.tup [.str "op",.str y,.str "<",.str x,.int R]) 2 (tL (ptS z y (if j+1<R then 1 else 0)) []):=Stp.op (.inr ⟨x,rfl⟩) (.inl ⟨R,de h0 h1,rfl⟩) ib (by rw [hx1];exact v2.1) (by rw [hx1];exact v2.2)
 obtain ⟨c2,e2,A2,_⟩:=ir A1 (wfL (by decide) z1 z2 (by omega)) (by decide) s2 rfl o2 l2
 rw [z5] at A2
 obtain ⟨w3,o3,l3⟩:=hL 2 _ rfl
 have hy:wo (tL [(x,j+1),(y,if j+1<R then 1 else 0)] []) (.str y)=if j+1<R then 1 else 0:=by
  show (lkS [(x,j+1),(y,if j+1<R then 1 else 0)] y).getD 0=_
  simp [lkS,hxy]
 have w2':Wf 5 (tL [(x,j+1),(y,if j+1<R then 1 else 0)] []):=wfL (by decide) (fun p hp=>by
  simp only [List.mem_cons,List.not_mem_nil,or_false] at hp
  rcases hp with rfl | rfl
  · exact iv
  · exact ib) (by simp [hxy]) (by simp)
 by_cases h:j+1<R
 · have s3:Stp [] 2 (tL [(x,j+1),(y,if j+1<R then 1 else 0)] []) (.tup [.str "if",.str y,.int ((0:Nat):Int)]) 0 (tL [(x,j+1),(y,if j+1<R then 1 else 0)] []):=Stp.iffy (.inr ⟨y,rfl⟩) (by rw [hy,if_pos h];decide)
   obtain ⟨c3,e3,A3,_⟩:=ir A2 w2' (by decide) s3 rfl o3 l3
   refine ⟨c1,c2,c3,e1,e2,e3,⟨_,A1⟩,⟨_,A2⟩,?_⟩
   rw [if_pos h] at A3 ⊢
   rw [if_pos h]
   exact A3
 · have s3:Stp [] 2 (tL [(x,j+1),(y,if j+1<R then 1 else 0)] []) (.tup [.str "if",.str y,.int ((0:Nat):Int)]) (2+1) (tL [(x,j+1),(y,if j+1<R then 1 else 0)] []):=Stp.ifn (.inr ⟨y,rfl⟩) (by rw [hy,if_neg h])
   obtain ⟨c3,e3,A3,_⟩:=ir A2 w2' (by decide) s3 rfl o3 l3
   refine ⟨c1,c2,c3,e1,e2,e3,⟨_,A1⟩,⟨_,A2⟩,?_⟩
   rw [if_neg h] at A3 ⊢
   rw [if_neg h]
   exact A3
def sL (D0 D1 X Y Q W:Dt) (r:Nat) (x7:Option CV):Sl:=[some (.dat D0),some (.dat D1),some (.dat X),some (.dat Y),some (.dat Q),some (.dat W),some (.ref r),x7]
def pU {D0 D1 X Y Q W d:Dt} {ds:List Dt} {x7:Option CV} {rows:List Dt} {ls:List Int} {t:Sta} (A:RunAt c p rows on ls k n r t) (e:z12 [.ref p.r] c=some (.dat .non,c')):gm [7] (av 7) q33 (d::ds) (sL D0 D1 X Y Q W p.r x7) c=gm [7] (av 7) q33 ds (sL D0 D1 X Y Q W p.r (some (.dat d))) c':=
 nc (by show 7<8;decide) (by
  unfold q33
  exact dL (ga A e))
def uR {D0 D1 X Y Q W:Dt} (hL:LdL x y R on) (hxy:x≠y) (h0:0<=R) (h1:R<=1000):∀ (m:Nat) {ds:List Dt} {j:Int} {n:Int} {bx:Al} {c:CH} {x7:Option CV},ds.length=3*(m+1)+1->j+((m+1:Nat):Int)=R->0<=j->(bx=[]/\j=0∨∃ b,InR b/\bx=[(x,j),(y,b)])->RunAt c p (cA x y R) on [] 0 n none (tL bx [])→
  ∃ c' d x7',gm [7] (av 7) q33 ds (sL D0 D1 X Y Q W p.r x7) c=gm [7] (av 7) q33 [d] (sL D0 D1 X Y Q W p.r x7') c'/\RunAt c' p (cA x y R) on [] 3 (n+3*((m+1:Nat):Int)) none (tL [(x,R),(y,0)] [])
 | m,ds,j,n,bx,c,x7,hl,hjm,hj,hb,A=>by
  obtain ⟨d1,d2,d3,ds',rfl⟩:∃ d1 d2 d3 ds',ds=d1::d2::d3::ds':=by
   match ds,hl with
   | d1::d2::d3::ds',_=>exact ⟨d1,d2,d3,ds',rfl⟩
   | [],h=>simp at h
   | [_],h=>simp at h
   | [_,_],h=>exfalso;simp at h;omega
  obtain ⟨c1,c2,c3,e1,e2,e3,⟨t1,A1⟩,⟨t2,A2⟩,A3⟩:=BI hL hxy h0 h1 hj (by omega) hb A
  simp only [List.length_cons] at hl
  cases m with
  | zero =>
   have hR:¬ j+1<R:=by omega
   rw [if_neg hR,if_neg hR] at A3
   obtain ⟨d,rfl⟩:∃ d,ds'=[d]:=by
    match ds',hl with
    | [d],_=>exact ⟨d,rfl⟩
    | [],h=>simp at h
    | _::_::_,h=>simp at h
   refine ⟨c3,d,some (.dat d3),?_,?_⟩
   · rw [pU A e1,pU A1 e2,pU A2 e3]
   · have e4:j+1=R:=by omega
     rw [e4] at A3
     have e5:n+1+1+1=n+3*((0+1:Nat):Int):=by omega
     rw [e5] at A3
     exact A3
  | succ m =>
   have hR:j+1<R:=by omega
   rw [if_pos hR,if_pos hR] at A3
   obtain ⟨c',d,x7',e,B⟩:=uR (D0:=D0) (D1:=D1) (X:=X) (Y:=Y) (Q:=Q) (W:=W) hL hxy h0 h1 m (ds:=ds') (j:=j+1) (x7:=some (.dat d3)) (by omega) (by omega) (by omega) (.inr ⟨1,de (by decide) (by decide),rfl⟩) A3
   refine ⟨c',d,x7',?_,?_⟩
   · rw [pU A e1,pU A1 e2,pU A2 e3]
     exact e
   · have e5:n+1+1+1+3*((m+1:Nat):Int)=n+3*((m+1+1:Nat):Int):=by omega
     rw [e5] at B
     exact B
end
def uS {cn:Str} {g:Fd} {fs:Fgs} {δ:Sl} {ch ch1 ch2:CH} {cs:List CV} (h1:fs δ ch=some (cs,ch1)) (h2:g (.ref ch1.length::cs) (ch1++[.ins cn [] []])=some (.dat .non,ch2)) (h3:ch1.length<ch2.length):eMk cn g fs δ ch=some (.ref ch1.length,ch2):=by
 unfold eMk
 rw [h1,Option.bind_some]
 dsimp only
 rw [h2,Option.bind_some]
 dsimp only
 rw [if_pos h3]
def uT {base:CH} {ns:List Str} {l:List CV} {G:CH}:base.length<(mk base ns l G).length:=by rw [iW];omega
def uU {α:Type} (f:α->Dt) (l:List α) (b:Nat) (h:b<=l.length):gSl (.lst (l.map f)) none (some (b:Int))=some (.lst ((l.take b).map f)):=by
 show some (T.lst (L2.vN (l.map f) none (some (b:Int))))=_
 unfold L2.vN
 rw [HT.Ak,HT.BL,List.length_map,Nat.min_eq_left h,List.map_take]
 simp
def BJ {b:Bool}:mU true (.bl b) (.bl b)=some (.leaf (.bl false)):=by cases b<;>rfl
def zH {b:Bool}:mU false (.bl b) (.bl b)=some (.leaf (.bl true)):=by cases b<;>rfl
def bI {f:De->Option Dt} {fs:De->Option (List Dt)} {E:De} {d:Dt} {ds:List Dt} (h1:f E=some d) (h2:fs E=some ds):ag f fs E=some (d::ds):=by
 unfold ag
 rw [h1,h2]
 rfl
def dZ {E:De}:aI E=some []:=rfl
def wP {nm:List Str} (hn:nm.length=24) (nd:nm.Nodup) (cell:Int) (ch:CH):∃ c,q48 [.dat (.lst (nm.map .str)),.dat (.int cell)] ch=some (.dat (.bl true),c):=by
 obtain ⟨x,y,l,rfl⟩:∃ x y l,nm=x::y::l:=by
  match nm,hn with
  | x::y::l,_=>exact ⟨x,y,l,rfl⟩
 have hxy:x≠y:=fun e=>by
  have:=(List.nodup_cons.mp nd).1
  rw [e] at this
  simp at this
 have m0:=Int.emod_nonneg cell (show (801:Int)≠0 by decide)
 have m1:=Int.emod_lt_of_pos cell (show (0:Int)<801 by decide)
 generalize hR:100+cell%801=R
 have h0:0<=R:=by omega
 have h1:R<=1000:=by omega
 unfold q48
 rw [bM]
 walk_at "m"
 have ec:=uU Dt.str (x::y::l) 2 (by simp)
 have e1:oj (toD (vSl (vB 0) jb (eY (kD (.int 2))))) [2,3] (wj 2 (aX (av 2) (aX (av 3) eS))) [some (.dat (.lst (.str x::.str y::l.map .str))),some (.dat (.int cell)),none,none,none,none,none,none] ch=some (.nx [some (.dat (.lst (.str x::.str y::l.map .str))),some (.dat (.int cell)),some (.dat (.str x)),some (.dat (.str y)),none,none,none,none] ch):=by
  unfold oj
  rw [show toD (vSl (vB 0) jb (eY (kD (.int 2)))) (lo [some (.dat (.lst (.str x::.str y::l.map .str))),some (.dat (.int cell)),none,none,none,none,none,none] ch)=some (.lst [.str x,.str y]) by
   show ((gSl (.lst ((x::y::l).map Dt.str)) none (some ((2:Nat):Int))).map T.d)=_
   rw [ec]
   rfl,Option.bind_some]
  rfl
 rw [aK,e1,aE]
 have e2':eD (toD (d2 bY (kD (.int 100)) (toD (d2 bV (vB 1) (kD (.int 801)))))) [some (.dat (.lst (.str x::.str y::l.map .str))),some (.dat (.int cell)),some (.dat (.str x)),some (.dat (.str y)),none,none,none,none] ch=some (.dat (.int R),ch):=aH (by
  show ((bY (.int 100) (.int (cell%801))).map T.d)=_
  rw [kG,hR]
  rfl)
 rw [aK,bR e2',aE]
 show ∃ c,cU (aP _ _ [some (.dat (.lst (.str x::.str y::l.map .str))),some (.dat (.int cell)),some (.dat (.str x)),some (.dat (.str y)),some (.dat (.int R)),none,none,none] ch)=_
 rw [aK,bR (aH (d:=.tup (cA x y R)) rfl),aE]
 show ∃ c,cU (aP _ _ [some (.dat (.lst (.str x::.str y::l.map .str))),some (.dat (.int cell)),some (.dat (.str x)),some (.dat (.str y)),some (.dat (.int R)),some (.dat (.tup (cA x y R))),none,none] ch)=_
 obtain ⟨ws,hw,hon⟩:=rA (cs:=[]) (ss:=[]) (N:=5) (rr:=cA x y R) (p:=.tup []) (q:=.tup []) (show 5<=900 by decide) (sy x y R h0 h1)
 have i1:=rB (base:=ch) (L:=.dat (.lst [])) (ls:=[]) (cs:=[]) (ss:=[]) (rows:=cA x y R) (ws:=ws) (.inl rfl) hw List.nodup_nil List.nodup_nil (by decide) (by decide) (fun _ h=>by cases h)
 have A:=oJ (base:=ch) (ls:=[]) (cs:=[]) (ss:=[]) (rows:=cA x y R) (ws:=ws)
 rw [aK,bR (uS (aS (aH (d:=prog [] [] (cA x y R)) rfl) (aS (aH (d:=.lst []) rfl) rfl)) i1 uT),aE]
 have hr:(pl0 ch.length ([]:List Hd).length []).r=ch.length:=rfl
 generalize mk ch fns (pv (pl0 ch.length ([]:List Hd).length []) (cA x y R) 0 0 0 none) (gI ws [] [] [] ch.length)=c1 at A
 generalize pl0 ch.length ([]:List Hd).length []=p at A hr
 show ∃ c,cU (aP _ _ (sL (.lst (.str x::.str y::l.map .str)) (.int cell) (.str x) (.str y) (.int R) (.tup (cA x y R)) ch.length none) c1)=_
 rw [<- hr]
 have hL:LdL x y R (ws.map .dat):=fun k row hk=>by
  obtain ⟨w,e,h⟩:=hon k row hk
  exact ⟨w,by rw [List.getElem?_map,e];rfl,h⟩
 obtain ⟨m,hm⟩:∃ m:Nat,R=((m+1:Nat):Int):=⟨(R-1).toNat,by omega⟩
 have e3R:∀ (r:Nat) (x7:Option CV) (c:CH),toD (d2 bY (toD (d2 fQ (kD (.int 3)) (vB 4))) (kD (.int 1))) (lo (sL (.lst (.str x::.str y::l.map .str)) (.int cell) (.str x) (.str y) (.int R) (.tup (cA x y R)) r x7) c)=some (.int (3*R+1)):=fun r x7 c=>by
  have v4:vB 4 (lo (sL (.lst (.str x::.str y::l.map .str)) (.int cell) (.str x) (.str y) (.int R) (.tup (cA x y R)) r x7) c)=some (.int R):=bW rfl
  show ((((((vB 4 (lo (sL (.lst (.str x::.str y::l.map .str)) (.int cell) (.str x) (.str y) (.int R) (.tup (cA x y R)) r x7) c)).bind fun y=>fQ (.int 3) y)).map T.d).bind fun x=>bY x (.int 1)).map T.d)=_
  rw [v4,Option.bind_some,kK (by decide) (by decide)]
  rfl
 have ef:gi gf (ag (toD (d2 bY (toD (d2 fQ (kD (.int 3)) (vB 4))) (kD (.int 1)))) aI) (lo (sL (.lst (.str x::.str y::l.map .str)) (.int cell) (.str x) (.str y) (.int R) (.tup (cA x y R)) p.r none) c1)=some (bX 0 (3*(m+1)+1)):=by
  show ((ag (toD (d2 bY (toD (d2 fQ (kD (.int 3)) (vB 4))) (kD (.int 1)))) aI (lo _ c1)).bind gf)=_
  rw [bI (e3R _ _ _) dZ,Option.bind_some,g7 (eI (by omega) (by omega)),show (3*R+1).toNat=3*(m+1)+1 by omega]
 obtain ⟨c2,d,x7',er,A2⟩:=uR (D0:=.lst (.str x::.str y::l.map .str)) (D1:=.int cell) (X:=.str x) (Y:=.str y) (Q:=.int R) (W:=.tup (cA x y R)) hL hxy h0 h1 m (ds:=bX 0 (3*(m+1)+1)) (j:=0) (n:=0) (bx:=[]) (x7:=none) (by rw [d5]) (by omega) (by decide) (.inl ⟨rfl,rfl⟩) A
 obtain ⟨w4,o4,l4⟩:=hL 3 _ rfl
 have iR:InR R:=de h0 h1
 have wq:∀ out:List Int,out.length<=5->Wf 5 (tL [(x,R),(y,0)] out):=fun out ho=>wfL ho (fun p hp=>by
  simp only [List.mem_cons,List.not_mem_nil,or_false] at hp
  rcases hp with rfl | rfl
  · exact iR
  · exact wE) (by simp [hxy]) (by simp)
 have hy0:wo (tL [(x,R),(y,0)] []) (.str y)=0:=by
  show (lkS [(x,R),(y,0)] y).getD 0=0
  simp [lkS,hxy]
 have s4:Stp [] 3 (tL [(x,R),(y,0)] []) (.tup [.str "say",.str y]) 4 (tL [(x,R),(y,0)] ([]++[wo (tL [(x,R),(y,0)] []) (.str y)])):=Stp.say (.inr ⟨y,rfl⟩)
 rw [hy0] at s4
 obtain ⟨c3,e4,A3,_⟩:=ir A2 (wq [] (by decide)) (by decide) s4 rfl o4 l4
 rw [aK,show cS (gi gf (ag (toD (d2 bY (toD (d2 fQ (kD (.int 3)) (vB 4))) (kD (.int 1)))) aI)) [7] (av 7) q33 (sL (.lst (.str x::.str y::l.map .str)) (.int cell) (.str x) (.str y) (.int R) (.tup (cA x y R)) p.r none) c1=some (.nx (sL (.lst (.str x::.str y::l.map .str)) (.int cell) (.str x) (.str y) (.int R) (.tup (cA x y R)) p.r (some (.dat d))) c3) by
  unfold cS
  rw [ef,Option.bind_some,er,pU A2 e4]
  rfl,aE]
 have en:0+3*((m+1:Nat):Int)+1=3*R+1:=by omega
 rw [en] at A3
 have hx3:wo (tL [(x,R),(y,0)] ([]++[0])) (.str x)=R:=by
  show (lkS [(x,R),(y,0)] x).getD 0=R
  simp [lkS]
 have eb:eM "Plain" "box" y16 (eV 6) (ak (eD (vL 2)) aB) (sL (.lst (.str x::.str y::l.map .str)) (.int cell) (.str x) (.str y) (.int R) (.tup (cA x y R)) p.r (some (.dat d))) c3=some (.dat (.int R),c3):=by
  rw [fM (bf rfl) A3.hr (by decide +kernel) (aS (aH (bT rfl)) rfl)]
  rw [<- hx3]
  exact nh A3 x
 rw [jH (or2 (ic (ga A3 (ld A3)) (aH (d:=.int 4) rfl) (d:=.int 4) rfl rfl (eq_int _)) (or2 (c1:=c3) (hV (by rw [cY (ga A3 (gp A3)) (aH (d:=.bl false) rfl) (y:=.bl false) (z:=.bl false) rfl rfl BJ];rfl)) (or2 (ic eb (aH (d:=.int R) (bT rfl)) (d:=.int R) rfl rfl (eq_int _)) (ic (ga A3 (le A3)) (aH (e3R _ _ _)) (d:=.int (3*R+1)) rfl rfl (eq_int _)))))]
 obtain ⟨c4,e5,A4,_⟩:=oB A3 (a:=.str x) (.inr ⟨x,rfl⟩) rfl
 rw [hx3] at A4
 rw [aK,dL (ga A3 e5),aE]
 have g1:e2 (mU false) (eM "Plain" "ended" q13 (eV 6) aB) (eD (kD (.bl true))) (sL (.lst (.str x::.str y::l.map .str)) (.int cell) (.str x) (.str y) (.int R) (.tup (cA x y R)) p.r (some (.dat d))) c4=some (.dat (.bl true),c4):=by
  rw [cY (ga A4 (gp A4)) (aH (d:=.bl true) rfl) (y:=.bl true) (z:=.bl true) rfl rfl zH]
  rfl
 have g2:e2 (gEq false) (eM "Plain" "answer" q23 (eV 6) aB) (eD (vL 4)) (sL (.lst (.str x::.str y::l.map .str)) (.int cell) (.str x) (.str y) (.int R) (.tup (cA x y R)) p.r (some (.dat d))) c4=some (.dat (.bl true),c4):=by
  rw [cY (ga A4 (mq A4)) (aH (d:=.int R) (bT rfl)) (y:=.int R) (z:=.int R) rfl rfl (kI (eq_int R))]
  rfl
 have g3:e2 (gEq false) (eM "Plain" "sent" q16 (eV 6) aB) (eD (toD (dN (ag (kD (.int 0)) aI)))) (sL (.lst (.str x::.str y::l.map .str)) (.int cell) (.str x) (.str y) (.int R) (.tup (cA x y R)) p.r (some (.dat d))) c4=some (.dat (.bl true),c4++[li [0]]):=by
  rw [cY (ga A4 (nq A4)) (aH (d:=.lst [.int 0]) rfl) (y:=.lst [.int 0]) (z:=.lst [.int 0]) (gG (vs:=[0]) cE) rfl (kI (ka [0]))]
  rfl
 rw [aZ (v:=.dat (.bl true)) (ch1:=c4++[li [0]]) (by
  unfold pE
  rw [g1]
  simp only [Option.bind_some,mZ,if_true]
  rw [g2]
  simp only [Option.bind_some,mZ,if_true]
  exact g3)]
 exact ⟨_,rfl⟩
def vb (n:Int):Int:=(jh n).choose
def xH (n:Int):y17 [.int n]=some (.leaf (.int (vb n))):=(jh n).choose_spec.1
def xI (n:Int):InR (vb n):=(jh n).choose_spec.2
def nmD (nm:List Str):Dt:=.lst (nm.map .str)
def inD (vs:List Int):Dt:=.lst (vs.map .int)
def oN (nm:List Str) (vs:List Int) (k:Nat):Hd:=(nm.getD k "",vb (vs.getD k 0/2),decide (vs.getD k 0%2=0))
def jJ (nm:List Str) (vs:List Int) (k:Nat):Hd:=(nm.getD (8+k) "",1+vs.getD (8+k) 0%8,decide (vs.getD (8+k) 0/8%2=0))
def zI (nm:List Str) (vs:List Int) (k:Nat) (hk:k<nm.length) (hv:k<vs.length):z41 [some (.leaf (.int (0+(k:Int)))),some (.leaf (nmD nm)),some (.leaf (inD vs))]=some (hdD (oN nm vs k)):=by
 unfold z41 nmD inD
 rw [Int.zero_add]
 walk_at "d"
 rw [dr Dt.str nm k hk "",dr Dt.int vs k hv 0]
 walk_at "d"
 rw [xH]
 walk_at "d"
 rfl
def wQ (nm:List Str) (vs:List Int) (k:Nat) (hk:8+k<nm.length) (hv:8+k<vs.length):z40 [some (.leaf (.int (0+(k:Int)))),some (.leaf (nmD nm)),some (.leaf (inD vs))]=some (hdD (jJ nm vs k)):=by
 unfold z40 nmD inD
 rw [Int.zero_add]
 walk_at "d"
 rw [show (8:Int)+(k:Int)=((8+k:Nat):Int) from rfl,dr Dt.str nm (8+k) hk "",dr Dt.int vs (8+k) hv 0]
 walk_at "d"
 rfl
def lq {fe:De->Option Dt} {δ0:De} {m:Nat} {f:Nat->Hd} (h:∀ k<m,fe (δ0.set 0 (some (.leaf (.int (0+(k:Int))))))=some (hdD (f k))):eG (av 0) bH fe δ0 (bX 0 m)=some (((List.range m).map f).map hdD):=by
 rw [gk (f:=fun d=>match d with
  | .int k=>hdD (f k.toNat)
  | d=>d) fun d hd=>by
  obtain ⟨i,hi,rfl⟩:=mem_range hd
  refine ⟨_,rfl,rfl,?_⟩
  rw [h i hi]
  show some (hdD (f i))=some (hdD (f (0+(i:Int)).toNat))
  rw [show (0+(i:Int)).toNat=i by omega]]
 congr 1
 apply List.ext_getElem?
 intro j
 simp only [List.getElem?_map,bX]
 by_cases hj:j<m
 · simp [hj]
 · simp [hj]
def q94 (nm:List Str) (o m:Nat) (h:o+m<=nm.length):(List.range m).map (fun k=>nm.getD (o+k) "")=(nm.drop o).take m:=by
 apply List.ext_getElem?
 intro j
 rw [List.getElem?_map,List.getElem?_take]
 by_cases hj:j<m
 · rw [if_pos hj,List.getElem?_drop,List.getElem?_range hj,gQ (show o+j<nm.length by omega)]
   simp [show o+j<nm.length by omega]
 · rw [if_neg hj,List.getElem?_eq_none (by simp;omega)]
   rfl
def uV {α:Type} (f:α->Dt) (l:List α) (a:Nat) (h:a<=l.length):gSl (.lst (l.map f)) (some (a:Int)) none=some (.lst ((l.drop a).map f)):=by
 show some (T.lst (L2.vN (l.map f) (some (a:Int)) none))=_
 unfold L2.vN
 rw [HT.Ak,HT.BL,List.length_map,Nat.min_eq_left h,List.map_drop,List.take_of_length_le (by simp)]
def wR {α:Type} (f:α->Dt) (l:List α) (a b:Int):∃ m:List α,gSl (.lst (l.map f)) (some a) (some b)=some (.lst (m.map f))/\m.length<=l.length/\(0<=a->0<=b->(m.length:Int)<=b-a∨m=[]):=by
 refine ⟨(l.drop (HT.sIx (l.map f).length 0 (some a))).take (HT.sIx (l.map f).length (l.map f).length (some b)-HT.sIx (l.map f).length 0 (some a)),?_,?_,?_⟩
 · show some (T.lst (L2.vN (l.map f) (some a) (some b)))=_
   unfold L2.vN
   rw [List.map_take,List.map_drop]
 · simp only [List.length_take,List.length_drop]
   omega
 · intro h0 h1
   obtain ⟨a',rfl⟩:=Int.eq_ofNat_of_zero_le h0
   obtain ⟨b',rfl⟩:=Int.eq_ofNat_of_zero_le h1
   rw [HT.BL,HT.BL]
   by_cases h:(List.take (min b' (l.map f).length-min a' (l.map f).length) (List.drop (min a' (l.map f).length) l)).length=0
   · exact .inr (List.length_eq_zero_iff.mp h)
   · left
     simp only [List.length_take,List.length_drop,List.length_map] at h ⊢
     omega
def most (b:Bool):List Int:=if b then [8,4,12,60] else [3,2,4,7]
def wS (b:Bool):atI [Dt.lst [.int 3,.int 2,.int 4,.int 7],.lst [.int 8,.int 4,.int 12,.int 60]] (if b then 1 else 0)=some (.lst ((most b).map .int)):=by cases b<;>rfl
def uW (ns:List Int):∃ (nm bs:List Str) (cs ss:List Hd) (ls:List Int) (b:Bool),z32 [.int (ns.getD 0 0),.int 24]=some (.lst (nm.map .str))/\nm.length=24/\nm.Nodup∧
  z45 [.lst (ns.map .int)]=some (.leaf (.tup [.lst (bs.map .str),.lst (cs.map hdD),.lst (ss.map hdD),.lst (ls.map .int),.bl b]))/\0<bs.length/\0<cs.length/\cs.length<=8/\0<ss.length/\ss.length<=4/\ls.length<=60/\(∀ v∈ls,InR v)/\(∀ h∈cs,InR h.2.1)/\(∀ h∈ss,0<h.2.1/\h.2.1<=8)/\(cs.map (·.1)++ss.map (·.1)).Nodup:=by
 obtain ⟨nm,en,hnl,hnd⟩:=uy (ns.getD 0 0)
 have c0:y8 [.lst (ns.map .int),.int 0]=some (.leaf (.int (ns.getD 0 0))):=iq ns 0
 have c1:y8 [.lst (ns.map .int),.int 1]=some (.leaf (.int (ns.getD 1 0))):=iq ns 1
 have c2:y8 [.lst (ns.map .int),.int 2]=some (.leaf (.int (ns.getD 2 0))):=iq ns 2
 generalize hb:decide (ns.getD 0 0%2=1)=b
 obtain ⟨vs,ev,hvl⟩:=kZ (ns.getD 1 0) 16 (by decide) b
 rw [show ((16:Nat):Int)=16 from rfl] at ev
 have x12:atI (vs.map Dt.int) 12=some (.int (vs.getD 12 0)):=dr Dt.int vs 12 (by omega) 0
 have x13:atI (vs.map Dt.int) 13=some (.int (vs.getD 13 0)):=dr Dt.int vs 13 (by omega) 0
 have x14:atI (vs.map Dt.int) 14=some (.int (vs.getD 14 0)):=dr Dt.int vs 14 (by omega) 0
 have x15:atI (vs.map Dt.int) 15=some (.int (vs.getD 15 0)):=dr Dt.int vs 15 (by omega) 0
 rw [yT] at x12
 obtain ⟨M0,M1,M2,M3,hM,b0,b1,b2,b3⟩:∃ M0 M1 M2 M3:Int,most b=[M0,M1,M2,M3]/\(0<M0/\M0<=8)/\(0<M1/\M1<=4)/\(0<M2/\M2<=12)/\(0<M3/\M3<=60):=by cases b<;>exact ⟨_,_,_,_,rfl,by decide,by decide,by decide,by decide⟩
 have em:=wS b
 rw [hM] at em
 simp only [List.map_cons,List.map_nil] at em
 generalize vs.getD 12 0=v12 at x12
 generalize vs.getD 13 0=v13 at x13
 generalize vs.getD 14 0=v14 at x14
 generalize vs.getD 15 0=v15 at x15
 have m12:=Int.emod_nonneg v12 (show M0≠0 by omega)
 have m12':=Int.emod_lt_of_pos v12 (show 0<M0 by omega)
 have m13:=Int.emod_nonneg v13 (show M1≠0 by omega)
 have m13':=Int.emod_lt_of_pos v13 (show 0<M1 by omega)
 have m14:=Int.emod_nonneg (3+v14) (show M2≠0 by omega)
 have m14':=Int.emod_lt_of_pos (3+v14) (show 0<M2 by omega)
 have m15:=Int.emod_nonneg v15 (show (13:Int)≠0 by decide)
 have m15':=Int.emod_lt_of_pos v15 (show (0:Int)<13 by decide)
 have m16:=Int.emod_nonneg (v14/16) (show M3≠0 by omega)
 have m16':=Int.emod_lt_of_pos (v14/16) (show 0<M3 by omega)
 obtain ⟨k1,hk1⟩:∃ m:Nat,1+v12%M0=(m:Int):=⟨(1+v12%M0).toNat,by omega⟩
 obtain ⟨k2,hk2⟩:∃ m:Nat,1+v13%M1=(m:Int):=⟨(1+v13%M1).toNat,by omega⟩
 obtain ⟨k3,hk3⟩:∃ m:Nat,12-v15%13=(m:Int):=⟨(12-v15%13).toNat,by omega⟩
 obtain ⟨k4,hk4⟩:∃ m:Nat,1+(3+v14)%M2=(m:Int):=⟨(1+(3+v14)%M2).toNat,by omega⟩
 obtain ⟨k5,hk5⟩:∃ m:Nat,v14/16%M3=(m:Int):=⟨(v14/16%M3).toNat,by omega⟩
 have ec:=lq (fe:=z41) (δ0:=[none,some (.leaf (nmD nm)),some (.leaf (inD vs))]) (m:=k1) (f:=oN nm vs) fun k hk=>zI nm vs k (by omega) (by omega)
 have es:=lq (fe:=z40) (δ0:=[none,some (.leaf (nmD nm)),some (.leaf (inD vs))]) (m:=k2) (f:=jJ nm vs) fun k hk=>wQ nm vs k (by omega) (by omega)
 have ec':eG (av 0) bH z41 [none,some (.leaf (.lst (nm.map .str))),some (.leaf (.lst (vs.map .int)))] (bX 0 k1)=_:=ec
 have es':eG (av 0) bH z40 [none,some (.leaf (.lst (nm.map .str))),some (.leaf (.lst (vs.map .int)))] (bX 0 k2)=_:=es
 have hcn:((List.range k1).map (oN nm vs)).map (·.1)=(nm.drop 0).take k1:=by rw [<- q94 nm 0 k1 (by omega),List.map_map];simp [oN,Function.comp_def]
 have hsn:((List.range k2).map (jJ nm vs)).map (·.1)=(nm.drop 8).take k2:=by rw [<- q94 nm 8 k2 (by omega),List.map_map];simp [jJ,Function.comp_def]
 obtain ⟨l0,el,hll⟩:=kZ (ns.getD 2 0) k5 (by omega) b
 have el':eG (av 0) bH z64 [none] (l0.map .int)=some ((l0.map vb).map .int):=by
  rw [gk (f:=fun d=>match d with
   | .int n=>.int (vb n)
   | d=>d) fun d hd=>by
   obtain ⟨n,_,rfl⟩:=List.mem_map.mp hd
   refine ⟨_,rfl,rfl,?_⟩
   show ((y17 [.int n]).map T.d)=_
   rw [xH]
   rfl,List.map_map,List.map_map]
  rfl
 have eb1:=uV Dt.str nm k3 (by omega)
 have eb2:=uU Dt.str (nm.drop k3) k4 (by simp;omega)
 refine ⟨nm,(nm.drop k3).take k4,(List.range k1).map (oN nm vs),(List.range k2).map (jJ nm vs),l0.map vb,b,en,hnl,hnd,?_,by simp;omega,by simp;omega,by simp;omega,by simp;omega,by simp;omega,by simp;omega,?_,?_,?_,?_⟩
 · unfold z45
   walk_at "d"
   rw [c0]
   walk_at "d"
   rw [en]
   walk_at "d"
   rw [c0]
   walk_at "d"
   rw [hb,c1]
   walk_at "d"
   rw [ev]
   walk_at "d"
   rw [em]
   walk_at "d"
   rw [x12]
   walk_at "d"
   rw [dG (by omega)]
   walk_at "d"
   rw [hk1,g7 (eI (by omega) (by omega)),Option.bind_some,Int.toNat_natCast,ec']
   walk_at "d"
   rw [iO (by simp;omega)]
   walk_at "d"
   rw [x13]
   walk_at "d"
   rw [dG (by omega)]
   walk_at "d"
   rw [hk2,g7 (eI (by omega) (by omega)),Option.bind_some,Int.toNat_natCast,es']
   walk_at "d"
   rw [iO (by simp;omega)]
   walk_at "d"
   rw [x15]
   walk_at "d"
   rw [hk3,eb1]
   walk_at "d"
   rw [x14]
   walk_at "d"
   rw [dG (by omega)]
   walk_at "d"
   rw [hk4,eb2]
   walk_at "d"
   rw [c2]
   walk_at "d"
   rw [x14]
   walk_at "d"
   rw [dG (by omega)]
   walk_at "d"
   rw [hk5,el]
   walk_at "d"
   rw [el']
   walk_at "d"
   rw [iO (by simp;omega)]
   walk_at "d"
 · intro v hv
   obtain ⟨x,_,rfl⟩:=List.mem_map.mp hv
   exact xI x
 · intro h hh
   obtain ⟨k,_,rfl⟩:=List.mem_map.mp hh
   exact xI _
 · intro h hh
   obtain ⟨k,_,rfl⟩:=List.mem_map.mp hh
   have:=nj (vs.getD (8+k) 0) (m:=8) (by decide)
   simp only [jJ]
   omega
 · rw [hcn,hsn]
   refine List.nodup_append.mpr ⟨hnd.sublist ((List.take_sublist _ _).trans (List.drop_sublist _ _)),hnd.sublist ((List.take_sublist _ _).trans (List.drop_sublist _ _)),fun x hx y hy e=>?_⟩
   subst e
   obtain ⟨i,hi,e1⟩:=List.mem_iff_getElem.mp hx
   obtain ⟨j,hj,e2⟩:=List.mem_iff_getElem.mp hy
   simp only [List.length_take,List.length_drop] at hi hj
   rw [List.getElem_take,List.getElem_drop] at e1 e2
   have:=(List.getElem_inj hnd (h₀:=by omega) (h₁:=by omega)).mp (e1.trans e2.symm)
   omega
def et {f:List Dt->Option T} {fs:De->Option (List Dt)} {E:De} {ds:List Dt} {t:T} (h:fs E=some ds) (hf:f ds=some t):toD (aW f fs) E=some t.d:=by
 show ((fs E).bind f).map T.d=_
 rw [h,Option.bind_some,hf]
 rfl
def iF {g:Dt->Dt->Option T} {f h:De->Option Dt} {E:De} {a b:Dt} {t:T} (h1:f E=some a) (h2:h E=some b) (hg:g a b=some t):toD (d2 g f h) E=some t.d:=by
 show (((f E).bind fun x=>(h E).bind fun y=>g x y).map T.d)=_
 rw [h1,h2]
 simp only [Option.bind_some,hg,Option.map_some]
def wT {src:List (Option Nat)} {fi:De->Option (List Dt)} {bb:Dt->De->Option De} {ft:De->Option Bool} {fe:De->Option Dt} {E:De} {ds ys:List Dt} (h1:fi E=some ds) (h2:eG bb ft fe (dC src E) ds=some ys) (hl:ys.length<=1000):toD (cN src fi bb ft fe) E=some (.lst ys):=by
 unfold toD cN
 rw [h1,Option.bind_some,h2,Option.bind_some,if_pos (Nat.le_trans hl (by decide))]
 rfl
def zJ {fs:De->Option (List Dt)} {E:De} {l:List Dt} (h:fs E=some l) (hl:l.length<=1000):cB fs E=some (.leaf (.tup l)):=by
 unfold cB
 rw [h,Option.bind_some,if_pos (Nat.le_trans hl (by decide))]
def pV (sm:List Int) (hl:sm.length<=63) (xs:List Str) (cs ss:List Hd) (L:Dt) (b:Bool) (last:Dt) (ha:At last) (hx:0<xs.length) (hc:0<cs.length) (hs:0<ss.length) :
  ∃ rows,q35 [.lst (sm.map .int),.tup [.lst (xs.map .str),.lst (cs.map hdD),.lst (ss.map hdD),L,.bl b],last]=some (.leaf (prog cs ss rows))/\rows.length<=64/\0<rows.length∧
   ∀ k row,rows[k]?=some row->Row (cs.map (·.1)) (ss.map (·.1)) rows.length row/\((∃ a,row=.tup [.str "end",a]/\At a)∨k+1<rows.length):=by
 generalize hW:Dt.tup [.lst (xs.map .str),.lst (cs.map hdD),.lst (ss.map hdD),L,.bl b]=W
 obtain ⟨rr,er,hp⟩:=g8 (bb:=av 0) (ft:=bH) (fe:=q36) (ds:=bX 0 sm.length) (δ:=[none,some (.leaf (.lst (sm.map .int))),some (.leaf W)]) (P:=fun _ y=>Row (cs.map (·.1)) (ss.map (·.1)) (sm.length+1) y) fun d hd=>by
  obtain ⟨i,hi,rfl⟩:=mem_range hd
  obtain ⟨r,e,hr⟩:=zt (sm.getD i 0) i (sm.length+1) (by omega) xs cs ss L b hx hc hs
  rw [hW] at e
  refine ⟨[some (.leaf (.int (0+(i:Int)))),some (.leaf (.lst (sm.map .int))),some (.leaf W)],r,rfl,rfl,?_,hr⟩
  unfold q36
  rw [Int.zero_add]
  have e1:toD (d2 ax (vB 1) (vB 0)) [some (.leaf (.int (i:Int))),some (.leaf (.lst (sm.map .int))),some (.leaf W)]=some (.int (sm.getD i 0)):=iF (t:=.leaf (.int (sm.getD i 0))) rfl rfl (by
   show (atI (sm.map Dt.int) (i:Int)).map T.leaf=_
   rw [dr Dt.int sm i hi 0]
   rfl)
  have e2:toD (d2 bY (toD (aW fj (ag (vB 1) aI))) (kD (.int 1))) [some (.leaf (.int (i:Int))),some (.leaf (.lst (sm.map .int))),some (.leaf W)]=some (.int ((sm.length+1:Nat):Int)):=iF (a:=.int sm.length) (b:=.int 1) (t:=.leaf (.int ((sm.length+1:Nat):Int))) (et (ds:=[.lst (sm.map .int)]) (t:=.leaf (.int sm.length)) rfl (by show some (T.leaf (.int ((sm.map Dt.int).length)))=_;rw [List.length_map])) rfl rfl
  exact et (bI e1 (bI (d:=.int i) rfl (bI e2 (bI (d:=W) rfl dZ)))) e
 have hrl:rr.length=sm.length:=by rw [<- Paired.length hp,d5]
 have hmem:∀ r∈rr,Row (cs.map (·.1)) (ss.map (·.1)) (sm.length+1) r:=fun r hr=>by obtain ⟨_,_,q⟩:=lj hp hr;exact q
 have gAddT_ok:md (.tup rr) (.tup [.tup [.str "end",last]])=some (.leaf (.tup (rr++[.tup [.str "end",last]]))):=by
  cases rr with
  | nil=>rfl
  | cons d l=>exact if_pos ⟨jS (by simp at hrl ⊢;omega),by simp,by simp⟩
 refine ⟨rr++[.tup [.str "end",last]],?_,by simp;omega,by simp,fun k row hk=>?_⟩
 · unfold q35
   rw [yS]
   have e1:dF 3 (toT (toD (cN [none,some 0,some 1] (gi gf (ag (toD (aW fj (ag (vB 0) aI))) aI)) (av 0) bH q36))) [some (.leaf (.lst (sm.map .int))),some (.leaf W),some (.leaf last),none]=some (.nx [some (.leaf (.lst (sm.map .int))),some (.leaf W),some (.leaf last),some (.leaf (.lst rr))]):=by
    have e0:toD (cN [none,some 0,some 1] (gi gf (ag (toD (aW fj (ag (vB 0) aI))) aI)) (av 0) bH q36) [some (.leaf (.lst (sm.map .int))),some (.leaf W),some (.leaf last),none]=some (.lst rr):=by
     refine wT (ds:=bX 0 sm.length) ?_ er (by omega)
     show ((ag (toD (aW fj (ag (vB 0) aI))) aI [some (.leaf (.lst (sm.map .int))),some (.leaf W),some (.leaf last),none]).bind gf)=_
     rw [bI (d:=.int sm.length) (et (ds:=[.lst (sm.map .int)]) (t:=.leaf (.int sm.length)) rfl (by show some (T.leaf (.int ((sm.map Dt.int).length)))=_;rw [List.length_map])) dZ,Option.bind_some,g7 (eI (by omega) (by omega)),Int.toNat_natCast]
    unfold dF toT
    rw [e0]
    rfl
   have e2:cB (ag (toD (aW fI (ag (toD (d2 ax (vB 1) (kD (.int 1)))) aI))) (ag (toD (aW fI (ag (toD (d2 ax (vB 1) (kD (.int 2)))) aI))) (ag (toD (d2 md (toD (aW fI (ag (vB 3) aI))) (toD (cB (ag (toD (cB (ag (kD (.str "end")) (ag (vL 2) aI)))) aI))))) aI))) [some (.leaf (.lst (sm.map .int))),some (.leaf W),some (.leaf last),some (.leaf (.lst rr))]=some (.leaf (prog cs ss (rr++[.tup [.str "end",last]]))):=by
    have q1:toD (aW fI (ag (toD (d2 ax (vB 1) (kD (.int 1)))) aI)) [some (.leaf (.lst (sm.map .int))),some (.leaf W),some (.leaf last),some (.leaf (.lst rr))]=some (.tup (cs.map hdD)):=by rw [<- hW];rfl
    have q2:toD (aW fI (ag (toD (d2 ax (vB 1) (kD (.int 2)))) aI)) [some (.leaf (.lst (sm.map .int))),some (.leaf W),some (.leaf last),some (.leaf (.lst rr))]=some (.tup (ss.map hdD)):=by rw [<- hW];rfl
    have q3:toD (d2 md (toD (aW fI (ag (vB 3) aI))) (toD (cB (ag (toD (cB (ag (kD (.str "end")) (ag (vL 2) aI)))) aI)))) [some (.leaf (.lst (sm.map .int))),some (.leaf W),some (.leaf last),some (.leaf (.lst rr))]=some (.tup (rr++[.tup [.str "end",last]])):=iF (a:=.tup rr) (b:=.tup [.tup [.str "end",last]]) rfl rfl gAddT_ok
    exact zJ (bI q1 (bI q2 (bI q3 dZ))) (by simp)
   show vS (qI (dF 3 _ [some (.leaf (.lst (sm.map .int))),some (.leaf W),some (.leaf last),none]) _)=_
   rw [e1,ue]
   unfold cI
   rw [e2]
   rfl
 · have hN:(rr++[Dt.tup [.str "end",last]]).length=sm.length+1:=by simp [hrl]
   rw [hN]
   have hmr:row∈rr++[Dt.tup [.str "end",last]]:=List.mem_of_getElem? hk
   by_cases h:k<rr.length
   · rw [gL h] at hk
     exact ⟨hmem row (List.mem_of_getElem? hk),.inr (by omega)⟩
   · rcases List.mem_append.mp hmr with hm | hm
     · rw [gR (by omega)] at hk
       have:row=.tup [.str "end",last]:=List.mem_singleton.mp (List.mem_of_getElem? hk)
       rw [this]
       exact ⟨.fin ha,.inl ⟨last,rfl,ha⟩⟩
     · rw [List.mem_singleton.mp hm]
       exact ⟨.fin ha,.inl ⟨last,rfl,ha⟩⟩
def main (ns:List Int) (h:ns.length<=63):∃ ch',qY [.dat (.lst (ns.map .int))] []=some (.dat (.bl true),ch'):=by
 obtain ⟨nm,bs,cs,ss,ls,b,en,hnl,hnd,ew,hb,hc0,hc1,hs0,hs1,hl0,hli,hci,hsi,hdn⟩:=uW ns
 have c0:y8 [.lst (ns.map .int),.int 0]=some (.leaf (.int (ns.getD 0 0))):=iq ns 0
 have c3:y8 [.lst (ns.map .int),.int 3]=some (.leaf (.int (ns.getD 3 0))):=iq ns 3
 have c4:y8 [.lst (ns.map .int),.int 4]=some (.leaf (.int (ns.getD 4 0))):=iq ns 4
 obtain ⟨sm,esm,hsm,_⟩:=wR Dt.int ns 5 55
 obtain ⟨M,eM0,hM⟩:∃ M:Int,ja (.int 2) (.int 44)=some (.leaf (.int M))/\0<M:=⟨_,pr (show kF 2 44=true by decide +kernel),by decide +kernel⟩
 obtain ⟨last,ea,ha⟩:=ng (ns.getD 3 0%M) bs hb
 obtain ⟨rows,ep,hr1,hr2,hrow⟩:=pV sm (by omega) bs cs ss (.lst (ls.map .int)) b last ha hb hc0 hs0
 generalize hW:Dt.tup [.lst (bs.map .str),.lst (cs.map hdD),.lst (ss.map hdD),.lst (ls.map .int),.bl b]=W at ew ep
 let S:=Dt.lst (ns.map Dt.int)
 let Nm:=Dt.lst (nm.map Dt.str)
 let P:=prog cs ss rows
 unfold qY
 rw [bM]
 show ∃ ch',cU (aP _ _ [some (.dat S),none,none,none,none,none,none,none] [])=_
 rw [aK,bR (aH (d:=W) (et (t:=.leaf W) (bI (bT (d:=S) rfl) dZ) ew)),aE]
 show ∃ ch',cU (aP _ _ [some (.dat S),some (.dat W),none,none,none,none,none,none] [])=_
 rw [aK,bR (aH (d:=Nm) (et (t:=.lst (nm.map .str)) (bI (d:=.int (ns.getD 0 0)) (et (t:=.leaf (.int (ns.getD 0 0))) (bI (bT (d:=S) rfl) (bI (d:=.int 0) rfl dZ)) c0) (bI (d:=.int 24) rfl dZ)) en)),aE]
 show ∃ ch',cU (aP _ _ [some (.dat S),some (.dat W),some (.dat Nm),none,none,none,none,none] [])=_
 have hw0:∀ {x2 x3 x4 x5 x6 x7:Option CV} {c:CH},toD (d2 ax (vB 1) (kD (.int 0))) (lo [some (.dat S),some (.dat W),x2,x3,x4,x5,x6,x7] c)=some (.lst (bs.map .str)):=by
  intros
  exact iF (a:=W) (b:=.int 0) (t:=.leaf (.lst (bs.map .str))) (bW rfl) rfl (by rw [<- hW];rfl)
 have hw3:∀ {x2 x3 x4 x5 x6 x7:Option CV} {c:CH},toD (d2 ax (vB 1) (kD (.int 3))) (lo [some (.dat S),some (.dat W),x2,x3,x4,x5,x6,x7] c)=some (.lst (ls.map .int)):=by
  intros
  exact iF (a:=W) (b:=.int 3) (t:=.leaf (.lst (ls.map .int))) (bW rfl) rfl (by rw [<- hW];rfl)
 have e3:toD (aW q35 (ag (toD (vSl (vB 0) (eY (kD (.int 5))) (eY (kD (.int 55))))) (ag (vL 1) (ag (toD (aW z31 (ag (toD (d2 bV (toD (aW y8 (ag (vL 0) (ag (kD (.int 3)) aI)))) (toD (d2 ja (kD (.int 2)) (kD (.int 44)))))) (ag (toD (d2 ax (vB 1) (kD (.int 0)))) aI)))) aI)))) (lo [some (.dat S),some (.dat W),some (.dat Nm),none,none,none,none,none] [])=some P:=by
  have s1:toD (vSl (vB 0) (eY (kD (.int 5))) (eY (kD (.int 55)))) (lo [some (.dat S),some (.dat W),some (.dat Nm),none,none,none,none,none] [])=some (.lst (sm.map .int)):=by
   show ((gSl (.lst (ns.map .int)) (some 5) (some 55)).map T.d)=_
   rw [esm]
   rfl
  have s2:toD (d2 bV (toD (aW y8 (ag (vL 0) (ag (kD (.int 3)) aI)))) (toD (d2 ja (kD (.int 2)) (kD (.int 44))))) (lo [some (.dat S),some (.dat W),some (.dat Nm),none,none,none,none,none] [])=some (.int (ns.getD 3 0%M)):=
   iF (a:=.int (ns.getD 3 0)) (b:=.int M) (t:=.leaf (.int (ns.getD 3 0%M))) (et (t:=.leaf (.int (ns.getD 3 0))) (bI (bT (d:=S) rfl) (bI (d:=.int 3) rfl dZ)) c3) (iF (a:=.int 2) (b:=.int 44) (t:=.leaf (.int M)) rfl rfl eM0) (dG hM)
  exact et (t:=.leaf P) (bI s1 (bI (bT (d:=W) rfl) (bI (et (t:=.leaf last) (bI s2 (bI hw0 dZ)) ea) dZ))) ep
 rw [aK,bR (aH e3),aE]
 show ∃ ch',cU (aP _ _ [some (.dat S),some (.dat W),some (.dat Nm),some (.dat P),none,none,none,none] [])=_
 obtain ⟨ws,hw,hon⟩:=rA (cs:=cs.map (·.1)) (ss:=ss.map (·.1)) (N:=rows.length) (rr:=rows) (p:=.tup (cs.map hdD)) (q:=.tup (ss.map hdD)) (by omega) (fun r hr=>by
  obtain ⟨k,hk,rfl⟩:=List.mem_iff_getElem.mp hr
  exact (hrow k _ (gQ hk)).1)
 have hz':∀ h∈ss,0<=h.2.1/\h.2.1<=300:=fun h hh=>by have:=hsi h hh;omega
 have hcn:(cs.map (·.1)).Nodup:=(List.nodup_append.mp hdn).1
 have hsn:(ss.map (·.1)).Nodup:=(List.nodup_append.mp hdn).2.1
 have i1:=rB (base:=[]) (L:=.dat (.lst (ls.map .int))) (ls:=ls) (rows:=rows) (.inl rfl) hw hcn hsn (by omega) (by omega) hz'
 have R1:=oJ (base:=[]) (ls:=ls) (cs:=cs) (ss:=ss) (rows:=rows) (ws:=ws)
 rw [aK,bR (uS (aS (aH (bT (d:=P) rfl)) (aS (aH hw3) rfl)) i1 uT),aE]
 have hr:(pl0 ([]:CH).length ss.length ss).r=([]:CH).length:=rfl
 generalize mk [] fns (pv (pl0 ([]:CH).length ss.length ss) rows 0 0 0 none) (gI ws ls cs ss ([]:CH).length)=c1 at R1
 generalize pl0 ([]:CH).length ss.length ss=p at R1 hr
 show ∃ ch',cU (aP _ _ [some (.dat S),some (.dat W),some (.dat Nm),some (.dat P),some (.ref ([]:CH).length),none,none,none] c1)=_
 rw [<- hr]
 obtain ⟨q,c2,e2,N2,K2,hq⟩:=uQ (ch:=c1) (ls:=ls) (rows:=rows) hdn (by omega) (by omega) hz'
 rw [aK,bR (by rw [jW (aS (aH (bT (d:=P) rfl)) (aS (aH hw3) rfl))];exact e2),aE]
 show ∃ ch',cU (aP _ _ (sl8 S W Nm P p.r q.n none none) c2)=_
 have G:Gl rows (ws.map .dat) ls cs ss:=⟨hrow,fun k row hk=>by
  obtain ⟨w,e,hL⟩:=hon k row hk
  exact ⟨w,by rw [List.getElem?_map,e];rfl,hL⟩,hli,by omega⟩
 have w0:Wf 0 (t0 cs ss):=⟨nL _,nL _,(fun _ h=>by cases h),(fun x hx=>by
  obtain ⟨y,hy,rfl⟩:=List.mem_map.mp hx
  exact hci y hy),(fun x hx v hv=>by
  obtain ⟨y,hy,rfl⟩:=List.mem_map.mp hx
  rw [(List.mem_replicate.mp hv).2]
  exact wE),List.nodup_nil,Nat.le_refl _,by rw [show (t0 cs ss).cl.map (·.1)=cs.map (·.1) by simp [t0,ce0]];exact hcn,by simp [t0,ce0];omega,(fun x hx=>by
  obtain ⟨y,hy,rfl⟩:=List.mem_map.mp hx
  have:=hsi y hy
  simp only [eQ,List.length_replicate]
  omega)⟩
 have I0:Inv rows (ws.map .dat) ls cs ss p c2 q 0 0 none (t0 cs ss) 0:=⟨R1.keep K2,N2,fun z hz hp=>by have:=hq z hz;have:=R1.lt z hp;omega,w0,by simp [t0,ce0],by simp [t0,sh0],hr2⟩
 obtain ⟨c3',q3,k3,n3,r3,t3,x3,m3,e4,en3,I3,hm3⟩:=rD (D0:=S) (D1:=W) (bs:=nm) (x7:=none) (ds:=bX 0 80) (x6:=none) G (by omega) I0 (by rw [d5];omega)
 rw [aK,show cS (gi gf (ag (kD (.int 80)) aI)) [6] (av 6) q65 (sl8 S W Nm P p.r q.n none none) c2=some (.nx (sl8 S W Nm P p.r q.n x3 none) c3') by
  unfold cS
  rw [show gi gf (ag (kD (.int 80)) aI) (lo (sl8 S W Nm P p.r q.n none none) c2)=some (bX 0 80) from rfl,Option.bind_some]
  exact e4,aE,<- en3]
 obtain ⟨g5,e5⟩:=rC (D0:=S) (D1:=W) (bs:=nm) (x6:=x3) (x7:=none) I3 (by omega) (by omega)
 rw [jH e5,aK,bR (aH (d:=.int (ns.getD 4 0)) (et (t:=.leaf (.int (ns.getD 4 0))) (bI (bT (d:=S) rfl) (bI (d:=.int 4) rfl dZ)) c4)),aE]
 show ∃ ch',cU (bE _ (sl8 S W Nm P p.r q3.n x3 (some (.dat (.int (ns.getD 4 0))))) (c3'++g5))=_
 have e6:eD (toD (d2 (gEq true) (toD (d2 bV (vB 7) (kD (.int 6)))) (kD (.int 1)))) (sl8 S W Nm P p.r q3.n x3 (some (.dat (.int (ns.getD 4 0))))) (c3'++g5)=some (.dat (.bl (!decide (ns.getD 4 0%6=1))),c3'++g5):=
  aH (iF (a:=.int (ns.getD 4 0%6)) (b:=.int 1) (t:=.leaf (.bl (!decide (ns.getD 4 0%6=1)))) (iF (a:=.int (ns.getD 4 0)) (b:=.int 6) (t:=.leaf (.int (ns.getD 4 0%6))) (bW rfl) rfl rfl) rfl rfl)
 have e7:toD (d2 iu (vB 7) (kD (.int 6))) (lo (sl8 S W Nm P p.r q3.n x3 (some (.dat (.int (ns.getD 4 0))))) (c3'++g5))=some (.int (ns.getD 4 0/6)):=iF (a:=.int (ns.getD 4 0)) (b:=.int 6) (t:=.leaf (.int (ns.getD 4 0/6))) (bW rfl) rfl (yO (by decide) (by decide))
 obtain ⟨c8,e8⟩:=wP hnl hnd (ns.getD 4 0/6) (c3'++g5)
 by_cases h6:ns.getD 4 0%6=1
 · refine ⟨c8,?_⟩
   rw [aZ (v:=.dat (.bl true)) (ch1:=c8) (by
    unfold eOr
    rw [e6,h6]
    simp only [Option.bind_some,mZ,decide_true,Bool.not_true]
    rw [if_neg (by simp),jW (aS (aH (bT (d:=Nm) rfl)) (aS (aH e7) rfl))]
    exact e8)]
   rfl
 · refine ⟨c3'++g5,?_⟩
   rw [aZ (v:=.dat (.bl true)) (ch1:=c3'++g5) (by
    unfold eOr
    rw [e6]
    simp only [Option.bind_some,mZ,h6,decide_false,Bool.not_false,if_true])]
   rfl
def nr (K:PySem.W.Frag):Sp:=fun vs H Q _=>∃ (a:Addr) (ns:List Int),vs=[.ref a]/\SqL K H a (ns.map V.int)/\ns.length<=63/\vp H/\∀ H',Q (.bl true) H'
def zK {K:PySem.W.Frag} {vs:List V} {H:Hp} {Q:VK} {E:XK} (h:nr K vs H Q E):spG K 1 qY vs H Q E:=by
 obtain ⟨a,ns,rfl,hS,hl,hO,q⟩:=h
 obtain ⟨ch',hm⟩:=main ns hl
 refine ⟨H,fun _=>a,[.dat (.lst (ns.map .int))],[],.dat (.bl true),ch',⟨Same.refl H,fun i j hi=>absurd hi (Nat.not_lt_zero _),fun i hi=>absurd hi (Nat.not_lt_zero _),fun i o h=>by simp at h⟩,rfl,⟨_,[],rfl,?_,rfl⟩,hm,fun v F' H' ρ' _ o=>?_⟩
 · show Rep K H (.lst (ns.map .int)) (.ref a)
   simp only [Rep]
   exact ⟨a,_,rfl,hS,Reps.map (fun _=>ij) ns⟩
 · have o:Rep K F' (.bl true) v:=o
   simp only [Rep] at o
   subst o
   exact q H'
def all_mk {l:PySem.W.OpenLaw} {w:World} {K:PySem.W.Frag} {h:Heap} {mg:Str->Option Value} {fa:Addr} (X:K.In h) (G:h.Ns mainGlobals mg) (hfa:mg "law"=some (.ref fa))
  {C_Plain:Addr} (ac_Plain:PySem.W.nsIn K mainGlobals "Plain"=some (some (.ref C_Plain))) (pg_Plain:PySem.W.plainGet K C_Plain Str.empty=true) (hd_Plain:PySem.W.hasDictIn K C_Plain=true) (po_Plain:PySem.W.plainOver K C_Plain=true) (sa_Plain:PySem.W.findIn K (.ref C_Plain) "__setattr__"=some (some (.builtin "object.__setattr__")))
  (mk_Plain:PySem.W.makesIn K C_Plain=true) (kc_Plain:PySem.W.keepIn K (.ref C_Plain)=true)
  (nf_Plain_boxes:PySem.W.findIn K (.ref C_Plain) "boxes"=some none)
  (nf_Plain_cells:PySem.W.findIn K (.ref C_Plain) "cells"=some none)
  (nf_Plain_done:PySem.W.findIn K (.ref C_Plain) "done"=some none)
  (nf_Plain_hears:PySem.W.findIn K (.ref C_Plain) "hears"=some none)
  (nf_Plain_incoming:PySem.W.findIn K (.ref C_Plain) "incoming"=some none)
  (nf_Plain_onward:PySem.W.findIn K (.ref C_Plain) "onward"=some none)
  (nf_Plain_outgoing:PySem.W.findIn K (.ref C_Plain) "outgoing"=some none)
  (nf_Plain_place:PySem.W.findIn K (.ref C_Plain) "place"=some none)
  (nf_Plain_result:PySem.W.findIn K (.ref C_Plain) "result"=some none)
  (nf_Plain_rows:PySem.W.findIn K (.ref C_Plain) "rows"=some none)
  (nf_Plain_shelves:PySem.W.findIn K (.ref C_Plain) "shelves"=some none)
  {f0 f1 f2 f3 f4 f5 f6 f7 f8 f9 f10 f11 f12 f13 f14 f15 f16 f17 f18 f19 f20 f21 f22 f23 f24 f25 f26 f27 f28 f29 f30 f31 f32 f33 f34 f35 f36 f37:Addr} {od0 an0 od1 an1 od2 an2 od3 an3 od4 an4 od5 an5 od6 an6 od7 an7 od8 an8 od9 an9 od10 an10 od11 an11 od12 an12 od13 an13 od14 an14 od15 an15 od16 an16 od17 an17 od18 an18 od19 an19 od20 an20 od21 an21 od22 an22 od23 an23 od24 an24 od25 an25 od26 an26 od27 an27 od28 an28 od29 an29 od30 an30 od31 an31 od32 an32 od33 an33 od34 an34 od35 an35 od36 an36 od37 an37:Option Addr} {sl0 sl1 sl2 sl3 sl4 sl5 sl6 sl7 sl8 sl9 sl10 sl11 sl12 sl13 sl14 sl15 sl16 sl17 sl18 sl19 sl20 sl21 sl22 sl23 sl24 sl25 sl26 sl27 sl28 sl29 sl30 sl31 sl32 sl33 sl34 sl35 sl36 sl37:Array (Option Value)} {oc0 kV0 dc0 pm0 cd0 ct0 oc1 kV1 dc1 pm1 cd1 ct1 oc2 kV2 dc2 pm2 cd2 ct2 oc3 kV3 dc3 pm3 cd3 ct3 oc4 kV4 dc4 pm4 cd4 ct4 oc5 kV5 dc5 pm5 cd5 ct5 oc6 kV6 dc6 pm6 cd6 ct6 oc7 kV7 dc7 pm7 cd7 ct7 oc8 kV8 dc8 pm8 cd8 ct8 oc9 kV9 dc9 pm9 cd9 ct9 oc10 kV10 dc10 pm10 cd10 ct10 oc11 kV11 dc11 pm11 cd11 ct11 oc12 kV12 dc12 pm12 cd12 ct12 oc13 kV13 dc13 pm13 cd13 ct13 oc14 kV14 dc14 pm14 cd14 ct14 oc15 kV15 dc15 pm15 cd15 ct15 oc16 kV16 dc16 pm16 cd16 ct16 oc17 kV17 dc17 pm17 cd17 ct17 oc18 kV18 dc18 pm18 cd18 ct18 oc19 kV19 dc19 pm19 cd19 ct19 oc20 kV20 dc20 pm20 cd20 ct20 oc21 kV21 dc21 pm21 cd21 ct21 oc22 kV22 dc22 pm22 cd22 ct22 oc23 kV23 dc23 pm23 cd23 ct23 oc24 kV24 dc24 pm24 cd24 ct24 oc25 kV25 dc25 pm25 cd25 ct25 oc26 kV26 dc26 pm26 cd26 ct26 oc27 kV27 dc27 pm27 cd27 ct27 oc28 kV28 dc28 pm28 cd28 ct28 oc29 kV29 dc29 pm29 cd29 ct29 oc30 kV30 dc30 pm30 cd30 ct30 oc31 kV31 dc31 pm31 cd31 ct31 oc32 kV32 dc32 pm32 cd32 ct32 oc33 kV33 dc33 pm33 cd33 ct33 oc34 kV34 dc34 pm34 cd34 ct34 oc35 kV35 dc35 pm35 cd35 ct35 oc36 kV36 dc36 pm36 cd36 ct36 oc37 kV37 dc37 pm37 cd37 ct37:Value}
  (a0:PySem.W.nsIn K mainGlobals "_law_cell_at"=some (some (.ref f0)))
  (l0:K.lookup f0=some ⟨oc0,od0,.func (PySem.W.fnOf "_law_cell_at" "_law_cell_at" (aU y25) (aO y25) (ab y25) .none kV0 dc0 pm0 an0 cd0 ct0),sl0⟩) (c0:PySem.W.codeIn K cd0 "_law_cell_at"=true) (k0:PySem.W.keepIn K (.ref f0)=true)
  (a1:PySem.W.nsIn K mainGlobals "_law_drawn"=some (some (.ref f1)))
  (l1:K.lookup f1=some ⟨oc1,od1,.func (PySem.W.fnOf "_law_drawn" "_law_drawn" (aU z18) (aO z18) (ab z18) .none kV1 dc1 pm1 an1 cd1 ct1),sl1⟩) (c1:PySem.W.codeIn K cd1 "_law_drawn"=true) (k1:PySem.W.keepIn K (.ref f1)=true)
  (a2:PySem.W.nsIn K mainGlobals "_law_names"=some (some (.ref f2)))
  (l2:K.lookup f2=some ⟨oc2,od2,.func (PySem.W.fnOf "_law_names" "_law_names" (aU z9) (aO z9) (ab z9) .none kV2 dc2 pm2 an2 cd2 ct2),sl2⟩) (c2:PySem.W.codeIn K cd2 "_law_names"=true) (k2:PySem.W.keepIn K (.ref f2)=true)
  (a3:PySem.W.nsIn K mainGlobals "_law_value_by"=some (some (.ref f3)))
  (l3:K.lookup f3=some ⟨oc3,od3,.func (PySem.W.fnOf "_law_value_by" "_law_value_by" (aU z27) (aO z27) (ab z27) .none kV3 dc3 pm3 an3 cd3 ct3),sl3⟩) (c3:PySem.W.codeIn K cd3 "_law_value_by"=true) (k3:PySem.W.keepIn K (.ref f3)=true)
  (a4:PySem.W.nsIn K mainGlobals "_law_world"=some (some (.ref f4)))
  (l4:K.lookup f4=some ⟨oc4,od4,.func (PySem.W.fnOf "_law_world" "_law_world" (aU y2) (aO y2) (ab y2) .none kV4 dc4 pm4 an4 cd4 ct4),sl4⟩) (c4:PySem.W.codeIn K cd4 "_law_world"=true) (k4:PySem.W.keepIn K (.ref f4)=true)
  (a5:PySem.W.nsIn K mainGlobals "_law_atom"=some (some (.ref f5)))
  (l5:K.lookup f5=some ⟨oc5,od5,.func (PySem.W.fnOf "_law_atom" "_law_atom" (aU y30) (aO y30) (ab y30) .none kV5 dc5 pm5 an5 cd5 ct5),sl5⟩) (c5:PySem.W.codeIn K cd5 "_law_atom"=true) (k5:PySem.W.keepIn K (.ref f5)=true)
  (a6:PySem.W.nsIn K mainGlobals "_law_led"=some (some (.ref f6)))
  (l6:K.lookup f6=some ⟨oc6,od6,.func (PySem.W.fnOf "_law_led" "_law_led" (aU q42) (aO q42) (ab q42) .none kV6 dc6 pm6 an6 cd6 ct6),sl6⟩) (c6:PySem.W.codeIn K cd6 "_law_led"=true) (k6:PySem.W.keepIn K (.ref f6)=true)
  (a7:PySem.W.nsIn K mainGlobals "_law_row"=some (some (.ref f7)))
  (l7:K.lookup f7=some ⟨oc7,od7,.func (PySem.W.fnOf "_law_row" "_law_row" (aU z28) (aO z28) (ab z28) .none kV7 dc7 pm7 an7 cd7 ct7),sl7⟩) (c7:PySem.W.codeIn K cd7 "_law_row"=true) (k7:PySem.W.keepIn K (.ref f7)=true)
  (a8:PySem.W.nsIn K mainGlobals "_law_program"=some (some (.ref f8)))
  (l8:K.lookup f8=some ⟨oc8,od8,.func (PySem.W.fnOf "_law_program" "_law_program" (aU y9) (aO y9) (ab y9) .none kV8 dc8 pm8 an8 cd8 ct8),sl8⟩) (c8:PySem.W.codeIn K cd8 "_law_program"=true) (k8:PySem.W.keepIn K (.ref f8)=true)
  (a9:PySem.W.nsIn K mainGlobals "ways_of"=some (some (.ref f9)))
  (l9:K.lookup f9=some ⟨oc9,od9,.func (PySem.W.fnOf "ways_of" "ways_of" (aU q45) (aO q45) (ab q45) .none kV9 dc9 pm9 an9 cd9 ct9),sl9⟩) (c9:PySem.W.codeIn K cd9 "ways_of"=true) (k9:PySem.W.keepIn K (.ref f9)=true)
  (a10:PySem.W.nsIn K mainGlobals "ways"=some (some (.ref f10)))
  (l10:K.lookup f10=some ⟨oc10,od10,.func (PySem.W.fnOf "ways" "ways" (aU dW) (aO dW) (ab dW) .none kV10 dc10 pm10 an10 cd10 ct10),sl10⟩) (c10:PySem.W.codeIn K cd10 "ways"=true) (k10:PySem.W.keepIn K (.ref f10)=true)
  (a11:PySem.W.findIn K (.ref C_Plain) "__init__"=some (some (.ref f11))) (i11:PySem.W.isFn K (.ref f11)=true)
  (l11:K.lookup f11=some ⟨oc11,od11,.func (PySem.W.fnOf "__init__" "Plain.__init__" (aU z8) (aO z8) (ab z8) .none kV11 dc11 pm11 an11 cd11 ct11),sl11⟩) (c11:PySem.W.codeIn K cd11 "Plain.__init__"=true) (k11:PySem.W.keepIn K (.ref f11)=true)
  (a12:PySem.W.nsIn K mainGlobals "_law_begun"=some (some (.ref f12)))
  (l12:K.lookup f12=some ⟨oc12,od12,.func (PySem.W.fnOf "_law_begun" "_law_begun" (aU y35) (aO y35) (ab y35) .none kV12 dc12 pm12 an12 cd12 ct12),sl12⟩) (c12:PySem.W.codeIn K cd12 "_law_begun"=true) (k12:PySem.W.keepIn K (.ref f12)=true)
  (a13:PySem.W.findIn K (.ref C_Plain) "ended"=some (some (.ref f13))) (i13:PySem.W.isFn K (.ref f13)=true)
  (l13:K.lookup f13=some ⟨oc13,od13,.func (PySem.W.fnOf "ended" "Plain.ended" (aU z25) (aO z25) (ab z25) .none kV13 dc13 pm13 an13 cd13 ct13),sl13⟩) (c13:PySem.W.codeIn K cd13 "Plain.ended"=true) (k13:PySem.W.keepIn K (.ref f13)=true)
  (a14:PySem.W.findIn K (.ref C_Plain) "box"=some (some (.ref f14))) (i14:PySem.W.isFn K (.ref f14)=true)
  (l14:K.lookup f14=some ⟨oc14,od14,.func (PySem.W.fnOf "box" "Plain.box" (aU y31) (aO y31) (ab y31) .none kV14 dc14 pm14 an14 cd14 ct14),sl14⟩) (c14:PySem.W.codeIn K cd14 "Plain.box"=true) (k14:PySem.W.keepIn K (.ref f14)=true)
  (a15:PySem.W.findIn K (.ref C_Plain) "worth"=some (some (.ref f15))) (i15:PySem.W.isFn K (.ref f15)=true)
  (l15:K.lookup f15=some ⟨oc15,od15,.func (PySem.W.fnOf "worth" "Plain.worth" (aU z20) (aO z20) (ab z20) .none kV15 dc15 pm15 an15 cd15 ct15),sl15⟩) (c15:PySem.W.codeIn K cd15 "Plain.worth"=true) (k15:PySem.W.keepIn K (.ref f15)=true)
  (a16:PySem.W.findIn K (.ref C_Plain) "next_letter"=some (some (.ref f16))) (i16:PySem.W.isFn K (.ref f16)=true)
  (l16:K.lookup f16=some ⟨oc16,od16,.func (PySem.W.fnOf "next_letter" "Plain.next_letter" (aU z13) (aO z13) (ab z13) .none kV16 dc16 pm16 an16 cd16 ct16),sl16⟩) (c16:PySem.W.codeIn K cd16 "Plain.next_letter"=true) (k16:PySem.W.keepIn K (.ref f16)=true)
  (a17:PySem.W.nsIn K mainGlobals "number_of"=some (some (.ref f17)))
  (l17:K.lookup f17=some ⟨oc17,od17,.func (PySem.W.fnOf "number_of" "number_of" (aU y39) (aO y39) (ab y39) .none kV17 dc17 pm17 an17 cd17 ct17),sl17⟩) (c17:PySem.W.codeIn K cd17 "number_of"=true) (k17:PySem.W.keepIn K (.ref f17)=true)
  (a18:PySem.W.nsIn K mainGlobals "value"=some (some (.ref f18)))
  (l18:K.lookup f18=some ⟨oc18,od18,.func (PySem.W.fnOf "value" "value" (aU y46) (aO y46) (ab y46) .none kV18 dc18 pm18 an18 cd18 ct18),sl18⟩) (c18:PySem.W.codeIn K cd18 "value"=true) (k18:PySem.W.keepIn K (.ref f18)=true)
  (a19:PySem.W.findIn K (.ref C_Plain) "set_by"=some (some (.ref f19))) (i19:PySem.W.isFn K (.ref f19)=true)
  (l19:K.lookup f19=some ⟨oc19,od19,.func (PySem.W.fnOf "set_by" "Plain.set_by" (aU z17) (aO z17) (ab z17) .none kV19 dc19 pm19 an19 cd19 ct19),sl19⟩) (c19:PySem.W.codeIn K cd19 "Plain.set_by"=true) (k19:PySem.W.keepIn K (.ref f19)=true)
  (a20:PySem.W.findIn K (.ref C_Plain) "do_row"=some (some (.ref f20))) (i20:PySem.W.isFn K (.ref f20)=true)
  (l20:K.lookup f20=some ⟨oc20,od20,.func (PySem.W.fnOf "do_row" "Plain.do_row" (aU q21) (aO q21) (ab q21) .none kV20 dc20 pm20 an20 cd20 ct20),sl20⟩) (c20:PySem.W.codeIn K cd20 "Plain.do_row"=true) (k20:PySem.W.keepIn K (.ref f20)=true)
  (a21:PySem.W.findIn K (.ref C_Plain) "place_behind"=some (some (.ref f21))) (i21:PySem.W.isFn K (.ref f21)=true)
  (l21:K.lookup f21=some ⟨oc21,od21,.func (PySem.W.fnOf "place_behind" "Plain.place_behind" (aU y14) (aO y14) (ab y14) .none kV21 dc21 pm21 an21 cd21 ct21),sl21⟩) (c21:PySem.W.codeIn K cd21 "Plain.place_behind"=true) (k21:PySem.W.keepIn K (.ref f21)=true)
  (a22:PySem.W.findIn K (.ref C_Plain) "step"=some (some (.ref f22))) (i22:PySem.W.isFn K (.ref f22)=true)
  (l22:K.lookup f22=some ⟨oc22,od22,.func (PySem.W.fnOf "step" "Plain.step" (aU q30) (aO q30) (ab q30) .none kV22 dc22 pm22 an22 cd22 ct22),sl22⟩) (c22:PySem.W.codeIn K cd22 "Plain.step"=true) (k22:PySem.W.keepIn K (.ref f22)=true)
  (a23:PySem.W.findIn K (.ref C_Plain) "sent"=some (some (.ref f23))) (i23:PySem.W.isFn K (.ref f23)=true)
  (l23:K.lookup f23=some ⟨oc23,od23,.func (PySem.W.fnOf "sent" "Plain.sent" (aU z24) (aO z24) (ab z24) .none kV23 dc23 pm23 an23 cd23 ct23),sl23⟩) (c23:PySem.W.codeIn K cd23 "Plain.sent"=true) (k23:PySem.W.keepIn K (.ref f23)=true)
  (a24:PySem.W.findIn K (.ref C_Plain) "stands"=some (some (.ref f24))) (i24:PySem.W.isFn K (.ref f24)=true)
  (l24:K.lookup f24=some ⟨oc24,od24,.func (PySem.W.fnOf "stands" "Plain.stands" (aU z23) (aO z23) (ab z23) .none kV24 dc24 pm24 an24 cd24 ct24),sl24⟩) (c24:PySem.W.codeIn K cd24 "Plain.stands"=true) (k24:PySem.W.keepIn K (.ref f24)=true)
  (a25:PySem.W.findIn K (.ref C_Plain) "count"=some (some (.ref f25))) (i25:PySem.W.isFn K (.ref f25)=true)
  (l25:K.lookup f25=some ⟨oc25,od25,.func (PySem.W.fnOf "count" "Plain.count" (aU q26) (aO q26) (ab q26) .none kV25 dc25 pm25 an25 cd25 ct25),sl25⟩) (c25:PySem.W.codeIn K cd25 "Plain.count"=true) (k25:PySem.W.keepIn K (.ref f25)=true)
  (a26:PySem.W.findIn K (.ref C_Plain) "heard"=some (some (.ref f26))) (i26:PySem.W.isFn K (.ref f26)=true)
  (l26:K.lookup f26=some ⟨oc26,od26,.func (PySem.W.fnOf "heard" "Plain.heard" (aU z26) (aO z26) (ab z26) .none kV26 dc26 pm26 an26 cd26 ct26),sl26⟩) (c26:PySem.W.codeIn K cd26 "Plain.heard"=true) (k26:PySem.W.keepIn K (.ref f26)=true)
  (a27:PySem.W.nsIn K mainGlobals "_law_wholes"=some (some (.ref f27)))
  (l27:K.lookup f27=some ⟨oc27,od27,.func (PySem.W.fnOf "_law_wholes" "_law_wholes" (aU q12) (aO q12) (ab q12) .none kV27 dc27 pm27 an27 cd27 ct27),sl27⟩) (c27:PySem.W.codeIn K cd27 "_law_wholes"=true) (k27:PySem.W.keepIn K (.ref f27)=true)
  (a28:PySem.W.findIn K (.ref C_Plain) "answer"=some (some (.ref f28))) (i28:PySem.W.isFn K (.ref f28)=true)
  (l28:K.lookup f28=some ⟨oc28,od28,.func (PySem.W.fnOf "answer" "Plain.answer" (aU y22) (aO y22) (ab y22) .none kV28 dc28 pm28 an28 cd28 ct28),sl28⟩) (c28:PySem.W.codeIn K cd28 "Plain.answer"=true) (k28:PySem.W.keepIn K (.ref f28)=true)
  (a29:PySem.W.findIn K (.ref C_Plain) "shelf"=some (some (.ref f29))) (i29:PySem.W.isFn K (.ref f29)=true)
  (l29:K.lookup f29=some ⟨oc29,od29,.func (PySem.W.fnOf "shelf" "Plain.shelf" (aU y21) (aO y21) (ab y21) .none kV29 dc29 pm29 an29 cd29 ct29),sl29⟩) (c29:PySem.W.codeIn K cd29 "Plain.shelf"=true) (k29:PySem.W.keepIn K (.ref f29)=true)
  (a30:PySem.W.findIn K (.ref C_Plain) "cell"=some (some (.ref f30))) (i30:PySem.W.isFn K (.ref f30)=true)
  (l30:K.lookup f30=some ⟨oc30,od30,.func (PySem.W.fnOf "cell" "Plain.cell" (aU z30) (aO z30) (ab z30) .none kV30 dc30 pm30 an30 cd30 ct30),sl30⟩) (c30:PySem.W.codeIn K cd30 "Plain.cell"=true) (k30:PySem.W.keepIn K (.ref f30)=true)
  (a31:PySem.W.nsIn K mainGlobals "_law_same"=some (some (.ref f31)))
  (l31:K.lookup f31=some ⟨oc31,od31,.func (PySem.W.fnOf "_law_same" "_law_same" (aU y26) (aO y26) (ab y26) .none kV31 dc31 pm31 an31 cd31 ct31),sl31⟩) (c31:PySem.W.codeIn K cd31 "_law_same"=true) (k31:PySem.W.keepIn K (.ref f31)=true)
  (a32:PySem.W.nsIn K mainGlobals "_law_long"=some (some (.ref f32)))
  (l32:K.lookup f32=some ⟨oc32,od32,.func (PySem.W.fnOf "_law_long" "_law_long" (aU q31) (aO q31) (ab q31) .none kV32 dc32 pm32 an32 cd32 ct32),sl32⟩) (c32:PySem.W.codeIn K cd32 "_law_long"=true) (k32:PySem.W.keepIn K (.ref f32)=true)
  (a33:PySem.W.nsIn K mainGlobals "_law_worth"=some (some (.ref f33)))
  (l33:K.lookup f33=some ⟨oc33,od33,.func (PySem.W.fnOf "_law_worth" "_law_worth" (aU y27) (aO y27) (ab y27) .none kV33 dc33 pm33 an33 cd33 ct33),sl33⟩) (c33:PySem.W.codeIn K cd33 "_law_worth"=true) (k33:PySem.W.keepIn K (.ref f33)=true)
  (a34:PySem.W.nsIn K mainGlobals "_law_value"=some (some (.ref f34)))
  (l34:K.lookup f34=some ⟨oc34,od34,.func (PySem.W.fnOf "_law_value" "_law_value" (aU q32) (aO q32) (ab q32) .none kV34 dc34 pm34 an34 cd34 ct34),sl34⟩) (c34:PySem.W.codeIn K cd34 "_law_value"=true) (k34:PySem.W.keepIn K (.ref f34)=true)
  (a35:PySem.W.nsIn K mainGlobals "_law_brought"=some (some (.ref f35)))
  (l35:K.lookup f35=some ⟨oc35,od35,.func (PySem.W.fnOf "_law_brought" "_law_brought" (aU y19) (aO y19) (ab y19) .none kV35 dc35 pm35 an35 cd35 ct35),sl35⟩) (c35:PySem.W.codeIn K cd35 "_law_brought"=true) (k35:PySem.W.keepIn K (.ref f35)=true)
  (a36:PySem.W.nsIn K mainGlobals "_law_done"=some (some (.ref f36)))
  (l36:K.lookup f36=some ⟨oc36,od36,.func (PySem.W.fnOf "_law_done" "_law_done" (aU q27) (aO q27) (ab q27) .none kV36 dc36 pm36 an36 cd36 ct36),sl36⟩) (c36:PySem.W.codeIn K cd36 "_law_done"=true) (k36:PySem.W.keepIn K (.ref f36)=true)
  (a37:PySem.W.nsIn K mainGlobals "law"=some (some (.ref f37)))
  (l37:K.lookup f37=some ⟨oc37,od37,.func (PySem.W.fnOf "law" "law" (aU dq) (aO dq) (ab dq) .none kV37 dc37 pm37 an37 cd37 ct37),sl37⟩) (c37:PySem.W.codeIn K cd37 "law"=true) (k37:PySem.W.keepIn K (.ref f37)=true)
  (z_all:PySem.W.nsIn K mainGlobals "all"=some none)
  (z_bool:PySem.W.nsIn K mainGlobals "bool"=some none)
  (z_dict:PySem.W.nsIn K mainGlobals "dict"=some none)
  (z_enumerate:PySem.W.nsIn K mainGlobals "enumerate"=some none)
  (z_int:PySem.W.nsIn K mainGlobals "int"=some none)
  (z_isinstance:PySem.W.nsIn K mainGlobals "isinstance"=some none)
  (z_len:PySem.W.nsIn K mainGlobals "len"=some none)
  (z_list:PySem.W.nsIn K mainGlobals "list"=some none)
  (z_range:PySem.W.nsIn K mainGlobals "range"=some none)
  (z_str:PySem.W.nsIn K mainGlobals "str"=some none)
  (z_tuple:PySem.W.nsIn K mainGlobals "tuple"=some none)
  {u_WIDE:Value} (b_WIDE:PySem.W.nsIn K mainGlobals "WIDE"=some (some u_WIDE)) (r_WIDE:RelV (.int 1099511627776) u_WIDE)
  (x_str_NoneType:PySem.W.kitOne K (.type "NoneType") (.type "str")=some false)
  (x_str_bool:PySem.W.kitOne K (.type "bool") (.type "str")=some false)
  (x_str_int:PySem.W.kitOne K (.type "int") (.type "str")=some false)
  (x_str_str:PySem.W.kitOne K (.type "str") (.type "str")=some true)
  (x_str_tuple:PySem.W.kitOne K (.type "tuple") (.type "str")=some false)
  (x_str_list:PySem.W.kitOne K (.type "list") (.type "str")=some false)
  (x_str_dict:PySem.W.kitOne K (.type "dict") (.type "str")=some false)
  (x_bool_NoneType:PySem.W.kitOne K (.type "NoneType") (.type "bool")=some false)
  (x_bool_bool:PySem.W.kitOne K (.type "bool") (.type "bool")=some true)
  (x_bool_int:PySem.W.kitOne K (.type "int") (.type "bool")=some false)
  (x_bool_str:PySem.W.kitOne K (.type "str") (.type "bool")=some false)
  (x_bool_tuple:PySem.W.kitOne K (.type "tuple") (.type "bool")=some false)
  (x_bool_list:PySem.W.kitOne K (.type "list") (.type "bool")=some false)
  (x_bool_dict:PySem.W.kitOne K (.type "dict") (.type "bool")=some false)
  (x_int_NoneType:PySem.W.kitOne K (.type "NoneType") (.type "int")=some false)
  (x_int_bool:PySem.W.kitOne K (.type "bool") (.type "int")=some true)
  (x_int_int:PySem.W.kitOne K (.type "int") (.type "int")=some true)
  (x_int_str:PySem.W.kitOne K (.type "str") (.type "int")=some false)
  (x_int_tuple:PySem.W.kitOne K (.type "tuple") (.type "int")=some false)
  (x_int_list:PySem.W.kitOne K (.type "list") (.type "int")=some false)
  (x_int_dict:PySem.W.kitOne K (.type "dict") (.type "int")=some false)
  : ∃ fd:FuncData,(∀ (s:Shared) (v:Value),BindsTo s fd ⟨[v],[]⟩ [("_law_script",v)])/\∀ base:Heap,K.In base->base.Ns mainGlobals mg->FnOk l.prog w K mg base CX0 7 fa fd ["_law_script"] (nr K):=by
 have e:=hfa.symm.trans (PySem.W.mg_of X G a37)
 cases e
 have T:Txt l.prog w K mg:={n_all:=PySem.W.mg_none_of X G z_all,n_bool:=PySem.W.mg_none_of X G z_bool,n_dict:=PySem.W.mg_none_of X G z_dict,n_enumerate:=PySem.W.mg_none_of X G z_enumerate,n_int:=PySem.W.mg_none_of X G z_int,n_isinstance:=PySem.W.mg_none_of X G z_isinstance,n_len:=PySem.W.mg_none_of X G z_len,n_list:=PySem.W.mg_none_of X G z_list,n_range:=PySem.W.mg_none_of X G z_range,n_str:=PySem.W.mg_none_of X G z_str,n_tuple:=PySem.W.mg_none_of X G z_tuple,g_WIDE:=t4 ⟨_,PySem.W.mg_of X G b_WIDE,r_WIDE⟩,k_str:=fun d hd=>(by cases d<;>first | (cases hd;done) | exact x_str_NoneType | exact x_str_bool | exact x_str_int | exact x_str_str | exact x_str_tuple | exact x_str_list | exact x_str_dict),k_bool:=fun d hd=>(by cases d<;>first | (cases hd;done) | exact x_bool_NoneType | exact x_bool_bool | exact x_bool_int | exact x_bool_str | exact x_bool_tuple | exact x_bool_list | exact x_bool_dict),k_int:=fun d hd=>(by cases d<;>first | (cases hd;done) | exact x_int_NoneType | exact x_int_bool | exact x_int_int | exact x_int_str | exact x_int_tuple | exact x_int_list | exact x_int_dict),f_Plain_boxes:=⟨C_Plain,ac_Plain,⟨pg_Plain,hd_Plain,po_Plain,sa_Plain⟩,nf_Plain_boxes⟩,f_Plain_cells:=⟨C_Plain,ac_Plain,⟨pg_Plain,hd_Plain,po_Plain,sa_Plain⟩,nf_Plain_cells⟩,f_Plain_done:=⟨C_Plain,ac_Plain,⟨pg_Plain,hd_Plain,po_Plain,sa_Plain⟩,nf_Plain_done⟩,f_Plain_hears:=⟨C_Plain,ac_Plain,⟨pg_Plain,hd_Plain,po_Plain,sa_Plain⟩,nf_Plain_hears⟩,f_Plain_incoming:=⟨C_Plain,ac_Plain,⟨pg_Plain,hd_Plain,po_Plain,sa_Plain⟩,nf_Plain_incoming⟩,f_Plain_onward:=⟨C_Plain,ac_Plain,⟨pg_Plain,hd_Plain,po_Plain,sa_Plain⟩,nf_Plain_onward⟩,f_Plain_outgoing:=⟨C_Plain,ac_Plain,⟨pg_Plain,hd_Plain,po_Plain,sa_Plain⟩,nf_Plain_outgoing⟩,f_Plain_place:=⟨C_Plain,ac_Plain,⟨pg_Plain,hd_Plain,po_Plain,sa_Plain⟩,nf_Plain_place⟩,f_Plain_result:=⟨C_Plain,ac_Plain,⟨pg_Plain,hd_Plain,po_Plain,sa_Plain⟩,nf_Plain_result⟩,f_Plain_rows:=⟨C_Plain,ac_Plain,⟨pg_Plain,hd_Plain,po_Plain,sa_Plain⟩,nf_Plain_rows⟩,f_Plain_shelves:=⟨C_Plain,ac_Plain,⟨pg_Plain,hd_Plain,po_Plain,sa_Plain⟩,nf_Plain_shelves⟩}
 have D0:DefF K mg "_law_cell_at" y25 ["_law_script","_law_k"]:=DefF.mk' X G a0 l0 c0 k0 fun _ _ _ _ _ _ us hl=>match us,hl with | [_,_],_=>rfl
 have D1:DefF K mg "_law_drawn" z18 ["_law_cell","_law_many","_law_digits"]:=DefF.mk' X G a1 l1 c1 k1 fun _ _ _ _ _ _ us hl=>match us,hl with | [_,_,_],_=>rfl
 have D2:DefF K mg "_law_names" z9 ["_law_cell","_law_many"]:=DefF.mk' X G a2 l2 c2 k2 fun _ _ _ _ _ _ us hl=>match us,hl with | [_,_],_=>rfl
 have D3:DefF K mg "_law_value_by" z27 ["_law_number"]:=DefF.mk' X G a3 l3 c3 k3 fun _ _ _ _ _ _ us hl=>match us,hl with | [_],_=>rfl
 have D4:DefF K mg "_law_world" y2 ["_law_script"]:=DefF.mk' X G a4 l4 c4 k4 fun _ _ _ _ _ _ us hl=>match us,hl with | [_],_=>rfl
 have D5:DefF K mg "_law_atom" y30 ["_law_number","_law_names_here"]:=DefF.mk' X G a5 l5 c5 k5 fun _ _ _ _ _ _ us hl=>match us,hl with | [_,_],_=>rfl
 have D6:DefF K mg "_law_led" q42 ["_law_xs","_law_at","_law_many"]:=DefF.mk' X G a6 l6 c6 k6 fun _ _ _ _ _ _ us hl=>match us,hl with | [_,_,_],_=>rfl
 have D7:DefF K mg "_law_row" z28 ["_law_cell","_law_at","_law_many","_law_world_here"]:=DefF.mk' X G a7 l7 c7 k7 fun _ _ _ _ _ _ us hl=>match us,hl with | [_,_,_,_],_=>rfl
 have D8:DefF K mg "_law_program" y9 ["_law_some","_law_world_here","_law_last"]:=DefF.mk' X G a8 l8 c8 k8 fun _ _ _ _ _ _ us hl=>match us,hl with | [_,_,_],_=>rfl
 have D9:DefF K mg "ways_of" q45 ["number","row"]:=DefF.mk' X G a9 l9 c9 k9 fun _ _ _ _ _ _ us hl=>match us,hl with | [_,_],_=>rfl
 have D10:DefF K mg "ways" dW ["program"]:=DefF.mk' X G a10 l10 c10 k10 fun _ _ _ _ _ _ us hl=>match us,hl with | [_],_=>rfl
 have FF11:=cH (st:=z8) l11 c11 k11
 have D11:DefI K mg "Plain" "Plain.__init__" z8 ["self","program","letters"]:=⟨C_Plain,_,_,ac_Plain,PySem.W.mg_of X G ac_Plain,⟨mk_Plain,a11,i11,kc_Plain⟩,FF11.binds (fun _ _ _ _ _ _ us hl=>match us,hl with | [_,_,_],_=>rfl),FF11⟩
 have D12:DefF K mg "_law_begun" y35 ["_law_program_here","_law_letters"]:=DefF.mk' X G a12 l12 c12 k12 fun _ _ _ _ _ _ us hl=>match us,hl with | [_,_],_=>rfl
 have FF13:=cH (st:=z25) l13 c13 k13
 have D13:DefM K "Plain" "ended" "Plain.ended" z25 ["self"]:=⟨C_Plain,_,_,ac_Plain,⟨pg_Plain,hd_Plain,po_Plain,sa_Plain⟩,⟨a13,i13,k13⟩,FF13.binds (fun _ _ _ _ _ _ us hl=>match us,hl with | [_],_=>rfl),FF13⟩
 have FF14:=cH (st:=y31) l14 c14 k14
 have D14:DefM K "Plain" "box" "Plain.box" y31 ["self","name"]:=⟨C_Plain,_,_,ac_Plain,⟨pg_Plain,hd_Plain,po_Plain,sa_Plain⟩,⟨a14,i14,k14⟩,FF14.binds (fun _ _ _ _ _ _ us hl=>match us,hl with | [_,_],_=>rfl),FF14⟩
 have FF15:=cH (st:=z20) l15 c15 k15
 have D15:DefM K "Plain" "worth" "Plain.worth" z20 ["self","atom"]:=⟨C_Plain,_,_,ac_Plain,⟨pg_Plain,hd_Plain,po_Plain,sa_Plain⟩,⟨a15,i15,k15⟩,FF15.binds (fun _ _ _ _ _ _ us hl=>match us,hl with | [_,_],_=>rfl),FF15⟩
 have FF16:=cH (st:=z13) l16 c16 k16
 have D16:DefM K "Plain" "next_letter" "Plain.next_letter" z13 ["self"]:=⟨C_Plain,_,_,ac_Plain,⟨pg_Plain,hd_Plain,po_Plain,sa_Plain⟩,⟨a16,i16,k16⟩,FF16.binds (fun _ _ _ _ _ _ us hl=>match us,hl with | [_],_=>rfl),FF16⟩
 have D17:DefF K mg "number_of" y39 ["sign","one","other"]:=DefF.mk' X G a17 l17 c17 k17 fun _ _ _ _ _ _ us hl=>match us,hl with | [_,_,_],_=>rfl
 have D18:DefF K mg "value" y46 ["sign","one","other"]:=DefF.mk' X G a18 l18 c18 k18 fun _ _ _ _ _ _ us hl=>match us,hl with | [_,_,_],_=>rfl
 have FF19:=cH (st:=z17) l19 c19 k19
 have D19:DefM K "Plain" "set_by" "Plain.set_by" z17 ["self","row"]:=⟨C_Plain,_,_,ac_Plain,⟨pg_Plain,hd_Plain,po_Plain,sa_Plain⟩,⟨a19,i19,k19⟩,FF19.binds (fun _ _ _ _ _ _ us hl=>match us,hl with | [_,_],_=>rfl),FF19⟩
 have FF20:=cH (st:=q21) l20 c20 k20
 have D20:DefM K "Plain" "do_row" "Plain.do_row" q21 ["self","row"]:=⟨C_Plain,_,_,ac_Plain,⟨pg_Plain,hd_Plain,po_Plain,sa_Plain⟩,⟨a20,i20,k20⟩,FF20.binds (fun _ _ _ _ _ _ us hl=>match us,hl with | [_,_],_=>rfl),FF20⟩
 have FF21:=cH (st:=y14) l21 c21 k21
 have D21:DefM K "Plain" "place_behind" "Plain.place_behind" y14 ["self","row"]:=⟨C_Plain,_,_,ac_Plain,⟨pg_Plain,hd_Plain,po_Plain,sa_Plain⟩,⟨a21,i21,k21⟩,FF21.binds (fun _ _ _ _ _ _ us hl=>match us,hl with | [_,_],_=>rfl),FF21⟩
 have FF22:=cH (st:=q30) l22 c22 k22
 have D22:DefM K "Plain" "step" "Plain.step" q30 ["self"]:=⟨C_Plain,_,_,ac_Plain,⟨pg_Plain,hd_Plain,po_Plain,sa_Plain⟩,⟨a22,i22,k22⟩,FF22.binds (fun _ _ _ _ _ _ us hl=>match us,hl with | [_],_=>rfl),FF22⟩
 have FF23:=cH (st:=z24) l23 c23 k23
 have D23:DefM K "Plain" "sent" "Plain.sent" z24 ["self"]:=⟨C_Plain,_,_,ac_Plain,⟨pg_Plain,hd_Plain,po_Plain,sa_Plain⟩,⟨a23,i23,k23⟩,FF23.binds (fun _ _ _ _ _ _ us hl=>match us,hl with | [_],_=>rfl),FF23⟩
 have FF24:=cH (st:=z23) l24 c24 k24
 have D24:DefM K "Plain" "stands" "Plain.stands" z23 ["self"]:=⟨C_Plain,_,_,ac_Plain,⟨pg_Plain,hd_Plain,po_Plain,sa_Plain⟩,⟨a24,i24,k24⟩,FF24.binds (fun _ _ _ _ _ _ us hl=>match us,hl with | [_],_=>rfl),FF24⟩
 have FF25:=cH (st:=q26) l25 c25 k25
 have D25:DefM K "Plain" "count" "Plain.count" q26 ["self"]:=⟨C_Plain,_,_,ac_Plain,⟨pg_Plain,hd_Plain,po_Plain,sa_Plain⟩,⟨a25,i25,k25⟩,FF25.binds (fun _ _ _ _ _ _ us hl=>match us,hl with | [_],_=>rfl),FF25⟩
 have FF26:=cH (st:=z26) l26 c26 k26
 have D26:DefM K "Plain" "heard" "Plain.heard" z26 ["self"]:=⟨C_Plain,_,_,ac_Plain,⟨pg_Plain,hd_Plain,po_Plain,sa_Plain⟩,⟨a26,i26,k26⟩,FF26.binds (fun _ _ _ _ _ _ us hl=>match us,hl with | [_],_=>rfl),FF26⟩
 have D27:DefF K mg "_law_wholes" q12 ["_law_run","_law_boxes"]:=DefF.mk' X G a27 l27 c27 k27 fun _ _ _ _ _ _ us hl=>match us,hl with | [_,_],_=>rfl
 have FF28:=cH (st:=y22) l28 c28 k28
 have D28:DefM K "Plain" "answer" "Plain.answer" y22 ["self"]:=⟨C_Plain,_,_,ac_Plain,⟨pg_Plain,hd_Plain,po_Plain,sa_Plain⟩,⟨a28,i28,k28⟩,FF28.binds (fun _ _ _ _ _ _ us hl=>match us,hl with | [_],_=>rfl),FF28⟩
 have FF29:=cH (st:=y21) l29 c29 k29
 have D29:DefM K "Plain" "shelf" "Plain.shelf" y21 ["self","name"]:=⟨C_Plain,_,_,ac_Plain,⟨pg_Plain,hd_Plain,po_Plain,sa_Plain⟩,⟨a29,i29,k29⟩,FF29.binds (fun _ _ _ _ _ _ us hl=>match us,hl with | [_,_],_=>rfl),FF29⟩
 have FF30:=cH (st:=z30) l30 c30 k30
 have D30:DefM K "Plain" "cell" "Plain.cell" z30 ["self","name"]:=⟨C_Plain,_,_,ac_Plain,⟨pg_Plain,hd_Plain,po_Plain,sa_Plain⟩,⟨a30,i30,k30⟩,FF30.binds (fun _ _ _ _ _ _ us hl=>match us,hl with | [_,_],_=>rfl),FF30⟩
 have D31:DefF K mg "_law_same" y26 ["_law_run","_law_now","_law_program_here","_law_boxes"]:=DefF.mk' X G a31 l31 c31 k31 fun _ _ _ _ _ _ us hl=>match us,hl with | [_,_,_,_],_=>rfl
 have D32:DefF K mg "_law_long" q31 ["_law_names_here","_law_cell"]:=DefF.mk' X G a32 l32 c32 k32 fun _ _ _ _ _ _ us hl=>match us,hl with | [_,_],_=>rfl
 have D33:DefF K mg "_law_worth" y27 ["_law_atom_here","_law_now"]:=DefF.mk' X G a33 l33 c33 k33 fun _ _ _ _ _ _ us hl=>match us,hl with | [_,_],_=>rfl
 have D34:DefF K mg "_law_value" q32 ["_law_sign","_law_one","_law_other"]:=DefF.mk' X G a34 l34 c34 k34 fun _ _ _ _ _ _ us hl=>match us,hl with | [_,_,_],_=>rfl
 have D35:DefF K mg "_law_brought" y19 ["_law_row_here","_law_now"]:=DefF.mk' X G a35 l35 c35 k35 fun _ _ _ _ _ _ us hl=>match us,hl with | [_,_],_=>rfl
 have D36:DefF K mg "_law_done" q27 ["_law_row_here","_law_now"]:=DefF.mk' X G a36 l36 c36 k36 fun _ _ _ _ _ _ us hl=>match us,hl with | [_,_],_=>rfl
 refine ⟨PySem.W.fnOf "law" "law" (aU dq) (aO dq) (ab dq) .none kV37 dc37 pm37 an37 cd37 ct37,fun s v=>.of_eq rfl,fun base _ _=>?_⟩
 have z16:=q83 (P:=l.prog) (w:=w) (base:=base) T D0 
 have y36:=y86 (P:=l.prog) (w:=w) (base:=base) T D1 
 have y40:=y89 (P:=l.prog) (w:=w) (base:=base) T D2 
 have y28:=q78 (P:=l.prog) (w:=w) (base:=base) T D3 
 have y59:=z88 (P:=l.prog) (w:=w) (base:=base) T D4 z16 y36 y40 y28
 have z39:=q91 (P:=l.prog) (w:=w) (base:=base) T D5 y28
 have q56:=z93 (P:=l.prog) (w:=w) (base:=base) T D6 
 have q67:=q93 (P:=l.prog) (w:=w) (base:=base) T D7 z39 y36 q56
 have z52:=y79 (P:=l.prog) (w:=w) (base:=base) T D8 q67
 have q72:=z94 (P:=l.prog) (w:=w) (base:=base) T D9 
 have h_ways:=y95 (P:=l.prog) (w:=w) (base:=base) T D10 q72
 have z29:=y71 (P:=l.prog) (w:=w) (base:=base) T D11 h_ways
 have q58:=q89 (P:=l.prog) (w:=w) (base:=base) T D12 
 have q19:=z80 (P:=l.prog) (w:=w) (base:=base) T D13 
 have y18:=z87 (P:=l.prog) (w:=w) (base:=base) T D14 
 have y10:=z83 (P:=l.prog) (w:=w) (base:=base) T D15 y18
 have y41:=q64 (P:=l.prog) (w:=w) (base:=base) T D16 
 have z63:=z90 (P:=l.prog) (w:=w) (base:=base) T D17 
 have q84:=z95 (P:=l.prog) (w:=w) (base:=base) T D18 z63
 have y50:=y75 (P:=l.prog) (w:=w) (base:=base) T D19 y41 y10 q84
 have z50:=y78 (P:=l.prog) (w:=w) (base:=base) T D20 y10 y50
 have q40:=z62 (P:=l.prog) (w:=w) (base:=base) T D21 y10
 have z33:=z86 (P:=l.prog) (w:=w) (base:=base) T D22 q19 y10 z50 q40
 have y24:=q85 (P:=l.prog) (w:=w) (base:=base) T D23 
 have y20:=y76 (P:=l.prog) (w:=w) (base:=base) T D24 
 have q22:=y83 (P:=l.prog) (w:=w) (base:=base) T D25 
 have y33:=z81 (P:=l.prog) (w:=w) (base:=base) T D26 
 have q55:=z85 (P:=l.prog) (w:=w) (base:=base) T D27 y24 y18 y20 q22 y33
 have y32:=z77 (P:=l.prog) (w:=w) (base:=base) T D28 
 have y52:=y81 (P:=l.prog) (w:=w) (base:=base) T D29 
 have q54:=z84 (P:=l.prog) (w:=w) (base:=base) T D30 
 have z53:=y92 (P:=l.prog) (w:=w) (base:=base) T D31 q19 q55 y20 q22 y33 y24 y32 y52 y18 q54
 have q63:=z91 (P:=l.prog) (w:=w) (base:=base) T D32 z29 z33 y20 q19 y18 q22 y32 y24
 have z15:=y87 (P:=l.prog) (w:=w) (base:=base) T D33 
 have q60:=q88 (P:=l.prog) (w:=w) (base:=base) T D34 
 have q53:=z79 (P:=l.prog) (w:=w) (base:=base) T D35 z15 q60
 have q62:=y91 (P:=l.prog) (w:=w) (base:=base) T D36 z15 q53
 exact (zo T (cH (st:=dq) l37 c37 k37) y59 y40 z52 z29 q58 z16 z39 z33 z53 q63 q62).imp fun vs H Q E z=>zK z
def walk {l:PySem.W.OpenLaw} {q:Program} {loose:List Str} {XP:(Str->Option Value)->Heap->Prop} {YP:World->Heap->Prop} {d:DefRec} {K:Params->PySem.W.Frag} (hn:l.most=some 63) (hdf:d.params.defaults=[])
  (hY:∀ (w:World) (h:Heap),YP w h->(K w.params).In h)
  (F:∀ (w:World) (mg:Str->Option Value) (fa:Addr) (h:Heap),(K w.params).In h->h.Ns mainGlobals mg->mg d.name=some (.ref fa)→
   ∃ fd:FuncData,(∀ (s:Shared) (u:Value),BindsTo s fd ⟨[u],[]⟩ [("_law_script",u)])/\∀ base:Heap,(K w.params).In base->base.Ns mainGlobals mg->FnOk l.prog w (K w.params) mg base CX0 7 fa fd ["_law_script"] (nr (K w.params))) :
  PySem.W.WalkO q loose XP YP l.row.toRowW d [] (fun f vs=>PySem.call f vs):=
 L2.BM (n:=63) (k:=7) (x:="_law_script") (CX:=fun _=>CX0) (sp:=fun w=>nr (K w.params)) hn (by decide) hdf ⟨rfl,by decide,by decide⟩ hY F (fun _ _ a ns hl hO hS=>⟨a,ns,rfl,hS,hl,hO,fun _=>rfl⟩) fun _ _ _ _ _ z=>z
end P24
open PySem PySem.W PyProof.Rows
set_option maxRecDepth 100000 in
set_option maxHeartbeats 0 in
theorem PySem.Challenge.cw_dimhouse_k24_whole_plain_runs_holds : PySem.Challenge.rw_dimhouse_k24_whole_plain_runs.Holds := by
 w_on;o_law
 refine holds_open (q:=P24.seen) (loose:=[]) (Xt:=fun s=>xlAt P24.seen [] s&&recOk (RowW.records (OpenRow.toRowW PySem.Challenge.rw_dimhouse_k24_whole_plain_runs.row)) s) (XP:=XL P24.seen []) (Yf:=Hook.obs P24.hook) (Ya:=Hook.val P24.hook) (YP:=Hook.says P24.hook) (N:=2968) ?hl (Hook.of P24.hook) (Hook.keeps P24.hook) (fun s e=>xl_of s (Bool.and_eq_true_iff.mp e).1) XL.keeps (by rfl) (by rfl) (by rfl) (fun s e=>recFacts_of (Bool.and_eq_true_iff.mp e).2) (by rfl) (by first | assumption | decide +kernel) (by decide +kernel) ⟨rfl,rfl,rfl,rfl,rfl,by decide +kernel⟩ ?hw ?hc
 case hl=>exact LeftO.of_split "special-get-raises" fun w=>P24.map_two (P24.run_false w) (P24.run_true w)
 case hw=>w_witness2
 delta P24.hook
 k_fill
 refine P24.walk (l:=PySem.Challenge.rw_dimhouse_k24_whole_plain_runs) rfl rfl (fun w h Y=>PySem.W.kIn_of Y) ?F
 case F =>
  intro w mg fa h KX G hmg
  refine' P24.all_mk KX G hmg ?ac_Plain ?pg_Plain ?hd_Plain ?po_Plain ?sa_Plain ?mk_Plain ?kc_Plain ?nf_Plain_boxes ?nf_Plain_cells ?nf_Plain_done ?nf_Plain_hears ?nf_Plain_incoming ?nf_Plain_onward ?nf_Plain_outgoing ?nf_Plain_place ?nf_Plain_result ?nf_Plain_rows ?nf_Plain_shelves ?a0 ?l0 ?c0 ?k0 ?a1 ?l1 ?c1 ?k1 ?a2 ?l2 ?c2 ?k2 ?a3 ?l3 ?c3 ?k3 ?a4 ?l4 ?c4 ?k4 ?a5 ?l5 ?c5 ?k5 ?a6 ?l6 ?c6 ?k6 ?a7 ?l7 ?c7 ?k7 ?a8 ?l8 ?c8 ?k8 ?a9 ?l9 ?c9 ?k9 ?a10 ?l10 ?c10 ?k10 ?a11 ?i11 ?l11 ?c11 ?k11 ?a12 ?l12 ?c12 ?k12 ?a13 ?i13 ?l13 ?c13 ?k13 ?a14 ?i14 ?l14 ?c14 ?k14 ?a15 ?i15 ?l15 ?c15 ?k15 ?a16 ?i16 ?l16 ?c16 ?k16 ?a17 ?l17 ?c17 ?k17 ?a18 ?l18 ?c18 ?k18 ?a19 ?i19 ?l19 ?c19 ?k19 ?a20 ?i20 ?l20 ?c20 ?k20 ?a21 ?i21 ?l21 ?c21 ?k21 ?a22 ?i22 ?l22 ?c22 ?k22 ?a23 ?i23 ?l23 ?c23 ?k23 ?a24 ?i24 ?l24 ?c24 ?k24 ?a25 ?i25 ?l25 ?c25 ?k25 ?a26 ?i26 ?l26 ?c26 ?k26 ?a27 ?l27 ?c27 ?k27 ?a28 ?i28 ?l28 ?c28 ?k28 ?a29 ?i29 ?l29 ?c29 ?k29 ?a30 ?i30 ?l30 ?c30 ?k30 ?a31 ?l31 ?c31 ?k31 ?a32 ?l32 ?c32 ?k32 ?a33 ?l33 ?c33 ?k33 ?a34 ?l34 ?c34 ?k34 ?a35 ?l35 ?c35 ?k35 ?a36 ?l36 ?c36 ?k36 ?a37 ?l37 ?c37 ?k37 ?z_all ?z_bool ?z_dict ?z_enumerate ?z_int ?z_isinstance ?z_len ?z_list ?z_range ?z_str ?z_tuple ?b_WIDE ?r_WIDE ?x_str_NoneType ?x_str_bool ?x_str_int ?x_str_str ?x_str_tuple ?x_str_list ?x_str_dict ?x_bool_NoneType ?x_bool_bool ?x_bool_int ?x_bool_str ?x_bool_tuple ?x_bool_list ?x_bool_dict ?x_int_NoneType ?x_int_bool ?x_int_int ?x_int_str ?x_int_tuple ?x_int_list ?x_int_dict
  (case ac_Plain | pg_Plain | hd_Plain | po_Plain | sa_Plain | mk_Plain | kc_Plain | nf_Plain_boxes | nf_Plain_cells | nf_Plain_done | nf_Plain_hears | nf_Plain_incoming | nf_Plain_onward | nf_Plain_outgoing | nf_Plain_place | nf_Plain_result | nf_Plain_rows | nf_Plain_shelves | a0 | l0 | c0 | k0 | a1 | l1 | c1 | k1 | a2 | l2 | c2 | k2 | a3 | l3 | c3 | k3 | a4 | l4 | c4 | k4 | a5 | l5 | c5 | k5 | a6 | l6 | c6 | k6 | a7 | l7 | c7 | k7 | a8 | l8 | c8 | k8 | a9 | l9 | c9 | k9 | a10 | l10 | c10 | k10 | a11 | i11 | l11 | c11 | k11 | a12 | l12 | c12 | k12 | a13 | i13 | l13 | c13 | k13 | a14 | i14 | l14 | c14 | k14 | a15 | i15 | l15 | c15 | k15 | a16 | i16 | l16 | c16 | k16 | a17 | l17 | c17 | k17 | a18 | l18 | c18 | k18 | a19 | i19 | l19 | c19 | k19 | a20 | i20 | l20 | c20 | k20 | a21 | i21 | l21 | c21 | k21 | a22 | i22 | l22 | c22 | k22 | a23 | i23 | l23 | c23 | k23 | a24 | i24 | l24 | c24 | k24 | a25 | i25 | l25 | c25 | k25 | a26 | i26 | l26 | c26 | k26 | a27 | l27 | c27 | k27 | a28 | i28 | l28 | c28 | k28 | a29 | i29 | l29 | c29 | k29 | a30 | i30 | l30 | c30 | k30 | a31 | l31 | c31 | k31 | a32 | l32 | c32 | k32 | a33 | l33 | c33 | k33 | a34 | l34 | c34 | k34 | a35 | l35 | c35 | k35 | a36 | l36 | c36 | k36 | a37 | l37 | c37 | k37 | z_all | z_bool | z_dict | z_enumerate | z_int | z_isinstance | z_len | z_list | z_range | z_str | z_tuple | b_WIDE=>k_is)
  (case r_WIDE=>exact ⟨_,rfl⟩)
  (case x_str_NoneType=>first | k_is | rfl)
  (case x_str_bool=>first | k_is | rfl)
  (case x_str_int=>first | k_is | rfl)
  (case x_str_str=>first | k_is | rfl)
  (case x_str_tuple=>first | k_is | rfl)
  (case x_str_list=>first | k_is | rfl)
  (case x_str_dict=>first | k_is | rfl)
  (case x_bool_NoneType=>first | k_is | rfl)
  (case x_bool_bool=>first | k_is | rfl)
  (case x_bool_int=>first | k_is | rfl)
  (case x_bool_str=>first | k_is | rfl)
  (case x_bool_tuple=>first | k_is | rfl)
  (case x_bool_list=>first | k_is | rfl)
  (case x_bool_dict=>first | k_is | rfl)
  (case x_int_NoneType=>first | k_is | rfl)
  (case x_int_bool=>first | k_is | rfl)
  (case x_int_int=>first | k_is | rfl)
  (case x_int_str=>first | k_is | rfl)
  (case x_int_tuple=>first | k_is | rfl)
  (case x_int_list=>first | k_is | rfl)
  (case x_int_dict=>first | k_is | rfl)
