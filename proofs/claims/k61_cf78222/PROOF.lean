import PyProof.Rows.All
import Wide.All
import OpenK.AllK
import Wide.FinOn
import Lean
import PyProof.EqAt
import PyProof.EqKinds
import PyProof.TupleCall
import PySem.Challenge.RW_dimhouse_k61_what_stays
set_option Elab.async false
set_option linter.all false
namespace P61
open PySem PySem.W PyProof.Rows
section
local macro_rules | `(tactic| o_head $_) => `(tactic| exact (by assumption : ∀ p : Prop, p) _)
set_option maxRecDepth 100000 in
set_option maxHeartbeats 0 in
theorem pre (h0:∀ p:Prop,p):PySem.Challenge.rw_dimhouse_k61_what_stays.row.Holds:=by
  k_head
end
def seen:Program:={PySem.Challenge.pw_dimhouse_k61_what_stays with main:={PySem.Challenge.pw_dimhouse_k61_what_stays.main with body:=[1,3,4,5,6,7,8,9,10,11].filterMap fun i=>PySem.Challenge.pw_dimhouse_k61_what_stays.main.body[i]?}}
noncomputable abbrev hook:Hook:=kHook P61.pre.heap_1 [2,3,22,25,26,27,29,30,32,33,34,36,37,39,40,41,43,44,46,47,48,50,51,53,54,55,57,58,60,61,62,64,65,67,68,69,71,72,74,75,76,78,79,81,82,83,85,86,88,89,90,92,93,95,96,97,99,100,102,103,104,106,107,109,110,111,113,114,116,117,118,119,120,121,122,125,127,128,130,131,132,134,135,137,138,139,142,143,144,146,147,149,150,151,154,155,156,159,160,161,164,165,166,168,169,171,172,173,176,177] (fun _=>by kernel_rfl)
theorem map_two {α β γ:Type} {x:Option α} {f:α→β} {g:α→γ} {a:β} {b:γ} (h:x.map f=some a) (h':x.map g=some b):x.map (fun s=>(f s,g s))=some (a,b):=by
  cases x with
  | none=>cases h
  | some s=>simp only [Option.map_some,Option.some.injEq] at h h' ⊢;rw [h,h']
set_option maxRecDepth 100000 in
set_option maxHeartbeats 0 in
theorem run_false (w:World):(fencedOpening treeTable PySem.Challenge.rw_dimhouse_k61_what_stays.row.prog w 1982).map (fun s₀=>(topFrom treeTable PySem.Challenge.rw_dimhouse_k61_what_stays.row.prog (w.withFollow "special-get-raises" false) 1982 s₀).map (fun s=>(openSeen seen [] (importedModules PySem.Challenge.rw_dimhouse_k61_what_stays.row.prog.main.body) (fun s=>xlAt seen [] s&&recOk (RowW.records (OpenRow.toRowW PySem.Challenge.rw_dimhouse_k61_what_stays.row)) s) true s,Hook.obs hook s)))=some (some (openGood seen [],Hook.val hook (w.withFollow "special-get-raises" false))):=by
  kernel_rfl
set_option maxRecDepth 100000 in
set_option maxHeartbeats 0 in
theorem run_true (w:World):(fencedOpening treeTable PySem.Challenge.rw_dimhouse_k61_what_stays.row.prog w 1982).map (fun s₀=>(topFrom treeTable PySem.Challenge.rw_dimhouse_k61_what_stays.row.prog (w.withFollow "special-get-raises" true) 1982 s₀).map (fun s=>(openSeen seen [] (importedModules PySem.Challenge.rw_dimhouse_k61_what_stays.row.prog.main.body) (fun s=>xlAt seen [] s&&recOk (RowW.records (OpenRow.toRowW PySem.Challenge.rw_dimhouse_k61_what_stays.row)) s) true s,Hook.obs hook s)))=some (some (openGood seen [],Hook.val hook (w.withFollow "special-get-raises" true))):=by
  kernel_rfl
end P61
set_option maxRecDepth 100000
set_option maxHeartbeats 4000000
noncomputable section
def bS {α β:Type _} {o:Option α} {f:α->Option β} {b:β} (h:o.bind f=some b):∃ a,o=some a/\f a=some b:=Option.bind_eq_some_iff.mp h
def mS {α β:Type _} {o:Option α} {f:α->β} {b:β} (h:o.map f=some b):∃ a,o=some a/\f a=b:=Option.map_eq_some_iff.mp h
def gX {α:Type _} {l:List α} {i:Nat} {a:α} (h:l[i]?=some a):∃ z:i<l.length,l[i]=a:=List.getElem?_eq_some_iff.mp h
open PySem PySem.Spec PyProof.Rows in abbrev gN := @List.getElem?_set_ne
open PySem PySem.Spec PyProof.Rows in abbrev gP := @Heap.get?_push_of_some
open PySem PySem.Spec PyProof.Rows in abbrev wB := @wpAny_bind
open PySem PySem.Spec PyProof.Rows in abbrev gL := @List.getElem?_append_left
open PySem PySem.Spec PyProof.Rows in abbrev gR := @List.getElem?_append_right
open PySem PySem.Spec PyProof.Rows in abbrev gQ := @List.getElem?_eq_getElem
open PySem PySem.Spec PyProof.Rows in abbrev nL := @Nat.le_refl
set_option maxRecDepth 100000
namespace L2
open PySem PySem.Spec PyProof.Rows
abbrev Key:=Sum Int Str
def kh:Key->Value->Bool
 | .inl k,v=>Value.isInt k v
 | .inr x,v=>Value.isStrOf x v
def keyH (w:World):Key->Int
 | .inl k=>hashInt k
 | .inr x=>hashStr w x
def bJ:∀ {k:Key} {v:Value},kh k v=true->(∃ i t,k=Sum.inl i/\v=Value.int i t)∨(∃ x t,k=Sum.inr x/\v=Value.str x t)
 | .inl i,v,h=>by
  obtain ⟨t,e⟩:=Value.isInt_shape (k:=i) (v:=v) h
  exact .inl ⟨i,t,rfl,e⟩
 | .inr x,v,h=>by
  obtain ⟨t,e⟩:=Value.isStrOf_shape (x:=x) (v:=v) h
  exact .inr ⟨x,t,rfl,e⟩
def qI (i:Int) (t:Tok):kh (.inl i) (.int i t)=true:=by simp [kh,Value.isInt]
def qJ (x:Str) (t:Tok):kh (.inr x) (.str x t)=true:=by simp [kh,Value.isStrOf]
def xo (a b:Int):decide ((Sum.inl a:Key)=Sum.inl b)=(a==b):=by
 by_cases e:a=b
 · subst e;simp
 · have h:¬ (Sum.inl a:Key)=Sum.inl b:=fun q=>e (Sum.inl.inj q)
   rw [decide_eq_false h]
   exact (beq_eq_false_iff_ne.mpr e).symm
def xp (a b:Str):decide ((Sum.inr a:Key)=Sum.inr b)=decide (a=b):=by
 by_cases e:a=b
 · subst e;simp
 · have h:¬ (Sum.inr a:Key)=Sum.inr b:=fun q=>e (Sum.inr.inj q)
   rw [decide_eq_false h,decide_eq_false e]
def xq (a:Int) (b:Str):decide ((Sum.inl a:Key)=Sum.inr b)=false:=decide_eq_false (fun q=>nomatch q)
def xr (a:Str) (b:Int):decide ((Sum.inr a:Key)=Sum.inl b)=false:=decide_eq_false (fun q=>nomatch q)
noncomputable def bf (prog:Program) (w:World):PySem.KeyKind prog w Key where
 is:=kh
 hash:=keyH w
 inj:=fun v a b ha hb=>by
  rcases bJ ha with ⟨i,t,rfl,rfl⟩ | ⟨x,t,rfl,rfl⟩
  · rcases bJ hb with ⟨j,u,rfl,e⟩ | ⟨y,u,rfl,e⟩
    · injection e with e1 _;rw [e1]
    · exact nomatch e
  · rcases bJ hb with ⟨j,u,rfl,e⟩ | ⟨y,u,rfl,e⟩
    · exact nomatch e
    · injection e with e1 _;rw [e1]
 byValue:=fun k v h=>by
  rcases bJ h with ⟨i,t,rfl,rfl⟩ | ⟨x,t,rfl,rfl⟩<;>rfl
 pyHash:=fun hv h=>by
  rcases bJ hv with ⟨i,t,rfl,rfl⟩ | ⟨x,t,rfl,rfl⟩
  · exact wpAny_pyHash_int h
  · exact wpAny_pyHash_str h
 eqBool:=fun hu hv h=>by
  rcases bJ hu with ⟨i,t,rfl,rfl⟩ | ⟨x,t,rfl,rfl⟩
  · rcases bJ hv with ⟨j,u,rfl,rfl⟩ | ⟨y,u,rfl,rfl⟩
    · rw [xo] at h;exact wpAny_eqBool_int h
    · rw [xq] at h;exact SeqAt.EqAt.int_str i t y u _ _ _ _ h
  · rcases bJ hv with ⟨j,u,rfl,rfl⟩ | ⟨y,u,rfl,rfl⟩
    · rw [xr] at h;exact SeqAt.EqAt.str_int x t j u _ _ _ _ h
    · rw [xp] at h;exact wpAny_eqBool_str h
 «strs»:=fun k x t v h=>by
  rcases bJ h with ⟨i,u,rfl,e⟩ | ⟨y,u,rfl,e⟩
  · exact nomatch e
  · injection e with e1 _
    subst e1
    cases v<;>rfl
def mI (prog:Program) (w:World) (i:Int) (t:Tok):(bf prog w).is (.inl i) (.int i t)=true:=qI i t
def mJ (prog:Program) (w:World) (x:Str) (t:Tok):(bf prog w).is (.inr x) (.str x t)=true:=qJ x t
inductive V where
 | non | bl (b:Bool) | int (i:Int) | str (x:Str) | byt (b:Array UInt8) | flt (b:UInt64) | ref (a:Addr) | ty (n:String)
 deriving DecidableEq
noncomputable def RelV:V->Value->Prop
 | .non,u=>u=Value.none
 | .bl b,u=>u=Value.bool b
 | .int i,u=>∃ t,u=Value.int i t
 | .str x,u=>∃ t,u=Value.str x t
 | .byt b,u=>∃ t,u=Value.bytes b t
 | .flt b,u=>∃ t,u=Value.float b t
 | .ref a,u=>u=Value.ref a
 | .ty n,u=>u=Value.type n
abbrev Vals:List V->List Value->Prop:=Paired RelV
def Vals.length {xs:List V} {us:List Value} (r:Vals xs us):xs.length=us.length:=Paired.length r
def Vals.get:∀ {xs:List V} {us:List Value} {i:Nat} {x:V},Vals xs us->xs[i]?=some x->∃ u,us[i]?=some u/\RelV x u
 | _,_,_,_,.nil,e=>by simp at e
 | _,_,0,_,.cons r _,e=>by simp at e;subst e;exact ⟨_,rfl,r⟩
 | _,_,i+1,x,.cons _ t,e=>by
  obtain ⟨u,h1,h2⟩:=Vals.get (i:=i) (x:=x) t (by simpa using e)
  exact ⟨u,by simpa using h1,h2⟩
def Vals.set {x:V} {u:Value} (r:RelV x u):∀ {xs:List V} {us:List Value} (i:Nat),Vals xs us->Vals (xs.set i x) (us.set i u)
 | _,_,_,.nil=>.nil
 | _,_,0,.cons _ t=>.cons r t
 | _,_,i+1,.cons q t=>.cons q (Vals.set r i t)
def Vals.append:∀ {xs ys:List V} {us ws:List Value},Vals xs us->Vals ys ws->Vals (xs++ys) (us++ws)
 | _,_,_,_,.nil,s=>s
 | _,_,_,_,.cons r t,s=>.cons r (Vals.append t s)
def Vals.take:∀ {xs:List V} {us:List Value} (n:Nat),Vals xs us->Vals (xs.take n) (us.take n)
 | _,_,0,_=>.nil
 | _,_,_+1,.nil=>.nil
 | _,_,n+1,.cons r t=>.cons r (Vals.take n t)
def Vals.drop:∀ {xs:List V} {us:List Value} (n:Nat),Vals xs us->Vals (xs.drop n) (us.drop n)
 | _,_,0,r=>r
 | _,_,_+1,.nil=>.nil
 | _,_,n+1,.cons _ t=>Vals.drop n t
def RelO:Option V->Option Value->Prop
 | some v,some u=>RelV v u
 | none,none=>True
 | _,_=>False
def KV {κ:Type}:List (κ×V)->List (κ×Value)->Prop:=Paired fun (p:κ×V) (q:κ×Value)=>p.1=q.1/\RelV p.2 q.2
def kV:Key->V
 | .inl i=>.int i
 | .inr x=>.str x
inductive HO where
 | lst (xs:List V)
 | tup (xs:List V)
 | dK (kvs:List (Key×V)) | dT (kvs:List (List Key×V))
 | set (S:Int->Bool) (n:Nat)
 | ins (C dx:Addr) (fs:List (Str×V))
 | own (x:Addr)
 | xd (fs:List (Str×V))
 | met (f x:Addr)
 | rng (lo hi:Int)
 | frz (o:Obj) (u:HO)
 | tbl (ps:Array Value)
 | ext (φ:Heap->Prop)
abbrev Hp:=Addr->Option HO
def upd (H:Hp) (a:Addr) (o:HO):Hp:=fun b=>if b=a then some o else H b
def aB {H:Hp} {a:Addr} {o:HO}:upd H a o a=some o:=by unfold upd;rw [if_pos rfl]
def aG {H:Hp} {a b:Addr} {o:HO} (h:b≠a):upd H a o b=H b:=by unfold upd;rw [if_neg h]
def yQ {H:Hp} {a b:Addr} {o u:HO} (h:H a=some o) (h':H b=some u) (d:o≠u):a≠b:=by
 intro e;subst e;rw [h] at h';exact d (Option.some.inj h')
def b9 {H:Hp} {a b:Addr} {o:HO} (h:H a=some o) (h':H b=none):a≠b:=by
 intro e;subst e;rw [h] at h';cases h'
section
variable (P:Program) (w:World)
noncomputable def ObjOk (H:Hp) (h:Heap) (a:Addr):HO->Prop
 | .lst xs=>xs.length<=sizeLine/\∃ (its:List Value) (n:Nat),Vals xs its/\h.get? a=some {cls:=.type "list",data:=.seq its.toArray n}
 | .tup xs=>xs.length<=sizeLine/\∃ its:List Value,Vals xs its/\IsTup h a its.toArray
 | .dK kvs=>kvs.length<=sizeLine/\(a==sysModules)=false/\∃ vs,KV kvs vs/\h.DictOf (bf P w) a vs
 | .dT kvs=>kvs.length<=sizeLine/\(a==sysModules)=false/\∃ xs:List (List Key×Addr×Value),
     Paired (fun (p:List Key×V) (q:List Key×Addr×Value)=>p.1=q.1/\H q.2.1=some (.tup (p.1.map kV))/\RelV p.2 q.2.2) kvs xs∧
     ∃ o es ep,h.get? a=some o/\o.ExactDict/\o.data=.dict es ep/\es.toList=xs.map (entryOfKey (tupleKind (bf P w)))/\(xs.map (·.1)).Nodup
 | .set S n=>h.SetOf (intKind P w) a S n
 | .ins C dx fs=>H dx=some (.own a)/\fs.length<=1000/\dx≠a/\h.get? a=some (PySem.W.instObj C dx)∧
     ∃ mA,h.Ns1 dx mA/\(∀ f,RelO (fs.lookup f) (mA f))/\PySem.Within mA (fs.map (·.1))
 | .own _=>∃ o,h.get? a=some o
 | .xd fs=>∃ mA,h.Ns1 a mA/\∀ f,RelO (fs.lookup f) (mA f)
 | .rng lo hi=>∃ t u v,h.get? a=some {cls:=.type "range",data:=.fields #[.int lo t,.int hi u,.int 1 v]}
 | .frz o u=>h.get? a=some o/\ObjOk H h a u
 | .tbl ps=>h.get? a=some {cls:=.none,data:=.fields ps}
 | .met f x=>h.get? a=some (PySem.W.methodObj (.ref f) (.ref x))
 | .ext φ=>φ h/\(∃ o,h.get? a=some o)/\∀ h1 h2:Heap,φ h1->(∀ o,h1.get? a=some o->h2.get? a=some o)->φ h2
def HOk (H:Hp) (h:Heap):Prop:=∀ a o,H a=some o->ObjOk P w H h a o
end
section
variable {P:Program} {w:World} {H H':Hp} {h h':Heap} {a:Addr} {o:HO}
def ObjOk.lt (x:ObjOk P w H h a o):a<h.objs.size:=by
 cases o with
 | lst xs=>obtain ⟨_,_,_,_,e⟩:=x;exact Heap.lt_size e
 | tup xs=>obtain ⟨_,_,_,p⟩:=x;exact p.lt
 | dK kvs=>obtain ⟨_,_,_,_,o,_,_,e,_⟩:=x;exact Heap.lt_size e
 | dT kvs=>obtain ⟨_,_,_,_,o,_,_,e,_⟩:=x;exact Heap.lt_size e
 | set S n=>obtain ⟨o,_,_,_,e,_⟩:=x;exact Heap.lt_size e
 | ins C dx fs=>obtain ⟨_,_,_,e,_⟩:=x;exact Heap.lt_size e
 | own y=>obtain ⟨_,e⟩:=x;exact Heap.lt_size e
 | xd fs=>obtain ⟨_,⟨_,_,_,e,_⟩,_⟩:=x;exact Heap.lt_size e
 | rng lo hi=>obtain ⟨_,_,_,e⟩:=x;exact Heap.lt_size e
 | frz ob u=>obtain ⟨e,_⟩:=x;exact Heap.lt_size e
 | tbl ps=>exact Heap.lt_size (show h.get? a=some _ from x)
 | met f y=>exact Heap.lt_size (show h.get? a=some _ from x)
 | ext φ=>obtain ⟨_,⟨_,e⟩,_⟩:=x;exact Heap.lt_size e
def Paired.mapP {α β:Type} {F G:α->β->Prop}:∀ {l₁:List α} {l₂:List β},Paired F l₁ l₂->(∀ a b,F a b->G a b)->Paired G l₁ l₂
 | _,_,.nil,_=>.nil
 | _,_,.cons r t,f=>.cons (f _ _ r) (Paired.mapP t f)
def ObjOk.stay (x:ObjOk P w H h a o) (k:∀ b u,(b=a∨H b=some (.own a))->h.get? b=some u->h'.get? b=some u)
  (ho:∀ b,H b=some (.own a)->H' b=some (.own a)) (ht:∀ b xs,H b=some (.tup xs)->H' b=some (.tup xs)):ObjOk P w H' h' a o:=by
 induction o with
 | lst xs=>obtain ⟨z,its,n,r,e⟩:=x;exact ⟨z,its,n,r,k _ _ (.inl rfl) e⟩
 | tup xs=>obtain ⟨z,its,r,ob,e,c⟩:=x;exact ⟨z,its,r,ob,k _ _ (.inl rfl) e,c⟩
 | dK kvs=>obtain ⟨z,y,vs,r,ob,es,ep,e,c⟩:=x;exact ⟨z,y,vs,r,ob,es,ep,k _ _ (.inl rfl) e,c⟩
 | dT kvs =>
  obtain ⟨z,y,xs,r,ob,es,ep,e,c⟩:=x
  exact ⟨z,y,xs,Paired.mapP r fun p q z=>⟨z.1,ht _ _ z.2.1,z.2.2⟩,ob,es,ep,k _ _ (.inl rfl) e,c⟩
 | set S n=>obtain ⟨ob,es,ep,t,e,c⟩:=x;exact ⟨ob,es,ep,t,k _ _ (.inl rfl) e,c⟩
 | ins C dx fs =>
  obtain ⟨d,z,ne,e,mA,⟨od,es,ep,e2,c⟩,r⟩:=x
  exact ⟨ho _ d,z,ne,k _ _ (.inl rfl) e,mA,⟨od,es,ep,k _ _ (.inr d) e2,c⟩,r⟩
 | own y=>obtain ⟨ob,e⟩:=x;exact ⟨ob,k _ _ (.inl rfl) e⟩
 | xd fs=>obtain ⟨mA,⟨od,es,ep,e,c⟩,r⟩:=x;exact ⟨mA,⟨od,es,ep,k _ _ (.inl rfl) e,c⟩,r⟩
 | rng lo hi=>obtain ⟨t,u,v,e⟩:=x;exact ⟨t,u,v,k _ _ (.inl rfl) e⟩
 | frz ob u ih=>obtain ⟨e,q⟩:=x;exact ⟨k _ _ (.inl rfl) e,ih q⟩
 | tbl ps =>
  have e:h.get? a=some {cls:=.none,data:=.fields ps}:=x
  show h'.get? a=some {cls:=.none,data:=.fields ps}
  exact k a _ (.inl rfl) e
 | met f y =>
  have e:h.get? a=some (PySem.W.methodObj (.ref f) (.ref y)):=x
  show h'.get? a=some (PySem.W.methodObj (.ref f) (.ref y))
  exact k a _ (.inl rfl) e
 | ext φ=>obtain ⟨p,⟨o,e⟩,st⟩:=x;exact ⟨st _ _ p fun o q=>k _ _ (.inl rfl) q,⟨o,k _ _ (.inl rfl) e⟩,st⟩
def HOk.lt (x:HOk P w H h) (e:H a=some o):a<h.objs.size:=(x a o e).lt
def HOk.fresh (x:HOk P w H h) (e:h.objs.size<=a):H a=none:=by
 cases q:H a with
 | none=>rfl
 | some u=>exact absurd (Nat.lt_of_lt_of_le (x.lt q) e) (Nat.lt_irrefl _)
def HOk.kept (x:HOk P w H h) (k:∀ b u,h.get? b=some u->h'.get? b=some u):HOk P w H h':=fun a o e =>
 (x a o e).stay (fun b u _ q=>k b u q) (fun _ q=>q) fun _ _ q=>q
def HOk.laid (x:HOk P w H h) (k:∀ b u,h.get? b=some u->h'.get? b=some u) (hp:h.objs.size<=a) (new:ObjOk P w (upd H a o) h' a o):HOk P w (upd H a o) h':=fun b u e=>by
 have hn:=x.fresh hp
 by_cases hb:b=a
 · subst hb;rw [aB] at e;cases e;exact new
 · rw [aG hb] at e
   exact (x b u e).stay (fun c v _ q=>k c v q) (fun c q=>by rw [aG (b9 q hn)];exact q) fun c xs q=>by rw [aG (b9 q hn)];exact q
end
def Rd (H:Hp) (a:Addr) (u:HO):Prop:=H a=some u∨∃ o,H a=some (.frz o u)
def Rd.ok {P:Program} {w:World} {H:Hp} {h:Heap} {a:Addr} {u:HO} (r:Rd H a u) (x:HOk P w H h):ObjOk P w H h a u:=by
 rcases r with r | ⟨o,r⟩
 · exact x a u r
 · obtain ⟨_,q⟩:=x a _ r
   exact q
def Mut:Option HO->Prop
 | some (.lst _)=>True
 | some (.dK _)=>True
 | some (.dT _)=>True
 | some (.set _ _)=>True
 | some (.ins _ _ _)=>True
 | some (.ext _)=>True
 | _=>False
section
variable {P:Program} {w:World} {H:Hp} {h h':Heap} {x e:Addr} {o':HO}
def HOk.write (ok:HOk P w H h) (mu:Mut (H x)) (he:e=x∨H e=some (.own x)) (k:∀ b u,b≠e->h.get? b=some u->h'.get? b=some u) (heo:∃ u,h'.get? e=some u)
  (new:ObjOk P w (upd H x o') h' x o'):HOk P w (upd H x o') h':=fun b u q=>by
 have nown:∀ c y,H c=some (.own y)->c≠x:=fun c y r z=>by subst z;rw [r] at mu;exact mu
 have ntup:∀ c xs,H c=some (.tup xs)->c≠x:=fun c xs r z=>by subst z;rw [r] at mu;exact mu
 by_cases hb:b=x
 · subst hb;rw [aB] at q;cases q;exact new
 · rw [aG hb] at q
   by_cases hbe:b=e
   · have q':H b=some (.own x):=by
      rcases he with z | z
      · exact absurd (hbe.trans z) hb
      · rw [hbe];exact z
     rw [q] at q';cases q'
     obtain ⟨v,hv⟩:=heo
     exact ⟨v,by rw [hbe];exact hv⟩
   · refine (ok b u q).stay (fun c v hc r=>k c v ?_ r) (fun c r=>by rw [aG (nown c b r)];exact r) fun c xs r=>by rw [aG (ntup c xs r)];exact r
     rcases hc with rfl | hc
     · exact hbe
     · rintro rfl
       rcases he with z | z
       · exact nown c b hc z
       · rw [hc] at z;cases z;exact hb rfl
end
structure Un (fs ex:List Addr) (H H':Hp) (h h':Heap):Prop where
 keep:∀ b o,h.get? b=some o->H b=none->b∉fs->b∉ex->h'.get? b=some o
 slot:∀ b o,h.get? b=some o->H b=none->b∈fs->b∉ex->∃ sl,h'.get? b=some {o with slots:=sl}
 free:∀ b o,h.get? b=some o->H b=none->b∉ex->H' b=none
 there:∀ b o,h.get? b=some o->b∉ex->∃ o',h'.get? b=some o'
 tups:∀ b xs,H b=some (.tup xs)->H' b=some (.tup xs)
 frzs:∀ b o u,H b=some (.frz o u)->H' b=some (.frz o u)
 tbls:∀ b ps,H b=some (.tbl ps)->∃ more,H' b=some (.tbl (ps++more))
section
variable {fs fs' ex ex':List Addr} {H H1 H2:Hp} {h h1 h2 h':Heap} {a x e:Addr} {o:HO}
def Un.any (u:Un fs ex H H1 h h1) {b:Addr} {ob:Obj} (q:h.get? b=some ob) (n:H b=none) (hx:b∉ex):∃ sl,h1.get? b=some {ob with slots:=sl}:=by
 by_cases hb:b∈fs
 · exact u.slot b ob q n hb hx
 · exact ⟨ob.slots,u.keep b ob q n hb hx⟩
def Un.trans (a:Un fs ex H H1 h h1) (b:Un fs ex H1 H2 h1 h2):Un fs ex H H2 h h2 where
 keep:=fun c ob q n hc hx=>b.keep c ob (a.keep c ob q n hc hx) (a.free c ob q n hx) hc hx
 slot:=fun c ob q n hc hx=>by
  obtain ⟨sl,e1⟩:=a.slot c ob q n hc hx
  obtain ⟨sl',e2⟩:=b.slot c _ e1 (a.free c ob q n hx) hc hx
  exact ⟨sl',e2⟩
 free:=fun c ob q n hx=>by
  obtain ⟨o',e1⟩:=a.there c ob q hx
  exact b.free c o' e1 (a.free c ob q n hx) hx
 there:=fun c ob q hx=>by
  obtain ⟨o',e1⟩:=a.there c ob q hx
  exact b.there c o' e1 hx
 tups:=fun c xs q=>b.tups c xs (a.tups c xs q)
 frzs:=fun c ob xs q=>b.frzs c ob xs (a.frzs c ob xs q)
 tbls:=fun c ps q=>by
  obtain ⟨m1,e1⟩:=a.tbls c ps q
  obtain ⟨m2,e2⟩:=b.tbls c _ e1
  exact ⟨m1++m2,by rw [e2,Array.append_assoc]⟩
def Un.kept (k:∀ b u,h.get? b=some u->h'.get? b=some u):Un fs ex H H h h':=
 ⟨fun b ob q _ _ _=>k b ob q,fun b ob q _ _ _=>⟨ob.slots,k b ob q⟩,fun _ _ _ n _=>n,fun b ob q _=>⟨ob,k b ob q⟩,fun _ _ q=>q,fun _ _ _ q=>q,fun _ ps q=>⟨#[],by rw [q];simp⟩⟩
def Un.refl:Un fs ex H H h h:=Un.kept fun _ _ q=>q
def Un.laid (k:∀ b u,h.get? b=some u->h'.get? b=some u) (hp:h.objs.size<=a) (hn:H a=none):Un fs ex H (upd H a o) h h' where
 keep:=fun b u q _ _ _=>k b u q
 slot:=fun b u q _ _ _=>⟨u.slots,k b u q⟩
 free:=fun b u q n _=>by rw [aG (Nat.ne_of_lt (Nat.lt_of_lt_of_le (Heap.lt_size q) hp))];exact n
 there:=fun b u q _=>⟨u,k b u q⟩
 tups:=fun b xs q=>by rw [aG (b9 q hn)];exact q
 frzs:=fun b u xs q=>by rw [aG (b9 q hn)];exact q
 tbls:=fun b ps q=>⟨#[],by rw [aG (b9 q hn),q];simp⟩
def Un.write (mu:Mut (H x)) (he:e=x∨H e=some (.own x)) (k:∀ b u,b≠e->h.get? b=some u->h'.get? b=some u) (heo:∃ u,h'.get? e=some u):Un fs ex H (upd H x o) h h':=by
 have hx:∀ b,H b=none->b≠x:=fun b n z=>by subst z;rw [n] at mu;exact mu
 have hb:∀ b,H b=none->b≠e:=fun b n z=>by
  subst z
  rcases he with r | r
  · exact hx b n r
  · rw [n] at r;cases r
 have hm:∀ b u,H b=some u->¬ Mut (some u)->b≠x:=fun b u q nm z=>by subst z;rw [q] at mu;exact nm mu
 refine ⟨fun b u q n _ _=>k b u (hb b n) q,fun b u q n _ _=>⟨u.slots,k b u (hb b n) q⟩,fun b u q n _=>by rw [aG (hx b n)];exact n,fun b u q _=>?_,
  fun b xs q=>by rw [aG (hm b _ q fun z=>z)];exact q,fun b u xs q=>by rw [aG (hm b _ q fun z=>z)];exact q,fun b ps q=>⟨#[],by rw [aG (hm b _ q fun z=>z),q];simp⟩⟩
 by_cases hbe:b=e
 · subst hbe;exact heo
 · exact ⟨u,k b u hbe q⟩
end
def trk (h:Heap) (H:Hp):List Addr:=(List.range h.objs.size).filter fun a=>(H a).isSome
def lE (h:Heap) (H:Hp):Heap:=PySem.W.hideAll h (trk h H)
def qK (h:Heap) (H:Hp):(lE h H).objs.size=h.objs.size:=PySem.W.hideAll_size _ _
def rQ {h:Heap} {H:Hp} {b:Addr} {o:Obj} (e:h.get? b=some o) (n:H b=none):(lE h H).get? b=some o:=
 PySem.W.hideAll_get _ e fun hm=>by
  have q:(H b).isSome=true:=(List.mem_filter.mp hm).2
  rw [n] at q;simp at q
def uW {h:Heap} {H:Hp} {b:Addr} {o:Obj} (e:(lE h H).get? b=some o):h.get? b=some o/\H b=none:=by
 have e':h.get? b=some o:=PySem.W.of_hideAll (trk h H) e
 refine ⟨e',?_⟩
 cases q:H b with
 | none=>rfl
 | some x =>
  have hm:b∈trk h H:=List.mem_filter.mpr ⟨List.mem_range.mpr (Heap.lt_size e'),by simp [q]⟩
  have z:(lE h H).get? b=none:=PySem.W.hideAll_none (trk h H) hm
  rw [z] at e;cases e
def uX (g h:Heap) (L:Addr):List (Addr×Obj):=(List.range h.objs.size).filterMap fun a=>if a=L∨(g.get? a).isSome=true then none else (h.get? a).map fun o=>(a,o)
def rest (g h:Heap) (L d:Addr):List (Addr×Obj):=(uX g h L).filter fun p=>decide (p.1≠d)
structure Mod (K:PySem.W.Frag) (mg:Str->Option Value) (base:Heap):Prop where
 kin:K.In base
 glob:base.Ns mainGlobals mg
 blt:∃ mb,base.Ns builtinsNs mb/\∀ x:Str,x≠"__name__"->mb x=bootBuiltins x
 nolimit:base.NoLimit
structure Cx where
 prog:Program
 w:World
 K:PySem.W.Frag
 mg:Str->Option Value
 base:Heap
 A:Around
 N:List Str
 s₀:Shared
 H₀:Hp
 env:Env
 outer:List Env
 stack:List Env
 ex:List Addr
 fn:Str->Bool
 calm:Bool
 pn:List (Addr×Obj)
 xe:Value->Shared->Prop
def frs (l:List Env):List Addr:=l.filterMap (·.frame)
abbrev Cx.fs (X:Cx):List Addr:=frs X.outer
def Vis (sc:Scope) (x:Str):Prop:=sc.names.lookup x=some .local∨sc.names.lookup x=some .cell∨sc.names.lookup x=some .free
def Loc (sc:Scope) (x:Str):Prop:=sc.names.lookup x=some .local∨sc.names.lookup x=some .cell
noncomputable def Look (env:Env) (h:Heap) (m:Str->Option Value) (x:Str) (u:Value):Prop:=
 (env.kindOf x=some .local/\m x=some u)∨((env.kindOf x=some .cell∨env.kindOf x=some .free)/\∃ c,env.cells.lookup x=some c/\h.IsCell c (some u))
structure Cx.Ok (X:Cx):Prop where
 mod:Mod X.K X.mg X.base
 kind:X.env.scope.kind=.function
 glob:X.env.globals=mainGlobals
 blt:X.env.builtins=builtinsNs
 above:X.s₀.heap.objs.size<=X.env.locals
 inj:∀ x y c,X.env.cells.lookup x=some c->X.env.cells.lookup y=some c->x=y
 has:∀ x,(X.env.kindOf x=some .cell∨X.env.kindOf x=some .free)->∃ c,X.env.cells.lookup x=some c
 cab:∀ x c,X.fn x=true->X.env.cells.lookup x=some c->X.s₀.heap.objs.size<=c
 hd:X.calm=true->X.A.handled=none
 frames:X.A.frames=some X.stack
 stk:X.stack=X.outer∨(X.stack=X.env::X.outer/\X.env.frame=some X.env.locals)
 exf:∀ b∈X.ex,b≠X.env.locals/\∀ x c,X.env.cells.lookup x=some c->c≠b
 bs:∀ b o,X.base.get? b=some o->X.s₀.heap.get? b=some o/\X.H₀ b=none
 bsz:X.base.objs.size<=X.s₀.heap.objs.size
 noex:∀ b o,X.base.get? b=some o->b∉X.ex
 exfs:∀ b∈X.ex,b∉X.fs
 funs:X.s₀.heap.FunFrames X.base X.outer
 frf:∀ b∈X.fs,X.H₀ b=none
structure Inv (X:Cx) (pins:List (Addr×Obj)) (σ:List (Option V)) (H:Hp) (s:Shared):Prop where
 ok:X.Ok
 os:s.os=X.s₀.os
 bare:AllBare s.gens
 base:Un X.fs X.ex X.H₀ H X.s₀.heap s.heap
 loc:∃ m,s.heap.Ns X.env.locals m/\∀ (i:Nat) (x:Str) (v:V),X.N[i]?=some x->σ[i]?=some (some v)->Vis X.env.scope x->∃ u,RelV v u/\Look X.env s.heap m x u
 cell:∀ x c,X.env.cells.lookup x=some c->∃ v,s.heap.IsCell c v
 free:H X.env.locals=none
 freeC:∀ x c,X.env.cells.lookup x=some c->H c=none
 pin:∀ p∈X.pn++pins,s.heap.get? p.1=some p.2/\H p.1=none/\p.1≠X.env.locals/\p.1∉X.fs/\∀ v,p.2.data≠.cell v
 hok:HOk X.prog X.w H s.heap
 len:σ.length=X.N.length
section
variable {X:Cx} {pins:List (Addr×Obj)} {σ:List (Option V)} {H H':Hp} {s:Shared} {h':Heap}
def Cx.Ok.nofr (ok:X.Ok) {b:Addr} {o:Obj} (e:X.base.get? b=some o):b∉X.fs:=fun hb=>by
 have:=(ok.funs.mem hb).1
 rw [e] at this;cases this
def Inv.bs (I:Inv X pins σ H s):∀ b o,X.base.get? b=some o->s.heap.get? b=some o/\H b=none:=fun b o e =>
 ⟨I.base.keep b o (I.ok.bs b o e).1 (I.ok.bs b o e).2 (I.ok.nofr e) (I.ok.noex b o e),I.base.free b o (I.ok.bs b o e).1 (I.ok.bs b o e).2 (I.ok.noex b o e)⟩
def Inv.bk (I:Inv X pins σ H s):∀ b o,X.base.get? b=some o->s.heap.get? b=some o:=fun b o e=>(I.bs b o e).1
def Inv.mod (I:Inv X pins σ H s):Mod X.K X.mg X.base:=I.ok.mod
def Inv.kIn (I:Inv X pins σ H s):X.K.In s.heap:=I.ok.mod.kin.keeps I.bk
def Inv.fr (I:Inv X pins σ H s):∃ m,Fr X.base X.env.locals s.heap m:=
 let ⟨m,hn,_⟩:=I.loc
 ⟨m,hn,I.bk,Nat.le_trans I.ok.bsz I.ok.above⟩
def Inv.lt (I:Inv X pins σ H s):X.env.locals<s.heap.objs.size:=let ⟨_,hn,_⟩:=I.loc;hn.lt
def Inv.sz (I:Inv X pins σ H s):X.s₀.heap.objs.size<=s.heap.objs.size:=Nat.le_trans I.ok.above (Nat.le_of_lt I.lt)
def Inv.nofs (I:Inv X pins σ H s) {a:Addr} (h:s.heap.objs.size<=a):a∉X.fs:=fun hb=>by
 obtain ⟨_,o,ho,_⟩:=I.ok.funs.mem hb
 exact absurd (Nat.lt_of_lt_of_le (Heap.lt_size ho) (Nat.le_trans I.sz h)) (Nat.lt_irrefl _)
def Inv.cne (I:Inv X pins σ H s):∀ x c,X.env.cells.lookup x=some c->c≠X.env.locals:=fun x c e z=>by
 obtain ⟨v,o,ho,hd⟩:=I.cell x c e
 obtain ⟨m,⟨o',es,ep,ho',hd',_⟩,_⟩:=I.loc
 rw [z,ho'] at ho;cases ho;rw [hd'] at hd;cases hd
def Inv.funs (I:Inv X pins σ H s):s.heap.FunFrames X.base X.outer:=by
 have all:∀ (l:List Env),(∀ b∈frs l,b∈X.fs)->X.s₀.heap.FunFrames X.base l->s.heap.FunFrames X.base l:=by
  intro l
  induction l with
  | nil=>intro _ _;trivial
  | cons env r ih =>
   intro hs hl
   obtain ⟨hk,⟨L,o,hf,hn,ho,hd⟩,hr⟩:=hl
   have hL:L∈X.fs:=hs L (by unfold frs;rw [List.filterMap_cons,hf];exact List.mem_cons_self)
   obtain ⟨sl,e⟩:=I.base.slot L o ho (I.ok.frf L hL) hL fun z=>I.ok.exfs L z hL
   exact ⟨hk,⟨L,_,hf,hn,e,hd⟩,ih (fun b hb=>hs b (by unfold frs;rw [List.filterMap_cons,hf];exact List.mem_cons_of_mem _ hb)) hr⟩
 exact all X.outer (fun _ hb=>hb) I.ok.funs
def Inv.stack (I:Inv X pins σ H s):s.heap.FunFrames X.base X.stack:=by
 rcases I.ok.stk with e | ⟨e,hf⟩
 · rw [e];exact I.funs
 · rw [e]
   obtain ⟨m,hn,_⟩:=I.loc
   refine .cons (by rw [I.ok.kind];decide) hf hn ?_ I.funs
   exact Heap.get?_none_of_le (Nat.le_trans I.ok.bsz I.ok.above)
def Inv.stkSub (I:Inv X pins σ H s):∀ b∈frs X.stack,b∈X.env.locals::X.fs:=fun b hb=>by
 rcases I.ok.stk with e | ⟨e,hf⟩
 · rw [e] at hb;exact List.mem_cons_of_mem _ hb
 · rw [e] at hb
   unfold frs at hb
   rw [List.filterMap_cons,hf] at hb
   exact hb
def Inv.stkFree (I:Inv X pins σ H s):∀ b∈frs X.stack,H b=none:=fun b hb=>by
 rcases List.mem_cons.mp (I.stkSub b hb) with e | hb
 · rw [e];exact I.free
 · obtain ⟨_,o,ho,_⟩:=I.ok.funs.mem hb
   exact I.base.free b o ho (I.ok.frf b hb) fun z=>I.ok.exfs b z hb
def Inv.step {g':Array GenState} {t':Nat} {d':Drawn} {ch:List Addr} (I:Inv X pins σ H s)
  (hch:∀ b∈ch,(b∈X.ex∨X.s₀.heap.objs.size<=b)/\b≠X.env.locals/\(∀ x c,X.env.cells.lookup x=some c->c≠b)/\∀ p∈X.pn++pins,p.1≠b)
  (keep:∀ b o,b≠X.env.locals->b∉X.fs->b∉ch->s.heap.get? b=some o->H b=none->h'.get? b=some o)
  (slot:∀ b o,b≠X.env.locals->b∈X.fs->b∉ch->s.heap.get? b=some o->H b=none->∃ sl,h'.get? b=some {o with slots:=sl}) (free:∀ b o,b∉ch->s.heap.get? b=some o->H b=none->H' b=none)
  (there:∀ b o,b∉ch->s.heap.get? b=some o->∃ o',h'.get? b=some o')
  (tups:∀ b xs,H b=some (.tup xs)->H' b=some (.tup xs)) (frzs:∀ b o u,H b=some (.frz o u)->H' b=some (.frz o u)) (tbls:∀ b ps,H b=some (.tbl ps)->∃ more,H' b=some (.tbl (ps++more)))
  (ns:∀ m,s.heap.Ns X.env.locals m->h'.Ns X.env.locals m) (hok:HOk X.prog X.w H' h') (hg:AllBare g') :
  Inv X pins σ H' {s with heap:=h',gens:=g',drawn:=d',toks:=t'}:=by
 have neL:∀ b o,X.s₀.heap.get? b=some o->b≠X.env.locals:=fun b o e=>Nat.ne_of_lt (Nat.lt_of_lt_of_le (Heap.lt_size e) I.ok.above)
 have neC:∀ b o,X.s₀.heap.get? b=some o->b∉X.ex->b∉ch:=fun b o e hx hb=>by
  rcases (hch b hb).1 with z | z
  · exact hx z
  · exact absurd (Nat.lt_of_lt_of_le (Heap.lt_size e) z) (Nat.lt_irrefl _)
 have cellK:∀ x c,X.env.cells.lookup x=some c->∀ v,s.heap.IsCell c v->h'.IsCell c v:=fun x c e v ⟨o,ho,hd⟩=>by
  have nch:c∉ch:=fun z=>(hch c z).2.2.1 x c e rfl
  by_cases hc:c∈X.fs
  · obtain ⟨sl,q⟩:=slot c o (I.cne x c e) hc nch ho (I.freeC x c e)
    exact ⟨_,q,hd⟩
  · exact ⟨o,keep c o (I.cne x c e) hc nch ho (I.freeC x c e),hd⟩
 refine ⟨I.ok,I.os,hg,⟨fun b o e n hb hx=>?_,fun b o e n hb hx=>?_,fun b o e n hx=>?_,fun b o e hx=>?_,fun b xs e=>tups b xs (I.base.tups b xs e),fun b o xs e=>frzs b o xs (I.base.frzs b o xs e),fun b ps e=>?_⟩,?_,fun x c e=>?_,?_,fun x c e=>?_,fun p hp=>?_,hok,I.len⟩
 · exact keep b o (neL b o e) hb (neC b o e hx) (I.base.keep b o e n hb hx) (I.base.free b o e n hx)
 · obtain ⟨sl,e1⟩:=I.base.slot b o e n hb hx
   obtain ⟨sl',e2⟩:=slot b _ (neL b o e) hb (neC b o e hx) e1 (I.base.free b o e n hx)
   exact ⟨sl',e2⟩
 · obtain ⟨o',e1⟩:=I.base.there b o e hx
   exact free b o' (neC b o e hx) e1 (I.base.free b o e n hx)
 · obtain ⟨o',e1⟩:=I.base.there b o e hx
   exact there b o' (neC b o e hx) e1
 · obtain ⟨m1,e1⟩:=I.base.tbls b ps e
   obtain ⟨m2,e2⟩:=tbls b _ e1
   exact ⟨m1++m2,by rw [e2,Array.append_assoc]⟩
 · obtain ⟨m,hn,hl⟩:=I.loc
   refine ⟨m,ns m hn,fun i x v e1 e2 e3=>?_⟩
   obtain ⟨u,r,l⟩:=hl i x v e1 e2 e3
   refine ⟨u,r,?_⟩
   rcases l with l | ⟨k,c,e,z⟩
   · exact .inl l
   · exact .inr ⟨k,c,e,cellK x c e _ z⟩
 · obtain ⟨v,z⟩:=I.cell x c e
   exact ⟨v,cellK x c e v z⟩
 · obtain ⟨m,⟨o,_,_,ho,_⟩,_⟩:=I.loc
   exact free _ o (fun z=>(hch _ z).2.1 rfl) ho I.free
 · obtain ⟨v,o,ho,hd⟩:=I.cell x c e
   exact free c o (fun z=>(hch c z).2.2.1 x c e rfl) ho (I.freeC x c e)
 · obtain ⟨e,n,ne,nf,d⟩:=I.pin p hp
   have nch:p.1∉ch:=fun z=>(hch p.1 z).2.2.2 p hp rfl
   exact ⟨keep p.1 p.2 ne nf nch e n,free p.1 p.2 nch e n,ne,nf,d⟩
def Inv.un {t':Nat} (I:Inv X pins σ H s) (u:Un X.fs [] H H' s.heap h') (hok:HOk X.prog X.w H' h'):Inv X pins σ H' {s with heap:=h',toks:=t'}:=by
 obtain ⟨m,⟨o,es,ep,ho,r⟩,_⟩:=id I.loc
 obtain ⟨sl,hL⟩:=u.any ho I.free (by simp)
 exact I.step (g':=s.gens) (d':=s.drawn) (ch:=[]) (fun _ z=>nomatch z) (fun b o _ hb _ e n=>u.keep b o e n hb (by simp)) (fun b o _ hb _ e n=>u.slot b o e n hb (by simp)) (fun b o _ e n=>u.free b o e n (by simp)) (fun b o _ e=>u.there b o e (by simp)) u.tups u.frzs u.tbls (fun m' hm=>by
  obtain ⟨o',es',ep',ho',r'⟩:=hm
  rw [ho] at ho';cases ho'
  exact ⟨_,es',ep',hL,r'⟩) hok I.bare
def Inv.call {g':Array GenState} {t':Nat} {d':Drawn} {ch:List Addr} (I:Inv X pins σ H s) (u:Un (frs X.stack) ch H H' s.heap h') (hok:HOk X.prog X.w H' h') (hg:AllBare g')
  (hch:∀ b∈ch,(b∈X.ex∨X.s₀.heap.objs.size<=b)/\b≠X.env.locals/\(∀ x c,X.env.cells.lookup x=some c->c≠b)/\∀ p∈X.pn++pins,p.1≠b) :
  Inv X pins σ H' {s with heap:=h',gens:=g',drawn:=d',toks:=t'}:=by
 obtain ⟨m,⟨o,es,ep,ho,r⟩,_⟩:=id I.loc
 obtain ⟨sl,hL⟩:=u.any ho I.free fun z=>(hch _ z).2.1 rfl
 exact I.step (ch:=ch) hch (fun b o hL hb hc e n=>u.keep b o e n (fun z=>(List.mem_cons.mp (I.stkSub b z)).elim hL hb) hc) (fun b o _ _ hc e n=>u.any e n hc) (fun b o hc e n=>u.free b o e n hc) (fun b o hc e=>u.there b o e hc) u.tups u.frzs u.tbls (fun m' hm=>by
  obtain ⟨o',es',ep',ho',r'⟩:=hm
  rw [ho] at ho';cases ho'
  exact ⟨_,es',ep',hL,r'⟩) hok hg
def Inv.turned {t':Nat} {it:Addr} (I:Inv X pins σ H s) (k:∀ b o,b≠it->s.heap.get? b=some o->h'.get? b=some o) (hn:H it=none) (hL:it≠X.env.locals)
  (h1:it∈X.ex∨X.s₀.heap.objs.size<=it) (h2:∀ x c,X.env.cells.lookup x=some c->c≠it) (h3:∀ p∈X.pn++pins,p.1≠it):Inv X pins σ H {s with heap:=h',toks:=t'}:=by
 have nit:∀ b u,H b=some u->b≠it:=fun b u e z=>by rw [z,hn] at e;cases e
 refine I.step (g':=s.gens) (d':=s.drawn) (ch:=[it]) (fun b hb=>?_) (fun b o _ _ hc e _=>k b o (fun z=>hc (by simp [z])) e) (fun b o _ _ hc e _=>⟨o.slots,k b o (fun z=>hc (by simp [z])) e⟩) (fun _ _ _ _ n=>n)
  (fun b o hc e=>⟨o,k b o (fun z=>hc (by simp [z])) e⟩) (fun _ _ e=>e) (fun _ _ _ e=>e) (fun b ps e=>⟨#[],by rw [e];simp⟩) (fun m hm=>?_) (fun b u e=>?_) I.bare
 · have e:b=it:=by simpa using hb
   subst e
   exact ⟨h1,hL,h2,h3⟩
 · obtain ⟨o,es,ep,ho,r⟩:=hm
   exact ⟨o,es,ep,k _ o (Ne.symm hL) ho,r⟩
 · refine (I.hok b u e).stay (fun c v hc q=>k c v ?_ q) (fun _ q=>q) fun _ _ q=>q
   rcases hc with z | z
   · rw [z];exact nit b u e
   · exact nit c _ z
def Inv.tok (I:Inv X pins σ H s) (t:Nat):Inv X pins σ H {s with toks:=t}:=I.un (h':=s.heap) (t':=t) Un.refl I.hok
def Inv.kept {t':Nat} (I:Inv X pins σ H s) (k:∀ b u,s.heap.get? b=some u->h'.get? b=some u):Inv X pins σ H {s with heap:=h',toks:=t'}:=I.un (Un.kept k) (I.hok.kept k)
def Inv.laid {a:Addr} {o:HO} {t':Nat} (I:Inv X pins σ H s) (k:∀ b u,s.heap.get? b=some u->h'.get? b=some u) (hp:s.heap.objs.size<=a) (new:ObjOk X.prog X.w (upd H a o) h' a o) :
  Inv X pins σ (upd H a o) {s with heap:=h',toks:=t'}:=I.un (Un.laid k hp (I.hok.fresh hp)) (I.hok.laid k hp new)
def Inv.write {x e:Addr} {o:HO} {t':Nat} (I:Inv X pins σ H s) (mu:Mut (H x)) (he:e=x∨H e=some (.own x)) (k:∀ b u,b≠e->s.heap.get? b=some u->h'.get? b=some u) (heo:∃ u,h'.get? e=some u)
  (new:ObjOk X.prog X.w (upd H x o) h' x o):Inv X pins σ (upd H x o) {s with heap:=h',toks:=t'}:=I.un (Un.write mu he k heo) (I.hok.write mu he k heo new)
def Inv.weak {σ':List (Option V)} (I:Inv X pins σ H s) (hl:σ'.length=σ.length) (w:∀ (i:Nat) v,σ'[i]?=some (some v)->σ[i]?=some (some v)):Inv X pins σ' H s:=
 ⟨I.ok,I.os,I.bare,I.base,let ⟨m,hn,hl'⟩:=I.loc;⟨m,hn,fun i x v e1 e2 e3=>hl' i x v e1 (w i v e2) e3⟩,I.cell,I.free,I.freeC,I.pin,I.hok,hl.trans I.len⟩
def Inv.pins_of {pins':List (Addr×Obj)} (I:Inv X pins σ H s) (h:∀ p∈pins',s.heap.get? p.1=some p.2/\H p.1=none/\p.1≠X.env.locals/\p.1∉X.fs/\∀ v,p.2.data≠.cell v):Inv X pins' σ H s:=
 ⟨I.ok,I.os,I.bare,I.base,I.loc,I.cell,I.free,I.freeC,fun p hp=>(List.mem_append.mp hp).elim (fun z=>I.pin p (List.mem_append_left _ z)) (h p),I.hok,I.len⟩
def mK {N:List Str} (hN:N.Nodup) {i j:Nat} {x:Str} (a:N[i]?=some x) (b:N[j]?=some x):i=j:=by
 obtain ⟨h1,e1⟩:=gX a
 obtain ⟨h2,e2⟩:=gX b
 exact (List.getElem_inj hN).mp (e1.trans e2.symm)
def ki {M:Model} {A:Around} {E:Value->Shared->Prop} {i:Nat} {x:Str} {v:V} {u:Value} {Q:Unit->Shared->Prop} (I:Inv X pins σ H s) (hN:X.N.Nodup) (hi:X.N[i]?=some x) (hx:Loc X.env.scope x) (r:RelV v u)
  (h:∀ s',Inv X pins (σ.set i (some v)) H s'->(∃ a,Heap.SameBut a s.heap s'.heap/\(a=X.env.locals∨X.env.cells.lookup x=some a))->Q () s') (hf:X.fn x=true∨X.env.scope.names.lookup x=some .local:=by first | exact .inl rfl | exact .inr rfl | assumption):wpAny M A (storeName X.env x u) Q E s:=by
 obtain ⟨m,hn,hl⟩:=id I.loc
 have hcls:(X.env.scope.kind==.class||(X.env.scope.kind==.module&&X.env.locals != X.env.globals))=false:=by rw [I.ok.kind];rfl
 have hiσ:i<σ.length:=by rw [I.len];exact (gX hi).1
 have cne:=I.cne
 have tracked:∀ {a:Addr} {h':Heap},(∃ o,s.heap.get? a=some o/\H a=none)->Heap.SameBut a s.heap h'->HOk X.prog X.w H h':=fun {a h'} ha hs b ob e=>by
  obtain ⟨_,_,hfree⟩:=ha
  refine (I.hok b ob e).stay (fun c w' hc q=>(hs.2 c ?_).trans q) (fun _ q=>q) fun _ _ q=>q
  rintro rfl
  rcases hc with rfl | hc
  · rw [hfree] at e;cases e
  · rw [hfree] at hc;cases hc
 rcases hx with hk | hk
 · refine wpAny_storeName_local hk hn (fun h' hn' hs=>?_) hcls
   obtain ⟨oL,_,_,hoL,_⟩:=id hn
   refine h _ ⟨I.ok,I.os,I.bare,⟨fun b o e n hb hx=>?_,fun b o e n hb hx=>?_,I.base.free,fun b o e hx=>?_,I.base.tups,I.base.frzs,I.base.tbls⟩,⟨_,hn',fun j y v' e1 e2 e3=>?_⟩,fun y c e=>?_,I.free,I.freeC,fun p hp=>?_,tracked ⟨oL,hoL,I.free⟩ hs,by simpa using I.len⟩ ⟨_,hs,.inl rfl⟩
   · exact (hs.2 b (Nat.ne_of_lt (Nat.lt_of_lt_of_le (Heap.lt_size e) I.ok.above))).trans (I.base.keep b o e n hb hx)
   · obtain ⟨sl,e1⟩:=I.base.slot b o e n hb hx
     exact ⟨sl,(hs.2 b (Nat.ne_of_lt (Nat.lt_of_lt_of_le (Heap.lt_size e) I.ok.above))).trans e1⟩
   · obtain ⟨o',e1⟩:=I.base.there b o e hx
     exact ⟨o',(hs.2 b (Nat.ne_of_lt (Nat.lt_of_lt_of_le (Heap.lt_size e) I.ok.above))).trans e1⟩
   · by_cases hj:j=i
     · subst hj
       rw [hi] at e1;cases e1
       rw [List.getElem?_set_self hiσ] at e2
       cases e2
       exact ⟨u,r,.inl ⟨hk,by simp⟩⟩
     · rw [gN (Ne.symm hj)] at e2
       obtain ⟨u',r',q⟩:=hl j y v' e1 e2 e3
       refine ⟨u',r',?_⟩
       rcases q with ⟨k,e⟩ | ⟨k,c,e,z⟩
       · refine .inl ⟨k,?_⟩
         have:y≠x:=fun e=>hj (mK hN e1 (e▸hi))
         simp [this,e]
       · exact .inr ⟨k,c,e,z.sameBut hs (cne y c e)⟩
   · obtain ⟨w',z⟩:=I.cell y c e
     exact ⟨w',z.sameBut hs (cne y c e)⟩
   · obtain ⟨e,n,ne,nf,d⟩:=I.pin p hp
     exact ⟨(hs.2 p.1 ne).trans e,n,ne,nf,d⟩
 · have hfn:X.fn x=true:=by
    rcases hf with z | z
    · exact z
    · rw [z] at hk;cases hk
   obtain ⟨c,hc⟩:=I.ok.has x (.inl hk)
   obtain ⟨w',z⟩:=I.cell x c hc
   refine wpAny_storeName_cell I.ok.kind hk hc z (fun h' hc' hs=>?_)
   obtain ⟨oc,hoc,hocd⟩:=id z
   refine h {s with heap:=h'} ⟨I.ok,I.os,I.bare,⟨fun b o e n hb hx=>?_,fun b o e n hb hx=>?_,I.base.free,fun b o e hx=>?_,I.base.tups,I.base.frzs,I.base.tbls⟩,⟨m,hn.sameBut hs (Ne.symm (cne x c hc)),fun j y v' e1 e2 e3=>?_⟩,fun y c' e=>?_,I.free,I.freeC,fun p hp=>?_,tracked ⟨oc,hoc,I.freeC x c hc⟩ hs,by simpa using I.len⟩ ⟨c,hs,.inr hc⟩
   · exact (hs.2 b (Nat.ne_of_lt (Nat.lt_of_lt_of_le (Heap.lt_size e) (I.ok.cab x c hfn hc)))).trans (I.base.keep b o e n hb hx)
   · obtain ⟨sl,e1⟩:=I.base.slot b o e n hb hx
     exact ⟨sl,(hs.2 b (Nat.ne_of_lt (Nat.lt_of_lt_of_le (Heap.lt_size e) (I.ok.cab x c hfn hc)))).trans e1⟩
   · obtain ⟨o',e1⟩:=I.base.there b o e hx
     exact ⟨o',(hs.2 b (Nat.ne_of_lt (Nat.lt_of_lt_of_le (Heap.lt_size e) (I.ok.cab x c hfn hc)))).trans e1⟩
   · by_cases hj:j=i
     · subst hj
       rw [hi] at e1;cases e1
       rw [List.getElem?_set_self hiσ] at e2
       cases e2
       exact ⟨u,r,.inr ⟨.inl hk,c,hc,hc'⟩⟩
     · rw [gN (Ne.symm hj)] at e2
       obtain ⟨u',r',q⟩:=hl j y v' e1 e2 e3
       refine ⟨u',r',?_⟩
       rcases q with q | ⟨k,c',e,z'⟩
       · exact .inl q
       · refine .inr ⟨k,c',e,z'.sameBut hs ?_⟩
         rintro rfl
         exact hj (mK hN e1 (I.ok.inj _ _ _ e hc▸hi))
   · by_cases hcc:c'=c
     · subst hcc;exact ⟨_,hc'⟩
     · obtain ⟨w2,z2⟩:=I.cell y c' e
       exact ⟨w2,z2.sameBut hs hcc⟩
   · obtain ⟨e,n,ne,nf,d⟩:=I.pin p hp
     refine ⟨(hs.2 p.1 ?_).trans e,n,ne,nf,d⟩
     intro q
     rw [q,hoc] at e
     have q':oc=p.2:=Option.some.inj e
     exact d w' (by rw [<- q'];exact hocd)
def mL {M:Model} {A:Around} {E:Value->Shared->Prop} {i:Nat} {x:Str} {v:V} {u:Value} {Q:Unit->Shared->Prop} (I:Inv X pins σ H s) (hN:X.N.Nodup) (hi:X.N[i]?=some x) (hx:Loc X.env.scope x) (r:RelV v u)
  (h:∀ s',Inv X pins (σ.set i (some v)) H s'->Q () s') (hf:X.fn x=true∨X.env.scope.names.lookup x=some .local:=by first | exact .inl rfl | exact .inr rfl | assumption):wpAny M A (storeName X.env x u) Q E s:=
 ki I hN hi hx r (fun s' I' _=>h s' I') hf
def Inv.call' {s':Shared} {ch:List Addr} (I:Inv X pins σ H s) (ho:s'.os=s.os) (u:Un (frs X.stack) ch H H' s.heap s'.heap) (hok:HOk X.prog X.w H' s'.heap) (hg:AllBare s'.gens)
  (hch:∀ b∈ch,(b∈X.ex∨X.s₀.heap.objs.size<=b)/\b≠X.env.locals/\(∀ x c,X.env.cells.lookup x=some c->c≠b)/\∀ p∈X.pn++pins,p.1≠b):Inv X pins σ H' s':=by
 obtain ⟨h',g',d',t',o'⟩:=s'
 have e:o'=s.os:=ho
 subst e
 exact I.call (g':=g') (t':=t') (d':=d') u hok hg hch
end
abbrev XK:=Value->Option Addr->Hp->Prop
abbrev St:=List (Option V)
abbrev VK:=V->Hp->Prop
abbrev TE:=St->Hp->VK->Prop
abbrev TT:=St->Hp->(Bool->Hp->Prop)->Prop
abbrev TA:=St->Hp->(List V->Hp->Prop)->Prop
structure Ends where
 nx:St->Hp->Prop
 rt:VK
 bk:St->Hp->Prop:=fun _ _=>False
 ct:St->Hp->Prop:=fun _ _=>False
abbrev TS:=Ends->St->Hp->Prop
def EP (X:Cx) (pins:List (Addr×Obj)) (σ:St) (Q:VK) (u:Value) (s':Shared):Prop:=∃ v H',Inv X pins σ H' s'/\RelV v u/\Q v H'
def TP (X:Cx) (pins:List (Addr×Obj)) (σ:St) (Q:Bool->Hp->Prop) (b:Bool) (s':Shared):Prop:=∃ H',Inv X pins σ H' s'/\Q b H'
def AP (X:Cx) (pins:List (Addr×Obj)) (σ:St) (Q:List V->Hp->Prop) (us:List Value) (s':Shared):Prop:=∃ vs H',Inv X pins σ H' s'/\Vals vs us/\Q vs H'
noncomputable def SP (X:Cx) (pins:List (Addr×Obj)) (D:Ends) (f:Flow) (s':Shared):Prop:=
 match f with
 | .next=>∃ σ' H',Inv X pins σ' H' s'/\D.nx σ' H'
 | .brk=>∃ σ' H',Inv X pins σ' H' s'/\D.bk σ' H'
 | .cont=>∃ σ' H',Inv X pins σ' H' s'/\D.ct σ' H'
 | .ret u=>∃ v σ' H',Inv X pins σ' H' s'/\RelV v u/\D.rt v H'
def PE (X:Cx) (e:Expr) (t:TE):Prop:=
 ∀ (pins:List (Addr×Obj)) (s:Shared) (σ:St) (H:Hp) (Q:VK),Inv X pins σ H s->t σ H Q->wpAny (model X.prog X.w) X.A (eval e X.env) (EP X pins σ Q) X.xe s
noncomputable def PT (X:Cx) (e:Expr) (t:TT):Prop:=
 ∀ (pins:List (Addr×Obj)) (s:Shared) (σ:St) (H:Hp) (Q:Bool->Hp->Prop),Inv X pins σ H s->t σ H Q->wpAny (model X.prog X.w) X.A (isTrue e X.env (eval e X.env)) (TP X pins σ Q) X.xe s
noncomputable def PW (X:Cx) (e:Expr) (t:TT):Prop:=
 ∀ (whole:Sem Value) (pins:List (Addr×Obj)) (s:Shared) (σ:St) (H:Hp) (Q:Bool->Hp->Prop),Inv X pins σ H s->t σ H Q->wpAny (model X.prog X.w) X.A (isTrue e X.env whole) (TP X pins σ Q) X.xe s
def PW.pt {X:Cx} {e:Expr} {t:TT} (h:PW X e t):PT X e t:=h _
noncomputable def PA (X:Cx) (es:List Expr) (t:TA):Prop:=
 ∀ (pos:Pos) (pins:List (Addr×Obj)) (s:Shared) (σ:St) (H:Hp) (Q:List V->Hp->Prop),Inv X pins σ H s->t σ H Q->wpAny (model X.prog X.w) X.A (spliced (backTo pos (starEach es X.env))) (AP X pins σ Q) X.xe s
def PS (X:Cx) (st:Stmt) (t:TS):Prop:=
 ∀ (pins:List (Addr×Obj)) (s:Shared) (σ:St) (H:Hp) (D:Ends),Inv X pins σ H s->t D σ H->wpAny (model X.prog X.w) X.A (exec st X.env) (SP X pins D) X.xe s
def PSs (X:Cx) (st:List Stmt) (t:TS):Prop:=
 ∀ (pins:List (Addr×Obj)) (s:Shared) (σ:St) (H:Hp) (D:Ends),Inv X pins σ H s->t D σ H->wpAny (model X.prog X.w) X.A (execs st X.env) (SP X pins D) X.xe s
def thn {α:Type} {t:Sem α} {Q Q':α->Shared->Prop} {M:Model} {A:Around} {E:Value->Shared->Prop} {s:Shared} (h:wpAny M A t Q E s) (hQ:∀ a s,Q a s->Q' a s):wpAny M A t Q' E s:=wpAny_mono h hQ fun _ _ x=>x
section
variable {X:Cx}
def bin {a b:Expr} {ta tb:TE} (ha:PE X a ta) (hb:PE X b tb) {pins:List (Addr×Obj)} {s:Shared} {σ:St} {H:Hp} {R:V->V->Hp->Prop} (I:Inv X pins σ H s) (h:ta σ H fun x H1=>tb σ H1 fun y H2=>R x y H2)
  {α:Type} {Q:α->Shared->Prop} {f:Value->Value->Sem α}
  (hf:∀ v u s2 x y H2,Inv X pins σ H2 s2->RelV x v->RelV y u->R x y H2->wpAny (model X.prog X.w) X.A (f v u) Q X.xe s2) :
  wpAny (model X.prog X.w) X.A (eval a X.env) (fun v s₁=>wpAny (model X.prog X.w) X.A (eval b X.env) (fun u s₂=>wpAny (model X.prog X.w) X.A (f v u) Q X.xe s₂) X.xe s₁) X.xe s:=by
 refine thn (ha pins s σ H _ I h) fun v s1 ⟨x,H1,I1,r1,q1⟩=>?_
 refine thn (hb pins s1 σ H1 _ I1 q1) fun u s2 ⟨y,H2,I2,r2,q2⟩=>?_
 exact hf v u s2 x y H2 I2 r1 r2 q2
def mM (i:Nat):TE:=fun σ H Q=>∃ v,σ[i]?=some (some v)/\Q v H
def tC (v:V):TE:=fun _ H Q=>Q v H
def xt {i:Nat} {x:Str} {pos:Pos} (hN:X.N[i]?=some x) (hv:Vis X.env.scope x) (hd:(x==("__debug__":Str))=false:=by decide) (hcd:(x==("__classdict__":Str))=false:=by decide):PE X (.Name x pos) (mM i):=by
 intro pins s σ H Q I h
 obtain ⟨v,e,h⟩:=h
 obtain ⟨m,hn,hl⟩:=I.loc
 obtain ⟨u,r,l⟩:=hl i x v hN e hv
 have fin:EP X pins σ Q u s:=⟨v,H,I,r,h⟩
 rcases l with ⟨hk,hm⟩ | ⟨hk,c,hc,hcell⟩
 · exact wpAny_Name (wpAny_loadName_local I.ok.kind hk hn hm fin) hd
 · rcases hk with hk | hk
   · exact wpAny_Name (wpAny_loadName_cell I.ok.kind hk hc hcell fin) hd
   · exact wpAny_Name (wpAny_loadName_free I.ok.kind hk hc hcell fin hcd) hd
def xu {i j pos}:PE X (.Constant (.int i) j pos) (tC (.int i)):=fun _ _ _ H _ I h=>wpAny_Constant_int ⟨.int i,H,I.tok _,⟨_,rfl⟩,h⟩
def yR {b j pos}:PE X (.Constant (.bool b) j pos) (tC (.bl b)):=fun _ _ _ H _ I h=>Constant_bool ⟨.bl b,H,I,rfl,h⟩
def xv {j pos}:PE X (.Constant .none j pos) (tC .non):=fun _ _ _ H _ I h=>Constant_none ⟨.non,H,I,rfl,h⟩
def xw {x j pos}:PE X (.Constant (.str x) j pos) (tC (.str x)):=fun _ _ _ H _ I h=>Calls.Constant_str ⟨.str x,H,I.tok _,⟨_,rfl⟩,h⟩
def Gl (X:Cx) (x:Str):Prop:=X.env.kindOf x=some .globalImplicit
def pj {E:Value->Shared->Prop} {pins:List (Addr×Obj)} {s:Shared} {σ:St} {H:Hp} {x:Str} {u:Value} {pos:Pos} {Q:Value->Shared->Prop} (I:Inv X pins σ H s) (hg:Gl X x) (hm:X.mg x=some u) (h:Q u s)
  (hd:(x==("__debug__":Str))=false:=by decide):wpAny (model X.prog X.w) X.A (eval (.Name x pos) X.env) Q E s:=
 Calls.Name_function_global I.ok.kind hg (Calls.loadGlobal_global (by rw [I.ok.glob];exact I.mod.glob.keeps I.bk) hm h) hd
def lF {E:Value->Shared->Prop} {pins:List (Addr×Obj)} {s:Shared} {σ:St} {H:Hp} {x:Str} {u:Value} {pos:Pos} {Q:Value->Shared->Prop} (I:Inv X pins σ H s) (hg:Gl X x) (hm:X.mg x=none) (hv:bootBuiltins x=some u) (h:Q u s)
  (hn:x≠"__name__":=by decide) (hd:(x==("__debug__":Str))=false:=by decide):wpAny (model X.prog X.w) X.A (eval (.Name x pos) X.env) Q E s:=by
 obtain ⟨mb,h1,h2⟩:=I.mod.blt
 exact Calls.Name_function_global I.ok.kind hg (Calls.loadGlobal_builtin (by rw [I.ok.glob];exact I.mod.glob.keeps I.bk) hm (by rw [I.ok.blt];exact h1.keeps I.bk) ((h2 x hn).trans hv) h) hd
def uY {x:Str} {v:V} {u:Value} {pos:Pos} (hg:Gl X x) (hm:X.mg x=none) (hv:bootBuiltins x=some u) (r:RelV v u) (hn:x≠"__name__":=by decide) (hd:(x==("__debug__":Str))=false:=by decide):PE X (.Name x pos) (tC v):=
 fun _ _ _ H _ I h=>lF I hg hm hv ⟨v,H,I,r,h⟩ hn hd
variable {a b:Expr} {ta tb:TE} {pos:Pos}
variable {tA tB':TT} {rest:List Expr}
def tAnd (t u:TT):TT:=fun σ H Q=>t σ H fun c H1=>if c=true then u σ H1 Q else Q false H1
def tOr (t u:TT):TT:=fun σ H Q=>t σ H fun c H1=>if c=true then Q true H1 else u σ H1 Q
def tNot (t:TT):TT:=fun σ H Q=>t σ H fun c H1=>Q (!c) H1
def uZ (ha:PT X a tA):PW X (.BoolOp .And [a] pos) tA:=by
 intro wh pins s σ H Q I h
 refine isTrue_and (thn (ha pins s σ H Q I h) fun c s1 e=>?_)
 cases c with
 | true=>exact isTrue_and_nil e
 | false=>exact e
def rR (ha:PT X a tA):PW X (.BoolOp .Or [a] pos) tA:=by
 intro wh pins s σ H Q I h
 refine isTrue_or (thn (ha pins s σ H Q I h) fun c s1 e=>?_)
 cases c with
 | false=>exact isTrue_or_nil e
 | true=>exact e
def xx (ha:PT X a tA) (hb:PW X (.BoolOp .And (b::rest) pos) tB'):PW X (.BoolOp .And (a::b::rest) pos) (tAnd tA tB'):=by
 intro wh pins s σ H Q I h
 refine isTrue_and (thn (ha pins s σ H _ I h) fun c s1 ⟨H1,I1,q1⟩=>?_)
 cases c with
 | true=>exact hb wh pins s1 σ H1 Q I1 q1
 | false=>exact ⟨H1,I1,q1⟩
def wF (ha:PT X a tA) (hb:PW X (.BoolOp .Or (b::rest) pos) tB'):PW X (.BoolOp .Or (a::b::rest) pos) (tOr tA tB'):=by
 intro wh pins s σ H Q I h
 refine isTrue_or (thn (ha pins s σ H _ I h) fun c s1 ⟨H1,I1,q1⟩=>?_)
 cases c with
 | true=>exact ⟨H1,I1,q1⟩
 | false=>exact hb wh pins s1 σ H1 Q I1 q1
def rS (ha:PT X a tA):PT X (.UnaryOp .Not a pos) (tNot tA):=by
 intro pins s σ H Q I h
 exact isTrue_not (ha pins s σ H (fun c H1=>Q (!c) H1) I h)
def yS (ta tb:TE):TE:=fun σ H Q=>ta σ H fun x H1=>∃ c,x=.bl c/\if c=true then tb σ H1 Q else Q (.bl false) H1
def yT (ta:TE):TE:=fun σ H Q=>ta σ H fun x H1=>∃ c,x=.bl c/\Q (.bl (!c)) H1
def xy {op} {t:TE} (h:PE X a t):PE X (.BoolOp op [a] pos) t:=fun pins s σ H Q I hw=>BoolOp_one (h pins s σ H Q I hw)
def xz (ha:PE X a ta) (hb:PE X (.BoolOp .And (b::rest) pos) tb):PE X (.BoolOp .And (a::b::rest) pos) (yS ta tb):=by
 intro pins s σ H Q I h
 refine BoolOp_and (thn (ha pins s σ H _ I h) fun v s1 ⟨x,H1,I1,r1,q1⟩=>?_)
 obtain ⟨c,rfl,q1⟩:=q1
 cases r1
 refine wpAny_truthy_bool ?_
 cases c with
 | true=>exact hb pins s1 σ H1 Q I1 q1
 | false=>exact ⟨.bl false,H1,I1,rfl,q1⟩
def xA (ha:PE X a ta):PE X (.UnaryOp .Not a pos) (yT ta):=by
 intro pins s σ H Q I h
 refine UnaryOp_ (thn (ha pins s σ H _ I h) fun v s1 ⟨x,H1,I1,r1,q1⟩=>?_)
 obtain ⟨c,rfl,q1⟩:=q1
 cases r1
 exact not_of (wpAny_truthy_bool ⟨.bl (!c),H1,I1,rfl,q1⟩)
end
noncomputable def SqL (K:PySem.W.Frag) (H:Hp) (a:Addr) (xs:List V):Prop:=
 Rd H a (.lst xs)∨
  ∃ (o:Obj) (its:Array Value) (n:Nat),K.lookup a=some o/\o.cls=.type "list"/\o.dict=none/\o.data=.seq its n/\its.size<=sizeLine/\Vals xs its.toList
noncomputable def SqT (K:PySem.W.Frag) (H:Hp) (a:Addr) (xs:List V):Prop:=
 Rd H a (.tup xs)∨
  ∃ (o:Obj) (its:Array Value) (n:Nat),K.lookup a=some o/\o.cls=.type "tuple"/\o.data=.seq its n/\its.size<=sizeLine/\Vals xs its.toList
noncomputable def absV:Value->Option V
 | .none=>some .non
 | .bool b=>some (.bl b)
 | .int i _=>some (.int i)
 | .str x _=>some (.str x)
 | .bytes b _=>some (.byt b)
 | .float b _=>some (.flt b)
 | .ref a=>some (.ref a)
 | .type n=>some (.ty n)
 | _=>none
def RelV.abs {x:V} {u:Value} (r:RelV x u):absV u=some x:=by
 cases x with
 | non=>cases r;rfl
 | bl _=>cases r;rfl
 | int _=>obtain ⟨t,rfl⟩:=r;rfl
 | str _=>obtain ⟨t,rfl⟩:=r;rfl
 | byt _=>obtain ⟨t,rfl⟩:=r;rfl
 | flt _=>obtain ⟨t,rfl⟩:=r;rfl
 | ref _=>cases r;rfl
 | ty _=>cases r;rfl
def RelV.inj {x y:V} {u:Value} (r:RelV x u) (q:RelV y u):x=y:=Option.some.inj (r.abs.symm.trans q.abs)
def Vals.inj:∀ {xs ys:List V} {us:List Value},Vals xs us->Vals ys us->xs=ys
 | _,_,_,.nil,.nil=>rfl
 | _,_,_,.cons r t,.cons r' t'=>by rw [r.inj r',Vals.inj t t']
section
variable {X:Cx} {pins:List (Addr×Obj)} {σ:St} {H:Hp} {s:Shared} {a:Addr} {xs ys:List V}
def SqL.of {K:PySem.W.Frag} (h:H a=some (.lst xs)):SqL K H a xs:=.inl (.inl h)
def SqT.of {K:PySem.W.Frag} (h:H a=some (.tup xs)):SqT K H a xs:=.inl (.inl h)
def Inv.list (I:Inv X pins σ H s) (h:SqL X.K H a xs):∃ its:List Value,Vals xs its/\PlainL s.heap a its.toArray/\xs.length<=sizeLine:=by
 rcases h with h | ⟨o,its,n,hk,hc,hd,hs,hz,r⟩
 · obtain ⟨z,its,n,r,e⟩:=h.ok I.hok
   exact ⟨its,r,⟨_,n,e,rfl,rfl,rfl⟩,z⟩
 · refine ⟨its.toList,r,⟨o,n,I.kIn a o hk,hc,hd,by simpa using hs⟩,?_⟩
   have e:=r.length
   simp only [Array.length_toList] at e
   omega
def Inv.tuple (I:Inv X pins σ H s) (h:SqT X.K H a xs):∃ its:List Value,Vals xs its/\IsTup s.heap a its.toArray/\xs.length<=sizeLine:=by
 rcases h with h | ⟨o,its,n,hk,hc,hs,hz,r⟩
 · obtain ⟨z,its,r,p⟩:=h.ok I.hok
   exact ⟨its,r,p,z⟩
 · refine ⟨its.toList,r,⟨o,I.kIn a o hk,hc,n,by simpa using hs⟩,?_⟩
   have e:=r.length
   simp only [Array.length_toList] at e
   omega
def Inv.list_inj (I:Inv X pins σ H s) (h:SqL X.K H a xs) (h':SqL X.K H a ys):xs=ys:=by
 obtain ⟨its,r,⟨o,n,e,_,_,d⟩,_⟩:=I.list h
 obtain ⟨its',r',⟨o',n',e',_,_,d'⟩,_⟩:=I.list h'
 rw [e] at e';cases e'
 rw [d] at d'
 injection d' with d1 _
 have:its=its':=by simpa using congrArg Array.toList d1
 subst this
 exact r.inj r'
def Inv.tuple_inj (I:Inv X pins σ H s) (h:SqT X.K H a xs) (h':SqT X.K H a ys):xs=ys:=by
 obtain ⟨its,r,⟨o,e,_,n,d⟩,_⟩:=I.tuple h
 obtain ⟨its',r',⟨o',e',_,n',d'⟩,_⟩:=I.tuple h'
 rw [e] at e';cases e'
 rw [d] at d'
 injection d' with d1 _
 have:its=its':=by simpa using congrArg Array.toList d1
 subst this
 exact r.inj r'
end
abbrev Cx.wish (X:Cx) (E:Value->Shared->Prop):Cx:={X with xe:=E}
abbrev Cx.nox (X:Cx):Cx:=X.wish fun _ _=>False
def Cx.Ok.wish {X:Cx} (ok:X.Ok) (E:Value->Shared->Prop):(X.wish E).Ok:=
 ⟨ok.mod,ok.kind,ok.glob,ok.blt,ok.above,ok.inj,ok.has,ok.cab,ok.hd,ok.frames,ok.stk,ok.exf,ok.bs,ok.bsz,ok.noex,ok.exfs,ok.funs,ok.frf⟩
def Cx.Ok.unwish {X:Cx} {E:Value->Shared->Prop} (ok:(X.wish E).Ok):X.Ok:=
 ⟨ok.mod,ok.kind,ok.glob,ok.blt,ok.above,ok.inj,ok.has,ok.cab,ok.hd,ok.frames,ok.stk,ok.exf,ok.bs,ok.bsz,ok.noex,ok.exfs,ok.funs,ok.frf⟩
section
variable {X:Cx} {pins:List (Addr×Obj)} {σ:St} {H:Hp} {s:Shared} {E:Value->Shared->Prop}
def Inv.wish (I:Inv X pins σ H s) (E:Value->Shared->Prop):Inv (X.wish E) pins σ H s:=⟨I.ok.wish E,I.os,I.bare,I.base,I.loc,I.cell,I.free,I.freeC,I.pin,I.hok,I.len⟩
def Inv.unwish (I:Inv (X.wish E) pins σ H s):Inv X pins σ H s:=⟨I.ok.unwish,I.os,I.bare,I.base,I.loc,I.cell,I.free,I.freeC,I.pin,I.hok,I.len⟩
def SP.unwish {D:Ends} {f:Flow} {s':Shared} (h:SP (X.wish E) pins D f s'):SP X pins D f s':=by
 cases f with
 | next=>obtain ⟨σ',H',I,q⟩:=h;exact ⟨σ',H',I.unwish,q⟩
 | brk=>obtain ⟨σ',H',I,q⟩:=h;exact ⟨σ',H',I.unwish,q⟩
 | cont=>obtain ⟨σ',H',I,q⟩:=h;exact ⟨σ',H',I.unwish,q⟩
 | ret u=>obtain ⟨v,σ',H',I,r,q⟩:=h;exact ⟨v,σ',H',I.unwish,r,q⟩
def PSs.nox {st:List Stmt} {t:TS} (h:PSs X.nox st t):PSs X st t:=fun pins s σ H D I hw =>
 wpAny_mono (h pins s σ H D (I.wish _) hw) (fun _ _ q=>q.unwish) fun _ _ z=>False.elim z
end
section
variable {X:Cx} {st:Stmt} {rest:List Stmt} {t u:TS} {e:Expr} {te:TE} {pos:Pos}
def yU:TS:=fun D σ H=>D.nx σ H
def tSeq (t u:TS):TS:=fun D σ H=>t {D with nx:=u D} σ H
def pk:PSs X [] yU:=fun _ _ σ H _ I h=>wpAny_execs_nil ⟨σ,H,I,h⟩
def mN (h1:PS X st t) (h2:PSs X rest u):PSs X (st::rest) (tSeq t u):=by
 intro pins s σ H D I h
 refine wpAny_execs_cons (thn (h1 pins s σ H {D with nx:=u D} I h) fun f s1 q=>?_)
 cases f with
 | next =>
  obtain ⟨σ',H',I',q⟩:=q
  exact h2 pins s1 σ' H' D I' q
 | ret v=>exact q
 | brk=>exact q
 | cont=>exact q
def pq (h1:PS X st t):PSs X [st] t:=by
 intro pins s σ H D I h
 refine wpAny_execs_cons (thn (h1 pins s σ H D I h) fun f s1 q=>?_)
 cases f with
 | next=>exact wpAny_execs_nil q
 | ret v=>exact q
 | brk=>exact q
 | cont=>exact q
def Inv.quiet {pins:List (Addr×Obj)} {σ:St} {H:Hp} {s:Shared} (I:Inv X pins σ H s):interactive X.env=false:=by simp [interactive,I.ok.kind]
def yV (te:TE):TS:=fun D σ H=>te σ H fun _ H1=>D.nx σ H1
def i6 (he:PE X e te) (hs:swapsWith e none pos.line X.env=pure false:=by rfl):PS X (.Expr e pos) (yV te):=by
 intro pins s σ H D I h
 exact wpAny_Expr_any (thn (he pins s σ H _ I h) fun v s1 ⟨x,H1,I1,r1,q1⟩=>⟨σ,H1,I1,q1⟩) I.quiet hs
def tRet (te:TE):TS:=fun D σ H=>te σ H D.rt
def rT (he:PE X e te):PS X (.Return (some e) pos) (tRet te):=by
 intro pins s σ H D I h
 exact wpAny_Return_some (thn (he pins s σ H _ I h) fun v s1 ⟨x,H1,I1,r1,q1⟩=>⟨x,σ,H1,I1,r1,q1⟩)
def tIfS (c:TT) (t u:TS):TS:=fun D σ H=>c σ H fun b H1=>if b=true then t D σ H1 else u D σ H1
def wG {c:Expr} {a b:List Stmt} {tc:TT} (hc:PT X c tc) (ha:PSs X a t) (hb:PSs X b u):PS X (.If c a b pos) (tIfS tc t u):=by
 intro pins s σ H D I h
 refine wpAny_If (thn (hc pins s σ H _ I h) fun d s1 ⟨H1,I1,q1⟩=>?_)
 cases d with
 | true=>exact ha pins s1 σ H1 D I1 q1
 | false=>exact hb pins s1 σ H1 D I1 q1
end
abbrev TG:=V->St->Hp->(St->Hp->Prop)->Prop
abbrev TGs:=List V->St->Hp->(St->Hp->Prop)->Prop
noncomputable def PG (X:Cx) (target:Expr) (t:TG):Prop:=
 ∀ (pins:List (Addr×Obj)) (s:Shared) (σ:St) (H:Hp) (v:V) (u:Value) (Q:St->Hp->Prop),Inv X pins σ H s->RelV v u->t v σ H Q→
  wpAny (model X.prog X.w) X.A (assign target X.env u) (fun _ s'=>∃ σ' H',Inv X pins σ' H' s'/\Q σ' H') X.xe s
noncomputable def PGs (X:Cx) (ts:List Expr) (t:TGs):Prop:=
 ∀ (pins:List (Addr×Obj)) (s:Shared) (σ:St) (H:Hp) (vs:List V) (us:List Value) (Q:St->Hp->Prop),Inv X pins σ H s->Vals vs us->t vs σ H Q→
  wpAny (model X.prog X.w) X.A (assignInOrder ((assignEach ts X.env).map (·.2)) us) (fun _ s'=>∃ σ' H',Inv X pins σ' H' s'/\Q σ' H') X.xe s
abbrev xB:=V->V->V->Hp->(Hp->Prop)->Prop
noncomputable def PSet (X:Cx) (t:xB):Prop:=
 ∀ (pins:List (Addr×Obj)) (s:Shared) (σ:St) (H:Hp) (o i v:V) (ov iv u:Value) (Q:Hp->Prop),Inv X pins σ H s->RelV o ov->RelV i iv->RelV v u->t o i v H Q→
  wpAny (model X.prog X.w) X.A (setItem ov iv u) (fun _ s'=>∃ H',Inv X pins σ H' s'/\Q H') X.xe s
section
variable {X:Cx} {pos:Pos}
def iI (i:Nat):TG:=fun v σ H Q=>Q (σ.set i (some v)) H
def pv {i:Nat} {x:Str} (hN:X.N.Nodup) (hi:X.N[i]?=some x) (hx:Loc X.env.scope x) (hf:X.fn x=true∨X.env.scope.names.lookup x=some .local:=by first | exact .inl rfl | exact .inr rfl | assumption):PG X (.Name x pos) (iI i):=by
 intro pins s σ H v u Q I r h
 exact wpAny_assign_Name (mL I hN hi hx r (fun s' I'=>⟨_,H,I',h⟩) hf)
def gNil:TGs:=fun vs σ H Q=>vs=[]/\Q σ H
def yW (t:TG) (u:TGs):TGs:=fun vs σ H Q=>∃ v r,vs=v::r/\t v σ H fun σ' H'=>u r σ' H' Q
def pw:PGs X [] gNil:=by
 intro pins s σ H vs us Q I r h
 obtain ⟨e,h⟩:=h
 subst e
 cases r
 exact assignInOrder_nil ⟨σ,H,I,h⟩
def mO {e:Expr} {es:List Expr} {t:TG} {u:TGs} (h1:PG X e t) (h2:PGs X es u)
  (hs:(assignEach (e::es) X.env).map (·.2)=assign e X.env::(assignEach es X.env).map (·.2):=by rfl):PGs X (e::es) (yW t u):=by
 intro pins s σ H vs us Q I r h
 obtain ⟨v,vr,e1,h⟩:=h
 subst e1
 cases r with
 | cons r rr =>
  rw [hs]
  refine assignInOrder_cons (thn (h1 pins s σ H _ _ _ I r h) fun _ s1 ⟨σ1,H1,I1,q1⟩=>?_)
  exact h2 pins s1 σ1 H1 _ _ Q I1 rr q1
def gTup (K:PySem.W.Frag) (n:Nat) (t:TGs):TG:=fun v σ H Q=>∃ a xs,v=.ref a/\SqT K H a xs/\xs.length=n/\t xs σ H Q
def rU {es:List Expr} {k:Nat} {t:TGs} {n:Nat} (hc:X.calm=true) (h:PGs X es t)
  (hn:(assignEach es X.env).length=n:=by rfl) (hst:(assignEach es X.env).findIdx? (·.1)=none:=by rfl):PG X (.Tuple es k pos) (gTup X.K n t):=by
 intro pins s σ H v u Q I r hw
 obtain ⟨a,xs,e1,hq,hl,hw⟩:=hw
 subst e1
 cases r
 obtain ⟨its,rv,ht,hz⟩:=I.tuple hq
 refine assign_Tuple_tuple (I.ok.hd hc) ht (by simp [hn,<- hl,rv.length]) hst fun h' hx=>?_
 have I1:Inv X pins σ H {s with heap:=h'}:=I.kept (t':=s.toks) fun b o e=>hx b o (Nat.ne_of_lt (Heap.lt_size e)) e
 exact h pins _ σ H xs _ Q I1 (by simpa using rv) hw
def gSub (to ti:TE) (t:xB):TG:=fun v σ H Q=>to σ H fun o H1=>ti σ H1 fun i H2=>t o i v H2 fun H3=>Q σ H3
def rV {o i:Expr} {to ti:TE} {t:xB} (ho:PE X o to) (hi:PE X i ti) (hs:PSet X t)
  (ha:∀ v,assign (.Subscript o i pos) X.env v=(do
   let ov <- holding [v] (eval o X.env)
   let iv <- holding [v,ov] (eval i X.env)
   standAt pos
   holding [v,ov,iv] (setItem ov iv v)
   release [v,ov,iv] []):=by intro _;rfl):PG X (.Subscript o i pos) (gSub to ti t):=by
 intro pins s σ H v u Q I r h
 rw [ha]
 refine wB (wpAny_holding (thn (ho pins s σ H _ I h) fun ov s1 ⟨x,H1,I1,r1,q1⟩=>?_))
 refine wB (wpAny_holding (thn (hi pins s1 σ H1 _ I1 q1) fun iv s2 ⟨y,H2,I2,r2,q2⟩=>?_))
 refine wB (wpAny_standAt (wB (wpAny_holding (thn (hs pins s2 σ H2 x y v ov iv u _ I2 r1 r2 r q2) fun _ s3 ⟨H3,I3,q3⟩=>?_))))
 exact wpAny_release ⟨σ,H3,I3,q3⟩
def u2 (te:TE) (g:TG):TS:=fun D σ H=>te σ H fun x H1=>g x σ H1 D.nx
def lG {tg e:Expr} {te:TE} {g:TG} (he:PE X e te) (hg:PG X tg g) (hs:swapsWithSole [tg] e pos.line X.env=pure false:=by rfl) (hw:swappedStores [tg] e X.env=pure none:=by rfl)
  (h1:(assignEach [tg] X.env).map (·.2)=[assign tg X.env]:=by rfl):PS X (.Assign [tg] e pos) (u2 te g):=by
 intro pins s σ H D I h
 refine wpAny_Assign_stores (thn (he pins s σ H _ I h) fun v s1 ⟨x,H1,I1,r1,q1⟩=>?_) hs hw
 rw [h1]
 exact thn (hg pins s1 σ H1 x v _ I1 r1 q1) fun _ s2 q=>q
def xC {i:Nat} {x:Str} {e:Expr} {te:TE} {pos':Pos} (hN:X.N.Nodup) (hi:X.N[i]?=some x) (hx:Loc X.env.scope x) (he:PE X e te) (hs:swapsWith e (some (.Name x pos')) pos.line X.env=pure false:=by rfl) (hf:X.fn x=true∨X.env.scope.names.lookup x=some .local:=by first | exact .inl rfl | exact .inr rfl | assumption) :
  PS X (.Assign [.Name x pos'] e pos) (u2 te (iI i)):=by
 intro pins s σ H D I h
 refine wpAny_Assign_Name (thn (he pins s σ H _ I h) fun v s1 ⟨y,H1,I1,r1,q1⟩=>?_) hs
 exact mL I1 hN hi hx r1 (fun s2 I2=>⟨_,H1,I2,q1⟩) hf
end
section
variable {X:Cx} {pos:Pos}
end
structure It where
 go:Nat->Hp->Prop
 yld:Nat->Hp->V->Hp->Prop
 stop:Nat->Hp->Prop
def iu (X:Cx) (pins:List (Addr×Obj)) (H:Hp) (b:Addr):Prop:=
 H b=none/\b≠X.env.locals/\b∉X.fs/\(b∈X.ex∨X.s₀.heap.objs.size<=b)/\(∀ x c,X.env.cells.lookup x=some c->c≠b)/\∀ p∈X.pn++pins,p.1≠b
def Inv.fpOk {X:Cx} {pins:List (Addr×Obj)} {σ:St} {H H':Hp} {s:Shared} {b:Addr} (I:Inv X pins σ H s) (hb:s.heap.objs.size<=b) (hn:H' b=none):iu X pins H' b:=by
 refine ⟨hn,Nat.ne_of_gt (Nat.lt_of_lt_of_le I.lt hb),I.nofs hb,.inr (Nat.le_trans I.sz hb),fun x c e z=>?_,fun p hp z=>?_⟩
 · obtain ⟨v,q⟩:=I.cell x c e
   exact absurd (Nat.lt_of_lt_of_le q.lt (by rw [z];exact hb)) (Nat.lt_irrefl _)
 · exact absurd (Nat.lt_of_lt_of_le (Heap.lt_size (I.pin p hp).1) (by rw [z];exact hb)) (Nat.lt_irrefl _)
structure Turn (P:Program) (w:World) (K:PySem.W.Frag) (tg:Expr) (J:It) (fp:List Addr) (it:Addr) (tn:Nat->Heap->Prop):Prop where
 mem:it∈fp
 obj:∀ i h,tn i h->∀ b∈fp,∃ o,h.get? b=some o/\∀ v,o.data≠.cell v
 keep:∀ i h h',tn i h->(∀ b∈fp,∀ o,h.get? b=some o->h'.get? b=some o)->tn i h'
 item:∀ (X:Cx),X.prog=P->X.w=w->X.K=K->X.calm=true->∀ (i:Nat) (pins:List (Addr×Obj)) (s:Shared) (σ:St) (H:Hp) (E:Value->Shared->Prop),Inv X pins σ H s->(∀ b∈fp,iu X pins H b)->tn i s.heap->J.go i H→
  wpAny (model P w) X.A (pyNext (.ref it)) (fun r s1=>∃ u,r=some u∧
   wpAny (model P w) X.A (letOwnedTupleGo tg (.ref it) u) (fun _ s2=>∃ x H',Inv X pins σ H' s2/\RelV x u/\J.yld i H x H'/\tn (i+1) s2.heap/\∀ b∈fp,H' b=none) E s1) E s
 done:∀ (X:Cx),X.prog=P->X.w=w->X.K=K->X.calm=true->∀ (i:Nat) (pins:List (Addr×Obj)) (s:Shared) (σ:St) (H:Hp) (E:Value->Shared->Prop),Inv X pins σ H s->(∀ b∈fp,iu X pins H b)->tn i s.heap->J.stop i H→
  wpAny (model P w) X.A (pyNext (.ref it)) (fun r s1=>r=none/\Inv X pins σ H s1) E s
 self:∀ (A:Around) (i:Nat) (s:Shared) (Q:Value->Shared->Prop) (E:Value->Shared->Prop),tn i s.heap->Q (.ref it) s->wpAny (model P w) A (pyIter (.ref it)) Q E s
abbrev TI:=St->Hp->(It->Hp->Prop)->Prop
noncomputable def PIE (X:Cx) (pins:List (Addr×Obj)) (σ:St) (tg:Expr) (R:It->Hp->Prop) (itv:Value) (s2:Shared):Prop:=
 ∃ (it:Addr) (fp:List Addr) (tn:Nat->Heap->Prop) (J:It) (H':Hp),itv=.ref it/\Inv X pins σ H' s2/\Turn X.prog X.w X.K tg J fp it tn/\tn 0 s2.heap/\(∀ b∈fp,iu X pins H' b)/\R J H'
noncomputable def PI (X:Cx) (tg iter:Expr) (wi:TI):Prop:=
 ∀ (pins:List (Addr×Obj)) (s:Shared) (σ:St) (H:Hp) (R:It->Hp->Prop),Inv X pins σ H s->wi σ H R→
  wpAny (model X.prog X.w) X.A (eval iter X.env) (fun v s1=>wpAny (model X.prog X.w) X.A (pyIter v) (PIE X pins σ tg R) X.xe s1) X.xe s
def kj {M:Model} {A:Around} {E:Value->Shared->Prop} {s:Shared} {tg:Expr} {it:Addr} {u:Value} {o:Obj} {n:String} {vs:Array Value} {Q:Unit->Shared->Prop} (ho:s.heap.get? it=some o) (hc:o.cls=.type n) (hd:o.data=.fields vs)
  (hn:["enumerate","zip","dict_itemiterator","dict_reverseitemiterator","odict_iterator","itertools.zip_longest","itertools.pairwise"].contains n=false) (hQ:Q () s):wpAny M A (letOwnedTupleGo tg (.ref it) u) Q E s:=by
 unfold letOwnedTupleGo
 cases tg<;>first
  | exact wpAny_pure hQ
  | (cases u<;>first
      | exact wpAny_pure hQ
      | (refine wB (wpAny_load ho ?_)
         rw [hc,hd]
         show wpAny M A (if (["enumerate","zip","dict_itemiterator","dict_reverseitemiterator","odict_iterator","itertools.zip_longest","itertools.pairwise"].contains n&&vs[0]?==some (rawInt _))=true then _ else _) Q E s
         rw [if_neg (by intro h;rw [hn,Bool.false_and] at h;cases h)]
         exact wpAny_pure hQ))
def Itl (K:PySem.W.Frag) (a:Addr):It:=
 ⟨fun i H=>∃ xs x,SqL K H a xs/\xs[i]?=some x,fun i H x H'=>H'=H/\∀ xs,SqL K H a xs->xs[i]?=some x,fun i H=>∃ xs,SqL K H a xs/\xs.length<=i⟩
def Itt (K:PySem.W.Frag) (a:Addr):It:=
 ⟨fun i H=>∃ xs x,SqT K H a xs/\xs[i]?=some x,fun i H x H'=>H'=H/\∀ xs,SqT K H a xs->xs[i]?=some x,fun i H=>∃ xs,SqT K H a xs/\xs.length<=i⟩
def Itr (lo:Int) (n:Nat):It:=⟨fun i _=>i<n,fun i H x H'=>H'=H/\x=.int (lo+i),fun i _=>n<=i⟩
def qL {P:Program} {w:World} {K:PySem.W.Frag} {tg:Expr} (a it:Addr):Turn P w K tg (Itl K a) [it] it (fun i h=>h.IsListIter it a i) where
 mem:=by simp
 obj:=fun i h st b hb=>by
  have e:b=it:=by simpa using hb
  subst e
  obtain ⟨o,e,c,d⟩:=st
  exact ⟨o,e,fun v z=>by rw [d] at z;cases z⟩
 keep:=fun i h h' st k=>st.at fun o e=>k it (by simp) o e
 item:=by
  intro X hP hw hK hc i pins s σ H E I hf st hg
  subst hP hw hK
  obtain ⟨xs,x,hq,hx⟩:=hg
  obtain ⟨its,rv,p,hz⟩:=I.list hq
  obtain ⟨u,hu,ru⟩:=rv.get hx
  obtain ⟨f0,f1,f2,f3,f4,f5⟩:=hf it (by simp)
  refine wpAny_pyNext_list_item st p.isList (x:=u) (by simpa using hu) fun h' st' sb=>?_
  have I1:Inv X pins σ H {s with heap:=h'}:=I.turned (t':=s.toks) (fun b o hb e=>(sb.2 b hb).trans e) f0 f1 f3 f4 f5
  obtain ⟨o,e,c,d⟩:=id st'
  exact ⟨u,rfl,kj (s:={s with heap:=h'}) e c d (by decide) ⟨x,H,I1,ru,⟨rfl,fun ys hy=>by rw [I.list_inj hy hq];exact hx⟩,st',fun b hb=>(hf b hb).1⟩⟩
 done:=by
  intro X hP hw hK hc i pins s σ H E I hf st hg
  subst hP hw hK
  obtain ⟨xs,hq,hx⟩:=hg
  obtain ⟨its,rv,p,hz⟩:=I.list hq
  obtain ⟨f0,f1,f2,f3,f4,f5⟩:=hf it (by simp)
  have hl:=rv.length
  exact wpAny_pyNext_list_end (I.ok.hd hc) st p.isList (by simp;omega) fun h' eb=>⟨rfl,I.turned (t':=s.toks) (fun b o hb e=>eb b o hb e) f0 f1 f3 f4 f5⟩
 self:=fun _ _ _ _ _ st h=>wpAny_pyIter_listiter st h
def n6 {P:Program} {w:World} {K:PySem.W.Frag} {tg:Expr} (a it:Addr):Turn P w K tg (Itt K a) [it] it (fun i h=>h.IsTupleIter it a i) where
 mem:=by simp
 obj:=fun i h st b hb=>by
  have e:b=it:=by simpa using hb
  subst e
  obtain ⟨o,e,c,d⟩:=st
  exact ⟨o,e,fun v z=>by rw [d] at z;cases z⟩
 keep:=fun i h h' st k=>st.at fun o e=>k it (by simp) o e
 item:=by
  intro X hP hw hK hc i pins s σ H E I hf st hg
  subst hP hw hK
  obtain ⟨xs,x,hq,hx⟩:=hg
  obtain ⟨its,rv,p,hz⟩:=I.tuple hq
  obtain ⟨u,hu,ru⟩:=rv.get hx
  obtain ⟨f0,f1,f2,f3,f4,f5⟩:=hf it (by simp)
  refine wpAny_pyNext_tuple_item st (show s.heap.IsTuple a its.toArray from p) (x:=u) (by simpa using hu) fun h' st' sb=>?_
  have I1:Inv X pins σ H {s with heap:=h'}:=I.turned (t':=s.toks) (fun b o hb e=>(sb.2 b hb).trans e) f0 f1 f3 f4 f5
  obtain ⟨o,e,c,d⟩:=id st'
  exact ⟨u,rfl,kj (s:={s with heap:=h'}) e c d (by decide) ⟨x,H,I1,ru,⟨rfl,fun ys hy=>by rw [I.tuple_inj hy hq];exact hx⟩,st',fun b hb=>(hf b hb).1⟩⟩
 done:=by
  intro X hP hw hK hc i pins s σ H E I hf st hg
  subst hP hw hK
  obtain ⟨xs,hq,hx⟩:=hg
  obtain ⟨its,rv,p,hz⟩:=I.tuple hq
  obtain ⟨f0,f1,f2,f3,f4,f5⟩:=hf it (by simp)
  have hl:=rv.length
  exact wpAny_pyNext_tuple_end (I.ok.hd hc) st (show s.heap.IsTuple a its.toArray from p) (by simp;omega) fun h' eb=>⟨rfl,I.turned (t':=s.toks) (fun b o hb e=>eb b o hb e) f0 f1 f3 f4 f5⟩
 self:=fun _ _ _ _ _ st h=>wpAny_pyIter_tupleiter st h
def n8 {P:Program} {w:World} {K:PySem.W.Frag} {tg:Expr} (it:Addr) (lo:Int) (n:Nat):Turn P w K tg (Itr lo n) [it] it (fun i h=>IsRangeIter h it (lo+(i:Nat)*1) ((n:Int)-(i:Nat)) 1) where
 mem:=by simp
 obj:=fun i h st b hb=>by
  have e:b=it:=by simpa using hb
  subst e
  exact ⟨_,st,fun v z=>by
   have z':Data.fields _=Data.cell v:=z
   cases z'⟩
 keep:=fun i h h' st k=>k it (by simp) _ st
 item:=by
  intro X hP hw hK hc i pins s σ H E I hf st hg
  subst hP hw hK
  obtain ⟨f0,f1,f2,f3,f4,f5⟩:=hf it (by simp)
  have W:=Walks.range (prog:=X.prog) (w:=X.w) (I.ok.hd hc) it lo 1 n
  refine W.item i s _ _ hg st fun v h' tk hv st' kk=>?_
  obtain ⟨t,rfl⟩:=hv
  have I1:Inv X pins σ H {s with heap:=h',toks:=tk}:=I.turned (fun b o hb e=>kk b o (by simpa using hb) e) f0 f1 f3 f4 f5
  refine ⟨_,rfl,kj (s:={s with heap:=h',toks:=tk}) (n:="range_iterator") st' rfl rfl (by decide) ⟨.int (lo+i),H,I1,⟨t,?_⟩,⟨rfl,rfl⟩,st',fun b hb=>(hf b hb).1⟩⟩
  rw [Int.mul_one]
 done:=by
  intro X hP hw hK hc i pins s σ H E I hf st hg
  subst hP hw hK
  obtain ⟨f0,f1,f2,f3,f4,f5⟩:=hf it (by simp)
  exact wpAny_pyNext_range_end (I.ok.hd hc) st (by have:n<=i:=hg;omega) fun h' eb=>⟨rfl,I.turned (t':=s.toks) (fun b o hb e=>eb b o hb e) f0 f1 f3 f4 f5⟩
 self:=fun _ _ _ _ _ st h=>wpAny_pyIter_rangeiter st h
section
variable {X:Cx} {tg:Expr}
def yX (K:PySem.W.Frag) (tl:TE):TI:=fun σ H R=>tl σ H fun x H1=>∃ a,x=.ref a/\(∃ xs,SqL K H1 a xs)/\R (Itl K a) H1
def iTup (K:PySem.W.Frag) (tl:TE):TI:=fun σ H R=>tl σ H fun x H1=>∃ a,x=.ref a/\(∃ xs,SqT K H1 a xs)/\R (Itt K a) H1
def lH {l:Expr} {tl:TE} (hl:PE X l tl):PI X tg l (yX X.K tl):=by
 intro pins s σ H R I h
 refine thn (hl pins s σ H _ I h) fun v s1 ⟨x,H1,I1,r1,q1⟩=>?_
 obtain ⟨a,e,⟨xs,hq⟩,q⟩:=q1
 subst e
 cases r1
 obtain ⟨its,rv,p,hz⟩:=I1.list hq
 refine wpAny_pyIter_list p.isList ?_
 refine ⟨s1.heap.objs.size,[s1.heap.objs.size],_,_,H1,rfl,I1.kept (t':=s1.toks) fun b o e=>gP _ e,qL a _,⟨_,Heap.get?_push_size _ rfl,rfl,rfl⟩,fun b hb=>?_,q⟩
 have e:b=s1.heap.objs.size:=by simpa using hb
 subst e
 exact I1.fpOk (nL _) (I1.hok.fresh (nL _))
def rW {l:Expr} {tl:TE} (hl:PE X l tl):PI X tg l (iTup X.K tl):=by
 intro pins s σ H R I h
 refine thn (hl pins s σ H _ I h) fun v s1 ⟨x,H1,I1,r1,q1⟩=>?_
 obtain ⟨a,e,⟨xs,hq⟩,q⟩:=q1
 subst e
 cases r1
 obtain ⟨its,rv,p,hz⟩:=I1.tuple hq
 refine wpAny_pyIter_tuple (show s1.heap.IsTuple a its.toArray from p) ?_
 refine ⟨s1.heap.objs.size,[s1.heap.objs.size],_,_,H1,rfl,I1.kept (t':=s1.toks) fun b o e=>gP _ e,n6 a _,⟨_,Heap.get?_push_size _ rfl,rfl,rfl⟩,fun b hb=>?_,q⟩
 have e:b=s1.heap.objs.size:=by simpa using hb
 subst e
 exact I1.fpOk (nL _) (I1.hok.fresh (nL _))
def rX {pins:List (Addr×Obj)} {σ:St} {H:Hp} {s:Shared} {R:It->Hp->Prop} {E:Value->Shared->Prop} {lo hi:Int} {t u v:Tok} {tk:Nat} (I:Inv X pins σ H s) (h1:-(2^62)<=lo) (h2:lo<2^62) (h3:-(2^62)<=hi) (h4:hi<2^62)
  (q:R (Itr lo (hi-lo).toNat) H):wpAny (model X.prog X.w) X.A (pyIter (.ref s.heap.objs.size)) (PIE X pins σ tg R) E {s with heap:=s.heap.push {cls:=.type "range",data:=.fields #[.int lo t,.int hi u,.int 1 v]},toks:=tk}:=by
 refine wpAny_pyIter_range (IsRange.new ..) (small_one h1 h2 h3 h4) ?_
 have I1:Inv X pins σ H {s with heap:=s.heap.push {cls:=.type "range",data:=.fields #[.int lo t,.int hi u,.int 1 v]},toks:=tk}:=I.kept fun b o e=>gP _ e
 refine ⟨(s.heap.push {cls:=.type "range",data:=.fields #[.int lo t,.int hi u,.int 1 v]}).objs.size,[(s.heap.push {cls:=.type "range",data:=.fields #[.int lo t,.int hi u,.int 1 v]}).objs.size],_,_,H,rfl,
  I1.kept (t':=tk) fun b o e=>gP _ e,n8 _ lo (hi-lo).toNat,?_,fun b hb=>?_,q⟩
 · have e1:lo+((0:Nat):Int)*1=lo:=by simp
   have e2:(((hi-lo).toNat:Nat):Int)-((0:Nat):Int)=Builtin.Range.rangeSize lo hi 1:=by rw [rangeSize_one];split<;>omega
   show IsRangeIter _ _ (lo+((0:Nat):Int)*1) ((((hi-lo).toNat:Nat):Int)-((0:Nat):Int)) 1
   rw [e1,e2]
   exact Heap.get?_push_size _ rfl
 · have e:b=(s.heap.push {cls:=.type "range",data:=.fields #[.int lo t,.int hi u,.int 1 v]}).objs.size:=by simpa using hb
   subst e
   exact I1.fpOk (nL _) (I1.hok.fresh (nL _))
def wH (ta:TA):TI:=fun σ H R=>ta σ H fun vs H1=>∃ j:Int,vs=[.int j]/\-(2^62)<=j/\j<2^62/\R (Itr 0 j.toNat) H1
def qM {a:Expr} {ta:TA} {p pos:Pos} (hg:Gl X "range") (hm:X.mg "range"=none) (ha:PA X [a] ta) (hs:starEach [a] X.env=[(false,eval a X.env)]:=by rfl):PI X tg (.Call (.Name "range" p) [a] [] pos) (wH ta):=by
 intro pins s σ H R I h
 refine Call_ (lF I hg hm boot_range (PyProof.Rows.callWith_type1 (thn (ha pos pins s σ H _ I h) fun us s1 ⟨vs,H1,I1,r1,q1⟩=>?_) hs rfl))
 obtain ⟨j,e,q1,q2,q⟩:=q1
 subst e
 cases r1 with
 | cons r rr =>
  cases rr
  obtain ⟨t,rfl⟩:=r
  exact call_range_1 (rX I1 (by omega) (by omega) q1 q2 (by simpa using q))
noncomputable def tFor (wi:TI) (g:TG) (tb:TS):TS:=fun D σ H=>wi σ H fun J H1=>∃ W:Nat->Nat->St->Hp->Prop,(∃ m,W 0 m σ H1)/\∀ i m σ H,W i m σ H→
 (J.stop i H/\D.nx σ H)∨(J.go i H/\∃ N:St->Hp->Prop,(∀ σ' H',N σ' H'->∃ m',m'<m/\W (i+1) m' σ' H')/\∀ x H',J.yld i H x H'->g x σ H' fun σ2 H2=>tb {D with nx:=N,ct:=N,bk:=D.nx} σ2 H2)
def iw (fp:List Addr) (h:Heap):List (Addr×Obj):=fp.filterMap fun b=>(h.get? b).map fun o=>(b,o)
def cY {fp:List Addr} {h:Heap} {b:Addr} {o:Obj} (hb:b∈fp) (e:h.get? b=some o):(b,o)∈iw fp h:=List.mem_filterMap.mpr ⟨b,hb,by rw [e];rfl⟩
def qN {fp:List Addr} {h:Heap} {p:Addr×Obj} (hp:p∈iw fp h):p.1∈fp/\h.get? p.1=some p.2:=by
 obtain ⟨b,hb,e⟩:=List.mem_filterMap.mp hp
 cases q:h.get? b with
 | none=>rw [q] at e;cases e
 | some o =>
  rw [q] at e
  have e':(b,o)=p:=Option.some.inj e
  subst e'
  exact ⟨hb,q⟩
def Inv.pinned {pins:List (Addr×Obj)} {σ:St} {H:Hp} {s:Shared} {fp:List Addr} (I:Inv X pins σ H s) (hf:∀ b∈fp,iu X pins H b) (ho:∀ b∈fp,∃ o,s.heap.get? b=some o/\∀ v,o.data≠.cell v):Inv X (pins++iw fp s.heap) σ H s:=
 I.pins_of fun p hp=>(List.mem_append.mp hp).elim (fun z=>I.pin p (List.mem_append_right _ z)) fun z=>by
  obtain ⟨hb,e⟩:=qN z
  obtain ⟨f0,f1,f2,_⟩:=hf p.1 hb
  obtain ⟨o,e',d⟩:=ho p.1 hb
  rw [e] at e';cases e'
  exact ⟨e,f0,f1,f2,d⟩
def Inv.unpinned {pins pl:List (Addr×Obj)} {σ:St} {H:Hp} {s:Shared} (I:Inv X (pins++pl) σ H s):Inv X pins σ H s:=I.pins_of fun p hp=>I.pin p (List.mem_append_right _ (List.mem_append_left _ hp))
def lI {iter:Expr} {body:List Stmt} {wi:TI} {g:TG} {tb:TS} {pos:Pos} (hp:PassesOwn (model X.prog X.w) X.A X.env X.xe) (hc:X.calm=true) (hi:PI X tg iter wi) (hg:PG X tg g) (hb:PSs X body tb)
  (hs:∀ x,foldedSetIterable iter X.env x=pure x:=by intro _;rfl):PS X (.For tg iter body [] pos) (tFor wi g tb):=by
 intro pins s σ H D I h
 refine wpAny_For (thn (hi pins s σ H _ I h) fun v s1 h1=>thn h1 fun itv s2 h2=>?_) hs
 obtain ⟨it,fp,tn,J,H2,e,I2,T,st2,f2,W,⟨m0,w0⟩,turn⟩:=h2
 subst e
 -- what stays true of the iterator's objects through the loop
 have stat:∀ {H':Hp},(∀ b∈fp,H' b=none)->∀ b∈fp,iu X pins H' b:=fun hn b hb=>⟨hn b hb,(f2 b hb).2⟩
 refine codeAny_forLoop_any (fun n s'=>∃ i σ' H',Inv X pins σ' H' s'/\tn i s'.heap/\(∀ b∈fp,H' b=none)/\W i n σ' H') ?_ m0 ⟨0,σ,H2,I2,st2,fun b hb=>(f2 b hb).1,w0⟩
 rintro n s3 ⟨i,σ3,H3,I3,st3,fr3,w3⟩
 rcases turn i n σ3 H3 w3 with ⟨stop,qn⟩ | ⟨go,N,hN,step⟩
 · refine wpAny_passesOwn hp (thn (T.done X rfl rfl rfl hc i pins s3 σ3 H3 X.xe I3 (stat fr3) st3 stop) fun r s4 ⟨hr,I4⟩=>?_)
   subst hr
   exact wpAny_execs_nil ⟨σ3,H3,I4,qn⟩
 · refine wpAny_passesOwn hp (thn (T.item X rfl rfl rfl hc i pins s3 σ3 H3 X.xe I3 (stat fr3) st3 go) fun r s4 ⟨u,hr,h4⟩=>?_)
   subst hr
   refine wpAny_passesOwn hp (thn h4 fun _ s5 ⟨x,H5,I5,r5,y5,st5,fr5⟩=>?_)
   have I5':=I5.pinned (stat fr5) (T.obj _ _ st5)
   refine wpAny_passesOwn hp (thn (hg _ s5 σ3 H5 x u _ I5' r5 (step x H5 y5)) fun _ s6 ⟨σ6,H6,I6,q6⟩=>?_)
   refine wpAny_passesOwn hp (thn (hb _ s6 σ6 H6 _ I6 q6) fun f s7 q7=>?_)
   have again:∀ {σ7:St} {H7:Hp},Inv X (pins++iw fp s5.heap) σ7 H7 s7->N σ7 H7->∃ m,m<n/\∃ i σ' H',Inv X pins σ' H' s7/\tn i s7.heap/\(∀ b∈fp,H' b=none)/\W i m σ' H':=fun {σ7 H7} I7 n7=>by
    obtain ⟨m',hm,w7⟩:=hN σ7 H7 n7
    refine ⟨m',hm,i+1,σ7,H7,I7.unpinned,T.keep _ _ _ st5 fun b hb o e=>(I7.pin (b,o) (List.mem_append_right _ (List.mem_append_right _ (cY hb e)))).1,fun b hb=>?_,w7⟩
    obtain ⟨o,e,d⟩:=T.obj _ _ st5 b hb
    exact (I7.pin (b,o) (List.mem_append_right _ (List.mem_append_right _ (cY hb e)))).2.1
   cases f with
   | next=>obtain ⟨σ7,H7,I7,n7⟩:=q7;exact again I7 n7
   | cont=>obtain ⟨σ7,H7,I7,n7⟩:=q7;exact again I7 n7
   | brk=>obtain ⟨σ7,H7,I7,q7⟩:=q7;exact ⟨σ7,H7,I7.unpinned,q7⟩
   | ret v=>obtain ⟨x7,σ7,H7,I7,r7,q7⟩:=q7;exact ⟨x7,σ7,H7,I7.unpinned,r7,q7⟩
end
abbrev R2:=V->V->Hp->VK->Prop
noncomputable def OpR (X:Cx) (f:Value->Value->Sem Value) (r:R2):Prop:=
 ∀ (pins:List (Addr×Obj)) (s:Shared) (σ:St) (H:Hp) (x y:V) (v u:Value) (Q:VK),Inv X pins σ H s->RelV x v->RelV y u->r x y H Q→
  wpAny (model X.prog X.w) X.A (f v u) (EP X pins σ Q) X.xe s
noncomputable def UnR (X:Cx) (f:Value->Sem Value) (r:V->Hp->VK->Prop):Prop:=
 ∀ (pins:List (Addr×Obj)) (s:Shared) (σ:St) (H:Hp) (x:V) (v:Value) (Q:VK),Inv X pins σ H s->RelV x v->r x H Q→
  wpAny (model X.prog X.w) X.A (f v) (EP X pins σ Q) X.xe s
noncomputable def dL (X:Cx) (f:Value) (r:List V->Hp->VK->Prop):Prop:=
 ∀ (pins:List (Addr×Obj)) (s:Shared) (σ:St) (H:Hp) (xs:List V) (us:List Value) (Q:VK),Inv X pins σ H s->Vals xs us->r xs H Q→
  wpAny (model X.prog X.w) X.A (call f us) (EP X pins σ Q) X.xe s
noncomputable def TruR (X:Cx) (r:V->Hp->(Bool->Hp->Prop)->Prop):Prop:=
 ∀ (pins:List (Addr×Obj)) (s:Shared) (σ:St) (H:Hp) (x:V) (v:Value) (Q:Bool->Hp->Prop),Inv X pins σ H s->RelV x v->r x H Q→
  wpAny (model X.prog X.w) X.A (truthy v) (TP X pins σ Q) X.xe s
def tOp (r:R2) (ta tb:TE):TE:=fun σ H Q=>ta σ H fun x H1=>tb σ H1 fun y H2=>r x y H2 Q
def rI (C:Int->Int->Prop) (g:Int->Int->V):R2:=fun x y H Q=>∃ i j,x=.int i/\y=.int j/\C i j/\Q (g i j) H
def rI0 (g:Int->Int->V):R2:=fun x y H Q=>∃ i j,x=.int i/\y=.int j/\Q (g i j) H
section
variable {X:Cx} {a b c:Expr} {ta tb tc:TE} {pos:Pos}
def xD (ha:PE X a ta) (hb:PE X b tb) {pins:List (Addr×Obj)} {s:Shared} {σ:St} {H:Hp} {R:V->V->Hp->Prop} (I:Inv X pins σ H s)
  (h:ta σ H fun x H1=>tb σ H1 fun y H2=>R x y H2) {Q:Value->Shared->Prop} {f:Value->Value->Sem Value}
  (hf:∀ v u s2 x y H2,Inv X pins σ H2 s2->RelV x v->RelV y u->R x y H2->wpAny (model X.prog X.w) X.A (f v u) Q X.xe s2) :
  wpAny (model X.prog X.w) X.A (eval a X.env) (fun v s₁=>wpAny (model X.prog X.w) X.A (eval b X.env) (fun u s₂=>wpAny (model X.prog X.w) X.A (f v u) Q X.xe s₂) X.xe s₁) X.xe s:=by
 refine thn (ha pins s σ H _ I h) fun v s1 ⟨x,H1,I1,r1,q1⟩=>?_
 refine thn (hb pins s1 σ H1 _ I1 q1) fun u s2 ⟨y,H2,I2,r2,q2⟩=>?_
 exact hf v u s2 x y H2 I2 r1 r2 q2
def px {op:Operator} {r:R2} (ho:OpR X (binaryOp op) r) (ha:PE X a ta) (hb:PE X b tb):PE X (.BinOp a op b pos) (tOp r ta tb):=by
 intro pins s σ H Q I h
 exact wpAny_BinOp (xD ha hb I h fun v u s2 x y H2 I2 rx ry q=>ho pins s2 σ H2 x y v u Q I2 rx ry q)
def opI {f:Value->Value->Sem Value} {C:Int->Int->Prop} {g:Int->Int->Int}
  (rule:∀ (i j:Int) (t u:Tok) (s:Shared) (Q:Value->Shared->Prop) (E:Value->Shared->Prop),C i j->Q (.int (g i j) s.toks) {s with toks:=s.toks+1}->wpAny (model X.prog X.w) X.A (f (.int i t) (.int j u)) Q E s) :
  OpR X f (rI C fun i j=>.int (g i j)):=by
 intro pins s σ H x y v u Q I rx ry h
 obtain ⟨i,j,rfl,rfl,hc,q⟩:=h
 obtain ⟨t,rfl⟩:=rx
 obtain ⟨t',rfl⟩:=ry
 exact rule i j t t' s _ _ hc ⟨.int (g i j),H,I.tok _,⟨_,rfl⟩,q⟩
def opI0 {f:Value->Value->Sem Value} {g:Int->Int->Int}
  (rule:∀ (i j:Int) (t u:Tok) (s:Shared) (Q:Value->Shared->Prop) (E:Value->Shared->Prop),Q (.int (g i j) s.toks) {s with toks:=s.toks+1}->wpAny (model X.prog X.w) X.A (f (.int i t) (.int j u)) Q E s) :
  OpR X f (rI0 fun i j=>.int (g i j)):=by
 intro pins s σ H x y v u Q I rx ry h
 obtain ⟨i,j,rfl,rfl,q⟩:=h
 obtain ⟨t,rfl⟩:=rx
 obtain ⟨t',rfl⟩:=ry
 exact rule i j t t' s _ _ ⟨.int (g i j),H,I.tok _,⟨_,rfl⟩,q⟩
def opB0 {f:Value->Value->Sem Value} {g:Int->Int->Bool}
  (rule:∀ (i j:Int) (t u:Tok) (s:Shared) (Q:Value->Shared->Prop) (E:Value->Shared->Prop),Q (.bool (g i j)) s->wpAny (model X.prog X.w) X.A (f (.int i t) (.int j u)) Q E s) :
  OpR X f (rI0 fun i j=>.bl (g i j)):=by
 intro pins s σ H x y v u Q I rx ry h
 obtain ⟨i,j,rfl,rfl,q⟩:=h
 obtain ⟨t,rfl⟩:=rx
 obtain ⟨t',rfl⟩:=ry
 exact rule i j t t' s _ _ ⟨.bl (g i j),H,I,rfl,q⟩
def xE (i j:Int):Prop:=0<j/\j<1073741824
def xF (i j:Int):Prop:=0<=j/\j<=1000000/\i.natAbs<2^64
def CMul (i j:Int):Prop:=(-(2^64)<i/\i<2^64)∨(-(2^64)<j/\j<2^64)
def CMul.ok {i j:Int} (h:CMul i j):IntMulOk i j:=by
 rcases h with ⟨h1,h2⟩ | ⟨h1,h2⟩
 · exact .of_left (intBits_le_64 h1 h2)
 · exact .of_right (intBits_le_64 h1 h2)
def xG:OpR X (binaryOp .Add) (rI0 fun i j=>.int (i+j)):=opI0 fun _ _ _ _ _ _ _ q=>add_int q
def rY:OpR X (binaryOp .Sub) (rI0 fun i j=>.int (i-j)):=opI0 fun _ _ _ _ _ _ _ q=>sub_int q
def eJ:OpR X (binaryOp .Mult) (rI CMul fun i j=>.int (i*j)):=opI fun _ _ _ _ _ _ _ hc q=>mul_int q hc.ok
def pz:OpR X (binaryOp .FloorDiv) (rI xE fun i j=>.int (i/j)):=opI fun i j _ _ _ _ _ hc q=>by
 have h1:(0:Int)<j:=hc.1
 have h2:j<1073741824:=hc.2
 exact floordiv_int (by omega) (by rw [Int.fdiv_eq_ediv_of_nonneg i (by omega)];exact q) (.inl (PyProof.noPylong_small (by omega)))
def dt:OpR X (binaryOp .Mod) (rI (fun _ j=>0<j) fun i j=>.int (i%j)):=opI fun i j _ _ _ _ _ hc q=>by
 have h1:(0:Int)<j:=hc
 exact mod_int' (by omega) (by rw [Int.fmod_eq_emod_of_nonneg i (by omega)];exact q)
def rZ:OpR X (binaryOp .Pow) (rI xF fun i j=>.int (i^j.toNat)):=opI fun _ _ _ _ _ _ _ hc q=>pow_int_small hc.1 hc.2.1 hc.2.2 q
end
noncomputable def xH:V->V->Bool
 | .non,.non=>true | .non,.int _=>true | .int _,.non=>true | .non,.bl _=>true | .bl _,.non=>true | .non,.str _=>true | .str _,.non=>true
 | .int _,.int _=>true | .bl _,.bl _=>true | .str _,.str _=>true | .byt _,.byt _=>true
 | .int _,.str _=>true | .str _,.int _=>true | .bl _,.str _=>true | .str _,.bl _=>true
 | _,_=>false
def rEq:R2:=fun x y H Q=>xH x y=true/\Q (.bl (decide (x=y))) H
def rNe:R2:=fun x y H Q=>xH x y=true/\Q (.bl (!decide (x=y))) H
def pA {i j:Int}:decide (V.int i=V.int j)=(i==j):=by
 rw [Bool.eq_iff_iff]
 simp
def r6 {i j:Bool}:decide (V.bl i=V.bl j)=(i==j):=by
 rw [Bool.eq_iff_iff]
 simp
def pB {i j:Str}:decide (V.str i=V.str j)=(i==j):=by
 rw [Bool.eq_iff_iff]
 simp
def pC {i j:Array UInt8}:decide (V.byt i=V.byt j)=(i.toList==j.toList):=by
 rw [Bool.eq_iff_iff]
 cases i
 cases j
 simp
section
variable {X:Cx} {a b c:Expr} {ta tb tc:TE} {pos:Pos}
def bh {pins:List (Addr×Obj)} {σ:St} {H:Hp} {s:Shared} {Q:VK} {k k':Bool} (I:Inv X pins σ H s) (q:Q (.bl k) H) (e:k=k'):EP X pins σ Q (.bool k') s:=by
 subst e
 exact ⟨.bl k,H,I,rfl,q⟩
def yY:OpR X (compareOp .Eq) rEq:=by
 intro pins s σ H x y v u Q I rx ry h
 obtain ⟨hs,q⟩:=h
 cases x with
 | non =>
  cases rx
  cases y with
  | non=>cases ry;exact PySem.EqNone.eq_none_none (bh I q (by simp))
  | bl j=>cases ry;exact PySem.EqNone.eq_none_bool (bh I q (by simp))
  | int j=>obtain ⟨t',rfl⟩:=ry;exact PySem.EqNone.eq_none_int (bh I q (by simp))
  | str j=>obtain ⟨t',rfl⟩:=ry;exact PySem.EqNone.eq_none_str (bh I q (by simp))
  | _=>exact absurd (show false=true from hs) Bool.false_ne_true
 | bl i =>
  cases rx
  cases y with
  | non=>cases ry;exact PySem.EqNone.eq_bool_none (bh I q (by simp))
  | bl j=>cases ry;exact eq_bool (bh I q r6)
  | str j=>obtain ⟨t',rfl⟩:=ry;exact PySem.EqMixed.eq_bool_str (bh I q (by simp))
  | _=>exact absurd (show false=true from hs) Bool.false_ne_true
 | int i =>
  obtain ⟨t,rfl⟩:=rx
  cases y with
  | non=>cases ry;exact PySem.EqNone.eq_int_none (bh I q (by simp))
  | int j=>obtain ⟨t',rfl⟩:=ry;exact eq_int (bh I q pA)
  | str j=>obtain ⟨t',rfl⟩:=ry;exact PySem.EqMixed.eq_int_str (bh I q (by simp))
  | _=>exact absurd (show false=true from hs) Bool.false_ne_true
 | str i =>
  obtain ⟨t,rfl⟩:=rx
  cases y with
  | non=>cases ry;exact PySem.EqNone.eq_str_none (bh I q (by simp))
  | bl j=>cases ry;exact PySem.EqMixed.eq_str_bool (bh I q (by simp))
  | int j=>obtain ⟨t',rfl⟩:=ry;exact PySem.EqMixed.eq_str_int (bh I q (by simp))
  | str j=>obtain ⟨t',rfl⟩:=ry;exact eq_str (bh I q pB)
  | _=>exact absurd (show false=true from hs) Bool.false_ne_true
 | byt i =>
  obtain ⟨t,rfl⟩:=rx
  cases y with
  | byt j=>obtain ⟨t',rfl⟩:=ry;exact PySem.W.eq_bytes (bh I q pC)
  | _=>exact absurd (show false=true from hs) Bool.false_ne_true
 | _=>cases y<;>exact absurd (show false=true from hs) Bool.false_ne_true
def yZ:OpR X (compareOp .NotEq) rNe:=by
 intro pins s σ H x y v u Q I rx ry h
 obtain ⟨hs,q⟩:=h
 cases x with
 | non =>
  cases rx
  cases y with
  | non=>cases ry;exact PySem.EqNone.ne_none_none (bh I q (by simp))
  | bl j=>cases ry;exact PySem.EqNone.ne_none_bool (bh I q (by simp))
  | int j=>obtain ⟨t',rfl⟩:=ry;exact PySem.EqNone.ne_none_int (bh I q (by simp))
  | str j=>obtain ⟨t',rfl⟩:=ry;exact PySem.EqNone.ne_none_str (bh I q (by simp))
  | _=>exact absurd (show false=true from hs) Bool.false_ne_true
 | bl i =>
  cases rx
  cases y with
  | non=>cases ry;exact PySem.EqNone.ne_bool_none (bh I q (by simp))
  | bl j=>cases ry;exact ne_bool (bh I q (congrArg not r6))
  | str j=>obtain ⟨t',rfl⟩:=ry;exact PySem.EqMixed.ne_bool_str (bh I q (by simp))
  | _=>exact absurd (show false=true from hs) Bool.false_ne_true
 | int i =>
  obtain ⟨t,rfl⟩:=rx
  cases y with
  | non=>cases ry;exact PySem.EqNone.ne_int_none (bh I q (by simp))
  | int j=>obtain ⟨t',rfl⟩:=ry;exact ne_int (bh I q (congrArg not pA))
  | str j=>obtain ⟨t',rfl⟩:=ry;exact PySem.EqMixed.ne_int_str (bh I q (by simp))
  | _=>exact absurd (show false=true from hs) Bool.false_ne_true
 | str i =>
  obtain ⟨t,rfl⟩:=rx
  cases y with
  | non=>cases ry;exact PySem.EqNone.ne_str_none (bh I q (by simp))
  | bl j=>cases ry;exact PySem.EqMixed.ne_str_bool (bh I q (by simp))
  | int j=>obtain ⟨t',rfl⟩:=ry;exact PySem.EqMixed.ne_str_int (bh I q (by simp))
  | str j=>obtain ⟨t',rfl⟩:=ry;exact ne_str (bh I q (congrArg not pB))
  | _=>exact absurd (show false=true from hs) Bool.false_ne_true
 | byt i =>
  obtain ⟨t,rfl⟩:=rx
  cases y with
  | byt j=>obtain ⟨t',rfl⟩:=ry;exact PySem.W.ne_bytes (bh I q (congrArg not pC))
  | _=>exact absurd (show false=true from hs) Bool.false_ne_true
 | _=>cases y<;>exact absurd (show false=true from hs) Bool.false_ne_true
def pD:OpR X (compareOp .Lt) (rI0 fun i j=>.bl (decide (i<j))):=opB0 fun _ _ _ _ _ _ _ q=>lt_int q
def y0:OpR X (compareOp .Gt) (rI0 fun i j=>.bl (decide (j<i))):=opB0 fun _ _ _ _ _ _ _ q=>gt_int q
def r8:OpR X (compareOp .Is) (fun x y H Q=>y=.non/\Q (.bl (decide (x=.non))) H):=by
 intro pins s σ H x y v u Q I rx ry h
 obtain ⟨rfl,q⟩:=h
 cases ry
 refine is_none_gen (bh I q ?_)
 cases x<;>first
  | (cases rx;rfl)
  | (obtain ⟨t,rfl⟩:=rx;rfl)
def u3:OpR X (compareOp .IsNot) (fun x y H Q=>y=.non/\Q (.bl (!decide (x=.non))) H):=by
 intro pins s σ H x y v u Q I rx ry h
 obtain ⟨rfl,q⟩:=h
 cases ry
 refine isnot_none_gen (bh I q ?_)
 cases x<;>first
  | (cases rx;rfl)
  | (obtain ⟨t,rfl⟩:=rx;rfl)
def OpR.or {f:Value->Value->Sem Value} {r r':R2} (h:OpR X f r) (h':OpR X f r'):OpR X f (fun x y H Q=>r x y H Q∨r' x y H Q):=by
 intro pins s σ H x y v u Q I rx ry q
 rcases q with q | q
 · exact h pins s σ H x y v u Q I rx ry q
 · exact h' pins s σ H x y v u Q I rx ry q
def b6 (b:Expr) {op:CmpOp} (h:op≠.In:=by decide) (h2:op≠.NotIn:=by decide):behindInMarks op b=false:=by
 have e1:(op==CmpOp.In)=false:=by cases op<;>first | rfl | exact absurd rfl h
 have e2:(op==CmpOp.NotIn)=false:=by cases op<;>first | rfl | exact absurd rfl h2
 cases b<;>simp [behindInMarks,e1,e2]
def pE {op:CmpOp} {r:R2} (ho:OpR X (compareOp op) r) (ha:PE X a ta) (hb:PE X b tb) (hm:behindInMarks op b=false):PE X (.Compare a [op] [b] pos) (tOp r ta tb):=by
 intro pins s σ H Q I h
 exact wpAny_Compare1 (xD ha hb I h fun v u s2 x y H2 I2 rx ry q=>ho pins s2 σ H2 x y v u Q I2 rx ry q) hm
def za (t:TE):TT:=fun σ H Q=>t σ H fun x H'=>∃ k,x=.bl k/\Q k H'
def pF {op:CmpOp} {r:R2} (ho:OpR X (compareOp op) r) (ha:PE X a ta) (hb:PE X b tb) (hm:behindInMarks op b=false):PT X (.Compare a [op] [b] pos) (za (tOp r ta tb)):=by
 intro pins s σ H Q I h
 refine wpAny_isTrue_Compare1 (thn (ha pins s σ H _ I h) fun v s1 ⟨x,H1,I1,r1,q1⟩=>thn (hb pins s1 σ H1 _ I1 q1) fun u s2 ⟨y,H2,I2,r2,q2⟩ =>
  thn (ho pins s2 σ H2 x y v u _ I2 r1 r2 q2) fun c s3 ⟨z,H3,I3,r3,k,e,q3⟩=>?_) hm
 subst e
 cases r3
 exact wpAny_truthy_bool ⟨H3,I3,q3⟩
noncomputable def xI (K:PySem.W.Frag) (x:V) (H:Hp) (k:Bool):Prop:=
 match x with
 | .non=>k=false
 | .bl b=>k=b
 | .int i=>k=(i != 0)
 | .str y=>y.length<=sizeLine/\k=((y.length:Int) != 0)
 | .byt y=>y.size<=sizeLine/\k=((y.size:Int) != 0)
 | .ref p=>(∃ xs,SqL K H p xs/\k=!xs.isEmpty)∨(∃ xs,SqT K H p xs/\k=!xs.isEmpty)∨∃ kvs,H p=some (.dK kvs)/\k=!kvs.isEmpty
 | _=>False
def n9 {κ:Type} {kvs:List (κ×V)} {vs:List (κ×Value)} (r:KV kvs vs):(!vs.isEmpty)=!kvs.isEmpty:=by
 cases r<;>rfl
def jp {xs:List V} {its:List Value} (r:Vals xs its):(!its.toArray.isEmpty)=!xs.isEmpty:=by
 cases r<;>simp
def ix:(sizeLine:Nat)<2^63:=by rw [sizeLine_eq];decide
def xJ:TruR X (fun x H Q=>∃ k,xI X.K x H k/\Q k H):=by
 intro pins s σ H x v Q I rx h
 obtain ⟨k,e,q⟩:=h
 have hl:=ix
 have hs:sizeLine=16777216:=sizeLine_eq
 cases x with
 | non =>
  cases rx
  have e':k=false:=e
  subst e'
  exact truthy_none ⟨H,I,q⟩
 | bl b =>
  cases rx
  have e':k=b:=e
  subst e'
  exact wpAny_truthy_bool ⟨H,I,q⟩
 | int i =>
  obtain ⟨t,rfl⟩:=rx
  have e':k=(i != 0):=e
  subst e'
  exact PySem.P.truthy_int ⟨H,I,q⟩
 | str y =>
  obtain ⟨t,rfl⟩:=rx
  obtain ⟨hy,e'⟩:y.length<=sizeLine/\k=((y.length:Int) != 0):=e
  subst e'
  exact PySem.P.truthy_str (by omega) ⟨H,I.tok _,q⟩
 | byt y =>
  obtain ⟨t,rfl⟩:=rx
  obtain ⟨hy,e'⟩:y.size<=sizeLine/\k=((y.size:Int) != 0):=e
  subst e'
  exact PySem.W.truthy_bytes (by omega) ⟨H,I.tok _,q⟩
 | ref p =>
  cases rx
  have e':(∃ xs,SqL X.K H p xs/\k=!xs.isEmpty)∨(∃ xs,SqT X.K H p xs/\k=!xs.isEmpty)∨∃ kvs,H p=some (.dK kvs)/\k=!kvs.isEmpty:=e
  rcases e' with ⟨xs,hx,e'⟩ | ⟨xs,hx,e'⟩ | ⟨kvs,hx,e'⟩
  · subst e'
    obtain ⟨its,r,pl,hz⟩:=I.list hx
    have hlen:=r.length
    exact wpAny_truthy_list pl.isList (by simp only [List.size_toArray];omega) ⟨H,I.tok _,by rw [jp r];exact q⟩
  · subst e'
    obtain ⟨its,r,pl,hz⟩:=I.tuple hx
    have hlen:=r.length
    exact truthy_tuple pl (by simp only [List.size_toArray];omega) ⟨H,I.tok _,by rw [jp r];exact q⟩
  · subst e'
    obtain ⟨hz,hS,vs,r,m⟩:kvs.length<=sizeLine/\(p==sysModules)=false/\∃ vs,KV kvs vs/\s.heap.DictOf (bf X.prog X.w) p vs:=I.hok p _ hx
    have hlen:kvs.length=vs.length:=Paired.length r
    exact wpAny_truthy_dict hS m (by omega) ⟨H,I.tok _,by rw [n9 r];exact q⟩
 | _=>exact (show False from e).elim
def mP (ha:PE X a ta) (he:∀ whole,isTrue a X.env whole=(do let v <- whole;standAt a.pos;holding [v] (truthy v))) :
  PT X a (fun σ H Q=>ta σ H fun x H'=>∃ k,xI X.K x H' k/\Q k H'):=by
 intro pins s σ H Q I h
 exact isTrue_plain (thn (ha pins s σ H _ I h) fun v s1 ⟨x,H1,I1,r1,q1⟩=>xJ pins s1 σ H1 x v Q I1 r1 q1) (he _)
def oe:OpR X (binaryOp .Add) (fun x y H Q=>∃ i j,x=.str i/\y=.str j/\i.length+j.length<=sizeLine/\Q (.str (i++j)) H):=by
 intro pins s σ H x y v u Q I rx ry h
 obtain ⟨i,j,rfl,rfl,hz,q⟩:=h
 obtain ⟨t,rfl⟩:=rx
 obtain ⟨t',rfl⟩:=ry
 exact add_str (fun t' tk=>⟨.str (i++j),H,I.tok _,⟨_,rfl⟩,q⟩) hz
def jq {x:V} {us:List Value} (r:Vals [x] us):∃ u,us=[u]/\RelV x u:=by
 cases r with
 | cons r1 r2=>cases r2;exact ⟨_,rfl,r1⟩
def wI {x y:V} {us:List Value} (r:Vals [x,y] us):∃ u w',us=[u,w']/\RelV x u/\RelV y w':=by
 cases r with
 | cons r1 r2 =>
  cases r2 with
  | cons r3 r4=>cases r4;exact ⟨_,_,rfl,r1,r3⟩
noncomputable def LenV (K:PySem.W.Frag) (x:V) (H:Hp) (n:Nat):Prop:=
 match x with
 | .str y=>y.length<=sizeLine/\n=y.length
 | .byt y=>y.size<=sizeLine/\n=y.size
 | .ref p=>(∃ xs,SqL K H p xs/\n=xs.length)∨∃ xs,SqT K H p xs/\n=xs.length
 | _=>False
def cj:dL X (.builtin "len") (fun xs H Q=>∃ x n,xs=[x]/\LenV X.K x H n/\Q (.int n) H):=by
 intro pins s σ H xs us Q I r h
 obtain ⟨x,n,rfl,e,q⟩:=h
 obtain ⟨u,rfl,rx⟩:=jq r
 have hl:=ix
 have hs:sizeLine=16777216:=sizeLine_eq
 cases x with
 | str y =>
  obtain ⟨t,rfl⟩:=rx
  obtain ⟨hy,e'⟩:y.length<=sizeLine/\n=y.length:=e
  subst e'
  exact len_str (by omega) ⟨.int _,H,I.tok _,⟨_,rfl⟩,q⟩
 | byt y =>
  obtain ⟨t,rfl⟩:=rx
  obtain ⟨hy,e'⟩:y.size<=sizeLine/\n=y.size:=e
  subst e'
  exact PySem.W.len_bytes (by omega) ⟨.int _,H,I.tok _,⟨_,rfl⟩,q⟩
 | ref p =>
  cases rx
  have e':(∃ xs,SqL X.K H p xs/\n=xs.length)∨∃ xs,SqT X.K H p xs/\n=xs.length:=e
  rcases e' with ⟨xs,hx,e'⟩ | ⟨xs,hx,e'⟩
  · subst e'
    obtain ⟨its,r',pl,hz⟩:=I.list hx
    have hlen:=r'.length
    exact Calls.call_len_list pl.isList (by simp only [List.size_toArray];omega) ⟨.int xs.length,H,I.tok _,⟨_,by simp only [List.size_toArray];rw [hlen]⟩,q⟩
  · subst e'
    obtain ⟨its,r',pl,hz⟩:=I.tuple hx
    have hlen:=r'.length
    exact len_tuple pl (by simp only [List.size_toArray];omega) ⟨.int xs.length,H,I.tok _,⟨_,by simp only [List.size_toArray];rw [hlen]⟩,q⟩
 | _=>exact (show False from e).elim
end
structure ObjM (h:Heap) (x dx C:Addr) (mA:Str->Option Value):Prop where
 obj:h.get? x=some (PySem.W.instObj C dx)
 ns:h.Ns1 dx mA
 ne:dx≠x
def qO {h:Heap} {dx:Addr} {mA:Str->Option Value} (n:h.Ns1 dx mA):∃ od,h.get? dx=some od/\∀ name,PySem.W.lookIn name od=some (mA name):=by
 obtain ⟨o,es,ep,ho,hd,hk,_,hm⟩:=n
 refine ⟨o,ho,fun name=>?_⟩
 have e:=hm name
 unfold nsFind findBy at e
 rw [<- Array.find?_toList] at e
 unfold PySem.W.lookIn
 rw [hd]
 dsimp only
 split
 · rename_i y q
   rw [q] at e
   exact congrArg some e
 · rename_i q
   rw [q] at e
   have a:es.toList.any (·.refKey)=false:=by
    rw [List.any_eq_false]
    intro y hy
    obtain ⟨z,t,hkey⟩:=hk y (Array.mem_toList_iff.mp hy)
    simp [DictEntry.refKey,hkey]
   have a':¬ es.toList.any (·.refKey)=true:=by rw [a];exact Bool.false_ne_true
   rw [if_neg a']
   exact congrArg some e
def ObjM.look {h:Heap} {x dx C:Addr} {mA:Str->Option Value} (I:ObjM h x dx C mA):∃ od,PySem.W.InstAt h x (PySem.W.instObj C dx) C (some od)/\∀ name,PySem.W.lookIn name od=some (mA name):=
 let ⟨od,ho,hl⟩:=qO I.ns
 ⟨od,⟨I.obj,rfl,rfl,ho⟩,hl⟩
section
variable {prog:Program} {w:World} {A:Around} {E:Value->Shared->Prop} {s:Shared} {K:PySem.W.Frag} {x dx C f:Addr} {mA:Str->Option Value} {name:Str} {v:Value}
def u4 {expr:Bool} {Q:Value->Shared->Prop} (X:K.In s.heap) (I:ObjM s.heap x dx C mA) (hg:PySem.W.plainGet K C name=true) (hh:PySem.W.hasDictIn K C=true)
  (ha:PySem.W.findIn K (.ref C) name=some none) (hv:mA name=some v) (hv':PySem.W.handedIn v=true) (h:Q v {s with toks:=s.toks+1}) :
  wpAny (model prog w) A (getAttr (.ref x) name expr) Q E s:=by
 obtain ⟨od,J,hl⟩:=I.look
 exact PySem.W.get_value X J (PySem.W.plainGet_of hg).1 (PySem.W.findObj_own hh ha rfl (by rw [hl,hv])) hv' h
def r9 {pl:Sem Bool} {Q:Value×List Value->Shared->Prop} (X:K.In s.heap) (I:ObjM s.heap x dx C mA) (hg:PySem.W.plainGet K C name=true)
  (hf:PySem.W.findIn K (.ref C) name=some (some (.ref f))) (ht:PySem.W.isFn K (.ref f)=true) (hv:mA name=none) (h:Q (.ref f,[.ref x]) s) :
  wpAny (model prog w) A (getMethod (.ref x) name pl) Q E s:=by
 obtain ⟨od,J,hl⟩:=I.look
 exact PySem.W.method_fn X J (PySem.W.plainGet_of hg).1 (PySem.W.plainGet_of hg).2 hf (beq_iff_eq.mp ht) (by show (PySem.W.lookIn name od).map (·.isSome)=some false;rw [hl,hv];rfl) h
def u5 {ns:List Str} {Q:Unit->Shared->Prop} (X:K.In s.heap) (I:ObjM s.heap x dx C mA)
  (hs:PySem.W.findIn K (.ref C) "__setattr__"=some (some (.builtin "object.__setattr__"))) (hp:PySem.W.plainOver K C=true) (ht:PySem.W.takerIn K C name=some none) (hh:PySem.W.hasDictIn K C=true)
  (hw:PySem.Within mA ns) (hsz:ns.length<=sizeLine)
  (h:∀ h',ObjM h' x dx C (fun y=>if y=name then some v else mA y)->Heap.SameBut dx s.heap h'->Q () {s with heap:=h',toks:=s.toks+2}) :
  wpAny (model prog w) A (setAttr (.ref x) name v) Q E s:=by
 obtain ⟨od,J,hl⟩:=I.look
 refine PySem.W.set_plain X J hs (PySem.W.osa_open (s:={s with toks:=s.toks+1}) (r:=none) X J hp ht fun b=>?_)
 obtain ⟨cd,hc,hd'⟩:=PySem.W.any_some hh
 have hx:s.heap.get? x=some ⟨.ref C,some dx,.plain,#[]⟩:=I.obj
 refine wB (wpAny_pure (wB (wB (wpAny_loadPart hx (wB (PySem.W.Looks.here (s:={s with toks:=s.toks+1}) (PySem.W.looks_clsIn X hc) ?_))))))
 rw [hd']
 refine wpAny_pure (a:=some dx) (wB (wpAny_pure (wB ?_)))
 refine wpAny_nsSet1 (s:={s with toks:=s.toks+1}) I.ns fun h' hn2 hs2=>?_
 obtain ⟨oD,esD,epD,hoD,hdD,hcD⟩:=hn2.count (PySem.Within.cons name v hw)
 refine wB (wpAny_lookBehind hoD (by rw [hdD];exact pastItsLine_dict (Nat.le_trans hcD (by rw [List.length_cons];omega))) ?_)
 exact wpAny_pure (h _ ⟨(hs2.2 _ (Ne.symm I.ne)).trans I.obj,hn2,I.ne⟩ hs2)
def sd {R:Result->Shared->Prop} {vs:List Value} {kw:List (Str×Value)} (X:K.In s.heap) (hm:PySem.W.makesIn K C=true)
  (hi:PySem.W.findIn K (.ref C) "__init__"=some (some (.ref f))) (hf:PySem.W.typeIn K (.ref f)=some (.type "function"))
  (h:codeAny (model prog w) (A.under (.builtin "type.__call__" ⟨.ref C::vs,kw⟩)) (.call (.ref f) ⟨.ref (s.heap.objs.size+1)::vs,kw⟩) (PySem.W.InitBack (s.heap.objs.size+1) R)
   {s with heap:=(s.heap.push PySem.W.emptyDict).push (PySem.W.instObj C s.heap.objs.size)}) :
  codeAny (model prog w) A (.call (.ref C) ⟨vs,kw⟩) R s:=by
 obtain ⟨hh,g,d,t,os⟩:=s
 exact PySem.W.make_core (PySem.W.makes_of X hm) (PySem.W.looks_findIn X hi) (fun self=>PySem.W.bind_fn X self hf) (.inl rfl) h
end
def eO (f:Str) (v:V):List (Str×V)->List (Str×V)
 | []=>[(f,v)]
 | (g,x)::r=>if g=f then (g,v)::r else (g,x)::eO f v r
def iJ (f g:Str) (v:V):∀ fs:List (Str×V),(eO f v fs).lookup g=if g=f then some v else fs.lookup g
 | []=>by
  show List.lookup g [(f,v)]=_
  by_cases h:g=f
  · have hb:(g==f)=true:=beq_iff_eq.mpr h
    simp only [List.lookup,hb,if_pos h]
  · have hb:(g==f)=false:=beq_eq_false_iff_ne.mpr h
    simp only [List.lookup,hb,if_neg h]
 | (k,x)::r=>by
  have ih:=iJ f g v r
  rw [show eO f v ((k,x)::r)=(if k=f then (k,v)::r else (k,x)::eO f v r) from rfl]
  by_cases hk:k=f
  · rw [if_pos hk]
    by_cases h:g=k
    · have hb:(g==k)=true:=beq_iff_eq.mpr h
      simp only [List.lookup,hb,if_pos (h.trans hk)]
    · have hb:(g==k)=false:=beq_eq_false_iff_ne.mpr h
      simp only [List.lookup,hb,if_neg (fun e:g=f=>h (e.trans hk.symm))]
  · rw [if_neg hk]
    by_cases h:g=k
    · have hb:(g==k)=true:=beq_iff_eq.mpr h
      simp only [List.lookup,hb,if_neg (fun e:g=f=>hk (h.symm.trans e))]
    · have hb:(g==k)=false:=beq_eq_false_iff_ne.mpr h
      simp only [List.lookup,hb]
      exact ih
def iy (f:Str) (v:V):∀ fs:List (Str×V),f∈(eO f v fs).map (·.1)/\∀ g,g∈fs.map (·.1)->g∈(eO f v fs).map (·.1)
 | []=>⟨by simp [eO],fun g h=>by simp at h⟩
 | (k,x)::r=>by
  obtain ⟨i1,i2⟩:=iy f v r
  rw [show eO f v ((k,x)::r)=(if k=f then (k,v)::r else (k,x)::eO f v r) from rfl]
  by_cases hk:k=f
  · rw [if_pos hk]
    subst hk
    exact ⟨by simp,fun g h=>by simpa using h⟩
  · rw [if_neg hk]
    refine ⟨?_,fun g h=>?_⟩
    · rw [List.map_cons]
      exact List.mem_cons_of_mem _ i1
    · rw [List.map_cons] at h ⊢
      rcases List.mem_cons.mp h with e | e
      · exact List.mem_cons.mpr (.inl e)
      · exact List.mem_cons_of_mem _ (i2 g e)
def iK (f:Str) (v:V):∀ fs:List (Str×V),(eO f v fs).length<=fs.length+1
 | []=>by simp [eO]
 | (k,x)::r=>by
  have ih:=iK f v r
  rw [show eO f v ((k,x)::r)=(if k=f then (k,v)::r else (k,x)::eO f v r) from rfl]
  by_cases hk:k=f
  · rw [if_pos hk,List.length_cons,List.length_cons];omega
  · rw [if_neg hk,List.length_cons,List.length_cons];omega
def RelO.some_of {v:V} {o:Option Value} (r:RelO (some v) o):∃ u,o=some u/\RelV v u:=by
 cases o with
 | none=>exact (show False from r).elim
 | some u=>exact ⟨u,rfl,r⟩
def RelO.none_of {o:Option Value} (r:RelO none o):o=none:=by
 cases o with
 | none=>rfl
 | some u=>exact (show False from r).elim
def qP {v:V} {u:Value} (r:RelV v u):PySem.W.handedIn u=true:=by
 cases v with
 | non=>cases (show u=Value.none from r);rfl
 | bl b=>cases (show u=Value.bool b from r);rfl
 | int i=>obtain ⟨t,e⟩:=(show ∃ t,u=Value.int i t from r);cases e;rfl
 | str x=>obtain ⟨t,e⟩:=(show ∃ t,u=Value.str x t from r);cases e;rfl
 | byt b=>obtain ⟨t,e⟩:=(show ∃ t,u=Value.bytes b t from r);cases e;rfl
 | flt b=>obtain ⟨t,e⟩:=(show ∃ t,u=Value.float b t from r);cases e;rfl
 | ref a=>cases (show u=Value.ref a from r);rfl
 | ty n=>cases (show u=Value.type n from r);rfl
section
variable {P:Program} {w:World} {H H':Hp} {h h':Heap} {a C dx:Addr} {fs fs':List (Str×V)}
def ja (hok:HOk P w H h) (e:H a=some (.ins C dx fs)):∃ mA,ObjM h a dx C mA/\(∀ f,RelO (fs.lookup f) (mA f))/\PySem.Within mA (fs.map (·.1))/\fs.length<=1000/\H dx=some (.own a):=by
 obtain ⟨d,z,ne,ob,mA,n,r,q⟩:=(show ObjOk P w H h a (.ins C dx fs) from hok a _ e)
 exact ⟨mA,⟨ob,n,ne⟩,r,q,z,d⟩
end
structure Cls (K:PySem.W.Frag) (C:Addr):Prop where
 pg:PySem.W.plainGet K C Str.empty=true
 hd:PySem.W.hasDictIn K C=true
 po:PySem.W.plainOver K C=true
 sa:PySem.W.findIn K (.ref C) "__setattr__"=some (some (.builtin "object.__setattr__"))
def Cls.get {K:PySem.W.Frag} {C:Addr} (c:Cls K C) (f:Str):PySem.W.plainGet K C f=true:=c.pg
def NoAttr (K:PySem.W.Frag) (C:Addr) (f:Str):Prop:=PySem.W.findIn K (.ref C) f=some none
def NoAttr.taker {K:PySem.W.Frag} {C:Addr} {f:Str} (n:NoAttr K C f):PySem.W.takerIn K C f=some none:=by
 unfold PySem.W.takerIn
 rw [show PySem.W.findIn K (.ref C) f=some none from n]
 rfl
structure Meth (K:PySem.W.Frag) (C:Addr) (m:Str) (f:Addr):Prop where
 at_:PySem.W.findIn K (.ref C) m=some (some (.ref f))
 fn:PySem.W.isFn K (.ref f)=true
 kp:PySem.W.keepIn K (.ref f)=true
section
variable {X:Cx} {pins:List (Addr×Obj)} {σ:St} {H:Hp} {s:Shared} {a C dx:Addr} {fs:List (Str×V)} {f:Str} {v:V} {A:Around} {E:Value->Shared->Prop}
def oh {b:Bool} {Q:Value->Shared->Prop} (I:Inv X pins σ H s) (e:H a=some (.ins C dx fs)) (c:Cls X.K C) (n:NoAttr X.K C f) (l:fs.lookup f=some v)
  (h:∀ u s',Inv X pins σ H s'->RelV v u->Q u s'):wpAny (model X.prog X.w) A (getAttr (.ref a) f b) Q E s:=by
 obtain ⟨mA,O,r,_,_,_⟩:=ja I.hok e
 obtain ⟨u,hu,ru⟩:=RelO.some_of (v:=v) (o:=mA f) (by rw [<- l];exact r f)
 exact u4 I.kIn O (c.get f) c.hd n hu (qP ru) (h u _ (I.tok _) ru)
def gI {m:Str} {g:Addr} {pl:Sem Bool} {Q:Value×List Value->Shared->Prop} (I:Inv X pins σ H s) (e:H a=some (.ins C dx fs)) (c:Cls X.K C) (k:Meth X.K C m g) (l:fs.lookup m=none)
  (h:Q (.ref g,[.ref a]) s):wpAny (model X.prog X.w) A (getMethod (.ref a) m pl) Q E s:=by
 obtain ⟨mA,O,r,_,_,_⟩:=ja I.hok e
 have hn:mA m=none:=RelO.none_of (by rw [<- l];exact r m)
 exact r9 I.kIn O (c.get m) k.at_ k.fn hn h
def oj {y:V} {u:Value} {Q:Unit->Shared->Prop} (I:Inv X pins σ H s) (e:H a=some (.ins C dx fs)) (c:Cls X.K C) (n:NoAttr X.K C f) (hl:fs.length<1000) (ry:RelV y u)
  (h:∀ s',Inv X pins σ (upd H a (.ins C dx (eO f y fs))) s'->Q () s'):wpAny (model X.prog X.w) A (setAttr (.ref a) f u) Q E s:=by
 obtain ⟨mA,O,r,wi,_,ho⟩:=ja I.hok e
 have hz:(fs.map (·.1)).length<=sizeLine:=by rw [List.length_map,sizeLine_eq];omega
 refine u5 I.kIn O c.sa c.po n.taker c.hd wi hz fun h' O' sb=>h _ ?_
 have hd:∃ o,h'.get? dx=some o:=let ⟨o,_,_,e',_⟩:=O'.ns;⟨o,e'⟩
 refine I.write (x:=a) (e:=dx) (by rw [e];exact True.intro) (.inr ho) (fun b q hb z=>(sb.2 b hb).trans z) hd ?_
 refine ⟨by rw [aG O.ne];exact ho,?_,O.ne,O'.obj,_,O'.ns,fun g=>?_,fun g hg=>?_⟩
 · have:=iK f y fs;omega
 · show RelO ((eO f y fs).lookup g) (if g=f then some u else mA g)
   rw [iJ]
   by_cases q:g=f
   · rw [if_pos q,if_pos q];exact ry
   · rw [if_neg q,if_neg q];exact r g
 · by_cases q:g=f
   · rw [q];exact (iy f y fs).1
   · refine (iy f y fs).2 g (wi g fun z=>hg ?_)
     show (if g=f then some u else mA g)=none
     rw [if_neg q];exact z
def Inv.made (I:Inv X pins σ H s):Inv X pins σ (upd (upd H s.heap.objs.size (.own (s.heap.objs.size+1))) (s.heap.objs.size+1) (.ins C s.heap.objs.size []))
  {s with heap:=(s.heap.push PySem.W.emptyDict).push (PySem.W.instObj C s.heap.objs.size)}:=by
 have e1:(s.heap.push PySem.W.emptyDict).get? s.heap.objs.size=some PySem.W.emptyDict:=Heap.get?_push_size s.heap rfl
 have e2:((s.heap.push PySem.W.emptyDict).push (PySem.W.instObj C s.heap.objs.size)).get? (s.heap.objs.size+1)=some (PySem.W.instObj C s.heap.objs.size):=by
  have:=Heap.get?_push_size (s.heap.push PySem.W.emptyDict) (o:=PySem.W.instObj C s.heap.objs.size) rfl
  rwa [Heap.size_push] at this
 have e3:(s.heap.push PySem.W.emptyDict).Ns s.heap.objs.size (fun _=>none):=⟨PySem.W.emptyDict,#[],_,e1,rfl,(fun e he=>absurd he (by simp)),fun _=>rfl⟩
 have I1:=I.laid (a:=s.heap.objs.size) (o:=.own (s.heap.objs.size+1)) (h':=s.heap.push PySem.W.emptyDict) (t':=s.toks) (fun b u q=>gP _ q) (nL _) ⟨_,e1⟩
 refine I1.laid (a:=s.heap.objs.size+1) (o:=.ins C s.heap.objs.size []) (t':=s.toks) (fun b u q=>gP _ q) (Nat.le_of_eq (Heap.size_push _ _)) ?_
 have ne:s.heap.objs.size≠s.heap.objs.size+1:=Nat.ne_of_lt (Nat.lt_succ_self _)
 refine ⟨by rw [aG ne,aB],Nat.zero_le _,ne,e2,fun _=>none,(Heap.Ns1.of_empty e3).at fun o q=>gP _ q,fun _=>True.intro,fun y hy=>absurd rfl hy⟩
def u6 {prog:Program} {w:World} {env:Env} {e:Expr} {f:Str} {pos:Pos} {s:Shared} {Q:Value->Shared->Prop} (hb:attributeBase e f env (eval e env)=eval e env)
  (h:wpAny (model prog w) A (eval e env) (fun o s₁=>wpAny (model prog w) A (getAttr o f true) Q E s₁) E s):wpAny (model prog w) A (eval (.Attribute e f pos) env) Q E s:=
 Attribute_any_ h (by rw [arm_eval_Attribute,hb])
end
def tFld (K:PySem.W.Frag) (ta:TE) (f:Str):TE:=fun σ H Q=>ta σ H fun x H1=>∃ a C dx fs v,x=.ref a/\H1 a=some (.ins C dx fs)/\Cls K C/\NoAttr K C f/\fs.lookup f=some v/\Q v H1
noncomputable def sFld (K:PySem.W.Frag) (ta tv:TE) (f:Str):TS:=fun D σ H=>tv σ H fun y H1=>ta σ H1 fun x H2=>∃ a C dx fs,x=.ref a/\H2 a=some (.ins C dx fs)/\Cls K C/\NoAttr K C f/\fs.length<1000∧
 D.nx σ (upd H2 a (.ins C dx (eO f y fs)))
section
variable {X:Cx} {o e value:Expr} {f:Str} {pos pos' tpos:Pos} {ta tv:TE}
def xK (he:PE X e ta) (hb:attributeBase e f X.env (eval e X.env)=eval e X.env):PE X (.Attribute e f pos) (tFld X.K ta f):=by
 intro pins s σ H Q I h
 refine u6 hb (thn (he pins s σ H _ I h) fun u s1 ⟨x,H1,I1,rx,a,C,dx,fs,v,ex,ea,c,n,l,q⟩=>?_)
 subst ex
 obtain rfl:u=Value.ref a:=rx
 exact oh I1 ea c n l fun u' s2 I2 ru=>⟨v,H1,I2,ru,q⟩
def xL (ha:PE X o ta) (hv:PE X value tv) (hs:swapsWith value (some (.Attribute o f pos')) pos.line X.env=pure false):PS X (.Assign [.Attribute o f pos'] value pos) (sFld X.K ta tv f):=by
 intro pins s σ H D I h
 refine plainObj_wpAny_Assign_Attribute (thn (hv pins s σ H _ I h) fun u s1 ⟨y,H1,I1,ry,q⟩=>thn (ha pins s1 σ H1 _ I1 q) fun ov s2 ⟨x,H2,I2,rx,a,C,dx,fs,ex,ea,c,n,l,q2⟩=>?_) hs
 subst ex
 obtain rfl:ov=Value.ref a:=rx
 exact oj I2 ea c n l ry fun s3 I3=>⟨σ,_,I3,q2⟩
def wJ {pl:Sem Bool} {m:Str} {apos:Pos} {args:List Expr} {pins:List (Addr×Obj)} {s:Shared} {σ:St} {H:Hp} {Q:Value->Shared->Prop} {te:TE} (he:PE X e te) (I:Inv X pins σ H s)
  (h:te σ H fun x H1=>∃ a C dx fs g,x=.ref a/\H1 a=some (.ins C dx fs)/\Cls X.K C/\Meth X.K C m g/\fs.lookup m=none∧
   ∀ s1,Inv X pins σ H1 s1->wpAny (model X.prog X.w) X.A (callWith pos (.ref g) [.ref a] (backTo pos (starEach args X.env)) (backToKw pos (keywordEach [] X.env))) Q X.xe s1)
  (ht:eval (.Call (.Attribute e m apos) args [] pos) X.env=(do
   let ov <- eval e X.env
   standAt apos.atName
   let (f,first) <- holding [ov] (getMethod ov m pl)
   callWith pos f first (backTo pos (starEach args X.env)) (backToKw pos (keywordEach [] X.env)))) :
  wpAny (model X.prog X.w) X.A (eval (.Call (.Attribute e m apos) args [] pos) X.env) Q X.xe s:=by
 refine PySem.W.methodCall_KW (pl:=pl) (thn (he pins s σ H _ I h) fun u s1 ⟨x,H1,I1,rx,a,C,dx,fs,g,ex,ea,c,k,l,q⟩=>?_) ht
 subst ex
 obtain rfl:u=Value.ref a:=rx
 exact gI I1 ea c k l (q s1 I1)
end
section
variable {X:Cx} {pins:List (Addr×Obj)} {σ:St} {H:Hp} {s:Shared} {A:Around} {E:Value->Shared->Prop} {Q:Value->Shared->Prop} {c:Value} {b:Bool}
inductive TyOf (K:PySem.W.Frag) (H:Hp):V->Value->Prop where
 | non:TyOf K H .non (.type "NoneType")
 | bl (x:Bool):TyOf K H (.bl x) (.type "bool")
 | int (i:Int):TyOf K H (.int i) (.type "int")
 | str (x:Str):TyOf K H (.str x) (.type "str")
 | flt (x:UInt64):TyOf K H (.flt x) (.type "float")
 | lst {a:Addr} {xs:List V} (e:H a=some (.lst xs)):TyOf K H (.ref a) (.type "list")
 | frz {a:Addr} {o:Obj} {xs:List V} (e:H a=some (.frz o (.lst xs))):TyOf K H (.ref a) (.type "list")
 | tup {a:Addr} {xs:List V} (e:H a=some (.tup xs)):TyOf K H (.ref a) (.type "tuple")
 | dK {a:Addr} {kvs:List (Key×V)} (e:H a=some (.dK kvs)):TyOf K H (.ref a) (.type "dict")
 | dT {a:Addr} {kvs:List (List Key×V)} (e:H a=some (.dT kvs)):TyOf K H (.ref a) (.type "dict")
 | ins {a C dx:Addr} {fs:List (Str×V)} (e:H a=some (.ins C dx fs)) (cl:Cls K C) (ha:PySem.W.findIn K (.ref C) "__class__"=some (some (.builtin "object.__class__")))
     (hn:PySem.W.specialIn K (.builtin "object.__class__") "__get__"=some (some (.builtin "getset_descriptor.__get__"))) (htk:PySem.W.takesIn K (.builtin "object.__class__")=some true)
     (hm:PySem.W.mroIn K C (.type "object")=some true):TyOf K H (.ref a) (.ref C)
def gt {x:V} {u t:Value} (I:Inv X pins σ H s) (rx:RelV x u) (ty:TyOf X.K H x t) (e:PySem.W.kitOne X.K t c=some b) (h:∀ tk,Q (.bool b) {s with toks:=tk}) :
  wpAny (model X.prog X.w) A (call (.builtin "isinstance") [u,c]) Q E s:=by
 cases ty with
 | non=>cases (show u=Value.none from rx);exact PySem.W.kia_one PySem.W.kitx_none I.kIn True.intro e (fun z=>nomatch z) h
 | bl y=>cases (show u=Value.bool y from rx);exact PySem.W.kia_one PySem.W.kitx_bool I.kIn True.intro e (fun z=>nomatch z) h
 | int i=>obtain ⟨t,q⟩:=(show ∃ t,u=Value.int i t from rx);cases q;exact PySem.W.kia_one PySem.W.kitx_int I.kIn True.intro e (fun z=>nomatch z) h
 | str y=>obtain ⟨t,q⟩:=(show ∃ t,u=Value.str y t from rx);cases q;exact PySem.W.kia_one PySem.W.kitx_str I.kIn True.intro e (fun z=>nomatch z) h
 | flt y=>obtain ⟨t,q⟩:=(show ∃ t,u=Value.float y t from rx);cases q;exact PySem.W.kia_one PySem.W.kitx_float I.kIn True.intro e (fun z=>nomatch z) h
 | @lst a xs ea =>
  cases (show u=Value.ref a from rx)
  obtain ⟨_,_,n,_,h1⟩:=(show ObjOk X.prog X.w H s.heap a (.lst xs) from I.hok a _ ea)
  exact PySem.W.kia_one PySem.W.kitx_list I.kIn ⟨_,h1,rfl⟩ e (fun z=>nomatch z) h
 | @frz a ob xs ea =>
  cases (show u=Value.ref a from rx)
  obtain ⟨_,_,_,n,_,h1⟩:=(show ObjOk X.prog X.w H s.heap a (.frz ob (.lst xs)) from I.hok a _ ea)
  exact PySem.W.kia_one PySem.W.kitx_list I.kIn ⟨_,h1,rfl⟩ e (fun z=>nomatch z) h
 | @tup a xs ea =>
  cases (show u=Value.ref a from rx)
  obtain ⟨_,_,_,p⟩:=(show ObjOk X.prog X.w H s.heap a (.tup xs) from I.hok a _ ea)
  obtain ⟨o,h1,h2,_⟩:=p
  exact PySem.W.kia_one PySem.W.kitx_tuple I.kIn ⟨o,h1,h2⟩ e (fun z=>nomatch z) h
 | @dK a kvs ea =>
  cases (show u=Value.ref a from rx)
  obtain ⟨_,_,vs,_,p⟩:=(show ObjOk X.prog X.w H s.heap a (.dK kvs) from I.hok a _ ea)
  obtain ⟨o,es,ep,h1,h2,_⟩:=p
  exact PySem.W.kia_one PySem.W.kitx_dict I.kIn ⟨o,h1,h2.1⟩ e (fun z=>nomatch z) h
 | @dT a kvs ea =>
  cases (show u=Value.ref a from rx)
  obtain ⟨_,_,xs,_,o,es,ep,h1,h2,_⟩:=(show ObjOk X.prog X.w H s.heap a (.dT kvs) from I.hok a _ ea)
  exact PySem.W.kia_one PySem.W.kitx_dict I.kIn ⟨o,h1,h2.1⟩ e (fun z=>nomatch z) h
 | @ins a C dx fs ea cl ha hn htk hm =>
  cases (show u=Value.ref a from rx)
  obtain ⟨mA,O,_⟩:=ja I.hok ea
  obtain ⟨od,J,_⟩:=O.look
  exact PySem.W.kia_one (PySem.W.kitx_own (cl.get _) cl.hd ha hn htk hm) I.kIn J e (fun z=>nomatch z) h
end
structure Room (k:Nat) (A:Around):Prop where
 hd:A.handled=none
 dp:A.depth+3*k+5<recursionLimit
 un:A.units+16*k+200<cLine
def Room.mono {j k:Nat} {A:Around} (r:Room k A) (h:j<=k):Room j A:=⟨r.hd,by have:=r.dp;omega,by have:=r.un;omega⟩
def Room.deeper {k:Nat} {A:Around} (r:Room (k+1) A) (env:Env):Room k (A.deeper env):=
 ⟨r.hd,by have:=r.dp;show A.depth+1+3*k+5<_;omega,by have:=r.un;show A.units+3+16*k+200<_;omega⟩
def om {A:Around} {C:Addr} {us:List Value} {kw:List (Str×Value)}:(A.under (.builtin "type.__call__" ⟨.ref C::us,kw⟩)).depth=A.depth+1:=by
 first | rfl | simp [Around.under,Code.weight,Code.isCreation,Code.isGuard,Code.isCaller,Code.frames,Code.isFrame,guardIds]
def oo {A:Around} {C:Addr} {us:List Value} {kw:List (Str×Value)}:(A.under (.builtin "type.__call__" ⟨.ref C::us,kw⟩)).units=A.units+1:=by
 first | rfl | simp [Around.under,Code.cUnits,Code.frames,Code.isFrame]
def Room.make {k:Nat} {A:Around} (r:Room (k+1) A) (C:Addr) (us:List Value) (kw:List (Str×Value)):Room k (A.under (.builtin "type.__call__" ⟨.ref C::us,kw⟩)):=
 ⟨r.hd,by have:=r.dp;rw [om];omega,by have:=r.un;rw [oo];omega⟩
def Room.depth {k:Nat} {A:Around} (r:Room k A):A.depth<recursionLimit:=by have:=r.dp;omega
def Room.units {k:Nat} {A:Around} (r:Room k A):A.units+64<cLine:=by have:=r.un;omega
def tNil:TA:=fun _ H Q=>Q [] H
def zb (ta:TE) (tr:TA):TA:=fun σ H Q=>ta σ H fun x H1=>tr σ H1 fun xs H2=>Q (x::xs) H2
section
variable {X:Cx} {e:Expr} {es:List Expr} {te:TE} {t:TA} {pos:Pos}
def fq:PA X [] tNil:=fun _ _ _ _ H Q I h=>Calls.spliced_nil ⟨[],H,I,.nil,h⟩
def dg (ha:PE X e te) (hr:PA X es t) (hs:starEach (e::es) X.env=(false,eval e X.env)::starEach es X.env:=by rfl):PA X (e::es) (zb te t):=by
 intro pos pins s σ H Q I h
 rw [hs]
 show wpAny _ _ (spliced ((false,eval e X.env)::backTo pos (starEach es X.env))) _ _ s
 refine Calls.spliced_cons (thn (ha pins s σ H _ I h) fun u s1 ⟨x,H1,I1,r1,q1⟩=>?_)
 exact thn (hr pos pins s1 σ H1 _ I1 q1) fun us s2 ⟨xs,H2,I2,r2,q2⟩=>⟨x::xs,H2,I2,.cons r1 r2,q2⟩
def tTup (t:TA):TE:=fun σ H Q=>t σ H fun xs H1=>xs.length<=sizeLine/\∀ p,H1 p=none->Q (.ref p) (upd H1 p (.tup xs))
def tLst (t:TA):TE:=fun σ H Q=>t σ H fun xs H1=>xs.length<=sizeLine/\∀ p,H1 p=none->Q (.ref p) (upd H1 p (.lst xs))
def lJ {x1} (h:PA X es t):PE X (.Tuple es x1 pos) (tTup t):=by
 intro pins s σ H Q I hq
 refine wpAny_Tuple_spliced (thn (h pos pins s σ H _ I hq) fun us s1 ⟨xs,H1,I1,r,z,q⟩=>⟨by rw [<- r.length];exact z,?_⟩)
 have hf:H1 s1.heap.objs.size=none:=I1.hok.fresh (nL _)
 refine ⟨.ref s1.heap.objs.size,upd H1 s1.heap.objs.size (.tup xs),I1.laid (t':=s1.toks) (fun b u e=>gP _ e) (nL _) ?_,rfl,q _ hf⟩
 exact ⟨z,us,r,⟨_,Heap.get?_push_size _ rfl,rfl,_,rfl⟩⟩
def se (h:PA X es t):PE X (.List es pos) (tLst t):=by
 intro pins s σ H Q I hq
 refine wpAny_List_spliced (thn (h pos pins s σ H _ I hq) fun us s1 ⟨xs,H1,I1,r,z,q⟩=>⟨by rw [<- r.length];exact z,?_⟩)
 have hf:H1 s1.heap.objs.size=none:=I1.hok.fresh (nL _)
 refine ⟨.ref s1.heap.objs.size,upd H1 s1.heap.objs.size (.lst xs),I1.laid (t':=s1.toks) (fun b u e=>gP _ e) (nL _) ?_,rfl,q _ hf⟩
 exact ⟨z,us,0,r,Heap.get?_push_size _ rfl⟩
end
abbrev Sp:=List V->Hp->VK->XK->Prop
abbrev CXT:=List Env->Hp->Shared->XK->Value->Shared->Prop
structure Env0 (P:Program) (w:World) (K:PySem.W.Frag) (mg:Str->Option Value) (base:Heap) (A:Around) (outer:List Env) (s:Shared) (H:Hp):Prop where
 frames:A.frames=some outer
 mod:Mod K mg base
 bs:∀ b o,base.get? b=some o->s.heap.get? b=some o/\H b=none
 bsz:base.objs.size<=s.heap.objs.size
 funs:s.heap.FunFrames base outer
 frf:∀ b∈frs outer,H b=none
 hok:HOk P w H s.heap
 bare:AllBare s.gens
def CE (outer:List Env) (P:Program) (w:World) (H:Hp) (s:Shared) (Q:VK) (u:Value) (s':Shared):Prop:=
 ∃ v H',s'.os=s.os/\AllBare s'.gens/\Un (frs outer) [] H H' s.heap s'.heap/\HOk P w H' s'.heap/\RelV v u/\Q v H'
def CR (CX:CXT) (outer:List Env) (P:Program) (w:World) (H:Hp) (s:Shared) (Q:VK) (E:XK) (r:Result) (s':Shared):Prop:=
 match r with
 | .ok (.ret u)=>CE outer P w H s Q u s'
 | .ok _=>False
 | .error e=>CX outer H s E e s'
structure FnOk (P:Program) (w:World) (K:PySem.W.Frag) (mg:Str->Option Value) (base:Heap) (CX:CXT) (k:Nat) (f:Addr) (fd:FuncData) (ps:List Str) (sp:Sp):Prop where
 len:∀ vs H Q E,sp vs H Q E->vs.length=ps.length
 run:∀ (A:Around) (outer:List Env) (s:Shared) (H:Hp) (args:Args) (us:List Value) (vs:List V) (Q:VK) (E:XK),Room k A->Env0 P w K mg base A outer s H->BindsTo s fd args (ps.zip us)->Vals vs us->sp vs H Q E→
  codeAny (model P w) A (.call (.ref f) args) (CR CX outer P w H s Q E) s
def FnOk.imp {P:Program} {w:World} {K:PySem.W.Frag} {mg:Str->Option Value} {base:Heap} {CX:CXT} {k:Nat} {f:Addr} {fd:FuncData} {ps:List Str} {sp sp':Sp} (F:FnOk P w K mg base CX k f fd ps sp)
  (h:∀ vs H Q E,sp' vs H Q E->sp vs H Q E):FnOk P w K mg base CX k f fd ps sp':=
 ⟨fun vs H Q E q=>F.len vs H Q E (h _ _ _ _ q),fun A outer s H args us vs Q E hr he hb hv hs=>F.run A outer s H args us vs Q E hr he hb hv (h _ _ _ _ hs)⟩
def Env0.make {P:Program} {w:World} {K:PySem.W.Frag} {mg:Str->Option Value} {base:Heap} {A:Around} {outer:List Env} {s:Shared} {H:Hp} (e:Env0 P w K mg base A outer s H) (C:Addr) (us:List Value) (kw:List (Str×Value)) :
  Env0 P w K mg base (A.under (.builtin "type.__call__" ⟨.ref C::us,kw⟩)) outer s H:=⟨by first | exact e.frames | (simpa [Around.under,Code.envs,Code.isFrame,pushEnvs] using e.frames),e.mod,e.bs,e.bsz,e.funs,e.frf,e.hok,e.bare⟩
section
variable {X:Cx} {pins:List (Addr×Obj)} {σ:St} {H:Hp} {s s':Shared}
def Inv.env0 (I:Inv X pins σ H s):Env0 X.prog X.w X.K X.mg X.base X.A X.stack s H:=
 ⟨I.ok.frames,I.ok.mod,I.bs,Nat.le_trans I.ok.bsz I.sz,I.stack,I.stkFree,I.hok,I.bare⟩
def Inv.after {Q:VK} {u:Value} (I:Inv X pins σ H s) (h:CE X.stack X.prog X.w H s Q u s'):EP X pins σ Q u s':=by
 obtain ⟨v,H',os,bare,un,hok,r,q⟩:=h
 obtain ⟨hh,g,d,t,os'⟩:=s'
 obtain rfl:os'=s.os:=os
 exact ⟨v,H',I.call (h':=hh) (g':=g) (d':=d) (t':=t) (ch:=[]) un hok bare (fun b z=>absurd z (by simp)),r,q⟩
end
def sf (sp:Sp) (dvs:List V) (E:XK) (t:TA):TE:=fun σ H Q=>t σ H fun vs H1=>sp (vs++dvs) H1 Q E
def sg (C:Addr) (m:Str) (sp:Sp) (dvs:List V) (E:XK) (ta:TE) (t:TA):TE:=fun σ H Q=>ta σ H fun x H1=>∃ a dx fs,x=.ref a/\H1 a=some (.ins C dx fs)/\fs.lookup m=none∧
 t σ H1 fun vs H2=>sp (x::(vs++dvs)) H2 Q E
noncomputable def wK (C:Addr) (sp:Sp) (dvs:List V) (E:XK) (t:TA):TE:=fun σ H Q=>t σ H fun vs H1=>∀ x dx,H1 x=none->H1 dx=none->dx≠x→
 sp (.ref x::(vs++dvs)) (upd (upd H1 dx (.own x)) x (.ins C dx [])) (fun v H2=>v=.non/\Q (.ref x) H2) E
def Binds (K:PySem.W.Frag) (fd:FuncData) (ps:List Str) (ds:List Value):Prop:=
 ∀ (s:Shared) (us:List Value),K.In s.heap->(us++ds).length=ps.length->BindsTo s fd ⟨us,[]⟩ (ps.zip (us++ds))
def Binds.all {K:PySem.W.Frag} {fd:FuncData} {ps:List Str} (h:∀ us:List Value,us.length=ps.length->bindArgs fd ⟨us,[]⟩=pure (ps.zip us)):Binds K fd ps []:=fun s us _ hl=>by
 rw [List.append_nil] at hl ⊢
 exact .of_eq (h us hl)
def gJ (CX:CXT) (X:Cx) (E:XK):Prop:=∀ (pins:List (Addr×Obj)) (σ:St) (H:Hp) (s:Shared) (e:Value) (s':Shared),Inv X pins σ H s->CX X.stack H s E e s'->X.xe e s'
section
variable {X:Cx} {CX:CXT} {k:Nat} {f C:Addr} {fd:FuncData} {ps:List Str} {sp:Sp} {dvs:List V} {ds:List Value} {E:XK} {x m:Str} {p pos apos:Pos} {e o:Expr} {es:List Expr} {ta:TE} {t:TA}
def oq {pins:List (Addr×Obj)} {σ:St} {H:Hp} {s:Shared} {Q:VK} {us:List Value} {vs:List V} (F:FnOk X.prog X.w X.K X.mg X.base CX k f fd ps sp) (hr:Room k X.A) (hb:Binds X.K fd ps ds) (hd:Vals dvs ds) (hx:gJ CX X E)
  (I:Inv X pins σ H s) (r:Vals vs us) (h:sp (vs++dvs) H Q E):wpAny (model X.prog X.w) X.A (call (.ref f) us) (EP X pins σ Q) X.xe s:=by
 have r2:Vals (vs++dvs) (us++ds):=r.append hd
 have hl:(us++ds).length=ps.length:=by rw [<- r2.length];exact F.len _ _ _ _ h
 refine wpAny_call (codeAny_mono (F.run X.A X.stack s H ⟨us,[]⟩ (us++ds) (vs++dvs) Q E hr I.env0 (hb s us I.kIn hl) r2 h) fun r s' hq=>?_)
 cases r with
 | error e=>exact hx pins σ H s e s' I hq
 | ok fl =>
  cases fl with
  | ret u=>exact I.after hq
  | next=>exact False.elim hq
  | brk=>exact False.elim hq
  | cont=>exact False.elim hq
def u7 (F:FnOk X.prog X.w X.K X.mg X.base CX k f fd ps sp) (hr:Room k X.A) (hg:Gl X x) (hm:X.mg x=some (.ref f)) (hk:PySem.W.keepIn X.K (.ref f)=true) (hb:Binds X.K fd ps ds) (hd:Vals dvs ds) (hx:gJ CX X E)
  (ha:PA X (e::es) t) (hdb:(x==("__debug__":Str))=false:=by decide) (he:starEach (e::es) X.env=(false,eval e X.env)::starEach es X.env:=by rfl) (hpl:(backTo pos (starEach es X.env)).any (·.1)=false:=by rfl) :
  PE X (.Call (.Name x p) (e::es) [] pos) (sf sp dvs E t):=by
 intro pins s σ H Q I h
 refine wpAny_Call_Name_kw (pj I hg hm ?_ hdb)
 refine PySem.W.callWith_K (h₀:=X.base) I.ok.mod.kin hk (thn (ha pos pins s σ H _ I h) fun us s1 ⟨vs,H1,I1,r,q⟩=>⟨I1.kIn,?_⟩) he hpl
 exact oq F hr hb hd hx I1 r q
def u8 {pl:Sem Bool} (he:PE X o ta) (c:Cls X.K C) (hm:Meth X.K C m f) (F:FnOk X.prog X.w X.K X.mg X.base CX k f fd ps sp) (hr:Room k X.A) (hb:Binds X.K fd ps ds) (hd:Vals dvs ds) (hx:gJ CX X E) (ha:PA X (e::es) t)
  (hst:starEach (e::es) X.env=(false,eval e X.env)::starEach es X.env:=by rfl) (hpl:(backTo pos (starEach es X.env)).any (·.1)=false:=by rfl)
  (ht:eval (.Call (.Attribute o m apos) (e::es) [] pos) X.env=(do
   let ov <- eval o X.env
   standAt apos.atName
   let (f,first) <- holding [ov] (getMethod ov m pl)
   callWith pos f first (backTo pos (starEach (e::es) X.env)) (backToKw pos (keywordEach [] X.env))):=by rfl) :
  PE X (.Call (.Attribute o m apos) (e::es) [] pos) (sg C m sp dvs E ta t):=by
 intro pins s σ H Q I h
 refine PySem.W.methodCall_KW (pl:=pl) (thn (he pins s σ H _ I h) fun u s1 ⟨x,H1,I1,rx,a,dx,fs,ex,ea,l,q⟩=>?_) ht
 subst ex
 obtain rfl:u=Value.ref a:=rx
 refine gI I1 ea c hm l ?_
 refine PySem.W.callWith_K (first:=[.ref a]) (h₀:=X.base) I.ok.mod.kin hm.kp (thn (ha pos pins s1 σ H1 _ I1 q) fun us s2 ⟨vs,H2,I2,r,q2⟩=>⟨I2.kIn,?_⟩) hst hpl
 exact oq (us:=.ref a::us) (vs:=.ref a::vs) F hr hb hd hx I2 (.cons rfl r) q2
def si {pl:Sem Bool} (he:PE X o ta) (c:Cls X.K C) (hm:Meth X.K C m f) (F:FnOk X.prog X.w X.K X.mg X.base CX k f fd ps sp) (hr:Room k X.A) (hb:Binds X.K fd ps ds) (hd:Vals dvs ds) (hx:gJ CX X E)
  (ht:eval (.Call (.Attribute o m apos) [] [] pos) X.env=(do
   let ov <- eval o X.env
   standAt apos.atName
   let (f,first) <- holding [ov] (getMethod ov m pl)
   callWith pos f first (backTo pos (starEach [] X.env)) (backToKw pos (keywordEach [] X.env))):=by rfl) :
  PE X (.Call (.Attribute o m apos) [] [] pos) (sg C m sp dvs E ta tNil):=by
 intro pins s σ H Q I h
 refine PySem.W.methodCall_KW (pl:=pl) (thn (he pins s σ H _ I h) fun u s1 ⟨x,H1,I1,rx,a,dx,fs,ex,ea,l,q⟩=>?_) ht
 subst ex
 obtain rfl:u=Value.ref a:=rx
 refine gI I1 ea c hm l ?_
 exact PySem.W.callWith_K0 (first:=[.ref a]) I1.kIn hm.kp (oq (us:=[.ref a]) (vs:=[.ref a]) F hr hb hd hx I1 (.cons rfl .nil) q)
structure Mk (K:PySem.W.Frag) (C f:Addr):Prop where
 makes:PySem.W.makesIn K C=true
 init:PySem.W.findIn K (.ref C) "__init__"=some (some (.ref f))
 fn:PySem.W.isFn K (.ref f)=true
 kp:PySem.W.keepIn K (.ref C)=true
def sj {pins:List (Addr×Obj)} {σ:St} {H:Hp} {s:Shared} {Q:VK} {us:List Value} {vs:List V} (M:Mk X.K C f) (F:FnOk X.prog X.w X.K X.mg X.base CX k f fd ps sp) (hr:Room (k+1) X.A) (hb:Binds X.K fd ps ds) (hd:Vals dvs ds)
  (hx:gJ CX X E) (I:Inv X pins σ H s) (r:Vals vs us)
  (h:∀ x dx,H x=none->H dx=none->dx≠x->sp (.ref x::(vs++dvs)) (upd (upd H dx (.own x)) x (.ins C dx [])) (fun v H2=>v=.non/\Q (.ref x) H2) E) :
  wpAny (model X.prog X.w) X.A (call (.ref C) us) (EP X pins σ Q) X.xe s:=by
 have hq:=h (s.heap.objs.size+1) s.heap.objs.size (I.hok.fresh (Nat.le_succ _)) (I.hok.fresh (nL _)) (Nat.ne_of_lt (Nat.lt_succ_self _))
 have I2:=Inv.made (C:=C) I
 have r2:Vals (V.ref (s.heap.objs.size+1)::(vs++dvs)) (Value.ref (s.heap.objs.size+1)::(us++ds)):=.cons rfl (r.append hd)
 have hl:(Value.ref (s.heap.objs.size+1)::us++ds).length=ps.length:=by
  have e:=r2.length
  rw [F.len _ _ _ _ hq] at e
  exact e.symm
 refine wpAny_call (sd (f:=f) I.kIn M.makes M.init (beq_iff_eq.mp M.fn) (codeAny_mono (F.run _ X.stack _ _ ⟨Value.ref (s.heap.objs.size+1)::us,[]⟩ (Value.ref (s.heap.objs.size+1)::(us++ds)) _ _ E (hr.make C us [])
  (I2.env0.make C us []) (hb _ (Value.ref (s.heap.objs.size+1)::us) I2.kIn hl) r2 hq) fun r s' hq'=>?_))
 cases r with
 | error e=>exact hx pins σ _ _ e s' I2 hq'
 | ok fl =>
  cases fl with
  | ret u =>
   obtain ⟨v,H',I3,rv,ev,q3⟩:=I2.after hq'
   subst ev
   exact ⟨rv,⟨V.ref (s.heap.objs.size+1),H',I3,rfl,q3⟩⟩
  | next=>exact False.elim hq'
  | brk=>exact False.elim hq'
  | cont=>exact False.elim hq'
def u9 (M:Mk X.K C f) (F:FnOk X.prog X.w X.K X.mg X.base CX k f fd ps sp) (hr:Room (k+1) X.A) (hg:Gl X x) (hm:X.mg x=some (.ref C)) (hb:Binds X.K fd ps ds) (hd:Vals dvs ds) (hx:gJ CX X E)
  (ha:PA X (e::es) t) (hdb:(x==("__debug__":Str))=false:=by decide) (he:starEach (e::es) X.env=(false,eval e X.env)::starEach es X.env:=by rfl) (hpl:(backTo pos (starEach es X.env)).any (·.1)=false:=by rfl) :
  PE X (.Call (.Name x p) (e::es) [] pos) (wK C sp dvs E t):=by
 intro pins s σ H Q I h
 refine wpAny_Call_Name_kw (pj I hg hm ?_ hdb)
 refine PySem.W.callWith_K (h₀:=X.base) I.ok.mod.kin M.kp (thn (ha pos pins s σ H _ I h) fun us s1 ⟨vs,H1,I1,r,q⟩=>⟨I1.kIn,?_⟩) he hpl
 exact sj M F hr hb hd hx I1 r q
end
section
variable {X:Cx} {CX:CXT} {k:Nat} {f C:Addr} {fd:FuncData} {ps ks:List Str} {sp:Sp} {E:XK} {x m:Str} {p pos apos kpos:Pos} {e o:Expr} {es:List Expr} {kws:List Keyword} {te ta:TE} {t tk:TA} {nm:Option Str}
variable {g:List Value->List Value->List Value} {gV:List V->List V->List V}
end
structure FnScope (N P:List Str) (sc:Scope):Prop where
 kind:sc.kind=.function
 co:sc.isCoroutine=false
 gen:sc.isGenerator=false
 nd:N.Nodup
 pre:N.take P.length=P
 par:∀ x∈P,sc.names.lookup x=some .local∨sc.names.lookup x=some .cell
 nofree:∀ y∈sc.names,y.2≠.free
def km {kindOf:Str->Option NameKind} {x:Str}:∀ {binds:List (Str×Value)} {m:Str->Option Value},(∀ v,(x,v)∉binds)->bindL kindOf binds m x=m x
 | [],_,_=>rfl
 | (n,v)::r,m,h=>by
  unfold bindL
  rw [km fun w hw=>h w (List.mem_cons_of_mem _ hw)]
  split
  · have:x≠n:=by rintro rfl;exact h v List.mem_cons_self
    simp [this]
  · rfl
def kn {kindOf:Str->Option NameKind} {x:Str}:∀ {binds:List (Str×Value)} {m:Str->Option Value},(∀ v,(x,v)∉binds)->bindC kindOf binds m x=m x
 | [],_,_=>rfl
 | (n,v)::r,m,h=>by
  unfold bindC
  rw [kn fun w hw=>h w (List.mem_cons_of_mem _ hw)]
  split
  · rfl
  · have:x≠n:=by rintro rfl;exact h v List.mem_cons_self
    simp [this]
def ko {kindOf:Str->Option NameKind} {x:Str} {v:Value}:∀ {P:List Str} {vs:List Value} {i:Nat} {m:Str->Option Value},P.Nodup->P[i]?=some x->vs[i]?=some v->kindOf x=some .local→
  bindL kindOf (P.zip vs) m x=some v
 | [],_,_,_,_,h,_,_=>by simp at h
 | _::_,[],_,_,_,_,h,_=>by simp at h
 | p::P,w::vs,0,m,nd,h1,h2,hk=>by
  simp at h1 h2;subst h1;subst h2
  show bindL kindOf ((p,w)::P.zip vs) m p=_
  unfold bindL
  rw [km fun v hv=>(List.nodup_cons.mp nd).1 (List.of_mem_zip hv).1,if_pos hk]
  simp
 | p::P,w::vs,i+1,m,nd,h1,h2,hk=>by
  show bindL kindOf ((p,w)::P.zip vs) m x=_
  unfold bindL
  exact ko (i:=i) (List.nodup_cons.mp nd).2 (by simpa using h1) (by simpa using h2) hk
def kr {kindOf:Str->Option NameKind} {x:Str} {v:Value}:∀ {P:List Str} {vs:List Value} {i:Nat} {m:Str->Option Value},P.Nodup->P[i]?=some x->vs[i]?=some v->kindOf x≠some .local→
  bindC kindOf (P.zip vs) m x=some v
 | [],_,_,_,_,h,_,_=>by simp at h
 | _::_,[],_,_,_,_,h,_=>by simp at h
 | p::P,w::vs,0,m,nd,h1,h2,hk=>by
  simp at h1 h2;subst h1;subst h2
  show bindC kindOf ((p,w)::P.zip vs) m p=_
  unfold bindC
  rw [kn fun v hv=>(List.nodup_cons.mp nd).1 (List.of_mem_zip hv).1,if_neg hk]
  simp
 | p::P,w::vs,i+1,m,nd,h1,h2,hk=>by
  show bindC kindOf ((p,w)::P.zip vs) m x=_
  unfold bindC
  exact kr (i:=i) (List.nodup_cons.mp nd).2 (by simpa using h1) (by simpa using h2) hk
def du (N:List Str) (vs:List V):St:=vs.map some++List.replicate (N.length-vs.length) none
noncomputable def iT (CX:CXT) (P:Program) (w:World) (K:PySem.W.Frag) (mg:Str->Option Value) (base:Heap) (N:List Str) (qual:Str) (scope:Scope) (f:Addr) (cd:Value) (A:Around) (outer:List Env) (s:Shared) (H:Hp) (E:XK):Cx where
 prog:=P
 w:=w
 K:=K
 mg:=mg
 base:=base
 A:=A.deeper (envOfC qual scope s.heap.objs.size f cd)
 N:=N
 s₀:=s
 H₀:=H
 env:=envOfC qual scope s.heap.objs.size f cd
 outer:=outer
 stack:=envOfC qual scope s.heap.objs.size f cd::outer
 ex:=[]
 calm:=true
 fn:=fun _=>true
 pn:=[]
 xe:=fun e s'=>wpAny (model P w) (A.deeper (envOfC qual scope s.heap.objs.size f cd)) (leaving (envOfC qual scope s.heap.objs.size f cd) e) (fun _ s''=>CX outer H s E e s'') (fun e' s''=>CX outer H s E e' s'') s'
def mQ {sc:Scope} {n:Nat} {x:Str} (h:sc.names.lookup x=some .cell):∃ c,(cellsFrom n sc.names []).lookup x=some c:=by
 have q:=PySem.W.cellsFrom_some sc.names n [] (.inl h)
 exact Option.isSome_iff_exists.mp q
def qQ {CX:CXT} {P:Program} {w:World} {K:PySem.W.Frag} {mg:Str->Option Value} {base:Heap} {N ps:List Str} {qual:Str} {scope:Scope} {f:Addr} {cd:Value} {A:Around} {outer:List Env} {s s1:Shared} {H:Hp} {E:XK} {us:List Value} {vs:List V}
  (S:FnScope N ps scope) (hd:A.handled=none) (e0:Env0 P w K mg base A outer s H) (hl:vs.length=ps.length) (r:Vals vs us)
  (x:InCallC s s.heap.objs.size (bindL (envOfC qual scope s.heap.objs.size f cd).kindOf (ps.zip us) fun _=>none) (cellsFrom (s.heap.objs.size+1) scope.names []) (bindC (envOfC qual scope s.heap.objs.size f cd).kindOf (ps.zip us) fun _=>none) s1) :
  Inv (iT CX P w K mg base N qual scope f cd A outer s H E) [] (du N vs) H s1:=by
 have hpl:ps.length<=N.length:=by have:=congrArg List.length S.pre;rw [List.length_take] at this;omega
 obtain ⟨h1,tk,rfl,hk⟩:=x.done
 have noA:∀ b:Addr,b∉(iT CX P w K mg base N qual scope f cd A outer s H E).ex:=fun b z=>absurd (show b∈([]:List Addr) from z) (by simp)
 refine ⟨⟨e0.mod,S.kind,rfl,rfl,nL _,fun y z c h1 h2=>?_,fun y hy=>?_,fun y c _ h=>?_,fun _=>hd,Around.frames_deeper e0.frames,.inr ⟨rfl,rfl⟩,fun b z=>absurd z (noA b),e0.bs,e0.bsz,fun b _ _=>noA b,fun b z=>absurd z (noA b),e0.funs,e0.frf⟩,
  rfl,e0.bare,Un.kept hk,⟨_,x.toInCall.ns,fun i y v h1 h2 h3=>?_⟩,fun y c h=>⟨_,x.cell y c h⟩,e0.hok.fresh (Nat.le_refl _),fun y c h=>?_,fun p hp=>absurd (show p∈([]:List (Addr×Obj)) from hp) (by simp),e0.hok.kept hk,?_⟩
 · exact name_of_addr x.apart (PySem.mem_of_lookup h1) (PySem.mem_of_lookup h2)
 · have hy:scope.names.lookup y=some .cell∨scope.names.lookup y=some .free:=hy
   rcases hy with hy | hy
   · exact mQ hy
   · exact absurd rfl (S.nofree _ (PySem.mem_of_lookup hy))
 · exact Nat.le_of_lt (x.above y c (PySem.mem_of_lookup h))
 · have hi:i<vs.length:=by
    unfold du at h2
    by_cases hi:i<vs.length
    · exact hi
    · rw [List.getElem?_append_right (by simpa using hi)] at h2
      rw [List.getElem?_replicate] at h2
      split at h2<;>cases h2
   have ha:vs[i]?=some v:=by
    unfold du at h2
    rw [List.getElem?_append_left (by simpa using hi),List.getElem?_map] at h2
    cases e:vs[i]? with
    | none=>rw [e] at h2;cases h2
    | some a=>rw [e] at h2;cases h2;rfl
   obtain ⟨u,hu,rv⟩:=r.get ha
   have hp:ps[i]?=some y:=by
    rw [<- S.pre,List.getElem?_take_of_lt (by omega)];exact h1
   have ndP:ps.Nodup:=by rw [<- S.pre];exact S.nd.sublist (List.take_sublist _ _)
   refine ⟨u,rv,?_⟩
   rcases S.par y (List.mem_of_getElem? hp) with k | k
   · exact .inl ⟨k,ko ndP hp hu k⟩
   · obtain ⟨c,e⟩:=mQ (n:=s.heap.objs.size+1) k
     refine .inr ⟨.inl k,c,e,?_⟩
     have q:=x.cell y c e
     rw [kr ndP hp hu (by show scope.names.lookup y≠_;rw [k];decide)] at q
     exact q
 · exact e0.hok.fresh (Nat.le_of_lt (x.above y c (PySem.mem_of_lookup h)))
 · unfold du
   show _=N.length
   rw [List.length_append,List.length_map,List.length_replicate]
   omega
def zc {CX:CXT} {P:Program} {w:World} {K:PySem.W.Frag} {mg:Str->Option Value} {base:Heap} {k:Nat} {f:Addr} {name qual:Str} {params:Arguments} {body:List Stmt} {scope:Scope} {dV kV doc pm cdv ct oc:Value} {an od:Option Addr}
  {osl:Array (Option Value)} {N ps:List Str} {sp:Sp} (lk:K.lookup f=some ⟨oc,od,.func (PySem.W.fnOf name qual params body scope dV kV doc pm an cdv ct),osl⟩) (hcd:PySem.W.codeIn K cdv qual=true) (S:FnScope N ps scope)
  (len:∀ vs H Q E,sp vs H Q E->vs.length=ps.length)
  (hbody:∀ (A:Around) (outer:List Env) (s:Shared) (H:Hp) (vs:List V) (Q:VK) (E:XK),Room k (A.deeper (envOfC qual scope s.heap.objs.size f cdv))->sp vs H Q E→
   ∃ t,PSs (iT CX P w K mg base N qual scope f cdv A outer s H E) body t/\t {nx:=fun _ H'=>Q .non H',rt:=Q} (du N vs) H) :
  FnOk P w K mg base CX (k+1) f (PySem.W.fnOf name qual params body scope dV kV doc pm an cdv ct) ps sp:=by
 refine ⟨len,fun A outer s H args us vs Q E hr e0 hb r hsp=>?_⟩
 have hl:=len _ _ _ _ hsp
 have KX:K.In s.heap:=e0.mod.kin.keeps fun b o e=>(e0.bs b o e).1
 have lim:s.heap.NoLimit:=e0.mod.nolimit.keeps fun b o e=>(e0.bs b o e).1
 have hkind:∀ y∈ps.zip us,scope.names.lookup y.1=some .local∨(scope.names.lookup y.1=some .cell/\((cellsFrom (s.heap.objs.size+1) scope.names []).lookup y.1).isSome=true):=fun ⟨n,v⟩ hy=>by
  rcases S.par n (List.of_mem_zip hy).1 with q | q
  · exact .inl q
  · exact .inr ⟨q,PySem.W.cellsFrom_some _ _ _ (.inl q)⟩
 refine codeAny_call_function hr.depth (KX _ _ lk) rfl S.co S.gen rfl (PySem.W.codeRec_of KX hcd) (hb _ _ _ _ ?_)
 refine wpAny_newFunctionEnv_cells S.kind hkind fun env he s1 x=>?_
 subst he
 refine ⟨lim.keeps x.toInCall.keep,codeAny_func ?_⟩
 obtain ⟨t,ht,hq⟩:=hbody A outer s H vs Q E (hr.deeper _) hsp
 have I:Inv (iT CX P w K mg base N qual scope f cdv A outer s H E) [] (du N vs) H s1:=qQ S hr.hd e0 hl r x
 refine wpAny_mono (ht [] s1 (du N vs) H _ I hq) (fun fl s' hs=>?_) fun e s' hs=>hs
 have fin:∀ {σ':St} {H':Hp} {v:V} {u:Value},Inv (iT CX P w K mg base N qual scope f cdv A outer s H E) [] σ' H' s'->RelV v u->Q v H'->CE outer P w H s Q u s':=
  fun {σ' H' v u} J rv q=>⟨v,H',J.os,J.bare,J.base,J.hok,rv,q⟩
 cases fl with
 | ret u =>
  obtain ⟨v,σ',H',J,rv,q⟩:=hs
  exact fin J rv q
 | next =>
  obtain ⟨σ',H',J,q⟩:=hs
  exact fin (v:=V.non) (u:=Value.none) J rfl q
 | brk =>
  obtain ⟨_,_,_,q⟩:=hs
  exact False.elim q
 | cont =>
  obtain ⟨_,_,_,q⟩:=hs
  exact False.elim q
section
variable {X:Cx} {x:Str} {p pos:Pos} {e:Expr} {es:List Expr} {t:TA} {id T:String} {r:List V->Hp->VK->Prop}
def tCB (r:List V->Hp->VK->Prop) (t:TA):TE:=fun σ H Q=>t σ H fun vs H1=>r vs H1 Q
def sk (hc:dL X (.builtin id) r) (hg:Gl X x) (hm:X.mg x=none) (hv:bootBuiltins x=some (.builtin id)) (ha:PA X (e::es) t) (hn:x≠"__name__":=by decide) (hdb:(x==("__debug__":Str))=false:=by decide)
  (he:starEach (e::es) X.env=(false,eval e X.env)::starEach es X.env:=by rfl) (hpl:(backTo pos (starEach es X.env)).any (·.1)=false:=by rfl):PE X (.Call (.Name x p) (e::es) [] pos) (tCB r t):=by
 intro pins s σ H Q I h
 refine wpAny_Call_Name_kw (lF I hg hm hv ?_ hn hdb)
 exact PyProof.Rows.callWith_builtin1 (thn (ha pos pins s σ H _ I h) fun us s1 ⟨vs,H1,I1,r1,q1⟩=>hc pins s1 σ H1 vs us Q I1 r1 q1) he hpl
def qR (hc:dL X (.type T) r) (hg:Gl X x) (hm:X.mg x=none) (hv:bootBuiltins x=some (.type T)) (ha:PA X (e::es) t) (hn:x≠"__name__":=by decide) (hdb:(x==("__debug__":Str))=false:=by decide)
  (he:starEach (e::es) X.env=(false,eval e X.env)::starEach es X.env:=by rfl) (hpl:(backTo pos (starEach es X.env)).any (·.1)=false:=by rfl):PE X (.Call (.Name x p) (e::es) [] pos) (tCB r t):=by
 intro pins s σ H Q I h
 refine wpAny_Call_Name_kw (lF I hg hm hv ?_ hn hdb)
 exact PyProof.Rows.callWith_type1 (thn (ha pos pins s σ H _ I h) fun us s1 ⟨vs,H1,I1,r1,q1⟩=>hc pins s1 σ H1 vs us Q I1 r1 q1) he hpl
end
end L2
namespace HT
open PySem PyProof.Rows
section
open PySem.SeqAt
open PySem.AutoSeq1 (wpAny_loadPart')
open PySem.MeetsSeq PySem.MeetsSeq2 PySem.MeetsSeq3
end
section
variable {prog:Program} {w:World} {A:Around} {E:Value->Shared->Prop} {s:Shared}
def zD {t b:Addr} {vs ws:List Value} {Q:Value->Shared->Prop} (ht:IsTup s.heap t vs.toArray) (hb:IsTup s.heap b ws.toArray) (hv:vs≠[])
  (h1:ws=[]->Q (.ref t) s) (h2:ws≠[]->Q (.ref s.heap.objs.size) {s with heap:=s.heap.push {cls:=.type "tuple",data:=.seq (vs++ws).toArray}})
  (hsz:vs.length+ws.length<=sizeLine):wpAny (model prog w) A (binaryOp .Add (.ref t) (.ref b)) Q E s:=by
 obtain ⟨⟨cls,dd,data,sl⟩,ho,hc,n,hd⟩:=id ht
 obtain ⟨⟨cls2,dd2,data2,sl2⟩,ho2,hc2,n2,hd2⟩:=id hb
 simp only at hc hd hc2 hd2
 subst hc hd hc2 hd2
 have e:vs.toArray++ws.toArray=(vs++ws).toArray:=by simp
 by_cases hw:ws=[]
 · exact concat_meets ⟨_,ho,rfl⟩ ⟨_,ho2,rfl⟩ noFill_tuple_add seq_tuple_add PySem.F.slot_tuple_add PySem.F.entry_tuple_add (PySem.F.args_tuple_add_2 _ _)
    (tuple_addW1 t b vs.toArray ws.toArray n n2 dd dd2 sl sl2 (by simpa using hv) (by simp [hw])) ⟨ho,ho2,h1 hw⟩
 · refine concat_meets ⟨_,ho,rfl⟩ ⟨_,ho2,rfl⟩ noFill_tuple_add seq_tuple_add PySem.F.slot_tuple_add PySem.F.entry_tuple_add (PySem.F.args_tuple_add_2 _ _)
    (tuple_addW2 t b vs.toArray ws.toArray n n2 dd dd2 sl sl2 (by simpa using hv) (by simpa using hw) (by rw [List.size_toArray,List.size_toArray];exact hsz)) ⟨ho,ho2,?_⟩
   rw [e]
   exact h2 hw
def sIx (n d:Nat):Option Int->Nat
 | none=>d
 | some v=>if v<0 then (v+(n:Int)).toNat else min v.toNat n
def xM (n d:Nat) (hd:d<=n) (o:Option Int):sIx n d o<=n:=by
 cases o with
 | none=>exact hd
 | some v =>
  show (if v<0 then (v+(n:Int)).toNat else min v.toNat n)<=n
  by_cases hv:v<0
  · rw [if_pos hv];omega
  · rw [if_neg hv];exact Nat.min_le_right _ _
def pG (v:Int) (n d:Nat):(if v<0 then max (v+(n:Int)) 0 else min v (n:Int))=((sIx n d (some v):Nat):Int):=by
 show (if v<0 then max (v+(n:Int)) 0 else min v (n:Int))=(((if v<0 then (v+(n:Int)).toNat else min v.toNat n):Nat):Int)
 by_cases hv:v<0
 · simp only [if_pos hv];omega
 · simp only [if_neg hv];omega
def ou (lo hi:Option Int) (n:Nat):Builtin.Slice.sliceAdjust lo hi 1 (n:Int)=(((sIx n 0 lo:Nat):Int),((sIx n n hi:Nat):Int)):=by
 have h1:¬ ((1:Int)<0):=by omega
 unfold Builtin.Slice.sliceAdjust
 simp only [h1,if_false]
 refine Prod.ext ?_ ?_
 · cases lo with
   | none=>rfl
   | some v=>exact pG v n 0
 · cases hi with
   | none=>rfl
   | some v=>exact pG v n n
def oy (i j:Nat):Builtin.Slice.slicePlaces (i:Int) (j:Int) 1=j-i:=by
 unfold Builtin.Slice.slicePlaces
 have h1:(1:Int) > 0:=by omega
 simp only [h1,if_true,Int.ediv_one]
 split<;>omega
def jr {v:Value} {o:Option Int} {Q:Option Int->Shared->Prop} (p:IsPart v o) (h:Q o s):wpAny (model prog w) A (Builtin.Slice.slicePartIndex v) Q E s:=by
 cases p with
 | none=>exact slicePart_none h
 | int i t=>exact slicePart_int h
def iz {sl:Addr} {vl vu:Value} {lo hi:Option Int} {n:Nat} {Q:Int×Int×Nat->Shared->Prop} (hs:s.heap.IsSliceOf sl vl vu .none) (pl:IsPart vl lo) (pu:IsPart vu hi)
  (h:Q (((sIx n 0 lo:Nat):Int),1,sIx n n hi-sIx n 0 lo) s):wpAny (model prog w) A (Builtin.Slice.sliceApplied (.ref sl) (pure (n:Int))) Q E s:=by
 obtain ⟨os,hos,hcs,hds⟩:=id hs
 unfold Builtin.Slice.sliceApplied Builtin.Slice.sliceFields
 refine wB (wB (wpAny_field hos hds (x:=vl) rfl (wB (wpAny_field hos hds (x:=vu) rfl (wB (wpAny_field hos hds (x:=.none) rfl (wpAny_pure ?_)))))))
 refine wB (slicePart_none ?_)
 show wpAny _ _ (if ((1:Int)==0)=true then _ else _) _ _ s
 rw [if_neg (by decide)]
 refine wB (jr pl (wB (jr pu (wB (wpAny_pure ?_)))))
 show wpAny _ _ (match Builtin.Slice.sliceAdjust lo hi 1 (n:Int) with | (lo,hi)=>pure (lo,(1:Int),Builtin.Slice.slicePlaces lo hi 1)) _ _ s
 rw [ou lo hi n]
 show wpAny _ _ (pure (((sIx n 0 lo:Nat):Int),(1:Int),Builtin.Slice.slicePlaces ((sIx n 0 lo:Nat):Int) ((sIx n n hi:Nat):Int) 1)) _ _ s
 rw [oy]
 exact wpAny_pure h
def sn (xs:Array Value) (i k:Nat):((List.range k).filterMap fun (m:Nat)=>xs[((i:Int)+(m:Int)*1).toNat]?).toArray=((xs.toList.drop i).take k).toArray:=by
 have e:(fun (m:Nat)=>xs[((i:Int)+(m:Int)*1).toNat]?)=fun m=>xs[i+m]?:=by
  funext m
  have:((i:Int)+(m:Int)*1).toNat=i+m:=by omega
  rw [this]
 rw [e]
 have:=pick_run xs i k
 rw [List.filterMap_map] at this
 have e2:((fun x=>xs[x]?) ∘ fun x=>i+x)=fun m=>xs[i+m]?:=rfl
 rw [e2] at this
 rw [this]
def pH {t sl:Addr} {items:Array Value} {vl vu:Value} {lo hi:Option Int} {Q:Value->Shared->Prop} (ht:IsTup s.heap t items) (hs:s.heap.IsSliceOf sl vl vu .none) (pl:IsPart vl lo) (pu:IsPart vu hi)
  (hw:¬ (sIx items.size 0 lo=0/\sIx items.size items.size hi=items.size))
  (h:Q (.ref s.heap.objs.size) {s with heap:=s.heap.push {cls:=.type "tuple",data:=.seq ((items.toList.drop (sIx items.size 0 lo)).take (sIx items.size items.size hi-sIx items.size 0 lo)).toArray}})
  (hsz:items.size<=sizeLine):wpAny (model prog w) A (getItem (.ref t) (.ref sl)) Q E s:=by
 have htake:sizeOk (.seq ((items.toList.drop (sIx items.size 0 lo)).take (sIx items.size items.size hi-sIx items.size 0 lo)).toArray):=by
  show ((items.toList.drop (sIx items.size 0 lo)).take (sIx items.size items.size hi-sIx items.size 0 lo)).toArray.size<=sizeLine
  rw [List.size_toArray,List.length_take,List.length_drop,Array.length_toList]
  omega
 have hj:sIx items.size items.size hi<=items.size:=xM _ _ (nL _) hi
 obtain ⟨os,hos,hcs,hds⟩:=id hs
 have hTs:s.TypeIs (.ref sl) "slice":=⟨os,hos,hcs⟩
 unfold getItem
 try with_reducible refine wpAny_holding ?_
 first | refine wB (wpAny_pure ?_) | skip
 refine wB (wpAny_sequenceKey ht.typeIs (by decide) ?_)
 refine wB (wpAny_callSpecial?_slot (name:=Str.ofString "__getitem__") ht.typeIs PyProof.Rows.slot_tuple_getitem
  (wpAny_call_entry PyProof.Rows.slot_tuple_getitem ht.typeIs entry_tuple_getitem ?_ (args_tuple_getitem _ _)))
 show wpAny _ _ (Builtin.Tuple.tupleItemsOf (.ref t) >>= _) _ _ s
 refine wB (tupleItemsOf_ ht ?_)
 refine wB (wpAny_typeOf hTs ?_)
 rw [if_pos (by decide)]
 refine wB (iz hs pl pu ?_)
 have hno:¬ ((((sIx items.size 0 lo:Nat):Int)==0&&(1:Int)==1&&(sIx items.size items.size hi-sIx items.size 0 lo)==items.size)=true):=by
  intro q
  rw [Bool.and_eq_true,Bool.and_eq_true] at q
  have q1:((sIx items.size 0 lo:Nat):Int)=0:=eq_of_beq q.1.1
  have q2:sIx items.size items.size hi-sIx items.size 0 lo=items.size:=eq_of_beq q.2
  exact hw ⟨by omega,by omega⟩
 show wpAny _ _ (if (((sIx items.size 0 lo:Nat):Int)==0&&(1:Int)==1&&(sIx items.size items.size hi-sIx items.size 0 lo)==items.size)=true then _ else _) _ _ s
 rw [if_neg hno,sn]
 first
  | exact wB (m:=Builtin.Tuple.tupleExact _) (wpAny_newObj_type (wpAny_pure ⟨_,rfl,wpAny_pure h⟩) htake)
  | exact wB (m:=Builtin.Tuple.tupleExact _) (wpAny_newObj_type (wB (wpAny_pure (wpAny_pure ⟨_,rfl,wpAny_pure h⟩))) htake)
  | exact wB (wB (m:=Builtin.Tuple.tupleExact _) (wpAny_newObj_type (wpAny_pure (wpAny_pure ⟨_,rfl,wpAny_pure h⟩)) htake))
  | exact wB (wB (m:=Builtin.Tuple.tupleExact _) (wpAny_newObj_type (wpAny_pure ⟨_,rfl,wpAny_pure h⟩) htake))
end
end HT
namespace L2
open PySem PySem.Spec PyProof.Rows
abbrev TO:=St->Hp->(Option Int->Hp->Prop)->Prop
noncomputable def PO (X:Cx) (e:Option Expr) (t:TO):Prop:=
 ∀ (pins:List (Addr×Obj)) (s:Shared) (σ:St) (H:Hp) (Q:Option Int->Hp->Prop),Inv X pins σ H s->t σ H Q→
  wpAny (model X.prog X.w) X.A (evalPart e X.env) (fun u s'=>∃ o H',Inv X pins σ H' s'/\IsPart u o/\Q o H') X.xe s
def zd (t:TE):TO:=fun σ H Q=>t σ H fun x H1=>∃ i,x=.int i/\Q (some i) H1
section
variable {X:Cx} {e:Expr} {te:TE} {lo hi:Option Expr} {tl th:TO} {pos p2:Pos}
def vc (h:PE X e te):PO X (some e) (zd te):=by
 intro pins s σ H Q I hw
 rw [evalPart_some]
 refine thn (h pins s σ H _ I hw) fun u s1 ⟨x,H1,I1,r1,q1⟩=>?_
 obtain ⟨i,rfl,q⟩:=q1
 obtain ⟨t,rfl⟩:=r1
 exact ⟨some i,H1,I1,.int i t,q⟩
noncomputable def SlR (X:Cx) (r:V->Option Int->Option Int->Hp->VK->Prop):Prop:=
 ∀ (pins:List (Addr×Obj)) (s:Shared) (σ:St) (H:Hp) (x:V) (v vl vu:Value) (lo hi:Option Int) (sl:Addr) (Q:VK),Inv X pins σ H s->RelV x v->s.heap.IsSliceOf sl vl vu .none->IsPart vl lo->IsPart vu hi->r x lo hi H Q→
  ∃ T id,typeLookup (.type T) "__getitem__"=pure (some (.builtin id))/\s.TypeIs v T/\wpAny (model X.prog X.w) X.A (getItem v (.ref sl)) (EP X pins σ Q) X.xe s
def SlR.or {r r':V->Option Int->Option Int->Hp->VK->Prop} (h:SlR X r) (h':SlR X r'):SlR X (fun x lo hi H Q=>r x lo hi H Q∨r' x lo hi H Q):=by
 intro pins s σ H x v vl vu lo hi sl Q I rx hs pl pu q
 rcases q with q | q
 · exact h pins s σ H x v vl vu lo hi sl Q I rx hs pl pu q
 · exact h' pins s σ H x v vl vu lo hi sl Q I rx hs pl pu q
def tSl (r:V->Option Int->Option Int->Hp->VK->Prop) (te:TE) (tl th:TO):TE:=fun σ H Q=>te σ H fun x H1=>tl σ H1 fun l H2=>th σ H2 fun u H3=>r x l u H3 Q
def sq {r:V->Option Int->Option Int->Hp->VK->Prop} (hr:SlR X r) (he:PE X e te) (hl:PO X lo tl) (hu:PO X hi th):PE X (.Subscript e (.Slice lo hi none p2) pos) (tSl r te tl th):=by
 intro pins s σ H Q I h
 refine Subscript_ (thn (he pins s σ H _ I h) fun v s1 ⟨x,H1,I1,r1,q1⟩=>?_)
 refine wpAny_Slice (thn (hl pins s1 σ H1 _ I1 q1) fun vl s2 ⟨l,H2,I2,pl,q2⟩=>thn (hu pins s2 σ H2 _ I2 q2) fun vu s3 ⟨u,H3,I3,pu,q3⟩=>?_)
 rw [evalPart_none]
 refine wpAny_pure ?_
 have I4:Inv X pins σ H3 {s3 with heap:=s3.heap.push {cls:=.type "slice",data:=.fields #[vl,vu,.none]}}:=I3.kept (t':=s3.toks) fun b ob q=>gP _ q
 obtain ⟨T,id,hT,ht,hg⟩:=hr pins {s3 with heap:=s3.heap.push {cls:=.type "slice",data:=.fields #[vl,vu,.none]}} σ H3 x v vl vu l u s3.heap.objs.size Q I4 r1 (Heap.IsSliceOf.new ..) pl pu q3
 show wpAny (model X.prog X.w) X.A (subscriptTail e (.Slice lo hi none p2) v (.ref s3.heap.objs.size)) (EP X pins σ Q) X.xe {s3 with heap:=s3.heap.push {cls:=.type "slice",data:=.fields #[vl,vu,.none]}}
 exact tail_any (ops:=[.ref s3.heap.objs.size,v]) ht hT hg (by with_unfolding_all rfl)
def mR (xs:List V) (lo hi:Option Int):List V:=(xs.drop (HT.sIx xs.length 0 lo)).take (HT.sIx xs.length xs.length hi-HT.sIx xs.length 0 lo)
def iL (xs:List V) (lo hi:Option Int):(mR xs lo hi).length<=xs.length:=by
 unfold mR
 rw [List.length_take,List.length_drop]
 omega
noncomputable def rSlT (K:PySem.W.Frag):V->Option Int->Option Int->Hp->VK->Prop:=fun x lo hi H Q=>∃ a xs,x=.ref a/\SqT K H a xs∧
 ¬ (HT.sIx xs.length 0 lo=0/\HT.sIx xs.length xs.length hi=xs.length)/\∀ p,H p=none->Q (.ref p) (upd H p (.tup (mR xs lo hi)))
def xN:SlR X (rSlT X.K):=by
 intro pins s σ H x v vl vu lo hi sl Q I rx hs pl pu h
 obtain ⟨a,xs,rfl,hx,hw,q⟩:=h
 cases rx
 obtain ⟨its,r,ht,hz⟩:=I.tuple hx
 have hlen:its.toArray.size=xs.length:=by rw [List.size_toArray];exact r.length.symm
 refine ⟨"tuple",_,PyProof.Rows.slot_tuple_getitem.lookup,ht.typeIs,?_⟩
 refine HT.pH ht hs pl pu (by rw [hlen];exact hw) ?_ (by rw [hlen];exact hz)
 rw [hlen]
 refine ⟨.ref s.heap.objs.size,_,I.laid (t':=s.toks) (o:=.tup (mR xs lo hi)) (fun b ob q=>gP _ q) (nL _) ?_,rfl,q _ (I.hok.fresh (nL _))⟩
 exact ⟨Nat.le_trans (iL xs lo hi) hz,_,(r.drop (HT.sIx xs.length 0 lo)).take (HT.sIx xs.length xs.length hi-HT.sIx xs.length 0 lo),IsTup.new _ _⟩
noncomputable def wL (K:PySem.W.Frag):R2:=fun x y H Q=>∃ a b xs ys,x=.ref a/\y=.ref b/\SqT K H a xs/\SqT K H b ys/\xs≠[]/\xs.length+ys.length<=sizeLine∧
 (ys=[]->Q (.ref a) H)/\(ys≠[]->∀ p,H p=none->Q (.ref p) (upd H p (.tup (xs++ys))))
def Vals.nil_iff {xs:List V} {us:List Value} (r:Vals xs us):us=[]↔xs=[]:=by
 cases r with
 | nil=>simp
 | cons _ _=>simp
def pI:OpR X (binaryOp .Add) (wL X.K):=by
 intro pins s σ H x y v u Q I rx ry h
 obtain ⟨a,b,xs,ys,rfl,rfl,ha,hb,hx,hz,q1,q2⟩:=h
 cases rx
 cases ry
 obtain ⟨its,r1,p1,_⟩:=I.tuple ha
 obtain ⟨its2,r2,p2,_⟩:=I.tuple hb
 refine HT.zD p1 p2 (fun z=>hx (r1.nil_iff.mp z)) (fun z=>⟨.ref a,H,I,rfl,q1 (r2.nil_iff.mp z)⟩) (fun z=>?_) (by rw [<- r1.length,<- r2.length];exact hz)
 refine ⟨.ref s.heap.objs.size,_,I.laid (t':=s.toks) (o:=.tup (xs++ys)) (fun b ob q=>gP _ q) (nL _) ?_,rfl,q2 (fun w=>z (r2.nil_iff.mpr w)) _ (I.hok.fresh (nL _))⟩
 exact ⟨by rw [List.length_append];exact hz,_,r1.append r2,IsTup.new _ _⟩
end
def ixN (n:Nat) (i:Int):Option Nat:=if 0<=i then (if i<n then some i.toNat else none) else if -(n:Int)<=i then some (i+n).toNat else none
def atI {α:Type} (xs:List α) (i:Int):Option α:=(ixN xs.length i).bind fun j=>xs[j]?
def pJ {n:Nat} {i:Int} {j:Nat} (h:ixN n i=some j):seqIndex? i n=some j/\j<n/\-(n:Int)<=i/\i<n:=by
 unfold ixN at h
 by_cases h0:0<=i
 · rw [if_pos h0] at h
   by_cases h1:i<n
   · rw [if_pos h1] at h
     have e:i.toNat=j:=Option.some.inj h
     exact ⟨by rw [seqIndex_of h0 h1,e],by omega,by omega,h1⟩
   · rw [if_neg h1] at h;cases h
 · rw [if_neg h0] at h
   by_cases h1:-(n:Int)<=i
   · rw [if_pos h1] at h
     have e:(i+n).toNat=j:=Option.some.inj h
     exact ⟨by rw [seqIndex_neg (by omega) h1,e],by omega,h1,by omega⟩
   · rw [if_neg h1] at h;cases h
def lK {α:Type} {xs:List α} {i:Int} {v:α} (h:atI xs i=some v):∃ j,seqIndex? i xs.length=some j/\xs[j]?=some v/\j<xs.length/\-(xs.length:Int)<=i/\i<xs.length:=by
 unfold atI at h
 cases e:ixN xs.length i with
 | none=>rw [e] at h;cases h
 | some j =>
  rw [e] at h
  obtain ⟨h1,h2,h3,h4⟩:=pJ e
  exact ⟨j,h1,h,h2,h3,h4⟩
def dy {α:Type} {xs:List α} {j:Nat} {v:α} (h:xs[j]?=some v):atI xs (j:Int)=some v:=by
 have hj:j<xs.length:=(gX h).1
 have e:ixN xs.length (j:Int)=some j:=by
  unfold ixN
  rw [if_pos (by omega),if_pos (by omega)];simp
 unfold atI;rw [e];exact h
def lL (b:Expr):Prop:=∀ o i,subscripted b false o i=operate [o,i] (getItem o i)
noncomputable def IxR (X:Cx) (r:R2):Prop:=
 ∀ (value slice:Expr) (pins:List (Addr×Obj)) (s:Shared) (σ:St) (H:Hp) (x y:V) (v u:Value) (Q:VK),Inv X pins σ H s->RelV x v->RelV y u->r x y H Q→
  subscripted slice false v u=operate [v,u] (getItem v u)->wpAny (model X.prog X.w) X.A (subscriptTail value slice v u) (EP X pins σ Q) X.xe s
noncomputable def MtR (X:Cx) (id:String) (r:V->List V->Hp->VK->Prop):Prop:=
 ∀ (pins:List (Addr×Obj)) (s:Shared) (σ:St) (H:Hp) (x:V) (xs:List V) (v:Value) (us:List Value) (Q:VK),Inv X pins σ H s->RelV x v->Vals xs us->r x xs H Q→
  wpAny (model X.prog X.w) X.A (call (.builtin id) (v::us)) (EP X pins σ Q) X.xe s
section
variable {X:Cx} {a b:Expr} {ta tb:TE} {pos:Pos}
def IxR.or {r r':R2} (h:IxR X r) (h':IxR X r'):IxR X (fun x y H Q=>r x y H Q∨r' x y H Q):=by
 intro value slice pins s σ H x y v u Q I rx ry q hs
 rcases q with q | q
 · exact h value slice pins s σ H x y v u Q I rx ry q hs
 · exact h' value slice pins s σ H x y v u Q I rx ry q hs
def wM {r:R2} (hr:IxR X r) (ha:PE X a ta) (hb:PE X b tb) (hs:lL b):PE X (.Subscript a b pos) (tOp r ta tb):=by
 intro pins s σ H Q I h
 exact Subscript_ (xD ha hb I h fun v u s2 x y H2 I2 rx ry q=>hr a b pins s2 σ H2 x y v u Q I2 rx ry q (hs _ _))
def rIxL (K:PySem.W.Frag):R2:=fun x y H Q=>∃ p xs i v,x=.ref p/\y=.int i/\SqL K H p xs/\atI xs i=some v/\Q v H
def rIxT (K:PySem.W.Frag):R2:=fun x y H Q=>∃ p xs i v,x=.ref p/\y=.int i/\SqT K H p xs/\atI xs i=some v/\Q v H
def rIxS:R2:=fun x y H Q=>∃ z i c,x=.str z/\y=.int i/\z.length<=sizeLine/\atI z.cps.toList i=some c/\Q (.str ⟨#[c]⟩) H
def ix_list:IxR X (rIxL X.K):=by
 intro value slice pins s σ H x y v u Q I rx ry h hs
 obtain ⟨p,xs,i,z,rfl,rfl,hq,he,q⟩:=h
 cases rx
 obtain ⟨t,rfl⟩:=ry
 obtain ⟨its,r,pl,hz⟩:=I.list hq
 obtain ⟨j,h1,h2,h3,h4,h5⟩:=lK he
 obtain ⟨w,ew,rw'⟩:=r.get h2
 have hl:=r.length
 have hn:=ix
 have fin:EP X pins σ Q w s:=⟨z,H,I,rw',q⟩
 by_cases h0:0<=i
 · have hj:i.toNat=j:=by
    rw [seqIndex_of h0 h5] at h1
    exact Option.some.inj h1
   exact item_listR pl.isList h0 (by omega) (by rw [hj];simpa using ew) fin hs
 · have hj:(i+(its.toArray.size:Int)).toNat=j:=by
    rw [seqIndex_neg (by omega) h4] at h1
    rw [List.size_toArray,<- hl]
    exact Option.some.inj h1
   exact subscriptTail_builtinR (x:=w) pl.isList.typeIs slot_list_getitem.lookup
    (wpAny_getItem_list_neg (Q:=fun r s'=>r=w/\EP X pins σ Q r s') pl.isList (by omega) (by rw [List.size_toArray]<;>omega) (by omega) (by rw [hj];simpa using ew) ⟨rfl,fin⟩) hs
def ix_tup:IxR X (rIxT X.K):=by
 intro value slice pins s σ H x y v u Q I rx ry h hs
 obtain ⟨p,xs,i,z,rfl,rfl,hq,he,q⟩:=h
 cases rx
 obtain ⟨t,rfl⟩:=ry
 obtain ⟨its,r,pl,hz⟩:=I.tuple hq
 obtain ⟨j,h1,h2,h3,h4,h5⟩:=lK he
 obtain ⟨w,ew,rw'⟩:=r.get h2
 have hl:=r.length
 have hn:=ix
 have fin:EP X pins σ Q w s:=⟨z,H,I,rw',q⟩
 exact subscriptTail_builtinR (x:=w) pl.typeIs slot_tuple_getitem.lookup
  (getItem_tuple (j:=j) (Q:=fun r s'=>r=w/\EP X pins σ Q r s') pl (by omega) (by omega) (by rw [List.size_toArray,<- hl];exact h1) (by simpa using ew) ⟨rfl,fin⟩) hs
def xO:IxR X rIxS:=by
 intro value slice pins s σ H x y v u Q I rx ry h hs
 obtain ⟨z,i,c,rfl,rfl,hz,he,q⟩:=h
 obtain ⟨t,rfl⟩:=rx
 obtain ⟨t',rfl⟩:=ry
 obtain ⟨j,h1,h2,h3,h4,h5⟩:=lK he
 have hl:z.cps.toList.length=z.length:=by simp [Str.length]
 rw [hl] at h1 h4 h5
 have hn:=ix
 exact tail_any (typeIs_str s z t) slot_str_getitem.lookup (getItem_str (c:=c) (by
  have e1:decide (i < -(2^63:Int))=false:=decide_eq_false (by omega)
  have e2:decide (i ≥ 2^63)=false:=decide_eq_false (by omega)
  rw [e1,e2,Bool.or_false]) (by rw [h1];simpa using h2) ⟨.str ⟨#[c]⟩,H,I.tok _,⟨_,rfl⟩,q⟩) hs
def rIx (K:PySem.W.Frag):R2:=fun x y H Q=>rIxL K x y H Q∨rIxT K x y H Q∨rIxS x y H Q
def sr:IxR X (rIx X.K):=ix_list.or (ix_tup.or xO)
def oz (its:List Value) (n j:Nat) (u:Value):Obj.mapSeq (·.setIfInBounds j u) {cls:=.type "list",data:=.seq its.toArray n}={cls:=.type "list",data:=.seq (its.set j u).toArray n}:=by
 simp [Obj.mapSeq]
def Inv.lst {pins:List (Addr×Obj)} {σ:St} {H:Hp} {s:Shared} {p:Addr} {xs:List V} (I:Inv X pins σ H s) (h:H p=some (.lst xs)) :
  ∃ (its:List Value) (n:Nat),Vals xs its/\s.heap.get? p=some {cls:=.type "list",data:=.seq its.toArray n}/\xs.length<=sizeLine:=by
 obtain ⟨z,its,n,r,e⟩:=I.hok p _ h
 exact ⟨its,n,r,e,z⟩
def Inv.lstUpd {pins:List (Addr×Obj)} {σ:St} {H:Hp} {s:Shared} {p:Addr} {xs ys:List V} {its its':List Value} {n n':Nat} {f:Obj->Obj} (I:Inv X pins σ H s) (h:H p=some (.lst xs))
  (ho:s.heap.get? p=some {cls:=.type "list",data:=.seq its.toArray n}) (hf:f {cls:=.type "list",data:=.seq its.toArray n}={cls:=.type "list",data:=.seq its'.toArray n'}) (r:Vals ys its') (hz:ys.length<=sizeLine) (t:Nat) :
  Inv X pins σ (upd H p (.lst ys)) {s with heap:=s.heap.update p f,toks:=t}:=by
 have e:(s.heap.update p f).get? p=some {cls:=.type "list",data:=.seq its'.toArray n'}:=by
  rw [Heap.get?_update_self f ho (by rw [hf]<;>rfl),hf]
 refine I.write (x:=p) (e:=p) (by rw [h];trivial) (.inl rfl) (fun b u hb q=>(Heap.get?_update_other _ _ (Ne.symm hb)).trans q) ⟨_,e⟩ ?_
 exact ⟨hz,its',n',r,e⟩
def ze:V->V->V->Hp->(Hp->Prop)->Prop:=fun o i v H Q=>∃ p xs k j,o=.ref p/\i=.int k/\H p=some (.lst xs)/\ixN xs.length k=some j/\Q (upd H p (.lst (xs.set j v)))
def mT:PSet X ze:=by
 intro pins s σ H o i v ov iv u Q I ro ri rv h
 obtain ⟨p,xs,k,j,rfl,rfl,hp,hj,q⟩:=h
 cases ro
 obtain ⟨t,rfl⟩:=ri
 obtain ⟨its,n,r,ho,hz⟩:=I.lst hp
 obtain ⟨h1,h2,h3,h4⟩:=pJ hj
 have hl:=r.length
 have hn:=ix
 have I':Inv X pins σ (upd H p (.lst (xs.set j v))) {s with heap:=s.heap.update p (Obj.mapSeq (·.setIfInBounds j u))}:=
  I.lstUpd hp ho (oz its n j u) (r.set rv j) (by rw [List.length_set];exact hz) s.toks
 by_cases h0:0<=k
 · have hk:k.toNat=j:=by
    rw [seqIndex_of h0 h4] at h1
    exact Option.some.inj h1
   exact PySem.W.ki_setAt ho h0 (by omega) (by rw [List.size_toArray,<- hl];exact h4) (by rw [hk];exact ⟨_,I',q⟩)
 · have hk:(k+(its.toArray.size:Int)).toNat=j:=by
    rw [seqIndex_neg (by omega) h3] at h1
    rw [List.size_toArray,<- hl]
    exact Option.some.inj h1
   exact PySem.W.ki_setBack ho (by omega) (by rw [List.size_toArray,<- hl];exact h3) (by omega) (by rw [hk];exact ⟨_,I',q⟩)
def lM (lo hi:Option Int) (n:Nat):(sliceBounds lo hi none n).1=((HT.sIx n 0 lo:Nat):Int)/\(sliceBounds lo hi none n).2.1=((HT.sIx n n hi:Nat):Int)/\(sliceBounds lo hi none n).2.2=1:=by
 refine ⟨?_,?_,rfl⟩
 · cases lo with
   | none=>simp [sliceBounds,HT.sIx]
   | some i =>
    simp only [sliceBounds,HT.sIx,Option.getD_none,show (1:Int) > 0 by decide,if_true]
    by_cases h:i<0
    · simp only [h,if_true]<;>omega
    · simp only [h,if_false]<;>omega
 · cases hi with
   | none=>simp [sliceBounds,HT.sIx]
   | some i =>
    simp only [sliceBounds,HT.sIx,Option.getD_none,show (1:Int) > 0 by decide,if_true]
    by_cases h:i<0
    · simp only [h,if_true]<;>omega
    · simp only [h,if_false]<;>omega
def j5 (its:List Value) (lo hi:Option Int):slicePick its.toArray lo hi none=((its.drop (HT.sIx its.length 0 lo)).take (HT.sIx its.length its.length hi-HT.sIx its.length 0 lo)).toArray:=by
 obtain ⟨h1,h2,h3⟩:=lM lo hi its.toArray.size
 unfold slicePick
 rw [h1,h2,h3]
 simp only [sliceRange_one,pick_run,List.size_toArray]<;>rfl
def rSlL (K:PySem.W.Frag):V->Option Int->Option Int->Hp->VK->Prop:=fun x lo hi H Q=>∃ a xs,x=.ref a/\SqL K H a xs/\∀ p,H p=none->Q (.ref p) (upd H p (.lst (mR xs lo hi)))
def vd:SlR X (rSlL X.K):=by
 intro pins s σ H x v vl vu lo hi sl Q I rx hs pl pu h
 obtain ⟨a,xs,rfl,hx,q⟩:=h
 cases rx
 obtain ⟨its,r,ht,hz⟩:=I.list hx
 have hlen:=r.length
 refine ⟨"list",_,slot_list_getitem.lookup,ht.isList.typeIs,?_⟩
 refine wpAny_getItem_list_slice ht.isList hs pl pu .none (by simp) ?_ (by rw [List.size_toArray]<;>omega)
 rw [j5,<- hlen]
 refine ⟨.ref s.heap.objs.size,_,I.laid (t':=s.toks) (o:=.lst (mR xs lo hi)) (fun b ob q=>gP _ q) (nL _) ?_,rfl,q _ (I.hok.fresh (nL _))⟩
 exact ⟨Nat.le_trans (iL xs lo hi) hz,_,0,(r.drop (HT.sIx xs.length 0 lo)).take (HT.sIx xs.length xs.length hi-HT.sIx xs.length 0 lo),Heap.get?_push_size _ rfl⟩
def wN:V->Bool
 | .non=>true
 | .bl _=>true
 | .int _=>true
 | .str _=>true
 | _=>false
def eqV:V->V->Bool
 | .non,.non=>true
 | .bl a,.bl b=>a==b
 | .bl a,.int b=>(if a then 1 else 0)==b
 | .int a,.bl b=>a==(if b then 1 else 0)
 | .int a,.int b=>a==b
 | .str a,.str b=>a==b
 | _,_=>false
def jt {A:Around} {s:Shared} {y x:V} {u v:Value} (ry:RelV y u) (rx:RelV x v) (fy:wN y=true) (fx:wN x=true):SeqAt.EqAt A s u v (eqV y x):=by
 cases y with
 | non =>
  cases ry
  cases x with
  | non=>cases rx;exact SeqAt.EqAt.same _
  | bl b=>cases rx;exact SeqAt.EqAt.none_bool b
  | int b=>obtain ⟨t,rfl⟩:=rx;exact SeqAt.EqAt.none_int b t
  | str b=>obtain ⟨t,rfl⟩:=rx;exact SeqAt.EqAt.none_str b t
  | _=>exact absurd (show false=true from fx) Bool.false_ne_true
 | bl a =>
  cases ry
  cases x with
  | non=>cases rx;exact SeqAt.EqAt.bool_none a
  | bl b=>cases rx;exact SeqAt.EqAt.bool_bool a b
  | int b=>obtain ⟨t,rfl⟩:=rx;exact SeqAt.EqAt.bool_int a b t
  | str b=>obtain ⟨t,rfl⟩:=rx;exact SeqAt.EqAt.bool_str a b t
  | _=>exact absurd (show false=true from fx) Bool.false_ne_true
 | int a =>
  obtain ⟨t',rfl⟩:=ry
  cases x with
  | non=>cases rx;exact SeqAt.EqAt.int_none a t'
  | bl b=>cases rx;exact SeqAt.EqAt.int_bool a t' b
  | int b=>obtain ⟨t,rfl⟩:=rx;exact SeqAt.EqAt.int_int a t' b t
  | str b=>obtain ⟨t,rfl⟩:=rx;exact SeqAt.EqAt.int_str a t' b t
  | _=>exact absurd (show false=true from fx) Bool.false_ne_true
 | str a =>
  obtain ⟨t',rfl⟩:=ry
  cases x with
  | non=>cases rx;exact SeqAt.EqAt.str_none a t'
  | bl b=>cases rx;exact SeqAt.EqAt.str_bool a t' b
  | int b=>obtain ⟨t,rfl⟩:=rx;exact SeqAt.EqAt.str_int a t' b t
  | str b=>obtain ⟨t,rfl⟩:=rx;exact SeqAt.EqAt.str_str a t' b t
  | _=>exact absurd (show false=true from fx) Bool.false_ne_true
 | _=>exact absurd (show false=true from fy) Bool.false_ne_true
def fu:dL X (.type "list") (fun xs H Q=>∃ p ys,xs=[.ref p]/\(SqL X.K H p ys∨SqT X.K H p ys)/\∀ l,H l=none->Q (.ref l) (upd H l (.lst ys))):=by
 intro pins s σ H xs us Q I r h
 obtain ⟨p,ys,rfl,hq,q⟩:=h
 obtain ⟨u,rfl,rx⟩:=jq r
 cases rx
 have fin:∀ (its:List Value),Vals ys its->ys.length<=sizeLine->∀ (h':Heap) (c':Nat),(∀ b o',s.heap.get? b=some o'->h'.get? b=some o')→
     h'.get? s.heap.objs.size=some {cls:=.type "list",dict:=none,data:=.seq its.toArray c',slots:=#[]}->EP X pins σ Q (.ref s.heap.objs.size) {s with heap:=h'}:=fun its r' hz h' c' kp e =>
  ⟨.ref s.heap.objs.size,_,I.laid (t':=s.toks) kp (nL _) (show ObjOk X.prog X.w _ h' _ (.lst ys) from ⟨hz,its,c',r',e⟩),rfl,q _ (I.hok.fresh (nL _))⟩
 rcases hq with hq | hq
 · obtain ⟨its,r',pl,hz⟩:=I.list hq
   have hlen:=r'.length
   obtain ⟨o,ho,hc,n,hd⟩:=pl.isList
   exact call_list_seq p (.inl rfl) ho hc hd (fun h' c' kp e=>fin its r' hz h' c' kp e) (by simp only [List.size_toArray]<;>omega)
 · obtain ⟨its,r',pl,hz⟩:=I.tuple hq
   have hlen:=r'.length
   obtain ⟨o,ho,hc,n,hd⟩:=pl
   exact call_list_seq p (.inr rfl) ho hc hd (fun h' c' kp e=>fin its r' hz h' c' kp e) (by simp only [List.size_toArray]<;>omega)
def dh:dL X (.type "tuple") (fun xs H Q=>∃ p ys,xs=[.ref p]/\((SqL X.K H p ys/\∀ l,H l=none->Q (.ref l) (upd H l (.tup ys)))∨(SqT X.K H p ys/\Q (.ref p) H))):=by
 intro pins s σ H xs us Q I r h
 obtain ⟨p,ys,rfl,h⟩:=h
 obtain ⟨u,rfl,rx⟩:=jq r
 cases rx
 rcases h with ⟨hq,q⟩ | ⟨hq,q⟩
 · obtain ⟨its,r',pl,hz⟩:=I.list hq
   have hlen:=r'.length
   refine call_tuple_list pl.isList (fun h' kp=>?_) (by simp only [List.size_toArray]<;>omega)
   have I1:Inv X pins σ H {s with heap:=h'}:=I.kept (t':=s.toks) kp
   have I2:Inv X pins σ (upd H h'.objs.size (.tup ys)) {s with heap:=h'.push {cls:=.type "tuple",data:=.seq its.toArray}}:=
    I1.laid (t':=s.toks) (fun b o e=>gP _ e) (nL _) (show ObjOk X.prog X.w _ _ _ (.tup ys) from ⟨hz,its,r',IsTup.new _ _⟩)
   exact ⟨.ref h'.objs.size,_,I2,rfl,q _ (I1.hok.fresh (nL _))⟩
 · obtain ⟨its,r',pl,hz⟩:=I.tuple hq
   exact call_tuple_same pl ⟨.ref p,H,I,rfl,q⟩
noncomputable def tyV (K:PySem.W.Frag) (T:String) (x:V) (H:Hp):Prop:=match x with
 | .str _=>T="str"
 | .int _=>T="int"
 | .ref p=>(T="list"/\∃ xs,SqL K H p xs)∨(T="tuple"/\∃ o,K.lookup p=some o/\o.cls=.type "tuple"/\o.dict=none)∨
     (T="dict"/\((∃ kvs,H p=some (.dK kvs))∨∃ kvs,H p=some (.dT kvs)))∨(T="set"/\∃ S n,H p=some (.set S n))
 | _=>False
def su {pins:List (Addr×Obj)} {σ:St} {H:Hp} {s:Shared} {T:String} {x:V} {v:Value} (I:Inv X pins σ H s) (r:RelV x v) (ty:tyV X.K T x H) :
  s.TypeIs v T/\∀ a,v=.ref a->∃ ob,s.heap.get? a=some ob/\ob.dict=none:=by
 cases x with
 | str z =>
  obtain ⟨t,rfl⟩:=r
  cases (show T="str" from ty)
  exact ⟨typeIs_str s z t,fun _ e=>nomatch e⟩
 | int i =>
  obtain ⟨t,rfl⟩:=r
  cases (show T="int" from ty)
  exact ⟨typeIs_int s i t,fun _ e=>nomatch e⟩
 | ref p =>
  cases r
  rcases ty with ⟨rfl,xs,hq⟩ | ⟨rfl,o,hk,hc,hd⟩ | ⟨rfl,hk⟩ | ⟨rfl,S,n,hk⟩
  · obtain ⟨its,_,pl,_⟩:=I.list hq
    refine ⟨pl.isList.typeIs,fun a e=>?_⟩
    cases e
    obtain ⟨o,n,e,c,hd,_⟩:=pl
    exact ⟨o,e,hd⟩
  · refine ⟨⟨o,I.kIn p o hk,hc⟩,fun a e=>?_⟩
    cases e
    exact ⟨o,I.kIn _ o hk,hd⟩
  · have z:∃ o,s.heap.get? p=some o/\o.ExactDict:=by
     rcases hk with ⟨kvs,hk⟩ | ⟨kvs,hk⟩
     · obtain ⟨_,_,_,_,o,_,_,e,ex,_⟩:=I.hok p _ hk
       exact ⟨o,e,ex⟩
     · obtain ⟨_,_,_,_,o,_,_,e,ex,_⟩:=I.hok p _ hk
       exact ⟨o,e,ex⟩
    obtain ⟨o,e,ex⟩:=z
    refine ⟨⟨o,e,ex.1⟩,fun a e2=>?_⟩
    cases e2
    exact ⟨o,e,ex.2.1⟩
  · obtain ⟨o,_,_,_,e,ex,_⟩:=I.hok p _ hk
    refine ⟨⟨o,e,ex.1⟩,fun a e2=>?_⟩
    cases e2
    exact ⟨o,e,ex.2.1⟩
 | _=>exact False.elim ty
def tBM0 (K:PySem.W.Frag) (T:String) (r:V->List V->Hp->VK->Prop) (to:TE):TE:=fun σ H Q=>to σ H fun x H1=>tyV K T x H1/\r x [] H1 Q
def tBM (K:PySem.W.Frag) (T:String) (r:V->List V->Hp->VK->Prop) (to:TE) (t:TA):TE:=fun σ H Q=>to σ H fun x H1=>tyV K T x H1/\t σ H1 fun xs H2=>r x xs H2 Q
variable {o e:Expr} {es:List Expr} {to:TE} {t:TA} {name:Str} {apos cpos:Pos} {T id:String} {r:V->List V->Hp->VK->Prop}
def xP (pa:PlainAttrs T) (slot:Slot T name id) (hty:typeOf (.builtin id)=pure (.type "method_descriptor")) (hm:MtR X id r) (ho:PE X o to)
  (hbase:attributeBase o name X.env (eval o X.env)=eval o X.env:=by rfl) (hline:(apos.endLine==cpos.line)=true:=by rfl):PE X (.Call (.Attribute o name apos) [] [] cpos) (tBM0 X.K T r to):=by
 intro pins s σ H Q I h
 refine wpAny_Call_method0_late hbase hline (thn (ho pins s σ H _ I h) fun v s1 ⟨x,H1,I1,r1,ty,q1⟩=>?_)
 obtain ⟨h1,h2⟩:=su I1 r1 ty
 exact ⟨T,id,pa,slot,hty,h1,h2,Calls.callWith_builtin rfl (PySem.evalArgs_none (hm pins s1 σ H1 x [] v [] Q I1 r1 .nil q1))⟩
def pK (pa:PlainAttrs T) (slot:Slot T name id) (hty:typeOf (.builtin id)=pure (.type "method_descriptor")) (hm:MtR X id r) (ho:PE X o to) (ha:PA X (e::es) t)
  (hbase:attributeBase o name X.env (eval o X.env)=eval o X.env:=by rfl)
  (hfew:((backTo cpos (starEach (e::es) X.env)).all (fun x=>!x.1)&&(backToKw cpos (keywordEach [] X.env)).all (fun x=>x.1.isSome)
   && decide ((e::es).length+([]:List Keyword).length+(if ([]:List Keyword).isEmpty then 0 else 1)<30))=true:=by rfl)
  (hline:(apos.endLine==cpos.line)=true:=by rfl) (hs:starEach (e::es) X.env=(false,eval e X.env)::starEach es X.env:=by rfl) (hplain:(backTo cpos (starEach es X.env)).any (·.1)=false:=by rfl) :
  PE X (.Call (.Attribute o name apos) (e::es) [] cpos) (tBM X.K T r to t):=by
 intro pins s σ H Q I h
 refine wpAny_Call_method_late hbase hfew hline rfl (thn (ho pins s σ H _ I h) fun v s1 ⟨x,H1,I1,r1,ty,q1⟩=>?_)
 obtain ⟨h1,h2⟩:=su I1 r1 ty
 refine ⟨T,id,pa,slot,hty,h1,h2,?_⟩
 have hA:=ha cpos pins s1 σ H1 _ I1 q1
 rw [hs] at hA ⊢
 refine Calls.callWith_builtin (by show (false||(backTo cpos (starEach es X.env)).any (·.1))=false;rw [hplain]<;>rfl) (Calls.evalArgs_plain ?_)
 exact thn hA fun us s2 ⟨vs,H2,I2,r2,q2⟩=>hm pins s2 σ H2 x vs v us Q I2 r1 r2 q2
/- xs.append(e),list.index on a module's tuple .. are MtR facts of 06m -/
end
noncomputable def MtM (X:Cx) (id:String) (r:V->List V->Hp->VK->Prop):Prop:=
 ∀ (pins:List (Addr×Obj)) (s:Shared) (σ:St) (H:Hp) (x:V) (xs:List V) (v:Value) (us:List Value) (Q:VK),Inv X pins σ H s->RelV x v->Vals xs us->r x xs H Q→
  wpAny (model X.prog X.w) X.A (call (.builtin id) (v::us)) (EP X pins σ Q) X.xe s
def Vals.one:∀ {x:V} {us:List Value},Vals [x] us->∃ u,us=[u]/\RelV x u
 | _,_,.cons r .nil=>⟨_,rfl,r⟩
def Vals.zero:∀ {us:List Value},Vals [] us->us=[]
 | _,.nil=>rfl
def Vals.rep {xs:List V} {us:List Value} (h:Vals xs us):∀ k:Nat,Vals (List.replicate k xs).flatten (List.replicate k us).flatten
 | 0=>.nil
 | k+1=>by
  rw [List.replicate_succ,List.replicate_succ,List.flatten_cons,List.flatten_cons]
  exact Vals.append h (Vals.rep h k)
def gu (its:List Value):∀ (k:Nat) (acc:List Value),
  List.foldl (fun x1 x2=>x1++x2) acc.toArray (List.replicate k its.toArray)=(acc++(List.replicate k its).flatten).toArray
 | 0,acc=>by simp
 | k+1,acc=>by
  have e:acc.toArray++its.toArray=(acc++its).toArray:=by simp
  have e2:(acc++its)++(List.replicate k its).flatten=acc++(List.replicate (k+1) its).flatten:=by
   rw [List.replicate_succ,List.flatten_cons,List.append_assoc]
  rw [<- e2,<- gu its k (acc++its),<- e,List.replicate_succ,List.foldl_cons]
section
variable {X:Cx} {pins:List (Addr×Obj)} {σ:St} {H:Hp} {s:Shared} {l b:Addr} {xs ys zs:List V}
def Inv.lset {its its':List Value} {n:Nat} {f:Array Value->Array Value} {t':Nat} (I:Inv X pins σ H s) (hH:H l=some (.lst xs))
  (e:s.heap.get? l=some {cls:=.type "list",data:=.seq its.toArray n}) (hf:f its.toArray=its'.toArray) (hv:Vals ys its') (hz:ys.length<=sizeLine) :
  Inv X pins σ (upd H l (.lst ys)) {s with heap:=s.heap.update l (Obj.mapSeq f),toks:=t'}:=by
 have q:=PySem.IsL.update e f
 rw [hf] at q
 refine I.write (x:=l) (e:=l) (by rw [hH];exact trivial) (.inl rfl) (fun b' u hb hu=>(Heap.get?_update_other s.heap (Obj.mapSeq f) (Ne.symm hb)).trans hu) ⟨_,q⟩ ?_
 exact ⟨hz,its',_,hv,q⟩
def Inv.lnew {its:List Value} {t':Nat} (I:Inv X pins σ H s) (hv:Vals ys its) (hz:ys.length<=sizeLine) :
  Inv X pins σ (upd H s.heap.objs.size (.lst ys)) {s with heap:=s.heap.push {cls:=.type "list",data:=.seq its.toArray},toks:=t'}:=
 I.laid (fun _ _ q=>gP _ q) (nL _) ⟨hz,its,0,hv,Heap.get?_push_size _ rfl⟩
def Inv.fresh (I:Inv X pins σ H s):H s.heap.objs.size=none:=I.hok.fresh (nL _)
def Inv.lstM (I:Inv X pins σ H s) (hH:H l=some (.lst xs)):xs.length<=sizeLine/\∃ (its:List Value) (n:Nat),Vals xs its/\xs.length=its.length/\s.heap.get? l=some {cls:=.type "list",data:=.seq its.toArray n}:=by
 obtain ⟨z,its,n,r,e⟩:=I.hok l _ hH
 exact ⟨z,its,n,r,r.length,e⟩
def sv {n:Nat} (h:n<=sizeLine):Builtin.List.listTooLong n=false:=by
 unfold Builtin.List.listTooLong
 exact decide_eq_false (by omega)
end
section
variable {X:Cx}
def ve:V->List V->Hp->VK->Prop:=fun x vs H Q=>∃ l xs y,x=.ref l/\vs=[y]/\H l=some (.lst xs)/\xs.length<sizeLine/\Q .non (upd H l (.lst (xs++[y])))
def gv:MtM X "list.append" ve:=by
 intro pins s σ H x vs v us Q I rx rv h
 obtain ⟨l,xs,y,rfl,rfl,hH,hz,q⟩:=h
 cases rx
 obtain ⟨u,rfl,ru⟩:=rv.one
 obtain ⟨z,its,n,r,hl,e⟩:=I.lstM hH
 refine call_meets F.slot_list_append ⟨_,e,rfl⟩ F.entry_list_append (F.args_list_append_2 _ _) (PySem.list_append l its.toArray n u (by rw [List.size_toArray];omega)) ⟨e,?_⟩
 refine ⟨.non,_,I.lset (its':=its++[u]) hH e (by simp) (r.append (.cons ru .nil)) ?_,rfl,q⟩
 rw [List.length_append,List.length_singleton]
 omega
def xQ:V->List V->Hp->VK->Prop:=fun x vs H Q=>∃ l xs,x=.ref l/\vs=[]/\H l=some (.lst xs)/\Q .non (upd H l (.lst []))
def sw:MtM X "list.clear" xQ:=by
 intro pins s σ H x vs v us Q I rx rv h
 obtain ⟨l,xs,rfl,rfl,hH,q⟩:=h
 cases rx
 have hus:=rv.zero
 subst hus
 obtain ⟨z,its,n,r,hl,e⟩:=I.lstM hH
 refine call_meets F.slot_list_clear ⟨_,e,rfl⟩ F.entry_list_clear (F.args_list_clear_1 _) (AutoSeq1.list_clear_list_0 l its.toArray n (by rw [List.size_toArray];omega)) ⟨e,?_⟩
 exact ⟨.non,_,I.lset (its':=[]) (ys:=[]) hH e rfl .nil (Nat.zero_le _),rfl,q⟩
def rRep:R2:=fun x y H Q=>∃ l k xs,x=.ref l/\y=.int k/\H l=some (.lst xs)/\-(2^63)<=k/\k<2^63/\xs.length*k.toNat<=sizeLine∧
 ∀ p,H p=none->Q (.ref p) (upd H p (.lst (List.replicate k.toNat xs).flatten))
def lN {α:Type} (xs:List α) (k:Nat):(List.replicate k xs).flatten.length=k*xs.length:=by
 induction k with
 | zero=>simp
 | succ k ih=>rw [List.replicate_succ,List.flatten_cons,List.length_append,ih,Nat.succ_mul,Nat.add_comm]
def xR:OpR X (binaryOp .Mult) rRep:=by
 intro pins s σ H x y v u Q I rx ry h
 obtain ⟨l,k,xs,rfl,rfl,hH,h1,h2,hz,q⟩:=h
 cases rx
 obtain ⟨t,rfl⟩:=ry
 obtain ⟨z,its,n,r,hl,e⟩:=I.lstM hH
 have hlen:its.toArray.size*k.toNat<=sizeLine:=by rw [List.size_toArray,<- hl];exact hz
 have hcap:¬ its.toArray.size*k.toNat > (2^63-1)/8:=by
  have:(sizeLine:Nat)<=(2^63-1)/8:=by decide
  omega
 have hfit:¬ (!Builtin.List.listFitsIndex k)=true:=by
  rw [fitsIndex_both h1 h2]
  exact Bool.false_ne_true
 have hlong:¬ Builtin.List.listTooLong (its.toArray.size*k.toNat)=true:=by
  rw [sv hlen]
  exact Bool.false_ne_true
 have hnew:List.foldl (fun x1 x2=>x1++x2) #[] (List.replicate (if its.toArray.isEmpty=true then 0 else k.toNat) its.toArray)=(List.replicate k.toNat its).flatten.toArray:=by
  have f0:∀ m:Nat,List.foldl (fun x1 x2=>x1++x2) #[] (List.replicate m its.toArray)=(List.replicate m its).flatten.toArray:=fun m=>by
   have:=gu its m []
   rw [List.nil_append] at this
   exact this
  rw [f0]
  cases its with
  | nil=>simp
  | cons a r'=>rw [if_neg (by simp)]
 refine wpAny_binaryOp_repeat_ref (T:="list") (U:="int") (by decide) ⟨_,e,rfl⟩ (fun s'=>typeIs_int s' k t) noFill_list_mul F.fills_int_mul F.slot_int_rmul repeat_list F.slot_int_index.lookup
  (call_meets F.slot_int_rmul (typeIs_int s k t) F.entry_int_rmul (F.args_int_rmul_2 _ _) (int___rmul___int_list k t l its.toArray n)
   ⟨e,rfl,⟨_,e,rfl⟩,call_meets F.slot_list_mul ⟨_,e,rfl⟩ F.entry_list_mul (F.args_list_mul_2 _ _) (AutoListH.list___mul___list_int_3 l its.toArray n k t hfit hcap hlong) ⟨e,?_⟩⟩)
 rw [hnew]
 exact ⟨.ref _,_,I.lnew (t':=s.toks) (r.rep k.toNat) (by rw [lN,Nat.mul_comm];exact hz),rfl,q _ I.fresh⟩
end
section
variable {prog:Program} {w:World} {A:Around} {E:Value->Shared->Prop} {s:Shared}
end
section
variable {X:Cx}
end
section
variable {κ:Type} [DecidableEq κ]
def fw (kvs:List (κ×V)) (k:κ):Option V:=(kvs.find? fun kv=>decide (kv.1=k)).map (·.2)
def bT (kvs:List (κ×V)) (k:κ) (v:V):List (κ×V):=
 if (kvs.any fun kv=>decide (kv.1=k))=true then kvs.map (fun kv=>if kv.1=k then (kv.1,v) else kv) else kvs++[(k,v)]
def fR {p:κ×V} {r:List (κ×V)} {k:κ} (e:p.1=k):fw (p::r) k=some p.2:=by simp [fw,List.find?_cons,e]
def fS {p:κ×V} {r:List (κ×V)} {k:κ} (e:¬ p.1=k):fw (p::r) k=fw r k:=by simp [fw,List.find?_cons,e]
def g9 (k:κ):∀ kvs:List (κ×V),(kvs.any fun kv=>decide (kv.1=k))=(fw kvs k).isSome
 | []=>rfl
 | p::r=>by
  rw [List.any_cons]
  by_cases e:p.1=k
  · simp only [fR e,decide_eq_true e,Bool.true_or,Option.isSome_some]
  · rw [fS e,decide_eq_false e,Bool.false_or];exact g9 k r
def dZ (kvs:List (κ×V)) (k:κ) (v:V):(bT kvs k v).length<=kvs.length+1:=by
 unfold bT
 split
 · rw [List.length_map];omega
 · rw [List.length_append,List.length_cons,List.length_nil];omega
def sx {kvs:List (κ×V)} {k:κ} (v:V) (h:fw kvs k=none):bT kvs k v=kvs++[(k,v)]:=by
 unfold bT
 rw [g9,h]
 exact if_neg (by decide)
def RelO.isSome_eq {o:Option V} {u:Option Value} (r:RelO o u):o.isSome=u.isSome:=by
 cases o with
 | none=>cases u with
  | none=>rfl
  | some _=>exact (show False from r).elim
 | some _=>cases u with
  | none=>exact (show False from r).elim
  | some _=>rfl
def KV.val {kvs:List (κ×V)} {vs:List (κ×Value)} (r:KV kvs vs) (k:κ):RelO (fw kvs k) (valueAt vs k):=by
 unfold KV at r
 induction r with
 | nil=>exact True.intro
 | @cons p q ps qs h t ih =>
  obtain ⟨h1,h2⟩:=h
  by_cases e:p.1=k
  · have e':q.1=k:=h1.symm.trans e
    have b:valueAt (q::qs) k=some q.2:=by simp [valueAt,List.find?_cons,e']
    rw [fR e,b];exact h2
  · have e':¬ q.1=k:=fun z=>e (h1.trans z)
    have b:valueAt (q::qs) k=valueAt qs k:=by simp [valueAt,List.find?_cons,e']
    rw [fS e,b];exact ih
def KV.any {kvs:List (κ×V)} {vs:List (κ×Value)} (r:KV kvs vs) (k:κ):(kvs.any fun kv=>decide (kv.1=k))=vs.any fun kv=>decide (kv.1=k):=by
 unfold KV at r
 induction r with
 | nil=>rfl
 | cons h t ih=>rw [List.any_cons,List.any_cons,ih,h.1]
def KV.repl {kvs:List (κ×V)} {vs:List (κ×Value)} (r:KV kvs vs) (k:κ) {y:V} {u:Value} (ry:RelV y u) :
  KV (kvs.map fun kv=>if kv.1=k then (kv.1,y) else kv) (vs.map fun kv=>if kv.1=k then (kv.1,u) else kv):=by
 unfold KV at r ⊢
 induction r with
 | nil=>exact .nil
 | @cons p q ps qs h t ih =>
  rw [List.map_cons,List.map_cons]
  refine .cons ?_ ih
  obtain ⟨h1,h2⟩:=h
  by_cases e:p.1=k
  · rw [if_pos e,if_pos (h1.symm.trans e)];exact ⟨h1,ry⟩
  · rw [if_neg e,if_neg (fun z=>e (h1.trans z))];exact ⟨h1,h2⟩
def KV.put {kvs:List (κ×V)} {vs:List (κ×Value)} (r:KV kvs vs) (k:κ) {y:V} {u:Value} (ry:RelV y u):KV (bT kvs k y) (stored vs k u):=by
 unfold bT stored
 rw [r.any k]
 by_cases e:(vs.any fun kv=>decide (kv.1=k))=true
 · rw [if_pos e,if_pos e];exact r.repl k ry
 · rw [if_neg e,if_neg e];exact Paired.snoc r ⟨rfl,ry⟩
def KV.length {kvs:List (κ×V)} {vs:List (κ×Value)} (r:KV kvs vs):kvs.length=vs.length:=Paired.length r
end
def mU {P:Program} {w:World} {k:Key} {u:Value} (r:RelV (kV k) u):(bf P w).is k u=true:=by
 cases k with
 | inl i=>obtain ⟨t,e⟩:=(show ∃ t,u=Value.int i t from r);subst e;exact mI P w i t
 | inr x=>obtain ⟨t,e⟩:=(show ∃ t,u=Value.str x t from r);subst e;exact mJ P w x t
def kt {P:Program} {w:World}:∀ {ks:List Key} {us:List Value},Vals (ks.map kV) us->ItemsAre (bf P w) ks us
 | [],_,r=>by rw [List.map_nil] at r;cases r;exact .nil
 | k::ks,_,r=>by
  rw [List.map_cons] at r
  cases r with
  | cons h t=>exact .cons (mU h) (kt t)
abbrev KT (H:Hp):List (List Key×V)->List (List Key×Addr×Value)->Prop:=Paired fun p q=>p.1=q.1/\H q.2.1=some (.tup (p.1.map kV))/\RelV p.2 q.2.2
def KT.val {H:Hp} {kvs:List (List Key×V)} {xs:List (List Key×Addr×Value)} (r:KT H kvs xs) (k:List Key):RelO (fw kvs k) ((atKey xs k).map (·.2)):=by
 induction r with
 | nil=>exact True.intro
 | @cons p q ps qs h t ih =>
  obtain ⟨h1,_,h2⟩:=h
  by_cases e:p.1=k
  · have e':q.1=k:=h1.symm.trans e
    have b:atKey (q::qs) k=some q.2:=by simp [atKey,List.find?_cons,e']
    rw [fR e,b];exact h2
  · have e':¬ q.1=k:=fun z=>e (h1.trans z)
    have b:atKey (q::qs) k=atKey qs k:=by simp [atKey,List.find?_cons,e']
    rw [fS e,b];exact ih
def KT.repl {H:Hp} {kvs:List (List Key×V)} {xs:List (List Key×Addr×Value)} (r:KT H kvs xs) (k:List Key) {y:V} {u:Value} (ry:RelV y u) :
  KT H (kvs.map fun kv=>if kv.1=k then (kv.1,y) else kv) (xs.map (putAt k u)):=by
 induction r with
 | nil=>exact .nil
 | @cons p q ps qs h t ih =>
  rw [List.map_cons,List.map_cons]
  refine .cons ?_ ih
  obtain ⟨h1,h2,h3⟩:=h
  unfold putAt
  by_cases e:p.1=k
  · rw [if_pos e,if_pos (h1.symm.trans e)];exact ⟨h1,h2,ry⟩
  · rw [if_neg e,if_neg (fun z=>e (h1.trans z))];exact ⟨h1,h2,h3⟩
def KT.put {H:Hp} {kvs:List (List Key×V)} {xs:List (List Key×Addr×Value)} (r:KT H kvs xs) (k:List Key) {b:Addr} {y:V} {u:Value} (hb:H b=some (.tup (k.map kV))) (ry:RelV y u) :
  KT H (bT kvs k y) (storedH xs k b u):=by
 have e:(kvs.any fun kv=>decide (kv.1=k))=(atKey xs k).isSome:=by
  rw [g9,(r.val k).isSome_eq,Option.isSome_map]
 unfold bT storedH
 rw [e]
 by_cases q:(atKey xs k).isSome=true
 · rw [if_pos q,if_pos q];exact r.repl k ry
 · rw [if_neg q,if_neg q];exact Paired.snoc r ⟨rfl,hb,ry⟩
def KT.keeps {H H':Hp} {kvs:List (List Key×V)} {xs:List (List Key×Addr×Value)} (r:KT H kvs xs) (ht:∀ b ys,H b=some (.tup ys)->H' b=some (.tup ys)):KT H' kvs xs:=
 Paired.mapP r fun _ _ z=>⟨z.1,ht _ _ z.2.1,z.2.2⟩
section
variable {P:Program} {w:World} {H:Hp} {h:Heap} {a:Addr}
def wO {u:HO} (ok:HOk P w H h) (e:Rd H a u):ObjOk P w H h a u:=e.ok ok
def pL {kvs:List (Key×V)} (ok:HOk P w H h) (e:Rd H a (.dK kvs)):kvs.length<=sizeLine/\(a==sysModules)=false/\∃ vs,KV kvs vs/\h.DictOf (bf P w) a vs:=
 show ObjOk P w H h a (.dK kvs) from wO ok e
def wP {kvs:List (Key×V)} (ok:HOk P w H h) (e:H a=some (.dK kvs)):kvs.length<=sizeLine/\(a==sysModules)=false/\∃ vs,KV kvs vs/\h.DictOf (bf P w) a vs:=pL ok (.inl e)
def oA {ks:List Key} (ok:HOk P w H h) (e:H a=some (.tup (ks.map kV))):(tupleKind (bf P w)).is h ks a:=by
 obtain ⟨_,its,r,o,h1,h2,n,h3⟩:=(show ObjOk P w H h a (.tup (ks.map kV)) from ok a _ e)
 exact ⟨o,its.toArray,n,h1,h2,h3,by simpa using kt r⟩
def sy {kvs:List (List Key×V)} (ok:HOk P w H h) (e:Rd H a (.dT kvs)):kvs.length<=sizeLine/\(a==sysModules)=false∧
  ∃ xs,KT H kvs xs/\h.DictOfH (tupleKind (bf P w)) a xs:=by
 obtain ⟨z,y,xs,r,o,es,ep,h1,h2,h3,h4,h5⟩:=(show ObjOk P w H h a (.dT kvs) from wO ok e)
 refine ⟨z,y,xs,r,o,es,ep,h1,h2,h3,h4,fun x hx=>?_,h5⟩
 have all:∀ {l:List (List Key×V)} {m:List (List Key×Addr×Value)},KT H l m->∀ x∈m,(tupleKind (bf P w)).is h x.1 x.2.1:=by
  intro l m q
  induction q with
  | nil=>intro x hx;exact nomatch hx
  | @cons p q ps qs hq t ih =>
   intro x hx
   rcases List.mem_cons.mp hx with e | hx
   · subst e
     exact oA ok (by rw [<- hq.1];exact hq.2.1)
   · exact ih x hx
 exact all r x hx
def zf {kvs:List (List Key×V)} (ok:HOk P w H h) (e:H a=some (.dT kvs)):kvs.length<=sizeLine/\(a==sysModules)=false∧
  ∃ xs,KT H kvs xs/\h.DictOfH (tupleKind (bf P w)) a xs:=sy ok (.inl e)
end
def DGet (H:Hp) (a:Addr) (y:V) (r:Option V):Prop:=
 (∃ kvs k,Rd H a (.dK kvs)/\y=kV k/\r=fw kvs k)∨∃ kvs k b,Rd H a (.dT kvs)/\y=.ref b/\H b=some (.tup (k.map kV))/\r=fw kvs k
noncomputable def DPut (H:Hp) (a:Addr) (y v:V) (H':Hp):Prop:=
 (∃ kvs k,H a=some (.dK kvs)/\y=kV k/\kvs.length<sizeLine/\H'=upd H a (.dK (bT kvs k v)))∨
 ∃ kvs k b,H a=some (.dT kvs)/\y=.ref b/\H b=some (.tup (k.map kV))/\kvs.length<sizeLine/\H'=upd H a (.dT (bT kvs k v))
def DGet.k {H:Hp} {a:Addr} {kvs:List (Key×V)} {k:Key} (e:H a=some (.dK kvs)):DGet H a (kV k) (fw kvs k):=.inl ⟨kvs,k,.inl e,rfl,rfl⟩
def DGet.t {H:Hp} {a b:Addr} {kvs:List (List Key×V)} {k:List Key} (e:H a=some (.dT kvs)) (eb:H b=some (.tup (k.map kV))):DGet H a (.ref b) (fw kvs k):=.inr ⟨kvs,k,b,.inl e,rfl,eb,rfl⟩
def DPut.k {H:Hp} {a:Addr} {kvs:List (Key×V)} {k:Key} {v:V} (e:H a=some (.dK kvs)) (hl:kvs.length<sizeLine):DPut H a (kV k) v (upd H a (.dK (bT kvs k v))):=.inl ⟨kvs,k,e,rfl,hl,rfl⟩
def DPut.t {H:Hp} {a b:Addr} {kvs:List (List Key×V)} {k:List Key} {v:V} (e:H a=some (.dT kvs)) (eb:H b=some (.tup (k.map kV))) (hl:kvs.length<sizeLine) :
  DPut H a (.ref b) v (upd H a (.dT (bT kvs k v))):=.inr ⟨kvs,k,b,e,rfl,eb,hl,rfl⟩
section
variable {X:Cx} {pins:List (Addr×Obj)} {σ:St} {H:Hp} {s:Shared} {a:Addr} {y v:V} {u r:Value} {o:Option V} {A:Around} {E:Value->Shared->Prop}
def Inv.big (I:Inv X pins σ H s):sysModules<s.heap.objs.size:=by
 have h:mainGlobals<s.heap.objs.size:=(I.mod.glob.keeps I.bk).lt
 exact Nat.lt_trans (by decide) h
def qS {Q:Value->Shared->Prop} (hu:A.units+1<cLine) (I:Inv X pins σ H s) (g:DGet H a y (some v)) (ry:RelV y u) (h:∀ w' s',Inv X pins σ H s'->RelV v w'->Q w' s') :
  wpAny (model X.prog X.w) A (getItem (.ref a) u) Q E s:=by
 rcases g with ⟨kvs,k,e,ey,l⟩ | ⟨kvs,k,b,e,ey,eb,l⟩
 · subst ey
   obtain ⟨z,hd,vs,rel,dd⟩:=pL I.hok e
   obtain ⟨w',hw,rw'⟩:=RelO.some_of (v:=v) (o:=valueAt vs k) (by rw [l];exact rel.val k)
   exact wpAny_getItem_of (mU ry) dd.mapOf hw (h w' _ (I.tok _) rw')
 · subst ey
   cases (show u=Value.ref b from ry)
   obtain ⟨z,hd,xs,rel,dd⟩:=sy I.hok e
   obtain ⟨w',hw,rw'⟩:=RelO.some_of (v:=v) (o:=(atKey xs k).map (·.2)) (by rw [l];exact rel.val k)
   obtain ⟨p,hp,hp2⟩:=mS hw
   refine wpAny_getItem_heap (tupleKind_room_in1 hu) (oA I.hok eb) dd hp ?_
   rw [hp2]
   exact h w' _ (I.tok _) rw'
def lO {h':Heap} {t':Nat} {ob:HO} (I:Inv X pins σ H s) (mu:Mut (H a)) (hs:Heap.SameBut a s.heap h') (he:∃ q,h'.get? a=some q) (new:ObjOk X.prog X.w (upd H a ob) h' a ob) :
  Inv X pins σ (upd H a ob) {s with heap:=h',toks:=t'}:=
 I.write (x:=a) (e:=a) mu (.inl rfl) (fun b q hb z=>(hs.2 b hb).trans z) he new
def oB {P:Program} {w:World} {H':Hp} {h':Heap} {kvs:List (Key×V)} {vs:List (Key×Value)} (z:kvs.length<=sizeLine) (hd:(a==sysModules)=false) (rel:KV kvs vs) (dd:h'.DictOf (bf P w) a vs) :
  ObjOk P w H' h' a (.dK kvs):=⟨z,hd,vs,rel,dd⟩
def qT {H':Hp} {Q:Unit->Shared->Prop} (hu:A.units+1<cLine) (I:Inv X pins σ H s) (g:DPut H a y v H') (ry:RelV y u) (rv:RelV v r) (h:∀ s',Inv X pins σ H' s'->Q () s') :
  wpAny (model X.prog X.w) A (setItem (.ref a) u r) Q E s:=by
 rcases g with ⟨kvs,k,e,ey,l,eH⟩ | ⟨kvs,k,b,e,ey,eb,l,eH⟩
 · subst ey eH
   obtain ⟨z,hd,vs,rel,dd⟩:=wP I.hok e
   have hz:vs.length<=sizeLine:=by rw [<- rel.length];exact z
   have hl:(bT kvs k v).length<=sizeLine:=by have:=dZ kvs k v;omega
   refine wpAny_setItem_pairs (hsz:=hz) (mU ry) dd fun h' dd' hs=>h _ ?_
   have he:∃ q,h'.get? a=some q:=let ⟨q,_,_,hq,_⟩:=dd';⟨q,hq⟩
   exact lO I (by rw [e];exact True.intro) hs he (oB hl hd (rel.put k rv) dd')
 · subst ey eH
   cases (show u=Value.ref b from ry)
   obtain ⟨z,hd,xs,rel,dd⟩:=zf I.hok e
   have hz:xs.length<=sizeLine:=by rw [<- Paired.length rel];exact z
   have hl:(bT kvs k v).length<=sizeLine:=by have:=dZ kvs k v;omega
   refine wpAny_setItem_heap (hsz:=hz) (tupleKind_room_in1 hu) (oA I.hok eb) dd fun h' dd' hs=>h _ ?_
   obtain ⟨q,es,ep,hq,h2,h3,h4,_,h5⟩:=dd'
   refine lO I (by rw [e];exact True.intro) hs ⟨q,hq⟩ ⟨hl,hd,_,(rel.put k eb rv).keeps fun c ys ec=>?_,q,es,ep,hq,h2,h3,h4,h5⟩
   rw [aG (yQ ec e (fun z=>nomatch z))]
   exact ec
end
section
variable {X:Cx} {pins:List (Addr×Obj)} {σ:St} {H:Hp} {s:Shared} {a:Addr} {kvs:List (Key×V)} {k:Key} {u:Value} {A:Around} {E:Value->Shared->Prop}
end
def sA (i:Expr):Prop:=∀ ov iv,subscripted i false ov iv=operate [ov,iv] (getItem ov iv)
def vg {prog:Program} {w:World} {A:Around} {E:Value->Shared->Prop} {s:Shared} {env:Env} {value slice:Expr} {pos:Pos} {T id:String} {Q:Value->Shared->Prop}
  (hl:typeLookup (.type T) "__getitem__"=pure (some (.builtin id))) (hs:sA slice)
  (h:wpAny (model prog w) A (eval value env) (fun o s₁=>wpAny (model prog w) A (eval slice env) (fun i s₂=>s₂.TypeIs o T/\wpAny (model prog w) A (getItem o i) Q E s₂) E s₁) E s) :
  wpAny (model prog w) A (eval (.Subscript value slice pos) env) Q E s:=by
 refine Subscript_ (wpAny_mono h (fun o s₁ h₁=>wpAny_mono h₁ (fun i s₂ h₂=>?_) fun _ _ x=>x) fun _ _ x=>x)
 obtain ⟨hT,h₂⟩:=h₂
 unfold subscriptTail
 refine wB ?_
 rw [getitemInPython_of_ne hT.not_modules]
 refine wB (wpAny_specialOf hT hl ?_)
 have fin:wpAny (model prog w) A (subscripted slice false o i) (fun r s₃=>wpAny (model prog w) A (letTemporaryGo value o r >>= fun _=>pure r) Q E s₃) E s₂:=by
  rw [hs o i]
  exact wpAny_operating (wpAny_mono h₂ (fun r s₃ h₃=>wB (wpAny_letTemporaryGo (wpAny_pure h₃))) fun _ _ x=>x)
 first
  | exact wpAny_pure (wB fin)
  | exact wB (wpAny_pure (wB fin))
  | exact wB fin
def mV {X:Cx} {pins:List (Addr×Obj)} {σ:St} {H:Hp} {s:Shared} {a:Addr} {y:V} {o:Option V} (I:Inv X pins σ H s) (g:DGet H a y o):s.TypeIs (.ref a) "dict":=by
 rcases g with ⟨kvs,k,e,_,_⟩ | ⟨kvs,k,b,e,_,_,_⟩
 · obtain ⟨_,_,vs,_,dd⟩:=pL I.hok e
   exact dd.typeIs
 · obtain ⟨_,_,xs,_,dd⟩:=sy I.hok e
   exact dd.typeIs
def zg (td ty:TE):TE:=fun σ H Q=>td σ H fun x H1=>ty σ H1 fun y H2=>∃ a v,x=.ref a/\DGet H2 a y (some v)/\Q v H2
def zh (td ty tv:TE):TS:=fun D σ H=>tv σ H fun v H1=>td σ H1 fun x H2=>ty σ H2 fun y H3=>∃ a H4,x=.ref a/\DPut H3 a y v H4/\D.nx σ H4
section
variable {X:Cx} {o i e value:Expr} {pos pos' tpos:Pos} {td ty tv:TE}
def lP (hu:X.A.units+1<cLine) (ho:PE X o td) (hi:PE X i ty) (hs:sA i):PE X (.Subscript o i pos) (zg td ty):=by
 intro pins s σ H Q I h
 refine vg PySem.F.slot_dict_getitem.lookup hs (thn (ho pins s σ H _ I h) fun u s1 ⟨x,H1,I1,rx,q1⟩=>thn (hi pins s1 σ H1 _ I1 q1) fun iv s2 ⟨y,H2,I2,ry,a,v,ex,g,q2⟩=>?_)
 subst ex
 obtain rfl:u=Value.ref a:=rx
 exact ⟨mV I2 g,qS hu I2 g ry fun w' s3 I3 rw'=>⟨v,H2,I3,rw',q2⟩⟩
def lQ (hu:X.A.units+1<cLine) (ho:PE X o td) (hi:PE X i ty) (hv:PE X value tv) (hs:swapsWith value (some (.Subscript o i pos')) pos.line X.env=pure false) :
  PS X (.Assign [.Subscript o i pos'] value pos) (zh td ty tv):=by
 intro pins s σ H D I h
 refine wpAny_Assign_Subscript (thn (hv pins s σ H _ I h) fun r s1 ⟨v,H1,I1,rv,q1⟩=>thn (ho pins s1 σ H1 _ I1 q1) fun u s2 ⟨x,H2,I2,rx,q2⟩=>thn (hi pins s2 σ H2 _ I2 q2) fun iv s3 ⟨y,H3,I3,ry,a,H4,ex,g,q3⟩=>?_) hs
 subst ex
 obtain rfl:u=Value.ref a:=rx
 exact qT hu I3 g ry rv fun s4 I4=>⟨σ,H4,I4,q3⟩
end
def sB {P:Program} {w:World} {H:Hp} (h:Heap) (hb:sysModules<h.objs.size):ObjOk P w H (h.push {cls:=.type "dict",data:=.dict #[]}) h.objs.size (.dK []):=
 ⟨Nat.zero_le _,beq_eq_false_iff_ne.mpr (Ne.symm (Nat.ne_of_lt hb)),[],.nil,Heap.DictOf.new h⟩
def sC {P:Program} {w:World} {H:Hp} (h:Heap) (hb:sysModules<h.objs.size):ObjOk P w H (h.push {cls:=.type "dict",data:=.dict #[]}) h.objs.size (.dT []):=
 ⟨Nat.zero_le _,beq_eq_false_iff_ne.mpr (Ne.symm (Nat.ne_of_lt hb)),[],.nil,_,#[],0,Heap.get?_push_size _ rfl,⟨rfl,rfl,rfl⟩,rfl,rfl,List.nodup_nil⟩
def xS:TE:=fun _ H Q=>∀ p,H p=none->Q (.ref p) (upd H p (.dT []))
section
variable {X:Cx} {pos:Pos}
def sD:PE X (.Dict [] [] pos) xS:=fun pins s σ H Q I h =>
 wpAny_Dict_empty ⟨.ref s.heap.objs.size,_,I.laid (a:=s.heap.objs.size) (o:=.dT []) (t':=s.toks) (fun _ _ q=>gP _ q) (nL _) (sC s.heap I.big),rfl,h _ (I.hok.fresh (nL _))⟩
end
def lR:List (TE×TE)->St->Hp->(List (V×V)->Hp->Prop)->Prop
 | [],_,H,Q=>Q [] H
 | (tk,tv)::r,σ,H,Q=>tk σ H fun x H1=>tv σ H1 fun y H2=>lR r σ H2 fun ps H3=>Q ((x,y)::ps) H3
abbrev VV:List (V×V)->List (Value×Value)->Prop:=Paired fun p q=>RelV p.1 q.1/\RelV p.2 q.2
noncomputable def PPs (X:Cx) (pos:Pos) (keys:List (Option Expr)) (values:List Expr) (trs:List (TE×TE)):Prop:=
 ∀ (pins:List (Addr×Obj)) (s:Shared) (σ:St) (H:Hp) (Q:List (V×V)->Hp->Prop),Inv X pins σ H s->lR trs σ H Q→
  wpAny (model X.prog X.w) X.A (evalPairs (pairTrees keys values X.env pos)) (fun vs s'=>∃ ps H',Inv X pins σ H' s'/\VV ps vs/\Q ps H') X.xe s
def vh {X:Cx} {pos:Pos}:PPs X pos [] [] []:=fun pins s σ H Q I h=>pairTrees_nil_walk ⟨[],H,I,.nil,h⟩
def sE {X:Cx} {pos:Pos} {k v:Expr} {ks:List (Option Expr)} {vs:List Expr} {tk tv:TE} {trs:List (TE×TE)} (hk:PE X k tk) (hv:PE X v tv) (hr:PPs X pos ks vs trs) :
  PPs X pos (some k::ks) (v::vs) ((tk,tv)::trs):=fun pins s σ H Q I h =>
 pairTrees_cons_walk (thn (hk pins s σ H _ I h) fun u s1 ⟨x,H1,I1,rx,q1⟩=>thn (hv pins s1 σ H1 _ I1 q1) fun w2 s2 ⟨y,H2,I2,ry,q2⟩ =>
  thn (hr pins s2 σ H2 _ I2 q2) fun ws s3 ⟨ps,H3,I3,rel,q3⟩=>⟨(x,y)::ps,H3,I3,.cons ⟨rx,ry⟩ rel,q3⟩)
def fT (kvs more:List (Key×V)):List (Key×V):=more.foldl (fun acc kv=>bT acc kv.1 kv.2) kvs
def KV.merge:∀ {more:List (Key×V)} {rs:List (Key×Value)} {kvs:List (Key×V)} {vs:List (Key×Value)},KV more rs->KV kvs vs->KV (fT kvs more) (merged vs rs):=by
 intro more rs kvs vs r
 unfold KV at r
 induction r generalizing kvs vs with
 | nil=>intro q;exact q
 | @cons p q ps qs h t ih =>
  intro r0
  have e:KV (bT kvs p.1 p.2) (stored vs q.1 q.2):=by
   have:=r0.put p.1 h.2
   rw [<- h.1];exact this
  exact ih e
def gE:∀ (more kvs:List (Key×V)),(fT kvs more).length<=kvs.length+more.length
 | [],kvs=>by show kvs.length<=kvs.length+0;omega
 | p::r,kvs=>by
  have h1:=gE r (bT kvs p.1 p.2)
  have h2:=dZ kvs p.1 p.2
  show (fT (bT kvs p.1 p.2) r).length<=_
  rw [List.length_cons];omega
def ju {P:Program} {w:World}:∀ {kvs:List (Key×V)} {ws:List (Value×Value)},VV (kvs.map fun kv=>(kV kv.1,kv.2)) ws->∃ rs,Carries (bf P w) ws rs/\KV kvs rs
 | [],_,r=>by rw [List.map_nil] at r;cases r;exact ⟨[],True.intro,.nil⟩
 | p::kvs,_,r=>by
  rw [List.map_cons] at r
  cases r with
  | @cons a b as bs h t =>
   obtain ⟨rs,c,q⟩:=ju (P:=P) (w:=w) t
   obtain ⟨b1,b2⟩:=b
   exact ⟨(p.1,b2)::rs,⟨mU h.1,rfl,c⟩,.cons ⟨rfl,h.2⟩ q⟩
noncomputable def zi (trs:List (TE×TE)):TE:=fun σ H Q=>∀ p,H p=none->lR trs σ (upd H p (.dK [])) fun ps H2=>H2 p=some (.dK [])/\∃ kvs:List (Key×V),ps=kvs.map (fun kv=>(kV kv.1,kv.2))/\kvs.length<=15/\Q (.ref p) (upd H2 p (.dK (fT [] kvs)))
def vi {X:Cx} {pos:Pos} {keys:List (Option Expr)} {values:List Expr} {trs:List (TE×TE)} (h:PPs X pos keys values trs) (hall:keys.all (·.isSome)=true) (hl:keys.length=values.length) (h0:keys≠[])
  (h15:keys.length<=15):PE X (.Dict keys values pos) (zi trs):=by
 intro pins s σ H Q I q
 have hn:=I.hok.fresh (nL s.heap.objs.size)
 have I1:=I.laid (a:=s.heap.objs.size) (o:=.dK []) (h':=s.heap.push {cls:=.type "dict",data:=.dict #[]}) (t':=s.toks) (fun _ _ q=>gP _ q) (nL _) (sB s.heap I.big)
 refine wpAny_Dict_walk (knd:=bf X.prog X.w) hall hl h0 h15 (thn (h pins _ σ _ _ I1 (q _ hn)) fun ws s2 ⟨ps,H2,I2,rel,e,kvs,ep,lk,q2⟩=>?_)
 subst ep
 obtain ⟨rs,c,rk⟩:=ju (P:=X.prog) (w:=X.w) rel
 obtain ⟨z,hd,vs0,r0,dd⟩:=wP I2.hok e
 cases r0
 refine ⟨rs,c,dd,fun h' dd' hs=>⟨.ref s.heap.objs.size,_,?_,rfl,q2⟩⟩
 have hz:(fT [] kvs).length<=sizeLine:=by
  have h1:=gE kvs []
  rw [List.length_nil] at h1
  rw [sizeLine_eq];omega
 have he:∃ q,h'.get? s.heap.objs.size=some q:=let ⟨q,_,_,hq,_⟩:=dd';⟨q,hq⟩
 exact lO I2 (by rw [e];exact True.intro) hs he (oB hz hd (rk.merge .nil) dd')
section
variable {X:Cx} {pins:List (Addr×Obj)} {σ:St} {H:Hp} {s:Shared} {a:Addr} {y d:V} {u r:Value} {o:Option V} {A:Around} {E:Value->Shared->Prop}
end
section
variable {X:Cx} {o e f:Expr} {apos cpos:Pos} {td ty tx:TE}
end
section
variable {X:Cx} {pins:List (Addr×Obj)} {σ:St} {H:Hp} {s:Shared} {a:Addr} {kvs:List (Key×V)} {A:Around} {E:Value->Shared->Prop}
end
section
variable {X:Cx} {pins:List (Addr×Obj)} {σ:St} {H:Hp} {s:Shared} {a:Addr} {y:V} {u:Value} {A:Around} {E:Value->Shared->Prop}
end
end L2
namespace Att
open PySem PySem.W PySem.Calls PyProof.Rows
def iU {P:Params} {h:Heap}:∀ (ns:List Int) (vs:List Value),WellAll P h vs (ns.map WData.int)->IntsAre vs ns:=by
 intro ns
 induction ns with
 | nil =>
  intro vs w
  rw [List.map_nil] at w
  cases w
  exact .nil
 | cons n ns ih =>
  intro vs w
  rw [List.map_cons] at w
  cases w with
  | cons a b =>
   cases a
   exact .cons _ _ (ih _ b)
def qU {l:OpenLaw} {n:Nat} (hn:l.most=some n) {P:Params} {h:Heap} {args:List WData} {vals:List Value}
  (hpre:l.row.toRowW.claim.pre args=true) (hwl:WellAll P h vals args) :
  ∃ a vs ns,vals=[Value.ref a]/\args=[WData.list (ns.map WData.int)]/\h.get? a=some {cls:=.type "list",data:=.seq vs.toArray}/\IntsAre vs ns/\ns.length<=n:=by
 have hsh:WShape.hasAll [] args [.list .int]=true:=(pre_splitW hpre).1
 have hc:l.pre.holds [] {args:=args}=true:=(pre_splitW hpre).2
 obtain ⟨d,r,rfl,h1,h2⟩:=hasAllW_cons hsh
 obtain rfl:=hasAllW_nil h2
 obtain ⟨xs,rfl,h3⟩:=hasW_list h1
 obtain ⟨ns,rfl⟩:=items_int h3
 have hlen:ns.length<=n:=by
  unfold OpenLaw.pre at hc
  have h4:(WTm.not (.lt (.lit (.int (n:Int))) (.len (.arg 0)))).holds [] {args:=[.list (ns.map .int)]}=true:=by
   have h4:=(holds_andW hc).1
   rw [hn] at h4
   exact h4
  have h5:=condW_of h4 (w_not (w_lt w_lit (w_len_list (w_arg rfl))))
  rw [List.length_map] at h5
  refine Nat.le_of_not_lt fun q=>?_
  have q':(n:Int)<((ns.length:Nat):Int):=by omega
  first
   | (rw [decide_eq_true q'] at h5;exact absurd h5 (by decide))
   | (simp at h5;omega)
 cases hwl with
 | cons w1 w2 =>
  cases w2
  cases w1 with
  | list ho hall=>exact ⟨_,_,ns,rfl,rfl,ho,iU ns _ hall,hlen⟩
def qV (l:OpenLaw) (args:List WData):l.row.toRowW.claim.post args (.bool true) args=true:=
 postW_of (r:=l.row.toRowW) (X:=(true==true))
  (show WShape.has [] (.bool true) .bool=true by first | rfl | decide | simp [WShape.has,WShape.arms,WShape.armsAll])
  (show (WTm.eq .res (.lit (.bool true))).value [] {args:=args,res:=some (.bool true),after:=args}=some (.bool (true==true)) from w_eq_bool (w_res rfl) w_lit) rfl
def wQ {l:OpenLaw} {n:Nat} {q:Program} {loose:List Str} {XP:(Str->Option Value)->Heap->Prop} {YP:World->Heap->Prop} {d:DefRec}
  (hn:l.most=some n) (hdf:d.params.defaults=[])
  (call:∀ (w:World) (s₀ s₁:Shared) (mg mb:Str->Option Value) (fa:Addr) (o:Obj) (pm cd doc:Value) (a:Addr) (vs:List Value) (ns:List Int),
   Ground q loose [] XP w s₀ mg mb s₁.heap->YP w s₁.heap→
   s₁.heap.get? fa=some o->o.data=.func (docDef d.name d.params d.body d.scope pm cd doc)->s₁.heap.CodeRec cd d.name->mg d.name=some (.ref fa)→
   s₁.heap.get? a=some {cls:=.type "list",data:=.seq vs.toArray}->IntsAre vs ns->ns.length<=n->s₁.gens=#[]→
   codeAny (model l.prog w) callerA (.call (.ref fa) ⟨[.ref a],[]⟩) (fun r s'=>r=.ok (.ret (.bool true))/\OldK s₁.heap s'.heap/\s'.os=s₁.os/\AllBare s'.gens) s₁) :
  WalkO q loose XP YP l.row.toRowW d [] (fun f vs=>PySem.call f vs):=by
 intro w s₀ s₁ mg mb G Y fa o pm cd doc dV kV ho hd hcd hD hmg hg args vals as hpre hlay hrd hwl hlo
 obtain rfl:dV=.none:=Dflts.none hD hdf
 obtain rfl:kV=.none:=Dflts.noKw hD
 obtain ⟨a,vs,ns,rfl,rfl,hobj,hints,hlen⟩:=qU hn hpre hwl
 refine enter_call (codeAny_mono (call w s₀ s₁ mg mb fa o pm cd doc a vs ns G Y ho (fd_plain hd) hcd hmg hobj hints hlen hg) fun r s' hq=>?_)
 obtain ⟨rfl,h2,h3,h4⟩:=hq
 exact ⟨.inl ⟨.bool true,.bool true,[],rfl,fun _=>rfl,.bool true,qV l _,fun _=>⟨List.Pairwise.nil,fun _ hm=>(nomatch hm)⟩⟩,h2,h3,h4⟩
section
variable {prog:Program} {w:World} {A:Around} {E:Value->Shared->Prop} {s:Shared} {K:Frag}
end
end Att
namespace L2
open PySem PySem.Spec PyProof.Rows
def ku:∀ {vs:List Value} {ns:List Int},IntsAre vs ns->Vals (ns.map V.int) vs
 | _,_,.nil=>.nil
 | _,_,.cons n t h=>.cons ⟨t,rfl⟩ (ku h)
def vj (H:Hp):Prop:=∀ b,H b=none∨∃ o xs,H b=some (.frz o (.lst xs))
def sF {P:Program} {w:World} {K:PySem.W.Frag} {mg mb:Str->Option Value} {CX:CXT} {k:Nat} {fa a:Addr} {fd:FuncData} {x:Str} {sp:Sp} {s₁:Shared} {vs:List Value} {ns:List Int}
  (KX:K.In s₁.heap) (hns:s₁.heap.Ns mainGlobals mg) (hb:s₁.heap.Ns builtinsNs mb) (hbb:∀ x:Str,x≠"__name__"->mb x=bootBuiltins x) (hlim:s₁.heap.NoLimit) (hg:s₁.gens=#[])
  (ha:s₁.heap.get? a=some {cls:=.type "list",data:=.seq vs.toArray}) (hi:IntsAre vs ns) (hl:ns.length<=sizeLine) (hr:Room k callerA)
  (F:∀ base:Heap,K.In base->base.Ns mainGlobals mg->FnOk P w K mg base CX k fa fd [x] sp) (hbind:∀ (s:Shared) (u:Value),BindsTo s fd ⟨[u],[]⟩ [(x,u)])
  (hsp:∀ H:Hp,vj H->SqL K H a (ns.map V.int)->sp [.ref a] H (fun v _=>v=.bl true) fun _ _ _=>False)
  (hCX:∀ H e s',CX [] H s₁ (fun _ _ _=>False) e s'->False) :
  codeAny (model P w) callerA (.call (.ref fa) ⟨[.ref a],[]⟩) (fun r s'=>r=.ok (.ret (.bool true))/\OldK s₁.heap s'.heap/\s'.os=s₁.os/\AllBare s'.gens) s₁:=by
 have rv:=ku hi
 have lenV:=hi.length
 -- from an abstract heap in which nothing but the script may be tracked
 have core:∀ H:Hp,vj H->SqL K H a (ns.map V.int)->HOk P w H s₁.heap->(∀ b,H b≠none->b=a)->(H a≠none->K.lookup a=none)→
     codeAny (model P w) callerA (.call (.ref fa) ⟨[.ref a],[]⟩) (fun r s'=>r=.ok (.ret (.bool true))/\OldK s₁.heap s'.heap/\s'.os=s₁.os/\AllBare s'.gens) s₁:=by
  intro H hO hS hok hA hK
  have base_of:∀ {b:Addr} {o:Obj},s₁.heap.get? b=some o->H b=none->(lE s₁.heap H).get? b=some o:=fun e n=>rQ e n
  have noA:∀ {b:Addr} {o:Obj} {es:Array DictEntry} {ep:Nat},s₁.heap.get? b=some o->o.data=.dict es ep->H b=none:=fun {b o es ep} e d=>by
   cases q:H b with
   | none=>rfl
   | some u =>
    have e':b=a:=hA b (by rw [q];simp)
    subst e'
    rw [ha] at e;cases e
    have d':Data.seq vs.toArray _=Data.dict es ep:=d
    cases d'
  have nsK:∀ {b:Addr} {m:Str->Option Value},s₁.heap.Ns b m->(lE s₁.heap H).Ns b m:=fun {b m} ⟨o,es,ep,e,d,r⟩=>⟨o,es,ep,base_of e (noA e d),d,r⟩
  have hKb:K.In (lE s₁.heap H):=fun b o e=>base_of (KX b o e) (by
   cases q:H b with
   | none=>rfl
   | some u =>
    have e':b=a:=hA b (by rw [q];simp)
    subst e'
    rw [hK (by rw [q];simp)] at e;cases e)
  have hM:Mod K mg (lE s₁.heap H):=⟨hKb,nsK hns,⟨mb,nsK hb,hbb⟩,let ⟨mc,h1,h2⟩:=hlim;⟨mc,nsK h1,h2⟩⟩
  have e0:Env0 P w K mg (lE s₁.heap H) callerA [] s₁ H:=⟨rfl,hM,fun b o e=>uW e,Nat.le_of_eq (qK _ _),trivial,fun b hb=>absurd (show b∈([]:List Addr) from hb) (by simp),hok,.of_eq hg⟩
  refine codeAny_mono ((F _ hKb (nsK hns)).run callerA [] s₁ H ⟨[.ref a],[]⟩ [.ref a] [.ref a] _ _ hr e0 (hbind s₁ (.ref a)) (.cons rfl .nil) (hsp H hO hS)) fun r s' h=>?_
  cases r with
  | error e=>exact (hCX H e s' h).elim
  | ok fl =>
   cases fl with
   | next=>exact False.elim h
   | brk=>exact False.elim h
   | cont=>exact False.elim h
   | ret u =>
    obtain ⟨v,H',os,bare,un,hok',r',q⟩:=h
    have q':v=.bl true:=q
    subst q'
    obtain rfl:u=Value.bool true:=r'
    refine ⟨rfl,OldK.of_keep fun b o e=>?_,os,bare⟩
    cases q:H b with
    | none=>exact un.keep b o e q (by intro z;exact absurd (show b∈([]:List Addr) from z) (by simp)) (by simp)
    | some u =>
     rcases hO b with z | ⟨ob,xs,z⟩
     · rw [q] at z;cases z
     · have z2:=un.frzs b ob _ z
       obtain ⟨e1,_⟩:=hok b _ z
       obtain ⟨e2,_⟩:=hok' b _ z2
       rw [e] at e1;cases e1
       exact e2
 cases hk:K.lookup a with
 | some o =>
  -- the script is one of the module's own objects
  have e:=KX a o hk
  rw [ha] at e
  cases e
  refine core (fun _=>none) (fun _=>.inl rfl) (.inr ⟨_,vs.toArray,_,hk,rfl,rfl,rfl,by rw [List.size_toArray,lenV];exact hl,by simpa using rv⟩) (fun b u z=>by have z':(none:Option HO)=some u:=z;cases z') (fun b z=>absurd rfl z) fun z=>absurd rfl z
 | none =>
  refine core (fun b=>if b=a then some (.frz {cls:=.type "list",data:=.seq vs.toArray} (.lst (ns.map V.int))) else none) (fun b=>?_) (.inl (.inr ⟨{cls:=.type "list",data:=.seq vs.toArray},if_pos rfl⟩)) (fun b u z=>?_) (fun b z=>?_) fun _=>hk
  · by_cases hb:b=a
    · exact .inr ⟨_,_,if_pos hb⟩
    · exact .inl (if_neg hb)
  · by_cases hb:b=a
    · have z':=(if_pos hb).symm.trans z
      cases z'
      subst hb
      exact ⟨ha,by rw [List.length_map];exact hl,vs,_,rv,ha⟩
    · have z':=(if_neg hb).symm.trans z
      cases z'
  · by_cases hb:b=a
    · exact hb
    · exact absurd (if_neg hb) z
def zE {l:PySem.W.OpenLaw} {n k:Nat} {q:Program} {loose:List Str} {XP:(Str->Option Value)->Heap->Prop} {YP:World->Heap->Prop} {d:DefRec} {K:Params->PySem.W.Frag} {CX:World->CXT} {sp:World->Sp} {x:Str}
  (hn:l.most=some n) (hn2:n<=sizeLine) (hdf:d.params.defaults=[]) (hr:Room k callerA)
  (hY:∀ (w:World) (h:Heap),YP w h->(K w.params).In h)
  (F:∀ (w:World) (mg:Str->Option Value) (fa:Addr) (h:Heap),(K w.params).In h->h.Ns mainGlobals mg->mg d.name=some (.ref fa)→
   ∃ fd:FuncData,(∀ (s:Shared) (u:Value),BindsTo s fd ⟨[u],[]⟩ [(x,u)])∧
    ∀ base:Heap,(K w.params).In base->base.Ns mainGlobals mg->FnOk l.prog w (K w.params) mg base (CX w) k fa fd [x] (sp w))
  (hsp:∀ (w:World) (H:Hp) (a:Addr) (ns:List Int),ns.length<=n->vj H->SqL (K w.params) H a (ns.map V.int)->sp w [.ref a] H (fun v _=>v=.bl true) fun _ _ _=>False)
  (hCX:∀ (w:World) (H:Hp) (s:Shared) (e:Value) (s':Shared),CX w [] H s (fun _ _ _=>False) e s'->False) :
  PySem.W.WalkO q loose XP YP l.row.toRowW d [] (fun f vs=>PySem.call f vs):=by
 refine Att.wQ hn hdf fun w s₀ s₁ mg mb fa o pm cd doc a vs ns G Y ho hd hcd hmg hobj hints hlen hg=>?_
 have KX:=hY w _ Y
 obtain ⟨fd,hb,hF⟩:=F w mg fa _ KX G.T.g hmg
 exact sF KX G.T.g G.T.b G.T.builtins G.T.nolimit hg hobj hints (Nat.le_trans hlen hn2) hr hF hb (fun H hO hS=>hsp w H a ns hlen hO hS) fun H e s'=>hCX w H s₁ e s'
end L2
/- THE LAST THEOREM (shape;LID,My.* are yours):
   My.Adr: a structure of the addresses that your layer names (classes,functions);My.Txt K t: a structure (Prop) of the equations over K;
   My.txt_mk:{K} {implicit addresses ..} (e1:nsIn K mainGlobals "law"=some (some (.ref f))) (e2:K.lookup f=some ⟨oc,od,.func (fnOf "law" "law" params body scope dV kV doc pm an cdv ct),sl⟩) (e3:codeIn K cdv "law"=true) ..:∃ t,My.Txt K t
(the tactic k_is has no namespace: write k_is) -/
namespace L2
open PySem PySem.Spec PyProof.Rows
def aZ (s:Stmt):Arguments:=match s with
 | .FunctionDef _ a _ _ _ _ _ _ _ _=>a
 | _=>{posonlyargs:=[],args:=[],vararg:=none,kwonlyargs:=[],kw_defaults:=[],kwarg:=none,defaults:=[]}
def aO (s:Stmt):List Stmt:=match s with
 | .FunctionDef _ _ b _ _ _ _ _ _ _=>b
 | _=>[]
def ac (s:Stmt):Scope:=match s with
 | .FunctionDef _ _ _ _ _ _ sc _ _ _=>sc
 | _=>{kind:=.function,names:=[],isGenerator:=false,isCoroutine:=false}
abbrev CX0:CXT:=fun _ _ _ _ _ _=>False
abbrev E0:XK:=fun _ _ _=>False
def pM {X:Cx}:gJ CX0 X E0:=fun _ _ _ _ _ _ _ h=>h.elim
structure Fun (K:PySem.W.Frag) (x qual:Str) (st:Stmt) (f:Addr) (fd:FuncData):Prop where
 ex:∃ (oc:Value) (od:Option Addr) (kV doc pm:Value) (an:Option Addr) (cdv ct:Value) (osl:Array (Option Value)),
  fd=PySem.W.fnOf x qual (aZ st) (aO st) (ac st) .none kV doc pm an cdv ct/\K.lookup f=some ⟨oc,od,.func fd,osl⟩/\PySem.W.codeIn K cdv qual=true
 kp:PySem.W.keepIn K (.ref f)=true
section
variable {P:Program} {w:World} {K:PySem.W.Frag} {mg:Str->Option Value} {base:Heap}
def Fun.ok {x qual:Str} {st:Stmt} {f:Addr} {fd:FuncData} {N ps:List Str} {k:Nat} {sp:Sp} (F:Fun K x qual st f fd) (S:FnScope N ps (ac st)) (len:∀ vs H Q E,sp vs H Q E->vs.length=ps.length)
  (hbody:∀ (cdv:Value) (A:Around) (outer:List Env) (s:Shared) (H:Hp) (vs:List V) (Q:VK) (E:XK),Room k (A.deeper (envOfC qual (ac st) s.heap.objs.size f cdv))->sp vs H Q E→
   ∃ t,PSs (iT CX0 P w K mg base N qual (ac st) f cdv A outer s H E).nox (aO st) t/\t {nx:=fun _ H'=>Q .non H',rt:=Q} (du N vs) H):FnOk P w K mg base CX0 (k+1) f fd ps sp:=by
 obtain ⟨oc,od,kV,doc,pm,an,cdv,ct,osl,rfl,lk,hcd⟩:=F.ex
 refine zc lk hcd S len fun A outer s H vs Q E hr hsp=>?_
 obtain ⟨t,h,q⟩:=hbody cdv A outer s H vs Q E hr hsp
 exact ⟨t,h.nox,q⟩
def Fun.binds {x qual:Str} {st:Stmt} {f:Addr} {fd:FuncData} {ps:List Str} (F:Fun K x qual st f fd)
  (h:∀ (kV doc pm:Value) (an:Option Addr) (cdv ct:Value) (us:List Value),us.length=ps.length->bindArgs (PySem.W.fnOf x qual (aZ st) (aO st) (ac st) .none kV doc pm an cdv ct) ⟨us,[]⟩=pure (ps.zip us)):Binds K fd ps []:=by
 obtain ⟨oc,od,kV,doc,pm,an,cdv,ct,osl,rfl,lk,hcd⟩:=F.ex
 exact .all (h kV doc pm an cdv ct)
def ca {x qual:Str} {st:Stmt} {f:Addr} {oc:Value} {od an:Option Addr} {osl:Array (Option Value)} {kV doc pm cdv ct:Value} (l:K.lookup f=some ⟨oc,od,.func (PySem.W.fnOf x qual (aZ st) (aO st) (ac st) .none kV doc pm an cdv ct),osl⟩)
  (c:PySem.W.codeIn K cdv qual=true) (k:PySem.W.keepIn K (.ref f)=true):Fun K x qual st f (PySem.W.fnOf x qual (aZ st) (aO st) (ac st) .none kV doc pm an cdv ct):=⟨⟨oc,od,kV,doc,pm,an,cdv,ct,osl,rfl,l,c⟩,k⟩
end
def kx {A:Around} {k:Nat} (hr:Room k A):A.units+1<cLine:=Nat.lt_of_le_of_lt (Nat.add_le_add_left (by decide:1<=64) _) hr.units
section
variable {X:Cx}
end
def Same (H H':Hp):Prop:=∀ b o,H b=some o->H' b=some o
def Same.refl (H:Hp):Same H H:=fun _ _ h=>h
def Same.trans {H H1 H2:Hp} (a:Same H H1) (b:Same H1 H2):Same H H2:=fun c o h=>b c o (a c o h)
def Same.free {H H':Hp} (e:Same H H') {l:Addr} (h:H' l=Option.none):H l=Option.none:=by
 cases q:H l with
 | none=>rfl
 | some o =>
  rw [e l o q] at h
  cases h
def Same.seq {K:PySem.W.Frag} {H H':Hp} {a:Addr} {xs:List V} (e:Same H H') (h:SqL K H a xs):SqL K H' a xs:=by
 rcases h with (h | ⟨o,h⟩) | h
 · exact .inl (.inl (e _ _ h))
 · exact .inl (.inr ⟨o,e _ _ h⟩)
 · exact .inr h
section
variable {κ:Type} [DecidableEq κ]
def vk {kvs:List (κ×V)} {k:κ} {v:V} (h:fw kvs k=some v):k∈kvs.map (·.1):=by
 have q:(kvs.any fun kv=>decide (kv.1=k))=true:=by
  rw [g9,h]
  all_goals rfl
 obtain ⟨p,hp,e⟩:=List.any_eq_true.mp q
 exact List.mem_map.mpr ⟨p,hp,of_decide_eq_true e⟩
end
set_option maxRecDepth 100000
set_option maxHeartbeats 4000000
def mW (names:List (Str×NameKind)) (cells:List (Str×Addr)):List (Str×Addr):=
 names.foldl (fun cs nk=>if nk.2==NameKind.free then (nk.1,(cells.lookup nk.1).getD 0)::cs else cs) []
def pN {cells:List (Str×Addr)} {env:Env} (hc:env.cells=cells):∀ (names:List (Str×NameKind)) (acc:List (Str×Addr)),(∀ x∈names,x.2=.free->∃ c,cells.lookup x.1=some c)→
  (forIn names acc (fun (x:Str×NameKind) (r:List (Str×Addr))=>if (x.2==NameKind.free)=true then (do let c <- cellOf env x.1;pure (ForInStep.yield ((x.1,c)::r))) else (pure (ForInStep.yield r):Sem _)))
   = (pure (names.foldl (fun cs nk=>if nk.2==NameKind.free then (nk.1,(cells.lookup nk.1).getD 0)::cs else cs) acc):Sem (List (Str×Addr)))
 | [],acc,_=>rfl
 | x::r,acc,h=>by
  have ih:=fun acc=>pN hc r acc fun y hy=>h y (List.mem_cons_of_mem _ hy)
  simp only [List.forIn_cons,List.foldl_cons]
  cases e:(x.2==NameKind.free) with
  | false =>
   simp only [Bool.false_eq_true,if_false]
   exact ih acc
  | true =>
   obtain ⟨c,hcx⟩:=h x List.mem_cons_self (by simpa using e)
   have hcell:cellOf env x.1=pure c:=by unfold cellOf;rw [hc,hcx]
   simp only [if_true,hcell,hcx,Option.getD_some]
   exact ih _
def jv {scope:Scope} {env:Env} (h:∀ x∈scope.names,x.2=.free->∃ c,env.cells.lookup x.1=some c):closureFor scope env=pure (mW scope.names env.cells):=by
 have:=pN (env:=env) rfl scope.names [] h
 unfold closureFor mW
 rw [<- this]
 simp only [bind_pure]
def ky {cells:List (Str×Addr)}:∀ {names:List (Str×NameKind)} {acc:List (Str×Addr)} {x:Str} {c:Addr},(∀ y∈names,y.2=.free->∃ c,cells.lookup y.1=some c)→
  (names.foldl (fun cs nk=>if nk.2==NameKind.free then (nk.1,(cells.lookup nk.1).getD 0)::cs else cs) acc).lookup x=some c->(∀ c,acc.lookup x=some c->cells.lookup x=some c)->cells.lookup x=some c
 | [],acc,x,c,_,h,ha=>ha c h
 | y::r,acc,x,c,hy,h,ha=>by
  simp only [List.foldl_cons] at h
  refine ky (fun z hz=>hy z (List.mem_cons_of_mem _ hz)) h ?_
  intro c' h'
  split at h'
  · rename_i hf
    obtain ⟨c0,e0⟩:=hy y List.mem_cons_self (by simpa using hf)
    rw [List.lookup_cons] at h'
    split at h'
    · rename_i hx
      have hx':x=y.1:=by simpa using hx
      rw [e0] at h'
      subst hx'
      rw [e0]
      simpa using h'
    · exact ha c' h'
  · exact ha c' h'
def fU {names:List (Str×NameKind)} {cells:List (Str×Addr)} {x:Str} {c:Addr} (hy:∀ y∈names,y.2=.free->∃ c,cells.lookup y.1=some c) (h:(mW names cells).lookup x=some c):cells.lookup x=some c:=
 ky hy h fun c h=>by simp at h
def kz {cells:List (Str×Addr)}:∀ {names:List (Str×NameKind)} {acc:List (Str×Addr)} {x:Str},((x,NameKind.free)∈names∨(acc.lookup x).isSome)→
  ((names.foldl (fun cs nk=>if nk.2==NameKind.free then (nk.1,(cells.lookup nk.1).getD 0)::cs else cs) acc).lookup x).isSome
 | [],acc,x,h=>by simpa using h
 | y::r,acc,x,h=>by
  simp only [List.foldl_cons]
  refine kz ?_
  rcases h with h | h
  · rcases List.mem_cons.mp h with e | h
    · subst e
      right
      simp [List.lookup_cons]
    · exact .inl h
  · right
    split
    · rw [List.lookup_cons]
      split
      · rfl
      · exact h
    · exact h
def mX {names:List (Str×NameKind)} {cells:List (Str×Addr)} {x:Str} (h:(x,NameKind.free)∈names):∃ c,(mW names cells).lookup x=some c:=
 Option.isSome_iff_exists.mp (kz (.inl h))
structure CmpScope (N:List Str) (outer scope:Scope) (M:List Str) (src:List (Option Nat)):Prop where
 kind:scope.kind=.function
 nocell:∀ y∈scope.names,y.2≠.cell
 free:∀ y∈scope.names,y.2=.free->outer.names.lookup y.1=some .cell∨outer.names.lookup y.1=some .free
 names:∀ y∈scope.names,y.2=.local->scope.names.lookup y.1=some .local
 lf:∀ y∈scope.names,y.2=.free->scope.names.lookup y.1=some .free
 len:M.length=src.length
 nd:M.Nodup
 src:∀ p∈M.zip src,∀ j∈p.2,N[j]?=some p.1/\(p.1,NameKind.free)∈scope.names
def stC (src:List (Option Nat)) (σ:St):St:=src.map fun o=>o.bind fun j=>(σ[j]?).join
noncomputable def cxC (X:Cx) (M:List Str) (scope:Scope) (C:Addr) (s:Shared) (H:Hp) (ex:List Addr):Cx:=
 {X with N:=M,s₀:=s,H₀:=H,env:=compEnvC scope (mW scope.names X.env.cells) C X.env,outer:=X.stack,ex:=ex,fn:=fun _=>false,pn:=[],xe:=fun _ _=>False}
noncomputable def PTs (X:Cx) (ifs:List Expr) (t:TT):Prop:=
 ∀ (pins:List (Addr×Obj)) (s:Shared) (σ:St) (H:Hp) (Q:Bool->Hp->Prop),Inv X pins σ H s->t σ H Q→
  wpAny (model X.prog X.w) X.A (forIn ifs true fun c r=>if r=true then do let ok <- isTrue c X.env (eval c X.env);pure (ForInStep.yield ok) else pure (ForInStep.yield r)) (TP X pins σ Q) X.xe s
def tYes:TT:=fun _ H Q=>Q true H
def vm {X:Cx}:PTs X [] tYes:=fun pins s σ H Q I h=>wpAny_tests_nil ⟨H,I,h⟩
def Wk (a b:St):Prop:=a.length=b.length/\∀ (i:Nat) v,a[i]?=some (some v)->b[i]?=some (some v)
noncomputable def kA (src:List (Option Nat)) (wi:TI) (g:TG) (tt:TT) (te:TE):TE:=fun σ H Q=>wi σ H fun J H1=>∀ D,H1 D=none->∃ W:Nat->Nat->Hp->Prop,(∃ m,W 0 m (upd H1 D (.lst [])))/\∀ i m H,W i m H→
 (J.stop i H/\Q (.ref D) H)∨(J.go i H/\∃ N:Hp->Prop,(∀ H',N H'->∃ m',m'<m/\W (i+1) m' H')/\∀ x H',J.yld i H x H'→
  g x (stC src σ) H' fun σ2 H2=>Wk (stC src σ) σ2/\tt σ2 H2 fun b H3=>if b=true then te σ2 H3 fun v H4=>∃ ys,H4 D=some (.lst ys)/\ys.length<sizeLine/\N (upd H4 D (.lst (ys++[v]))) else N H3)
def hG {prog:Program} {w:World} {A:Around} {R:Result->Shared->Prop} {s:Shared} {elt target iter:Expr} {ifs:List Expr} {scope:Scope} {pos:Pos} {it acc:Value} {env:Env} (I:Nat->Shared->Prop)
  (turn:∀ n s,I n s->wpAny (model prog w) A (pyNext it) (fun r s₁=>match r with
   | none=>R (.ok .next) s₁
   | some v=>wpAny (model prog w) A (letOwnedTupleGo target it v) (fun _ s₁'=>wpAny (model prog w) A (assign target env v) (fun _ s₂ =>
       wpAny (model prog w) A (forIn ifs true fun c r=>if r=true then do let ok <- isTrue c env (eval c env);pure (ForInStep.yield ok) else pure (ForInStep.yield r)) (fun ok s₃ =>
        if ok=true then wpAny (model prog w) A (eval elt env) (fun x s₄ =>
         wpAny (model prog w) A (call (.builtin "list.append") [acc,x]) (fun _ s₅=>∃ m,m<n/\I m s₅) (fun _ _=>False) s₄) (fun _ _=>False) s₃
        else ∃ m,m<n/\I m s₃) (fun _ _=>False) s₂) (fun _ _=>False) s₁') (fun _ _=>False) s₁) (fun _ _=>False) s)
  (n:Nat) (h:I n s) :
  codeAny (model prog w) A (.compLoop (.ListComp elt [⟨target,iter,ifs,0⟩] scope pos) 0 it acc env) R s:=by
 refine codeAny_loop rfl I (fun n s hI=>?_) n h
 show wpAny _ A ((compTurn (.ListComp elt [⟨target,iter,ifs,0⟩] scope pos) 0 it acc env).onRaise (fun x=>do noteFrame x env;theTreesLotGoes x)) _ _ s
 refine wpAny_noted ?_
 rw [compTurn_list]
 refine wB (wpAny_standAt (wB (wpAny_mono (turn n s hI) (fun r s₁ h₁=>?_) fun _ _ h'=>h'.elim)))
 cases r with
 | none=>exact wpAny_pure h₁
 | some v =>
  refine wB (wpAny_mono h₁ (fun _ s₁' h₁'=>?_) fun _ _ h'=>h'.elim)
  refine wB (wpAny_mono h₁' (fun _ s₂ h₂=>wB (wpAny_mono h₂ (fun ok s₃ h₃=>?_) fun _ _ h'=>h'.elim)) fun _ _ h'=>h'.elim)
  cases ok with
  | false=>exact wpAny_pure ⟨rfl,h₃⟩
  | true =>
   exact wB (wB (wpAny_mono h₃ (fun x s₄ h₄=>wB (wpAny_mono h₄ (fun _ s₅ h₅=>wpAny_pure (wpAny_pure ⟨rfl,h₅⟩)) fun _ _ h'=>h'.elim)) fun _ _ h'=>h'.elim))
section
variable {X:Cx} {elt tg iter:Expr} {ifs:List Expr} {scope:Scope} {pos:Pos} {M:List Str} {src:List (Option Nat)} {wi:TI} {g:TG} {tt:TT} {te:TE}
def lS {env:Env} {scope:Scope} {x:Str} (hn:∀ y∈scope.names,y.2≠.cell) (h:(relabel scope env).names.lookup x=some .cell∨(relabel scope env).names.lookup x=some .free):(x,NameKind.free)∈scope.names:=by
 have key:∀ k,(relabel scope env).names.lookup x=some k->(k=.cell∨k=.free)->(x,NameKind.free)∈scope.names:=by
  intro k hk hkk
  have hm:=PySem.mem_of_lookup hk
  unfold relabel at hm
  obtain ⟨⟨n,k0⟩,hy,e⟩:=List.mem_map.mp hm
  dsimp only at e
  split at e
  · rename_i hc
    simp only [Bool.and_eq_true] at hc
    have:k0=.free:=by simpa using hc.1.1
    subst this
    cases e
    exact hy
  · cases e
    rcases hkk with z | z
    · subst z;exact absurd rfl (hn _ hy)
    · subst z;exact hy
 rcases h with h | h
 · exact key _ h (.inl rfl)
 · exact key _ h (.inr rfl)
def mY {pins:List (Addr×Obj)} {σ:St} {H:Hp} {s s1:Shared} {fp:List Addr} {m1:Str->Option Value} (S:CmpScope X.N X.env.scope scope M src) (I:Inv X pins σ H s) (hf:∀ b∈fp,iu X pins H b)
  (hfl:∀ b∈fp,b<s.heap.objs.size) (hn:s1.heap.Ns s.heap.objs.size m1) (hk:∀ b o,s.heap.get? b=some o->s1.heap.get? b=some o) (hos:s1.os=s.os) (hg:s1.gens=s.gens) :
  Inv (cxC X M scope s.heap.objs.size s H fp) [] (stC src σ) H s1:=by
 have hcells:∀ x∈scope.names,x.2=.free->∃ c,X.env.cells.lookup x.1=some c:=fun x hx hfr=>I.ok.has x.1 (S.free x hx hfr)
 have sub:∀ x c,(mW scope.names X.env.cells).lookup x=some c->X.env.cells.lookup x=some c:=fun x c h=>fU hcells h
 have cellK:∀ c v,s.heap.IsCell c v->s1.heap.IsCell c v:=fun c v ⟨o,ho,hd⟩=>⟨o,hk c o ho,hd⟩
 refine ⟨⟨I.ok.mod,S.kind,I.ok.glob,I.ok.blt,nL _,fun y z c h1 h2=>I.ok.inj y z c (sub _ _ h1) (sub _ _ h2),fun x hx=>mX (lS S.nocell hx),fun x c h=>(nomatch h),I.ok.hd,I.ok.frames,.inl rfl,
  fun b hb=>⟨Nat.ne_of_lt (hfl b hb),fun x c h=>(hf b hb).2.2.2.2.1 x c (sub _ _ h)⟩,I.bs,Nat.le_trans I.ok.bsz I.sz,fun b o e hb=>?_,fun b hb z=>?_,I.stack,I.stkFree⟩,
  hos,(by rw [hg];exact I.bare),Un.kept hk,⟨m1,hn,fun i x v h1 h2 h3=>?_⟩,fun x c h=>?_,I.hok.fresh (Nat.le_refl _),fun x c h=>I.freeC x c (sub _ _ h),fun p hp=>absurd hp (by simp [cxC]),I.hok.kept hk,?_⟩
 · rcases (hf b hb).2.2.2.1 with z | z
   · exact I.ok.noex b o e z
   · exact absurd (Nat.lt_of_lt_of_le (Heap.lt_size e) (Nat.le_trans I.ok.bsz z)) (Nat.lt_irrefl _)
 · rcases List.mem_cons.mp (I.stkSub b z) with q | q
   · exact (hf b hb).2.1 q
   · exact (hf b hb).2.2.1 q
 · -- a name taken over
   have h1:M[i]?=some x:=h1
   unfold stC at h2
   rw [List.getElem?_map] at h2
   cases hs:src[i]? with
   | none=>rw [hs] at h2;cases h2
   | some o =>
    rw [hs] at h2
    simp only [Option.map_some,Option.some.injEq] at h2
    cases o with
    | none=>cases h2
    | some j =>
     simp only [Option.bind_some] at h2
     have hmem:(x,some j)∈M.zip src:=by
      have:(M.zip src)[i]?=some (x,some j):=by rw [List.getElem?_zip_eq_some];exact ⟨h1,hs⟩
      exact List.mem_of_getElem? this
     obtain ⟨hN,hfr⟩:=S.src _ hmem j rfl
     have hσ:σ[j]?=some (some v):=by
      cases e:σ[j]? with
      | none=>rw [e] at h2;cases h2
      | some o=>rw [e] at h2;simp only [Option.join_some] at h2;rw [h2]
     have hkind:=S.free _ hfr rfl
     obtain ⟨m,hm,hl⟩:=I.loc
     obtain ⟨u,r,l⟩:=hl j x v hN hσ (.inr hkind)
     refine ⟨u,r,?_⟩
     have hloc:X.env.kindOf x≠some .local:=by
      show X.env.scope.names.lookup x≠_
      rcases hkind with q | q<;>rw [q]<;>decide
     rcases l with l | ⟨_,c,e,z⟩
     · exact absurd l.1 hloc
     · obtain ⟨c',e'⟩:=mX (cells:=X.env.cells) hfr
       have:=sub _ _ e'
       rw [e] at this
       cases this
       refine .inr ⟨?_,c,e',cellK _ _ z⟩
       rcases h3 with q | q
       · exact absurd q (by
          -- a name that is free in the block is not local there
          exact (by
           intro q
           have:scope.names.lookup x=some .local:=by
            have hb:∀ (names:List (Str×NameKind)),(names.map fun (n,k)=>if (k==NameKind.free&&X.env.scope.kind==.function&&X.env.kindOf n==some .cell) then (n,NameKind.cell) else (n,k)).lookup x=some .local->names.lookup x=some .local:=by
             intro names
             induction names with
             | nil=>intro h;simp at h
             | cons y r ih =>
              obtain ⟨n,k⟩:=y
              intro h
              simp only [List.map_cons] at h
              by_cases hx:x=n
              · subst hx
                split at h
                · simp [List.lookup_cons] at h
                · simpa [List.lookup_cons] using h
              · have hx':(x==n)=false:=by simpa using hx
                split at h
                · simp only [List.lookup_cons,hx'] at h ⊢;exact ih h
                · simp only [List.lookup_cons,hx'] at h ⊢;exact ih h
            exact hb _ q
           rw [S.lf _ hfr rfl] at this
           cases this))
       · exact q
 · obtain ⟨v,z⟩:=I.cell x c (sub _ _ h)
   exact ⟨v,cellK _ _ z⟩
 · show (stC src σ).length=M.length
   unfold stC
   rw [List.length_map,S.len]
def mZ (S:CmpScope X.N X.env.scope scope M src) (hc:X.calm=true) (hi:PI X tg iter wi) (hg:M.Nodup->∀ C s H ex,PG (cxC X M scope C s H ex) tg g) (ht:∀ C s H ex,PTs (cxC X M scope C s H ex) ifs tt)
  (he:∀ C s H ex,PE (cxC X M scope C s H ex) elt te) (hs:∀ x,foldedSetIterable iter X.env x=pure x:=by intro _;rfl) :
  PE X (.ListComp elt [⟨tg,iter,ifs,0⟩] scope pos) (kA src wi g tt te):=by
 intro pins s σ H Q I h
 rw [eval_ListComp]
 have hcells:∀ x∈scope.names,x.2=.free->∃ c,X.env.cells.lookup x.1=some c:=fun x hx hfr=>I.ok.has x.1 (S.free x hx hfr)
 refine wpAny_comprehension_free (use:=none) rfl hs (jv hcells) S.kind S.names (thn (hi pins s σ H _ I h) fun v s1 h1=>thn h1 fun itv s2 h2=>?_)
 obtain ⟨it,fp,tn,J,H2,rfl,I2,T,st2,f2,hq⟩:=h2
 refine wpAny_newObj_type ?_
 have I3:Inv X pins σ (upd H2 s2.heap.objs.size (.lst [])) {s2 with heap:=s2.heap.push {cls:=.type "list",dict:=none,data:=.seq ([]:List Value).toArray},toks:=s2.toks}:=I2.lnew (its:=[]) (ys:=[]) (t':=s2.toks) .nil (by simp)
 have hD:H2 s2.heap.objs.size=none:=I2.fresh
 obtain ⟨W,⟨m0,w0⟩,turn⟩:=hq _ hD
 generalize hDn:s2.heap.objs.size=D at*
 generalize hs3:({s2 with heap:=s2.heap.push {cls:=.type "list",dict:=none,data:=.seq ([]:List Value).toArray},toks:=s2.toks}:Shared)=s3 at*
 have f3:∀ b∈fp,iu X pins (upd H2 D (.lst [])) b:=fun b hb=>⟨by
  obtain ⟨o,e,_⟩:=T.obj _ _ st2 b hb
  rw [aG (by rw [<- hDn];exact Nat.ne_of_lt (Heap.lt_size e))]
  exact (f2 b hb).1,(f2 b hb).2⟩
 have k23:∀ b o,s2.heap.get? b=some o->s3.heap.get? b=some o:=fun b o e=>by rw [<- hs3];exact gP _ e
 have st3:tn 0 s3.heap:=T.keep _ _ _ st2 fun b _ o e=>k23 b o e
 have fl3:∀ b∈fp,b<s3.heap.objs.size:=fun b hb=>by
  obtain ⟨o,e,_⟩:=T.obj _ _ st3 b hb
  exact Heap.lt_size e
 refine wpAny_newFunctionEnv S.nocell (by intro y hy;simp at hy) (fun h₁ hns₁ hsb₁=>?_) S.kind
 have k34:∀ b o,s3.heap.get? b=some o->h₁.get? b=some o:=fun b o e=>hsb₁.extBut b o (Nat.ne_of_lt (Heap.lt_size e)) (gP _ e)
 generalize hs4:({s3 with heap:=h₁,toks:=s3.toks+([]:List (Str×Value)).length}:Shared)=s4
 have I4:Inv (cxC X M scope s3.heap.objs.size s3 (upd H2 D (.lst [])) fp) [] (stC src σ) (upd H2 D (.lst [])) s4:=by
  rw [<- hs4]
  exact mY S I3 f3 fl3 hns₁ k34 rfl rfl
 have st4:tn 0 s4.heap:=T.keep _ _ _ st3 fun b _ o e=>by rw [<- hs4];exact k34 b o e
 generalize hX':cxC X M scope s3.heap.objs.size s3 (upd H2 D (.lst [])) fp=X' at*
 have hg':PG X' tg g:=by rw [<- hX'];exact hg S.nd _ _ _ _
 have ht':PTs X' ifs tt:=by rw [<- hX'];exact ht _ _ _ _
 have he':PE X' elt te:=by rw [<- hX'];exact he _ _ _ _
 have eP:X'.prog=X.prog:=by rw [<- hX'];rfl
 have eW:X'.w=X.w:=by rw [<- hX'];rfl
 have eK:X'.K=X.K:=by rw [<- hX'];rfl
 have eA:X'.A=X.A:=by rw [<- hX'];rfl
 have ex':X'.xe=fun _ _=>False:=by rw [<- hX'];rfl
 have ec:X'.calm=true:=by rw [<- hX'];exact hc
 have eE:X'.env=compEnvC scope (mW scope.names X.env.cells) s3.heap.objs.size X.env:=by rw [<- hX'];rfl
 have stat:∀ {H':Hp},(∀ b∈fp,H' b=none)->∀ b∈fp,iu X' [] H' b:=fun hn b hb=>by
  rw [<- hX']
  refine ⟨hn b hb,Nat.ne_of_lt (fl3 b hb),fun z=>?_,.inl hb,fun x c h=>(f3 b hb).2.2.2.2.1 x c (fU hcells h),fun p hp=>absurd hp (by simp [cxC])⟩
  rcases List.mem_cons.mp (I3.stkSub b z) with q | q
  · exact (f3 b hb).2.1 q
  · exact (f3 b hb).2.2.1 q
 -- behind the block
 have fin:∀ (H':Hp) (s':Shared),Inv X' [] (stC src σ) H' s'->Q (.ref D) H'->compPost (model X.prog X.w) X.A X.xe none (EP X pins σ Q) (.ref D) s3.heap.objs.size (.ok .next) s':=by
  intro H' s' J' q
  rw [<- hX'] at J'
  obtain ⟨m,hn,_⟩:=id J'.loc
  refine ⟨m,hn,fun h' sb=>⟨.ref D,H',?_,rfl,q⟩⟩
  have hC:H' s3.heap.objs.size=none:=J'.free
  have un:Un (frs X.stack) fp (upd H2 D (.lst [])) H' s3.heap s'.heap:=J'.base
  have kC:∀ b o,b≠s3.heap.objs.size->s'.heap.get? b=some o->h'.get? b=some o:=fun b o hb e=>sb.extBut b o hb e
  have un':Un (frs X.stack) fp (upd H2 D (.lst [])) H' s3.heap h':=
   ⟨fun b o e n hb hx=>kC b o (Nat.ne_of_lt (Heap.lt_size e)) (un.keep b o e n hb hx),
    fun b o e n hb hx=>by
     obtain ⟨sl,e'⟩:=un.slot b o e n hb hx
     exact ⟨sl,kC b _ (Nat.ne_of_lt (Heap.lt_size e)) e'⟩,
    un.free,
    fun b o e hx=>by
     obtain ⟨o',e'⟩:=un.there b o e hx
     exact ⟨o',kC b _ (Nat.ne_of_lt (Heap.lt_size e)) e'⟩,un.tups,un.frzs,un.tbls⟩
  have hok':HOk X.prog X.w H' h':=fun b u e=>by
   have nb:b≠s3.heap.objs.size:=fun z=>by rw [z,hC] at e;cases e
   refine (J'.hok b u e).stay (fun c v hc' q=>kC c v ?_ q) (fun _ q=>q) fun _ _ q=>q
   rcases hc' with z | z
   · rw [z];exact nb
   · intro w;rw [w,hC] at z;cases z
  exact I3.call' (s':={s' with heap:=h'}) (show s'.os=s3.os from J'.os) un' hok' J'.bare fun b hb=>⟨(f3 b hb).2.2.2.1,(f3 b hb).2.1,(f3 b hb).2.2.2.2.1,(f3 b hb).2.2.2.2.2⟩
 have loop:∀ s4':Shared,s4'=s4->codeAny (model X.prog X.w) X.A (.compLoop (.ListComp elt [⟨tg,iter,ifs,0⟩] scope pos) 0 (.ref it) (.ref D) X'.env) (compPost (model X.prog X.w) X.A X.xe none (EP X pins σ Q) (.ref D) s3.heap.objs.size) s4':=by
  rintro _ rfl
  refine hG (fun n s'=>∃ i H',Inv X' [] (stC src σ) H' s'/\tn i s'.heap/\(∀ b∈fp,H' b=none)/\W i n H') ?_ m0 ⟨0,_,I4,st4,fun b hb=>(f3 b hb).1,w0⟩
  rintro n s5 ⟨i,H5,I5,st5,fr5,w5⟩
  rcases turn i n H5 w5 with ⟨stop,qn⟩ | ⟨go,N,hN,step⟩
  · have:=T.done X' eP eW eK ec i [] s5 (stC src σ) H5 (fun _ _=>False) I5 (stat fr5) st5 stop
    rw [eA] at this
    refine thn this fun r s6 ⟨hr,I6⟩=>?_
    subst hr
    exact fin H5 s6 I6 qn
  · have:=T.item X' eP eW eK ec i [] s5 (stC src σ) H5 (fun _ _=>False) I5 (stat fr5) st5 go
    rw [eA] at this
    refine thn this fun r s6 ⟨u,hr,h6⟩=>?_
    subst hr
    refine thn h6 fun _ s7 ⟨x,H7,I7,r7,y7,st7,fr7⟩=>?_
    have I7':=I7.pinned (stat fr7) (T.obj _ _ st7)
    have a1:=hg' _ s7 (stC src σ) H7 x u _ I7' r7 (step x H7 y7)
    rw [ex',eP,eW,eA] at a1
    refine thn a1 fun _ s8 ⟨σ8,H8,I8,wk8,q8⟩=>?_
    have a2:=ht' _ s8 σ8 H8 _ I8 q8
    rw [ex',eP,eW,eA] at a2
    refine thn a2 fun ok s9 ⟨H9,I9,q9⟩=>?_
    have again:∀ {H7':Hp} {s':Shared},Inv X' ([]++iw fp s7.heap) σ8 H7' s'->N H7'->∃ m,m<n/\∃ i H',Inv X' [] (stC src σ) H' s'/\tn i s'.heap/\(∀ b∈fp,H' b=none)/\W i m H':=fun {H7' s'} J7 n7=>by
     obtain ⟨m',hm,w7⟩:=hN H7' n7
     refine ⟨m',hm,i+1,H7',J7.unpinned.weak wk8.1 wk8.2,T.keep _ _ _ st7 fun b hb o e=>(J7.pin (b,o) (List.mem_append_right _ (List.mem_append_right _ (cY hb e)))).1,fun b hb=>?_,w7⟩
     obtain ⟨o,e,d⟩:=T.obj _ _ st7 b hb
     exact (J7.pin (b,o) (List.mem_append_right _ (List.mem_append_right _ (cY hb e)))).2.1
    cases ok with
    | false=>exact again I9 q9
    | true =>
     have a3:=he' _ s9 σ8 H9 _ I9 q9
     rw [ex',eP,eW,eA] at a3
     refine thn a3 fun v s10 ⟨y,H10,I10,r10,ys,hl,hz,q10⟩=>?_
     have a4:=gv (X:=X') _ s10 σ8 H10 (.ref D) [y] (.ref D) [v] (fun _ H'=>N H') I10 rfl (.cons r10 .nil) ⟨D,ys,y,rfl,rfl,hl,hz,q10⟩
     rw [ex',eP,eW,eA] at a4
     refine thn a4 fun _ s11 ⟨_,H11,I11,_,q11⟩=>?_
     exact again I11 q11
 have e4:∀ c:Env,c=X'.env->codeAny (model X.prog X.w) X.A (.compStart (.ListComp elt [⟨tg,iter,ifs,0⟩] scope pos) 0 (.ref it) (.ref D) c) (compPost (model X.prog X.w) X.A X.xe none (EP X pins σ Q) (.ref D) s3.heap.objs.size) s4:=by
  rintro _ rfl
  exact codeAny_compStart_list (loop _ rfl) (T.self _ _ _ _ _ st4 (loop _ rfl))
 exact e4 _ (by rw [eE];rfl)
end
def Its (x:Str):It:=⟨fun i _=>i<x.cps.size,fun i H v H'=>H'=H/\∃ c,x.cps[i]?=some c/\v=.str ⟨#[c]⟩,fun i _=>i=x.cps.size⟩
def qW {P:Program} {w:World} {K:PySem.W.Frag} {tg:Expr} (x:Str) (t:Tok) (it:Addr):Turn P w K tg (Its x) [it] it (fun i h=>h.IsStrIter it "str_ascii_iterator" x t i) where
 mem:=by simp
 obj:=fun i h st b hb=>by
  have e:b=it:=by simpa using hb
  subst e
  obtain ⟨o,e,c,d⟩:=st
  exact ⟨o,e,fun v z=>by rw [d] at z;cases z⟩
 keep:=fun i h h' st k=>let ⟨o,ho,r⟩:=st;⟨o,k it (by simp) o ho,r⟩
 item:=by
  intro X hP hw hK hc i pins s σ H E I hf st hg
  subst hP hw hK
  obtain ⟨f0,f1,f2,f3,f4,f5⟩:=hf it (by simp)
  have hg:i<x.cps.size:=hg
  refine wpAny_pyNext_ascii_item st (c:=x.cps[i]) (by simp [hg]) fun h' st' sb=>?_
  have I1:Inv X pins σ H {s with heap:=h',toks:=s.toks+1}:=I.turned (t':=s.toks+1) (fun b o hb e=>(sb.2 b hb).trans e) f0 f1 f3 f4 f5
  obtain ⟨o,e,c,d⟩:=id st'
  exact ⟨_,rfl,kj (s:={s with heap:=h',toks:=s.toks+1}) e c d (by decide) ⟨.str ⟨#[x.cps[i]]⟩,H,I1,⟨_,rfl⟩,⟨rfl,x.cps[i],by simp [hg],rfl⟩,st',fun b hb=>(hf b hb).1⟩⟩
 done:=by
  intro X hP hw hK hc i pins s σ H E I hf st hg
  subst hP hw hK
  have hg:i=x.cps.size:=hg
  obtain ⟨f0,f1,f2,f3,f4,f5⟩:=hf it (by simp)
  exact wpAny_pyNext_ascii_end (I.ok.hd hc) st (by simp [hg]) fun h' eb=>⟨rfl,I.turned (t':=s.toks) (fun b o hb e=>eb b o hb e) f0 f1 f3 f4 f5⟩
 self:=fun _ _ _ _ _ st h=>wpAny_pyIter_striter_ascii st h
def qX {P:Program} {w:World} {K:PySem.W.Frag} {tg:Expr} (x:Str) (t:Tok) (it:Addr):Turn P w K tg (Its x) [it] it (fun i h=>h.IsStrIter it "str_iterator" x t i) where
 mem:=by simp
 obj:=fun i h st b hb=>by
  have e:b=it:=by simpa using hb
  subst e
  obtain ⟨o,e,c,d⟩:=st
  exact ⟨o,e,fun v z=>by rw [d] at z;cases z⟩
 keep:=fun i h h' st k=>let ⟨o,ho,r⟩:=st;⟨o,k it (by simp) o ho,r⟩
 item:=by
  intro X hP hw hK hc i pins s σ H E I hf st hg
  subst hP hw hK
  obtain ⟨f0,f1,f2,f3,f4,f5⟩:=hf it (by simp)
  have hg:i<x.cps.size:=hg
  refine wpAny_pyNext_wide_item st (c:=x.cps[i]) (by simp [hg]) fun h' st' sb=>?_
  have I1:Inv X pins σ H {s with heap:=h',toks:=s.toks+1}:=I.turned (t':=s.toks+1) (fun b o hb e=>(sb.2 b hb).trans e) f0 f1 f3 f4 f5
  obtain ⟨o,e,c,d⟩:=id st'
  exact ⟨_,rfl,kj (s:={s with heap:=h',toks:=s.toks+1}) e c d (by decide) ⟨.str ⟨#[x.cps[i]]⟩,H,I1,⟨_,rfl⟩,⟨rfl,x.cps[i],by simp [hg],rfl⟩,st',fun b hb=>(hf b hb).1⟩⟩
 done:=by
  intro X hP hw hK hc i pins s σ H E I hf st hg
  subst hP hw hK
  have hg:i=x.cps.size:=hg
  obtain ⟨f0,f1,f2,f3,f4,f5⟩:=hf it (by simp)
  exact wpAny_pyNext_wide_end (I.ok.hd hc) st (by simp [hg]) fun h' eb=>⟨rfl,I.turned (t':=s.toks) (fun b o hb e=>eb b o hb e) f0 f1 f3 f4 f5⟩
 self:=fun _ _ _ _ _ st h=>wpAny_pyIter_striter_wide st h
section
variable {X:Cx} {tg:Expr}
def iStr (tl:TE):TI:=fun σ H R=>tl σ H fun v H1=>∃ x,v=.str x/\R (Its x) H1
def sG {l:Expr} {tl:TE} (hl:PE X l tl):PI X tg l (iStr tl):=by
 intro pins s σ H R I h
 refine thn (hl pins s σ H _ I h) fun v s1 ⟨y,H1,I1,r1,q1⟩=>?_
 obtain ⟨x,e,q⟩:=q1
 subst e
 obtain ⟨t,rfl⟩:=r1
 have fin:∀ b∈[s1.heap.objs.size],iu X pins H1 b:=fun b hb=>by
  have e:b=s1.heap.objs.size:=by simpa using hb
  subst e
  exact I1.fpOk (nL _) (I1.hok.fresh (nL _))
 cases ha:x.cps.all (· < 128)
 · refine wpAny_pyIter_wide ha ?_
   exact ⟨s1.heap.objs.size,[s1.heap.objs.size],_,_,H1,rfl,I1.kept (t':=s1.toks) fun b o e=>gP _ e,qX x t _,⟨_,Heap.get?_push_size _ rfl,rfl,rfl⟩,fin,q⟩
 · refine wpAny_pyIter_ascii ha ?_
   exact ⟨s1.heap.objs.size,[s1.heap.objs.size],_,_,H1,rfl,I1.kept (t':=s1.toks) fun b o e=>gP _ e,qW x t _,⟨_,Heap.get?_push_size _ rfl,rfl,rfl⟩,fin,q⟩
def jw:∀ {bs:List Bool} {us:List Value},Vals (bs.map V.bl) us->us=bs.map Value.bool
 | [],_,.nil=>rfl
 | b::r,_,.cons h t=>by
  have h:_=Value.bool b:=h
  rw [h,jw t]
  rfl
def qY {bs:List Bool}:(List.range bs.length).map (fun i=>bs.getD i false)=bs:=by
 apply List.ext_getElem
 · simp
 · intro i h1 h2
   simp at h1
   simp [h1]
def m3 (hc:X.calm=true):dL X (.builtin "all") (fun xs H Q=>∃ (a:Addr) (bs:List Bool),xs=[.ref a]/\SqL X.K H a (bs.map V.bl)/\Q (.bl (bs.all id)) H):=by
 intro pins s σ H xs us Q I r h
 obtain ⟨a,bs,rfl,hq,q⟩:=h
 obtain ⟨u,rfl,ru⟩:=jq r
 cases ru
 obtain ⟨its,rv,p,hz⟩:=I.list hq
 have eu:=jw rv
 subst eu
 have hne:a≠s.heap.objs.size:=by
  obtain ⟨o,n,e,_⟩:=p
  exact Nat.ne_of_lt (Heap.lt_size e)
 refine call_all_walk (wpAny_pyIter_list p.isList ⟨s.heap.objs.size,_,_,_,_,_,fun i=>bs.getD i false,rfl,Walks.list (A:=X.A.in1) (I.ok.hd hc) _ a hne (bs.map Value.bool).toArray,⟨⟨_,Heap.get?_push_size _ rfl,rfl,rfl⟩,?_⟩,?_,?_⟩)
 · obtain ⟨o,ho,hr⟩:=p.isList
   exact ⟨o,gP _ ho,hr⟩
 · intro i v s' Q' E' hP hQ
   rw [List.getElem?_toArray,List.getElem?_map] at hP
   cases e:bs[i]? with
   | none=>rw [e] at hP;cases hP
   | some b =>
    rw [e] at hP
    cases hP
    refine wpAny_truthy_bool ?_
    dsimp only at hQ
    rw [List.getD_eq_getElem?_getD,e] at hQ
    exact hQ
 · intro h' tk hk
   refine ⟨.bl _,H,I.kept (h':=h') (t':=tk) fun b o e=>hk b o (fun z=>?_) (gP _ e),rfl,?_⟩
   · have z:b=s.heap.objs.size:=by simpa using z
     subst z
     exact absurd (Heap.lt_size e) (Nat.lt_irrefl _)
   · have e:(List.range (bs.map Value.bool).toArray.size).all (fun i=>bs.getD i false)=bs.all id:=by
      conv=>rhs;rw [<- qY (bs:=bs)]
      rw [List.all_map]
      simp
     rw [e]
     exact q
def kE:∀ {ts:List Str} {us:List Value},Vals (ts.map V.str) us->∃ l,us=strValues l/\l.map (·.1)=ts
 | [],_,.nil=>⟨[],rfl,rfl⟩
 | x::r,_,.cons h t=>by
  obtain ⟨tk,rfl⟩:=h
  obtain ⟨l,e1,e2⟩:=kE t
  exact ⟨(x,tk)::l,by rw [e1];rfl,by rw [<- e2];rfl⟩
def vn:MtR X "str.join" (fun x vs H Q=>∃ (a:Str) (l:Addr) (ts:List Str),x=.str a/\vs=[.ref l]/\SqL X.K H l (ts.map V.str)/\JoinOk a ts=true/\Q (.str (Txt.join a ts)) H):=by
 intro pins s σ H x vs v us Q I rx rv h
 obtain ⟨a,l,ts,rfl,rfl,hq,hj,q⟩:=h
 obtain ⟨t,rfl⟩:=rx
 obtain ⟨u,rfl,ru⟩:=rv.one
 cases ru
 obtain ⟨its,r,p,hz⟩:=I.list hq
 obtain ⟨ls,rfl,e2⟩:=kE r
 exact SC.join p.isList e2 hj fun t' k=>⟨.str _,H,I.tok _,⟨_,rfl⟩,q⟩
def pO {v:Value} {o:Option Int} (h:IsPart v o):∃ p:Option (Int×Tok),v=partValue p/\o=p.map (·.1):=by
 cases o with
 | none=>exact ⟨none,by cases h<;>rfl,rfl⟩
 | some i =>
  cases h
  exact ⟨some (i,_),rfl,rfl⟩
def rSlS:V->Option Int->Option Int->Hp->VK->Prop:=fun x lo hi H Q=>∃ z,x=.str z/\z.length<=sizeLine/\Q (.str (Txt.slice z lo hi)) H
def xT:SlR X rSlS:=by
 intro pins s σ H x v vl vu lo hi sl Q I rx hs pl pu h
 obtain ⟨z,rfl,hz,q⟩:=h
 obtain ⟨t,rfl⟩:=rx
 obtain ⟨l,rfl,rfl⟩:=pO pl
 obtain ⟨u,rfl,rfl⟩:=pO pu
 refine ⟨"str",_,F.slot_str_getitem.lookup,typeIs_str _ _ _,?_⟩
 exact wpAny_getItem_str_slice (l:=l) (u:=u) (st:=none) hs rfl (post_val_or_str ⟨Nat.le_trans (Txt.slice_le z _ _) hz,fun t' k=>⟨.str _,H,I.tok _,⟨_,rfl⟩,q⟩⟩)
end
def eQ:bootBuiltins "len"=some (.builtin "len"):=by first | exact PySem.boot_len | exact PyProof.Rows.boot_len | decide +kernel
def sH:bootBuiltins "all"=some (.builtin "all"):=by first | exact PySem.boot_all | exact PyProof.Rows.boot_all | decide +kernel
def j6:bootBuiltins "isinstance"=some (.builtin "isinstance"):=by first | exact PySem.boot_isinstance | exact PyProof.Rows.boot_isinstance | decide +kernel
def qZ:bootBuiltins "sorted"=some (.builtin "sorted"):=by first | exact PySem.boot_sorted | exact PyProof.Rows.boot_sorted | decide +kernel
def sI:bootBuiltins "int"=some (.type "int"):=by first | exact PySem.boot_int | exact PyProof.Rows.boot_int | decide +kernel
def vo:bootBuiltins "bool"=some (.type "bool"):=by first | exact PySem.boot_bool | exact PyProof.Rows.boot_bool | decide +kernel
def eY:bootBuiltins "tuple"=some (.type "tuple"):=by first | exact PySem.boot_tuple | exact PyProof.Rows.boot_tuple | decide +kernel
def gw:bootBuiltins "list"=some (.type "list"):=by first | exact PySem.boot_list | exact PyProof.Rows.boot_list | decide +kernel
def pP:bootBuiltins "dict"=some (.type "dict"):=by first | exact PySem.boot_dict | exact PyProof.Rows.boot_dict | decide +kernel
structure OkF (P:Program) (w:World) (K:PySem.W.Frag) (mg:Str->Option Value) (base:Heap) (x:Str) (k:Nat) (ps:List Str) (sp:Sp):Prop where
 ex:∃ f fd,mg x=some (.ref f)/\PySem.W.keepIn K (.ref f)=true/\Binds K fd ps []/\FnOk P w K mg base CX0 k f fd ps sp
structure DefF (K:PySem.W.Frag) (mg:Str->Option Value) (x:Str) (st:Stmt) (ps:List Str):Prop where
 ex:∃ f fd,mg x=some (.ref f)/\PySem.W.keepIn K (.ref f)=true/\Binds K fd ps []/\Fun K x x st f fd
section
variable {P:Program} {w:World} {K:PySem.W.Frag} {mg:Str->Option Value} {base:Heap}
def DefF.ok {x:Str} {st:Stmt} {N ps:List Str} {k:Nat} {sp:Sp} (F:DefF K mg x st ps) (S:FnScope N ps (ac st)) (len:∀ vs H Q E,sp vs H Q E->vs.length=ps.length)
  (hbody:∀ (f:Addr) (cdv:Value) (A:Around) (outer:List Env) (s:Shared) (H:Hp) (vs:List V) (Q:VK) (E:XK),Room k (A.deeper (envOfC x (ac st) s.heap.objs.size f cdv))->sp vs H Q E→
   ∃ t,PSs (iT CX0 P w K mg base N x (ac st) f cdv A outer s H E).nox (aO st) t/\t {nx:=fun _ H'=>Q .non H',rt:=Q} (du N vs) H):OkF P w K mg base x (k+1) ps sp:=by
 obtain ⟨f,fd,h1,h2,h3,h4⟩:=F.ex
 exact ⟨f,fd,h1,h2,h3,h4.ok S len (hbody f)⟩
def DefF.mk' {x:Str} {st:Stmt} {ps:List Str} {f:Addr} {oc:Value} {od an:Option Addr} {osl:Array (Option Value)} {kV doc pm cdv ct:Value} {h:Heap} (X:K.In h) (G:h.Ns mainGlobals mg)
  (a:PySem.W.nsIn K mainGlobals x=some (some (.ref f)))
  (l:K.lookup f=some ⟨oc,od,.func (PySem.W.fnOf x x (aZ st) (aO st) (ac st) .none kV doc pm an cdv ct),osl⟩) (c:PySem.W.codeIn K cdv x=true) (k:PySem.W.keepIn K (.ref f)=true)
  (hb:∀ (kV doc pm:Value) (an:Option Addr) (cdv ct:Value) (us:List Value),us.length=ps.length->bindArgs (PySem.W.fnOf x x (aZ st) (aO st) (ac st) .none kV doc pm an cdv ct) ⟨us,[]⟩=pure (ps.zip us)):DefF K mg x st ps:=
 ⟨f,_,PySem.W.mg_of X G a,k,(ca l c k).binds hb,ca l c k⟩
end
section
variable {X:Cx} {k:Nat} {ps:List Str} {sp:Sp} {x:Str} {p pos:Pos} {e:Expr} {es:List Expr} {t:TA}
def sJ (F:OkF X.prog X.w X.K X.mg X.base x k ps sp) (hr:Room k X.A) (hg:Gl X x) (ha:PA X (e::es) t) (hdb:(x==("__debug__":Str))=false:=by decide)
  (he:starEach (e::es) X.env=(false,eval e X.env)::starEach es X.env:=by rfl) (hpl:(backTo pos (starEach es X.env)).any (·.1)=false:=by rfl):PE X (.Call (.Name x p) (e::es) [] pos) (sf sp [] E0 t):=by
 obtain ⟨f,fd,h1,h2,h3,h4⟩:=F.ex
 exact u7 h4 hr hg h1 h2 h3 .nil pM ha hdb he hpl
end
noncomputable def wR (N:List Str) (outer scope:Scope) (M:List Str) (src:List (Option Nat)):Bool:=
 (match scope.kind with | .function=>true | _=>false)&&
 scope.names.all (fun y=>decide (y.2≠.cell))&&
 scope.names.all (fun y=>!decide (y.2=.free)||(decide (outer.names.lookup y.1=some .cell)||decide (outer.names.lookup y.1=some .free)))&&
 scope.names.all (fun y=>!decide (y.2=.local)||decide (scope.names.lookup y.1=some .local))&&
 scope.names.all (fun y=>!decide (y.2=.free)||decide (scope.names.lookup y.1=some .free))&&
 decide (M.length=src.length)&&decide M.Nodup&&
 (M.zip src).all (fun p=>match p.2 with | none=>true | some j=>decide (N[j]?=some p.1)&&decide ((p.1,NameKind.free)∈scope.names))
def CmpScope.of {N:List Str} {outer scope:Scope} {M:List Str} {src:List (Option Nat)} (h:wR N outer scope M src=true):CmpScope N outer scope M src:=by
 unfold wR at h
 simp only [Bool.and_eq_true,List.all_eq_true,Bool.or_eq_true,Bool.not_eq_true',decide_eq_true_eq,decide_eq_false_iff_not] at h
 obtain ⟨⟨⟨⟨⟨⟨⟨h1,h2⟩,h3⟩,h4⟩,h5⟩,h6⟩,h7⟩,h8⟩:=h
 refine ⟨?_,h2,fun y hy e=>(h3 y hy).resolve_left fun z=>z e,fun y hy e=>(h4 y hy).resolve_left fun z=>z e,fun y hy e=>(h5 y hy).resolve_left fun z=>z e,h6,h7,fun p hp j hj=>?_⟩
 · revert h1
   cases scope.kind<;>simp
 · have:=h8 p hp
   cases e:p.2 with
   | none=>rw [e] at hj;cases hj
   | some j' =>
    rw [e] at hj this
    cases hj
    simpa using this
def Plain (J:It) (xs:List V) (ok:Hp->Prop):Prop:=∀ i H,ok H->(i<xs.length->J.go i H)/\(i=xs.length->J.stop i H)/\∀ x H',i<xs.length->J.yld i H x H'->H'=H/\xs[i]?=some x
def plain_list {K:PySem.W.Frag} {a:Addr} {xs:List V}:Plain (Itl K a) xs (fun H=>SqL K H a xs):=fun i H h =>
 ⟨fun hi=>⟨xs,xs[i],h,by simp [hi]⟩,fun e=>⟨xs,h,by omega⟩,fun x H' _ y=>⟨y.1,y.2 xs h⟩⟩
def plain_tup {K:PySem.W.Frag} {a:Addr} {xs:List V}:Plain (Itt K a) xs (fun H=>SqT K H a xs):=fun i H h =>
 ⟨fun hi=>⟨xs,xs[i],h,by simp [hi]⟩,fun e=>⟨xs,h,by omega⟩,fun x H' _ y=>⟨y.1,y.2 xs h⟩⟩
def jx (lo:Int) (n:Nat):List V:=(List.range n).map fun (i:Nat)=>V.int (lo+i)
def plain_range {lo:Int} {n:Nat}:Plain (Itr lo n) (jx lo n) (fun _=>True):=fun i H h=>by
 refine ⟨fun hi=>?_,fun e=>?_,fun x H' hi y=>?_⟩
 · show i<n
   simpa [jx] using hi
 · show n<=i
   simp [jx] at e
   omega
 · obtain ⟨e,rfl⟩:=y
   refine ⟨e,?_⟩
   unfold jx at hi ⊢
   rw [List.length_map,List.length_range] at hi
   rw [List.getElem?_map,List.getElem?_range hi]
   rfl
def pQ (x:Str):List V:=x.cps.toList.map fun c=>V.str ⟨#[c]⟩
def plain_str {x:Str}:Plain (Its x) (pQ x) (fun _=>True):=fun i H h=>by
 refine ⟨fun hi=>?_,fun e=>?_,fun v H' hi y=>?_⟩
 · show i<x.cps.size
   simpa [pQ] using hi
 · show i=x.cps.size
   simpa [pQ] using e
 · obtain ⟨e,c,hc,rfl⟩:=y
   refine ⟨e,?_⟩
   unfold pQ
   rw [List.getElem?_map,Array.getElem?_toList,hc]
   rfl
noncomputable def wS (src:List (Option Nat)) (g:TG) (tt:TT) (te:TE) (σ:St) (J:It) (H1:Hp) (Q:VK) (D:Addr):Prop:=∃ W:Nat->Nat->Hp->Prop,(∃ m,W 0 m (upd H1 D (.lst [])))/\∀ i m H,W i m H→
 (J.stop i H/\Q (.ref D) H)∨(J.go i H/\∃ N:Hp->Prop,(∀ H',N H'->∃ m',m'<m/\W (i+1) m' H')/\∀ x H',J.yld i H x H'→
  g x (stC src σ) H' fun σ2 H2=>Wk (stC src σ) σ2/\tt σ2 H2 fun b H3=>if b=true then te σ2 H3 fun v H4=>∃ ys,H4 D=some (.lst ys)/\ys.length<sizeLine/\N (upd H4 D (.lst (ys++[v]))) else N H3)
def m4 {src:List (Option Nat)} {wi:TI} {g:TG} {tt:TT} {te:TE} {σ:St} {H:Hp} {Q:VK}:kA src wi g tt te σ H Q=wi σ H fun J H1=>∀ D,H1 D=none->wS src g tt te σ J H1 Q D:=rfl
noncomputable def ForW (g:TG) (tb:TS) (D:Ends) (J:It) (σ:St) (H1:Hp):Prop:=∃ W:Nat->Nat->St->Hp->Prop,(∃ m,W 0 m σ H1)/\∀ i m σ H,W i m σ H→
 (J.stop i H/\D.nx σ H)∨(J.go i H/\∃ N:St->Hp->Prop,(∀ σ' H',N σ' H'->∃ m',m'<m/\W (i+1) m' σ' H')/\∀ x H',J.yld i H x H'->g x σ H' fun σ2 H2=>tb {D with nx:=N,ct:=N,bk:=D.nx} σ2 H2)
def jb {wi:TI} {g:TG} {tb:TS} {D:Ends} {σ:St} {H:Hp}:tFor wi g tb D σ H=wi σ H fun J H1=>ForW g tb D J σ H1:=rfl
section
variable {X:Cx} {K:PySem.W.Frag} {tg:Expr}
end
def sK (scope outer:Scope):Scope:={scope with names:=scope.names.map fun (n,k)=>if (k==.free&&outer.kind==.function&&outer.names.lookup n==some .cell) then (n,.cell) else (n,k)}
noncomputable def fA (sc:Scope) (N:List Str) (i:Nat) (x:Str):Bool:=
 decide (N[i]?=some x)&&(decide (sc.names.lookup x=some .local)||(decide (sc.names.lookup x=some .cell)||decide (sc.names.lookup x=some .free)))&&!(x==("__debug__":Str))&&!(x==("__classdict__":Str))
def jy (sc:Scope) (x:Str):Bool:=decide (sc.names.lookup x=some .local)||decide (sc.names.lookup x=some .cell)
def bj (sc:Scope) (x:Str):Bool:=decide (sc.names.lookup x=some .globalImplicit)&&!(x==("__debug__":Str))&&!decide (x=("__name__":Str))
section
variable {sc:Scope} {N:List Str} {i:Nat} {x:Str}
def iA (h:fA sc N i x=true):N[i]?=some x:=by
 unfold fA at h
 simp only [Bool.and_eq_true,decide_eq_true_eq] at h
 exact h.1.1.1
def xU (h:fA sc N i x=true):Vis sc x:=by
 unfold fA at h
 simp only [Bool.and_eq_true,Bool.or_eq_true,decide_eq_true_eq] at h
 exact h.1.1.2
def xV (h:fA sc N i x=true):(x==("__debug__":Str))=false:=by
 unfold fA at h
 simp only [Bool.and_eq_true,Bool.not_eq_true'] at h
 exact h.1.2
def zj (h:fA sc N i x=true):(x==("__classdict__":Str))=false:=by
 unfold fA at h
 simp only [Bool.and_eq_true,Bool.not_eq_true'] at h
 exact h.2
def lT (h:jy sc x=true):Loc sc x:=by
 unfold jy at h
 simp only [Bool.or_eq_true,decide_eq_true_eq] at h
 exact h
def q65 (h:bj sc x=true):sc.names.lookup x=some .globalImplicit:=by
 unfold bj at h
 simp only [Bool.and_eq_true,decide_eq_true_eq] at h
 exact h.1.1
def jz (h:bj sc x=true):(x==("__debug__":Str))=false:=by
 unfold bj at h
 simp only [Bool.and_eq_true,Bool.not_eq_true'] at h
 exact h.1.2
def q60 (h:bj sc x=true):x≠("__name__":Str):=by
 unfold bj at h
 simp only [Bool.and_eq_true,Bool.not_eq_true',decide_eq_false_iff_not] at h
 exact h.2
end
def cW (X:Cx) (sc:Scope):Prop:=X.env.scope=sc
section
variable {X:Cx} {sc:Scope} {N:List Str} {x:Str} {pos p:Pos}
def pvD (i:Nat) (h:fA sc N i x=true) (e1:cW X sc:=by rfl) (e2:X.N=N:=by rfl):PE X (.Name x pos) (mM i):=by
 have e1:X.env.scope=sc:=e1
 subst e1 e2
 exact xt (iA h) (xU h) (xV h) (zj h)
def glD (h:bj sc x=true) (e1:cW X sc:=by rfl):Gl X x:=by
 have e1:X.env.scope=sc:=e1
 subst e1
 exact q65 h
def pR {i:Nat} {e:Expr} {te:TE} {pos':Pos} (h:fA sc N i x=true) (hl:jy sc x=true) (nd:N.Nodup) (he:PE X e te) (e1:cW X sc:=by rfl) (e2:X.N=N:=by rfl) (hf:X.fn x=true∨X.env.scope.names.lookup x=some .local:=by exact .inl rfl)
  (hs:swapsWith e (some (.Name x pos')) pos.line X.env=pure false:=by rfl):PS X (.Assign [.Name x pos'] e pos) (u2 te (iI i)):=by
 have e1:X.env.scope=sc:=e1
 subst e1 e2
 exact xC nd (iA h) (lT hl) he hs hf
def aM {i:Nat} (h:fA sc N i x=true) (hl:jy sc x=true) (nd:N.Nodup) (e1:cW X sc:=by rfl) (e2:X.N=N:=by rfl) (hf:X.fn x=true∨X.env.scope.names.lookup x=some .local:=by exact .inl rfl):PG X (.Name x pos) (iI i):=by
 have e1:X.env.scope=sc:=e1
 subst e1 e2
 exact pv nd (iA h) (lT hl) hf
def loOk (sc:Scope) (x:Str):Bool:=decide (sc.names.lookup x=some .local)
def cN {i:Nat} (h:fA sc N i x=true) (hl:loOk sc x=true) (nd:X.N.Nodup) (e1:cW X sc) (e2:X.N=N:=by rfl):PG X (.Name x pos) (iI i):=by
 have e1:X.env.scope=sc:=e1
 subst e1 e2
 have hl:X.env.scope.names.lookup x=some .local:=of_decide_eq_true hl
 exact pv nd (iA h) (.inl hl) (.inr hl)
def sL {v:V} {u:Value} (h:bj sc x=true) (hm:X.mg x=none) (hv:bootBuiltins x=some u) (r:RelV v u) (e1:cW X sc:=by rfl):PE X (.Name x pos) (tC v):=uY (glD h e1) hm hv r (q60 h) (jz h)
variable {e:Expr} {es:List Expr} {t:TA} {id T:String} {r:List V->Hp->VK->Prop} {k:Nat} {ps:List Str} {sp:Sp}
def kF (h:bj sc x=true) (hc:dL X (.builtin id) r) (hm:X.mg x=none) (hv:bootBuiltins x=some (.builtin id)) (ha:PA X (e::es) t) (e1:cW X sc:=by rfl)
  (he:starEach (e::es) X.env=(false,eval e X.env)::starEach es X.env:=by rfl) (hpl:(backTo pos (starEach es X.env)).any (·.1)=false:=by rfl):PE X (.Call (.Name x p) (e::es) [] pos) (tCB r t):=
 sk hc (glD h e1) hm hv ha (q60 h) (jz h) he hpl
def fB (h:bj sc x=true) (hc:dL X (.type T) r) (hm:X.mg x=none) (hv:bootBuiltins x=some (.type T)) (ha:PA X (e::es) t) (e1:cW X sc:=by rfl)
  (he:starEach (e::es) X.env=(false,eval e X.env)::starEach es X.env:=by rfl) (hpl:(backTo pos (starEach es X.env)).any (·.1)=false:=by rfl):PE X (.Call (.Name x p) (e::es) [] pos) (tCB r t):=
 qR hc (glD h e1) hm hv ha (q60 h) (jz h) he hpl
def iB (h:bj sc x=true) (F:OkF X.prog X.w X.K X.mg X.base x k ps sp) (hr:Room k X.A) (ha:PA X (e::es) t) (e1:cW X sc:=by rfl)
  (he:starEach (e::es) X.env=(false,eval e X.env)::starEach es X.env:=by rfl) (hpl:(backTo pos (starEach es X.env)).any (·.1)=false:=by rfl):PE X (.Call (.Name x p) (e::es) [] pos) (sf sp [] E0 t):=
 sJ F hr (glD h e1) ha (jz h) he hpl
variable {tg a b:Expr} {ta:TA}
def oC (h:bj sc "range"=true) (hm:X.mg "range"=none) (ha:PA X [a] ta) (e1:cW X sc:=by rfl) (hs:starEach [a] X.env=[(false,eval a X.env)]:=by rfl):PI X tg (.Call (.Name "range" p) [a] [] pos) (wH ta):=qM (glD h e1) hm ha hs
end
section
variable {X:Cx} {M:List Str} {scope outer:Scope} {C:Addr} {s:Shared} {H:Hp} {ex:List Addr} {x:Str} {pos p:Pos}
def scC (ho:cW X outer):cW (cxC X M scope C s H ex) (sK scope outer):=by
 have ho:X.env.scope=outer:=ho
 subst ho
 rfl
end
inductive Dt where
 | non | bl (b:Bool) | int (i:Int) | str (x:Str) | tup (l:List Dt) | lst (l:List Dt) | dct (ks:List Key) (l:List Dt) | dcT (ks:List (List Key)) (l:List Dt)
 | ins (c:Str) (ns:List Str) (l:List Dt)
mutual
noncomputable def peq:Dt->Dt->Bool
 | .non,.non=>true
 | .bl a,.bl b=>a==b
 | .bl a,.int j=>(if a then (1:Int) else 0)==j
 | .int i,.bl b=>i==(if b then (1:Int) else 0)
 | .int i,.int j=>i==j
 | .str x,.str y=>x==y
 | .tup l,.tup m=>peqs l m
 | .lst l,.lst m=>peqs l m
 | .dct ks l,.dct js m=>decide (ks=js)&&peqs l m
 | .dcT ks l,.dcT js m=>decide (ks=js)&&peqs l m
 | .ins _ _ _,.ins _ _ _=>true
 | _,_=>false
noncomputable def peqs:List Dt->List Dt->Bool
 | [],[]=>true
 | d::l,e::m=>peq d e&&peqs l m
 | _,_=>false
end
mutual
def hJ:∀ d:Dt,peq d d=true
 | .non=>by simp [peq]
 | .bl b=>by simp [peq]
 | .int i=>by simp [peq]
 | .str x=>by simp [peq]
 | .tup l=>by simp only [peq];exact peqs_self l
 | .lst l=>by simp only [peq];exact peqs_self l
 | .dct ks l=>by simp only [peq,decide_true,Bool.true_and];exact peqs_self l
 | .dcT ks l=>by simp only [peq,decide_true,Bool.true_and];exact peqs_self l
 | .ins c ns l=>by simp only [peq]
def peqs_self:∀ l:List Dt,peqs l l=true
 | []=>by simp [peqs]
 | d::l=>by simp only [peqs,hJ d,peqs_self l,Bool.and_self]
end
mutual
noncomputable def hU:Dt->Nat
 | .tup l=>deeps l+1
 | .lst l=>deeps l+1
 | _=>0
noncomputable def deeps:List Dt->Nat
 | []=>0
 | d::l=>max (hU d) (deeps l)
end
def ClsAt (K:PySem.W.Frag) (c:Str) (C:Addr):Prop:=PySem.W.nsIn K mainGlobals c=some (some (.ref C))
mutual
noncomputable def Rep (K:PySem.W.Frag) (H:Hp):Dt->V->Prop
 | .non,v=>v=.non
 | .bl b,v=>v=.bl b
 | .int i,v=>v=.int i
 | .str x,v=>v=.str x
 | .tup l,v=>∃ a vs,v=.ref a/\SqT K H a vs/\Reps K H l vs
 | .lst l,v=>∃ a vs,v=.ref a/\SqL K H a vs/\Reps K H l vs
 | .dct ks l,v=>∃ a kvs,v=.ref a/\Rd H a (.dK kvs)/\kvs.map (·.1)=ks/\Reps K H l (kvs.map (·.2))
 | .dcT ks l,v=>∃ a kvs,v=.ref a/\Rd H a (.dT kvs)/\kvs.map (·.1)=ks/\Reps K H l (kvs.map (·.2))
 | .ins c ns l,v=>∃ a C dx fs,v=.ref a/\ClsAt K c C/\H a=some (.ins C dx fs)/\fs.map (·.1)=ns/\Reps K H l (fs.map (·.2))
noncomputable def Reps (K:PySem.W.Frag) (H:Hp):List Dt->List V->Prop
 | [],vs=>vs=[]
 | d::l,vs=>∃ v ws,vs=v::ws/\Rep K H d v/\Reps K H l ws
end
def Same.tup {K:PySem.W.Frag} {H H':Hp} {a:Addr} {xs:List V} (e:Same H H') (h:SqT K H a xs):SqT K H' a xs:=by
 rcases h with (h | ⟨o,h⟩) | h
 · exact .inl (.inl (e _ _ h))
 · exact .inl (.inr ⟨o,e _ _ h⟩)
 · exact .inr h
def Same.rd {H H':Hp} {a:Addr} {u:HO} (e:Same H H') (h:Rd H a u):Rd H' a u:=by
 rcases h with h | ⟨o,h⟩
 · exact .inl (e _ _ h)
 · exact .inr ⟨o,e _ _ h⟩
mutual
def Rep.same {K:PySem.W.Frag} {H H':Hp} (e:Same H H'):∀ {d:Dt} {v:V},Rep K H d v->Rep K H' d v
 | .non,v,h=>h
 | .bl _,v,h=>h
 | .int _,v,h=>h
 | .str _,v,h=>h
 | .tup l,v,h=>by
  unfold Rep at h ⊢
  obtain ⟨a,vs,h1,h2,h3⟩:=h
  exact ⟨a,vs,h1,e.tup h2,Reps.same e h3⟩
 | .lst l,v,h=>by
  unfold Rep at h ⊢
  obtain ⟨a,vs,h1,h2,h3⟩:=h
  exact ⟨a,vs,h1,e.seq h2,Reps.same e h3⟩
 | .dct ks l,v,h=>by
  unfold Rep at h ⊢
  obtain ⟨a,vs,h1,h2,h3,h4⟩:=h
  exact ⟨a,vs,h1,e.rd h2,h3,Reps.same e h4⟩
 | .dcT ks l,v,h=>by
  unfold Rep at h ⊢
  obtain ⟨a,vs,h1,h2,h3,h4⟩:=h
  exact ⟨a,vs,h1,e.rd h2,h3,Reps.same e h4⟩
 | .ins c ns l,v,h=>by
  unfold Rep at h ⊢
  obtain ⟨a,C,dx,fs,h1,h2,h3,h4,h5⟩:=h
  exact ⟨a,C,dx,fs,h1,h2,e _ _ h3,h4,Reps.same e h5⟩
def Reps.same {K:PySem.W.Frag} {H H':Hp} (e:Same H H'):∀ {l:List Dt} {vs:List V},Reps K H l vs->Reps K H' l vs
 | [],vs,h=>h
 | d::l,vs,h=>by
  unfold Reps at h ⊢
  obtain ⟨v,ws,h1,h2,h3⟩:=h
  exact ⟨v,ws,h1,Rep.same e h2,Reps.same e h3⟩
end
def Reps.length {K:PySem.W.Frag} {H:Hp}:∀ {l:List Dt} {vs:List V},Reps K H l vs->vs.length=l.length
 | [],vs,h=>by unfold Reps at h;rw [h];rfl
 | d::l,vs,h=>by
  unfold Reps at h
  obtain ⟨v,ws,rfl,_,h3⟩:=h
  simp [Reps.length h3]
def Reps.get {K:PySem.W.Frag} {H:Hp}:∀ {l:List Dt} {vs:List V} {i:Nat} {d:Dt},Reps K H l vs->l[i]?=some d->∃ v,vs[i]?=some v/\Rep K H d v
 | [],vs,i,d,h,e=>by simp at e
 | d0::l,vs,0,d,h,e=>by
  unfold Reps at h
  obtain ⟨v,ws,rfl,h2,_⟩:=h
  simp at e
  subst e
  exact ⟨v,rfl,h2⟩
 | d0::l,vs,i+1,d,h,e=>by
  unfold Reps at h
  obtain ⟨v,ws,rfl,_,h3⟩:=h
  obtain ⟨u,e1,e2⟩:=Reps.get (i:=i) h3 (by simpa using e)
  exact ⟨u,by simpa using e1,e2⟩
def Reps.append {K:PySem.W.Frag} {H:Hp}:∀ {l m:List Dt} {vs ws:List V},Reps K H l vs->Reps K H m ws->Reps K H (l++m) (vs++ws)
 | [],m,vs,ws,h,h'=>by unfold Reps at h;rw [h];exact h'
 | d::l,m,vs,ws,h,h'=>by
  unfold Reps at h
  obtain ⟨v,us,rfl,h2,h3⟩:=h
  show Reps K H (d::(l++m)) (v::(us++ws))
  unfold Reps
  exact ⟨v,_,rfl,h2,Reps.append h3 h'⟩
def Reps.one {K:PySem.W.Frag} {H:Hp} {d:Dt} {v:V} (h:Rep K H d v):Reps K H [d] [v]:=by
 unfold Reps
 exact ⟨v,[],rfl,h,by unfold Reps;rfl⟩
def Reps.take {K:PySem.W.Frag} {H:Hp}:∀ {l:List Dt} {vs:List V} (n:Nat),Reps K H l vs->Reps K H (l.take n) (vs.take n)
 | _,_,0,_=>by simp [Reps]
 | [],vs,n+1,h=>by unfold Reps at h;rw [h];simp [Reps]
 | d::l,vs,n+1,h=>by
  unfold Reps at h
  obtain ⟨v,us,rfl,h2,h3⟩:=h
  show Reps K H (d::l.take n) (v::us.take n)
  unfold Reps
  exact ⟨v,_,rfl,h2,Reps.take n h3⟩
def Reps.drop {K:PySem.W.Frag} {H:Hp}:∀ {l:List Dt} {vs:List V} (n:Nat),Reps K H l vs->Reps K H (l.drop n) (vs.drop n)
 | _,_,0,h=>h
 | [],vs,n+1,h=>by unfold Reps at h;rw [h];simp [Reps]
 | d::l,vs,n+1,h=>by
  unfold Reps at h
  obtain ⟨v,us,rfl,h2,h3⟩:=h
  exact Reps.drop n h3
section
variable {X:Cx} {pins:List (Addr×Obj)} {σ:St} {H:Hp} {s:Shared} {K:PySem.W.Frag}
def Inv.notBoth {a:Addr} {xs ys:List V} (I:Inv X pins σ H s) (h:SqL X.K H a xs) (h':SqT X.K H a ys):False:=by
 obtain ⟨its,r,pl,_⟩:=I.list h
 obtain ⟨its',r',pt,_⟩:=I.tuple h'
 obtain ⟨o,n,e,hc,_⟩:=pl
 obtain ⟨o',e',hc',_⟩:=pt
 rw [e] at e'
 cases e'
 rw [hc] at hc'
 injection hc' with z
 exact absurd z (by decide)
def zk {a:Addr} {u w:List (Key×V)} (h:Rd H a (.dK u)) (h':Rd H a (.dK w)):u=w:=by
 rcases h with h | ⟨o,h⟩<;>rcases h' with h' | ⟨o',h'⟩<;>rw [h] at h'<;>cases h'<;>rfl
def zl {a:Addr} {u w:List (List Key×V)} (h:Rd H a (.dT u)) (h':Rd H a (.dT w)):u=w:=by
 rcases h with h | ⟨o,h⟩<;>rcases h' with h' | ⟨o',h'⟩<;>rw [h] at h'<;>cases h'<;>rfl
def jc {a:Addr} {u:HO} (h:Rd H a u):∃ o,H a=some o:=by
 rcases h with h | ⟨o,h⟩
 · exact ⟨_,h⟩
 · exact ⟨_,h⟩
def Inv.kNone (I:Inv X pins σ H s) {a:Addr} {o:Obj} (h:X.K.lookup a=some o):H a=none:=(I.bs a o (I.ok.mod.kin a o h)).2
def Inv.sqT_dK (I:Inv X pins σ H s) {a:Addr} {xs:List V} {u:List (Key×V)} (h:SqT X.K H a xs) (h':Rd H a (.dK u)):False:=by
 rcases h with h | ⟨o,_,_,h,_⟩
 · rcases h with h | ⟨o,h⟩<;>rcases h' with h' | ⟨o',h'⟩<;>rw [h] at h'<;>cases h'
 · obtain ⟨o',e⟩:=jc h'
   rw [I.kNone h] at e
   cases e
def Inv.sqT_dT (I:Inv X pins σ H s) {a:Addr} {xs:List V} {u:List (List Key×V)} (h:SqT X.K H a xs) (h':Rd H a (.dT u)):False:=by
 rcases h with h | ⟨o,_,_,h,_⟩
 · rcases h with h | ⟨o,h⟩<;>rcases h' with h' | ⟨o',h'⟩<;>rw [h] at h'<;>cases h'
 · obtain ⟨o',e⟩:=jc h'
   rw [I.kNone h] at e
   cases e
def Inv.sqL_dK (I:Inv X pins σ H s) {a:Addr} {xs:List V} {u:List (Key×V)} (h:SqL X.K H a xs) (h':Rd H a (.dK u)):False:=by
 rcases h with h | ⟨o,_,_,h,_⟩
 · rcases h with h | ⟨o,h⟩<;>rcases h' with h' | ⟨o',h'⟩<;>rw [h] at h'<;>cases h'
 · obtain ⟨o',e⟩:=jc h'
   rw [I.kNone h] at e
   cases e
def Inv.sqL_dT (I:Inv X pins σ H s) {a:Addr} {xs:List V} {u:List (List Key×V)} (h:SqL X.K H a xs) (h':Rd H a (.dT u)):False:=by
 rcases h with h | ⟨o,_,_,h,_⟩
 · rcases h with h | ⟨o,h⟩<;>rcases h' with h' | ⟨o',h'⟩<;>rw [h] at h'<;>cases h'
 · obtain ⟨o',e⟩:=jc h'
   rw [I.kNone h] at e
   cases e
def sM {a:Addr} {u:List (Key×V)} {w:List (List Key×V)} (h:Rd H a (.dK u)) (h':Rd H a (.dT w)):False:=by
 rcases h with h | ⟨o,h⟩<;>rcases h' with h' | ⟨o',h'⟩<;>rw [h] at h'<;>cases h'
def cb:Dt->Nat
 | .non=>0
 | .bl _=>1
 | .int _=>2
 | .str _=>3
 | .tup _=>4
 | .lst _=>5
 | .dct _ _=>6
 | .dcT _ _=>7
 | .ins _ _ _=>8
def pS (I:Inv X pins σ H s) {a C dx:Addr} {fs:List (Str×V)} {vs:List V} (h:SqT X.K H a vs) (h':H a=some (.ins C dx fs)):False:=by
 rcases h with (h | ⟨o,h⟩) | ⟨o,its,n,h,_⟩
 · rw [h'] at h;cases h
 · rw [h'] at h;cases h
 · rw [I.kNone h] at h';cases h'
def pT (I:Inv X pins σ H s) {a C dx:Addr} {fs:List (Str×V)} {vs:List V} (h:SqL X.K H a vs) (h':H a=some (.ins C dx fs)):False:=by
 rcases h with (h | ⟨o,h⟩) | ⟨o,its,n,h,_⟩
 · rw [h'] at h;cases h
 · rw [h'] at h;cases h
 · rw [I.kNone h] at h';cases h'
def pU {a C dx:Addr} {fs:List (Str×V)} {u:List (Key×V)} (h:Rd H a (.dK u)) (h':H a=some (.ins C dx fs)):False:=by
 rcases h with h | ⟨o,h⟩<;>rw [h] at h'<;>cases h'
def pV {a C dx:Addr} {fs:List (Str×V)} {u:List (List Key×V)} (h:Rd H a (.dT u)) (h':H a=some (.ins C dx fs)):False:=by
 rcases h with h | ⟨o,h⟩<;>rw [h] at h'<;>cases h'
def cO (I:Inv X pins σ H s) {d e:Dt} {v:V} (h:Rep X.K H d v) (h':Rep X.K H e v):cb d=cb e:=by
 cases d<;>cases e<;>first
  | rfl
  | (simp only [Rep] at h h';subst h;cases h';done)
  | (simp only [Rep] at h h';obtain ⟨_,_,e,_⟩:=h';rw [h] at e;cases e;done)
  | (simp only [Rep] at h h';obtain ⟨_,_,e,_⟩:=h;rw [h'] at e;cases e;done)
  | (simp only [Rep] at h h';obtain ⟨_,_,rfl,h2,_⟩:=h;obtain ⟨_,_,e,h2',_⟩:=h';cases e
     first
      | exact (I.sqT_dK h2 h2').elim
      | exact (I.sqT_dK h2' h2).elim
      | exact (I.sqT_dT h2 h2').elim
      | exact (I.sqT_dT h2' h2).elim
      | exact (I.notBoth h2 h2').elim
      | exact (I.notBoth h2' h2).elim
      | exact (I.sqL_dK h2 h2').elim
      | exact (I.sqL_dK h2' h2).elim
      | exact (I.sqL_dT h2 h2').elim
      | exact (I.sqL_dT h2' h2).elim
      | exact (sM h2 h2').elim
      | exact (sM h2' h2).elim)
  | (simp only [Rep] at h h';obtain ⟨_,_,_,_,e,_⟩:=h';rw [h] at e;cases e;done)
  | (simp only [Rep] at h h';obtain ⟨_,_,_,_,e,_⟩:=h;rw [h'] at e;cases e;done)
  | (simp only [Rep] at h h';obtain ⟨_,_,_,_,rfl,_,h2,_⟩:=h;obtain ⟨_,_,e,h2',_⟩:=h';cases e
     first
      | exact (pS I h2' h2).elim
      | exact (pT I h2' h2).elim
      | exact (pU h2' h2).elim
      | exact (pV h2' h2).elim)
  | (simp only [Rep] at h h';obtain ⟨_,_,_,_,rfl,_,h2,_⟩:=h';obtain ⟨_,_,e,h2',_⟩:=h;cases e
     first
      | exact (pS I h2' h2).elim
      | exact (pT I h2' h2).elim
      | exact (pU h2' h2).elim
      | exact (pV h2' h2).elim)
mutual
def lU (I:Inv X pins σ H s):∀ (d e:Dt) (v:V),Rep X.K H d v->Rep X.K H e v->peq d e=true:=fun d=>by
 match d with
 | .tup l =>
  intro e v h h'
  have hk:=cO I h h'
  cases e<;>first | (simp [cb] at hk;done) | skip
  simp only [Rep] at h h'
  obtain ⟨a,vs,rfl,h2,h3⟩:=h
  obtain ⟨b,ws,e,h2',h3'⟩:=h'
  cases e
  have:=I.tuple_inj h2 h2'
  subst this
  simp only [peq]
  exact reps_inj I l _ _ h3 h3'
 | .lst l =>
  intro e v h h'
  have hk:=cO I h h'
  cases e<;>first | (simp [cb] at hk;done) | skip
  simp only [Rep] at h h'
  obtain ⟨a,vs,rfl,h2,h3⟩:=h
  obtain ⟨b,ws,e,h2',h3'⟩:=h'
  cases e
  have:=I.list_inj h2 h2'
  subst this
  simp only [peq]
  exact reps_inj I l _ _ h3 h3'
 | .dct ks l =>
  intro e v h h'
  have hk:=cO I h h'
  cases e<;>first | (simp [cb] at hk;done) | skip
  simp only [Rep] at h h'
  obtain ⟨a,vs,rfl,h2,h3,h4⟩:=h
  obtain ⟨b,ws,e,h2',h3',h4'⟩:=h'
  cases e
  have:=zk h2 h2'
  subst this
  subst h3 h3'
  simp only [peq,decide_true,Bool.true_and]
  exact reps_inj I l _ _ h4 h4'
 | .dcT ks l =>
  intro e v h h'
  have hk:=cO I h h'
  cases e<;>first | (simp [cb] at hk;done) | skip
  simp only [Rep] at h h'
  obtain ⟨a,vs,rfl,h2,h3,h4⟩:=h
  obtain ⟨b,ws,e,h2',h3',h4'⟩:=h'
  cases e
  have:=zl h2 h2'
  subst this
  subst h3 h3'
  simp only [peq,decide_true,Bool.true_and]
  exact reps_inj I l _ _ h4 h4'
 | .ins c ns l =>
  intro e v h h'
  have hk:=cO I h h'
  cases e<;>first | (simp [cb] at hk;done) | skip
  simp only [peq]
 | .non =>
  intro e v h h'
  have hk:=cO I h h'
  cases e<;>first | (simp [cb] at hk;done) | simp only [peq]
 | .bl b =>
  intro e v h h'
  have hk:=cO I h h'
  cases e<;>first | (simp [cb] at hk;done) | (simp only [Rep] at h h';rw [h] at h';cases h';exact hJ _)
 | .int b =>
  intro e v h h'
  have hk:=cO I h h'
  cases e<;>first | (simp [cb] at hk;done) | (simp only [Rep] at h h';rw [h] at h';cases h';exact hJ _)
 | .str b =>
  intro e v h h'
  have hk:=cO I h h'
  cases e<;>first | (simp [cb] at hk;done) | (simp only [Rep] at h h';rw [h] at h';cases h';exact hJ _)
def reps_inj (I:Inv X pins σ H s):∀ (l m:List Dt) (vs:List V),Reps X.K H l vs->Reps X.K H m vs->peqs l m=true:=fun l=>by
 match l with
 | [] =>
  intro m vs h h'
  cases m with
  | nil=>simp only [peqs]
  | cons e m=>unfold Reps at h h';obtain ⟨v,ws,e,_⟩:=h';rw [h] at e;cases e
 | d::l =>
  intro m vs h h'
  cases m with
  | nil=>unfold Reps at h h';obtain ⟨v,ws,e,_⟩:=h;rw [h'] at e;cases e
  | cons e m =>
   unfold Reps at h h'
   obtain ⟨v,ws,rfl,h2,h3⟩:=h
   obtain ⟨v',ws',e',h2',h3'⟩:=h'
   cases e'
   simp only [peqs,lU I d _ _ h2 h2',reps_inj I l _ _ h3 h3',Bool.and_self]
end
end
end L2
namespace L2
open PySem PySem.Spec PyProof.Rows
mutual
noncomputable def dW:Dt->Dt->Bool
 | .tup l,.tup m=>cmpbs l m
 | .lst l,.lst m=>cmpbs l m
 | d,e=>decide (cb d<4)&&decide (cb e<4)
noncomputable def cmpbs:List Dt->List Dt->Bool
 | d::l,e::m=>dW d e&&cmpbs l m
 | _,_=>true
end
def eZ:∀ {l m:List Dt} {j:Nat} {d e:Dt},cmpbs l m=true->l[j]?=some d->m[j]?=some e->dW d e=true
 | [],_,j,d,e,_,h,_=>by simp at h
 | _::_,[],j,d,e,_,_,h=>by simp at h
 | d0::l,e0::m,0,d,e,h,h1,h2=>by
  simp only [cmpbs,Bool.and_eq_true] at h
  simp at h1 h2
  subst h1 h2
  exact h.1
 | d0::l,e0::m,j+1,d,e,h,h1,h2=>by
  simp only [cmpbs,Bool.and_eq_true] at h
  exact eZ (j:=j) h.2 (by simpa using h1) (by simpa using h2)
def fV:∀ {l:List Dt} {j:Nat} {d:Dt},l[j]?=some d->hU d<=deeps l
 | [],j,d,h=>by simp at h
 | d0::l,0,d,h=>by
  simp at h
  subst h
  simp only [deeps]
  exact Nat.le_max_left ..
 | d0::l,j+1,d,h=>by
  simp only [deeps]
  exact Nat.le_trans (fV (j:=j) (by simpa using h)) (Nat.le_max_right ..)
def ck (l m:List Dt) (j:Nat):Bool:=peq (l.getD j .non) (m.getD j .non)
def dM:∀ (l m:List Dt),peqs l m=((List.range (min l.length m.length)).all (ck l m)&&l.length==m.length)
 | [],[]=>by simp [peqs]
 | [],_::_=>by simp [peqs]
 | _::_,[]=>by simp [peqs]
 | d::l,e::m=>by
  have ih:=dM l m
  simp only [peqs,ih,List.length_cons]
  rw [show min (l.length+1) (m.length+1)=min l.length m.length+1 by omega,List.range_succ_eq_map,List.all_cons,List.all_map]
  have e1:ck (d::l) (e::m) 0=peq d e:=rfl
  have e2:(ck (d::l) (e::m) ∘ Nat.succ)=ck l m:=by
   funext j
   rfl
  have e3:(l.length+1==m.length+1)=(l.length==m.length):=by
   rw [Bool.eq_iff_iff]
   simp
  rw [e1,e2,e3,Bool.and_assoc]
section
variable {X:Cx} {pins:List (Addr×Obj)} {σ:St} {H:Hp} {s:Shared}
def cz {l:List Dt} {vs:List V} {its:List Value} (h:Reps X.K H l vs) (r:Vals vs its) {j:Nat} (hj:j<its.length):∃ d v,l[j]?=some d/\Rep X.K H d v/\RelV v its[j]:=by
 have hl:j<l.length:=by rw [<- h.length,r.length];exact hj
 obtain ⟨v,e1,e2⟩:=h.get (i:=j) (d:=l[j]) (by simp [hl])
 obtain ⟨u,e3,e4⟩:=r.get e1
 have:its[j]=u:=by
  have:=gQ hj
  rw [this] at e3
  exact Option.some.inj e3
 exact ⟨l[j],v,by simp [hl],e2,by rw [this];exact e4⟩
def wT (I:Inv X pins σ H s):∀ (n:Nat) {A:Around} {d e:Dt} {v w:V} {u u':Value},hU d<=n->A.units+n<cLine->dW d e=true->Rep X.K H d v->Rep X.K H e w->RelV v u->RelV w u'->SeqAt.EqAt A s u u' (peq d e):=by
 intro n
 induction n with
 | zero =>
  intro A d e v w u u' hd hu hc h h' r r'
  cases d<;>cases e<;>first
   | (simp only [Rep] at h h';subst h h';exact jt r r' rfl rfl)
   | (simp only [hU] at hd;omega)
   | (simp [dW,cb] at hc)
 | succ n ih =>
  intro A d e v w u u' hd hu hc h h' r r'
  cases d with
  | tup l =>
   cases e with
   | tup m =>
    have h0:=h
    have h0':=h'
    simp only [Rep] at h h'
    obtain ⟨a,vs,rfl,h2,h3⟩:=h
    obtain ⟨b,ws,rfl,h2',h3'⟩:=h'
    cases r
    cases r'
    by_cases hab:a=b
    · subst hab
      have:=lU I _ _ _ h0 h0'
      rw [this]
      exact SeqAt.EqAt.same _
    obtain ⟨its,rv,pt,_⟩:=I.tuple h2
    obtain ⟨its',rv',pt',_⟩:=I.tuple h2'
    have n1:its.length=l.length:=by rw [<- h3.length,rv.length]
    have n2:its'.length=m.length:=by rw [<- h3'.length,rv'.length]
    simp only [peq]
    rw [dM,<- n1,<- n2]
    simp only [hU] at hd
    simp only [dW] at hc
    have key:=SeqAt.RcAt.tuples (A:=A) (e:=ck l m) pt pt' (by omega) (fun j h1 h2=>by
     have h1':j<its.length:=by simpa using h1
     have h2':j<its'.length:=by simpa using h2
     obtain ⟨d,v,g1,g2,g3⟩:=cz h3 rv h1'
     obtain ⟨e,w,g1',g2',g3'⟩:=cz h3' rv' h2'
     have:ck l m j=peq d e:=by unfold ck;rw [List.getD_eq_getElem?_getD,List.getD_eq_getElem?_getD,g1,g1'];rfl
     rw [this]
     have:=ih (A:=A.in1) (Nat.le_trans (fV g1) (by omega)) (show A.units+1+n<cLine by omega) (eZ hc g1 g1') g2 g2' g3 g3'
     simpa using this)
    have key':SeqAt.RcAt A s (.ref a) (.ref b) ((List.range (min its.length its'.length)).all (ck l m)&&its.length==its'.length):=by simpa using key
    exact SeqAt.EqAt.of_refs hab key'
   | _=>exact absurd hc (by simp [dW,cb])
  | lst l =>
   cases e with
   | lst m =>
    have h0:=h
    have h0':=h'
    simp only [Rep] at h h'
    obtain ⟨a,vs,rfl,h2,h3⟩:=h
    obtain ⟨b,ws,rfl,h2',h3'⟩:=h'
    cases r
    cases r'
    by_cases hab:a=b
    · subst hab
      have:=lU I _ _ _ h0 h0'
      rw [this]
      exact SeqAt.EqAt.same _
    obtain ⟨its,rv,pt,_⟩:=I.list h2
    obtain ⟨its',rv',pt',_⟩:=I.list h2'
    have n1:its.length=l.length:=by rw [<- h3.length,rv.length]
    have n2:its'.length=m.length:=by rw [<- h3'.length,rv'.length]
    simp only [peq]
    rw [dM,<- n1,<- n2]
    simp only [hU] at hd
    simp only [dW] at hc
    by_cases hlen:its.length=its'.length
    · have key:=SeqAt.RcAt.lists (A:=A) (e:=ck l m) pt.isList pt'.isList (by simpa using hlen) (by omega) (fun j h1 h2=>by
       have h1':j<its.length:=by simpa using h1
       have h2':j<its'.length:=by simpa using h2
       obtain ⟨d,v,g1,g2,g3⟩:=cz h3 rv h1'
       obtain ⟨e,w,g1',g2',g3'⟩:=cz h3' rv' h2'
       have:ck l m j=peq d e:=by unfold ck;rw [List.getD_eq_getElem?_getD,List.getD_eq_getElem?_getD,g1,g1'];rfl
       rw [this]
       have:=ih (A:=A.in1) (Nat.le_trans (fV g1) (by omega)) (show A.units+1+n<cLine by omega) (eZ hc g1 g1') g2 g2' g3 g3'
       simpa using this)
      have e1:(its.length==its'.length)=true:=by simpa using hlen
      rw [e1,Bool.and_true,show min its.length its'.length=its.length by omega]
      exact SeqAt.EqAt.of_refs hab (by simpa using key)
    · have e1:(its.length==its'.length)=false:=by simpa using hlen
      rw [e1,Bool.and_false]
      exact SeqAt.EqAt.of_refs hab (SeqAt.RcAt.lists_lengths pt.isList pt'.isList (by simpa using hlen) (by omega))
   | _=>exact absurd hc (by simp [dW,cb])
  | non=>cases e<;>first | (simp only [Rep] at h h';subst h h';exact jt r r' rfl rfl) | (simp [dW,cb] at hc)
  | bl b=>cases e<;>first | (simp only [Rep] at h h';subst h h';exact jt r r' rfl rfl) | (simp [dW,cb] at hc)
  | int b=>cases e<;>first | (simp only [Rep] at h h';subst h h';exact jt r r' rfl rfl) | (simp [dW,cb] at hc)
  | str b=>cases e<;>first | (simp only [Rep] at h h';subst h h';exact jt r r' rfl rfl) | (simp [dW,cb] at hc)
  | dct ks l=>cases e<;>(simp [dW,cb] at hc)
  | dcT ks l=>cases e<;>(simp [dW,cb] at hc)
  | ins c ns l=>cases e<;>(simp [dW,cb] at hc)
def wU (I:Inv X pins σ H s) {A:Around} {d e:Dt} {v w:V} {u u':Value} (hq:(∃ l m,d=.tup l/\e=.tup m)∨∃ l m,d=.lst l/\e=.lst m) (hu:A.units+hU d<cLine) (hc:dW d e=true) (h:Rep X.K H d v) (h':Rep X.K H e w) (r:RelV v u) (r':RelV w u') :
  SeqAt.RcAt A s u u' (peq d e)/\SeqAt.RcNeAt A s u u' (!peq d e):=by
 rcases hq with ⟨l,m,rfl,rfl⟩ | ⟨l,m,rfl,rfl⟩
 · simp only [Rep] at h h'
   obtain ⟨a,vs,rfl,h2,h3⟩:=h
   obtain ⟨b,ws,rfl,h2',h3'⟩:=h'
   cases r
   cases r'
   obtain ⟨its,rv,pt,_⟩:=I.tuple h2
   obtain ⟨its',rv',pt',_⟩:=I.tuple h2'
   have n1:its.length=l.length:=by rw [<- h3.length,rv.length]
   have n2:its'.length=m.length:=by rw [<- h3'.length,rv'.length]
   simp only [peq]
   rw [dM,<- n1,<- n2]
   simp only [hU] at hu
   simp only [dW] at hc
   have he:∀ j (h1:j<its.toArray.size) (h2:j<its'.toArray.size),SeqAt.EqAt A.in1 s its.toArray[j] its'.toArray[j] (ck l m j):=fun j h1 h2=>by
    have h1':j<its.length:=by simpa using h1
    have h2':j<its'.length:=by simpa using h2
    obtain ⟨d,v,g1,g2,g3⟩:=cz h3 rv h1'
    obtain ⟨e,w,g1',g2',g3'⟩:=cz h3' rv' h2'
    have:ck l m j=peq d e:=by unfold ck;rw [List.getD_eq_getElem?_getD,List.getD_eq_getElem?_getD,g1,g1'];rfl
    rw [this]
    have:=wT I (deeps l) (A:=A.in1) (fV g1) (show A.units+1+deeps l<cLine by omega) (eZ hc g1 g1') g2 g2' g3 g3'
    simpa using this
   exact ⟨by simpa using SeqAt.RcAt.tuples (A:=A) (e:=ck l m) pt pt' (by omega) he,by simpa using SeqAt.RcNeAt.tuples (A:=A) (e:=ck l m) pt pt' (by omega) he⟩
 · simp only [Rep] at h h'
   obtain ⟨a,vs,rfl,h2,h3⟩:=h
   obtain ⟨b,ws,rfl,h2',h3'⟩:=h'
   cases r
   cases r'
   obtain ⟨its,rv,pt,_⟩:=I.list h2
   obtain ⟨its',rv',pt',_⟩:=I.list h2'
   have n1:its.length=l.length:=by rw [<- h3.length,rv.length]
   have n2:its'.length=m.length:=by rw [<- h3'.length,rv'.length]
   simp only [peq]
   rw [dM,<- n1,<- n2]
   simp only [hU] at hu
   simp only [dW] at hc
   by_cases hlen:its.length=its'.length
   · have he:∀ j (h1:j<its.toArray.size) (h2:j<its'.toArray.size),SeqAt.EqAt A.in1 s its.toArray[j] its'.toArray[j] (ck l m j):=fun j h1 h2=>by
      have h1':j<its.length:=by simpa using h1
      have h2':j<its'.length:=by simpa using h2
      obtain ⟨d,v,g1,g2,g3⟩:=cz h3 rv h1'
      obtain ⟨e,w,g1',g2',g3'⟩:=cz h3' rv' h2'
      have:ck l m j=peq d e:=by unfold ck;rw [List.getD_eq_getElem?_getD,List.getD_eq_getElem?_getD,g1,g1'];rfl
      rw [this]
      have:=wT I (deeps l) (A:=A.in1) (fV g1) (show A.units+1+deeps l<cLine by omega) (eZ hc g1 g1') g2 g2' g3 g3'
      simpa using this
     have e1:(its.length==its'.length)=true:=by simpa using hlen
     rw [e1,Bool.and_true,show min its.length its'.length=its.length by omega]
     exact ⟨by simpa using SeqAt.RcAt.lists (A:=A) (e:=ck l m) pt.isList pt'.isList (by simpa using hlen) (by omega) he,by simpa using SeqAt.RcNeAt.lists (A:=A) (e:=ck l m) pt.isList pt'.isList (by simpa using hlen) (by omega) he⟩
   · have e1:(its.length==its'.length)=false:=by simpa using hlen
     rw [e1,Bool.and_false]
     exact ⟨SeqAt.RcAt.lists_lengths pt.isList pt'.isList (by simpa using hlen) (by omega),SeqAt.RcNeAt.lists_lengths pt.isList pt'.isList (by simpa using hlen) (by omega)⟩
noncomputable def vp (K:PySem.W.Frag) (neg:Bool):R2:=fun x y H Q=>∃ d e,((∃ l m,d=.tup l/\e=.tup m)∨∃ l m,d=.lst l/\e=.lst m)/\Rep K H d x/\Rep K H e y/\dW d e=true/\hU d<=60/\Q (.bl (if neg then !peq d e else peq d e)) H
def xW {K:PySem.W.Frag} {k:Nat} (hr:Room k X.A) (hK:X.K=K):OpR X (compareOp .Eq) (vp K false):=by
 subst hK
 intro pins s σ H x y v u Q I rx ry h
 obtain ⟨d,e,hq,hd,he,hc,hdp,q⟩:=h
 have hu:=hr.units
 exact (wU I hq (by omega) hc hd he rx ry).1 _ _ _ _ ⟨.bl (peq d e),H,I,rfl,q⟩
def xX {K:PySem.W.Frag} {k:Nat} (hr:Room k X.A) (hK:X.K=K):OpR X (compareOp .NotEq) (vp K true):=by
 subst hK
 intro pins s σ H x y v u Q I rx ry h
 obtain ⟨d,e,hq,hd,he,hc,hdp,q⟩:=h
 have hu:=hr.units
 exact (wU I hq (by omega) hc hd he rx ry).2 _ _ _ _ ⟨.bl (!peq d e),H,I,rfl,q⟩
end
end L2
namespace L2
open PySem PySem.Spec PyProof.Rows
structure Step (F H F' H':Hp):Prop where
 hh:Same H H'
 ff:Same F F'
 fh:Same F' H'
 nw:∀ b o,F' b=some o->F b=some o∨H b=none
section
variable {F H F' H' F1 H1:Hp} {p:Addr} {o:HO}
def Step.refl (h:Same F H):Step F H F H:=⟨Same.refl _,Same.refl _,h,fun _ _ e=>.inl e⟩
def Step.trans (a:Step F H F1 H1) (b:Step F1 H1 F' H'):Step F H F' H':=
 ⟨a.hh.trans b.hh,a.ff.trans b.ff,b.fh,fun c o e=>(b.nw c o e).elim (a.nw c o) fun z=>.inr (a.hh.free z)⟩
def Same.upd (hp:H p=none):Same H (upd H p o):=fun b u e=>by
 rw [aG (b9 e hp)]
 exact e
def Step.new (h:Same F H) (hp:H p=none):Step F H (upd F p o) (upd H p o) where
 hh:=Same.upd hp
 ff:=Same.upd (h.free hp)
 fh:=fun b u e=>by
  by_cases hb:b=p
  · subst hb
    rw [aB] at e ⊢
    exact e
  · rw [aG hb] at e ⊢
    exact h _ _ e
 nw:=fun b u e=>by
  by_cases hb:b=p
  · subst hb
    exact .inr hp
  · rw [aG hb] at e
    exact .inl e
def Step.made (h:Same F H) (hp:H p=none):Step F H F (upd H p o) where
 hh:=Same.upd hp
 ff:=Same.refl _
 fh:=h.trans (Same.upd hp)
 nw:=fun b u e=>.inl e
end
inductive Fl where
 | leaf (d:Dt) | lst (l:List Dt) | dct (l:List (Key×Dt)) | dcT (l:List (List Key×Dt))
def Fl.d:Fl->Dt
 | .leaf d=>d
 | .lst l=>.lst l
 | .dct l=>.dct (l.map (·.1)) (l.map (·.2))
 | .dcT l=>.dcT (l.map (·.1)) (l.map (·.2))
inductive T where
 | leaf (d:Dt) | lst (l:List Dt) | dct (l:List (Key×Dt)) | dcT (l:List (List Key×Dt)) | obj (c:Str) (ns:List Str) (l:List Fl) | pin (a:Addr) (t:T)
def T.d:T->Dt
 | .leaf d=>d
 | .lst l=>.lst l
 | .dct l=>.dct (l.map (·.1)) (l.map (·.2))
 | .dcT l=>.dcT (l.map (·.1)) (l.map (·.2))
 | .obj c ns l=>.ins c ns (l.map Fl.d)
 | .pin _ t=>t.d
noncomputable def OwnF (K:PySem.W.Frag) (F H:Hp):Fl->V->(Addr->Prop)->Prop
 | .leaf d,v,_=>Rep K F d v
 | .lst l,v,S=>∃ a vs,v=.ref a/\S a/\H a=some (.lst vs)/\Reps K F l vs
 | .dct l,v,S=>∃ a kvs,v=.ref a/\S a/\H a=some (.dK kvs)/\kvs.map (·.1)=l.map (·.1)/\Reps K F (l.map (·.2)) (kvs.map (·.2))
 | .dcT l,v,S=>∃ a kvs,v=.ref a/\S a/\H a=some (.dT kvs)/\kvs.map (·.1)=l.map (·.1)/\Reps K F (l.map (·.2)) (kvs.map (·.2))
structure OwnFs (K:PySem.W.Frag) (F H:Hp) (l:List Fl) (vs:List V) (a:Addr) (S:Addr->Prop) (Z:Nat->Addr->Prop):Prop where
 len:l.length=vs.length
 own:∀ i f v,l[i]?=some f->vs[i]?=some v->OwnF K F H f v (Z i)
 sub:∀ i b,Z i b->S b/\b≠a
 dis:∀ i j b,Z i b->Z j b->i=j
noncomputable def Own (K:PySem.W.Frag) (F H:Hp):T->V->(Addr->Prop)->Prop
 | .leaf d,v,_=>Rep K F d v
 | .lst l,v,S=>∃ a vs,v=.ref a/\S a/\H a=some (.lst vs)/\Reps K F l vs
 | .dct l,v,S=>∃ a kvs,v=.ref a/\S a/\H a=some (.dK kvs)/\kvs.map (·.1)=l.map (·.1)/\Reps K F (l.map (·.2)) (kvs.map (·.2))
 | .dcT l,v,S=>∃ a kvs,v=.ref a/\S a/\H a=some (.dT kvs)/\kvs.map (·.1)=l.map (·.1)/\Reps K F (l.map (·.2)) (kvs.map (·.2))
 | .obj c ns l,v,S=>∃ a C dx fs Z,v=.ref a/\S a/\ClsAt K c C/\H a=some (.ins C dx fs)/\fs.map (·.1)=ns/\OwnFs K F H l (fs.map (·.2)) a S Z
 | .pin a t,v,S=>v=.ref a/\(∀ d,t≠.leaf d)/\Own K F H t v S
noncomputable def RepB (K:PySem.W.Frag) (F H:Hp):Dt->V->Prop
 | .lst l,v=>∃ a vs,v=.ref a/\SqL K H a vs/\Reps K F l vs
 | .dct ks l,v=>∃ a kvs,v=.ref a/\Rd H a (.dK kvs)/\kvs.map (·.1)=ks/\Reps K F l (kvs.map (·.2))
 | .dcT ks l,v=>∃ a kvs,v=.ref a/\Rd H a (.dT kvs)/\kvs.map (·.1)=ks/\Reps K F l (kvs.map (·.2))
 | .ins c ns l,v=>Rep K H (.ins c ns l) v
 | .non,v=>v=.non
 | .bl b,v=>v=.bl b
 | .int i,v=>v=.int i
 | .str x,v=>v=.str x
 | .tup l,v=>∃ a vs,v=.ref a/\SqT K F a vs/\Reps K F l vs
def OwnF.step {K:PySem.W.Frag} {F H F' H':Hp} {t:Fl} {v:V} {S:Addr->Prop} (ff:Same F F') (hh:∀ b o,S b->H b=some o->H' b=some o) (h:OwnF K F H t v S):OwnF K F' H' t v S:=by
 cases t with
 | leaf d=>exact Rep.same ff h
 | lst l =>
  obtain ⟨a,vs,e,hs,h1,h2⟩:=h
  exact ⟨a,vs,e,hs,hh _ _ hs h1,h2.same ff⟩
 | dct l =>
  obtain ⟨a,vs,e,hs,h1,h2,h3⟩:=h
  exact ⟨a,vs,e,hs,hh _ _ hs h1,h2,h3.same ff⟩
 | dcT l =>
  obtain ⟨a,vs,e,hs,h1,h2,h3⟩:=h
  exact ⟨a,vs,e,hs,hh _ _ hs h1,h2,h3.same ff⟩
def OwnF.rep {K:PySem.W.Frag} {F H G:Hp} {t:Fl} {v:V} {S:Addr->Prop} (ff:Same F G) (hg:∀ b o,S b->H b=some o->G b=some o) (h:OwnF K F H t v S):Rep K G t.d v:=by
 cases t with
 | leaf d=>exact Rep.same ff h
 | lst l =>
  obtain ⟨a,vs,e,q,h1,h2⟩:=h
  simp only [Fl.d,Rep]
  exact ⟨a,vs,e,SqL.of (hg _ _ q h1),h2.same ff⟩
 | dct l =>
  obtain ⟨a,vs,e,q,h1,h2,h3⟩:=h
  simp only [Fl.d,Rep]
  exact ⟨a,vs,e,.inl (hg _ _ q h1),h2,h3.same ff⟩
 | dcT l =>
  obtain ⟨a,vs,e,q,h1,h2,h3⟩:=h
  simp only [Fl.d,Rep]
  exact ⟨a,vs,e,.inl (hg _ _ q h1),h2,h3.same ff⟩
def m5 {K:PySem.W.Frag} {G:Hp}:∀ {l:List Fl} {vs:List V},l.length=vs.length->(∀ (i:Nat) (f:Fl) (v:V),l[i]?=some f->vs[i]?=some v->Rep K G f.d v)->Reps K G (l.map Fl.d) vs
 | [],[],_,_=>by simp [Reps]
 | [],_::_,h,_=>by cases h
 | _::_,[],h,_=>by cases h
 | f::l,v::vs,h,k=>by
  simp only [List.map_cons,Reps]
  exact ⟨v,vs,rfl,k 0 f v rfl rfl,m5 (by simpa using h) fun i f v h1 h2=>k (i+1) f v (by simpa using h1) (by simpa using h2)⟩
def pW {K:PySem.W.Frag} {F H G:Hp} {c:Str} {ns:List Str} {l:List Fl} {v:V} {S:Addr->Prop} (ff:Same F G) (hg:∀ b o,S b->H b=some o->G b=some o) (h:Own K F H (.obj c ns l) v S):Rep K G (.ins c ns (l.map Fl.d)) v:=by
 obtain ⟨a,C,dx,fs,Z,e,hs,hc,h1,h2,h3⟩:=h
 simp only [Rep]
 exact ⟨a,C,dx,fs,e,hc,hg _ _ hs h1,h2,m5 h3.len fun i f v e1 e2=>(h3.own i f v e1 e2).rep ff fun b o z=>hg b o (h3.sub i b z).1⟩
section
variable {K:PySem.W.Frag} {F H F' H':Hp} {t:T} {v:V} {d:Dt} {S:Addr->Prop}
def Own.step (ff:Same F F') (hh:∀ b o,S b->H b=some o->H' b=some o) (h:Own K F H t v S):Own K F' H' t v S:=by
 induction t with
 | leaf d=>exact Rep.same ff h
 | lst l =>
  obtain ⟨a,vs,e,hs,h1,h2⟩:=h
  exact ⟨a,vs,e,hs,hh _ _ hs h1,h2.same ff⟩
 | dct l =>
  obtain ⟨a,vs,e,hs,h1,h2,h3⟩:=h
  exact ⟨a,vs,e,hs,hh _ _ hs h1,h2,h3.same ff⟩
 | dcT l =>
  obtain ⟨a,vs,e,hs,h1,h2,h3⟩:=h
  exact ⟨a,vs,e,hs,hh _ _ hs h1,h2,h3.same ff⟩
 | obj c ns l =>
  obtain ⟨a,C,dx,fs,Z,e,hs,hc,h1,h2,h3⟩:=h
  exact ⟨a,C,dx,fs,Z,e,hs,hc,hh _ _ hs h1,h2,h3.len,fun i f v e1 e2=>(h3.own i f v e1 e2).step ff fun b o z=>hh b o (h3.sub i b z).1,h3.sub,h3.dis⟩
 | pin a t ih=>exact ⟨h.1,h.2.1,ih h.2.2⟩
def Own.grow {S':Addr->Prop} (hs:∀ b,S b->S' b) (h:Own K F H t v S):Own K F H t v S':=by
 induction t with
 | leaf d=>exact h
 | lst l =>
  obtain ⟨a,vs,e,q,h1⟩:=h
  exact ⟨a,vs,e,hs _ q,h1⟩
 | dct l =>
  obtain ⟨a,vs,e,q,h1⟩:=h
  exact ⟨a,vs,e,hs _ q,h1⟩
 | dcT l =>
  obtain ⟨a,vs,e,q,h1⟩:=h
  exact ⟨a,vs,e,hs _ q,h1⟩
 | obj c ns l =>
  obtain ⟨a,C,dx,fs,Z,e,q,hc,h1,h2,h3⟩:=h
  exact ⟨a,C,dx,fs,Z,e,hs _ q,hc,h1,h2,h3.len,h3.own,fun i b z=>⟨hs _ (h3.sub i b z).1,(h3.sub i b z).2⟩,h3.dis⟩
 | pin a t ih=>exact ⟨h.1,h.2.1,ih h.2.2⟩
def RepB.of (fh:Same F H) (h:Rep K F d v):RepB K F H d v:=by
 cases d with
 | lst l =>
  simp only [Rep] at h
  obtain ⟨a,vs,e,h1,h2⟩:=h
  exact ⟨a,vs,e,fh.seq h1,h2⟩
 | dct ks l =>
  simp only [Rep] at h
  obtain ⟨a,vs,e,h1,h2⟩:=h
  exact ⟨a,vs,e,fh.rd h1,h2⟩
 | dcT ks l =>
  simp only [Rep] at h
  obtain ⟨a,vs,e,h1,h2⟩:=h
  exact ⟨a,vs,e,fh.rd h1,h2⟩
 | tup l =>
  simp only [Rep] at h
  exact h
 | ins c ns l=>exact Rep.same fh h
 | _ =>
  simp only [Rep] at h
  exact h
def RepB.rep (fh:Same F H) (h:RepB K F H d v):Rep K H d v:=by
 cases d with
 | lst l =>
  obtain ⟨a,vs,e,h1,h2⟩:=h
  simp only [Rep]
  exact ⟨a,vs,e,h1,h2.same fh⟩
 | dct ks l =>
  obtain ⟨a,vs,e,h1,h2,h3⟩:=h
  simp only [Rep]
  exact ⟨a,vs,e,h1,h2,h3.same fh⟩
 | dcT ks l =>
  obtain ⟨a,vs,e,h1,h2,h3⟩:=h
  simp only [Rep]
  exact ⟨a,vs,e,h1,h2,h3.same fh⟩
 | tup l =>
  obtain ⟨a,vs,e,h1,h2⟩:=h
  simp only [Rep]
  exact ⟨a,vs,e,fh.tup h1,h2.same fh⟩
 | ins c ns l=>exact h
 | _ =>
  simp only [Rep]
  exact h
def RepB.step (ff:Same F F') (hh:Same H H') (h:RepB K F H d v):RepB K F' H' d v:=by
 cases d with
 | lst l =>
  obtain ⟨a,vs,e,h1,h2⟩:=h
  exact ⟨a,vs,e,hh.seq h1,h2.same ff⟩
 | dct ks l =>
  obtain ⟨a,vs,e,h1,h2,h3⟩:=h
  exact ⟨a,vs,e,hh.rd h1,h2,h3.same ff⟩
 | dcT ks l =>
  obtain ⟨a,vs,e,h1,h2,h3⟩:=h
  exact ⟨a,vs,e,hh.rd h1,h2,h3.same ff⟩
 | tup l =>
  obtain ⟨a,vs,e,h1,h2⟩:=h
  exact ⟨a,vs,e,ff.tup h1,h2.same ff⟩
 | ins c ns l=>exact Rep.same hh h
 | _=>exact h
def Own.repB (fh:Same F H) (h:Own K F H t v S):RepB K F H t.d v:=by
 induction t with
 | leaf d=>exact RepB.of fh h
 | lst l =>
  obtain ⟨a,vs,e,_,h1,h2⟩:=h
  exact ⟨a,vs,e,SqL.of h1,h2⟩
 | dct l =>
  obtain ⟨a,vs,e,_,h1,h2⟩:=h
  exact ⟨a,vs,e,.inl h1,h2⟩
 | dcT l =>
  obtain ⟨a,vs,e,_,h1,h2⟩:=h
  exact ⟨a,vs,e,.inl h1,h2⟩
 | obj c ns l=>exact pW fh (fun _ _ _ e=>e) h
 | pin a t ih=>exact ih h.2.2
open Classical in
def ra (F H:Hp) (S:Addr->Prop):Hp:=fun b=>if S b then H b else F b
def hV {b:Addr} (h:S b):ra F H S b=H b:=if_pos h
def jA {b:Addr} (h:¬ S b):ra F H S b=F b:=if_neg h
def pX (hs:∀ b,S b->F b=none):Same F (ra F H S):=fun b o e=>by
 have:¬ S b:=fun z=>by rw [hs b z] at e;cases e
 rw [jA this]
 exact e
def vq (fh:Same F H):Same (ra F H S) H:=fun b o e=>by
 by_cases h:S b
 · rw [hV h] at e
   exact e
 · rw [jA h] at e
   exact fh _ _ e
def Own.freeze (hs:∀ b,S b->F b=none) (h:Own K F H t v S):Rep K (ra F H S) t.d v:=by
 have ff:=pX (H:=H) hs
 induction t with
 | leaf d=>exact Rep.same ff h
 | lst l =>
  obtain ⟨a,vs,e,q,h1,h2⟩:=h
  simp only [T.d,Rep]
  exact ⟨a,vs,e,SqL.of (by rw [hV q];exact h1),h2.same ff⟩
 | dct l =>
  obtain ⟨a,vs,e,q,h1,h2,h3⟩:=h
  simp only [T.d,Rep]
  exact ⟨a,vs,e,.inl (by rw [hV q];exact h1),h2,h3.same ff⟩
 | dcT l =>
  obtain ⟨a,vs,e,q,h1,h2,h3⟩:=h
  simp only [T.d,Rep]
  exact ⟨a,vs,e,.inl (by rw [hV q];exact h1),h2,h3.same ff⟩
 | obj c ns l=>exact pW ff (fun b o z e=>by rw [hV z];exact e) h
 | pin a t ih=>exact ih h.2.2
end
abbrev Ix:=Nat
abbrev De:=List (Option T)
structure Sep (K:PySem.W.Frag) (F H:Hp) (B:Addr->Prop) (L:Ix->Option (T×V)) (S:Ix->Addr->Prop):Prop where
 own:∀ i t v,L i=some (t,v)->Own K F H t v (S i)
 out:∀ i b,S i b->F b=none/\(∃ o,H b=some o)/\B b
 dis:∀ i j b,S i b->S j b->i=j
def kG (δ:De) (σ:St) (i:Nat):Option (T×V):=match δ[i]?,σ[i]? with
 | some (some t),some (some v)=>some (t,v)
 | _,_=>none
structure Fm where
 K:PySem.W.Frag
 F0:Hp
 H0:Hp
 S0:Addr->Prop
def Fm.B (Φ:Fm) (b:Addr):Prop:=Φ.H0 b=none∨Φ.S0 b
structure En (Φ:Fm) (δ:De) (σ:St) (F H:Hp):Prop where
 fh:Same F H
 prot:∀ b o,Φ.H0 b=some o->¬ Φ.S0 b->H b=some o
 old:Same Φ.F0 F
 nw:∀ b o,F b=some o->Φ.F0 b=some o∨Φ.B b
 len:δ.length=σ.length
 has:∀ (i:Nat) (t:T),δ[i]?=some (some t)->∃ v,σ[i]?=some (some v)
 sep:∃ S,Sep Φ.K F H Φ.B (kG δ σ) S
section
variable {Φ:Fm} {δ:De} {σ:St} {F H F' H':Hp}
def dk {i:Nat} {t:T} {v:V} (h1:δ[i]?=some (some t)) (h2:σ[i]?=some (some v)):kG δ σ i=some (t,v):=by
 unfold kG
 rw [h1,h2]
def fW {i:Nat} {t:T} {v:V} (h:kG δ σ i=some (t,v)):δ[i]?=some (some t)/\σ[i]?=some (some v):=by
 unfold kG at h
 split at h
 · rename_i e1 e2
   cases h
   exact ⟨e1,e2⟩
 · cases h
def En.fresh (e:En Φ δ σ F H) {p:Addr} (hp:H p=none):Φ.B p:=by
 by_cases h:Φ.S0 p
 · exact .inr h
 · left
   cases q:Φ.H0 p with
   | none=>rfl
   | some o=>rw [e.prot p o q h] at hp;cases hp
def Sep.step {K:PySem.W.Frag} {B:Addr->Prop} {L:Ix->Option (T×V)} {S:Ix->Addr->Prop} (s:Sep K F H B L S) (st:Step F H F' H'):Sep K F' H' B L S where
 own:=fun i t v h=>(s.own i t v h).step st.ff fun b o _ e=>st.hh b o e
 out:=fun i b h=>by
  obtain ⟨h1,⟨o,h2⟩,h3⟩:=s.out i b h
  refine ⟨?_,⟨o,st.hh _ _ h2⟩,h3⟩
  cases q:F' b with
  | none=>rfl
  | some o' =>
   rcases st.nw b o' q with z | z
   · rw [h1] at z;cases z
   · rw [h2] at z;cases z
 dis:=s.dis
def En.step (e:En Φ δ σ F H) (st:Step F H F' H'):En Φ δ σ F' H' where
 fh:=st.fh
 prot:=fun b o h1 h2=>st.hh _ _ (e.prot b o h1 h2)
 old:=e.old.trans st.ff
 nw:=fun b o h=>by
  rcases st.nw b o h with z | z
  · exact e.nw b o z
  · exact .inr (e.fresh z)
 len:=e.len
 has:=e.has
 sep:=let ⟨S,s⟩:=e.sep;⟨S,s.step st⟩
def En.slot (e:En Φ δ σ F H) {i:Nat} {t:T} (h:δ[i]?=some (some t)):∃ v,σ[i]?=some (some v)/\RepB Φ.K F H t.d v:=by
 obtain ⟨v,hv⟩:=e.has i t h
 obtain ⟨S,s⟩:=e.sep
 exact ⟨v,hv,(s.own i t v (dk h hv)).repB e.fh⟩
def En.leaf (e:En Φ δ σ F H) {i:Nat} {d:Dt} (h:δ[i]?=some (some (.leaf d))):∃ v,σ[i]?=some (some v)/\Rep Φ.K F d v:=by
 obtain ⟨v,hv⟩:=e.has i _ h
 obtain ⟨S,s⟩:=e.sep
 exact ⟨v,hv,s.own i _ v (dk h hv)⟩
def fC {α:Type} {l:List (Option α)} {i j:Nat} {x y:Option α} (h:(l.set i x)[j]?=some y):(i=j/\y=x)∨(i≠j/\l[j]?=some y):=by
 by_cases hij:i=j
 · subst hij
   left
   rw [List.getElem?_set] at h
   simp only [if_true] at h
   split at h
   · cases h;exact ⟨rfl,rfl⟩
   · cases h
 · right
   rw [gN hij] at h
   exact ⟨hij,h⟩
def En.put (e:En Φ δ σ F H) {t:T} {v:V} {S':Addr->Prop} (st:Step F H F' H') (ho:Own Φ.K F' H' t v S') (hs:∀ b,S' b->F' b=none/\H b=none/\∃ o,H' b=some o) (i:Nat):En Φ (δ.set i (some t)) (σ.set i (some v)) F' H':=by
 have e':=e.step st
 obtain ⟨S,s⟩:=e.sep
 have s':=s.step st
 refine ⟨e'.fh,e'.prot,e'.old,e'.nw,by simp [e.len],fun j u h=>?_,fun j b=>if j=i then S' b else S j b,?_,?_,?_⟩
 · rcases fC h with ⟨rfl,z⟩ | ⟨hn,z⟩
   · have hi:i<σ.length:=by
      rw [<- e.len]
      have:=(gX h).1
      simpa using this
     exact ⟨v,by simp [hi]⟩
   · obtain ⟨w,hw⟩:=e.has j u z
     exact ⟨w,by rw [gN hn];exact hw⟩
 · intro j u w h
   obtain ⟨h1,h2⟩:=fW h
   rcases fC h1 with ⟨rfl,z⟩ | ⟨hn,z⟩
   · rcases fC h2 with ⟨_,z2⟩ | ⟨hn2,_⟩
     · cases z
       cases z2
       show Own _ _ _ _ _ (fun b=>if i=i then S' b else S i b)
       simp only [if_true]
       exact ho
     · exact absurd rfl hn2
   · rcases fC h2 with ⟨z2,_⟩ | ⟨_,z2⟩
     · exact absurd z2 hn
     · have:¬ j=i:=fun q=>hn q.symm
       show Own _ _ _ _ _ (fun b=>if j=i then S' b else S j b)
       simp only [if_neg this]
       exact s'.own j u w (dk z z2)
 · intro j b h
   split at h
   · obtain ⟨h1,h2,h3⟩:=hs b h
     exact ⟨h1,h3,e.fresh h2⟩
   · exact s'.out _ b h
 · have old:∀ j b,S j b->¬ S' b:=fun j b h z=>by
    obtain ⟨_,⟨o,h2⟩,_⟩:=s.out j b h
    rw [(hs b z).2.1] at h2
    cases h2
   intro j k b hj hk
   split at hj<;>split at hk
   · rename_i q1 q2
     rw [q1,q2]
   · exact absurd hj (old _ b hk)
   · exact absurd hk (old _ b hj)
   · exact s.dis _ _ b hj hk
def rb {K:PySem.W.Frag} {t:T} {a:Addr} {S:Addr->Prop} (ht:∀ d,t≠.leaf d) (h:Own K F H t (.ref a) S):S a:=by
 induction t with
 | leaf d=>exact absurd rfl (ht d)
 | lst l=>obtain ⟨b,_,e,q,_⟩:=h;cases e;exact q
 | dct l=>obtain ⟨b,_,e,q,_⟩:=h;cases e;exact q
 | dcT l=>obtain ⟨b,_,e,q,_⟩:=h;cases e;exact q
 | obj c ns l=>obtain ⟨b,_,_,_,_,e,q,_⟩:=h;cases e;exact q
 | pin b t ih=>exact ih h.2.1 h.2.2
def En.poke (e:En Φ δ σ F H) {i:Nat} {t t':T} {a:Addr} {o:HO} (h:δ[i]?=some (some t)) (hv:σ[i]?=some (some (.ref a))) (ht:∀ d,t≠.leaf d) (ho:∀ S:Addr->Prop,S a->Own Φ.K F (upd H a o) t' (.ref a) S) :
  En Φ (δ.set i (some t')) σ F (upd H a o):=by
 obtain ⟨S,s⟩:=e.sep
 have sa:S i a:=rb ht (s.own i t _ (dk h hv))
 obtain ⟨fa,⟨oa,ha⟩,ba⟩:=s.out _ a sa
 have hi:i<δ.length:=(gX h).1
 refine ⟨fun b u z=>?_,fun b u h1 h2=>?_,e.old,e.nw,by simp [e.len],fun j u z=>?_,S,fun j u w z=>?_,fun j b z=>?_,s.dis⟩
 · have:b≠a:=fun q=>by rw [q,fa] at z;cases z
   rw [aG this]
   exact e.fh _ _ z
 · have:b≠a:=fun q=>by
    subst q
    rcases ba with z | z
    · rw [z] at h1;cases h1
    · exact h2 z
   rw [aG this]
   exact e.prot b u h1 h2
 · rcases fC z with ⟨rfl,_⟩ | ⟨hn,z⟩
   · exact ⟨_,hv⟩
   · exact e.has j u z
 · obtain ⟨h1,h2⟩:=fW z
   rcases fC h1 with ⟨rfl,z1⟩ | ⟨hn,z1⟩
   · cases z1
     rw [hv] at h2
     cases h2
     exact ho _ sa
   · refine (s.own j u w (dk z1 h2)).step (Same.refl _) fun b q hb hq=>?_
     have:b≠a:=fun y=>by
      subst y
      exact hn (s.dis _ _ _ hb sa).symm
     rw [aG this]
     exact hq
 · obtain ⟨h1,⟨q,h2⟩,h3⟩:=s.out j b z
   refine ⟨h1,?_,h3⟩
   by_cases y:b=a
   · subst y
     exact ⟨o,aB⟩
   · exact ⟨q,by rw [aG y];exact h2⟩
end
def KO (K:PySem.W.Frag) (F H:Hp) (t:T) (Q:VK):Prop:=∀ v H' F' S,Step F H F' H'->Own K F' H' t v S->(∀ b,S b->F' b=none/\H b=none/\∃ o,H' b=some o)->Q v H'
def KL (K:PySem.W.Frag) (F H:Hp) (d:Dt) (Q:VK):Prop:=∀ v H' F',Step F H F' H'->Rep K F' d v->Q v H'
def KB (K:PySem.W.Frag) (F H:Hp) (d:Dt) (Q:VK):Prop:=∀ v H' F',Step F H F' H'->RepB K F' H' d v->Q v H'
section
variable {K:PySem.W.Frag} {F H F1 H1:Hp} {t:T} {d:Dt} {Q:VK}
def KO.step (k:KO K F H t Q) (st:Step F H F1 H1):KO K F1 H1 t Q:=fun v H' F' S s o hs=>k v H' F' S (st.trans s) o fun b z=>⟨(hs b z).1,st.hh.free (hs b z).2.1,(hs b z).2.2⟩
def KO.leaf (k:KO K F H (.leaf d) Q):KL K F H d Q:=fun v H' F' st r=>k v H' F' (fun _=>False) st r fun _ z=>z.elim
def KL.here (k:KL K F H d Q) (fh:Same F H) {v:V} (r:Rep K F d v):Q v H:=k v H F (Step.refl fh) r
def KB.to (k:KB K F H d Q):KL K F H d Q:=fun v H' F' st r=>k v H' F' st (RepB.of st.fh r)
def KL.to (k:KL K F H t.d Q):KO K F H t Q:=fun v H' F' S st o hs=>by
 refine k v H' (ra F' H' S) ⟨st.hh,st.ff.trans (pX fun b z=>(hs b z).1),vq st.fh,fun b u z=>?_⟩ (o.freeze fun b z=>(hs b z).1)
 by_cases hb:S b
 · exact .inr (hs b hb).2.1
 · rw [jA hb] at z
   exact st.nw b u z
def KB.toO (k:KB K F H t.d Q):KO K F H t Q:=fun v H' F' S st o hs=>k v H' F' st (o.repB st.fh)
end
def tO (K:PySem.W.Frag) (f:De->Option T):TE:=fun σ H Q=>∃ Φ δ F t,Fm.K Φ=K/\En Φ δ σ F H/\f δ=some t/\KO K F H t Q
def tL (K:PySem.W.Frag) (f:De->Option Dt):TE:=fun σ H Q=>∃ Φ δ F d,Fm.K Φ=K/\En Φ δ σ F H/\f δ=some d/\KL K F H d Q
def tBd (K:PySem.W.Frag) (f:De->Option Dt):TE:=fun σ H Q=>∃ Φ δ F d,Fm.K Φ=K/\En Φ δ σ F H/\f δ=some d/\KB K F H d Q
def tTr (K:PySem.W.Frag) (f:De->Option Bool):TT:=fun σ H Q=>∃ Φ δ F b,Fm.K Φ=K/\En Φ δ σ F H/\f δ=some b/\∀ H' F',Step F H F' H'->Q b H'
def DO (X:Cx) (e:Expr) (f:De->Option T):Prop:=PE X e (tO X.K f)
def DL (X:Cx) (e:Expr) (f:De->Option Dt):Prop:=PE X e (tL X.K f)
def DB (X:Cx) (e:Expr) (f:De->Option Dt):Prop:=PE X e (tBd X.K f)
def DT (X:Cx) (e:Expr) (f:De->Option Bool):Prop:=PT X e (tTr X.K f)
def DW (X:Cx) (e:Expr) (f:De->Option Bool):Prop:=PW X e (tTr X.K f)
def PE.mono {X:Cx} {e:Expr} {t t':TE} (h:PE X e t) (m:∀ σ H Q,t' σ H Q->t σ H Q):PE X e t':=fun pins s σ H Q I q=>h pins s σ H Q I (m _ _ _ q)
def PT.mono {X:Cx} {e:Expr} {t t':TT} (h:PT X e t) (m:∀ σ H Q,t' σ H Q->t σ H Q):PT X e t':=fun pins s σ H Q I q=>h pins s σ H Q I (m _ _ _ q)
def PW.mono {X:Cx} {e:Expr} {t t':TT} (h:PW X e t) (m:∀ σ H Q,t' σ H Q->t σ H Q):PW X e t':=fun whole pins s σ H Q I q=>h whole pins s σ H Q I (m _ _ _ q)
def PA.mono {X:Cx} {e:List Expr} {t t':TA} (h:PA X e t) (m:∀ σ H Q,t' σ H Q->t σ H Q):PA X e t':=fun pos pins s σ H Q I q=>h pos pins s σ H Q I (m _ _ _ q)
def PI.mono {X:Cx} {tg e:Expr} {t t':TI} (h:PI X tg e t) (m:∀ σ H Q,t' σ H Q->t σ H Q):PI X tg e t':=fun pins s σ H Q I q=>h pins s σ H Q I (m _ _ _ q)
def PG.mono {X:Cx} {e:Expr} {t t':TG} (h:PG X e t) (m:∀ v σ H Q,t' v σ H Q->t v σ H Q):PG X e t':=fun pins s σ H v u Q I r q=>h pins s σ H v u Q I r (m _ _ _ _ q)
def PS.mono {X:Cx} {e:Stmt} {t t':TS} (h:PS X e t) (m:∀ D σ H,t' D σ H->t D σ H):PS X e t':=fun pins s σ H Q I q=>h pins s σ H Q I (m _ _ _ q)
def PSs.mono {X:Cx} {e:List Stmt} {t t':TS} (h:PSs X e t) (m:∀ D σ H,t' D σ H->t D σ H):PSs X e t':=fun pins s σ H Q I q=>h pins s σ H Q I (m _ _ _ q)
def PE.or {X:Cx} {e:Expr} {t t':TE} (h:PE X e t) (h':PE X e t'):PE X e (fun σ H Q=>t σ H Q∨t' σ H Q):=fun pins s σ H Q I q=>q.elim (h pins s σ H Q I) (h' pins s σ H Q I)
def PI.or {X:Cx} {tg e:Expr} {t t':TI} (h:PI X tg e t) (h':PI X tg e t'):PI X tg e (fun σ H Q=>t σ H Q∨t' σ H Q):=fun pins s σ H Q I q=>q.elim (h pins s σ H Q I) (h' pins s σ H Q I)
section
variable {X:Cx} {e a b c:Expr} {f:De->Option T} {g fa fb fc:De->Option Dt} {pos:Pos}
def toD (f:De->Option T):De->Option Dt:=fun δ=>(f δ).map T.d
def toT (f:De->Option Dt):De->Option T:=fun δ=>(f δ).map T.leaf
def DO.toL (h:DO X e f):DL X e (toD f):=PE.mono h fun σ H Q ⟨Φ,δ,F,d,hK,en,hf,k⟩=>by
 unfold toD at hf
 cases ht:f δ with
 | none=>rw [ht] at hf;cases hf
 | some t =>
  rw [ht] at hf
  cases hf
  exact ⟨Φ,δ,F,t,hK,en,ht,k.to⟩
def DO.toB (h:DO X e f):DB X e (toD f):=PE.mono h fun σ H Q ⟨Φ,δ,F,d,hK,en,hf,k⟩=>by
 unfold toD at hf
 cases ht:f δ with
 | none=>rw [ht] at hf;cases hf
 | some t =>
  rw [ht] at hf
  cases hf
  exact ⟨Φ,δ,F,t,hK,en,ht,k.toO⟩
def DL.toB (h:DL X e g):DB X e g:=PE.mono h fun σ H Q ⟨Φ,δ,F,d,hK,en,hf,k⟩=>⟨Φ,δ,F,d,hK,en,hf,k.to⟩
def DL.toO (h:DL X e g):DO X e (toT g):=PE.mono h fun σ H Q ⟨Φ,δ,F,t,hK,en,hf,k⟩=>by
 unfold toT at hf
 cases hd:g δ with
 | none=>rw [hd] at hf;cases hf
 | some d =>
  rw [hd] at hf
  cases hf
  exact ⟨Φ,δ,F,d,hK,en,hd,k.leaf⟩
def vL (i:Nat):De->Option Dt:=fun δ=>match δ[i]? with
 | some (some (.leaf d))=>some d
 | _=>none
def vB (i:Nat):De->Option Dt:=fun δ=>match δ[i]? with
 | some (some t)=>some t.d
 | _=>none
def ar {i:Nat} (h:PE X e (mM i)):DL X e (vL i):=PE.mono h fun σ H Q ⟨Φ,δ,F,d,hK,en,hf,k⟩=>by
 unfold vL at hf
 split at hf
 · rename_i q
   cases hf
   obtain ⟨v,h1,h2⟩:=en.leaf q
   exact ⟨v,h1,k.here en.fh (hK▸h2)⟩
 · cases hf
def av {i:Nat} (h:PE X e (mM i)):DB X e (vB i):=PE.mono h fun σ H Q ⟨Φ,δ,F,d,hK,en,hf,k⟩=>by
 unfold vB at hf
 split at hf
 · rename_i q
   cases hf
   obtain ⟨v,h1,h2⟩:=en.slot q
   exact ⟨v,h1,k v H F (Step.refl en.fh) (hK▸h2)⟩
 · cases hf
def kD (d:Dt):De->Option Dt:=fun _=>some d
def vt {v:V} {d:Dt} (h:PE X e (tC v)) (r:∀ F,Rep X.K F d v):DL X e (kD d):=PE.mono h fun σ H Q ⟨Φ,δ,F,d',hK,en,hf,k⟩=>by
 cases hf
 exact k.here en.fh (r F)
def aj {i:Int} {j}:DL X (.Constant (.int i) j pos) (kD (.int i)):=vt xu fun F=>by simp only [Rep]
def fX {i:Bool} {j}:DL X (.Constant (.bool i) j pos) (kD (.bl i)):=vt yR fun F=>by simp only [Rep]
def jB {j}:DL X (.Constant .none j pos) (kD .non):=vt xv fun F=>by simp only [Rep]
def bC {x:Str} {j}:DL X (.Constant (.str x) j pos) (kD (.str x)):=vt xw fun F=>by simp only [Rep]
def R2D (K:PySem.W.Frag) (r:R2) (g:Dt->Dt->Option T):Prop:=∀ F H x y vx vy (Q:VK) t,Same F H->RepB K F H x vx->RepB K F H y vy->g x y=some t->KO K F H t Q->r vx vy H Q
def d2 (g:Dt->Dt->Option T) (fa fb:De->Option Dt):De->Option T:=fun δ=>(fa δ).bind fun x=>(fb δ).bind fun y=>g x y
def pY {K:PySem.W.Frag} {r:R2} {g:Dt->Dt->Option T} (hr:R2D K r g) {σ:St} {H:Hp} {Q:VK} (h:tO K (d2 g fa fb) σ H Q):tOp r (tBd K fa) (tBd K fb) σ H Q:=by
 obtain ⟨Φ,δ,F,t,hK,en,hf,k⟩:=h
 unfold d2 at hf
 obtain ⟨x,hx,hf⟩:=bS hf
 obtain ⟨y,hy,hf⟩:=bS hf
 exact ⟨Φ,δ,F,x,hK,en,hx,fun v H1 F1 st rv=>⟨Φ,δ,F1,y,hK,en.step st,hy,fun v2 H2 F2 st2 rv2=>hr F2 H2 x y v v2 Q t st2.fh (rv.step st2.ff st2.hh) rv2 hf (k.step (st.trans st2))⟩⟩
def aS {op:Operator} {r:R2} {g:Dt->Dt->Option T} (ho:OpR X (binaryOp op) r) (hr:R2D X.K r g) (ha:DB X a fa) (hb:DB X b fb):DO X (.BinOp a op b pos) (d2 g fa fb):=PE.mono (px ho ha hb) fun σ H Q h=>pY hr h
def lV {op:CmpOp} {r:R2} {g:Dt->Dt->Option T} (ho:OpR X (compareOp op) r) (hr:R2D X.K r g) (ha:DB X a fa) (hb:DB X b fb) (hm:behindInMarks op b=false):DO X (.Compare a [op] [b] pos) (d2 g fa fb):=PE.mono (pE ho ha hb hm) fun σ H Q h=>pY hr h
def asB:T->Option Bool
 | .leaf (.bl b)=>some b
 | _=>none
def tB2 (g:Dt->Dt->Option T) (fa fb:De->Option Dt):De->Option Bool:=fun δ=>(d2 g fa fb δ).bind asB
def vv {K:PySem.W.Frag} {F H:Hp} {t:T} {v:V} {S:Addr->Prop} {b:Bool} (h:asB t=some b) (o:Own K F H t v S):v=.bl b:=by
 unfold asB at h
 split at h
 · cases h
   have o:Rep K F (.bl b) v:=o
   simp only [Rep] at o
   exact o
 · cases h
def dN {op:CmpOp} {r:R2} {g:Dt->Dt->Option T} (ho:OpR X (compareOp op) r) (hr:R2D X.K r g) (ha:DB X a fa) (hb:DB X b fb) (hm:behindInMarks op b=false):DT X (.Compare a [op] [b] pos) (tB2 g fa fb):=PT.mono (pF ho ha hb hm) fun σ H Q ⟨Φ,δ,F,t,hK,en,hf,k⟩=>by
 unfold tB2 at hf
 obtain ⟨z,hz,hf⟩:=bS hf
 refine pY hr ⟨Φ,δ,F,z,hK,en,hz,fun v H' F' S st o hs=>?_⟩
 exact ⟨t,vv hf o,k H' F' st⟩
def sN:Dt->Option Bool
 | .non=>some false
 | .bl b=>some b
 | .int i=>some (i != 0)
 | .str x=>if x.length<=sizeLine then some ((x.length:Int) != 0) else none
 | .tup l=>some (!l.isEmpty)
 | .lst l=>some (!l.isEmpty)
 | _=>none
def oE (f:De->Option Dt):De->Option Bool:=fun δ=>(f δ).bind sN
def hW {K:PySem.W.Frag} {F:Hp} {l:List Dt} {vs:List V} (h:Reps K F l vs):l.isEmpty=vs.isEmpty:=by
 cases l with
 | nil=>unfold Reps at h;rw [h];rfl
 | cons d l=>unfold Reps at h;obtain ⟨v,ws,rfl,_⟩:=h;rfl
def pZ {K:PySem.W.Frag} {F H:Hp} {d:Dt} {v:V} {b:Bool} (fh:Same F H) (h:RepB K F H d v) (hb:sN d=some b):xI K v H b:=by
 cases d with
 | non=>cases h;cases hb;rfl
 | bl x=>cases h;cases hb;rfl
 | int x=>cases h;cases hb;rfl
 | str x =>
  cases h
  simp only [sN] at hb
  split at hb
  · cases hb;exact ⟨by assumption,rfl⟩
  · cases hb
 | tup l =>
  obtain ⟨a,vs,rfl,h1,h2⟩:=h
  cases hb
  exact .inr (.inl ⟨vs,fh.tup h1,by rw [hW h2]⟩)
 | lst l =>
  obtain ⟨a,vs,rfl,h1,h2⟩:=h
  cases hb
  exact .inl ⟨vs,h1,by rw [hW h2]⟩
 | dct ks l=>cases hb
 | dcT ks l=>cases hb
 | ins c ns l=>cases hb
def fY (ha:DB X a fa) (he:∀ whole,isTrue a X.env whole=(do let v <- whole;standAt a.pos;holding [v] (truthy v))):DT X a (oE fa):=PT.mono (mP ha he) fun σ H Q ⟨Φ,δ,F,b,hK,en,hf,k⟩=>by
 unfold oE at hf
 obtain ⟨d,hd,hf⟩:=bS hf
 exact ⟨Φ,δ,F,d,hK,en,hd,fun v H' F' st r=>⟨b,pZ st.fh r hf,k H' F' st⟩⟩
def vz (f:De->Option Bool):De->Option Bool:=fun δ=>(f δ).map (!·)
def sO (f g:De->Option Bool):De->Option Bool:=fun δ=>(f δ).bind fun b=>if b then g δ else some false
def fOr (f g:De->Option Bool):De->Option Bool:=fun δ=>(f δ).bind fun b=>if b then some true else g δ
variable {ta tb tc:De->Option Bool} {rest:List Expr}
def sP (h:DT X a ta):DT X (.UnaryOp .Not a pos) (vz ta):=PT.mono (rS h) fun σ H Q ⟨Φ,δ,F,b,hK,en,hf,k⟩=>by
 unfold vz at hf
 cases q:ta δ with
 | none=>rw [q] at hf;cases hf
 | some c =>
  rw [q] at hf
  cases hf
  exact ⟨Φ,δ,F,c,hK,en,q,fun H' F' st=>k H' F' st⟩
def vA (h:DT X a ta):DW X (.BoolOp .And [a] pos) ta:=uZ h
def sQ (h:DT X a ta):DW X (.BoolOp .Or [a] pos) ta:=rR h
def xY (h:DT X a ta) (h':DW X (.BoolOp .And (b::rest) pos) tb):DW X (.BoolOp .And (a::b::rest) pos) (sO ta tb):=PW.mono (xx h h') fun σ H Q ⟨Φ,δ,F,t,hK,en,hf,k⟩=>by
 unfold sO at hf
 obtain ⟨c,hc,hf⟩:=bS hf
 refine ⟨Φ,δ,F,c,hK,en,hc,fun H' F' st=>?_⟩
 split at hf
 · rename_i q
   rw [if_pos q]
   exact ⟨Φ,δ,F',t,hK,en.step st,hf,fun H2 F2 s2=>k H2 F2 (st.trans s2)⟩
 · rename_i q
   rw [if_neg q]
   cases hf
   exact k H' F' st
def wV (h:DT X a ta) (h':DW X (.BoolOp .Or (b::rest) pos) tb):DW X (.BoolOp .Or (a::b::rest) pos) (fOr ta tb):=PW.mono (wF h h') fun σ H Q ⟨Φ,δ,F,t,hK,en,hf,k⟩=>by
 unfold fOr at hf
 obtain ⟨c,hc,hf⟩:=bS hf
 refine ⟨Φ,δ,F,c,hK,en,hc,fun H' F' st=>?_⟩
 split at hf
 · rename_i q
   rw [if_pos q]
   cases hf
   exact k H' F' st
 · rename_i q
   rw [if_neg q]
   exact ⟨Φ,δ,F',t,hK,en.step st,hf,fun H2 F2 s2=>k H2 F2 (st.trans s2)⟩
def DW.t (h:DW X a ta):DT X a ta:=h.pt
def oF:Dt->Option Bool
 | .bl b=>some b
 | _=>none
def xZ (f:De->Option Dt):De->Option T:=fun δ=>(f δ).bind fun x=>(oF x).map fun b=>.leaf (.bl (!b))
def rc (f:De->Option Dt) (g:De->Option T):De->Option T:=fun δ=>(f δ).bind fun x=>(oF x).bind fun b=>if b then g δ else some (.leaf (.bl false))
def p4 {K:PySem.W.Frag} {F H:Hp} {x:Dt} {v:V} {b:Bool} (h:oF x=some b) (r:RepB K F H x v):v=.bl b:=by
 unfold oF at h
 split at h
 · cases h;exact r
 · cases h
def oG {K:PySem.W.Frag} {F:Hp} {b:Bool}:Rep K F (.bl b) (.bl b):=by simp only [Rep]
def jd {K:PySem.W.Frag} {F:Hp} {b:Int}:Rep K F (.int b) (.int b):=by simp only [Rep]
def je {K:PySem.W.Frag} {F:Hp} {b:Str}:Rep K F (.str b) (.str b):=by simp only [Rep]
def p5 {K:PySem.W.Frag} {F:Hp}:Rep K F .non .non:=by simp only [Rep]
variable {oa ob:De->Option T}
def ya (h:DB X a fa):DO X (.UnaryOp .Not a pos) (xZ fa):=PE.mono (xA h) fun σ H Q ⟨Φ,δ,F,t,hK,en,hf,k⟩=>by
 unfold xZ at hf
 obtain ⟨x,hx,hf⟩:=bS hf
 cases q:oF x with
 | none=>rw [q] at hf;cases hf
 | some b =>
  rw [q] at hf
  cases hf
  exact ⟨Φ,δ,F,x,hK,en,hx,fun v H' F' st r=>⟨b,p4 q r,(k.step st).leaf.here st.fh oG⟩⟩
def yb {op} (h:DO X a oa):DO X (.BoolOp op [a] pos) oa:=xy h
def sR (h:DB X a fa) (h':DO X (.BoolOp .And (b::rest) pos) ob):DO X (.BoolOp .And (a::b::rest) pos) (rc fa ob):=PE.mono (xz h h') fun σ H Q ⟨Φ,δ,F,t,hK,en,hf,k⟩=>by
 unfold rc at hf
 obtain ⟨x,hx,hf⟩:=bS hf
 obtain ⟨b,hb,hf⟩:=bS hf
 refine ⟨Φ,δ,F,x,hK,en,hx,fun v H' F' st r=>⟨b,p4 hb r,?_⟩⟩
 split at hf
 · rename_i q
   rw [if_pos q]
   exact ⟨Φ,δ,F',t,hK,en.step st,hf,k.step st⟩
 · rename_i q
   rw [if_neg q]
   cases hf
   exact (k.step st).leaf.here st.fh oG
def kH (K:PySem.W.Frag) (F H:Hp):List Dt->List V->Prop
 | [],vs=>vs=[]
 | d::l,vs=>∃ v ws,vs=v::ws/\RepB K F H d v/\kH K F H l ws
def tAL (K:PySem.W.Frag) (f:De->Option (List Dt)):TA:=fun σ H Q=>∃ Φ δ F ds,Fm.K Φ=K/\En Φ δ σ F H/\f δ=some ds/\∀ vs H' F',Step F H F' H'->Reps K F' ds vs->Q vs H'
def tAB (K:PySem.W.Frag) (f:De->Option (List Dt)):TA:=fun σ H Q=>∃ Φ δ F ds,Fm.K Φ=K/\En Φ δ σ F H/\f δ=some ds/\∀ vs H' F',Step F H F' H'->kH K F' H' ds vs->Q vs H'
structure DA (X:Cx) (es:List Expr) (f:De->Option (List Dt)):Prop where
 len:∀ δ ds,f δ=some ds->ds.length=es.length
 pa:PA X es (tAL X.K f)
structure DAB (X:Cx) (es:List Expr) (f:De->Option (List Dt)):Prop where
 len:∀ δ ds,f δ=some ds->ds.length=es.length
 pa:PA X es (tAB X.K f)
def am:De->Option (List Dt):=fun _=>some []
def ab (f:De->Option Dt) (g:De->Option (List Dt)):De->Option (List Dt):=fun δ=>(f δ).bind fun d=>(g δ).bind fun ds=>some (d::ds)
variable {es:List Expr} {fs:De->Option (List Dt)}
def kI {n:Nat} {f:De->Option Dt} (h:∀ δ ds,fs δ=some ds->ds.length=n):∀ δ ds,ab f fs δ=some ds->ds.length=n+1:=fun δ ds hf=>by
 unfold ab at hf
 obtain ⟨x,hx,hf⟩:=bS hf
 obtain ⟨y,hy,hf⟩:=bS hf
 cases hf
 simp [h δ y hy]
def az:DA X [] am:=⟨fun _ _ h=>by cases h;rfl,PA.mono fq fun σ H Q ⟨Φ,δ,F,ds,hK,en,hf,k⟩=>by
 cases hf
 exact k [] H F (Step.refl en.fh) (by simp only [Reps])⟩
def bK:DAB X [] am:=⟨fun _ _ h=>by cases h;rfl,PA.mono fq fun σ H Q ⟨Φ,δ,F,ds,hK,en,hf,k⟩=>by
 cases hf
 exact k [] H F (Step.refl en.fh) rfl⟩
def ae (h:DL X e g) (h':DA X es fs) (hs:starEach (e::es) X.env=(false,eval e X.env)::starEach es X.env:=by rfl):DA X (e::es) (ab g fs):=
 ⟨kI h'.len,PA.mono (dg h h'.pa hs) fun σ H Q ⟨Φ,δ,F,ds,hK,en,hf,k⟩=>by
  unfold ab at hf
  obtain ⟨x,hx,hf⟩:=bS hf
  obtain ⟨y,hy,hf⟩:=bS hf
  cases hf
  exact ⟨Φ,δ,F,x,hK,en,hx,fun v H1 F1 st r=>⟨Φ,δ,F1,y,hK,en.step st,hy,fun vs H2 F2 s2 r2=>k (v::vs) H2 F2 (st.trans s2) (by simp only [Reps];exact ⟨v,vs,rfl,r.same s2.ff,r2⟩)⟩⟩⟩
def bu (h:DB X e g) (h':DAB X es fs) (hs:starEach (e::es) X.env=(false,eval e X.env)::starEach es X.env:=by rfl):DAB X (e::es) (ab g fs):=
 ⟨kI h'.len,PA.mono (dg h h'.pa hs) fun σ H Q ⟨Φ,δ,F,ds,hK,en,hf,k⟩=>by
  unfold ab at hf
  obtain ⟨x,hx,hf⟩:=bS hf
  obtain ⟨y,hy,hf⟩:=bS hf
  cases hf
  exact ⟨Φ,δ,F,x,hK,en,hx,fun v H1 F1 st r=>⟨Φ,δ,F1,y,hK,en.step st,hy,fun vs H2 F2 s2 r2=>k (v::vs) H2 F2 (st.trans s2) ⟨v,vs,rfl,r.step s2.ff s2.hh,r2⟩⟩⟩⟩
def bL (f:De->Option (List Dt)):De->Option T:=fun δ=>(f δ).bind fun ds=>if ds.length<=sizeLine then some (.leaf (.tup ds)) else none
def bg (f:De->Option (List Dt)):De->Option T:=fun δ=>(f δ).bind fun ds=>if ds.length<=sizeLine then some (.lst ds) else none
def b7 {x1} (h:DA X es fs):DO X (.Tuple es x1 pos) (bL fs):=PE.mono (lJ h.pa) fun σ H Q ⟨Φ,δ,F,t,hK,en,hf,k⟩=>by
 unfold bL at hf
 obtain ⟨ds,hd,hf⟩:=bS hf
 split at hf
 · rename_i hl
   cases hf
   refine ⟨Φ,δ,F,ds,hK,en,hd,fun vs H1 F1 st r=>⟨by rw [r.length];exact hl,fun p hp=>?_⟩⟩
   refine (k.step st).leaf _ _ _ (Step.new st.fh hp) ?_
   simp only [Rep]
   exact ⟨p,vs,rfl,SqT.of aB,r.same (Same.upd (st.fh.free hp))⟩
 · cases hf
def gx {K:PySem.W.Frag} {F H:Hp} {ds:List Dt} {vs:List V} {p:Addr} {Q:VK} (k:KO K F H (.lst ds) Q) (fh:Same F H) (r:Reps K F ds vs) (hp:H p=none):Q (.ref p) (upd H p (.lst vs)):=by
 refine k _ _ F (fun b=>b=p) (Step.made fh hp) ⟨p,vs,rfl,rfl,aB,r⟩ fun b z=>?_
 subst z
 exact ⟨fh.free hp,hp,_,aB⟩
def bD (h:DA X es fs):DO X (.List es pos) (bg fs):=PE.mono (se h.pa) fun σ H Q ⟨Φ,δ,F,t,hK,en,hf,k⟩=>by
 unfold bg at hf
 obtain ⟨ds,hd,hf⟩:=bS hf
 split at hf
 · rename_i hl
   cases hf
   exact ⟨Φ,δ,F,ds,hK,en,hd,fun vs H1 F1 st r=>⟨by rw [r.length];exact hl,fun p hp=>gx (k.step st) st.fh r hp⟩⟩
 · cases hf
def CRD (K:PySem.W.Frag) (r:List V->Hp->VK->Prop) (g:List Dt->Option T):Prop:=∀ F H ds vs (Q:VK) t,Same F H->kH K F H ds vs->g ds=some t->KO K F H t Q->r vs H Q
def aA (g:List Dt->Option T) (f:De->Option (List Dt)):De->Option T:=fun δ=>(f δ).bind g
def sS {K:PySem.W.Frag} {r:List V->Hp->VK->Prop} {g:List Dt->Option T} (hr:CRD K r g) {σ:St} {H:Hp} {Q:VK} (h:tO K (aA g fs) σ H Q):tCB r (tAB K fs) σ H Q:=by
 obtain ⟨Φ,δ,F,t,hK,en,hf,k⟩:=h
 unfold aA at hf
 obtain ⟨ds,hd,hf⟩:=bS hf
 exact ⟨Φ,δ,F,ds,hK,en,hd,fun vs H1 F1 st r=>hr F1 H1 ds vs Q t st.fh r hf (k.step st)⟩
variable {x:Str} {p:Pos} {id Ty:String} {sc:Scope} {r:List V->Hp->VK->Prop} {gg:List Dt->Option T}
def bP (h:bj sc x=true) (hc:dL X (.builtin id) r) (hr:CRD X.K r gg) (hm:X.mg x=none) (hv:bootBuiltins x=some (.builtin id)) (ha:DAB X (e::es) fs) (e1:cW X sc:=by rfl)
  (he:starEach (e::es) X.env=(false,eval e X.env)::starEach es X.env:=by rfl) (hpl:(backTo pos (starEach es X.env)).any (·.1)=false:=by rfl):DO X (.Call (.Name x p) (e::es) [] pos) (aA gg fs):=
 PE.mono (kF h hc hm hv ha.pa e1 he hpl) fun σ H Q q=>sS hr q
def jC (h:bj sc x=true) (hc:dL X (.type Ty) r) (hr:CRD X.K r gg) (hm:X.mg x=none) (hv:bootBuiltins x=some (.type Ty)) (ha:DAB X (e::es) fs) (e1:cW X sc:=by rfl)
  (he:starEach (e::es) X.env=(false,eval e X.env)::starEach es X.env:=by rfl) (hpl:(backTo pos (starEach es X.env)).any (·.1)=false:=by rfl):DO X (.Call (.Name x p) (e::es) [] pos) (aA gg fs):=
 PE.mono (fB h hc hm hv ha.pa e1 he hpl) fun σ H Q q=>sS hr q
def spD (K:PySem.W.Frag) (n:Nat) (f:List Dt->Option T):Sp:=fun vs H Q _=>∃ F ds t,Same F H/\ds.length=n/\Reps K F ds vs/\f ds=some t/\KO K F H t Q
def aW {k n:Nat} {ps:List Str} {ff:List Dt->Option T} (h:bj sc x=true) (F:OkF X.prog X.w X.K X.mg X.base x k ps (spD X.K n ff)) (hr:Room k X.A) (ha:DA X (e::es) fs) (hn:(e::es).length=n:=by rfl) (e1:cW X sc:=by rfl)
  (he:starEach (e::es) X.env=(false,eval e X.env)::starEach es X.env:=by rfl) (hpl:(backTo pos (starEach es X.env)).any (·.1)=false:=by rfl):DO X (.Call (.Name x p) (e::es) [] pos) (aA ff fs):=
 PE.mono (iB h F hr ha.pa e1 he hpl) fun σ H Q ⟨Φ,δ,Fz,t,hK,en,hf,k⟩=>by
  unfold aA at hf
  obtain ⟨ds,hd,hf⟩:=bS hf
  refine ⟨Φ,δ,Fz,ds,hK,en,hd,fun vs H1 F1 st r=>?_⟩
  show spD X.K n ff (vs++[]) H1 Q E0
  rw [List.append_nil]
  exact ⟨F1,ds,t,st.fh,(ha.len δ ds hd).trans hn,r,hf,k.step st⟩
end
inductive Out where
 | nx (δ:De) | rt (t:T) | bk (δ:De) | ct (δ:De) | re (t:T) (δ:De)
structure Rt (Φ:Fm) (t:T) (v:V) (F H:Hp):Prop where
 fh:Same F H
 prot:∀ b o,Φ.H0 b=some o->¬ Φ.S0 b->H b=some o
 old:Same Φ.F0 F
 nw:∀ b o,F b=some o->Φ.F0 b=some o∨Φ.B b
 own:∃ S,Own Φ.K F H t v S/\∀ b,S b->F b=none/\(∃ o,H b=some o)/\Φ.B b
structure Re (Φ:Fm) (t:T) (v:V) (δ:De) (σ:St) (F H:Hp):Prop where
 en:En Φ δ σ F H
 own:∃ S R,Sep Φ.K F H Φ.B (kG δ σ) S/\Own Φ.K F H t v R/\∀ b,R b->F b=none/\(∃ o,H b=some o)/\Φ.B b/\∀ i,¬ S i b
noncomputable def Post (Φ:Fm) (D:Ends):Out->Prop
 | .nx δ=>∀ σ F H,En Φ δ σ F H->D.nx σ H
 | .rt t=>∀ v F H,Rt Φ t v F H->D.rt v H
 | .bk δ=>∀ σ F H,En Φ δ σ F H->D.bk σ H
 | .ct δ=>∀ σ F H,En Φ δ σ F H->D.ct σ H
 | .re t δ=>∀ v σ F H,Re Φ t v δ σ F H->D.rt v H
def tS (K:PySem.W.Frag) (g:De->Option Out):TS:=fun D σ H=>∃ Φ δ F o,Fm.K Φ=K/\En Φ δ σ F H/\g δ=some o/\Post Φ D o
def DS1 (X:Cx) (st:Stmt) (g:De->Option Out):Prop:=PS X st (tS X.K g)
def DS (X:Cx) (ss:List Stmt) (g:De->Option Out):Prop:=PSs X ss (tS X.K g)
section
variable {X:Cx} {st:Stmt} {rest a b body:List Stmt} {g g1 g2:De->Option Out} {e c tg iter:Expr} {pos:Pos} {f:De->Option T} {fd:De->Option Dt} {tc:De->Option Bool} {i:Nat}
def jD:De->Option Out:=fun δ=>some (.nx δ)
def cm (g1 g2:De->Option Out):De->Option Out:=fun δ=>(g1 δ).bind fun o=>match o with
 | .nx δ'=>g2 δ'
 | o=>some o
def fZ:DS X [] jD:=PSs.mono pk fun D σ H ⟨Φ,δ,F,o,hK,en,hg,k⟩=>by
 cases hg
 exact k σ F H en
def cv (h:DS1 X st g):DS X [st] g:=pq h
def bE (h1:DS1 X st g1) (h2:DS X rest g2):DS X (st::rest) (cm g1 g2):=PSs.mono (mN h1 h2) fun D σ H ⟨Φ,δ,F,o,hK,en,hg,k⟩=>by
 unfold cm at hg
 obtain ⟨o1,h1,hg⟩:=bS hg
 refine ⟨Φ,δ,F,o1,hK,en,h1,?_⟩
 cases o1 with
 | nx δ'=>exact fun σ' F' H' en'=>⟨Φ,δ',F',o,hK,en',hg,k⟩
 | rt t=>cases hg;exact k
 | bk δ'=>cases hg;exact k
 | ct δ'=>cases hg;exact k
 | re t δ'=>cases hg;exact k
def gK (f:De->Option T):De->Option Out:=fun δ=>(f δ).map .rt
def En.rt {Φ:Fm} {δ:De} {σ:St} {F H F' H':Hp} {t:T} {v:V} {S:Addr->Prop} (en:En Φ δ σ F H) (st:Step F H F' H') (o:Own Φ.K F' H' t v S) (hs:∀ b,S b->F' b=none/\H b=none/\∃ o,H' b=some o):Rt Φ t v F' H':=by
 have e':=en.step st
 exact ⟨e'.fh,e'.prot,e'.old,e'.nw,S,o,fun b z=>⟨(hs b z).1,(hs b z).2.2,en.fresh (hs b z).2.1⟩⟩
def dO (h:DO X e f):DS1 X (.Return (some e) pos) (gK f):=PS.mono (rT h) fun D σ H ⟨Φ,δ,F,o,hK,en,hg,k⟩=>by
 unfold gK at hg
 obtain ⟨t,ht,hg⟩:=mS hg
 cases hg
 exact ⟨Φ,δ,F,t,hK,en,ht,fun v H' F' S st o hs=>k v F' H' (en.rt st (hK▸o) hs)⟩
def sIf (c:De->Option Bool) (g1 g2:De->Option Out):De->Option Out:=fun δ=>(c δ).bind fun b=>if b then g1 δ else g2 δ
def iM (hc:DT X c tc) (h1:DS X a g1) (h2:DS X b g2):DS1 X (.If c a b pos) (sIf tc g1 g2):=PS.mono (wG hc h1 h2) fun D σ H ⟨Φ,δ,F,o,hK,en,hg,k⟩=>by
 unfold sIf at hg
 obtain ⟨x,hx,hg⟩:=bS hg
 refine ⟨Φ,δ,F,x,hK,en,hx,fun H' F' st=>?_⟩
 split at hg
 · rename_i q
   rw [if_pos q]
   exact ⟨Φ,δ,F',o,hK,en.step st,hg,k⟩
 · rename_i q
   rw [if_neg q]
   exact ⟨Φ,δ,F',o,hK,en.step st,hg,k⟩
def dX (i:Nat) (f:De->Option T):De->Option Out:=fun δ=>(f δ).map fun t=>.nx (δ.set i (some t))
def fE {sc:Scope} {N:List Str} {x:Str} {pos':Pos} (h:fA sc N i x=true) (hl:jy sc x=true) (nd:N.Nodup) (he:DO X e f) (e1:cW X sc:=by rfl) (e2:X.N=N:=by rfl) (hf:X.fn x=true∨X.env.scope.names.lookup x=some .local:=by exact .inl rfl)
  (hs:swapsWith e (some (.Name x pos')) pos.line X.env=pure false:=by rfl):DS1 X (.Assign [.Name x pos'] e pos) (dX i f):=PS.mono (pR h hl nd he e1 e2 hf hs) fun D σ H ⟨Φ,δ,F,o,hK,en,hg,k⟩=>by
 unfold dX at hg
 obtain ⟨t,ht,hg⟩:=mS hg
 cases hg
 exact ⟨Φ,δ,F,t,hK,en,ht,fun v H' F' S st o hs=>k _ F' H' (en.put st (hK▸o) hs i)⟩
noncomputable def gD (K:PySem.W.Frag) (ts:List Nat) (st:Dt->De->Option De):TG:=fun v σ H Q=>∃ Φ δ F d δ',Fm.K Φ=K/\En Φ δ σ F H/\Rep K F d v/\st d δ=some δ'/\∀ σ',σ'.length=σ.length->(∀ j,j∉ts->σ'[j]?=σ[j]?)->En Φ δ' σ' F H->Q σ' H
noncomputable def gsD (K:PySem.W.Frag) (ts:List Nat) (st:List Dt->De->Option De):TGs:=fun vs σ H Q=>∃ Φ δ F ds δ',Fm.K Φ=K/\En Φ δ σ F H/\Reps K F ds vs/\st ds δ=some δ'/\∀ σ',σ'.length=σ.length->(∀ j,j∉ts->σ'[j]?=σ[j]?)->En Φ δ' σ' F H->Q σ' H
def DG (X:Cx) (tg:Expr) (ts:List Nat) (bb:Dt->De->Option De):Prop:=PG X tg (gD X.K ts bb)
def DGs (X:Cx) (tg:List Expr) (ts:List Nat) (bb:List Dt->De->Option De):Prop:=PGs X tg (gsD X.K ts bb)
def aq (i:Nat):Dt->De->Option De:=fun d δ=>some (δ.set i (some (.leaf d)))
def En.name {Φ:Fm} {δ:De} {σ:St} {F H:Hp} (en:En Φ δ σ F H) {d:Dt} {v:V} (r:Rep Φ.K F d v) (i:Nat):En Φ (δ.set i (some (.leaf d))) (σ.set i (some v)) F H:=
 en.put (Step.refl en.fh) (S':=fun _=>False) (t:=.leaf d) r (fun _ z=>z.elim) i
def aX (h:PG X tg (iI i)):DG X tg [i] (aq i):=PG.mono h fun v σ H Q ⟨Φ,δ,F,d,δ',hK,en,r,hd,k⟩=>by
 cases hd
 refine k _ (by simp) (fun j hj=>?_) (en.name (hK▸r) i)
 rw [List.getElem?_set_ne fun z=>hj (by simp [z])]
def cZ:List Dt->De->Option De:=fun ds δ=>if ds.isEmpty then some δ else none
def aJ (b:Dt->De->Option De) (bs:List Dt->De->Option De):List Dt->De->Option De:=fun ds δ=>match ds with
 | d::r=>(b d δ).bind fun δ1=>bs r δ1
 | []=>none
def da (n:Nat) (bs:List Dt->De->Option De):Dt->De->Option De:=fun d δ=>match d with
 | .tup ds=>if ds.length=n then bs ds δ else none
 | _=>none
def gy:DGs X [] [] cZ:=fun pins s σ H vs us Q I r q=>pw pins s σ H vs us Q I r (by
 obtain ⟨Φ,δ,F,ds,δ',hK,en,rs,hd,k⟩:=q
 unfold cZ at hd
 cases ds with
 | nil=>cases hd;simp only [Reps] at rs;exact ⟨rs,k σ rfl (fun _ _=>rfl) en⟩
 | cons d l=>cases hd)
def bz {es:List Expr} {ts ts':List Nat} {bb:Dt->De->Option De} {bs:List Dt->De->Option De} (h1:DG X e ts bb) (h2:DGs X es ts' bs)
  (hs:(assignEach (e::es) X.env).map (·.2)=assign e X.env::(assignEach es X.env).map (·.2):=by rfl):DGs X (e::es) (ts++ts') (aJ bb bs):=fun pins s σ H vs us Q I r q=>mO h1 h2 hs pins s σ H vs us Q I r (by
 obtain ⟨Φ,δ,F,ds,δ',hK,en,rs,hd,k⟩:=q
 unfold aJ at hd
 cases ds with
 | nil=>cases hd
 | cons d l =>
  simp only [Reps] at rs
  obtain ⟨v,ws,e,r1,r2⟩:=rs
  dsimp only at hd
  obtain ⟨δ1,hb,hd⟩:=bS hd
  refine ⟨v,ws,e,Φ,δ,F,d,δ1,hK,en,r1,hb,fun σ1 l1 k1 en1=>⟨Φ,δ1,F,l,δ',hK,en1,r2,hd,fun σ2 l2 k2 en2=>k σ2 (l2.trans l1) (fun j hj=>?_) en2⟩⟩
  rw [k2 j fun z=>hj (List.mem_append_right _ z),k1 j fun z=>hj (List.mem_append_left _ z)])
def iC {es:List Expr} {k:Nat} {n:Nat} {ts:List Nat} {bs:List Dt->De->Option De} (hc:X.calm=true) (h:DGs X es ts bs)
  (hn:(assignEach es X.env).length=n:=by rfl) (hst:(assignEach es X.env).findIdx? (·.1)=none:=by rfl):DG X (.Tuple es k pos) ts (da n bs):=PG.mono (rU hc h hn hst) fun v σ H Q ⟨Φ,δ,F,d,δ',hK,en,r,hd,q⟩=>by
 unfold da at hd
 split at hd
 · rename_i ds
   split at hd
   · rename_i hl
     simp only [Rep] at r
     obtain ⟨a,vs,e,h1,h2⟩:=r
     exact ⟨a,vs,e,en.fh.tup h1,by rw [h2.length];exact hl,Φ,δ,F,ds,δ',hK,en,h2,hd,q⟩
   · cases hd
 · cases hd
noncomputable def sT (K:PySem.W.Frag) (F':Hp) (J:It) (ds:List Dt) (ok:Hp->Prop):Prop:=∀ (i:Nat) (H F:Hp),ok H->Same F H->Same F' F->(i<ds.length->J.go i H)/\(i=ds.length->J.stop i H)/\∀ x H',i<ds.length->J.yld i H x H'->∃ d F2,ds[i]?=some d/\Step F H F2 H'/\Rep K F2 d x
def Plain.walk {K:PySem.W.Frag} {F':Hp} {J:It} {xs:List V} {ds:List Dt} {ok:Hp->Prop} (pl:Plain J xs ok) (r:Reps K F' ds xs):sT K F' J ds ok:=fun i H F hok fh ff=>by
 obtain ⟨p1,p2,p3⟩:=pl i H hok
 have hl:=r.length
 refine ⟨fun h=>p1 (by omega),fun h=>p2 (by omega),fun x H' hi hy=>?_⟩
 obtain ⟨rfl,hx⟩:=p3 x H' (by omega) hy
 have hd:ds[i]?=some ds[i]:=by simp [hi]
 obtain ⟨v,e,rv⟩:=r.get hd
 rw [hx] at e
 cases e
 exact ⟨_,F,hd,Step.refl fh,rv.same ff⟩
def tIF (K:PySem.W.Frag) (f:De->Option (List Dt)):TI:=fun σ H R=>∃ Φ δ F ds,Fm.K Φ=K/\En Φ δ σ F H/\f δ=some ds/\∀ J ok H' F',Step F H F' H'->sT K F' J ds ok->(∀ H2,Same F' H2->ok H2)->R J H'
def tIB (K:PySem.W.Frag) (f:De->Option (List Dt)):TI:=fun σ H R=>∃ Φ δ F ds,Fm.K Φ=K/\En Φ δ σ F H/\f δ=some ds/\∀ J ok H' F',Step F H F' H'->sT K F' J ds ok->(∀ H2,Same H' H2->ok H2)->R J H'
def DIF (X:Cx) (tg iter:Expr) (f:De->Option (List Dt)):Prop:=PI X tg iter (tIF X.K f)
def DIB (X:Cx) (tg iter:Expr) (f:De->Option (List Dt)):Prop:=PI X tg iter (tIB X.K f)
def DIF.toB {fi:De->Option (List Dt)} (h:DIF X tg iter fi):DIB X tg iter fi:=PI.mono h fun σ H R ⟨Φ,δ,F,ds,hK,en,hf,k⟩=>⟨Φ,δ,F,ds,hK,en,hf,fun J ok H' F' st wd ho=>k J ok H' F' st wd fun H2 s=>ho H2 (st.fh.trans s)⟩
end
section
variable {X:Cx} {st:Stmt} {rest a b body:List Stmt} {g g1 g2:De->Option Out} {e c tg iter l:Expr} {pos:Pos} {f:De->Option T} {fd:De->Option Dt} {tc:De->Option Bool} {i:Nat} {fi:De->Option (List Dt)}
noncomputable def iV (bb:Dt->De->Option De) (g:De->Option Out):List Dt->De->Option Out
 | [],δ=>some (.nx δ)
 | d::r,δ=>(bb d δ).bind fun δ1=>(g δ1).bind fun o=>match o with
  | .nx δ2=>iV bb g r δ2
  | .ct δ2=>iV bb g r δ2
  | .bk δ2=>some (.nx δ2)
  | .rt t=>some (.rt t)
  | .re t δ2=>some (.re t δ2)
def j7 (fi:De->Option (List Dt)) (bb:Dt->De->Option De) (g:De->Option Out):De->Option Out:=fun δ=>(fi δ).bind fun ds=>iV bb g ds δ
def hX {α:Type} {l:List α} {i:Nat} {d:α} (h:l[i]?=some d):l.drop i=d::l.drop (i+1):=by
 have hi:i<l.length:=(gX h).1
 rw [List.drop_eq_getElem_cons hi]
 congr 1
 have:=(gX h).2
 exact this
def Fm.at (Φ:Fm) (F1:Hp):Fm:={Φ with F0:=F1}
def En.back {Φ:Fm} {δ δ':De} {σ σ':St} {F1 H1 F H:Hp} (en:En Φ δ σ F1 H1) (e:En (Φ.at F1) δ' σ' F H):En Φ δ' σ' F H:=
 ⟨e.fh,e.prot,en.old.trans e.old,fun b o h=>(e.nw b o h).elim (fun z=>en.nw b o z) .inr,e.len,e.has,e.sep⟩
def Rt.back {Φ:Fm} {δ:De} {σ:St} {F1 H1 F H:Hp} {t:T} {v:V} (en:En Φ δ σ F1 H1) (e:Rt (Φ.at F1) t v F H):Rt Φ t v F H:=
 ⟨e.fh,e.prot,en.old.trans e.old,fun b o h=>(e.nw b o h).elim (fun z=>en.nw b o z) .inr,e.own⟩
def Re.back {Φ:Fm} {δ δ':De} {σ σ':St} {F1 H1 F H:Hp} {t:T} {v:V} (en:En Φ δ σ F1 H1) (e:Re (Φ.at F1) t v δ' σ' F H):Re Φ t v δ' σ' F H:=⟨en.back e.en,e.own⟩
def En.at {Φ:Fm} {δ:De} {σ:St} {F1 H1:Hp} (en:En Φ δ σ F1 H1):En (Φ.at F1) δ σ F1 H1:=
 ⟨en.fh,en.prot,Same.refl _,fun b o h=>.inl h,en.len,en.has,en.sep⟩
def Post.at {Φ:Fm} {D:Ends} {o:Out} {δ:De} {σ:St} {F1 H1:Hp} (en:En Φ δ σ F1 H1) (k:Post Φ D o):Post (Φ.at F1) D o:=by
 cases o with
 | nx δ'=>exact fun σ' F H e=>k σ' F H (en.back e)
 | bk δ'=>exact fun σ' F H e=>k σ' F H (en.back e)
 | ct δ'=>exact fun σ' F H e=>k σ' F H (en.back e)
 | rt t=>exact fun v F H e=>k v F H (Rt.back en e)
 | re t δ'=>exact fun v σ' F H e=>k v σ' F H (Re.back en e)
def jE {n:Nat} {g:TG} {tb:TS} {D:Ends} {J:It} {σ:St} {H1:Hp} (Pv:Nat->St->Hp->Prop) (h0:Pv 0 σ H1) (hgo:∀ i σ H,Pv i σ H->(i<n->J.go i H)/\(i=n->J.stop i H))
  (hs:∀ i x σ H H',i<n->Pv i σ H->J.yld i H x H'->g x σ H' fun σ2 H2=>tb {D with nx:=Pv (i+1),ct:=Pv (i+1),bk:=D.nx} σ2 H2) (hd:∀ σ H,Pv n σ H->D.nx σ H):ForW g tb D J σ H1:=by
 refine ⟨fun i m σ H=>m=n-i/\i<=n/\Pv i σ H,⟨n,by simp,Nat.zero_le _,h0⟩,?_⟩
 rintro i m σ H ⟨rfl,hi,p⟩
 obtain ⟨p1,p2⟩:=hgo i σ H p
 by_cases hlt:i<n
 · exact .inr ⟨p1 hlt,Pv (i+1),fun σ' H' p'=>⟨n-(i+1),by omega,rfl,hlt,p'⟩,fun x H' y=>hs i x σ H H' hlt p y⟩
 · have e:i=n:=by omega
   subst e
   exact .inl ⟨p2 rfl,hd σ H p⟩
def sU {ts:List Nat} {bb:Dt->De->Option De} (hp:PassesOwn (model X.prog X.w) X.A X.env X.xe) (hc:X.calm=true) (hi:DIF X tg iter fi) (hg:DG X tg ts bb) (hb:DS X body g)
  (hs:∀ x,foldedSetIterable iter X.env x=pure x:=by intro _;rfl):DS1 X (.For tg iter body [] pos) (j7 fi bb g):=PS.mono (lI hp hc hi hg hb hs) fun D σ H ⟨Φ,δ,F,o,hK,en,hg,k⟩=>by
 unfold j7 at hg
 obtain ⟨ds,hd,hg⟩:=bS hg
 rw [jb]
 refine ⟨Φ,δ,F,ds,hK,en,hd,fun J ok H1 F1 st1 wd ho=>?_⟩
 have en1:=en.step st1
 have k1:=Post.at en1 k
 refine jE (n:=ds.length) (fun i σ' H'=>∃ δ' F',En (Φ.at F1) δ' σ' F' H'/\iV bb g (ds.drop i) δ'=some o) ⟨δ,F1,en1.at,by simpa using hg⟩ (fun i σ' H' ⟨δ',F',en',_⟩=>?_) ?_ ?_
 · obtain ⟨p1,p2,_⟩:=wd i H' F' (ho H' (en'.old.trans en'.fh)) en'.fh en'.old
   exact ⟨p1,p2⟩
 · rintro i x σ' H' H'' hi ⟨δ',F',en',hgo⟩ hy
   obtain ⟨_,_,p3⟩:=wd i H' F' (ho H' (en'.old.trans en'.fh)) en'.fh en'.old
   obtain ⟨d,F2,hd',st2,rd⟩:=p3 x H'' hi hy
   rw [hX hd'] at hgo
   unfold iV at hgo
   obtain ⟨δ1,h1,hgo⟩:=bS hgo
   obtain ⟨o1,h2,hgo⟩:=bS hgo
   refine ⟨Φ.at F1,δ',F2,d,δ1,hK,en'.step st2,rd,h1,fun σ1 _ _ en1=>⟨Φ.at F1,δ1,F2,o1,hK,en1,h2,?_⟩⟩
   cases o1 with
   | nx δ2=>exact fun σ2 F2 H2 en2=>⟨δ2,F2,en2,hgo⟩
   | ct δ2=>exact fun σ2 F2 H2 en2=>⟨δ2,F2,en2,hgo⟩
   | bk δ2=>cases hgo;exact fun σ2 F2 H2 en2=>k1 σ2 F2 H2 en2
   | rt t=>cases hgo;exact fun v F2 H2 q=>k1 v F2 H2 q
   | re t δ2=>cases hgo;exact fun v σ2 F2 H2 q=>k1 v σ2 F2 H2 q
 · rintro σ' H' ⟨δ',F',en',hgo⟩
   rw [List.drop_length] at hgo
   cases hgo
   exact k1 σ' F' H' en'
def zm (x:Str):List Dt:=x.cps.toList.map fun c=>.str ⟨#[c]⟩
def bn (lo:Int) (n:Nat):List Dt:=(List.range n).map fun (i:Nat)=>.int (lo+i)
def Reps.map {K:PySem.W.Frag} {F:Hp} {α:Type} {f:α->Dt} {g:α->V} (h:∀ x,Rep K F (f x) (g x)):∀ l:List α,Reps K F (l.map f) (l.map g)
 | []=>by simp [Reps]
 | x::l=>by
  simp only [List.map_cons,Reps]
  exact ⟨_,_,rfl,h x,Reps.map h l⟩
def itD:Dt->Option (List Dt)
 | .lst l=>some l
 | .tup l=>some l
 | .str x=>some (zm x)
 | _=>none
def fIt (f:De->Option Dt):De->Option (List Dt):=fun δ=>(f δ).bind itD
def gM (h:DL X l fd):DIF X tg l (fIt fd):=PI.mono (PI.or (lH h) (PI.or (rW h) (sG h))) fun σ H R ⟨Φ,δ,F,ds,hK,en,hf,k⟩=>by
 unfold fIt at hf
 obtain ⟨d,hd,hf⟩:=bS hf
 cases d with
 | lst l =>
  cases hf
  refine .inl ⟨Φ,δ,F,_,hK,en,hd,fun v H' F' st r=>?_⟩
  simp only [Rep] at r
  obtain ⟨a,vs,rfl,h1,h2⟩:=r
  exact ⟨a,rfl,⟨vs,st.fh.seq h1⟩,k _ _ H' F' st (plain_list.walk h2) fun H2 s=>s.seq h1⟩
 | tup l =>
  cases hf
  refine .inr (.inl ⟨Φ,δ,F,_,hK,en,hd,fun v H' F' st r=>?_⟩)
  simp only [Rep] at r
  obtain ⟨a,vs,rfl,h1,h2⟩:=r
  exact ⟨a,rfl,⟨vs,st.fh.tup h1⟩,k _ _ H' F' st (plain_tup.walk h2) fun H2 s=>s.tup h1⟩
 | str x =>
  cases hf
  refine .inr (.inr ⟨Φ,δ,F,_,hK,en,hd,fun v H' F' st r=>?_⟩)
  simp only [Rep] at r
  exact ⟨x,r,k _ _ H' F' st (plain_str.walk (Reps.map (fun c=>je) _)) fun _ _=>trivial⟩
 | _=>cases hf
def p6 (h:DB X l fd):DIB X tg l (fIt fd):=PI.mono (PI.or (lH h) (PI.or (rW h) (sG h))) fun σ H R ⟨Φ,δ,F,ds,hK,en,hf,k⟩=>by
 unfold fIt at hf
 obtain ⟨d,hd,hf⟩:=bS hf
 cases d with
 | lst l =>
  cases hf
  refine .inl ⟨Φ,δ,F,_,hK,en,hd,fun v H' F' st r=>?_⟩
  obtain ⟨a,vs,rfl,h1,h2⟩:=r
  exact ⟨a,rfl,⟨vs,h1⟩,k _ _ H' F' st (plain_list.walk h2) fun H2 s=>s.seq h1⟩
 | tup l =>
  cases hf
  refine .inr (.inl ⟨Φ,δ,F,_,hK,en,hd,fun v H' F' st r=>?_⟩)
  obtain ⟨a,vs,rfl,h1,h2⟩:=r
  exact ⟨a,rfl,⟨vs,st.fh.tup h1⟩,k _ _ H' F' st (plain_tup.walk h2) fun H2 s=>s.tup (st.fh.tup h1)⟩
 | str x =>
  cases hf
  refine .inr (.inr ⟨Φ,δ,F,_,hK,en,hd,fun v H' F' st r=>?_⟩)
  exact ⟨x,r,k _ _ H' F' st (plain_str.walk (Reps.map (fun c=>je) _)) fun _ _=>trivial⟩
 | _=>cases hf
def kJ (j:Int):Bool:=decide (-(2^62)<=j)&&decide (j<2^62)
def cX:List Dt->Option (List Dt)
 | [.int j]=>if kJ j then some (bn 0 j.toNat) else none
 | _=>none
def cP (r:List Dt->Option (List Dt)) (f:De->Option (List Dt)):De->Option (List Dt):=fun δ=>(f δ).bind r
variable {p:Pos} {sc:Scope} {x y:Expr} {fs:De->Option (List Dt)}
def kK {j:Int} (h:kJ j=true):-(2^62)<=j/\j<2^62:=by
 unfold kJ at h
 simpa using h
def oH {K:PySem.W.Frag} {F:Hp} (lo:Int) (n:Nat):Reps K F (bn lo n) (jx lo n):=Reps.map (fun _=>jd) _
def b5 (h:bj sc "range"=true) (hm:X.mg "range"=none) (ha:DA X [x] fs) (e1:cW X sc:=by rfl) (hs:starEach [x] X.env=[(false,eval x X.env)]:=by rfl):DIF X tg (.Call (.Name "range" p) [x] [] pos) (cP cX fs):=
 PI.mono (oC h hm ha.pa e1 hs) fun σ H R ⟨Φ,δ,F,ds,hK,en,hf,k⟩=>by
  unfold cP at hf
  obtain ⟨as,hd,hf⟩:=bS hf
  refine ⟨Φ,δ,F,as,hK,en,hd,fun vs H' F' st r=>?_⟩
  unfold cX at hf
  split at hf
  · rename_i j
    split at hf
    · rename_i hj
      cases hf
      simp only [Reps,Rep] at r
      obtain ⟨v,ws,rfl,rfl,rfl⟩:=r
      exact ⟨j,rfl,(kK hj).1,(kK hj).2,k _ _ H' F' st (plain_range.walk (oH _ _)) fun _ _=>trivial⟩
    · cases hf
  · cases hf
end
def dC (src:List (Option Nat)) (δ:De):De:=src.map fun o=>o.bind fun j=>(δ[j]?).join
noncomputable def dl (bb:Dt->De->Option De) (ft:De->Option Bool) (fe:De->Option Dt) (δ:De):List Dt->Option (List Dt)
 | []=>some []
 | d::r=>(bb d δ).bind fun δ1=>(ft δ1).bind fun b=>if b then (fe δ1).bind fun y=>(dl bb ft fe δ r).bind fun ys=>some (y::ys) else dl bb ft fe δ r
noncomputable def ce (src:List (Option Nat)) (fi:De->Option (List Dt)) (bb:Dt->De->Option De) (ft:De->Option Bool) (fe:De->Option Dt):De->Option T:=fun δ =>
 (fi δ).bind fun ds=>(dl bb ft fe (dC src δ) ds).bind fun ys=>if ys.length<=sizeLine then some (.lst ys) else none
def bc:De->Option Bool:=fun _=>some true
def DTs (X:Cx) (ifs:List Expr) (f:De->Option Bool):Prop:=PTs X ifs (tTr X.K f)
def dz {X:Cx}:DTs X [] bc:=fun pins s σ H Q I h=>vm pins s σ H Q I (by
 obtain ⟨Φ,δ,F,b,hK,en,hf,k⟩:=h
 cases hf
 exact k H F (Step.refl en.fh))
section
variable {X:Cx} {elt tg iter:Expr} {ifs:List Expr} {scope:Scope} {pos:Pos} {M:List Str} {src:List (Option Nat)} {fi:De->Option (List Dt)} {ft:De->Option Bool} {fe:De->Option Dt}
def vC (S:CmpScope X.N X.env.scope scope M src) {k l j:Nat} (hk:src[k]?=some (some j)) (hl:src[l]?=some (some j)):k=l:=by
 have nm:∀ k,src[k]?=some (some j)->∃ x,M[k]?=some x/\X.N[j]?=some x:=fun k h=>by
  have hlt:k<M.length:=by rw [S.len];exact (gX h).1
  have hm:M[k]?=some M[k]:=by simp [hlt]
  have hz:(M.zip src)[k]?=some (M[k],some j):=by rw [List.getElem?_zip_eq_some];exact ⟨hm,h⟩
  exact ⟨_,hm,(S.src _ (List.mem_of_getElem? hz) j rfl).1⟩
 obtain ⟨x,h1,h2⟩:=nm k hk
 obtain ⟨y,h3,h4⟩:=nm l hl
 rw [h2] at h4
 cases h4
 exact (List.getElem?_inj (gX h1).1 S.nd).mp (h1.trans h3.symm)
def sV {δ:De} {k:Nat} {t:T} (h:(dC src δ)[k]?=some (some t)):∃ j,src[k]?=some (some j)/\δ[j]?=some (some t):=by
 unfold dC at h
 rw [List.getElem?_map] at h
 cases e:src[k]? with
 | none=>rw [e] at h;cases h
 | some o =>
  rw [e] at h
  cases o with
  | none=>cases h
  | some j =>
   simp only [Option.map_some,Option.bind_some,Option.some.injEq] at h
   refine ⟨j,rfl,?_⟩
   cases q:δ[j]? with
   | none=>rw [q] at h;cases h
   | some u=>rw [q] at h;simp only [Option.join_some] at h;rw [h]
def p7 {σ:St} {k j:Nat} {v:V} (h1:src[k]?=some (some j)) (h2:σ[j]?=some (some v)):(stC src σ)[k]?=some (some v):=by
 unfold stC
 rw [List.getElem?_map,h1]
 simp [h2]
def oI {σ:St} {k:Nat} {v:V} (h:(stC src σ)[k]?=some (some v)):∃ j,src[k]?=some (some j)/\σ[j]?=some (some v):=by
 unfold stC at h
 rw [List.getElem?_map] at h
 cases e:src[k]? with
 | none=>rw [e] at h;cases h
 | some o =>
  rw [e] at h
  cases o with
  | none=>cases h
  | some j =>
   simp only [Option.map_some,Option.bind_some,Option.some.injEq] at h
   refine ⟨j,rfl,?_⟩
   cases q:σ[j]? with
   | none=>rw [q] at h;cases h
   | some u=>rw [q] at h;simp only [Option.join_some] at h;rw [h]
def En.comp {Φ:Fm} {δ:De} {σ:St} {F H:Hp} (S:CmpScope X.N X.env.scope scope M src) (en:En Φ δ σ F H):En Φ (dC src δ) (stC src σ) F H:=by
 refine ⟨en.fh,en.prot,en.old,en.nw,by simp [dC,stC],fun k t h=>?_,?_⟩
 · obtain ⟨j,h1,h2⟩:=sV h
   obtain ⟨v,hv⟩:=en.has j t h2
   exact ⟨v,p7 h1 hv⟩
 · obtain ⟨Z,s⟩:=en.sep
   refine ⟨fun k b=>∃ j,src[k]?=some (some j)/\Z j b,fun k t v h=>?_,fun k b ⟨j,_,z⟩=>s.out j b z,fun k l b ⟨j,h1,z⟩ ⟨j',h2,z'⟩=>?_⟩
   · obtain ⟨h1,h2⟩:=fW h
     obtain ⟨j,e1,e2⟩:=sV h1
     obtain ⟨j',e3,e4⟩:=oI h2
     rw [e1] at e3
     cases e3
     exact (s.own j t v (dk e2 e4)).grow fun b z=>⟨j,e1,z⟩
   · have:=s.dis _ _ b z z'
     subst this
     exact vC S h1 h2
def kL {n:Nat} {g:TG} {tt:TT} {te:TE} {σ:St} {J:It} {H1:Hp} {Q:VK} {D:Addr} (Pv:Nat->Hp->Prop) (h0:Pv 0 (upd H1 D (.lst []))) (hgo:∀ i H,Pv i H->(i<n->J.go i H)/\(i=n->J.stop i H))
  (hs:∀ i x H H',i<n->Pv i H->J.yld i H x H'->g x (stC src σ) H' fun σ2 H2=>Wk (stC src σ) σ2/\tt σ2 H2 fun b H3=>if b=true then te σ2 H3 fun v H4=>∃ ys,H4 D=some (.lst ys)/\ys.length<sizeLine/\Pv (i+1) (upd H4 D (.lst (ys++[v]))) else Pv (i+1) H3)
  (hd:∀ H,Pv n H->Q (.ref D) H):wS src g tt te σ J H1 Q D:=by
 refine ⟨fun i m H=>m=n-i/\i<=n/\Pv i H,⟨n,by simp,Nat.zero_le _,h0⟩,?_⟩
 rintro i m H ⟨rfl,hi,p⟩
 obtain ⟨p1,p2⟩:=hgo i H p
 by_cases hlt:i<n
 · exact .inr ⟨p1 hlt,Pv (i+1),fun H' p'=>⟨n-(i+1),by omega,rfl,hlt,p'⟩,fun x H' y=>hs i x H H' hlt p y⟩
 · have e:i=n:=by omega
   subst e
   exact .inl ⟨p2 rfl,hd H p⟩
def p8 {ts:List Nat} {bb:Dt->De->Option De} (S:CmpScope X.N X.env.scope scope M src) (hts:(ts.all fun k=>decide (src[k]?=some none))=true):∀ (σ:St) (H:Hp) (Q:VK),tO X.K (ce src fi bb ft fe) σ H Q->kA src (tIB X.K fi) (gD X.K ts bb) (tTr X.K ft) (tL X.K fe) σ H Q:=fun σ H Q ⟨Φ,δ,F,t,hK,en,hf,k⟩=>by
 unfold ce at hf
 obtain ⟨ds,hd,hf⟩:=bS hf
 obtain ⟨all,ha,hf⟩:=bS hf
 split at hf
 case isFalse=>cases hf
 rename_i hz
 cases hf
 rw [m4]
 refine ⟨Φ,δ,F,ds,hK,en,hd,fun J ok H1 F1 st1 wd ho D hD=>?_⟩
 have en1:=en.step st1
 have k1:=k.step st1
 have wk:∀ {σ2:St},σ2.length=(stC src σ).length->(∀ j,j∉ts->σ2[j]?=(stC src σ)[j]?)->Wk (stC src σ) σ2:=fun {σ2} h1 h2=>by
  refine ⟨h1.symm,fun j v hj=>?_⟩
  by_cases hm:j∈ts
  · have:=List.all_eq_true.mp hts j hm
    have hn:src[j]?=some none:=of_decide_eq_true this
    obtain ⟨i,e,_⟩:=oI hj
    rw [hn] at e
    cases e
  · rw [h2 j hm]
    exact hj
 have ok':∀ {F H:Hp},Step F1 H1 F H->ok H:=fun st=>ho _ st.hh
 refine kL (n:=ds.length) (fun i H=>∃ F ys done rest',Step F1 H1 F H/\H D=some (.lst ys)/\F D=none/\Reps X.K F done ys/\dl bb ft fe (dC src δ) (ds.drop i)=some rest'/\done++rest'=all) ?_ ?_ ?_ ?_
 · exact ⟨F1,[],[],all,Step.made st1.fh hD,aB,st1.fh.free hD,by simp [Reps],by simpa using ha,rfl⟩
 · rintro i H' ⟨F',ys,done,rest',st,_⟩
   obtain ⟨p1,p2,_⟩:=wd i H' F' (ok' st) st.fh st.ff
   exact ⟨p1,p2⟩
 · rintro i x H0' H' hi ⟨F0',ys,done,rest',st0,hD0,hFD0,rys0,hgo,hall⟩ hy0
   obtain ⟨_,_,p3⟩:=wd i H0' F0' (ok' st0) st0.fh st0.ff
   obtain ⟨d,F',hd',stw,rd⟩:=p3 x H' hi hy0
   have st:=st0.trans stw
   have hD':H' D=some (.lst ys):=stw.hh _ _ hD0
   have hFD:F' D=none:=by
    cases q:F' D with
    | none=>rfl
    | some o =>
     rcases stw.nw D o q with z | z
     · rw [hFD0] at z;cases z
     · rw [hD0] at z;cases z
   have rys:=rys0.same stw.ff
   rw [hX hd'] at hgo
   unfold dl at hgo
   obtain ⟨δ1,h1,hgo⟩:=bS hgo
   obtain ⟨b,h2,hgo⟩:=bS hgo
   refine ⟨Φ,dC src δ,F',d,δ1,hK,(en1.step st).comp S,rd,h1,fun σ2 l2 k2 en2=>⟨wk l2 k2,Φ,δ1,F',b,hK,en2,h2,fun H3 F3 st3=>?_⟩⟩
   have hD3:H3 D=some (.lst ys):=st3.hh _ _ hD'
   have hF3:F3 D=none:=by
    cases q:F3 D with
    | none=>rfl
    | some o =>
     rcases st3.nw D o q with z | z
     · rw [hFD] at z;cases z
     · rw [hD'] at z;cases z
   dsimp only
   split at hgo
   · rename_i q
     rw [if_pos q]
     obtain ⟨y,hy,hgo⟩:=bS hgo
     obtain ⟨zs,hzs,hgo⟩:=bS hgo
     cases hgo
     refine ⟨Φ,δ1,F3,y,hK,en2.step st3,hy,fun v H4 F4 st4 rv=>?_⟩
     have hD4:H4 D=some (.lst ys):=st4.hh _ _ hD3
     have hF4:F4 D=none:=by
      cases q:F4 D with
      | none=>rfl
      | some o =>
       rcases st4.nw D o q with z | z
       · rw [hF3] at z;cases z
       · rw [hD3] at z;cases z
     have s14:=(st.trans st3).trans st4
     refine ⟨ys,hD4,?_,F4,ys++[v],done++[y],zs,?_,aB,hF4,(rys.same (st3.ff.trans st4.ff)).append (Reps.one rv),hzs,by rw [<- hall];simp⟩
     · have e1:=rys.length
       have e2:all.length=done.length+(zs.length+1):=by rw [<- hall];simp
       omega
     · refine ⟨fun c o e=>?_,s14.ff,fun c o e=>?_,s14.nw⟩
       · rw [aG (b9 e hD)]
         exact s14.hh _ _ e
       · rw [aG (b9 e hF4)]
         exact s14.fh _ _ e
   · rename_i q
     rw [if_neg q]
     exact ⟨F3,ys,done,rest',st.trans st3,hD3,hF3,rys.same st3.ff,hgo,hall⟩
 · rintro H' ⟨F',ys,done,rest',st,hD',hFD,rys,hgo,hall⟩
   rw [List.drop_length] at hgo
   cases hgo
   rw [List.append_nil] at hall
   subst hall
   exact k1 (.ref D) H' F' (fun b=>b=D) st ⟨D,ys,rfl,rfl,hD',rys⟩ fun b z=>by
    subst z
    exact ⟨hFD,hD,_,hD'⟩
def hZ {ts:List Nat} {bb:Dt->De->Option De} (S:CmpScope X.N X.env.scope scope M src) (hc:X.calm=true) (hi:DIB X tg iter fi) (hg:M.Nodup->∀ C s H ex,DG (cxC X M scope C s H ex) tg ts bb)
  (ht:∀ C s H ex,DTs (cxC X M scope C s H ex) ifs ft) (he:∀ C s H ex,DL (cxC X M scope C s H ex) elt fe) (hts:(ts.all fun k=>decide (src[k]?=some none))=true) (hs:∀ x,foldedSetIterable iter X.env x=pure x:=by intro _;rfl) :
  DO X (.ListComp elt [⟨tg,iter,ifs,0⟩] scope pos) (ce src fi bb ft fe):=PE.mono (mZ (g:=gD X.K ts bb) (tt:=tTr X.K ft) (te:=tL X.K fe) S hc hi (fun nd C s H ex=>hg nd C s H ex) (fun C s H ex=>ht C s H ex) (fun C s H ex=>he C s H ex) hs) (p8 S hts)
end
def lW (m:Nat) (g:De->Option Out):List Dt->Option T:=fun ds=>match g (ds.map (fun d=>some (T.leaf d))++List.replicate (m-ds.length) none) with
 | some (.rt t)=>some t
 | some (.nx _)=>some (.leaf .non)
 | _=>none
def m6 {K:PySem.W.Frag} {F H:Hp} {ds:List Dt} {vs:List V} {N:List Str} (fh:Same F H) (r:Reps K F ds vs) :
  En ⟨K,F,H,fun _=>False⟩ (ds.map (fun d=>some (T.leaf d))++List.replicate (N.length-ds.length) none) (du N vs) F H:=by
 have hl:=r.length
 have key:∀ (i:Nat) (t:T),(ds.map (fun d=>some (T.leaf d))++List.replicate (N.length-ds.length) none)[i]?=some (some t)->∃ d v,t=T.leaf d/\vs[i]?=some v/\Rep K F d v/\(du N vs)[i]?=some (some v):=fun i t h=>by
  by_cases hi:i<ds.length
  · rw [List.getElem?_append_left (by simpa using hi),List.getElem?_map] at h
    have hd:ds[i]?=some ds[i]:=by simp [hi]
    rw [hd] at h
    cases h
    obtain ⟨v,hv,rv⟩:=r.get hd
    refine ⟨_,v,rfl,hv,rv,?_⟩
    unfold du
    rw [List.getElem?_append_left (by simp;omega),List.getElem?_map,hv]
    rfl
  · rw [List.getElem?_append_right (by simpa using hi)] at h
    rw [List.getElem?_replicate] at h
    split at h<;>cases h
 refine ⟨fh,fun b o h _=>h,Same.refl _,fun b o h=>.inl h,by simp [du,hl],fun i t h=>?_,fun _ _=>False,fun i t v h=>?_,fun _ _ z=>z.elim,fun _ _ _ z=>z.elim⟩
 · obtain ⟨d,v,_,_,_,e⟩:=key i t h
   exact ⟨v,e⟩
 · obtain ⟨h1,h2⟩:=fW h
   obtain ⟨d,w,rfl,_,rv,e⟩:=key i t h1
   rw [h2] at e
   cases e
   exact rv
section
variable {P:Program} {w:World} {K:PySem.W.Frag} {mg:Str->Option Value} {base:Heap}
def Rt.step {F H:Hp} {t:T} {v:V} {F' H':Hp} (h:Rt ⟨K,F,H,fun _=>False⟩ t v F' H') {Q:VK} (k:KO K F H t Q):Q v H':=by
 obtain ⟨fh,prot,old,nw,S,o,hs⟩:=h
 refine k v H' F' S ⟨fun b u e=>prot b u e id,old,fh,fun b u e=>(nw b u e).elim .inl fun z=>z.elim .inr False.elim⟩ o fun b z=>?_
 obtain ⟨h1,h2,h3⟩:=hs b z
 exact ⟨h1,h3.elim id False.elim,h2⟩
def kM {x:Str} {st:Stmt} {N ps:List Str} {k n:Nat} {g:De->Option Out} (D:DefF K mg x st ps) (S:FnScope N ps (ac st)) (hn:ps.length=n)
  (hbody:∀ (f:Addr) (cdv:Value) (A:Around) (outer:List Env) (s:Shared) (H:Hp) (E:XK),Room k (A.deeper (envOfC x (ac st) s.heap.objs.size f cdv))->DS (iT CX0 P w K mg base N x (ac st) f cdv A outer s H E).nox (aO st) g) :
  OkF P w K mg base x (k+1) ps (spD K n (lW N.length g)):=by
 refine D.ok S (fun vs H Q E h=>?_) (fun f cdv A outer s H vs Q E hr h=>?_)
 · obtain ⟨F,ds,t,_,hl,r,_⟩:=h
   rw [r.length,hl,hn]
 · obtain ⟨F,ds,t,fh,hl,r,hf,kq⟩:=h
   refine ⟨_,hbody f cdv A outer s H E hr,?_⟩
   unfold lW at hf
   split at hf
   · rename_i t' q
     cases hf
     exact ⟨⟨K,F,H,fun _=>False⟩,_,F,_,rfl,m6 fh r,q,fun v F' H' z=>z.step kq⟩
   · rename_i δ' q
     cases hf
     exact ⟨⟨K,F,H,fun _=>False⟩,_,F,_,rfl,m6 fh r,q,fun σ' F' H' z=>(z.rt (Step.refl z.fh) (t:=.leaf .non) (S:=fun _=>False) (p5 (K:=K) (F:=F')) fun _ y=>y.elim).step kq⟩
   · cases hf
end
section
variable {K:PySem.W.Frag} {F H:Hp} {Q:VK}
def KO.int {i:Int} (k:KO K F H (.leaf (.int i)) Q) (fh:Same F H):Q (.int i) H:=k.leaf.here fh jd
def KO.bl {i:Bool} (k:KO K F H (.leaf (.bl i)) Q) (fh:Same F H):Q (.bl i) H:=k.leaf.here fh oG
def KO.str {i:Str} (k:KO K F H (.leaf (.str i)) Q) (fh:Same F H):Q (.str i) H:=k.leaf.here fh je
def KO.tup {l:List Dt} {vs:List V} {p:Addr} (k:KO K F H (.leaf (.tup l)) Q) (fh:Same F H) (r:Reps K F l vs) (hp:H p=none):Q (.ref p) (upd H p (.tup vs)):=by
 refine k.leaf _ _ _ (Step.new fh hp) ?_
 simp only [Rep]
 exact ⟨p,vs,rfl,SqT.of aB,r.same (Same.upd (fh.free hp))⟩
end
def iN (i j:Int):Bool:=(decide (-(2^64)<i)&&decide (i<2^64))||(decide (-(2^64)<j)&&decide (j<2^64))
def vD {i j:Int} (h:iN i j=true):CMul i j:=by
 unfold iN at h
 simp only [Bool.or_eq_true,Bool.and_eq_true,decide_eq_true_eq] at h
 exact h
def vE {i j:Int} (h1:-1000000000000000000<i) (h2:i<1000000000000000000):iN i j=true:=by
 unfold iN
 simp only [Bool.or_eq_true,Bool.and_eq_true,decide_eq_true_eq]
 left
 omega
def vF {i j:Int} (h1:-1000000000000000000<j) (h2:j<1000000000000000000):iN i j=true:=by
 unfold iN
 simp only [Bool.or_eq_true,Bool.and_eq_true,decide_eq_true_eq]
 right
 omega
def m7 (i j:Int):Bool:=decide (0<=j)&&decide (j<=1000000)&&decide (i.natAbs<2^64)
def vG {i j:Int} (h:m7 i j=true):xF i j:=by
 unfold m7 at h
 simp only [Bool.and_eq_true,decide_eq_true_eq] at h
 exact ⟨h.1.1,h.1.2,h.2⟩
def m8 (j:Int):Bool:=decide (0<j)&&decide (j<1073741824)
def vH {i j:Int} (h:m8 j=true):xE i j:=by
 unfold m8 at h
 simp only [Bool.and_eq_true,decide_eq_true_eq] at h
 exact h
noncomputable def cw:Dt->Dt->Option T
 | .int i,.int j=>some (.leaf (.int (i+j)))
 | .str a,.str b=>if a.length+b.length<=sizeLine then some (.leaf (.str (a++b))) else none
 | .lst l,.lst m=>if l.length+m.length<=sizeLine then some (.lst (l++m)) else none
 | .tup l,.tup m=>if l.length+m.length<=sizeLine/\l≠[]/\m≠[] then some (.leaf (.tup (l++m))) else none
 | _,_=>none
def m9:Dt->Dt->Option T
 | .int i,.int j=>some (.leaf (.int (i-j)))
 | _,_=>none
def cp:Dt->Dt->Option T
 | .int i,.int j=>if iN i j then some (.leaf (.int (i*j))) else none
 | _,_=>none
def iW:Dt->Dt->Option T
 | .int i,.int j=>if m8 j then some (.leaf (.int (i/j))) else none
 | _,_=>none
def cQ:Dt->Dt->Option T
 | .int i,.int j=>if 0<j then some (.leaf (.int (i%j))) else none
 | _,_=>none
def j8:Dt->Dt->Option T
 | .int i,.int j=>if m7 i j then some (.leaf (.int (i^j.toNat))) else none
 | _,_=>none
def j9 (f:Int->Int->Bool):Dt->Dt->Option T
 | .int i,.int j=>some (.leaf (.bl (f i j)))
 | _,_=>none
section
variable {X:Cx}
def vI:OpR X (binaryOp .Add) (fun x y H Q=>∃ l b xs zs,x=.ref l/\y=.ref b/\SqL X.K H l xs/\SqL X.K H b zs/\xs.length+zs.length<=sizeLine/\∀ p,H p=none->Q (.ref p) (upd H p (.lst (xs++zs)))):=by
 intro pins s σ H x y v u Q I rx ry h
 obtain ⟨l,b,xs,zs,rfl,rfl,hH,hB,hz,q⟩:=h
 cases rx
 cases ry
 obtain ⟨its,r,pl,_⟩:=I.list hH
 obtain ⟨its2,r2,pl2,_⟩:=I.list hB
 obtain ⟨⟨cls,dd,data,sl⟩,n,ho,hc,hd0,hd⟩:=pl
 obtain ⟨⟨cls2,dd2,data2,sl2⟩,n2,ho2,hc2,hd02,hd2⟩:=pl2
 simp only at hc hd hc2 hd2
 subst hc hd hc2 hd2
 have e:its.toArray++its2.toArray=(its++its2).toArray:=by simp
 refine concat_meets ⟨_,ho,rfl⟩ ⟨_,ho2,rfl⟩ noFill_list_add seq_list_add PySem.F.slot_list_add PySem.F.entry_list_add (PySem.F.args_list_add_2 _ _) (list_addW l b its.toArray its2.toArray n n2 dd dd2 sl sl2 (by rw [List.size_toArray,List.size_toArray,<- r.length,<- r2.length];exact hz)) ⟨ho,ho2,?_⟩
 rw [e]
 exact ⟨.ref _,_,I.lnew (t':=s.toks) (r.append r2) (by rw [List.length_append];exact hz),rfl,q _ I.fresh⟩
noncomputable abbrev wW (K:PySem.W.Frag):R2:=fun x y H Q=>(rI0 (fun i j=>.int (i+j)) x y H Q)∨(∃ i j,x=.str i/\y=.str j/\i.length+j.length<=sizeLine/\Q (.str (i++j)) H)∨
 (∃ l b xs zs,x=.ref l/\y=.ref b/\SqL K H l xs/\SqL K H b zs/\xs.length+zs.length<=sizeLine/\∀ p,H p=none->Q (.ref p) (upd H p (.lst (xs++zs))))∨wL K x y H Q
def bU:OpR X (binaryOp .Add) (wW X.K):=OpR.or xG (OpR.or oe (OpR.or vI pI))
def dQ {K:PySem.W.Frag}:R2D K (wW K) cw:=by
 intro F H x y vx vy Q t fh rx ry hg k
 unfold cw at hg
 split at hg<;>first | (cases hg;done) | skip
 · cases hg;cases rx;cases ry;exact .inl ⟨_,_,rfl,rfl,k.int fh⟩
 · split at hg
   · cases hg;cases rx;cases ry;exact .inr (.inl ⟨_,_,rfl,rfl,by assumption,k.str fh⟩)
   · cases hg
 · split at hg
   · rename_i hl
     cases hg
     obtain ⟨a,vs,rfl,h1,h2⟩:=rx
     obtain ⟨b,ws,rfl,h3,h4⟩:=ry
     exact .inr (.inr (.inl ⟨a,b,vs,ws,rfl,rfl,h1,h3,by rw [h2.length,h4.length];exact hl,fun p hp=>gx k fh (h2.append h4) hp⟩))
   · cases hg
 · split at hg
   · rename_i hl
     cases hg
     obtain ⟨a,vs,rfl,h1,h2⟩:=rx
     obtain ⟨b,ws,rfl,h3,h4⟩:=ry
     obtain ⟨hl,n1,n2⟩:=hl
     refine .inr (.inr (.inr ⟨a,b,vs,ws,rfl,rfl,fh.tup h1,fh.tup h3,fun z=>?_,by rw [h2.length,h4.length];exact hl,fun z=>?_,fun _ p hp=>k.tup fh (h2.append h4) hp⟩))
     · subst z
       have:=h2.length
       exact n1 (List.eq_nil_of_length_eq_zero this.symm)
     · subst z
       have:=h4.length
       exact absurd (List.eq_nil_of_length_eq_zero this.symm) n2
   · cases hg
def wX {K:PySem.W.Frag}:R2D K (rI0 fun i j=>.int (i-j)) m9:=by
 intro F H x y vx vy Q t fh rx ry hg k
 unfold m9 at hg
 split at hg<;>first | (cases hg;done) | skip
 cases hg;cases rx;cases ry;exact ⟨_,_,rfl,rfl,k.int fh⟩
def gF {K:PySem.W.Frag}:R2D K (rI CMul fun i j=>.int (i*j)) cp:=by
 intro F H x y vx vy Q t fh rx ry hg k
 unfold cp at hg
 split at hg<;>first | (cases hg;done) | skip
 split at hg
 · cases hg;cases rx;cases ry;exact ⟨_,_,rfl,rfl,vD (by assumption),k.int fh⟩
 · cases hg
def wY {K:PySem.W.Frag}:R2D K (rI xE fun i j=>.int (i/j)) iW:=by
 intro F H x y vx vy Q t fh rx ry hg k
 unfold iW at hg
 split at hg<;>first | (cases hg;done) | skip
 split at hg
 · cases hg;cases rx;cases ry;exact ⟨_,_,rfl,rfl,vH (by assumption),k.int fh⟩
 · cases hg
def fP {K:PySem.W.Frag}:R2D K (rI (fun _ j=>0<j) fun i j=>.int (i%j)) cQ:=by
 intro F H x y vx vy Q t fh rx ry hg k
 unfold cQ at hg
 split at hg<;>first | (cases hg;done) | skip
 split at hg
 · cases hg;cases rx;cases ry;exact ⟨_,_,rfl,rfl,by assumption,k.int fh⟩
 · cases hg
def wZ {K:PySem.W.Frag}:R2D K (rI xF fun i j=>.int (i^j.toNat)) j8:=by
 intro F H x y vx vy Q t fh rx ry hg k
 unfold j8 at hg
 split at hg<;>first | (cases hg;done) | skip
 split at hg
 · cases hg;cases rx;cases ry;exact ⟨_,_,rfl,rfl,vG (by assumption),k.int fh⟩
 · cases hg
def na {K:PySem.W.Frag} {f:Int->Int->Bool}:R2D K (rI0 fun i j=>.bl (f i j)) (j9 f):=by
 intro F H x y vx vy Q t fh rx ry hg k
 unfold j9 at hg
 split at hg<;>first | (cases hg;done) | skip
 cases hg;cases rx;cases ry;exact ⟨_,_,rfl,rfl,k.bl fh⟩
noncomputable def eqD:Dt->Dt->Option Bool
 | .non,.non=>some true
 | .non,.int _=>some false
 | .non,.bl _=>some false
 | .non,.str _=>some false
 | .int _,.non=>some false
 | .bl _,.non=>some false
 | .str _,.non=>some false
 | .int i,.int j=>some (decide (i=j))
 | .bl i,.bl j=>some (decide (i=j))
 | .str i,.str j=>some (decide (i=j))
 | .int _,.str _=>some false
 | .str _,.int _=>some false
 | .bl _,.str _=>some false
 | .str _,.bl _=>some false
 | .tup l,.tup m=>if cmpbs l m&&decide (deeps l<=59) then some (peqs l m) else none
 | .lst l,.lst m=>if cmpbs l m&&decide (deeps l<=59) then some (peqs l m) else none
 | _,_=>none
def gEq (neg:Bool) (x y:Dt):Option T:=(eqD x y).map fun b=>.leaf (.bl (if neg then !b else b))
abbrev rEqA (K:PySem.W.Frag):R2:=fun x y H Q=>rEq x y H Q∨vp K false x y H Q
abbrev rNeA (K:PySem.W.Frag):R2:=fun x y H Q=>rNe x y H Q∨vp K true x y H Q
def gO {k:Nat} (hr:Room k X.A):OpR X (compareOp .Eq) (rEqA X.K):=OpR.or yY (xW hr rfl)
def oJ {k:Nat} (hr:Room k X.A):OpR X (compareOp .NotEq) (rNeA X.K):=OpR.or yZ (xX hr rfl)
def sW {K:PySem.W.Frag} {F H:Hp} {x y:Dt} {vx vy:V} {b:Bool} (fh:Same F H) (rx:RepB K F H x vx) (ry:RepB K F H y vy) (h:eqD x y=some b) :
  (xH vx vy=true/\b=decide (vx=vy))∨(((∃ l m,x=.tup l/\y=.tup m)∨∃ l m,x=.lst l/\y=.lst m)/\dW x y=true/\hU x<=60/\b=peq x y):=by
 unfold eqD at h
 split at h<;>first
  | (cases h;done)
  | (cases h;cases rx;cases ry;left;refine ⟨rfl,?_⟩;simp;done)
  | skip
 · right
   split at h
   · rename_i q
     simp only [Bool.and_eq_true,decide_eq_true_eq] at q
     cases h
     exact ⟨.inl ⟨_,_,rfl,rfl⟩,by simp only [dW];exact q.1,by simp only [hU];omega,by simp only [peq]⟩
   · cases h
 · right
   split at h
   · rename_i q
     simp only [Bool.and_eq_true,decide_eq_true_eq] at q
     cases h
     exact ⟨.inr ⟨_,_,rfl,rfl⟩,by simp only [dW];exact q.1,by simp only [hU];omega,by simp only [peq]⟩
   · cases h
def oK {K:PySem.W.Frag}:R2D K (rEqA K) (gEq false):=by
 intro F H x y vx vy Q t fh rx ry hg k
 unfold gEq at hg
 obtain ⟨b,hb,hg⟩:=mS hg
 cases hg
 have kk:Q (.bl b) H:=k.bl fh
 rcases sW fh rx ry hb with ⟨h1,rfl⟩ | ⟨h1,h2,h3,rfl⟩
 · exact .inl ⟨h1,kk⟩
 · exact .inr ⟨x,y,h1,rx.rep fh,ry.rep fh,h2,h3,kk⟩
def yc {K:PySem.W.Frag}:R2D K (rNeA K) (gEq true):=by
 intro F H x y vx vy Q t fh rx ry hg k
 unfold gEq at hg
 obtain ⟨b,hb,hg⟩:=mS hg
 cases hg
 have kk:Q (.bl (!b)) H:=k.bl fh
 rcases sW fh rx ry hb with ⟨h1,rfl⟩ | ⟨h1,h2,h3,rfl⟩
 · exact .inl ⟨h1,kk⟩
 · exact .inr ⟨x,y,h1,rx.rep fh,ry.rep fh,h2,h3,kk⟩
def sX:Dt->Bool
 | .non=>true
 | _=>false
def gIs (neg:Bool) (x y:Dt):Option T:=match y with
 | .non=>some (.leaf (.bl (if neg then !sX x else sX x)))
 | _=>none
def nc {K:PySem.W.Frag} {F H:Hp} {x:Dt} {v:V} (r:RepB K F H x v):sX x=decide (v=.non):=by
 cases x<;>first
  | (cases r;rfl)
  | (obtain ⟨a,vs,rfl,_⟩:=r;rfl)
  | (simp only [RepB,Rep] at r;obtain ⟨a,C,dx,fs,rfl,_⟩:=r;rfl)
def r_is {K:PySem.W.Frag}:R2D K (fun x y H Q=>y=.non/\Q (.bl (decide (x=.non))) H) (gIs false):=by
 intro F H x y vx vy Q t fh rx ry hg k
 cases y<;>first | cases hg;done | skip
 cases hg;cases ry
 refine ⟨rfl,?_⟩
 rw [<- nc rx]
 exact k.bl fh
def vJ {K:PySem.W.Frag}:R2D K (fun x y H Q=>y=.non/\Q (.bl (!decide (x=.non))) H) (gIs true):=by
 intro F H x y vx vy Q t fh rx ry hg k
 cases y<;>first | cases hg;done | skip
 cases hg;cases ry
 refine ⟨rfl,?_⟩
 rw [<- nc rx]
 exact k.bl fh
def iO:Dt->Bool
 | .non=>true
 | .bl _=>true
 | .int _=>true
 | .str _=>true
 | _=>false
def eqF:Dt->Dt->Bool
 | .non,.non=>true
 | .bl a,.bl b=>a==b
 | .bl a,.int b=>(if a then 1 else 0)==b
 | .int a,.bl b=>a==(if b then 1 else 0)
 | .int a,.int b=>a==b
 | .str a,.str b=>a==b
 | _,_=>false
def inS (j i:Str):Bool:=!(Builtin.Str.occurrences j i 0 j.length 1).isEmpty
def inD:Dt->Dt->Option Bool
 | .str i,.str j=>some (inS j i)
 | x,.lst l=>if iO x&&l.all iO then some (l.any fun y=>eqF y x) else none
 | x,.tup l=>if iO x&&l.all iO then some (l.any fun y=>eqF y x) else none
 | _,_=>none
def ng {K:PySem.W.Frag} {F:Hp} {l:List Dt} {vs:List V} {i:Int} {d:Dt} (r:Reps K F l vs) (h:atI l i=some d):∃ v,atI vs i=some v/\Rep K F d v:=by
 unfold atI at h ⊢
 rw [r.length]
 obtain ⟨j,hj,h⟩:=bS h
 obtain ⟨v,e,rv⟩:=r.get h
 exact ⟨v,by rw [hj];exact e,rv⟩
def gIx:Dt->Dt->Option T
 | .lst l,.int i=>(atI l i).map .leaf
 | .tup l,.int i=>(atI l i).map .leaf
 | .str x,.int i=>if x.length<=sizeLine then (atI x.cps.toList i).map fun c=>.leaf (.str ⟨#[c]⟩) else none
 | _,_=>none
def r_ix {K:PySem.W.Frag}:R2D K (rIx K) gIx:=by
 intro F H x y vx vy Q t fh rx ry hg k
 unfold gIx at hg
 split at hg<;>first | (cases hg;done) | skip
 · obtain ⟨d,hd,hg⟩:=mS hg
   cases hg;cases ry
   obtain ⟨a,vs,rfl,h1,h2⟩:=rx
   obtain ⟨v,e,rv⟩:=ng h2 hd
   exact .inl ⟨a,vs,_,v,rfl,rfl,h1,e,k.leaf.here fh rv⟩
 · obtain ⟨d,hd,hg⟩:=mS hg
   cases hg;cases ry
   obtain ⟨a,vs,rfl,h1,h2⟩:=rx
   obtain ⟨v,e,rv⟩:=ng h2 hd
   exact .inr (.inl ⟨a,vs,_,v,rfl,rfl,fh.tup h1,e,k.leaf.here fh rv⟩)
 · split at hg
   · rename_i hl
     obtain ⟨c,hc,hg⟩:=mS hg
     cases hg;cases rx;cases ry
     exact .inr (.inr ⟨_,_,c,rfl,rfl,hl,hc,k.str fh⟩)
   · cases hg
variable {a b c:Expr} {fa fb fc:De->Option Dt} {pos:Pos}
def vK (l:List Dt) (lo hi:Option Int):List Dt:=(l.drop (HT.sIx l.length 0 lo)).take (HT.sIx l.length l.length hi-HT.sIx l.length 0 lo)
noncomputable def gSl:Dt->Option Int->Option Int->Option T
 | .str x,lo,hi=>if x.length<=sizeLine then some (.leaf (.str (Txt.slice x lo hi))) else none
 | .lst l,lo,hi=>some (.lst (vK l lo hi))
 | .tup l,lo,hi=>if HT.sIx l.length 0 lo=0/\HT.sIx l.length l.length hi=l.length then none else some (.leaf (.tup (vK l lo hi)))
 | _,_,_=>none
abbrev rSlA (K:PySem.W.Frag):V->Option Int->Option Int->Hp->VK->Prop:=fun x lo hi H Q=>rSlS x lo hi H Q∨rSlL K x lo hi H Q∨rSlT K x lo hi H Q
def yd:SlR X (rSlA X.K):=SlR.or xT (SlR.or vd xN)
def ni {K:PySem.W.Frag} {F:Hp} {l:List Dt} {vs:List V} (r:Reps K F l vs) (lo hi:Option Int):Reps K F (vK l lo hi) (mR vs lo hi):=by
 unfold vK mR
 rw [r.length]
 exact (r.drop _).take _
def r_sl {K:PySem.W.Frag} {F H:Hp} {x:Dt} {v:V} {lo hi:Option Int} {Q:VK} {t:T} (fh:Same F H) (rx:RepB K F H x v) (hg:gSl x lo hi=some t) (k:KO K F H t Q):rSlA K v lo hi H Q:=by
 unfold gSl at hg
 split at hg<;>first | (cases hg;done) | skip
 · split at hg
   · cases hg;cases rx
     exact .inl ⟨_,rfl,by assumption,k.str fh⟩
   · cases hg
 · obtain ⟨a,vs,rfl,h1,h2⟩:=rx
   cases hg
   exact .inr (.inl ⟨a,vs,rfl,h1,fun p hp=>gx k fh (ni h2 _ _) hp⟩)
 · obtain ⟨a,vs,rfl,h1,h2⟩:=rx
   split at hg
   · cases hg
   · rename_i hn
     cases hg
     rw [<- h2.length] at hn
     exact .inr (.inr ⟨a,vs,rfl,fh.tup h1,hn,fun p hp=>k.tup fh (ni h2 _ _) hp⟩)
def tOD (K:PySem.W.Frag) (f:De->Option (Option Int)):TO:=fun σ H Q=>∃ Φ δ F d,Fm.K Φ=K/\En Φ δ σ F H/\f δ=some d/\∀ H' F',Step F H F' H'->Q d H'
def asI:Dt->Option Int
 | .int i=>some i
 | _=>none
def iP (f:De->Option Dt):De->Option (Option Int):=fun δ=>(f δ).bind fun d=>(asI d).map some
def nj {K:PySem.W.Frag} {F H:Hp} {x:Dt} {v:V} {b:Int} (h:asI x=some b) (r:RepB K F H x v):v=.int b:=by
 cases x<;>first | cases h;done | skip
 cases h;exact r
def DP (X:Cx) (e:Option Expr) (f:De->Option (Option Int)):Prop:=PO X e (tOD X.K f)
def p9 {e:Expr} {f:De->Option Dt} (h:DB X e f):DP X (some e) (iP f):=fun pins s σ H Q I q=>vc h pins s σ H Q I (by
 obtain ⟨Φ,δ,F,d,hK,en,hf,k⟩:=q
 unfold iP at hf
 obtain ⟨x,hx,hf⟩:=bS hf
 obtain ⟨i,hi,hf⟩:=mS hf
 cases hf
 exact ⟨Φ,δ,F,x,hK,en,hx,fun v H' F' st r=>⟨i,nj hi r,k H' F' st⟩⟩)
def vSl (fa:De->Option Dt) (fl fh:De->Option (Option Int)):De->Option T:=fun δ=>(fa δ).bind fun x=>(fl δ).bind fun l=>(fh δ).bind fun h=>gSl x l h
def sY {e:Expr} {lo hi:Option Expr} {p2:Pos} {f:De->Option Dt} {fl fh:De->Option (Option Int)} (he:DB X e f) (hl:DP X lo fl) (hh:DP X hi fh):DO X (.Subscript e (.Slice lo hi none p2) pos) (vSl f fl fh):=
 PE.mono (sq yd he hl hh) fun σ H Q ⟨Φ,δ,F,t,hK,en,hf,k⟩=>by
  unfold vSl at hf
  obtain ⟨x,hx,hf⟩:=bS hf
  obtain ⟨l,hl,hf⟩:=bS hf
  obtain ⟨h,hh,hf⟩:=bS hf
  exact ⟨Φ,δ,F,x,hK,en,hx,fun v H1 F1 s1 r1=>⟨Φ,δ,F1,l,hK,en.step s1,hl,fun H2 F2 s2=>⟨Φ,δ,F2,h,hK,en.step (s1.trans s2),hh,fun H3 F3 s3=>r_sl s3.fh (r1.step (s2.ff.trans s3.ff) (s2.hh.trans s3.hh)) hf (k.step ((s1.trans s2).trans s3))⟩⟩⟩
def fF:List Dt->Option T
 | [.str x]=>if x.length<=sizeLine then some (.leaf (.int x.length)) else none
 | [.tup l]=>some (.leaf (.int l.length))
 | [.lst l]=>some (.leaf (.int l.length))
 | _=>none
def eR {K:PySem.W.Frag} {F H:Hp} {d:Dt} {vs:List V} (r:kH K F H [d] vs):∃ v,vs=[v]/\RepB K F H d v:=by
 obtain ⟨v,ws,rfl,h1,h2⟩:=r
 cases h2
 exact ⟨v,rfl,h1⟩
def gG {K:PySem.W.Frag}:CRD K (fun xs H Q=>∃ x n,xs=[x]/\LenV K x H n/\Q (.int n) H) fF:=by
 intro F H ds vs Q t fh r hg k
 unfold fF at hg
 split at hg<;>first | (cases hg;done) | skip
 · split at hg
   · rename_i hl
     cases hg
     obtain ⟨v,rfl,rv⟩:=eR r
     cases rv
     exact ⟨_,_,rfl,⟨hl,rfl⟩,k.int fh⟩
   · cases hg
 · cases hg
   obtain ⟨v,rfl,rv⟩:=eR r
   obtain ⟨a,vs,rfl,h1,h2⟩:=rv
   rw [<- h2.length] at k
   exact ⟨_,_,rfl,.inr ⟨vs,fh.tup h1,rfl⟩,k.int fh⟩
 · cases hg
   obtain ⟨v,rfl,rv⟩:=eR r
   obtain ⟨a,vs,rfl,h1,h2⟩:=rv
   rw [<- h2.length] at k
   exact ⟨_,_,rfl,.inl ⟨vs,h1,rfl⟩,k.int fh⟩
def jF:List Dt->Option (List Bool)
 | []=>some []
 | .bl b::r=>(jF r).map (b::·)
 | _=>none
def nl {K:PySem.W.Frag} {F:Hp}:∀ {l:List Dt} {vs:List V} {bs:List Bool},Reps K F l vs->jF l=some bs->vs=bs.map V.bl
 | [],vs,bs,r,h=>by cases h;simp only [Reps] at r;exact r
 | d::l,vs,bs,r,h=>by
  cases d<;>first | cases h;done | skip
  simp only [jF] at h
  obtain ⟨cs,hc,h⟩:=mS h
  cases h
  simp only [Reps,Rep] at r
  obtain ⟨v,ws,rfl,rfl,r2⟩:=r
  rw [nl r2 hc]
  rfl
def oM (f:List Bool->Bool):List Dt->Option T
 | [.lst l]=>(jF l).map fun bs=>.leaf (.bl (f bs))
 | _=>none
def w4 {K:PySem.W.Frag} {f:List Bool->Bool}:CRD K (fun xs H Q=>∃ (a:Addr) (bs:List Bool),xs=[.ref a]/\SqL K H a (bs.map V.bl)/\Q (.bl (f bs)) H) (oM f):=by
 intro F H ds vs Q t fh r hg k
 unfold oM at hg
 split at hg<;>first | (cases hg;done) | skip
 obtain ⟨bs,hb,hg⟩:=mS hg
 cases hg
 obtain ⟨v,rfl,rv⟩:=eR r
 obtain ⟨a,vs,rfl,h1,h2⟩:=rv
 have:=nl h2 hb
 subst this
 exact ⟨a,bs,rfl,h1,k.bl fh⟩
def cx:List Dt->Option T
 | [.lst l]=>some (.leaf (.tup l))
 | [.tup l]=>some (.leaf (.tup l))
 | _=>none
def jf {K:PySem.W.Frag}:CRD K (fun xs H Q=>∃ p ys,xs=[.ref p]/\((SqL K H p ys/\∀ l,H l=none->Q (.ref l) (upd H l (.tup ys)))∨(SqT K H p ys/\Q (.ref p) H))) cx:=by
 intro F H ds vs Q t fh r hg k
 unfold cx at hg
 split at hg<;>first | (cases hg;done) | skip
 · cases hg
   obtain ⟨v,rfl,rv⟩:=eR r
   obtain ⟨a,vs,rfl,h1,h2⟩:=rv
   exact ⟨a,vs,rfl,.inl ⟨h1,fun p hp=>k.tup fh h2 hp⟩⟩
 · cases hg
   obtain ⟨v,rfl,rv⟩:=eR r
   rename_i l
   have rv':Rep K F (.tup l) v:=by simp only [Rep];exact rv
   obtain ⟨a,vs,rfl,h1,h2⟩:=rv
   exact ⟨a,vs,rfl,.inr ⟨fh.tup h1,k.leaf.here fh rv'⟩⟩
def kN:List Dt->Option T
 | [.lst l]=>some (.lst l)
 | [.tup l]=>some (.lst l)
 | _=>none
def oN {K:PySem.W.Frag}:CRD K (fun xs H Q=>∃ p ys,xs=[.ref p]/\(SqL K H p ys∨SqT K H p ys)/\∀ l,H l=none->Q (.ref l) (upd H l (.lst ys))) kN:=by
 intro F H ds vs Q t fh r hg k
 unfold kN at hg
 split at hg<;>first | (cases hg;done) | skip
 · cases hg
   obtain ⟨v,rfl,rv⟩:=eR r
   obtain ⟨a,vs,rfl,h1,h2⟩:=rv
   exact ⟨a,vs,rfl,.inl h1,fun p hp=>gx k fh h2 hp⟩
 · cases hg
   obtain ⟨v,rfl,rv⟩:=eR r
   obtain ⟨a,vs,rfl,h1,h2⟩:=rv
   exact ⟨a,vs,rfl,.inr (fh.tup h1),fun p hp=>gx k fh h2 hp⟩
end
section
variable {X:Cx} {o a b e c:Expr} {es:List Expr} {fa fb fo fe:De->Option Dt} {fs:De->Option (List Dt)} {pos apos cpos p:Pos} {x:Str} {sc:Scope} {i:Nat}
def nn:Dt->Bool
 | .ins _ _ _=>true
 | _=>false
def tyD:Dt->String
 | .ins _ _ _=>"object"
 | .non=>"NoneType"
 | .bl _=>"bool"
 | .int _=>"int"
 | .str _=>"str"
 | .tup _=>"tuple"
 | .lst _=>"list"
 | .dct _ _=>"dict"
 | .dcT _ _=>"dict"
noncomputable def w6 (c:String):Dt->Bool
 | .ins _ _ _=>false
 | .non=>c=="NoneType"
 | .bl _=>c=="bool"||c=="int"
 | .int _=>c=="int"
 | .str _=>c=="str"
 | .tup _=>c=="tuple"
 | .lst _=>c=="list"
 | .dct _ _=>c=="dict"
 | .dcT _ _=>c=="dict"
def oO {pins:List (Addr×Obj)} {σ:St} {H:Hp} {s:Shared} {A:Around} {E:Value->Shared->Prop} {Q:Value->Shared->Prop} {c:Value} {b:Bool} {v:V} {u:Value} {d:Dt} (I:Inv X pins σ H s) (rx:RelV v u) (r:Rep X.K H d v) (hi:nn d=false) (e:PySem.W.kitOne X.K (.type (tyD d)) c=some b) (h:∀ tk,Q (.bool b) {s with toks:=tk}) :
  wpAny (model X.prog X.w) A (call (.builtin "isinstance") [u,c]) Q E s:=by
 cases d with
 | non=>simp only [Rep] at r;subst r;exact gt I rx .non e h
 | bl y=>simp only [Rep] at r;subst r;exact gt I rx (.bl y) e h
 | int y=>simp only [Rep] at r;subst r;exact gt I rx (.int y) e h
 | str y=>simp only [Rep] at r;subst r;exact gt I rx (.str y) e h
 | tup l =>
  simp only [Rep] at r
  obtain ⟨a,vs,rfl,h1,h2⟩:=r
  cases rx
  obtain ⟨its,_,pl,_⟩:=I.tuple h1
  obtain ⟨o,e1,e2,_⟩:=pl
  exact PySem.W.kia_one PySem.W.kitx_tuple I.kIn ⟨o,e1,e2⟩ e (fun z=>nomatch z) h
 | lst l =>
  simp only [Rep] at r
  obtain ⟨a,vs,rfl,h1,h2⟩:=r
  cases rx
  obtain ⟨its,_,pl,_⟩:=I.list h1
  obtain ⟨o,n,e1,e2,_⟩:=pl
  exact PySem.W.kia_one PySem.W.kitx_list I.kIn ⟨o,e1,e2⟩ e (fun z=>nomatch z) h
 | dct ks l =>
  simp only [Rep] at r
  obtain ⟨a,kvs,rfl,h1,_⟩:=r
  cases rx
  obtain ⟨_,_,vs,_,p⟩:=pL I.hok h1
  obtain ⟨o,es,ep,e1,e2,_⟩:=p
  exact PySem.W.kia_one PySem.W.kitx_dict I.kIn ⟨o,e1,e2.1⟩ e (fun z=>nomatch z) h
 | dcT ks l =>
  simp only [Rep] at r
  obtain ⟨a,kvs,rfl,h1,_⟩:=r
  cases rx
  obtain ⟨_,_,xs,_,o,es,ep,e1,e2,_⟩:=(show ObjOk X.prog X.w H s.heap a (.dT kvs) from h1.ok I.hok)
  exact PySem.W.kia_one PySem.W.kitx_dict I.kIn ⟨o,e1,e2.1⟩ e (fun z=>nomatch z) h
 | ins c ns l=>cases hi
def jG (K:PySem.W.Frag) (c:String):Prop:=∀ d:Dt,nn d=false->PySem.W.kitOne K (.type (tyD d)) (.type c)=some (w6 c d)
def oP:dL X (.builtin "isinstance") (fun xs H Q=>∃ v c d b,xs=[v,.ty c]/\Rep X.K H d v/\nn d=false/\PySem.W.kitOne X.K (.type (tyD d)) (.type c)=some b/\Q (.bl b) H):=by
 intro pins s σ H xs us Q I r h
 obtain ⟨v,c,d,b,rfl,rd,hi,e,q⟩:=h
 obtain ⟨u,w',rfl,ru,rw'⟩:=wI r
 cases rw'
 exact oO I ru rd hi e fun tk=>⟨.bl b,H,I.tok _,rfl,q⟩
def h9 (c:String) (f:De->Option Dt):De->Option T:=fun δ=>(f δ).bind fun d=>if nn d then none else some (.leaf (.bl (w6 c d)))
def db {cn:Str} {cs:String} {p1 p2:Pos} (h:bj sc "isinstance"=true) (hcn:bj sc cn=true) (hm:X.mg "isinstance"=none) (hmc:X.mg cn=none) (hv:bootBuiltins cn=some (.type cs)) (hk:jG X.K cs) (ha:DB X a fa) (e1:cW X sc:=by rfl)
  (he:starEach [a,.Name cn p2] X.env=(false,eval a X.env)::starEach [.Name cn p2] X.env:=by rfl) (he2:starEach [.Name cn p2] X.env=(false,eval (.Name cn p2) X.env)::starEach [] X.env:=by rfl) (hpl:(backTo pos (starEach [.Name cn p2] X.env)).any (·.1)=false:=by rfl) :
  DO X (.Call (.Name "isinstance" p1) [a,.Name cn p2] [] pos) (h9 cs fa):=
 PE.mono (kF h oP hm j6 (dg ha (dg (sL (v:=.ty cs) hcn hmc hv rfl e1) fq he2) he) e1 he hpl) fun σ H Q ⟨Φ,δ,F,t,hK,en,hf,k⟩=>by
  unfold h9 at hf
  obtain ⟨d,hd,hf⟩:=bS hf
  cases hi:nn d with
  | true=>rw [hi] at hf;cases hf
  | false =>
   rw [hi] at hf
   cases hf
   exact ⟨Φ,δ,F,d,hK,en,hd,fun v H' F' st r=>⟨v,cs,d,_,rfl,r.rep st.fh,hi,hk d hi,(k.step st).bl st.fh⟩⟩
def MRD (K:PySem.W.Frag) (r:V->List V->Hp->VK->Prop) (g:Dt->List Dt->Option T):Prop:=∀ F H d v ds vs (Q:VK) t,Same F H->RepB K F H d v->kH K F H ds vs->g d ds=some t->KO K F H t Q->r v vs H Q
def qa (g:Dt->List Dt->Option T) (fo:De->Option Dt) (fs:De->Option (List Dt)):De->Option T:=fun δ=>(fo δ).bind fun d=>(fs δ).bind fun ds=>g d ds
def ye {name:Str} {id:String} {r:V->List V->Hp->VK->Prop} {g:Dt->List Dt->Option T} (slot:Slot "str" name id) (hty:typeOf (.builtin id)=pure (.type "method_descriptor")) (hm:MtR X id r) (hr:MRD X.K r g) (hg:∀ d ds t,g d ds=some t->∃ z,d=.str z)
  (ho:DB X o fo) (ha:DAB X (e::es) fs)
  (hbase:attributeBase o name X.env (eval o X.env)=eval o X.env:=by rfl)
  (hfew:((backTo cpos (starEach (e::es) X.env)).all (fun x=>!x.1)&&(backToKw cpos (keywordEach [] X.env)).all (fun x=>x.1.isSome)
   && decide ((e::es).length+([]:List Keyword).length+(if ([]:List Keyword).isEmpty then 0 else 1)<30))=true:=by rfl)
  (hline:(apos.endLine==cpos.line)=true:=by rfl) (hs:starEach (e::es) X.env=(false,eval e X.env)::starEach es X.env:=by rfl) (hplain:(backTo cpos (starEach es X.env)).any (·.1)=false:=by rfl) :
  DO X (.Call (.Attribute o name apos) (e::es) [] cpos) (qa g fo fs):=PE.mono (pK PySem.F.plainAttrs_str slot hty hm ho ha.pa hbase hfew hline hs hplain) fun σ H Q ⟨Φ,δ,F,t,hK,en,hf,k⟩=>by
 unfold qa at hf
 obtain ⟨d,hd,hf⟩:=bS hf
 obtain ⟨ds,hds,hf⟩:=bS hf
 refine ⟨Φ,δ,F,d,hK,en,hd,fun v H1 F1 st rv=>⟨?_,Φ,δ,F1,ds,hK,en.step st,hds,fun vs H2 F2 st2 rvs=>hr F2 H2 d v ds vs Q t st2.fh (rv.step st2.ff st2.hh) rvs hf (k.step (st.trans st2))⟩⟩
 obtain ⟨z,rfl⟩:=hg d ds t hf
 cases rv
 rfl
def eU:List Dt->Option (List Str)
 | []=>some []
 | .str b::r=>(eU r).map (b::·)
 | _=>none
def iD {K:PySem.W.Frag} {F:Hp}:∀ {l:List Dt} {vs:List V} {bs:List Str},Reps K F l vs->eU l=some bs->vs=bs.map V.str
 | [],vs,bs,r,h=>by cases h;simp only [Reps] at r;exact r
 | d::l,vs,bs,r,h=>by
  cases d<;>first | cases h;done | skip
  simp only [eU] at h
  obtain ⟨cs,hc,h⟩:=mS h
  cases h
  simp only [Reps,Rep] at r
  obtain ⟨v,ws,rfl,rfl,r2⟩:=r
  rw [iD r2 hc]
  rfl
def gS:Dt->List Dt->Option T
 | .str a,[.lst l]=>(eU l).bind fun ts=>if JoinOk a ts then some (.leaf (.str (Txt.join a ts))) else none
 | _,_=>none
def vM {K:PySem.W.Frag}:MRD K (fun x vs H Q=>∃ (a:Str) (l:Addr) (ts:List Str),x=.str a/\vs=[.ref l]/\SqL K H l (ts.map V.str)/\JoinOk a ts=true/\Q (.str (Txt.join a ts)) H) gS:=by
 intro F H d v ds vs Q t fh rd rs hg k
 unfold gS at hg
 split at hg<;>first | cases hg;done | skip
 obtain ⟨ts,ht,hg⟩:=bS hg
 split at hg
 · rename_i hj
   cases hg
   cases rd
   obtain ⟨v,rfl,rv⟩:=eR rs
   obtain ⟨a,vs,rfl,h1,h2⟩:=rv
   have:=iD h2 ht
   subst this
   exact ⟨_,a,ts,rfl,rfl,h1,hj,k.str fh⟩
 · cases hg
def oQ:∀ d ds t,gS d ds=some t->∃ z,d=.str z:=fun d ds t h=>by
 unfold gS at h
 split at h
 · exact ⟨_,rfl⟩
 · cases h
def vN (ho:DB X o fo) (ha:DAB X (e::es) fs)
  (hbase:attributeBase o "join" X.env (eval o X.env)=eval o X.env:=by rfl)
  (hfew:((backTo cpos (starEach (e::es) X.env)).all (fun x=>!x.1)&&(backToKw cpos (keywordEach [] X.env)).all (fun x=>x.1.isSome)
   && decide ((e::es).length+([]:List Keyword).length+(if ([]:List Keyword).isEmpty then 0 else 1)<30))=true:=by rfl)
  (hline:(apos.endLine==cpos.line)=true:=by rfl) (hs:starEach (e::es) X.env=(false,eval e X.env)::starEach es X.env:=by rfl) (hplain:(backTo cpos (starEach es X.env)).any (·.1)=false:=by rfl) :
  DO X (.Call (.Attribute o "join" apos) (e::es) [] cpos) (qa gS fo fs):=ye PySem.F.slot_str_join PySem.F.type_str_join vn vM oQ ho ha hbase hfew hline hs hplain
def z38 (i:Nat) (f:De->Option Dt):De->Option Out:=fun δ=>match δ[i]? with
 | some (some (.lst l))=>(f δ).bind fun d=>if l.length<sizeLine then some (.nx (δ.set i (some (.lst (l++[d]))))) else none
 | _=>none
def En.ownL {Φ:Fm} {δ:De} {σ:St} {F H:Hp} (en:En Φ δ σ F H) {l:List Dt} (h:δ[i]?=some (some (.lst l))):∃ a vs,σ[i]?=some (some (.ref a))/\H a=some (.lst vs)/\Reps Φ.K F l vs:=by
 obtain ⟨v,hv⟩:=en.has i _ h
 obtain ⟨S,s⟩:=en.sep
 obtain ⟨a,vs,rfl,_,h1,h2⟩:=s.own i _ v (dk h hv)
 exact ⟨a,vs,hv,h1,h2⟩
def kO (hx:PE X o (mM i)) (he:DL X e fe)
  (hbase:attributeBase o "append" X.env (eval o X.env)=eval o X.env:=by rfl)
  (hfew:((backTo cpos (starEach [e] X.env)).all (fun x=>!x.1)&&(backToKw cpos (keywordEach [] X.env)).all (fun x=>x.1.isSome)
   && decide ([e].length+([]:List Keyword).length+(if ([]:List Keyword).isEmpty then 0 else 1)<30))=true:=by rfl)
  (hline:(apos.endLine==cpos.line)=true:=by rfl) (hs:starEach [e] X.env=(false,eval e X.env)::starEach [] X.env:=by rfl) (hplain:(backTo cpos (starEach [] X.env)).any (·.1)=false:=by rfl)
  (hsw:swapsWith (.Call (.Attribute o "append" apos) [e] [] cpos) none pos.line X.env=pure false:=by rfl) :
  DS1 X (.Expr (.Call (.Attribute o "append" apos) [e] [] cpos) pos) (z38 i fe):=
 PS.mono (i6 (pK PySem.F.plainAttrs_list PySem.F.slot_list_append PySem.F.type_list_append gv hx (dg he fq hs) hbase hfew hline hs hplain) hsw) fun D σ H ⟨Φ,δ,F,ot,hK,en,hg,k⟩=>by
  unfold z38 at hg
  split at hg<;>first | cases hg;done | skip
  rename_i l hl
  obtain ⟨d,hd,hg⟩:=bS hg
  split at hg<;>first | cases hg;done | skip
  rename_i hz
  cases hg
  obtain ⟨a,vs,hv,h1,h2⟩:=en.ownL hl
  refine ⟨.ref a,hv,.inl ⟨rfl,vs,.inl (.inl h1)⟩,Φ,δ,F,d,hK,en,hd,fun v H1 F1 st rv=>?_⟩
  have en1:=en.step st
  have h1':=st.hh _ _ h1
  refine ⟨a,vs,v,rfl,rfl,h1',by rw [h2.length];exact hz,?_⟩
  refine k σ F1 _ (en1.poke hl hv (fun d z=>nomatch z) fun S sa=>⟨a,vs++[v],rfl,sa,aB,(h2.same st.ff).append (Reps.one (hK▸rv))⟩)
def Reps.set {K:PySem.W.Frag} {F:Hp} {d:Dt} {v:V} (h:Rep K F d v):∀ {l:List Dt} {vs:List V} (j:Nat),Reps K F l vs->Reps K F (l.set j d) (vs.set j v)
 | [],vs,j,r=>by simp only [Reps] at r;subst r;simp [Reps]
 | e::l,vs,0,r=>by
  simp only [Reps] at r
  obtain ⟨w,ws,rfl,_,r2⟩:=r
  simp only [List.set_cons_zero,Reps]
  exact ⟨v,ws,rfl,h,r2⟩
 | e::l,vs,j+1,r=>by
  simp only [Reps] at r
  obtain ⟨w,ws,rfl,r1,r2⟩:=r
  simp only [List.set_cons_succ,Reps]
  exact ⟨w,_,rfl,r1,Reps.set h j r2⟩
end
def qb {κ:Type} [DecidableEq κ]:List κ->List Dt->κ->Option Dt
 | k'::ks,d::l,k=>if k'=k then some d else qb ks l k
 | _,_,_=>none
def kP {κ:Type} [DecidableEq κ] {K:PySem.W.Frag} {F:Hp} {k:κ}:∀ {kvs:List (κ×V)} {l:List Dt} {d:Dt},Reps K F l (kvs.map (·.2))->qb (kvs.map (·.1)) l k=some d->∃ v,fw kvs k=some v/\Rep K F d v
 | [],l,d,r,h=>by cases l<;>cases h
 | p::kvs,[],d,r,h=>by cases h
 | p::kvs,e::l,d,r,h=>by
  simp only [List.map_cons,Reps] at r
  obtain ⟨v,ws,hv,r1,r2⟩:=r
  cases hv
  simp only [List.map_cons,qb] at h
  by_cases hk:p.1=k
  · rw [if_pos hk] at h
    cases h
    exact ⟨p.2,fR hk,r1⟩
  · rw [if_neg hk] at h
    rw [fS hk]
    exact kP r2 h
def fG:Dt->Option Key
 | .int i=>some (.inl i)
 | .str x=>some (.inr x)
 | _=>none
def qc {K:PySem.W.Frag} {F H:Hp} {d:Dt} {v:V} {k:Key} (r:RepB K F H d v) (h:fG d=some k):v=kV k:=by
 unfold fG at h
 split at h<;>first | (cases h;done) | skip
 · cases h;exact r
 · cases h;exact r
def bi:Dt->Dt->Option T
 | .dct ks l,k=>(fG k).bind fun k=>(qb ks l k).map .leaf
 | x,y=>gIx x y
section
variable {X:Cx} {o a b e c:Expr} {es:List Expr} {fa fb fo fe fk:De->Option Dt} {fs:De->Option (List Dt)} {pos apos cpos p:Pos} {x:Str} {sc:Scope} {i:Nat}
def bv {k:Nat} (hr:Room k X.A) (ha:DB X a fa) (hb:DB X b fb) (hs:lL b:=by exact fun _ _=>rfl) (hn:sA b:=by exact fun _ _=>rfl):DO X (.Subscript a b pos) (d2 bi fa fb):=
 PE.mono (PE.or (wM sr ha hb hs) (lP (kx hr) ha hb hn)) fun σ H Q ⟨Φ,δ,F,t,hK,en,hf,k⟩=>by
  unfold d2 at hf
  obtain ⟨x,hx,hf⟩:=bS hf
  obtain ⟨y,hy,hf⟩:=bS hf
  unfold bi at hf
  split at hf
  · rename_i ks l _
    obtain ⟨kk,hk,hf⟩:=bS hf
    obtain ⟨d,hd,hf⟩:=mS hf
    cases hf
    refine .inr ⟨Φ,δ,F,_,hK,en,hx,fun v H1 F1 st rv=>⟨Φ,δ,F1,y,hK,en.step st,hy,fun v2 H2 F2 st2 rv2=>?_⟩⟩
    obtain ⟨ad,kvs,rfl,h1,h2,h3⟩:=rv
    subst h2
    obtain ⟨w,hw,rw'⟩:=kP h3 hd
    have:=qc rv2 hk
    subst this
    exact ⟨ad,w,rfl,.inl ⟨kvs,kk,st2.hh.rd h1,rfl,hw.symm⟩,(k.step (st.trans st2)).leaf.here st2.fh (rw'.same st2.ff)⟩
  · exact .inl (pY r_ix ⟨Φ,δ,F,t,hK,en,by unfold d2;rw [hx,hy];exact hf,k⟩)
def rf {κ:Type} [DecidableEq κ]:List (κ×Dt)->κ->Dt->List (κ×Dt)
 | [],k,d=>[(k,d)]
 | p::l,k,d=>if p.1=k then (p.1,d)::l else p::rf l k d
noncomputable def sZ (i:Nat) (fk fe:De->Option Dt):De->Option Out:=fun δ=>(fe δ).bind fun d=>(fk δ).bind fun k=>match δ[i]? with
 | some (some (.lst l))=>(asI k).bind fun n=>(ixN l.length n).map fun j=>.nx (δ.set i (some (.lst (l.set j d))))
 | some (some (.dct l))=>(fG k).bind fun k=>if l.length<sizeLine/\(l.map (·.1)).Nodup then some (.nx (δ.set i (some (.dct (rf l k d))))) else none
 | _=>none
def vO {κ:Type} [DecidableEq κ] (k:κ) (v:V):∀ (kvs:List (κ×V)) (l:List (κ×Dt)) (d:Dt),(kvs.map (·.1)).Nodup->kvs.map (·.1)=l.map (·.1)->(bT kvs k v).map (·.1)=(rf l k d).map (·.1)∧
  ∀ (K:PySem.W.Frag) (F:Hp),Rep K F d v->Reps K F (l.map (·.2)) (kvs.map (·.2))->Reps K F ((rf l k d).map (·.2)) ((bT kvs k v).map (·.2)):=by
 have key:∀ (kvs:List (κ×V)),(kvs.map (·.1)).Nodup->bT kvs k v=match kvs with | []=>[(k,v)] | p::r=>if p.1=k then (p.1,v)::r else p::bT r k v:=fun kvs hn=>by
  cases kvs with
  | nil=>rfl
  | cons p r =>
   dsimp only
   by_cases hp:p.1=k
   · rw [if_pos hp]
     unfold bT
     rw [if_pos (by simp [hp])]
     simp only [List.map_cons,if_pos hp]
     congr 1
     have hk:∀ q∈r,¬ q.1=k:=fun q hq z=>by
      have:=(List.nodup_cons.mp hn).1
      exact this (show p.1∈r.map (·.1) by rw [hp,<- z];exact List.mem_map_of_mem hq)
     exact (List.map_congr_left fun q hq=>if_neg (hk q hq)).trans (List.map_id' r)
   · rw [if_neg hp]
     unfold bT
     have e:(p::r).any (fun kv=>decide (kv.1=k))=r.any fun kv=>decide (kv.1=k):=by simp [hp]
     rw [e]
     split
     · simp only [List.map_cons,if_neg hp]
     · rfl
 intro kvs
 induction kvs with
 | nil =>
  intro l d hn he
  cases l with
  | nil=>exact ⟨rfl,fun K F r _=>by simpa [rf,bT] using Reps.one r⟩
  | cons q l=>cases he
 | cons p r ih =>
  intro l d hn he
  cases l with
  | nil=>cases he
  | cons q l =>
   simp only [List.map_cons,List.cons.injEq] at he
   have hn':=(List.nodup_cons.mp hn).2
   rw [key _ hn]
   simp only [rf]
   rw [<- he.1]
   by_cases hp:p.1=k
   · rw [if_pos hp,if_pos hp]
     refine ⟨by simp [he.2],fun K F rd rs=>?_⟩
     simp only [List.map_cons,Reps] at rs ⊢
     obtain ⟨w,ws,hw,r1,r2⟩:=rs
     cases hw
     exact ⟨_,_,rfl,rd,r2⟩
   · rw [if_neg hp,if_neg hp]
     obtain ⟨i1,i2⟩:=ih l d hn' he.2
     refine ⟨by simp [he.1,i1],fun K F rd rs=>?_⟩
     simp only [List.map_cons,Reps] at rs ⊢
     obtain ⟨w,ws,hw,r1,r2⟩:=rs
     cases hw
     exact ⟨_,_,rfl,r1,i2 K F rd r2⟩
def PS.or {X:Cx} {e:Stmt} {t t':TS} (h:PS X e t) (h':PS X e t'):PS X e (fun σ H Q=>t σ H Q∨t' σ H Q):=fun pins s σ H Q I q=>q.elim (h pins s σ H Q I) (h' pins s σ H Q I)
def En.ownD {Φ:Fm} {δ:De} {σ:St} {F H:Hp} (en:En Φ δ σ F H) {l:List (Key×Dt)} (h:δ[i]?=some (some (.dct l))):∃ a kvs,σ[i]?=some (some (.ref a))/\H a=some (.dK kvs)/\kvs.map (·.1)=l.map (·.1)/\Reps Φ.K F (l.map (·.2)) (kvs.map (·.2)):=by
 obtain ⟨v,hv⟩:=en.has i _ h
 obtain ⟨S,s⟩:=en.sep
 obtain ⟨a,vs,rfl,_,h1,h2,h3⟩:=s.own i _ v (dk h hv)
 exact ⟨a,vs,hv,h1,h2,h3⟩
def yf {k:Nat} {ox ik:Expr} (hr:Room k X.A) (hx:PE X ox (mM i)) (hk:DB X ik fk) (he:DL X e fe)
  (hs:swapsWith e (some (.Subscript ox ik apos)) pos.line X.env=pure false:=by rfl)
  (hs1:swapsWithSole [.Subscript ox ik apos] e pos.line X.env=pure false:=by rfl) (hw:swappedStores [.Subscript ox ik apos] e X.env=pure none:=by rfl)
  (h1:(assignEach [.Subscript ox ik apos] X.env).map (·.2)=[assign (.Subscript ox ik apos) X.env]:=by rfl)
  (ha:∀ v,assign (.Subscript ox ik apos) X.env v=(do
   let ov <- holding [v] (eval ox X.env)
   let iv <- holding [v,ov] (eval ik X.env)
   standAt apos
   holding [v,ov,iv] (setItem ov iv v)
   release [v,ov,iv] []):=by intro _;rfl):DS1 X (.Assign [.Subscript ox ik apos] e pos) (sZ i fk fe):=
 PS.mono (PS.or (lG he (rV hx hk mT ha) hs1 hw h1) (lQ (kx hr) hx hk he hs)) fun D σ H ⟨Φ,δ,F,ot,hK,en,hg,k⟩=>by
  unfold sZ at hg
  obtain ⟨d,hd,hg⟩:=bS hg
  obtain ⟨kd,hkd,hg⟩:=bS hg
  split at hg<;>first | (cases hg;done) | skip
  · rename_i l hl
    obtain ⟨n,hn,hg⟩:=bS hg
    obtain ⟨j,hj,hg⟩:=mS hg
    cases hg
    refine .inl ⟨Φ,δ,F,d,hK,en,hd,fun v H1 F1 st rv=>?_⟩
    have en1:=en.step st
    obtain ⟨a,vs,hv,h1,h2⟩:=en1.ownL hl
    refine ⟨.ref a,hv,Φ,δ,F1,kd,hK,en1,hkd,fun w H2 F2 st2 rw'=>?_⟩
    have en2:=en1.step st2
    refine ⟨a,vs,n,j,rfl,nj hn rw',st2.hh _ _ h1,by rw [h2.length];exact hj,?_⟩
    exact k σ F2 _ (en2.poke hl hv (fun d z=>nomatch z) fun S sa=>⟨a,_,rfl,sa,aB,Reps.set (hK▸rv.same st2.ff) j (h2.same st2.ff)⟩)
  · rename_i l hl
    obtain ⟨kk,hkk,hg⟩:=bS hg
    split at hg<;>first | (cases hg;done) | skip
    rename_i hc
    cases hg
    refine .inr ⟨Φ,δ,F,d,hK,en,hd,fun v H1 F1 st rv=>?_⟩
    have en1:=en.step st
    obtain ⟨a,kvs,hv,h1,h2,h3⟩:=en1.ownD hl
    refine ⟨.ref a,hv,Φ,δ,F1,kd,hK,en1,hkd,fun w H2 F2 st2 rw'=>?_⟩
    have en2:=en1.step st2
    have:=qc rw' hkk
    subst this
    have hlen:kvs.length=l.length:=by simpa using congrArg List.length h2
    refine ⟨a,_,rfl,.inl ⟨kvs,kk,st2.hh _ _ h1,rfl,by rw [hlen];exact hc.1,rfl⟩,?_⟩
    obtain ⟨p1,p2⟩:=vO kk v kvs l d (by rw [h2];exact hc.2) h2
    exact k σ F2 _ (en2.poke hl hv (fun d z=>nomatch z) fun S sa=>⟨a,_,rfl,sa,aB,p1,p2 _ _ (hK▸rv.same st2.ff) (h3.same st2.ff)⟩)
end
section
variable {prog:Program} {w:World} {A:Around} {E:Value->Shared->Prop} {s:Shared} {I t:Addr} {j:Nat} {vs:Array Value}
end
def ItB (b:Bool) (h:Heap) (I a:Addr) (i:Nat):Prop:=match b with
 | true=>h.IsListIter I a i
 | false=>h.IsTupleIter I a i
def ItB.at {b:Bool} {h h':Heap} {I a:Addr} {i:Nat} (x:ItB b h I a i) (k:∀ o,h.get? I=some o->h'.get? I=some o):ItB b h' I a i:=by
 cases b with
 | true=>obtain ⟨o,e,r⟩:=x;exact ⟨o,k o e,r⟩
 | false=>obtain ⟨o,e,r⟩:=x;exact ⟨o,k o e,r⟩
section
variable {X:Cx} {pins:List (Addr×Obj)} {σ:St} {H:Hp} {s:Shared} {a I:Addr} {xs:List V} {b:Bool}
end
section
variable {X:Cx} {pins:List (Addr×Obj)} {σ:St} {H:Hp} {s:Shared}
end
section
variable {prog:Program} {w:World} {A:Around} {E:Value->Shared->Prop} {s:Shared}
end
section
variable {X:Cx} {x:Expr} {p pos tpos:Pos} {sc:Scope} {fs:De->Option (List Dt)} {elts:List Expr} {n:Nat}
end
section
variable {prog:Program} {w:World} {A:Around} {E:Value->Shared->Prop} {s:Shared} {z ti tO i1 i2:Addr} {fp1 fp2:List Addr} {n1 n2 k:Nat} {P1 P2:Nat->Value->Prop} {S1 S2:Nat->Heap->Prop} {va vb:Value}
end
section
variable {prog:Program} {w:World} {A:Around} {E:Value->Shared->Prop} {s:Shared}
end
section
variable {X:Cx} {pins:List (Addr×Obj)} {σ:St} {H:Hp} {s:Shared} {a:Addr} {xs ys:List V} {b c:Bool}
end
section
variable {X:Cx} {x y:Expr} {p pos tpos:Pos} {sc:Scope} {fs:De->Option (List Dt)} {elts:List Expr} {n:Nat}
end
section
variable {X:Cx} {o a b e c:Expr} {es:List Expr} {fa fb fo fe:De->Option Dt} {fs:De->Option (List Dt)} {pos apos cpos p:Pos} {i:Nat}
end
def np {K:PySem.W.Frag} {F F':Hp} {d:Dt} {v:V} (r:Rep K F d v) (h:iO d=true):Rep K F' d v:=by
 cases d<;>first | (cases h;done) | (simp only [Rep] at r ⊢;exact r)
section
variable {X:Cx} {e:Expr} {es:List Expr} {fs:De->Option (List Dt)} {pos p:Pos} {x:Str} {sc:Scope}
end
def gAdd_i {i j:Int}:cw (.int i) (.int j)=some (.leaf (.int (i+j))):=rfl
def tf {i j:Int} (h:iN i j=true):cp (.int i) (.int j)=some (.leaf (.int (i*j))):=if_pos h
def tj {j:Int} (h0:0<j) (h1:j<1073741824):m8 j=true:=by
 unfold m8
 simp [h0,h1]
def yg {i j:Int} (h0:0<j) (h1:j<1073741824):iW (.int i) (.int j)=some (.leaf (.int (i/j))):=if_pos (tj h0 h1)
def gb {i j:Int} (h:0<j):cQ (.int i) (.int j)=some (.leaf (.int (i%j))):=if_pos h
def yh {i j:Int} (h:m7 i j=true):j8 (.int i) (.int j)=some (.leaf (.int (i^j.toNat))):=if_pos h
def tm:m7 2 40=true:=by decide
@[irreducible] def wide:Int:=1099511627776
def qd:wide=1099511627776:=by unfold wide;rfl
def zF:j8 (.int 2) (.int 40)=some (.leaf (.int wide)):=by
 rw [yh tm,qd]
 rfl
def tp:(0:Int)<wide:=by rw [qd];decide
def gMod_w {i:Int}:cQ (.int i) (.int wide)=some (.leaf (.int (i%wide))):=gb tp
def gCmp_i {f:Int->Int->Bool} {i j:Int}:j9 f (.int i) (.int j)=some (.leaf (.bl (f i j))):=rfl
def zn {l m:List Dt} (h:(cmpbs l m&&decide (deeps l<=59))=true):eqD (.lst l) (.lst m)=some (peqs l m):=if_pos h
def yi {neg:Bool} {x y:Dt} {b:Bool} (h:eqD x y=some b):gEq neg x y=some (.leaf (.bl (if neg then !b else b))):=by
 unfold gEq
 rw [h]
 rfl
def yj {i j:Int}:gEq false (.int i) (.int j)=some (.leaf (.bl (decide (i=j)))):=rfl
def gEq_ss {i j:Str}:gEq false (.str i) (.str j)=some (.leaf (.bl (decide (i=j)))):=rfl
def gNe_ii {i j:Int}:gEq true (.int i) (.int j)=some (.leaf (.bl (!decide (i=j)))):=rfl
def w8 {l:List Dt} {i:Int}:bi (.lst l) (.int i)=(atI l i).map .leaf:=rfl
def gIx_t {l:List Dt} {i:Int}:bi (.tup l) (.int i)=(atI l i).map .leaf:=rfl
def zo {x:Str} {i:Int} (h:x.length<=sizeLine):bi (.str x) (.int i)=(atI x.cps.toList i).map fun c=>.leaf (.str ⟨#[c]⟩):=if_pos h
def gLen_l {l:List Dt}:fF [.lst l]=some (.leaf (.int l.length)):=rfl
def gLen_t {l:List Dt}:fF [.tup l]=some (.leaf (.int l.length)):=rfl
def yk {j:Int} (h:kJ j=true):cX [.int j]=some (bn 0 j.toNat):=if_pos h
def tq {j:Int} (h0:-1000000000<=j) (h1:j<=1000000000):kJ j=true:=by
 unfold kJ
 simp only [Bool.and_eq_true,decide_eq_true_eq]
 omega
def iE {n:Nat} (h:n<=1000000000):cX [.int n]=some (bn 0 n):=by
 rw [yk (tq (by omega) (by omega))]
 rfl
def truD_b {b:Bool}:sN (.bl b)=some b:=rfl
def asB_b {b:Bool}:asB (.leaf (.bl b))=some b:=rfl
def asBl_b {b:Bool}:oF (.bl b)=some b:=rfl
def qe {n:Nat} (h:n<=1000000):n<=sizeLine:=Nat.le_trans h (by decide)
def dc {bb:Dt->De->Option De} {ft:De->Option Bool} {fe:De->Option Dt} {δ:De} {f:Dt->Dt}:∀ {ds:List Dt},(∀ d∈ds,∃ δ1,bb d δ=some δ1/\ft δ1=some true/\fe δ1=some (f d))->dl bb ft fe δ ds=some (ds.map f)
 | [],_=>rfl
 | d::r,h=>by
  obtain ⟨δ1,h1,h2,h3⟩:=h d List.mem_cons_self
  unfold dl
  rw [h1,Option.bind_some,h2,Option.bind_some,if_pos rfl,h3,Option.bind_some,dc fun e he=>h e (List.mem_cons_of_mem _ he)]
  rfl
def mem_range {lo:Int} {n:Nat} {d:Dt} (h:d∈bn lo n):∃ i:Nat,i<n/\d=.int (lo+i):=by
 unfold bn at h
 obtain ⟨i,hi,rfl⟩:=List.mem_map.mp h
 exact ⟨i,List.mem_range.mp hi,rfl⟩
def tu {src:List (Option Nat)} {fi:De->Option (List Dt)} {bb:Dt->De->Option De} {ft:De->Option Bool} {fe:De->Option Dt} {δ:De} {ds ys:List Dt} (h1:fi δ=some ds) (h2:dl bb ft fe (dC src δ) ds=some ys) (h3:ys.length<=1000000):ce src fi bb ft fe δ=some (.lst ys):=by
 unfold ce
 rw [h1,Option.bind_some,h2,Option.bind_some]
 exact if_pos (qe h3)
def kQ {bb:Dt->De->Option De} {g:De->Option Out} {d:Dt} {r:List Dt} {δ δ1 δ2:De} (h1:bb d δ=some δ1) (h2:g δ1=some (.nx δ2)):iV bb g (d::r) δ=iV bb g r δ2:=by
 show ((bb d δ).bind fun δ1=>(g δ1).bind fun o=>match o with | .nx δ2=>iV bb g r δ2 | .ct δ2=>iV bb g r δ2 | .bk δ2=>some (.nx δ2) | .rt t=>some (.rt t) | .re t δ2=>some (.re t δ2))=_
 rw [h1,Option.bind_some,h2]
 rfl
def tw {α:Type} {l:List α} {k:Nat}:atI l (k:Int)=l[k]?:=by
 unfold atI ixN
 rw [if_pos (by omega)]
 by_cases h:k<l.length
 · rw [if_pos (by omega)]
   simp
 · rw [if_neg (by omega)]
   simp
   omega
def yl {i j:Int} (h1:-1000000000000000000<i) (h2:i<1000000000000000000):cp (.int i) (.int j)=some (.leaf (.int (i*j))):=tf (vE h1 h2)
def oR {i j:Int} (h1:-1000000000000000000<j) (h2:j<1000000000000000000):cp (.int i) (.int j)=some (.leaf (.int (i*j))):=tf (vF h1 h2)
def kR (o:Option Out) (g:De->Option Out):Option Out:=o.bind fun o=>match o with
 | .nx δ'=>g δ'
 | o=>some o
def gT {g1 g2:De->Option Out} {δ:De}:cm g1 g2 δ=kR (g1 δ) g2:=rfl
def dm {δ:De} {g:De->Option Out}:kR (some (.nx δ)) g=g δ:=rfl
def zp {t:T} {g:De->Option Out}:kR (some (.rt t)) g=some (.rt t):=rfl
def oS:Option Out->Option T
 | some (.rt t)=>some t
 | some (.nx _)=>some (.leaf .non)
 | _=>none
def ym {m:Nat} {g:De->Option Out} {ds:List Dt}:lW m g ds=oS (g (ds.map (fun d=>some (.leaf d))++List.replicate (m-ds.length) none)):=rfl
def zG {t:T}:oS (some (.rt t))=some t:=rfl
def iQ {α:Type} (b:Option Bool) (f g:De->Option α) (δ:De):Option α:=b.bind fun b=>if b then f δ else g δ
def zH {α:Type} {f g:De->Option α} {δ:De}:iQ (some true) f g δ=f δ:=rfl
def zI {α:Type} {f g:De->Option α} {δ:De}:iQ (some false) f g δ=g δ:=rfl
def lX {α:Type} {f g:De->Option α} {δ:De} {b:Bool} (h:b=true):iQ (some b) f g δ=f δ:=by subst h;rfl
def lY {α:Type} {f g:De->Option α} {δ:De} {b:Bool} (h:b=false):iQ (some b) f g δ=g δ:=by subst h;rfl
def zq {c:De->Option Bool} {g1 g2:De->Option Out} {δ:De}:sIf c g1 g2 δ=iQ (c δ) g1 g2 δ:=rfl
def kB (b:Bool):De->Option Bool:=fun _=>some b
def kT (b:Bool):De->Option T:=fun _=>some (.leaf (.bl b))
def fOr_d {f g:De->Option Bool} {δ:De}:fOr f g δ=iQ (f δ) (kB true) g δ:=rfl
def vAnd_d {f:De->Option Dt} {g:De->Option T} {δ:De}:rc f g δ=iQ ((f δ).bind oF) g (kT false) δ:=by
 unfold rc iQ kT
 cases f δ with
 | none=>rfl
 | some d=>rfl
def mkL (ds:List Dt):Option T:=if ds.length<=sizeLine then some (.lst ds) else none
def yn (ds:List Dt):Option T:=if ds.length<=sizeLine then some (.leaf (.tup ds)) else none
def jH {ds:List Dt} (h:ds.length<=1000000):mkL ds=some (.lst ds):=if_pos (qe h)
def zJ {ds:List Dt} (h:ds.length<=1000000):yn ds=some (.leaf (.tup ds)):=if_pos (qe h)
def vLst_d {f:De->Option (List Dt)} {δ:De}:bg f δ=(f δ).bind mkL:=rfl
def vTup_d {f:De->Option (List Dt)} {δ:De}:bL f δ=(f δ).bind yn:=rfl
def qf {src:List (Option Nat)} {fi:De->Option (List Dt)} {bb:Dt->De->Option De} {ft:De->Option Bool} {fe:De->Option Dt} {δ:De}:ce src fi bb ft fe δ=(fi δ).bind fun ds=>(dl bb ft fe (dC src δ) ds).bind mkL:=rfl
def oT (cs:List Nat):Txt.join "" (cs.map fun c=>(⟨#[c]⟩:Str))=⟨cs.toArray⟩:=by
 have e0:("":Str).cps=#[]:=by decide +kernel
 have go:∀ (l:List Nat) (acc:Array Nat),(l.map fun c=>(⟨#[c]⟩:Str)).foldl (fun acc p=>acc++("":Str).cps++p.cps) acc=acc++l.toArray:=by
  intro l
  induction l with
  | nil=>intro acc;simp
  | cons c l ih =>
   intro acc
   rw [List.map_cons,List.foldl_cons,ih,e0]
   simp
 unfold Txt.join Builtin.Str.glued
 cases cs with
 | nil=>rfl
 | cons c r =>
  show (⟨(r.map fun c=>(⟨#[c]⟩:Str)).foldl (fun acc p=>acc++("":Str).cps++p.cps) (#[c]:Array Nat)⟩:Str)=_
  rw [go]
  simp
def lZ (cs:List Nat) (h:cs.length<=1000):JoinOk "" (cs.map fun c=>(⟨#[c]⟩:Str))=true:=by
 unfold JoinOk
 have h1:∀ y∈cs.map (fun c=>(⟨#[c]⟩:Str)),y.length<=1:=fun y hy=>by
  obtain ⟨c,_,rfl⟩:=List.mem_map.mp hy
  exact nL _
 rw [StrLaws.joinFits h1 (by rw [List.length_map,show ("":Str).length=0 by decide +kernel];omega)]
 rfl
def jI:∀ ts:List Str,eU (ts.map .str)=some ts
 | []=>rfl
 | t::r=>by
  show (eU (r.map .str)).map (t::·)=_
  rw [jI r]
  rfl
def sgD (cs:List Nat):List Dt:=cs.map fun c=>.str ⟨#[c]⟩
def tz {cs:List Nat} (h:cs.length<=1000):gS (.str "") [.lst (sgD cs)]=some (.leaf (.str ⟨cs.toArray⟩)):=by
 have e:sgD cs=(cs.map fun c=>(⟨#[c]⟩:Str)).map .str:=by unfold sgD;rw [List.map_map];rfl
 show (eU (sgD cs)).bind _=_
 rw [e,jI,Option.bind_some,if_pos (lZ cs h),oT]
def tB {α:Type} {xs:List α} {i:Int} (h0:0<=i) (h1:i<xs.length):∃ v,atI xs i=some v/\v∈xs:=by
 obtain ⟨n,rfl⟩:=Int.eq_ofNat_of_zero_le h0
 have hn:n<xs.length:=by omega
 exact ⟨xs[n],dy (by simp [hn]),List.getElem_mem hn⟩
def oU (a:Int) {n:Nat} (hn:0<n):∃ k:Nat,k<n/\a%(n:Int)=(k:Int):=by
 have h0:=Int.emod_nonneg a (show (n:Int)≠0 by omega)
 have h1:=Int.emod_lt_of_pos a (show (0:Int)<n by omega)
 exact ⟨(a%(n:Int)).toNat,by omega,by omega⟩
section
variable {X:Cx} {b:Expr} {fb:De->Option Dt} {pos p:Pos} {x:Str} {sc:Scope} {ks:List Key} {l:List Dt}
end
def zr {X:Cx} {ss:List Stmt}:DS X ss (fun _=>none):=fun pins s σ H D I h=>by
 obtain ⟨_,_,_,_,_,_,hf,_⟩:=h
 cases hf
section
variable {X:Cx} {elt tg iter:Expr} {ifs:List Expr} {scope:Scope} {pos:Pos} {M:List Str} {src:List (Option Nat)} {wi:TI} {g:TG} {tt:TT} {te:TE}
def rg {pins:List (Addr×Obj)} {s:Shared} {σ:St} {H:Hp} {Q:VK} {cpos:Pos} {use:Option (Value->Sem Unit)} {QQ:Value->Shared->Prop} (S:CmpScope X.N X.env.scope scope M src) (hc:X.calm=true) (hi:PI X tg iter wi) (hg:M.Nodup->∀ C s H ex,PG (cxC X M scope C s H ex) tg g) (ht:∀ C s H ex,PTs (cxC X M scope C s H ex) ifs tt)
  (he:∀ C s H ex,PE (cxC X M scope C s H ex) elt te) (hs:∀ x,foldedSetIterable iter X.env x=pure x) (I:Inv X pins σ H s) (h:kA src wi g tt te σ H Q)
  (hfin:∀ (D C:Addr) (H':Hp) (s':Shared) (m:Str->Option Value),Inv X pins σ H' s'->iu X pins H' C->s'.heap.Ns C m->Q (.ref D) H'->compPost (model X.prog X.w) X.A X.xe use QQ (.ref D) C (.ok .next) s') :
  wpAny (model X.prog X.w) X.A (comprehension (.ListComp elt [⟨tg,iter,ifs,0⟩] scope pos) scope X.env cpos (newList []) false (eval iter X.env) use) QQ X.xe s:=by
 have hcells:∀ x∈scope.names,x.2=.free->∃ c,X.env.cells.lookup x.1=some c:=fun x hx hfr=>I.ok.has x.1 (S.free x hx hfr)
 refine wpAny_comprehension_free (use:=use) rfl hs (jv hcells) S.kind S.names (thn (hi pins s σ H _ I h) fun v s1 h1=>thn h1 fun itv s2 h2=>?_)
 obtain ⟨it,fp,tn,J,H2,rfl,I2,T,st2,f2,hq⟩:=h2
 refine wpAny_newObj_type ?_
 have I3:Inv X pins σ (upd H2 s2.heap.objs.size (.lst [])) {s2 with heap:=s2.heap.push {cls:=.type "list",dict:=none,data:=.seq ([]:List Value).toArray},toks:=s2.toks}:=I2.lnew (its:=[]) (ys:=[]) (t':=s2.toks) .nil (by simp)
 have hD:H2 s2.heap.objs.size=none:=I2.fresh
 obtain ⟨W,⟨m0,w0⟩,turn⟩:=hq _ hD
 generalize hDn:s2.heap.objs.size=D at*
 generalize hs3:({s2 with heap:=s2.heap.push {cls:=.type "list",dict:=none,data:=.seq ([]:List Value).toArray},toks:=s2.toks}:Shared)=s3 at*
 have f3:∀ b∈fp,iu X pins (upd H2 D (.lst [])) b:=fun b hb=>⟨by
  obtain ⟨o,e,_⟩:=T.obj _ _ st2 b hb
  rw [aG (by rw [<- hDn];exact Nat.ne_of_lt (Heap.lt_size e))]
  exact (f2 b hb).1,(f2 b hb).2⟩
 have k23:∀ b o,s2.heap.get? b=some o->s3.heap.get? b=some o:=fun b o e=>by rw [<- hs3];exact gP _ e
 have st3:tn 0 s3.heap:=T.keep _ _ _ st2 fun b _ o e=>k23 b o e
 have fl3:∀ b∈fp,b<s3.heap.objs.size:=fun b hb=>by
  obtain ⟨o,e,_⟩:=T.obj _ _ st3 b hb
  exact Heap.lt_size e
 refine wpAny_newFunctionEnv S.nocell (by intro y hy;simp at hy) (fun h₁ hns₁ hsb₁=>?_) S.kind
 have k34:∀ b o,s3.heap.get? b=some o->h₁.get? b=some o:=fun b o e=>hsb₁.extBut b o (Nat.ne_of_lt (Heap.lt_size e)) (gP _ e)
 generalize hs4:({s3 with heap:=h₁,toks:=s3.toks+([]:List (Str×Value)).length}:Shared)=s4
 have I4:Inv (cxC X M scope s3.heap.objs.size s3 (upd H2 D (.lst [])) fp) [] (stC src σ) (upd H2 D (.lst [])) s4:=by
  rw [<- hs4]
  exact mY S I3 f3 fl3 hns₁ k34 rfl rfl
 have st4:tn 0 s4.heap:=T.keep _ _ _ st3 fun b _ o e=>by rw [<- hs4];exact k34 b o e
 generalize hX':cxC X M scope s3.heap.objs.size s3 (upd H2 D (.lst [])) fp=X' at*
 have hg':PG X' tg g:=by rw [<- hX'];exact hg S.nd _ _ _ _
 have ht':PTs X' ifs tt:=by rw [<- hX'];exact ht _ _ _ _
 have he':PE X' elt te:=by rw [<- hX'];exact he _ _ _ _
 have eP:X'.prog=X.prog:=by rw [<- hX'];rfl
 have eW:X'.w=X.w:=by rw [<- hX'];rfl
 have eK:X'.K=X.K:=by rw [<- hX'];rfl
 have eA:X'.A=X.A:=by rw [<- hX'];rfl
 have ex':X'.xe=fun _ _=>False:=by rw [<- hX'];rfl
 have ec:X'.calm=true:=by rw [<- hX'];exact hc
 have eE:X'.env=compEnvC scope (mW scope.names X.env.cells) s3.heap.objs.size X.env:=by rw [<- hX'];rfl
 have stat:∀ {H':Hp},(∀ b∈fp,H' b=none)->∀ b∈fp,iu X' [] H' b:=fun hn b hb=>by
  rw [<- hX']
  refine ⟨hn b hb,Nat.ne_of_lt (fl3 b hb),fun z=>?_,.inl hb,fun x c h=>(f3 b hb).2.2.2.2.1 x c (fU hcells h),fun p hp=>absurd hp (by simp [cxC])⟩
  rcases List.mem_cons.mp (I3.stkSub b z) with q | q
  · exact (f3 b hb).2.1 q
  · exact (f3 b hb).2.2.1 q
 -- behind the block
 have fin:∀ (H':Hp) (s':Shared),Inv X' [] (stC src σ) H' s'->Q (.ref D) H'->compPost (model X.prog X.w) X.A X.xe use QQ (.ref D) s3.heap.objs.size (.ok .next) s':=by
  intro H' s' J' q
  rw [<- hX'] at J'
  obtain ⟨m,hn,_⟩:=id J'.loc
  have hC:H' s3.heap.objs.size=none:=J'.free
  have un:Un (frs X.stack) fp (upd H2 D (.lst [])) H' s3.heap s'.heap:=J'.base
  have IA:Inv X pins σ H' s':=I3.call' (s':=s') (show s'.os=s3.os from J'.os) un J'.hok J'.bare fun b hb=>⟨(f3 b hb).2.2.2.1,(f3 b hb).2.1,(f3 b hb).2.2.2.2.1,(f3 b hb).2.2.2.2.2⟩
  exact hfin D _ H' s' m IA (I3.fpOk (nL _) hC) hn q
 have loop:∀ s4':Shared,s4'=s4->codeAny (model X.prog X.w) X.A (.compLoop (.ListComp elt [⟨tg,iter,ifs,0⟩] scope pos) 0 (.ref it) (.ref D) X'.env) (compPost (model X.prog X.w) X.A X.xe use QQ (.ref D) s3.heap.objs.size) s4':=by
  rintro _ rfl
  refine hG (fun n s'=>∃ i H',Inv X' [] (stC src σ) H' s'/\tn i s'.heap/\(∀ b∈fp,H' b=none)/\W i n H') ?_ m0 ⟨0,_,I4,st4,fun b hb=>(f3 b hb).1,w0⟩
  rintro n s5 ⟨i,H5,I5,st5,fr5,w5⟩
  rcases turn i n H5 w5 with ⟨stop,qn⟩ | ⟨go,N,hN,step⟩
  · have:=T.done X' eP eW eK ec i [] s5 (stC src σ) H5 (fun _ _=>False) I5 (stat fr5) st5 stop
    rw [eA] at this
    refine thn this fun r s6 ⟨hr,I6⟩=>?_
    subst hr
    exact fin H5 s6 I6 qn
  · have:=T.item X' eP eW eK ec i [] s5 (stC src σ) H5 (fun _ _=>False) I5 (stat fr5) st5 go
    rw [eA] at this
    refine thn this fun r s6 ⟨u,hr,h6⟩=>?_
    subst hr
    refine thn h6 fun _ s7 ⟨x,H7,I7,r7,y7,st7,fr7⟩=>?_
    have I7':=I7.pinned (stat fr7) (T.obj _ _ st7)
    have a1:=hg' _ s7 (stC src σ) H7 x u _ I7' r7 (step x H7 y7)
    rw [ex',eP,eW,eA] at a1
    refine thn a1 fun _ s8 ⟨σ8,H8,I8,wk8,q8⟩=>?_
    have a2:=ht' _ s8 σ8 H8 _ I8 q8
    rw [ex',eP,eW,eA] at a2
    refine thn a2 fun ok s9 ⟨H9,I9,q9⟩=>?_
    have again:∀ {H7':Hp} {s':Shared},Inv X' ([]++iw fp s7.heap) σ8 H7' s'->N H7'->∃ m,m<n/\∃ i H',Inv X' [] (stC src σ) H' s'/\tn i s'.heap/\(∀ b∈fp,H' b=none)/\W i m H':=fun {H7' s'} J7 n7=>by
     obtain ⟨m',hm,w7⟩:=hN H7' n7
     refine ⟨m',hm,i+1,H7',J7.unpinned.weak wk8.1 wk8.2,T.keep _ _ _ st7 fun b hb o e=>(J7.pin (b,o) (List.mem_append_right _ (List.mem_append_right _ (cY hb e)))).1,fun b hb=>?_,w7⟩
     obtain ⟨o,e,d⟩:=T.obj _ _ st7 b hb
     exact (J7.pin (b,o) (List.mem_append_right _ (List.mem_append_right _ (cY hb e)))).2.1
    cases ok with
    | false=>exact again I9 q9
    | true =>
     have a3:=he' _ s9 σ8 H9 _ I9 q9
     rw [ex',eP,eW,eA] at a3
     refine thn a3 fun v s10 ⟨y,H10,I10,r10,ys,hl,hz,q10⟩=>?_
     have a4:=gv (X:=X') _ s10 σ8 H10 (.ref D) [y] (.ref D) [v] (fun _ H'=>N H') I10 rfl (.cons r10 .nil) ⟨D,ys,y,rfl,rfl,hl,hz,q10⟩
     rw [ex',eP,eW,eA] at a4
     refine thn a4 fun _ s11 ⟨_,H11,I11,_,q11⟩=>?_
     exact again I11 q11
 have e4:∀ c:Env,c=X'.env->codeAny (model X.prog X.w) X.A (.compStart (.ListComp elt [⟨tg,iter,ifs,0⟩] scope pos) 0 (.ref it) (.ref D) c) (compPost (model X.prog X.w) X.A X.xe use QQ (.ref D) s3.heap.objs.size) s4:=by
  rintro _ rfl
  exact codeAny_compStart_list (loop _ rfl) (T.self _ _ _ _ _ st4 (loop _ rfl))
 exact e4 _ (by rw [eE];rfl)
def qg {i:Nat} {y:Str} {py spos:Pos} (hN:X.N.Nodup) (hi':X.N[i]?=some y) (hx:Loc X.env.scope y) (hf:X.fn y=true∨X.env.scope.names.lookup y=some .local)
  (S:CmpScope X.N X.env.scope scope M src) (hc:X.calm=true) (hi:PI X tg iter wi) (hg:M.Nodup->∀ C s H ex,PG (cxC X M scope C s H ex) tg g) (ht:∀ C s H ex,PTs (cxC X M scope C s H ex) ifs tt)
  (he:∀ C s H ex,PE (cxC X M scope C s H ex) elt te) (hs:∀ x,foldedSetIterable iter X.env x=pure x)
  (hsw:swapsWith (.ListComp elt [⟨tg,iter,ifs,0⟩] scope pos) (some (.Name y py)) spos.line X.env=pure true) :
  PS X (.Assign [.Name y py] (.ListComp elt [⟨tg,iter,ifs,0⟩] scope pos) spos) (u2 (kA src wi g tt te) (iI i)):=by
 intro pins s σ H D I h
 rw [exec_Assign_Name_used _ _ _ _ hsw]
 refine wB (wpAny_standAt (wB ?_))
 show wpAny _ X.A (do let _ <- comprehension (.ListComp elt [⟨tg,iter,ifs,0⟩] scope pos) scope X.env _ (newList []) false (eval iter X.env) (some (assign (.Name y py) X.env))) _ _ s
 refine wB (wpAny_mono (rg (use:=some (assign (.Name y py) X.env)) (QQ:=fun _ s'=>∃ σ' H',Inv X pins σ' H' s'/\D.nx σ' H') S hc hi hg ht he hs I h ?_) (fun _ s' hq=>wpAny_pure (wpAny_pure hq)) fun _ _ e=>e)
 intro Dd C H' s' m IA hC hn q
 show wpAny _ X.A (assign (.Name y py) X.env (.ref Dd)) _ _ s'
 refine wpAny_assign_Name (ki IA hN hi' hx (v:=.ref Dd) rfl (fun s2 I2 hsb=>?_) hf)
 obtain ⟨a,sb,ha⟩:=hsb
 have ne:C≠a:=by
  rcases ha with rfl | ha
  · exact hC.2.1
  · exact Ne.symm (hC.2.2.2.2.1 y a ha)
 refine ⟨m,hn.sameBut sb ne,fun h3 sb3=>⟨_,H',?_,q⟩⟩
 have kC:∀ b o,b≠C->s2.heap.get? b=some o->h3.get? b=some o:=fun b o hb e=>sb3.extBut b o hb e
 have nm:∀ {b:Addr},b∉[C]->b≠C:=fun hb z=>hb (by rw [z];exact List.mem_cons_self)
 refine I2.call' (s':={s2 with heap:=h3}) (ch:=[C]) rfl ⟨fun b o e n hb hx=>kC b o (nm hx) e,fun b o e n hb hx=>⟨o.slots,kC b o (nm hx) e⟩,fun b o e n hx=>n,fun b o e hx=>⟨o,kC b o (nm hx) e⟩,fun b xs e=>e,fun b o u e=>e,fun b ps e=>⟨#[],by rw [Array.append_empty];exact e⟩⟩ ?_ I2.bare fun b hb=>?_
 · intro b u e
   have nb:b≠C:=fun z=>by rw [z,hC.1] at e;cases e
   refine (I2.hok b u e).stay (fun c v hc' q=>kC c v ?_ q) (fun _ q=>q) fun _ _ q=>q
   rcases hc' with z | z
   · rw [z];exact nb
   · intro w;rw [w,hC.1] at z;cases z
 · cases List.mem_singleton.mp hb
   exact ⟨hC.2.2.2.1,hC.2.1,hC.2.2.2.2.1,hC.2.2.2.2.2⟩
end
section
variable {X:Cx} {elt tg iter:Expr} {ifs:List Expr} {scope:Scope} {pos:Pos} {M:List Str} {src:List (Option Nat)} {fi:De->Option (List Dt)} {ft:De->Option Bool} {fe:De->Option Dt} {i:Nat}
def vP {sc:Scope} {N:List Str} {y:Str} {py spos:Pos} {ts:List Nat} {bb:Dt->De->Option De} (h:fA sc N i y=true) (hl:jy sc y=true) (nd:N.Nodup) (S:CmpScope X.N X.env.scope scope M src) (hc:X.calm=true) (hi:DIB X tg iter fi) (hg:M.Nodup->∀ C s H ex,DG (cxC X M scope C s H ex) tg ts bb)
  (ht:∀ C s H ex,DTs (cxC X M scope C s H ex) ifs ft) (he:∀ C s H ex,DL (cxC X M scope C s H ex) elt fe) (hts:(ts.all fun k=>decide (src[k]?=some none))=true) (hs:∀ x,foldedSetIterable iter X.env x=pure x:=by intro _;rfl)
  (e1:cW X sc:=by rfl) (e2:X.N=N:=by rfl) (hf:X.fn y=true∨X.env.scope.names.lookup y=some .local:=by exact .inl rfl) (hsw:swapsWith (.ListComp elt [⟨tg,iter,ifs,0⟩] scope pos) (some (.Name y py)) spos.line X.env=pure true:=by rfl) :
  DS1 X (.Assign [.Name y py] (.ListComp elt [⟨tg,iter,ifs,0⟩] scope pos) spos) (dX i (ce src fi bb ft fe)):=by
 have e1:X.env.scope=sc:=e1
 subst e1 e2
 refine PS.mono (qg (g:=gD X.K ts bb) (tt:=tTr X.K ft) (te:=tL X.K fe) nd (iA h) (lT hl) hf S hc hi (fun nd C s H ex=>hg nd C s H ex) (fun C s H ex=>ht C s H ex) (fun C s H ex=>he C s H ex) hs hsw) fun D σ H ⟨Φ,δ,F,o,hK,en,hf',k⟩=>?_
 unfold dX at hf'
 obtain ⟨t,ht',hf'⟩:=mS hf'
 cases hf'
 exact p8 S hts σ H _ ⟨Φ,δ,F,t,hK,en,ht',fun v H' F' S st o hs=>k _ F' H' (en.put st (hK▸o) hs i)⟩
end
def ClsAt.inj {K:PySem.W.Frag} {c:Str} {C C':Addr} (h:ClsAt K c C) (h':ClsAt K c C'):C=C':=by
 unfold ClsAt at h h'
 rw [h] at h'
 cases h'
 rfl
def nq (K:PySem.W.Frag) (c f:Str):Prop:=∃ C,ClsAt K c C/\Cls K C/\NoAttr K C f
section
variable {X:Cx} {e o:Expr} {f:Str} {pos pos' apos cpos:Pos} {i j:Nat} {c:Str} {NS:List Str} {fe:De->Option T} {fd:De->Option Dt}
end
section
variable {X:Cx} {e o ik:Expr} {f:Str} {pos pos' apos cpos spos:Pos} {i j:Nat} {c:Str} {NS:List Str} {fe:De->Option T} {fd fk:De->Option Dt}
end
structure OkM (P:Program) (w:World) (K:PySem.W.Frag) (mg:Str->Option Value) (base:Heap) (c m:Str) (k:Nat) (ps:List Str) (sp:Sp):Prop where
 ex:∃ C f fd,ClsAt K c C/\Cls K C/\Meth K C m f/\Binds K fd ps []/\FnOk P w K mg base CX0 k f fd ps sp
structure DefM (K:PySem.W.Frag) (c m q:Str) (st:Stmt) (ps:List Str):Prop where
 ex:∃ C f fd,ClsAt K c C/\Cls K C/\Meth K C m f/\Binds K fd ps []/\Fun K m q st f fd
structure OkI (P:Program) (w:World) (K:PySem.W.Frag) (mg:Str->Option Value) (base:Heap) (c:Str) (k:Nat) (ps:List Str) (sp:Sp):Prop where
 ex:∃ C f fd,ClsAt K c C/\mg c=some (.ref C)/\Mk K C f/\Binds K fd ps []/\FnOk P w K mg base CX0 k f fd ps sp
structure DefI (K:PySem.W.Frag) (mg:Str->Option Value) (c q:Str) (st:Stmt) (ps:List Str):Prop where
 ex:∃ C f fd,ClsAt K c C/\mg c=some (.ref C)/\Mk K C f/\Binds K fd ps []/\Fun K "__init__" q st f fd
def tE:T->Option T
 | .leaf d=>if iO d then some (.leaf d) else none
 | .lst l=>if l.all iO then some (.lst l) else none
 | _=>none
def kS {K:PySem.W.Frag} {F F':Hp}:∀ {l:List Dt} {vs:List V},Reps K F l vs->l.all iO=true->Reps K F' l vs
 | [],vs,h,_=>by simp only [Reps] at h ⊢;exact h
 | d::l,vs,h,hf=>by
  simp only [List.all_cons,Bool.and_eq_true] at hf
  simp only [Reps] at h ⊢
  obtain ⟨v,ws,e,h1,h2⟩:=h
  exact ⟨v,ws,e,np h1 hf.1,kS h2 hf.2⟩
def tF {K:PySem.W.Frag} {F1 H1:Hp} {u t:T} {Q:VK} (fh:Same F1 H1) (hf:tE u=some t) (k:KO K F1 H1 t Q):KO K H1 H1 u Q:=fun v H' F' S st o hs=>by
 unfold tE at hf
 split at hf<;>first | (cases hf;done) | skip
 · split at hf<;>first | (cases hf;done) | skip
   rename_i d hd
   cases hf
   exact k.leaf v H' F1 ⟨st.hh,Same.refl _,fh.trans st.hh,fun b o e=>.inl e⟩ (np o hd)
 · split at hf<;>first | (cases hf;done) | skip
   rename_i l hl
   cases hf
   obtain ⟨a,vs,e,sa,h1,h2⟩:=o
   refine k v H' F1 S ⟨st.hh,Same.refl _,fh.trans st.hh,fun b o e=>.inl e⟩ ⟨a,vs,e,sa,h1,kS h2 hl⟩ fun b z=>⟨?_,(hs b z).2.1,(hs b z).2.2⟩
   cases q:F1 b with
   | none=>rfl
   | some o=>have y:=(hs b z).2.1;rw [fh _ _ q] at y;cases y
def iR {m:Str}:∀ {fs:List (Str×V)},m∉fs.map (·.1)->fs.lookup m=none
 | [],_=>rfl
 | (g,x)::fs,h=>by
  simp only [List.map_cons,List.mem_cons,not_or] at h
  have:(m==g)=false:=by simpa using h.1
  simp only [List.lookup,this]
  exact iR h.2
section
variable {X:Cx} {e o:Expr} {es:List Expr} {m c:Str} {pos apos cpos p:Pos} {i j:Nat} {NS ps:List Str} {fo:De->Option Dt} {fs:De->Option (List Dt)} {ff:List Dt->Option T} {k n:Nat}
end
section
variable {K:PySem.W.Frag} {F H:Hp} {ts:List T} {vs:List V} {S:Nat->Addr->Prop} {N:List Str}
end
section
variable {P:Program} {w:World} {K:PySem.W.Frag} {mg:Str->Option Value} {base:Heap}
end
section
variable {X:Cx} {e:Expr} {pos:Pos} {fd:De->Option Dt}
end
section
variable {X:Cx} {e:Expr} {es:List Expr} {i:Nat} {ags:List Ag} {f:De->Option Dt}
end
section
variable {X:Cx} {e o:Expr} {es:List Expr} {x m c:Str} {pos apos cpos p:Pos} {i j:Nat} {NS ps:List Str} {sc:Scope} {k n:Nat} {f:List T->Option (T×List T)} {ags:List Ag} {fs:De->Option (List Dt)} {fe fk:De->Option Dt}
end
section
variable {X:Cx}
end
section
variable {X:Cx} {pos:Pos} {k v:Expr} {ks:List (Option Expr)} {vs:List Expr} {fk fv:De->Option Dt} {g:De->Option (List (Key×Dt))}
end
section
variable {X:Cx} {pins:List (Addr×Obj)} {σ:St} {H:Hp} {s:Shared} {a:Addr} {u:HO} {ob:Obj}
def Inv.frz (I:Inv X pins σ H s) (e:H a=some u) (mu:Mut (H a)) (ho:s.heap.get? a=some ob) (hu:∀ c xs,u≠.ins c xs []) (hp:u≠.own a) (hi:∀ C dx fs,u≠.ins C dx fs):Inv X pins σ (upd H a (.frz ob u)) s:=by
 have:=I.write (x:=a) (e:=a) (o:=.frz ob u) (h':=s.heap) (t':=s.toks) mu (.inl rfl) (fun _ _ _ q=>q) ⟨_,ho⟩ ⟨ho,?_⟩
 · exact this
 · refine (I.hok a u e).stay (fun b u _ q=>q) (fun b q=>?_) fun b xs q=>?_
   · rw [aG (fun z=>by rw [z,e] at q;cases q;exact hp rfl)]
     exact q
   · rw [aG (fun z=>by rw [z] at q;rw [q] at mu;exact mu)]
     exact q
def Inv.thaw (I:Inv X pins σ H s) (e:H a=some (.frz ob u)) (hn:∀ o w,X.H₀ a≠some (.frz o w)) (hu:∀ xs,u≠.tup xs) (ho:∀ y,u≠.own y):Inv X pins σ (upd H a u) s:=by
 have ne:∀ {b:Addr},H b=none->b≠a:=fun {b} h z=>by rw [z,e] at h;cases h
 refine ⟨I.ok,I.os,I.bare,⟨I.base.keep,I.base.slot,fun b o h1 h2 h3=>?_,I.base.there,fun b xs h=>?_,fun b o w h=>?_,fun b ps h=>?_⟩,I.loc,I.cell,?_,fun x c h=>?_,fun p hp=>?_,fun b o h=>?_,I.len⟩
 · have:=I.base.free b o h1 h2 h3
   rw [aG (ne this)]
   exact this
 · have:=I.base.tups b xs h
   rw [aG fun z=>by rw [z,e] at this;cases this]
   exact this
 · have hb:b≠a:=fun z=>by rw [z] at h;exact hn o w h
   rw [aG hb]
   exact I.base.frzs b o w h
 · obtain ⟨more,hm⟩:=I.base.tbls b ps h
   exact ⟨more,by rw [aG fun z=>by rw [z,e] at hm;cases hm];exact hm⟩
 · rw [aG (ne I.free)]
   exact I.free
 · rw [aG (ne (I.freeC x c h))]
   exact I.freeC x c h
 · obtain ⟨q1,q2,q3⟩:=I.pin p hp
   exact ⟨q1,by rw [aG (ne q2)];exact q2,q3⟩
 · have st:∀ {b:Addr} {o:HO},ObjOk X.prog X.w H s.heap b o->ObjOk X.prog X.w (upd H a u) s.heap b o:=fun {b o} x=>x.stay (fun _ _ _ q=>q) (fun c q=>by
       rw [aG fun z=>by rw [z,e] at q;cases q]
       exact q) fun c xs q=>by
       rw [aG fun z=>by rw [z,e] at q;cases q]
       exact q
   by_cases hb:b=a
   · subst hb
     rw [aB] at h
     cases h
     exact st (I.hok b _ e).2
   · rw [aG hb] at h
     exact st (I.hok b o h)
end
section
variable {X:Cx} {tg:Expr}
end
inductive CV where
 | dat (d:Dt) | ref (i:Nat)
inductive CO where
 | lst (l:List CV) | tup (l:List CV) | dK (l:List (Key×CV)) | ins (c:Str) (ns:List Str) (l:List CV) | wk (l:List (Key×CV)) | dT (l:List (List Key×CV)) | wt (l:List (List Key×CV))
abbrev CH:=List CO
abbrev Sl:=List (Option CV)
section
variable (K:PySem.W.Frag) (F H:Hp) (ρ:Nat->Addr) (n:Nat)
def RelC:CV->V->Prop
 | .dat d,v=>Rep K F d v
 | .ref i,v=>i<n/\v=.ref (ρ i)
def RelCs:List CV->List V->Prop
 | [],vs=>vs=[]
 | c::l,vs=>∃ v ws,vs=v::ws/\RelC K F ρ n c v/\RelCs l ws
noncomputable def CoOk (a:Addr):CO->Prop
 | .lst l=>∃ vs,H a=some (.lst vs)/\RelCs K F ρ n l vs
 | .tup l=>∃ vs,H a=some (.tup vs)/\RelCs K F ρ n l vs
 | .dK l=>∃ kvs,H a=some (.dK kvs)/\kvs.map (·.1)=l.map (·.1)/\RelCs K F ρ n (l.map (·.2)) (kvs.map (·.2))
 | .ins c ns l=>∃ C dx fs,ClsAt K c C/\H a=some (.ins C dx fs)/\fs.map (·.1)=ns/\RelCs K F ρ n l (fs.map (·.2))
 | .wk l=>∃ o kvs,H a=some (.frz o (.dK kvs))/\kvs.map (·.1)=l.map (·.1)/\RelCs K F ρ n (l.map (·.2)) (kvs.map (·.2))
 | .dT l=>∃ kvs,H a=some (.dT kvs)/\kvs.map (·.1)=l.map (·.1)/\RelCs K F ρ n (l.map (·.2)) (kvs.map (·.2))
 | .wt l=>∃ o kvs,H a=some (.frz o (.dT kvs))/\kvs.map (·.1)=l.map (·.1)/\RelCs K F ρ n (l.map (·.2)) (kvs.map (·.2))
end
section
variable {K:PySem.W.Frag} {F H F' H' F1 H1:Hp} {ρ ρ' ρ1:Nat->Addr} {n n':Nat} {c:CV} {v:V}
def RelC.mono (ff:Same F F') (he:∀ i,i<n->ρ' i=ρ i) (hn:n<=n') (h:RelC K F ρ n c v):RelC K F' ρ' n' c v:=by
 cases c with
 | dat d=>exact Rep.same ff h
 | ref i=>exact ⟨Nat.lt_of_lt_of_le h.1 hn,by rw [he i h.1];exact h.2⟩
def RelCs.mono (ff:Same F F') (he:∀ i,i<n->ρ' i=ρ i) (hn:n<=n'):∀ {l:List CV} {vs:List V},RelCs K F ρ n l vs->RelCs K F' ρ' n' l vs
 | [],_,h=>h
 | c::l,vs,h=>by
  obtain ⟨v,ws,e,h1,h2⟩:=h
  exact ⟨v,ws,e,h1.mono ff he hn,RelCs.mono ff he hn h2⟩
def RelCs.length:∀ {l:List CV} {vs:List V},RelCs K F ρ n l vs->vs.length=l.length
 | [],_,h=>by rw [show _=[] from h];rfl
 | c::l,vs,h=>by
  obtain ⟨v,ws,rfl,h1,h2⟩:=h
  simp [RelCs.length h2]
def RelCs.get:∀ {l:List CV} {vs:List V} {i:Nat} {c:CV},RelCs K F ρ n l vs->l[i]?=some c->∃ v,vs[i]?=some v/\RelC K F ρ n c v
 | [],_,_,_,_,e=>by simp at e
 | c::l,vs,0,c',h,e=>by
  obtain ⟨v,ws,rfl,h1,h2⟩:=h
  simp at e
  subst e
  exact ⟨v,rfl,h1⟩
 | c::l,vs,i+1,c',h,e=>by
  obtain ⟨v,ws,rfl,h1,h2⟩:=h
  obtain ⟨u,q1,q2⟩:=RelCs.get (i:=i) h2 (by simpa using e)
  exact ⟨u,by simpa using q1,q2⟩
def RelCs.set {c:CV} {v:V} (r:RelC K F ρ n c v):∀ {l:List CV} {vs:List V} (i:Nat),RelCs K F ρ n l vs->RelCs K F ρ n (l.set i c) (vs.set i v)
 | [],vs,i,h=>by rw [show vs=[] from h];rfl
 | x::l,vs,0,h=>by
  obtain ⟨u,ws,rfl,h1,h2⟩:=h
  exact ⟨v,ws,rfl,r,h2⟩
 | x::l,vs,i+1,h=>by
  obtain ⟨u,ws,rfl,h1,h2⟩:=h
  exact ⟨u,ws.set i v,rfl,h1,RelCs.set r i h2⟩
def RelCs.append:∀ {l m:List CV} {vs ws:List V},RelCs K F ρ n l vs->RelCs K F ρ n m ws->RelCs K F ρ n (l++m) (vs++ws)
 | [],m,vs,ws,h,h'=>by rw [show vs=[] from h];exact h'
 | x::l,m,vs,ws,h,h'=>by
  obtain ⟨u,us,rfl,h1,h2⟩:=h
  exact ⟨u,us++ws,rfl,h1,RelCs.append h2 h'⟩
def RelCs.one {c:CV} {v:V} (r:RelC K F ρ n c v):RelCs K F ρ n [c] [v]:=⟨v,[],rfl,r,rfl⟩
def RelCs.dats:∀ {l:List Dt} {vs:List V},Reps K F l vs->RelCs K F ρ n (l.map .dat) vs
 | [],vs,h=>by simp only [Reps] at h;exact h
 | d::l,vs,h=>by
  simp only [Reps] at h
  obtain ⟨v,ws,e,h1,h2⟩:=h
  exact ⟨v,ws,e,h1,RelCs.dats h2⟩
def CoOk.mono {a:Addr} {o:CO} (ff:Same F F') (he:∀ i,i<n->ρ' i=ρ i) (hn:n<=n') (ha:∀ u,H a=some u->H' a=some u) (h:CoOk K F H ρ n a o):CoOk K F' H' ρ' n' a o:=by
 cases o with
 | lst l=>obtain ⟨vs,h1,h2⟩:=h;exact ⟨vs,ha _ h1,h2.mono ff he hn⟩
 | tup l=>obtain ⟨vs,h1,h2⟩:=h;exact ⟨vs,ha _ h1,h2.mono ff he hn⟩
 | dK l=>obtain ⟨vs,h1,h2,h3⟩:=h;exact ⟨vs,ha _ h1,h2,h3.mono ff he hn⟩
 | ins c ns l=>obtain ⟨C,dx,fs,h0,h1,h2,h3⟩:=h;exact ⟨C,dx,fs,h0,ha _ h1,h2,h3.mono ff he hn⟩
 | wk l=>obtain ⟨o,vs,h1,h2,h3⟩:=h;exact ⟨o,vs,ha _ h1,h2,h3.mono ff he hn⟩
 | dT l=>obtain ⟨vs,h1,h2,h3⟩:=h;exact ⟨vs,ha _ h1,h2,h3.mono ff he hn⟩
 | wt l=>obtain ⟨o,vs,h1,h2,h3⟩:=h;exact ⟨o,vs,ha _ h1,h2,h3.mono ff he hn⟩
def CoOk.there {a:Addr} {o:CO} (h:CoOk K F H ρ n a o):∃ u,H a=some u:=by
 cases o with
 | lst l=>obtain ⟨vs,h1,h2⟩:=h;exact ⟨_,h1⟩
 | tup l=>obtain ⟨vs,h1,h2⟩:=h;exact ⟨_,h1⟩
 | dK l=>obtain ⟨vs,h1,h2⟩:=h;exact ⟨_,h1⟩
 | ins c ns l=>obtain ⟨C,dx,fs,h0,h1,h2⟩:=h;exact ⟨_,h1⟩
 | wk l=>obtain ⟨o,vs,h1,h2⟩:=h;exact ⟨_,h1⟩
 | dT l=>obtain ⟨vs,h1,h2⟩:=h;exact ⟨_,h1⟩
 | wt l=>obtain ⟨o,vs,h1,h2⟩:=h;exact ⟨_,h1⟩
end
structure Gh (K:PySem.W.Frag) (F H:Hp) (ρ:Nat->Addr) (ch:CH):Prop where
 fh:Same F H
 inj:∀ i j,i<ch.length->j<ch.length->ρ i=ρ j->i=j
 out:∀ i,i<ch.length->F (ρ i)=none∨∃ xs,F (ρ i)=some (.tup xs)
 ok:∀ i o,ch[i]?=some o->CoOk K F H ρ ch.length (ρ i) o
structure Adv (K:PySem.W.Frag) (F H:Hp) (ρ:Nat->Addr) (ch:CH) (F' H':Hp) (ρ':Nat->Addr) (ch':CH):Prop where
 gh:Gh K F' H' ρ' ch'
 len:ch.length<=ch'.length
 ext:∀ i,i<ch.length->ρ' i=ρ i
 fr:∀ i,ch.length<=i->i<ch'.length->H (ρ' i)=none
 prot:∀ b o,H b=some o->(∀ i,i<ch.length->ρ i≠b)->H' b=some o
 old:Same F F'
 nw:∀ b o,F' b=some o->F b=some o∨H b=none∨∃ xs,o=.tup xs
 fz:∀ b o u,H b=some (.frz o u)->H' b=some (.frz o u)
section
variable {K:PySem.W.Frag} {F H F' H' F1 H1:Hp} {ρ ρ' ρ1:Nat->Addr} {ch ch' ch1:CH} {c:CV} {v:V}
def Gh.at (g:Gh K F H ρ ch) {i:Nat} (hi:i<ch.length):∃ u,H (ρ i)=some u:=(g.ok i ch[i] (by simp [hi])).there
def Adv.refl (g:Gh K F H ρ ch):Adv K F H ρ ch F H ρ ch:=⟨g,nL _,fun _ _=>rfl,fun i h1 h2=>absurd h2 (Nat.not_lt.mpr h1),fun _ _ h _=>h,Same.refl _,fun _ _ h=>.inl h,fun _ _ _ h=>h⟩
def Adv.back (g:Gh K F H ρ ch) (a:Adv K F H ρ ch F1 H1 ρ1 ch1) {b:Addr} (h:H1 b=none):H b=none:=by
 cases q:H b with
 | none=>rfl
 | some o =>
  by_cases z:∃ i,i<ch.length/\ρ i=b
  · obtain ⟨i,hi,rfl⟩:=z
    obtain ⟨u,hu⟩:=a.gh.at (Nat.lt_of_lt_of_le hi a.len)
    rw [a.ext i hi,h] at hu
    cases hu
  · rw [a.prot b o q fun i hi e=>z ⟨i,hi,e⟩] at h
    cases h
def Adv.trans (g:Gh K F H ρ ch) (a:Adv K F H ρ ch F1 H1 ρ1 ch1) (b:Adv K F1 H1 ρ1 ch1 F' H' ρ' ch'):Adv K F H ρ ch F' H' ρ' ch' where
 gh:=b.gh
 len:=Nat.le_trans a.len b.len
 ext:=fun i hi=>(b.ext i (Nat.lt_of_lt_of_le hi a.len)).trans (a.ext i hi)
 fr:=fun i h1 h2=>by
  by_cases hi:i<ch1.length
  · rw [b.ext i hi]
    exact a.fr i h1 hi
  · exact a.back g (b.fr i (Nat.not_lt.mp hi) h2)
 prot:=fun x o h1 h2=>b.prot x o (a.prot x o h1 h2) fun i hi e=>by
  by_cases hj:i<ch.length
  · rw [a.ext i hj] at e
    exact h2 i hj e
  · have:=a.fr i (Nat.not_lt.mp hj) hi
    rw [e,h1] at this
    cases this
 old:=a.old.trans b.old
 nw:=fun x o h=>(b.nw x o h).elim (a.nw x o) fun z=>.inr (z.imp_left fun z=>a.back g z)
 fz:=fun x o u h=>b.fz x o u (a.fz x o u h)
def Gh.of (g:Gh K F H ρ ch) (st:Step F H F' H'):Gh K F' H' ρ ch:=by
 refine ⟨st.fh,g.inj,fun i hi=>?_,fun i o h=>(g.ok i o h).mono st.ff (fun _ _=>rfl) (nL _) fun u hu=>st.hh _ _ hu⟩
 cases q:F' (ρ i) with
 | none=>exact .inl rfl
 | some o =>
  rcases st.nw _ _ q with z | z
  · rcases g.out i hi with y | ⟨xs,y⟩
    · rw [y] at z;cases z
    · rw [y] at z;cases z;exact .inr ⟨xs,rfl⟩
  · obtain ⟨u,hu⟩:=g.at hi
    rw [hu] at z;cases z
def Adv.of (g:Gh K F H ρ ch) (st:Step F H F' H'):Adv K F H ρ ch F' H' ρ ch:=
 ⟨g.of st,nL _,fun _ _=>rfl,fun i h1 h2=>absurd h2 (Nat.not_lt.mpr h1),fun b o h _=>st.hh b o h,st.ff,fun b o h=>(st.nw b o h).imp_right .inl,fun b o u h=>st.hh b _ h⟩
def Adv.upd (g:Gh K F H ρ ch) {i:Nat} {o:CO} {u w:HO} (hi:i<ch.length) (hw:H (ρ i)=some w) (hz:∀ x y,w≠.frz x y) (ho:CoOk K F (upd H (ρ i) u) ρ ch.length (ρ i) o) (ht:∀ xs,w≠.tup xs:=by intro _ z;cases z):Adv K F H ρ ch F (upd H (ρ i) u) ρ (ch.set i o) where
 gh:=⟨fun b x e=>by
     have:b≠ρ i:=fun q=>by
      rw [q] at e
      rcases g.out i hi with y | ⟨xs,y⟩
      · rw [y] at e;cases e
      · have:=g.fh _ _ y
        rw [hw] at this
        exact ht xs (Option.some.inj this)
     rw [aG this]
     exact g.fh b x e,fun j k hj hk=>g.inj j k (by simpa using hj) (by simpa using hk),fun j hj=>g.out j (by simpa using hj),fun j x hx=>by
     rw [List.length_set]
     rw [List.getElem?_set] at hx
     split at hx
     · rename_i q
       subst q
       first
        | (split at hx<;>first | (cases hx;exact ho) | cases hx)
        | (cases hx;exact ho)
     · rename_i q
       refine (g.ok j x hx).mono (Same.refl _) (fun _ _=>rfl) (nL _) fun y hy=>?_
       have hj:j<ch.length:=(gX hx).1
       rw [aG fun e=>q (g.inj j i hj hi e).symm]
       exact hy⟩
 len:=by simp
 ext:=fun _ _=>rfl
 fr:=fun j h1 h2=>absurd h2 (by simpa using h1)
 prot:=fun b x h1 h2=>by
  rw [aG fun e=>h2 i hi e.symm]
  exact h1
 old:=Same.refl _
 nw:=fun b x h=>.inl h
 fz:=fun b x y h=>by
  rw [aG fun e=>by rw [e,hw] at h;exact hz x y (Option.some.inj h)]
  exact h
def Adv.new (g:Gh K F H ρ ch) (st:Step F H F' H') {a:Addr} {o:CO} (ha:H a=none) (hf:F' a=none) (ho:CoOk K F' H' (fun i=>if i=ch.length then a else ρ i) (ch.length+1) a o) :
  Adv K F H ρ ch F' H' (fun i=>if i=ch.length then a else ρ i) (ch++[o]):=by
 have g':=(Adv.of g st).gh
 have lt:∀ {i:Nat},i<ch.length->(if i=ch.length then a else ρ i)=ρ i:=fun {i} hi=>if_neg (Nat.ne_of_lt hi)
 have ne:∀ {i:Nat},i<ch.length->ρ i≠a:=fun {i} hi e=>by
  obtain ⟨u,hu⟩:=g.at hi
  rw [e,ha] at hu
  cases hu
 refine ⟨⟨st.fh,fun i j hi hj e=>?_,fun i hi=>?_,fun i x hx=>?_⟩,by simp,fun i hi=>lt hi,fun i h1 h2=>?_,fun b x h1 _=>st.hh b x h1,st.ff,fun b o h=>(st.nw b o h).imp_right .inl,fun b o u h=>st.hh b _ h⟩
 · simp only [List.length_append,List.length_cons,List.length_nil] at hi hj
   by_cases h1:i=ch.length<;>by_cases h2:j=ch.length
   · rw [h1,h2]
   · rw [if_pos h1,if_neg h2] at e
     exact absurd e.symm (ne (by omega))
   · rw [if_neg h1,if_pos h2] at e
     exact absurd e (ne (by omega))
   · rw [if_neg h1,if_neg h2] at e
     exact g.inj i j (by omega) (by omega) e
 · simp only [List.length_append,List.length_cons,List.length_nil] at hi
   (try dsimp only)
   by_cases h1:i=ch.length
   · rw [if_pos h1];exact .inl hf
   · rw [if_neg h1];exact g'.out i (by omega)
 · simp only [List.length_append,List.length_cons,List.length_nil]
   by_cases h1:i<ch.length
   · rw [gL h1] at hx
     (try dsimp only)
     rw [lt h1]
     exact (g'.ok i x hx).mono (Same.refl _) (fun j hj=>lt hj) (Nat.le_succ _) fun u hu=>hu
   · rw [gR (Nat.not_lt.mp h1)] at hx
     have h2:i=ch.length:=by
      have:=(gX hx).1
      simp at this
      omega
     subst h2
     simp at hx
     subst hx
     (try dsimp only)
     rw [if_pos rfl]
     exact ho
 · simp only [List.length_append,List.length_cons,List.length_nil] at h2
   have h3:i=ch.length:=by omega
   (try dsimp only)
   rw [if_pos h3]
   exact ha
end
structure Ge (K:PySem.W.Frag) (δ:Sl) (ch:CH) (σ:St) (F H:Hp) (ρ:Nat->Addr):Prop where
 gh:Gh K F H ρ ch
 len:δ.length=σ.length
 has:∀ (i:Nat) (c:CV),δ[i]?=some (some c)->∃ v,σ[i]?=some (some v)/\RelC K F ρ ch.length c v
def KG (K:PySem.W.Frag) (F H:Hp) (ρ:Nat->Addr) (ch:CH) (c:CV) (ch':CH) (Q:VK):Prop:=∀ v F' H' ρ',Adv K F H ρ ch F' H' ρ' ch'->RelC K F' ρ' ch'.length c v->Q v H'
abbrev Fg:=Sl->CH->Option (CV×CH)
def tG (K:PySem.W.Frag) (f:Fg):TE:=fun σ H Q=>∃ δ ch F ρ c ch',Ge K δ ch σ F H ρ/\f δ ch=some (c,ch')/\KG K F H ρ ch c ch' Q
def GE (X:Cx) (e:Expr) (f:Fg):Prop:=PE X e (tG X.K f)
def dats:List CV->Option (List Dt)
 | []=>some []
 | .dat d::l=>(dats l).map (d::·)
 | _=>none
def dG {K:PySem.W.Frag} {F:Hp} {ρ:Nat->Addr} {n:Nat}:∀ {l:List CV} {ds:List Dt} {vs:List V},dats l=some ds->RelCs K F ρ n l vs->Reps K F ds vs
 | [],ds,vs,h,r=>by cases h;simp only [Reps];exact r
 | .dat d::l,ds,vs,h,r=>by
  simp only [dats] at h
  obtain ⟨es,he,rfl⟩:=mS h
  obtain ⟨v,ws,e,h1,h2⟩:=r
  simp only [Reps]
  exact ⟨v,ws,e,h1,dG he h2⟩
 | .ref i::l,ds,vs,h,r=>by cases h
def tvO:CO->Option T
 | .lst l=>(dats l).map .lst
 | .dK l=>(dats (l.map (·.2))).map fun ds=>.dct ((l.map (·.1)).zip ds)
 | _=>none
def loA (ch:CH):List Nat->Sl->De
 | _,[]=>[]
 | u,none::r=>none::loA ch u r
 | u,some (.dat d)::r=>some (.leaf d)::loA ch u r
 | u,some (.ref i)::r=>(if i∈u then none else (ch[i]?).bind tvO)::loA ch (i::u) r
def lo (δ:Sl) (ch:CH):De:=loA ch [] δ
section
variable {K:PySem.W.Frag} {F H F' H' F1 H1:Hp} {ρ ρ' ρ1:Nat->Addr} {δ:Sl} {σ:St} {ch ch' ch1 ch2:CH} {c:CV} {v:V} {Q:VK}
def Ge.adv (e:Ge K δ ch σ F H ρ) (a:Adv K F H ρ ch F' H' ρ' ch'):Ge K δ ch' σ F' H' ρ':=⟨a.gh,e.len,fun i c h=>by
 obtain ⟨v,h1,h2⟩:=e.has i c h
 exact ⟨v,h1,h2.mono a.old a.ext a.len⟩⟩
def KG.adv (k:KG K F H ρ ch c ch' Q) (g:Gh K F H ρ ch) (a:Adv K F H ρ ch F1 H1 ρ1 ch1):KG K F1 H1 ρ1 ch1 c ch' Q:=fun v F' H' ρ' b r=>k v F' H' ρ' (a.trans g b) r
def fH (ch:CH):∀ (u:List Nat) (δ:Sl),(loA ch u δ).length=δ.length
 | _,[]=>rfl
 | u,none::r=>by simp [loA,fH ch u r]
 | u,some (.dat d)::r=>by simp [loA,fH ch u r]
 | u,some (.ref i)::r=>by simp [loA,fH ch (i::u) r]
def ia {ch:CH}:∀ {u:List Nat} {δ:Sl} {j:Nat} {t:T},(loA ch u δ)[j]?=some (some t)->(∃ d,t=.leaf d/\δ[j]?=some (some (.dat d)))∨∃ i o,δ[j]?=some (some (.ref i))/\ch[i]?=some o/\tvO o=some t/\i∉u/\∀ m,m<j->δ[m]?≠some (some (.ref i))
 | _,[],j,t,h=>by simp [loA] at h
 | u,none::r,0,t,h=>by simp [loA] at h
 | u,none::r,j+1,t,h=>by
  rcases ia (u:=u) (δ:=r) (j:=j) (t:=t) (by simpa [loA] using h) with ⟨d,e,q⟩ | ⟨i,o,q1,q2,q3,q4,q5⟩
  · exact .inl ⟨d,e,by simpa using q⟩
  · refine .inr ⟨i,o,by simpa using q1,q2,q3,q4,fun m hm=>?_⟩
    cases m with
    | zero=>simp
    | succ m=>simpa using q5 m (by omega)
 | u,some (.dat d)::r,0,t,h=>by
  simp [loA] at h
  exact .inl ⟨d,h.symm,rfl⟩
 | u,some (.dat d)::r,j+1,t,h=>by
  rcases ia (u:=u) (δ:=r) (j:=j) (t:=t) (by simpa [loA] using h) with ⟨d',e,q⟩ | ⟨i,o,q1,q2,q3,q4,q5⟩
  · exact .inl ⟨d',e,by simpa using q⟩
  · refine .inr ⟨i,o,by simpa using q1,q2,q3,q4,fun m hm=>?_⟩
    cases m with
    | zero=>simp
    | succ m=>simpa using q5 m (by omega)
 | u,some (.ref i)::r,0,t,h=>by
  simp only [loA,List.getElem?_cons_zero,Option.some.injEq] at h
  split at h
  · cases h
  · rename_i hi
    obtain ⟨o,ho,h⟩:=bS h
    exact .inr ⟨i,o,rfl,ho,h,hi,fun m hm=>absurd hm (Nat.not_lt_zero _)⟩
 | u,some (.ref i)::r,j+1,t,h=>by
  rcases ia (u:=i::u) (δ:=r) (j:=j) (t:=t) (by simpa [loA] using h) with ⟨d,e,q⟩ | ⟨i',o,q1,q2,q3,q4,q5⟩
  · exact .inl ⟨d,e,by simpa using q⟩
  · simp only [List.mem_cons,not_or] at q4
    refine .inr ⟨i',o,by simpa using q1,q2,q3,q4.2,fun m hm=>?_⟩
    cases m with
    | zero =>
     simp only [List.getElem?_cons_zero,ne_eq,Option.some.injEq,CV.ref.injEq]
     exact fun z=>q4.1 z.symm
    | succ m=>simpa using q5 m (by omega)
def qh {α β:Type}:∀ {l:List α} {m:List β},l.length=m.length->(l.zip m).map (·.1)=l/\(l.zip m).map (·.2)=m
 | [],[],_=>⟨rfl,rfl⟩
 | [],_::_,h=>by cases h
 | _::_,[],h=>by cases h
 | a::l,b::m,h=>by
  obtain ⟨h1,h2⟩:=qh (l:=l) (m:=m) (by simpa using h)
  simp [h1,h2]
def vQ {o:CO} {t:T} {n:Nat} {a:Addr} {S:Addr->Prop} (h:tvO o=some t) (ok:CoOk K F H ρ n a o) (hs:S a):Own K F H t (.ref a) S:=by
 cases o with
 | lst l =>
  obtain ⟨ds,hd,rfl⟩:=mS h
  obtain ⟨vs,h1,h2⟩:=ok
  exact ⟨a,vs,rfl,hs,h1,dG hd h2⟩
 | dK l =>
  obtain ⟨ds,hd,rfl⟩:=mS h
  obtain ⟨vs,h1,h2,h3⟩:=ok
  have r:=dG hd h3
  have e:(l.map (·.1)).length=ds.length:=by
   have e1:=congrArg List.length h2
   have e2:=r.length
   simp only [List.length_map] at e1 e2 ⊢
   omega
  obtain ⟨z1,z2⟩:=qh e
  exact ⟨a,vs,rfl,hs,h1,by rw [z1];exact h2,by rw [z2];exact r⟩
 | tup l=>cases h
 | ins c ns l=>cases h
 | wk l=>cases h
 | dT l=>cases h
 | wt l=>cases h
def Gh.outO (g:Gh K F H ρ ch) {i:Nat} {o:CO} (h:ch[i]?=some o) (ht:tvO o≠none):F (ρ i)=none:=by
 rcases g.out i (gX h).1 with y | ⟨xs,y⟩
 · exact y
 · have z:=g.fh _ _ y
   cases o with
   | lst l=>obtain ⟨vs,h1,_⟩:=g.ok i _ h;rw [h1] at z;cases z
   | dK l=>obtain ⟨vs,h1,_⟩:=g.ok i _ h;rw [h1] at z;cases z
   | tup l=>exact absurd rfl ht
   | ins c ns l=>exact absurd rfl ht
   | wk l=>exact absurd rfl ht
   | dT l=>exact absurd rfl ht
   | wt l=>exact absurd rfl ht
def Ge.en (e:Ge K δ ch σ F H ρ):En ⟨K,F,H,fun b=>∃ i,i<ch.length/\ρ i=b⟩ (lo δ ch) σ F H:=by
 refine ⟨e.gh.fh,fun b o h _=>h,Same.refl _,fun b o h=>.inl h,by simp [lo,fH,e.len],fun j t h=>?_,fun j b=>∃ i o,δ[j]?=some (some (.ref i))/\ch[i]?=some o/\ρ i=b/\tvO o≠none/\∀ m,m<j->δ[m]?≠some (some (.ref i)),fun j t v h=>?_,fun j b z=>?_,fun j k b z1 z2=>?_⟩
 · rcases ia h with ⟨d,_,q⟩ | ⟨i,o,q,_⟩
   · obtain ⟨v,hv,_⟩:=e.has j _ q
     exact ⟨v,hv⟩
   · obtain ⟨v,hv,_⟩:=e.has j _ q
     exact ⟨v,hv⟩
 · obtain ⟨h1,h2⟩:=fW h
   rcases ia h1 with ⟨d,rfl,q⟩ | ⟨i,o,q1,q2,q3,q4,q5⟩
   · obtain ⟨w,hw,r⟩:=e.has j _ q
     rw [h2] at hw
     cases hw
     exact r
   · obtain ⟨w,hw,r⟩:=e.has j _ q1
     rw [h2] at hw
     cases hw
     obtain ⟨hi,rfl⟩:=r
     exact vQ q3 (e.gh.ok i o q2) ⟨i,o,q1,q2,rfl,by rw [q3];simp,q5⟩
 · obtain ⟨i,o,q1,q2,rfl,qt,q3⟩:=z
   have hi:i<ch.length:=(gX q2).1
   exact ⟨e.gh.outO q2 qt,e.gh.at hi,.inr ⟨i,hi,rfl⟩⟩
 · obtain ⟨i,o,q1,q2,e1,qt,q3⟩:=z1
   obtain ⟨i',o',q1',q2',e2,qt',q3'⟩:=z2
   have hi:i<ch.length:=(gX q2).1
   have hi':i'<ch.length:=(gX q2').1
   have:=e.gh.inj i i' hi hi' (e1.trans e2.symm)
   subst this
   by_cases h1:j<k
   · exact absurd q1 (q3' j h1)
   · by_cases h2:k<j
     · exact absurd q1' (q3 k h2)
     · exact Nat.le_antisymm (Nat.not_lt.mp h2) (Nat.not_lt.mp h1)
end
section
variable {X:Cx} {e a b o:Expr} {f fa fb:Fg} {fd:De->Option Dt} {ft:De->Option T} {pos:Pos} {i:Nat}
def eD (fd:De->Option Dt):Fg:=fun δ ch=>(fd (lo δ ch)).map fun d=>(.dat d,ch)
def ak (h:DL X e fd):GE X e (eD fd):=PE.mono h fun σ H Q ⟨δ,ch,F,ρ,c,ch',en,hf,k⟩=>by
 unfold eD at hf
 obtain ⟨d,hd,hf⟩:=mS hf
 cases hf
 exact ⟨_,_,F,d,rfl,en.en,hd,fun v H' F' st r=>k v F' H' ρ (Adv.of en.gh st) r⟩
def al (ch:CH):T->Option (CV×CH)
 | .leaf d=>some (.dat d,ch)
 | .lst l=>some (.ref ch.length,ch++[.lst (l.map .dat)])
 | .dct l=>some (.ref ch.length,ch++[.dK (l.map fun p=>(p.1,.dat p.2))])
 | _=>none
def nr {K:PySem.W.Frag} {F H:Hp} {ρ:Nat->Addr} {ch ch':CH} {c:CV} {t:T} {Q:VK} (g:Gh K F H ρ ch) (h:al ch t=some (c,ch')) (k:KG K F H ρ ch c ch' Q):KO K F H t Q:=fun v H' F' S st o hs=>by
 cases t with
 | leaf d =>
  cases h
  exact k v F' H' ρ (Adv.of g st) o
 | lst l =>
  cases h
  obtain ⟨x,vs,rfl,sa,h1,h2⟩:=o
  obtain ⟨q1,q2,_⟩:=hs x sa
  refine k _ F' H' _ (Adv.new g st q2 q1 ⟨vs,h1,RelCs.dats h2⟩) ⟨by simp,?_⟩
  dsimp only
  rw [if_pos rfl]
 | dct l =>
  cases h
  obtain ⟨x,vs,rfl,sa,h1,h2,h3⟩:=o
  obtain ⟨q1,q2,_⟩:=hs x sa
  refine k _ F' H' _ (Adv.new g st q2 q1 ⟨vs,h1,by rw [h2];simp,?_⟩) ⟨by simp,?_⟩
  · have:=RelCs.dats (ρ:=fun i=>if i=ch.length then x else ρ i) (n:=ch.length+1) h3
    rw [List.map_map] at this
    rw [List.map_map]
    exact this
  · dsimp only
    rw [if_pos rfl]
 | dcT l=>cases h
 | obj c ns l=>cases h
 | pin a t=>cases h
def eN (ft:De->Option T):Fg:=fun δ ch=>(ft (lo δ ch)).bind (al ch)
def bF (h:DO X e ft):GE X e (eN ft):=PE.mono h fun σ H Q ⟨δ,ch,F,ρ,c,ch',en,hf,k⟩=>by
 unfold eN at hf
 obtain ⟨t,ht,hf⟩:=bS hf
 exact ⟨_,_,F,t,rfl,en.en,ht,nr en.gh hf k⟩
def eV (i:Nat):Fg:=fun δ ch=>match δ[i]? with
 | some (some c)=>some (c,ch)
 | _=>none
def aw (h:PE X e (mM i)):GE X e (eV i):=PE.mono h fun σ H Q ⟨δ,ch,F,ρ,c,ch',en,hf,k⟩=>by
 unfold eV at hf
 split at hf<;>cases hf
 rename_i c q
 obtain ⟨v,h1,h2⟩:=en.has i _ q
 exact ⟨v,h1,k v F H ρ (Adv.refl en.gh) h2⟩
end
def vwO:CO->Option Dt
 | .lst l=>(dats l).map .lst
 | .dK l=>(dats (l.map (·.2))).map (.dct (l.map (·.1)))
 | .wk l=>(dats (l.map (·.2))).map (.dct (l.map (·.1)))
 | _=>none
def vw (ch:CH):CV->Option Dt
 | .dat d=>some d
 | .ref i=>(ch[i]?).bind vwO
section
variable {K:PySem.W.Frag} {F H F' H' F1 H1:Hp} {ρ ρ' ρ1:Nat->Addr} {n:Nat} {δ:Sl} {σ:St} {ch ch' ch1 ch2:CH} {c:CV} {v:V} {Q:VK} {d:Dt}
def gz (g:Gh K F H ρ ch) (r:RelC K F ρ ch.length c v) (h:vw ch c=some d):RepB K F H d v:=by
 cases c with
 | dat e=>cases h;exact RepB.of g.fh r
 | ref i =>
  obtain ⟨hi,rfl⟩:=r
  simp only [vw] at h
  obtain ⟨o,ho,h⟩:=bS h
  have ok:=g.ok i o ho
  cases o with
  | lst l =>
   obtain ⟨ds,hd,rfl⟩:=mS h
   obtain ⟨vs,h1,h2⟩:=ok
   exact ⟨_,vs,rfl,SqL.of h1,dG hd h2⟩
  | dK l =>
   obtain ⟨ds,hd,rfl⟩:=mS h
   obtain ⟨vs,h1,h2,h3⟩:=ok
   exact ⟨_,vs,rfl,.inl h1,h2,dG hd h3⟩
  | wk l =>
   obtain ⟨ds,hd,rfl⟩:=mS h
   obtain ⟨o,vs,h1,h2,h3⟩:=ok
   exact ⟨_,vs,rfl,.inr ⟨o,h1⟩,h2,dG hd h3⟩
  | tup l=>cases h
  | ins c ns l=>cases h
  | dT l=>cases h
  | wt l=>cases h
end
section
variable {X:Cx} {e a b o:Expr} {es:List Expr} {f fa fb fc:Fg} {fd:De->Option Dt} {ft:De->Option T} {pos apos cpos p:Pos} {i:Nat} {σ:St} {H:Hp} {Q:VK} {K:PySem.W.Frag}
def e2 (g:Dt->Dt->Option T) (fa fb:Fg):Fg:=fun δ ch=>(fa δ ch).bind fun p=>(fb δ p.2).bind fun q=>(vw q.2 p.1).bind fun x=>(vw q.2 q.1).bind fun y=>(g x y).bind (al q.2)
def tH {r:R2} {g:Dt->Dt->Option T} (hr:R2D K r g) (h:tG K (e2 g fa fb) σ H Q):tOp r (tG K fa) (tG K fb) σ H Q:=by
 obtain ⟨δ,ch,F,ρ,c,ch',en,hf,k⟩:=h
 unfold e2 at hf
 obtain ⟨p,hp,hf⟩:=bS hf
 obtain ⟨q,hq,hf⟩:=bS hf
 obtain ⟨x,hx,hf⟩:=bS hf
 obtain ⟨y,hy,hf⟩:=bS hf
 obtain ⟨t,ht,hf⟩:=bS hf
 refine ⟨δ,ch,F,ρ,p.1,p.2,en,hp,fun v F1 H1 ρ1 a1 r1=>⟨δ,p.2,F1,ρ1,q.1,q.2,en.adv a1,hq,fun w F2 H2 ρ2 a2 r2=>?_⟩⟩
 exact hr F2 H2 x y v w Q t a2.gh.fh (gz a2.gh (r1.mono a2.old a2.ext a2.len) hx) (gz a2.gh r2 hy) ht (nr a2.gh hf (k.adv en.gh (a1.trans en.gh a2)))
def tI {op:Operator} {r:R2} {g:Dt->Dt->Option T} (ho:OpR X (binaryOp op) r) (hr:R2D X.K r g) (ha:GE X a fa) (hb:GE X b fb):GE X (.BinOp a op b pos) (e2 g fa fb):=PE.mono (px ho ha hb) fun _ _ _ h=>tH hr h
abbrev Ft:=Sl->CH->Option (Bool×CH)
def tGT (K:PySem.W.Frag) (f:Ft):TT:=fun σ H Q=>∃ δ ch F ρ b ch',Ge K δ ch σ F H ρ/\f δ ch=some (b,ch')/\∀ F' H' ρ',Adv K F H ρ ch F' H' ρ' ch'->Q b H'
def GT (X:Cx) (e:Expr) (f:Ft):Prop:=PT X e (tGT X.K f)
def tD (ft:De->Option Bool):Ft:=fun δ ch=>(ft (lo δ ch)).map fun b=>(b,ch)
def jJ {ft:De->Option Bool} (h:DT X e ft):GT X e (tD ft):=PT.mono h fun σ H Q ⟨δ,ch,F,ρ,b,ch',en,hf,k⟩=>by
 unfold tD at hf
 obtain ⟨x,hx,hf⟩:=mS hf
 cases hf
 exact ⟨_,_,F,_,rfl,en.en,hx,fun H' F' st=>k F' H' ρ (Adv.of en.gh st)⟩
def nt (f:Fg):Ft:=fun δ ch=>(f δ ch).bind fun p=>match p.1 with
 | .dat (.bl b)=>some (b,p.2)
 | _=>none
def vR {f:Fg} {Q:Bool->Hp->Prop} (h:tGT K (nt f) σ H Q):tG K f σ H fun x H'=>∃ k,x=.bl k/\Q k H':=by
 obtain ⟨δ,ch,F,ρ,b,ch',en,hf,k⟩:=h
 unfold nt at hf
 obtain ⟨p,hp,hf⟩:=bS hf
 obtain ⟨c,ch1⟩:=p
 dsimp only at hf
 split at hf<;>cases hf
 refine ⟨δ,ch,F,ρ,_,_,en,hp,fun v F' H' ρ' a r=>⟨b,?_,k F' H' ρ' a⟩⟩
 have r:Rep K F' (.bl b) v:=r
 simp only [Rep] at r
 exact r
def tJ {op:CmpOp} {r:R2} {g:Dt->Dt->Option T} (ho:OpR X (compareOp op) r) (hr:R2D X.K r g) (ha:GE X a fa) (hb:GE X b fb) (hm:behindInMarks op b=false):GT X (.Compare a [op] [b] pos) (nt (e2 g fa fb)):=
 PT.mono (pF ho ha hb hm) fun _ _ _ h=>tH hr (vR h)
def lkC {κ:Type} [DecidableEq κ] (l:List (κ×CV)) (k:κ):Option CV:=(l.find? fun p=>decide (p.1=k)).map (·.2)
def jg {κ:Type} [DecidableEq κ] {F:Hp} {ρ:Nat->Addr} {n:Nat} {k:κ}:∀ {l:List (κ×CV)} {kvs:List (κ×V)},kvs.map (·.1)=l.map (·.1)->RelCs K F ρ n (l.map (·.2)) (kvs.map (·.2))→
  match lkC l k with | some c=>∃ v,fw kvs k=some v/\RelC K F ρ n c v | none=>fw kvs k=none
 | [],[],_,_=>rfl
 | [],p::kvs,h,_=>by cases h
 | p::l,[],h,_=>by cases h
 | p::l,q::kvs,h,r=>by
  simp only [List.map_cons,List.cons.injEq] at h
  obtain ⟨v,ws,e,r1,r2⟩:=r
  simp only [List.map_cons,List.cons.injEq] at e
  obtain ⟨rfl,rfl⟩:=e
  have ih:=jg (k:=k) h.2 r2
  by_cases hk:p.1=k
  · have e1:lkC (p::l) k=some p.2:=by simp [lkC,hk]
    rw [e1]
    exact ⟨q.2,fR (h.1.trans hk),r1⟩
  · have e1:lkC (p::l) k=lkC l k:=by simp [lkC,hk]
    rw [e1,fS (by rw [h.1];exact hk)]
    exact ih
def ixO (o:CO) (d:Dt):Option CV:=match o with
 | .lst l=>(asI d).bind (atI l)
 | .tup l=>(asI d).bind (atI l)
 | .dK l=>(fG d).bind (lkC l)
 | .wk l=>(fG d).bind (lkC l)
 | _=>none
def md {F:Hp} {d:Dt} {v:V} {j:Int} (h:asI d=some j) (r:Rep K F d v):v=.int j:=by
 unfold asI at h
 split at h<;>cases h
 simp only [Rep] at r
 exact r
def dR {F:Hp} {d:Dt} {v:V} {j:Key} (h:fG d=some j) (r:Rep K F d v):v=kV j:=by
 unfold fG at h
 split at h<;>cases h<;>(simp only [Rep] at r;exact r)
def qi {F:Hp} {ρ:Nat->Addr} {n:Nat} {l:List CV} {vs:List V} {j:Int} {c:CV} (r:RelCs K F ρ n l vs) (h:atI l j=some c):∃ v,atI vs j=some v/\RelC K F ρ n c v:=by
 unfold atI at h ⊢
 obtain ⟨m,hm,h⟩:=bS h
 obtain ⟨v,h1,h2⟩:=r.get h
 exact ⟨v,by rw [r.length,hm];exact h1,h2⟩
def eIx (fa fb:Fg):Fg:=fun δ ch=>(fa δ ch).bind fun p=>(fb δ p.2).bind fun q=>match p.1,q.1 with
 | .ref i,.dat d=>((q.2[i]?).bind fun o=>ixO o d).map fun c=>(c,q.2)
 | .dat x,.dat d=>(gIx x d).bind (al q.2)
 | _,_=>none
def bp {k:Nat} (hr:Room k X.A) (ha:GE X a fa) (hb:GE X b fb) (hs:lL b:=by exact fun _ _=>rfl) (hn:sA b:=by exact fun _ _=>rfl):GE X (.Subscript a b pos) (eIx fa fb):=
 PE.mono (PE.or (wM sr ha hb hs) (lP (kx hr) ha hb hn)) fun σ H Q ⟨δ,ch,F,ρ,c,ch',en,hf,kk⟩=>by
  unfold eIx at hf
  obtain ⟨⟨c1,ch1⟩,hp,hf⟩:=bS hf
  obtain ⟨⟨c2,ch2⟩,hq,hf⟩:=bS hf
  dsimp only at hq hf
  split at hf<;>first | (cases hf;done) | skip
  rotate_left
  · rename_i x d hz
    obtain ⟨t,ht,hf⟩:=bS hf
    left
    refine ⟨δ,ch,F,ρ,_,ch1,en,hp,fun v F1 H1 ρ1 a1 r1=>⟨δ,ch1,F1,ρ1,_,_,en.adv a1,hq,fun w F2 H2 ρ2 a2 r2=>?_⟩⟩
    exact r_ix F2 H2 x d v w Q t a2.gh.fh (gz (c:=.dat x) a2.gh (r1.mono a2.old a2.ext a2.len) rfl) (gz (c:=.dat d) a2.gh r2 rfl) ht (nr a2.gh hf (kk.adv en.gh (a1.trans en.gh a2)))
  rename_i i d hz
  obtain ⟨c',hc,hf⟩:=mS hf
  cases hf
  obtain ⟨o,ho,hc⟩:=bS hc
  cases o with
  | lst l =>
   obtain ⟨j,hj,hc⟩:=bS hc
   left
   refine ⟨δ,ch,F,ρ,_,ch1,en,hp,fun v F1 H1 ρ1 a1 r1=>⟨δ,ch1,F1,ρ1,_,_,en.adv a1,hq,fun w F2 H2 ρ2 a2 r2=>?_⟩⟩
   obtain ⟨vs,h1,h2⟩:=a2.gh.ok i _ ho
   obtain ⟨u,hu,ru⟩:=qi h2 hc
   exact .inl ⟨_,vs,j,u,(r1.mono a2.old a2.ext a2.len).2,md hj r2,SqL.of h1,hu,kk u F2 H2 ρ2 (a1.trans en.gh a2) ru⟩
  | tup l =>
   obtain ⟨j,hj,hc⟩:=bS hc
   left
   refine ⟨δ,ch,F,ρ,_,ch1,en,hp,fun v F1 H1 ρ1 a1 r1=>⟨δ,ch1,F1,ρ1,_,_,en.adv a1,hq,fun w F2 H2 ρ2 a2 r2=>?_⟩⟩
   obtain ⟨vs,h1,h2⟩:=a2.gh.ok i _ ho
   obtain ⟨u,hu,ru⟩:=qi h2 hc
   exact .inr (.inl ⟨_,vs,j,u,(r1.mono a2.old a2.ext a2.len).2,md hj r2,SqT.of h1,hu,kk u F2 H2 ρ2 (a1.trans en.gh a2) ru⟩)
  | dK l =>
   obtain ⟨j,hj,hc⟩:=bS hc
   right
   refine ⟨δ,ch,F,ρ,_,ch1,en,hp,fun v F1 H1 ρ1 a1 r1=>⟨δ,ch1,F1,ρ1,_,_,en.adv a1,hq,fun w F2 H2 ρ2 a2 r2=>?_⟩⟩
   obtain ⟨kvs,h1,h2,h3⟩:=a2.gh.ok i _ ho
   have lk:=jg (k:=j) h2 h3
   rw [hc] at lk
   obtain ⟨u,hu,ru⟩:=lk
   refine ⟨_,u,(r1.mono a2.old a2.ext a2.len).2,?_,kk u F2 H2 ρ2 (a1.trans en.gh a2) ru⟩
   rw [dR hj r2,<- hu]
   exact DGet.k h1
  | wk l =>
   obtain ⟨j,hj,hc⟩:=bS hc
   right
   refine ⟨δ,ch,F,ρ,_,ch1,en,hp,fun v F1 H1 ρ1 a1 r1=>⟨δ,ch1,F1,ρ1,_,_,en.adv a1,hq,fun w F2 H2 ρ2 a2 r2=>?_⟩⟩
   obtain ⟨o,kvs,h1,h2,h3⟩:=a2.gh.ok i _ ho
   have lk:=jg (k:=j) h2 h3
   rw [hc] at lk
   obtain ⟨u,hu,ru⟩:=lk
   refine ⟨_,u,(r1.mono a2.old a2.ext a2.len).2,?_,kk u F2 H2 ρ2 (a1.trans en.gh a2) ru⟩
   rw [dR hj r2,<- hu]
   exact .inl ⟨kvs,j,.inr ⟨o,h1⟩,rfl,rfl⟩
  | ins c ns l=>cases hc
  | dT l=>cases hc
  | wt l=>cases hc
def tK (ns:List Str) (l:List CV) (f:Str):Option CV:=match ns,l with
 | n::ns,c::l=>if f=n then some c else tK ns l f
 | _,_=>none
def qj {F:Hp} {ρ:Nat->Addr} {n:Nat} {f:Str} {c:CV}:∀ {ns:List Str} {l:List CV} {fs:List (Str×V)},fs.map (·.1)=ns->RelCs K F ρ n l (fs.map (·.2))->tK ns l f=some c->∃ v,fs.lookup f=some v/\RelC K F ρ n c v
 | [],l,fs,_,_,h=>by cases h
 | m::ns,[],fs,_,_,h=>by cases h
 | m::ns,c'::l,[],e,_,_=>by cases e
 | m::ns,c'::l,p::fs,e,r,h=>by
  simp only [List.map_cons,List.cons.injEq] at e
  obtain ⟨v,ws,q,r1,r2⟩:=r
  simp only [List.map_cons,List.cons.injEq] at q
  obtain ⟨rfl,rfl⟩:=q
  obtain ⟨p1,p2⟩:=p
  obtain ⟨rfl,rfl⟩:=e
  simp only [tK] at h
  by_cases hk:f=p1
  · rw [if_pos hk] at h
    cases h
    subst hk
    exact ⟨p2,by simp [List.lookup],r1⟩
  · rw [if_neg hk] at h
    have:(f==p1)=false:=by simpa using hk
    simp only [List.lookup,this]
    exact qj rfl r2 h
def eF (c f:Str) (fa:Fg):Fg:=fun δ ch=>(fa δ ch).bind fun p=>match p.1 with
 | .ref i=>match p.2[i]? with
  | some (.ins c' ns l)=>if c'=c then (tK ns l f).map fun x=>(x,p.2) else none
  | _=>none
 | _=>none
def cf {c f:Str} (h:GE X o fa) (hf:nq X.K c f) (hb:attributeBase o f X.env (eval o X.env)=eval o X.env:=by rfl):GE X (.Attribute o f pos) (eF c f fa):=PE.mono (xK h hb) fun σ H Q ⟨δ,ch,F,ρ,c0,ch',en,hg,kk⟩=>by
 obtain ⟨C,hc,hC,hN⟩:=hf
 unfold eF at hg
 obtain ⟨⟨c1,ch1⟩,hp,hg1⟩:=bS hg
 clear hg
 dsimp only at hg1
 split at hg1<;>first | (cases hg1;done) | skip
 rename_i i
 split at hg1<;>first | (cases hg1;done) | skip
 rename_i c' ns l ho
 split at hg1<;>first | (cases hg1;done) | skip
 rename_i hcc
 subst hcc
 obtain ⟨x,hx,hg2⟩:=mS hg1
 cases hg2
 refine ⟨δ,ch,F,ρ,_,_,en,hp,fun v F1 H1 ρ1 a1 r1=>?_⟩
 obtain ⟨C',dx,fs,h0,h1,h2,h3⟩:=a1.gh.ok i _ ho
 have:=ClsAt.inj hc h0
 subst this
 obtain ⟨u,hu,ru⟩:=qj h2 h3 hx
 exact ⟨_,C,dx,fs,u,r1.2,h1,hC,hN,hu,kk u F1 H1 ρ1 a1 ru⟩
abbrev Fgs:=Sl->CH->Option (List CV×CH)
def tGs (K:PySem.W.Frag) (f:Fgs):TA:=fun σ H Q=>∃ δ ch F ρ cs ch',Ge K δ ch σ F H ρ/\f δ ch=some (cs,ch')/\∀ vs F' H' ρ',Adv K F H ρ ch F' H' ρ' ch'->RelCs K F' ρ' ch'.length cs vs->Q vs H'
def GA (X:Cx) (es:List Expr) (f:Fgs):Prop:=PA X es (tGs X.K f)
def aD:Fgs:=fun _ ch=>some ([],ch)
def ah (f:Fg) (fs:Fgs):Fgs:=fun δ ch=>(f δ ch).bind fun p=>(fs δ p.2).map fun q=>(p.1::q.1,q.2)
def aT:GA X [] aD:=PA.mono fq fun σ H Q ⟨δ,ch,F,ρ,cs,ch',en,hf,k⟩=>by
 cases hf
 exact k [] F H ρ (Adv.refl en.gh) rfl
def ao {fs:Fgs} (h:GE X e f) (hr:GA X es fs) (hs:starEach (e::es) X.env=(false,eval e X.env)::starEach es X.env:=by rfl):GA X (e::es) (ah f fs):=PA.mono (dg h hr hs) fun σ H Q ⟨δ,ch,F,ρ,cs,ch',en,hf,k⟩=>by
 unfold ah at hf
 obtain ⟨p,hp,hf⟩:=bS hf
 obtain ⟨q,hq,hf⟩:=mS hf
 cases hf
 exact ⟨δ,ch,F,ρ,p.1,p.2,en,hp,fun v F1 H1 ρ1 a1 r1=>⟨δ,p.2,F1,ρ1,q.1,q.2,en.adv a1,hq,fun ws F2 H2 ρ2 a2 r2=>k (v::ws) F2 H2 ρ2 (a1.trans en.gh a2) ⟨v,ws,rfl,r1.mono a2.old a2.ext a2.len,r2⟩⟩⟩
def eL (fs:Fgs):Fg:=fun δ ch=>(fs δ ch).bind fun p=>if p.1.length<=sizeLine then some (.ref p.2.length,p.2++[.lst p.1]) else none
def eT (fs:Fgs):Fg:=fun δ ch=>(fs δ ch).bind fun p=>if p.1.length<=sizeLine then some (.ref p.2.length,p.2++[.tup p.1]) else none
def gc {F H:Hp} {ρ:Nat->Addr} {ch:CH} {o:CO} {u:HO} {a:Addr} (g:Gh K F H ρ ch) (ha:H a=none) (ho:CoOk K F (upd H a u) ρ ch.length a o):Adv K F H ρ ch F (upd H a u) (fun i=>if i=ch.length then a else ρ i) (ch++[o]):=
 Adv.new g (Step.made g.fh ha) ha (g.fh.free ha) (ho.mono (Same.refl _) (fun i hi=>if_neg (Nat.ne_of_lt hi)) (Nat.le_succ _) fun _ h=>h)
def gU {fs:Fgs} (h:GA X es fs):GE X (.List es pos) (eL fs):=PE.mono (se h) fun σ H Q ⟨δ,ch,F,ρ,c,ch',en,hf,k⟩=>by
 unfold eL at hf
 obtain ⟨p,hp,hf⟩:=bS hf
 split at hf<;>cases hf
 rename_i hz
 refine ⟨δ,ch,F,ρ,p.1,p.2,en,hp,fun vs F1 H1 ρ1 a1 r1=>⟨by rw [r1.length];exact hz,fun q hq=>?_⟩⟩
 refine k (.ref q) F1 _ _ (a1.trans en.gh (gc (o:=.lst p.1) a1.gh hq ⟨vs,aB,r1⟩)) ⟨by simp,?_⟩
 dsimp only
 rw [if_pos rfl]
def me {fs:Fgs} {x1} (h:GA X es fs):GE X (.Tuple es x1 pos) (eT fs):=PE.mono (lJ h) fun σ H Q ⟨δ,ch,F,ρ,c,ch',en,hf,k⟩=>by
 unfold eT at hf
 obtain ⟨p,hp,hf⟩:=bS hf
 split at hf<;>cases hf
 rename_i hz
 refine ⟨δ,ch,F,ρ,p.1,p.2,en,hp,fun vs F1 H1 ρ1 a1 r1=>⟨by rw [r1.length];exact hz,fun q hq=>?_⟩⟩
 refine k (.ref q) F1 _ _ (a1.trans en.gh (gc (o:=.tup p.1) a1.gh hq ⟨vs,aB,r1⟩)) ⟨by simp,?_⟩
 dsimp only
 rw [if_pos rfl]
abbrev Fd:=List CV->CH->Option (CV×CH)
def spG (K:PySem.W.Frag) (n:Nat) (f:Fd):Sp:=fun vs H Q _=>∃ F ρ cs ch c ch',Gh K F H ρ ch/\cs.length=n/\RelCs K F ρ ch.length cs vs/\f cs ch=some (c,ch')/\KG K F H ρ ch c ch' Q
def eC (g:Fd) (fs:Fgs):Fg:=fun δ ch=>(fs δ ch).bind fun p=>g p.1 p.2
def ib {sc:Scope} {x:Str} {k n:Nat} {ps:List Str} {g:Fd} {fs:Fgs} (h:bj sc x=true) (F:OkF X.prog X.w X.K X.mg X.base x k ps (spG X.K n g)) (hr:Room k X.A) (ha:GA X (e::es) fs) (hn:∀ δ ch p,fs δ ch=some p->p.1.length=n) (e1:cW X sc:=by rfl)
  (he:starEach (e::es) X.env=(false,eval e X.env)::starEach es X.env:=by rfl) (hpl:(backTo cpos (starEach es X.env)).any (·.1)=false:=by rfl):GE X (.Call (.Name x p) (e::es) [] cpos) (eC g fs):=
 PE.mono (iB h F hr ha e1 he hpl) fun σ H Q ⟨δ,ch,F,ρ,c,ch',en,hf,k⟩=>by
  unfold eC at hf
  obtain ⟨p,hp,hf⟩:=bS hf
  refine ⟨δ,ch,F,ρ,p.1,p.2,en,hp,fun vs F1 H1 ρ1 a1 r1=>?_⟩
  show spG X.K n g (vs++[]) H1 Q E0
  rw [List.append_nil]
  exact ⟨F1,ρ1,p.1,p.2,c,ch',a1.gh,hn δ ch p hp,r1,hf,k.adv en.gh a1⟩
noncomputable def eM (c m:Str) (g:Fd) (fo:Fg) (fs:Fgs):Fg:=fun δ ch=>(fo δ ch).bind fun p=>match p.1 with
 | .ref i=>match p.2[i]? with
  | some (.ins c' ns _)=>if c'=c/\m∉ns then (fs δ p.2).bind fun q=>g (.ref i::q.1) q.2 else none
  | _=>none
 | _=>none
def w9 {c m:Str} {C:Addr} {n:Nat} {g:Fd} {fo:Fg} {fs:Fgs} {as:TA} (h1:ClsAt K c C) (hn:∀ δ ch p,fs δ ch=some p->p.1.length+1=n) (has:∀ σ H Q,tGs K fs σ H Q->as σ H Q):∀ σ H Q,tG K (eM c m g fo fs) σ H Q->sg C m (spG K n g) [] E0 (tG K fo) as σ H Q:=fun σ H Q ⟨δ,ch,F,ρ,c0,ch',en,hf,k⟩=>by
 unfold eM at hf
 obtain ⟨⟨c1,ch1⟩,hp,hf1⟩:=bS hf
 clear hf
 dsimp only at hf1
 split at hf1<;>first | (cases hf1;done) | skip
 rename_i i
 split at hf1<;>first | (cases hf1;done) | skip
 rename_i c' ns l ho
 split at hf1<;>first | (cases hf1;done) | skip
 rename_i hcc
 obtain ⟨rfl,hm⟩:=hcc
 obtain ⟨q,hq,hf⟩:=bS hf1
 refine ⟨δ,ch,F,ρ,_,_,en,hp,fun v F1 H1 ρ1 a1 r1=>?_⟩
 obtain ⟨C',dx,gs,h0,ha,h2,h3⟩:=a1.gh.ok i _ ho
 have:=ClsAt.inj h1 h0
 subst this
 refine ⟨_,dx,gs,r1.2,ha,iR (by rw [h2];exact hm),has _ _ _ ⟨δ,ch1,F1,ρ1,q.1,q.2,en.adv a1,hq,fun vs F2 H2 ρ2 a2 r2=>?_⟩⟩
 show spG K n g (v::(vs++[])) H2 Q E0
 rw [List.append_nil]
 exact ⟨F2,ρ2,.ref i::q.1,q.2,c0,ch',a2.gh,hn δ ch1 q hq,⟨v,vs,rfl,r1.mono a2.old a2.ext a2.len,r2⟩,hf,k.adv en.gh (a1.trans en.gh a2)⟩
def dA {c m:Str} {k n:Nat} {ps:List Str} {g:Fd} {fs:Fgs} (F:OkM X.prog X.w X.K X.mg X.base c m k ps (spG X.K n g)) (hr:Room k X.A) (ho:GE X o fa) (ha:GA X (e::es) fs) (hn:∀ δ ch p,fs δ ch=some p->p.1.length+1=n) {pl:Sem Bool}
  (hst:starEach (e::es) X.env=(false,eval e X.env)::starEach es X.env:=by rfl) (hpl:(backTo cpos (starEach es X.env)).any (·.1)=false:=by rfl)
  (ht:eval (.Call (.Attribute o m apos) (e::es) [] cpos) X.env=(do
   let ov <- eval o X.env
   standAt apos.atName
   let (f,first) <- holding [ov] (getMethod ov m pl)
   callWith cpos f first (backTo cpos (starEach (e::es) X.env)) (backToKw cpos (keywordEach [] X.env))):=by rfl):GE X (.Call (.Attribute o m apos) (e::es) [] cpos) (eM c m g fa fs):=by
 obtain ⟨C,f,fd,h1,h2,h3,h4,h5⟩:=F.ex
 exact PE.mono (u8 ho h2 h3 h5 hr h4 .nil pM ha hst hpl ht) (w9 h1 hn fun _ _ _ q=>q)
def cq {c m:Str} {k:Nat} {ps:List Str} {g:Fd} (F:OkM X.prog X.w X.K X.mg X.base c m k ps (spG X.K 1 g)) (hr:Room k X.A) (ho:GE X o fa) {pl:Sem Bool}
  (ht:eval (.Call (.Attribute o m apos) [] [] cpos) X.env=(do
   let ov <- eval o X.env
   standAt apos.atName
   let (f,first) <- holding [ov] (getMethod ov m pl)
   callWith cpos f first (backTo cpos (starEach [] X.env)) (backToKw cpos (keywordEach [] X.env))):=by rfl):GE X (.Call (.Attribute o m apos) [] [] cpos) (eM c m g fa aD):=by
 obtain ⟨C,f,fd,h1,h2,h3,h4,h5⟩:=F.ex
 exact PE.mono (si ho h2 h3 h5 hr h4 .nil pM ht) (w9 h1 (fun δ ch p h=>by cases h;rfl) fun σ H Q ⟨δ,ch,F,ρ,cs,ch',en,hf,k⟩=>by
  cases hf
  exact k [] F H ρ (Adv.refl en.gh) rfl)
end
inductive Og where
 | nx (δ:Sl) (ch:CH) | rt (c:CV) (ch:CH) | bk (δ:Sl) (ch:CH) | ct (δ:Sl) (ch:CH)
noncomputable def PostG (K:PySem.W.Frag) (F H:Hp) (ρ:Nat->Addr) (ch:CH) (D:Ends):Og->Prop
 | .nx δ' ch'=>∀ σ' F' H' ρ',Adv K F H ρ ch F' H' ρ' ch'->Ge K δ' ch' σ' F' H' ρ'->D.nx σ' H'
 | .rt c ch'=>∀ v F' H' ρ',Adv K F H ρ ch F' H' ρ' ch'->RelC K F' ρ' ch'.length c v->D.rt v H'
 | .bk δ' ch'=>∀ σ' F' H' ρ',Adv K F H ρ ch F' H' ρ' ch'->Ge K δ' ch' σ' F' H' ρ'->D.bk σ' H'
 | .ct δ' ch'=>∀ σ' F' H' ρ',Adv K F H ρ ch F' H' ρ' ch'->Ge K δ' ch' σ' F' H' ρ'->D.ct σ' H'
abbrev Fs:=Sl->CH->Option Og
def tGS (K:PySem.W.Frag) (g:Fs):TS:=fun D σ H=>∃ δ ch F ρ o,Ge K δ ch σ F H ρ/\g δ ch=some o/\PostG K F H ρ ch D o
def GS1 (X:Cx) (st:Stmt) (g:Fs):Prop:=PS X st (tGS X.K g)
def GS (X:Cx) (ss:List Stmt) (g:Fs):Prop:=PSs X ss (tGS X.K g)
section
variable {K:PySem.W.Frag} {F H F' H' F1 H1:Hp} {ρ ρ' ρ1:Nat->Addr} {ch ch' ch1:CH} {D:Ends} {o:Og}
def PostG.adv (k:PostG K F H ρ ch D o) (g:Gh K F H ρ ch) (a:Adv K F H ρ ch F1 H1 ρ1 ch1):PostG K F1 H1 ρ1 ch1 D o:=by
 cases o with
 | nx δ' c'=>exact fun σ' F' H' ρ' b e=>k σ' F' H' ρ' (a.trans g b) e
 | rt c c'=>exact fun v F' H' ρ' b e=>k v F' H' ρ' (a.trans g b) e
 | bk δ' c'=>exact fun σ' F' H' ρ' b e=>k σ' F' H' ρ' (a.trans g b) e
 | ct δ' c'=>exact fun σ' F' H' ρ' b e=>k σ' F' H' ρ' (a.trans g b) e
end
section
variable {X:Cx} {st:Stmt} {rest a b body:List Stmt} {g g1 g2:Fs} {e c o tg iter:Expr} {es:List Expr} {pos apos cpos:Pos} {f fa fe fk:Fg} {tc:Ft} {i:Nat} {K:PySem.W.Frag}
def dn:Fs:=fun δ ch=>some (.nx δ ch)
def aI (g1 g2:Fs):Fs:=fun δ ch=>(g1 δ ch).bind fun o=>match o with
 | .nx δ' ch'=>g2 δ' ch'
 | o=>some o
def cR:GS X [] dn:=PSs.mono pk fun D σ H ⟨δ,ch,F,ρ,o,en,hg,k⟩=>by
 cases hg
 exact k σ F H ρ (Adv.refl en.gh) en
def aU (h:GS1 X st g):GS X [st] g:=pq h
def aE (h1:GS1 X st g1) (h2:GS X rest g2):GS X (st::rest) (aI g1 g2):=PSs.mono (mN h1 h2) fun D σ H ⟨δ,ch,F,ρ,o,en,hg,k⟩=>by
 unfold aI at hg
 obtain ⟨o1,h1,hg⟩:=bS hg
 refine ⟨δ,ch,F,ρ,o1,en,h1,?_⟩
 cases o1 with
 | nx δ' ch'=>exact fun σ' F' H' ρ' a en'=>⟨δ',ch',F',ρ',o,en',hg,k.adv en.gh a⟩
 | rt c ch'=>cases hg;exact k
 | bk δ' ch'=>cases hg;exact k
 | ct δ' ch'=>cases hg;exact k
def br (f:Fg):Fs:=fun δ ch=>(f δ ch).map fun p=>.rt p.1 p.2
def bx (h:GE X e f):GS1 X (.Return (some e) pos) (br f):=PS.mono (rT h) fun D σ H ⟨δ,ch,F,ρ,o,en,hg,k⟩=>by
 unfold br at hg
 obtain ⟨p,hp,hg⟩:=mS hg
 cases hg
 exact ⟨δ,ch,F,ρ,p.1,p.2,en,hp,k⟩
def fJ (c:Ft) (g1 g2:Fs):Fs:=fun δ ch=>(c δ ch).bind fun p=>if p.1 then g1 δ p.2 else g2 δ p.2
def d7 (hc:GT X c tc) (h1:GS X a g1) (h2:GS X b g2):GS1 X (.If c a b pos) (fJ tc g1 g2):=PS.mono (wG hc h1 h2) fun D σ H ⟨δ,ch,F,ρ,o,en,hg,k⟩=>by
 unfold fJ at hg
 obtain ⟨p,hp,hg⟩:=bS hg
 refine ⟨δ,ch,F,ρ,p.1,p.2,en,hp,fun F' H' ρ' a=>?_⟩
 split at hg
 · rename_i q
   rw [if_pos q]
   exact ⟨δ,p.2,F',ρ',o,en.adv a,hg,k.adv en.gh a⟩
 · rename_i q
   rw [if_neg q]
   exact ⟨δ,p.2,F',ρ',o,en.adv a,hg,k.adv en.gh a⟩
def Ge.put {δ:Sl} {σ:St} {F H:Hp} {ρ:Nat->Addr} {ch:CH} {x:CV} {v:V} (en:Ge K δ ch σ F H ρ) (r:RelC K F ρ ch.length x v) (i:Nat):Ge K (δ.set i (some x)) ch (σ.set i (some v)) F H ρ:=⟨en.gh,by simp [en.len],fun j y h=>by
 rcases fC h with ⟨rfl,z⟩ | ⟨hn,z⟩
 · cases z
   have hi:i<σ.length:=by
    rw [<- en.len]
    have:=(gX h).1
    simpa using this
   exact ⟨v,by simp [hi],r⟩
 · obtain ⟨w,h1,h2⟩:=en.has j y z
   exact ⟨w,by rw [gN hn];exact h1,h2⟩⟩
def bO (i:Nat) (f:Fg):Fs:=fun δ ch=>(f δ ch).map fun p=>.nx (δ.set i (some p.1)) p.2
def cg {sc:Scope} {N:List Str} {x:Str} {pos':Pos} (h:fA sc N i x=true) (hl:jy sc x=true) (nd:N.Nodup) (he:GE X e f) (e1:cW X sc:=by rfl) (e2:X.N=N:=by rfl) (hf:X.fn x=true∨X.env.scope.names.lookup x=some .local:=by exact .inl rfl)
  (hs:swapsWith e (some (.Name x pos')) pos.line X.env=pure false:=by rfl):GS1 X (.Assign [.Name x pos'] e pos) (bO i f):=PS.mono (pR h hl nd he e1 e2 hf hs) fun D σ H ⟨δ,ch,F,ρ,o,en,hg,k⟩=>by
 unfold bO at hg
 obtain ⟨p,hp,hg⟩:=mS hg
 cases hg
 exact ⟨δ,ch,F,ρ,p.1,p.2,en,hp,fun v F' H' ρ' a r=>k _ F' H' ρ' a ((en.adv a).put r i)⟩
def mgS (ts:List Nat) (δ:Sl) (δ1:De):Sl:=δ.mapIdx fun j x=>if j∈ts then (match δ1[j]? with | some (some (.leaf d))=>some (.dat d) | _=>none) else x
def Ge.mg {δ:Sl} {σ σ':St} {F H:Hp} {ρ:Nat->Addr} {ch:CH} {ts:List Nat} {δ1:De} {Φ:Fm} (en:Ge K δ ch σ F H ρ) (hK:Φ.K=K) (hl:σ'.length=σ.length) (hs:∀ j,j∉ts->σ'[j]?=σ[j]?) (e:En Φ δ1 σ' F H):Ge K (mgS ts δ δ1) ch σ' F H ρ:=⟨en.gh,by simp [mgS,en.len,hl],fun j x h=>by
 unfold mgS at h
 rw [List.getElem?_mapIdx] at h
 obtain ⟨y,hy,h⟩:=mS h
 by_cases hj:j∈ts
 · rw [if_pos hj] at h
   split at h<;>cases h
   rename_i d q
   obtain ⟨v,h1,h2⟩:=e.leaf q
   exact ⟨v,h1,(hK▸h2:Rep K F d v)⟩
 · rw [if_neg hj] at h
   subst h
   obtain ⟨v,h1,h2⟩:=en.has j x hy
   exact ⟨v,by rw [hs j hj];exact h1,h2⟩⟩
def nu (fd:De->Option Dt) (ts:List Nat) (bb:Dt->De->Option De):Fs:=fun δ ch=>(fd (lo δ ch)).bind fun d=>(bb d (lo δ ch)).map fun δ1=>.nx (mgS ts δ δ1) ch
def yo {fd:De->Option Dt} {ts:List Nat} {bb:Dt->De->Option De} (he:DL X e fd) (hg:DG X tg ts bb) (hs:swapsWithSole [tg] e pos.line X.env=pure false:=by rfl) (hw:swappedStores [tg] e X.env=pure none:=by rfl)
  (h1:(assignEach [tg] X.env).map (·.2)=[assign tg X.env]:=by rfl):GS1 X (.Assign [tg] e pos) (nu fd ts bb):=PS.mono (lG he hg hs hw h1) fun D σ H ⟨δ,ch,F,ρ,o,en,hg,k⟩=>by
 unfold nu at hg
 obtain ⟨d,hd,hg⟩:=bS hg
 obtain ⟨δ1,hb,hg⟩:=mS hg
 cases hg
 refine ⟨_,_,F,d,rfl,en.en,hd,fun v H' F' st r=>?_⟩
 have a:=Adv.of en.gh st
 exact ⟨_,_,F',d,δ1,rfl,(en.adv a).en,r,hb,fun σ' l1 k1 e1=>k σ' F' H' ρ a ((en.adv a).mg rfl l1 k1 e1)⟩
noncomputable def fK (ts:List Nat) (bb:Dt->De->Option De) (g:Fs):List Dt->Sl->CH->Option Og
 | [],δ,ch=>some (.nx δ ch)
 | d::r,δ,ch=>(bb d (lo δ ch)).bind fun δ1=>(g (mgS ts δ δ1) ch).bind fun o=>match o with
  | .nx δ2 ch2=>fK ts bb g r δ2 ch2
  | .ct δ2 ch2=>fK ts bb g r δ2 ch2
  | .bk δ2 ch2=>some (.nx δ2 ch2)
  | .rt c ch2=>some (.rt c ch2)
def b8 (fi:De->Option (List Dt)) (ts:List Nat) (bb:Dt->De->Option De) (g:Fs):Fs:=fun δ ch=>(fi (lo δ ch)).bind fun ds=>fK ts bb g ds δ ch
def gd {fi:De->Option (List Dt)} {ts:List Nat} {bb:Dt->De->Option De} (hp:PassesOwn (model X.prog X.w) X.A X.env X.xe) (hc:X.calm=true) (hi:DIF X tg iter fi) (hg:DG X tg ts bb) (hb:GS X body g)
  (hs:∀ x,foldedSetIterable iter X.env x=pure x:=by intro _;rfl):GS1 X (.For tg iter body [] pos) (b8 fi ts bb g):=PS.mono (lI hp hc hi hg hb hs) fun D σ H ⟨δ,ch,F,ρ,o,en,hg,k⟩=>by
 unfold b8 at hg
 obtain ⟨ds,hd,hg⟩:=bS hg
 rw [jb]
 refine ⟨_,_,F,ds,rfl,en.en,hd,fun J ok H1 F1 st1 wd ho=>?_⟩
 have a1:=Adv.of en.gh st1
 have en1:=en.adv a1
 have k1:=k.adv en.gh a1
 refine jE (n:=ds.length) (fun i σ' H'=>∃ δ' ch' F' ρ',Adv X.K F1 H1 ρ ch F' H' ρ' ch'/\Ge X.K δ' ch' σ' F' H' ρ'/\fK ts bb g (ds.drop i) δ' ch'=some o) ⟨δ,ch,F1,ρ,Adv.refl en1.gh,en1,by simpa using hg⟩ (fun i σ' H' ⟨δ',ch',F',ρ',a',en',_⟩=>?_) ?_ ?_
 · obtain ⟨p1,p2,_⟩:=wd i H' F' (ho H' (a'.old.trans en'.gh.fh)) en'.gh.fh a'.old
   exact ⟨p1,p2⟩
 · rintro i x σ' H' H'' hi ⟨δ',ch',F',ρ',a',en',hgo⟩ hy
   obtain ⟨_,_,p3⟩:=wd i H' F' (ho H' (a'.old.trans en'.gh.fh)) en'.gh.fh a'.old
   obtain ⟨d,F2,hd',st2,rd⟩:=p3 x H'' hi hy
   rw [hX hd'] at hgo
   unfold fK at hgo
   obtain ⟨δ1,h1,hgo⟩:=bS hgo
   obtain ⟨o1,h2,hgo⟩:=bS hgo
   have a2:=Adv.of en'.gh st2
   have a3:=a'.trans en1.gh a2
   have en2:=en'.adv a2
   refine ⟨_,_,F2,d,δ1,rfl,en2.en,rd,h1,fun σ1 l1 q1 e1=>⟨_,ch',F2,ρ',o1,en2.mg rfl l1 q1 e1,h2,?_⟩⟩
   cases o1 with
   | nx δ2 c2=>exact fun σ2 F3 H3 ρ3 a4 en4=>⟨δ2,c2,F3,ρ3,a3.trans en1.gh a4,en4,hgo⟩
   | ct δ2 c2=>exact fun σ2 F3 H3 ρ3 a4 en4=>⟨δ2,c2,F3,ρ3,a3.trans en1.gh a4,en4,hgo⟩
   | bk δ2 c2=>cases hgo;exact fun σ2 F3 H3 ρ3 a4 en4=>k1 σ2 F3 H3 ρ3 (a3.trans en1.gh a4) en4
   | rt c c2=>cases hgo;exact fun v F3 H3 ρ3 a4 r=>k1 v F3 H3 ρ3 (a3.trans en1.gh a4) r
 · rintro σ' H' ⟨δ',ch',F',ρ',a',en',hgo⟩
   rw [List.drop_length] at hgo
   cases hgo
   exact k1 σ' F' H' ρ' a' en'
noncomputable def dS (fa fe:Fg):Fs:=fun δ ch=>(fa δ ch).bind fun p=>(fe δ p.2).bind fun q=>match p.1 with
 | .ref i=>match p.2[i]?,q.2[i]? with
  | some (.lst _),some (.lst l)=>if l.length<sizeLine then some (.nx δ (q.2.set i (.lst (l++[q.1])))) else none
  | _,_=>none
 | _=>none
def dH (hx:GE X o fa) (he:GE X e fe)
  (hbase:attributeBase o "append" X.env (eval o X.env)=eval o X.env:=by rfl)
  (hfew:((backTo cpos (starEach [e] X.env)).all (fun x=>!x.1)&&(backToKw cpos (keywordEach [] X.env)).all (fun x=>x.1.isSome)
   && decide ([e].length+([]:List Keyword).length+(if ([]:List Keyword).isEmpty then 0 else 1)<30))=true:=by rfl)
  (hline:(apos.endLine==cpos.line)=true:=by rfl) (hs:starEach [e] X.env=(false,eval e X.env)::starEach [] X.env:=by rfl) (hplain:(backTo cpos (starEach [] X.env)).any (·.1)=false:=by rfl)
  (hsw:swapsWith (.Call (.Attribute o "append" apos) [e] [] cpos) none pos.line X.env=pure false:=by rfl) :
  GS1 X (.Expr (.Call (.Attribute o "append" apos) [e] [] cpos) pos) (dS fa fe):=
 PS.mono (i6 (pK PySem.F.plainAttrs_list PySem.F.slot_list_append PySem.F.type_list_append gv hx (dg he fq hs) hbase hfew hline hs hplain) hsw) fun D σ H ⟨δ,ch,F,ρ,og,en,hg,k⟩=>by
  unfold dS at hg
  obtain ⟨⟨c1,ch1⟩,hp,hg1⟩:=bS hg
  clear hg
  obtain ⟨⟨c2,ch2⟩,hq,hg⟩:=bS hg1
  clear hg1
  dsimp only at hq hg
  split at hg<;>first | (cases hg;done) | skip
  rename_i i
  split at hg<;>first | (cases hg;done) | skip
  rename_i l0 l h0 h1
  split at hg<;>cases hg
  rename_i hz
  refine ⟨δ,ch,F,ρ,_,ch1,en,hp,fun v F1 H1 ρ1 a1 r1=>?_⟩
  obtain ⟨vs0,q0,_⟩:=a1.gh.ok i _ h0
  obtain ⟨hi,rfl⟩:=r1
  refine ⟨.inl ⟨rfl,vs0,.inl (.inl q0)⟩,δ,ch1,F1,ρ1,c2,ch2,en.adv a1,hq,fun w F2 H2 ρ2 a2 r2=>?_⟩
  obtain ⟨vs,q1,q2⟩:=a2.gh.ok i _ h1
  rw [a2.ext i hi] at q1
  refine ⟨_,vs,w,rfl,rfl,q1,by rw [q2.length];exact hz,?_⟩
  have hi2:i<ch2.length:=(gX h1).1
  have a3:=Adv.upd (o:=.lst (l++[c2])) (u:=.lst (vs++[w])) (w:=.lst vs) a2.gh hi2 (by rw [a2.ext i hi];exact q1) (fun _ _ z=>nomatch z) ⟨_,aB,q2.append (RelCs.one r2)⟩
  rw [a2.ext i hi] at a3
  have a:=(a1.trans en.gh a2).trans en.gh a3
  exact k σ F2 _ ρ2 a (en.adv a)
def dY {κ:Type} [DecidableEq κ]:List (κ×CV)->κ->CV->List (κ×CV)
 | [],k,c=>[(k,c)]
 | p::l,k,c=>if p.1=k then (p.1,c)::l else p::dY l k c
noncomputable def tM (o:CO) (d:Dt) (c:CV):Option CO:=match o with
 | .lst l=>(asI d).bind fun j=>(ixN l.length j).map fun m=>.lst (l.set m c)
 | .dK l=>(fG d).bind fun k=>if l.length<sizeLine/\(l.map (·.1)).Nodup then some (.dK (dY l k c)) else none
 | _=>none
def jK {κ:Type} [DecidableEq κ] {F:Hp} {ρ:Nat->Addr} {n:Nat} {k:κ} {c:CV} {v:V} (r:RelC K F ρ n c v):∀ {l:List (κ×CV)} {kvs:List (κ×V)},(l.map (·.1)).Nodup->kvs.map (·.1)=l.map (·.1)->RelCs K F ρ n (l.map (·.2)) (kvs.map (·.2))→
  (bT kvs k v).map (·.1)=(dY l k c).map (·.1)/\RelCs K F ρ n ((dY l k c).map (·.2)) ((bT kvs k v).map (·.2))
 | [],[],_,_,_=>⟨rfl,⟨v,[],rfl,r,rfl⟩⟩
 | [],q::kvs,_,h,_=>by cases h
 | p::l,[],_,h,_=>by cases h
 | p::l,q::kvs,nd,h,rs=>by
  simp only [List.map_cons,List.cons.injEq] at h
  obtain ⟨h1,h2⟩:=h
  obtain ⟨w,ws,e,r1,r2⟩:=rs
  simp only [List.map_cons,List.cons.injEq] at e
  obtain ⟨rfl,rfl⟩:=e
  have nd':=List.nodup_cons.mp nd
  by_cases hk:p.1=k
  · have hq:q.1=k:=h1.trans hk
    have hnone:∀ x∈kvs,¬ x.1=k:=fun x hx e=>nd'.1 (by
     have:x.1∈kvs.map (·.1):=List.mem_map_of_mem hx
     rw [h2] at this
     rw [e,<- hk] at this
     exact this)
    have e2:bT (q::kvs) k v=(q.1,v)::kvs:=by
     unfold bT
     rw [if_pos (by simp [hq])]
     simp only [List.map_cons,if_pos hq,List.cons.injEq,true_and]
     have:∀ x∈kvs,(if x.1=k then (x.1,v) else x)=id x:=fun x hx=>if_neg (hnone x hx)
     rw [List.map_congr_left this,List.map_id]
    have e1:dY (p::l) k c=(p.1,c)::l:=by simp only [dY,if_pos hk]
    rw [e1,e2]
    exact ⟨by simp [h1,h2],⟨v,_,rfl,r,r2⟩⟩
  · have hq:¬ q.1=k:=fun z=>hk (h1.symm.trans z)
    have e2:bT (q::kvs) k v=q::bT kvs k v:=by
     unfold bT
     by_cases ha:(kvs.any fun kv=>decide (kv.1=k))=true
     · rw [if_pos ha,if_pos (by simp only [List.any_cons,ha,Bool.or_true])]
       simp only [List.map_cons,if_neg hq]
     · rw [if_neg ha,if_neg (by simp only [List.any_cons,decide_eq_false hq,Bool.false_or];exact ha)]
       rfl
    have e1:dY (p::l) k c=p::dY l k c:=by simp only [dY,if_neg hk]
    obtain ⟨i1,i2⟩:=jK (k:=k) r nd'.2 h2 r2
    rw [e1,e2]
    exact ⟨by simp [h1,i1],⟨q.2,_,rfl,r1,i2⟩⟩
def d8 (fa fk fe:Fg):Fs:=fun δ ch=>(fe δ ch).bind fun p=>(fa δ p.2).bind fun q=>(fk δ q.2).bind fun r=>match q.1,r.1 with
 | .ref i,.dat d=>((r.2[i]?).bind fun o=>tM o d p.1).map fun o'=>.nx δ (r.2.set i o')
 | _,_=>none
def gW {k:Nat} {ik:Expr} {pos':Pos} (hr:Room k X.A) (hx:GE X o fa) (hk:GE X ik fk) (he:GE X e fe) (hs:swapsWith e (some (.Subscript o ik pos')) pos.line X.env=pure false:=by rfl)
  (hs2:swapsWithSole [.Subscript o ik pos'] e pos.line X.env=pure false:=by rfl) (hw:swappedStores [.Subscript o ik pos'] e X.env=pure none:=by rfl)
  (h1:(assignEach [.Subscript o ik pos'] X.env).map (·.2)=[assign (.Subscript o ik pos') X.env]:=by rfl)
  (ha:∀ v,assign (.Subscript o ik pos') X.env v=(do
   let ov <- holding [v] (eval o X.env)
   let iv <- holding [v,ov] (eval ik X.env)
   standAt pos'
   holding [v,ov,iv] (setItem ov iv v)
   release [v,ov,iv] []):=by intro _;rfl):GS1 X (.Assign [.Subscript o ik pos'] e pos) (d8 fa fk fe):=
 PS.mono (PS.or (lG he (rV hx hk mT ha) hs2 hw h1) (lQ (kx hr) hx hk he hs)) fun D σ H ⟨δ,ch,F,ρ,og,en,hg,kk⟩=>by
  unfold d8 at hg
  obtain ⟨⟨c1,ch1⟩,hp,hg1⟩:=bS hg
  clear hg
  obtain ⟨⟨c2,ch2⟩,hq,hg2⟩:=bS hg1
  clear hg1
  obtain ⟨⟨c3,ch3⟩,hw,hg⟩:=bS hg2
  clear hg2
  dsimp only at hq hw hg
  split at hg<;>first | (cases hg;done) | skip
  rename_i i d
  obtain ⟨o',hput,hg⟩:=mS hg
  cases hg
  obtain ⟨o0,ho,hput⟩:=bS hput
  cases o0 with
  | lst l =>
   obtain ⟨j,hj,hput⟩:=bS hput
   obtain ⟨m,hm,rfl⟩:=mS hput
   left
   refine ⟨δ,ch,F,ρ,_,ch1,en,hp,fun v F1 H1 ρ1 a1 r1=>⟨δ,ch1,F1,ρ1,_,ch2,en.adv a1,hq,fun x F2 H2 ρ2 a2 r2=>⟨δ,ch2,F2,ρ2,_,ch3,(en.adv a1).adv a2,hw,fun y F3 H3 ρ3 a3 r3=>?_⟩⟩⟩
   obtain ⟨vs,q1,q2⟩:=a3.gh.ok i _ ho
   have hi3:i<ch3.length:=(gX ho).1
   have a12:=a1.trans en.gh a2
   have a13:=a12.trans en.gh a3
   have r1':=(r1.mono a2.old a2.ext a2.len).mono a3.old a3.ext a3.len
   refine ⟨_,vs,j,m,(r2.mono a3.old a3.ext a3.len).2,md hj r3,q1,by rw [q2.length];exact hm,?_⟩
   have a4:=Adv.upd (o:=.lst (l.set m c1)) (u:=.lst (vs.set m v)) a3.gh hi3 q1 (fun _ _ z=>nomatch z) ⟨_,aB,q2.set r1' m⟩
   have a:=a13.trans en.gh a4
   exact kk σ F3 _ ρ3 a (en.adv a)
  | dK l =>
   obtain ⟨j,hj,hput⟩:=bS hput
   split at hput<;>first | (cases hput;done) | skip
   rename_i hz
   cases hput
   right
   refine ⟨δ,ch,F,ρ,_,ch1,en,hp,fun v F1 H1 ρ1 a1 r1=>⟨δ,ch1,F1,ρ1,_,ch2,en.adv a1,hq,fun x F2 H2 ρ2 a2 r2=>⟨δ,ch2,F2,ρ2,_,ch3,(en.adv a1).adv a2,hw,fun y F3 H3 ρ3 a3 r3=>?_⟩⟩⟩
   obtain ⟨kvs,q1,q2,q3⟩:=a3.gh.ok i _ ho
   have hi3:i<ch3.length:=(gX ho).1
   have a12:=a1.trans en.gh a2
   have a13:=a12.trans en.gh a3
   have r1':=(r1.mono a2.old a2.ext a2.len).mono a3.old a3.ext a3.len
   obtain ⟨z1,z2⟩:=jK (k:=j) r1' hz.2 q2 q3
   have hlen:kvs.length=l.length:=by
    have:=congrArg List.length q2
    simpa using this
   refine ⟨_,upd H3 (ρ3 i) (.dK (bT kvs j v)),(r2.mono a3.old a3.ext a3.len).2,?_,?_⟩
   · rw [dR hj r3]
     exact DPut.k q1 (by rw [hlen];exact hz.1)
   · have a4:=Adv.upd (o:=.dK (dY l j c1)) (u:=.dK (bT kvs j v)) a3.gh hi3 q1 (fun _ _ z=>nomatch z) ⟨_,aB,z1,z2⟩
     have a:=a13.trans en.gh a4
     exact kk σ F3 _ ρ3 a (en.adv a)
  | tup l=>cases hput
  | ins c ns l=>cases hput
  | wk l=>cases hput
  | dT l=>cases hput
  | wt l=>cases hput
def d9 (ns:List Str) (l:List CV) (f:Str) (c:CV):List Str×List CV:=match ns,l with
 | n::ns,x::l=>if n=f then (n::ns,c::l) else ((n::(d9 ns l f c).1),(x::(d9 ns l f c).2))
 | _,_=>([f],[c])
def kU {F:Hp} {ρ:Nat->Addr} {n:Nat} {f:Str} {c:CV} {v:V} (r:RelC K F ρ n c v):∀ {ns:List Str} {l:List CV} {fs:List (Str×V)},fs.map (·.1)=ns->RelCs K F ρ n l (fs.map (·.2))->(eO f v fs).map (·.1)=(d9 ns l f c).1/\RelCs K F ρ n (d9 ns l f c).2 ((eO f v fs).map (·.2))
 | [],l,[],_,rs=>by
  cases l with
  | nil=>exact ⟨rfl,⟨v,[],rfl,r,rfl⟩⟩
  | cons x l=>obtain ⟨_,_,e,_⟩:=rs;cases e
 | [],l,p::fs,h,_=>by cases h
 | m::ns,l,[],h,_=>by cases h
 | m::ns,[],p::fs,h,rs=>by
  have:p.2::fs.map (·.2)=[]:=rs
  cases this
 | m::ns,x::l,p::fs,h,rs=>by
  simp only [List.map_cons,List.cons.injEq] at h
  obtain ⟨w,ws,e,r1,r2⟩:=rs
  simp only [List.map_cons,List.cons.injEq] at e
  obtain ⟨rfl,rfl⟩:=e
  obtain ⟨p1,p2⟩:=p
  obtain ⟨rfl,rfl⟩:=h
  by_cases hk:p1=f
  · simp only [eO,d9,if_pos hk]
    exact ⟨by simp,⟨v,_,rfl,r,r2⟩⟩
  · obtain ⟨i1,i2⟩:=kU (f:=f) r rfl r2
    simp only [eO,d9,if_neg hk]
    exact ⟨by simp [i1],⟨p2,_,rfl,r1,i2⟩⟩
noncomputable def fj (c f:Str) (fa fe:Fg):Fs:=fun δ ch=>(fe δ ch).bind fun p=>(fa δ p.2).bind fun q=>match q.1 with
 | .ref i=>match q.2[i]? with
  | some (.ins c' ns l)=>if c'=c/\ns.length<1000 then some (.nx δ (q.2.set i (.ins c' (d9 ns l f p.1).1 (d9 ns l f p.1).2))) else none
  | _=>none
 | _=>none
def ee {cn fn:Str} {pos':Pos} (h:GE X o fa) (hf:nq X.K cn fn) (he:GE X e fe) (hs:swapsWith e (some (.Attribute o fn pos')) pos.line X.env=pure false:=by rfl):GS1 X (.Assign [.Attribute o fn pos'] e pos) (fj cn fn fa fe):=
 PS.mono (xL h he hs) fun D σ H ⟨δ,ch,F,ρ,og,en,hg,kk⟩=>by
  obtain ⟨C,hc,hC,hN⟩:=hf
  unfold fj at hg
  obtain ⟨⟨c1,ch1⟩,hp,hg1⟩:=bS hg
  clear hg
  obtain ⟨⟨c2,ch2⟩,hq,hg⟩:=bS hg1
  clear hg1
  dsimp only at hq hg
  split at hg<;>first | (cases hg;done) | skip
  rename_i i
  split at hg<;>first | (cases hg;done) | skip
  rename_i c' ns l ho
  split at hg<;>cases hg
  rename_i hz
  obtain ⟨rfl,hz⟩:=hz
  refine ⟨δ,ch,F,ρ,_,ch1,en,hp,fun v F1 H1 ρ1 a1 r1=>⟨δ,ch1,F1,ρ1,_,ch2,en.adv a1,hq,fun x F2 H2 ρ2 a2 r2=>?_⟩⟩
  obtain ⟨C',dx,fs,h0,q1,q2,q3⟩:=a2.gh.ok i _ ho
  have:=ClsAt.inj hc h0
  subst this
  have hi:i<ch2.length:=(gX ho).1
  have r1':=r1.mono a2.old a2.ext a2.len
  obtain ⟨z1,z2⟩:=kU (f:=fn) r1' q2 q3
  refine ⟨_,C,dx,fs,r2.2,q1,hC,hN,?_,?_⟩
  · have:=congrArg List.length q2
    rw [List.length_map] at this
    omega
  · have a3:=Adv.upd (o:=.ins c' (d9 ns l fn c1).1 (d9 ns l fn c1).2) (u:=.ins C dx (eO fn v fs)) a2.gh hi q1 (fun _ _ z=>nomatch z) ⟨C,dx,_,hc,aB,z1,z2⟩
    have a:=(a1.trans en.gh a2).trans en.gh a3
    exact kk σ F2 _ ρ2 a (en.adv a)
end
def dB (m:Nat) (g:Fs):Fd:=fun cs ch=>match g (cs.map some++List.replicate (m-cs.length) none) ch with
 | some (.rt c ch')=>some (c,ch')
 | some (.nx _ ch')=>some (.dat .non,ch')
 | _=>none
def nv {K:PySem.W.Frag} {F H:Hp} {ρ:Nat->Addr} {ch:CH} {cs:List CV} {vs:List V} {N:List Str} (g:Gh K F H ρ ch) (r:RelCs K F ρ ch.length cs vs):Ge K (cs.map some++List.replicate (N.length-cs.length) none) ch (du N vs) F H ρ:=by
 have hl:=r.length
 refine ⟨g,by simp [du,hl],fun i c h=>?_⟩
 by_cases hi:i<cs.length
 · rw [List.getElem?_append_left (by simpa using hi),List.getElem?_map] at h
   have hd:cs[i]?=some cs[i]:=by simp [hi]
   rw [hd] at h
   cases h
   obtain ⟨v,hv,rv⟩:=r.get hd
   refine ⟨v,?_,rv⟩
   unfold du
   rw [List.getElem?_append_left (by simp;omega),List.getElem?_map,hv]
   rfl
 · rw [List.getElem?_append_right (by simpa using hi)] at h
   rw [List.getElem?_replicate] at h
   split at h<;>cases h
section
variable {P:Program} {w:World} {K:PySem.W.Frag} {mg:Str->Option Value} {base:Heap}
def mi {x q:Str} {st:Stmt} {N ps:List Str} {k n:Nat} {g:Fs} {f:Addr} {fd:FuncData} (D:Fun K x q st f fd) (S:FnScope N ps (ac st)) (hn:ps.length=n)
  (hbody:∀ (cdv:Value) (A:Around) (outer:List Env) (s:Shared) (H:Hp) (E:XK),Room k (A.deeper (envOfC q (ac st) s.heap.objs.size f cdv))->GS (iT CX0 P w K mg base N q (ac st) f cdv A outer s H E).nox (aO st) g) :
  FnOk P w K mg base CX0 (k+1) f fd ps (spG K n (dB N.length g)):=by
 refine D.ok S (fun vs H Q E h=>?_) (fun cdv A outer s H vs Q E hr h=>?_)
 · obtain ⟨F,ρ,cs,ch,c,ch',_,hl,r,_⟩:=h
   rw [r.length,hl,hn]
 · obtain ⟨F,ρ,cs,ch,c,ch',gh,hl,r,hf,kq⟩:=h
   refine ⟨_,hbody cdv A outer s H E hr,?_⟩
   unfold dB at hf
   split at hf
   · rename_i c1 ch1 q
     cases hf
     exact ⟨_,ch,F,ρ,_,nv gh r,q,fun v F' H' ρ' a z=>kq v F' H' ρ' a z⟩
   · rename_i δ1 ch1 q
     cases hf
     exact ⟨_,ch,F,ρ,_,nv gh r,q,fun σ' F' H' ρ' a z=>kq .non F' H' ρ' a (p5 (K:=K) (F:=F'))⟩
   · cases hf
end
section
variable {X:Cx} {e a b o:Expr} {es rest:List Expr} {f fa fb fe:Fg} {fs:Fgs} {ta tb:Ft} {pos apos cpos p:Pos} {sc:Scope} {x:Str} {K:PySem.W.Frag}
def GW (X:Cx) (e:Expr) (f:Ft):Prop:=PW X e (tGT X.K f)
def eg (f:Ft):Ft:=fun δ ch=>(f δ ch).map fun p=>(!p.1,p.2)
def vS (f g:Ft):Ft:=fun δ ch=>(f δ ch).bind fun p=>if p.1 then some (true,p.2) else g δ p.2
def dU (f:Fg):Ft:=fun δ ch=>(f δ ch).bind fun p=>(vw p.2 p.1).bind fun d=>(sN d).map fun b=>(b,p.2)
def dq (ha:GE X a fa) (he:∀ whole,isTrue a X.env whole=(do let v <- whole;standAt a.pos;holding [v] (truthy v))):GT X a (dU fa):=PT.mono (mP ha he) fun σ H Q ⟨δ,ch,F,ρ,b,ch',en,hf,k⟩=>by
 unfold dU at hf
 obtain ⟨p,hp,hf⟩:=bS hf
 obtain ⟨d,hd,hf⟩:=bS hf
 obtain ⟨c,hc,hf⟩:=mS hf
 cases hf
 exact ⟨δ,ch,F,ρ,p.1,_,en,hp,fun v F' H' ρ' a r=>⟨_,pZ a.gh.fh (gz a.gh r hd) hc,k F' H' ρ' a⟩⟩
def gf (h:GT X a ta):GT X (.UnaryOp .Not a pos) (eg ta):=PT.mono (rS h) fun σ H Q ⟨δ,ch,F,ρ,b,ch',en,hf,k⟩=>by
 unfold eg at hf
 obtain ⟨p,hp,hf⟩:=mS hf
 cases hf
 exact ⟨δ,ch,F,ρ,p.1,p.2,en,hp,fun F' H' ρ' a=>k F' H' ρ' a⟩
def yp (h:GT X a ta):GW X (.BoolOp .Or [a] pos) ta:=rR h
def zt (h:GT X a ta) (h':GW X (.BoolOp .Or (b::rest) pos) tb):GW X (.BoolOp .Or (a::b::rest) pos) (vS ta tb):=PW.mono (wF h h') fun σ H Q ⟨δ,ch,F,ρ,t,ch',en,hf,k⟩=>by
 unfold vS at hf
 obtain ⟨p,hp,hf⟩:=bS hf
 refine ⟨δ,ch,F,ρ,p.1,p.2,en,hp,fun F' H' ρ' a=>?_⟩
 split at hf
 · rename_i q
   rw [if_pos q]
   cases hf
   exact k F' H' ρ' a
 · rename_i q
   rw [if_neg q]
   exact ⟨δ,p.2,F',ρ',t,ch',en.adv a,hf,fun F2 H2 ρ2 a2=>k F2 H2 ρ2 (a.trans en.gh a2)⟩
def GW.t (h:GW X a ta):GT X a ta:=h.pt
def asBV:CV->Option Bool
 | .dat (.bl b)=>some b
 | _=>none
def yq {op:CmpOp} {r:R2} {g:Dt->Dt->Option T} (ho:OpR X (compareOp op) r) (hr:R2D X.K r g) (ha:GE X a fa) (hb:GE X b fb) (hm:behindInMarks op b=false):GE X (.Compare a [op] [b] pos) (e2 g fa fb):=PE.mono (pE ho ha hb hm) fun _ _ _ h=>tH hr h
def vws (ch:CH):List CV->Option (List Dt)
 | []=>some []
 | c::l=>(vw ch c).bind fun d=>(vws ch l).map (d::·)
def kW {F H:Hp} {ρ:Nat->Addr} {ch:CH} (g:Gh K F H ρ ch):∀ {l:List CV} {ds:List Dt} {vs:List V},RelCs K F ρ ch.length l vs->vws ch l=some ds->kH K F H ds vs
 | [],ds,vs,r,h=>by cases h;exact r
 | c::l,ds,vs,r,h=>by
  simp only [vws] at h
  obtain ⟨d,hd,h⟩:=bS h
  obtain ⟨es,he,rfl⟩:=mS h
  obtain ⟨v,ws,e,r1,r2⟩:=r
  exact ⟨v,ws,e,gz g r1 hd,kW g r2 he⟩
def eB (g:List Dt->Option T) (fs:Fgs):Fg:=fun δ ch=>(fs δ ch).bind fun p=>(vws p.2 p.1).bind fun ds=>(g ds).bind (al p.2)
def zu {r:List V->Hp->VK->Prop} {g:List Dt->Option T} (hr:CRD K r g) {σ:St} {H:Hp} {Q:VK} (h:tG K (eB g fs) σ H Q):tCB r (tGs K fs) σ H Q:=by
 obtain ⟨δ,ch,F,ρ,c,ch',en,hf,k⟩:=h
 unfold eB at hf
 obtain ⟨p,hp,hf⟩:=bS hf
 obtain ⟨ds,hd,hf⟩:=bS hf
 obtain ⟨t,ht,hf⟩:=bS hf
 exact ⟨δ,ch,F,ρ,p.1,p.2,en,hp,fun vs F1 H1 ρ1 a1 r1=>hr F1 H1 ds vs Q t a1.gh.fh (kW a1.gh r1 hd) ht (nr a1.gh hf (k.adv en.gh a1))⟩
def ic {Ty:String} {r:List V->Hp->VK->Prop} {gg:List Dt->Option T} (h:bj sc x=true) (hc:dL X (.type Ty) r) (hr:CRD X.K r gg) (hm:X.mg x=none) (hv:bootBuiltins x=some (.type Ty)) (ha:GA X (e::es) fs) (e1:cW X sc:=by rfl)
  (he:starEach (e::es) X.env=(false,eval e X.env)::starEach es X.env:=by rfl) (hpl:(backTo pos (starEach es X.env)).any (·.1)=false:=by rfl):GE X (.Call (.Name x p) (e::es) [] pos) (eB gg fs):=
 PE.mono (fB h hc hm hv ha e1 he hpl) fun σ H Q q=>zu hr q
noncomputable def eMk (c:Str) (g:Fd) (fs:Fgs):Fg:=fun δ ch=>(fs δ ch).bind fun p=>(g (.ref p.2.length::p.1) (p.2++[.ins c [] []])).bind fun q=>match q.1 with
 | .dat .non=>if p.2.length<q.2.length then some (.ref p.2.length,q.2) else none
 | _=>none
def zv {c:Str} {C:Addr} {n:Nat} {g:Fd} {as:TA} (h1:ClsAt K c C) (hn:∀ δ ch p,fs δ ch=some p->p.1.length+1=n) (has:∀ σ H Q,tGs K fs σ H Q->as σ H Q):∀ σ H Q,tG K (eMk c g fs) σ H Q->wK C (spG K n g) [] E0 as σ H Q:=fun σ H Q ⟨δ,ch,F,ρ,c0,ch',en,hf,k⟩=>by
 unfold eMk at hf
 obtain ⟨⟨cs,ch1⟩,hp,hf1⟩:=bS hf
 clear hf
 obtain ⟨⟨r,ch2⟩,hq,hf⟩:=bS hf1
 clear hf1
 dsimp only at hf
 split at hf<;>first | (cases hf;done) | skip
 split at hf<;>cases hf
 rename_i hlt
 refine has _ _ _ ⟨δ,ch,F,ρ,cs,ch1,en,hp,fun vs F1 H1 ρ1 a1 r1 x dx hx hdx hne=>?_⟩
 have st:Step F1 H1 F1 (upd (upd H1 dx (.own x)) x (.ins C dx [])):=(Step.made a1.gh.fh hdx).trans (Step.made (a1.gh.fh.trans (Same.upd hdx)) (by rw [aG (Ne.symm hne)];exact hx))
 have a2:=Adv.new (o:=.ins c [] []) a1.gh st hx (a1.gh.fh.free hx) ⟨C,dx,[],h1,aB,rfl,rfl⟩
 have a12:=a1.trans en.gh a2
 show spG K n g (V.ref x::(vs++[])) _ _ E0
 rw [List.append_nil]
 refine ⟨F1,_,.ref ch1.length::cs,ch1++[.ins c [] []],_,_,a2.gh,hn δ ch _ hp,⟨_,vs,rfl,⟨by simp,?_⟩,r1.mono (Same.refl _) a2.ext (by simp)⟩,hq,fun v F' H' ρ' a3 rv=>⟨?_,?_⟩⟩
 · (try dsimp only)
   rw [if_pos rfl]
 · have rv:Rep K F' .non v:=rv
   simp only [Rep] at rv
   exact rv
 · refine k _ F' H' ρ' (a12.trans en.gh a3) ⟨hlt,?_⟩
   rw [a3.ext ch1.length (by simp)]
   (try dsimp only)
   rw [if_pos rfl]
def vT {c:Str} {k n:Nat} {ps:List Str} {g:Fd} (h:bj sc c=true) (F:OkI X.prog X.w X.K X.mg X.base c k ps (spG X.K n g)) (hr:Room (k+1) X.A) (ha:GA X (e::es) fs) (hn:∀ δ ch p,fs δ ch=some p->p.1.length+1=n) (e1:cW X sc:=by rfl)
  (he:starEach (e::es) X.env=(false,eval e X.env)::starEach es X.env:=by rfl) (hpl:(backTo pos (starEach es X.env)).any (·.1)=false:=by rfl):GE X (.Call (.Name c p) (e::es) [] pos) (eMk c g fs):=by
 obtain ⟨C,g',fd,h1,h2,h3,h4,h5⟩:=F.ex
 exact PE.mono (u9 h3 h5 hr (glD h e1) h2 h4 .nil pM ha (jz h) he hpl) (zv h1 hn fun _ _ _ q=>q)
def bN:∀ δ ch p,aD δ ch=some p->p.1.length=0:=fun δ ch p h=>by cases h;rfl
def z7 {f:Fg} {fs:Fgs} {n:Nat} (h:∀ δ ch p,fs δ ch=some p->p.1.length=n):∀ δ ch p,ah f fs δ ch=some p->p.1.length=n+1:=fun δ ch p hp=>by
 unfold ah at hp
 obtain ⟨a,ha,hp⟩:=bS hp
 obtain ⟨b,hb,hp⟩:=mS hp
 cases hp
 simp [h _ _ _ hb]
def kc {fs:Fgs} {n:Nat} (h:∀ δ ch p,fs δ ch=some p->p.1.length=n):∀ δ ch p,fs δ ch=some p->p.1.length+1=n+1:=fun δ ch p hp=>by rw [h δ ch p hp]
end
section
variable {P:Program} {w:World} {K:PySem.W.Frag} {mg:Str->Option Value} {base:Heap}
def mj {x:Str} {st:Stmt} {N ps:List Str} {k n:Nat} {g:Fs} (D:DefF K mg x st ps) (S:FnScope N ps (ac st)) (hn:ps.length=n)
  (hbody:∀ (f:Addr) (cdv:Value) (A:Around) (outer:List Env) (s:Shared) (H:Hp) (E:XK),Room k (A.deeper (envOfC x (ac st) s.heap.objs.size f cdv))->GS (iT CX0 P w K mg base N x (ac st) f cdv A outer s H E).nox (aO st) g) :
  OkF P w K mg base x (k+1) ps (spG K n (dB N.length g)):=by
 obtain ⟨f,fd,h1,h2,h3,h4⟩:=D.ex
 exact ⟨f,fd,h1,h2,h3,mi h4 S hn (hbody f)⟩
def cc {c m q:Str} {st:Stmt} {N ps:List Str} {k n:Nat} {g:Fs} (D:DefM K c m q st ps) (S:FnScope N ps (ac st)) (hn:ps.length=n)
  (hbody:∀ (f:Addr) (cdv:Value) (A:Around) (outer:List Env) (s:Shared) (H:Hp) (E:XK),Room k (A.deeper (envOfC q (ac st) s.heap.objs.size f cdv))->GS (iT CX0 P w K mg base N q (ac st) f cdv A outer s H E).nox (aO st) g) :
  OkM P w K mg base c m (k+1) ps (spG K n (dB N.length g)):=by
 obtain ⟨C,f,fd,h1,h2,h3,h4,h5⟩:=D.ex
 exact ⟨C,f,fd,h1,h2,h3,h4,mi h5 S hn (hbody f)⟩
def vU {c q:Str} {st:Stmt} {N ps:List Str} {k n:Nat} {g:Fs} (D:DefI K mg c q st ps) (S:FnScope N ps (ac st)) (hn:ps.length=n)
  (hbody:∀ (f:Addr) (cdv:Value) (A:Around) (outer:List Env) (s:Shared) (H:Hp) (E:XK),Room k (A.deeper (envOfC q (ac st) s.heap.objs.size f cdv))->GS (iT CX0 P w K mg base N q (ac st) f cdv A outer s H E).nox (aO st) g) :
  OkI P w K mg base c (k+1) ps (spG K n (dB N.length g)):=by
 obtain ⟨C,f,fd,h1,h2,h3,h4,h5⟩:=D.ex
 exact ⟨C,f,fd,h1,h2,h3,h4,mi h5 S hn (hbody f)⟩
end
section
variable {X:Cx} {e a b c o:Expr} {es rest:List Expr} {f fa fb fe:Fg} {fs:Fgs} {ta tb tc:Ft} {pos apos cpos p:Pos} {sc:Scope} {x:Str} {K:PySem.W.Frag} {g:Fs} {body:List Stmt}
end
def ml:typeLookup (.type "list") "keys"=pure none:=by rw [typeLookup_type,builtinLookup_eq_fast];kernel_rfl
def iX:typeLookup (.type "list") "__getattr__"=pure none:=by rw [typeLookup_type,builtinLookup_eq_fast];kernel_rfl
def cS:plainId "dict.update.loop"=true:=by decide +kernel
def gi:entryFor table "dict.update.loop"=some Builtin.«dict.update.loop»:=entryFor_of_fast (by kernel_rfl)
section
variable {prog:Program} {w:World} {A:Around} {E:Value->Shared->Prop} {s:Shared} {a:Addr} {its:Array Value} {c:Nat} {sl:Array (Option Value)}
def oV {tk:Tok} {Q:Fin->Shared->Prop} (hx:s.heap.get? a=some {cls:=.type "list",dict:=none,data:=.seq its c,slots:=sl}) (hh:A.handled=none)
  (hE:∀ h' tk e,Heap.NewAttrErr s.heap h' e (.ref a) "keys"->E (.ref e) {s with heap:=h',toks:=tk}) :
  wpAny (model prog w) A (Builtin.«object.__getattribute__» ⟨[.ref a,.str "keys" tk],[]⟩) Q E s:=by
 obtain ⟨h,g,d,t,os⟩:=s
 have hT:(⟨h,g,d,t,os⟩:Shared).TypeIs (.ref a) "list":=⟨_,hx,rfl⟩
 have f4:=ml
 repeat (any_goals (first | assumption | wp_step))
 exact wpAny_raiseAttrError hh hE (attrMsg_fits (by decide +kernel) (by size_fits))
def rh {Q:Option Value->Shared->Prop} (hx:s.heap.get? a=some {cls:=.type "list",dict:=none,data:=.seq its c,slots:=sl}) (hh:A.handled=none)
  (hQ:∀ h' tk,(∀ b ob,s.heap.get? b=some ob->h'.get? b=some ob)->Q none {s with heap:=h',toks:=tk}) :
  wpAny (model prog w) A (getAttr? (.ref a) "keys") Q E s:=by
 obtain ⟨h,g,d,t,os⟩:=s
 have hT:(⟨h,g,d,t,os⟩:Shared).TypeIs (.ref a) "list":=⟨_,hx,rfl⟩
 have f1:=sub_AttributeError
 have f3:=F.slot_list_getattribute.lookup
 have f4:=F.slot_list_getattribute.bind (.ref a)
 have f5:=iX
 unfold getAttr? getAttrBy? getAttrBy
 repeat (any_goals (first | assumption | wp_step))
 refine codeAny_call_builtin F.slot_list_getattribute.plain F.entry_list_ga (F.slot_list_getattribute.check _ _ _ _ _ _ _ _ hT (F.args_list_getattribute_2 _ _) (oV hx hh fun h' tk e hn=>?_))
 obtain ⟨t',u',he⟩:=hn.there
 show wpAny _ _ (getattributeRaised _ _ _ _ _ _ _) _ _ _
 unfold getattributeRaised
 repeat (any_goals (first | assumption | wp_step))
 exact hQ _ _ hn.keeps
end
section
variable {prog:Program} {w:World} {A:Around} {E:Value->Shared->Prop} {s:Shared} {a:Addr} {its:Array Value} {c:Nat} {sl:Array (Option Value)}
end
section
variable {X:Cx} {e o:Expr} {sc:Scope} {p pos:Pos} {fs:De->Option (List Dt)}
end
section
variable {prog:Program} {w:World} {A:Around}
def fm (kvs:List (Key×Value)):List (Key×Value)->List (Key×Value)
 | []=>kvs
 | p::ps=>fm (stored kvs p.1 p.2) ps
structure PairsAt (prog:Program) (w:World) (h:Heap) (it D:Addr) (items:Array Value) (ps:List (Key×Value)):Prop where
 len:items.size=ps.length
 at_:∀ (j:Nat) (p:Key×Value),ps[j]?=some p->∃ t key o n,items[j]?=some (.ref t)/\t≠it/\t≠D/\(bf prog w).is p.1 key=true/\h.get? t=some o/\o.cls=.type "tuple"/\o.data=.seq #[key,p.2] n
def PairsAt.keep {h h':Heap} {it D:Addr} {items:Array Value} {ps:List (Key×Value)} (P:PairsAt prog w h it D items ps) (k:∀ b o,b≠it->b≠D->h.get? b=some o->h'.get? b=some o):PairsAt prog w h' it D items ps:=
 ⟨P.len,fun j p hp=>by
  obtain ⟨t,key,o,n,h1,h2,h3,h4,h5,h6,h7⟩:=P.at_ j p hp
  exact ⟨t,key,o,n,h1,h2,h3,h4,k t o h2 h3 h5,h6,h7⟩⟩
def tN {l it D:Addr} {items:Array Value} {ps:List (Key×Value)} {result:Value} (hlD:l≠D) (hli:l≠it) (hiD:it≠D) :
  ∀ (k i:Nat) (A:Around) (s:Shared) (kvs:List (Key×Value)) (R:Result->Shared->Prop),A.handled=none->ps.length-i=k->i<=ps.length->s.heap.IsListIter it l i->s.heap.IsList l items->PairsAt prog w s.heap it D items ps->s.heap.DictOf (bf prog w) D kvs→
   kvs.length+(ps.length-i)<=sizeLine→
   (∀ h' tk,h'.DictOf (bf prog w) D (fm kvs (ps.drop i))->(∀ b o,b≠it->b≠D->s.heap.get? b=some o->h'.get? b=some o)->R (.ok (.ret result)) {s with heap:=h',toks:=tk})→
   codeAny (model prog w) A (.builtin "dict.update.loop" ⟨[.ref D,.ref it,rawInt i,result],[]⟩) R s:=by
 intro k
 induction k with
 | zero =>
  intro i A s kvs R hh hk hi hit hl hP hD hz hR
  have hin:i=ps.length:=by omega
  subst hin
  refine codeAny_builtin gi ?_
  rw [Around.under_plainId cS _]
  unfold Builtin.«dict.update.loop»
  show wpAny _ _ (pyNext (.ref _) >>= _) _ _ _
  refine wpAny_bind (wpAny_pyNext_list_end hh hit hl (by rw [<- hP.len];simp) fun h' eb=>?_)
  refine wB (wpAny_pure (wpAny_pure (hR h' s.toks ?_ fun b o hb _ e=>eb b o hb e)))
  rw [List.drop_length]
  exact hD.extBut eb (Ne.symm hiD)
 | succ k ih =>
  intro i A s kvs R hh hk hi hit hl hP hD hz hR
  have hlt:i<ps.length:=by omega
  obtain ⟨t,key,o,n,h1,h2,h3,h4,h5,h6,h7⟩:=hP.at_ i ps[i] (by simp [hlt])
  refine codeAny_builtin gi ?_
  rw [Around.under_plainId cS _]
  unfold Builtin.«dict.update.loop»
  show wpAny _ _ (pyNext (.ref _) >>= _) _ _ _
  refine wB (wpAny_pyNext_list_item hit hl h1 fun h' hit' sb=>?_)
  have h5':h'.get? t=some o:=(sb.2 t h2).trans h5
  have hD':h'.DictOf (bf prog w) D kvs:=hD.sameBut sb (Ne.symm hiD)
  show wpAny _ _ (holding [Value.ref t] _ >>= _) _ _ _
  refine wB (wpAny_holding (wB (wpAny_tryCatch ?_)))
  unfold Builtin.Dict.pairItems
  refine wB (wpAny_typeOf (T:="tuple") ⟨o,h5',h6⟩ ?_)
  rw [if_pos (by decide)]
  refine wB (wpAny_seqItems h5' h7 ?_)
  refine wpAny_pure ?_
  show wpAny _ _ (holding [key,ps[i].2] (dictSet D key ps[i].2)) _ _ _
  refine wpAny_holding (wpAny_dictSet_pairs (hsz:=by omega) h4 hD' fun h'' hD'' sb'=>?_)
  refine wpAny_pure ⟨plainId_quiet cS _,?_⟩
  have kp:∀ b o,b≠it->b≠D->s.heap.get? b=some o->h''.get? b=some o:=fun b o hb hb' e=>by
   rw [sb'.2 b hb',sb.2 b hb]
   exact e
  have hl':h''.IsList l items:=by
   obtain ⟨ol,e1,e2⟩:=hl
   exact ⟨ol,kp l ol hli hlD e1,e2⟩
  have hit'':h''.IsListIter it l (i+1):=by
   obtain ⟨oi,e1,e2⟩:=hit'
   exact ⟨oi,by rw [sb'.2 it hiD];exact e1,e2⟩
  refine ih (i+1) _ _ (stored kvs ps[i].1 ps[i].2) R hh (by omega) (by omega) hit'' hl' (hP.keep kp) hD'' ?_ fun h3 tk hD3 kp3=>hR h3 tk ?_ fun b o hb hb' e=>kp3 b o hb hb' (kp b o hb hb' e)
  · have:=stored_length_le kvs ps[i].1 ps[i].2
    omega
  · have:ps.drop i=ps[i]::ps.drop (i+1):=List.drop_eq_getElem_cons hlt
    rw [this]
    exact hD3
variable {E:Value->Shared->Prop} {s:Shared} {a:Addr} {its:Array Value} {c:Nat} {sl:Array (Option Value)}
def ke {Q:Value->Shared->Prop} {ps:List (Key×Value)} (hx:s.heap.get? a=some {cls:=.type "list",dict:=none,data:=.seq its c,slots:=sl}) (hh:A.handled=none) (hl:its.size=ps.length) (hz:ps.length<=sizeLine)
  (hp:∀ (j:Nat) (p:Key×Value),ps[j]?=some p->∃ t key o n,its[j]?=some (.ref t)/\(bf prog w).is p.1 key=true/\s.heap.get? t=some o/\o.cls=.type "tuple"/\o.data=.seq #[key,p.2] n)
  (hQ:∀ h' tk,h'.DictOf (bf prog w) s.heap.objs.size (fm [] ps)->(∀ b ob,s.heap.get? b=some ob->h'.get? b=some ob)->Q (.ref s.heap.objs.size) {s with heap:=h',toks:=tk}) :
  wpAny (model prog w) A (call (.type "dict") [.ref a]) Q E s:=by
 refine callType_codes (Q₁:=fun obj s₁=>obj=.ref s.heap.objs.size/\s₁={s with heap:=s.heap.push {cls:=.type "dict",data:=.dict #[]}}) F.kt_called_dict (F.kt_typeCall_dict_1 _) F.entry_dict_init (kt_code_dict_new _ ⟨rfl,rfl⟩) ?_
 rintro obj s₁ ⟨rfl,rfl⟩
 have hnew:(s.heap.push {cls:=.type "dict",data:=.dict #[]}).DictOf (bf prog w) s.heap.objs.size []:=Heap.DictOf.new s.heap
 have hx1:(s.heap.push {cls:=.type "dict",data:=.dict #[]}).get? a=some {cls:=.type "list",dict:=none,data:=.seq its c,slots:=sl}:=gP _ hx
 refine ⟨hnew.typeIs,F.args_dict_init_2 _ _,?_⟩
 unfold Builtin.«dict.__init__»
 refine wB ?_
 unfold Builtin.Dict.selfAndRest
 refine wB (wpAny_notOrdered_dict hnew.typeIs ?_)
 show wpAny _ _ (pure (s.heap.objs.size,[Value.ref a])) _ _ _
 refine wpAny_pure ?_
 show wpAny _ _ (Builtin.Dict.updateFrom "dict.__init__" s.heap.objs.size (.ref a) [] .none) _ _ _
 unfold Builtin.Dict.updateFrom
 refine wB (wpAny_typeOf (T:="list") ⟨_,hx1,rfl⟩ ?_)
 rw [if_pos (by decide)]
 refine wB (rh hx1 hh fun h' tk kp=>?_)
 rw [if_pos (by rfl)]
 refine wB (wpAny_rule ?_)
 have hx2:=kp _ _ hx1
 refine wB (wpAny_pyIter_list (items:=its) ⟨_,hx2,rfl,_,rfl⟩ ?_)
 refine wpAny_pure ⟨plainId_quiet cS _,?_⟩
 have ha:a<s.heap.objs.size:=Heap.lt_size hx
 obtain ⟨oD,esD,epD,eD,restD⟩:=hnew
 have hD2:s.heap.objs.size<h'.objs.size:=Heap.lt_size (kp _ _ eD)
 refine tN (l:=a) (it:=h'.objs.size) (D:=s.heap.objs.size) (items:=its) (ps:=ps) (Nat.ne_of_lt ha) (Nat.ne_of_lt (Nat.lt_trans ha hD2)) (Ne.symm (Nat.ne_of_lt hD2)) ps.length 0 _ _ [] _ hh (by simp) (Nat.zero_le _) ⟨_,Heap.get?_push_size _ rfl,rfl,rfl⟩ ⟨_,Heap.get?_push_of_some _ hx2,rfl,_,rfl⟩ ⟨hl,fun j p hj=>?_⟩ ⟨oD,esD,epD,Heap.get?_push_of_some _ (kp _ _ eD),restD⟩ (by simpa using hz) fun h3 tk3 hD3 kp3=>⟨rfl,?_⟩
 · obtain ⟨t,key,o,n,h1,h2,h3,h4,h5⟩:=hp j p hj
   have ht:=Heap.lt_size h3
   exact ⟨t,key,o,n,h1,Nat.ne_of_lt (Nat.lt_trans ht hD2),Nat.ne_of_lt ht,h2,gP _ (kp _ _ (gP _ h3)),h4,h5⟩
 · refine hQ h3 tk3 (by simpa using hD3) fun b ob e=>kp3 b ob (Nat.ne_of_lt (Nat.lt_trans (Heap.lt_size e) hD2)) (Nat.ne_of_lt (Heap.lt_size e)) (Heap.get?_push_of_some _ (kp _ _ (Heap.get?_push_of_some _ e)))
end
def ci (kvs:List (Key×V)):List (Key×V)->List (Key×V)
 | []=>kvs
 | p::ps=>ci (bT kvs p.1 p.2) ps
def KV.all:∀ {ps:List (Key×V)} {qs:List (Key×Value)} {kvs:List (Key×V)} {vs:List (Key×Value)},KV ps qs->KV kvs vs->KV (ci kvs ps) (fm vs qs)
 | [],[],_,_,_,r=>r
 | [],_::_,_,_,h,_=>by cases h
 | _::_,[],_,_,h,_=>by cases h
 | p::ps,q::qs,kvs,vs,h,r=>by
  cases h with
  | cons hp ht =>
   obtain ⟨e,rp⟩:=hp
   have:=KV.all ht (r.put p.1 rp)
   show KV (ci (bT kvs p.1 p.2) ps) (fm (stored vs q.1 q.2) qs)
   rw [<- e]
   exact this
def gY:∀ (ps kvs:List (Key×V)),(ci kvs ps).length<=kvs.length+ps.length
 | [],kvs=>by simp [ci]
 | p::ps,kvs=>by
  have h1:=gY ps (bT kvs p.1 p.2)
  have h2:=dZ kvs p.1 p.2
  simp only [ci,List.length_cons]
  omega
section
variable {X:Cx}
noncomputable def zw (K:PySem.W.Frag):List V->Hp->VK->Prop:=fun xs H Q=>∃ (a:Addr) (vs:List V) (ps:List (Key×V)),xs=[.ref a]/\SqL K H a vs/\vs.length=ps.length∧
 (∀ (j:Nat) (p:Key×V),ps[j]?=some p->∃ t,vs[j]?=some (.ref t)/\SqT K H t [kV p.1,p.2])/\∀ p,H p=none->Q (.ref p) (upd H p (.dK (ci [] ps)))
def oW (hc:X.calm=true):dL X (.type "dict") (zw X.K):=by
 intro pins s σ H xs us Q I r h
 obtain ⟨a,vs,ps,rfl,hq,hl,hp,q⟩:=h
 obtain ⟨u,rfl,rx⟩:=jq r
 cases rx
 obtain ⟨its,rv,⟨⟨cls,dd,data,sl⟩,n,ho,h1,h2,h3⟩,hz⟩:=I.list hq
 simp only at h1 h2 h3
 subst h1 h2 h3
 -- the values of the pairs
 have ex:∀ (j:Nat) (p:Key×V),ps[j]?=some p->∃ t key u n o,its[j]?=some (.ref t)/\RelV (kV p.1) key/\RelV p.2 u/\s.heap.get? t=some o/\o.cls=.type "tuple"/\o.data=.seq #[key,u] n:=fun j p hj=>by
  obtain ⟨t,ht,hT⟩:=hp j p hj
  obtain ⟨u0,hu0,ru0⟩:=rv.get ht
  obtain rfl:u0=Value.ref t:=ru0
  obtain ⟨ws,rws,⟨o,eo,ec,n,ed⟩,_⟩:=I.tuple hT
  obtain ⟨x,y,rfl,rx,ry⟩:=wI rws
  exact ⟨t,x,y,n,o,hu0,rx,ry,eo,ec,ed⟩
 have exq:∃ qs:List (Key×Value),KV ps qs/\∀ (j:Nat) (p:Key×Value),qs[j]?=some p->∃ t key o n,its[j]?=some (.ref t)/\(bf X.prog X.w).is p.1 key=true/\s.heap.get? t=some o/\o.cls=.type "tuple"/\o.data=.seq #[key,p.2] n:=by
  have key:∀ (ps:List (Key×V)) (its:List Value),(∀ (j:Nat) (p:Key×V),ps[j]?=some p->∃ t key u n o,its[j]?=some (.ref t)/\RelV (kV p.1) key/\RelV p.2 u/\s.heap.get? t=some o/\o.cls=.type "tuple"/\o.data=.seq #[key,u] n)→
      ∃ qs:List (Key×Value),KV ps qs/\∀ (j:Nat) (p:Key×Value),qs[j]?=some p->∃ t key o n,its[j]?=some (.ref t)/\(bf X.prog X.w).is p.1 key=true/\s.heap.get? t=some o/\o.cls=.type "tuple"/\o.data=.seq #[key,p.2] n:=fun ps=>by
   induction ps with
   | nil=>exact fun its _=>⟨[],.nil,fun j p h=>by simp at h⟩
   | cons p ps ih =>
    intro its h
    obtain ⟨t,k,u,n,o,e1,e2,e3,e4,e5,e6⟩:=h 0 p rfl
    cases its with
    | nil=>simp at e1
    | cons v its =>
     obtain ⟨qs,r1,r2⟩:=ih its fun j p hj=>h (j+1) p (by simpa using hj)
     refine ⟨(p.1,u)::qs,.cons ⟨rfl,e3⟩ r1,fun j q hj=>?_⟩
     cases j with
     | zero =>
      simp at hj
      subst hj
      exact ⟨t,k,o,n,by simpa using e1,mU e2,e4,e5,e6⟩
     | succ j=>simpa using r2 j q (by simpa using hj)
  exact key ps its ex
 obtain ⟨qs,rq,hq2⟩:=exq
 have hlen:its.length=qs.length:=by rw [<- rv.length,hl];exact rq.length
 have hzz:qs.length<=sizeLine:=by rw [<- hlen,<- rv.length];exact hz
 refine ke ho (I.ok.hd hc) (by simpa using hlen) hzz (fun j p hj=>by
  obtain ⟨t,key,o,n,e1,e2⟩:=hq2 j p hj
  exact ⟨t,key,o,n,by simpa using e1,e2⟩) fun h' tk hD kp=>⟨.ref s.heap.objs.size,_,I.laid (a:=s.heap.objs.size) (o:=.dK (ci [] ps)) (t':=tk) kp (Nat.le_refl _) ?_,rfl,q _ (I.hok.fresh (Nat.le_refl _))⟩
 refine oB ?_ (beq_eq_false_iff_ne.mpr (Ne.symm (Nat.ne_of_lt I.big))) (KV.all rq .nil) hD
 have:=gY ps []
 have:=rq.length
 simp at*
 omega
end
def mn {kvs:List (Key×V)} {k:Key} (h:k∉kvs.map (·.1)):fw kvs k=none:=by
 cases q:fw kvs k with
 | none=>rfl
 | some v=>exact absurd (vk q) h
def fL:∀ {ps kvs:List (Key×V)},((kvs++ps).map (·.1)).Nodup->ci kvs ps=kvs++ps
 | [],kvs,_=>by simp [ci]
 | p::ps,kvs,h=>by
  have hk:p.1∉kvs.map (·.1):=fun z=>by
   rw [List.map_append] at h
   exact (List.nodup_append.mp h).2.2 p.1 z p.1 (by simp) rfl
  simp only [ci]
  rw [sx _ (mn hk),fL (by simpa using h)]
  simp
def kX (ch:CH):CV->Option (Key×CV)
 | .dat (.tup [k,d])=>(fG k).map fun k=>(k,.dat d)
 | .ref j=>match ch[j]? with
  | some (.tup [.dat k,c])=>(fG k).map fun k=>(k,c)
  | _=>none
 | _=>none
def fM (ch:CH):List CV->Option (List (Key×CV))
 | []=>some []
 | c::l=>(kX ch c).bind fun p=>(fM ch l).map (p::·)
section
variable {K:PySem.W.Frag} {F H:Hp} {ρ:Nat->Addr} {ch:CH}
def tP (g:Gh K F H ρ ch) {c:CV} {v:V} {p:Key×CV} (h:kX ch c=some p) (r:RelC K F ρ ch.length c v):∃ t u,v=.ref t/\SqT K H t [kV p.1,u]/\RelC K F ρ ch.length p.2 u:=by
 unfold kX at h
 split at h
 · rename_i k d
   obtain ⟨kk,hk,rfl⟩:=mS h
   have r:Rep K F (.tup [k,d]) v:=r
   simp only [Rep,Reps] at r
   obtain ⟨t,vs,rfl,h1,x,ws,rfl,rx,y,ws',rfl,ry,rfl⟩:=r
   have:=dR hk rx
   subst this
   exact ⟨t,y,rfl,g.fh.tup h1,ry⟩
 · rename_i j
   split at h<;>first | (cases h;done) | skip
   rename_i k c' hj
   obtain ⟨kk,hk,rfl⟩:=mS h
   obtain ⟨vs,h1,x,ws,e,rx,y,ws',e',ry,e''⟩:=g.ok j _ hj
   subst e'
   subst e
   have e'':ws'=[]:=e''
   subst e''
   have:=dR hk rx
   subst this
   exact ⟨_,y,r.2,SqT.of h1,ry⟩
 · cases h
def kY (g:Gh K F H ρ ch):∀ {l:List CV} {vs:List V} {ps:List (Key×CV)},fM ch l=some ps->RelCs K F ρ ch.length l vs->∃ qs:List (Key×V),vs.length=qs.length/\qs.map (·.1)=ps.map (·.1)/\RelCs K F ρ ch.length (ps.map (·.2)) (qs.map (·.2))/\∀ (j:Nat) (q:Key×V),qs[j]?=some q->∃ t,vs[j]?=some (.ref t)/\SqT K H t [kV q.1,q.2]
 | [],vs,ps,h,r=>by
  cases h
  have r:vs=[]:=r
  subst r
  exact ⟨[],rfl,rfl,rfl,fun j q hq=>by simp at hq⟩
 | c::l,vs,ps,h,r=>by
  simp only [fM] at h
  obtain ⟨p,hp,h⟩:=bS h
  obtain ⟨ps',hps,rfl⟩:=mS h
  obtain ⟨v,ws,rfl,r1,r2⟩:=r
  obtain ⟨t,u,rfl,h1,h2⟩:=tP g hp r1
  obtain ⟨qs,q1,q2,q3,q4⟩:=kY g hps r2
  refine ⟨(p.1,u)::qs,by simp [q1],by simp [q2],⟨u,_,rfl,h2,q3⟩,fun j q hq=>?_⟩
  cases j with
  | zero =>
   simp at hq
   subst hq
   exact ⟨t,rfl,h1⟩
  | succ j=>simpa using q4 j q (by simpa using hq)
end
section
variable {X:Cx} {e a b o:Expr} {es:List Expr} {f fa fb fc fe:Fg} {fs:Fgs} {pos apos cpos p:Pos} {sc:Scope} {x:Str} {K:PySem.W.Frag}
noncomputable def ie (fa:Fg):Fg:=fun δ ch=>(fa δ ch).bind fun p=>match p.1 with
 | .ref i=>match p.2[i]? with
  | some (.lst l)=>(fM p.2 l).bind fun ps=>if (ps.map (·.1)).Nodup then some (.ref p.2.length,p.2++[.dK ps]) else none
  | _=>none
 | _=>none
def qk (h:bj sc "dict"=true) (hc:X.calm=true) (hm:X.mg "dict"=none) (hv:bootBuiltins "dict"=some (.type "dict")) (ha:GE X a fa) (e1:cW X sc:=by rfl)
  (he:starEach [a] X.env=(false,eval a X.env)::starEach [] X.env:=by rfl) (hpl:(backTo pos (starEach [] X.env)).any (·.1)=false:=by rfl):GE X (.Call (.Name "dict" p) [a] [] pos) (ie fa):=
 PE.mono (fB h (oW hc) hm hv (dg ha fq he) e1 he hpl) fun σ H Q ⟨δ,ch,F,ρ,c,ch',en,hf,k⟩=>by
  unfold ie at hf
  obtain ⟨⟨c1,ch1⟩,hp,hf1⟩:=bS hf
  clear hf
  dsimp only at hf1
  split at hf1<;>first | (cases hf1;done) | skip
  rename_i i
  split at hf1<;>first | (cases hf1;done) | skip
  rename_i l hl
  obtain ⟨ps,hps,hf2⟩:=bS hf1
  split at hf2<;>first | (cases hf2;done) | skip
  rename_i nd
  cases hf2
  refine ⟨δ,ch,F,ρ,_,ch1,en,hp,fun v F1 H1 ρ1 a1 r1=>?_⟩
  obtain ⟨vs,h1,h2⟩:=a1.gh.ok i _ hl
  obtain ⟨qs,q1,q2,q3,q4⟩:=kY a1.gh hps h2
  refine ⟨_,vs,qs,by rw [r1.2],SqL.of h1,q1,q4,fun q hq=>?_⟩
  have e:ci [] qs=qs:=by rw [fL (by simpa [q2] using nd)];simp
  rw [e]
  refine k (.ref q) F1 _ _ (a1.trans en.gh (gc (o:=.dK ps) a1.gh hq ⟨qs,aB,q2,q3⟩)) ⟨by simp,?_⟩
  dsimp only
  rw [if_pos rfl]
noncomputable def tQ (fa fb:Fg):Fg:=fun δ ch=>(fa δ ch).bind fun p=>(fb δ p.2).bind fun q=>match p.1,q.1 with
 | .ref i,.dat (.int k)=>match q.2[i]? with
  | some (.lst l)=>if 0<=k/\k<=1000000/\l.length*k.toNat<=sizeLine then some (.ref q.2.length,q.2++[.lst (List.replicate k.toNat l).flatten]) else none
  | _=>none
 | _,_=>none
def kZ {F:Hp} {ρ:Nat->Addr} {n:Nat} {l:List CV} {vs:List V} (r:RelCs K F ρ n l vs):∀ k:Nat,RelCs K F ρ n (List.replicate k l).flatten (List.replicate k vs).flatten
 | 0=>rfl
 | k+1=>by
  rw [List.replicate_succ,List.replicate_succ,List.flatten_cons,List.flatten_cons]
  exact r.append (kZ r k)
def yr (ha:GE X a fa) (hb:GE X b fb):GE X (.BinOp a .Mult b pos) (tQ fa fb):=PE.mono (px xR ha hb) fun σ H Q ⟨δ,ch,F,ρ,c,ch',en,hf,kk⟩=>by
 unfold tQ at hf
 obtain ⟨⟨c1,ch1⟩,hp,hf1⟩:=bS hf
 clear hf
 obtain ⟨⟨c2,ch2⟩,hq,hf2⟩:=bS hf1
 clear hf1
 dsimp only at hq hf2
 split at hf2<;>first | (cases hf2;done) | skip
 rename_i i k
 split at hf2<;>first | (cases hf2;done) | skip
 rename_i l hl
 split at hf2<;>first | (cases hf2;done) | skip
 rename_i hz
 cases hf2
 refine ⟨δ,ch,F,ρ,_,ch1,en,hp,fun v F1 H1 ρ1 a1 r1=>⟨δ,ch1,F1,ρ1,_,ch2,en.adv a1,hq,fun w F2 H2 ρ2 a2 r2=>?_⟩⟩
 obtain ⟨vs,h1,h2⟩:=a2.gh.ok i _ hl
 have r2:Rep X.K F2 (.int k) w:=r2
 simp only [Rep] at r2
 refine ⟨_,k,vs,(r1.mono a2.old a2.ext a2.len).2,r2,h1,by omega,by omega,by rw [h2.length];exact hz.2.2,fun q hq2=>?_⟩
 refine kk (.ref q) F2 _ _ ((a1.trans en.gh a2).trans en.gh (gc (o:=.lst (List.replicate k.toNat l).flatten) a2.gh hq2 ⟨_,aB,kZ h2 _⟩)) ⟨by simp,?_⟩
 dsimp only
 rw [if_pos rfl]
end
section
variable {X:Cx} {e a b o value:Expr} {es:List Expr} {f fa fb fc fe fk:Fg} {fs:Fgs} {pos apos cpos tpos p:Pos} {sc:Scope} {x:Str} {K:PySem.W.Frag}
end
def gC (src:List (Option Nat)) (δ:Sl):Sl:=src.map fun o=>o.bind fun j=>(δ[j]?).join
noncomputable def dr (ts:List Nat) (bb:Dt->De->Option De) (ft:De->Option Bool) (fe:Fg) (δ:Sl):List Dt->CH->Option (List CV×CH)
 | [],ch=>some ([],ch)
 | d::r,ch=>(bb d (lo δ ch)).bind fun δ1=>(ft (lo (mgS ts δ δ1) ch)).bind fun b=>if b then (fe (mgS ts δ δ1) ch).bind fun p=>(dr ts bb ft fe δ r p.2).map fun q=>(p.1::q.1,q.2) else dr ts bb ft fe δ r ch
noncomputable def eh (src:List (Option Nat)) (fi:De->Option (List Dt)) (ts:List Nat) (bb:Dt->De->Option De) (ft:De->Option Bool) (fe:Fg):Fg:=fun δ ch =>
 (fi (lo δ ch)).bind fun ds=>(dr ts bb ft fe (gC src δ) ds ch).bind fun p=>if p.1.length<=sizeLine then some (.ref p.2.length,p.2++[.lst p.1]) else none
section
variable {K:PySem.W.Frag} {F H F' H' F1 H1:Hp} {ρ ρ' ρ1:Nat->Addr} {ch ch' ch1:CH} {src:List (Option Nat)} {δ:Sl} {σ:St}
def yt {k:Nat} {c:CV} (h:(gC src δ)[k]?=some (some c)):∃ j,src[k]?=some (some j)/\δ[j]?=some (some c):=by
 unfold gC at h
 rw [List.getElem?_map] at h
 cases e:src[k]? with
 | none=>rw [e] at h;cases h
 | some o =>
  rw [e] at h
  cases o with
  | none=>cases h
  | some j =>
   simp only [Option.map_some,Option.bind_some,Option.some.injEq] at h
   refine ⟨j,rfl,?_⟩
   cases q:δ[j]? with
   | none=>rw [q] at h;cases h
   | some u=>rw [q] at h;simp only [Option.join_some] at h;rw [h]
def Ge.comp (en:Ge K δ ch σ F H ρ):Ge K (gC src δ) ch (stC src σ) F H ρ:=⟨en.gh,by simp [gC,stC],fun k c h=>by
 obtain ⟨j,h1,h2⟩:=yt h
 obtain ⟨v,h3,h4⟩:=en.has j c h2
 exact ⟨v,p7 h1 h3,h4⟩⟩
structure Bd (K:PySem.W.Frag) (F1 H1:Hp) (ρ1:Nat->Addr) (ch1:CH) (D:Addr) (F H:Hp) (ρ:Nat->Addr) (ch:CH) (done:List CV) (ys:List V):Prop where
 adv:Adv K F1 H1 ρ1 ch1 F H ρ ch
 hD:H D=some (.lst ys)
 fD:F D=none
 nD:∀ i,i<ch.length->ρ i≠D
 rel:RelCs K F ρ ch.length done ys
variable {D:Addr} {done:List CV} {ys:List V}
def Bd.step (g1:Gh K F1 H1 ρ1 ch1) (b:Bd K F1 H1 ρ1 ch1 D F H ρ ch done ys) (a:Adv K F H ρ ch F' H' ρ' ch'):Bd K F1 H1 ρ1 ch1 D F' H' ρ' ch' done ys where
 adv:=b.adv.trans g1 a
 hD:=a.prot D _ b.hD fun i hi=>b.nD i hi
 fD:=by
  cases q:F' D with
  | none=>rfl
  | some o =>
   rcases a.nw D o q with z | z | ⟨xs,z⟩
   · rw [b.fD] at z;cases z
   · rw [b.hD] at z;cases z
   · subst z
     have z1:=a.gh.fh _ _ q
     rw [a.prot D _ b.hD fun i hi=>b.nD i hi] at z1
     cases z1
 nD:=fun i hi e=>by
  by_cases h:i<ch.length
  · rw [a.ext i h] at e
    exact b.nD i h e
  · have:=a.fr i (Nat.not_lt.mp h) hi
    rw [e,b.hD] at this
    cases this
 rel:=b.rel.mono a.old a.ext a.len
def Bd.more (hD1:H1 D=none) (b:Bd K F1 H1 ρ1 ch1 D F H ρ ch done ys) {c:CV} {v:V} (r:RelC K F ρ ch.length c v):Bd K F1 H1 ρ1 ch1 D F (upd H D (.lst (ys++[v]))) ρ ch (done++[c]) (ys++[v]) where
 adv:=⟨⟨fun x o e=>by
     have:x≠D:=fun z=>by rw [z,b.fD] at e;cases e
     rw [aG this]
     exact b.adv.gh.fh x o e,b.adv.gh.inj,b.adv.gh.out,fun i o h=>(b.adv.gh.ok i o h).mono (Same.refl _) (fun _ _=>rfl) (nL _) fun u hu=>by
     rw [aG (b.nD i (gX h).1)]
     exact hu⟩,b.adv.len,b.adv.ext,b.adv.fr,fun x o h1 h2=>by
     have:x≠D:=fun z=>by rw [z,hD1] at h1;cases h1
     rw [aG this]
     exact b.adv.prot x o h1 h2,b.adv.old,b.adv.nw,fun x o u h=>by
     have:x≠D:=fun z=>by rw [z,hD1] at h;cases h
     rw [aG this]
     exact b.adv.fz x o u h⟩
 hD:=aB
 fD:=b.fD
 nD:=b.nD
 rel:=b.rel.append (RelCs.one r)
def Bd.fin (hD1:H1 D=none) (b:Bd K F1 H1 ρ1 ch1 D F H ρ ch done ys):Adv K F1 H1 ρ1 ch1 F H (fun i=>if i=ch.length then D else ρ i) (ch++[.lst done]):=by
 have lt:∀ {i:Nat},i<ch.length->(if i=ch.length then D else ρ i)=ρ i:=fun {i} hi=>if_neg (Nat.ne_of_lt hi)
 have g:=b.adv.gh
 refine ⟨⟨g.fh,fun i j hi hj e=>?_,fun i hi=>?_,fun i x hx=>?_⟩,by have:=b.adv.len;simp;omega,fun i hi=>?_,fun i h1 h2=>?_,b.adv.prot,b.adv.old,b.adv.nw,b.adv.fz⟩
 · simp only [List.length_append,List.length_cons,List.length_nil] at hi hj
   by_cases h1:i=ch.length<;>by_cases h2:j=ch.length
   · rw [h1,h2]
   · rw [if_pos h1,if_neg h2] at e
     exact absurd e.symm (b.nD j (by omega))
   · rw [if_neg h1,if_pos h2] at e
     exact absurd e (b.nD i (by omega))
   · rw [if_neg h1,if_neg h2] at e
     exact g.inj i j (by omega) (by omega) e
 · simp only [List.length_append,List.length_cons,List.length_nil] at hi
   by_cases h1:i=ch.length
   · rw [if_pos h1];exact .inl b.fD
   · rw [if_neg h1];exact g.out i (by omega)
 · simp only [List.length_append,List.length_cons,List.length_nil]
   by_cases h1:i<ch.length
   · rw [gL h1] at hx
     rw [lt h1]
     exact (g.ok i x hx).mono (Same.refl _) (fun j hj=>lt hj) (Nat.le_succ _) fun u hu=>hu
   · rw [gR (Nat.not_lt.mp h1)] at hx
     have h2:i=ch.length:=by
      have:=(gX hx).1
      simp at this
      omega
     subst h2
     simp at hx
     subst hx
     rw [if_pos rfl]
     exact ⟨ys,b.hD,b.rel.mono (Same.refl _) (fun j hj=>lt hj) (Nat.le_succ _)⟩
 · rw [lt (Nat.lt_of_lt_of_le hi b.adv.len)]
   exact b.adv.ext i hi
 · simp only [List.length_append,List.length_cons,List.length_nil] at h2
   by_cases h3:i=ch.length
   · rw [if_pos h3];exact hD1
   · rw [if_neg h3];exact b.adv.fr i h1 (by omega)
end
section
variable {X:Cx} {elt tg iter:Expr} {ifs:List Expr} {scope:Scope} {pos:Pos} {M:List Str} {src:List (Option Nat)} {fi:De->Option (List Dt)} {ft:De->Option Bool} {fe:Fg}
def ny {ts:List Nat} {bb:Dt->De->Option De} (hts:(ts.all fun k=>decide (src[k]?=some none))=true):∀ (σ:St) (H:Hp) (Q:VK),tG X.K (eh src fi ts bb ft fe) σ H Q->kA src (tIF X.K fi) (gD X.K ts bb) (tTr X.K ft) (tG X.K fe) σ H Q:=fun σ H Q ⟨δ,ch,F,ρ,c,ch',en,hf,k⟩=>by
 unfold eh at hf
 obtain ⟨ds,hd,hf1⟩:=bS hf
 obtain ⟨⟨all,ch2⟩,ha,hf2⟩:=bS hf1
 clear hf hf1
 split at hf2<;>first | (cases hf2;done) | skip
 rename_i hz
 cases hf2
 have hz:all.length<=sizeLine:=hz
 rw [m4]
 refine ⟨_,_,F,ds,rfl,en.en,hd,fun J ok H1 F1 st1 wd ho D hD=>?_⟩
 have a1:=Adv.of en.gh st1
 have en1:=en.adv a1
 have k1:=k.adv en.gh a1
 have wk:∀ {σ2:St},σ2.length=(stC src σ).length->(∀ j,j∉ts->σ2[j]?=(stC src σ)[j]?)->Wk (stC src σ) σ2:=fun {σ2} h1 h2=>by
  refine ⟨h1.symm,fun j v hj=>?_⟩
  by_cases hm:j∈ts
  · have:=List.all_eq_true.mp hts j hm
    have hn:src[j]?=some none:=of_decide_eq_true this
    obtain ⟨i,e,_⟩:=oI hj
    rw [hn] at e
    cases e
  · rw [h2 j hm]
    exact hj
 refine kL (n:=ds.length) (fun i H=>∃ F ρ' c' ys done rest',Bd X.K F1 H1 ρ ch D F H ρ' c' done ys/\dr ts bb ft fe (gC src δ) (ds.drop i) c'=some (rest',ch2)/\done++rest'=all) ?_ ?_ ?_ ?_
 · refine ⟨F1,ρ,ch,[],[],all,⟨Adv.of en1.gh (Step.made en1.gh.fh hD),aB,en1.gh.fh.free hD,fun i hi e=>?_,rfl⟩,by simpa using ha,rfl⟩
   obtain ⟨u,hu⟩:=en1.gh.at hi
   rw [e,hD] at hu
   cases hu
 · rintro i H' ⟨F',ρ',c',ys,done,rest',b,_⟩
   obtain ⟨p1,p2,_⟩:=wd i H' F' (ho H' (b.adv.old.trans b.adv.gh.fh)) b.adv.gh.fh b.adv.old
   exact ⟨p1,p2⟩
 · rintro i x H0' H' hi ⟨F0',ρ0,c0,ys,done,rest',b0,hgo,hall⟩ hy0
   obtain ⟨_,_,p3⟩:=wd i H0' F0' (ho H0' (b0.adv.old.trans b0.adv.gh.fh)) b0.adv.gh.fh b0.adv.old
   obtain ⟨d,F',hd',stw,rd⟩:=p3 x H' hi hy0
   have b1:=b0.step en1.gh (Adv.of b0.adv.gh stw)
   have en2:=(en1.adv b1.adv).comp (src:=src)
   rw [hX hd'] at hgo
   unfold dr at hgo
   obtain ⟨δ1,h1,hgo1⟩:=bS hgo
   obtain ⟨bo,h2,hgo2⟩:=bS hgo1
   clear hgo hgo1
   refine ⟨_,_,F',d,δ1,rfl,en2.en,rd,h1,fun σ2 l2 k2 e2=>⟨wk l2 k2,?_⟩⟩
   have en3:=en2.mg rfl l2 k2 e2
   refine ⟨_,_,F',bo,rfl,en3.en,h2,fun H3 F3 st3=>?_⟩
   have b3:=b1.step en1.gh (Adv.of b1.adv.gh st3)
   have en4:=en3.adv (Adv.of b1.adv.gh st3)
   dsimp only
   split at hgo2
   · rename_i q
     rw [if_pos q]
     obtain ⟨⟨y,c4⟩,hy,hgo3⟩:=bS hgo2
     obtain ⟨⟨zs,c5⟩,hzs,hgo4⟩:=mS hgo3
     cases hgo4
     refine ⟨_,_,F3,ρ0,y,c4,en4,hy,fun v F4 H4 ρ4 a4 rv=>?_⟩
     have b4:=b3.step en1.gh a4
     refine ⟨ys,b4.hD,?_,F4,ρ4,c4,ys++[v],done++[y],zs,b4.more hD rv,hzs,by rw [<- hall];simp⟩
     have e1:=b4.rel.length
     have e2:all.length=done.length+(zs.length+1):=by rw [<- hall];simp
     omega
   · rename_i q
     rw [if_neg q]
     exact ⟨F3,ρ0,c0,ys,done,rest',b3,hgo2,hall⟩
 · rintro H' ⟨F',ρ',c',ys,done,rest',b,hgo,hall⟩
   rw [List.drop_length] at hgo
   cases hgo
   rw [List.append_nil] at hall
   subst hall
   refine k1 (.ref D) F' H' _ (b.fin hD) ⟨by simp,?_⟩
   dsimp only
   rw [if_pos rfl]
def ql {ts:List Nat} {bb:Dt->De->Option De} (S:CmpScope X.N X.env.scope scope M src) (hc:X.calm=true) (hi:DIF X tg iter fi) (hg:M.Nodup->∀ C s H ex,DG (cxC X M scope C s H ex) tg ts bb)
  (ht:∀ C s H ex,DTs (cxC X M scope C s H ex) ifs ft) (he:∀ C s H ex,GE (cxC X M scope C s H ex) elt fe) (hts:(ts.all fun k=>decide (src[k]?=some none))=true) (hs:∀ x,foldedSetIterable iter X.env x=pure x:=by intro _;rfl) :
  GE X (.ListComp elt [⟨tg,iter,ifs,0⟩] scope pos) (eh src fi ts bb ft fe):=PE.mono (mZ (g:=gD X.K ts bb) (tt:=tTr X.K ft) (te:=tG X.K fe) S hc hi (fun nd C s H ex=>hg nd C s H ex) (fun C s H ex=>ht C s H ex) (fun C s H ex=>he C s H ex) hs) (ny hts)
end
def nz:Key->Dt
 | .inl i=>.int i
 | .inr x=>.str x
def vV {K:PySem.W.Frag} {F:Hp} (k:Key):Rep K F (nz k) (kV k):=by
 cases k with
 | inl i=>exact jd
 | inr x=>exact je
section
variable {K:PySem.W.Frag} {F H F' H' F1 H1:Hp} {ρ ρ' ρ1:Nat->Addr} {ch ch' ch1:CH} {i:Nat} {l:List (Key×CV)} {kvs:List (Key×V)} {ob:Obj}
end
section
variable {X:Cx} {tg d:Expr} {body:List Stmt} {fd:Fg} {g:Fs} {pos:Pos}
end
noncomputable def fN:List (Fg×Fg)->Sl->CH->Option (List (Key×CV)×CH)
 | [],_,ch=>some ([],ch)
 | (fk,fv)::r,δ,ch=>(fk δ ch).bind fun p=>match p.1 with
  | .dat d=>(fG d).bind fun k=>(fv δ p.2).bind fun q=>(fN r δ q.2).map fun z=>((k,q.1)::z.1,z.2)
  | _=>none
noncomputable def nA (fps:List (Fg×Fg)):Fg:=fun δ ch=>(fN fps δ (ch++[.dK []])).bind fun p=>match p.2[ch.length]? with
 | some (.dK [])=>if p.1.length<=15/\(p.1.map (·.1)).Nodup then some (.ref ch.length,p.2.set ch.length (.dK p.1)) else none
 | _=>none
section
variable {X:Cx} {pos:Pos} {σ:St} {δ:Sl}
def la {K:PySem.W.Frag}:∀ {fps:List (Fg×Fg)} {ch ch':CH} {F H:Hp} {ρ:Nat->Addr} {ps:List (Key×CV)} {Q:List (V×V)->Hp->Prop},Ge K δ ch σ F H ρ->fN fps δ ch=some (ps,ch')→
  (∀ (qs:List (Key×V)) F' H' ρ',Adv K F H ρ ch F' H' ρ' ch'->qs.map (·.1)=ps.map (·.1)->RelCs K F' ρ' ch'.length (ps.map (·.2)) (qs.map (·.2))->Q (qs.map fun kv=>(kV kv.1,kv.2)) H')->lR (fps.map fun p=>(tG K p.1,tG K p.2)) σ H Q
 | [],ch,ch',F,H,ρ,ps,Q,en,h,k=>by
  cases h
  exact k [] F H ρ (Adv.refl en.gh) rfl rfl
 | (fk,fv)::r,ch,ch',F,H,ρ,ps,Q,en,h,k=>by
  simp only [fN] at h
  obtain ⟨⟨c1,ch1⟩,hp,h1⟩:=bS h
  dsimp only at h1
  split at h1<;>first | (cases h1;done) | skip
  rename_i d
  obtain ⟨kk,hk,h2⟩:=bS h1
  obtain ⟨⟨c2,ch2⟩,hq,h3⟩:=bS h2
  obtain ⟨⟨z,ch3⟩,hz,h4⟩:=mS h3
  cases h4
  refine ⟨δ,ch,F,ρ,_,ch1,en,hp,fun v F1 H1 ρ1 a1 r1=>⟨δ,ch1,F1,ρ1,c2,ch2,en.adv a1,hq,fun w F2 H2 ρ2 a2 r2=>?_⟩⟩
  have en2:=(en.adv a1).adv a2
  have a12:=a1.trans en.gh a2
  refine la en2 hz fun qs F3 H3 ρ3 a3 e1 r3=>?_
  have hv:=dR hk r1
  subst hv
  exact k ((kk,w)::qs) F3 H3 ρ3 (a12.trans en.gh a3) (by simp [e1]) ⟨w,_,rfl,r2.mono a3.old a3.ext a3.len,r3⟩
def oX {qs:List (Key×V)} (h:(qs.map (·.1)).Nodup):fT [] qs=qs:=by
 have:∀ (ps kvs:List (Key×V)),fT kvs ps=ci kvs ps:=fun ps=>by
  induction ps with
  | nil=>intro kvs;rfl
  | cons p ps ih=>intro kvs;exact ih _
 rw [this,fL (by simpa using h)]
 simp
def vW {keys:List (Option Expr)} {values:List Expr} {fps:List (Fg×Fg)} (h:PPs X pos keys values (fps.map fun p=>(tG X.K p.1,tG X.K p.2))) (hall:keys.all (·.isSome)=true) (hl:keys.length=values.length) (h0:keys≠[]) (h15:keys.length<=15) :
  GE X (.Dict keys values pos) (nA fps):=PE.mono (vi h hall hl h0 h15) fun σ H Q ⟨δ,ch,F,ρ,c,ch',en,hf,k⟩=>by
 unfold nA at hf
 obtain ⟨⟨ps,ch2⟩,hp,hf1⟩:=bS hf
 clear hf
 dsimp only at hf1
 split at hf1<;>first | (cases hf1;done) | skip
 rename_i hn
 split at hf1<;>first | (cases hf1;done) | skip
 rename_i hz
 cases hf1
 intro p hpn
 have a1:=gc (o:=.dK []) (u:=.dK []) en.gh hpn ⟨[],aB,rfl,rfl⟩
 have en1:=en.adv a1
 refine la en1 hp fun qs F' H' ρ' a2 e1 r2=>?_
 have hr:ρ' ch.length=p:=by rw [a2.ext ch.length (by simp)];simp
 obtain ⟨kvs,q1,q2,q3⟩:=a2.gh.ok _ _ hn
 have q2:kvs=[]:=by simpa using q2
 subst q2
 rw [hr] at q1
 have e3:fT [] qs=qs:=oX (by rw [e1];exact hz.2)
 have hlen:qs.length=ps.length:=by simpa using congrArg List.length e1
 refine ⟨q1,qs,rfl,by rw [hlen];exact hz.1,?_⟩
 rw [e3]
 have hi:ch.length<ch2.length:=(gX hn).1
 have a3:=Adv.upd (o:=.dK ps) (u:=.dK qs) (w:=.dK []) a2.gh hi (by rw [hr];exact q1) (fun _ _ z=>nomatch z) ⟨qs,aB,e1,r2⟩
 rw [hr] at a3
 refine k (.ref p) F' _ ρ' ((a1.trans en.gh a2).trans en.gh a3) ⟨by simpa using hi,by rw [hr]⟩
end
section
variable {X:Cx} {o:Expr} {fa:Fg} {pos apos cpos:Pos}
def lb (fa:Fg):Fs:=fun δ ch=>(fa δ ch).bind fun p=>match p.1 with
 | .ref i=>match p.2[i]? with
  | some (.lst _)=>some (.nx δ (p.2.set i (.lst [])))
  | _=>none
 | _=>none
def nB (hx:GE X o fa) (hbase:attributeBase o "clear" X.env (eval o X.env)=eval o X.env:=by rfl) (hline:(apos.endLine==cpos.line)=true:=by rfl)
  (hsw:swapsWith (.Call (.Attribute o "clear" apos) [] [] cpos) none pos.line X.env=pure false:=by rfl) :
  GS1 X (.Expr (.Call (.Attribute o "clear" apos) [] [] cpos) pos) (lb fa):=
 PS.mono (i6 (xP PySem.F.plainAttrs_list PySem.F.slot_list_clear PySem.F.type_list_clear sw hx hbase hline) hsw) fun D σ H ⟨δ,ch,F,ρ,og,en,hg,k⟩=>by
  unfold lb at hg
  obtain ⟨⟨c1,ch1⟩,hp,hg1⟩:=bS hg
  clear hg
  dsimp only at hg1
  split at hg1<;>first | (cases hg1;done) | skip
  rename_i i
  split at hg1<;>first | (cases hg1;done) | skip
  rename_i l h0
  cases hg1
  refine ⟨δ,ch,F,ρ,_,ch1,en,hp,fun v F1 H1 ρ1 a1 r1=>?_⟩
  obtain ⟨vs,q1,q2⟩:=a1.gh.ok i _ h0
  obtain ⟨hi,rfl⟩:=r1
  refine ⟨.inl ⟨rfl,vs,.inl (.inl q1)⟩,_,vs,rfl,rfl,q1,?_⟩
  have a3:=Adv.upd (o:=.lst []) (u:=.lst []) a1.gh hi q1 (fun _ _ z=>nomatch z) ⟨[],aB,rfl⟩
  have a:=a1.trans en.gh a3
  exact k σ F1 _ ρ1 a (en.adv a)
end
section
variable {X:Cx} {elt tg iter:Expr} {ifs:List Expr} {scope:Scope} {pos:Pos} {M:List Str} {src:List (Option Nat)} {fi:De->Option (List Dt)} {ft:De->Option Bool} {fe:De->Option Dt} {fg:Fg} {i:Nat}
def tR {sc:Scope} {N:List Str} {y:Str} {py spos:Pos} {ts:List Nat} {bb:Dt->De->Option De} (h:fA sc N i y=true) (hl:jy sc y=true) (nd:N.Nodup) (S:CmpScope X.N X.env.scope scope M src) (hc:X.calm=true) (hi:DIF X tg iter fi) (hg:M.Nodup->∀ C s H ex,DG (cxC X M scope C s H ex) tg ts bb)
  (ht:∀ C s H ex,DTs (cxC X M scope C s H ex) ifs ft) (he:∀ C s H ex,GE (cxC X M scope C s H ex) elt fg) (hts:(ts.all fun k=>decide (src[k]?=some none))=true) (hs:∀ x,foldedSetIterable iter X.env x=pure x:=by intro _;rfl)
  (e1:cW X sc:=by rfl) (e2:X.N=N:=by rfl) (hf:X.fn y=true∨X.env.scope.names.lookup y=some .local:=by exact .inl rfl) (hsw:swapsWith (.ListComp elt [⟨tg,iter,ifs,0⟩] scope pos) (some (.Name y py)) spos.line X.env=pure true:=by rfl) :
  GS1 X (.Assign [.Name y py] (.ListComp elt [⟨tg,iter,ifs,0⟩] scope pos) spos) (bO i (eh src fi ts bb ft fg)):=by
 have e1:X.env.scope=sc:=e1
 subst e1 e2
 refine PS.mono (qg (g:=gD X.K ts bb) (tt:=tTr X.K ft) (te:=tG X.K fg) nd (iA h) (lT hl) hf S hc hi (fun nd C s H ex=>hg nd C s H ex) (fun C s H ex=>ht C s H ex) (fun C s H ex=>he C s H ex) hs hsw) fun D σ H ⟨δ,ch,F,ρ,o,en,hf',k⟩=>?_
 unfold bO at hf'
 obtain ⟨p,hp,hf1⟩:=mS hf'
 cases hf1
 refine ny hts σ H _ ⟨δ,ch,F,ρ,p.1,p.2,en,hp,fun v F' H' ρ' a r=>?_⟩
 exact k _ F' H' ρ' a ((en.adv a).put r i)
end
def vX {X:Cx} {pos:Pos}:PPs X pos [] [] (([]:List (Fg×Fg)).map fun p=>(tG X.K p.1,tG X.K p.2)):=vh
def ig {X:Cx} {pos:Pos} {k v:Expr} {ks:List (Option Expr)} {vs:List Expr} {fk fv:Fg} {fps:List (Fg×Fg)} (hk:GE X k fk) (hv:GE X v fv) (hr:PPs X pos ks vs (fps.map fun p=>(tG X.K p.1,tG X.K p.2))) :
  PPs X pos (some k::ks) (v::vs) (((fk,fv)::fps).map fun p=>(tG X.K p.1,tG X.K p.2)):=sE hk hv hr
def tT:Option Og->Option (CV×CH)
 | some (.rt c ch')=>some (c,ch')
 | some (.nx _ ch')=>some (.dat .non,ch')
 | _=>none
def bV {m:Nat} {g:Fs} {cs:List CV} {ch:CH}:dB m g cs ch=tT (g (cs.map some++List.replicate (m-cs.length) none) ch):=rfl
def nC (o:Option Og) (g:Fs):Option Og:=o.bind fun o=>match o with
 | .nx δ' ch'=>g δ' ch'
 | o=>some o
def aC {g1 g2:Fs} {δ:Sl} {ch:CH}:aI g1 g2 δ ch=nC (g1 δ ch) g2:=rfl
def ax {g:Fs} {δ:Sl} {ch:CH}:nC (some (.nx δ ch)) g=g δ ch:=rfl
def tU {g:Fs} {c:CV} {ch:CH}:nC (some (.rt c ch)) g=some (.rt c ch):=rfl
def qm {α:Type} (b:Option (Bool×CH)) (f g:Sl->CH->Option α) (δ:Sl):Option α:=b.bind fun p=>if p.1 then f δ p.2 else g δ p.2
def gZ {c:Ft} {g1 g2:Fs} {δ:Sl} {ch:CH}:fJ c g1 g2 δ ch=qm (c δ ch) g1 g2 δ:=rfl
def vY {α:Type} {f g:Sl->CH->Option α} {δ:Sl} {ch:CH}:qm (some (true,ch)) f g δ=f δ ch:=rfl
def vZ {α:Type} {f g:Sl->CH->Option α} {δ:Sl} {ch:CH}:qm (some (false,ch)) f g δ=g δ ch:=rfl
def ii {α:Type} {f g:Sl->CH->Option α} {δ:Sl} {ch:CH} {b:Bool} (h:b=true):qm (some (b,ch)) f g δ=f δ ch:=by subst h;rfl
def oY {f:Fg} {δ:Sl} {ch:CH} {b:Bool} {ch':CH} (h:f δ ch=some (.dat (.bl b),ch')):nt f δ ch=some (b,ch'):=by unfold nt;rw [h];rfl
def oZ {δ:Sl} {ch:CH} {i:Nat} {d:Dt} (h:δ[i]?=some (some (.dat d))):(lo δ ch)[i]?=some (some (.leaf d)):=by
 have key:∀ (δ:Sl) (u:List Nat) (i:Nat),δ[i]?=some (some (.dat d))->(loA ch u δ)[i]?=some (some (.leaf d)):=fun δ=>by
  induction δ with
  | nil=>intro u i h;simp at h
  | cons x r ih =>
   intro u i h
   cases i with
   | zero =>
    simp only [List.getElem?_cons_zero,Option.some.injEq] at h
    subst h
    rfl
   | succ i =>
    have h':r[i]?=some (some (.dat d)):=by simpa using h
    cases x with
    | none=>simpa [loA] using ih u i h'
    | some c=>cases c with
     | dat e=>simpa [loA] using ih u i h'
     | ref j=>simpa [loA] using ih (j::u) i h'
 exact key δ [] i h
def aK {δ:Sl} {ch:CH} {i:Nat} {d:Dt} (h:δ[i]?=some (some (.dat d))):vL i (lo δ ch)=some d:=by unfold vL;rw [oZ h]
def dw {δ:Sl} {ch:CH} {i:Nat} {d:Dt} (h:δ[i]?=some (some (.dat d))):vB i (lo δ ch)=some d:=by unfold vB;rw [oZ h];rfl
def tV {α:Type} {l:List α} {i:Nat} {a:α} (h:l[i]?=some a):l.set i a=l:=by
 apply List.ext_getElem?
 intro j
 rw [List.getElem?_set]
 split
 · rename_i e
   subst e
   have:=(gX h).1
   rw [if_pos this]
   exact h.symm
 · rfl
def aR {ch:CH} {o:CO}:(ch++[o])[ch.length]?=some o:=by simp
section
variable {X:Cx}
def zx (K:PySem.W.Frag) (n:Nat) (t:TGs):TG:=fun v σ H Q=>∃ a xs,v=.ref a/\SqL K H a xs/\xs.length=n/\t xs σ H Q
def yu {es:List Expr} {k:Nat} {t:TGs} {n:Nat} {pos:Pos} (hc:X.calm=true) (h:PGs X es t)
  (hn:(assignEach es X.env).length=n:=by rfl) (hst:(assignEach es X.env).findIdx? (·.1)=none:=by rfl):PG X (.Tuple es k pos) (zx X.K n t):=by
 intro pins s σ H v u Q I r hw
 obtain ⟨a,xs,e1,hq,hl,hw⟩:=hw
 subst e1
 cases r
 obtain ⟨its,rv,ht,hz⟩:=I.list hq
 rw [assign_Tuple]
 refine wB (wpAny_standAt ?_)
 unfold unpack
 rw [show (assignEach es X.env).length=its.toArray.size by simp [hn,<- hl,rv.length],hst]
 refine wB (wpAny_holding (PySem.W.kun_itemsOf (I.ok.hd hc) ht.isList fun h' hx=>?_))
 have I1:Inv X pins σ H {s with heap:=h'}:=I.kept (t':=s.toks) fun b o e=>hx b o (Nat.ne_of_lt (Heap.lt_size e)) e
 exact h pins _ σ H xs _ Q I1 (by simpa using rv) hw
end
def de (sc:Scope) (N:List Str):Bool:=(List.range N.length).all fun i=>match N[i]? with
 | some x=>fA sc N i x&&jy sc x
 | none=>false
def nsB {sc:Scope} {N:List Str} {i:Nat} {x:Str} (h:de sc N=true) (e:N[i]?=some x):fA sc N i x=true/\jy sc x=true:=by
 have h1:=List.all_eq_true.mp h i (List.mem_range.mpr (gX e).1)
 rw [e] at h1
 exact Bool.and_eq_true_iff.mp h1
def nsN {sc:Scope} {N:List Str} (h:de sc N=true) (i:Nat) {x:Str} (e:N[i]?=some x:=by rfl):fA sc N i x=true:=(nsB h e).1
def nsL {sc:Scope} {N:List Str} (h:de sc N=true) (i:Nat) {x:Str} (e:N[i]?=some x:=by rfl):jy sc x=true:=(nsB h e).2
def pvN {X:Cx} {sc:Scope} {N:List Str} {x:Str} {pos:Pos} (i:Nat) (h:de sc N=true) (e:N[i]?=some x:=by rfl) (e1:cW X sc:=by rfl) (e2:X.N=N:=by rfl):PE X (.Name x pos) (mM i):=pvD i (nsN h i e) e1 e2
def qo:∀ a b:List Nat,ltCps a b=false->ltCps b a=false->a=b
 | [],[],_,_=>rfl
 | [],_::_,h,_=>by simp [ltCps] at h
 | _::_,[],_,h=>by simp [ltCps] at h
 | x::r,y::t,h,h'=>by
  simp only [ltCps,Bool.or_eq_false_iff,decide_eq_false_iff_not,Bool.and_eq_false_imp,beq_iff_eq] at h h'
  have e:x=y:=by omega
  subst e
  rw [qo r t (h.2 rfl) (h'.2 rfl)]
def qp:∀ a b:List Nat,ltCps a b=true->ltCps b a=false
 | [],[],h=>by simp [ltCps] at h
 | [],_::_,_=>rfl
 | _::_,[],h=>by simp [ltCps] at h
 | x::r,y::t,h=>by
  simp only [ltCps,Bool.or_eq_true,decide_eq_true_eq,Bool.and_eq_true,beq_iff_eq] at h
  simp only [ltCps,Bool.or_eq_false_iff,decide_eq_false_iff_not,Bool.and_eq_false_imp,beq_iff_eq]
  rcases h with h | ⟨rfl,h⟩
  · exact ⟨by omega,fun e=>by omega⟩
  · exact ⟨by omega,fun _=>qp r t h⟩
def lc:∀ a b c:List Nat,ltCps b a=false->ltCps c b=false->ltCps c a=false
 | [],b,c,h1,h2=>by
  cases b with
  | nil=>exact h2
  | cons y t =>
   cases c with
   | nil=>simp [ltCps] at h2
   | cons z u=>rfl
 | x::r,[],c,h1,h2=>by simp [ltCps] at h1
 | x::r,y::t,[],h1,h2=>by simp [ltCps] at h2
 | x::r,y::t,z::u,h1,h2=>by
  simp only [ltCps,Bool.or_eq_false_iff,decide_eq_false_iff_not,Bool.and_eq_false_imp,beq_iff_eq] at h1 h2 ⊢
  refine ⟨by omega,fun e=>?_⟩
  subst e
  have e:y=z:=by omega
  subst e
  exact lc r t u (h1.2 rfl) (h2.2 rfl)
def leS (a b:Str):Bool:=!ltCps b.cps.toList a.cps.toList
def leS_iff {a b:Str}:leS a b=true↔ltCps b.cps.toList a.cps.toList=false:=by simp [leS]
def ld (a b c:Str) (h:leS a b=true) (h':leS b c=true):leS a c=true:=leS_iff.mpr (lc _ _ _ (leS_iff.mp h) (leS_iff.mp h'))
def rj (a b:Str):(leS a b||leS b a)=true:=by
 cases h:leS a b with
 | true=>rfl
 | false =>
  have h1:ltCps b.cps.toList a.cps.toList=true:=by simpa [leS] using h
  simp [leS_iff.mpr (qp _ _ h1)]
def tW {a b:Str} (h:leS a b=true) (h':leS b a=true):a=b:=by
 have e:=qo _ _ (leS_iff.mp h') (leS_iff.mp h)
 cases a with
 | mk a=>cases b with
  | mk b=>simp only at e;rw [Array.toList_inj.mp e]
def ij (ss:List Str):List Str:=ss.mergeSort leS
def g5 (ss:List Str):(ij ss).Perm ss:=List.mergeSort_perm ss leS
def tX (ss:List Str):(ij ss).Pairwise fun a b=>leS a b=true:=List.pairwise_mergeSort ld rj ss
def lg:∀ (p:Str) (l:List Str),risingS p l=true->(p::l).Pairwise fun a b=>leS a b=true
 | p,[],_=>by simp
 | p,x::r,h=>by
  simp only [risingS,Bool.and_eq_true] at h
  have ih:=lg x r h.2
  have h1:leS p x=true:=h.1
  refine List.pairwise_cons.mpr ⟨fun y hy=>?_,ih⟩
  rcases List.mem_cons.mp hy with rfl | hy
  · exact h1
  · exact ld _ _ _ h1 ((List.pairwise_cons.mp ih).1 y hy)
def rl:∀ l:List Str,sortedS l=true->l.Pairwise fun a b=>leS a b=true
 | [],_=>List.Pairwise.nil
 | x::r,h=>lg x r h
def lh:∀ {a b:List Str},a.Perm b->(a.Pairwise fun a b=>leS a b=true)->(b.Pairwise fun a b=>leS a b=true)->a=b
 | [],_,p,_,_=>p.nil_eq
 | x::r,b,p,ha,hb=>by
  cases b with
  | nil=>exact absurd p.length_eq (by simp)
  | cons y t =>
   have hx:x∈y::t:=p.mem_iff.mp (.head _)
   have hy:y∈x::r:=p.mem_iff.mpr (.head _)
   have e:x=y:=by
    rcases List.mem_cons.mp hx with h | h
    · exact h
    · rcases List.mem_cons.mp hy with h' | h'
      · exact h'.symm
      · exact tW ((List.pairwise_cons.mp ha).1 y h') ((List.pairwise_cons.mp hb).1 x h)
   subst e
   rw [lh (List.Perm.cons_inv p) (List.pairwise_cons.mp ha).2 (List.pairwise_cons.mp hb).2]
def jL:∀ {ss:List Str} {its:List Value},Vals (ss.map V.str) its->StrsAre its ss
 | [],_,h=>by cases h;exact .nil
 | x::ss,_,h=>by
  cases h with
  | cons h1 h2 =>
   obtain ⟨t,rfl⟩:=h1
   exact .cons x t (jL h2)
def lj:∀ {its:List Value} {ss:List Str},StrsAre its ss->Vals (ss.map V.str) its
 | _,_,.nil=>.nil
 | _,_,.cons x t h=>.cons ⟨t,rfl⟩ (lj h)
section
variable {X:Cx}
def mq:dL X (.builtin "sorted") (fun xs H Q=>∃ p ss,xs=[.ref p]/\SqL X.K H p (ss.map V.str)/\ss.length<64/\∀ l,H l=none->Q (.ref l) (upd H l (.lst ((ij ss).map V.str)))):=by
 intro pins s σ H xs us Q I r h
 obtain ⟨p,ss,rfl,hq,hz,q⟩:=h
 obtain ⟨u,rfl,rx⟩:=jq r
 cases rx
 obtain ⟨its,r',pl,hz'⟩:=I.list hq
 have hS:=jL r'
 have hlen:its.length=ss.length:=by have:=r'.length;simpa using this.symm
 refine sorted_strs pl.isList hS (by omega) fun out ss' a1 a2 a3=>?_
 have e:ss'=ij ss:=lh (a2.trans (g5 ss).symm) (rl ss' a3) (tX ss)
 subst e
 obtain ⟨c,hc⟩:=sortedAll_at s.heap its out
 refine ⟨.ref (s.heap.objs.size+1),_,I.laid (t':=s.toks) (fun _ _=>sortedAll_old) (Nat.le_succ _) (show ObjOk X.prog X.w _ _ _ (.lst ((ij ss).map V.str)) from ⟨?_,out.toList,c,lj a1,hc⟩),rfl,q _ (I.hok.fresh (Nat.le_succ _))⟩
 rw [List.length_map,(g5 ss).length_eq]
 exact Nat.le_trans (Nat.le_of_lt hz) (by decide)
def dD:List Dt->Option T
 | [.lst ds]=>(eU ds).bind fun ss=>if ss.length<64 then some (.lst ((ij ss).map .str)) else none
 | _=>none
def ll {K:PySem.W.Frag} {F:Hp}:∀ ss:List Str,Reps K F (ss.map .str) (ss.map V.str)
 | []=>by simp only [List.map_nil,Reps]
 | x::ss=>by
  simp only [List.map_cons,Reps]
  exact ⟨_,_,rfl,by simp only [Rep],ll ss⟩
def tY {K:PySem.W.Frag}:CRD K (fun xs H Q=>∃ p ss,xs=[.ref p]/\SqL K H p (ss.map V.str)/\ss.length<64/\∀ l,H l=none->Q (.ref l) (upd H l (.lst ((ij ss).map V.str)))) dD:=by
 intro F H ds vs Q t fh r hg k
 unfold dD at hg
 split at hg<;>first | (cases hg;done) | skip
 obtain ⟨ss,hs,hg⟩:=bS hg
 split at hg<;>cases hg
 rename_i hz
 obtain ⟨v,rfl,rv⟩:=eR r
 obtain ⟨a,vs,rfl,h1,h2⟩:=rv
 have:=iD h2 hs
 subst this
 exact ⟨a,ss,rfl,h1,hz,fun p hp=>gx k fh (ll _) hp⟩
end
def EntA (h:Heap) (d:Addr) (ks:List Value) (ep:Nat):Prop:=∃ o es,h.get? d=some o/\o.ExactDict/\o.data=.dict es ep/\es.toList.map (·.key)=ks
def EntA.upTo {h h':Heap} {d:Addr} {ks:List Value} {ep:Nat} (q:EntA h d ks ep) (k:∀ o,h.get? d=some o->h'.get? d=some o):EntA h' d ks ep:=let ⟨o,es,h1,r⟩:=q;⟨o,es,k o h1,r⟩
def EntA.ty {s:Shared} {d:Addr} {ks:List Value} {ep:Nat} (q:EntA s.heap d ks ep):s.TypeIs (.ref d) "dict":=let ⟨o,_,h1,h2,_⟩:=q;⟨o,h1,h2.1⟩
def EntA.lt {h:Heap} {d:Addr} {ks:List Value} {ep:Nat} (q:EntA h d ks ep):d<h.objs.size:=let ⟨_,_,h1,_⟩:=q;Heap.lt_size h1
section
variable {prog:Program} {w:World} {A:Around} {E:Value->Shared->Prop} {s:Shared} {d it:Addr} {ks:List Value} {i ep:Nat}
def nE {Q:Value->Shared->Prop} (lo:(d==sysModules)=false) (q:EntA s.heap d ks ep)
  (k:Q (.ref s.heap.objs.size) {s with heap:=s.heap.push {cls:=.type "dict_keyiterator",data:=.fields #[.ref d,.int 0 0,.int ks.length 0,.int ep 0]}}):wpAny (model prog w) A (pyIter (.ref d)) Q E s:=by
 obtain ⟨o,es,e1,e2,e3,e4⟩:=id q
 refine wpAny_pyIter_slot q.ty F.slot_dict_iter (wpAny_call_entry F.slot_dict_iter q.ty F.entry_dict_iter ?_ (F.args_dict_iter_1 _))
 unfold Builtin.«dict.__iter__»
 refine wB ?_
 unfold Builtin.Dict.dictSlotNone
 refine wB (wpAny_notOrdered_dict q.ty ?_)
 show wpAny _ _ (pure (Value.ref d)) _ _ s
 refine wpAny_pure ?_
 show wpAny _ _ (Builtin.Dict.showsAll d >>= _) _ _ s
 unfold Builtin.Dict.showsAll
 rw [if_neg (by rw [lo];exact Bool.false_ne_true)]
 refine wB (wpAny_pure ?_)
 refine wB (wpAny_dictEntries e1 e3 (wB (wpAny_dictEpoch e1 e3 ?_)))
 have ez:es.size=ks.length:=by rw [<- e4];simp
 refine wB (wpAny_newObj_type (wpAny_pure ⟨_,rfl,"dict_keyiterator",_,⟨_,Heap.get?_push_size _ rfl,rfl⟩,F.slot_dict_keyiterator_next.lookup,?_⟩))
 simpa [rawInt,ez] using k
def nF {key:Value} {Q:Option Value->Shared->Prop} (st:s.heap.IsKeyIter it d i ks.length ep) (q:EntA s.heap d ks ep) (hk:ks[i]?=some key)
  (k:∀ h',h'.IsKeyIter it d (i+1) ks.length ep->Heap.SameBut it s.heap h'->Q (some key) {s with heap:=h'}):wpAny (model prog w) A (pyNext (.ref it)) Q E s:=by
 obtain ⟨oi,i1,i2,i3⟩:=id st
 obtain ⟨o,es,e1,e2,e3,e4⟩:=id q
 unfold pyNext
 refine wB (wpAny_attempt (wpAny_callSpecial?_slot (name:=Str.ofString "__next__") st.typeIs F.slot_dict_keyiterator_next (wpAny_call_entry F.slot_dict_keyiterator_next st.typeIs F.entry_dict_keyiterator_next ?_ (F.args_dict_keyiterator_next_1 _))))
 refine wB (wpAny_pure (wB (wB ?_)))
 first | refine wB (wpAny_typeNameOfWhole_keyiter st.typeIs (wpAny_pure ?_)) | refine wB (wpAny_typeNameOf_keyiter st.typeIs (wpAny_pure ?_))
 refine wB (wpAny_fieldsOf i1 i3 ?_)
 have ow:Builtin.Dict_items.ownsTuple "dict_keyiterator"=false:=by decide
 simp only [ow,Bool.false_eq_true,if_false]
 show wpAny _ _ (if (Value.ref d==Value.none)=true then _ else _) _ _ s
 rw [if_neg (show ¬ ((Value.ref d==Value.none)=true) from Bool.false_ne_true)]
 refine wB (wpAny_pure (wB (wpAny_dictEntries e1 e3 ?_)))
 have ez:es.size=ks.length:=by rw [<- e4];simp
 rw [if_neg (by rw [ez];simp)]
 refine wB (wpAny_pure (wB (wpAny_dictEpoch e1 e3 ?_)))
 rw [if_neg (by simp)]
 refine wpAny_pure ?_
 have li:i<es.size:=by rw [ez];exact (gX hk).1
 have hkey:es[i].key=key:=by
  rw [<- e4,List.getElem?_map,Array.getElem?_toList,Array.getElem?_eq_getElem li] at hk
  exact Option.some.inj hk
 simp only [show ¬ ((i:Int)<0) from by omega,if_false,Int.toNat_natCast,Array.getElem?_eq_getElem li]
 refine wB ?_
 first | refine wB (wpAny_typeNameOfWhole_keyiter st.typeIs (wpAny_pure ?_)) | refine wB (wpAny_typeNameOf_keyiter st.typeIs (wpAny_pure ?_))
 refine wB (wpAny_isOneOf_keyiter st.typeIs ?_)
 show wpAny _ _ (setField (.ref it) 1 (rawInt ((i:Int)+1)) >>= _) _ _ s
 refine wpAny_bind (wpAny_setField i1 i3 (by simp) ?_)
 have st':(s.heap.update it (Obj.mapFields (·.setIfInBounds 1 (rawInt ((i:Int)+1))))).IsKeyIter it d (i+1) ks.length ep:=
  ⟨_,Heap.get?_update_self _ i1 (Obj.isFreed_of_fields (Obj.data_mapFields i3 _)),(Obj.cls_mapFields ..).trans i2,by rw [Obj.data_mapFields i3];simp [rawInt]⟩
 refine wB (wpAny_holding (wB (wpAny_isOneOf_keyiter (s:={s with heap:=s.heap.update it (Obj.mapFields (·.setIfInBounds 1 (rawInt ((i:Int)+1))))}) st'.typeIs ?_)))
 show wpAny _ _ (pure es[i].key) _ _ _
 rw [hkey]
 exact wpAny_pure (wpAny_pure ⟨_,rfl,wpAny_pure (k _ st' (Heap.SameBut.update ..))⟩)
def qq {Q:Option Value->Shared->Prop} (nh:A.handled=none) (st:s.heap.IsKeyIter it d i ks.length ep) (q:EntA s.heap d ks ep) (hi:i=ks.length)
  (k:∀ h',Heap.ExtBut it s.heap h'->Q none {s with heap:=h'}):wpAny (model prog w) A (pyNext (.ref it)) Q E s:=by
 obtain ⟨oi,i1,i2,i3⟩:=id st
 obtain ⟨o,es,e1,e2,e3,e4⟩:=id q
 unfold pyNext
 refine wB (wpAny_attempt (wpAny_callSpecial?_slot (name:=Str.ofString "__next__") st.typeIs F.slot_dict_keyiterator_next (wpAny_call_entry F.slot_dict_keyiterator_next st.typeIs F.entry_dict_keyiterator_next ?_ (F.args_dict_keyiterator_next_1 _))))
 refine wB (wpAny_pure (wB (wB ?_)))
 first | refine wB (wpAny_typeNameOfWhole_keyiter st.typeIs (wpAny_pure ?_)) | refine wB (wpAny_typeNameOf_keyiter st.typeIs (wpAny_pure ?_))
 refine wB (wpAny_fieldsOf i1 i3 ?_)
 have ow:Builtin.Dict_items.ownsTuple "dict_keyiterator"=false:=by decide
 simp only [ow,Bool.false_eq_true,if_false]
 show wpAny _ _ (if (Value.ref d==Value.none)=true then _ else _) _ _ s
 rw [if_neg (show ¬ ((Value.ref d==Value.none)=true) from Bool.false_ne_true)]
 refine wB (wpAny_pure (wB (wpAny_dictEntries e1 e3 ?_)))
 have ez:es.size=ks.length:=by rw [<- e4];simp
 rw [if_neg (by rw [ez];simp)]
 refine wB (wpAny_pure (wB (wpAny_dictEpoch e1 e3 ?_)))
 rw [if_neg (by simp)]
 refine wpAny_pure ?_
 have ge:es.size<=i:=by rw [ez];omega
 simp only [show ¬ ((i:Int)<0) from by omega,if_false,Int.toNat_natCast,Array.getElem?_eq_none ge]
 refine wB ?_
 first | refine wB (wpAny_typeNameOfWhole_keyiter st.typeIs (wpAny_pure ?_)) | refine wB (wpAny_typeNameOf_keyiter st.typeIs (wpAny_pure ?_))
 show wpAny _ _ (setField (.ref it) 0 .none >>= _) _ _ s
 refine wpAny_bind (wpAny_setField i1 i3 (by simp) ?_)
 show wpAny _ _ (newExc (.type "StopIteration") [] >>= _) _ _ _
 refine wB ?_
 simp only [newExc,newTuple]
 refine wB (wpAny_newObj_type ?_ (by size_fits))
 refine wpAny_bind (m:=firstArgMember _ _) (wpAny_of_eq (a:=Value.none) (by first | rfl | (simp only [firstArgMember];rfl)) (wpAny_newObj_type ?_ (by size_fits)))
 simp only [raiseNew]
 refine wB (wpAny_handled ?_)
 rw [show A.in1.handled=none from nh]
 refine wB (wpAny_pure (wpAny_throw ?_))
 refine wB (wpAny_isInstance (b:=true) (T:="StopIteration") ⟨_,Heap.get?_push_size _ rfl,rfl⟩ isSubtype_stop ?_)
 exact wpAny_pure (k _ (((Heap.SameBut.update ..).extBut.push _).push _))
def rm (nh:A.handled=none) (hne:d≠it):Walks prog w A it [it,d] [it] ks.length (fun i v=>ks[i]?=some v) (fun i h=>h.IsKeyIter it d i ks.length ep/\EntA h d ks ep) where
 sub:=fun b hb=>by simp at hb;simp [hb]
 frame:=fun _ _ _ st hk=>⟨let ⟨o,h1,r⟩:=st.1;⟨o,hk it (by simp) o h1,r⟩,st.2.upTo fun o e=>hk d (by simp) o e⟩
 item:=fun i s Q E hi st hQ=>nF st.1 st.2 (key:=ks[i]) (by simp [hi]) fun h' st' sb=>hQ _ h' s.toks (by simp [hi]) ⟨st',st.2.upTo fun o e=>sb.extBut d o hne e⟩ fun b o hb e=>sb.extBut b o (fun z=>hb (by simp [z])) e
 done:=fun s Q E st hQ=>qq nh st.1 st.2 rfl fun h' eb=>hQ h' s.toks fun b o hb e=>eb b o (fun z=>hb (by simp [z])) e
 self:=fun _ _ _ _ st hQ=>wpAny_pyIter_keyiter st.1 hQ
def v0 (lo:(d==sysModules)=false):PySem.W.KdlSrc prog w "dict" d d ks.length (fun i v=>ks[i]?=some v) (fun h=>EntA h d ks ep) where
 type:=fun _ q=>q.ty
 there:=fun _ q=>⟨q.lt,q.lt⟩
 keep:=fun _ _ q hk=>q.upTo fun o e=>hk d (.inl rfl) o e
 notList:=by decide
 notTuple:=by decide
 hint:=fun _ _ _ _ q hq=>PySem.W.kdl_hint_dict q.ty hq
 iter:=fun _ _ nh q=>⟨_,_,(fun _ _ hq=>nE lo q hq),rm nh (Nat.ne_of_lt q.lt),⟨⟨_,Heap.get?_push_size _ rfl,rfl,rfl⟩,q.upTo fun o e=>gP _ e⟩⟩
end
def cT (ks:List Key):Dt:=.tup (ks.map nz)
def lm {K:PySem.W.Frag} {F:Hp}:∀ ks:List Key,Reps K F (ks.map nz) (ks.map kV)
 | []=>by simp only [List.map_nil,Reps]
 | k::ks=>by
  simp only [List.map_cons,Reps]
  exact ⟨_,_,rfl,vV k,lm ks⟩
def nG {K:PySem.W.Frag} {F:Hp} {b:Addr} {ks:List Key} (h:F b=some (.tup (ks.map kV))):Rep K F (cT ks) (.ref b):=by
 unfold cT
 simp only [Rep]
 exact ⟨b,_,rfl,SqT.of h,lm ks⟩
section
variable {K:PySem.W.Frag} {F H:Hp} {ρ:Nat->Addr} {ch:CH}
def Gh.frzT (g:Gh K F H ρ ch) {b:Addr} {vs:List V} (hb:H b=some (.tup vs)):Adv K F H ρ ch (upd F b (.tup vs)) H ρ ch:=by
 have sm:Same F (upd F b (.tup vs)):=fun x o e=>by
  by_cases hx:x=b
  · subst hx
    have:=g.fh _ _ e
    rw [hb] at this
    rw [aB,this]
  · rw [aG hx]
    exact e
 refine ⟨⟨fun x o e=>?_,g.inj,fun i hi=>?_,fun i o h=>(g.ok i o h).mono sm (fun _ _=>rfl) (nL _) fun u hu=>hu⟩,nL _,fun _ _=>rfl,fun i h1 h2=>absurd h2 (Nat.not_lt.mpr h1),fun _ _ h _=>h,sm,fun x o e=>?_,fun _ _ _ h=>h⟩
 · by_cases hx:x=b
   · subst hx
     rw [aB] at e
     cases e
     exact hb
   · rw [aG hx] at e
     exact g.fh x o e
 · by_cases hx:ρ i=b
   · rw [hx,aB]
     exact .inr ⟨vs,rfl⟩
   · rw [aG hx]
     exact g.out i hi
 · by_cases hx:x=b
   · subst hx
     rw [aB] at e
     cases e
     exact .inr (.inr ⟨vs,rfl⟩)
   · rw [aG hx] at e
     exact .inl e
def Gh.frzTs (g:Gh K F H ρ ch):∀ (bs:List Addr) (ws:List (List V)),bs.length=ws.length->(∀ (j:Nat) (b:Addr) (vs:List V),bs[j]?=some b->ws[j]?=some vs->H b=some (.tup vs))→
  ∃ F',Adv K F H ρ ch F' H ρ ch/\∀ (j:Nat) (b:Addr) (vs:List V),bs[j]?=some b->ws[j]?=some vs->F' b=some (.tup vs)
 | [],ws,_,_=>⟨F,Adv.refl g,fun j b vs h=>by simp at h⟩
 | b::bs,[],h,_=>by cases h
 | b::bs,w::ws,hl,h=>by
  obtain ⟨F',a,h1⟩:=Gh.frzTs g bs ws (by simpa using hl) fun j b vs p q=>h (j+1) b vs (by simpa using p) (by simpa using q)
  have hb:=h 0 b w rfl rfl
  refine ⟨_,a.trans g (a.gh.frzT hb),fun j b' vs p q=>?_⟩
  cases j with
  | zero =>
   simp at p q
   subst p q
   exact aB
  | succ j=>exact (a.gh.frzT hb).old _ _ (h1 j b' vs (by simpa using p) (by simpa using q))
end
noncomputable def ItkT (a:Addr) (o:Obj) (kvs:List (List Key×V)):It where
 go:=fun i H=>H a=some (.frz o (.dT kvs))/\i<kvs.length
 yld:=fun i H x H'=>H'=H/\∃ p b,kvs[i]?=some p/\x=.ref b/\H b=some (.tup (p.1.map kV))
 stop:=fun i H=>H a=some (.frz o (.dT kvs))/\i=kvs.length
def ln {α β:Type} {R:α->β->Prop}:∀ {l:List α} {m:List β},Paired R l m->∀ {i:Nat} {a:α},l[i]?=some a->∃ b,m[i]?=some b/\R a b
 | _,_,.nil,i,a,h=>by simp at h
 | _,_,.cons r t,0,a,h=>by simp at h;subst h;exact ⟨_,rfl,r⟩
 | _,_,.cons r t,i+1,a,h=>by simpa using ln t (by simpa using h)
def jM {α β:Type} {R:α->β->Prop}:∀ {l:List α} {m:List β},Paired R l m->l.length=m.length
 | _,_,.nil=>rfl
 | _,_,.cons r t=>by simp [jM t]
def mr {P:Program} {w:World} {H:Hp} {h:Heap} {a:Addr} {kvs:List (List Key×V)} (x:ObjOk P w H h a (.dT kvs)):kvs.length<=sizeLine/\(a==sysModules)=false/\∃ (bs:List Addr) (ob:Obj) (es:Array DictEntry) (ep:Nat),h.get? a=some ob/\ob.data=.dict es ep/\EntA h a (bs.map .ref) ep/\bs.length=kvs.length∧
  ∀ (j:Nat) (p:List Key×V),kvs[j]?=some p->∃ b,bs[j]?=some b/\H b=some (.tup (p.1.map kV)):=by
 obtain ⟨z,y,xs,r,o,es,ep,h1,h2,h3,h4,h5⟩:=x
 refine ⟨z,y,xs.map (·.2.1),o,es,ep,h1,h3,⟨o,es,h1,h2,h3,?_⟩,by rw [List.length_map,<- jM r],fun j p hp=>?_⟩
 · rw [h4,List.map_map,List.map_map]
   rfl
 · obtain ⟨q,hq,_,hb,_⟩:=ln r hp
   exact ⟨q.2.1,by rw [List.getElem?_map,hq];rfl,hb⟩
def o3 {P:Program} {w:World} {K:PySem.W.Frag} {tg:Expr} {a it:Addr} {o:Obj} {kvs:List (List Key×V)} {es:Array DictEntry} {ep:Nat} (hd:o.data=.dict es ep) :
  Turn P w K tg (ItkT a o kvs) [it] it (fun i h=>h.IsKeyIter it a i kvs.length ep) where
 mem:=by simp
 obj:=fun i h st b hb=>by
  have e:b=it:=by simpa using hb
  subst e
  obtain ⟨q,hq,hc,hdd⟩:=st
  exact ⟨q,hq,fun v z=>by rw [hdd] at z;cases z⟩
 keep:=fun i h h' st k=>by
  obtain ⟨q,hq,r⟩:=st
  exact ⟨q,k it (by simp) _ hq,r⟩
 item:=by
  intro X hP hw hK hc i pins s σ H E I hf st hg
  subst hP hw hK
  obtain ⟨f0,f1,f2,f3,f4,f5⟩:=hf it (by simp)
  obtain ⟨ho,x⟩:=I.hok a _ hg.1
  obtain ⟨z,y,bs,ob,es',ep',e1,e2,en,hl,hk⟩:=mr x
  rw [ho] at e1
  cases e1
  rw [hd] at e2
  cases e2
  have hik:i<kvs.length:=hg.2
  have hkk:kvs[i]?=some kvs[i]:=by simp [hik]
  obtain ⟨b,hb,hHb⟩:=hk i _ hkk
  have st:s.heap.IsKeyIter it a i (bs.map Value.ref).length ep:=by rw [List.length_map,hl];exact st
  refine nF st en (key:=.ref b) (by rw [List.getElem?_map,hb];rfl) fun h' st' sb=>?_
  have I1:Inv X pins σ H {s with heap:=h'}:=I.turned (t':=s.toks) (fun b o hb e=>(sb.2 b hb).trans e) f0 f1 f3 f4 f5
  obtain ⟨q,e,c,d⟩:=id st'
  exact ⟨_,rfl,kj (s:={s with heap:=h'}) e c d (by decide) ⟨.ref b,H,I1,rfl,⟨rfl,_,b,hkk,rfl,hHb⟩,by rw [List.length_map,hl] at st';exact st',fun b hb=>(hf b hb).1⟩⟩
 done:=by
  intro X hP hw hK hc i pins s σ H E I hf st hg
  subst hP hw hK
  obtain ⟨f0,f1,f2,f3,f4,f5⟩:=hf it (by simp)
  obtain ⟨ho,x⟩:=I.hok a _ hg.1
  obtain ⟨z,y,bs,ob,es',ep',e1,e2,en,hl,hk⟩:=mr x
  rw [ho] at e1
  cases e1
  rw [hd] at e2
  cases e2
  have st:s.heap.IsKeyIter it a i (bs.map Value.ref).length ep:=by rw [List.length_map,hl];exact st
  exact qq (I.ok.hd hc) st en (by have h2:i=kvs.length:=hg.2;rw [List.length_map,hl];exact h2) fun h' eb=>⟨rfl,I.turned (t':=s.toks) (fun b o hb e=>eb b o hb e) f0 f1 f3 f4 f5⟩
 self:=fun _ _ _ _ _ st h=>wpAny_pyIter_keyiter st h
section
variable {X:Cx} {tg:Expr}
def yv (X:Cx) (td:TE):TI:=fun σ H R=>td σ H fun x H1=>∃ a kvs,x=.ref a/\H1 a=some (.dT kvs)/\∀ o,(∀ o' w,X.H₀ a≠some (.frz o' w))->R (ItkT a o kvs) (upd H1 a (.frz o (.dT kvs)))
def tZ {d:Expr} {td:TE} (hd:PE X d td):PI X tg d (yv X td):=by
 intro pins s σ H R I h
 refine thn (hd pins s σ H _ I h) fun v s1 ⟨x,H1,I1,r1,q1⟩=>?_
 obtain ⟨a,kvs,e,hq,q⟩:=q1
 subst e
 cases r1
 obtain ⟨z,y,bs,ob,es,ep,e1,e2,en,hl,hk⟩:=mr (I1.hok a _ hq)
 refine nE y en ?_
 have I2:=I1.frz hq (by rw [hq];trivial) e1 (fun _ _ z=>nomatch z) (fun z=>nomatch z) (fun _ _ _ z=>nomatch z)
 refine ⟨s1.heap.objs.size,[s1.heap.objs.size],_,_,upd H1 a (.frz ob (.dT kvs)),rfl,I2.kept (t':=s1.toks) fun b o e=>gP _ e,o3 e2,⟨_,Heap.get?_push_size _ rfl,rfl,by rw [List.length_map,hl];rfl⟩,fun b hb=>?_,q ob fun o' w z=>by have:=I1.base.frzs a o' w z;rw [hq] at this;cases this⟩
 have e:b=s1.heap.objs.size:=by simpa using hb
 subst e
 exact I2.fpOk (nL _) (I2.hok.fresh (nL _))
def v3 (X:Cx) (Q:Hp->Prop):Hp->Prop:=fun H'=>∃ a o kvs,(∀ o' w,X.H₀ a≠some (.frz o' w))/\H' a=some (.frz o (.dT kvs))/\Q (upd H' a (.dT kvs))
def xa (X:Cx) (D:Ends):Ends:={nx:=fun σ=>v3 X (D.nx σ),rt:=fun v=>v3 X (D.rt v),bk:=fun σ=>v3 X (D.bk σ),ct:=fun σ=>v3 X (D.ct σ)}
def t8 {st:Stmt} {t:TS} (h:PS X st t):PS X st (fun D σ H=>t (xa X D) σ H):=fun pins s σ H D I hw=>by
 refine thn (h pins s σ H (xa X D) I hw) fun f s1 q=>?_
 cases f with
 | next =>
  obtain ⟨σ',H',I',a,o,kvs,hn,e,q⟩:=q
  exact ⟨σ',_,I'.thaw e hn (fun _ z=>nomatch z) (fun _ z=>nomatch z),q⟩
 | brk =>
  obtain ⟨σ',H',I',a,o,kvs,hn,e,q⟩:=q
  exact ⟨σ',_,I'.thaw e hn (fun _ z=>nomatch z) (fun _ z=>nomatch z),q⟩
 | cont =>
  obtain ⟨σ',H',I',a,o,kvs,hn,e,q⟩:=q
  exact ⟨σ',_,I'.thaw e hn (fun _ z=>nomatch z) (fun _ z=>nomatch z),q⟩
 | ret u =>
  obtain ⟨v,σ',H',I',r,a,o,kvs,hn,e,q⟩:=q
  exact ⟨v,σ',_,I'.thaw e hn (fun _ z=>nomatch z) (fun _ z=>nomatch z),r,q⟩
def o4 (hc:X.calm=true):dL X (.type "list") (fun xs H Q=>∃ a kvs,xs=[.ref a]/\H a=some (.dT kvs)/\∀ bs:List Addr,bs.length=kvs.length->(∀ (j:Nat) (b:Addr) (p:List Key×V),bs[j]?=some b->kvs[j]?=some p->H b=some (.tup (p.1.map kV)))->∀ l,H l=none->Q (.ref l) (upd H l (.lst (bs.map V.ref)))):=by
 intro pins s σ H xs us Q I r h
 obtain ⟨a,kvs,rfl,hq,q⟩:=h
 obtain ⟨u,rfl,rx⟩:=jq r
 cases rx
 obtain ⟨z,y,bs,ob,es,ep,e1,e2,en,hl,hk⟩:=mr (I.hok a _ hq)
 have hz:(bs.map Value.ref).length<=sizeLine:=by rw [List.length_map,hl];exact z
 refine PySem.W.kdl_call (v0 y) (I.ok.hd hc) en hz fun h' tk acc c kp hD hacc=>?_
 have eacc:acc.toList=bs.map Value.ref:=by
  apply List.ext_getElem?
  intro j
  cases hj:acc.toList[j]? with
  | none =>
   have h1:=List.getElem?_eq_none_iff.mp hj
   rw [Array.length_toList,hacc.1] at h1
   rw [List.getElem?_eq_none_iff.mpr h1]
  | some v=>exact (hacc.2 j v (by rw [<- Array.getElem?_toList];exact hj)).symm
 have rv:Vals (bs.map V.ref) acc.toList:=by
  rw [eacc]
  clear eacc hk hl en hz q hacc
  induction bs with
  | nil=>exact .nil
  | cons b bs ih=>exact .cons rfl ih
 refine ⟨.ref s.heap.objs.size,_,I.laid (t':=tk) kp (nL _) (show ObjOk X.prog X.w _ h' _ (.lst (bs.map V.ref)) from ⟨by rw [List.length_map,hl];exact z,acc.toList,c,rv,by rw [Array.toArray_toList];exact hD⟩),rfl,q bs hl (fun j b p h1 h2=>?_) _ (I.hok.fresh (nL _))⟩
 obtain ⟨b',hb',hH⟩:=hk j p h2
 rw [h1] at hb'
 cases hb'
 exact hH
end
def kf (i:Nat) (ch:CH):Option CH:=match ch[i]? with
 | some (.wt l)=>some (ch.set i (.dT l))
 | _=>none
def xb (i:Nat):Og->Option Og
 | .nx δ ch=>(kf i ch).map (.nx δ ·)
 | .rt c ch=>(kf i ch).map (.rt c ·)
 | .bk δ ch=>(kf i ch).map (.bk δ ·)
 | .ct δ ch=>(kf i ch).map (.ct δ ·)
noncomputable def jN (fd:Fg) (ts:List Nat) (bb:Dt->De->Option De) (g:Fs):Fs:=fun δ ch=>(fd δ ch).bind fun p=>match p.1 with
 | .ref i=>match p.2[i]? with
  | some (.dT l)=>(fK ts bb g (l.map fun q=>cT q.1) δ (p.2.set i (.wt l))).bind (xb i)
  | _=>none
 | _=>none
section
variable {K:PySem.W.Frag} {F H F' H' F1 H1:Hp} {ρ ρ' ρ1:Nat->Addr} {ch ch' ch1:CH} {i:Nat} {l:List (List Key×CV)} {kvs:List (List Key×V)} {ob:Obj}
def rn (g1:Gh K F1 H1 ρ1 ch1) (hi:ch1[i]?=some (.dT l)) (h1:H1 (ρ1 i)=some (.dT kvs)) (a:Adv K F1 (upd H1 (ρ1 i) (.frz ob (.dT kvs))) ρ1 (ch1.set i (.wt l)) F' H' ρ' ch') {c:CH} (hc:kf i ch'=some c) :
  H' (ρ1 i)=some (.frz ob (.dT kvs))/\Adv K F1 H1 ρ1 ch1 F' (upd H' (ρ1 i) (.dT kvs)) ρ' c:=by
 have hil:i<ch1.length:=(gX hi).1
 have hz:H' (ρ1 i)=some (.frz ob (.dT kvs)):=a.fz _ _ _ aB
 refine ⟨hz,?_⟩
 have hr:ρ' i=ρ1 i:=a.ext i (by simpa using hil)
 unfold kf at hc
 split at hc<;>first | (cases hc;done) | skip
 rename_i l' hl'
 cases hc
 have hil':i<ch'.length:=(gX hl').1
 obtain ⟨o2,kv2,e1,e2,e3⟩:=a.gh.ok i _ hl'
 rw [hr,hz] at e1
 cases e1
 have g:=a.gh
 have ne:∀ {j:Nat},j<ch'.length->j≠i->ρ' j≠ρ1 i:=fun {j} hj hne e=>hne (g.inj j i hj hil' (e.trans hr.symm))
 refine ⟨⟨fun b x e=>?_,fun j k hj hk=>g.inj j k (by simpa using hj) (by simpa using hk),fun j hj=>g.out j (by simpa using hj),fun j x hx=>?_⟩,by have:=a.len;simp at this ⊢;omega,fun j hj=>a.ext j (by simpa using hj),fun j h2 h3=>?_,fun b x h2 h3=>?_,a.old,fun b x h=>?_,fun b x y h=>?_⟩
 · have:b≠ρ1 i:=fun q=>by
    rw [q,<- hr] at e
    rcases g.out i hil' with y | ⟨xs,y⟩
    · rw [y] at e;cases e
    · have y1:=g.fh _ _ y
      rw [hr,hz] at y1
      cases y1
   rw [aG this]
   exact g.fh b x e
 · rw [List.length_set]
   rw [List.getElem?_set] at hx
   by_cases hj:i=j
   · rw [if_pos hj] at hx
     subst hj
     first
      | (split at hx<;>first | (cases hx;rw [hr];exact ⟨kvs,aB,e2,e3⟩) | cases hx)
      | (cases hx;rw [hr];exact ⟨kvs,aB,e2,e3⟩)
   · rw [if_neg hj] at hx
     have hjl:j<ch'.length:=(gX hx).1
     refine (g.ok j x hx).mono (Same.refl _) (fun _ _=>rfl) (nL _) fun y hy=>?_
     rw [aG (ne hjl (Ne.symm hj))]
     exact hy
 · have:=a.fr j (by simpa using h2) (by simpa using h3)
   have hn:ρ' j≠ρ1 i:=fun z=>by rw [z,aB] at this;cases this
   rw [aG hn] at this
   exact this
 · have hb:b≠ρ1 i:=fun z=>h3 i hil z.symm
   rw [aG hb]
   exact a.prot b x (by rw [aG hb];exact h2) fun j hj=>h3 j (by simpa using hj)
 · rcases a.nw b x h with z | z | z
   · exact .inl z
   rotate_left
   · exact .inr (.inr z)
   · right
     left
     have hb:b≠ρ1 i:=fun q=>by rw [q,aB] at z;cases z
     rw [aG hb] at z
     exact z
 · have hb:b≠ρ1 i:=fun z=>by rw [z,h1] at h;cases h
   rw [aG hb]
   exact a.fz b x y (by rw [aG hb];exact h)
end
def jO {i:Nat} {ch c:CH} (h:kf i ch=some c):c.length=ch.length:=by
 unfold kf at h
 split at h<;>cases h
 simp
section
variable {X:Cx} {tg d:Expr} {body:List Stmt} {fd:Fg} {g:Fs} {pos:Pos}
def v4 {ts:List Nat} {bb:Dt->De->Option De} (hp:PassesOwn (model X.prog X.w) X.A X.env X.xe) (hc:X.calm=true) (hd:GE X d fd) (hg:DG X tg ts bb) (hb:GS X body g)
  (hs:∀ x,foldedSetIterable d X.env x=pure x:=by intro _;rfl):GS1 X (.For tg d body [] pos) (jN fd ts bb g):=PS.mono (t8 (lI hp hc (tZ hd) hg hb hs)) fun D σ H ⟨δ,ch,F,ρ,og,en,hgg,k⟩=>by
 unfold jN at hgg
 obtain ⟨⟨c1,ch1⟩,hpp,hg1⟩:=bS hgg
 clear hgg
 dsimp only at hg1
 split at hg1<;>first | (cases hg1;done) | skip
 rename_i i
 split at hg1<;>first | (cases hg1;done) | skip
 rename_i l hl
 obtain ⟨o,ho,hth⟩:=bS hg1
 clear hg1
 rw [jb]
 refine ⟨δ,ch,F,ρ,_,ch1,en,hpp,fun v F1 H1 ρ1 a1 r1=>?_⟩
 obtain ⟨kvs,h1,h2,h3⟩:=a1.gh.ok i _ hl
 have hi:i<ch1.length:=(gX hl).1
 refine ⟨_,kvs,r1.2,h1,fun ob hn=>?_⟩
 have en1:=en.adv a1
 have k1:=k.adv en.gh a1
 have a2:=Adv.upd (o:=.wt l) (u:=.frz ob (.dT kvs)) a1.gh hi h1 (fun _ _ z=>nomatch z) ⟨ob,kvs,aB,h2,h3⟩
 have en2:=en1.adv a2
 -- behind the loop
 have back:∀ {F' H':Hp} {ρ':Nat->Addr} {ch' c:CH},Adv X.K F1 (upd H1 (ρ1 i) (.frz ob (.dT kvs))) ρ1 (ch1.set i (.wt l)) F' H' ρ' ch'->kf i ch'=some c->H' (ρ1 i)=some (.frz ob (.dT kvs))/\Adv X.K F1 H1 ρ1 ch1 F' (upd H' (ρ1 i) (.dT kvs)) ρ' c:=fun a hc=>rn a1.gh hl h1 a hc
 have hlen:kvs.length=l.length:=by
  have:=congrArg List.length h2
  simpa using this
 have lens:(l.map fun q=>cT q.1).length=kvs.length:=by simp [hlen]
 refine jE (n:=kvs.length) (fun j σ' H'=>∃ δ' ch' F' ρ',Adv X.K F1 (upd H1 (ρ1 i) (.frz ob (.dT kvs))) ρ1 (ch1.set i (.wt l)) F' H' ρ' ch'/\Ge X.K δ' ch' σ' F' H' ρ'/\fK ts bb g ((l.map fun q=>cT q.1).drop j) δ' ch'=some o) ⟨δ,_,F1,ρ1,Adv.refl en2.gh,en2,by simpa using ho⟩ (fun j σ' H' ⟨δ',ch',F',ρ',a',en',_⟩=>⟨fun hj=>⟨a'.fz _ _ _ aB,hj⟩,fun hj=>⟨a'.fz _ _ _ aB,hj⟩⟩) ?_ ?_
 · rintro j x σ' H' H'' hj ⟨δ',ch',F0,ρ',a0,en0,hgo⟩ ⟨rfl,p,bt,hp',rfl,hbt⟩
   have af:=en0.gh.frzT hbt
   have a':=a0.trans en2.gh af
   have en':=en0.adv af
   generalize hF:upd F0 bt (.tup (p.1.map kV))=F' at af a' en'
   have hFb:F' bt=some (.tup (p.1.map kV)):=by rw [<- hF];exact aB
   have hk:(l.map fun q=>cT q.1)[j]?=some (cT p.1):=by
    have e1:(kvs.map (·.1))[j]?=some p.1:=by rw [List.getElem?_map,hp'];rfl
    rw [h2,List.getElem?_map] at e1
    obtain ⟨q,hq,eq⟩:=mS e1
    rw [List.getElem?_map,hq,<- eq]
    rfl
   rw [hX hk] at hgo
   unfold fK at hgo
   obtain ⟨δ1,z1,hgo1⟩:=bS hgo
   obtain ⟨o1,z2,hgo2⟩:=bS hgo1
   clear hgo hgo1
   refine ⟨_,_,F',cT p.1,δ1,rfl,en'.en,nG hFb,z1,fun σ1 l1 q1 e1=>⟨_,ch',F',ρ',o1,en'.mg rfl l1 q1 e1,z2,?_⟩⟩
   cases o1 with
   | nx δ2 c2=>exact fun σ2 F3 H3 ρ3 a4 en4=>⟨δ2,c2,F3,ρ3,a'.trans en2.gh a4,en4,hgo2⟩
   | ct δ2 c2=>exact fun σ2 F3 H3 ρ3 a4 en4=>⟨δ2,c2,F3,ρ3,a'.trans en2.gh a4,en4,hgo2⟩
   | bk δ2 c2 =>
    cases hgo2
    obtain ⟨c,hcc,rfl⟩:=mS hth
    intro σ2 F3 H3 ρ3 a4 en4
    obtain ⟨w1,w2⟩:=back (a'.trans en2.gh a4) hcc
    refine ⟨_,ob,kvs,hn,w1,k1 σ2 F3 _ ρ3 w2 ⟨w2.gh,en4.len,fun m x hx=>?_⟩⟩
    obtain ⟨v,v1,v2⟩:=en4.has m x hx
    refine ⟨v,v1,v2.mono (Same.refl _) (fun _ _=>rfl) ?_⟩
    have:=(jO hcc)
    omega
   | rt c c2 =>
    cases hgo2
    obtain ⟨c',hcc,rfl⟩:=mS hth
    intro v F3 H3 ρ3 a4 r
    obtain ⟨w1,w2⟩:=back (a'.trans en2.gh a4) hcc
    refine ⟨_,ob,kvs,hn,w1,k1 v F3 _ ρ3 w2 (r.mono (Same.refl _) (fun _ _=>rfl) ?_)⟩
    have:=(jO hcc)
    omega
 · rintro σ' H' ⟨δ',ch',F',ρ',a',en',hgo⟩
   rw [<- lens,List.drop_length] at hgo
   cases hgo
   obtain ⟨c,hcc,rfl⟩:=mS hth
   obtain ⟨w1,w2⟩:=back a' hcc
   refine ⟨_,ob,kvs,hn,w1,k1 σ' F' _ ρ' w2 ⟨w2.gh,en'.len,fun m x hx=>?_⟩⟩
   obtain ⟨v,v1,v2⟩:=en'.has m x hx
   refine ⟨v,v1,v2.mono (Same.refl _) (fun _ _=>rfl) ?_⟩
   have:=(jO hcc)
   omega
end
def jP:List CV->Option (List Key)
 | []=>some []
 | .dat d::r=>(fG d).bind fun k=>(jP r).map (k::·)
 | _=>none
def jQ {K:PySem.W.Frag} {F:Hp} {ρ:Nat->Addr} {n:Nat}:∀ {l:List CV} {ks:List Key} {vs:List V},jP l=some ks->RelCs K F ρ n l vs->vs=ks.map kV
 | [],ks,vs,h,r=>by cases h;exact r
 | .dat d::l,ks,vs,h,r=>by
  simp only [jP] at h
  obtain ⟨k,hk,h⟩:=bS h
  obtain ⟨ks',hks,rfl⟩:=mS h
  obtain ⟨v,ws,rfl,r1,r2⟩:=r
  rw [jQ hks r2,dR hk r1]
  rfl
 | .ref i::l,ks,vs,h,r=>by cases h
section
variable {X:Cx} {e a b o value:Expr} {es:List Expr} {f fa fb fc fe fk:Fg} {fs:Fgs} {pos apos cpos tpos p:Pos} {sc:Scope} {x:Str} {K:PySem.W.Frag}
def eNT:Fg:=fun _ ch=>some (.ref ch.length,ch++[.dT []])
def v5:GE X (.Dict [] [] pos) eNT:=PE.mono sD fun σ H Q ⟨δ,ch,F,ρ,c,ch',en,hf,k⟩ q hq=>by
 cases hf
 refine k (.ref q) F _ _ (gc (o:=.dT []) en.gh hq ⟨[],aB,rfl,rfl⟩) ⟨by simp,?_⟩
 dsimp only
 rw [if_pos rfl]
def asT:CO->Option (List (List Key×CV))
 | .dT l=>some l
 | .wt l=>some l
 | _=>none
def yw {F H:Hp} {ρ:Nat->Addr} {n:Nat} {ad:Addr} {o:CO} {l:List (List Key×CV)} (h:asT o=some l) (ok:CoOk K F H ρ n ad o):∃ kvs,Rd H ad (.dT kvs)/\kvs.map (·.1)=l.map (·.1)/\RelCs K F ρ n (l.map (·.2)) (kvs.map (·.2)):=by
 cases o with
 | dT m=>cases h;obtain ⟨kvs,h1,h2,h3⟩:=ok;exact ⟨kvs,.inl h1,h2,h3⟩
 | wt m=>cases h;obtain ⟨ob,kvs,h1,h2,h3⟩:=ok;exact ⟨kvs,.inr ⟨ob,h1⟩,h2,h3⟩
 | _=>cases h
noncomputable def nH (fo:Fg) (fs:Fgs):Fg:=fun δ ch=>(fo δ ch).bind fun p=>(fs δ p.2).bind fun q=>match p.1 with
 | .ref i=>((q.2[i]?).bind asT).bind fun l=>if q.1.length<=sizeLine then (jP q.1).bind fun ks=>(lkC l ks).map fun c=>(c,q.2) else none
 | _=>none
def o5 {m:Nat} {x1} (hr:Room m X.A) (ho:GE X o fa) (ha:GA X es fs) (hn:sA (.Tuple es x1 apos):=by exact fun _ _=>rfl):GE X (.Subscript o (.Tuple es x1 apos) pos) (nH fa fs):=
 PE.mono (lP (kx hr) ho (lJ ha) hn) fun σ H Q ⟨δ,ch,F,ρ,c,ch',en,hf,kk⟩=>by
  unfold nH at hf
  obtain ⟨⟨c1,ch1⟩,hp,hf1⟩:=bS hf
  clear hf
  obtain ⟨⟨cs,ch2⟩,hq,hf2⟩:=bS hf1
  clear hf1
  dsimp only at hq hf2
  split at hf2<;>first | (cases hf2;done) | skip
  rename_i i
  obtain ⟨l,hl0,hf2b⟩:=bS hf2
  obtain ⟨ob,hl,has⟩:=bS hl0
  clear hf2 hl0
  split at hf2b<;>first | (cases hf2b;done) | skip
  rename_i hz
  obtain ⟨ks,hk,hf3⟩:=bS hf2b
  obtain ⟨c',hc,hf4⟩:=mS hf3
  cases hf4
  refine ⟨δ,ch,F,ρ,_,ch1,en,hp,fun v F1 H1 ρ1 a1 r1=>⟨δ,ch1,F1,ρ1,_,_,en.adv a1,hq,fun vs F2 H2 ρ2 a2 r2=>⟨by rw [r2.length];exact hz,fun q hq2=>?_⟩⟩⟩
  have ev:=jQ hk r2
  subst ev
  have a3:=Adv.of a2.gh (Step.made (o:=.tup (ks.map kV)) a2.gh.fh hq2)
  have aa:=(a1.trans en.gh a2).trans en.gh a3
  obtain ⟨kvs,h1,h2,h3⟩:=yw has (a3.gh.ok i _ hl)
  have lk:=jg (k:=ks) h2 h3
  rw [hc] at lk
  obtain ⟨u,hu,ru⟩:=lk
  exact ⟨_,u,(r1.mono a2.old a2.ext a2.len).2,by rw [<- hu];exact .inr ⟨kvs,ks,_,h1,rfl,aB,rfl⟩,kk u F2 _ ρ2 aa ru⟩
noncomputable def eX (fo:Fg) (fs:Fgs) (fe:Fg):Fs:=fun δ ch=>(fe δ ch).bind fun p=>(fo δ p.2).bind fun q=>(fs δ q.2).bind fun r=>match q.1 with
 | .ref i=>match r.2[i]? with
  | some (.dT l)=>if r.1.length<=sizeLine/\l.length<sizeLine/\(l.map (·.1)).Nodup then (jP r.1).map fun ks=>.nx δ (r.2.set i (.dT (dY l ks p.1))) else none
  | _=>none
 | _=>none
def mv {m:Nat} {x1} (hr:Room m X.A) (ho:GE X o fa) (ha:GA X es fs) (he:GE X e fe) (hs:swapsWith e (some (.Subscript o (.Tuple es x1 apos) tpos)) pos.line X.env=pure false:=by rfl) :
  GS1 X (.Assign [.Subscript o (.Tuple es x1 apos) tpos] e pos) (eX fa fs fe):=
 PS.mono (lQ (kx hr) ho (lJ ha) he hs) fun D σ H ⟨δ,ch,F,ρ,og,en,hg,kk⟩=>by
  unfold eX at hg
  obtain ⟨⟨c1,ch1⟩,hp,hg1⟩:=bS hg
  clear hg
  obtain ⟨⟨c2,ch2⟩,hq,hg2⟩:=bS hg1
  clear hg1
  obtain ⟨⟨cs,ch3⟩,hw,hg3⟩:=bS hg2
  clear hg2
  dsimp only at hq hw hg3
  split at hg3<;>first | (cases hg3;done) | skip
  rename_i i
  split at hg3<;>first | (cases hg3;done) | skip
  rename_i l hl
  split at hg3<;>first | (cases hg3;done) | skip
  rename_i hz
  obtain ⟨ks,hk,hg4⟩:=mS hg3
  cases hg4
  refine ⟨δ,ch,F,ρ,_,ch1,en,hp,fun v F1 H1 ρ1 a1 r1=>⟨δ,ch1,F1,ρ1,_,ch2,en.adv a1,hq,fun x F2 H2 ρ2 a2 r2=>⟨δ,ch2,F2,ρ2,_,ch3,(en.adv a1).adv a2,hw,fun ys F3 H3 ρ3 a3 r3=>⟨by rw [r3.length];exact hz.1,fun q hq2=>?_⟩⟩⟩⟩
  have ev:=jQ hk r3
  subst ev
  have a4:=Adv.of a3.gh (Step.made (o:=.tup (ks.map kV)) a3.gh.fh hq2)
  have hi:i<ch3.length:=(gX hl).1
  have a14:=((a1.trans en.gh a2).trans en.gh a3).trans en.gh a4
  have r1':=(r1.mono a2.old a2.ext a2.len).mono a3.old a3.ext a3.len
  obtain ⟨kvs,q1,q2,q3⟩:=a4.gh.ok i _ hl
  obtain ⟨z1,z2⟩:=jK (k:=ks) r1' hz.2.2 q2 q3
  have hlen:kvs.length=l.length:=by
   have:=congrArg List.length q2
   simpa using this
  refine ⟨_,upd (upd H3 q (.tup (ks.map kV))) (ρ3 i) (.dT (bT kvs ks v)),(r2.mono a3.old a3.ext a3.len).2,DPut.t q1 aB (by rw [hlen];exact hz.2.1),?_⟩
  have a5:=Adv.upd (o:=.dT (dY l ks c1)) (u:=.dT (bT kvs ks v)) a4.gh hi q1 (fun _ _ z=>nomatch z) ⟨_,aB,z1,z2⟩
  have aa:=a14.trans en.gh a5
  exact kk σ F3 _ ρ3 aa (en.adv aa)
def eLT (fa:Fg):Fg:=fun δ ch=>(fa δ ch).bind fun p=>match p.1 with
 | .ref i=>match p.2[i]? with
  | some (.dT l)=>some (.ref p.2.length,p.2++[.lst (l.map fun q=>.dat (cT q.1))])
  | _=>none
 | _=>none
def jR {F:Hp} {ρ:Nat->Addr} {n:Nat}:∀ {l:List (List Key)} {bs:List Addr},bs.length=l.length->(∀ (j:Nat) (b:Addr) (ks:List Key),bs[j]?=some b->l[j]?=some ks->F b=some (.tup (ks.map kV)))->RelCs K F ρ n (l.map fun q=>.dat (cT q)) (bs.map V.ref)
 | [],[],_,_=>rfl
 | [],_::_,h,_=>by cases h
 | _::_,[],h,_=>by cases h
 | q::l,b::bs,h,hf=>⟨.ref b,_,rfl,nG (hf 0 b q rfl rfl),jR (by simpa using h) fun j b ks p1 p2=>hf (j+1) b ks (by simpa using p1) (by simpa using p2)⟩
def t9 (h:bj sc "list"=true) (hc:X.calm=true) (hm:X.mg "list"=none) (hv:bootBuiltins "list"=some (.type "list")) (ha:GE X a fa) (e1:cW X sc:=by rfl)
  (he:starEach [a] X.env=(false,eval a X.env)::starEach [] X.env:=by rfl) (hpl:(backTo pos (starEach [] X.env)).any (·.1)=false:=by rfl):GE X (.Call (.Name "list" p) [a] [] pos) (eLT fa):=
 PE.mono (fB h (o4 hc) hm hv (dg ha fq he) e1 he hpl) fun σ H Q ⟨δ,ch,F,ρ,c,ch',en,hf,k⟩=>by
  unfold eLT at hf
  obtain ⟨⟨c1,ch1⟩,hp,hf1⟩:=bS hf
  clear hf
  dsimp only at hf1
  split at hf1<;>first | (cases hf1;done) | skip
  rename_i i
  split at hf1<;>first | (cases hf1;done) | skip
  rename_i l hl
  cases hf1
  refine ⟨δ,ch,F,ρ,_,ch1,en,hp,fun v F1 H1 ρ1 a1 r1=>?_⟩
  obtain ⟨kvs,h1,h2,h3⟩:=a1.gh.ok i _ hl
  refine ⟨_,kvs,by rw [r1.2],h1,fun bs hlen hb q hq=>?_⟩
  obtain ⟨F',af,hF⟩:=a1.gh.frzTs bs (kvs.map fun p=>p.1.map kV) (by simpa using hlen) fun j b vs p1 p2=>by
   rw [List.getElem?_map] at p2
   obtain ⟨pp,q1,rfl⟩:=mS p2
   exact hb j b pp p1 q1
  have rel:RelCs X.K F' ρ1 ch1.length (l.map fun q=>.dat (cT q.1)) (bs.map V.ref):=by
   have:=jR (K:=X.K) (F:=F') (ρ:=ρ1) (n:=ch1.length) (l:=l.map (·.1)) (bs:=bs) (by rw [<- h2];simpa using hlen) fun j b ks p1 p2=>hF j b _ p1 (by
    rw [<- h2,List.getElem?_map] at p2
    obtain ⟨pp,q1,rfl⟩:=mS p2
    rw [List.getElem?_map,q1]
    rfl)
   rw [List.map_map] at this
   exact this
  refine k (.ref q) F' _ _ ((a1.trans en.gh af).trans en.gh (gc (o:=.lst (l.map fun q=>.dat (cT q.1))) af.gh hq ⟨_,aB,rel⟩)) ⟨by simp,?_⟩
  first
   | rw [if_pos rfl]
   | (dsimp only;rw [if_pos rfl])
def rUpd:V->List V->Hp->VK->Prop:=fun x vs H Q=>∃ d o kvs more,x=.ref d/\vs=[.ref o]/\d≠o/\H d=some (.dK kvs)/\H o=some (.dK more)/\kvs.length+more.length<=sizeLine/\Q .non (upd H d (.dK (ci kvs more)))
def jS:∀ (ps kvs:List (Key×Value)),merged kvs ps=fm kvs ps
 | [],kvs=>rfl
 | p::ps,kvs=>jS ps _
def yx:MtM X "dict.update" rUpd:=by
 intro pins s σ H x vs v us Q I rx rv h
 obtain ⟨d,o,kvs,more,rfl,rfl,hne,hd,ho,hz,q⟩:=h
 cases rx
 obtain ⟨u,rfl,ru⟩:=rv.one
 cases ru
 obtain ⟨z1,y1,vs1,k1,D1⟩:=I.hok d _ hd
 obtain ⟨z2,y2,vs2,k2,D2⟩:=I.hok o _ ho
 have l1:=k1.length
 have l2:=k2.length
 refine call_meetsIn PySem.F.slot_dict_update (show Heap.DictOf (bf X.prog X.w) s.heap d vs1 from D1).typeIs PySem.F.entry_dict_update (PySem.F.args_dict_update_2 _ _) (meets_dict_update (bf X.prog X.w) d o hne y2)
  ⟨vs1,vs2,D1,D2,by omega,fun h' hm _ hs=>?_⟩
 have kall:=KV.all k2 k1
 obtain ⟨od,es,ep,e1,rest⟩:=id hm
 refine ⟨.non,_,I.write (x:=d) (e:=d) (o:=.dK (ci kvs more)) (h':=h') (t':=s.toks) (by rw [hd];trivial) (.inl rfl) (fun b u hb hu=>(hs.2 b hb).trans hu) ⟨od,e1⟩ ⟨?_,y1,_,kall,?_⟩,rfl,q⟩
 · have:=gY more kvs
   omega
 · rw [<- jS]
   exact hm
noncomputable def nI (fa fe:Fg):Fs:=fun δ ch=>(fa δ ch).bind fun p=>(fe δ p.2).bind fun q=>match p.1,q.1 with
 | .ref i,.ref j=>if i=j then none else match p.2[i]?,q.2[i]?,q.2[j]? with
  | some (.dK _),some (.dK l),some (.dK m)=>if ((l++m).map (·.1)).Nodup/\l.length+m.length<=sizeLine then some (.nx δ (q.2.set i (.dK (l++m)))) else none
  | _,_,_=>none
 | _,_=>none
def yy (hx:GE X o fa) (he:GE X e fe)
  (hbase:attributeBase o "update" X.env (eval o X.env)=eval o X.env:=by rfl)
  (hfew:((backTo cpos (starEach [e] X.env)).all (fun x=>!x.1)&&(backToKw cpos (keywordEach [] X.env)).all (fun x=>x.1.isSome)
   && decide ([e].length+([]:List Keyword).length+(if ([]:List Keyword).isEmpty then 0 else 1)<30))=true:=by rfl)
  (hline:(apos.endLine==cpos.line)=true:=by rfl) (hs:starEach [e] X.env=(false,eval e X.env)::starEach [] X.env:=by rfl) (hplain:(backTo cpos (starEach [] X.env)).any (·.1)=false:=by rfl)
  (hsw:swapsWith (.Call (.Attribute o "update" apos) [e] [] cpos) none pos.line X.env=pure false:=by rfl) :
  GS1 X (.Expr (.Call (.Attribute o "update" apos) [e] [] cpos) pos) (nI fa fe):=
 PS.mono (i6 (pK PySem.F.plainAttrs_dict PySem.F.slot_dict_update PySem.F.type_dict_update yx hx (dg he fq hs) hbase hfew hline hs hplain) hsw) fun D σ H ⟨δ,ch,F,ρ,og,en,hg,k⟩=>by
  unfold nI at hg
  obtain ⟨⟨c1,ch1⟩,hp,hg1⟩:=bS hg
  clear hg
  obtain ⟨⟨c2,ch2⟩,hq,hg⟩:=bS hg1
  clear hg1
  dsimp only at hq hg
  split at hg<;>first | (cases hg;done) | skip
  rename_i i j
  split at hg<;>first | (cases hg;done) | skip
  rename_i hij
  split at hg<;>first | (cases hg;done) | skip
  rename_i l0 l m h0 h1 h2
  split at hg<;>cases hg
  rename_i hz
  refine ⟨δ,ch,F,ρ,_,ch1,en,hp,fun v F1 H1 ρ1 a1 r1=>?_⟩
  obtain ⟨kv0,q0,_⟩:=a1.gh.ok i _ h0
  obtain ⟨hi,rfl⟩:=r1
  refine ⟨.inr (.inr (.inl ⟨rfl,.inl ⟨_,q0⟩⟩)),δ,ch1,F1,ρ1,_,ch2,en.adv a1,hq,fun w F2 H2 ρ2 a2 r2=>?_⟩
  obtain ⟨kv1,q1,q2,q3⟩:=a2.gh.ok i _ h1
  obtain ⟨kv2,p1,p2,p3⟩:=a2.gh.ok j _ h2
  have hi2:i<ch2.length:=(gX h1).1
  have hj2:j<ch2.length:=(gX h2).1
  have el1:kv1.length=l.length:=by have:=congrArg List.length q2;simpa using this
  have el2:kv2.length=m.length:=by have:=congrArg List.length p2;simpa using this
  have epa:ci kv1 kv2=kv1++kv2:=fL (by
   rw [List.map_append,q2,p2,<- List.map_append]
   exact hz.1)
  refine ⟨ρ1 i,ρ2 j,kv1,kv2,rfl,by rw [r2.2],fun z=>hij (a2.gh.inj i j hi2 hj2 (by rw [a2.ext i hi];exact z)),by rw [<- a2.ext i hi];exact q1,p1,by omega,?_⟩
  rw [epa,<- a2.ext i hi]
  have a3:=Adv.upd (o:=.dK (l++m)) (u:=.dK (kv1++kv2)) (w:=.dK kv1) a2.gh hi2 q1 (fun _ _ z=>nomatch z) ⟨_,aB,by rw [List.map_append,List.map_append,q2,p2],by rw [List.map_append,List.map_append];exact q3.append p3⟩
  have aa:=(a1.trans en.gh a2).trans en.gh a3
  exact k σ F2 _ ρ2 aa (en.adv aa)
end
def jT:fillsNumberSlot (.type "tuple") "mul"=pure false:=
 PySem.fillsNumberSlot_seq (id:="tuple.__mul__") (r:=some (.builtin "tuple.__rmul__")) F.slot_tuple_mul.lookup (by decide +kernel) F.slot_tuple_rmul.lookup (by decide +kernel)
def v6:seqRepeat? (.type "tuple")=pure (some (.builtin "tuple.__mul__")):=by
 unfold seqRepeat?
 rw [PySem.seqSlot_of (T:="tuple") (name:="__mul__") (id:="tuple.__mul__") F.slot_tuple_mul.lookup (by decide +kernel),PySem.seqSlot_of (T:="tuple") (name:="__rmul__") (id:="tuple.__rmul__") F.slot_tuple_rmul.lookup (by decide +kernel)]
 rfl
def ua (a:Int) (t:Tok) (l:Addr) (its:Array Value) (n:Nat) (dd:Option Addr) (sl:Array (Option Value)) :
  Meets (Builtin.«int.__rmul__» ⟨[.int a t,.ref l],[]⟩) (fun _ R s=>s.heap.get? l=some {cls:=.type "tuple",dict:=dd,data:=.seq its n,slots:=sl}/\R (.ok (.ret Value.notImplemented)) s):=
 .of_wp fun prog w A R s h=>by
  obtain ⟨hp,g,d,tk,os⟩:=s;obtain ⟨hl,h⟩:=h;wp_walk;exact ⟨_,rfl,h⟩
def v7 (l:Addr) (its:Array Value) (n:Nat) (dd:Option Addr) (sl:Array (Option Value)) (x:Int) (u:Tok) (h1:1<x) (h2:x<=1000) (h3:its.isEmpty=false) (h4:its.size<=1000) :
  Meets (Builtin.«tuple.__mul__» ⟨[.ref l,.int x u],[]⟩) (fun _ R s=>s.heap.get? l=some {cls:=.type "tuple",dict:=dd,data:=.seq its n,slots:=sl}/\R (.ok (.ret (Value.ref s.heap.objs.size))) {s with heap:=s.heap.push {cls:=Value.type "tuple",data:=Data.seq (List.foldl (fun x1 x2=>x1++x2) #[] (List.replicate x.toNat its))},toks:=s.toks}):=
 .of_wp fun prog w A R s h=>by
  obtain ⟨hp,g,d,tk,os⟩:=s;obtain ⟨hl,h⟩:=h
  wp_walk
  refine wpAny_ite_false (by rw [decide_eq_false (by omega:¬ x < -2^63),decide_eq_false (by omega:¬ x ≥ 2^63)];rfl) ?_
  wp_walk
  refine wpAny_ite_false (by rw [h3];simp;omega) ?_
  wp_walk
  refine wpAny_ite_false (by rw [h3];simp;omega) ?_
  wp_walk
  have hm:(its.size:Int)*x<=1000*1000:=Int.le_trans (Int.mul_le_mul_of_nonneg_right (by omega) (by omega)) (Int.mul_le_mul_of_nonneg_left h2 (by omega))
  refine wpAny_ite_false (by simp;omega) ?_
  wp_walk
  have hL:(sizeLine:Int)=16777216:=by rw [sizeLine_eq];rfl
  refine wpAny_ite_false (by unfold Builtin.Tuple.tupleTooMany;rw [hL,decide_eq_false_iff_not,decide_eq_true_eq];omega) ?_
  wp_walk
  have hfs:(List.foldl (fun x1 x2=>x1++x2) #[] (List.replicate x.toNat its)).size<=sizeLine:=by
   have h5:=gu its.toList x.toNat []
   rw [List.nil_append,Array.toArray_toList] at h5
   rw [show (#[]:Array Value)=[].toArray from rfl,h5,List.size_toArray,lN,Array.length_toList,sizeLine_eq]
   exact Nat.le_trans (Nat.mul_le_mul (by omega:x.toNat<=1000) h4) (by decide)
  refine wpAny_ite_false (decide_eq_false (Nat.not_lt.mpr hfs)) ?_
  wp_walk
  exact ⟨_,rfl,h⟩
def xc (K:PySem.W.Frag):R2:=fun x y H Q=>∃ a k xs,x=.ref a/\y=.int k/\SqT K H a xs/\1<k/\k<=1000/\xs≠[]/\xs.length<=1000/\∀ p,H p=none->Q (.ref p) (upd H p (.tup (List.replicate k.toNat xs).flatten))
def v8 {X:Cx}:OpR X (binaryOp .Mult) (xc X.K):=by
 intro pins s σ H x y v u Q I rx ry h
 obtain ⟨a,k,xs,rfl,rfl,hT,h1,h2,hne,hl,q⟩:=h
 cases rx
 obtain ⟨t,rfl⟩:=ry
 obtain ⟨its,r,pl,hz⟩:=I.tuple hT
 obtain ⟨⟨cls,dd,data,sl⟩,ho,hc,n,hd⟩:=id pl
 simp only at hc hd
 subst hc hd
 have hlen:=r.length
 have hemp:its.toArray.isEmpty=false:=by
  cases its with
  | nil=>cases r;exact absurd rfl hne
  | cons i r=>rfl
 have hsz:its.toArray.size<=1000:=by rw [List.size_toArray];omega
 refine wpAny_binaryOp_repeat_ref (T:="tuple") (U:="int") (by decide) ⟨_,ho,rfl⟩ (fun s'=>typeIs_int s' k t) jT F.fills_int_mul F.slot_int_rmul v6 F.slot_int_index.lookup
  (call_meets F.slot_int_rmul (typeIs_int s k t) F.entry_int_rmul (F.args_int_rmul_2 _ _) (ua k t a its.toArray n dd sl)
   ⟨ho,rfl,⟨_,ho,rfl⟩,call_meets F.slot_tuple_mul ⟨_,ho,rfl⟩ F.entry_tuple_mul (F.args_tuple_mul_2 _ _) (v7 a its.toArray n dd sl k t h1 h2 hemp hsz) ⟨ho,?_⟩⟩)
 have hnew:List.foldl (fun x1 x2=>x1++x2) #[] (List.replicate k.toNat its.toArray)=(List.replicate k.toNat its).flatten.toArray:=by
  have:=gu its k.toNat []
  rw [List.nil_append] at this
  exact this
 rw [hnew]
 refine ⟨.ref s.heap.objs.size,_,I.laid (t':=s.toks) (o:=.tup (List.replicate k.toNat xs).flatten) (fun b ob q=>gP _ q) (nL _) ⟨?_,_,r.rep k.toNat,IsTup.new _ _⟩,rfl,q _ (I.hok.fresh (nL _))⟩
 rw [lN,sizeLine_eq]
 exact Nat.le_trans (Nat.mul_le_mul (by omega:k.toNat<=1000) hl) (by decide)
def nJ {K:PySem.W.Frag} {F:Hp}:∀ {l m:List Dt} {vs ws:List V},Reps K F l vs->Reps K F m ws->Reps K F (l++m) (vs++ws)
 | [],m,vs,ws,h,h'=>by simp only [Reps] at h;subst h;exact h'
 | d::l,m,vs,ws,h,h'=>by
  simp only [Reps] at h
  obtain ⟨v,us,rfl,h1,h2⟩:=h
  simp only [List.cons_append,Reps]
  exact ⟨v,_,rfl,h1,nJ h2 h'⟩
def nK {K:PySem.W.Frag} {F:Hp} {l:List Dt} {vs:List V} (h:Reps K F l vs):∀ k:Nat,Reps K F (List.replicate k l).flatten (List.replicate k vs).flatten
 | 0=>by simp only [List.replicate_zero,List.flatten_nil,Reps]
 | k+1=>by
  rw [List.replicate_succ,List.replicate_succ,List.flatten_cons,List.flatten_cons]
  exact nJ h (nK h k)
def jU:Dt->Dt->Option T
 | .tup l,.int k=>if 1<k/\k<=1000/\l.isEmpty=false/\l.length<=1000 then some (.leaf (.tup (List.replicate k.toNat l).flatten)) else none
 | _,_=>none
def yz {K:PySem.W.Frag}:R2D K (xc K) jU:=by
 intro F H x y vx vy Q t fh rx ry hg k
 unfold jU at hg
 split at hg<;>first | (cases hg;done) | skip
 rename_i l j
 split at hg<;>cases hg
 rename_i hz
 obtain ⟨a,vs,rfl,h1,h2⟩:=rx
 cases ry
 refine ⟨a,j,vs,rfl,rfl,fh.tup h1,hz.1,hz.2.1,fun e=>?_,by rw [h2.length];exact hz.2.2.2,fun p hp=>k.tup fh (nK h2 _) hp⟩
 have:=h2.length
 rw [e] at this
 cases l with
 | nil=>exact absurd hz.2.2.1 (by simp)
 | cons _ _=>simp at this
def o6 (ch:CH):CV->Option (List CV)
 | .dat (.tup ds)=>some (ds.map .dat)
 | .ref i=>match ch[i]? with
  | some (.tup l)=>some l
  | _=>none
 | _=>none
section
variable {K:PySem.W.Frag} {F H:Hp} {ρ:Nat->Addr} {ch:CH} {c:CV} {v:V}
def mw (g:Gh K F H ρ ch) {l:List CV} (h:o6 ch c=some l) (r:RelC K F ρ ch.length c v):∃ a vs,v=.ref a/\SqT K H a vs/\RelCs K F ρ ch.length l vs:=by
 unfold o6 at h
 split at h
 · rename_i ds
   cases h
   have r:Rep K F (.tup ds) v:=r
   simp only [Rep] at r
   obtain ⟨a,vs,rfl,h1,h2⟩:=r
   exact ⟨a,vs,rfl,g.fh.tup h1,RelCs.dats h2⟩
 · rename_i i
   split at h<;>cases h
   rename_i ho
   obtain ⟨vs,h1,h2⟩:=g.ok i _ ho
   exact ⟨_,vs,r.2,SqT.of h1,h2⟩
 · cases h
end
section
variable {X:Cx} {e a b o iter tg:Expr} {es:List Expr} {body:List Stmt} {g:Fs} {f fa fb fc fe fk:Fg} {fs:Fgs} {pos apos cpos tpos p:Pos} {sc:Scope} {x:Str} {K:PySem.W.Frag}
noncomputable def eTa (fa fb:Fg):Fg:=fun δ ch=>(fa δ ch).bind fun p=>(fb δ p.2).bind fun q=>(o6 q.2 p.1).bind fun xs=>(o6 q.2 q.1).bind fun ys=>if xs.isEmpty=false/\ys.isEmpty=false/\xs.length+ys.length<=sizeLine then some (.ref q.2.length,q.2++[.tup (xs++ys)]) else none
def xf (ha:GE X a fa) (hb:GE X b fb):GE X (.BinOp a .Add b pos) (eTa fa fb):=PE.mono (px pI ha hb) fun σ H Q ⟨δ,ch,F,ρ,c,ch',en,hf,kk⟩=>by
 unfold eTa at hf
 obtain ⟨⟨c1,ch1⟩,hp,hf1⟩:=bS hf
 clear hf
 obtain ⟨⟨c2,ch2⟩,hq,hf2⟩:=bS hf1
 clear hf1
 obtain ⟨xs,hx,hf3⟩:=bS hf2
 clear hf2
 obtain ⟨ys,hy,hf4⟩:=bS hf3
 clear hf3
 dsimp only at hq hx hy hf4
 split at hf4<;>cases hf4
 rename_i hz
 refine ⟨δ,ch,F,ρ,_,ch1,en,hp,fun v F1 H1 ρ1 a1 r1=>⟨δ,ch1,F1,ρ1,_,ch2,en.adv a1,hq,fun w F2 H2 ρ2 a2 r2=>?_⟩⟩
 obtain ⟨a',vs,rfl,h1,h2⟩:=mw a2.gh hx (r1.mono a2.old a2.ext a2.len)
 obtain ⟨b',ws,rfl,h3,h4⟩:=mw a2.gh hy r2
 have l1:=h2.length
 have l2:=h4.length
 refine ⟨a',b',vs,ws,rfl,rfl,h1,h3,fun z=>?_,by omega,fun z=>?_,fun _ q hq2=>?_⟩
 · rw [z] at l1
   cases xs with
   | nil=>exact absurd hz.1 (by simp)
   | cons _ _=>simp at l1
 · rw [z] at l2
   cases ys with
   | nil=>exact absurd hz.2.1 (by simp)
   | cons _ _=>simp at l2
 · refine kk (.ref q) F2 _ _ ((a1.trans en.gh a2).trans en.gh (gc (o:=.tup (xs++ys)) a2.gh hq2 ⟨_,aB,h2.append h4⟩)) ⟨by simp,?_⟩
   dsimp only
   rw [if_pos rfl]
abbrev Fb:=CV->CH->Sl->Option Sl
abbrev Fbs:=List CV->CH->Sl->Option Sl
def tGG (K:PySem.W.Frag) (b:Fb):TG:=fun v σ H Q=>∃ δ ch F ρ c δ',Ge K δ ch σ F H ρ/\RelC K F ρ ch.length c v/\b c ch δ=some δ'/\∀ σ',Ge K δ' ch σ' F H ρ->Q σ' H
def tGGs (K:PySem.W.Frag) (b:Fbs):TGs:=fun vs σ H Q=>∃ δ ch F ρ cs δ',Ge K δ ch σ F H ρ/\RelCs K F ρ ch.length cs vs/\b cs ch δ=some δ'/\∀ σ',Ge K δ' ch σ' F H ρ->Q σ' H
def GG (X:Cx) (tg:Expr) (b:Fb):Prop:=PG X tg (tGG X.K b)
def GGs (X:Cx) (es:List Expr) (b:Fbs):Prop:=PGs X es (tGGs X.K b)
def ggN (i:Nat):Fb:=fun c _ δ=>some (δ.set i (some c))
def dE {i:Nat} (h:PG X tg (iI i)):GG X tg (ggN i):=PG.mono h fun v σ H Q ⟨δ,ch,F,ρ,c,δ',en,r,hb,k⟩=>by
 cases hb
 exact k _ (en.put r i)
def gH:Fbs:=fun cs _ δ=>match cs with
 | []=>some δ
 | _=>none
def bw (b:Fb) (bs:Fbs):Fbs:=fun cs ch δ=>match cs with
 | c::r=>(b c ch δ).bind (bs r ch)
 | []=>none
def PGs.mono {t t':TGs} (h:PGs X es t) (m:∀ v σ H Q,t' v σ H Q->t v σ H Q):PGs X es t':=fun pins s σ H v u Q I r q=>h pins s σ H v u Q I r (m _ _ _ _ q)
def mx:GGs X [] gH:=PGs.mono pw fun v σ H Q ⟨δ,ch,F,ρ,cs,δ',en,r,hb,k⟩=>by
 unfold gH at hb
 split at hb<;>cases hb
 exact ⟨r,k σ en⟩
def cU {b:Fb} {bs:Fbs} (h:GG X e b) (hr:GGs X es bs) (hs:(assignEach (e::es) X.env).map (·.2)=assign e X.env::(assignEach es X.env).map (·.2):=by rfl):GGs X (e::es) (bw b bs):=PGs.mono (mO h hr hs) fun v σ H Q ⟨δ,ch,F,ρ,cs,δ',en,r,hb,k⟩=>by
 unfold bw at hb
 split at hb<;>first | (cases hb;done) | skip
 obtain ⟨δ1,h1,h2⟩:=bS hb
 obtain ⟨v1,ws,rfl,r1,r2⟩:=r
 exact ⟨v1,ws,rfl,δ,ch,F,ρ,_,δ1,en,r1,h1,fun σ' en'=>⟨δ1,ch,F,ρ,_,δ',en',r2,h2,k⟩⟩
def PG.or {t t':TG} (h:PG X tg t) (h':PG X tg t'):PG X tg (fun v σ H Q=>t v σ H Q∨t' v σ H Q):=fun pins s σ H v u Q I r q=>q.elim (h pins s σ H v u Q I r) (h' pins s σ H v u Q I r)
def rz (ch:CH):CV->Option (List CV)
 | .dat (.lst ds)=>some (ds.map .dat)
 | .ref i=>match ch[i]? with
  | some (.lst l)=>some l
  | _=>none
 | _=>none
def v9 {F H:Hp} {ρ:Nat->Addr} {ch:CH} {c:CV} {v:V} (g:Gh K F H ρ ch) {l:List CV} (h:rz ch c=some l) (r:RelC K F ρ ch.length c v):∃ a vs,v=.ref a/\SqL K H a vs/\RelCs K F ρ ch.length l vs:=by
 unfold rz at h
 split at h
 · rename_i ds
   cases h
   have r:Rep K F (.lst ds) v:=r
   simp only [Rep] at r
   obtain ⟨a,vs,rfl,h1,h2⟩:=r
   exact ⟨a,vs,rfl,Same.seq g.fh h1,RelCs.dats h2⟩
 · rename_i i
   split at h<;>cases h
   rename_i ho
   obtain ⟨vs,h1,h2⟩:=g.ok i _ ho
   exact ⟨_,vs,r.2,SqL.of h1,h2⟩
 · cases h
def ggT (n:Nat) (bs:Fbs):Fb:=fun c ch δ=>match rz ch c with
 | some l=>if l.length=n then bs l ch δ else none
 | none=>(o6 ch c).bind fun l=>if l.length=n then bs l ch δ else none
def o7 {k n:Nat} {bs:Fbs} (hc:X.calm=true) (h:GGs X es bs) (hn:(assignEach es X.env).length=n:=by rfl) (hst:(assignEach es X.env).findIdx? (·.1)=none:=by rfl):GG X (.Tuple es k pos) (ggT n bs):=
 PG.mono (PG.or (yu hc h hn hst) (rU hc h hn hst)) fun v σ H Q ⟨δ,ch,F,ρ,c,δ',en,r,hb,q⟩=>by
  unfold ggT at hb
  split at hb
  · rename_i l hl
    split at hb<;>first | (cases hb;done) | skip
    rename_i hz
    obtain ⟨a,vs,rfl,h1,h2⟩:=v9 en.gh hl r
    exact .inl ⟨a,vs,rfl,h1,by rw [h2.length];exact hz,δ,ch,F,ρ,l,δ',en,h2,hb,q⟩
  · obtain ⟨l,hl,hb1⟩:=bS hb
    split at hb1<;>first | (cases hb1;done) | skip
    rename_i hz
    obtain ⟨a,vs,rfl,h1,h2⟩:=mw en.gh hl r
    exact .inr ⟨a,vs,rfl,h1,by rw [h2.length];exact hz,δ,ch,F,ρ,l,δ',en,h2,hb1,q⟩
def nM (fe:Fg) (b:Fb):Fs:=fun δ ch=>(fe δ ch).bind fun p=>(b p.1 p.2 δ).map fun δ'=>.nx δ' p.2
def xg {b:Fb} (he:GE X e fe) (hg:GG X tg b) (hs:swapsWithSole [tg] e pos.line X.env=pure false:=by rfl) (hw:swappedStores [tg] e X.env=pure none:=by rfl)
  (h1:(assignEach [tg] X.env).map (·.2)=[assign tg X.env]:=by rfl):GS1 X (.Assign [tg] e pos) (nM fe b):=PS.mono (lG he hg hs hw h1) fun D σ H ⟨δ,ch,F,ρ,o,en,hg,k⟩=>by
 unfold nM at hg
 obtain ⟨p,hp,hg1⟩:=bS hg
 obtain ⟨δ',hb,hg2⟩:=mS hg1
 cases hg2
 exact ⟨δ,ch,F,ρ,p.1,p.2,en,hp,fun v F' H' ρ' a r=>⟨δ,p.2,F',ρ',p.1,δ',en.adv a,r,hb,fun σ' en'=>k σ' F' H' ρ' a en'⟩⟩
noncomputable def iY (i:Nat) (b:Fb) (g:Fs):Nat->Nat->Sl->CH->Option Og
 | 0,_,_,_=>none
 | n+1,k,δ,ch=>match ch[i]? with
  | some (.lst l)=>match l[k]? with
   | none=>some (.nx δ ch)
   | some c=>(b c ch δ).bind fun δ1=>(g δ1 ch).bind fun o=>match o with
    | .nx δ2 ch2=>iY i b g n (k+1) δ2 ch2
    | .ct δ2 ch2=>iY i b g n (k+1) δ2 ch2
    | .bk δ2 ch2=>some (.nx δ2 ch2)
    | .rt c ch2=>some (.rt c ch2)
  | _=>none
def jV (fd:Fg) (b:Fb) (g:Fs) (n:Nat):Fs:=fun δ ch=>(fd δ ch).bind fun p=>match p.1 with
 | .ref i=>iY i b g n 0 δ p.2
 | _=>none
def wa {b:Fb} (n:Nat) (hp:PassesOwn (model X.prog X.w) X.A X.env X.xe) (hc:X.calm=true) (hd:GE X iter fa) (hg:GG X tg b) (hb:GS X body g)
  (hs:∀ x,foldedSetIterable iter X.env x=pure x:=by intro _;rfl):GS1 X (.For tg iter body [] pos) (jV fa b g n):=PS.mono (lI hp hc (lH hd) hg hb hs) fun D σ H ⟨δ,ch,F,ρ,og,en,hgg,k⟩=>by
 unfold jV at hgg
 obtain ⟨⟨c1,ch1⟩,hpp,hg1⟩:=bS hgg
 clear hgg
 dsimp only at hg1
 split at hg1<;>first | (cases hg1;done) | skip
 rename_i i
 rw [jb]
 refine ⟨δ,ch,F,ρ,_,ch1,en,hpp,fun v F1 H1 ρ1 a1 r1=>?_⟩
 obtain ⟨hi,rfl⟩:=r1
 have en1:=en.adv a1
 have k1:=k.adv en.gh a1
 refine ⟨ρ1 i,rfl,?_,?_⟩
 · cases n with
   | zero=>cases hg1
   | succ n =>
    unfold iY at hg1
    split at hg1<;>first | (cases hg1;done) | skip
    rename_i l hl
    obtain ⟨vs,q1,_⟩:=a1.gh.ok i _ hl
    exact ⟨vs,SqL.of q1⟩
 refine ⟨fun j m σ' H'=>∃ δ' ch' F' ρ',Adv X.K F1 H1 ρ1 ch1 F' H' ρ' ch'/\Ge X.K δ' ch' σ' F' H' ρ'/\iY i b g m j δ' ch'=some og,⟨n,δ,ch1,F1,ρ1,Adv.refl a1.gh,en1,hg1⟩,?_⟩
 rintro j m σ' H' ⟨δ',ch',F',ρ',a',en',hgo⟩
 cases m with
 | zero=>cases hgo
 | succ m =>
  unfold iY at hgo
  split at hgo<;>first | (cases hgo;done) | skip
  rename_i l hl
  obtain ⟨vs,q1,q2⟩:=a'.gh.ok i _ hl
  rw [a'.ext i hi] at q1
  split at hgo
  · rename_i hj
    cases hgo
    refine .inl ⟨⟨vs,SqL.of q1,?_⟩,k1 σ' F' H' ρ' a' en'⟩
    rw [q2.length]
    exact List.getElem?_eq_none_iff.mp hj
  · rename_i c hj
    obtain ⟨δ1,z1,hgo1⟩:=bS hgo
    obtain ⟨o1,z2,hgo2⟩:=bS hgo1
    clear hgo hgo1
    obtain ⟨v,hv,rv⟩:=q2.get hj
    refine .inr ⟨⟨vs,v,SqL.of q1,hv⟩,fun σ2 H2=>∃ δ' ch' F' ρ',Adv X.K F1 H1 ρ1 ch1 F' H2 ρ' ch'/\Ge X.K δ' ch' σ2 F' H2 ρ'/\iY i b g m (j+1) δ' ch'=some og,fun σ2 H2 z=>⟨m,by omega,z⟩,fun x H'' hy=>?_⟩
    obtain ⟨rfl,hy⟩:=hy
    have hx:=hy vs (SqL.of q1)
    rw [hv] at hx
    cases hx
    refine ⟨δ',ch',F',ρ',c,δ1,en',rv,z1,fun σ1 en2=>⟨δ1,ch',F',ρ',o1,en2,z2,?_⟩⟩
    cases o1 with
    | nx δ2 c2=>exact fun σ2 F3 H3 ρ3 a4 en4=>⟨δ2,c2,F3,ρ3,a'.trans a1.gh a4,en4,hgo2⟩
    | ct δ2 c2=>exact fun σ2 F3 H3 ρ3 a4 en4=>⟨δ2,c2,F3,ρ3,a'.trans a1.gh a4,en4,hgo2⟩
    | bk δ2 c2=>cases hgo2;exact fun σ2 F3 H3 ρ3 a4 en4=>k1 σ2 F3 H3 ρ3 (a'.trans a1.gh a4) en4
    | rt c c2=>cases hgo2;exact fun v F3 H3 ρ3 a4 r=>k1 v F3 H3 ρ3 (a'.trans a1.gh a4) r
def dF {α β:Type} (f:α->Option β):List α->Option (List β)
 | []=>some []
 | a::l=>(f a).bind fun b=>(dF f l).map (b::·)
noncomputable def vwD (ch:CH):Nat->CV->Option Dt
 | _,.dat d=>some d
 | 0,.ref _=>none
 | n+1,.ref i=>match ch[i]? with
  | some (.lst l)=>(dF (vwD ch n) l).map .lst
  | some (.tup l)=>(dF (vwD ch n) l).map .tup
  | some (.dK l)=>(dF (vwD ch n) (l.map (·.2))).map (.dct (l.map (·.1)))
  | some (.dT l)=>(dF (vwD ch n) (l.map (·.2))).map (.dcT (l.map (·.1)))
  | _=>none
def dI {F H:Hp} {ρ:Nat->Addr} {m:Nat} {f:CV->Option Dt} (hf:∀ c v d,RelC K F ρ m c v->f c=some d->Rep K H d v):∀ {l:List CV} {ds:List Dt} {vs:List V},RelCs K F ρ m l vs->dF f l=some ds->Reps K H ds vs
 | [],ds,vs,r,h=>by cases h;simp only [Reps];exact r
 | c::l,ds,vs,r,h=>by
  simp only [dF] at h
  obtain ⟨d,hd,h⟩:=bS h
  obtain ⟨es,he,rfl⟩:=mS h
  obtain ⟨v,ws,rfl,r1,r2⟩:=r
  simp only [Reps]
  exact ⟨v,ws,rfl,hf c v d r1 hd,dI hf r2 he⟩
def qr {F H:Hp} {ρ:Nat->Addr} {ch:CH} (gh:Gh K F H ρ ch):∀ (n:Nat) (c:CV) (v:V) (d:Dt),RelC K F ρ ch.length c v->vwD ch n c=some d->Rep K H d v
 | 0,.dat d',v,d,r,h=>by simp only [vwD] at h;cases h;exact Rep.same gh.fh r
 | n+1,.dat d',v,d,r,h=>by simp only [vwD] at h;cases h;exact Rep.same gh.fh r
 | 0,.ref i,v,d,r,h=>by simp only [vwD] at h;cases h
 | n+1,.ref i,v,d,r,h=>by
  obtain ⟨hi,rfl⟩:=r
  simp only [vwD] at h
  have ih:=qr gh n
  split at h
  · rename_i l hl
    obtain ⟨ds,hd,rfl⟩:=mS h
    obtain ⟨vs,h1,h2⟩:=gh.ok i _ hl
    simp only [Rep]
    exact ⟨_,vs,rfl,SqL.of h1,dI ih h2 hd⟩
  · rename_i l hl
    obtain ⟨ds,hd,rfl⟩:=mS h
    obtain ⟨vs,h1,h2⟩:=gh.ok i _ hl
    simp only [Rep]
    exact ⟨_,vs,rfl,SqT.of h1,dI ih h2 hd⟩
  · rename_i l hl
    obtain ⟨ds,hd,rfl⟩:=mS h
    obtain ⟨vs,h1,h2,h3⟩:=gh.ok i _ hl
    simp only [Rep]
    exact ⟨_,vs,rfl,.inl h1,h2,dI ih h3 hd⟩
  · rename_i l hl
    obtain ⟨ds,hd,rfl⟩:=mS h
    obtain ⟨vs,h1,h2,h3⟩:=gh.ok i _ hl
    simp only [Rep]
    exact ⟨_,vs,rfl,.inl h1,h2,dI ih h3 hd⟩
  · cases h
def nN {α β:Type} {f:α->Option β}:∀ {l:List α} {m:List β},dF f l=some m->m.length=l.length
 | [],m,h=>by cases h;rfl
 | a::l,m,h=>by
  simp only [dF] at h
  obtain ⟨d,hd,h⟩:=bS h
  obtain ⟨es,he,rfl⟩:=mS h
  simp [nN he]
def iF (m:Nat) (ff:List Dt->Option T) (fs:Fgs):Fg:=fun δ ch=>(fs δ ch).bind fun p=>(dF (vwD p.2 m) p.1).bind fun ds=>(ff ds).bind fun u=>(tE u).bind (al p.2)
def dJ (m:Nat) {k n:Nat} {ps:List Str} {ff:List Dt->Option T} (h:bj sc x=true) (F:OkF X.prog X.w X.K X.mg X.base x k ps (spD X.K n ff)) (hr:Room k X.A) (ha:GA X (e::es) fs) (hn:∀ δ ch p,fs δ ch=some p->p.1.length=n) (e1:cW X sc:=by rfl)
  (he:starEach (e::es) X.env=(false,eval e X.env)::starEach es X.env:=by rfl) (hpl:(backTo pos (starEach es X.env)).any (·.1)=false:=by rfl):GE X (.Call (.Name x p) (e::es) [] pos) (iF m ff fs):=
 PE.mono (iB h F hr ha e1 he hpl) fun σ H Q ⟨δ,ch,Fz,ρ,c,ch',en,hf,k⟩=>by
  unfold iF at hf
  obtain ⟨p,hp,hf⟩:=bS hf
  obtain ⟨ds,hd,hf⟩:=bS hf
  obtain ⟨u,hu,hf⟩:=bS hf
  obtain ⟨t,ht,hf⟩:=bS hf
  refine ⟨δ,ch,Fz,ρ,p.1,p.2,en,hp,fun vs F1 H1 ρ1 a1 r1=>?_⟩
  show spD X.K n ff (vs++[]) H1 Q E0
  rw [List.append_nil]
  exact ⟨H1,ds,u,Same.refl _,(nN hd).trans (hn δ ch p hp),dI (qr a1.gh m) r1 hd,hu,tF a1.gh.fh ht (nr a1.gh hf (k.adv en.gh a1))⟩
end
section
variable {c f m:Str} {fa fb fe fk fo fx:Fg} {fs:Fgs} {g:Fd} {δ:Sl} {ch ch1 ch2 ch3:CH} {i:Nat} {ns:List Str} {l cs:List CV} {x v w:CV} {d:Dt} {o o':CO}
def cV (h1:fa δ ch=some (.ref i,ch1)) (h2:ch1[i]?=some (.ins c ns l)) (h3:tK ns l f=some x):eF c f fa δ ch=some (x,ch1):=by
 unfold eF
 rw [h1]
 simp only [Option.bind_some,h2,if_true,h3,Option.map_some]
def em (h1:fo δ ch=some (.ref i,ch1)) (h2:ch1[i]?=some (.ins c ns l)) (h3:m∉ns) (h4:fs δ ch1=some (cs,ch2)):eM c m g fo fs δ ch=g (.ref i::cs) ch2:=by
 unfold eM
 rw [h1]
 simp only [Option.bind_some,h2,h3,not_false_eq_true,and_self,if_true,h4]
def nO (h4:fs δ ch=some (cs,ch2)):eC g fs δ ch=g cs ch2:=by
 unfold eC
 rw [h4,Option.bind_some]
def au (h1:fa δ ch=some (x,ch1)) (h2:fs δ ch1=some (cs,ch2)):ah fa fs δ ch=some (x::cs,ch2):=by
 unfold ah
 rw [h1,Option.bind_some]
 dsimp only
 rw [h2,Option.map_some]
def cr (he:fe δ ch=some (v,ch1)) (ha:fa δ ch1=some (.ref i,ch2)) (hk:fk δ ch2=some (.dat d,ch3)) (ho:ch3[i]?=some o) (hp:tM o d v=some o'):d8 fa fk fe δ ch=some (.nx δ (ch3.set i o')):=by
 unfold d8
 rw [he,Option.bind_some]
 dsimp only
 rw [ha,Option.bind_some]
 dsimp only
 rw [hk,Option.bind_some]
 simp only [ho,Option.bind_some,hp,Option.map_some]
def jW (he:fe δ ch=some (v,ch1)) (ha:fa δ ch1=some (.ref i,ch2)) (ho:ch2[i]?=some (.ins c ns l)) (hn:ns.length<1000):fj c f fa fe δ ch=some (.nx δ (ch2.set i (.ins c (d9 ns l f v).1 (d9 ns l f v).2))):=by
 unfold fj
 rw [he,Option.bind_some]
 dsimp only
 rw [ha,Option.bind_some]
 simp only [ho,hn,and_self,if_true]
def bI (h1:fa δ ch=some (.ref i,ch1)) (h2:fb δ ch1=some (.dat d,ch2)) (ho:ch2[i]?=some o) (hx:ixO o d=some x):eIx fa fb δ ch=some (x,ch2):=by
 unfold eIx
 rw [h1,Option.bind_some]
 dsimp only
 rw [h2,Option.bind_some]
 simp only [ho,Option.bind_some,hx,Option.map_some]
def qu {g:Dt->Dt->Option T} {y z:Dt} {t:T} (h1:fa δ ch=some (x,ch1)) (h2:fb δ ch1=some (v,ch2)) (hx:vw ch2 x=some y) (hv:vw ch2 v=some z) (hg:g y z=some t):e2 g fa fb δ ch=al ch2 t:=by
 unfold e2
 rw [h1,Option.bind_some]
 dsimp only
 rw [h2,Option.bind_some]
 simp only [hx,hv,Option.bind_some,hg]
def xh {g:List Dt->Option T} {ds:List Dt} {t:T} (h1:fs δ ch=some (cs,ch1)) (h2:vws ch1 cs=some ds) (h3:g ds=some t):eB g fs δ ch=al ch1 t:=by
 unfold eB
 rw [h1,Option.bind_some]
 dsimp only
 rw [h2,Option.bind_some,h3,Option.bind_some]
def aF {fd:De->Option Dt} (h:fd (lo δ ch)=some d):eD fd δ ch=some (.dat d,ch):=by
 unfold eD
 rw [h]
 rfl
def ub {ft:De->Option Bool} {b:Bool} (h:ft (lo δ ch)=some b):tD ft δ ch=some (b,ch):=by
 unfold tD
 rw [h]
 rfl
def aN (h:δ[i]?=some (some v)):eV i δ ch=some (v,ch):=by
 unfold eV
 rw [h]
def bG (h:fa δ ch=some (v,ch1)):bO i fa δ ch=some (.nx (δ.set i (some v)) ch1):=by
 unfold bO
 rw [h]
 rfl
def bA (h:fa δ ch=some (v,ch1)):br fa δ ch=some (.rt v ch1):=by
 unfold br
 rw [h]
 rfl
def uc {b:Bool} (h:fa δ ch=some (.dat (.bl b),ch1)):dU fa δ ch=some (b,ch1):=by
 unfold dU
 rw [h]
 rfl
def jX {i:Nat} (hl:i<δ.length):mgS [i] δ ((lo δ ch).set i (some (.leaf d)))=δ.set i (some (.dat d)):=by
 have h2:(lo δ ch).length=δ.length:=fH ch [] δ
 apply List.ext_getElem?
 intro j
 unfold mgS
 rw [List.getElem?_mapIdx]
 by_cases e:i=j
 · subst e
   rw [List.getElem?_set_self hl,gQ hl,List.getElem?_set_self (by rw [h2];exact hl)]
   simp
 · rw [gN e,gN e]
   have e':¬ j=i:=fun z=>e z.symm
   cases h:δ[j]? with
   | none=>rfl
   | some x=>simp [e']
def il {i:Nat} {g:Fs} {r:List Dt} {δ2:Sl} (hl:i<δ.length) (h:g (δ.set i (some (.dat d))) ch=some (.nx δ2 ch2)):fK [i] (aq i) g (d::r) δ ch=fK [i] (aq i) g r δ2 ch2:=by
 show ((aq i d (lo δ ch)).bind fun δ1=>(g (mgS [i] δ δ1) ch).bind fun o=>_)=_
 unfold aq
 rw [Option.bind_some,jX hl,h]
 rfl
def iS {i:Nat} {g:Fs} {I:Sl->CH->Prop} (hI:∀ δ ch,I δ ch->i<δ.length):∀ {ds:List Dt} {δ:Sl} {ch:CH},(∀ d∈ds,∀ δ ch,I δ ch->∃ δ2 ch2,g (δ.set i (some (.dat d))) ch=some (.nx δ2 ch2)/\I δ2 ch2)->I δ ch->∃ δ2 ch2,fK [i] (aq i) g ds δ ch=some (.nx δ2 ch2)/\I δ2 ch2
 | [],δ,ch,_,h=>⟨δ,ch,rfl,h⟩
 | d::ds,δ,ch,hb,h=>by
  obtain ⟨δ1,ch1,e,h1⟩:=hb d (by simp) δ ch h
  rw [il (hI _ _ h) e]
  exact iS hI (fun z hz=>hb z (by simp [hz])) h1
end
open PySem
end L2
seal L2.PE L2.PS L2.PSs L2.PT L2.PW L2.PA L2.PI L2.PG L2.PTs L2.PO L2.PGs L2.dL L2.OpR L2.IxR L2.SlR L2.MtR L2.UnR L2.DO L2.DL L2.DB L2.DT L2.DW L2.DS L2.DS1 L2.R2D L2.CRD L2.MRD L2.DG L2.DGs L2.DIF L2.DIB L2.DTs L2.DP L2.GE L2.GT L2.GW L2.GA L2.GS L2.GS1
namespace P61
open PySem L2
def top (i:Nat):Stmt:=PySem.Challenge.pw_dimhouse_k61_what_stays.main.body.getD i (.Pass ⟨0,0,0,0⟩)
def im (i j:Nat):Stmt:=match top i with
 | .ClassDef _ _ _ body _ _ _ _ _ _ _=>body.getD j (.Pass ⟨0,0,0,0⟩)
 | _=>.Pass ⟨0,0,0,0⟩
noncomputable section
noncomputable def z4:List Dt->Option T:=lW 4 ((cm (dX 3 (toT (toD (bL (ab (kD (.int 10007)) (ab (kD (.int 10009)) (ab (kD (.int 10037)) (ab (kD (.int 10039)) (ab (kD (.int 10061)) (ab (kD (.int 10067)) (ab (kD (.int 10069)) (ab (kD (.int 10079)) am))))))))))))
  (gK (d2 cQ (toD (d2 cQ (toD (d2 cw (toD (d2 cp (vB 0) (kD (.int 48271)))) (toD (d2 cp (kD (.int 7919)) (vB 1))))) (toD (d2 bi (vB 3) (toD (d2 cQ (vB 1) (kD (.int 8)))))))) (vB 2)))))
def z35:De->Option Dt:=(toD (d2 bi (vB 2) (toD (aA z4 (ab (vL 1) (ab (vL 0) (ab (kD (.int 26)) am)))))))
noncomputable def y11:List Dt->Option T:=lW 5 ((cm (dX 2 (toT (kD (.str "abcdefghijklmnopqrstuvwxyz"))))
  (cm (dX 3 (toT (toD (d2 cw (kD (.int 1)) (toD (aA z4 (ab (vL 0) (ab (kD (.int 7)) (ab (kD (.int 6)) am)))))))))
  (cm (dX 4 (ce [none,some 0,some 2] (cP cX (ab (vL 3) am)) (aq 0) bc z35))
  (cm (sZ 4 (toD (aA z4 (ab (vL 0) (ab (kD (.int 3)) (ab (vL 3) am))))) (toD (d2 bi (vB 2) (toD (d2 cQ (toD (d2 cw (toD (aA z4 (ab (vL 0) (ab (kD (.int 4)) (ab (kD (.int 26)) am))))) (vB 1))) (kD (.int 26)))))))
  (gK (qa gS (kD (.str "")) (ab (vB 4) am))))))))
noncomputable def z23:De->Option Out:=(z38 3 (toD (bL (ab (toD (aA y11 (ab (vL 1) (ab (vL 4) am)))) (ab (toD (d2 cQ (toD (d2 cp (toD (d2 cw (vB 0) (toD (d2 cp (kD (.int 31)) (vB 4))))) (kD (.int 94906267)))) (toD (d2 j8 (kD (.int 2)) (kD (.int 40)))))) (ab (toD (d2 (gEq false) (toD (aA z4 (ab (toD (d2 cw (vB 0) (vB 4))) (ab (kD (.int 3)) (ab (kD (.int 2)) am))))) (kD (.int 1)))) am))))))
noncomputable def y23:De->Option Out:=(z38 5 (toD (bL (ab (toD (aA y11 (ab (vL 1) (ab (toD (d2 cw (kD (.int 8)) (vB 4))) am)))) (ab (toD (d2 cw (kD (.int 1)) (toD (aA z4 (ab (toD (d2 cw (vB 0) (vB 4))) (ab (kD (.int 4)) (ab (kD (.int 8)) am))))))) (ab (toD (d2 (gEq false) (toD (aA z4 (ab (toD (d2 cw (vB 0) (vB 4))) (ab (kD (.int 5)) (ab (kD (.int 2)) am))))) (kD (.int 1)))) am))))))
noncomputable def y16:List Dt->Option T:=lW 6 ((cm (dX 2 (toT (toD (bg (ab (toD (aA z4 (ab (vL 0) (ab (kD (.int 0)) (ab (kD (.int 5)) am))))) (ab (toD (aA z4 (ab (vL 0) (ab (kD (.int 1)) (ab (kD (.int 4)) am))))) am))))))
  (cm (sIf (tB2 (gEq false) (toD (aA z4 (ab (vL 0) (ab (kD (.int 2)) (ab (kD (.int 4)) am))))) (kD (.int 1))) (dX 2 (toT (toD (bg (ab (kD (.int 8)) (ab (kD (.int 4)) am)))))) jD)
  (cm (dX 3 (bg am))
  (cm (j7 (cP cX (ab (toD (d2 bi (vB 2) (kD (.int 0)))) am)) (aq 4) z23)
  (cm (dX 5 (bg am))
  (cm (j7 (cP cX (ab (toD (d2 bi (vB 2) (kD (.int 1)))) am)) (aq 4) y23)
  (gK (bL (ab (toD (aA cx (ab (vB 3) am))) (ab (toD (aA cx (ab (vB 5) am))) (ab (toD (d2 jU (toD (bL (ab (toD (bL (ab (kD (.str "end")) (ab (kD (.int 0)) am)))) am))) (kD (.int 60)))) am))))))))))))
noncomputable def q12:List Dt->Option T:=lW 3 ((cm (sIf (tB2 (j9 fun i j=>decide (i<j)) (vB 1) (toD (aA fF (ab (vB 0) am)))) (gK (d2 bi (vB 0) (vB 1))) jD)
  (cm (dX 2 (toT (kD (.int 7))))
  (cm (sIf (tB2 (j9 fun i j=>decide (j<i)) (toD (aA fF (ab (vB 0) am))) (kD (.int 0))) (dX 2 (toT (toD (d2 cQ (toD (d2 bi (vB 0) (toD (d2 cQ (vB 1) (toD (aA fF (ab (vB 0) am))))))) (kD (.int 999983)))))) jD)
  (gK (d2 cQ (toD (d2 cp (toD (d2 cw (toD (d2 cw (vB 2) (toD (d2 cp (kD (.int 613)) (vB 1))))) (kD (.int 29)))) (toD (d2 cw (toD (d2 cw (vB 2) (toD (d2 cp (kD (.int 71)) (vB 1))))) (kD (.int 5)))))) (kD (.int 1000003))))))))
def y26:Fg:=(eT (ah (eD (toD (d2 bi (vB 0) (kD (.int 0))))) (ah (eN (bg (ab (toD (d2 bi (vB 0) (kD (.int 1)))) am))) aD)))
def z22:Fg:=(eT (ah (eD (toD (d2 bi (vB 0) (kD (.int 0))))) (ah (tQ (eN (bg (ab (kD (.int 0)) am))) (eD (toD (d2 bi (vB 0) (kD (.int 1)))))) aD)))
def y22:De->Option Dt:=(toD (bL (ab (vL 0) (ab (kD (.int 0)) am))))
noncomputable def y20:Fd:=dB 3 ((aI (fj "Store" "home" (eV 0) (ie (eh [none] (fIt (toD (d2 bi (vB 1) (kD (.int 0))))) [0] (aq 0) bc y26)))
  (aI (nI (eF "Store" "home" (eV 0)) (ie (eh [none] (fIt (toD (d2 bi (vB 1) (kD (.int 1))))) [0] (aq 0) bc z22)))
  (aI (fj "Store" "heads" (eV 0) (eN (bg (ab (toD (bL (ab (kD (.int 0)) (ab (kD (.int 0)) (ab (kD (.int 0)) (ab (kD (.int 0)) am)))))) (ab (toD (bL (ab (kD (.int 0)) (ab (kD (.int 0)) (ab (kD (.int 0)) (ab (kD (.int 0)) am)))))) am)))))
  (aI (fj "Store" "page_boxes" (eV 0) (eL (ah (eN (ce [none] (fIt (vB 2)) (aq 0) bc y22)) (ah (eN (bg am)) aD))))
  (aI (fj "Store" "page_turns" (eV 0) (eL (ah (eN (bg am)) (ah (eN (bg am)) aD))))
  (aI (fj "Store" "counting" (eV 0) (eN (toT (kD (.int 0)))))
  (fj "Store" "result" (eV 0) (eN (toT (kD .non)))))))))))
def q38:Fs:=(eX (eV 2) (ah (eD (vL 3)) (ah (eD (kD (.int 0))) aD)) (eD (vL 4)))
def z46:Fs:=(eX (eV 2) (ah (eD (vL 3)) (ah (eD (vL 7)) aD)) (eD (kD (.int 0))))
def q30:Fs:=(b8 (cP cX (ab (vL 6) am)) [7] (aq 7) z46)
def z29:De->Option Dt:=(toD (bL (ab (vL 0) (ab (kD (.int 0)) am))))
noncomputable def z26:Fd:=dB 9 ((aI (bO 2 eNT)
  (aI (b8 (fIt (toD (d2 bi (vB 0) (kD (.int 0))))) [3,4,5] (da 3 (aJ (aq 3) (aJ (aq 4) (aJ (aq 5) cZ)))) q38)
  (aI (b8 (fIt (toD (d2 bi (vB 0) (kD (.int 1))))) [3,6,5] (da 3 (aJ (aq 3) (aJ (aq 6) (aJ (aq 5) cZ)))) q30)
  (aI (bO 8 (eL (ah (eN (bg (ab (kD (.int 0)) (ab (kD (.int 0)) (ab (kD (.int 0)) (ab (kD (.int 0)) am)))))) (ah (eN (ce [none] (fIt (vB 1)) (aq 0) bc z29)) (ah (eN (bg am)) aD)))))
  (br (nA [((eD (kD (.str "home"))),(eV 2)),((eD (kD (.str "pages"))),(eL (ah (eV 8) (ah (eL (ah (eN (bg (ab (kD (.int 0)) (ab (kD (.int 0)) (ab (kD (.int 0)) (ab (kD (.int 0)) am)))))) (ah (eN (bg am)) (ah (eN (bg am)) aD)))) aD)))),((eD (kD (.str "face"))),(eN (bg (ab (kD (.int 0)) am)))),((eD (kD (.str "answer"))),(eN (bg (ab (kD .non) am))))])))))))
def z40 (F:List Dt->Option T):De->Option Dt:=(toD (aA F (ab (toD (d2 bi (vB 1) (vB 0))) (ab (toD (d2 bi (vB 2) (vB 0))) am))))
def y41 (F:List Dt->Option T):De->Option Dt:=(toD (aA F (ab (toD (d2 bi (vB 1) (vB 0))) (ab (toD (d2 bi (vB 2) (vB 0))) am))))
noncomputable def q24 (F:List Dt->Option T):List Dt->Option T:=lW 2 ((cm (sIf (oE (toD (h9 "int" (vB 1)))) (gK (rc (toD (h9 "int" (vB 0))) (rc (toD (xZ (toD (h9 "bool" (vB 0))))) (d2 (gEq false) (vB 0) (vB 1))))) jD)
  (cm (sIf (oE (toD (h9 "tuple" (vB 1)))) (cm (sIf (fOr (vz (oE (toD (h9 "tuple" (vB 0))))) (tB2 (gEq true) (toD (aA fF (ab (vB 0) am))) (toD (aA fF (ab (vB 1) am))))) (gK (toT (kD (.bl false)))) jD)
  (gK (aA (oM fun bs=>bs.all id) (ab (toD (ce [none,some 0,some 1] (cP cX (ab (toD (aA fF (ab (vB 1) am))) am)) (aq 0) bc (z40 F))) am)))) jD)
  (cm (sIf (oE (toD (h9 "list" (vB 1)))) (cm (sIf (fOr (vz (oE (toD (h9 "list" (vB 0))))) (tB2 (gEq true) (toD (aA fF (ab (vB 0) am))) (toD (aA fF (ab (vB 1) am))))) (gK (toT (kD (.bl false)))) jD)
  (gK (aA (oM fun bs=>bs.all id) (ab (toD (ce [none,some 0,some 1] (cP cX (ab (toD (aA fF (ab (vB 1) am))) am)) (aq 0) bc (y41 F))) am)))) jD)
  (gK (d2 (gEq false) (vB 0) (vB 1)))))))
def y10:Nat->List Dt->Option T
 | 0=>lW 2 fun _=>none
 | n+1=>q24 (y10 n)
def q26:Fd:=dB 2 ((br (eB kN (ah (eIx (eF "Store" "home" (eV 0)) (eD (vL 1))) aD))))
def q25:Fd:=dB 2 ((br (eTa (eIx (eF "Store" "heads" (eV 0)) (eD (vL 1))) (eT (ah (eB kN (ah (eIx (eF "Store" "page_boxes" (eV 0)) (eD (vL 1))) aD)) (ah (eB kN (ah (eIx (eF "Store" "page_turns" (eV 0)) (eD (vL 1))) aD)) aD))))))
def y19:Fd:=dB 1 ((br (eF "Store" "result" (eV 0))))
def q28:Fd:=dB 1 ((br (eF "Store" "counting" (eV 0))))
def y30:Fd:=dB 2 ((br (eIx (eIx (eF "Store" "home" (eV 0)) (eD (vL 1))) (eD (kD (.int 0))))))
def z25:Fd:=dB 3 ((br (eIx (eIx (eF "Store" "home" (eV 0)) (eD (vL 1))) (eD (vL 2)))))
def y34:Fs:=(fJ (eg (dU (iF 3 (y10 6) (ah (eM "Store" "cell" y30 (eV 0) (ah (eD (vL 3)) aD)) (ah (nH (eIx (eV 2) (eD (kD (.str "home")))) (ah (eD (vL 3)) (ah (eD (kD (.int 0))) aD))) aD))))) (br (eD (kD (.bl false)))) dn)
def z34:Fg:=(nH (eIx (eV 1) (eD (kD (.str "home")))) (ah (eD (vL 2)) (ah (eD (vL 0)) aD)))
noncomputable def q35:Fs:=(aI (bO 7 (eh [none,some 2,some 3] (cP cX (ab (vL 6) am)) [0] (aq 0) bc z34))
  (aI (bO 8 (eM "Store" "shelf" q26 (eV 0) (ah (eD (vL 3)) aD)))
  (aI (fJ (eg (dU (iF 3 (y10 6) (ah (eV 8) (ah (eV 7) aD))))) (br (eD (kD (.bl false)))) dn)
  (lb (eV 8)))))
def z30:Fs:=(fJ (eg (dU (iF 3 (y10 6) (ah (eM "Store" "get_home" z25 (eV 0) (ah (eD (vL 3)) (ah (eD (vL 9)) aD))) (ah (nH (eIx (eV 2) (eD (kD (.str "home")))) (ah (eD (vL 3)) (ah (eD (vL 9)) aD))) aD))))) (br (eD (kD (.bl false)))) dn)
noncomputable def z27:Fs:=(aI (nM (eIx (eIx (eV 2) (eD (kD (.str "pages")))) (eD (vL 10))) (ggT 3 (bw (ggN 11) (bw (ggN 12) (bw (ggN 13) gH)))))
  (aI (bO 14 (eM "Store" "page" q25 (eV 0) (ah (eD (vL 10)) aD)))
  (aI (fJ (eg (dU (iF 3 (y10 6) (ah (eV 14) (ah (eTa (eB cx (ah (eV 11) aD)) (eT (ah (eV 12) (ah (eV 13) aD)))) aD))))) (br (eD (kD (.bl false)))) dn)
  (aI (dS (eIx (eV 14) (eD (kD (.int 4)))) (eD (toD (bL (ab (kD (.str "zz")) (ab (kD (.int 1)) am))))))
  (lb (eIx (eV 14) (eD (kD (.int 5)))))))))
noncomputable def q16:Fd:=dB 15 ((aI (b8 (fIt (toD (d2 bi (vB 1) (kD (.int 0))))) [3,4,5] (da 3 (aJ (aq 3) (aJ (aq 4) (aJ (aq 5) cZ)))) y34)
  (aI (b8 (fIt (toD (d2 bi (vB 1) (kD (.int 1))))) [3,6,5] (da 3 (aJ (aq 3) (aJ (aq 6) (aJ (aq 5) cZ)))) q35)
  (aI (jN (eIx (eV 2) (eD (kD (.str "home")))) [3,9] (da 2 (aJ (aq 3) (aJ (aq 9) cZ))) z30)
  (aI (b8 (cP cX (ab (kD (.int 2)) am)) [10] (aq 10) z27)
  (aI (fJ (eg (dU (iF 3 (y10 6) (ah (eM "Store" "face" q28 (eV 0) aD) (ah (eIx (eIx (eV 2) (eD (kD (.str "face")))) (eD (kD (.int 0)))) aD))))) (br (eD (kD (.bl false)))) dn)
  (aI (fJ (nt (e2 (gIs false) (eIx (eIx (eV 2) (eD (kD (.str "answer")))) (eD (kD (.int 0)))) (eD (kD .non)))) (br (e2 (gIs false) (eM "Store" "answer" y19 (eV 0) aD) (eD (kD .non)))) dn)
  (br (iF 3 (y10 6) (ah (eM "Store" "answer" y19 (eV 0) aD) (ah (eIx (eIx (eV 2) (eD (kD (.str "answer")))) (eD (kD (.int 0)))) aD)))))))))))
def q27:Fd:=dB 2 ((fj "Store" "result" (eV 0) (eN (toT (vL 1)))))
def y8:Fd:=dB 1 ((br (e2 m9 (eD (kD (.int 1))) (eF "Store" "counting" (eV 0)))))
def z15:Fd:=dB 4 ((dS (eIx (eF "Store" "page_turns" (eV 0)) (eM "Store" "other" y8 (eV 0) aD)) (eD (toD (bL (ab (toD (bL (ab (vL 1) (ab (vL 2) am)))) (ab (vL 3) am)))))))
def z17:Fd:=dB 3 ((dS (eIx (eF "Store" "page_boxes" (eV 0)) (eM "Store" "other" y8 (eV 0) aD)) (eD (toD (bL (ab (vL 1) (ab (vL 2) am)))))))
noncomputable def q15:Fd:=dB 5 ((aI (d8 (eF "Store" "heads" (eV 0)) (eM "Store" "other" y8 (eV 0) aD) (eD (toD (bL (ab (vL 1) (ab (vL 2) (ab (vL 3) (ab (vL 4) am))))))))
  (aI (d8 (eF "Store" "page_boxes" (eV 0)) (eM "Store" "other" y8 (eV 0) aD) (eN (bg am)))
  (d8 (eF "Store" "page_turns" (eV 0)) (eM "Store" "other" y8 (eV 0) aD) (eN (bg am))))))
def y27:Fd:=dB 1 ((fj "Store" "counting" (eV 0) (eM "Store" "other" y8 (eV 0) aD)))
def y29:Fd:=dB 4 ((d8 (eIx (eF "Store" "home" (eV 0)) (eD (vL 1))) (eD (vL 2)) (eD (vL 3))))
noncomputable def z28:Fd:=dB 11 ((aI (bO 3 (eD (toD (d2 cQ (toD (d2 cp (vB 2) (kD (.int 94906267)))) (toD (d2 j8 (kD (.int 2)) (kD (.int 40))))))))
  (aI (bO 4 (e2 m9 (eD (kD (.int 1))) (eIx (eIx (eV 1) (eD (kD (.str "face")))) (eD (kD (.int 0))))))
  (aI (bO 5 (eLT (eIx (eV 1) (eD (kD (.str "home"))))))
  (aI (bO 6 (eD (toD (aA z4 (ab (vL 2) (ab (kD (.int 0)) (ab (kD (.int 9)) am)))))))
  (aI (fJ (tD (sO (tB2 (j9 fun i j=>decide (i<j)) (vB 6) (kD (.int 4))) (tB2 (gEq true) (vB 5) (toD (bg am))))) (aI (nu (toD (d2 bi (vB 5) (toD (aA z4 (ab (vL 2) (ab (kD (.int 1)) (ab (toD (aA fF (ab (vB 5) am))) am))))))) [7,8] (da 2 (aJ (aq 7) (aJ (aq 8) cZ))))
  (aI (fJ (tD (tB2 (j9 fun i j=>decide (i<j)) (vB 6) (kD (.int 2)))) (aI (eX (eIx (eV 1) (eD (kD (.str "home")))) (ah (eD (vL 7)) (ah (eD (vL 8)) aD)) (eD (vL 3)))
  (br (eM "Store" "put" y29 (eV 0) (ah (eD (vL 7)) (ah (eD (vL 8)) (ah (eD (vL 3)) aD)))))) dn)
  (aI (dS (eIx (eIx (eIx (eV 1) (eD (kD (.str "pages")))) (eD (vL 4))) (eD (kD (.int 2)))) (eD (toD (bL (ab (toD (bL (ab (vL 7) (ab (vL 8) am)))) (ab (vL 3) am))))))
  (br (eM "Store" "keep_turn" z15 (eV 0) (ah (eD (vL 7)) (ah (eD (vL 8)) (ah (eD (vL 3)) aD)))))))) dn)
  (aI (fJ (tD (tB2 (j9 fun i j=>decide (i<j)) (vB 6) (kD (.int 6)))) (aI (bO 9 (eD (toD (aA y11 (ab (vL 2) (ab (toD (aA z4 (ab (vL 2) (ab (kD (.int 2)) (ab (kD (.int 26)) am))))) am))))))
  (aI (dS (eIx (eIx (eIx (eV 1) (eD (kD (.str "pages")))) (eD (vL 4))) (eD (kD (.int 1)))) (eD (toD (bL (ab (vL 9) (ab (vL 3) am))))))
  (br (eM "Store" "keep_box" z17 (eV 0) (ah (eD (vL 9)) (ah (eD (vL 3)) aD)))))) dn)
  (aI (fJ (tD (tB2 (gEq false) (vB 6) (kD (.int 6)))) (aI (bO 10 (eN (bg (ab (toD (aA z4 (ab (vL 2) (ab (kD (.int 3)) (ab (kD (.int 60)) am))))) (ab (toD (d2 cQ (vB 3) (kD (.int 3000)))) (ab (toD (d2 cQ (toD (d2 iW (vB 3) (kD (.int 7)))) (kD (.int 101)))) (ab (toD (d2 cQ (toD (d2 iW (vB 3) (kD (.int 11)))) (kD (.int 3000)))) am)))))))
  (aI (d8 (eIx (eV 1) (eD (kD (.str "pages")))) (eD (vL 4)) (eL (ah (eV 10) (ah (eN (bg am)) (ah (eN (bg am)) aD)))))
  (br (eM "Store" "begin_page" q15 (eV 0) (ah (eD (toD (d2 bi (vB 10) (kD (.int 0))))) (ah (eD (toD (d2 bi (vB 10) (kD (.int 1))))) (ah (eD (toD (d2 bi (vB 10) (kD (.int 2))))) (ah (eD (toD (d2 bi (vB 10) (kD (.int 3))))) aD)))))))) dn)
  (aI (fJ (tD (tB2 (gEq false) (vB 6) (kD (.int 7)))) (aI (d8 (eIx (eV 1) (eD (kD (.str "face")))) (eD (kD (.int 0))) (eD (vL 4)))
  (br (eM "Store" "turn" y27 (eV 0) aD))) dn)
  (aI (d8 (eIx (eV 1) (eD (kD (.str "answer")))) (eD (kD (.int 0))) (eD (vL 3)))
  (br (eM "Store" "give" q27 (eV 0) (ah (eD (vL 3)) aD)))))))))))))
def q43:De->Option Dt:=(toD (aA y11 (ab (vL 1) (ab (vL 0) am))))
noncomputable def z53:Fs:=(aI (bO 3 (eD (toD (aA y16 (ab (toD (aA q12 (ab (vL 0) (ab (toD (d2 cp (kD (.int 2)) (vB 2))) am)))) (ab (toD (aA q12 (ab (vL 0) (ab (toD (d2 cw (toD (d2 cp (kD (.int 2)) (vB 2))) (kD (.int 1)))) am)))) am))))))
  (aI (bO 4 (eD (toD (aA q12 (ab (vL 0) (ab (toD (d2 cw (kD (.int 4)) (vB 2))) am))))))
  (aI (bO 5 (eD (toD (aA cx (ab (toD (aA dD (ab (toD (ce [none,some 4] (cP cX (ab (toD (aA z4 (ab (vL 4) (ab (kD (.int 2)) (ab (kD (.int 6)) am))))) am)) (aq 0) bc q43)) am))) am)))))
  (aI (bO 6 (eMk "Store" y20 (ah (eD (vL 3)) (ah (eD (vL 5)) aD))))
  (aI (bO 7 (eC z26 (ah (eD (vL 3)) (ah (eD (vL 5)) aD))))
  (aI (fJ (eg (dU (eC q16 (ah (eV 6) (ah (eD (vL 3)) (ah (eV 7) aD)))))) (br (eD (kD (.bl false)))) dn)
  (dS (eV 1) (eL (ah (eV 6) (ah (eD (vL 3)) (ah (eV 7) aD)))))))))))
noncomputable def z43:Fs:=(aI (nM (eIx (eV 1) (eD (toD (aA z4 (ab (vL 4) (ab (kD (.int 7)) (ab (kD (.int 2)) am))))))) (ggT 3 (bw (ggN 6) (bw (ggN 3) (bw (ggN 7) gH)))))
  (fJ (vS (nt (e2 (gIs true) (eC z28 (ah (eV 6) (ah (eV 7) (ah (eD (vL 4)) aD)))) (eD (kD .non)))) (eg (dU (eC q16 (ah (eV 6) (ah (eD (vL 3)) (ah (eV 7) aD))))))) (br (eD (kD (.bl false)))) dn))
def q53:Fs:=(fJ (eg (dU (eC q16 (ah (eV 6) (ah (eD (vL 3)) (ah (eV 7) aD)))))) (br (eD (kD (.bl false)))) dn)
noncomputable def qv:Fd:=dB 8 ((aI (bO 1 (eN (bg am)))
  (aI (b8 (cP cX (ab (kD (.int 2)) am)) [2] (aq 2) z53)
  (aI (b8 (fIt (toD (vSl (vB 0) (iP (kD (.int 8))) (iP (kD (.int 48)))))) [4] (aq 4) z43)
  (aI (jV (eV 1) (ggT 3 (bw (ggN 6) (bw (ggN 3) (bw (ggN 7) gH)))) q53 100000)
  (br (eD (kD (.bl true)))))))))
end
structure Txt (P:Program) (w:World) (K:PySem.W.Frag) (mg:Str->Option Value):Prop where
 n_all:mg "all"=none
 n_bool:mg "bool"=none
 n_dict:mg "dict"=none
 n_int:mg "int"=none
 n_isinstance:mg "isinstance"=none
 n_len:mg "len"=none
 n_list:mg "list"=none
 n_range:mg "range"=none
 n_sorted:mg "sorted"=none
 n_tuple:mg "tuple"=none
 k_int:jG K "int"
 k_bool:jG K "bool"
 k_tuple:jG K "tuple"
 k_list:jG K "list"
 f_Store_counting:nq K "Store" "counting"
 f_Store_heads:nq K "Store" "heads"
 f_Store_home:nq K "Store" "home"
 f_Store_page_boxes:nq K "Store" "page_boxes"
 f_Store_page_turns:nq K "Store" "page_turns"
 f_Store_result:nq K "Store" "result"
section
variable {P:Program} {w:World} {K:PySem.W.Frag} {mg:Str->Option Value} {base:Heap}
abbrev q29:Stmt:=top 4
def q49:FnScope ["_law_cell_here","_law_j","_law_many","_law_primes"] ["_law_cell_here","_law_j","_law_many"] (ac q29):=⟨rfl,rfl,rfl,by decide +kernel,rfl,by decide +kernel,by decide +kernel⟩
def bW:de (ac q29) ["_law_cell_here","_law_j","_law_many","_law_primes"]=true:=by decide +kernel
def y63 (T:Txt P w K mg) (D:DefF K mg "_law_part" q29 ["_law_cell_here","_law_j","_law_many"]):OkF P w K mg base "_law_part" 1 ["_law_cell_here","_law_j","_law_many"] (spD K 3 z4):=
 kM D q49 rfl fun f cdv A outer s H E hr=>(bE (fE (nsN bW 3) (nsL bW 3) q49.nd (DL.toO (DO.toL (b7 (ae aj (ae aj (ae aj (ae aj (ae aj (ae aj (ae aj (ae aj az))))))))))))
     (cv (dO (aS dt fP (DO.toB (aS dt fP (DO.toB (aS bU dQ (DO.toB (aS eJ gF (av (pvN 0 bW)) (DL.toB aj))) (DO.toB (aS eJ gF (DL.toB aj) (av (pvN 1 bW)))))) (DO.toB (bv hr (av (pvN 3 bW)) (DO.toB (aS dt fP (av (pvN 1 bW)) (DL.toB aj))))))) (av (pvN 2 bW))))))
abbrev z11:Stmt:=top 5
def z37:FnScope ["_law_base","_law_k","_law_letters","_law_size","_law_some"] ["_law_base","_law_k"] (ac z11):=⟨rfl,rfl,rfl,by decide +kernel,rfl,by decide +kernel,by decide +kernel⟩
def aY:de (ac z11) ["_law_base","_law_k","_law_letters","_law_size","_law_some"]=true:=by decide +kernel
def y28:bj (ac z11) "_law_part"=true:=by decide +kernel
def q50:bj (ac z11) "range"=true:=by decide +kernel
def z64 (T:Txt P w K mg) (D:DefF K mg "_law_name" z11 ["_law_base","_law_k"]) (z8:OkF P w K mg base "_law_part" 1 ["_law_cell_here","_law_j","_law_many"] (spD K 3 (z4))):OkF P w K mg base "_law_name" 2 ["_law_base","_law_k"] (spD K 2 y11):=
 kM D z37 rfl fun f cdv A outer s H E hr=>(bE (fE (nsN aY 2) (nsL aY 2) z37.nd (DL.toO bC))
     (bE (fE (nsN aY 3) (nsL aY 3) z37.nd (DL.toO (DO.toL (aS bU dQ (DL.toB aj) (DO.toB (aW y28 z8 (hr.mono (by decide)) (ae (ar (pvN 0 aY)) (ae aj (ae aj az)))))))))
     (bE (vP (nsN aY 4) (nsL aY 4) z37.nd (M:=["_law_j","_law_base","_law_letters"]) (src:=[none,some 0,some 2]) (ts:=[0]) (CmpScope.of (N:=["_law_base","_law_k","_law_letters","_law_size","_law_some"]) (outer:=ac z11) (by decide +kernel)) rfl (DIF.toB (b5 q50 T.n_range (ae (ar (pvN 3 aY)) az))) (fun nd _ _ _ _=>(aX (cN (N:=["_law_j","_law_base","_law_letters"]) (i:=0) (by decide +kernel) (by decide +kernel) nd (scC (outer:=ac z11) (by exact rfl))))) (fun _ _ _ _=>dz) (fun _ _ _ _=>(DO.toL (bv hr (av (pvD (N:=["_law_j","_law_base","_law_letters"]) 2 (by decide +kernel) (scC (outer:=ac z11) rfl))) (DO.toB (aW (by decide +kernel) z8 (hr.mono (by decide)) (ae (ar (pvD (N:=["_law_j","_law_base","_law_letters"]) 1 (by decide +kernel) (scC (outer:=ac z11) rfl))) (ae (ar (pvD (N:=["_law_j","_law_base","_law_letters"]) 0 (by decide +kernel) (scC (outer:=ac z11) rfl))) (ae aj az))) (e1:=(scC (outer:=ac z11) rfl))))))) (by decide +kernel))
     (bE (yf hr (pvN 4 aY) (DO.toB (aW y28 z8 (hr.mono (by decide)) (ae (ar (pvN 0 aY)) (ae aj (ae (ar (pvN 3 aY)) az))))) (DO.toL (bv hr (av (pvN 2 aY)) (DO.toB (aS dt fP (DO.toB (aS bU dQ (DO.toB (aW y28 z8 (hr.mono (by decide)) (ae (ar (pvN 0 aY)) (ae aj (ae aj az))))) (av (pvN 1 aY)))) (DL.toB aj))))))
     (cv (dO (vN (DL.toB bC) (bu (av (pvN 4 aY)) bK))))))))
abbrev z13:Stmt:=top 6
def q20:FnScope ["_law_cell_here","_law_base","_law_sizes","_law_cells","_law_k","_law_shelves"] ["_law_cell_here","_law_base"] (ac z13):=⟨rfl,rfl,rfl,by decide +kernel,rfl,by decide +kernel,by decide +kernel⟩
def ap:de (ac z13) ["_law_cell_here","_law_base","_law_sizes","_law_cells","_law_k","_law_shelves"]=true:=by decide +kernel
def y12:bj (ac z13) "_law_part"=true:=by decide +kernel
def q37:bj (ac z13) "range"=true:=by decide +kernel
def y31:bj (ac z13) "_law_name"=true:=by decide +kernel
def y36:bj (ac z13) "tuple"=true:=by decide +kernel
def y56 (T:Txt P w K mg) (D:DefF K mg "_law_program" z13 ["_law_cell_here","_law_base"]) (z19:OkF P w K mg base "_law_name" 2 ["_law_base","_law_k"] (spD K 2 (y11))) (z8:OkF P w K mg base "_law_part" 1 ["_law_cell_here","_law_j","_law_many"] (spD K 3 (z4))):OkF P w K mg base "_law_program" 3 ["_law_cell_here","_law_base"] (spD K 2 y16):=
 kM D q20 rfl fun f cdv A outer s H E hr=>(bE (fE (nsN ap 2) (nsL ap 2) q20.nd (DL.toO (DO.toL (bD (ae (DO.toL (aW y12 z8 (hr.mono (by decide)) (ae (ar (pvN 0 ap)) (ae aj (ae aj az))))) (ae (DO.toL (aW y12 z8 (hr.mono (by decide)) (ae (ar (pvN 0 ap)) (ae aj (ae aj az))))) az))))))
     (bE (iM (dN (gO hr) oK (DO.toB (aW y12 z8 (hr.mono (by decide)) (ae (ar (pvN 0 ap)) (ae aj (ae aj az))))) (DL.toB aj) (b6 _)) (cv (fE (nsN ap 2) (nsL ap 2) q20.nd (DL.toO (DO.toL (bD (ae aj (ae aj az))))))) fZ)
     (bE (fE (nsN ap 3) (nsL ap 3) q20.nd (bD az))
     (bE (sU PassesOwn.never rfl (b5 q37 T.n_range (ae (DO.toL (bv hr (av (pvN 2 ap)) (DL.toB aj))) az)) (aX (aM (nsN ap 4) (nsL ap 4) q20.nd)) (cv (kO (pvN 3 ap) (DO.toL (b7 (ae (DO.toL (aW y31 z19 (hr.mono (by decide)) (ae (ar (pvN 1 ap)) (ae (ar (pvN 4 ap)) az)))) (ae (DO.toL (aS dt fP (DO.toB (aS eJ gF (DO.toB (aS bU dQ (av (pvN 0 ap)) (DO.toB (aS eJ gF (DL.toB aj) (av (pvN 4 ap)))))) (DL.toB aj))) (DO.toB (aS rZ wZ (DL.toB aj) (DL.toB aj))))) (ae (DO.toL (lV (gO hr) oK (DO.toB (aW y12 z8 (hr.mono (by decide)) (ae (DO.toL (aS bU dQ (av (pvN 0 ap)) (av (pvN 4 ap)))) (ae aj (ae aj az))))) (DL.toB aj) (b6 _))) az))))))))
     (bE (fE (nsN ap 5) (nsL ap 5) q20.nd (bD az))
     (bE (sU PassesOwn.never rfl (b5 q37 T.n_range (ae (DO.toL (bv hr (av (pvN 2 ap)) (DL.toB aj))) az)) (aX (aM (nsN ap 4) (nsL ap 4) q20.nd)) (cv (kO (pvN 5 ap) (DO.toL (b7 (ae (DO.toL (aW y31 z19 (hr.mono (by decide)) (ae (ar (pvN 1 ap)) (ae (DO.toL (aS bU dQ (DL.toB aj) (av (pvN 4 ap)))) az)))) (ae (DO.toL (aS bU dQ (DL.toB aj) (DO.toB (aW y12 z8 (hr.mono (by decide)) (ae (DO.toL (aS bU dQ (av (pvN 0 ap)) (av (pvN 4 ap)))) (ae aj (ae aj az))))))) (ae (DO.toL (lV (gO hr) oK (DO.toB (aW y12 z8 (hr.mono (by decide)) (ae (DO.toL (aS bU dQ (av (pvN 0 ap)) (av (pvN 4 ap)))) (ae aj (ae aj az))))) (DL.toB aj) (b6 _))) az))))))))
     (cv (dO (b7 (ae (DO.toL (jC y36 dh jf T.n_tuple eY (bu (av (pvN 3 ap)) bK))) (ae (DO.toL (jC y36 dh jf T.n_tuple eY (bu (av (pvN 5 ap)) bK))) (ae (DO.toL (aS v8 yz (DO.toB (b7 (ae (DO.toL (b7 (ae bC (ae aj az)))) az))) (DL.toB aj))) az))))))))))))
abbrev y25:Stmt:=top 3
def z45:FnScope ["_law_script","_law_k","_law_seed"] ["_law_script","_law_k"] (ac y25):=⟨rfl,rfl,rfl,by decide +kernel,rfl,by decide +kernel,by decide +kernel⟩
def aV:de (ac y25) ["_law_script","_law_k","_law_seed"]=true:=by decide +kernel
def q36:bj (ac y25) "len"=true:=by decide +kernel
def q64 (T:Txt P w K mg) (D:DefF K mg "_law_cell" y25 ["_law_script","_law_k"]):OkF P w K mg base "_law_cell" 1 ["_law_script","_law_k"] (spD K 2 q12):=
 kM D z45 rfl fun f cdv A outer s H E hr=>(bE (iM (dN pD na (av (pvN 1 aV)) (DO.toB (bP q36 cj gG T.n_len eQ (bu (av (pvN 0 aV)) bK))) (b6 _)) (cv (dO (bv hr (av (pvN 0 aV)) (av (pvN 1 aV))))) fZ)
     (bE (fE (nsN aV 2) (nsL aV 2) z45.nd (DL.toO aj))
     (bE (iM (dN y0 na (DO.toB (bP q36 cj gG T.n_len eQ (bu (av (pvN 0 aV)) bK))) (DL.toB aj) (b6 _)) (cv (fE (nsN aV 2) (nsL aV 2) z45.nd (DL.toO (DO.toL (aS dt fP (DO.toB (bv hr (av (pvN 0 aV)) (DO.toB (aS dt fP (av (pvN 1 aV)) (DO.toB (bP q36 cj gG T.n_len eQ (bu (av (pvN 0 aV)) bK))))))) (DL.toB aj)))))) fZ)
     (cv (dO (aS dt fP (DO.toB (aS eJ gF (DO.toB (aS bU dQ (DO.toB (aS bU dQ (av (pvN 2 aV)) (DO.toB (aS eJ gF (DL.toB aj) (av (pvN 1 aV)))))) (DL.toB aj))) (DO.toB (aS bU dQ (DO.toB (aS bU dQ (av (pvN 2 aV)) (DO.toB (aS eJ gF (DL.toB aj) (av (pvN 1 aV)))))) (DL.toB aj))))) (DL.toB aj)))))))
abbrev z5:Stmt:=im 1 0
def y50:FnScope ["self","program","begin"] ["self","program","begin"] (ac z5):=⟨rfl,rfl,rfl,by decide +kernel,rfl,by decide +kernel,by decide +kernel⟩
def aQ:de (ac z5) ["self","program","begin"]=true:=by decide +kernel
def z32:bj (ac z5) "dict"=true:=by decide +kernel
def q51 (T:Txt P w K mg) (D:DefI K mg "Store" "Store.__init__" z5 ["self","program","begin"]):OkI P w K mg base "Store" 1 ["self","program","begin"] (spG K 3 (y20)):=
 vU D y50 rfl fun f cdv A outer s H E hr=>(aE (ee (aw (pvN 0 aQ)) T.f_Store_home (qk z32 rfl T.n_dict pP (ql (M:=["head"]) (src:=[none]) (ts:=[0]) (CmpScope.of (N:=["self","program","begin"]) (outer:=ac z5) (by decide +kernel)) rfl (gM (DO.toL (bv hr (av (pvN 1 aQ)) (DL.toB aj)))) (fun nd _ _ _ _=>(aX (cN (N:=["head"]) (i:=0) (by decide +kernel) (by decide +kernel) nd (scC (outer:=ac z5) (by exact rfl))))) (fun _ _ _ _=>dz) (fun _ _ _ _=>(me (ao (ak (DO.toL (bv hr (av (pvD (N:=["head"]) 0 (by decide +kernel) (scC (outer:=ac z5) rfl))) (DL.toB aj)))) (ao (bF (bD (ae (DO.toL (bv hr (av (pvD (N:=["head"]) 0 (by decide +kernel) (scC (outer:=ac z5) rfl))) (DL.toB aj))) az))) aT)))) (by decide +kernel))))
     (aE (yy (cf (aw (pvN 0 aQ)) T.f_Store_home) (qk z32 rfl T.n_dict pP (ql (M:=["head"]) (src:=[none]) (ts:=[0]) (CmpScope.of (N:=["self","program","begin"]) (outer:=ac z5) (by decide +kernel)) rfl (gM (DO.toL (bv hr (av (pvN 1 aQ)) (DL.toB aj)))) (fun nd _ _ _ _=>(aX (cN (N:=["head"]) (i:=0) (by decide +kernel) (by decide +kernel) nd (scC (outer:=ac z5) (by exact rfl))))) (fun _ _ _ _=>dz) (fun _ _ _ _=>(me (ao (ak (DO.toL (bv hr (av (pvD (N:=["head"]) 0 (by decide +kernel) (scC (outer:=ac z5) rfl))) (DL.toB aj)))) (ao (yr (bF (bD (ae aj az))) (ak (DO.toL (bv hr (av (pvD (N:=["head"]) 0 (by decide +kernel) (scC (outer:=ac z5) rfl))) (DL.toB aj))))) aT)))) (by decide +kernel))))
     (aE (ee (aw (pvN 0 aQ)) T.f_Store_heads (bF (bD (ae (DO.toL (b7 (ae aj (ae aj (ae aj (ae aj az)))))) (ae (DO.toL (b7 (ae aj (ae aj (ae aj (ae aj az)))))) az)))))
     (aE (ee (aw (pvN 0 aQ)) T.f_Store_page_boxes (gU (ao (bF (hZ (M:=["box"]) (src:=[none]) (ts:=[0]) (CmpScope.of (N:=["self","program","begin"]) (outer:=ac z5) (by decide +kernel)) rfl (p6 (av (pvN 2 aQ))) (fun nd _ _ _ _=>(aX (cN (N:=["box"]) (i:=0) (by decide +kernel) (by decide +kernel) nd (scC (outer:=ac z5) (by exact rfl))))) (fun _ _ _ _=>dz) (fun _ _ _ _=>(DO.toL (b7 (ae (ar (pvD (N:=["box"]) 0 (by decide +kernel) (scC (outer:=ac z5) rfl))) (ae aj az))))) (by decide +kernel))) (ao (bF (bD az)) aT))))
     (aE (ee (aw (pvN 0 aQ)) T.f_Store_page_turns (gU (ao (bF (bD az)) (ao (bF (bD az)) aT))))
     (aE (ee (aw (pvN 0 aQ)) T.f_Store_counting (bF (DL.toO aj)))
     (aU (ee (aw (pvN 0 aQ)) T.f_Store_result (bF (DL.toO jB))))))))))
abbrev y15:Stmt:=top 7
def z16:FnScope ["_law_program_here","_law_begin","_law_home","_law_name_here","_law_start","_law_twin","_law_size","_law_place","_law_front"] ["_law_program_here","_law_begin"] (ac y15):=⟨rfl,rfl,rfl,by decide +kernel,rfl,by decide +kernel,by decide +kernel⟩
def ay:de (ac y15) ["_law_program_here","_law_begin","_law_home","_law_name_here","_law_start","_law_twin","_law_size","_law_place","_law_front"]=true:=by decide +kernel
def z48:bj (ac y15) "range"=true:=by decide +kernel
def z62 (T:Txt P w K mg) (D:DefF K mg "_law_model" y15 ["_law_program_here","_law_begin"]):OkF P w K mg base "_law_model" 1 ["_law_program_here","_law_begin"] (spG K 2 (z26)):=
 mj D z16 rfl fun f cdv A outer s H E hr=>(aE (cg (nsN ay 2) (nsL ay 2) z16.nd v5)
     (aE (gd PassesOwn.never rfl (gM (DO.toL (bv hr (av (pvN 0 ay)) (DL.toB aj)))) (iC rfl (bz (aX (aM (nsN ay 3) (nsL ay 3) z16.nd)) (bz (aX (aM (nsN ay 4) (nsL ay 4) z16.nd)) (bz (aX (aM (nsN ay 5) (nsL ay 5) z16.nd)) gy)))) (aU (mv hr (aw (pvN 2 ay)) (ao (ak (ar (pvN 3 ay))) (ao (ak aj) aT)) (ak (ar (pvN 4 ay))))))
     (aE (gd PassesOwn.never rfl (gM (DO.toL (bv hr (av (pvN 0 ay)) (DL.toB aj)))) (iC rfl (bz (aX (aM (nsN ay 3) (nsL ay 3) z16.nd)) (bz (aX (aM (nsN ay 6) (nsL ay 6) z16.nd)) (bz (aX (aM (nsN ay 5) (nsL ay 5) z16.nd)) gy)))) (aU (gd PassesOwn.never rfl (b5 z48 T.n_range (ae (ar (pvN 6 ay)) az)) (aX (aM (nsN ay 7) (nsL ay 7) z16.nd)) (aU (mv hr (aw (pvN 2 ay)) (ao (ak (ar (pvN 3 ay))) (ao (ak (ar (pvN 7 ay))) aT)) (ak aj))))))
     (aE (cg (nsN ay 8) (nsL ay 8) z16.nd (gU (ao (bF (bD (ae aj (ae aj (ae aj (ae aj az)))))) (ao (bF (hZ (M:=["_law_name_here"]) (src:=[none]) (ts:=[0]) (CmpScope.of (N:=["_law_program_here","_law_begin","_law_home","_law_name_here","_law_start","_law_twin","_law_size","_law_place","_law_front"]) (outer:=ac y15) (by decide +kernel)) rfl (p6 (av (pvN 1 ay))) (fun nd _ _ _ _=>(aX (cN (N:=["_law_name_here"]) (i:=0) (by decide +kernel) (by decide +kernel) nd (scC (outer:=ac y15) (by exact rfl))))) (fun _ _ _ _=>dz) (fun _ _ _ _=>(DO.toL (b7 (ae (ar (pvD (N:=["_law_name_here"]) 0 (by decide +kernel) (scC (outer:=ac y15) rfl))) (ae aj az))))) (by decide +kernel))) (ao (bF (bD az)) aT)))))
     (aU (bx (vW (fps:=[((eD (kD (.str "home"))),(eV 2)),((eD (kD (.str "pages"))),(eL (ah (eV 8) (ah (eL (ah (eN (bg (ab (kD (.int 0)) (ab (kD (.int 0)) (ab (kD (.int 0)) (ab (kD (.int 0)) am)))))) (ah (eN (bg am)) (ah (eN (bg am)) aD)))) aD)))),((eD (kD (.str "face"))),(eN (bg (ab (kD (.int 0)) am)))),((eD (kD (.str "answer"))),(eN (bg (ab (kD .non) am))))]) (ig (ak bC) (aw (pvN 2 ay)) (ig (ak bC) (gU (ao (aw (pvN 8 ay)) (ao (gU (ao (bF (bD (ae aj (ae aj (ae aj (ae aj az)))))) (ao (bF (bD az)) (ao (bF (bD az)) aT)))) aT))) (ig (ak bC) (bF (bD (ae aj az))) (ig (ak bC) (bF (bD (ae jB az))) vX)))) rfl rfl (by simp) (by decide))))))))
abbrev z6:Stmt:=top 8
def y52:FnScope ["_law_found","_law_due"] ["_law_found","_law_due"] (ac z6):=⟨rfl,rfl,rfl,by decide +kernel,rfl,by decide +kernel,by decide +kernel⟩
def aP:de (ac z6) ["_law_found","_law_due"]=true:=by decide +kernel
def z10:bj (ac z6) "isinstance"=true:=by decide +kernel
def y44:bj (ac z6) "int"=true:=by decide +kernel
def z54:bj (ac z6) "bool"=true:=by decide +kernel
def y39:bj (ac z6) "tuple"=true:=by decide +kernel
def q23:bj (ac z6) "len"=true:=by decide +kernel
def q40:bj (ac z6) "range"=true:=by decide +kernel
def q44:bj (ac z6) "all"=true:=by decide +kernel
def y42:bj (ac z6) "list"=true:=by decide +kernel
def z49 (T:Txt P w K mg) (D:DefF K mg "_law_same" z6 ["_law_found","_law_due"]):∀ n:Nat,OkF P w K mg base "_law_same" (1+n) ["_law_found","_law_due"] (spD K 2 (y10 n))
 | 0=>kM (k:=0) D y52 rfl fun f cdv A outer s H E hr=>zr
 | n+1=>by
  have q18:=z49 T D  n
  exact (show OkF P w K mg base "_law_same" (1+n+1) ["_law_found","_law_due"] (spD K 2 (q24 (y10 n))) from kM D y52 rfl fun f cdv A outer s H E hr=>(bE (iM (fY (DO.toB (db z10 y44 T.n_isinstance T.n_int sI T.k_int (av (pvN 1 aP)))) (fun _=>rfl)) (cv (dO (sR (DO.toB (db z10 y44 T.n_isinstance T.n_int sI T.k_int (av (pvN 0 aP)))) (sR (DO.toB (ya (DO.toB (db z10 z54 T.n_isinstance T.n_bool vo T.k_bool (av (pvN 0 aP)))))) (yb (lV (gO hr) oK (av (pvN 0 aP)) (av (pvN 1 aP)) (b6 _))))))) fZ)
   (bE (iM (fY (DO.toB (db z10 y39 T.n_isinstance T.n_tuple eY T.k_tuple (av (pvN 1 aP)))) (fun _=>rfl)) (bE (iM (DW.t (wV (sP (fY (DO.toB (db z10 y39 T.n_isinstance T.n_tuple eY T.k_tuple (av (pvN 0 aP)))) (fun _=>rfl))) (sQ (dN (oJ hr) yc (DO.toB (bP q23 cj gG T.n_len eQ (bu (av (pvN 0 aP)) bK))) (DO.toB (bP q23 cj gG T.n_len eQ (bu (av (pvN 1 aP)) bK))) (b6 _))))) (cv (dO (DL.toO fX))) fZ)
   (cv (dO (bP q44 (m3 rfl) (w4 (f:=fun bs=>bs.all id)) T.n_all sH (bu (DO.toB (hZ (M:=["_law_k","_law_found","_law_due"]) (src:=[none,some 0,some 1]) (ts:=[0]) (CmpScope.of (N:=["_law_found","_law_due"]) (outer:=ac z6) (by decide +kernel)) rfl (DIF.toB (b5 q40 T.n_range (ae (DO.toL (bP q23 cj gG T.n_len eQ (bu (av (pvN 1 aP)) bK))) az))) (fun nd _ _ _ _=>(aX (cN (N:=["_law_k","_law_found","_law_due"]) (i:=0) (by decide +kernel) (by decide +kernel) nd (scC (outer:=ac z6) (by exact rfl))))) (fun _ _ _ _=>dz) (fun _ _ _ _=>(DO.toL (aW (by decide +kernel) q18 (hr.mono (by omega)) (ae (DO.toL (bv hr (av (pvD (N:=["_law_k","_law_found","_law_due"]) 1 (by decide +kernel) (scC (outer:=ac z6) rfl))) (av (pvD (N:=["_law_k","_law_found","_law_due"]) 0 (by decide +kernel) (scC (outer:=ac z6) rfl))))) (ae (DO.toL (bv hr (av (pvD (N:=["_law_k","_law_found","_law_due"]) 2 (by decide +kernel) (scC (outer:=ac z6) rfl))) (av (pvD (N:=["_law_k","_law_found","_law_due"]) 0 (by decide +kernel) (scC (outer:=ac z6) rfl))))) az)) (e1:=(scC (outer:=ac z6) rfl))))) (by decide +kernel))) bK))))) fZ)
   (bE (iM (fY (DO.toB (db z10 y42 T.n_isinstance T.n_list gw T.k_list (av (pvN 1 aP)))) (fun _=>rfl)) (bE (iM (DW.t (wV (sP (fY (DO.toB (db z10 y42 T.n_isinstance T.n_list gw T.k_list (av (pvN 0 aP)))) (fun _=>rfl))) (sQ (dN (oJ hr) yc (DO.toB (bP q23 cj gG T.n_len eQ (bu (av (pvN 0 aP)) bK))) (DO.toB (bP q23 cj gG T.n_len eQ (bu (av (pvN 1 aP)) bK))) (b6 _))))) (cv (dO (DL.toO fX))) fZ)
   (cv (dO (bP q44 (m3 rfl) (w4 (f:=fun bs=>bs.all id)) T.n_all sH (bu (DO.toB (hZ (M:=["_law_k","_law_found","_law_due"]) (src:=[none,some 0,some 1]) (ts:=[0]) (CmpScope.of (N:=["_law_found","_law_due"]) (outer:=ac z6) (by decide +kernel)) rfl (DIF.toB (b5 q40 T.n_range (ae (DO.toL (bP q23 cj gG T.n_len eQ (bu (av (pvN 1 aP)) bK))) az))) (fun nd _ _ _ _=>(aX (cN (N:=["_law_k","_law_found","_law_due"]) (i:=0) (by decide +kernel) (by decide +kernel) nd (scC (outer:=ac z6) (by exact rfl))))) (fun _ _ _ _=>dz) (fun _ _ _ _=>(DO.toL (aW (by decide +kernel) q18 (hr.mono (by omega)) (ae (DO.toL (bv hr (av (pvD (N:=["_law_k","_law_found","_law_due"]) 1 (by decide +kernel) (scC (outer:=ac z6) rfl))) (av (pvD (N:=["_law_k","_law_found","_law_due"]) 0 (by decide +kernel) (scC (outer:=ac z6) rfl))))) (ae (DO.toL (bv hr (av (pvD (N:=["_law_k","_law_found","_law_due"]) 2 (by decide +kernel) (scC (outer:=ac z6) rfl))) (av (pvD (N:=["_law_k","_law_found","_law_due"]) 0 (by decide +kernel) (scC (outer:=ac z6) rfl))))) az)) (e1:=(scC (outer:=ac z6) rfl))))) (by decide +kernel))) bK))))) fZ)
   (cv (dO (lV (gO hr) oK (av (pvN 0 aP)) (av (pvN 1 aP)) (b6 _))))))))
abbrev q17:Stmt:=im 1 2
def q56:FnScope ["self","name"] ["self","name"] (ac q17):=⟨rfl,rfl,rfl,by decide +kernel,rfl,by decide +kernel,by decide +kernel⟩
def fQ:de (ac q17) ["self","name"]=true:=by decide +kernel
def y46:bj (ac q17) "list"=true:=by decide +kernel
def z56 (T:Txt P w K mg) (D:DefM K "Store" "shelf" "Store.shelf" q17 ["self","name"]):OkM P w K mg base "Store" "shelf" 1 ["self","name"] (spG K 2 (q26)):=
 cc D q56 rfl fun f cdv A outer s H E hr=>(aU (bx (ic y46 fu oN T.n_list gw (ao (bp hr (cf (aw (pvN 0 fQ)) T.f_Store_home) (ak (ar (pvN 1 fQ)))) aT))))
abbrev y18:Stmt:=im 1 6
def q61:FnScope ["self","number"] ["self","number"] (ac y18):=⟨rfl,rfl,rfl,by decide +kernel,rfl,by decide +kernel,by decide +kernel⟩
def bQ:de (ac y18) ["self","number"]=true:=by decide +kernel
def y37:bj (ac y18) "list"=true:=by decide +kernel
def y60 (T:Txt P w K mg) (D:DefM K "Store" "page" "Store.page" y18 ["self","number"]):OkM P w K mg base "Store" "page" 1 ["self","number"] (spG K 2 (q25)):=
 cc D q61 rfl fun f cdv A outer s H E hr=>(aU (bx (xf (bp hr (cf (aw (pvN 0 bQ)) T.f_Store_heads) (ak (ar (pvN 1 bQ)))) (me (ao (ic y37 fu oN T.n_list gw (ao (bp hr (cf (aw (pvN 0 bQ)) T.f_Store_page_boxes) (ak (ar (pvN 1 bQ)))) aT)) (ao (ic y37 fu oN T.n_list gw (ao (bp hr (cf (aw (pvN 0 bQ)) T.f_Store_page_turns) (ak (ar (pvN 1 bQ)))) aT)) aT))))))
abbrev y17:Stmt:=im 1 12
def y54:FnScope ["self"] ["self"] (ac y17):=⟨rfl,rfl,rfl,by decide +kernel,rfl,by decide +kernel,by decide +kernel⟩
def iG:de (ac y17) ["self"]=true:=by decide +kernel
def y55 (T:Txt P w K mg) (D:DefM K "Store" "answer" "Store.answer" y17 ["self"]):OkM P w K mg base "Store" "answer" 1 ["self"] (spG K 1 (y19)):=
 cc D y54 rfl fun f cdv A outer s H E hr=>(aU (bx (cf (aw (pvN 0 iG)) T.f_Store_result)))
abbrev y21:Stmt:=im 1 5
def y59:FnScope ["self"] ["self"] (ac y21):=⟨rfl,rfl,rfl,by decide +kernel,rfl,by decide +kernel,by decide +kernel⟩
def jY:de (ac y21) ["self"]=true:=by decide +kernel
def z58 (T:Txt P w K mg) (D:DefM K "Store" "face" "Store.face" y21 ["self"]):OkM P w K mg base "Store" "face" 1 ["self"] (spG K 1 (q28)):=
 cc D y59 rfl fun f cdv A outer s H E hr=>(aU (bx (cf (aw (pvN 0 jY)) T.f_Store_counting)))
abbrev z21:Stmt:=im 1 1
def z59:FnScope ["self","name"] ["self","name"] (ac z21):=⟨rfl,rfl,rfl,by decide +kernel,rfl,by decide +kernel,by decide +kernel⟩
def gj:de (ac z21) ["self","name"]=true:=by decide +kernel
def q58 (T:Txt P w K mg) (D:DefM K "Store" "cell" "Store.cell" z21 ["self","name"]):OkM P w K mg base "Store" "cell" 1 ["self","name"] (spG K 2 (y30)):=
 cc D z59 rfl fun f cdv A outer s H E hr=>(aU (bx (bp hr (bp hr (cf (aw (pvN 0 gj)) T.f_Store_home) (ak (ar (pvN 1 gj)))) (ak aj))))
abbrev y14:Stmt:=im 1 4
def y51:FnScope ["self","name","place"] ["self","name","place"] (ac y14):=⟨rfl,rfl,rfl,by decide +kernel,rfl,by decide +kernel,by decide +kernel⟩
def cy:de (ac y14) ["self","name","place"]=true:=by decide +kernel
def y49 (T:Txt P w K mg) (D:DefM K "Store" "get_home" "Store.get_home" y14 ["self","name","place"]):OkM P w K mg base "Store" "get_home" 1 ["self","name","place"] (spG K 3 (z25)):=
 cc D y51 rfl fun f cdv A outer s H E hr=>(aU (bx (bp hr (bp hr (cf (aw (pvN 0 cy)) T.f_Store_home) (ak (ar (pvN 1 cy)))) (ak (ar (pvN 2 cy))))))
abbrev z12:Stmt:=top 9
def y9:FnScope ["_law_store","_law_program_here","_law_model_here","_law_name_here","_law_start","_law_twin","_law_size","_law_due","_law_found","_law_place","_law_number","_law_head","_law_boxes","_law_turns","_law_page"] ["_law_store","_law_program_here","_law_model_here"] (ac z12):=⟨rfl,rfl,rfl,by decide +kernel,rfl,by decide +kernel,by decide +kernel⟩
def ai:de (ac z12) ["_law_store","_law_program_here","_law_model_here","_law_name_here","_law_start","_law_twin","_law_size","_law_due","_law_found","_law_place","_law_number","_law_head","_law_boxes","_law_turns","_law_page"]=true:=by decide +kernel
def q14:bj (ac z12) "_law_same"=true:=by decide +kernel
def z39:bj (ac z12) "range"=true:=by decide +kernel
def z51:bj (ac z12) "tuple"=true:=by decide +kernel
def q63 (T:Txt P w K mg) (D:DefF K mg "_law_told" z12 ["_law_store","_law_program_here","_law_model_here"]) (q18:OkF P w K mg base "_law_same" 7 ["_law_found","_law_due"] (spD K 2 (y10 6))) (q39:OkM P w K mg base "Store" "shelf" 1 ["self","name"] (spG K 2 (q26))) (z41:OkM P w K mg base "Store" "page" 1 ["self","number"] (spG K 2 (q25))) (z31:OkM P w K mg base "Store" "answer" 1 ["self"] (spG K 1 (y19))) (q41:OkM P w K mg base "Store" "face" 1 ["self"] (spG K 1 (q28))) (q42:OkM P w K mg base "Store" "cell" 1 ["self","name"] (spG K 2 (y30))) (z33:OkM P w K mg base "Store" "get_home" 1 ["self","name","place"] (spG K 3 (z25))):OkF P w K mg base "_law_told" 8 ["_law_store","_law_program_here","_law_model_here"] (spG K 3 (q16)):=
 mj D y9 rfl fun f cdv A outer s H E hr=>(aE (gd PassesOwn.never rfl (gM (DO.toL (bv hr (av (pvN 1 ai)) (DL.toB aj)))) (iC rfl (bz (aX (aM (nsN ai 3) (nsL ai 3) y9.nd)) (bz (aX (aM (nsN ai 4) (nsL ai 4) y9.nd)) (bz (aX (aM (nsN ai 5) (nsL ai 5) y9.nd)) gy)))) (aU (d7 (gf (dq (dJ 3 q14 q18 (hr.mono (by decide)) (ao (dA q42 (hr.mono (by decide)) (aw (pvN 0 ai)) (ao (ak (ar (pvN 3 ai))) aT) (kc (z7 bN))) (ao (o5 hr (bp hr (aw (pvN 2 ai)) (ak bC)) (ao (ak (ar (pvN 3 ai))) (ao (ak aj) aT))) aT)) (z7 (z7 bN))) (fun _=>rfl))) (aU (bx (ak fX))) cR)))
     (aE (gd PassesOwn.never rfl (gM (DO.toL (bv hr (av (pvN 1 ai)) (DL.toB aj)))) (iC rfl (bz (aX (aM (nsN ai 3) (nsL ai 3) y9.nd)) (bz (aX (aM (nsN ai 6) (nsL ai 6) y9.nd)) (bz (aX (aM (nsN ai 5) (nsL ai 5) y9.nd)) gy)))) (aE (tR (nsN ai 7) (nsL ai 7) y9.nd (M:=["_law_place","_law_model_here","_law_name_here"]) (src:=[none,some 2,some 3]) (ts:=[0]) (CmpScope.of (N:=["_law_store","_law_program_here","_law_model_here","_law_name_here","_law_start","_law_twin","_law_size","_law_due","_law_found","_law_place","_law_number","_law_head","_law_boxes","_law_turns","_law_page"]) (outer:=ac z12) (by decide +kernel)) rfl (b5 z39 T.n_range (ae (ar (pvN 6 ai)) az)) (fun nd _ _ _ _=>(aX (cN (N:=["_law_place","_law_model_here","_law_name_here"]) (i:=0) (by decide +kernel) (by decide +kernel) nd (scC (outer:=ac z12) (by exact rfl))))) (fun _ _ _ _=>dz) (fun _ _ _ _=>(o5 hr (bp hr (aw (pvD (N:=["_law_place","_law_model_here","_law_name_here"]) 1 (by decide +kernel) (scC (outer:=ac z12) rfl))) (ak bC)) (ao (ak (ar (pvD (N:=["_law_place","_law_model_here","_law_name_here"]) 2 (by decide +kernel) (scC (outer:=ac z12) rfl)))) (ao (ak (ar (pvD (N:=["_law_place","_law_model_here","_law_name_here"]) 0 (by decide +kernel) (scC (outer:=ac z12) rfl)))) aT)))) (by decide +kernel))
     (aE (cg (nsN ai 8) (nsL ai 8) y9.nd (dA q39 (hr.mono (by decide)) (aw (pvN 0 ai)) (ao (ak (ar (pvN 3 ai))) aT) (kc (z7 bN))))
     (aE (d7 (gf (dq (dJ 3 q14 q18 (hr.mono (by decide)) (ao (aw (pvN 8 ai)) (ao (aw (pvN 7 ai)) aT)) (z7 (z7 bN))) (fun _=>rfl))) (aU (bx (ak fX))) cR)
     (aU (nB (aw (pvN 8 ai))))))))
     (aE (v4 PassesOwn.never rfl (bp hr (aw (pvN 2 ai)) (ak bC)) (iC rfl (bz (aX (aM (nsN ai 3) (nsL ai 3) y9.nd)) (bz (aX (aM (nsN ai 9) (nsL ai 9) y9.nd)) gy))) (aU (d7 (gf (dq (dJ 3 q14 q18 (hr.mono (by decide)) (ao (dA z33 (hr.mono (by decide)) (aw (pvN 0 ai)) (ao (ak (ar (pvN 3 ai))) (ao (ak (ar (pvN 9 ai))) aT)) (kc (z7 (z7 bN)))) (ao (o5 hr (bp hr (aw (pvN 2 ai)) (ak bC)) (ao (ak (ar (pvN 3 ai))) (ao (ak (ar (pvN 9 ai))) aT))) aT)) (z7 (z7 bN))) (fun _=>rfl))) (aU (bx (ak fX))) cR)))
     (aE (gd PassesOwn.never rfl (b5 z39 T.n_range (ae aj az)) (aX (aM (nsN ai 10) (nsL ai 10) y9.nd)) (aE (xg (bp hr (bp hr (aw (pvN 2 ai)) (ak bC)) (ak (ar (pvN 10 ai)))) (o7 rfl (cU (dE (aM (nsN ai 11) (nsL ai 11) y9.nd)) (cU (dE (aM (nsN ai 12) (nsL ai 12) y9.nd)) (cU (dE (aM (nsN ai 13) (nsL ai 13) y9.nd)) mx)))))
     (aE (cg (nsN ai 14) (nsL ai 14) y9.nd (dA z41 (hr.mono (by decide)) (aw (pvN 0 ai)) (ao (ak (ar (pvN 10 ai))) aT) (kc (z7 bN))))
     (aE (d7 (gf (dq (dJ 3 q14 q18 (hr.mono (by decide)) (ao (aw (pvN 14 ai)) (ao (xf (ic z51 dh jf T.n_tuple eY (ao (aw (pvN 11 ai)) aT)) (me (ao (aw (pvN 12 ai)) (ao (aw (pvN 13 ai)) aT)))) aT)) (z7 (z7 bN))) (fun _=>rfl))) (aU (bx (ak fX))) cR)
     (aE (dH (bp hr (aw (pvN 14 ai)) (ak aj)) (ak (DO.toL (b7 (ae bC (ae aj az))))))
     (aU (nB (bp hr (aw (pvN 14 ai)) (ak aj)))))))))
     (aE (d7 (gf (dq (dJ 3 q14 q18 (hr.mono (by decide)) (ao (cq q41 (hr.mono (by decide)) (aw (pvN 0 ai))) (ao (bp hr (bp hr (aw (pvN 2 ai)) (ak bC)) (ak aj)) aT)) (z7 (z7 bN))) (fun _=>rfl))) (aU (bx (ak fX))) cR)
     (aE (d7 (tJ r8 r_is (bp hr (bp hr (aw (pvN 2 ai)) (ak bC)) (ak aj)) (ak jB) (b6 _)) (aU (bx (yq r8 r_is (cq z31 (hr.mono (by decide)) (aw (pvN 0 ai))) (ak jB) (b6 _)))) cR)
     (aU (bx (dJ 3 q14 q18 (hr.mono (by decide)) (ao (cq z31 (hr.mono (by decide)) (aw (pvN 0 ai))) (ao (bp hr (bp hr (aw (pvN 2 ai)) (ak bC)) (ak aj)) aT)) (z7 (z7 bN)))))))))))
abbrev q21:Stmt:=im 1 13
def y58:FnScope ["self","value"] ["self","value"] (ac q21):=⟨rfl,rfl,rfl,by decide +kernel,rfl,by decide +kernel,by decide +kernel⟩
def gk:de (ac q21) ["self","value"]=true:=by decide +kernel
def z60 (T:Txt P w K mg) (D:DefM K "Store" "give" "Store.give" q21 ["self","value"]):OkM P w K mg base "Store" "give" 1 ["self","value"] (spG K 2 (q27)):=
 cc D y58 rfl fun f cdv A outer s H E hr=>(aU (ee (aw (pvN 0 gk)) T.f_Store_result (bF (DL.toO (ar (pvN 1 gk))))))
abbrev q19:Stmt:=im 1 7
def q57:FnScope ["self"] ["self"] (ac q19):=⟨rfl,rfl,rfl,by decide +kernel,rfl,by decide +kernel,by decide +kernel⟩
def iZ:de (ac q19) ["self"]=true:=by decide +kernel
def z57 (T:Txt P w K mg) (D:DefM K "Store" "other" "Store.other" q19 ["self"]):OkM P w K mg base "Store" "other" 1 ["self"] (spG K 1 (y8)):=
 cc D q57 rfl fun f cdv A outer s H E hr=>(aU (bx (tI rY wX (ak aj) (cf (aw (pvN 0 iZ)) T.f_Store_counting))))
abbrev y13:Stmt:=im 1 10
def y48:FnScope ["self","name","place","value"] ["self","name","place","value"] (ac y13):=⟨rfl,rfl,rfl,by decide +kernel,rfl,by decide +kernel,by decide +kernel⟩
def bB:de (ac y13) ["self","name","place","value"]=true:=by decide +kernel
def y47 (T:Txt P w K mg) (D:DefM K "Store" "keep_turn" "Store.keep_turn" y13 ["self","name","place","value"]) (z9:OkM P w K mg base "Store" "other" 1 ["self"] (spG K 1 (y8))):OkM P w K mg base "Store" "keep_turn" 2 ["self","name","place","value"] (spG K 4 (z15)):=
 cc D y48 rfl fun f cdv A outer s H E hr=>(aU (dH (bp hr (cf (aw (pvN 0 bB)) T.f_Store_page_turns) (cq z9 (hr.mono (by decide)) (aw (pvN 0 bB)))) (ak (DO.toL (b7 (ae (DO.toL (b7 (ae (ar (pvN 1 bB)) (ae (ar (pvN 2 bB)) az)))) (ae (ar (pvN 3 bB)) az)))))))
abbrev z14:Stmt:=im 1 9
def z50:FnScope ["self","name","value"] ["self","name","value"] (ac z14):=⟨rfl,rfl,rfl,by decide +kernel,rfl,by decide +kernel,by decide +kernel⟩
def bX:de (ac z14) ["self","name","value"]=true:=by decide +kernel
def z52 (T:Txt P w K mg) (D:DefM K "Store" "keep_box" "Store.keep_box" z14 ["self","name","value"]) (z9:OkM P w K mg base "Store" "other" 1 ["self"] (spG K 1 (y8))):OkM P w K mg base "Store" "keep_box" 2 ["self","name","value"] (spG K 3 (z17)):=
 cc D z50 rfl fun f cdv A outer s H E hr=>(aU (dH (bp hr (cf (aw (pvN 0 bX)) T.f_Store_page_boxes) (cq z9 (hr.mono (by decide)) (aw (pvN 0 bX)))) (ak (DO.toL (b7 (ae (ar (pvN 1 bX)) (ae (ar (pvN 2 bX)) az)))))))
abbrev q13:Stmt:=im 1 8
def q47:FnScope ["self","row","count","heard","sent"] ["self","row","count","heard","sent"] (ac q13):=⟨rfl,rfl,rfl,by decide +kernel,rfl,by decide +kernel,by decide +kernel⟩
def aL:de (ac q13) ["self","row","count","heard","sent"]=true:=by decide +kernel
def z47 (T:Txt P w K mg) (D:DefM K "Store" "begin_page" "Store.begin_page" q13 ["self","row","count","heard","sent"]) (z9:OkM P w K mg base "Store" "other" 1 ["self"] (spG K 1 (y8))):OkM P w K mg base "Store" "begin_page" 2 ["self","row","count","heard","sent"] (spG K 5 (q15)):=
 cc D q47 rfl fun f cdv A outer s H E hr=>(aE (gW hr (cf (aw (pvN 0 aL)) T.f_Store_heads) (cq z9 (hr.mono (by decide)) (aw (pvN 0 aL))) (ak (DO.toL (b7 (ae (ar (pvN 1 aL)) (ae (ar (pvN 2 aL)) (ae (ar (pvN 3 aL)) (ae (ar (pvN 4 aL)) az))))))))
     (aE (gW hr (cf (aw (pvN 0 aL)) T.f_Store_page_boxes) (cq z9 (hr.mono (by decide)) (aw (pvN 0 aL))) (bF (bD az)))
     (aU (gW hr (cf (aw (pvN 0 aL)) T.f_Store_page_turns) (cq z9 (hr.mono (by decide)) (aw (pvN 0 aL))) (bF (bD az))))))
abbrev q22:Stmt:=im 1 11
def y57:FnScope ["self"] ["self"] (ac q22):=⟨rfl,rfl,rfl,by decide +kernel,rfl,by decide +kernel,by decide +kernel⟩
def gl:de (ac q22) ["self"]=true:=by decide +kernel
def q59 (T:Txt P w K mg) (D:DefM K "Store" "turn" "Store.turn" q22 ["self"]) (z9:OkM P w K mg base "Store" "other" 1 ["self"] (spG K 1 (y8))):OkM P w K mg base "Store" "turn" 2 ["self"] (spG K 1 (y27)):=
 cc D y57 rfl fun f cdv A outer s H E hr=>(aU (ee (aw (pvN 0 gl)) T.f_Store_counting (cq z9 (hr.mono (by decide)) (aw (pvN 0 gl)))))
abbrev y24:Stmt:=im 1 3
def y61:FnScope ["self","name","place","value"] ["self","name","place","value"] (ac y24):=⟨rfl,rfl,rfl,by decide +kernel,rfl,by decide +kernel,by decide +kernel⟩
def di:de (ac y24) ["self","name","place","value"]=true:=by decide +kernel
def q62 (T:Txt P w K mg) (D:DefM K "Store" "put" "Store.put" y24 ["self","name","place","value"]):OkM P w K mg base "Store" "put" 1 ["self","name","place","value"] (spG K 4 (y29)):=
 cc D y61 rfl fun f cdv A outer s H E hr=>(aU (gW hr (bp hr (cf (aw (pvN 0 di)) T.f_Store_home) (ak (ar (pvN 1 di)))) (ak (ar (pvN 2 di))) (ak (ar (pvN 3 di)))))
abbrev z18:Stmt:=top 10
def z20:FnScope ["_law_store","_law_model_here","_law_cell_here","_law_number","_law_back","_law_seats","_law_kind","_law_name_here","_law_place","_law_box","_law_head"] ["_law_store","_law_model_here","_law_cell_here"] (ac z18):=⟨rfl,rfl,rfl,by decide +kernel,rfl,by decide +kernel,by decide +kernel⟩
def ag:de (ac z18) ["_law_store","_law_model_here","_law_cell_here","_law_number","_law_back","_law_seats","_law_kind","_law_name_here","_law_place","_law_box","_law_head"]=true:=by decide +kernel
def y53:bj (ac z18) "list"=true:=by decide +kernel
def z24:bj (ac z18) "_law_part"=true:=by decide +kernel
def z55:bj (ac z18) "len"=true:=by decide +kernel
def q46:bj (ac z18) "_law_name"=true:=by decide +kernel
def y64 (T:Txt P w K mg) (D:DefF K mg "_law_deed" z18 ["_law_store","_law_model_here","_law_cell_here"]) (z8:OkF P w K mg base "_law_part" 1 ["_law_cell_here","_law_j","_law_many"] (spD K 3 (z4))) (z42:OkM P w K mg base "Store" "give" 1 ["self","value"] (spG K 2 (q27))) (q32:OkM P w K mg base "Store" "keep_turn" 2 ["self","name","place","value"] (spG K 4 (z15))) (z19:OkF P w K mg base "_law_name" 2 ["_law_base","_law_k"] (spD K 2 (y11))) (y32:OkM P w K mg base "Store" "keep_box" 2 ["self","name","value"] (spG K 3 (z17))) (q31:OkM P w K mg base "Store" "begin_page" 2 ["self","row","count","heard","sent"] (spG K 5 (q15))) (y40:OkM P w K mg base "Store" "turn" 2 ["self"] (spG K 1 (y27))) (z44:OkM P w K mg base "Store" "put" 1 ["self","name","place","value"] (spG K 4 (y29))):OkF P w K mg base "_law_deed" 3 ["_law_store","_law_model_here","_law_cell_here"] (spG K 3 (z28)):=
 mj D z20 rfl fun f cdv A outer s H E hr=>(aE (cg (nsN ag 3) (nsL ag 3) z20.nd (ak (DO.toL (aS dt fP (DO.toB (aS eJ gF (av (pvN 2 ag)) (DL.toB aj))) (DO.toB (aS rZ wZ (DL.toB aj) (DL.toB aj)))))))
     (aE (cg (nsN ag 4) (nsL ag 4) z20.nd (tI rY wX (ak aj) (bp hr (bp hr (aw (pvN 1 ag)) (ak bC)) (ak aj))))
     (aE (cg (nsN ag 5) (nsL ag 5) z20.nd (t9 y53 rfl T.n_list gw (bp hr (aw (pvN 1 ag)) (ak bC))))
     (aE (cg (nsN ag 6) (nsL ag 6) z20.nd (ak (DO.toL (aW z24 z8 (hr.mono (by decide)) (ae (ar (pvN 2 ag)) (ae aj (ae aj az)))))))
     (aE (d7 (jJ (DW.t (xY (dN pD na (av (pvN 6 ag)) (DL.toB aj) (b6 _)) (vA (dN (oJ hr) yc (av (pvN 5 ag)) (DO.toB (bD az)) (b6 _)))))) (aE (yo (DO.toL (bv hr (av (pvN 5 ag)) (DO.toB (aW z24 z8 (hr.mono (by decide)) (ae (ar (pvN 2 ag)) (ae aj (ae (DO.toL (bP z55 cj gG T.n_len eQ (bu (av (pvN 5 ag)) bK))) az))))))) (iC rfl (bz (aX (aM (nsN ag 7) (nsL ag 7) z20.nd)) (bz (aX (aM (nsN ag 8) (nsL ag 8) z20.nd)) gy))))
     (aE (d7 (jJ (dN pD na (av (pvN 6 ag)) (DL.toB aj) (b6 _))) (aE (mv hr (bp hr (aw (pvN 1 ag)) (ak bC)) (ao (ak (ar (pvN 7 ag))) (ao (ak (ar (pvN 8 ag))) aT)) (ak (ar (pvN 3 ag))))
     (aU (bx (dA z44 (hr.mono (by decide)) (aw (pvN 0 ag)) (ao (ak (ar (pvN 7 ag))) (ao (ak (ar (pvN 8 ag))) (ao (ak (ar (pvN 3 ag))) aT))) (kc (z7 (z7 (z7 bN)))))))) cR)
     (aE (dH (bp hr (bp hr (bp hr (aw (pvN 1 ag)) (ak bC)) (ak (ar (pvN 4 ag)))) (ak aj)) (ak (DO.toL (b7 (ae (DO.toL (b7 (ae (ar (pvN 7 ag)) (ae (ar (pvN 8 ag)) az)))) (ae (ar (pvN 3 ag)) az))))))
     (aU (bx (dA q32 (hr.mono (by decide)) (aw (pvN 0 ag)) (ao (ak (ar (pvN 7 ag))) (ao (ak (ar (pvN 8 ag))) (ao (ak (ar (pvN 3 ag))) aT))) (kc (z7 (z7 (z7 bN)))))))))) cR)
     (aE (d7 (jJ (dN pD na (av (pvN 6 ag)) (DL.toB aj) (b6 _))) (aE (cg (nsN ag 9) (nsL ag 9) z20.nd (ak (DO.toL (aW q46 z19 (hr.mono (by decide)) (ae (ar (pvN 2 ag)) (ae (DO.toL (aW z24 z8 (hr.mono (by decide)) (ae (ar (pvN 2 ag)) (ae aj (ae aj az))))) az))))))
     (aE (dH (bp hr (bp hr (bp hr (aw (pvN 1 ag)) (ak bC)) (ak (ar (pvN 4 ag)))) (ak aj)) (ak (DO.toL (b7 (ae (ar (pvN 9 ag)) (ae (ar (pvN 3 ag)) az))))))
     (aU (bx (dA y32 (hr.mono (by decide)) (aw (pvN 0 ag)) (ao (ak (ar (pvN 9 ag))) (ao (ak (ar (pvN 3 ag))) aT)) (kc (z7 (z7 bN)))))))) cR)
     (aE (d7 (jJ (dN (gO hr) oK (av (pvN 6 ag)) (DL.toB aj) (b6 _))) (aE (cg (nsN ag 10) (nsL ag 10) z20.nd (bF (bD (ae (DO.toL (aW z24 z8 (hr.mono (by decide)) (ae (ar (pvN 2 ag)) (ae aj (ae aj az))))) (ae (DO.toL (aS dt fP (av (pvN 3 ag)) (DL.toB aj))) (ae (DO.toL (aS dt fP (DO.toB (aS pz wY (av (pvN 3 ag)) (DL.toB aj))) (DL.toB aj))) (ae (DO.toL (aS dt fP (DO.toB (aS pz wY (av (pvN 3 ag)) (DL.toB aj))) (DL.toB aj))) az)))))))
     (aE (gW hr (bp hr (aw (pvN 1 ag)) (ak bC)) (ak (ar (pvN 4 ag))) (gU (ao (aw (pvN 10 ag)) (ao (bF (bD az)) (ao (bF (bD az)) aT)))))
     (aU (bx (dA q31 (hr.mono (by decide)) (aw (pvN 0 ag)) (ao (ak (DO.toL (bv hr (av (pvN 10 ag)) (DL.toB aj)))) (ao (ak (DO.toL (bv hr (av (pvN 10 ag)) (DL.toB aj)))) (ao (ak (DO.toL (bv hr (av (pvN 10 ag)) (DL.toB aj)))) (ao (ak (DO.toL (bv hr (av (pvN 10 ag)) (DL.toB aj)))) aT)))) (kc (z7 (z7 (z7 (z7 bN)))))))))) cR)
     (aE (d7 (jJ (dN (gO hr) oK (av (pvN 6 ag)) (DL.toB aj) (b6 _))) (aE (gW hr (bp hr (aw (pvN 1 ag)) (ak bC)) (ak aj) (ak (ar (pvN 4 ag))))
     (aU (bx (cq y40 (hr.mono (by decide)) (aw (pvN 0 ag)))))) cR)
     (aE (gW hr (bp hr (aw (pvN 1 ag)) (ak bC)) (ak aj) (ak (ar (pvN 3 ag))))
     (aU (bx (dA z42 (hr.mono (by decide)) (aw (pvN 0 ag)) (ao (ak (ar (pvN 3 ag))) aT) (kc (z7 bN))))))))))))))
abbrev bZ:Stmt:=top 11
def sc_law:FnScope ["_law_script","_law_stores","_law_k","_law_program_here","_law_cell_here","_law_begin","_law_store","_law_model_here"] ["_law_script"] (ac bZ):=⟨rfl,rfl,rfl,by decide +kernel,rfl,by decide +kernel,by decide +kernel⟩
def aH:de (ac bZ) ["_law_script","_law_stores","_law_k","_law_program_here","_law_cell_here","_law_begin","_law_store","_law_model_here"]=true:=by decide +kernel
def q52:bj (ac bZ) "range"=true:=by decide +kernel
def z36:bj (ac bZ) "_law_cell"=true:=by decide +kernel
def q48:bj (ac bZ) "_law_program"=true:=by decide +kernel
def q45:bj (ac bZ) "_law_part"=true:=by decide +kernel
def z61:bj (ac bZ) "sorted"=true:=by decide +kernel
def y62:bj (ac bZ) "tuple"=true:=by decide +kernel
def z63:bj (ac bZ) "Store"=true:=by decide +kernel
def q54:bj (ac bZ) "_law_model"=true:=by decide +kernel
def y35:bj (ac bZ) "_law_told"=true:=by decide +kernel
def q55:bj (ac bZ) "_law_deed"=true:=by decide +kernel
def yA {f:Addr} {fd:FuncData} (T:Txt P w K mg) (D:Fun K "law" "law" bZ f fd) (y38:OkF P w K mg base "_law_program" 3 ["_law_cell_here","_law_base"] (spD K 2 (y16))) (q34:OkF P w K mg base "_law_cell" 1 ["_law_script","_law_k"] (spD K 2 (q12))) (q33:OkI P w K mg base "Store" 1 ["self","program","begin"] (spG K 3 (y20))) (y43:OkF P w K mg base "_law_model" 1 ["_law_program_here","_law_begin"] (spG K 2 (z26))) (y33:OkF P w K mg base "_law_told" 8 ["_law_store","_law_program_here","_law_model_here"] (spG K 3 (q16))) (z8:OkF P w K mg base "_law_part" 1 ["_law_cell_here","_law_j","_law_many"] (spD K 3 (z4))) (y45:OkF P w K mg base "_law_deed" 3 ["_law_store","_law_model_here","_law_cell_here"] (spG K 3 (z28))) (z19:OkF P w K mg base "_law_name" 2 ["_law_base","_law_k"] (spD K 2 (y11))):FnOk P w K mg base CX0 9 f fd ["_law_script"] (spG K 1 qv):=
 mi D sc_law rfl fun cdv A outer s H E hr=>(aE (cg (nsN aH 1) (nsL aH 1) sc_law.nd (bF (bD az)))
     (aE (gd PassesOwn.never rfl (b5 q52 T.n_range (ae aj az)) (aX (aM (nsN aH 2) (nsL aH 2) sc_law.nd)) (aE (cg (nsN aH 3) (nsL aH 3) sc_law.nd (ak (DO.toL (aW q48 y38 (hr.mono (by decide)) (ae (DO.toL (aW z36 q34 (hr.mono (by decide)) (ae (ar (pvN 0 aH)) (ae (DO.toL (aS eJ gF (DL.toB aj) (av (pvN 2 aH)))) az)))) (ae (DO.toL (aW z36 q34 (hr.mono (by decide)) (ae (ar (pvN 0 aH)) (ae (DO.toL (aS bU dQ (DO.toB (aS eJ gF (DL.toB aj) (av (pvN 2 aH)))) (DL.toB aj))) az)))) az))))))
     (aE (cg (nsN aH 4) (nsL aH 4) sc_law.nd (ak (DO.toL (aW z36 q34 (hr.mono (by decide)) (ae (ar (pvN 0 aH)) (ae (DO.toL (aS bU dQ (DL.toB aj) (av (pvN 2 aH)))) az))))))
     (aE (cg (nsN aH 5) (nsL aH 5) sc_law.nd (ak (DO.toL (jC y62 dh jf T.n_tuple eY (bu (DO.toB (bP z61 mq tY T.n_sorted qZ (bu (DO.toB (hZ (M:=["_law_j","_law_cell_here"]) (src:=[none,some 4]) (ts:=[0]) (CmpScope.of (N:=["_law_script","_law_stores","_law_k","_law_program_here","_law_cell_here","_law_begin","_law_store","_law_model_here"]) (outer:=ac bZ) (by decide +kernel)) rfl (DIF.toB (b5 q52 T.n_range (ae (DO.toL (aW q45 z8 (hr.mono (by decide)) (ae (ar (pvN 4 aH)) (ae aj (ae aj az))))) az))) (fun nd _ _ _ _=>(aX (cN (N:=["_law_j","_law_cell_here"]) (i:=0) (by decide +kernel) (by decide +kernel) nd (scC (outer:=ac bZ) (by exact rfl))))) (fun _ _ _ _=>dz) (fun _ _ _ _=>(DO.toL (aW (by decide +kernel) z19 (hr.mono (by decide)) (ae (ar (pvD (N:=["_law_j","_law_cell_here"]) 1 (by decide +kernel) (scC (outer:=ac bZ) rfl))) (ae (ar (pvD (N:=["_law_j","_law_cell_here"]) 0 (by decide +kernel) (scC (outer:=ac bZ) rfl))) az)) (e1:=(scC (outer:=ac bZ) rfl))))) (by decide +kernel))) bK))) bK)))))
     (aE (cg (nsN aH 6) (nsL aH 6) sc_law.nd (vT z63 q33 (hr.mono (by decide)) (ao (ak (ar (pvN 3 aH))) (ao (ak (ar (pvN 5 aH))) aT)) (kc (z7 (z7 bN)))))
     (aE (cg (nsN aH 7) (nsL aH 7) sc_law.nd (ib q54 y43 (hr.mono (by decide)) (ao (ak (ar (pvN 3 aH))) (ao (ak (ar (pvN 5 aH))) aT)) (z7 (z7 bN))))
     (aE (d7 (gf (dq (ib y35 y33 (hr.mono (by decide)) (ao (aw (pvN 6 aH)) (ao (ak (ar (pvN 3 aH))) (ao (aw (pvN 7 aH)) aT))) (z7 (z7 (z7 bN)))) (fun _=>rfl))) (aU (bx (ak fX))) cR)
     (aU (dH (aw (pvN 1 aH)) (gU (ao (aw (pvN 6 aH)) (ao (ak (ar (pvN 3 aH))) (ao (aw (pvN 7 aH)) aT)))))))))))))
     (aE (gd PassesOwn.never rfl (gM (DO.toL (sY (av (pvN 0 aH)) (p9 (DL.toB aj)) (p9 (DL.toB aj))))) (aX (aM (nsN aH 4) (nsL aH 4) sc_law.nd)) (aE (xg (bp hr (aw (pvN 1 aH)) (ak (DO.toL (aW q45 z8 (hr.mono (by decide)) (ae (ar (pvN 4 aH)) (ae aj (ae aj az))))))) (o7 rfl (cU (dE (aM (nsN aH 6) (nsL aH 6) sc_law.nd)) (cU (dE (aM (nsN aH 3) (nsL aH 3) sc_law.nd)) (cU (dE (aM (nsN aH 7) (nsL aH 7) sc_law.nd)) mx)))))
     (aU (d7 (GW.t (zt (tJ u3 vJ (ib q55 y45 (hr.mono (by decide)) (ao (aw (pvN 6 aH)) (ao (aw (pvN 7 aH)) (ao (ak (ar (pvN 4 aH))) aT))) (z7 (z7 (z7 bN)))) (ak jB) (b6 _)) (yp (gf (dq (ib y35 y33 (hr.mono (by decide)) (ao (aw (pvN 6 aH)) (ao (ak (ar (pvN 3 aH))) (ao (aw (pvN 7 aH)) aT))) (z7 (z7 (z7 bN)))) (fun _=>rfl)))))) (aU (bx (ak fX))) cR))))
     (aE (wa 100000 PassesOwn.never rfl (aw (pvN 1 aH)) (o7 rfl (cU (dE (aM (nsN aH 6) (nsL aH 6) sc_law.nd)) (cU (dE (aM (nsN aH 3) (nsL aH 3) sc_law.nd)) (cU (dE (aM (nsN aH 7) (nsL aH 7) sc_law.nd)) mx)))) (aU (d7 (gf (dq (ib y35 y33 (hr.mono (by decide)) (ao (aw (pvN 6 aH)) (ao (ak (ar (pvN 3 aH))) (ao (aw (pvN 7 aH)) aT))) (z7 (z7 (z7 bN)))) (fun _=>rfl))) (aU (bx (ak fX))) cR)))
     (aU (bx (ak fX)))))))
end
local macro_rules | `(tactic| walk_at "d") => `(tactic| simp -implicitDefEqProofs only [L2.ym, L2.zG, L2.gT, L2.dm, L2.zp, L2.jD, L2.dX, L2.gK, L2.zq, L2.zH, L2.zI, L2.sZ, L2.toT, L2.toD, L2.T.d, L2.kD, L2.vL, L2.vB, L2.d2, L2.tB2, L2.oE, L2.vz, L2.fOr_d, L2.xZ, L2.vAnd_d, L2.am, L2.ab, L2.vTup_d, L2.vLst_d, L2.jH, L2.zJ, L2.aA, L2.qa, L2.qf, L2.vSl, L2.iP, L2.h9, L2.w6, L2.nn, L2.fIt, L2.cP, L2.aq, L2.dC, L2.bc, L2.gAdd_i, List.all_cons, List.all_nil, List.any_cons, List.any_nil, L2.yl, L2.oR, L2.yg, L2.gb, L2.zF, L2.gMod_w, L2.gCmp_i, L2.yj, L2.gEq_ss, L2.gNe_ii, L2.sX, L2.w8, L2.gIx_t, L2.gLen_l, L2.gLen_t, L2.truD_b, L2.asB_b, L2.asBl_b, List.map_cons, List.map_nil, List.length_cons, List.length_nil, List.cons_append, List.nil_append, List.replicate, List.getElem?_cons_zero, List.getElem?_cons_succ, List.set_cons_zero, List.set_cons_succ, Option.bind_some, Option.bind_none, Option.map_some, Option.map_none, Option.join_some, Option.join_none, Nat.reduceAdd, Nat.reduceSub, Nat.reduceLeDiff, Int.reduceLT, Int.reduceEq, eq_self, Int.reduceNeg, Int.reduceLE, if_true, if_false, ite_true, ite_false, Bool.false_eq_true, decide_true, decide_false, Bool.not_true, Bool.not_false, Bool.and_true, Bool.true_and, Bool.or_true, Bool.true_or, Bool.or_false, Bool.false_or, Bool.and_false, Bool.false_and, String.reduceBEq, reduceCtorEq])
local macro_rules | `(tactic| walk_at "m") => `(tactic| simp only [List.map_cons, List.map_nil, List.length_cons, List.length_nil, List.cons_append, List.nil_append, Nat.reduceAdd, Nat.reduceSub, List.replicate])
def Hv (ch:CH) (l:List (Nat×CO)):Prop:=(l.map (·.1)).Nodup/\∀ x∈l,ch[x.1]?=some x.2
def Hv.at {ch:CH} {l:List (Nat×CO)} (h:Hv ch l) (k:Nat) {i:Nat} {o:CO} (e:l[k]?=some (i,o)):ch[i]?=some o:=h.2 (i,o) (List.mem_of_getElem? e)
def ud {l:List (Nat×CO)} (nd:(l.map (·.1)).Nodup) {k j:Nat} {x y:Nat×CO} (hk:l[k]?=some x) (hj:l[j]?=some y) (e:x.1=y.1):k=j:=by
 have h1:(l.map (·.1))[k]?=some x.1:=by rw [List.getElem?_map,hk];rfl
 have h2:(l.map (·.1))[j]?=some x.1:=by rw [List.getElem?_map,hj,e];rfl
 exact (List.getElem?_inj (by
  have:=(gX h1).1
  exact this) nd).mp (h1.trans h2.symm)
def ue {l:List (Nat×CO)} {k i:Nat} {o o':CO} (e:l[k]?=some (i,o)):(l.set k (i,o')).map (·.1)=l.map (·.1):=by
 rw [List.map_set]
 exact tV (by rw [List.getElem?_map,e];rfl)
def Hv.set {ch:CH} {l:List (Nat×CO)} (h:Hv ch l) (k:Nat) {i:Nat} {o:CO} (e:l[k]?=some (i,o)) (o':CO):Hv (ch.set i o') (l.set k (i,o')):=by
 refine ⟨by rw [ue e];exact h.1,fun x hx=>?_⟩
 obtain ⟨j,hj⟩:=List.getElem?_of_mem hx
 have hi:i<ch.length:=(gX (h.at k e)).1
 by_cases hjk:k=j
 · subst hjk
   have hkl:k<l.length:=(gX e).1
   rw [List.getElem?_set_self hkl] at hj
   cases hj
   simp [hi]
 · rw [gN hjk] at hj
   rw [gN fun z=>hjk (ud h.1 e hj z)]
   exact h.at j hj
def Hv.lt {ch:CH} {l:List (Nat×CO)} (h:Hv ch l) {x:Nat×CO} (hx:x∈l):x.1<ch.length:=(gX (h.2 x hx)).1
def Hv.app {ch:CH} {l:List (Nat×CO)} (h:Hv ch l) (g:CH):Hv (ch++g) l:=⟨h.1,fun x hx=>by rw [gL (h.lt hx)];exact h.2 x hx⟩
def lp {j:Nat}:∀ {l:List Nat} (k:Nat),l.Nodup->j∉l->(l.set k j).Nodup
 | [],_,h,_=>h
 | a::l,0,h,hj=>List.nodup_cons.mpr ⟨fun z=>hj (List.mem_cons_of_mem _ z),(List.nodup_cons.mp h).2⟩
 | a::l,k+1,h,hj=>List.nodup_cons.mpr ⟨fun z=>by
     rcases List.mem_or_eq_of_mem_set z with z | z
     · exact (List.nodup_cons.mp h).1 z
     · exact hj (by rw [z];exact .head _),lp k (List.nodup_cons.mp h).2 fun z=>hj (List.mem_cons_of_mem _ z)⟩
def Hv.move {ch:CH} {l:List (Nat×CO)} (h:Hv ch l) (k:Nat) {j:Nat} {o':CO} (hj:j∉l.map (·.1)) (ho:ch[j]?=some o'):Hv ch (l.set k (j,o')):=by
 refine ⟨?_,fun x hx=>?_⟩
 · rw [List.map_set]
   exact lp k h.1 hj
 · rcases List.mem_or_eq_of_mem_set hx with hx | rfl
   · exact h.2 x hx
   · exact ho
def Hv.fresh {ch:CH} {l:List (Nat×CO)} (h:Hv ch l) {j:Nat} (hj:ch.length<=j):j∉l.map (·.1):=fun z=>by
 obtain ⟨x,hx,rfl⟩:=List.mem_map.mp z
 exact absurd (h.lt hx) (Nat.not_lt.mpr hj)
def Hv.perm {ch:CH} {l m:List (Nat×CO)} (h:Hv ch l) (p:l.Perm m):Hv ch m:=⟨(p.map _).nodup_iff.mp h.1,fun x hx=>h.2 x (p.mem_iff.mpr hx)⟩
def Hv.add {ch:CH} {l:List (Nat×CO)} (h:Hv ch l) {j:Nat} {o:CO} (hj:j∉l.map (·.1)) (ho:ch[j]?=some o):Hv ch ((j,o)::l):=⟨List.nodup_cons.mpr ⟨hj,h.1⟩,fun x hx=>by
 rcases List.mem_cons.mp hx with rfl | hx
 · exact ho
 · exact h.2 x hx⟩
def aR {ch:CH} {o:CO}:(ch++[o])[ch.length]?=some o:=by simp
def dj {ch:CH} {i:Nat} {o:CO} {g:CH} (h:ch[i]?=some o):(ch++g)[i]?=some o:=by
 rw [gL (gX h).1]
 exact h
def li (vs:List Int):CO:=.lst (vs.map fun v=>.dat (.int v))
def dP (ns:List Str) (ps:List Nat):List (Key×CV):=(ns.zip ps).map fun p=>(.inr p.1,.ref p.2)
abbrev Hm:=List (Str×List Int)
def lkS {α:Type}:List (Str×α)->Str->Option α
 | [],_=>none
 | p::l,x=>if p.1=x then some p.2 else lkS l x
def ptS {α:Type}:List (Str×α)->Str->α->List (Str×α)
 | [],x,v=>[(x,v)]
 | p::l,x,v=>if p.1=x then (p.1,v)::l else p::ptS l x v
def bM {κ:Type} [DecidableEq κ] (p:κ×CV) (l:List (κ×CV)) (k:κ):lkC (p::l) k=if p.1=k then some p.2 else lkC l k:=by
 unfold lkC
 by_cases h:p.1=k
 · simp [h]
 · simp [h]
def hl (ps:List Nat) (hm:Hm):List (Nat×CO):=(ps.zip hm).map fun p=>(p.1,li p.2.2)
def xi {x:Str} {vs:List Int}:∀ {ps:List Nat} {hm:Hm},ps.length=hm.length->lkS hm x=some vs->∃ q k,lkC (dP (hm.map (·.1)) ps) (.inr x)=some (.ref q)/\(hl ps hm)[k]?=some (q,li vs)/\hm[k]?=some (x,vs)/\(∀ ws,hl ps (ptS hm x ws)=(hl ps hm).set k (q,li ws))/\∀ ws,(ptS hm x ws).map (·.1)=hm.map (·.1)/\ptS hm x ws=hm.set k (x,ws)
 | [],[],_,h=>by cases h
 | [],_::_,h,_=>by cases h
 | _::_,[],h,_=>by cases h
 | p::ps,s::hm,hle,hx=>by
  rw [lkS] at hx
  have e0:dP ((s::hm).map (·.1)) (p::ps)=(.inr s.1,.ref p)::dP (hm.map (·.1)) ps:=rfl
  rw [e0,bM]
  by_cases h:s.1=x
  · rw [if_pos h] at hx
    cases hx
    refine ⟨p,0,by rw [if_pos (by rw [h])],rfl,by rw [<- h];rfl,fun ws=>?_,fun ws=>?_⟩
    · rw [ptS,if_pos h];rfl
    · rw [ptS,if_pos h];exact ⟨rfl,by rw [<- h];rfl⟩
  · rw [if_neg h] at hx
    obtain ⟨q,k,h1,h2,h3,h4,h5⟩:=xi (ps:=ps) (by simpa using hle) hx
    refine ⟨q,k+1,by rw [if_neg (fun z=>h (Sum.inr.inj z))];exact h1,h2,by simpa using h3,fun ws=>?_,fun ws=>?_⟩
    · rw [ptS,if_neg h]
      show (p,li s.2)::hl ps (ptS hm x ws)=_
      rw [h4];rfl
    · rw [ptS,if_neg h,List.map_cons,(h5 ws).1,(h5 ws).2]
      exact ⟨rfl,rfl⟩
structure Pg where
 h:List Int
 b:List (Str×Int)
 t:List ((Str×Int)×Int)
structure Sta where
 hm:Hm
 p0:Pg
 p1:Pg
 f:Bool
 r:Option Int
 w:Bool
structure Pl where
 (s h d b b0 b1 t t0 t1 m mh mp m0 h0 c0 u0 m1 h1 c1 u1 mf ma:Nat)
 ps:List Nat
def oD:Option Int->Dt
 | none=>.non
 | some v=>.int v
def fI (b:Bool):Int:=if b then 1 else 0
def bd (p:Str×Int):Dt:=.tup [.str p.1,.int p.2]
def td (p:(Str×Int)×Int):Dt:=.tup [.tup [.str p.1.1,.int p.1.2],.int p.2]
def bl (l:List (Str×Int)):CO:=.lst (l.map fun p=>.dat (bd p))
def tl (l:List ((Str×Int)×Int)):CO:=.lst (l.map fun p=>.dat (td p))
def hd (h:List Int):Dt:=.tup (h.map .int)
def df (x:Str) (k:Nat):List Int->List (List Key×CV)
 | []=>[]
 | v::vs=>([.inr x,.inl (k:Int)],.dat (.int v))::df x (k+1) vs
def dTm:Hm->List (List Key×CV)
 | []=>[]
 | s::hm=>df s.1 0 s.2++dTm hm
def fns:List Str:=["home","heads","page_boxes","page_turns","counting","result"]
def so (P:Pl) (S:Sta):CO:=.ins "Store" fns [.ref P.h,.ref P.d,.ref P.b,.ref P.t,.dat (.int (fI S.f)),.dat (oD S.r)]
def mo (P:Pl):CO:=.dK [(.inr "home",.ref P.mh),(.inr "pages",.ref P.mp),(.inr "face",.ref P.mf),(.inr "answer",.ref P.ma)]
def ho (M:Sta):CO:=if M.w then .wt (dTm M.hm) else .dT (dTm M.hm)
noncomputable def cs (P:Pl) (S M:Sta) (R:List (Nat×CO)):List (Nat×CO):=
 (P.s,so P S)::(P.h,.dK (dP (S.hm.map (·.1)) P.ps))::(P.d,.lst [.dat (hd S.p0.h),.dat (hd S.p1.h)])::(P.b,.lst [.ref P.b0,.ref P.b1])::(P.b0,bl S.p0.b)::(P.b1,bl S.p1.b)::
 (P.t,.lst [.ref P.t0,.ref P.t1])::(P.t0,tl S.p0.t)::(P.t1,tl S.p1.t)::(P.m,mo P)::(P.mh,ho M)::(P.mp,.lst [.ref P.m0,.ref P.m1])::(P.m0,.lst [.ref P.h0,.ref P.c0,.ref P.u0])::(P.h0,li M.p0.h)::(P.c0,bl M.p0.b)::(P.u0,tl M.p0.t)::
 (P.m1,.lst [.ref P.h1,.ref P.c1,.ref P.u1])::(P.h1,li M.p1.h)::(P.c1,bl M.p1.b)::(P.u1,tl M.p1.t)::(P.mf,li [fI M.f])::(P.ma,.lst [.dat (oD M.r)])::(hl P.ps S.hm++R)
section
variable {ch:CH} {P:Pl} {S M:Sta} {R:List (Nat×CO)} {x:Str} {vs:List Int} {v:Int} {k:Nat}
def dy {α:Type} {l:List α} {k:Nat} {a:α} (h:l[k]?=some a):atI l (k:Int)=some a:=by
 have hk:=(gX h).1
 unfold atI ixN
 simp only [Int.natCast_nonneg,if_true,Int.toNat_natCast,Int.ofNat_lt,hk,Option.bind_some]
 exact h
def qw (h:vs[k]?=some v):ixO (li vs) (.int k)=some (.dat (.int v)):=by
 unfold ixO li
 simp only [asI,Option.bind_some]
 exact dy (by rw [List.getElem?_map,h];rfl)
def jh (h:Hv ch (cs P S M R)) (hp:P.ps.length=S.hm.length) (hx:lkS S.hm x=some vs):∃ q j,ixO (.dK (dP (S.hm.map (·.1)) P.ps)) (.str x)=some (.ref q)/\ch[q]?=some (li vs)/\(cs P S M R)[22+j]?=some (q,li vs)/\S.hm[j]?=some (x,vs)∧
  (∀ ws,hl P.ps (ptS S.hm x ws)=(hl P.ps S.hm).set j (q,li ws))/\j<(hl P.ps S.hm).length/\∀ ws,(ptS S.hm x ws).map (·.1)=S.hm.map (·.1)/\ptS S.hm x ws=S.hm.set j (x,ws):=by
 obtain ⟨q,j,h1,h2,h3,h4,h5⟩:=xi hp hx
 have hj:=(gX h2).1
 have e:(cs P S M R)[22+j]?=some (q,li vs):=by
  rw [Nat.add_comm]
  show (hl P.ps S.hm++R)[j]?=_
  rw [gL hj]
  exact h2
 exact ⟨q,j,h1,h.at (22+j) e,e,h3,h4,hj,h5⟩
def wb (h:Hv ch (cs P S M R)) (hp:P.ps.length=S.hm.length) (hx:lkS S.hm x=some vs) (hv:vs[0]?=some v):y30 [.ref P.s,.dat (.str x)] ch=some (.dat (.int v),ch):=by
 obtain ⟨q,j,h1,h2,_⟩:=jh h hp hx
 unfold y30
 rw [bV]
 walk_at "m"
 rw [bA (bI (bI (cV (x:=.ref P.h) (aN rfl) (h.at 0 rfl) rfl) (aF (d:=.str x) (aK rfl)) (h.at 1 rfl) h1) (aF (d:=.int 0) rfl) h2 (qw (k:=0) hv))]
 rfl
def yB (h:Hv ch (cs P S M R)) (hp:P.ps.length=S.hm.length) (hx:lkS S.hm x=some vs) (hv:vs[k]?=some v):z25 [.ref P.s,.dat (.str x),.dat (.int k)] ch=some (.dat (.int v),ch):=by
 obtain ⟨q,j,h1,h2,_⟩:=jh h hp hx
 unfold z25
 rw [bV]
 walk_at "m"
 rw [bA (bI (bI (cV (x:=.ref P.h) (aN rfl) (h.at 0 rfl) rfl) (aF (d:=.str x) (aK rfl)) (h.at 1 rfl) h1) (aF (d:=.int k) (aK rfl)) h2 (qw hv))]
 rfl
def io:∀ ds:List Dt,dats (ds.map .dat)=some ds
 | []=>rfl
 | d::ds=>by rw [List.map_cons,dats,io ds];rfl
def xj {q:Nat} {ds:List Dt} (h:ch[q]?=some (.lst (ds.map .dat))):vw ch (.ref q)=some (.lst ds):=by
 simp only [vw,h,Option.bind_some,vwO,io,Option.map_some]
def rA (l:List (Str×Int)):bl l=.lst ((l.map bd).map .dat):=by unfold bl;rw [List.map_map];rfl
def yC (l:List ((Str×Int)×Int)):tl l=.lst ((l.map td).map .dat):=by unfold tl;rw [List.map_map];rfl
def li_d (l:List Int):li l=.lst ((l.map Dt.int).map .dat):=by unfold li;rw [List.map_map];rfl
def zy {q:Nat} (h:ch[q]?=some (li vs)):vw ch (.ref q)=some (.lst (vs.map .int)):=xj (by rw [<- li_d];exact h)
def jZ {fa:Fg} {δ:Sl} {c1:CH} {q:Nat} {ds:List Dt} (h:fa δ ch=some (.ref q,c1)) (hq:c1[q]?=some (.lst (ds.map .dat))):eB kN (ah fa aD) δ ch=some (.ref c1.length,c1++[.lst (ds.map .dat)]):=by
 rw [xh (au h rfl) (ds:=[.lst ds]) (by simp only [vws,xj hq,Option.bind_some,Option.map_some]) (t:=.lst ds) rfl]
 rfl
def uf (h:Hv ch (cs P S M R)) (hp:P.ps.length=S.hm.length) (hx:lkS S.hm x=some vs):q26 [.ref P.s,.dat (.str x)] ch=some (.ref ch.length,ch++[li vs]):=by
 obtain ⟨q,j,h1,h2,_⟩:=jh h hp hx
 unfold q26
 rw [bV]
 walk_at "m"
 rw [li_d] at h2 ⊢
 rw [bA (jZ (bI (cV (x:=.ref P.h) (aN rfl) (h.at 0 rfl) rfl) (aF (d:=.str x) (aK rfl)) (h.at 1 rfl) h1) h2)]
 rfl
def wc (h:Hv ch (cs P S M R)):q28 [.ref P.s] ch=some (.dat (.int (fI S.f)),ch):=by
 unfold q28
 rw [bV]
 walk_at "m"
 rw [bA (cV (x:=.dat (.int (fI S.f))) (aN rfl) (h.at 0 rfl) rfl)]
 rfl
def rB (h:Hv ch (cs P S M R)):y19 [.ref P.s] ch=some (.dat (oD S.r),ch):=by
 unfold y19
 rw [bV]
 walk_at "m"
 rw [bA (cV (x:=.dat (oD S.r)) (aN rfl) (h.at 0 rfl) rfl)]
 rfl
def nP (h:Hv ch (cs P S M R)):y8 [.ref P.s] ch=some (.dat (.int (1-fI S.f)),ch):=by
 unfold y8
 rw [bV]
 walk_at "m"
 rw [bA (v:=.dat (.int (1-fI S.f))) (ch1:=ch) (by rw [qu (aF (d:=.int 1) rfl) (cV (x:=.dat (.int (fI S.f))) (aN rfl) (h.at 0 rfl) rfl) rfl rfl (t:=.leaf (.int (1-fI S.f))) rfl];rfl)]
 rfl
end
section
variable {ch:CH} {P:Pl} {S M:Sta} {R:List (Nat×CO)} {x:Str} {vs:List Int} {v:Int} {k:Nat}
def yD {j q:Nat} {o:CO} (hj:j<(hl P.ps S.hm).length):∃ l:List (Nat×CO),(cs P S M R).set (22+j) (q,o)=l++((hl P.ps S.hm).set j (q,o)++R)/\∀ S',S'.hm.map (·.1)=S.hm.map (·.1)->S'.p0=S.p0->S'.p1=S.p1->S'.f=S.f->S'.r=S.r->cs P S' M R=l++(hl P.ps S'.hm++R):=by
 rw [Nat.add_comm]
 refine ⟨(cs P S M R).take 22,?_,fun S' h1 h2 h3 h4 h5=>?_⟩
 · show _::_::_::_::_::_::_::_::_::_::_::_::_::_::_::_::_::_::_::_::_::_::(hl P.ps S.hm++R).set j (q,o)=_
   rw [List.set_append_left _ _ hj]
   rfl
 · unfold cs so
   rw [h1,h2,h3,h4,h5]
   rfl
def we {n k:Nat} (h:k<n):ixN n (k:Int)=some k:=by
 unfold ixN
 simp only [Int.natCast_nonneg,if_true,Int.toNat_natCast,Int.ofNat_lt,h]
def ug (h:k<vs.length):tM (li vs) (.int k) (.dat (.int v))=some (li (vs.set k v)):=by
 unfold tM li
 simp only [asI,Option.bind_some,List.length_map,we h,Option.map_some]
 rw [<- List.map_set]
def yE (h:Hv ch (cs P S M R)) (hp:P.ps.length=S.hm.length) (hx:lkS S.hm x=some vs) (hk:k<vs.length):∃ ch',y29 [.ref P.s,.dat (.str x),.dat (.int k),.dat (.int v)] ch=some (.dat .non,ch')/\Hv ch' (cs P {S with hm:=ptS S.hm x (vs.set k v)} M R):=by
 obtain ⟨q,j,h1,h2,h3,h4,h5,h6,h7⟩:=jh h hp hx
 refine ⟨ch.set q (li (vs.set k v)),?_,?_⟩
 · unfold y29
   rw [bV]
   walk_at "m"
   rw [cr (aF (d:=.int v) (aK rfl)) (bI (cV (x:=.ref P.h) (aN rfl) (h.at 0 rfl) rfl) (aF (d:=.str x) (aK rfl)) (h.at 1 rfl) h1) (aF (d:=.int k) (aK rfl)) h2 (ug hk)]
   rfl
 · have hs:=h.set (22+j) h3 (li (vs.set k v))
   obtain ⟨l,e1,e2⟩:=yD (M:=M) (R:=R) (q:=q) (o:=li (vs.set k v)) h6
   rw [e2 {S with hm:=ptS S.hm x (vs.set k v)} (h7 _).1 rfl rfl rfl rfl,show hl P.ps ({S with hm:=ptS S.hm x (vs.set k v)}:Sta).hm=_ from h5 _,<- e1]
   exact hs
def wf (h:Hv ch (cs P S M R)):∃ ch',y27 [.ref P.s] ch=some (.dat .non,ch')/\Hv ch' (cs P {S with f:=!S.f} M R):=by
 have e:(1-fI S.f)=fI (!S.f):=by cases S.f<;>rfl
 refine ⟨ch.set P.s (so P {S with f:=!S.f}),?_,h.set 0 rfl _⟩
 unfold y27
 rw [bV]
 walk_at "m"
 rw [jW (v:=.dat (.int (1-fI S.f))) (ch1:=ch) (by rw [em (aN rfl) (h.at 0 rfl) (by decide +kernel) rfl];exact nP h) (aN rfl) (h.at 0 rfl) (by decide),e]
 rfl
def wg (h:Hv ch (cs P S M R)):∃ ch',q27 [.ref P.s,.dat (.int v)] ch=some (.dat .non,ch')/\Hv ch' (cs P {S with r:=some v} M R):=by
 refine ⟨ch.set P.s (so P {S with r:=some v}),?_,h.set 0 rfl _⟩
 unfold q27
 rw [bV]
 walk_at "m"
 rw [jW (v:=.dat (.int v)) (ch1:=ch) (show eN (toT (vL 1)) _ ch=_ by unfold eN toT;rw [aK (d:=.int v) rfl];rfl) (aN rfl) (h.at 0 rfl) (by decide)]
 rfl
end
def Sta.pg (S:Sta) (n:Bool):Pg:=if n then S.p1 else S.p0
section
variable {ch:CH} {P:Pl} {S M:Sta} {R:List (Nat×CO)} {x:Str} {vs:List Int} {v:Int} {k:Nat} {n:Bool}
def uh {fa fb:Fg} {δ:Sl} {c1 c2:CH} {a b:CV} {xs ys:List CV} (h1:fa δ ch=some (a,c1)) (h2:fb δ c1=some (b,c2)) (h3:o6 c2 a=some xs) (h4:o6 c2 b=some ys) (h5:xs.isEmpty=false) (h6:ys.isEmpty=false) (h7:xs.length+ys.length<=1000) :
  eTa fa fb δ ch=some (.ref c2.length,c2++[.tup (xs++ys)]):=by
 unfold eTa
 rw [h1,Option.bind_some]
 dsimp only
 rw [h2,Option.bind_some]
 dsimp only
 rw [h3,Option.bind_some,h4,Option.bind_some,if_pos ⟨h5,h6,Nat.le_trans h7 (by decide)⟩]
def qx {fs:Fgs} {δ:Sl} {c1:CH} {xs:List CV} (h1:fs δ ch=some (xs,c1)) (h7:xs.length<=1000):eT fs δ ch=some (.ref c1.length,c1++[.tup xs]):=by
 unfold eT
 rw [h1,Option.bind_some,if_pos (Nat.le_trans h7 (by decide))]
def pgH (n:Nat) (p:Pg):CH:=[bl p.b,tl p.t,.tup [.ref n,.ref (n+1)],.tup ((p.h.map Dt.int).map .dat++[.ref n,.ref (n+1)])]
def wj (h:Hv ch (cs P S M R)) (hz:(S.pg n).h.length=4):q25 [.ref P.s,.dat (.int (fI n))] ch=some (.ref (ch.length+3),ch++pgH ch.length (S.pg n)):=by
 have key:∀ (q1 q2:Nat),ixO (.lst [.dat (hd S.p0.h),.dat (hd S.p1.h)]) (.int (fI n))=some (.dat (hd (S.pg n).h))->ixO (.lst [.ref P.b0,.ref P.b1]) (.int (fI n))=some (.ref q1)->ixO (.lst [.ref P.t0,.ref P.t1]) (.int (fI n))=some (.ref q2)->ch[q1]?=some (bl (S.pg n).b)->ch[q2]?=some (tl (S.pg n).t)->q25 [.ref P.s,.dat (.int (fI n))] ch=some (.ref (ch.length+3),ch++pgH ch.length (S.pg n)):=fun q1 q2 i1 i2 i3 g1 g2=>by
  unfold q25
  rw [bV]
  walk_at "m"
  rw [rA] at g1
  rw [yC] at g2
  have h1:=h.app [bl (S.pg n).b]
  rw [rA] at h1
  rw [bA (uh (c1:=ch) (a:=.dat (hd (S.pg n).h)) (xs:=((S.pg n).h.map Dt.int).map .dat) (ys:=[.ref ch.length,.ref (ch.length+1)]) (bI (cV (x:=.ref P.d) (aN rfl) (h.at 0 rfl) rfl) (aF (d:=.int (fI n)) (aK rfl)) (h.at 2 rfl) i1)
   (qx (au (jZ (bI (cV (x:=.ref P.b) (aN rfl) (h.at 0 rfl) rfl) (aF (d:=.int (fI n)) (aK rfl)) (h.at 3 rfl) i2) g1)
    (au (x:=.ref (ch.length+1)) (ch1:=ch++[.lst (((S.pg n).b.map bd).map .dat)]++[.lst (((S.pg n).t.map td).map .dat)]) (by rw [jZ (bI (cV (x:=.ref P.t) (aN rfl) (h1.at 0 rfl) rfl) (aF (d:=.int (fI n)) (aK rfl)) (h1.at 6 rfl) i3) (dj g2)];simp only [List.length_append,List.length_cons,List.length_nil]) rfl)) (by simp)) rfl (by
     show (match (ch++[CO.lst (((S.pg n).b.map bd).map .dat)]++[CO.lst (((S.pg n).t.map td).map .dat)]++[CO.tup [.ref ch.length,.ref (ch.length+1)]])[(ch++[CO.lst (((S.pg n).b.map bd).map .dat)]++[CO.lst (((S.pg n).t.map td).map .dat)]).length]? with
      | some (.tup l)=>some l
      | _=>none)=_
     rw [aR]) (by cases he:(S.pg n).h with
      | nil=>rw [he] at hz;cases hz
      | cons a l=>rfl) rfl (by simp [hz]))]
  rw [<- rA,<- yC]
  show some (CV.ref (ch++[bl (S.pg n).b]++[tl (S.pg n).t]++[CO.tup [.ref ch.length,.ref (ch.length+1)]]).length,ch++[bl (S.pg n).b]++[tl (S.pg n).t]++[CO.tup [.ref ch.length,.ref (ch.length+1)]]++[CO.tup (((S.pg n).h.map Dt.int).map .dat++[.ref ch.length,.ref (ch.length+1)])])=_
  simp only [List.append_assoc,List.cons_append,List.nil_append,List.length_append,List.length_cons,List.length_nil]
  rfl
 cases n
 · exact key P.b0 P.t0 rfl rfl rfl (h.at 4 rfl) (h.at 7 rfl)
 · exact key P.b1 P.t1 rfl rfl rfl (h.at 5 rfl) (h.at 8 rfl)
def gm {fa fe:Fg} {δ:Sl} {q:Nat} {l:List CV} {c:CV} (h1:fa δ ch=some (.ref q,ch)) (h2:fe δ ch=some (c,ch)) (h3:ch[q]?=some (.lst l)) (h4:l.length<1000):dS fa fe δ ch=some (.nx δ (ch.set q (.lst (l++[c])))):=by
 unfold dS
 rw [h1,Option.bind_some]
 dsimp only
 rw [h2,Option.bind_some]
 simp only [h3,Nat.lt_of_lt_of_le h4 (show 1000<=sizeLine by decide),if_true]
def Sta.setP (S:Sta) (n:Bool) (p:Pg):Sta:=if n then {S with p1:=p} else {S with p0:=p}
def gn {δ:Sl} (h:Hv ch (cs P S M R)) (h0:δ[0]?=some (some (.ref P.s))):eM "Store" "other" y8 (eV 0) aD δ ch=some (.dat (.int (fI (!S.f))),ch):=by
 rw [em (aN h0) (h.at 0 rfl) (by decide +kernel) rfl]
 have:=nP h
 rw [show (1-fI S.f)=fI (!S.f) by cases S.f<;>rfl] at this
 exact this
def yF (h:Hv ch (cs P S M R)) (hz:(S.pg (!S.f)).b.length<1000):∃ ch',z17 [.ref P.s,.dat (.str x),.dat (.int v)] ch=some (.dat .non,ch')/\Hv ch' (cs P (S.setP (!S.f) {S.pg (!S.f) with b:=(S.pg (!S.f)).b++[(x,v)]}) M R):=by
 have key:∀ (q:Nat),ixO (.lst [.ref P.b0,.ref P.b1]) (.int (fI (!S.f)))=some (.ref q)->ch[q]?=some (bl (S.pg (!S.f)).b)->z17 [.ref P.s,.dat (.str x),.dat (.int v)] ch=some (.dat .non,ch.set q (bl ((S.pg (!S.f)).b++[(x,v)]))):=fun q i1 g1=>by
  unfold z17
  rw [bV]
  walk_at "m"
  have et:toD (bL (ab (vL 1) (ab (vL 2) am))) (lo [some (CV.ref P.s),some (.dat (.str x)),some (.dat (.int v))] ch)=some (bd (x,v)):=by
   unfold toD bL ab am
   rw [aK (d:=.str x) rfl,aK (d:=.int v) rfl]
   rfl
  rw [gm (bI (cV (x:=.ref P.b) (aN rfl) (h.at 0 rfl) rfl) (gn h rfl) (h.at 3 rfl) i1) (aF et) g1 (by simpa using hz)]
  unfold bl
  rw [List.map_append]
  rfl
 obtain ⟨hm,p0,p1,f,r,w⟩:=S
 cases f
 · exact ⟨_,key P.b1 rfl (h.at 5 rfl),h.set 5 rfl _⟩
 · exact ⟨_,key P.b0 rfl (h.at 4 rfl),h.set 4 rfl _⟩
def ui (h:Hv ch (cs P S M R)) (hz:(S.pg (!S.f)).t.length<1000):∃ ch',z15 [.ref P.s,.dat (.str x),.dat (.int k),.dat (.int v)] ch=some (.dat .non,ch')/\Hv ch' (cs P (S.setP (!S.f) {S.pg (!S.f) with t:=(S.pg (!S.f)).t++[((x,(k:Int)),v)]}) M R):=by
 have key:∀ (q:Nat),ixO (.lst [.ref P.t0,.ref P.t1]) (.int (fI (!S.f)))=some (.ref q)->ch[q]?=some (tl (S.pg (!S.f)).t)->z15 [.ref P.s,.dat (.str x),.dat (.int k),.dat (.int v)] ch=some (.dat .non,ch.set q (tl ((S.pg (!S.f)).t++[((x,(k:Int)),v)]))):=fun q i1 g1=>by
  unfold z15
  rw [bV]
  walk_at "m"
  have et:toD (bL (ab (toD (bL (ab (vL 1) (ab (vL 2) am)))) (ab (vL 3) am))) (lo [some (CV.ref P.s),some (.dat (.str x)),some (.dat (.int k)),some (.dat (.int v))] ch)=some (td ((x,(k:Int)),v)):=by
   rfl
  rw [gm (bI (cV (x:=.ref P.t) (aN rfl) (h.at 0 rfl) rfl) (gn h rfl) (h.at 6 rfl) i1) (aF et) g1 (by simpa using hz)]
  unfold tl
  rw [List.map_append]
  rfl
 obtain ⟨hm,p0,p1,f,r,w⟩:=S
 cases f
 · exact ⟨_,key P.t1 rfl (h.at 8 rfl),h.set 8 rfl _⟩
 · exact ⟨_,key P.t0 rfl (h.at 7 rfl),h.set 7 rfl _⟩
end
section
variable {ch:CH} {P:Pl} {S M:Sta} {R:List (Nat×CO)} {x:Str} {vs:List Int} {v:Int} {k:Nat} {n:Bool}
def Pl.newB (P:Pl) (j:Bool) (n m:Nat):Pl:=if j then {P with b1:=n,t1:=m} else {P with b0:=n,t0:=m}
def uj (a b c d:Int) (h:Hv ch (cs P S M R)):∃ ch' n m,q15 [.ref P.s,.dat (.int a),.dat (.int b),.dat (.int c),.dat (.int d)] ch=some (.dat .non,ch')/\Hv ch' (cs (P.newB (!S.f) n m) (S.setP (!S.f) ⟨[a,b,c,d],[],[]⟩) M R):=by
 obtain ⟨hm,p0,p1,f,r,w⟩:=S
 cases f
 · have h1:=h.set 2 rfl (.lst [.dat (hd p0.h),.dat (hd [a,b,c,d])])
   generalize e1:ch.set P.d (CO.lst [.dat (hd p0.h),.dat (hd [a,b,c,d])])=c1 at h1
   have h2:=h1.app [.lst []]
   have h2':=h2.move 5 (h1.fresh (nL _)) aR
   have h3:=h2'.set 3 rfl (.lst [.ref P.b0,.ref c1.length])
   generalize e3:(c1++[CO.lst []]).set P.b (.lst [.ref P.b0,.ref c1.length])=c3 at h3
   have h4:=h3.app [.lst []]
   have h4':=h4.move 8 (h3.fresh (nL _)) aR
   have h5:=h4'.set 6 rfl (.lst [.ref P.t0,.ref c3.length])
   refine ⟨_,c1.length,c3.length,?_,h5⟩
   unfold q15
   rw [bV]
   walk_at "m"
   rw [aC,cr (v:=.dat (hd [a,b,c,d])) (ch1:=ch) (aF rfl) (cV (x:=.ref P.d) (aN rfl) (h.at 0 rfl) rfl) (gn h rfl) (h.at 2 rfl) (o':=.lst [.dat (hd p0.h),.dat (hd [a,b,c,d])]) rfl,ax,e1,aC,
    cr (v:=.ref c1.length) (ch1:=c1++[.lst []]) rfl (cV (x:=.ref P.b) (aN rfl) (h2.at 0 rfl) rfl) (gn (S:=⟨hm,p0,{p1 with h:=[a,b,c,d]},false,r,w⟩) h2 rfl) (h2.at 3 rfl) (o':=.lst [.ref P.b0,.ref c1.length]) rfl,ax,e3,
    cr (v:=.ref c3.length) (ch1:=c3++[.lst []]) rfl (cV (x:=.ref P.t) (aN rfl) (h4.at 0 rfl) rfl) (gn (P:={P with b1:=c1.length}) (S:=⟨hm,p0,{p1 with h:=[a,b,c,d],b:=[]},false,r,w⟩) h4 rfl) (h4.at 6 rfl) (o':=.lst [.ref P.t0,.ref c3.length]) rfl]
   rfl
 · have h1:=h.set 2 rfl (.lst [.dat (hd [a,b,c,d]),.dat (hd p1.h)])
   generalize e1:ch.set P.d (CO.lst [.dat (hd [a,b,c,d]),.dat (hd p1.h)])=c1 at h1
   have h2:=h1.app [.lst []]
   have h2':=h2.move 4 (h1.fresh (nL _)) aR
   have h3:=h2'.set 3 rfl (.lst [.ref c1.length,.ref P.b1])
   generalize e3:(c1++[CO.lst []]).set P.b (.lst [.ref c1.length,.ref P.b1])=c3 at h3
   have h4:=h3.app [.lst []]
   have h4':=h4.move 7 (h3.fresh (nL _)) aR
   have h5:=h4'.set 6 rfl (.lst [.ref c3.length,.ref P.t1])
   refine ⟨_,c1.length,c3.length,?_,h5⟩
   unfold q15
   rw [bV]
   walk_at "m"
   rw [aC,cr (v:=.dat (hd [a,b,c,d])) (ch1:=ch) (aF rfl) (cV (x:=.ref P.d) (aN rfl) (h.at 0 rfl) rfl) (gn h rfl) (h.at 2 rfl) (o':=.lst [.dat (hd [a,b,c,d]),.dat (hd p1.h)]) rfl,ax,e1,aC,
    cr (v:=.ref c1.length) (ch1:=c1++[.lst []]) rfl (cV (x:=.ref P.b) (aN rfl) (h2.at 0 rfl) rfl) (gn (S:=⟨hm,{p0 with h:=[a,b,c,d]},p1,true,r,w⟩) h2 rfl) (h2.at 3 rfl) (o':=.lst [.ref c1.length,.ref P.b1]) rfl,ax,e3,
    cr (v:=.ref c3.length) (ch1:=c3++[.lst []]) rfl (cV (x:=.ref P.t) (aN rfl) (h4.at 0 rfl) rfl) (gn (P:={P with b0:=c1.length}) (S:=⟨hm,{p0 with h:=[a,b,c,d],b:=[]},p1,true,r,w⟩) h4 rfl) (h4.at 6 rfl) (o':=.lst [.ref c3.length,.ref P.t1]) rfl]
   rfl
end
def uk (ns:List Int) (k:Nat) (hk:k<=1000):∃ v,q12 [.lst (ns.map .int),.int k]=some (.leaf (.int v)):=by
 unfold q12
 walk_at "d"
 rw [List.length_map]
 by_cases h:k<ns.length
 · rw [lX (by simpa using h)]
   walk_at "d"
   obtain ⟨v,e,hm⟩:=tB (xs:=ns.map Dt.int) (i:=k) (by omega) (by rw [List.length_map];omega)
   obtain ⟨x,_,rfl⟩:=List.mem_map.mp hm
   rw [e]
   exact ⟨x,rfl⟩
 · rw [lY (by simpa using h)]
   walk_at "d"
   rw [List.length_map]
   by_cases h0:0<ns.length
   · rw [lX (by simpa using h0)]
     walk_at "d"
     rw [List.length_map,gb (by omega)]
     walk_at "d"
     obtain ⟨v,e,hm⟩:=tB (xs:=ns.map Dt.int) (i:=(k:Int)%(ns.length:Nat)) (Int.emod_nonneg _ (by omega)) (by rw [List.length_map];exact Int.emod_lt_of_pos _ (by omega))
     obtain ⟨x,_,rfl⟩:=List.mem_map.mp hm
     rw [e]
     walk_at "d"
     have m0:=Int.emod_nonneg x (show (999983:Int)≠0 by decide)
     have m1:=Int.emod_lt_of_pos x (show (0:Int)<999983 by decide)
     rw [oR (by omega) (by omega)]
     walk_at "d"
     exact ⟨_,rfl⟩
   · rw [lY (by simpa using h0)]
     walk_at "d"
     rw [oR (by omega) (by omega)]
     walk_at "d"
     exact ⟨_,rfl⟩
def bH (c j m:Int):Int:=match z4 [.int c,.int j,.int m] with | some (.leaf (.int v))=>v | _=>0
def rC (j:Nat):∃ q:Int,atI [Dt.int 10007,.int 10009,.int 10037,.int 10039,.int 10061,.int 10067,.int 10069,.int 10079] ((j:Int)%8)=some (.int q)/\0<q:=by
 obtain ⟨k,hk,ek⟩:=oU (j:Int) (n:=8) (by decide)
 rw [show ((8:Nat):Int)=8 from rfl] at ek
 rw [ek]
 have q:k=0∨k=1∨k=2∨k=3∨k=4∨k=5∨k=6∨k=7:=by omega
 rcases q with rfl | rfl | rfl | rfl | rfl | rfl | rfl | rfl<;>exact ⟨_,rfl,by decide⟩
def bY (c:Int) (j:Nat) {m:Int} (hm:0<m):z4 [.int c,.int j,.int m]=some (.leaf (.int (bH c j m)))/\0<=bH c j m/\bH c j m<m:=by
 obtain ⟨q,eq,hq⟩:=rC j
 have e:z4 [.int c,.int j,.int m]=some (.leaf (.int ((c*48271+7919*j)%q%m))):=by
  unfold z4
  walk_at "d"
  rw [eq]
  walk_at "d"
  rw [gb hq]
  walk_at "d"
  rw [gb hm]
  rfl
 have e2:bH c j m=(c*48271+7919*j)%q%m:=by unfold bH;rw [e]
 rw [e2]
 exact ⟨e,Int.emod_nonneg _ (by omega),Int.emod_lt_of_pos _ hm⟩
def kg:(Str.ofString "abcdefghijklmnopqrstuvwxyz").cps.toList=[97,98,99,100,101,102,103,104,105,106,107,108,109,110,111,112,113,114,115,116,117,118,119,120,121,122]:=by decide +kernel
def letters:Str:="abcdefghijklmnopqrstuvwxyz"
def j0 (i:Nat) (h:i<26):bi (.str letters) (.int i)=some (.leaf (.str ⟨#[97+i]⟩)):=by
 have key:∀ i<26,([97,98,99,100,101,102,103,104,105,106,107,108,109,110,111,112,113,114,115,116,117,118,119,120,121,122]:List Nat)[i]?=some (97+i):=by decide
 rw [zo (qe (by decide +kernel)),tw,show letters.cps.toList=_ from kg,key i h]
 rfl
def nsz (b:Int):Nat:=(1+bH b 7 6).toNat
def ul (b:Int):((nsz b:Nat):Int)=1+bH b 7 6/\1<=nsz b/\nsz b<=6:=by
 have h:=bY b 7 (m:=6) (by decide)
 unfold nsz
 have h1:=h.2.1
 have h2:=h.2.2
 have e:(((7:Nat):Int))=7:=rfl
 rw [e] at h1 h2
 omega
def ncs (b:Int):List Nat:=(List.range (nsz b)).map fun i:Nat=>97+(bH b i 26).toNat
def ji (b:Int):(ncs b).length=nsz b:=by simp [ncs]
def npos (b:Int):Nat:=(bH b 3 (nsz b)).toNat
def rD (b:Int) (k:Nat):Nat:=97+((bH b 4 26).toNat+k)%26
def nam (b:Int) (k:Nat):Str:=⟨((ncs b).set (npos b) (rD b k)).toArray⟩
def qy (b:Int):npos b<nsz b/\((npos b:Nat):Int)=bH b 3 (nsz b):=by
 have h:=bY b 3 (m:=nsz b) (by have:=(ul b).2.1;omega)
 have h1:=h.2.1
 have h2:=h.2.2
 have e:(((3:Nat):Int))=3:=rfl
 rw [e] at h1 h2
 unfold npos
 omega
def yG (b:Int):dl (aq 0) bc z35 [none,some (.leaf (.int b)),some (.leaf (.str letters))] (bn 0 (nsz b))=some (sgD (ncs b)):=by
 have key:∀ n:Nat,dl (aq 0) bc z35 [none,some (.leaf (.int b)),some (.leaf (.str letters))] (bn 0 n)=some ((bn 0 n).map fun d=>match d with | .int i=>.str ⟨#[97+(bH b i 26).toNat]⟩ | d=>d):=fun n=>by
  refine dc fun d hd=>?_
  obtain ⟨i,hi,rfl⟩:=mem_range hd
  refine ⟨_,rfl,rfl,?_⟩
  rw [Int.zero_add]
  unfold z35
  have h:=bY b i (m:=26) (by decide)
  walk_at "d"
  rw [h.1]
  walk_at "d"
  obtain ⟨v,hv⟩:∃ v:Nat,bH b i 26=v:=⟨(bH b i 26).toNat,by omega⟩
  rw [hv,j0 v (by omega)]
  rfl
 rw [key]
 unfold bn ncs sgD
 rw [List.map_map,List.map_map]
 exact congrArg some (List.map_congr_left fun i _=>by
  simp only [Function.comp_apply,Int.zero_add])
def um {i j:Nat} {fk fe:De->Option Dt} {δ:De} {l:List Dt} {n:Int} {d:Dt} (h:δ[i]?=some (some (.lst l))) (hk:fk δ=some (.int n)) (he:fe δ=some d) (hn:n=j) (hj:j<l.length) :
  sZ i fk fe δ=some (.nx (δ.set i (some (.lst (l.set j d))))):=by
 unfold sZ
 rw [he,hk,h]
 show ((ixN l.length n).map fun j=>Out.nx (δ.set i (some (.lst (l.set j d)))))=_
 subst hn
 unfold ixN
 rw [if_pos (by omega),if_pos (by omega)]
 rfl
def jj (b:Int) (k:Nat) (hk:k<=100):y11 [.int b,.int k]=some (.leaf (.str (nam b k))):=by
 have h4:=bY b 4 (m:=26) (by decide)
 rw [show ((4:Nat):Int)=4 from rfl] at h4
 obtain ⟨z1,z2,z3⟩:=ul b
 obtain ⟨p1,p2⟩:=qy b
 have h7:=bY b 7 (m:=6) (by decide)
 have h3:=bY b 3 (m:=nsz b) (by omega)
 rw [show ((7:Nat):Int)=7 from rfl] at h7
 rw [show ((3:Nat):Int)=3 from rfl] at h3
 unfold y11
 walk_at "d"
 rw [h7.1]
 walk_at "d"
 rw [<- z1,iE (by omega),Option.bind_some,show Str.ofString "abcdefghijklmnopqrstuvwxyz"=letters from rfl,yG,Option.bind_some,jH (by unfold sgD;rw [List.length_map,ji];omega)]
 obtain ⟨v,hv⟩:∃ v:Nat,bH b 4 26=v:=⟨(bH b 4 26).toNat,by omega⟩
 rw [Option.map_some,dm,gT,um (l:=sgD (ncs b)) (n:=bH b 3 (nsz b)) (j:=npos b) (d:=.str ⟨#[rD b k]⟩) ?a1 ?a2 ?a3 p2.symm ?a4]
 case a1=>rfl
 case a2 =>
  walk_at "d"
  rw [h3.1]
  rfl
 case a3 =>
  walk_at "d"
  rw [h4.1]
  walk_at "d"
  rw [hv,show ((v:Int)+(k:Int))%26=(((v+k)%26:Nat):Int) by omega,j0 _ (by omega)]
  unfold rD
  rw [hv]
  rfl
 case a4 =>
  unfold sgD
  rw [List.length_map,ji]
  exact p1
 walk_at "d"
 rw [show (sgD (ncs b)).set (npos b) (.str ⟨#[rD b k]⟩)=sgD ((ncs b).set (npos b) (rD b k)) by unfold sgD;rw [List.map_set],show Str.ofString ""=("":Str) from rfl,tz (by rw [List.length_set,ji];omega)]
 rfl
def wl (b:Int) {k j:Nat} (hk2:k<=25) (hj2:j<=25) (e:nam b k=nam b j):k=j:=by
 have hp:=(qy b).1
 have e:=congrArg (fun s:Str=>s.cps.toList) e
 simp only [nam] at e
 have e:=congrArg (fun l:List Nat=>l[npos b]?) e
 simp only [List.getElem?_set,ji,hp,if_true] at e
 have e:=Option.some.inj e
 unfold rD at e
 omega
def gA (x:Str):∀ (vs:List Int) (k:Nat),(df x k vs).map (·.1)=(List.range' k vs.length).map fun i:Nat=>([.inr x,.inl (i:Int)]:List Key)
 | [],k=>rfl
 | v::vs,k=>by
  rw [df,List.map_cons,gA x vs (k+1),List.length_cons,List.range'_succ,List.map_cons]
def uo {x y:Str} {i j:Int} (h:x≠y):([.inr x,.inl i]:List Key)≠[.inr y,.inl j]:=fun e=>h (by
 have:=List.cons.inj e
 exact Sum.inr.inj this.1)
def qz {x y:Str} {i j:Int} (h:i≠j):([.inr x,.inl i]:List Key)≠[.inr y,.inl j]:=fun e=>h (by
 have:=List.cons.inj (List.cons.inj e).2
 exact Sum.inl.inj this.1)
def j1 {x y:Str} (h:x≠y) (i:Int):∀ (vs:List Int) (k:Nat) (m:List (List Key×CV)),lkC (df x k vs++m) [.inr y,.inl i]=lkC m [.inr y,.inl i]
 | [],k,m=>rfl
 | v::vs,k,m=>by
  rw [df,List.cons_append,bM,if_neg (uo h),j1 h i vs (k+1) m]
def qA {x:Str} {v:Int} (m:List (List Key×CV)):∀ (vs:List Int) (k j:Nat),vs[j]?=some v->lkC (df x k vs++m) [.inr x,.inl ((k+j:Nat):Int)]=some (.dat (.int v))
 | [],k,j,h=>by simp at h
 | u::vs,k,0,h=>by
  simp at h
  subst h
  rw [df,List.cons_append,bM,if_pos (by simp)]
 | u::vs,k,j+1,h=>by
  rw [df,List.cons_append,bM,if_neg (qz (by omega)),show k+(j+1)=(k+1)+j by omega]
  exact qA m vs (k+1) j (by simpa using h)
def uq {x:Str} {vs:List Int} {v:Int} {k:Nat}:∀ {hm:Hm},lkS hm x=some vs->vs[k]?=some v->lkC (dTm hm) [.inr x,.inl (k:Int)]=some (.dat (.int v))
 | [],h,_=>by cases h
 | s::hm,h,hv=>by
  rw [lkS] at h
  rw [dTm]
  by_cases e:s.1=x
  · rw [if_pos e] at h
    cases h
    have:=qA (x:=x) (dTm hm) s.2 0 k hv
    rw [Nat.zero_add] at this
    rw [e]
    exact this
  · rw [if_neg e] at h
    rw [j1 e]
    exact uq h hv
def gp {x y:Str} (h:x≠y) (i:Int) (c:CV):∀ (vs:List Int) (k:Nat) (m:List (List Key×CV)),dY (df x k vs++m) [.inr y,.inl i] c=df x k vs++dY m [.inr y,.inl i] c
 | [],k,m=>rfl
 | v::vs,k,m=>by
  rw [df,List.cons_append,dY,if_neg (uo h),gp h i c vs (k+1) m]
  rfl
def nQ {x:Str} {v:Int} (m:List (List Key×CV)):∀ (vs:List Int) (k j:Nat),j<vs.length->dY (df x k vs++m) [.inr x,.inl ((k+j:Nat):Int)] (.dat (.int v))=df x k (vs.set j v)++m
 | [],k,j,h=>by simp at h
 | u::vs,k,0,h=>by
  rw [df,List.cons_append,dY,if_pos (by simp)]
  rfl
 | u::vs,k,j+1,h=>by
  rw [df,List.cons_append,dY,if_neg (qz (by omega)),show k+(j+1)=(k+1)+j by omega,nQ m vs (k+1) j (by simpa using h)]
  rfl
def qB {x:Str} {vs:List Int} {v:Int} {k:Nat}:∀ {hm:Hm},lkS hm x=some vs->k<vs.length->dY (dTm hm) [.inr x,.inl (k:Int)] (.dat (.int v))=dTm (ptS hm x (vs.set k v))
 | [],h,_=>by cases h
 | s::hm,h,hv=>by
  rw [lkS] at h
  rw [dTm,ptS]
  by_cases e:s.1=x
  · rw [if_pos e] at h
    cases h
    rw [if_pos e,dTm,e]
    have:=nQ (x:=x) (v:=v) (dTm hm) s.2 0 k hv
    rw [Nat.zero_add] at this
    exact this
  · rw [if_neg e] at h
    rw [if_neg e,dTm,gp e,qB h hv]
def ur {hm hm':Hm} (h:hm.map (fun s=>(s.1,s.2.length))=hm'.map fun s=>(s.1,s.2.length)):(dTm hm).map (·.1)=(dTm hm').map (·.1):=by
 induction hm generalizing hm' with
 | nil =>
  cases hm' with
  | nil=>rfl
  | cons _ _=>cases h
 | cons s hm ih =>
  cases hm' with
  | nil=>cases h
  | cons s' hm' =>
   simp only [List.map_cons,List.cons.injEq,Prod.mk.injEq] at h
   rw [dTm,dTm,List.map_append,List.map_append,ih h.2,gA,gA,h.1.1,h.1.2]
def fO {x:List Key×CV}:∀ {hm:Hm},(hm.map (·.1)).Nodup->x∈dTm hm->∃ (n:Str) (vs:List Int) (k:Nat) (v:Int),x=([.inr n,.inl (k:Int)],.dat (.int v))/\lkS hm n=some vs/\vs[k]?=some v/\n∈hm.map (·.1)
 | [],_,h=>by cases h
 | s::hm,nd,h=>by
  rw [dTm] at h
  rcases List.mem_append.mp h with h | h
  · have key:∀ (vs:List Int) (j:Nat),x∈df s.1 j vs->∃ (k:Nat) (v:Int),x=([.inr s.1,.inl ((j+k:Nat):Int)],.dat (.int v))/\vs[k]?=some v:=fun vs=>by
     induction vs with
     | nil=>intro j h;cases h
     | cons u vs ih =>
      intro j h
      rw [df] at h
      rcases List.mem_cons.mp h with rfl | h
      · exact ⟨0,u,rfl,rfl⟩
      · obtain ⟨k,v,h1,h2⟩:=ih (j+1) h
        exact ⟨k+1,v,by rw [h1,show j+1+k=j+(k+1) by omega],by simpa using h2⟩
    obtain ⟨k,v,h1,h2⟩:=key s.2 0 h
    rw [Nat.zero_add] at h1
    exact ⟨s.1,s.2,k,v,h1,by rw [lkS,if_pos rfl],h2,by simp⟩
  · obtain ⟨n,vs,k,v,h1,h2,h3,h4⟩:=fO (List.nodup_cons.mp nd).2 h
    refine ⟨n,vs,k,v,h1,?_,h3,by simp only [List.map_cons];exact List.mem_cons_of_mem _ h4⟩
    rw [lkS,if_neg (fun e:s.1=n=>(List.nodup_cons.mp nd).1 (by show s.1∈_;rw [e];exact h4))]
    exact h2
def my:∀ {hm:Hm},(hm.map (·.1)).Nodup->((dTm hm).map (·.1)).Nodup
 | [],_=>List.nodup_nil
 | s::hm,nd=>by
  rw [dTm,List.map_append,gA]
  refine List.nodup_append.mpr ⟨?_,my (List.nodup_cons.mp nd).2,fun a ha b hb e=>?_⟩
  · exact List.pairwise_map.mpr ((List.nodup_range' (step:=1)).imp fun h z=>h (by
     have:=List.cons.inj (List.cons.inj z).2
     have:=Sum.inl.inj this.1
     omega))
  · subst e
    obtain ⟨i,_,rfl⟩:=List.mem_map.mp ha
    obtain ⟨y,hy,e⟩:=List.mem_map.mp hb
    obtain ⟨n,vs,k,v,rfl,_,_,h4⟩:=fO (List.nodup_cons.mp nd).2 hy
    have e1:=Sum.inr.inj (List.cons.inj e).1
    exact (List.nodup_cons.mp nd).1 (by show s.1∈_;rw [<- e1];exact h4)
def nR {x:Str} {vs ws:List Int}:∀ {hm:Hm},lkS hm x=some vs->ws.length=vs.length->(ptS hm x ws).map (fun s=>(s.1,s.2.length))=hm.map fun s=>(s.1,s.2.length)
 | [],h,_=>by cases h
 | s::hm,h,hl=>by
  rw [lkS] at h
  rw [ptS]
  by_cases e:s.1=x
  · rw [if_pos e] at h
    cases h
    rw [if_pos e]
    simp [hl]
  · rw [if_neg e] at h
    rw [if_neg e,List.map_cons,List.map_cons,nR h hl]
def Sz:Nat->Dt->Prop
 | 0,d=>(∃ i,d=.int i)∨∃ x,d=.str x
 | n+1,d=>((∃ i,d=.int i)∨∃ x,d=.str x)∨∃ l:List Dt,(d=.tup l∨d=.lst l)/\l.length<=1000/\∀ x∈l,Sz n x
def qC (F:List Dt->Option T) {d:Dt} (h:(∃ i,d=.int i)∨∃ x,d=.str x):q24 F [d,d]=some (.leaf (.bl true)):=by
 rcases h with ⟨i,rfl⟩ | ⟨x,rfl⟩
 · unfold q24
   walk_at "d"
 · unfold q24
   walk_at "d"
def ut {α:Type} (l:List α):oM (fun bs=>bs.all id) [.lst (l.map fun _=>.bl true)]=some (.leaf (.bl true)):=by
 have h:jF (l.map fun _=>Dt.bl true)=some (l.map fun _=>true):=by
  induction l with
  | nil=>rfl
  | cons a l ih=>simp -implicitDefEqProofs only [List.map_cons,jF,ih];rfl
 show (jF (l.map fun _=>Dt.bl true)).map _=_
 rw [h]
 simp
def uu {F:List Dt->Option T} {l:List Dt} (hl:l.length<=1000) (h:∀ x∈l,F [x,x]=some (.leaf (.bl true))):q24 F [.tup l,.tup l]=some (.leaf (.bl true)):=by
 have hc:dl (aq 0) bc (z40 F) [none,some (.leaf (.tup l)),some (.leaf (.tup l))] (bn 0 l.length)=some ((bn 0 l.length).map fun _=>.bl true):=by
  refine dc fun d hd=>?_
  obtain ⟨i,hi,rfl⟩:=mem_range hd
  refine ⟨_,rfl,rfl,?_⟩
  rw [Int.zero_add]
  unfold z40
  walk_at "d"
  rw [dy (gQ hi)]
  show Option.map T.d (F [l[i],l[i]])=_
  rw [h _ (List.getElem_mem hi)]
  rfl
 unfold q24
 walk_at "d"
 rw [iE (by omega),Option.bind_some,hc,Option.bind_some,jH (by rw [List.length_map];unfold bn;rw [List.length_map,List.length_range];omega)]
 show oS (kR (Option.map Out.rt (oM (fun bs=>bs.all id) [.lst ((bn 0 l.length).map fun _=>.bl true)])) _)=_
 rw [ut]
 rfl
def uv {F:List Dt->Option T} {l:List Dt} (hl:l.length<=1000) (h:∀ x∈l,F [x,x]=some (.leaf (.bl true))):q24 F [.lst l,.lst l]=some (.leaf (.bl true)):=by
 have hc:dl (aq 0) bc (y41 F) [none,some (.leaf (.lst l)),some (.leaf (.lst l))] (bn 0 l.length)=some ((bn 0 l.length).map fun _=>.bl true):=by
  refine dc fun d hd=>?_
  obtain ⟨i,hi,rfl⟩:=mem_range hd
  refine ⟨_,rfl,rfl,?_⟩
  rw [Int.zero_add]
  unfold y41
  walk_at "d"
  rw [dy (gQ hi)]
  show Option.map T.d (F [l[i],l[i]])=_
  rw [h _ (List.getElem_mem hi)]
  rfl
 unfold q24
 walk_at "d"
 rw [iE (by omega),Option.bind_some,hc,Option.bind_some,jH (by rw [List.length_map];unfold bn;rw [List.length_map,List.length_range];omega)]
 show oS (kR (Option.map Out.rt (oM (fun bs=>bs.all id) [.lst ((bn 0 l.length).map fun _=>.bl true)])) _)=_
 rw [ut]
 rfl
def jk:∀ (n m:Nat) (d:Dt),Sz n d->n<m->y10 m [d,d]=some (.leaf (.bl true))
 | _,0,_,_,h=>by omega
 | 0,m+1,d,h,_=>qC _ h
 | n+1,m+1,d,h,hm=>by
  rcases h with h | ⟨l,e,hl,h⟩
  · exact qC _ h
  · have ih:∀ x∈l,y10 m [x,x]=some (.leaf (.bl true)):=fun x hx=>jk n m x (h x hx) (by omega)
    rcases e with rfl | rfl
    · exact uu hl ih
    · exact uv hl ih
def Sz.int (n:Nat) (i:Int):Sz n (.int i):=by
 cases n
 · exact .inl ⟨i,rfl⟩
 · exact .inl (.inl ⟨i,rfl⟩)
def Sz.str (n:Nat) (x:Str):Sz n (.str x):=by
 cases n
 · exact .inr ⟨x,rfl⟩
 · exact .inl (.inr ⟨x,rfl⟩)
def Sz.tup {n:Nat} {l:List Dt} (hl:l.length<=1000) (h:∀ x∈l,Sz n x):Sz (n+1) (.tup l):=.inr ⟨l,.inl rfl,hl,h⟩
def Sz.lst {n:Nat} {l:List Dt} (hl:l.length<=1000) (h:∀ x∈l,Sz n x):Sz (n+1) (.lst l):=.inr ⟨l,.inr rfl,hl,h⟩
def pgD (p:Pg):Dt:=.tup (p.h.map .int++[.lst (p.b.map bd),.lst (p.t.map td)])
def wm {p:Pg} (hh:p.h.length=4) (hb:p.b.length<=900) (ht:p.t.length<=900):Sz 4 (pgD p):=by
 refine Sz.tup (by simp [hh]) fun x hx=>?_
 rcases List.mem_append.mp hx with hx | hx
 · obtain ⟨i,_,rfl⟩:=List.mem_map.mp hx
   exact Sz.int _ _
 · rcases List.mem_cons.mp hx with rfl | hx
   · refine Sz.lst (by simp;omega) fun y hy=>?_
     obtain ⟨q,_,rfl⟩:=List.mem_map.mp hy
     refine Sz.tup (by simp) fun z hz=>?_
     rcases List.mem_cons.mp hz with rfl | hz
     · exact Sz.str _ _
     · rw [List.mem_singleton.mp hz];exact Sz.int _ _
   · rw [List.mem_singleton.mp hx]
     refine Sz.lst (by simp;omega) fun y hy=>?_
     obtain ⟨q,_,rfl⟩:=List.mem_map.mp hy
     refine Sz.tup (by simp) fun z hz=>?_
     rcases List.mem_cons.mp hz with rfl | hz
     · refine Sz.tup (by simp) fun u hu=>?_
       rcases List.mem_cons.mp hu with rfl | hu
       · exact Sz.str _ _
       · rw [List.mem_singleton.mp hu];exact Sz.int _ _
     · rw [List.mem_singleton.mp hz];exact Sz.int _ _
section
variable {ch c1 c2:CH} {P:Pl} {S M:Sta} {R:List (Nat×CO)} {x:Str} {vs:List Int} {v:Int} {k:Nat} {n:Bool} {δ:Sl} {fa fb fo:Fg} {fs:Fgs} {i:Nat}
def Hv.setOut {l:List (Nat×CO)} (h:Hv ch l) {j:Nat} (hj:j∉l.map (·.1)) (o:CO):Hv (ch.set j o) l:=⟨h.1,fun y hy=>by
 rw [gN fun e=>hj (by rw [e];exact List.mem_map_of_mem hy)]
 exact h.2 y hy⟩
def mz {m:Nat} {g:List Dt->Option T} {xs:List CV} {ds:List Dt} {b:Bool} (h1:fs δ ch=some (xs,c1)) (h2:dF (vwD c1 m) xs=some ds) (h3:g ds=some (.leaf (.bl b))):iF m g fs δ ch=some (.dat (.bl b),c1):=by
 unfold iF
 rw [h1,Option.bind_some]
 dsimp only
 rw [h2,Option.bind_some,h3]
 rfl
def wn {xs:List CV} {l:List (List Key×CV)} {ks:List Key} {c:CV} {o:CO} (h1:fo δ ch=some (.ref i,c1)) (h2:fs δ c1=some (xs,c2)) (h3:c2[i]?=some o) (h4:asT o=some l) (h5:jP xs=some ks) (h6:lkC l ks=some c) (h7:xs.length<=1000):nH fo fs δ ch=some (c,c2):=by
 unfold nH
 rw [h1,Option.bind_some]
 dsimp only
 rw [h2,Option.bind_some]
 simp only [h3,Option.bind_some,h4,if_pos (Nat.le_trans h7 (show 1000<=sizeLine by decide)),h5,h6,Option.map_some]
def eG {b:Bool} (h:fa δ ch=some (.dat (.bl b),c1)):eg (dU fa) δ ch=some (!b,c1):=by
 unfold eg
 rw [uc h]
 rfl
def eI {f:Ft} {g:Fs} (h:f δ ch=some (false,c1)):fJ f g dn δ ch=some (.nx δ c1):=by
 rw [gZ,h,vZ]
 rfl
def jl:ixO (mo P) (.str "home")=some (.ref P.mh):=by
 unfold ixO mo
 simp only [fG,Option.bind_some]
 rw [bM,if_pos rfl]
def j2:ixO (mo P) (.str "pages")=some (.ref P.mp):=by
 unfold ixO mo
 simp only [fG,Option.bind_some]
 rw [bM,if_neg (by dsimp only;decide +kernel),bM,if_pos rfl]
def mB:ixO (mo P) (.str "face")=some (.ref P.mf):=by
 unfold ixO mo
 simp only [fG,Option.bind_some]
 rw [bM,if_neg (by dsimp only;decide +kernel),bM,if_neg (by dsimp only;decide +kernel),bM,if_pos rfl]
def lq:ixO (mo P) (.str "answer")=some (.ref P.ma):=by
 unfold ixO mo
 simp only [fG,Option.bind_some]
 rw [bM,if_neg (by dsimp only;decide +kernel),bM,if_neg (by dsimp only;decide +kernel),bM,if_neg (by dsimp only;decide +kernel),bM,if_pos rfl]
def i0 {d:Dt} {c:CV} (h:Hv ch (cs P S M R)) (h2:δ[i]?=some (some (.ref P.m))) (hd:ixO (mo P) d=some c):eIx (eV i) (eD (kD d)) δ ch=some (c,ch):=bI (aN h2) (aF rfl) (h.at 9 rfl) hd
def zA:asT (ho M)=some (dTm M.hm):=by
 unfold ho
 cases M.w<;>rfl
def uw {ka kb:Fg} (h:Hv ch (cs P S M R)) (h2:δ[i]?=some (some (.ref P.m))) (hx:lkS M.hm x=some vs) (hv:vs[k]?=some v) (ha:ka δ ch=some (.dat (.str x),ch)) (hb:kb δ ch=some (.dat (.int k),ch)) :
  nH (eIx (eV i) (eD (kD (.str "home")))) (ah ka (ah kb aD)) δ ch=some (.dat (.int v),ch):=
 wn (i0 h h2 jl) (au ha (au hb rfl)) (h.at 10 rfl) zA (ks:=[.inr x,.inl (k:Int)]) rfl (uq hx hv) (by simp)
def ip {f1 f2:Fg} (h1:f1 δ ch=some (.dat (.int v),c1)) (h2:f2 δ c1=some (.dat (.int v),c2)):iF 3 (y10 6) (ah f1 (ah f2 aD)) δ ch=some (.dat (.bl true),c2):=
 mz (au h1 (au h2 rfl)) (ds:=[.int v,.int v]) rfl (jk 0 6 (.int v) (Sz.int 0 v) (by decide))
end
section
variable {ch:CH} {δ:Sl}
def mgS3 {i j k:Nat} {a b c:Dt} (hij:i≠j) (hik:i≠k) (hjk:j≠k) (hi:i<δ.length) (hj:j<δ.length) (hk:k<δ.length):mgS [i,j,k] δ ((((lo δ ch).set i (some (.leaf a))).set j (some (.leaf b))).set k (some (.leaf c)))=((δ.set i (some (.dat a))).set j (some (.dat b))).set k (some (.dat c)):=by
 have h2:(lo δ ch).length=δ.length:=fH ch [] δ
 apply List.ext_getElem?
 intro m
 unfold mgS
 rw [List.getElem?_mapIdx]
 by_cases ek:k=m
 · subst ek
   rw [List.getElem?_set_self (by simpa [h2] using hk),List.getElem?_set_self (by simpa [h2] using hk),List.getElem?_eq_getElem hk]
   simp
 · rw [gN ek,gN ek]
   by_cases ej:j=m
   · subst ej
     rw [List.getElem?_set_self (by simpa [h2] using hj),List.getElem?_set_self (by simpa [h2] using hj),List.getElem?_eq_getElem hj]
     simp
   · rw [gN ej,gN ej]
     by_cases ei:i=m
     · subst ei
       rw [List.getElem?_set_self (by simpa [h2] using hi),List.getElem?_set_self (by simpa [h2] using hi),List.getElem?_eq_getElem hi]
       simp
     · rw [gN ei,gN ei]
       have e1:¬ m=i:=fun z=>ei z.symm
       have e2:¬ m=j:=fun z=>ej z.symm
       have e3:¬ m=k:=fun z=>ek z.symm
       cases h:δ[m]? with
       | none=>rfl
       | some x=>simp [e1,e2,e3]
def mgS2 {i j:Nat} {a b:Dt} (hij:i≠j) (hi:i<δ.length) (hj:j<δ.length):mgS [i,j] δ (((lo δ ch).set i (some (.leaf a))).set j (some (.leaf b)))=(δ.set i (some (.dat a))).set j (some (.dat b)):=by
 have h2:(lo δ ch).length=δ.length:=fH ch [] δ
 apply List.ext_getElem?
 intro m
 unfold mgS
 rw [List.getElem?_mapIdx]
 by_cases ej:j=m
 · subst ej
   rw [List.getElem?_set_self (by simpa [h2] using hj),List.getElem?_set_self (by simpa [h2] using hj),List.getElem?_eq_getElem hj]
   simp
 · rw [gN ej,gN ej]
   by_cases ei:i=m
   · subst ei
     rw [List.getElem?_set_self (by simpa [h2] using hi),List.getElem?_set_self (by simpa [h2] using hi),List.getElem?_eq_getElem hi]
     simp
   · rw [gN ei,gN ei]
     have e1:¬ m=i:=fun z=>ei z.symm
     have e2:¬ m=j:=fun z=>ej z.symm
     cases h:δ[m]? with
     | none=>rfl
     | some x=>simp [e1,e2]
end
def j3 {i j k:Nat} {g:Fs} {I:Sl->CH->Prop} (hij:i≠j) (hik:i≠k) (hjk:j≠k) (hI:∀ δ ch,I δ ch->i<δ.length/\j<δ.length/\k<δ.length):∀ {ds:List (Dt×Dt×Dt)} {δ:Sl} {ch:CH},(∀ d∈ds,∀ δ ch,I δ ch->∃ δ2 ch2,g (((δ.set i (some (.dat d.1))).set j (some (.dat d.2.1))).set k (some (.dat d.2.2))) ch=some (.nx δ2 ch2)/\I δ2 ch2)->I δ ch→
  ∃ δ2 ch2,fK [i,j,k] (da 3 (aJ (aq i) (aJ (aq j) (aJ (aq k) cZ)))) g (ds.map fun d=>.tup [d.1,d.2.1,d.2.2]) δ ch=some (.nx δ2 ch2)/\I δ2 ch2
 | [],δ,ch,_,h=>⟨δ,ch,rfl,h⟩
 | d::ds,δ,ch,hb,h=>by
  obtain ⟨δ1,ch1,e,h1⟩:=hb d (by simp) δ ch h
  obtain ⟨q1,q2,q3⟩:=hI _ _ h
  obtain ⟨δ2,ch2,e2,h2⟩:=j3 hij hik hjk hI (ds:=ds) (δ:=δ1) (ch:=ch1) (fun z hz=>hb z (by simp [hz])) h1
  refine ⟨δ2,ch2,?_,h2⟩
  rw [List.map_cons]
  show ((da 3 (aJ (aq i) (aJ (aq j) (aJ (aq k) cZ))) (.tup [d.1,d.2.1,d.2.2]) (lo δ ch)).bind fun δ1=>(g (mgS [i,j,k] δ δ1) ch).bind fun o=>_)=_
  rw [show da 3 (aJ (aq i) (aJ (aq j) (aJ (aq k) cZ))) (.tup [d.1,d.2.1,d.2.2]) (lo δ ch)=some ((((lo δ ch).set i (some (.leaf d.1))).set j (some (.leaf d.2.1))).set k (some (.leaf d.2.2))) from rfl,Option.bind_some,mgS3 hij hik hjk q1 q2 q3,e]
  exact e2
def nS {i j:Nat} {g:Fs} {I:Sl->CH->Prop} (hij:i≠j) (hI:∀ δ ch,I δ ch->i<δ.length/\j<δ.length):∀ {ds:List (Dt×Dt)} {δ:Sl} {ch:CH},(∀ d∈ds,∀ δ ch,I δ ch->∃ δ2 ch2,g ((δ.set i (some (.dat d.1))).set j (some (.dat d.2))) ch=some (.nx δ2 ch2)/\I δ2 ch2)->I δ ch→
  ∃ δ2 ch2,fK [i,j] (da 2 (aJ (aq i) (aJ (aq j) cZ))) g (ds.map fun d=>.tup [d.1,d.2]) δ ch=some (.nx δ2 ch2)/\I δ2 ch2
 | [],δ,ch,_,h=>⟨δ,ch,rfl,h⟩
 | d::ds,δ,ch,hb,h=>by
  obtain ⟨δ1,ch1,e,h1⟩:=hb d (by simp) δ ch h
  obtain ⟨q1,q2⟩:=hI _ _ h
  obtain ⟨δ2,ch2,e2,h2⟩:=nS hij hI (ds:=ds) (δ:=δ1) (ch:=ch1) (fun z hz=>hb z (by simp [hz])) h1
  refine ⟨δ2,ch2,?_,h2⟩
  rw [List.map_cons]
  show ((da 2 (aJ (aq i) (aJ (aq j) cZ)) (.tup [d.1,d.2]) (lo δ ch)).bind fun δ1=>(g (mgS [i,j] δ δ1) ch).bind fun o=>_)=_
  rw [show da 2 (aJ (aq i) (aJ (aq j) cZ)) (.tup [d.1,d.2]) (lo δ ch)=some (((lo δ ch).set i (some (.leaf d.1))).set j (some (.leaf d.2))) from rfl,Option.bind_some,mgS2 hij q1 q2,e]
  exact e2
abbrev Hd:=Str×Int×Bool
def hdD (h:Hd):Dt:=.tup [.str h.1,.int h.2.1,.bl h.2.2]
def bm (cl sh:List Hd) (rw:Dt):Dt:=.tup [.tup (cl.map hdD),.tup (sh.map hdD),rw]
structure Ok (cl sh:List Hd) (P:Pl) (S:Sta) (n:Nat):Prop where
 pl:P.ps.length=S.hm.length
 nd:(S.hm.map (·.1)).Nodup
 tot:(dTm S.hm).length<900
 sc:∀ h∈cl,∃ vs v,lkS S.hm h.1=some vs/\vs[0]?=some v
 ss:∀ h∈sh,∃ vs,lkS S.hm h.1=some vs/\h.2.1=(vs.length:Int)/\vs.length<=8
 h0:S.p0.h.length=4
 h1:S.p1.h.length=4
 b0:S.p0.b.length<=n
 b1:S.p1.b.length<=n
 t0:S.p0.t.length<=n
 t1:S.p1.t.length<=n
 w:S.w=false
structure Sl3 (a b c:CV) (m:Nat) (δ:Sl):Prop where
 len:δ.length=m
 s0:δ[0]?=some (some a)
 s1:δ[1]?=some (some b)
 s2:δ[2]?=some (some c)
def Sl3.set {a b c x:CV} {m i:Nat} {δ:Sl} (h:Sl3 a b c m δ) (hi:3<=i):Sl3 a b c m (δ.set i (some x)):=
 ⟨by rw [List.length_set];exact h.len,by rw [gN (by omega)];exact h.s0,by rw [gN (by omega)];exact h.s1,by rw [gN (by omega)];exact h.s2⟩
section
variable {ch c1 c2:CH} {P:Pl} {S M:Sta} {R:List (Nat×CO)} {x:Str} {vs:List Int} {v:Int} {k:Nat} {n:Bool} {δ:Sl} {fa fb fo:Fg} {fs:Fgs} {i:Nat} {cl sh:List Hd} {rw:Dt}
def in3 {a b c:Option CV} {i j k:Nat} (hi:i<δ.length) (hij:i≠j) (hik:i≠k):(((δ.set i a).set j b).set k c)[i]?=some a:=by
 rw [gN (Ne.symm hik),gN (Ne.symm hij),List.getElem?_set_self hi]
def o8 (h:Hv ch (cs P S S R)) (ok:Ok cl sh P S k) (hδ:Sl3 (.ref P.s) (.dat (bm cl sh rw)) (.ref P.m) 15 δ) :
  ∃ δ2,b8 (fIt (toD (d2 bi (vB 1) (kD (.int 0))))) [3,4,5] (da 3 (aJ (aq 3) (aJ (aq 4) (aJ (aq 5) cZ)))) y34 δ ch=some (.nx δ2 ch)/\Sl3 (.ref P.s) (.dat (bm cl sh rw)) (.ref P.m) 15 δ2:=by
 have hit:fIt (toD (d2 bi (vB 1) (kD (.int 0)))) (lo δ ch)=some (cl.map hdD):=by
  unfold fIt toD d2
  rw [dw hδ.s1]
  rfl
 unfold b8
 rw [hit,Option.bind_some]
 obtain ⟨δ2,ch2,e,h2,rfl⟩:=j3 (i:=3) (j:=4) (k:=5) (g:=y34) (I:=fun δ c=>Sl3 (.ref P.s) (.dat (bm cl sh rw)) (.ref P.m) 15 δ/\c=ch) (by decide) (by decide) (by decide) (fun δ c q=>by rw [q.1.len];decide) (ds:=cl.map fun h=>(.str h.1,.int h.2.1,.bl h.2.2)) (δ:=δ) (ch:=ch) (fun d hd δ' c ⟨q,e⟩=>by
     subst e
     obtain ⟨hh,hm,rfl⟩:=List.mem_map.mp hd
     obtain ⟨vs,v,hx,hv⟩:=ok.sc hh hm
     have q':=((q.set (x:=.dat (.str hh.1)) (i:=3) (by decide)).set (x:=.dat (.int hh.2.1)) (i:=4) (by decide)).set (x:=.dat (.bl hh.2.2)) (i:=5) (by decide)
     have s3:(((δ'.set 3 (some (.dat (.str hh.1)))).set 4 (some (.dat (.int hh.2.1)))).set 5 (some (.dat (.bl hh.2.2))))[3]?=some (some (.dat (.str hh.1))):=in3 (by rw [q.len];decide) (by decide) (by decide)
     refine ⟨_,c,?_,q',rfl⟩
     unfold y34
     exact eI (by rw [eG (ip (by rw [em (aN q'.s0) (h.at 0 rfl) (by decide +kernel) (au (aF (aK s3)) rfl)];exact wb h ok.pl hx hv) (uw h q'.s2 hx (k:=0) hv (aF (aK s3)) (aF rfl)))];rfl)) ⟨hδ,rfl⟩
 rw [List.map_map] at e
 exact ⟨δ2,e,h2⟩
end
def lr {fe:Fg} {δ:Sl} {ch:CH} {f:Dt->CV} (hl:0<δ.length):∀ {ds:List Dt},(∀ d∈ds,fe (δ.set 0 (some (.dat d))) ch=some (f d,ch))->dr [0] (aq 0) bc fe δ ds ch=some (ds.map f,ch)
 | [],_=>rfl
 | d::ds,h=>by
  have ih:=lr hl (ds:=ds) fun z hz=>h z (by simp [hz])
  show ((aq 0 d (lo δ ch)).bind fun δ1=>(bc (lo (mgS [0] δ δ1) ch)).bind fun b=>if b then (fe (mgS [0] δ δ1) ch).bind fun p'=>(dr [0] (aq 0) bc fe δ ds p'.2).map fun q=>(p'.1::q.1,q.2) else dr [0] (aq 0) bc fe δ ds ch)=_
  unfold aq
  rw [Option.bind_some,jX hl]
  show ((fe (δ.set 0 (some (.dat d))) ch).bind fun p'=>(dr [0] (aq 0) bc fe δ ds p'.2).map fun q=>(p'.1::q.1,q.2))=_
  rw [h d (by simp),Option.bind_some]
  dsimp only
  rw [ih]
  rfl
def rE {α:Type} (g:Int->α) (vs:List Int):(bn 0 vs.length).map (fun d=>match d with | .int i=>g (vs.getD i.toNat 0) | _=>g 0)=vs.map g:=by
 unfold bn
 rw [List.map_map]
 apply List.ext_getElem?
 intro j
 rw [List.getElem?_map,List.getElem?_map]
 by_cases h:j<vs.length
 · rw [List.getElem?_range h,gQ h]
   simp [h]
 · rw [List.getElem?_eq_none (by simpa using h),List.getElem?_eq_none (by simpa using h)]
   rfl
def ux {δ:Sl} {ch:CH} {i m:Nat} (h:δ[i]?=some (some (.dat (.int (m:Int))))) (hm:m<=1000):cP cX (ab (vL i) am) (lo δ ch)=some (bn 0 m):=by
 have e:ab (vL i) am (lo δ ch)=some [.int (m:Int)]:=by
  unfold ab am
  rw [aK h]
  rfl
 unfold cP
 rw [e,Option.bind_some,iE (Nat.le_trans hm (by decide))]
section
variable {ch c1 c2:CH} {P:Pl} {S M:Sta} {R:List (Nat×CO)} {x:Str} {vs:List Int} {v:Int} {k:Nat} {n:Bool} {δ:Sl} {fa fb fo:Fg} {fs:Fgs} {i:Nat} {cl sh:List Hd} {rw:Dt}
def rF (h:Hv ch (cs P S M R)) (hx:lkS M.hm x=some vs):dr [0] (aq 0) bc z34 [none,some (.ref P.m),some (.dat (.str x))] (bn 0 vs.length) ch=some (vs.map fun v=>.dat (.int v),ch):=by
 rw [lr (f:=fun d=>match d with | .int i=>.dat (.int (vs.getD i.toNat 0)) | _=>.dat (.int 0)) (by show 0<3;decide) fun d hd=>?_,rE (fun v=>CV.dat (.int v))]
 obtain ⟨j,hj,rfl⟩:=mem_range hd
 rw [Int.zero_add]
 unfold z34
 refine uw h rfl hx (k:=j) ?_ (aF (aK rfl)) (aF (aK rfl))
 rw [Int.toNat_natCast,List.getD_eq_getElem?_getD,gQ hj]
 rfl
def wo {f1 f2:Fg} {q1 q2:Nat} (h1:f1 δ ch=some (.ref q1,c1)) (h2:f2 δ c1=some (.ref q2,c2)) (g1:c2[q1]?=some (li vs)) (g2:c2[q2]?=some (li vs)) (hl:vs.length<=1000):iF 3 (y10 6) (ah f1 (ah f2 aD)) δ ch=some (.dat (.bl true),c2):=by
 have key:∀ vs:List Int,dF (vwD c2 2) (vs.map fun v=>.dat (.int v))=some (vs.map .int):=fun vs=>by
  induction vs with
  | nil=>rfl
  | cons v vs ih =>
   rw [List.map_cons,dF,ih]
   rfl
 have e:∀ {q:Nat},c2[q]?=some (li vs)->vwD c2 3 (.ref q)=some (.lst (vs.map .int)):=fun {q} hq=>by
  simp only [vwD,hq,li,key,Option.map_some]
 refine mz (au h1 (au h2 rfl)) (ds:=[.lst (vs.map .int),.lst (vs.map .int)]) ?_ (jk 1 6 _ (Sz.lst (by simpa using hl) fun d hd=>by
  obtain ⟨i,_,rfl⟩:=List.mem_map.mp hd
  exact Sz.int _ _) (by decide))
 simp only [dF,e g1,e g2,Option.bind_some,Option.map_some]
def nT {q:Nat} {l:List CV} (h1:fa δ ch=some (.ref q,c1)) (h2:c1[q]?=some (.lst l)):lb fa δ ch=some (.nx δ (c1.set q (.lst []))):=by
 unfold lb
 rw [h1]
 simp only [Option.bind_some,h2]
def mC (h:Hv ch (cs P S S R)) (ok:Ok cl sh P S k) (hδ:Sl3 (.ref P.s) (.dat (bm cl sh rw)) (.ref P.m) 15 δ) :
  ∃ δ2 ch2,b8 (fIt (toD (d2 bi (vB 1) (kD (.int 1))))) [3,6,5] (da 3 (aJ (aq 3) (aJ (aq 6) (aJ (aq 5) cZ)))) q35 δ ch=some (.nx δ2 ch2)/\Sl3 (.ref P.s) (.dat (bm cl sh rw)) (.ref P.m) 15 δ2/\Hv ch2 (cs P S S R):=by
 have hit:fIt (toD (d2 bi (vB 1) (kD (.int 1)))) (lo δ ch)=some (sh.map hdD):=by
  unfold fIt toD d2
  rw [dw hδ.s1]
  rfl
 unfold b8
 rw [hit,Option.bind_some]
 obtain ⟨δ2,ch2,e,h2,h3⟩:=j3 (i:=3) (j:=6) (k:=5) (g:=q35) (I:=fun δ c=>Sl3 (.ref P.s) (.dat (bm cl sh rw)) (.ref P.m) 15 δ/\Hv c (cs P S S R)) (by decide) (by decide) (by decide) (fun δ c q=>by rw [q.1.len];decide) (ds:=sh.map fun h=>(.str h.1,.int h.2.1,.bl h.2.2)) (δ:=δ) (ch:=ch) (fun d hd δ' c ⟨q,hc⟩=>by
     obtain ⟨hh,hm,rfl⟩:=List.mem_map.mp hd
     obtain ⟨vs,hx,hsz,h8⟩:=ok.ss hh hm
     have q1:=((q.set (x:=.dat (.str hh.1)) (i:=3) (by decide)).set (x:=.dat (.int hh.2.1)) (i:=6) (by decide)).set (x:=.dat (.bl hh.2.2)) (i:=5) (by decide)
     have s3:(((δ'.set 3 (some (.dat (.str hh.1)))).set 6 (some (.dat (.int hh.2.1)))).set 5 (some (.dat (.bl hh.2.2))))[3]?=some (some (.dat (.str hh.1))):=in3 (by rw [q.len];decide) (by decide) (by decide)
     have s6:(((δ'.set 3 (some (.dat (.str hh.1)))).set 6 (some (.dat (.int hh.2.1)))).set 5 (some (.dat (.bl hh.2.2))))[6]?=some (some (.dat (.int vs.length))):=by
      rw [gN (by decide),List.getElem?_set_self (by rw [List.length_set,q.len];decide),hsz]
     generalize ((δ'.set 3 (some (.dat (.str hh.1)))).set 6 (some (.dat (.int hh.2.1)))).set 5 (some (.dat (.bl hh.2.2)))=δa at q1 s3 s6 ⊢
     have e1:eh [none,some 2,some 3] (cP cX (ab (vL 6) am)) [0] (aq 0) bc z34 δa c=some (.ref c.length,c++[li vs]):=by
      unfold eh
      rw [ux s6 (by omega),Option.bind_some,show gC [none,some 2,some 3] δa=[none,some (.ref P.m),some (.dat (.str hh.1))] by
       unfold gC
       simp only [List.map_cons,List.map_nil,Option.bind_none,Option.bind_some,q1.s2,s3,Option.join_some],rF hc hx,Option.bind_some,if_pos (by rw [List.length_map];exact Nat.le_trans h8 (by decide))]
      rfl
     have hc1:=hc.app [li vs]
     have s3':(δa.set 7 (some (.ref c.length)))[3]?=some (some (.dat (.str hh.1))):=by rw [gN (by decide)];exact s3
     have q2:=q1.set (x:=.ref c.length) (i:=7) (by decide)
     have e2:eM "Store" "shelf" q26 (eV 0) (ah (eD (vL 3)) aD) (δa.set 7 (some (.ref c.length))) (c++[li vs])=some (.ref (c++[li vs]).length,c++[li vs]++[li vs]):=by
      rw [em (aN q2.s0) (hc1.at 0 rfl) (by decide +kernel) (au (aF (aK s3')) rfl)]
      exact uf hc1 ok.pl hx
     have q3:=q2.set (x:=.ref (c++[li vs]).length) (i:=8) (by decide)
     have hc2:=hc1.app [li vs]
     have s8:((δa.set 7 (some (.ref c.length))).set 8 (some (.ref (c++[li vs]).length)))[8]?=some (some (.ref (c++[li vs]).length)):=List.getElem?_set_self (by rw [List.length_set,q1.len];decide)
     have s7:((δa.set 7 (some (.ref c.length))).set 8 (some (.ref (c++[li vs]).length)))[7]?=some (some (.ref c.length)):=by rw [gN (by decide),List.getElem?_set_self (by rw [q1.len];decide)]
     refine ⟨_,(c++[li vs]++[li vs]).set (c++[li vs]).length (.lst []),?_,q3,hc2.setOut (hc1.fresh (nL _)) _⟩
     unfold q35
     rw [aC,bG e1,ax,aC,bG e2,ax,aC,eI (by rw [eG (wo (aN s8) (aN s7) aR (dj aR) (by omega))];rfl),ax]
     exact nT (l:=vs.map fun v=>.dat (.int v)) (aN s8) (aR (o:=li vs))) ⟨hδ,h⟩
 rw [List.map_map] at e
 exact ⟨δ2,ch2,e,h2,h3⟩
end
section
variable {ch c1 c2:CH} {P:Pl} {S M:Sta} {R:List (Nat×CO)} {x:Str} {vs:List Int} {v:Int} {k:Nat} {n:Bool} {δ:Sl} {fa fb fo:Fg} {fs:Fgs} {i:Nat} {cl sh:List Hd} {rw:Dt}
def kp (q:List Key):Dt×Dt:=match q with
 | [a,b]=>(nz a,nz b)
 | _=>(.non,.non)
def rG (h:Hv ch (cs P S S R)) (ok:Ok cl sh P S k) (hδ:Sl3 (.ref P.s) (.dat (bm cl sh rw)) (.ref P.m) 15 δ) :
  ∃ δ2 ch2,jN (eIx (eV 2) (eD (kD (.str "home")))) [3,9] (da 2 (aJ (aq 3) (aJ (aq 9) cZ))) z30 δ ch=some (.nx δ2 ch2)/\Sl3 (.ref P.s) (.dat (bm cl sh rw)) (.ref P.m) 15 δ2/\Hv ch2 (cs P S S R):=by
 have hho:ho S=.dT (dTm S.hm):=by unfold ho;rw [ok.w];rfl
 have hm:ch[P.mh]?=some (.dT (dTm S.hm)):=by rw [<- hho];exact h.at 10 rfl
 have hw:Hv (ch.set P.mh (.wt (dTm S.hm))) (cs P S {S with w:=true} R):=h.set 10 rfl _
 unfold jN
 rw [i0 h hδ.s2 jl]
 simp only [Option.bind_some,hm]
 have ek:(dTm S.hm).map (fun q=>cT q.1)=((dTm S.hm).map fun q=>kp q.1).map fun d=>.tup [d.1,d.2]:=by
  rw [List.map_map]
  refine List.map_congr_left fun q hq=>?_
  obtain ⟨m,vs,j,v,rfl,_⟩:=fO ok.nd hq
  rfl
 rw [ek]
 obtain ⟨δ2,ch2,e,h2,h3⟩:=nS (i:=3) (j:=9) (g:=z30) (I:=fun δ c=>Sl3 (.ref P.s) (.dat (bm cl sh rw)) (.ref P.m) 15 δ/\Hv c (cs P S {S with w:=true} R)) (by decide) (fun δ c q=>by rw [q.1.len];decide) (ds:=(dTm S.hm).map fun q=>kp q.1) (δ:=δ) (ch:=ch.set P.mh (.wt (dTm S.hm))) (fun d hd δ' c ⟨q,hc⟩=>by
     obtain ⟨y,hy,rfl⟩:=List.mem_map.mp hd
     obtain ⟨m,vs,j,v,rfl,hx,hv,_⟩:=fO ok.nd hy
     have q1:=(q.set (x:=.dat (.str m)) (i:=3) (by decide)).set (x:=.dat (.int j)) (i:=9) (by decide)
     have s3:((δ'.set 3 (some (.dat (.str m)))).set 9 (some (.dat (.int j))))[3]?=some (some (.dat (.str m))):=by rw [gN (by decide),List.getElem?_set_self (by rw [q.len];decide)]
     have s9:((δ'.set 3 (some (.dat (.str m)))).set 9 (some (.dat (.int j))))[9]?=some (some (.dat (.int j))):=List.getElem?_set_self (by rw [List.length_set,q.len];decide)
     refine ⟨(δ'.set 3 (some (.dat (.str m)))).set 9 (some (.dat (.int j))),c,?_,q1,hc⟩
     show z30 ((δ'.set 3 (some (.dat (.str m)))).set 9 (some (.dat (.int j)))) c=_
     unfold z30
     exact eI (by rw [eG (ip (by rw [em (aN q1.s0) (hc.at 0 rfl) (by decide +kernel) (au (aF (aK s3)) (au (aF (aK s9)) rfl))];exact yB hc ok.pl hx hv) (uw hc q1.s2 hx hv (aF (aK s3)) (aF (aK s9))))];rfl)) ⟨hδ,hw⟩
 rw [e]
 have hwt:ch2[P.mh]?=some (.wt (dTm S.hm)):=h3.at 10 rfl
 refine ⟨δ2,ch2.set P.mh (.dT (dTm S.hm)),?_,h2,?_⟩
 · simp only [Option.bind_some,xb,kf,hwt,Option.map_some]
 · have h4:=h3.set 10 rfl (.dT (dTm S.hm))
   rw [show (cs P S {S with w:=true} R).set 10 (P.mh,.dT (dTm S.hm))=cs P S S R by rw [<- hho];rfl] at h4
   exact h4
end
section
variable {ch c1 c2:CH} {P:Pl} {S M:Sta} {R:List (Nat×CO)} {x:Str} {vs:List Int} {v:Int} {k:Nat} {n:Bool} {δ:Sl} {fa fb fo:Fg} {fs:Fgs} {i:Nat} {cl sh:List Hd} {rw:Dt}
def jm (c:CH) (m:Nat):∀ ds:List Dt,dF (vwD c m) (ds.map .dat)=some ds
 | []=>rfl
 | d::ds=>by
  rw [List.map_cons,dF,jm c m ds]
  cases m<;>rfl
def wp {α β:Type} {f:α->Option β} {l m:List α} {a b:List β} (h1:dF f l=some a) (h2:dF f m=some b):dF f (l++m)=some (a++b):=by
 induction l generalizing a with
 | nil=>cases h1;exact h2
 | cons x l ih =>
  simp only [dF] at h1
  obtain ⟨y,hy,h1⟩:=bS h1
  obtain ⟨ys,hys,rfl⟩:=mS h1
  simp only [List.cons_append,dF,hy,Option.bind_some,ih hys,Option.map_some]
def qD {c:CH} {q a b:Nat} {p:Pg} (h1:c[q]?=some (.tup ((p.h.map Dt.int).map .dat++[.ref a,.ref b]))) (h2:c[a]?=some (bl p.b)) (h3:c[b]?=some (tl p.t)):vwD c 3 (.ref q)=some (pgD p):=by
 have e1:vwD c 2 (.ref a)=some (.lst (p.b.map bd)):=by
  simp only [vwD,h2,rA,jm,Option.map_some]
 have e2:vwD c 2 (.ref b)=some (.lst (p.t.map td)):=by
  simp only [vwD,h3,yC,jm,Option.map_some]
 have e3:dF (vwD c 2) ((p.h.map Dt.int).map .dat++[.ref a,.ref b])=some (p.h.map Dt.int++[.lst (p.b.map bd),.lst (p.t.map td)]):=wp (jm c 2 _) (by simp only [dF,e1,e2,Option.bind_some,Option.map_some])
 simp only [vwD,h1,e3,Option.map_some]
 rfl
def yH (ch:CH) (p:Pg) (g:CH):(ch++pgH ch.length p++g)[ch.length]?=some (bl p.b)/\(ch++pgH ch.length p++g)[ch.length+1]?=some (tl p.t)/\(ch++pgH ch.length p++g)[ch.length+3]?=some (.tup ((p.h.map Dt.int).map .dat++[.ref ch.length,.ref (ch.length+1)])):=by
 have e:∀ j,j<4->(ch++pgH ch.length p++g)[ch.length+j]?=(pgH ch.length p)[j]?:=fun j hj=>by
  rw [List.append_assoc,gR (by omega),Nat.add_sub_cancel_left,gL (by exact hj)]
 exact ⟨e 0 (by decide),e 1 (by decide),e 3 (by decide)⟩
def Pl.mm (P:Pl) (n:Bool):Nat×Nat×Nat×Nat:=if n then (P.m1,P.h1,P.c1,P.u1) else (P.m0,P.h0,P.c0,P.u0)
def qE (h:Hv ch (cs P S M R)) (n:Bool):ixO (.lst [.ref P.m0,.ref P.m1]) (.int (fI n))=some (.ref (P.mm n).1)/\ch[(P.mm n).1]?=some (.lst [.ref (P.mm n).2.1,.ref (P.mm n).2.2.1,.ref (P.mm n).2.2.2])/\ch[(P.mm n).2.1]?=some (li (M.pg n).h)/\ch[(P.mm n).2.2.1]?=some (bl (M.pg n).b)/\ch[(P.mm n).2.2.2]?=some (tl (M.pg n).t):=by
 cases n
 · exact ⟨rfl,h.at 12 rfl,h.at 13 rfl,h.at 14 rfl,h.at 15 rfl⟩
 · exact ⟨rfl,h.at 16 rfl,h.at 17 rfl,h.at 18 rfl,h.at 19 rfl⟩
def Ok.pgh (ok:Ok cl sh P S k) (n:Bool):(S.pg n).h.length=4/\(S.pg n).b.length<=k/\(S.pg n).t.length<=k:=by
 cases n
 · exact ⟨ok.h0,ok.b0,ok.t0⟩
 · exact ⟨ok.h1,ok.b1,ok.t1⟩
def rH (h:Hv ch (cs P S S R)) (ok:Ok cl sh P S k) (hk:k<=500) (hδ:Sl3 (.ref P.s) (.dat (bm cl sh rw)) (.ref P.m) 15 δ) (h10:δ[10]?=some (some (.dat (.int (fI n))))) :
  ∃ δ2 ch2,z27 δ ch=some (.nx δ2 ch2)/\Sl3 (.ref P.s) (.dat (bm cl sh rw)) (.ref P.m) 15 δ2/\Hv ch2 (cs P S S R):=by
 obtain ⟨i1,i2,i3,i4,i5⟩:=qE h n
 obtain ⟨z1,z2,z3⟩:=ok.pgh n
 generalize (P.mm n).1=m,(P.mm n).2.1=mh,(P.mm n).2.2.1=mb,(P.mm n).2.2.2=mt at i1 i2 i3 i4 i5
 generalize hp:S.pg n=p at i3 i4 i5 z1 z2 z3
 have e1:eIx (eIx (eV 2) (eD (kD (.str "pages")))) (eD (vL 10)) δ ch=some (.ref m,ch):=bI (i0 h hδ.s2 j2) (aF (aK h10)) (h.at 11 rfl) i1
 have d1:=((hδ.set (x:=.ref mh) (i:=11) (by decide)).set (x:=.ref mb) (i:=12) (by decide)).set (x:=.ref mt) (i:=13) (by decide)
 have u1:nM (eIx (eIx (eV 2) (eD (kD (.str "pages")))) (eD (vL 10))) (ggT 3 (bw (ggN 11) (bw (ggN 12) (bw (ggN 13) gH)))) δ ch=some (.nx (((δ.set 11 (some (.ref mh))).set 12 (some (.ref mb))).set 13 (some (.ref mt))) ch):=by
  unfold nM
  rw [e1,Option.bind_some]
  dsimp only
  unfold ggT rz
  simp only [i2]
  rfl
 have s10:(((δ.set 11 (some (.ref mh))).set 12 (some (.ref mb))).set 13 (some (.ref mt)))[10]?=some (some (.dat (.int (fI n)))):=by
  rw [gN (by decide),gN (by decide),gN (by decide)]
  exact h10
 have s11:(((δ.set 11 (some (.ref mh))).set 12 (some (.ref mb))).set 13 (some (.ref mt)))[11]?=some (some (.ref mh)):=in3 (by rw [hδ.len];decide) (by decide) (by decide)
 have s12:(((δ.set 11 (some (.ref mh))).set 12 (some (.ref mb))).set 13 (some (.ref mt)))[12]?=some (some (.ref mb)):=by rw [gN (by decide),List.getElem?_set_self (by rw [List.length_set,hδ.len];decide)]
 have s13:(((δ.set 11 (some (.ref mh))).set 12 (some (.ref mb))).set 13 (some (.ref mt)))[13]?=some (some (.ref mt)):=List.getElem?_set_self (by rw [List.length_set,List.length_set,hδ.len];decide)
 generalize ((δ.set 11 (some (.ref mh))).set 12 (some (.ref mb))).set 13 (some (.ref mt))=δa at u1 d1 s10 s11 s12 s13
 have e2:eM "Store" "page" q25 (eV 0) (ah (eD (vL 10)) aD) δa ch=some (.ref (ch.length+3),ch++pgH ch.length p):=by
  rw [em (aN d1.s0) (h.at 0 rfl) (by decide +kernel) (au (aF (aK s10)) rfl)]
  have:=wj (n:=n) h (by rw [hp];exact z1)
  rw [hp] at this
  exact this
 have d2:=d1.set (x:=.ref (ch.length+3)) (i:=14) (by decide)
 have g:∀ {j:Nat},j≠14->(δa.set 14 (some (.ref (ch.length+3))))[j]?=δa[j]?:=fun hj=>gN (Ne.symm hj)
 have s14:(δa.set 14 (some (.ref (ch.length+3))))[14]?=some (some (.ref (ch.length+3))):=List.getElem?_set_self (by rw [d1.len];decide)
 have t11:=(g (j:=11) (by decide)).trans s11
 have t12:=(g (j:=12) (by decide)).trans s12
 have t13:=(g (j:=13) (by decide)).trans s13
 generalize hδb:δa.set 14 (some (CV.ref (ch.length+3)))=δb at d2 s14 t11 t12 t13
 obtain ⟨p1,p2,p3⟩:=yH ch p []
 rw [List.append_nil] at p1 p2 p3
 have hC:=h.app (pgH ch.length p)
 have hlen:(ch++pgH ch.length p).length=ch.length+4:=by simp [pgH]
 generalize hc1:ch++pgH ch.length p=c1 at p1 p2 p3 hC hlen e2
 have i3':c1[mh]?=some (li p.h):=by rw [<- hc1];exact dj i3
 have i4':c1[mb]?=some (bl p.b):=by rw [<- hc1];exact dj i4
 have i5':c1[mt]?=some (tl p.t):=by rw [<- hc1];exact dj i5
 have e3:eTa (eB cx (ah (eV 11) aD)) (eT (ah (eV 12) (ah (eV 13) aD))) δb c1=some (.ref (c1++[CO.tup [.ref mb,.ref mt]]).length,c1++[CO.tup [.ref mb,.ref mt]]++[CO.tup ((p.h.map Dt.int).map .dat++[.ref mb,.ref mt])]):=by
  refine uh (c1:=c1) (a:=.dat (.tup (p.h.map Dt.int))) (b:=.ref c1.length) (xs:=(p.h.map Dt.int).map .dat) (ys:=[.ref mb,.ref mt]) ?_ (qx (au (aN t12) (au (aN t13) rfl)) (by simp)) rfl ?_ (by cases he:p.h with
   | nil=>rw [he] at z1;cases z1
   | cons a l=>rfl) rfl (by simp [z1])
  · rw [xh (au (aN t11) rfl) (ds:=[.lst (p.h.map .int)]) (by simp only [vws,zy i3',Option.bind_some,Option.map_some]) (t:=.leaf (.tup (p.h.map .int))) rfl]
    rfl
  · show (match (c1++[CO.tup [.ref mb,.ref mt]])[c1.length]? with
     | some (.tup l)=>some l
     | _=>none)=_
    rw [aR]
 have hD:=(hC.app [.tup [.ref mb,.ref mt]]).app [.tup ((p.h.map Dt.int).map .dat++[.ref mb,.ref mt])]
 have G:∀ {j:Nat} {o:CO},c1[j]?=some o->(c1++[CO.tup [.ref mb,.ref mt]]++[CO.tup ((p.h.map Dt.int).map .dat++[.ref mb,.ref mt])])[j]?=some o:=fun hj=>dj (dj hj)
 have q1:=G p1
 have q2:=G p2
 have q3:=G p3
 have q4:=G i4'
 have q5:=G i5'
 have q6:(c1++[CO.tup [.ref mb,.ref mt]]++[CO.tup ((p.h.map Dt.int).map .dat++[.ref mb,.ref mt])])[(c1++[CO.tup [.ref mb,.ref mt]]).length]?=some (.tup ((p.h.map Dt.int).map .dat++[.ref mb,.ref mt])):=aR
 generalize (c1++[CO.tup [.ref mb,.ref mt]]).length=q at e3 q6
 generalize c1++[CO.tup [.ref mb,.ref mt]]++[CO.tup ((p.h.map Dt.int).map .dat++[.ref mb,.ref mt])]=c2 at e3 hD q1 q2 q3 q4 q5 q6
 have e4:iF 3 (y10 6) (ah (eV 14) (ah (eTa (eB cx (ah (eV 11) aD)) (eT (ah (eV 12) (ah (eV 13) aD)))) aD)) δb c1=some (.dat (.bl true),c2):=
  mz (au (aN s14) (au e3 rfl)) (ds:=[pgD p,pgD p]) (by simp only [dF,qD q3 q1 q2,qD q6 q4 q5,Option.bind_some,Option.map_some]) (jk 4 6 _ (wm z1 (by omega) (by omega)) (by decide))
 have n1:ch.length∉(cs P S S R).map (·.1):=h.fresh (nL _)
 have n2:ch.length+1∉(cs P S S R).map (·.1):=h.fresh (Nat.le_succ _)
 have hx4:((p.h.map Dt.int).map CV.dat++[.ref ch.length,.ref (ch.length+1)])[4]?=some (.ref ch.length):=by
  rw [List.getElem?_append_right (by simp [z1])]
  simp [z1]
 have hx5:((p.h.map Dt.int).map CV.dat++[.ref ch.length,.ref (ch.length+1)])[5]?=some (.ref (ch.length+1)):=by
  rw [List.getElem?_append_right (by simp [z1])]
  simp [z1]
 have e5:dS (eIx (eV 14) (eD (kD (.int 4)))) (eD (toD (bL (ab (kD (.str "zz")) (ab (kD (.int 1)) am))))) δb c2=some (.nx δb (c2.set ch.length (.lst ((p.b.map fun z=>.dat (bd z))++[.dat (.tup [.str "zz",.int 1])])))):=
  gm (bI (aN s14) (aF rfl) q3 (show ixO (.tup _) (.int 4)=_ from dy (k:=4) hx4)) (aF rfl) q1 (by simp;omega)
 have hE:=hD.setOut n1 (.lst ((p.b.map fun z=>.dat (bd z))++[.dat (.tup [.str "zz",.int 1])]))
 have q3':(c2.set ch.length (.lst ((p.b.map fun z=>.dat (bd z))++[.dat (.tup [.str "zz",.int 1])])))[ch.length+3]?=some (.tup ((p.h.map Dt.int).map .dat++[.ref ch.length,.ref (ch.length+1)])):=by rw [gN (by omega)];exact q3
 have q2':(c2.set ch.length (.lst ((p.b.map fun z=>.dat (bd z))++[.dat (.tup [.str "zz",.int 1])])))[ch.length+1]?=some (tl p.t):=by rw [gN (by omega)];exact q2
 generalize c2.set ch.length (.lst ((p.b.map fun z=>.dat (bd z))++[.dat (.tup [.str "zz",.int 1])]))=c3 at e5 hE q3' q2'
 refine ⟨δb,c3.set (ch.length+1) (.lst []),?_,d2,hE.setOut n2 _⟩
 unfold z27
 rw [aC,u1,ax,aC,bG e2,ax,hδb,aC,eI (by rw [eG e4];rfl),ax,aC,e5,ax]
 exact nT (l:=p.t.map fun z=>.dat (td z)) (bI (aN s14) (aF rfl) q3' (show ixO (.tup _) (.int 5)=_ from dy (k:=5) hx5)) q2'
end
section
variable {ch c1 c2:CH} {P:Pl} {S M:Sta} {R:List (Nat×CO)} {x:Str} {vs:List Int} {v:Int} {k:Nat} {n:Bool} {δ:Sl} {fa fb fo:Fg} {fs:Fgs} {i:Nat} {cl sh:List Hd} {rw:Dt}
def o9 (h:Hv ch (cs P S S R)) (ok:Ok cl sh P S k) (hk:k<=500) (hδ:Sl3 (.ref P.s) (.dat (bm cl sh rw)) (.ref P.m) 15 δ) :
  ∃ δ2 ch2,b8 (cP cX (ab (kD (.int 2)) am)) [10] (aq 10) z27 δ ch=some (.nx δ2 ch2)/\Sl3 (.ref P.s) (.dat (bm cl sh rw)) (.ref P.m) 15 δ2/\Hv ch2 (cs P S S R):=by
 obtain ⟨δ2,ch2,e,h2⟩:=iS (i:=10) (g:=z27) (I:=fun δ c=>Sl3 (.ref P.s) (.dat (bm cl sh rw)) (.ref P.m) 15 δ/\Hv c (cs P S S R)) (fun δ c q=>by rw [q.1.len];decide) (ds:=[.int (fI false),.int (fI true)]) (δ:=δ) (ch:=ch) (fun d hd δ' c ⟨q,hc⟩=>by
  have key:∀ b:Bool,∃ δ2 ch2,z27 (δ'.set 10 (some (.dat (.int (fI b))))) c=some (.nx δ2 ch2)/\Sl3 (.ref P.s) (.dat (bm cl sh rw)) (.ref P.m) 15 δ2/\Hv ch2 (cs P S S R):=fun b=>rH (n:=b) hc ok hk (q.set (by decide)) (List.getElem?_set_self (by rw [q.len];decide))
  rcases List.mem_cons.mp hd with rfl | hd
  · exact key false
  · rw [List.mem_singleton.mp hd]
    exact key true) ⟨hδ,h⟩
 exact ⟨δ2,ch2,e,h2⟩
def g7 {c:CV} {d:Dt} {b:Bool} (h1:fa δ ch=some (.dat d,c1)) (hd:gIs false d .non=some (.leaf (.bl b))):e2 (gIs false) fa (eD (kD .non)) δ ch=some (.dat (.bl b),c1):=by
 rw [qu h1 (aF (d:=.non) rfl) rfl rfl hd]
 rfl
def mD (h:Hv ch (cs P S S R)) (ok:Ok cl sh P S k) (hk:k<=500):∃ ch',q16 [.ref P.s,.dat (bm cl sh rw),.ref P.m] ch=some (.dat (.bl true),ch')/\Hv ch' (cs P S S R):=by
 unfold q16
 rw [bV]
 walk_at "m"
 have hδ0:Sl3 (.ref P.s) (.dat (bm cl sh rw)) (.ref P.m) 15 [some (.ref P.s),some (.dat (bm cl sh rw)),some (.ref P.m),none,none,none,none,none,none,none,none,none,none,none,none]:=⟨rfl,rfl,rfl,rfl⟩
 obtain ⟨δ1,e1,d1⟩:=o8 h ok hδ0
 obtain ⟨δ2,c2,e2',d2,h2⟩:=mC h ok d1
 obtain ⟨δ3,c3,e3,d3,h3⟩:=rG h2 ok d2
 obtain ⟨δ4,c4,e4,d4,h4⟩:=o9 h3 ok hk d3
 refine ⟨c4,?_,h4⟩
 have f1:eM "Store" "face" q28 (eV 0) aD δ4 c4=some (.dat (.int (fI S.f)),c4):=by
  rw [em (aN d4.s0) (h4.at 0 rfl) (by decide +kernel) rfl]
  exact wc h4
 have f2:eM "Store" "answer" y19 (eV 0) aD δ4 c4=some (.dat (oD S.r),c4):=by
  rw [em (aN d4.s0) (h4.at 0 rfl) (by decide +kernel) rfl]
  exact rB h4
 have f3:eIx (eIx (eV 2) (eD (kD (.str "face")))) (eD (kD (.int 0))) δ4 c4=some (.dat (.int (fI S.f)),c4):=bI (i0 h4 d4.s2 mB) (aF rfl) (h4.at 20 rfl) (qw (k:=0) rfl)
 have f4:eIx (eIx (eV 2) (eD (kD (.str "answer")))) (eD (kD (.int 0))) δ4 c4=some (.dat (oD S.r),c4):=bI (i0 h4 d4.s2 lq) (aF rfl) (h4.at 21 rfl) rfl
 rw [aC,e1,ax,aC,e2',ax,aC,e3,ax,aC,e4,ax,aC,eI (by rw [eG (ip f1 f3)];rfl),ax]
 cases hr:S.r with
 | none =>
  rw [hr] at f2 f4
  rw [aC,gZ,oY (g7 (b:=true) (c:=.dat .non) f4 rfl),vY,bA (g7 (b:=true) (c:=.dat .non) f2 rfl)]
  rfl
 | some u =>
  rw [hr] at f2 f4
  rw [aC,eI (oY (g7 (b:=false) (c:=.dat .non) f4 rfl)),ax,bA (ip (v:=u) f2 f4)]
  rfl
end
def num (c:Int):Int:=c*94906267%1099511627776
def bR (hm:Hm):List Dt:=(dTm hm).map fun q=>cT q.1
def sl (P:Pl) (c:Int) (x3 x4 x5 x6 x7 x8 x9 x10:Option CV):Sl:=[some (.ref P.s),some (.ref P.m),some (.dat (.int c)),x3,x4,x5,x6,x7,x8,x9,x10]
section
variable {ch c1 c2:CH} {P:Pl} {S M:Sta} {R:List (Nat×CO)} {x:Str} {vs:List Int} {v:Int} {k:Nat} {n:Bool} {δ:Sl} {fa fb fo:Fg} {fs:Fgs} {i q:Nat} {cl sh:List Hd} {rw:Dt} {c:Int} {x3 x4 x5 x6 x7 x8 x9 x10:Option CV}
def yI:eD (toD (d2 cQ (toD (d2 cp (vB 2) (kD (.int 94906267)))) (toD (d2 j8 (kD (.int 2)) (kD (.int 40)))))) (sl P c x3 x4 x5 x6 x7 x8 x9 x10) ch=some (.dat (.int (num c)),ch):=by
 refine aF ?_
 have e1:toD (d2 cp (vB 2) (kD (.int 94906267))) (lo (sl P c x3 x4 x5 x6 x7 x8 x9 x10) ch)=some (.int (c*94906267)):=by
  unfold toD d2
  rw [dw (d:=.int c) rfl]
  show Option.map T.d (cp (.int c) (.int 94906267))=_
  rw [oR (by decide) (by decide)]
  rfl
 have e2:toD (d2 j8 (kD (.int 2)) (kD (.int 40))) (lo (sl P c x3 x4 x5 x6 x7 x8 x9 x10) ch)=some (.int 1099511627776):=rfl
 show Option.map T.d ((toD (d2 cp (vB 2) (kD (.int 94906267))) (lo (sl P c x3 x4 x5 x6 x7 x8 x9 x10) ch)).bind fun x=>(toD (d2 j8 (kD (.int 2)) (kD (.int 40))) (lo (sl P c x3 x4 x5 x6 x7 x8 x9 x10) ch)).bind fun y=>cQ x y)=_
 rw [e1,e2]
 show Option.map T.d (cQ (.int (c*94906267)) (.int 1099511627776))=_
 rw [gb (by decide)]
 rfl
def wq (j:Nat) {m:Int} (hm:0<m):eD (toD (aA z4 (ab (vL 2) (ab (kD (.int j)) (ab (kD (.int m)) am))))) (sl P c x3 x4 x5 x6 x7 x8 x9 x10) ch=some (.dat (.int (bH c j m)),ch):=by
 refine aF ?_
 have e:ab (vL 2) (ab (kD (.int j)) (ab (kD (.int m)) am)) (lo (sl P c x3 x4 x5 x6 x7 x8 x9 x10) ch)=some [.int c,.int j,.int m]:=by
  unfold ab am
  rw [aK (d:=.int c) rfl]
  rfl
 unfold toD aA
 rw [e,Option.bind_some,(bY c j hm).1]
 rfl
def wr (h:Hv ch (cs P S M R)) (hw:M.w=false) (h2:δ[1]?=some (some (.ref P.m))):eLT (eIx (eV 1) (eD (kD (.str "home")))) δ ch=some (.ref ch.length,ch++[.lst ((bR M.hm).map .dat)]):=by
 have hm:ch[P.mh]?=some (.dT (dTm M.hm)):=by
  have:=h.at 10 rfl
  unfold ho at this
  rw [hw] at this
  exact this
 unfold eLT
 rw [i0 h h2 jl]
 simp only [Option.bind_some,hm]
 unfold bR
 rw [List.map_map]
 rfl
def nU {ds:List Dt} (hs:q≠P.s) (hm:q≠P.m) (hq:ch[q]?=some (.lst (ds.map .dat))) {y3 y4:Dt}:vB 5 (lo (sl P c (some (.dat y3)) (some (.dat y4)) (some (.ref q)) x6 x7 x8 x9 x10) ch)=some (.lst ds):=by
 have e:(lo (sl P c (some (.dat y3)) (some (.dat y4)) (some (.ref q)) x6 x7 x8 x9 x10) ch)[5]?=some (some (.lst ds)):=by
  unfold lo sl
  simp only [loA,List.getElem?_cons_succ,List.getElem?_cons_zero]
  rw [if_neg (by simp [hs,hm]),hq]
  simp only [Option.bind_some,tvO,io,Option.map_some]
 unfold vB
 rw [e]
 rfl
def lu:∀ (l:List (Str×Int)),deeps (l.map fun p=>.tup [.str p.1,.int p.2])<=1
 | []=>by simp [deeps]
 | p::l=>by
  have:=lu l
  rw [List.map_cons,deeps]
  have e:hU (.tup [.str p.1,.int p.2])=1:=rfl
  rw [e]
  omega
def uy {hm:Hm} (nd:(hm.map (·.1)).Nodup):∃ l:List (Str×Int),bR hm=l.map fun p=>.tup [.str p.1,.int p.2]:=by
 refine ⟨(dTm hm).map fun q=>match q.1 with | [.inr n,.inl k]=>(n,k) | _=>("",0),?_⟩
 unfold bR
 rw [List.map_map]
 refine List.map_congr_left fun q hq=>?_
 obtain ⟨m,vs,j,v,rfl,_⟩:=fO nd hq
 rfl
def yJ {hm:Hm} (nd:(hm.map (·.1)).Nodup):gEq true (.lst (bR hm)) (.lst [])=some (.leaf (.bl (!(bR hm).isEmpty))):=by
 obtain ⟨l,e⟩:=uy nd
 rw [e]
 cases l with
 | nil=>rfl
 | cons p l =>
  have hd:=lu (p::l)
  rw [yi (zn (by
   rw [show cmpbs ((p::l).map fun p=>Dt.tup [.str p.1,.int p.2]) []=true from rfl,Bool.true_and]
   exact decide_eq_true (by omega)))]
  rfl
end
def uz {x y:Str} {vs ws:List Int}:∀ {hm:Hm},lkS hm x=some vs->lkS (ptS hm x ws) y=if y=x then some ws else lkS hm y
 | [],h=>by cases h
 | s::hm,h=>by
  rw [lkS] at h
  rw [ptS]
  by_cases e:s.1=x
  · rw [if_pos e,lkS,lkS]
    by_cases ey:y=x
    · rw [if_pos ey,if_pos (e.trans ey.symm)]
    · rw [if_neg ey,if_neg (fun z=>ey (z.symm.trans e)),if_neg (fun z=>ey (z.symm.trans e))]
  · rw [if_neg e] at h
    rw [if_neg e,lkS,lkS,uz h]
    by_cases es:s.1=y
    · rw [if_pos es,if_pos es,if_neg (fun z=>e (es.trans z))]
    · rw [if_neg es,if_neg es]
section
variable {ch c1 c2 c3:CH} {P:Pl} {S M:Sta} {R:List (Nat×CO)} {x:Str} {vs:List Int} {v:Int} {k j:Nat} {n:Bool} {δ:Sl} {fa fb fo fe:Fg} {fs:Fgs} {i q:Nat} {cl sh:List Hd} {rw:Dt} {c:Int} {x3 x4 x5 x6 x7 x8 x9 x10:Option CV}
def Ok.put (ok:Ok cl sh P S k) (hx:lkS S.hm x=some vs) (hj:j<vs.length) (v:Int):Ok cl sh P {S with hm:=ptS S.hm x (vs.set j v)} k:=by
 have sp:=nR (ws:=vs.set j v) hx (by simp)
 have nm:(ptS S.hm x (vs.set j v)).map (·.1)=S.hm.map (·.1):=by
  have:=congrArg (List.map Prod.fst) sp
  simpa [List.map_map,Function.comp_def] using this
 have kl:=congrArg List.length (ur sp)
 simp only [List.length_map] at kl
 have le:=congrArg List.length sp
 simp only [List.length_map] at le
 refine ⟨by rw [ok.pl];exact le.symm,by show ((ptS S.hm x (vs.set j v)).map (·.1)).Nodup;rw [nm];exact ok.nd,by show (dTm (ptS S.hm x (vs.set j v))).length<900;rw [kl];exact ok.tot,fun h hh=>?_,fun h hh=>?_,ok.h0,ok.h1,ok.b0,ok.b1,ok.t0,ok.t1,ok.w⟩
 · obtain ⟨us,u,h1,h2⟩:=ok.sc h hh
   show ∃ vs' v',lkS (ptS S.hm x (vs.set j v)) h.1=some vs'/\_
   rw [uz hx]
   by_cases e:h.1=x
   · rw [if_pos e]
     have h0:0<(vs.set j v).length:=by simp;omega
     exact ⟨_,(vs.set j v)[0],rfl,by simp [h0]⟩
   · rw [if_neg e]
     exact ⟨us,u,h1,h2⟩
 · obtain ⟨us,h1,h2,h3⟩:=ok.ss h hh
   show ∃ vs',lkS (ptS S.hm x (vs.set j v)) h.1=some vs'/\_
   rw [uz hx]
   by_cases e:h.1=x
   · rw [if_pos e]
     rw [e,hx] at h1
     cases h1
     exact ⟨_,rfl,by simpa using h2,by simpa using h3⟩
   · rw [if_neg e]
     exact ⟨us,h1,h2,h3⟩
def Ok.more (ok:Ok cl sh P S k):Ok cl sh P S (k+1):=⟨ok.pl,ok.nd,ok.tot,ok.sc,ok.ss,ok.h0,ok.h1,Nat.le_succ_of_le ok.b0,Nat.le_succ_of_le ok.b1,Nat.le_succ_of_le ok.t0,Nat.le_succ_of_le ok.t1,ok.w⟩
def Ok.pages {P':Pl} (ok:Ok cl sh P S k) (hp:P'.ps=P.ps) (n:Bool) {p:Pg} (h:p.h.length=4) (hb:p.b.length<=k) (ht:p.t.length<=k):Ok cl sh P' (S.setP n p) k:=by
 cases n
 · exact ⟨by rw [hp];exact ok.pl,ok.nd,ok.tot,ok.sc,ok.ss,h,ok.h1,hb,ok.b1,ht,ok.t1,ok.w⟩
 · exact ⟨by rw [hp];exact ok.pl,ok.nd,ok.tot,ok.sc,ok.ss,ok.h0,h,ok.b0,hb,ok.t0,ht,ok.w⟩
def Res (cl sh:List Hd) (P:Pl) (R:List (Nat×CO)) (k:Nat) (o:Option Og):Prop:=∃ ch' P' S',o=some (.rt (.dat .non) ch')/\Hv ch' (cs P' S' S' R)/\P'.s=P.s/\P'.m=P.m/\Ok cl sh P' S' k
def rJ {xs:List CV} {l:List (List Key×CV)} {ks:List Key} {w:CV} (h1:fe δ ch=some (w,c1)) (h2:fo δ c1=some (.ref i,c2)) (h3:fs δ c2=some (xs,c3)) (h4:c3[i]?=some (.dT l)) (h5:jP xs=some ks) (h6:xs.length<=1000) (h7:l.length<1000) (h8:(l.map (·.1)).Nodup):eX fo fs fe δ ch=some (.nx δ (c3.set i (.dT (dY l ks w)))):=by
 unfold eX
 rw [h1,Option.bind_some]
 dsimp only
 rw [h2,Option.bind_some]
 dsimp only
 rw [h3,Option.bind_some]
 have hz:1000<=sizeLine:=by decide
 simp only [h4,h5,Option.map_some,if_pos (show xs.length<=sizeLine/\l.length<sizeLine/\(l.map (·.1)).Nodup from ⟨by omega,by omega,h8⟩)]
def uA (h:Hv ch (cs P S S R)) (ok:Ok cl sh P S k) (hx:lkS S.hm x=some vs) (hj:j<vs.length) :
  Res cl sh P R k (aI (eX (eIx (eV 1) (eD (kD (.str "home")))) (ah (eD (vL 7)) (ah (eD (vL 8)) aD)) (eD (vL 3))) (br (eM "Store" "put" y29 (eV 0) (ah (eD (vL 7)) (ah (eD (vL 8)) (ah (eD (vL 3)) aD))))) (sl P c (some (.dat (.int v))) x4 x5 x6 (some (.dat (.str x))) (some (.dat (.int j))) x9 x10) ch):=by
 have hho:ho S=.dT (dTm S.hm):=by unfold ho;rw [ok.w];rfl
 have hm:ch[P.mh]?=some (.dT (dTm S.hm)):=by rw [<- hho];exact h.at 10 rfl
 have e1:=rJ (fe:=eD (vL 3)) (fs:=ah (eD (vL 7)) (ah (eD (vL 8)) aD)) (δ:=sl P c (some (.dat (.int v))) x4 x5 x6 (some (.dat (.str x))) (some (.dat (.int j))) x9 x10) (ch:=ch) (aF (aK (d:=.int v) rfl)) (i0 (i:=1) h rfl jl) (au (aF (aK (i:=7) (d:=.str x) rfl)) (au (aF (aK (i:=8) (d:=.int j) rfl)) rfl)) hm (ks:=[.inr x,.inl (j:Int)]) rfl (by simp) (Nat.lt_of_lt_of_le ok.tot (by decide)) (my ok.nd)
 rw [qB hx hj] at e1
 have h1:Hv (ch.set P.mh (.dT (dTm (ptS S.hm x (vs.set j v))))) (cs P S {S with hm:=ptS S.hm x (vs.set j v)} R):=by
  have:=h.set 10 rfl (.dT (dTm (ptS S.hm x (vs.set j v))))
  rw [show (cs P S S R).set 10 (P.mh,.dT (dTm (ptS S.hm x (vs.set j v))))=cs P S {S with hm:=ptS S.hm x (vs.set j v)} R by
   have:ho {S with hm:=ptS S.hm x (vs.set j v)}=.dT (dTm (ptS S.hm x (vs.set j v))):=by
    show (if S.w=true then _ else _)=_
    rw [ok.w];rfl
   unfold cs
   rw [this]
   rfl] at this
  exact this
 obtain ⟨ch',e2,h2⟩:=yE (v:=v) h1 ok.pl hx hj
 refine ⟨ch',P,_,?_,h2,rfl,rfl,ok.put hx hj v⟩
 rw [aC,e1,ax,bA (v:=.dat .non) (ch1:=ch')]
 rw [em (i:=P.s) (aN rfl) (h1.at 0 rfl) (by decide +kernel) (au (aF (aK (i:=7) (d:=.str x) rfl)) (au (aF (aK (i:=8) (d:=.int j) rfl)) (au (aF (aK (i:=3) (d:=.int v) rfl)) rfl)))]
 exact e2
end
section
variable {ch c1 c2 c3:CH} {P:Pl} {S M:Sta} {R:List (Nat×CO)} {x:Str} {vs:List Int} {v:Int} {k j:Nat} {n:Bool} {δ:Sl} {fa fb fo fe:Fg} {fs:Fgs} {i q:Nat} {cl sh:List Hd} {rw:Dt} {c:Int} {x3 x4 x5 x6 x7 x8 x9 x10:Option CV}
def mm_t (h:Hv ch (cs P S M R)) (n:Bool) (t:List ((Str×Int)×Int)):Hv (ch.set (P.mm n).2.2.2 (tl t)) (cs P S (M.setP n {M.pg n with t:=t}) R):=by
 cases n
 · exact h.set 15 rfl _
 · exact h.set 19 rfl _
def mm_b (h:Hv ch (cs P S M R)) (n:Bool) (b:List (Str×Int)):Hv (ch.set (P.mm n).2.2.1 (bl b)) (cs P S (M.setP n {M.pg n with b:=b}) R):=by
 cases n
 · exact h.set 14 rfl _
 · exact h.set 18 rfl _
def xk (h:Hv ch (cs P S M R)) (n:Bool) (h1:δ[1]?=some (some (.ref P.m))) (h4:δ[4]?=some (some (.dat (.int (fI n))))):eIx (eIx (eV 1) (eD (kD (.str "pages")))) (eD (vL 4)) δ ch=some (.ref (P.mm n).1,ch):=bI (i0 h h1 j2) (aF (aK h4)) (h.at 11 rfl) (qE h n).1
def rK (h:Hv ch (cs P S S R)) (ok:Ok cl sh P S k) (hk:k<500) :
  Res cl sh P R (k+1) (aI (dS (eIx (eIx (eIx (eV 1) (eD (kD (.str "pages")))) (eD (vL 4))) (eD (kD (.int 2)))) (eD (toD (bL (ab (toD (bL (ab (vL 7) (ab (vL 8) am)))) (ab (vL 3) am)))))) (br (eM "Store" "keep_turn" z15 (eV 0) (ah (eD (vL 7)) (ah (eD (vL 8)) (ah (eD (vL 3)) aD))))) (sl P c (some (.dat (.int v))) (some (.dat (.int (fI (!S.f))))) x5 x6 (some (.dat (.str x))) (some (.dat (.int j))) x9 x10) ch):=by
 obtain ⟨i1,i2,i3,i4,i5⟩:=qE h (!S.f)
 obtain ⟨z1,z2,z3⟩:=ok.pgh (!S.f)
 have h1:=mm_t h (!S.f) ((S.pg (!S.f)).t++[((x,(j:Int)),v)])
 obtain ⟨ch',e2,h2⟩:=ui (x:=x) (k:=j) (v:=v) h1 (by omega)
 refine ⟨ch',P,_,?_,h2,rfl,rfl,ok.more.pages rfl _ z1 (by simpa using Nat.le_succ_of_le z2) (by simpa using z3)⟩
 have et:toD (bL (ab (toD (bL (ab (vL 7) (ab (vL 8) am)))) (ab (vL 3) am))) (lo (sl P c (some (.dat (.int v))) (some (.dat (.int (fI (!S.f))))) x5 x6 (some (.dat (.str x))) (some (.dat (.int j))) x9 x10) ch)=some (td ((x,(j:Int)),v)):=by
  have e7:=aK (ch:=ch) (δ:=sl P c (some (.dat (.int v))) (some (.dat (.int (fI (!S.f))))) x5 x6 (some (.dat (.str x))) (some (.dat (.int j))) x9 x10) (i:=7) (d:=.str x) rfl
  have e8:=aK (ch:=ch) (δ:=sl P c (some (.dat (.int v))) (some (.dat (.int (fI (!S.f))))) x5 x6 (some (.dat (.str x))) (some (.dat (.int j))) x9 x10) (i:=8) (d:=.int j) rfl
  have e3:=aK (ch:=ch) (δ:=sl P c (some (.dat (.int v))) (some (.dat (.int (fI (!S.f))))) x5 x6 (some (.dat (.str x))) (some (.dat (.int j))) x9 x10) (i:=3) (d:=.int v) rfl
  simp only [toD,bL,ab,am,e7,e8,e3,Option.bind_some]
  rfl
 rw [aC,gm (l:=(S.pg (!S.f)).t.map fun z=>.dat (td z)) (bI (xk h (!S.f) rfl rfl) (aF rfl) i2 rfl) (aF et) i5 (by simp;omega),ax,bA (v:=.dat .non) (ch1:=ch')]
 rw [show CO.lst ((S.pg (!S.f)).t.map (fun z=>CV.dat (td z))++[.dat (td ((x,(j:Int)),v))])=tl ((S.pg (!S.f)).t++[((x,(j:Int)),v)]) by unfold tl;rw [List.map_append];rfl]
 rw [em (i:=P.s) (aN rfl) (h1.at 0 rfl) (by decide +kernel) (au (aF (aK (i:=7) (d:=.str x) rfl)) (au (aF (aK (i:=8) (d:=.int j) rfl)) (au (aF (aK (i:=3) (d:=.int v) rfl)) rfl)))]
 exact e2
def uB (h:Hv ch (cs P S S R)) (ok:Ok cl sh P S k) (hk:k<500) :
  Res cl sh P R (k+1) (aI (dS (eIx (eIx (eIx (eV 1) (eD (kD (.str "pages")))) (eD (vL 4))) (eD (kD (.int 1)))) (eD (toD (bL (ab (vL 9) (ab (vL 3) am)))))) (br (eM "Store" "keep_box" z17 (eV 0) (ah (eD (vL 9)) (ah (eD (vL 3)) aD)))) (sl P c (some (.dat (.int v))) (some (.dat (.int (fI (!S.f))))) x5 x6 x7 x8 (some (.dat (.str x))) x10) ch):=by
 obtain ⟨i1,i2,i3,i4,i5⟩:=qE h (!S.f)
 obtain ⟨z1,z2,z3⟩:=ok.pgh (!S.f)
 have h1:=mm_b h (!S.f) ((S.pg (!S.f)).b++[(x,v)])
 obtain ⟨ch',e2,h2⟩:=yF (x:=x) (v:=v) h1 (by omega)
 refine ⟨ch',P,_,?_,h2,rfl,rfl,ok.more.pages rfl _ z1 (by simpa using z2) (by simpa using Nat.le_succ_of_le z3)⟩
 have et:toD (bL (ab (vL 9) (ab (vL 3) am))) (lo (sl P c (some (.dat (.int v))) (some (.dat (.int (fI (!S.f))))) x5 x6 x7 x8 (some (.dat (.str x))) x10) ch)=some (bd (x,v)):=by
  have e9:=aK (ch:=ch) (δ:=sl P c (some (.dat (.int v))) (some (.dat (.int (fI (!S.f))))) x5 x6 x7 x8 (some (.dat (.str x))) x10) (i:=9) (d:=.str x) rfl
  have e3:=aK (ch:=ch) (δ:=sl P c (some (.dat (.int v))) (some (.dat (.int (fI (!S.f))))) x5 x6 x7 x8 (some (.dat (.str x))) x10) (i:=3) (d:=.int v) rfl
  simp only [toD,bL,ab,am,e9,e3,Option.bind_some]
  rfl
 rw [aC,gm (l:=(S.pg (!S.f)).b.map fun z=>.dat (bd z)) (bI (xk h (!S.f) rfl rfl) (aF rfl) i2 rfl) (aF et) i4 (by simp;omega),ax,bA (v:=.dat .non) (ch1:=ch')]
 rw [show CO.lst ((S.pg (!S.f)).b.map (fun z=>CV.dat (bd z))++[.dat (bd (x,v))])=bl ((S.pg (!S.f)).b++[(x,v)]) by unfold bl;rw [List.map_append];rfl]
 rw [em (i:=P.s) (aN rfl) (h1.at 0 rfl) (by decide +kernel) (au (aF (aK (i:=9) (d:=.str x) rfl)) (au (aF (aK (i:=3) (d:=.int v) rfl)) rfl))]
 exact e2
def rL (h:Hv ch (cs P S S R)) (ok:Ok cl sh P S k) :
  Res cl sh P R k (aI (d8 (eIx (eV 1) (eD (kD (.str "face")))) (eD (kD (.int 0))) (eD (vL 4))) (br (eM "Store" "turn" y27 (eV 0) aD)) (sl P c x3 (some (.dat (.int (fI (!S.f))))) x5 x6 x7 x8 x9 x10) ch):=by
 have h1:Hv (ch.set P.mf (li [fI (!S.f)])) (cs P S {S with f:=!S.f} R):=h.set 20 rfl _
 obtain ⟨ch',e2,h2⟩:=wf h1
 refine ⟨ch',P,_,?_,h2,rfl,rfl,⟨ok.pl,ok.nd,ok.tot,ok.sc,ok.ss,ok.h0,ok.h1,ok.b0,ok.b1,ok.t0,ok.t1,ok.w⟩⟩
 rw [aC,cr (aF (aK (i:=4) (d:=.int (fI (!S.f))) rfl)) (i0 (i:=1) h rfl mB) (aF (d:=.int 0) rfl) (h.at 20 rfl) (ug (k:=0) (v:=fI (!S.f)) (by simp)),ax,bA (v:=.dat .non) (ch1:=ch')]
 rw [show ([fI S.f].set 0 (fI (!S.f)))=[fI (!S.f)] from rfl,em (i:=P.s) (aN rfl) (h1.at 0 rfl) (by decide +kernel) rfl]
 exact e2
def rM (h:Hv ch (cs P S S R)) (ok:Ok cl sh P S k) :
  Res cl sh P R k (aI (d8 (eIx (eV 1) (eD (kD (.str "answer")))) (eD (kD (.int 0))) (eD (vL 3))) (br (eM "Store" "give" q27 (eV 0) (ah (eD (vL 3)) aD))) (sl P c (some (.dat (.int v))) x4 x5 x6 x7 x8 x9 x10) ch):=by
 have h1:Hv (ch.set P.ma (.lst [.dat (oD (some v))])) (cs P S {S with r:=some v} R):=h.set 21 rfl _
 obtain ⟨ch',e2,h2⟩:=wg (v:=v) h1
 refine ⟨ch',P,_,?_,h2,rfl,rfl,⟨ok.pl,ok.nd,ok.tot,ok.sc,ok.ss,ok.h0,ok.h1,ok.b0,ok.b1,ok.t0,ok.t1,ok.w⟩⟩
 rw [aC,cr (aF (aK (i:=3) (d:=.int v) rfl)) (i0 (i:=1) h rfl lq) (aF (d:=.int 0) rfl) (h.at 21 rfl) (o':=.lst [.dat (oD (some v))]) rfl,ax,bA (v:=.dat .non) (ch1:=ch')]
 rw [em (i:=P.s) (aN rfl) (h1.at 0 rfl) (by decide +kernel) (au (aF (aK (i:=3) (d:=.int v) rfl)) rfl)]
 exact e2
end
def bq {l:List (Nat×CO)} {k j i:Nat} {o:CO} (h:j∉l.map (·.1)) (hi:j≠i):j∉(l.set k (i,o)).map (·.1):=fun z=>by
 obtain ⟨x,hx,e⟩:=List.mem_map.mp z
 rcases List.mem_or_eq_of_mem_set hx with hx | rfl
 · exact h (e▸List.mem_map_of_mem hx)
 · exact hi e.symm
section
variable {ch c1 c2 c3:CH} {P:Pl} {S M:Sta} {R:List (Nat×CO)} {x:Str} {vs:List Int} {v:Int} {k j:Nat} {n:Bool} {δ:Sl} {fa fb fo fe:Fg} {fs:Fgs} {i q:Nat} {cl sh:List Hd} {rw:Dt} {c:Int} {x3 x4 x5 x6 x7 x8 x9 x10:Option CV}
def Pl.newM (P:Pl) (n:Bool) (m h b t:Nat):Pl:=if n then {P with m1:=m,h1:=h,c1:=b,u1:=t} else {P with m0:=m,h0:=h,c0:=b,u0:=t}
def yK {a b e d:Int} {m mh mb mt:Nat} (h:Hv ch (cs P S M R)) (n:Bool) (f1:m∉(cs P S M R).map (·.1)) (f2:mh∉(cs P S M R).map (·.1)) (f3:mb∉(cs P S M R).map (·.1)) (f4:mt∉(cs P S M R).map (·.1)) (d1:mh≠m) (d2:mb≠m) (d3:mt≠m) (d4:mb≠mh) (d5:mt≠mh) (d6:mt≠mb)
  (g1:ch[m]?=some (.lst [.ref mh,.ref mb,.ref mt])) (g2:ch[mh]?=some (li [a,b,e,d])) (g3:ch[mb]?=some (.lst [])) (g4:ch[mt]?=some (.lst [])) :
  Hv (ch.set P.mp (.lst (if n then [.ref P.m0,.ref m] else [.ref m,.ref P.m1]))) (cs (P.newM n m mh mb mt) S (M.setP n ⟨[a,b,e,d],[],[]⟩) R):=by
 cases n
 · have h1:=h.move 12 f1 g1
   have h2:=h1.move 13 (bq f2 d1) g2
   have h3:=h2.move 14 (bq (bq f3 d2) d4) g3
   have h4:=h3.move 15 (bq (bq (bq f4 d3) d5) d6) g4
   exact h4.set 11 rfl _
 · have h1:=h.move 16 f1 g1
   have h2:=h1.move 17 (bq f2 d1) g2
   have h3:=h2.move 18 (bq (bq f3 d2) d4) g3
   have h4:=h3.move 19 (bq (bq (bq f4 d3) d5) d6) g4
   exact h4.set 11 rfl _
def xl (j:Nat) {m:Int} (hm:0<m):toD (aA z4 (ab (vL 2) (ab (kD (.int j)) (ab (kD (.int m)) am)))) (lo (sl P c x3 x4 x5 x6 x7 x8 x9 x10) ch)=some (.int (bH c j m)):=by
 have e:ab (vL 2) (ab (kD (.int j)) (ab (kD (.int m)) am)) (lo (sl P c x3 x4 x5 x6 x7 x8 x9 x10) ch)=some [.int c,.int j,.int m]:=by
  unfold ab am
  rw [aK (d:=.int c) rfl]
  rfl
 unfold toD aA
 rw [e,Option.bind_some,(bY c j hm).1]
 rfl
def cu {f:De->Option Dt} {fs:De->Option (List Dt)} {δ:De} {d:Dt} {ds:List Dt} (h1:f δ=some d) (h2:fs δ=some ds):ab f fs δ=some (d::ds):=by
 unfold ab
 rw [h1,Option.bind_some,h2]
 rfl
def wu:∃ a b e d:Int,eN (bg (ab (toD (aA z4 (ab (vL 2) (ab (kD (.int 3)) (ab (kD (.int 60)) am))))) (ab (toD (d2 cQ (vB 3) (kD (.int 3000)))) (ab (toD (d2 cQ (toD (d2 iW (vB 3) (kD (.int 7)))) (kD (.int 101)))) (ab (toD (d2 cQ (toD (d2 iW (vB 3) (kD (.int 11)))) (kD (.int 3000)))) am))))) (sl P c (some (.dat (.int v))) x4 x5 x6 x7 x8 x9 x10) ch=some (.ref ch.length,ch++[li [a,b,e,d]]):=by
 have h3:=dw (ch:=ch) (δ:=sl P c (some (.dat (.int v))) x4 x5 x6 x7 x8 x9 x10) (i:=3) (d:=.int v) rfl
 have p3:=xl (P:=P) (c:=c) (ch:=ch) (x3:=some (.dat (.int v))) (x4:=x4) (x5:=x5) (x6:=x6) (x7:=x7) (x8:=x8) (x9:=x9) (x10:=x10) 3 (m:=60) (by decide)
 rw [show ((3:Nat):Int)=3 from rfl] at p3
 have e1:toD (d2 cQ (vB 3) (kD (.int 3000))) (lo (sl P c (some (.dat (.int v))) x4 x5 x6 x7 x8 x9 x10) ch)=some (.int (v%3000)):=by
  simp only [toD,d2,h3,kD,Option.bind_some,gb (show (0:Int)<3000 by decide),Option.map_some]
  rfl
 have dv:∀ w:Int,0<w->w<1000->iW (.int v) (.int w)=some (.leaf (.int (v/w))):=fun w h1 h2=>by
  exact yg h1 (by omega)
 have e2:toD (d2 cQ (toD (d2 iW (vB 3) (kD (.int 7)))) (kD (.int 101))) (lo (sl P c (some (.dat (.int v))) x4 x5 x6 x7 x8 x9 x10) ch)=some (.int (v/7%101)):=by
  simp only [toD,d2,h3,kD,Option.bind_some,dv 7 (by decide) (by decide),T.d,gb (show (0:Int)<101 by decide),Option.map_some]
 have e3:toD (d2 cQ (toD (d2 iW (vB 3) (kD (.int 11)))) (kD (.int 3000))) (lo (sl P c (some (.dat (.int v))) x4 x5 x6 x7 x8 x9 x10) ch)=some (.int (v/11%3000)):=by
  simp only [toD,d2,h3,kD,Option.bind_some,dv 11 (by decide) (by decide),T.d,gb (show (0:Int)<3000 by decide),Option.map_some]
 refine ⟨bH c 3 60,v%3000,v/7%101,v/11%3000,?_⟩
 have el:=cu p3 (cu e1 (cu e2 (cu e3 (fs:=am) (ds:=[]) rfl)))
 unfold eN bg
 rw [el]
 rfl
def wv {y3 y4 y6:Dt} {ds:List Dt} {r:Nat} (hs:r≠P.s) (hm:r≠P.m) (hq:r≠q) (hd:ch[r]?=some (.lst (ds.map .dat))):vB 10 (lo (sl P c (some (.dat y3)) (some (.dat y4)) (some (.ref q)) (some (.dat y6)) none none none (some (.ref r))) ch)=some (.lst ds):=by
 have e:(lo (sl P c (some (.dat y3)) (some (.dat y4)) (some (.ref q)) (some (.dat y6)) none none none (some (.ref r))) ch)[10]?=some (some (.lst ds)):=by
  unfold lo sl
  simp only [loA,List.getElem?_cons_succ,List.getElem?_cons_zero]
  rw [if_neg (by simp [hs,hm,hq]),hd]
  simp only [Option.bind_some,tvO,io,Option.map_some]
 unfold vB
 rw [e]
 rfl
def pc (h:Hv ch (cs P S S R)) (ok:Ok cl sh P S k) (hq:q<ch.length) {y6:Dt} :
  Res cl sh P R k (aI (bO 10 (eN (bg (ab (toD (aA z4 (ab (vL 2) (ab (kD (.int 3)) (ab (kD (.int 60)) am))))) (ab (toD (d2 cQ (vB 3) (kD (.int 3000)))) (ab (toD (d2 cQ (toD (d2 iW (vB 3) (kD (.int 7)))) (kD (.int 101)))) (ab (toD (d2 cQ (toD (d2 iW (vB 3) (kD (.int 11)))) (kD (.int 3000)))) am)))))))
  (aI (d8 (eIx (eV 1) (eD (kD (.str "pages")))) (eD (vL 4)) (eL (ah (eV 10) (ah (eN (bg am)) (ah (eN (bg am)) aD)))))
  (br (eM "Store" "begin_page" q15 (eV 0) (ah (eD (toD (d2 bi (vB 10) (kD (.int 0))))) (ah (eD (toD (d2 bi (vB 10) (kD (.int 1))))) (ah (eD (toD (d2 bi (vB 10) (kD (.int 2))))) (ah (eD (toD (d2 bi (vB 10) (kD (.int 3))))) aD))))))) (sl P c (some (.dat (.int v))) (some (.dat (.int (fI (!S.f))))) (some (.ref q)) (some (.dat y6)) none none none none) ch):=by
 obtain ⟨a,b,e,d,e1⟩:=wu (P:=P) (c:=c) (v:=v) (x4:=some (.dat (.int (fI (!S.f))))) (x5:=some (.ref q)) (x6:=some (.dat y6)) (x7:=none) (x8:=none) (x9:=none) (x10:=none) (ch:=ch)
 have hs:P.s<ch.length:=h.lt (x:=(P.s,so P S)) (by unfold cs;simp)
 have hm:P.m<ch.length:=h.lt (x:=(P.m,mo P)) (by unfold cs;simp)
 have hmp:P.mp<ch.length:=h.lt (x:=(P.mp,.lst [.ref P.m0,.ref P.m1])) (by unfold cs;simp)
 have eS:(sl P c (some (.dat (.int v))) (some (.dat (.int (fI (!S.f))))) (some (.ref q)) (some (.dat y6)) none none none none).set 10 (some (.ref ch.length))=sl P c (some (.dat (.int v))) (some (.dat (.int (fI (!S.f))))) (some (.ref q)) (some (.dat y6)) none none none (some (.ref ch.length)):=rfl
 have e2:eL (ah (eV 10) (ah (eN (bg am)) (ah (eN (bg am)) aD))) (sl P c (some (.dat (.int v))) (some (.dat (.int (fI (!S.f))))) (some (.ref q)) (some (.dat y6)) none none none (some (.ref ch.length))) (ch++[li [a,b,e,d]])=some (.ref (ch.length+3),ch++[li [a,b,e,d],.lst [],.lst [],.lst [.ref ch.length,.ref (ch.length+1),.ref (ch.length+2)]]):=by
  unfold eL
  rw [au (x:=.ref ch.length) (ch1:=ch++[li [a,b,e,d]]) (aN rfl) (au (x:=.ref (ch.length+1)) (ch1:=ch++[li [a,b,e,d],.lst []]) (show some (CV.ref (ch++[li [a,b,e,d]]).length,ch++[li [a,b,e,d]]++[.lst []])=_ by simp) (au (x:=.ref (ch.length+2)) (ch1:=ch++[li [a,b,e,d],.lst [],.lst []]) (show some (CV.ref (ch++[li [a,b,e,d],.lst []]).length,ch++[li [a,b,e,d],.lst []]++[.lst []])=_ by simp) rfl)),Option.bind_some]
  dsimp only
  rw [if_pos (by simp;decide)]
  simp
 have h2:=h.app [li [a,b,e,d],.lst [],.lst [],.lst [.ref ch.length,.ref (ch.length+1),.ref (ch.length+2)]]
 have ga:∀ i,i<4->(ch++[li [a,b,e,d],CO.lst [],.lst [],.lst [.ref ch.length,.ref (ch.length+1),.ref (ch.length+2)]])[ch.length+i]?=[li [a,b,e,d],CO.lst [],.lst [],.lst [.ref ch.length,.ref (ch.length+1),.ref (ch.length+2)]][i]?:=fun i _=>by
  rw [gR (by omega),Nat.add_sub_cancel_left]
 have g0:(ch++[li [a,b,e,d],CO.lst [],.lst [],.lst [.ref ch.length,.ref (ch.length+1),.ref (ch.length+2)]])[ch.length]?=some (li [a,b,e,d]):=ga 0 (by decide)
 have g1:=ga 1 (by decide)
 have g2:=ga 2 (by decide)
 have g3:=ga 3 (by decide)
 generalize ch++[li [a,b,e,d],CO.lst [],.lst [],.lst [.ref ch.length,.ref (ch.length+1),.ref (ch.length+2)]]=c2 at e2 h2 g0 g1 g2 g3
 have fr:∀ i,ch.length+i∉(cs P S S R).map (·.1):=fun i=>h.fresh (Nat.le_add_right _ _)
 have h3:=yK h2 (!S.f) (fr 3) (h.fresh (nL _)) (fr 1) (fr 2) (by omega) (by omega) (by omega) (by omega) (by omega) (by omega) g3 g0 g1 g2
 obtain ⟨ch',n1,n2,e4,h4⟩:=uj a b e d h3
 have ep:tM (.lst [.ref P.m0,.ref P.m1]) (.int (fI (!S.f))) (.ref (ch.length+3))=some (.lst (if (!S.f)=true then [.ref P.m0,.ref (ch.length+3)] else [.ref (ch.length+3),.ref P.m1])):=by cases S.f<;>rfl
 have g0':(c2.set P.mp (.lst (if (!S.f)=true then [.ref P.m0,.ref (ch.length+3)] else [.ref (ch.length+3),.ref P.m1])))[ch.length]?=some (.lst (([Dt.int a,.int b,.int e,.int d]).map .dat)):=by
  rw [gN (by omega)]
  exact g0
 have hP:∀ (X:Pl) (i j:Nat),(X.newB (!S.f) i j).s=X.s/\(X.newB (!S.f) i j).m=X.m/\(X.newB (!S.f) i j).ps=X.ps:=fun X i j=>by cases S.f<;>exact ⟨rfl,rfl,rfl⟩
 have hN:(P.newM (!S.f) (ch.length+3) ch.length (ch.length+1) (ch.length+2)).s=P.s/\(P.newM (!S.f) (ch.length+3) ch.length (ch.length+1) (ch.length+2)).m=P.m/\(P.newM (!S.f) (ch.length+3) ch.length (ch.length+1) (ch.length+2)).ps=P.ps:=by cases S.f<;>exact ⟨rfl,rfl,rfl⟩
 refine ⟨ch',_,_,?_,h4,(hP _ _ _).1.trans hN.1,(hP _ _ _).2.1.trans hN.2.1,ok.pages ((hP _ _ _).2.2.trans hN.2.2) _ rfl (by simp) (by simp)⟩
 rw [aC,bG e1,ax,eS,aC,cr e2 (i0 (i:=1) h2 rfl j2) (aF (aK (i:=4) (d:=.int (fI (!S.f))) rfl)) (h2.at 11 rfl) ep,ax,bA (v:=.dat .non) (ch1:=ch')]
 have hv:=wv (c:=c) (y3:=.int v) (y4:=.int (fI (!S.f))) (y6:=y6) (q:=q) (r:=ch.length) (P:=P) (by omega) (by omega) (by omega) g0'
 have at':∀ (i:Nat) (w:Int),[Dt.int a,.int b,.int e,.int d][i]?=some (.int w)->eD (toD (d2 bi (vB 10) (kD (.int i)))) (sl P c (some (.dat (.int v))) (some (.dat (.int (fI (!S.f))))) (some (.ref q)) (some (.dat y6)) none none none (some (.ref ch.length))) (c2.set P.mp (.lst (if (!S.f)=true then [.ref P.m0,.ref (ch.length+3)] else [.ref (ch.length+3),.ref P.m1])))=some (.dat (.int w),c2.set P.mp (.lst (if (!S.f)=true then [.ref P.m0,.ref (ch.length+3)] else [.ref (ch.length+3),.ref P.m1]))):=fun i w hw=>aF (by
  simp only [toD,d2,hv,kD,Option.bind_some,w8]
  rw [dy hw]
  rfl)
 have hS:=h3.at 0 rfl
 rw [hN.1] at hS
 have a0:=at' 0 a rfl
 have a1:=at' 1 b rfl
 have a2:=at' 2 e rfl
 have a3:=at' 3 d rfl
 rw [show ((0:Nat):Int)=0 from rfl] at a0
 rw [show ((1:Nat):Int)=1 from rfl] at a1
 rw [show ((2:Nat):Int)=2 from rfl] at a2
 rw [show ((3:Nat):Int)=3 from rfl] at a3
 rw [em (i:=P.s) (aN rfl) hS (by decide +kernel) (au a0 (au a1 (au a2 (au a3 rfl))))]
 rw [hN.1] at e4
 exact e4
end
section
variable {ch c1 c2 c3:CH} {P:Pl} {S M:Sta} {R:List (Nat×CO)} {x:Str} {vs:List Int} {v:Int} {k j:Nat} {n:Bool} {δ:Sl} {fa fb fo fe:Fg} {fs:Fgs} {i q:Nat} {cl sh:List Hd} {rw:Dt} {c:Int} {x3 x4 x5 x6 x7 x8 x9 x10:Option CV}
def mE {g:Dt->Dt->Option T} {f1 f2:De->Option Dt} {δ:De} {a b:Dt} {w:Bool} (h1:f1 δ=some a) (h2:f2 δ=some b) (h3:g a b=some (.leaf (.bl w))):tB2 g f1 f2 δ=some w:=by
 unfold tB2 d2
 rw [h1,Option.bind_some,h2,Option.bind_some,h3]
 rfl
def ww {m w:Int} (f:Int->Int->Bool):tD (tB2 (j9 f) (vB 6) (kD (.int m))) (sl P c x3 x4 x5 (some (.dat (.int w))) x7 x8 x9 x10) ch=some (f w m,ch):=ub (mE (dw (d:=.int w) rfl) rfl rfl)
def eq6 {m w:Int}:tD (tB2 (gEq false) (vB 6) (kD (.int m))) (sl P c x3 x4 x5 (some (.dat (.int w))) x7 x8 x9 x10) ch=some (decide (w=m),ch):=ub (mE (dw (d:=.int w) rfl) rfl yj)
def zB {w:Int} {y3 y4:Dt} (nd:(S.hm.map (·.1)).Nodup) (hs:q≠P.s) (hm:q≠P.m) (hq:ch[q]?=some (.lst ((bR S.hm).map .dat))):tD (sO (tB2 (j9 fun i j=>decide (i<j)) (vB 6) (kD (.int 4))) (tB2 (gEq true) (vB 5) (toD (bg am)))) (sl P c (some (.dat y3)) (some (.dat y4)) (some (.ref q)) (some (.dat (.int w))) x7 x8 x9 x10) ch=some (decide (w<4)&&!(bR S.hm).isEmpty,ch):=by
 refine ub ?_
 unfold sO
 rw [mE (w:=decide (w<4)) (dw (d:=.int w) rfl) rfl rfl,Option.bind_some]
 cases decide (w<4)
 · rfl
 · rw [if_pos rfl,mE (nU hs hm hq) (b:=.lst []) rfl (yJ nd)]
   rfl
def pick {w:Int} {y3 y4:Dt} (nd:(S.hm.map (·.1)).Nodup) (hs:q≠P.s) (hm:q≠P.m) (hq:ch[q]?=some (.lst ((bR S.hm).map .dat))) (hne:(bR S.hm).isEmpty=false) :
  ∃ (x:Str) (vs:List Int) (j:Nat),nu (toD (d2 bi (vB 5) (toD (aA z4 (ab (vL 2) (ab (kD (.int 1)) (ab (toD (aA fF (ab (vB 5) am))) am))))))) [7,8] (da 2 (aJ (aq 7) (aJ (aq 8) cZ))) (sl P c (some (.dat y3)) (some (.dat y4)) (some (.ref q)) x6 none none none none) ch=some (.nx (sl P c (some (.dat y3)) (some (.dat y4)) (some (.ref q)) x6 (some (.dat (.str x))) (some (.dat (.int j))) none none) ch)/\lkS S.hm x=some vs/\j<vs.length:=by
 have hl:0<(bR S.hm).length:=by
  cases h:bR S.hm with
  | nil=>rw [h] at hne;cases hne
  | cons a l=>simp
 have hv:=nU (c:=c) (x6:=x6) (x7:=none) (x8:=none) (x9:=none) (x10:=none) (y3:=y3) (y4:=y4) hs hm hq
 have hp:=bY c 1 (m:=(bR S.hm).length) (by omega)
 obtain ⟨t,ht⟩:∃ t:Nat,bH c 1 (bR S.hm).length=t:=⟨(bH c 1 (bR S.hm).length).toNat,by have:=hp.2.1;rw [show ((1:Nat):Int)=1 from rfl] at this;omega⟩
 rw [show ((1:Nat):Int)=1 from rfl,ht] at hp
 have htl:t<(bR S.hm).length:=by omega
 have htd:t<(dTm S.hm).length:=by unfold bR at htl;simpa using htl
 obtain ⟨x,vs,j,v,e,h1,h2,_⟩:=fO nd (List.getElem_mem htd)
 refine ⟨x,vs,j,?_,h1,(gX h2).1⟩
 have e1:toD (aA fF (ab (vB 5) am)) (lo (sl P c (some (.dat y3)) (some (.dat y4)) (some (.ref q)) x6 none none none none) ch)=some (.int (bR S.hm).length):=by
  unfold toD aA
  rw [cu hv (fs:=am) (ds:=[]) rfl]
  rfl
 have e2:toD (aA z4 (ab (vL 2) (ab (kD (.int 1)) (ab (toD (aA fF (ab (vB 5) am))) am)))) (lo (sl P c (some (.dat y3)) (some (.dat y4)) (some (.ref q)) x6 none none none none) ch)=some (.int t):=by
  have ea:=cu (f:=vL 2) (aK (d:=.int c) (δ:=sl P c (some (.dat y3)) (some (.dat y4)) (some (.ref q)) x6 none none none none) (ch:=ch) rfl) (cu (f:=kD (.int 1)) (d:=.int 1) rfl (cu e1 (fs:=am) (ds:=[]) rfl))
  unfold toD aA at ea ⊢
  rw [ea,Option.bind_some,hp.1]
  rfl
 have e3:toD (d2 bi (vB 5) (toD (aA z4 (ab (vL 2) (ab (kD (.int 1)) (ab (toD (aA fF (ab (vB 5) am))) am)))))) (lo (sl P c (some (.dat y3)) (some (.dat y4)) (some (.ref q)) x6 none none none none) ch)=some (.tup [.str x,.int j]):=by
  show Option.map T.d ((vB 5 (lo (sl P c (some (.dat y3)) (some (.dat y4)) (some (.ref q)) x6 none none none none) ch)).bind fun a=>(toD (aA z4 (ab (vL 2) (ab (kD (.int 1)) (ab (toD (aA fF (ab (vB 5) am))) am)))) (lo (sl P c (some (.dat y3)) (some (.dat y4)) (some (.ref q)) x6 none none none none) ch)).bind fun b=>bi a b)=_
  rw [hv,e2,Option.bind_some,Option.bind_some,w8,dy (a:=.tup [.str x,.int j])]
  · rfl
  · unfold bR
    rw [List.getElem?_map,gQ htd,e]
    rfl
 unfold nu
 rw [e3,Option.bind_some,show da 2 (aJ (aq 7) (aJ (aq 8) cZ)) (.tup [.str x,.int j]) (lo (sl P c (some (.dat y3)) (some (.dat y4)) (some (.ref q)) x6 none none none none) ch)=some (((lo (sl P c (some (.dat y3)) (some (.dat y4)) (some (.ref q)) x6 none none none none) ch).set 7 (some (.leaf (.str x)))).set 8 (some (.leaf (.int j)))) from rfl,Option.map_some,mgS2 (by decide) (by show 7<11;decide) (by show 8<11;decide)]
 rfl
def Res.fin {o:Option Og} {g:Fs} (r:Res cl sh P R k o):∃ ch' P' S',nC o g=some (.rt (.dat .non) ch')/\Hv ch' (cs P' S' S' R)/\P'.s=P.s/\P'.m=P.m/\Ok cl sh P' S' k:=by
 obtain ⟨ch',P',S',e,h⟩:=r
 exact ⟨ch',P',S',by rw [e,tU],h⟩
def Res.more {o:Option Og} (r:Res cl sh P R k o):Res cl sh P R (k+1) o:=by
 obtain ⟨ch',P',S',e,h1,h2,h3,h4⟩:=r
 exact ⟨ch',P',S',e,h1,h2,h3,h4.more⟩
def Res.then {o:Option Og} (g:Fs) (r:Res cl sh P R k o):Res cl sh P R k (nC o g):=r.fin
def wx {y:Option CV}:∃ x:Str,eD (toD (aA y11 (ab (vL 2) (ab (toD (aA z4 (ab (vL 2) (ab (kD (.int 2)) (ab (kD (.int 26)) am))))) am)))) (sl P c x3 x4 x5 x6 x7 x8 x9 x10) ch=some (.dat (.str x),ch):=by
 have hp:=bY c 2 (m:=26) (by decide)
 rw [show ((2:Nat):Int)=2 from rfl] at hp
 obtain ⟨t,ht⟩:∃ t:Nat,bH c 2 26=t:=⟨(bH c 2 26).toNat,by omega⟩
 have p2:=xl (P:=P) (c:=c) (ch:=ch) (x3:=x3) (x4:=x4) (x5:=x5) (x6:=x6) (x7:=x7) (x8:=x8) (x9:=x9) (x10:=x10) 2 (m:=26) (by decide)
 rw [show ((2:Nat):Int)=2 from rfl,ht] at p2
 have ea:=cu (f:=vL 2) (aK (d:=.int c) (δ:=sl P c x3 x4 x5 x6 x7 x8 x9 x10) (ch:=ch) rfl) (cu p2 (fs:=am) (ds:=[]) rfl)
 refine ⟨nam c t,aF ?_⟩
 show Option.map T.d ((ab (vL 2) (ab (toD (aA z4 (ab (vL 2) (ab (kD (.int 2)) (ab (kD (.int 26)) am))))) am) (lo (sl P c x3 x4 x5 x6 x7 x8 x9 x10) ch)).bind y11)=_
 rw [ea,Option.bind_some,jj c t (by omega)]
 rfl
end
section
variable {ch c1 c2 c3:CH} {P:Pl} {S M:Sta} {R:List (Nat×CO)} {x:Str} {vs:List Int} {v:Int} {k j:Nat} {n:Bool} {δ:Sl} {fa fb fo fe:Fg} {fs:Fgs} {i q:Nat} {cl sh:List Hd} {rw:Dt} {c:Int} {x3 x4 x5 x6 x7 x8 x9 x10:Option CV}
def wy (h:Hv ch (cs P S S R)) (ok:Ok cl sh P S k) (hk:k<500) (c:Int):∃ ch' P' S',z28 [.ref P.s,.ref P.m,.dat (.int c)] ch=some (.dat .non,ch')/\Hv ch' (cs P' S' S' R)/\P'.s=P.s/\P'.m=P.m/\Ok cl sh P' S' (k+1):=by
 have hs:P.s<ch.length:=h.lt (x:=(P.s,so P S)) (by unfold cs;simp)
 have hm:P.m<ch.length:=h.lt (x:=(P.m,mo P)) (by unfold cs;simp)
 have e4:e2 m9 (eD (kD (.int 1))) (eIx (eIx (eV 1) (eD (kD (.str "face")))) (eD (kD (.int 0)))) (sl P c (some (.dat (.int (num c)))) none none none none none none none) ch=some (.dat (.int (fI (!S.f))),ch):=by
  rw [qu (aF (d:=.int 1) rfl) (bI (i0 (i:=1) h rfl mB) (aF (d:=.int 0) rfl) (h.at 20 rfl) (qw (k:=0) (v:=fI S.f) rfl)) rfl rfl (t:=.leaf (.int (1-fI S.f))) rfl,show (1-fI S.f)=fI (!S.f) by cases S.f<;>rfl]
  rfl
 have hC:=h.app [.lst ((bR S.hm).map .dat)]
 have hq:(ch++[CO.lst ((bR S.hm).map .dat)])[ch.length]?=some (.lst ((bR S.hm).map .dat)):=aR
 have hl:ch.length<(ch++[CO.lst ((bR S.hm).map .dat)]).length:=by simp
 have e5:=wr (δ:=sl P c (some (.dat (.int (num c)))) (some (.dat (.int (fI (!S.f))))) none none none none none none) h ok.w rfl
 generalize ch++[CO.lst ((bR S.hm).map .dat)]=C at hC hq hl e5
 have e6:=wq (P:=P) (c:=c) (ch:=C) (x3:=some (.dat (.int (num c)))) (x4:=some (.dat (.int (fI (!S.f))))) (x5:=some (.ref ch.length)) (x6:=none) (x7:=none) (x8:=none) (x9:=none) (x10:=none) 0 (m:=9) (by decide)
 rw [show ((0:Nat):Int)=0 from rfl] at e6
 have fin:∀ {o:Option Og},Res cl sh P R (k+1) o->∃ ch' P' S',tT o=some (.dat .non,ch')/\Hv ch' (cs P' S' S' R)/\P'.s=P.s/\P'.m=P.m/\Ok cl sh P' S' (k+1):=fun ⟨ch',P',S',e,h⟩=>⟨ch',P',S',by rw [e];rfl,h⟩
 unfold z28
 rw [bV]
 walk_at "m"
 show ∃ ch' P' S',tT (aI _ _ (sl P c none none none none none none none none) ch)=_/\_
 refine fin ?_
 rw [aC,bG yI,ax]
 show Res cl sh P R (k+1) (aI _ _ (sl P c (some (.dat (.int (num c)))) none none none none none none none) ch)
 rw [aC,bG e4,ax]
 show Res cl sh P R (k+1) (aI _ _ (sl P c (some (.dat (.int (num c)))) (some (.dat (.int (fI (!S.f))))) none none none none none none) ch)
 rw [aC,bG e5,ax]
 show Res cl sh P R (k+1) (aI _ _ (sl P c (some (.dat (.int (num c)))) (some (.dat (.int (fI (!S.f))))) (some (.ref ch.length)) none none none none none) C)
 rw [aC,bG e6,ax]
 show Res cl sh P R (k+1) (aI _ _ (sl P c (some (.dat (.int (num c)))) (some (.dat (.int (fI (!S.f))))) (some (.ref ch.length)) (some (.dat (.int (bH c 0 9)))) none none none none) C)
 have t1:=zB (c:=c) (w:=bH c 0 9) (y3:=.int (num c)) (y4:=.int (fI (!S.f))) (x7:=none) (x8:=none) (x9:=none) (x10:=none) ok.nd (P:=P) (by omega) (by omega) hq
 generalize bH c 0 9=w at t1 ⊢
 rw [aC]
 by_cases hA:(decide (w<4)&&!(bR S.hm).isEmpty)=true
 · refine Res.then _ ?_
   rw [gZ,t1,ii hA]
   have hne:(bR S.hm).isEmpty=false:=by
    simp only [Bool.and_eq_true,Bool.not_eq_true'] at hA
    exact hA.2
   obtain ⟨x,vs,j,e7,hx,hj⟩:=pick (c:=c) (w:=w) (x6:=some (.dat (.int w))) (y3:=.int (num c)) (y4:=.int (fI (!S.f))) ok.nd (P:=P) (by omega) (by omega) hq hne
   rw [aC,e7,ax,aC]
   by_cases hB:w<2
   · refine Res.then _ ?_
     rw [gZ,ww,ii (decide_eq_true hB)]
     exact (uA hC ok hx hj).more
   · rw [eI (by rw [ww,decide_eq_false hB]),ax]
     exact rK hC ok hk
 · rw [eI (by rw [t1,Bool.eq_false_iff.mpr hA]),ax,aC]
   by_cases hD:w<6
   · refine Res.then _ ?_
     rw [gZ,ww,ii (decide_eq_true hD)]
     obtain ⟨x,e9⟩:=wx (P:=P) (c:=c) (ch:=C) (x3:=some (.dat (.int (num c)))) (x4:=some (.dat (.int (fI (!S.f))))) (x5:=some (.ref ch.length)) (x6:=some (.dat (.int w))) (x7:=none) (x8:=none) (x9:=none) (x10:=none) (y:=none)
     rw [aC,bG e9,ax]
     exact uB hC ok hk
   · rw [eI (by rw [ww,decide_eq_false hD]),ax,aC]
     by_cases hE:w=6
     · refine Res.then _ ?_
       rw [gZ,eq6,ii (decide_eq_true hE)]
       exact (pc hC ok hl).more
     · rw [eI (by rw [eq6,decide_eq_false hE]),ax,aC]
       by_cases hF:w=7
       · refine Res.then _ ?_
         rw [gZ,eq6,ii (decide_eq_true hF)]
         exact (rL hC ok).more
       · rw [eI (by rw [eq6,decide_eq_false hF]),ax]
         exact (rM hC ok).more
end
def Hv.nil {ch:CH}:Hv ch []:=⟨List.nodup_nil,fun x h=>by cases h⟩
def rN {fe:Fg} {d:Dt} {ds:List Dt} {ch c1 c2:CH} {c:CV} {cs:List CV} (h1:fe [some (.dat d)] ch=some (c,c1)) (h2:dr [0] (aq 0) bc fe [none] ds c1=some (cs,c2)):dr [0] (aq 0) bc fe [none] (d::ds) ch=some (c::cs,c2):=by
 show ((aq 0 d (lo [none] ch)).bind fun δ1=>(bc (lo (mgS [0] [none] δ1) ch)).bind fun b=>if b then (fe (mgS [0] [none] δ1) ch).bind fun p'=>(dr [0] (aq 0) bc fe [none] ds p'.2).map fun q=>(p'.1::q.1,q.2) else dr [0] (aq 0) bc fe [none] ds ch)=_
 unfold aq
 rw [Option.bind_some,jX (by show 0<1;decide)]
 show ((fe [some (.dat d)] ch).bind fun p'=>(dr [0] (aq 0) bc fe [none] ds p'.2).map fun q=>(p'.1::q.1,q.2))=_
 rw [h1,Option.bind_some]
 dsimp only
 rw [h2]
 rfl
def nV {ch:CH} {c:CV} {l:List CV} {p:Key×CV} {ps:List (Key×CV)} (h1:kX ch c=some p) (h2:fM ch l=some ps):fM ch (c::l)=some (p::ps):=by
 simp only [fM,h1,h2,Option.bind_some,Option.map_some]
def uC {ch:CH} {q p:Nat} {x:Str} (h:ch[q]?=some (.tup [.dat (.str x),.ref p])):kX ch (.ref q)=some (.inr x,.ref p):=by
 simp only [kX,h,fG,Option.map_some]
def g8 {α:Type} {E:Fg} {f:α->Dt} {nm:α->Str} {vf:α->List Int}:∀ (l:List α),(∀ a∈l,∀ c:CH,∃ g p q,E [some (.dat (f a))] c=some (.ref q,c++g)/\(c++g)[q]?=some (.tup [.dat (.str (nm a)),.ref p])/\(c++g)[p]?=some (li (vf a))/\c.length<=p)->∀ c:CH,
  ∃ g rs ps,dr [0] (aq 0) bc E [none] (l.map f) c=some (rs,c++g)/\(∀ g',fM (c++g++g') rs=some (dP (l.map nm) ps))/\ps.length=l.length/\rs.length=l.length/\Hv (c++g) (hl ps (l.map fun a=>(nm a,vf a)))/\∀ p∈ps,c.length<=p
 | [],_,c=>⟨[],[],[],by simp;rfl,fun _=>rfl,rfl,rfl,Hv.nil,fun p h=>by cases h⟩
 | a::l,h,c=>by
  obtain ⟨g,p,q,e,h1,h2,h3⟩:=h a (by simp) c
  obtain ⟨g',rs,ps,e',i1,i2,i3,i4,i5⟩:=g8 l (fun b hb=>h b (by simp [hb])) (c++g)
  have hp:p<(c++g).length:=(gX h2).1
  refine ⟨g++g',.ref q::rs,p::ps,?_,fun g2=>?_,by simp [i2],by simp [i3],?_,fun z hz=>?_⟩
  · rw [List.map_cons,<- List.append_assoc]
    exact rN e e'
  · rw [<- List.append_assoc]
    exact nV (uC (dj (dj h1))) (i1 g2)
  · rw [<- List.append_assoc]
    refine i4.add (o:=li (vf a)) (fun z=>?_) (dj h2)
    obtain ⟨y,hy,e⟩:=List.mem_map.mp z
    unfold hl at hy
    obtain ⟨⟨u,w⟩,hw,rfl⟩:=List.mem_map.mp hy
    have:=i5 u (List.of_mem_zip hw).1
    simp only at e
    omega
  · rcases List.mem_cons.mp hz with rfl | hz
    · exact h3
    · have:=i5 z hz
      rw [List.length_append] at this
      omega
def nW:∀ m:Nat,(List.replicate m [CV.dat (.int 0)]).flatten=(List.replicate m 0).map fun v=>CV.dat (.int v)
 | 0=>rfl
 | m+1=>by
  rw [List.replicate_succ,List.flatten_cons,List.replicate_succ,List.map_cons,nW m]
  rfl
def yL (h:Hd) (c:CH):∃ g p q,y26 [some (.dat (hdD h))] c=some (.ref q,c++g)/\(c++g)[q]?=some (.tup [.dat (.str h.1),.ref p])/\(c++g)[p]?=some (li [h.2.1])/\c.length<=p:=by
 refine ⟨[li [h.2.1],.tup [.dat (.str h.1),.ref c.length]],c.length,c.length+1,?_,?_,?_,nL _⟩
 · unfold y26
   rw [qx (xs:=[.dat (.str h.1),.ref c.length]) (c1:=c++[li [h.2.1]]) (au (aF rfl) (au (x:=.ref c.length) (ch1:=c++[li [h.2.1]]) rfl rfl)) (by simp)]
   simp
 · rw [gR (by omega)]
   simp
 · rw [gR (by omega)]
   simp
def wz {h:Hd} {m:Nat} (hm:h.2.1=m) (h8:m<=8) (c:CH):∃ g p q,z22 [some (.dat (hdD h))] c=some (.ref q,c++g)/\(c++g)[q]?=some (.tup [.dat (.str h.1),.ref p])/\(c++g)[p]?=some (li (List.replicate m 0))/\c.length<=p:=by
 refine ⟨[.lst [.dat (.int 0)],li (List.replicate m 0),.tup [.dat (.str h.1),.ref (c.length+1)]],c.length+1,c.length+2,?_,?_,?_,Nat.le_succ _⟩
 · have er:tQ (eN (bg (ab (kD (.int 0)) am))) (eD (toD (d2 bi (vB 0) (kD (.int 1))))) [some (.dat (hdD h))] c=some (.ref (c.length+1),c++[.lst [.dat (.int 0)],li (List.replicate m 0)]):=by
    unfold tQ
    rw [show eN (bg (ab (kD (.int 0)) am)) [some (.dat (hdD h))] c=some (.ref c.length,c++[.lst [.dat (.int 0)]]) from rfl,Option.bind_some]
    dsimp only
    rw [show eD (toD (d2 bi (vB 0) (kD (.int 1)))) [some (.dat (hdD h))] (c++[.lst [.dat (.int 0)]])=some (.dat (.int m),c++[.lst [.dat (.int 0)]]) by rw [<- hm];rfl,Option.bind_some]
    simp only [aR]
    have sz:1000<=sizeLine:=by decide
    rw [if_pos ⟨by omega,by omega,by simp;omega⟩]
    rw [Int.toNat_natCast,nW]
    simp [li]
   unfold z22
   rw [qx (xs:=[.dat (.str h.1),.ref (c.length+1)]) (c1:=c++[.lst [.dat (.int 0)],li (List.replicate m 0)]) (au (aF rfl) (au er rfl)) (by simp)]
   simp
 · rw [gR (by omega)]
   simp
 · rw [gR (by omega)]
   simp
def Hv.join {c g:CH} {A B:List (Nat×CO)} (ha:Hv (c++g) A) (hg:∀ a∈A,c.length<=a.1) (hb:Hv c B):Hv (c++g) (A++B):=by
 refine ⟨?_,fun x hx=>?_⟩
 · rw [List.map_append]
   refine List.nodup_append.mpr ⟨ha.1,hb.1,fun u hu w hw e=>?_⟩
   obtain ⟨a,ha',rfl⟩:=List.mem_map.mp hu
   obtain ⟨b,hb',rfl⟩:=List.mem_map.mp hw
   have h1:=hg a ha'
   have h2:=hb.lt hb'
   omega
 · rcases List.mem_append.mp hx with hx | hx
   · exact ha.2 x hx
   · exact (hb.app g).2 x hx
def uD {α:Type} (is:List Nat) (l:List α):List α:=is.filterMap fun i=>l[i]?
def uE {α:Type} (l:List α):uD (List.range l.length) l=l:=by
 unfold uD
 induction l with
 | nil=>rfl
 | cons a l ih =>
  rw [List.length_cons,List.range_succ_eq_map,List.filterMap_cons]
  simp only [List.getElem?_cons_zero,List.filterMap_map]
  congr 1
def Hv.pick {c:CH} {l X:List (Nat×CO)} (h:Hv c (l++X)) (is:List Nat) (hp:is.Perm (List.range l.length)):Hv c (uD is l++X):=by
 refine h.perm (List.Perm.append_right X ?_)
 have:=hp.filterMap fun i=>l[i]?
 rw [show (List.range l.length).filterMap (fun i=>l[i]?)=l from uE l] at this
 exact this.symm
def yM {ps qs:List Nat} {a b:Hm} (h:ps.length=a.length):hl (ps++qs) (a++b)=hl ps a++hl qs b:=by
 unfold hl
 rw [List.zip_append h,List.map_append]
def uF {ps qs:List Nat} {a b:List Str} (h:a.length=ps.length):dP (a++b) (ps++qs)=dP a ps++dP b qs:=by
 unfold dP
 rw [List.zip_append h,List.map_append]
def jn:∀ {ns:List Str} {ps:List Nat},ns.length=ps.length->(dP ns ps).map (·.1)=ns.map fun y=>(.inr y:Key)
 | [],_,_=>rfl
 | _::_,[],h=>by cases h
 | n::ns,p::ps,h=>by
  have:=jn (ns:=ns) (ps:=ps) (by simpa using h)
  unfold dP at this ⊢
  rw [List.zip_cons_cons,List.map_cons,List.map_cons,List.map_cons,this]
def uG {ns:List Str} {ps:List Nat} (h:ns.length=ps.length) (nd:ns.Nodup):((dP ns ps).map (·.1)).Nodup:=by
 rw [jn h]
 exact List.pairwise_map.mpr (nd.imp fun h z=>h (Sum.inr.inj z))
def lv {f:Str} {c:CV}:∀ {ns:List Str} {l:List CV},ns.length=l.length->f∉ns->d9 ns l f c=(ns++[f],l++[c])
 | [],[],_,_=>rfl
 | [],_::_,h,_=>by cases h
 | _::_,[],h,_=>by cases h
 | n::ns,x::l,h,hf=>by
  have ih:=lv (f:=f) (c:=c) (ns:=ns) (l:=l) (by simpa using h) fun z=>hf (List.mem_cons_of_mem _ z)
  rw [d9,if_neg (fun z=>hf (by rw [z];exact .head _)),ih]
  rfl
section
variable {ch c1:CH} {δ:Sl} {fa fe:Fg} {i:Nat}
def iH {f:Str} {v:CV} {ns ns':List Str} {l l':List CV} (he:fe δ ch=some (v,c1)) (ha:δ[0]?=some (some (.ref i))) (ho:c1[i]?=some (.ins "Store" ns l)) (hn:ns.length<1000) (hl:ns.length=l.length) (hf:f∉ns) (e1:ns++[f]=ns') (e2:l++[v]=l'):fj "Store" f (eV 0) fe δ ch=some (.nx δ (c1.set i (.ins "Store" ns' l'))):=by
 rw [jW he (aN ha) ho hn,lv hl hf,<- e1,<- e2]
def nX {src:List (Option Nat)} {fi:De->Option (List Dt)} {E:Fg} {ds:List Dt} {rs:List CV} (h1:fi (lo δ ch)=some ds) (h2:dr [0] (aq 0) bc E (gC src δ) ds ch=some (rs,c1)) (h3:rs.length<=1000):eh src fi [0] (aq 0) bc E δ ch=some (.ref c1.length,c1++[.lst rs]):=by
 unfold eh
 rw [h1,Option.bind_some,h2,Option.bind_some,if_pos (Nat.le_trans h3 (by decide))]
def nY {rs:List CV} {ps:List (Key×CV)} (h1:fa δ ch=some (.ref i,c1)) (h2:c1[i]?=some (.lst rs)) (h3:fM c1 rs=some ps) (h4:(ps.map (·.1)).Nodup):ie fa δ ch=some (.ref c1.length,c1++[.dK ps]):=by
 unfold ie
 rw [h1]
 simp only [Option.bind_some,h2,h3,if_pos h4]
end
def hmC (cl:List Hd):Hm:=cl.map fun h=>(h.1,[h.2.1])
def hmS (sh:List Hd):Hm:=sh.map fun h=>(h.1,List.replicate h.2.1.toNat 0)
def hm0 (cl sh:List Hd):Hm:=hmC cl++hmS sh
def b0D (bs:List Str):List (Str×Int):=bs.map fun x=>(x,0)
section
variable {ch c1:CH} {δ:Sl} {R:List (Nat×CO)} {cl sh:List Hd} {rw:Dt} {bs:List Str}
def uH (h2:δ[2]?=some (some (.dat (.tup (bs.map .str))))) (hb:bs.length<=10):eN (ce [none] (fIt (vB 2)) (aq 0) bc y22) δ ch=some (.ref ch.length,ch++[bl (b0D bs)]):=by
 have hc:dl (aq 0) bc y22 [none] (bs.map Dt.str)=some ((bs.map Dt.str).map fun d=>match d with | .str x=>bd (x,0) | d=>d):=dc fun d hd=>by
  obtain ⟨x,_,rfl⟩:=List.mem_map.mp hd
  exact ⟨_,rfl,rfl,rfl⟩
 have hv:ce [none] (fIt (vB 2)) (aq 0) bc y22 (lo δ ch)=some (.lst ((b0D bs).map bd)):=by
  rw [qf,show fIt (vB 2) (lo δ ch)=some (bs.map .str) by unfold fIt;rw [dw h2];rfl,Option.bind_some,show dC [none] (lo δ ch)=[none] from rfl,hc,Option.bind_some,jH (by simp;omega)]
  congr 2
  unfold b0D
  rw [List.map_map,List.map_map]
  rfl
 unfold eN
 rw [hv,rA]
 rfl
def lw {fs:Fgs} {xs:List CV} (h1:fs δ ch=some (xs,c1)) (h7:xs.length<=1000):eL fs δ ch=some (.ref c1.length,c1++[.lst xs]):=by
 unfold eL
 rw [h1,Option.bind_some,if_pos (Nat.le_trans h7 (by decide))]
def xm {c:CH} {ps:List Nat} {a:Hm} (h:∀ p∈ps,c.length<=p):∀ x∈hl ps a,c.length<=x.1:=fun x hx=>by
 unfold hl at hx
 obtain ⟨⟨u,w⟩,hw,rfl⟩:=List.mem_map.mp hx
 exact h u (List.of_mem_zip hw).1
def wA (h:Hv ch R) (nd:((hm0 cl sh).map (·.1)).Nodup) (hsz:∀ h∈sh,0<=h.2.1/\h.2.1<=8) (hcl:cl.length<=8) (hsh:sh.length<=8) (hb:bs.length<=10) :
  ∃ ch' ph pd pb pb0 pb1 pt pt0 pt1 ps,y20 [.ref ch.length,.dat (bm cl sh rw),.dat (.tup (bs.map .str))] (ch++[.ins "Store" [] []])=some (.dat .non,ch')/\ps.length=(hm0 cl sh).length∧
   Hv ch' ([(ch.length,.ins "Store" fns [.ref ph,.ref pd,.ref pb,.ref pt,.dat (.int 0),.dat .non]),(ph,.dK (dP ((hm0 cl sh).map (·.1)) ps)),(pd,.lst [.dat (hd [0,0,0,0]),.dat (hd [0,0,0,0])]),(pb,.lst [.ref pb0,.ref pb1]),(pb0,bl (b0D bs)),(pb1,bl []),(pt,.lst [.ref pt0,.ref pt1]),(pt0,tl []),(pt1,tl [])]++(hl ps (hm0 cl sh)++R)):=by
 have hδ1:([some (CV.ref ch.length),some (.dat (bm cl sh rw)),some (.dat (.tup (bs.map .str)))]:Sl)[1]?=some (some (.dat (bm cl sh rw))):=rfl
 have H0:Hv (ch++[.ins "Store" [] []]) ((ch.length,.ins "Store" [] [])::R):=(h.app _).add (h.fresh (nL _)) aR
 generalize hs:ch.length=s at H0 hδ1 ⊢
 generalize ch++[CO.ins "Store" [] []]=c0 at H0 ⊢
 -- the cells
 obtain ⟨g1,rs1,ps1,e1,p1,l1,r1,v1,b1⟩:=g8 (nm:=fun h:Hd=>h.1) (vf:=fun h=>[h.2.1]) cl (fun a _ c=>yL a c) c0
 have H1:=v1.join (xm b1) H0
 have nd1:(cl.map fun h=>h.1).Nodup:=by
  have:=(List.nodup_append.mp (by rw [hm0,List.map_append] at nd;exact nd)).1
  unfold hmC at this
  rw [List.map_map] at this
  exact this
 have nd2:(sh.map fun h=>h.1).Nodup:=by
  have:=(List.nodup_append.mp (by rw [hm0,List.map_append] at nd;exact nd)).2.1
  unfold hmS at this
  rw [List.map_map] at this
  exact this
 have f1:ie (eh [none] (fIt (toD (d2 bi (vB 1) (kD (.int 0))))) [0] (aq 0) bc y26) [some (.ref s),some (.dat (bm cl sh rw)),some (.dat (.tup (bs.map .str)))] c0=some (.ref (c0++g1++[CO.lst rs1]).length,c0++g1++[CO.lst rs1]++[CO.dK (dP (cl.map fun h=>h.1) ps1)]):=
  nY (nX (src:=[none]) (fi:=fIt (toD (d2 bi (vB 1) (kD (.int 0))))) (ds:=cl.map hdD) (by unfold fIt toD d2;rw [dw hδ1];rfl) e1 (by omega)) aR (p1 _) (uG (by simp [l1]) nd1)
 have HA:=((H1.app [.lst rs1]).app [.dK (dP (cl.map fun h=>h.1) ps1)]).add (((H1.app [.lst rs1])).fresh (nL _)) aR
 generalize (c0++g1++[CO.lst rs1]).length=D at f1 HA
 generalize c0++g1++[CO.lst rs1]++[CO.dK (dP (cl.map fun h=>h.1) ps1)]=cA at f1 HA
 have HA':Hv cA ((s,.ins "Store" [] [])::(D,.dK (dP (cl.map fun h=>h.1) ps1))::(hl ps1 (hmC cl)++R)):=HA.perm ((List.Perm.cons _ List.perm_middle).trans (List.Perm.swap _ _ _))
 have HB:=HA'.set 0 rfl (.ins "Store" ["home"] [.ref D])
 have x1:=iH (δ:=[some (.ref s),some (.dat (bm cl sh rw)),some (.dat (.tup (bs.map .str)))]) (f:="home") (i:=s) (ns':=["home"]) (l':=[.ref D]) f1 rfl (HA'.at 0 rfl) (by decide) rfl (by decide +kernel) rfl rfl
 generalize cA.set s (CO.ins "Store" ["home"] [.ref D])=cB at HB x1
 -- the shelves
 obtain ⟨g2,rs2,ps2,e2,p2,l2,r2,v2,b2⟩:=g8 (nm:=fun h:Hd=>h.1) (vf:=fun h=>List.replicate h.2.1.toNat 0) sh (fun a ha c=>wz (m:=a.2.1.toNat) (by have:=hsz a ha;omega) (by have:=hsz a ha;omega) c) cB
 have H2:=v2.join (xm b2) HB
 have f2:ie (eh [none] (fIt (toD (d2 bi (vB 1) (kD (.int 1))))) [0] (aq 0) bc z22) [some (.ref s),some (.dat (bm cl sh rw)),some (.dat (.tup (bs.map .str)))] cB=some (.ref (cB++g2++[CO.lst rs2]).length,cB++g2++[CO.lst rs2]++[CO.dK (dP (sh.map fun h=>h.1) ps2)]):=
  nY (nX (src:=[none]) (fi:=fIt (toD (d2 bi (vB 1) (kD (.int 1))))) (ds:=sh.map hdD) (by unfold fIt toD d2;rw [dw hδ1];rfl) e2 (by omega)) aR (p2 _) (uG (by simp [l2]) nd2)
 have H2a:=(H2.app [.lst rs2]).app [.dK (dP (sh.map fun h=>h.1) ps2)]
 have H2b:Hv (cB++g2++[.lst rs2]++[.dK (dP (sh.map fun h=>h.1) ps2)]) ((s,.ins "Store" ["home"] [.ref D])::(D,.dK (dP (cl.map fun h=>h.1) ps1))::(hl ps1 (hmC cl)++(hl ps2 (hmS sh)++R))):=by
  refine H2a.perm ?_
  show (hl ps2 (hmS sh)++((s,.ins "Store" ["home"] [.ref D])::(D,.dK (dP (cl.map fun h=>h.1) ps1))::(hl ps1 (hmC cl)++R))).Perm _
  refine List.perm_middle.trans (List.Perm.cons _ (List.perm_middle.trans (List.Perm.cons _ ?_)))
  rw [<- List.append_assoc,<- List.append_assoc]
  exact List.Perm.append_right R List.perm_append_comm
 have gD2:(cB++g2++[CO.lst rs2]++[CO.dK (dP (sh.map fun h=>h.1) ps2)])[(cB++g2++[CO.lst rs2]).length]?=some (.dK (dP (sh.map fun h=>h.1) ps2)):=aR
 have nD2:(cB++g2++[CO.lst rs2]).length≠D:=fun e=>by
  have:=(H2.app [.lst rs2]).lt (x:=(D,.dK (dP (cl.map fun h=>h.1) ps1))) (List.mem_append_right _ (by simp))
  omega
 generalize (cB++g2++[CO.lst rs2]).length=D2 at f2 gD2 nD2
 generalize cB++g2++[CO.lst rs2]++[CO.dK (dP (sh.map fun h=>h.1) ps2)]=cC at f2 H2b gD2
 have ndk:((dP (cl.map fun h=>h.1) ps1++dP (sh.map fun h=>h.1) ps2).map (·.1)).Nodup:=by
  rw [<- uF (by simp [l1])]
  refine uG (by simp [l1,l2]) ?_
  have:(cl.map fun h=>h.1)++(sh.map fun h=>h.1)=(hm0 cl sh).map (·.1):=by
   unfold hm0 hmC hmS
   rw [List.map_append,List.map_map,List.map_map]
   rfl
  rw [this]
  exact nd
 have x2:nI (eF "Store" "home" (eV 0)) (ie (eh [none] (fIt (toD (d2 bi (vB 1) (kD (.int 1))))) [0] (aq 0) bc z22)) [some (.ref s),some (.dat (bm cl sh rw)),some (.dat (.tup (bs.map .str)))] cB=some (.nx [some (.ref s),some (.dat (bm cl sh rw)),some (.dat (.tup (bs.map .str)))] (cC.set D (.dK (dP (cl.map fun h=>h.1) ps1++dP (sh.map fun h=>h.1) ps2)))):=by
  unfold nI
  rw [cV (x:=.ref D) (aN rfl) (HB.at 0 rfl) rfl,Option.bind_some]
  dsimp only
  rw [f2,Option.bind_some]
  simp only [if_neg (Ne.symm nD2),HB.at 1 rfl,H2b.at 1 rfl,gD2]
  have sz:1000<=sizeLine:=by decide
  rw [if_pos ⟨ndk,by
   have k1:=congrArg List.length (jn (ns:=cl.map fun h=>h.1) (ps:=ps1) (by simp [l1]))
   have k2:=congrArg List.length (jn (ns:=sh.map fun h=>h.1) (ps:=ps2) (by simp [l2]))
   simp only [List.length_map] at k1 k2
   omega⟩]
 have H3:=H2b.set 1 rfl (.dK (dP (cl.map fun h=>h.1) ps1++dP (sh.map fun h=>h.1) ps2))
 rw [<- uF (by simp [l1])] at x2 H3
 generalize cC.set D (.dK (dP ((cl.map fun h=>h.1)++(sh.map fun h=>h.1)) (ps1++ps2)))=cD at x2 H3
 have H3':Hv cD ([(s,.ins "Store" ["home"] [.ref D]),(D,.dK (dP ((hm0 cl sh).map (·.1)) (ps1++ps2)))]++(hl (ps1++ps2) (hm0 cl sh)++R)):=by
  have e1:(cl.map fun h=>h.1)++(sh.map fun h=>h.1)=(hm0 cl sh).map (·.1):=by
   unfold hm0 hmC hmS
   rw [List.map_append,List.map_map,List.map_map]
   rfl
  rw [e1] at H3
  have e2:hl (ps1++ps2) (hm0 cl sh)=hl ps1 (hmC cl)++hl ps2 (hmS sh):=yM (by simp [l1,hmC])
  rw [e2,List.append_assoc]
  exact H3
 have hps:(ps1++ps2).length=(hm0 cl sh).length:=by simp [hm0,hmC,hmS,l1,l2]
 clear H3 H2b H2a H2 HB HA' HA H1 H0 v1 v2 e1 e2 p1 p2 f1 f2 ndk gD2 nd1 nd2 b1 b2
 generalize ps1++ps2=ps at x2 H3' hps
 -- heads
 have f3:eN (bg (ab (toD (bL (ab (kD (.int 0)) (ab (kD (.int 0)) (ab (kD (.int 0)) (ab (kD (.int 0)) am)))))) (ab (toD (bL (ab (kD (.int 0)) (ab (kD (.int 0)) (ab (kD (.int 0)) (ab (kD (.int 0)) am)))))) am))) [some (.ref s),some (.dat (bm cl sh rw)),some (.dat (.tup (bs.map .str)))] cD=some (.ref cD.length,cD++[.lst [.dat (hd [0,0,0,0]),.dat (hd [0,0,0,0])]]):=rfl
 have H4:=(H3'.app [.lst [.dat (hd [0,0,0,0]),.dat (hd [0,0,0,0])]]).add (H3'.fresh (nL _)) aR
 generalize cD.length=d at f3 H4
 generalize cD++[CO.lst [.dat (hd [0,0,0,0]),.dat (hd [0,0,0,0])]]=cE at f3 H4
 have x3:=iH (δ:=[some (.ref s),some (.dat (bm cl sh rw)),some (.dat (.tup (bs.map .str)))]) (f:="heads") (i:=s) (ns':=["home","heads"]) (l':=[.ref D,.ref d]) f3 rfl (H4.at 1 rfl) (by decide) rfl (by decide +kernel) rfl rfl
 have H4':=H4.set 1 rfl (.ins "Store" ["home","heads"] [.ref D,.ref d])
 generalize cE.set s (CO.ins "Store" ["home","heads"] [.ref D,.ref d])=cF at x3 H4'
 -- page_boxes
 have f4:eL (ah (eN (ce [none] (fIt (vB 2)) (aq 0) bc y22)) (ah (eN (bg am)) aD)) [some (.ref s),some (.dat (bm cl sh rw)),some (.dat (.tup (bs.map .str)))] cF=some (.ref (cF++[bl (b0D bs)]++[CO.lst []]).length,cF++[bl (b0D bs)]++[CO.lst []]++[CO.lst [.ref cF.length,.ref (cF++[bl (b0D bs)]).length]]):=lw (au (uH rfl hb) (au rfl rfl)) (by simp)
 have H5:=(((H4'.app [bl (b0D bs)]).add (H4'.fresh (nL _)) aR).app [CO.lst []]).add (((H4'.app [bl (b0D bs)]).add (H4'.fresh (nL _)) aR).fresh (nL _)) aR
 have H6:=(H5.app [CO.lst [.ref cF.length,.ref (cF++[bl (b0D bs)]).length]]).add (H5.fresh (nL _)) aR
 generalize (cF++[bl (b0D bs)]++[CO.lst []]).length=b at f4 H6
 generalize (cF++[bl (b0D bs)]).length=b1 at f4 H6
 generalize cF.length=b0 at f4 H6
 generalize cF++[bl (b0D bs)]++[CO.lst []]++[CO.lst [.ref b0,.ref b1]]=cG at f4 H6
 have x4:=iH (δ:=[some (.ref s),some (.dat (bm cl sh rw)),some (.dat (.tup (bs.map .str)))]) (f:="page_boxes") (i:=s) (ns':=["home","heads","page_boxes"]) (l':=[.ref D,.ref d,.ref b]) f4 rfl (H6.at 4 rfl) (by decide) rfl (by decide +kernel) rfl rfl
 have H6':=H6.set 4 rfl (.ins "Store" ["home","heads","page_boxes"] [.ref D,.ref d,.ref b])
 generalize cG.set s (CO.ins "Store" ["home","heads","page_boxes"] [.ref D,.ref d,.ref b])=cI at x4 H6'
 -- page_turns
 have f5:eL (ah (eN (bg am)) (ah (eN (bg am)) aD)) [some (.ref s),some (.dat (bm cl sh rw)),some (.dat (.tup (bs.map .str)))] cI=some (.ref (cI++[CO.lst []]++[CO.lst []]).length,cI++[CO.lst []]++[CO.lst []]++[CO.lst [.ref cI.length,.ref (cI++[CO.lst []]).length]]):=lw (au rfl (au rfl rfl)) (by simp)
 have H7:=(((H6'.app [CO.lst []]).add (H6'.fresh (nL _)) aR).app [CO.lst []]).add (((H6'.app [CO.lst []]).add (H6'.fresh (nL _)) aR).fresh (nL _)) aR
 have H8:=(H7.app [CO.lst [.ref cI.length,.ref (cI++[CO.lst []]).length]]).add (H7.fresh (nL _)) aR
 generalize (cI++[CO.lst []]++[CO.lst []]).length=t at f5 H8
 generalize (cI++[CO.lst []]).length=t1 at f5 H8
 generalize cI.length=t0 at f5 H8
 generalize cI++[CO.lst []]++[CO.lst []]++[CO.lst [.ref t0,.ref t1]]=cJ at f5 H8
 have x5:=iH (δ:=[some (.ref s),some (.dat (bm cl sh rw)),some (.dat (.tup (bs.map .str)))]) (f:="page_turns") (i:=s) (ns':=["home","heads","page_boxes","page_turns"]) (l':=[.ref D,.ref d,.ref b,.ref t]) f5 rfl (H8.at 7 rfl) (by decide) rfl (by decide +kernel) rfl rfl
 have H8':=H8.set 7 rfl (.ins "Store" ["home","heads","page_boxes","page_turns"] [.ref D,.ref d,.ref b,.ref t])
 generalize cJ.set s (CO.ins "Store" ["home","heads","page_boxes","page_turns"] [.ref D,.ref d,.ref b,.ref t])=cK at x5 H8'
 -- counting,result
 have x6:=iH (δ:=[some (.ref s),some (.dat (bm cl sh rw)),some (.dat (.tup (bs.map .str)))]) (fe:=eN (toT (kD (.int 0)))) (ch:=cK) (c1:=cK) (v:=.dat (.int 0)) (f:="counting") (i:=s) (ns':=["home","heads","page_boxes","page_turns","counting"]) (l':=[.ref D,.ref d,.ref b,.ref t,.dat (.int 0)]) rfl rfl (H8'.at 7 rfl) (by decide) rfl (by decide +kernel) rfl rfl
 have H9:=H8'.set 7 rfl (.ins "Store" ["home","heads","page_boxes","page_turns","counting"] [.ref D,.ref d,.ref b,.ref t,.dat (.int 0)])
 generalize cK.set s (CO.ins "Store" ["home","heads","page_boxes","page_turns","counting"] [.ref D,.ref d,.ref b,.ref t,.dat (.int 0)])=cL at x6 H9
 have x7:=iH (δ:=[some (.ref s),some (.dat (bm cl sh rw)),some (.dat (.tup (bs.map .str)))]) (fe:=eN (toT (kD .non))) (ch:=cL) (c1:=cL) (v:=.dat .non) (f:="result") (i:=s) (ns':=fns) (l':=[.ref D,.ref d,.ref b,.ref t,.dat (.int 0),.dat .non]) rfl rfl (H9.at 7 rfl) (by decide) rfl (by decide +kernel) rfl rfl
 have H10:=H9.set 7 rfl (.ins "Store" fns [.ref D,.ref d,.ref b,.ref t,.dat (.int 0),.dat .non])
 generalize cL.set s (CO.ins "Store" fns [.ref D,.ref d,.ref b,.ref t,.dat (.int 0),.dat .non])=cM at x7 H10
 have HF:=Hv.pick (l:=[(t,CO.lst [.ref t0,.ref t1]),(t1,.lst []),(t0,.lst []),(b,.lst [.ref b0,.ref b1]),(b1,.lst []),(b0,bl (b0D bs)),(d,.lst [.dat (hd [0,0,0,0]),.dat (hd [0,0,0,0])]),(s,.ins "Store" fns [.ref D,.ref d,.ref b,.ref t,.dat (.int 0),.dat .non]),(D,.dK (dP ((hm0 cl sh).map (·.1)) ps))]) (X:=hl ps (hm0 cl sh)++R) H10 [7,8,6,3,5,4,0,2,1] (show [7,8,6,3,5,4,0,2,1].Perm (List.range 9) by decide)
 refine ⟨cM,D,d,b,b0,b1,t,t0,t1,ps,?_,hps,HF⟩
 unfold y20
 rw [bV]
 walk_at "m"
 rw [aC,x1,ax,aC,x2,ax,aC,x3,ax,aC,x4,ax,aC,x5,ax,aC,x6,ax,x7]
 rfl
end
def Hv.new {ch:CH} {l:List (Nat×CO)} (h:Hv ch l) (o:CO):Hv (ch++[o]) ((ch.length,o)::l):=(h.app _).add (h.fresh (nL _)) aR
def lx {i j k:Nat} {g:Fs} {δ δ2:Sl} {ch ch2:CH} {a b c:Dt} {r:List Dt} (hij:i≠j) (hik:i≠k) (hjk:j≠k) (hi:i<δ.length) (hj:j<δ.length) (hk:k<δ.length) (e:g (((δ.set i (some (.dat a))).set j (some (.dat b))).set k (some (.dat c))) ch=some (.nx δ2 ch2)) :
  fK [i,j,k] (da 3 (aJ (aq i) (aJ (aq j) (aJ (aq k) cZ)))) g (.tup [a,b,c]::r) δ ch=fK [i,j,k] (da 3 (aJ (aq i) (aJ (aq j) (aJ (aq k) cZ)))) g r δ2 ch2:=by
 show ((da 3 (aJ (aq i) (aJ (aq j) (aJ (aq k) cZ))) (.tup [a,b,c]) (lo δ ch)).bind fun δ1=>(g (mgS [i,j,k] δ δ1) ch).bind fun o=>_)=_
 rw [show da 3 (aJ (aq i) (aJ (aq j) (aJ (aq k) cZ))) (.tup [a,b,c]) (lo δ ch)=some ((((lo δ ch).set i (some (.leaf a))).set j (some (.leaf b))).set k (some (.leaf c))) from rfl,Option.bind_some,mgS3 hij hik hjk hi hj hk,e]
 rfl
def gB:∀ (a b:Hm),dTm (a++b)=dTm a++dTm b
 | [],b=>rfl
 | s::a,b=>by rw [List.cons_append,dTm,dTm,gB a b,List.append_assoc]
def gq (x:Str):∀ (vs:List Int) (k:Nat),(df x k vs).length=vs.length
 | [],_=>rfl
 | v::vs,k=>by rw [df,List.length_cons,List.length_cons,gq x vs (k+1)]
def ly (x:Str) (v:Int):∀ (vs:List Int) (k:Nat),df x k (vs++[v])=df x k vs++[([.inr x,.inl ((k+vs.length:Nat):Int)],.dat (.int v))]
 | [],_=>rfl
 | u::vs,k=>by
  rw [List.cons_append,df,ly x v vs (k+1),df,List.cons_append,List.length_cons,show k+1+vs.length=k+(vs.length+1) by omega]
def iq (x:Str) (vs:List Int):dTm [(x,vs)]=df x 0 vs:=by rw [dTm,dTm,List.append_nil]
def nZ (hm:Hm) (x:Str) (v:Int) (vs:List Int):dTm (hm++[(x,vs++[v])])=dTm (hm++[(x,vs)])++[([.inr x,.inl (vs.length:Int)],.dat (.int v))]:=by
 rw [gB,gB,iq,iq,ly,List.append_assoc,Nat.zero_add]
def qF (hm:Hm) (x:Str):dTm (hm++[(x,[])])=dTm hm:=by
 rw [gB,iq,df,List.append_nil]
def n0 {κ:Type} [DecidableEq κ] {k:κ} {c:CV}:∀ {l:List (κ×CV)},k∉l.map (·.1)->dY l k c=l++[(k,c)]
 | [],_=>rfl
 | p::l,h=>by
  rw [dY,if_neg (fun z=>h (by rw [<- z];simp)),n0 (l:=l) (fun z=>h (by rw [List.map_cons];exact List.mem_cons_of_mem _ z))]
  rfl
def n3 {hm:Hm} {x:Str} {k:Nat} (nd:(hm.map (·.1)).Nodup) (h:∀ vs,lkS hm x=some vs->vs.length<=k):([.inr x,.inl (k:Int)]:List Key)∉(dTm hm).map (·.1):=fun z=>by
 obtain ⟨y,hy,e⟩:=List.mem_map.mp z
 obtain ⟨n,vs,j,v,rfl,h2,h3,_⟩:=fO nd hy
 have e1:n=x:=Sum.inr.inj (List.cons.inj e).1
 have e2:(j:Int)=k:=Sum.inl.inj (List.cons.inj (List.cons.inj e).2).1
 subst e1
 have:=h vs h2
 have h4:=(gX h3).1
 omega
def n4 {α:Type} {x:Str}:∀ {hm:List (Str×α)},x∉hm.map (·.1)->lkS hm x=none
 | [],_=>rfl
 | s::hm,h=>by
  rw [lkS,if_neg (fun z=>h (by rw [<- z];simp)),n4 fun z=>h (by rw [List.map_cons];exact List.mem_cons_of_mem _ z)]
def n5 {α:Type} {x:Str} {v:α}:∀ {hm:List (Str×α)},x∉hm.map (·.1)->lkS (hm++[(x,v)]) x=some v
 | [],_=>by rw [List.nil_append,lkS,if_pos rfl]
 | s::hm,h=>by
  rw [List.cons_append,lkS,if_neg (fun z=>h (by rw [<- z];simp)),n5 fun z=>h (by rw [List.map_cons];exact List.mem_cons_of_mem _ z)]
def yN {hm:Hm} {x:Str} {vs:List Int} (nd:(hm.map (·.1)).Nodup) (hx:x∉hm.map (·.1)):((hm++[(x,vs)]).map (·.1)).Nodup:=by
 rw [List.map_append]
 refine List.nodup_append.mpr ⟨nd,by simp,fun a ha b hb e=>?_⟩
 have e2:b=x:=List.mem_singleton.mp hb
 subst e2
 subst e
 exact hx ha
section
variable {ch c1:CH} {δ:Sl} {R:List (Nat×CO)} {cl sh:List Hd} {rw:Dt} {bs:List Str} {hm:Hm} {q:Nat} {x:Str} {pr bd':Dt}
def qG {fx fe:Fg} {l:List (List Key×CV)} {k v:Int} (hq:δ[2]?=some (some (.ref q))) (h3:δ[3]?=some (some (.dat (.str x)))) (hx:fx δ ch=some (.dat (.int k),ch)) (he:fe δ ch=some (.dat (.int v),ch)) (ho:ch[q]?=some (.dT l)) (hl:l.length<1000) (nd:(l.map (·.1)).Nodup) (hn:([.inr x,.inl k]:List Key)∉l.map (·.1)) :
  eX (eV 2) (ah (eD (vL 3)) (ah fx aD)) fe δ ch=some (.nx δ (ch.set q (.dT (l++[([.inr x,.inl k],.dat (.int v))])))):=by
 unfold eX
 rw [he,Option.bind_some]
 dsimp only
 rw [aN hq,Option.bind_some]
 dsimp only
 rw [au (aF (aK h3)) (au hx rfl),Option.bind_some]
 have sz:1000<=sizeLine:=by decide
 simp only [ho]
 rw [if_pos ⟨by simp only [List.length_cons,List.length_nil];omega,by omega,nd⟩,<- n0 hn]
 rfl
def yO (cl:List Hd):∀ {hm:Hm} {δ:Sl} {ch:CH},((hm++hmC cl).map (·.1)).Nodup->(dTm hm).length+cl.length<=900->Sl3 (.dat pr) (.dat bd') (.ref q) 9 δ->Hv ch ((q,.dT (dTm hm))::R)→
  ∃ δ2 ch2,fK [3,4,5] (da 3 (aJ (aq 3) (aJ (aq 4) (aJ (aq 5) cZ)))) q38 (cl.map hdD) δ ch=some (.nx δ2 ch2)/\Sl3 (.dat pr) (.dat bd') (.ref q) 9 δ2/\Hv ch2 ((q,.dT (dTm (hm++hmC cl)))::R):=by
 induction cl with
 | nil =>
  intro hm δ ch nd hl hδ h
  exact ⟨δ,ch,rfl,hδ,by unfold hmC;rw [List.map_nil,List.append_nil];exact h⟩
 | cons a cl ih =>
  intro hm δ ch nd hl hδ h
  have e0:hm++hmC (a::cl)=(hm++[(a.1,[a.2.1])])++hmC cl:=by unfold hmC;simp
  rw [e0] at nd ⊢
  have nd1:((hm++[(a.1,[a.2.1])]).map (·.1)).Nodup:=by
   rw [List.map_append] at nd
   exact (List.nodup_append.mp nd).1
  have nd0:(hm.map (·.1)).Nodup:=by
   rw [List.map_append] at nd1
   exact (List.nodup_append.mp nd1).1
  have hx:a.1∉hm.map (·.1):=fun z=>by
   rw [List.map_append] at nd1
   exact (List.nodup_append.mp nd1).2.2 _ z a.1 (by simp) rfl
  have q':=((hδ.set (x:=.dat (.str a.1)) (i:=3) (by decide)).set (x:=.dat (.int a.2.1)) (i:=4) (by decide)).set (x:=.dat (.bl a.2.2)) (i:=5) (by decide)
  have s3:(((δ.set 3 (some (.dat (.str a.1)))).set 4 (some (.dat (.int a.2.1)))).set 5 (some (.dat (.bl a.2.2))))[3]?=some (some (.dat (.str a.1))):=in3 (by rw [hδ.len];decide) (by decide) (by decide)
  have s4:(((δ.set 3 (some (.dat (.str a.1)))).set 4 (some (.dat (.int a.2.1)))).set 5 (some (.dat (.bl a.2.2))))[4]?=some (some (.dat (.int a.2.1))):=by
   rw [gN (by decide),List.getElem?_set_self (by rw [List.length_set,hδ.len];decide)]
  have step:=qG (fx:=eD (kD (.int 0))) (fe:=eD (vL 4)) (k:=((0:Nat):Int)) (v:=a.2.1) q'.s2 s3 rfl (aF (aK s4)) (h.at 0 rfl) (by simp only [List.length_cons] at hl;omega) (my nd0) (n3 nd0 fun vs z=>by rw [n4 hx] at z;cases z)
  have ed:dTm hm++[([.inr a.1,.inl ((0:Nat):Int)],CV.dat (.int a.2.1))]=dTm (hm++[(a.1,[a.2.1])]):=by
   have:=nZ hm a.1 a.2.1 []
   rw [qF] at this
   exact this.symm
  rw [ed] at step
  have H:=h.set 0 rfl (.dT (dTm (hm++[(a.1,[a.2.1])])))
  obtain ⟨δ2,ch2,e,h1,h2⟩:=ih nd (by rw [<- ed,List.length_append];simp only [List.length_cons,List.length_nil] at hl ⊢;omega) q' H
  refine ⟨δ2,ch2,?_,h1,h2⟩
  rw [List.map_cons,<- e]
  exact lx (by decide) (by decide) (by decide) (by rw [hδ.len];decide) (by rw [hδ.len];decide) (by rw [hδ.len];decide) step
def wC (hx:x∉hm.map (·.1)) (nd0:(hm.map (·.1)).Nodup) (n:Nat):∀ {j:Nat} {δ:Sl} {ch:CH},(dTm hm).length+(j+n)<=900->Sl3 (.dat pr) (.dat bd') (.ref q) 9 δ->δ[3]?=some (some (.dat (.str x)))->Hv ch ((q,.dT (dTm (hm++[(x,List.replicate j 0)])))::R)→
  ∃ δ2 ch2,fK [7] (aq 7) z46 ((List.range' j n).map fun i:Nat=>.int (i:Int)) δ ch=some (.nx δ2 ch2)/\Sl3 (.dat pr) (.dat bd') (.ref q) 9 δ2/\Hv ch2 ((q,.dT (dTm (hm++[(x,List.replicate (j+n) 0)])))::R):=by
 induction n with
 | zero =>
  intro j δ ch hl hδ h3 h
  exact ⟨δ,ch,rfl,hδ,h⟩
 | succ n ih =>
  intro j δ ch hl hδ h3 h
  have nd:=yN (vs:=List.replicate j 0) nd0 hx
  have q':=hδ.set (x:=.dat (.int (j:Int))) (i:=7) (by decide)
  have s3:(δ.set 7 (some (.dat (.int (j:Int)))))[3]?=some (some (.dat (.str x))):=by rw [gN (by decide)];exact h3
  have s7:(δ.set 7 (some (.dat (.int (j:Int)))))[7]?=some (some (.dat (.int (j:Int)))):=List.getElem?_set_self (by rw [hδ.len];decide)
  have hlen:(dTm (hm++[(x,List.replicate j 0)])).length=(dTm hm).length+j:=by rw [gB,iq,List.length_append,gq,List.length_replicate]
  have step:=qG (fx:=eD (vL 7)) (fe:=eD (kD (.int 0))) (k:=(j:Int)) (v:=0) q'.s2 s3 (aF (aK s7)) rfl (h.at 0 rfl) (by omega) (my nd) (n3 nd fun vs z=>by
   rw [n5 hx] at z
   cases z
   rw [List.length_replicate]
   exact nL _)
  have ed:dTm (hm++[(x,List.replicate j 0)])++[([.inr x,.inl (j:Int)],CV.dat (.int 0))]=dTm (hm++[(x,List.replicate (j+1) 0)]):=by
   have:=nZ hm x 0 (List.replicate j 0)
   rw [List.length_replicate] at this
   rw [<- this,List.replicate_succ']
  rw [ed] at step
  have H:=h.set 0 rfl (.dT (dTm (hm++[(x,List.replicate (j+1) 0)])))
  obtain ⟨δ2,ch2,e,h1,h2⟩:=ih (j:=j+1) (by omega) q' s3 H
  refine ⟨δ2,ch2,?_,h1,by rw [show j+(n+1)=j+1+n by omega];exact h2⟩
  rw [List.range'_succ,List.map_cons,<- e]
  exact il (by rw [hδ.len];decide) step
def ir (m:Nat):bn 0 m=(List.range' 0 m).map fun i:Nat=>.int (i:Int):=by
 unfold bn
 rw [List.range_eq_range']
 exact List.map_congr_left fun i _=>by rw [Int.zero_add]
def uI (sh:List Hd):∀ {hm:Hm} {δ:Sl} {ch:CH},(∀ h∈sh,0<=h.2.1/\h.2.1<=8)->((hm++hmS sh).map (·.1)).Nodup->(dTm hm).length+8*sh.length<=900->Sl3 (.dat pr) (.dat bd') (.ref q) 9 δ->Hv ch ((q,.dT (dTm hm))::R)→
  ∃ δ2 ch2,fK [3,6,5] (da 3 (aJ (aq 3) (aJ (aq 6) (aJ (aq 5) cZ)))) q30 (sh.map hdD) δ ch=some (.nx δ2 ch2)/\Sl3 (.dat pr) (.dat bd') (.ref q) 9 δ2/\Hv ch2 ((q,.dT (dTm (hm++hmS sh)))::R):=by
 induction sh with
 | nil =>
  intro hm δ ch hs nd hl hδ h
  exact ⟨δ,ch,rfl,hδ,by unfold hmS;rw [List.map_nil,List.append_nil];exact h⟩
 | cons a sh ih =>
  intro hm δ ch hs nd hl hδ h
  have e0:hm++hmS (a::sh)=(hm++[(a.1,List.replicate a.2.1.toNat 0)])++hmS sh:=by unfold hmS;simp
  rw [e0] at nd ⊢
  have ha:=hs a (by simp)
  have nd1:((hm++[(a.1,List.replicate a.2.1.toNat 0)]:Hm).map (·.1)).Nodup:=by
   rw [List.map_append] at nd
   exact (List.nodup_append.mp nd).1
  have nd0:(hm.map (·.1)).Nodup:=by
   rw [List.map_append] at nd1
   exact (List.nodup_append.mp nd1).1
  have hx:a.1∉hm.map (·.1):=fun z=>by
   rw [List.map_append] at nd1
   exact (List.nodup_append.mp nd1).2.2 _ z a.1 (by simp) rfl
  have q':=((hδ.set (x:=.dat (.str a.1)) (i:=3) (by decide)).set (x:=.dat (.int a.2.1)) (i:=6) (by decide)).set (x:=.dat (.bl a.2.2)) (i:=5) (by decide)
  have s3:(((δ.set 3 (some (.dat (.str a.1)))).set 6 (some (.dat (.int a.2.1)))).set 5 (some (.dat (.bl a.2.2))))[3]?=some (some (.dat (.str a.1))):=in3 (by rw [hδ.len];decide) (by decide) (by decide)
  have s6:(((δ.set 3 (some (.dat (.str a.1)))).set 6 (some (.dat (.int a.2.1)))).set 5 (some (.dat (.bl a.2.2))))[6]?=some (some (.dat (.int (a.2.1.toNat:Int)))):=by
   rw [gN (by decide),List.getElem?_set_self (by rw [List.length_set,hδ.len];decide),Int.toNat_of_nonneg ha.1]
  obtain ⟨δ1,ch1,e1,g1,g2⟩:=wC (R:=R) (pr:=pr) (bd':=bd') (q:=q) hx nd0 a.2.1.toNat (j:=0) (ch:=ch) (by simp only [List.length_cons] at hl;omega) q' s3 (by rw [List.replicate_zero,qF];exact h)
  rw [Nat.zero_add] at g2
  have step:q30 (((δ.set 3 (some (.dat (.str a.1)))).set 6 (some (.dat (.int a.2.1)))).set 5 (some (.dat (.bl a.2.2)))) ch=some (.nx δ1 ch1):=by
   unfold q30 b8
   rw [ux s6 (by omega),Option.bind_some,ir]
   exact e1
  have hlen:(dTm (hm++[(a.1,List.replicate a.2.1.toNat 0)])).length=(dTm hm).length+a.2.1.toNat:=by rw [gB,iq,List.length_append,gq,List.length_replicate]
  obtain ⟨δ2,ch2,e,h1,h2⟩:=ih (fun b hb=>hs b (by simp [hb])) nd (by rw [hlen];simp only [List.length_cons] at hl;omega) g1 g2
  refine ⟨δ2,ch2,?_,h1,h2⟩
  rw [List.map_cons,<- e]
  exact lx (by decide) (by decide) (by decide) (by rw [hδ.len];decide) (by rw [hδ.len];decide) (by rw [hδ.len];decide) step
end
def qH:∀ cl:List Hd,(dTm (hmC cl)).length=cl.length
 | []=>rfl
 | a::cl=>by
  show (df a.1 0 [a.2.1]++dTm (hmC cl)).length=_
  rw [List.length_append,qH cl,gq]
  simp only [List.length_cons,List.length_nil]
  omega
section
variable {ch c1 c2:CH} {δ:Sl} {R:List (Nat×CO)} {cl sh:List Hd} {rw:Dt} {bs:List Str}
def jo {fk fv:Fg} {r:List (Fg×Fg)} {d:Dt} {k:Key} {c:CV} {l:List (Key×CV)} (h1:fk δ ch=some (.dat d,ch)) (hk:fG d=some k) (h2:fv δ ch=some (c,c1)) (h3:fN r δ c1=some (l,c2)):fN ((fk,fv)::r) δ ch=some ((k,c)::l,c2):=by
 simp only [fN,h1,hk,h2,h3,Option.bind_some,Option.map_some]
def wD {fps:List (Fg×Fg)} {l:List (Key×CV)} (h1:fN fps δ (ch++[.dK []])=some (l,c2)) (h2:c2[ch.length]?=some (.dK [])) (h3:l.length<=15) (h4:(l.map (·.1)).Nodup):nA fps δ ch=some (.ref ch.length,c2.set ch.length (.dK l)):=by
 unfold nA
 rw [h1,Option.bind_some]
 simp only [h2]
 rw [if_pos ⟨h3,h4⟩]
def mbox (h1:δ[1]?=some (some (.dat (.tup (bs.map .str))))) (hb:bs.length<=10):eN (ce [none] (fIt (vB 1)) (aq 0) bc z29) δ ch=some (.ref ch.length,ch++[bl (b0D bs)]):=by
 have hc:dl (aq 0) bc z29 [none] (bs.map Dt.str)=some ((bs.map Dt.str).map fun d=>match d with | .str x=>bd (x,0) | d=>d):=dc fun d hd=>by
  obtain ⟨x,_,rfl⟩:=List.mem_map.mp hd
  exact ⟨_,rfl,rfl,rfl⟩
 have hv:ce [none] (fIt (vB 1)) (aq 0) bc z29 (lo δ ch)=some (.lst ((b0D bs).map bd)):=by
  rw [qf,show fIt (vB 1) (lo δ ch)=some (bs.map .str) by unfold fIt;rw [dw h1];rfl,Option.bind_some,show dC [none] (lo δ ch)=[none] from rfl,hc,Option.bind_some,jH (by simp;omega)]
  congr 2
  unfold b0D
  rw [List.map_map,List.map_map]
  rfl
 unfold eN
 rw [hv,rA]
 rfl
def uJ (h:Hv ch R) (nd:((hm0 cl sh).map (·.1)).Nodup) (hsz:∀ h∈sh,0<=h.2.1/\h.2.1<=8) (hcl:cl.length<=8) (hsh:sh.length<=8) (hb:bs.length<=10) :
  ∃ ch' m mh mp m0 h0 k0 u0 m1 h1 k1 u1 mf ma,z26 [.dat (bm cl sh rw),.dat (.tup (bs.map .str))] ch=some (.ref m,ch')∧
   Hv ch' ([(m,.dK [(.inr "home",.ref mh),(.inr "pages",.ref mp),(.inr "face",.ref mf),(.inr "answer",.ref ma)]),(mh,.dT (dTm (hm0 cl sh))),(mp,.lst [.ref m0,.ref m1]),(m0,.lst [.ref h0,.ref k0,.ref u0]),(h0,li [0,0,0,0]),(k0,bl (b0D bs)),(u0,tl []),(m1,.lst [.ref h1,.ref k1,.ref u1]),(h1,li [0,0,0,0]),(k1,bl []),(u1,tl []),(mf,li [0]),(ma,.lst [.dat .non])]++R):=by
 have H0:=h.new (.dT [])
 have q0:Sl3 (.dat (bm cl sh rw)) (.dat (.tup (bs.map .str))) (.ref ch.length) 9 [some (.dat (bm cl sh rw)),some (.dat (.tup (bs.map .str))),some (.ref ch.length),none,none,none,none,none,none]:=⟨rfl,rfl,rfl,rfl⟩
 have x0:bO 2 eNT [some (.dat (bm cl sh rw)),some (.dat (.tup (bs.map .str))),none,none,none,none,none,none,none] ch=some (.nx [some (.dat (bm cl sh rw)),some (.dat (.tup (bs.map .str))),some (.ref ch.length),none,none,none,none,none,none] (ch++[.dT []])):=rfl
 generalize ch.length=q at H0 q0 x0
 generalize ch++[CO.dT []]=cA at H0 x0
 generalize ([some (.dat (bm cl sh rw)),some (.dat (.tup (bs.map .str))),some (.ref q),none,none,none,none,none,none]:Sl)=δ0 at q0 x0
 have ndC:(([]++hmC cl:Hm).map (·.1)).Nodup:=by
  unfold hm0 at nd
  rw [List.map_append] at nd
  exact (List.nodup_append.mp nd).1
 obtain ⟨δ1,cB,e1,q1,H1⟩:=yO (R:=R) cl (hm:=[]) ndC (by show 0+cl.length<=900;omega) q0 H0
 have x1:b8 (fIt (toD (d2 bi (vB 0) (kD (.int 0))))) [3,4,5] (da 3 (aJ (aq 3) (aJ (aq 4) (aJ (aq 5) cZ)))) q38 δ0 cA=some (.nx δ1 cB):=by
  unfold b8
  rw [show fIt (toD (d2 bi (vB 0) (kD (.int 0)))) (lo δ0 cA)=some (cl.map hdD) by unfold fIt toD d2;rw [dw q0.s0];rfl,Option.bind_some]
  exact e1
 have lC:=qH cl
 obtain ⟨δ2,cC,e2,q2,H2⟩:=uI (R:=R) sh (hm:=[]++hmC cl) hsz nd (by rw [List.nil_append,lC];omega) q1 H1
 have x2:b8 (fIt (toD (d2 bi (vB 0) (kD (.int 1))))) [3,6,5] (da 3 (aJ (aq 3) (aJ (aq 6) (aJ (aq 5) cZ)))) q30 δ1 cB=some (.nx δ2 cC):=by
  unfold b8
  rw [show fIt (toD (d2 bi (vB 0) (kD (.int 1)))) (lo δ1 cB)=some (sh.map hdD) by unfold fIt toD d2;rw [dw q1.s0];rfl,Option.bind_some]
  exact e2
 have H2:Hv cC ((q,.dT (dTm (hm0 cl sh)))::R):=H2
 clear e1 e2 H1 H0 lC ndC
 -- the front
 have f3:eL (ah (eN (bg (ab (kD (.int 0)) (ab (kD (.int 0)) (ab (kD (.int 0)) (ab (kD (.int 0)) am)))))) (ah (eN (ce [none] (fIt (vB 1)) (aq 0) bc z29)) (ah (eN (bg am)) aD))) δ2 cC=some (.ref (cC++[li [0,0,0,0]]++[bl (b0D bs)]++[tl []]).length,cC++[li [0,0,0,0]]++[bl (b0D bs)]++[tl []]++[CO.lst [.ref cC.length,.ref (cC++[li [0,0,0,0]]).length,.ref (cC++[li [0,0,0,0]]++[bl (b0D bs)]).length]]):=
  lw (au (ch1:=cC++[li [0,0,0,0]]) rfl (au (mbox q2.s1 hb) (au rfl rfl))) (by simp)
 have H3:=(((H2.new (li [0,0,0,0])).new (bl (b0D bs))).new (tl [])).new (CO.lst [.ref cC.length,.ref (cC++[li [0,0,0,0]]).length,.ref (cC++[li [0,0,0,0]]++[bl (b0D bs)]).length])
 generalize (cC++[li [0,0,0,0]]++[bl (b0D bs)]++[tl []]).length=m0 at f3 H3
 generalize (cC++[li [0,0,0,0]]++[bl (b0D bs)]).length=u0 at f3 H3
 generalize (cC++[li [0,0,0,0]]).length=k0 at f3 H3
 generalize cC.length=h0 at f3 H3
 generalize cC++[li [0,0,0,0]]++[bl (b0D bs)]++[tl []]++[CO.lst [.ref h0,.ref k0,.ref u0]]=cD at f3 H3
 have x3:=bG (i:=8) f3
 have q3:=q2.set (x:=.ref m0) (i:=8) (by decide)
 have s8:(δ2.set 8 (some (.ref m0)))[8]?=some (some (.ref m0)):=List.getElem?_set_self (by rw [q2.len];decide)
 generalize δ2.set 8 (some (.ref m0))=δ3 at x3 q3 s8
 -- the dict
 have H4:=H3.new (.dK [])
 have f4:=fun c:CH=>lw (fs:=ah (eN (bg (ab (kD (.int 0)) (ab (kD (.int 0)) (ab (kD (.int 0)) (ab (kD (.int 0)) am)))))) (ah (eN (bg am)) (ah (eN (bg am)) aD))) (δ:=δ3) (ch:=c) (au (ch1:=c++[li [0,0,0,0]]) (x:=.ref c.length) rfl (au (ch1:=c++[li [0,0,0,0]]++[bl []]) (x:=.ref (c++[li [0,0,0,0]]).length) rfl (au (ch1:=c++[li [0,0,0,0]]++[bl []]++[tl []]) (x:=.ref (c++[li [0,0,0,0]]++[bl []]).length) rfl rfl))) (by simp)
 have f4:=f4 (cD++[.dK []])
 have fin:∀ (cE:CH),fN [((eD (kD (.str "face"))),(eN (bg (ab (kD (.int 0)) am)))),((eD (kD (.str "answer"))),(eN (bg (ab (kD .non) am))))] δ3 cE=some ([(.inr "face",.ref cE.length),(.inr "answer",.ref (cE++[li [0]]).length)],cE++[li [0]]++[.lst [.dat .non]]):=fun cE=>jo rfl rfl (c1:=cE++[li [0]]) rfl (jo rfl rfl rfl rfl)
 have H5:=(((H4.new (li [0,0,0,0])).new (bl [])).new (tl [])).new (CO.lst [.ref (cD++[CO.dK []]).length,.ref (cD++[CO.dK []]++[li [0,0,0,0]]).length,.ref (cD++[CO.dK []]++[li [0,0,0,0]]++[bl []]).length])
 have f5:=lw (fs:=ah (eV 8) (ah (eL (ah (eN (bg (ab (kD (.int 0)) (ab (kD (.int 0)) (ab (kD (.int 0)) (ab (kD (.int 0)) am)))))) (ah (eN (bg am)) (ah (eN (bg am)) aD)))) aD)) (au (aN s8) (au f4 rfl)) (by simp)
 generalize (cD++[CO.dK []]++[li [0,0,0,0]]++[bl []]++[tl []]).length=m1 at f5 H5
 generalize (cD++[CO.dK []]++[li [0,0,0,0]]++[bl []]).length=u1 at f5 H5
 generalize (cD++[CO.dK []]++[li [0,0,0,0]]).length=k1 at f5 H5
 generalize (cD++[CO.dK []]).length=h1 at f5 H5
 generalize cD++[CO.dK []]++[li [0,0,0,0]]++[bl []]++[tl []]++[CO.lst [.ref h1,.ref k1,.ref u1]]=cF at f5 H5
 have H6:=((H5.new (.lst [.ref m0,.ref m1])).new (li [0])).new (.lst [.dat .non])
 have g6:=jo (fk:=eD (kD (.str "home"))) (fv:=eV 2) (δ:=δ3) (ch:=cD++[.dK []]) (k:=.inr "home") rfl rfl (aN q3.s2) (jo (fk:=eD (kD (.str "pages"))) (k:=.inr "pages") rfl rfl f5 (fin _))
 generalize (cF++[CO.lst [.ref m0,.ref m1]]++[li [0]]).length=ma at g6 H6
 generalize (cF++[CO.lst [.ref m0,.ref m1]]).length=mf at g6 H6
 generalize cF.length=mp at g6 H6
 generalize cF++[CO.lst [.ref m0,.ref m1]]++[li [0]]++[CO.lst [.dat .non]]=cG at g6 H6
 have x4:=bA (wD g6 (H6.at 7 rfl) (by simp) (show ([.inr "home",.inr "pages",.inr "face",.inr "answer"]:List Key).Nodup by decide +kernel))
 have H7:=H6.set 7 rfl (.dK [(.inr "home",.ref q),(.inr "pages",.ref mp),(.inr "face",.ref mf),(.inr "answer",.ref ma)])
 generalize cD.length=m at x4 H7
 generalize cG.set m (CO.dK [(.inr "home",.ref q),(.inr "pages",.ref mp),(.inr "face",.ref mf),(.inr "answer",.ref ma)])=cH at x4 H7
 have HF:=Hv.pick (l:=[(ma,.lst [.dat .non]),(mf,li [0]),(mp,.lst [.ref m0,.ref m1]),(m1,.lst [.ref h1,.ref k1,.ref u1]),(u1,tl []),(k1,bl []),(h1,li [0,0,0,0]),(m,.dK [(.inr "home",.ref q),(.inr "pages",.ref mp),(.inr "face",.ref mf),(.inr "answer",.ref ma)]),(m0,.lst [.ref h0,.ref k0,.ref u0]),(u0,tl []),(k0,bl (b0D bs)),(h0,li [0,0,0,0]),(q,.dT (dTm (hm0 cl sh)))]) (X:=R) H7 [7,12,2,8,11,10,9,3,6,5,4,1,0] (show [7,12,2,8,11,10,9,3,6,5,4,1,0].Perm (List.range 13) by decide)
 refine ⟨cH,m,q,mp,m0,h0,k0,u0,m1,h1,k1,u1,mf,ma,?_,HF⟩
 unfold z26
 rw [bV]
 show tT (aI (bO 2 eNT) _ [some (.dat (bm cl sh rw)),some (.dat (.tup (bs.map .str))),none,none,none,none,none,none,none] ch)=_
 rw [aC,x0,ax,aC,x1,ax,aC,x2,ax,aC,x3,ax,x4]
 rfl
end
def mF {α:Type} {x:Str} {v:α}:∀ {hm:List (Str×α)},(hm.map (·.1)).Nodup->(x,v)∈hm->lkS hm x=some v
 | [],_,h=>by cases h
 | s::hm,nd,h=>by
  rw [lkS]
  rcases List.mem_cons.mp h with rfl | h
  · rw [if_pos rfl]
  · rw [if_neg fun e:s.1=x=>(List.nodup_cons.mp nd).1 (List.mem_map.mpr ⟨(x,v),h,e.symm⟩)]
    exact mF (List.nodup_cons.mp nd).2 h
def S0 (cl sh:List Hd) (bs:List Str):Sta:=⟨hm0 cl sh,⟨[0,0,0,0],b0D bs,[]⟩,⟨[0,0,0,0],[],[]⟩,false,none,false⟩
def lz:∀ (hm:Hm),(∀ s∈hm,s.2.length<=8)->(dTm hm).length<=8*hm.length
 | [],_=>nL _
 | s::hm,h=>by
  have:=lz hm fun z hz=>h z (by simp [hz])
  have h1:=h s (by simp)
  rw [dTm,List.length_append,gq,List.length_cons]
  omega
section
variable {ch:CH} {R:List (Nat×CO)} {cl sh:List Hd} {rw:Dt} {bs:List Str}
structure Dr (cl sh:List Hd) (bs:List Str):Prop where
 nd:((hm0 cl sh).map (·.1)).Nodup
 sz:∀ h∈sh,0<=h.2.1/\h.2.1<=8
 cl:cl.length<=8
 sh:sh.length<=8
 bs:bs.length<=10
def ok0 (d:Dr cl sh bs) {P:Pl} (hp:P.ps.length=(hm0 cl sh).length):Ok cl sh P (S0 cl sh bs) 10 where
 pl:=hp
 nd:=d.nd
 tot:=by
  have h1:(dTm (hm0 cl sh)).length<=8*(hm0 cl sh).length:=lz _ fun s hs=>by
   unfold hm0 at hs
   rcases List.mem_append.mp hs with hs | hs
   · obtain ⟨h,_,rfl⟩:=List.mem_map.mp hs
     exact (by decide:1<=8)
   · obtain ⟨h,hh,rfl⟩:=List.mem_map.mp hs
     have:=d.sz h hh
     show (List.replicate h.2.1.toNat (0:Int)).length<=8
     rw [List.length_replicate]
     omega
  have h2:(hm0 cl sh).length=cl.length+sh.length:=by unfold hm0 hmC hmS;rw [List.length_append,List.length_map,List.length_map]
  have:=d.cl
  have:=d.sh
  show (dTm (hm0 cl sh)).length<900
  omega
 sc:=fun h hh=>⟨[h.2.1],h.2.1,mF d.nd (List.mem_append_left _ (List.mem_map.mpr ⟨h,hh,rfl⟩)),rfl⟩
 ss:=fun h hh=>⟨List.replicate h.2.1.toNat 0,mF d.nd (List.mem_append_right _ (List.mem_map.mpr ⟨h,hh,rfl⟩)),by
  have:=d.sz h hh
  rw [List.length_replicate]
  omega,by
  have:=d.sz h hh
  rw [List.length_replicate]
  omega⟩
 h0:=rfl
 h1:=rfl
 b0:=by
  show (b0D bs).length<=10
  unfold b0D
  rw [List.length_map]
  exact d.bs
 b1:=Nat.zero_le _
 t0:=Nat.zero_le _
 t1:=Nat.zero_le _
 w:=rfl
def uK (h:Hv ch R) (d:Dr cl sh bs):∃ c1 c2 P,y20 [.ref ch.length,.dat (bm cl sh rw),.dat (.tup (bs.map .str))] (ch++[.ins "Store" [] []])=some (.dat .non,c1)/\z26 [.dat (bm cl sh rw),.dat (.tup (bs.map .str))] c1=some (.ref P.m,c2)/\P.s=ch.length/\ch.length<c1.length/\Hv c2 (cs P (S0 cl sh bs) (S0 cl sh bs) R)/\Ok cl sh P (S0 cl sh bs) 10:=by
 obtain ⟨c1,ph,pd,pb,pb0,pb1,pt,pt0,pt1,ps,e1,hp,h1⟩:=wA (rw:=rw) h d.nd d.sz d.cl d.sh d.bs
 obtain ⟨c2,m,mh,mp,m0,h0,k0,u0,m1,g1,k1,u1,mf,ma,e2,h2⟩:=uJ (rw:=rw) h1 d.nd d.sz d.cl d.sh d.bs
 exact ⟨c1,c2,⟨ch.length,ph,pd,pb,pb0,pb1,pt,pt0,pt1,m,mh,mp,m0,h0,k0,u0,m1,g1,k1,u1,mf,ma,ps⟩,e1,e2,rfl,h1.lt (List.mem_append_left _ (.head _)),h2.perm (List.perm_append_comm_assoc _ _ _),ok0 d hp⟩
end
section
variable {c b:Int} {s2 z w:Option T} {l:List Dt}
def uL {k:Nat} (hk:k<=8) (hl:l.length<100):∃ h:Hd,h.1=nam b k/\z23 [some (.leaf (.int c)),some (.leaf (.int b)),s2,some (.lst l),some (.leaf (.int k)),w]=some (.nx [some (.leaf (.int c)),some (.leaf (.int b)),s2,some (.lst (l++[hdD h])),some (.leaf (.int k)),w]):=by
 have h3:=bY (c+k) 3 (m:=2) (by decide)
 rw [show ((3:Nat):Int)=3 from rfl] at h3
 refine ⟨(nam b k,(c+31*k)*94906267%wide,decide (bH (c+k) 3 2=1)),rfl,?_⟩
 unfold z23 z38
 simp only [List.getElem?_cons_zero,List.getElem?_cons_succ]
 have e:toD (bL (ab (toD (aA y11 (ab (vL 1) (ab (vL 4) am)))) (ab (toD (d2 cQ (toD (d2 cp (toD (d2 cw (vB 0) (toD (d2 cp (kD (.int 31)) (vB 4))))) (kD (.int 94906267)))) (toD (d2 j8 (kD (.int 2)) (kD (.int 40)))))) (ab (toD (d2 (gEq false) (toD (aA z4 (ab (toD (d2 cw (vB 0) (vB 4))) (ab (kD (.int 3)) (ab (kD (.int 2)) am))))) (kD (.int 1)))) am)))) [some (.leaf (.int c)),some (.leaf (.int b)),s2,some (.lst l),some (.leaf (.int k)),w]=some (hdD (nam b k,(c+31*k)*94906267%wide,decide (bH (c+k) 3 2=1))):=by
  walk_at "d"
  rw [jj b k (by omega)]
  walk_at "d"
  rw [h3.1]
  walk_at "d"
  rfl
 rw [e,Option.bind_some,if_pos (Nat.lt_of_lt_of_le hl (by decide))]
 rfl
def rO {k:Nat} (hk:k<=8) (hl:l.length<100):∃ h:Hd,h.1=nam b (8+k)/\(0<=h.2.1/\h.2.1<=8)/\y23 [some (.leaf (.int c)),some (.leaf (.int b)),s2,z,some (.leaf (.int k)),some (.lst l)]=some (.nx [some (.leaf (.int c)),some (.leaf (.int b)),s2,z,some (.leaf (.int k)),some (.lst (l++[hdD h]))]):=by
 have h4:=bY (c+k) 4 (m:=8) (by decide)
 rw [show ((4:Nat):Int)=4 from rfl] at h4
 have h5:=bY (c+k) 5 (m:=2) (by decide)
 rw [show ((5:Nat):Int)=5 from rfl] at h5
 refine ⟨(nam b (8+k),1+bH (c+k) 4 8,decide (bH (c+k) 5 2=1)),rfl,(show 0<=1+bH (c+k) 4 8/\1+bH (c+k) 4 8<=8 by omega),?_⟩
 unfold y23 z38
 simp only [List.getElem?_cons_zero,List.getElem?_cons_succ]
 have e:toD (bL (ab (toD (aA y11 (ab (vL 1) (ab (toD (d2 cw (kD (.int 8)) (vB 4))) am)))) (ab (toD (d2 cw (kD (.int 1)) (toD (aA z4 (ab (toD (d2 cw (vB 0) (vB 4))) (ab (kD (.int 4)) (ab (kD (.int 8)) am))))))) (ab (toD (d2 (gEq false) (toD (aA z4 (ab (toD (d2 cw (vB 0) (vB 4))) (ab (kD (.int 5)) (ab (kD (.int 2)) am))))) (kD (.int 1)))) am)))) [some (.leaf (.int c)),some (.leaf (.int b)),s2,z,some (.leaf (.int k)),some (.lst l)]=some (hdD (nam b (8+k),1+bH (c+k) 4 8,decide (bH (c+k) 5 2=1))):=by
  walk_at "d"
  rw [show (8:Int)+(k:Int)=((8+k:Nat):Int) by omega,jj b (8+k) (by omega)]
  walk_at "d"
  rw [h4.1]
  walk_at "d"
  rw [h5.1]
  walk_at "d"
  rfl
 rw [e,Option.bind_some,if_pos (Nat.lt_of_lt_of_le hl (by decide))]
 rfl
def rP (n:Nat):∀ {j:Nat} {l:List Dt} {z:Option T},j+n<=8->l.length+n<=50->∃ (hs:List Hd) (z':Option T),hs.map (·.1)=(List.range' j n).map (nam b)∧
  iV (aq 4) z23 ((List.range' j n).map fun i:Nat=>.int (i:Int)) [some (.leaf (.int c)),some (.leaf (.int b)),s2,some (.lst l),z,w]=some (.nx [some (.leaf (.int c)),some (.leaf (.int b)),s2,some (.lst (l++hs.map hdD)),z',w]):=by
 induction n with
 | zero =>
  intro j l z _ _
  exact ⟨[],z,rfl,by rw [List.map_nil,List.append_nil];rfl⟩
 | succ n ih =>
  intro j l z hj hl
  obtain ⟨h,h1,e⟩:=uL (c:=c) (b:=b) (s2:=s2) (w:=w) (l:=l) (k:=j) (by omega) (by omega)
  obtain ⟨hs,z',h2,e2⟩:=ih (j:=j+1) (l:=l++[hdD h]) (z:=some (.leaf (.int j))) (by omega) (by simp;omega)
  refine ⟨h::hs,z',by rw [List.range'_succ,List.map_cons,List.map_cons,h2,h1],?_⟩
  rw [List.range'_succ,List.map_cons,kQ (δ1:=[some (.leaf (.int c)),some (.leaf (.int b)),s2,some (.lst l),some (.leaf (.int j)),w]) rfl e,e2]
  simp
def pe (n:Nat):∀ {j:Nat} {l:List Dt} {y:Option T},j+n<=8->l.length+n<=50->∃ (hs:List Hd) (y':Option T),hs.map (·.1)=(List.range' j n).map (fun i=>nam b (8+i))/\(∀ h∈hs,0<=h.2.1/\h.2.1<=8)∧
  iV (aq 4) y23 ((List.range' j n).map fun i:Nat=>.int (i:Int)) [some (.leaf (.int c)),some (.leaf (.int b)),s2,z,y,some (.lst l)]=some (.nx [some (.leaf (.int c)),some (.leaf (.int b)),s2,z,y',some (.lst (l++hs.map hdD))]):=by
 induction n with
 | zero =>
  intro j l y _ _
  exact ⟨[],y,rfl,(fun h hh=>by cases hh),by rw [List.map_nil,List.append_nil];rfl⟩
 | succ n ih =>
  intro j l y hj hl
  obtain ⟨h,h1,h0,e⟩:=rO (c:=c) (b:=b) (s2:=s2) (z:=z) (l:=l) (k:=j) (by omega) (by omega)
  obtain ⟨hs,y',h2,h3,e2⟩:=ih (j:=j+1) (l:=l++[hdD h]) (y:=some (.leaf (.int j))) (by omega) (by simp;omega)
  refine ⟨h::hs,y',by rw [List.range'_succ,List.map_cons,List.map_cons,h2,h1],fun a ha=>?_,?_⟩
  · rcases List.mem_cons.mp ha with rfl | ha
    · exact h0
    · exact h3 a ha
  · rw [List.range'_succ,List.map_cons,kQ (δ1:=[some (.leaf (.int c)),some (.leaf (.int b)),s2,z,some (.leaf (.int j)),some (.lst l)]) rfl e,e2]
    simp
end
def uM {b:Int} {cl sh:List Hd} {n m:Nat} (h1:cl.map (·.1)=(List.range' 0 n).map (nam b)) (h2:sh.map (·.1)=(List.range' 0 m).map (fun i=>nam b (8+i))) (hn:n<=8) (hm:m<=8):((hm0 cl sh).map (·.1)).Nodup:=by
 have e:(hm0 cl sh).map (·.1)=(List.range' 0 n).map (nam b)++(List.range' 0 m).map (fun i=>nam b (8+i)):=by
  unfold hm0 hmC hmS
  rw [List.map_append,List.map_map,List.map_map,<- h1,<- h2]
  rfl
 rw [e]
 have key:∀ {i j:Nat},i<=25->j<=25->i≠j->nam b i≠nam b j:=fun hi hj ne z=>ne (wl b hi hj z)
 have inr:∀ {i n:Nat},i∈List.range' 0 n->i<n:=fun {i n} h=>by
  have:=List.mem_range'_1.mp h
  omega
 refine List.nodup_append.mpr ⟨?_,?_,fun x hx y hy=>?_⟩
 · refine List.pairwise_map.mpr (List.Pairwise.imp_of_mem (fun {i j} hi hj ne=>key ?_ ?_ ne) (List.nodup_range' (step:=1)))
   · have:=inr hi
     omega
   · have:=inr hj
     omega
 · refine List.pairwise_map.mpr (List.Pairwise.imp_of_mem (fun {i j} hi hj ne=>key ?_ ?_ ?_) (List.nodup_range' (step:=1)))
   · have:=inr hi
     omega
   · have:=inr hj
     omega
   · omega
 · obtain ⟨i,hi,rfl⟩:=List.mem_map.mp hx
   obtain ⟨j,hj,rfl⟩:=List.mem_map.mp hy
   have:=inr hi
   have:=inr hj
   exact key (by omega) (by omega) (by omega)
def uN {f:De->Option (List Dt)} {bb:Dt->De->Option De} {g:De->Option Out} {δ:De} {n:Nat} (h:f δ=some [.int n]) (hn:n<=1000000000):j7 (cP cX f) bb g δ=iV bb g (bn 0 n) δ:=by
 unfold j7 cP
 rw [h,Option.bind_some,iE hn]
 rfl
def pf (c b:Int) {n m:Nat} (hn:n<=8) (hm:m<=8) {g:De->Option Out}:∃ cl sh z y,((hm0 cl sh).map (·.1)).Nodup/\(∀ h∈sh,0<=h.2.1/\h.2.1<=8)/\cl.length<=8/\sh.length<=8∧
  cm (dX 3 (bg am)) (cm (j7 (cP cX (ab (toD (d2 bi (vB 2) (kD (.int 0)))) am)) (aq 4) z23)
  (cm (dX 5 (bg am))
  (cm (j7 (cP cX (ab (toD (d2 bi (vB 2) (kD (.int 1)))) am)) (aq 4) y23) g))) [some (.leaf (.int c)),some (.leaf (.int b)),some (.leaf (.lst [.int n,.int m])),none,none,none]=kR (some (.nx [some (.leaf (.int c)),some (.leaf (.int b)),some (.leaf (.lst [.int n,.int m])),some (.lst (cl.map hdD)),z,some (.lst (sh.map hdD))])) g/\y=z:=by
 obtain ⟨cl,z,h1,e1⟩:=rP (c:=c) (b:=b) (s2:=some (.leaf (.lst [.int n,.int m]))) (w:=none) n (j:=0) (l:=[]) (z:=none) (by omega) (by simp;omega)
 obtain ⟨sh,y,h2,h3,e2⟩:=pe (c:=c) (b:=b) (s2:=some (.leaf (.lst [.int n,.int m]))) (z:=some (.lst (cl.map hdD))) m (j:=0) (l:=[]) (y:=z) (by omega) (by simp;omega)
 have l1:=congrArg List.length h1
 have l2:=congrArg List.length h2
 simp only [List.length_map,List.length_range'] at l1 l2
 refine ⟨cl,sh,y,y,uM h1 h2 hn hm,h3,by omega,by omega,?_,rfl⟩
 rw [List.nil_append] at e1 e2
 rw [gT,show dX 3 (bg am) [some (.leaf (.int c)),some (.leaf (.int b)),some (.leaf (.lst [.int n,.int m])),none,none,none]=some (.nx [some (.leaf (.int c)),some (.leaf (.int b)),some (.leaf (.lst [.int n,.int m])),some (.lst []),none,none]) from rfl,dm,gT]
 rw [uN (f:=ab (toD (d2 bi (vB 2) (kD (.int 0)))) am) (n:=n) (δ:=[some (.leaf (.int c)),some (.leaf (.int b)),some (.leaf (.lst [.int n,.int m])),some (.lst []),none,none]) rfl (by omega),ir,e1,dm,gT]
 rw [show dX 5 (bg am) [some (.leaf (.int c)),some (.leaf (.int b)),some (.leaf (.lst [.int n,.int m])),some (.lst (cl.map hdD)),z,none]=some (.nx [some (.leaf (.int c)),some (.leaf (.int b)),some (.leaf (.lst [.int n,.int m])),some (.lst (cl.map hdD)),z,some (.lst [])]) from rfl,dm,gT]
 rw [uN (f:=ab (toD (d2 bi (vB 2) (kD (.int 1)))) am) (n:=m) (δ:=[some (.leaf (.int c)),some (.leaf (.int b)),some (.leaf (.lst [.int n,.int m])),some (.lst (cl.map hdD)),z,some (.lst [])]) rfl (by omega),ir,e2]
def pi (c b:Int):∃ cl sh rw,y16 [.int c,.int b]=some (.leaf (bm cl sh rw))/\((hm0 cl sh).map (·.1)).Nodup/\(∀ h∈sh,0<=h.2.1/\h.2.1<=8)/\cl.length<=8/\sh.length<=8:=by
 have h0:=bY c 0 (m:=5) (by decide)
 rw [show ((0:Nat):Int)=0 from rfl] at h0
 have h1:=bY c 1 (m:=4) (by decide)
 rw [show ((1:Nat):Int)=1 from rfl] at h1
 have h2:=bY c 2 (m:=4) (by decide)
 rw [show ((2:Nat):Int)=2 from rfl] at h2
 obtain ⟨u,eu⟩:∃ u:Nat,bH c 0 5=u:=⟨(bH c 0 5).toNat,by omega⟩
 obtain ⟨v,ev⟩:∃ v:Nat,bH c 1 4=v:=⟨(bH c 1 4).toNat,by omega⟩
 obtain ⟨rw',er⟩:∃ rw',jU (.tup [.tup [.str "end",.int 0]]) (.int 60)=some (.leaf rw'):=⟨_,rfl⟩
 have fin:∀ (n m:Nat),n<=8->m<=8->∃ cl sh rw,oS (cm (dX 3 (bg am)) (cm (j7 (cP cX (ab (toD (d2 bi (vB 2) (kD (.int 0)))) am)) (aq 4) z23)
  (cm (dX 5 (bg am))
  (cm (j7 (cP cX (ab (toD (d2 bi (vB 2) (kD (.int 1)))) am)) (aq 4) y23) (gK (bL (ab (toD (aA cx (ab (vB 3) am))) (ab (toD (aA cx (ab (vB 5) am))) (ab (toD (d2 jU (toD (bL (ab (toD (bL (ab (kD (.str "end")) (ab (kD (.int 0)) am)))) am))) (kD (.int 60)))) am)))))))) [some (.leaf (.int c)),some (.leaf (.int b)),some (.leaf (.lst [.int n,.int m])),none,none,none])=some (.leaf (bm cl sh rw))/\((hm0 cl sh).map (·.1)).Nodup/\(∀ h∈sh,0<=h.2.1/\h.2.1<=8)/\cl.length<=8/\sh.length<=8:=fun n m hn hm=>by
  obtain ⟨cl,sh,z,y,nd,h3,l1,l2,e,_⟩:=pf c b hn hm (g:=gK (bL (ab (toD (aA cx (ab (vB 3) am))) (ab (toD (aA cx (ab (vB 5) am))) (ab (toD (d2 jU (toD (bL (ab (toD (bL (ab (kD (.str "end")) (ab (kD (.int 0)) am)))) am))) (kD (.int 60)))) am)))))
  refine ⟨cl,sh,rw',?_,nd,h3,l1,l2⟩
  rw [e,dm]
  show oS ((((jU (.tup [.tup [.str "end",.int 0]]) (.int 60)).map T.d).bind fun d=>(yn [.tup (cl.map hdD),.tup (sh.map hdD),d])).map Out.rt)=_
  rw [er]
  rfl
 unfold y16
 rw [ym]
 have s1:dX 2 (toT (toD (bg (ab (toD (aA z4 (ab (vL 0) (ab (kD (.int 0)) (ab (kD (.int 5)) am))))) (ab (toD (aA z4 (ab (vL 0) (ab (kD (.int 1)) (ab (kD (.int 4)) am))))) am))))) [some (.leaf (.int c)),some (.leaf (.int b)),none,none,none,none]=some (.nx [some (.leaf (.int c)),some (.leaf (.int b)),some (.leaf (.lst [.int u,.int v])),none,none,none]):=by
  walk_at "d"
  rw [h0.1]
  walk_at "d"
  rw [h1.1,eu,ev]
  rfl
 have s2:tB2 (gEq false) (toD (aA z4 (ab (vL 0) (ab (kD (.int 2)) (ab (kD (.int 4)) am))))) (kD (.int 1)) [some (.leaf (.int c)),some (.leaf (.int b)),some (.leaf (.lst [.int u,.int v])),none,none,none]=some (decide (bH c 2 4=1)):=by
  walk_at "d"
  rw [h2.1]
  rfl
 show ∃ cl sh rw,oS (cm _ (cm (sIf _ _ jD) _) [some (.leaf (.int c)),some (.leaf (.int b)),none,none,none,none])=_/\_
 rw [gT,s1,dm,gT,zq,s2]
 by_cases hc:bH c 2 4=1
 · rw [lX (by simpa using hc),show dX 2 (toT (toD (bg (ab (kD (.int 8)) (ab (kD (.int 4)) am))))) [some (.leaf (.int c)),some (.leaf (.int b)),some (.leaf (.lst [.int u,.int v])),none,none,none]=some (.nx [some (.leaf (.int c)),some (.leaf (.int b)),some (.leaf (.lst [.int ((8:Nat):Int),.int ((4:Nat):Int)])),none,none,none]) from rfl,dm]
   exact fin 8 4 (by decide) (by decide)
 · rw [lY (by simpa using hc),show jD [some (.leaf (.int c)),some (.leaf (.int b)),some (.leaf (.lst [.int u,.int v])),none,none,none]=some (.nx [some (.leaf (.int c)),some (.leaf (.int b)),some (.leaf (.lst [.int u,.int v])),none,none,none]) from rfl,dm]
   exact fin u v (by omega) (by omega)
structure S8 (sc:Dt) (δ:Sl):Prop where
 len:δ.length=8
 s0:δ[0]?=some (some (.dat sc))
 s1:δ[1]?=some (some (.ref 0))
def S8.set {sc:Dt} {δ:Sl} (h:S8 sc δ) {i:Nat} (hi:2<=i) (x:Option CV):S8 sc (δ.set i x):=⟨by rw [List.length_set];exact h.len,by rw [gN (by omega)];exact h.s0,by rw [gN (by omega)];exact h.s1⟩
def S8.at {sc:Dt} {δ:Sl} (h:S8 sc δ) {i:Nat} (hi:i<8) (x:Option CV):(δ.set i x)[i]?=some x:=List.getElem?_set_self (by rw [h.len];exact hi)
section
variable {ch c1 c2:CH} {δ:Sl} {R:List (Nat×CO)} {cl sh:List Hd} {rw:Dt} {bs:List Str} {ns:List Int}
def mG {f:De->Option Dt} {j:Nat} (h0:δ[0]?=some (some (.dat (.lst (ns.map .int))))) (hf:f (lo δ ch)=some (.int j)) (hj:j<=1000):∃ v,toD (aA q12 (ab (vL 0) (ab f am))) (lo δ ch)=some (.int v):=by
 obtain ⟨v,e⟩:=uk ns j hj
 refine ⟨v,?_⟩
 unfold toD aA ab am
 rw [aK h0,hf]
 show ((q12 [.lst (ns.map .int),.int j]).map T.d)=_
 rw [e]
 rfl
def wE {k:Nat} (hk:k<=1) (h0:δ[0]?=some (some (.dat (.lst (ns.map .int))))) (h2:δ[2]?=some (some (.dat (.int k)))):∃ cl sh rw,toD (aA y16 (ab (toD (aA q12 (ab (vL 0) (ab (toD (d2 cp (kD (.int 2)) (vB 2))) am)))) (ab (toD (aA q12 (ab (vL 0) (ab (toD (d2 cw (toD (d2 cp (kD (.int 2)) (vB 2))) (kD (.int 1)))) am)))) am))) (lo δ ch)=some (bm cl sh rw)/\((hm0 cl sh).map (·.1)).Nodup/\(∀ h∈sh,0<=h.2.1/\h.2.1<=8)/\cl.length<=8/\sh.length<=8:=by
 have f1:toD (d2 cp (kD (.int 2)) (vB 2)) (lo δ ch)=some (.int ((2*k:Nat):Int)):=by
  unfold toD d2
  rw [dw h2]
  show Option.map T.d (cp (.int 2) (.int k))=_
  rw [yl (by decide) (by decide)]
  show some (Dt.int (2*(k:Int)))=_
  rw [show (2:Int)*(k:Int)=((2*k:Nat):Int) by omega]
 have f2:toD (d2 cw (toD (d2 cp (kD (.int 2)) (vB 2))) (kD (.int 1))) (lo δ ch)=some (.int ((2*k+1:Nat):Int)):=by
  rw [show toD (d2 cw (toD (d2 cp (kD (.int 2)) (vB 2))) (kD (.int 1))) (lo δ ch)=(((toD (d2 cp (kD (.int 2)) (vB 2)) (lo δ ch)).bind fun x=>cw x (.int 1)).map T.d) from rfl,f1]
  rfl
 obtain ⟨a,ea⟩:=mG (ch:=ch) h0 f1 (by omega)
 obtain ⟨b,eb⟩:=mG (ch:=ch) h0 f2 (by omega)
 obtain ⟨cl,sh,rw',e,h⟩:=pi a b
 refine ⟨cl,sh,rw',?_,h⟩
 rw [show toD (aA y16 (ab (toD (aA q12 (ab (vL 0) (ab (toD (d2 cp (kD (.int 2)) (vB 2))) am)))) (ab (toD (aA q12 (ab (vL 0) (ab (toD (d2 cw (toD (d2 cp (kD (.int 2)) (vB 2))) (kD (.int 1)))) am)))) am))) (lo δ ch)=((((toD (aA q12 (ab (vL 0) (ab (toD (d2 cp (kD (.int 2)) (vB 2))) am))) (lo δ ch)).bind fun x=>((toD (aA q12 (ab (vL 0) (ab (toD (d2 cw (toD (d2 cp (kD (.int 2)) (vB 2))) (kD (.int 1)))) am))) (lo δ ch)).bind fun y=>some [y]).bind fun ds=>some (x::ds)).bind y16).map T.d) from rfl,ea,eb]
 show (y16 [.int a,.int b]).map T.d=_
 rw [e]
 rfl
def j4:∀ ss:List Str,eU (ss.map .str)=some ss
 | []=>rfl
 | s::ss=>by rw [List.map_cons,eU,j4 ss];rfl
def uO {c:Int} (h4:δ[4]?=some (some (.dat (.int c)))):∃ bs:List Str,bs.length<=10/\toD (aA cx (ab (toD (aA dD (ab (toD (ce [none,some 4] (cP cX (ab (toD (aA z4 (ab (vL 4) (ab (kD (.int 2)) (ab (kD (.int 6)) am))))) am)) (aq 0) bc q43)) am))) am)) (lo δ ch)=some (.tup (bs.map .str)):=by
 have h2:=bY c 2 (m:=6) (by decide)
 rw [show ((2:Nat):Int)=2 from rfl] at h2
 obtain ⟨n,en⟩:∃ n:Nat,bH c 2 6=n:=⟨(bH c 2 6).toNat,by omega⟩
 have hc:dl (aq 0) bc q43 [none,some (.leaf (.int c))] (bn 0 n)=some ((bn 0 n).map fun d=>match d with | .int i=>.str (nam c i.toNat) | d=>d):=dc fun d hd=>by
  obtain ⟨i,hi,rfl⟩:=mem_range hd
  refine ⟨_,rfl,rfl,?_⟩
  rw [Int.zero_add]
  show (y11 [.int c,.int i]).map T.d=_
  rw [jj c i (by omega)]
  rfl
 have hc2:dl (aq 0) bc q43 [none,some (.leaf (.int c))] (bn 0 n)=some (((List.range' 0 n).map (nam c)).map .str):=by
  rw [hc,ir,List.map_map,List.map_map]
  rfl
 have hv:toD (ce [none,some 4] (cP cX (ab (toD (aA z4 (ab (vL 4) (ab (kD (.int 2)) (ab (kD (.int 6)) am))))) am)) (aq 0) bc q43) (lo δ ch)=some (.lst (((List.range' 0 n).map (nam c)).map .str)):=by
  have ea:ab (toD (aA z4 (ab (vL 4) (ab (kD (.int 2)) (ab (kD (.int 6)) am))))) am (lo δ ch)=some [.int n]:=by
   show ((((vL 4 (lo δ ch)).bind fun d=>some [d,.int 2,.int 6]).bind z4).map T.d).bind (fun d=>some [d])=_
   rw [aK h4]
   show (((z4 [.int c,.int 2,.int 6]).map T.d).bind fun d=>some [d])=_
   rw [h2.1,en]
   rfl
  have ef:cP cX (ab (toD (aA z4 (ab (vL 4) (ab (kD (.int 2)) (ab (kD (.int 6)) am))))) am) (lo δ ch)=some (bn 0 n):=by
   unfold cP
   rw [ea,Option.bind_some,iE (by omega)]
  rw [show ∀ f:De->Option T,toD f (lo δ ch)=(f (lo δ ch)).map T.d from fun _=>rfl,tu ef (ys:=((List.range' 0 n).map (nam c)).map .str) ?_ (by simp;omega)]
  · rfl
  · rw [show dC [none,some 4] (lo δ ch)=[none,((lo δ ch)[4]?).join] from rfl,oZ h4]
    exact hc2
 refine ⟨ij ((List.range' 0 n).map (nam c)),by rw [(g5 _).length_eq];simp;omega,?_⟩
 have hs:toD (aA dD (ab (toD (ce [none,some 4] (cP cX (ab (toD (aA z4 (ab (vL 4) (ab (kD (.int 2)) (ab (kD (.int 6)) am))))) am)) (aq 0) bc q43)) am)) (lo δ ch)=some (.lst ((ij ((List.range' 0 n).map (nam c))).map .str)):=by
  rw [show ∀ f:De->Option Dt,toD (aA dD (ab f am)) (lo δ ch)=((((f (lo δ ch)).bind fun d=>some [d]).bind dD).map T.d) from fun _=>rfl,hv]
  show (dD [.lst (((List.range' 0 n).map (nam c)).map .str)]).map T.d=_
  unfold dD
  dsimp only
  rw [j4,Option.bind_some,if_pos (by simp;omega)]
  rfl
 rw [show ∀ f:De->Option Dt,toD (aA cx (ab f am)) (lo δ ch)=((((f (lo δ ch)).bind fun d=>some [d]).bind cx).map T.d) from fun _=>rfl,hs]
 rfl
def zC {fs:Fgs} {cs:List CV} {F:Fd} (h1:fs δ ch=some (cs,ch)) (h2:F (.ref ch.length::cs) (ch++[.ins "Store" [] []])=some (.dat .non,c1)) (h3:ch.length<c1.length):eMk "Store" F fs δ ch=some (.ref ch.length,c1):=by
 unfold eMk
 rw [h1,Option.bind_some]
 dsimp only
 rw [h2,Option.bind_some]
 dsimp only
 rw [if_pos h3]
def ent (P:Pl) (cl sh:List Hd) (rw:Dt):CO:=.lst [.ref P.s,.dat (bm cl sh rw),.ref P.m]
def gr {P:Pl} {S M:Sta} {A B:List (Nat×CO)}:cs P S M (A++B)=cs P S M A++B:=by
 unfold cs
 simp only [List.cons_append,List.append_assoc]
def uP {P:Pl} {S M:Sta} {a:Nat×CO}:(cs P S M (a::R)).Perm (a::cs P S M R):=by
 have e1:cs P S M (a::R)=cs P S M []++a::R:=gr (A:=[]) (B:=a::R)
 have e2:cs P S M R=cs P S M []++R:=gr (A:=[]) (B:=R)
 rw [e1,e2]
 exact List.perm_middle
def uQ {L:List CV} {k:Nat} (hk:k<=1) (hδ:S8 (.lst (ns.map .int)) δ) (h:Hv ch ((0,.lst L)::R)) (hL:L.length<=10) :
  ∃ δ2 ch2 P S cl sh rw q,z53 (δ.set 2 (some (.dat (.int k)))) ch=some (.nx δ2 ch2)/\S8 (.lst (ns.map .int)) δ2/\Ok cl sh P S 10/\Hv ch2 ((0,.lst (L++[.ref q]))::(q,ent P cl sh rw)::cs P S S R):=by
 have q2:=hδ.set (i:=2) (by decide) (some (.dat (.int k)))
 have t2:=hδ.at (i:=2) (by decide) (some (.dat (.int k)))
 generalize δ.set 2 (some (.dat (.int k)))=δ0 at q2 t2
 obtain ⟨cl,sh,rw',e3,nd,hsz,hcl,hsh⟩:=wE (ch:=ch) hk q2.s0 t2
 have x3:=bG (i:=3) (aF e3)
 have q3:=q2.set (i:=3) (by decide) (some (.dat (bm cl sh rw')))
 have t3:=q2.at (i:=3) (by decide) (some (.dat (bm cl sh rw')))
 have t32:(δ0.set 3 (some (.dat (bm cl sh rw'))))[2]?=some (some (.dat (.int k))):=by rw [gN (by decide)];exact t2
 generalize δ0.set 3 (some (.dat (bm cl sh rw')))=δ3 at x3 q3 t3 t32
 have f4:toD (d2 cw (kD (.int 4)) (vB 2)) (lo δ3 ch)=some (.int ((4+k:Nat):Int)):=by
  unfold toD d2
  rw [dw t32]
  show some (Dt.int (4+(k:Int)))=_
  rw [show (4:Int)+(k:Int)=((4+k:Nat):Int) by omega]
 obtain ⟨c,e4⟩:=mG (ch:=ch) q3.s0 f4 (by omega)
 have x4:=bG (i:=4) (aF e4)
 have q4:=q3.set (i:=4) (by decide) (some (.dat (.int c)))
 have t4:=q3.at (i:=4) (by decide) (some (.dat (.int c)))
 have t43:(δ3.set 4 (some (.dat (.int c))))[3]?=some (some (.dat (bm cl sh rw'))):=by rw [gN (by decide)];exact t3
 generalize δ3.set 4 (some (.dat (.int c)))=δ4 at x4 q4 t4 t43
 obtain ⟨bs,hb,e5⟩:=uO (ch:=ch) t4
 have x5:=bG (i:=5) (aF e5)
 have q5:=q4.set (i:=5) (by decide) (some (.dat (.tup (bs.map .str))))
 have t5:=q4.at (i:=5) (by decide) (some (.dat (.tup (bs.map .str))))
 have t53:(δ4.set 5 (some (.dat (.tup (bs.map .str)))))[3]?=some (some (.dat (bm cl sh rw'))):=by rw [gN (by decide)];exact t43
 generalize δ4.set 5 (some (.dat (.tup (bs.map .str))))=δ5 at x5 q5 t5 t53
 obtain ⟨c1,c2,P,g1,g2,hs,hlt,H,ok⟩:=uK (rw:=rw') h ⟨nd,hsz,hcl,hsh,hb⟩
 have x6:=bG (i:=6) (zC (fs:=ah (eD (vL 3)) (ah (eD (vL 5)) aD)) (au (aF (aK t53)) (au (aF (aK t5)) rfl)) g1 hlt)
 rw [<- hs] at x6
 have q6:=q5.set (i:=6) (by decide) (some (.ref P.s))
 have t6:=q5.at (i:=6) (by decide) (some (.ref P.s))
 have t63:(δ5.set 6 (some (.ref P.s)))[3]?=some (some (.dat (bm cl sh rw'))):=by rw [gN (by decide)];exact t53
 have t65:(δ5.set 6 (some (.ref P.s)))[5]?=some (some (.dat (.tup (bs.map .str)))):=by rw [gN (by decide)];exact t5
 generalize δ5.set 6 (some (.ref P.s))=δ6 at x6 q6 t6 t63 t65
 have x7:=bG (i:=7) ((nO (g:=z26) (fs:=ah (eD (vL 3)) (ah (eD (vL 5)) aD)) (au (aF (aK t63)) (au (aF (aK t65)) rfl))).trans g2)
 have q7:=q6.set (i:=7) (by decide) (some (.ref P.m))
 have t7:=q6.at (i:=7) (by decide) (some (.ref P.m))
 have t73:(δ6.set 7 (some (.ref P.m)))[3]?=some (some (.dat (bm cl sh rw'))):=by rw [gN (by decide)];exact t63
 have t76:(δ6.set 7 (some (.ref P.m)))[6]?=some (some (.ref P.s)):=by rw [gN (by decide)];exact t6
 generalize δ6.set 7 (some (.ref P.m))=δ7 at x7 q7 t7 t73 t76
 obtain ⟨c3,g3,H3⟩:=mD (rw:=rw') H ok (by decide)
 have x8:fJ (eg (dU (eC q16 (ah (eV 6) (ah (eD (vL 3)) (ah (eV 7) aD)))))) (br (eD (kD (.bl false)))) dn δ7 c2=some (.nx δ7 c3):=eI (by rw [eG ((nO (g:=q16) (au (aN t76) (au (aF (aK t73)) (au (aN t7) rfl)))).trans g3)];rfl)
 have H4:=H3.perm uP
 have fe:eL (ah (eV 6) (ah (eD (vL 3)) (ah (eV 7) aD))) δ7 c3=some (.ref c3.length,c3++[ent P cl sh rw']):=lw (au (aN t76) (au (aF (aK t73)) (au (aN t7) rfl))) (by simp)
 have H5:=H4.new (ent P cl sh rw')
 have x9:dS (eV 1) (eL (ah (eV 6) (ah (eD (vL 3)) (ah (eV 7) aD)))) δ7 c3=some (.nx δ7 ((c3++[ent P cl sh rw']).set 0 (.lst (L++[.ref c3.length])))):=by
  unfold dS
  rw [aN q7.s1,Option.bind_some]
  dsimp only
  rw [fe,Option.bind_some]
  simp only [H4.at 0 rfl,H5.at 1 rfl]
  rw [if_pos (Nat.lt_of_le_of_lt hL (by decide))]
 have H6:=H5.set 1 rfl (.lst (L++[.ref c3.length]))
 refine ⟨δ7,_,P,_,cl,sh,rw',c3.length,?_,q7,ok,H6.perm (List.Perm.swap _ _ _)⟩
 unfold z53
 rw [aC,x3,ax,aC,x4,ax,aC,x5,ax,aC,x6,ax,aC,x7,ax,aC,x8,ax,x9]
end
section
variable {ch c1 c2:CH} {δ:Sl} {R:List (Nat×CO)} {cl sh:List Hd} {rw:Dt} {bs:List Str} {ns:List Int} {P:Pl} {S:Sta} {sc:Dt} {k:Nat}
def Ok.up {m n:Nat} (h:Ok cl sh P S m) (hmn:m<=n):Ok cl sh P S n:=⟨h.pl,h.nd,h.tot,h.sc,h.ss,h.h0,h.h1,Nat.le_trans h.b0 hmn,Nat.le_trans h.b1 hmn,Nat.le_trans h.t0 hmn,Nat.le_trans h.t1 hmn,h.w⟩
def un3 {q:Nat} {a b c:CV} (h:ch[q]?=some (.lst [a,b,c])):ggT 3 (bw (ggN 6) (bw (ggN 3) (bw (ggN 7) gH))) (.ref q) ch δ=some (((δ.set 6 (some a)).set 3 (some b)).set 7 (some c)):=by
 have e:rz ch (.ref q)=some [a,b,c]:=by
  unfold rz
  simp only [h]
 unfold ggT
 rw [e]
 rfl
def xn (hδ:S8 sc δ) (a b c:CV):S8 sc (((δ.set 6 (some a)).set 3 (some b)).set 7 (some c))/\(((δ.set 6 (some a)).set 3 (some b)).set 7 (some c))[6]?=some (some a)/\(((δ.set 6 (some a)).set 3 (some b)).set 7 (some c))[3]?=some (some b)/\(((δ.set 6 (some a)).set 3 (some b)).set 7 (some c))[7]?=some (some c):=by
 have h6:=hδ.set (i:=6) (by decide) (some a)
 have h3:=h6.set (i:=3) (by decide) (some b)
 refine ⟨h3.set (by decide) _,?_,?_,h3.at (by decide) _⟩
 · rw [gN (by decide),gN (by decide)]
   exact hδ.at (by decide) _
 · rw [gN (by decide)]
   exact h6.at (by decide) _
def lA {c:Int} {q:Nat} {L:List CV} (hδ:S8 sc δ) (h:Hv ch (cs P S S R)) (ok:Ok cl sh P S k) (hk:k<400) (h0:ch[0]?=some (.lst L)) (hq:ixO (.lst L) (.int (bH c 7 2))=some (.ref q)) (he:ch[q]?=some (ent P cl sh rw)) :
  ∃ δ2 ch2 P' S',z43 (δ.set 4 (some (.dat (.int c)))) ch=some (.nx δ2 ch2)/\S8 sc δ2/\Hv ch2 (cs P' S' S' R)/\P'.s=P.s/\P'.m=P.m/\Ok cl sh P' S' (k+1):=by
 have q4:=hδ.set (i:=4) (by decide) (some (.dat (.int c)))
 have t4:=hδ.at (i:=4) (by decide) (some (.dat (.int c)))
 generalize δ.set 4 (some (.dat (.int c)))=δ0 at q4 t4
 have h7:=bY c 7 (m:=2) (by decide)
 rw [show ((7:Nat):Int)=7 from rfl] at h7
 have ep:eD (toD (aA z4 (ab (vL 4) (ab (kD (.int 7)) (ab (kD (.int 2)) am))))) δ0 ch=some (.dat (.int (bH c 7 2)),ch):=by
  refine aF ?_
  unfold toD aA ab am
  rw [aK t4]
  show (z4 [.int c,.int 7,.int 2]).map T.d=_
  rw [h7.1]
  rfl
 have x1:nM (eIx (eV 1) (eD (toD (aA z4 (ab (vL 4) (ab (kD (.int 7)) (ab (kD (.int 2)) am))))))) (ggT 3 (bw (ggN 6) (bw (ggN 3) (bw (ggN 7) gH)))) δ0 ch=some (.nx (((δ0.set 6 (some (.ref P.s))).set 3 (some (.dat (bm cl sh rw)))).set 7 (some (.ref P.m))) ch):=by
  unfold nM
  rw [bI (aN q4.s1) ep h0 hq,Option.bind_some]
  dsimp only
  rw [un3 he]
  rfl
 obtain ⟨q5,t6,t3,t7⟩:=xn q4 (.ref P.s) (.dat (bm cl sh rw)) (.ref P.m)
 have t4':(((δ0.set 6 (some (CV.ref P.s))).set 3 (some (.dat (bm cl sh rw)))).set 7 (some (.ref P.m)))[4]?=some (some (.dat (.int c))):=by
  rw [gN (by decide),gN (by decide),gN (by decide)]
  exact t4
 generalize ((δ0.set 6 (some (CV.ref P.s))).set 3 (some (.dat (bm cl sh rw)))).set 7 (some (.ref P.m))=δ1 at x1 q5 t6 t3 t7 t4'
 obtain ⟨c1,P',S',g1,H1,hs,hm,ok1⟩:=wy h ok (by omega) c
 obtain ⟨c2,g2,H2⟩:=mD (rw:=rw) H1 ok1 (by omega)
 rw [hs,hm] at g2
 refine ⟨δ1,c2,P',S',?_,q5,H2,hs,hm,ok1⟩
 have y1:nt (e2 (gIs true) (eC z28 (ah (eV 6) (ah (eV 7) (ah (eD (vL 4)) aD)))) (eD (kD .non))) δ1 ch=some (false,c1):=oY (by
  rw [qu ((nO (g:=z28) (au (aN t6) (au (aN t7) (au (aF (aK t4')) rfl)))).trans g1) (aF (d:=.non) rfl) rfl rfl (t:=.leaf (.bl false)) rfl]
  rfl)
 have y2:eg (dU (eC q16 (ah (eV 6) (ah (eD (vL 3)) (ah (eV 7) aD))))) δ1 c1=some (false,c2):=by
  rw [eG ((nO (g:=q16) (au (aN t6) (au (aF (aK t3)) (au (aN t7) rfl)))).trans g2)]
  rfl
 unfold z43
 rw [aC,x1,ax]
 refine eI ?_
 unfold vS
 rw [y1,Option.bind_some]
 exact y2
def lB {q:Nat} (hδ:S8 sc δ) (h:Hv ch (cs P S S R)) (ok:Ok cl sh P S k) (hk:k<=400) (he:ch[q]?=some (ent P cl sh rw)) :
  ∃ δ1 δ2 ch2,ggT 3 (bw (ggN 6) (bw (ggN 3) (bw (ggN 7) gH))) (.ref q) ch δ=some δ1/\q53 δ1 ch=some (.nx δ2 ch2)/\S8 sc δ2/\Hv ch2 (cs P S S R):=by
 obtain ⟨q5,t6,t3,t7⟩:=xn hδ (.ref P.s) (.dat (bm cl sh rw)) (.ref P.m)
 obtain ⟨c2,g2,H2⟩:=mD (rw:=rw) h ok (by omega)
 refine ⟨_,_,c2,un3 he,?_,q5,H2⟩
 unfold q53
 exact eI (by
  rw [eG ((nO (g:=q16) (au (aN t6) (au (aF (aK t3)) (au (aN t7) rfl)))).trans g2)]
  rfl)
def lD {i n j:Nat} {b:Fb} {g:Fs} {l:List CV} {c:CV} {δ1 δ2:Sl} (h1:ch[i]?=some (.lst l)) (h2:l[j]?=some c) (h3:b c ch δ=some δ1) (h4:g δ1 ch=some (.nx δ2 c2)):iY i b g (n+1) j δ ch=iY i b g n (j+1) δ2 c2:=by
 rw [iY]
 simp only [h1,h2,h3,Option.bind_some,h4]
def uR {i n j:Nat} {b:Fb} {g:Fs} {l:List CV} (h1:ch[i]?=some (.lst l)) (h2:l[j]?=none):iY i b g (n+1) j δ ch=some (.nx δ ch):=by
 rw [iY]
 simp only [h1,h2]
end
structure Two (cl sh cl' sh':List Hd) (rw rw':Dt) (q q':Nat) (P P':Pl) (S S':Sta) (k:Nat) (ch:CH):Prop where
 hv:Hv ch ((0,.lst [.ref q,.ref q'])::(q,ent P cl sh rw)::(q',ent P' cl' sh' rw')::(cs P S S []++cs P' S' S' []))
 ok:Ok cl sh P S k
 ok':Ok cl' sh' P' S' k
section
variable {ch c1 c2:CH} {δ:Sl} {R:List (Nat×CO)} {cl sh cl' sh':List Hd} {rw rw' sc:Dt} {P P':Pl} {S S':Sta} {k q q':Nat} {c:Int}
def perm_a {a b d:Nat×CO} {A B:List (Nat×CO)}:(a::b::d::(A++B)).Perm (A++a::b::d::B):=by
 have:(a::b::d::(A++B))=[a,b,d]++(A++B):=rfl
 rw [this]
 exact List.perm_append_comm_assoc _ _ _
def perm_b {a b d:Nat×CO} {A B:List (Nat×CO)}:(a::b::d::(A++B)).Perm (B++a::b::d::A):=by
 refine List.Perm.trans (List.Perm.cons _ (List.Perm.cons _ (List.Perm.cons _ List.perm_append_comm))) perm_a
def Two.fst (h:Two cl sh cl' sh' rw rw' q q' P P' S S' k ch):Hv ch (cs P S S ((0,.lst [.ref q,.ref q'])::(q,ent P cl sh rw)::(q',ent P' cl' sh' rw')::cs P' S' S' [])):=by
 have e:cs P S S ((0,.lst [.ref q,.ref q'])::(q,ent P cl sh rw)::(q',ent P' cl' sh' rw')::cs P' S' S' [])=cs P S S []++((0,.lst [.ref q,.ref q'])::(q,ent P cl sh rw)::(q',ent P' cl' sh' rw')::cs P' S' S' []):=gr (A:=[])
 rw [e]
 exact h.hv.perm perm_a
def Two.snd (h:Two cl sh cl' sh' rw rw' q q' P P' S S' k ch):Hv ch (cs P' S' S' ((0,.lst [.ref q,.ref q'])::(q,ent P cl sh rw)::(q',ent P' cl' sh' rw')::cs P S S [])):=by
 have e:cs P' S' S' ((0,.lst [.ref q,.ref q'])::(q,ent P cl sh rw)::(q',ent P' cl' sh' rw')::cs P S S [])=cs P' S' S' []++((0,.lst [.ref q,.ref q'])::(q,ent P cl sh rw)::(q',ent P' cl' sh' rw')::cs P S S []):=gr (A:=[])
 rw [e]
 exact h.hv.perm perm_b
def uS {P1:Pl} (h1:P1.s=P.s) (h2:P1.m=P.m):ent P cl sh rw=ent P1 cl sh rw:=by
 unfold ent
 rw [h1,h2]
def uT (hδ:S8 sc δ) (h:Two cl sh cl' sh' rw rw' q q' P P' S S' k ch) (hk:k<400):∃ δ2 ch2 P1 P1' S1 S1',z43 (δ.set 4 (some (.dat (.int c)))) ch=some (.nx δ2 ch2)/\S8 sc δ2/\Two cl sh cl' sh' rw rw' q q' P1 P1' S1 S1' (k+1) ch2:=by
 have h7:=bY c 7 (m:=2) (by decide)
 rw [show ((7:Nat):Int)=7 from rfl] at h7
 rcases (show bH c 7 2=0∨bH c 7 2=1 by omega) with e | e
 · obtain ⟨δ2,ch2,P1,S1,x,q2,H,hs,hm,ok1⟩:=lA (c:=c) (q:=q) hδ h.fst h.ok hk (h.hv.at 0 rfl) (by rw [e];rfl) (h.hv.at 1 rfl)
   refine ⟨δ2,ch2,P1,P',S1,S',x,q2,⟨?_,ok1,h.ok'.up (by omega)⟩⟩
   rw [<- uS hs hm]
   have e:cs P1 S1 S1 ((0,.lst [.ref q,.ref q'])::(q,ent P cl sh rw)::(q',ent P' cl' sh' rw')::cs P' S' S' [])=cs P1 S1 S1 []++((0,.lst [.ref q,.ref q'])::(q,ent P cl sh rw)::(q',ent P' cl' sh' rw')::cs P' S' S' []):=gr (A:=[])
   rw [e] at H
   exact H.perm perm_a.symm
 · obtain ⟨δ2,ch2,P1,S1,x,q2,H,hs,hm,ok1⟩:=lA (c:=c) (q:=q') hδ h.snd h.ok' hk (h.hv.at 0 rfl) (by rw [e];rfl) (h.hv.at 2 rfl)
   refine ⟨δ2,ch2,P,P1,S,S1,x,q2,⟨?_,h.ok.up (by omega),ok1⟩⟩
   rw [<- uS (P:=P') hs hm]
   have e:cs P1 S1 S1 ((0,.lst [.ref q,.ref q'])::(q,ent P cl sh rw)::(q',ent P' cl' sh' rw')::cs P S S [])=cs P1 S1 S1 []++((0,.lst [.ref q,.ref q'])::(q,ent P cl sh rw)::(q',ent P' cl' sh' rw')::cs P S S []):=gr (A:=[])
   rw [e] at H
   exact H.perm perm_b.symm
def uU (ns:List Int):∀ {δ:Sl} {ch:CH} {k:Nat} {P P':Pl} {S S':Sta},S8 sc δ->Two cl sh cl' sh' rw rw' q q' P P' S S' k ch->k+ns.length<=400->∃ δ2 ch2 P1 P1' S1 S1',fK [4] (aq 4) z43 (ns.map .int) δ ch=some (.nx δ2 ch2)/\S8 sc δ2/\Two cl sh cl' sh' rw rw' q q' P1 P1' S1 S1' (k+ns.length) ch2:=by
 induction ns with
 | nil =>
  intro δ ch k P P' S S' hδ h _
  exact ⟨δ,ch,P,P',S,S',rfl,hδ,h⟩
 | cons c ns ih =>
  intro δ ch k P P' S S' hδ h hk
  rw [List.length_cons] at hk
  obtain ⟨δ1,c1,P1,P1',S1,S1',e1,q1,h1⟩:=uT (c:=c) hδ h (by omega)
  obtain ⟨δ2,c2,P2,P2',S2,S2',e2,q2,h2⟩:=ih q1 h1 (by omega)
  refine ⟨δ2,c2,P2,P2',S2,S2',?_,q2,by rw [List.length_cons,show k+(ns.length+1)=k+1+ns.length by omega];exact h2⟩
  rw [List.map_cons,il (by rw [hδ.len];decide) e1,e2]
end
def uV (ns:List Int) (h:ns.length<=63):∃ ms:List Int,ms.length<=63/\gSl (.lst (ns.map .int)) (some 8) (some 48)=some (.lst (ms.map .int)):=by
 refine ⟨(ns.drop (HT.sIx (ns.map Dt.int).length 0 (some 8))).take (HT.sIx (ns.map Dt.int).length (ns.map Dt.int).length (some 48)-HT.sIx (ns.map Dt.int).length 0 (some 8)),?_,?_⟩
 · simp only [List.length_take,List.length_drop]
   omega
 · show some (T.lst (L2.vK (ns.map Dt.int) (some 8) (some 48)))=_
   unfold L2.vK
   rw [List.map_take,List.map_drop]
def main (ns:List Int) (h:ns.length<=63):∃ ch',qv [.dat (.lst (ns.map .int))] []=some (.dat (.bl true),ch'):=by
 have q0:S8 (.lst (ns.map .int)) [some (.dat (.lst (ns.map .int))),some (.ref 0),none,none,none,none,none,none]:=⟨rfl,rfl,rfl⟩
 have H0:Hv [CO.lst []] [(0,.lst [])]:=⟨by simp,fun x hx=>by
  rw [List.mem_singleton.mp hx]
  rfl⟩
 have x0:bO 1 (eN (bg am)) [some (.dat (.lst (ns.map .int))),none,none,none,none,none,none,none] []=some (.nx [some (.dat (.lst (ns.map .int))),some (.ref 0),none,none,none,none,none,none] [CO.lst []]):=rfl
 generalize ([some (.dat (.lst (ns.map .int))),some (.ref 0),none,none,none,none,none,none]:Sl)=δ0 at q0 x0
 generalize [CO.lst []]=c0 at H0 x0
 obtain ⟨δ1,c1,P,S,cl,sh,rw1,q,e1,q1,ok1,H1⟩:=uQ (k:=0) (by decide) q0 H0 (by simp)
 obtain ⟨δ2,c2,P',S',cl',sh',rw2,q',e2,q2,ok2,H2⟩:=uQ (k:=1) (by decide) q1 H1 (by simp)
 have x1:b8 (cP cX (ab (kD (.int 2)) am)) [2] (aq 2) z53 δ0 c0=some (.nx δ2 c2):=by
  unfold b8
  rw [show cP cX (ab (kD (.int 2)) am) (lo δ0 c0)=some [.int ((0:Nat):Int),.int ((1:Nat):Int)] from rfl,Option.bind_some,il (by rw [q0.len];decide) e1,il (by rw [q1.len];decide) e2]
  rfl
 have T0:Two cl sh cl' sh' rw1 rw2 q q' P P' S S' 10 c2:=⟨by
  refine H2.perm ?_
  refine List.Perm.cons _ ?_
  have e:cs P' S' S' ((q,ent P cl sh rw1)::cs P S S [])=cs P' S' S' []++((q,ent P cl sh rw1)::cs P S S []):=gr (A:=[])
  rw [e]
  refine List.Perm.trans (List.Perm.cons _ List.perm_middle) (List.Perm.trans (List.Perm.swap _ _ _) (List.Perm.cons _ (List.Perm.cons _ List.perm_append_comm))),ok1,ok2⟩
 obtain ⟨ms,hm,es⟩:=uV ns h
 obtain ⟨δ3,c3,P3,P3',S3,S3',e3,q3,T3⟩:=uU ms q2 T0 (by omega)
 have x2:b8 (fIt (toD (vSl (vB 0) (iP (kD (.int 8))) (iP (kD (.int 48)))))) [4] (aq 4) z43 δ2 c2=some (.nx δ3 c3):=by
  unfold b8
  have ei:fIt (toD (vSl (vB 0) (iP (kD (.int 8))) (iP (kD (.int 48))))) (lo δ2 c2)=some (ms.map .int):=by
   unfold fIt toD vSl
   rw [dw q2.s0]
   show (((gSl (.lst (ns.map .int)) (some 8) (some 48)).map T.d).bind _)=_
   rw [es]
   rfl
  rw [ei,Option.bind_some]
  exact e3
 obtain ⟨δa,δ4,c4,a1,a2,q4,H4⟩:=lB q3 T3.fst T3.ok (by omega) (T3.hv.at 1 rfl)
 have T4:Two cl sh cl' sh' rw1 rw2 q q' P3 P3' S3 S3' (10+ms.length) c4:=⟨by
  have e:cs P3 S3 S3 ((0,.lst [.ref q,.ref q'])::(q,ent P3 cl sh rw1)::(q',ent P3' cl' sh' rw2)::cs P3' S3' S3' [])=cs P3 S3 S3 []++((0,.lst [.ref q,.ref q'])::(q,ent P3 cl sh rw1)::(q',ent P3' cl' sh' rw2)::cs P3' S3' S3' []):=gr (A:=[])
  rw [e] at H4
  exact H4.perm perm_a.symm,T3.ok,T3.ok'⟩
 obtain ⟨δb,δ5,c5,b1,b2,q5,H5⟩:=lB q4 T4.snd T4.ok' (by omega) (T4.hv.at 2 rfl)
 have h5:c5[0]?=some (.lst [.ref q,.ref q']):=(H5.perm uP).at 0 rfl
 have x3:jV (eV 1) (ggT 3 (bw (ggN 6) (bw (ggN 3) (bw (ggN 7) gH)))) q53 100000 δ3 c3=some (.nx δ5 c5):=by
  unfold jV
  rw [aN q3.s1,Option.bind_some]
  exact (lD (n:=99999) (T3.hv.at 0 rfl) (j:=0) rfl a1 a2).trans ((lD (n:=99998) (T4.hv.at 0 rfl) (j:=1) rfl b1 b2).trans (uR (n:=99997) h5 rfl))
 refine ⟨c5,?_⟩
 unfold qv
 rw [bV]
 show tT (aI (bO 1 (eN (bg am))) _ [some (.dat (.lst (ns.map .int))),none,none,none,none,none,none,none] [])=_
 rw [aC,x0,ax,aC,x1,ax,aC,x2,ax,aC,x3,ax]
 rfl
def mH (K:PySem.W.Frag):Sp:=fun vs H Q _=>∃ (a:Addr) (ns:List Int),vs=[.ref a]/\SqL K H a (ns.map V.int)/\ns.length<=63/\vj H/\∀ H',Q (.bl true) H'
def yP {K:PySem.W.Frag} {vs:List V} {H:Hp} {Q:VK} {E:XK} (h:mH K vs H Q E):spG K 1 qv vs H Q E:=by
 obtain ⟨a,ns,rfl,hS,hl,hO,q⟩:=h
 obtain ⟨ch',hm⟩:=main ns hl
 refine ⟨H,fun _=>a,[.dat (.lst (ns.map .int))],[],.dat (.bl true),ch',⟨Same.refl H,fun i j hi=>absurd hi (Nat.not_lt_zero _),fun i hi=>absurd hi (Nat.not_lt_zero _),fun i o h=>by simp at h⟩,rfl,⟨_,[],rfl,?_,rfl⟩,hm,fun v F' H' ρ' _ o=>?_⟩
 · show Rep K H (.lst (ns.map .int)) (.ref a)
   simp only [Rep]
   exact ⟨a,_,rfl,hS,Reps.map (fun _=>jd) ns⟩
 · have o:Rep K F' (.bl true) v:=o
   simp only [Rep] at o
   subst o
   exact q H'
def all_mk {l:PySem.W.OpenLaw} {w:World} {K:PySem.W.Frag} {h:Heap} {mg:Str->Option Value} {fa:Addr} (X:K.In h) (G:h.Ns mainGlobals mg) (hfa:mg "law"=some (.ref fa))
  {C_Store:Addr} (ac_Store:PySem.W.nsIn K mainGlobals "Store"=some (some (.ref C_Store))) (pg_Store:PySem.W.plainGet K C_Store Str.empty=true) (hd_Store:PySem.W.hasDictIn K C_Store=true) (po_Store:PySem.W.plainOver K C_Store=true) (sa_Store:PySem.W.findIn K (.ref C_Store) "__setattr__"=some (some (.builtin "object.__setattr__")))
  (mk_Store:PySem.W.makesIn K C_Store=true) (kc_Store:PySem.W.keepIn K (.ref C_Store)=true)
  (nf_Store_counting:PySem.W.findIn K (.ref C_Store) "counting"=some none)
  (nf_Store_heads:PySem.W.findIn K (.ref C_Store) "heads"=some none)
  (nf_Store_home:PySem.W.findIn K (.ref C_Store) "home"=some none)
  (nf_Store_page_boxes:PySem.W.findIn K (.ref C_Store) "page_boxes"=some none)
  (nf_Store_page_turns:PySem.W.findIn K (.ref C_Store) "page_turns"=some none)
  (nf_Store_result:PySem.W.findIn K (.ref C_Store) "result"=some none)
  {f0 f1 f2 f3 f4 f5 f6 f7 f8 f9 f10 f11 f12 f13 f14 f15 f16 f17 f18 f19 f20 f21 f22:Addr} {od0 an0 od1 an1 od2 an2 od3 an3 od4 an4 od5 an5 od6 an6 od7 an7 od8 an8 od9 an9 od10 an10 od11 an11 od12 an12 od13 an13 od14 an14 od15 an15 od16 an16 od17 an17 od18 an18 od19 an19 od20 an20 od21 an21 od22 an22:Option Addr} {sl0 sl1 sl2 sl3 sl4 sl5 sl6 sl7 sl8 sl9 sl10 sl11 sl12 sl13 sl14 sl15 sl16 sl17 sl18 sl19 sl20 sl21 sl22:Array (Option Value)} {oc0 kV0 dc0 pm0 cd0 ct0 oc1 kV1 dc1 pm1 cd1 ct1 oc2 kV2 dc2 pm2 cd2 ct2 oc3 kV3 dc3 pm3 cd3 ct3 oc4 kV4 dc4 pm4 cd4 ct4 oc5 kV5 dc5 pm5 cd5 ct5 oc6 kV6 dc6 pm6 cd6 ct6 oc7 kV7 dc7 pm7 cd7 ct7 oc8 kV8 dc8 pm8 cd8 ct8 oc9 kV9 dc9 pm9 cd9 ct9 oc10 kV10 dc10 pm10 cd10 ct10 oc11 kV11 dc11 pm11 cd11 ct11 oc12 kV12 dc12 pm12 cd12 ct12 oc13 kV13 dc13 pm13 cd13 ct13 oc14 kV14 dc14 pm14 cd14 ct14 oc15 kV15 dc15 pm15 cd15 ct15 oc16 kV16 dc16 pm16 cd16 ct16 oc17 kV17 dc17 pm17 cd17 ct17 oc18 kV18 dc18 pm18 cd18 ct18 oc19 kV19 dc19 pm19 cd19 ct19 oc20 kV20 dc20 pm20 cd20 ct20 oc21 kV21 dc21 pm21 cd21 ct21 oc22 kV22 dc22 pm22 cd22 ct22:Value}
  (a0:PySem.W.nsIn K mainGlobals "_law_part"=some (some (.ref f0)))
  (l0:K.lookup f0=some ⟨oc0,od0,.func (PySem.W.fnOf "_law_part" "_law_part" (aZ q29) (aO q29) (ac q29) .none kV0 dc0 pm0 an0 cd0 ct0),sl0⟩) (c0:PySem.W.codeIn K cd0 "_law_part"=true) (k0:PySem.W.keepIn K (.ref f0)=true)
  (a1:PySem.W.nsIn K mainGlobals "_law_name"=some (some (.ref f1)))
  (l1:K.lookup f1=some ⟨oc1,od1,.func (PySem.W.fnOf "_law_name" "_law_name" (aZ z11) (aO z11) (ac z11) .none kV1 dc1 pm1 an1 cd1 ct1),sl1⟩) (c1:PySem.W.codeIn K cd1 "_law_name"=true) (k1:PySem.W.keepIn K (.ref f1)=true)
  (a2:PySem.W.nsIn K mainGlobals "_law_program"=some (some (.ref f2)))
  (l2:K.lookup f2=some ⟨oc2,od2,.func (PySem.W.fnOf "_law_program" "_law_program" (aZ z13) (aO z13) (ac z13) .none kV2 dc2 pm2 an2 cd2 ct2),sl2⟩) (c2:PySem.W.codeIn K cd2 "_law_program"=true) (k2:PySem.W.keepIn K (.ref f2)=true)
  (a3:PySem.W.nsIn K mainGlobals "_law_cell"=some (some (.ref f3)))
  (l3:K.lookup f3=some ⟨oc3,od3,.func (PySem.W.fnOf "_law_cell" "_law_cell" (aZ y25) (aO y25) (ac y25) .none kV3 dc3 pm3 an3 cd3 ct3),sl3⟩) (c3:PySem.W.codeIn K cd3 "_law_cell"=true) (k3:PySem.W.keepIn K (.ref f3)=true)
  (a4:PySem.W.findIn K (.ref C_Store) "__init__"=some (some (.ref f4))) (i4:PySem.W.isFn K (.ref f4)=true)
  (l4:K.lookup f4=some ⟨oc4,od4,.func (PySem.W.fnOf "__init__" "Store.__init__" (aZ z5) (aO z5) (ac z5) .none kV4 dc4 pm4 an4 cd4 ct4),sl4⟩) (c4:PySem.W.codeIn K cd4 "Store.__init__"=true) (k4:PySem.W.keepIn K (.ref f4)=true)
  (a5:PySem.W.nsIn K mainGlobals "_law_model"=some (some (.ref f5)))
  (l5:K.lookup f5=some ⟨oc5,od5,.func (PySem.W.fnOf "_law_model" "_law_model" (aZ y15) (aO y15) (ac y15) .none kV5 dc5 pm5 an5 cd5 ct5),sl5⟩) (c5:PySem.W.codeIn K cd5 "_law_model"=true) (k5:PySem.W.keepIn K (.ref f5)=true)
  (a6:PySem.W.nsIn K mainGlobals "_law_same"=some (some (.ref f6)))
  (l6:K.lookup f6=some ⟨oc6,od6,.func (PySem.W.fnOf "_law_same" "_law_same" (aZ z6) (aO z6) (ac z6) .none kV6 dc6 pm6 an6 cd6 ct6),sl6⟩) (c6:PySem.W.codeIn K cd6 "_law_same"=true) (k6:PySem.W.keepIn K (.ref f6)=true)
  (a7:PySem.W.findIn K (.ref C_Store) "shelf"=some (some (.ref f7))) (i7:PySem.W.isFn K (.ref f7)=true)
  (l7:K.lookup f7=some ⟨oc7,od7,.func (PySem.W.fnOf "shelf" "Store.shelf" (aZ q17) (aO q17) (ac q17) .none kV7 dc7 pm7 an7 cd7 ct7),sl7⟩) (c7:PySem.W.codeIn K cd7 "Store.shelf"=true) (k7:PySem.W.keepIn K (.ref f7)=true)
  (a8:PySem.W.findIn K (.ref C_Store) "page"=some (some (.ref f8))) (i8:PySem.W.isFn K (.ref f8)=true)
  (l8:K.lookup f8=some ⟨oc8,od8,.func (PySem.W.fnOf "page" "Store.page" (aZ y18) (aO y18) (ac y18) .none kV8 dc8 pm8 an8 cd8 ct8),sl8⟩) (c8:PySem.W.codeIn K cd8 "Store.page"=true) (k8:PySem.W.keepIn K (.ref f8)=true)
  (a9:PySem.W.findIn K (.ref C_Store) "answer"=some (some (.ref f9))) (i9:PySem.W.isFn K (.ref f9)=true)
  (l9:K.lookup f9=some ⟨oc9,od9,.func (PySem.W.fnOf "answer" "Store.answer" (aZ y17) (aO y17) (ac y17) .none kV9 dc9 pm9 an9 cd9 ct9),sl9⟩) (c9:PySem.W.codeIn K cd9 "Store.answer"=true) (k9:PySem.W.keepIn K (.ref f9)=true)
  (a10:PySem.W.findIn K (.ref C_Store) "face"=some (some (.ref f10))) (i10:PySem.W.isFn K (.ref f10)=true)
  (l10:K.lookup f10=some ⟨oc10,od10,.func (PySem.W.fnOf "face" "Store.face" (aZ y21) (aO y21) (ac y21) .none kV10 dc10 pm10 an10 cd10 ct10),sl10⟩) (c10:PySem.W.codeIn K cd10 "Store.face"=true) (k10:PySem.W.keepIn K (.ref f10)=true)
  (a11:PySem.W.findIn K (.ref C_Store) "cell"=some (some (.ref f11))) (i11:PySem.W.isFn K (.ref f11)=true)
  (l11:K.lookup f11=some ⟨oc11,od11,.func (PySem.W.fnOf "cell" "Store.cell" (aZ z21) (aO z21) (ac z21) .none kV11 dc11 pm11 an11 cd11 ct11),sl11⟩) (c11:PySem.W.codeIn K cd11 "Store.cell"=true) (k11:PySem.W.keepIn K (.ref f11)=true)
  (a12:PySem.W.findIn K (.ref C_Store) "get_home"=some (some (.ref f12))) (i12:PySem.W.isFn K (.ref f12)=true)
  (l12:K.lookup f12=some ⟨oc12,od12,.func (PySem.W.fnOf "get_home" "Store.get_home" (aZ y14) (aO y14) (ac y14) .none kV12 dc12 pm12 an12 cd12 ct12),sl12⟩) (c12:PySem.W.codeIn K cd12 "Store.get_home"=true) (k12:PySem.W.keepIn K (.ref f12)=true)
  (a13:PySem.W.nsIn K mainGlobals "_law_told"=some (some (.ref f13)))
  (l13:K.lookup f13=some ⟨oc13,od13,.func (PySem.W.fnOf "_law_told" "_law_told" (aZ z12) (aO z12) (ac z12) .none kV13 dc13 pm13 an13 cd13 ct13),sl13⟩) (c13:PySem.W.codeIn K cd13 "_law_told"=true) (k13:PySem.W.keepIn K (.ref f13)=true)
  (a14:PySem.W.findIn K (.ref C_Store) "give"=some (some (.ref f14))) (i14:PySem.W.isFn K (.ref f14)=true)
  (l14:K.lookup f14=some ⟨oc14,od14,.func (PySem.W.fnOf "give" "Store.give" (aZ q21) (aO q21) (ac q21) .none kV14 dc14 pm14 an14 cd14 ct14),sl14⟩) (c14:PySem.W.codeIn K cd14 "Store.give"=true) (k14:PySem.W.keepIn K (.ref f14)=true)
  (a15:PySem.W.findIn K (.ref C_Store) "other"=some (some (.ref f15))) (i15:PySem.W.isFn K (.ref f15)=true)
  (l15:K.lookup f15=some ⟨oc15,od15,.func (PySem.W.fnOf "other" "Store.other" (aZ q19) (aO q19) (ac q19) .none kV15 dc15 pm15 an15 cd15 ct15),sl15⟩) (c15:PySem.W.codeIn K cd15 "Store.other"=true) (k15:PySem.W.keepIn K (.ref f15)=true)
  (a16:PySem.W.findIn K (.ref C_Store) "keep_turn"=some (some (.ref f16))) (i16:PySem.W.isFn K (.ref f16)=true)
  (l16:K.lookup f16=some ⟨oc16,od16,.func (PySem.W.fnOf "keep_turn" "Store.keep_turn" (aZ y13) (aO y13) (ac y13) .none kV16 dc16 pm16 an16 cd16 ct16),sl16⟩) (c16:PySem.W.codeIn K cd16 "Store.keep_turn"=true) (k16:PySem.W.keepIn K (.ref f16)=true)
  (a17:PySem.W.findIn K (.ref C_Store) "keep_box"=some (some (.ref f17))) (i17:PySem.W.isFn K (.ref f17)=true)
  (l17:K.lookup f17=some ⟨oc17,od17,.func (PySem.W.fnOf "keep_box" "Store.keep_box" (aZ z14) (aO z14) (ac z14) .none kV17 dc17 pm17 an17 cd17 ct17),sl17⟩) (c17:PySem.W.codeIn K cd17 "Store.keep_box"=true) (k17:PySem.W.keepIn K (.ref f17)=true)
  (a18:PySem.W.findIn K (.ref C_Store) "begin_page"=some (some (.ref f18))) (i18:PySem.W.isFn K (.ref f18)=true)
  (l18:K.lookup f18=some ⟨oc18,od18,.func (PySem.W.fnOf "begin_page" "Store.begin_page" (aZ q13) (aO q13) (ac q13) .none kV18 dc18 pm18 an18 cd18 ct18),sl18⟩) (c18:PySem.W.codeIn K cd18 "Store.begin_page"=true) (k18:PySem.W.keepIn K (.ref f18)=true)
  (a19:PySem.W.findIn K (.ref C_Store) "turn"=some (some (.ref f19))) (i19:PySem.W.isFn K (.ref f19)=true)
  (l19:K.lookup f19=some ⟨oc19,od19,.func (PySem.W.fnOf "turn" "Store.turn" (aZ q22) (aO q22) (ac q22) .none kV19 dc19 pm19 an19 cd19 ct19),sl19⟩) (c19:PySem.W.codeIn K cd19 "Store.turn"=true) (k19:PySem.W.keepIn K (.ref f19)=true)
  (a20:PySem.W.findIn K (.ref C_Store) "put"=some (some (.ref f20))) (i20:PySem.W.isFn K (.ref f20)=true)
  (l20:K.lookup f20=some ⟨oc20,od20,.func (PySem.W.fnOf "put" "Store.put" (aZ y24) (aO y24) (ac y24) .none kV20 dc20 pm20 an20 cd20 ct20),sl20⟩) (c20:PySem.W.codeIn K cd20 "Store.put"=true) (k20:PySem.W.keepIn K (.ref f20)=true)
  (a21:PySem.W.nsIn K mainGlobals "_law_deed"=some (some (.ref f21)))
  (l21:K.lookup f21=some ⟨oc21,od21,.func (PySem.W.fnOf "_law_deed" "_law_deed" (aZ z18) (aO z18) (ac z18) .none kV21 dc21 pm21 an21 cd21 ct21),sl21⟩) (c21:PySem.W.codeIn K cd21 "_law_deed"=true) (k21:PySem.W.keepIn K (.ref f21)=true)
  (a22:PySem.W.nsIn K mainGlobals "law"=some (some (.ref f22)))
  (l22:K.lookup f22=some ⟨oc22,od22,.func (PySem.W.fnOf "law" "law" (aZ bZ) (aO bZ) (ac bZ) .none kV22 dc22 pm22 an22 cd22 ct22),sl22⟩) (c22:PySem.W.codeIn K cd22 "law"=true) (k22:PySem.W.keepIn K (.ref f22)=true)
  (z_all:PySem.W.nsIn K mainGlobals "all"=some none)
  (z_bool:PySem.W.nsIn K mainGlobals "bool"=some none)
  (z_dict:PySem.W.nsIn K mainGlobals "dict"=some none)
  (z_int:PySem.W.nsIn K mainGlobals "int"=some none)
  (z_isinstance:PySem.W.nsIn K mainGlobals "isinstance"=some none)
  (z_len:PySem.W.nsIn K mainGlobals "len"=some none)
  (z_list:PySem.W.nsIn K mainGlobals "list"=some none)
  (z_range:PySem.W.nsIn K mainGlobals "range"=some none)
  (z_sorted:PySem.W.nsIn K mainGlobals "sorted"=some none)
  (z_tuple:PySem.W.nsIn K mainGlobals "tuple"=some none)
  (x_int_NoneType:PySem.W.kitOne K (.type "NoneType") (.type "int")=some false)
  (x_int_bool:PySem.W.kitOne K (.type "bool") (.type "int")=some true)
  (x_int_int:PySem.W.kitOne K (.type "int") (.type "int")=some true)
  (x_int_str:PySem.W.kitOne K (.type "str") (.type "int")=some false)
  (x_int_tuple:PySem.W.kitOne K (.type "tuple") (.type "int")=some false)
  (x_int_list:PySem.W.kitOne K (.type "list") (.type "int")=some false)
  (x_int_dict:PySem.W.kitOne K (.type "dict") (.type "int")=some false)
  (x_bool_NoneType:PySem.W.kitOne K (.type "NoneType") (.type "bool")=some false)
  (x_bool_bool:PySem.W.kitOne K (.type "bool") (.type "bool")=some true)
  (x_bool_int:PySem.W.kitOne K (.type "int") (.type "bool")=some false)
  (x_bool_str:PySem.W.kitOne K (.type "str") (.type "bool")=some false)
  (x_bool_tuple:PySem.W.kitOne K (.type "tuple") (.type "bool")=some false)
  (x_bool_list:PySem.W.kitOne K (.type "list") (.type "bool")=some false)
  (x_bool_dict:PySem.W.kitOne K (.type "dict") (.type "bool")=some false)
  (x_tuple_NoneType:PySem.W.kitOne K (.type "NoneType") (.type "tuple")=some false)
  (x_tuple_bool:PySem.W.kitOne K (.type "bool") (.type "tuple")=some false)
  (x_tuple_int:PySem.W.kitOne K (.type "int") (.type "tuple")=some false)
  (x_tuple_str:PySem.W.kitOne K (.type "str") (.type "tuple")=some false)
  (x_tuple_tuple:PySem.W.kitOne K (.type "tuple") (.type "tuple")=some true)
  (x_tuple_list:PySem.W.kitOne K (.type "list") (.type "tuple")=some false)
  (x_tuple_dict:PySem.W.kitOne K (.type "dict") (.type "tuple")=some false)
  (x_list_NoneType:PySem.W.kitOne K (.type "NoneType") (.type "list")=some false)
  (x_list_bool:PySem.W.kitOne K (.type "bool") (.type "list")=some false)
  (x_list_int:PySem.W.kitOne K (.type "int") (.type "list")=some false)
  (x_list_str:PySem.W.kitOne K (.type "str") (.type "list")=some false)
  (x_list_tuple:PySem.W.kitOne K (.type "tuple") (.type "list")=some false)
  (x_list_list:PySem.W.kitOne K (.type "list") (.type "list")=some true)
  (x_list_dict:PySem.W.kitOne K (.type "dict") (.type "list")=some false)
  : ∃ fd:FuncData,(∀ (s:Shared) (v:Value),BindsTo s fd ⟨[v],[]⟩ [("_law_script",v)])/\∀ base:Heap,K.In base->base.Ns mainGlobals mg->FnOk l.prog w K mg base CX0 9 fa fd ["_law_script"] (mH K):=by
 have e:=hfa.symm.trans (PySem.W.mg_of X G a22)
 cases e
 have T:Txt l.prog w K mg:={n_all:=PySem.W.mg_none_of X G z_all,n_bool:=PySem.W.mg_none_of X G z_bool,n_dict:=PySem.W.mg_none_of X G z_dict,n_int:=PySem.W.mg_none_of X G z_int,n_isinstance:=PySem.W.mg_none_of X G z_isinstance,n_len:=PySem.W.mg_none_of X G z_len,n_list:=PySem.W.mg_none_of X G z_list,n_range:=PySem.W.mg_none_of X G z_range,n_sorted:=PySem.W.mg_none_of X G z_sorted,n_tuple:=PySem.W.mg_none_of X G z_tuple,k_int:=fun d hd=>(by cases d<;>first | (cases hd;done) | exact x_int_NoneType | exact x_int_bool | exact x_int_int | exact x_int_str | exact x_int_tuple | exact x_int_list | exact x_int_dict),k_bool:=fun d hd=>(by cases d<;>first | (cases hd;done) | exact x_bool_NoneType | exact x_bool_bool | exact x_bool_int | exact x_bool_str | exact x_bool_tuple | exact x_bool_list | exact x_bool_dict),k_tuple:=fun d hd=>(by cases d<;>first | (cases hd;done) | exact x_tuple_NoneType | exact x_tuple_bool | exact x_tuple_int | exact x_tuple_str | exact x_tuple_tuple | exact x_tuple_list | exact x_tuple_dict),k_list:=fun d hd=>(by cases d<;>first | (cases hd;done) | exact x_list_NoneType | exact x_list_bool | exact x_list_int | exact x_list_str | exact x_list_tuple | exact x_list_list | exact x_list_dict),f_Store_counting:=⟨C_Store,ac_Store,⟨pg_Store,hd_Store,po_Store,sa_Store⟩,nf_Store_counting⟩,f_Store_heads:=⟨C_Store,ac_Store,⟨pg_Store,hd_Store,po_Store,sa_Store⟩,nf_Store_heads⟩,f_Store_home:=⟨C_Store,ac_Store,⟨pg_Store,hd_Store,po_Store,sa_Store⟩,nf_Store_home⟩,f_Store_page_boxes:=⟨C_Store,ac_Store,⟨pg_Store,hd_Store,po_Store,sa_Store⟩,nf_Store_page_boxes⟩,f_Store_page_turns:=⟨C_Store,ac_Store,⟨pg_Store,hd_Store,po_Store,sa_Store⟩,nf_Store_page_turns⟩,f_Store_result:=⟨C_Store,ac_Store,⟨pg_Store,hd_Store,po_Store,sa_Store⟩,nf_Store_result⟩}
 have D0:DefF K mg "_law_part" q29 ["_law_cell_here","_law_j","_law_many"]:=DefF.mk' X G a0 l0 c0 k0 fun _ _ _ _ _ _ us hl=>match us,hl with | [_,_,_],_=>rfl
 have D1:DefF K mg "_law_name" z11 ["_law_base","_law_k"]:=DefF.mk' X G a1 l1 c1 k1 fun _ _ _ _ _ _ us hl=>match us,hl with | [_,_],_=>rfl
 have D2:DefF K mg "_law_program" z13 ["_law_cell_here","_law_base"]:=DefF.mk' X G a2 l2 c2 k2 fun _ _ _ _ _ _ us hl=>match us,hl with | [_,_],_=>rfl
 have D3:DefF K mg "_law_cell" y25 ["_law_script","_law_k"]:=DefF.mk' X G a3 l3 c3 k3 fun _ _ _ _ _ _ us hl=>match us,hl with | [_,_],_=>rfl
 have FF4:=ca (st:=z5) l4 c4 k4
 have D4:DefI K mg "Store" "Store.__init__" z5 ["self","program","begin"]:=⟨C_Store,_,_,ac_Store,PySem.W.mg_of X G ac_Store,⟨mk_Store,a4,i4,kc_Store⟩,FF4.binds (fun _ _ _ _ _ _ us hl=>match us,hl with | [_,_,_],_=>rfl),FF4⟩
 have D5:DefF K mg "_law_model" y15 ["_law_program_here","_law_begin"]:=DefF.mk' X G a5 l5 c5 k5 fun _ _ _ _ _ _ us hl=>match us,hl with | [_,_],_=>rfl
 have D6:DefF K mg "_law_same" z6 ["_law_found","_law_due"]:=DefF.mk' X G a6 l6 c6 k6 fun _ _ _ _ _ _ us hl=>match us,hl with | [_,_],_=>rfl
 have FF7:=ca (st:=q17) l7 c7 k7
 have D7:DefM K "Store" "shelf" "Store.shelf" q17 ["self","name"]:=⟨C_Store,_,_,ac_Store,⟨pg_Store,hd_Store,po_Store,sa_Store⟩,⟨a7,i7,k7⟩,FF7.binds (fun _ _ _ _ _ _ us hl=>match us,hl with | [_,_],_=>rfl),FF7⟩
 have FF8:=ca (st:=y18) l8 c8 k8
 have D8:DefM K "Store" "page" "Store.page" y18 ["self","number"]:=⟨C_Store,_,_,ac_Store,⟨pg_Store,hd_Store,po_Store,sa_Store⟩,⟨a8,i8,k8⟩,FF8.binds (fun _ _ _ _ _ _ us hl=>match us,hl with | [_,_],_=>rfl),FF8⟩
 have FF9:=ca (st:=y17) l9 c9 k9
 have D9:DefM K "Store" "answer" "Store.answer" y17 ["self"]:=⟨C_Store,_,_,ac_Store,⟨pg_Store,hd_Store,po_Store,sa_Store⟩,⟨a9,i9,k9⟩,FF9.binds (fun _ _ _ _ _ _ us hl=>match us,hl with | [_],_=>rfl),FF9⟩
 have FF10:=ca (st:=y21) l10 c10 k10
 have D10:DefM K "Store" "face" "Store.face" y21 ["self"]:=⟨C_Store,_,_,ac_Store,⟨pg_Store,hd_Store,po_Store,sa_Store⟩,⟨a10,i10,k10⟩,FF10.binds (fun _ _ _ _ _ _ us hl=>match us,hl with | [_],_=>rfl),FF10⟩
 have FF11:=ca (st:=z21) l11 c11 k11
 have D11:DefM K "Store" "cell" "Store.cell" z21 ["self","name"]:=⟨C_Store,_,_,ac_Store,⟨pg_Store,hd_Store,po_Store,sa_Store⟩,⟨a11,i11,k11⟩,FF11.binds (fun _ _ _ _ _ _ us hl=>match us,hl with | [_,_],_=>rfl),FF11⟩
 have FF12:=ca (st:=y14) l12 c12 k12
 have D12:DefM K "Store" "get_home" "Store.get_home" y14 ["self","name","place"]:=⟨C_Store,_,_,ac_Store,⟨pg_Store,hd_Store,po_Store,sa_Store⟩,⟨a12,i12,k12⟩,FF12.binds (fun _ _ _ _ _ _ us hl=>match us,hl with | [_,_,_],_=>rfl),FF12⟩
 have D13:DefF K mg "_law_told" z12 ["_law_store","_law_program_here","_law_model_here"]:=DefF.mk' X G a13 l13 c13 k13 fun _ _ _ _ _ _ us hl=>match us,hl with | [_,_,_],_=>rfl
 have FF14:=ca (st:=q21) l14 c14 k14
 have D14:DefM K "Store" "give" "Store.give" q21 ["self","value"]:=⟨C_Store,_,_,ac_Store,⟨pg_Store,hd_Store,po_Store,sa_Store⟩,⟨a14,i14,k14⟩,FF14.binds (fun _ _ _ _ _ _ us hl=>match us,hl with | [_,_],_=>rfl),FF14⟩
 have FF15:=ca (st:=q19) l15 c15 k15
 have D15:DefM K "Store" "other" "Store.other" q19 ["self"]:=⟨C_Store,_,_,ac_Store,⟨pg_Store,hd_Store,po_Store,sa_Store⟩,⟨a15,i15,k15⟩,FF15.binds (fun _ _ _ _ _ _ us hl=>match us,hl with | [_],_=>rfl),FF15⟩
 have FF16:=ca (st:=y13) l16 c16 k16
 have D16:DefM K "Store" "keep_turn" "Store.keep_turn" y13 ["self","name","place","value"]:=⟨C_Store,_,_,ac_Store,⟨pg_Store,hd_Store,po_Store,sa_Store⟩,⟨a16,i16,k16⟩,FF16.binds (fun _ _ _ _ _ _ us hl=>match us,hl with | [_,_,_,_],_=>rfl),FF16⟩
 have FF17:=ca (st:=z14) l17 c17 k17
 have D17:DefM K "Store" "keep_box" "Store.keep_box" z14 ["self","name","value"]:=⟨C_Store,_,_,ac_Store,⟨pg_Store,hd_Store,po_Store,sa_Store⟩,⟨a17,i17,k17⟩,FF17.binds (fun _ _ _ _ _ _ us hl=>match us,hl with | [_,_,_],_=>rfl),FF17⟩
 have FF18:=ca (st:=q13) l18 c18 k18
 have D18:DefM K "Store" "begin_page" "Store.begin_page" q13 ["self","row","count","heard","sent"]:=⟨C_Store,_,_,ac_Store,⟨pg_Store,hd_Store,po_Store,sa_Store⟩,⟨a18,i18,k18⟩,FF18.binds (fun _ _ _ _ _ _ us hl=>match us,hl with | [_,_,_,_,_],_=>rfl),FF18⟩
 have FF19:=ca (st:=q22) l19 c19 k19
 have D19:DefM K "Store" "turn" "Store.turn" q22 ["self"]:=⟨C_Store,_,_,ac_Store,⟨pg_Store,hd_Store,po_Store,sa_Store⟩,⟨a19,i19,k19⟩,FF19.binds (fun _ _ _ _ _ _ us hl=>match us,hl with | [_],_=>rfl),FF19⟩
 have FF20:=ca (st:=y24) l20 c20 k20
 have D20:DefM K "Store" "put" "Store.put" y24 ["self","name","place","value"]:=⟨C_Store,_,_,ac_Store,⟨pg_Store,hd_Store,po_Store,sa_Store⟩,⟨a20,i20,k20⟩,FF20.binds (fun _ _ _ _ _ _ us hl=>match us,hl with | [_,_,_,_],_=>rfl),FF20⟩
 have D21:DefF K mg "_law_deed" z18 ["_law_store","_law_model_here","_law_cell_here"]:=DefF.mk' X G a21 l21 c21 k21 fun _ _ _ _ _ _ us hl=>match us,hl with | [_,_,_],_=>rfl
 refine ⟨PySem.W.fnOf "law" "law" (aZ bZ) (aO bZ) (ac bZ) .none kV22 dc22 pm22 an22 cd22 ct22,fun s v=>.of_eq rfl,fun base _ _=>?_⟩
 have z8:=y63 (P:=l.prog) (w:=w) (base:=base) T D0 
 have z19:=z64 (P:=l.prog) (w:=w) (base:=base) T D1 z8
 have y38:=y56 (P:=l.prog) (w:=w) (base:=base) T D2 z19 z8
 have q34:=q64 (P:=l.prog) (w:=w) (base:=base) T D3 
 have q33:=q51 (P:=l.prog) (w:=w) (base:=base) T D4 
 have y43:=z62 (P:=l.prog) (w:=w) (base:=base) T D5 
 have q18:=z49 (P:=l.prog) (w:=w) (base:=base) T D6  6
 have q39:=z56 (P:=l.prog) (w:=w) (base:=base) T D7 
 have z41:=y60 (P:=l.prog) (w:=w) (base:=base) T D8 
 have z31:=y55 (P:=l.prog) (w:=w) (base:=base) T D9 
 have q41:=z58 (P:=l.prog) (w:=w) (base:=base) T D10 
 have q42:=q58 (P:=l.prog) (w:=w) (base:=base) T D11 
 have z33:=y49 (P:=l.prog) (w:=w) (base:=base) T D12 
 have y33:=q63 (P:=l.prog) (w:=w) (base:=base) T D13 q18 q39 z41 z31 q41 q42 z33
 have z42:=z60 (P:=l.prog) (w:=w) (base:=base) T D14 
 have z9:=z57 (P:=l.prog) (w:=w) (base:=base) T D15 
 have q32:=y47 (P:=l.prog) (w:=w) (base:=base) T D16 z9
 have y32:=z52 (P:=l.prog) (w:=w) (base:=base) T D17 z9
 have q31:=z47 (P:=l.prog) (w:=w) (base:=base) T D18 z9
 have y40:=q59 (P:=l.prog) (w:=w) (base:=base) T D19 z9
 have z44:=q62 (P:=l.prog) (w:=w) (base:=base) T D20 
 have y45:=y64 (P:=l.prog) (w:=w) (base:=base) T D21 z8 z42 q32 z19 y32 q31 y40 z44
 exact (yA T (ca (st:=bZ) l22 c22 k22) y38 q34 q33 y43 y33 z8 y45 z19).imp fun vs H Q E z=>yP z
def walk {l:PySem.W.OpenLaw} {q:Program} {loose:List Str} {XP:(Str->Option Value)->Heap->Prop} {YP:World->Heap->Prop} {d:DefRec} {K:Params->PySem.W.Frag} (hn:l.most=some 63) (hdf:d.params.defaults=[])
  (hY:∀ (w:World) (h:Heap),YP w h->(K w.params).In h)
  (F:∀ (w:World) (mg:Str->Option Value) (fa:Addr) (h:Heap),(K w.params).In h->h.Ns mainGlobals mg->mg d.name=some (.ref fa)→
   ∃ fd:FuncData,(∀ (s:Shared) (u:Value),BindsTo s fd ⟨[u],[]⟩ [("_law_script",u)])/\∀ base:Heap,(K w.params).In base->base.Ns mainGlobals mg->FnOk l.prog w (K w.params) mg base CX0 9 fa fd ["_law_script"] (mH (K w.params))) :
  PySem.W.WalkO q loose XP YP l.row.toRowW d [] (fun f vs=>PySem.call f vs):=
 L2.zE (n:=63) (k:=9) (x:="_law_script") (CX:=fun _=>CX0) (sp:=fun w=>mH (K w.params)) hn (by decide) hdf ⟨rfl,by decide,by decide⟩ hY F (fun _ _ a ns hl hO hS=>⟨a,ns,rfl,hS,hl,hO,fun _=>rfl⟩) fun _ _ _ _ _ z=>z
end P61
open PySem PySem.W PyProof.Rows
set_option maxRecDepth 100000 in
set_option maxHeartbeats 0 in
theorem PySem.Challenge.cw_dimhouse_k61_what_stays_holds : PySem.Challenge.rw_dimhouse_k61_what_stays.Holds := by
 w_on;o_law
 refine holds_open (q:=P61.seen) (loose:=[]) (Xt:=fun s=>xlAt P61.seen [] s&&recOk (RowW.records (OpenRow.toRowW PySem.Challenge.rw_dimhouse_k61_what_stays.row)) s) (XP:=XL P61.seen []) (Yf:=Hook.obs P61.hook) (Ya:=Hook.val P61.hook) (YP:=Hook.says P61.hook) (N:=1982) ?hl (Hook.of P61.hook) (Hook.keeps P61.hook) (fun s e=>xl_of s (Bool.and_eq_true_iff.mp e).1) XL.keeps (by rfl) (by rfl) (by rfl) (fun s e=>recFacts_of (Bool.and_eq_true_iff.mp e).2) (by rfl) (by first | assumption | decide +kernel) (by decide +kernel) ⟨rfl,rfl,rfl,rfl,rfl,by decide +kernel⟩ ?hw ?hc
 case hl=>exact LeftO.of_split "special-get-raises" fun w=>P61.map_two (P61.run_false w) (P61.run_true w)
 case hw=>w_witness2
 delta P61.hook
 k_fill
 refine P61.walk (l:=PySem.Challenge.rw_dimhouse_k61_what_stays) rfl rfl (fun w h Y=>PySem.W.kIn_of Y) ?F
 case F =>
  intro w mg fa h KX G hmg
  refine' P61.all_mk KX G hmg ?ac_Store ?pg_Store ?hd_Store ?po_Store ?sa_Store ?mk_Store ?kc_Store ?nf_Store_counting ?nf_Store_heads ?nf_Store_home ?nf_Store_page_boxes ?nf_Store_page_turns ?nf_Store_result ?a0 ?l0 ?c0 ?k0 ?a1 ?l1 ?c1 ?k1 ?a2 ?l2 ?c2 ?k2 ?a3 ?l3 ?c3 ?k3 ?a4 ?i4 ?l4 ?c4 ?k4 ?a5 ?l5 ?c5 ?k5 ?a6 ?l6 ?c6 ?k6 ?a7 ?i7 ?l7 ?c7 ?k7 ?a8 ?i8 ?l8 ?c8 ?k8 ?a9 ?i9 ?l9 ?c9 ?k9 ?a10 ?i10 ?l10 ?c10 ?k10 ?a11 ?i11 ?l11 ?c11 ?k11 ?a12 ?i12 ?l12 ?c12 ?k12 ?a13 ?l13 ?c13 ?k13 ?a14 ?i14 ?l14 ?c14 ?k14 ?a15 ?i15 ?l15 ?c15 ?k15 ?a16 ?i16 ?l16 ?c16 ?k16 ?a17 ?i17 ?l17 ?c17 ?k17 ?a18 ?i18 ?l18 ?c18 ?k18 ?a19 ?i19 ?l19 ?c19 ?k19 ?a20 ?i20 ?l20 ?c20 ?k20 ?a21 ?l21 ?c21 ?k21 ?a22 ?l22 ?c22 ?k22 ?z_all ?z_bool ?z_dict ?z_int ?z_isinstance ?z_len ?z_list ?z_range ?z_sorted ?z_tuple ?x_int_NoneType ?x_int_bool ?x_int_int ?x_int_str ?x_int_tuple ?x_int_list ?x_int_dict ?x_bool_NoneType ?x_bool_bool ?x_bool_int ?x_bool_str ?x_bool_tuple ?x_bool_list ?x_bool_dict ?x_tuple_NoneType ?x_tuple_bool ?x_tuple_int ?x_tuple_str ?x_tuple_tuple ?x_tuple_list ?x_tuple_dict ?x_list_NoneType ?x_list_bool ?x_list_int ?x_list_str ?x_list_tuple ?x_list_list ?x_list_dict
  (case ac_Store | pg_Store | hd_Store | po_Store | sa_Store | mk_Store | kc_Store | nf_Store_counting | nf_Store_heads | nf_Store_home | nf_Store_page_boxes | nf_Store_page_turns | nf_Store_result | a0 | l0 | c0 | k0 | a1 | l1 | c1 | k1 | a2 | l2 | c2 | k2 | a3 | l3 | c3 | k3 | a4 | i4 | l4 | c4 | k4 | a5 | l5 | c5 | k5 | a6 | l6 | c6 | k6 | a7 | i7 | l7 | c7 | k7 | a8 | i8 | l8 | c8 | k8 | a9 | i9 | l9 | c9 | k9 | a10 | i10 | l10 | c10 | k10 | a11 | i11 | l11 | c11 | k11 | a12 | i12 | l12 | c12 | k12 | a13 | l13 | c13 | k13 | a14 | i14 | l14 | c14 | k14 | a15 | i15 | l15 | c15 | k15 | a16 | i16 | l16 | c16 | k16 | a17 | i17 | l17 | c17 | k17 | a18 | i18 | l18 | c18 | k18 | a19 | i19 | l19 | c19 | k19 | a20 | i20 | l20 | c20 | k20 | a21 | l21 | c21 | k21 | a22 | l22 | c22 | k22 | z_all | z_bool | z_dict | z_int | z_isinstance | z_len | z_list | z_range | z_sorted | z_tuple=>k_is)
  (case x_int_NoneType=>first | k_is | rfl)
  (case x_int_bool=>first | k_is | rfl)
  (case x_int_int=>first | k_is | rfl)
  (case x_int_str=>first | k_is | rfl)
  (case x_int_tuple=>first | k_is | rfl)
  (case x_int_list=>first | k_is | rfl)
  (case x_int_dict=>first | k_is | rfl)
  (case x_bool_NoneType=>first | k_is | rfl)
  (case x_bool_bool=>first | k_is | rfl)
  (case x_bool_int=>first | k_is | rfl)
  (case x_bool_str=>first | k_is | rfl)
  (case x_bool_tuple=>first | k_is | rfl)
  (case x_bool_list=>first | k_is | rfl)
  (case x_bool_dict=>first | k_is | rfl)
  (case x_tuple_NoneType=>first | k_is | rfl)
  (case x_tuple_bool=>first | k_is | rfl)
  (case x_tuple_int=>first | k_is | rfl)
  (case x_tuple_str=>first | k_is | rfl)
  (case x_tuple_tuple=>first | k_is | rfl)
  (case x_tuple_list=>first | k_is | rfl)
  (case x_tuple_dict=>first | k_is | rfl)
  (case x_list_NoneType=>first | k_is | rfl)
  (case x_list_bool=>first | k_is | rfl)
  (case x_list_int=>first | k_is | rfl)
  (case x_list_str=>first | k_is | rfl)
  (case x_list_tuple=>first | k_is | rfl)
  (case x_list_list=>first | k_is | rfl)
  (case x_list_dict=>first | k_is | rfl)
