import PyProof.Rows.All
import KE.KNest
import Wide.All
import OpenK.AllK
import Wide.FinOn
import Lean
import PyProof.EqAt
import PyProof.EqKinds
import PyProof.TupleCall
import PySem.Challenge.RW_dimhouse_k33_spoilt_in_straight_rows
set_option Elab.async false
set_option linter.all false
namespace P33
open PySem PySem.W PyProof.Rows
section
local macro_rules | `(tactic| o_head $_) => `(tactic| exact (by assumption : ∀ p : Prop, p) _)
set_option maxRecDepth 100000 in
set_option maxHeartbeats 0 in
theorem pre (h0:∀ p:Prop,p):PySem.Challenge.rw_dimhouse_k33_spoilt_in_straight_rows.row.Holds:=by
  k_head
end
def seen:Program:={PySem.Challenge.pw_dimhouse_k33_spoilt_in_straight_rows with main:={PySem.Challenge.pw_dimhouse_k33_spoilt_in_straight_rows.main with body:=[1,2,3,4,6,7,8,9,10,11,12,13,14,16,17,18,19,20,21,22,23].filterMap fun i=>PySem.Challenge.pw_dimhouse_k33_spoilt_in_straight_rows.main.body[i]?}}
noncomputable abbrev hook:Hook:=kmHook P33.pre.heap_1 [2,3,6,15,17,18,20,21,22,25,26,27,29,30,32,33,34,36,37,39,40,41,44,45,46,49,50,51,54,55,56,58,59,61,62,63,66,67,68,70,71,73,74,75,78,79,80,82,83,85,86,87,89,90,92,93,94,96,97,99,100,101,104,105,106,109,110,111,114,115] (fun _=>by kernel_rfl) [64]
theorem map_two {α β γ:Type} {x:Option α} {f:α→β} {g:α→γ} {a:β} {b:γ} (h:x.map f=some a) (h':x.map g=some b):x.map (fun s=>(f s,g s))=some (a,b):=by
  cases x with
  | none=>cases h
  | some s=>simp only [Option.map_some,Option.some.injEq] at h h' ⊢;rw [h,h']
set_option maxRecDepth 100000 in
set_option maxHeartbeats 0 in
theorem run_false (w:World):(fencedOpening treeTable PySem.Challenge.rw_dimhouse_k33_spoilt_in_straight_rows.row.prog w 1250).map (fun s₀=>(topFrom treeTable PySem.Challenge.rw_dimhouse_k33_spoilt_in_straight_rows.row.prog (w.withFollow "special-get-raises" false) 1250 s₀).map (fun s=>(openSeen seen [] (importedModules PySem.Challenge.rw_dimhouse_k33_spoilt_in_straight_rows.row.prog.main.body) (fun s=>xlAt seen [] s&&recOk (RowW.records (OpenRow.toRowW PySem.Challenge.rw_dimhouse_k33_spoilt_in_straight_rows.row)) s) true s,Hook.obs hook s)))=some (some (openGood seen [],Hook.val hook (w.withFollow "special-get-raises" false))):=by
  kernel_rfl
set_option maxRecDepth 100000 in
set_option maxHeartbeats 0 in
theorem run_true (w:World):(fencedOpening treeTable PySem.Challenge.rw_dimhouse_k33_spoilt_in_straight_rows.row.prog w 1250).map (fun s₀=>(topFrom treeTable PySem.Challenge.rw_dimhouse_k33_spoilt_in_straight_rows.row.prog (w.withFollow "special-get-raises" true) 1250 s₀).map (fun s=>(openSeen seen [] (importedModules PySem.Challenge.rw_dimhouse_k33_spoilt_in_straight_rows.row.prog.main.body) (fun s=>xlAt seen [] s&&recOk (RowW.records (OpenRow.toRowW PySem.Challenge.rw_dimhouse_k33_spoilt_in_straight_rows.row)) s) true s,Hook.obs hook s)))=some (some (openGood seen [],Hook.val hook (w.withFollow "special-get-raises" true))):=by
  kernel_rfl
end P33
set_option maxRecDepth 100000
set_option maxHeartbeats 4000000
noncomputable section
def bS {α β:Type _} {o:Option α} {f:α->Option β} {b:β} (h:o.bind f=some b):∃ a,o=some a/\f a=some b:=Option.bind_eq_some_iff.mp h
def mS {α β:Type _} {o:Option α} {f:α->β} {b:β} (h:o.map f=some b):∃ a,o=some a/\f a=b:=Option.map_eq_some_iff.mp h
def gX {α:Type _} {l:List α} {i:Nat} {a:α} (h:l[i]?=some a):∃ z:i<l.length,l[i]=a:=List.getElem?_eq_some_iff.mp h
open PySem PySem.Spec PyProof.Rows in abbrev gN := @List.getElem?_set_ne
open PySem PySem.Spec PyProof.Rows in abbrev gP := @Heap.get?_push_of_some
open PySem PySem.Spec PyProof.Rows in abbrev wB := @wpAny_bind
open PySem PySem.Spec PyProof.Rows in abbrev gR := @List.getElem?_append_right
open PySem PySem.Spec PyProof.Rows in abbrev gQ := @List.getElem?_eq_getElem
open PySem PySem.Spec PyProof.Rows in abbrev nL := @Nat.le_refl
set_option maxRecDepth 100000
namespace L2
open PySem PySem.Spec PyProof.Rows
abbrev Key:=Sum Int Str
def kJ:Key->Value->Bool
 | .inl k,v=>Value.isInt k v
 | .inr x,v=>Value.isStrOf x v
def keyH (w:World):Key->Int
 | .inl k=>hashInt k
 | .inr x=>hashStr w x
def bz:∀ {k:Key} {v:Value},kJ k v=true->(∃ i t,k=Sum.inl i/\v=Value.int i t)∨(∃ x t,k=Sum.inr x/\v=Value.str x t)
 | .inl i,v,h=>by
  obtain ⟨t,e⟩:=Value.isInt_shape (k:=i) (v:=v) h
  exact .inl ⟨i,t,rfl,e⟩
 | .inr x,v,h=>by
  obtain ⟨t,e⟩:=Value.isStrOf_shape (x:=x) (v:=v) h
  exact .inr ⟨x,t,rfl,e⟩
def rL (i:Int) (t:Tok):kJ (.inl i) (.int i t)=true:=by simp [kJ,Value.isInt]
def rM (x:Str) (t:Tok):kJ (.inr x) (.str x t)=true:=by simp [kJ,Value.isStrOf]
def yK (a b:Int):decide ((Sum.inl a:Key)=Sum.inl b)=(a==b):=by
 by_cases e:a=b
 · subst e;simp
 · have h:¬ (Sum.inl a:Key)=Sum.inl b:=fun q=>e (Sum.inl.inj q)
   rw [decide_eq_false h]
   exact (beq_eq_false_iff_ne.mpr e).symm
def yL (a b:Str):decide ((Sum.inr a:Key)=Sum.inr b)=decide (a=b):=by
 by_cases e:a=b
 · subst e;simp
 · have h:¬ (Sum.inr a:Key)=Sum.inr b:=fun q=>e (Sum.inr.inj q)
   rw [decide_eq_false h,decide_eq_false e]
def yM (a:Int) (b:Str):decide ((Sum.inl a:Key)=Sum.inr b)=false:=decide_eq_false (fun q=>nomatch q)
def yN (a:Str) (b:Int):decide ((Sum.inr a:Key)=Sum.inl b)=false:=decide_eq_false (fun q=>nomatch q)
noncomputable def bT (prog:Program) (w:World):PySem.KeyKind prog w Key where
 is:=kJ
 hash:=keyH w
 inj:=fun v a b ha hb=>by
  rcases bz ha with ⟨i,t,rfl,rfl⟩ | ⟨x,t,rfl,rfl⟩
  · rcases bz hb with ⟨j,u,rfl,e⟩ | ⟨y,u,rfl,e⟩
    · injection e with e1 _;rw [e1]
    · exact nomatch e
  · rcases bz hb with ⟨j,u,rfl,e⟩ | ⟨y,u,rfl,e⟩
    · exact nomatch e
    · injection e with e1 _;rw [e1]
 byValue:=fun k v h=>by
  rcases bz h with ⟨i,t,rfl,rfl⟩ | ⟨x,t,rfl,rfl⟩<;>rfl
 pyHash:=fun hv h=>by
  rcases bz hv with ⟨i,t,rfl,rfl⟩ | ⟨x,t,rfl,rfl⟩
  · exact wpAny_pyHash_int h
  · exact wpAny_pyHash_str h
 eqBool:=fun hu hv h=>by
  rcases bz hu with ⟨i,t,rfl,rfl⟩ | ⟨x,t,rfl,rfl⟩
  · rcases bz hv with ⟨j,u,rfl,rfl⟩ | ⟨y,u,rfl,rfl⟩
    · rw [yK] at h;exact wpAny_eqBool_int h
    · rw [yM] at h;exact SeqAt.EqAt.int_str i t y u _ _ _ _ h
  · rcases bz hv with ⟨j,u,rfl,rfl⟩ | ⟨y,u,rfl,rfl⟩
    · rw [yN] at h;exact SeqAt.EqAt.str_int x t j u _ _ _ _ h
    · rw [yL] at h;exact wpAny_eqBool_str h
 «strs»:=fun k x t v h=>by
  rcases bz h with ⟨i,u,rfl,e⟩ | ⟨y,u,rfl,e⟩
  · exact nomatch e
  · injection e with e1 _
    subst e1
    cases v<;>rfl
def mG (prog:Program) (w:World) (i:Int) (t:Tok):(bT prog w).is (.inl i) (.int i t)=true:=rL i t
def mH (prog:Program) (w:World) (x:Str) (t:Tok):(bT prog w).is (.inr x) (.str x t)=true:=rM x t
inductive V where
 | non | bl (b:Bool) | int (i:Int) | str (x:Str) | byt (b:Array UInt8) | flt (b:UInt64) | ref (a:Addr) | ty (n:String)
 deriving DecidableEq
noncomputable def RelV:V->Value->Prop
 | .non,u=>u=Value.none
 | .bl b,u=>u=Value.bool b
 | .int i,u=>∃ t,u=Value.int i t
 | .str x,u=>∃ t,u=Value.str x t
 | .byt b,u=>∃ t,u=Value.bytes b t
 | .flt b,u=>∃ t,u=Value.float b t
 | .ref a,u=>u=Value.ref a
 | .ty n,u=>u=Value.type n
abbrev Vals:List V->List Value->Prop:=Paired RelV
def Vals.length {xs:List V} {us:List Value} (r:Vals xs us):xs.length=us.length:=Paired.length r
def Vals.get:∀ {xs:List V} {us:List Value} {i:Nat} {x:V},Vals xs us->xs[i]?=some x->∃ u,us[i]?=some u/\RelV x u
 | _,_,_,_,.nil,e=>by simp at e
 | _,_,0,_,.cons r _,e=>by simp at e;subst e;exact ⟨_,rfl,r⟩
 | _,_,i+1,x,.cons _ t,e=>by
  obtain ⟨u,h1,h2⟩:=Vals.get (i:=i) (x:=x) t (by simpa using e)
  exact ⟨u,by simpa using h1,h2⟩
def Vals.append:∀ {xs ys:List V} {us ws:List Value},Vals xs us->Vals ys ws->Vals (xs++ys) (us++ws)
 | _,_,_,_,.nil,s=>s
 | _,_,_,_,.cons r t,s=>.cons r (Vals.append t s)
def Vals.take:∀ {xs:List V} {us:List Value} (n:Nat),Vals xs us->Vals (xs.take n) (us.take n)
 | _,_,0,_=>.nil
 | _,_,_+1,.nil=>.nil
 | _,_,n+1,.cons r t=>.cons r (Vals.take n t)
def Vals.drop:∀ {xs:List V} {us:List Value} (n:Nat),Vals xs us->Vals (xs.drop n) (us.drop n)
 | _,_,0,r=>r
 | _,_,_+1,.nil=>.nil
 | _,_,n+1,.cons _ t=>Vals.drop n t
def RelO:Option V->Option Value->Prop
 | some v,some u=>RelV v u
 | none,none=>True
 | _,_=>False
def KV {κ:Type}:List (κ×V)->List (κ×Value)->Prop:=Paired fun (p:κ×V) (q:κ×Value)=>p.1=q.1/\RelV p.2 q.2
def kV:Key->V
 | .inl i=>.int i
 | .inr x=>.str x
inductive HO where
 | lst (xs:List V)
 | tup (xs:List V)
 | dK (kvs:List (Key×V)) | dT (kvs:List (List Key×V))
 | set (S:Int->Bool) (n:Nat)
 | ins (C dx:Addr) (fs:List (Str×V))
 | own (x:Addr)
 | xd (fs:List (Str×V))
 | met (f x:Addr)
 | rng (lo hi:Int)
 | frz (o:Obj) (u:HO)
 | tbl (ps:Array Value)
 | code (q:Str)
 | ctab (qs:List ((Nat×Nat)×Str))
 | ext (φ:Heap->Prop)
abbrev Hp:=Addr->Option HO
def upd (H:Hp) (a:Addr) (o:HO):Hp:=fun b=>if b=a then some o else H b
def aD {H:Hp} {a:Addr} {o:HO}:upd H a o a=some o:=by unfold upd;rw [if_pos rfl]
def ax {H:Hp} {a b:Addr} {o:HO} (h:b≠a):upd H a o b=H b:=by unfold upd;rw [if_neg h]
def A4 {H:Hp} {a b:Addr} {o u:HO} (h:H a=some o) (h':H b=some u) (d:o≠u):a≠b:=by
 intro e;subst e;rw [h] at h';exact d (Option.some.inj h')
def bn {H:Hp} {a b:Addr} {o:HO} (h:H a=some o) (h':H b=none):a≠b:=by
 intro e;subst e;rw [h] at h';cases h'
section
variable (P:Program) (w:World)
noncomputable def ObjOk (H:Hp) (h:Heap) (a:Addr):HO->Prop
 | .lst xs=>xs.length<=sizeLine/\∃ (its:List Value) (n:Nat),Vals xs its/\h.get? a=some {cls:=.type "list",data:=.seq its.toArray n}
 | .tup xs=>xs.length<=sizeLine/\∃ its:List Value,Vals xs its/\IsTup h a its.toArray
 | .dK kvs=>kvs.length<=sizeLine/\(a==sysModules)=false/\∃ vs,KV kvs vs/\h.DictOf (bT P w) a vs
 | .dT kvs=>kvs.length<=sizeLine/\(a==sysModules)=false/\∃ xs:List (List Key×Addr×Value),
     Paired (fun (p:List Key×V) (q:List Key×Addr×Value)=>p.1=q.1/\H q.2.1=some (.tup (p.1.map kV))/\RelV p.2 q.2.2) kvs xs∧
     ∃ o es ep,h.get? a=some o/\o.ExactDict/\o.data=.dict es ep/\es.toList=xs.map (entryOfKey (tupleKind (bT P w)))/\(xs.map (·.1)).Nodup
 | .set S n=>h.SetOf (intKind P w) a S n
 | .ins C dx fs=>H dx=some (.own a)/\fs.length<=1000/\dx≠a/\h.get? a=some (PySem.W.instObj C dx)∧
     ∃ mA,h.Ns1 dx mA/\(∀ f,RelO (fs.lookup f) (mA f))/\PySem.Within mA (fs.map (·.1))
 | .own _=>∃ o,h.get? a=some o
 | .xd fs=>∃ mA,h.Ns1 a mA/\∀ f,RelO (fs.lookup f) (mA f)
 | .rng lo hi=>∃ t u v,h.get? a=some {cls:=.type "range",data:=.fields #[.int lo t,.int hi u,.int 1 v]}
 | .frz o u=>h.get? a=some o/\ObjOk H h a u
 | .tbl ps=>h.get? a=some {cls:=.none,data:=.fields ps}
 | .code q=>h.CodeRec (.ref a) q
 | .ctab qs=>∃ ps:Array Value,h.get? a=some {cls:=.none,data:=.fields ps}/\TriplesOk ps.toList/\∀ (pos:Pos) (q:Str) (v:Value),((pos.line,pos.col),q)∈qs->codeAmong pos ps.toList=some v->∃ c o,v=.ref c/\H c=some (.frz o (.code q))
 | .met f x=>h.get? a=some (PySem.W.methodObj (.ref f) (.ref x))
 | .ext φ=>φ h/\(∃ o,h.get? a=some o)/\∀ h1 h2:Heap,φ h1->(∀ o,h1.get? a=some o->h2.get? a=some o)->φ h2
def HOk (H:Hp) (h:Heap):Prop:=∀ a o,H a=some o->ObjOk P w H h a o
end
section
variable {P:Program} {w:World} {H H':Hp} {h h':Heap} {a:Addr} {o:HO}
def ObjOk.lt (x:ObjOk P w H h a o):a<h.objs.size:=by
 cases o with
 | lst xs=>obtain ⟨_,_,_,_,e⟩:=x;exact Heap.lt_size e
 | tup xs=>obtain ⟨_,_,_,p⟩:=x;exact p.lt
 | dK kvs=>obtain ⟨_,_,_,_,o,_,_,e,_⟩:=x;exact Heap.lt_size e
 | dT kvs=>obtain ⟨_,_,_,_,o,_,_,e,_⟩:=x;exact Heap.lt_size e
 | set S n=>obtain ⟨o,_,_,_,e,_⟩:=x;exact Heap.lt_size e
 | ins C dx fs=>obtain ⟨_,_,_,e,_⟩:=x;exact Heap.lt_size e
 | own y=>obtain ⟨_,e⟩:=x;exact Heap.lt_size e
 | xd fs=>obtain ⟨_,⟨_,_,_,e,_⟩,_⟩:=x;exact Heap.lt_size e
 | rng lo hi=>obtain ⟨_,_,_,e⟩:=x;exact Heap.lt_size e
 | frz ob u=>obtain ⟨e,_⟩:=x;exact Heap.lt_size e
 | tbl ps=>exact Heap.lt_size (show h.get? a=some _ from x)
 | code q=>obtain ⟨c,o,vs,t,e,g,_⟩:=x;cases e;exact Heap.lt_size g
 | ctab qs=>obtain ⟨ps,g,_⟩:=x;exact Heap.lt_size g
 | met f y=>exact Heap.lt_size (show h.get? a=some _ from x)
 | ext φ=>obtain ⟨_,⟨_,e⟩,_⟩:=x;exact Heap.lt_size e
def Paired.mapP {α β:Type} {F G:α->β->Prop}:∀ {l₁:List α} {l₂:List β},Paired F l₁ l₂->(∀ a b,F a b->G a b)->Paired G l₁ l₂
 | _,_,.nil,_=>.nil
 | _,_,.cons r t,f=>.cons (f _ _ r) (Paired.mapP t f)
def ObjOk.stay (x:ObjOk P w H h a o) (k:∀ b u,(b=a∨H b=some (.own a))->h.get? b=some u->h'.get? b=some u)
  (ho:∀ b,H b=some (.own a)->H' b=some (.own a)) (ht:∀ b xs,H b=some (.tup xs)->H' b=some (.tup xs)) (hcd:∀ b ob q,H b=some (.frz ob (.code q))->H' b=some (.frz ob (.code q))):ObjOk P w H' h' a o:=by
 induction o with
 | lst xs=>obtain ⟨z,its,n,r,e⟩:=x;exact ⟨z,its,n,r,k _ _ (.inl rfl) e⟩
 | tup xs=>obtain ⟨z,its,r,ob,e,c⟩:=x;exact ⟨z,its,r,ob,k _ _ (.inl rfl) e,c⟩
 | dK kvs=>obtain ⟨z,y,vs,r,ob,es,ep,e,c⟩:=x;exact ⟨z,y,vs,r,ob,es,ep,k _ _ (.inl rfl) e,c⟩
 | dT kvs =>
  obtain ⟨z,y,xs,r,ob,es,ep,e,c⟩:=x
  exact ⟨z,y,xs,Paired.mapP r fun p q z=>⟨z.1,ht _ _ z.2.1,z.2.2⟩,ob,es,ep,k _ _ (.inl rfl) e,c⟩
 | set S n=>obtain ⟨ob,es,ep,t,e,c⟩:=x;exact ⟨ob,es,ep,t,k _ _ (.inl rfl) e,c⟩
 | ins C dx fs =>
  obtain ⟨d,z,ne,e,mA,⟨od,es,ep,e2,c⟩,r⟩:=x
  exact ⟨ho _ d,z,ne,k _ _ (.inl rfl) e,mA,⟨od,es,ep,k _ _ (.inr d) e2,c⟩,r⟩
 | own y=>obtain ⟨ob,e⟩:=x;exact ⟨ob,k _ _ (.inl rfl) e⟩
 | xd fs=>obtain ⟨mA,⟨od,es,ep,e,c⟩,r⟩:=x;exact ⟨mA,⟨od,es,ep,k _ _ (.inl rfl) e,c⟩,r⟩
 | rng lo hi=>obtain ⟨t,u,v,e⟩:=x;exact ⟨t,u,v,k _ _ (.inl rfl) e⟩
 | frz ob u ih=>obtain ⟨e,q⟩:=x;exact ⟨k _ _ (.inl rfl) e,ih q⟩
 | tbl ps =>
  have e:h.get? a=some {cls:=.none,data:=.fields ps}:=x
  show h'.get? a=some {cls:=.none,data:=.fields ps}
  exact k a _ (.inl rfl) e
 | code q=>obtain ⟨c,o,vs,t,e,g,r⟩:=x;cases e;exact ⟨a,o,vs,t,rfl,k a _ (.inl rfl) g,r⟩
 | ctab qs=>obtain ⟨ps,g,r1,r2⟩:=x;exact ⟨ps,k a _ (.inl rfl) g,r1,fun pos q v h1 h2=>let ⟨c,ob,e,g⟩:=r2 pos q v h1 h2;⟨c,ob,e,hcd c ob q g⟩⟩
 | met f y =>
  have e:h.get? a=some (PySem.W.methodObj (.ref f) (.ref y)):=x
  show h'.get? a=some (PySem.W.methodObj (.ref f) (.ref y))
  exact k a _ (.inl rfl) e
 | ext φ=>obtain ⟨p,⟨o,e⟩,st⟩:=x;exact ⟨st _ _ p fun o q=>k _ _ (.inl rfl) q,⟨o,k _ _ (.inl rfl) e⟩,st⟩
def HOk.lt (x:HOk P w H h) (e:H a=some o):a<h.objs.size:=(x a o e).lt
def HOk.fresh (x:HOk P w H h) (e:h.objs.size<=a):H a=none:=by
 cases q:H a with
 | none=>rfl
 | some u=>exact absurd (Nat.lt_of_lt_of_le (x.lt q) e) (Nat.lt_irrefl _)
def HOk.kept (x:HOk P w H h) (k:∀ b u,h.get? b=some u->h'.get? b=some u):HOk P w H h':=fun a o e =>
 (x a o e).stay (fun b u _ q=>k b u q) (fun _ q=>q) (fun _ _ q=>q) fun _ _ _ q=>q
def HOk.laid (x:HOk P w H h) (k:∀ b u,h.get? b=some u->h'.get? b=some u) (hp:h.objs.size<=a) (new:ObjOk P w (upd H a o) h' a o):HOk P w (upd H a o) h':=fun b u e=>by
 have hn:=x.fresh hp
 by_cases hb:b=a
 · subst hb;rw [aD] at e;cases e;exact new
 · rw [ax hb] at e
   exact (x b u e).stay (fun c v _ q=>k c v q) (fun c q=>by rw [ax (bn q hn)];exact q) (fun c xs q=>by rw [ax (bn q hn)];exact q) fun c ob xs q=>by rw [ax (bn q hn)];exact q
end
def Rd (H:Hp) (a:Addr) (u:HO):Prop:=H a=some u∨∃ o,H a=some (.frz o u)
def Rd.of {H:Hp} {a:Addr} {u:HO} (h:H a=some u):Rd H a u:=.inl h
def Rd.ok {P:Program} {w:World} {H:Hp} {h:Heap} {a:Addr} {u:HO} (r:Rd H a u) (x:HOk P w H h):ObjOk P w H h a u:=by
 rcases r with r | ⟨o,r⟩
 · exact x a u r
 · obtain ⟨_,q⟩:=x a _ r
   exact q
def Mut:Option HO->Prop
 | some (.lst _)=>True
 | some (.dK _)=>True
 | some (.dT _)=>True
 | some (.set _ _)=>True
 | some (.ins _ _ _)=>True
 | some (.ext _)=>True
 | _=>False
section
variable {P:Program} {w:World} {H:Hp} {h h':Heap} {x e:Addr} {o':HO}
def HOk.write (ok:HOk P w H h) (mu:Mut (H x)) (he:e=x∨H e=some (.own x)) (k:∀ b u,b≠e->h.get? b=some u->h'.get? b=some u) (heo:∃ u,h'.get? e=some u)
  (new:ObjOk P w (upd H x o') h' x o'):HOk P w (upd H x o') h':=fun b u q=>by
 have nown:∀ c y,H c=some (.own y)->c≠x:=fun c y r z=>by subst z;rw [r] at mu;exact mu
 have ntup:∀ c xs,H c=some (.tup xs)->c≠x:=fun c xs r z=>by subst z;rw [r] at mu;exact mu
 have ncod:∀ c ob xs,H c=some (.frz ob (.code xs))->c≠x:=fun c ob xs r z=>by subst z;rw [r] at mu;exact mu
 by_cases hb:b=x
 · subst hb;rw [aD] at q;cases q;exact new
 · rw [ax hb] at q
   by_cases hbe:b=e
   · have q':H b=some (.own x):=by
      rcases he with z | z
      · exact absurd (hbe.trans z) hb
      · rw [hbe];exact z
     rw [q] at q';cases q'
     obtain ⟨v,hv⟩:=heo
     exact ⟨v,by rw [hbe];exact hv⟩
   · refine (ok b u q).stay (fun c v hc r=>k c v ?_ r) (fun c r=>by rw [ax (nown c b r)];exact r) (fun c xs r=>by rw [ax (ntup c xs r)];exact r) fun c ob xs r=>by rw [ax (ncod c ob xs r)];exact r
     rcases hc with rfl | hc
     · exact hbe
     · rintro rfl
       rcases he with z | z
       · exact nown c b hc z
       · rw [hc] at z;cases z;exact hb rfl
end
structure Un (fs ex:List Addr) (H H':Hp) (h h':Heap):Prop where
 keep:∀ b o,h.get? b=some o->H b=none->b∉fs->b∉ex->h'.get? b=some o
 slot:∀ b o,h.get? b=some o->H b=none->b∈fs->b∉ex->∃ sl,h'.get? b=some {o with slots:=sl}
 free:∀ b o,h.get? b=some o->H b=none->b∉ex->H' b=none
 there:∀ b o,h.get? b=some o->b∉ex->∃ o',h'.get? b=some o'
 tups:∀ b xs,H b=some (.tup xs)->H' b=some (.tup xs)
 frzs:∀ b o u,H b=some (.frz o u)->H' b=some (.frz o u)
 tbls:∀ b ps,H b=some (.tbl ps)->∃ more,H' b=some (.tbl (ps++more))
 cts:∀ b qs,H b=some (.ctab qs)->H' b=some (.ctab qs)
section
variable {fs fs' ex ex':List Addr} {H H1 H2:Hp} {h h1 h2 h':Heap} {a x e:Addr} {o:HO}
def Un.any (u:Un fs ex H H1 h h1) {b:Addr} {ob:Obj} (q:h.get? b=some ob) (n:H b=none) (hx:b∉ex):∃ sl,h1.get? b=some {ob with slots:=sl}:=by
 by_cases hb:b∈fs
 · exact u.slot b ob q n hb hx
 · exact ⟨ob.slots,u.keep b ob q n hb hx⟩
def Un.kept (k:∀ b u,h.get? b=some u->h'.get? b=some u):Un fs ex H H h h':=
 ⟨fun b ob q _ _ _=>k b ob q,fun b ob q _ _ _=>⟨ob.slots,k b ob q⟩,fun _ _ _ n _=>n,fun b ob q _=>⟨ob,k b ob q⟩,fun _ _ q=>q,fun _ _ _ q=>q,fun _ ps q=>⟨#[],by rw [q];simp⟩,fun _ _ q=>q⟩
def Un.refl:Un fs ex H H h h:=Un.kept fun _ _ q=>q
def Un.laid (k:∀ b u,h.get? b=some u->h'.get? b=some u) (hp:h.objs.size<=a) (hn:H a=none):Un fs ex H (upd H a o) h h' where
 keep:=fun b u q _ _ _=>k b u q
 slot:=fun b u q _ _ _=>⟨u.slots,k b u q⟩
 free:=fun b u q n _=>by rw [ax (Nat.ne_of_lt (Nat.lt_of_lt_of_le (Heap.lt_size q) hp))];exact n
 there:=fun b u q _=>⟨u,k b u q⟩
 tups:=fun b xs q=>by rw [ax (bn q hn)];exact q
 frzs:=fun b u xs q=>by rw [ax (bn q hn)];exact q
 tbls:=fun b ps q=>⟨#[],by rw [ax (bn q hn),q];simp⟩
 cts:=fun b qs q=>by rw [ax (bn q hn)];exact q
def Un.write (mu:Mut (H x)) (he:e=x∨H e=some (.own x)) (k:∀ b u,b≠e->h.get? b=some u->h'.get? b=some u) (heo:∃ u,h'.get? e=some u):Un fs ex H (upd H x o) h h':=by
 have hx:∀ b,H b=none->b≠x:=fun b n z=>by subst z;rw [n] at mu;exact mu
 have hb:∀ b,H b=none->b≠e:=fun b n z=>by
  subst z
  rcases he with r | r
  · exact hx b n r
  · rw [n] at r;cases r
 have hm:∀ b u,H b=some u->¬ Mut (some u)->b≠x:=fun b u q nm z=>by subst z;rw [q] at mu;exact nm mu
 refine ⟨fun b u q n _ _=>k b u (hb b n) q,fun b u q n _ _=>⟨u.slots,k b u (hb b n) q⟩,fun b u q n _=>by rw [ax (hx b n)];exact n,fun b u q _=>?_,
  fun b xs q=>by rw [ax (hm b _ q fun z=>z)];exact q,fun b u xs q=>by rw [ax (hm b _ q fun z=>z)];exact q,fun b ps q=>⟨#[],by rw [ax (hm b _ q fun z=>z),q];simp⟩,fun b xs q=>by rw [ax (hm b _ q fun z=>z)];exact q⟩
 by_cases hbe:b=e
 · subst hbe;exact heo
 · exact ⟨u,k b u hbe q⟩
end
def trk (h:Heap) (H:Hp):List Addr:=(List.range h.objs.size).filter fun a=>(H a).isSome
def kx (h:Heap) (H:Hp):Heap:=PySem.W.hideAll h (trk h H)
def rN (h:Heap) (H:Hp):(kx h H).objs.size=h.objs.size:=PySem.W.hideAll_size _ _
def sZ {h:Heap} {H:Hp} {b:Addr} {o:Obj} (e:h.get? b=some o) (n:H b=none):(kx h H).get? b=some o:=
 PySem.W.hideAll_get _ e fun hm=>by
  have q:(H b).isSome=true:=(List.mem_filter.mp hm).2
  rw [n] at q;simp at q
def vQ {h:Heap} {H:Hp} {b:Addr} {o:Obj} (e:(kx h H).get? b=some o):h.get? b=some o/\H b=none:=by
 have e':h.get? b=some o:=PySem.W.of_hideAll (trk h H) e
 refine ⟨e',?_⟩
 cases q:H b with
 | none=>rfl
 | some x =>
  have hm:b∈trk h H:=List.mem_filter.mpr ⟨List.mem_range.mpr (Heap.lt_size e'),by simp [q]⟩
  have z:(kx h H).get? b=none:=PySem.W.hideAll_none (trk h H) hm
  rw [z] at e;cases e
def vR (g h:Heap) (L:Addr):List (Addr×Obj):=(List.range h.objs.size).filterMap fun a=>if a=L∨(g.get? a).isSome=true then none else (h.get? a).map fun o=>(a,o)
def rest (g h:Heap) (L d:Addr):List (Addr×Obj):=(vR g h L).filter fun p=>decide (p.1≠d)
def nestNames:List Str:=["way_to_reading","spoilt"]
def qa (x:Str) (ss:List Stmt):List ((Nat×Nat)×Str):=ss.filterMap fun st=>match st with
 | .FunctionDef name _ _ _ _ _ _ _ _ pos=>some ((pos.line,pos.col),x++".<locals>."++name)
 | _=>none
noncomputable def oO (K:PySem.W.Frag) (x:Str):Option (Addr×List ((Nat×Nat)×Str)):=match PySem.W.tabIn K x with
 | some (_,P)=>(match PySem.W.nsIn K mainGlobals x with
  | some (some (.ref f))=>(match K.lookup f with
   | some o=>(match o.data with
    | .func fd=>(match fd.body with
     | .stmts b=>some (P,qa x b)
     | _=>none)
    | _=>none)
   | none=>none)
  | _=>none)
 | none=>none
def cI (K:PySem.W.Frag):List (Addr×List ((Nat×Nat)×Str)):=nestNames.filterMap (oO K)
structure Mod (K:PySem.W.Frag) (mg:Str->Option Value) (base:Heap):Prop where
 kin:K.In base
 glob:base.Ns mainGlobals mg
 blt:∃ mb,base.Ns builtinsNs mb/\∀ x:Str,x≠"__name__"->mb x=bootBuiltins x
 nolimit:base.NoLimit
structure Cx where
 prog:Program
 w:World
 K:PySem.W.Frag
 mg:Str->Option Value
 base:Heap
 A:Around
 N:List Str
 s₀:Shared
 H₀:Hp
 env:Env
 outer:List Env
 stack:List Env
 ex:List Addr
 fn:Str->Bool
 calm:Bool
 pn:List (Addr×Obj)
 xe:Value->Shared->Prop
def frs (l:List Env):List Addr:=l.filterMap (·.frame)
abbrev Cx.fs (X:Cx):List Addr:=frs X.outer
def Vis (sc:Scope) (x:Str):Prop:=sc.names.lookup x=some .local∨sc.names.lookup x=some .cell∨sc.names.lookup x=some .free
def Loc (sc:Scope) (x:Str):Prop:=sc.names.lookup x=some .local∨sc.names.lookup x=some .cell
noncomputable def Look (env:Env) (h:Heap) (m:Str->Option Value) (x:Str) (u:Value):Prop:=
 (env.kindOf x=some .local/\m x=some u)∨((env.kindOf x=some .cell∨env.kindOf x=some .free)/\∃ c,env.cells.lookup x=some c/\h.IsCell c (some u))
structure Cx.Ok (X:Cx):Prop where
 mod:Mod X.K X.mg X.base
 kind:X.env.scope.kind=.function
 glob:X.env.globals=mainGlobals
 blt:X.env.builtins=builtinsNs
 above:X.s₀.heap.objs.size<=X.env.locals
 inj:∀ x y c,X.env.cells.lookup x=some c->X.env.cells.lookup y=some c->x=y
 has:∀ x,(X.env.kindOf x=some .cell∨X.env.kindOf x=some .free)->∃ c,X.env.cells.lookup x=some c
 cab:∀ x c,X.fn x=true->X.env.cells.lookup x=some c->X.s₀.heap.objs.size<=c
 hd:X.calm=true->X.A.handled=none
 frames:X.A.frames=some X.stack
 stk:X.stack=X.outer∨(X.stack=X.env::X.outer/\X.env.frame=some X.env.locals)
 exf:∀ b∈X.ex,b≠X.env.locals/\∀ x c,X.env.cells.lookup x=some c->c≠b
 bs:∀ b o,X.base.get? b=some o->X.s₀.heap.get? b=some o/\X.H₀ b=none
 bsz:X.base.objs.size<=X.s₀.heap.objs.size
 noex:∀ b o,X.base.get? b=some o->b∉X.ex
 exfs:∀ b∈X.ex,b∉X.fs
 funs:X.s₀.heap.FunFrames X.base X.outer
 frf:∀ b∈X.fs,X.H₀ b=none
 tb:∀ p∈cI X.K,X.H₀ p.1=some (.ctab p.2)
structure Inv (X:Cx) (pins:List (Addr×Obj)) (σ:List (Option V)) (H:Hp) (s:Shared):Prop where
 ok:X.Ok
 os:s.os=X.s₀.os
 bare:AllBare s.gens
 base:Un X.fs X.ex X.H₀ H X.s₀.heap s.heap
 loc:∃ m,s.heap.Ns X.env.locals m/\∀ (i:Nat) (x:Str) (v:V),X.N[i]?=some x->σ[i]?=some (some v)->Vis X.env.scope x->∃ u,RelV v u/\Look X.env s.heap m x u
 cell:∀ x c,X.env.cells.lookup x=some c->∃ v,s.heap.IsCell c v
 free:H X.env.locals=none
 freeC:∀ x c,X.env.cells.lookup x=some c->H c=none
 pin:∀ p∈X.pn++pins,s.heap.get? p.1=some p.2/\H p.1=none/\p.1≠X.env.locals/\p.1∉X.fs/\∀ v,p.2.data≠.cell v
 hok:HOk X.prog X.w H s.heap
 len:σ.length=X.N.length
section
variable {X:Cx} {pins:List (Addr×Obj)} {σ:List (Option V)} {H H':Hp} {s:Shared} {h':Heap}
def Cx.Ok.nofr (ok:X.Ok) {b:Addr} {o:Obj} (e:X.base.get? b=some o):b∉X.fs:=fun hb=>by
 have:=(ok.funs.mem hb).1
 rw [e] at this;cases this
def Inv.bs (I:Inv X pins σ H s):∀ b o,X.base.get? b=some o->s.heap.get? b=some o/\H b=none:=fun b o e =>
 ⟨I.base.keep b o (I.ok.bs b o e).1 (I.ok.bs b o e).2 (I.ok.nofr e) (I.ok.noex b o e),I.base.free b o (I.ok.bs b o e).1 (I.ok.bs b o e).2 (I.ok.noex b o e)⟩
def Inv.bk (I:Inv X pins σ H s):∀ b o,X.base.get? b=some o->s.heap.get? b=some o:=fun b o e=>(I.bs b o e).1
def Inv.mod (I:Inv X pins σ H s):Mod X.K X.mg X.base:=I.ok.mod
def Inv.kIn (I:Inv X pins σ H s):X.K.In s.heap:=I.ok.mod.kin.keeps I.bk
def Inv.fr (I:Inv X pins σ H s):∃ m,Fr X.base X.env.locals s.heap m:=
 let ⟨m,hn,_⟩:=I.loc
 ⟨m,hn,I.bk,Nat.le_trans I.ok.bsz I.ok.above⟩
def Inv.lt (I:Inv X pins σ H s):X.env.locals<s.heap.objs.size:=let ⟨_,hn,_⟩:=I.loc;hn.lt
def Inv.sz (I:Inv X pins σ H s):X.s₀.heap.objs.size<=s.heap.objs.size:=Nat.le_trans I.ok.above (Nat.le_of_lt I.lt)
def Inv.nofs (I:Inv X pins σ H s) {a:Addr} (h:s.heap.objs.size<=a):a∉X.fs:=fun hb=>by
 obtain ⟨_,o,ho,_⟩:=I.ok.funs.mem hb
 exact absurd (Nat.lt_of_lt_of_le (Heap.lt_size ho) (Nat.le_trans I.sz h)) (Nat.lt_irrefl _)
def Inv.cne (I:Inv X pins σ H s):∀ x c,X.env.cells.lookup x=some c->c≠X.env.locals:=fun x c e z=>by
 obtain ⟨v,o,ho,hd⟩:=I.cell x c e
 obtain ⟨m,⟨o',es,ep,ho',hd',_⟩,_⟩:=I.loc
 rw [z,ho'] at ho;cases ho;rw [hd'] at hd;cases hd
def Inv.funs (I:Inv X pins σ H s):s.heap.FunFrames X.base X.outer:=by
 have all:∀ (l:List Env),(∀ b∈frs l,b∈X.fs)->X.s₀.heap.FunFrames X.base l->s.heap.FunFrames X.base l:=by
  intro l
  induction l with
  | nil=>intro _ _;trivial
  | cons env r ih =>
   intro hs hl
   obtain ⟨hk,⟨L,o,hf,hn,ho,hd⟩,hr⟩:=hl
   have hL:L∈X.fs:=hs L (by unfold frs;rw [List.filterMap_cons,hf];exact List.mem_cons_self)
   obtain ⟨sl,e⟩:=I.base.slot L o ho (I.ok.frf L hL) hL fun z=>I.ok.exfs L z hL
   exact ⟨hk,⟨L,_,hf,hn,e,hd⟩,ih (fun b hb=>hs b (by unfold frs;rw [List.filterMap_cons,hf];exact List.mem_cons_of_mem _ hb)) hr⟩
 exact all X.outer (fun _ hb=>hb) I.ok.funs
def Inv.stack (I:Inv X pins σ H s):s.heap.FunFrames X.base X.stack:=by
 rcases I.ok.stk with e | ⟨e,hf⟩
 · rw [e];exact I.funs
 · rw [e]
   obtain ⟨m,hn,_⟩:=I.loc
   refine .cons (by rw [I.ok.kind];decide) hf hn ?_ I.funs
   exact Heap.get?_none_of_le (Nat.le_trans I.ok.bsz I.ok.above)
def Inv.stkSub (I:Inv X pins σ H s):∀ b∈frs X.stack,b∈X.env.locals::X.fs:=fun b hb=>by
 rcases I.ok.stk with e | ⟨e,hf⟩
 · rw [e] at hb;exact List.mem_cons_of_mem _ hb
 · rw [e] at hb
   unfold frs at hb
   rw [List.filterMap_cons,hf] at hb
   exact hb
def Inv.stkFree (I:Inv X pins σ H s):∀ b∈frs X.stack,H b=none:=fun b hb=>by
 rcases List.mem_cons.mp (I.stkSub b hb) with e | hb
 · rw [e];exact I.free
 · obtain ⟨_,o,ho,_⟩:=I.ok.funs.mem hb
   exact I.base.free b o ho (I.ok.frf b hb) fun z=>I.ok.exfs b z hb
def Inv.step {g':Array GenState} {t':Nat} {d':Drawn} {ch:List Addr} (I:Inv X pins σ H s)
  (hch:∀ b∈ch,(b∈X.ex∨X.s₀.heap.objs.size<=b)/\b≠X.env.locals/\(∀ x c,X.env.cells.lookup x=some c->c≠b)/\∀ p∈X.pn++pins,p.1≠b)
  (keep:∀ b o,b≠X.env.locals->b∉X.fs->b∉ch->s.heap.get? b=some o->H b=none->h'.get? b=some o)
  (slot:∀ b o,b≠X.env.locals->b∈X.fs->b∉ch->s.heap.get? b=some o->H b=none->∃ sl,h'.get? b=some {o with slots:=sl}) (free:∀ b o,b∉ch->s.heap.get? b=some o->H b=none->H' b=none)
  (there:∀ b o,b∉ch->s.heap.get? b=some o->∃ o',h'.get? b=some o')
  (tups:∀ b xs,H b=some (.tup xs)->H' b=some (.tup xs)) (frzs:∀ b o u,H b=some (.frz o u)->H' b=some (.frz o u)) (tbls:∀ b ps,H b=some (.tbl ps)->∃ more,H' b=some (.tbl (ps++more))) (cts:∀ b qs,H b=some (.ctab qs)->H' b=some (.ctab qs))
  (ns:∀ m,s.heap.Ns X.env.locals m->h'.Ns X.env.locals m) (hok:HOk X.prog X.w H' h') (hg:AllBare g') :
  Inv X pins σ H' {s with heap:=h',gens:=g',drawn:=d',toks:=t'}:=by
 have neL:∀ b o,X.s₀.heap.get? b=some o->b≠X.env.locals:=fun b o e=>Nat.ne_of_lt (Nat.lt_of_lt_of_le (Heap.lt_size e) I.ok.above)
 have neC:∀ b o,X.s₀.heap.get? b=some o->b∉X.ex->b∉ch:=fun b o e hx hb=>by
  rcases (hch b hb).1 with z | z
  · exact hx z
  · exact absurd (Nat.lt_of_lt_of_le (Heap.lt_size e) z) (Nat.lt_irrefl _)
 have cellK:∀ x c,X.env.cells.lookup x=some c->∀ v,s.heap.IsCell c v->h'.IsCell c v:=fun x c e v ⟨o,ho,hd⟩=>by
  have nch:c∉ch:=fun z=>(hch c z).2.2.1 x c e rfl
  by_cases hc:c∈X.fs
  · obtain ⟨sl,q⟩:=slot c o (I.cne x c e) hc nch ho (I.freeC x c e)
    exact ⟨_,q,hd⟩
  · exact ⟨o,keep c o (I.cne x c e) hc nch ho (I.freeC x c e),hd⟩
 refine ⟨I.ok,I.os,hg,⟨fun b o e n hb hx=>?_,fun b o e n hb hx=>?_,fun b o e n hx=>?_,fun b o e hx=>?_,fun b xs e=>tups b xs (I.base.tups b xs e),fun b o xs e=>frzs b o xs (I.base.frzs b o xs e),fun b ps e=>?_,fun b qs e=>cts b qs (I.base.cts b qs e)⟩,?_,fun x c e=>?_,?_,fun x c e=>?_,fun p hp=>?_,hok,I.len⟩
 · exact keep b o (neL b o e) hb (neC b o e hx) (I.base.keep b o e n hb hx) (I.base.free b o e n hx)
 · obtain ⟨sl,e1⟩:=I.base.slot b o e n hb hx
   obtain ⟨sl',e2⟩:=slot b _ (neL b o e) hb (neC b o e hx) e1 (I.base.free b o e n hx)
   exact ⟨sl',e2⟩
 · obtain ⟨o',e1⟩:=I.base.there b o e hx
   exact free b o' (neC b o e hx) e1 (I.base.free b o e n hx)
 · obtain ⟨o',e1⟩:=I.base.there b o e hx
   exact there b o' (neC b o e hx) e1
 · obtain ⟨m1,e1⟩:=I.base.tbls b ps e
   obtain ⟨m2,e2⟩:=tbls b _ e1
   exact ⟨m1++m2,by rw [e2,Array.append_assoc]⟩
 · obtain ⟨m,hn,hl⟩:=I.loc
   refine ⟨m,ns m hn,fun i x v e1 e2 e3=>?_⟩
   obtain ⟨u,r,l⟩:=hl i x v e1 e2 e3
   refine ⟨u,r,?_⟩
   rcases l with l | ⟨k,c,e,z⟩
   · exact .inl l
   · exact .inr ⟨k,c,e,cellK x c e _ z⟩
 · obtain ⟨v,z⟩:=I.cell x c e
   exact ⟨v,cellK x c e v z⟩
 · obtain ⟨m,⟨o,_,_,ho,_⟩,_⟩:=I.loc
   exact free _ o (fun z=>(hch _ z).2.1 rfl) ho I.free
 · obtain ⟨v,o,ho,hd⟩:=I.cell x c e
   exact free c o (fun z=>(hch c z).2.2.1 x c e rfl) ho (I.freeC x c e)
 · obtain ⟨e,n,ne,nf,d⟩:=I.pin p hp
   have nch:p.1∉ch:=fun z=>(hch p.1 z).2.2.2 p hp rfl
   exact ⟨keep p.1 p.2 ne nf nch e n,free p.1 p.2 nch e n,ne,nf,d⟩
def Inv.un {t':Nat} (I:Inv X pins σ H s) (u:Un X.fs [] H H' s.heap h') (hok:HOk X.prog X.w H' h'):Inv X pins σ H' {s with heap:=h',toks:=t'}:=by
 obtain ⟨m,⟨o,es,ep,ho,r⟩,_⟩:=id I.loc
 obtain ⟨sl,hL⟩:=u.any ho I.free (by simp)
 exact I.step (g':=s.gens) (d':=s.drawn) (ch:=[]) (fun _ z=>nomatch z) (fun b o _ hb _ e n=>u.keep b o e n hb (by simp)) (fun b o _ hb _ e n=>u.slot b o e n hb (by simp)) (fun b o _ e n=>u.free b o e n (by simp)) (fun b o _ e=>u.there b o e (by simp)) u.tups u.frzs u.tbls u.cts (fun m' hm=>by
  obtain ⟨o',es',ep',ho',r'⟩:=hm
  rw [ho] at ho';cases ho'
  exact ⟨_,es',ep',hL,r'⟩) hok I.bare
def Inv.call {g':Array GenState} {t':Nat} {d':Drawn} {ch:List Addr} (I:Inv X pins σ H s) (u:Un (frs X.stack) ch H H' s.heap h') (hok:HOk X.prog X.w H' h') (hg:AllBare g')
  (hch:∀ b∈ch,(b∈X.ex∨X.s₀.heap.objs.size<=b)/\b≠X.env.locals/\(∀ x c,X.env.cells.lookup x=some c->c≠b)/\∀ p∈X.pn++pins,p.1≠b) :
  Inv X pins σ H' {s with heap:=h',gens:=g',drawn:=d',toks:=t'}:=by
 obtain ⟨m,⟨o,es,ep,ho,r⟩,_⟩:=id I.loc
 obtain ⟨sl,hL⟩:=u.any ho I.free fun z=>(hch _ z).2.1 rfl
 exact I.step (ch:=ch) hch (fun b o hL hb hc e n=>u.keep b o e n (fun z=>(List.mem_cons.mp (I.stkSub b z)).elim hL hb) hc) (fun b o _ _ hc e n=>u.any e n hc) (fun b o hc e n=>u.free b o e n hc) (fun b o hc e=>u.there b o e hc) u.tups u.frzs u.tbls u.cts (fun m' hm=>by
  obtain ⟨o',es',ep',ho',r'⟩:=hm
  rw [ho] at ho';cases ho'
  exact ⟨_,es',ep',hL,r'⟩) hok hg
def Inv.turned {t':Nat} {it:Addr} (I:Inv X pins σ H s) (k:∀ b o,b≠it->s.heap.get? b=some o->h'.get? b=some o) (hn:H it=none) (hL:it≠X.env.locals)
  (h1:it∈X.ex∨X.s₀.heap.objs.size<=it) (h2:∀ x c,X.env.cells.lookup x=some c->c≠it) (h3:∀ p∈X.pn++pins,p.1≠it):Inv X pins σ H {s with heap:=h',toks:=t'}:=by
 have nit:∀ b u,H b=some u->b≠it:=fun b u e z=>by rw [z,hn] at e;cases e
 refine I.step (g':=s.gens) (d':=s.drawn) (ch:=[it]) (fun b hb=>?_) (fun b o _ _ hc e _=>k b o (fun z=>hc (by simp [z])) e) (fun b o _ _ hc e _=>⟨o.slots,k b o (fun z=>hc (by simp [z])) e⟩) (fun _ _ _ _ n=>n)
  (fun b o hc e=>⟨o,k b o (fun z=>hc (by simp [z])) e⟩) (fun _ _ e=>e) (fun _ _ _ e=>e) (fun b ps e=>⟨#[],by rw [e];simp⟩) (fun _ _ e=>e) (fun m hm=>?_) (fun b u e=>?_) I.bare
 · have e:b=it:=by simpa using hb
   subst e
   exact ⟨h1,hL,h2,h3⟩
 · obtain ⟨o,es,ep,ho,r⟩:=hm
   exact ⟨o,es,ep,k _ o (Ne.symm hL) ho,r⟩
 · refine (I.hok b u e).stay (fun c v hc q=>k c v ?_ q) (fun _ q=>q) (fun _ _ q=>q) fun _ _ _ q=>q
   rcases hc with z | z
   · rw [z];exact nit b u e
   · exact nit c _ z
def Inv.tok (I:Inv X pins σ H s) (t:Nat):Inv X pins σ H {s with toks:=t}:=I.un (h':=s.heap) (t':=t) Un.refl I.hok
def Inv.kept {t':Nat} (I:Inv X pins σ H s) (k:∀ b u,s.heap.get? b=some u->h'.get? b=some u):Inv X pins σ H {s with heap:=h',toks:=t'}:=I.un (Un.kept k) (I.hok.kept k)
def Inv.laid {a:Addr} {o:HO} {t':Nat} (I:Inv X pins σ H s) (k:∀ b u,s.heap.get? b=some u->h'.get? b=some u) (hp:s.heap.objs.size<=a) (new:ObjOk X.prog X.w (upd H a o) h' a o) :
  Inv X pins σ (upd H a o) {s with heap:=h',toks:=t'}:=I.un (Un.laid k hp (I.hok.fresh hp)) (I.hok.laid k hp new)
def Inv.write {x e:Addr} {o:HO} {t':Nat} (I:Inv X pins σ H s) (mu:Mut (H x)) (he:e=x∨H e=some (.own x)) (k:∀ b u,b≠e->s.heap.get? b=some u->h'.get? b=some u) (heo:∃ u,h'.get? e=some u)
  (new:ObjOk X.prog X.w (upd H x o) h' x o):Inv X pins σ (upd H x o) {s with heap:=h',toks:=t'}:=I.un (Un.write mu he k heo) (I.hok.write mu he k heo new)
def Inv.weak {σ':List (Option V)} (I:Inv X pins σ H s) (hl:σ'.length=σ.length) (w:∀ (i:Nat) v,σ'[i]?=some (some v)->σ[i]?=some (some v)):Inv X pins σ' H s:=
 ⟨I.ok,I.os,I.bare,I.base,let ⟨m,hn,hl'⟩:=I.loc;⟨m,hn,fun i x v e1 e2 e3=>hl' i x v e1 (w i v e2) e3⟩,I.cell,I.free,I.freeC,I.pin,I.hok,hl.trans I.len⟩
def Inv.pins_of {pins':List (Addr×Obj)} (I:Inv X pins σ H s) (h:∀ p∈pins',s.heap.get? p.1=some p.2/\H p.1=none/\p.1≠X.env.locals/\p.1∉X.fs/\∀ v,p.2.data≠.cell v):Inv X pins' σ H s:=
 ⟨I.ok,I.os,I.bare,I.base,I.loc,I.cell,I.free,I.freeC,fun p hp=>(List.mem_append.mp hp).elim (fun z=>I.pin p (List.mem_append_left _ z)) (h p),I.hok,I.len⟩
def mI {N:List Str} (hN:N.Nodup) {i j:Nat} {x:Str} (a:N[i]?=some x) (b:N[j]?=some x):i=j:=by
 obtain ⟨h1,e1⟩:=gX a
 obtain ⟨h2,e2⟩:=gX b
 exact (List.getElem_inj hN).mp (e1.trans e2.symm)
def kK {M:Model} {A:Around} {E:Value->Shared->Prop} {i:Nat} {x:Str} {v:V} {u:Value} {Q:Unit->Shared->Prop} (I:Inv X pins σ H s) (hN:X.N.Nodup) (hi:X.N[i]?=some x) (hx:Loc X.env.scope x) (r:RelV v u)
  (h:∀ s',Inv X pins (σ.set i (some v)) H s'->(∃ a,Heap.SameBut a s.heap s'.heap/\(a=X.env.locals∨X.env.cells.lookup x=some a))->Q () s') (hf:X.fn x=true∨X.env.scope.names.lookup x=some .local:=by first | exact .inl rfl | exact .inr rfl | assumption):wpAny M A (storeName X.env x u) Q E s:=by
 obtain ⟨m,hn,hl⟩:=id I.loc
 have hcls:(X.env.scope.kind==.class||(X.env.scope.kind==.module&&X.env.locals != X.env.globals))=false:=by rw [I.ok.kind];rfl
 have hiσ:i<σ.length:=by rw [I.len];exact (gX hi).1
 have cne:=I.cne
 have tracked:∀ {a:Addr} {h':Heap},(∃ o,s.heap.get? a=some o/\H a=none)->Heap.SameBut a s.heap h'->HOk X.prog X.w H h':=fun {a h'} ha hs b ob e=>by
  obtain ⟨_,_,hfree⟩:=ha
  refine (I.hok b ob e).stay (fun c w' hc q=>(hs.2 c ?_).trans q) (fun _ q=>q) (fun _ _ q=>q) fun _ _ _ q=>q
  rintro rfl
  rcases hc with rfl | hc
  · rw [hfree] at e;cases e
  · rw [hfree] at hc;cases hc
 rcases hx with hk | hk
 · refine wpAny_storeName_local hk hn (fun h' hn' hs=>?_) hcls
   obtain ⟨oL,_,_,hoL,_⟩:=id hn
   refine h _ ⟨I.ok,I.os,I.bare,⟨fun b o e n hb hx=>?_,fun b o e n hb hx=>?_,I.base.free,fun b o e hx=>?_,I.base.tups,I.base.frzs,I.base.tbls,I.base.cts⟩,⟨_,hn',fun j y v' e1 e2 e3=>?_⟩,fun y c e=>?_,I.free,I.freeC,fun p hp=>?_,tracked ⟨oL,hoL,I.free⟩ hs,by simpa using I.len⟩ ⟨_,hs,.inl rfl⟩
   · exact (hs.2 b (Nat.ne_of_lt (Nat.lt_of_lt_of_le (Heap.lt_size e) I.ok.above))).trans (I.base.keep b o e n hb hx)
   · obtain ⟨sl,e1⟩:=I.base.slot b o e n hb hx
     exact ⟨sl,(hs.2 b (Nat.ne_of_lt (Nat.lt_of_lt_of_le (Heap.lt_size e) I.ok.above))).trans e1⟩
   · obtain ⟨o',e1⟩:=I.base.there b o e hx
     exact ⟨o',(hs.2 b (Nat.ne_of_lt (Nat.lt_of_lt_of_le (Heap.lt_size e) I.ok.above))).trans e1⟩
   · by_cases hj:j=i
     · subst hj
       rw [hi] at e1;cases e1
       rw [List.getElem?_set_self hiσ] at e2
       cases e2
       exact ⟨u,r,.inl ⟨hk,by simp⟩⟩
     · rw [gN (Ne.symm hj)] at e2
       obtain ⟨u',r',q⟩:=hl j y v' e1 e2 e3
       refine ⟨u',r',?_⟩
       rcases q with ⟨k,e⟩ | ⟨k,c,e,z⟩
       · refine .inl ⟨k,?_⟩
         have:y≠x:=fun e=>hj (mI hN e1 (e▸hi))
         simp [this,e]
       · exact .inr ⟨k,c,e,z.sameBut hs (cne y c e)⟩
   · obtain ⟨w',z⟩:=I.cell y c e
     exact ⟨w',z.sameBut hs (cne y c e)⟩
   · obtain ⟨e,n,ne,nf,d⟩:=I.pin p hp
     exact ⟨(hs.2 p.1 ne).trans e,n,ne,nf,d⟩
 · have hfn:X.fn x=true:=by
    rcases hf with z | z
    · exact z
    · rw [z] at hk;cases hk
   obtain ⟨c,hc⟩:=I.ok.has x (.inl hk)
   obtain ⟨w',z⟩:=I.cell x c hc
   refine wpAny_storeName_cell I.ok.kind hk hc z (fun h' hc' hs=>?_)
   obtain ⟨oc,hoc,hocd⟩:=id z
   refine h {s with heap:=h'} ⟨I.ok,I.os,I.bare,⟨fun b o e n hb hx=>?_,fun b o e n hb hx=>?_,I.base.free,fun b o e hx=>?_,I.base.tups,I.base.frzs,I.base.tbls,I.base.cts⟩,⟨m,hn.sameBut hs (Ne.symm (cne x c hc)),fun j y v' e1 e2 e3=>?_⟩,fun y c' e=>?_,I.free,I.freeC,fun p hp=>?_,tracked ⟨oc,hoc,I.freeC x c hc⟩ hs,by simpa using I.len⟩ ⟨c,hs,.inr hc⟩
   · exact (hs.2 b (Nat.ne_of_lt (Nat.lt_of_lt_of_le (Heap.lt_size e) (I.ok.cab x c hfn hc)))).trans (I.base.keep b o e n hb hx)
   · obtain ⟨sl,e1⟩:=I.base.slot b o e n hb hx
     exact ⟨sl,(hs.2 b (Nat.ne_of_lt (Nat.lt_of_lt_of_le (Heap.lt_size e) (I.ok.cab x c hfn hc)))).trans e1⟩
   · obtain ⟨o',e1⟩:=I.base.there b o e hx
     exact ⟨o',(hs.2 b (Nat.ne_of_lt (Nat.lt_of_lt_of_le (Heap.lt_size e) (I.ok.cab x c hfn hc)))).trans e1⟩
   · by_cases hj:j=i
     · subst hj
       rw [hi] at e1;cases e1
       rw [List.getElem?_set_self hiσ] at e2
       cases e2
       exact ⟨u,r,.inr ⟨.inl hk,c,hc,hc'⟩⟩
     · rw [gN (Ne.symm hj)] at e2
       obtain ⟨u',r',q⟩:=hl j y v' e1 e2 e3
       refine ⟨u',r',?_⟩
       rcases q with q | ⟨k,c',e,z'⟩
       · exact .inl q
       · refine .inr ⟨k,c',e,z'.sameBut hs ?_⟩
         rintro rfl
         exact hj (mI hN e1 (I.ok.inj _ _ _ e hc▸hi))
   · by_cases hcc:c'=c
     · subst hcc;exact ⟨_,hc'⟩
     · obtain ⟨w2,z2⟩:=I.cell y c' e
       exact ⟨w2,z2.sameBut hs hcc⟩
   · obtain ⟨e,n,ne,nf,d⟩:=I.pin p hp
     refine ⟨(hs.2 p.1 ?_).trans e,n,ne,nf,d⟩
     intro q
     rw [q,hoc] at e
     have q':oc=p.2:=Option.some.inj e
     exact d w' (by rw [<- q'];exact hocd)
def hW {M:Model} {A:Around} {E:Value->Shared->Prop} {i:Nat} {x:Str} {v:V} {u:Value} {Q:Unit->Shared->Prop} (I:Inv X pins σ H s) (hN:X.N.Nodup) (hi:X.N[i]?=some x) (hx:Loc X.env.scope x) (r:RelV v u)
  (h:∀ s',Inv X pins (σ.set i (some v)) H s'->Q () s') (hf:X.fn x=true∨X.env.scope.names.lookup x=some .local:=by first | exact .inl rfl | exact .inr rfl | assumption):wpAny M A (storeName X.env x u) Q E s:=
 kK I hN hi hx r (fun s' I' _=>h s' I') hf
def Inv.call' {s':Shared} {ch:List Addr} (I:Inv X pins σ H s) (ho:s'.os=s.os) (u:Un (frs X.stack) ch H H' s.heap s'.heap) (hok:HOk X.prog X.w H' s'.heap) (hg:AllBare s'.gens)
  (hch:∀ b∈ch,(b∈X.ex∨X.s₀.heap.objs.size<=b)/\b≠X.env.locals/\(∀ x c,X.env.cells.lookup x=some c->c≠b)/\∀ p∈X.pn++pins,p.1≠b):Inv X pins σ H' s':=by
 obtain ⟨h',g',d',t',o'⟩:=s'
 have e:o'=s.os:=ho
 subst e
 exact I.call (g':=g') (t':=t') (d':=d') u hok hg hch
end
abbrev XK:=Value->Option Addr->Hp->Prop
abbrev St:=List (Option V)
abbrev VK:=V->Hp->Prop
abbrev TE:=St->Hp->VK->Prop
abbrev TT:=St->Hp->(Bool->Hp->Prop)->Prop
abbrev TA:=St->Hp->(List V->Hp->Prop)->Prop
structure Ends where
 nx:St->Hp->Prop
 rt:VK
 bk:St->Hp->Prop:=fun _ _=>False
 ct:St->Hp->Prop:=fun _ _=>False
abbrev TS:=Ends->St->Hp->Prop
def EP (X:Cx) (pins:List (Addr×Obj)) (σ:St) (Q:VK) (u:Value) (s':Shared):Prop:=∃ v H',Inv X pins σ H' s'/\RelV v u/\Q v H'
def TP (X:Cx) (pins:List (Addr×Obj)) (σ:St) (Q:Bool->Hp->Prop) (b:Bool) (s':Shared):Prop:=∃ H',Inv X pins σ H' s'/\Q b H'
def AP (X:Cx) (pins:List (Addr×Obj)) (σ:St) (Q:List V->Hp->Prop) (us:List Value) (s':Shared):Prop:=∃ vs H',Inv X pins σ H' s'/\Vals vs us/\Q vs H'
noncomputable def SP (X:Cx) (pins:List (Addr×Obj)) (D:Ends) (f:Flow) (s':Shared):Prop:=
 match f with
 | .next=>∃ σ' H',Inv X pins σ' H' s'/\D.nx σ' H'
 | .brk=>∃ σ' H',Inv X pins σ' H' s'/\D.bk σ' H'
 | .cont=>∃ σ' H',Inv X pins σ' H' s'/\D.ct σ' H'
 | .ret u=>∃ v σ' H',Inv X pins σ' H' s'/\RelV v u/\D.rt v H'
def PE (X:Cx) (e:Expr) (t:TE):Prop:=
 ∀ (pins:List (Addr×Obj)) (s:Shared) (σ:St) (H:Hp) (Q:VK),Inv X pins σ H s->t σ H Q->wpAny (model X.prog X.w) X.A (eval e X.env) (EP X pins σ Q) X.xe s
noncomputable def PT (X:Cx) (e:Expr) (t:TT):Prop:=
 ∀ (pins:List (Addr×Obj)) (s:Shared) (σ:St) (H:Hp) (Q:Bool->Hp->Prop),Inv X pins σ H s->t σ H Q->wpAny (model X.prog X.w) X.A (isTrue e X.env (eval e X.env)) (TP X pins σ Q) X.xe s
noncomputable def PW (X:Cx) (e:Expr) (t:TT):Prop:=
 ∀ (whole:Sem Value) (pins:List (Addr×Obj)) (s:Shared) (σ:St) (H:Hp) (Q:Bool->Hp->Prop),Inv X pins σ H s->t σ H Q->wpAny (model X.prog X.w) X.A (isTrue e X.env whole) (TP X pins σ Q) X.xe s
def PW.pt {X:Cx} {e:Expr} {t:TT} (h:PW X e t):PT X e t:=h _
noncomputable def PA (X:Cx) (es:List Expr) (t:TA):Prop:=
 ∀ (pos:Pos) (pins:List (Addr×Obj)) (s:Shared) (σ:St) (H:Hp) (Q:List V->Hp->Prop),Inv X pins σ H s->t σ H Q->wpAny (model X.prog X.w) X.A (spliced (backTo pos (starEach es X.env))) (AP X pins σ Q) X.xe s
def PS (X:Cx) (st:Stmt) (t:TS):Prop:=
 ∀ (pins:List (Addr×Obj)) (s:Shared) (σ:St) (H:Hp) (D:Ends),Inv X pins σ H s->t D σ H->wpAny (model X.prog X.w) X.A (exec st X.env) (SP X pins D) X.xe s
def PSs (X:Cx) (st:List Stmt) (t:TS):Prop:=
 ∀ (pins:List (Addr×Obj)) (s:Shared) (σ:St) (H:Hp) (D:Ends),Inv X pins σ H s->t D σ H->wpAny (model X.prog X.w) X.A (execs st X.env) (SP X pins D) X.xe s
def thn {α:Type} {t:Sem α} {Q Q':α->Shared->Prop} {M:Model} {A:Around} {E:Value->Shared->Prop} {s:Shared} (h:wpAny M A t Q E s) (hQ:∀ a s,Q a s->Q' a s):wpAny M A t Q' E s:=wpAny_mono h hQ fun _ _ x=>x
section
variable {X:Cx}
def bin {a b:Expr} {ta tb:TE} (ha:PE X a ta) (hb:PE X b tb) {pins:List (Addr×Obj)} {s:Shared} {σ:St} {H:Hp} {R:V->V->Hp->Prop} (I:Inv X pins σ H s) (h:ta σ H fun x H1=>tb σ H1 fun y H2=>R x y H2)
  {α:Type} {Q:α->Shared->Prop} {f:Value->Value->Sem α}
  (hf:∀ v u s2 x y H2,Inv X pins σ H2 s2->RelV x v->RelV y u->R x y H2->wpAny (model X.prog X.w) X.A (f v u) Q X.xe s2) :
  wpAny (model X.prog X.w) X.A (eval a X.env) (fun v s₁=>wpAny (model X.prog X.w) X.A (eval b X.env) (fun u s₂=>wpAny (model X.prog X.w) X.A (f v u) Q X.xe s₂) X.xe s₁) X.xe s:=by
 refine thn (ha pins s σ H _ I h) fun v s1 ⟨x,H1,I1,r1,q1⟩=>?_
 refine thn (hb pins s1 σ H1 _ I1 q1) fun u s2 ⟨y,H2,I2,r2,q2⟩=>?_
 exact hf v u s2 x y H2 I2 r1 r2 q2
def jh (i:Nat):TE:=fun σ H Q=>∃ v,σ[i]?=some (some v)/\Q v H
def tC (v:V):TE:=fun _ H Q=>Q v H
def yO {i:Nat} {x:Str} {pos:Pos} (hN:X.N[i]?=some x) (hv:Vis X.env.scope x) (hd:(x==("__debug__":Str))=false:=by decide) (hcd:(x==("__classdict__":Str))=false:=by decide):PE X (.Name x pos) (jh i):=by
 intro pins s σ H Q I h
 obtain ⟨v,e,h⟩:=h
 obtain ⟨m,hn,hl⟩:=I.loc
 obtain ⟨u,r,l⟩:=hl i x v hN e hv
 have fin:EP X pins σ Q u s:=⟨v,H,I,r,h⟩
 rcases l with ⟨hk,hm⟩ | ⟨hk,c,hc,hcell⟩
 · exact wpAny_Name (wpAny_loadName_local I.ok.kind hk hn hm fin) hd
 · rcases hk with hk | hk
   · exact wpAny_Name (wpAny_loadName_cell I.ok.kind hk hc hcell fin) hd
   · exact wpAny_Name (wpAny_loadName_free I.ok.kind hk hc hcell fin hcd) hd
def yP {i j pos}:PE X (.Constant (.int i) j pos) (tC (.int i)):=fun _ _ _ H _ I h=>wpAny_Constant_int ⟨.int i,H,I.tok _,⟨_,rfl⟩,h⟩
def A5 {b j pos}:PE X (.Constant (.bool b) j pos) (tC (.bl b)):=fun _ _ _ H _ I h=>Constant_bool ⟨.bl b,H,I,rfl,h⟩
def yQ {j pos}:PE X (.Constant .none j pos) (tC .non):=fun _ _ _ H _ I h=>Constant_none ⟨.non,H,I,rfl,h⟩
def yR {x j pos}:PE X (.Constant (.str x) j pos) (tC (.str x)):=fun _ _ _ H _ I h=>Calls.Constant_str ⟨.str x,H,I.tok _,⟨_,rfl⟩,h⟩
def Gl (X:Cx) (x:Str):Prop:=X.env.kindOf x=some .globalImplicit
def lP {E:Value->Shared->Prop} {pins:List (Addr×Obj)} {s:Shared} {σ:St} {H:Hp} {x:Str} {u:Value} {pos:Pos} {Q:Value->Shared->Prop} (I:Inv X pins σ H s) (hg:Gl X x) (hm:X.mg x=some u) (h:Q u s)
  (hd:(x==("__debug__":Str))=false:=by decide):wpAny (model X.prog X.w) X.A (eval (.Name x pos) X.env) Q E s:=
 Calls.Name_function_global I.ok.kind hg (Calls.loadGlobal_global (by rw [I.ok.glob];exact I.mod.glob.keeps I.bk) hm h) hd
def eT {E:Value->Shared->Prop} {pins:List (Addr×Obj)} {s:Shared} {σ:St} {H:Hp} {x:Str} {u:Value} {pos:Pos} {Q:Value->Shared->Prop} (I:Inv X pins σ H s) (hg:Gl X x) (hm:X.mg x=none) (hv:bootBuiltins x=some u) (h:Q u s)
  (hn:x≠"__name__":=by decide) (hd:(x==("__debug__":Str))=false:=by decide):wpAny (model X.prog X.w) X.A (eval (.Name x pos) X.env) Q E s:=by
 obtain ⟨mb,h1,h2⟩:=I.mod.blt
 exact Calls.Name_function_global I.ok.kind hg (Calls.loadGlobal_builtin (by rw [I.ok.glob];exact I.mod.glob.keeps I.bk) hm (by rw [I.ok.blt];exact h1.keeps I.bk) ((h2 x hn).trans hv) h) hd
def vS {x:Str} {v:V} {u:Value} {pos:Pos} (hg:Gl X x) (hm:X.mg x=some u) (r:RelV v u) (hd:(x==("__debug__":Str))=false:=by decide):PE X (.Name x pos) (tC v):=
 fun _ _ _ H _ I h=>lP I hg hm ⟨v,H,I,r,h⟩ hd
def vT {x:Str} {v:V} {u:Value} {pos:Pos} (hg:Gl X x) (hm:X.mg x=none) (hv:bootBuiltins x=some u) (r:RelV v u) (hn:x≠"__name__":=by decide) (hd:(x==("__debug__":Str))=false:=by decide):PE X (.Name x pos) (tC v):=
 fun _ _ _ H _ I h=>eT I hg hm hv ⟨v,H,I,r,h⟩ hn hd
variable {a b:Expr} {ta tb:TE} {pos:Pos}
noncomputable def PC (X:Cx) (op:CmpOp) (a b:Expr) (t:TE):Prop:=
 ∀ (pins:List (Addr×Obj)) (s:Shared) (σ:St) (H:Hp) (Q:VK),Inv X pins σ H s->t σ H Q→
  wpAny (model X.prog X.w) X.A (eval a X.env) (fun v s₁=>wpAny (model X.prog X.w) X.A (eval b X.env) (fun u s₂=>wpAny (model X.prog X.w) X.A (compareOp op v u) (EP X pins σ Q) X.xe s₂) X.xe s₁) X.xe s
def tB (t:TE):TT:=fun σ H Q=>t σ H fun x H1=>∃ c,x=.bl c/\Q c H1
def oP {op:CmpOp} {t:TE} (h:PC X op a b t) (h1:behindInMarks op b=false:=by first | exact nobehind _ (by decide) (by decide) | rfl):PT X (.Compare a [op] [b] pos) (tB t):=by
 intro pins s σ H Q I hw
 refine wpAny_isTrue_Compare1 (thn (h pins s σ H _ I hw) fun v s1 h1=>thn h1 fun u s2 h2=>thn h2 fun c s3 ⟨x,H1,I1,r1,q1⟩=>?_) h1
 obtain ⟨d,rfl,q⟩:=q1
 cases r1
 exact wpAny_truthy_bool ⟨H1,I1,q⟩
variable {tA tB':TT} {rest:List Expr}
def tAnd (t u:TT):TT:=fun σ H Q=>t σ H fun c H1=>if c=true then u σ H1 Q else Q false H1
def tOr (t u:TT):TT:=fun σ H Q=>t σ H fun c H1=>if c=true then Q true H1 else u σ H1 Q
def tNot (t:TT):TT:=fun σ H Q=>t σ H fun c H1=>Q (!c) H1
def vU (ha:PT X a tA):PW X (.BoolOp .And [a] pos) tA:=by
 intro wh pins s σ H Q I h
 refine isTrue_and (thn (ha pins s σ H Q I h) fun c s1 e=>?_)
 cases c with
 | true=>exact isTrue_and_nil e
 | false=>exact e
def yS (ha:PT X a tA):PW X (.BoolOp .Or [a] pos) tA:=by
 intro wh pins s σ H Q I h
 refine isTrue_or (thn (ha pins s σ H Q I h) fun c s1 e=>?_)
 cases c with
 | false=>exact isTrue_or_nil e
 | true=>exact e
def yT (ha:PT X a tA) (hb:PW X (.BoolOp .And (b::rest) pos) tB'):PW X (.BoolOp .And (a::b::rest) pos) (tAnd tA tB'):=by
 intro wh pins s σ H Q I h
 refine isTrue_and (thn (ha pins s σ H _ I h) fun c s1 ⟨H1,I1,q1⟩=>?_)
 cases c with
 | true=>exact hb wh pins s1 σ H1 Q I1 q1
 | false=>exact ⟨H1,I1,q1⟩
def A6 (ha:PT X a tA) (hb:PW X (.BoolOp .Or (b::rest) pos) tB'):PW X (.BoolOp .Or (a::b::rest) pos) (tOr tA tB'):=by
 intro wh pins s σ H Q I h
 refine isTrue_or (thn (ha pins s σ H _ I h) fun c s1 ⟨H1,I1,q1⟩=>?_)
 cases c with
 | true=>exact ⟨H1,I1,q1⟩
 | false=>exact hb wh pins s1 σ H1 Q I1 q1
def tj (ha:PT X a tA):PT X (.UnaryOp .Not a pos) (tNot tA):=by
 intro pins s σ H Q I h
 exact isTrue_not (ha pins s σ H (fun c H1=>Q (!c) H1) I h)
def A7 (ta tb:TE):TE:=fun σ H Q=>ta σ H fun x H1=>∃ c,x=.bl c/\if c=true then tb σ H1 Q else Q (.bl false) H1
def A8 (ta:TE):TE:=fun σ H Q=>ta σ H fun x H1=>∃ c,x=.bl c/\Q (.bl (!c)) H1
def yU {op} {t:TE} (h:PE X a t):PE X (.BoolOp op [a] pos) t:=fun pins s σ H Q I hw=>BoolOp_one (h pins s σ H Q I hw)
def yV (ha:PE X a ta) (hb:PE X (.BoolOp .And (b::rest) pos) tb):PE X (.BoolOp .And (a::b::rest) pos) (A7 ta tb):=by
 intro pins s σ H Q I h
 refine BoolOp_and (thn (ha pins s σ H _ I h) fun v s1 ⟨x,H1,I1,r1,q1⟩=>?_)
 obtain ⟨c,rfl,q1⟩:=q1
 cases r1
 refine wpAny_truthy_bool ?_
 cases c with
 | true=>exact hb pins s1 σ H1 Q I1 q1
 | false=>exact ⟨.bl false,H1,I1,rfl,q1⟩
def yW (ha:PE X a ta):PE X (.UnaryOp .Not a pos) (A8 ta):=by
 intro pins s σ H Q I h
 refine UnaryOp_ (thn (ha pins s σ H _ I h) fun v s1 ⟨x,H1,I1,r1,q1⟩=>?_)
 obtain ⟨c,rfl,q1⟩:=q1
 cases r1
 exact not_of (wpAny_truthy_bool ⟨.bl (!c),H1,I1,rfl,q1⟩)
def tIf (t:TT) (ta tb:TE):TE:=fun σ H Q=>t σ H fun c H1=>if c=true then ta σ H1 Q else tb σ H1 Q
def mJ {c:Expr} (hc:PT X c tA) (ha:PE X a ta) (hb:PE X b tb):PE X (.IfExp c a b pos) (tIf tA ta tb):=by
 intro pins s σ H Q I h
 refine wpAny_IfExp (thn (hc pins s σ H _ I h) fun d s1 ⟨H1,I1,q1⟩=>?_)
 cases d with
 | true=>exact ha pins s1 σ H1 Q I1 q1
 | false=>exact hb pins s1 σ H1 Q I1 q1
end
noncomputable def SqL (K:PySem.W.Frag) (H:Hp) (a:Addr) (xs:List V):Prop:=
 Rd H a (.lst xs)∨
  ∃ (o:Obj) (its:Array Value) (n:Nat),K.lookup a=some o/\o.cls=.type "list"/\o.dict=none/\o.data=.seq its n/\its.size<=sizeLine/\Vals xs its.toList
noncomputable def SqT (K:PySem.W.Frag) (H:Hp) (a:Addr) (xs:List V):Prop:=
 H a=some (.tup xs)∨
  ∃ (o:Obj) (its:Array Value) (n:Nat),K.lookup a=some o/\o.cls=.type "tuple"/\o.data=.seq its n/\its.size<=sizeLine/\Vals xs its.toList
noncomputable def absV:Value->Option V
 | .none=>some .non
 | .bool b=>some (.bl b)
 | .int i _=>some (.int i)
 | .str x _=>some (.str x)
 | .bytes b _=>some (.byt b)
 | .float b _=>some (.flt b)
 | .ref a=>some (.ref a)
 | .type n=>some (.ty n)
 | _=>none
def RelV.abs {x:V} {u:Value} (r:RelV x u):absV u=some x:=by
 cases x with
 | non=>cases r;rfl
 | bl _=>cases r;rfl
 | int _=>obtain ⟨t,rfl⟩:=r;rfl
 | str _=>obtain ⟨t,rfl⟩:=r;rfl
 | byt _=>obtain ⟨t,rfl⟩:=r;rfl
 | flt _=>obtain ⟨t,rfl⟩:=r;rfl
 | ref _=>cases r;rfl
 | ty _=>cases r;rfl
def RelV.inj {x y:V} {u:Value} (r:RelV x u) (q:RelV y u):x=y:=Option.some.inj (r.abs.symm.trans q.abs)
def Vals.inj:∀ {xs ys:List V} {us:List Value},Vals xs us->Vals ys us->xs=ys
 | _,_,_,.nil,.nil=>rfl
 | _,_,_,.cons r t,.cons r' t'=>by rw [r.inj r',Vals.inj t t']
section
variable {X:Cx} {pins:List (Addr×Obj)} {σ:St} {H:Hp} {s:Shared} {a:Addr} {xs ys:List V}
def SqL.of {K:PySem.W.Frag} (h:H a=some (.lst xs)):SqL K H a xs:=.inl (.inl h)
def SqT.of {K:PySem.W.Frag} (h:H a=some (.tup xs)):SqT K H a xs:=.inl h
def Inv.list (I:Inv X pins σ H s) (h:SqL X.K H a xs):∃ its:List Value,Vals xs its/\PlainL s.heap a its.toArray/\xs.length<=sizeLine:=by
 rcases h with h | ⟨o,its,n,hk,hc,hd,hs,hz,r⟩
 · obtain ⟨z,its,n,r,e⟩:=h.ok I.hok
   exact ⟨its,r,⟨_,n,e,rfl,rfl,rfl⟩,z⟩
 · refine ⟨its.toList,r,⟨o,n,I.kIn a o hk,hc,hd,by simpa using hs⟩,?_⟩
   have e:=r.length
   simp only [Array.length_toList] at e
   omega
def Inv.tuple (I:Inv X pins σ H s) (h:SqT X.K H a xs):∃ its:List Value,Vals xs its/\IsTup s.heap a its.toArray/\xs.length<=sizeLine:=by
 rcases h with h | ⟨o,its,n,hk,hc,hs,hz,r⟩
 · obtain ⟨z,its,r,p⟩:=(Rd.of h).ok I.hok
   exact ⟨its,r,p,z⟩
 · refine ⟨its.toList,r,⟨o,I.kIn a o hk,hc,n,by simpa using hs⟩,?_⟩
   have e:=r.length
   simp only [Array.length_toList] at e
   omega
def Inv.list_inj (I:Inv X pins σ H s) (h:SqL X.K H a xs) (h':SqL X.K H a ys):xs=ys:=by
 obtain ⟨its,r,⟨o,n,e,_,_,d⟩,_⟩:=I.list h
 obtain ⟨its',r',⟨o',n',e',_,_,d'⟩,_⟩:=I.list h'
 rw [e] at e';cases e'
 rw [d] at d'
 injection d' with d1 _
 have:its=its':=by simpa using congrArg Array.toList d1
 subst this
 exact r.inj r'
def Inv.tuple_inj (I:Inv X pins σ H s) (h:SqT X.K H a xs) (h':SqT X.K H a ys):xs=ys:=by
 obtain ⟨its,r,⟨o,e,_,n,d⟩,_⟩:=I.tuple h
 obtain ⟨its',r',⟨o',e',_,n',d'⟩,_⟩:=I.tuple h'
 rw [e] at e';cases e'
 rw [d] at d'
 injection d' with d1 _
 have:its=its':=by simpa using congrArg Array.toList d1
 subst this
 exact r.inj r'
end
abbrev Cx.wish (X:Cx) (E:Value->Shared->Prop):Cx:={X with xe:=E}
abbrev Cx.nox (X:Cx):Cx:=X.wish fun _ _=>False
def Cx.Ok.wish {X:Cx} (ok:X.Ok) (E:Value->Shared->Prop):(X.wish E).Ok:=
 ⟨ok.mod,ok.kind,ok.glob,ok.blt,ok.above,ok.inj,ok.has,ok.cab,ok.hd,ok.frames,ok.stk,ok.exf,ok.bs,ok.bsz,ok.noex,ok.exfs,ok.funs,ok.frf,ok.tb⟩
def Cx.Ok.unwish {X:Cx} {E:Value->Shared->Prop} (ok:(X.wish E).Ok):X.Ok:=
 ⟨ok.mod,ok.kind,ok.glob,ok.blt,ok.above,ok.inj,ok.has,ok.cab,ok.hd,ok.frames,ok.stk,ok.exf,ok.bs,ok.bsz,ok.noex,ok.exfs,ok.funs,ok.frf,ok.tb⟩
section
variable {X:Cx} {pins:List (Addr×Obj)} {σ:St} {H:Hp} {s:Shared} {E:Value->Shared->Prop}
def Inv.wish (I:Inv X pins σ H s) (E:Value->Shared->Prop):Inv (X.wish E) pins σ H s:=⟨I.ok.wish E,I.os,I.bare,I.base,I.loc,I.cell,I.free,I.freeC,I.pin,I.hok,I.len⟩
def Inv.unwish (I:Inv (X.wish E) pins σ H s):Inv X pins σ H s:=⟨I.ok.unwish,I.os,I.bare,I.base,I.loc,I.cell,I.free,I.freeC,I.pin,I.hok,I.len⟩
def SP.unwish {D:Ends} {f:Flow} {s':Shared} (h:SP (X.wish E) pins D f s'):SP X pins D f s':=by
 cases f with
 | next=>obtain ⟨σ',H',I,q⟩:=h;exact ⟨σ',H',I.unwish,q⟩
 | brk=>obtain ⟨σ',H',I,q⟩:=h;exact ⟨σ',H',I.unwish,q⟩
 | cont=>obtain ⟨σ',H',I,q⟩:=h;exact ⟨σ',H',I.unwish,q⟩
 | ret u=>obtain ⟨v,σ',H',I,r,q⟩:=h;exact ⟨v,σ',H',I.unwish,r,q⟩
def PSs.nox {st:List Stmt} {t:TS} (h:PSs X.nox st t):PSs X st t:=fun pins s σ H D I hw =>
 wpAny_mono (h pins s σ H D (I.wish _) hw) (fun _ _ q=>q.unwish) fun _ _ z=>False.elim z
end
section
variable {X:Cx} {st:Stmt} {rest:List Stmt} {t u:TS} {e:Expr} {te:TE} {pos:Pos}
def A9:TS:=fun D σ H=>D.nx σ H
def tSeq (t u:TS):TS:=fun D σ H=>t {D with nx:=u D} σ H
def qb:PSs X [] A9:=fun _ _ σ H _ I h=>wpAny_execs_nil ⟨σ,H,I,h⟩
def fG (h1:PS X st t) (h2:PSs X rest u):PSs X (st::rest) (tSeq t u):=by
 intro pins s σ H D I h
 refine wpAny_execs_cons (thn (h1 pins s σ H {D with nx:=u D} I h) fun f s1 q=>?_)
 cases f with
 | next =>
  obtain ⟨σ',H',I',q⟩:=q
  exact h2 pins s1 σ' H' D I' q
 | ret v=>exact q
 | brk=>exact q
 | cont=>exact q
def qc (h1:PS X st t):PSs X [st] t:=by
 intro pins s σ H D I h
 refine wpAny_execs_cons (thn (h1 pins s σ H D I h) fun f s1 q=>?_)
 cases f with
 | next=>exact wpAny_execs_nil q
 | ret v=>exact q
 | brk=>exact q
 | cont=>exact q
def Inv.quiet {pins:List (Addr×Obj)} {σ:St} {H:Hp} {s:Shared} (I:Inv X pins σ H s):interactive X.env=false:=by simp [interactive,I.ok.kind]
def Ba (te:TE):TS:=fun D σ H=>te σ H fun _ H1=>D.nx σ H1
def qd (he:PE X e te) (hs:swapsWith e none pos.line X.env=pure false:=by rfl):PS X (.Expr e pos) (Ba te):=by
 intro pins s σ H D I h
 exact wpAny_Expr_any (thn (he pins s σ H _ I h) fun v s1 ⟨x,H1,I1,r1,q1⟩=>⟨σ,H1,I1,q1⟩) I.quiet hs
def tRet (te:TE):TS:=fun D σ H=>te σ H D.rt
def oQ (he:PE X e te):PS X (.Return (some e) pos) (tRet te):=by
 intro pins s σ H D I h
 exact wpAny_Return_some (thn (he pins s σ H _ I h) fun v s1 ⟨x,H1,I1,r1,q1⟩=>⟨x,σ,H1,I1,r1,q1⟩)
def tIfS (c:TT) (t u:TS):TS:=fun D σ H=>c σ H fun b H1=>if b=true then t D σ H1 else u D σ H1
def xR {c:Expr} {a b:List Stmt} {tc:TT} (hc:PT X c tc) (ha:PSs X a t) (hb:PSs X b u):PS X (.If c a b pos) (tIfS tc t u):=by
 intro pins s σ H D I h
 refine wpAny_If (thn (hc pins s σ H _ I h) fun d s1 ⟨H1,I1,q1⟩=>?_)
 cases d with
 | true=>exact ha pins s1 σ H1 D I1 q1
 | false=>exact hb pins s1 σ H1 D I1 q1
end
abbrev TG:=V->St->Hp->(St->Hp->Prop)->Prop
abbrev TGs:=List V->St->Hp->(St->Hp->Prop)->Prop
noncomputable def PG (X:Cx) (target:Expr) (t:TG):Prop:=
 ∀ (pins:List (Addr×Obj)) (s:Shared) (σ:St) (H:Hp) (v:V) (u:Value) (Q:St->Hp->Prop),Inv X pins σ H s->RelV v u->t v σ H Q→
  wpAny (model X.prog X.w) X.A (assign target X.env u) (fun _ s'=>∃ σ' H',Inv X pins σ' H' s'/\Q σ' H') X.xe s
noncomputable def PGs (X:Cx) (ts:List Expr) (t:TGs):Prop:=
 ∀ (pins:List (Addr×Obj)) (s:Shared) (σ:St) (H:Hp) (vs:List V) (us:List Value) (Q:St->Hp->Prop),Inv X pins σ H s->Vals vs us->t vs σ H Q→
  wpAny (model X.prog X.w) X.A (assignInOrder ((assignEach ts X.env).map (·.2)) us) (fun _ s'=>∃ σ' H',Inv X pins σ' H' s'/\Q σ' H') X.xe s
abbrev TIp:=V->V->Hp->VK->Prop
noncomputable def PIp (X:Cx) (op:Operator) (t:TIp):Prop:=
 ∀ (pins:List (Addr×Obj)) (s:Shared) (σ:St) (H:Hp) (x y:V) (v u:Value) (Q:VK),Inv X pins σ H s->RelV x v->RelV y u->t x y H Q→
  wpAny (model X.prog X.w) X.A (inplaceOp op v u) (EP X pins σ Q) X.xe s
section
variable {X:Cx} {pos:Pos}
def fH (i:Nat):TG:=fun v σ H Q=>Q (σ.set i (some v)) H
def qe {i:Nat} {x:Str} (hN:X.N.Nodup) (hi:X.N[i]?=some x) (hx:Loc X.env.scope x) (hf:X.fn x=true∨X.env.scope.names.lookup x=some .local:=by first | exact .inl rfl | exact .inr rfl | assumption):PG X (.Name x pos) (fH i):=by
 intro pins s σ H v u Q I r h
 exact wpAny_assign_Name (hW I hN hi hx r (fun s' I'=>⟨_,H,I',h⟩) hf)
def gNil:TGs:=fun vs σ H Q=>vs=[]/\Q σ H
def Bb (t:TG) (u:TGs):TGs:=fun vs σ H Q=>∃ v r,vs=v::r/\t v σ H fun σ' H'=>u r σ' H' Q
def qf:PGs X [] gNil:=by
 intro pins s σ H vs us Q I r h
 obtain ⟨e,h⟩:=h
 subst e
 cases r
 exact assignInOrder_nil ⟨σ,H,I,h⟩
def mK {e:Expr} {es:List Expr} {t:TG} {u:TGs} (h1:PG X e t) (h2:PGs X es u)
  (hs:(assignEach (e::es) X.env).map (·.2)=assign e X.env::(assignEach es X.env).map (·.2):=by rfl):PGs X (e::es) (Bb t u):=by
 intro pins s σ H vs us Q I r h
 obtain ⟨v,vr,e1,h⟩:=h
 subst e1
 cases r with
 | cons r rr =>
  rw [hs]
  refine assignInOrder_cons (thn (h1 pins s σ H _ _ _ I r h) fun _ s1 ⟨σ1,H1,I1,q1⟩=>?_)
  exact h2 pins s1 σ1 H1 _ _ Q I1 rr q1
def gTup (K:PySem.W.Frag) (n:Nat) (t:TGs):TG:=fun v σ H Q=>∃ a xs,v=.ref a/\SqT K H a xs/\xs.length=n/\t xs σ H Q
def tp {es:List Expr} {k:Nat} {t:TGs} {n:Nat} (hc:X.calm=true) (h:PGs X es t)
  (hn:(assignEach es X.env).length=n:=by rfl) (hst:(assignEach es X.env).findIdx? (·.1)=none:=by rfl):PG X (.Tuple es k pos) (gTup X.K n t):=by
 intro pins s σ H v u Q I r hw
 obtain ⟨a,xs,e1,hq,hl,hw⟩:=hw
 subst e1
 cases r
 obtain ⟨its,rv,ht,hz⟩:=I.tuple hq
 refine assign_Tuple_tuple (I.ok.hd hc) ht (by simp [hn,<- hl,rv.length]) hst fun h' hx=>?_
 have I1:Inv X pins σ H {s with heap:=h'}:=I.kept (t':=s.toks) fun b o e=>hx b o (Nat.ne_of_lt (Heap.lt_size e)) e
 exact h pins _ σ H xs _ Q I1 (by simpa using rv) hw
def vV (te:TE) (g:TG):TS:=fun D σ H=>te σ H fun x H1=>g x σ H1 D.nx
def yX {tg e:Expr} {te:TE} {g:TG} (he:PE X e te) (hg:PG X tg g) (hs:swapsWithSole [tg] e pos.line X.env=pure false:=by rfl) (hw:swappedStores [tg] e X.env=pure none:=by rfl)
  (h1:(assignEach [tg] X.env).map (·.2)=[assign tg X.env]:=by rfl):PS X (.Assign [tg] e pos) (vV te g):=by
 intro pins s σ H D I h
 refine wpAny_Assign_stores (thn (he pins s σ H _ I h) fun v s1 ⟨x,H1,I1,r1,q1⟩=>?_) hs hw
 rw [h1]
 exact thn (hg pins s1 σ H1 x v _ I1 r1 q1) fun _ s2 q=>q
def yY {i:Nat} {x:Str} {e:Expr} {te:TE} {pos':Pos} (hN:X.N.Nodup) (hi:X.N[i]?=some x) (hx:Loc X.env.scope x) (he:PE X e te) (hs:swapsWith e (some (.Name x pos')) pos.line X.env=pure false:=by rfl) (hf:X.fn x=true∨X.env.scope.names.lookup x=some .local:=by first | exact .inl rfl | exact .inr rfl | assumption) :
  PS X (.Assign [.Name x pos'] e pos) (vV te (fH i)):=by
 intro pins s σ H D I h
 refine wpAny_Assign_Name (thn (he pins s σ H _ I h) fun v s1 ⟨y,H1,I1,r1,q1⟩=>?_) hs
 exact hW I1 hN hi hx r1 (fun s2 I2=>⟨_,H1,I2,q1⟩) hf
def tAug (i:Nat) (te:TE) (ti:TIp):TS:=fun D σ H=>∃ x,σ[i]?=some (some x)/\te σ H fun y H1=>ti x y H1 fun z H2=>D.nx (σ.set i (some z)) H2
def yZ {i:Nat} {x:Str} {e:Expr} {te:TE} {op:Operator} {ti:TIp} {pos':Pos} (hN:X.N.Nodup) (hi:X.N[i]?=some x) (hx:Loc X.env.scope x) (he:PE X e te) (ho:PIp X op ti) (hf:X.fn x=true∨X.env.scope.names.lookup x=some .local:=by first | exact .inl rfl | exact .inr rfl | assumption) :
  PS X (.AugAssign (.Name x pos') op e pos) (tAug i te ti):=by
 intro pins s σ H D I h
 obtain ⟨v,e1,h⟩:=h
 obtain ⟨m,hn,hl⟩:=I.loc
 have vis:Vis X.env.scope x:=by rcases hx with k | k;exact .inl k;exact .inr (.inl k)
 obtain ⟨u,r,l⟩:=hl i x v hi e1 vis
 refine wpAny_AugAssign_Name ?_
 have go:wpAny (model X.prog X.w) X.A (eval e X.env) (fun w s₂=>wpAny (model X.prog X.w) X.A (inplaceOp op u w) (fun r s₃=>wpAny (model X.prog X.w) X.A (storeName X.env x r) (fun _=>SP X pins D .next) X.xe s₃) X.xe s₂) X.xe s:=by
  refine thn (he pins s σ H _ I h) fun w s1 ⟨y,H1,I1,r1,q1⟩=>?_
  refine thn (ho pins s1 σ H1 v y u w _ I1 r r1 q1) fun z s2 ⟨zv,H2,I2,r2,q2⟩=>?_
  exact hW I2 hN hi hx r2 (fun s3 I3=>⟨_,H2,I3,q2⟩) hf
 rcases l with ⟨hk,hm⟩ | ⟨hk,c,hc,hcell⟩
 · exact wpAny_loadName_local I.ok.kind hk hn hm go
 · rcases hk with hk | hk
   · exact wpAny_loadName_cell I.ok.kind hk hc hcell go
   · rcases hx with k | k
     · have:X.env.scope.names.lookup x=some .free:=hk
       rw [k] at this;cases this
     · have:X.env.scope.names.lookup x=some .free:=hk
       rw [k] at this;cases this
def ipI (f:Int->Int->Int):TIp:=fun x y H Q=>∃ i j,x=.int i/\y=.int j/\Q (.int (f i j)) H
def y0:PIp X .Add (ipI fun i j=>i+j):=by
 intro pins s σ H x y v u Q I r1 r2 h
 obtain ⟨i,j,e1,e2,q⟩:=h
 subst e1;subst e2
 obtain ⟨t,rfl⟩:=r1
 obtain ⟨t',rfl⟩:=r2
 exact iadd_int ⟨.int _,H,I.tok _,⟨_,rfl⟩,q⟩
end
section
variable {X:Cx} {pos:Pos}
noncomputable def zb (c:TT) (tb:TS):TS:=fun D σ H=>∃ W:Nat->St->Hp->Prop,(∃ m,W m σ H)/\∀ m σ H,W m σ H→
 c σ H fun b H1=>if b=true then ∃ N:St->Hp->Prop,(∀ σ' H',N σ' H'->∃ m',m'<m/\W m' σ' H')/\tb {D with nx:=N,ct:=N,bk:=D.nx} σ H1 else D.nx σ H1
def tq {c:Expr} {body:List Stmt} {tc:TT} {tb:TS} (hp:PassesOwn (model X.prog X.w) X.A X.env X.xe) (hc:PT X c tc) (hb:PSs X body tb):PS X (.While c body [] pos) (zb tc tb):=by
 intro pins s σ H D I h
 obtain ⟨W,⟨m0,w0⟩,turn⟩:=h
 refine wpAny_While (codeAny_whileLoop (fun n s'=>∃ σ' H',Inv X pins σ' H' s'/\W n σ' H') ?_ m0 ⟨σ,H,I,w0⟩)
 rintro n s1 ⟨σ1,H1,I1,w1⟩
 refine wpAny_passesOwn hp (thn (hc pins s1 σ1 H1 _ I1 (turn n σ1 H1 w1)) fun b s2 ⟨H2,I2,q2⟩=>?_)
 cases b with
 | true =>
  obtain ⟨N,hN,q2⟩:=q2
  rw [if_pos rfl]
  refine wpAny_passesOwn hp (thn (hb pins s2 σ1 H2 _ I2 q2) fun f s3 q3=>?_)
  cases f with
  | next =>
   obtain ⟨σ3,H3,I3,n3⟩:=q3
   obtain ⟨m',hm,w3⟩:=hN σ3 H3 n3
   exact ⟨m',hm,σ3,H3,I3,w3⟩
  | cont =>
   obtain ⟨σ3,H3,I3,n3⟩:=q3
   obtain ⟨m',hm,w3⟩:=hN σ3 H3 n3
   exact ⟨m',hm,σ3,H3,I3,w3⟩
  | brk=>exact q3
  | ret v=>exact q3
 | false =>
  rw [if_neg Bool.false_ne_true]
  exact wpAny_execs_nil ⟨σ1,H2,I2,q2⟩
end
structure It where
 go:Nat->Hp->Prop
 yld:Nat->Hp->V->Hp->Prop
 stop:Nat->Hp->Prop
def gu (X:Cx) (pins:List (Addr×Obj)) (H:Hp) (b:Addr):Prop:=
 H b=none/\b≠X.env.locals/\b∉X.fs/\(b∈X.ex∨X.s₀.heap.objs.size<=b)/\(∀ x c,X.env.cells.lookup x=some c->c≠b)/\∀ p∈X.pn++pins,p.1≠b
def Inv.fpOk {X:Cx} {pins:List (Addr×Obj)} {σ:St} {H H':Hp} {s:Shared} {b:Addr} (I:Inv X pins σ H s) (hb:s.heap.objs.size<=b) (hn:H' b=none):gu X pins H' b:=by
 refine ⟨hn,Nat.ne_of_gt (Nat.lt_of_lt_of_le I.lt hb),I.nofs hb,.inr (Nat.le_trans I.sz hb),fun x c e z=>?_,fun p hp z=>?_⟩
 · obtain ⟨v,q⟩:=I.cell x c e
   exact absurd (Nat.lt_of_lt_of_le q.lt (by rw [z];exact hb)) (Nat.lt_irrefl _)
 · exact absurd (Nat.lt_of_lt_of_le (Heap.lt_size (I.pin p hp).1) (by rw [z];exact hb)) (Nat.lt_irrefl _)
structure Turn (P:Program) (w:World) (K:PySem.W.Frag) (tg:Expr) (J:It) (fp:List Addr) (it:Addr) (tn:Nat->Heap->Prop):Prop where
 mem:it∈fp
 obj:∀ i h,tn i h->∀ b∈fp,∃ o,h.get? b=some o/\∀ v,o.data≠.cell v
 keep:∀ i h h',tn i h->(∀ b∈fp,∀ o,h.get? b=some o->h'.get? b=some o)->tn i h'
 item:∀ (X:Cx),X.prog=P->X.w=w->X.K=K->X.calm=true->∀ (i:Nat) (pins:List (Addr×Obj)) (s:Shared) (σ:St) (H:Hp) (E:Value->Shared->Prop),Inv X pins σ H s->(∀ b∈fp,gu X pins H b)->tn i s.heap->J.go i H→
  wpAny (model P w) X.A (pyNext (.ref it)) (fun r s1=>∃ u,r=some u∧
   wpAny (model P w) X.A (letOwnedTupleGo tg (.ref it) u) (fun _ s2=>∃ x H',Inv X pins σ H' s2/\RelV x u/\J.yld i H x H'/\tn (i+1) s2.heap/\∀ b∈fp,H' b=none) E s1) E s
 done:∀ (X:Cx),X.prog=P->X.w=w->X.K=K->X.calm=true->∀ (i:Nat) (pins:List (Addr×Obj)) (s:Shared) (σ:St) (H:Hp) (E:Value->Shared->Prop),Inv X pins σ H s->(∀ b∈fp,gu X pins H b)->tn i s.heap->J.stop i H→
  wpAny (model P w) X.A (pyNext (.ref it)) (fun r s1=>r=none/\Inv X pins σ H s1) E s
 self:∀ (A:Around) (i:Nat) (s:Shared) (Q:Value->Shared->Prop) (E:Value->Shared->Prop),tn i s.heap->Q (.ref it) s->wpAny (model P w) A (pyIter (.ref it)) Q E s
abbrev TI:=St->Hp->(It->Hp->Prop)->Prop
noncomputable def PIE (X:Cx) (pins:List (Addr×Obj)) (σ:St) (tg:Expr) (R:It->Hp->Prop) (itv:Value) (s2:Shared):Prop:=
 ∃ (it:Addr) (fp:List Addr) (tn:Nat->Heap->Prop) (J:It) (H':Hp),itv=.ref it/\Inv X pins σ H' s2/\Turn X.prog X.w X.K tg J fp it tn/\tn 0 s2.heap/\(∀ b∈fp,gu X pins H' b)/\R J H'
noncomputable def PI (X:Cx) (tg iter:Expr) (wi:TI):Prop:=
 ∀ (pins:List (Addr×Obj)) (s:Shared) (σ:St) (H:Hp) (R:It->Hp->Prop),Inv X pins σ H s->wi σ H R→
  wpAny (model X.prog X.w) X.A (eval iter X.env) (fun v s1=>wpAny (model X.prog X.w) X.A (pyIter v) (PIE X pins σ tg R) X.xe s1) X.xe s
def mL {M:Model} {A:Around} {E:Value->Shared->Prop} {s:Shared} {tg:Expr} {it:Addr} {u:Value} {o:Obj} {n:String} {vs:Array Value} {Q:Unit->Shared->Prop} (ho:s.heap.get? it=some o) (hc:o.cls=.type n) (hd:o.data=.fields vs)
  (hn:["enumerate","zip","dict_itemiterator","dict_reverseitemiterator","odict_iterator","itertools.zip_longest","itertools.pairwise"].contains n=false) (hQ:Q () s):wpAny M A (letOwnedTupleGo tg (.ref it) u) Q E s:=by
 unfold letOwnedTupleGo
 cases tg<;>first
  | exact wpAny_pure hQ
  | (cases u<;>first
      | exact wpAny_pure hQ
      | (refine wB (wpAny_load ho ?_)
         rw [hc,hd]
         show wpAny M A (if (["enumerate","zip","dict_itemiterator","dict_reverseitemiterator","odict_iterator","itertools.zip_longest","itertools.pairwise"].contains n&&vs[0]?==some (rawInt _))=true then _ else _) Q E s
         rw [if_neg (by intro h;rw [hn,Bool.false_and] at h;cases h)]
         exact wpAny_pure hQ))
def Itl (K:PySem.W.Frag) (a:Addr):It:=
 ⟨fun i H=>∃ xs x,SqL K H a xs/\xs[i]?=some x,fun i H x H'=>H'=H/\∀ xs,SqL K H a xs->xs[i]?=some x,fun i H=>∃ xs,SqL K H a xs/\xs.length<=i⟩
def Itt (K:PySem.W.Frag) (a:Addr):It:=
 ⟨fun i H=>∃ xs x,SqT K H a xs/\xs[i]?=some x,fun i H x H'=>H'=H/\∀ xs,SqT K H a xs->xs[i]?=some x,fun i H=>∃ xs,SqT K H a xs/\xs.length<=i⟩
def Itr (lo:Int) (n:Nat):It:=⟨fun i _=>i<n,fun i H x H'=>H'=H/\x=.int (lo+i),fun i _=>n<=i⟩
def rO {P:Program} {w:World} {K:PySem.W.Frag} {tg:Expr} (a it:Addr):Turn P w K tg (Itl K a) [it] it (fun i h=>h.IsListIter it a i) where
 mem:=by simp
 obj:=fun i h st b hb=>by
  have e:b=it:=by simpa using hb
  subst e
  obtain ⟨o,e,c,d⟩:=st
  exact ⟨o,e,fun v z=>by rw [d] at z;cases z⟩
 keep:=fun i h h' st k=>st.at fun o e=>k it (by simp) o e
 item:=by
  intro X hP hw hK hc i pins s σ H E I hf st hg
  subst hP hw hK
  obtain ⟨xs,x,hq,hx⟩:=hg
  obtain ⟨its,rv,p,hz⟩:=I.list hq
  obtain ⟨u,hu,ru⟩:=rv.get hx
  obtain ⟨f0,f1,f2,f3,f4,f5⟩:=hf it (by simp)
  refine wpAny_pyNext_list_item st p.isList (x:=u) (by simpa using hu) fun h' st' sb=>?_
  have I1:Inv X pins σ H {s with heap:=h'}:=I.turned (t':=s.toks) (fun b o hb e=>(sb.2 b hb).trans e) f0 f1 f3 f4 f5
  obtain ⟨o,e,c,d⟩:=id st'
  exact ⟨u,rfl,mL (s:={s with heap:=h'}) e c d (by decide) ⟨x,H,I1,ru,⟨rfl,fun ys hy=>by rw [I.list_inj hy hq];exact hx⟩,st',fun b hb=>(hf b hb).1⟩⟩
 done:=by
  intro X hP hw hK hc i pins s σ H E I hf st hg
  subst hP hw hK
  obtain ⟨xs,hq,hx⟩:=hg
  obtain ⟨its,rv,p,hz⟩:=I.list hq
  obtain ⟨f0,f1,f2,f3,f4,f5⟩:=hf it (by simp)
  have hl:=rv.length
  exact wpAny_pyNext_list_end (I.ok.hd hc) st p.isList (by simp;omega) fun h' eb=>⟨rfl,I.turned (t':=s.toks) (fun b o hb e=>eb b o hb e) f0 f1 f3 f4 f5⟩
 self:=fun _ _ _ _ _ st h=>wpAny_pyIter_listiter st h
def oR {P:Program} {w:World} {K:PySem.W.Frag} {tg:Expr} (a it:Addr):Turn P w K tg (Itt K a) [it] it (fun i h=>h.IsTupleIter it a i) where
 mem:=by simp
 obj:=fun i h st b hb=>by
  have e:b=it:=by simpa using hb
  subst e
  obtain ⟨o,e,c,d⟩:=st
  exact ⟨o,e,fun v z=>by rw [d] at z;cases z⟩
 keep:=fun i h h' st k=>st.at fun o e=>k it (by simp) o e
 item:=by
  intro X hP hw hK hc i pins s σ H E I hf st hg
  subst hP hw hK
  obtain ⟨xs,x,hq,hx⟩:=hg
  obtain ⟨its,rv,p,hz⟩:=I.tuple hq
  obtain ⟨u,hu,ru⟩:=rv.get hx
  obtain ⟨f0,f1,f2,f3,f4,f5⟩:=hf it (by simp)
  refine wpAny_pyNext_tuple_item st (show s.heap.IsTuple a its.toArray from p) (x:=u) (by simpa using hu) fun h' st' sb=>?_
  have I1:Inv X pins σ H {s with heap:=h'}:=I.turned (t':=s.toks) (fun b o hb e=>(sb.2 b hb).trans e) f0 f1 f3 f4 f5
  obtain ⟨o,e,c,d⟩:=id st'
  exact ⟨u,rfl,mL (s:={s with heap:=h'}) e c d (by decide) ⟨x,H,I1,ru,⟨rfl,fun ys hy=>by rw [I.tuple_inj hy hq];exact hx⟩,st',fun b hb=>(hf b hb).1⟩⟩
 done:=by
  intro X hP hw hK hc i pins s σ H E I hf st hg
  subst hP hw hK
  obtain ⟨xs,hq,hx⟩:=hg
  obtain ⟨its,rv,p,hz⟩:=I.tuple hq
  obtain ⟨f0,f1,f2,f3,f4,f5⟩:=hf it (by simp)
  have hl:=rv.length
  exact wpAny_pyNext_tuple_end (I.ok.hd hc) st (show s.heap.IsTuple a its.toArray from p) (by simp;omega) fun h' eb=>⟨rfl,I.turned (t':=s.toks) (fun b o hb e=>eb b o hb e) f0 f1 f3 f4 f5⟩
 self:=fun _ _ _ _ _ st h=>wpAny_pyIter_tupleiter st h
def oS {P:Program} {w:World} {K:PySem.W.Frag} {tg:Expr} (it:Addr) (lo:Int) (n:Nat):Turn P w K tg (Itr lo n) [it] it (fun i h=>IsRangeIter h it (lo+(i:Nat)*1) ((n:Int)-(i:Nat)) 1) where
 mem:=by simp
 obj:=fun i h st b hb=>by
  have e:b=it:=by simpa using hb
  subst e
  exact ⟨_,st,fun v z=>by
   have z':Data.fields _=Data.cell v:=z
   cases z'⟩
 keep:=fun i h h' st k=>k it (by simp) _ st
 item:=by
  intro X hP hw hK hc i pins s σ H E I hf st hg
  subst hP hw hK
  obtain ⟨f0,f1,f2,f3,f4,f5⟩:=hf it (by simp)
  have W:=Walks.range (prog:=X.prog) (w:=X.w) (I.ok.hd hc) it lo 1 n
  refine W.item i s _ _ hg st fun v h' tk hv st' kk=>?_
  obtain ⟨t,rfl⟩:=hv
  have I1:Inv X pins σ H {s with heap:=h',toks:=tk}:=I.turned (fun b o hb e=>kk b o (by simpa using hb) e) f0 f1 f3 f4 f5
  refine ⟨_,rfl,mL (s:={s with heap:=h',toks:=tk}) (n:="range_iterator") st' rfl rfl (by decide) ⟨.int (lo+i),H,I1,⟨t,?_⟩,⟨rfl,rfl⟩,st',fun b hb=>(hf b hb).1⟩⟩
  rw [Int.mul_one]
 done:=by
  intro X hP hw hK hc i pins s σ H E I hf st hg
  subst hP hw hK
  obtain ⟨f0,f1,f2,f3,f4,f5⟩:=hf it (by simp)
  exact wpAny_pyNext_range_end (I.ok.hd hc) st (by have:n<=i:=hg;omega) fun h' eb=>⟨rfl,I.turned (t':=s.toks) (fun b o hb e=>eb b o hb e) f0 f1 f3 f4 f5⟩
 self:=fun _ _ _ _ _ st h=>wpAny_pyIter_rangeiter st h
section
variable {X:Cx} {tg:Expr}
def xS (K:PySem.W.Frag) (tl:TE):TI:=fun σ H R=>tl σ H fun x H1=>∃ a,x=.ref a/\(∃ xs,SqL K H1 a xs)/\R (Itl K a) H1
def iTup (K:PySem.W.Frag) (tl:TE):TI:=fun σ H R=>tl σ H fun x H1=>∃ a,x=.ref a/\(∃ xs,SqT K H1 a xs)/\R (Itt K a) H1
def jq {l:Expr} {tl:TE} (hl:PE X l tl):PI X tg l (xS X.K tl):=by
 intro pins s σ H R I h
 refine thn (hl pins s σ H _ I h) fun v s1 ⟨x,H1,I1,r1,q1⟩=>?_
 obtain ⟨a,e,⟨xs,hq⟩,q⟩:=q1
 subst e
 cases r1
 obtain ⟨its,rv,p,hz⟩:=I1.list hq
 refine wpAny_pyIter_list p.isList ?_
 refine ⟨s1.heap.objs.size,[s1.heap.objs.size],_,_,H1,rfl,I1.kept (t':=s1.toks) fun b o e=>gP _ e,rO a _,⟨_,Heap.get?_push_size _ rfl,rfl,rfl⟩,fun b hb=>?_,q⟩
 have e:b=s1.heap.objs.size:=by simpa using hb
 subst e
 exact I1.fpOk (nL _) (I1.hok.fresh (nL _))
def tu {l:Expr} {tl:TE} (hl:PE X l tl):PI X tg l (iTup X.K tl):=by
 intro pins s σ H R I h
 refine thn (hl pins s σ H _ I h) fun v s1 ⟨x,H1,I1,r1,q1⟩=>?_
 obtain ⟨a,e,⟨xs,hq⟩,q⟩:=q1
 subst e
 cases r1
 obtain ⟨its,rv,p,hz⟩:=I1.tuple hq
 refine wpAny_pyIter_tuple (show s1.heap.IsTuple a its.toArray from p) ?_
 refine ⟨s1.heap.objs.size,[s1.heap.objs.size],_,_,H1,rfl,I1.kept (t':=s1.toks) fun b o e=>gP _ e,oR a _,⟨_,Heap.get?_push_size _ rfl,rfl,rfl⟩,fun b hb=>?_,q⟩
 have e:b=s1.heap.objs.size:=by simpa using hb
 subst e
 exact I1.fpOk (nL _) (I1.hok.fresh (nL _))
def tw {pins:List (Addr×Obj)} {σ:St} {H:Hp} {s:Shared} {R:It->Hp->Prop} {E:Value->Shared->Prop} {lo hi:Int} {t u v:Tok} {tk:Nat} (I:Inv X pins σ H s) (h1:-(2^62)<=lo) (h2:lo<2^62) (h3:-(2^62)<=hi) (h4:hi<2^62)
  (q:R (Itr lo (hi-lo).toNat) H):wpAny (model X.prog X.w) X.A (pyIter (.ref s.heap.objs.size)) (PIE X pins σ tg R) E {s with heap:=s.heap.push {cls:=.type "range",data:=.fields #[.int lo t,.int hi u,.int 1 v]},toks:=tk}:=by
 refine wpAny_pyIter_range (IsRange.new ..) (small_one h1 h2 h3 h4) ?_
 have I1:Inv X pins σ H {s with heap:=s.heap.push {cls:=.type "range",data:=.fields #[.int lo t,.int hi u,.int 1 v]},toks:=tk}:=I.kept fun b o e=>gP _ e
 refine ⟨(s.heap.push {cls:=.type "range",data:=.fields #[.int lo t,.int hi u,.int 1 v]}).objs.size,[(s.heap.push {cls:=.type "range",data:=.fields #[.int lo t,.int hi u,.int 1 v]}).objs.size],_,_,H,rfl,
  I1.kept (t':=tk) fun b o e=>gP _ e,oS _ lo (hi-lo).toNat,?_,fun b hb=>?_,q⟩
 · have e1:lo+((0:Nat):Int)*1=lo:=by simp
   have e2:(((hi-lo).toNat:Nat):Int)-((0:Nat):Int)=Builtin.Range.rangeSize lo hi 1:=by rw [rangeSize_one];split<;>omega
   show IsRangeIter _ _ (lo+((0:Nat):Int)*1) ((((hi-lo).toNat:Nat):Int)-((0:Nat):Int)) 1
   rw [e1,e2]
   exact Heap.get?_push_size _ rfl
 · have e:b=(s.heap.push {cls:=.type "range",data:=.fields #[.int lo t,.int hi u,.int 1 v]}).objs.size:=by simpa using hb
   subst e
   exact I1.fpOk (nL _) (I1.hok.fresh (nL _))
def xT (ta:TA):TI:=fun σ H R=>ta σ H fun vs H1=>∃ j:Int,vs=[.int j]/\-(2^62)<=j/\j<2^62/\R (Itr 0 j.toNat) H1
def rP {a:Expr} {ta:TA} {p pos:Pos} (hg:Gl X "range") (hm:X.mg "range"=none) (ha:PA X [a] ta) (hs:starEach [a] X.env=[(false,eval a X.env)]:=by rfl):PI X tg (.Call (.Name "range" p) [a] [] pos) (xT ta):=by
 intro pins s σ H R I h
 refine Call_ (eT I hg hm boot_range (PyProof.Rows.callWith_type1 (thn (ha pos pins s σ H _ I h) fun us s1 ⟨vs,H1,I1,r1,q1⟩=>?_) hs rfl))
 obtain ⟨j,e,q1,q2,q⟩:=q1
 subst e
 cases r1 with
 | cons r rr =>
  cases rr
  obtain ⟨t,rfl⟩:=r
  exact call_range_1 (tw I1 (by omega) (by omega) q1 q2 (by simpa using q))
noncomputable def tFor (wi:TI) (g:TG) (tb:TS):TS:=fun D σ H=>wi σ H fun J H1=>∃ W:Nat->Nat->St->Hp->Prop,(∃ m,W 0 m σ H1)/\∀ i m σ H,W i m σ H→
 (J.stop i H/\D.nx σ H)∨(J.go i H/\∃ N:St->Hp->Prop,(∀ σ' H',N σ' H'->∃ m',m'<m/\W (i+1) m' σ' H')/\∀ x H',J.yld i H x H'->g x σ H' fun σ2 H2=>tb {D with nx:=N,ct:=N,bk:=D.nx} σ2 H2)
def iG (fp:List Addr) (h:Heap):List (Addr×Obj):=fp.filterMap fun b=>(h.get? b).map fun o=>(b,o)
def cK {fp:List Addr} {h:Heap} {b:Addr} {o:Obj} (hb:b∈fp) (e:h.get? b=some o):(b,o)∈iG fp h:=List.mem_filterMap.mpr ⟨b,hb,by rw [e];rfl⟩
def rQ {fp:List Addr} {h:Heap} {p:Addr×Obj} (hp:p∈iG fp h):p.1∈fp/\h.get? p.1=some p.2:=by
 obtain ⟨b,hb,e⟩:=List.mem_filterMap.mp hp
 cases q:h.get? b with
 | none=>rw [q] at e;cases e
 | some o =>
  rw [q] at e
  have e':(b,o)=p:=Option.some.inj e
  subst e'
  exact ⟨hb,q⟩
def Inv.pinned {pins:List (Addr×Obj)} {σ:St} {H:Hp} {s:Shared} {fp:List Addr} (I:Inv X pins σ H s) (hf:∀ b∈fp,gu X pins H b) (ho:∀ b∈fp,∃ o,s.heap.get? b=some o/\∀ v,o.data≠.cell v):Inv X (pins++iG fp s.heap) σ H s:=
 I.pins_of fun p hp=>(List.mem_append.mp hp).elim (fun z=>I.pin p (List.mem_append_right _ z)) fun z=>by
  obtain ⟨hb,e⟩:=rQ z
  obtain ⟨f0,f1,f2,_⟩:=hf p.1 hb
  obtain ⟨o,e',d⟩:=ho p.1 hb
  rw [e] at e';cases e'
  exact ⟨e,f0,f1,f2,d⟩
def Inv.unpinned {pins pl:List (Addr×Obj)} {σ:St} {H:Hp} {s:Shared} (I:Inv X (pins++pl) σ H s):Inv X pins σ H s:=I.pins_of fun p hp=>I.pin p (List.mem_append_right _ (List.mem_append_left _ hp))
def oT {iter:Expr} {body:List Stmt} {wi:TI} {g:TG} {tb:TS} {pos:Pos} (hp:PassesOwn (model X.prog X.w) X.A X.env X.xe) (hc:X.calm=true) (hi:PI X tg iter wi) (hg:PG X tg g) (hb:PSs X body tb)
  (hs:∀ x,foldedSetIterable iter X.env x=pure x:=by intro _;rfl):PS X (.For tg iter body [] pos) (tFor wi g tb):=by
 intro pins s σ H D I h
 refine wpAny_For (thn (hi pins s σ H _ I h) fun v s1 h1=>thn h1 fun itv s2 h2=>?_) hs
 obtain ⟨it,fp,tn,J,H2,e,I2,T,st2,f2,W,⟨m0,w0⟩,turn⟩:=h2
 subst e
 -- what stays true of the iterator's objects through the loop
 have stat:∀ {H':Hp},(∀ b∈fp,H' b=none)->∀ b∈fp,gu X pins H' b:=fun hn b hb=>⟨hn b hb,(f2 b hb).2⟩
 refine codeAny_forLoop_any (fun n s'=>∃ i σ' H',Inv X pins σ' H' s'/\tn i s'.heap/\(∀ b∈fp,H' b=none)/\W i n σ' H') ?_ m0 ⟨0,σ,H2,I2,st2,fun b hb=>(f2 b hb).1,w0⟩
 rintro n s3 ⟨i,σ3,H3,I3,st3,fr3,w3⟩
 rcases turn i n σ3 H3 w3 with ⟨stop,qn⟩ | ⟨go,N,hN,step⟩
 · refine wpAny_passesOwn hp (thn (T.done X rfl rfl rfl hc i pins s3 σ3 H3 X.xe I3 (stat fr3) st3 stop) fun r s4 ⟨hr,I4⟩=>?_)
   subst hr
   exact wpAny_execs_nil ⟨σ3,H3,I4,qn⟩
 · refine wpAny_passesOwn hp (thn (T.item X rfl rfl rfl hc i pins s3 σ3 H3 X.xe I3 (stat fr3) st3 go) fun r s4 ⟨u,hr,h4⟩=>?_)
   subst hr
   refine wpAny_passesOwn hp (thn h4 fun _ s5 ⟨x,H5,I5,r5,y5,st5,fr5⟩=>?_)
   have I5':=I5.pinned (stat fr5) (T.obj _ _ st5)
   refine wpAny_passesOwn hp (thn (hg _ s5 σ3 H5 x u _ I5' r5 (step x H5 y5)) fun _ s6 ⟨σ6,H6,I6,q6⟩=>?_)
   refine wpAny_passesOwn hp (thn (hb _ s6 σ6 H6 _ I6 q6) fun f s7 q7=>?_)
   have again:∀ {σ7:St} {H7:Hp},Inv X (pins++iG fp s5.heap) σ7 H7 s7->N σ7 H7->∃ m,m<n/\∃ i σ' H',Inv X pins σ' H' s7/\tn i s7.heap/\(∀ b∈fp,H' b=none)/\W i m σ' H':=fun {σ7 H7} I7 n7=>by
    obtain ⟨m',hm,w7⟩:=hN σ7 H7 n7
    refine ⟨m',hm,i+1,σ7,H7,I7.unpinned,T.keep _ _ _ st5 fun b hb o e=>(I7.pin (b,o) (List.mem_append_right _ (List.mem_append_right _ (cK hb e)))).1,fun b hb=>?_,w7⟩
    obtain ⟨o,e,d⟩:=T.obj _ _ st5 b hb
    exact (I7.pin (b,o) (List.mem_append_right _ (List.mem_append_right _ (cK hb e)))).2.1
   cases f with
   | next=>obtain ⟨σ7,H7,I7,n7⟩:=q7;exact again I7 n7
   | cont=>obtain ⟨σ7,H7,I7,n7⟩:=q7;exact again I7 n7
   | brk=>obtain ⟨σ7,H7,I7,q7⟩:=q7;exact ⟨σ7,H7,I7.unpinned,q7⟩
   | ret v=>obtain ⟨x7,σ7,H7,I7,r7,q7⟩:=q7;exact ⟨x7,σ7,H7,I7.unpinned,r7,q7⟩
end
abbrev R2:=V->V->Hp->VK->Prop
noncomputable def OpR (X:Cx) (f:Value->Value->Sem Value) (r:R2):Prop:=
 ∀ (pins:List (Addr×Obj)) (s:Shared) (σ:St) (H:Hp) (x y:V) (v u:Value) (Q:VK),Inv X pins σ H s->RelV x v->RelV y u->r x y H Q→
  wpAny (model X.prog X.w) X.A (f v u) (EP X pins σ Q) X.xe s
noncomputable def UnR (X:Cx) (f:Value->Sem Value) (r:V->Hp->VK->Prop):Prop:=
 ∀ (pins:List (Addr×Obj)) (s:Shared) (σ:St) (H:Hp) (x:V) (v:Value) (Q:VK),Inv X pins σ H s->RelV x v->r x H Q→
  wpAny (model X.prog X.w) X.A (f v) (EP X pins σ Q) X.xe s
noncomputable def CallR (X:Cx) (f:Value) (r:List V->Hp->VK->Prop):Prop:=
 ∀ (pins:List (Addr×Obj)) (s:Shared) (σ:St) (H:Hp) (xs:List V) (us:List Value) (Q:VK),Inv X pins σ H s->Vals xs us->r xs H Q→
  wpAny (model X.prog X.w) X.A (call f us) (EP X pins σ Q) X.xe s
noncomputable def TruR (X:Cx) (r:V->Hp->(Bool->Hp->Prop)->Prop):Prop:=
 ∀ (pins:List (Addr×Obj)) (s:Shared) (σ:St) (H:Hp) (x:V) (v:Value) (Q:Bool->Hp->Prop),Inv X pins σ H s->RelV x v->r x H Q→
  wpAny (model X.prog X.w) X.A (truthy v) (TP X pins σ Q) X.xe s
def tOp (r:R2) (ta tb:TE):TE:=fun σ H Q=>ta σ H fun x H1=>tb σ H1 fun y H2=>r x y H2 Q
def tUn (r:V->Hp->VK->Prop) (ta:TE):TE:=fun σ H Q=>ta σ H fun x H1=>r x H1 Q
def rI (C:Int->Int->Prop) (g:Int->Int->V):R2:=fun x y H Q=>∃ i j,x=.int i/\y=.int j/\C i j/\Q (g i j) H
def rI0 (g:Int->Int->V):R2:=fun x y H Q=>∃ i j,x=.int i/\y=.int j/\Q (g i j) H
def rU (g:Int->V):V->Hp->VK->Prop:=fun x H Q=>∃ i,x=.int i/\Q (g i) H
section
variable {X:Cx} {a b c:Expr} {ta tb tc:TE} {pos:Pos}
def zd (ha:PE X a ta) (hb:PE X b tb) {pins:List (Addr×Obj)} {s:Shared} {σ:St} {H:Hp} {R:V->V->Hp->Prop} (I:Inv X pins σ H s)
  (h:ta σ H fun x H1=>tb σ H1 fun y H2=>R x y H2) {Q:Value->Shared->Prop} {f:Value->Value->Sem Value}
  (hf:∀ v u s2 x y H2,Inv X pins σ H2 s2->RelV x v->RelV y u->R x y H2->wpAny (model X.prog X.w) X.A (f v u) Q X.xe s2) :
  wpAny (model X.prog X.w) X.A (eval a X.env) (fun v s₁=>wpAny (model X.prog X.w) X.A (eval b X.env) (fun u s₂=>wpAny (model X.prog X.w) X.A (f v u) Q X.xe s₂) X.xe s₁) X.xe s:=by
 refine thn (ha pins s σ H _ I h) fun v s1 ⟨x,H1,I1,r1,q1⟩=>?_
 refine thn (hb pins s1 σ H1 _ I1 q1) fun u s2 ⟨y,H2,I2,r2,q2⟩=>?_
 exact hf v u s2 x y H2 I2 r1 r2 q2
def Bc {op:Operator} {r:R2} (ho:OpR X (binaryOp op) r) (ha:PE X a ta) (hb:PE X b tb):PE X (.BinOp a op b pos) (tOp r ta tb):=by
 intro pins s σ H Q I h
 exact wpAny_BinOp (zd ha hb I h fun v u s2 x y H2 I2 rx ry q=>ho pins s2 σ H2 x y v u Q I2 rx ry q)
def Be {op:UnaryOp} {r:V->Hp->VK->Prop} (ho:UnR X (unaryOp op) r) (ha:PE X a ta):PE X (.UnaryOp op a pos) (tUn r ta):=by
 intro pins s σ H Q I h
 exact UnaryOp_ (thn (ha pins s σ H _ I h) fun v s1 ⟨x,H1,I1,r1,q1⟩=>ho pins s1 σ H1 x v Q I1 r1 q1)
def opI {f:Value->Value->Sem Value} {C:Int->Int->Prop} {g:Int->Int->Int}
  (rule:∀ (i j:Int) (t u:Tok) (s:Shared) (Q:Value->Shared->Prop) (E:Value->Shared->Prop),C i j->Q (.int (g i j) s.toks) {s with toks:=s.toks+1}->wpAny (model X.prog X.w) X.A (f (.int i t) (.int j u)) Q E s) :
  OpR X f (rI C fun i j=>.int (g i j)):=by
 intro pins s σ H x y v u Q I rx ry h
 obtain ⟨i,j,rfl,rfl,hc,q⟩:=h
 obtain ⟨t,rfl⟩:=rx
 obtain ⟨t',rfl⟩:=ry
 exact rule i j t t' s _ _ hc ⟨.int (g i j),H,I.tok _,⟨_,rfl⟩,q⟩
def opI0 {f:Value->Value->Sem Value} {g:Int->Int->Int}
  (rule:∀ (i j:Int) (t u:Tok) (s:Shared) (Q:Value->Shared->Prop) (E:Value->Shared->Prop),Q (.int (g i j) s.toks) {s with toks:=s.toks+1}->wpAny (model X.prog X.w) X.A (f (.int i t) (.int j u)) Q E s) :
  OpR X f (rI0 fun i j=>.int (g i j)):=by
 intro pins s σ H x y v u Q I rx ry h
 obtain ⟨i,j,rfl,rfl,q⟩:=h
 obtain ⟨t,rfl⟩:=rx
 obtain ⟨t',rfl⟩:=ry
 exact rule i j t t' s _ _ ⟨.int (g i j),H,I.tok _,⟨_,rfl⟩,q⟩
def opB0 {f:Value->Value->Sem Value} {g:Int->Int->Bool}
  (rule:∀ (i j:Int) (t u:Tok) (s:Shared) (Q:Value->Shared->Prop) (E:Value->Shared->Prop),Q (.bool (g i j)) s->wpAny (model X.prog X.w) X.A (f (.int i t) (.int j u)) Q E s) :
  OpR X f (rI0 fun i j=>.bl (g i j)):=by
 intro pins s σ H x y v u Q I rx ry h
 obtain ⟨i,j,rfl,rfl,q⟩:=h
 obtain ⟨t,rfl⟩:=rx
 obtain ⟨t',rfl⟩:=ry
 exact rule i j t t' s _ _ ⟨.bl (g i j),H,I,rfl,q⟩
def ze (i j:Int):Prop:=0<j/\j<1073741824
def CMul (i j:Int):Prop:=(-(2^64)<i/\i<2^64)∨(-(2^64)<j/\j<2^64)
def CMul.ok {i j:Int} (h:CMul i j):IntMulOk i j:=by
 rcases h with ⟨h1,h2⟩ | ⟨h1,h2⟩
 · exact .of_left (intBits_le_64 h1 h2)
 · exact .of_right (intBits_le_64 h1 h2)
def zf:OpR X (binaryOp .Add) (rI0 fun i j=>.int (i+j)):=opI0 fun _ _ _ _ _ _ _ q=>add_int q
def jB:OpR X (binaryOp .Mult) (rI CMul fun i j=>.int (i*j)):=opI fun _ _ _ _ _ _ _ hc q=>mul_int q hc.ok
def bH:OpR X (binaryOp .FloorDiv) (rI ze fun i j=>.int (i/j)):=opI fun i j _ _ _ _ _ hc q=>by
 have h1:(0:Int)<j:=hc.1
 have h2:j<1073741824:=hc.2
 exact floordiv_int (by omega) (by rw [Int.fdiv_eq_ediv_of_nonneg i (by omega)];exact q) (.inl (PyProof.noPylong_small (by omega)))
def bg:OpR X (binaryOp .Mod) (rI (fun _ j=>0<j) fun i j=>.int (i%j)):=opI fun i j _ _ _ _ _ hc q=>by
 have h1:(0:Int)<j:=hc
 exact mod_int' (by omega) (by rw [Int.fmod_eq_emod_of_nonneg i (by omega)];exact q)
def unI {f:Value->Sem Value} {g:Int->Int}
  (rule:∀ (i:Int) (t:Tok) (s:Shared) (Q:Value->Shared->Prop) (E:Value->Shared->Prop),Q (.int (g i) s.toks) {s with toks:=s.toks+1}->wpAny (model X.prog X.w) X.A (f (.int i t)) Q E s) :
  UnR X f (rU fun i=>.int (g i)):=by
 intro pins s σ H x v Q I rx h
 obtain ⟨i,rfl,q⟩:=h
 obtain ⟨t,rfl⟩:=rx
 exact rule i t s _ _ ⟨.int (g i),H,I.tok _,⟨_,rfl⟩,q⟩
def zg:UnR X (unaryOp .USub) (rU fun i=>.int (-i)):=unI fun _ _ _ _ _ q=>neg_int q
end
noncomputable def zh:V->V->Bool
 | .non,.non=>true | .non,.int _=>true | .int _,.non=>true | .non,.bl _=>true | .bl _,.non=>true | .non,.str _=>true | .str _,.non=>true
 | .int _,.int _=>true | .bl _,.bl _=>true | .str _,.str _=>true | .byt _,.byt _=>true
 | .int _,.str _=>true | .str _,.int _=>true | .bl _,.str _=>true | .str _,.bl _=>true
 | _,_=>false
def rEq:R2:=fun x y H Q=>zh x y=true/\Q (.bl (decide (x=y))) H
def rNe:R2:=fun x y H Q=>zh x y=true/\Q (.bl (!decide (x=y))) H
def qg {i j:Int}:decide (V.int i=V.int j)=(i==j):=by
 rw [Bool.eq_iff_iff]
 simp
def tz {i j:Bool}:decide (V.bl i=V.bl j)=(i==j):=by
 rw [Bool.eq_iff_iff]
 simp
def qh {i j:Str}:decide (V.str i=V.str j)=(i==j):=by
 rw [Bool.eq_iff_iff]
 simp
def qi {i j:Array UInt8}:decide (V.byt i=V.byt j)=(i.toList==j.toList):=by
 rw [Bool.eq_iff_iff]
 cases i
 cases j
 simp
section
variable {X:Cx} {a b c:Expr} {ta tb tc:TE} {pos:Pos}
def aP {pins:List (Addr×Obj)} {σ:St} {H:Hp} {s:Shared} {Q:VK} {k k':Bool} (I:Inv X pins σ H s) (q:Q (.bl k) H) (e:k=k'):EP X pins σ Q (.bool k') s:=by
 subst e
 exact ⟨.bl k,H,I,rfl,q⟩
def Bf:OpR X (compareOp .Eq) rEq:=by
 intro pins s σ H x y v u Q I rx ry h
 obtain ⟨hs,q⟩:=h
 cases x with
 | non =>
  cases rx
  cases y with
  | non=>cases ry;exact PySem.EqNone.eq_none_none (aP I q (by simp))
  | bl j=>cases ry;exact PySem.EqNone.eq_none_bool (aP I q (by simp))
  | int j=>obtain ⟨t',rfl⟩:=ry;exact PySem.EqNone.eq_none_int (aP I q (by simp))
  | str j=>obtain ⟨t',rfl⟩:=ry;exact PySem.EqNone.eq_none_str (aP I q (by simp))
  | _=>exact absurd (show false=true from hs) Bool.false_ne_true
 | bl i =>
  cases rx
  cases y with
  | non=>cases ry;exact PySem.EqNone.eq_bool_none (aP I q (by simp))
  | bl j=>cases ry;exact eq_bool (aP I q tz)
  | str j=>obtain ⟨t',rfl⟩:=ry;exact PySem.EqMixed.eq_bool_str (aP I q (by simp))
  | _=>exact absurd (show false=true from hs) Bool.false_ne_true
 | int i =>
  obtain ⟨t,rfl⟩:=rx
  cases y with
  | non=>cases ry;exact PySem.EqNone.eq_int_none (aP I q (by simp))
  | int j=>obtain ⟨t',rfl⟩:=ry;exact eq_int (aP I q qg)
  | str j=>obtain ⟨t',rfl⟩:=ry;exact PySem.EqMixed.eq_int_str (aP I q (by simp))
  | _=>exact absurd (show false=true from hs) Bool.false_ne_true
 | str i =>
  obtain ⟨t,rfl⟩:=rx
  cases y with
  | non=>cases ry;exact PySem.EqNone.eq_str_none (aP I q (by simp))
  | bl j=>cases ry;exact PySem.EqMixed.eq_str_bool (aP I q (by simp))
  | int j=>obtain ⟨t',rfl⟩:=ry;exact PySem.EqMixed.eq_str_int (aP I q (by simp))
  | str j=>obtain ⟨t',rfl⟩:=ry;exact eq_str (aP I q qh)
  | _=>exact absurd (show false=true from hs) Bool.false_ne_true
 | byt i =>
  obtain ⟨t,rfl⟩:=rx
  cases y with
  | byt j=>obtain ⟨t',rfl⟩:=ry;exact PySem.W.eq_bytes (aP I q qi)
  | _=>exact absurd (show false=true from hs) Bool.false_ne_true
 | _=>cases y<;>exact absurd (show false=true from hs) Bool.false_ne_true
def Bg:OpR X (compareOp .NotEq) rNe:=by
 intro pins s σ H x y v u Q I rx ry h
 obtain ⟨hs,q⟩:=h
 cases x with
 | non =>
  cases rx
  cases y with
  | non=>cases ry;exact PySem.EqNone.ne_none_none (aP I q (by simp))
  | bl j=>cases ry;exact PySem.EqNone.ne_none_bool (aP I q (by simp))
  | int j=>obtain ⟨t',rfl⟩:=ry;exact PySem.EqNone.ne_none_int (aP I q (by simp))
  | str j=>obtain ⟨t',rfl⟩:=ry;exact PySem.EqNone.ne_none_str (aP I q (by simp))
  | _=>exact absurd (show false=true from hs) Bool.false_ne_true
 | bl i =>
  cases rx
  cases y with
  | non=>cases ry;exact PySem.EqNone.ne_bool_none (aP I q (by simp))
  | bl j=>cases ry;exact ne_bool (aP I q (congrArg not tz))
  | str j=>obtain ⟨t',rfl⟩:=ry;exact PySem.EqMixed.ne_bool_str (aP I q (by simp))
  | _=>exact absurd (show false=true from hs) Bool.false_ne_true
 | int i =>
  obtain ⟨t,rfl⟩:=rx
  cases y with
  | non=>cases ry;exact PySem.EqNone.ne_int_none (aP I q (by simp))
  | int j=>obtain ⟨t',rfl⟩:=ry;exact ne_int (aP I q (congrArg not qg))
  | str j=>obtain ⟨t',rfl⟩:=ry;exact PySem.EqMixed.ne_int_str (aP I q (by simp))
  | _=>exact absurd (show false=true from hs) Bool.false_ne_true
 | str i =>
  obtain ⟨t,rfl⟩:=rx
  cases y with
  | non=>cases ry;exact PySem.EqNone.ne_str_none (aP I q (by simp))
  | bl j=>cases ry;exact PySem.EqMixed.ne_str_bool (aP I q (by simp))
  | int j=>obtain ⟨t',rfl⟩:=ry;exact PySem.EqMixed.ne_str_int (aP I q (by simp))
  | str j=>obtain ⟨t',rfl⟩:=ry;exact ne_str (aP I q (congrArg not qh))
  | _=>exact absurd (show false=true from hs) Bool.false_ne_true
 | byt i =>
  obtain ⟨t,rfl⟩:=rx
  cases y with
  | byt j=>obtain ⟨t',rfl⟩:=ry;exact PySem.W.ne_bytes (aP I q (congrArg not qi))
  | _=>exact absurd (show false=true from hs) Bool.false_ne_true
 | _=>cases y<;>exact absurd (show false=true from hs) Bool.false_ne_true
def tE:OpR X (compareOp .Lt) (rI0 fun i j=>.bl (decide (i<j))):=opB0 fun _ _ _ _ _ _ _ q=>lt_int q
def Bh:OpR X (compareOp .Gt) (rI0 fun i j=>.bl (decide (j<i))):=opB0 fun _ _ _ _ _ _ _ q=>gt_int q
def rR:OpR X (compareOp .In) (fun x y H Q=>∃ i j,x=.str i/\y=.str j/\Q (.bl (!(Builtin.Str.occurrences j i 0 j.length 1).isEmpty)) H):=by
 intro pins s σ H x y v u Q I rx ry h
 obtain ⟨i,j,rfl,rfl,q⟩:=h
 obtain ⟨t,rfl⟩:=rx
 obtain ⟨t',rfl⟩:=ry
 exact in_str (aP I q rfl)
def tF:OpR X (compareOp .Is) (fun x y H Q=>y=.non/\Q (.bl (decide (x=.non))) H):=by
 intro pins s σ H x y v u Q I rx ry h
 obtain ⟨rfl,q⟩:=h
 cases ry
 refine is_none_gen (aP I q ?_)
 cases x<;>first
  | (cases rx;rfl)
  | (obtain ⟨t,rfl⟩:=rx;rfl)
def qj:OpR X (compareOp .IsNot) (fun x y H Q=>y=.non/\Q (.bl (!decide (x=.non))) H):=by
 intro pins s σ H x y v u Q I rx ry h
 obtain ⟨rfl,q⟩:=h
 cases ry
 refine isnot_none_gen (aP I q ?_)
 cases x<;>first
  | (cases rx;rfl)
  | (obtain ⟨t,rfl⟩:=rx;rfl)
def OpR.or {f:Value->Value->Sem Value} {r r':R2} (h:OpR X f r) (h':OpR X f r'):OpR X f (fun x y H Q=>r x y H Q∨r' x y H Q):=by
 intro pins s σ H x y v u Q I rx ry q
 rcases q with q | q
 · exact h pins s σ H x y v u Q I rx ry q
 · exact h' pins s σ H x y v u Q I rx ry q
def aN (b:Expr) {op:CmpOp} (h:op≠.In:=by decide) (h2:op≠.NotIn:=by decide):behindInMarks op b=false:=by
 have e1:(op==CmpOp.In)=false:=by cases op<;>first | rfl | exact absurd rfl h
 have e2:(op==CmpOp.NotIn)=false:=by cases op<;>first | rfl | exact absurd rfl h2
 cases b<;>simp [behindInMarks,e1,e2]
def vW {op:CmpOp} {r:R2} (ho:OpR X (compareOp op) r) (ha:PE X a ta) (hb:PE X b tb) (hm:behindInMarks op b=false):PE X (.Compare a [op] [b] pos) (tOp r ta tb):=by
 intro pins s σ H Q I h
 exact wpAny_Compare1 (zd ha hb I h fun v u s2 x y H2 I2 rx ry q=>ho pins s2 σ H2 x y v u Q I2 rx ry q) hm
def Bi (t:TE):TT:=fun σ H Q=>t σ H fun x H'=>∃ k,x=.bl k/\Q k H'
def jr {op:CmpOp} {r:R2} (ho:OpR X (compareOp op) r) (ha:PE X a ta) (hb:PE X b tb) (hm:behindInMarks op b=false):PT X (.Compare a [op] [b] pos) (Bi (tOp r ta tb)):=by
 intro pins s σ H Q I h
 refine wpAny_isTrue_Compare1 (thn (ha pins s σ H _ I h) fun v s1 ⟨x,H1,I1,r1,q1⟩=>thn (hb pins s1 σ H1 _ I1 q1) fun u s2 ⟨y,H2,I2,r2,q2⟩ =>
  thn (ho pins s2 σ H2 x y v u _ I2 r1 r2 q2) fun c s3 ⟨z,H3,I3,r3,k,e,q3⟩=>?_) hm
 subst e
 cases r3
 exact wpAny_truthy_bool ⟨H3,I3,q3⟩
noncomputable def zi (K:PySem.W.Frag) (x:V) (H:Hp) (k:Bool):Prop:=
 match x with
 | .non=>k=false
 | .bl b=>k=b
 | .int i=>k=(i != 0)
 | .str y=>y.length<=sizeLine/\k=((y.length:Int) != 0)
 | .byt y=>y.size<=sizeLine/\k=((y.size:Int) != 0)
 | .ref p=>(∃ xs,SqL K H p xs/\k=!xs.isEmpty)∨(∃ xs,SqT K H p xs/\k=!xs.isEmpty)∨∃ kvs,H p=some (.dK kvs)/\k=!kvs.isEmpty
 | _=>False
def oU {κ:Type} {kvs:List (κ×V)} {vs:List (κ×Value)} (r:KV kvs vs):(!vs.isEmpty)=!kvs.isEmpty:=by
 cases r<;>rfl
def jC {xs:List V} {its:List Value} (r:Vals xs its):(!its.toArray.isEmpty)=!xs.isEmpty:=by
 cases r<;>simp
def jD:(sizeLine:Nat)<2^63:=by rw [sizeLine_eq];decide
def zj:TruR X (fun x H Q=>∃ k,zi X.K x H k/\Q k H):=by
 intro pins s σ H x v Q I rx h
 obtain ⟨k,e,q⟩:=h
 have hl:=jD
 have hs:sizeLine=16777216:=sizeLine_eq
 cases x with
 | non =>
  cases rx
  have e':k=false:=e
  subst e'
  exact truthy_none ⟨H,I,q⟩
 | bl b =>
  cases rx
  have e':k=b:=e
  subst e'
  exact wpAny_truthy_bool ⟨H,I,q⟩
 | int i =>
  obtain ⟨t,rfl⟩:=rx
  have e':k=(i != 0):=e
  subst e'
  exact PySem.P.truthy_int ⟨H,I,q⟩
 | str y =>
  obtain ⟨t,rfl⟩:=rx
  obtain ⟨hy,e'⟩:y.length<=sizeLine/\k=((y.length:Int) != 0):=e
  subst e'
  exact PySem.P.truthy_str (by omega) ⟨H,I.tok _,q⟩
 | byt y =>
  obtain ⟨t,rfl⟩:=rx
  obtain ⟨hy,e'⟩:y.size<=sizeLine/\k=((y.size:Int) != 0):=e
  subst e'
  exact PySem.W.truthy_bytes (by omega) ⟨H,I.tok _,q⟩
 | ref p =>
  cases rx
  have e':(∃ xs,SqL X.K H p xs/\k=!xs.isEmpty)∨(∃ xs,SqT X.K H p xs/\k=!xs.isEmpty)∨∃ kvs,H p=some (.dK kvs)/\k=!kvs.isEmpty:=e
  rcases e' with ⟨xs,hx,e'⟩ | ⟨xs,hx,e'⟩ | ⟨kvs,hx,e'⟩
  · subst e'
    obtain ⟨its,r,pl,hz⟩:=I.list hx
    have hlen:=r.length
    exact wpAny_truthy_list pl.isList (by simp only [List.size_toArray];omega) ⟨H,I.tok _,by rw [jC r];exact q⟩
  · subst e'
    obtain ⟨its,r,pl,hz⟩:=I.tuple hx
    have hlen:=r.length
    exact truthy_tuple pl (by simp only [List.size_toArray];omega) ⟨H,I.tok _,by rw [jC r];exact q⟩
  · subst e'
    obtain ⟨hz,hS,vs,r,m⟩:kvs.length<=sizeLine/\(p==sysModules)=false/\∃ vs,KV kvs vs/\s.heap.DictOf (bT X.prog X.w) p vs:=I.hok p _ hx
    have hlen:kvs.length=vs.length:=Paired.length r
    exact wpAny_truthy_dict hS m (by omega) ⟨H,I.tok _,by rw [oU r];exact q⟩
 | _=>exact (show False from e).elim
def mM (ha:PE X a ta) (he:∀ whole,isTrue a X.env whole=(do let v <- whole;standAt a.pos;holding [v] (truthy v))) :
  PT X a (fun σ H Q=>ta σ H fun x H'=>∃ k,zi X.K x H' k/\Q k H'):=by
 intro pins s σ H Q I h
 exact isTrue_plain (thn (ha pins s σ H _ I h) fun v s1 ⟨x,H1,I1,r1,q1⟩=>zj pins s1 σ H1 x v Q I1 r1 q1) (he _)
def oV:OpR X (binaryOp .Add) (fun x y H Q=>∃ i j,x=.str i/\y=.str j/\i.length+j.length<=sizeLine/\Q (.str (i++j)) H):=by
 intro pins s σ H x y v u Q I rx ry h
 obtain ⟨i,j,rfl,rfl,hz,q⟩:=h
 obtain ⟨t,rfl⟩:=rx
 obtain ⟨t',rfl⟩:=ry
 exact add_str (fun t' tk=>⟨.str (i++j),H,I.tok _,⟨_,rfl⟩,q⟩) hz
def fu {x:V} {us:List Value} (r:Vals [x] us):∃ u,us=[u]/\RelV x u:=by
 cases r with
 | cons r1 r2=>cases r2;exact ⟨_,rfl,r1⟩
def Bj {x y:V} {us:List Value} (r:Vals [x,y] us):∃ u w',us=[u,w']/\RelV x u/\RelV y w':=by
 cases r with
 | cons r1 r2 =>
  cases r2 with
  | cons r3 r4=>cases r4;exact ⟨_,_,rfl,r1,r3⟩
def rS:CallR X (.type "int") (fun xs H Q=>(∃ i,xs=[.int i]/\Q (.int i) H)∨∃ k,xs=[.bl k]/\Q (.int (if k then 1 else 0)) H):=by
 intro pins s σ H xs us Q I r h
 rcases h with ⟨i,rfl,q⟩ | ⟨k,rfl,q⟩
 · obtain ⟨u,rfl,t,rfl⟩:=fu r
   exact call_int_int ⟨.int i,H,I,⟨_,rfl⟩,q⟩
 · obtain ⟨u,rfl,r1⟩:=fu r
   cases r1
   exact call_int_bool ⟨.int (if k then 1 else 0),H,I.tok _,⟨_,rfl⟩,q⟩
noncomputable def LenV (K:PySem.W.Frag) (x:V) (H:Hp) (n:Nat):Prop:=
 match x with
 | .str y=>y.length<=sizeLine/\n=y.length
 | .byt y=>y.size<=sizeLine/\n=y.size
 | .ref p=>(∃ xs,SqL K H p xs/\n=xs.length)∨∃ xs,SqT K H p xs/\n=xs.length
 | _=>False
def cz:CallR X (.builtin "len") (fun xs H Q=>∃ x n,xs=[x]/\LenV X.K x H n/\Q (.int n) H):=by
 intro pins s σ H xs us Q I r h
 obtain ⟨x,n,rfl,e,q⟩:=h
 obtain ⟨u,rfl,rx⟩:=fu r
 have hl:=jD
 have hs:sizeLine=16777216:=sizeLine_eq
 cases x with
 | str y =>
  obtain ⟨t,rfl⟩:=rx
  obtain ⟨hy,e'⟩:y.length<=sizeLine/\n=y.length:=e
  subst e'
  exact len_str (by omega) ⟨.int _,H,I.tok _,⟨_,rfl⟩,q⟩
 | byt y =>
  obtain ⟨t,rfl⟩:=rx
  obtain ⟨hy,e'⟩:y.size<=sizeLine/\n=y.size:=e
  subst e'
  exact PySem.W.len_bytes (by omega) ⟨.int _,H,I.tok _,⟨_,rfl⟩,q⟩
 | ref p =>
  cases rx
  have e':(∃ xs,SqL X.K H p xs/\n=xs.length)∨∃ xs,SqT X.K H p xs/\n=xs.length:=e
  rcases e' with ⟨xs,hx,e'⟩ | ⟨xs,hx,e'⟩
  · subst e'
    obtain ⟨its,r',pl,hz⟩:=I.list hx
    have hlen:=r'.length
    exact Calls.call_len_list pl.isList (by simp only [List.size_toArray];omega) ⟨.int xs.length,H,I.tok _,⟨_,by simp only [List.size_toArray];rw [hlen]⟩,q⟩
  · subst e'
    obtain ⟨its,r',pl,hz⟩:=I.tuple hx
    have hlen:=r'.length
    exact len_tuple pl (by simp only [List.size_toArray];omega) ⟨.int xs.length,H,I.tok _,⟨_,by simp only [List.size_toArray];rw [hlen]⟩,q⟩
 | _=>exact (show False from e).elim
end
structure ObjM (h:Heap) (x dx C:Addr) (mA:Str->Option Value):Prop where
 obj:h.get? x=some (PySem.W.instObj C dx)
 ns:h.Ns1 dx mA
 ne:dx≠x
def rT {h:Heap} {dx:Addr} {mA:Str->Option Value} (n:h.Ns1 dx mA):∃ od,h.get? dx=some od/\∀ name,PySem.W.lookIn name od=some (mA name):=by
 obtain ⟨o,es,ep,ho,hd,hk,_,hm⟩:=n
 refine ⟨o,ho,fun name=>?_⟩
 have e:=hm name
 unfold nsFind findBy at e
 rw [<- Array.find?_toList] at e
 unfold PySem.W.lookIn
 rw [hd]
 dsimp only
 split
 · rename_i y q
   rw [q] at e
   exact congrArg some e
 · rename_i q
   rw [q] at e
   have a:es.toList.any (·.refKey)=false:=by
    rw [List.any_eq_false]
    intro y hy
    obtain ⟨z,t,hkey⟩:=hk y (Array.mem_toList_iff.mp hy)
    simp [DictEntry.refKey,hkey]
   have a':¬ es.toList.any (·.refKey)=true:=by rw [a];exact Bool.false_ne_true
   rw [if_neg a']
   exact congrArg some e
def ObjM.look {h:Heap} {x dx C:Addr} {mA:Str->Option Value} (I:ObjM h x dx C mA):∃ od,PySem.W.InstAt h x (PySem.W.instObj C dx) C (some od)/\∀ name,PySem.W.lookIn name od=some (mA name):=
 let ⟨od,ho,hl⟩:=rT I.ns
 ⟨od,⟨I.obj,rfl,rfl,ho⟩,hl⟩
section
variable {prog:Program} {w:World} {A:Around} {E:Value->Shared->Prop} {s:Shared} {K:PySem.W.Frag} {x dx C f:Addr} {mA:Str->Option Value} {name:Str} {v:Value}
end
def RelO.some_of {v:V} {o:Option Value} (r:RelO (some v) o):∃ u,o=some u/\RelV v u:=by
 cases o with
 | none=>exact (show False from r).elim
 | some u=>exact ⟨u,rfl,r⟩
section
variable {P:Program} {w:World} {H H':Hp} {h h':Heap} {a C dx:Addr} {fs fs':List (Str×V)}
def vX (hok:HOk P w H h) (e:H a=some (.ins C dx fs)):∃ mA,ObjM h a dx C mA/\(∀ f,RelO (fs.lookup f) (mA f))/\PySem.Within mA (fs.map (·.1))/\fs.length<=1000/\H dx=some (.own a):=by
 obtain ⟨d,z,ne,ob,mA,n,r,q⟩:=(show ObjOk P w H h a (.ins C dx fs) from hok a _ e)
 exact ⟨mA,⟨ob,n,ne⟩,r,q,z,d⟩
end
structure Cls (K:PySem.W.Frag) (C:Addr):Prop where
 pg:PySem.W.plainGet K C Str.empty=true
 hd:PySem.W.hasDictIn K C=true
 po:PySem.W.plainOver K C=true
 sa:PySem.W.findIn K (.ref C) "__setattr__"=some (some (.builtin "object.__setattr__"))
def Cls.get {K:PySem.W.Frag} {C:Addr} (c:Cls K C) (f:Str):PySem.W.plainGet K C f=true:=c.pg
section
variable {X:Cx} {pins:List (Addr×Obj)} {σ:St} {H:Hp} {s:Shared} {a C dx:Addr} {fs:List (Str×V)} {f:Str} {v:V} {A:Around} {E:Value->Shared->Prop}
end
section
variable {X:Cx} {o e value:Expr} {f:Str} {pos pos' tpos:Pos} {ta tv:TE}
end
section
variable {X:Cx} {pins:List (Addr×Obj)} {σ:St} {H:Hp} {s:Shared} {A:Around} {E:Value->Shared->Prop} {Q:Value->Shared->Prop} {c:Value} {b:Bool}
inductive TyOf (K:PySem.W.Frag) (H:Hp):V->Value->Prop where
 | non:TyOf K H .non (.type "NoneType")
 | bl (x:Bool):TyOf K H (.bl x) (.type "bool")
 | int (i:Int):TyOf K H (.int i) (.type "int")
 | str (x:Str):TyOf K H (.str x) (.type "str")
 | flt (x:UInt64):TyOf K H (.flt x) (.type "float")
 | lst {a:Addr} {xs:List V} (e:H a=some (.lst xs)):TyOf K H (.ref a) (.type "list")
 | frz {a:Addr} {o:Obj} {xs:List V} (e:H a=some (.frz o (.lst xs))):TyOf K H (.ref a) (.type "list")
 | tup {a:Addr} {xs:List V} (e:H a=some (.tup xs)):TyOf K H (.ref a) (.type "tuple")
 | dK {a:Addr} {kvs:List (Key×V)} (e:H a=some (.dK kvs)):TyOf K H (.ref a) (.type "dict")
 | dT {a:Addr} {kvs:List (List Key×V)} (e:H a=some (.dT kvs)):TyOf K H (.ref a) (.type "dict")
 | ins {a C dx:Addr} {fs:List (Str×V)} (e:H a=some (.ins C dx fs)) (cl:Cls K C) (ha:PySem.W.findIn K (.ref C) "__class__"=some (some (.builtin "object.__class__")))
     (hn:PySem.W.specialIn K (.builtin "object.__class__") "__get__"=some (some (.builtin "getset_descriptor.__get__"))) (htk:PySem.W.takesIn K (.builtin "object.__class__")=some true)
     (hm:PySem.W.mroIn K C (.type "object")=some true):TyOf K H (.ref a) (.ref C)
def f6 {x:V} {u t:Value} (I:Inv X pins σ H s) (rx:RelV x u) (ty:TyOf X.K H x t) (e:PySem.W.kitOne X.K t c=some b) (h:∀ tk,Q (.bool b) {s with toks:=tk}) :
  wpAny (model X.prog X.w) A (call (.builtin "isinstance") [u,c]) Q E s:=by
 cases ty with
 | non=>cases (show u=Value.none from rx);exact PySem.W.kia_one PySem.W.kitx_none I.kIn True.intro e (fun z=>nomatch z) h
 | bl y=>cases (show u=Value.bool y from rx);exact PySem.W.kia_one PySem.W.kitx_bool I.kIn True.intro e (fun z=>nomatch z) h
 | int i=>obtain ⟨t,q⟩:=(show ∃ t,u=Value.int i t from rx);cases q;exact PySem.W.kia_one PySem.W.kitx_int I.kIn True.intro e (fun z=>nomatch z) h
 | str y=>obtain ⟨t,q⟩:=(show ∃ t,u=Value.str y t from rx);cases q;exact PySem.W.kia_one PySem.W.kitx_str I.kIn True.intro e (fun z=>nomatch z) h
 | flt y=>obtain ⟨t,q⟩:=(show ∃ t,u=Value.float y t from rx);cases q;exact PySem.W.kia_one PySem.W.kitx_float I.kIn True.intro e (fun z=>nomatch z) h
 | @lst a xs ea =>
  cases (show u=Value.ref a from rx)
  obtain ⟨_,_,n,_,h1⟩:=(show ObjOk X.prog X.w H s.heap a (.lst xs) from I.hok a _ ea)
  exact PySem.W.kia_one PySem.W.kitx_list I.kIn ⟨_,h1,rfl⟩ e (fun z=>nomatch z) h
 | @frz a ob xs ea =>
  cases (show u=Value.ref a from rx)
  obtain ⟨_,_,_,n,_,h1⟩:=(show ObjOk X.prog X.w H s.heap a (.frz ob (.lst xs)) from I.hok a _ ea)
  exact PySem.W.kia_one PySem.W.kitx_list I.kIn ⟨_,h1,rfl⟩ e (fun z=>nomatch z) h
 | @tup a xs ea =>
  cases (show u=Value.ref a from rx)
  obtain ⟨_,_,_,p⟩:=(show ObjOk X.prog X.w H s.heap a (.tup xs) from I.hok a _ ea)
  obtain ⟨o,h1,h2,_⟩:=p
  exact PySem.W.kia_one PySem.W.kitx_tuple I.kIn ⟨o,h1,h2⟩ e (fun z=>nomatch z) h
 | @dK a kvs ea =>
  cases (show u=Value.ref a from rx)
  obtain ⟨_,_,vs,_,p⟩:=(show ObjOk X.prog X.w H s.heap a (.dK kvs) from I.hok a _ ea)
  obtain ⟨o,es,ep,h1,h2,_⟩:=p
  exact PySem.W.kia_one PySem.W.kitx_dict I.kIn ⟨o,h1,h2.1⟩ e (fun z=>nomatch z) h
 | @dT a kvs ea =>
  cases (show u=Value.ref a from rx)
  obtain ⟨_,_,xs,_,o,es,ep,h1,h2,_⟩:=(show ObjOk X.prog X.w H s.heap a (.dT kvs) from I.hok a _ ea)
  exact PySem.W.kia_one PySem.W.kitx_dict I.kIn ⟨o,h1,h2.1⟩ e (fun z=>nomatch z) h
 | @ins a C dx fs ea cl ha hn htk hm =>
  cases (show u=Value.ref a from rx)
  obtain ⟨mA,O,_⟩:=vX I.hok ea
  obtain ⟨od,J,_⟩:=O.look
  exact PySem.W.kia_one (PySem.W.kitx_own (cl.get _) cl.hd ha hn htk hm) I.kIn J e (fun z=>nomatch z) h
end
structure Room (k:Nat) (A:Around):Prop where
 hd:A.handled=none
 dp:A.depth+3*k+5<recursionLimit
 un:A.units+16*k+200<cLine
def Room.mono {j k:Nat} {A:Around} (r:Room k A) (h:j<=k):Room j A:=⟨r.hd,by have:=r.dp;omega,by have:=r.un;omega⟩
def Room.deeper {k:Nat} {A:Around} (r:Room (k+1) A) (env:Env):Room k (A.deeper env):=
 ⟨r.hd,by have:=r.dp;show A.depth+1+3*k+5<_;omega,by have:=r.un;show A.units+3+16*k+200<_;omega⟩
def Room.depth {k:Nat} {A:Around} (r:Room k A):A.depth<recursionLimit:=by have:=r.dp;omega
def Room.units {k:Nat} {A:Around} (r:Room k A):A.units+64<cLine:=by have:=r.un;omega
def tNil:TA:=fun _ H Q=>Q [] H
def Bk (ta:TE) (tr:TA):TA:=fun σ H Q=>ta σ H fun x H1=>tr σ H1 fun xs H2=>Q (x::xs) H2
section
variable {X:Cx} {e:Expr} {es:List Expr} {te:TE} {t:TA} {pos:Pos}
def dS:PA X [] tNil:=fun _ _ _ _ H Q I h=>Calls.spliced_nil ⟨[],H,I,.nil,h⟩
def bY (ha:PE X e te) (hr:PA X es t) (hs:starEach (e::es) X.env=(false,eval e X.env)::starEach es X.env:=by rfl):PA X (e::es) (Bk te t):=by
 intro pos pins s σ H Q I h
 rw [hs]
 show wpAny _ _ (spliced ((false,eval e X.env)::backTo pos (starEach es X.env))) _ _ s
 refine Calls.spliced_cons (thn (ha pins s σ H _ I h) fun u s1 ⟨x,H1,I1,r1,q1⟩=>?_)
 exact thn (hr pos pins s1 σ H1 _ I1 q1) fun us s2 ⟨xs,H2,I2,r2,q2⟩=>⟨x::xs,H2,I2,.cons r1 r2,q2⟩
def tTup (t:TA):TE:=fun σ H Q=>t σ H fun xs H1=>xs.length<=sizeLine/\∀ p,H1 p=none->Q (.ref p) (upd H1 p (.tup xs))
def tLst (t:TA):TE:=fun σ H Q=>t σ H fun xs H1=>xs.length<=sizeLine/\∀ p,H1 p=none->Q (.ref p) (upd H1 p (.lst xs))
def zm {x1} (h:PA X es t):PE X (.Tuple es x1 pos) (tTup t):=by
 intro pins s σ H Q I hq
 refine wpAny_Tuple_spliced (thn (h pos pins s σ H _ I hq) fun us s1 ⟨xs,H1,I1,r,z,q⟩=>⟨by rw [<- r.length];exact z,?_⟩)
 have hf:H1 s1.heap.objs.size=none:=I1.hok.fresh (nL _)
 refine ⟨.ref s1.heap.objs.size,upd H1 s1.heap.objs.size (.tup xs),I1.laid (t':=s1.toks) (fun b u e=>gP _ e) (nL _) ?_,rfl,q _ hf⟩
 exact ⟨z,us,r,⟨_,Heap.get?_push_size _ rfl,rfl,_,rfl⟩⟩
def zn (h:PA X es t):PE X (.List es pos) (tLst t):=by
 intro pins s σ H Q I hq
 refine wpAny_List_spliced (thn (h pos pins s σ H _ I hq) fun us s1 ⟨xs,H1,I1,r,z,q⟩=>⟨by rw [<- r.length];exact z,?_⟩)
 have hf:H1 s1.heap.objs.size=none:=I1.hok.fresh (nL _)
 refine ⟨.ref s1.heap.objs.size,upd H1 s1.heap.objs.size (.lst xs),I1.laid (t':=s1.toks) (fun b u e=>gP _ e) (nL _) ?_,rfl,q _ hf⟩
 exact ⟨z,us,0,r,Heap.get?_push_size _ rfl⟩
end
abbrev Sp:=List V->Hp->VK->XK->Prop
abbrev CXT:=List Env->Hp->Shared->XK->Value->Shared->Prop
structure Env0 (P:Program) (w:World) (K:PySem.W.Frag) (mg:Str->Option Value) (base:Heap) (A:Around) (outer:List Env) (s:Shared) (H:Hp):Prop where
 frames:A.frames=some outer
 mod:Mod K mg base
 bs:∀ b o,base.get? b=some o->s.heap.get? b=some o/\H b=none
 bsz:base.objs.size<=s.heap.objs.size
 funs:s.heap.FunFrames base outer
 frf:∀ b∈frs outer,H b=none
 hok:HOk P w H s.heap
 bare:AllBare s.gens
 tb:∀ p∈cI K,H p.1=some (.ctab p.2)
def CE (outer:List Env) (P:Program) (w:World) (H:Hp) (s:Shared) (Q:VK) (u:Value) (s':Shared):Prop:=
 ∃ v H',s'.os=s.os/\AllBare s'.gens/\Un (frs outer) [] H H' s.heap s'.heap/\HOk P w H' s'.heap/\RelV v u/\Q v H'
def CR (CX:CXT) (outer:List Env) (P:Program) (w:World) (H:Hp) (s:Shared) (Q:VK) (E:XK) (r:Result) (s':Shared):Prop:=
 match r with
 | .ok (.ret u)=>CE outer P w H s Q u s'
 | .ok _=>False
 | .error e=>CX outer H s E e s'
structure FnOk (P:Program) (w:World) (K:PySem.W.Frag) (mg:Str->Option Value) (base:Heap) (CX:CXT) (k:Nat) (f:Addr) (fd:FuncData) (ps:List Str) (sp:Sp):Prop where
 len:∀ vs H Q E,sp vs H Q E->vs.length=ps.length
 run:∀ (A:Around) (outer:List Env) (s:Shared) (H:Hp) (args:Args) (us:List Value) (vs:List V) (Q:VK) (E:XK),Room k A->Env0 P w K mg base A outer s H->BindsTo s fd args (ps.zip us)->Vals vs us->sp vs H Q E→
  codeAny (model P w) A (.call (.ref f) args) (CR CX outer P w H s Q E) s
def FnOk.imp {P:Program} {w:World} {K:PySem.W.Frag} {mg:Str->Option Value} {base:Heap} {CX:CXT} {k:Nat} {f:Addr} {fd:FuncData} {ps:List Str} {sp sp':Sp} (F:FnOk P w K mg base CX k f fd ps sp)
  (h:∀ vs H Q E,sp' vs H Q E->sp vs H Q E):FnOk P w K mg base CX k f fd ps sp':=
 ⟨fun vs H Q E q=>F.len vs H Q E (h _ _ _ _ q),fun A outer s H args us vs Q E hr he hb hv hs=>F.run A outer s H args us vs Q E hr he hb hv (h _ _ _ _ hs)⟩
section
variable {X:Cx} {pins:List (Addr×Obj)} {σ:St} {H:Hp} {s s':Shared}
def Inv.env0 (I:Inv X pins σ H s):Env0 X.prog X.w X.K X.mg X.base X.A X.stack s H:=
 ⟨I.ok.frames,I.ok.mod,I.bs,Nat.le_trans I.ok.bsz I.sz,I.stack,I.stkFree,I.hok,I.bare,fun p hp=>I.base.cts _ _ (I.ok.tb p hp)⟩
def Inv.after {Q:VK} {u:Value} (I:Inv X pins σ H s) (h:CE X.stack X.prog X.w H s Q u s'):EP X pins σ Q u s':=by
 obtain ⟨v,H',os,bare,un,hok,r,q⟩:=h
 obtain ⟨hh,g,d,t,os'⟩:=s'
 obtain rfl:os'=s.os:=os
 exact ⟨v,H',I.call (h':=hh) (g':=g) (d':=d) (t':=t) (ch:=[]) un hok bare (fun b z=>absurd z (by simp)),r,q⟩
end
def tH (sp:Sp) (dvs:List V) (E:XK) (t:TA):TE:=fun σ H Q=>t σ H fun vs H1=>sp (vs++dvs) H1 Q E
def Binds (K:PySem.W.Frag) (fd:FuncData) (ps:List Str) (ds:List Value):Prop:=
 ∀ (s:Shared) (us:List Value),K.In s.heap->(us++ds).length=ps.length->BindsTo s fd ⟨us,[]⟩ (ps.zip (us++ds))
def Binds.all {K:PySem.W.Frag} {fd:FuncData} {ps:List Str} (h:∀ us:List Value,us.length=ps.length->bindArgs fd ⟨us,[]⟩=pure (ps.zip us)):Binds K fd ps []:=fun s us _ hl=>by
 rw [List.append_nil] at hl ⊢
 exact .of_eq (h us hl)
def oW (CX:CXT) (X:Cx) (E:XK):Prop:=∀ (pins:List (Addr×Obj)) (σ:St) (H:Hp) (s:Shared) (e:Value) (s':Shared),Inv X pins σ H s->CX X.stack H s E e s'->X.xe e s'
section
variable {X:Cx} {CX:CXT} {k:Nat} {f C:Addr} {fd:FuncData} {ps:List Str} {sp:Sp} {dvs:List V} {ds:List Value} {E:XK} {x m:Str} {p pos apos:Pos} {e o:Expr} {es:List Expr} {ta:TE} {t:TA}
def zo {pins:List (Addr×Obj)} {σ:St} {H:Hp} {s:Shared} {Q:VK} {us:List Value} {vs:List V} (F:FnOk X.prog X.w X.K X.mg X.base CX k f fd ps sp) (hr:Room k X.A) (hb:Binds X.K fd ps ds) (hd:Vals dvs ds) (hx:oW CX X E)
  (I:Inv X pins σ H s) (r:Vals vs us) (h:sp (vs++dvs) H Q E):wpAny (model X.prog X.w) X.A (call (.ref f) us) (EP X pins σ Q) X.xe s:=by
 have r2:Vals (vs++dvs) (us++ds):=r.append hd
 have hl:(us++ds).length=ps.length:=by rw [<- r2.length];exact F.len _ _ _ _ h
 refine wpAny_call (codeAny_mono (F.run X.A X.stack s H ⟨us,[]⟩ (us++ds) (vs++dvs) Q E hr I.env0 (hb s us I.kIn hl) r2 h) fun r s' hq=>?_)
 cases r with
 | error e=>exact hx pins σ H s e s' I hq
 | ok fl =>
  cases fl with
  | ret u=>exact I.after hq
  | next=>exact False.elim hq
  | brk=>exact False.elim hq
  | cont=>exact False.elim hq
def vY (F:FnOk X.prog X.w X.K X.mg X.base CX k f fd ps sp) (hr:Room k X.A) (hg:Gl X x) (hm:X.mg x=some (.ref f)) (hk:PySem.W.keepIn X.K (.ref f)=true) (hb:Binds X.K fd ps ds) (hd:Vals dvs ds) (hx:oW CX X E)
  (ha:PA X (e::es) t) (hdb:(x==("__debug__":Str))=false:=by decide) (he:starEach (e::es) X.env=(false,eval e X.env)::starEach es X.env:=by rfl) (hpl:(backTo pos (starEach es X.env)).any (·.1)=false:=by rfl) :
  PE X (.Call (.Name x p) (e::es) [] pos) (tH sp dvs E t):=by
 intro pins s σ H Q I h
 refine wpAny_Call_Name_kw (lP I hg hm ?_ hdb)
 refine PySem.W.callWith_K (h₀:=X.base) I.ok.mod.kin hk (thn (ha pos pins s σ H _ I h) fun us s1 ⟨vs,H1,I1,r,q⟩=>⟨I1.kIn,?_⟩) he hpl
 exact zo F hr hb hd hx I1 r q
end
section
variable {X:Cx} {CX:CXT} {k:Nat} {f C:Addr} {fd:FuncData} {ps ks:List Str} {sp:Sp} {E:XK} {x m:Str} {p pos apos kpos:Pos} {e o:Expr} {es:List Expr} {kws:List Keyword} {te ta:TE} {t tk:TA} {nm:Option Str}
variable {g:List Value->List Value->List Value} {gV:List V->List V->List V}
end
structure FnScope (N P:List Str) (sc:Scope):Prop where
 kind:sc.kind=.function
 co:sc.isCoroutine=false
 gen:sc.isGenerator=false
 nd:N.Nodup
 pre:N.take P.length=P
 par:∀ x∈P,sc.names.lookup x=some .local∨sc.names.lookup x=some .cell
 nofree:∀ y∈sc.names,y.2≠.free
def kL {kindOf:Str->Option NameKind} {x:Str}:∀ {binds:List (Str×Value)} {m:Str->Option Value},(∀ v,(x,v)∉binds)->bindL kindOf binds m x=m x
 | [],_,_=>rfl
 | (n,v)::r,m,h=>by
  unfold bindL
  rw [kL fun w hw=>h w (List.mem_cons_of_mem _ hw)]
  split
  · have:x≠n:=by rintro rfl;exact h v List.mem_cons_self
    simp [this]
  · rfl
def kM {kindOf:Str->Option NameKind} {x:Str}:∀ {binds:List (Str×Value)} {m:Str->Option Value},(∀ v,(x,v)∉binds)->bindC kindOf binds m x=m x
 | [],_,_=>rfl
 | (n,v)::r,m,h=>by
  unfold bindC
  rw [kM fun w hw=>h w (List.mem_cons_of_mem _ hw)]
  split
  · rfl
  · have:x≠n:=by rintro rfl;exact h v List.mem_cons_self
    simp [this]
def iH {kindOf:Str->Option NameKind} {x:Str} {v:Value}:∀ {P:List Str} {vs:List Value} {i:Nat} {m:Str->Option Value},P.Nodup->P[i]?=some x->vs[i]?=some v->kindOf x=some .local→
  bindL kindOf (P.zip vs) m x=some v
 | [],_,_,_,_,h,_,_=>by simp at h
 | _::_,[],_,_,_,_,h,_=>by simp at h
 | p::P,w::vs,0,m,nd,h1,h2,hk=>by
  simp at h1 h2;subst h1;subst h2
  show bindL kindOf ((p,w)::P.zip vs) m p=_
  unfold bindL
  rw [kL fun v hv=>(List.nodup_cons.mp nd).1 (List.of_mem_zip hv).1,if_pos hk]
  simp
 | p::P,w::vs,i+1,m,nd,h1,h2,hk=>by
  show bindL kindOf ((p,w)::P.zip vs) m x=_
  unfold bindL
  exact iH (i:=i) (List.nodup_cons.mp nd).2 (by simpa using h1) (by simpa using h2) hk
def iI {kindOf:Str->Option NameKind} {x:Str} {v:Value}:∀ {P:List Str} {vs:List Value} {i:Nat} {m:Str->Option Value},P.Nodup->P[i]?=some x->vs[i]?=some v->kindOf x≠some .local→
  bindC kindOf (P.zip vs) m x=some v
 | [],_,_,_,_,h,_,_=>by simp at h
 | _::_,[],_,_,_,_,h,_=>by simp at h
 | p::P,w::vs,0,m,nd,h1,h2,hk=>by
  simp at h1 h2;subst h1;subst h2
  show bindC kindOf ((p,w)::P.zip vs) m p=_
  unfold bindC
  rw [kM fun v hv=>(List.nodup_cons.mp nd).1 (List.of_mem_zip hv).1,if_neg hk]
  simp
 | p::P,w::vs,i+1,m,nd,h1,h2,hk=>by
  show bindC kindOf ((p,w)::P.zip vs) m x=_
  unfold bindC
  exact iI (i:=i) (List.nodup_cons.mp nd).2 (by simpa using h1) (by simpa using h2) hk
def start (N:List Str) (vs:List V):St:=vs.map some++List.replicate (N.length-vs.length) none
noncomputable def ji (CX:CXT) (P:Program) (w:World) (K:PySem.W.Frag) (mg:Str->Option Value) (base:Heap) (N:List Str) (qual:Str) (scope:Scope) (f:Addr) (cd:Value) (A:Around) (outer:List Env) (s:Shared) (H:Hp) (E:XK):Cx where
 prog:=P
 w:=w
 K:=K
 mg:=mg
 base:=base
 A:=A.deeper (envOfC qual scope s.heap.objs.size f cd)
 N:=N
 s₀:=s
 H₀:=H
 env:=envOfC qual scope s.heap.objs.size f cd
 outer:=outer
 stack:=envOfC qual scope s.heap.objs.size f cd::outer
 ex:=[]
 calm:=true
 fn:=fun _=>true
 pn:=[]
 xe:=fun e s'=>wpAny (model P w) (A.deeper (envOfC qual scope s.heap.objs.size f cd)) (leaving (envOfC qual scope s.heap.objs.size f cd) e) (fun _ s''=>CX outer H s E e s'') (fun e' s''=>CX outer H s E e' s'') s'
def hX {sc:Scope} {n:Nat} {x:Str} (h:sc.names.lookup x=some .cell):∃ c,(cellsFrom n sc.names []).lookup x=some c:=by
 have q:=PySem.W.cellsFrom_some sc.names n [] (.inl h)
 exact Option.isSome_iff_exists.mp q
def rV {CX:CXT} {P:Program} {w:World} {K:PySem.W.Frag} {mg:Str->Option Value} {base:Heap} {N ps:List Str} {qual:Str} {scope:Scope} {f:Addr} {cd:Value} {A:Around} {outer:List Env} {s s1:Shared} {H:Hp} {E:XK} {us:List Value} {vs:List V}
  (S:FnScope N ps scope) (hd:A.handled=none) (e0:Env0 P w K mg base A outer s H) (hl:vs.length=ps.length) (r:Vals vs us)
  (x:InCallC s s.heap.objs.size (bindL (envOfC qual scope s.heap.objs.size f cd).kindOf (ps.zip us) fun _=>none) (cellsFrom (s.heap.objs.size+1) scope.names []) (bindC (envOfC qual scope s.heap.objs.size f cd).kindOf (ps.zip us) fun _=>none) s1) :
  Inv (ji CX P w K mg base N qual scope f cd A outer s H E) [] (start N vs) H s1:=by
 have hpl:ps.length<=N.length:=by have:=congrArg List.length S.pre;rw [List.length_take] at this;omega
 obtain ⟨h1,tk,rfl,hk⟩:=x.done
 have noA:∀ b:Addr,b∉(ji CX P w K mg base N qual scope f cd A outer s H E).ex:=fun b z=>absurd (show b∈([]:List Addr) from z) (by simp)
 refine ⟨⟨e0.mod,S.kind,rfl,rfl,nL _,fun y z c h1 h2=>?_,fun y hy=>?_,fun y c _ h=>?_,fun _=>hd,Around.frames_deeper e0.frames,.inr ⟨rfl,rfl⟩,fun b z=>absurd z (noA b),e0.bs,e0.bsz,fun b _ _=>noA b,fun b z=>absurd z (noA b),e0.funs,e0.frf,e0.tb⟩,
  rfl,e0.bare,Un.kept hk,⟨_,x.toInCall.ns,fun i y v h1 h2 h3=>?_⟩,fun y c h=>⟨_,x.cell y c h⟩,e0.hok.fresh (Nat.le_refl _),fun y c h=>?_,fun p hp=>absurd (show p∈([]:List (Addr×Obj)) from hp) (by simp),e0.hok.kept hk,?_⟩
 · exact name_of_addr x.apart (PySem.mem_of_lookup h1) (PySem.mem_of_lookup h2)
 · have hy:scope.names.lookup y=some .cell∨scope.names.lookup y=some .free:=hy
   rcases hy with hy | hy
   · exact hX hy
   · exact absurd rfl (S.nofree _ (PySem.mem_of_lookup hy))
 · exact Nat.le_of_lt (x.above y c (PySem.mem_of_lookup h))
 · have hi:i<vs.length:=by
    unfold start at h2
    by_cases hi:i<vs.length
    · exact hi
    · rw [List.getElem?_append_right (by simpa using hi)] at h2
      rw [List.getElem?_replicate] at h2
      split at h2<;>cases h2
   have ha:vs[i]?=some v:=by
    unfold start at h2
    rw [List.getElem?_append_left (by simpa using hi),List.getElem?_map] at h2
    cases e:vs[i]? with
    | none=>rw [e] at h2;cases h2
    | some a=>rw [e] at h2;cases h2;rfl
   obtain ⟨u,hu,rv⟩:=r.get ha
   have hp:ps[i]?=some y:=by
    rw [<- S.pre,List.getElem?_take_of_lt (by omega)];exact h1
   have ndP:ps.Nodup:=by rw [<- S.pre];exact S.nd.sublist (List.take_sublist _ _)
   refine ⟨u,rv,?_⟩
   rcases S.par y (List.mem_of_getElem? hp) with k | k
   · exact .inl ⟨k,iH ndP hp hu k⟩
   · obtain ⟨c,e⟩:=hX (n:=s.heap.objs.size+1) k
     refine .inr ⟨.inl k,c,e,?_⟩
     have q:=x.cell y c e
     rw [iI ndP hp hu (by show scope.names.lookup y≠_;rw [k];decide)] at q
     exact q
 · exact e0.hok.fresh (Nat.le_of_lt (x.above y c (PySem.mem_of_lookup h)))
 · unfold start
   show _=N.length
   rw [List.length_append,List.length_map,List.length_replicate]
   omega
def xU {CX:CXT} {P:Program} {w:World} {K:PySem.W.Frag} {mg:Str->Option Value} {base:Heap} {k:Nat} {f:Addr} {name qual:Str} {params:Arguments} {body:List Stmt} {scope:Scope} {dV kV doc pm cdv ct oc:Value} {an od:Option Addr}
  {osl:Array (Option Value)} {N ps:List Str} {sp:Sp} (lk:K.lookup f=some ⟨oc,od,.func (PySem.W.fnOf name qual params body scope dV kV doc pm an cdv ct),osl⟩) (hcd:PySem.W.codeIn K cdv qual=true) (S:FnScope N ps scope)
  (len:∀ vs H Q E,sp vs H Q E->vs.length=ps.length)
  (hbody:∀ (A:Around) (outer:List Env) (s:Shared) (H:Hp) (vs:List V) (Q:VK) (E:XK),Room k (A.deeper (envOfC qual scope s.heap.objs.size f cdv))->sp vs H Q E→
   ∃ t,PSs (ji CX P w K mg base N qual scope f cdv A outer s H E) body t/\t {nx:=fun _ H'=>Q .non H',rt:=Q} (start N vs) H) :
  FnOk P w K mg base CX (k+1) f (PySem.W.fnOf name qual params body scope dV kV doc pm an cdv ct) ps sp:=by
 refine ⟨len,fun A outer s H args us vs Q E hr e0 hb r hsp=>?_⟩
 have hl:=len _ _ _ _ hsp
 have KX:K.In s.heap:=e0.mod.kin.keeps fun b o e=>(e0.bs b o e).1
 have lim:s.heap.NoLimit:=e0.mod.nolimit.keeps fun b o e=>(e0.bs b o e).1
 have hkind:∀ y∈ps.zip us,scope.names.lookup y.1=some .local∨(scope.names.lookup y.1=some .cell/\((cellsFrom (s.heap.objs.size+1) scope.names []).lookup y.1).isSome=true):=fun ⟨n,v⟩ hy=>by
  rcases S.par n (List.of_mem_zip hy).1 with q | q
  · exact .inl q
  · exact .inr ⟨q,PySem.W.cellsFrom_some _ _ _ (.inl q)⟩
 refine codeAny_call_function hr.depth (KX _ _ lk) rfl S.co S.gen rfl (PySem.W.codeRec_of KX hcd) (hb _ _ _ _ ?_)
 refine wpAny_newFunctionEnv_cells S.kind hkind fun env he s1 x=>?_
 subst he
 refine ⟨lim.keeps x.toInCall.keep,codeAny_func ?_⟩
 obtain ⟨t,ht,hq⟩:=hbody A outer s H vs Q E (hr.deeper _) hsp
 have I:Inv (ji CX P w K mg base N qual scope f cdv A outer s H E) [] (start N vs) H s1:=rV S hr.hd e0 hl r x
 refine wpAny_mono (ht [] s1 (start N vs) H _ I hq) (fun fl s' hs=>?_) fun e s' hs=>hs
 have fin:∀ {σ':St} {H':Hp} {v:V} {u:Value},Inv (ji CX P w K mg base N qual scope f cdv A outer s H E) [] σ' H' s'->RelV v u->Q v H'->CE outer P w H s Q u s':=
  fun {σ' H' v u} J rv q=>⟨v,H',J.os,J.bare,J.base,J.hok,rv,q⟩
 cases fl with
 | ret u =>
  obtain ⟨v,σ',H',J,rv,q⟩:=hs
  exact fin J rv q
 | next =>
  obtain ⟨σ',H',J,q⟩:=hs
  exact fin (v:=V.non) (u:=Value.none) J rfl q
 | brk =>
  obtain ⟨_,_,_,q⟩:=hs
  exact False.elim q
 | cont =>
  obtain ⟨_,_,_,q⟩:=hs
  exact False.elim q
section
variable {X:Cx} {x:Str} {p pos:Pos} {e:Expr} {es:List Expr} {t:TA} {id T:String} {r:List V->Hp->VK->Prop}
def tCB (r:List V->Hp->VK->Prop) (t:TA):TE:=fun σ H Q=>t σ H fun vs H1=>r vs H1 Q
def tI (hc:CallR X (.builtin id) r) (hg:Gl X x) (hm:X.mg x=none) (hv:bootBuiltins x=some (.builtin id)) (ha:PA X (e::es) t) (hn:x≠"__name__":=by decide) (hdb:(x==("__debug__":Str))=false:=by decide)
  (he:starEach (e::es) X.env=(false,eval e X.env)::starEach es X.env:=by rfl) (hpl:(backTo pos (starEach es X.env)).any (·.1)=false:=by rfl):PE X (.Call (.Name x p) (e::es) [] pos) (tCB r t):=by
 intro pins s σ H Q I h
 refine wpAny_Call_Name_kw (eT I hg hm hv ?_ hn hdb)
 exact PyProof.Rows.callWith_builtin1 (thn (ha pos pins s σ H _ I h) fun us s1 ⟨vs,H1,I1,r1,q1⟩=>hc pins s1 σ H1 vs us Q I1 r1 q1) he hpl
def rW (hc:CallR X (.type T) r) (hg:Gl X x) (hm:X.mg x=none) (hv:bootBuiltins x=some (.type T)) (ha:PA X (e::es) t) (hn:x≠"__name__":=by decide) (hdb:(x==("__debug__":Str))=false:=by decide)
  (he:starEach (e::es) X.env=(false,eval e X.env)::starEach es X.env:=by rfl) (hpl:(backTo pos (starEach es X.env)).any (·.1)=false:=by rfl):PE X (.Call (.Name x p) (e::es) [] pos) (tCB r t):=by
 intro pins s σ H Q I h
 refine wpAny_Call_Name_kw (eT I hg hm hv ?_ hn hdb)
 exact PyProof.Rows.callWith_type1 (thn (ha pos pins s σ H _ I h) fun us s1 ⟨vs,H1,I1,r1,q1⟩=>hc pins s1 σ H1 vs us Q I1 r1 q1) he hpl
end
end L2
namespace HT
open PySem PyProof.Rows
section
open PySem.SeqAt
open PySem.AutoSeq1 (wpAny_loadPart')
open PySem.MeetsSeq PySem.MeetsSeq2 PySem.MeetsSeq3
end
section
variable {prog:Program} {w:World} {A:Around} {E:Value->Shared->Prop} {s:Shared}
def BZ {t b:Addr} {vs ws:List Value} {Q:Value->Shared->Prop} (ht:IsTup s.heap t vs.toArray) (hb:IsTup s.heap b ws.toArray) (hv:vs≠[])
  (h1:ws=[]->Q (.ref t) s) (h2:ws≠[]->Q (.ref s.heap.objs.size) {s with heap:=s.heap.push {cls:=.type "tuple",data:=.seq (vs++ws).toArray}})
  (hsz:vs.length+ws.length<=sizeLine):wpAny (model prog w) A (binaryOp .Add (.ref t) (.ref b)) Q E s:=by
 obtain ⟨⟨cls,dd,data,sl⟩,ho,hc,n,hd⟩:=id ht
 obtain ⟨⟨cls2,dd2,data2,sl2⟩,ho2,hc2,n2,hd2⟩:=id hb
 simp only at hc hd hc2 hd2
 subst hc hd hc2 hd2
 have e:vs.toArray++ws.toArray=(vs++ws).toArray:=by simp
 by_cases hw:ws=[]
 · exact concat_meets ⟨_,ho,rfl⟩ ⟨_,ho2,rfl⟩ noFill_tuple_add seq_tuple_add PySem.F.slot_tuple_add PySem.F.entry_tuple_add (PySem.F.args_tuple_add_2 _ _)
    (tuple_addW1 t b vs.toArray ws.toArray n n2 dd dd2 sl sl2 (by simpa using hv) (by simp [hw])) ⟨ho,ho2,h1 hw⟩
 · refine concat_meets ⟨_,ho,rfl⟩ ⟨_,ho2,rfl⟩ noFill_tuple_add seq_tuple_add PySem.F.slot_tuple_add PySem.F.entry_tuple_add (PySem.F.args_tuple_add_2 _ _)
    (tuple_addW2 t b vs.toArray ws.toArray n n2 dd dd2 sl sl2 (by simpa using hv) (by simpa using hw) (by rw [List.size_toArray,List.size_toArray];exact hsz)) ⟨ho,ho2,?_⟩
   rw [e]
   exact h2 hw
def sIx (n d:Nat):Option Int->Nat
 | none=>d
 | some v=>if v<0 then (v+(n:Int)).toNat else min v.toNat n
def B0 (n d k:Nat):sIx n d (some (k:Int))=min k n:=by
 show (if (k:Int)<0 then ((k:Int)+(n:Int)).toNat else min (k:Int).toNat n)=min k n
 rw [if_neg (by omega),Int.toNat_natCast]
def zq (n d:Nat) (hd:d<=n) (o:Option Int):sIx n d o<=n:=by
 cases o with
 | none=>exact hd
 | some v =>
  show (if v<0 then (v+(n:Int)).toNat else min v.toNat n)<=n
  by_cases hv:v<0
  · rw [if_pos hv];omega
  · rw [if_neg hv];exact Nat.min_le_right _ _
def qk (v:Int) (n d:Nat):(if v<0 then max (v+(n:Int)) 0 else min v (n:Int))=((sIx n d (some v):Nat):Int):=by
 show (if v<0 then max (v+(n:Int)) 0 else min v (n:Int))=(((if v<0 then (v+(n:Int)).toNat else min v.toNat n):Nat):Int)
 by_cases hv:v<0
 · simp only [if_pos hv];omega
 · simp only [if_neg hv];omega
def oX (lo hi:Option Int) (n:Nat):Builtin.Slice.sliceAdjust lo hi 1 (n:Int)=(((sIx n 0 lo:Nat):Int),((sIx n n hi:Nat):Int)):=by
 have h1:¬ ((1:Int)<0):=by omega
 unfold Builtin.Slice.sliceAdjust
 simp only [h1,if_false]
 refine Prod.ext ?_ ?_
 · cases lo with
   | none=>rfl
   | some v=>exact qk v n 0
 · cases hi with
   | none=>rfl
   | some v=>exact qk v n n
def oY (i j:Nat):Builtin.Slice.slicePlaces (i:Int) (j:Int) 1=j-i:=by
 unfold Builtin.Slice.slicePlaces
 have h1:(1:Int) > 0:=by omega
 simp only [h1,if_true,Int.ediv_one]
 split<;>omega
def jE {v:Value} {o:Option Int} {Q:Option Int->Shared->Prop} (p:IsPart v o) (h:Q o s):wpAny (model prog w) A (Builtin.Slice.slicePartIndex v) Q E s:=by
 cases p with
 | none=>exact slicePart_none h
 | int i t=>exact slicePart_int h
def iJ {sl:Addr} {vl vu:Value} {lo hi:Option Int} {n:Nat} {Q:Int×Int×Nat->Shared->Prop} (hs:s.heap.IsSliceOf sl vl vu .none) (pl:IsPart vl lo) (pu:IsPart vu hi)
  (h:Q (((sIx n 0 lo:Nat):Int),1,sIx n n hi-sIx n 0 lo) s):wpAny (model prog w) A (Builtin.Slice.sliceApplied (.ref sl) (pure (n:Int))) Q E s:=by
 obtain ⟨os,hos,hcs,hds⟩:=id hs
 unfold Builtin.Slice.sliceApplied Builtin.Slice.sliceFields
 refine wB (wB (wpAny_field hos hds (x:=vl) rfl (wB (wpAny_field hos hds (x:=vu) rfl (wB (wpAny_field hos hds (x:=.none) rfl (wpAny_pure ?_)))))))
 refine wB (slicePart_none ?_)
 show wpAny _ _ (if ((1:Int)==0)=true then _ else _) _ _ s
 rw [if_neg (by decide)]
 refine wB (jE pl (wB (jE pu (wB (wpAny_pure ?_)))))
 show wpAny _ _ (match Builtin.Slice.sliceAdjust lo hi 1 (n:Int) with | (lo,hi)=>pure (lo,(1:Int),Builtin.Slice.slicePlaces lo hi 1)) _ _ s
 rw [oX lo hi n]
 show wpAny _ _ (pure (((sIx n 0 lo:Nat):Int),(1:Int),Builtin.Slice.slicePlaces ((sIx n 0 lo:Nat):Int) ((sIx n n hi:Nat):Int) 1)) _ _ s
 rw [oY]
 exact wpAny_pure h
def tJ (xs:Array Value) (i k:Nat):((List.range k).filterMap fun (m:Nat)=>xs[((i:Int)+(m:Int)*1).toNat]?).toArray=((xs.toList.drop i).take k).toArray:=by
 have e:(fun (m:Nat)=>xs[((i:Int)+(m:Int)*1).toNat]?)=fun m=>xs[i+m]?:=by
  funext m
  have:((i:Int)+(m:Int)*1).toNat=i+m:=by omega
  rw [this]
 rw [e]
 have:=pick_run xs i k
 rw [List.filterMap_map] at this
 have e2:((fun x=>xs[x]?) ∘ fun x=>i+x)=fun m=>xs[i+m]?:=rfl
 rw [e2] at this
 rw [this]
def ql {t sl:Addr} {items:Array Value} {vl vu:Value} {lo hi:Option Int} {Q:Value->Shared->Prop} (ht:IsTup s.heap t items) (hs:s.heap.IsSliceOf sl vl vu .none) (pl:IsPart vl lo) (pu:IsPart vu hi)
  (hw:¬ (sIx items.size 0 lo=0/\sIx items.size items.size hi=items.size))
  (h:Q (.ref s.heap.objs.size) {s with heap:=s.heap.push {cls:=.type "tuple",data:=.seq ((items.toList.drop (sIx items.size 0 lo)).take (sIx items.size items.size hi-sIx items.size 0 lo)).toArray}})
  (hsz:items.size<=sizeLine):wpAny (model prog w) A (getItem (.ref t) (.ref sl)) Q E s:=by
 have htake:sizeOk (.seq ((items.toList.drop (sIx items.size 0 lo)).take (sIx items.size items.size hi-sIx items.size 0 lo)).toArray):=by
  show ((items.toList.drop (sIx items.size 0 lo)).take (sIx items.size items.size hi-sIx items.size 0 lo)).toArray.size<=sizeLine
  rw [List.size_toArray,List.length_take,List.length_drop,Array.length_toList]
  omega
 have hj:sIx items.size items.size hi<=items.size:=zq _ _ (nL _) hi
 obtain ⟨os,hos,hcs,hds⟩:=id hs
 have hTs:s.TypeIs (.ref sl) "slice":=⟨os,hos,hcs⟩
 unfold getItem
 try with_reducible refine wpAny_holding ?_
 first | refine wB (wpAny_pure ?_) | skip
 refine wB (wpAny_sequenceKey ht.typeIs (by decide) ?_)
 refine wB (wpAny_callSpecial?_slot (name:=Str.ofString "__getitem__") ht.typeIs PyProof.Rows.slot_tuple_getitem
  (wpAny_call_entry PyProof.Rows.slot_tuple_getitem ht.typeIs entry_tuple_getitem ?_ (args_tuple_getitem _ _)))
 show wpAny _ _ (Builtin.Tuple.tupleItemsOf (.ref t) >>= _) _ _ s
 refine wB (tupleItemsOf_ ht ?_)
 refine wB (wpAny_typeOf hTs ?_)
 rw [if_pos (by decide)]
 refine wB (iJ hs pl pu ?_)
 have hno:¬ ((((sIx items.size 0 lo:Nat):Int)==0&&(1:Int)==1&&(sIx items.size items.size hi-sIx items.size 0 lo)==items.size)=true):=by
  intro q
  rw [Bool.and_eq_true,Bool.and_eq_true] at q
  have q1:((sIx items.size 0 lo:Nat):Int)=0:=eq_of_beq q.1.1
  have q2:sIx items.size items.size hi-sIx items.size 0 lo=items.size:=eq_of_beq q.2
  exact hw ⟨by omega,by omega⟩
 show wpAny _ _ (if (((sIx items.size 0 lo:Nat):Int)==0&&(1:Int)==1&&(sIx items.size items.size hi-sIx items.size 0 lo)==items.size)=true then _ else _) _ _ s
 rw [if_neg hno,tJ]
 first
  | exact wB (m:=Builtin.Tuple.tupleExact _) (wpAny_newObj_type (wpAny_pure ⟨_,rfl,wpAny_pure h⟩) htake)
  | exact wB (m:=Builtin.Tuple.tupleExact _) (wpAny_newObj_type (wB (wpAny_pure (wpAny_pure ⟨_,rfl,wpAny_pure h⟩))) htake)
  | exact wB (wB (m:=Builtin.Tuple.tupleExact _) (wpAny_newObj_type (wpAny_pure (wpAny_pure ⟨_,rfl,wpAny_pure h⟩)) htake))
  | exact wB (wB (m:=Builtin.Tuple.tupleExact _) (wpAny_newObj_type (wpAny_pure ⟨_,rfl,wpAny_pure h⟩) htake))
end
end HT
namespace L2
open PySem PySem.Spec PyProof.Rows
abbrev TO:=St->Hp->(Option Int->Hp->Prop)->Prop
noncomputable def PO (X:Cx) (e:Option Expr) (t:TO):Prop:=
 ∀ (pins:List (Addr×Obj)) (s:Shared) (σ:St) (H:Hp) (Q:Option Int->Hp->Prop),Inv X pins σ H s->t σ H Q→
  wpAny (model X.prog X.w) X.A (evalPart e X.env) (fun u s'=>∃ o H',Inv X pins σ H' s'/\IsPart u o/\Q o H') X.xe s
def vZ:TO:=fun _ H Q=>Q none H
def Bl (t:TE):TO:=fun σ H Q=>t σ H fun x H1=>∃ i,x=.int i/\Q (some i) H1
section
variable {X:Cx} {e:Expr} {te:TE} {lo hi:Option Expr} {tl th:TO} {pos p2:Pos}
def v4:PO X none vZ:=by
 intro pins s σ H Q I h
 rw [evalPart_none]
 exact wpAny_pure ⟨none,H,I,.none,h⟩
def v6 (h:PE X e te):PO X (some e) (Bl te):=by
 intro pins s σ H Q I hw
 rw [evalPart_some]
 refine thn (h pins s σ H _ I hw) fun u s1 ⟨x,H1,I1,r1,q1⟩=>?_
 obtain ⟨i,rfl,q⟩:=q1
 obtain ⟨t,rfl⟩:=r1
 exact ⟨some i,H1,I1,.int i t,q⟩
noncomputable def SlR (X:Cx) (r:V->Option Int->Option Int->Hp->VK->Prop):Prop:=
 ∀ (pins:List (Addr×Obj)) (s:Shared) (σ:St) (H:Hp) (x:V) (v vl vu:Value) (lo hi:Option Int) (sl:Addr) (Q:VK),Inv X pins σ H s->RelV x v->s.heap.IsSliceOf sl vl vu .none->IsPart vl lo->IsPart vu hi->r x lo hi H Q→
  ∃ T id,typeLookup (.type T) "__getitem__"=pure (some (.builtin id))/\s.TypeIs v T/\wpAny (model X.prog X.w) X.A (getItem v (.ref sl)) (EP X pins σ Q) X.xe s
def SlR.or {r r':V->Option Int->Option Int->Hp->VK->Prop} (h:SlR X r) (h':SlR X r'):SlR X (fun x lo hi H Q=>r x lo hi H Q∨r' x lo hi H Q):=by
 intro pins s σ H x v vl vu lo hi sl Q I rx hs pl pu q
 rcases q with q | q
 · exact h pins s σ H x v vl vu lo hi sl Q I rx hs pl pu q
 · exact h' pins s σ H x v vl vu lo hi sl Q I rx hs pl pu q
def tSl (r:V->Option Int->Option Int->Hp->VK->Prop) (te:TE) (tl th:TO):TE:=fun σ H Q=>te σ H fun x H1=>tl σ H1 fun l H2=>th σ H2 fun u H3=>r x l u H3 Q
def tK {r:V->Option Int->Option Int->Hp->VK->Prop} (hr:SlR X r) (he:PE X e te) (hl:PO X lo tl) (hu:PO X hi th):PE X (.Subscript e (.Slice lo hi none p2) pos) (tSl r te tl th):=by
 intro pins s σ H Q I h
 refine Subscript_ (thn (he pins s σ H _ I h) fun v s1 ⟨x,H1,I1,r1,q1⟩=>?_)
 refine wpAny_Slice (thn (hl pins s1 σ H1 _ I1 q1) fun vl s2 ⟨l,H2,I2,pl,q2⟩=>thn (hu pins s2 σ H2 _ I2 q2) fun vu s3 ⟨u,H3,I3,pu,q3⟩=>?_)
 rw [evalPart_none]
 refine wpAny_pure ?_
 have I4:Inv X pins σ H3 {s3 with heap:=s3.heap.push {cls:=.type "slice",data:=.fields #[vl,vu,.none]}}:=I3.kept (t':=s3.toks) fun b ob q=>gP _ q
 obtain ⟨T,id,hT,ht,hg⟩:=hr pins {s3 with heap:=s3.heap.push {cls:=.type "slice",data:=.fields #[vl,vu,.none]}} σ H3 x v vl vu l u s3.heap.objs.size Q I4 r1 (Heap.IsSliceOf.new ..) pl pu q3
 show wpAny (model X.prog X.w) X.A (subscriptTail e (.Slice lo hi none p2) v (.ref s3.heap.objs.size)) (EP X pins σ Q) X.xe {s3 with heap:=s3.heap.push {cls:=.type "slice",data:=.fields #[vl,vu,.none]}}
 exact tail_any (ops:=[.ref s3.heap.objs.size,v]) ht hT hg (by with_unfolding_all rfl)
def mN (xs:List V) (lo hi:Option Int):List V:=(xs.drop (HT.sIx xs.length 0 lo)).take (HT.sIx xs.length xs.length hi-HT.sIx xs.length 0 lo)
def i9 (xs:List V) (lo hi:Option Int):(mN xs lo hi).length<=xs.length:=by
 unfold mN
 rw [List.length_take,List.length_drop]
 omega
noncomputable def rSlT (K:PySem.W.Frag):V->Option Int->Option Int->Hp->VK->Prop:=fun x lo hi H Q=>∃ a xs,x=.ref a/\SqT K H a xs∧
 ¬ (HT.sIx xs.length 0 lo=0/\HT.sIx xs.length xs.length hi=xs.length)/\∀ p,H p=none->Q (.ref p) (upd H p (.tup (mN xs lo hi)))
def zr:SlR X (rSlT X.K):=by
 intro pins s σ H x v vl vu lo hi sl Q I rx hs pl pu h
 obtain ⟨a,xs,rfl,hx,hw,q⟩:=h
 cases rx
 obtain ⟨its,r,ht,hz⟩:=I.tuple hx
 have hlen:its.toArray.size=xs.length:=by rw [List.size_toArray];exact r.length.symm
 refine ⟨"tuple",_,PyProof.Rows.slot_tuple_getitem.lookup,ht.typeIs,?_⟩
 refine HT.ql ht hs pl pu (by rw [hlen];exact hw) ?_ (by rw [hlen];exact hz)
 rw [hlen]
 refine ⟨.ref s.heap.objs.size,_,I.laid (t':=s.toks) (o:=.tup (mN xs lo hi)) (fun b ob q=>gP _ q) (nL _) ?_,rfl,q _ (I.hok.fresh (nL _))⟩
 exact ⟨Nat.le_trans (i9 xs lo hi) hz,_,(r.drop (HT.sIx xs.length 0 lo)).take (HT.sIx xs.length xs.length hi-HT.sIx xs.length 0 lo),IsTup.new _ _⟩
noncomputable def xV (K:PySem.W.Frag):R2:=fun x y H Q=>∃ a b xs ys,x=.ref a/\y=.ref b/\SqT K H a xs/\SqT K H b ys/\xs≠[]/\xs.length+ys.length<=sizeLine∧
 (ys=[]->Q (.ref a) H)/\(ys≠[]->∀ p,H p=none->Q (.ref p) (upd H p (.tup (xs++ys))))
def Vals.nil_iff {xs:List V} {us:List Value} (r:Vals xs us):us=[]↔xs=[]:=by
 cases r with
 | nil=>simp
 | cons _ _=>simp
def v7:OpR X (binaryOp .Add) (xV X.K):=by
 intro pins s σ H x y v u Q I rx ry h
 obtain ⟨a,b,xs,ys,rfl,rfl,ha,hb,hx,hz,q1,q2⟩:=h
 cases rx
 cases ry
 obtain ⟨its,r1,p1,_⟩:=I.tuple ha
 obtain ⟨its2,r2,p2,_⟩:=I.tuple hb
 refine HT.BZ p1 p2 (fun z=>hx (r1.nil_iff.mp z)) (fun z=>⟨.ref a,H,I,rfl,q1 (r2.nil_iff.mp z)⟩) (fun z=>?_) (by rw [<- r1.length,<- r2.length];exact hz)
 refine ⟨.ref s.heap.objs.size,_,I.laid (t':=s.toks) (o:=.tup (xs++ys)) (fun b ob q=>gP _ q) (nL _) ?_,rfl,q2 (fun w=>z (r2.nil_iff.mpr w)) _ (I.hok.fresh (nL _))⟩
 exact ⟨by rw [List.length_append];exact hz,_,r1.append r2,IsTup.new _ _⟩
end
def ixN (n:Nat) (i:Int):Option Nat:=if 0<=i then (if i<n then some i.toNat else none) else if -(n:Int)<=i then some (i+n).toNat else none
def atI {α:Type} (xs:List α) (i:Int):Option α:=(ixN xs.length i).bind fun j=>xs[j]?
def v8 {n:Nat} {i:Int} {j:Nat} (h:ixN n i=some j):seqIndex? i n=some j/\j<n/\-(n:Int)<=i/\i<n:=by
 unfold ixN at h
 by_cases h0:0<=i
 · rw [if_pos h0] at h
   by_cases h1:i<n
   · rw [if_pos h1] at h
     have e:i.toNat=j:=Option.some.inj h
     exact ⟨by rw [seqIndex_of h0 h1,e],by omega,by omega,h1⟩
   · rw [if_neg h1] at h;cases h
 · rw [if_neg h0] at h
   by_cases h1:-(n:Int)<=i
   · rw [if_pos h1] at h
     have e:(i+n).toNat=j:=Option.some.inj h
     exact ⟨by rw [seqIndex_neg (by omega) h1,e],by omega,h1,by omega⟩
   · rw [if_neg h1] at h;cases h
def lQ {α:Type} {xs:List α} {i:Int} {v:α} (h:atI xs i=some v):∃ j,seqIndex? i xs.length=some j/\xs[j]?=some v/\j<xs.length/\-(xs.length:Int)<=i/\i<xs.length:=by
 unfold atI at h
 cases e:ixN xs.length i with
 | none=>rw [e] at h;cases h
 | some j =>
  rw [e] at h
  obtain ⟨h1,h2,h3,h4⟩:=v8 e
  exact ⟨j,h1,h,h2,h3,h4⟩
def v9 {α:Type} {xs:List α} {j:Nat} {v:α} (h:xs[j]?=some v):atI xs (j:Int)=some v:=by
 have hj:j<xs.length:=(gX h).1
 have e:ixN xs.length (j:Int)=some j:=by
  unfold ixN
  rw [if_pos (by omega),if_pos (by omega)];simp
 unfold atI;rw [e];exact h
def lR (b:Expr):Prop:=∀ o i,subscripted b false o i=operate [o,i] (getItem o i)
noncomputable def IxR (X:Cx) (r:R2):Prop:=
 ∀ (value slice:Expr) (pins:List (Addr×Obj)) (s:Shared) (σ:St) (H:Hp) (x y:V) (v u:Value) (Q:VK),Inv X pins σ H s->RelV x v->RelV y u->r x y H Q→
  subscripted slice false v u=operate [v,u] (getItem v u)->wpAny (model X.prog X.w) X.A (subscriptTail value slice v u) (EP X pins σ Q) X.xe s
noncomputable def MtR (X:Cx) (id:String) (r:V->List V->Hp->VK->Prop):Prop:=
 ∀ (pins:List (Addr×Obj)) (s:Shared) (σ:St) (H:Hp) (x:V) (xs:List V) (v:Value) (us:List Value) (Q:VK),Inv X pins σ H s->RelV x v->Vals xs us->r x xs H Q→
  wpAny (model X.prog X.w) X.A (call (.builtin id) (v::us)) (EP X pins σ Q) X.xe s
section
variable {X:Cx} {a b:Expr} {ta tb:TE} {pos:Pos}
def IxR.or {r r':R2} (h:IxR X r) (h':IxR X r'):IxR X (fun x y H Q=>r x y H Q∨r' x y H Q):=by
 intro value slice pins s σ H x y v u Q I rx ry q hs
 rcases q with q | q
 · exact h value slice pins s σ H x y v u Q I rx ry q hs
 · exact h' value slice pins s σ H x y v u Q I rx ry q hs
def xW {r:R2} (hr:IxR X r) (ha:PE X a ta) (hb:PE X b tb) (hs:lR b):PE X (.Subscript a b pos) (tOp r ta tb):=by
 intro pins s σ H Q I h
 exact Subscript_ (zd ha hb I h fun v u s2 x y H2 I2 rx ry q=>hr a b pins s2 σ H2 x y v u Q I2 rx ry q (hs _ _))
def rIxL (K:PySem.W.Frag):R2:=fun x y H Q=>∃ p xs i v,x=.ref p/\y=.int i/\SqL K H p xs/\atI xs i=some v/\Q v H
def rIxT (K:PySem.W.Frag):R2:=fun x y H Q=>∃ p xs i v,x=.ref p/\y=.int i/\SqT K H p xs/\atI xs i=some v/\Q v H
def rIxS:R2:=fun x y H Q=>∃ z i c,x=.str z/\y=.int i/\z.length<=sizeLine/\atI z.cps.toList i=some c/\Q (.str ⟨#[c]⟩) H
def ix_list:IxR X (rIxL X.K):=by
 intro value slice pins s σ H x y v u Q I rx ry h hs
 obtain ⟨p,xs,i,z,rfl,rfl,hq,he,q⟩:=h
 cases rx
 obtain ⟨t,rfl⟩:=ry
 obtain ⟨its,r,pl,hz⟩:=I.list hq
 obtain ⟨j,h1,h2,h3,h4,h5⟩:=lQ he
 obtain ⟨w,ew,rw'⟩:=r.get h2
 have hl:=r.length
 have hn:=jD
 have fin:EP X pins σ Q w s:=⟨z,H,I,rw',q⟩
 by_cases h0:0<=i
 · have hj:i.toNat=j:=by
    rw [seqIndex_of h0 h5] at h1
    exact Option.some.inj h1
   exact item_listR pl.isList h0 (by omega) (by rw [hj];simpa using ew) fin hs
 · have hj:(i+(its.toArray.size:Int)).toNat=j:=by
    rw [seqIndex_neg (by omega) h4] at h1
    rw [List.size_toArray,<- hl]
    exact Option.some.inj h1
   exact subscriptTail_builtinR (x:=w) pl.isList.typeIs slot_list_getitem.lookup
    (wpAny_getItem_list_neg (Q:=fun r s'=>r=w/\EP X pins σ Q r s') pl.isList (by omega) (by rw [List.size_toArray]<;>omega) (by omega) (by rw [hj];simpa using ew) ⟨rfl,fin⟩) hs
def ix_tup:IxR X (rIxT X.K):=by
 intro value slice pins s σ H x y v u Q I rx ry h hs
 obtain ⟨p,xs,i,z,rfl,rfl,hq,he,q⟩:=h
 cases rx
 obtain ⟨t,rfl⟩:=ry
 obtain ⟨its,r,pl,hz⟩:=I.tuple hq
 obtain ⟨j,h1,h2,h3,h4,h5⟩:=lQ he
 obtain ⟨w,ew,rw'⟩:=r.get h2
 have hl:=r.length
 have hn:=jD
 have fin:EP X pins σ Q w s:=⟨z,H,I,rw',q⟩
 exact subscriptTail_builtinR (x:=w) pl.typeIs slot_tuple_getitem.lookup
  (getItem_tuple (j:=j) (Q:=fun r s'=>r=w/\EP X pins σ Q r s') pl (by omega) (by omega) (by rw [List.size_toArray,<- hl];exact h1) (by simpa using ew) ⟨rfl,fin⟩) hs
def zt:IxR X rIxS:=by
 intro value slice pins s σ H x y v u Q I rx ry h hs
 obtain ⟨z,i,c,rfl,rfl,hz,he,q⟩:=h
 obtain ⟨t,rfl⟩:=rx
 obtain ⟨t',rfl⟩:=ry
 obtain ⟨j,h1,h2,h3,h4,h5⟩:=lQ he
 have hl:z.cps.toList.length=z.length:=by simp [Str.length]
 rw [hl] at h1 h4 h5
 have hn:=jD
 exact tail_any (typeIs_str s z t) slot_str_getitem.lookup (getItem_str (c:=c) (by
  have e1:decide (i < -(2^63:Int))=false:=decide_eq_false (by omega)
  have e2:decide (i ≥ 2^63)=false:=decide_eq_false (by omega)
  rw [e1,e2,Bool.or_false]) (by rw [h1];simpa using h2) ⟨.str ⟨#[c]⟩,H,I.tok _,⟨_,rfl⟩,q⟩) hs
def rIx (K:PySem.W.Frag):R2:=fun x y H Q=>rIxL K x y H Q∨rIxT K x y H Q∨rIxS x y H Q
def tM:IxR X (rIx X.K):=ix_list.or (ix_tup.or zt)
def lS (lo hi:Option Int) (n:Nat):(sliceBounds lo hi none n).1=((HT.sIx n 0 lo:Nat):Int)/\(sliceBounds lo hi none n).2.1=((HT.sIx n n hi:Nat):Int)/\(sliceBounds lo hi none n).2.2=1:=by
 refine ⟨?_,?_,rfl⟩
 · cases lo with
   | none=>simp [sliceBounds,HT.sIx]
   | some i =>
    simp only [sliceBounds,HT.sIx,Option.getD_none,show (1:Int) > 0 by decide,if_true]
    by_cases h:i<0
    · simp only [h,if_true]<;>omega
    · simp only [h,if_false]<;>omega
 · cases hi with
   | none=>simp [sliceBounds,HT.sIx]
   | some i =>
    simp only [sliceBounds,HT.sIx,Option.getD_none,show (1:Int) > 0 by decide,if_true]
    by_cases h:i<0
    · simp only [h,if_true]<;>omega
    · simp only [h,if_false]<;>omega
def kz (its:List Value) (lo hi:Option Int):slicePick its.toArray lo hi none=((its.drop (HT.sIx its.length 0 lo)).take (HT.sIx its.length its.length hi-HT.sIx its.length 0 lo)).toArray:=by
 obtain ⟨h1,h2,h3⟩:=lS lo hi its.toArray.size
 unfold slicePick
 rw [h1,h2,h3]
 simp only [sliceRange_one,pick_run,List.size_toArray]<;>rfl
def rSlL (K:PySem.W.Frag):V->Option Int->Option Int->Hp->VK->Prop:=fun x lo hi H Q=>∃ a xs,x=.ref a/\SqL K H a xs/\∀ p,H p=none->Q (.ref p) (upd H p (.lst (mN xs lo hi)))
def wa:SlR X (rSlL X.K):=by
 intro pins s σ H x v vl vu lo hi sl Q I rx hs pl pu h
 obtain ⟨a,xs,rfl,hx,q⟩:=h
 cases rx
 obtain ⟨its,r,ht,hz⟩:=I.list hx
 have hlen:=r.length
 refine ⟨"list",_,slot_list_getitem.lookup,ht.isList.typeIs,?_⟩
 refine wpAny_getItem_list_slice ht.isList hs pl pu .none (by simp) ?_ (by rw [List.size_toArray]<;>omega)
 rw [kz,<- hlen]
 refine ⟨.ref s.heap.objs.size,_,I.laid (t':=s.toks) (o:=.lst (mN xs lo hi)) (fun b ob q=>gP _ q) (nL _) ?_,rfl,q _ (I.hok.fresh (nL _))⟩
 exact ⟨Nat.le_trans (i9 xs lo hi) hz,_,0,(r.drop (HT.sIx xs.length 0 lo)).take (HT.sIx xs.length xs.length hi-HT.sIx xs.length 0 lo),Heap.get?_push_size _ rfl⟩
def gy:V->Bool
 | .non=>true
 | .bl _=>true
 | .int _=>true
 | .str _=>true
 | _=>false
def eqV:V->V->Bool
 | .non,.non=>true
 | .bl a,.bl b=>a==b
 | .bl a,.int b=>(if a then 1 else 0)==b
 | .int a,.bl b=>a==(if b then 1 else 0)
 | .int a,.int b=>a==b
 | .str a,.str b=>a==b
 | _,_=>false
def iK {A:Around} {s:Shared} {y x:V} {u v:Value} (ry:RelV y u) (rx:RelV x v) (fy:gy y=true) (fx:gy x=true):SeqAt.EqAt A s u v (eqV y x):=by
 cases y with
 | non =>
  cases ry
  cases x with
  | non=>cases rx;exact SeqAt.EqAt.same _
  | bl b=>cases rx;exact SeqAt.EqAt.none_bool b
  | int b=>obtain ⟨t,rfl⟩:=rx;exact SeqAt.EqAt.none_int b t
  | str b=>obtain ⟨t,rfl⟩:=rx;exact SeqAt.EqAt.none_str b t
  | _=>exact absurd (show false=true from fx) Bool.false_ne_true
 | bl a =>
  cases ry
  cases x with
  | non=>cases rx;exact SeqAt.EqAt.bool_none a
  | bl b=>cases rx;exact SeqAt.EqAt.bool_bool a b
  | int b=>obtain ⟨t,rfl⟩:=rx;exact SeqAt.EqAt.bool_int a b t
  | str b=>obtain ⟨t,rfl⟩:=rx;exact SeqAt.EqAt.bool_str a b t
  | _=>exact absurd (show false=true from fx) Bool.false_ne_true
 | int a =>
  obtain ⟨t',rfl⟩:=ry
  cases x with
  | non=>cases rx;exact SeqAt.EqAt.int_none a t'
  | bl b=>cases rx;exact SeqAt.EqAt.int_bool a t' b
  | int b=>obtain ⟨t,rfl⟩:=rx;exact SeqAt.EqAt.int_int a t' b t
  | str b=>obtain ⟨t,rfl⟩:=rx;exact SeqAt.EqAt.int_str a t' b t
  | _=>exact absurd (show false=true from fx) Bool.false_ne_true
 | str a =>
  obtain ⟨t',rfl⟩:=ry
  cases x with
  | non=>cases rx;exact SeqAt.EqAt.str_none a t'
  | bl b=>cases rx;exact SeqAt.EqAt.str_bool a t' b
  | int b=>obtain ⟨t,rfl⟩:=rx;exact SeqAt.EqAt.str_int a t' b t
  | str b=>obtain ⟨t,rfl⟩:=rx;exact SeqAt.EqAt.str_str a t' b t
  | _=>exact absurd (show false=true from fx) Bool.false_ne_true
 | _=>exact absurd (show false=true from fy) Bool.false_ne_true
def eqU (x:V) (u:Value):Bool:=match u with
 | .none=>eqV .non x
 | .bool b=>eqV (.bl b) x
 | .int i _=>eqV (.int i) x
 | .str z _=>eqV (.str z) x
 | _=>false
def tN {x y:V} {u:Value} (r:RelV y u) (f:gy y=true):eqU x u=eqV y x:=by
 cases y with
 | non=>cases r;rfl
 | bl b=>cases r;rfl
 | int i=>obtain ⟨t,rfl⟩:=r;rfl
 | str z=>obtain ⟨t,rfl⟩:=r;rfl
 | _=>exact absurd (show false=true from f) Bool.false_ne_true
def hZ {x:V}:∀ {xs:List V} {us:List Value},Vals xs us->xs.all gy=true->us.any (eqU x)=xs.any fun y=>eqV y x
 | _,_,.nil,_=>rfl
 | y::xs,u::us,.cons r t,f=>by
  rw [List.all_cons,Bool.and_eq_true] at f
  rw [List.any_cons,List.any_cons,tN r f.1,hZ t f.2]
def fI {A:Around} {s:Shared} {x:V} {v:Value} (rx:RelV x v) (fx:gy x=true):∀ {xs:List V} {us:List Value},Vals xs us->xs.all gy=true->∀ u∈us,SeqAt.EqAt A s u v (eqU x u)
 | _,_,.nil,_=>fun u hu=>by cases hu
 | y::xs,u::us,.cons r t,f=>fun u' hu=>by
  rw [List.all_cons,Bool.and_eq_true] at f
  rcases List.mem_cons.mp hu with rfl | hu
  · rw [tN r f.1];exact iK r rx f.1 fx
  · exact fI rx fx t f.2 u' hu
def inV (x:V) (xs:List V):Bool:=xs.any fun y=>eqV y x
def rIn (K:PySem.W.Frag) (neg:Bool):R2:=fun x y H Q=>∃ p xs,y=.ref p/\(SqL K H p xs∨SqT K H p xs)/\gy x=true/\xs.all gy=true/\Q (.bl (if neg then !inV x xs else inV x xs)) H
def rX:OpR X (compareOp .In) (rIn X.K false):=by
 intro pins s σ H x y v u Q I rx ry h
 obtain ⟨p,xs,rfl,hq,fx,fs,q⟩:=h
 cases ry
 rcases hq with hq | hq
 · obtain ⟨its,r,pl,hz⟩:=I.list hq
   refine SeqAt.in_listAt (eqU x) pl.isList (fun w hw=>fI rx fx r fs w (by simpa using hw)) ⟨.bl _,H,I,rfl,?_⟩
   rw [show its.toArray.any (eqU x)=its.any (eqU x) by simp,hZ r fs]
   exact q
 · obtain ⟨its,r,pl,hz⟩:=I.tuple hq
   refine SeqAt.in_tupleAt (eqU x) pl (fun w hw=>fI rx fx r fs w (by simpa using hw)) ⟨.bl _,H,I,rfl,?_⟩
   rw [show its.toArray.any (eqU x)=its.any (eqU x) by simp,hZ r fs]
   exact q
def lT:OpR X (compareOp .NotIn) (rIn X.K true):=by
 intro pins s σ H x y v u Q I rx ry h
 obtain ⟨p,xs,rfl,hq,fx,fs,q⟩:=h
 cases ry
 rcases hq with hq | hq
 · obtain ⟨its,r,pl,hz⟩:=I.list hq
   refine SeqAt.notIn_listAt (eqU x) pl.isList (fun w hw=>fI rx fx r fs w (by simpa using hw)) ⟨.bl _,H,I,rfl,?_⟩
   rw [show its.toArray.any (eqU x)=its.any (eqU x) by simp,hZ r fs]
   exact q
 · obtain ⟨its,r,pl,hz⟩:=I.tuple hq
   refine SeqAt.notIn_tupleAt (eqU x) pl (fun w hw=>fI rx fx r fs w (by simpa using hw)) ⟨.bl _,H,I,rfl,?_⟩
   rw [show its.toArray.any (eqU x)=its.any (eqU x) by simp,hZ r fs]
   exact q
def lU:OpR X (compareOp .NotIn) (fun x y H Q=>∃ i j,x=.str i/\y=.str j/\Q (.bl (!(!(Builtin.Str.occurrences j i 0 j.length 1).isEmpty))) H):=by
 intro pins s σ H x y v u Q I rx ry h
 obtain ⟨i,j,rfl,rfl,q⟩:=h
 obtain ⟨t,rfl⟩:=rx
 obtain ⟨t',rfl⟩:=ry
 exact notIn_str ⟨.bl _,H,I,rfl,q⟩
def CallR.or {f:Value} {r r':List V->Hp->VK->Prop} (h:CallR X f r) (h':CallR X f r'):CallR X f (fun xs H Q=>r xs H Q∨r' xs H Q):=by
 intro pins s σ H xs us Q I rs q
 rcases q with q | q
 · exact h pins s σ H xs us Q I rs q
 · exact h' pins s σ H xs us Q I rs q
def cV:CallR X (.type "tuple") (fun xs H Q=>∃ p ys,xs=[.ref p]/\((SqL X.K H p ys/\∀ l,H l=none->Q (.ref l) (upd H l (.tup ys)))∨(SqT X.K H p ys/\Q (.ref p) H))):=by
 intro pins s σ H xs us Q I r h
 obtain ⟨p,ys,rfl,h⟩:=h
 obtain ⟨u,rfl,rx⟩:=fu r
 cases rx
 rcases h with ⟨hq,q⟩ | ⟨hq,q⟩
 · obtain ⟨its,r',pl,hz⟩:=I.list hq
   have hlen:=r'.length
   refine call_tuple_list pl.isList (fun h' kp=>?_) (by simp only [List.size_toArray]<;>omega)
   have I1:Inv X pins σ H {s with heap:=h'}:=I.kept (t':=s.toks) kp
   have I2:Inv X pins σ (upd H h'.objs.size (.tup ys)) {s with heap:=h'.push {cls:=.type "tuple",data:=.seq its.toArray}}:=
    I1.laid (t':=s.toks) (fun b o e=>gP _ e) (nL _) (show ObjOk X.prog X.w _ _ _ (.tup ys) from ⟨hz,its,r',IsTup.new _ _⟩)
   exact ⟨.ref h'.objs.size,_,I2,rfl,q _ (I1.hok.fresh (nL _))⟩
 · obtain ⟨its,r',pl,hz⟩:=I.tuple hq
   exact call_tuple_same pl ⟨.ref p,H,I,rfl,q⟩
noncomputable def tyV (K:PySem.W.Frag) (T:String) (x:V) (H:Hp):Prop:=match x with
 | .str _=>T="str"
 | .int _=>T="int"
 | .ref p=>(T="list"/\∃ xs,SqL K H p xs)∨(T="tuple"/\∃ o,K.lookup p=some o/\o.cls=.type "tuple"/\o.dict=none)∨
     (T="dict"/\((∃ kvs,H p=some (.dK kvs))∨∃ kvs,H p=some (.dT kvs)))∨(T="set"/\∃ S n,H p=some (.set S n))
 | _=>False
def zu {pins:List (Addr×Obj)} {σ:St} {H:Hp} {s:Shared} {T:String} {x:V} {v:Value} (I:Inv X pins σ H s) (r:RelV x v) (ty:tyV X.K T x H) :
  s.TypeIs v T/\∀ a,v=.ref a->∃ ob,s.heap.get? a=some ob/\ob.dict=none:=by
 cases x with
 | str z =>
  obtain ⟨t,rfl⟩:=r
  cases (show T="str" from ty)
  exact ⟨typeIs_str s z t,fun _ e=>nomatch e⟩
 | int i =>
  obtain ⟨t,rfl⟩:=r
  cases (show T="int" from ty)
  exact ⟨typeIs_int s i t,fun _ e=>nomatch e⟩
 | ref p =>
  cases r
  rcases ty with ⟨rfl,xs,hq⟩ | ⟨rfl,o,hk,hc,hd⟩ | ⟨rfl,hk⟩ | ⟨rfl,S,n,hk⟩
  · obtain ⟨its,_,pl,_⟩:=I.list hq
    refine ⟨pl.isList.typeIs,fun a e=>?_⟩
    cases e
    obtain ⟨o,n,e,c,hd,_⟩:=pl
    exact ⟨o,e,hd⟩
  · refine ⟨⟨o,I.kIn p o hk,hc⟩,fun a e=>?_⟩
    cases e
    exact ⟨o,I.kIn _ o hk,hd⟩
  · have z:∃ o,s.heap.get? p=some o/\o.ExactDict:=by
     rcases hk with ⟨kvs,hk⟩ | ⟨kvs,hk⟩
     · obtain ⟨_,_,_,_,o,_,_,e,ex,_⟩:=I.hok p _ hk
       exact ⟨o,e,ex⟩
     · obtain ⟨_,_,_,_,o,_,_,e,ex,_⟩:=I.hok p _ hk
       exact ⟨o,e,ex⟩
    obtain ⟨o,e,ex⟩:=z
    refine ⟨⟨o,e,ex.1⟩,fun a e2=>?_⟩
    cases e2
    exact ⟨o,e,ex.2.1⟩
  · obtain ⟨o,_,_,_,e,ex,_⟩:=I.hok p _ hk
    refine ⟨⟨o,e,ex.1⟩,fun a e2=>?_⟩
    cases e2
    exact ⟨o,e,ex.2.1⟩
 | _=>exact False.elim ty
def tBM (K:PySem.W.Frag) (T:String) (r:V->List V->Hp->VK->Prop) (to:TE) (t:TA):TE:=fun σ H Q=>to σ H fun x H1=>tyV K T x H1/\t σ H1 fun xs H2=>r x xs H2 Q
variable {o e:Expr} {es:List Expr} {to:TE} {t:TA} {name:Str} {apos cpos:Pos} {T id:String} {r:V->List V->Hp->VK->Prop}
def tP (pa:PlainAttrs T) (slot:Slot T name id) (hty:typeOf (.builtin id)=pure (.type "method_descriptor")) (hm:MtR X id r) (ho:PE X o to) (ha:PA X (e::es) t)
  (hbase:attributeBase o name X.env (eval o X.env)=eval o X.env:=by rfl)
  (hfew:((backTo cpos (starEach (e::es) X.env)).all (fun x=>!x.1)&&(backToKw cpos (keywordEach [] X.env)).all (fun x=>x.1.isSome)
   && decide ((e::es).length+([]:List Keyword).length+(if ([]:List Keyword).isEmpty then 0 else 1)<30))=true:=by rfl)
  (hline:(apos.endLine==cpos.line)=true:=by rfl) (hs:starEach (e::es) X.env=(false,eval e X.env)::starEach es X.env:=by rfl) (hplain:(backTo cpos (starEach es X.env)).any (·.1)=false:=by rfl) :
  PE X (.Call (.Attribute o name apos) (e::es) [] cpos) (tBM X.K T r to t):=by
 intro pins s σ H Q I h
 refine wpAny_Call_method_late hbase hfew hline rfl (thn (ho pins s σ H _ I h) fun v s1 ⟨x,H1,I1,r1,ty,q1⟩=>?_)
 obtain ⟨h1,h2⟩:=zu I1 r1 ty
 refine ⟨T,id,pa,slot,hty,h1,h2,?_⟩
 have hA:=ha cpos pins s1 σ H1 _ I1 q1
 rw [hs] at hA ⊢
 refine Calls.callWith_builtin (by show (false||(backTo cpos (starEach es X.env)).any (·.1))=false;rw [hplain]<;>rfl) (Calls.evalArgs_plain ?_)
 exact thn hA fun us s2 ⟨vs,H2,I2,r2,q2⟩=>hm pins s2 σ H2 x vs v us Q I2 r1 r2 q2
/- xs.append(e),list.index on a module's tuple .. are MtR facts of 06m -/
end
noncomputable def MtM (X:Cx) (id:String) (r:V->List V->Hp->VK->Prop):Prop:=
 ∀ (pins:List (Addr×Obj)) (s:Shared) (σ:St) (H:Hp) (x:V) (xs:List V) (v:Value) (us:List Value) (Q:VK),Inv X pins σ H s->RelV x v->Vals xs us->r x xs H Q→
  wpAny (model X.prog X.w) X.A (call (.builtin id) (v::us)) (EP X pins σ Q) X.xe s
def Vals.one:∀ {x:V} {us:List Value},Vals [x] us->∃ u,us=[u]/\RelV x u
 | _,_,.cons r .nil=>⟨_,rfl,r⟩
section
variable {X:Cx} {pins:List (Addr×Obj)} {σ:St} {H:Hp} {s:Shared} {l b:Addr} {xs ys zs:List V}
def Inv.lset {its its':List Value} {n:Nat} {f:Array Value->Array Value} {t':Nat} (I:Inv X pins σ H s) (hH:H l=some (.lst xs))
  (e:s.heap.get? l=some {cls:=.type "list",data:=.seq its.toArray n}) (hf:f its.toArray=its'.toArray) (hv:Vals ys its') (hz:ys.length<=sizeLine) :
  Inv X pins σ (upd H l (.lst ys)) {s with heap:=s.heap.update l (Obj.mapSeq f),toks:=t'}:=by
 have q:=PySem.IsL.update e f
 rw [hf] at q
 refine I.write (x:=l) (e:=l) (by rw [hH];exact trivial) (.inl rfl) (fun b' u hb hu=>(Heap.get?_update_other s.heap (Obj.mapSeq f) (Ne.symm hb)).trans hu) ⟨_,q⟩ ?_
 exact ⟨hz,its',_,hv,q⟩
def Inv.lnew {its:List Value} {t':Nat} (I:Inv X pins σ H s) (hv:Vals ys its) (hz:ys.length<=sizeLine) :
  Inv X pins σ (upd H s.heap.objs.size (.lst ys)) {s with heap:=s.heap.push {cls:=.type "list",data:=.seq its.toArray},toks:=t'}:=
 I.laid (fun _ _ q=>gP _ q) (nL _) ⟨hz,its,0,hv,Heap.get?_push_size _ rfl⟩
def Inv.fresh (I:Inv X pins σ H s):H s.heap.objs.size=none:=I.hok.fresh (nL _)
def Inv.lstM (I:Inv X pins σ H s) (hH:H l=some (.lst xs)):xs.length<=sizeLine/\∃ (its:List Value) (n:Nat),Vals xs its/\xs.length=its.length/\s.heap.get? l=some {cls:=.type "list",data:=.seq its.toArray n}:=by
 obtain ⟨z,its,n,r,e⟩:=I.hok l _ hH
 exact ⟨z,its,n,r,r.length,e⟩
end
section
variable {X:Cx}
def wb:V->List V->Hp->VK->Prop:=fun x vs H Q=>∃ l xs y,x=.ref l/\vs=[y]/\H l=some (.lst xs)/\xs.length<sizeLine/\Q .non (upd H l (.lst (xs++[y])))
def f7:MtM X "list.append" wb:=by
 intro pins s σ H x vs v us Q I rx rv h
 obtain ⟨l,xs,y,rfl,rfl,hH,hz,q⟩:=h
 cases rx
 obtain ⟨u,rfl,ru⟩:=rv.one
 obtain ⟨z,its,n,r,hl,e⟩:=I.lstM hH
 refine call_meets F.slot_list_append ⟨_,e,rfl⟩ F.entry_list_append (F.args_list_append_2 _ _) (PySem.list_append l its.toArray n u (by rw [List.size_toArray];omega)) ⟨e,?_⟩
 refine ⟨.non,_,I.lset (its':=its++[u]) hH e (by simp) (r.append (.cons ru .nil)) ?_,rfl,q⟩
 rw [List.length_append,List.length_singleton]
 omega
end
section
variable {prog:Program} {w:World} {A:Around} {E:Value->Shared->Prop} {s:Shared}
end
section
variable {X:Cx}
end
section
variable {κ:Type} [DecidableEq κ]
def eU (kvs:List (κ×V)) (k:κ):Option V:=(kvs.find? fun kv=>decide (kv.1=k)).map (·.2)
def dU (kvs:List (κ×V)) (k:κ) (v:V):List (κ×V):=
 if (kvs.any fun kv=>decide (kv.1=k))=true then kvs.map (fun kv=>if kv.1=k then (kv.1,v) else kv) else kvs++[(k,v)]
def fJ {p:κ×V} {r:List (κ×V)} {k:κ} (e:p.1=k):eU (p::r) k=some p.2:=by simp [eU,List.find?_cons,e]
def ee {p:κ×V} {r:List (κ×V)} {k:κ} (e:¬ p.1=k):eU (p::r) k=eU r k:=by simp [eU,List.find?_cons,e]
def mO (k:κ):∀ kvs:List (κ×V),(kvs.any fun kv=>decide (kv.1=k))=(eU kvs k).isSome
 | []=>rfl
 | p::r=>by
  rw [List.any_cons]
  by_cases e:p.1=k
  · simp only [fJ e,decide_eq_true e,Bool.true_or,Option.isSome_some]
  · rw [ee e,decide_eq_false e,Bool.false_or];exact mO k r
def ja (kvs:List (κ×V)) (k:κ) (v:V):(dU kvs k v).length<=kvs.length+1:=by
 unfold dU
 split
 · rw [List.length_map];omega
 · rw [List.length_append,List.length_cons,List.length_nil];omega
def RelO.isSome_eq {o:Option V} {u:Option Value} (r:RelO o u):o.isSome=u.isSome:=by
 cases o with
 | none=>cases u with
  | none=>rfl
  | some _=>exact (show False from r).elim
 | some _=>cases u with
  | none=>exact (show False from r).elim
  | some _=>rfl
def RelO.getD {o:Option V} {u:Option Value} {d:V} {d':Value} (r:RelO o u) (rd:RelV d d'):RelV (o.getD d) (u.getD d'):=by
 cases o with
 | none=>cases u with
  | none=>exact rd
  | some _=>exact (show False from r).elim
 | some _=>cases u with
  | none=>exact (show False from r).elim
  | some _=>exact r
def KV.val {kvs:List (κ×V)} {vs:List (κ×Value)} (r:KV kvs vs) (k:κ):RelO (eU kvs k) (valueAt vs k):=by
 unfold KV at r
 induction r with
 | nil=>exact True.intro
 | @cons p q ps qs h t ih =>
  obtain ⟨h1,h2⟩:=h
  by_cases e:p.1=k
  · have e':q.1=k:=h1.symm.trans e
    have b:valueAt (q::qs) k=some q.2:=by simp [valueAt,List.find?_cons,e']
    rw [fJ e,b];exact h2
  · have e':¬ q.1=k:=fun z=>e (h1.trans z)
    have b:valueAt (q::qs) k=valueAt qs k:=by simp [valueAt,List.find?_cons,e']
    rw [ee e,b];exact ih
def KV.any {kvs:List (κ×V)} {vs:List (κ×Value)} (r:KV kvs vs) (k:κ):(kvs.any fun kv=>decide (kv.1=k))=vs.any fun kv=>decide (kv.1=k):=by
 unfold KV at r
 induction r with
 | nil=>rfl
 | cons h t ih=>rw [List.any_cons,List.any_cons,ih,h.1]
def KV.repl {kvs:List (κ×V)} {vs:List (κ×Value)} (r:KV kvs vs) (k:κ) {y:V} {u:Value} (ry:RelV y u) :
  KV (kvs.map fun kv=>if kv.1=k then (kv.1,y) else kv) (vs.map fun kv=>if kv.1=k then (kv.1,u) else kv):=by
 unfold KV at r ⊢
 induction r with
 | nil=>exact .nil
 | @cons p q ps qs h t ih =>
  rw [List.map_cons,List.map_cons]
  refine .cons ?_ ih
  obtain ⟨h1,h2⟩:=h
  by_cases e:p.1=k
  · rw [if_pos e,if_pos (h1.symm.trans e)];exact ⟨h1,ry⟩
  · rw [if_neg e,if_neg (fun z=>e (h1.trans z))];exact ⟨h1,h2⟩
def KV.put {kvs:List (κ×V)} {vs:List (κ×Value)} (r:KV kvs vs) (k:κ) {y:V} {u:Value} (ry:RelV y u):KV (dU kvs k y) (stored vs k u):=by
 unfold dU stored
 rw [r.any k]
 by_cases e:(vs.any fun kv=>decide (kv.1=k))=true
 · rw [if_pos e,if_pos e];exact r.repl k ry
 · rw [if_neg e,if_neg e];exact Paired.snoc r ⟨rfl,ry⟩
def KV.length {kvs:List (κ×V)} {vs:List (κ×Value)} (r:KV kvs vs):kvs.length=vs.length:=Paired.length r
end
def mP {P:Program} {w:World} {k:Key} {u:Value} (r:RelV (kV k) u):(bT P w).is k u=true:=by
 cases k with
 | inl i=>obtain ⟨t,e⟩:=(show ∃ t,u=Value.int i t from r);subst e;exact mG P w i t
 | inr x=>obtain ⟨t,e⟩:=(show ∃ t,u=Value.str x t from r);subst e;exact mH P w x t
def kN {P:Program} {w:World}:∀ {ks:List Key} {us:List Value},Vals (ks.map kV) us->ItemsAre (bT P w) ks us
 | [],_,r=>by rw [List.map_nil] at r;cases r;exact .nil
 | k::ks,_,r=>by
  rw [List.map_cons] at r
  cases r with
  | cons h t=>exact .cons (mP h) (kN t)
abbrev KT (H:Hp):List (List Key×V)->List (List Key×Addr×Value)->Prop:=Paired fun p q=>p.1=q.1/\H q.2.1=some (.tup (p.1.map kV))/\RelV p.2 q.2.2
def KT.val {H:Hp} {kvs:List (List Key×V)} {xs:List (List Key×Addr×Value)} (r:KT H kvs xs) (k:List Key):RelO (eU kvs k) ((atKey xs k).map (·.2)):=by
 induction r with
 | nil=>exact True.intro
 | @cons p q ps qs h t ih =>
  obtain ⟨h1,_,h2⟩:=h
  by_cases e:p.1=k
  · have e':q.1=k:=h1.symm.trans e
    have b:atKey (q::qs) k=some q.2:=by simp [atKey,List.find?_cons,e']
    rw [fJ e,b];exact h2
  · have e':¬ q.1=k:=fun z=>e (h1.trans z)
    have b:atKey (q::qs) k=atKey qs k:=by simp [atKey,List.find?_cons,e']
    rw [ee e,b];exact ih
def KT.repl {H:Hp} {kvs:List (List Key×V)} {xs:List (List Key×Addr×Value)} (r:KT H kvs xs) (k:List Key) {y:V} {u:Value} (ry:RelV y u) :
  KT H (kvs.map fun kv=>if kv.1=k then (kv.1,y) else kv) (xs.map (putAt k u)):=by
 induction r with
 | nil=>exact .nil
 | @cons p q ps qs h t ih =>
  rw [List.map_cons,List.map_cons]
  refine .cons ?_ ih
  obtain ⟨h1,h2,h3⟩:=h
  unfold putAt
  by_cases e:p.1=k
  · rw [if_pos e,if_pos (h1.symm.trans e)];exact ⟨h1,h2,ry⟩
  · rw [if_neg e,if_neg (fun z=>e (h1.trans z))];exact ⟨h1,h2,h3⟩
def KT.put {H:Hp} {kvs:List (List Key×V)} {xs:List (List Key×Addr×Value)} (r:KT H kvs xs) (k:List Key) {b:Addr} {y:V} {u:Value} (hb:H b=some (.tup (k.map kV))) (ry:RelV y u) :
  KT H (dU kvs k y) (storedH xs k b u):=by
 have e:(kvs.any fun kv=>decide (kv.1=k))=(atKey xs k).isSome:=by
  rw [mO,(r.val k).isSome_eq,Option.isSome_map]
 unfold dU storedH
 rw [e]
 by_cases q:(atKey xs k).isSome=true
 · rw [if_pos q,if_pos q];exact r.repl k ry
 · rw [if_neg q,if_neg q];exact Paired.snoc r ⟨rfl,hb,ry⟩
def KT.keeps {H H':Hp} {kvs:List (List Key×V)} {xs:List (List Key×Addr×Value)} (r:KT H kvs xs) (ht:∀ b ys,H b=some (.tup ys)->H' b=some (.tup ys)):KT H' kvs xs:=
 Paired.mapP r fun _ _ z=>⟨z.1,ht _ _ z.2.1,z.2.2⟩
section
variable {P:Program} {w:World} {H:Hp} {h:Heap} {a:Addr}
def xX {u:HO} (ok:HOk P w H h) (e:Rd H a u):ObjOk P w H h a u:=e.ok ok
def kO {kvs:List (Key×V)} (ok:HOk P w H h) (e:Rd H a (.dK kvs)):kvs.length<=sizeLine/\(a==sysModules)=false/\∃ vs,KV kvs vs/\h.DictOf (bT P w) a vs:=
 show ObjOk P w H h a (.dK kvs) from xX ok e
def Bm {kvs:List (Key×V)} (ok:HOk P w H h) (e:H a=some (.dK kvs)):kvs.length<=sizeLine/\(a==sysModules)=false/\∃ vs,KV kvs vs/\h.DictOf (bT P w) a vs:=kO ok (.inl e)
def jF {ks:List Key} (ok:HOk P w H h) (e:H a=some (.tup (ks.map kV))):(tupleKind (bT P w)).is h ks a:=by
 obtain ⟨_,its,r,o,h1,h2,n,h3⟩:=(show ObjOk P w H h a (.tup (ks.map kV)) from ok a _ e)
 exact ⟨o,its.toArray,n,h1,h2,h3,by simpa using kN r⟩
def mQ {kvs:List (List Key×V)} (ok:HOk P w H h) (e:Rd H a (.dT kvs)):kvs.length<=sizeLine/\(a==sysModules)=false∧
  ∃ xs,KT H kvs xs/\h.DictOfH (tupleKind (bT P w)) a xs:=by
 obtain ⟨z,y,xs,r,o,es,ep,h1,h2,h3,h4,h5⟩:=(show ObjOk P w H h a (.dT kvs) from xX ok e)
 refine ⟨z,y,xs,r,o,es,ep,h1,h2,h3,h4,fun x hx=>?_,h5⟩
 have all:∀ {l:List (List Key×V)} {m:List (List Key×Addr×Value)},KT H l m->∀ x∈m,(tupleKind (bT P w)).is h x.1 x.2.1:=by
  intro l m q
  induction q with
  | nil=>intro x hx;exact nomatch hx
  | @cons p q ps qs hq t ih =>
   intro x hx
   rcases List.mem_cons.mp hx with e | hx
   · subst e
     exact jF ok (by rw [<- hq.1];exact hq.2.1)
   · exact ih x hx
 exact all r x hx
def Bn {kvs:List (List Key×V)} (ok:HOk P w H h) (e:H a=some (.dT kvs)):kvs.length<=sizeLine/\(a==sysModules)=false∧
  ∃ xs,KT H kvs xs/\h.DictOfH (tupleKind (bT P w)) a xs:=mQ ok (.inl e)
end
def DGet (H:Hp) (a:Addr) (y:V) (r:Option V):Prop:=
 (∃ kvs k,Rd H a (.dK kvs)/\y=kV k/\r=eU kvs k)∨∃ kvs k b,Rd H a (.dT kvs)/\y=.ref b/\H b=some (.tup (k.map kV))/\r=eU kvs k
noncomputable def DPut (H:Hp) (a:Addr) (y v:V) (H':Hp):Prop:=
 (∃ kvs k,H a=some (.dK kvs)/\y=kV k/\kvs.length<sizeLine/\H'=upd H a (.dK (dU kvs k v)))∨
 ∃ kvs k b,H a=some (.dT kvs)/\y=.ref b/\H b=some (.tup (k.map kV))/\kvs.length<sizeLine/\H'=upd H a (.dT (dU kvs k v))
def DGet.k {H:Hp} {a:Addr} {kvs:List (Key×V)} {k:Key} (e:H a=some (.dK kvs)):DGet H a (kV k) (eU kvs k):=.inl ⟨kvs,k,.inl e,rfl,rfl⟩
def DGet.t {H:Hp} {a b:Addr} {kvs:List (List Key×V)} {k:List Key} (e:H a=some (.dT kvs)) (eb:H b=some (.tup (k.map kV))):DGet H a (.ref b) (eU kvs k):=.inr ⟨kvs,k,b,.inl e,rfl,eb,rfl⟩
def DPut.k {H:Hp} {a:Addr} {kvs:List (Key×V)} {k:Key} {v:V} (e:H a=some (.dK kvs)) (hl:kvs.length<sizeLine):DPut H a (kV k) v (upd H a (.dK (dU kvs k v))):=.inl ⟨kvs,k,e,rfl,hl,rfl⟩
def DPut.t {H:Hp} {a b:Addr} {kvs:List (List Key×V)} {k:List Key} {v:V} (e:H a=some (.dT kvs)) (eb:H b=some (.tup (k.map kV))) (hl:kvs.length<sizeLine) :
  DPut H a (.ref b) v (upd H a (.dT (dU kvs k v))):=.inr ⟨kvs,k,b,e,rfl,eb,hl,rfl⟩
section
variable {X:Cx} {pins:List (Addr×Obj)} {σ:St} {H:Hp} {s:Shared} {a:Addr} {y v:V} {u r:Value} {o:Option V} {A:Around} {E:Value->Shared->Prop}
def Inv.big (I:Inv X pins σ H s):sysModules<s.heap.objs.size:=by
 have h:mainGlobals<s.heap.objs.size:=(I.mod.glob.keeps I.bk).lt
 exact Nat.lt_trans (by decide) h
def rY {Q:Value->Shared->Prop} (hu:A.units+1<cLine) (I:Inv X pins σ H s) (g:DGet H a y (some v)) (ry:RelV y u) (h:∀ w' s',Inv X pins σ H s'->RelV v w'->Q w' s') :
  wpAny (model X.prog X.w) A (getItem (.ref a) u) Q E s:=by
 rcases g with ⟨kvs,k,e,ey,l⟩ | ⟨kvs,k,b,e,ey,eb,l⟩
 · subst ey
   obtain ⟨z,hd,vs,rel,dd⟩:=kO I.hok e
   obtain ⟨w',hw,rw'⟩:=RelO.some_of (v:=v) (o:=valueAt vs k) (by rw [l];exact rel.val k)
   exact wpAny_getItem_of (mP ry) dd.mapOf hw (h w' _ (I.tok _) rw')
 · subst ey
   cases (show u=Value.ref b from ry)
   obtain ⟨z,hd,xs,rel,dd⟩:=mQ I.hok e
   obtain ⟨w',hw,rw'⟩:=RelO.some_of (v:=v) (o:=(atKey xs k).map (·.2)) (by rw [l];exact rel.val k)
   obtain ⟨p,hp,hp2⟩:=mS hw
   refine wpAny_getItem_heap (tupleKind_room_in1 hu) (jF I.hok eb) dd hp ?_
   rw [hp2]
   exact h w' _ (I.tok _) rw'
def d_in {Q:Value->Shared->Prop} (hu:A.units+1<cLine) (I:Inv X pins σ H s) (g:DGet H a y o) (ry:RelV y u) (h:∀ s',Inv X pins σ H s'->Q (.bool o.isSome) s') :
  wpAny (model X.prog X.w) A (compareOp .In u (.ref a)) Q E s:=by
 rcases g with ⟨kvs,k,e,ey,l⟩ | ⟨kvs,k,b,e,ey,eb,l⟩
 · subst ey
   obtain ⟨z,hd,vs,rel,dd⟩:=kO I.hok e
   refine wpAny_in_of (mP ry) hd dd.mapOf ?_
   rw [<- (rel.val k).isSome_eq,<- l]
   exact h _ (I.tok _)
 · subst ey
   cases (show u=Value.ref b from ry)
   obtain ⟨z,hd,xs,rel,dd⟩:=mQ I.hok e
   refine wpAny_in_heap (tupleKind_room_in1 hu) (jF I.hok eb) hd dd ?_
   have q:=(rel.val k).isSome_eq
   rw [Option.isSome_map] at q
   rw [<- q,<- l]
   exact h _ (I.tok _)
def wc {Q:Value->Shared->Prop} (hu:A.units+1<cLine) (I:Inv X pins σ H s) (g:DGet H a y o) (ry:RelV y u) (h:∀ s',Inv X pins σ H s'->Q (.bool (!o.isSome)) s') :
  wpAny (model X.prog X.w) A (compareOp .NotIn u (.ref a)) Q E s:=by
 rcases g with ⟨kvs,k,e,ey,l⟩ | ⟨kvs,k,b,e,ey,eb,l⟩
 · subst ey
   obtain ⟨z,hd,vs,rel,dd⟩:=kO I.hok e
   refine wpAny_notIn_of (mP ry) hd dd.mapOf ?_
   rw [<- (rel.val k).isSome_eq,<- l]
   exact h _ (I.tok _)
 · subst ey
   cases (show u=Value.ref b from ry)
   obtain ⟨z,hd,xs,rel,dd⟩:=mQ I.hok e
   refine wpAny_notIn_heap (tupleKind_room_in1 hu) (jF I.hok eb) hd dd ?_
   have q:=(rel.val k).isSome_eq
   rw [Option.isSome_map] at q
   rw [<- q,<- l]
   exact h _ (I.tok _)
def qm {h':Heap} {t':Nat} {ob:HO} (I:Inv X pins σ H s) (mu:Mut (H a)) (hs:Heap.SameBut a s.heap h') (he:∃ q,h'.get? a=some q) (new:ObjOk X.prog X.w (upd H a ob) h' a ob) :
  Inv X pins σ (upd H a ob) {s with heap:=h',toks:=t'}:=
 I.write (x:=a) (e:=a) mu (.inl rfl) (fun b q hb z=>(hs.2 b hb).trans z) he new
def zw {P:Program} {w:World} {H':Hp} {h':Heap} {kvs:List (Key×V)} {vs:List (Key×Value)} (z:kvs.length<=sizeLine) (hd:(a==sysModules)=false) (rel:KV kvs vs) (dd:h'.DictOf (bT P w) a vs) :
  ObjOk P w H' h' a (.dK kvs):=⟨z,hd,vs,rel,dd⟩
def rZ {H':Hp} {Q:Unit->Shared->Prop} (hu:A.units+1<cLine) (I:Inv X pins σ H s) (g:DPut H a y v H') (ry:RelV y u) (rv:RelV v r) (h:∀ s',Inv X pins σ H' s'->Q () s') :
  wpAny (model X.prog X.w) A (setItem (.ref a) u r) Q E s:=by
 rcases g with ⟨kvs,k,e,ey,l,eH⟩ | ⟨kvs,k,b,e,ey,eb,l,eH⟩
 · subst ey eH
   obtain ⟨z,hd,vs,rel,dd⟩:=Bm I.hok e
   have hz:vs.length<=sizeLine:=by rw [<- rel.length];exact z
   have hl:(dU kvs k v).length<=sizeLine:=by have:=ja kvs k v;omega
   refine wpAny_setItem_pairs (hsz:=hz) (mP ry) dd fun h' dd' hs=>h _ ?_
   have he:∃ q,h'.get? a=some q:=let ⟨q,_,_,hq,_⟩:=dd';⟨q,hq⟩
   exact qm I (by rw [e];exact True.intro) hs he (zw hl hd (rel.put k rv) dd')
 · subst ey eH
   cases (show u=Value.ref b from ry)
   obtain ⟨z,hd,xs,rel,dd⟩:=Bn I.hok e
   have hz:xs.length<=sizeLine:=by rw [<- Paired.length rel];exact z
   have hl:(dU kvs k v).length<=sizeLine:=by have:=ja kvs k v;omega
   refine wpAny_setItem_heap (hsz:=hz) (tupleKind_room_in1 hu) (jF I.hok eb) dd fun h' dd' hs=>h _ ?_
   obtain ⟨q,es,ep,hq,h2,h3,h4,_,h5⟩:=dd'
   refine qm I (by rw [e];exact True.intro) hs ⟨q,hq⟩ ⟨hl,hd,_,(rel.put k eb rv).keeps fun c ys ec=>?_,q,es,ep,hq,h2,h3,h4,h5⟩
   rw [ax (A4 ec e (fun z=>nomatch z))]
   exact ec
end
section
variable {X:Cx} {pins:List (Addr×Obj)} {σ:St} {H:Hp} {s:Shared} {a:Addr} {kvs:List (Key×V)} {k:Key} {u:Value} {A:Around} {E:Value->Shared->Prop}
end
def tQ (i:Expr):Prop:=∀ ov iv,subscripted i false ov iv=operate [ov,iv] (getItem ov iv)
def we {prog:Program} {w:World} {A:Around} {E:Value->Shared->Prop} {s:Shared} {env:Env} {value slice:Expr} {pos:Pos} {T id:String} {Q:Value->Shared->Prop}
  (hl:typeLookup (.type T) "__getitem__"=pure (some (.builtin id))) (hs:tQ slice)
  (h:wpAny (model prog w) A (eval value env) (fun o s₁=>wpAny (model prog w) A (eval slice env) (fun i s₂=>s₂.TypeIs o T/\wpAny (model prog w) A (getItem o i) Q E s₂) E s₁) E s) :
  wpAny (model prog w) A (eval (.Subscript value slice pos) env) Q E s:=by
 refine Subscript_ (wpAny_mono h (fun o s₁ h₁=>wpAny_mono h₁ (fun i s₂ h₂=>?_) fun _ _ x=>x) fun _ _ x=>x)
 obtain ⟨hT,h₂⟩:=h₂
 unfold subscriptTail
 refine wB ?_
 rw [getitemInPython_of_ne hT.not_modules]
 refine wB (wpAny_specialOf hT hl ?_)
 have fin:wpAny (model prog w) A (subscripted slice false o i) (fun r s₃=>wpAny (model prog w) A (letTemporaryGo value o r >>= fun _=>pure r) Q E s₃) E s₂:=by
  rw [hs o i]
  exact wpAny_operating (wpAny_mono h₂ (fun r s₃ h₃=>wB (wpAny_letTemporaryGo (wpAny_pure h₃))) fun _ _ x=>x)
 first
  | exact wpAny_pure (wB fin)
  | exact wB (wpAny_pure (wB fin))
  | exact wB fin
def mR {X:Cx} {pins:List (Addr×Obj)} {σ:St} {H:Hp} {s:Shared} {a:Addr} {y:V} {o:Option V} (I:Inv X pins σ H s) (g:DGet H a y o):s.TypeIs (.ref a) "dict":=by
 rcases g with ⟨kvs,k,e,_,_⟩ | ⟨kvs,k,b,e,_,_,_⟩
 · obtain ⟨_,_,vs,_,dd⟩:=kO I.hok e
   exact dd.typeIs
 · obtain ⟨_,_,xs,_,dd⟩:=mQ I.hok e
   exact dd.typeIs
def Bo (td ty:TE):TE:=fun σ H Q=>td σ H fun x H1=>ty σ H1 fun y H2=>∃ a v,x=.ref a/\DGet H2 a y (some v)/\Q v H2
def tDIn (ty td:TE):TE:=fun σ H Q=>ty σ H fun y H1=>td σ H1 fun x H2=>∃ a o,x=.ref a/\DGet H2 a y o/\Q (.bl o.isSome) H2
def qo (ty td:TE):TE:=fun σ H Q=>ty σ H fun y H1=>td σ H1 fun x H2=>∃ a o,x=.ref a/\DGet H2 a y o/\Q (.bl (!o.isSome)) H2
def Bp (td ty tv:TE):TS:=fun D σ H=>tv σ H fun v H1=>td σ H1 fun x H2=>ty σ H2 fun y H3=>∃ a H4,x=.ref a/\DPut H3 a y v H4/\D.nx σ H4
section
variable {X:Cx} {o i e value:Expr} {pos pos' tpos:Pos} {td ty tv:TE}
def lV (hu:X.A.units+1<cLine) (ho:PE X o td) (hi:PE X i ty) (hs:tQ i):PE X (.Subscript o i pos) (Bo td ty):=by
 intro pins s σ H Q I h
 refine we PySem.F.slot_dict_getitem.lookup hs (thn (ho pins s σ H _ I h) fun u s1 ⟨x,H1,I1,rx,q1⟩=>thn (hi pins s1 σ H1 _ I1 q1) fun iv s2 ⟨y,H2,I2,ry,a,v,ex,g,q2⟩=>?_)
 subst ex
 obtain rfl:u=Value.ref a:=rx
 exact ⟨mR I2 g,rY hu I2 g ry fun w' s3 I3 rw'=>⟨v,H2,I3,rw',q2⟩⟩
def zy (hu:X.A.units+1<cLine) (hi:PE X i ty) (ho:PE X o td):PC X .In i o (tDIn ty td):=by
 intro pins s σ H Q I h
 refine thn (hi pins s σ H _ I h) fun iv s1 ⟨y,H1,I1,ry,q1⟩=>thn (ho pins s1 σ H1 _ I1 q1) fun u s2 ⟨x,H2,I2,rx,a,ov,ex,g,q2⟩=>?_
 subst ex
 obtain rfl:u=Value.ref a:=rx
 exact d_in hu I2 g ry fun s3 I3=>⟨.bl ov.isSome,H2,I3,rfl,q2⟩
def kP (hu:X.A.units+1<cLine) (hi:PE X i ty) (ho:PE X o td):PC X .NotIn i o (qo ty td):=by
 intro pins s σ H Q I h
 refine thn (hi pins s σ H _ I h) fun iv s1 ⟨y,H1,I1,ry,q1⟩=>thn (ho pins s1 σ H1 _ I1 q1) fun u s2 ⟨x,H2,I2,rx,a,ov,ex,g,q2⟩=>?_
 subst ex
 obtain rfl:u=Value.ref a:=rx
 exact wc hu I2 g ry fun s3 I3=>⟨.bl (!ov.isSome),H2,I3,rfl,q2⟩
def wf (hu:X.A.units+1<cLine) (ho:PE X o td) (hi:PE X i ty) (hv:PE X value tv) (hs:swapsWith value (some (.Subscript o i pos')) pos.line X.env=pure false) :
  PS X (.Assign [.Subscript o i pos'] value pos) (Bp td ty tv):=by
 intro pins s σ H D I h
 refine wpAny_Assign_Subscript (thn (hv pins s σ H _ I h) fun r s1 ⟨v,H1,I1,rv,q1⟩=>thn (ho pins s1 σ H1 _ I1 q1) fun u s2 ⟨x,H2,I2,rx,q2⟩=>thn (hi pins s2 σ H2 _ I2 q2) fun iv s3 ⟨y,H3,I3,ry,a,H4,ex,g,q3⟩=>?_) hs
 subst ex
 obtain rfl:u=Value.ref a:=rx
 exact rZ hu I3 g ry rv fun s4 I4=>⟨σ,H4,I4,q3⟩
end
def tR {P:Program} {w:World} {H:Hp} (h:Heap) (hb:sysModules<h.objs.size):ObjOk P w H (h.push {cls:=.type "dict",data:=.dict #[]}) h.objs.size (.dT []):=
 ⟨Nat.zero_le _,beq_eq_false_iff_ne.mpr (Ne.symm (Nat.ne_of_lt hb)),[],.nil,_,#[],0,Heap.get?_push_size _ rfl,⟨rfl,rfl,rfl⟩,rfl,rfl,List.nodup_nil⟩
def zA:TE:=fun _ H Q=>∀ p,H p=none->Q (.ref p) (upd H p (.dT []))
section
variable {X:Cx} {pos:Pos}
def tT:PE X (.Dict [] [] pos) zA:=fun pins s σ H Q I h =>
 wpAny_Dict_empty ⟨.ref s.heap.objs.size,_,I.laid (a:=s.heap.objs.size) (o:=.dT []) (t':=s.toks) (fun _ _ q=>gP _ q) (nL _) (tR s.heap I.big),rfl,h _ (I.hok.fresh (nL _))⟩
end
section
variable {X:Cx} {pins:List (Addr×Obj)} {σ:St} {H:Hp} {s:Shared} {a:Addr} {y d:V} {u r:Value} {o:Option V} {A:Around} {E:Value->Shared->Prop}
end
section
variable {X:Cx} {o e f:Expr} {apos cpos:Pos} {td ty tx:TE}
end
section
variable {X:Cx} {pins:List (Addr×Obj)} {σ:St} {H:Hp} {s:Shared} {a:Addr} {kvs:List (Key×V)} {A:Around} {E:Value->Shared->Prop}
end
section
variable {X:Cx} {pins:List (Addr×Obj)} {σ:St} {H:Hp} {s:Shared} {a:Addr} {y:V} {u:Value} {A:Around} {E:Value->Shared->Prop}
end
end L2
namespace Att
open PySem PySem.W PySem.Calls PyProof.Rows
def jj {P:Params} {h:Heap}:∀ (ns:List Int) (vs:List Value),WellAll P h vs (ns.map WData.int)->IntsAre vs ns:=by
 intro ns
 induction ns with
 | nil =>
  intro vs w
  rw [List.map_nil] at w
  cases w
  exact .nil
 | cons n ns ih =>
  intro vs w
  rw [List.map_cons] at w
  cases w with
  | cons a b =>
   cases a
   exact .cons _ _ (ih _ b)
def r0 {l:OpenLaw} {n:Nat} (hn:l.most=some n) {P:Params} {h:Heap} {args:List WData} {vals:List Value}
  (hpre:l.row.toRowW.claim.pre args=true) (hwl:WellAll P h vals args) :
  ∃ a vs ns,vals=[Value.ref a]/\args=[WData.list (ns.map WData.int)]/\h.get? a=some {cls:=.type "list",data:=.seq vs.toArray}/\IntsAre vs ns/\ns.length<=n:=by
 have hsh:WShape.hasAll [] args [.list .int]=true:=(pre_splitW hpre).1
 have hc:l.pre.holds [] {args:=args}=true:=(pre_splitW hpre).2
 obtain ⟨d,r,rfl,h1,h2⟩:=hasAllW_cons hsh
 obtain rfl:=hasAllW_nil h2
 obtain ⟨xs,rfl,h3⟩:=hasW_list h1
 obtain ⟨ns,rfl⟩:=items_int h3
 have hlen:ns.length<=n:=by
  unfold OpenLaw.pre at hc
  have h4:(WTm.not (.lt (.lit (.int (n:Int))) (.len (.arg 0)))).holds [] {args:=[.list (ns.map .int)]}=true:=by
   have h4:=(holds_andW hc).1
   rw [hn] at h4
   exact h4
  have h5:=condW_of h4 (w_not (w_lt w_lit (w_len_list (w_arg rfl))))
  rw [List.length_map] at h5
  refine Nat.le_of_not_lt fun q=>?_
  have q':(n:Int)<((ns.length:Nat):Int):=by omega
  first
   | (rw [decide_eq_true q'] at h5;exact absurd h5 (by decide))
   | (simp at h5;omega)
 cases hwl with
 | cons w1 w2 =>
  cases w2
  cases w1 with
  | list ho hall=>exact ⟨_,_,ns,rfl,rfl,ho,jj ns _ hall,hlen⟩
def r6 (l:OpenLaw) (args:List WData):l.row.toRowW.claim.post args (.bool true) args=true:=
 postW_of (r:=l.row.toRowW) (X:=(true==true))
  (show WShape.has [] (.bool true) .bool=true by first | rfl | decide | simp [WShape.has,WShape.arms,WShape.armsAll])
  (show (WTm.eq .res (.lit (.bool true))).value [] {args:=args,res:=some (.bool true),after:=args}=some (.bool (true==true)) from w_eq_bool (w_res rfl) w_lit) rfl
def xY {l:OpenLaw} {n:Nat} {q:Program} {loose:List Str} {XP:(Str->Option Value)->Heap->Prop} {YP:World->Heap->Prop} {d:DefRec}
  (hn:l.most=some n) (hdf:d.params.defaults=[])
  (call:∀ (w:World) (s₀ s₁:Shared) (mg mb:Str->Option Value) (fa:Addr) (o:Obj) (pm cd doc:Value) (a:Addr) (vs:List Value) (ns:List Int),
   Ground q loose [] XP w s₀ mg mb s₁.heap->YP w s₁.heap→
   s₁.heap.get? fa=some o->o.data=.func (docDef d.name d.params d.body d.scope pm cd doc)->s₁.heap.CodeRec cd d.name->mg d.name=some (.ref fa)→
   s₁.heap.get? a=some {cls:=.type "list",data:=.seq vs.toArray}->IntsAre vs ns->ns.length<=n->s₁.gens=#[]→
   codeAny (model l.prog w) callerA (.call (.ref fa) ⟨[.ref a],[]⟩) (fun r s'=>r=.ok (.ret (.bool true))/\OldK s₁.heap s'.heap/\s'.os=s₁.os/\AllBare s'.gens) s₁) :
  WalkO q loose XP YP l.row.toRowW d [] (fun f vs=>PySem.call f vs):=by
 intro w s₀ s₁ mg mb G Y fa o pm cd doc dV kV ho hd hcd hD hmg hg args vals as hpre hlay hrd hwl hlo
 obtain rfl:dV=.none:=Dflts.none hD hdf
 obtain rfl:kV=.none:=Dflts.noKw hD
 obtain ⟨a,vs,ns,rfl,rfl,hobj,hints,hlen⟩:=r0 hn hpre hwl
 refine enter_call (codeAny_mono (call w s₀ s₁ mg mb fa o pm cd doc a vs ns G Y ho (fd_plain hd) hcd hmg hobj hints hlen hg) fun r s' hq=>?_)
 obtain ⟨rfl,h2,h3,h4⟩:=hq
 exact ⟨.inl ⟨.bool true,.bool true,[],rfl,fun _=>rfl,.bool true,r6 l _,fun _=>⟨List.Pairwise.nil,fun _ hm=>(nomatch hm)⟩⟩,h2,h3,h4⟩
section
variable {prog:Program} {w:World} {A:Around} {E:Value->Shared->Prop} {s:Shared} {K:Frag}
end
end Att
namespace L2
open PySem PySem.Spec PyProof.Rows
def kQ:∀ {vs:List Value} {ns:List Int},IntsAre vs ns->Vals (ns.map V.int) vs
 | _,_,.nil=>.nil
 | _,_,.cons n t h=>.cons ⟨t,rfl⟩ (kQ h)
end L2
/- THE LAST THEOREM (shape;LID,My.* are yours):
   My.Adr: a structure of the addresses that your layer names (classes,functions);My.Txt K t: a structure (Prop) of the equations over K;
   My.txt_mk:{K} {implicit addresses ..} (e1:nsIn K mainGlobals "law"=some (some (.ref f))) (e2:K.lookup f=some ⟨oc,od,.func (fnOf "law" "law" params body scope dV kV doc pm an cdv ct),sl⟩) (e3:codeIn K cdv "law"=true) ..:∃ t,My.Txt K t
(the tactic k_is has no namespace: write k_is) -/
namespace L2
open PySem PySem.Spec PyProof.Rows
def bA (s:Stmt):Arguments:=match s with
 | .FunctionDef _ a _ _ _ _ _ _ _ _=>a
 | _=>{posonlyargs:=[],args:=[],vararg:=none,kwonlyargs:=[],kw_defaults:=[],kwarg:=none,defaults:=[]}
def aM (s:Stmt):List Stmt:=match s with
 | .FunctionDef _ _ b _ _ _ _ _ _ _=>b
 | _=>[]
def ab (s:Stmt):Scope:=match s with
 | .FunctionDef _ _ _ _ _ _ sc _ _ _=>sc
 | _=>{kind:=.function,names:=[],isGenerator:=false,isCoroutine:=false}
abbrev CX0:CXT:=fun _ _ _ _ _ _=>False
abbrev E0:XK:=fun _ _ _=>False
def Bq {X:Cx}:oW CX0 X E0:=fun _ _ _ _ _ _ _ h=>h.elim
structure Fun (K:PySem.W.Frag) (x qual:Str) (st:Stmt) (f:Addr) (fd:FuncData):Prop where
 ex:∃ (oc:Value) (od:Option Addr) (kV doc pm:Value) (an:Option Addr) (cdv ct:Value) (osl:Array (Option Value)),
  fd=PySem.W.fnOf x qual (bA st) (aM st) (ab st) .none kV doc pm an cdv ct/\K.lookup f=some ⟨oc,od,.func fd,osl⟩/\PySem.W.codeIn K cdv qual=true
 kp:PySem.W.keepIn K (.ref f)=true
section
variable {P:Program} {w:World} {K:PySem.W.Frag} {mg:Str->Option Value} {base:Heap}
def Fun.ok {x qual:Str} {st:Stmt} {f:Addr} {fd:FuncData} {N ps:List Str} {k:Nat} {sp:Sp} (F:Fun K x qual st f fd) (S:FnScope N ps (ab st)) (len:∀ vs H Q E,sp vs H Q E->vs.length=ps.length)
  (hbody:∀ (cdv:Value) (A:Around) (outer:List Env) (s:Shared) (H:Hp) (vs:List V) (Q:VK) (E:XK),Room k (A.deeper (envOfC qual (ab st) s.heap.objs.size f cdv))->sp vs H Q E→
   ∃ t,PSs (ji CX0 P w K mg base N qual (ab st) f cdv A outer s H E).nox (aM st) t/\t {nx:=fun _ H'=>Q .non H',rt:=Q} (start N vs) H):FnOk P w K mg base CX0 (k+1) f fd ps sp:=by
 obtain ⟨oc,od,kV,doc,pm,an,cdv,ct,osl,rfl,lk,hcd⟩:=F.ex
 refine xU lk hcd S len fun A outer s H vs Q E hr hsp=>?_
 obtain ⟨t,h,q⟩:=hbody cdv A outer s H vs Q E hr hsp
 exact ⟨t,h.nox,q⟩
def Fun.binds {x qual:Str} {st:Stmt} {f:Addr} {fd:FuncData} {ps:List Str} (F:Fun K x qual st f fd)
  (h:∀ (kV doc pm:Value) (an:Option Addr) (cdv ct:Value) (us:List Value),us.length=ps.length->bindArgs (PySem.W.fnOf x qual (bA st) (aM st) (ab st) .none kV doc pm an cdv ct) ⟨us,[]⟩=pure (ps.zip us)):Binds K fd ps []:=by
 obtain ⟨oc,od,kV,doc,pm,an,cdv,ct,osl,rfl,lk,hcd⟩:=F.ex
 exact .all (h kV doc pm an cdv ct)
def lW {x qual:Str} {st:Stmt} {f:Addr} {oc:Value} {od an:Option Addr} {osl:Array (Option Value)} {kV doc pm cdv ct:Value} (l:K.lookup f=some ⟨oc,od,.func (PySem.W.fnOf x qual (bA st) (aM st) (ab st) .none kV doc pm an cdv ct),osl⟩)
  (c:PySem.W.codeIn K cdv qual=true) (k:PySem.W.keepIn K (.ref f)=true):Fun K x qual st f (PySem.W.fnOf x qual (bA st) (aM st) (ab st) .none kV doc pm an cdv ct):=⟨⟨oc,od,kV,doc,pm,an,cdv,ct,osl,rfl,l,c⟩,k⟩
end
def jG {A:Around} {k:Nat} (hr:Room k A):A.units+1<cLine:=Nat.lt_of_le_of_lt (Nat.add_le_add_left (by decide:1<=64) _) hr.units
section
variable {X:Cx}
end
def Same (H H':Hp):Prop:=∀ b o,H b=some o->H' b=some o
def Same.refl (H:Hp):Same H H:=fun _ _ h=>h
def Same.trans {H H1 H2:Hp} (a:Same H H1) (b:Same H1 H2):Same H H2:=fun c o h=>b c o (a c o h)
def Same.free {H H':Hp} (e:Same H H') {l:Addr} (h:H' l=Option.none):H l=Option.none:=by
 cases q:H l with
 | none=>rfl
 | some o =>
  rw [e l o q] at h
  cases h
def Same.seq {K:PySem.W.Frag} {H H':Hp} {a:Addr} {xs:List V} (e:Same H H') (h:SqL K H a xs):SqL K H' a xs:=by
 rcases h with (h | ⟨o,h⟩) | h
 · exact .inl (.inl (e _ _ h))
 · exact .inl (.inr ⟨o,e _ _ h⟩)
 · exact .inr h
section
variable {κ:Type} [DecidableEq κ]
end
set_option maxRecDepth 100000
set_option maxHeartbeats 4000000
def cW:∀ (names:List (Str×NameKind)) (n:Nat) (acc:List (Str×Addr)),cellsFrom n names acc=cellsFrom n names []++acc
 | [],_,_=>rfl
 | (x,k)::r,n,acc=>by
  unfold cellsFrom
  split
  · rw [cW r (n+1) ((x,n)::acc),cW r (n+1) [(x,n)],List.append_assoc]
    rfl
  · exact cW r n acc
def cL {α:Type} {x:Str}:∀ {l m:List (Str×α)},(l++m).lookup x=(l.lookup x).or (m.lookup x)
 | [],m=>by simp
 | (k,v)::l,m=>by
  rw [List.cons_append,List.lookup_cons,List.lookup_cons]
  cases x==k with
  | true=>rfl
  | false=>exact cL
section
variable {M:Model} {A:Around} {E:Value->Shared->Prop} {s₀ s:Shared} {m cm:Str->Option Value} {env:Env} {cs:List (Str×Addr)}
def stLX {n:Str} {v:Value} {Q:Unit->Shared->Prop} (x:InCallC s₀ env.locals m cs cm s) (hk:env.scope.kind=.function) (hl:env.kindOf n=some .local)
  (h:∀ s',InCallC s₀ env.locals (fun y=>if y=n then some v else m y) cs cm s'->Q () s'):wpAny M A (storeName env n v) Q E s:=by
 refine wpAny_storeName_local hl x.toInCall.ns (fun h' hn' hs'=>h _ ⟨⟨?_,hn',fun b o e=>?_,x.toInCall.fresh⟩,fun k c hc=>?_,x.apart,x.above⟩) (by rw [hk];rfl)
 · obtain ⟨h₁,tk,rfl⟩:=x.toInCall.same
   exact ⟨h',_,rfl⟩
 · exact hs'.extBut b o (Nat.ne_of_lt (Nat.lt_of_lt_of_le (Heap.lt_size e) x.toInCall.fresh)) (x.toInCall.keep b o e)
 · exact (x.cell k c hc).sameBut hs' (Nat.ne_of_gt (x.above k c (PySem.mem_of_lookup hc)))
def stCX {n:Str} {c:Addr} {v:Value} {Q:Unit->Shared->Prop} (x:InCallC s₀ env.locals m cs cm s) (hk:env.scope.kind=.function) (hl:env.kindOf n=some .cell)
  (hc:cs.lookup n=some c) (hce:env.cells.lookup n=some c)
  (h:∀ s',InCallC s₀ env.locals m cs (fun y=>if y=n then some v else cm y) s'->Q () s'):wpAny M A (storeName env n v) Q E s:=by
 have hLc:=x.above n c (PySem.mem_of_lookup hc)
 refine wpAny_storeName_cell hk hl hce (x.cell n c hc) fun h' hc' hs'=>h _ ⟨⟨?_,x.toInCall.ns.sameBut hs' (Nat.ne_of_lt hLc),fun b o e=>?_,x.toInCall.fresh⟩,fun k c' hk'=>?_,x.apart,x.above⟩
 · obtain ⟨h₁,tk,rfl⟩:=x.toInCall.same
   exact ⟨h',_,rfl⟩
 · exact hs'.extBut b o (Nat.ne_of_lt (Nat.lt_trans (Nat.lt_of_lt_of_le (Heap.lt_size e) x.toInCall.fresh) hLc)) (x.toInCall.keep b o e)
 · by_cases hkn:k=n
   · subst hkn
     rw [hc] at hk';cases hk'
     simpa using hc'
   · rw [if_neg hkn]
     exact (x.cell k c' hk').sameBut hs' fun e=>hkn (name_of_addr x.apart (PySem.mem_of_lookup hk') (e▸PySem.mem_of_lookup hc))
def fK (f:Str×Value->PUnit->Sem (ForInStep PUnit)) (hf:∀ n v u,f (n,v) u=(do storeName env n v;pure (.yield ⟨⟩))) (hk:env.scope.kind=.function) (hcs:∀ n c,cs.lookup n=some c->env.cells.lookup n=some c) :
  ∀ (binds:List (Str×Value)) (m cm:Str->Option Value) (s:Shared) (Q:PUnit->Shared->Prop),InCallC s₀ env.locals m cs cm s→
   (∀ x∈binds,env.kindOf x.1=some .local∨(env.kindOf x.1=some .cell/\(cs.lookup x.1).isSome=true))→
   (∀ s',InCallC s₀ env.locals (bindL env.kindOf binds m) cs (bindC env.kindOf binds cm) s'->Q ⟨⟩ s')->wpAny M A (forIn binds ⟨⟩ f) Q E s
 | [],m,cm,s,Q,x,_,h=>by rw [List.forIn_nil];exact wpAny_pure (h s x)
 | (n,v)::r,m,cm,s,Q,x,hkind,h=>by
  rw [List.forIn_cons,hf]
  have hr:∀ y∈r,env.kindOf y.1=some .local∨(env.kindOf y.1=some .cell/\(cs.lookup y.1).isSome=true):=fun y hy=>hkind y (List.mem_cons_of_mem _ hy)
  rcases hkind (n,v) List.mem_cons_self with hl | ⟨hl,hc⟩
  · refine wB (wB (stLX x hk hl fun s' x'=>wpAny_pure (fK f hf hk hcs r _ _ s' Q x' hr fun s'' x''=>h s'' ?_)))
    unfold bindL bindC;rw [if_pos hl,if_pos hl];exact x''
  · obtain ⟨c,hc⟩:=Option.isSome_iff_exists.mp hc
    have hnl:¬ env.kindOf n=some .local:=by rw [hl];decide
    refine wB (wB (stCX x hk hl hc (hcs n c hc) fun s' x'=>wpAny_pure (fK f hf hk hcs r _ _ s' Q x' hr fun s'' x''=>h s'' ?_)))
    unfold bindL bindC;rw [if_neg hnl,if_neg hnl];exact x''
end
def wg {M:Model} {A:Around} {E:Value->Shared->Prop} {s:Shared} {scope:Scope} {globals:Addr} {cl:List (Str×Addr)} {binds:List (Str×Value)} {qual:Str} {func:Option Addr} {code:Value} {builtins:Addr} {Q:Env->Shared->Prop}
  (hk:scope.kind=.function)
  (hkind:∀ x∈binds,scope.names.lookup x.1=some .local∨(scope.names.lookup x.1=some .cell/\((cellsFrom (s.heap.objs.size+1) scope.names []).lookup x.1).isSome=true))
  (hQ:∀ env,env=newEnv scope s.heap.objs.size globals (cellsFrom (s.heap.objs.size+1) scope.names []++cl) qual func code none builtins→
   ∀ s',InCallC s env.locals (bindL env.kindOf binds fun _=>none) (cellsFrom (s.heap.objs.size+1) scope.names []) (bindC env.kindOf binds fun _=>none) s'->Q env s') :
  wpAny M A (newFunctionEnv scope globals cl binds qual func code none builtins) Q E s:=by
 simp only [newFunctionEnv,Option.isSome_none,Bool.false_eq_true,if_false]
 refine wB (wpAny_alloc ?_)
 refine wpAny_bind (wpAny_layCells _ (fun name kind cells=>by cases hkc:kind==NameKind.cell<;>simp [hkc]) _ _ _ _ ?_)
 have ok:=cellsFrom_ok scope.names (s.heap.push {cls:=.type "frame",data:=.dict #[]}) (s.heap.objs.size+1) [] ⟨fun _ _ hm=>(nomatch hm),List.Pairwise.nil⟩ (by rw [Heap.size_push];exact nL _)
 rw [Heap.size_push] at ok
 rw [show ({s with heap:=s.heap.push {cls:=.type "frame",data:=.dict #[]}}:Shared).heap.objs.size=s.heap.objs.size+1 from Heap.size_push ..,cW]
 refine wB (fK (s₀:=s) (cs:=cellsFrom (s.heap.objs.size+1) scope.names []) (env:=newEnv scope s.heap.objs.size globals (cellsFrom (s.heap.objs.size+1) scope.names []++cl) qual func code none builtins)
  _ (fun _ _ _=>rfl) hk (fun n c h=>by
   show (cellsFrom (s.heap.objs.size+1) scope.names []++cl).lookup n=some c
   rw [cL,h]
   rfl) binds (fun _=>none) (fun _=>none) _ _
  ⟨⟨⟨_,_,rfl⟩,(Heap.Ns.new s.heap (.type "frame")).keeps (pushCells_keeps _ _),fun b o e=>pushCells_keeps _ _ b o (gP _ e),nL _⟩,
   fun n c hc=>(ok.empty n c (PySem.mem_of_lookup hc)).1,ok.apart,fun n c hm=>(ok.empty n c hm).2⟩
  hkind fun s' x=>wpAny_pure (hQ _ rfl s' x))
def dW (names:List (Str×NameKind)) (cells:List (Str×Addr)):List (Str×Addr):=
 names.foldl (fun cs nk=>if nk.2==NameKind.free then (nk.1,(cells.lookup nk.1).getD 0)::cs else cs) []
def qp {cells:List (Str×Addr)} {env:Env} (hc:env.cells=cells):∀ (names:List (Str×NameKind)) (acc:List (Str×Addr)),(∀ x∈names,x.2=.free->∃ c,cells.lookup x.1=some c)→
  (forIn names acc (fun (x:Str×NameKind) (r:List (Str×Addr))=>if (x.2==NameKind.free)=true then (do let c <- cellOf env x.1;pure (ForInStep.yield ((x.1,c)::r))) else (pure (ForInStep.yield r):Sem _)))
   = (pure (names.foldl (fun cs nk=>if nk.2==NameKind.free then (nk.1,(cells.lookup nk.1).getD 0)::cs else cs) acc):Sem (List (Str×Addr)))
 | [],acc,_=>rfl
 | x::r,acc,h=>by
  have ih:=fun acc=>qp hc r acc fun y hy=>h y (List.mem_cons_of_mem _ hy)
  simp only [List.forIn_cons,List.foldl_cons]
  cases e:(x.2==NameKind.free) with
  | false =>
   simp only [Bool.false_eq_true,if_false]
   exact ih acc
  | true =>
   obtain ⟨c,hcx⟩:=h x List.mem_cons_self (by simpa using e)
   have hcell:cellOf env x.1=pure c:=by unfold cellOf;rw [hc,hcx]
   simp only [if_true,hcell,hcx,Option.getD_some]
   exact ih _
def gM {scope:Scope} {env:Env} (h:∀ x∈scope.names,x.2=.free->∃ c,env.cells.lookup x.1=some c):closureFor scope env=pure (dW scope.names env.cells):=by
 have:=qp (env:=env) rfl scope.names [] h
 unfold closureFor dW
 rw [<- this]
 simp only [bind_pure]
def kR {cells:List (Str×Addr)}:∀ {names:List (Str×NameKind)} {acc:List (Str×Addr)} {x:Str} {c:Addr},(∀ y∈names,y.2=.free->∃ c,cells.lookup y.1=some c)→
  (names.foldl (fun cs nk=>if nk.2==NameKind.free then (nk.1,(cells.lookup nk.1).getD 0)::cs else cs) acc).lookup x=some c->(∀ c,acc.lookup x=some c->cells.lookup x=some c)->cells.lookup x=some c
 | [],acc,x,c,_,h,ha=>ha c h
 | y::r,acc,x,c,hy,h,ha=>by
  simp only [List.foldl_cons] at h
  refine kR (fun z hz=>hy z (List.mem_cons_of_mem _ hz)) h ?_
  intro c' h'
  split at h'
  · rename_i hf
    obtain ⟨c0,e0⟩:=hy y List.mem_cons_self (by simpa using hf)
    rw [List.lookup_cons] at h'
    split at h'
    · rename_i hx
      have hx':x=y.1:=by simpa using hx
      rw [e0] at h'
      subst hx'
      rw [e0]
      simpa using h'
    · exact ha c' h'
  · exact ha c' h'
def fL {names:List (Str×NameKind)} {cells:List (Str×Addr)} {x:Str} {c:Addr} (hy:∀ y∈names,y.2=.free->∃ c,cells.lookup y.1=some c) (h:(dW names cells).lookup x=some c):cells.lookup x=some c:=
 kR hy h fun c h=>by simp at h
def kS {cells:List (Str×Addr)}:∀ {names:List (Str×NameKind)} {acc:List (Str×Addr)} {x:Str},((x,NameKind.free)∈names∨(acc.lookup x).isSome)→
  ((names.foldl (fun cs nk=>if nk.2==NameKind.free then (nk.1,(cells.lookup nk.1).getD 0)::cs else cs) acc).lookup x).isSome
 | [],acc,x,h=>by simpa using h
 | y::r,acc,x,h=>by
  simp only [List.foldl_cons]
  refine kS ?_
  rcases h with h | h
  · rcases List.mem_cons.mp h with e | h
    · subst e
      right
      simp [List.lookup_cons]
    · exact .inl h
  · right
    split
    · rw [List.lookup_cons]
      split
      · rfl
      · exact h
    · exact h
def mT {names:List (Str×NameKind)} {cells:List (Str×Addr)} {x:Str} (h:(x,NameKind.free)∈names):∃ c,(dW names cells).lookup x=some c:=
 Option.isSome_iff_exists.mp (kS (.inl h))
structure CmpScope (N:List Str) (outer scope:Scope) (M:List Str) (src:List (Option Nat)):Prop where
 kind:scope.kind=.function
 nocell:∀ y∈scope.names,y.2≠.cell
 free:∀ y∈scope.names,y.2=.free->outer.names.lookup y.1=some .cell∨outer.names.lookup y.1=some .free
 names:∀ y∈scope.names,y.2=.local->scope.names.lookup y.1=some .local
 lf:∀ y∈scope.names,y.2=.free->scope.names.lookup y.1=some .free
 len:M.length=src.length
 nd:M.Nodup
 src:∀ p∈M.zip src,∀ j∈p.2,N[j]?=some p.1/\(p.1,NameKind.free)∈scope.names
def stC (src:List (Option Nat)) (σ:St):St:=src.map fun o=>o.bind fun j=>(σ[j]?).join
noncomputable def cxC (X:Cx) (M:List Str) (scope:Scope) (C:Addr) (s:Shared) (H:Hp) (ex:List Addr):Cx:=
 {X with N:=M,s₀:=s,H₀:=H,env:=compEnvC scope (dW scope.names X.env.cells) C X.env,outer:=X.stack,ex:=ex,fn:=fun _=>false,pn:=[],xe:=fun _ _=>False}
noncomputable def PTs (X:Cx) (ifs:List Expr) (t:TT):Prop:=
 ∀ (pins:List (Addr×Obj)) (s:Shared) (σ:St) (H:Hp) (Q:Bool->Hp->Prop),Inv X pins σ H s->t σ H Q→
  wpAny (model X.prog X.w) X.A (forIn ifs true fun c r=>if r=true then do let ok <- isTrue c X.env (eval c X.env);pure (ForInStep.yield ok) else pure (ForInStep.yield r)) (TP X pins σ Q) X.xe s
def tYes:TT:=fun _ H Q=>Q true H
def qq {X:Cx}:PTs X [] tYes:=fun pins s σ H Q I h=>wpAny_tests_nil ⟨H,I,h⟩
def wj {X:Cx} {c:Expr} {t:TT} (h:PT X c t):PTs X [c] t:=fun pins s σ H Q I hq=>wpAny_tests_one (h pins s σ H Q I hq)
def Wk (a b:St):Prop:=a.length=b.length/\∀ (i:Nat) v,a[i]?=some (some v)->b[i]?=some (some v)
noncomputable def kU (src:List (Option Nat)) (wi:TI) (g:TG) (tt:TT) (te:TE):TE:=fun σ H Q=>wi σ H fun J H1=>∀ D,H1 D=none->∃ W:Nat->Nat->Hp->Prop,(∃ m,W 0 m (upd H1 D (.lst [])))/\∀ i m H,W i m H→
 (J.stop i H/\Q (.ref D) H)∨(J.go i H/\∃ N:Hp->Prop,(∀ H',N H'->∃ m',m'<m/\W (i+1) m' H')/\∀ x H',J.yld i H x H'→
  g x (stC src σ) H' fun σ2 H2=>Wk (stC src σ) σ2/\tt σ2 H2 fun b H3=>if b=true then te σ2 H3 fun v H4=>∃ ys,H4 D=some (.lst ys)/\ys.length<sizeLine/\N (upd H4 D (.lst (ys++[v]))) else N H3)
def ia {prog:Program} {w:World} {A:Around} {R:Result->Shared->Prop} {s:Shared} {elt target iter:Expr} {ifs:List Expr} {scope:Scope} {pos:Pos} {it acc:Value} {env:Env} (I:Nat->Shared->Prop)
  (turn:∀ n s,I n s->wpAny (model prog w) A (pyNext it) (fun r s₁=>match r with
   | none=>R (.ok .next) s₁
   | some v=>wpAny (model prog w) A (letOwnedTupleGo target it v) (fun _ s₁'=>wpAny (model prog w) A (assign target env v) (fun _ s₂ =>
       wpAny (model prog w) A (forIn ifs true fun c r=>if r=true then do let ok <- isTrue c env (eval c env);pure (ForInStep.yield ok) else pure (ForInStep.yield r)) (fun ok s₃ =>
        if ok=true then wpAny (model prog w) A (eval elt env) (fun x s₄ =>
         wpAny (model prog w) A (call (.builtin "list.append") [acc,x]) (fun _ s₅=>∃ m,m<n/\I m s₅) (fun _ _=>False) s₄) (fun _ _=>False) s₃
        else ∃ m,m<n/\I m s₃) (fun _ _=>False) s₂) (fun _ _=>False) s₁') (fun _ _=>False) s₁) (fun _ _=>False) s)
  (n:Nat) (h:I n s) :
  codeAny (model prog w) A (.compLoop (.ListComp elt [⟨target,iter,ifs,0⟩] scope pos) 0 it acc env) R s:=by
 refine codeAny_loop rfl I (fun n s hI=>?_) n h
 show wpAny _ A ((compTurn (.ListComp elt [⟨target,iter,ifs,0⟩] scope pos) 0 it acc env).onRaise (fun x=>do noteFrame x env;theTreesLotGoes x)) _ _ s
 refine wpAny_noted ?_
 rw [compTurn_list]
 refine wB (wpAny_standAt (wB (wpAny_mono (turn n s hI) (fun r s₁ h₁=>?_) fun _ _ h'=>h'.elim)))
 cases r with
 | none=>exact wpAny_pure h₁
 | some v =>
  refine wB (wpAny_mono h₁ (fun _ s₁' h₁'=>?_) fun _ _ h'=>h'.elim)
  refine wB (wpAny_mono h₁' (fun _ s₂ h₂=>wB (wpAny_mono h₂ (fun ok s₃ h₃=>?_) fun _ _ h'=>h'.elim)) fun _ _ h'=>h'.elim)
  cases ok with
  | false=>exact wpAny_pure ⟨rfl,h₃⟩
  | true =>
   exact wB (wB (wpAny_mono h₃ (fun x s₄ h₄=>wB (wpAny_mono h₄ (fun _ s₅ h₅=>wpAny_pure (wpAny_pure ⟨rfl,h₅⟩)) fun _ _ h'=>h'.elim)) fun _ _ h'=>h'.elim))
section
variable {X:Cx} {elt tg iter:Expr} {ifs:List Expr} {scope:Scope} {pos:Pos} {M:List Str} {src:List (Option Nat)} {wi:TI} {g:TG} {tt:TT} {te:TE}
def lX {env:Env} {scope:Scope} {x:Str} (hn:∀ y∈scope.names,y.2≠.cell) (h:(relabel scope env).names.lookup x=some .cell∨(relabel scope env).names.lookup x=some .free):(x,NameKind.free)∈scope.names:=by
 have key:∀ k,(relabel scope env).names.lookup x=some k->(k=.cell∨k=.free)->(x,NameKind.free)∈scope.names:=by
  intro k hk hkk
  have hm:=PySem.mem_of_lookup hk
  unfold relabel at hm
  obtain ⟨⟨n,k0⟩,hy,e⟩:=List.mem_map.mp hm
  dsimp only at e
  split at e
  · rename_i hc
    simp only [Bool.and_eq_true] at hc
    have:k0=.free:=by simpa using hc.1.1
    subst this
    cases e
    exact hy
  · cases e
    rcases hkk with z | z
    · subst z;exact absurd rfl (hn _ hy)
    · subst z;exact hy
 rcases h with h | h
 · exact key _ h (.inl rfl)
 · exact key _ h (.inr rfl)
def mU {pins:List (Addr×Obj)} {σ:St} {H:Hp} {s s1:Shared} {fp:List Addr} {m1:Str->Option Value} (S:CmpScope X.N X.env.scope scope M src) (I:Inv X pins σ H s) (hf:∀ b∈fp,gu X pins H b)
  (hfl:∀ b∈fp,b<s.heap.objs.size) (hn:s1.heap.Ns s.heap.objs.size m1) (hk:∀ b o,s.heap.get? b=some o->s1.heap.get? b=some o) (hos:s1.os=s.os) (hg:s1.gens=s.gens) :
  Inv (cxC X M scope s.heap.objs.size s H fp) [] (stC src σ) H s1:=by
 have hcells:∀ x∈scope.names,x.2=.free->∃ c,X.env.cells.lookup x.1=some c:=fun x hx hfr=>I.ok.has x.1 (S.free x hx hfr)
 have sub:∀ x c,(dW scope.names X.env.cells).lookup x=some c->X.env.cells.lookup x=some c:=fun x c h=>fL hcells h
 have cellK:∀ c v,s.heap.IsCell c v->s1.heap.IsCell c v:=fun c v ⟨o,ho,hd⟩=>⟨o,hk c o ho,hd⟩
 refine ⟨⟨I.ok.mod,S.kind,I.ok.glob,I.ok.blt,nL _,fun y z c h1 h2=>I.ok.inj y z c (sub _ _ h1) (sub _ _ h2),fun x hx=>mT (lX S.nocell hx),fun x c h=>(nomatch h),I.ok.hd,I.ok.frames,.inl rfl,
  fun b hb=>⟨Nat.ne_of_lt (hfl b hb),fun x c h=>(hf b hb).2.2.2.2.1 x c (sub _ _ h)⟩,I.bs,Nat.le_trans I.ok.bsz I.sz,fun b o e hb=>?_,fun b hb z=>?_,I.stack,I.stkFree,fun p hp=>I.base.cts _ _ (I.ok.tb p hp)⟩,
  hos,(by rw [hg];exact I.bare),Un.kept hk,⟨m1,hn,fun i x v h1 h2 h3=>?_⟩,fun x c h=>?_,I.hok.fresh (Nat.le_refl _),fun x c h=>I.freeC x c (sub _ _ h),fun p hp=>absurd hp (by simp [cxC]),I.hok.kept hk,?_⟩
 · rcases (hf b hb).2.2.2.1 with z | z
   · exact I.ok.noex b o e z
   · exact absurd (Nat.lt_of_lt_of_le (Heap.lt_size e) (Nat.le_trans I.ok.bsz z)) (Nat.lt_irrefl _)
 · rcases List.mem_cons.mp (I.stkSub b z) with q | q
   · exact (hf b hb).2.1 q
   · exact (hf b hb).2.2.1 q
 · -- a name taken over
   have h1:M[i]?=some x:=h1
   unfold stC at h2
   rw [List.getElem?_map] at h2
   cases hs:src[i]? with
   | none=>rw [hs] at h2;cases h2
   | some o =>
    rw [hs] at h2
    simp only [Option.map_some,Option.some.injEq] at h2
    cases o with
    | none=>cases h2
    | some j =>
     simp only [Option.bind_some] at h2
     have hmem:(x,some j)∈M.zip src:=by
      have:(M.zip src)[i]?=some (x,some j):=by rw [List.getElem?_zip_eq_some];exact ⟨h1,hs⟩
      exact List.mem_of_getElem? this
     obtain ⟨hN,hfr⟩:=S.src _ hmem j rfl
     have hσ:σ[j]?=some (some v):=by
      cases e:σ[j]? with
      | none=>rw [e] at h2;cases h2
      | some o=>rw [e] at h2;simp only [Option.join_some] at h2;rw [h2]
     have hkind:=S.free _ hfr rfl
     obtain ⟨m,hm,hl⟩:=I.loc
     obtain ⟨u,r,l⟩:=hl j x v hN hσ (.inr hkind)
     refine ⟨u,r,?_⟩
     have hloc:X.env.kindOf x≠some .local:=by
      show X.env.scope.names.lookup x≠_
      rcases hkind with q | q<;>rw [q]<;>decide
     rcases l with l | ⟨_,c,e,z⟩
     · exact absurd l.1 hloc
     · obtain ⟨c',e'⟩:=mT (cells:=X.env.cells) hfr
       have:=sub _ _ e'
       rw [e] at this
       cases this
       refine .inr ⟨?_,c,e',cellK _ _ z⟩
       rcases h3 with q | q
       · exact absurd q (by
          -- a name that is free in the block is not local there
          exact (by
           intro q
           have:scope.names.lookup x=some .local:=by
            have hb:∀ (names:List (Str×NameKind)),(names.map fun (n,k)=>if (k==NameKind.free&&X.env.scope.kind==.function&&X.env.kindOf n==some .cell) then (n,NameKind.cell) else (n,k)).lookup x=some .local->names.lookup x=some .local:=by
             intro names
             induction names with
             | nil=>intro h;simp at h
             | cons y r ih =>
              obtain ⟨n,k⟩:=y
              intro h
              simp only [List.map_cons] at h
              by_cases hx:x=n
              · subst hx
                split at h
                · simp [List.lookup_cons] at h
                · simpa [List.lookup_cons] using h
              · have hx':(x==n)=false:=by simpa using hx
                split at h
                · simp only [List.lookup_cons,hx'] at h ⊢;exact ih h
                · simp only [List.lookup_cons,hx'] at h ⊢;exact ih h
            exact hb _ q
           rw [S.lf _ hfr rfl] at this
           cases this))
       · exact q
 · obtain ⟨v,z⟩:=I.cell x c (sub _ _ h)
   exact ⟨v,cellK _ _ z⟩
 · show (stC src σ).length=M.length
   unfold stC
   rw [List.length_map,S.len]
def mV (S:CmpScope X.N X.env.scope scope M src) (hc:X.calm=true) (hi:PI X tg iter wi) (hg:M.Nodup->∀ C s H ex,PG (cxC X M scope C s H ex) tg g) (ht:∀ C s H ex,PTs (cxC X M scope C s H ex) ifs tt)
  (he:∀ C s H ex,PE (cxC X M scope C s H ex) elt te) (hs:∀ x,foldedSetIterable iter X.env x=pure x:=by intro _;rfl) :
  PE X (.ListComp elt [⟨tg,iter,ifs,0⟩] scope pos) (kU src wi g tt te):=by
 intro pins s σ H Q I h
 rw [eval_ListComp]
 have hcells:∀ x∈scope.names,x.2=.free->∃ c,X.env.cells.lookup x.1=some c:=fun x hx hfr=>I.ok.has x.1 (S.free x hx hfr)
 refine wpAny_comprehension_free (use:=none) rfl hs (gM hcells) S.kind S.names (thn (hi pins s σ H _ I h) fun v s1 h1=>thn h1 fun itv s2 h2=>?_)
 obtain ⟨it,fp,tn,J,H2,rfl,I2,T,st2,f2,hq⟩:=h2
 refine wpAny_newObj_type ?_
 have I3:Inv X pins σ (upd H2 s2.heap.objs.size (.lst [])) {s2 with heap:=s2.heap.push {cls:=.type "list",dict:=none,data:=.seq ([]:List Value).toArray},toks:=s2.toks}:=I2.lnew (its:=[]) (ys:=[]) (t':=s2.toks) .nil (by simp)
 have hD:H2 s2.heap.objs.size=none:=I2.fresh
 obtain ⟨W,⟨m0,w0⟩,turn⟩:=hq _ hD
 generalize hDn:s2.heap.objs.size=D at*
 generalize hs3:({s2 with heap:=s2.heap.push {cls:=.type "list",dict:=none,data:=.seq ([]:List Value).toArray},toks:=s2.toks}:Shared)=s3 at*
 have f3:∀ b∈fp,gu X pins (upd H2 D (.lst [])) b:=fun b hb=>⟨by
  obtain ⟨o,e,_⟩:=T.obj _ _ st2 b hb
  rw [ax (by rw [<- hDn];exact Nat.ne_of_lt (Heap.lt_size e))]
  exact (f2 b hb).1,(f2 b hb).2⟩
 have k23:∀ b o,s2.heap.get? b=some o->s3.heap.get? b=some o:=fun b o e=>by rw [<- hs3];exact gP _ e
 have st3:tn 0 s3.heap:=T.keep _ _ _ st2 fun b _ o e=>k23 b o e
 have fl3:∀ b∈fp,b<s3.heap.objs.size:=fun b hb=>by
  obtain ⟨o,e,_⟩:=T.obj _ _ st3 b hb
  exact Heap.lt_size e
 refine wpAny_newFunctionEnv S.nocell (by intro y hy;simp at hy) (fun h₁ hns₁ hsb₁=>?_) S.kind
 have k34:∀ b o,s3.heap.get? b=some o->h₁.get? b=some o:=fun b o e=>hsb₁.extBut b o (Nat.ne_of_lt (Heap.lt_size e)) (gP _ e)
 generalize hs4:({s3 with heap:=h₁,toks:=s3.toks+([]:List (Str×Value)).length}:Shared)=s4
 have I4:Inv (cxC X M scope s3.heap.objs.size s3 (upd H2 D (.lst [])) fp) [] (stC src σ) (upd H2 D (.lst [])) s4:=by
  rw [<- hs4]
  exact mU S I3 f3 fl3 hns₁ k34 rfl rfl
 have st4:tn 0 s4.heap:=T.keep _ _ _ st3 fun b _ o e=>by rw [<- hs4];exact k34 b o e
 generalize hX':cxC X M scope s3.heap.objs.size s3 (upd H2 D (.lst [])) fp=X' at*
 have hg':PG X' tg g:=by rw [<- hX'];exact hg S.nd _ _ _ _
 have ht':PTs X' ifs tt:=by rw [<- hX'];exact ht _ _ _ _
 have he':PE X' elt te:=by rw [<- hX'];exact he _ _ _ _
 have eP:X'.prog=X.prog:=by rw [<- hX'];rfl
 have eW:X'.w=X.w:=by rw [<- hX'];rfl
 have eK:X'.K=X.K:=by rw [<- hX'];rfl
 have eA:X'.A=X.A:=by rw [<- hX'];rfl
 have ex':X'.xe=fun _ _=>False:=by rw [<- hX'];rfl
 have ec:X'.calm=true:=by rw [<- hX'];exact hc
 have eE:X'.env=compEnvC scope (dW scope.names X.env.cells) s3.heap.objs.size X.env:=by rw [<- hX'];rfl
 have stat:∀ {H':Hp},(∀ b∈fp,H' b=none)->∀ b∈fp,gu X' [] H' b:=fun hn b hb=>by
  rw [<- hX']
  refine ⟨hn b hb,Nat.ne_of_lt (fl3 b hb),fun z=>?_,.inl hb,fun x c h=>(f3 b hb).2.2.2.2.1 x c (fL hcells h),fun p hp=>absurd hp (by simp [cxC])⟩
  rcases List.mem_cons.mp (I3.stkSub b z) with q | q
  · exact (f3 b hb).2.1 q
  · exact (f3 b hb).2.2.1 q
 -- behind the block
 have fin:∀ (H':Hp) (s':Shared),Inv X' [] (stC src σ) H' s'->Q (.ref D) H'->compPost (model X.prog X.w) X.A X.xe none (EP X pins σ Q) (.ref D) s3.heap.objs.size (.ok .next) s':=by
  intro H' s' J' q
  rw [<- hX'] at J'
  obtain ⟨m,hn,_⟩:=id J'.loc
  refine ⟨m,hn,fun h' sb=>⟨.ref D,H',?_,rfl,q⟩⟩
  have hC:H' s3.heap.objs.size=none:=J'.free
  have un:Un (frs X.stack) fp (upd H2 D (.lst [])) H' s3.heap s'.heap:=J'.base
  have kC:∀ b o,b≠s3.heap.objs.size->s'.heap.get? b=some o->h'.get? b=some o:=fun b o hb e=>sb.extBut b o hb e
  have un':Un (frs X.stack) fp (upd H2 D (.lst [])) H' s3.heap h':=
   ⟨fun b o e n hb hx=>kC b o (Nat.ne_of_lt (Heap.lt_size e)) (un.keep b o e n hb hx),
    fun b o e n hb hx=>by
     obtain ⟨sl,e'⟩:=un.slot b o e n hb hx
     exact ⟨sl,kC b _ (Nat.ne_of_lt (Heap.lt_size e)) e'⟩,
    un.free,
    fun b o e hx=>by
     obtain ⟨o',e'⟩:=un.there b o e hx
     exact ⟨o',kC b _ (Nat.ne_of_lt (Heap.lt_size e)) e'⟩,un.tups,un.frzs,un.tbls,un.cts⟩
  have hok':HOk X.prog X.w H' h':=fun b u e=>by
   have nb:b≠s3.heap.objs.size:=fun z=>by rw [z,hC] at e;cases e
   refine (J'.hok b u e).stay (fun c v hc' q=>kC c v ?_ q) (fun _ q=>q) (fun _ _ q=>q) fun _ _ _ q=>q
   rcases hc' with z | z
   · rw [z];exact nb
   · intro w;rw [w,hC] at z;cases z
  exact I3.call' (s':={s' with heap:=h'}) (show s'.os=s3.os from J'.os) un' hok' J'.bare fun b hb=>⟨(f3 b hb).2.2.2.1,(f3 b hb).2.1,(f3 b hb).2.2.2.2.1,(f3 b hb).2.2.2.2.2⟩
 have loop:∀ s4':Shared,s4'=s4->codeAny (model X.prog X.w) X.A (.compLoop (.ListComp elt [⟨tg,iter,ifs,0⟩] scope pos) 0 (.ref it) (.ref D) X'.env) (compPost (model X.prog X.w) X.A X.xe none (EP X pins σ Q) (.ref D) s3.heap.objs.size) s4':=by
  rintro _ rfl
  refine ia (fun n s'=>∃ i H',Inv X' [] (stC src σ) H' s'/\tn i s'.heap/\(∀ b∈fp,H' b=none)/\W i n H') ?_ m0 ⟨0,_,I4,st4,fun b hb=>(f3 b hb).1,w0⟩
  rintro n s5 ⟨i,H5,I5,st5,fr5,w5⟩
  rcases turn i n H5 w5 with ⟨stop,qn⟩ | ⟨go,N,hN,step⟩
  · have:=T.done X' eP eW eK ec i [] s5 (stC src σ) H5 (fun _ _=>False) I5 (stat fr5) st5 stop
    rw [eA] at this
    refine thn this fun r s6 ⟨hr,I6⟩=>?_
    subst hr
    exact fin H5 s6 I6 qn
  · have:=T.item X' eP eW eK ec i [] s5 (stC src σ) H5 (fun _ _=>False) I5 (stat fr5) st5 go
    rw [eA] at this
    refine thn this fun r s6 ⟨u,hr,h6⟩=>?_
    subst hr
    refine thn h6 fun _ s7 ⟨x,H7,I7,r7,y7,st7,fr7⟩=>?_
    have I7':=I7.pinned (stat fr7) (T.obj _ _ st7)
    have a1:=hg' _ s7 (stC src σ) H7 x u _ I7' r7 (step x H7 y7)
    rw [ex',eP,eW,eA] at a1
    refine thn a1 fun _ s8 ⟨σ8,H8,I8,wk8,q8⟩=>?_
    have a2:=ht' _ s8 σ8 H8 _ I8 q8
    rw [ex',eP,eW,eA] at a2
    refine thn a2 fun ok s9 ⟨H9,I9,q9⟩=>?_
    have again:∀ {H7':Hp} {s':Shared},Inv X' ([]++iG fp s7.heap) σ8 H7' s'->N H7'->∃ m,m<n/\∃ i H',Inv X' [] (stC src σ) H' s'/\tn i s'.heap/\(∀ b∈fp,H' b=none)/\W i m H':=fun {H7' s'} J7 n7=>by
     obtain ⟨m',hm,w7⟩:=hN H7' n7
     refine ⟨m',hm,i+1,H7',J7.unpinned.weak wk8.1 wk8.2,T.keep _ _ _ st7 fun b hb o e=>(J7.pin (b,o) (List.mem_append_right _ (List.mem_append_right _ (cK hb e)))).1,fun b hb=>?_,w7⟩
     obtain ⟨o,e,d⟩:=T.obj _ _ st7 b hb
     exact (J7.pin (b,o) (List.mem_append_right _ (List.mem_append_right _ (cK hb e)))).2.1
    cases ok with
    | false=>exact again I9 q9
    | true =>
     have a3:=he' _ s9 σ8 H9 _ I9 q9
     rw [ex',eP,eW,eA] at a3
     refine thn a3 fun v s10 ⟨y,H10,I10,r10,ys,hl,hz,q10⟩=>?_
     have a4:=f7 (X:=X') _ s10 σ8 H10 (.ref D) [y] (.ref D) [v] (fun _ H'=>N H') I10 rfl (.cons r10 .nil) ⟨D,ys,y,rfl,rfl,hl,hz,q10⟩
     rw [ex',eP,eW,eA] at a4
     refine thn a4 fun _ s11 ⟨_,H11,I11,_,q11⟩=>?_
     exact again I11 q11
 have e4:∀ c:Env,c=X'.env->codeAny (model X.prog X.w) X.A (.compStart (.ListComp elt [⟨tg,iter,ifs,0⟩] scope pos) 0 (.ref it) (.ref D) c) (compPost (model X.prog X.w) X.A X.xe none (EP X pins σ Q) (.ref D) s3.heap.objs.size) s4:=by
  rintro _ rfl
  exact codeAny_compStart_list (loop _ rfl) (T.self _ _ _ _ _ st4 (loop _ rfl))
 exact e4 _ (by rw [eE];rfl)
end
def Its (x:Str):It:=⟨fun i _=>i<x.cps.size,fun i H v H'=>H'=H/\∃ c,x.cps[i]?=some c/\v=.str ⟨#[c]⟩,fun i _=>i=x.cps.size⟩
def r8 {P:Program} {w:World} {K:PySem.W.Frag} {tg:Expr} (x:Str) (t:Tok) (it:Addr):Turn P w K tg (Its x) [it] it (fun i h=>h.IsStrIter it "str_ascii_iterator" x t i) where
 mem:=by simp
 obj:=fun i h st b hb=>by
  have e:b=it:=by simpa using hb
  subst e
  obtain ⟨o,e,c,d⟩:=st
  exact ⟨o,e,fun v z=>by rw [d] at z;cases z⟩
 keep:=fun i h h' st k=>let ⟨o,ho,r⟩:=st;⟨o,k it (by simp) o ho,r⟩
 item:=by
  intro X hP hw hK hc i pins s σ H E I hf st hg
  subst hP hw hK
  obtain ⟨f0,f1,f2,f3,f4,f5⟩:=hf it (by simp)
  have hg:i<x.cps.size:=hg
  refine wpAny_pyNext_ascii_item st (c:=x.cps[i]) (by simp [hg]) fun h' st' sb=>?_
  have I1:Inv X pins σ H {s with heap:=h',toks:=s.toks+1}:=I.turned (t':=s.toks+1) (fun b o hb e=>(sb.2 b hb).trans e) f0 f1 f3 f4 f5
  obtain ⟨o,e,c,d⟩:=id st'
  exact ⟨_,rfl,mL (s:={s with heap:=h',toks:=s.toks+1}) e c d (by decide) ⟨.str ⟨#[x.cps[i]]⟩,H,I1,⟨_,rfl⟩,⟨rfl,x.cps[i],by simp [hg],rfl⟩,st',fun b hb=>(hf b hb).1⟩⟩
 done:=by
  intro X hP hw hK hc i pins s σ H E I hf st hg
  subst hP hw hK
  have hg:i=x.cps.size:=hg
  obtain ⟨f0,f1,f2,f3,f4,f5⟩:=hf it (by simp)
  exact wpAny_pyNext_ascii_end (I.ok.hd hc) st (by simp [hg]) fun h' eb=>⟨rfl,I.turned (t':=s.toks) (fun b o hb e=>eb b o hb e) f0 f1 f3 f4 f5⟩
 self:=fun _ _ _ _ _ st h=>wpAny_pyIter_striter_ascii st h
def r9 {P:Program} {w:World} {K:PySem.W.Frag} {tg:Expr} (x:Str) (t:Tok) (it:Addr):Turn P w K tg (Its x) [it] it (fun i h=>h.IsStrIter it "str_iterator" x t i) where
 mem:=by simp
 obj:=fun i h st b hb=>by
  have e:b=it:=by simpa using hb
  subst e
  obtain ⟨o,e,c,d⟩:=st
  exact ⟨o,e,fun v z=>by rw [d] at z;cases z⟩
 keep:=fun i h h' st k=>let ⟨o,ho,r⟩:=st;⟨o,k it (by simp) o ho,r⟩
 item:=by
  intro X hP hw hK hc i pins s σ H E I hf st hg
  subst hP hw hK
  obtain ⟨f0,f1,f2,f3,f4,f5⟩:=hf it (by simp)
  have hg:i<x.cps.size:=hg
  refine wpAny_pyNext_wide_item st (c:=x.cps[i]) (by simp [hg]) fun h' st' sb=>?_
  have I1:Inv X pins σ H {s with heap:=h',toks:=s.toks+1}:=I.turned (t':=s.toks+1) (fun b o hb e=>(sb.2 b hb).trans e) f0 f1 f3 f4 f5
  obtain ⟨o,e,c,d⟩:=id st'
  exact ⟨_,rfl,mL (s:={s with heap:=h',toks:=s.toks+1}) e c d (by decide) ⟨.str ⟨#[x.cps[i]]⟩,H,I1,⟨_,rfl⟩,⟨rfl,x.cps[i],by simp [hg],rfl⟩,st',fun b hb=>(hf b hb).1⟩⟩
 done:=by
  intro X hP hw hK hc i pins s σ H E I hf st hg
  subst hP hw hK
  have hg:i=x.cps.size:=hg
  obtain ⟨f0,f1,f2,f3,f4,f5⟩:=hf it (by simp)
  exact wpAny_pyNext_wide_end (I.ok.hd hc) st (by simp [hg]) fun h' eb=>⟨rfl,I.turned (t':=s.toks) (fun b o hb e=>eb b o hb e) f0 f1 f3 f4 f5⟩
 self:=fun _ _ _ _ _ st h=>wpAny_pyIter_striter_wide st h
section
variable {X:Cx} {tg:Expr}
def iStr (tl:TE):TI:=fun σ H R=>tl σ H fun v H1=>∃ x,v=.str x/\R (Its x) H1
def tU {l:Expr} {tl:TE} (hl:PE X l tl):PI X tg l (iStr tl):=by
 intro pins s σ H R I h
 refine thn (hl pins s σ H _ I h) fun v s1 ⟨y,H1,I1,r1,q1⟩=>?_
 obtain ⟨x,e,q⟩:=q1
 subst e
 obtain ⟨t,rfl⟩:=r1
 have fin:∀ b∈[s1.heap.objs.size],gu X pins H1 b:=fun b hb=>by
  have e:b=s1.heap.objs.size:=by simpa using hb
  subst e
  exact I1.fpOk (nL _) (I1.hok.fresh (nL _))
 cases ha:x.cps.all (· < 128)
 · refine wpAny_pyIter_wide ha ?_
   exact ⟨s1.heap.objs.size,[s1.heap.objs.size],_,_,H1,rfl,I1.kept (t':=s1.toks) fun b o e=>gP _ e,r9 x t _,⟨_,Heap.get?_push_size _ rfl,rfl,rfl⟩,fin,q⟩
 · refine wpAny_pyIter_ascii ha ?_
   exact ⟨s1.heap.objs.size,[s1.heap.objs.size],_,_,H1,rfl,I1.kept (t':=s1.toks) fun b o e=>gP _ e,r8 x t _,⟨_,Heap.get?_push_size _ rfl,rfl,rfl⟩,fin,q⟩
def jH:∀ {bs:List Bool} {us:List Value},Vals (bs.map V.bl) us->us=bs.map Value.bool
 | [],_,.nil=>rfl
 | b::r,_,.cons h t=>by
  have h:_=Value.bool b:=h
  rw [h,jH t]
  rfl
def sd {bs:List Bool}:(List.range bs.length).map (fun i=>bs.getD i false)=bs:=by
 apply List.ext_getElem
 · simp
 · intro i h1 h2
   simp at h1
   simp [h1]
def tV (hc:X.calm=true):CallR X (.builtin "all") (fun xs H Q=>∃ (a:Addr) (bs:List Bool),xs=[.ref a]/\SqL X.K H a (bs.map V.bl)/\Q (.bl (bs.all id)) H):=by
 intro pins s σ H xs us Q I r h
 obtain ⟨a,bs,rfl,hq,q⟩:=h
 obtain ⟨u,rfl,ru⟩:=fu r
 cases ru
 obtain ⟨its,rv,p,hz⟩:=I.list hq
 have eu:=jH rv
 subst eu
 have hne:a≠s.heap.objs.size:=by
  obtain ⟨o,n,e,_⟩:=p
  exact Nat.ne_of_lt (Heap.lt_size e)
 refine call_all_walk (wpAny_pyIter_list p.isList ⟨s.heap.objs.size,_,_,_,_,_,fun i=>bs.getD i false,rfl,Walks.list (A:=X.A.in1) (I.ok.hd hc) _ a hne (bs.map Value.bool).toArray,⟨⟨_,Heap.get?_push_size _ rfl,rfl,rfl⟩,?_⟩,?_,?_⟩)
 · obtain ⟨o,ho,hr⟩:=p.isList
   exact ⟨o,gP _ ho,hr⟩
 · intro i v s' Q' E' hP hQ
   rw [List.getElem?_toArray,List.getElem?_map] at hP
   cases e:bs[i]? with
   | none=>rw [e] at hP;cases hP
   | some b =>
    rw [e] at hP
    cases hP
    refine wpAny_truthy_bool ?_
    dsimp only at hQ
    rw [List.getD_eq_getElem?_getD,e] at hQ
    exact hQ
 · intro h' tk hk
   refine ⟨.bl _,H,I.kept (h':=h') (t':=tk) fun b o e=>hk b o (fun z=>?_) (gP _ e),rfl,?_⟩
   · have z:b=s.heap.objs.size:=by simpa using z
     subst z
     exact absurd (Heap.lt_size e) (Nat.lt_irrefl _)
   · have e:(List.range (bs.map Value.bool).toArray.size).all (fun i=>bs.getD i false)=bs.all id:=by
      conv=>rhs;rw [<- sd (bs:=bs)]
      rw [List.all_map]
      simp
     rw [e]
     exact q
def kW:∀ {ts:List Str} {us:List Value},Vals (ts.map V.str) us->∃ l,us=strValues l/\l.map (·.1)=ts
 | [],_,.nil=>⟨[],rfl,rfl⟩
 | x::r,_,.cons h t=>by
  obtain ⟨tk,rfl⟩:=h
  obtain ⟨l,e1,e2⟩:=kW t
  exact ⟨(x,tk)::l,by rw [e1];rfl,by rw [<- e2];rfl⟩
def wl:MtR X "str.join" (fun x vs H Q=>∃ (a:Str) (l:Addr) (ts:List Str),x=.str a/\vs=[.ref l]/\SqL X.K H l (ts.map V.str)/\JoinOk a ts=true/\Q (.str (Txt.join a ts)) H):=by
 intro pins s σ H x vs v us Q I rx rv h
 obtain ⟨a,l,ts,rfl,rfl,hq,hj,q⟩:=h
 obtain ⟨t,rfl⟩:=rx
 obtain ⟨u,rfl,ru⟩:=rv.one
 cases ru
 obtain ⟨its,r,p,hz⟩:=I.list hq
 obtain ⟨ls,rfl,e2⟩:=kW r
 exact SC.join p.isList e2 hj fun t' k=>⟨.str _,H,I.tok _,⟨_,rfl⟩,q⟩
def lY:CallR X (.type "int") (fun xs H Q=>∃ x n,xs=[.str x]/\PySem.intText? x=some n/\x.length<=640/\Q (.int n) H):=by
 intro pins s σ H xs us Q I r h
 obtain ⟨x,n,rfl,hn,hl,q⟩:=h
 obtain ⟨u,rfl,ru⟩:=fu r
 obtain ⟨t,rfl⟩:=ru
 exact PySem.W.KIN.call_text hn hl ⟨.int n,H,I.tok _,⟨_,rfl⟩,q⟩
def qr {v:Value} {o:Option Int} (h:IsPart v o):∃ p:Option (Int×Tok),v=partValue p/\o=p.map (·.1):=by
 cases o with
 | none=>exact ⟨none,by cases h<;>rfl,rfl⟩
 | some i =>
  cases h
  exact ⟨some (i,_),rfl,rfl⟩
def rSlS:V->Option Int->Option Int->Hp->VK->Prop:=fun x lo hi H Q=>∃ z,x=.str z/\z.length<=sizeLine/\Q (.str (Txt.slice z lo hi)) H
def zB:SlR X rSlS:=by
 intro pins s σ H x v vl vu lo hi sl Q I rx hs pl pu h
 obtain ⟨z,rfl,hz,q⟩:=h
 obtain ⟨t,rfl⟩:=rx
 obtain ⟨l,rfl,rfl⟩:=qr pl
 obtain ⟨u,rfl,rfl⟩:=qr pu
 refine ⟨"str",_,F.slot_str_getitem.lookup,typeIs_str _ _ _,?_⟩
 exact wpAny_getItem_str_slice (l:=l) (u:=u) (st:=none) hs rfl (post_val_or_str ⟨Nat.le_trans (Txt.slice_le z _ _) hz,fun t' k=>⟨.str _,H,I.tok _,⟨_,rfl⟩,q⟩⟩)
end
def eX:bootBuiltins "len"=some (.builtin "len"):=by first | exact PySem.boot_len | exact PyProof.Rows.boot_len | decide +kernel
def zC:bootBuiltins "all"=some (.builtin "all"):=by first | exact PySem.boot_all | exact PyProof.Rows.boot_all | decide +kernel
def kA:bootBuiltins "isinstance"=some (.builtin "isinstance"):=by first | exact PySem.boot_isinstance | exact PyProof.Rows.boot_isinstance | decide +kernel
def kX:bootBuiltins "sorted"=some (.builtin "sorted"):=by first | exact PySem.boot_sorted | exact PyProof.Rows.boot_sorted | decide +kernel
def tW:bootBuiltins "int"=some (.type "int"):=by first | exact PySem.boot_int | exact PyProof.Rows.boot_int | decide +kernel
def wm:bootBuiltins "bool"=some (.type "bool"):=by first | exact PySem.boot_bool | exact PyProof.Rows.boot_bool | decide +kernel
def ib:bootBuiltins "tuple"=some (.type "tuple"):=by first | exact PySem.boot_tuple | exact PyProof.Rows.boot_tuple | decide +kernel
def jt:bootBuiltins "list"=some (.type "list"):=by first | exact PySem.boot_list | exact PyProof.Rows.boot_list | decide +kernel
def tX:bootBuiltins "range"=some (.type "range"):=by first | exact PySem.boot_range | exact PyProof.Rows.boot_range | decide +kernel
def lZ:bootBuiltins "enumerate"=some (.type "enumerate"):=by first | exact PySem.boot_enumerate | exact PyProof.Rows.boot_enumerate | decide +kernel
structure OkF (P:Program) (w:World) (K:PySem.W.Frag) (mg:Str->Option Value) (base:Heap) (x:Str) (k:Nat) (ps:List Str) (sp:Sp):Prop where
 ex:∃ f fd,mg x=some (.ref f)/\PySem.W.keepIn K (.ref f)=true/\Binds K fd ps []/\FnOk P w K mg base CX0 k f fd ps sp
structure DefF (K:PySem.W.Frag) (mg:Str->Option Value) (x:Str) (st:Stmt) (ps:List Str):Prop where
 ex:∃ f fd,mg x=some (.ref f)/\PySem.W.keepIn K (.ref f)=true/\Binds K fd ps []/\Fun K x x st f fd
section
variable {P:Program} {w:World} {K:PySem.W.Frag} {mg:Str->Option Value} {base:Heap}
def DefF.ok {x:Str} {st:Stmt} {N ps:List Str} {k:Nat} {sp:Sp} (F:DefF K mg x st ps) (S:FnScope N ps (ab st)) (len:∀ vs H Q E,sp vs H Q E->vs.length=ps.length)
  (hbody:∀ (f:Addr) (cdv:Value) (A:Around) (outer:List Env) (s:Shared) (H:Hp) (vs:List V) (Q:VK) (E:XK),Room k (A.deeper (envOfC x (ab st) s.heap.objs.size f cdv))->sp vs H Q E→
   ∃ t,PSs (ji CX0 P w K mg base N x (ab st) f cdv A outer s H E).nox (aM st) t/\t {nx:=fun _ H'=>Q .non H',rt:=Q} (start N vs) H):OkF P w K mg base x (k+1) ps sp:=by
 obtain ⟨f,fd,h1,h2,h3,h4⟩:=F.ex
 exact ⟨f,fd,h1,h2,h3,h4.ok S len (hbody f)⟩
def DefF.mk' {x:Str} {st:Stmt} {ps:List Str} {f:Addr} {oc:Value} {od an:Option Addr} {osl:Array (Option Value)} {kV doc pm cdv ct:Value} {h:Heap} (X:K.In h) (G:h.Ns mainGlobals mg)
  (a:PySem.W.nsIn K mainGlobals x=some (some (.ref f)))
  (l:K.lookup f=some ⟨oc,od,.func (PySem.W.fnOf x x (bA st) (aM st) (ab st) .none kV doc pm an cdv ct),osl⟩) (c:PySem.W.codeIn K cdv x=true) (k:PySem.W.keepIn K (.ref f)=true)
  (hb:∀ (kV doc pm:Value) (an:Option Addr) (cdv ct:Value) (us:List Value),us.length=ps.length->bindArgs (PySem.W.fnOf x x (bA st) (aM st) (ab st) .none kV doc pm an cdv ct) ⟨us,[]⟩=pure (ps.zip us)):DefF K mg x st ps:=
 ⟨f,_,PySem.W.mg_of X G a,k,(lW l c k).binds hb,lW l c k⟩
end
section
variable {X:Cx} {k:Nat} {ps:List Str} {sp:Sp} {x:Str} {p pos:Pos} {e:Expr} {es:List Expr} {t:TA}
def tY (F:OkF X.prog X.w X.K X.mg X.base x k ps sp) (hr:Room k X.A) (hg:Gl X x) (ha:PA X (e::es) t) (hdb:(x==("__debug__":Str))=false:=by decide)
  (he:starEach (e::es) X.env=(false,eval e X.env)::starEach es X.env:=by rfl) (hpl:(backTo pos (starEach es X.env)).any (·.1)=false:=by rfl):PE X (.Call (.Name x p) (e::es) [] pos) (tH sp [] E0 t):=by
 obtain ⟨f,fd,h1,h2,h3,h4⟩:=F.ex
 exact vY h4 hr hg h1 h2 h3 .nil Bq ha hdb he hpl
end
noncomputable def xZ (N:List Str) (outer scope:Scope) (M:List Str) (src:List (Option Nat)):Bool:=
 (match scope.kind with | .function=>true | _=>false)&&
 scope.names.all (fun y=>decide (y.2≠.cell))&&
 scope.names.all (fun y=>!decide (y.2=.free)||(decide (outer.names.lookup y.1=some .cell)||decide (outer.names.lookup y.1=some .free)))&&
 scope.names.all (fun y=>!decide (y.2=.local)||decide (scope.names.lookup y.1=some .local))&&
 scope.names.all (fun y=>!decide (y.2=.free)||decide (scope.names.lookup y.1=some .free))&&
 decide (M.length=src.length)&&decide M.Nodup&&
 (M.zip src).all (fun p=>match p.2 with | none=>true | some j=>decide (N[j]?=some p.1)&&decide ((p.1,NameKind.free)∈scope.names))
def CmpScope.of {N:List Str} {outer scope:Scope} {M:List Str} {src:List (Option Nat)} (h:xZ N outer scope M src=true):CmpScope N outer scope M src:=by
 unfold xZ at h
 simp only [Bool.and_eq_true,List.all_eq_true,Bool.or_eq_true,Bool.not_eq_true',decide_eq_true_eq,decide_eq_false_iff_not] at h
 obtain ⟨⟨⟨⟨⟨⟨⟨h1,h2⟩,h3⟩,h4⟩,h5⟩,h6⟩,h7⟩,h8⟩:=h
 refine ⟨?_,h2,fun y hy e=>(h3 y hy).resolve_left fun z=>z e,fun y hy e=>(h4 y hy).resolve_left fun z=>z e,fun y hy e=>(h5 y hy).resolve_left fun z=>z e,h6,h7,fun p hp j hj=>?_⟩
 · revert h1
   cases scope.kind<;>simp
 · have:=h8 p hp
   cases e:p.2 with
   | none=>rw [e] at hj;cases hj
   | some j' =>
    rw [e] at hj this
    cases hj
    simpa using this
def Plain (J:It) (xs:List V) (ok:Hp->Prop):Prop:=∀ i H,ok H->(i<xs.length->J.go i H)/\(i=xs.length->J.stop i H)/\∀ x H',i<xs.length->J.yld i H x H'->H'=H/\xs[i]?=some x
def plain_list {K:PySem.W.Frag} {a:Addr} {xs:List V}:Plain (Itl K a) xs (fun H=>SqL K H a xs):=fun i H h =>
 ⟨fun hi=>⟨xs,xs[i],h,by simp [hi]⟩,fun e=>⟨xs,h,by omega⟩,fun x H' _ y=>⟨y.1,y.2 xs h⟩⟩
def plain_tup {K:PySem.W.Frag} {a:Addr} {xs:List V}:Plain (Itt K a) xs (fun H=>SqT K H a xs):=fun i H h =>
 ⟨fun hi=>⟨xs,xs[i],h,by simp [hi]⟩,fun e=>⟨xs,h,by omega⟩,fun x H' _ y=>⟨y.1,y.2 xs h⟩⟩
def cA (lo:Int) (n:Nat):List V:=(List.range n).map fun (i:Nat)=>V.int (lo+i)
def plain_range {lo:Int} {n:Nat}:Plain (Itr lo n) (cA lo n) (fun _=>True):=fun i H h=>by
 refine ⟨fun hi=>?_,fun e=>?_,fun x H' hi y=>?_⟩
 · show i<n
   simpa [cA] using hi
 · show n<=i
   simp [cA] at e
   omega
 · obtain ⟨e,rfl⟩:=y
   refine ⟨e,?_⟩
   unfold cA at hi ⊢
   rw [List.length_map,List.length_range] at hi
   rw [List.getElem?_map,List.getElem?_range hi]
   rfl
def qu (x:Str):List V:=x.cps.toList.map fun c=>V.str ⟨#[c]⟩
def plain_str {x:Str}:Plain (Its x) (qu x) (fun _=>True):=fun i H h=>by
 refine ⟨fun hi=>?_,fun e=>?_,fun v H' hi y=>?_⟩
 · show i<x.cps.size
   simpa [qu] using hi
 · show i=x.cps.size
   simpa [qu] using e
 · obtain ⟨e,c,hc,rfl⟩:=y
   refine ⟨e,?_⟩
   unfold qu
   rw [List.getElem?_map,Array.getElem?_toList,hc]
   rfl
noncomputable def ya (src:List (Option Nat)) (g:TG) (tt:TT) (te:TE) (σ:St) (J:It) (H1:Hp) (Q:VK) (D:Addr):Prop:=∃ W:Nat->Nat->Hp->Prop,(∃ m,W 0 m (upd H1 D (.lst [])))/\∀ i m H,W i m H→
 (J.stop i H/\Q (.ref D) H)∨(J.go i H/\∃ N:Hp->Prop,(∀ H',N H'->∃ m',m'<m/\W (i+1) m' H')/\∀ x H',J.yld i H x H'→
  g x (stC src σ) H' fun σ2 H2=>Wk (stC src σ) σ2/\tt σ2 H2 fun b H3=>if b=true then te σ2 H3 fun v H4=>∃ ys,H4 D=some (.lst ys)/\ys.length<sizeLine/\N (upd H4 D (.lst (ys++[v]))) else N H3)
def tZ {src:List (Option Nat)} {wi:TI} {g:TG} {tt:TT} {te:TE} {σ:St} {H:Hp} {Q:VK}:kU src wi g tt te σ H Q=wi σ H fun J H1=>∀ D,H1 D=none->ya src g tt te σ J H1 Q D:=rfl
noncomputable def ForW (g:TG) (tb:TS) (D:Ends) (J:It) (σ:St) (H1:Hp):Prop:=∃ W:Nat->Nat->St->Hp->Prop,(∃ m,W 0 m σ H1)/\∀ i m σ H,W i m σ H→
 (J.stop i H/\D.nx σ H)∨(J.go i H/\∃ N:St->Hp->Prop,(∀ σ' H',N σ' H'->∃ m',m'<m/\W (i+1) m' σ' H')/\∀ x H',J.yld i H x H'->g x σ H' fun σ2 H2=>tb {D with nx:=N,ct:=N,bk:=D.nx} σ2 H2)
def l3 {wi:TI} {g:TG} {tb:TS} {D:Ends} {σ:St} {H:Hp}:tFor wi g tb D σ H=wi σ H fun J H1=>ForW g tb D J σ H1:=rfl
def t4 {X:Cx} {x:Str} {v:V} {pos:Pos} (hg:Gl X x) (hm:∃ u,X.mg x=some u/\RelV v u) (hd:(x==("__debug__":Str))=false:=by decide):PE X (.Name x pos) (tC v):=by
 obtain ⟨u,h1,h2⟩:=hm
 exact vS hg h1 h2 hd
abbrev ic (qual:Str) (scope:Scope) (L f:Addr) (cd:Value) (cl:List (Str×Addr)):Env:=PySem.W.envX qual scope L f cd (cellsFrom (L+1) scope.names []++cl)
noncomputable def mW (CX:CXT) (P:Program) (w:World) (K:PySem.W.Frag) (mg:Str->Option Value) (base:Heap) (N:List Str) (qual:Str) (scope:Scope) (f:Addr) (cd:Value) (cl:List (Str×Addr)) (A:Around) (outer:List Env) (s:Shared) (H:Hp) (E:XK) (xe:Value->Shared->Prop):Cx where
 prog:=P
 w:=w
 K:=K
 mg:=mg
 base:=base
 A:=A.deeper (ic qual scope s.heap.objs.size f cd cl)
 N:=N
 s₀:=s
 H₀:=H
 env:=ic qual scope s.heap.objs.size f cd cl
 outer:=outer
 stack:=ic qual scope s.heap.objs.size f cd cl::outer
 ex:=[]
 calm:=true
 fn:=fun x=>(scope.names.lookup x != some .free)
 pn:=[]
 xe:=xe
structure ClScope (N ps fr:List Str) (sc:Scope):Prop where
 kind:sc.kind=.function
 co:sc.isCoroutine=false
 gen:sc.isGenerator=false
 nd:N.Nodup
 pre:N.take ps.length=ps
 post:N.drop (N.length-fr.length)=fr
 room:ps.length+fr.length<=N.length
 par:∀ x∈ps,sc.names.lookup x=some .local∨sc.names.lookup x=some .cell
 frk:∀ x∈fr,sc.names.lookup x=some .free
 all:∀ x,sc.names.lookup x=some .free->x∈fr
def dv (N:List Str) (vs fs:List V):St:=vs.map some++(List.replicate (N.length-vs.length-fs.length) none++fs.map some)
def fw (c:Addr) (o:Obj):HO:=.frz o (.ext fun h=>h.get? c=some o)
def b7 (H:Hp) (cl:List (Str×Addr)):Hp:=fun b=>if b∈cl.map (·.2) then none else H b
def eh (H:Hp) (cl:List (Str×Addr)) (H':Hp):Hp:=fun b=>if b∈cl.map (·.2) then H b else H' b
def iL {n:Nat} {sc:Scope} {x:Str} (h:sc.names.lookup x≠some .cell) (nd:∀ y∈sc.names,y.1=x->sc.names.lookup x=some y.2):(cellsFrom n sc.names []).lookup x=none:=by
 have key:∀ (names:List (Str×NameKind)) (n:Nat) (acc:List (Str×Addr)),(∀ y∈names,y.1=x->y.2≠.cell)->acc.lookup x=none->(cellsFrom n names acc).lookup x=none:=fun names=>by
  induction names with
  | nil=>intro n acc _ h;exact h
  | cons y r ih =>
   intro n acc hy ha
   obtain ⟨a,k⟩:=y
   unfold cellsFrom
   split
   · rename_i hk
     refine ih _ _ (fun z hz=>hy z (.tail _ hz)) ?_
     rw [List.lookup_cons]
     cases hb:x==a with
     | false=>exact ha
     | true=>exact absurd (by simpa using hk) (hy (a,k) (.head _) (beq_iff_eq.mp hb).symm)
   · exact ih _ _ (fun z hz=>hy z (.tail _ hz)) ha
 exact key sc.names n [] (fun y hy e hk=>h (by rw [nd y hy e,hk])) rfl
structure ClAt (H:Hp) (f:Addr) (name qual:Str) (params:Arguments) (body:List Stmt) (scope:Scope) (cl:List (Str×Addr)) (fr:List Str) (fs:List V) (c':Addr) (doc pm ctv:Value) (fo:Obj) (uf:HO):Prop where
 fn:H f=some (.frz fo uf)
 dat:fo.data=.func (PySem.W.fnX name qual params body scope cl .none .none doc pm none (.ref c') ctv)
 cod:∃ oc,H c'=some (.frz oc (.code qual))
 cel:∀ x c,(x,c)∈cl->∃ o u,H c=some (fw c o)/\o.data=.cell (some u)
 inj:∀ x y c,cl.lookup x=some c->cl.lookup y=some c->x=y
 len:fs.length=fr.length
 val:∀ (i:Nat) (x:Str) (v:V),fr[i]?=some x->fs[i]?=some v->∃ c o u,cl.lookup x=some c/\H c=some (fw c o)/\o.data=.cell (some u)/\RelV v u
 nms:∀ x c,cl.lookup x=some c->scope.names.lookup x=some .free
section
variable {P:Program} {w:World} {H:Hp} {h:Heap} {cl:List (Str×Addr)}
def ie {b:Addr} (hb:b∈cl.map (·.2)):b7 H cl b=none:=if_pos hb
def aW {b:Addr} (hb:b∉cl.map (·.2)):b7 H cl b=H b:=if_neg hb
def kY {b:Addr} {o:HO} (h:b7 H cl b=some o):b∉cl.map (·.2)/\H b=some o:=by
 by_cases hb:b∈cl.map (·.2)
 · rw [ie hb] at h;cases h
 · rw [aW hb] at h;exact ⟨hb,h⟩
def ig {b:Addr} (hb:b∈cl.map (·.2)):∃ x,(x,b)∈cl:=by
 obtain ⟨⟨x,c⟩,hm,rfl⟩:=List.mem_map.mp hb
 exact ⟨x,hm⟩
def HOk.hide (ok:HOk P w H h) (cel:∀ x c,(x,c)∈cl->∃ o u,H c=some (fw c o)/\o.data=.cell (some u)):HOk P w (b7 H cl) h:=fun b u e=>by
 obtain ⟨hb,e⟩:=kY e
 have out:∀ c o,H c=some o->(∀ ob φ,o≠.frz ob (.ext φ))->b7 H cl c=some o:=fun c o q hn=>by
  rw [aW fun z=>?_]
  · exact q
  · obtain ⟨x,hx⟩:=ig z
    obtain ⟨ob,u,g,_⟩:=cel x c hx
    rw [q] at g
    exact hn _ _ (Option.some.inj g)
 exact (ok b u e).stay (fun _ _ _ q=>q) (fun c q=>out c _ q fun _ _ z=>nomatch z) (fun c xs q=>out c _ q fun _ _ z=>nomatch z) fun c ob xs q=>out c _ q fun _ _ z=>nomatch z
end
section
variable {CX:CXT} {P:Program} {w:World} {K:PySem.W.Frag} {mg:Str->Option Value} {base:Heap} {N ps fr:List Str} {name qual:Str} {params:Arguments} {body:List Stmt} {scope:Scope} {f c':Addr} {cl:List (Str×Addr)} {A:Around} {outer:List Env} {s s1:Shared} {H:Hp} {E:XK} {us:List Value} {vs fs:List V} {doc pm ctv:Value} {fo:Obj} {uf:HO} {xe:Value->Shared->Prop}
def oZ (S:ClScope N ps fr scope) (C:ClAt H f name qual params body scope cl fr fs c' doc pm ctv fo uf) (ndn:∀ x,∀ y∈scope.names,y.1=x->scope.names.lookup x=some y.2) (hd:A.handled=none) (e0:Env0 P w K mg base A outer s H) (hl:vs.length=ps.length) (r:Vals vs us)
  (x:InCallC s s.heap.objs.size (bindL (ic qual scope s.heap.objs.size f (.ref c') cl).kindOf (ps.zip us) fun _=>none) (cellsFrom (s.heap.objs.size+1) scope.names []) (bindC (ic qual scope s.heap.objs.size f (.ref c') cl).kindOf (ps.zip us) fun _=>none) s1) :
  Inv (mW CX P w K mg base N qual scope f (.ref c') cl A outer s (b7 H cl) E xe) [] (dv N vs fs) (b7 H cl) s1:=by
 obtain ⟨h1,tk,rfl,hk⟩:=x.done
 have hplen:ps.length<=N.length:=Nat.le_trans (Nat.le_add_right _ _) S.room
 have own:∀ y c,(cellsFrom (s.heap.objs.size+1) scope.names []).lookup y=some c->scope.names.lookup y=some .cell:=fun y c h=>by
  apply Classical.byContradiction
  intro hn
  rw [iL hn (ndn y)] at h
  cases h
 have ofcl:∀ y c,cl.lookup y=some c->∃ o u,s.heap.get? c=some o/\o.data=.cell (some u)/\c<s.heap.objs.size:=fun y c h=>by
  obtain ⟨o,u,g,d⟩:=C.cel y c (PySem.mem_of_lookup h)
  have q:=(e0.hok c _ g).1
  exact ⟨o,u,q,d,Heap.lt_size q⟩
 have split:∀ y c,(cellsFrom (s.heap.objs.size+1) scope.names []++cl).lookup y=some c->((cellsFrom (s.heap.objs.size+1) scope.names []).lookup y=some c/\s.heap.objs.size<c)∨(cl.lookup y=some c/\c<s.heap.objs.size):=fun y c h=>by
  rw [cL] at h
  cases q:(cellsFrom (s.heap.objs.size+1) scope.names []).lookup y with
  | some d =>
   rw [q] at h
   cases h
   exact .inl ⟨rfl,x.above y _ (PySem.mem_of_lookup q)⟩
  | none =>
   rw [q] at h
   have h:cl.lookup y=some c:=h
   exact .inr ⟨h,let ⟨_,_,_,_,z⟩:=ofcl y c h;z⟩
 have noA:∀ b:Addr,b∉(mW CX P w K mg base N qual scope f (.ref c') cl A outer s (b7 H cl) E xe).ex:=fun b z=>absurd (show b∈([]:List Addr) from z) (by simp)
 have hn:∀ b,H b=none->b7 H cl b=none:=fun b h=>by
  by_cases hb:b∈cl.map (·.2)
  · exact ie hb
  · rw [aW hb];exact h
 have htb:∀ p∈cI K,b7 H cl p.1=some (.ctab p.2):=fun p hp=>by
  rw [aW fun z=>?_]
  · exact e0.tb p hp
  · obtain ⟨x,hx⟩:=ig z
    obtain ⟨o,u,g,_⟩:=C.cel x _ hx
    rw [e0.tb p hp] at g
    cases g
 refine ⟨⟨e0.mod,S.kind,rfl,rfl,nL _,fun y z c h1 h2=>?_,fun y hy=>?_,fun y c hf h=>?_,fun _=>hd,Around.frames_deeper e0.frames,.inr ⟨rfl,rfl⟩,fun b z=>absurd z (noA b),fun b o e=>⟨(e0.bs b o e).1,hn b (e0.bs b o e).2⟩,e0.bsz,fun b _ _=>noA b,fun b z=>absurd z (noA b),e0.funs,fun b hb=>hn b (e0.frf b hb),htb⟩,
  rfl,e0.bare,Un.kept hk,⟨_,x.toInCall.ns,fun i y v h1 h2 h3=>?_⟩,fun y c h=>?_,hn _ (e0.hok.fresh (Nat.le_refl _)),fun y c h=>?_,fun p hp=>absurd (show p∈([]:List (Addr×Obj)) from hp) (by simp),(e0.hok.hide C.cel).kept hk,?_⟩
 · rcases split y c h1 with ⟨g1,l1⟩ | ⟨g1,l1⟩<;>rcases split z c h2 with ⟨g2,l2⟩ | ⟨g2,l2⟩
   · exact name_of_addr x.apart (PySem.mem_of_lookup g1) (PySem.mem_of_lookup g2)
   · exact absurd l2 (Nat.lt_asymm l1)
   · exact absurd l1 (Nat.lt_asymm l2)
   · exact C.inj y z c g1 g2
 · have hy:scope.names.lookup y=some .cell∨scope.names.lookup y=some .free:=hy
   show ∃ c,(cellsFrom (s.heap.objs.size+1) scope.names []++cl).lookup y=some c
   rw [cL]
   rcases hy with hy | hy
   · obtain ⟨c,e⟩:=hX (n:=s.heap.objs.size+1) hy
     exact ⟨c,by rw [e];rfl⟩
   · rw [iL (by rw [hy];decide) (ndn y)]
     obtain ⟨i,hi⟩:=List.getElem?_of_mem (S.all y hy)
     have hlt:i<fs.length:=by rw [C.len];exact (gX hi).1
     obtain ⟨c,_,_,e,_⟩:=C.val i y fs[i] hi (by simp [hlt])
     exact ⟨c,e⟩
 · have hf:(scope.names.lookup y != some .free)=true:=hf
   rcases split y c h with ⟨_,l1⟩ | ⟨g1,_⟩
   · exact Nat.le_of_lt l1
   · rw [C.nms y c g1] at hf
     simp at hf
 · by_cases hi:i<vs.length
   · have ha:vs[i]?=some v:=by
      unfold dv at h2
      rw [List.getElem?_append_left (by simpa using hi),List.getElem?_map] at h2
      cases e:vs[i]? with
      | none=>rw [e] at h2;cases h2
      | some a=>rw [e] at h2;cases h2;rfl
     obtain ⟨u,hu,rv⟩:=r.get ha
     have hp:ps[i]?=some y:=by
      rw [<- S.pre,List.getElem?_take_of_lt (by omega)];exact h1
     have ndP:ps.Nodup:=by rw [<- S.pre];exact S.nd.sublist (List.take_sublist _ _)
     refine ⟨u,rv,?_⟩
     rcases S.par y (List.mem_of_getElem? hp) with k | k
     · exact .inl ⟨k,iH ndP hp hu k⟩
     · obtain ⟨c,e⟩:=hX (n:=s.heap.objs.size+1) k
       refine .inr ⟨.inl k,c,?_,?_⟩
       · show (cellsFrom (s.heap.objs.size+1) scope.names []++cl).lookup y=some c
         rw [cL,e]
         rfl
       · have q:=x.cell y c e
         rw [iI ndP hp hu (by show scope.names.lookup y≠_;rw [k];decide)] at q
         exact q
   · unfold dv at h2
     rw [List.getElem?_append_right (by simpa using hi)] at h2
     rw [List.length_map] at h2
     by_cases hj:i-vs.length<N.length-vs.length-fs.length
     · rw [List.getElem?_append_left (by simpa using hj),List.getElem?_replicate] at h2
       split at h2<;>cases h2
     · rw [List.getElem?_append_right (by simpa using hj),List.length_replicate,List.getElem?_map] at h2
       obtain ⟨v',hv,e⟩:=mS h2
       cases e
       have hroom:=S.room
       have hfl:=C.len
       have hfr:fr[i-vs.length-(N.length-vs.length-fs.length)]?=some y:=by
        rw [<- S.post,List.getElem?_drop]
        rw [show N.length-fr.length+(i-vs.length-(N.length-vs.length-fs.length))=i by omega]
        exact h1
       obtain ⟨c,o,u,e1,e2,e3,e4⟩:=C.val _ y v hfr hv
       refine ⟨u,e4,.inr ⟨.inr (C.nms y c e1),c,?_,?_⟩⟩
       · show (cellsFrom (s.heap.objs.size+1) scope.names []++cl).lookup y=some c
         rw [cL,iL (by rw [C.nms y c e1];decide) (ndn y),e1]
         rfl
       · exact ⟨o,hk c o (e0.hok c _ e2).1,e3⟩
 · rcases split y c h with ⟨g1,_⟩ | ⟨g1,_⟩
   · exact ⟨_,x.cell y c g1⟩
   · obtain ⟨o,u,q,d,_⟩:=ofcl y c g1
     exact ⟨_,o,hk c o q,d⟩
 · rcases split y c h with ⟨_,l1⟩ | ⟨g1,_⟩
   · exact hn _ (e0.hok.fresh (Nat.le_of_lt l1))
   · exact ie (List.mem_map.mpr ⟨(y,c),PySem.mem_of_lookup g1,rfl⟩)
 · unfold dv
   show _=N.length
   rw [List.length_append,List.length_append,List.length_map,List.length_replicate,List.length_map]
   have:=S.room
   have:=C.len
   omega
def t5 {k:Nat} {args:Args} {Q:VK} (S:ClScope N ps fr scope) (C:ClAt H f name qual params body scope cl fr fs c' doc pm ctv fo uf) (ndn:∀ x,∀ y∈scope.names,y.1=x->scope.names.lookup x=some y.2) (hr:Room (k+1) A) (e0:Env0 P w K mg base A outer s H)
  (hb:BindsTo s (PySem.W.fnX name qual params body scope cl .none .none doc pm none (.ref c') ctv) args (ps.zip us)) (hl:vs.length=ps.length) (r:Vals vs us)
  (hbody:Room k (A.deeper (ic qual scope s.heap.objs.size f (.ref c') cl))->∃ t,PSs (mW CX P w K mg base N qual scope f (.ref c') cl A outer s (b7 H cl) E fun _ _=>False) body t/\t {nx:=fun _ H'=>(∀ b∈cl.map (·.2),H' b=none)->Q .non (eh H cl H'),rt:=fun v H'=>(∀ b∈cl.map (·.2),H' b=none)->Q v (eh H cl H')} (dv N vs fs) (b7 H cl)) :
  codeAny (model P w) A (.call (.ref f) args) (CR CX outer P w H s Q E) s:=by
 have KX:K.In s.heap:=e0.mod.kin.keeps fun b o e=>(e0.bs b o e).1
 have lim:s.heap.NoLimit:=e0.mod.nolimit.keeps fun b o e=>(e0.bs b o e).1
 have hkind:∀ y∈ps.zip us,scope.names.lookup y.1=some .local∨(scope.names.lookup y.1=some .cell/\((cellsFrom (s.heap.objs.size+1) scope.names []).lookup y.1).isSome=true):=fun ⟨n,v⟩ hy=>by
  rcases S.par n (List.of_mem_zip hy).1 with q | q
  · exact .inl q
  · exact .inr ⟨q,PySem.W.cellsFrom_some _ _ _ (.inl q)⟩
 refine codeAny_call_function hr.depth (e0.hok f _ C.fn).1 C.dat S.co S.gen rfl (let ⟨_,z⟩:=C.cod;(e0.hok c' _ z).2) (hb _ _ _ _ ?_)
 refine wg S.kind hkind fun env he s1 x=>?_
 subst he
 refine ⟨lim.keeps x.toInCall.keep,codeAny_func ?_⟩
 obtain ⟨t,ht,hq⟩:=hbody (hr.deeper _)
 have I:Inv (mW CX P w K mg base N qual scope f (.ref c') cl A outer s (b7 H cl) E fun _ _=>False) [] (dv N vs fs) (b7 H cl) s1:=oZ S C ndn hr.hd e0 hl r x
 refine wpAny_mono (ht [] s1 (dv N vs fs) (b7 H cl) _ I hq) (fun fl s' hs=>?_) fun e s' hs=>hs.elim
 have fin:∀ {σ':St} {H':Hp} {v:V} {u:Value},Inv (mW CX P w K mg base N qual scope f (.ref c') cl A outer s (b7 H cl) E fun _ _=>False) [] σ' H' s'->RelV v u->((∀ b∈cl.map (·.2),H' b=none)->Q v (eh H cl H'))->CE outer P w H s Q u s':=fun {σ' H' v u} J rv q=>by
  have cn:∀ b,b∈cl.map (·.2)->∃ o u,H b=some (fw b o)/\o.data=.cell (some u):=fun b hb=>by
   obtain ⟨x,hx⟩:=ig hb
   exact C.cel x b hx
  have kc:∀ b o,b∈cl.map (·.2)->s.heap.get? b=some o->s'.heap.get? b=some o/\H' b=none:=fun b o hb q=>by
   obtain ⟨o',u,g,d⟩:=cn b hb
   have hfs:b∉frs outer:=fun z=>by have:=e0.frf b z;rw [g] at this;cases this
   exact ⟨J.base.keep b o q (ie hb) hfs (fun z=>absurd (show b∈([]:List Addr) from z) (by simp)),J.base.free b o q (ie hb) (fun z=>absurd (show b∈([]:List Addr) from z) (by simp))⟩
  have sin:∀ {b:Addr},b∈cl.map (·.2)->eh H cl H' b=H b:=fun hb=>if_pos hb
  have sout:∀ {b:Addr},b∉cl.map (·.2)->eh H cl H' b=H' b:=fun hb=>if_neg hb
  have hnot:∀ (b:Addr) (o:HO),H b=some o->(∀ ob φ,o≠.frz ob (.ext φ))->b∉cl.map (·.2):=fun b o q hno z=>by
   obtain ⟨ob,u,g,_⟩:=cn b z
   rw [q] at g
   exact hno _ _ (Option.some.inj g)
  have q:=q fun b hb=>by
   obtain ⟨o',u',g,d⟩:=cn b hb
   exact (kc b o' hb (e0.hok b _ g).1).2
  refine ⟨v,eh H cl H',J.os,J.bare,⟨fun b o q n hb hx=>?_,fun b o q n hb hx=>?_,fun b o q n hx=>?_,fun b o q hx=>?_,fun b xs q=>?_,fun b o u q=>?_,fun b ps q=>?_,fun b qs q=>?_⟩,fun b o q=>?_,rv,q⟩
  · have hc:b∉cl.map (·.2):=fun z=>by obtain ⟨_,_,g,_⟩:=cn b z;rw [n] at g;cases g
    exact J.base.keep b o q ((aW hc).trans n) hb (fun z=>absurd (show b∈([]:List Addr) from z) (by simp))
  · have hc:b∉cl.map (·.2):=fun z=>by obtain ⟨_,_,g,_⟩:=cn b z;rw [n] at g;cases g
    exact J.base.slot b o q ((aW hc).trans n) hb (fun z=>absurd (show b∈([]:List Addr) from z) (by simp))
  · have hc:b∉cl.map (·.2):=fun z=>by obtain ⟨_,_,g,_⟩:=cn b z;rw [n] at g;cases g
    rw [sout hc]
    exact J.base.free b o q ((aW hc).trans n) (fun z=>absurd (show b∈([]:List Addr) from z) (by simp))
  · exact J.base.there b o q (fun z=>absurd (show b∈([]:List Addr) from z) (by simp))
  · have hc:=hnot b _ q fun _ _ z=>nomatch z
    rw [sout hc]
    exact J.base.tups b xs ((aW hc).trans q)
  · by_cases hc:b∈cl.map (·.2)
    · rw [sin hc];exact q
    · rw [sout hc]
      exact J.base.frzs b o u ((aW hc).trans q)
  · have hc:=hnot b _ q fun _ _ z=>nomatch z
    rw [sout hc]
    exact J.base.tbls b ps ((aW hc).trans q)
  · have hc:=hnot b _ q fun _ _ z=>nomatch z
    rw [sout hc]
    exact J.base.cts b qs ((aW hc).trans q)
  · by_cases hc:b∈cl.map (·.2)
    · rw [sin hc] at q
      obtain ⟨ob,u,g,d⟩:=cn b hc
      rw [q] at g
      cases g
      have e1:=(e0.hok b _ q).1
      have e2:=(kc b ob hc e1).1
      exact ⟨e2,e2,⟨ob,e2⟩,fun h1 h2 z1 z2=>z2 ob z1⟩
    · rw [sout hc] at q
      have up:∀ c o,H' c=some o->eh H cl H' c=some o:=fun c o z=>by
       by_cases hcc:c∈cl.map (·.2)
       · obtain ⟨ob,u,g,d⟩:=cn c hcc
         have e1:=(e0.hok c _ g).1
         rw [(kc c ob hcc e1).2] at z
         cases z
       · rw [sout hcc];exact z
      exact (J.hok b o q).stay (fun _ _ _ z=>z) (fun c z=>up c _ z) (fun c xs z=>up c _ z) fun c ob xs z=>up c _ z
 cases fl with
 | ret u =>
  obtain ⟨v,σ',H',J,rv,q⟩:=hs
  exact fin J rv q
 | next =>
  obtain ⟨σ',H',J,q⟩:=hs
  exact fin (v:=V.non) (u:=Value.none) J rfl q
 | brk =>
  obtain ⟨_,_,_,q⟩:=hs
  exact False.elim q
 | cont =>
  obtain ⟨_,_,_,q⟩:=hs
  exact False.elim q
end
structure TabB (mg:Str->Option Value) (base:Heap) (c P:Addr):Prop where
 code:PySem.W.CodeHd base c P
 bm:∃ bm ob,mg "__builtins__"=some (.ref bm)/\bm≠builtinsNs/\base.get? bm=some ob/\ob.cls=.type "module"/\ob.dict=some builtinsNs/\ob.data=.plain
def jb:∀ {l:List Value} {m:List Value},TriplesOk l->TriplesOk m->TriplesOk (l++m)
 | [],m,_,h=>h
 | .int _ _::.int _ _::_::r,m,h,h'=>jb (l:=r) h h'
def kZ {pos:Pos}:∀ {l:List Value} {m:List Value},TriplesOk l->codeAmong pos (l++m)=(codeAmong pos l).or (codeAmong pos m)
 | [],m,_=>by simp [codeAmong]
 | .int a t::.int b u::c::r,m,h=>by
  have h:TriplesOk r:=h
  show (if _ then _ else codeAmong pos (r++m))=Option.or (if _ then _ else codeAmong pos r) _
  split
  · rfl
  · exact kZ h
structure Made (H H':Hp) (lo:Nat) (f c':Addr) (qual:Str) (fo:Obj):Prop where
 fn:H' f=some (.frz fo (.ext fun h=>h.get? f=some fo))
 cod:∃ oc,H' c'=some (.frz oc (.code qual))
 old:∀ b o,H b=some o->H' b=some o
 new:∀ b o,H' b=some o->H b=some o∨(lo<=b/\H b=none)
 lof:lo<=f
section
variable {X:Cx} {pins:List (Addr×Obj)} {σ:St} {H:Hp} {s:Shared} {c P:Addr} {qs:List ((Nat×Nat)×Str)} {name:Str} {params:Arguments} {body:List Stmt} {scope:Scope} {clos:List (Str×Addr)} {pos:Pos}
def wn {Q:Value->Shared->Prop} {A:Around} {E:Value->Shared->Prop} {qual:Str} (I:Inv X pins σ H s) (B:TabB X.mg X.base c P) (hcode:X.env.code=.ref c) (hP:H P=some (.ctab qs)) (hq:((pos.line,pos.col),qual)∈qs) (hun:∀ q,((pos.line,pos.col),q)∈qs->q=qual) (hcl:closureFor scope X.env=pure clos)
  (q:∀ (f c':Addr) (doc pm ctv:Value) (H':Hp) (s':Shared),Made H H' s.heap.objs.size f c' qual {cls:=.type "function",data:=.func (PySem.W.fnX name qual params body scope clos .none .none doc pm none (.ref c') ctv)}->Inv X pins σ H' s'->Q (.ref f) s') :
  wpAny (model X.prog X.w) A (makeFunction name qual params (.stmts body) scope X.env [] [] [] pos pos.line) Q E s:=by
 obtain ⟨ps,hp,ht,hent⟩:=I.hok P _ hP
 have inB:∀ {b:Addr} {o:Obj},X.base.get? b=some o->b≠P:=fun {b o} e z=>by
  have:=(I.bs b o e).2
  rw [z,hP] at this
  cases this
 have hg:s.heap.Ns mainGlobals X.mg:=I.mod.glob.keeps I.bk
 obtain ⟨bm,ob,b1,b2,b3,b4,b5,b6⟩:=B.bm
 have hgP:mainGlobals≠P:=by
  obtain ⟨o,es,ep,e,_⟩:=I.mod.glob
  exact inB e
 have hbG:bm≠mainGlobals:=fun z=>by
  obtain ⟨o,es,ep,e,hd,_⟩:=I.mod.glob
  rw [z,e] at b3;cases b3;rw [hd] at b6;cases b6
 have hB:s.heap.BuiltinsAt X.mg P:=⟨bm,ob,b1,b2,hbG,inB b3,I.bk _ _ b3,b4,b5,b6⟩
 have C:PySem.W.CodeHd s.heap c P:=B.code.keeps I.bk
 have lt:∀ {b:Addr} {o:HO},H b=some o->b<s.heap.objs.size:=fun h=>I.hok.lt h
 cases hf:codeAmong pos ps.toList with
 | some cv =>
  obtain ⟨c',oc,rfl,hc'⟩:=hent pos qual cv hq hf
  refine PySem.W.makeFunction_hit hcl I.ok.glob hg hcode C hp ht hf hB fun ctv doc h' tk hk hsz=>?_
  have hfr:H h'.objs.size=none:=I.hok.fresh hsz
  have I2:=I.laid (a:=h'.objs.size) (o:=.frz {cls:=.type "function",data:=.func (PySem.W.fnX name qual params body scope clos .none .none doc ((X.mg "__name__").getD .none) none (.ref c') ctv)} (.ext fun h=>h.get? h'.objs.size=some {cls:=.type "function",data:=.func (PySem.W.fnX name qual params body scope clos .none .none doc ((X.mg "__name__").getD .none) none (.ref c') ctv)})) (t':=tk) (h':=h'.push {cls:=.type "function",data:=.func (PySem.W.fnX name qual params body scope clos .none .none doc ((X.mg "__name__").getD .none) none (.ref c') ctv)}) (fun b o e=>gP _ (hk b o e)) hsz
   ⟨Heap.get?_push_size _ rfl,Heap.get?_push_size _ rfl,⟨_,Heap.get?_push_size _ rfl⟩,fun h1 h2 z1 z2=>z2 _ z1⟩
  refine q _ c' doc _ ctv _ _ ⟨aD,?_,fun b o e=>?_,fun b o e=>?_,hsz⟩ I2
  · refine ⟨oc,?_⟩
    rw [ax (Nat.ne_of_lt (Nat.lt_of_lt_of_le (lt hc') hsz))]
    exact hc'
  · rw [ax (Nat.ne_of_lt (Nat.lt_of_lt_of_le (lt e) hsz))]
    exact e
  · by_cases hb:b=h'.objs.size
    · exact .inr ⟨by rw [hb];exact hsz,by rw [hb];exact hfr⟩
    · rw [ax hb] at e
      exact .inl e
 | none =>
  refine PySem.W.makeFunction_K hcl I.ok.glob hg hcode C hp ht hf hgP hB fun c' ctv doc h' tk hx hge hlt hrec htb=>?_
  obtain ⟨c2,oc,vs,t,e2,hoc,hrec2⟩:=hrec
  cases e2
  have hfr:H h'.objs.size=none:=I.hok.fresh (Nat.le_trans hge (Nat.le_of_lt hlt))
  have hcr:H c'=none:=I.hok.fresh hge
  have hne:c'≠h'.objs.size:=Nat.ne_of_lt hlt
  generalize hfo:({cls:=.type "function",data:=.func (PySem.W.fnX name qual params body scope clos .none .none doc ((X.mg "__name__").getD .none) none (.ref c') ctv)}:Obj)=fo
  have hfo':(PySem.W.fnMade name qual params body scope clos doc ((X.mg "__name__").getD .none) c' ctv)=fo:=hfo
  rw [hfo']
  have hfree:fo.isFreed=false:=by rw [<- hfo];rfl
  have gf:(h'.push fo).get? h'.objs.size=some fo:=Heap.get?_push_size _ hfree
  let H':Hp:=upd (upd H c' (.frz oc (.code qual))) h'.objs.size (.frz fo (.ext fun h=>h.get? h'.objs.size=some fo))
  have hold:∀ b o,H b=some o->H' b=some o:=fun b o e=>by
   show upd (upd H c' (.frz oc (.code qual))) h'.objs.size _ b=some o
   rw [ax (fun z=>by rw [z,hfr] at e;cases e),ax (fun z=>by rw [z,hcr] at e;cases e)]
   exact e
  have hnew:∀ b o,H' b=some o->H b=some o∨(s.heap.objs.size<=b/\H b=none):=fun b o e=>by
   by_cases h1:b=h'.objs.size
   · exact .inr ⟨by rw [h1];exact Nat.le_trans hge (Nat.le_of_lt hlt),by rw [h1];exact hfr⟩
   · by_cases h2:b=c'
     · exact .inr ⟨by rw [h2];exact hge,by rw [h2];exact hcr⟩
     · have e:upd (upd H c' (.frz oc (.code qual))) h'.objs.size _ b=some o:=e
       rw [ax h1,ax h2] at e
       exact .inl e
  have kp:∀ b o,b≠P->s.heap.get? b=some o->(h'.push fo).get? b=some o:=fun b o hb e=>gP _ (hx b o hb e)
  have hcod:H' c'=some (.frz oc (.code qual)):=by
   show upd (upd H c' (.frz oc (.code qual))) h'.objs.size _ c'=_
   rw [ax hne,aD]
  have un:Un X.fs [] H H' s.heap (h'.push fo):=by
   have nP:∀ {b:Addr},H b=none->b≠P:=fun {b} n z=>by rw [z,hP] at n;cases n
   refine ⟨fun b o e n _ _=>kp b o (nP n) e,fun b o e n _ _=>⟨o.slots,by rw [kp b o (nP n) e]⟩,fun b o e n _=>?_,fun b o e _=>?_,fun b xs e=>hold b _ e,fun b o u e=>hold b _ e,fun b ps e=>⟨#[],by rw [hold b _ e];simp⟩,fun b qs e=>hold b _ e⟩
   · cases z:H' b with
     | none=>rfl
     | some w =>
      rcases hnew b w z with y | ⟨y,_⟩
      · rw [n] at y;cases y
      · exact absurd (Heap.lt_size e) (Nat.not_lt.mpr y)
   · by_cases hb:b=P
     · rw [hb]
       exact ⟨_,gP _ htb⟩
     · exact ⟨o,kp b o hb e⟩
  have hok:HOk X.prog X.w H' (h'.push fo):=fun b o e=>by
   by_cases h1:b=h'.objs.size
   · subst h1
     have e:upd (upd H c' (.frz oc (.code qual))) h'.objs.size _ h'.objs.size=some o:=e
     rw [aD] at e
     cases e
     exact ⟨gf,gf,⟨_,gf⟩,fun h1 h2 z1 z2=>z2 _ z1⟩
   · by_cases h2:b=c'
     · subst h2
       rw [hcod] at e
       cases e
       exact ⟨gP _ hoc,b,oc,vs,t,rfl,gP _ hoc,hrec2⟩
     · have eH:H b=some o:=by
        have e:upd (upd H c' (.frz oc (.code qual))) h'.objs.size _ b=some o:=e
        rw [ax h1,ax h2] at e
        exact e
       by_cases h3:b=P
       · subst h3
         rw [hP] at eH
         cases eH
         refine ⟨_,gP _ htb,?_,fun pos' q' v h4 h5=>?_⟩
         · rw [Array.toList_append]
           exact jb ht trivial
         · rw [Array.toList_append,kZ ht] at h5
           cases h6:codeAmong pos' ps.toList with
           | some v' =>
            rw [h6] at h5
            cases h5
            obtain ⟨c2,o2,e1,e2⟩:=hent pos' q' _ h4 h6
            exact ⟨c2,o2,e1,hold _ _ e2⟩
           | none =>
            rw [h6] at h5
            have h5:codeAmong pos' [rawInt pos.line,rawInt pos.col,.ref c']=some v:=h5
            simp only [rawInt,codeAmong] at h5
            split at h5
            · rename_i hh
              cases h5
              refine ⟨c',oc,rfl,?_⟩
              have e1:pos'.line=pos.line/\pos'.col=pos.col:=by
               simp only [Bool.and_eq_true,beq_iff_eq] at hh
               omega
              rw [e1.1,e1.2] at h4
              rw [hun q' h4]
              exact hcod
            · cases h5
       · refine (I.hok b o eH).stay (fun d u hd z=>kp d u ?_ z) (fun d z=>hold d _ z) (fun d xs z=>hold d _ z) fun d ob xs z=>hold d _ z
         rcases hd with rfl | hd
         · exact h3
         · intro z
           rw [z,hP] at hd
           cases hd
  exact q _ c' doc _ ctv H' _ ⟨by show upd _ _ _ _=_;rw [aD,<- hfo],⟨oc,hcod⟩,hold,hnew,Nat.le_trans hge (Nat.le_of_lt hlt)⟩ (I.un (t':=tk) un hok)
end
section
variable {X:Cx} {K:PySem.W.Frag} {tg:Expr}
end
def t6 (scope outer:Scope):Scope:={scope with names:=scope.names.map fun (n,k)=>if (k==.free&&outer.kind==.function&&outer.names.lookup n==some .cell) then (n,.cell) else (n,k)}
noncomputable def cy (sc:Scope) (N:List Str) (i:Nat) (x:Str):Bool:=
 decide (N[i]?=some x)&&(decide (sc.names.lookup x=some .local)||(decide (sc.names.lookup x=some .cell)||decide (sc.names.lookup x=some .free)))&&!(x==("__debug__":Str))&&!(x==("__classdict__":Str))
def ii (sc:Scope) (x:Str):Bool:=decide (sc.names.lookup x=some .local)||decide (sc.names.lookup x=some .cell)
def aF (sc:Scope) (x:Str):Bool:=decide (sc.names.lookup x=some .globalImplicit)&&!(x==("__debug__":Str))&&!decide (x=("__name__":Str))
section
variable {sc:Scope} {N:List Str} {i:Nat} {x:Str}
def gO (h:cy sc N i x=true):N[i]?=some x:=by
 unfold cy at h
 simp only [Bool.and_eq_true,decide_eq_true_eq] at h
 exact h.1.1.1
def zD (h:cy sc N i x=true):Vis sc x:=by
 unfold cy at h
 simp only [Bool.and_eq_true,Bool.or_eq_true,decide_eq_true_eq] at h
 exact h.1.1.2
def zE (h:cy sc N i x=true):(x==("__debug__":Str))=false:=by
 unfold cy at h
 simp only [Bool.and_eq_true,Bool.not_eq_true'] at h
 exact h.1.2
def Br (h:cy sc N i x=true):(x==("__classdict__":Str))=false:=by
 unfold cy at h
 simp only [Bool.and_eq_true,Bool.not_eq_true'] at h
 exact h.2
def jI (h:ii sc x=true):Loc sc x:=by
 unfold ii at h
 simp only [Bool.or_eq_true,decide_eq_true_eq] at h
 exact h
def y66 (h:aF sc x=true):sc.names.lookup x=some .globalImplicit:=by
 unfold aF at h
 simp only [Bool.and_eq_true,decide_eq_true_eq] at h
 exact h.1.1
def jJ (h:aF sc x=true):(x==("__debug__":Str))=false:=by
 unfold aF at h
 simp only [Bool.and_eq_true,Bool.not_eq_true'] at h
 exact h.1.2
def y56 (h:aF sc x=true):x≠("__name__":Str):=by
 unfold aF at h
 simp only [Bool.and_eq_true,Bool.not_eq_true',decide_eq_false_iff_not] at h
 exact h.2
end
def bK (X:Cx) (sc:Scope):Prop:=X.env.scope=sc
section
variable {X:Cx} {sc:Scope} {N:List Str} {x:Str} {pos p:Pos}
def pvD (i:Nat) (h:cy sc N i x=true) (e1:bK X sc:=by rfl) (e2:X.N=N:=by rfl):PE X (.Name x pos) (jh i):=by
 have e1:X.env.scope=sc:=e1
 subst e1 e2
 exact yO (gO h) (zD h) (zE h) (Br h)
def glD (h:aF sc x=true) (e1:bK X sc:=by rfl):Gl X x:=by
 have e1:X.env.scope=sc:=e1
 subst e1
 exact y66 h
def l4 {i:Nat} {e:Expr} {te:TE} {pos':Pos} (h:cy sc N i x=true) (hl:ii sc x=true) (nd:N.Nodup) (he:PE X e te) (e1:bK X sc:=by rfl) (e2:X.N=N:=by rfl) (hf:X.fn x=true∨X.env.scope.names.lookup x=some .local:=by exact .inl rfl)
  (hs:swapsWith e (some (.Name x pos')) pos.line X.env=pure false:=by rfl):PS X (.Assign [.Name x pos'] e pos) (vV te (fH i)):=by
 have e1:X.env.scope=sc:=e1
 subst e1 e2
 exact yY nd (gO h) (jI hl) he hs hf
def cB {i:Nat} (h:cy sc N i x=true) (hl:ii sc x=true) (nd:N.Nodup) (e1:bK X sc:=by rfl) (e2:X.N=N:=by rfl) (hf:X.fn x=true∨X.env.scope.names.lookup x=some .local:=by exact .inl rfl):PG X (.Name x pos) (fH i):=by
 have e1:X.env.scope=sc:=e1
 subst e1 e2
 exact qe nd (gO h) (jI hl) hf
def loOk (sc:Scope) (x:Str):Bool:=decide (sc.names.lookup x=some .local)
def aX {i:Nat} (h:cy sc N i x=true) (hl:loOk sc x=true) (nd:X.N.Nodup) (e1:bK X sc) (e2:X.N=N:=by rfl):PG X (.Name x pos) (fH i):=by
 have e1:X.env.scope=sc:=e1
 subst e1 e2
 have hl:X.env.scope.names.lookup x=some .local:=of_decide_eq_true hl
 exact qe nd (gO h) (.inl hl) (.inr hl)
def t7 {v:V} (h:aF sc x=true) (hm:∃ u,X.mg x=some u/\RelV v u) (e1:bK X sc:=by rfl):PE X (.Name x pos) (tC v):=t4 (glD h e1) hm (jJ h)
def t8 {v:V} {u:Value} (h:aF sc x=true) (hm:X.mg x=none) (hv:bootBuiltins x=some u) (r:RelV v u) (e1:bK X sc:=by rfl):PE X (.Name x pos) (tC v):=vT (glD h e1) hm hv r (y56 h) (jJ h)
variable {e:Expr} {es:List Expr} {t:TA} {id T:String} {r:List V->Hp->VK->Prop} {k:Nat} {ps:List Str} {sp:Sp}
def f8 (h:aF sc x=true) (hc:CallR X (.builtin id) r) (hm:X.mg x=none) (hv:bootBuiltins x=some (.builtin id)) (ha:PA X (e::es) t) (e1:bK X sc:=by rfl)
  (he:starEach (e::es) X.env=(false,eval e X.env)::starEach es X.env:=by rfl) (hpl:(backTo pos (starEach es X.env)).any (·.1)=false:=by rfl):PE X (.Call (.Name x p) (e::es) [] pos) (tCB r t):=
 tI hc (glD h e1) hm hv ha (y56 h) (jJ h) he hpl
def gT (h:aF sc x=true) (hc:CallR X (.type T) r) (hm:X.mg x=none) (hv:bootBuiltins x=some (.type T)) (ha:PA X (e::es) t) (e1:bK X sc:=by rfl)
  (he:starEach (e::es) X.env=(false,eval e X.env)::starEach es X.env:=by rfl) (hpl:(backTo pos (starEach es X.env)).any (·.1)=false:=by rfl):PE X (.Call (.Name x p) (e::es) [] pos) (tCB r t):=
 rW hc (glD h e1) hm hv ha (y56 h) (jJ h) he hpl
def iM (h:aF sc x=true) (F:OkF X.prog X.w X.K X.mg X.base x k ps sp) (hr:Room k X.A) (ha:PA X (e::es) t) (e1:bK X sc:=by rfl)
  (he:starEach (e::es) X.env=(false,eval e X.env)::starEach es X.env:=by rfl) (hpl:(backTo pos (starEach es X.env)).any (·.1)=false:=by rfl):PE X (.Call (.Name x p) (e::es) [] pos) (tH sp [] E0 t):=
 tY F hr (glD h e1) ha (jJ h) he hpl
variable {tg a b:Expr} {ta:TA}
def o0 (h:aF sc "range"=true) (hm:X.mg "range"=none) (ha:PA X [a] ta) (e1:bK X sc:=by rfl) (hs:starEach [a] X.env=[(false,eval a X.env)]:=by rfl):PI X tg (.Call (.Name "range" p) [a] [] pos) (xT ta):=rP (glD h e1) hm ha hs
end
section
variable {X:Cx} {M:List Str} {scope outer:Scope} {C:Addr} {s:Shared} {H:Hp} {ex:List Addr} {x:Str} {pos p:Pos}
def scC (ho:bK X outer):bK (cxC X M scope C s H ex) (t6 scope outer):=by
 have ho:X.env.scope=outer:=ho
 subst ho
 rfl
end
inductive Dt where
 | non | bl (b:Bool) | int (i:Int) | str (x:Str) | tup (l:List Dt) | lst (l:List Dt) | dct (ks:List Key) (l:List Dt) | dcT (ks:List (List Key)) (l:List Dt)
 | ins (c:Str) (ns:List Str) (l:List Dt)
mutual
noncomputable def peq:Dt->Dt->Bool
 | .non,.non=>true
 | .bl a,.bl b=>a==b
 | .bl a,.int j=>(if a then (1:Int) else 0)==j
 | .int i,.bl b=>i==(if b then (1:Int) else 0)
 | .int i,.int j=>i==j
 | .str x,.str y=>x==y
 | .tup l,.tup m=>peqs l m
 | .lst l,.lst m=>peqs l m
 | .dct ks l,.dct js m=>decide (ks=js)&&peqs l m
 | .dcT ks l,.dcT js m=>decide (ks=js)&&peqs l m
 | .ins _ _ _,.ins _ _ _=>true
 | _,_=>false
noncomputable def peqs:List Dt->List Dt->Bool
 | [],[]=>true
 | d::l,e::m=>peq d e&&peqs l m
 | _,_=>false
end
mutual
def ij:∀ d:Dt,peq d d=true
 | .non=>by simp [peq]
 | .bl b=>by simp [peq]
 | .int i=>by simp [peq]
 | .str x=>by simp [peq]
 | .tup l=>by simp only [peq];exact peqs_self l
 | .lst l=>by simp only [peq];exact peqs_self l
 | .dct ks l=>by simp only [peq,decide_true,Bool.true_and];exact peqs_self l
 | .dcT ks l=>by simp only [peq,decide_true,Bool.true_and];exact peqs_self l
 | .ins c ns l=>by simp only [peq]
def peqs_self:∀ l:List Dt,peqs l l=true
 | []=>by simp [peqs]
 | d::l=>by simp only [peqs,ij d,peqs_self l,Bool.and_self]
end
mutual
noncomputable def cM:Dt->Nat
 | .tup l=>deeps l+1
 | .lst l=>deeps l+1
 | _=>0
noncomputable def deeps:List Dt->Nat
 | []=>0
 | d::l=>max (cM d) (deeps l)
end
def t9 (K:PySem.W.Frag) (c:Str) (C:Addr):Prop:=PySem.W.nsIn K mainGlobals c=some (some (.ref C))
mutual
noncomputable def Rep (K:PySem.W.Frag) (H:Hp):Dt->V->Prop
 | .non,v=>v=.non
 | .bl b,v=>v=.bl b
 | .int i,v=>v=.int i
 | .str x,v=>v=.str x
 | .tup l,v=>∃ a vs,v=.ref a/\SqT K H a vs/\Reps K H l vs
 | .lst l,v=>∃ a vs,v=.ref a/\SqL K H a vs/\Reps K H l vs
 | .dct ks l,v=>∃ a kvs,v=.ref a/\Rd H a (.dK kvs)/\kvs.map (·.1)=ks/\Reps K H l (kvs.map (·.2))
 | .dcT ks l,v=>∃ a kvs,v=.ref a/\Rd H a (.dT kvs)/\kvs.map (·.1)=ks/\Reps K H l (kvs.map (·.2))
 | .ins c ns l,v=>∃ a C dx fs,v=.ref a/\t9 K c C/\H a=some (.ins C dx fs)/\fs.map (·.1)=ns/\Reps K H l (fs.map (·.2))
noncomputable def Reps (K:PySem.W.Frag) (H:Hp):List Dt->List V->Prop
 | [],vs=>vs=[]
 | d::l,vs=>∃ v ws,vs=v::ws/\Rep K H d v/\Reps K H l ws
end
def Same.tup {K:PySem.W.Frag} {H H':Hp} {a:Addr} {xs:List V} (e:Same H H') (h:SqT K H a xs):SqT K H' a xs:=by
 rcases h with h | h
 · exact .inl (e _ _ h)
 · exact .inr h
def Same.rd {H H':Hp} {a:Addr} {u:HO} (e:Same H H') (h:Rd H a u):Rd H' a u:=by
 rcases h with h | ⟨o,h⟩
 · exact .inl (e _ _ h)
 · exact .inr ⟨o,e _ _ h⟩
mutual
def Rep.same {K:PySem.W.Frag} {H H':Hp} (e:Same H H'):∀ {d:Dt} {v:V},Rep K H d v->Rep K H' d v
 | .non,v,h=>h
 | .bl _,v,h=>h
 | .int _,v,h=>h
 | .str _,v,h=>h
 | .tup l,v,h=>by
  unfold Rep at h ⊢
  obtain ⟨a,vs,h1,h2,h3⟩:=h
  exact ⟨a,vs,h1,e.tup h2,Reps.same e h3⟩
 | .lst l,v,h=>by
  unfold Rep at h ⊢
  obtain ⟨a,vs,h1,h2,h3⟩:=h
  exact ⟨a,vs,h1,e.seq h2,Reps.same e h3⟩
 | .dct ks l,v,h=>by
  unfold Rep at h ⊢
  obtain ⟨a,vs,h1,h2,h3,h4⟩:=h
  exact ⟨a,vs,h1,e.rd h2,h3,Reps.same e h4⟩
 | .dcT ks l,v,h=>by
  unfold Rep at h ⊢
  obtain ⟨a,vs,h1,h2,h3,h4⟩:=h
  exact ⟨a,vs,h1,e.rd h2,h3,Reps.same e h4⟩
 | .ins c ns l,v,h=>by
  unfold Rep at h ⊢
  obtain ⟨a,C,dx,fs,h1,h2,h3,h4,h5⟩:=h
  exact ⟨a,C,dx,fs,h1,h2,e _ _ h3,h4,Reps.same e h5⟩
def Reps.same {K:PySem.W.Frag} {H H':Hp} (e:Same H H'):∀ {l:List Dt} {vs:List V},Reps K H l vs->Reps K H' l vs
 | [],vs,h=>h
 | d::l,vs,h=>by
  unfold Reps at h ⊢
  obtain ⟨v,ws,h1,h2,h3⟩:=h
  exact ⟨v,ws,h1,Rep.same e h2,Reps.same e h3⟩
end
def Reps.length {K:PySem.W.Frag} {H:Hp}:∀ {l:List Dt} {vs:List V},Reps K H l vs->vs.length=l.length
 | [],vs,h=>by unfold Reps at h;rw [h];rfl
 | d::l,vs,h=>by
  unfold Reps at h
  obtain ⟨v,ws,rfl,_,h3⟩:=h
  simp [Reps.length h3]
def Reps.get {K:PySem.W.Frag} {H:Hp}:∀ {l:List Dt} {vs:List V} {i:Nat} {d:Dt},Reps K H l vs->l[i]?=some d->∃ v,vs[i]?=some v/\Rep K H d v
 | [],vs,i,d,h,e=>by simp at e
 | d0::l,vs,0,d,h,e=>by
  unfold Reps at h
  obtain ⟨v,ws,rfl,h2,_⟩:=h
  simp at e
  subst e
  exact ⟨v,rfl,h2⟩
 | d0::l,vs,i+1,d,h,e=>by
  unfold Reps at h
  obtain ⟨v,ws,rfl,_,h3⟩:=h
  obtain ⟨u,e1,e2⟩:=Reps.get (i:=i) h3 (by simpa using e)
  exact ⟨u,by simpa using e1,e2⟩
def Reps.append {K:PySem.W.Frag} {H:Hp}:∀ {l m:List Dt} {vs ws:List V},Reps K H l vs->Reps K H m ws->Reps K H (l++m) (vs++ws)
 | [],m,vs,ws,h,h'=>by unfold Reps at h;rw [h];exact h'
 | d::l,m,vs,ws,h,h'=>by
  unfold Reps at h
  obtain ⟨v,us,rfl,h2,h3⟩:=h
  show Reps K H (d::(l++m)) (v::(us++ws))
  unfold Reps
  exact ⟨v,_,rfl,h2,Reps.append h3 h'⟩
def Reps.one {K:PySem.W.Frag} {H:Hp} {d:Dt} {v:V} (h:Rep K H d v):Reps K H [d] [v]:=by
 unfold Reps
 exact ⟨v,[],rfl,h,by unfold Reps;rfl⟩
def Reps.take {K:PySem.W.Frag} {H:Hp}:∀ {l:List Dt} {vs:List V} (n:Nat),Reps K H l vs->Reps K H (l.take n) (vs.take n)
 | _,_,0,_=>by simp [Reps]
 | [],vs,n+1,h=>by unfold Reps at h;rw [h];simp [Reps]
 | d::l,vs,n+1,h=>by
  unfold Reps at h
  obtain ⟨v,us,rfl,h2,h3⟩:=h
  show Reps K H (d::l.take n) (v::us.take n)
  unfold Reps
  exact ⟨v,_,rfl,h2,Reps.take n h3⟩
def Reps.drop {K:PySem.W.Frag} {H:Hp}:∀ {l:List Dt} {vs:List V} (n:Nat),Reps K H l vs->Reps K H (l.drop n) (vs.drop n)
 | _,_,0,h=>h
 | [],vs,n+1,h=>by unfold Reps at h;rw [h];simp [Reps]
 | d::l,vs,n+1,h=>by
  unfold Reps at h
  obtain ⟨v,us,rfl,h2,h3⟩:=h
  exact Reps.drop n h3
section
variable {X:Cx} {pins:List (Addr×Obj)} {σ:St} {H:Hp} {s:Shared} {K:PySem.W.Frag}
def Inv.notBoth {a:Addr} {xs ys:List V} (I:Inv X pins σ H s) (h:SqL X.K H a xs) (h':SqT X.K H a ys):False:=by
 obtain ⟨its,r,pl,_⟩:=I.list h
 obtain ⟨its',r',pt,_⟩:=I.tuple h'
 obtain ⟨o,n,e,hc,_⟩:=pl
 obtain ⟨o',e',hc',_⟩:=pt
 rw [e] at e'
 cases e'
 rw [hc] at hc'
 injection hc' with z
 exact absurd z (by decide)
def Bs {a:Addr} {u w:List (Key×V)} (h:Rd H a (.dK u)) (h':Rd H a (.dK w)):u=w:=by
 rcases h with h | ⟨o,h⟩<;>rcases h' with h' | ⟨o',h'⟩<;>rw [h] at h'<;>cases h'<;>rfl
def Bt {a:Addr} {u w:List (List Key×V)} (h:Rd H a (.dT u)) (h':Rd H a (.dT w)):u=w:=by
 rcases h with h | ⟨o,h⟩<;>rcases h' with h' | ⟨o',h'⟩<;>rw [h] at h'<;>cases h'<;>rfl
def ju {a:Addr} {u:HO} (h:Rd H a u):∃ o,H a=some o:=by
 rcases h with h | ⟨o,h⟩
 · exact ⟨_,h⟩
 · exact ⟨_,h⟩
def Inv.kNone (I:Inv X pins σ H s) {a:Addr} {o:Obj} (h:X.K.lookup a=some o):H a=none:=(I.bs a o (I.ok.mod.kin a o h)).2
def Inv.sqT_dK (I:Inv X pins σ H s) {a:Addr} {xs:List V} {u:List (Key×V)} (h:SqT X.K H a xs) (h':Rd H a (.dK u)):False:=by
 rcases h with h | ⟨o,_,_,h,_⟩
 · rcases h' with h' | ⟨o',h'⟩<;>rw [h] at h'<;>cases h'
 · obtain ⟨o',e⟩:=ju h'
   rw [I.kNone h] at e
   cases e
def Inv.sqT_dT (I:Inv X pins σ H s) {a:Addr} {xs:List V} {u:List (List Key×V)} (h:SqT X.K H a xs) (h':Rd H a (.dT u)):False:=by
 rcases h with h | ⟨o,_,_,h,_⟩
 · rcases h' with h' | ⟨o',h'⟩<;>rw [h] at h'<;>cases h'
 · obtain ⟨o',e⟩:=ju h'
   rw [I.kNone h] at e
   cases e
def Inv.sqL_dK (I:Inv X pins σ H s) {a:Addr} {xs:List V} {u:List (Key×V)} (h:SqL X.K H a xs) (h':Rd H a (.dK u)):False:=by
 rcases h with h | ⟨o,_,_,h,_⟩
 · rcases h with h | ⟨o,h⟩<;>rcases h' with h' | ⟨o',h'⟩<;>rw [h] at h'<;>cases h'
 · obtain ⟨o',e⟩:=ju h'
   rw [I.kNone h] at e
   cases e
def Inv.sqL_dT (I:Inv X pins σ H s) {a:Addr} {xs:List V} {u:List (List Key×V)} (h:SqL X.K H a xs) (h':Rd H a (.dT u)):False:=by
 rcases h with h | ⟨o,_,_,h,_⟩
 · rcases h with h | ⟨o,h⟩<;>rcases h' with h' | ⟨o',h'⟩<;>rw [h] at h'<;>cases h'
 · obtain ⟨o',e⟩:=ju h'
   rw [I.kNone h] at e
   cases e
def ua {a:Addr} {u:List (Key×V)} {w:List (List Key×V)} (h:Rd H a (.dK u)) (h':Rd H a (.dT w)):False:=by
 rcases h with h | ⟨o,h⟩<;>rcases h' with h' | ⟨o',h'⟩<;>rw [h] at h'<;>cases h'
def bL:Dt->Nat
 | .non=>0
 | .bl _=>1
 | .int _=>2
 | .str _=>3
 | .tup _=>4
 | .lst _=>5
 | .dct _ _=>6
 | .dcT _ _=>7
 | .ins _ _ _=>8
def qv (I:Inv X pins σ H s) {a C dx:Addr} {fs:List (Str×V)} {vs:List V} (h:SqT X.K H a vs) (h':H a=some (.ins C dx fs)):False:=by
 rcases h with h | ⟨o,its,n,h,_⟩
 · rw [h'] at h;cases h
 · rw [I.kNone h] at h';cases h'
def qw (I:Inv X pins σ H s) {a C dx:Addr} {fs:List (Str×V)} {vs:List V} (h:SqL X.K H a vs) (h':H a=some (.ins C dx fs)):False:=by
 rcases h with (h | ⟨o,h⟩) | ⟨o,its,n,h,_⟩
 · rw [h'] at h;cases h
 · rw [h'] at h;cases h
 · rw [I.kNone h] at h';cases h'
def qx {a C dx:Addr} {fs:List (Str×V)} {u:List (Key×V)} (h:Rd H a (.dK u)) (h':H a=some (.ins C dx fs)):False:=by
 rcases h with h | ⟨o,h⟩<;>rw [h] at h'<;>cases h'
def qy {a C dx:Addr} {fs:List (Str×V)} {u:List (List Key×V)} (h:Rd H a (.dT u)) (h':H a=some (.ins C dx fs)):False:=by
 rcases h with h | ⟨o,h⟩<;>rw [h] at h'<;>cases h'
def cC (I:Inv X pins σ H s) {d e:Dt} {v:V} (h:Rep X.K H d v) (h':Rep X.K H e v):bL d=bL e:=by
 cases d<;>cases e<;>first
  | rfl
  | (simp only [Rep] at h h';subst h;cases h';done)
  | (simp only [Rep] at h h';obtain ⟨_,_,e,_⟩:=h';rw [h] at e;cases e;done)
  | (simp only [Rep] at h h';obtain ⟨_,_,e,_⟩:=h;rw [h'] at e;cases e;done)
  | (simp only [Rep] at h h';obtain ⟨_,_,rfl,h2,_⟩:=h;obtain ⟨_,_,e,h2',_⟩:=h';cases e
     first
      | exact (I.sqT_dK h2 h2').elim
      | exact (I.sqT_dK h2' h2).elim
      | exact (I.sqT_dT h2 h2').elim
      | exact (I.sqT_dT h2' h2).elim
      | exact (I.notBoth h2 h2').elim
      | exact (I.notBoth h2' h2).elim
      | exact (I.sqL_dK h2 h2').elim
      | exact (I.sqL_dK h2' h2).elim
      | exact (I.sqL_dT h2 h2').elim
      | exact (I.sqL_dT h2' h2).elim
      | exact (ua h2 h2').elim
      | exact (ua h2' h2).elim)
  | (simp only [Rep] at h h';obtain ⟨_,_,_,_,e,_⟩:=h';rw [h] at e;cases e;done)
  | (simp only [Rep] at h h';obtain ⟨_,_,_,_,e,_⟩:=h;rw [h'] at e;cases e;done)
  | (simp only [Rep] at h h';obtain ⟨_,_,_,_,rfl,_,h2,_⟩:=h;obtain ⟨_,_,e,h2',_⟩:=h';cases e
     first
      | exact (qv I h2' h2).elim
      | exact (qw I h2' h2).elim
      | exact (qx h2' h2).elim
      | exact (qy h2' h2).elim)
  | (simp only [Rep] at h h';obtain ⟨_,_,_,_,rfl,_,h2,_⟩:=h';obtain ⟨_,_,e,h2',_⟩:=h;cases e
     first
      | exact (qv I h2' h2).elim
      | exact (qw I h2' h2).elim
      | exact (qx h2' h2).elim
      | exact (qy h2' h2).elim)
mutual
def jv (I:Inv X pins σ H s):∀ (d e:Dt) (v:V),Rep X.K H d v->Rep X.K H e v->peq d e=true:=fun d=>by
 match d with
 | .tup l =>
  intro e v h h'
  have hk:=cC I h h'
  cases e<;>first | (simp [bL] at hk;done) | skip
  simp only [Rep] at h h'
  obtain ⟨a,vs,rfl,h2,h3⟩:=h
  obtain ⟨b,ws,e,h2',h3'⟩:=h'
  cases e
  have:=I.tuple_inj h2 h2'
  subst this
  simp only [peq]
  exact reps_inj I l _ _ h3 h3'
 | .lst l =>
  intro e v h h'
  have hk:=cC I h h'
  cases e<;>first | (simp [bL] at hk;done) | skip
  simp only [Rep] at h h'
  obtain ⟨a,vs,rfl,h2,h3⟩:=h
  obtain ⟨b,ws,e,h2',h3'⟩:=h'
  cases e
  have:=I.list_inj h2 h2'
  subst this
  simp only [peq]
  exact reps_inj I l _ _ h3 h3'
 | .dct ks l =>
  intro e v h h'
  have hk:=cC I h h'
  cases e<;>first | (simp [bL] at hk;done) | skip
  simp only [Rep] at h h'
  obtain ⟨a,vs,rfl,h2,h3,h4⟩:=h
  obtain ⟨b,ws,e,h2',h3',h4'⟩:=h'
  cases e
  have:=Bs h2 h2'
  subst this
  subst h3 h3'
  simp only [peq,decide_true,Bool.true_and]
  exact reps_inj I l _ _ h4 h4'
 | .dcT ks l =>
  intro e v h h'
  have hk:=cC I h h'
  cases e<;>first | (simp [bL] at hk;done) | skip
  simp only [Rep] at h h'
  obtain ⟨a,vs,rfl,h2,h3,h4⟩:=h
  obtain ⟨b,ws,e,h2',h3',h4'⟩:=h'
  cases e
  have:=Bt h2 h2'
  subst this
  subst h3 h3'
  simp only [peq,decide_true,Bool.true_and]
  exact reps_inj I l _ _ h4 h4'
 | .ins c ns l =>
  intro e v h h'
  have hk:=cC I h h'
  cases e<;>first | (simp [bL] at hk;done) | skip
  simp only [peq]
 | .non =>
  intro e v h h'
  have hk:=cC I h h'
  cases e<;>first | (simp [bL] at hk;done) | simp only [peq]
 | .bl b =>
  intro e v h h'
  have hk:=cC I h h'
  cases e<;>first | (simp [bL] at hk;done) | (simp only [Rep] at h h';rw [h] at h';cases h';exact ij _)
 | .int b =>
  intro e v h h'
  have hk:=cC I h h'
  cases e<;>first | (simp [bL] at hk;done) | (simp only [Rep] at h h';rw [h] at h';cases h';exact ij _)
 | .str b =>
  intro e v h h'
  have hk:=cC I h h'
  cases e<;>first | (simp [bL] at hk;done) | (simp only [Rep] at h h';rw [h] at h';cases h';exact ij _)
def reps_inj (I:Inv X pins σ H s):∀ (l m:List Dt) (vs:List V),Reps X.K H l vs->Reps X.K H m vs->peqs l m=true:=fun l=>by
 match l with
 | [] =>
  intro m vs h h'
  cases m with
  | nil=>simp only [peqs]
  | cons e m=>unfold Reps at h h';obtain ⟨v,ws,e,_⟩:=h';rw [h] at e;cases e
 | d::l =>
  intro m vs h h'
  cases m with
  | nil=>unfold Reps at h h';obtain ⟨v,ws,e,_⟩:=h;rw [h'] at e;cases e
  | cons e m =>
   unfold Reps at h h'
   obtain ⟨v,ws,rfl,h2,h3⟩:=h
   obtain ⟨v',ws',e',h2',h3'⟩:=h'
   cases e'
   simp only [peqs,jv I d _ _ h2 h2',reps_inj I l _ _ h3 h3',Bool.and_self]
end
end
end L2
namespace L2
open PySem PySem.Spec PyProof.Rows
mutual
noncomputable def b8:Dt->Dt->Bool
 | .tup l,.tup m=>cmpbs l m
 | .lst l,.lst m=>cmpbs l m
 | d,e=>decide (bL d<4)&&decide (bL e<4)
noncomputable def cmpbs:List Dt->List Dt->Bool
 | d::l,e::m=>b8 d e&&cmpbs l m
 | _,_=>true
end
def ei:∀ {l m:List Dt} {j:Nat} {d e:Dt},cmpbs l m=true->l[j]?=some d->m[j]?=some e->b8 d e=true
 | [],_,j,d,e,_,h,_=>by simp at h
 | _::_,[],j,d,e,_,_,h=>by simp at h
 | d0::l,e0::m,0,d,e,h,h1,h2=>by
  simp only [cmpbs,Bool.and_eq_true] at h
  simp at h1 h2
  subst h1 h2
  exact h.1
 | d0::l,e0::m,j+1,d,e,h,h1,h2=>by
  simp only [cmpbs,Bool.and_eq_true] at h
  exact ei (j:=j) h.2 (by simpa using h1) (by simpa using h2)
def fM:∀ {l:List Dt} {j:Nat} {d:Dt},l[j]?=some d->cM d<=deeps l
 | [],j,d,h=>by simp at h
 | d0::l,0,d,h=>by
  simp at h
  subst h
  simp only [deeps]
  exact Nat.le_max_left ..
 | d0::l,j+1,d,h=>by
  simp only [deeps]
  exact Nat.le_trans (fM (j:=j) (by simpa using h)) (Nat.le_max_right ..)
def ci (l m:List Dt) (j:Nat):Bool:=peq (l.getD j .non) (m.getD j .non)
def dw:∀ (l m:List Dt),peqs l m=((List.range (min l.length m.length)).all (ci l m)&&l.length==m.length)
 | [],[]=>by simp [peqs]
 | [],_::_=>by simp [peqs]
 | _::_,[]=>by simp [peqs]
 | d::l,e::m=>by
  have ih:=dw l m
  simp only [peqs,ih,List.length_cons]
  rw [show min (l.length+1) (m.length+1)=min l.length m.length+1 by omega,List.range_succ_eq_map,List.all_cons,List.all_map]
  have e1:ci (d::l) (e::m) 0=peq d e:=rfl
  have e2:(ci (d::l) (e::m) ∘ Nat.succ)=ci l m:=by
   funext j
   rfl
  have e3:(l.length+1==m.length+1)=(l.length==m.length):=by
   rw [Bool.eq_iff_iff]
   simp
  rw [e1,e2,e3,Bool.and_assoc]
section
variable {X:Cx} {pins:List (Addr×Obj)} {σ:St} {H:Hp} {s:Shared}
def bP {l:List Dt} {vs:List V} {its:List Value} (h:Reps X.K H l vs) (r:Vals vs its) {j:Nat} (hj:j<its.length):∃ d v,l[j]?=some d/\Rep X.K H d v/\RelV v its[j]:=by
 have hl:j<l.length:=by rw [<- h.length,r.length];exact hj
 obtain ⟨v,e1,e2⟩:=h.get (i:=j) (d:=l[j]) (by simp [hl])
 obtain ⟨u,e3,e4⟩:=r.get e1
 have:its[j]=u:=by
  have:=gQ hj
  rw [this] at e3
  exact Option.some.inj e3
 exact ⟨l[j],v,by simp [hl],e2,by rw [this];exact e4⟩
def ub (I:Inv X pins σ H s):∀ (n:Nat) {A:Around} {d e:Dt} {v w:V} {u u':Value},cM d<=n->A.units+n<cLine->b8 d e=true->Rep X.K H d v->Rep X.K H e w->RelV v u->RelV w u'->SeqAt.EqAt A s u u' (peq d e):=by
 intro n
 induction n with
 | zero =>
  intro A d e v w u u' hd hu hc h h' r r'
  cases d<;>cases e<;>first
   | (simp only [Rep] at h h';subst h h';exact iK r r' rfl rfl)
   | (simp only [cM] at hd;omega)
   | (simp [b8,bL] at hc)
 | succ n ih =>
  intro A d e v w u u' hd hu hc h h' r r'
  cases d with
  | tup l =>
   cases e with
   | tup m =>
    have h0:=h
    have h0':=h'
    simp only [Rep] at h h'
    obtain ⟨a,vs,rfl,h2,h3⟩:=h
    obtain ⟨b,ws,rfl,h2',h3'⟩:=h'
    cases r
    cases r'
    by_cases hab:a=b
    · subst hab
      have:=jv I _ _ _ h0 h0'
      rw [this]
      exact SeqAt.EqAt.same _
    obtain ⟨its,rv,pt,_⟩:=I.tuple h2
    obtain ⟨its',rv',pt',_⟩:=I.tuple h2'
    have n1:its.length=l.length:=by rw [<- h3.length,rv.length]
    have n2:its'.length=m.length:=by rw [<- h3'.length,rv'.length]
    simp only [peq]
    rw [dw,<- n1,<- n2]
    simp only [cM] at hd
    simp only [b8] at hc
    have key:=SeqAt.RcAt.tuples (A:=A) (e:=ci l m) pt pt' (by omega) (fun j h1 h2=>by
     have h1':j<its.length:=by simpa using h1
     have h2':j<its'.length:=by simpa using h2
     obtain ⟨d,v,g1,g2,g3⟩:=bP h3 rv h1'
     obtain ⟨e,w,g1',g2',g3'⟩:=bP h3' rv' h2'
     have:ci l m j=peq d e:=by unfold ci;rw [List.getD_eq_getElem?_getD,List.getD_eq_getElem?_getD,g1,g1'];rfl
     rw [this]
     have:=ih (A:=A.in1) (Nat.le_trans (fM g1) (by omega)) (show A.units+1+n<cLine by omega) (ei hc g1 g1') g2 g2' g3 g3'
     simpa using this)
    have key':SeqAt.RcAt A s (.ref a) (.ref b) ((List.range (min its.length its'.length)).all (ci l m)&&its.length==its'.length):=by simpa using key
    exact SeqAt.EqAt.of_refs hab key'
   | _=>exact absurd hc (by simp [b8,bL])
  | lst l =>
   cases e with
   | lst m =>
    have h0:=h
    have h0':=h'
    simp only [Rep] at h h'
    obtain ⟨a,vs,rfl,h2,h3⟩:=h
    obtain ⟨b,ws,rfl,h2',h3'⟩:=h'
    cases r
    cases r'
    by_cases hab:a=b
    · subst hab
      have:=jv I _ _ _ h0 h0'
      rw [this]
      exact SeqAt.EqAt.same _
    obtain ⟨its,rv,pt,_⟩:=I.list h2
    obtain ⟨its',rv',pt',_⟩:=I.list h2'
    have n1:its.length=l.length:=by rw [<- h3.length,rv.length]
    have n2:its'.length=m.length:=by rw [<- h3'.length,rv'.length]
    simp only [peq]
    rw [dw,<- n1,<- n2]
    simp only [cM] at hd
    simp only [b8] at hc
    by_cases hlen:its.length=its'.length
    · have key:=SeqAt.RcAt.lists (A:=A) (e:=ci l m) pt.isList pt'.isList (by simpa using hlen) (by omega) (fun j h1 h2=>by
       have h1':j<its.length:=by simpa using h1
       have h2':j<its'.length:=by simpa using h2
       obtain ⟨d,v,g1,g2,g3⟩:=bP h3 rv h1'
       obtain ⟨e,w,g1',g2',g3'⟩:=bP h3' rv' h2'
       have:ci l m j=peq d e:=by unfold ci;rw [List.getD_eq_getElem?_getD,List.getD_eq_getElem?_getD,g1,g1'];rfl
       rw [this]
       have:=ih (A:=A.in1) (Nat.le_trans (fM g1) (by omega)) (show A.units+1+n<cLine by omega) (ei hc g1 g1') g2 g2' g3 g3'
       simpa using this)
      have e1:(its.length==its'.length)=true:=by simpa using hlen
      rw [e1,Bool.and_true,show min its.length its'.length=its.length by omega]
      exact SeqAt.EqAt.of_refs hab (by simpa using key)
    · have e1:(its.length==its'.length)=false:=by simpa using hlen
      rw [e1,Bool.and_false]
      exact SeqAt.EqAt.of_refs hab (SeqAt.RcAt.lists_lengths pt.isList pt'.isList (by simpa using hlen) (by omega))
   | _=>exact absurd hc (by simp [b8,bL])
  | non=>cases e<;>first | (simp only [Rep] at h h';subst h h';exact iK r r' rfl rfl) | (simp [b8,bL] at hc)
  | bl b=>cases e<;>first | (simp only [Rep] at h h';subst h h';exact iK r r' rfl rfl) | (simp [b8,bL] at hc)
  | int b=>cases e<;>first | (simp only [Rep] at h h';subst h h';exact iK r r' rfl rfl) | (simp [b8,bL] at hc)
  | str b=>cases e<;>first | (simp only [Rep] at h h';subst h h';exact iK r r' rfl rfl) | (simp [b8,bL] at hc)
  | dct ks l=>cases e<;>(simp [b8,bL] at hc)
  | dcT ks l=>cases e<;>(simp [b8,bL] at hc)
  | ins c ns l=>cases e<;>(simp [b8,bL] at hc)
def yb (I:Inv X pins σ H s) {A:Around} {d e:Dt} {v w:V} {u u':Value} (hq:(∃ l m,d=.tup l/\e=.tup m)∨∃ l m,d=.lst l/\e=.lst m) (hu:A.units+cM d<cLine) (hc:b8 d e=true) (h:Rep X.K H d v) (h':Rep X.K H e w) (r:RelV v u) (r':RelV w u') :
  SeqAt.RcAt A s u u' (peq d e)/\SeqAt.RcNeAt A s u u' (!peq d e):=by
 rcases hq with ⟨l,m,rfl,rfl⟩ | ⟨l,m,rfl,rfl⟩
 · simp only [Rep] at h h'
   obtain ⟨a,vs,rfl,h2,h3⟩:=h
   obtain ⟨b,ws,rfl,h2',h3'⟩:=h'
   cases r
   cases r'
   obtain ⟨its,rv,pt,_⟩:=I.tuple h2
   obtain ⟨its',rv',pt',_⟩:=I.tuple h2'
   have n1:its.length=l.length:=by rw [<- h3.length,rv.length]
   have n2:its'.length=m.length:=by rw [<- h3'.length,rv'.length]
   simp only [peq]
   rw [dw,<- n1,<- n2]
   simp only [cM] at hu
   simp only [b8] at hc
   have he:∀ j (h1:j<its.toArray.size) (h2:j<its'.toArray.size),SeqAt.EqAt A.in1 s its.toArray[j] its'.toArray[j] (ci l m j):=fun j h1 h2=>by
    have h1':j<its.length:=by simpa using h1
    have h2':j<its'.length:=by simpa using h2
    obtain ⟨d,v,g1,g2,g3⟩:=bP h3 rv h1'
    obtain ⟨e,w,g1',g2',g3'⟩:=bP h3' rv' h2'
    have:ci l m j=peq d e:=by unfold ci;rw [List.getD_eq_getElem?_getD,List.getD_eq_getElem?_getD,g1,g1'];rfl
    rw [this]
    have:=ub I (deeps l) (A:=A.in1) (fM g1) (show A.units+1+deeps l<cLine by omega) (ei hc g1 g1') g2 g2' g3 g3'
    simpa using this
   exact ⟨by simpa using SeqAt.RcAt.tuples (A:=A) (e:=ci l m) pt pt' (by omega) he,by simpa using SeqAt.RcNeAt.tuples (A:=A) (e:=ci l m) pt pt' (by omega) he⟩
 · simp only [Rep] at h h'
   obtain ⟨a,vs,rfl,h2,h3⟩:=h
   obtain ⟨b,ws,rfl,h2',h3'⟩:=h'
   cases r
   cases r'
   obtain ⟨its,rv,pt,_⟩:=I.list h2
   obtain ⟨its',rv',pt',_⟩:=I.list h2'
   have n1:its.length=l.length:=by rw [<- h3.length,rv.length]
   have n2:its'.length=m.length:=by rw [<- h3'.length,rv'.length]
   simp only [peq]
   rw [dw,<- n1,<- n2]
   simp only [cM] at hu
   simp only [b8] at hc
   by_cases hlen:its.length=its'.length
   · have he:∀ j (h1:j<its.toArray.size) (h2:j<its'.toArray.size),SeqAt.EqAt A.in1 s its.toArray[j] its'.toArray[j] (ci l m j):=fun j h1 h2=>by
      have h1':j<its.length:=by simpa using h1
      have h2':j<its'.length:=by simpa using h2
      obtain ⟨d,v,g1,g2,g3⟩:=bP h3 rv h1'
      obtain ⟨e,w,g1',g2',g3'⟩:=bP h3' rv' h2'
      have:ci l m j=peq d e:=by unfold ci;rw [List.getD_eq_getElem?_getD,List.getD_eq_getElem?_getD,g1,g1'];rfl
      rw [this]
      have:=ub I (deeps l) (A:=A.in1) (fM g1) (show A.units+1+deeps l<cLine by omega) (ei hc g1 g1') g2 g2' g3 g3'
      simpa using this
     have e1:(its.length==its'.length)=true:=by simpa using hlen
     rw [e1,Bool.and_true,show min its.length its'.length=its.length by omega]
     exact ⟨by simpa using SeqAt.RcAt.lists (A:=A) (e:=ci l m) pt.isList pt'.isList (by simpa using hlen) (by omega) he,by simpa using SeqAt.RcNeAt.lists (A:=A) (e:=ci l m) pt.isList pt'.isList (by simpa using hlen) (by omega) he⟩
   · have e1:(its.length==its'.length)=false:=by simpa using hlen
     rw [e1,Bool.and_false]
     exact ⟨SeqAt.RcAt.lists_lengths pt.isList pt'.isList (by simpa using hlen) (by omega),SeqAt.RcNeAt.lists_lengths pt.isList pt'.isList (by simpa using hlen) (by omega)⟩
noncomputable def wo (K:PySem.W.Frag) (neg:Bool):R2:=fun x y H Q=>∃ d e,((∃ l m,d=.tup l/\e=.tup m)∨∃ l m,d=.lst l/\e=.lst m)/\Rep K H d x/\Rep K H e y/\b8 d e=true/\cM d<=60/\Q (.bl (if neg then !peq d e else peq d e)) H
def zF {K:PySem.W.Frag} {k:Nat} (hr:Room k X.A) (hK:X.K=K):OpR X (compareOp .Eq) (wo K false):=by
 subst hK
 intro pins s σ H x y v u Q I rx ry h
 obtain ⟨d,e,hq,hd,he,hc,hdp,q⟩:=h
 have hu:=hr.units
 exact (yb I hq (by omega) hc hd he rx ry).1 _ _ _ _ ⟨.bl (peq d e),H,I,rfl,q⟩
def zG {K:PySem.W.Frag} {k:Nat} (hr:Room k X.A) (hK:X.K=K):OpR X (compareOp .NotEq) (wo K true):=by
 subst hK
 intro pins s σ H x y v u Q I rx ry h
 obtain ⟨d,e,hq,hd,he,hc,hdp,q⟩:=h
 have hu:=hr.units
 exact (yb I hq (by omega) hc hd he rx ry).2 _ _ _ _ ⟨.bl (!peq d e),H,I,rfl,q⟩
end
end L2
namespace L2
open PySem PySem.Spec PyProof.Rows
structure Step (F H F' H':Hp):Prop where
 hh:Same H H'
 ff:Same F F'
 fh:Same F' H'
 nw:∀ b o,F' b=some o->F b=some o∨H b=none
section
variable {F H F' H' F1 H1:Hp} {p:Addr} {o:HO}
def Step.refl (h:Same F H):Step F H F H:=⟨Same.refl _,Same.refl _,h,fun _ _ e=>.inl e⟩
def Step.trans (a:Step F H F1 H1) (b:Step F1 H1 F' H'):Step F H F' H':=
 ⟨a.hh.trans b.hh,a.ff.trans b.ff,b.fh,fun c o e=>(b.nw c o e).elim (a.nw c o) fun z=>.inr (a.hh.free z)⟩
def Same.upd (hp:H p=none):Same H (upd H p o):=fun b u e=>by
 rw [ax (bn e hp)]
 exact e
def Step.new (h:Same F H) (hp:H p=none):Step F H (upd F p o) (upd H p o) where
 hh:=Same.upd hp
 ff:=Same.upd (h.free hp)
 fh:=fun b u e=>by
  by_cases hb:b=p
  · subst hb
    rw [aD] at e ⊢
    exact e
  · rw [ax hb] at e ⊢
    exact h _ _ e
 nw:=fun b u e=>by
  by_cases hb:b=p
  · subst hb
    exact .inr hp
  · rw [ax hb] at e
    exact .inl e
def Step.made (h:Same F H) (hp:H p=none):Step F H F (upd H p o) where
 hh:=Same.upd hp
 ff:=Same.refl _
 fh:=h.trans (Same.upd hp)
 nw:=fun b u e=>.inl e
end
inductive Fl where
 | leaf (d:Dt) | lst (l:List Dt) | dct (l:List (Key×Dt)) | dcT (l:List (List Key×Dt))
def Fl.d:Fl->Dt
 | .leaf d=>d
 | .lst l=>.lst l
 | .dct l=>.dct (l.map (·.1)) (l.map (·.2))
 | .dcT l=>.dcT (l.map (·.1)) (l.map (·.2))
inductive T where
 | leaf (d:Dt) | lst (l:List Dt) | dct (l:List (Key×Dt)) | dcT (l:List (List Key×Dt)) | obj (c:Str) (ns:List Str) (l:List Fl) | pin (a:Addr) (t:T)
def T.d:T->Dt
 | .leaf d=>d
 | .lst l=>.lst l
 | .dct l=>.dct (l.map (·.1)) (l.map (·.2))
 | .dcT l=>.dcT (l.map (·.1)) (l.map (·.2))
 | .obj c ns l=>.ins c ns (l.map Fl.d)
 | .pin _ t=>t.d
noncomputable def OwnF (K:PySem.W.Frag) (F H:Hp):Fl->V->(Addr->Prop)->Prop
 | .leaf d,v,_=>Rep K F d v
 | .lst l,v,S=>∃ a vs,v=.ref a/\S a/\H a=some (.lst vs)/\Reps K F l vs
 | .dct l,v,S=>∃ a kvs,v=.ref a/\S a/\H a=some (.dK kvs)/\kvs.map (·.1)=l.map (·.1)/\Reps K F (l.map (·.2)) (kvs.map (·.2))
 | .dcT l,v,S=>∃ a kvs,v=.ref a/\S a/\H a=some (.dT kvs)/\kvs.map (·.1)=l.map (·.1)/\Reps K F (l.map (·.2)) (kvs.map (·.2))
structure OwnFs (K:PySem.W.Frag) (F H:Hp) (l:List Fl) (vs:List V) (a:Addr) (S:Addr->Prop) (Z:Nat->Addr->Prop):Prop where
 len:l.length=vs.length
 own:∀ i f v,l[i]?=some f->vs[i]?=some v->OwnF K F H f v (Z i)
 sub:∀ i b,Z i b->S b/\b≠a
 dis:∀ i j b,Z i b->Z j b->i=j
noncomputable def Own (K:PySem.W.Frag) (F H:Hp):T->V->(Addr->Prop)->Prop
 | .leaf d,v,_=>Rep K F d v
 | .lst l,v,S=>∃ a vs,v=.ref a/\S a/\H a=some (.lst vs)/\Reps K F l vs
 | .dct l,v,S=>∃ a kvs,v=.ref a/\S a/\H a=some (.dK kvs)/\kvs.map (·.1)=l.map (·.1)/\Reps K F (l.map (·.2)) (kvs.map (·.2))
 | .dcT l,v,S=>∃ a kvs,v=.ref a/\S a/\H a=some (.dT kvs)/\kvs.map (·.1)=l.map (·.1)/\Reps K F (l.map (·.2)) (kvs.map (·.2))
 | .obj c ns l,v,S=>∃ a C dx fs Z,v=.ref a/\S a/\t9 K c C/\H a=some (.ins C dx fs)/\fs.map (·.1)=ns/\OwnFs K F H l (fs.map (·.2)) a S Z
 | .pin a t,v,S=>v=.ref a/\(∀ d,t≠.leaf d)/\Own K F H t v S
noncomputable def RepB (K:PySem.W.Frag) (F H:Hp):Dt->V->Prop
 | .lst l,v=>∃ a vs,v=.ref a/\SqL K H a vs/\Reps K F l vs
 | .dct ks l,v=>∃ a kvs,v=.ref a/\Rd H a (.dK kvs)/\kvs.map (·.1)=ks/\Reps K F l (kvs.map (·.2))
 | .dcT ks l,v=>∃ a kvs,v=.ref a/\Rd H a (.dT kvs)/\kvs.map (·.1)=ks/\Reps K F l (kvs.map (·.2))
 | .ins c ns l,v=>Rep K H (.ins c ns l) v
 | .non,v=>v=.non
 | .bl b,v=>v=.bl b
 | .int i,v=>v=.int i
 | .str x,v=>v=.str x
 | .tup l,v=>∃ a vs,v=.ref a/\SqT K F a vs/\Reps K F l vs
def OwnF.step {K:PySem.W.Frag} {F H F' H':Hp} {t:Fl} {v:V} {S:Addr->Prop} (ff:Same F F') (hh:∀ b o,S b->H b=some o->H' b=some o) (h:OwnF K F H t v S):OwnF K F' H' t v S:=by
 cases t with
 | leaf d=>exact Rep.same ff h
 | lst l =>
  obtain ⟨a,vs,e,hs,h1,h2⟩:=h
  exact ⟨a,vs,e,hs,hh _ _ hs h1,h2.same ff⟩
 | dct l =>
  obtain ⟨a,vs,e,hs,h1,h2,h3⟩:=h
  exact ⟨a,vs,e,hs,hh _ _ hs h1,h2,h3.same ff⟩
 | dcT l =>
  obtain ⟨a,vs,e,hs,h1,h2,h3⟩:=h
  exact ⟨a,vs,e,hs,hh _ _ hs h1,h2,h3.same ff⟩
def OwnF.rep {K:PySem.W.Frag} {F H G:Hp} {t:Fl} {v:V} {S:Addr->Prop} (ff:Same F G) (hg:∀ b o,S b->H b=some o->G b=some o) (h:OwnF K F H t v S):Rep K G t.d v:=by
 cases t with
 | leaf d=>exact Rep.same ff h
 | lst l =>
  obtain ⟨a,vs,e,q,h1,h2⟩:=h
  simp only [Fl.d,Rep]
  exact ⟨a,vs,e,SqL.of (hg _ _ q h1),h2.same ff⟩
 | dct l =>
  obtain ⟨a,vs,e,q,h1,h2,h3⟩:=h
  simp only [Fl.d,Rep]
  exact ⟨a,vs,e,.inl (hg _ _ q h1),h2,h3.same ff⟩
 | dcT l =>
  obtain ⟨a,vs,e,q,h1,h2,h3⟩:=h
  simp only [Fl.d,Rep]
  exact ⟨a,vs,e,.inl (hg _ _ q h1),h2,h3.same ff⟩
def mX {K:PySem.W.Frag} {G:Hp}:∀ {l:List Fl} {vs:List V},l.length=vs.length->(∀ (i:Nat) (f:Fl) (v:V),l[i]?=some f->vs[i]?=some v->Rep K G f.d v)->Reps K G (l.map Fl.d) vs
 | [],[],_,_=>by simp [Reps]
 | [],_::_,h,_=>by cases h
 | _::_,[],h,_=>by cases h
 | f::l,v::vs,h,k=>by
  simp only [List.map_cons,Reps]
  exact ⟨v,vs,rfl,k 0 f v rfl rfl,mX (by simpa using h) fun i f v h1 h2=>k (i+1) f v (by simpa using h1) (by simpa using h2)⟩
def qz {K:PySem.W.Frag} {F H G:Hp} {c:Str} {ns:List Str} {l:List Fl} {v:V} {S:Addr->Prop} (ff:Same F G) (hg:∀ b o,S b->H b=some o->G b=some o) (h:Own K F H (.obj c ns l) v S):Rep K G (.ins c ns (l.map Fl.d)) v:=by
 obtain ⟨a,C,dx,fs,Z,e,hs,hc,h1,h2,h3⟩:=h
 simp only [Rep]
 exact ⟨a,C,dx,fs,e,hc,hg _ _ hs h1,h2,mX h3.len fun i f v e1 e2=>(h3.own i f v e1 e2).rep ff fun b o z=>hg b o (h3.sub i b z).1⟩
section
variable {K:PySem.W.Frag} {F H F' H':Hp} {t:T} {v:V} {d:Dt} {S:Addr->Prop}
def Own.step (ff:Same F F') (hh:∀ b o,S b->H b=some o->H' b=some o) (h:Own K F H t v S):Own K F' H' t v S:=by
 induction t with
 | leaf d=>exact Rep.same ff h
 | lst l =>
  obtain ⟨a,vs,e,hs,h1,h2⟩:=h
  exact ⟨a,vs,e,hs,hh _ _ hs h1,h2.same ff⟩
 | dct l =>
  obtain ⟨a,vs,e,hs,h1,h2,h3⟩:=h
  exact ⟨a,vs,e,hs,hh _ _ hs h1,h2,h3.same ff⟩
 | dcT l =>
  obtain ⟨a,vs,e,hs,h1,h2,h3⟩:=h
  exact ⟨a,vs,e,hs,hh _ _ hs h1,h2,h3.same ff⟩
 | obj c ns l =>
  obtain ⟨a,C,dx,fs,Z,e,hs,hc,h1,h2,h3⟩:=h
  exact ⟨a,C,dx,fs,Z,e,hs,hc,hh _ _ hs h1,h2,h3.len,fun i f v e1 e2=>(h3.own i f v e1 e2).step ff fun b o z=>hh b o (h3.sub i b z).1,h3.sub,h3.dis⟩
 | pin a t ih=>exact ⟨h.1,h.2.1,ih h.2.2⟩
def Own.grow {S':Addr->Prop} (hs:∀ b,S b->S' b) (h:Own K F H t v S):Own K F H t v S':=by
 induction t with
 | leaf d=>exact h
 | lst l =>
  obtain ⟨a,vs,e,q,h1⟩:=h
  exact ⟨a,vs,e,hs _ q,h1⟩
 | dct l =>
  obtain ⟨a,vs,e,q,h1⟩:=h
  exact ⟨a,vs,e,hs _ q,h1⟩
 | dcT l =>
  obtain ⟨a,vs,e,q,h1⟩:=h
  exact ⟨a,vs,e,hs _ q,h1⟩
 | obj c ns l =>
  obtain ⟨a,C,dx,fs,Z,e,q,hc,h1,h2,h3⟩:=h
  exact ⟨a,C,dx,fs,Z,e,hs _ q,hc,h1,h2,h3.len,h3.own,fun i b z=>⟨hs _ (h3.sub i b z).1,(h3.sub i b z).2⟩,h3.dis⟩
 | pin a t ih=>exact ⟨h.1,h.2.1,ih h.2.2⟩
def RepB.of (fh:Same F H) (h:Rep K F d v):RepB K F H d v:=by
 cases d with
 | lst l =>
  simp only [Rep] at h
  obtain ⟨a,vs,e,h1,h2⟩:=h
  exact ⟨a,vs,e,fh.seq h1,h2⟩
 | dct ks l =>
  simp only [Rep] at h
  obtain ⟨a,vs,e,h1,h2⟩:=h
  exact ⟨a,vs,e,fh.rd h1,h2⟩
 | dcT ks l =>
  simp only [Rep] at h
  obtain ⟨a,vs,e,h1,h2⟩:=h
  exact ⟨a,vs,e,fh.rd h1,h2⟩
 | tup l =>
  simp only [Rep] at h
  exact h
 | ins c ns l=>exact Rep.same fh h
 | _ =>
  simp only [Rep] at h
  exact h
def RepB.rep (fh:Same F H) (h:RepB K F H d v):Rep K H d v:=by
 cases d with
 | lst l =>
  obtain ⟨a,vs,e,h1,h2⟩:=h
  simp only [Rep]
  exact ⟨a,vs,e,h1,h2.same fh⟩
 | dct ks l =>
  obtain ⟨a,vs,e,h1,h2,h3⟩:=h
  simp only [Rep]
  exact ⟨a,vs,e,h1,h2,h3.same fh⟩
 | dcT ks l =>
  obtain ⟨a,vs,e,h1,h2,h3⟩:=h
  simp only [Rep]
  exact ⟨a,vs,e,h1,h2,h3.same fh⟩
 | tup l =>
  obtain ⟨a,vs,e,h1,h2⟩:=h
  simp only [Rep]
  exact ⟨a,vs,e,fh.tup h1,h2.same fh⟩
 | ins c ns l=>exact h
 | _ =>
  simp only [Rep]
  exact h
def RepB.step (ff:Same F F') (hh:Same H H') (h:RepB K F H d v):RepB K F' H' d v:=by
 cases d with
 | lst l =>
  obtain ⟨a,vs,e,h1,h2⟩:=h
  exact ⟨a,vs,e,hh.seq h1,h2.same ff⟩
 | dct ks l =>
  obtain ⟨a,vs,e,h1,h2,h3⟩:=h
  exact ⟨a,vs,e,hh.rd h1,h2,h3.same ff⟩
 | dcT ks l =>
  obtain ⟨a,vs,e,h1,h2,h3⟩:=h
  exact ⟨a,vs,e,hh.rd h1,h2,h3.same ff⟩
 | tup l =>
  obtain ⟨a,vs,e,h1,h2⟩:=h
  exact ⟨a,vs,e,ff.tup h1,h2.same ff⟩
 | ins c ns l=>exact Rep.same hh h
 | _=>exact h
def Own.repB (fh:Same F H) (h:Own K F H t v S):RepB K F H t.d v:=by
 induction t with
 | leaf d=>exact RepB.of fh h
 | lst l =>
  obtain ⟨a,vs,e,_,h1,h2⟩:=h
  exact ⟨a,vs,e,SqL.of h1,h2⟩
 | dct l =>
  obtain ⟨a,vs,e,_,h1,h2⟩:=h
  exact ⟨a,vs,e,.inl h1,h2⟩
 | dcT l =>
  obtain ⟨a,vs,e,_,h1,h2⟩:=h
  exact ⟨a,vs,e,.inl h1,h2⟩
 | obj c ns l=>exact qz fh (fun _ _ _ e=>e) h
 | pin a t ih=>exact ih h.2.2
open Classical in
def se (F H:Hp) (S:Addr->Prop):Hp:=fun b=>if S b then H b else F b
def il {b:Addr} (h:S b):se F H S b=H b:=if_pos h
def jK {b:Addr} (h:¬ S b):se F H S b=F b:=if_neg h
def qA (hs:∀ b,S b->F b=none):Same F (se F H S):=fun b o e=>by
 have:¬ S b:=fun z=>by rw [hs b z] at e;cases e
 rw [jK this]
 exact e
def wq (fh:Same F H):Same (se F H S) H:=fun b o e=>by
 by_cases h:S b
 · rw [il h] at e
   exact e
 · rw [jK h] at e
   exact fh _ _ e
def Own.freeze (hs:∀ b,S b->F b=none) (h:Own K F H t v S):Rep K (se F H S) t.d v:=by
 have ff:=qA (H:=H) hs
 induction t with
 | leaf d=>exact Rep.same ff h
 | lst l =>
  obtain ⟨a,vs,e,q,h1,h2⟩:=h
  simp only [T.d,Rep]
  exact ⟨a,vs,e,SqL.of (by rw [il q];exact h1),h2.same ff⟩
 | dct l =>
  obtain ⟨a,vs,e,q,h1,h2,h3⟩:=h
  simp only [T.d,Rep]
  exact ⟨a,vs,e,.inl (by rw [il q];exact h1),h2,h3.same ff⟩
 | dcT l =>
  obtain ⟨a,vs,e,q,h1,h2,h3⟩:=h
  simp only [T.d,Rep]
  exact ⟨a,vs,e,.inl (by rw [il q];exact h1),h2,h3.same ff⟩
 | obj c ns l=>exact qz ff (fun b o z e=>by rw [il z];exact e) h
 | pin a t ih=>exact ih h.2.2
end
abbrev Ix:=Nat
abbrev De:=List (Option T)
structure Sep (K:PySem.W.Frag) (F H:Hp) (B:Addr->Prop) (L:Ix->Option (T×V)) (S:Ix->Addr->Prop):Prop where
 own:∀ i t v,L i=some (t,v)->Own K F H t v (S i)
 out:∀ i b,S i b->F b=none/\(∃ o,H b=some o)/\B b
 dis:∀ i j b,S i b->S j b->i=j
def k5 (δ:De) (σ:St) (i:Nat):Option (T×V):=match δ[i]?,σ[i]? with
 | some (some t),some (some v)=>some (t,v)
 | _,_=>none
structure Fm where
 K:PySem.W.Frag
 F0:Hp
 H0:Hp
 S0:Addr->Prop
def Fm.B (Φ:Fm) (b:Addr):Prop:=Φ.H0 b=none∨Φ.S0 b
structure En (Φ:Fm) (δ:De) (σ:St) (F H:Hp):Prop where
 fh:Same F H
 prot:∀ b o,Φ.H0 b=some o->¬ Φ.S0 b->H b=some o
 old:Same Φ.F0 F
 nw:∀ b o,F b=some o->Φ.F0 b=some o∨Φ.B b
 len:δ.length=σ.length
 has:∀ (i:Nat) (t:T),δ[i]?=some (some t)->∃ v,σ[i]?=some (some v)
 sep:∃ S,Sep Φ.K F H Φ.B (k5 δ σ) S
section
variable {Φ:Fm} {δ:De} {σ:St} {F H F' H':Hp}
def c6 {i:Nat} {t:T} {v:V} (h1:δ[i]?=some (some t)) (h2:σ[i]?=some (some v)):k5 δ σ i=some (t,v):=by
 unfold k5
 rw [h1,h2]
def ej {i:Nat} {t:T} {v:V} (h:k5 δ σ i=some (t,v)):δ[i]?=some (some t)/\σ[i]?=some (some v):=by
 unfold k5 at h
 split at h
 · rename_i e1 e2
   cases h
   exact ⟨e1,e2⟩
 · cases h
def En.fresh (e:En Φ δ σ F H) {p:Addr} (hp:H p=none):Φ.B p:=by
 by_cases h:Φ.S0 p
 · exact .inr h
 · left
   cases q:Φ.H0 p with
   | none=>rfl
   | some o=>rw [e.prot p o q h] at hp;cases hp
def Sep.step {K:PySem.W.Frag} {B:Addr->Prop} {L:Ix->Option (T×V)} {S:Ix->Addr->Prop} (s:Sep K F H B L S) (st:Step F H F' H'):Sep K F' H' B L S where
 own:=fun i t v h=>(s.own i t v h).step st.ff fun b o _ e=>st.hh b o e
 out:=fun i b h=>by
  obtain ⟨h1,⟨o,h2⟩,h3⟩:=s.out i b h
  refine ⟨?_,⟨o,st.hh _ _ h2⟩,h3⟩
  cases q:F' b with
  | none=>rfl
  | some o' =>
   rcases st.nw b o' q with z | z
   · rw [h1] at z;cases z
   · rw [h2] at z;cases z
 dis:=s.dis
def En.step (e:En Φ δ σ F H) (st:Step F H F' H'):En Φ δ σ F' H' where
 fh:=st.fh
 prot:=fun b o h1 h2=>st.hh _ _ (e.prot b o h1 h2)
 old:=e.old.trans st.ff
 nw:=fun b o h=>by
  rcases st.nw b o h with z | z
  · exact e.nw b o z
  · exact .inr (e.fresh z)
 len:=e.len
 has:=e.has
 sep:=let ⟨S,s⟩:=e.sep;⟨S,s.step st⟩
def En.slot (e:En Φ δ σ F H) {i:Nat} {t:T} (h:δ[i]?=some (some t)):∃ v,σ[i]?=some (some v)/\RepB Φ.K F H t.d v:=by
 obtain ⟨v,hv⟩:=e.has i t h
 obtain ⟨S,s⟩:=e.sep
 exact ⟨v,hv,(s.own i t v (c6 h hv)).repB e.fh⟩
def En.leaf (e:En Φ δ σ F H) {i:Nat} {d:Dt} (h:δ[i]?=some (some (.leaf d))):∃ v,σ[i]?=some (some v)/\Rep Φ.K F d v:=by
 obtain ⟨v,hv⟩:=e.has i _ h
 obtain ⟨S,s⟩:=e.sep
 exact ⟨v,hv,s.own i _ v (c6 h hv)⟩
def eY {α:Type} {l:List (Option α)} {i j:Nat} {x y:Option α} (h:(l.set i x)[j]?=some y):(i=j/\y=x)∨(i≠j/\l[j]?=some y):=by
 by_cases hij:i=j
 · subst hij
   left
   rw [List.getElem?_set] at h
   simp only [if_true] at h
   split at h
   · cases h;exact ⟨rfl,rfl⟩
   · cases h
 · right
   rw [gN hij] at h
   exact ⟨hij,h⟩
def En.put (e:En Φ δ σ F H) {t:T} {v:V} {S':Addr->Prop} (st:Step F H F' H') (ho:Own Φ.K F' H' t v S') (hs:∀ b,S' b->F' b=none/\H b=none/\∃ o,H' b=some o) (i:Nat):En Φ (δ.set i (some t)) (σ.set i (some v)) F' H':=by
 have e':=e.step st
 obtain ⟨S,s⟩:=e.sep
 have s':=s.step st
 refine ⟨e'.fh,e'.prot,e'.old,e'.nw,by simp [e.len],fun j u h=>?_,fun j b=>if j=i then S' b else S j b,?_,?_,?_⟩
 · rcases eY h with ⟨rfl,z⟩ | ⟨hn,z⟩
   · have hi:i<σ.length:=by
      rw [<- e.len]
      have:=(gX h).1
      simpa using this
     exact ⟨v,by simp [hi]⟩
   · obtain ⟨w,hw⟩:=e.has j u z
     exact ⟨w,by rw [gN hn];exact hw⟩
 · intro j u w h
   obtain ⟨h1,h2⟩:=ej h
   rcases eY h1 with ⟨rfl,z⟩ | ⟨hn,z⟩
   · rcases eY h2 with ⟨_,z2⟩ | ⟨hn2,_⟩
     · cases z
       cases z2
       show Own _ _ _ _ _ (fun b=>if i=i then S' b else S i b)
       simp only [if_true]
       exact ho
     · exact absurd rfl hn2
   · rcases eY h2 with ⟨z2,_⟩ | ⟨_,z2⟩
     · exact absurd z2 hn
     · have:¬ j=i:=fun q=>hn q.symm
       show Own _ _ _ _ _ (fun b=>if j=i then S' b else S j b)
       simp only [if_neg this]
       exact s'.own j u w (c6 z z2)
 · intro j b h
   split at h
   · obtain ⟨h1,h2,h3⟩:=hs b h
     exact ⟨h1,h3,e.fresh h2⟩
   · exact s'.out _ b h
 · have old:∀ j b,S j b->¬ S' b:=fun j b h z=>by
    obtain ⟨_,⟨o,h2⟩,_⟩:=s.out j b h
    rw [(hs b z).2.1] at h2
    cases h2
   intro j k b hj hk
   split at hj<;>split at hk
   · rename_i q1 q2
     rw [q1,q2]
   · exact absurd hj (old _ b hk)
   · exact absurd hk (old _ b hj)
   · exact s.dis _ _ b hj hk
def sf {K:PySem.W.Frag} {t:T} {a:Addr} {S:Addr->Prop} (ht:∀ d,t≠.leaf d) (h:Own K F H t (.ref a) S):S a:=by
 induction t with
 | leaf d=>exact absurd rfl (ht d)
 | lst l=>obtain ⟨b,_,e,q,_⟩:=h;cases e;exact q
 | dct l=>obtain ⟨b,_,e,q,_⟩:=h;cases e;exact q
 | dcT l=>obtain ⟨b,_,e,q,_⟩:=h;cases e;exact q
 | obj c ns l=>obtain ⟨b,_,_,_,_,e,q,_⟩:=h;cases e;exact q
 | pin b t ih=>exact ih h.2.1 h.2.2
def En.poke (e:En Φ δ σ F H) {i:Nat} {t t':T} {a:Addr} {o:HO} (h:δ[i]?=some (some t)) (hv:σ[i]?=some (some (.ref a))) (ht:∀ d,t≠.leaf d) (ho:∀ S:Addr->Prop,S a->Own Φ.K F (upd H a o) t' (.ref a) S) :
  En Φ (δ.set i (some t')) σ F (upd H a o):=by
 obtain ⟨S,s⟩:=e.sep
 have sa:S i a:=sf ht (s.own i t _ (c6 h hv))
 obtain ⟨fa,⟨oa,ha⟩,ba⟩:=s.out _ a sa
 have hi:i<δ.length:=(gX h).1
 refine ⟨fun b u z=>?_,fun b u h1 h2=>?_,e.old,e.nw,by simp [e.len],fun j u z=>?_,S,fun j u w z=>?_,fun j b z=>?_,s.dis⟩
 · have:b≠a:=fun q=>by rw [q,fa] at z;cases z
   rw [ax this]
   exact e.fh _ _ z
 · have:b≠a:=fun q=>by
    subst q
    rcases ba with z | z
    · rw [z] at h1;cases h1
    · exact h2 z
   rw [ax this]
   exact e.prot b u h1 h2
 · rcases eY z with ⟨rfl,_⟩ | ⟨hn,z⟩
   · exact ⟨_,hv⟩
   · exact e.has j u z
 · obtain ⟨h1,h2⟩:=ej z
   rcases eY h1 with ⟨rfl,z1⟩ | ⟨hn,z1⟩
   · cases z1
     rw [hv] at h2
     cases h2
     exact ho _ sa
   · refine (s.own j u w (c6 z1 h2)).step (Same.refl _) fun b q hb hq=>?_
     have:b≠a:=fun y=>by
      subst y
      exact hn (s.dis _ _ _ hb sa).symm
     rw [ax this]
     exact hq
 · obtain ⟨h1,⟨q,h2⟩,h3⟩:=s.out j b z
   refine ⟨h1,?_,h3⟩
   by_cases y:b=a
   · subst y
     exact ⟨o,aD⟩
   · exact ⟨q,by rw [ax y];exact h2⟩
end
def KO (K:PySem.W.Frag) (F H:Hp) (t:T) (Q:VK):Prop:=∀ v H' F' S,Step F H F' H'->Own K F' H' t v S->(∀ b,S b->F' b=none/\H b=none/\∃ o,H' b=some o)->Q v H'
def KL (K:PySem.W.Frag) (F H:Hp) (d:Dt) (Q:VK):Prop:=∀ v H' F',Step F H F' H'->Rep K F' d v->Q v H'
def KB (K:PySem.W.Frag) (F H:Hp) (d:Dt) (Q:VK):Prop:=∀ v H' F',Step F H F' H'->RepB K F' H' d v->Q v H'
section
variable {K:PySem.W.Frag} {F H F1 H1:Hp} {t:T} {d:Dt} {Q:VK}
def KO.step (k:KO K F H t Q) (st:Step F H F1 H1):KO K F1 H1 t Q:=fun v H' F' S s o hs=>k v H' F' S (st.trans s) o fun b z=>⟨(hs b z).1,st.hh.free (hs b z).2.1,(hs b z).2.2⟩
def KO.leaf (k:KO K F H (.leaf d) Q):KL K F H d Q:=fun v H' F' st r=>k v H' F' (fun _=>False) st r fun _ z=>z.elim
def KL.here (k:KL K F H d Q) (fh:Same F H) {v:V} (r:Rep K F d v):Q v H:=k v H F (Step.refl fh) r
def KB.to (k:KB K F H d Q):KL K F H d Q:=fun v H' F' st r=>k v H' F' st (RepB.of st.fh r)
def KL.to (k:KL K F H t.d Q):KO K F H t Q:=fun v H' F' S st o hs=>by
 refine k v H' (se F' H' S) ⟨st.hh,st.ff.trans (qA fun b z=>(hs b z).1),wq st.fh,fun b u z=>?_⟩ (o.freeze fun b z=>(hs b z).1)
 by_cases hb:S b
 · exact .inr (hs b hb).2.1
 · rw [jK hb] at z
   exact st.nw b u z
def KB.toO (k:KB K F H t.d Q):KO K F H t Q:=fun v H' F' S st o hs=>k v H' F' st (o.repB st.fh)
end
def tO (K:PySem.W.Frag) (f:De->Option T):TE:=fun σ H Q=>∃ Φ δ F t,Fm.K Φ=K/\En Φ δ σ F H/\f δ=some t/\KO K F H t Q
def tL (K:PySem.W.Frag) (f:De->Option Dt):TE:=fun σ H Q=>∃ Φ δ F d,Fm.K Φ=K/\En Φ δ σ F H/\f δ=some d/\KL K F H d Q
def tBd (K:PySem.W.Frag) (f:De->Option Dt):TE:=fun σ H Q=>∃ Φ δ F d,Fm.K Φ=K/\En Φ δ σ F H/\f δ=some d/\KB K F H d Q
def tTr (K:PySem.W.Frag) (f:De->Option Bool):TT:=fun σ H Q=>∃ Φ δ F b,Fm.K Φ=K/\En Φ δ σ F H/\f δ=some b/\∀ H' F',Step F H F' H'->Q b H'
def DO (X:Cx) (e:Expr) (f:De->Option T):Prop:=PE X e (tO X.K f)
def DL (X:Cx) (e:Expr) (f:De->Option Dt):Prop:=PE X e (tL X.K f)
def DB (X:Cx) (e:Expr) (f:De->Option Dt):Prop:=PE X e (tBd X.K f)
def DT (X:Cx) (e:Expr) (f:De->Option Bool):Prop:=PT X e (tTr X.K f)
def DW (X:Cx) (e:Expr) (f:De->Option Bool):Prop:=PW X e (tTr X.K f)
def PE.mono {X:Cx} {e:Expr} {t t':TE} (h:PE X e t) (m:∀ σ H Q,t' σ H Q->t σ H Q):PE X e t':=fun pins s σ H Q I q=>h pins s σ H Q I (m _ _ _ q)
def PT.mono {X:Cx} {e:Expr} {t t':TT} (h:PT X e t) (m:∀ σ H Q,t' σ H Q->t σ H Q):PT X e t':=fun pins s σ H Q I q=>h pins s σ H Q I (m _ _ _ q)
def PW.mono {X:Cx} {e:Expr} {t t':TT} (h:PW X e t) (m:∀ σ H Q,t' σ H Q->t σ H Q):PW X e t':=fun whole pins s σ H Q I q=>h whole pins s σ H Q I (m _ _ _ q)
def PA.mono {X:Cx} {e:List Expr} {t t':TA} (h:PA X e t) (m:∀ σ H Q,t' σ H Q->t σ H Q):PA X e t':=fun pos pins s σ H Q I q=>h pos pins s σ H Q I (m _ _ _ q)
def PI.mono {X:Cx} {tg e:Expr} {t t':TI} (h:PI X tg e t) (m:∀ σ H Q,t' σ H Q->t σ H Q):PI X tg e t':=fun pins s σ H Q I q=>h pins s σ H Q I (m _ _ _ q)
def PG.mono {X:Cx} {e:Expr} {t t':TG} (h:PG X e t) (m:∀ v σ H Q,t' v σ H Q->t v σ H Q):PG X e t':=fun pins s σ H v u Q I r q=>h pins s σ H v u Q I r (m _ _ _ _ q)
def PS.mono {X:Cx} {e:Stmt} {t t':TS} (h:PS X e t) (m:∀ D σ H,t' D σ H->t D σ H):PS X e t':=fun pins s σ H Q I q=>h pins s σ H Q I (m _ _ _ q)
def PSs.mono {X:Cx} {e:List Stmt} {t t':TS} (h:PSs X e t) (m:∀ D σ H,t' D σ H->t D σ H):PSs X e t':=fun pins s σ H Q I q=>h pins s σ H Q I (m _ _ _ q)
def PE.or {X:Cx} {e:Expr} {t t':TE} (h:PE X e t) (h':PE X e t'):PE X e (fun σ H Q=>t σ H Q∨t' σ H Q):=fun pins s σ H Q I q=>q.elim (h pins s σ H Q I) (h' pins s σ H Q I)
def PI.or {X:Cx} {tg e:Expr} {t t':TI} (h:PI X tg e t) (h':PI X tg e t'):PI X tg e (fun σ H Q=>t σ H Q∨t' σ H Q):=fun pins s σ H Q I q=>q.elim (h pins s σ H Q I) (h' pins s σ H Q I)
section
variable {X:Cx} {e a b c:Expr} {f:De->Option T} {g fa fb fc:De->Option Dt} {pos:Pos}
def toD (f:De->Option T):De->Option Dt:=fun δ=>(f δ).map T.d
def toT (f:De->Option Dt):De->Option T:=fun δ=>(f δ).map T.leaf
def DO.toL (h:DO X e f):DL X e (toD f):=PE.mono h fun σ H Q ⟨Φ,δ,F,d,hK,en,hf,k⟩=>by
 unfold toD at hf
 cases ht:f δ with
 | none=>rw [ht] at hf;cases hf
 | some t =>
  rw [ht] at hf
  cases hf
  exact ⟨Φ,δ,F,t,hK,en,ht,k.to⟩
def DO.toB (h:DO X e f):DB X e (toD f):=PE.mono h fun σ H Q ⟨Φ,δ,F,d,hK,en,hf,k⟩=>by
 unfold toD at hf
 cases ht:f δ with
 | none=>rw [ht] at hf;cases hf
 | some t =>
  rw [ht] at hf
  cases hf
  exact ⟨Φ,δ,F,t,hK,en,ht,k.toO⟩
def DL.toB (h:DL X e g):DB X e g:=PE.mono h fun σ H Q ⟨Φ,δ,F,d,hK,en,hf,k⟩=>⟨Φ,δ,F,d,hK,en,hf,k.to⟩
def DL.toO (h:DL X e g):DO X e (toT g):=PE.mono h fun σ H Q ⟨Φ,δ,F,t,hK,en,hf,k⟩=>by
 unfold toT at hf
 cases hd:g δ with
 | none=>rw [hd] at hf;cases hf
 | some d =>
  rw [hd] at hf
  cases hf
  exact ⟨Φ,δ,F,d,hK,en,hd,k.leaf⟩
def vL (i:Nat):De->Option Dt:=fun δ=>match δ[i]? with
 | some (some (.leaf d))=>some d
 | _=>none
def vB (i:Nat):De->Option Dt:=fun δ=>match δ[i]? with
 | some (some t)=>some t.d
 | _=>none
def am {i:Nat} (h:PE X e (jh i)):DL X e (vL i):=PE.mono h fun σ H Q ⟨Φ,δ,F,d,hK,en,hf,k⟩=>by
 unfold vL at hf
 split at hf
 · rename_i q
   cases hf
   obtain ⟨v,h1,h2⟩:=en.leaf q
   exact ⟨v,h1,k.here en.fh (hK▸h2)⟩
 · cases hf
def ah {i:Nat} (h:PE X e (jh i)):DB X e (vB i):=PE.mono h fun σ H Q ⟨Φ,δ,F,d,hK,en,hf,k⟩=>by
 unfold vB at hf
 split at hf
 · rename_i q
   cases hf
   obtain ⟨v,h1,h2⟩:=en.slot q
   exact ⟨v,h1,k v H F (Step.refl en.fh) (hK▸h2)⟩
 · cases hf
def kD (d:Dt):De->Option Dt:=fun _=>some d
def uc {v:V} {d:Dt} (h:PE X e (tC v)) (r:∀ F,Rep X.K F d v):DL X e (kD d):=PE.mono h fun σ H Q ⟨Φ,δ,F,d',hK,en,hf,k⟩=>by
 cases hf
 exact k.here en.fh (r F)
def ai {i:Int} {j}:DL X (.Constant (.int i) j pos) (kD (.int i)):=uc yP fun F=>by simp only [Rep]
def mY {i:Bool} {j}:DL X (.Constant (.bool i) j pos) (kD (.bl i)):=uc A5 fun F=>by simp only [Rep]
def fN {j}:DL X (.Constant .none j pos) (kD .non):=uc yQ fun F=>by simp only [Rep]
def bi {x:Str} {j}:DL X (.Constant (.str x) j pos) (kD (.str x)):=uc yR fun F=>by simp only [Rep]
def R2D (K:PySem.W.Frag) (r:R2) (g:Dt->Dt->Option T):Prop:=∀ F H x y vx vy (Q:VK) t,Same F H->RepB K F H x vx->RepB K F H y vy->g x y=some t->KO K F H t Q->r vx vy H Q
def d2 (g:Dt->Dt->Option T) (fa fb:De->Option Dt):De->Option T:=fun δ=>(fa δ).bind fun x=>(fb δ).bind fun y=>g x y
def k6 {K:PySem.W.Frag} {r:R2} {g:Dt->Dt->Option T} (hr:R2D K r g) {σ:St} {H:Hp} {Q:VK} (h:tO K (d2 g fa fb) σ H Q):tOp r (tBd K fa) (tBd K fb) σ H Q:=by
 obtain ⟨Φ,δ,F,t,hK,en,hf,k⟩:=h
 unfold d2 at hf
 obtain ⟨x,hx,hf⟩:=bS hf
 obtain ⟨y,hy,hf⟩:=bS hf
 exact ⟨Φ,δ,F,x,hK,en,hx,fun v H1 F1 st rv=>⟨Φ,δ,F1,y,hK,en.step st,hy,fun v2 H2 F2 st2 rv2=>hr F2 H2 x y v v2 Q t st2.fh (rv.step st2.ff st2.hh) rv2 hf (k.step (st.trans st2))⟩⟩
def av {op:Operator} {r:R2} {g:Dt->Dt->Option T} (ho:OpR X (binaryOp op) r) (hr:R2D X.K r g) (ha:DB X a fa) (hb:DB X b fb):DO X (.BinOp a op b pos) (d2 g fa fb):=PE.mono (Bc ho ha hb) fun σ H Q h=>k6 hr h
def dy {op:CmpOp} {r:R2} {g:Dt->Dt->Option T} (ho:OpR X (compareOp op) r) (hr:R2D X.K r g) (ha:DB X a fa) (hb:DB X b fb) (hm:behindInMarks op b=false):DO X (.Compare a [op] [b] pos) (d2 g fa fb):=PE.mono (vW ho ha hb hm) fun σ H Q h=>k6 hr h
def asB:T->Option Bool
 | .leaf (.bl b)=>some b
 | _=>none
def tB2 (g:Dt->Dt->Option T) (fa fb:De->Option Dt):De->Option Bool:=fun δ=>(d2 g fa fb δ).bind asB
def qB {K:PySem.W.Frag} {F H:Hp} {t:T} {v:V} {S:Addr->Prop} {b:Bool} (h:asB t=some b) (o:Own K F H t v S):v=.bl b:=by
 unfold asB at h
 split at h
 · cases h
   have o:Rep K F (.bl b) v:=o
   simp only [Rep] at o
   exact o
 · cases h
def bp {op:CmpOp} {r:R2} {g:Dt->Dt->Option T} (ho:OpR X (compareOp op) r) (hr:R2D X.K r g) (ha:DB X a fa) (hb:DB X b fb) (hm:behindInMarks op b=false):DT X (.Compare a [op] [b] pos) (tB2 g fa fb):=PT.mono (jr ho ha hb hm) fun σ H Q ⟨Φ,δ,F,t,hK,en,hf,k⟩=>by
 unfold tB2 at hf
 obtain ⟨z,hz,hf⟩:=bS hf
 refine k6 hr ⟨Φ,δ,F,z,hK,en,hz,fun v H' F' S st o hs=>?_⟩
 exact ⟨t,qB hf o,k H' F' st⟩
def ud:Dt->Option Bool
 | .non=>some false
 | .bl b=>some b
 | .int i=>some (i != 0)
 | .str x=>if x.length<=sizeLine then some ((x.length:Int) != 0) else none
 | .tup l=>some (!l.isEmpty)
 | .lst l=>some (!l.isEmpty)
 | _=>none
def jk (f:De->Option Dt):De->Option Bool:=fun δ=>(f δ).bind ud
def im {K:PySem.W.Frag} {F:Hp} {l:List Dt} {vs:List V} (h:Reps K F l vs):l.isEmpty=vs.isEmpty:=by
 cases l with
 | nil=>unfold Reps at h;rw [h];rfl
 | cons d l=>unfold Reps at h;obtain ⟨v,ws,rfl,_⟩:=h;rfl
def qC {K:PySem.W.Frag} {F H:Hp} {d:Dt} {v:V} {b:Bool} (fh:Same F H) (h:RepB K F H d v) (hb:ud d=some b):zi K v H b:=by
 cases d with
 | non=>cases h;cases hb;rfl
 | bl x=>cases h;cases hb;rfl
 | int x=>cases h;cases hb;rfl
 | str x =>
  cases h
  simp only [ud] at hb
  split at hb
  · cases hb;exact ⟨by assumption,rfl⟩
  · cases hb
 | tup l =>
  obtain ⟨a,vs,rfl,h1,h2⟩:=h
  cases hb
  exact .inr (.inl ⟨vs,fh.tup h1,by rw [im h2]⟩)
 | lst l =>
  obtain ⟨a,vs,rfl,h1,h2⟩:=h
  cases hb
  exact .inl ⟨vs,h1,by rw [im h2]⟩
 | dct ks l=>cases hb
 | dcT ks l=>cases hb
 | ins c ns l=>cases hb
def fO (ha:DB X a fa) (he:∀ whole,isTrue a X.env whole=(do let v <- whole;standAt a.pos;holding [v] (truthy v))):DT X a (jk fa):=PT.mono (mM ha he) fun σ H Q ⟨Φ,δ,F,b,hK,en,hf,k⟩=>by
 unfold jk at hf
 obtain ⟨d,hd,hf⟩:=bS hf
 exact ⟨Φ,δ,F,d,hK,en,hd,fun v H' F' st r=>⟨b,qC st.fh r hf,k H' F' st⟩⟩
def o4 (f:De->Option Bool):De->Option Bool:=fun δ=>(f δ).map (!·)
def dX (f g:De->Option Bool):De->Option Bool:=fun δ=>(f δ).bind fun b=>if b then g δ else some false
def fOr (f g:De->Option Bool):De->Option Bool:=fun δ=>(f δ).bind fun b=>if b then some true else g δ
variable {ta tb tc:De->Option Bool} {rest:List Expr}
def o5 (h:DT X a ta):DT X (.UnaryOp .Not a pos) (o4 ta):=PT.mono (tj h) fun σ H Q ⟨Φ,δ,F,b,hK,en,hf,k⟩=>by
 unfold o4 at hf
 cases q:ta δ with
 | none=>rw [q] at hf;cases hf
 | some c =>
  rw [q] at hf
  cases hf
  exact ⟨Φ,δ,F,c,hK,en,q,fun H' F' st=>k H' F' st⟩
def eZ (h:DT X a ta):DW X (.BoolOp .And [a] pos) ta:=vU h
def o6 (h:DT X a ta):DW X (.BoolOp .Or [a] pos) ta:=yS h
def dY (h:DT X a ta) (h':DW X (.BoolOp .And (b::rest) pos) tb):DW X (.BoolOp .And (a::b::rest) pos) (dX ta tb):=PW.mono (yT h h') fun σ H Q ⟨Φ,δ,F,t,hK,en,hf,k⟩=>by
 unfold dX at hf
 obtain ⟨c,hc,hf⟩:=bS hf
 refine ⟨Φ,δ,F,c,hK,en,hc,fun H' F' st=>?_⟩
 split at hf
 · rename_i q
   rw [if_pos q]
   exact ⟨Φ,δ,F',t,hK,en.step st,hf,fun H2 F2 s2=>k H2 F2 (st.trans s2)⟩
 · rename_i q
   rw [if_neg q]
   cases hf
   exact k H' F' st
def mZ (h:DT X a ta) (h':DW X (.BoolOp .Or (b::rest) pos) tb):DW X (.BoolOp .Or (a::b::rest) pos) (fOr ta tb):=PW.mono (A6 h h') fun σ H Q ⟨Φ,δ,F,t,hK,en,hf,k⟩=>by
 unfold fOr at hf
 obtain ⟨c,hc,hf⟩:=bS hf
 refine ⟨Φ,δ,F,c,hK,en,hc,fun H' F' st=>?_⟩
 split at hf
 · rename_i q
   rw [if_pos q]
   cases hf
   exact k H' F' st
 · rename_i q
   rw [if_neg q]
   exact ⟨Φ,δ,F',t,hK,en.step st,hf,fun H2 F2 s2=>k H2 F2 (st.trans s2)⟩
def DW.t (h:DW X a ta):DT X a ta:=h.pt
def m6:Dt->Option Bool
 | .bl b=>some b
 | _=>none
def zH (f:De->Option Dt):De->Option T:=fun δ=>(f δ).bind fun x=>(m6 x).map fun b=>.leaf (.bl (!b))
def m7 (f:De->Option Dt) (g:De->Option T):De->Option T:=fun δ=>(f δ).bind fun x=>(m6 x).bind fun b=>if b then g δ else some (.leaf (.bl false))
def vIf (c:De->Option Bool) (f g:De->Option T):De->Option T:=fun δ=>(c δ).bind fun b=>if b then f δ else g δ
def qD {K:PySem.W.Frag} {F H:Hp} {x:Dt} {v:V} {b:Bool} (h:m6 x=some b) (r:RepB K F H x v):v=.bl b:=by
 unfold m6 at h
 split at h
 · cases h;exact r
 · cases h
def o7 {K:PySem.W.Frag} {F:Hp} {b:Bool}:Rep K F (.bl b) (.bl b):=by simp only [Rep]
def f9 {K:PySem.W.Frag} {F:Hp} {b:Int}:Rep K F (.int b) (.int b):=by simp only [Rep]
def io {K:PySem.W.Frag} {F:Hp} {b:Str}:Rep K F (.str b) (.str b):=by simp only [Rep]
def ip {K:PySem.W.Frag} {F:Hp}:Rep K F .non .non:=by simp only [Rep]
variable {oa ob:De->Option T}
def zI (h:DB X a fa):DO X (.UnaryOp .Not a pos) (zH fa):=PE.mono (yW h) fun σ H Q ⟨Φ,δ,F,t,hK,en,hf,k⟩=>by
 unfold zH at hf
 obtain ⟨x,hx,hf⟩:=bS hf
 cases q:m6 x with
 | none=>rw [q] at hf;cases hf
 | some b =>
  rw [q] at hf
  cases hf
  exact ⟨Φ,δ,F,x,hK,en,hx,fun v H' F' st r=>⟨b,qD q r,(k.step st).leaf.here st.fh o7⟩⟩
def o8 {op} (h:DO X a oa):DO X (.BoolOp op [a] pos) oa:=yU h
def o9 (h:DB X a fa) (h':DO X (.BoolOp .And (b::rest) pos) ob):DO X (.BoolOp .And (a::b::rest) pos) (m7 fa ob):=PE.mono (yV h h') fun σ H Q ⟨Φ,δ,F,t,hK,en,hf,k⟩=>by
 unfold m7 at hf
 obtain ⟨x,hx,hf⟩:=bS hf
 obtain ⟨b,hb,hf⟩:=bS hf
 refine ⟨Φ,δ,F,x,hK,en,hx,fun v H' F' st r=>⟨b,qD hb r,?_⟩⟩
 split at hf
 · rename_i q
   rw [if_pos q]
   exact ⟨Φ,δ,F',t,hK,en.step st,hf,k.step st⟩
 · rename_i q
   rw [if_neg q]
   cases hf
   exact (k.step st).leaf.here st.fh o7
def Bu (hc:DT X c tc) (h:DO X a oa) (h':DO X b ob):DO X (.IfExp c a b pos) (vIf tc oa ob):=PE.mono (mJ hc h h') fun σ H Q ⟨Φ,δ,F,t,hK,en,hf,k⟩=>by
 unfold vIf at hf
 obtain ⟨x,hx,hf⟩:=bS hf
 refine ⟨Φ,δ,F,x,hK,en,hx,fun H' F' st=>?_⟩
 split at hf
 · rename_i q
   rw [if_pos q]
   exact ⟨Φ,δ,F',t,hK,en.step st,hf,k.step st⟩
 · rename_i q
   rw [if_neg q]
   exact ⟨Φ,δ,F',t,hK,en.step st,hf,k.step st⟩
def RepBs (K:PySem.W.Frag) (F H:Hp):List Dt->List V->Prop
 | [],vs=>vs=[]
 | d::l,vs=>∃ v ws,vs=v::ws/\RepB K F H d v/\RepBs K F H l ws
def tAL (K:PySem.W.Frag) (f:De->Option (List Dt)):TA:=fun σ H Q=>∃ Φ δ F ds,Fm.K Φ=K/\En Φ δ σ F H/\f δ=some ds/\∀ vs H' F',Step F H F' H'->Reps K F' ds vs->Q vs H'
def tAB (K:PySem.W.Frag) (f:De->Option (List Dt)):TA:=fun σ H Q=>∃ Φ δ F ds,Fm.K Φ=K/\En Φ δ σ F H/\f δ=some ds/\∀ vs H' F',Step F H F' H'->RepBs K F' H' ds vs->Q vs H'
structure DA (X:Cx) (es:List Expr) (f:De->Option (List Dt)):Prop where
 len:∀ δ ds,f δ=some ds->ds.length=es.length
 pa:PA X es (tAL X.K f)
structure DAB (X:Cx) (es:List Expr) (f:De->Option (List Dt)):Prop where
 len:∀ δ ds,f δ=some ds->ds.length=es.length
 pa:PA X es (tAB X.K f)
def ao:De->Option (List Dt):=fun _=>some []
def ae (f:De->Option Dt) (g:De->Option (List Dt)):De->Option (List Dt):=fun δ=>(f δ).bind fun d=>(g δ).bind fun ds=>some (d::ds)
variable {es:List Expr} {fs:De->Option (List Dt)}
def k7 {n:Nat} {f:De->Option Dt} (h:∀ δ ds,fs δ=some ds->ds.length=n):∀ δ ds,ae f fs δ=some ds->ds.length=n+1:=fun δ ds hf=>by
 unfold ae at hf
 obtain ⟨x,hx,hf⟩:=bS hf
 obtain ⟨y,hy,hf⟩:=bS hf
 cases hf
 simp [h δ y hy]
def ap:DA X [] ao:=⟨fun _ _ h=>by cases h;rfl,PA.mono dS fun σ H Q ⟨Φ,δ,F,ds,hK,en,hf,k⟩=>by
 cases hf
 exact k [] H F (Step.refl en.fh) (by simp only [Reps])⟩
def bt:DAB X [] ao:=⟨fun _ _ h=>by cases h;rfl,PA.mono dS fun σ H Q ⟨Φ,δ,F,ds,hK,en,hf,k⟩=>by
 cases hf
 exact k [] H F (Step.refl en.fh) rfl⟩
def ag (h:DL X e g) (h':DA X es fs) (hs:starEach (e::es) X.env=(false,eval e X.env)::starEach es X.env:=by rfl):DA X (e::es) (ae g fs):=
 ⟨k7 h'.len,PA.mono (bY h h'.pa hs) fun σ H Q ⟨Φ,δ,F,ds,hK,en,hf,k⟩=>by
  unfold ae at hf
  obtain ⟨x,hx,hf⟩:=bS hf
  obtain ⟨y,hy,hf⟩:=bS hf
  cases hf
  exact ⟨Φ,δ,F,x,hK,en,hx,fun v H1 F1 st r=>⟨Φ,δ,F1,y,hK,en.step st,hy,fun vs H2 F2 s2 r2=>k (v::vs) H2 F2 (st.trans s2) (by simp only [Reps];exact ⟨v,vs,rfl,r.same s2.ff,r2⟩)⟩⟩⟩
def aY (h:DB X e g) (h':DAB X es fs) (hs:starEach (e::es) X.env=(false,eval e X.env)::starEach es X.env:=by rfl):DAB X (e::es) (ae g fs):=
 ⟨k7 h'.len,PA.mono (bY h h'.pa hs) fun σ H Q ⟨Φ,δ,F,ds,hK,en,hf,k⟩=>by
  unfold ae at hf
  obtain ⟨x,hx,hf⟩:=bS hf
  obtain ⟨y,hy,hf⟩:=bS hf
  cases hf
  exact ⟨Φ,δ,F,x,hK,en,hx,fun v H1 F1 st r=>⟨Φ,δ,F1,y,hK,en.step st,hy,fun vs H2 F2 s2 r2=>k (v::vs) H2 F2 (st.trans s2) ⟨v,vs,rfl,r.step s2.ff s2.hh,r2⟩⟩⟩⟩
def bB (f:De->Option (List Dt)):De->Option T:=fun δ=>(f δ).bind fun ds=>if ds.length<=sizeLine then some (.leaf (.tup ds)) else none
def cN (f:De->Option (List Dt)):De->Option T:=fun δ=>(f δ).bind fun ds=>if ds.length<=sizeLine then some (.lst ds) else none
def aQ {x1} (h:DA X es fs):DO X (.Tuple es x1 pos) (bB fs):=PE.mono (zm h.pa) fun σ H Q ⟨Φ,δ,F,t,hK,en,hf,k⟩=>by
 unfold bB at hf
 obtain ⟨ds,hd,hf⟩:=bS hf
 split at hf
 · rename_i hl
   cases hf
   refine ⟨Φ,δ,F,ds,hK,en,hd,fun vs H1 F1 st r=>⟨by rw [r.length];exact hl,fun p hp=>?_⟩⟩
   refine (k.step st).leaf _ _ _ (Step.new st.fh hp) ?_
   simp only [Rep]
   exact ⟨p,vs,rfl,SqT.of aD,r.same (Same.upd (st.fh.free hp))⟩
 · cases hf
def gd {K:PySem.W.Frag} {F H:Hp} {ds:List Dt} {vs:List V} {p:Addr} {Q:VK} (k:KO K F H (.lst ds) Q) (fh:Same F H) (r:Reps K F ds vs) (hp:H p=none):Q (.ref p) (upd H p (.lst vs)):=by
 refine k _ _ F (fun b=>b=p) (Step.made fh hp) ⟨p,vs,rfl,rfl,aD,r⟩ fun b z=>?_
 subst z
 exact ⟨fh.free hp,hp,_,aD⟩
def b9 (h:DA X es fs):DO X (.List es pos) (cN fs):=PE.mono (zn h.pa) fun σ H Q ⟨Φ,δ,F,t,hK,en,hf,k⟩=>by
 unfold cN at hf
 obtain ⟨ds,hd,hf⟩:=bS hf
 split at hf
 · rename_i hl
   cases hf
   exact ⟨Φ,δ,F,ds,hK,en,hd,fun vs H1 F1 st r=>⟨by rw [r.length];exact hl,fun p hp=>gd (k.step st) st.fh r hp⟩⟩
 · cases hf
def CRD (K:PySem.W.Frag) (r:List V->Hp->VK->Prop) (g:List Dt->Option T):Prop:=∀ F H ds vs (Q:VK) t,Same F H->RepBs K F H ds vs->g ds=some t->KO K F H t Q->r vs H Q
def au (g:List Dt->Option T) (f:De->Option (List Dt)):De->Option T:=fun δ=>(f δ).bind g
def ue {K:PySem.W.Frag} {r:List V->Hp->VK->Prop} {g:List Dt->Option T} (hr:CRD K r g) {σ:St} {H:Hp} {Q:VK} (h:tO K (au g fs) σ H Q):tCB r (tAB K fs) σ H Q:=by
 obtain ⟨Φ,δ,F,t,hK,en,hf,k⟩:=h
 unfold au at hf
 obtain ⟨ds,hd,hf⟩:=bS hf
 exact ⟨Φ,δ,F,ds,hK,en,hd,fun vs H1 F1 st r=>hr F1 H1 ds vs Q t st.fh r hf (k.step st)⟩
variable {x:Str} {p:Pos} {id Ty:String} {sc:Scope} {r:List V->Hp->VK->Prop} {gg:List Dt->Option T}
def bW (h:aF sc x=true) (hc:CallR X (.builtin id) r) (hr:CRD X.K r gg) (hm:X.mg x=none) (hv:bootBuiltins x=some (.builtin id)) (ha:DAB X (e::es) fs) (e1:bK X sc:=by rfl)
  (he:starEach (e::es) X.env=(false,eval e X.env)::starEach es X.env:=by rfl) (hpl:(backTo pos (starEach es X.env)).any (·.1)=false:=by rfl):DO X (.Call (.Name x p) (e::es) [] pos) (au gg fs):=
 PE.mono (f8 h hc hm hv ha.pa e1 he hpl) fun σ H Q q=>ue hr q
def fP (h:aF sc x=true) (hc:CallR X (.type Ty) r) (hr:CRD X.K r gg) (hm:X.mg x=none) (hv:bootBuiltins x=some (.type Ty)) (ha:DAB X (e::es) fs) (e1:bK X sc:=by rfl)
  (he:starEach (e::es) X.env=(false,eval e X.env)::starEach es X.env:=by rfl) (hpl:(backTo pos (starEach es X.env)).any (·.1)=false:=by rfl):DO X (.Call (.Name x p) (e::es) [] pos) (au gg fs):=
 PE.mono (gT h hc hm hv ha.pa e1 he hpl) fun σ H Q q=>ue hr q
def spD (K:PySem.W.Frag) (n:Nat) (f:List Dt->Option T):Sp:=fun vs H Q _=>∃ F ds t,Same F H/\ds.length=n/\Reps K F ds vs/\f ds=some t/\KO K F H t Q
def aK {k n:Nat} {ps:List Str} {ff:List Dt->Option T} (h:aF sc x=true) (F:OkF X.prog X.w X.K X.mg X.base x k ps (spD X.K n ff)) (hr:Room k X.A) (ha:DA X (e::es) fs) (hn:(e::es).length=n:=by rfl) (e1:bK X sc:=by rfl)
  (he:starEach (e::es) X.env=(false,eval e X.env)::starEach es X.env:=by rfl) (hpl:(backTo pos (starEach es X.env)).any (·.1)=false:=by rfl):DO X (.Call (.Name x p) (e::es) [] pos) (au ff fs):=
 PE.mono (iM h F hr ha.pa e1 he hpl) fun σ H Q ⟨Φ,δ,Fz,t,hK,en,hf,k⟩=>by
  unfold au at hf
  obtain ⟨ds,hd,hf⟩:=bS hf
  refine ⟨Φ,δ,Fz,ds,hK,en,hd,fun vs H1 F1 st r=>?_⟩
  show spD X.K n ff (vs++[]) H1 Q E0
  rw [List.append_nil]
  exact ⟨F1,ds,t,st.fh,(ha.len δ ds hd).trans hn,r,hf,k.step st⟩
end
inductive Out where
 | nx (δ:De) | rt (t:T) | bk (δ:De) | ct (δ:De) | re (t:T) (δ:De)
structure Rt (Φ:Fm) (t:T) (v:V) (F H:Hp):Prop where
 fh:Same F H
 prot:∀ b o,Φ.H0 b=some o->¬ Φ.S0 b->H b=some o
 old:Same Φ.F0 F
 nw:∀ b o,F b=some o->Φ.F0 b=some o∨Φ.B b
 own:∃ S,Own Φ.K F H t v S/\∀ b,S b->F b=none/\(∃ o,H b=some o)/\Φ.B b
structure Re (Φ:Fm) (t:T) (v:V) (δ:De) (σ:St) (F H:Hp):Prop where
 en:En Φ δ σ F H
 own:∃ S R,Sep Φ.K F H Φ.B (k5 δ σ) S/\Own Φ.K F H t v R/\∀ b,R b->F b=none/\(∃ o,H b=some o)/\Φ.B b/\∀ i,¬ S i b
noncomputable def Post (Φ:Fm) (D:Ends):Out->Prop
 | .nx δ=>∀ σ F H,En Φ δ σ F H->D.nx σ H
 | .rt t=>∀ v F H,Rt Φ t v F H->D.rt v H
 | .bk δ=>∀ σ F H,En Φ δ σ F H->D.bk σ H
 | .ct δ=>∀ σ F H,En Φ δ σ F H->D.ct σ H
 | .re t δ=>∀ v σ F H,Re Φ t v δ σ F H->D.rt v H
def tS (K:PySem.W.Frag) (g:De->Option Out):TS:=fun D σ H=>∃ Φ δ F o,Fm.K Φ=K/\En Φ δ σ F H/\g δ=some o/\Post Φ D o
def DS1 (X:Cx) (st:Stmt) (g:De->Option Out):Prop:=PS X st (tS X.K g)
def DS (X:Cx) (ss:List Stmt) (g:De->Option Out):Prop:=PSs X ss (tS X.K g)
section
variable {X:Cx} {st:Stmt} {rest a b body:List Stmt} {g g1 g2:De->Option Out} {e c tg iter:Expr} {pos:Pos} {f:De->Option T} {fd:De->Option Dt} {tc:De->Option Bool} {i:Nat}
def el:De->Option Out:=fun δ=>some (.nx δ)
def bq (g1 g2:De->Option Out):De->Option Out:=fun δ=>(g1 δ).bind fun o=>match o with
 | .nx δ'=>g2 δ'
 | o=>some o
def cO:DS X [] el:=PSs.mono qb fun D σ H ⟨Φ,δ,F,o,hK,en,hg,k⟩=>by
 cases hg
 exact k σ F H en
def aR (h:DS1 X st g):DS X [st] g:=qc h
def aA (h1:DS1 X st g1) (h2:DS X rest g2):DS X (st::rest) (bq g1 g2):=PSs.mono (fG h1 h2) fun D σ H ⟨Φ,δ,F,o,hK,en,hg,k⟩=>by
 unfold bq at hg
 obtain ⟨o1,h1,hg⟩:=bS hg
 refine ⟨Φ,δ,F,o1,hK,en,h1,?_⟩
 cases o1 with
 | nx δ'=>exact fun σ' F' H' en'=>⟨Φ,δ',F',o,hK,en',hg,k⟩
 | rt t=>cases hg;exact k
 | bk δ'=>cases hg;exact k
 | ct δ'=>cases hg;exact k
 | re t δ'=>cases hg;exact k
def dh (f:De->Option T):De->Option Out:=fun δ=>(f δ).map .rt
def En.rt {Φ:Fm} {δ:De} {σ:St} {F H F' H':Hp} {t:T} {v:V} {S:Addr->Prop} (en:En Φ δ σ F H) (st:Step F H F' H') (o:Own Φ.K F' H' t v S) (hs:∀ b,S b->F' b=none/\H b=none/\∃ o,H' b=some o):Rt Φ t v F' H':=by
 have e':=en.step st
 exact ⟨e'.fh,e'.prot,e'.old,e'.nw,S,o,fun b z=>⟨(hs b z).1,(hs b z).2.2,en.fresh (hs b z).2.1⟩⟩
def bu (h:DO X e f):DS1 X (.Return (some e) pos) (dh f):=PS.mono (oQ h) fun D σ H ⟨Φ,δ,F,o,hK,en,hg,k⟩=>by
 unfold dh at hg
 obtain ⟨t,ht,hg⟩:=mS hg
 cases hg
 exact ⟨Φ,δ,F,t,hK,en,ht,fun v H' F' S st o hs=>k v F' H' (en.rt st (hK▸o) hs)⟩
def qE (i:Nat):De->Option Out:=fun δ=>match δ[i]? with
 | some (some t)=>some (.rt t)
 | _=>none
def qF (h:PE X e (jh i)):DS1 X (.Return (some e) pos) (qE i):=PS.mono (oQ h) fun D σ H ⟨Φ,δ,F,o,hK,en,hg,k⟩=>by
 unfold qE at hg
 split at hg
 · rename_i t q
   cases hg
   obtain ⟨v,hv⟩:=en.has i t q
   obtain ⟨S,s⟩:=en.sep
   exact ⟨v,hv,k v F H ⟨en.fh,en.prot,en.old,en.nw,S i,s.own i t v (c6 q hv),fun b z=>s.out i b z⟩⟩
 · cases hg
def sIf (c:De->Option Bool) (g1 g2:De->Option Out):De->Option Out:=fun δ=>(c δ).bind fun b=>if b then g1 δ else g2 δ
def et (hc:DT X c tc) (h1:DS X a g1) (h2:DS X b g2):DS1 X (.If c a b pos) (sIf tc g1 g2):=PS.mono (xR hc h1 h2) fun D σ H ⟨Φ,δ,F,o,hK,en,hg,k⟩=>by
 unfold sIf at hg
 obtain ⟨x,hx,hg⟩:=bS hg
 refine ⟨Φ,δ,F,x,hK,en,hx,fun H' F' st=>?_⟩
 split at hg
 · rename_i q
   rw [if_pos q]
   exact ⟨Φ,δ,F',o,hK,en.step st,hg,k⟩
 · rename_i q
   rw [if_neg q]
   exact ⟨Φ,δ,F',o,hK,en.step st,hg,k⟩
def bC (i:Nat) (f:De->Option T):De->Option Out:=fun δ=>(f δ).map fun t=>.nx (δ.set i (some t))
def aZ {sc:Scope} {N:List Str} {x:Str} {pos':Pos} (h:cy sc N i x=true) (hl:ii sc x=true) (nd:N.Nodup) (he:DO X e f) (e1:bK X sc:=by rfl) (e2:X.N=N:=by rfl) (hf:X.fn x=true∨X.env.scope.names.lookup x=some .local:=by exact .inl rfl)
  (hs:swapsWith e (some (.Name x pos')) pos.line X.env=pure false:=by rfl):DS1 X (.Assign [.Name x pos'] e pos) (bC i f):=PS.mono (l4 h hl nd he e1 e2 hf hs) fun D σ H ⟨Φ,δ,F,o,hK,en,hg,k⟩=>by
 unfold bC at hg
 obtain ⟨t,ht,hg⟩:=mS hg
 cases hg
 exact ⟨Φ,δ,F,t,hK,en,ht,fun v H' F' S st o hs=>k _ F' H' (en.put st (hK▸o) hs i)⟩
noncomputable def gD (K:PySem.W.Frag) (ts:List Nat) (st:Dt->De->Option De):TG:=fun v σ H Q=>∃ Φ δ F d δ',Fm.K Φ=K/\En Φ δ σ F H/\Rep K F d v/\st d δ=some δ'/\∀ σ',σ'.length=σ.length->(∀ j,j∉ts->σ'[j]?=σ[j]?)->En Φ δ' σ' F H->Q σ' H
noncomputable def gsD (K:PySem.W.Frag) (ts:List Nat) (st:List Dt->De->Option De):TGs:=fun vs σ H Q=>∃ Φ δ F ds δ',Fm.K Φ=K/\En Φ δ σ F H/\Reps K F ds vs/\st ds δ=some δ'/\∀ σ',σ'.length=σ.length->(∀ j,j∉ts->σ'[j]?=σ[j]?)->En Φ δ' σ' F H->Q σ' H
def DG (X:Cx) (tg:Expr) (ts:List Nat) (bb:Dt->De->Option De):Prop:=PG X tg (gD X.K ts bb)
def DGs (X:Cx) (tg:List Expr) (ts:List Nat) (bb:List Dt->De->Option De):Prop:=PGs X tg (gsD X.K ts bb)
def aG (i:Nat):Dt->De->Option De:=fun d δ=>some (δ.set i (some (.leaf d)))
def En.name {Φ:Fm} {δ:De} {σ:St} {F H:Hp} (en:En Φ δ σ F H) {d:Dt} {v:V} (r:Rep Φ.K F d v) (i:Nat):En Φ (δ.set i (some (.leaf d))) (σ.set i (some v)) F H:=
 en.put (Step.refl en.fh) (S':=fun _=>False) (t:=.leaf d) r (fun _ z=>z.elim) i
def aU (h:PG X tg (fH i)):DG X tg [i] (aG i):=PG.mono h fun v σ H Q ⟨Φ,δ,F,d,δ',hK,en,r,hd,k⟩=>by
 cases hd
 refine k _ (by simp) (fun j hj=>?_) (en.name (hK▸r) i)
 rw [List.getElem?_set_ne fun z=>hj (by simp [z])]
def m8:List Dt->De->Option De:=fun ds δ=>if ds.isEmpty then some δ else none
def dM (b:Dt->De->Option De) (bs:List Dt->De->Option De):List Dt->De->Option De:=fun ds δ=>match ds with
 | d::r=>(b d δ).bind fun δ1=>bs r δ1
 | []=>none
def m9 (n:Nat) (bs:List Dt->De->Option De):Dt->De->Option De:=fun d δ=>match d with
 | .tup ds=>if ds.length=n then bs ds δ else none
 | _=>none
def l5:DGs X [] [] m8:=fun pins s σ H vs us Q I r q=>qf pins s σ H vs us Q I r (by
 obtain ⟨Φ,δ,F,ds,δ',hK,en,rs,hd,k⟩:=q
 unfold m8 at hd
 cases ds with
 | nil=>cases hd;simp only [Reps] at rs;exact ⟨rs,k σ rfl (fun _ _=>rfl) en⟩
 | cons d l=>cases hd)
def ev {es:List Expr} {ts ts':List Nat} {bb:Dt->De->Option De} {bs:List Dt->De->Option De} (h1:DG X e ts bb) (h2:DGs X es ts' bs)
  (hs:(assignEach (e::es) X.env).map (·.2)=assign e X.env::(assignEach es X.env).map (·.2):=by rfl):DGs X (e::es) (ts++ts') (dM bb bs):=fun pins s σ H vs us Q I r q=>mK h1 h2 hs pins s σ H vs us Q I r (by
 obtain ⟨Φ,δ,F,ds,δ',hK,en,rs,hd,k⟩:=q
 unfold dM at hd
 cases ds with
 | nil=>cases hd
 | cons d l =>
  simp only [Reps] at rs
  obtain ⟨v,ws,e,r1,r2⟩:=rs
  dsimp only at hd
  obtain ⟨δ1,hb,hd⟩:=bS hd
  refine ⟨v,ws,e,Φ,δ,F,d,δ1,hK,en,r1,hb,fun σ1 l1 k1 en1=>⟨Φ,δ1,F,l,δ',hK,en1,r2,hd,fun σ2 l2 k2 en2=>k σ2 (l2.trans l1) (fun j hj=>?_) en2⟩⟩
  rw [k2 j fun z=>hj (List.mem_append_right _ z),k1 j fun z=>hj (List.mem_append_left _ z)])
def pb {es:List Expr} {k:Nat} {n:Nat} {ts:List Nat} {bs:List Dt->De->Option De} (hc:X.calm=true) (h:DGs X es ts bs)
  (hn:(assignEach es X.env).length=n:=by rfl) (hst:(assignEach es X.env).findIdx? (·.1)=none:=by rfl):DG X (.Tuple es k pos) ts (m9 n bs):=PG.mono (tp hc h hn hst) fun v σ H Q ⟨Φ,δ,F,d,δ',hK,en,r,hd,q⟩=>by
 unfold m9 at hd
 split at hd
 · rename_i ds
   split at hd
   · rename_i hl
     simp only [Rep] at r
     obtain ⟨a,vs,e,h1,h2⟩:=r
     exact ⟨a,vs,e,en.fh.tup h1,by rw [h2.length];exact hl,Φ,δ,F,ds,δ',hK,en,h2,hd,q⟩
   · cases hd
 · cases hd
noncomputable def qG (K:PySem.W.Frag) (F':Hp) (J:It) (ds:List Dt) (ok:Hp->Prop):Prop:=∀ (i:Nat) (H F:Hp),ok H->Same F H->Same F' F->(i<ds.length->J.go i H)/\(i=ds.length->J.stop i H)/\∀ x H',i<ds.length->J.yld i H x H'->∃ d F2,ds[i]?=some d/\Step F H F2 H'/\Rep K F2 d x
def Plain.walk {K:PySem.W.Frag} {F':Hp} {J:It} {xs:List V} {ds:List Dt} {ok:Hp->Prop} (pl:Plain J xs ok) (r:Reps K F' ds xs):qG K F' J ds ok:=fun i H F hok fh ff=>by
 obtain ⟨p1,p2,p3⟩:=pl i H hok
 have hl:=r.length
 refine ⟨fun h=>p1 (by omega),fun h=>p2 (by omega),fun x H' hi hy=>?_⟩
 obtain ⟨rfl,hx⟩:=p3 x H' (by omega) hy
 have hd:ds[i]?=some ds[i]:=by simp [hi]
 obtain ⟨v,e,rv⟩:=r.get hd
 rw [hx] at e
 cases e
 exact ⟨_,F,hd,Step.refl fh,rv.same ff⟩
def tIF (K:PySem.W.Frag) (f:De->Option (List Dt)):TI:=fun σ H R=>∃ Φ δ F ds,Fm.K Φ=K/\En Φ δ σ F H/\f δ=some ds/\∀ J ok H' F',Step F H F' H'->qG K F' J ds ok->(∀ H2,Same F' H2->ok H2)->R J H'
def tIB (K:PySem.W.Frag) (f:De->Option (List Dt)):TI:=fun σ H R=>∃ Φ δ F ds,Fm.K Φ=K/\En Φ δ σ F H/\f δ=some ds/\∀ J ok H' F',Step F H F' H'->qG K F' J ds ok->(∀ H2,Same H' H2->ok H2)->R J H'
def DIF (X:Cx) (tg iter:Expr) (f:De->Option (List Dt)):Prop:=PI X tg iter (tIF X.K f)
def DIB (X:Cx) (tg iter:Expr) (f:De->Option (List Dt)):Prop:=PI X tg iter (tIB X.K f)
def DIF.toB {fi:De->Option (List Dt)} (h:DIF X tg iter fi):DIB X tg iter fi:=PI.mono h fun σ H R ⟨Φ,δ,F,ds,hK,en,hf,k⟩=>⟨Φ,δ,F,ds,hK,en,hf,fun J ok H' F' st wd ho=>k J ok H' F' st wd fun H2 s=>ho H2 (st.fh.trans s)⟩
end
section
variable {X:Cx} {st:Stmt} {rest a b body:List Stmt} {g g1 g2:De->Option Out} {e c tg iter l:Expr} {pos:Pos} {f:De->Option T} {fd:De->Option Dt} {tc:De->Option Bool} {i:Nat} {fi:De->Option (List Dt)}
noncomputable def fQ (bb:Dt->De->Option De) (g:De->Option Out):List Dt->De->Option Out
 | [],δ=>some (.nx δ)
 | d::r,δ=>(bb d δ).bind fun δ1=>(g δ1).bind fun o=>match o with
  | .nx δ2=>fQ bb g r δ2
  | .ct δ2=>fQ bb g r δ2
  | .bk δ2=>some (.nx δ2)
  | .rt t=>some (.rt t)
  | .re t δ2=>some (.re t δ2)
def sg (fi:De->Option (List Dt)) (bb:Dt->De->Option De) (g:De->Option Out):De->Option Out:=fun δ=>(fi δ).bind fun ds=>fQ bb g ds δ
def Reps.same_get {K:PySem.W.Frag} {F:Hp} {ds:List Dt} {xs:List V} (r:Reps K F ds xs) {i:Nat} {x:V} (h:xs[i]?=some x):∃ d,ds[i]?=some d/\Rep K F d x:=by
 have hl:=r.length
 have hi:i<xs.length:=(gX h).1
 have hd:ds[i]?=some ds[i]:=by simp [show i<ds.length by omega]
 obtain ⟨v,e,rv⟩:=r.get hd
 rw [h] at e
 cases e
 exact ⟨_,hd,rv⟩
def l6 {α:Type} {l:List α} {i:Nat} {d:α} (h:l[i]?=some d):l.drop i=d::l.drop (i+1):=by
 have hi:i<l.length:=(gX h).1
 rw [List.drop_eq_getElem_cons hi]
 congr 1
 have:=(gX h).2
 exact this
def Fm.at (Φ:Fm) (F1:Hp):Fm:={Φ with F0:=F1}
def En.back {Φ:Fm} {δ δ':De} {σ σ':St} {F1 H1 F H:Hp} (en:En Φ δ σ F1 H1) (e:En (Φ.at F1) δ' σ' F H):En Φ δ' σ' F H:=
 ⟨e.fh,e.prot,en.old.trans e.old,fun b o h=>(e.nw b o h).elim (fun z=>en.nw b o z) .inr,e.len,e.has,e.sep⟩
def Rt.back {Φ:Fm} {δ:De} {σ:St} {F1 H1 F H:Hp} {t:T} {v:V} (en:En Φ δ σ F1 H1) (e:Rt (Φ.at F1) t v F H):Rt Φ t v F H:=
 ⟨e.fh,e.prot,en.old.trans e.old,fun b o h=>(e.nw b o h).elim (fun z=>en.nw b o z) .inr,e.own⟩
def Re.back {Φ:Fm} {δ δ':De} {σ σ':St} {F1 H1 F H:Hp} {t:T} {v:V} (en:En Φ δ σ F1 H1) (e:Re (Φ.at F1) t v δ' σ' F H):Re Φ t v δ' σ' F H:=⟨en.back e.en,e.own⟩
def En.at {Φ:Fm} {δ:De} {σ:St} {F1 H1:Hp} (en:En Φ δ σ F1 H1):En (Φ.at F1) δ σ F1 H1:=
 ⟨en.fh,en.prot,Same.refl _,fun b o h=>.inl h,en.len,en.has,en.sep⟩
def Post.at {Φ:Fm} {D:Ends} {o:Out} {δ:De} {σ:St} {F1 H1:Hp} (en:En Φ δ σ F1 H1) (k:Post Φ D o):Post (Φ.at F1) D o:=by
 cases o with
 | nx δ'=>exact fun σ' F H e=>k σ' F H (en.back e)
 | bk δ'=>exact fun σ' F H e=>k σ' F H (en.back e)
 | ct δ'=>exact fun σ' F H e=>k σ' F H (en.back e)
 | rt t=>exact fun v F H e=>k v F H (Rt.back en e)
 | re t δ'=>exact fun v σ' F H e=>k v σ' F H (Re.back en e)
def na {n:Nat} {g:TG} {tb:TS} {D:Ends} {J:It} {σ:St} {H1:Hp} (Pv:Nat->St->Hp->Prop) (h0:Pv 0 σ H1) (hgo:∀ i σ H,Pv i σ H->(i<n->J.go i H)/\(i=n->J.stop i H))
  (hs:∀ i x σ H H',i<n->Pv i σ H->J.yld i H x H'->g x σ H' fun σ2 H2=>tb {D with nx:=Pv (i+1),ct:=Pv (i+1),bk:=D.nx} σ2 H2) (hd:∀ σ H,Pv n σ H->D.nx σ H):ForW g tb D J σ H1:=by
 refine ⟨fun i m σ H=>m=n-i/\i<=n/\Pv i σ H,⟨n,by simp,Nat.zero_le _,h0⟩,?_⟩
 rintro i m σ H ⟨rfl,hi,p⟩
 obtain ⟨p1,p2⟩:=hgo i σ H p
 by_cases hlt:i<n
 · exact .inr ⟨p1 hlt,Pv (i+1),fun σ' H' p'=>⟨n-(i+1),by omega,rfl,hlt,p'⟩,fun x H' y=>hs i x σ H H' hlt p y⟩
 · have e:i=n:=by omega
   subst e
   exact .inl ⟨p2 rfl,hd σ H p⟩
def pd {ts:List Nat} {bb:Dt->De->Option De} (hp:PassesOwn (model X.prog X.w) X.A X.env X.xe) (hc:X.calm=true) (hi:DIF X tg iter fi) (hg:DG X tg ts bb) (hb:DS X body g)
  (hs:∀ x,foldedSetIterable iter X.env x=pure x:=by intro _;rfl):DS1 X (.For tg iter body [] pos) (sg fi bb g):=PS.mono (oT hp hc hi hg hb hs) fun D σ H ⟨Φ,δ,F,o,hK,en,hg,k⟩=>by
 unfold sg at hg
 obtain ⟨ds,hd,hg⟩:=bS hg
 rw [l3]
 refine ⟨Φ,δ,F,ds,hK,en,hd,fun J ok H1 F1 st1 wd ho=>?_⟩
 have en1:=en.step st1
 have k1:=Post.at en1 k
 refine na (n:=ds.length) (fun i σ' H'=>∃ δ' F',En (Φ.at F1) δ' σ' F' H'/\fQ bb g (ds.drop i) δ'=some o) ⟨δ,F1,en1.at,by simpa using hg⟩ (fun i σ' H' ⟨δ',F',en',_⟩=>?_) ?_ ?_
 · obtain ⟨p1,p2,_⟩:=wd i H' F' (ho H' (en'.old.trans en'.fh)) en'.fh en'.old
   exact ⟨p1,p2⟩
 · rintro i x σ' H' H'' hi ⟨δ',F',en',hgo⟩ hy
   obtain ⟨_,_,p3⟩:=wd i H' F' (ho H' (en'.old.trans en'.fh)) en'.fh en'.old
   obtain ⟨d,F2,hd',st2,rd⟩:=p3 x H'' hi hy
   rw [l6 hd'] at hgo
   unfold fQ at hgo
   obtain ⟨δ1,h1,hgo⟩:=bS hgo
   obtain ⟨o1,h2,hgo⟩:=bS hgo
   refine ⟨Φ.at F1,δ',F2,d,δ1,hK,en'.step st2,rd,h1,fun σ1 _ _ en1=>⟨Φ.at F1,δ1,F2,o1,hK,en1,h2,?_⟩⟩
   cases o1 with
   | nx δ2=>exact fun σ2 F2 H2 en2=>⟨δ2,F2,en2,hgo⟩
   | ct δ2=>exact fun σ2 F2 H2 en2=>⟨δ2,F2,en2,hgo⟩
   | bk δ2=>cases hgo;exact fun σ2 F2 H2 en2=>k1 σ2 F2 H2 en2
   | rt t=>cases hgo;exact fun v F2 H2 q=>k1 v F2 H2 q
   | re t δ2=>cases hgo;exact fun v σ2 F2 H2 q=>k1 v σ2 F2 H2 q
 · rintro σ' H' ⟨δ',F',en',hgo⟩
   rw [List.drop_length] at hgo
   cases hgo
   exact k1 σ' F' H' en'
def Bv (x:Str):List Dt:=x.cps.toList.map fun c=>.str ⟨#[c]⟩
def ce (lo:Int) (n:Nat):List Dt:=(List.range n).map fun (i:Nat)=>.int (lo+i)
def Reps.map {K:PySem.W.Frag} {F:Hp} {α:Type} {f:α->Dt} {g:α->V} (h:∀ x,Rep K F (f x) (g x)):∀ l:List α,Reps K F (l.map f) (l.map g)
 | []=>by simp [Reps]
 | x::l=>by
  simp only [List.map_cons,Reps]
  exact ⟨_,_,rfl,h x,Reps.map h l⟩
def itD:Dt->Option (List Dt)
 | .lst l=>some l
 | .tup l=>some l
 | .str x=>some (Bv x)
 | _=>none
def fIt (f:De->Option Dt):De->Option (List Dt):=fun δ=>(f δ).bind itD
def ug (h:DL X l fd):DIF X tg l (fIt fd):=PI.mono (PI.or (jq h) (PI.or (tu h) (tU h))) fun σ H R ⟨Φ,δ,F,ds,hK,en,hf,k⟩=>by
 unfold fIt at hf
 obtain ⟨d,hd,hf⟩:=bS hf
 cases d with
 | lst l =>
  cases hf
  refine .inl ⟨Φ,δ,F,_,hK,en,hd,fun v H' F' st r=>?_⟩
  simp only [Rep] at r
  obtain ⟨a,vs,rfl,h1,h2⟩:=r
  exact ⟨a,rfl,⟨vs,st.fh.seq h1⟩,k _ _ H' F' st (plain_list.walk h2) fun H2 s=>s.seq h1⟩
 | tup l =>
  cases hf
  refine .inr (.inl ⟨Φ,δ,F,_,hK,en,hd,fun v H' F' st r=>?_⟩)
  simp only [Rep] at r
  obtain ⟨a,vs,rfl,h1,h2⟩:=r
  exact ⟨a,rfl,⟨vs,st.fh.tup h1⟩,k _ _ H' F' st (plain_tup.walk h2) fun H2 s=>s.tup h1⟩
 | str x =>
  cases hf
  refine .inr (.inr ⟨Φ,δ,F,_,hK,en,hd,fun v H' F' st r=>?_⟩)
  simp only [Rep] at r
  exact ⟨x,r,k _ _ H' F' st (plain_str.walk (Reps.map (fun c=>io) _)) fun _ _=>trivial⟩
 | _=>cases hf
def cX (h:DB X l fd):DIB X tg l (fIt fd):=PI.mono (PI.or (jq h) (PI.or (tu h) (tU h))) fun σ H R ⟨Φ,δ,F,ds,hK,en,hf,k⟩=>by
 unfold fIt at hf
 obtain ⟨d,hd,hf⟩:=bS hf
 cases d with
 | lst l =>
  cases hf
  refine .inl ⟨Φ,δ,F,_,hK,en,hd,fun v H' F' st r=>?_⟩
  obtain ⟨a,vs,rfl,h1,h2⟩:=r
  exact ⟨a,rfl,⟨vs,h1⟩,k _ _ H' F' st (plain_list.walk h2) fun H2 s=>s.seq h1⟩
 | tup l =>
  cases hf
  refine .inr (.inl ⟨Φ,δ,F,_,hK,en,hd,fun v H' F' st r=>?_⟩)
  obtain ⟨a,vs,rfl,h1,h2⟩:=r
  exact ⟨a,rfl,⟨vs,st.fh.tup h1⟩,k _ _ H' F' st (plain_tup.walk h2) fun H2 s=>s.tup (st.fh.tup h1)⟩
 | str x =>
  cases hf
  refine .inr (.inr ⟨Φ,δ,F,_,hK,en,hd,fun v H' F' st r=>?_⟩)
  exact ⟨x,r,k _ _ H' F' st (plain_str.walk (Reps.map (fun c=>io) _)) fun _ _=>trivial⟩
 | _=>cases hf
def gz (j:Int):Bool:=decide (-(2^62)<=j)&&decide (j<2^62)
def iN:List Dt->Option (List Dt)
 | [.int j]=>if gz j then some (ce 0 j.toNat) else none
 | _=>none
def gU (r:List Dt->Option (List Dt)) (f:De->Option (List Dt)):De->Option (List Dt):=fun δ=>(f δ).bind r
variable {p:Pos} {sc:Scope} {x y:Expr} {fs:De->Option (List Dt)}
def dn {j:Int} (h:gz j=true):-(2^62)<=j/\j<2^62:=by
 unfold gz at h
 simpa using h
def jL {K:PySem.W.Frag} {F:Hp} (lo:Int) (n:Nat):Reps K F (ce lo n) (cA lo n):=Reps.map (fun _=>f9) _
def dq (h:aF sc "range"=true) (hm:X.mg "range"=none) (ha:DA X [x] fs) (e1:bK X sc:=by rfl) (hs:starEach [x] X.env=[(false,eval x X.env)]:=by rfl):DIF X tg (.Call (.Name "range" p) [x] [] pos) (gU iN fs):=
 PI.mono (o0 h hm ha.pa e1 hs) fun σ H R ⟨Φ,δ,F,ds,hK,en,hf,k⟩=>by
  unfold gU at hf
  obtain ⟨as,hd,hf⟩:=bS hf
  refine ⟨Φ,δ,F,as,hK,en,hd,fun vs H' F' st r=>?_⟩
  unfold iN at hf
  split at hf
  · rename_i j
    split at hf
    · rename_i hj
      cases hf
      simp only [Reps,Rep] at r
      obtain ⟨v,ws,rfl,rfl,rfl⟩:=r
      exact ⟨j,rfl,(dn hj).1,(dn hj).2,k _ _ H' F' st (plain_range.walk (jL _ _)) fun _ _=>trivial⟩
    · cases hf
  · cases hf
end
def dC (src:List (Option Nat)) (δ:De):De:=src.map fun o=>o.bind fun j=>(δ[j]?).join
noncomputable def cJ (bb:Dt->De->Option De) (ft:De->Option Bool) (fe:De->Option Dt) (δ:De):List Dt->Option (List Dt)
 | []=>some []
 | d::r=>(bb d δ).bind fun δ1=>(ft δ1).bind fun b=>if b then (fe δ1).bind fun y=>(cJ bb ft fe δ r).bind fun ys=>some (y::ys) else cJ bb ft fe δ r
noncomputable def br (src:List (Option Nat)) (fi:De->Option (List Dt)) (bb:Dt->De->Option De) (ft:De->Option Bool) (fe:De->Option Dt):De->Option T:=fun δ =>
 (fi δ).bind fun ds=>(cJ bb ft fe (dC src δ) ds).bind fun ys=>if ys.length<=sizeLine then some (.lst ys) else none
def bU:De->Option Bool:=fun _=>some true
def DTs (X:Cx) (ifs:List Expr) (f:De->Option Bool):Prop:=PTs X ifs (tTr X.K f)
def cE {X:Cx}:DTs X [] bU:=fun pins s σ H Q I h=>qq pins s σ H Q I (by
 obtain ⟨Φ,δ,F,b,hK,en,hf,k⟩:=h
 cases hf
 exact k H F (Step.refl en.fh))
def jw {X:Cx} {c:Expr} {f:De->Option Bool} (h:DT X c f):DTs X [c] f:=wj h
section
variable {X:Cx} {elt tg iter:Expr} {ifs:List Expr} {scope:Scope} {pos:Pos} {M:List Str} {src:List (Option Nat)} {fi:De->Option (List Dt)} {ft:De->Option Bool} {fe:De->Option Dt}
def wu (S:CmpScope X.N X.env.scope scope M src) {k l j:Nat} (hk:src[k]?=some (some j)) (hl:src[l]?=some (some j)):k=l:=by
 have nm:∀ k,src[k]?=some (some j)->∃ x,M[k]?=some x/\X.N[j]?=some x:=fun k h=>by
  have hlt:k<M.length:=by rw [S.len];exact (gX h).1
  have hm:M[k]?=some M[k]:=by simp [hlt]
  have hz:(M.zip src)[k]?=some (M[k],some j):=by rw [List.getElem?_zip_eq_some];exact ⟨hm,h⟩
  exact ⟨_,hm,(S.src _ (List.mem_of_getElem? hz) j rfl).1⟩
 obtain ⟨x,h1,h2⟩:=nm k hk
 obtain ⟨y,h3,h4⟩:=nm l hl
 rw [h2] at h4
 cases h4
 exact (List.getElem?_inj (gX h1).1 S.nd).mp (h1.trans h3.symm)
def uh {δ:De} {k:Nat} {t:T} (h:(dC src δ)[k]?=some (some t)):∃ j,src[k]?=some (some j)/\δ[j]?=some (some t):=by
 unfold dC at h
 rw [List.getElem?_map] at h
 cases e:src[k]? with
 | none=>rw [e] at h;cases h
 | some o =>
  rw [e] at h
  cases o with
  | none=>cases h
  | some j =>
   simp only [Option.map_some,Option.bind_some,Option.some.injEq] at h
   refine ⟨j,rfl,?_⟩
   cases q:δ[j]? with
   | none=>rw [q] at h;cases h
   | some u=>rw [q] at h;simp only [Option.join_some] at h;rw [h]
def qH {σ:St} {k j:Nat} {v:V} (h1:src[k]?=some (some j)) (h2:σ[j]?=some (some v)):(stC src σ)[k]?=some (some v):=by
 unfold stC
 rw [List.getElem?_map,h1]
 simp [h2]
def pe {σ:St} {k:Nat} {v:V} (h:(stC src σ)[k]?=some (some v)):∃ j,src[k]?=some (some j)/\σ[j]?=some (some v):=by
 unfold stC at h
 rw [List.getElem?_map] at h
 cases e:src[k]? with
 | none=>rw [e] at h;cases h
 | some o =>
  rw [e] at h
  cases o with
  | none=>cases h
  | some j =>
   simp only [Option.map_some,Option.bind_some,Option.some.injEq] at h
   refine ⟨j,rfl,?_⟩
   cases q:σ[j]? with
   | none=>rw [q] at h;cases h
   | some u=>rw [q] at h;simp only [Option.join_some] at h;rw [h]
def En.comp {Φ:Fm} {δ:De} {σ:St} {F H:Hp} (S:CmpScope X.N X.env.scope scope M src) (en:En Φ δ σ F H):En Φ (dC src δ) (stC src σ) F H:=by
 refine ⟨en.fh,en.prot,en.old,en.nw,by simp [dC,stC],fun k t h=>?_,?_⟩
 · obtain ⟨j,h1,h2⟩:=uh h
   obtain ⟨v,hv⟩:=en.has j t h2
   exact ⟨v,qH h1 hv⟩
 · obtain ⟨Z,s⟩:=en.sep
   refine ⟨fun k b=>∃ j,src[k]?=some (some j)/\Z j b,fun k t v h=>?_,fun k b ⟨j,_,z⟩=>s.out j b z,fun k l b ⟨j,h1,z⟩ ⟨j',h2,z'⟩=>?_⟩
   · obtain ⟨h1,h2⟩:=ej h
     obtain ⟨j,e1,e2⟩:=uh h1
     obtain ⟨j',e3,e4⟩:=pe h2
     rw [e1] at e3
     cases e3
     exact (s.own j t v (c6 e2 e4)).grow fun b z=>⟨j,e1,z⟩
   · have:=s.dis _ _ b z z'
     subst this
     exact wu S h1 h2
def si {n:Nat} {g:TG} {tt:TT} {te:TE} {σ:St} {J:It} {H1:Hp} {Q:VK} {D:Addr} (Pv:Nat->Hp->Prop) (h0:Pv 0 (upd H1 D (.lst []))) (hgo:∀ i H,Pv i H->(i<n->J.go i H)/\(i=n->J.stop i H))
  (hs:∀ i x H H',i<n->Pv i H->J.yld i H x H'->g x (stC src σ) H' fun σ2 H2=>Wk (stC src σ) σ2/\tt σ2 H2 fun b H3=>if b=true then te σ2 H3 fun v H4=>∃ ys,H4 D=some (.lst ys)/\ys.length<sizeLine/\Pv (i+1) (upd H4 D (.lst (ys++[v]))) else Pv (i+1) H3)
  (hd:∀ H,Pv n H->Q (.ref D) H):ya src g tt te σ J H1 Q D:=by
 refine ⟨fun i m H=>m=n-i/\i<=n/\Pv i H,⟨n,by simp,Nat.zero_le _,h0⟩,?_⟩
 rintro i m H ⟨rfl,hi,p⟩
 obtain ⟨p1,p2⟩:=hgo i H p
 by_cases hlt:i<n
 · exact .inr ⟨p1 hlt,Pv (i+1),fun H' p'=>⟨n-(i+1),by omega,rfl,hlt,p'⟩,fun x H' y=>hs i x H H' hlt p y⟩
 · have e:i=n:=by omega
   subst e
   exact .inl ⟨p2 rfl,hd H p⟩
def qI {ts:List Nat} {bb:Dt->De->Option De} (S:CmpScope X.N X.env.scope scope M src) (hts:(ts.all fun k=>decide (src[k]?=some none))=true):∀ (σ:St) (H:Hp) (Q:VK),tO X.K (br src fi bb ft fe) σ H Q->kU src (tIB X.K fi) (gD X.K ts bb) (tTr X.K ft) (tL X.K fe) σ H Q:=fun σ H Q ⟨Φ,δ,F,t,hK,en,hf,k⟩=>by
 unfold br at hf
 obtain ⟨ds,hd,hf⟩:=bS hf
 obtain ⟨all,ha,hf⟩:=bS hf
 split at hf
 case isFalse=>cases hf
 rename_i hz
 cases hf
 rw [tZ]
 refine ⟨Φ,δ,F,ds,hK,en,hd,fun J ok H1 F1 st1 wd ho D hD=>?_⟩
 have en1:=en.step st1
 have k1:=k.step st1
 have wk:∀ {σ2:St},σ2.length=(stC src σ).length->(∀ j,j∉ts->σ2[j]?=(stC src σ)[j]?)->Wk (stC src σ) σ2:=fun {σ2} h1 h2=>by
  refine ⟨h1.symm,fun j v hj=>?_⟩
  by_cases hm:j∈ts
  · have:=List.all_eq_true.mp hts j hm
    have hn:src[j]?=some none:=of_decide_eq_true this
    obtain ⟨i,e,_⟩:=pe hj
    rw [hn] at e
    cases e
  · rw [h2 j hm]
    exact hj
 have ok':∀ {F H:Hp},Step F1 H1 F H->ok H:=fun st=>ho _ st.hh
 refine si (n:=ds.length) (fun i H=>∃ F ys done rest',Step F1 H1 F H/\H D=some (.lst ys)/\F D=none/\Reps X.K F done ys/\cJ bb ft fe (dC src δ) (ds.drop i)=some rest'/\done++rest'=all) ?_ ?_ ?_ ?_
 · exact ⟨F1,[],[],all,Step.made st1.fh hD,aD,st1.fh.free hD,by simp [Reps],by simpa using ha,rfl⟩
 · rintro i H' ⟨F',ys,done,rest',st,_⟩
   obtain ⟨p1,p2,_⟩:=wd i H' F' (ok' st) st.fh st.ff
   exact ⟨p1,p2⟩
 · rintro i x H0' H' hi ⟨F0',ys,done,rest',st0,hD0,hFD0,rys0,hgo,hall⟩ hy0
   obtain ⟨_,_,p3⟩:=wd i H0' F0' (ok' st0) st0.fh st0.ff
   obtain ⟨d,F',hd',stw,rd⟩:=p3 x H' hi hy0
   have st:=st0.trans stw
   have hD':H' D=some (.lst ys):=stw.hh _ _ hD0
   have hFD:F' D=none:=by
    cases q:F' D with
    | none=>rfl
    | some o =>
     rcases stw.nw D o q with z | z
     · rw [hFD0] at z;cases z
     · rw [hD0] at z;cases z
   have rys:=rys0.same stw.ff
   rw [l6 hd'] at hgo
   unfold cJ at hgo
   obtain ⟨δ1,h1,hgo⟩:=bS hgo
   obtain ⟨b,h2,hgo⟩:=bS hgo
   refine ⟨Φ,dC src δ,F',d,δ1,hK,(en1.step st).comp S,rd,h1,fun σ2 l2 k2 en2=>⟨wk l2 k2,Φ,δ1,F',b,hK,en2,h2,fun H3 F3 st3=>?_⟩⟩
   have hD3:H3 D=some (.lst ys):=st3.hh _ _ hD'
   have hF3:F3 D=none:=by
    cases q:F3 D with
    | none=>rfl
    | some o =>
     rcases st3.nw D o q with z | z
     · rw [hFD] at z;cases z
     · rw [hD'] at z;cases z
   dsimp only
   split at hgo
   · rename_i q
     rw [if_pos q]
     obtain ⟨y,hy,hgo⟩:=bS hgo
     obtain ⟨zs,hzs,hgo⟩:=bS hgo
     cases hgo
     refine ⟨Φ,δ1,F3,y,hK,en2.step st3,hy,fun v H4 F4 st4 rv=>?_⟩
     have hD4:H4 D=some (.lst ys):=st4.hh _ _ hD3
     have hF4:F4 D=none:=by
      cases q:F4 D with
      | none=>rfl
      | some o =>
       rcases st4.nw D o q with z | z
       · rw [hF3] at z;cases z
       · rw [hD3] at z;cases z
     have s14:=(st.trans st3).trans st4
     refine ⟨ys,hD4,?_,F4,ys++[v],done++[y],zs,?_,aD,hF4,(rys.same (st3.ff.trans st4.ff)).append (Reps.one rv),hzs,by rw [<- hall];simp⟩
     · have e1:=rys.length
       have e2:all.length=done.length+(zs.length+1):=by rw [<- hall];simp
       omega
     · refine ⟨fun c o e=>?_,s14.ff,fun c o e=>?_,s14.nw⟩
       · rw [ax (bn e hD)]
         exact s14.hh _ _ e
       · rw [ax (bn e hF4)]
         exact s14.fh _ _ e
   · rename_i q
     rw [if_neg q]
     exact ⟨F3,ys,done,rest',st.trans st3,hD3,hF3,rys.same st3.ff,hgo,hall⟩
 · rintro H' ⟨F',ys,done,rest',st,hD',hFD,rys,hgo,hall⟩
   rw [List.drop_length] at hgo
   cases hgo
   rw [List.append_nil] at hall
   subst hall
   exact k1 (.ref D) H' F' (fun b=>b=D) st ⟨D,ys,rfl,rfl,hD',rys⟩ fun b z=>by
    subst z
    exact ⟨hFD,hD,_,hD'⟩
def bZ {ts:List Nat} {bb:Dt->De->Option De} (S:CmpScope X.N X.env.scope scope M src) (hc:X.calm=true) (hi:DIB X tg iter fi) (hg:M.Nodup->∀ C s H ex,DG (cxC X M scope C s H ex) tg ts bb)
  (ht:∀ C s H ex,DTs (cxC X M scope C s H ex) ifs ft) (he:∀ C s H ex,DL (cxC X M scope C s H ex) elt fe) (hts:(ts.all fun k=>decide (src[k]?=some none))=true) (hs:∀ x,foldedSetIterable iter X.env x=pure x:=by intro _;rfl) :
  DO X (.ListComp elt [⟨tg,iter,ifs,0⟩] scope pos) (br src fi bb ft fe):=PE.mono (mV (g:=gD X.K ts bb) (tt:=tTr X.K ft) (te:=tL X.K fe) S hc hi (fun nd C s H ex=>hg nd C s H ex) (fun C s H ex=>ht C s H ex) (fun C s H ex=>he C s H ex) hs) (qI S hts)
end
def gv (m:Nat) (g:De->Option Out):List Dt->Option T:=fun ds=>match g (ds.map (fun d=>some (T.leaf d))++List.replicate (m-ds.length) none) with
 | some (.rt t)=>some t
 | some (.nx _)=>some (.leaf .non)
 | _=>none
def ng {K:PySem.W.Frag} {F H:Hp} {ds:List Dt} {vs:List V} {N:List Str} (fh:Same F H) (r:Reps K F ds vs) :
  En ⟨K,F,H,fun _=>False⟩ (ds.map (fun d=>some (T.leaf d))++List.replicate (N.length-ds.length) none) (start N vs) F H:=by
 have hl:=r.length
 have key:∀ (i:Nat) (t:T),(ds.map (fun d=>some (T.leaf d))++List.replicate (N.length-ds.length) none)[i]?=some (some t)->∃ d v,t=T.leaf d/\vs[i]?=some v/\Rep K F d v/\(start N vs)[i]?=some (some v):=fun i t h=>by
  by_cases hi:i<ds.length
  · rw [List.getElem?_append_left (by simpa using hi),List.getElem?_map] at h
    have hd:ds[i]?=some ds[i]:=by simp [hi]
    rw [hd] at h
    cases h
    obtain ⟨v,hv,rv⟩:=r.get hd
    refine ⟨_,v,rfl,hv,rv,?_⟩
    unfold start
    rw [List.getElem?_append_left (by simp;omega),List.getElem?_map,hv]
    rfl
  · rw [List.getElem?_append_right (by simpa using hi)] at h
    rw [List.getElem?_replicate] at h
    split at h<;>cases h
 refine ⟨fh,fun b o h _=>h,Same.refl _,fun b o h=>.inl h,by simp [start,hl],fun i t h=>?_,fun _ _=>False,fun i t v h=>?_,fun _ _ z=>z.elim,fun _ _ _ z=>z.elim⟩
 · obtain ⟨d,v,_,_,_,e⟩:=key i t h
   exact ⟨v,e⟩
 · obtain ⟨h1,h2⟩:=ej h
   obtain ⟨d,w,rfl,_,rv,e⟩:=key i t h1
   rw [h2] at e
   cases e
   exact rv
section
variable {P:Program} {w:World} {K:PySem.W.Frag} {mg:Str->Option Value} {base:Heap}
def Rt.step {F H:Hp} {t:T} {v:V} {F' H':Hp} (h:Rt ⟨K,F,H,fun _=>False⟩ t v F' H') {Q:VK} (k:KO K F H t Q):Q v H':=by
 obtain ⟨fh,prot,old,nw,S,o,hs⟩:=h
 refine k v H' F' S ⟨fun b u e=>prot b u e id,old,fh,fun b u e=>(nw b u e).elim .inl fun z=>z.elim .inr False.elim⟩ o fun b z=>?_
 obtain ⟨h1,h2,h3⟩:=hs b z
 exact ⟨h1,h3.elim id False.elim,h2⟩
def eF {x:Str} {st:Stmt} {N ps:List Str} {k n:Nat} {g:De->Option Out} (D:DefF K mg x st ps) (S:FnScope N ps (ab st)) (hn:ps.length=n)
  (hbody:∀ (f:Addr) (cdv:Value) (A:Around) (outer:List Env) (s:Shared) (H:Hp) (E:XK),Room k (A.deeper (envOfC x (ab st) s.heap.objs.size f cdv))->DS (ji CX0 P w K mg base N x (ab st) f cdv A outer s H E).nox (aM st) g) :
  OkF P w K mg base x (k+1) ps (spD K n (gv N.length g)):=by
 refine D.ok S (fun vs H Q E h=>?_) (fun f cdv A outer s H vs Q E hr h=>?_)
 · obtain ⟨F,ds,t,_,hl,r,_⟩:=h
   rw [r.length,hl,hn]
 · obtain ⟨F,ds,t,fh,hl,r,hf,kq⟩:=h
   refine ⟨_,hbody f cdv A outer s H E hr,?_⟩
   unfold gv at hf
   split at hf
   · rename_i t' q
     cases hf
     exact ⟨⟨K,F,H,fun _=>False⟩,_,F,_,rfl,ng fh r,q,fun v F' H' z=>z.step kq⟩
   · rename_i δ' q
     cases hf
     exact ⟨⟨K,F,H,fun _=>False⟩,_,F,_,rfl,ng fh r,q,fun σ' F' H' z=>(z.rt (Step.refl z.fh) (t:=.leaf .non) (S:=fun _=>False) (ip (K:=K) (F:=F')) fun _ y=>y.elim).step kq⟩
   · cases hf
end
section
variable {K:PySem.W.Frag} {F H:Hp} {Q:VK}
def KO.int {i:Int} (k:KO K F H (.leaf (.int i)) Q) (fh:Same F H):Q (.int i) H:=k.leaf.here fh f9
def KO.bl {i:Bool} (k:KO K F H (.leaf (.bl i)) Q) (fh:Same F H):Q (.bl i) H:=k.leaf.here fh o7
def KO.str {i:Str} (k:KO K F H (.leaf (.str i)) Q) (fh:Same F H):Q (.str i) H:=k.leaf.here fh io
def KO.tup {l:List Dt} {vs:List V} {p:Addr} (k:KO K F H (.leaf (.tup l)) Q) (fh:Same F H) (r:Reps K F l vs) (hp:H p=none):Q (.ref p) (upd H p (.tup vs)):=by
 refine k.leaf _ _ _ (Step.new fh hp) ?_
 simp only [Rep]
 exact ⟨p,vs,rfl,SqT.of aD,r.same (Same.upd (fh.free hp))⟩
end
def jc (i j:Int):Bool:=(decide (-(2^64)<i)&&decide (i<2^64))||(decide (-(2^64)<j)&&decide (j<2^64))
def wv {i j:Int} (h:jc i j=true):CMul i j:=by
 unfold jc at h
 simp only [Bool.or_eq_true,Bool.and_eq_true,decide_eq_true_eq] at h
 exact h
def ww {i j:Int} (h1:-1000000000000000000<i) (h2:i<1000000000000000000):jc i j=true:=by
 unfold jc
 simp only [Bool.or_eq_true,Bool.and_eq_true,decide_eq_true_eq]
 left
 omega
def wx {i j:Int} (h1:-1000000000000000000<j) (h2:j<1000000000000000000):jc i j=true:=by
 unfold jc
 simp only [Bool.or_eq_true,Bool.and_eq_true,decide_eq_true_eq]
 right
 omega
def ni (j:Int):Bool:=decide (0<j)&&decide (j<1073741824)
def wz {i j:Int} (h:ni j=true):ze i j:=by
 unfold ni at h
 simp only [Bool.and_eq_true,decide_eq_true_eq] at h
 exact h
noncomputable def bG:Dt->Dt->Option T
 | .int i,.int j=>some (.leaf (.int (i+j)))
 | .str a,.str b=>if a.length+b.length<=sizeLine then some (.leaf (.str (a++b))) else none
 | .lst l,.lst m=>if l.length+m.length<=sizeLine then some (.lst (l++m)) else none
 | .tup l,.tup m=>if l.length+m.length<=sizeLine/\l≠[]/\m≠[] then some (.leaf (.tup (l++m))) else none
 | _,_=>none
def gSubD:Dt->Dt->Option T
 | .int i,.int j=>some (.leaf (.int (i-j)))
 | _,_=>none
def iq:Dt->Dt->Option T
 | .int i,.int j=>if jc i j then some (.leaf (.int (i*j))) else none
 | _,_=>none
def da:Dt->Dt->Option T
 | .int i,.int j=>if ni j then some (.leaf (.int (i/j))) else none
 | _,_=>none
def bM:Dt->Dt->Option T
 | .int i,.int j=>if 0<j then some (.leaf (.int (i%j))) else none
 | _,_=>none
def l7 (f:Int->Int->Bool):Dt->Dt->Option T
 | .int i,.int j=>some (.leaf (.bl (f i j)))
 | _,_=>none
section
variable {X:Cx}
def wA:OpR X (binaryOp .Add) (fun x y H Q=>∃ l b xs zs,x=.ref l/\y=.ref b/\SqL X.K H l xs/\SqL X.K H b zs/\xs.length+zs.length<=sizeLine/\∀ p,H p=none->Q (.ref p) (upd H p (.lst (xs++zs)))):=by
 intro pins s σ H x y v u Q I rx ry h
 obtain ⟨l,b,xs,zs,rfl,rfl,hH,hB,hz,q⟩:=h
 cases rx
 cases ry
 obtain ⟨its,r,pl,_⟩:=I.list hH
 obtain ⟨its2,r2,pl2,_⟩:=I.list hB
 obtain ⟨⟨cls,dd,data,sl⟩,n,ho,hc,hd0,hd⟩:=pl
 obtain ⟨⟨cls2,dd2,data2,sl2⟩,n2,ho2,hc2,hd02,hd2⟩:=pl2
 simp only at hc hd hc2 hd2
 subst hc hd hc2 hd2
 have e:its.toArray++its2.toArray=(its++its2).toArray:=by simp
 refine concat_meets ⟨_,ho,rfl⟩ ⟨_,ho2,rfl⟩ noFill_list_add seq_list_add PySem.F.slot_list_add PySem.F.entry_list_add (PySem.F.args_list_add_2 _ _) (list_addW l b its.toArray its2.toArray n n2 dd dd2 sl sl2 (by rw [List.size_toArray,List.size_toArray,<- r.length,<- r2.length];exact hz)) ⟨ho,ho2,?_⟩
 rw [e]
 exact ⟨.ref _,_,I.lnew (t':=s.toks) (r.append r2) (by rw [List.length_append];exact hz),rfl,q _ I.fresh⟩
noncomputable abbrev yc (K:PySem.W.Frag):R2:=fun x y H Q=>(rI0 (fun i j=>.int (i+j)) x y H Q)∨(∃ i j,x=.str i/\y=.str j/\i.length+j.length<=sizeLine/\Q (.str (i++j)) H)∨
 (∃ l b xs zs,x=.ref l/\y=.ref b/\SqL K H l xs/\SqL K H b zs/\xs.length+zs.length<=sizeLine/\∀ p,H p=none->Q (.ref p) (upd H p (.lst (xs++zs))))∨xV K x y H Q
def be:OpR X (binaryOp .Add) (yc X.K):=OpR.or zf (OpR.or oV (OpR.or wA v7))
def cj {K:PySem.W.Frag}:R2D K (yc K) bG:=by
 intro F H x y vx vy Q t fh rx ry hg k
 unfold bG at hg
 split at hg<;>first | (cases hg;done) | skip
 · cases hg;cases rx;cases ry;exact .inl ⟨_,_,rfl,rfl,k.int fh⟩
 · split at hg
   · cases hg;cases rx;cases ry;exact .inr (.inl ⟨_,_,rfl,rfl,by assumption,k.str fh⟩)
   · cases hg
 · split at hg
   · rename_i hl
     cases hg
     obtain ⟨a,vs,rfl,h1,h2⟩:=rx
     obtain ⟨b,ws,rfl,h3,h4⟩:=ry
     exact .inr (.inr (.inl ⟨a,b,vs,ws,rfl,rfl,h1,h3,by rw [h2.length,h4.length];exact hl,fun p hp=>gd k fh (h2.append h4) hp⟩))
   · cases hg
 · split at hg
   · rename_i hl
     cases hg
     obtain ⟨a,vs,rfl,h1,h2⟩:=rx
     obtain ⟨b,ws,rfl,h3,h4⟩:=ry
     obtain ⟨hl,n1,n2⟩:=hl
     refine .inr (.inr (.inr ⟨a,b,vs,ws,rfl,rfl,fh.tup h1,fh.tup h3,fun z=>?_,by rw [h2.length,h4.length];exact hl,fun z=>?_,fun _ p hp=>k.tup fh (h2.append h4) hp⟩))
     · subst z
       have:=h2.length
       exact n1 (List.eq_nil_of_length_eq_zero this.symm)
     · subst z
       have:=h4.length
       exact absurd (List.eq_nil_of_length_eq_zero this.symm) n2
   · cases hg
def nj {K:PySem.W.Frag}:R2D K (rI CMul fun i j=>.int (i*j)) iq:=by
 intro F H x y vx vy Q t fh rx ry hg k
 unfold iq at hg
 split at hg<;>first | (cases hg;done) | skip
 split at hg
 · cases hg;cases rx;cases ry;exact ⟨_,_,rfl,rfl,wv (by assumption),k.int fh⟩
 · cases hg
def dz {K:PySem.W.Frag}:R2D K (rI ze fun i j=>.int (i/j)) da:=by
 intro F H x y vx vy Q t fh rx ry hg k
 unfold da at hg
 split at hg<;>first | (cases hg;done) | skip
 split at hg
 · cases hg;cases rx;cases ry;exact ⟨_,_,rfl,rfl,wz (by assumption),k.int fh⟩
 · cases hg
def bN {K:PySem.W.Frag}:R2D K (rI (fun _ j=>0<j) fun i j=>.int (i%j)) bM:=by
 intro F H x y vx vy Q t fh rx ry hg k
 unfold bM at hg
 split at hg<;>first | (cases hg;done) | skip
 split at hg
 · cases hg;cases rx;cases ry;exact ⟨_,_,rfl,rfl,by assumption,k.int fh⟩
 · cases hg
def qJ {K:PySem.W.Frag} {f:Int->Int->Bool}:R2D K (rI0 fun i j=>.bl (f i j)) (l7 f):=by
 intro F H x y vx vy Q t fh rx ry hg k
 unfold l7 at hg
 split at hg<;>first | (cases hg;done) | skip
 cases hg;cases rx;cases ry;exact ⟨_,_,rfl,rfl,k.bl fh⟩
noncomputable def eqD:Dt->Dt->Option Bool
 | .non,.non=>some true
 | .non,.int _=>some false
 | .non,.bl _=>some false
 | .non,.str _=>some false
 | .int _,.non=>some false
 | .bl _,.non=>some false
 | .str _,.non=>some false
 | .int i,.int j=>some (decide (i=j))
 | .bl i,.bl j=>some (decide (i=j))
 | .str i,.str j=>some (decide (i=j))
 | .int _,.str _=>some false
 | .str _,.int _=>some false
 | .bl _,.str _=>some false
 | .str _,.bl _=>some false
 | .tup l,.tup m=>if cmpbs l m&&decide (deeps l<=59) then some (peqs l m) else none
 | .lst l,.lst m=>if cmpbs l m&&decide (deeps l<=59) then some (peqs l m) else none
 | _,_=>none
def gEq (neg:Bool) (x y:Dt):Option T:=(eqD x y).map fun b=>.leaf (.bl (if neg then !b else b))
abbrev rEqA (K:PySem.W.Frag):R2:=fun x y H Q=>rEq x y H Q∨wo K false x y H Q
abbrev rNeA (K:PySem.W.Frag):R2:=fun x y H Q=>rNe x y H Q∨wo K true x y H Q
def bc {k:Nat} (hr:Room k X.A):OpR X (compareOp .Eq) (rEqA X.K):=OpR.or Bf (zF hr rfl)
def zJ {k:Nat} (hr:Room k X.A):OpR X (compareOp .NotEq) (rNeA X.K):=OpR.or Bg (zG hr rfl)
def ui {K:PySem.W.Frag} {F H:Hp} {x y:Dt} {vx vy:V} {b:Bool} (fh:Same F H) (rx:RepB K F H x vx) (ry:RepB K F H y vy) (h:eqD x y=some b) :
  (zh vx vy=true/\b=decide (vx=vy))∨(((∃ l m,x=.tup l/\y=.tup m)∨∃ l m,x=.lst l/\y=.lst m)/\b8 x y=true/\cM x<=60/\b=peq x y):=by
 unfold eqD at h
 split at h<;>first
  | (cases h;done)
  | (cases h;cases rx;cases ry;left;refine ⟨rfl,?_⟩;simp;done)
  | skip
 · right
   split at h
   · rename_i q
     simp only [Bool.and_eq_true,decide_eq_true_eq] at q
     cases h
     exact ⟨.inl ⟨_,_,rfl,rfl⟩,by simp only [b8];exact q.1,by simp only [cM];omega,by simp only [peq]⟩
   · cases h
 · right
   split at h
   · rename_i q
     simp only [Bool.and_eq_true,decide_eq_true_eq] at q
     cases h
     exact ⟨.inr ⟨_,_,rfl,rfl⟩,by simp only [b8];exact q.1,by simp only [cM];omega,by simp only [peq]⟩
   · cases h
def cP {K:PySem.W.Frag}:R2D K (rEqA K) (gEq false):=by
 intro F H x y vx vy Q t fh rx ry hg k
 unfold gEq at hg
 obtain ⟨b,hb,hg⟩:=mS hg
 cases hg
 have kk:Q (.bl b) H:=k.bl fh
 rcases ui fh rx ry hb with ⟨h1,rfl⟩ | ⟨h1,h2,h3,rfl⟩
 · exact .inl ⟨h1,kk⟩
 · exact .inr ⟨x,y,h1,rx.rep fh,ry.rep fh,h2,h3,kk⟩
def r_ne {K:PySem.W.Frag}:R2D K (rNeA K) (gEq true):=by
 intro F H x y vx vy Q t fh rx ry hg k
 unfold gEq at hg
 obtain ⟨b,hb,hg⟩:=mS hg
 cases hg
 have kk:Q (.bl (!b)) H:=k.bl fh
 rcases ui fh rx ry hb with ⟨h1,rfl⟩ | ⟨h1,h2,h3,rfl⟩
 · exact .inl ⟨h1,kk⟩
 · exact .inr ⟨x,y,h1,rx.rep fh,ry.rep fh,h2,h3,kk⟩
def uj:Dt->Bool
 | .non=>true
 | _=>false
def gIs (neg:Bool) (x y:Dt):Option T:=match y with
 | .non=>some (.leaf (.bl (if neg then !uj x else uj x)))
 | _=>none
def nn {K:PySem.W.Frag} {F H:Hp} {x:Dt} {v:V} (r:RepB K F H x v):uj x=decide (v=.non):=by
 cases x<;>first
  | (cases r;rfl)
  | (obtain ⟨a,vs,rfl,_⟩:=r;rfl)
  | (simp only [RepB,Rep] at r;obtain ⟨a,C,dx,fs,rfl,_⟩:=r;rfl)
def r_is {K:PySem.W.Frag}:R2D K (fun x y H Q=>y=.non/\Q (.bl (decide (x=.non))) H) (gIs false):=by
 intro F H x y vx vy Q t fh rx ry hg k
 cases y<;>first | cases hg;done | skip
 cases hg;cases ry
 refine ⟨rfl,?_⟩
 rw [<- nn rx]
 exact k.bl fh
def qK {K:PySem.W.Frag}:R2D K (fun x y H Q=>y=.non/\Q (.bl (!decide (x=.non))) H) (gIs true):=by
 intro F H x y vx vy Q t fh rx ry hg k
 cases y<;>first | cases hg;done | skip
 cases hg;cases ry
 refine ⟨rfl,?_⟩
 rw [<- nn rx]
 exact k.bl fh
def bX:Dt->Bool
 | .non=>true
 | .bl _=>true
 | .int _=>true
 | .str _=>true
 | _=>false
def eqF:Dt->Dt->Bool
 | .non,.non=>true
 | .bl a,.bl b=>a==b
 | .bl a,.int b=>(if a then 1 else 0)==b
 | .int a,.bl b=>a==(if b then 1 else 0)
 | .int a,.int b=>a==b
 | .str a,.str b=>a==b
 | _,_=>false
def inS (j i:Str):Bool:=!(Builtin.Str.occurrences j i 0 j.length 1).isEmpty
def inD:Dt->Dt->Option Bool
 | .str i,.str j=>some (inS j i)
 | x,.lst l=>if bX x&&l.all bX then some (l.any fun y=>eqF y x) else none
 | x,.tup l=>if bX x&&l.all bX then some (l.any fun y=>eqF y x) else none
 | _,_=>none
def gIn (neg:Bool) (x y:Dt):Option T:=(inD x y).map fun b=>.leaf (.bl (if neg then !b else b))
def l8 {K:PySem.W.Frag} {F:Hp} {d:Dt} {v:V} (r:Rep K F d v) (h:bX d=true):gy v=true:=by
 cases d<;>simp only [Rep] at r<;>first
  | (subst r;rfl)
  | cases h
def zK {K:PySem.W.Frag} {F F':Hp} {d e:Dt} {v w:V} (r:Rep K F d v) (r':Rep K F' e w) (h:bX d=true) (h':bX e=true):eqF d e=eqV v w:=by
 cases d<;>first | cases h;done | skip
 all_goals cases e<;>first | cases h';done | skip
 all_goals simp only [Rep] at r r';subst r r';rfl
def jM {K:PySem.W.Frag} {F:Hp}:∀ {l:List Dt} {vs:List V},Reps K F l vs->l.all bX=true->vs.all gy=true
 | [],vs,r,_=>by simp only [Reps] at r;subst r;rfl
 | d::l,vs,r,h=>by
  simp only [Reps] at r
  obtain ⟨v,ws,rfl,h1,h2⟩:=r
  rw [List.all_cons,Bool.and_eq_true] at h ⊢
  exact ⟨l8 h1 h.1,jM h2 h.2⟩
def pf {K:PySem.W.Frag} {F F':Hp} {x:Dt} {w:V} (r':Rep K F' x w) (hx:bX x=true):∀ {l:List Dt} {vs:List V},Reps K F l vs->l.all bX=true->(l.any fun y=>eqF y x)=inV w vs
 | [],vs,r,_=>by simp only [Reps] at r;subst r;rfl
 | d::l,vs,r,h=>by
  simp only [Reps] at r
  obtain ⟨v,ws,rfl,h1,h2⟩:=r
  rw [List.all_cons,Bool.and_eq_true] at h
  unfold inV
  rw [List.any_cons,List.any_cons,zK h1 r' h.1 hx,pf r' hx h2 h.2]
  rfl
abbrev uk (K:PySem.W.Frag) (neg:Bool):R2:=fun x y H Q=>(∃ i j,x=.str i/\y=.str j/\Q (.bl (if neg then !inS j i else inS j i)) H)∨rIn K neg x y H Q
def zL:OpR X (compareOp .In) (uk X.K false):=OpR.or rR rX
def sj:OpR X (compareOp .NotIn) (uk X.K true):=OpR.or lU lT
def r_in {K:PySem.W.Frag} (neg:Bool):R2D K (uk K neg) (gIn neg):=by
 intro F H x y vx vy Q t fh rx ry hg k
 unfold gIn at hg
 obtain ⟨b,hb,hg⟩:=mS hg
 cases hg
 have kk:=k.bl fh
 unfold inD at hb
 split at hb<;>first | (cases hb;done) | skip
 · cases hb;cases rx;cases ry
   exact .inl ⟨_,_,rfl,rfl,kk⟩
 · split at hb
   · rename_i q
     rw [Bool.and_eq_true] at q
     cases hb
     obtain ⟨a,vs,rfl,h1,h2⟩:=ry
     have rx':=rx.rep fh
     rw [pf rx' q.1 h2 q.2] at kk
     exact .inr ⟨a,vs,rfl,.inl h1,l8 rx' q.1,jM h2 q.2,kk⟩
   · cases hb
 · split at hb
   · rename_i q
     rw [Bool.and_eq_true] at q
     cases hb
     obtain ⟨a,vs,rfl,h1,h2⟩:=ry
     have rx':=rx.rep fh
     rw [pf rx' q.1 h2 q.2] at kk
     exact .inr ⟨a,vs,rfl,.inr (fh.tup h1),l8 rx' q.1,jM h2 q.2,kk⟩
   · cases hb
def np {K:PySem.W.Frag} {F:Hp} {l:List Dt} {vs:List V} {i:Int} {d:Dt} (r:Reps K F l vs) (h:atI l i=some d):∃ v,atI vs i=some v/\Rep K F d v:=by
 unfold atI at h ⊢
 rw [r.length]
 obtain ⟨j,hj,h⟩:=bS h
 obtain ⟨v,e,rv⟩:=r.get h
 exact ⟨v,by rw [hj];exact e,rv⟩
def gIx:Dt->Dt->Option T
 | .lst l,.int i=>(atI l i).map .leaf
 | .tup l,.int i=>(atI l i).map .leaf
 | .str x,.int i=>if x.length<=sizeLine then (atI x.cps.toList i).map fun c=>.leaf (.str ⟨#[c]⟩) else none
 | _,_=>none
def r_ix {K:PySem.W.Frag}:R2D K (rIx K) gIx:=by
 intro F H x y vx vy Q t fh rx ry hg k
 unfold gIx at hg
 split at hg<;>first | (cases hg;done) | skip
 · obtain ⟨d,hd,hg⟩:=mS hg
   cases hg;cases ry
   obtain ⟨a,vs,rfl,h1,h2⟩:=rx
   obtain ⟨v,e,rv⟩:=np h2 hd
   exact .inl ⟨a,vs,_,v,rfl,rfl,h1,e,k.leaf.here fh rv⟩
 · obtain ⟨d,hd,hg⟩:=mS hg
   cases hg;cases ry
   obtain ⟨a,vs,rfl,h1,h2⟩:=rx
   obtain ⟨v,e,rv⟩:=np h2 hd
   exact .inr (.inl ⟨a,vs,_,v,rfl,rfl,fh.tup h1,e,k.leaf.here fh rv⟩)
 · split at hg
   · rename_i hl
     obtain ⟨c,hc,hg⟩:=mS hg
     cases hg;cases rx;cases ry
     exact .inr (.inr ⟨_,_,c,rfl,rfl,hl,hc,k.str fh⟩)
   · cases hg
variable {a b c:Expr} {fa fb fc:De->Option Dt} {pos:Pos}
def kE (l:List Dt) (lo hi:Option Int):List Dt:=(l.drop (HT.sIx l.length 0 lo)).take (HT.sIx l.length l.length hi-HT.sIx l.length 0 lo)
noncomputable def gSl:Dt->Option Int->Option Int->Option T
 | .str x,lo,hi=>if x.length<=sizeLine then some (.leaf (.str (Txt.slice x lo hi))) else none
 | .lst l,lo,hi=>some (.lst (kE l lo hi))
 | .tup l,lo,hi=>if HT.sIx l.length 0 lo=0/\HT.sIx l.length l.length hi=l.length then none else some (.leaf (.tup (kE l lo hi)))
 | _,_,_=>none
abbrev rSlA (K:PySem.W.Frag):V->Option Int->Option Int->Hp->VK->Prop:=fun x lo hi H Q=>rSlS x lo hi H Q∨rSlL K x lo hi H Q∨rSlT K x lo hi H Q
def zM:SlR X (rSlA X.K):=SlR.or zB (SlR.or wa zr)
def nq {K:PySem.W.Frag} {F:Hp} {l:List Dt} {vs:List V} (r:Reps K F l vs) (lo hi:Option Int):Reps K F (kE l lo hi) (mN vs lo hi):=by
 unfold kE mN
 rw [r.length]
 exact (r.drop _).take _
def r_sl {K:PySem.W.Frag} {F H:Hp} {x:Dt} {v:V} {lo hi:Option Int} {Q:VK} {t:T} (fh:Same F H) (rx:RepB K F H x v) (hg:gSl x lo hi=some t) (k:KO K F H t Q):rSlA K v lo hi H Q:=by
 unfold gSl at hg
 split at hg<;>first | (cases hg;done) | skip
 · split at hg
   · cases hg;cases rx
     exact .inl ⟨_,rfl,by assumption,k.str fh⟩
   · cases hg
 · obtain ⟨a,vs,rfl,h1,h2⟩:=rx
   cases hg
   exact .inr (.inl ⟨a,vs,rfl,h1,fun p hp=>gd k fh (nq h2 _ _) hp⟩)
 · obtain ⟨a,vs,rfl,h1,h2⟩:=rx
   split at hg
   · cases hg
   · rename_i hn
     cases hg
     rw [<- h2.length] at hn
     exact .inr (.inr ⟨a,vs,rfl,fh.tup h1,hn,fun p hp=>k.tup fh (nq h2 _ _) hp⟩)
def tOD (K:PySem.W.Frag) (f:De->Option (Option Int)):TO:=fun σ H Q=>∃ Φ δ F d,Fm.K Φ=K/\En Φ δ σ F H/\f δ=some d/\∀ H' F',Step F H F' H'->Q d H'
def jd:De->Option (Option Int):=fun _=>some none
def asI:Dt->Option Int
 | .int i=>some i
 | _=>none
def dA (f:De->Option Dt):De->Option (Option Int):=fun δ=>(f δ).bind fun d=>(asI d).map some
def nr {K:PySem.W.Frag} {F H:Hp} {x:Dt} {v:V} {b:Int} (h:asI x=some b) (r:RepB K F H x v):v=.int b:=by
 cases x<;>first | cases h;done | skip
 cases h;exact r
def DP (X:Cx) (e:Option Expr) (f:De->Option (Option Int)):Prop:=PO X e (tOD X.K f)
def jx:DP X none jd:=fun pins s σ H Q I h=>v4 pins s σ H Q I (by
 obtain ⟨Φ,δ,F,d,hK,en,hf,k⟩:=h
 cases hf
 exact k H F (Step.refl en.fh))
def dN {e:Expr} {f:De->Option Dt} (h:DB X e f):DP X (some e) (dA f):=fun pins s σ H Q I q=>v6 h pins s σ H Q I (by
 obtain ⟨Φ,δ,F,d,hK,en,hf,k⟩:=q
 unfold dA at hf
 obtain ⟨x,hx,hf⟩:=bS hf
 obtain ⟨i,hi,hf⟩:=mS hf
 cases hf
 exact ⟨Φ,δ,F,x,hK,en,hx,fun v H' F' st r=>⟨i,nr hi r,k H' F' st⟩⟩)
def vSl (fa:De->Option Dt) (fl fh:De->Option (Option Int)):De->Option T:=fun δ=>(fa δ).bind fun x=>(fl δ).bind fun l=>(fh δ).bind fun h=>gSl x l h
def eG {e:Expr} {lo hi:Option Expr} {p2:Pos} {f:De->Option Dt} {fl fh:De->Option (Option Int)} (he:DB X e f) (hl:DP X lo fl) (hh:DP X hi fh):DO X (.Subscript e (.Slice lo hi none p2) pos) (vSl f fl fh):=
 PE.mono (tK zM he hl hh) fun σ H Q ⟨Φ,δ,F,t,hK,en,hf,k⟩=>by
  unfold vSl at hf
  obtain ⟨x,hx,hf⟩:=bS hf
  obtain ⟨l,hl,hf⟩:=bS hf
  obtain ⟨h,hh,hf⟩:=bS hf
  exact ⟨Φ,δ,F,x,hK,en,hx,fun v H1 F1 s1 r1=>⟨Φ,δ,F1,l,hK,en.step s1,hl,fun H2 F2 s2=>⟨Φ,δ,F2,h,hK,en.step (s1.trans s2),hh,fun H3 F3 s3=>r_sl s3.fh (r1.step (s2.ff.trans s3.ff) (s2.hh.trans s3.hh)) hf (k.step ((s1.trans s2).trans s3))⟩⟩⟩
def wC (f:De->Option Dt):De->Option T:=fun δ=>(f δ).bind fun d=>(asI d).map fun i=>.leaf (.int (-i))
def ul (h:DB X a fa):DO X (.UnaryOp .USub a pos) (wC fa):=PE.mono (Be zg h) fun σ H Q ⟨Φ,δ,F,t,hK,en,hf,k⟩=>by
 unfold wC at hf
 obtain ⟨x,hx,hf⟩:=bS hf
 obtain ⟨i,hi,hf⟩:=mS hf
 cases hf
 exact ⟨Φ,δ,F,x,hK,en,hx,fun v H' F' st r=>⟨i,nr hi r,(k.step st).int st.fh⟩⟩
def db:List Dt->Option T
 | [.str x]=>if x.length<=sizeLine then some (.leaf (.int x.length)) else none
 | [.tup l]=>some (.leaf (.int l.length))
 | [.lst l]=>some (.leaf (.int l.length))
 | _=>none
def de {K:PySem.W.Frag} {F H:Hp} {d:Dt} {vs:List V} (r:RepBs K F H [d] vs):∃ v,vs=[v]/\RepB K F H d v:=by
 obtain ⟨v,ws,rfl,h1,h2⟩:=r
 cases h2
 exact ⟨v,rfl,h1⟩
def ir {K:PySem.W.Frag}:CRD K (fun xs H Q=>∃ x n,xs=[x]/\LenV K x H n/\Q (.int n) H) db:=by
 intro F H ds vs Q t fh r hg k
 unfold db at hg
 split at hg<;>first | (cases hg;done) | skip
 · split at hg
   · rename_i hl
     cases hg
     obtain ⟨v,rfl,rv⟩:=de r
     cases rv
     exact ⟨_,_,rfl,⟨hl,rfl⟩,k.int fh⟩
   · cases hg
 · cases hg
   obtain ⟨v,rfl,rv⟩:=de r
   obtain ⟨a,vs,rfl,h1,h2⟩:=rv
   rw [<- h2.length] at k
   exact ⟨_,_,rfl,.inr ⟨vs,fh.tup h1,rfl⟩,k.int fh⟩
 · cases hg
   obtain ⟨v,rfl,rv⟩:=de r
   obtain ⟨a,vs,rfl,h1,h2⟩:=rv
   rw [<- h2.length] at k
   exact ⟨_,_,rfl,.inl ⟨vs,h1,rfl⟩,k.int fh⟩
def jN:List Dt->Option (List Bool)
 | []=>some []
 | .bl b::r=>(jN r).map (b::·)
 | _=>none
def nu {K:PySem.W.Frag} {F:Hp}:∀ {l:List Dt} {vs:List V} {bs:List Bool},Reps K F l vs->jN l=some bs->vs=bs.map V.bl
 | [],vs,bs,r,h=>by cases h;simp only [Reps] at r;exact r
 | d::l,vs,bs,r,h=>by
  cases d<;>first | cases h;done | skip
  simp only [jN] at h
  obtain ⟨cs,hc,h⟩:=mS h
  cases h
  simp only [Reps,Rep] at r
  obtain ⟨v,ws,rfl,rfl,r2⟩:=r
  rw [nu r2 hc]
  rfl
def um (f:List Bool->Bool):List Dt->Option T
 | [.lst l]=>(jN l).map fun bs=>.leaf (.bl (f bs))
 | _=>none
def Bw {K:PySem.W.Frag} {f:List Bool->Bool}:CRD K (fun xs H Q=>∃ (a:Addr) (bs:List Bool),xs=[.ref a]/\SqL K H a (bs.map V.bl)/\Q (.bl (f bs)) H) (um f):=by
 intro F H ds vs Q t fh r hg k
 unfold um at hg
 split at hg<;>first | (cases hg;done) | skip
 obtain ⟨bs,hb,hg⟩:=mS hg
 cases hg
 obtain ⟨v,rfl,rv⟩:=de r
 obtain ⟨a,vs,rfl,h1,h2⟩:=rv
 have:=nu h2 hb
 subst this
 exact ⟨a,bs,rfl,h1,k.bl fh⟩
def wD:List Dt->Option T
 | [.int i]=>some (.leaf (.int i))
 | [.bl b]=>some (.leaf (.int (if b then 1 else 0)))
 | [.str x]=>(PySem.intText? x).bind fun n=>if x.length<=640 then some (.leaf (.int n)) else none
 | _=>none
abbrev yd:List V->Hp->VK->Prop:=fun xs H Q=>((∃ i,xs=[.int i]/\Q (.int i) H)∨∃ k,xs=[.bl k]/\Q (.int (if k then 1 else 0)) H)∨∃ x n,xs=[.str x]/\PySem.intText? x=some n/\x.length<=640/\Q (.int n) H
def sk:CallR X (.type "int") yd:=CallR.or rS lY
def Bx {K:PySem.W.Frag}:CRD K yd wD:=by
 intro F H ds vs Q t fh r hg k
 unfold wD at hg
 split at hg<;>first | (cases hg;done) | skip
 · cases hg
   obtain ⟨v,rfl,rv⟩:=de r
   cases rv
   exact .inl (.inl ⟨_,rfl,k.int fh⟩)
 · cases hg
   obtain ⟨v,rfl,rv⟩:=de r
   cases rv
   exact .inl (.inr ⟨_,rfl,k.int fh⟩)
 · obtain ⟨n,hn,hg⟩:=bS hg
   split at hg
   · cases hg
     obtain ⟨v,rfl,rv⟩:=de r
     cases rv
     exact .inr ⟨_,n,rfl,hn,by assumption,k.int fh⟩
   · cases hg
def dZ:List Dt->Option T
 | [.lst l]=>some (.leaf (.tup l))
 | [.tup l]=>some (.leaf (.tup l))
 | _=>none
def jy {K:PySem.W.Frag}:CRD K (fun xs H Q=>∃ p ys,xs=[.ref p]/\((SqL K H p ys/\∀ l,H l=none->Q (.ref l) (upd H l (.tup ys)))∨(SqT K H p ys/\Q (.ref p) H))) dZ:=by
 intro F H ds vs Q t fh r hg k
 unfold dZ at hg
 split at hg<;>first | (cases hg;done) | skip
 · cases hg
   obtain ⟨v,rfl,rv⟩:=de r
   obtain ⟨a,vs,rfl,h1,h2⟩:=rv
   exact ⟨a,vs,rfl,.inl ⟨h1,fun p hp=>k.tup fh h2 hp⟩⟩
 · cases hg
   obtain ⟨v,rfl,rv⟩:=de r
   rename_i l
   have rv':Rep K F (.tup l) v:=by simp only [Rep];exact rv
   obtain ⟨a,vs,rfl,h1,h2⟩:=rv
   exact ⟨a,vs,rfl,.inr ⟨fh.tup h1,k.leaf.here fh rv'⟩⟩
end
section
variable {X:Cx} {o a b e c:Expr} {es:List Expr} {fa fb fo fe:De->Option Dt} {fs:De->Option (List Dt)} {pos apos cpos p:Pos} {x:Str} {sc:Scope} {i:Nat}
def k8 (K:PySem.W.Frag) (mg:Str->Option Value) (x:Str) (d:Dt):Prop:=∃ v,(∃ u,mg x=some u/\RelV v u)/\∀ F,Rep K F d v
def di {d:Dt} (h:aF sc x=true) (hm:k8 X.K X.mg x d) (e1:bK X sc:=by rfl):DL X (.Name x pos) (kD d):=by
 obtain ⟨v,h1,h2⟩:=hm
 exact uc (t7 h h1 e1) h2
def iu {K:PySem.W.Frag} {mg:Str->Option Value} {i:Str} (h:∃ u,mg x=some u/\RelV (.str i) u):k8 K mg x (.str i):=⟨_,h,fun _=>io⟩
def nv:Dt->Bool
 | .ins _ _ _=>true
 | _=>false
def tyD:Dt->String
 | .ins _ _ _=>"object"
 | .non=>"NoneType"
 | .bl _=>"bool"
 | .int _=>"int"
 | .str _=>"str"
 | .tup _=>"tuple"
 | .lst _=>"list"
 | .dct _ _=>"dict"
 | .dcT _ _=>"dict"
noncomputable def ye (c:String):Dt->Bool
 | .ins _ _ _=>false
 | .non=>c=="NoneType"
 | .bl _=>c=="bool"||c=="int"
 | .int _=>c=="int"
 | .str _=>c=="str"
 | .tup _=>c=="tuple"
 | .lst _=>c=="list"
 | .dct _ _=>c=="dict"
 | .dcT _ _=>c=="dict"
def ph {pins:List (Addr×Obj)} {σ:St} {H:Hp} {s:Shared} {A:Around} {E:Value->Shared->Prop} {Q:Value->Shared->Prop} {c:Value} {b:Bool} {v:V} {u:Value} {d:Dt} (I:Inv X pins σ H s) (rx:RelV v u) (r:Rep X.K H d v) (hi:nv d=false) (e:PySem.W.kitOne X.K (.type (tyD d)) c=some b) (h:∀ tk,Q (.bool b) {s with toks:=tk}) :
  wpAny (model X.prog X.w) A (call (.builtin "isinstance") [u,c]) Q E s:=by
 cases d with
 | non=>simp only [Rep] at r;subst r;exact f6 I rx .non e h
 | bl y=>simp only [Rep] at r;subst r;exact f6 I rx (.bl y) e h
 | int y=>simp only [Rep] at r;subst r;exact f6 I rx (.int y) e h
 | str y=>simp only [Rep] at r;subst r;exact f6 I rx (.str y) e h
 | tup l =>
  simp only [Rep] at r
  obtain ⟨a,vs,rfl,h1,h2⟩:=r
  cases rx
  obtain ⟨its,_,pl,_⟩:=I.tuple h1
  obtain ⟨o,e1,e2,_⟩:=pl
  exact PySem.W.kia_one PySem.W.kitx_tuple I.kIn ⟨o,e1,e2⟩ e (fun z=>nomatch z) h
 | lst l =>
  simp only [Rep] at r
  obtain ⟨a,vs,rfl,h1,h2⟩:=r
  cases rx
  obtain ⟨its,_,pl,_⟩:=I.list h1
  obtain ⟨o,n,e1,e2,_⟩:=pl
  exact PySem.W.kia_one PySem.W.kitx_list I.kIn ⟨o,e1,e2⟩ e (fun z=>nomatch z) h
 | dct ks l =>
  simp only [Rep] at r
  obtain ⟨a,kvs,rfl,h1,_⟩:=r
  cases rx
  obtain ⟨_,_,vs,_,p⟩:=kO I.hok h1
  obtain ⟨o,es,ep,e1,e2,_⟩:=p
  exact PySem.W.kia_one PySem.W.kitx_dict I.kIn ⟨o,e1,e2.1⟩ e (fun z=>nomatch z) h
 | dcT ks l =>
  simp only [Rep] at r
  obtain ⟨a,kvs,rfl,h1,_⟩:=r
  cases rx
  obtain ⟨_,_,xs,_,o,es,ep,e1,e2,_⟩:=(show ObjOk X.prog X.w H s.heap a (.dT kvs) from h1.ok I.hok)
  exact PySem.W.kia_one PySem.W.kitx_dict I.kIn ⟨o,e1,e2.1⟩ e (fun z=>nomatch z) h
 | ins c ns l=>cases hi
def gW (K:PySem.W.Frag) (c:String):Prop:=∀ d:Dt,nv d=false->PySem.W.kitOne K (.type (tyD d)) (.type c)=some (ye c d)
def pi:CallR X (.builtin "isinstance") (fun xs H Q=>∃ v c d b,xs=[v,.ty c]/\Rep X.K H d v/\nv d=false/\PySem.W.kitOne X.K (.type (tyD d)) (.type c)=some b/\Q (.bl b) H):=by
 intro pins s σ H xs us Q I r h
 obtain ⟨v,c,d,b,rfl,rd,hi,e,q⟩:=h
 obtain ⟨u,w',rfl,ru,rw'⟩:=Bj r
 cases rw'
 exact ph I ru rd hi e fun tk=>⟨.bl b,H,I.tok _,rfl,q⟩
def k9 (c:String) (f:De->Option Dt):De->Option T:=fun δ=>(f δ).bind fun d=>if nv d then none else some (.leaf (.bl (ye c d)))
def iO {cn:Str} {cs:String} {p1 p2:Pos} (h:aF sc "isinstance"=true) (hcn:aF sc cn=true) (hm:X.mg "isinstance"=none) (hmc:X.mg cn=none) (hv:bootBuiltins cn=some (.type cs)) (hk:gW X.K cs) (ha:DB X a fa) (e1:bK X sc:=by rfl)
  (he:starEach [a,.Name cn p2] X.env=(false,eval a X.env)::starEach [.Name cn p2] X.env:=by rfl) (he2:starEach [.Name cn p2] X.env=(false,eval (.Name cn p2) X.env)::starEach [] X.env:=by rfl) (hpl:(backTo pos (starEach [.Name cn p2] X.env)).any (·.1)=false:=by rfl) :
  DO X (.Call (.Name "isinstance" p1) [a,.Name cn p2] [] pos) (k9 cs fa):=
 PE.mono (f8 h pi hm kA (bY ha (bY (t8 (v:=.ty cs) hcn hmc hv rfl e1) dS he2) he) e1 he hpl) fun σ H Q ⟨Φ,δ,F,t,hK,en,hf,k⟩=>by
  unfold k9 at hf
  obtain ⟨d,hd,hf⟩:=bS hf
  cases hi:nv d with
  | true=>rw [hi] at hf;cases hf
  | false =>
   rw [hi] at hf
   cases hf
   exact ⟨Φ,δ,F,d,hK,en,hd,fun v H' F' st r=>⟨v,cs,d,_,rfl,r.rep st.fh,hi,hk d hi,(k.step st).bl st.fh⟩⟩
def MRD (K:PySem.W.Frag) (r:V->List V->Hp->VK->Prop) (g:Dt->List Dt->Option T):Prop:=∀ F H d v ds vs (Q:VK) t,Same F H->RepB K F H d v->RepBs K F H ds vs->g d ds=some t->KO K F H t Q->r v vs H Q
def qL (g:Dt->List Dt->Option T) (fo:De->Option Dt) (fs:De->Option (List Dt)):De->Option T:=fun δ=>(fo δ).bind fun d=>(fs δ).bind fun ds=>g d ds
def zN {name:Str} {id:String} {r:V->List V->Hp->VK->Prop} {g:Dt->List Dt->Option T} (slot:Slot "str" name id) (hty:typeOf (.builtin id)=pure (.type "method_descriptor")) (hm:MtR X id r) (hr:MRD X.K r g) (hg:∀ d ds t,g d ds=some t->∃ z,d=.str z)
  (ho:DB X o fo) (ha:DAB X (e::es) fs)
  (hbase:attributeBase o name X.env (eval o X.env)=eval o X.env:=by rfl)
  (hfew:((backTo cpos (starEach (e::es) X.env)).all (fun x=>!x.1)&&(backToKw cpos (keywordEach [] X.env)).all (fun x=>x.1.isSome)
   && decide ((e::es).length+([]:List Keyword).length+(if ([]:List Keyword).isEmpty then 0 else 1)<30))=true:=by rfl)
  (hline:(apos.endLine==cpos.line)=true:=by rfl) (hs:starEach (e::es) X.env=(false,eval e X.env)::starEach es X.env:=by rfl) (hplain:(backTo cpos (starEach es X.env)).any (·.1)=false:=by rfl) :
  DO X (.Call (.Attribute o name apos) (e::es) [] cpos) (qL g fo fs):=PE.mono (tP PySem.F.plainAttrs_str slot hty hm ho ha.pa hbase hfew hline hs hplain) fun σ H Q ⟨Φ,δ,F,t,hK,en,hf,k⟩=>by
 unfold qL at hf
 obtain ⟨d,hd,hf⟩:=bS hf
 obtain ⟨ds,hds,hf⟩:=bS hf
 refine ⟨Φ,δ,F,d,hK,en,hd,fun v H1 F1 st rv=>⟨?_,Φ,δ,F1,ds,hK,en.step st,hds,fun vs H2 F2 st2 rvs=>hr F2 H2 d v ds vs Q t st2.fh (rv.step st2.ff st2.hh) rvs hf (k.step (st.trans st2))⟩⟩
 obtain ⟨z,rfl⟩:=hg d ds t hf
 cases rv
 rfl
def e6:List Dt->Option (List Str)
 | []=>some []
 | .str b::r=>(e6 r).map (b::·)
 | _=>none
def gj {K:PySem.W.Frag} {F:Hp}:∀ {l:List Dt} {vs:List V} {bs:List Str},Reps K F l vs->e6 l=some bs->vs=bs.map V.str
 | [],vs,bs,r,h=>by cases h;simp only [Reps] at r;exact r
 | d::l,vs,bs,r,h=>by
  cases d<;>first | cases h;done | skip
  simp only [e6] at h
  obtain ⟨cs,hc,h⟩:=mS h
  cases h
  simp only [Reps,Rep] at r
  obtain ⟨v,ws,rfl,rfl,r2⟩:=r
  rw [gj r2 hc]
  rfl
def gY:Dt->List Dt->Option T
 | .str a,[.lst l]=>(e6 l).bind fun ts=>if JoinOk a ts then some (.leaf (.str (Txt.join a ts))) else none
 | _,_=>none
def wE {K:PySem.W.Frag}:MRD K (fun x vs H Q=>∃ (a:Str) (l:Addr) (ts:List Str),x=.str a/\vs=[.ref l]/\SqL K H l (ts.map V.str)/\JoinOk a ts=true/\Q (.str (Txt.join a ts)) H) gY:=by
 intro F H d v ds vs Q t fh rd rs hg k
 unfold gY at hg
 split at hg<;>first | cases hg;done | skip
 obtain ⟨ts,ht,hg⟩:=bS hg
 split at hg
 · rename_i hj
   cases hg
   cases rd
   obtain ⟨v,rfl,rv⟩:=de rs
   obtain ⟨a,vs,rfl,h1,h2⟩:=rv
   have:=gj h2 ht
   subst this
   exact ⟨_,a,ts,rfl,rfl,h1,hj,k.str fh⟩
 · cases hg
def pj:∀ d ds t,gY d ds=some t->∃ z,d=.str z:=fun d ds t h=>by
 unfold gY at h
 split at h
 · exact ⟨_,rfl⟩
 · cases h
def wF (ho:DB X o fo) (ha:DAB X (e::es) fs)
  (hbase:attributeBase o "join" X.env (eval o X.env)=eval o X.env:=by rfl)
  (hfew:((backTo cpos (starEach (e::es) X.env)).all (fun x=>!x.1)&&(backToKw cpos (keywordEach [] X.env)).all (fun x=>x.1.isSome)
   && decide ((e::es).length+([]:List Keyword).length+(if ([]:List Keyword).isEmpty then 0 else 1)<30))=true:=by rfl)
  (hline:(apos.endLine==cpos.line)=true:=by rfl) (hs:starEach (e::es) X.env=(false,eval e X.env)::starEach es X.env:=by rfl) (hplain:(backTo cpos (starEach es X.env)).any (·.1)=false:=by rfl) :
  DO X (.Call (.Attribute o "join" apos) (e::es) [] cpos) (qL gY fo fs):=zN PySem.F.slot_str_join PySem.F.type_str_join wl wE pj ho ha hbase hfew hline hs hplain
def z29 (i:Nat) (f:De->Option Dt):De->Option Out:=fun δ=>match δ[i]? with
 | some (some (.lst l))=>(f δ).bind fun d=>if l.length<sizeLine then some (.nx (δ.set i (some (.lst (l++[d]))))) else none
 | _=>none
def En.ownL {Φ:Fm} {δ:De} {σ:St} {F H:Hp} (en:En Φ δ σ F H) {l:List Dt} (h:δ[i]?=some (some (.lst l))):∃ a vs,σ[i]?=some (some (.ref a))/\H a=some (.lst vs)/\Reps Φ.K F l vs:=by
 obtain ⟨v,hv⟩:=en.has i _ h
 obtain ⟨S,s⟩:=en.sep
 obtain ⟨a,vs,rfl,_,h1,h2⟩:=s.own i _ v (c6 h hv)
 exact ⟨a,vs,hv,h1,h2⟩
def iP (hx:PE X o (jh i)) (he:DL X e fe)
  (hbase:attributeBase o "append" X.env (eval o X.env)=eval o X.env:=by rfl)
  (hfew:((backTo cpos (starEach [e] X.env)).all (fun x=>!x.1)&&(backToKw cpos (keywordEach [] X.env)).all (fun x=>x.1.isSome)
   && decide ([e].length+([]:List Keyword).length+(if ([]:List Keyword).isEmpty then 0 else 1)<30))=true:=by rfl)
  (hline:(apos.endLine==cpos.line)=true:=by rfl) (hs:starEach [e] X.env=(false,eval e X.env)::starEach [] X.env:=by rfl) (hplain:(backTo cpos (starEach [] X.env)).any (·.1)=false:=by rfl)
  (hsw:swapsWith (.Call (.Attribute o "append" apos) [e] [] cpos) none pos.line X.env=pure false:=by rfl) :
  DS1 X (.Expr (.Call (.Attribute o "append" apos) [e] [] cpos) pos) (z29 i fe):=
 PS.mono (qd (tP PySem.F.plainAttrs_list PySem.F.slot_list_append PySem.F.type_list_append f7 hx (bY he dS hs) hbase hfew hline hs hplain) hsw) fun D σ H ⟨Φ,δ,F,ot,hK,en,hg,k⟩=>by
  unfold z29 at hg
  split at hg<;>first | cases hg;done | skip
  rename_i l hl
  obtain ⟨d,hd,hg⟩:=bS hg
  split at hg<;>first | cases hg;done | skip
  rename_i hz
  cases hg
  obtain ⟨a,vs,hv,h1,h2⟩:=en.ownL hl
  refine ⟨.ref a,hv,.inl ⟨rfl,vs,.inl (.inl h1)⟩,Φ,δ,F,d,hK,en,hd,fun v H1 F1 st rv=>?_⟩
  have en1:=en.step st
  have h1':=st.hh _ _ h1
  refine ⟨a,vs,v,rfl,rfl,h1',by rw [h2.length];exact hz,?_⟩
  refine k σ F1 _ (en1.poke hl hv (fun d z=>nomatch z) fun S sa=>⟨a,vs++[v],rfl,sa,aD,(h2.same st.ff).append (Reps.one (hK▸rv))⟩)
end
def gB {κ:Type} [DecidableEq κ]:List κ->List Dt->κ->Option Dt
 | k'::ks,d::l,k=>if k'=k then some d else gB ks l k
 | _,_,_=>none
def iQ {κ:Type} [DecidableEq κ] {K:PySem.W.Frag} {F:Hp} {k:κ}:∀ {kvs:List (κ×V)} {l:List Dt} {d:Dt},Reps K F l (kvs.map (·.2))->gB (kvs.map (·.1)) l k=some d->∃ v,eU kvs k=some v/\Rep K F d v
 | [],l,d,r,h=>by cases l<;>cases h
 | p::kvs,[],d,r,h=>by cases h
 | p::kvs,e::l,d,r,h=>by
  simp only [List.map_cons,Reps] at r
  obtain ⟨v,ws,hv,r1,r2⟩:=r
  cases hv
  simp only [List.map_cons,gB] at h
  by_cases hk:p.1=k
  · rw [if_pos hk] at h
    cases h
    exact ⟨p.2,fJ hk,r1⟩
  · rw [if_neg hk] at h
    rw [ee hk]
    exact iQ r2 h
def lb {κ:Type} [DecidableEq κ] {K:PySem.W.Frag} {F:Hp} {k:κ}:∀ {kvs:List (κ×V)} {l:List Dt},Reps K F l (kvs.map (·.2))->gB (kvs.map (·.1)) l k=none->eU kvs k=none
 | [],l,r,h=>rfl
 | p::kvs,[],r,h=>by
  simp only [List.map_cons,Reps] at r
  cases r
 | p::kvs,e::l,r,h=>by
  simp only [List.map_cons,Reps] at r
  obtain ⟨v,ws,hv,r1,r2⟩:=r
  cases hv
  simp only [List.map_cons,gB] at h
  by_cases hk:p.1=k
  · rw [if_pos hk] at h
    cases h
  · rw [if_neg hk] at h
    rw [ee hk]
    exact lb r2 h
def jm:Dt->Option Key
 | .int i=>some (.inl i)
 | .str x=>some (.inr x)
 | _=>none
def l9 {K:PySem.W.Frag} {F H:Hp} {d:Dt} {v:V} {k:Key} (r:RepB K F H d v) (h:jm d=some k):v=kV k:=by
 unfold jm at h
 split at h<;>first | (cases h;done) | skip
 · cases h;exact r
 · cases h;exact r
def aw:Dt->Dt->Option T
 | .dct ks l,k=>(jm k).bind fun k=>(gB ks l k).map .leaf
 | x,y=>gIx x y
section
variable {X:Cx} {o a b e c:Expr} {es:List Expr} {fa fb fo fe fk:De->Option Dt} {fs:De->Option (List Dt)} {pos apos cpos p:Pos} {x:Str} {sc:Scope} {i:Nat}
def aq {k:Nat} (hr:Room k X.A) (ha:DB X a fa) (hb:DB X b fb) (hs:lR b:=by exact fun _ _=>rfl) (hn:tQ b:=by exact fun _ _=>rfl):DO X (.Subscript a b pos) (d2 aw fa fb):=
 PE.mono (PE.or (xW tM ha hb hs) (lV (jG hr) ha hb hn)) fun σ H Q ⟨Φ,δ,F,t,hK,en,hf,k⟩=>by
  unfold d2 at hf
  obtain ⟨x,hx,hf⟩:=bS hf
  obtain ⟨y,hy,hf⟩:=bS hf
  unfold aw at hf
  split at hf
  · rename_i ks l _
    obtain ⟨kk,hk,hf⟩:=bS hf
    obtain ⟨d,hd,hf⟩:=mS hf
    cases hf
    refine .inr ⟨Φ,δ,F,_,hK,en,hx,fun v H1 F1 st rv=>⟨Φ,δ,F1,y,hK,en.step st,hy,fun v2 H2 F2 st2 rv2=>?_⟩⟩
    obtain ⟨ad,kvs,rfl,h1,h2,h3⟩:=rv
    subst h2
    obtain ⟨w,hw,rw'⟩:=iQ h3 hd
    have:=l9 rv2 hk
    subst this
    exact ⟨ad,w,rfl,.inl ⟨kvs,kk,st2.hh.rd h1,rfl,hw.symm⟩,(k.step (st.trans st2)).leaf.here st2.fh (rw'.same st2.ff)⟩
  · exact .inl (k6 r_ix ⟨Φ,δ,F,t,hK,en,by unfold d2;rw [hx,hy];exact hf,k⟩)
def cw (neg:Bool):Dt->Dt->Option T
 | k,.dct ks l=>(jm k).map fun k=>.leaf (.bl (if neg then !(gB ks l k).isSome else (gB ks l k).isSome))
 | x,y=>gIn neg x y
def qM {κ:Type} [DecidableEq κ] {K:PySem.W.Frag} {F:Hp} {k:κ} {kvs:List (κ×V)} {l:List Dt} (r:Reps K F l (kvs.map (·.2))):(gB (kvs.map (·.1)) l k).isSome=(eU kvs k).isSome:=by
 cases h:gB (kvs.map (·.1)) l k with
 | none=>rw [lb r h];rfl
 | some d =>
  obtain ⟨v,e,_⟩:=iQ r h
  rw [e]
  rfl
def By {K:PySem.W.Frag} {σ:St} {H:Hp} {Q:VK} (h:tO K (d2 (cw false) fa fb) σ H Q):tOp (uk K false) (tBd K fa) (tBd K fb) σ H Q∨tDIn (tBd K fa) (tBd K fb) σ H Q:=by
 obtain ⟨Φ,δ,F,t,hK,en,hf,k⟩:=h
 unfold d2 at hf
 obtain ⟨x,hx,hf⟩:=bS hf
 obtain ⟨y,hy,hf⟩:=bS hf
 unfold cw at hf
 split at hf
 · rename_i ks l
   obtain ⟨kk,hk,hf⟩:=mS hf
   cases hf
   refine .inr ⟨Φ,δ,F,x,hK,en,hx,fun v H1 F1 st rv=>⟨Φ,δ,F1,_,hK,en.step st,hy,fun v2 H2 F2 st2 rv2=>?_⟩⟩
   obtain ⟨ad,kvs,rfl,h1,h2,h3⟩:=rv2
   subst h2
   have:=l9 rv hk
   subst this
   refine ⟨ad,_,rfl,.inl ⟨kvs,kk,h1,rfl,rfl⟩,?_⟩
   rw [<- qM h3]
   exact (k.step (st.trans st2)).bl st2.fh
 · exact .inl (k6 (r_in false) ⟨Φ,δ,F,t,hK,en,by unfold d2;rw [hx,hy];exact hf,k⟩)
def uo {K:PySem.W.Frag} {σ:St} {H:Hp} {Q:VK} (h:tO K (d2 (cw true) fa fb) σ H Q):tOp (uk K true) (tBd K fa) (tBd K fb) σ H Q∨qo (tBd K fa) (tBd K fb) σ H Q:=by
 obtain ⟨Φ,δ,F,t,hK,en,hf,k⟩:=h
 unfold d2 at hf
 obtain ⟨x,hx,hf⟩:=bS hf
 obtain ⟨y,hy,hf⟩:=bS hf
 unfold cw at hf
 split at hf
 · rename_i ks l
   obtain ⟨kk,hk,hf⟩:=mS hf
   cases hf
   refine .inr ⟨Φ,δ,F,x,hK,en,hx,fun v H1 F1 st rv=>⟨Φ,δ,F1,_,hK,en.step st,hy,fun v2 H2 F2 st2 rv2=>?_⟩⟩
   obtain ⟨ad,kvs,rfl,h1,h2,h3⟩:=rv2
   subst h2
   have:=l9 rv hk
   subst this
   refine ⟨ad,_,rfl,.inl ⟨kvs,kk,h1,rfl,rfl⟩,?_⟩
   rw [<- qM h3]
   exact (k.step (st.trans st2)).bl st2.fh
 · exact .inl (k6 (r_in true) ⟨Φ,δ,F,t,hK,en,by unfold d2;rw [hx,hy];exact hf,k⟩)
def PT.or {X:Cx} {e:Expr} {t t':TT} (h:PT X e t) (h':PT X e t'):PT X e (fun σ H Q=>t σ H Q∨t' σ H Q):=fun pins s σ H Q I q=>q.elim (h pins s σ H Q I) (h' pins s σ H Q I)
def yf {K:PySem.W.Frag} {g:Dt->Dt->Option T} {σ:St} {H:Hp} {Q:Bool->Hp->Prop} (h:tTr K (tB2 g fa fb) σ H Q):tO K (d2 g fa fb) σ H (fun v H'=>∃ c,v=.bl c/\Q c H'):=by
 obtain ⟨Φ,δ,F,t,hK,en,hf,k⟩:=h
 unfold tB2 at hf
 obtain ⟨z,hz,hf⟩:=bS hf
 exact ⟨Φ,δ,F,z,hK,en,hz,fun v H' F' S st o hs=>⟨t,qB hf o,k H' F' st⟩⟩
def lc {k:Nat} (hr:Room k X.A) (ha:DB X a fa) (hb:DB X b fb) (hm:behindInMarks .In b=false:=by with_unfolding_all rfl):DT X (.Compare a [.In] [b] pos) (tB2 (cw false) fa fb):=
 PT.mono (PT.or (jr zL ha hb hm) (oP (zy (jG hr) ha hb) hm)) fun σ H Q h=>By (yf h)
def ny {k:Nat} (hr:Room k X.A) (ha:DB X a fa) (hb:DB X b fb) (hm:behindInMarks .NotIn b=false:=by with_unfolding_all rfl):DT X (.Compare a [.NotIn] [b] pos) (tB2 (cw true) fa fb):=
 PT.mono (PT.or (jr sj ha hb hm) (oP (kP (jG hr) ha hb) hm)) fun σ H Q h=>uo (yf h)
end
section
variable {prog:Program} {w:World} {A:Around} {E:Value->Shared->Prop} {s:Shared} {I t:Addr} {j:Nat} {vs:Array Value}
def pr {y:Value} {Q:Value->Shared->Prop} (hI:s.heap.IsTupleIter I t j) (hv:s.heap.IsTuple t vs) (hy:vs[j]?=some y)
  (q:∀ h',h'.IsTupleIter I t (j+1)->Heap.SameBut I s.heap h'->Q y {s with heap:=h'}):wpAny (model prog w) A (Builtin.SmallTypes.nextOf (.ref I)) Q E s:=by
 obtain ⟨oi,hoi,hci,hdi⟩:=id hI
 obtain ⟨ot,hot,_,nt,hdt⟩:=hv
 unfold Builtin.SmallTypes.nextOf
 refine wB (wpAny_callSpecial?_slot (name:=Str.ofString "__next__") hI.typeIs F.slot_tuple_iterator_next (wpAny_call_entry F.slot_tuple_iterator_next hI.typeIs F.entry_tuple_iterator_next ?_ (F.args_tuple_iterator_next_1 _)))
 show wpAny _ _ (field (.ref I) 0 >>= _) _ _ s
 refine wB (wpAny_field hoi hdi (x:=.ref t) rfl ?_)
 show wpAny _ _ (if (Value.ref t==Value.none)=true then _ else _) _ _ s
 rw [if_neg (show ¬ (Value.ref t==Value.none)=true by exact Bool.false_ne_true)]
 show wpAny _ _ (field (.ref I) 1 >>= _) _ _ s
 refine wB (wpAny_field hoi hdi (x:=.int j 0) rfl ?_)
 show wpAny _ _ (seqItems? (.ref t) >>= _) _ _ s
 refine wB (wpAny_seqItems hot hdt ?_)
 simp only [Int.toNat_natCast,hy]
 refine wpAny_bind (wpAny_setField hoi hdi (by simp) (wpAny_pure ⟨y,rfl,wpAny_pure (q _ ?_ (Heap.SameBut.update ..))⟩))
 exact ⟨_,Heap.get?_update_self _ hoi (Obj.isFreed_of_fields (Obj.data_mapFields hdi _)),(Obj.cls_mapFields ..).trans hci,by rw [Obj.data_mapFields hdi];simp [rawInt]⟩
def sn {Q:Value->Shared->Prop} (hh:A.handled=none) (hI:s.heap.IsTupleIter I t j) (hv:s.heap.IsTuple t vs) (hy:vs[j]?=none)
  (q:∀ h' e,Heap.ExtBut I s.heap h'->(∃ o,h'.get? e=some o/\o.cls=.type "StopIteration")->E (.ref e) {s with heap:=h'}):wpAny (model prog w) A (Builtin.SmallTypes.nextOf (.ref I)) Q E s:=by
 obtain ⟨oi,hoi,hci,hdi⟩:=id hI
 obtain ⟨ot,hot,_,nt,hdt⟩:=hv
 unfold Builtin.SmallTypes.nextOf
 refine wB (wpAny_callSpecial?_slot (name:=Str.ofString "__next__") hI.typeIs F.slot_tuple_iterator_next (wpAny_call_entry F.slot_tuple_iterator_next hI.typeIs F.entry_tuple_iterator_next ?_ (F.args_tuple_iterator_next_1 _)))
 show wpAny _ _ (field (.ref I) 0 >>= _) _ _ s
 refine wB (wpAny_field hoi hdi (x:=.ref t) rfl ?_)
 show wpAny _ _ (if (Value.ref t==Value.none)=true then _ else _) _ _ s
 rw [if_neg (show ¬ (Value.ref t==Value.none)=true by exact Bool.false_ne_true)]
 show wpAny _ _ (field (.ref I) 1 >>= _) _ _ s
 refine wB (wpAny_field hoi hdi (x:=.int j 0) rfl ?_)
 show wpAny _ _ (seqItems? (.ref t) >>= _) _ _ s
 refine wB (wpAny_seqItems hot hdt ?_)
 simp only [Int.toNat_natCast,hy]
 refine wpAny_bind (wpAny_rule (wpAny_bind (wpAny_setField hoi hdi (by simp) ?_)))
 show wpAny _ _ (newExc (.type "StopIteration") [] >>= _) _ _ _
 refine wB ?_
 simp only [newExc,newTuple]
 refine wB (wpAny_newObj_type ?_ (by first | size_fits | decide))
 refine wpAny_bind (m:=firstArgMember _ _) (wpAny_of_eq (a:=Value.none) (by first | rfl | (simp only [firstArgMember]<;>rfl)) ?_)
 refine wpAny_newObj_type ?_ (by first | size_fits | decide)
 simp only [raiseNew]
 refine wB (wpAny_handled ?_)
 first | rw [hh] | rw [show A.in1.handled=none by exact hh]
 refine wB (wpAny_pure (wpAny_throw ?_))
 exact q _ _ (((Heap.SameBut.update ..).extBut.push _).push _) ⟨_,Heap.get?_push_size _ rfl,rfl⟩
end
def nz {prog:Program} {w:World} {A:Around} (hh:A.handled=none) (I t:Addr) (hne:t≠I) (vs:Array Value):Draws prog w A I [I,t] vs.size (fun i v=>vs[i]?=some v) (fun i h=>h.IsTupleIter I t i/\h.IsTuple t vs) where
 live:=fun _ _ st=>let ⟨o,ho,_⟩:=st.1;⟨o,ho⟩
 frame:=fun _ _ _ st hk=>⟨let ⟨o,ho,r⟩:=st.1;⟨o,hk I (by simp) o ho,r⟩,let ⟨o,ho,r⟩:=st.2;⟨o,hk t (by simp) o ho,r⟩⟩
 item:=fun i s Q E hi st hQ=>pr st.1 st.2 (y:=vs[i]) (by simp [hi]) fun h' a b=>hQ _ h' s.toks (by simp [hi]) ⟨a,let ⟨o,ho,r⟩:=st.2;⟨o,b.extBut _ _ hne ho,r⟩⟩ b
 done:=fun s Q E st hE=>sn hh st.1 st.2 (by simp) hE
def SqB (b:Bool) (K:PySem.W.Frag) (H:Hp) (a:Addr) (xs:List V):Prop:=match b with
 | true=>SqL K H a xs
 | false=>SqT K H a xs
def ItB (b:Bool) (h:Heap) (I a:Addr) (i:Nat):Prop:=match b with
 | true=>h.IsListIter I a i
 | false=>h.IsTupleIter I a i
def CoB (b:Bool) (h:Heap) (a:Addr) (vs:Array Value):Prop:=match b with
 | true=>h.IsList a vs
 | false=>h.IsTuple a vs
def ItB.obj {b:Bool} {h:Heap} {I a:Addr} {i:Nat} (x:ItB b h I a i):∃ o,h.get? I=some o/\(o.cls=.type "list_iterator"∨o.cls=.type "tuple_iterator")/\∀ v,o.data≠.cell v:=by
 cases b with
 | true=>obtain ⟨o,e,c,d⟩:=x;exact ⟨o,e,.inl c,fun v z=>by rw [d] at z;cases z⟩
 | false=>obtain ⟨o,e,c,d⟩:=x;exact ⟨o,e,.inr c,fun v z=>by rw [d] at z;cases z⟩
def ItB.at {b:Bool} {h h':Heap} {I a:Addr} {i:Nat} (x:ItB b h I a i) (k:∀ o,h.get? I=some o->h'.get? I=some o):ItB b h' I a i:=by
 cases b with
 | true=>obtain ⟨o,e,r⟩:=x;exact ⟨o,k o e,r⟩
 | false=>obtain ⟨o,e,r⟩:=x;exact ⟨o,k o e,r⟩
def CoB.obj {b:Bool} {h:Heap} {a:Addr} {vs:Array Value} (x:CoB b h a vs):∃ o,h.get? a=some o/\(o.cls=.type "list"∨o.cls=.type "tuple"):=by
 cases b with
 | true=>obtain ⟨o,e,c,_⟩:=x;exact ⟨o,e,.inl c⟩
 | false=>obtain ⟨o,e,c,_⟩:=x;exact ⟨o,e,.inr c⟩
def yg {x y:String} (h:x≠y):Value.type x≠Value.type y:=fun z=>h (by cases z;rfl)
def uq {b c:Bool} {h:Heap} {I a l:Addr} {i:Nat} {vs:Array Value} (x:ItB b h I a i) (y:CoB c h l vs):l≠I:=by
 obtain ⟨o,e1,c1,_⟩:=x.obj
 obtain ⟨o',e2,c2⟩:=y.obj
 rintro rfl
 rw [e1] at e2
 cases e2
 rcases c1 with c1 | c1<;>rcases c2 with c2 | c2<;>rw [c1] at c2<;>exact absurd c2 (yg (by decide))
section
variable {X:Cx} {pins:List (Addr×Obj)} {σ:St} {H:Hp} {s:Shared} {a I:Addr} {xs:List V} {b:Bool}
def Inv.seqB (J:Inv X pins σ H s) (h:SqB b X.K H a xs):∃ its:List Value,Vals xs its/\CoB b s.heap a its.toArray:=by
 cases b with
 | true=>obtain ⟨its,r,p,_⟩:=J.list h;exact ⟨its,r,p.isList⟩
 | false=>obtain ⟨its,r,p,_⟩:=J.tuple h;exact ⟨its,r,p⟩
def Inv.seqB_inj {ys:List V} (J:Inv X pins σ H s) (h:SqB b X.K H a xs) (h':SqB b X.K H a ys):xs=ys:=by
 cases b with
 | true=>exact J.list_inj h h'
 | false=>exact J.tuple_inj h h'
def ur {prog:Program} {w:World} {A:Around} (hh:A.handled=none) (hne:a≠I) (vs:Array Value):Draws prog w A I [I,a] vs.size (fun i v=>vs[i]?=some v) (fun i h=>ItB b h I a i/\CoB b h a vs):=by
 cases b with
 | true=>exact Draws.list hh I a hne vs
 | false=>exact nz hh I a hne vs
def Inv.turnedL {h':Heap} {t':Nat} {fp:List Addr} (J:Inv X pins σ H s) (k:∀ b o,b∉fp->s.heap.get? b=some o->h'.get? b=some o) (hf:∀ b∈fp,gu X pins H b):Inv X pins σ H {s with heap:=h',toks:=t'}:=by
 have nit:∀ b u,H b=some u->b∉fp:=fun b u e z=>by rw [(hf b z).1] at e;cases e
 refine J.step (g':=s.gens) (d':=s.drawn) (ch:=fp) (fun b hb=>?_) (fun b o _ _ hc e _=>k b o hc e) (fun b o _ _ hc e _=>⟨o.slots,k b o hc e⟩) (fun _ _ _ _ n=>n)
  (fun b o hc e=>⟨o,k b o hc e⟩) (fun _ _ e=>e) (fun _ _ _ e=>e) (fun b ps e=>⟨#[],by rw [e];simp⟩) (fun _ _ e=>e) (fun m hm=>?_) (fun b u e=>?_) J.bare
 · exact ⟨(hf b hb).2.2.2.1,(hf b hb).2.1,(hf b hb).2.2.2.2.1,(hf b hb).2.2.2.2.2⟩
 · obtain ⟨o,es,ep,ho,r⟩:=hm
   exact ⟨o,es,ep,k _ o (fun z=>(hf _ z).2.1 rfl) ho,r⟩
 · refine (J.hok b u e).stay (fun c v hc q=>k c v ?_ q) (fun _ q=>q) (fun _ _ q=>q) fun _ _ _ q=>q
   rcases hc with z | z
   · rw [z];exact nit b u e
   · exact nit c _ z
end
section
variable {X:Cx} {pins:List (Addr×Obj)} {σ:St} {H:Hp} {s:Shared}
def Inv.turnedT {h':Heap} {t':Nat} {fp:List Addr} {t:Addr} {u:HO} (J:Inv X pins σ H s) (k:∀ b o,b∉fp->s.heap.get? b=some o->h'.get? b=some o) (hf:∀ b∈fp,gu X pins H b) (ht:s.heap.objs.size<=t) (new:ObjOk X.prog X.w (upd H t u) h' t u) :
  Inv X pins σ (upd H t u) {s with heap:=h',toks:=t'}:=by
 have nit:∀ b u,H b=some u->b∉fp:=fun b u e z=>by rw [(hf b z).1] at e;cases e
 have hn:H t=none:=J.hok.fresh ht
 have net:∀ b v,H b=some v->b≠t:=fun b v e=>bn e hn
 have nlt:∀ b o,s.heap.get? b=some o->b≠t:=fun b o e z=>by subst z;exact absurd (Heap.lt_size e) (Nat.not_lt.mpr ht)
 refine J.step (g':=s.gens) (d':=s.drawn) (ch:=fp) (fun b hb=>?_) (fun b o _ _ hc e _=>k b o hc e) (fun b o _ _ hc e _=>⟨o.slots,k b o hc e⟩) (fun b o _ e n=>by rw [ax (nlt b o e)];exact n)
  (fun b o hc e=>⟨o,k b o hc e⟩) (fun b xs e=>by rw [ax (net b _ e)];exact e) (fun b o v e=>by rw [ax (net b _ e)];exact e) (fun b ps e=>⟨#[],by rw [ax (net b _ e),e];simp⟩) (fun b xs e=>by rw [ax (net b _ e)];exact e) (fun m hm=>?_) (fun b v e=>?_) J.bare
 · exact ⟨(hf b hb).2.2.2.1,(hf b hb).2.1,(hf b hb).2.2.2.2.1,(hf b hb).2.2.2.2.2⟩
 · obtain ⟨o,es,ep,ho,r⟩:=hm
   exact ⟨o,es,ep,k _ o (fun z=>(hf _ z).2.1 rfl) ho,r⟩
 · by_cases hb:b=t
   · subst hb
     rw [aD] at e
     cases e
     exact new
   · rw [ax hb] at e
     refine (J.hok b v e).stay (fun c ob hc q=>k c ob ?_ q) (fun c q=>by rw [ax (net c _ q)];exact q) (fun c ys q=>by rw [ax (net c _ q)];exact q) fun c ob ys q=>by rw [ax (net c _ q)];exact q
     rcases hc with z | z
     · rw [z];exact nit b v e
     · exact nit c _ z
end
noncomputable def Ite (b:Bool) (K:PySem.W.Frag) (a:Addr):It:=
 ⟨fun i H=>∃ xs x,SqB b K H a xs/\xs[i]?=some x,fun i H x H'=>∃ t v,H t=none/\x=.ref t/\H'=upd H t (.tup [.int i,v])/\∀ xs,SqB b K H a xs->xs[i]?=some v,fun i H=>∃ xs,SqB b K H a xs/\xs.length=i⟩
def so {P:Program} {w:World} {K:PySem.W.Frag} {elts:List Expr} {n:Nat} {pos:Pos} (b:Bool) (a e I:Addr) (hne:e≠I) :
  Turn P w K (.Tuple elts n pos) (Ite b K a) [e,I] e (fun i h=>(∃ old,IsEnum h e I i old)/\ItB b h I a i) where
 mem:=by simp
 obj:=fun i h st c hc=>by
  obtain ⟨⟨old,st1⟩,st2⟩:=st
  simp only [List.mem_cons,List.not_mem_nil,or_false] at hc
  rcases hc with rfl | rfl
  · exact ⟨_,st1,fun v z=>nomatch z⟩
  · obtain ⟨o,q,_,d⟩:=st2.obj
    exact ⟨o,q,d⟩
 keep:=fun i h h' st k=>by
  obtain ⟨⟨old,st1⟩,st2⟩:=st
  exact ⟨⟨old,k e (by simp) _ st1⟩,st2.at fun o q=>k I (by simp) o q⟩
 item:=by
  intro X hP hw hK hc i pins s σ H E J hf st hg
  subst hP hw hK
  obtain ⟨⟨old,st1⟩,st2⟩:=st
  obtain ⟨xs,x,hq,hx⟩:=hg
  obtain ⟨its,rv,co⟩:=J.seqB hq
  obtain ⟨u,hu,ru⟩:=rv.get hx
  have hi:i<its.toArray.size:=by simpa using (gX hu).1
  have hae:e∉[I,a]:=by
   simp only [List.mem_cons,List.not_mem_nil,or_false,not_or]
   refine ⟨hne,fun z=>?_⟩
   obtain ⟨o,q,c⟩:=co.obj
   rw [<- z,st1] at q
   cases q
   rcases c with c | c<;>exact absurd c (yg (by decide))
  refine wpAny_pyNext_enum_itemD (ur (A:=X.A.in1) (b:=b) (I:=I) (a:=a) (show X.A.in1.handled=none from J.ok.hd hc) (uq st2 co) its.toArray) st1 ⟨st2,co⟩ hi hne hae fun y h1 tk hy ho hs1 hT hsz hk=>⟨_,rfl,?_⟩
  have ey:y=u:=by
   rw [show its.toArray[i]?=its[i]? by simp,hu] at hy
   exact (Option.some.inj hy).symm
  subst ey
  refine wpAny_letOwnedTupleGo_enum ho fun h2 he2 sb2=>?_
  have kk:∀ c o,c∉[e,I]->s.heap.get? c=some o->h2.get? c=some o:=fun c o hc' q=>by
   simp only [List.mem_cons,List.not_mem_nil,or_false,not_or] at hc'
   exact (sb2.2 c hc'.1).trans (hk c o hc'.1 hc'.2 q)
  have lt:∀ c∈[e,I],c<s.heap.objs.size:=fun c hc'=>by
   simp only [List.mem_cons,List.not_mem_nil,or_false] at hc'
   rcases hc' with rfl | rfl
   · exact Heap.lt_size st1
   · obtain ⟨o,q,_⟩:=st2.obj
     exact Heap.lt_size q
  -- first the records,then the pair
  have hT2:h2.get? s.heap.objs.size=some {cls:=.type "tuple",data:=.seq #[.int i tk,y]}:=(sb2.2 _ (fun z=>Nat.lt_irrefl _ (z▸lt e (by simp)))).trans hT
  have J2:Inv X pins σ (upd H s.heap.objs.size (.tup [.int i,x])) {s with heap:=h2,toks:=tk+1}:=by
   refine J.turnedT kk hf (nL _) ⟨by show 2<=sizeLine;decide,[.int i tk,y],.cons ⟨_,rfl⟩ (.cons ru .nil),?_⟩
   exact ⟨_,hT2,rfl,_,rfl⟩
  refine ⟨.ref s.heap.objs.size,_,J2,rfl,⟨_,x,J.hok.fresh (Nat.le_refl _),rfl,rfl,fun ys hy=>by rw [J.seqB_inj hy hq];exact hx⟩,⟨⟨_,by simpa using he2⟩,hs1.1.at fun o q=>(sb2.2 I (Ne.symm hne)).trans q⟩,fun c hc'=>?_⟩
  rw [ax (Nat.ne_of_lt (lt c hc'))]
  exact (hf c hc').1
 done:=by
  intro X hP hw hK hc i pins s σ H E J hf st hg
  subst hP hw hK
  obtain ⟨⟨old,st1⟩,st2⟩:=st
  obtain ⟨xs,hq,hx⟩:=hg
  obtain ⟨its,rv,co⟩:=J.seqB hq
  have hi:i=its.toArray.size:=by rw [<- hx];simpa using rv.length
  refine wpAny_pyNext_enum_endD (ur (A:=X.A.in1) (b:=b) (I:=I) (a:=a) (show X.A.in1.handled=none from J.ok.hd hc) (uq st2 co) its.toArray) st1 (show ItB b s.heap I a its.toArray.size/\CoB b s.heap a its.toArray from ⟨hi▸st2,co⟩) fun h' eb=>⟨rfl,?_⟩
  exact J.turnedL (t':=s.toks) (fun c o hc' q=>eb c o (fun z=>hc' (by simp [z])) q) hf
 self:=fun A i s Q E st h=>by
  obtain ⟨⟨old,st1⟩,st2⟩:=st
  exact wpAny_pyIter_enum st1 h
def nA (t:Addr) (vs:Array Value) (n:Nat) (dd:Option Addr) (sl:Array (Option Value)) :
  Meets (Builtin.«enumerate.__new__» ⟨[.type "enumerate",.ref t],[]⟩) (fun _ R s=>s.heap.get? t=some {cls:=.type "tuple",dict:=dd,data:=.seq vs n,slots:=sl}∧
   R (.ok (.ret (.ref (s.heap.push {cls:=.type "tuple_iterator",data:=.fields #[.ref t,.int 0 0]}).objs.size)))
    {s with heap:=(s.heap.push {cls:=.type "tuple_iterator",data:=.fields #[.ref t,.int 0 0]}).push {cls:=.type "enumerate",data:=.fields #[.none,.bool false,.ref s.heap.objs.size,rawInt 0,.none,.none]}}):=
 .of_wp fun prog w A R s h=>by
  obtain ⟨hp,g,d,tk,os⟩:=s
  obtain ⟨ht,h⟩:=h
  have hsub:=sub_enumerate
  have hT:Heap.IsTuple (Shared.heap ⟨hp,g,d,tk,os⟩) t vs:=⟨_,ht,rfl,n,rfl⟩
  wp_walk using AutoSeq1.wpAny_loadPart' ht
  refine wpAny_stack_any fun st=>wpAny_pure ?_
  split
  · rename_i c _ _ _ _ _
    cases (c==Value.type "enumerate")<;>(wp_walk using AutoSeq1.wpAny_loadPart' ht,wpAny_pyIter_tuple hT)<;>exact ⟨_,rfl,h⟩
  · (wp_walk using AutoSeq1.wpAny_loadPart' ht,wpAny_pyIter_tuple hT)<;>exact ⟨_,rfl,h⟩
section
variable {prog:Program} {w:World} {A:Around} {E:Value->Shared->Prop} {s:Shared}
def pv {t:Addr} {vs:Array Value} {Q:Value->Shared->Prop} (hT:s.heap.IsTuple t vs)
  (h:∀ h',IsEnum h' (s.heap.objs.size+1) s.heap.objs.size 0 .none->h'.IsTupleIter s.heap.objs.size t 0->h'.objs.size=s.heap.objs.size+2→
   (∀ c u,s.heap.get? c=some u->h'.get? c=some u)->Q (.ref (s.heap.objs.size+1)) {s with heap:=h'}) :
  wpAny (model prog w) A (call (.type "enumerate") [.ref t]) Q E s:=by
 obtain ⟨⟨c,dct,dt,sl⟩,hl,hc,n,hd⟩:=hT
 have hc:c=.type "tuple":=hc
 have hd:dt=.seq vs n:=hd
 subst hc hd
 refine callType_new F.called_enumerate (by decide) (F.typeCall_enumerate_1 _) (F.newCall_enumerate_1 _) (fun obj=>F.args_object_init_2 obj _) F.entry_enumerate_new (nA t vs n dct sl) ⟨hl,?_⟩
 have hz:(s.heap.push {cls:=.type "tuple_iterator",data:=.fields #[.ref t,.int 0 0]}).objs.size=s.heap.objs.size+1:=Heap.size_push ..
 have hz2:((s.heap.push {cls:=.type "tuple_iterator",data:=.fields #[.ref t,.int 0 0]}).push {cls:=.type "enumerate",data:=.fields #[.none,.bool false,.ref s.heap.objs.size,rawInt 0,.none,.none]}).objs.size=s.heap.objs.size+2:=by rw [Heap.size_push,hz]
 rw [hz]
 have hen:=Heap.get?_push_size (s.heap.push {cls:=.type "tuple_iterator",data:=.fields #[.ref t,.int 0 0]}) (o:={cls:=.type "enumerate",data:=.fields #[.none,.bool false,.ref s.heap.objs.size,rawInt 0,.none,.none]}) rfl
 rw [hz] at hen
 exact ⟨⟨_,hen,rfl⟩,h _ hen ⟨_,gP _ (Heap.get?_push_size _ rfl),rfl,rfl⟩ hz2 fun c u z=>gP _ (gP _ z)⟩
def pw {b:Bool} {t:Addr} {vs:Array Value} {Q:Value->Shared->Prop} (hT:CoB b s.heap t vs)
  (h:∀ h',IsEnum h' (s.heap.objs.size+1) s.heap.objs.size 0 .none->ItB b h' s.heap.objs.size t 0->h'.objs.size=s.heap.objs.size+2→
   (∀ c u,s.heap.get? c=some u->h'.get? c=some u)->Q (.ref (s.heap.objs.size+1)) {s with heap:=h'}) :
  wpAny (model prog w) A (call (.type "enumerate") [.ref t]) Q E s:=by
 cases b with
 | true=>exact call_enumerate_list hT h
 | false=>exact pv hT h
end
section
variable {X:Cx} {x:Expr} {p pos tpos:Pos} {sc:Scope} {fs:De->Option (List Dt)} {elts:List Expr} {n:Nat}
def Bz (K:PySem.W.Frag) (ta:TA):TI:=fun σ H R=>ta σ H fun vs H1=>∃ b a xs,vs=[.ref a]/\SqB b K H1 a xs/\R (Ite b K a) H1
def wG {ta:TA} (h:aF sc "enumerate"=true) (hm:X.mg "enumerate"=none) (ha:PA X [x] ta) (e1:bK X sc:=by rfl) (hs:starEach [x] X.env=[(false,eval x X.env)]:=by rfl) :
  PI X (.Tuple elts n tpos) (.Call (.Name "enumerate" p) [x] [] pos) (Bz X.K ta):=by
 intro pins s σ H R I h'
 refine Call_ (eT I (glD h e1) hm lZ (PyProof.Rows.callWith_type1 (thn (ha pos pins s σ H _ I h') fun us s1 ⟨vs,H1,I1,r1,q1⟩=>?_) hs rfl))
 obtain ⟨b,a,xs,rfl,hq,q⟩:=q1
 obtain ⟨u,rfl,ru⟩:=fu r1
 cases ru
 obtain ⟨its,rv,co⟩:=I1.seqB hq
 refine pw co fun h2 he hi hz hk=>wpAny_pyIter_enum he ?_
 have I2:Inv X pins σ H1 {s1 with heap:=h2}:=I1.kept (t':=s1.toks) hk
 refine ⟨s1.heap.objs.size+1,[s1.heap.objs.size+1,s1.heap.objs.size],_,_,H1,rfl,I2,so b a _ _ (Nat.ne_of_gt (Nat.lt_succ_self _)),⟨⟨_,he⟩,hi⟩,fun c hc=>?_,q⟩
 have hge:s1.heap.objs.size<=c:=by
  simp only [List.mem_cons,List.not_mem_nil,or_false] at hc
  rcases hc with rfl | rfl
  · exact Nat.le_succ _
  · exact nL _
 exact I1.fpOk hge (I1.hok.fresh hge)
def dO (i:Nat):List Dt->List Dt
 | []=>[]
 | d::r=>.tup [.int i,d]::dO (i+1) r
def ld:∀ (l:List Dt) (i:Nat),(dO i l).length=l.length
 | [],_=>rfl
 | _::r,i=>by simp [dO,ld r]
def lg:∀ (l:List Dt) (i k:Nat),(dO i l)[k]?=l[k]?.map fun d=>.tup [.int ((i+k:Nat):Int),d]
 | [],i,k=>by simp [dO]
 | d::r,i,0=>by simp [dO]
 | d::r,i,k+1=>by simp [dO,lg r,Nat.add_assoc,Nat.add_comm 1]
def qN:List Dt->Option (List Dt)
 | [.lst l]=>some (dO 0 l)
 | [.tup l]=>some (dO 0 l)
 | _=>none
def ut {K:PySem.W.Frag} {F:Hp} {d e:Dt} {v w:V} {t:Addr} (h:F t=some (.tup [v,w])) (r:Rep K F d v) (r':Rep K F e w):Rep K F (.tup [d,e]) (.ref t):=by
 simp only [Rep,Reps]
 exact ⟨t,_,rfl,SqT.of h,v,[w],rfl,r,w,[],rfl,r',rfl⟩
def lh {K:PySem.W.Frag} {F:Hp} {b:Bool} {a:Addr} {xs:List V} {l:List Dt} (r:Reps K F l xs):qG K F (Ite b K a) (dO 0 l) (fun H=>SqB b K H a xs):=fun i H F2 hok fh ff=>by
 have hl:=r.length
 rw [ld]
 refine ⟨fun h=>⟨xs,xs[i],hok,by simp [show i<xs.length by omega]⟩,fun h=>⟨xs,hok,by omega⟩,fun x H' hi hy=>?_⟩
 obtain ⟨t,v,ht,rfl,rfl,hv⟩:=hy
 have hx:=hv xs hok
 obtain ⟨d,hd,rd⟩:=r.same_get hx
 refine ⟨_,upd F2 t (.tup [.int i,v]),?_,Step.new fh ht,ut aD f9 ((rd.same ff).same (Same.upd (fh.free ht)))⟩
 rw [lg,hd]
 simp
def ma (h:aF sc "enumerate"=true) (hm:X.mg "enumerate"=none) (ha:DA X [x] fs) (e1:bK X sc:=by rfl) (hs:starEach [x] X.env=[(false,eval x X.env)]:=by rfl) :
  DIF X (.Tuple elts n tpos) (.Call (.Name "enumerate" p) [x] [] pos) (gU qN fs):=PI.mono (wG h hm ha.pa e1 hs) fun σ H R ⟨Φ,δ,F,ds,hK,en,hf,k⟩=>by
 unfold gU at hf
 obtain ⟨as,hd,hf⟩:=bS hf
 refine ⟨Φ,δ,F,as,hK,en,hd,fun vs H' F' st r=>?_⟩
 unfold qN at hf
 split at hf<;>first | (cases hf;done) | skip
 · cases hf
   simp only [Reps,Rep] at r
   obtain ⟨v,ws,rfl,⟨a,xs,rfl,h1,h2⟩,rfl⟩:=r
   exact ⟨true,a,xs,rfl,st.fh.seq h1,k _ _ H' F' st (lh (b:=true) h2) fun H2 s=>s.seq h1⟩
 · cases hf
   simp only [Reps,Rep] at r
   obtain ⟨v,ws,rfl,⟨a,xs,rfl,h1,h2⟩,rfl⟩:=r
   exact ⟨false,a,xs,rfl,st.fh.tup h1,k _ _ H' F' st (lh (b:=false) h2) fun H2 s=>s.tup h1⟩
end
section
variable {prog:Program} {w:World} {A:Around} {E:Value->Shared->Prop} {s:Shared} {z ti tO i1 i2:Addr} {fp1 fp2:List Addr} {n1 n2 k:Nat} {P1 P2:Nat->Value->Prop} {S1 S2:Nat->Heap->Prop} {va vb:Value}
end
section
variable {prog:Program} {w:World} {A:Around} {E:Value->Shared->Prop} {s:Shared}
end
section
variable {X:Cx} {pins:List (Addr×Obj)} {σ:St} {H:Hp} {s:Shared} {a:Addr} {xs ys:List V} {b c:Bool}
end
section
variable {X:Cx} {x y:Expr} {p pos tpos:Pos} {sc:Scope} {fs:De->Option (List Dt)} {elts:List Expr} {n:Nat}
end
section
variable {X:Cx} {o a b e c:Expr} {es:List Expr} {fa fb fo fe:De->Option Dt} {fs:De->Option (List Dt)} {pos apos cpos p:Pos} {i:Nat}
end
def RepBs.reps {K:PySem.W.Frag} {F H:Hp} (fh:Same F H):∀ {l:List Dt} {vs:List V},RepBs K F H l vs->Reps K H l vs
 | [],vs,h=>by simp only [Reps];exact h
 | d::l,vs,h=>by
  obtain ⟨v,ws,e,h1,h2⟩:=h
  simp only [Reps]
  exact ⟨v,ws,e,h1.rep fh,h2.reps fh⟩
def nB {K:PySem.W.Frag} {F F':Hp} {d:Dt} {v:V} (r:Rep K F d v) (h:bX d=true):Rep K F' d v:=by
 cases d<;>first | (cases h;done) | (simp only [Rep] at r ⊢;exact r)
section
variable {X:Cx} {e:Expr} {es:List Expr} {fs:De->Option (List Dt)} {pos p:Pos} {x:Str} {sc:Scope}
end
section
variable {X:Cx} {b:Expr} {fb:De->Option Dt} {pos p:Pos} {x:Str} {sc:Scope} {ks:List Key} {l:List Dt}
end
section
variable {X:Cx} {elt tg iter:Expr} {ifs:List Expr} {scope:Scope} {pos:Pos} {M:List Str} {src:List (Option Nat)} {wi:TI} {g:TG} {tt:TT} {te:TE}
def sq {pins:List (Addr×Obj)} {s:Shared} {σ:St} {H:Hp} {Q:VK} {cpos:Pos} {use:Option (Value->Sem Unit)} {QQ:Value->Shared->Prop} (S:CmpScope X.N X.env.scope scope M src) (hc:X.calm=true) (hi:PI X tg iter wi) (hg:M.Nodup->∀ C s H ex,PG (cxC X M scope C s H ex) tg g) (ht:∀ C s H ex,PTs (cxC X M scope C s H ex) ifs tt)
  (he:∀ C s H ex,PE (cxC X M scope C s H ex) elt te) (hs:∀ x,foldedSetIterable iter X.env x=pure x) (I:Inv X pins σ H s) (h:kU src wi g tt te σ H Q)
  (hfin:∀ (D C:Addr) (H':Hp) (s':Shared) (m:Str->Option Value),Inv X pins σ H' s'->gu X pins H' C->s'.heap.Ns C m->Q (.ref D) H'->compPost (model X.prog X.w) X.A X.xe use QQ (.ref D) C (.ok .next) s') :
  wpAny (model X.prog X.w) X.A (comprehension (.ListComp elt [⟨tg,iter,ifs,0⟩] scope pos) scope X.env cpos (newList []) false (eval iter X.env) use) QQ X.xe s:=by
 have hcells:∀ x∈scope.names,x.2=.free->∃ c,X.env.cells.lookup x.1=some c:=fun x hx hfr=>I.ok.has x.1 (S.free x hx hfr)
 refine wpAny_comprehension_free (use:=use) rfl hs (gM hcells) S.kind S.names (thn (hi pins s σ H _ I h) fun v s1 h1=>thn h1 fun itv s2 h2=>?_)
 obtain ⟨it,fp,tn,J,H2,rfl,I2,T,st2,f2,hq⟩:=h2
 refine wpAny_newObj_type ?_
 have I3:Inv X pins σ (upd H2 s2.heap.objs.size (.lst [])) {s2 with heap:=s2.heap.push {cls:=.type "list",dict:=none,data:=.seq ([]:List Value).toArray},toks:=s2.toks}:=I2.lnew (its:=[]) (ys:=[]) (t':=s2.toks) .nil (by simp)
 have hD:H2 s2.heap.objs.size=none:=I2.fresh
 obtain ⟨W,⟨m0,w0⟩,turn⟩:=hq _ hD
 generalize hDn:s2.heap.objs.size=D at*
 generalize hs3:({s2 with heap:=s2.heap.push {cls:=.type "list",dict:=none,data:=.seq ([]:List Value).toArray},toks:=s2.toks}:Shared)=s3 at*
 have f3:∀ b∈fp,gu X pins (upd H2 D (.lst [])) b:=fun b hb=>⟨by
  obtain ⟨o,e,_⟩:=T.obj _ _ st2 b hb
  rw [ax (by rw [<- hDn];exact Nat.ne_of_lt (Heap.lt_size e))]
  exact (f2 b hb).1,(f2 b hb).2⟩
 have k23:∀ b o,s2.heap.get? b=some o->s3.heap.get? b=some o:=fun b o e=>by rw [<- hs3];exact gP _ e
 have st3:tn 0 s3.heap:=T.keep _ _ _ st2 fun b _ o e=>k23 b o e
 have fl3:∀ b∈fp,b<s3.heap.objs.size:=fun b hb=>by
  obtain ⟨o,e,_⟩:=T.obj _ _ st3 b hb
  exact Heap.lt_size e
 refine wpAny_newFunctionEnv S.nocell (by intro y hy;simp at hy) (fun h₁ hns₁ hsb₁=>?_) S.kind
 have k34:∀ b o,s3.heap.get? b=some o->h₁.get? b=some o:=fun b o e=>hsb₁.extBut b o (Nat.ne_of_lt (Heap.lt_size e)) (gP _ e)
 generalize hs4:({s3 with heap:=h₁,toks:=s3.toks+([]:List (Str×Value)).length}:Shared)=s4
 have I4:Inv (cxC X M scope s3.heap.objs.size s3 (upd H2 D (.lst [])) fp) [] (stC src σ) (upd H2 D (.lst [])) s4:=by
  rw [<- hs4]
  exact mU S I3 f3 fl3 hns₁ k34 rfl rfl
 have st4:tn 0 s4.heap:=T.keep _ _ _ st3 fun b _ o e=>by rw [<- hs4];exact k34 b o e
 generalize hX':cxC X M scope s3.heap.objs.size s3 (upd H2 D (.lst [])) fp=X' at*
 have hg':PG X' tg g:=by rw [<- hX'];exact hg S.nd _ _ _ _
 have ht':PTs X' ifs tt:=by rw [<- hX'];exact ht _ _ _ _
 have he':PE X' elt te:=by rw [<- hX'];exact he _ _ _ _
 have eP:X'.prog=X.prog:=by rw [<- hX'];rfl
 have eW:X'.w=X.w:=by rw [<- hX'];rfl
 have eK:X'.K=X.K:=by rw [<- hX'];rfl
 have eA:X'.A=X.A:=by rw [<- hX'];rfl
 have ex':X'.xe=fun _ _=>False:=by rw [<- hX'];rfl
 have ec:X'.calm=true:=by rw [<- hX'];exact hc
 have eE:X'.env=compEnvC scope (dW scope.names X.env.cells) s3.heap.objs.size X.env:=by rw [<- hX'];rfl
 have stat:∀ {H':Hp},(∀ b∈fp,H' b=none)->∀ b∈fp,gu X' [] H' b:=fun hn b hb=>by
  rw [<- hX']
  refine ⟨hn b hb,Nat.ne_of_lt (fl3 b hb),fun z=>?_,.inl hb,fun x c h=>(f3 b hb).2.2.2.2.1 x c (fL hcells h),fun p hp=>absurd hp (by simp [cxC])⟩
  rcases List.mem_cons.mp (I3.stkSub b z) with q | q
  · exact (f3 b hb).2.1 q
  · exact (f3 b hb).2.2.1 q
 -- behind the block
 have fin:∀ (H':Hp) (s':Shared),Inv X' [] (stC src σ) H' s'->Q (.ref D) H'->compPost (model X.prog X.w) X.A X.xe use QQ (.ref D) s3.heap.objs.size (.ok .next) s':=by
  intro H' s' J' q
  rw [<- hX'] at J'
  obtain ⟨m,hn,_⟩:=id J'.loc
  have hC:H' s3.heap.objs.size=none:=J'.free
  have un:Un (frs X.stack) fp (upd H2 D (.lst [])) H' s3.heap s'.heap:=J'.base
  have IA:Inv X pins σ H' s':=I3.call' (s':=s') (show s'.os=s3.os from J'.os) un J'.hok J'.bare fun b hb=>⟨(f3 b hb).2.2.2.1,(f3 b hb).2.1,(f3 b hb).2.2.2.2.1,(f3 b hb).2.2.2.2.2⟩
  exact hfin D _ H' s' m IA (I3.fpOk (nL _) hC) hn q
 have loop:∀ s4':Shared,s4'=s4->codeAny (model X.prog X.w) X.A (.compLoop (.ListComp elt [⟨tg,iter,ifs,0⟩] scope pos) 0 (.ref it) (.ref D) X'.env) (compPost (model X.prog X.w) X.A X.xe use QQ (.ref D) s3.heap.objs.size) s4':=by
  rintro _ rfl
  refine ia (fun n s'=>∃ i H',Inv X' [] (stC src σ) H' s'/\tn i s'.heap/\(∀ b∈fp,H' b=none)/\W i n H') ?_ m0 ⟨0,_,I4,st4,fun b hb=>(f3 b hb).1,w0⟩
  rintro n s5 ⟨i,H5,I5,st5,fr5,w5⟩
  rcases turn i n H5 w5 with ⟨stop,qn⟩ | ⟨go,N,hN,step⟩
  · have:=T.done X' eP eW eK ec i [] s5 (stC src σ) H5 (fun _ _=>False) I5 (stat fr5) st5 stop
    rw [eA] at this
    refine thn this fun r s6 ⟨hr,I6⟩=>?_
    subst hr
    exact fin H5 s6 I6 qn
  · have:=T.item X' eP eW eK ec i [] s5 (stC src σ) H5 (fun _ _=>False) I5 (stat fr5) st5 go
    rw [eA] at this
    refine thn this fun r s6 ⟨u,hr,h6⟩=>?_
    subst hr
    refine thn h6 fun _ s7 ⟨x,H7,I7,r7,y7,st7,fr7⟩=>?_
    have I7':=I7.pinned (stat fr7) (T.obj _ _ st7)
    have a1:=hg' _ s7 (stC src σ) H7 x u _ I7' r7 (step x H7 y7)
    rw [ex',eP,eW,eA] at a1
    refine thn a1 fun _ s8 ⟨σ8,H8,I8,wk8,q8⟩=>?_
    have a2:=ht' _ s8 σ8 H8 _ I8 q8
    rw [ex',eP,eW,eA] at a2
    refine thn a2 fun ok s9 ⟨H9,I9,q9⟩=>?_
    have again:∀ {H7':Hp} {s':Shared},Inv X' ([]++iG fp s7.heap) σ8 H7' s'->N H7'->∃ m,m<n/\∃ i H',Inv X' [] (stC src σ) H' s'/\tn i s'.heap/\(∀ b∈fp,H' b=none)/\W i m H':=fun {H7' s'} J7 n7=>by
     obtain ⟨m',hm,w7⟩:=hN H7' n7
     refine ⟨m',hm,i+1,H7',J7.unpinned.weak wk8.1 wk8.2,T.keep _ _ _ st7 fun b hb o e=>(J7.pin (b,o) (List.mem_append_right _ (List.mem_append_right _ (cK hb e)))).1,fun b hb=>?_,w7⟩
     obtain ⟨o,e,d⟩:=T.obj _ _ st7 b hb
     exact (J7.pin (b,o) (List.mem_append_right _ (List.mem_append_right _ (cK hb e)))).2.1
    cases ok with
    | false=>exact again I9 q9
    | true =>
     have a3:=he' _ s9 σ8 H9 _ I9 q9
     rw [ex',eP,eW,eA] at a3
     refine thn a3 fun v s10 ⟨y,H10,I10,r10,ys,hl,hz,q10⟩=>?_
     have a4:=f7 (X:=X') _ s10 σ8 H10 (.ref D) [y] (.ref D) [v] (fun _ H'=>N H') I10 rfl (.cons r10 .nil) ⟨D,ys,y,rfl,rfl,hl,hz,q10⟩
     rw [ex',eP,eW,eA] at a4
     refine thn a4 fun _ s11 ⟨_,H11,I11,_,q11⟩=>?_
     exact again I11 q11
 have e4:∀ c:Env,c=X'.env->codeAny (model X.prog X.w) X.A (.compStart (.ListComp elt [⟨tg,iter,ifs,0⟩] scope pos) 0 (.ref it) (.ref D) c) (compPost (model X.prog X.w) X.A X.xe use QQ (.ref D) s3.heap.objs.size) s4:=by
  rintro _ rfl
  exact codeAny_compStart_list (loop _ rfl) (T.self _ _ _ _ _ st4 (loop _ rfl))
 exact e4 _ (by rw [eE];rfl)
def wH {i:Nat} {y:Str} {py spos:Pos} (hN:X.N.Nodup) (hi':X.N[i]?=some y) (hx:Loc X.env.scope y) (hf:X.fn y=true∨X.env.scope.names.lookup y=some .local)
  (S:CmpScope X.N X.env.scope scope M src) (hc:X.calm=true) (hi:PI X tg iter wi) (hg:M.Nodup->∀ C s H ex,PG (cxC X M scope C s H ex) tg g) (ht:∀ C s H ex,PTs (cxC X M scope C s H ex) ifs tt)
  (he:∀ C s H ex,PE (cxC X M scope C s H ex) elt te) (hs:∀ x,foldedSetIterable iter X.env x=pure x)
  (hsw:swapsWith (.ListComp elt [⟨tg,iter,ifs,0⟩] scope pos) (some (.Name y py)) spos.line X.env=pure true) :
  PS X (.Assign [.Name y py] (.ListComp elt [⟨tg,iter,ifs,0⟩] scope pos) spos) (vV (kU src wi g tt te) (fH i)):=by
 intro pins s σ H D I h
 rw [exec_Assign_Name_used _ _ _ _ hsw]
 refine wB (wpAny_standAt (wB ?_))
 show wpAny _ X.A (do let _ <- comprehension (.ListComp elt [⟨tg,iter,ifs,0⟩] scope pos) scope X.env _ (newList []) false (eval iter X.env) (some (assign (.Name y py) X.env))) _ _ s
 refine wB (wpAny_mono (sq (use:=some (assign (.Name y py) X.env)) (QQ:=fun _ s'=>∃ σ' H',Inv X pins σ' H' s'/\D.nx σ' H') S hc hi hg ht he hs I h ?_) (fun _ s' hq=>wpAny_pure (wpAny_pure hq)) fun _ _ e=>e)
 intro Dd C H' s' m IA hC hn q
 show wpAny _ X.A (assign (.Name y py) X.env (.ref Dd)) _ _ s'
 refine wpAny_assign_Name (kK IA hN hi' hx (v:=.ref Dd) rfl (fun s2 I2 hsb=>?_) hf)
 obtain ⟨a,sb,ha⟩:=hsb
 have ne:C≠a:=by
  rcases ha with rfl | ha
  · exact hC.2.1
  · exact Ne.symm (hC.2.2.2.2.1 y a ha)
 refine ⟨m,hn.sameBut sb ne,fun h3 sb3=>⟨_,H',?_,q⟩⟩
 have kC:∀ b o,b≠C->s2.heap.get? b=some o->h3.get? b=some o:=fun b o hb e=>sb3.extBut b o hb e
 have nm:∀ {b:Addr},b∉[C]->b≠C:=fun hb z=>hb (by rw [z];exact List.mem_cons_self)
 refine I2.call' (s':={s2 with heap:=h3}) (ch:=[C]) rfl ⟨fun b o e n hb hx=>kC b o (nm hx) e,fun b o e n hb hx=>⟨o.slots,kC b o (nm hx) e⟩,fun b o e n hx=>n,fun b o e hx=>⟨o,kC b o (nm hx) e⟩,fun b xs e=>e,fun b o u e=>e,fun b ps e=>⟨#[],by rw [Array.append_empty];exact e⟩,fun b qs e=>e⟩ ?_ I2.bare fun b hb=>?_
 · intro b u e
   have nb:b≠C:=fun z=>by rw [z,hC.1] at e;cases e
   refine (I2.hok b u e).stay (fun c v hc' q=>kC c v ?_ q) (fun _ q=>q) (fun _ _ q=>q) fun _ _ _ q=>q
   rcases hc' with z | z
   · rw [z];exact nb
   · intro w;rw [w,hC.1] at z;cases z
 · cases List.mem_singleton.mp hb
   exact ⟨hC.2.2.2.1,hC.2.1,hC.2.2.2.2.1,hC.2.2.2.2.2⟩
end
section
variable {X:Cx} {elt tg iter:Expr} {ifs:List Expr} {scope:Scope} {pos:Pos} {M:List Str} {src:List (Option Nat)} {fi:De->Option (List Dt)} {ft:De->Option Bool} {fe:De->Option Dt} {i:Nat}
def zO {K:PySem.W.Frag} {f:De->Option T} {σ:St} {H:Hp} {Q:VK} (h:tO K (toT (toD f)) σ H Q):tO K f σ H Q:=by
 obtain ⟨Φ,δ,F,t,hK,en,hf,k⟩:=h
 unfold toT toD at hf
 cases ht:f δ with
 | none=>rw [ht] at hf;cases hf
 | some u =>
  rw [ht] at hf
  cases hf
  exact ⟨Φ,δ,F,u,hK,en,ht,k.leaf.to⟩
def nC {sc:Scope} {N:List Str} {y:Str} {py spos:Pos} {ts:List Nat} {bb:Dt->De->Option De} (h:cy sc N i y=true) (hl:ii sc y=true) (nd:N.Nodup) (S:CmpScope X.N X.env.scope scope M src) (hc:X.calm=true) (hi:DIB X tg iter fi) (hg:M.Nodup->∀ C s H ex,DG (cxC X M scope C s H ex) tg ts bb)
  (ht:∀ C s H ex,DTs (cxC X M scope C s H ex) ifs ft) (he:∀ C s H ex,DL (cxC X M scope C s H ex) elt fe) (hts:(ts.all fun k=>decide (src[k]?=some none))=true) (hs:∀ x,foldedSetIterable iter X.env x=pure x:=by intro _;rfl)
  (e1:bK X sc:=by rfl) (e2:X.N=N:=by rfl) (hf:X.fn y=true∨X.env.scope.names.lookup y=some .local:=by exact .inl rfl) (hsw:swapsWith (.ListComp elt [⟨tg,iter,ifs,0⟩] scope pos) (some (.Name y py)) spos.line X.env=pure true:=by rfl) :
  DS1 X (.Assign [.Name y py] (.ListComp elt [⟨tg,iter,ifs,0⟩] scope pos) spos) (bC i (toT (toD (br src fi bb ft fe)))):=by
 have e1:X.env.scope=sc:=e1
 subst e1 e2
 refine PS.mono (wH (g:=gD X.K ts bb) (tt:=tTr X.K ft) (te:=tL X.K fe) nd (gO h) (jI hl) hf S hc hi (fun nd C s H ex=>hg nd C s H ex) (fun C s H ex=>ht C s H ex) (fun C s H ex=>he C s H ex) hs hsw) fun D σ H ⟨Φ,δ,F,o,hK,en,hf',k⟩=>?_
 unfold bC at hf'
 obtain ⟨t,ht',hf'⟩:=mS hf'
 cases hf'
 exact qI S hts σ H _ (zO ⟨Φ,δ,F,t,hK,en,ht',fun v H' F' S st o hs=>k _ F' H' (en.put st (hK▸o) hs i)⟩)
end
section
variable {X:Cx} {e o:Expr} {f:Str} {pos pos' apos cpos:Pos} {i j:Nat} {c:Str} {NS:List Str} {fe:De->Option T} {fd:De->Option Dt}
end
section
variable {X:Cx} {e o ik:Expr} {f:Str} {pos pos' apos cpos spos:Pos} {i j:Nat} {c:Str} {NS:List Str} {fe:De->Option T} {fd fk:De->Option Dt}
end
def qO:T->Option T
 | .leaf d=>if bX d then some (.leaf d) else none
 | .lst l=>if l.all bX then some (.lst l) else none
 | _=>none
def lj {K:PySem.W.Frag} {F F':Hp}:∀ {l:List Dt} {vs:List V},Reps K F l vs->l.all bX=true->Reps K F' l vs
 | [],vs,h,_=>by simp only [Reps] at h ⊢;exact h
 | d::l,vs,h,hf=>by
  simp only [List.all_cons,Bool.and_eq_true] at hf
  simp only [Reps] at h ⊢
  obtain ⟨v,ws,e,h1,h2⟩:=h
  exact ⟨v,ws,e,nB h1 hf.1,lj h2 hf.2⟩
def uu {K:PySem.W.Frag} {F1 H1:Hp} {u t:T} {Q:VK} (fh:Same F1 H1) (hf:qO u=some t) (k:KO K F1 H1 t Q):KO K H1 H1 u Q:=fun v H' F' S st o hs=>by
 unfold qO at hf
 split at hf<;>first | (cases hf;done) | skip
 · split at hf<;>first | (cases hf;done) | skip
   rename_i d hd
   cases hf
   exact k.leaf v H' F1 ⟨st.hh,Same.refl _,fh.trans st.hh,fun b o e=>.inl e⟩ (nB o hd)
 · split at hf<;>first | (cases hf;done) | skip
   rename_i l hl
   cases hf
   obtain ⟨a,vs,e,sa,h1,h2⟩:=o
   refine k v H' F1 S ⟨st.hh,Same.refl _,fh.trans st.hh,fun b o e=>.inl e⟩ ⟨a,vs,e,sa,h1,lj h2 hl⟩ fun b z=>⟨?_,(hs b z).2.1,(hs b z).2.2⟩
   cases q:F1 b with
   | none=>rfl
   | some o=>have y:=(hs b z).2.1;rw [fh _ _ q] at y;cases y
section
variable {X:Cx} {e o:Expr} {es:List Expr} {m c:Str} {pos apos cpos p:Pos} {i j:Nat} {NS ps:List Str} {fo:De->Option Dt} {fs:De->Option (List Dt)} {ff:List Dt->Option T} {k n:Nat}
end
section
variable {K:PySem.W.Frag} {F H:Hp} {ts:List T} {vs:List V} {S:Nat->Addr->Prop} {N:List Str}
end
section
variable {P:Program} {w:World} {K:PySem.W.Frag} {mg:Str->Option Value} {base:Heap}
end
section
variable {X:Cx} {e:Expr} {pos:Pos} {fd:De->Option Dt}
end
section
variable {X:Cx} {e:Expr} {es:List Expr} {i:Nat} {ags:List Ag} {f:De->Option Dt}
end
section
variable {X:Cx} {e o:Expr} {es:List Expr} {x m c:Str} {pos apos cpos p:Pos} {i j:Nat} {NS ps:List Str} {sc:Scope} {k n:Nat} {f:List T->Option (T×List T)} {ags:List Ag} {fs:De->Option (List Dt)} {fe fk:De->Option Dt}
end
section
variable {X:Cx}
end
section
variable {X:Cx} {pos:Pos} {k v:Expr} {ks:List (Option Expr)} {vs:List Expr} {fk fv:De->Option Dt} {g:De->Option (List (Key×Dt))}
end
section
variable {X:Cx} {pins:List (Addr×Obj)} {σ:St} {H:Hp} {s:Shared} {a:Addr} {u:HO} {ob:Obj}
end
section
variable {X:Cx} {tg:Expr}
end
inductive CV where
 | dat (d:Dt) | ref (i:Nat)
 | fn (a:Addr) (F0:Hp)
inductive CO where
 | lst (l:List CV) | tup (l:List CV) | dK (l:List (Key×CV)) | ins (c:Str) (ns:List Str) (l:List CV) | wk (l:List (Key×CV)) | dT (l:List (List Key×CV)) | wt (l:List (List Key×CV))
abbrev CH:=List CO
abbrev Sl:=List (Option CV)
section
variable (K:PySem.W.Frag) (F H:Hp) (ρ:Nat->Addr) (n:Nat)
def RelC:CV->V->Prop
 | .dat d,v=>Rep K F d v
 | .ref i,v=>i<n/\v=.ref (ρ i)
 | .fn a F0,v=>v=.ref a/\Same F0 F
def RelCs:List CV->List V->Prop
 | [],vs=>vs=[]
 | c::l,vs=>∃ v ws,vs=v::ws/\RelC K F ρ n c v/\RelCs l ws
noncomputable def CoOk (a:Addr):CO->Prop
 | .lst l=>∃ vs,H a=some (.lst vs)/\RelCs K F ρ n l vs
 | .tup l=>∃ vs,H a=some (.tup vs)/\RelCs K F ρ n l vs
 | .dK l=>∃ kvs,H a=some (.dK kvs)/\kvs.map (·.1)=l.map (·.1)/\RelCs K F ρ n (l.map (·.2)) (kvs.map (·.2))
 | .ins c ns l=>∃ C dx fs,t9 K c C/\H a=some (.ins C dx fs)/\fs.map (·.1)=ns/\RelCs K F ρ n l (fs.map (·.2))
 | .wk l=>∃ o kvs,H a=some (.frz o (.dK kvs))/\kvs.map (·.1)=l.map (·.1)/\RelCs K F ρ n (l.map (·.2)) (kvs.map (·.2))
 | .dT l=>∃ kvs,H a=some (.dT kvs)/\kvs.map (·.1)=l.map (·.1)/\RelCs K F ρ n (l.map (·.2)) (kvs.map (·.2))
 | .wt l=>∃ o kvs,H a=some (.frz o (.dT kvs))/\kvs.map (·.1)=l.map (·.1)/\RelCs K F ρ n (l.map (·.2)) (kvs.map (·.2))
end
section
variable {K:PySem.W.Frag} {F H F' H' F1 H1:Hp} {ρ ρ' ρ1:Nat->Addr} {n n':Nat} {c:CV} {v:V}
def RelC.mono (ff:Same F F') (he:∀ i,i<n->ρ' i=ρ i) (hn:n<=n') (h:RelC K F ρ n c v):RelC K F' ρ' n' c v:=by
 cases c with
 | dat d=>exact Rep.same ff h
 | ref i=>exact ⟨Nat.lt_of_lt_of_le h.1 hn,by rw [he i h.1];exact h.2⟩
 | fn a F0=>exact ⟨h.1,h.2.trans ff⟩
def RelCs.mono (ff:Same F F') (he:∀ i,i<n->ρ' i=ρ i) (hn:n<=n'):∀ {l:List CV} {vs:List V},RelCs K F ρ n l vs->RelCs K F' ρ' n' l vs
 | [],_,h=>h
 | c::l,vs,h=>by
  obtain ⟨v,ws,e,h1,h2⟩:=h
  exact ⟨v,ws,e,h1.mono ff he hn,RelCs.mono ff he hn h2⟩
def RelCs.length:∀ {l:List CV} {vs:List V},RelCs K F ρ n l vs->vs.length=l.length
 | [],_,h=>by rw [show _=[] from h];rfl
 | c::l,vs,h=>by
  obtain ⟨v,ws,rfl,h1,h2⟩:=h
  simp [RelCs.length h2]
def RelCs.get:∀ {l:List CV} {vs:List V} {i:Nat} {c:CV},RelCs K F ρ n l vs->l[i]?=some c->∃ v,vs[i]?=some v/\RelC K F ρ n c v
 | [],_,_,_,_,e=>by simp at e
 | c::l,vs,0,c',h,e=>by
  obtain ⟨v,ws,rfl,h1,h2⟩:=h
  simp at e
  subst e
  exact ⟨v,rfl,h1⟩
 | c::l,vs,i+1,c',h,e=>by
  obtain ⟨v,ws,rfl,h1,h2⟩:=h
  obtain ⟨u,q1,q2⟩:=RelCs.get (i:=i) h2 (by simpa using e)
  exact ⟨u,by simpa using q1,q2⟩
def RelCs.append:∀ {l m:List CV} {vs ws:List V},RelCs K F ρ n l vs->RelCs K F ρ n m ws->RelCs K F ρ n (l++m) (vs++ws)
 | [],m,vs,ws,h,h'=>by rw [show vs=[] from h];exact h'
 | x::l,m,vs,ws,h,h'=>by
  obtain ⟨u,us,rfl,h1,h2⟩:=h
  exact ⟨u,us++ws,rfl,h1,RelCs.append h2 h'⟩
def RelCs.one {c:CV} {v:V} (r:RelC K F ρ n c v):RelCs K F ρ n [c] [v]:=⟨v,[],rfl,r,rfl⟩
def RelCs.dats:∀ {l:List Dt} {vs:List V},Reps K F l vs->RelCs K F ρ n (l.map .dat) vs
 | [],vs,h=>by simp only [Reps] at h;exact h
 | d::l,vs,h=>by
  simp only [Reps] at h
  obtain ⟨v,ws,e,h1,h2⟩:=h
  exact ⟨v,ws,e,h1,RelCs.dats h2⟩
def CoOk.mono {a:Addr} {o:CO} (ff:Same F F') (he:∀ i,i<n->ρ' i=ρ i) (hn:n<=n') (ha:∀ u,H a=some u->H' a=some u) (h:CoOk K F H ρ n a o):CoOk K F' H' ρ' n' a o:=by
 cases o with
 | lst l=>obtain ⟨vs,h1,h2⟩:=h;exact ⟨vs,ha _ h1,h2.mono ff he hn⟩
 | tup l=>obtain ⟨vs,h1,h2⟩:=h;exact ⟨vs,ha _ h1,h2.mono ff he hn⟩
 | dK l=>obtain ⟨vs,h1,h2,h3⟩:=h;exact ⟨vs,ha _ h1,h2,h3.mono ff he hn⟩
 | ins c ns l=>obtain ⟨C,dx,fs,h0,h1,h2,h3⟩:=h;exact ⟨C,dx,fs,h0,ha _ h1,h2,h3.mono ff he hn⟩
 | wk l=>obtain ⟨o,vs,h1,h2,h3⟩:=h;exact ⟨o,vs,ha _ h1,h2,h3.mono ff he hn⟩
 | dT l=>obtain ⟨vs,h1,h2,h3⟩:=h;exact ⟨vs,ha _ h1,h2,h3.mono ff he hn⟩
 | wt l=>obtain ⟨o,vs,h1,h2,h3⟩:=h;exact ⟨o,vs,ha _ h1,h2,h3.mono ff he hn⟩
def CoOk.there {a:Addr} {o:CO} (h:CoOk K F H ρ n a o):∃ u,H a=some u:=by
 cases o with
 | lst l=>obtain ⟨vs,h1,h2⟩:=h;exact ⟨_,h1⟩
 | tup l=>obtain ⟨vs,h1,h2⟩:=h;exact ⟨_,h1⟩
 | dK l=>obtain ⟨vs,h1,h2⟩:=h;exact ⟨_,h1⟩
 | ins c ns l=>obtain ⟨C,dx,fs,h0,h1,h2⟩:=h;exact ⟨_,h1⟩
 | wk l=>obtain ⟨o,vs,h1,h2⟩:=h;exact ⟨_,h1⟩
 | dT l=>obtain ⟨vs,h1,h2⟩:=h;exact ⟨_,h1⟩
 | wt l=>obtain ⟨o,vs,h1,h2⟩:=h;exact ⟨_,h1⟩
end
structure Gh (K:PySem.W.Frag) (F H:Hp) (ρ:Nat->Addr) (ch:CH):Prop where
 fh:Same F H
 inj:∀ i j,i<ch.length->j<ch.length->ρ i=ρ j->i=j
 out:∀ i,i<ch.length->F (ρ i)=none∨∃ xs,F (ρ i)=some (.tup xs)
 ok:∀ i o,ch[i]?=some o->CoOk K F H ρ ch.length (ρ i) o
structure Adv (K:PySem.W.Frag) (F H:Hp) (ρ:Nat->Addr) (ch:CH) (F' H':Hp) (ρ':Nat->Addr) (ch':CH):Prop where
 gh:Gh K F' H' ρ' ch'
 len:ch.length<=ch'.length
 ext:∀ i,i<ch.length->ρ' i=ρ i
 fr:∀ i,ch.length<=i->i<ch'.length->H (ρ' i)=none
 prot:∀ b o,H b=some o->(∀ i,i<ch.length->ρ i≠b)->H' b=some o
 old:Same F F'
 nw:∀ b o,F' b=some o->F b=some o∨H b=none∨∃ xs,o=.tup xs
 fz:∀ b o u,H b=some (.frz o u)->H' b=some (.frz o u)
section
variable {K:PySem.W.Frag} {F H F' H' F1 H1:Hp} {ρ ρ' ρ1:Nat->Addr} {ch ch' ch1:CH} {c:CV} {v:V}
def Gh.at (g:Gh K F H ρ ch) {i:Nat} (hi:i<ch.length):∃ u,H (ρ i)=some u:=(g.ok i ch[i] (by simp [hi])).there
def Adv.refl (g:Gh K F H ρ ch):Adv K F H ρ ch F H ρ ch:=⟨g,nL _,fun _ _=>rfl,fun i h1 h2=>absurd h2 (Nat.not_lt.mpr h1),fun _ _ h _=>h,Same.refl _,fun _ _ h=>.inl h,fun _ _ _ h=>h⟩
def Adv.back (g:Gh K F H ρ ch) (a:Adv K F H ρ ch F1 H1 ρ1 ch1) {b:Addr} (h:H1 b=none):H b=none:=by
 cases q:H b with
 | none=>rfl
 | some o =>
  by_cases z:∃ i,i<ch.length/\ρ i=b
  · obtain ⟨i,hi,rfl⟩:=z
    obtain ⟨u,hu⟩:=a.gh.at (Nat.lt_of_lt_of_le hi a.len)
    rw [a.ext i hi,h] at hu
    cases hu
  · rw [a.prot b o q fun i hi e=>z ⟨i,hi,e⟩] at h
    cases h
def Adv.trans (g:Gh K F H ρ ch) (a:Adv K F H ρ ch F1 H1 ρ1 ch1) (b:Adv K F1 H1 ρ1 ch1 F' H' ρ' ch'):Adv K F H ρ ch F' H' ρ' ch' where
 gh:=b.gh
 len:=Nat.le_trans a.len b.len
 ext:=fun i hi=>(b.ext i (Nat.lt_of_lt_of_le hi a.len)).trans (a.ext i hi)
 fr:=fun i h1 h2=>by
  by_cases hi:i<ch1.length
  · rw [b.ext i hi]
    exact a.fr i h1 hi
  · exact a.back g (b.fr i (Nat.not_lt.mp hi) h2)
 prot:=fun x o h1 h2=>b.prot x o (a.prot x o h1 h2) fun i hi e=>by
  by_cases hj:i<ch.length
  · rw [a.ext i hj] at e
    exact h2 i hj e
  · have:=a.fr i (Nat.not_lt.mp hj) hi
    rw [e,h1] at this
    cases this
 old:=a.old.trans b.old
 nw:=fun x o h=>(b.nw x o h).elim (a.nw x o) fun z=>.inr (z.imp_left fun z=>a.back g z)
 fz:=fun x o u h=>b.fz x o u (a.fz x o u h)
def Gh.of (g:Gh K F H ρ ch) (st:Step F H F' H'):Gh K F' H' ρ ch:=by
 refine ⟨st.fh,g.inj,fun i hi=>?_,fun i o h=>(g.ok i o h).mono st.ff (fun _ _=>rfl) (nL _) fun u hu=>st.hh _ _ hu⟩
 cases q:F' (ρ i) with
 | none=>exact .inl rfl
 | some o =>
  rcases st.nw _ _ q with z | z
  · rcases g.out i hi with y | ⟨xs,y⟩
    · rw [y] at z;cases z
    · rw [y] at z;cases z;exact .inr ⟨xs,rfl⟩
  · obtain ⟨u,hu⟩:=g.at hi
    rw [hu] at z;cases z
def Adv.of (g:Gh K F H ρ ch) (st:Step F H F' H'):Adv K F H ρ ch F' H' ρ ch:=
 ⟨g.of st,nL _,fun _ _=>rfl,fun i h1 h2=>absurd h2 (Nat.not_lt.mpr h1),fun b o h _=>st.hh b o h,st.ff,fun b o h=>(st.nw b o h).imp_right .inl,fun b o u h=>st.hh b _ h⟩
def Adv.upd (g:Gh K F H ρ ch) {i:Nat} {o:CO} {u w:HO} (hi:i<ch.length) (hw:H (ρ i)=some w) (hz:∀ x y,w≠.frz x y) (ho:CoOk K F (upd H (ρ i) u) ρ ch.length (ρ i) o) (ht:∀ xs,w≠.tup xs:=by intro _ z;cases z):Adv K F H ρ ch F (upd H (ρ i) u) ρ (ch.set i o) where
 gh:=⟨fun b x e=>by
     have:b≠ρ i:=fun q=>by
      rw [q] at e
      rcases g.out i hi with y | ⟨xs,y⟩
      · rw [y] at e;cases e
      · have:=g.fh _ _ y
        rw [hw] at this
        exact ht xs (Option.some.inj this)
     rw [ax this]
     exact g.fh b x e,fun j k hj hk=>g.inj j k (by simpa using hj) (by simpa using hk),fun j hj=>g.out j (by simpa using hj),fun j x hx=>by
     rw [List.length_set]
     rw [List.getElem?_set] at hx
     split at hx
     · rename_i q
       subst q
       first
        | (split at hx<;>first | (cases hx;exact ho) | cases hx)
        | (cases hx;exact ho)
     · rename_i q
       refine (g.ok j x hx).mono (Same.refl _) (fun _ _=>rfl) (nL _) fun y hy=>?_
       have hj:j<ch.length:=(gX hx).1
       rw [ax fun e=>q (g.inj j i hj hi e).symm]
       exact hy⟩
 len:=by simp
 ext:=fun _ _=>rfl
 fr:=fun j h1 h2=>absurd h2 (by simpa using h1)
 prot:=fun b x h1 h2=>by
  rw [ax fun e=>h2 i hi e.symm]
  exact h1
 old:=Same.refl _
 nw:=fun b x h=>.inl h
 fz:=fun b x y h=>by
  rw [ax fun e=>by rw [e,hw] at h;exact hz x y (Option.some.inj h)]
  exact h
def Adv.new (g:Gh K F H ρ ch) (st:Step F H F' H') {a:Addr} {o:CO} (ha:H a=none) (hf:F' a=none) (ho:CoOk K F' H' (fun i=>if i=ch.length then a else ρ i) (ch.length+1) a o) :
  Adv K F H ρ ch F' H' (fun i=>if i=ch.length then a else ρ i) (ch++[o]):=by
 have g':=(Adv.of g st).gh
 have lt:∀ {i:Nat},i<ch.length->(if i=ch.length then a else ρ i)=ρ i:=fun {i} hi=>if_neg (Nat.ne_of_lt hi)
 have ne:∀ {i:Nat},i<ch.length->ρ i≠a:=fun {i} hi e=>by
  obtain ⟨u,hu⟩:=g.at hi
  rw [e,ha] at hu
  cases hu
 refine ⟨⟨st.fh,fun i j hi hj e=>?_,fun i hi=>?_,fun i x hx=>?_⟩,by simp,fun i hi=>lt hi,fun i h1 h2=>?_,fun b x h1 _=>st.hh b x h1,st.ff,fun b o h=>(st.nw b o h).imp_right .inl,fun b o u h=>st.hh b _ h⟩
 · simp only [List.length_append,List.length_cons,List.length_nil] at hi hj
   by_cases h1:i=ch.length<;>by_cases h2:j=ch.length
   · rw [h1,h2]
   · rw [if_pos h1,if_neg h2] at e
     exact absurd e.symm (ne (by omega))
   · rw [if_neg h1,if_pos h2] at e
     exact absurd e (ne (by omega))
   · rw [if_neg h1,if_neg h2] at e
     exact g.inj i j (by omega) (by omega) e
 · simp only [List.length_append,List.length_cons,List.length_nil] at hi
   (try dsimp only)
   by_cases h1:i=ch.length
   · rw [if_pos h1];exact .inl hf
   · rw [if_neg h1];exact g'.out i (by omega)
 · simp only [List.length_append,List.length_cons,List.length_nil]
   by_cases h1:i<ch.length
   · rw [List.getElem?_append_left h1] at hx
     (try dsimp only)
     rw [lt h1]
     exact (g'.ok i x hx).mono (Same.refl _) (fun j hj=>lt hj) (Nat.le_succ _) fun u hu=>hu
   · rw [gR (Nat.not_lt.mp h1)] at hx
     have h2:i=ch.length:=by
      have:=(gX hx).1
      simp at this
      omega
     subst h2
     simp at hx
     subst hx
     (try dsimp only)
     rw [if_pos rfl]
     exact ho
 · simp only [List.length_append,List.length_cons,List.length_nil] at h2
   have h3:i=ch.length:=by omega
   (try dsimp only)
   rw [if_pos h3]
   exact ha
end
structure Ge (K:PySem.W.Frag) (δ:Sl) (ch:CH) (σ:St) (F H:Hp) (ρ:Nat->Addr):Prop where
 gh:Gh K F H ρ ch
 len:δ.length=σ.length
 has:∀ (i:Nat) (c:CV),δ[i]?=some (some c)->∃ v,σ[i]?=some (some v)/\RelC K F ρ ch.length c v
def KG (K:PySem.W.Frag) (F H:Hp) (ρ:Nat->Addr) (ch:CH) (c:CV) (ch':CH) (Q:VK):Prop:=∀ v F' H' ρ',Adv K F H ρ ch F' H' ρ' ch'->RelC K F' ρ' ch'.length c v->Q v H'
abbrev Fg:=Sl->CH->Option (CV×CH)
def tG (K:PySem.W.Frag) (f:Fg):TE:=fun σ H Q=>∃ δ ch F ρ c ch',Ge K δ ch σ F H ρ/\f δ ch=some (c,ch')/\KG K F H ρ ch c ch' Q
def GE (X:Cx) (e:Expr) (f:Fg):Prop:=PE X e (tG X.K f)
def dats:List CV->Option (List Dt)
 | []=>some []
 | .dat d::l=>(dats l).map (d::·)
 | _=>none
def cQ {K:PySem.W.Frag} {F:Hp} {ρ:Nat->Addr} {n:Nat}:∀ {l:List CV} {ds:List Dt} {vs:List V},dats l=some ds->RelCs K F ρ n l vs->Reps K F ds vs
 | [],ds,vs,h,r=>by cases h;simp only [Reps];exact r
 | .dat d::l,ds,vs,h,r=>by
  simp only [dats] at h
  obtain ⟨es,he,rfl⟩:=mS h
  obtain ⟨v,ws,e,h1,h2⟩:=r
  simp only [Reps]
  exact ⟨v,ws,e,h1,cQ he h2⟩
 | .ref i::l,ds,vs,h,r=>by cases h
 | .fn a F0::l,ds,vs,h,r=>by cases h
def tvO:CO->Option T
 | .lst l=>(dats l).map .lst
 | .dK l=>(dats (l.map (·.2))).map fun ds=>.dct ((l.map (·.1)).zip ds)
 | _=>none
noncomputable def loA (ch:CH):List Nat->Sl->De
 | _,[]=>[]
 | u,none::r=>none::loA ch u r
 | u,some (.dat d)::r=>some (.leaf d)::loA ch u r
 | u,some (.ref i)::r=>(if i∈u then none else (ch[i]?).bind tvO)::loA ch (i::u) r
 | u,some (.fn _ _)::r=>none::loA ch u r
def lo (δ:Sl) (ch:CH):De:=loA ch [] δ
section
variable {K:PySem.W.Frag} {F H F' H' F1 H1:Hp} {ρ ρ' ρ1:Nat->Addr} {δ:Sl} {σ:St} {ch ch' ch1 ch2:CH} {c:CV} {v:V} {Q:VK}
def Ge.adv (e:Ge K δ ch σ F H ρ) (a:Adv K F H ρ ch F' H' ρ' ch'):Ge K δ ch' σ F' H' ρ':=⟨a.gh,e.len,fun i c h=>by
 obtain ⟨v,h1,h2⟩:=e.has i c h
 exact ⟨v,h1,h2.mono a.old a.ext a.len⟩⟩
def KG.adv (k:KG K F H ρ ch c ch' Q) (g:Gh K F H ρ ch) (a:Adv K F H ρ ch F1 H1 ρ1 ch1):KG K F1 H1 ρ1 ch1 c ch' Q:=fun v F' H' ρ' b r=>k v F' H' ρ' (a.trans g b) r
def gk (ch:CH):∀ (u:List Nat) (δ:Sl),(loA ch u δ).length=δ.length
 | _,[]=>rfl
 | u,none::r=>by simp [loA,gk ch u r]
 | u,some (.dat d)::r=>by simp [loA,gk ch u r]
 | u,some (.ref i)::r=>by simp [loA,gk ch (i::u) r]
 | u,some (.fn _ _)::r=>by simp [loA,gk ch u r]
def gl {ch:CH}:∀ {u:List Nat} {δ:Sl} {j:Nat} {t:T},(loA ch u δ)[j]?=some (some t)->(∃ d,t=.leaf d/\δ[j]?=some (some (.dat d)))∨∃ i o,δ[j]?=some (some (.ref i))/\ch[i]?=some o/\tvO o=some t/\i∉u/\∀ m,m<j->δ[m]?≠some (some (.ref i))
 | _,[],j,t,h=>by simp [loA] at h
 | u,none::r,0,t,h=>by simp [loA] at h
 | u,none::r,j+1,t,h=>by
  rcases gl (u:=u) (δ:=r) (j:=j) (t:=t) (by simpa [loA] using h) with ⟨d,e,q⟩ | ⟨i,o,q1,q2,q3,q4,q5⟩
  · exact .inl ⟨d,e,by simpa using q⟩
  · refine .inr ⟨i,o,by simpa using q1,q2,q3,q4,fun m hm=>?_⟩
    cases m with
    | zero=>simp
    | succ m=>simpa using q5 m (by omega)
 | u,some (.dat d)::r,0,t,h=>by
  simp [loA] at h
  exact .inl ⟨d,h.symm,rfl⟩
 | u,some (.dat d)::r,j+1,t,h=>by
  rcases gl (u:=u) (δ:=r) (j:=j) (t:=t) (by simpa [loA] using h) with ⟨d',e,q⟩ | ⟨i,o,q1,q2,q3,q4,q5⟩
  · exact .inl ⟨d',e,by simpa using q⟩
  · refine .inr ⟨i,o,by simpa using q1,q2,q3,q4,fun m hm=>?_⟩
    cases m with
    | zero=>simp
    | succ m=>simpa using q5 m (by omega)
 | u,some (.fn _ _)::r,0,t,h=>by simp [loA] at h
 | u,some (.fn _ _)::r,j+1,t,h=>by
  rcases gl (u:=u) (δ:=r) (j:=j) (t:=t) (by simpa [loA] using h) with ⟨d',e,q⟩ | ⟨i,o,q1,q2,q3,q4,q5⟩
  · exact .inl ⟨d',e,by simpa using q⟩
  · refine .inr ⟨i,o,by simpa using q1,q2,q3,q4,fun m hm=>?_⟩
    cases m with
    | zero=>simp
    | succ m=>simpa using q5 m (by omega)
 | u,some (.ref i)::r,0,t,h=>by
  simp only [loA,List.getElem?_cons_zero,Option.some.injEq] at h
  split at h
  · cases h
  · rename_i hi
    obtain ⟨o,ho,h⟩:=bS h
    exact .inr ⟨i,o,rfl,ho,h,hi,fun m hm=>absurd hm (Nat.not_lt_zero _)⟩
 | u,some (.ref i)::r,j+1,t,h=>by
  rcases gl (u:=i::u) (δ:=r) (j:=j) (t:=t) (by simpa [loA] using h) with ⟨d,e,q⟩ | ⟨i',o,q1,q2,q3,q4,q5⟩
  · exact .inl ⟨d,e,by simpa using q⟩
  · simp only [List.mem_cons,not_or] at q4
    refine .inr ⟨i',o,by simpa using q1,q2,q3,q4.2,fun m hm=>?_⟩
    cases m with
    | zero =>
     simp only [List.getElem?_cons_zero,ne_eq,Option.some.injEq,CV.ref.injEq]
     exact fun z=>q4.1 z.symm
    | succ m=>simpa using q5 m (by omega)
def qP {α β:Type}:∀ {l:List α} {m:List β},l.length=m.length->(l.zip m).map (·.1)=l/\(l.zip m).map (·.2)=m
 | [],[],_=>⟨rfl,rfl⟩
 | [],_::_,h=>by cases h
 | _::_,[],h=>by cases h
 | a::l,b::m,h=>by
  obtain ⟨h1,h2⟩:=qP (l:=l) (m:=m) (by simpa using h)
  simp [h1,h2]
def wI {o:CO} {t:T} {n:Nat} {a:Addr} {S:Addr->Prop} (h:tvO o=some t) (ok:CoOk K F H ρ n a o) (hs:S a):Own K F H t (.ref a) S:=by
 cases o with
 | lst l =>
  obtain ⟨ds,hd,rfl⟩:=mS h
  obtain ⟨vs,h1,h2⟩:=ok
  exact ⟨a,vs,rfl,hs,h1,cQ hd h2⟩
 | dK l =>
  obtain ⟨ds,hd,rfl⟩:=mS h
  obtain ⟨vs,h1,h2,h3⟩:=ok
  have r:=cQ hd h3
  have e:(l.map (·.1)).length=ds.length:=by
   have e1:=congrArg List.length h2
   have e2:=r.length
   simp only [List.length_map] at e1 e2 ⊢
   omega
  obtain ⟨z1,z2⟩:=qP e
  exact ⟨a,vs,rfl,hs,h1,by rw [z1];exact h2,by rw [z2];exact r⟩
 | tup l=>cases h
 | ins c ns l=>cases h
 | wk l=>cases h
 | dT l=>cases h
 | wt l=>cases h
def Gh.outO (g:Gh K F H ρ ch) {i:Nat} {o:CO} (h:ch[i]?=some o) (ht:tvO o≠none):F (ρ i)=none:=by
 rcases g.out i (gX h).1 with y | ⟨xs,y⟩
 · exact y
 · have z:=g.fh _ _ y
   cases o with
   | lst l=>obtain ⟨vs,h1,_⟩:=g.ok i _ h;rw [h1] at z;cases z
   | dK l=>obtain ⟨vs,h1,_⟩:=g.ok i _ h;rw [h1] at z;cases z
   | tup l=>exact absurd rfl ht
   | ins c ns l=>exact absurd rfl ht
   | wk l=>exact absurd rfl ht
   | dT l=>exact absurd rfl ht
   | wt l=>exact absurd rfl ht
def Ge.en (e:Ge K δ ch σ F H ρ):En ⟨K,F,H,fun b=>∃ i,i<ch.length/\ρ i=b⟩ (lo δ ch) σ F H:=by
 refine ⟨e.gh.fh,fun b o h _=>h,Same.refl _,fun b o h=>.inl h,by simp [lo,gk,e.len],fun j t h=>?_,fun j b=>∃ i o,δ[j]?=some (some (.ref i))/\ch[i]?=some o/\ρ i=b/\tvO o≠none/\∀ m,m<j->δ[m]?≠some (some (.ref i)),fun j t v h=>?_,fun j b z=>?_,fun j k b z1 z2=>?_⟩
 · rcases gl h with ⟨d,_,q⟩ | ⟨i,o,q,_⟩
   · obtain ⟨v,hv,_⟩:=e.has j _ q
     exact ⟨v,hv⟩
   · obtain ⟨v,hv,_⟩:=e.has j _ q
     exact ⟨v,hv⟩
 · obtain ⟨h1,h2⟩:=ej h
   rcases gl h1 with ⟨d,rfl,q⟩ | ⟨i,o,q1,q2,q3,q4,q5⟩
   · obtain ⟨w,hw,r⟩:=e.has j _ q
     rw [h2] at hw
     cases hw
     exact r
   · obtain ⟨w,hw,r⟩:=e.has j _ q1
     rw [h2] at hw
     cases hw
     obtain ⟨hi,rfl⟩:=r
     exact wI q3 (e.gh.ok i o q2) ⟨i,o,q1,q2,rfl,by rw [q3];simp,q5⟩
 · obtain ⟨i,o,q1,q2,rfl,qt,q3⟩:=z
   have hi:i<ch.length:=(gX q2).1
   exact ⟨e.gh.outO q2 qt,e.gh.at hi,.inr ⟨i,hi,rfl⟩⟩
 · obtain ⟨i,o,q1,q2,e1,qt,q3⟩:=z1
   obtain ⟨i',o',q1',q2',e2,qt',q3'⟩:=z2
   have hi:i<ch.length:=(gX q2).1
   have hi':i'<ch.length:=(gX q2').1
   have:=e.gh.inj i i' hi hi' (e1.trans e2.symm)
   subst this
   by_cases h1:j<k
   · exact absurd q1 (q3' j h1)
   · by_cases h2:k<j
     · exact absurd q1' (q3 k h2)
     · exact Nat.le_antisymm (Nat.not_lt.mp h2) (Nat.not_lt.mp h1)
end
section
variable {X:Cx} {e a b o:Expr} {f fa fb:Fg} {fd:De->Option Dt} {ft:De->Option T} {pos:Pos} {i:Nat}
def eD (fd:De->Option Dt):Fg:=fun δ ch=>(fd (lo δ ch)).map fun d=>(.dat d,ch)
def aE (h:DL X e fd):GE X e (eD fd):=PE.mono h fun σ H Q ⟨δ,ch,F,ρ,c,ch',en,hf,k⟩=>by
 unfold eD at hf
 obtain ⟨d,hd,hf⟩:=mS hf
 cases hf
 exact ⟨_,_,F,d,rfl,en.en,hd,fun v H' F' st r=>k v F' H' ρ (Adv.of en.gh st) r⟩
def al (ch:CH):T->Option (CV×CH)
 | .leaf d=>some (.dat d,ch)
 | .lst l=>some (.ref ch.length,ch++[.lst (l.map .dat)])
 | .dct l=>some (.ref ch.length,ch++[.dK (l.map fun p=>(p.1,.dat p.2))])
 | _=>none
def ll {K:PySem.W.Frag} {F H:Hp} {ρ:Nat->Addr} {ch ch':CH} {c:CV} {t:T} {Q:VK} (g:Gh K F H ρ ch) (h:al ch t=some (c,ch')) (k:KG K F H ρ ch c ch' Q):KO K F H t Q:=fun v H' F' S st o hs=>by
 cases t with
 | leaf d =>
  cases h
  exact k v F' H' ρ (Adv.of g st) o
 | lst l =>
  cases h
  obtain ⟨x,vs,rfl,sa,h1,h2⟩:=o
  obtain ⟨q1,q2,_⟩:=hs x sa
  refine k _ F' H' _ (Adv.new g st q2 q1 ⟨vs,h1,RelCs.dats h2⟩) ⟨by simp,?_⟩
  dsimp only
  rw [if_pos rfl]
 | dct l =>
  cases h
  obtain ⟨x,vs,rfl,sa,h1,h2,h3⟩:=o
  obtain ⟨q1,q2,_⟩:=hs x sa
  refine k _ F' H' _ (Adv.new g st q2 q1 ⟨vs,h1,by rw [h2];simp,?_⟩) ⟨by simp,?_⟩
  · have:=RelCs.dats (ρ:=fun i=>if i=ch.length then x else ρ i) (n:=ch.length+1) h3
    rw [List.map_map] at this
    rw [List.map_map]
    exact this
  · dsimp only
    rw [if_pos rfl]
 | dcT l=>cases h
 | obj c ns l=>cases h
 | pin a t=>cases h
def eN (ft:De->Option T):Fg:=fun δ ch=>(ft (lo δ ch)).bind (al ch)
def uv (h:DO X e ft):GE X e (eN ft):=PE.mono h fun σ H Q ⟨δ,ch,F,ρ,c,ch',en,hf,k⟩=>by
 unfold eN at hf
 obtain ⟨t,ht,hf⟩:=bS hf
 exact ⟨_,_,F,t,rfl,en.en,ht,ll en.gh hf k⟩
def eV (i:Nat):Fg:=fun δ ch=>match δ[i]? with
 | some (some c)=>some (c,ch)
 | _=>none
def bQ (h:PE X e (jh i)):GE X e (eV i):=PE.mono h fun σ H Q ⟨δ,ch,F,ρ,c,ch',en,hf,k⟩=>by
 unfold eV at hf
 split at hf<;>cases hf
 rename_i c q
 obtain ⟨v,h1,h2⟩:=en.has i _ q
 exact ⟨v,h1,k v F H ρ (Adv.refl en.gh) h2⟩
end
def vwO:CO->Option Dt
 | .lst l=>(dats l).map .lst
 | .dK l=>(dats (l.map (·.2))).map (.dct (l.map (·.1)))
 | .wk l=>(dats (l.map (·.2))).map (.dct (l.map (·.1)))
 | _=>none
def vw (ch:CH):CV->Option Dt
 | .dat d=>some d
 | .ref i=>(ch[i]?).bind vwO
 | .fn _ _=>none
section
variable {K:PySem.W.Frag} {F H F' H' F1 H1:Hp} {ρ ρ' ρ1:Nat->Addr} {n:Nat} {δ:Sl} {σ:St} {ch ch' ch1 ch2:CH} {c:CV} {v:V} {Q:VK} {d:Dt}
def gm (g:Gh K F H ρ ch) (r:RelC K F ρ ch.length c v) (h:vw ch c=some d):RepB K F H d v:=by
 cases c with
 | dat e=>cases h;exact RepB.of g.fh r
 | fn a F0=>cases h
 | ref i =>
  obtain ⟨hi,rfl⟩:=r
  simp only [vw] at h
  obtain ⟨o,ho,h⟩:=bS h
  have ok:=g.ok i o ho
  cases o with
  | lst l =>
   obtain ⟨ds,hd,rfl⟩:=mS h
   obtain ⟨vs,h1,h2⟩:=ok
   exact ⟨_,vs,rfl,SqL.of h1,cQ hd h2⟩
  | dK l =>
   obtain ⟨ds,hd,rfl⟩:=mS h
   obtain ⟨vs,h1,h2,h3⟩:=ok
   exact ⟨_,vs,rfl,.inl h1,h2,cQ hd h3⟩
  | wk l =>
   obtain ⟨ds,hd,rfl⟩:=mS h
   obtain ⟨o,vs,h1,h2,h3⟩:=ok
   exact ⟨_,vs,rfl,.inr ⟨o,h1⟩,h2,cQ hd h3⟩
  | tup l=>cases h
  | ins c ns l=>cases h
  | dT l=>cases h
  | wt l=>cases h
end
section
variable {X:Cx} {e a b o:Expr} {es:List Expr} {f fa fb fc:Fg} {fd:De->Option Dt} {ft:De->Option T} {pos apos cpos p:Pos} {i:Nat} {σ:St} {H:Hp} {Q:VK} {K:PySem.W.Frag}
def e2 (g:Dt->Dt->Option T) (fa fb:Fg):Fg:=fun δ ch=>(fa δ ch).bind fun p=>(fb δ p.2).bind fun q=>(vw q.2 p.1).bind fun x=>(vw q.2 q.1).bind fun y=>(g x y).bind (al q.2)
def BA {r:R2} {g:Dt->Dt->Option T} (hr:R2D K r g) (h:tG K (e2 g fa fb) σ H Q):tOp r (tG K fa) (tG K fb) σ H Q:=by
 obtain ⟨δ,ch,F,ρ,c,ch',en,hf,k⟩:=h
 unfold e2 at hf
 obtain ⟨p,hp,hf⟩:=bS hf
 obtain ⟨q,hq,hf⟩:=bS hf
 obtain ⟨x,hx,hf⟩:=bS hf
 obtain ⟨y,hy,hf⟩:=bS hf
 obtain ⟨t,ht,hf⟩:=bS hf
 refine ⟨δ,ch,F,ρ,p.1,p.2,en,hp,fun v F1 H1 ρ1 a1 r1=>⟨δ,p.2,F1,ρ1,q.1,q.2,en.adv a1,hq,fun w F2 H2 ρ2 a2 r2=>?_⟩⟩
 exact hr F2 H2 x y v w Q t a2.gh.fh (gm a2.gh (r1.mono a2.old a2.ext a2.len) hx) (gm a2.gh r2 hy) ht (ll a2.gh hf (k.adv en.gh (a1.trans en.gh a2)))
abbrev Ft:=Sl->CH->Option (Bool×CH)
def tGT (K:PySem.W.Frag) (f:Ft):TT:=fun σ H Q=>∃ δ ch F ρ b ch',Ge K δ ch σ F H ρ/\f δ ch=some (b,ch')/\∀ F' H' ρ',Adv K F H ρ ch F' H' ρ' ch'->Q b H'
def GT (X:Cx) (e:Expr) (f:Ft):Prop:=PT X e (tGT X.K f)
def tD (ft:De->Option Bool):Ft:=fun δ ch=>(ft (lo δ ch)).map fun b=>(b,ch)
def px {ft:De->Option Bool} (h:DT X e ft):GT X e (tD ft):=PT.mono h fun σ H Q ⟨δ,ch,F,ρ,b,ch',en,hf,k⟩=>by
 unfold tD at hf
 obtain ⟨x,hx,hf⟩:=mS hf
 cases hf
 exact ⟨_,_,F,_,rfl,en.en,hx,fun H' F' st=>k F' H' ρ (Adv.of en.gh st)⟩
def iR (f:Fg):Ft:=fun δ ch=>(f δ ch).bind fun p=>match p.1 with
 | .dat (.bl b)=>some (b,p.2)
 | _=>none
def wJ {f:Fg} {Q:Bool->Hp->Prop} (h:tGT K (iR f) σ H Q):tG K f σ H fun x H'=>∃ k,x=.bl k/\Q k H':=by
 obtain ⟨δ,ch,F,ρ,b,ch',en,hf,k⟩:=h
 unfold iR at hf
 obtain ⟨p,hp,hf⟩:=bS hf
 obtain ⟨c,ch1⟩:=p
 dsimp only at hf
 split at hf<;>cases hf
 refine ⟨δ,ch,F,ρ,_,_,en,hp,fun v F' H' ρ' a r=>⟨b,?_,k F' H' ρ' a⟩⟩
 have r:Rep K F' (.bl b) v:=r
 simp only [Rep] at r
 exact r
def pz {op:CmpOp} {r:R2} {g:Dt->Dt->Option T} (ho:OpR X (compareOp op) r) (hr:R2D X.K r g) (ha:GE X a fa) (hb:GE X b fb) (hm:behindInMarks op b=false):GT X (.Compare a [op] [b] pos) (iR (e2 g fa fb)):=
 PT.mono (jr ho ha hb hm) fun _ _ _ h=>BA hr (wJ h)
def lkC {κ:Type} [DecidableEq κ] (l:List (κ×CV)) (k:κ):Option CV:=(l.find? fun p=>decide (p.1=k)).map (·.2)
def iw {κ:Type} [DecidableEq κ] {F:Hp} {ρ:Nat->Addr} {n:Nat} {k:κ}:∀ {l:List (κ×CV)} {kvs:List (κ×V)},kvs.map (·.1)=l.map (·.1)->RelCs K F ρ n (l.map (·.2)) (kvs.map (·.2))→
  match lkC l k with | some c=>∃ v,eU kvs k=some v/\RelC K F ρ n c v | none=>eU kvs k=none
 | [],[],_,_=>rfl
 | [],p::kvs,h,_=>by cases h
 | p::l,[],h,_=>by cases h
 | p::l,q::kvs,h,r=>by
  simp only [List.map_cons,List.cons.injEq] at h
  obtain ⟨v,ws,e,r1,r2⟩:=r
  simp only [List.map_cons,List.cons.injEq] at e
  obtain ⟨rfl,rfl⟩:=e
  have ih:=iw (k:=k) h.2 r2
  by_cases hk:p.1=k
  · have e1:lkC (p::l) k=some p.2:=by simp [lkC,hk]
    rw [e1]
    exact ⟨q.2,fJ (h.1.trans hk),r1⟩
  · have e1:lkC (p::l) k=lkC l k:=by simp [lkC,hk]
    rw [e1,ee (by rw [h.1];exact hk)]
    exact ih
def ixO (o:CO) (d:Dt):Option CV:=match o with
 | .lst l=>(asI d).bind (atI l)
 | .tup l=>(asI d).bind (atI l)
 | .dK l=>(jm d).bind (lkC l)
 | .wk l=>(jm d).bind (lkC l)
 | _=>none
def qQ {F:Hp} {d:Dt} {v:V} {j:Int} (h:asI d=some j) (r:Rep K F d v):v=.int j:=by
 unfold asI at h
 split at h<;>cases h
 simp only [Rep] at r
 exact r
def nE {F:Hp} {d:Dt} {v:V} {j:Key} (h:jm d=some j) (r:Rep K F d v):v=kV j:=by
 unfold jm at h
 split at h<;>cases h<;>(simp only [Rep] at r;exact r)
def qR {F:Hp} {ρ:Nat->Addr} {n:Nat} {l:List CV} {vs:List V} {j:Int} {c:CV} (r:RelCs K F ρ n l vs) (h:atI l j=some c):∃ v,atI vs j=some v/\RelC K F ρ n c v:=by
 unfold atI at h ⊢
 obtain ⟨m,hm,h⟩:=bS h
 obtain ⟨v,h1,h2⟩:=r.get h
 exact ⟨v,by rw [r.length,hm];exact h1,h2⟩
def eIx (fa fb:Fg):Fg:=fun δ ch=>(fa δ ch).bind fun p=>(fb δ p.2).bind fun q=>match p.1,q.1 with
 | .ref i,.dat d=>((q.2[i]?).bind fun o=>ixO o d).map fun c=>(c,q.2)
 | .dat x,.dat d=>(gIx x d).bind (al q.2)
 | _,_=>none
def BB {k:Nat} (hr:Room k X.A) (ha:GE X a fa) (hb:GE X b fb) (hs:lR b:=by exact fun _ _=>rfl) (hn:tQ b:=by exact fun _ _=>rfl):GE X (.Subscript a b pos) (eIx fa fb):=
 PE.mono (PE.or (xW tM ha hb hs) (lV (jG hr) ha hb hn)) fun σ H Q ⟨δ,ch,F,ρ,c,ch',en,hf,kk⟩=>by
  unfold eIx at hf
  obtain ⟨⟨c1,ch1⟩,hp,hf⟩:=bS hf
  obtain ⟨⟨c2,ch2⟩,hq,hf⟩:=bS hf
  dsimp only at hq hf
  split at hf<;>first | (cases hf;done) | skip
  rotate_left
  · rename_i x d hz
    obtain ⟨t,ht,hf⟩:=bS hf
    left
    refine ⟨δ,ch,F,ρ,_,ch1,en,hp,fun v F1 H1 ρ1 a1 r1=>⟨δ,ch1,F1,ρ1,_,_,en.adv a1,hq,fun w F2 H2 ρ2 a2 r2=>?_⟩⟩
    exact r_ix F2 H2 x d v w Q t a2.gh.fh (gm (c:=.dat x) a2.gh (r1.mono a2.old a2.ext a2.len) rfl) (gm (c:=.dat d) a2.gh r2 rfl) ht (ll a2.gh hf (kk.adv en.gh (a1.trans en.gh a2)))
  rename_i i d hz
  obtain ⟨c',hc,hf⟩:=mS hf
  cases hf
  obtain ⟨o,ho,hc⟩:=bS hc
  cases o with
  | lst l =>
   obtain ⟨j,hj,hc⟩:=bS hc
   left
   refine ⟨δ,ch,F,ρ,_,ch1,en,hp,fun v F1 H1 ρ1 a1 r1=>⟨δ,ch1,F1,ρ1,_,_,en.adv a1,hq,fun w F2 H2 ρ2 a2 r2=>?_⟩⟩
   obtain ⟨vs,h1,h2⟩:=a2.gh.ok i _ ho
   obtain ⟨u,hu,ru⟩:=qR h2 hc
   exact .inl ⟨_,vs,j,u,(r1.mono a2.old a2.ext a2.len).2,qQ hj r2,SqL.of h1,hu,kk u F2 H2 ρ2 (a1.trans en.gh a2) ru⟩
  | tup l =>
   obtain ⟨j,hj,hc⟩:=bS hc
   left
   refine ⟨δ,ch,F,ρ,_,ch1,en,hp,fun v F1 H1 ρ1 a1 r1=>⟨δ,ch1,F1,ρ1,_,_,en.adv a1,hq,fun w F2 H2 ρ2 a2 r2=>?_⟩⟩
   obtain ⟨vs,h1,h2⟩:=a2.gh.ok i _ ho
   obtain ⟨u,hu,ru⟩:=qR h2 hc
   exact .inr (.inl ⟨_,vs,j,u,(r1.mono a2.old a2.ext a2.len).2,qQ hj r2,SqT.of h1,hu,kk u F2 H2 ρ2 (a1.trans en.gh a2) ru⟩)
  | dK l =>
   obtain ⟨j,hj,hc⟩:=bS hc
   right
   refine ⟨δ,ch,F,ρ,_,ch1,en,hp,fun v F1 H1 ρ1 a1 r1=>⟨δ,ch1,F1,ρ1,_,_,en.adv a1,hq,fun w F2 H2 ρ2 a2 r2=>?_⟩⟩
   obtain ⟨kvs,h1,h2,h3⟩:=a2.gh.ok i _ ho
   have lk:=iw (k:=j) h2 h3
   rw [hc] at lk
   obtain ⟨u,hu,ru⟩:=lk
   refine ⟨_,u,(r1.mono a2.old a2.ext a2.len).2,?_,kk u F2 H2 ρ2 (a1.trans en.gh a2) ru⟩
   rw [nE hj r2,<- hu]
   exact DGet.k h1
  | wk l =>
   obtain ⟨j,hj,hc⟩:=bS hc
   right
   refine ⟨δ,ch,F,ρ,_,ch1,en,hp,fun v F1 H1 ρ1 a1 r1=>⟨δ,ch1,F1,ρ1,_,_,en.adv a1,hq,fun w F2 H2 ρ2 a2 r2=>?_⟩⟩
   obtain ⟨o,kvs,h1,h2,h3⟩:=a2.gh.ok i _ ho
   have lk:=iw (k:=j) h2 h3
   rw [hc] at lk
   obtain ⟨u,hu,ru⟩:=lk
   refine ⟨_,u,(r1.mono a2.old a2.ext a2.len).2,?_,kk u F2 H2 ρ2 (a1.trans en.gh a2) ru⟩
   rw [nE hj r2,<- hu]
   exact .inl ⟨kvs,j,.inr ⟨o,h1⟩,rfl,rfl⟩
  | ins c ns l=>cases hc
  | dT l=>cases hc
  | wt l=>cases hc
abbrev Fgs:=Sl->CH->Option (List CV×CH)
def tGs (K:PySem.W.Frag) (f:Fgs):TA:=fun σ H Q=>∃ δ ch F ρ cs ch',Ge K δ ch σ F H ρ/\f δ ch=some (cs,ch')/\∀ vs F' H' ρ',Adv K F H ρ ch F' H' ρ' ch'->RelCs K F' ρ' ch'.length cs vs->Q vs H'
def GA (X:Cx) (es:List Expr) (f:Fgs):Prop:=PA X es (tGs X.K f)
def bV:Fgs:=fun _ ch=>some ([],ch)
def ay (f:Fg) (fs:Fgs):Fgs:=fun δ ch=>(f δ ch).bind fun p=>(fs δ p.2).map fun q=>(p.1::q.1,q.2)
def fR:GA X [] bV:=PA.mono dS fun σ H Q ⟨δ,ch,F,ρ,cs,ch',en,hf,k⟩=>by
 cases hf
 exact k [] F H ρ (Adv.refl en.gh) rfl
def bf {fs:Fgs} (h:GE X e f) (hr:GA X es fs) (hs:starEach (e::es) X.env=(false,eval e X.env)::starEach es X.env:=by rfl):GA X (e::es) (ay f fs):=PA.mono (bY h hr hs) fun σ H Q ⟨δ,ch,F,ρ,cs,ch',en,hf,k⟩=>by
 unfold ay at hf
 obtain ⟨p,hp,hf⟩:=bS hf
 obtain ⟨q,hq,hf⟩:=mS hf
 cases hf
 exact ⟨δ,ch,F,ρ,p.1,p.2,en,hp,fun v F1 H1 ρ1 a1 r1=>⟨δ,p.2,F1,ρ1,q.1,q.2,en.adv a1,hq,fun ws F2 H2 ρ2 a2 r2=>k (v::ws) F2 H2 ρ2 (a1.trans en.gh a2) ⟨v,ws,rfl,r1.mono a2.old a2.ext a2.len,r2⟩⟩⟩
def pB {F H:Hp} {ρ:Nat->Addr} {ch:CH} {o:CO} {u:HO} {a:Addr} (g:Gh K F H ρ ch) (ha:H a=none) (ho:CoOk K F (upd H a u) ρ ch.length a o):Adv K F H ρ ch F (upd H a u) (fun i=>if i=ch.length then a else ρ i) (ch++[o]):=
 Adv.new g (Step.made g.fh ha) ha (g.fh.free ha) (ho.mono (Same.refl _) (fun i hi=>if_neg (Nat.ne_of_lt hi)) (Nat.le_succ _) fun _ h=>h)
abbrev Fd:=List CV->CH->Option (CV×CH)
def spG (K:PySem.W.Frag) (n:Nat) (f:Fd):Sp:=fun vs H Q _=>∃ F ρ cs ch c ch',Gh K F H ρ ch/\cs.length=n/\RelCs K F ρ ch.length cs vs/\f cs ch=some (c,ch')/\KG K F H ρ ch c ch' Q
def eC (g:Fd) (fs:Fgs):Fg:=fun δ ch=>(fs δ ch).bind fun p=>g p.1 p.2
def md {sc:Scope} {x:Str} {k n:Nat} {ps:List Str} {g:Fd} {fs:Fgs} (h:aF sc x=true) (F:OkF X.prog X.w X.K X.mg X.base x k ps (spG X.K n g)) (hr:Room k X.A) (ha:GA X (e::es) fs) (hn:∀ δ ch p,fs δ ch=some p->p.1.length=n) (e1:bK X sc:=by rfl)
  (he:starEach (e::es) X.env=(false,eval e X.env)::starEach es X.env:=by rfl) (hpl:(backTo cpos (starEach es X.env)).any (·.1)=false:=by rfl):GE X (.Call (.Name x p) (e::es) [] cpos) (eC g fs):=
 PE.mono (iM h F hr ha e1 he hpl) fun σ H Q ⟨δ,ch,F,ρ,c,ch',en,hf,k⟩=>by
  unfold eC at hf
  obtain ⟨p,hp,hf⟩:=bS hf
  refine ⟨δ,ch,F,ρ,p.1,p.2,en,hp,fun vs F1 H1 ρ1 a1 r1=>?_⟩
  show spG X.K n g (vs++[]) H1 Q E0
  rw [List.append_nil]
  exact ⟨F1,ρ1,p.1,p.2,c,ch',a1.gh,hn δ ch p hp,r1,hf,k.adv en.gh a1⟩
end
inductive Og where
 | nx (δ:Sl) (ch:CH) | rt (c:CV) (ch:CH) | bk (δ:Sl) (ch:CH) | ct (δ:Sl) (ch:CH)
noncomputable def PostG (K:PySem.W.Frag) (F H:Hp) (ρ:Nat->Addr) (ch:CH) (D:Ends):Og->Prop
 | .nx δ' ch'=>∀ σ' F' H' ρ',Adv K F H ρ ch F' H' ρ' ch'->Ge K δ' ch' σ' F' H' ρ'->D.nx σ' H'
 | .rt c ch'=>∀ v F' H' ρ',Adv K F H ρ ch F' H' ρ' ch'->RelC K F' ρ' ch'.length c v->D.rt v H'
 | .bk δ' ch'=>∀ σ' F' H' ρ',Adv K F H ρ ch F' H' ρ' ch'->Ge K δ' ch' σ' F' H' ρ'->D.bk σ' H'
 | .ct δ' ch'=>∀ σ' F' H' ρ',Adv K F H ρ ch F' H' ρ' ch'->Ge K δ' ch' σ' F' H' ρ'->D.ct σ' H'
abbrev Fs:=Sl->CH->Option Og
def tGS (K:PySem.W.Frag) (g:Fs):TS:=fun D σ H=>∃ δ ch F ρ o,Ge K δ ch σ F H ρ/\g δ ch=some o/\PostG K F H ρ ch D o
def GS1 (X:Cx) (st:Stmt) (g:Fs):Prop:=PS X st (tGS X.K g)
def GS (X:Cx) (ss:List Stmt) (g:Fs):Prop:=PSs X ss (tGS X.K g)
section
variable {K:PySem.W.Frag} {F H F' H' F1 H1:Hp} {ρ ρ' ρ1:Nat->Addr} {ch ch' ch1:CH} {D:Ends} {o:Og}
def PostG.adv (k:PostG K F H ρ ch D o) (g:Gh K F H ρ ch) (a:Adv K F H ρ ch F1 H1 ρ1 ch1):PostG K F1 H1 ρ1 ch1 D o:=by
 cases o with
 | nx δ' c'=>exact fun σ' F' H' ρ' b e=>k σ' F' H' ρ' (a.trans g b) e
 | rt c c'=>exact fun v F' H' ρ' b e=>k v F' H' ρ' (a.trans g b) e
 | bk δ' c'=>exact fun σ' F' H' ρ' b e=>k σ' F' H' ρ' (a.trans g b) e
 | ct δ' c'=>exact fun σ' F' H' ρ' b e=>k σ' F' H' ρ' (a.trans g b) e
end
section
variable {X:Cx} {st:Stmt} {rest a b body:List Stmt} {g g1 g2:Fs} {e c o tg iter:Expr} {es:List Expr} {pos apos cpos:Pos} {f fa fe fk:Fg} {tc:Ft} {i:Nat} {K:PySem.W.Frag}
def fA:Fs:=fun δ ch=>some (.nx δ ch)
def aJ (g1 g2:Fs):Fs:=fun δ ch=>(g1 δ ch).bind fun o=>match o with
 | .nx δ' ch'=>g2 δ' ch'
 | o=>some o
def gZ:GS X [] fA:=PSs.mono qb fun D σ H ⟨δ,ch,F,ρ,o,en,hg,k⟩=>by
 cases hg
 exact k σ F H ρ (Adv.refl en.gh) en
def cg (h:GS1 X st g):GS X [st] g:=qc h
def aS (h1:GS1 X st g1) (h2:GS X rest g2):GS X (st::rest) (aJ g1 g2):=PSs.mono (fG h1 h2) fun D σ H ⟨δ,ch,F,ρ,o,en,hg,k⟩=>by
 unfold aJ at hg
 obtain ⟨o1,h1,hg⟩:=bS hg
 refine ⟨δ,ch,F,ρ,o1,en,h1,?_⟩
 cases o1 with
 | nx δ' ch'=>exact fun σ' F' H' ρ' a en'=>⟨δ',ch',F',ρ',o,en',hg,k.adv en.gh a⟩
 | rt c ch'=>cases hg;exact k
 | bk δ' ch'=>cases hg;exact k
 | ct δ' ch'=>cases hg;exact k
def dB (f:Fg):Fs:=fun δ ch=>(f δ ch).map fun p=>.rt p.1 p.2
def fS (h:GE X e f):GS1 X (.Return (some e) pos) (dB f):=PS.mono (oQ h) fun D σ H ⟨δ,ch,F,ρ,o,en,hg,k⟩=>by
 unfold dB at hg
 obtain ⟨p,hp,hg⟩:=mS hg
 cases hg
 exact ⟨δ,ch,F,ρ,p.1,p.2,en,hp,k⟩
def fT (c:Ft) (g1 g2:Fs):Fs:=fun δ ch=>(c δ ch).bind fun p=>if p.1 then g1 δ p.2 else g2 δ p.2
def jO (hc:GT X c tc) (h1:GS X a g1) (h2:GS X b g2):GS1 X (.If c a b pos) (fT tc g1 g2):=PS.mono (xR hc h1 h2) fun D σ H ⟨δ,ch,F,ρ,o,en,hg,k⟩=>by
 unfold fT at hg
 obtain ⟨p,hp,hg⟩:=bS hg
 refine ⟨δ,ch,F,ρ,p.1,p.2,en,hp,fun F' H' ρ' a=>?_⟩
 split at hg
 · rename_i q
   rw [if_pos q]
   exact ⟨δ,p.2,F',ρ',o,en.adv a,hg,k.adv en.gh a⟩
 · rename_i q
   rw [if_neg q]
   exact ⟨δ,p.2,F',ρ',o,en.adv a,hg,k.adv en.gh a⟩
def Ge.put {δ:Sl} {σ:St} {F H:Hp} {ρ:Nat->Addr} {ch:CH} {x:CV} {v:V} (en:Ge K δ ch σ F H ρ) (r:RelC K F ρ ch.length x v) (i:Nat):Ge K (δ.set i (some x)) ch (σ.set i (some v)) F H ρ:=⟨en.gh,by simp [en.len],fun j y h=>by
 rcases eY h with ⟨rfl,z⟩ | ⟨hn,z⟩
 · cases z
   have hi:i<σ.length:=by
    rw [<- en.len]
    have:=(gX h).1
    simpa using this
   exact ⟨v,by simp [hi],r⟩
 · obtain ⟨w,h1,h2⟩:=en.has j y z
   exact ⟨w,by rw [gN hn];exact h1,h2⟩⟩
def aT (i:Nat) (f:Fg):Fs:=fun δ ch=>(f δ ch).map fun p=>.nx (δ.set i (some p.1)) p.2
def cR {sc:Scope} {N:List Str} {x:Str} {pos':Pos} (h:cy sc N i x=true) (hl:ii sc x=true) (nd:N.Nodup) (he:GE X e f) (e1:bK X sc:=by rfl) (e2:X.N=N:=by rfl) (hf:X.fn x=true∨X.env.scope.names.lookup x=some .local:=by exact .inl rfl)
  (hs:swapsWith e (some (.Name x pos')) pos.line X.env=pure false:=by rfl):GS1 X (.Assign [.Name x pos'] e pos) (aT i f):=PS.mono (l4 h hl nd he e1 e2 hf hs) fun D σ H ⟨δ,ch,F,ρ,o,en,hg,k⟩=>by
 unfold aT at hg
 obtain ⟨p,hp,hg⟩:=mS hg
 cases hg
 exact ⟨δ,ch,F,ρ,p.1,p.2,en,hp,fun v F' H' ρ' a r=>k _ F' H' ρ' a ((en.adv a).put r i)⟩
def mgS (ts:List Nat) (δ:Sl) (δ1:De):Sl:=δ.mapIdx fun j x=>if j∈ts then (match δ1[j]? with | some (some (.leaf d))=>some (.dat d) | _=>none) else x
def Ge.mg {δ:Sl} {σ σ':St} {F H:Hp} {ρ:Nat->Addr} {ch:CH} {ts:List Nat} {δ1:De} {Φ:Fm} (en:Ge K δ ch σ F H ρ) (hK:Φ.K=K) (hl:σ'.length=σ.length) (hs:∀ j,j∉ts->σ'[j]?=σ[j]?) (e:En Φ δ1 σ' F H):Ge K (mgS ts δ δ1) ch σ' F H ρ:=⟨en.gh,by simp [mgS,en.len,hl],fun j x h=>by
 unfold mgS at h
 rw [List.getElem?_mapIdx] at h
 obtain ⟨y,hy,h⟩:=mS h
 by_cases hj:j∈ts
 · rw [if_pos hj] at h
   split at h<;>cases h
   rename_i d q
   obtain ⟨v,h1,h2⟩:=e.leaf q
   exact ⟨v,h1,(hK▸h2:Rep K F d v)⟩
 · rw [if_neg hj] at h
   subst h
   obtain ⟨v,h1,h2⟩:=en.has j x hy
   exact ⟨v,by rw [hs j hj];exact h1,h2⟩⟩
def nF (fd:De->Option Dt) (ts:List Nat) (bb:Dt->De->Option De):Fs:=fun δ ch=>(fd (lo δ ch)).bind fun d=>(bb d (lo δ ch)).map fun δ1=>.nx (mgS ts δ δ1) ch
def zP {fd:De->Option Dt} {ts:List Nat} {bb:Dt->De->Option De} (he:DL X e fd) (hg:DG X tg ts bb) (hs:swapsWithSole [tg] e pos.line X.env=pure false:=by rfl) (hw:swappedStores [tg] e X.env=pure none:=by rfl)
  (h1:(assignEach [tg] X.env).map (·.2)=[assign tg X.env]:=by rfl):GS1 X (.Assign [tg] e pos) (nF fd ts bb):=PS.mono (yX he hg hs hw h1) fun D σ H ⟨δ,ch,F,ρ,o,en,hg,k⟩=>by
 unfold nF at hg
 obtain ⟨d,hd,hg⟩:=bS hg
 obtain ⟨δ1,hb,hg⟩:=mS hg
 cases hg
 refine ⟨_,_,F,d,rfl,en.en,hd,fun v H' F' st r=>?_⟩
 have a:=Adv.of en.gh st
 exact ⟨_,_,F',d,δ1,rfl,(en.adv a).en,r,hb,fun σ' l1 k1 e1=>k σ' F' H' ρ a ((en.adv a).mg rfl l1 k1 e1)⟩
noncomputable def nG (ts:List Nat) (bb:Dt->De->Option De) (g:Fs):List Dt->Sl->CH->Option Og
 | [],δ,ch=>some (.nx δ ch)
 | d::r,δ,ch=>(bb d (lo δ ch)).bind fun δ1=>(g (mgS ts δ δ1) ch).bind fun o=>match o with
  | .nx δ2 ch2=>nG ts bb g r δ2 ch2
  | .ct δ2 ch2=>nG ts bb g r δ2 ch2
  | .bk δ2 ch2=>some (.nx δ2 ch2)
  | .rt c ch2=>some (.rt c ch2)
def lm (fi:De->Option (List Dt)) (ts:List Nat) (bb:Dt->De->Option De) (g:Fs):Fs:=fun δ ch=>(fi (lo δ ch)).bind fun ds=>nG ts bb g ds δ ch
def zQ {fi:De->Option (List Dt)} {ts:List Nat} {bb:Dt->De->Option De} (hp:PassesOwn (model X.prog X.w) X.A X.env X.xe) (hc:X.calm=true) (hi:DIF X tg iter fi) (hg:DG X tg ts bb) (hb:GS X body g)
  (hs:∀ x,foldedSetIterable iter X.env x=pure x:=by intro _;rfl):GS1 X (.For tg iter body [] pos) (lm fi ts bb g):=PS.mono (oT hp hc hi hg hb hs) fun D σ H ⟨δ,ch,F,ρ,o,en,hg,k⟩=>by
 unfold lm at hg
 obtain ⟨ds,hd,hg⟩:=bS hg
 rw [l3]
 refine ⟨_,_,F,ds,rfl,en.en,hd,fun J ok H1 F1 st1 wd ho=>?_⟩
 have a1:=Adv.of en.gh st1
 have en1:=en.adv a1
 have k1:=k.adv en.gh a1
 refine na (n:=ds.length) (fun i σ' H'=>∃ δ' ch' F' ρ',Adv X.K F1 H1 ρ ch F' H' ρ' ch'/\Ge X.K δ' ch' σ' F' H' ρ'/\nG ts bb g (ds.drop i) δ' ch'=some o) ⟨δ,ch,F1,ρ,Adv.refl en1.gh,en1,by simpa using hg⟩ (fun i σ' H' ⟨δ',ch',F',ρ',a',en',_⟩=>?_) ?_ ?_
 · obtain ⟨p1,p2,_⟩:=wd i H' F' (ho H' (a'.old.trans en'.gh.fh)) en'.gh.fh a'.old
   exact ⟨p1,p2⟩
 · rintro i x σ' H' H'' hi ⟨δ',ch',F',ρ',a',en',hgo⟩ hy
   obtain ⟨_,_,p3⟩:=wd i H' F' (ho H' (a'.old.trans en'.gh.fh)) en'.gh.fh a'.old
   obtain ⟨d,F2,hd',st2,rd⟩:=p3 x H'' hi hy
   rw [l6 hd'] at hgo
   unfold nG at hgo
   obtain ⟨δ1,h1,hgo⟩:=bS hgo
   obtain ⟨o1,h2,hgo⟩:=bS hgo
   have a2:=Adv.of en'.gh st2
   have a3:=a'.trans en1.gh a2
   have en2:=en'.adv a2
   refine ⟨_,_,F2,d,δ1,rfl,en2.en,rd,h1,fun σ1 l1 q1 e1=>⟨_,ch',F2,ρ',o1,en2.mg rfl l1 q1 e1,h2,?_⟩⟩
   cases o1 with
   | nx δ2 c2=>exact fun σ2 F3 H3 ρ3 a4 en4=>⟨δ2,c2,F3,ρ3,a3.trans en1.gh a4,en4,hgo⟩
   | ct δ2 c2=>exact fun σ2 F3 H3 ρ3 a4 en4=>⟨δ2,c2,F3,ρ3,a3.trans en1.gh a4,en4,hgo⟩
   | bk δ2 c2=>cases hgo;exact fun σ2 F3 H3 ρ3 a4 en4=>k1 σ2 F3 H3 ρ3 (a3.trans en1.gh a4) en4
   | rt c c2=>cases hgo;exact fun v F3 H3 ρ3 a4 r=>k1 v F3 H3 ρ3 (a3.trans en1.gh a4) r
 · rintro σ' H' ⟨δ',ch',F',ρ',a',en',hgo⟩
   rw [List.drop_length] at hgo
   cases hgo
   exact k1 σ' F' H' ρ' a' en'
noncomputable def bI (c:Ft) (g:Fs):Nat->Fs
 | 0,_,_=>none
 | n+1,δ,ch=>(c δ ch).bind fun p=>if p.1 then (g δ p.2).bind fun o=>match o with
  | .nx δ2 ch2=>bI c g n δ2 ch2
  | .ct δ2 ch2=>bI c g n δ2 ch2
  | .bk δ2 ch2=>some (.nx δ2 ch2)
  | .rt c ch2=>some (.rt c ch2) else some (.nx δ p.2)
noncomputable def fB (fa fe:Fg):Fs:=fun δ ch=>(fa δ ch).bind fun p=>(fe δ p.2).bind fun q=>match p.1 with
 | .ref i=>match p.2[i]?,q.2[i]? with
  | some (.lst _),some (.lst l)=>if l.length<sizeLine then some (.nx δ (q.2.set i (.lst (l++[q.1])))) else none
  | _,_=>none
 | _=>none
def iS (hx:GE X o fa) (he:GE X e fe)
  (hbase:attributeBase o "append" X.env (eval o X.env)=eval o X.env:=by rfl)
  (hfew:((backTo cpos (starEach [e] X.env)).all (fun x=>!x.1)&&(backToKw cpos (keywordEach [] X.env)).all (fun x=>x.1.isSome)
   && decide ([e].length+([]:List Keyword).length+(if ([]:List Keyword).isEmpty then 0 else 1)<30))=true:=by rfl)
  (hline:(apos.endLine==cpos.line)=true:=by rfl) (hs:starEach [e] X.env=(false,eval e X.env)::starEach [] X.env:=by rfl) (hplain:(backTo cpos (starEach [] X.env)).any (·.1)=false:=by rfl)
  (hsw:swapsWith (.Call (.Attribute o "append" apos) [e] [] cpos) none pos.line X.env=pure false:=by rfl) :
  GS1 X (.Expr (.Call (.Attribute o "append" apos) [e] [] cpos) pos) (fB fa fe):=
 PS.mono (qd (tP PySem.F.plainAttrs_list PySem.F.slot_list_append PySem.F.type_list_append f7 hx (bY he dS hs) hbase hfew hline hs hplain) hsw) fun D σ H ⟨δ,ch,F,ρ,og,en,hg,k⟩=>by
  unfold fB at hg
  obtain ⟨⟨c1,ch1⟩,hp,hg1⟩:=bS hg
  clear hg
  obtain ⟨⟨c2,ch2⟩,hq,hg⟩:=bS hg1
  clear hg1
  dsimp only at hq hg
  split at hg<;>first | (cases hg;done) | skip
  rename_i i
  split at hg<;>first | (cases hg;done) | skip
  rename_i l0 l h0 h1
  split at hg<;>cases hg
  rename_i hz
  refine ⟨δ,ch,F,ρ,_,ch1,en,hp,fun v F1 H1 ρ1 a1 r1=>?_⟩
  obtain ⟨vs0,q0,_⟩:=a1.gh.ok i _ h0
  obtain ⟨hi,rfl⟩:=r1
  refine ⟨.inl ⟨rfl,vs0,.inl (.inl q0)⟩,δ,ch1,F1,ρ1,c2,ch2,en.adv a1,hq,fun w F2 H2 ρ2 a2 r2=>?_⟩
  obtain ⟨vs,q1,q2⟩:=a2.gh.ok i _ h1
  rw [a2.ext i hi] at q1
  refine ⟨_,vs,w,rfl,rfl,q1,by rw [q2.length];exact hz,?_⟩
  have hi2:i<ch2.length:=(gX h1).1
  have a3:=Adv.upd (o:=.lst (l++[c2])) (u:=.lst (vs++[w])) (w:=.lst vs) a2.gh hi2 (by rw [a2.ext i hi];exact q1) (fun _ _ z=>nomatch z) ⟨_,aD,q2.append (RelCs.one r2)⟩
  rw [a2.ext i hi] at a3
  have a:=(a1.trans en.gh a2).trans en.gh a3
  exact k σ F2 _ ρ2 a (en.adv a)
def fU {κ:Type} [DecidableEq κ]:List (κ×CV)->κ->CV->List (κ×CV)
 | [],k,c=>[(k,c)]
 | p::l,k,c=>if p.1=k then (p.1,c)::l else p::fU l k c
def nH {κ:Type} [DecidableEq κ] {F:Hp} {ρ:Nat->Addr} {n:Nat} {k:κ} {c:CV} {v:V} (r:RelC K F ρ n c v):∀ {l:List (κ×CV)} {kvs:List (κ×V)},(l.map (·.1)).Nodup->kvs.map (·.1)=l.map (·.1)->RelCs K F ρ n (l.map (·.2)) (kvs.map (·.2))→
  (dU kvs k v).map (·.1)=(fU l k c).map (·.1)/\RelCs K F ρ n ((fU l k c).map (·.2)) ((dU kvs k v).map (·.2))
 | [],[],_,_,_=>⟨rfl,⟨v,[],rfl,r,rfl⟩⟩
 | [],q::kvs,_,h,_=>by cases h
 | p::l,[],_,h,_=>by cases h
 | p::l,q::kvs,nd,h,rs=>by
  simp only [List.map_cons,List.cons.injEq] at h
  obtain ⟨h1,h2⟩:=h
  obtain ⟨w,ws,e,r1,r2⟩:=rs
  simp only [List.map_cons,List.cons.injEq] at e
  obtain ⟨rfl,rfl⟩:=e
  have nd':=List.nodup_cons.mp nd
  by_cases hk:p.1=k
  · have hq:q.1=k:=h1.trans hk
    have hnone:∀ x∈kvs,¬ x.1=k:=fun x hx e=>nd'.1 (by
     have:x.1∈kvs.map (·.1):=List.mem_map_of_mem hx
     rw [h2] at this
     rw [e,<- hk] at this
     exact this)
    have e2:dU (q::kvs) k v=(q.1,v)::kvs:=by
     unfold dU
     rw [if_pos (by simp [hq])]
     simp only [List.map_cons,if_pos hq,List.cons.injEq,true_and]
     have:∀ x∈kvs,(if x.1=k then (x.1,v) else x)=id x:=fun x hx=>if_neg (hnone x hx)
     rw [List.map_congr_left this,List.map_id]
    have e1:fU (p::l) k c=(p.1,c)::l:=by simp only [fU,if_pos hk]
    rw [e1,e2]
    exact ⟨by simp [h1,h2],⟨v,_,rfl,r,r2⟩⟩
  · have hq:¬ q.1=k:=fun z=>hk (h1.symm.trans z)
    have e2:dU (q::kvs) k v=q::dU kvs k v:=by
     unfold dU
     by_cases ha:(kvs.any fun kv=>decide (kv.1=k))=true
     · rw [if_pos ha,if_pos (by simp only [List.any_cons,ha,Bool.or_true])]
       simp only [List.map_cons,if_neg hq]
     · rw [if_neg ha,if_neg (by simp only [List.any_cons,decide_eq_false hq,Bool.false_or];exact ha)]
       rfl
    have e1:fU (p::l) k c=p::fU l k c:=by simp only [fU,if_neg hk]
    obtain ⟨i1,i2⟩:=nH (k:=k) r nd'.2 h2 r2
    rw [e1,e2]
    exact ⟨by simp [h1,i1],⟨q.2,_,rfl,r1,i2⟩⟩
end
def gx (m:Nat) (g:Fs):Fd:=fun cs ch=>match g (cs.map some++List.replicate (m-cs.length) none) ch with
 | some (.rt c ch')=>some (c,ch')
 | some (.nx _ ch')=>some (.dat .non,ch')
 | _=>none
def eI {K:PySem.W.Frag} {F H:Hp} {ρ:Nat->Addr} {ch:CH} {cs:List CV} {vs:List V} {N:List Str} (g:Gh K F H ρ ch) (r:RelCs K F ρ ch.length cs vs):Ge K (cs.map some++List.replicate (N.length-cs.length) none) ch (start N vs) F H ρ:=by
 have hl:=r.length
 refine ⟨g,by simp [start,hl],fun i c h=>?_⟩
 by_cases hi:i<cs.length
 · rw [List.getElem?_append_left (by simpa using hi),List.getElem?_map] at h
   have hd:cs[i]?=some cs[i]:=by simp [hi]
   rw [hd] at h
   cases h
   obtain ⟨v,hv,rv⟩:=r.get hd
   refine ⟨v,?_,rv⟩
   unfold start
   rw [List.getElem?_append_left (by simp;omega),List.getElem?_map,hv]
   rfl
 · rw [List.getElem?_append_right (by simpa using hi)] at h
   rw [List.getElem?_replicate] at h
   split at h<;>cases h
section
variable {P:Program} {w:World} {K:PySem.W.Frag} {mg:Str->Option Value} {base:Heap}
def uw {x q:Str} {st:Stmt} {N ps:List Str} {k n:Nat} {g:Fs} {f:Addr} {fd:FuncData} (D:Fun K x q st f fd) (S:FnScope N ps (ab st)) (hn:ps.length=n)
  (hbody:∀ (cdv:Value) (A:Around) (outer:List Env) (s:Shared) (H:Hp) (E:XK),Room k (A.deeper (envOfC q (ab st) s.heap.objs.size f cdv))->GS (ji CX0 P w K mg base N q (ab st) f cdv A outer s H E).nox (aM st) g) :
  FnOk P w K mg base CX0 (k+1) f fd ps (spG K n (gx N.length g)):=by
 refine D.ok S (fun vs H Q E h=>?_) (fun cdv A outer s H vs Q E hr h=>?_)
 · obtain ⟨F,ρ,cs,ch,c,ch',_,hl,r,_⟩:=h
   rw [r.length,hl,hn]
 · obtain ⟨F,ρ,cs,ch,c,ch',gh,hl,r,hf,kq⟩:=h
   refine ⟨_,hbody cdv A outer s H E hr,?_⟩
   unfold gx at hf
   split at hf
   · rename_i c1 ch1 q
     cases hf
     exact ⟨_,ch,F,ρ,_,eI gh r,q,fun v F' H' ρ' a z=>kq v F' H' ρ' a z⟩
   · rename_i δ1 ch1 q
     cases hf
     exact ⟨_,ch,F,ρ,_,eI gh r,q,fun σ' F' H' ρ' a z=>kq .non F' H' ρ' a (ip (K:=K) (F:=F'))⟩
   · cases hf
end
section
variable {X:Cx} {e a b o:Expr} {es rest:List Expr} {f fa fb fe:Fg} {fs:Fgs} {ta tb:Ft} {pos apos cpos p:Pos} {sc:Scope} {x:Str} {K:PySem.W.Frag}
def GW (X:Cx) (e:Expr) (f:Ft):Prop:=PW X e (tGT X.K f)
def ln (f:Ft):Ft:=fun δ ch=>(f δ ch).map fun p=>(!p.1,p.2)
def gE (f:Fg):Ft:=fun δ ch=>(f δ ch).bind fun p=>(vw p.2 p.1).bind fun d=>(ud d).map fun b=>(b,p.2)
def jP (ha:GE X a fa) (he:∀ whole,isTrue a X.env whole=(do let v <- whole;standAt a.pos;holding [v] (truthy v))):GT X a (gE fa):=PT.mono (mM ha he) fun σ H Q ⟨δ,ch,F,ρ,b,ch',en,hf,k⟩=>by
 unfold gE at hf
 obtain ⟨p,hp,hf⟩:=bS hf
 obtain ⟨d,hd,hf⟩:=bS hf
 obtain ⟨c,hc,hf⟩:=mS hf
 cases hf
 exact ⟨δ,ch,F,ρ,p.1,_,en,hp,fun v F' H' ρ' a r=>⟨_,qC a.gh.fh (gm a.gh r hd) hc,k F' H' ρ' a⟩⟩
def ux (h:GT X a ta):GT X (.UnaryOp .Not a pos) (ln ta):=PT.mono (tj h) fun σ H Q ⟨δ,ch,F,ρ,b,ch',en,hf,k⟩=>by
 unfold ln at hf
 obtain ⟨p,hp,hf⟩:=mS hf
 cases hf
 exact ⟨δ,ch,F,ρ,p.1,p.2,en,hp,fun F' H' ρ' a=>k F' H' ρ' a⟩
def GW.t (h:GW X a ta):GT X a ta:=h.pt
def vws (ch:CH):List CV->Option (List Dt)
 | []=>some []
 | c::l=>(vw ch c).bind fun d=>(vws ch l).map (d::·)
def iT {F H:Hp} {ρ:Nat->Addr} {ch:CH} (g:Gh K F H ρ ch):∀ {l:List CV} {ds:List Dt} {vs:List V},RelCs K F ρ ch.length l vs->vws ch l=some ds->RepBs K F H ds vs
 | [],ds,vs,r,h=>by cases h;exact r
 | c::l,ds,vs,r,h=>by
  simp only [vws] at h
  obtain ⟨d,hd,h⟩:=bS h
  obtain ⟨es,he,rfl⟩:=mS h
  obtain ⟨v,ws,e,r1,r2⟩:=r
  exact ⟨v,ws,e,gm g r1 hd,iT g r2 he⟩
def eB (g:List Dt->Option T) (fs:Fgs):Fg:=fun δ ch=>(fs δ ch).bind fun p=>(vws p.2 p.1).bind fun ds=>(g ds).bind (al p.2)
def BC {r:List V->Hp->VK->Prop} {g:List Dt->Option T} (hr:CRD K r g) {σ:St} {H:Hp} {Q:VK} (h:tG K (eB g fs) σ H Q):tCB r (tGs K fs) σ H Q:=by
 obtain ⟨δ,ch,F,ρ,c,ch',en,hf,k⟩:=h
 unfold eB at hf
 obtain ⟨p,hp,hf⟩:=bS hf
 obtain ⟨ds,hd,hf⟩:=bS hf
 obtain ⟨t,ht,hf⟩:=bS hf
 exact ⟨δ,ch,F,ρ,p.1,p.2,en,hp,fun vs F1 H1 ρ1 a1 r1=>hr F1 H1 ds vs Q t a1.gh.fh (iT a1.gh r1 hd) ht (ll a1.gh hf (k.adv en.gh a1))⟩
def uy {id:String} {r:List V->Hp->VK->Prop} {gg:List Dt->Option T} (h:aF sc x=true) (hc:CallR X (.builtin id) r) (hr:CRD X.K r gg) (hm:X.mg x=none) (hv:bootBuiltins x=some (.builtin id)) (ha:GA X (e::es) fs) (e1:bK X sc:=by rfl)
  (he:starEach (e::es) X.env=(false,eval e X.env)::starEach es X.env:=by rfl) (hpl:(backTo pos (starEach es X.env)).any (·.1)=false:=by rfl):GE X (.Call (.Name x p) (e::es) [] pos) (eB gg fs):=
 PE.mono (f8 h hc hm hv ha e1 he hpl) fun σ H Q q=>BC hr q
def eCV (ff:List Dt->Option T) (fs:Fgs):Fg:=fun δ ch=>(fs δ ch).bind fun p=>(vws p.2 p.1).bind fun ds=>(ff ds).bind fun u=>(qO u).bind (al p.2)
def qS {ch:CH}:∀ {l:List CV} {ds:List Dt},vws ch l=some ds->ds.length=l.length
 | [],ds,h=>by cases h;rfl
 | c::l,ds,h=>by
  simp only [vws] at h
  obtain ⟨d,hd,h⟩:=bS h
  obtain ⟨es,he,rfl⟩:=mS h
  simp [qS he]
def nI {k n:Nat} {ps:List Str} {ff:List Dt->Option T} (h:aF sc x=true) (F:OkF X.prog X.w X.K X.mg X.base x k ps (spD X.K n ff)) (hr:Room k X.A) (ha:GA X (e::es) fs) (hn:∀ δ ch p,fs δ ch=some p->p.1.length=n) (e1:bK X sc:=by rfl)
  (he:starEach (e::es) X.env=(false,eval e X.env)::starEach es X.env:=by rfl) (hpl:(backTo pos (starEach es X.env)).any (·.1)=false:=by rfl):GE X (.Call (.Name x p) (e::es) [] pos) (eCV ff fs):=
 PE.mono (iM h F hr ha e1 he hpl) fun σ H Q ⟨δ,ch,Fz,ρ,c,ch',en,hf,k⟩=>by
  unfold eCV at hf
  obtain ⟨p,hp,hf⟩:=bS hf
  obtain ⟨ds,hd,hf⟩:=bS hf
  obtain ⟨u,hu,hf⟩:=bS hf
  obtain ⟨t,ht,hf⟩:=bS hf
  refine ⟨δ,ch,Fz,ρ,p.1,p.2,en,hp,fun vs F1 H1 ρ1 a1 r1=>?_⟩
  show spD X.K n ff (vs++[]) H1 Q E0
  rw [List.append_nil]
  exact ⟨H1,ds,u,Same.refl _,(qS hd).trans (hn δ ch p hp),(iT a1.gh r1 hd).reps a1.gh.fh,hu,uu a1.gh.fh ht (ll a1.gh hf (k.adv en.gh a1))⟩
def eIf (c:Ft) (f g:Fg):Fg:=fun δ ch=>(c δ ch).bind fun p=>if p.1 then f δ p.2 else g δ p.2
def BD {c:Expr} {tc:Ft} (hc:GT X c tc) (h:GE X a fa) (h':GE X b fb):GE X (.IfExp c a b pos) (eIf tc fa fb):=PE.mono (mJ hc h h') fun σ H Q ⟨δ,ch,F,ρ,x,ch',en,hf,k⟩=>by
 unfold eIf at hf
 obtain ⟨p,hp,hf⟩:=bS hf
 refine ⟨δ,ch,F,ρ,p.1,p.2,en,hp,fun F' H' ρ' a=>?_⟩
 split at hf
 · rename_i q
   rw [if_pos q]
   exact ⟨δ,p.2,F',ρ',x,ch',en.adv a,hf,k.adv en.gh a⟩
 · rename_i q
   rw [if_neg q]
   exact ⟨δ,p.2,F',ρ',x,ch',en.adv a,hf,k.adv en.gh a⟩
def jQ:∀ δ ch p,bV δ ch=some p->p.1.length=0:=fun δ ch p h=>by cases h;rfl
def y14 {f:Fg} {fs:Fgs} {n:Nat} (h:∀ δ ch p,fs δ ch=some p->p.1.length=n):∀ δ ch p,ay f fs δ ch=some p->p.1.length=n+1:=fun δ ch p hp=>by
 unfold ay at hp
 obtain ⟨a,ha,hp⟩:=bS hp
 obtain ⟨b,hb,hp⟩:=mS hp
 cases hp
 simp [h _ _ _ hb]
end
section
variable {P:Program} {w:World} {K:PySem.W.Frag} {mg:Str->Option Value} {base:Heap}
def wK {x:Str} {st:Stmt} {N ps:List Str} {k n:Nat} {g:Fs} (D:DefF K mg x st ps) (S:FnScope N ps (ab st)) (hn:ps.length=n)
  (hbody:∀ (f:Addr) (cdv:Value) (A:Around) (outer:List Env) (s:Shared) (H:Hp) (E:XK),Room k (A.deeper (envOfC x (ab st) s.heap.objs.size f cdv))->GS (ji CX0 P w K mg base N x (ab st) f cdv A outer s H E).nox (aM st) g) :
  OkF P w K mg base x (k+1) ps (spG K n (gx N.length g)):=by
 obtain ⟨f,fd,h1,h2,h3,h4⟩:=D.ex
 exact ⟨f,fd,h1,h2,h3,uw h4 S hn (hbody f)⟩
end
section
variable {X:Cx} {e a b c o:Expr} {es rest:List Expr} {f fa fb fe:Fg} {fs:Fgs} {ta tb tc:Ft} {pos apos cpos p:Pos} {sc:Scope} {x:Str} {K:PySem.W.Frag} {g:Fs} {body:List Stmt}
def nJ (n:Nat) (hp:PassesOwn (model X.prog X.w) X.A X.env X.xe) (hc:GT X c tc) (hb:GS X body g):GS1 X (.While c body [] pos) (bI tc g n):=PS.mono (tq hp hc hb) fun D σ H ⟨δ,ch,F,ρ,o,en,hg,k⟩=>by
 refine ⟨fun m σ' H'=>∃ δ' ch' F' ρ',Adv X.K F H ρ ch F' H' ρ' ch'/\Ge X.K δ' ch' σ' F' H' ρ'/\bI tc g m δ' ch'=some o,⟨n,δ,ch,F,ρ,Adv.refl en.gh,en,hg⟩,?_⟩
 rintro m σ' H' ⟨δ',ch',F',ρ',a',en',hgo⟩
 cases m with
 | zero=>cases hgo
 | succ m =>
  unfold bI at hgo
  obtain ⟨p,hp',hgo1⟩:=bS hgo
  clear hgo
  refine ⟨δ',ch',F',ρ',p.1,p.2,en',hp',fun F1 H1 ρ1 a1=>?_⟩
  have a2:=a'.trans en.gh a1
  have en1:=en'.adv a1
  dsimp only
  split at hgo1
  · rename_i q
    rw [if_pos q]
    obtain ⟨o1,h2,hgo⟩:=bS hgo1
    refine ⟨fun σ' H'=>∃ δ' ch' F' ρ',Adv X.K F H ρ ch F' H' ρ' ch'/\Ge X.K δ' ch' σ' F' H' ρ'/\bI tc g m δ' ch'=some o,fun σ2 H2 z=>⟨m,Nat.lt_succ_self m,z⟩,δ',p.2,F1,ρ1,o1,en1,h2,?_⟩
    cases o1 with
    | nx δ2 c2=>exact fun σ2 F3 H3 ρ3 a4 en4=>⟨δ2,c2,F3,ρ3,a2.trans en.gh a4,en4,hgo⟩
    | ct δ2 c2=>exact fun σ2 F3 H3 ρ3 a4 en4=>⟨δ2,c2,F3,ρ3,a2.trans en.gh a4,en4,hgo⟩
    | bk δ2 c2=>cases hgo;exact fun σ2 F3 H3 ρ3 a4 en4=>k σ2 F3 H3 ρ3 (a2.trans en.gh a4) en4
    | rt c c2=>cases hgo;exact fun v F3 H3 ρ3 a4 r=>k v F3 H3 ρ3 (a2.trans en.gh a4) r
  · rename_i q
    rw [if_neg q]
    cases hgo1
    exact k σ' F1 H1 ρ1 a2 en1
end
section
variable {prog:Program} {w:World} {A:Around} {E:Value->Shared->Prop} {s:Shared} {a:Addr} {its:Array Value} {c:Nat} {sl:Array (Option Value)}
end
section
variable {prog:Program} {w:World} {A:Around} {E:Value->Shared->Prop} {s:Shared} {a:Addr} {its:Array Value} {c:Nat} {sl:Array (Option Value)}
end
section
variable {X:Cx} {e o:Expr} {sc:Scope} {p pos:Pos} {fs:De->Option (List Dt)}
end
section
variable {prog:Program} {w:World} {A:Around}
variable {E:Value->Shared->Prop} {s:Shared} {a:Addr} {its:Array Value} {c:Nat} {sl:Array (Option Value)}
end
section
variable {X:Cx}
end
section
variable {K:PySem.W.Frag} {F H:Hp} {ρ:Nat->Addr} {ch:CH}
end
section
variable {X:Cx} {e a b o:Expr} {es:List Expr} {f fa fb fc fe:Fg} {fs:Fgs} {pos apos cpos p:Pos} {sc:Scope} {x:Str} {K:PySem.W.Frag}
end
section
variable {X:Cx} {e a b o value:Expr} {es:List Expr} {f fa fb fc fe fk:Fg} {fs:Fgs} {pos apos cpos tpos p:Pos} {sc:Scope} {x:Str} {K:PySem.W.Frag}
end
def gC (src:List (Option Nat)) (δ:Sl):Sl:=src.map fun o=>o.bind fun j=>(δ[j]?).join
section
variable {K:PySem.W.Frag} {F H F' H' F1 H1:Hp} {ρ ρ' ρ1:Nat->Addr} {ch ch' ch1:CH} {src:List (Option Nat)} {δ:Sl} {σ:St}
def zR {k:Nat} {c:CV} (h:(gC src δ)[k]?=some (some c)):∃ j,src[k]?=some (some j)/\δ[j]?=some (some c):=by
 unfold gC at h
 rw [List.getElem?_map] at h
 cases e:src[k]? with
 | none=>rw [e] at h;cases h
 | some o =>
  rw [e] at h
  cases o with
  | none=>cases h
  | some j =>
   simp only [Option.map_some,Option.bind_some,Option.some.injEq] at h
   refine ⟨j,rfl,?_⟩
   cases q:δ[j]? with
   | none=>rw [q] at h;cases h
   | some u=>rw [q] at h;simp only [Option.join_some] at h;rw [h]
def Ge.comp (en:Ge K δ ch σ F H ρ):Ge K (gC src δ) ch (stC src σ) F H ρ:=⟨en.gh,by simp [gC,stC],fun k c h=>by
 obtain ⟨j,h1,h2⟩:=zR h
 obtain ⟨v,h3,h4⟩:=en.has j c h2
 exact ⟨v,qH h1 h3,h4⟩⟩
structure Bd (K:PySem.W.Frag) (F1 H1:Hp) (ρ1:Nat->Addr) (ch1:CH) (D:Addr) (F H:Hp) (ρ:Nat->Addr) (ch:CH) (done:List CV) (ys:List V):Prop where
 adv:Adv K F1 H1 ρ1 ch1 F H ρ ch
 hD:H D=some (.lst ys)
 fD:F D=none
 nD:∀ i,i<ch.length->ρ i≠D
 rel:RelCs K F ρ ch.length done ys
variable {D:Addr} {done:List CV} {ys:List V}
def Bd.step (g1:Gh K F1 H1 ρ1 ch1) (b:Bd K F1 H1 ρ1 ch1 D F H ρ ch done ys) (a:Adv K F H ρ ch F' H' ρ' ch'):Bd K F1 H1 ρ1 ch1 D F' H' ρ' ch' done ys where
 adv:=b.adv.trans g1 a
 hD:=a.prot D _ b.hD fun i hi=>b.nD i hi
 fD:=by
  cases q:F' D with
  | none=>rfl
  | some o =>
   rcases a.nw D o q with z | z | ⟨xs,z⟩
   · rw [b.fD] at z;cases z
   · rw [b.hD] at z;cases z
   · subst z
     have z1:=a.gh.fh _ _ q
     rw [a.prot D _ b.hD fun i hi=>b.nD i hi] at z1
     cases z1
 nD:=fun i hi e=>by
  by_cases h:i<ch.length
  · rw [a.ext i h] at e
    exact b.nD i h e
  · have:=a.fr i (Nat.not_lt.mp h) hi
    rw [e,b.hD] at this
    cases this
 rel:=b.rel.mono a.old a.ext a.len
def Bd.more (hD1:H1 D=none) (b:Bd K F1 H1 ρ1 ch1 D F H ρ ch done ys) {c:CV} {v:V} (r:RelC K F ρ ch.length c v):Bd K F1 H1 ρ1 ch1 D F (upd H D (.lst (ys++[v]))) ρ ch (done++[c]) (ys++[v]) where
 adv:=⟨⟨fun x o e=>by
     have:x≠D:=fun z=>by rw [z,b.fD] at e;cases e
     rw [ax this]
     exact b.adv.gh.fh x o e,b.adv.gh.inj,b.adv.gh.out,fun i o h=>(b.adv.gh.ok i o h).mono (Same.refl _) (fun _ _=>rfl) (nL _) fun u hu=>by
     rw [ax (b.nD i (gX h).1)]
     exact hu⟩,b.adv.len,b.adv.ext,b.adv.fr,fun x o h1 h2=>by
     have:x≠D:=fun z=>by rw [z,hD1] at h1;cases h1
     rw [ax this]
     exact b.adv.prot x o h1 h2,b.adv.old,b.adv.nw,fun x o u h=>by
     have:x≠D:=fun z=>by rw [z,hD1] at h;cases h
     rw [ax this]
     exact b.adv.fz x o u h⟩
 hD:=aD
 fD:=b.fD
 nD:=b.nD
 rel:=b.rel.append (RelCs.one r)
def Bd.fin (hD1:H1 D=none) (b:Bd K F1 H1 ρ1 ch1 D F H ρ ch done ys):Adv K F1 H1 ρ1 ch1 F H (fun i=>if i=ch.length then D else ρ i) (ch++[.lst done]):=by
 have lt:∀ {i:Nat},i<ch.length->(if i=ch.length then D else ρ i)=ρ i:=fun {i} hi=>if_neg (Nat.ne_of_lt hi)
 have g:=b.adv.gh
 refine ⟨⟨g.fh,fun i j hi hj e=>?_,fun i hi=>?_,fun i x hx=>?_⟩,by have:=b.adv.len;simp;omega,fun i hi=>?_,fun i h1 h2=>?_,b.adv.prot,b.adv.old,b.adv.nw,b.adv.fz⟩
 · simp only [List.length_append,List.length_cons,List.length_nil] at hi hj
   by_cases h1:i=ch.length<;>by_cases h2:j=ch.length
   · rw [h1,h2]
   · rw [if_pos h1,if_neg h2] at e
     exact absurd e.symm (b.nD j (by omega))
   · rw [if_neg h1,if_pos h2] at e
     exact absurd e (b.nD i (by omega))
   · rw [if_neg h1,if_neg h2] at e
     exact g.inj i j (by omega) (by omega) e
 · simp only [List.length_append,List.length_cons,List.length_nil] at hi
   by_cases h1:i=ch.length
   · rw [if_pos h1];exact .inl b.fD
   · rw [if_neg h1];exact g.out i (by omega)
 · simp only [List.length_append,List.length_cons,List.length_nil]
   by_cases h1:i<ch.length
   · rw [List.getElem?_append_left h1] at hx
     rw [lt h1]
     exact (g.ok i x hx).mono (Same.refl _) (fun j hj=>lt hj) (Nat.le_succ _) fun u hu=>hu
   · rw [gR (Nat.not_lt.mp h1)] at hx
     have h2:i=ch.length:=by
      have:=(gX hx).1
      simp at this
      omega
     subst h2
     simp at hx
     subst hx
     rw [if_pos rfl]
     exact ⟨ys,b.hD,b.rel.mono (Same.refl _) (fun j hj=>lt hj) (Nat.le_succ _)⟩
 · rw [lt (Nat.lt_of_lt_of_le hi b.adv.len)]
   exact b.adv.ext i hi
 · simp only [List.length_append,List.length_cons,List.length_nil] at h2
   by_cases h3:i=ch.length
   · rw [if_pos h3];exact hD1
   · rw [if_neg h3];exact b.adv.fr i h1 (by omega)
end
section
variable {X:Cx} {elt tg iter:Expr} {ifs:List Expr} {scope:Scope} {pos:Pos} {M:List Str} {src:List (Option Nat)} {fi:De->Option (List Dt)} {ft:De->Option Bool} {fe:Fg}
end
def eJ:Key->Dt
 | .inl i=>.int i
 | .inr x=>.str x
def wL {K:PySem.W.Frag} {F:Hp} (k:Key):Rep K F (eJ k) (kV k):=by
 cases k with
 | inl i=>exact f9
 | inr x=>exact io
section
variable {K:PySem.W.Frag} {F H F' H' F1 H1:Hp} {ρ ρ' ρ1:Nat->Addr} {ch ch' ch1:CH} {i:Nat} {l:List (Key×CV)} {kvs:List (Key×V)} {ob:Obj}
end
section
variable {X:Cx} {tg d:Expr} {body:List Stmt} {fd:Fg} {g:Fs} {pos:Pos}
end
section
variable {X:Cx} {pos:Pos} {σ:St} {δ:Sl}
end
section
variable {X:Cx} {o:Expr} {fa:Fg} {pos apos cpos:Pos}
end
section
variable {X:Cx} {elt tg iter:Expr} {ifs:List Expr} {scope:Scope} {pos:Pos} {M:List Str} {src:List (Option Nat)} {fi:De->Option (List Dt)} {ft:De->Option Bool} {fe:De->Option Dt} {fg:Fg} {i:Nat}
end
section
variable {X:Cx}
def BE (K:PySem.W.Frag) (n:Nat) (t:TGs):TG:=fun v σ H Q=>∃ a xs,v=.ref a/\SqL K H a xs/\xs.length=n/\t xs σ H Q
def zS {es:List Expr} {k:Nat} {t:TGs} {n:Nat} {pos:Pos} (hc:X.calm=true) (h:PGs X es t)
  (hn:(assignEach es X.env).length=n:=by rfl) (hst:(assignEach es X.env).findIdx? (·.1)=none:=by rfl):PG X (.Tuple es k pos) (BE X.K n t):=by
 intro pins s σ H v u Q I r hw
 obtain ⟨a,xs,e1,hq,hl,hw⟩:=hw
 subst e1
 cases r
 obtain ⟨its,rv,ht,hz⟩:=I.list hq
 rw [assign_Tuple]
 refine wB (wpAny_standAt ?_)
 unfold unpack
 rw [show (assignEach es X.env).length=its.toArray.size by simp [hn,<- hl,rv.length],hst]
 refine wB (wpAny_holding (PySem.W.kun_itemsOf (I.ok.hd hc) ht.isList fun h' hx=>?_))
 have I1:Inv X pins σ H {s with heap:=h'}:=I.kept (t':=s.toks) fun b o e=>hx b o (Nat.ne_of_lt (Heap.lt_size e)) e
 exact h pins _ σ H xs _ Q I1 (by simpa using rv) hw
end
def d5 (sc:Scope) (N:List Str):Bool:=(List.range N.length).all fun i=>match N[i]? with
 | some x=>cy sc N i x&&ii sc x
 | none=>false
def nsB {sc:Scope} {N:List Str} {i:Nat} {x:Str} (h:d5 sc N=true) (e:N[i]?=some x):cy sc N i x=true/\ii sc x=true:=by
 have h1:=List.all_eq_true.mp h i (List.mem_range.mpr (gX e).1)
 rw [e] at h1
 exact Bool.and_eq_true_iff.mp h1
def nsN {sc:Scope} {N:List Str} (h:d5 sc N=true) (i:Nat) {x:Str} (e:N[i]?=some x:=by rfl):cy sc N i x=true:=(nsB h e).1
def nsL {sc:Scope} {N:List Str} (h:d5 sc N=true) (i:Nat) {x:Str} (e:N[i]?=some x:=by rfl):ii sc x=true:=(nsB h e).2
def pvN {X:Cx} {sc:Scope} {N:List Str} {x:Str} {pos:Pos} (i:Nat) (h:d5 sc N=true) (e:N[i]?=some x:=by rfl) (e1:bK X sc:=by rfl) (e2:X.N=N:=by rfl):PE X (.Name x pos) (jh i):=pvD i (nsN h i e) e1 e2
def qT:∀ a b:List Nat,ltCps a b=false->ltCps b a=false->a=b
 | [],[],_,_=>rfl
 | [],_::_,h,_=>by simp [ltCps] at h
 | _::_,[],_,h=>by simp [ltCps] at h
 | x::r,y::t,h,h'=>by
  simp only [ltCps,Bool.or_eq_false_iff,decide_eq_false_iff_not,Bool.and_eq_false_imp,beq_iff_eq] at h h'
  have e:x=y:=by omega
  subst e
  rw [qT r t (h.2 rfl) (h'.2 rfl)]
def qU:∀ a b:List Nat,ltCps a b=true->ltCps b a=false
 | [],[],h=>by simp [ltCps] at h
 | [],_::_,_=>rfl
 | _::_,[],h=>by simp [ltCps] at h
 | x::r,y::t,h=>by
  simp only [ltCps,Bool.or_eq_true,decide_eq_true_eq,Bool.and_eq_true,beq_iff_eq] at h
  simp only [ltCps,Bool.or_eq_false_iff,decide_eq_false_iff_not,Bool.and_eq_false_imp,beq_iff_eq]
  rcases h with h | ⟨rfl,h⟩
  · exact ⟨by omega,fun e=>by omega⟩
  · exact ⟨by omega,fun _=>qU r t h⟩
def lp:∀ a b c:List Nat,ltCps b a=false->ltCps c b=false->ltCps c a=false
 | [],b,c,h1,h2=>by
  cases b with
  | nil=>exact h2
  | cons y t =>
   cases c with
   | nil=>simp [ltCps] at h2
   | cons z u=>rfl
 | x::r,[],c,h1,h2=>by simp [ltCps] at h1
 | x::r,y::t,[],h1,h2=>by simp [ltCps] at h2
 | x::r,y::t,z::u,h1,h2=>by
  simp only [ltCps,Bool.or_eq_false_iff,decide_eq_false_iff_not,Bool.and_eq_false_imp,beq_iff_eq] at h1 h2 ⊢
  refine ⟨by omega,fun e=>?_⟩
  subst e
  have e:y=z:=by omega
  subst e
  exact lp r t u (h1.2 rfl) (h2.2 rfl)
def leS (a b:Str):Bool:=!ltCps b.cps.toList a.cps.toList
def leS_iff {a b:Str}:leS a b=true↔ltCps b.cps.toList a.cps.toList=false:=by simp [leS]
def lq (a b c:Str) (h:leS a b=true) (h':leS b c=true):leS a c=true:=leS_iff.mpr (lp _ _ _ (leS_iff.mp h) (leS_iff.mp h'))
def sr (a b:Str):(leS a b||leS b a)=true:=by
 cases h:leS a b with
 | true=>rfl
 | false =>
  have h1:ltCps b.cps.toList a.cps.toList=true:=by simpa [leS] using h
  simp [leS_iff.mpr (qU _ _ h1)]
def uz {a b:Str} (h:leS a b=true) (h':leS b a=true):a=b:=by
 have e:=qT _ _ (leS_iff.mp h') (leS_iff.mp h)
 cases a with
 | mk a=>cases b with
  | mk b=>simp only at e;rw [Array.toList_inj.mp e]
def dg (ss:List Str):List Str:=ss.mergeSort leS
def dD (ss:List Str):(dg ss).Perm ss:=List.mergeSort_perm ss leS
def nM (ss:List Str):(dg ss).Pairwise fun a b=>leS a b=true:=List.pairwise_mergeSort lq sr ss
def lr:∀ (p:Str) (l:List Str),risingS p l=true->(p::l).Pairwise fun a b=>leS a b=true
 | p,[],_=>by simp
 | p,x::r,h=>by
  simp only [risingS,Bool.and_eq_true] at h
  have ih:=lr x r h.2
  have h1:leS p x=true:=h.1
  refine List.pairwise_cons.mpr ⟨fun y hy=>?_,ih⟩
  rcases List.mem_cons.mp hy with rfl | hy
  · exact h1
  · exact lq _ _ _ h1 ((List.pairwise_cons.mp ih).1 y hy)
def lu:∀ l:List Str,sortedS l=true->l.Pairwise fun a b=>leS a b=true
 | [],_=>List.Pairwise.nil
 | x::r,h=>lr x r h
def iU:∀ {a b:List Str},a.Perm b->(a.Pairwise fun a b=>leS a b=true)->(b.Pairwise fun a b=>leS a b=true)->a=b
 | [],_,p,_,_=>p.nil_eq
 | x::r,b,p,ha,hb=>by
  cases b with
  | nil=>exact absurd p.length_eq (by simp)
  | cons y t =>
   have hx:x∈y::t:=p.mem_iff.mp (.head _)
   have hy:y∈x::r:=p.mem_iff.mpr (.head _)
   have e:x=y:=by
    rcases List.mem_cons.mp hx with h | h
    · exact h
    · rcases List.mem_cons.mp hy with h' | h'
      · exact h'.symm
      · exact uz ((List.pairwise_cons.mp ha).1 y h') ((List.pairwise_cons.mp hb).1 x h)
   subst e
   rw [iU (List.Perm.cons_inv p) (List.pairwise_cons.mp ha).2 (List.pairwise_cons.mp hb).2]
def g0:∀ {ss:List Str} {its:List Value},Vals (ss.map V.str) its->StrsAre its ss
 | [],_,h=>by cases h;exact .nil
 | x::ss,_,h=>by
  cases h with
  | cons h1 h2 =>
   obtain ⟨t,rfl⟩:=h1
   exact .cons x t (g0 h2)
def iV:∀ {its:List Value} {ss:List Str},StrsAre its ss->Vals (ss.map V.str) its
 | _,_,.nil=>.nil
 | _,_,.cons x t h=>.cons ⟨t,rfl⟩ (iV h)
section
variable {X:Cx}
def ix:CallR X (.builtin "sorted") (fun xs H Q=>∃ p ss,xs=[.ref p]/\SqL X.K H p (ss.map V.str)/\ss.length<64/\∀ l,H l=none->Q (.ref l) (upd H l (.lst ((dg ss).map V.str)))):=by
 intro pins s σ H xs us Q I r h
 obtain ⟨p,ss,rfl,hq,hz,q⟩:=h
 obtain ⟨u,rfl,rx⟩:=fu r
 cases rx
 obtain ⟨its,r',pl,hz'⟩:=I.list hq
 have hS:=g0 r'
 have hlen:its.length=ss.length:=by have:=r'.length;simpa using this.symm
 refine sorted_strs pl.isList hS (by omega) fun out ss' a1 a2 a3=>?_
 have e:ss'=dg ss:=iU (a2.trans (dD ss).symm) (lu ss' a3) (nM ss)
 subst e
 obtain ⟨c,hc⟩:=sortedAll_at s.heap its out
 refine ⟨.ref (s.heap.objs.size+1),_,I.laid (t':=s.toks) (fun _ _=>sortedAll_old) (Nat.le_succ _) (show ObjOk X.prog X.w _ _ _ (.lst ((dg ss).map V.str)) from ⟨?_,out.toList,c,iV a1,hc⟩),rfl,q _ (I.hok.fresh (Nat.le_succ _))⟩
 rw [List.length_map,(dD ss).length_eq]
 exact Nat.le_trans (Nat.le_of_lt hz) (by decide)
def dj:List Dt->Option T
 | [.lst ds]=>(e6 ds).bind fun ss=>if ss.length<64 then some (.lst ((dg ss).map .str)) else none
 | _=>none
def iW {K:PySem.W.Frag} {F:Hp}:∀ ss:List Str,Reps K F (ss.map .str) (ss.map V.str)
 | []=>by simp only [List.map_nil,Reps]
 | x::ss=>by
  simp only [List.map_cons,Reps]
  exact ⟨_,_,rfl,by simp only [Rep],iW ss⟩
def nN {K:PySem.W.Frag}:CRD K (fun xs H Q=>∃ p ss,xs=[.ref p]/\SqL K H p (ss.map V.str)/\ss.length<64/\∀ l,H l=none->Q (.ref l) (upd H l (.lst ((dg ss).map V.str)))) dj:=by
 intro F H ds vs Q t fh r hg k
 unfold dj at hg
 split at hg<;>first | (cases hg;done) | skip
 obtain ⟨ss,hs,hg⟩:=bS hg
 split at hg<;>cases hg
 rename_i hz
 obtain ⟨v,rfl,rv⟩:=de r
 obtain ⟨a,vs,rfl,h1,h2⟩:=rv
 have:=gj h2 hs
 subst this
 exact ⟨a,ss,rfl,h1,hz,fun p hp=>gd k fh (iW _) hp⟩
end
def EntA (h:Heap) (d:Addr) (ks:List Value) (ep:Nat):Prop:=∃ o es,h.get? d=some o/\o.ExactDict/\o.data=.dict es ep/\es.toList.map (·.key)=ks
def EntA.upTo {h h':Heap} {d:Addr} {ks:List Value} {ep:Nat} (q:EntA h d ks ep) (k:∀ o,h.get? d=some o->h'.get? d=some o):EntA h' d ks ep:=let ⟨o,es,h1,r⟩:=q;⟨o,es,k o h1,r⟩
def EntA.ty {s:Shared} {d:Addr} {ks:List Value} {ep:Nat} (q:EntA s.heap d ks ep):s.TypeIs (.ref d) "dict":=let ⟨o,_,h1,h2,_⟩:=q;⟨o,h1,h2.1⟩
def EntA.lt {h:Heap} {d:Addr} {ks:List Value} {ep:Nat} (q:EntA h d ks ep):d<h.objs.size:=let ⟨_,_,h1,_⟩:=q;Heap.lt_size h1
section
variable {prog:Program} {w:World} {A:Around} {E:Value->Shared->Prop} {s:Shared} {d it:Addr} {ks:List Value} {i ep:Nat}
def uA {Q:Value->Shared->Prop} (lo:(d==sysModules)=false) (q:EntA s.heap d ks ep)
  (k:Q (.ref s.heap.objs.size) {s with heap:=s.heap.push {cls:=.type "dict_keyiterator",data:=.fields #[.ref d,.int 0 0,.int ks.length 0,.int ep 0]}}):wpAny (model prog w) A (pyIter (.ref d)) Q E s:=by
 obtain ⟨o,es,e1,e2,e3,e4⟩:=id q
 refine wpAny_pyIter_slot q.ty F.slot_dict_iter (wpAny_call_entry F.slot_dict_iter q.ty F.entry_dict_iter ?_ (F.args_dict_iter_1 _))
 unfold Builtin.«dict.__iter__»
 refine wB ?_
 unfold Builtin.Dict.dictSlotNone
 refine wB (wpAny_notOrdered_dict q.ty ?_)
 show wpAny _ _ (pure (Value.ref d)) _ _ s
 refine wpAny_pure ?_
 show wpAny _ _ (Builtin.Dict.showsAll d >>= _) _ _ s
 unfold Builtin.Dict.showsAll
 rw [if_neg (by rw [lo];exact Bool.false_ne_true)]
 refine wB (wpAny_pure ?_)
 refine wB (wpAny_dictEntries e1 e3 (wB (wpAny_dictEpoch e1 e3 ?_)))
 have ez:es.size=ks.length:=by rw [<- e4];simp
 refine wB (wpAny_newObj_type (wpAny_pure ⟨_,rfl,"dict_keyiterator",_,⟨_,Heap.get?_push_size _ rfl,rfl⟩,F.slot_dict_keyiterator_next.lookup,?_⟩))
 simpa [rawInt,ez] using k
def uB {key:Value} {Q:Option Value->Shared->Prop} (st:s.heap.IsKeyIter it d i ks.length ep) (q:EntA s.heap d ks ep) (hk:ks[i]?=some key)
  (k:∀ h',h'.IsKeyIter it d (i+1) ks.length ep->Heap.SameBut it s.heap h'->Q (some key) {s with heap:=h'}):wpAny (model prog w) A (pyNext (.ref it)) Q E s:=by
 obtain ⟨oi,i1,i2,i3⟩:=id st
 obtain ⟨o,es,e1,e2,e3,e4⟩:=id q
 unfold pyNext
 refine wB (wpAny_attempt (wpAny_callSpecial?_slot (name:=Str.ofString "__next__") st.typeIs F.slot_dict_keyiterator_next (wpAny_call_entry F.slot_dict_keyiterator_next st.typeIs F.entry_dict_keyiterator_next ?_ (F.args_dict_keyiterator_next_1 _))))
 refine wB (wpAny_pure (wB (wB ?_)))
 first | refine wB (wpAny_typeNameOfWhole_keyiter st.typeIs (wpAny_pure ?_)) | refine wB (wpAny_typeNameOf_keyiter st.typeIs (wpAny_pure ?_))
 refine wB (wpAny_fieldsOf i1 i3 ?_)
 have ow:Builtin.Dict_items.ownsTuple "dict_keyiterator"=false:=by decide
 simp only [ow,Bool.false_eq_true,if_false]
 show wpAny _ _ (if (Value.ref d==Value.none)=true then _ else _) _ _ s
 rw [if_neg (show ¬ ((Value.ref d==Value.none)=true) from Bool.false_ne_true)]
 refine wB (wpAny_pure (wB (wpAny_dictEntries e1 e3 ?_)))
 have ez:es.size=ks.length:=by rw [<- e4];simp
 rw [if_neg (by rw [ez];simp)]
 refine wB (wpAny_pure (wB (wpAny_dictEpoch e1 e3 ?_)))
 rw [if_neg (by simp)]
 refine wpAny_pure ?_
 have li:i<es.size:=by rw [ez];exact (gX hk).1
 have hkey:es[i].key=key:=by
  rw [<- e4,List.getElem?_map,Array.getElem?_toList,Array.getElem?_eq_getElem li] at hk
  exact Option.some.inj hk
 simp only [show ¬ ((i:Int)<0) from by omega,if_false,Int.toNat_natCast,Array.getElem?_eq_getElem li]
 refine wB ?_
 first | refine wB (wpAny_typeNameOfWhole_keyiter st.typeIs (wpAny_pure ?_)) | refine wB (wpAny_typeNameOf_keyiter st.typeIs (wpAny_pure ?_))
 refine wB (wpAny_isOneOf_keyiter st.typeIs ?_)
 show wpAny _ _ (setField (.ref it) 1 (rawInt ((i:Int)+1)) >>= _) _ _ s
 refine wpAny_bind (wpAny_setField i1 i3 (by simp) ?_)
 have st':(s.heap.update it (Obj.mapFields (·.setIfInBounds 1 (rawInt ((i:Int)+1))))).IsKeyIter it d (i+1) ks.length ep:=
  ⟨_,Heap.get?_update_self _ i1 (Obj.isFreed_of_fields (Obj.data_mapFields i3 _)),(Obj.cls_mapFields ..).trans i2,by rw [Obj.data_mapFields i3];simp [rawInt]⟩
 refine wB (wpAny_holding (wB (wpAny_isOneOf_keyiter (s:={s with heap:=s.heap.update it (Obj.mapFields (·.setIfInBounds 1 (rawInt ((i:Int)+1))))}) st'.typeIs ?_)))
 show wpAny _ _ (pure es[i].key) _ _ _
 rw [hkey]
 exact wpAny_pure (wpAny_pure ⟨_,rfl,wpAny_pure (k _ st' (Heap.SameBut.update ..))⟩)
def wM {Q:Option Value->Shared->Prop} (nh:A.handled=none) (st:s.heap.IsKeyIter it d i ks.length ep) (q:EntA s.heap d ks ep) (hi:i=ks.length)
  (k:∀ h',Heap.ExtBut it s.heap h'->Q none {s with heap:=h'}):wpAny (model prog w) A (pyNext (.ref it)) Q E s:=by
 obtain ⟨oi,i1,i2,i3⟩:=id st
 obtain ⟨o,es,e1,e2,e3,e4⟩:=id q
 unfold pyNext
 refine wB (wpAny_attempt (wpAny_callSpecial?_slot (name:=Str.ofString "__next__") st.typeIs F.slot_dict_keyiterator_next (wpAny_call_entry F.slot_dict_keyiterator_next st.typeIs F.entry_dict_keyiterator_next ?_ (F.args_dict_keyiterator_next_1 _))))
 refine wB (wpAny_pure (wB (wB ?_)))
 first | refine wB (wpAny_typeNameOfWhole_keyiter st.typeIs (wpAny_pure ?_)) | refine wB (wpAny_typeNameOf_keyiter st.typeIs (wpAny_pure ?_))
 refine wB (wpAny_fieldsOf i1 i3 ?_)
 have ow:Builtin.Dict_items.ownsTuple "dict_keyiterator"=false:=by decide
 simp only [ow,Bool.false_eq_true,if_false]
 show wpAny _ _ (if (Value.ref d==Value.none)=true then _ else _) _ _ s
 rw [if_neg (show ¬ ((Value.ref d==Value.none)=true) from Bool.false_ne_true)]
 refine wB (wpAny_pure (wB (wpAny_dictEntries e1 e3 ?_)))
 have ez:es.size=ks.length:=by rw [<- e4];simp
 rw [if_neg (by rw [ez];simp)]
 refine wB (wpAny_pure (wB (wpAny_dictEpoch e1 e3 ?_)))
 rw [if_neg (by simp)]
 refine wpAny_pure ?_
 have ge:es.size<=i:=by rw [ez];omega
 simp only [show ¬ ((i:Int)<0) from by omega,if_false,Int.toNat_natCast,Array.getElem?_eq_none ge]
 refine wB ?_
 first | refine wB (wpAny_typeNameOfWhole_keyiter st.typeIs (wpAny_pure ?_)) | refine wB (wpAny_typeNameOf_keyiter st.typeIs (wpAny_pure ?_))
 show wpAny _ _ (setField (.ref it) 0 .none >>= _) _ _ s
 refine wpAny_bind (wpAny_setField i1 i3 (by simp) ?_)
 show wpAny _ _ (newExc (.type "StopIteration") [] >>= _) _ _ _
 refine wB ?_
 simp only [newExc,newTuple]
 refine wB (wpAny_newObj_type ?_ (by size_fits))
 refine wpAny_bind (m:=firstArgMember _ _) (wpAny_of_eq (a:=Value.none) (by first | rfl | (simp only [firstArgMember];rfl)) (wpAny_newObj_type ?_ (by size_fits)))
 simp only [raiseNew]
 refine wB (wpAny_handled ?_)
 rw [show A.in1.handled=none from nh]
 refine wB (wpAny_pure (wpAny_throw ?_))
 refine wB (wpAny_isInstance (b:=true) (T:="StopIteration") ⟨_,Heap.get?_push_size _ rfl,rfl⟩ isSubtype_stop ?_)
 exact wpAny_pure (k _ (((Heap.SameBut.update ..).extBut.push _).push _))
def su (nh:A.handled=none) (hne:d≠it):Walks prog w A it [it,d] [it] ks.length (fun i v=>ks[i]?=some v) (fun i h=>h.IsKeyIter it d i ks.length ep/\EntA h d ks ep) where
 sub:=fun b hb=>by simp at hb;simp [hb]
 frame:=fun _ _ _ st hk=>⟨let ⟨o,h1,r⟩:=st.1;⟨o,hk it (by simp) o h1,r⟩,st.2.upTo fun o e=>hk d (by simp) o e⟩
 item:=fun i s Q E hi st hQ=>uB st.1 st.2 (key:=ks[i]) (by simp [hi]) fun h' st' sb=>hQ _ h' s.toks (by simp [hi]) ⟨st',st.2.upTo fun o e=>sb.extBut d o hne e⟩ fun b o hb e=>sb.extBut b o (fun z=>hb (by simp [z])) e
 done:=fun s Q E st hQ=>wM nh st.1 st.2 rfl fun h' eb=>hQ h' s.toks fun b o hb e=>eb b o (fun z=>hb (by simp [z])) e
 self:=fun _ _ _ _ st hQ=>wpAny_pyIter_keyiter st.1 hQ
def wN (lo:(d==sysModules)=false):PySem.W.KdlSrc prog w "dict" d d ks.length (fun i v=>ks[i]?=some v) (fun h=>EntA h d ks ep) where
 type:=fun _ q=>q.ty
 there:=fun _ q=>⟨q.lt,q.lt⟩
 keep:=fun _ _ q hk=>q.upTo fun o e=>hk d (.inl rfl) o e
 notList:=by decide
 notTuple:=by decide
 hint:=fun _ _ _ _ q hq=>PySem.W.kdl_hint_dict q.ty hq
 iter:=fun _ _ nh q=>⟨_,_,(fun _ _ hq=>uA lo q hq),su nh (Nat.ne_of_lt q.lt),⟨⟨_,Heap.get?_push_size _ rfl,rfl,rfl⟩,q.upTo fun o e=>gP _ e⟩⟩
end
def bE (ks:List Key):Dt:=.tup (ks.map eJ)
def lv {K:PySem.W.Frag} {F:Hp}:∀ ks:List Key,Reps K F (ks.map eJ) (ks.map kV)
 | []=>by simp only [List.map_nil,Reps]
 | k::ks=>by
  simp only [List.map_cons,Reps]
  exact ⟨_,_,rfl,wL k,lv ks⟩
def uC {K:PySem.W.Frag} {F:Hp} {b:Addr} {ks:List Key} (h:F b=some (.tup (ks.map kV))):Rep K F (bE ks) (.ref b):=by
 unfold bE
 simp only [Rep]
 exact ⟨b,_,rfl,SqT.of h,lv ks⟩
section
variable {K:PySem.W.Frag} {F H:Hp} {ρ:Nat->Addr} {ch:CH}
def Gh.frzT (g:Gh K F H ρ ch) {b:Addr} {vs:List V} (hb:H b=some (.tup vs)):Adv K F H ρ ch (upd F b (.tup vs)) H ρ ch:=by
 have sm:Same F (upd F b (.tup vs)):=fun x o e=>by
  by_cases hx:x=b
  · subst hx
    have:=g.fh _ _ e
    rw [hb] at this
    rw [aD,this]
  · rw [ax hx]
    exact e
 refine ⟨⟨fun x o e=>?_,g.inj,fun i hi=>?_,fun i o h=>(g.ok i o h).mono sm (fun _ _=>rfl) (nL _) fun u hu=>hu⟩,nL _,fun _ _=>rfl,fun i h1 h2=>absurd h2 (Nat.not_lt.mpr h1),fun _ _ h _=>h,sm,fun x o e=>?_,fun _ _ _ h=>h⟩
 · by_cases hx:x=b
   · subst hx
     rw [aD] at e
     cases e
     exact hb
   · rw [ax hx] at e
     exact g.fh x o e
 · by_cases hx:ρ i=b
   · rw [hx,aD]
     exact .inr ⟨vs,rfl⟩
   · rw [ax hx]
     exact g.out i hi
 · by_cases hx:x=b
   · subst hx
     rw [aD] at e
     cases e
     exact .inr (.inr ⟨vs,rfl⟩)
   · rw [ax hx] at e
     exact .inl e
def Gh.frzTs (g:Gh K F H ρ ch):∀ (bs:List Addr) (ws:List (List V)),bs.length=ws.length->(∀ (j:Nat) (b:Addr) (vs:List V),bs[j]?=some b->ws[j]?=some vs->H b=some (.tup vs))→
  ∃ F',Adv K F H ρ ch F' H ρ ch/\∀ (j:Nat) (b:Addr) (vs:List V),bs[j]?=some b->ws[j]?=some vs->F' b=some (.tup vs)
 | [],ws,_,_=>⟨F,Adv.refl g,fun j b vs h=>by simp at h⟩
 | b::bs,[],h,_=>by cases h
 | b::bs,w::ws,hl,h=>by
  obtain ⟨F',a,h1⟩:=Gh.frzTs g bs ws (by simpa using hl) fun j b vs p q=>h (j+1) b vs (by simpa using p) (by simpa using q)
  have hb:=h 0 b w rfl rfl
  refine ⟨_,a.trans g (a.gh.frzT hb),fun j b' vs p q=>?_⟩
  cases j with
  | zero =>
   simp at p q
   subst p q
   exact aD
  | succ j=>exact (a.gh.frzT hb).old _ _ (h1 j b' vs (by simpa using p) (by simpa using q))
end
def lw {α β:Type} {R:α->β->Prop}:∀ {l:List α} {m:List β},Paired R l m->∀ {i:Nat} {a:α},l[i]?=some a->∃ b,m[i]?=some b/\R a b
 | _,_,.nil,i,a,h=>by simp at h
 | _,_,.cons r t,0,a,h=>by simp at h;subst h;exact ⟨_,rfl,r⟩
 | _,_,.cons r t,i+1,a,h=>by simpa using lw t (by simpa using h)
def jR {α β:Type} {R:α->β->Prop}:∀ {l:List α} {m:List β},Paired R l m->l.length=m.length
 | _,_,.nil=>rfl
 | _,_,.cons r t=>by simp [jR t]
def zT {P:Program} {w:World} {H:Hp} {h:Heap} {a:Addr} {kvs:List (List Key×V)} (x:ObjOk P w H h a (.dT kvs)):kvs.length<=sizeLine/\(a==sysModules)=false/\∃ (bs:List Addr) (ob:Obj) (es:Array DictEntry) (ep:Nat),h.get? a=some ob/\ob.data=.dict es ep/\EntA h a (bs.map .ref) ep/\bs.length=kvs.length∧
  ∀ (j:Nat) (p:List Key×V),kvs[j]?=some p->∃ b,bs[j]?=some b/\H b=some (.tup (p.1.map kV)):=by
 obtain ⟨z,y,xs,r,o,es,ep,h1,h2,h3,h4,h5⟩:=x
 refine ⟨z,y,xs.map (·.2.1),o,es,ep,h1,h3,⟨o,es,h1,h2,h3,?_⟩,by rw [List.length_map,<- jR r],fun j p hp=>?_⟩
 · rw [h4,List.map_map,List.map_map]
   rfl
 · obtain ⟨q,hq,_,hb,_⟩:=lw r hp
   exact ⟨q.2.1,by rw [List.getElem?_map,hq];rfl,hb⟩
section
variable {X:Cx} {tg:Expr}
def pE (hc:X.calm=true):CallR X (.type "list") (fun xs H Q=>∃ a kvs,xs=[.ref a]/\H a=some (.dT kvs)/\∀ bs:List Addr,bs.length=kvs.length->(∀ (j:Nat) (b:Addr) (p:List Key×V),bs[j]?=some b->kvs[j]?=some p->H b=some (.tup (p.1.map kV)))->∀ l,H l=none->Q (.ref l) (upd H l (.lst (bs.map V.ref)))):=by
 intro pins s σ H xs us Q I r h
 obtain ⟨a,kvs,rfl,hq,q⟩:=h
 obtain ⟨u,rfl,rx⟩:=fu r
 cases rx
 obtain ⟨z,y,bs,ob,es,ep,e1,e2,en,hl,hk⟩:=zT (I.hok a _ hq)
 have hz:(bs.map Value.ref).length<=sizeLine:=by rw [List.length_map,hl];exact z
 refine PySem.W.kdl_call (wN y) (I.ok.hd hc) en hz fun h' tk acc c kp hD hacc=>?_
 have eacc:acc.toList=bs.map Value.ref:=by
  apply List.ext_getElem?
  intro j
  cases hj:acc.toList[j]? with
  | none =>
   have h1:=List.getElem?_eq_none_iff.mp hj
   rw [Array.length_toList,hacc.1] at h1
   rw [List.getElem?_eq_none_iff.mpr h1]
  | some v=>exact (hacc.2 j v (by rw [<- Array.getElem?_toList];exact hj)).symm
 have rv:Vals (bs.map V.ref) acc.toList:=by
  rw [eacc]
  clear eacc hk hl en hz q hacc
  induction bs with
  | nil=>exact .nil
  | cons b bs ih=>exact .cons rfl ih
 refine ⟨.ref s.heap.objs.size,_,I.laid (t':=tk) kp (nL _) (show ObjOk X.prog X.w _ h' _ (.lst (bs.map V.ref)) from ⟨by rw [List.length_map,hl];exact z,acc.toList,c,rv,by rw [Array.toArray_toList];exact hD⟩),rfl,q bs hl (fun j b p h1 h2=>?_) _ (I.hok.fresh (nL _))⟩
 obtain ⟨b',hb',hH⟩:=hk j p h2
 rw [h1] at hb'
 cases hb'
 exact hH
end
section
variable {K:PySem.W.Frag} {F H F' H' F1 H1:Hp} {ρ ρ' ρ1:Nat->Addr} {ch ch' ch1:CH} {i:Nat} {l:List (List Key×CV)} {kvs:List (List Key×V)} {ob:Obj}
end
section
variable {X:Cx} {tg d:Expr} {body:List Stmt} {fd:Fg} {g:Fs} {pos:Pos}
end
def uD:List CV->Option (List Key)
 | []=>some []
 | .dat d::r=>(jm d).bind fun k=>(uD r).map (k::·)
 | _=>none
section
variable {X:Cx} {e a b o value:Expr} {es:List Expr} {f fa fb fc fe fk:Fg} {fs:Fgs} {pos apos cpos tpos p:Pos} {sc:Scope} {x:Str} {K:PySem.W.Frag}
def eNT:Fg:=fun _ ch=>some (.ref ch.length,ch++[.dT []])
def wO:GE X (.Dict [] [] pos) eNT:=PE.mono tT fun σ H Q ⟨δ,ch,F,ρ,c,ch',en,hf,k⟩ q hq=>by
 cases hf
 refine k (.ref q) F _ _ (pB (o:=.dT []) en.gh hq ⟨[],aD,rfl,rfl⟩) ⟨by simp,?_⟩
 dsimp only
 rw [if_pos rfl]
def asT:CO->Option (List (List Key×CV))
 | .dT l=>some l
 | .wt l=>some l
 | _=>none
def uE {F H:Hp} {ρ:Nat->Addr} {n:Nat} {ad:Addr} {o:CO} {l:List (List Key×CV)} (h:asT o=some l) (ok:CoOk K F H ρ n ad o):∃ kvs,Rd H ad (.dT kvs)/\kvs.map (·.1)=l.map (·.1)/\RelCs K F ρ n (l.map (·.2)) (kvs.map (·.2)):=by
 cases o with
 | dT m=>cases h;obtain ⟨kvs,h1,h2,h3⟩:=ok;exact ⟨kvs,.inl h1,h2,h3⟩
 | wt m=>cases h;obtain ⟨ob,kvs,h1,h2,h3⟩:=ok;exact ⟨kvs,.inr ⟨ob,h1⟩,h2,h3⟩
 | _=>cases h
noncomputable def eIxT (fo:Fg) (fs:Fgs):Fg:=fun δ ch=>(fo δ ch).bind fun p=>(fs δ p.2).bind fun q=>match p.1 with
 | .ref i=>((q.2[i]?).bind asT).bind fun l=>if q.1.length<=sizeLine then (uD q.1).bind fun ks=>(lkC l ks).map fun c=>(c,q.2) else none
 | _=>none
noncomputable def sgPutT (fo:Fg) (fs:Fgs) (fe:Fg):Fs:=fun δ ch=>(fe δ ch).bind fun p=>(fo δ p.2).bind fun q=>(fs δ q.2).bind fun r=>match q.1 with
 | .ref i=>match r.2[i]? with
  | some (.dT l)=>if r.1.length<=sizeLine/\l.length<sizeLine/\(l.map (·.1)).Nodup then (uD r.1).map fun ks=>.nx δ (r.2.set i (.dT (fU l ks p.1))) else none
  | _=>none
 | _=>none
def eLT (fa:Fg):Fg:=fun δ ch=>(fa δ ch).bind fun p=>match p.1 with
 | .ref i=>match p.2[i]? with
  | some (.dT l)=>some (.ref p.2.length,p.2++[.lst (l.map fun q=>.dat (bE q.1))])
  | _=>none
 | _=>none
def jS {F:Hp} {ρ:Nat->Addr} {n:Nat}:∀ {l:List (List Key)} {bs:List Addr},bs.length=l.length->(∀ (j:Nat) (b:Addr) (ks:List Key),bs[j]?=some b->l[j]?=some ks->F b=some (.tup (ks.map kV)))->RelCs K F ρ n (l.map fun q=>.dat (bE q)) (bs.map V.ref)
 | [],[],_,_=>rfl
 | [],_::_,h,_=>by cases h
 | _::_,[],h,_=>by cases h
 | q::l,b::bs,h,hf=>⟨.ref b,_,rfl,uC (hf 0 b q rfl rfl),jS (by simpa using h) fun j b ks p1 p2=>hf (j+1) b ks (by simpa using p1) (by simpa using p2)⟩
def uF (h:aF sc "list"=true) (hc:X.calm=true) (hm:X.mg "list"=none) (hv:bootBuiltins "list"=some (.type "list")) (ha:GE X a fa) (e1:bK X sc:=by rfl)
  (he:starEach [a] X.env=(false,eval a X.env)::starEach [] X.env:=by rfl) (hpl:(backTo pos (starEach [] X.env)).any (·.1)=false:=by rfl):GE X (.Call (.Name "list" p) [a] [] pos) (eLT fa):=
 PE.mono (gT h (pE hc) hm hv (bY ha dS he) e1 he hpl) fun σ H Q ⟨δ,ch,F,ρ,c,ch',en,hf,k⟩=>by
  unfold eLT at hf
  obtain ⟨⟨c1,ch1⟩,hp,hf1⟩:=bS hf
  clear hf
  dsimp only at hf1
  split at hf1<;>first | (cases hf1;done) | skip
  rename_i i
  split at hf1<;>first | (cases hf1;done) | skip
  rename_i l hl
  cases hf1
  refine ⟨δ,ch,F,ρ,_,ch1,en,hp,fun v F1 H1 ρ1 a1 r1=>?_⟩
  obtain ⟨kvs,h1,h2,h3⟩:=a1.gh.ok i _ hl
  refine ⟨_,kvs,by rw [r1.2],h1,fun bs hlen hb q hq=>?_⟩
  obtain ⟨F',af,hF⟩:=a1.gh.frzTs bs (kvs.map fun p=>p.1.map kV) (by simpa using hlen) fun j b vs p1 p2=>by
   rw [List.getElem?_map] at p2
   obtain ⟨pp,q1,rfl⟩:=mS p2
   exact hb j b pp p1 q1
  have rel:RelCs X.K F' ρ1 ch1.length (l.map fun q=>.dat (bE q.1)) (bs.map V.ref):=by
   have:=jS (K:=X.K) (F:=F') (ρ:=ρ1) (n:=ch1.length) (l:=l.map (·.1)) (bs:=bs) (by rw [<- h2];simpa using hlen) fun j b ks p1 p2=>hF j b _ p1 (by
    rw [<- h2,List.getElem?_map] at p2
    obtain ⟨pp,q1,rfl⟩:=mS p2
    rw [List.getElem?_map,q1]
    rfl)
   rw [List.map_map] at this
   exact this
  refine k (.ref q) F' _ _ ((a1.trans en.gh af).trans en.gh (pB (o:=.lst (l.map fun q=>.dat (bE q.1))) af.gh hq ⟨_,aD,rel⟩)) ⟨by simp,?_⟩
  first
   | rw [if_pos rfl]
   | (dsimp only;rw [if_pos rfl])
end
def gMulT:Dt->Dt->Option T
 | .tup l,.int k=>if 1<k/\k<=1000/\l.isEmpty=false/\l.length<=1000 then some (.leaf (.tup (List.replicate k.toNat l).flatten)) else none
 | _,_=>none
def zU (ch:CH):CV->Option (List CV)
 | .dat (.tup ds)=>some (ds.map .dat)
 | .ref i=>match ch[i]? with
  | some (.tup l)=>some l
  | _=>none
 | _=>none
section
variable {K:PySem.W.Frag} {F H:Hp} {ρ:Nat->Addr} {ch:CH} {c:CV} {v:V}
def wP (g:Gh K F H ρ ch) {l:List CV} (h:zU ch c=some l) (r:RelC K F ρ ch.length c v):∃ a vs,v=.ref a/\SqT K H a vs/\RelCs K F ρ ch.length l vs:=by
 unfold zU at h
 split at h
 · rename_i ds
   cases h
   have r:Rep K F (.tup ds) v:=r
   simp only [Rep] at r
   obtain ⟨a,vs,rfl,h1,h2⟩:=r
   exact ⟨a,vs,rfl,g.fh.tup h1,RelCs.dats h2⟩
 · rename_i i
   split at h<;>cases h
   rename_i ho
   obtain ⟨vs,h1,h2⟩:=g.ok i _ ho
   exact ⟨_,vs,r.2,SqT.of h1,h2⟩
 · cases h
end
section
variable {X:Cx} {e a b o iter tg:Expr} {es:List Expr} {body:List Stmt} {g:Fs} {f fa fb fc fe fk:Fg} {fs:Fgs} {pos apos cpos tpos p:Pos} {sc:Scope} {x:Str} {K:PySem.W.Frag}
abbrev Fb:=CV->CH->Sl->Option Sl
abbrev Fbs:=List CV->CH->Sl->Option Sl
def tGG (K:PySem.W.Frag) (b:Fb):TG:=fun v σ H Q=>∃ δ ch F ρ c δ',Ge K δ ch σ F H ρ/\RelC K F ρ ch.length c v/\b c ch δ=some δ'/\∀ σ',Ge K δ' ch σ' F H ρ->Q σ' H
def tGGs (K:PySem.W.Frag) (b:Fbs):TGs:=fun vs σ H Q=>∃ δ ch F ρ cs δ',Ge K δ ch σ F H ρ/\RelCs K F ρ ch.length cs vs/\b cs ch δ=some δ'/\∀ σ',Ge K δ' ch σ' F H ρ->Q σ' H
def GG (X:Cx) (tg:Expr) (b:Fb):Prop:=PG X tg (tGG X.K b)
def GGs (X:Cx) (es:List Expr) (b:Fbs):Prop:=PGs X es (tGGs X.K b)
def ggN (i:Nat):Fb:=fun c _ δ=>some (δ.set i (some c))
def me {i:Nat} (h:PG X tg (fH i)):GG X tg (ggN i):=PG.mono h fun v σ H Q ⟨δ,ch,F,ρ,c,δ',en,r,hb,k⟩=>by
 cases hb
 exact k _ (en.put r i)
def lx:Fbs:=fun cs _ δ=>match cs with
 | []=>some δ
 | _=>none
def d6 (b:Fb) (bs:Fbs):Fbs:=fun cs ch δ=>match cs with
 | c::r=>(b c ch δ).bind (bs r ch)
 | []=>none
def PGs.mono {t t':TGs} (h:PGs X es t) (m:∀ v σ H Q,t' v σ H Q->t v σ H Q):PGs X es t':=fun pins s σ H v u Q I r q=>h pins s σ H v u Q I r (m _ _ _ _ q)
def wQ:GGs X [] lx:=PGs.mono qf fun v σ H Q ⟨δ,ch,F,ρ,cs,δ',en,r,hb,k⟩=>by
 unfold lx at hb
 split at hb<;>cases hb
 exact ⟨r,k σ en⟩
def nO {b:Fb} {bs:Fbs} (h:GG X e b) (hr:GGs X es bs) (hs:(assignEach (e::es) X.env).map (·.2)=assign e X.env::(assignEach es X.env).map (·.2):=by rfl):GGs X (e::es) (d6 b bs):=PGs.mono (mK h hr hs) fun v σ H Q ⟨δ,ch,F,ρ,cs,δ',en,r,hb,k⟩=>by
 unfold d6 at hb
 split at hb<;>first | (cases hb;done) | skip
 obtain ⟨δ1,h1,h2⟩:=bS hb
 obtain ⟨v1,ws,rfl,r1,r2⟩:=r
 exact ⟨v1,ws,rfl,δ,ch,F,ρ,_,δ1,en,r1,h1,fun σ' en'=>⟨δ1,ch,F,ρ,_,δ',en',r2,h2,k⟩⟩
def PG.or {t t':TG} (h:PG X tg t) (h':PG X tg t'):PG X tg (fun v σ H Q=>t v σ H Q∨t' v σ H Q):=fun pins s σ H v u Q I r q=>q.elim (h pins s σ H v u Q I r) (h' pins s σ H v u Q I r)
def zV (ch:CH):CV->Option (List CV)
 | .dat (.lst ds)=>some (ds.map .dat)
 | .ref i=>match ch[i]? with
  | some (.lst l)=>some l
  | _=>none
 | _=>none
def wR {F H:Hp} {ρ:Nat->Addr} {ch:CH} {c:CV} {v:V} (g:Gh K F H ρ ch) {l:List CV} (h:zV ch c=some l) (r:RelC K F ρ ch.length c v):∃ a vs,v=.ref a/\SqL K H a vs/\RelCs K F ρ ch.length l vs:=by
 unfold zV at h
 split at h
 · rename_i ds
   cases h
   have r:Rep K F (.lst ds) v:=r
   simp only [Rep] at r
   obtain ⟨a,vs,rfl,h1,h2⟩:=r
   exact ⟨a,vs,rfl,Same.seq g.fh h1,RelCs.dats h2⟩
 · rename_i i
   split at h<;>cases h
   rename_i ho
   obtain ⟨vs,h1,h2⟩:=g.ok i _ ho
   exact ⟨_,vs,r.2,SqL.of h1,h2⟩
 · cases h
def ggT (n:Nat) (bs:Fbs):Fb:=fun c ch δ=>match zV ch c with
 | some l=>if l.length=n then bs l ch δ else none
 | none=>(zU ch c).bind fun l=>if l.length=n then bs l ch δ else none
def zW {k n:Nat} {bs:Fbs} (hc:X.calm=true) (h:GGs X es bs) (hn:(assignEach es X.env).length=n:=by rfl) (hst:(assignEach es X.env).findIdx? (·.1)=none:=by rfl):GG X (.Tuple es k pos) (ggT n bs):=
 PG.mono (PG.or (zS hc h hn hst) (tp hc h hn hst)) fun v σ H Q ⟨δ,ch,F,ρ,c,δ',en,r,hb,q⟩=>by
  unfold ggT at hb
  split at hb
  · rename_i l hl
    split at hb<;>first | (cases hb;done) | skip
    rename_i hz
    obtain ⟨a,vs,rfl,h1,h2⟩:=wR en.gh hl r
    exact .inl ⟨a,vs,rfl,h1,by rw [h2.length];exact hz,δ,ch,F,ρ,l,δ',en,h2,hb,q⟩
  · obtain ⟨l,hl,hb1⟩:=bS hb
    split at hb1<;>first | (cases hb1;done) | skip
    rename_i hz
    obtain ⟨a,vs,rfl,h1,h2⟩:=wP en.gh hl r
    exact .inr ⟨a,vs,rfl,h1,by rw [h2.length];exact hz,δ,ch,F,ρ,l,δ',en,h2,hb1,q⟩
noncomputable def iX (i:Nat) (b:Fb) (g:Fs):Nat->Nat->Sl->CH->Option Og
 | 0,_,_,_=>none
 | n+1,k,δ,ch=>match ch[i]? with
  | some (.lst l)=>match l[k]? with
   | none=>some (.nx δ ch)
   | some c=>(b c ch δ).bind fun δ1=>(g δ1 ch).bind fun o=>match o with
    | .nx δ2 ch2=>iX i b g n (k+1) δ2 ch2
    | .ct δ2 ch2=>iX i b g n (k+1) δ2 ch2
    | .bk δ2 ch2=>some (.nx δ2 ch2)
    | .rt c ch2=>some (.rt c ch2)
  | _=>none
def g5 (fd:Fg) (b:Fb) (g:Fs) (n:Nat):Fs:=fun δ ch=>(fd δ ch).bind fun p=>match p.1 with
 | .ref i=>iX i b g n 0 δ p.2
 | _=>none
def qV {b:Fb} (n:Nat) (hp:PassesOwn (model X.prog X.w) X.A X.env X.xe) (hc:X.calm=true) (hd:GE X iter fa) (hg:GG X tg b) (hb:GS X body g)
  (hs:∀ x,foldedSetIterable iter X.env x=pure x:=by intro _;rfl):GS1 X (.For tg iter body [] pos) (g5 fa b g n):=PS.mono (oT hp hc (jq hd) hg hb hs) fun D σ H ⟨δ,ch,F,ρ,og,en,hgg,k⟩=>by
 unfold g5 at hgg
 obtain ⟨⟨c1,ch1⟩,hpp,hg1⟩:=bS hgg
 clear hgg
 dsimp only at hg1
 split at hg1<;>first | (cases hg1;done) | skip
 rename_i i
 rw [l3]
 refine ⟨δ,ch,F,ρ,_,ch1,en,hpp,fun v F1 H1 ρ1 a1 r1=>?_⟩
 obtain ⟨hi,rfl⟩:=r1
 have en1:=en.adv a1
 have k1:=k.adv en.gh a1
 refine ⟨ρ1 i,rfl,?_,?_⟩
 · cases n with
   | zero=>cases hg1
   | succ n =>
    unfold iX at hg1
    split at hg1<;>first | (cases hg1;done) | skip
    rename_i l hl
    obtain ⟨vs,q1,_⟩:=a1.gh.ok i _ hl
    exact ⟨vs,SqL.of q1⟩
 refine ⟨fun j m σ' H'=>∃ δ' ch' F' ρ',Adv X.K F1 H1 ρ1 ch1 F' H' ρ' ch'/\Ge X.K δ' ch' σ' F' H' ρ'/\iX i b g m j δ' ch'=some og,⟨n,δ,ch1,F1,ρ1,Adv.refl a1.gh,en1,hg1⟩,?_⟩
 rintro j m σ' H' ⟨δ',ch',F',ρ',a',en',hgo⟩
 cases m with
 | zero=>cases hgo
 | succ m =>
  unfold iX at hgo
  split at hgo<;>first | (cases hgo;done) | skip
  rename_i l hl
  obtain ⟨vs,q1,q2⟩:=a'.gh.ok i _ hl
  rw [a'.ext i hi] at q1
  split at hgo
  · rename_i hj
    cases hgo
    refine .inl ⟨⟨vs,SqL.of q1,?_⟩,k1 σ' F' H' ρ' a' en'⟩
    rw [q2.length]
    exact List.getElem?_eq_none_iff.mp hj
  · rename_i c hj
    obtain ⟨δ1,z1,hgo1⟩:=bS hgo
    obtain ⟨o1,z2,hgo2⟩:=bS hgo1
    clear hgo hgo1
    obtain ⟨v,hv,rv⟩:=q2.get hj
    refine .inr ⟨⟨vs,v,SqL.of q1,hv⟩,fun σ2 H2=>∃ δ' ch' F' ρ',Adv X.K F1 H1 ρ1 ch1 F' H2 ρ' ch'/\Ge X.K δ' ch' σ2 F' H2 ρ'/\iX i b g m (j+1) δ' ch'=some og,fun σ2 H2 z=>⟨m,by omega,z⟩,fun x H'' hy=>?_⟩
    obtain ⟨rfl,hy⟩:=hy
    have hx:=hy vs (SqL.of q1)
    rw [hv] at hx
    cases hx
    refine ⟨δ',ch',F',ρ',c,δ1,en',rv,z1,fun σ1 en2=>⟨δ1,ch',F',ρ',o1,en2,z2,?_⟩⟩
    cases o1 with
    | nx δ2 c2=>exact fun σ2 F3 H3 ρ3 a4 en4=>⟨δ2,c2,F3,ρ3,a'.trans a1.gh a4,en4,hgo2⟩
    | ct δ2 c2=>exact fun σ2 F3 H3 ρ3 a4 en4=>⟨δ2,c2,F3,ρ3,a'.trans a1.gh a4,en4,hgo2⟩
    | bk δ2 c2=>cases hgo2;exact fun σ2 F3 H3 ρ3 a4 en4=>k1 σ2 F3 H3 ρ3 (a'.trans a1.gh a4) en4
    | rt c c2=>cases hgo2;exact fun v F3 H3 ρ3 a4 r=>k1 v F3 H3 ρ3 (a'.trans a1.gh a4) r
end
set_option maxRecDepth 20000
section
variable {K:PySem.W.Frag} {F:Hp} {ρ:Nat->Addr} {n:Nat}
end
section
variable {X:Cx} {e a b o iter tg:Expr} {es:List Expr} {body:List Stmt} {g:Fs} {f fa fb fc fe fk:Fg} {fs:Fgs} {pos apos cpos tpos p:Pos} {sc:Scope} {x:Str} {K:PySem.W.Frag}
end
def fits {a:Int} (h0:-9000000<=a) (h1:a<=9000000):Builtin.Range.rangeFitsLong a=true:=by
 unfold Builtin.Range.rangeFitsLong
 simp
 omega
section
variable {X:Cx} {tg:Expr}
variable {p pos:Pos} {sc:Scope} {x y z:Expr} {fs:De->Option (List Dt)}
end
section
variable {X:Cx} {pins:List (Addr×Obj)} {σ:St} {H:Hp} {s:Shared} {a b:Addr} {v:V} {r:Value} {A:Around} {E:Value->Shared->Prop}
end
section
variable {X:Cx} {o i e value:Expr} {pos pos' tpos:Pos} {td ty tv:TE} {fa fk fe:Fg}
end
section
variable {X:Cx} {es:List Expr} {pos:Pos}
end
section
variable {X:Cx} {e a b o iter tg:Expr} {es:List Expr} {body:List Stmt} {g:Fs} {f fa fb fc fe fk:Fg} {fs:Fgs} {pos apos cpos tpos p:Pos} {sc:Scope} {x:Str} {K:PySem.W.Frag}
end
def uG:Value->Str
 | .str k _=>k
 | _=>""
structure Tx (P:Program) (u:World) (l:List (Int×Value)) (ss:List Str):Prop where
 all:∀ e∈l,∃ k t,e.2=.str k t/\e.1=(PySem.strKind P u).hash k
 per:(l.map fun e=>uG e.2).Perm ss
 nd:ss.Nodup
variable {P:Program} {u:World}
def Tx.elems {l:List (Int×Value)} {ss:List Str} (x:Tx P u l ss):ElemsOf (PySem.strKind P u) l:=fun e he=>by
 obtain ⟨k,t,h1,h2⟩:=x.all e he
 rw [h1]
 exact ⟨⟨k,strKind_is P u k t,h2⟩,rfl⟩
def Tx.perm {l m:List (Int×Value)} {ss:List Str} (x:Tx P u l ss) (p:m.Perm l):Tx P u m ss:=⟨fun e he=>x.all e (p.mem_iff.mp he),(p.map _).trans x.per,x.nd⟩
def zX {k:Str} {v:Value} (h:(PySem.strKind P u).is k v=true):∃ t,v=.str k t:=by
 cases v<;>simp [PySem.strKind,Value.isStrOf] at h
 subst h
 exact ⟨_,rfl⟩
def Tx.mem {l:List (Int×Value)} {ss:List Str} (x:Tx P u l ss) (k:Str):k∈ss↔∃ e∈l,(PySem.strKind P u).is k e.2=true:=by
 rw [<- x.per.mem_iff]
 constructor
 · intro h
   obtain ⟨e,he,e1⟩:=List.mem_map.mp h
   obtain ⟨k',t,h1,_⟩:=x.all e he
   rw [h1] at e1
   refine ⟨e,he,?_⟩
   rw [h1,<- show k'=k from e1]
   exact strKind_is P u k' t
 · rintro ⟨e,he,h⟩
   obtain ⟨t,h1⟩:=zX h
   exact List.mem_map.mpr ⟨e,he,by rw [h1];rfl⟩
def Tx.push {l:List (Int×Value)} {ss:List Str} (x:Tx P u l ss) {k:Str} {t:Tok} (hk:k∉ss):Tx P u (l++[((PySem.strKind P u).hash k,.str k t)]) (ss++[k]):=⟨fun e he=>by
 rcases List.mem_append.mp he with he | he
 · exact x.all e he
 · rw [List.mem_singleton.mp he]
   exact ⟨k,t,rfl,rfl⟩,by
 rw [List.map_append]
 exact x.per.append_right _,by
 refine List.nodup_append.mpr ⟨x.nd,by simp,fun a ha b hb e=>?_⟩
 rw [List.mem_singleton.mp hb] at e
 exact hk (e▸ha)⟩
structure TxS (P:Program) (u:World) (h:Heap) (a:Addr) (ss:List Str) (led:Bool):Prop where
 ex:∃ o es ep t,h.get? a=some o/\o.ExactSet/\o.data=.set es ep t/\Tx P u es.toList ss/\es.size<scanBound/\t.fits es.size=true/\t.led=led/\(es.size=0∨t.plain=false)
def nQ (t:SetTable) (n:Nat):(t.orStandIn n).led=t.led/\(t.plain=false->(t.orStandIn n).plain=false):=by
 unfold SetTable.orStandIn
 split
 · exact ⟨rfl,id⟩
 · exact ⟨rfl,fun _=>rfl⟩
def pF (t:SetTable) (es:Array (Int×Value)) (h:Int) (x:Value):(layNew t es h x).2.1.led=t.led/\(t.plain=false->(layNew t es h x).2.1.plain=false):=by
 unfold layNew
 split
 · exact nQ _ _
 · exact ⟨rfl,fun _=>rfl⟩
def pG {t t':SetTable} {hs:Array Int} {n:Nat} {order:Array Nat} (h:t.relaid hs n=some (t',order)):t'.led=t.led/\t'.plain=t.plain:=by
 unfold SetTable.relaid SetTable.laid at h
 simp only [Option.bind_eq_bind,Option.bind_eq_some_iff,Option.map_eq_some_iff] at h
 obtain ⟨_,_,h⟩:=h
 cases h
 exact ⟨rfl,rfl⟩
def sv (t:SetTable) (es:Array (Int×Value)) (n:Nat):(relayAll t es n).2.1.led=t.led/\(t.plain=false->(relayAll t es n).2.1.plain=false):=by
 unfold relayAll
 split
 · rename_i t' order e
   obtain ⟨h1,h2⟩:=pG e
   dsimp only
   split
   · exact ⟨h1,fun z=>h2.trans z⟩
   · exact ⟨rfl,fun _=>rfl⟩
 · exact ⟨rfl,fun _=>rfl⟩
end L2
namespace L2
open PySem PySem.Spec PyProof.Rows
section
variable {P:Program} {u:World} {A:Around} {E:Value->Shared->Prop} {s:Shared} {a:Addr} {ss:List Str} {led:Bool}
def ly {hp:Heap} {o:Obj} {es fs:Array (Int×Value)} {ep:Nat} {tb tc:SetTable} (g1:hp.get? a=some o) (g2:o.ExactSet) (g3:o.data=.set es ep tb) (x:Tx P u fs.toList ss) (hb:fs.size<scanBound) (hf:tc.fits fs.size=true) (hl:tc.led=led) (hq:tc.plain=false) :
  (hp.update a (Obj.putSet fs tc)).get? a=some {o with data:=.set fs (ep+1) tc}/\TxS P u (hp.update a (Obj.putSet fs tc)) a ss led:=by
 have e:=(SetOf_store (knd:=PySem.strKind P u) (S':=fun k=>decide (k∈ss)) g1 g2 g3 x.elems (fun k=>by rw [decide_eq_true_eq];exact x.mem k) hb hf).1
 exact ⟨e,⟨_,fs,ep+1,tc,e,g2,rfl,x,hb,hf,hl,.inr hq⟩⟩
def wS {k:Str} {t:Tok} {Q:Bool->Shared->Prop} (hS:TxS P u s.heap a ss led) (room:ss.length+1<scanBound)
  (q:∀ hp,Heap.SameBut a s.heap hp->TxS P u hp a (if k∈ss then ss else ss++[k]) led->∀ b,Q b {s with heap:=hp}):wpAny (model P u) A (setAddHashed a (.str k t) ((PySem.strKind P u).hash k)) Q E s:=by
 obtain ⟨o,es,ep,tb,g1,g2,g3,x,hb,hf,hl,hpl⟩:=hS.ex
 have hn:es.size=ss.length:=by rw [<- x.per.length_eq,List.length_map,Array.length_toList]
 have big:es.size+1<scanBound:=by rw [hn];exact room
 unfold setAddHashed setAddHashedIn
 refine wpAny_holding (wB (wpAny_setState_of g1 g3 hf ?_))
 dsimp only
 rw [byScan_of (knd:=PySem.strKind P u) (show Value.scannable (.str k t)=true from rfl) hb x.elems]
 simp only [↓reduceIte]
 unfold setAddByScan
 refine wB (wB (wpAny_rule (wB (wpAny_setScan_of (strKind_is P u k t) g1 g3 hf x.elems ?_))))
 cases hr:List.findIdx? (fun e=>(PySem.strKind P u).is k e.2) es.toList with
 | some j =>
  dsimp only
  obtain ⟨hj,hpj,_⟩:=List.findIdx?_eq_some_iff_getElem.mp hr
  have hm:k∈ss:=(x.mem k).mpr ⟨es.toList[j],List.getElem_mem hj,hpj⟩
  refine wpAny_pure (wpAny_pure ?_)
  have:=q s.heap (Heap.SameBut.refl a s.heap) (by rw [if_pos hm];exact hS) false
  rw [show s={s with heap:=s.heap} by cases s;rfl]
  exact this
 | none =>
  dsimp only
  have hm:k∉ss:=fun z=>by
   obtain ⟨e,he,hp⟩:=(x.mem k).mp z
   have:=List.findIdx?_eq_none_iff.mp hr e he
   rw [hp] at this
   exact Bool.noConfusion this
  rw [if_neg hm] at q
  have perm:=layNew_perm tb es ((PySem.strKind P u).hash k) (.str k t)
  have fits:=layNew_fits tb es ((PySem.strKind P u).hash k) (.str k t)
  have ledd:=pF tb es ((PySem.strKind P u).hash k) (.str k t)
  generalize layNew tb es ((PySem.strKind P u).hash k) (.str k t)=L at perm fits ledd ⊢
  obtain ⟨fs,tc,wasD,gave⟩:=L
  dsimp only at perm fits ledd ⊢
  rw [Array.toList_push] at perm
  have y:Tx P u fs.toList (ss++[k]):=(x.push hm).perm perm
  have hb2:fs.size<scanBound:=by rw [<- Array.length_toList,perm.length_eq,List.length_append,Array.length_toList];simpa using big
  have gw:∀ (b:Bool) {s1:Shared} {Q1:Unit->Shared->Prop},Q1 () s1->wpAny (model P u) A (match b with | true=>rule "set.scan.the-table-gave-way" | false=>pure ()) Q1 E s1:=fun b s1 Q1 z=>by
   cases b
   · exact wpAny_pure z
   · exact wpAny_rule z
  refine wB (gw _ ?_)
  have tail:∀ tc2:SetTable,tc2.fits fs.size=true->tc2.led=led->tc2.plain=false->wpAny (model P u) A (do
      storeSet a fs tc2
      if (!wasD&&tc2.tooFull)=true then do
          (match (relayAll tc2 fs (SetTable.grown fs.size)).2.2 with | true=>rule "set.scan.the-table-gave-way" | false=>pure ())
          storeSet a (relayAll tc2 fs (SetTable.grown fs.size)).1 (relayAll tc2 fs (SetTable.grown fs.size)).2.1
          pure (some true)
       else pure (some true)) (fun r s1=>wpAny (model P u) A (match r with | some added=>pure added | none=>setAddHashedIn a (.str k t) ((PySem.strKind P u).hash k) 99999) Q E s1) E s:=fun tc2 h1 h2 h3=>by
   refine wB (wpAny_storeSet_of g1 g3 ?_ (fits_of_scanBound hb2))
   obtain ⟨e1,T1⟩:=ly g1 g2 g3 y hb2 h1 h2 h3
   have sb:=Heap.SameBut.update s.heap a (Obj.putSet fs tc2)
   split
   · have p2:=relayAll_perm tc2 fs (SetTable.grown fs.size)
     have f2:=relayAll_fits tc2 fs (SetTable.grown fs.size)
     have l2:=sv tc2 fs (SetTable.grown fs.size)
     generalize relayAll tc2 fs (SetTable.grown fs.size)=M at p2 f2 l2 ⊢
     obtain ⟨gs,td,gave2⟩:=M
     dsimp only at p2 f2 l2 ⊢
     have sz:gs.size=fs.size:=by rw [<- Array.length_toList,p2.length_eq,Array.length_toList]
     have hb3:gs.size<scanBound:=by rw [sz];exact hb2
     refine wB (gw _ (wB (wpAny_storeSet_of e1 rfl ?_ (fits_of_scanBound hb3))))
     obtain ⟨_,T2⟩:=ly e1 g2 rfl (y.perm p2) hb3 f2 (l2.1.trans h2) (l2.2 h3)
     exact wpAny_pure (wpAny_pure (q _ (sb.trans (Heap.SameBut.update _ a _)) T2 true))
   · exact wpAny_pure (wpAny_pure (q _ sb T1 true))
  split
  · refine wB ?_
    rw [hashByValue_scannable 8 (show Value.scannable (.str k t)=true from rfl)]
    refine wpAny_pure ?_
    exact tail {tc with plain:=false} (SetTable.fits_plain_off fits) (ledd.1.trans hl) rfl
  · rename_i hpl2
    exact tail tc fits (ledd.1.trans hl) (by simpa using hpl2)
end
def kF (acc:List Str) (k:Str):List Str:=if k∈acc then acc else acc++[k]
def met (val:Nat->Str) (i:Nat):List Str:=((List.range i).map val).foldl kF []
def nR (val:Nat->Str) (i:Nat):met val (i+1)=kF (met val i) (val i):=by
 unfold met
 rw [List.range_succ,List.map_append,List.foldl_append]
 rfl
def mf (val:Nat->Str):∀ i,(met val i).length<=i
 | 0=>nL _
 | i+1=>by
  rw [nR]
  have:=mf val i
  unfold kF
  split
  · omega
  · rw [List.length_append,List.length_singleton]
    omega
section
variable {P:Program} {u:World} {A:Around} {R:Result->Shared->Prop} {I:Addr} {fp wr:List Addr} {G:Array GenState->Array GenState->Prop} {n:Nat} {Pv:Nat->Value->Prop} {St:Nat->Shared->Prop} {led:Bool}
def TxS.moved {h h':Heap} {a:Addr} {ss:List Str} (x:TxS P u h a ss led) (e:∀ o,h.get? a=some o->h'.get? a=some o):TxS P u h' a ss led:=by
 obtain ⟨o,es,ep,t,g,r⟩:=x.ex
 exact ⟨o,es,ep,t,e o g,r⟩
def uH (W:WalksS P u A.in1 I fp wr G n Pv St) (S:Addr) (out:S∉fp) (val:Nat->Str) (hval:∀ i v,Pv i v->∃ t,v=.str (val i) t) (hb:n+1<scanBound) :
  ∀ (m i:Nat) (s:Shared),n-i=m->i<=n->St i s->TxS P u s.heap S (met val i) led->(∀ s',Moved (S::wr) G s s'->TxS P u s'.heap S (met val n) led->R (.ok (.ret .none)) s')→
   codeAny (model P u) A (.builtin "set.update.loop" ⟨[.ref S,.ref I],[]⟩) R s:=by
 have nw:S∉wr:=fun h=>out (W.sub _ h)
 have sub:∀ b∈wr,b∈S::wr:=fun b hb=>List.mem_cons_of_mem _ hb
 intro m
 induction m with
 | zero =>
  intro i s hm hi hst hS hR
  obtain rfl:i=n:=by omega
  refine codeAny_builtin F.entry_set_update_loop ?_
  rw [Around.under_plainId F.plain_set_update_loop _]
  refine wB (W.done s _ _ hst fun s1 mv=>?_)
  exact wpAny_pure (hR s1 (mv.mono sub) (hS.moved fun o e=>mv.heap S _ nw e))
 | succ m ih =>
  intro i s hm hi hst hS hR
  have lt:i<n:=by omega
  refine codeAny_builtin F.entry_set_update_loop ?_
  rw [Around.under_plainId F.plain_set_update_loop _]
  refine wB (W.item i s _ _ lt hst fun v s1 hP hst1 mv=>?_)
  obtain ⟨t,rfl⟩:=hval i v hP
  have hS1:TxS P u s1.heap S (met val i) led:=hS.moved fun o e=>mv.heap S _ nw e
  show wpAny _ A.in1 (holding [Value.str (val i) t] (setAdd S (.str (val i) t)) >>= _) _ _ s1
  refine wB (wpAny_holding ?_)
  unfold setAdd
  refine wpAny_holding (wB ((PySem.strKind P u).pyHash (k:=val i) (strKind_is P u _ _) ?_))
  have room:(met val i).length+1<scanBound:=by have:=mf val i;omega
  refine wS (s:={s1 with toks:=s1.toks+1}) hS1 room fun h2 sb hS2 b=>?_
  have hS3:TxS P u h2 S (met val (i+1)) led:=by rw [nR];exact hS2
  refine wpAny_pure ⟨plainId_quiet F.plain_set_update_loop _,ih (i+1) _ (by omega) lt (W.frame _ s1 _ _ hst1 (Nat.le_succ _) fun b hb o e=>?_) hS3 fun s2 mv2 hS4=>?_⟩
  · rw [sb.2 b (fun h:b=S=>out (by rw [<- h];exact hb))]
    exact e
  · refine hR s2 (Moved.trans W.gtrans ((mv.mono sub).then_heap (Nat.le_succ _) fun b o hb e=>?_) mv2) hS4
    rw [sb.2 b (fun h:b=S=>hb (by rw [h];exact List.mem_cons_self))]
    exact e
end
def cF (u:World):Bool:=!(u.params.followText "set-order")
section
variable {P:Program} {u:World} {A:Around} {E:Value->Shared->Prop} {s:Shared}
def wT (v:Value) {Q1:Value->Shared->Prop} (q:Q1 (.ref s.heap.objs.size) {s with heap:=s.heap.push {cls:=.type "set",dict:=none,data:=.set #[] 0 (.fresh 0 0 (cF u))}}) :
  codeAny (model P u) A (.call (.builtin "set.__new__") ⟨[.type "set",v],[]⟩) (wants Q1 E) s:=by
 refine codeAny_of_tree ?_
 show wpAny _ A.in1 (do checkBuiltinCall "set.__new__" ⟨[.type "set",v],[]⟩;again (.builtin "set.__new__" ⟨[.type "set",v],[]⟩)) _ _ s
 refine wB (wpAny_of_eq (F.newCall_set_1 v) (wpAny_pure ⟨plainId_quiet F.plain_set_new _,codeAny_builtin F.entry_set_new ?_⟩))
 rw [Around.under_plainId F.plain_set_new _]
 unfold Builtin.«set.__new__» Builtin.Frozenset.newClass
 have z:=sub_set_self
 obtain ⟨hp,g,d,tk,os⟩:=s
 dsimp only
 wp_walk
 refine wpAny_askSetting (wpAny_pure ?_)
 dsimp only
 simp only [newObj]
 refine wB (wpAny_alloc (wpAny_pure ?_))
 exact wpAny_pure q
end
section
variable {P:Program} {u:World} {A:Around} {E:Value->Shared->Prop} {s:Shared}
def sw {hp:Heap} {a:Addr} {led:Bool} (e:hp.get? a=some {cls:=.type "set",dict:=none,data:=.set #[] 0 (.fresh 0 0 led)}):TxS P u hp a [] led:=
 ⟨_,#[],0,.fresh 0 0 led,e,⟨rfl,rfl,rfl⟩,rfl,⟨(fun e he=>by cases he),List.Perm.refl _,List.nodup_nil⟩,(by unfold scanBound;decide),(by cases led<;>rfl),rfl,.inl rfl⟩
def uI {l:Addr} {vs:Array Value} {val:Nat->Str} {Q:Value->Shared->Prop} (calm:A.handled=none) (hl:s.heap.IsList l vs) (hi:∀ (i:Nat) (v:Value),vs[i]?=some v->∃ t,v=.str (val i) t) (hb:vs.size+1<scanBound)
  (q:∀ (hp:Heap) (tk:Nat),TxS P u hp s.heap.objs.size (met val vs.size) (cF u)->(∀ b o,b<s.heap.objs.size->s.heap.get? b=some o->hp.get? b=some o)->Q (.ref s.heap.objs.size) {s with heap:=hp,toks:=tk}) :
  wpAny (model P u) A (call (.type "set") [.ref l]) Q E s:=by
 obtain ⟨c0,tl0,m0⟩:=F.called_set.mro
 have m1:=F.called_set.made
 have m2:=F.called_set.sub
 refine wpAny_call (codeAny_of_tree ?_)
 show wpAny _ _ (callAny (.type "set") _) _ _ _
 refine wpAny_pure ⟨Code.quiet_builtin _ (by decide +kernel),codeAny_builtin F.entry_type_call ?_⟩
 rw [Around.under_plain (weight_type_call_type "set" [.ref l] []) rfl]
 have m3:=F.called_set.notType
 have m4:=F.called_set.canCreate
 have m5:=F.typeCall_set_1 (.ref l)
 repeat (any_goals (first | assumption | wp_step))
 refine codeAny_mono (wT (.ref l) (E:=E) (Q1:=fun x s1=>x=.ref s.heap.objs.size/\s1={s with heap:=s.heap.push {cls:=.type "set",dict:=none,data:=.set #[] 0 (.fresh 0 0 (cF u))}}) ⟨rfl,rfl⟩) fun r s1 hr=>?_
 cases r with
 | error e=>exact hr
 | ok fl =>
  cases fl with
  | ret x =>
   obtain ⟨rfl,rfl⟩:=hr
   have gS:(s.heap.push {cls:=.type "set",dict:=none,data:=.set #[] 0 (.fresh 0 0 (cF u))}).get? s.heap.objs.size=some {cls:=.type "set",dict:=none,data:=.set #[] 0 (.fresh 0 0 (cF u))}:=Heap.get?_push_size _ rfl
   have tS:Shared.TypeIs {s with heap:=s.heap.push {cls:=.type "set",dict:=none,data:=.set #[] 0 (.fresh 0 0 (cF u))}} (.ref s.heap.objs.size) "set":=⟨_,gS,rfl⟩
   have n1:=F.called_set.init.lookup
   have n2:=F.called_set.init.bind (.ref s.heap.objs.size)
   repeat (any_goals (first | assumption | wp_step))
   refine codeAny_mono (codeAny_call_builtin (R:=wants (fun r s2=>r=.none/\∃ hp tk,s2={s with heap:=hp,toks:=tk}/\TxS P u hp s.heap.objs.size (met val vs.size) (cF u)/\(∀ b o,b<s.heap.objs.size->s.heap.get? b=some o->hp.get? b=some o)) E) F.called_set.init.plain F.entry_set_init (check_set_init_1 tS ?_)) fun r2 s2 hr2=>?_
   · obtain ⟨ol,hol,hcl,nl,hdl⟩:=hl
     obtain ⟨oc,od,oda,osl⟩:=ol
     simp only at hcl hdl
     subst hcl hdl
     have hol2:(s.heap.push {cls:=.type "set",dict:=none,data:=.set #[] 0 (.fresh 0 0 (cF u))}).get? l=some {cls:=.type "list",dict:=od,data:=.seq vs nl,slots:=osl}:=gP _ hol
     have k1:=F.sub_list_set
     have k2:=F.sub_list_frozenset
     have k3:(Value.type "list"==Value.type "dict")=false:=by decide
     have hl1:(s.heap.push {cls:=.type "set",dict:=none,data:=.set #[] 0 (.fresh 0 0 (cF u))}).IsList l vs:=⟨_,hol2,rfl,nl,rfl⟩
     unfold Builtin.«set.__init__» noKeywords Builtin.Frozenset.updateFrom
     generalize hPI:pyIter=PI
     wp_walk
     subst hPI
     refine wpAny_pyIter_list hl1 (wB (wpAny_runValue ?_))
     have ls:l<s.heap.objs.size:=Heap.lt_size hol
     have c3:A.in1.in1.in1.handled=none:=by simp [calm]
     have ne1:l≠(s.heap.push {cls:=.type "set",dict:=none,data:=.set #[] 0 (.fresh 0 0 (cF u))}).objs.size:=by
      rw [Heap.size_push]
      exact Nat.ne_of_lt (Nat.lt_succ_of_lt ls)
     have ne2:s.heap.objs.size∉[(s.heap.push {cls:=.type "set",dict:=none,data:=.set #[] 0 (.fresh 0 0 (cF u))}).objs.size,l]:=by
      rw [Heap.size_push]
      simp only [List.mem_cons,List.mem_singleton,List.not_mem_nil,or_false,not_or]
      exact ⟨Nat.ne_of_lt (Nat.lt_succ_self _),Nat.ne_of_gt ls⟩
     refine uH ((Walks.list c3 _ l ne1 vs).toS) s.heap.objs.size ne2 val hi hb (vs.size-0) 0 _ (by omega) (Nat.zero_le _) ⟨⟨_,Heap.get?_push_size _ rfl,rfl,rfl⟩,(hl1.push _)⟩ (sw (gP _ gS)) fun s3 mv hS3=>?_
     obtain ⟨hp,g3,d3,tk3,o3⟩:=s3
     have eg:g3=s.gens:=mv.gens
     have ed:d3=s.drawn:=mv.drawn
     have eo:o3=s.os:=mv.os
     subst eg ed eo
     show wpAny _ _ _ _ _ _
     refine wpAny_pure ?_
     show wpAny _ _ (ret Value.none) _ _ _
     refine wpAny_pure ⟨rfl,hp,tk3,rfl,hS3,fun b o hb e=>?_⟩
     have b1:b≠s.heap.objs.size:=Nat.ne_of_lt hb
     have b2:b≠(s.heap.push {cls:=.type "set",dict:=none,data:=.set #[] 0 (.fresh 0 0 (cF u))}).objs.size:=by
      rw [Heap.size_push]
      exact Nat.ne_of_lt (Nat.lt_succ_of_lt hb)
     exact mv.heap b o (by simp only [List.mem_cons,List.mem_singleton,List.not_mem_nil,or_false,not_or];exact ⟨b1,b2⟩) (Heap.get?_push_of_some _ (Heap.get?_push_of_some _ e))
   · cases r2 with
     | error e=>exact hr2
     | ok f2 =>
      cases f2 with
      | ret r =>
       obtain ⟨rfl,hp,tk,rfl,hS3,kept⟩:=hr2
       repeat (any_goals (first | assumption | wp_step))
       exact q _ _ hS3 kept
      | _=>exact hr2.elim
  | _=>exact hr.elim
end
def iY {α:Type}:∀ {l:List α} {i:Nat} (h:i<l.length),(l[i]::l.eraseIdx i).Perm l
 | x::l,0,h=>List.Perm.refl _
 | x::l,i+1,h=>by
  have:=iY (l:=l) (i:=i) (by simpa using h)
  exact (List.Perm.swap _ _ _).trans (this.cons x)
section
variable {M:Model} {A:Around} {E:Value->Shared->Prop}
def pH {src:Source} {n:Nat} {Q:Nat->Shared->Prop} {s:Shared} (hn:n≠0) (q:∀ i d,i<n->Q i {s with drawn:=d}):wpAny M A (choose src n) Q E s:=fun G p hG=>by
 show Sem.wp M G (.choose src n .pure) _ _ p s
 rw [Sem.wp_choose]
 refine ⟨hn,?_⟩
 rw [Sem.wp_pure]
 exact q _ _ (Nat.mod_lt _ (Nat.pos_of_ne_zero hn))
def gF {α:Type}:∀ (n:Nat) (xs:List α) {Q:List α->Shared->Prop} {s:Shared},xs.length=n->(∀ ys d,ys.Perm xs->Q ys {s with drawn:=d})->wpAny M A (drawOrder n xs) Q E s
 | 0,xs,Q,s,hl,q=>by
  have e:xs=[]:=List.length_eq_zero_iff.mp hl
  subst e
  show wpAny M A (pure []) Q E s
  refine wpAny_pure ?_
  have:=q [] s.drawn (List.Perm.refl _)
  cases s
  exact this
 | n+1,[],Q,s,hl,q=>by cases hl
 | n+1,x::xs,Q,s,hl,q=>by
  show wpAny M A (choose .order (x::xs).length >>= fun i=>match (x::xs)[i]? with | some y=>(drawOrder n ((x::xs).eraseIdx i)) >>= fun ys=>pure (y::ys) | none=>unsupported "internal:drawOrder") Q E s
  refine wpAny_bind (pH (by simp) fun i d hi=>?_)
  rw [gQ hi]
  dsimp only
  refine wB (gF n ((x::xs).eraseIdx i) (by rw [List.length_eraseIdx_of_lt hi];omega) fun ys d2 p=>wpAny_pure (q _ d2 ?_))
  exact (p.cons _).trans (iY hi)
end
def mh:entryFor table "set.__iter__"=some Builtin.«frozenset.__iter__»:=entryFor_alias (id':="frozenset.__iter__") (by kernel_rfl) rfl (by decide +kernel) (by kernel_rfl)
def je:typeLookup (.type "set_iterator") "__next__"=pure (some (.builtin "set_iterator.__next__")):=by rw [typeLookup_type,builtinLookup_eq_fast];kernel_rfl
section
variable {P:Program} {u:World} {A:Around} {E:Value->Shared->Prop} {s:Shared} {a:Addr} {o:Obj} {es:Array (Int×Value)} {ep:Nat} {t:SetTable}
def jT (first:Value) (i:Int) (a:Addr) (n ep:Nat):Obj:={cls:=.type "set_iterator",data:=.fields #[first,rawInt i,.ref a,rawInt n,rawInt ep]}
def nS {Q:Value->Shared->Prop} (g1:s.heap.get? a=some o) (g2:o.ExactSet) (g3:o.data=.set es ep t) (hf:t.fits es.size=true) (hb:es.size<scanBound)
  (q1:∀ (ys:List Nat) d,cF u=true->(t.plain=false/\1<es.size)->ys.Perm (List.range es.size)->Q (.ref (s.heap.objs.size+1)) {s with drawn:=d,heap:=(s.heap.push {cls:=.type "tuple",data:=.seq (ys.map fun (i:Nat)=>rawInt i).toArray}).push (jT (.ref s.heap.objs.size) 0 a es.size ep)})
  (q2:(cF u=false∨¬ (t.plain=false/\1<es.size))->Q (.ref s.heap.objs.size) {s with heap:=s.heap.push (jT (rawInt 0) 0 a es.size ep)}):wpAny (model P u) A (pyIter (.ref a)) Q E s:=by
 have hT:s.TypeIs (.ref a) "set":=⟨o,g1,g2.1⟩
 refine wpAny_pyIter_slot hT F.slot_set_iter (wpAny_call_entry F.slot_set_iter hT mh ?_ (F.args_set_iter_1 _))
 unfold Builtin.«frozenset.__iter__»
 refine wB (wB (wpAny_pure (wpAny_pure ?_)))
 unfold Builtin.Frozenset.sizeOf setEntries
 refine wB (wB (wB (wpAny_setState_of g1 g3 hf (wpAny_pure (wpAny_pure ?_)))))
 unfold setDrawn setsByText
 refine wB (wB (wpAny_setState_of g1 g3 hf (wB (wB (wpAny_askSetting (wpAny_pure (wpAny_pure ?_)))))))
 have hl:(!(u.params.followText "set-order"))=cF u:=rfl
 show wpAny (model P u) A.in1 (if (!(u.params.followText "set-order")&&(!t.plain&&decide (es.size > 1)))=true then (drawOrder es.size (List.range es.size) >>= fun ys=>newTuple (ys.map fun (i:Nat)=>rawInt i) >>= fun first=>setEpoch a >>= fun e=>newFields "set_iterator" [first,rawInt 0,.ref a,rawInt es.size,rawInt e] >>= fun v=>ret v) else (pure (rawInt 0) >>= fun first=>setEpoch a >>= fun e=>newFields "set_iterator" [first,rawInt 0,.ref a,rawInt es.size,rawInt e] >>= fun v=>ret v)) _ _ s
 rw [hl]
 by_cases hd:(cF u&&(!t.plain&&decide (es.size > 1)))=true
 · rw [if_pos hd]
   simp only [Bool.and_eq_true,Bool.not_eq_true',decide_eq_true_eq] at hd
   refine wpAny_bind (gF _ _ (by simp) fun ys d p=>?_)
   have hlen:ys.length=es.size:=by rw [p.length_eq,List.length_range]
   refine wB ?_
   refine wpAny_newTuple ?_ (by rw [List.length_map,hlen];exact fits_of_scanBound hb)
   unfold setEpoch
   refine wB (wB (wpAny_setState_of (s:={s with drawn:=d,heap:=s.heap.push {cls:=.type "tuple",data:=.seq (ys.map fun (i:Nat)=>rawInt i).toArray}}) (gP _ g1) g3 hf (wpAny_pure ?_)))
   refine wB (wpAny_newObj_type (wpAny_pure ⟨_,rfl,"set_iterator",_,⟨_,Heap.get?_push_size _ rfl,rfl⟩,je,?_⟩))
   have:=q1 ys d hd.1 hd.2 p
   rw [Heap.size_push]
   exact this
 · rw [if_neg hd]
   refine wB (wpAny_pure ?_)
   unfold setEpoch
   refine wB (wB (wpAny_setState_of g1 g3 hf (wpAny_pure ?_)))
   refine wB (wpAny_newObj_type (wpAny_pure ⟨_,rfl,"set_iterator",_,⟨_,Heap.get?_push_size _ rfl,rfl⟩,je,?_⟩))
   refine q2 ?_
   by_cases h1:cF u=true
   · right
     intro z
     exact hd (by rw [h1,z.1];simp;exact z.2)
   · left
     simpa using h1
end
def lz:Manifest.owners.lookup (String.ofList ['r','o','t','a','r','e','t','i','_','t','e','s'].reverse)=some Manifest.sig_set_iterator:=by kernel_rfl
def slot_setit:Slot "set_iterator" "__next__" "set_iterator.__next__":=.of (owner:="set_iterator") (n:="__next__") (by rw [typeLookup_type,builtinLookup_eq_fast];kernel_rfl) (by decide +kernel) (by decide +kernel) (by decide +kernel) (by first | exact .inl (by decide +kernel) | exact .inr (by decide +kernel)) (by rw [isSubtype_type];kernel_rfl)
def gn:entryFor table "set_iterator.__next__"=some Builtin.«set_iterator.__next__»:=entryFor_of_tree (by kernel_rfl)
def e8 (v:Value):argsOk "set_iterator.__next__" ⟨[v],[]⟩:=by unfold argsOk;rw [signature?_of (id:="set_iterator.__next__") (n:=['_','_','t','x','e','n','_','_']) (o:=['r','o','t','a','r','e','t','i','_','t','e','s']) (by kernel_rfl) lz];kernel_rfl
section
variable {P:Program} {u:World} {A:Around} {E:Value->Shared->Prop} {s:Shared} {a I:Addr} {o:Obj} {es:Array (Int×Value)} {ep n:Nat} {t:SetTable}
def ItAt (h:Heap) (I:Addr) (first:Value) (i:Nat) (a:Addr) (n ep:Nat):Prop:=∃ q,h.get? I=some q/\q.cls=.type "set_iterator"/\q.data=.fields #[first,rawInt i,.ref a,rawInt n,rawInt ep]
def ItAt.ty {first:Value} {i:Nat} (x:ItAt s.heap I first i a n ep):s.TypeIs (.ref I) "set_iterator":=let ⟨q,h,c,_⟩:=x;⟨q,h,c⟩
def jU {T:Addr} {ot:Obj} {ps:Array Value} {m i p:Nat} {hx:Int} {x:Value} {Q:Option Value->Shared->Prop} (hit:ItAt s.heap I (.ref T) i a es.size ep) (g1:s.heap.get? a=some o) (g3:o.data=.set es ep t) (hf:t.fits es.size=true) (k1:s.heap.get? T=some ot) (k2:ot.data=.seq ps m) (hp:ps[i]?=some (rawInt p)) (hx:es[p]?=some (hx,x))
  (q:∀ h',ItAt h' I (.ref T) (i+1) a es.size ep->Heap.SameBut I s.heap h'->Q (some x) {s with heap:=h'}):wpAny (model P u) A (pyNext (.ref I)) Q E s:=by
 obtain ⟨oi,hi,hc,hd⟩:=id hit
 unfold pyNext
 refine wB (wpAny_attempt (wpAny_callSpecial?_slot (name:=Str.ofString "__next__") hit.ty slot_setit (wpAny_call_entry slot_setit hit.ty gn ?_ (e8 _))))
 unfold Builtin.«set_iterator.__next__»
 refine wB (wpAny_pure (wB (wpAny_fieldsOf hi hd ?_)))
 unfold setEntries
 refine wB (wB (wpAny_setState_of g1 g3 hf (wpAny_pure ?_)))
 rw [if_neg (by simp)]
 refine wB (wpAny_seqItems k1 k2 ?_)
 dsimp only
 rw [Int.toNat_natCast,hp]
 show wpAny _ _ (setNextDrawn a ((p:Int)).toNat ((ep:Int)).toNat >>= fun x=>setField (.ref I) 1 (rawInt ((i:Int)+1)) >>= fun _=>ret x) _ _ s
 rw [Int.toNat_natCast,Int.toNat_natCast]
 unfold setNextDrawn
 refine wB (wB (wpAny_setState_of g1 g3 hf ?_))
 dsimp only
 rw [if_neg (by simp),hx]
 refine wpAny_pure ?_
 refine wpAny_bind (wpAny_setField hi hd (by simp) ?_)
 have hit2:ItAt (s.heap.update I (Obj.mapFields (·.setIfInBounds 1 (rawInt ((i:Int)+1))))) I (.ref T) (i+1) a es.size ep:=
  ⟨_,Heap.get?_update_self _ hi (Obj.isFreed_of_fields (Obj.data_mapFields hd _)),(Obj.cls_mapFields ..).trans hc,by rw [Obj.data_mapFields hd];simp [rawInt]⟩
 exact wpAny_pure ⟨_,rfl,wpAny_pure (q _ hit2 (Heap.SameBut.update ..))⟩
end
set_option maxHeartbeats 400000
section
variable {P:Program} {u:World} {A:Around} {E:Value->Shared->Prop} {s:Shared} {a I:Addr} {o:Obj} {es:Array (Int×Value)} {ep n:Nat} {t:SetTable}
def kG {T:Addr} {ot:Obj} {ps:Array Value} {m:Nat} {Q:Option Value->Shared->Prop} (calm:A.handled=none) (hit:ItAt s.heap I (.ref T) es.size a es.size ep) (g1:s.heap.get? a=some o) (g3:o.data=.set es ep t) (hf:t.fits es.size=true) (k1:s.heap.get? T=some ot) (k2:ot.data=.seq ps m) (hp:ps.size=es.size)
  (q:∀ h',Heap.ExtBut I s.heap h'->Q none {s with heap:=h'}):wpAny (model P u) A (pyNext (.ref I)) Q E s:=by
 obtain ⟨oi,hi,hc,hd⟩:=id hit
 unfold pyNext
 refine wB (wpAny_attempt (wpAny_callSpecial?_slot (name:=Str.ofString "__next__") hit.ty slot_setit (wpAny_call_entry slot_setit hit.ty gn ?_ (e8 _))))
 unfold Builtin.«set_iterator.__next__»
 refine wB (wpAny_pure (wB (wpAny_fieldsOf hi hd ?_)))
 unfold setEntries
 refine wB (wB (wpAny_setState_of g1 g3 hf (wpAny_pure ?_)))
 rw [if_neg (by simp)]
 refine wB (wpAny_seqItems k1 k2 ?_)
 dsimp only
 rw [Int.toNat_natCast,Array.getElem?_eq_none (by omega)]
 show wpAny _ _ (setField (.ref I) 0 (rawInt 0) >>= fun _=>setField (.ref I) 2 .none >>= fun _=>newExc (.type "StopIteration") [] >>= fun e=>raiseNew e) _ _ s
 refine wpAny_bind (wpAny_setField hi hd (by simp) ?_)
 refine wpAny_bind (wpAny_setField (Heap.get?_update_self _ hi (Obj.isFreed_of_fields (Obj.data_mapFields hd _))) (Obj.data_mapFields hd _) (by simp) ?_)
 show wpAny _ _ (newExc (.type "StopIteration") [] >>= _) _ _ _
 refine wB ?_
 simp only [newExc,newTuple]
 refine wB (wpAny_newObj_type ?_ (by size_fits))
 refine wpAny_bind (m:=firstArgMember _ _) (wpAny_of_eq (a:=Value.none) (by first | rfl | (simp only [firstArgMember];rfl)) ?_)
 refine wpAny_newObj_type ?_ (by size_fits)
 simp only [raiseNew]
 refine wB (wpAny_handled ?_)
 rw [show A.in1.handled=none from calm]
 refine wB (wpAny_pure (wpAny_throw ?_))
 refine wB (wpAny_isInstance (T:="StopIteration") (b:=true) ⟨_,Heap.get?_push_size _ rfl,rfl⟩ isSubtype_stop ?_)
 exact wpAny_pure (q _ (((Heap.SameBut.update ..).trans (Heap.SameBut.update ..)).extBut.push _ |>.push _))
end
def qW {α:Type} (f:Nat->Nat):∀ (n k:Nat) (l:List α) (out:Array α),l.length=n->(pickOrder.go f n k l out).toList.Perm (out.toList++l)
 | 0,k,l,out,hl=>by
  have e:l=[]:=List.length_eq_zero_iff.mp hl
  subst e
  rw [pickOrder.go,List.append_nil]
 | n+1,k,l,out,hl=>by
  have hlt:f k%l.length<l.length:=Nat.mod_lt _ (by omega)
  rw [pickOrder.go,gQ hlt]
  dsimp only
  refine (qW f n (k+1) (l.eraseIdx (f k%l.length)) (out.push l[f k%l.length]) (by rw [List.length_eraseIdx_of_lt hlt];omega)).trans ?_
  rw [Array.toList_push,List.append_assoc]
  exact List.Perm.append_left _ (iY hlt)
def qX {α:Type} (f:Nat->Nat) (xs:Array α):(pickOrder f xs).toList.Perm xs.toList:=by
 have:=qW f xs.size 0 xs.toList #[] (by simp)
 simpa [pickOrder] using this
section
variable {P:Program} {u:World} {A:Around} {E:Value->Shared->Prop} {s:Shared} {a I:Addr} {o:Obj} {es:Array (Int×Value)} {ep n:Nat} {t:SetTable}
def eL {j i:Nat} {Q:Option (Value×Nat)->Shared->Prop} (byT:cF u=false) (g1:s.heap.get? a=some o) (g3:o.data=.set es ep t) (hf:t.fits es.size=true)
  (q:Q (((pickOrder (u.params.setOrder a ep) es)[i]?).map fun e=>(e.2,j)) s):wpAny (model P u) A (setNext a j i ep) Q E s:=by
 have hb:u.params.followText "set-order"=true:=by
  unfold cF at byT
  simpa using byT
 unfold setNext setsByText
 refine wB (wpAny_setState_of g1 g3 hf (wB (wB (wpAny_askSetting (wpAny_pure ?_)))))
 show wpAny (model P u) A (if u.params.followText "set-order"=true then _ else _) Q E s
 rw [if_pos hb,if_neg (by simp)]
 unfold setWalk setsByText
 refine wB (wB (wpAny_setState_of g1 g3 hf (wB (wB (wpAny_askSetting (wpAny_pure ?_))))))
 show wpAny (model P u) A (if u.params.followText "set-order"=true then _ else _) _ E s
 rw [if_pos hb]
 refine wB (wpAny_askSetting (wpAny_pure ?_))
 exact wpAny_pure q
end
section
variable {P:Program} {u:World} {A:Around} {E:Value->Shared->Prop} {s:Shared} {a I:Addr} {o:Obj} {es:Array (Int×Value)} {ep n:Nat} {t:SetTable}
def fC {j i:Nat} {Q:Option (Value×Nat)->Shared->Prop} (byP:cF u=true) (hld:t.led=true) (one:es.size<=1) (g1:s.heap.get? a=some o) (g3:o.data=.set es ep t) (hf:t.fits es.size=true)
  (q:Q (match es[SetTable.below t.place j]?,t.place[SetTable.below t.place j]? with | some (_,x),some k=>some (x,k+1) | _,_=>none) s):wpAny (model P u) A (setNext a j i ep) Q E s:=by
 have hb:u.params.followText "set-order"=false:=by
  unfold cF at byP
  simpa using byP
 unfold setNext setsByText
 refine wB (wpAny_setState_of g1 g3 hf (wB (wB (wpAny_askSetting (wpAny_pure ?_)))))
 show wpAny (model P u) A (if u.params.followText "set-order"=true then _ else if (!t.plain&&decide (es.size > 1))=true then _ else (if (!t.led&&!es.isEmpty)=true then unsupported "set:maker-not-led" else pure ()) >>= fun _=>pure (match es[SetTable.below t.place j]?,t.place[SetTable.below t.place j]? with | some (_,x),some k=>some (x,k+1) | _,_=>none)) Q E s
 rw [hb,if_neg (by decide),if_neg (by simp;omega),if_neg (by simp [hld])]
 exact wB (wpAny_pure (wpAny_pure q))
def jV {j i next:Nat} {x:Value} {Q:Option Value->Shared->Prop} (hit:ItAt s.heap I (rawInt j) i a es.size ep) (g1:s.heap.get? a=some o) (g3:o.data=.set es ep t) (hf:t.fits es.size=true) (hn:∀ {A':Around} {Q':Option (Value×Nat)->Shared->Prop} {E':Value->Shared->Prop},Q' (some (x,next)) s->wpAny (model P u) A' (setNext a j i ep) Q' E' s)
  (q:∀ h',ItAt h' I (rawInt next) (i+1) a es.size ep->Heap.SameBut I s.heap h'->Q (some x) {s with heap:=h'}):wpAny (model P u) A (pyNext (.ref I)) Q E s:=by
 obtain ⟨oi,hi,hc,hd⟩:=id hit
 unfold pyNext
 refine wB (wpAny_attempt (wpAny_callSpecial?_slot (name:=Str.ofString "__next__") hit.ty slot_setit (wpAny_call_entry slot_setit hit.ty gn ?_ (e8 _))))
 unfold Builtin.«set_iterator.__next__»
 refine wB (wpAny_pure (wB (wpAny_fieldsOf hi hd ?_)))
 unfold setEntries
 refine wB (wB (wpAny_setState_of g1 g3 hf (wpAny_pure ?_)))
 rw [if_neg (by simp)]
 show wpAny _ _ (setNext a ((j:Int)).toNat ((i:Int)).toNat ((ep:Int)).toNat >>= _) _ _ s
 rw [Int.toNat_natCast,Int.toNat_natCast,Int.toNat_natCast]
 refine wB (hn ?_)
 show wpAny _ _ (setField (.ref I) 0 (rawInt next) >>= fun _=>setField (.ref I) 1 (rawInt ((i:Int)+1)) >>= fun _=>ret x) _ _ s
 refine wpAny_bind (wpAny_setField hi hd (by simp) ?_)
 refine wpAny_bind (wpAny_setField (Heap.get?_update_self _ hi (Obj.isFreed_of_fields (Obj.data_mapFields hd _))) (Obj.data_mapFields hd _) (by simp) ?_)
 have e1:(s.heap.update I (Obj.mapFields (·.setIfInBounds 0 (rawInt next)))).get? I=some (Obj.mapFields (·.setIfInBounds 0 (rawInt next)) oi):=Heap.get?_update_self _ hi (Obj.isFreed_of_fields (Obj.data_mapFields hd _))
 have d1:=Obj.data_mapFields hd (·.setIfInBounds 0 (rawInt next))
 have hit2:ItAt ((s.heap.update I (Obj.mapFields (·.setIfInBounds 0 (rawInt next)))).update I (Obj.mapFields (·.setIfInBounds 1 (rawInt ((i:Int)+1))))) I (rawInt next) (i+1) a es.size ep:=
  ⟨_,Heap.get?_update_self _ e1 (Obj.isFreed_of_fields (Obj.data_mapFields d1 _)),(Obj.cls_mapFields ..).trans ((Obj.cls_mapFields ..).trans hc),by rw [Obj.data_mapFields d1];simp [rawInt]⟩
 exact wpAny_pure ⟨_,rfl,wpAny_pure (q _ hit2 ((Heap.SameBut.update ..).trans (Heap.SameBut.update ..)))⟩
def kH {j i:Nat} {Q:Option Value->Shared->Prop} (calm:A.handled=none) (hit:ItAt s.heap I (rawInt j) i a es.size ep) (g1:s.heap.get? a=some o) (g3:o.data=.set es ep t) (hf:t.fits es.size=true) (hn:∀ {A':Around} {Q':Option (Value×Nat)->Shared->Prop} {E':Value->Shared->Prop},Q' none s->wpAny (model P u) A' (setNext a j i ep) Q' E' s)
  (q:∀ h',Heap.ExtBut I s.heap h'->Q none {s with heap:=h'}):wpAny (model P u) A (pyNext (.ref I)) Q E s:=by
 obtain ⟨oi,hi,hc,hd⟩:=id hit
 unfold pyNext
 refine wB (wpAny_attempt (wpAny_callSpecial?_slot (name:=Str.ofString "__next__") hit.ty slot_setit (wpAny_call_entry slot_setit hit.ty gn ?_ (e8 _))))
 unfold Builtin.«set_iterator.__next__»
 refine wB (wpAny_pure (wB (wpAny_fieldsOf hi hd ?_)))
 unfold setEntries
 refine wB (wB (wpAny_setState_of g1 g3 hf (wpAny_pure ?_)))
 rw [if_neg (by simp)]
 show wpAny _ _ (setNext a ((j:Int)).toNat ((i:Int)).toNat ((ep:Int)).toNat >>= _) _ _ s
 rw [Int.toNat_natCast,Int.toNat_natCast,Int.toNat_natCast]
 refine wB (hn ?_)
 show wpAny _ _ (setField (.ref I) 2 .none >>= fun _=>newExc (.type "StopIteration") [] >>= fun e=>raiseNew e) _ _ s
 refine wpAny_bind (wpAny_setField hi hd (by simp) ?_)
 show wpAny _ _ (newExc (.type "StopIteration") [] >>= _) _ _ _
 refine wB ?_
 simp only [newExc,newTuple]
 refine wB (wpAny_newObj_type ?_ (by size_fits))
 refine wpAny_bind (m:=firstArgMember _ _) (wpAny_of_eq (a:=Value.none) (by first | rfl | (simp only [firstArgMember];rfl)) ?_)
 refine wpAny_newObj_type ?_ (by size_fits)
 simp only [raiseNew]
 refine wB (wpAny_handled ?_)
 rw [show A.in1.handled=none from calm]
 refine wB (wpAny_pure (wpAny_throw ?_))
 refine wB (wpAny_isInstance (T:="StopIteration") (b:=true) ⟨_,Heap.get?_push_size _ rfl,rfl⟩ isSubtype_stop ?_)
 exact wpAny_pure (q _ ((Heap.SameBut.update ..).extBut.push _ |>.push _))
end
def fE:Slot "set_iterator" "__iter__" "set_iterator.__iter__":=.of (owner:="set_iterator") (n:="__iter__") (by rw [typeLookup_type,builtinLookup_eq_fast];kernel_rfl) (by decide +kernel) (by decide +kernel) (by decide +kernel) (by first | exact .inl (by decide +kernel) | exact .inr (by decide +kernel)) (by rw [isSubtype_type];kernel_rfl)
def jW:entryFor table "set_iterator.__iter__"=some Builtin.«dict_keyiterator.__iter__»:=entryFor_alias (id':="dict_keyiterator.__iter__") (by kernel_rfl) rfl (by decide +kernel) (by kernel_rfl)
def jn (v:Value):argsOk "set_iterator.__iter__" ⟨[v],[]⟩:=by unfold argsOk;rw [signature?_of (id:="set_iterator.__iter__") (n:=['_','_','r','e','t','i','_','_']) (o:=['r','o','t','a','r','e','t','i','_','t','e','s']) (by kernel_rfl) lz];kernel_rfl
section
variable {P:Program} {u:World} {A:Around} {E:Value->Shared->Prop} {s:Shared} {a I:Addr} {o:Obj} {es:Array (Int×Value)} {ep n:Nat} {t:SetTable}
def fV {first:Value} {i:Nat} {Q:Value->Shared->Prop} (hit:ItAt s.heap I first i a n ep) (q:Q (.ref I) s):wpAny (model P u) A (pyIter (.ref I)) Q E s:=by
 refine wpAny_pyIter_slot hit.ty fE (wpAny_call_entry fE hit.ty jW ?_ (jn _))
 show wpAny _ _ (ret (.ref I)) _ _ s
 exact wpAny_pure ⟨_,rfl,"set_iterator",_,hit.ty,slot_setit.lookup,q⟩
def mi {Q:Bool->Shared->Prop} (hT:s.TypeIs (.ref a) "set") (q:Q false s):wpAny (model P u) A (Builtin.List.listLengthHint (.ref a)) Q E s:=by
 unfold Builtin.List.listLengthHint
 refine wB (wpAny_specialOf hT PySem.F.slot_set_len.lookup ?_)
 generalize hid:("set.__len__":String)=id0
 wp_delta
 rw [show splitId id0=some ("set","__len__") from by subst hid;decide +kernel]
 subst hid
 refine wB (wpAny_isInstance (T:="set") (b:=true) hT sub_set_self ?_)
 refine wpAny_ite_split (fun z=>absurd z (by decide)) (fun _=>?_)
 refine wpAny_ite_split (fun _=>wB (wpAny_typeOf hT (wpAny_pure q))) (fun z=>absurd (by decide +kernel) z)
def ItAt.keep {h h':Heap} {first:Value} {i:Nat} (x:ItAt h I first i a n ep) (e:∀ q,h.get? I=some q->h'.get? I=some q):ItAt h' I first i a n ep:=let ⟨q,g,r⟩:=x;⟨q,e q g,r⟩
def pI {T:Addr} {ot:Obj} {ps:Array Value} {m:Nat} {ord:Nat->Value} (calm:A.handled=none) (g3:o.data=.set es ep t) (hf:t.fits es.size=true) (k2:ot.data=.seq ps m) (hps:ps.size=es.size) (hI:I≠a) (hIT:I≠T) (hord:∀ i,i<es.size->∃ p hx,ps[i]?=some (rawInt (p:Nat))/\es[p]?=some (hx,ord i)) :
  WalksS P u A I [I,a,T] [I] (fun x y=>y=x) es.size (fun i v=>v=ord i) (fun i s=>ItAt s.heap I (.ref T) i a es.size ep/\s.heap.get? a=some o/\s.heap.get? T=some ot) where
 sub:=fun b hb=>by rw [List.mem_singleton.mp hb];exact .head _
 grefl:=fun _=>rfl
 gtrans:=fun _ _ _ h1 h2=>h2.trans h1
 frame:=fun i s h' tk ⟨x,y,z⟩ _ e=>⟨x.keep fun q g=>e I (.head _) q g,e a (.tail _ (.head _)) _ y,e T (.tail _ (.tail _ (.head _))) _ z⟩
 item:=fun i s Q E hi ⟨x,y,z⟩ q=>by
  obtain ⟨p,hx,h1,h2⟩:=hord i hi
  refine jU x y g3 hf z k2 h1 h2 fun h' it sb=>q _ _ rfl ⟨it,(sb.2 a (Ne.symm hI)).trans y,(sb.2 T (Ne.symm hIT)).trans z⟩ ⟨fun b ob hb e=>?_,rfl,rfl,rfl,nL _⟩
  exact (sb.2 b (fun w=>hb (by rw [w];exact .head _))).trans e
 done:=fun s Q E ⟨x,y,z⟩ q=>kG calm x y g3 hf z k2 hps fun h' eb=>q _ ⟨fun b ob hb e=>eb b ob (fun w=>hb (by rw [w];exact .head _)) e,rfl,rfl,rfl,nL _⟩
 self:=fun i s Q E ⟨x,_⟩ q=>fV x q
end
section
variable {P:Program} {u:World} {A:Around} {E:Value->Shared->Prop} {s:Shared} {a I:Addr} {o:Obj} {es:Array (Int×Value)} {ep n:Nat} {t:SetTable}
def jX {sl:Nat->Nat} {ord:Nat->Value} (calm:A.handled=none) (g3:o.data=.set es ep t) (hf:t.fits es.size=true) (hI:I≠a)
  (hn:∀ i,i<es.size->∀ (s:Shared),s.heap.get? a=some o->∀ {A':Around} {Q':Option (Value×Nat)->Shared->Prop} {E':Value->Shared->Prop},Q' (some (ord i,sl (i+1))) s->wpAny (model P u) A' (setNext a (sl i) i ep) Q' E' s)
  (he:∀ (s:Shared),s.heap.get? a=some o->∀ {A':Around} {Q':Option (Value×Nat)->Shared->Prop} {E':Value->Shared->Prop},Q' none s->wpAny (model P u) A' (setNext a (sl es.size) es.size ep) Q' E' s) :
  WalksS P u A I [I,a] [I] (fun x y=>y=x) es.size (fun i v=>v=ord i) (fun i s=>ItAt s.heap I (rawInt (sl i)) i a es.size ep/\s.heap.get? a=some o) where
 sub:=fun b hb=>by rw [List.mem_singleton.mp hb];exact .head _
 grefl:=fun _=>rfl
 gtrans:=fun _ _ _ h1 h2=>h2.trans h1
 frame:=fun i s h' tk ⟨x,y⟩ _ e=>⟨x.keep fun q g=>e I (.head _) q g,e a (.tail _ (.head _)) _ y⟩
 item:=fun i s Q E hi ⟨x,y⟩ q=>jV x y g3 hf (hn i hi s y) fun h' it sb=>q _ _ rfl ⟨it,(sb.2 a (Ne.symm hI)).trans y⟩ ⟨fun b ob hb e=>(sb.2 b (fun w=>hb (by rw [w];exact .head _))).trans e,rfl,rfl,rfl,nL _⟩
 done:=fun s Q E ⟨x,y⟩ q=>kH calm x y g3 hf (he s y) fun h' eb=>q _ ⟨fun b ob hb e=>eb b ob (fun w=>hb (by rw [w];exact .head _)) e,rfl,rfl,rfl,nL _⟩
 self:=fun i s Q E ⟨x,_⟩ q=>fV x q
def nT {ss:List Str} {l m:List (Int×Value)} (x:Tx P u l ss) (p:m.Perm l):∃ ks,StrsAre (m.map (·.2)) ks/\ks.Perm ss:=by
 have y:=x.perm p
 refine ⟨m.map fun e=>uG e.2,?_,y.per⟩
 have key:∀ m:List (Int×Value),(∀ e∈m,∃ k t,e.2=.str k t/\e.1=(PySem.strKind P u).hash k)->StrsAre (m.map (·.2)) (m.map fun e=>uG e.2):=fun m=>by
  induction m with
  | nil=>intro _;exact .nil
  | cons e m ih =>
   intro h
   obtain ⟨k,tk,h1,_⟩:=h e (by simp)
   rw [List.map_cons,List.map_cons,h1]
   exact .cons k tk (ih fun z hz=>h z (by simp [hz]))
 exact key m y.all
def mj {ss:List Str} {Q:Value->Shared->Prop} (hS:TxS P u s.heap a ss (cF u))
  (q:∀ (I:Addr) (fp:List Addr) (vs:List Value) (ks:List Str) (St:Nat->Shared->Prop) (d:Drawn) (h':Heap),(∀ A':Around,A'.handled=none->WalksS P u A' I fp [I] (fun x y=>y=x) vs.length (fun i v=>v=vs.getD i .none) St)->St 0 {s with drawn:=d,heap:=h'}->(∀ b∈fp,b<h'.objs.size/\(b=a∨s.heap.objs.size<=b))->(∀ b ob,s.heap.get? b=some ob->h'.get? b=some ob)->s.heap.objs.size<=I->StrsAre vs ks->ks.Perm ss->Q (.ref I) {s with drawn:=d,heap:=h'}) :
  wpAny (model P u) A (pyIter (.ref a)) Q E s:=by
 obtain ⟨o,es,ep,t,g1,g2,g3,x,hb,hf,hl,hp⟩:=hS.ex
 have la:a<s.heap.objs.size:=Heap.lt_size g1
 refine nS g1 g2 g3 hf hb (fun ys d byP hd p=>?_) (fun hm=>?_)
 · -- drawn
   have hyl:ys.length=es.size:=by rw [p.length_eq,List.length_range]
   have perm:(ys.map fun i=>es.toList.getD i (0,.none)).Perm es.toList:=by
    refine (p.map _).trans ?_
    have e:(List.range es.size).map (fun i=>es.toList.getD i (0,.none))=es.toList:=by
     apply List.ext_getElem
     · simp
     · intro i h1 h2
       simp at h1 h2
       simp [h2]
    rw [e]
   obtain ⟨ks,k1,k2⟩:=nT x perm
   have hlen:((ys.map fun i=>es.toList.getD i (0,.none)).map (·.2)).length=es.size:=by rw [List.length_map,List.length_map,hyl]
   refine q (s.heap.objs.size+1) [s.heap.objs.size+1,a,s.heap.objs.size] ((ys.map fun i=>es.toList.getD i (0,.none)).map (·.2)) ks (fun i s'=>ItAt s'.heap (s.heap.objs.size+1) (.ref s.heap.objs.size) i a es.size ep/\s'.heap.get? a=some o/\s'.heap.get? s.heap.objs.size=some {cls:=.type "tuple",data:=.seq (ys.map fun (i:Nat)=>rawInt i).toArray}) d _ (fun A' calm=>?_) ⟨⟨jT (.ref s.heap.objs.size) 0 a es.size ep,?_,rfl,rfl⟩,?_,?_⟩ ?_ ?_ (Nat.le_succ _) k1 k2
   · rw [hlen]
     refine pI calm g3 hf rfl (by simp [hyl]) (Nat.ne_of_gt (Nat.lt_succ_of_lt la)) (Nat.succ_ne_self _) fun i hi=>?_
     have hi2:i<ys.length:=by omega
     have hy:ys[i]<es.size:=List.mem_range.mp (p.mem_iff.mp (List.getElem_mem hi2))
     refine ⟨ys[i],es[ys[i]].1,by simp [hi2],?_⟩
     simp [hi2,hy]
   · have:=Heap.get?_push_size (s.heap.push {cls:=.type "tuple",data:=.seq (ys.map fun (i:Nat)=>rawInt i).toArray}) (o:=jT (.ref s.heap.objs.size) 0 a es.size ep) rfl
     rw [Heap.size_push] at this
     exact this
   · exact gP _ (gP _ g1)
   · exact gP _ (Heap.get?_push_size _ rfl)
   · intro b hb
     rw [Heap.size_push,Heap.size_push]
     rcases List.mem_cons.mp hb with rfl | hb
     · exact ⟨Nat.lt_succ_self _,.inr (Nat.le_succ _)⟩
     · rcases List.mem_cons.mp hb with rfl | hb
       · exact ⟨Nat.lt_succ_of_lt (Nat.lt_succ_of_lt la),.inl rfl⟩
       · rw [List.mem_singleton.mp hb]
         exact ⟨Nat.lt_succ_of_lt (Nat.lt_succ_self _),.inr (nL _)⟩
   · exact fun b ob e=>gP _ (gP _ e)
 · -- by the world's text,or one at most
   have fin:∀ (m:List (Int×Value)) (sl:Nat->Nat),m.Perm es.toList->sl 0=0->(∀ A':Around,A'.handled=none->WalksS P u A' s.heap.objs.size [s.heap.objs.size,a] [s.heap.objs.size] (fun x y=>y=x) es.size (fun i v=>v=(m.map (·.2)).getD i .none) (fun i s'=>ItAt s'.heap s.heap.objs.size (rawInt (sl i)) i a es.size ep/\s'.heap.get? a=some o))->Q (.ref s.heap.objs.size) {s with heap:=s.heap.push (jT (rawInt 0) 0 a es.size ep)}:=fun m sl p h0 W=>by
    obtain ⟨ks,k1,k2⟩:=nT x p
    have hlen:(m.map (·.2)).length=es.size:=by rw [List.length_map,p.length_eq,Array.length_toList]
    have:=q s.heap.objs.size [s.heap.objs.size,a] (m.map (·.2)) ks (fun i s'=>ItAt s'.heap s.heap.objs.size (rawInt (sl i)) i a es.size ep/\s'.heap.get? a=some o) s.drawn (s.heap.push (jT (rawInt 0) 0 a es.size ep)) (by rw [hlen];exact W) ⟨⟨jT (rawInt 0) 0 a es.size ep,Heap.get?_push_size _ rfl,rfl,by rw [h0];rfl⟩,gP _ g1⟩ (fun b hb=>by
     rw [Heap.size_push]
     rcases List.mem_cons.mp hb with rfl | hb
     · exact ⟨Nat.lt_succ_self _,.inr (nL _)⟩
     · rw [List.mem_singleton.mp hb]
       exact ⟨Nat.lt_succ_of_lt la,.inl rfl⟩) (fun b ob e=>gP _ e) (nL _) k1 k2
    exact this
   have ne:s.heap.objs.size≠a:=Nat.ne_of_gt la
   by_cases byT:cF u=false
   · refine fin (pickOrder (u.params.setOrder a ep) es).toList (fun _=>0) (qX _ _) rfl fun A' calm=>?_
     have hsz:(pickOrder (u.params.setOrder a ep) es).size=es.size:=by
      have:=(qX (u.params.setOrder a ep) es).length_eq
      simpa using this
     refine jX calm g3 hf ne (fun i hi s' gs A' Q' E' q'=>eL byT gs g3 hf ?_) (fun s' gs A' Q' E' q'=>eL byT gs g3 hf ?_)
     · have hi2:i<(pickOrder (u.params.setOrder a ep) es).size:=by omega
       rw [Array.getElem?_eq_getElem hi2]
       simpa [hi2] using q'
     · rw [Array.getElem?_eq_none (by omega)]
       exact q'
   · have byP:cF u=true:=by simpa using byT
     have one:es.size<=1:=by
      rcases hm with h1 | h1
      · exact absurd h1 byT
      · rcases hp with h2 | h2
        · omega
        · exact Nat.le_of_not_lt fun z=>h1 ⟨h2,z⟩
     have hpl:t.place.size=es.size:=by
      unfold SetTable.fits at hf
      simp at hf
      exact hf.1
     refine fin es.toList (fun i=>if i=0 then 0 else t.place.getD 0 0+1) (List.Perm.refl _) rfl fun A' calm=>?_
     refine jX calm g3 hf ne (fun i hi s' gs A' Q' E' q'=>fC byP (hl.trans byP) one gs g3 hf ?_) (fun s' gs A' Q' E' q'=>fC byP (hl.trans byP) one gs g3 hf ?_)
     · obtain rfl:i=0:=by omega
       have h1:es.size=1:=by omega
       have h2:t.place.size=1:=by omega
       have e0:SetTable.below t.place 0=0:=by
        unfold SetTable.below
        rw [h2]
        simp [SetTable.below.go]
       rw [if_pos rfl,e0,Array.getElem?_eq_getElem (by omega),Array.getElem?_eq_getElem (by omega)]
       simpa [h1,h2] using q'
     · by_cases h0:es.size=0
       · have h2:t.place.size=0:=by omega
         have e0:SetTable.below t.place 0=0:=by
          unfold SetTable.below
          rw [h2]
          simp [SetTable.below.go]
         rw [if_pos h0,e0,Array.getElem?_eq_none (by omega)]
         exact q'
       · have h2:t.place.size=1:=by omega
         have e0:SetTable.below t.place (t.place.getD 0 0+1)=1:=by
          unfold SetTable.below
          rw [h2]
          simp [SetTable.below.go,h2]
         rw [if_neg h0,e0,Array.getElem?_eq_none (by omega)]
         exact q'
end
section
variable {P:Program} {u:World} {A:Around} {E:Value->Shared->Prop} {s:Shared} {a:Addr}
def TxS.small {h:Heap} {ss:List Str} {led:Bool} (x:TxS P u h a ss led):ss.length<scanBound/\∃ o,h.get? a=some o/\o.cls=.type "set":=by
 obtain ⟨o,es,ep,t,g1,g2,g3,y,hb,_⟩:=x.ex
 refine ⟨?_,o,g1,g2.1⟩
 rw [<- y.per.length_eq,List.length_map,Array.length_toList]
 exact hb
def jo {ss:List Str} {Q:List Value->Shared->Prop} (calm:A.handled=none) (hS:TxS P u s.heap a ss (cF u))
  (q:∀ (vs:List Value) (ks:List Str) (d:Drawn) (h':Heap) (tk:Nat),StrsAre vs ks->ks.Perm ss->s.heap.objs.size<=h'.objs.size->(∀ b ob,s.heap.get? b=some ob->h'.get? b=some ob)->Q vs {s with drawn:=d,heap:=h',toks:=tk}):wpAny (model P u) A (collect (.ref a)) Q E s:=by
 obtain ⟨hsz,o,g1,gc⟩:=hS.small
 have la:a<s.heap.objs.size:=Heap.lt_size g1
 unfold collect
 refine wB (wpAny_runValue (codeAny_builtin PySem.F.entry_proto_collect ?_))
 rw [Around.under_plainId PySem.F.plain_proto_collect _]
 show wpAny _ A.in1 (newList [] >>= fun l=>again (.builtin "list.__iadd__" ⟨[l,.ref a],[]⟩)) _ _ s
 refine wB (wpAny_newObj_type ?_)
 refine wpAny_pure ⟨plainId_quiet PySem.F.plain_list_iadd _,codeAny_builtin PySem.F.entry_list_iadd ?_⟩
 rw [Around.under_plainId PySem.F.plain_list_iadd _]
 show wpAny _ A.in1 (Builtin.List.listExtendWith (.ref s.heap.objs.size) (.ref a) (.ref s.heap.objs.size)) _ _ _
 have hS1:TxS P u (s.heap.push {cls:=.type "list",data:=.seq ([]:List Value).toArray}) a ss (cF u):=hS.moved fun ob e=>gP _ e
 have hT1:Shared.TypeIs {s with heap:=s.heap.push {cls:=.type "list",data:=.seq ([]:List Value).toArray}} (.ref a) "set":=⟨o,gP _ g1,gc⟩
 have gL:(s.heap.push {cls:=.type "list",data:=.seq ([]:List Value).toArray}).get? s.heap.objs.size=some {cls:=.type "list",data:=.seq ([]:List Value).toArray}:=Heap.get?_push_size _ rfl
 unfold Builtin.List.listExtendWith
 refine wB (wpAny_typeOf hT1 ?_)
 have h1:Builtin.List.listSameRef (.ref s.heap.objs.size) (.ref a)=false:=by simp [Builtin.List.listSameRef,Nat.ne_of_gt la]
 have h2:(Value.type "set"==Value.type "list")=false:=by decide
 have h3:(Value.type "set"==Value.type "tuple")=false:=by decide
 simp only [h1,h2,h3,Bool.or_false,Bool.false_eq_true,if_false]
 refine wB (mj (s:={s with heap:=s.heap.push {cls:=.type "list",data:=.seq ([]:List Value).toArray}}) hS1 fun I fp vs ks St d h' W st hfp keep hI k1 k2=>?_)
 have hTI:Shared.TypeIs {s with drawn:=d,heap:=h'} (.ref a) "set":=⟨o,keep a o (gP _ g1),gc⟩
 refine wB (wpAny_holding (mi hTI ?_))
 show wpAny _ A.in1 (rule "list.extend.makes-room" >>= fun _=>Builtin.List.listTouch (.ref s.heap.objs.size) >>= fun _=>again (.builtin "list.extend.loop" ⟨[.ref s.heap.objs.size,.ref I,.ref s.heap.objs.size],[]⟩)) _ _ _
 refine wB (wpAny_rule (wB ?_))
 have gL1:=keep _ _ gL
 show wpAny _ A.in1 (updateSeq s.heap.objs.size (·.push .none) >>= fun _=>updateSeq s.heap.objs.size (·.pop)) _ _ _
 refine wB (wpAny_updateSeq gL1 rfl ?_)
 have gL2:=Heap.get?_update_self (Obj.mapSeq (·.push Value.none)) gL1 rfl
 refine wpAny_updateSeq gL2 rfl ?_
 have gL3:=Heap.get?_update_self (Obj.mapSeq (·.pop)) gL2 rfl
 have oth:∀ b ob,b≠s.heap.objs.size->h'.get? b=some ob->((h'.update s.heap.objs.size (Obj.mapSeq (·.push Value.none))).update s.heap.objs.size (Obj.mapSeq (·.pop))).get? b=some ob:=fun b ob hb e=>(Heap.get?_update_other _ _ (Ne.symm hb)).trans ((Heap.get?_update_other _ _ (Ne.symm hb)).trans e)
 have out:s.heap.objs.size∉fp:=fun hm=>by
  rcases (hfp _ hm).2 with z | z
  · exact Nat.ne_of_gt la z
  · have z:(s.heap.push {cls:=.type "list",data:=.seq ([]:List Value).toArray}).objs.size<=s.heap.objs.size:=z
    rw [Heap.size_push] at z
    exact Nat.not_succ_le_self _ z
 have W1:=W A.in1 (by simp [calm])
 have hvl:vs.length<=sizeLine:=by
  have e:vs.length=ss.length:=by
   rw [<- k2.length_eq]
   clear k2 W1 W
   induction k1 with
   | nil=>rfl
   | cons y tk _ ih=>simp [ih]
  rw [e]
  exact fits_of_scanBound hsz
 refine wpAny_pure ⟨plainId_quiet PySem.F.plain_extend_loop _,codeAny_extend_loopS W1 hvl _ out _ vs.length 0 _ _ _ rfl (Nat.zero_le _) (W1.frame 0 ({s with drawn:=d,heap:=h'}:Shared) _ s.toks st (nL _) fun b hb ob e=>oth b ob (fun h=>out (h▸hb)) e) gL3 (ItemsOf.nil _) fun s2 acc c2 mv gS2 hacc=>?_⟩
 show wpAny _ A (load s.heap.objs.size >>= _) _ _ s2
 refine wB (wpAny_load gS2 ?_)
 have hav:acc.toList=vs:=by
  apply List.ext_getElem
  · simpa using hacc.1
  · intro i h1 h2
    have:=hacc.2 i acc.toList[i] (by simp)
    rw [this]
    simp [h2]
 rw [<- hav] at k1
 obtain ⟨h2',g2',d2',tk2',o2'⟩:=s2
 have eg:g2'=s.gens:=mv.gens
 have ed:d2'=d:=mv.drawn
 have eo:o2'=s.os:=mv.os
 subst eg ed eo
 refine wpAny_pure (q acc.toList ks d2' h2' tk2' k1 k2 (Nat.le_of_lt (Heap.lt_size gS2)) fun b ob e=>?_)
 have nb:b≠s.heap.objs.size:=Nat.ne_of_lt (Heap.lt_size e)
 refine mv.heap b ob (fun hm=>?_) (oth b ob nb (keep b ob (gP _ e)))
 rcases List.mem_cons.mp hm with z | z
 · exact nb z
 · rw [List.mem_singleton.mp z] at e
   have z2:(s.heap.push {cls:=.type "list",data:=.seq ([]:List Value).toArray}).objs.size<=I:=hI
   rw [Heap.size_push] at z2
   exact absurd (Heap.lt_size e) (Nat.not_lt.mpr (Nat.le_of_succ_le z2))
end
section
variable {P:Program} {u:World} {A:Around} {E:Value->Shared->Prop} {s:Shared} {a:Addr}
def uJ {vs:List Value} {ks:List Str} (h:StrsAre vs ks):vs.length=ks.length:=by
 induction h with
 | nil=>rfl
 | cons y tk _ ih=>simp [ih]
def jY {ss:List Str} {Q:Value->Shared->Prop} (calm:A.handled=none) (hS:TxS P u s.heap a ss (cF u)) (few:ss.length<64)
  (q:∀ (l:Addr) (out:Array Value) (ks:List Str) (d:Drawn) (h':Heap) (tk:Nat),StrsAre out.toList ks->ks.Perm ss->sortedS ks=true->(∃ e,h'.get? l=some (seqObj "list" out e))->s.heap.objs.size<=l->(∀ b ob,s.heap.get? b=some ob->h'.get? b=some ob)->Q (.ref l) {s with drawn:=d,heap:=h',toks:=tk}):wpAny (model P u) A (call (.builtin "sorted") [.ref a]) Q E s:=by
 refine Calls.call_function_entry kind_sorted plain_sorted entry_sorted (args_sorted1 _) ?_
 unfold Builtin.«sorted»
 refine wB (m:=checkCount "sorted" 1 1 _) (wpAny_pure ?_)
 refine wpAny_bind (jo (by simp [calm]) hS fun vs ks d h' tk k1 k2 le keep=>?_)
 have hlen:vs.length<64:=by rw [uJ k1,k2.length_eq];exact few
 refine wB (wpAny_newList ?_ (Nat.le_trans (Nat.le_of_lt hlen) (by decide)))
 have gL:(h'.push (seqObj "list" vs.toArray 0)).get? h'.objs.size=some (seqObj "list" vs.toArray 0):=Heap.get?_push_size _ rfl
 show wpAny _ _ _ _ _ {s with drawn:=d,toks:=tk,heap:=h'.push (seqObj "list" vs.toArray 0)}
 refine wB (wpAny_holding (wpAny_call_entry slot_list_sort ⟨_,gL,rfl⟩ entry_list_sort (list_sort_treeK strKind_oneLt gL k1.keysOf (fun v1 v2 r e=>keyKind_strs (by rw [<- e];exact k1)) hlen fun st a1 a2=>⟨_,rfl,?_⟩) (args_list_sort _)))
 obtain ⟨ks2,e1,e2,e3⟩:=sorted_out_str k1 a1 a2
 refine wpAny_pure ⟨_,rfl,?_⟩
 refine q _ _ ks2 d _ tk e1 (e2.trans k2) e3 (sortedHeap_at gL) le fun b ob e=>?_
 have lt:b<h'.objs.size:=Heap.lt_size (keep b ob e)
 rw [sortedHeap_old (Nat.ne_of_lt lt) (by rw [size_push'];exact Nat.lt_succ_of_lt lt)]
 exact gP _ (keep b ob e)
end
def dE (ss:List Str):List Str:=ss.foldl kF []
def lA (ss:List Str):met (fun i=>ss.getD i "") ss.length=dE ss:=by
 unfold met dE
 congr 1
 apply List.ext_getElem
 · simp
 · intro i h1 h2
   simp at h1
   simp [h1]
def sx (ss:List Str):(dE ss).length<=ss.length:=by
 rw [<- lA]
 exact mf _ _
def Inv.dr {X:Cx} {pins:List (Addr×Obj)} {σ:St} {H:Hp} {s:Shared} (I:Inv X pins σ H s) (d:Drawn):Inv X pins σ H {s with drawn:=d}:=⟨I.ok,I.os,I.bare,I.base,I.loc,I.cell,I.free,I.freeC,I.pin,I.hok,I.len⟩
def qY:∀ {vs:List Value} {ss:List Str},StrsAre vs ss->∀ (i:Nat) (v:Value),vs[i]?=some v->∃ t,v=.str (ss.getD i "") t
 | _,_,.nil,i,v,h=>by simp at h
 | _,_,.cons y t r,0,v,h=>by
  simp at h
  exact ⟨t,by rw [<- h];rfl⟩
 | _,_,.cons y t r,i+1,v,h=>qY r i v (by simpa using h)
abbrev uK (X:Cx) (l:Addr) (ss:List Str):HO:=.ext fun h=>TxS X.prog X.w h l ss (cF X.w)
section
variable {X:Cx}
def sy (calm:X.calm=true):CallR X (.type "set") (fun xs H Q=>∃ p ss,xs=[.ref p]/\SqL X.K H p (ss.map V.str)/\ss.length<64/\∀ l,H l=none->Q (.ref l) (upd H l (uK X l (dE ss)))):=by
 intro pins s σ H xs us Q I r h
 obtain ⟨p,ss,rfl,hq,hz,q⟩:=h
 obtain ⟨u,rfl,rx⟩:=fu r
 cases rx
 obtain ⟨its,r',pl,hz'⟩:=I.list hq
 have hS:=g0 r'
 have hlen:its.length=ss.length:=by have:=r'.length;simpa using this.symm
 have hi:∀ (i:Nat) (v:Value),its.toArray[i]?=some v->∃ t,v=.str (ss.getD i "") t:=fun i v hv=>qY hS i v (by simpa using hv)
 have hb:its.toArray.size+1<scanBound:=by
  have:its.toArray.size=ss.length:=by simpa using hlen
  rw [this]
  unfold scanBound
  omega
 refine uI (I.ok.hd calm) pl.isList hi hb fun hp tk hT kept=>?_
 have e:met (fun i=>ss.getD i "") its.toArray.size=dE ss:=by
  rw [show its.toArray.size=ss.length by simpa using hlen]
  exact lA ss
 rw [e] at hT
 refine ⟨.ref s.heap.objs.size,_,I.laid (t':=tk) (fun b o g=>kept b o (Heap.lt_size g) g) (nL _) (show ObjOk X.prog X.w _ _ _ (uK X s.heap.objs.size (dE ss)) from ⟨hT,?_,fun h1 h2 x g=>x.moved g⟩),rfl,q _ (I.hok.fresh (nL _))⟩
 obtain ⟨_,o,g,_⟩:=hT.small
 exact ⟨o,g⟩
def ml (calm:X.calm=true):CallR X (.builtin "sorted") (fun xs H Q=>∃ p ss,xs=[.ref p]/\H p=some (uK X p ss)/\ss.length<64/\∀ l,H l=none->Q (.ref l) (upd H l (.lst ((dg ss).map V.str)))):=by
 intro pins s σ H xs us Q I r h
 obtain ⟨p,ss,rfl,hq,hz,q⟩:=h
 obtain ⟨u,rfl,rx⟩:=fu r
 cases rx
 have hT:TxS X.prog X.w s.heap p ss (cF X.w):=(show ObjOk X.prog X.w H s.heap p (uK X p ss) from I.hok p _ hq).1
 refine jY (I.ok.hd calm) hT hz fun l out ks d h' tk a1 a2 a3 hc le kept=>?_
 have e:ks=dg ss:=iU (a2.trans (dD ss).symm) (lu ks a3) (nM ss)
 subst e
 obtain ⟨c,hc⟩:=hc
 refine ⟨.ref l,_,(I.laid (t':=tk) kept le (show ObjOk X.prog X.w _ _ _ (.lst ((dg ss).map V.str)) from ⟨?_,out.toList,c,iV a1,hc⟩)).dr d,rfl,q _ (I.hok.fresh le)⟩
 rw [List.length_map,(dD ss).length_eq]
 exact Nat.le_trans (Nat.le_of_lt hz) (by decide)
end
def eM:List Dt->Option T
 | [.lst ds]=>(e6 ds).bind fun ss=>if ss.length<64 then some (.lst ((dg (dE ss)).map .str)) else none
 | _=>none
section
variable {X:Cx} {e:Expr} {pos pos2 p p2:Pos} {sc:Scope} {fs:De->Option (List Dt)}
def pJ (h1:aF sc "sorted"=true) (h2:aF sc "set"=true) (hc:X.calm=true) (m1:X.mg "sorted"=none) (m2:X.mg "set"=none) (ha:DAB X [e] fs) (e1:bK X sc:=by rfl)
  (s1:starEach [.Call (.Name "set" p2) [e] [] pos2] X.env=(false,eval (.Call (.Name "set" p2) [e] [] pos2) X.env)::starEach [] X.env:=by rfl) (n1:(backTo pos (starEach [] X.env)).any (·.1)=false:=by rfl)
  (s2:starEach [e] X.env=(false,eval e X.env)::starEach [] X.env:=by rfl) (n2:(backTo pos2 (starEach [] X.env)).any (·.1)=false:=by rfl):DO X (.Call (.Name "sorted" p) [.Call (.Name "set" p2) [e] [] pos2] [] pos) (au eM fs):=
 PE.mono (f8 h1 (ml hc) m1 (by rfl) (bY (gT h2 (sy hc) m2 (by rfl) ha.pa e1 s2 n2) dS s1) e1 s1 n1) fun σ H Q ⟨Φ,δ,F,t,hK,en,hf,k⟩=>by
  unfold au at hf
  obtain ⟨ds,hd,hg⟩:=bS hf
  refine ⟨Φ,δ,F,ds,hK,en,hd,fun vs H1 F1 st r=>?_⟩
  unfold eM at hg
  split at hg<;>first | (cases hg;done) | skip
  obtain ⟨ss,hs,hg⟩:=bS hg
  split at hg<;>cases hg
  rename_i hz
  obtain ⟨v,rfl,rv⟩:=de r
  obtain ⟨b,ws,rfl,g1,g2⟩:=rv
  have:=gj g2 hs
  subst this
  refine ⟨b,ss,rfl,g1,hz,fun l hl=>?_⟩
  have st2:Step F1 H1 F1 (upd H1 l (uK X l (dE ss))):=Step.made st.fh hl
  refine ⟨l,dE ss,rfl,aD,Nat.lt_of_le_of_lt (sx ss) hz,fun l2 hl2=>?_⟩
  exact gd (k.step (st.trans st2)) st2.fh (iW _) hl2
end
section
variable {X:Cx} {e o:Expr} {fa fe:Fg} {pos apos cpos:Pos}
end
section
variable {P:Program} {u:World} {A:Around} {E:Value->Shared->Prop} {s:Shared} {Ty:String} {r d:Addr} {n:Nat} {Pr:Nat->Value->Prop} {OK:Heap->Prop}
end
section
variable {X:Cx}
variable {e o:Expr} {es:List Expr} {fo:De->Option Dt} {fs:De->Option (List Dt)} {apos cpos pos:Pos}
end
noncomputable def gG (i t:Nat) (ft:Ft) (fe:Fg) (δ:Sl):Nat->Nat->CH->Option (List CV×CH)
 | 0,_,_=>none
 | n+1,k,ch=>match ch[i]? with
  | some (.lst l)=>match l[k]? with
   | none=>some ([],ch)
   | some c=>(ft (δ.set t (some c)) ch).bind fun p=>if p.1 then (fe (δ.set t (some c)) p.2).bind fun q=>(gG i t ft fe δ n (k+1) q.2).map fun r=>(q.1::r.1,r.2) else gG i t ft fe δ n (k+1) p.2
  | _=>none
noncomputable def jZ (src:List (Option Nat)) (fd:Fg) (t:Nat) (ft:Ft) (fe:Fg) (n:Nat):Fg:=fun δ ch=>(fd δ ch).bind fun p=>match p.1 with
 | .ref i=>(gG i t ft fe (gC src δ) n 0 p.2).bind fun q=>if q.1.length<=sizeLine then some (.ref q.2.length,q.2++[.lst q.1]) else none
 | _=>none
def qZ:Ft:=fun _ ch=>some (true,ch)
def wU {X:Cx}:PTs X [] (tGT X.K qZ):=fun pins s σ H Q I h=>qq pins s σ H Q I (by
 obtain ⟨δ,ch,F,ρ,b,ch',en,hf,k⟩:=h
 cases hf
 exact k F H ρ (Adv.refl en.gh))
section
variable {X:Cx} {elt tg iter:Expr} {ifs:List Expr} {scope:Scope} {pos:Pos} {M:List Str} {src:List (Option Nat)} {fd fe:Fg} {ft:Ft} {i t:Nat}
def sB {n:Nat} (hts:decide (src[t]?=some none)=true):∀ (σ:St) (H:Hp) (Q:VK),tG X.K (jZ src fd t ft fe n) σ H Q->kU src (xS X.K (tG X.K fd)) (fH t) (tGT X.K ft) (tG X.K fe) σ H Q:=fun σ H Q ⟨δ,ch,F,ρ,c,ch',en,hf,k⟩=>by
 unfold jZ at hf
 obtain ⟨⟨c1,ch1⟩,hp,hf1⟩:=bS hf
 clear hf
 dsimp only at hf1
 split at hf1<;>first | (cases hf1;done) | skip
 rename_i i
 obtain ⟨⟨all,ch2⟩,ha,hf2⟩:=bS hf1
 clear hf1
 split at hf2<;>first | (cases hf2;done) | skip
 rename_i hz
 cases hf2
 have hz:all.length<=sizeLine:=hz
 have hn:src[t]?=some none:=of_decide_eq_true hts
 refine ⟨δ,ch,F,ρ,_,ch1,en,hp,fun v F1 H1 ρ1 a1 r1=>?_⟩
 obtain ⟨hi,rfl⟩:=r1
 have en1:=en.adv a1
 have k1:=k.adv en.gh a1
 refine ⟨ρ1 i,rfl,?_,fun D hD=>?_⟩
 · cases n with
   | zero=>cases ha
   | succ n =>
    unfold gG at ha
    split at ha<;>first | (cases ha;done) | skip
    rename_i l hl
    obtain ⟨vs,q1,_⟩:=a1.gh.ok i _ hl
    exact ⟨vs,SqL.of q1⟩
 have wk:∀ v,Wk (stC src σ) ((stC src σ).set t (some v)):=fun v=>by
  refine ⟨by simp,fun j u hj=>?_⟩
  by_cases hm:j=t
  · obtain ⟨i',e,_⟩:=pe hj
    rw [hm,hn] at e
    cases e
  · rw [gN (Ne.symm hm)]
    exact hj
 refine ⟨fun j m H=>∃ F ρ' c' ys done rest',Bd X.K F1 H1 ρ1 ch1 D F H ρ' c' done ys/\gG i t ft fe (gC src δ) m j c'=some (rest',ch2)/\done++rest'=all,⟨n,F1,ρ1,ch1,[],[],all,⟨Adv.of en1.gh (Step.made en1.gh.fh hD),aD,en1.gh.fh.free hD,fun i hi e=>?_,rfl⟩,ha,rfl⟩,?_⟩
 · obtain ⟨u,hu⟩:=en1.gh.at hi
   rw [e,hD] at hu
   cases hu
 rintro j m H' ⟨F',ρ',c',ys,done,rest',b,hgo,hall⟩
 cases m with
 | zero=>cases hgo
 | succ m =>
  unfold gG at hgo
  split at hgo<;>first | (cases hgo;done) | skip
  rename_i l hl
  obtain ⟨vs,q1,q2⟩:=b.adv.gh.ok i _ hl
  rw [b.adv.ext i hi] at q1
  split at hgo
  · rename_i hj
    cases hgo
    rw [List.append_nil] at hall
    subst hall
    refine .inl ⟨⟨vs,SqL.of q1,?_⟩,k1 (.ref D) F' H' _ (b.fin hD) ⟨by simp,?_⟩⟩
    · rw [q2.length]
      exact List.getElem?_eq_none_iff.mp hj
    · dsimp only
      rw [if_pos rfl]
  · rename_i c hj
    obtain ⟨⟨bo,c3⟩,h2,hgo2⟩:=bS hgo
    clear hgo
    obtain ⟨v,hv,rv⟩:=q2.get hj
    refine .inr ⟨⟨vs,v,SqL.of q1,hv⟩,fun H=>∃ F ρ' c' ys done rest',Bd X.K F1 H1 ρ1 ch1 D F H ρ' c' done ys/\gG i t ft fe (gC src δ) m (j+1) c'=some (rest',ch2)/\done++rest'=all,fun H2 z=>⟨m,by omega,z⟩,fun x H'' hy=>?_⟩
    obtain ⟨rfl,hy⟩:=hy
    have hx:=hy vs (SqL.of q1)
    rw [hv] at hx
    cases hx
    have en2:=((en1.adv b.adv).comp (src:=src)).put rv t
    refine ⟨wk v,_,_,_,_,bo,c3,en2,h2,fun F3 H3 ρ3 a3=>?_⟩
    have b3:=b.step en1.gh a3
    have en4:=en2.adv a3
    dsimp only at hgo2 ⊢
    split at hgo2
    · rename_i q
      have q:bo=true:=q
      rw [if_pos q]
      obtain ⟨⟨y,c4⟩,hy,hgo3⟩:=bS hgo2
      obtain ⟨⟨zs,c5⟩,hzs,hgo4⟩:=mS hgo3
      cases hgo4
      refine ⟨_,_,F3,ρ3,y,c4,en4,hy,fun v F4 H4 ρ4 a4 rv=>?_⟩
      have b4:=b3.step en1.gh a4
      refine ⟨ys,b4.hD,?_,F4,ρ4,c4,ys++[v],done++[y],zs,b4.more hD rv,hzs,by rw [<- hall];simp⟩
      have e1:=b4.rel.length
      have e2:all.length=done.length+(zs.length+1):=by rw [<- hall];simp
      omega
    · rename_i q
      rw [if_neg q]
      exact ⟨F3,ρ3,c3,ys,done,rest',b3,hgo2,hall⟩
def uL (n:Nat) (S:CmpScope X.N X.env.scope scope M src) (hc:X.calm=true) (hi:GE X iter fd) (hg:M.Nodup->∀ C s H ex,PG (cxC X M scope C s H ex) tg (fH t))
  (ht:∀ C s H ex,PTs (cxC X M scope C s H ex) ifs (tGT X.K ft)) (he:∀ C s H ex,GE (cxC X M scope C s H ex) elt fe) (hts:decide (src[t]?=some none)=true) (hs:∀ x,foldedSetIterable iter X.env x=pure x:=by intro _;rfl) :
  GE X (.ListComp elt [⟨tg,iter,ifs,0⟩] scope pos) (jZ src fd t ft fe n):=PE.mono (mV (g:=fH t) (tt:=tGT X.K ft) (te:=tG X.K fe) S hc (jq hi) (fun nd C s H ex=>hg nd C s H ex) (fun C s H ex=>ht C s H ex) (fun C s H ex=>he C s H ex) hs) (sB hts)
end
section
variable {K:PySem.W.Frag} {F H:Hp} {ρ:Nat->Addr} {δ:Sl} {σ:St} {ch:CH}
end
section
variable {X:Cx} {e:Expr}
end
abbrev Orc:=Addr->Hp->List Dt->Option T
noncomputable def uM (P:Program) (w:World) (K:PySem.W.Frag) (mg:Str->Option Value) (base:Heap) (kk:Nat) (H:Hp) (G:Orc):Prop:=∀ (f:Addr) (F0:Hp) (ds:List Dt) (t:T),G f F0 ds=some t→
 (∃ fo uf fd,H f=some (.frz fo uf)/\fo.data=.func fd)/\∀ (A:Around) (outer:List Env) (s:Shared) (H' F:Hp) (us:List Value) (vs:List V) (Q:VK),Room kk A->(∀ b o u,H b=some (.frz o u)->H' b=some (.frz o u))->Env0 P w K mg base A outer s H'->Same F0 F->Same F H'->Vals vs us->Reps K F ds vs->KO K F H' t Q→
  codeAny (model P w) A (.call (.ref f) ⟨us,[]⟩) (CR CX0 outer P w H' s Q E0) s
def eCl (G:Orc) (i:Nat) (fs:Fgs):Fg:=fun δ ch=>match δ[i]? with
 | some (some (.fn a F0))=>(fs δ ch).bind fun p=>(dats p.1).bind fun ds=>(G a F0 ds).bind (al p.2)
 | _=>none
section
variable {X:Cx} {e:Expr} {es:List Expr} {fs:Fgs} {p pos:Pos} {x:Str} {i kk:Nat} {G:Orc}
def ra (hx:PE X (.Name x p) (jh i)) (hG:uM X.prog X.w X.K X.mg X.base kk X.H₀ G) (hr:Room kk X.A) (ha:GA X (e::es) fs)
  (he:starEach (e::es) X.env=(false,eval e X.env)::starEach es X.env:=by rfl) (hpl:(backTo pos (starEach es X.env)).any (·.1)=false:=by rfl):GE X (.Call (.Name x p) (e::es) [] pos) (eCl G i fs):=by
 intro pins s σ H Q I h
 obtain ⟨δ,ch,F,ρ,c,ch',en,hf,k⟩:=h
 unfold eCl at hf
 split at hf<;>first | (cases hf;done) | skip
 rename_i a F0 hi
 obtain ⟨q,hp,hf⟩:=bS hf
 obtain ⟨ds,hd,hf⟩:=bS hf
 obtain ⟨t,ht,hf⟩:=bS hf
 obtain ⟨v,hv,rv,hF0⟩:=en.has i _ hi
 subst rv
 obtain ⟨⟨fo,uf,fd,g1,g2⟩,run⟩:=hG a F0 ds t ht
 have fnat:∀ {pins:List (Addr×Obj)} {σ:St} {H:Hp} {s:Shared},Inv X pins σ H s->PySem.W.FnAt a s.heap:=fun {pins σ H s} J=>by
  have e1:=(J.hok a _ (J.base.frzs a fo uf g1)).1
  obtain ⟨oc,od,dt,sl⟩:=fo
  cases (show dt=.func fd from g2)
  exact ⟨oc,od,fd,sl,e1⟩
 refine wpAny_Call_Name_kw (thn (hx pins s σ H (fun v H'=>v=.ref a/\H'=H) I ⟨.ref a,hv,rfl,rfl⟩) fun u s1 h1=>?_)
 obtain ⟨v1,H1,I1,r1,rfl,rfl⟩:=h1
 cases r1
 refine PySem.W.callWith_F (fnat I1) (thn (ha pos pins s1 σ _ (fun vs H'=>∃ F' ρ',Adv X.K F _ ρ ch F' H' ρ' q.2/\RelCs X.K F' ρ' q.2.length q.1 vs) I1 ⟨δ,ch,F,ρ,q.1,q.2,en,hp,fun vs F' H' ρ' a r=>⟨F',ρ',a,r⟩⟩) fun us s2 h2=>?_) he hpl
 obtain ⟨vs,H2,I2,r2,F2,ρ2,a2,rc⟩:=h2
 refine ⟨fnat I2,wpAny_call (codeAny_mono (run X.A X.stack s2 H2 F2 us vs Q hr (fun b o u z=>I2.base.frzs b o u z) I2.env0 (hF0.trans a2.old) a2.gh.fh r2 (cQ hd rc) (ll a2.gh hf (k.adv en.gh a2))) fun r s' hq=>?_)⟩
 cases r with
 | error e=>exact hq.elim
 | ok fl =>
  cases fl with
  | ret u=>exact I2.after hq
  | next=>exact False.elim hq
  | brk=>exact False.elim hq
  | cont=>exact False.elim hq
end
def SameX (F F':Hp):Prop:=∀ b o,F b=some o->(∀ ob φ,o≠.frz ob (.ext φ))->F' b=some o
section
variable {K:PySem.W.Frag} {F F':Hp}
def SameX.rd {a:Addr} {u:HO} (e:SameX F F') (h:Rd F a u) (h1:∀ ob φ,u≠.frz ob (.ext φ)) (h2:∀ φ,u≠.ext φ):Rd F' a u:=by
 rcases h with h | ⟨o,h⟩
 · exact .inl (e _ _ h h1)
 · exact .inr ⟨o,e _ _ h fun ob φ z=>h2 φ (by cases z;rfl)⟩
mutual
def Rep.sameX (e:SameX F F'):∀ {d:Dt} {v:V},Rep K F d v->Rep K F' d v
 | .non,v,h=>h
 | .bl _,v,h=>h
 | .int _,v,h=>h
 | .str _,v,h=>h
 | .tup l,v,h=>by
  unfold Rep at h ⊢
  obtain ⟨a,vs,h1,h2,h3⟩:=h
  exact ⟨a,vs,h1,h2.imp (fun z=>e _ _ z fun _ _ z=>nomatch z) id,Reps.sameX e h3⟩
 | .lst l,v,h=>by
  unfold Rep at h ⊢
  obtain ⟨a,vs,h1,h2,h3⟩:=h
  exact ⟨a,vs,h1,h2.imp (fun z=>e.rd z (fun _ _ z=>nomatch z) fun _ z=>nomatch z) id,Reps.sameX e h3⟩
 | .dct ks l,v,h=>by
  unfold Rep at h ⊢
  obtain ⟨a,vs,h1,h2,h3,h4⟩:=h
  exact ⟨a,vs,h1,(e.rd h2 (fun _ _ z=>nomatch z) (fun _ z=>nomatch z)),h3,Reps.sameX e h4⟩
 | .dcT ks l,v,h=>by
  unfold Rep at h ⊢
  obtain ⟨a,vs,h1,h2,h3,h4⟩:=h
  exact ⟨a,vs,h1,(e.rd h2 (fun _ _ z=>nomatch z) (fun _ z=>nomatch z)),h3,Reps.sameX e h4⟩
 | .ins c ns l,v,h=>by
  unfold Rep at h ⊢
  obtain ⟨a,C,dx,fs,h1,h2,h3,h4,h5⟩:=h
  exact ⟨a,C,dx,fs,h1,h2,(e _ _ h3 (fun _ _ z=>nomatch z)),h4,Reps.sameX e h5⟩
def Reps.sameX (e:SameX F F'):∀ {l:List Dt} {vs:List V},Reps K F l vs->Reps K F' l vs
 | [],vs,h=>h
 | d::l,vs,h=>by
  unfold Reps at h ⊢
  obtain ⟨v,ws,h1,h2,h3⟩:=h
  exact ⟨v,ws,h1,Rep.sameX e h2,Reps.sameX e h3⟩
end
end
def deC (m:Nat) (ds caps:List Dt):De:=ds.map (fun d=>some (T.leaf d))++(List.replicate (m-ds.length-caps.length) none++caps.map (fun d=>some (T.leaf d)))
def jp (m:Nat) (g:De->Option Out) (caps:List Dt):List Dt->Option T:=fun ds=>match g (deC m ds caps) with
 | some (.rt t)=>some t
 | some (.nx _)=>some (.leaf .non)
 | _=>none
def sC {K:PySem.W.Frag} {F H:Hp} {ds caps:List Dt} {vs fs:List V} {N:List Str} (fh:Same F H) (r:Reps K F ds vs) (rc:Reps K F caps fs):En ⟨K,F,H,fun _=>False⟩ (deC N.length ds caps) (dv N vs fs) F H:=by
 have hl:=r.length
 have hc:=rc.length
 have key:∀ (i:Nat) (t:T),(deC N.length ds caps)[i]?=some (some t)->∃ d v,t=T.leaf d/\Rep K F d v/\(dv N vs fs)[i]?=some (some v):=fun i t h=>by
  unfold deC at h
  unfold dv
  rw [hl,hc]
  by_cases hi:i<ds.length
  · rw [List.getElem?_append_left (by simpa using hi),List.getElem?_map] at h
    have hd:ds[i]?=some ds[i]:=by simp [hi]
    rw [hd] at h
    cases h
    obtain ⟨v,hv,rv⟩:=r.get hd
    refine ⟨_,v,rfl,rv,?_⟩
    rw [List.getElem?_append_left (by simp;omega),List.getElem?_map,hv]
    rfl
  · rw [List.getElem?_append_right (by simpa using hi),List.length_map] at h
    rw [List.getElem?_append_right (by simp;omega),List.length_map,hl]
    by_cases hj:i-ds.length<N.length-ds.length-caps.length
    · rw [List.getElem?_append_left (by simpa using hj),List.getElem?_replicate] at h
      split at h<;>cases h
    · rw [List.getElem?_append_right (by simpa using hj),List.length_replicate,List.getElem?_map] at h
      obtain ⟨d,hd,e⟩:=mS h
      cases e
      obtain ⟨v,hv,rv⟩:=rc.get hd
      refine ⟨d,v,rfl,rv,?_⟩
      rw [List.getElem?_append_right (by simpa using hj),List.length_replicate,List.getElem?_map,hv]
      rfl
 refine ⟨fh,fun b o h _=>h,Same.refl _,fun b o h=>.inl h,?_,fun i t h=>?_,fun _ _=>False,fun i t v h=>?_,fun i b z=>z.elim,fun i j b z _=>z.elim⟩
 · unfold deC dv
   simp [hl,hc]
 · obtain ⟨d,v,_,_,e⟩:=key i t h
   exact ⟨v,e⟩
 · obtain ⟨h1,h2⟩:=ej h
   obtain ⟨d,v',rfl,rv,e⟩:=key i t h1
   rw [h2] at e
   cases e
   exact rv
section
variable {P:Program} {w:World} {K:PySem.W.Frag} {mg:Str->Option Value} {base:Heap} {N ps fr:List Str} {name qual:Str} {params:Arguments} {body:List Stmt} {scope:Scope} {f c':Addr} {cl:List (Str×Addr)} {H:Hp} {fs:List V} {doc pm ctv:Value} {fo:Obj} {uf:HO} {k:Nat} {g:De->Option Out} {caps ds:List Dt} {F0:Hp} {t:T}
def ClAt.up {H':Hp} (C:ClAt H f name qual params body scope cl fr fs c' doc pm ctv fo uf) (h:∀ b o u,H b=some (.frz o u)->H' b=some (.frz o u)):ClAt H' f name qual params body scope cl fr fs c' doc pm ctv fo uf:=
 ⟨h _ _ _ C.fn,C.dat,let ⟨oc,z⟩:=C.cod;⟨oc,h _ _ _ z⟩,fun x c hx=>let ⟨o,u,g,d⟩:=C.cel x c hx;⟨o,u,h _ _ _ g,d⟩,C.inj,C.len,fun i x v h1 h2=>let ⟨c,o,u,e1,e2,e3⟩:=C.val i x v h1 h2;⟨c,o,u,e1,h _ _ _ e2,e3⟩,C.nms⟩
def rb (S:ClScope N ps fr scope) (ndn:∀ x,∀ y∈scope.names,y.1=x->scope.names.lookup x=some y.2) (C:ClAt H f name qual params body scope cl fr fs c' doc pm ctv fo uf) (rc:Reps K F0 caps fs)
  (hbd:∀ (s:Shared) (us:List Value),us.length=ps.length->BindsTo s (PySem.W.fnX name qual params body scope cl .none .none doc pm none (.ref c') ctv) ⟨us,[]⟩ (ps.zip us))
  (hbody:∀ (A:Around) (outer:List Env) (s:Shared) (H:Hp),Room k (A.deeper (ic qual scope s.heap.objs.size f (.ref c') cl))->DS (mW CX0 P w K mg base N qual scope f (.ref c') cl A outer s H E0 fun _ _=>False) body g)
  (hl:ds.length=ps.length) (ht:jp N.length g caps ds=some t) (A:Around) (outer:List Env) (s:Shared) (H' F:Hp) (us:List Value) (vs:List V) (Q:VK) (hr:Room (k+1) A) (hp:∀ b o u,H b=some (.frz o u)->H' b=some (.frz o u)) (e0:Env0 P w K mg base A outer s H') (h0:Same F0 F) (fh:Same F H') (r:Vals vs us) (rd:Reps K F ds vs) (kq:KO K F H' t Q) :
  codeAny (model P w) A (.call (.ref f) ⟨us,[]⟩) (CR CX0 outer P w H' s Q E0) s:=by
 have C':=C.up hp
 have hvl:vs.length=ps.length:=by rw [rd.length,hl]
 have cn:∀ b,b∈cl.map (·.2)->∃ o u,H' b=some (fw b o)/\o.data=.cell (some u):=fun b hb=>by
  obtain ⟨x,hx⟩:=ig hb
  exact C'.cel x b hx
 have hsx:SameX F (b7 F cl):=fun b o e hn=>by
  rw [aW fun z=>?_]
  · exact e
  · obtain ⟨ob,u,g,_⟩:=cn b z
    have:=fh b o e
    rw [g] at this
    exact hn _ _ (Option.some.inj this).symm
 have fh':Same (b7 F cl) (b7 H' cl):=fun b o e=>by
  obtain ⟨hb,e⟩:=kY e
  rw [aW hb]
  exact fh b o e
 have fin:∀ v F2 H2,Rt ⟨K,b7 F cl,b7 H' cl,fun _=>False⟩ t v F2 H2->(∀ b∈cl.map (·.2),H2 b=none)->Q v (eh H' cl H2):=fun v F2 H2 R hn=>by
  obtain ⟨fh2,prot,old,nw,So,o,hs⟩:=R
  have sin:∀ {b:Addr},b∈cl.map (·.2)->eh H' cl H2 b=H' b:=fun hb=>if_pos hb
  have sout:∀ {b:Addr},b∉cl.map (·.2)->eh H' cl H2 b=H2 b:=fun hb=>if_neg hb
  let F3:Hp:=eh F cl F2
  have tin:∀ {b:Addr},b∈cl.map (·.2)->F3 b=F b:=fun hb=>if_pos hb
  have tout:∀ {b:Addr},b∉cl.map (·.2)->F3 b=F2 b:=fun hb=>if_neg hb
  have nF2:∀ b,b∈cl.map (·.2)->F2 b=none:=fun b hb=>by
   cases z:F2 b with
   | none=>rfl
   | some u=>have:=fh2 b u z;rw [hn b hb] at this;cases this
  have h23:Same F2 F3:=fun b u e=>by
   by_cases hb:b∈cl.map (·.2)
   · rw [nF2 b hb] at e;cases e
   · rw [tout hb];exact e
  have hh23:Same H2 (eh H' cl H2):=fun b u e=>by
   by_cases hb:b∈cl.map (·.2)
   · rw [hn b hb] at e;cases e
   · rw [sout hb];exact e
  refine kq v (eh H' cl H2) F3 So ⟨fun b u e=>?_,fun b u e=>?_,fun b u e=>?_,fun b u e=>?_⟩ (Own.step h23 (fun b u _ e=>hh23 b u e) o) fun b z=>?_
  · by_cases hb:b∈cl.map (·.2)
    · rw [sin hb];exact e
    · rw [sout hb];exact prot b u ((aW hb).trans e) id
  · by_cases hb:b∈cl.map (·.2)
    · rw [tin hb];exact e
    · rw [tout hb];exact old b u ((aW hb).trans e)
  · by_cases hb:b∈cl.map (·.2)
    · rw [tin hb] at e;rw [sin hb];exact fh b u e
    · rw [tout hb] at e;rw [sout hb];exact fh2 b u e
  · by_cases hb:b∈cl.map (·.2)
    · rw [tin hb] at e;exact .inl e
    · rw [tout hb] at e
      rcases nw b u e with y | y
      · exact .inl ((aW hb).symm.trans y)
      · exact .inr ((aW hb).symm.trans (y.elim id False.elim))
  · obtain ⟨h1,⟨u,h2⟩,h3⟩:=hs b z
    have hb:b∉cl.map (·.2):=fun y=>by rw [hn b y] at h2;cases h2
    exact ⟨by rw [tout hb];exact h1,(aW hb).symm.trans (h3.elim id False.elim),u,by rw [sout hb];exact h2⟩
 have hul:us.length=ps.length:=by rw [<- r.length];exact hvl
 refine t5 (CX:=CX0) (E:=E0) S C' ndn hr e0 (hbd s us hul) hvl r fun hr2=>⟨_,hbody A outer s (b7 H' cl) hr2,?_⟩
 have en:=sC (N:=N) fh' (rd.sameX hsx) ((rc.same h0).sameX hsx)
 unfold jp at ht
 split at ht
 · rename_i t' q
   cases ht
   exact ⟨_,_,_,_,rfl,en,q,fun v F2 H2 R=>fin v F2 H2 R⟩
 · rename_i δ' q
   cases ht
   exact ⟨_,_,_,_,rfl,en,q,fun σ' F2 H2 z=>fin .non F2 H2 (z.rt (Step.refl z.fh) (t:=.leaf .non) (S:=fun _=>False) (ip (K:=K) (F:=F2)) fun _ y=>y.elim)⟩
 · cases ht
end
end L2
namespace L2
open PySem PySem.Spec PyProof.Rows
structure MadeH (H H':Hp) (f c':Addr) (qual:Str) (fo:Obj):Prop where
 fn:H' f=some (.frz fo (.ext fun h=>h.get? f=some fo))
 cod:∃ oc,H' c'=some (.frz oc (.code qual))
 old:Same H H'
 free:H f=none
noncomputable def tDef (P:Addr) (qs:List ((Nat×Nat)×Str)) (i:Nat) (name qual:Str) (params:Arguments) (body:List Stmt) (scope:Scope) (clos:List (Str×Addr)):TS:=fun D σ H=>H P=some (.ctab qs)/\∀ (f c':Addr) (doc pm ctv:Value) (H':Hp),MadeH H H' f c' qual {cls:=.type "function",data:=.func (PySem.W.fnX name qual params body scope clos .none .none doc pm none (.ref c') ctv)}->D.nx (σ.set i (some (.ref f))) H'
section
variable {X:Cx} {c P:Addr} {qs:List ((Nat×Nat)×Str)} {name qual:Str} {params:Arguments} {body:List Stmt} {scope:Scope} {clos:List (Str×Addr)} {pos:Pos} {i:Nat}
def zY (hN:X.N.Nodup) (hi:X.N[i]?=some name) (hx:Loc X.env.scope name) (hfn:X.fn name=true∨X.env.scope.names.lookup name=some .local) (B:TabB X.mg X.base c P) (hcode:X.env.code=.ref c) (hqn:qualnameIn X.env name name=qual) (hq:((pos.line,pos.col),qual)∈qs) (hun:∀ q,((pos.line,pos.col),q)∈qs->q=qual) (hcl:closureFor scope X.env=pure clos)
  (hd0:params.defaults=[]) (hk0:params.kw_defaults=[]) (ha:annTrees params none X.env=[]):PS X (.FunctionDef name params body [] none [] scope none name pos) (tDef P qs i name qual params body scope clos):=by
 intro pins s σ H D I h
 obtain ⟨hP,q⟩:=h
 refine PySem.W.nestDef_K hd0 hk0 ha ?_
 rw [hqn]
 refine wn I B hcode hP hq hun hcl fun f c' doc pm ctv H' s' M I'=>?_
 exact hW I' hN hi hx (v:=.ref f) rfl (fun s2 I2=>⟨_,H',I2,q f c' doc pm ctv H' ⟨M.fn,M.cod,fun b o e=>M.old b o e,I.hok.fresh M.lof⟩⟩) hfn
end
def aV (X:Cx) (b:Addr):Prop:=∃ x,X.env.cells.lookup x=some b
open Classical in
def jf (X:Cx) (H:Hp):Hp:=fun b=>if aV X b then none else H b
structure PlusC (X:Cx) (σ:St) (H H':Hp):Prop where
 out:∀ b,¬ aV X b->H' b=H b
 fre:∀ b,aV X b->H b=none
 cel:∀ x c,X.env.cells.lookup x=some c->∃ o v,H' c=some (fw c o)/\o.data=.cell v/\∀ (i:Nat) (val:V),X.N[i]?=some x->σ[i]?=some (some val)->(X.env.kindOf x=some .cell∨X.env.kindOf x=some .free)->∃ u,v=some u/\RelV val u
section
variable {X:Cx} {pins:List (Addr×Obj)} {σ:St} {H:Hp} {s:Shared}
def nU {b:Addr} (h:aV X b):jf X H b=none:=if_pos h
def bF {b:Addr} (h:¬ aV X b):jf X H b=H b:=if_neg h
open Classical in
def wV (I:Inv X pins σ H s) (hcab:∀ b,aV X b->b∉frs X.stack/\∀ o,X.base.get? b≠some o):∃ H',PlusC X σ H H'/\Env0 X.prog X.w X.K X.mg X.base X.A X.stack s H':=by
 let H':Hp:=fun b=>if aV X b then (s.heap.get? b).map (fw b) else H b
 have hin:∀ {b:Addr},aV X b->H' b=(s.heap.get? b).map (fw b):=fun h=>if_pos h
 have hout:∀ {b:Addr},¬ aV X b->H' b=H b:=fun h=>if_neg h
 have e0:=I.env0
 refine ⟨H',⟨fun b h=>hout h,fun b ⟨x,hx⟩=>I.freeC x b hx,fun x c e=>?_⟩,⟨e0.frames,e0.mod,fun b o e=>⟨(e0.bs b o e).1,?_⟩,e0.bsz,e0.funs,fun b hb=>?_,fun b u e=>?_,e0.bare,fun p hp=>by rw [hout fun ⟨x,hx⟩=>by have:=I.freeC x _ hx;rw [e0.tb p hp] at this;cases this];exact e0.tb p hp⟩⟩
 · obtain ⟨v,o,ho,hd⟩:=I.cell x c e
   refine ⟨o,v,by rw [hin ⟨x,e⟩,ho];rfl,hd,fun i val h1 h2 h3=>?_⟩
   obtain ⟨m,_,hl⟩:=I.loc
   have hv:Vis X.env.scope x:=h3.elim (fun z=>.inr (.inl z)) fun z=>.inr (.inr z)
   obtain ⟨u,ru,lk⟩:=hl i x val h1 h2 hv
   rcases lk with ⟨k1,_⟩ | ⟨_,c2,k2,o2,k3,k4⟩
   · rcases h3 with z | z<;>(rw [k1] at z;cases z)
   · rw [e] at k2
     cases k2
     rw [ho] at k3
     cases k3
     rw [hd] at k4
     cases k4
     exact ⟨u,rfl,ru⟩
 · have:¬ aV X b:=fun z=>(hcab b z).2 o e
   rw [hout this]
   exact (e0.bs b o e).2
 · have:¬ aV X b:=fun z=>(hcab b z).1 hb
   rw [hout this]
   exact e0.frf b hb
 · have up:∀ c u,H c=some u->H' c=some u:=fun c u z=>by
    rw [hout]
    · exact z
    · rintro ⟨x,hx⟩
      rw [I.freeC x c hx] at z
      cases z
   by_cases hb:aV X b
   · rw [hin hb] at e
     obtain ⟨o,ho,rfl⟩:=mS e
     exact ⟨ho,ho,⟨o,ho⟩,fun h1 h2 z1 z2=>z2 o z1⟩
   · rw [hout hb] at e
     exact (I.hok b u e).stay (fun _ _ _ z=>z) (fun c z=>up c _ z) (fun c xs z=>up c _ z) fun c ob xs z=>up c _ z
def Inv.afterP {H':Hp} {Q:VK} {u:Value} {s':Shared} (I:Inv X pins σ H s) (pc:PlusC X σ H H') (ok':HOk X.prog X.w H' s.heap) (h:CE X.stack X.prog X.w H' s (fun v H2=>(∀ c,aV X c->H2 c=H' c)->Q v (jf X H2)) u s'):EP X pins σ Q u s':=by
 obtain ⟨v,H2,os,bare,un,hok,r,q⟩:=h
 obtain ⟨hh,g,d,t,os'⟩:=s'
 obtain rfl:os'=s.os:=os
 have cel:∀ {b:Addr},aV X b->∃ o,H' b=some (fw b o)/\s.heap.get? b=some o/\H2 b=some (fw b o)/\hh.get? b=some o:=fun {b} hb=>by
  obtain ⟨x,hx⟩:=hb
  obtain ⟨o,v,e,_⟩:=pc.cel x b hx
  have e2:=un.frzs b o _ e
  exact ⟨o,e,(ok' b _ e).1,e2,(hok b _ e2).1⟩
 have nc:∀ {b:Addr} {w:HO},H b=some w->¬ aV X b:=fun {b w} z ⟨x,hx⟩=>by rw [I.freeC x b hx] at z;cases z
 refine ⟨v,jf X H2,I.call (h':=hh) (g':=g) (d':=d) (t':=t) (ch:=[]) ⟨fun b o e n hb hx=>?_,fun b o e n hb hx=>?_,fun b o e n hx=>?_,un.there,fun b xs e=>?_,fun b o w e=>?_,fun b ps e=>?_,fun b qs e=>?_⟩ (fun b w e=>?_) bare (fun b z=>absurd z (by simp)),r,q fun c hc=>?_⟩
 · by_cases hc:aV X b
   · obtain ⟨o',_,h1,_,h2⟩:=cel hc
     rw [e] at h1
     cases h1
     exact h2
   · exact un.keep b o e (by rw [pc.out b hc];exact n) hb hx
 · by_cases hc:aV X b
   · obtain ⟨o',_,h1,_,h2⟩:=cel hc
     rw [e] at h1
     cases h1
     exact ⟨o.slots,h2⟩
   · exact un.slot b o e (by rw [pc.out b hc];exact n) hb hx
 · by_cases hc:aV X b
   · exact nU hc
   · rw [bF hc]
     exact un.free b o e (by rw [pc.out b hc];exact n) hx
 · rw [bF (nc e)]
   exact un.tups b xs (by rw [pc.out b (nc e)];exact e)
 · rw [bF (nc e)]
   exact un.frzs b o w (by rw [pc.out b (nc e)];exact e)
 · rw [bF (nc e)]
   exact un.tbls b ps (by rw [pc.out b (nc e)];exact e)
 · rw [bF (nc e)]
   exact un.cts b qs (by rw [pc.out b (nc e)];exact e)
 · by_cases hc:aV X b
   · rw [nU hc] at e;cases e
   · rw [bF hc] at e
     have up:∀ c u,H2 c=some u->(∀ ob φ,u≠.frz ob (.ext φ))->jf X H2 c=some u:=fun c u z hn=>by
      rw [bF]
      · exact z
      · intro hcc
        obtain ⟨o',_,_,h1,_⟩:=cel hcc
        rw [z] at h1
        exact hn _ _ (Option.some.inj h1)
     exact (hok b w e).stay (fun _ _ _ z=>z) (fun c z=>up c _ z fun _ _ y=>nomatch y) (fun c xs z=>up c _ z fun _ _ y=>nomatch y) fun c ob xs z=>up c _ z fun _ _ y=>nomatch y
 · obtain ⟨o',h1,_,h2,_⟩:=cel hc
   rw [h1,h2]
end
section
variable {X:Cx} {x:Str} {p pos:Pos} {e:Expr} {es:List Expr} {t:TA} {f:Addr} {fd:FuncData} {ps:List Str} {sp:Sp} {k:Nat}
def zZ (X:Cx) (sp:Sp) (t:TA):TE:=fun σ H Q=>t σ H fun vs H1=>∀ H',PlusC X σ H1 H'->sp vs H' (fun v H2=>(∀ c,aV X c->H2 c=H' c)->Q v (jf X H2)) E0
def uN {pins:List (Addr×Obj)} {σ:St} {H:Hp} {s:Shared} (I:Inv X pins σ H s) (hfn:∀ x,X.fn x=true):∀ b,aV X b->b∉frs X.stack/\∀ o,X.base.get? b≠some o:=fun b ⟨x,hx⟩=>by
 have hge:=I.ok.cab x b (hfn x) hx
 refine ⟨fun z=>?_,fun o e=>?_⟩
 · rcases List.mem_cons.mp (I.stkSub b z) with y | y
   · exact I.cne x b hx y
   · obtain ⟨_,o,ho,_⟩:=I.ok.funs.mem y
     exact absurd (Heap.lt_size ho) (Nat.not_lt.mpr hge)
 · exact absurd (Nat.lt_of_lt_of_le (Heap.lt_size e) I.ok.bsz) (Nat.not_lt.mpr hge)
def uO (F:FnOk X.prog X.w X.K X.mg X.base CX0 k f fd ps sp) (hr:Room k X.A) (hg:Gl X x) (hm:X.mg x=some (.ref f)) (hk:PySem.W.keepIn X.K (.ref f)=true) (hb:Binds X.K fd ps []) (hfn:∀ x,X.fn x=true)
  (ha:PA X (e::es) t) (hdb:(x==("__debug__":Str))=false:=by decide) (he:starEach (e::es) X.env=(false,eval e X.env)::starEach es X.env:=by rfl) (hpl:(backTo pos (starEach es X.env)).any (·.1)=false:=by rfl) :
  PE X (.Call (.Name x p) (e::es) [] pos) (zZ X sp t):=by
 intro pins s σ H Q I h
 refine wpAny_Call_Name_kw (lP I hg hm ?_ hdb)
 refine PySem.W.callWith_K (h₀:=X.base) I.ok.mod.kin hk (thn (ha pos pins s σ H _ I h) fun us s1 ⟨vs,H1,I1,r,q⟩=>⟨I1.kIn,?_⟩) he hpl
 obtain ⟨H',pc,e0⟩:=wV I1 (uN I1 hfn)
 have hs:=q H' pc
 have hl:(us++[]).length=ps.length:=by rw [List.append_nil,<- r.length];exact F.len _ _ _ _ hs
 refine wpAny_call (codeAny_mono (F.run X.A X.stack s1 H' ⟨us,[]⟩ (us++[]) vs _ E0 hr e0 (hb s1 us I1.kIn hl) (by rw [List.append_nil];exact r) hs) fun r s' hq=>?_)
 cases r with
 | error e=>exact hq.elim
 | ok fl =>
  cases fl with
  | ret u=>exact I1.afterP pc e0.hok hq
  | next=>exact False.elim hq
  | brk=>exact False.elim hq
  | cont=>exact False.elim hq
end
def spR (P:Program) (w:World) (K:PySem.W.Frag) (mg:Str->Option Value) (base:Heap) (kk n:Nat) (F:Orc->Fd):Sp:=fun vs H Q E=>∃ G,uM P w K mg base kk H G/\spG K n (F G) vs H Q E
section
variable {P:Program} {w:World} {K:PySem.W.Frag} {mg:Str->Option Value} {base:Heap}
def wW {x:Str} {st:Stmt} {N ps:List Str} {k kk n:Nat} {g:Orc->Fs} (D:DefF K mg x st ps) (S:FnScope N ps (ab st)) (hn:ps.length=n)
  (hbody:∀ (f:Addr) (cdv:Value) (A:Around) (outer:List Env) (s:Shared) (H:Hp) (E:XK),Room k (A.deeper (envOfC x (ab st) s.heap.objs.size f cdv))->∀ G:Orc,uM P w K mg base kk H G->GS (ji CX0 P w K mg base N x (ab st) f cdv A outer s H E).nox (aM st) (g G)) :
  OkF P w K mg base x (k+1) ps (spR P w K mg base kk n fun G=>gx N.length (g G)):=by
 obtain ⟨f,fd,h1,h2,h3,h4⟩:=D.ex
 refine ⟨f,fd,h1,h2,h3,h4.ok S (fun vs H Q E h=>?_) (fun cdv A outer s H vs Q E hr h=>?_)⟩
 · obtain ⟨G,_,F,ρ,cs,ch,c,ch',_,hl,r,_⟩:=h
   rw [r.length,hl,hn]
 · obtain ⟨G,hG,F,ρ,cs,ch,c,ch',gh,hl,r,hf,kq⟩:=h
   refine ⟨_,hbody f cdv A outer s H E hr G hG,?_⟩
   unfold gx at hf
   dsimp only at hf
   split at hf
   · rename_i c1 ch1 q
     cases hf
     exact ⟨_,ch,F,ρ,_,eI gh r,q,fun v F' H' ρ' a z=>kq v F' H' ρ' a z⟩
   · rename_i δ1 ch1 q
     cases hf
     exact ⟨_,ch,F,ρ,_,eI gh r,q,fun σ' F' H' ρ' a z=>kq .non F' H' ρ' a (ip (K:=K) (F:=F'))⟩
   · cases hf
end
open Classical in
def sD (f1 f2:Addr) (F1:Hp) (g1 g2:List Dt->Option T):Orc:=fun a F0 ds=>if a=f1/\F0=F1/\ds.length=1 then g1 ds else if a=f2/\F0=F1/\ds.length=1 then g2 ds else none
def z0 {f1 f2:Addr} {F1:Hp} {g1 g2:List Dt->Option T} {d:Dt}:sD f1 f2 F1 g1 g2 f1 F1 [d]=g1 [d]:=if_pos ⟨rfl,rfl,rfl⟩
def Aa {f1 f2:Addr} {F1:Hp} {g1 g2:List Dt->Option T} {d:Dt} (h:f1≠f2):sD f1 f2 F1 g1 g2 f2 F1 [d]=g2 [d]:=(if_neg fun z=>h z.1.symm).trans (if_pos ⟨rfl,rfl,rfl⟩)
noncomputable def FnIn (H:Hp) (f:Addr) (name qual:Str) (params:Arguments) (body:List Stmt) (scope:Scope) (cl:List (Str×Addr)):Prop:=
 ∃ fo uf c' doc pm ctv,H f=some (.frz fo uf)/\fo.data=.func (PySem.W.fnX name qual params body scope cl .none .none doc pm none (.ref c') ctv)/\∃ oc,H c'=some (.frz oc (.code qual))
def FnIn.up {H H':Hp} {f:Addr} {name qual:Str} {params:Arguments} {body:List Stmt} {scope:Scope} {cl:List (Str×Addr)} (h:FnIn H f name qual params body scope cl) (s:∀ b o u,H b=some (.frz o u)->H' b=some (.frz o u)):FnIn H' f name qual params body scope cl:=by
 obtain ⟨fo,uf,c',doc,pm,ctv,h1,h2,oc,h3⟩:=h
 exact ⟨fo,uf,c',doc,pm,ctv,s _ _ _ h1,h2,oc,s _ _ _ h3⟩
def dF (δ:Sl):List Nat->Option (List Dt)
 | []=>some []
 | j::js=>match δ[j]? with
  | some (some (.dat d))=>(dF δ js).map (d::·)
  | _=>none
structure NestD (X:Cx) (name qual:Str) (params:Arguments) (body:List Stmt) (scope:Scope) (N ps fr:List Str) (js:List Nat) (g:De->Option Out) (kk:Nat):Prop where
 S:ClScope N ps fr scope
 ndn:∀ x,∀ y∈scope.names,y.1=x->scope.names.lookup x=some y.2
 one:ps.length=1
 fre:∀ x∈scope.names,x.2=.free->X.env.kindOf x.1=some .cell
 jl:js.length=fr.length
 nm:∀ (i j:Nat) (x:Str),fr[i]?=some x->js[i]?=some j->X.N[j]?=some x/\X.env.kindOf x=some .cell
 bd:∀ (s:Shared) (cl:List (Str×Addr)) (doc pm ctv cd:Value) (us:List Value),us.length=ps.length->BindsTo s (PySem.W.fnX name qual params body scope cl .none .none doc pm none cd ctv) ⟨us,[]⟩ (ps.zip us)
 body:∀ (f c':Addr) (cl:List (Str×Addr)) (A:Around) (outer:List Env) (s:Shared) (H:Hp),Room kk (A.deeper (ic qual scope s.heap.objs.size f (.ref c') cl))->DS (mW CX0 X.prog X.w X.K X.mg X.base N qual scope f (.ref c') cl A outer s H E0 fun _ _=>False) body g
section
variable {X:Cx}
def j0 {names:List (Str×NameKind)} {cells:List (Str×Addr)} {x:Str} {c:Addr} (h:(x,c)∈dW names cells):(x,NameKind.free)∈names/\c=(cells.lookup x).getD 0:=by
 have key:∀ (names:List (Str×NameKind)) (acc:List (Str×Addr)),(x,c)∈names.foldl (fun cs nk=>if nk.2==NameKind.free then (nk.1,(cells.lookup nk.1).getD 0)::cs else cs) acc->(x,c)∈acc∨((x,NameKind.free)∈names/\c=(cells.lookup x).getD 0):=fun names=>by
  induction names with
  | nil=>intro acc h;exact .inl h
  | cons y r ih =>
   intro acc h
   rw [List.foldl_cons] at h
   rcases ih _ h with z | z
   · split at z
     · rename_i hk
       rcases List.mem_cons.mp z with e | z
       · obtain ⟨a,k⟩:=y
         cases e
         have hk:k=NameKind.free:=by simpa using hk
         subst hk
         exact .inr ⟨.head _,rfl⟩
       · exact .inl z
     · exact .inl z
   · exact .inr ⟨.tail _ z.1,z.2⟩
 rcases key names [] h with z | z
 · cases z
 · exact z
def sE {names:List (Str×NameKind)} {cells:List (Str×Addr)} {x:Str} (h:(x,NameKind.free)∈names):∃ c,(dW names cells).lookup x=some c:=by
 have key:∀ (names:List (Str×NameKind)) (acc:List (Str×Addr)),((x,NameKind.free)∈names∨∃ c,acc.lookup x=some c)->∃ c,(names.foldl (fun cs nk=>if nk.2==NameKind.free then (nk.1,(cells.lookup nk.1).getD 0)::cs else cs) acc).lookup x=some c:=fun names=>by
  induction names with
  | nil =>
   intro acc h
   rcases h with h | h
   · cases h
   · exact h
  | cons y r ih =>
   intro acc h
   rw [List.foldl_cons]
   refine ih _ ?_
   rcases h with h | ⟨c,h⟩
   · rcases List.mem_cons.mp h with e | h
     · subst e
       right
       simp
     · exact .inl h
   · right
     split
     · rw [List.lookup_cons]
       cases x==y.1 with
       | true=>exact ⟨_,rfl⟩
       | false=>exact ⟨c,h⟩
     · exact ⟨c,h⟩
 exact key names [] (.inl h)
def j3 {K:PySem.W.Frag} {δ:Sl} {ch:CH} {σ:St} {F H:Hp} {ρ:Nat->Addr} (en:Ge K δ ch σ F H ρ):∀ {js:List Nat} {caps:List Dt},dF δ js=some caps->∃ fs:List V,Reps K F caps fs/\fs.length=js.length/\∀ (i j:Nat) (v:V),js[i]?=some j->fs[i]?=some v->σ[j]?=some (some v)
 | [],caps,h=>by
  cases h
  exact ⟨[],by simp only [Reps],rfl,fun i j v h=>by simp at h⟩
 | j::js,caps,h=>by
  simp only [dF] at h
  split at h<;>first | (cases h;done) | skip
  rename_i d hd
  obtain ⟨cs,hcs,rfl⟩:=mS h
  obtain ⟨v,hv,rv⟩:=en.has j _ hd
  obtain ⟨fs,h1,h2,h3⟩:=j3 en hcs
  refine ⟨v::fs,by simp only [Reps];exact ⟨v,fs,rfl,rv,h1⟩,by simp [h2],fun i j' v' q1 q2=>?_⟩
  cases i with
  | zero =>
   simp at q1 q2
   subst q1 q2
   exact hv
  | succ i=>exact h3 i j' v' (by simpa using q1) (by simpa using q2)
def NestD.at {name qual:Str} {params:Arguments} {body:List Stmt} {scope:Scope} {N ps fr:List Str} {js:List Nat} {g:De->Option Out} {kk:Nat} (D:NestD X name qual params body scope N ps fr js g kk) {σ:St} {H H':Hp} {f:Addr} (hinj:∀ x y c,X.env.cells.lookup x=some c->X.env.cells.lookup y=some c->x=y) (hhas:∀ x,X.env.kindOf x=some .cell->∃ c,X.env.cells.lookup x=some c)
  (pc:PlusC X σ H H') (fi:FnIn H' f name qual params body scope (dW scope.names X.env.cells)) {fs:List V} (hl:fs.length=js.length) (hv:∀ (i j:Nat) (v:V),js[i]?=some j->fs[i]?=some v->σ[j]?=some (some v)) (hall:∀ x∈scope.names,x.2=.free->x.1∈fr) :
  ∃ c' doc pm ctv fo uf,ClAt H' f name qual params body scope (dW scope.names X.env.cells) fr fs c' doc pm ctv fo uf:=by
 obtain ⟨fo,uf,c',doc,pm,ctv,h1,h2,h3⟩:=fi
 have cells:∀ x,(x,NameKind.free)∈scope.names->∃ c,X.env.cells.lookup x=some c:=fun x hx=>hhas x (D.fre (x,.free) hx rfl)
 have look:∀ x c,(x,c)∈dW scope.names X.env.cells->X.env.cells.lookup x=some c:=fun x c h=>by
  obtain ⟨a,b⟩:=j0 h
  obtain ⟨c2,e⟩:=cells x a
  rw [e] at b
  rw [e,b]
  rfl
 have vals:∀ x c,(x,c)∈dW scope.names X.env.cells->∃ (i:Nat) (o:Obj) (v:V) (u:Value),fr[i]?=some x/\fs[i]?=some v/\H' c=some (fw c o)/\o.data=.cell (some u)/\RelV v u:=fun x c h=>by
  obtain ⟨a,_⟩:=j0 h
  obtain ⟨i,hi⟩:=List.getElem?_of_mem (hall _ a rfl)
  have hif:i<fr.length:=(gX hi).1
  have hjl:=D.jl
  have hij:js[i]?=some js[i]:=gQ (by omega)
  have hiv:fs[i]?=some fs[i]:=gQ (by omega)
  obtain ⟨n1,n2⟩:=D.nm i _ x hi hij
  obtain ⟨o,v,g1,g2,g3⟩:=pc.cel x c (look x c h)
  obtain ⟨u,rfl,ru⟩:=g3 _ _ n1 (hv i _ _ hij hiv) (.inl n2)
  exact ⟨i,o,_,u,hi,hiv,g1,g2,ru⟩
 refine ⟨c',doc,pm,ctv,fo,uf,⟨h1,h2,h3,fun x c h=>?_,fun x y c e1 e2=>?_,?_,fun i x v e1 e2=>?_,fun x c e=>?_⟩⟩
 · obtain ⟨_,o,_,u,_,_,g1,g2,_⟩:=vals x c h
   exact ⟨o,u,g1,g2⟩
 · exact hinj x y c (look x c (PySem.mem_of_lookup e1)) (look y c (PySem.mem_of_lookup e2))
 · rw [hl,D.jl]
 · have hx:=D.S.frk x (List.mem_of_getElem? e1)
   obtain ⟨c,e⟩:=sE (cells:=X.env.cells) (PySem.mem_of_lookup hx)
   have hif:i<fr.length:=(gX e1).1
   have hjl:=D.jl
   have hij:js[i]?=some js[i]:=gQ (by omega)
   obtain ⟨n1,n2⟩:=D.nm i _ x e1 hij
   obtain ⟨o,w,g1,g2,g3⟩:=pc.cel x c (look x c (PySem.mem_of_lookup e))
   obtain ⟨u,rfl,ru⟩:=g3 _ _ n1 (hv i _ _ hij e2) (.inl n2)
   exact ⟨c,o,u,e,g1,g2,ru⟩
 · obtain ⟨a,_⟩:=j0 (PySem.mem_of_lookup e)
   exact D.ndn x _ a rfl
end
section
variable {X:Cx} {K:PySem.W.Frag}
def Adv.hide {F H F1 H1:Hp} {ρ ρ1:Nat->Addr} {ch ch1:CH} {σ:St} {Hp':Hp} (g:Gh K F H ρ ch) (pc:PlusC X σ H Hp') (a:Adv K F Hp' ρ ch F1 H1 ρ1 ch1) (hc:∀ c,aV X c->H1 c=Hp' c):Adv K F H ρ ch F1 (jf X H1) ρ1 ch1:=by
 have hfree:=pc.fre
 have cel:∀ {b:Addr},aV X b->∃ o,Hp' b=some (fw b o):=fun {b} ⟨x,hx⟩=>by
  obtain ⟨o,v,e,_⟩:=pc.cel x b hx
  exact ⟨o,e⟩
 have nF1:∀ {b:Addr} {o:HO},F1 b=some o->¬ aV X b:=fun {b o} e hb=>by
  obtain ⟨ob,g1⟩:=cel hb
  have g2:=a.gh.fh b o e
  rw [hc b hb,g1] at g2
  rcases a.nw b o e with z | z | ⟨xs,z⟩
  · have:=g.fh b o z
    rw [hfree b hb] at this
    cases this
  · rw [g1] at z;cases z
  · rw [z] at g2
    cases g2
 have nP:∀ (i:Nat) (o:CO),ch1[i]?=some o->¬ aV X (ρ1 i):=fun i o e hb=>by
  obtain ⟨ob,g1⟩:=cel hb
  have g2:=hc _ hb
  rw [g1] at g2
  have ok:=a.gh.ok i o e
  cases o with
  | lst l=>obtain ⟨vs,h1,_⟩:=ok;rw [h1] at g2;cases g2
  | tup l=>obtain ⟨vs,h1,_⟩:=ok;rw [h1] at g2;cases g2
  | dK l=>obtain ⟨vs,h1,_⟩:=ok;rw [h1] at g2;cases g2
  | ins c ns l=>obtain ⟨C,dx,fs,h0,h1,_⟩:=ok;rw [h1] at g2;cases g2
  | wk l=>obtain ⟨o,vs,h1,_⟩:=ok;rw [h1] at g2;cases g2
  | dT l=>obtain ⟨vs,h1,_⟩:=ok;rw [h1] at g2;cases g2
  | wt l=>obtain ⟨o,vs,h1,_⟩:=ok;rw [h1] at g2;cases g2
 refine ⟨⟨fun b o e=>?_,a.gh.inj,a.gh.out,fun i o e=>?_⟩,a.len,a.ext,fun i h1 h2=>?_,fun b o e h=>?_,a.old,fun b o e=>?_,fun b o u e=>?_⟩
 · rw [bF (nF1 e)]
   exact a.gh.fh b o e
 · have hn:=nP i o e
   exact (a.gh.ok i o e).mono (Same.refl _) (fun _ _=>rfl) (nL _) fun u hu=>by rw [bF hn];exact hu
 · have:=a.fr i h1 h2
   have hn:¬ aV X (ρ1 i):=fun z=>by
    obtain ⟨ob,g1⟩:=cel z
    rw [this] at g1
    cases g1
   rw [<- pc.out _ hn]
   exact this
 · have hn:¬ aV X b:=fun z=>by rw [hfree b z] at e;cases e
   rw [bF hn]
   exact a.prot b o (by rw [pc.out b hn];exact e) h
 · rcases a.nw b o e with z | z | z
   · exact .inl z
   · exact .inr (.inl (by rw [<- pc.out b (nF1 e)];exact z))
   · exact .inr (.inr z)
 · have hn:¬ aV X b:=fun z=>by rw [hfree b z] at e;cases e
   rw [bF hn]
   exact a.fz b o u (by rw [pc.out b hn];exact e)
end
section
variable {X:Cx} {e0:Expr} {p p1 p2 pos:Pos} {x n1 n2 q1 q2:Str} {par1 par2:Arguments} {bod1 bod2:List Stmt} {sc1 sc2:Scope} {N1 ps1 fr1 N2 ps2 fr2:List Str} {js1 js2:List Nat} {g1 g2:De->Option Out} {k kk i1 i2:Nat} {ps:List Str} {FR:Orc->Fd} {f0:Fg}
noncomputable def tRt (X:Cx) (i1 i2:Nat) (n1 n2 q1 q2:Str) (par1 par2:Arguments) (bod1 bod2:List Stmt) (sc1 sc2:Scope) (N1 N2:List Str) (js1 js2:List Nat) (g1 g2:De->Option Out) (f0:Fg) (FR:Orc->Fd):TE:=fun σ H Q =>
 ∃ δ ch F ρ f1 f2 c0 ch0 caps1 caps2 c ch',Ge X.K δ ch σ F H ρ/\σ[i1]?=some (some (.ref f1))/\σ[i2]?=some (some (.ref f2))/\f1≠f2/\FnIn H f1 n1 q1 par1 bod1 sc1 (dW sc1.names X.env.cells)/\FnIn H f2 n2 q2 par2 bod2 sc2 (dW sc2.names X.env.cells)∧
  f0 δ ch=some (c0,ch0)/\dF δ js1=some caps1/\dF δ js2=some caps2/\(∀ F0,FR (sD f1 f2 F0 (jp N1.length g1 caps1) (jp N2.length g2 caps2)) [c0,.fn f1 F0,.fn f2 F0] ch0=some (c,ch'))/\KG X.K F H ρ ch c ch' Q
def BF (F:OkF X.prog X.w X.K X.mg X.base x k ps (spR X.prog X.w X.K X.mg X.base (kk+1) 3 FR)) (hr:Room k X.A) (hg:Gl X x) (hfn:∀ x,X.fn x=true) (h0:GE X e0 f0) (hv1:PE X (.Name n1 p1) (jh i1)) (hv2:PE X (.Name n2 p2) (jh i2))
  (D1:NestD X n1 q1 par1 bod1 sc1 N1 ps1 fr1 js1 g1 kk) (D2:NestD X n2 q2 par2 bod2 sc2 N2 ps2 fr2 js2 g2 kk) (ha1:∀ x∈sc1.names,x.2=.free->x.1∈fr1) (ha2:∀ x∈sc2.names,x.2=.free->x.1∈fr2) (hdb:(x==("__debug__":Str))=false:=by decide)
  (s0:starEach [e0,.Name n1 p1,.Name n2 p2] X.env=(false,eval e0 X.env)::starEach [.Name n1 p1,.Name n2 p2] X.env:=by rfl) (s1:starEach [.Name n1 p1,.Name n2 p2] X.env=(false,eval (.Name n1 p1) X.env)::starEach [.Name n2 p2] X.env:=by rfl) (s2:starEach [.Name n2 p2] X.env=(false,eval (.Name n2 p2) X.env)::starEach [] X.env:=by rfl)
  (hpl:(backTo pos (starEach [.Name n1 p1,.Name n2 p2] X.env)).any (·.1)=false:=by rfl) :
  PE X (.Call (.Name x p) [e0,.Name n1 p1,.Name n2 p2] [] pos) (tRt X i1 i2 n1 n2 q1 q2 par1 par2 bod1 bod2 sc1 sc2 N1 N2 js1 js2 g1 g2 f0 FR):=by
 obtain ⟨f,fd,hm,hk,hb,FF⟩:=F.ex
 intro pins s σ H Q I h
 refine (uO FF hr hg hm hk hb hfn (bY h0 (bY hv1 (bY hv2 dS s2) s1) s0) hdb s0 hpl) pins s σ H Q I ?_
 obtain ⟨δ,ch,F,ρ,f1,f2,c0,ch0,caps1,caps2,c,ch',en,v1,v2,hne,fi1,fi2,hf0,hc1,hc2,hrun,kq⟩:=h
 refine ⟨δ,ch,F,ρ,c0,ch0,en,hf0,fun v F1 H1 ρ1 a1 r1=>⟨.ref f1,v1,.ref f2,v2,fun H' pc=>?_⟩⟩
 have en1:=en.adv a1
 have up1:∀ b o,H1 b=some o->H' b=some o:=fun b o z=>by
  rw [pc.out b fun y=>by rw [pc.fre b y] at z;cases z]
  exact z
 have up:∀ b o u,H b=some (.frz o u)->H' b=some (.frz o u):=fun b o u z=>up1 _ _ (a1.fz b o u z)
 obtain ⟨fs1,rc1,hl1,hs1⟩:=j3 en hc1
 obtain ⟨fs2,rc2,hl2,hs2⟩:=j3 en hc2
 have hhas:∀ x,X.env.kindOf x=some .cell->∃ c,X.env.cells.lookup x=some c:=fun x hx=>I.ok.has x (.inl hx)
 have fj1:=fi1.up up
 have fj2:=fi2.up up
 obtain ⟨c1',doc1,pm1,ctv1,fo1,uf1,C1⟩:=D1.at I.ok.inj hhas pc fj1 hl1 hs1 ha1
 obtain ⟨c2',doc2,pm2,ctv2,fo2,uf2,C2⟩:=D2.at I.ok.inj hhas pc fj2 hl2 hs2 ha2
 refine ⟨sD f1 f2 F1 (jp N1.length g1 caps1) (jp N2.length g2 caps2),fun f F0 ds t hG=>?_,F1,ρ1,[c0,.fn f1 F1,.fn f2 F1],ch0,c,ch',⟨fun b o z=>up1 b o (a1.gh.fh b o z),a1.gh.inj,a1.gh.out,fun i o z=>?_⟩,rfl,⟨_,_,rfl,r1,_,_,rfl,⟨rfl,Same.refl _⟩,_,_,rfl,⟨rfl,Same.refl _⟩,rfl⟩,hrun F1,fun v' F2 H2 ρ2 a2 r2 hcs=>?_⟩
 · unfold sD at hG
   split at hG
   · rename_i hh
     obtain ⟨rfl,rfl,hd⟩:=hh
     refine ⟨⟨fo1,uf1,_,C1.fn,C1.dat⟩,fun A outer s H2 F2 us vs Q2 hr2 hp e0 h0 fh r rd kq2=>?_⟩
     exact rb D1.S D1.ndn C1 (rc1.same a1.old) (fun s us hu=>D1.bd s _ _ _ _ _ us hu) (fun A outer s H hr=>D1.body _ _ _ A outer s H hr) (by rw [hd,D1.one]) hG A outer s H2 F2 us vs Q2 hr2 hp e0 h0 fh r rd kq2
   · split at hG
     · rename_i hh
       obtain ⟨rfl,rfl,hd⟩:=hh
       refine ⟨⟨fo2,uf2,_,C2.fn,C2.dat⟩,fun A outer s H2 F2 us vs Q2 hr2 hp e0 h0 fh r rd kq2=>?_⟩
       exact rb D2.S D2.ndn C2 (rc2.same a1.old) (fun s us hu=>D2.bd s _ _ _ _ _ us hu) (fun A outer s H hr=>D2.body _ _ _ A outer s H hr) (by rw [hd,D2.one]) hG A outer s H2 F2 us vs Q2 hr2 hp e0 h0 fh r rd kq2
     · cases hG
 · exact (a1.gh.ok i o z).mono (Same.refl _) (fun _ _=>rfl) (nL _) fun u hu=>up1 _ _ hu
 · exact kq.adv en.gh a1 v' F2 (jf X H2) ρ2 (Adv.hide a1.gh pc a2 hcs) r2
end
noncomputable def rf (i:Nat) (name qual:Str) (params:Arguments) (body:List Stmt) (scope:Scope) (clos:List (Str×Addr)):TS:=fun D σ H=>∀ (f c':Addr) (doc pm ctv:Value) (H':Hp),MadeH H H' f c' qual {cls:=.type "function",data:=.func (PySem.W.fnX name qual params body scope clos .none .none doc pm none (.ref c') ctv)}->D.nx (σ.set i (some (.ref f))) H'
section
variable {X:Cx} {c P:Addr} {qs:List ((Nat×Nat)×Str)} {name qual:Str} {params:Arguments} {body:List Stmt} {scope:Scope} {clos:List (Str×Addr)} {pos:Pos} {i:Nat}
def wX (hN:X.N.Nodup) (hi:X.N[i]?=some name) (hx:Loc X.env.scope name) (hfn:X.fn name=true∨X.env.scope.names.lookup name=some .local) (B:TabB X.mg X.base c P) (hcode:X.env.code=.ref c) (hT:(P,qs)∈cI X.K) (hqn:qualnameIn X.env name name=qual) (hq:((pos.line,pos.col),qual)∈qs) (hun:∀ q,((pos.line,pos.col),q)∈qs->q=qual) (hcl:closureFor scope X.env=pure clos)
  (hd0:params.defaults=[]) (hk0:params.kw_defaults=[]) (ha:annTrees params none X.env=[]):PS X (.FunctionDef name params body [] none [] scope none name pos) (rf i name qual params body scope clos):=fun pins s σ H D I h =>
 zY hN hi hx hfn B hcode hqn hq hun hcl hd0 hk0 ha pins s σ H D I ⟨I.base.cts _ _ (I.ok.tb _ hT),h⟩
end
section
variable {X:Cx} {e0:Expr} {pos:Pos} {n1 n2 q1 q2:Str} {par1 par2:Arguments} {bod1 bod2:List Stmt} {sc1 sc2:Scope} {N1 N2:List Str} {js1 js2:List Nat} {g1 g2:De->Option Out} {i1 i2:Nat} {FR:Orc->Fd} {f0:Fg} {K:PySem.W.Frag}
noncomputable def yh (X:Cx) (i1 i2:Nat) (n1 n2 q1 q2:Str) (par1 par2:Arguments) (bod1 bod2:List Stmt) (sc1 sc2:Scope) (σ:St) (H:Hp) (f1 f2:Addr):Prop:=
 σ[i1]?=some (some (.ref f1))/\σ[i2]?=some (some (.ref f2))/\f1≠f2/\FnIn H f1 n1 q1 par1 bod1 sc1 (dW sc1.names X.env.cells)/\FnIn H f2 n2 q2 par2 bod2 sc2 (dW sc2.names X.env.cells)
noncomputable def tG2 (X:Cx) (i1 i2:Nat) (n1 n2 q1 q2:Str) (par1 par2:Arguments) (bod1 bod2:List Stmt) (sc1 sc2:Scope) (g:Fs):TS:=fun D σ H =>
 ∃ δ ch F ρ f1 f2 o,Ge X.K δ ch σ F H ρ/\yh X i1 i2 n1 n2 q1 q2 par1 par2 bod1 bod2 sc1 sc2 σ H f1 f2/\g δ ch=some o/\PostG X.K F H ρ ch D o
def Adv.same {F H H':Hp} {ρ:Nat->Addr} {ch:CH} (g:Gh K F H ρ ch) (s:Same H H'):Adv K F H ρ ch F H' ρ ch:=
 ⟨⟨fun b o e=>s b o (g.fh b o e),g.inj,g.out,fun i o e=>(g.ok i o e).mono (Same.refl _) (fun _ _=>rfl) (nL _) fun u hu=>s _ _ hu⟩,nL _,fun _ _=>rfl,fun i h1 h2=>absurd h2 (Nat.not_lt.mpr h1),fun b o e _=>s b o e,Same.refl _,fun _ _ e=>.inl e,fun b o u e=>s b _ e⟩
def j4 (i1 i2:Nat) (δ:Sl):Sl:=(δ.set i1 none).set i2 none
def uP {p1 p2:Pos} {ss:List Stmt} {g:Fs} (hne:i1≠i2) (hl1:∀ σ:St,σ.length=X.N.length->i1<σ.length/\i2<σ.length)
  (h1:PS X (.FunctionDef n1 par1 bod1 [] none [] sc1 none n1 p1) (rf i1 n1 q1 par1 bod1 sc1 (dW sc1.names X.env.cells))) (h2:PS X (.FunctionDef n2 par2 bod2 [] none [] sc2 none n2 p2) (rf i2 n2 q2 par2 bod2 sc2 (dW sc2.names X.env.cells)))
  (hs:PSs X ss (tG2 X i1 i2 n1 n2 q1 q2 par1 par2 bod1 bod2 sc1 sc2 g)) :
  GS X (.FunctionDef n1 par1 bod1 [] none [] sc1 none n1 p1::.FunctionDef n2 par2 bod2 [] none [] sc2 none n2 p2::ss) fun δ ch=>g (j4 i1 i2 δ) ch:=by
 intro pins s σ H D I h
 refine fG h1 (fG h2 hs) pins s σ H D I ?_
 obtain ⟨δ,ch,F,ρ,o,en,hg,k⟩:=h
 obtain ⟨l1,l2⟩:=hl1 σ I.len
 intro f1 c1 doc1 pm1 ctv1 H1 M1 f2 c2 doc2 pm2 ctv2 H2 M2
 have hf:f1≠f2:=fun z=>by
  have:=M2.free
  rw [<- z,M1.fn] at this
  cases this
 have sm:Same H H2:=fun b o e=>M2.old b o (M1.old b o e)
 have a:=Adv.same en.gh sm
 refine ⟨j4 i1 i2 δ,ch,F,ρ,f1,f2,o,⟨a.gh,by simp [j4,en.len],fun j x hj=>?_⟩,⟨?_,?_,hf,?_,?_⟩,hg,k.adv en.gh a⟩
 · unfold j4 at hj
   by_cases e2:i2=j
   · subst e2
     rw [List.getElem?_set_self' ] at hj
     cases q:(δ.set i1 none)[i2]? with
     | none=>rw [q] at hj;cases hj
     | some y=>rw [q] at hj;cases hj
   · rw [gN e2] at hj
     by_cases e1:i1=j
     · subst e1
       rw [List.getElem?_set_self'] at hj
       cases q:δ[i1]? with
       | none=>rw [q] at hj;cases hj
       | some y=>rw [q] at hj;cases hj
     · rw [gN e1] at hj
       obtain ⟨v,hv,r⟩:=en.has j x hj
       exact ⟨v,by rw [gN e2,gN e1];exact hv,r⟩
 · rw [gN (Ne.symm hne)]
   exact List.getElem?_set_self l1
 · exact List.getElem?_set_self (by simpa using l2)
 · obtain ⟨oc,hc⟩:=M1.cod
   exact ⟨_,_,c1,doc1,pm1,ctv1,M2.old _ _ M1.fn,rfl,oc,M2.old _ _ hc⟩
 · obtain ⟨oc,hc⟩:=M2.cod
   exact ⟨_,_,c2,doc2,pm2,ctv2,M2.fn,rfl,oc,hc⟩
noncomputable def wY (N1 N2:List Str) (g1 g2:De->Option Out) (FR:Orc->Fd) (c0:CV) (ch0:CH) (caps1 caps2:List Dt) (r:CV×CH):Prop:=
 ∀ f1 f2 F0,f1≠f2->FR (sD f1 f2 F0 (jp N1.length g1 caps1) (jp N2.length g2 caps2)) [c0,.fn f1 F0,.fn f2 F0] ch0=some r
open Classical in
noncomputable def fRt (js1 js2:List Nat) (N1 N2:List Str) (g1 g2:De->Option Out) (f0:Fg) (FR:Orc->Fd):Fg:=fun δ ch=>(f0 δ ch).bind fun p=>(dF δ js1).bind fun a=>(dF δ js2).bind fun b =>
 if h:∃ r,wY N1 N2 g1 g2 FR p.1 p.2 a b r then some h.choose else none
def Ab {δ:Sl} {ch ch0:CH} {c0:CV} {a b:List Dt} {r:CV×CH} (h0:f0 δ ch=some (c0,ch0)) (ha:dF δ js1=some a) (hb:dF δ js2=some b) (h:wY N1 N2 g1 g2 FR c0 ch0 a b r):fRt js1 js2 N1 N2 g1 g2 f0 FR δ ch=some r:=by
 have hx:∃ r,wY N1 N2 g1 g2 FR c0 ch0 a b r:=⟨r,h⟩
 have e:hx.choose=r:=by
  have h1:=hx.choose_spec 0 1 (fun _=>none) (by decide)
  have h2:=h 0 1 (fun _=>none) (by decide)
  exact Option.some.inj (h1.symm.trans h2)
 unfold fRt
 rw [h0,ha,hb]
 simp only [Option.bind_some]
 rw [dif_pos hx,e]
def Ac {δ:Sl} {ch:CH} {r:CV×CH} (h:fRt js1 js2 N1 N2 g1 g2 f0 FR δ ch=some r):∃ c0 ch0 a b,f0 δ ch=some (c0,ch0)/\dF δ js1=some a/\dF δ js2=some b/\wY N1 N2 g1 g2 FR c0 ch0 a b r:=by
 unfold fRt at h
 obtain ⟨p,h0,h⟩:=bS h
 obtain ⟨a,ha,h⟩:=bS h
 obtain ⟨b,hb,h⟩:=bS h
 split at h
 · rename_i hx
   cases h
   exact ⟨p.1,p.2,a,b,h0,ha,hb,hx.choose_spec⟩
 · cases h
def Ad {e:Expr} {δ:Sl} {ch ch':CH} {σ:St} {F H:Hp} {ρ:Nat->Addr} {f1 f2:Addr} {c:CV} {Q:VK} (en:Ge X.K δ ch σ F H ρ) (fs:yh X i1 i2 n1 n2 q1 q2 par1 par2 bod1 bod2 sc1 sc2 σ H f1 f2) (h:fRt js1 js2 N1 N2 g1 g2 f0 FR δ ch=some (c,ch')) (k:KG X.K F H ρ ch c ch' Q) :
  tRt X i1 i2 n1 n2 q1 q2 par1 par2 bod1 bod2 sc1 sc2 N1 N2 js1 js2 g1 g2 f0 FR σ H Q:=by
 obtain ⟨c0,ch0,a,b,h0,ha,hb,hr⟩:=Ac h
 obtain ⟨v1,v2,hne,fi1,fi2⟩:=fs
 exact ⟨δ,ch,F,ρ,f1,f2,c0,ch0,a,b,c,ch',en,v1,v2,hne,fi1,fi2,h0,ha,hb,fun F0=>hr f1 f2 F0 hne,k⟩
def wZ {e:Expr} {sc:Scope} {N:List Str} {x:Str} {pos':Pos} {i:Nat} (h:cy sc N i x=true) (hl:ii sc x=true) (nd:N.Nodup) (he:PE X e (tRt X i1 i2 n1 n2 q1 q2 par1 par2 bod1 bod2 sc1 sc2 N1 N2 js1 js2 g1 g2 f0 FR)) (e1:bK X sc:=by rfl) (e2:X.N=N:=by rfl) (hf:X.fn x=true∨X.env.scope.names.lookup x=some .local:=by exact .inl rfl)
  (hs:swapsWith e (some (.Name x pos')) pos.line X.env=pure false:=by rfl):PS X (.Assign [.Name x pos'] e pos) (tG2 X i1 i2 n1 n2 q1 q2 par1 par2 bod1 bod2 sc1 sc2 (aT i (fRt js1 js2 N1 N2 g1 g2 f0 FR))):=PS.mono (l4 h hl nd he e1 e2 hf hs) fun D σ H ⟨δ,ch,F,ρ,f1,f2,o,en,fs,hg,k⟩=>by
 unfold aT at hg
 obtain ⟨p,hp,hg⟩:=mS hg
 cases hg
 exact Ad (e:=e) en fs hp fun v F' H' ρ' a r=>k _ F' H' ρ' a ((en.adv a).put r i)
def uQ {st:Stmt} {rest:List Stmt} {ga gb:Fs} (h1:PS X st (tG2 X i1 i2 n1 n2 q1 q2 par1 par2 bod1 bod2 sc1 sc2 ga)) (h2:GS X rest gb):PSs X (st::rest) (tG2 X i1 i2 n1 n2 q1 q2 par1 par2 bod1 bod2 sc1 sc2 (aJ ga gb)):=PSs.mono (fG h1 h2) fun D σ H ⟨δ,ch,F,ρ,f1,f2,o,en,fs,hg,k⟩=>by
 unfold aJ at hg
 obtain ⟨o1,h1,hg⟩:=bS hg
 refine ⟨δ,ch,F,ρ,f1,f2,o1,en,fs,h1,?_⟩
 cases o1 with
 | nx δ' ch'=>exact fun σ' F' H' ρ' a en'=>⟨δ',ch',F',ρ',o,en',hg,k.adv en.gh a⟩
 | rt c ch'=>cases hg;exact k
 | bk δ' ch'=>cases hg;exact k
 | ct δ' ch'=>cases hg;exact k
end
def pK (mg:Str->Option Value) (base:Heap):Prop:=∃ bm ob,mg "__builtins__"=some (.ref bm)/\bm≠builtinsNs/\base.get? bm=some ob/\ob.cls=.type "module"/\ob.dict=some builtinsNs/\ob.data=.plain
def TabB.mk' {mg:Str->Option Value} {base:Heap} {K:PySem.W.Frag} {c P:Addr} (kb:K.In base) (h:PySem.W.codeHdIn K c P=true) (b:pK mg base):TabB mg base c P:=⟨PySem.W.codeHd_of_K kb h,b⟩
def rg (H:Hp):Prop:=∀ b,H b=none∨(∃ o xs,H b=some (.frz o (.lst xs)))∨∃ qs,H b=some (.ctab qs)
def gH (K:PySem.W.Frag):Hp:=fun b=>((cI K).find? fun p=>p.1==b).map fun p=>.ctab p.2
def e9 {K:PySem.W.Frag} {b:Addr} {u:HO} (h:gH K b=some u):∃ p∈cI K,p.1=b/\u=.ctab p.2:=by
 obtain ⟨p,hp,rfl⟩:=mS h
 exact ⟨p,List.mem_of_find?_eq_some hp,by simpa using List.find?_some hp,rfl⟩
def uR {K:PySem.W.Frag} (hnd:∀ p∈cI K,∀ q∈cI K,p.1=q.1->p=q) {p:Addr×List ((Nat×Nat)×Str)} (hp:p∈cI K):gH K p.1=some (.ctab p.2):=by
 unfold gH
 cases q:(cI K).find? fun x=>x.1==p.1 with
 | none =>
  have:=List.find?_eq_none.mp q p hp
  simp at this
 | some r =>
  have h1:r.1=p.1:=by simpa using List.find?_some q
  rw [hnd r (List.mem_of_find?_eq_some q) p hp h1]
  rfl
def TabsIn (K:PySem.W.Frag) (h:Heap):Prop:=(∀ p∈cI K,K.lookup p.1=none/\(∃ c,PySem.W.CodeHd h c p.1)/\h.get? p.1=some (PySem.W.tabObj #[]))/\∀ p∈cI K,∀ q∈cI K,p.1=q.1->p=q
def sF {P:Program} {w:World} {K:PySem.W.Frag} {mg mb:Str->Option Value} {CX:CXT} {k:Nat} {fa a:Addr} {fd:FuncData} {x:Str} {sp:Sp} {s₁:Shared} {vs:List Value} {ns:List Int}
  (KX:K.In s₁.heap) (hns:s₁.heap.Ns mainGlobals mg) (hb:s₁.heap.Ns builtinsNs mb) (hbb:∀ x:Str,x≠"__name__"->mb x=bootBuiltins x) (hlim:s₁.heap.NoLimit) (hg:s₁.gens=#[]) (hbm:pK mg s₁.heap) (hT:TabsIn K s₁.heap)
  (ha:s₁.heap.get? a=some {cls:=.type "list",data:=.seq vs.toArray}) (hi:IntsAre vs ns) (hl:ns.length<=sizeLine) (hr:Room k callerA)
  (F:∀ base:Heap,K.In base->base.Ns mainGlobals mg->pK mg base->FnOk P w K mg base CX k fa fd [x] sp) (hbind:∀ (s:Shared) (u:Value),BindsTo s fd ⟨[u],[]⟩ [(x,u)])
  (hsp:∀ H:Hp,rg H->SqL K H a (ns.map V.int)->sp [.ref a] H (fun v _=>v=.bl true) fun _ _ _=>False)
  (hCX:∀ H e s',CX [] H s₁ (fun _ _ _=>False) e s'->False) :
  codeAny (model P w) callerA (.call (.ref fa) ⟨[.ref a],[]⟩) (fun r s'=>r=.ok (.ret (.bool true))/\OldK s₁.heap s'.heap/\s'.os=s₁.os/\AllBare s'.gens) s₁:=by
 have rv:=kQ hi
 have lenV:=hi.length
 obtain ⟨hT,hnd⟩:=hT
 have tb:∀ {b:Addr} {u:HO},gH K b=some u->s₁.heap.get? b=some (PySem.W.tabObj #[])/\K.lookup b=none/\∃ c,PySem.W.CodeHd s₁.heap c b:=fun {b u} e=>by
  obtain ⟨p,hp,rfl,_⟩:=e9 e
  obtain ⟨h1,h2,h3⟩:=hT p hp
  exact ⟨h3,h1,h2⟩
 have taN:gH K a=none:=by
  cases q:gH K a with
  | none=>rfl
  | some u =>
   have:=(tb q).1
   rw [ha] at this
   cases this
 -- H: the script,if it is none of the module's own,and the tables
 have core:∀ H:Hp,SqL K H a (ns.map V.int)->(∀ b,b≠a->H b=gH K b)->(H a=none∨(K.lookup a=none/\H a=some (.frz {cls:=.type "list",data:=.seq vs.toArray} (.lst (ns.map V.int)))))→
     codeAny (model P w) callerA (.call (.ref fa) ⟨[.ref a],[]⟩) (fun r s'=>r=.ok (.ret (.bool true))/\OldK s₁.heap s'.heap/\s'.os=s₁.os/\AllBare s'.gens) s₁:=by
  intro H hS hH hA
  have knd:∀ {b:Addr} {u:HO},H b=some u->(b=a/\K.lookup a=none/\u=.frz {cls:=.type "list",data:=.seq vs.toArray} (.lst (ns.map V.int)))∨(b≠a/\gH K b=some u):=fun {b u} e=>by
   by_cases hb:b=a
   · subst hb
     rcases hA with z | ⟨z1,z2⟩
     · rw [z] at e;cases e
     · rw [z2] at e;cases e;exact .inl ⟨rfl,z1,rfl⟩
   · rw [hH b hb] at e
     exact .inr ⟨hb,e⟩
  have hO:rg H:=fun b=>by
   cases q:H b with
   | none=>exact .inl rfl
   | some u =>
    rcases knd q with ⟨_,_,rfl⟩ | ⟨_,z⟩
    · exact .inr (.inl ⟨_,_,rfl⟩)
    · obtain ⟨p,_,_,rfl⟩:=e9 z
      exact .inr (.inr ⟨_,rfl⟩)
  have hok:HOk P w H s₁.heap:=fun b u e=>by
   rcases knd e with ⟨rfl,_,rfl⟩ | ⟨_,z⟩
   · exact ⟨ha,by rw [List.length_map];exact hl,vs,_,rv,ha⟩
   · obtain ⟨p,_,_,rfl⟩:=e9 z
     refine ⟨#[],(tb z).1,trivial,fun pos q v _ h=>?_⟩
     cases h
  have base_of:∀ {b:Addr} {o:Obj},s₁.heap.get? b=some o->H b=none->(kx s₁.heap H).get? b=some o:=fun e n=>sZ e n
  have noH:∀ {b:Addr} {o:Obj},s₁.heap.get? b=some o->o.data≠.seq vs.toArray->o≠PySem.W.tabObj #[]->H b=none:=fun {b o} e d1 d2=>by
   cases q:H b with
   | none=>rfl
   | some u =>
    rcases knd q with ⟨rfl,_,rfl⟩ | ⟨_,z⟩
    · rw [ha] at e;cases e;exact absurd rfl d1
    · have:=(tb z).1
      rw [e] at this;cases this;exact absurd rfl d2
  have nsK:∀ {b:Addr} {m:Str->Option Value},s₁.heap.Ns b m->(kx s₁.heap H).Ns b m:=fun {b m} ⟨o,es,ep,e,d,r⟩=>⟨o,es,ep,base_of e (noH e (by rw [d];intro z;cases z) (fun z=>by rw [z] at d;cases d)),d,r⟩
  have hKb:K.In (kx s₁.heap H):=fun b o e=>base_of (KX b o e) (by
   cases q:H b with
   | none=>rfl
   | some u =>
    rcases knd q with ⟨rfl,z,_⟩ | ⟨_,z⟩
    · rw [z] at e;cases e
    · rw [(tb z).2.1] at e;cases e)
  have hbmB:pK mg (kx s₁.heap H):=by
   obtain ⟨bm,ob,b1,b2,b3,b4,b5,b6⟩:=hbm
   exact ⟨bm,ob,b1,b2,base_of b3 (noH b3 (by rw [b6];intro z;cases z) fun z=>by rw [z] at b4;cases b4),b4,b5,b6⟩
  have hM:Mod K mg (kx s₁.heap H):=⟨hKb,nsK hns,⟨mb,nsK hb,hbb⟩,let ⟨mc,h1,h2⟩:=hlim;⟨mc,nsK h1,h2⟩⟩
  have e0:Env0 P w K mg (kx s₁.heap H) callerA [] s₁ H:=⟨rfl,hM,fun b o e=>vQ e,Nat.le_of_eq (rN _ _),trivial,fun b hb=>absurd (show b∈([]:List Addr) from hb) (by simp),hok,.of_eq hg,fun p hp=>by
   have h:=uR hnd hp
   rw [hH p.1 fun z=>by rw [z,taN] at h;cases h]
   exact h⟩
  refine codeAny_mono ((F _ hKb (nsK hns) hbmB).run callerA [] s₁ H ⟨[.ref a],[]⟩ [.ref a] [.ref a] _ _ hr e0 (hbind s₁ (.ref a)) (.cons rfl .nil) (hsp H hO hS)) fun r s' h=>?_
  cases r with
  | error e=>exact (hCX H e s' h).elim
  | ok fl =>
   cases fl with
   | next=>exact False.elim h
   | brk=>exact False.elim h
   | cont=>exact False.elim h
   | ret u =>
    obtain ⟨v,H',os,bare,un,hok',r',q⟩:=h
    have q':v=.bl true:=q
    subst q'
    obtain rfl:u=Value.bool true:=r'
    refine ⟨rfl,⟨fun b o e=>?_,fun b o e=>un.there b o e (by simp)⟩,os,bare⟩
    cases q:H b with
    | none=>exact .inl (un.keep b o e q (by intro z;exact absurd (show b∈([]:List Addr) from z) (by simp)) (by simp))
    | some u =>
     rcases knd q with ⟨rfl,_,rfl⟩ | ⟨_,z⟩
     · have z2:=un.frzs b _ _ q
       obtain ⟨e1,_⟩:=hok b _ q
       obtain ⟨e2,_⟩:=hok' b _ z2
       rw [e] at e1;cases e1
       exact .inl e2
     · obtain ⟨g1,_,c,g2⟩:=tb z
       obtain ⟨p,_,_,rfl⟩:=e9 z
       obtain ⟨ps,g3,_⟩:=hok' b _ (un.cts b _ q)
       rw [e] at g1
       cases g1
       refine .inr (.inl ⟨(g2.tab e).isCodeTable,rfl,#[],ps,rfl,?_⟩)
       rw [g3]
       simp [PySem.W.tabObj]
 cases hk:K.lookup a with
 | some o =>
  have e:=KX a o hk
  rw [ha] at e
  cases e
  exact core (gH K) (.inr ⟨_,vs.toArray,_,hk,rfl,rfl,rfl,by rw [List.size_toArray,lenV];exact hl,by simpa using rv⟩) (fun _ _=>rfl) (.inl taN)
 | none =>
  exact core (fun b=>if b=a then some (.frz {cls:=.type "list",data:=.seq vs.toArray} (.lst (ns.map V.int))) else gH K b) (.inl (.inr ⟨{cls:=.type "list",data:=.seq vs.toArray},if_pos rfl⟩)) (fun b hb=>if_neg hb) (.inr ⟨hk,if_pos rfl⟩)
def BG {l:PySem.W.OpenLaw} {n k:Nat} {q:Program} {loose:List Str} {XP:(Str->Option Value)->Heap->Prop} {YP:World->Heap->Prop} {d:DefRec} {K:Params->PySem.W.Frag} {CX:World->CXT} {sp:World->Sp} {x:Str}
  (hn:l.most=some n) (hn2:n<=sizeLine) (hdf:d.params.defaults=[]) (hr:Room k callerA)
  (hY:∀ (w:World) (h:Heap),YP w h->(K w.params).In h) (hT:∀ (w:World) (h:Heap),YP w h->TabsIn (K w.params) h)
  (F:∀ (w:World) (mg:Str->Option Value) (fa:Addr) (h:Heap),(K w.params).In h->h.Ns mainGlobals mg->mg d.name=some (.ref fa)→
   ∃ fd:FuncData,(∀ (s:Shared) (u:Value),BindsTo s fd ⟨[u],[]⟩ [(x,u)])∧
    ∀ base:Heap,(K w.params).In base->base.Ns mainGlobals mg->pK mg base->FnOk l.prog w (K w.params) mg base (CX w) k fa fd [x] (sp w))
  (hsp:∀ (w:World) (H:Hp) (a:Addr) (ns:List Int),ns.length<=n->rg H->SqL (K w.params) H a (ns.map V.int)->sp w [.ref a] H (fun v _=>v=.bl true) fun _ _ _=>False)
  (hCX:∀ (w:World) (H:Hp) (s:Shared) (e:Value) (s':Shared),CX w [] H s (fun _ _ _=>False) e s'->False) :
  PySem.W.WalkO q loose XP YP l.row.toRowW d [] (fun f vs=>PySem.call f vs):=by
 refine Att.xY hn hdf fun w s₀ s₁ mg mb fa o pm cd doc a vs ns G Y ho hd hcd hmg hobj hints hlen hg=>?_
 have KX:=hY w _ Y
 obtain ⟨fd,hb,hF⟩:=F w mg fa _ KX G.T.g hmg
 exact sF KX G.T.g G.T.b G.T.builtins G.T.nolimit hg G.T.bmain (hT w _ Y) hobj hints (Nat.le_trans hlen hn2) hr hF hb (fun H hO hS=>hsp w H a ns hlen hO hS) fun H e s'=>hCX w H s₁ e s'
section
variable {P:Program} {u:World} {B:Around} {Ex:Value->Shared->Prop} {s:Shared} {it l:Addr} {xs:Array Value}
def mn:typeLookup (.type "list_reverseiterator") "__len__"=pure none:=by rw [typeLookup_type,builtinLookup_eq_fast];kernel_rfl
def kI:typeLookup (.type "list_reverseiterator") "__length_hint__"=pure (some (.builtin "list_reverseiterator.__length_hint__")):=by rw [typeLookup_type,builtinLookup_eq_fast];kernel_rfl
def uS {W:Bool->Shared->Prop} (ht:s.TypeIs (.ref it) "list_reverseiterator") (q:W false s):wpAny (model P u) B (Builtin.List.listLengthHint (.ref it)) W Ex s:=by
 unfold Builtin.List.listLengthHint
 refine wB (wpAny_specialOf ht mn ?_)
 wp_delta
 refine wpAny_ite_split (fun z=>absurd z (by decide)) fun _=>?_
 refine wpAny_ite_split (fun z=>absurd z (by decide)) fun _=>?_
 refine wB (wpAny_specialOf ht kI ?_)
 generalize hi:("list_reverseiterator.__length_hint__":String)=j
 wp_delta
 rw [show splitId j=some ("list_reverseiterator","__length_hint__") from by subst hi;decide +kernel]
 subst hi
 refine wB (wpAny_isInstance (T:="list_reverseiterator") (b:=true) ht (by rw [isSubtype_type];kernel_rfl) ?_)
 refine wpAny_ite_split (fun z=>absurd z (by decide)) fun _=>?_
 refine wpAny_ite_split (fun _=>?_) fun z=>absurd (by decide +kernel) z
 refine wpAny_ite_split (fun z=>absurd z (by decide +kernel)) fun _=>?_
 exact wpAny_pure q
abbrev rh (xs:Array Value):Nat->Value->Prop:=fun i v=>xs[xs.size-1-i]?=some v
def pL {R:Result->Shared->Prop} (calm:B.handled=none) (hi:s.heap.IsRevIter it l ((xs.size:Int)-1)) (hl:s.heap.IsList l xs) (hne:l≠it) (t:Addr) (n1:t≠it) (n2:t≠l) (rs:Value) (c0:Nat) (ht:s.heap.get? t=some {cls:=.type "list",data:=.seq #[] c0}) (fits:xs.size<=sizeLine)
  (q:∀ (h':Heap) (tk:Nat) (ys:Array Value) (c:Nat),(∀ b o,b≠t->b≠it->s.heap.get? b=some o->h'.get? b=some o)->h'.get? t=some {cls:=.type "list",dict:=none,data:=.seq ys c,slots:=#[]}->ItemsOf (rh xs) ys xs.size->R (.ok (.ret rs)) {s with heap:=h',toks:=tk}) :
  wpAny (model P u) B.in1 (Builtin.List.listExtendWith (.ref t) (.ref it) rs) (fun fin s'=>match fin with | .done f=>R (.ok f) s' | .again c'=>c'.quiet=true/\codeAny (model P u) B c' R s') (fun e s'=>R (.error e) s') s:=by
 have tn:t∉[it,l]:=by
  intro z
  rcases List.mem_cons.mp z with z | z
  · exact n1 z
  · exact n2 (List.mem_singleton.mp z)
 have Wk:=Walks.listRev (prog:=P) (w:=u) (A:=B.in1) (by simpa using calm) it l hne xs
 have go:codeAny (model P u) B (.builtin "list.extend.loop" ⟨[.ref t,.ref it,rs],[]⟩) R s:=by
  refine codeAny_extend_loopS Wk.toS fits t tn rs xs.size 0 _ #[] c0 rfl (Nat.zero_le _) ⟨Nat.zero_le _,by simpa using hi,hl⟩ ht (ItemsOf.nil _) fun s' ys c mv ht' its=>?_
  rw [Moved.eq_with mv]
  refine q s'.heap s'.toks ys c (fun b o b1 b2 e=>mv.heap b o (fun z=>?_) e) ht' its
  rcases List.mem_cons.mp z with z | z
  · exact b1 z
  · exact b2 (List.mem_singleton.mp z)
 unfold Builtin.List.listExtendWith
 refine wB (wpAny_typeOf (T:="list_reverseiterator") hi.typeIs ?_)
 have e1:Builtin.List.listSameRef (.ref t) (.ref it)=false:=by simp [Builtin.List.listSameRef,n1]
 have e2:(Value.type "list_reverseiterator"==Value.type "list")=false:=by decide +kernel
 have e3:(Value.type "list_reverseiterator"==Value.type "tuple")=false:=by decide +kernel
 simp only [e1,e2,e3,Bool.or_false,Bool.false_eq_true,if_false]
 refine wB (wpAny_pyIter_revIter hi ?_)
 refine wB (wpAny_holding (uS hi.typeIs ?_))
 refine wpAny_ite_split (fun z=>absurd z (by decide +kernel)) fun _=>?_
 exact wpAny_pure ⟨plainId_quiet PySem.F.plain_extend_loop _,go⟩
def uT {R:Result->Shared->Prop} (calm:B.handled=none) (hi:s.heap.IsRevIter it l ((xs.size:Int)-1)) (hl:s.heap.IsList l xs) (hne:l≠it) (t:Addr) (n1:t≠it) (n2:t≠l) (ht:s.heap.get? t=some {cls:=.type "list",data:=.seq #[]}) (fits:xs.size<=sizeLine)
  (q:∀ (h':Heap) (tk:Nat) (ys:Array Value) (c:Nat),(∀ b o,b≠t->b≠it->s.heap.get? b=some o->h'.get? b=some o)->h'.get? t=some {cls:=.type "list",dict:=none,data:=.seq ys c,slots:=#[]}->ItemsOf (rh xs) ys xs.size->R (.ok (.ret .none)) {s with heap:=h',toks:=tk}) :
  wpAny (model P u) B.in1 (Builtin.«list.__init__» ⟨[.ref t,.ref it],[]⟩) (fun fin s'=>match fin with | .done f=>R (.ok f) s' | .again c'=>c'.quiet=true/\codeAny (model P u) B c' R s') (fun e s'=>R (.error e) s') s:=by
 show wpAny _ _ (do let was <- Builtin.List.listItems (.ref t);Builtin.List.listUpdate (.ref t) (fun _=>#[]);letGo was.toList.reverse;Builtin.List.listExtendWith (.ref t) (.ref it) .none) _ _ s
 refine wB ?_
 unfold Builtin.List.listItems
 refine wB (wpAny_seqItems ht rfl (wpAny_pure ?_))
 show wpAny _ _ (updateSeq t (fun _=>#[]) >>= fun _=>letGo (#[]:Array Value).toList.reverse >>= fun _=>Builtin.List.listExtendWith (.ref t) (.ref it) .none) _ _ s
 refine wB (wpAny_updateSeq ht rfl ?_)
 have ht2:=Heap.get?_update_self (Obj.mapSeq (fun _=>(#[]:Array Value))) ht rfl
 have far:∀ b o,b≠t->s.heap.get? b=some o->(s.heap.update t (Obj.mapSeq (fun _=>(#[]:Array Value)))).get? b=some o:=fun b o hb e=>(Heap.get?_update_other _ _ (Ne.symm hb)).trans e
 refine wB (wpAny_letGo ?_)
 exact pL calm (hi.at fun o e=>far _ o n1.symm e) (hl.at fun o e=>far _ o n2.symm e) hne t n1 n2 .none _ ht2 fits fun h' tk ys c k k2 k3=>q h' tk ys c (fun b o b1 b2 e=>k b o b1 b2 (far b o b1 e)) k2 k3
def uU {W:Value->Shared->Prop} (calm:B.handled=none) (hi:s.heap.IsRevIter it l ((xs.size:Int)-1)) (hl:s.heap.IsList l xs) (hne:l≠it) (fits:xs.size<=sizeLine)
  (q:∀ (h':Heap) (tk:Nat) (ys:Array Value) (c:Nat),(∀ b o,b≠it->s.heap.get? b=some o->h'.get? b=some o)->h'.get? s.heap.objs.size=some {cls:=.type "list",dict:=none,data:=.seq ys c,slots:=#[]}->ItemsOf (rh xs) ys xs.size->W (.ref s.heap.objs.size) {s with heap:=h',toks:=tk}) :
  wpAny (model P u) B (call (.type "list") [.ref it]) W Ex s:=by
 refine callType_codes (Q₁:=fun z s₁=>z=.ref s.heap.objs.size/\s₁={s with heap:=s.heap.push {cls:=.type "list",data:=.seq #[]}}) PySem.F.called_list (PySem.F.typeCall_list_1 _) PySem.F.entry_list_init (code_list_new _ ⟨rfl,rfl⟩) fun z s₁ h₁=>?_
 obtain ⟨rfl,rfl⟩:=h₁
 have ht:(s.heap.push {cls:=.type "list",data:=.seq #[]}).get? s.heap.objs.size=some {cls:=.type "list",data:=.seq #[]}:=Heap.get?_push_size _ rfl
 have l1:it<s.heap.objs.size:=let ⟨_,e,_⟩:=hi;Heap.lt_size e
 have l2:l<s.heap.objs.size:=let ⟨_,e,_⟩:=hl;Heap.lt_size e
 refine ⟨⟨_,ht,rfl⟩,PySem.F.args_list_init_2 _ _,uT (B:=B.in1) (by simpa using calm) (hi.at fun o e=>Heap.get?_push_of_some _ e) (hl.at fun o e=>Heap.get?_push_of_some _ e) hne _ (Nat.ne_of_gt l1) (Nat.ne_of_gt l2) ht fits fun h' tk ys c k k2 k3=>?_⟩
 exact ⟨rfl,q h' tk ys c (fun b o b1 e=>k b o (Nat.ne_of_lt (Heap.lt_size e)) b1 (gP _ e)) k2 k3⟩
def uV {vs:List V} {its ys:List Value} (r:Vals vs its) (hl:ys.length=its.length) (h:∀ (i:Nat) (v:Value),ys[i]?=some v->its[its.length-1-i]?=some v):ys=its.reverse:=by
 apply List.ext_getElem?
 intro i
 by_cases hi:i<ys.length
 · have e:=h i ys[i] (gQ hi)
   rw [List.getElem?_reverse (by omega),e,gQ hi]
 · rw [List.getElem?_eq_none (by omega),List.getElem?_eq_none (by simp;omega)]
end
def tLR (X:Cx) (ta:TA):TE:=fun σ H Q=>ta σ H fun xs H1=>∃ p vs,xs=[.ref p]/\SqL X.K H1 p vs/\∀ l,H1 l=none->Q (.ref l) (upd H1 l (.lst vs.reverse))
section
variable {X:Cx} {e:Expr} {ta:TA} {p1 p2 pos1 pos2:Pos} {sc:Scope}
def nV:bootBuiltins "reversed"=some (.type "reversed"):=by decide +kernel
def iy:∀ {vs:List V} {us:List Value},Vals vs us->Vals vs.reverse us.reverse
 | _,_,.nil=>.nil
 | _,_,.cons h r=>by
  rw [List.reverse_cons,List.reverse_cons]
  exact (iy r).append (.cons h .nil)
def pM (h1:aF sc "list"=true) (h2:aF sc "reversed"=true) (hm1:X.mg "list"=none) (hm2:X.mg "reversed"=none) (hc:X.calm=true) (ha:PA X [e] ta) (e1:bK X sc:=by rfl) (hs:starEach [e] X.env=[(false,eval e X.env)]:=by rfl)
  (hs2:starEach [.Call (.Name "reversed" p2) [e] [] pos2] X.env=[(false,eval (.Call (.Name "reversed" p2) [e] [] pos2) X.env)]:=by rfl) :
  PE X (.Call (.Name "list" p1) [.Call (.Name "reversed" p2) [e] [] pos2] [] pos1) (tLR X ta):=by
 intro pins s σ H Q I h'
 have inner:wpAny (model X.prog X.w) X.A (eval (.Call (.Name "reversed" p2) [e] [] pos2) X.env) (fun u s2=>∃ it p vs H1,u=.ref it/\Inv X pins σ H1 s2/\gu X pins H1 it/\p≠it/\SqL X.K H1 p vs/\s2.heap.IsRevIter it p ((vs.length:Int)-1)/\(∀ l,H1 l=none->Q (.ref l) (upd H1 l (.lst vs.reverse)))) X.xe s:=by
  refine Call_ (eT I (glD h2 e1) hm2 nV (PyProof.Rows.callWith_type1 (thn (ha pos2 pins s σ H _ I h') fun us s1 ⟨vs,H1,I1,r1,q1⟩=>?_) hs rfl))
  obtain ⟨p,vs,rfl,hq,q⟩:=q1
  obtain ⟨u,rfl,ru⟩:=fu r1
  cases ru
  obtain ⟨its,r',pl,hz'⟩:=I1.list hq
  have hlen:its.toArray.size=vs.length:=by have:=r'.length;simpa using this.symm
  refine call_reversed_list pl.isList ?_
  have I2:=I1.kept (t':=s1.toks) (h':=s1.heap.push (revObj p ((its.toArray.size:Int)-1))) fun b o g=>gP _ g
  have fp:=I1.fpOk (b:=s1.heap.objs.size) (nL _) (I1.hok.fresh (nL _))
  refine ⟨s1.heap.objs.size,p,vs,H1,rfl,I2,fp,?_,hq,⟨_,Heap.get?_push_size _ rfl,rfl,by rw [<- hlen];rfl⟩,q⟩
  obtain ⟨_,g,_⟩:=pl.isList
  exact Nat.ne_of_lt (Heap.lt_size g)
 have key:wpAny (model X.prog X.w) X.A (spliced (backTo pos1 (starEach [.Call (.Name "reversed" p2) [e] [] pos2] X.env))) (fun vs s₁=>wpAny (model X.prog X.w) X.A (call (.type "list") vs) (EP X pins σ Q) X.xe s₁) X.xe s:=?key
 · exact Call_ (eT I (glD h1 e1) hm1 jt (PyProof.Rows.callWith_type1 key hs2 rfl))
 rw [hs2]
 show wpAny _ _ (spliced ((false,eval (.Call (.Name "reversed" p2) [e] [] pos2) X.env)::[])) _ _ s
 refine Calls.spliced_cons (thn inner fun u s2 w=>Calls.spliced_nil ?_)
 obtain ⟨it,p,vs,H1,rfl,I2,fp,hne,hq,hR,q⟩:=w
 obtain ⟨its,r',pl,hz'⟩:=I2.list hq
 have hlen:its.toArray.size=vs.length:=by have:=r'.length;simpa using this.symm
 have fits:its.toArray.size<=sizeLine:=by first | exact hz' | (rw [hlen];exact hz') | simpa using hz'
 refine uU (I2.ok.hd hc) (by rw [hlen];exact hR) pl.isList hne fits fun h3 tk ys c k k2 k3=>?_
 have ey:ys.toList=its.reverse:=uV r' (by have:=k3.1;simpa using this) fun i v hv=>by
  have:=k3.2 i v (by simpa using hv)
  simpa [rh] using this
 refine ⟨.ref s2.heap.objs.size,_,I2.turnedT (fp:=[it]) (t:=s2.heap.objs.size) (u:=.lst vs.reverse) (t':=tk) (fun b o hb g=>k b o (fun z=>hb (by simp [z])) g) (fun b hb=>?_) (Nat.le_refl _) ⟨?_,its.reverse,c,iy r',?_⟩,rfl,q _ (I2.hok.fresh (Nat.le_refl _))⟩
 · cases List.mem_singleton.mp hb
   exact fp
 · rw [List.length_reverse,<- hlen]
   exact fits
 · rw [k2,<- ey]
end
def eLR (fa:Fg):Fg:=fun δ ch=>(fa δ ch).bind fun p=>match p.1 with
 | .ref i=>match p.2[i]? with
  | some (.lst l)=>some (.ref p.2.length,p.2++[.lst l.reverse])
  | _=>none
 | _=>none
section
variable {X:Cx} {a:Expr} {fa:Fg} {p1 p2 pos1 pos2:Pos} {sc:Scope} {K:PySem.W.Frag}
def lB {F:Hp} {ρ:Nat->Addr} {n:Nat}:∀ {l m:List CV} {vs ws:List V},RelCs K F ρ n l vs->RelCs K F ρ n m ws->RelCs K F ρ n (l++m) (vs++ws)
 | [],_,_,_,h,h'=>by cases h;exact h'
 | _::_,_,_,_,⟨v,r,e,h1,h2⟩,h'=>by subst e;exact ⟨v,_,rfl,h1,lB h2 h'⟩
def lC {F:Hp} {ρ:Nat->Addr} {n:Nat}:∀ {l:List CV} {vs:List V},RelCs K F ρ n l vs->RelCs K F ρ n l.reverse vs.reverse
 | [],_,h=>by cases h;exact rfl
 | _::_,_,⟨v,r,e,h1,h2⟩=>by
  subst e
  rw [List.reverse_cons,List.reverse_cons]
  exact lB (lC h2) ⟨v,[],rfl,h1,rfl⟩
def j5 (h1:aF sc "list"=true) (h2:aF sc "reversed"=true) (hm1:X.mg "list"=none) (hm2:X.mg "reversed"=none) (hc:X.calm=true) (ha:GE X a fa) (e1:bK X sc:=by rfl) (he:starEach [a] X.env=(false,eval a X.env)::starEach [] X.env:=by rfl) (hs:starEach [a] X.env=[(false,eval a X.env)]:=by rfl)
  (hs2:starEach [.Call (.Name "reversed" p2) [a] [] pos2] X.env=[(false,eval (.Call (.Name "reversed" p2) [a] [] pos2) X.env)]:=by rfl) :
  GE X (.Call (.Name "list" p1) [.Call (.Name "reversed" p2) [a] [] pos2] [] pos1) (eLR fa):=
 PE.mono (pM h1 h2 hm1 hm2 hc (bY ha dS he) e1 hs hs2) fun σ H Q ⟨δ,ch,F,ρ,c,ch',en,hf,k⟩=>by
  unfold eLR at hf
  obtain ⟨⟨c1,ch1⟩,hp,hf1⟩:=bS hf
  clear hf
  dsimp only at hf1
  split at hf1<;>first | (cases hf1;done) | skip
  rename_i i
  split at hf1<;>first | (cases hf1;done) | skip
  rename_i l hl
  cases hf1
  refine ⟨δ,ch,F,ρ,_,ch1,en,hp,fun v F1 H1 ρ1 a1 r1=>?_⟩
  obtain ⟨vs,g1,g2⟩:=a1.gh.ok i _ hl
  refine ⟨_,vs,by rw [r1.2],.inl (.inl g1),fun q hq=>?_⟩
  refine k (.ref q) F1 _ _ (a1.trans en.gh (pB (o:=.lst l.reverse) a1.gh hq ⟨_,aD,lC g2⟩)) ⟨by simp,?_⟩
  first
   | rw [if_pos rfl]
   | (dsimp only;rw [if_pos rfl])
end
def pN (K:PySem.W.Frag):Bool:=K.all fun p=>match p.2.data with
 | .seq its _=>(match its.toList with
  | [.int _ _,.str _ _]=>false
  | _=>true)
 | _=>true
def nW {a:Addr} {o:Obj}:∀ {K:List (Addr×Obj)},K.lookup a=some o->(a,o)∈K
 | [],h=>by cases h
 | (b,u)::K,h=>by
  rw [List.lookup_cons] at h
  cases q:a==b with
  | true=>rw [q] at h;cases h;rw [beq_iff_eq.mp q];exact .head _
  | false=>rw [q] at h;exact .tail _ (nW h)
def uW {K:PySem.W.Frag} {H:Hp} {a:Addr} {n:Int} {s:Str} (hK:pN K=true) (h:SqT K H a [.int n,.str s]):H a=some (.tup ([Sum.inl n,Sum.inr s].map kV)):=by
 rcases h with h | ⟨o,its,m,hk,hc,hd,hz,r⟩
 · exact h
 · have hm:=List.all_eq_true.mp hK (a,o) (nW hk)
   dsimp only at hm
   rw [hd] at hm
   dsimp only at hm
   generalize its.toList=w at hm r
   cases r with
   | cons r1 t =>
    cases t with
    | cons r2 t2 =>
     cases t2
     obtain ⟨t1,rfl⟩:=r1
     obtain ⟨t2,rfl⟩:=r2
     cases hm
section
variable {X:Cx} {o i e value:Expr} {pos pos' tpos:Pos} {fa fk fe:Fg} {K:PySem.W.Frag}
def lD:CV->Option (List Key)
 | .dat (.tup [.int n,.str s])=>some [.inl n,.inr s]
 | _=>none
def j6 {F:Hp} {ρ:Nat->Addr} {m:Nat} {c:CV} {v:V} {ks:List Key} (hK:pN K=true) (h:lD c=some ks) (r:RelC K F ρ m c v):∃ b,v=.ref b/\F b=some (.tup (ks.map kV)):=by
 unfold lD at h
 split at h<;>cases h
 rename_i n s
 have r:Rep K F (.tup [.int n,.str s]) v:=r
 unfold Rep at r
 obtain ⟨a,vs,rfl,h1,h2⟩:=r
 unfold Reps at h2
 obtain ⟨v1,w1,rfl,q1,h2⟩:=h2
 unfold Reps at h2
 obtain ⟨v2,w2,rfl,q2,h2⟩:=h2
 unfold Reps at h2
 subst h2
 simp only [Rep] at q1 q2
 subst q1 q2
 exact ⟨a,rfl,uW hK h1⟩
def sG (fa fk:Fg):Fg:=fun δ ch=>(fa δ ch).bind fun p=>(fk δ p.2).bind fun q=>match p.1 with
 | .ref i=>((q.2[i]?).bind asT).bind fun l=>(lD q.1).bind fun ks=>(lkC l ks).map fun c=>(c,q.2)
 | _=>none
def Ae {m:Nat} (hK:pN X.K=true) (hr:Room m X.A) (ho:GE X o fa) (hk:GE X i fk) (hn:tQ i:=by exact fun _ _=>rfl):GE X (.Subscript o i pos) (sG fa fk):=
 PE.mono (lV (jG hr) ho hk hn) fun σ H Q ⟨δ,ch,F,ρ,c,ch',en,hf,kk⟩=>by
  unfold sG at hf
  obtain ⟨⟨c1,ch1⟩,hp,hf1⟩:=bS hf
  clear hf
  obtain ⟨⟨c2,ch2⟩,hq,hf2⟩:=bS hf1
  clear hf1
  dsimp only at hq hf2
  split at hf2<;>first | (cases hf2;done) | skip
  rename_i i
  obtain ⟨l,hl0,hf2b⟩:=bS hf2
  obtain ⟨ob,hl,has⟩:=bS hl0
  clear hf2 hl0
  obtain ⟨ks,hks,hf3⟩:=bS hf2b
  obtain ⟨c',hc,hf4⟩:=mS hf3
  cases hf4
  refine ⟨δ,ch,F,ρ,_,ch1,en,hp,fun v F1 H1 ρ1 a1 r1=>⟨δ,ch1,F1,ρ1,_,_,en.adv a1,hq,fun v2 F2 H2 ρ2 a2 r2=>?_⟩⟩
  obtain ⟨b,rfl,hb⟩:=j6 hK hks r2
  obtain ⟨kvs,h1,h2,h3⟩:=uE has (a2.gh.ok i _ hl)
  have lk:=iw (k:=ks) h2 h3
  rw [hc] at lk
  obtain ⟨u,hu,ru⟩:=lk
  exact ⟨_,u,(r1.mono a2.old a2.ext a2.len).2,by rw [<- hu];exact .inr ⟨kvs,ks,b,h1,rfl,a2.gh.fh _ _ hb,rfl⟩,kk u F2 _ ρ2 (a1.trans en.gh a2) ru⟩
def sH (fk fa:Fg):Ft:=fun δ ch=>(fk δ ch).bind fun p=>(fa δ p.2).bind fun q=>match q.1 with
 | .ref i=>((q.2[i]?).bind asT).bind fun l=>(lD p.1).map fun ks=>(!(lkC l ks).isSome,q.2)
 | _=>none
def Af {κ:Type} [DecidableEq κ] {F:Hp} {ρ:Nat->Addr} {n:Nat} {k:κ} {l:List (κ×CV)} {kvs:List (κ×V)} (h2:kvs.map (·.1)=l.map (·.1)) (h3:RelCs K F ρ n (l.map (·.2)) (kvs.map (·.2))):(eU kvs k).isSome=(lkC l k).isSome:=by
 have lk:=iw (k:=k) h2 h3
 cases q:lkC l k with
 | none=>rw [q] at lk;rw [lk];rfl
 | some c=>rw [q] at lk;obtain ⟨v,hv,_⟩:=lk;rw [hv];rfl
def Ah {m:Nat} (hK:pN X.K=true) (hr:Room m X.A) (hk:GE X i fk) (ho:GE X o fa) (hm:behindInMarks .NotIn o=false:=by with_unfolding_all rfl):GT X (.Compare i [.NotIn] [o] pos) (sH fk fa):=
 PT.mono (oP (kP (jG hr) hk ho) hm) fun σ H Q ⟨δ,ch,F,ρ,c,ch',en,hf,kk⟩=>by
  unfold sH at hf
  obtain ⟨⟨c1,ch1⟩,hp,hf1⟩:=bS hf
  clear hf
  obtain ⟨⟨c2,ch2⟩,hq,hf2⟩:=bS hf1
  clear hf1
  dsimp only at hq hf2
  split at hf2<;>first | (cases hf2;done) | skip
  rename_i i
  obtain ⟨l,hl0,hf2b⟩:=bS hf2
  obtain ⟨ob,hl,has⟩:=bS hl0
  clear hf2 hl0
  obtain ⟨ks,hks,hf4⟩:=mS hf2b
  cases hf4
  refine ⟨δ,ch,F,ρ,_,ch1,en,hp,fun v F1 H1 ρ1 a1 r1=>⟨δ,ch1,F1,ρ1,_,_,en.adv a1,hq,fun v2 F2 H2 ρ2 a2 r2=>?_⟩⟩
  obtain ⟨b,rfl,hb⟩:=j6 hK hks r1
  obtain ⟨kvs,h1,h2,h3⟩:=uE has (a2.gh.ok i _ hl)
  refine ⟨_,eU kvs ks,r2.2,.inr ⟨kvs,ks,b,h1,rfl,a2.gh.fh _ _ (a2.old _ _ hb),rfl⟩,_,rfl,?_⟩
  rw [Af h2 h3]
  exact kk F2 _ ρ2 (a1.trans en.gh a2)
noncomputable def fj (fo fk fe:Fg):Fs:=fun δ ch=>(fe δ ch).bind fun p=>(fo δ p.2).bind fun q=>(fk δ q.2).bind fun r=>match q.1 with
 | .ref i=>match r.2[i]? with
  | some (.dT l)=>(lD r.1).bind fun ks=>if l.length<sizeLine/\(l.map (·.1)).Nodup then some (.nx δ (r.2.set i (.dT (fU l ks p.1)))) else none
  | _=>none
 | _=>none
def ri {m:Nat} (hK:pN X.K=true) (hr:Room m X.A) (ho:GE X o fa) (hk:GE X i fk) (he:GE X e fe) (hs:swapsWith e (some (.Subscript o i tpos)) pos.line X.env=pure false:=by rfl) :
  GS1 X (.Assign [.Subscript o i tpos] e pos) (fj fa fk fe):=
 PS.mono (wf (jG hr) ho hk he hs) fun D σ H ⟨δ,ch,F,ρ,og,en,hg,kk⟩=>by
  unfold fj at hg
  obtain ⟨⟨c1,ch1⟩,hp,hg1⟩:=bS hg
  clear hg
  obtain ⟨⟨c2,ch2⟩,hq,hg2⟩:=bS hg1
  clear hg1
  obtain ⟨⟨c3,ch3⟩,hw,hg3⟩:=bS hg2
  clear hg2
  dsimp only at hq hw hg3
  split at hg3<;>first | (cases hg3;done) | skip
  rename_i i
  split at hg3<;>first | (cases hg3;done) | skip
  rename_i l hl
  obtain ⟨ks,hks,hg4⟩:=bS hg3
  clear hg3
  split at hg4<;>cases hg4
  rename_i hz
  refine ⟨δ,ch,F,ρ,_,ch1,en,hp,fun v F1 H1 ρ1 a1 r1=>⟨δ,ch1,F1,ρ1,_,ch2,en.adv a1,hq,fun x F2 H2 ρ2 a2 r2=>⟨δ,ch2,F2,ρ2,_,ch3,(en.adv a1).adv a2,hw,fun y F3 H3 ρ3 a3 r3=>?_⟩⟩⟩
  obtain ⟨b,rfl,hb⟩:=j6 hK hks r3
  have hi:i<ch3.length:=(gX hl).1
  have a13:=(a1.trans en.gh a2).trans en.gh a3
  have r1':=(r1.mono a2.old a2.ext a2.len).mono a3.old a3.ext a3.len
  obtain ⟨kvs,q1,q2,q3⟩:=a3.gh.ok i _ hl
  obtain ⟨z1,z2⟩:=nH (k:=ks) r1' hz.2 q2 q3
  have hlen:kvs.length=l.length:=by
   have:=congrArg List.length q2
   simpa using this
  refine ⟨_,upd H3 (ρ3 i) (.dT (dU kvs ks v)),(r2.mono a3.old a3.ext a3.len).2,DPut.t q1 (a3.gh.fh _ _ hb) (by rw [hlen];exact hz.1),?_⟩
  have a5:=Adv.upd (o:=.dT (fU l ks c1)) (u:=.dT (dU kvs ks v)) a3.gh hi q1 (fun _ _ z=>nomatch z) ⟨_,aD,z1,z2⟩
  have aa:=a13.trans en.gh a5
  exact kk σ F3 _ ρ3 aa (en.adv aa)
noncomputable def j7 (op:Int->Int->Int) (i:Nat) (fe:Fg):Fs:=fun δ ch=>match δ[i]? with
 | some (some (.dat (.int n)))=>(fe δ ch).bind fun p=>match p.1 with
  | .dat (.int m)=>some (.nx (δ.set i (some (.dat (.int (op n m))))) p.2)
  | _=>none
 | _=>none
def w4 {sc:Scope} {N:List Str} {x:Str} {j:Nat} (h:cy sc N j x=true) (hl:ii sc x=true) (nd:N.Nodup) (he:GE X e fe) (e1:bK X sc:=by rfl) (e2:X.N=N:=by rfl) (hf:X.fn x=true∨X.env.scope.names.lookup x=some .local:=by exact .inl rfl) :
  GS1 X (.AugAssign (.Name x pos') .Add e pos) (j7 (fun i j=>i+j) j fe):=by
 have e1:X.env.scope=sc:=e1
 subst e1 e2
 refine PS.mono (yZ nd (gO h) (jI hl) he y0 hf) fun D σ H ⟨δ,ch,F,ρ,og,en,hg,kk⟩=>?_
 unfold j7 at hg
 split at hg<;>first | (cases hg;done) | skip
 rename_i n hn
 obtain ⟨⟨c1,ch1⟩,hp,hg⟩:=bS hg
 dsimp only at hg
 split at hg<;>first | (cases hg;done) | skip
 rename_i m
 cases hg
 obtain ⟨v,hv,rv⟩:=en.has j _ hn
 have rv:Rep X.K F (.int n) v:=rv
 simp only [Rep] at rv
 subst rv
 refine ⟨_,hv,δ,ch,F,ρ,_,ch1,en,hp,fun w F1 H1 ρ1 a1 r1=>?_⟩
 have r1:Rep X.K F1 (.int m) w:=r1
 simp only [Rep] at r1
 subst r1
 exact ⟨n,m,rfl,rfl,kk _ F1 H1 ρ1 a1 ((en.adv a1).put (x:=.dat (.int (n+m))) (v:=.int (n+m)) (show Rep X.K F1 (.int (n+m)) (.int (n+m)) from f9) j)⟩
end
noncomputable def yi (outer:Scope) (NX N ps fr:List Str) (js:List Nat) (sc:Scope):Bool:=
 (match sc.kind with | .function=>true | _=>false)&&!sc.isCoroutine&&!sc.isGenerator&&decide N.Nodup&&decide (N.take ps.length=ps)&&decide (N.drop (N.length-fr.length)=fr)&&decide (ps.length+fr.length<=N.length)&&
 ps.all (fun x=>decide (sc.names.lookup x=some .local)||decide (sc.names.lookup x=some .cell))&&
 fr.all (fun x=>decide (sc.names.lookup x=some .free))&&
 sc.names.all (fun y=>!decide (y.2=.free)||decide (y.1∈fr))&&
 sc.names.all (fun y=>decide (sc.names.lookup y.1=some y.2))&&
 decide (ps.length=1)&&
 sc.names.all (fun y=>!decide (y.2=.free)||decide (outer.names.lookup y.1=some .cell))&&
 decide (js.length=fr.length)&&
 (fr.zip js).all (fun p=>decide (NX[p.2]?=some p.1)&&decide (outer.names.lookup p.1=some .cell))
structure NsC (outer:Scope) (NX N ps fr:List Str) (js:List Nat) (sc:Scope):Prop where
 S:ClScope N ps fr sc
 nd:N.Nodup
 ndn:∀ x,∀ y∈sc.names,y.1=x->sc.names.lookup x=some y.2
 one:ps.length=1
 fre:∀ x∈sc.names,x.2=.free->outer.names.lookup x.1=some .cell
 jl:js.length=fr.length
 nm:∀ (i j:Nat) (x:Str),fr[i]?=some x->js[i]?=some j->NX[j]?=some x/\outer.names.lookup x=some .cell
 all:∀ x∈sc.names,x.2=.free->x.1∈fr
def NsC.of {outer:Scope} {NX N ps fr:List Str} {js:List Nat} {sc:Scope} (h:yi outer NX N ps fr js sc=true):NsC outer NX N ps fr js sc:=by
 unfold yi at h
 simp only [Bool.and_eq_true,List.all_eq_true,Bool.or_eq_true,Bool.not_eq_true',decide_eq_true_eq,decide_eq_false_iff_not] at h
 obtain ⟨⟨⟨⟨⟨⟨⟨⟨⟨⟨⟨⟨⟨⟨h1,h2⟩,h3⟩,h4⟩,h5⟩,h6⟩,h7⟩,h8⟩,h9⟩,h10⟩,h11⟩,h12⟩,h13⟩,h14⟩,h15⟩:=h
 have hall:∀ x∈sc.names,x.2=.free->x.1∈fr:=fun x hx e=>(h10 x hx).resolve_left fun z=>z e
 have hk:sc.kind=.function:=by
  revert h1
  cases sc.kind<;>simp
 refine ⟨⟨hk,h2,h3,h4,h5,h6,h7,h8,h9,fun x e=>hall _ (PySem.mem_of_lookup e) rfl⟩,h4,fun x y hy e=>by rw [<- e];exact h11 y hy,h12,fun x hx e=>(h13 x hx).resolve_left fun z=>z e,h14,fun i j x e1 e2=>?_,hall⟩
 have hm:(x,j)∈fr.zip js:=List.mem_of_getElem? (i:=i) (by rw [List.getElem?_zip_eq_some];exact ⟨e1,e2⟩)
 exact h15 (x,j) hm
section
variable {X:Cx} {name qual:Str} {params:Arguments} {body:List Stmt} {scope outer:Scope} {NX N ps fr:List Str} {js:List Nat} {g:De->Option Out} {kk i:Nat} {pos:Pos}
def NestD.of (C:NsC outer NX N ps fr js scope) (bd:∀ (s:Shared) (cl:List (Str×Addr)) (doc pm ctv cd:Value) (us:List Value),us.length=ps.length->BindsTo s (PySem.W.fnX name qual params body scope cl .none .none doc pm none cd ctv) ⟨us,[]⟩ (ps.zip us))
  (hb:∀ (f c':Addr) (cl:List (Str×Addr)) (A:Around) (outer:List Env) (s:Shared) (H:Hp),Room kk (A.deeper (ic qual scope s.heap.objs.size f (.ref c') cl))->DS (mW CX0 X.prog X.w X.K X.mg X.base N qual scope f (.ref c') cl A outer s H E0 fun _ _=>False) body g)
  (e1:bK X outer:=by rfl) (e2:X.N=NX:=by rfl):NestD X name qual params body scope N ps fr js g kk:=by
 have e1:X.env.scope=outer:=e1
 subst e1 e2
 exact ⟨C.S,C.ndn,C.one,C.fre,C.jl,C.nm,bd,hb⟩
def hasQ (qs:List ((Nat×Nat)×Str)) (pos:Pos) (qual:Str):Bool:=decide (((pos.line,pos.col),qual)∈qs)&&qs.all fun p=>!decide (p.1=(pos.line,pos.col))||decide (p.2=qual)
def rj {c P:Addr} {qs:List ((Nat×Nat)×Str)} (h:cy outer NX i name=true) (hl:ii outer name=true) (nd:NX.Nodup) (C:NsC outer NX N ps fr js scope) (B:TabB X.mg X.base c P) (hT:(P,qs)∈cI X.K) (hq:hasQ qs pos qual=true)
  (hcode:X.env.code=.ref c:=by rfl) (hqn:qualnameIn X.env name name=qual:=by rfl) (hd0:params.defaults=[]:=by rfl) (hk0:params.kw_defaults=[]:=by rfl) (ha:annTrees params none X.env=[]:=by rfl)
  (e1:bK X outer:=by rfl) (e2:X.N=NX:=by rfl) (hfn:X.fn name=true:=by rfl):PS X (.FunctionDef name params body [] none [] scope none name pos) (rf i name qual params body scope (dW scope.names X.env.cells)):=fun pins s σ H D I hh=>by
 have e1:X.env.scope=outer:=e1
 subst e1 e2
 unfold hasQ at hq
 simp only [Bool.and_eq_true,List.all_eq_true,Bool.or_eq_true,Bool.not_eq_true',decide_eq_true_eq,decide_eq_false_iff_not] at hq
 exact wX nd (gO h) (jI hl) (.inl hfn) B hcode hT hqn hq.1 (fun q hm=>(hq.2 _ hm).resolve_left fun z=>z rfl) (gM fun x hx e=>I.ok.has x.1 (.inl (C.fre x hx e))) hd0 hk0 ha pins s σ H D I hh
def Ai {i1 i2:Nat} (h:decide (i1<NX.length/\i2<NX.length)=true) (e2:X.N=NX:=by rfl):∀ σ:St,σ.length=X.N.length->i1<σ.length/\i2<σ.length:=fun σ e=>by
 rw [e,e2]
 exact of_decide_eq_true h
end
structure DefC (K:PySem.W.Frag) (mg:Str->Option Value) (x:Str) (st:Stmt) (ps:List Str) (c:Addr):Prop where
 ex:∃ (f:Addr) (oc:Value) (od:Option Addr) (kV doc pm:Value) (an:Option Addr) (ct:Value) (osl:Array (Option Value)),mg x=some (.ref f)/\PySem.W.keepIn K (.ref f)=true/\Binds K (PySem.W.fnOf x x (bA st) (aM st) (ab st) .none kV doc pm an (.ref c) ct) ps []∧
  K.lookup f=some ⟨oc,od,.func (PySem.W.fnOf x x (bA st) (aM st) (ab st) .none kV doc pm an (.ref c) ct),osl⟩/\PySem.W.codeIn K (.ref c) x=true
section
variable {P:Program} {w:World} {K:PySem.W.Frag} {mg:Str->Option Value} {base:Heap} {x:Str} {st:Stmt} {N ps:List Str} {c:Addr}
def DefC.mk' {f:Addr} {oc:Value} {od an:Option Addr} {osl:Array (Option Value)} {kV doc pm ct:Value} {h:Heap} (X:K.In h) (G:h.Ns mainGlobals mg)
  (a:PySem.W.nsIn K mainGlobals x=some (some (.ref f)))
  (l:K.lookup f=some ⟨oc,od,.func (PySem.W.fnOf x x (bA st) (aM st) (ab st) .none kV doc pm an (.ref c) ct),osl⟩) (cc:PySem.W.codeIn K (.ref c) x=true) (k:PySem.W.keepIn K (.ref f)=true)
  (hb:∀ (kV doc pm:Value) (an:Option Addr) (cdv ct:Value) (us:List Value),us.length=ps.length->bindArgs (PySem.W.fnOf x x (bA st) (aM st) (ab st) .none kV doc pm an cdv ct) ⟨us,[]⟩=pure (ps.zip us)):DefC K mg x st ps c:=
 ⟨f,oc,od,kV,doc,pm,an,ct,osl,PySem.W.mg_of X G a,k,(lW l cc k).binds hb,l,cc⟩
def w6 {k n:Nat} {g:Fs} (D:DefC K mg x st ps c) (S:FnScope N ps (ab st)) (hn:ps.length=n)
  (hbody:∀ (f:Addr) (A:Around) (outer:List Env) (s:Shared) (H:Hp) (E:XK),Room k (A.deeper (envOfC x (ab st) s.heap.objs.size f (.ref c)))->GS (ji CX0 P w K mg base N x (ab st) f (.ref c) A outer s H E).nox (aM st) g) :
  OkF P w K mg base x (k+1) ps (spG K n (gx N.length g)):=by
 obtain ⟨f,oc,od,kV,doc,pm,an,ct,osl,h1,h2,h3,lk,hcd⟩:=D.ex
 refine ⟨f,_,h1,h2,h3,xU lk hcd S (fun vs H Q E h=>?_) fun A outer s H vs Q E hr h=>?_⟩
 · obtain ⟨F,ρ,cs,ch,c,ch',_,hl,r,_⟩:=h
   rw [r.length,hl,hn]
 · obtain ⟨F,ρ,cs,ch,c,ch',gh,hl,r,hf,kq⟩:=h
   refine ⟨_,PSs.nox (hbody f A outer s H E hr),?_⟩
   unfold gx at hf
   split at hf
   · rename_i c1 ch1 q
     cases hf
     exact ⟨_,ch,F,ρ,_,eI gh r,q,fun v F' H' ρ' a z=>kq v F' H' ρ' a z⟩
   · rename_i δ1 ch1 q
     cases hf
     exact ⟨_,ch,F,ρ,_,eI gh r,q,fun σ' F' H' ρ' a z=>kq .non F' H' ρ' a (ip (K:=K) (F:=F'))⟩
   · cases hf
def w8 {P:Addr} {qs:List ((Nat×Nat)×Str)} (hx:decide (x∈nestNames)=true) (h:oO K x=some (P,qs)):(P,qs)∈cI K:=List.mem_filterMap.mpr ⟨x,of_decide_eq_true hx,h⟩
end
noncomputable def tLRg (ta:TA):TE:=fun σ H Q=>ta σ H fun vs H1=>∃ i j:Int,vs=[.int i,.int j]/\(-(2^62)<=i/\i<2^62/\-(2^62)<=j/\j<2^62)/\(j-i).toNat<=sizeLine/\∀ l,H1 l=none->Q (.ref l) (upd H1 l (.lst (cA i (j-i).toNat)))
section
variable {X:Cx} {a b:Expr} {ta:TA} {p1 p2 pos1 pos2:Pos} {sc:Scope} {fs:De->Option (List Dt)}
def uX {i:Int} {ys:List Value} {n:Nat} (hl:ys.length=n) (h:∀ (k:Nat) (v:Value),ys[k]?=some v->∃ t,v=.int (i+(k:Nat)*1) t):Vals (cA i n) ys:=by
 subst hl
 have key:∀ (ys:List Value) (i:Int),(∀ (k:Nat) (v:Value),ys[k]?=some v->∃ t,v=.int (i+(k:Nat)*1) t)->Vals (cA i ys.length) ys:=fun ys=>by
  induction ys with
  | nil=>intro i _;exact .nil
  | cons y r ih =>
   intro i h
   have e:cA i (r.length+1)=V.int i::cA (i+1) r.length:=by
    unfold cA
    rw [List.range_succ_eq_map,List.map_cons,List.map_map]
    refine congr (congrArg _ (by simp)) (List.map_congr_left fun k _=>?_)
    simp only [Function.comp]
    congr 1
    push_cast
    omega
   rw [List.length_cons,e]
   refine .cons ?_ (ih _ fun k v hv=>?_)
   · obtain ⟨t,ht⟩:=h 0 y rfl
     exact ⟨t,by rw [ht];congr 1;simp⟩
   · obtain ⟨t,ht⟩:=h (k+1) v (by simpa using hv)
     exact ⟨t,by rw [ht];congr 1;push_cast;omega⟩
 exact key ys i h
def pO (h1:aF sc "list"=true) (h2:aF sc "range"=true) (hm1:X.mg "list"=none) (hm2:X.mg "range"=none) (hc:X.calm=true) (ha:PA X [a,b] ta) (e1:bK X sc:=by rfl) (hs:starEach [a,b] X.env=[(false,eval a X.env),(false,eval b X.env)]:=by rfl) (hs1:starEach [b] X.env=[(false,eval b X.env)]:=by rfl)
  (hs2:starEach [.Call (.Name "range" p2) [a,b] [] pos2] X.env=[(false,eval (.Call (.Name "range" p2) [a,b] [] pos2) X.env)]:=by rfl) :
  PE X (.Call (.Name "list" p1) [.Call (.Name "range" p2) [a,b] [] pos2] [] pos1) (tLRg ta):=by
 intro pins s σ H Q I h'
 have inner:wpAny (model X.prog X.w) X.A (eval (.Call (.Name "range" p2) [a,b] [] pos2) X.env) (fun u s2=>∃ r H1 i j t0 u0 v0,u=.ref r/\Inv X pins σ H1 s2/\IsRange s2.heap r i j 1 t0 u0 v0/\(-(2^62)<=i/\i<2^62/\-(2^62)<=j/\j<2^62)/\(j-i).toNat<=sizeLine/\(∀ l,H1 l=none->Q (.ref l) (upd H1 l (.lst (cA i (j-i).toNat))))) X.xe s:=by
  refine Call_ (eT I (glD h2 e1) hm2 tX (PyProof.Rows.callWith_type1 (thn (ha pos2 pins s σ H _ I h') fun us s1 ⟨vs,H1,I1,r1,q1⟩=>?_) (by rw [hs,hs1]) (by rw [hs1];rfl)))
  obtain ⟨i,j,rfl,hb,hz,q⟩:=q1
  cases r1 with
  | cons r rr =>
   cases rr with
   | cons r' rr =>
    cases rr
    obtain ⟨t,rfl⟩:=r
    obtain ⟨t',rfl⟩:=r'
    exact call_range_2 ⟨_,H1,i,j,_,_,_,rfl,I1.kept fun b o e=>gP _ e,IsRange.new ..,hb,hz,q⟩
 have key:wpAny (model X.prog X.w) X.A (spliced (backTo pos1 (starEach [.Call (.Name "range" p2) [a,b] [] pos2] X.env))) (fun vs s₁=>wpAny (model X.prog X.w) X.A (call (.type "list") vs) (EP X pins σ Q) X.xe s₁) X.xe s:=?key
 · exact Call_ (eT I (glD h1 e1) hm1 jt (PyProof.Rows.callWith_type1 key hs2 rfl))
 rw [hs2]
 show wpAny _ _ (spliced ((false,eval (.Call (.Name "range" p2) [a,b] [] pos2) X.env)::[])) _ _ s
 refine Calls.spliced_cons (thn inner fun u s2 w=>Calls.spliced_nil ?_)
 obtain ⟨r,H1,i,j,t0,u0,v0,rfl,I2,hR,hb,hz,q⟩:=w
 refine call_list_range (n:=(j-i).toNat) (I2.ok.hd hc) hR (small_one hb.1 hb.2.1 hb.2.2.1 hb.2.2.2) (by rw [rangeSize_one];split<;>omega) (Nat.le_trans hz (by decide)) fun h3 tk acc c hk hD hI=>?_
 refine ⟨.ref s2.heap.objs.size,_,I2.laid (a:=s2.heap.objs.size) (o:=.lst (cA i (j-i).toNat)) (t':=tk) (h':=h3) hk (nL _) ⟨?_,acc.toList,c,?_,?_⟩,rfl,q _ (I2.hok.fresh (nL _))⟩
 · simpa [cA] using hz
 · exact uX (by have:=hI.1;simpa using this) fun k v hv=>hI.2 k v (by simpa using hv)
 · rw [hD]
def iz:List Dt->Option T
 | [.int i,.int j]=>if gz i&&gz j&&decide ((j-i).toNat<=sizeLine) then some (.lst (ce i (j-i).toNat)) else none
 | _=>none
def pP (h1:aF sc "list"=true) (h2:aF sc "range"=true) (hm1:X.mg "list"=none) (hm2:X.mg "range"=none) (hc:X.calm=true) (ha:DA X [a,b] fs) (e1:bK X sc:=by rfl) (hs:starEach [a,b] X.env=[(false,eval a X.env),(false,eval b X.env)]:=by rfl) (hs1:starEach [b] X.env=[(false,eval b X.env)]:=by rfl)
  (hs2:starEach [.Call (.Name "range" p2) [a,b] [] pos2] X.env=[(false,eval (.Call (.Name "range" p2) [a,b] [] pos2) X.env)]:=by rfl) :
  DO X (.Call (.Name "list" p1) [.Call (.Name "range" p2) [a,b] [] pos2] [] pos1) (au iz fs):=
 PE.mono (pO h1 h2 hm1 hm2 hc ha.pa e1 hs hs1 hs2) fun σ H Q ⟨Φ,δ,F,t,hK,en,hf,k⟩=>by
  unfold au at hf
  obtain ⟨ds,hd,hf⟩:=bS hf
  refine ⟨Φ,δ,F,ds,hK,en,hd,fun vs H' F' st r=>?_⟩
  unfold iz at hf
  split at hf
  · rename_i i j
    split at hf
    · rename_i hj
      rw [Bool.and_eq_true,Bool.and_eq_true,decide_eq_true_eq] at hj
      cases hf
      simp only [Reps,Rep] at r
      obtain ⟨v,ws,rfl,rfl,w,us,rfl,rfl,rfl⟩:=r
      exact ⟨i,j,rfl,⟨(dn hj.1.1).1,(dn hj.1.1).2,(dn hj.1.2).1,(dn hj.1.2).2⟩,hj.2,fun l hl=>gd (k.step st) st.fh (jL _ _) hl⟩
    · cases hf
  · cases hf
end
def sI:Dt->Option (List Key)
 | .tup ds=>ds.mapM jm
 | _=>none
def j8:List Dt->Option (List (List Key)):=fun l=>l.mapM sI
def w9 {d:Dt} {k:Key} (h:jm d=some k):d=eJ k:=by
 cases d<;>cases h<;>rfl
def rk:∀ {ds:List Dt} {ks:List Key},ds.mapM jm=some ks->ds=ks.map eJ
 | [],ks,h=>by simp at h;subst h;rfl
 | d::ds,ks,h=>by
  simp only [List.mapM_cons,Option.bind_eq_bind,Option.bind_eq_some_iff,Option.pure_def,Option.some.injEq] at h
  obtain ⟨k,hk,r,hr,rfl⟩:=h
  rw [w9 hk,rk hr]
  rfl
def rm {d:Dt} {ks:List Key} (h:sI d=some ks):d=bE ks:=by
 unfold sI at h
 split at h
 · rw [rk h];rfl
 · cases h
def nX:∀ {l:List Dt} {kss:List (List Key)},j8 l=some kss->l=kss.map bE
 | [],ks,h=>by simp [j8] at h;subst h;rfl
 | d::ds,ks,h=>by
  simp only [j8,List.mapM_cons,Option.bind_eq_bind,Option.bind_eq_some_iff,Option.pure_def,Option.some.injEq] at h
  obtain ⟨k,hk,r,hr,rfl⟩:=h
  rw [rm hk,nX hr]
  rfl
def lE:∀ (a b:List Key),peqs (a.map eJ) (b.map eJ)=decide (a=b)
 | [],[]=>rfl
 | [],_::_=>rfl
 | _::_,[]=>rfl
 | x::a,y::b=>by
  simp only [List.map_cons,peqs,lE a b]
  have e:peq (eJ x) (eJ y)=decide (x=y):=by
   cases x<;>cases y<;>simp [eJ,peq]<;>rw [Bool.eq_iff_iff]<;>simp
  rw [e,Bool.eq_iff_iff]
  simp
def nY (a b:List Key):peq (bE a) (bE b)=decide (a=b):=lE a b
def j9:∀ (a b:List Key),cmpbs (a.map eJ) (b.map eJ)=true
 | [],_=>by simp [cmpbs]
 | _::_,[]=>by simp [cmpbs]
 | x::a,y::b=>by
  simp only [List.map_cons,cmpbs,j9 a b,Bool.and_true]
  cases x<;>cases y<;>rfl
def ka:∀ (a:List Key),deeps (a.map eJ)=0
 | []=>rfl
 | x::a=>by
  simp only [List.map_cons,deeps,ka a]
  cases x<;>rfl
def mo (ks:List Key) (kss:List (List Key)):Bool:=kss.any fun k=>decide (k=ks)
def inKs_iff {ks:List Key} {kss:List (List Key)}:mo ks kss=true↔ks∈kss:=by
 unfold mo
 rw [List.any_eq_true]
 constructor
 · rintro ⟨k,h,e⟩
   rw [<- of_decide_eq_true e]
   exact h
 · intro h
   exact ⟨ks,h,decide_eq_true rfl⟩
noncomputable def rInK (K:PySem.W.Frag) (neg:Bool):R2:=fun x y H Q=>∃ (p:Addr) (vs:List V) (kss:List (List Key)) (ks:List Key),y=.ref p/\SqL K H p vs/\Reps K H (kss.map bE) vs/\Rep K H (bE ks) x/\Q (.bl (if neg then !mo ks kss else mo ks kss)) H
section
variable {X:Cx} {pins:List (Addr×Obj)} {s:Shared} {σ:St} {H:Hp}
open Classical in
def xa {A:Around} {vs:List V} {its:List Value} {kss:List (List Key)} {ks:List Key} {x:V} {u:Value} (I:Inv X pins σ H s) (hu:A.units+1<cLine) (r:Vals vs its) (hr:Reps X.K H (kss.map bE) vs) (hx:Rep X.K H (bE ks) x) (rx:RelV x u) :
  ∃ e:Value->Bool,(∀ y,y∈its.toArray->SeqAt.EqAt A s y u (e y))/\its.toArray.any e=mo ks kss:=by
 have at':∀ y∈its,∃ (k:List Key) (v:V),k∈kss/\Rep X.K H (bE k) v/\RelV v y:=fun y hy=>by
  obtain ⟨j,hj,rfl⟩:=List.getElem_of_mem hy
  obtain ⟨d,v,h1,h2,h3⟩:=bP hr r hj
  rw [List.getElem?_map] at h1
  obtain ⟨k,hk,rfl⟩:=mS h1
  exact ⟨k,v,List.mem_of_getElem? hk,h2,h3⟩
 have one:∀ {y:Value} {k k':List Key} {v v':V},Rep X.K H (bE k) v->RelV v y->Rep X.K H (bE k') v'->RelV v' y->k=k':=fun {y k k' v v'} a1 a2 b1 b2=>by
  have:=a2.inj b2
  subst this
  have:=jv I _ _ _ a1 b1
  rw [nY] at this
  exact of_decide_eq_true this
 refine ⟨fun y=>decide (∃ v,Rep X.K H (bE ks) v/\RelV v y/\ks∈kss/\y∈its),fun y hy=>?_,?_⟩
 · have hy:y∈its:=by simpa using hy
   obtain ⟨k,v,hk,h1,h2⟩:=at' y hy
   have e:=ub I 1 (A:=A) (d:=bE k) (e:=bE ks) (by show deeps _+1<=1;rw [ka];exact nL _) hu (j9 k ks) h1 hx h2 rx
   rw [nY] at e
   have:decide (k=ks)=decide (∃ v,Rep X.K H (bE ks) v/\RelV v y/\ks∈kss/\y∈its):=by
    rw [decide_eq_decide]
    constructor
    · intro z
      subst z
      exact ⟨v,h1,h2,hk,hy⟩
    · rintro ⟨v',g1,g2,_,_⟩
      exact one h1 h2 g1 g2
   rw [this] at e
   exact e
 · rw [Bool.eq_iff_iff,inKs_iff]
   simp only [List.any_toArray,List.any_eq_true,decide_eq_true_eq]
   constructor
   · rintro ⟨y,_,v,_,_,h,_⟩
     exact h
   · intro h
     obtain ⟨j,hj,e⟩:=List.getElem_of_mem h
     have hl:j<its.length:=by
      rw [<- r.length,hr.length,List.length_map]
      exact hj
     obtain ⟨d,v,h1,h2,h3⟩:=bP hr r hl
     rw [List.getElem?_map,gQ hj,e] at h1
     cases h1
     exact ⟨its[j],List.getElem_mem hl,v,h2,h3,h,List.getElem_mem hl⟩
def Aj {K:PySem.W.Frag} {k:Nat} (hr:Room k X.A) (hK:X.K=K):OpR X (compareOp .In) (rInK K false):=by
 subst hK
 intro pins s σ H x y v u Q I rx ry h
 obtain ⟨p,vs,kss,ks,rfl,hq,h1,h2,q⟩:=h
 cases ry
 obtain ⟨its,r,pl,hz⟩:=I.list hq
 have hu:=hr.units
 obtain ⟨e,h3,h4⟩:=xa (A:=X.A.in1) I (show X.A.in1.units+1<cLine by have:X.A.in1.units<=X.A.units+1:=(by first | exact nL _ | exact Nat.le_succ _);omega) r h1 h2 rx
 refine SeqAt.in_listAt e pl.isList h3 ⟨.bl _,H,I,rfl,?_⟩
 rw [h4]
 exact q
end
def uY (neg:Bool):Dt->Dt->Option T
 | x,.lst l=>(sI x).bind fun ks=>(j8 l).map fun kss=>.leaf (.bl (if neg then !mo ks kss else mo ks kss))
 | _,_=>none
def BH {K:PySem.W.Frag} (neg:Bool):R2D K (rInK K neg) (uY neg):=by
 intro F H x y vx vy Q t fh rx ry hg k
 unfold uY at hg
 split at hg<;>first | (cases hg;done) | skip
 rename_i l
 obtain ⟨ks,hk,hg⟩:=bS hg
 obtain ⟨kss,hks,hg⟩:=mS hg
 cases hg
 have e1:=rm hk
 have e2:=nX hks
 subst e1 e2
 obtain ⟨a,vs,rfl,h1,h2⟩:=ry
 exact ⟨a,vs,kss,ks,rfl,h1,h2.same fh,rx.rep fh,k.bl fh⟩
def TabsIn.one {K:PySem.W.Frag} {h:Heap} {c P:Addr} {qs:List ((Nat×Nat)×Str)} (kb:K.In h) (e:cI K=[(P,qs)]) (n:K.lookup P=none) (hc:PySem.W.codeHdIn K c P=true) (t:h.get? P=some (PySem.W.tabObj #[])):TabsIn K h:=by
 unfold TabsIn
 rw [e]
 refine ⟨fun p hp=>?_,fun p hp q hq _=>?_⟩
 · cases List.mem_singleton.mp hp
   exact ⟨n,⟨c,PySem.W.codeHd_of_K kb hc⟩,t⟩
 · cases List.mem_singleton.mp hp
   cases List.mem_singleton.mp hq
   rfl
noncomputable def AtF (K:PySem.W.Frag) (x:Str) (st:Stmt):Prop:=∃ (f:Addr) (oc:Value) (od an:Option Addr) (sl:Array (Option Value)) (kV dc pm cd ct:Value),
 PySem.W.nsIn K mainGlobals x=some (some (.ref f))/\K.lookup f=some ⟨oc,od,.func (PySem.W.fnOf x x (bA st) (aM st) (ab st) .none kV dc pm an cd ct),sl⟩/\PySem.W.codeIn K cd x=true/\PySem.W.keepIn K (.ref f)=true
noncomputable def AtC (K:PySem.W.Frag) (x:Str) (st:Stmt) (c P:Addr):Prop:=∃ (f:Addr) (oc:Value) (od an:Option Addr) (sl:Array (Option Value)) (kV dc pm ct:Value) (xo:Value) (xd:Option Addr) (xv:Array Value) (xs:Array (Option Value)),
 PySem.W.nsIn K mainGlobals x=some (some (.ref f))/\K.lookup f=some ⟨oc,od,.func (PySem.W.fnOf x x (bA st) (aM st) (ab st) .none kV dc pm an (.ref c) ct),sl⟩/\PySem.W.codeIn K (.ref c) x=true/\PySem.W.keepIn K (.ref f)=true∧
 K.lookup c=some ⟨xo,xd,.fields xv,xs⟩/\xv[11]?=some (.ref P)
section
variable {K:PySem.W.Frag} {mg:Str->Option Value} {h:Heap} {x:Str} {st:Stmt} {ps:List Str} {c P:Addr}
def AtF.mk {f:Addr} {oc:Value} {od an:Option Addr} {sl:Array (Option Value)} {kV dc pm cd ct:Value} (a:PySem.W.nsIn K mainGlobals x=some (some (.ref f))) (l:K.lookup f=some ⟨oc,od,.func (PySem.W.fnOf x x (bA st) (aM st) (ab st) .none kV dc pm an cd ct),sl⟩) (c:PySem.W.codeIn K cd x=true) (k:PySem.W.keepIn K (.ref f)=true):AtF K x st:=⟨f,oc,od,an,sl,kV,dc,pm,cd,ct,a,l,c,k⟩
def AtC.mk {f:Addr} {oc:Value} {od an:Option Addr} {sl:Array (Option Value)} {kV dc pm ct xo:Value} {xd:Option Addr} {xv:Array Value} {xs:Array (Option Value)} (a:PySem.W.nsIn K mainGlobals x=some (some (.ref f))) (l:K.lookup f=some ⟨oc,od,.func (PySem.W.fnOf x x (bA st) (aM st) (ab st) .none kV dc pm an (.ref c) ct),sl⟩) (cc:PySem.W.codeIn K (.ref c) x=true) (k:PySem.W.keepIn K (.ref f)=true) (cl:K.lookup c=some ⟨xo,xd,.fields xv,xs⟩) (cp:xv[11]?=some (.ref P)):AtC K x st c P:=⟨f,oc,od,an,sl,kV,dc,pm,ct,xo,xd,xv,xs,a,l,cc,k,cl,cp⟩
def AtF.df (A:AtF K x st) (X:K.In h) (G:h.Ns mainGlobals mg) (hb:∀ (kV doc pm:Value) (an:Option Addr) (cdv ct:Value) (us:List Value),us.length=ps.length->bindArgs (PySem.W.fnOf x x (bA st) (aM st) (ab st) .none kV doc pm an cdv ct) ⟨us,[]⟩=pure (ps.zip us)):DefF K mg x st ps:=by
 obtain ⟨f,oc,od,an,sl,kV,dc,pm,cd,ct,a,l,c,k⟩:=A
 exact DefF.mk' X G a l c k hb
def AtC.df (A:AtC K x st c P) (X:K.In h) (G:h.Ns mainGlobals mg) (hb:∀ (kV doc pm:Value) (an:Option Addr) (cdv ct:Value) (us:List Value),us.length=ps.length->bindArgs (PySem.W.fnOf x x (bA st) (aM st) (ab st) .none kV doc pm an cdv ct) ⟨us,[]⟩=pure (ps.zip us)):DefC K mg x st ps c:=by
 obtain ⟨f,oc,od,an,sl,kV,dc,pm,ct,xo,xd,xv,xs,a,l,c,k,_⟩:=A
 exact DefC.mk' X G a l c k hb
end
section
variable {X:Cx} {e:Expr} {es:List Expr} {x:Str} {p pos:Pos} {fs:De->Option (List Dt)} {i:Nat}
def pvX (h:cy X.env.scope X.N i x=true):PE X (.Name x pos) (jh i):=pvD i h rfl rfl
end
end L2
seal L2.PE L2.PS L2.PSs L2.PT L2.PW L2.PA L2.PI L2.PG L2.PTs L2.PO L2.PGs L2.CallR L2.OpR L2.IxR L2.SlR L2.MtR L2.UnR L2.DO L2.DL L2.DB L2.DT L2.DW L2.DS L2.DS1 L2.R2D L2.CRD L2.MRD L2.DG L2.DGs L2.DIF L2.DIB L2.DTs L2.DP L2.GE L2.GT L2.GW L2.GA L2.GS L2.GS1
namespace P33
open PySem L2
def top (i:Nat):Stmt:=PySem.Challenge.pw_dimhouse_k33_spoilt_in_straight_rows.main.body.getD i (.Pass ⟨0,0,0,0⟩)
noncomputable section
def dk:Dt:=(.str "fresh")
def mq:Dt:=(.str "safe")
def kd:Dt:=(.str "seen")
def iA:Dt:=(.str "spoilt")
def y1:List Dt->Option T:=gv 2 ((bq (sIf (tB2 (l7 fun i j=>decide (i<j)) (vB 1) (toD (au db (ae (vB 0) ao)))) (dh (d2 aw (vB 0) (vB 1))) el)
  (dh (toT (kD (.int 0))))))
def z28:De->Option Dt:=(toD (d2 aw (vB 2) (toD (d2 bM (toD (d2 da (toD (d2 bM (toD (d2 iq (vB 1) (toD (d2 bG (kD (.int 48271)) (toD (d2 iq (kD (.int 2)) (vB 0))))))) (kD (.int 2147483647)))) (kD (.int 9)))) (kD (.int 26))))))
def q27:De->Option Dt:=(toD (d2 bG (toD (d2 bG (toD (vSl (vB 3) jd (dA (vB 4)))) (toD (d2 aw (vB 2) (toD (d2 bM (toD (d2 bG (toD (d2 da (vB 1) (kD (.int 36)))) (vB 0))) (kD (.int 26)))))))) (toD (vSl (vB 3) (dA (vB 4)) jd))))
noncomputable def q19:List Dt->Option T:=gv 6 ((bq (bC 2 (toT (kD (.str "abcdefghijklmnopqrstuvwxyz"))))
  (bq (bC 3 (toT (toD (d2 bM (vB 0) (kD (.int 6))))))
  (bq (bC 4 (toT (toD (qL gY (kD (.str "")) (ae (toD (br [none,some 0,some 2] (gU iN (ae (vL 3) ao)) (aG 0) bU z28)) ao)))))
  (bq (bC 5 (toT (toD (d2 bM (toD (d2 da (vB 0) (kD (.int 6)))) (toD (d2 bG (vB 3) (kD (.int 1))))))))
  (dh (br [none,some 0,some 2,some 4,some 5] (gU iN (ae (vL 1) ao)) (aG 0) bU q27)))))))
noncomputable def z20:De->Option Out:=(bq (bC 8 (toT (toD (d2 da (toD (d2 bM (toD (d2 iq (vB 7) (kD (.int 48271)))) (kD (.int 2147483647)))) (kD (.int 3))))))
  (bq (bC 9 (toT (toD (d2 aw (vB 5) (toD (d2 bM (vB 8) (toD (au db (ae (vB 5) ao)))))))))
  (bq (bC 10 (toT (toD (d2 aw (vB 1) (toD (d2 bM (toD (d2 da (vB 8) (kD (.int 11)))) (kD (.int 2))))))))
  (bq (bC 11 (toT (toD (cN (ae (toD (bB (ae (kD (.str "load")) (ae (vL 9) (ae (vL 10) ao))))) (ae (toD (bB (ae (kD (.str "store")) (ae (vL 10) (ae (vL 9) ao))))) (ae (toD (bB (ae (kD (.str "take")) (ae (vL 9) (ae (toD (d2 aw (vB 1) (toD (d2 bG (kD (.int 2)) (toD (d2 bM (toD (d2 da (vB 8) (kD (.int 11)))) (kD (.int 2)))))))) (ae (toD (d2 bM (toD (d2 da (vB 8) (kD (.int 22)))) (kD (.int 9)))) ao)))))) ao)))))))
  (bq (bC 11 (toT (toD (d2 bG (vB 11) (toD (cN (ae (toD (bB (ae (kD (.str "lay")) (ae (toD (d2 aw (vB 1) (toD (d2 bG (kD (.int 2)) (toD (d2 bM (toD (d2 da (vB 8) (kD (.int 11)))) (kD (.int 2)))))))) (ae (vL 9) (ae (kD (.int 5)) ao)))))) (ae (toD (bB (ae (kD (.str "copy")) (ae (vL 9) (ae (vL 8) ao))))) (ae (toD (bB (ae (kD (.str "say")) (ae (vL 9) ao)))) ao)))))))))
  (z29 6 (toD (d2 aw (vB 11) (toD (d2 aw (toD (cN (ae (kD (.int 0)) (ae (kD (.int 0)) (ae (kD (.int 1)) (ae (kD (.int 1)) (ae (kD (.int 2)) (ae (kD (.int 3)) (ae (kD (.int 4)) (ae (kD (.int 5)) ao)))))))))) (toD (d2 bM (vB 7) (kD (.int 8))))))))))))))
noncomputable def z4:List Dt->Option T:=gv 12 ((bq (bC 1 (toT (toD (au q19 (ae (toD (au y1 (ae (vL 0) (ae (toD (au wD (ae (toD (d2 (l7 fun i j=>decide (j<i)) (toD (d2 bM (toD (au y1 (ae (vL 0) (ae (kD (.int 1)) ao)))) (kD (.int 3)))) (kD (.int 0)))) ao))) ao)))) (ae (kD (.int 4)) ao))))))
  (bq (bC 2 (toT (toD (au y1 (ae (vL 0) (ae (kD (.int 3)) ao))))))
  (bq (bC 3 (toT (toD (bB (ae (toD (bB (ae (toD (d2 aw (vB 1) (kD (.int 0)))) (ae (kD (.int 7)) (ae (toD (d2 (gEq false) (toD (d2 bM (vB 2) (kD (.int 3)))) (kD (.int 0)))) ao))))) (ae (toD (bB (ae (toD (d2 aw (vB 1) (kD (.int 1)))) (ae (kD (.int 0)) (ae (toD (d2 (gEq false) (toD (d2 bM (vB 2) (kD (.int 3)))) (kD (.int 1)))) ao))))) ao))))))
  (bq (bC 4 (toT (toD (bB (ae (toD (bB (ae (toD (d2 aw (vB 1) (kD (.int 2)))) (ae (toD (d2 bG (kD (.int 1)) (toD (d2 bM (toD (d2 da (vB 2) (kD (.int 3)))) (kD (.int 8)))))) (ae (toD (d2 (gEq false) (toD (d2 bM (toD (d2 da (vB 2) (kD (.int 24)))) (kD (.int 3)))) (kD (.int 0)))) ao))))) (ae (toD (bB (ae (toD (d2 aw (vB 1) (kD (.int 3)))) (ae (kD (.int 2)) (ae (toD (d2 (gEq false) (toD (d2 bM (toD (d2 da (vB 2) (kD (.int 24)))) (kD (.int 3)))) (kD (.int 1)))) ao))))) ao))))))
  (bq (bC 5 (toT (toD (au q19 (ae (toD (au y1 (ae (vL 0) (ae (kD (.int 0)) ao)))) (ae (toD (d2 bG (kD (.int 2)) (toD (d2 bM (toD (au y1 (ae (vL 0) (ae (kD (.int 2)) ao)))) (kD (.int 11)))))) ao))))))
  (bq (bC 6 (cN ao))
  (bq (sg (fIt (toD (vSl (vB 0) (dA (kD (.int 6))) (dA (kD (.int 63)))))) (aG 7) z20)
  (dh (bB (ae (toD (bB (ae (vL 3) (ae (vL 4) (ae (toD (au dZ (ae (toD (d2 bG (vB 6) (toD (cN (ae (toD (bB (ae (kD (.str "end")) (ae (kD (.int 0)) ao)))) ao))))) ao))) ao))))) (ae (vL 5) ao))))))))))))
noncomputable def z19:De->Option Out:=(bq (bC 6 (toT (toD (d2 bM (toD (d2 iq (toD (d2 bG (toD (d2 da (toD (au y1 (ae (vL 0) (ae (kD (.int 5)) ao)))) (kD (.int 4)))) (toD (d2 iq (kD (.int 7919)) (vB 5))))) (kD (.int 69621)))) (kD (.int 2147483629))))))
  (sIf (tB2 (gEq false) (toD (d2 bM (toD (d2 da (vB 6) (kD (.int 5)))) (vB 3))) (kD (.int 0))) (z29 4 (toD (bB (ae (vL 5) (ae (toD (au dZ (ae (toD (au dj (ae (toD (vSl (vB 2) jd (dA (toD (d2 bM (toD (d2 da (vB 6) (kD (.int 45)))) (toD (d2 bG (toD (au db (ae (vB 2) ao))) (kD (.int 1))))))))) ao))) ao))) ao))))) el))
noncomputable def q12:List Dt->Option T:=gv 8 ((bq (bC 3 (toT (toD (d2 aw (toD (cN (ae (kD (.int 2)) (ae (kD (.int 3)) (ae (kD (.int 5)) (ae (kD (.int 9)) ao)))))) (toD (d2 bM (toD (au y1 (ae (vL 0) (ae (kD (.int 5)) ao)))) (kD (.int 4))))))))
  (bq (bC 2 (toT (toD (au eM (ae (toD (d2 bG (vB 2) (toD (cN (ae (toD (d2 aw (toD (d2 aw (toD (d2 aw (vB 1) (kD (.int 0)))) (kD (.int 0)))) (kD (.int 0)))) (ae (kD (.str "zz")) ao)))))) ao)))))
  (bq (bC 4 (cN ao))
  (bq (sg (gU iN (ae (toD (au db (ae (toD (d2 aw (vB 1) (kD (.int 2)))) ao))) ao)) (aG 5) z19)
  (bq (bC 7 (toT (toD (au dZ (ae (toD (au dj (ae (toD (vSl (vB 2) jd (dA (toD (d2 bM (toD (d2 da (toD (au y1 (ae (vL 0) (ae (kD (.int 5)) ao)))) (kD (.int 4)))) (toD (d2 bG (toD (au db (ae (vB 2) ao))) (kD (.int 1))))))))) ao))) ao)))))
  (dh (bB (ae (vL 7) (ae (toD (au dZ (ae (vB 4) ao))) ao))))))))))
def q44:De->Option Dt:=(toD (d2 aw (vB 0) (kD (.int 0))))
def z18:List Dt->Option T:=gv 1 ((dh (br [none] (fIt (toD (d2 aw (vB 0) (kD (.int 1))))) (aG 0) bU q44)))
noncomputable def q35:List Dt->Option T:=gv 2 ((bq (sIf (tB2 (gEq false) (toD (d2 aw (vB 1) (kD (.int 0)))) (kD (.str "go"))) (dh (bB (ae (toD (d2 aw (vB 1) (kD (.int 1)))) ao))) el)
  (bq (sIf (tB2 (gEq false) (toD (d2 aw (vB 1) (kD (.int 0)))) (kD (.str "if"))) (dh (bB (ae (toD (d2 aw (vB 1) (kD (.int 2)))) (ae (toD (d2 bG (vB 0) (kD (.int 1)))) ao)))) el)
  (bq (sIf (tB2 (gEq false) (toD (d2 aw (vB 1) (kD (.int 0)))) (kD (.str "end"))) (dh (bB ao)) el)
  (dh (bB (ae (toD (d2 bG (vB 0) (kD (.int 1)))) ao)))))))
def z62:De->Option Dt:=(toD (au q35 (ae (vL 0) (ae (vL 1) ao))))
def ke:List Dt->Option T:=gv 1 ((dh (br [none,none] (gU qN (ae (toD (d2 aw (vB 0) (kD (.int 2)))) ao)) (m9 2 (dM (aG 0) (dM (aG 1) m8))) bU z62)))
def q42:De->Option Bool:=(tB2 (cw true) (vB 0) (vB 1))
def y33:De->Option Dt:=(toD (br [none,some 1] (fIt (vB 0)) (aG 0) q42 (vL 0)))
def q20:List Dt->Option T:=gv 3 ((bq (bC 2 (toT (toD (au z18 (ae (vL 1) ao)))))
  (dh (br [none,some 2] (fIt (toD (au ke (ae (vL 0) ao)))) (aG 0) bU y33))))
def y63:Fs:=(aJ (fB (eV 2) (eD (vL 3)))
  (aT 3 (sG (eV 0) (eD (vL 3)))))
def q63:Ft:=(tD (tB2 (gIs true) (vB 3) (kD .non)))
def y53:Fd:=gx 4 ((aJ (aT 2 (eN (cN ao)))
  (aJ (aT 3 (eD (vL 1)))
  (aJ (bI q63 y63 100000)
  (dB (eLR (eV 2)))))))
def q65 (G:Orc):Fs:=(fj (eV 3) (eD (vL 4)) (eD (kD .non)))
def y64 (G:Orc):Fs:=(fT (sH (eD (vL 8)) (eV 3)) (aJ (fj (eV 3) (eD (vL 8)) (eD (vL 7)))
  (fB (eV 5) (eD (vL 8)))) fA)
noncomputable def q66 (G:Orc):Fs:=(aJ (aT 7 (eIx (eV 5) (eD (vL 6))))
  (aJ (j7 (fun i j=>i+j) 6 (eD (kD (.int 1))))
  (aJ (fT (gE (eCl G 2 (ay (eD (vL 7)) bV))) (dB (eC y53 (ay (eV 3) (ay (eD (vL 7)) bV)))) fA)
  (g5 (eCl G 1 (ay (eD (vL 7)) bV)) (ggN 8) (y64 G) 100000))))
def z64 (G:Orc):Ft:=(iR (e2 (l7 fun i j=>decide (i<j)) (eD (vL 6)) (eB db (ay (eV 5) bV))))
def z51 (G:Orc):Fd:=gx 9 ((aJ (aT 3 eNT)
  (aJ (lm (fIt (vL 0)) [4] (aG 4) (q65 G))
  (aJ (aT 5 (eLT (eV 3)))
  (aJ (aT 6 (eD (kD (.int 0))))
  (aJ (bI (z64 G) (q66 G) 100000)
  (dB (eD (kD .non)))))))))
def z40:De->Option Bool:=(o4 (jk (toD (d2 aw (vB 0) (kD (.int 2))))))
def y39:De->Option Dt:=(toD (d2 aw (vB 0) (kD (.int 0))))
def z15:List Dt->Option T:=gv 1 ((dh (br [none] (fIt (toD (d2 bG (toD (d2 aw (vB 0) (kD (.int 0)))) (toD (d2 aw (vB 0) (kD (.int 1))))))) (aG 0) z40 y39)))
noncomputable def q21:List Dt->Option T:=gv 3 ((bq (sIf (dX (tB2 (gEq false) (vB 0) (kD dk)) (dX (tB2 (cw false) (toD (d2 aw (vB 1) (kD (.int 0)))) (toD (bB (ae (kD (.str "load")) (ae (kD (.str "take")) ao))))) (tB2 (gEq false) (toD (d2 aw (vB 1) (kD (.int 2)))) (vB 2)))) (dh (toT (kD kd))) el)
  (bq (sIf (dX (tB2 (gEq false) (vB 0) (kD dk)) (dX (tB2 (gEq false) (toD (d2 aw (vB 1) (kD (.int 0)))) (kD (.str "store"))) (tB2 (gEq false) (toD (d2 aw (vB 1) (kD (.int 1)))) (vB 2)))) (dh (toT (kD mq))) el)
  (bq (sIf (dX (tB2 (gEq false) (vB 0) (kD kd)) (dX (tB2 (cw false) (toD (d2 aw (vB 1) (kD (.int 0)))) (toD (bB (ae (kD (.str "store")) (ae (kD (.str "lay")) ao))))) (tB2 (gEq false) (toD (d2 aw (vB 1) (kD (.int 1)))) (vB 2)))) (dh (toT (kD iA))) el)
  (qE 0)))))
def z36:De->Option Dt:=(toD (bB (ae (vL 0) (ae (vL 1) ao))))
noncomputable def bv:De->Option Out:=(bq (bC 1 (toT (toD (au q21 (ae (toD (d2 aw (vB 0) (kD (.int 1)))) (ae (toD (d2 aw (vB 3) (toD (d2 aw (vB 0) (kD (.int 0)))))) (ae (vL 2) ao)))))))
  (dh (vIf (tB2 (gEq false) (vB 1) (kD mq)) (cN ao) (br [none,some 1] (fIt (toD (d2 aw (vB 4) (toD (d2 aw (vB 0) (kD (.int 0))))))) (aG 0) bU z36))))
def bw:De->Option Out:=(dh (d2 (gEq false) (toD (au q21 (ae (toD (d2 aw (vB 0) (kD (.int 1)))) (ae (toD (d2 aw (vB 2) (toD (d2 aw (vB 0) (kD (.int 0)))))) (ae (vL 1) ao))))) (kD iA)))
def y42:De->Option Dt:=(toD (bB (ae (vL 0) (ae (kD dk) ao))))
def q43:Fg:=(eD (toD (br [none] (fIt (toD (d2 bG (toD (cN (ae (kD (.int 0)) ao))) (toD (au z18 (ae (vL 1) ao)))))) (aG 0) bU y42)))
def y54:Fg:=(eD (toD (d2 aw (vB 0) (kD (.int 0)))))
noncomputable def y19:Fd:=gx 8 ((aJ (fT (tD (tB2 (cw true) (vB 2) (toD (au z15 (ae (vL 0) ao))))) (dB (eD (kD .non))) fA)
  (aJ (aT 3 (eD (toD (d2 aw (vB 0) (kD (.int 2))))))
  (aJ (aT 4 (eD (toD (au q20 (ae (vL 0) (ae (vL 1) ao))))))
  (fun δ ch=>(aJ (aT 7 (fRt [2,3,4] [2,3] ["place","mark","name","rows","inner"] ["place","name","rows"] bv bw q43 z51))
  (dB (eIf (iR (e2 (gIs false) (eV 7) (eD (kD .non)))) (eD (kD .non)) (jZ [none] (eV 7) 0 qZ y54 100000)))) (j4 5 6 δ) ch)))))
noncomputable def q23:De->Option Bool:=(dX (tB2 (cw false) (toD (d2 aw (toD (d2 aw (vB 2) (vB 0))) (kD (.int 0)))) (toD (bB (ae (kD (.str "load")) (ae (kD (.str "take")) ao))))) (tB2 (gEq false) (toD (d2 aw (toD (d2 aw (vB 2) (vB 0))) (kD (.int 2)))) (vB 1)))
noncomputable def y22:De->Option Bool:=(dX (tB2 (cw false) (toD (d2 aw (toD (d2 aw (vB 2) (vB 0))) (kD (.int 0)))) (toD (bB (ae (kD (.str "store")) (ae (kD (.str "lay")) ao))))) (tB2 (gEq false) (toD (d2 aw (toD (d2 aw (vB 2) (vB 0))) (kD (.int 1)))) (vB 1)))
noncomputable def q22:De->Option Out:=(bq (sIf (tB2 (cw false) (vB 6) (vB 1)) (bC 5 (toT (vL 6))) el)
  (sIf (dX (tB2 (cw false) (toD (d2 aw (toD (d2 aw (vB 0) (vB 6))) (kD (.int 0)))) (toD (bB (ae (kD (.str "store")) (ae (kD (.str "lay")) ao))))) (tB2 (gEq false) (toD (d2 aw (toD (d2 aw (vB 0) (vB 6))) (kD (.int 1)))) (vB 2))) (bq (bC 7 (toT (toD (vSl (vB 0) (dA (vB 5)) (dA (vB 6))))))
  (bq (bC 8 (toT (toD (br [none,some 2,some 7] (gU iN (ae (toD (au db (ae (vB 7) ao))) ao)) (aG 0) q23 (vL 0)))))
  (bq (bC 9 (toT (toD (br [none,some 2,some 7] (gU iN (ae (toD (au db (ae (vB 7) ao))) ao)) (aG 0) y22 (vL 0)))))
  (sIf (dX (tB2 (gEq true) (vB 8) (toD (cN ao))) (fOr (jk (vB 3)) (fOr (tB2 (gEq false) (vB 9) (toD (cN ao))) (tB2 (l7 fun i j=>decide (i<j)) (toD (d2 aw (vB 8) (kD (.int 0)))) (toD (d2 aw (vB 9) (kD (.int 0)))))))) (z29 4 (toD (bB (ae (vL 5) (ae (vL 6) ao))))) el)))) el))
def z22:List Dt->Option T:=gv 10 ((bq (bC 4 (cN ao))
  (bq (bC 5 (toT (kD (.int 0))))
  (bq (sg (gU iN (ae (toD (au db (ae (vB 0) ao))) ao)) (aG 6) q22)
  (qE 4)))))
def z26:List Dt->Option T:=gv 1 ((dh (m7 (toD (k9 "int" (vB 0))) (zH (toD (k9 "bool" (vB 0)))))))
def y27:De->Option Dt:=(toD (au z26 (ae (vL 0) ao)))
noncomputable def z14:List Dt->Option T:=gv 6 ((bq (bC 5 (toT (toD (au z22 (ae (vL 0) (ae (toD (br [none,none] (fIt (toD (d2 aw (vB 1) (kD (.int 1))))) (m9 2 (dM (aG 0) (dM (aG 1) m8))) bU (vL 0))) (ae (toD (d2 aw (vB 3) (kD (.int 0)))) (ae (vL 4) ao))))))))
  (bq (sIf (fOr (jk (toD (d2 aw (vB 3) (kD (.int 2))))) (tB2 (gEq false) (vB 5) (toD (cN ao)))) (dh (d2 (gIs false) (vB 2) (kD .non))) el)
  (bq (sIf (fOr (o4 (jk (toD (k9 "list" (vB 2))))) (fOr (tB2 (gEq false) (vB 2) (toD (cN ao))) (o4 (jk (toD (au (um fun bs=>bs.all id) (ae (toD (br [none] (fIt (vB 2)) (aG 0) bU y27)) ao))))))) (dh (toT (kD (.bl false)))) el)
  (dh (m7 (toD (d2 (uY false) (toD (bB (ae (toD (d2 aw (vB 2) (kD (.int 0)))) (ae (toD (d2 aw (vB 2) (toD (wC (kD (.int 1)))))) ao)))) (vB 5))) (d2 (gEq false) (vB 2) (toD (au iz (ae (toD (d2 aw (vB 2) (kD (.int 0)))) (ae (toD (d2 bG (toD (d2 aw (vB 2) (toD (wC (kD (.int 1)))))) (kD (.int 1)))) ao)))))))))))
def q52:De->Option Dt:=(toD (bB (ae (vL 0) (ae (kD (.bl false)) ao))))
def y51:De->Option Dt:=(toD (bB (ae (vL 0) (ae (kD (.bl true)) ao))))
noncomputable def q37:Fs:=(aJ (aT 7 (eC y19 (ay (eD (vL 1)) (ay (eD (vL 3)) (ay (eD (toD (d2 aw (vB 5) (kD (.int 0))))) bV)))))
  (aJ (fT (ln (gE (eCV z14 (ay (eD (toD (d2 aw (vB 1) (kD (.int 2))))) (ay (eD (vL 3)) (ay (eV 7) (ay (eD (vL 5)) (ay (eD (vL 6)) bV)))))))) (dB (eD (kD (.bl false)))) fA)
  (aJ (fT (iR (e2 (gIs true) (eV 7) (eD (kD .non)))) (fB (eV 7) (eD (kD (.int 0)))) fA)
  (fT (ln (gE (eCV z14 (ay (eD (toD (d2 aw (vB 1) (kD (.int 2))))) (ay (eD (vL 3)) (ay (eC y19 (ay (eD (vL 1)) (ay (eD (vL 3)) (ay (eD (toD (d2 aw (vB 5) (kD (.int 0))))) bV)))) (ay (eD (vL 5)) (ay (eD (vL 6)) bV)))))))) (dB (eD (kD (.bl false)))) fA))))
noncomputable def uZ:Fd:=gx 8 ((aJ (nF (toD (au z4 (ae (vL 0) ao))) [1,2] (m9 2 (dM (aG 1) (dM (aG 2) m8))))
  (aJ (aT 3 (eD (toD (au q12 (ae (vL 0) (ae (vL 1) (ae (vL 2) ao)))))))
  (aJ (aT 4 (eN (d2 bG (toD (br [none] (fIt (toD (d2 aw (vB 1) (kD (.int 0))))) (aG 0) bU q52)) (toD (br [none] (fIt (toD (d2 aw (vB 1) (kD (.int 1))))) (aG 0) bU y51)))))
  (aJ (fT (tD (tB2 (gEq false) (toD (d2 bM (toD (au y1 (ae (vL 0) (ae (kD (.int 4)) ao)))) (kD (.int 2)))) (kD (.int 1)))) (aT 4 (eLR (eV 4))) fA)
  (aJ (g5 (eV 4) (ggT 2 (d6 (ggN 5) (d6 (ggN 6) lx))) q37 100000)
  (dB (eD (toD (m7 (toD (d2 (gEq false) (vB 1) (toD (d2 aw (toD (au z4 (ae (vL 0) ao))) (kD (.int 0)))))) (d2 (gEq false) (vB 3) (toD (au q12 (ae (vL 0) (ae (vL 1) (ae (vL 2) ao))))))))))))))))
end
structure Txt (P:Program) (w:World) (K:PySem.W.Frag) (mg:Str->Option Value):Prop where
 n_all:mg "all"=none
 n_bool:mg "bool"=none
 n_enumerate:mg "enumerate"=none
 n_int:mg "int"=none
 n_isinstance:mg "isinstance"=none
 n_len:mg "len"=none
 n_list:mg "list"=none
 n_range:mg "range"=none
 n_reversed:mg "reversed"=none
 n_set:mg "set"=none
 n_sorted:mg "sorted"=none
 n_tuple:mg "tuple"=none
 g_FRESH:k8 K mg "FRESH" dk
 g_SAFE:k8 K mg "SAFE" mq
 g_SEEN:k8 K mg "SEEN" kd
 g_SPOILT:k8 K mg "SPOILT" iA
 is:pN K=true
 k_bool:gW K "bool"
 k_int:gW K "int"
 k_list:gW K "list"
section
variable {P:Program} {w:World} {K:PySem.W.Frag} {mg:Str->Option Value} {base:Heap}
abbrev y18:Stmt:=top 16
def q55:FnScope ["_law_script","_law_k"] ["_law_script","_law_k"] (ab y18):=⟨rfl,rfl,rfl,by decide +kernel,rfl,by decide +kernel,by decide +kernel⟩
def cu:d5 (ab y18) ["_law_script","_law_k"]=true:=by decide +kernel
def z45:aF (ab y18) "len"=true:=by decide +kernel
def z55 (T:Txt P w K mg) (D:DefF K mg "_law_cell_at" y18 ["_law_script","_law_k"]):OkF P w K mg base "_law_cell_at" 1 ["_law_script","_law_k"] (spD K 2 y1):=
 eF D q55 rfl fun f cdv A outer s H E hr=>(aA (et (bp tE qJ (ah (pvN 1 cu)) (DO.toB (bW z45 cz ir T.n_len eX (aY (ah (pvN 0 cu)) bt))) (aN _)) (aR (bu (aq hr (ah (pvN 0 cu)) (ah (pvN 1 cu))))) cO)
     (aR (bu (DL.toO ai))))
abbrev z17:Stmt:=top 17
def y23:FnScope ["_law_cell","_law_many","_law_letters","_law_size","_law_word","_law_at"] ["_law_cell","_law_many"] (ab z17):=⟨rfl,rfl,rfl,by decide +kernel,rfl,by decide +kernel,by decide +kernel⟩
def aL:d5 (ab z17) ["_law_cell","_law_many","_law_letters","_law_size","_law_word","_law_at"]=true:=by decide +kernel
def q32:aF (ab z17) "range"=true:=by decide +kernel
def q59 (T:Txt P w K mg) (D:DefF K mg "_law_names" z17 ["_law_cell","_law_many"]):OkF P w K mg base "_law_names" 1 ["_law_cell","_law_many"] (spD K 2 q19):=
 eF D y23 rfl fun f cdv A outer s H E hr=>(aA (aZ (nsN aL 2) (nsL aL 2) y23.nd (DL.toO bi))
     (aA (aZ (nsN aL 3) (nsL aL 3) y23.nd (DL.toO (DO.toL (av bg bN (ah (pvN 0 aL)) (DL.toB ai)))))
     (aA (aZ (nsN aL 4) (nsL aL 4) y23.nd (DL.toO (DO.toL (wF (DL.toB bi) (aY (DO.toB (bZ (M:=["_law_k","_law_cell","_law_letters"]) (src:=[none,some 0,some 2]) (ts:=[0]) (CmpScope.of (by kernel_rfl)) rfl (DIF.toB (dq q32 T.n_range (ag (am (pvN 3 aL)) ap))) (fun nd _ _ _ _=>(aU (aX (N:=["_law_k","_law_cell","_law_letters"]) (i:=0) (by decide +kernel) (by decide +kernel) nd (scC (outer:=ab z17) (by exact rfl))))) (fun _ _ _ _=>cE) (fun _ _ _ _=>(DO.toL (aq hr (ah (pvX (by kernel_rfl))) (DO.toB (av bg bN (DO.toB (av bH dz (DO.toB (av bg bN (DO.toB (av jB nj (ah (pvX (by kernel_rfl))) (DO.toB (av be cj (DL.toB ai) (DO.toB (av jB nj (DL.toB ai) (ah (pvX (by kernel_rfl))))))))) (DL.toB ai))) (DL.toB ai))) (DL.toB ai)))))) (by decide +kernel))) bt)))))
     (aA (aZ (nsN aL 5) (nsL aL 5) y23.nd (DL.toO (DO.toL (av bg bN (DO.toB (av bH dz (ah (pvN 0 aL)) (DL.toB ai))) (DO.toB (av be cj (ah (pvN 3 aL)) (DL.toB ai)))))))
     (aR (bu (bZ (M:=["_law_k","_law_cell","_law_letters","_law_word","_law_at"]) (src:=[none,some 0,some 2,some 4,some 5]) (ts:=[0]) (CmpScope.of (by kernel_rfl)) rfl (DIF.toB (dq q32 T.n_range (ag (am (pvN 1 aL)) ap))) (fun nd _ _ _ _=>(aU (aX (N:=["_law_k","_law_cell","_law_letters","_law_word","_law_at"]) (i:=0) (by decide +kernel) (by decide +kernel) nd (scC (outer:=ab z17) (by exact rfl))))) (fun _ _ _ _=>cE) (fun _ _ _ _=>(DO.toL (av be cj (DO.toB (av be cj (DO.toB (eG (ah (pvX (by kernel_rfl))) jx (dN (ah (pvX (by kernel_rfl)))))) (DO.toB (aq hr (ah (pvX (by kernel_rfl))) (DO.toB (av bg bN (DO.toB (av be cj (DO.toB (av bH dz (ah (pvX (by kernel_rfl))) (DL.toB ai))) (ah (pvX (by kernel_rfl))))) (DL.toB ai))))))) (DO.toB (eG (ah (pvX (by kernel_rfl))) (dN (ah (pvX (by kernel_rfl)))) jx))))) (by decide +kernel))))))))
abbrev q14:Stmt:=top 20
def y3:FnScope ["_law_script","_law_things","_law_bits","_law_cells","_law_shelves","_law_boxes","_law_rows","_law_cell","_law_number","_law_x","_law_name","_law_some"] ["_law_script"] (ab q14):=⟨rfl,rfl,rfl,by decide +kernel,rfl,by decide +kernel,by decide +kernel⟩
def ac:d5 (ab q14) ["_law_script","_law_things","_law_bits","_law_cells","_law_shelves","_law_boxes","_law_rows","_law_cell","_law_number","_law_x","_law_name","_law_some"]=true:=by decide +kernel
def z13:aF (ab q14) "_law_cell_at"=true:=by decide +kernel
def y45:aF (ab q14) "int"=true:=by decide +kernel
def q24:aF (ab q14) "_law_names"=true:=by decide +kernel
def y47:aF (ab q14) "len"=true:=by decide +kernel
def y41:aF (ab q14) "tuple"=true:=by decide +kernel
def q54 (T:Txt P w K mg) (D:DefF K mg "_law_program" q14 ["_law_script"]) (y2:OkF P w K mg base "_law_cell_at" 1 ["_law_script","_law_k"] (spD K 2 (y1))) (z31:OkF P w K mg base "_law_names" 1 ["_law_cell","_law_many"] (spD K 2 (q19))):OkF P w K mg base "_law_program" 2 ["_law_script"] (spD K 1 z4):=
 eF D y3 rfl fun f cdv A outer s H E hr=>(aA (aZ (nsN ac 1) (nsL ac 1) y3.nd (DL.toO (DO.toL (aK q24 z31 (hr.mono (by decide)) (ag (DO.toL (aK z13 y2 (hr.mono (by decide)) (ag (am (pvN 0 ac)) (ag (DO.toL (fP y45 sk Bx T.n_int tW (aY (DO.toB (dy Bh qJ (DO.toB (av bg bN (DO.toB (aK z13 y2 (hr.mono (by decide)) (ag (am (pvN 0 ac)) (ag ai ap)))) (DL.toB ai))) (DL.toB ai) (aN _))) bt))) ap)))) (ag ai ap))))))
     (aA (aZ (nsN ac 2) (nsL ac 2) y3.nd (DL.toO (DO.toL (aK z13 y2 (hr.mono (by decide)) (ag (am (pvN 0 ac)) (ag ai ap))))))
     (aA (aZ (nsN ac 3) (nsL ac 3) y3.nd (DL.toO (DO.toL (aQ (ag (DO.toL (aQ (ag (DO.toL (aq hr (ah (pvN 1 ac)) (DL.toB ai))) (ag ai (ag (DO.toL (dy (bc hr) cP (DO.toB (av bg bN (ah (pvN 2 ac)) (DL.toB ai))) (DL.toB ai) (aN _))) ap))))) (ag (DO.toL (aQ (ag (DO.toL (aq hr (ah (pvN 1 ac)) (DL.toB ai))) (ag ai (ag (DO.toL (dy (bc hr) cP (DO.toB (av bg bN (ah (pvN 2 ac)) (DL.toB ai))) (DL.toB ai) (aN _))) ap))))) ap))))))
     (aA (aZ (nsN ac 4) (nsL ac 4) y3.nd (DL.toO (DO.toL (aQ (ag (DO.toL (aQ (ag (DO.toL (aq hr (ah (pvN 1 ac)) (DL.toB ai))) (ag (DO.toL (av be cj (DL.toB ai) (DO.toB (av bg bN (DO.toB (av bH dz (ah (pvN 2 ac)) (DL.toB ai))) (DL.toB ai))))) (ag (DO.toL (dy (bc hr) cP (DO.toB (av bg bN (DO.toB (av bH dz (ah (pvN 2 ac)) (DL.toB ai))) (DL.toB ai))) (DL.toB ai) (aN _))) ap))))) (ag (DO.toL (aQ (ag (DO.toL (aq hr (ah (pvN 1 ac)) (DL.toB ai))) (ag ai (ag (DO.toL (dy (bc hr) cP (DO.toB (av bg bN (DO.toB (av bH dz (ah (pvN 2 ac)) (DL.toB ai))) (DL.toB ai))) (DL.toB ai) (aN _))) ap))))) ap))))))
     (aA (aZ (nsN ac 5) (nsL ac 5) y3.nd (DL.toO (DO.toL (aK q24 z31 (hr.mono (by decide)) (ag (DO.toL (aK z13 y2 (hr.mono (by decide)) (ag (am (pvN 0 ac)) (ag ai ap)))) (ag (DO.toL (av be cj (DL.toB ai) (DO.toB (av bg bN (DO.toB (aK z13 y2 (hr.mono (by decide)) (ag (am (pvN 0 ac)) (ag ai ap)))) (DL.toB ai))))) ap))))))
     (aA (aZ (nsN ac 6) (nsL ac 6) y3.nd (b9 ap))
     (aA (pd PassesOwn.never rfl (ug (DO.toL (eG (ah (pvN 0 ac)) (dN (DL.toB ai)) (dN (DL.toB ai))))) (aU (cB (nsN ac 7) (nsL ac 7) y3.nd)) (aA (aZ (nsN ac 8) (nsL ac 8) y3.nd (DL.toO (DO.toL (av bH dz (DO.toB (av bg bN (DO.toB (av jB nj (ah (pvN 7 ac)) (DL.toB ai))) (DL.toB ai))) (DL.toB ai)))))
     (aA (aZ (nsN ac 9) (nsL ac 9) y3.nd (DL.toO (DO.toL (aq hr (ah (pvN 5 ac)) (DO.toB (av bg bN (ah (pvN 8 ac)) (DO.toB (bW y47 cz ir T.n_len eX (aY (ah (pvN 5 ac)) bt)))))))))
     (aA (aZ (nsN ac 10) (nsL ac 10) y3.nd (DL.toO (DO.toL (aq hr (ah (pvN 1 ac)) (DO.toB (av bg bN (DO.toB (av bH dz (ah (pvN 8 ac)) (DL.toB ai))) (DL.toB ai)))))))
     (aA (aZ (nsN ac 11) (nsL ac 11) y3.nd (DL.toO (DO.toL (b9 (ag (DO.toL (aQ (ag bi (ag (am (pvN 9 ac)) (ag (am (pvN 10 ac)) ap))))) (ag (DO.toL (aQ (ag bi (ag (am (pvN 10 ac)) (ag (am (pvN 9 ac)) ap))))) (ag (DO.toL (aQ (ag bi (ag (am (pvN 9 ac)) (ag (DO.toL (aq hr (ah (pvN 1 ac)) (DO.toB (av be cj (DL.toB ai) (DO.toB (av bg bN (DO.toB (av bH dz (ah (pvN 8 ac)) (DL.toB ai))) (DL.toB ai))))))) (ag (DO.toL (av bg bN (DO.toB (av bH dz (ah (pvN 8 ac)) (DL.toB ai))) (DL.toB ai))) ap)))))) ap)))))))
     (aA (aZ (nsN ac 11) (nsL ac 11) y3.nd (DL.toO (DO.toL (av be cj (ah (pvN 11 ac)) (DO.toB (b9 (ag (DO.toL (aQ (ag bi (ag (DO.toL (aq hr (ah (pvN 1 ac)) (DO.toB (av be cj (DL.toB ai) (DO.toB (av bg bN (DO.toB (av bH dz (ah (pvN 8 ac)) (DL.toB ai))) (DL.toB ai))))))) (ag (am (pvN 9 ac)) (ag ai ap)))))) (ag (DO.toL (aQ (ag bi (ag (am (pvN 9 ac)) (ag (am (pvN 8 ac)) ap))))) (ag (DO.toL (aQ (ag bi (ag (am (pvN 9 ac)) ap)))) ap)))))))))
     (aR (iP (pvN 6 ac) (DO.toL (aq hr (ah (pvN 11 ac)) (DO.toB (aq hr (DO.toB (b9 (ag ai (ag ai (ag ai (ag ai (ag ai (ag ai (ag ai (ag ai ap)))))))))) (DO.toB (av bg bN (ah (pvN 7 ac)) (DL.toB ai)))))))))))))))
     (aR (bu (aQ (ag (DO.toL (aQ (ag (am (pvN 3 ac)) (ag (am (pvN 4 ac)) (ag (DO.toL (fP y41 cV jy T.n_tuple ib (aY (DO.toB (av be cj (ah (pvN 6 ac)) (DO.toB (b9 (ag (DO.toL (aQ (ag bi (ag ai ap)))) ap))))) bt))) ap))))) (ag (am (pvN 5 ac)) ap))))))))))))
abbrev y12:Stmt:=top 19
def z16:FnScope ["_law_script","_law_program_here","_law_boxes","_law_share","_law_keeps","_law_at","_law_number","_law_begin"] ["_law_script","_law_program_here","_law_boxes"] (ab y12):=⟨rfl,rfl,rfl,by decide +kernel,rfl,by decide +kernel,by decide +kernel⟩
def ak:d5 (ab y12) ["_law_script","_law_program_here","_law_boxes","_law_share","_law_keeps","_law_at","_law_number","_law_begin"]=true:=by decide +kernel
def q17:aF (ab y12) "_law_cell_at"=true:=by decide +kernel
def z21:aF (ab y12) "sorted"=true:=by decide +kernel
def q47:aF (ab y12) "set"=true:=by decide +kernel
def q25:aF (ab y12) "len"=true:=by decide +kernel
def q41:aF (ab y12) "range"=true:=by decide +kernel
def y21:aF (ab y12) "tuple"=true:=by decide +kernel
def z54 (T:Txt P w K mg) (D:DefF K mg "_law_cutting" y12 ["_law_script","_law_program_here","_law_boxes"]) (y2:OkF P w K mg base "_law_cell_at" 1 ["_law_script","_law_k"] (spD K 2 (y1))):OkF P w K mg base "_law_cutting" 2 ["_law_script","_law_program_here","_law_boxes"] (spD K 3 q12):=
 eF D z16 rfl fun f cdv A outer s H E hr=>(aA (aZ (nsN ak 3) (nsL ak 3) z16.nd (DL.toO (DO.toL (aq hr (DO.toB (b9 (ag ai (ag ai (ag ai (ag ai ap)))))) (DO.toB (av bg bN (DO.toB (aK q17 y2 (hr.mono (by decide)) (ag (am (pvN 0 ak)) (ag ai ap)))) (DL.toB ai)))))))
     (aA (aZ (nsN ak 2) (nsL ak 2) z16.nd (DL.toO (DO.toL (pJ z21 q47 rfl T.n_sorted T.n_set (aY (DO.toB (av be cj (ah (pvN 2 ak)) (DO.toB (b9 (ag (DO.toL (aq hr (DO.toB (aq hr (DO.toB (aq hr (ah (pvN 1 ak)) (DL.toB ai))) (DL.toB ai))) (DL.toB ai))) (ag bi ap)))))) bt)))))
     (aA (aZ (nsN ak 4) (nsL ak 4) z16.nd (b9 ap))
     (aA (pd PassesOwn.never rfl (dq q41 T.n_range (ag (DO.toL (bW q25 cz ir T.n_len eX (aY (DO.toB (aq hr (ah (pvN 1 ak)) (DL.toB ai))) bt))) ap)) (aU (cB (nsN ak 5) (nsL ak 5) z16.nd)) (aA (aZ (nsN ak 6) (nsL ak 6) z16.nd (DL.toO (DO.toL (av bg bN (DO.toB (av jB nj (DO.toB (av be cj (DO.toB (av bH dz (DO.toB (aK q17 y2 (hr.mono (by decide)) (ag (am (pvN 0 ak)) (ag ai ap)))) (DL.toB ai))) (DO.toB (av jB nj (DL.toB ai) (ah (pvN 5 ak)))))) (DL.toB ai))) (DL.toB ai)))))
     (aR (et (bp (bc hr) cP (DO.toB (av bg bN (DO.toB (av bH dz (ah (pvN 6 ak)) (DL.toB ai))) (ah (pvN 3 ak)))) (DL.toB ai) (aN _)) (aR (iP (pvN 4 ak) (DO.toL (aQ (ag (am (pvN 5 ak)) (ag (DO.toL (fP y21 cV jy T.n_tuple ib (aY (DO.toB (bW z21 ix nN T.n_sorted kX (aY (DO.toB (eG (ah (pvN 2 ak)) jx (dN (DO.toB (av bg bN (DO.toB (av bH dz (ah (pvN 6 ak)) (DL.toB ai))) (DO.toB (av be cj (DO.toB (bW q25 cz ir T.n_len eX (aY (ah (pvN 2 ak)) bt))) (DL.toB ai)))))))) bt))) bt))) ap)))))) cO))))
     (aA (aZ (nsN ak 7) (nsL ak 7) z16.nd (DL.toO (DO.toL (fP y21 cV jy T.n_tuple ib (aY (DO.toB (bW z21 ix nN T.n_sorted kX (aY (DO.toB (eG (ah (pvN 2 ak)) jx (dN (DO.toB (av bg bN (DO.toB (av bH dz (DO.toB (aK q17 y2 (hr.mono (by decide)) (ag (am (pvN 0 ak)) (ag ai ap)))) (DL.toB ai))) (DO.toB (av be cj (DO.toB (bW q25 cz ir T.n_len eX (aY (ah (pvN 2 ak)) bt))) (DL.toB ai)))))))) bt))) bt)))))
     (aR (bu (aQ (ag (am (pvN 7 ak)) (ag (DO.toL (fP y21 cV jy T.n_tuple ib (aY (ah (pvN 4 ak)) bt))) ap))))))))))
abbrev z24:Stmt:=top 11
def z61:FnScope ["code"] ["code"] (ab z24):=⟨rfl,rfl,rfl,by decide +kernel,rfl,by decide +kernel,by decide +kernel⟩
def mr:d5 (ab z24) ["code"]=true:=by decide +kernel
def y61 (T:Txt P w K mg) (D:DefF K mg "kept_rows" z24 ["code"]):OkF P w K mg base "kept_rows" 1 ["code"] (spD K 1 z18):=
 eF D z61 rfl fun f cdv A outer s H E hr=>(aR (bu (bZ (M:=["keep"]) (src:=[none]) (ts:=[0]) (CmpScope.of (by kernel_rfl)) rfl (cX (DO.toB (aq hr (ah (pvN 0 mr)) (DL.toB ai)))) (fun nd _ _ _ _=>(aU (aX (N:=["keep"]) (i:=0) (by decide +kernel) (by decide +kernel) nd (scC (outer:=ab z24) (by exact rfl))))) (fun _ _ _ _=>cE) (fun _ _ _ _=>(DO.toL (aq hr (ah (pvX (by kernel_rfl))) (DL.toB ai)))) (by decide +kernel))))
abbrev y34:Stmt:=top 1
def z63:FnScope ["number","row"] ["number","row"] (ab y34):=⟨rfl,rfl,rfl,by decide +kernel,rfl,by decide +kernel,by decide +kernel⟩
def cx:d5 (ab y34) ["number","row"]=true:=by decide +kernel
def q64 (T:Txt P w K mg) (D:DefF K mg "ways_of" y34 ["number","row"]):OkF P w K mg base "ways_of" 1 ["number","row"] (spD K 2 q35):=
 eF D z63 rfl fun f cdv A outer s H E hr=>(aA (et (bp (bc hr) cP (DO.toB (aq hr (ah (pvN 1 cx)) (DL.toB ai))) (DL.toB bi) (aN _)) (aR (bu (aQ (ag (DO.toL (aq hr (ah (pvN 1 cx)) (DL.toB ai))) ap)))) cO)
     (aA (et (bp (bc hr) cP (DO.toB (aq hr (ah (pvN 1 cx)) (DL.toB ai))) (DL.toB bi) (aN _)) (aR (bu (aQ (ag (DO.toL (aq hr (ah (pvN 1 cx)) (DL.toB ai))) (ag (DO.toL (av be cj (ah (pvN 0 cx)) (DL.toB ai))) ap))))) cO)
     (aA (et (bp (bc hr) cP (DO.toB (aq hr (ah (pvN 1 cx)) (DL.toB ai))) (DL.toB bi) (aN _)) (aR (bu (aQ ap))) cO)
     (aR (bu (aQ (ag (DO.toL (av be cj (ah (pvN 0 cx)) (DL.toB ai))) ap)))))))
abbrev fm:Stmt:=top 2
def q67:FnScope ["program"] ["program"] (ab fm):=⟨rfl,rfl,rfl,by decide +kernel,rfl,by decide +kernel,by decide +kernel⟩
def xb:d5 (ab fm) ["program"]=true:=by decide +kernel
def y52:aF (ab fm) "enumerate"=true:=by decide +kernel
def y67 (T:Txt P w K mg) (D:DefF K mg "ways" fm ["program"]) (y48:OkF P w K mg base "ways_of" 1 ["number","row"] (spD K 2 (q35))):OkF P w K mg base "ways" 2 ["program"] (spD K 1 ke):=
 eF D q67 rfl fun f cdv A outer s H E hr=>(aR (bu (bZ (M:=["number","row"]) (src:=[none,none]) (ts:=[0,1]) (CmpScope.of (by kernel_rfl)) rfl (DIF.toB (ma y52 T.n_enumerate (ag (DO.toL (aq hr (ah (pvN 0 xb)) (DL.toB ai))) ap))) (fun nd _ _ _ _=>(pb rfl (ev (aU (aX (N:=["number","row"]) (i:=0) (by decide +kernel) (by decide +kernel) nd (scC (outer:=ab fm) (by exact rfl)))) (ev (aU (aX (N:=["number","row"]) (i:=1) (by decide +kernel) (by decide +kernel) nd (scC (outer:=ab fm) (by exact rfl)))) l5)))) (fun _ _ _ _=>cE) (fun _ _ _ _=>(DO.toL (aK (by decide +kernel) y48 (hr.mono (by decide)) (ag (am (pvX (by kernel_rfl))) (ag (am (pvX (by kernel_rfl))) ap)) (e1:=(scC (outer:=ab fm) rfl))))) (by decide +kernel))))
abbrev y15:Stmt:=top 12
def q45:FnScope ["program","code","kept"] ["program","code"] (ab y15):=⟨rfl,rfl,rfl,by decide +kernel,rfl,by decide +kernel,by decide +kernel⟩
def cY:d5 (ab y15) ["program","code","kept"]=true:=by decide +kernel
def q39:aF (ab y15) "kept_rows"=true:=by decide +kernel
def z49:aF (ab y15) "ways"=true:=by decide +kernel
def z60 (T:Txt P w K mg) (D:DefF K mg "inner_ways" y15 ["program","code"]) (y24:OkF P w K mg base "kept_rows" 1 ["code"] (spD K 1 (z18))) (h_ways:OkF P w K mg base "ways" 2 ["program"] (spD K 1 (ke))):OkF P w K mg base "inner_ways" 3 ["program","code"] (spD K 2 q20):=
 eF D q45 rfl fun f cdv A outer s H E hr=>(aA (aZ (nsN cY 2) (nsL cY 2) q45.nd (DL.toO (DO.toL (aK q39 y24 (hr.mono (by decide)) (ag (am (pvN 1 cY)) ap)))))
     (aR (bu (bZ (M:=["onward","kept"]) (src:=[none,some 2]) (ts:=[0]) (CmpScope.of (by kernel_rfl)) rfl (cX (DO.toB (aK z49 h_ways (hr.mono (by decide)) (ag (am (pvN 0 cY)) ap)))) (fun nd _ _ _ _=>(aU (aX (N:=["onward","kept"]) (i:=0) (by decide +kernel) (by decide +kernel) nd (scC (outer:=ab y15) (by exact rfl))))) (fun _ _ _ _=>cE) (fun _ _ _ _=>(DO.toL (bZ (M:=["way","kept"]) (src:=[none,some 1]) (ts:=[0]) (CmpScope.of (by kernel_rfl)) rfl (cX (ah (pvX (by kernel_rfl)))) (fun nd _ _ _ _=>(aU (aX (N:=["way","kept"]) (i:=0) (by decide +kernel) (by decide +kernel) nd (scC (scC (outer:=ab y15) (by exact rfl)))))) (fun _ _ _ _=>jw (ny hr (ah (pvX (by kernel_rfl))) (ah (pvX (by kernel_rfl))))) (fun _ _ _ _=>(am (pvX (by kernel_rfl)))) (by decide +kernel)))) (by decide +kernel)))))
abbrev y29:Stmt:=top 3
def q40:FnScope ["came_from","last","places","here"] ["came_from","last"] (ab y29):=⟨rfl,rfl,rfl,by decide +kernel,rfl,by decide +kernel,by decide +kernel⟩
def bj:d5 (ab y29) ["came_from","last","places","here"]=true:=by decide +kernel
def q57:aF (ab y29) "list"=true:=by decide +kernel
def q51:aF (ab y29) "reversed"=true:=by decide +kernel
def y65 (T:Txt P w K mg) (D:DefF K mg "traced" y29 ["came_from","last"]):OkF P w K mg base "traced" 1 ["came_from","last"] (spG K 2 (y53)):=
 wK D q40 rfl fun f cdv A outer s H E hr=>(aS (cR (nsN bj 2) (nsL bj 2) q40.nd (uv (b9 ap)))
     (aS (cR (nsN bj 3) (nsL bj 3) q40.nd (aE (am (pvN 1 bj))))
     (aS (nJ 100000 PassesOwn.never (px (bp qj qK (ah (pvN 3 bj)) (DL.toB fN) (aN _))) (aS (iS (bQ (pvN 2 bj)) (aE (am (pvN 3 bj))))
     (cg (cR (nsN bj 3) (nsL bj 3) q40.nd (Ae T.is hr (bQ (pvN 0 bj)) (aE (am (pvN 3 bj))))))))
     (cg (fS (j5 q57 q51 T.n_list T.n_reversed rfl (bQ (pvN 2 bj))))))))
abbrev z30:Stmt:=top 4
def y25:FnScope ["starts","behind","fits","came_from","start","queue","looked","here","there"] ["starts","behind","fits"] (ab z30):=⟨rfl,rfl,rfl,by decide +kernel,rfl,by decide +kernel,by decide +kernel⟩
def az:d5 (ab z30) ["starts","behind","fits","came_from","start","queue","looked","here","there"]=true:=by decide +kernel
def q61:aF (ab z30) "list"=true:=by decide +kernel
def q62:aF (ab z30) "len"=true:=by decide +kernel
def z56:aF (ab z30) "traced"=true:=by decide +kernel
def z66 (T:Txt P w K mg) (D:DefF K mg "route" z30 ["starts","behind","fits"]) (z53:OkF P w K mg base "traced" 1 ["came_from","last"] (spG K 2 (y53))):OkF P w K mg base "route" 3 ["starts","behind","fits"] (spR P w K mg base 2 3 z51):=
 wW D y25 rfl fun f cdv A outer s H E hr G hG=>(aS (cR (nsN az 3) (nsL az 3) y25.nd wO)
     (aS (zQ PassesOwn.never rfl (ug (am (pvN 0 az))) (aU (cB (nsN az 4) (nsL az 4) y25.nd)) (cg (ri T.is hr (bQ (pvN 3 az)) (aE (am (pvN 4 az))) (aE fN))))
     (aS (cR (nsN az 5) (nsL az 5) y25.nd (uF q61 rfl T.n_list jt (bQ (pvN 3 az))))
     (aS (cR (nsN az 6) (nsL az 6) y25.nd (aE ai))
     (aS (nJ 100000 PassesOwn.never (pz tE qJ (aE (am (pvN 6 az))) (uy q62 cz ir T.n_len eX (bf (bQ (pvN 5 az)) fR)) (aN _)) (aS (cR (nsN az 7) (nsL az 7) y25.nd (BB hr (bQ (pvN 5 az)) (aE (am (pvN 6 az)))))
     (aS (w4 (nsN az 6) (nsL az 6) y25.nd (aE ai))
     (aS (jO (jP (ra (pvN 2 az) hG (hr.mono (by decide)) (bf (aE (am (pvN 7 az))) fR)) (fun _=>rfl)) (cg (fS (md z56 z53 (hr.mono (by decide)) (bf (bQ (pvN 3 az)) (bf (aE (am (pvN 7 az))) fR)) (y14 (y14 jQ))))) gZ)
     (cg (qV 100000 PassesOwn.never rfl (ra (pvN 1 az) hG (hr.mono (by decide)) (bf (aE (am (pvN 7 az))) fR)) (me (cB (nsN az 8) (nsL az 8) y25.nd)) (cg (jO (Ah T.is hr (aE (am (pvN 8 az))) (bQ (pvN 3 az))) (aS (ri T.is hr (bQ (pvN 3 az)) (aE (am (pvN 8 az))) (aE (am (pvN 7 az))))
     (cg (iS (bQ (pvN 5 az)) (aE (am (pvN 8 az)))))) gZ))))))))
     (cg (fS (aE fN))))))))
abbrev y20:Stmt:=top 10
def z58:FnScope ["program"] ["program"] (ab y20):=⟨rfl,rfl,rfl,by decide +kernel,rfl,by decide +kernel,by decide +kernel⟩
def fW:d5 (ab y20) ["program"]=true:=by decide +kernel
def y57 (T:Txt P w K mg) (D:DefF K mg "plain_names" y20 ["program"]):OkF P w K mg base "plain_names" 1 ["program"] (spD K 1 z15):=
 eF D z58 rfl fun f cdv A outer s H E hr=>(aR (bu (bZ (M:=["head"]) (src:=[none]) (ts:=[0]) (CmpScope.of (by kernel_rfl)) rfl (cX (DO.toB (av be cj (DO.toB (aq hr (ah (pvN 0 fW)) (DL.toB ai))) (DO.toB (aq hr (ah (pvN 0 fW)) (DL.toB ai)))))) (fun nd _ _ _ _=>(aU (aX (N:=["head"]) (i:=0) (by decide +kernel) (by decide +kernel) nd (scC (outer:=ab y20) (by exact rfl))))) (fun _ _ _ _=>jw (o5 (fO (DO.toB (aq hr (ah (pvX (by kernel_rfl))) (DL.toB ai))) (fun _=>rfl)))) (fun _ _ _ _=>(DO.toL (aq hr (ah (pvX (by kernel_rfl))) (DL.toB ai)))) (by decide +kernel))))
abbrev q15:Stmt:=top 13
def z57:FnScope ["mark","row","name"] ["mark","row","name"] (ab q15):=⟨rfl,rfl,rfl,by decide +kernel,rfl,by decide +kernel,by decide +kernel⟩
def aH:d5 (ab q15) ["mark","row","name"]=true:=by decide +kernel
def y31:aF (ab q15) "FRESH"=true:=by decide +kernel
def y32:aF (ab q15) "SEEN"=true:=by decide +kernel
def y46:aF (ab q15) "SAFE"=true:=by decide +kernel
def y40:aF (ab q15) "SPOILT"=true:=by decide +kernel
def y58 (T:Txt P w K mg) (D:DefF K mg "mark_behind" q15 ["mark","row","name"]):OkF P w K mg base "mark_behind" 1 ["mark","row","name"] (spD K 3 q21):=
 eF D z57 rfl fun f cdv A outer s H E hr=>(aA (et (DW.t (dY (bp (bc hr) cP (ah (pvN 0 aH)) (DL.toB (di y31 T.g_FRESH)) (aN _)) (dY (lc hr (DO.toB (aq hr (ah (pvN 1 aH)) (DL.toB ai))) (DO.toB (aQ (ag bi (ag bi ap))))) (eZ (bp (bc hr) cP (DO.toB (aq hr (ah (pvN 1 aH)) (DL.toB ai))) (ah (pvN 2 aH)) (aN _)))))) (aR (bu (DL.toO (di y32 T.g_SEEN)))) cO)
     (aA (et (DW.t (dY (bp (bc hr) cP (ah (pvN 0 aH)) (DL.toB (di y31 T.g_FRESH)) (aN _)) (dY (bp (bc hr) cP (DO.toB (aq hr (ah (pvN 1 aH)) (DL.toB ai))) (DL.toB bi) (aN _)) (eZ (bp (bc hr) cP (DO.toB (aq hr (ah (pvN 1 aH)) (DL.toB ai))) (ah (pvN 2 aH)) (aN _)))))) (aR (bu (DL.toO (di y46 T.g_SAFE)))) cO)
     (aA (et (DW.t (dY (bp (bc hr) cP (ah (pvN 0 aH)) (DL.toB (di y32 T.g_SEEN)) (aN _)) (dY (lc hr (DO.toB (aq hr (ah (pvN 1 aH)) (DL.toB ai))) (DO.toB (aQ (ag bi (ag bi ap))))) (eZ (bp (bc hr) cP (DO.toB (aq hr (ah (pvN 1 aH)) (DL.toB ai))) (ah (pvN 2 aH)) (aN _)))))) (aR (bu (DL.toO (di y40 T.g_SPOILT)))) cO)
     (aR (qF (pvN 0 aH))))))
abbrev q13:Stmt:=top 14
def y30:FnScope ["program","code","name","rows","inner","behind","spoils","found"] ["program","code","name"] (ab q13):=⟨rfl,rfl,rfl,by decide +kernel,rfl,by decide +kernel,by decide +kernel⟩
def aO:d5 (ab q13) ["program","code","name","rows","inner","behind","spoils","found"]=true:=by decide +kernel
def z41:aF (ab q13) "plain_names"=true:=by decide +kernel
def z43:aF (ab q13) "inner_ways"=true:=by decide +kernel
def z46:aF (ab q13) "kept_rows"=true:=by decide +kernel
def y55:aF (ab q13) "route"=true:=by decide +kernel
abbrev y13:Stmt:=(aM q13).getD 3 (.Pass ⟨0,0,0,0⟩)
def z23:NsC (ab q13) ["program","code","name","rows","inner","behind","spoils","found"] ["place","mark","name","rows","inner"] ["place"] ["name","rows","inner"] [2,3,4] (ab y13):=NsC.of (by decide +kernel)
def q26:cy (ab y13) ["place","mark","name","rows","inner"] 0 "place"=true:=by decide +kernel
def z34:cy (ab y13) ["place","mark","name","rows","inner"] 1 "mark"=true:=by decide +kernel
def z48:ii (ab y13) "mark"=true:=by decide +kernel
def z50:cy (ab y13) ["place","mark","name","rows","inner"] 2 "name"=true:=by decide +kernel
def q50:cy (ab y13) ["place","mark","name","rows","inner"] 3 "rows"=true:=by decide +kernel
def y50:cy (ab y13) ["place","mark","name","rows","inner"] 4 "inner"=true:=by decide +kernel
def q34:aF (ab y13) "mark_behind"=true:=by decide +kernel
def z42:aF (ab y13) "SAFE"=true:=by decide +kernel
abbrev q18:Stmt:=(aM q13).getD 4 (.Pass ⟨0,0,0,0⟩)
def q30:NsC (ab q13) ["program","code","name","rows","inner","behind","spoils","found"] ["place","name","rows"] ["place"] ["name","rows"] [2,3] (ab q18):=NsC.of (by decide +kernel)
def y35:cy (ab q18) ["place","name","rows"] 0 "place"=true:=by decide +kernel
def y49:cy (ab q18) ["place","name","rows"] 1 "name"=true:=by decide +kernel
def q49:cy (ab q18) ["place","name","rows"] 2 "rows"=true:=by decide +kernel
def z33:aF (ab q18) "mark_behind"=true:=by decide +kernel
def z39:aF (ab q18) "SPOILT"=true:=by decide +kernel
def z65 {c Pt:Addr} (T:Txt P w K mg) (D:DefC K mg "spoilt" q13 ["program","code","name"] c) (B:TabB mg base c Pt) (hT:(Pt,qa "spoilt" (aM q13))∈cI K) (z37:OkF P w K mg base "inner_ways" 3 ["program","code"] (spD K 2 (q20))) (q58:OkF P w K mg base "route" 3 ["starts","behind","fits"] (spR P w K mg base 2 3 z51)) (q36:OkF P w K mg base "plain_names" 1 ["program"] (spD K 1 (z15))) (q29:OkF P w K mg base "mark_behind" 1 ["mark","row","name"] (spD K 3 (q21))) (y24:OkF P w K mg base "kept_rows" 1 ["code"] (spD K 1 (z18))):OkF P w K mg base "spoilt" 4 ["program","code","name"] (spG K 3 (y19)):=
 w6 D y30 rfl fun f A outer s H E hr=>(aS (jO (px (ny hr (ah (pvN 2 aO)) (DO.toB (aK z41 q36 (hr.mono (by decide)) (ag (am (pvN 0 aO)) ap))))) (cg (fS (aE fN))) gZ)
     (aS (cR (nsN aO 3) (nsL aO 3) y30.nd (aE (DO.toL (aq hr (ah (pvN 0 aO)) (DL.toB ai)))))
     (aS (cR (nsN aO 4) (nsL aO 4) y30.nd (aE (DO.toL (aK z43 z37 (hr.mono (by decide)) (ag (am (pvN 0 aO)) (ag (am (pvN 1 aO)) ap))))))
     (uP (i1:=5) (i2:=6) (by decide) (Ai (NX:=["program","code","name","rows","inner","behind","spoils","found"]) rfl) (rj (qual:="spoilt.<locals>.behind") (nsN aO 5) (nsL aO 5) y30.nd z23 B hT (by decide +kernel)) (rj (qual:="spoilt.<locals>.spoils") (nsN aO 6) (nsL aO 6) y30.nd q30 B hT (by decide +kernel))
     (uQ (wZ (nsN aO 7) (nsL aO 7) y30.nd (BF (i1:=5) (i2:=6) q58 (hr.mono (by decide)) (glD y55) (fun _=>rfl) (aE (DO.toL (bZ (M:=["row"]) (src:=[none]) (ts:=[0]) (CmpScope.of (by kernel_rfl)) rfl (cX (DO.toB (av be cj (DO.toB (b9 (ag ai ap))) (DO.toB (aK z46 y24 (hr.mono (by decide)) (ag (am (pvN 1 aO)) ap)))))) (fun nd _ _ _ _=>(aU (aX (N:=["row"]) (i:=0) (by decide +kernel) (by decide +kernel) nd (scC (outer:=ab q13) (by exact rfl))))) (fun _ _ _ _=>cE) (fun _ _ _ _=>(DO.toL (aQ (ag (am (pvX (by kernel_rfl))) (ag (di (by decide +kernel) T.g_FRESH (e1:=(scC (outer:=ab q13) rfl))) ap))))) (by decide +kernel)))) (pvN 5 aO) (pvN 6 aO) (NestD.of z23 (fun s cl doc pm ctv cd us hl=>match us,hl with | [_],_=>.of_eq rfl) fun f c' cl A outer s H hr=>(aA (aZ z34 z48 z23.nd (DL.toO (DO.toL (aK q34 q29 (hr.mono (by decide)) (ag (DO.toL (aq hr (ah (pvD 0 q26)) (DL.toB ai))) (ag (DO.toL (aq hr (ah (pvD 3 q50)) (DO.toB (aq hr (ah (pvD 0 q26)) (DL.toB ai))))) (ag (am (pvD 2 z50)) ap)))))))
     (aR (bu (Bu (bp (bc hr) cP (ah (pvD 1 z34)) (DL.toB (di z42 T.g_SAFE)) (aN _)) (b9 ap) (bZ (M:=["way","mark"]) (src:=[none,some 1]) (ts:=[0]) (CmpScope.of (by kernel_rfl)) rfl (cX (DO.toB (aq hr (ah (pvD 4 y50)) (DO.toB (aq hr (ah (pvD 0 q26)) (DL.toB ai)))))) (fun nd _ _ _ _=>(aU (aX (N:=["way","mark"]) (i:=0) (by decide +kernel) (by decide +kernel) nd (scC (outer:=ab y13) (by exact rfl))))) (fun _ _ _ _=>cE) (fun _ _ _ _=>(DO.toL (aQ (ag (am (pvX (by kernel_rfl))) (ag (am (pvX (by kernel_rfl))) ap))))) (by decide +kernel))))))) (NestD.of q30 (fun s cl doc pm ctv cd us hl=>match us,hl with | [_],_=>.of_eq rfl) fun f c' cl A outer s H hr=>(aR (bu (dy (bc hr) cP (DO.toB (aK z33 q29 (hr.mono (by decide)) (ag (DO.toL (aq hr (ah (pvD 0 y35)) (DL.toB ai))) (ag (DO.toL (aq hr (ah (pvD 2 q49)) (DO.toB (aq hr (ah (pvD 0 y35)) (DL.toB ai))))) (ag (am (pvD 1 y49)) ap))))) (DL.toB (di z39 T.g_SPOILT)) (aN _))))) z23.all q30.all))
     (cg (fS (BD (pz tF r_is (bQ (pvN 7 aO)) (aE fN) (aN _)) (aE fN) (uL 100000 (M:=["place"]) (src:=[none]) (t:=0) (CmpScope.of (by kernel_rfl)) rfl (bQ (pvN 7 aO)) (fun nd _ _ _ _=>(aX (N:=["place"]) (i:=0) (by decide +kernel) (by decide +kernel) nd (scC (outer:=ab q13) (by exact rfl)))) (fun _ _ _ _=>wU) (fun _ _ _ _=>(aE (DO.toL (aq hr (ah (pvX (by kernel_rfl))) (DL.toB ai))))) (by decide +kernel))))))))))
abbrev q16:Stmt:=top 21
def y16:FnScope ["_law_rows","_law_keeps","_law_name","_law_shelf","_law_found","_law_start","_law_at","_law_ahead","_law_first","_law_puts"] ["_law_rows","_law_keeps","_law_name","_law_shelf"] (ab q16):=⟨rfl,rfl,rfl,by decide +kernel,rfl,by decide +kernel,by decide +kernel⟩
def aj:d5 (ab q16) ["_law_rows","_law_keeps","_law_name","_law_shelf","_law_found","_law_start","_law_at","_law_ahead","_law_first","_law_puts"]=true:=by decide +kernel
def y28:aF (ab q16) "len"=true:=by decide +kernel
def z25:aF (ab q16) "range"=true:=by decide +kernel
def y59 (T:Txt P w K mg) (D:DefF K mg "_law_pairs" q16 ["_law_rows","_law_keeps","_law_name","_law_shelf"]):OkF P w K mg base "_law_pairs" 1 ["_law_rows","_law_keeps","_law_name","_law_shelf"] (spD K 4 z22):=
 eF D y16 rfl fun f cdv A outer s H E hr=>(aA (aZ (nsN aj 4) (nsL aj 4) y16.nd (b9 ap))
     (aA (aZ (nsN aj 5) (nsL aj 5) y16.nd (DL.toO ai))
     (aA (pd PassesOwn.never rfl (dq z25 T.n_range (ag (DO.toL (bW y28 cz ir T.n_len eX (aY (ah (pvN 0 aj)) bt))) ap)) (aU (cB (nsN aj 6) (nsL aj 6) y16.nd)) (aA (et (lc hr (ah (pvN 6 aj)) (ah (pvN 1 aj))) (aR (aZ (nsN aj 5) (nsL aj 5) y16.nd (DL.toO (am (pvN 6 aj))))) cO)
     (aR (et (DW.t (dY (lc hr (DO.toB (aq hr (DO.toB (aq hr (ah (pvN 0 aj)) (ah (pvN 6 aj)))) (DL.toB ai))) (DO.toB (aQ (ag bi (ag bi ap))))) (eZ (bp (bc hr) cP (DO.toB (aq hr (DO.toB (aq hr (ah (pvN 0 aj)) (ah (pvN 6 aj)))) (DL.toB ai))) (ah (pvN 2 aj)) (aN _))))) (aA (aZ (nsN aj 7) (nsL aj 7) y16.nd (DL.toO (DO.toL (eG (ah (pvN 0 aj)) (dN (ah (pvN 5 aj))) (dN (ah (pvN 6 aj)))))))
     (aA (nC (nsN aj 8) (nsL aj 8) y16.nd (M:=["_law_k","_law_name","_law_ahead"]) (src:=[none,some 2,some 7]) (ts:=[0]) (CmpScope.of (by kernel_rfl)) rfl (DIF.toB (dq z25 T.n_range (ag (DO.toL (bW y28 cz ir T.n_len eX (aY (ah (pvN 7 aj)) bt))) ap))) (fun nd _ _ _ _=>(aU (aX (N:=["_law_k","_law_name","_law_ahead"]) (i:=0) (by decide +kernel) (by decide +kernel) nd (scC (outer:=ab q16) (by exact rfl))))) (fun _ _ _ _=>jw (DW.t (dY (lc hr (DO.toB (aq hr (DO.toB (aq hr (ah (pvX (by kernel_rfl))) (ah (pvX (by kernel_rfl))))) (DL.toB ai))) (DO.toB (aQ (ag bi (ag bi ap))))) (eZ (bp (bc hr) cP (DO.toB (aq hr (DO.toB (aq hr (ah (pvX (by kernel_rfl))) (ah (pvX (by kernel_rfl))))) (DL.toB ai))) (ah (pvX (by kernel_rfl))) (aN _)))))) (fun _ _ _ _=>(am (pvX (by kernel_rfl)))) (by decide +kernel))
     (aA (nC (nsN aj 9) (nsL aj 9) y16.nd (M:=["_law_k","_law_name","_law_ahead"]) (src:=[none,some 2,some 7]) (ts:=[0]) (CmpScope.of (by kernel_rfl)) rfl (DIF.toB (dq z25 T.n_range (ag (DO.toL (bW y28 cz ir T.n_len eX (aY (ah (pvN 7 aj)) bt))) ap))) (fun nd _ _ _ _=>(aU (aX (N:=["_law_k","_law_name","_law_ahead"]) (i:=0) (by decide +kernel) (by decide +kernel) nd (scC (outer:=ab q16) (by exact rfl))))) (fun _ _ _ _=>jw (DW.t (dY (lc hr (DO.toB (aq hr (DO.toB (aq hr (ah (pvX (by kernel_rfl))) (ah (pvX (by kernel_rfl))))) (DL.toB ai))) (DO.toB (aQ (ag bi (ag bi ap))))) (eZ (bp (bc hr) cP (DO.toB (aq hr (DO.toB (aq hr (ah (pvX (by kernel_rfl))) (ah (pvX (by kernel_rfl))))) (DL.toB ai))) (ah (pvX (by kernel_rfl))) (aN _)))))) (fun _ _ _ _=>(am (pvX (by kernel_rfl)))) (by decide +kernel))
     (aR (et (DW.t (dY (bp (zJ hr) r_ne (ah (pvN 8 aj)) (DO.toB (b9 ap)) (aN _)) (eZ (DW.t (mZ (fO (ah (pvN 3 aj)) (fun _=>rfl)) (mZ (bp (bc hr) cP (ah (pvN 9 aj)) (DO.toB (b9 ap)) (aN _)) (o6 (bp tE qJ (DO.toB (aq hr (ah (pvN 8 aj)) (DL.toB ai))) (DO.toB (aq hr (ah (pvN 9 aj)) (DL.toB ai))) (aN _))))))))) (aR (iP (pvN 4 aj) (DO.toL (aQ (ag (am (pvN 5 aj)) (ag (am (pvN 6 aj)) ap)))))) cO))))) cO))))
     (aR (qF (pvN 4 aj))))))
abbrev y17:Stmt:=top 18
def q60:FnScope ["_law_found"] ["_law_found"] (ab y17):=⟨rfl,rfl,rfl,by decide +kernel,rfl,by decide +kernel,by decide +kernel⟩
def gI:d5 (ab y17) ["_law_found"]=true:=by decide +kernel
def y26:aF (ab y17) "isinstance"=true:=by decide +kernel
def q48:aF (ab y17) "bool"=true:=by decide +kernel
def z52:aF (ab y17) "int"=true:=by decide +kernel
def y60 (T:Txt P w K mg) (D:DefF K mg "_law_whole" y17 ["_law_found"]):OkF P w K mg base "_law_whole" 1 ["_law_found"] (spD K 1 z26):=
 eF D q60 rfl fun f cdv A outer s H E hr=>(aR (bu (o9 (DO.toB (iO y26 z52 T.n_isinstance T.n_int tW T.k_int (ah (pvN 0 gI)))) (o8 (zI (DO.toB (iO y26 q48 T.n_isinstance T.n_bool wm T.k_bool (ah (pvN 0 gI)))))))))
abbrev z12:Stmt:=top 22
def z44:FnScope ["_law_rows","_law_code","_law_found","_law_told","_law_shelf","_law_pairs_here"] ["_law_rows","_law_code","_law_found","_law_told","_law_shelf"] (ab z12):=⟨rfl,rfl,rfl,by decide +kernel,rfl,by decide +kernel,by decide +kernel⟩
def aB:d5 (ab z12) ["_law_rows","_law_code","_law_found","_law_told","_law_shelf","_law_pairs_here"]=true:=by decide +kernel
def y37:aF (ab z12) "_law_pairs"=true:=by decide +kernel
def q53:aF (ab z12) "all"=true:=by decide +kernel
def y38:aF (ab z12) "isinstance"=true:=by decide +kernel
def z35:aF (ab z12) "list"=true:=by decide +kernel
def z47:aF (ab z12) "range"=true:=by decide +kernel
def z59 (T:Txt P w K mg) (D:DefF K mg "_law_right" z12 ["_law_rows","_law_code","_law_found","_law_told","_law_shelf"]) (z38:OkF P w K mg base "_law_pairs" 1 ["_law_rows","_law_keeps","_law_name","_law_shelf"] (spD K 4 (z22))) (q38:OkF P w K mg base "_law_whole" 1 ["_law_found"] (spD K 1 (z26))):OkF P w K mg base "_law_right" 2 ["_law_rows","_law_code","_law_found","_law_told","_law_shelf"] (spD K 5 z14):=
 eF D z44 rfl fun f cdv A outer s H E hr=>(aA (aZ (nsN aB 5) (nsL aB 5) z44.nd (DL.toO (DO.toL (aK y37 z38 (hr.mono (by decide)) (ag (am (pvN 0 aB)) (ag (DO.toL (bZ (M:=["_law_at","_law_boxes"]) (src:=[none,none]) (ts:=[0,1]) (CmpScope.of (by kernel_rfl)) rfl (cX (DO.toB (aq hr (ah (pvN 1 aB)) (DL.toB ai)))) (fun nd _ _ _ _=>(pb rfl (ev (aU (aX (N:=["_law_at","_law_boxes"]) (i:=0) (by decide +kernel) (by decide +kernel) nd (scC (outer:=ab z12) (by exact rfl)))) (ev (aU (aX (N:=["_law_at","_law_boxes"]) (i:=1) (by decide +kernel) (by decide +kernel) nd (scC (outer:=ab z12) (by exact rfl)))) l5)))) (fun _ _ _ _=>cE) (fun _ _ _ _=>(am (pvX (by kernel_rfl)))) (by decide +kernel))) (ag (DO.toL (aq hr (ah (pvN 3 aB)) (DL.toB ai))) (ag (am (pvN 4 aB)) ap))))))))
     (aA (et (DW.t (mZ (fO (DO.toB (aq hr (ah (pvN 3 aB)) (DL.toB ai))) (fun _=>rfl)) (o6 (bp (bc hr) cP (ah (pvN 5 aB)) (DO.toB (b9 ap)) (aN _))))) (aR (bu (dy tF r_is (ah (pvN 2 aB)) (DL.toB fN) (aN _)))) cO)
     (aA (et (DW.t (mZ (o5 (fO (DO.toB (iO y38 z35 T.n_isinstance T.n_list jt T.k_list (ah (pvN 2 aB)))) (fun _=>rfl))) (mZ (bp (bc hr) cP (ah (pvN 2 aB)) (DO.toB (b9 ap)) (aN _)) (o6 (o5 (fO (DO.toB (bW q53 (tV rfl) (Bw (f:=fun bs=>bs.all id)) T.n_all zC (aY (DO.toB (bZ (M:=["_law_at"]) (src:=[none]) (ts:=[0]) (CmpScope.of (by kernel_rfl)) rfl (cX (ah (pvN 2 aB))) (fun nd _ _ _ _=>(aU (aX (N:=["_law_at"]) (i:=0) (by decide +kernel) (by decide +kernel) nd (scC (outer:=ab z12) (by exact rfl))))) (fun _ _ _ _=>cE) (fun _ _ _ _=>(DO.toL (aK (by decide +kernel) q38 (hr.mono (by decide)) (ag (am (pvX (by kernel_rfl))) ap) (e1:=(scC (outer:=ab z12) rfl))))) (by decide +kernel))) bt))) (fun _=>rfl))))))) (aR (bu (DL.toO mY))) cO)
     (aR (bu (o9 (DO.toB (dy (Aj hr rfl) (BH false) (DO.toB (aQ (ag (DO.toL (aq hr (ah (pvN 2 aB)) (DL.toB ai))) (ag (DO.toL (aq hr (ah (pvN 2 aB)) (DO.toB (ul (DL.toB ai))))) ap)))) (ah (pvN 5 aB)) (by with_unfolding_all rfl))) (o8 (dy (bc hr) cP (ah (pvN 2 aB)) (DO.toB (pP z35 z47 T.n_list T.n_range rfl (ag (DO.toL (aq hr (ah (pvN 2 aB)) (DL.toB ai))) (ag (DO.toL (av be cj (DO.toB (aq hr (ah (pvN 2 aB)) (DO.toB (ul (DL.toB ai))))) (DL.toB ai))) ap)))) (aN _)))))))))
abbrev c7:Stmt:=top 23
def sc_law:FnScope ["_law_script","_law_program_here","_law_boxes","_law_code","_law_things","_law_told","_law_shelf","_law_found"] ["_law_script"] (ab c7):=⟨rfl,rfl,rfl,by decide +kernel,rfl,by decide +kernel,by decide +kernel⟩
def aC:d5 (ab c7) ["_law_script","_law_program_here","_law_boxes","_law_code","_law_things","_law_told","_law_shelf","_law_found"]=true:=by decide +kernel
def z32:aF (ab c7) "_law_program"=true:=by decide +kernel
def q33:aF (ab c7) "_law_cutting"=true:=by decide +kernel
def q46:aF (ab c7) "_law_cell_at"=true:=by decide +kernel
def y62:aF (ab c7) "list"=true:=by decide +kernel
def q56:aF (ab c7) "reversed"=true:=by decide +kernel
def y44:aF (ab c7) "spoilt"=true:=by decide +kernel
def y36:aF (ab c7) "_law_right"=true:=by decide +kernel
def Ak {f:Addr} {fd:FuncData} (T:Txt P w K mg) (D:Fun K "law" "law" c7 f fd) (q28:OkF P w K mg base "_law_program" 2 ["_law_script"] (spD K 1 (z4))) (z27:OkF P w K mg base "_law_cutting" 2 ["_law_script","_law_program_here","_law_boxes"] (spD K 3 (q12))) (y43:OkF P w K mg base "spoilt" 4 ["program","code","name"] (spG K 3 (y19))) (y2:OkF P w K mg base "_law_cell_at" 1 ["_law_script","_law_k"] (spD K 2 (y1))) (q31:OkF P w K mg base "_law_right" 2 ["_law_rows","_law_code","_law_found","_law_told","_law_shelf"] (spD K 5 (z14))):FnOk P w K mg base CX0 5 f fd ["_law_script"] (spG K 1 uZ):=
 uw D sc_law rfl fun cdv A outer s H E hr=>(aS (zP (DO.toL (aK z32 q28 (hr.mono (by decide)) (ag (am (pvN 0 aC)) ap))) (pb rfl (ev (aU (cB (nsN aC 1) (nsL aC 1) sc_law.nd)) (ev (aU (cB (nsN aC 2) (nsL aC 2) sc_law.nd)) l5))))
     (aS (cR (nsN aC 3) (nsL aC 3) sc_law.nd (aE (DO.toL (aK q33 z27 (hr.mono (by decide)) (ag (am (pvN 0 aC)) (ag (am (pvN 1 aC)) (ag (am (pvN 2 aC)) ap)))))))
     (aS (cR (nsN aC 4) (nsL aC 4) sc_law.nd (uv (av be cj (DO.toB (bZ (M:=["_law_told"]) (src:=[none]) (ts:=[0]) (CmpScope.of (by kernel_rfl)) rfl (cX (DO.toB (aq hr (ah (pvN 1 aC)) (DL.toB ai)))) (fun nd _ _ _ _=>(aU (aX (N:=["_law_told"]) (i:=0) (by decide +kernel) (by decide +kernel) nd (scC (outer:=ab c7) (by exact rfl))))) (fun _ _ _ _=>cE) (fun _ _ _ _=>(DO.toL (aQ (ag (am (pvX (by kernel_rfl))) (ag mY ap))))) (by decide +kernel))) (DO.toB (bZ (M:=["_law_told"]) (src:=[none]) (ts:=[0]) (CmpScope.of (by kernel_rfl)) rfl (cX (DO.toB (aq hr (ah (pvN 1 aC)) (DL.toB ai)))) (fun nd _ _ _ _=>(aU (aX (N:=["_law_told"]) (i:=0) (by decide +kernel) (by decide +kernel) nd (scC (outer:=ab c7) (by exact rfl))))) (fun _ _ _ _=>cE) (fun _ _ _ _=>(DO.toL (aQ (ag (am (pvX (by kernel_rfl))) (ag mY ap))))) (by decide +kernel))))))
     (aS (jO (px (bp (bc hr) cP (DO.toB (av bg bN (DO.toB (aK q46 y2 (hr.mono (by decide)) (ag (am (pvN 0 aC)) (ag ai ap)))) (DL.toB ai))) (DL.toB ai) (aN _))) (cg (cR (nsN aC 4) (nsL aC 4) sc_law.nd (j5 y62 q56 T.n_list T.n_reversed rfl (bQ (pvN 4 aC))))) gZ)
     (aS (qV 100000 PassesOwn.never rfl (bQ (pvN 4 aC)) (zW rfl (nO (me (cB (nsN aC 5) (nsL aC 5) sc_law.nd)) (nO (me (cB (nsN aC 6) (nsL aC 6) sc_law.nd)) wQ))) (aS (cR (nsN aC 7) (nsL aC 7) sc_law.nd (md y44 y43 (hr.mono (by decide)) (bf (aE (am (pvN 1 aC))) (bf (aE (am (pvN 3 aC))) (bf (aE (DO.toL (aq hr (ah (pvN 5 aC)) (DL.toB ai)))) fR))) (y14 (y14 (y14 jQ)))))
     (aS (jO (ux (jP (nI y36 q31 (hr.mono (by decide)) (bf (aE (DO.toL (aq hr (ah (pvN 1 aC)) (DL.toB ai)))) (bf (aE (am (pvN 3 aC))) (bf (bQ (pvN 7 aC)) (bf (aE (am (pvN 5 aC))) (bf (aE (am (pvN 6 aC))) fR))))) (y14 (y14 (y14 (y14 (y14 jQ)))))) (fun _=>rfl))) (cg (fS (aE mY))) gZ)
     (aS (jO (pz qj qK (bQ (pvN 7 aC)) (aE fN) (aN _)) (cg (iS (bQ (pvN 7 aC)) (aE ai))) gZ)
     (cg (jO (ux (jP (nI y36 q31 (hr.mono (by decide)) (bf (aE (DO.toL (aq hr (ah (pvN 1 aC)) (DL.toB ai)))) (bf (aE (am (pvN 3 aC))) (bf (md y44 y43 (hr.mono (by decide)) (bf (aE (am (pvN 1 aC))) (bf (aE (am (pvN 3 aC))) (bf (aE (DO.toL (aq hr (ah (pvN 5 aC)) (DL.toB ai)))) fR))) (y14 (y14 (y14 jQ)))) (bf (aE (am (pvN 5 aC))) (bf (aE (am (pvN 6 aC))) fR))))) (y14 (y14 (y14 (y14 (y14 jQ)))))) (fun _=>rfl))) (cg (fS (aE mY))) gZ))))))
     (cg (fS (aE (DO.toL (o9 (DO.toB (dy (bc hr) cP (ah (pvN 1 aC)) (DO.toB (aq hr (DO.toB (aK z32 q28 (hr.mono (by decide)) (ag (am (pvN 0 aC)) ap))) (DL.toB ai))) (aN _))) (o8 (dy (bc hr) cP (ah (pvN 3 aC)) (DO.toB (aK q33 z27 (hr.mono (by decide)) (ag (am (pvN 0 aC)) (ag (am (pvN 1 aC)) (ag (am (pvN 2 aC)) ap))))) (aN _)))))))))))))
end
end P33
namespace L2
open PySem PySem.Spec PyProof.Rows
def u1 {acc:List Str} {k x:Str}:x∈kF acc k↔x∈acc∨x=k:=by
 unfold kF
 split
 · rename_i h
   exact ⟨.inl,fun z=>z.elim id fun e=>e▸h⟩
 · simp
def fX {x:Str}:∀ {ss acc:List Str},x∈ss.foldl kF acc↔x∈acc∨x∈ss
 | [],acc=>by simp
 | s::ss,acc=>by
  rw [List.foldl_cons,fX,u1,List.mem_cons,or_assoc]
def onces_mem {ss:List Str} {x:Str}:x∈dE ss↔x∈ss:=by
 unfold dE
 rw [fX]
 simp
def pQ {acc:List Str} {k:Str} (h:acc.Nodup):(kF acc k).Nodup:=by
 unfold kF
 split
 · exact h
 · rename_i hk
   rw [List.nodup_append]
   exact ⟨h,by simp,fun a ha b hb e=>hk (by rw [List.mem_singleton.mp hb] at e;exact e▸ha)⟩
def eO:∀ {ss acc:List Str},acc.Nodup->(ss.foldl kF acc).Nodup
 | [],acc,h=>h
 | s::ss,acc,h=>by
  rw [List.foldl_cons]
  exact eO (pQ h)
def nZ (ss:List Str):(dE ss).Nodup:=eO List.nodup_nil
def eQ {α:Type} [DecidableEq α]:∀ {l m:List α},l.Nodup->(∀ x∈l,x∈m)->l.length<=m.length
 | [],m,_,_=>Nat.zero_le _
 | a::l,m,h,hs=>by
  obtain ⟨h1,h2⟩:=List.nodup_cons.mp h
  have ha:a∈m:=hs a (.head _)
  have:=eQ (m:=m.erase a) h2 fun x hx=>(List.mem_erase_of_ne (show x≠a from fun e=>h1 (by rw [<- e];exact hx))).mpr (hs x (.tail _ hx))
  rw [List.length_erase_of_mem ha] at this
  have hp:=List.length_pos_of_mem ha
  rw [List.length_cons]
  omega
inductive Atm where
 | nm (x:Str) | vl (i:Int)
inductive Rw where
 | copy (x:Str) (a:Atm) | op (x s:Str) (a b:Atm) | load (x c:Str) | store (c:Str) (a:Atm) | take (x f:Str) (a:Atm) | lay (f:Str) (a b:Atm) | hear (x:Str) | say (a:Atm) | iff (a:Atm) (g:Nat) | go (g:Nat) | fin (a:Atm)
def nms:List Atm->List Str
 | []=>[]
 | .nm x::r=>x::nms r
 | .vl _::r=>nms r
def Rw.outs (n:Nat):Rw->List Nat
 | .go g=>[g] | .iff _ g=>[g,n+1] | .fin _=>[]
 | _=>[n+1]
def Rw.outs_len (r:Rw) (n:Nat):(r.outs n).length<=2:=by cases r<;>simp [Rw.outs]
section
variable {rows:List Rw} {B:List Str} {found:List (List Str)}
end
def gAdd_i {i j:Int}:bG (.int i) (.int j)=some (.leaf (.int (i+j))):=rfl
def Al {x y:Str} (h:x.length+y.length<=sizeLine):bG (.str x) (.str y)=some (.leaf (.str (x++y))):=if_pos h
def mt {l m:List Dt} (h:l.length+m.length<=sizeLine):bG (.lst l) (.lst m)=some (.lst (l++m)):=if_pos h
def u2 {i j:Int} (h:jc i j=true):iq (.int i) (.int j)=some (.leaf (.int (i*j))):=if_pos h
def u3 {j:Int} (h0:0<j) (h1:j<1073741824):ni j=true:=by
 unfold ni
 simp [h0,h1]
def gDiv_i {i j:Int} (h0:0<j) (h1:j<1073741824):da (.int i) (.int j)=some (.leaf (.int (i/j))):=if_pos (u3 h0 h1)
def kf {i j:Int} (h:0<j):bM (.int i) (.int j)=some (.leaf (.int (i%j))):=if_pos h
def gCmp_i {f:Int->Int->Bool} {i j:Int}:l7 f (.int i) (.int j)=some (.leaf (.bl (f i j))):=rfl
def yj {l m:List Dt} (h:(cmpbs l m&&decide (deeps l<=59))=true):eqD (.tup l) (.tup m)=some (peqs l m):=if_pos h
def yk {l m:List Dt} (h:(cmpbs l m&&decide (deeps l<=59))=true):eqD (.lst l) (.lst m)=some (peqs l m):=if_pos h
def mw {neg:Bool} {x y:Dt} {b:Bool} (h:eqD x y=some b):gEq neg x y=some (.leaf (.bl (if neg then !b else b))):=by
 unfold gEq
 rw [h]
 rfl
def gEq_ii {i j:Int}:gEq false (.int i) (.int j)=some (.leaf (.bl (decide (i=j)))):=rfl
def gEq_ss {i j:Str}:gEq false (.str i) (.str j)=some (.leaf (.bl (decide (i=j)))):=rfl
def rn {l:List Dt} {i:Int}:aw (.lst l) (.int i)=(atI l i).map .leaf:=rfl
def yl {l:List Dt} {i:Int}:aw (.tup l) (.int i)=(atI l i).map .leaf:=rfl
def ym {x:Str} {i:Int} (h:x.length<=sizeLine):aw (.str x) (.int i)=(atI x.cps.toList i).map fun c=>.leaf (.str ⟨#[c]⟩):=if_pos h
def BJ {neg:Bool} {x:Dt} {l:List Dt} (h:(bX x&&l.all bX)=true):cw neg x (.lst l)=some (.leaf (.bl (if neg then !(l.any fun y=>eqF y x) else l.any fun y=>eqF y x))):=by
 cases x<;>simp only [cw,gIn,inD]<;>first | rw [if_pos h];rfl | cases h
def gIn_t {neg:Bool} {x:Dt} {l:List Dt} (h:(bX x&&l.all bX)=true):cw neg x (.tup l)=some (.leaf (.bl (if neg then !(l.any fun y=>eqF y x) else l.any fun y=>eqF y x))):=by
 cases x<;>simp only [cw,gIn,inD]<;>first | rw [if_pos h];rfl | cases h
def gLen_l {l:List Dt}:db [.lst l]=some (.leaf (.int l.length)):=rfl
def gLen_t {l:List Dt}:db [.tup l]=some (.leaf (.int l.length)):=rfl
def gInt_b {i:Bool}:wD [.bl i]=some (.leaf (.int (if i then 1 else 0))):=rfl
def BK {l:List Dt}:dZ [.lst l]=some (.leaf (.tup l)):=rfl
def iZ {j:Int} (h:gz j=true):iN [.int j]=some (ce 0 j.toNat):=if_pos h
def c8 {j:Int} (h0:-1000000000<=j) (h1:j<=1000000000):gz j=true:=by
 unfold gz
 simp only [Bool.and_eq_true,decide_eq_true_eq]
 omega
def itD_l {l:List Dt}:itD (.lst l)=some l:=rfl
def itD_t {l:List Dt}:itD (.tup l)=some l:=rfl
def truD_b {b:Bool}:ud (.bl b)=some b:=rfl
def asB_b {b:Bool}:asB (.leaf (.bl b))=some b:=rfl
def asBl_b {b:Bool}:m6 (.bl b)=some b:=rfl
def asI_i {b:Int}:asI (.int b)=some b:=rfl
def small {n:Nat} (h:n<=1000000):n<=sizeLine:=Nat.le_trans h (by decide)
def eR {n:Nat} (h:n<1000000):n<sizeLine:=Nat.lt_of_lt_of_le h (by decide)
def lF {bb:Dt->De->Option De} {ft:De->Option Bool} {fe:De->Option Dt} {δ:De} {f:Dt->Dt}:∀ {ds:List Dt},(∀ d∈ds,∃ δ1,bb d δ=some δ1/\ft δ1=some true/\fe δ1=some (f d))->cJ bb ft fe δ ds=some (ds.map f)
 | [],_=>rfl
 | d::r,h=>by
  obtain ⟨δ1,h1,h2,h3⟩:=h d List.mem_cons_self
  unfold cJ
  rw [h1,Option.bind_some,h2,Option.bind_some,if_pos rfl,h3,Option.bind_some,lF fun e he=>h e (List.mem_cons_of_mem _ he)]
  rfl
def n4 {bb:Dt->De->Option De} {ft:De->Option Bool} {fe:De->Option Dt} {δ:De} {P:Dt->Dt->Prop}:∀ {ds:List Dt},(∀ d∈ds,∃ δ1 y,bb d δ=some δ1/\ft δ1=some true/\fe δ1=some y/\P d y)->∃ ys,cJ bb ft fe δ ds=some ys/\Paired P ds ys
 | [],_=>⟨[],rfl,.nil⟩
 | d::r,h=>by
  obtain ⟨δ1,y,h1,h2,h3,h4⟩:=h d List.mem_cons_self
  obtain ⟨ys,h5,h6⟩:=n4 fun e he=>h e (List.mem_cons_of_mem _ he)
  refine ⟨y::ys,?_,.cons h4 h6⟩
  unfold cJ
  rw [h1,Option.bind_some,h2,Option.bind_some,if_pos rfl,h3,Option.bind_some,h5]
  rfl
def mem_range {lo:Int} {n:Nat} {d:Dt} (h:d∈ce lo n):∃ i:Nat,i<n/\d=.int (lo+i):=by
 unfold ce at h
 obtain ⟨i,hi,rfl⟩:=List.mem_map.mp h
 exact ⟨i,List.mem_range.mp hi,rfl⟩
def sJ {lo:Int} {n:Nat}:(ce lo n).length=n:=by simp [ce]
def i4 {bb:Dt->De->Option De} {g:De->Option Out} {d:Dt} {r:List Dt} {δ δ1 δ2:De} (h1:bb d δ=some δ1) (h2:g δ1=some (.nx δ2)):fQ bb g (d::r) δ=fQ bb g r δ2:=by
 show ((bb d δ).bind fun δ1=>(g δ1).bind fun o=>match o with | .nx δ2=>fQ bb g r δ2 | .ct δ2=>fQ bb g r δ2 | .bk δ2=>some (.nx δ2) | .rt t=>some (.rt t) | .re t δ2=>some (.re t δ2))=_
 rw [h1,Option.bind_some,h2]
 rfl
def cq {α:Type} {l:List α} {k:Nat}:atI l (k:Int)=l[k]?:=by
 unfold atI ixN
 rw [if_pos (by omega)]
 by_cases h:k<l.length
 · rw [if_pos (by omega)]
   simp
 · rw [if_neg (by omega)]
   simp
   omega
def gMul_l {i j:Int} (h1:-1000000000000000000<i) (h2:i<1000000000000000000):iq (.int i) (.int j)=some (.leaf (.int (i*j))):=u2 (ww h1 h2)
def Am {i j:Int} (h1:-1000000000000000000<j) (h2:j<1000000000000000000):iq (.int i) (.int j)=some (.leaf (.int (i*j))):=u2 (wx h1 h2)
def u4 (o:Option Out) (g:De->Option Out):Option Out:=o.bind fun o=>match o with
 | .nx δ'=>g δ'
 | o=>some o
def cG {g1 g2:De->Option Out} {δ:De}:bq g1 g2 δ=u4 (g1 δ) g2:=rfl
def bD {δ:De} {g:De->Option Out}:u4 (some (.nx δ)) g=g δ:=rfl
def BL {t:T} {g:De->Option Out}:u4 (some (.rt t)) g=some (.rt t):=rfl
def u5:Option Out->Option T
 | some (.rt t)=>some t
 | some (.nx _)=>some (.leaf .non)
 | _=>none
def pR {m:Nat} {g:De->Option Out} {ds:List Dt}:gv m g ds=u5 (g (ds.map (fun d=>some (.leaf d))++List.replicate (m-ds.length) none)):=rfl
def B1 {t:T}:u5 (some (.rt t))=some t:=rfl
def gJ {α:Type} (b:Option Bool) (f g:De->Option α) (δ:De):Option α:=b.bind fun b=>if b then f δ else g δ
def dl {α:Type} {f g:De->Option α} {δ:De}:gJ (some true) f g δ=f δ:=rfl
def dm {α:Type} {f g:De->Option α} {δ:De}:gJ (some false) f g δ=g δ:=rfl
def ro {α:Type} {f g:De->Option α} {δ:De} {b:Bool} (h:b=true):gJ (some b) f g δ=f δ:=by subst h;rfl
def rp {α:Type} {f g:De->Option α} {δ:De} {b:Bool} (h:b=false):gJ (some b) f g δ=g δ:=by subst h;rfl
def gK {c:De->Option Bool} {g1 g2:De->Option Out} {δ:De}:sIf c g1 g2 δ=gJ (c δ) g1 g2 δ:=rfl
def vIf_d {c:De->Option Bool} {g1 g2:De->Option T} {δ:De}:vIf c g1 g2 δ=gJ (c δ) g1 g2 δ:=rfl
def kB (b:Bool):De->Option Bool:=fun _=>some b
def kT (b:Bool):De->Option T:=fun _=>some (.leaf (.bl b))
def kB_d {b:Bool} {δ:De}:kB b δ=some b:=rfl
def i5 {f g:De->Option Bool} {δ:De}:dX f g δ=gJ (f δ) g (kB false) δ:=rfl
def fOr_d {f g:De->Option Bool} {δ:De}:fOr f g δ=gJ (f δ) (kB true) g δ:=rfl
def An {f:De->Option Dt} {g:De->Option T} {δ:De}:m7 f g δ=gJ ((f δ).bind m6) g (kT false) δ:=by
 unfold m7 gJ kT
 cases f δ with
 | none=>rfl
 | some d=>rfl
def mkL (ds:List Dt):Option T:=if ds.length<=sizeLine then some (.lst ds) else none
def mkTp (ds:List Dt):Option T:=if ds.length<=sizeLine then some (.leaf (.tup ds)) else none
def cS {ds:List Dt} (h:ds.length<=1000000):mkL ds=some (.lst ds):=if_pos (small h)
def B3 {ds:List Dt} (h:ds.length<=1000000):mkTp ds=some (.leaf (.tup ds)):=if_pos (small h)
def vLst_d {f:De->Option (List Dt)} {δ:De}:cN f δ=(f δ).bind mkL:=rfl
def vTup_d {f:De->Option (List Dt)} {δ:De}:bB f δ=(f δ).bind mkTp:=rfl
def B4 {src:List (Option Nat)} {fi:De->Option (List Dt)} {bb:Dt->De->Option De} {ft:De->Option Bool} {fe:De->Option Dt} {δ:De}:br src fi bb ft fe δ=(fi δ).bind fun ds=>(cJ bb ft fe (dC src δ) ds).bind mkL:=rfl
def xc (l:List Dt) (i:Nat) (δ:De) (d:Dt):Option Out:=if l.length<sizeLine then some (.nx (δ.set i (some (.lst (l++[d]))))) else none
def u6 {i:Nat} {f:De->Option Dt} {δ:De} {l:List Dt} (h:δ[i]?=some (some (.lst l))):z29 i f δ=(f δ).bind (xc l i δ):=by
 unfold z29
 rw [h]
 rfl
def pS (cs:List Nat):Txt.join "" (cs.map fun c=>(⟨#[c]⟩:Str))=⟨cs.toArray⟩:=by
 have e0:("":Str).cps=#[]:=by decide +kernel
 have go:∀ (l:List Nat) (acc:Array Nat),(l.map fun c=>(⟨#[c]⟩:Str)).foldl (fun acc p=>acc++("":Str).cps++p.cps) acc=acc++l.toArray:=by
  intro l
  induction l with
  | nil=>intro acc;simp
  | cons c l ih =>
   intro acc
   rw [List.map_cons,List.foldl_cons,ih,e0]
   simp
 unfold Txt.join Builtin.Str.glued
 cases cs with
 | nil=>rfl
 | cons c r =>
  show (⟨(r.map fun c=>(⟨#[c]⟩:Str)).foldl (fun acc p=>acc++("":Str).cps++p.cps) (#[c]:Array Nat)⟩:Str)=_
  rw [go]
  simp
def mx (cs:List Nat) (h:cs.length<=1000):JoinOk "" (cs.map fun c=>(⟨#[c]⟩:Str))=true:=by
 unfold JoinOk
 have h1:∀ y∈cs.map (fun c=>(⟨#[c]⟩:Str)),y.length<=1:=fun y hy=>by
  obtain ⟨c,_,rfl⟩:=List.mem_map.mp hy
  exact nL _
 rw [StrLaws.joinFits h1 (by rw [List.length_map,show ("":Str).length=0 by decide +kernel];omega)]
 rfl
def fq:∀ ts:List Str,e6 (ts.map .str)=some ts
 | []=>rfl
 | t::r=>by
  show (e6 (r.map .str)).map (t::·)=_
  rw [fq r]
  rfl
def sgD (cs:List Nat):List Dt:=cs.map fun c=>.str ⟨#[c]⟩
def u7 {cs:List Nat} (h:cs.length<=1000):gY (.str "") [.lst (sgD cs)]=some (.leaf (.str ⟨cs.toArray⟩)):=by
 have e:sgD cs=(cs.map fun c=>(⟨#[c]⟩:Str)).map .str:=by unfold sgD;rw [List.map_map];rfl
 show (e6 (sgD cs)).bind _=_
 rw [e,fq,Option.bind_some,if_pos (mx cs h),pS]
def lG:∀ {ds ys:List Dt},Paired (fun _ y=>∃ c:Nat,y=.str ⟨#[c]⟩) ds ys->∃ cs:List Nat,ys=sgD cs/\cs.length=ds.length
 | _,_,.nil=>⟨[],rfl,rfl⟩
 | _,_,.cons ⟨c,e⟩ t=>by
  obtain ⟨cs,e1,e2⟩:=lG t
  exact ⟨c::cs,by rw [e,e1];rfl,by simp [e2]⟩
def Ao {α:Type} {xs:List α} {i:Int} (h0:0<=i) (h1:i<xs.length):∃ v,atI xs i=some v/\v∈xs:=by
 obtain ⟨n,rfl⟩:=Int.eq_ofNat_of_zero_le h0
 have hn:n<xs.length:=by omega
 exact ⟨xs[n],v9 (by simp [hn]),List.getElem_mem hn⟩
def xf (x:Str):x.length=x.cps.toList.length:=by
 show x.cps.size=_
 simp
def xg {x:Str} {i:Int} (hl:x.length<=1000000) (h0:0<=i) (h1:i<x.length):∃ c,aw (.str x) (.int i)=some (.leaf (.str ⟨#[c]⟩))/\c∈x.cps.toList:=by
 obtain ⟨c,e,hm⟩:=Ao (xs:=x.cps.toList) h0 (by rw [<- xf];exact h1)
 refine ⟨c,?_,hm⟩
 rw [ym (small hl),e]
 rfl
def B5 {l m:List Dt} (h:l.length+m.length<=1000000):bG (.lst l) (.lst m)=some (.lst (l++m)):=mt (small h)
def B6 {x:Str}:bX (.str x)=true:=rfl
def eqF_s {x y:Str}:eqF (.str x) (.str y)=decide (x=y):=by
 show (x==y)=_
 rw [Bool.eq_iff_iff]
 simp
def sFor_d {fi:De->Option (List Dt)} {bb:Dt->De->Option De} {g:De->Option Out} {δ:De}:sg fi bb g δ=(fi δ).bind fun ds=>fQ bb g ds δ:=rfl
def atI_0 {α:Type} {l:List α}:atI l 0=l[0]?:=cq (k:=0)
def atI_1 {α:Type} {l:List α}:atI l 1=l[1]?:=cq (k:=1)
def atI_2 {α:Type} {l:List α}:atI l 2=l[2]?:=cq (k:=2)
def atI_3 {α:Type} {l:List α}:atI l 3=l[3]?:=cq (k:=3)
def u8 {δ:Sl} {ch:CH} {i:Nat} {d:Dt} (h:δ[i]?=some (some (.dat d))):(lo δ ch)[i]?=some (some (.leaf d)):=by
 have key:∀ (δ:Sl) (u:List Nat) (i:Nat),δ[i]?=some (some (.dat d))->(loA ch u δ)[i]?=some (some (.leaf d)):=fun δ=>by
  induction δ with
  | nil=>intro u i h;simp at h
  | cons x r ih =>
   intro u i h
   cases i with
   | zero =>
    simp only [List.getElem?_cons_zero,Option.some.injEq] at h
    subst h
    rfl
   | succ i =>
    have h':r[i]?=some (some (.dat d)):=by simpa using h
    cases x with
    | none=>simpa [loA] using ih u i h'
    | some c=>cases c with
     | dat e=>simpa [loA] using ih u i h'
     | ref j=>simpa [loA] using ih (j::u) i h'
     | fn a F0=>simpa [loA] using ih u i h'
 exact key δ [] i h
def lH {δ:Sl} {ch:CH} {i:Nat} {d:Dt} (h:δ[i]?=some (some (.dat d))):vL i (lo δ ch)=some d:=by unfold vL;rw [u8 h]
def lI {δ:Sl} {ch:CH} {i:Nat} {d:Dt} (h:δ[i]?=some (some (.dat d))):vB i (lo δ ch)=some d:=by unfold vB;rw [u8 h];rfl
open PySem
def vH:(Str.ofString "copy"=Str.ofString "store")=False:=eq_false (by decide +kernel)
def Ap:(Str.ofString "copy"=Str.ofString "if")=False:=eq_false (by decide +kernel)
def Aq:(Str.ofString "copy"=Str.ofString "go")=False:=eq_false (by decide +kernel)
def yn:(Str.ofString "copy"=Str.ofString "end")=False:=eq_false (by decide +kernel)
def yo:(Str.ofString "op"=Str.ofString "store")=False:=eq_false (by decide +kernel)
def BM:(Str.ofString "op"=Str.ofString "if")=False:=eq_false (by decide +kernel)
def BN:(Str.ofString "op"=Str.ofString "go")=False:=eq_false (by decide +kernel)
def AW:(Str.ofString "op"=Str.ofString "end")=False:=eq_false (by decide +kernel)
def xh:(Str.ofString "load"=Str.ofString "copy")=False:=eq_false (by decide +kernel)
def Ar:(Str.ofString "load"=Str.ofString "op")=False:=eq_false (by decide +kernel)
def vI:(Str.ofString "load"=Str.ofString "store")=False:=eq_false (by decide +kernel)
def xi:(Str.ofString "load"=Str.ofString "take")=False:=eq_false (by decide +kernel)
def yp:(Str.ofString "load"=Str.ofString "lay")=False:=eq_false (by decide +kernel)
def xj:(Str.ofString "load"=Str.ofString "hear")=False:=eq_false (by decide +kernel)
def yq:(Str.ofString "load"=Str.ofString "say")=False:=eq_false (by decide +kernel)
def As:(Str.ofString "load"=Str.ofString "if")=False:=eq_false (by decide +kernel)
def At:(Str.ofString "load"=Str.ofString "go")=False:=eq_false (by decide +kernel)
def yr:(Str.ofString "load"=Str.ofString "end")=False:=eq_false (by decide +kernel)
def vJ:(Str.ofString "store"=Str.ofString "copy")=False:=eq_false (by decide +kernel)
def yt:(Str.ofString "store"=Str.ofString "op")=False:=eq_false (by decide +kernel)
def vK:(Str.ofString "store"=Str.ofString "load")=False:=eq_false (by decide +kernel)
def vM:(Str.ofString "store"=Str.ofString "take")=False:=eq_false (by decide +kernel)
def xk:(Str.ofString "store"=Str.ofString "lay")=False:=eq_false (by decide +kernel)
def vN:(Str.ofString "store"=Str.ofString "hear")=False:=eq_false (by decide +kernel)
def xl:(Str.ofString "store"=Str.ofString "say")=False:=eq_false (by decide +kernel)
def yu:(Str.ofString "store"=Str.ofString "if")=False:=eq_false (by decide +kernel)
def yv:(Str.ofString "store"=Str.ofString "go")=False:=eq_false (by decide +kernel)
def xm:(Str.ofString "store"=Str.ofString "end")=False:=eq_false (by decide +kernel)
def xn:(Str.ofString "take"=Str.ofString "copy")=False:=eq_false (by decide +kernel)
def Au:(Str.ofString "take"=Str.ofString "op")=False:=eq_false (by decide +kernel)
def xp:(Str.ofString "take"=Str.ofString "load")=False:=eq_false (by decide +kernel)
def vO:(Str.ofString "take"=Str.ofString "store")=False:=eq_false (by decide +kernel)
def yw:(Str.ofString "take"=Str.ofString "lay")=False:=eq_false (by decide +kernel)
def xq:(Str.ofString "take"=Str.ofString "hear")=False:=eq_false (by decide +kernel)
def yx:(Str.ofString "take"=Str.ofString "say")=False:=eq_false (by decide +kernel)
def Av:(Str.ofString "take"=Str.ofString "if")=False:=eq_false (by decide +kernel)
def Aw:(Str.ofString "take"=Str.ofString "go")=False:=eq_false (by decide +kernel)
def yy:(Str.ofString "take"=Str.ofString "end")=False:=eq_false (by decide +kernel)
def yz:(Str.ofString "lay"=Str.ofString "copy")=False:=eq_false (by decide +kernel)
def AX:(Str.ofString "lay"=Str.ofString "op")=False:=eq_false (by decide +kernel)
def yA:(Str.ofString "lay"=Str.ofString "load")=False:=eq_false (by decide +kernel)
def xr:(Str.ofString "lay"=Str.ofString "store")=False:=eq_false (by decide +kernel)
def yB:(Str.ofString "lay"=Str.ofString "take")=False:=eq_false (by decide +kernel)
def yC:(Str.ofString "lay"=Str.ofString "hear")=False:=eq_false (by decide +kernel)
def Ax:(Str.ofString "lay"=Str.ofString "say")=False:=eq_false (by decide +kernel)
def AY:(Str.ofString "lay"=Str.ofString "if")=False:=eq_false (by decide +kernel)
def AZ:(Str.ofString "lay"=Str.ofString "go")=False:=eq_false (by decide +kernel)
def Ay:(Str.ofString "lay"=Str.ofString "end")=False:=eq_false (by decide +kernel)
def vP:(Str.ofString "hear"=Str.ofString "store")=False:=eq_false (by decide +kernel)
def Az:(Str.ofString "hear"=Str.ofString "if")=False:=eq_false (by decide +kernel)
def AA:(Str.ofString "hear"=Str.ofString "go")=False:=eq_false (by decide +kernel)
def yD:(Str.ofString "hear"=Str.ofString "end")=False:=eq_false (by decide +kernel)
def xt:(Str.ofString "say"=Str.ofString "store")=False:=eq_false (by decide +kernel)
def A0:(Str.ofString "say"=Str.ofString "if")=False:=eq_false (by decide +kernel)
def A1:(Str.ofString "say"=Str.ofString "go")=False:=eq_false (by decide +kernel)
def AB:(Str.ofString "say"=Str.ofString "end")=False:=eq_false (by decide +kernel)
def yE:(Str.ofString "if"=Str.ofString "store")=False:=eq_false (by decide +kernel)
def BO:(Str.ofString "if"=Str.ofString "go")=False:=eq_false (by decide +kernel)
def yF:(Str.ofString "go"=Str.ofString "store")=False:=eq_false (by decide +kernel)
def xu:(Str.ofString "end"=Str.ofString "store")=False:=eq_false (by decide +kernel)
def A2:(Str.ofString "end"=Str.ofString "if")=False:=eq_false (by decide +kernel)
def A3:(Str.ofString "end"=Str.ofString "go")=False:=eq_false (by decide +kernel)
section
variable {c f m:Str} {fa fb fe fk fo fx:Fg} {fs:Fgs} {g:Fd} {δ:Sl} {ch ch1 ch2 ch3:CH} {i:Nat} {ns:List Str} {l cs:List CV} {x v w:CV} {d:Dt} {o o':CO}
def u9 (h4:fs δ ch=some (cs,ch2)):eC g fs δ ch=g cs ch2:=by
 unfold eC
 rw [h4,Option.bind_some]
def AC (h1:fa δ ch=some (.ref i,ch1)) (h2:fb δ ch1=some (.dat d,ch2)) (ho:ch2[i]?=some o) (hx:ixO o d=some x):eIx fa fb δ ch=some (x,ch2):=by
 unfold eIx
 rw [h1,Option.bind_some]
 dsimp only
 rw [h2,Option.bind_some]
 simp only [ho,Option.bind_some,hx,Option.map_some]
def vc {g:Dt->Dt->Option T} {y z:Dt} {t:T} (h1:fa δ ch=some (x,ch1)) (h2:fb δ ch1=some (v,ch2)) (hx:vw ch2 x=some y) (hv:vw ch2 v=some z) (hg:g y z=some t):e2 g fa fb δ ch=al ch2 t:=by
 unfold e2
 rw [h1,Option.bind_some]
 dsimp only
 rw [h2,Option.bind_some]
 simp only [hx,hv,Option.bind_some,hg]
def BP {g:List Dt->Option T} {ds:List Dt} {t:T} (h1:fs δ ch=some (cs,ch1)) (h2:vws ch1 cs=some ds) (h3:g ds=some t):eB g fs δ ch=al ch1 t:=by
 unfold eB
 rw [h1,Option.bind_some]
 dsimp only
 rw [h2,Option.bind_some,h3,Option.bind_some]
def AD {g:List Dt->Option T} {ds:List Dt} {e:Dt} (h1:fs δ ch=some (cs,ch1)) (h2:vws ch1 cs=some ds) (h3:g ds=some (.leaf e)) (h4:qO (.leaf e)=some (.leaf e):=by rfl):eCV g fs δ ch=some (.dat e,ch1):=by
 unfold eCV
 rw [h1,Option.bind_some]
 dsimp only
 rw [h2,Option.bind_some,h3,Option.bind_some,h4]
 rfl
def iB {fd:De->Option Dt} (h:fd (lo δ ch)=some d):eD fd δ ch=some (.dat d,ch):=by
 unfold eD
 rw [h]
 rfl
def n5 {ft:De->Option Bool} {b:Bool} (h:ft (lo δ ch)=some b):tD ft δ ch=some (b,ch):=by
 unfold tD
 rw [h]
 rfl
def dP (h:δ[i]?=some (some v)):eV i δ ch=some (v,ch):=by
 unfold eV
 rw [h]
def bO (h:fa δ ch=some (v,ch1)):aT i fa δ ch=some (.nx (δ.set i (some v)) ch1):=by
 unfold aT
 rw [h]
 rfl
def fY (h:fa δ ch=some (v,ch1)):dB fa δ ch=some (.rt v ch1):=by
 unfold dB
 rw [h]
 rfl
def n6 {b:Bool} (h:fa δ ch=some (.dat (.bl b),ch1)):gE fa δ ch=some (b,ch1):=by
 unfold gE
 rw [h]
 rfl
def vd {i:Nat} (hl:i<δ.length):mgS [i] δ ((lo δ ch).set i (some (.leaf d)))=δ.set i (some (.dat d)):=by
 have h2:(lo δ ch).length=δ.length:=gk ch [] δ
 apply List.ext_getElem?
 intro j
 unfold mgS
 rw [List.getElem?_mapIdx]
 by_cases e:i=j
 · subst e
   rw [List.getElem?_set_self hl,gQ hl,List.getElem?_set_self (by rw [h2];exact hl)]
   simp
 · rw [gN e,gN e]
   have e':¬ j=i:=fun z=>e z.symm
   cases h:δ[j]? with
   | none=>rfl
   | some x=>simp [e']
def xw {i:Nat} {g:Fs} {r:List Dt} {δ2:Sl} (hl:i<δ.length) (h:g (δ.set i (some (.dat d))) ch=some (.nx δ2 ch2)):nG [i] (aG i) g (d::r) δ ch=nG [i] (aG i) g r δ2 ch2:=by
 show ((aG i d (lo δ ch)).bind fun δ1=>(g (mgS [i] δ δ1) ch).bind fun o=>_)=_
 unfold aG
 rw [Option.bind_some,vd hl,h]
 rfl
end
def Atm.d:Atm->Dt
 | .nm x=>.str x
 | .vl i=>.int i
noncomputable def Rw.d:Rw->Dt
 | .copy x a=>.tup [.str "copy",.str x,a.d]
 | .op x s a b=>.tup [.str "op",.str x,.str s,a.d,b.d]
 | .load x c=>.tup [.str "load",.str x,.str c]
 | .store c a=>.tup [.str "store",.str c,a.d]
 | .take x f a=>.tup [.str "take",.str x,.str f,a.d]
 | .lay f a b=>.tup [.str "lay",.str f,a.d,b.d]
 | .hear x=>.tup [.str "hear",.str x]
 | .say a=>.tup [.str "say",a.d]
 | .iff a g=>.tup [.str "if",a.d,.int g]
 | .go g=>.tup [.str "go",.int g]
 | .fin a=>.tup [.str "end",a.d]
def dI (j:Nat):Dt:=.int (j:Int)
def dR (rows:List Rw):Dt:=.tup (rows.map Rw.d)
def bJ {α:Type} {bb:Dt->De->Option De} {ft:De->Option Bool} {fe:De->Option Dt} {δ:De} {f h:α->Dt}:∀ {l:List α},(∀ a∈l,∃ δ1,bb (f a) δ=some δ1/\ft δ1=some true/\fe δ1=some (h a))->cJ bb ft fe δ (l.map f)=some (l.map h)
 | [],_=>rfl
 | a::l,q=>by
  obtain ⟨δ1,h1,h2,h3⟩:=q a List.mem_cons_self
  rw [List.map_cons]
  unfold cJ
  rw [h1,Option.bind_some,h2,Option.bind_some,if_pos rfl,h3,Option.bind_some,bJ fun e he=>q e (List.mem_cons_of_mem _ he)]
  rfl
def dG {α:Type} {bb:Dt->De->Option De} {ft:De->Option Bool} {fe:De->Option Dt} {δ:De} {f h:α->Dt} {p:α->Bool}:∀ {l:List α},(∀ a∈l,∃ δ1,bb (f a) δ=some δ1/\ft δ1=some (p a)/\(p a=true->fe δ1=some (h a)))->cJ bb ft fe δ (l.map f)=some ((l.filter p).map h)
 | [],_=>rfl
 | a::l,q=>by
  obtain ⟨δ1,h1,h2,h3⟩:=q a List.mem_cons_self
  have ih:=dG (l:=l) fun e he=>q e (List.mem_cons_of_mem _ he)
  rw [List.map_cons]
  unfold cJ
  rw [h1,Option.bind_some,h2,Option.bind_some]
  cases hp:p a with
  | true =>
   rw [if_pos rfl,h3 hp,Option.bind_some,ih,List.filter_cons_of_pos hp]
   rfl
  | false =>
   rw [if_neg (by simp),ih,List.filter_cons_of_neg (by simp [hp])]
def sK {α:Type} {f:α->Dt}:∀ (l:List α) (i:Nat),dO i (l.map f)=(l.mapIdx fun k a=>Dt.tup [.int ((i+k:Nat):Int),f a])
 | [],_=>rfl
 | a::l,i=>by
  rw [List.map_cons,dO,sK l (i+1),List.mapIdx_cons]
  congr 1
  congr 1
  funext k a
  rw [show i+1+k=i+(k+1) by omega]
def kg {α:Type} {bb:Dt->De->Option De} {fe:De->Option Dt} {δ:De} {f:α->Dt} {h:Nat->α->Dt}:∀ {l:List α} (i:Nat),(∀ k a,∃ δ1,bb (.tup [.int ((k:Nat):Int),f a]) δ=some δ1/\fe δ1=some (h k a))->cJ bb bU fe δ (dO i (l.map f))=some (l.mapIdx fun k a=>h (i+k) a)
 | [],_,_=>rfl
 | a::l,i,q=>by
  obtain ⟨δ1,h1,h3⟩:=q i a
  rw [List.map_cons,dO]
  unfold cJ
  rw [h1,Option.bind_some]
  show ((fe δ1).bind fun y=>_)=_
  rw [h3,Option.bind_some,kg (i+1) q,List.mapIdx_cons]
  show some _=some _
  congr 1
  congr 1
  congr 1
  funext k a
  rw [show i+1+k=i+(k+1) by omega]
def my (l:List Str):(l.map Dt.str).all bX=true:=by
 rw [List.all_eq_true]
 intro x hx
 obtain ⟨y,_,rfl⟩:=List.mem_map.mp hx
 rfl
def xx (l:List Str) (x:Str):((l.map Dt.str).any fun y=>eqF y (.str x))=decide (x∈l):=by
 induction l with
 | nil=>rfl
 | cons a l ih =>
  rw [List.map_cons,List.any_cons,ih,show eqF (.str a) (.str x)=decide (a=x) from rfl]
  by_cases h:a=x
  · simp [h]
  · have:¬ x=a:=fun z=>h z.symm
    simp [h,this]
def n8 {neg:Bool} {l:List Str} {x:Str}:cw neg (.str x) (.lst (l.map .str))=some (.leaf (.bl (if neg then !decide (x∈l) else decide (x∈l)))):=by
 rw [BJ (by rw [my];rfl),xx]
def n9 {l:List Str} (h:l.length<64):eM [.lst (l.map .str)]=some (.lst ((dg (dE l)).map .str)):=by
 unfold eM
 dsimp only
 rw [fq,Option.bind_some,if_pos h]
def pT {l:List Str} (h:l.length<64):dj [.lst (l.map .str)]=some (.lst ((dg l).map .str)):=by
 unfold dj
 dsimp only
 rw [fq,Option.bind_some,if_pos h]
section
variable {ch:CH} {fi:Nat} {refs:List Nat} {found:List (List Str)}
def xy {ch g:CH} {i:Nat} {o:CO} (h:ch[i]?=some o):(ch++g)[i]?=some o:=by
 rw [List.getElem?_append_left (gX h).1]
 exact h
end
def aI {g1 g2:Fs} {δ δ1:Sl} {ch ch1:CH} (h:g1 δ ch=some (.nx δ1 ch1)):aJ g1 g2 δ ch=g2 δ1 ch1:=by
 unfold aJ
 rw [h]
 rfl
def oe {g1 g2:Fs} {δ:Sl} {ch ch1:CH} {c:CV} (h:g1 δ ch=some (.rt c ch1)):aJ g1 g2 δ ch=some (.rt c ch1):=by
 unfold aJ
 rw [h]
 rfl
def rq {c:Ft} {g1 g2:Fs} {δ:Sl} {ch ch1:CH} {b:Bool} (h:c δ ch=some (b,ch1)):fT c g1 g2 δ ch=if b then g1 δ ch1 else g2 δ ch1:=by
 unfold fT
 rw [h]
 rfl
def kh {c:Ft} {g1 g2:Fs} {δ:Sl} {ch ch1:CH} (h:c δ ch=some (true,ch1)):fT c g1 g2 δ ch=g1 δ ch1:=by
 rw [rq h,if_pos rfl]
def i6 {c:Ft} {g1 g2:Fs} {δ:Sl} {ch ch1:CH} (h:c δ ch=some (false,ch1)):fT c g1 g2 δ ch=g2 δ ch1:=by
 rw [rq h,if_neg (by simp)]
def ki {c:Ft} {g:Fs} {n:Nat} {δ δ1:Sl} {ch ch1 ch2:CH} (h:c δ ch=some (true,ch1)) (hg:g δ ch1=some (.nx δ1 ch2)):bI c g (n+1) δ ch=bI c g n δ1 ch2:=by
 show ((c δ ch).bind fun p=>_)=_
 rw [h,Option.bind_some]
 dsimp only
 rw [if_pos rfl,hg]
 rfl
def oh {c:Ft} {g:Fs} {n:Nat} {δ:Sl} {ch ch1:CH} (h:c δ ch=some (false,ch1)):bI c g (n+1) δ ch=some (.nx δ ch1):=by
 show ((c δ ch).bind fun p=>_)=_
 rw [h,Option.bind_some]
 rfl
def jz {m:Nat} {g:Fs} {cs:List CV} {ch ch':CH} {c:CV} (h:g (cs.map some++List.replicate (m-cs.length) none) ch=some (.rt c ch')):gx m g cs ch=some (c,ch'):=by
 unfold gx
 rw [h]
end L2
local macro_rules | `(tactic| walk_at "k") => `(tactic| simp -implicitDefEqProofs only [L2.pR, L2.B1, L2.cG, L2.bD, L2.BL, L2.el, L2.bC, L2.dh, L2.qE, L2.gK, L2.dl, L2.dm, L2.kB_d, L2.sFor_d, L2.toT, L2.toD, L2.T.d, L2.kD, L2.vL, L2.vB, L2.d2, L2.tB2, L2.jk, L2.o4, L2.i5, L2.fOr_d, L2.zH, L2.An, L2.vIf_d, L2.ao, L2.ae, L2.vTup_d, L2.vLst_d, L2.cS, L2.B3, L2.au, L2.qL, L2.B4, L2.vSl, L2.jd, L2.dA, L2.k9, L2.ye, L2.nv, L2.wC, L2.fIt, L2.gU, L2.aG, L2.dC, L2.bU, L2.gAdd_i, L2.atI_0, L2.atI_1, L2.atI_2, L2.atI_3, L2.B5, L2.BJ, L2.gIn_t, L2.B6, L2.eqF_s, List.all_cons, List.all_nil, List.any_cons, List.any_nil, L2.gMul_l, L2.Am, L2.gDiv_i, L2.kf, L2.gCmp_i, L2.gEq_ii, L2.gEq_ss, L2.uj, L2.rn, L2.yl, L2.gLen_l, L2.gLen_t, L2.gInt_b, L2.BK, L2.itD_l, L2.itD_t, L2.truD_b, L2.asB_b, L2.asBl_b, L2.asI_i, List.map_cons, List.map_nil, List.length_cons, List.length_nil, List.cons_append, List.nil_append, List.replicate, List.getElem?_cons_zero, List.getElem?_cons_succ, List.set_cons_zero, List.set_cons_succ, Option.bind_some, Option.bind_none, Option.map_some, Option.map_none, Option.join_some, Option.join_none, Nat.reduceAdd, Nat.reduceSub, Nat.reduceLeDiff, Int.reduceLT, Int.reduceEq, eq_self, Int.reduceNeg, Int.reduceLE, if_true, if_false, ite_true, ite_false, Bool.false_eq_true, decide_true, decide_false, Bool.not_true, Bool.not_false, Bool.and_true, Bool.true_and, Bool.or_true, Bool.true_or, Bool.or_false, Bool.false_or, Bool.and_false, Bool.false_and, String.reduceBEq, reduceCtorEq, L2.vH, L2.Ap, L2.Aq, L2.yn, L2.yo, L2.BM, L2.BN, L2.AW, L2.xh, L2.Ar, L2.vI, L2.xi, L2.yp, L2.xj, L2.yq, L2.As, L2.At, L2.yr, L2.vJ, L2.yt, L2.vK, L2.vM, L2.xk, L2.vN, L2.xl, L2.yu, L2.yv, L2.xm, L2.xn, L2.Au, L2.xp, L2.vO, L2.yw, L2.xq, L2.yx, L2.Av, L2.Aw, L2.yy, L2.yz, L2.AX, L2.yA, L2.xr, L2.yB, L2.yC, L2.Ax, L2.AY, L2.AZ, L2.Ay, L2.vP, L2.Az, L2.AA, L2.yD, L2.xt, L2.A0, L2.A1, L2.AB, L2.yE, L2.BO, L2.yF, L2.xu, L2.A2, L2.A3])
namespace P33
open PySem L2
def oj {α β:Type} (f:α->β) (l:List α) (k:Nat) (h:k<l.length) (d:α):atI (l.map f) (k:Int)=some (f (l.getD k d)):=by
 unfold atI ixN
 rw [if_pos (by omega),List.length_map,if_pos (by omega)]
 simp [h]
def dQ (ns:List Int) (k:Nat):y1 [.lst (ns.map .int),.int k]=some (.leaf (.int (ns.getD k 0))):=by
 unfold y1
 walk_at "k"
 by_cases h:k<ns.length
 · rw [ro (by simpa using h)]
   walk_at "k"
   rw [oj Dt.int ns k h 0]
   rfl
 · rw [rp (by simpa using h)]
   walk_at "k"
   simp [List.getD,show ns.length<=k by omega]
def letters:Str:="abcdefghijklmnopqrstuvwxyz"
def fZ:letters.length=26:=by decide +kernel
def xz (c:Int) (i:Nat) (hi:i<10):∃ g:Nat,z28 [some (.leaf (.int (0+(i:Int)))),some (.leaf (.int c)),some (.leaf (.str letters))]=some (.str ⟨#[g]⟩):=by
 unfold z28
 walk_at "k"
 rw [Am (i:=c) (j:=48271+2*(0+(i:Int))) (by omega) (by omega)]
 walk_at "k"
 obtain ⟨g,e,_⟩:=xg (x:=letters) (i:=c*(48271+2*(0+(i:Int)))%2147483647/9%26) (by rw [fZ];decide) (Int.emod_nonneg _ (by decide)) (by rw [fZ];exact Int.emod_lt_of_pos _ (by decide))
 rw [e]
 exact ⟨g,rfl⟩
def om {x:Str} {lo hi:Option Int} (h:x.length<=1000):∃ y,gSl (.str x) lo hi=some (.leaf (.str y))/\y.length<=x.length:=
 ⟨_,if_pos (small (by omega)),Txt.slice_le x lo hi⟩
def rz {x y:Str} (h:x.length+y.length<=1000000):bG (.str x) (.str y)=some (.leaf (.str (x++y))):=Al (small h)
def xA (x y:Str):(x++y).length=x.length+y.length:=by
 show (x.cps++y.cps).size=_
 rw [Array.size_append]
 rfl
def sgn (i:Int):Nat:=letters.cps.toList.getD i.toNat 0
def AE (i:Int) (h0:0<=i) (h1:i<26):aw (.str letters) (.int i)=some (.leaf (.str ⟨#[sgn i]⟩)):=by
 have hl:letters.cps.toList.length=26:=by decide +kernel
 rw [ym (by rw [fZ];exact small (by decide))]
 unfold atI ixN
 rw [if_pos h0,hl,if_pos (by omega)]
 simp only [Option.bind_some]
 unfold sgn
 rw [List.getD_eq_getElem?_getD,gQ (by omega)]
 rfl
def xB:∀ i<26,∀ j<26,letters.cps.toList.getD i 0=letters.cps.toList.getD j 0->i=j:=by decide +kernel
def xC (c p:Int) (m:Str) (hm:m.length<=6):∃ y z:Str,∀ i:Nat,q27 [some (.leaf (.int (0+(i:Int)))),some (.leaf (.int c)),some (.leaf (.str letters)),some (.leaf (.str m)),some (.leaf (.int p))]=some (.str (y++⟨#[sgn ((c/36+(0+(i:Int)))%26)]⟩++z)):=by
 obtain ⟨y,ey,hy⟩:=om (x:=m) (lo:=none) (hi:=some p) (by omega)
 obtain ⟨z,ez,hz⟩:=om (x:=m) (lo:=some p) (hi:=none) (by omega)
 refine ⟨y,z,fun i=>?_⟩
 unfold q27
 walk_at "k"
 have e:=AE ((c/36+(0+(i:Int)))%26) (Int.emod_nonneg _ (by decide)) (Int.emod_lt_of_pos _ (by decide))
 have hg:(⟨#[sgn ((c/36+(0+(i:Int)))%26)]⟩:Str).length=1:=rfl
 rw [ey]
 walk_at "k"
 rw [e]
 walk_at "k"
 rw [rz (by omega)]
 walk_at "k"
 rw [ez]
 walk_at "k"
 rw [rz (by rw [xA];omega)]
 rfl
def xD (x y:Str):(x++y).cps.toList=x.cps.toList++y.cps.toList:=by
 show (x.cps++y.cps).toList=_
 simp
def AF {c:Int} {y z:Str} {i j:Nat} (hi:i<26) (hj:j<26) (h:y++⟨#[sgn ((c/36+(0+(i:Int)))%26)]⟩++z=y++⟨#[sgn ((c/36+(0+(j:Int)))%26)]⟩++z):i=j:=by
 have e:=congrArg (fun s:Str=>s.cps.toList) h
 simp only [xD] at e
 have e:=List.append_cancel_left (List.append_cancel_right e)
 have e:sgn ((c/36+(0+(i:Int)))%26)=sgn ((c/36+(0+(j:Int)))%26):=by simpa using e
 have:=xB _ (by omega) _ (by omega) e
 omega
def oo (c:Int) (mm:Nat) (hmm:mm<=20):∃ xs:List Str,q19 [.int c,.int mm]=some (.lst (xs.map .str))/\xs.length=mm/\xs.Nodup:=by
 have b0:=Int.emod_nonneg c (show (6:Int)≠0 by decide)
 have b1:=Int.emod_lt_of_pos c (show (0:Int)<6 by decide)
 unfold q19
 walk_at "k"
 obtain ⟨ys,e,hp⟩:=n4 (bb:=aG 0) (ft:=bU) (fe:=z28) (ds:=ce 0 (c%6).toNat) (δ:=[none,some (.leaf (.int c)),some (.leaf (.str letters))]) (P:=fun _ y=>∃ c:Nat,y=.str ⟨#[c]⟩) fun d hd=>by
  obtain ⟨i,hi,rfl⟩:=mem_range hd
  obtain ⟨g,e⟩:=xz c i (by omega)
  exact ⟨_,_,rfl,rfl,e,g,rfl⟩
 obtain ⟨cs,rfl,hl⟩:=lG hp
 rw [sJ] at hl
 rw [iZ (c8 (by omega) (by omega)),Option.bind_some,show Str.ofString "abcdefghijklmnopqrstuvwxyz"=letters from rfl,e,Option.bind_some,cS (by unfold sgD;rw [List.length_map];omega)]
 walk_at "k"
 rw [show Str.ofString ""=("":Str) from rfl,u7 (by omega)]
 walk_at "k"
 rw [kf (by omega)]
 walk_at "k"
 have hm:(⟨cs.toArray⟩:Str).length<=6:=by
  show cs.toArray.size<=6
  simp
  omega
 obtain ⟨y,z,hyz⟩:=xC c (c/6%(c%6+1)) ⟨cs.toArray⟩ hm
 have e:=lF (bb:=aG 0) (ft:=bU) (fe:=q27) (ds:=ce 0 ((mm:Nat):Int).toNat) (δ:=[none,some (.leaf (.int c)),some (.leaf (.str letters)),some (.leaf (.str ⟨cs.toArray⟩)),some (.leaf (.int (c/6%(c%6+1))))]) (f:=fun d=>match d with
  | .int k=>.str (y++⟨#[sgn ((c/36+k)%26)]⟩++z)
  | d=>d) fun d hd=>by
  obtain ⟨i,hi,rfl⟩:=mem_range hd
  exact ⟨_,rfl,rfl,hyz i⟩
 have hr:(ce 0 ((mm:Nat):Int).toNat).map (fun d=>match d with
  | Dt.int k=>Dt.str (y++⟨#[sgn ((c/36+k)%26)]⟩++z)
  | d=>d)=((List.range mm).map fun i:Nat=>y++⟨#[sgn ((c/36+(0+(i:Int)))%26)]⟩++z).map Dt.str:=by
  unfold ce
  rw [Int.toNat_natCast,List.map_map,List.map_map]
  rfl
 rw [hr] at e
 refine ⟨(List.range mm).map fun i:Nat=>y++⟨#[sgn ((c/36+(0+(i:Int)))%26)]⟩++z,?_,by simp,?_⟩
 · rw [iZ (c8 (by omega) (by omega)),Option.bind_some,e,Option.bind_some,cS (by rw [List.length_map,List.length_map,List.length_range];omega)]
   walk_at "k"
 · rw [List.nodup_iff_pairwise_ne,List.pairwise_map]
   refine List.pairwise_iff_getElem.mpr fun i j hi hj hij h=>?_
   simp only [List.length_range] at hi hj
   simp only [List.getElem_range] at h
   have:=AF (Nat.lt_of_lt_of_le hi (by omega)) (Nat.lt_of_lt_of_le hj (by omega)) h
   omega
end P33
namespace L2
section
variable {α:Type} [DecidableEq α]
abbrev CF (α:Type):=List (α×Option α)
def ks (cf:CF α):List α:=cf.map (·.1)
def g6 (h:α) (cf:CF α) (t:α):CF α:=if t∈ks cf then cf else cf++[(t,some h)]
def bR (h:α) (cf:CF α) (ts:List α):CF α:=ts.foldl (g6 h) cf
noncomputable def bfs (beh:α->List α) (fit:α->Bool):Nat->CF α->Nat->List (List α)->Option (Option α×CF α×List (List α))
 | 0,_,_,_=>none
 | n+1,cf,k,J=>match cf[k]? with
  | none=>some (none,cf,J)
  | some (h,_)=>if fit h then some (some h,cf,J) else bfs beh fit n (bR h cf (beh h)) (k+1) (J++[beh h])
def bh (cf:CF α) (s:α):CF α:=if s∈ks cf then cf else cf++[(s,none)]
structure BI (beh:α->List α) (fit:α->Bool) (starts:List α) (cf:CF α) (k:Nat):Prop where
 nd:(ks cf).Nodup
 sub:∀ s∈starts,s∈ks cf
 par:∀ (i:Nat) (t p:α),cf[i]?=some (t,some p)->∃ j q,j<i/\cf[j]?=some (p,q)/\t∈beh p/\fit p=false
 st:∀ (i:Nat) (t:α),cf[i]?=some (t,none)->t∈starts
 done:∀ (i:Nat) (t:α) (q:Option α),i<k->cf[i]?=some (t,q)->fit t=false/\∀ u∈beh t,u∈ks cf
variable {beh:α->List α} {fit:α->Bool} {starts:List α}
def d9 (cf cf':CF α):ks (cf++cf')=ks cf++ks cf':=List.map_append
def gp {cf:CF α} {t:α} (h:t∈ks cf):∃ (i:Nat) (q:Option α),cf[i]?=some (t,q):=by
 obtain ⟨p,hp,rfl⟩:=List.mem_map.mp h
 obtain ⟨i,hi,e⟩:=List.getElem_of_mem hp
 exact ⟨i,p.2,by rw [gQ hi,e]⟩
def gq {cf:CF α} {t:α} {i:Nat} {q:Option α} (h:cf[i]?=some (t,q)):t∈ks cf:=List.mem_map.mpr ⟨(t,q),List.mem_of_getElem? h,rfl⟩
def cT (h:α):∀ (ts:List α) (cf:CF α),∃ e,bR h cf ts=cf++e/\(∀ p∈e,p.2=some h/\p.1∈ts)/\((ks cf).Nodup->(ks (bR h cf ts)).Nodup)/\∀ t∈ts,t∈ks (bR h cf ts)
 | [],cf=>⟨[],by simp [bR],by simp,fun z=>z,by simp⟩
 | t::ts,cf=>by
  obtain ⟨e,h1,h2,h3,h4⟩:=cT h ts (g6 h cf t)
  have e0:bR h cf (t::ts)=bR h (g6 h cf t) ts:=rfl
  rw [e0]
  have hin:t∈ks (bR h (g6 h cf t) ts):=by
   rw [h1,d9]
   refine List.mem_append_left _ ?_
   unfold g6
   split
   · assumption
   · rw [d9];exact List.mem_append_right _ (by simp [ks])
  have hall:∀ u∈t::ts,u∈ks (bR h (g6 h cf t) ts):=fun u hu=>by
   rcases List.mem_cons.mp hu with rfl | hu
   · exact hin
   · exact h4 u hu
  by_cases q:t∈ks cf
  · have:g6 h cf t=cf:=if_pos q
    rw [this] at h1 h3 ⊢
    refine ⟨e,h1,fun p hp=>⟨(h2 p hp).1,List.mem_cons_of_mem _ (h2 p hp).2⟩,h3,?_⟩
    rw [this] at hall
    exact hall
  · have:g6 h cf t=cf++[(t,some h)]:=if_neg q
    rw [this] at h1 h3 ⊢
    refine ⟨(t,some h)::e,by rw [h1,List.append_assoc];rfl,fun p hp=>?_,fun nd=>h3 ?_,?_⟩
    · rcases List.mem_cons.mp hp with rfl | hp
      · exact ⟨rfl,List.mem_cons_self⟩
      · exact ⟨(h2 p hp).1,List.mem_cons_of_mem _ (h2 p hp).2⟩
    · rw [d9]
      refine List.nodup_append.mpr ⟨nd,by simp [ks],fun a ha b hb=>?_⟩
      simp [ks] at hb
      subst hb
      rintro rfl
      exact q ha
    · rw [this] at hall
      exact hall
def BI.step {cf:CF α} {k:Nat} {h:α} {q:Option α} (B:BI beh fit starts cf k) (hk:cf[k]?=some (h,q)) (hf:fit h=false):BI beh fit starts (bR h cf (beh h)) (k+1):=by
 obtain ⟨e,h1,h2,h3,h4⟩:=cT h (beh h) cf
 have keep:∀ {i:Nat} {x:α×Option α},cf[i]?=some x->(bR h cf (beh h))[i]?=some x:=fun {i x} z=>by
  rw [h1,List.getElem?_append_left (gX z).1]
  exact z
 have old:∀ {i:Nat} {x:α×Option α},(bR h cf (beh h))[i]?=some x->cf[i]?=some x∨(x.2=some h/\x.1∈beh h/\cf.length<=i):=fun {i x} z=>by
  rw [h1] at z
  by_cases hi:i<cf.length
  · rw [List.getElem?_append_left hi] at z
    exact .inl z
  · rw [gR (by omega)] at z
    have:=h2 _ (List.mem_of_getElem? z)
    exact .inr ⟨this.1,this.2,by omega⟩
 have kin:∀ {t:α},t∈ks cf->t∈ks (bR h cf (beh h)):=fun {t} z=>by rw [h1,d9];exact List.mem_append_left _ z
 refine ⟨h3 B.nd,fun s hs=>kin (B.sub s hs),fun i t p z=>?_,fun i t z=>?_,fun i t q' hi z=>?_⟩
 · rcases old z with z | ⟨z1,z2,z3⟩
   · obtain ⟨j,q',g1,g2,g3⟩:=B.par i t p z
     exact ⟨j,q',g1,keep g2,g3⟩
   · cases z1
     exact ⟨k,q,Nat.lt_of_lt_of_le (gX hk).1 z3,keep hk,z2,hf⟩
 · rcases old z with z | ⟨z1,_,_⟩
   · exact B.st i t z
   · cases z1
 · have hk':=(gX hk).1
   rcases old z with z | ⟨_,_,z3⟩
   · by_cases hik:i=k
     · subst hik
       rw [hk] at z
       cases z
       exact ⟨hf,fun u hu=>h4 u hu⟩
     · obtain ⟨g1,g2⟩:=B.done i t q' (by omega) z
       exact ⟨g1,fun u hu=>kin (g2 u hu)⟩
   · omega
def kj {U:List α} {h:α} {ts:List α} {cf:CF α} (hc:∀ t∈ks cf,t∈U) (ht:∀ t∈ts,t∈U):∀ t∈ks (bR h cf ts),t∈U:=fun t z=>by
 obtain ⟨e,h1,h2,_,_⟩:=cT h ts cf
 rw [h1,d9] at z
 rcases List.mem_append.mp z with z | z
 · exact hc t z
 · obtain ⟨p,hp,rfl⟩:=List.mem_map.mp z
   exact ht _ (h2 p hp).2
def oq {U:List α} (hU:∀ t∈U,∀ u∈beh t,u∈U):∀ (n:Nat) (cf:CF α) (k:Nat) (J:List (List α)),BI beh fit starts cf k->(∀ t∈ks cf,t∈U)->k<=cf.length->U.length<n+k→
  ∃ f cf' J' k',bfs beh fit n cf k J=some (f,cf',J')/\BI beh fit starts cf' k'/\(∀ t∈ks cf',t∈U)/\(f=none->k'=cf'.length)/\∀ h,f=some h->fit h=true/\h∈ks cf'
 | 0,cf,k,J,B,hc,hk,hn=>by
  have:=eQ B.nd hc
  rw [show (ks cf).length=cf.length from List.length_map ..] at this
  omega
 | n+1,cf,k,J,B,hc,hk,hn=>by
  unfold bfs
  cases q:cf[k]? with
  | none =>
   have:=List.getElem?_eq_none_iff.mp q
   exact ⟨none,cf,J,k,rfl,B,hc,fun _=>by omega,fun h z=>nomatch z⟩
  | some x =>
   obtain ⟨h,p⟩:=x
   dsimp only
   cases hf:fit h with
   | true =>
    exact ⟨some h,cf,J,k,rfl,B,hc,fun z=>(nomatch z),fun h' z=>by cases z;exact ⟨hf,gq q⟩⟩
   | false =>
    have hk':=(gX q).1
    obtain ⟨e,h1,_⟩:=cT h (beh h) cf
    exact oq hU n _ (k+1) _ (B.step q hf) (kj hc (hU h (hc h (gq q)))) (by rw [h1,List.length_append];omega) (by omega)
def BI.start:BI beh fit starts (starts.foldl bh []) 0:=by
 have key:∀ (ss:List α) (cf:CF α),(ks cf).Nodup->(∀ p∈cf,p.2=none/\p.1∈starts)->(∀ s∈ss,s∈starts)->(ks (ss.foldl bh cf)).Nodup/\(∀ p∈ss.foldl bh cf,p.2=none/\p.1∈starts)/\∀ s,(s∈ss∨s∈ks cf)->s∈ks (ss.foldl bh cf):=fun ss=>by
  induction ss with
  | nil=>intro cf h1 h2 _;exact ⟨h1,h2,fun s hs=>hs.elim (fun z=>nomatch z) id⟩
  | cons s ss ih =>
   intro cf h1 h2 h3
   rw [List.foldl_cons]
   have hs:s∈ks (bh cf s):=by
    unfold bh
    split
    · assumption
    · rw [d9];exact List.mem_append_right _ (by simp [ks])
   have hm:∀ t∈ks cf,t∈ks (bh cf s):=fun t ht=>by
    unfold bh
    split
    · exact ht
    · rw [d9];exact List.mem_append_left _ ht
   obtain ⟨a,b,c⟩:=ih (bh cf s) (by
    unfold bh
    split
    · exact h1
    · rename_i q
      rw [d9]
      refine List.nodup_append.mpr ⟨h1,by simp [ks],fun a ha b hb=>?_⟩
      simp [ks] at hb
      subst hb
      rintro rfl
      exact q ha) (fun p hp=>by
    unfold bh at hp
    split at hp
    · exact h2 p hp
    · rcases List.mem_append.mp hp with hp | hp
      · exact h2 p hp
      · cases List.mem_singleton.mp hp
        exact ⟨rfl,h3 _ List.mem_cons_self⟩) fun t ht=>h3 t (List.mem_cons_of_mem _ ht)
   refine ⟨a,b,fun t ht=>c t ?_⟩
   rcases ht with ht | ht
   · rcases List.mem_cons.mp ht with rfl | ht
     · exact .inr hs
     · exact .inl ht
   · exact .inr (hm t ht)
 obtain ⟨a,b,c⟩:=key starts [] (by simp [ks]) (by simp) fun s hs=>hs
 exact ⟨a,fun s hs=>c s (.inl hs),fun i t p z=>(by have:=(b _ (List.mem_of_getElem? z)).1;cases this),fun i t z=>(b _ (List.mem_of_getElem? z)).2,fun i t q hi=>by omega⟩
def look (cf:CF α) (t:α):Option (Option α):=(cf.find? fun p=>decide (p.1=t)).map (·.2)
def mz:∀ {cf:CF α} {i:Nat} {t:α} {q:Option α},(ks cf).Nodup->cf[i]?=some (t,q)->look cf t=some q
 | [],i,t,q,_,h=>by simp at h
 | p::cf,0,t,q,nd,h=>by
  simp at h
  subst h
  simp [look]
 | p::cf,i+1,t,q,nd,h=>by
  have h:cf[i]?=some (t,q):=by simpa using h
  have nd:(p.1::ks cf).Nodup:=nd
  have hne:p.1≠t:=fun z=>(List.nodup_cons.mp nd).1 (z▸gq h)
  have:=mz (List.nodup_cons.mp nd).2 h
  unfold look at this ⊢
  rw [List.find?_cons_of_neg (by simpa using hne)]
  exact this
inductive Tr (cf:CF α):α->List α->Prop
 | one {t:α} (h:look cf t=some none):Tr cf t [t]
 | more {t p:α} {r:List α} (h:look cf t=some (some p)) (r':Tr cf p r):Tr cf t (t::r)
inductive Wy (beh:α->List α) (fit:α->Bool) (starts:List α):α->List α->Prop
 | one {t:α} (h:t∈starts):Wy beh fit starts t [t]
 | more {t p:α} {r:List α} (h:t∈beh p) (hf:fit p=false) (w:Wy beh fit starts p r):Wy beh fit starts t (t::r)
def BI.trace {cf:CF α} {k:Nat} (B:BI beh fit starts cf k):∀ (i:Nat) (t:α) (q:Option α),cf[i]?=some (t,q)->∃ r,Tr cf t r/\Wy beh fit starts t r/\r.length<=i+1:=fun i=>by
 induction i using Nat.strongRecOn with
 | ind i ih =>
  intro t q h
  cases q with
  | none=>exact ⟨[t],.one (mz B.nd h),.one (B.st i t h),by simp⟩
  | some p =>
   obtain ⟨j,q',h1,h2,h3,h4⟩:=B.par i t p h
   obtain ⟨r,g1,g2,g3⟩:=ih j h1 p q' h2
   exact ⟨t::r,.more (mz B.nd h) g1,.more h3 h4 g2,by simp;omega⟩
inductive Rch (beh:α->List α) (starts:List α):α->Prop
 | one {t:α} (h:t∈starts):Rch beh starts t
 | more {t p:α} (w:Rch beh starts p) (h:t∈beh p):Rch beh starts t
def BI.none {cf:CF α} (B:BI beh fit starts cf cf.length) {t:α} (h:Rch beh starts t):fit t=false:=by
 have key:t∈ks cf:=by
  induction h with
  | one h=>exact B.sub _ h
  | more w h ih =>
   obtain ⟨i,q,e⟩:=gp ih
   exact (B.done i _ q (gX e).1 e).2 _ h
 obtain ⟨i,q,e⟩:=gp key
 exact (B.done i t q (gX e).1 e).1
end
open PySem
inductive Mrk where
 | fresh | seen | safe | spoilt
deriving DecidableEq
def Rw.gets:Rw->Str->Bool
 | .load _ c,nm=>decide (c=nm) | .take _ f _,nm=>decide (f=nm)
 | _,_=>false
def Rw.puts:Rw->Str->Bool
 | .store c _,nm=>decide (c=nm) | .lay f _ _,nm=>decide (f=nm)
 | _,_=>false
def Rw.stores:Rw->Str->Bool
 | .store c _,nm=>decide (c=nm)
 | _,_=>false
def Rw.excl {r:Rw} {nm:Str} (h:r.gets nm=true):r.puts nm=false:=by
 cases r<;>first | cases h;done | rfl
def mb:Mrk->Rw->Str->Mrk
 | .fresh,r,nm=>if r.gets nm then .seen else if r.stores nm then .safe else .fresh
 | .seen,r,nm=>if r.puts nm then .spoilt else .seen
 | m,_,_=>m
section
variable (rows:List Rw) (kept:List Nat) (nm:Str)
def g7 (t:Nat×Mrk):List (Nat×Mrk):=match rows[t.1]? with
 | none=>[]
 | some r=>if mb t.2 r nm=.safe then [] else ((r.outs t.1).filter fun w=>!decide (w∈kept)).map fun w=>(w,mb t.2 r nm)
def iC (t:Nat×Mrk):Bool:=match rows[t.1]? with
 | none=>false
 | some r=>decide (mb t.2 r nm=.spoilt)
def cH:List (Nat×Mrk):=(0::kept).map fun k=>(k,.fresh)
def gA (k:Nat):Bool:=match rows[k]? with | some r=>r.gets nm | none=>false
def pA (k:Nat):Bool:=match rows[k]? with | some r=>r.puts nm | none=>false
def sA (k:Nat):Bool:=match rows[k]? with | some r=>r.stores nm | none=>false
def g8 (s:Nat):Nat->Mrk
 | 0=>.fresh
 | d+1=>match rows[s+d]? with
  | some r=>mb (g8 s d) r nm
  | none=>g8 s d
def cr:Nat->Nat
 | 0=>0
 | k+1=>if k+1∈kept then k+1 else cr k
def fsL (s t:Nat):List Nat:=(List.range (t-s)).filter fun k=>gA rows nm (s+k)
def psL (s t:Nat):List Nat:=(List.range (t-s)).filter fun k=>pA rows nm (s+k)
def fF (shelf:Bool) (s t:Nat):Bool:=!(fsL rows nm s t).isEmpty&&(shelf||(psL rows nm s t).isEmpty||decide ((fsL rows nm s t).headD 0<(psL rows nm s t).headD 0))
def prs (shelf:Bool):List (Nat×Nat):=(List.range rows.length).filterMap fun t=>if pA rows nm t&&fF rows nm shelf (cr kept t) t then some (cr kept t,t) else none
def ve:Prop:=∀ (k:Nat) (r:Rw),rows[k]?=some r->r.outs k=if k+1<rows.length then [k+1] else []
end
section
variable {rows:List Rw} {kept:List Nat} {nm:Str}
def km:∀ k,cr kept k<=k
 | 0=>nL _
 | k+1=>by
  unfold cr
  split
  · exact nL _
  · exact Nat.le_succ_of_le (km k)
def ou:∀ k,cr kept k=0∨cr kept k∈kept
 | 0=>.inl rfl
 | k+1=>by
  unfold cr
  split
  · rename_i h;exact .inr h
  · exact ou k
def kn:∀ k j,cr kept k<j->j<=k->j∉kept
 | 0,j,h1,h2=>by omega
 | k+1,j,h1,h2=>by
  unfold cr at h1
  split at h1
  · omega
  · rename_i h
    by_cases e:j=k+1
    · rw [e];exact h
    · exact kn k j h1 (by omega)
def ox {s:Nat}:∀ k,s<=k->(s=0∨s∈kept)->(∀ j,s<j->j<=k->j∉kept)->cr kept k=s
 | 0,h1,h2,h3=>by
  have:s=0:=by omega
  rw [this];rfl
 | k+1,h1,h2,h3=>by
  unfold cr
  by_cases e:s=k+1
  · subst e
    rcases h2 with h2 | h2
    · omega
    · rw [if_pos h2]
  · rw [if_neg (h3 _ (by omega) (nL _))]
    exact ox k (by omega) h2 fun j a b=>h3 j a (by omega)
def oy {k:Nat} {r:Rw} (h:rows[k]?=some r):gA rows nm k=r.gets nm:=by unfold gA;rw [h]
def oz {k:Nat} {r:Rw} (h:rows[k]?=some r):pA rows nm k=r.puts nm:=by unfold pA;rw [h]
def yG {k:Nat} {r:Rw} (h:rows[k]?=some r):sA rows nm k=r.stores nm:=by unfold sA;rw [h]
def xE {k:Nat} (h:gA rows nm k=true):pA rows nm k=false:=by
 unfold gA at h
 unfold pA
 split at h
 · rename_i r e
   exact Rw.excl h
 · cases h
def du {s d:Nat} {r:Rw} (h:rows[s+d]?=some r):g8 rows nm s (d+1)=mb (g8 rows nm s d) r nm:=by
 show (match rows[s+d]? with | some r=>mb (g8 rows nm s d) r nm | none=>g8 rows nm s d)=_
 rw [h]
def vf {m:Mrk} {r:Rw} (h:mb m r nm=.fresh):m=.fresh/\r.gets nm=false/\r.stores nm=false:=by
 cases m with
 | fresh =>
  simp only [mb] at h
  cases h1:r.gets nm<;>cases h2:r.stores nm<;>simp [h1,h2] at h
  exact ⟨rfl,rfl,rfl⟩
 | seen=>simp only [mb] at h;split at h<;>cases h
 | safe=>cases h
 | spoilt=>cases h
def xF {m:Mrk} {r:Rw} (h:mb m r nm=.seen):(m=.fresh/\r.gets nm=true)∨(m=.seen/\r.puts nm=false):=by
 cases m with
 | fresh =>
  simp only [mb] at h
  cases h1:r.gets nm<;>cases h2:r.stores nm<;>simp [h1,h2] at h
  · exact .inl ⟨rfl,rfl⟩
  · exact .inl ⟨rfl,rfl⟩
 | seen =>
  simp only [mb] at h
  cases h1:r.puts nm<;>simp [h1] at h
  exact .inr ⟨rfl,rfl⟩
 | safe=>cases h
 | spoilt=>cases h
def sL {m:Mrk} {r:Rw} (h:mb m r nm=.spoilt):m=.spoilt∨(m=.seen/\r.puts nm=true):=by
 cases m with
 | fresh=>simp only [mb] at h;split at h<;>(try split at h)<;>cases h
 | seen =>
  simp only [mb] at h
  cases h1:r.puts nm<;>simp [h1] at h
  exact .inr ⟨rfl,rfl⟩
 | safe=>cases h
 | spoilt=>exact .inl rfl
def lJ {s:Nat}:∀ {d:Nat},s+d<=rows.length->g8 rows nm s d=.fresh->∀ j<d,gA rows nm (s+j)=false/\sA rows nm (s+j)=false
 | 0,_,_,j,hj=>by omega
 | d+1,hl,h,j,hj=>by
  have hr:rows[s+d]?=some rows[s+d]:=gQ (by omega)
  rw [du hr] at h
  obtain ⟨h1,h2,h3⟩:=vf h
  by_cases e:j=d
  · subst e
    rw [oy hr,yG hr]
    exact ⟨h2,h3⟩
  · exact lJ (by omega) h1 j (by omega)
def oA {s:Nat}:∀ {d:Nat},s+d<=rows.length->g8 rows nm s d=.seen->∃ g,g<d/\gA rows nm (s+g)=true/\∀ j<g,gA rows nm (s+j)=false/\sA rows nm (s+j)=false
 | 0,_,h=>by cases h
 | d+1,hl,h=>by
  have hr:rows[s+d]?=some rows[s+d]:=gQ (by omega)
  rw [du hr] at h
  rcases xF h with ⟨h1,h2⟩ | ⟨h1,h2⟩
  · exact ⟨d,by omega,by rw [oy hr];exact h2,lJ (by omega) h1⟩
  · obtain ⟨g,a,b,c⟩:=oA (by omega) h1
    exact ⟨g,by omega,b,c⟩
def i7 {s:Nat}:∀ {d:Nat},s+d<=rows.length->(∀ j<d,gA rows nm (s+j)=false/\sA rows nm (s+j)=false)->g8 rows nm s d=.fresh
 | 0,_,_=>rfl
 | d+1,hl,h=>by
  have hr:rows[s+d]?=some rows[s+d]:=gQ (by omega)
  obtain ⟨a,b⟩:=h d (by omega)
  rw [oy hr] at a
  rw [yG hr] at b
  rw [du hr,i7 (by omega) fun j hj=>h j (by omega)]
  simp [mb,a,b]
def oB {s g:Nat} (hg:gA rows nm (s+g)=true) (hb:∀ j<g,gA rows nm (s+j)=false/\sA rows nm (s+j)=false):∀ {d:Nat},g<d->s+d<=rows.length->(∀ j,g<j->j<d->pA rows nm (s+j)=false)->g8 rows nm s d=.seen
 | 0,h0,_,_=>by omega
 | d+1,h0,hl,h=>by
  have hr:rows[s+d]?=some rows[s+d]:=gQ (by omega)
  rw [du hr]
  by_cases e:g=d
  · subst e
    rw [oy hr] at hg
    rw [i7 (by omega) hb]
    simp [mb,hg]
  · have hp:=h d (by omega) (by omega)
    rw [oz hr] at hp
    rw [oB hg hb (d:=d) (by omega) (by omega) fun j a b=>h j a (by omega)]
    simp [mb,hp]
def oC {p:Nat->Bool}:∀ {n g:Nat},g<n->p g=true->(∀ j<g,p j=false)->∃ r,(List.range n).filter p=g::r:=fun {n g} hg hp hb=>by
 obtain ⟨d,rfl⟩:∃ d,n=g+(d+1):=⟨n-g-1,by omega⟩
 rw [List.range_add,List.filter_append]
 have e:(List.range g).filter p=[]:=by
  rw [List.filter_eq_nil_iff]
  intro a ha
  rw [hb a (List.mem_range.mp ha)]
  decide
 rw [e,List.nil_append,List.range_succ_eq_map]
 simp [hp]
def i8 {p:Nat->Bool} {n h:Nat} {r:List Nat} (e:(List.range n).filter p=h::r):h<n/\p h=true/\∀ j<h,p j=false:=by
 have hm:h∈(List.range n).filter p:=by rw [e];exact List.mem_cons_self
 obtain ⟨h1,h2⟩:=List.mem_filter.mp hm
 have h1:=List.mem_range.mp h1
 refine ⟨h1,h2,fun j hj=>?_⟩
 cases q:p j with
 | false=>rfl
 | true =>
  exfalso
  -- the least of those that are
  have:∃ g,g<=j/\p g=true/\∀ i<g,p i=false:=by
   clear e hm
   induction j using Nat.strongRecOn with
   | ind j ih =>
    by_cases z:∃ i,i<j/\p i=true
    · obtain ⟨i,a,b⟩:=z
      obtain ⟨g,c,d⟩:=ih i a (by omega) b
      exact ⟨g,by omega,d⟩
    · exact ⟨j,nL _,q,fun i hi=>by
       cases w:p i with
       | false=>rfl
       | true=>exact absurd ⟨i,hi,w⟩ z⟩
  obtain ⟨g,a,b,c⟩:=this
  obtain ⟨r',e'⟩:=oC (n:=n) (by omega) b c
  rw [e] at e'
  cases e'
  omega
structure Kd (rows:List Rw) (nm:Str) (shelf:Bool):Prop where
 c:shelf=false->∀ k,pA rows nm k=sA rows nm k
 s:shelf=true->∀ k,sA rows nm k=false
def xG {shelf:Bool} (K:Kd rows nm shelf) {s t:Nat} (hs:s<=t) (hl:t<rows.length) (h:g8 rows nm s (t-s)=.seen):fF rows nm shelf s t=true:=by
 obtain ⟨g,h1,h2,h3⟩:=oA (by omega) h
 obtain ⟨r,e⟩:=oC (p:=fun k=>gA rows nm (s+k)) (n:=t-s) h1 h2 fun j hj=>(h3 j hj).1
 have ef:fsL rows nm s t=g::r:=e
 unfold fF
 rw [ef]
 simp only [List.isEmpty_cons,Bool.not_false,Bool.true_and,List.headD_cons,Bool.or_eq_true]
 cases shelf with
 | true=>exact .inl (.inl rfl)
 | false =>
  cases ep:psL rows nm s t with
  | nil=>exact .inl (.inr rfl)
  | cons q w =>
   refine .inr (decide_eq_true ?_)
   obtain ⟨a,b,c⟩:=i8 (p:=fun k=>pA rows nm (s+k)) ep
   rw [List.headD_cons]
   by_cases z:q<g
   · have:=(h3 q z).2
     rw [<- K.c rfl] at this
     rw [this] at b
     cases b
   · by_cases z2:q=g
     · subst z2
       rw [xE h2] at b
       cases b
     · omega
def xH {shelf:Bool} (K:Kd rows nm shelf) {s t:Nat} (h:fF rows nm shelf s t=true):∃ g,s+g<t/\gA rows nm (s+g)=true/\∀ j<g,gA rows nm (s+j)=false/\sA rows nm (s+j)=false:=by
 unfold fF at h
 rw [Bool.and_eq_true] at h
 obtain ⟨h1,h2⟩:=h
 cases ef:fsL rows nm s t with
 | nil=>rw [ef] at h1;cases h1
 | cons g r =>
  obtain ⟨a,b,c⟩:=i8 (p:=fun k=>gA rows nm (s+k)) ef
  refine ⟨g,by omega,b,fun j hj=>⟨c j hj,?_⟩⟩
  cases shelf with
  | true=>exact K.s rfl _
  | false =>
   rw [<- K.c rfl]
   rw [ef] at h2
   simp only [Bool.false_or,Bool.or_eq_true,List.headD_cons,decide_eq_true_eq] at h2
   cases q:pA rows nm (s+j) with
   | false=>rfl
   | true =>
    exfalso
    have hm:j∈psL rows nm s t:=List.mem_filter.mpr ⟨List.mem_range.mpr (by omega),q⟩
    cases ep:psL rows nm s t with
    | nil=>rw [ep] at hm;cases hm
    | cons w ws =>
     rw [ep] at h2
     obtain ⟨x,y,z⟩:=i8 (p:=fun k=>pA rows nm (s+k)) ep
     rcases h2 with h2 | h2
     · cases h2
     · have:=z j (by simp at h2;omega)
       rw [q] at this
       cases this
end
section
variable {rows:List Rw} {kept:List Nat} {nm:Str}
def vg {t u:Nat×Mrk} (h:u∈g7 rows kept nm t):∃ r,rows[t.1]?=some r/\mb t.2 r nm≠.safe/\u.1∈r.outs t.1/\u.1∉kept/\u.2=mb t.2 r nm:=by
 unfold g7 at h
 split at h
 · cases h
 · rename_i r e
   split at h
   · cases h
   · rename_i hs
     obtain ⟨w,hw,rfl⟩:=List.mem_map.mp h
     obtain ⟨h1,h2⟩:=List.mem_filter.mp hw
     exact ⟨r,e,hs,h1,by simpa using h2,rfl⟩
def AG {k w:Nat} {m:Mrk} {r:Rw} (e:rows[k]?=some r) (hs:mb m r nm≠.safe) (hw:w∈r.outs k) (hk:w∉kept):(w,mb m r nm)∈g7 rows kept nm (k,m):=by
 unfold g7
 simp only [e]
 rw [if_neg hs]
 exact List.mem_map.mpr ⟨w,List.mem_filter.mpr ⟨hw,by simpa using hk⟩,rfl⟩
def oD (S:ve rows) {k w:Nat} {r:Rw} (e:rows[k]?=some r) (hw:w∈r.outs k):w=k+1/\k+1<rows.length:=by
 rw [S k r e] at hw
 split at hw
 · rename_i h
   exact ⟨by simpa using hw,h⟩
 · cases hw
def AH (S:ve rows) (hn:0<rows.length) (hk:∀ k∈kept,k<rows.length) {t:Nat×Mrk} {r:List (Nat×Mrk)} (h:Wy (g7 rows kept nm) (iC rows nm) (cH kept) t r) :
  ∃ s,s<=t.1/\t.1<rows.length/\(s=0∨s∈kept)/\(∀ j,s<j->j<=t.1->j∉kept)/\t.2=g8 rows nm s (t.1-s)/\t.2≠.safe/\t.2≠.spoilt/\r.reverse.map (·.1)=List.range' s (t.1+1-s):=by
 induction h with
 | @one t h =>
  obtain ⟨k,hk1,rfl⟩:=List.mem_map.mp h
  have hl:k<rows.length:=by
   rcases List.mem_cons.mp hk1 with rfl | z
   · exact hn
   · exact hk k z
  refine ⟨k,Nat.le_refl _,hl,?_,fun j a b=>by dsimp only at b;omega,by simp [g8],fun z=>(nomatch z),fun z=>(nomatch z),?_⟩
  · rcases List.mem_cons.mp hk1 with rfl | z
    · exact .inl rfl
    · exact .inr z
  · dsimp only
    rw [show k+1-k=1 by omega]
    rfl
 | @more t p r h hf w ih =>
  obtain ⟨s,h1,h2,h3,h4,h5,h6,h7,h8⟩:=ih
  obtain ⟨row,e,g1,g2,g3,g4⟩:=vg h
  obtain ⟨e1,e2⟩:=oD S e g2
  obtain ⟨tk,tm⟩:=t
  obtain ⟨pk,pm⟩:=p
  dsimp only at*
  subst e1
  refine ⟨s,by omega,e2,h3,fun j a b=>?_,?_,?_,?_,?_⟩
  · by_cases z:j=pk+1
    · rw [z];exact g3
    · exact h4 j a (by omega)
  · rw [g4,h5,show pk+1-s=(pk-s)+1 by omega,du (show rows[s+(pk-s)]?=some row by rw [show s+(pk-s)=pk by omega];exact e)]
  · rw [g4];exact g1
  · rw [g4]
    intro z
    unfold iC at hf
    simp only [e] at hf
    rw [z] at hf
    exact absurd hf (by decide)
  · rw [List.reverse_cons,List.map_append,h8,show pk+1+1-s=(pk+1-s)+1 by omega,List.range'_concat]
    simp only [List.map_cons,List.map_nil]
    congr 2
    omega
def sM (S:ve rows) (hn:0<rows.length) (hk:∀ k∈kept,k<rows.length) {shelf:Bool} (K:Kd rows nm shelf) {t:Nat×Mrk} {r:List (Nat×Mrk)} (h:Wy (g7 rows kept nm) (iC rows nm) (cH kept) t r) (hf:iC rows nm t=true) :
  ∃ s,s<=t.1/\t.1<rows.length/\(s,t.1)∈prs rows kept nm shelf/\r.reverse.map (·.1)=List.range' s (t.1+1-s):=by
 obtain ⟨s,h1,h2,h3,h4,h5,h6,h7,h8⟩:=AH S hn hk h
 refine ⟨s,h1,h2,?_,h8⟩
 have e:rows[t.1]?=some rows[t.1]:=gQ h2
 unfold iC at hf
 simp only [e,decide_eq_true_eq] at hf
 rcases sL hf with z | ⟨z1,z2⟩
 · exact absurd z h7
 · have hl:=ox t.1 h1 h3 h4
   refine List.mem_filterMap.mpr ⟨t.1,List.mem_range.mpr h2,?_⟩
   rw [hl,xG K h1 h2 (by rw [<- h5];exact z1),oz e,z2]
   rfl
def none_str (S:ve rows) {shelf:Bool} (K:Kd rows nm shelf) (h:∀ t,Rch (g7 rows kept nm) (cH kept) t->iC rows nm t=false):prs rows kept nm shelf=[]:=by
 rw [List.eq_nil_iff_forall_not_mem]
 intro q hq
 obtain ⟨t,ht,e⟩:=List.mem_filterMap.mp hq
 have ht:=List.mem_range.mp ht
 split at e
 · rename_i hc
   rw [Bool.and_eq_true] at hc
   generalize hs:cr kept t=s at hc
   have hle:s<=t:=hs▸km t
   have hin:s=0∨s∈kept:=hs▸ou t
   have hfr:∀ j,s<j->j<=t->j∉kept:=fun j a b=>kn t j (hs▸a) b
   obtain ⟨g,g1,g2,g3⟩:=xH K hc.2
   -- the first put behind g
   have:∃ d,g<d/\s+d<=t/\pA rows nm (s+d)=true/\∀ j,g<j->j<d->pA rows nm (s+j)=false:=by
    have key:∀ n,s+(g+1)+n<=t->pA rows nm (s+(g+1)+n)=true->∃ d,g<d/\s+d<=t/\pA rows nm (s+d)=true/\∀ j,g<j->j<d->pA rows nm (s+j)=false:=fun n=>by
     induction n using Nat.strongRecOn with
     | ind n ih =>
      intro a b
      by_cases z:∃ m,m<n/\pA rows nm (s+(g+1)+m)=true
      · obtain ⟨m,m1,m2⟩:=z
        exact ih m m1 (by omega) m2
      · refine ⟨g+1+n,by omega,by omega,by rw [<- b];congr 1;omega,fun j j1 j2=>?_⟩
        cases w:pA rows nm (s+j) with
        | false=>rfl
        | true=>exact absurd ⟨j-(g+1),by omega,by rw [<- w];congr 1;omega⟩ z
    exact key (t-(s+(g+1))) (by omega) (by rw [show s+(g+1)+(t-(s+(g+1)))=t by omega];exact hc.1)
   obtain ⟨d,d1,d2,d3,d4⟩:=this
   have run:∀ j,j<=d->g8 rows nm s j=if j<=g then .fresh else .seen:=fun j hj=>by
    split
    · exact i7 (by omega) fun i hi=>g3 i (by omega)
    · exact oB g2 g3 (by omega) (by omega) fun i a b=>d4 i a (by omega)
   have reach:∀ j,j<=d->Rch (g7 rows kept nm) (cH kept) (s+j,g8 rows nm s j):=fun j=>by
    induction j with
    | zero =>
     intro _
     refine .one (List.mem_map.mpr ⟨s,?_,rfl⟩)
     rcases hin with z | z
     · rw [z];exact List.mem_cons_self
     · exact List.mem_cons_of_mem _ z
    | succ j ih =>
     intro hj
     have er:rows[s+j]?=some rows[s+j]:=gQ (by omega)
     have:=run (j+1) hj
     rw [du er] at this ⊢
     refine .more (ih (by omega)) (AG er ?_ ?_ (hfr _ (by omega) (by omega)))
     · rw [this]
       split<;>decide
     · rw [S _ _ er,if_pos (by omega)]
       exact List.mem_singleton.mpr rfl
   have er:rows[s+d]?=some rows[s+d]:=gQ (by omega)
   have hfit:=h _ (reach d (nL _))
   have rd:=run d (nL _)
   rw [if_neg (by omega)] at rd
   rw [rd] at hfit
   unfold iC at hfit
   simp only [er] at hfit
   rw [oz er] at d3
   simp [mb,d3] at hfit
 · cases e
end
end L2
namespace P33
open PySem L2
def ms:Mrk->Str
 | .fresh=>"fresh" | .seen=>"seen" | .safe=>"safe" | .spoilt=>"spoilt"
def mB:∀ {a b:Mrk},ms a=ms b->a=b:=fun {a b} h=>by
 cases a<;>cases b<;>first | rfl | (exfalso;revert h;unfold ms;decide +kernel)
def BQ (a b:Mrk):decide (ms a=ms b)=decide (a=b):=by
 rw [decide_eq_decide]
 exact ⟨mB,fun h=>by rw [h]⟩
def BR (r:Rw) (nm:Str) (x:Option T):tB2 (cw false) (toD (d2 aw (vB 1) (kD (.int 0)))) (toD (bB (ae (kD (.str "load")) (ae (kD (.str "take")) ao)))) [x,some (.leaf r.d),some (.leaf (.str nm))]=some (match r with | .load _ _=>true | .take _ _ _=>true | _=>false):=by
 cases r<;>simp only [Rw.d]<;>walk_at "k"
def BS (r:Rw) (nm:Str) (x:Option T):tB2 (cw false) (toD (d2 aw (vB 1) (kD (.int 0)))) (toD (bB (ae (kD (.str "store")) (ae (kD (.str "lay")) ao)))) [x,some (.leaf r.d),some (.leaf (.str nm))]=some (match r with | .store _ _=>true | .lay _ _ _=>true | _=>false):=by
 cases r<;>simp only [Rw.d]<;>walk_at "k"
def BT (r:Rw) (nm:Str) (x:Option T):tB2 (gEq false) (toD (d2 aw (vB 1) (kD (.int 0)))) (kD (.str "store")) [x,some (.leaf r.d),some (.leaf (.str nm))]=some (match r with | .store _ _=>true | _=>false):=by
 cases r<;>simp only [Rw.d]<;>walk_at "k"
def mC (a b:Mrk) (x y:Option T):tB2 (gEq false) (vB 0) (kD (.str (ms b))) [some (.leaf (.str (ms a))),x,y]=some (decide (a=b)):=by
 rw [<- BQ]
 rfl
def rA (m:Mrk) (r:Rw) (nm:Str):q21 [.str (ms m),r.d,.str nm]=some (.leaf (.str (ms (mb m r nm)))):=by
 have e1:dX (tB2 (gEq false) (vB 0) (kD dk)) (dX (tB2 (cw false) (toD (d2 aw (vB 1) (kD (.int 0)))) (toD (bB (ae (kD (.str "load")) (ae (kD (.str "take")) ao))))) (tB2 (gEq false) (toD (d2 aw (vB 1) (kD (.int 2)))) (vB 2))) [some (.leaf (.str (ms m))),some (.leaf r.d),some (.leaf (.str nm))]=some (decide (m=.fresh)&&r.gets nm):=by
  rw [i5,show tB2 (gEq false) (vB 0) (kD dk) [some (.leaf (.str (ms m))),some (.leaf r.d),some (.leaf (.str nm))]=_ from mC m .fresh _ _]
  cases decide (m=.fresh)
  · rfl
  · rw [dl,i5,BR]
    cases r<;>rfl
 have e2:dX (tB2 (gEq false) (vB 0) (kD dk)) (dX (tB2 (gEq false) (toD (d2 aw (vB 1) (kD (.int 0)))) (kD (.str "store"))) (tB2 (gEq false) (toD (d2 aw (vB 1) (kD (.int 1)))) (vB 2))) [some (.leaf (.str (ms m))),some (.leaf r.d),some (.leaf (.str nm))]=some (decide (m=.fresh)&&r.stores nm):=by
  rw [i5,show tB2 (gEq false) (vB 0) (kD dk) [some (.leaf (.str (ms m))),some (.leaf r.d),some (.leaf (.str nm))]=_ from mC m .fresh _ _]
  cases decide (m=.fresh)
  · rfl
  · rw [dl,i5,BT]
    cases r<;>rfl
 have e3:dX (tB2 (gEq false) (vB 0) (kD kd)) (dX (tB2 (cw false) (toD (d2 aw (vB 1) (kD (.int 0)))) (toD (bB (ae (kD (.str "store")) (ae (kD (.str "lay")) ao))))) (tB2 (gEq false) (toD (d2 aw (vB 1) (kD (.int 1)))) (vB 2))) [some (.leaf (.str (ms m))),some (.leaf r.d),some (.leaf (.str nm))]=some (decide (m=.seen)&&r.puts nm):=by
  rw [i5,show tB2 (gEq false) (vB 0) (kD kd) [some (.leaf (.str (ms m))),some (.leaf r.d),some (.leaf (.str nm))]=_ from mC m .seen _ _]
  cases decide (m=.seen)
  · rfl
  · rw [dl,i5,BS]
    cases r<;>rfl
 unfold q21
 rw [pR]
 show u5 (bq _ _ [some (.leaf (.str (ms m))),some (.leaf r.d),some (.leaf (.str nm))])=_
 rw [cG,gK,e1]
 cases h1:(decide (m=.fresh)&&r.gets nm) with
 | true =>
  have:m=.fresh/\r.gets nm=true:=by simpa using h1
  rw [this.1]
  simp only [mb,this.2,if_true]
  rfl
 | false =>
  rw [dm,el,bD,cG,gK,e2]
  cases h2:(decide (m=.fresh)&&r.stores nm) with
  | true =>
   have:m=.fresh/\r.stores nm=true:=by simpa using h2
   rw [this.1] at h1 ⊢
   simp only [decide_true,Bool.true_and] at h1
   simp only [mb,this.2,h1,if_true,Bool.false_eq_true,if_false]
   rfl
  | false =>
   rw [dm,el,bD,cG,gK,e3]
   cases h3:(decide (m=.seen)&&r.puts nm) with
   | true =>
    have:m=.seen/\r.puts nm=true:=by simpa using h3
    rw [this.1]
    simp only [mb,this.2,if_true]
    rfl
   | false =>
    rw [dm,el,bD]
    cases m with
    | fresh =>
     simp only [decide_true,Bool.true_and] at h1 h2
     simp only [mb,h1,h2,Bool.false_eq_true,if_false]
     rfl
    | seen =>
     simp only [decide_true,Bool.true_and] at h3
     simp only [mb,h3,Bool.false_eq_true,if_false]
     rfl
    | safe=>rfl
    | spoilt=>rfl
def pU (n:Nat) (r:Rw):q35 [.int n,r.d]=some (.leaf (.tup ((r.outs n).map dI))):=by
 cases r<;>(unfold q35;simp only [Rw.d,Rw.outs,dI,List.map];walk_at "k")<;>rfl
def xI (c s:Dt) (rows:List Rw) (h:rows.length<=1000):ke [.tup [c,s,dR rows]]=some (.lst (rows.mapIdx fun k r=>.tup ((r.outs k).map dI))):=by
 unfold ke
 walk_at "k"
 unfold qN dR
 walk_at "k"
 rw [kg (h:=fun k r=>.tup ((r.outs k).map dI)) 0 fun k a=>⟨_,rfl,by
  unfold z62
  walk_at "k"
  rw [pU]
  walk_at "k"⟩]
 walk_at "k"
 rw [cS (by rw [List.length_mapIdx];omega)]
 walk_at "k"
 simp
def xJ (l:List Nat) (x:Nat):((l.map dI).any fun y=>eqF y (dI x))=decide (x∈l):=by
 rw [Bool.eq_iff_iff,List.any_eq_true]
 constructor
 · rintro ⟨y,hy,e⟩
   obtain ⟨z,hz,rfl⟩:=List.mem_map.mp hy
   have:(z:Int)=x:=by simpa [dI,eqF] using e
   have:z=x:=by omega
   subst this
   exact decide_eq_true hz
 · intro h
   exact ⟨dI x,List.mem_map.mpr ⟨x,of_decide_eq_true h,rfl⟩,by simp [dI,eqF]⟩
def vh (l:List Nat):(l.map dI).all bX=true:=by
 rw [List.all_eq_true]
 intro y hy
 obtain ⟨z,hz,rfl⟩:=List.mem_map.mp hy
 rfl
def oE {neg:Bool} {l:List Nat} {x:Nat}:cw neg (dI x) (.lst (l.map dI))=some (.leaf (.bl (if neg then !decide (x∈l) else decide (x∈l)))):=by
 show gIn neg (dI x) (.lst (l.map dI))=_
 unfold gIn
 have:inD (dI x) (.lst (l.map dI))=some (decide (x∈l)):=by
  show (if bX (dI x)&&(l.map dI).all bX then some ((l.map dI).any fun y=>eqF y (dI x)) else none)=_
  rw [vh,xJ]
  rfl
 rw [this]
 rfl
def kpD (ks:List (Nat×Dt)):Dt:=.tup (ks.map fun p=>.tup [dI p.1,p.2])
def rB (b:Dt) (ks:List (Nat×Dt)) (h:ks.length<=1000):z18 [.tup [b,kpD ks]]=some (.lst ((ks.map (·.1)).map dI)):=by
 unfold z18
 walk_at "k"
 unfold kpD
 walk_at "k"
 rw [bJ (h:=fun p:Nat×Dt=>dI p.1) fun p hp=>⟨_,rfl,rfl,by unfold q44;walk_at "k"⟩]
 walk_at "k"
 rw [cS (by rw [List.length_map];omega),List.map_map]
 walk_at "k"
 rfl
def g9 (kept:List Nat) (rows:List Rw):List Dt:=rows.mapIdx fun k r=>.lst (((r.outs k).filter fun w=>!decide (w∈kept)).map dI)
def z67 (kept outs:List Nat) (ho:outs.length<=10):y33 [some (.leaf (.tup (outs.map dI))),some (.leaf (.lst (kept.map dI)))]=some (.lst ((outs.filter fun w=>!decide (w∈kept)).map dI)):=by
 unfold y33
 walk_at "k"
 rw [dG (h:=dI) (p:=fun w=>!decide (w∈kept)) fun w hw=>⟨_,rfl,by
  unfold q42
  walk_at "k"
  rw [oE]
  rfl,fun _=>rfl⟩]
 walk_at "k"
 rw [cS (by rw [List.length_map];exact Nat.le_trans (List.length_filter_le _ _) (by omega))]
 walk_at "k"
def vi (c s b:Dt) (rows:List Rw) (ks:List (Nat×Dt)) (h:rows.length<=1000) (hk:ks.length<=1000):q20 [.tup [c,s,dR rows],.tup [b,kpD ks]]=some (.lst (g9 (ks.map (·.1)) rows)):=by
 unfold q20
 walk_at "k"
 rw [rB b ks hk]
 walk_at "k"
 rw [xI c s rows h]
 walk_at "k"
 unfold g9
 rw [List.mapIdx_eq_zipIdx_map,List.mapIdx_eq_zipIdx_map,bJ (h:=fun p:Rw×Nat=>Dt.lst (((p.1.outs p.2).filter fun w=>!decide (w∈ks.map (·.1))).map dI)) fun p hp=>⟨_,rfl,rfl,z67 _ _ (Nat.le_trans (Rw.outs_len _ _) (by decide))⟩]
 walk_at "k"
 rw [cS (by rw [List.length_map,List.length_zipIdx];omega)]
 walk_at "k"
structure Hd where
 x:Str
 n:Int
 b:Bool
def hdD (h:Hd):Dt:=.tup [.str h.x,.int h.n,.bl h.b]
def oF (cs ss:List Hd) (R:Dt) (hc:cs≠[]) (hs:ss≠[]) (hl:cs.length+ss.length<=1000):z15 [.tup [.tup (cs.map hdD),.tup (ss.map hdD),R]]=some (.lst ((((cs++ss).filter fun h=>!h.b).map (·.x)).map .str)):=by
 unfold z15
 walk_at "k"
 have e:bG (.tup (cs.map hdD)) (.tup (ss.map hdD))=some (.leaf (.tup ((cs++ss).map hdD))):=by
  show (if (cs.map hdD).length+(ss.map hdD).length<=sizeLine/\cs.map hdD≠[]/\ss.map hdD≠[] then _ else none)=_
  rw [if_pos ⟨by rw [List.length_map,List.length_map];exact small (by omega),by simpa using hc,by simpa using hs⟩,List.map_append]
 rw [e]
 walk_at "k"
 rw [dG (h:=fun h:Hd=>Dt.str h.x) (p:=fun h=>!h.b) fun h _=>⟨_,rfl,by
  unfold z40 hdD
  walk_at "k"
  try rfl,fun _=>by unfold y39 hdD;walk_at "k"⟩]
 walk_at "k"
 rw [cS (by rw [List.length_map];exact Nat.le_trans (List.length_filter_le _ _) (by rw [List.length_append];omega)),List.map_map]
 walk_at "k"
 rfl
def c9 (t:Nat×Mrk):Dt:=.tup [dI t.1,.str (ms t.2)]
def pV {rows:List Rw} {i:Nat} {r:Rw} (h:rows[i]?=some r):aw (dR rows) (dI i)=some (.leaf r.d):=by
 unfold dR dI
 rw [yl,cq,List.getElem?_map,h]
 rfl
def AI {kept:List Nat} {rows:List Rw} {i:Nat} {r:Rw} (h:rows[i]?=some r):aw (.lst (g9 kept rows)) (dI i)=some (.leaf (.lst (((r.outs i).filter fun w=>!decide (w∈kept)).map dI))):=by
 unfold g9 dI
 rw [rn,cq,List.getElem?_mapIdx,h]
 rfl
def rC (t:Nat×Mrk):aw (c9 t) (.int 0)=some (.leaf (dI t.1)):=by
 unfold c9
 walk_at "k"
def yH (t:Nat×Mrk):aw (c9 t) (.int 1)=some (.leaf (.str (ms t.2))):=by
 unfold c9
 walk_at "k"
def BU {a b:Mrk}:decide (ms a=ms b)=decide (a=b):=by
 rw [decide_eq_decide]
 exact ⟨mB,fun h=>by rw [h]⟩
def sN {rows:List Rw} {nm:Str} {t:Nat×Mrk} (h:t.1<rows.length):jp 3 bw [.str nm,dR rows] [c9 t]=some (.leaf (.bl (iC rows nm t))):=by
 have hr:rows[t.1]?=some rows[t.1]:=gQ h
 unfold jp
 show (match bw [some (.leaf (c9 t)),some (.leaf (.str nm)),some (.leaf (dR rows))] with
  | some (.rt t)=>some t | some (.nx _)=>some (.leaf .non) | _=>none)=_
 have e:bw [some (.leaf (c9 t)),some (.leaf (.str nm)),some (.leaf (dR rows))]=some (.rt (.leaf (.bl (iC rows nm t)))):=by
  unfold bw
  walk_at "k"
  rw [yH,rC]
  walk_at "k"
  rw [pV hr]
  walk_at "k"
  rw [rA]
  unfold iA
  walk_at "k"
  unfold iC
  simp only [hr]
  rw [<- BU]
  rfl
 rw [e]
def sO {rows:List Rw} {kept:List Nat} {nm:Str} {t:Nat×Mrk} (h:t.1<rows.length):jp 5 bv [.str nm,dR rows,.lst (g9 kept rows)] [c9 t]=some (.lst ((g7 rows kept nm t).map c9)):=by
 have hr:rows[t.1]?=some rows[t.1]:=gQ h
 unfold jp
 show (match bv [some (.leaf (c9 t)),none,some (.leaf (.str nm)),some (.leaf (dR rows)),some (.leaf (.lst (g9 kept rows)))] with
  | some (.rt t)=>some t | some (.nx _)=>some (.leaf .non) | _=>none)=_
 have e:bv [some (.leaf (c9 t)),none,some (.leaf (.str nm)),some (.leaf (dR rows)),some (.leaf (.lst (g9 kept rows)))]=some (.rt (.lst ((g7 rows kept nm t).map c9))):=by
  unfold bv
  walk_at "k"
  rw [yH,rC]
  walk_at "k"
  rw [pV hr]
  walk_at "k"
  rw [rA]
  unfold mq
  walk_at "k"
  unfold g7
  simp only [hr]
  generalize hm:mb t.2 rows[t.1] nm=m
  by_cases e:m=.safe
  · rw [ro (by simp [e,ms]),if_pos e]
    walk_at "k"
  · rw [rp (by simp only [decide_eq_false_iff_not];exact fun z=>e (mB (b:=.safe) z)),if_neg e]
    walk_at "k"
    rw [rC]
    walk_at "k"
    rw [AI hr]
    walk_at "k"
    rw [bJ (h:=fun w:Nat=>c9 (w,m)) fun w _=>⟨_,rfl,rfl,by unfold z36 c9;walk_at "k"⟩]
    walk_at "k"
    rw [cS (by rw [List.length_map];exact Nat.le_trans (List.length_filter_le _ _) (Nat.le_trans (Rw.outs_len _ _) (by decide))),List.map_map]
    walk_at "k"
    rfl
 rw [e]
end P33
namespace L2
open PySem
def iD {ch:CH} {d:Dt} {δ:Sl} {i:Nat} (h:δ[i]?=some (some (.dat d))):eD (vL i) δ ch=some (.dat d,ch):=iB (lH h)
section
variable {α:Type} [DecidableEq α] (ky:α->Int×Str)
def nD (t:α):Dt:=.tup [.int (ky t).1,.str (ky t).2]
def nK (t:α):List Key:=[.inl (ky t).1,.inr (ky t).2]
def pC:Option α->CV
 | none=>.dat .non
 | some p=>.dat (nD ky p)
def cfD (cf:CF α):List (List Key×CV):=cf.map fun p=>(nK ky p.1,pC ky p.2)
def lsC (l:List α):CO:=.lst (l.map fun t=>.dat (nD ky t))
def hpR (ch0:CH) (cf:CF α) (J:List (List α)):CH:=ch0++(.dT (cfD ky cf)::lsC ky (ks cf)::J.map (lsC ky))
def sR (st:Dt) (f1 f2:Addr) (F0:Hp) (i0:Nat) (x4 x6 x7 x8:Option CV):Sl:=[some (.dat st),some (.fn f1 F0),some (.fn f2 F0),some (.ref i0),x4,some (.ref (i0+1)),x6,x7,x8]
variable {ky}
def mD (hk:∀ a b,ky a=ky b->a=b) {a b:α} (h:nK ky a=nK ky b):a=b:=by
 unfold nK at h
 simp only [List.cons.injEq,Sum.inl.injEq,Sum.inr.injEq,and_true] at h
 exact hk a b (Prod.ext h.1 h.2)
def jA (t:α):lD (.dat (nD ky t))=some (nK ky t):=rfl
def vj (hk:∀ a b,ky a=ky b->a=b) (t:α):∀ cf:CF α,lkC (cfD ky cf) (nK ky t)=(look cf t).map (pC ky)
 | []=>rfl
 | p::cf=>by
  have ih:=vj hk t cf
  unfold lkC cfD look at ih ⊢
  rw [List.map_cons]
  by_cases e:p.1=t
  · rw [List.find?_cons_of_pos (by simp [e]),List.find?_cons_of_pos (by simp [e])]
    rfl
  · rw [List.find?_cons_of_neg (by simpa using fun z=>e (mD hk z)),List.find?_cons_of_neg (by simpa using e)]
    exact ih
def BV {cf:CF α} {t:α}:(look cf t).isSome=decide (t∈ks cf):=by
 induction cf with
 | nil=>rfl
 | cons p cf ih =>
  unfold look at ih ⊢
  by_cases e:p.1=t
  · rw [List.find?_cons_of_pos (by simp [e])]
    simp [ks,e]
  · rw [List.find?_cons_of_neg (by simpa using e),ih]
    rw [decide_eq_decide]
    show t∈ks cf↔t∈p.1::ks cf
    constructor
    · exact List.mem_cons_of_mem _
    · intro h
      rcases List.mem_cons.mp h with z | z
      · exact absurd z.symm e
      · exact z
def pW (hk:∀ a b,ky a=ky b->a=b) {t:α} {c:Option α}:∀ {cf:CF α},t∉ks cf->fU (cfD ky cf) (nK ky t) (pC ky c)=cfD ky (cf++[(t,c)])
 | [],_=>rfl
 | p::cf,h=>by
  have h1:p.1≠t:=fun z=>h (z▸List.mem_cons_self)
  have h2:t∉ks cf:=fun z=>h (List.mem_cons_of_mem _ z)
  show fU ((nK ky p.1,pC ky p.2)::cfD ky cf) _ _=_
  unfold fU
  rw [if_neg fun z=>h1 (mD hk z),pW hk h2]
  rfl
def vk (hk:∀ a b,ky a=ky b->a=b) {cf:CF α} (h:(ks cf).Nodup):((cfD ky cf).map (·.1)).Nodup:=by
 have e:(cfD ky cf).map (·.1)=(ks cf).map (nK ky):=by
  unfold cfD ks
  rw [List.map_map,List.map_map]
  rfl
 rw [e]
 rw [List.nodup_iff_pairwise_ne,List.pairwise_map]
 exact List.Pairwise.imp (fun h z=>h (mD hk z)) (List.nodup_iff_pairwise_ne.mp h)
def rD (cf:CF α):(cfD ky cf).length=cf.length:=List.length_map ..
section
variable {ch0:CH} {cf cf':CF α} {J:List (List α)}
def AJ:(hpR ky ch0 cf J)[ch0.length]?=some (.dT (cfD ky cf)):=by unfold hpR;simp
def AK:(hpR ky ch0 cf J)[ch0.length+1]?=some (lsC ky (ks cf)):=by
 unfold hpR
 rw [gR (by omega),show ch0.length+1-ch0.length=1 by omega]
 rfl
def hp_J {l:List α}:(hpR ky ch0 cf (J++[l]))[ch0.length+2+J.length]?=some (lsC ky l):=by
 unfold hpR
 rw [List.getElem?_append_right (by omega),show ch0.length+2+J.length-ch0.length=J.length+1+1 by omega,List.getElem?_cons_succ,List.getElem?_cons_succ,List.map_append,List.getElem?_append_right (by simp)]
 simp
def ko:(hpR ky ch0 cf J).length=ch0.length+2+J.length:=by unfold hpR;simp;omega
def AL {t:α} {q:Option α}:((hpR ky ch0 cf J).set ch0.length (.dT (cfD ky (cf++[(t,q)])))).set (ch0.length+1) (.lst ((ks cf).map (fun t=>.dat (nD ky t))++[.dat (nD ky t)]))=hpR ky ch0 (cf++[(t,q)]) J:=by
 unfold hpR
 rw [List.set_append_right _ _ (by omega),Nat.sub_self,List.set_append_right _ _ (by omega),show ch0.length+1-ch0.length=1 by omega,List.set_cons_zero,List.set_cons_succ,List.set_cons_zero]
 unfold lsC
 rw [d9,List.map_append]
 rfl
end
end
def RT0:Fs:=fj (eV 3) (eD (vL 4)) (eD (kD .non))
def RT1:Fs:=fT (sH (eD (vL 8)) (eV 3)) (aJ (fj (eV 3) (eD (vL 8)) (eD (vL 7))) (fB (eV 5) (eD (vL 8)))) fA
def TRb:Fs:=aJ (fB (eV 2) (eD (vL 3))) (aT 3 (sG (eV 0) (eD (vL 3))))
def TRc:Ft:=tD (tB2 (gIs true) (vB 3) (kD .non))
def TRf:Fd:=gx 4 (aJ (aT 2 (eN (cN ao))) (aJ (aT 3 (eD (vL 1))) (aJ (bI TRc TRb 100000) (dB (eLR (eV 2))))))
noncomputable def RT2 (G:Orc):Fs:=aJ (aT 7 (eIx (eV 5) (eD (vL 6)))) (aJ (j7 (fun i j=>i+j) 6 (eD (kD (.int 1)))) (aJ (fT (gE (eCl G 2 (ay (eD (vL 7)) bV))) (dB (eC TRf (ay (eV 3) (ay (eD (vL 7)) bV)))) fA) (g5 (eCl G 1 (ay (eD (vL 7)) bV)) (ggN 8) RT1 100000)))
def RTc:Ft:=iR (e2 (l7 fun i j=>decide (i<j)) (eD (vL 6)) (eB db (ay (eV 5) bV)))
def RTf (G:Orc):Fd:=gx 9 (aJ (aT 3 eNT) (aJ (lm (fIt (vL 0)) [4] (aG 4) RT0) (aJ (aT 5 (eLT (eV 3))) (aJ (aT 6 (eD (kD (.int 0)))) (aJ (bI RTc (RT2 G) 100000) (dB (eD (kD .non))))))))
section
variable {α:Type} [DecidableEq α] {ky:α->Int×Str} (hk:∀ a b,ky a=ky b->a=b) {st:Dt} {f1 f2:Addr} {F0:Hp} {ch0:CH} {cf:CF α} {J:List (List α)} {G:Orc}
include hk in
def xK {x4 x6:Option CV} {h t:α} (nd:(ks cf).Nodup) (hl:cf.length<100000) :
  RT1 (sR st f1 f2 F0 ch0.length x4 x6 (some (.dat (nD ky h))) (some (.dat (nD ky t)))) (hpR ky ch0 cf J)=some (.nx (sR st f1 f2 F0 ch0.length x4 x6 (some (.dat (nD ky h))) (some (.dat (nD ky t)))) (hpR ky ch0 (g6 h cf t) J)):=by
 generalize hδ:sR st f1 f2 F0 ch0.length x4 x6 (some (.dat (nD ky h))) (some (.dat (nD ky t)))=δ
 have d8:eD (vL 8) δ=fun ch=>some (.dat (nD ky t),ch):=funext fun ch=>iD (by rw [<- hδ];rfl)
 have d7:eD (vL 7) δ=fun ch=>some (.dat (nD ky h),ch):=funext fun ch=>iD (by rw [<- hδ];rfl)
 have v3:eV 3 δ=fun ch=>some (.ref ch0.length,ch):=funext fun ch=>dP (by rw [<- hδ];rfl)
 have v5:eV 5 δ=fun ch=>some (.ref (ch0.length+1),ch):=funext fun ch=>dP (by rw [<- hδ];rfl)
 have hc:sH (eD (vL 8)) (eV 3) δ (hpR ky ch0 cf J)=some (!decide (t∈ks cf),hpR ky ch0 cf J):=by
  unfold sH
  rw [d8,v3]
  simp only [Option.bind_some]
  rw [AJ]
  simp only [Option.bind_some,asT,jA,Option.map_some]
  rw [vj hk,Option.isSome_map,BV]
 unfold RT1
 by_cases q:t∈ks cf
 · rw [decide_eq_true q] at hc
   rw [i6 hc,show g6 h cf t=cf from if_pos q]
   rfl
 · rw [decide_eq_false q] at hc
   rw [kh hc,show g6 h cf t=cf++[(t,some h)] from if_neg q]
   have hp:fj (eV 3) (eD (vL 8)) (eD (vL 7)) δ (hpR ky ch0 cf J)=some (.nx δ ((hpR ky ch0 cf J).set ch0.length (.dT (cfD ky (cf++[(t,some h)]))))):=by
    unfold fj
    rw [d7,v3,d8]
    simp only [Option.bind_some]
    rw [AJ]
    simp only [jA,Option.bind_some]
    rw [if_pos ⟨by rw [rD];exact small (by omega),vk hk nd⟩,<- pW hk (c:=some h) q]
    rfl
   rw [aI hp]
   unfold fB
   rw [v5,d8]
   simp only [Option.bind_some]
   have e1:((hpR ky ch0 cf J).set ch0.length (.dT (cfD ky (cf++[(t,some h)]))))[ch0.length+1]?=some (lsC ky (ks cf)):=by
    rw [gN (by omega)]
    exact AK
   rw [e1]
   unfold lsC
   dsimp only
   rw [if_pos (by rw [List.length_map,show (ks cf).length=cf.length from List.length_map ..];exact small (by omega)),AL]
include hk in
def lK {x4 x6:Option CV} {h:α} {l:List α} {m:Nat}:∀ (d i n:Nat) (cf:CF α) (x8:Option CV),i+d=l.length->d<n->(ks cf).Nodup->cf.length+d<100000→
  ∃ y8,iX (ch0.length+2+J.length) (ggN 8) RT1 n i (sR st f1 f2 F0 ch0.length x4 x6 (some (.dat (nD ky h))) x8) (hpR ky ch0 cf (J++[l]))=some (.nx (sR st f1 f2 F0 ch0.length x4 x6 (some (.dat (nD ky h))) y8) (hpR ky ch0 (bR h cf (l.drop i)) (J++[l])))
 | 0,i,n,cf,x8,hi,hn,nd,hl=>by
  obtain ⟨n,rfl⟩:∃ m,n=m+1:=⟨n-1,by omega⟩
  refine ⟨x8,?_⟩
  unfold iX
  rw [hp_J]
  unfold lsC
  dsimp only
  rw [List.getElem?_eq_none (by rw [List.length_map];omega),List.drop_eq_nil_of_le (by omega)]
  rfl
 | d+1,i,n,cf,x8,hi,hn,nd,hl=>by
  obtain ⟨n,rfl⟩:∃ m,n=m+1:=⟨n-1,by omega⟩
  have hil:i<l.length:=by omega
  obtain ⟨e,h1,h2,h3,h4⟩:=cT h [l[i]] cf
  have e1:bR h cf [l[i]]=g6 h cf l[i]:=rfl
  rw [e1] at h1 h3
  have hlen:(g6 h cf l[i]).length<=cf.length+1:=by unfold g6;split<;>simp
  obtain ⟨y8,ih⟩:=lK (l:=l) (m:=m) d (i+1) n (g6 h cf l[i]) (some (.dat (nD ky l[i]))) (by omega) (by omega) (h3 nd) (by omega)
  refine ⟨y8,?_⟩
  unfold iX
  rw [hp_J]
  unfold lsC
  dsimp only
  rw [List.getElem?_map,gQ hil]
  simp only [Option.map_some]
  have hb:ggN 8 (.dat (nD ky l[i])) (hpR ky ch0 cf (J++[l])) (sR st f1 f2 F0 ch0.length x4 x6 (some (.dat (nD ky h))) x8)=some (sR st f1 f2 F0 ch0.length x4 x6 (some (.dat (nD ky h))) (some (.dat (nD ky l[i])))):=rfl
  rw [hb,Option.bind_some,xK hk nd (by omega),Option.bind_some]
  dsimp only
  rw [ih]
  have:l.drop i=l[i]::l.drop (i+1):=List.drop_eq_getElem_cons hil
  rw [this]
  rfl
end
section
variable {α:Type} [DecidableEq α] {ky:α->Int×Str} (hk:∀ a b,ky a=ky b->a=b) {st:Dt} {f1 f2:Addr} {F0:Hp} {ch0:CH} {cf:CF α} {J:List (List α)} {G:Orc}
include hk in
def pX {H:CH} {i0:Nat} {la:Dt} (h0:H[i0]?=some (.dT (cfD ky cf))):∀ {t:α} {ws:List α},Tr cf t ws->∀ (n:Nat) (acc:List CV),ws.length<n->acc.length+ws.length<100000→
  bI TRc TRb n [some (.ref i0),some (.dat la),some (.ref H.length),some (.dat (nD ky t))] (H++[.lst acc])=some (.nx [some (.ref i0),some (.dat la),some (.ref H.length),some (.dat .non)] (H++[.lst (acc++ws.map fun t=>.dat (nD ky t))])):=by
 intro t ws tr
 have hi:i0<H.length:=(gX h0).1
 have one:∀ (t:α) (acc:List CV) (q:Option α),look cf t=some q->acc.length<100000→
     TRc [some (.ref i0),some (.dat la),some (.ref H.length),some (.dat (nD ky t))] (H++[.lst acc])=some (true,H++[.lst acc])∧
     TRb [some (.ref i0),some (.dat la),some (.ref H.length),some (.dat (nD ky t))] (H++[.lst acc])=some (.nx [some (.ref i0),some (.dat la),some (.ref H.length),some (pC ky q)] (H++[.lst (acc++[.dat (nD ky t)])])):=by
  intro t acc q hq hl
  generalize hδ:([some (.ref i0),some (.dat la),some (.ref H.length),some (.dat (nD ky t))]:Sl)=δ
  have d3:eD (vL 3) δ=fun ch=>some (.dat (nD ky t),ch):=funext fun ch=>iD (by rw [<- hδ];rfl)
  have v0:eV 0 δ=fun ch=>some (.ref i0,ch):=funext fun ch=>dP (by rw [<- hδ];rfl)
  have v2:eV 2 δ=fun ch=>some (.ref H.length,ch):=funext fun ch=>dP (by rw [<- hδ];rfl)
  refine ⟨n5 ?_,?_⟩
  · unfold tB2 d2
    rw [lI (d:=nD ky t) (by rw [<- hδ];rfl)]
    rfl
  · unfold TRb
    have ha:fB (eV 2) (eD (vL 3)) δ (H++[.lst acc])=some (.nx δ (H++[.lst (acc++[.dat (nD ky t)])])):=by
     unfold fB
     rw [v2,d3]
     simp only [Option.bind_some]
     rw [gR (nL _),Nat.sub_self]
     simp only [List.getElem?_cons_zero]
     rw [if_pos (eR (by omega)),List.set_append_right _ _ (nL _),Nat.sub_self]
     rfl
    rw [aI ha]
    have hx:sG (eV 0) (eD (vL 3)) δ (H++[.lst (acc++[.dat (nD ky t)])])=some (pC ky q,H++[.lst (acc++[.dat (nD ky t)])]):=by
     unfold sG
     rw [v0,d3]
     simp only [Option.bind_some]
     rw [List.getElem?_append_left hi,h0]
     simp only [Option.bind_some,asT,jA]
     rw [vj hk,hq]
     rfl
    rw [bO hx,<- hδ]
    rfl
 induction tr with
 | @one t h =>
  intro n acc hn hl
  obtain ⟨n,rfl⟩:∃ m,n=m+2:=⟨n-2,by simp at hn;omega⟩
  obtain ⟨a,b⟩:=one t acc none h (by omega)
  rw [ki a b]
  have c:TRc [some (.ref i0),some (.dat la),some (.ref H.length),some (pC ky none)] (H++[.lst (acc++[.dat (nD ky t)])])=some (false,H++[.lst (acc++[.dat (nD ky t)])]):=n5 (by
   unfold tB2 d2
   rw [lI (d:=.non) rfl]
   rfl)
  rw [oh c]
  rfl
 | @more t p r h r' ih =>
  intro n acc hn hl
  obtain ⟨n,rfl⟩:∃ m,n=m+1:=⟨n-1,by omega⟩
  obtain ⟨a,b⟩:=one t acc (some p) h (by simp at hl;omega)
  rw [ki a b]
  have:=ih n (acc++[.dat (nD ky t)]) (by simp at hn;omega) (by simp at hl ⊢;omega)
  rw [show pC ky (some p)=.dat (nD ky p) from rfl,this,List.append_assoc]
  rfl
include hk in
def sP {H:CH} {i0:Nat} (h0:H[i0]?=some (.dT (cfD ky cf))) {t:α} {ws:List α} (tr:Tr cf t ws) (hl:ws.length<10000) :
  TRf [.ref i0,.dat (nD ky t)] H=some (.ref (H.length+1),H++[lsC ky ws,lsC ky ws.reverse]):=by
 refine jz ?_
 have e1:aT 2 (eN (cN ao)) [some (.ref i0),some (.dat (nD ky t)),none,none] H=some (.nx [some (.ref i0),some (.dat (nD ky t)),some (.ref H.length),none] (H++[.lst []])):=rfl
 show aJ _ _ [some (.ref i0),some (.dat (nD ky t)),none,none] H=_
 rw [aI e1]
 have e2:aT 3 (eD (vL 1)) [some (.ref i0),some (.dat (nD ky t)),some (.ref H.length),none] (H++[.lst []])=some (.nx [some (.ref i0),some (.dat (nD ky t)),some (.ref H.length),some (.dat (nD ky t))] (H++[.lst []])):=by
  rw [bO (iD (d:=nD ky t) rfl)]
  rfl
 rw [aI e2,aI (pX hk h0 tr 100000 [] (by omega) (by simp;omega))]
 refine fY ?_
 unfold eLR
 rw [dP (v:=.ref H.length) rfl]
 simp only [Option.bind_some]
 rw [gR (nL _),Nat.sub_self]
 simp only [List.getElem?_cons_zero,List.nil_append,List.length_append,List.length_cons,List.length_nil]
 rw [List.append_assoc]
 unfold lsC
 rw [List.map_reverse]
 rfl
def fin0 (cf:CF α) (J:List (List α)) (ch0:CH):Option α->Option (CV×CH)
 | none=>some (.dat .non,hpR ky ch0 cf J)
 | some h=>TRf [.ref ch0.length,.dat (nD ky h)] (hpR ky ch0 cf J)
include hk in
def hV {U:List α} {beh:α->List α} {fit:α->Bool} (hU:∀ t∈U,∀ u∈beh t,u∈U) (hUl:U.length<=10000) (hbl:∀ t∈U,(beh t).length<=1000) (h1:∀ t∈U,G f1 F0 [nD ky t]=some (.lst ((beh t).map (nD ky)))) (h2:∀ t∈U,G f2 F0 [nD ky t]=some (.leaf (.bl (fit t)))) :
  ∀ (n:Nat) (cf:CF α) (k:Nat) (J:List (List α)) (x4 x7 x8:Option CV) (f:Option α) (cf':CF α) (J':List (List α)),(ks cf).Nodup->(∀ t∈ks cf,t∈U)->bfs beh fit n cf k J=some (f,cf',J')→
   match f with
   | none=>∃ δ',bI RTc (RT2 G) n (sR st f1 f2 F0 ch0.length x4 (some (.dat (.int k))) x7 x8) (hpR ky ch0 cf J)=some (.nx δ' (hpR ky ch0 cf' J'))
   | some h=>∀ c ch',TRf [.ref ch0.length,.dat (nD ky h)] (hpR ky ch0 cf' J')=some (c,ch')->bI RTc (RT2 G) n (sR st f1 f2 F0 ch0.length x4 (some (.dat (.int k))) x7 x8) (hpR ky ch0 cf J)=some (.rt c ch')
 | 0,cf,k,J,x4,x7,x8,f,cf',J',nd,hc,hb=>by cases hb
 | n+1,cf,k,J,x4,x7,x8,f,cf',J',nd,hc,hb=>by
  have hcl:cf.length<=10000:=by
   have:=eQ nd hc
   rw [show (ks cf).length=cf.length from List.length_map ..] at this
   omega
  have hlen:vws (hpR ky ch0 cf J) [.ref (ch0.length+1)]=some [.lst ((ks cf).map (nD ky))]:=by
   have e:vw (hpR ky ch0 cf J) (.ref (ch0.length+1))=some (.lst ((ks cf).map (nD ky))):=by
    show ((hpR ky ch0 cf J)[ch0.length+1]?).bind vwO=_
    rw [AK]
    unfold lsC vwO
    simp only [Option.bind_some]
    have:∀ l:List α,dats (l.map fun t=>CV.dat (nD ky t))=some (l.map (nD ky)):=fun l=>by
     induction l with
     | nil=>rfl
     | cons a l ih=>simp only [List.map_cons,dats,ih,Option.map_some]
    rw [this]
    rfl
   unfold vws
   rw [e]
   rfl
  have test:RTc (sR st f1 f2 F0 ch0.length x4 (some (.dat (.int k))) x7 x8) (hpR ky ch0 cf J)=some (decide ((k:Int)<cf.length),hpR ky ch0 cf J):=by
   unfold RTc iR
   have e:eB db (ay (eV 5) bV) (sR st f1 f2 F0 ch0.length x4 (some (.dat (.int k))) x7 x8) (hpR ky ch0 cf J)=some (.dat (.int (cf.length:Int)),hpR ky ch0 cf J):=by
    rw [BP (cs:=[.ref (ch0.length+1)]) (ch1:=hpR ky ch0 cf J) rfl hlen (t:=.leaf (.int (cf.length:Int))) (by
     show some (T.leaf (.int (((ks cf).map (nD ky)).length:Int)))=_
     rw [List.length_map,show (ks cf).length=cf.length from List.length_map ..])]
    rfl
   rw [vc (iD (d:=.int k) rfl) e rfl rfl (t:=.leaf (.bl (decide ((k:Int)<cf.length)))) rfl]
   rfl
  unfold bfs at hb
  cases q:cf[k]? with
  | none =>
   rw [q] at hb
   cases hb
   have:=List.getElem?_eq_none_iff.mp q
   dsimp only
   rw [decide_eq_false (by omega)] at test
   exact ⟨_,oh test⟩
  | some x =>
   obtain ⟨h,pq⟩:=x
   rw [q] at hb
   dsimp only at hb
   have hkl:=(gX q).1
   have hhU:h∈U:=hc h (gq q)
   rw [decide_eq_true (by omega)] at test
   -- here=queue[looked];looked += 1
   have s1:aT 7 (eIx (eV 5) (eD (vL 6))) (sR st f1 f2 F0 ch0.length x4 (some (.dat (.int k))) x7 x8) (hpR ky ch0 cf J)=some (.nx (sR st f1 f2 F0 ch0.length x4 (some (.dat (.int k))) (some (.dat (nD ky h))) x8) (hpR ky ch0 cf J)):=by
    have hx:ixO (lsC ky (ks cf)) (.int (k:Int))=some (.dat (nD ky h)):=by
     show (some (k:Int)).bind (atI _)=_
     rw [Option.bind_some,cq,List.getElem?_map]
     have:(ks cf)[k]?=some h:=by unfold ks;rw [List.getElem?_map,q];rfl
     rw [this]
     rfl
    rw [bO (AC (i:=ch0.length+1) (dP rfl) (iD (d:=.int k) rfl) AK hx)]
    rfl
   have s2:j7 (fun i j=>i+j) 6 (eD (kD (.int 1))) (sR st f1 f2 F0 ch0.length x4 (some (.dat (.int k))) (some (.dat (nD ky h))) x8) (hpR ky ch0 cf J)=some (.nx (sR st f1 f2 F0 ch0.length x4 (some (.dat (.int ((k+1:Nat):Int)))) (some (.dat (nD ky h))) x8) (hpR ky ch0 cf J)):=by
    show some (Og.nx _ _)=some (Og.nx _ _)
    rw [show ((k+1:Nat):Int)=(k:Int)+1 by omega]
    rfl
   have cl:∀ (i:Nat) (fa:Addr) (t:T),(sR st f1 f2 F0 ch0.length x4 (some (.dat (.int ((k+1:Nat):Int)))) (some (.dat (nD ky h))) x8)[i]?=some (some (.fn fa F0))->G fa F0 [nD ky h]=some t→
       eCl G i (ay (eD (vL 7)) bV) (sR st f1 f2 F0 ch0.length x4 (some (.dat (.int ((k+1:Nat):Int)))) (some (.dat (nD ky h))) x8) (hpR ky ch0 cf J)=al (hpR ky ch0 cf J) t:=fun i fa t e1 e2=>by
    unfold eCl
    rw [e1]
    dsimp only
    have:ay (eD (vL 7)) bV (sR st f1 f2 F0 ch0.length x4 (some (.dat (.int ((k+1:Nat):Int)))) (some (.dat (nD ky h))) x8) (hpR ky ch0 cf J)=some ([.dat (nD ky h)],hpR ky ch0 cf J):=by
     unfold ay
     rw [iD (d:=nD ky h) rfl]
     rfl
    rw [this]
    simp only [Option.bind_some,dats,Option.map_some]
    rw [e2]
    rfl
   have tf:gE (eCl G 2 (ay (eD (vL 7)) bV)) (sR st f1 f2 F0 ch0.length x4 (some (.dat (.int ((k+1:Nat):Int)))) (some (.dat (nD ky h))) x8) (hpR ky ch0 cf J)=some (fit h,hpR ky ch0 cf J):=
    n6 (by rw [cl 2 f2 _ rfl (h2 h hhU)];rfl)
   cases hf:fit h with
   | true =>
    rw [hf] at hb tf
    cases hb
    dsimp only
    intro c ch' ht
    unfold bI
    rw [test]
    simp only [Option.bind_some,if_true]
    unfold RT2
    rw [aI s1,aI s2,oe (by
     rw [kh tf]
     refine fY (v:=c) (ch1:=ch') ?_
     rw [u9 (cs:=[.ref ch0.length,.dat (nD ky h)]) (ch2:=hpR ky ch0 cf J) (by
      unfold ay
      rw [dP (v:=.ref ch0.length) rfl]
      simp only [Option.bind_some]
      rw [iD (d:=nD ky h) rfl]
      rfl)]
     exact ht)]
    rfl
   | false =>
    rw [hf] at hb tf
    simp only [Bool.false_eq_true,if_false] at hb
    obtain ⟨e,p1,p2,p3,p4⟩:=cT h (beh h) cf
    obtain ⟨y8,hp⟩:=lK hk (st:=st) (f1:=f1) (f2:=f2) (F0:=F0) (ch0:=ch0) (J:=J) (x4:=x4) (x6:=some (.dat (.int ((k+1:Nat):Int)))) (h:=h) (l:=beh h) (m:=0) (beh h).length 0 100000 cf x8 (by omega) (by have:=hbl h hhU;omega) nd (by have:=hbl h hhU;omega)
    have body:RT2 G (sR st f1 f2 F0 ch0.length x4 (some (.dat (.int k))) x7 x8) (hpR ky ch0 cf J)=some (.nx (sR st f1 f2 F0 ch0.length x4 (some (.dat (.int ((k+1:Nat):Int)))) (some (.dat (nD ky h))) y8) (hpR ky ch0 (bR h cf (beh h)) (J++[beh h]))):=by
     unfold RT2
     rw [aI s1,aI s2,aI (by rw [i6 tf];rfl)]
     unfold g5
     have hJ:al (hpR ky ch0 cf J) (.lst ((beh h).map (nD ky)))=some (.ref (ch0.length+2+J.length),hpR ky ch0 cf (J++[beh h])):=by
      show some (CV.ref (hpR ky ch0 cf J).length,hpR ky ch0 cf J++[CO.lst (((beh h).map (nD ky)).map CV.dat)])=_
      rw [ko]
      unfold hpR lsC
      rw [List.map_append,List.append_assoc,List.map_map]
      rfl
     rw [cl 1 f1 _ rfl (h1 h hhU),hJ]
     simp only [Option.bind_some]
     rw [hp,List.drop_zero]
    have:=hV hU hUl hbl h1 h2 n (bR h cf (beh h)) (k+1) (J++[beh h]) x4 (some (.dat (nD ky h))) y8 f cf' J' (p3 nd) (kj hc (hU h hhU)) hb
    have wt:=ki (n:=n) test body
    cases f with
    | none =>
     obtain ⟨δ',hd⟩:=this
     exact ⟨δ',by rw [wt];exact hd⟩
    | some h' =>
     dsimp only at this ⊢
     intro c ch' ht
     rw [wt]
     exact this c ch' ht
end
section
variable {α:Type} [DecidableEq α] {ky:α->Int×Str} (hk:∀ a b,ky a=ky b->a=b) {st:Dt} {f1 f2:Addr} {F0:Hp} {ch0:CH} {cf:CF α} {J:List (List α)} {G:Orc}
include hk in
def oG {t:α}:∀ {cf:CF α},t∈ks cf->(∀ p∈cf,p.2=none)->fU (cfD ky cf) (nK ky t) (.dat .non)=cfD ky cf
 | [],h,_=>by cases h
 | p::cf,h,hn=>by
  show fU ((nK ky p.1,pC ky p.2)::cfD ky cf) _ _=(nK ky p.1,pC ky p.2)::cfD ky cf
  unfold fU
  by_cases e:p.1=t
  · rw [if_pos (by rw [e]),hn p List.mem_cons_self]
    rfl
  · rw [if_neg fun z=>e (mD hk z),oG (by
     rcases List.mem_cons.mp h with z | z
     · exact absurd z.symm e
     · exact z) fun q hq=>hn q (List.mem_cons_of_mem _ hq)]
def sS (st:Dt) (f1 f2:Addr) (F0:Hp) (i0:Nat) (x4:Option CV):Sl:=[some (.dat st),some (.fn f1 F0),some (.fn f2 F0),some (.ref i0),x4,none,none,none,none]
include hk in
def sQ {x4:Option CV} {t:α} (nd:(ks cf).Nodup) (hn:∀ p∈cf,p.2=none) (hl:cf.length<100000):RT0 (sS st f1 f2 F0 ch0.length (some (.dat (nD ky t)))) (ch0++[.dT (cfD ky cf)])=some (.nx (sS st f1 f2 F0 ch0.length (some (.dat (nD ky t)))) (ch0++[.dT (cfD ky (bh cf t))])):=by
 unfold RT0 fj
 rw [show eD (kD .non) (sS st f1 f2 F0 ch0.length (some (.dat (nD ky t)))) (ch0++[.dT (cfD ky cf)])=some (.dat .non,ch0++[.dT (cfD ky cf)]) from rfl]
 simp only [Option.bind_some]
 rw [dP (v:=.ref ch0.length) rfl]
 simp only [Option.bind_some]
 rw [iD (d:=nD ky t) rfl]
 simp only [Option.bind_some]
 rw [gR (nL _),Nat.sub_self]
 simp only [List.getElem?_cons_zero,jA,Option.bind_some]
 rw [if_pos ⟨by rw [rD];exact eR (by omega),vk hk nd⟩,List.set_append_right _ _ (nL _),Nat.sub_self]
 unfold bh
 by_cases q:t∈ks cf
 · rw [if_pos q,oG hk q hn]
   rfl
 · rw [if_neg q,<- pW hk (c:=none) q]
   rfl
def AM (cf:CF α) (t:α):(bh cf t).length<=cf.length+1:=by unfold bh;split<;>simp
def BW {cf:CF α} {t:α} (nd:(ks cf).Nodup):(ks (bh cf t)).Nodup:=by
 unfold bh
 split
 · exact nd
 · rename_i q
   rw [d9]
   refine List.nodup_append.mpr ⟨nd,by simp [ks],fun a ha b hb=>?_⟩
   simp [ks] at hb
   subst hb
   rintro rfl
   exact q ha
def rE {cf:CF α} {t:α} (hn:∀ p∈cf,p.2=none):∀ p∈bh cf t,p.2=none:=fun p hp=>by
 unfold bh at hp
 split at hp
 · exact hn p hp
 · rcases List.mem_append.mp hp with z | z
   · exact hn p z
   · cases List.mem_singleton.mp z
     rfl
include hk in
def lL:∀ (ss:List α) (cf:CF α) (x4:Option CV),(ks cf).Nodup->(∀ p∈cf,p.2=none)->cf.length+ss.length<100000→
  ∃ y4,nG [4] (aG 4) RT0 (ss.map (nD ky)) (sS st f1 f2 F0 ch0.length x4) (ch0++[.dT (cfD ky cf)])=some (.nx (sS st f1 f2 F0 ch0.length y4) (ch0++[.dT (cfD ky (ss.foldl bh cf))]))
 | [],cf,x4,_,_,_=>⟨x4,rfl⟩
 | s::ss,cf,x4,nd,hn,hl=>by
  have hl':cf.length+(ss.length+1)<100000:=hl
  obtain ⟨y4,ih⟩:=lL ss (bh cf s) (some (.dat (nD ky s))) (BW nd) (rE hn) (by have:=AM cf s;omega)
  refine ⟨y4,?_⟩
  rw [List.map_cons,List.foldl_cons,<- ih]
  exact xw (show 4<9 by decide) (sQ hk (x4:=x4) nd hn (by omega))
include hk in
def jg {starts:List α} (hl:starts.length<=10000):∃ y4,∀ o:Option Og,bI RTc (RT2 G) 100000 (sR (.lst (starts.map (nD ky))) f1 f2 F0 ch0.length y4 (some (.dat (.int ((0:Nat):Int)))) none none) (hpR ky ch0 (starts.foldl bh []) [])=o→
  RTf G [.dat (.lst (starts.map (nD ky))),.fn f1 F0,.fn f2 F0] ch0=match o with
   | some (.rt c ch')=>some (c,ch')
   | some (.nx _ ch')=>some (.dat .non,ch')
   | _=>none:=by
 obtain ⟨y4,h1⟩:=lL hk (st:=.lst (starts.map (nD ky))) (f1:=f1) (f2:=f2) (F0:=F0) (ch0:=ch0) starts [] none (by simp [ks]) (by simp) (by simp;omega)
 refine ⟨y4,fun o ho=>?_⟩
 unfold RTf gx
 show (match aJ (aT 3 eNT) _ [some (.dat (.lst (starts.map (nD ky)))),some (.fn f1 F0),some (.fn f2 F0),none,none,none,none,none,none] ch0 with
  | some (.rt c ch')=>some (c,ch') | some (.nx _ ch')=>some (.dat .non,ch') | _=>none)=_
 have e1:aT 3 eNT [some (.dat (.lst (starts.map (nD ky)))),some (.fn f1 F0),some (.fn f2 F0),none,none,none,none,none,none] ch0=some (.nx (sS (.lst (starts.map (nD ky))) f1 f2 F0 ch0.length none) (ch0++[.dT (cfD ky [])])):=rfl
 have e2:lm (fIt (vL 0)) [4] (aG 4) RT0 (sS (.lst (starts.map (nD ky))) f1 f2 F0 ch0.length none) (ch0++[.dT (cfD ky [])])=some (.nx (sS (.lst (starts.map (nD ky))) f1 f2 F0 ch0.length y4) (ch0++[.dT (cfD ky (starts.foldl bh []))])):=by
  unfold lm fIt
  rw [lH (d:=.lst (starts.map (nD ky))) rfl]
  exact h1
 have e3:aT 5 (eLT (eV 3)) (sS (.lst (starts.map (nD ky))) f1 f2 F0 ch0.length y4) (ch0++[.dT (cfD ky (starts.foldl bh []))])=some (.nx (sR (.lst (starts.map (nD ky))) f1 f2 F0 ch0.length y4 none none none) (hpR ky ch0 (starts.foldl bh []) [])):=by
  have:eLT (eV 3) (sS (.lst (starts.map (nD ky))) f1 f2 F0 ch0.length y4) (ch0++[.dT (cfD ky (starts.foldl bh []))])=some (.ref (ch0.length+1),hpR ky ch0 (starts.foldl bh []) []):=by
   unfold eLT
   rw [dP (v:=.ref ch0.length) rfl]
   simp only [Option.bind_some]
   rw [gR (nL _),Nat.sub_self]
   simp only [List.getElem?_cons_zero,List.length_append,List.length_cons,List.length_nil,List.append_assoc]
   unfold hpR lsC cfD ks
   rw [List.map_map,List.map_map]
   rfl
  rw [bO this]
  rfl
 have e4:aT 6 (eD (kD (.int 0))) (sR (.lst (starts.map (nD ky))) f1 f2 F0 ch0.length y4 none none none) (hpR ky ch0 (starts.foldl bh []) [])=some (.nx (sR (.lst (starts.map (nD ky))) f1 f2 F0 ch0.length y4 (some (.dat (.int ((0:Nat):Int)))) none none) (hpR ky ch0 (starts.foldl bh []) [])):=rfl
 rw [aI e1,aI e2,aI e3,aI e4]
 subst ho
 unfold aJ
 generalize bI RTc (RT2 G) 100000 (sR (.lst (starts.map (nD ky))) f1 f2 F0 ch0.length y4 (some (.dat (.int ((0:Nat):Int)))) none none) (hpR ky ch0 (starts.foldl bh []) [])=o
 cases o with
 | none=>rfl
 | some o=>cases o<;>rfl
def AN (ch0:CH) (cf:CF α) (J:List (List α)):Option (List α)->CV×CH
 | none=>(.dat .non,hpR ky ch0 cf J)
 | some ws=>(.ref (ch0.length+2+J.length+1),hpR ky ch0 cf J++[lsC ky ws,lsC ky ws.reverse])
include hk in
def vm {U starts:List α} {beh:α->List α} {fit:α->Bool} (hU:∀ t∈U,∀ u∈beh t,u∈U) (hUl:U.length<=9000) (hbl:∀ t∈U,(beh t).length<=1000) (hs:∀ t∈starts,t∈U) (hsl:starts.length<=10000) :
  ∃ (cf:CF α) (J:List (List α)) (r:Option (List α)),(∀ (ch0:CH) (G:Orc) (f1 f2:Addr) (F0:Hp),(∀ t∈U,G f1 F0 [nD ky t]=some (.lst ((beh t).map (nD ky))))->(∀ t∈U,G f2 F0 [nD ky t]=some (.leaf (.bl (fit t))))→
      RTf G [.dat (.lst (starts.map (nD ky))),.fn f1 F0,.fn f2 F0] ch0=some (AN (ky:=ky) ch0 cf J r))∧
   (r=none->∀ t,Rch beh starts t->fit t=false)/\∀ ws,r=some ws->ws.length<=9001/\∃ t,Wy beh fit starts t ws/\fit t=true:=by
 have hks:∀ t∈ks (starts.foldl bh ([]:CF α)),t∈U:=fun t ht=>by
  obtain ⟨i,q,e⟩:=gp ht
  have B:=BI.start (beh:=beh) (fit:=fit) (starts:=starts)
  cases q with
  | none=>exact hs t (B.st i t e)
  | some p =>
   exfalso
   have key:∀ (ss:List α) (cf:CF α),(∀ p∈cf,p.2=none)->∀ p∈ss.foldl bh cf,p.2=none:=fun ss=>by
    induction ss with
    | nil=>intro cf h;exact h
    | cons s ss ih=>intro cf h;exact ih _ (rE h)
   have:=key starts [] (by simp) _ (List.mem_of_getElem? e)
   cases this
 obtain ⟨f,cf,J,k',h1,B,hc,hn,hf⟩:=oq (fit:=fit) (starts:=starts) hU 100000 (starts.foldl bh []) 0 [] BI.start hks (Nat.zero_le _) (by omega)
 have nd:=(BI.start (beh:=beh) (fit:=fit) (starts:=starts)).nd
 cases f with
 | none =>
  refine ⟨cf,J,none,fun ch0 G f1 f2 F0 g1 g2=>?_,fun _ t ht=>?_,fun ws z=>(by cases z)⟩
  · obtain ⟨y4,hr⟩:=jg hk (G:=G) (f1:=f1) (f2:=f2) (F0:=F0) (ch0:=ch0) hsl
    obtain ⟨δ',hw⟩:=hV hk (st:=.lst (starts.map (nD ky))) (ch0:=ch0) hU (by omega) hbl g1 g2 100000 _ 0 [] y4 none none none cf J nd hks h1
    rw [hr _ hw]
    rfl
  · have:=hn rfl
    subst this
    exact B.none ht
 | some h =>
  obtain ⟨g1,g2⟩:=hf h rfl
  obtain ⟨i,q,e⟩:=gp g2
  obtain ⟨ws,tr,wy,hl⟩:=B.trace i h q e
  have hi:=(gX e).1
  have hcl:cf.length<=9000:=by
   have:=eQ B.nd hc
   rw [show (ks cf).length=cf.length from List.length_map ..] at this
   omega
  refine ⟨cf,J,some ws,fun ch0 G f1 f2 F0 q1 q2=>?_,fun z=>(by cases z),fun ws' z=>(by cases z;exact ⟨by omega,h,wy,g1⟩)⟩
  obtain ⟨y4,hr⟩:=jg hk (G:=G) (f1:=f1) (f2:=f2) (F0:=F0) (ch0:=ch0) hsl
  have hw:=hV hk (st:=.lst (starts.map (nD ky))) (ch0:=ch0) hU (by omega) hbl q1 q2 100000 _ 0 [] y4 none none (some h) cf J nd hks h1
  dsimp only at hw
  rw [hr _ (hw _ _ (sP hk AJ tr (by omega)))]
  unfold AN
  rw [ko]
end
end L2
namespace P33
open PySem L2
def lM {β:Type} {i t:Nat} {fe:Fg} {δ:Sl} {ch:CH} {f g:β->CV} {xs:List β} (h:ch[i]?=some (.lst (xs.map f))) (hf:∀ x∈xs,fe (δ.set t (some (f x))) ch=some (g x,ch)):∀ (d k n:Nat),k+d=xs.length->d<n->gG i t qZ fe δ n k ch=some ((xs.drop k).map g,ch)
 | 0,k,n,hk,hn=>by
  obtain ⟨n,rfl⟩:∃ m,n=m+1:=⟨n-1,by omega⟩
  unfold gG
  rw [h]
  dsimp only
  rw [List.getElem?_eq_none (by rw [List.length_map];omega),List.drop_eq_nil_of_le (by omega)]
  rfl
 | d+1,k,n,hk,hn=>by
  obtain ⟨n,rfl⟩:∃ m,n=m+1:=⟨n-1,by omega⟩
  have hi:k<xs.length:=by omega
  unfold gG
  rw [h]
  dsimp only
  rw [List.getElem?_map,gQ hi]
  simp only [Option.map_some,qZ,Option.bind_some,if_true]
  rw [hf _ (List.getElem_mem hi),Option.bind_some]
  dsimp only
  have:=lM h hf d (k+1) n (by omega) (by omega)
  rw [this,List.drop_eq_getElem_cons hi]
  rfl
def ky (t:Nat×Mrk):Int×Str:=((t.1:Int),ms t.2)
def AO (a b:Nat×Mrk) (h:ky a=ky b):a=b:=by
 unfold ky at h
 simp only [Prod.mk.injEq] at h
 exact Prod.ext (by omega) (mB h.2)
def Un (n:Nat):List (Nat×Mrk):=(List.range n).flatMap fun k=>[(k,.fresh),(k,.seen),(k,.safe),(k,.spoilt)]
def mem_Un {n:Nat} {t:Nat×Mrk}:t∈Un n↔t.1<n:=by
 unfold Un
 rw [List.mem_flatMap]
 constructor
 · rintro ⟨k,hk,h⟩
   have hk:=List.mem_range.mp hk
   simp at h
   rcases h with rfl | rfl | rfl | rfl<;>exact hk
 · intro h
   refine ⟨t.1,List.mem_range.mpr h,?_⟩
   obtain ⟨k,m⟩:=t
   cases m<;>simp
def AQ (n:Nat):(Un n).length=4*n:=by
 unfold Un
 induction n with
 | zero=>rfl
 | succ n ih=>rw [List.range_succ,List.flatMap_append,List.length_append,ih];simp;omega
def pD (cs ss:List Hd) (rows:List Rw):Dt:=.tup [.tup (cs.map hdD),.tup (ss.map hdD),dR rows]
def cD (b:Dt) (kp:List (Nat×Dt)):Dt:=.tup [b,kpD kp]
def kps (kp:List (Nat×Dt)):List Nat:=kp.map (·.1)
def plain (cs ss:List Hd):List Str:=((cs++ss).filter fun h=>!h.b).map (·.x)
def sl8 (P C:Dt) (nm:Str) (x3 x4 x7:Option CV):Sl:=[some (.dat P),some (.dat C),some (.dat (.str nm)),x3,x4,none,none,x7]
def rIs (l:List Nat):CO:=.lst (l.map fun j=>.dat (dI j))
def sT {cs ss:List Hd} {rows:List Rw} {b:Dt} {kp:List (Nat×Dt)} {nm:Str} {ch0:CH} (hc:cs≠[]) (hs:ss≠[]) (hl:cs.length+ss.length<=1000) (h:nm∉plain cs ss) :
  y19 [.dat (pD cs ss rows),.dat (cD b kp),.dat (.str nm)] ch0=some (.dat .non,ch0):=by
 refine jz ?_
 show aJ _ _ (sl8 (pD cs ss rows) (cD b kp) nm none none none) ch0=_
 have t1:tD (tB2 (cw true) (vB 2) (toD (au z15 (ae (vL 0) ao)))) (sl8 (pD cs ss rows) (cD b kp) nm none none none) ch0=some (true,ch0):=n5 (by
  show tB2 (cw true) (vB 2) (toD (au z15 (ae (vL 0) ao))) [some (.leaf (pD cs ss rows)),some (.leaf (cD b kp)),some (.leaf (.str nm)),none,none,none,none,none]=_
  walk_at "k"
  unfold pD
  rw [oF cs ss _ hc hs hl]
  walk_at "k"
  rw [n8]
  simp only [if_true]
  rw [show (((cs++ss).filter fun h=>!h.b).map (·.x))=plain cs ss from rfl,decide_eq_false h]
  rfl)
 rw [oe (by rw [kh t1];rfl)]
noncomputable def endS (ch0:CH) (cf:CF (Nat×Mrk)) (J:List (List (Nat×Mrk))):Option (List (Nat×Mrk))->CV×CH
 | none=>(.dat .non,hpR ky ch0 cf J)
 | some ws=>(.ref (ch0.length+2+J.length+2),hpR ky ch0 cf J++[lsC ky ws,lsC ky ws.reverse]++[rIs (ws.reverse.map (·.1))])
def pY {cs ss:List Hd} {rows:List Rw} {b:Dt} {kp:List (Nat×Dt)} {nm:Str} {ch0:CH} (hc:cs≠[]) (hs:ss≠[]) (hl:cs.length+ss.length<=1000) (h:nm∈plain cs ss) (hr:rows.length<=1000) (hr0:0<rows.length) (hk:kp.length<=1000) (hkr:∀ k∈kps kp,k<rows.length) (hO:∀ (k:Nat) (r:Rw) (w:Nat),rows[k]?=some r->w∈r.outs k->w<rows.length) :
  ∃ (cf:CF (Nat×Mrk)) (J:List (List (Nat×Mrk))) (r:Option (List (Nat×Mrk))),y19 [.dat (pD cs ss rows),.dat (cD b kp),.dat (.str nm)] ch0=some (endS ch0 cf J r)∧
   (r=none->∀ t,Rch (g7 rows (kps kp) nm) (cH (kps kp)) t->iC rows nm t=false)/\∀ ws,r=some ws->∃ t,Wy (g7 rows (kps kp) nm) (iC rows nm) (cH (kps kp)) t ws/\iC rows nm t=true:=by
 obtain ⟨cf,J,r,h1,h2,h3⟩:=vm (ky:=ky) AO (U:=Un rows.length) (starts:=cH (kps kp)) (beh:=g7 rows (kps kp) nm) (fit:=iC rows nm)
  (fun t ht u hu=>by
   obtain ⟨r,e,_,g,_⟩:=vg hu
   exact mem_Un.mpr (hO _ r _ e g))
  (by rw [AQ];omega)
  (fun t ht=>by
   unfold g7
   split
   · simp
   · split
     · simp
     · rw [List.length_map]
       exact Nat.le_trans (List.length_filter_le _ _) (Nat.le_trans (Rw.outs_len _ _) (by decide)))
  (fun t ht=>by
   obtain ⟨k,hk',rfl⟩:=List.mem_map.mp ht
   refine mem_Un.mpr ?_
   rcases List.mem_cons.mp hk' with rfl | z
   · exact hr0
   · exact hkr k z)
  (by unfold cH kps;simp;omega)
 refine ⟨cf,J,r,?_,h2,fun ws z=>(h3 ws z).2⟩
 have hws:∀ ws,r=some ws->ws.length<=10000:=fun ws z=>Nat.le_trans (h3 ws z).1 (by decide)
 let Z:Option CV->Option CV->Option CV->Sl:=sl8 (pD cs ss rows) (cD b kp) nm
 refine jz ?_
 show aJ _ _ (Z none none none) ch0=_
 have t1:tD (tB2 (cw true) (vB 2) (toD (au z15 (ae (vL 0) ao)))) (Z none none none) ch0=some (false,ch0):=n5 (by
  show tB2 (cw true) (vB 2) (toD (au z15 (ae (vL 0) ao))) [some (.leaf (pD cs ss rows)),some (.leaf (cD b kp)),some (.leaf (.str nm)),none,none,none,none,none]=_
  walk_at "k"
  unfold pD
  rw [oF cs ss _ hc hs hl]
  walk_at "k"
  rw [n8]
  simp only [if_true]
  rw [show (((cs++ss).filter fun h=>!h.b).map (·.x))=plain cs ss from rfl,decide_eq_true h]
  rfl)
 have t2:aT 3 (eD (toD (d2 aw (vB 0) (kD (.int 2))))) (Z none none none) ch0=some (.nx (Z (some (.dat (dR rows))) none none) ch0):=by
  rw [bO (iB (d:=dR rows) (by
   show toD (d2 aw (vB 0) (kD (.int 2))) [some (.leaf (pD cs ss rows)),some (.leaf (cD b kp)),some (.leaf (.str nm)),none,none,none,none,none]=_
   unfold pD
   walk_at "k"))]
  rfl
 have t3:aT 4 (eD (toD (au q20 (ae (vL 0) (ae (vL 1) ao))))) (Z (some (.dat (dR rows))) none none) ch0=some (.nx (Z (some (.dat (dR rows))) (some (.dat (.lst (g9 (kps kp) rows)))) none) ch0):=by
  rw [bO (iB (d:=.lst (g9 (kps kp) rows)) (by
   show toD (au q20 (ae (vL 0) (ae (vL 1) ao))) [some (.leaf (pD cs ss rows)),some (.leaf (cD b kp)),some (.leaf (.str nm)),some (.leaf (dR rows)),none,none,none,none]=_
   walk_at "k"
   unfold pD cD
   rw [vi _ _ _ rows kp hr hk]
   rfl))]
  rfl
 rw [aI (by rw [i6 t1];rfl),aI t2,aI t3]
 show aJ _ _ (Z (some (.dat (dR rows))) (some (.dat (.lst (g9 (kps kp) rows)))) none) ch0=_
 generalize hδ:Z (some (.dat (dR rows))) (some (.dat (.lst (g9 (kps kp) rows)))) none=δ
 have f0:q43 δ ch0=some (.dat (.lst ((cH (kps kp)).map (nD ky))),ch0):=by
  rw [<- hδ]
  refine iB ?_
  show toD (br [none] (fIt (toD (d2 bG (toD (cN (ae (kD (.int 0)) ao))) (toD (au z18 (ae (vL 1) ao)))))) (aG 0) bU y42) [some (.leaf (pD cs ss rows)),some (.leaf (cD b kp)),some (.leaf (.str nm)),some (.leaf (dR rows)),some (.leaf (.lst (g9 (kps kp) rows))),none,none,none]=_
  walk_at "k"
  unfold cD
  rw [rB b kp hk]
  walk_at "k"
  rw [mt (small (by simp;omega))]
  walk_at "k"
  rw [show (Dt.int 0::(kp.map (fun x=>x.1)).map dI)=(0::kps kp).map dI from rfl,bJ (h:=fun k:Nat=>c9 (k,.fresh)) fun k _=>⟨_,rfl,rfl,by unfold y42 c9 dk;walk_at "k";rfl⟩]
  walk_at "k"
  rw [cS (by unfold kps;simp;omega)]
  unfold cH
  rw [List.map_map]
  rfl
 have fr:fRt [2,3,4] [2,3] ["place","mark","name","rows","inner"] ["place","name","rows"] bv bw q43 z51 δ ch0=some (AN (ky:=ky) ch0 cf J r):=by
  refine Ab (c0:=.dat (.lst ((cH (kps kp)).map (nD ky)))) (ch0:=ch0) (a:=[.str nm,dR rows,.lst (g9 (kps kp) rows)]) (b:=[.str nm,dR rows]) f0 (by rw [<- hδ];rfl) (by rw [<- hδ];rfl) fun f1 f2 F0 hne=>?_
  refine h1 ch0 _ f1 f2 F0 (fun t ht=>?_) fun t ht=>?_
  · rw [z0]
    exact sO (mem_Un.mp ht)
  · rw [Aa hne]
    exact sN (mem_Un.mp ht)
 cases r with
 | none =>
  rw [aI (bO fr),<- hδ]
  refine fY ?_
  rfl
 | some ws =>
  rw [aI (bO fr),<- hδ]
  have hwl:ws.length<=10000:=hws ws rfl
  generalize hH:hpR ky ch0 cf J++[lsC ky ws,lsC ky ws.reverse]=H
  have hx:H[ch0.length+2+J.length+1]?=some (lsC ky ws.reverse):=by
   rw [<- hH,gR (by rw [ko];omega),ko,show ch0.length+2+J.length+1-(ch0.length+2+J.length)=1 by omega]
   rfl
  have hHl:H.length=ch0.length+2+J.length+2:=by rw [<- hH,List.length_append,ko];rfl
  have dat':∀ l:List (Nat×Mrk),dats (l.map fun t=>CV.dat (nD ky t))=some (l.map (nD ky)):=fun l=>by
   induction l with
   | nil=>rfl
   | cons a l ih=>simp only [List.map_cons,dats,ih,Option.map_some]
  have hv:vw H (.ref (ch0.length+2+J.length+1))=some (.lst (ws.reverse.map (nD ky))):=by
   show (H[ch0.length+2+J.length+1]?).bind vwO=_
   rw [hx]
   show (dats (ws.reverse.map fun t=>CV.dat (nD ky t))).map Dt.lst=_
   rw [dat']
   rfl
  refine fY ?_
  show eIf _ _ _ (Z (some (.dat (dR rows))) (some (.dat (.lst (g9 (kps kp) rows)))) (some (.ref (ch0.length+2+J.length+1)))) H=_
  have ct:iR (e2 (gIs false) (eV 7) (eD (kD .non))) (Z (some (.dat (dR rows))) (some (.dat (.lst (g9 (kps kp) rows)))) (some (.ref (ch0.length+2+J.length+1)))) H=some (false,H):=by
   unfold iR
   rw [vc (dP (v:=.ref (ch0.length+2+J.length+1)) rfl) (show eD (kD .non) _ H=some (.dat .non,H) from rfl) hv rfl (t:=.leaf (.bl false)) rfl]
   rfl
  unfold eIf
  rw [ct]
  simp only [Option.bind_some,Bool.false_eq_true,if_false]
  unfold jZ
  rw [dP (v:=.ref (ch0.length+2+J.length+1)) rfl]
  simp only [Option.bind_some]
  rw [lM (f:=fun t=>.dat (nD ky t)) (g:=fun t:Nat×Mrk=>.dat (dI t.1)) (xs:=ws.reverse) hx (fun t _=>by
   unfold y54
   refine iB ?_
   show toD (d2 aw (vB 0) (kD (.int 0))) [some (.leaf (c9 t))]=_
   walk_at "k"
   rw [rC]
   rfl) ws.length 0 100000 (by simp) (by omega)]
  simp only [Option.bind_some,List.drop_zero]
  rw [if_pos (by rw [List.length_map,List.length_reverse];exact small (by omega)),hHl]
  unfold rIs
  rw [hH,List.map_map]
  rfl
def vn {ds:List Dt} {k:Nat} {d:Dt} (h:ds[k]?=some d):aw (.tup ds) (dI k)=some (.leaf d):=by
 unfold dI
 rw [yl,cq,h]
 rfl
def vo (r:Rw) (nm:Str) (ds:List Dt) (k:Nat) (h:ds[k]?=some r.d):q23 [some (.leaf (dI k)),some (.leaf (.str nm)),some (.leaf (.tup ds))]=some (r.gets nm):=by
 have e:=vn h
 unfold q23
 walk_at "k"
 rw [e]
 walk_at "k"
 cases r<;>simp only [Rw.d,Rw.gets]<;>(repeat walk_at "k")<;>(try (rw [e];simp only [Rw.d];walk_at "k"))
def vp (r:Rw) (nm:Str) (ds:List Dt) (k:Nat) (h:ds[k]?=some r.d):y22 [some (.leaf (dI k)),some (.leaf (.str nm)),some (.leaf (.tup ds))]=some (r.puts nm):=by
 have e:=vn h
 unfold y22
 walk_at "k"
 rw [e]
 walk_at "k"
 cases r<;>simp only [Rw.d,Rw.puts]<;>(repeat walk_at "k")<;>(try (rw [e];simp only [Rw.d];walk_at "k"))
def BX {l:List Dt} {s t:Nat} (h1:s<=t) (h2:t<l.length):gSl (.tup l) (some (s:Int)) (some (t:Int))=some (.leaf (.tup ((l.drop s).take (t-s)))):=by
 have e1:HT.sIx l.length 0 (some ((s:Nat):Int))=s:=by rw [HT.B0];omega
 have e2:HT.sIx l.length l.length (some ((t:Nat):Int))=t:=by rw [HT.B0];omega
 show (if HT.sIx l.length 0 (some ((s:Nat):Int))=0/\HT.sIx l.length l.length (some ((t:Nat):Int))=l.length then none else some (T.leaf (.tup (kE l (some ((s:Nat):Int)) (some ((t:Nat):Int))))))=_
 rw [e1,e2,if_neg (by omega)]
 unfold kE
 rw [e1,e2]
def ahD (rows:List Rw) (s t:Nat):List Dt:=((rows.map Rw.d).drop s).take (t-s)
def yI {rows:List Rw} {s t k:Nat} {r:Rw} (h:rows[s+k]?=some r) (hk:s+k<t):(ahD rows s t)[k]?=some r.d:=by
 unfold ahD
 rw [List.getElem?_take_of_lt (by omega),List.getElem?_drop,List.getElem?_map,h]
 rfl
def vq {rows:List Rw} {s t:Nat} (h1:s<=t) (h2:t<=rows.length):(ahD rows s t).length=t-s:=by
 unfold ahD
 simp
 omega
def gt (k:Nat):ce 0 k=(List.range k).map dI:=by
 unfold ce dI
 refine List.map_congr_left fun i _=>?_
 rw [Int.zero_add]
def sU {rows:List Rw} {nm:Str} {s t:Nat} (h1:s<=t) (h2:t<rows.length) (hn:rows.length<=1000) (x0 x1 x3 x4 x5 x6 x8 x9:Option T) :
  toD (br [none,some 2,some 7] (gU iN (ae (toD (au db (ae (vB 7) ao))) ao)) (aG 0) q23 (vL 0)) [x0,x1,some (.leaf (.str nm)),x3,x4,x5,x6,some (.leaf (.tup (ahD rows s t))),x8,x9]=some (.lst ((fsL rows nm s t).map dI)):=by
 walk_at "k"
 rw [vq h1 (by omega),iZ (c8 (by omega) (by omega)),Option.bind_some,Int.toNat_natCast,gt,dG (h:=dI) (p:=fun k=>gA rows nm (s+k)) fun k hk=>⟨_,rfl,by
  have hk:=List.mem_range.mp hk
  have hr:rows[s+k]?=some rows[s+k]:=gQ (by omega)
  rw [oy hr]
  exact vo _ _ _ _ (yI hr (by omega)),fun _=>rfl⟩]
 walk_at "k"
 rw [cS (by rw [List.length_map];exact Nat.le_trans (List.length_filter_le _ _) (by simp;omega))]
 rfl
def vt {rows:List Rw} {nm:Str} {s t:Nat} (h1:s<=t) (h2:t<rows.length) (hn:rows.length<=1000) (x0 x1 x3 x4 x5 x6 x8 x9:Option T) :
  toD (br [none,some 2,some 7] (gU iN (ae (toD (au db (ae (vB 7) ao))) ao)) (aG 0) y22 (vL 0)) [x0,x1,some (.leaf (.str nm)),x3,x4,x5,x6,some (.leaf (.tup (ahD rows s t))),x8,x9]=some (.lst ((psL rows nm s t).map dI)):=by
 walk_at "k"
 rw [vq h1 (by omega),iZ (c8 (by omega) (by omega)),Option.bind_some,Int.toNat_natCast,gt,dG (h:=dI) (p:=fun k=>pA rows nm (s+k)) fun k hk=>⟨_,rfl,by
  have hk:=List.mem_range.mp hk
  have hr:rows[s+k]?=some rows[s+k]:=gQ (by omega)
  rw [oz hr]
  exact vp _ _ _ _ (yI hr (by omega)),fun _=>rfl⟩]
 walk_at "k"
 rw [cS (by rw [List.length_map];exact Nat.le_trans (List.length_filter_le _ _) (by simp;omega))]
 rfl
def vv {rows:List Rw} {nm:Str} {t:Nat} {r:Rw} (h:rows[t]?=some r) (x1 x3 x4 x5 x7 x8 x9:Option T) :
  dX (tB2 (cw false) (toD (d2 aw (toD (d2 aw (vB 0) (vB 6))) (kD (.int 0)))) (toD (bB (ae (kD (.str "store")) (ae (kD (.str "lay")) ao))))) (tB2 (gEq false) (toD (d2 aw (toD (d2 aw (vB 0) (vB 6))) (kD (.int 1)))) (vB 2)) [some (.leaf (dR rows)),x1,some (.leaf (.str nm)),x3,x4,x5,some (.leaf (dI t)),x7,x8,x9]=some (r.puts nm):=by
 have e:=pV h
 walk_at "k"
 rw [e]
 walk_at "k"
 cases r<;>simp only [Rw.d,Rw.puts]<;>(repeat walk_at "k")<;>(try (rw [e];simp only [Rw.d];walk_at "k"))
def eS:∀ l:List Nat,deeps (l.map dI)=0
 | []=>rfl
 | a::l=>by
  simp only [List.map_cons,deeps,eS l]
  rfl
def iE {neg:Bool} (ds:List Dt) (h:deeps ds<=50):gEq neg (.lst ds) (.lst [])=some (.leaf (.bl (if neg then !ds.isEmpty else ds.isEmpty))):=by
 rw [mw (b:=peqs ds []) (yk (by
  rw [decide_eq_true (by omega)]
  cases ds<;>simp [cmpbs]))]
 cases ds<;>rfl
def xL {rows:List Rw} {nm:Str} {s t:Nat} {shelf:Bool} (x0 x1 x2 x4 x5 x6 x7:Option T) :
  dX (tB2 (gEq true) (vB 8) (toD (cN ao))) (fOr (jk (vB 3)) (fOr (tB2 (gEq false) (vB 9) (toD (cN ao))) (tB2 (l7 fun i j=>decide (i<j)) (toD (d2 aw (vB 8) (kD (.int 0)))) (toD (d2 aw (vB 9) (kD (.int 0))))))) [x0,x1,x2,some (.leaf (.bl shelf)),x4,x5,x6,x7,some (.leaf (.lst ((fsL rows nm s t).map dI))),some (.leaf (.lst ((psL rows nm s t).map dI)))]=some (fF rows nm shelf s t):=by
 unfold fF
 generalize fsL rows nm s t=f
 generalize psL rows nm s t=p
 have df:deeps (f.map dI)<=50:=by rw [eS];decide
 have dp:deeps (p.map dI)<=50:=by rw [eS];decide
 cases f with
 | nil=>rfl
 | cons a f =>
  rw [List.map_cons] at df ⊢
  walk_at "k"
  rw [iE _ df]
  simp only [List.isEmpty_cons,if_true,Bool.not_false]
  walk_at "k"
  cases shelf with
  | true=>walk_at "k"
  | false =>
   walk_at "k"
   rw [iE _ dp]
   cases p with
   | nil =>
    simp only [List.map_nil,List.isEmpty_nil,Bool.false_eq_true,if_false]
    walk_at "k"
   | cons b p =>
    rw [List.map_cons]
    simp only [List.isEmpty_cons,Bool.false_eq_true,if_false]
    walk_at "k"
    unfold dI
    walk_at "k"
    simp
def prD (p:Nat×Nat):Dt:=.tup [dI p.1,dI p.2]
section
variable {rows:List Rw} {kept:List Nat} {nm:Str} {shelf:Bool}
noncomputable def s10 (rows:List Rw) (kept:List Nat) (nm:Str) (shelf:Bool) (fd:List (Nat×Nat)) (st:Nat) (x6 x7 x8 x9:Option T):De:=[some (.leaf (dR rows)),some (.leaf (.lst (kept.map dI))),some (.leaf (.str nm)),some (.leaf (.bl shelf)),some (.lst (fd.map prD)),some (.leaf (dI st)),x6,x7,x8,x9]
def nxt (kept:List Nat) (st t:Nat):Nat:=if t∈kept then t else st
def pZ {fd:List (Nat×Nat)} {st t:Nat} (hn:rows.length<=1000) (ht:t<rows.length) (hs:nxt kept st t<=t) (hf:fd.length<=1000) (x7 x8 x9:Option T) :
  ∃ y7 y8 y9,q22 (s10 rows kept nm shelf fd st (some (.leaf (dI t))) x7 x8 x9)=some (.nx (s10 rows kept nm shelf (if pA rows nm t&&fF rows nm shelf (nxt kept st t) t then fd++[(nxt kept st t,t)] else fd) (nxt kept st t) (some (.leaf (dI t))) y7 y8 y9)):=by
 have hr:rows[t]?=some rows[t]:=gQ ht
 unfold q22
 have i1:tB2 (cw false) (vB 6) (vB 1) (s10 rows kept nm shelf fd st (some (.leaf (dI t))) x7 x8 x9)=some (decide (t∈kept)):=by
  unfold s10
  walk_at "k"
  rw [oE]
  rfl
 have e1:sIf (tB2 (cw false) (vB 6) (vB 1)) (bC 5 (toT (vL 6))) el (s10 rows kept nm shelf fd st (some (.leaf (dI t))) x7 x8 x9)=some (.nx (s10 rows kept nm shelf fd (nxt kept st t) (some (.leaf (dI t))) x7 x8 x9)):=by
  rw [gK,i1]
  unfold nxt
  by_cases q:t∈kept
  · rw [decide_eq_true q,dl,if_pos q]
    rfl
  · rw [decide_eq_false q,dm,if_neg q]
    rfl
 rw [cG,e1,bD,gK]
 generalize hst:nxt kept st t=s at hs ⊢
 have i2:=vv (nm:=nm) hr (some (.leaf (.lst (kept.map dI)))) (some (.leaf (.bl shelf))) (some (.lst (fd.map prD))) (some (.leaf (dI s))) x7 x8 x9
 rw [show s10 rows kept nm shelf fd s (some (.leaf (dI t))) x7 x8 x9=[some (.leaf (dR rows)),some (.leaf (.lst (kept.map dI))),some (.leaf (.str nm)),some (.leaf (.bl shelf)),some (.lst (fd.map prD)),some (.leaf (dI s)),some (.leaf (dI t)),x7,x8,x9] from rfl,i2,oz hr]
 cases hp:rows[t].puts nm with
 | false =>
  rw [dm]
  exact ⟨x7,x8,x9,rfl⟩
 | true =>
  rw [dl,Bool.true_and]
  have e2:bC 7 (toT (toD (vSl (vB 0) (dA (vB 5)) (dA (vB 6))))) [some (.leaf (dR rows)),some (.leaf (.lst (kept.map dI))),some (.leaf (.str nm)),some (.leaf (.bl shelf)),some (.lst (fd.map prD)),some (.leaf (dI s)),some (.leaf (dI t)),x7,x8,x9]=some (.nx [some (.leaf (dR rows)),some (.leaf (.lst (kept.map dI))),some (.leaf (.str nm)),some (.leaf (.bl shelf)),some (.lst (fd.map prD)),some (.leaf (dI s)),some (.leaf (dI t)),some (.leaf (.tup (ahD rows s t))),x8,x9]):=by
   unfold dR dI
   walk_at "k"
   rw [BX hs (by rw [List.length_map];exact ht)]
   rfl
  rw [cG,e2,bD,cG]
  have e3:bC 8 (toT (toD (br [none,some 2,some 7] (gU iN (ae (toD (au db (ae (vB 7) ao))) ao)) (aG 0) q23 (vL 0)))) [some (.leaf (dR rows)),some (.leaf (.lst (kept.map dI))),some (.leaf (.str nm)),some (.leaf (.bl shelf)),some (.lst (fd.map prD)),some (.leaf (dI s)),some (.leaf (dI t)),some (.leaf (.tup (ahD rows s t))),x8,x9]=some (.nx [some (.leaf (dR rows)),some (.leaf (.lst (kept.map dI))),some (.leaf (.str nm)),some (.leaf (.bl shelf)),some (.lst (fd.map prD)),some (.leaf (dI s)),some (.leaf (dI t)),some (.leaf (.tup (ahD rows s t))),some (.leaf (.lst ((fsL rows nm s t).map dI))),x9]):=by
   unfold bC toT
   rw [sU hs ht hn]
   rfl
  rw [e3,bD,cG]
  have e4:bC 9 (toT (toD (br [none,some 2,some 7] (gU iN (ae (toD (au db (ae (vB 7) ao))) ao)) (aG 0) y22 (vL 0)))) [some (.leaf (dR rows)),some (.leaf (.lst (kept.map dI))),some (.leaf (.str nm)),some (.leaf (.bl shelf)),some (.lst (fd.map prD)),some (.leaf (dI s)),some (.leaf (dI t)),some (.leaf (.tup (ahD rows s t))),some (.leaf (.lst ((fsL rows nm s t).map dI))),x9]=some (.nx [some (.leaf (dR rows)),some (.leaf (.lst (kept.map dI))),some (.leaf (.str nm)),some (.leaf (.bl shelf)),some (.lst (fd.map prD)),some (.leaf (dI s)),some (.leaf (dI t)),some (.leaf (.tup (ahD rows s t))),some (.leaf (.lst ((fsL rows nm s t).map dI))),some (.leaf (.lst ((psL rows nm s t).map dI)))]):=by
   unfold bC toT
   rw [vt hs ht hn]
   rfl
  rw [e4,bD,gK,xL]
  refine ⟨some (.leaf (.tup (ahD rows s t))),some (.leaf (.lst ((fsL rows nm s t).map dI))),some (.leaf (.lst ((psL rows nm s t).map dI))),?_⟩
  cases hc:fF rows nm shelf s t with
  | false =>
   rw [dm]
   rfl
  | true =>
   rw [dl,if_pos rfl,u6 (l:=fd.map prD) rfl]
   have e5:toD (bB (ae (vL 5) (ae (vL 6) ao))) [some (.leaf (dR rows)),some (.leaf (.lst (kept.map dI))),some (.leaf (.str nm)),some (.leaf (.bl shelf)),some (.lst (fd.map prD)),some (.leaf (dI s)),some (.leaf (dI t)),some (.leaf (.tup (ahD rows s t))),some (.leaf (.lst ((fsL rows nm s t).map dI))),some (.leaf (.lst ((psL rows nm s t).map dI)))]=some (prD (s,t)):=by
    walk_at "k"
    rfl
   rw [e5,Option.bind_some]
   unfold xc
   rw [if_pos (by rw [List.length_map];exact eR (by omega))]
   unfold s10
   rw [List.map_append]
   rfl
def kt (hn:rows.length<=1000):∀ (d t:Nat) (fd:List (Nat×Nat)) (st:Nat) (x6 x7 x8 x9:Option T),t+d=rows.length->fd.length+d<=1000->(t=0->st=0)->(0<t->st=cr kept (t-1))→
  ∃ st' y6 y7 y8 y9,fQ (aG 6) q22 ((List.range' t d).map dI) (s10 rows kept nm shelf fd st x6 x7 x8 x9)=some (.nx (s10 rows kept nm shelf (fd++(List.range' t d).filterMap fun t=>if pA rows nm t&&fF rows nm shelf (cr kept t) t then some (cr kept t,t) else none) st' y6 y7 y8 y9))
 | 0,t,fd,st,x6,x7,x8,x9,_,_,_,_=>⟨st,x6,x7,x8,x9,by simp [fQ]⟩
 | d+1,t,fd,st,x6,x7,x8,x9,hd,hf,h0,h1=>by
  have hst:nxt kept st t=cr kept t:=by
   unfold nxt
   cases t with
   | zero =>
    rw [h0 rfl]
    split<;>rfl
   | succ t =>
    rw [h1 (by omega)]
    rfl
  obtain ⟨y7,y8,y9,hb⟩:=pZ (rows:=rows) (kept:=kept) (nm:=nm) (shelf:=shelf) (fd:=fd) (st:=st) (t:=t) hn (by omega) (by rw [hst];exact km t) (by omega) x7 x8 x9
  rw [hst] at hb
  obtain ⟨st',z6,z7,z8,z9,ih⟩:=kt hn d (t+1) (if pA rows nm t&&fF rows nm shelf (cr kept t) t then fd++[(cr kept t,t)] else fd) (cr kept t) (some (.leaf (dI t))) y7 y8 y9 (by omega) (by split<;>(try rw [List.length_append])<;>(try simp only [List.length_cons,List.length_nil])<;>omega) (by omega) (fun _=>rfl)
  refine ⟨st',z6,z7,z8,z9,?_⟩
  rw [List.range'_succ,List.map_cons,i4 (δ1:=s10 rows kept nm shelf fd st (some (.leaf (dI t))) x7 x8 x9) rfl hb,ih,List.filterMap_cons]
  cases q:(pA rows nm t&&fF rows nm shelf (cr kept t) t) with
  | true=>simp only [if_true,List.append_assoc,List.cons_append,List.nil_append]
  | false=>simp only [Bool.false_eq_true,if_false]
end
section
variable {rows:List Rw} {kept:List Nat} {nm:Str} {shelf:Bool}
def vz (hn:rows.length<=1000):z22 [dR rows,.lst (kept.map dI),.str nm,.bl shelf]=some (.lst ((prs rows kept nm shelf).map prD)):=by
 obtain ⟨st',y6,y7,y8,y9,e⟩:=kt (kept:=kept) (nm:=nm) (shelf:=shelf) hn rows.length 0 [] 0 none none none none (by omega) (by simp;omega) (fun _=>rfl) (fun z=>by omega)
 unfold z22
 walk_at "k"
 rw [show db [dR rows]=some (.leaf (.int (rows.length:Int))) from by
  show some (T.leaf (.int ((rows.map Rw.d).length:Int)))=_
  rw [List.length_map]]
 walk_at "k"
 rw [iZ (c8 (by omega) (by omega)),Option.bind_some,Int.toNat_natCast,gt,List.range_eq_range']
 have e:fQ (aG 6) q22 ((List.range' 0 rows.length).map dI) [some (.leaf (dR rows)),some (.leaf (.lst (kept.map dI))),some (.leaf (.str nm)),some (.leaf (.bl shelf)),some (.lst []),some (.leaf (.int 0)),none,none,none,none]=_:=e
 rw [e]
 unfold s10
 walk_at "k"
 unfold prs
 rw [List.range_eq_range']
end
def vA (k:Nat):z26 [dI k]=some (.leaf (.bl true)):=by
 unfold z26 dI
 walk_at "k"
 try rfl
def found (s t:Nat):Dt:=.lst ((List.range' s (t+1-s)).map dI)
def sV (l:List Nat):cJ (aG 0) bU y27 [none] (l.map dI)=some (l.map fun _=>.bl true):=
 bJ (h:=fun _=>Dt.bl true) fun k _=>⟨_,rfl,rfl,by
  unfold y27
  walk_at "k"
  rw [vA]
  rfl⟩
def allB (l:List Nat):um (fun bs=>bs.all id) [.lst (l.map fun _=>.bl true)]=some (.leaf (.bl true)):=by
 have e:∀ l:List Nat,jN (l.map fun _=>Dt.bl true)=some (l.map fun _=>true):=fun l=>by
  induction l with
  | nil=>rfl
  | cons a l ih=>simp only [List.map_cons,jN,ih,Option.map_some]
 show (jN (l.map fun _=>Dt.bl true)).map (fun bs=>T.leaf (.bl (bs.all id)))=_
 rw [e]
 show some (T.leaf (.bl ((l.map fun _=>true).all id)))=_
 congr 3
 rw [List.all_eq_true]
 intro x hx
 obtain ⟨_,_,rfl⟩:=List.mem_map.mp hx
 rfl
def vC (kp:List (Nat×Dt)):cJ (m9 2 (dM (aG 0) (dM (aG 1) m8))) bU (vL 0) [none,none] (kp.map fun p=>.tup [dI p.1,p.2])=some ((kps kp).map dI):=by
 rw [bJ (h:=fun p:Nat×Dt=>dI p.1) fun p _=>⟨_,rfl,rfl,rfl⟩]
 unfold kps
 rw [List.map_map]
 rfl
def rF (p:Nat×Nat):sI (prD p)=some [.inl (p.1:Int),.inl (p.2:Int)]:=rfl
def oH:∀ l:List (Nat×Nat),j8 (l.map prD)=some (l.map fun p=>[.inl (p.1:Int),.inl (p.2:Int)])
 | []=>rfl
 | p::l=>by
  have:=oH l
  unfold j8 at this ⊢
  rw [List.map_cons,List.mapM_cons,rF,this]
  rfl
def BY {p:Nat×Nat} {l:List (Nat×Nat)} (h:p∈l):uY false (prD p) (.lst (l.map prD))=some (.leaf (.bl true)):=by
 show ((sI (prD p)).bind fun ks=>(j8 (l.map prD)).map fun kss=>T.leaf (.bl (mo ks kss)))=_
 rw [rF,Option.bind_some,oH]
 show some (T.leaf (.bl (mo _ _)))=_
 have:([Sum.inl (p.1:Int),Sum.inl (p.2:Int)]:List Key)∈l.map fun p=>[Sum.inl (p.1:Int),Sum.inl (p.2:Int)]:=List.mem_map.mpr ⟨p,h,rfl⟩
 rw [inKs_iff.mpr this]
def ku:∀ l:List (Nat×Nat),deeps (l.map prD)<=50
 | []=>by simp [deeps]
 | p::l=>by
  have:=ku l
  simp only [List.map_cons,deeps,prD,cM,dI] at this ⊢
  omega
def eq_self (l:List Nat):gEq false (.lst (l.map dI)) (.lst (l.map dI))=some (.leaf (.bl true)):=by
 have c:∀ l:List Nat,cmpbs (l.map dI) (l.map dI)=true:=fun l=>by
  induction l with
  | nil=>rfl
  | cons a l ih=>simp only [List.map_cons,cmpbs,ih,Bool.and_true];rfl
 have q:∀ l:List Nat,peqs (l.map dI) (l.map dI)=true:=fun l=>by
  induction l with
  | nil=>rfl
  | cons a l ih=>simp only [List.map_cons,peqs,ih,Bool.and_true];simp [dI,peq]
 rw [mw (b:=peqs (l.map dI) (l.map dI)) (yk (by rw [c,eS];rfl)),q]
 rfl
section
variable {rows:List Rw} {b:Dt} {kp:List (Nat×Dt)} {h:Hd} {shelf:Bool}
def kw (hn:rows.length<=1000) (hk:kp.length<=1000) (fd:Dt):bC 5 (toT (toD (au z22 (ae (vL 0) (ae (toD (br [none,none] (fIt (toD (d2 aw (vB 1) (kD (.int 1))))) (m9 2 (dM (aG 0) (dM (aG 1) m8))) bU (vL 0))) (ae (toD (d2 aw (vB 3) (kD (.int 0)))) (ae (vL 4) ao))))))) [some (.leaf (dR rows)),some (.leaf (cD b kp)),some (.leaf fd),some (.leaf (hdD h)),some (.leaf (.bl shelf)),none]=some (.nx [some (.leaf (dR rows)),some (.leaf (cD b kp)),some (.leaf fd),some (.leaf (hdD h)),some (.leaf (.bl shelf)),some (.leaf (.lst ((prs rows (kps kp) h.x shelf).map prD)))]):=by
 unfold cD kpD hdD
 walk_at "k"
 rw [vC,Option.bind_some,cS (by unfold kps;simp;omega)]
 walk_at "k"
 rw [vz hn]
 rfl
def p0 (hn:rows.length<=1000) (hk:kp.length<=1000) (hh:h.b=true∨prs rows (kps kp) h.x shelf=[]):z14 [dR rows,cD b kp,.non,hdD h,.bl shelf]=some (.leaf (.bl true)):=by
 unfold z14
 rw [pR]
 show u5 (bq _ _ [some (.leaf (dR rows)),some (.leaf (cD b kp)),some (.leaf .non),some (.leaf (hdD h)),some (.leaf (.bl shelf)),none])=_
 rw [cG,kw hn hk,bD,cG,gK]
 have e:fOr (jk (toD (d2 aw (vB 3) (kD (.int 2))))) (tB2 (gEq false) (vB 5) (toD (cN ao))) [some (.leaf (dR rows)),some (.leaf (cD b kp)),some (.leaf .non),some (.leaf (hdD h)),some (.leaf (.bl shelf)),some (.leaf (.lst ((prs rows (kps kp) h.x shelf).map prD)))]=some true:=by
  unfold hdD
  walk_at "k"
  cases hb:h.b with
  | true=>walk_at "k"
  | false =>
   walk_at "k"
   rw [iE _ (ku _)]
   rcases hh with z | z
   · rw [hb] at z;cases z
   · rw [z]
     rfl
 rw [e,dl]
 rfl
def rG {s t:Nat} (h:s<=t):aw (found s t) (.int 0)=some (.leaf (dI s)):=by
 unfold found
 rw [show (.int 0:Dt)=dI 0 from rfl]
 unfold dI
 rw [rn,cq,List.getElem?_map,List.getElem?_range' (by omega)]
 simp
def oI {s t:Nat} (h:s<=t):aw (found s t) (.int (-1))=some (.leaf (dI t)):=by
 unfold found
 rw [rn]
 unfold atI ixN
 rw [if_neg (by decide),List.length_map,List.length_range',if_pos (by omega)]
 simp only [Option.bind_some]
 rw [List.getElem?_map,show (-1+((t+1-s:Nat):Int)).toNat=t-s by omega,List.getElem?_range' (by omega)]
 simp only [Option.map_some]
 congr 3
 omega
def p7 (hn:rows.length<=1000) (hk:kp.length<=1000) {s t:Nat} (hb:h.b=false) (hst:s<=t) (ht:t<rows.length) (hm:(s,t)∈prs rows (kps kp) h.x shelf):z14 [dR rows,cD b kp,found s t,hdD h,.bl shelf]=some (.leaf (.bl true)):=by
 unfold z14
 rw [pR]
 show u5 (bq _ _ [some (.leaf (dR rows)),some (.leaf (cD b kp)),some (.leaf (found s t)),some (.leaf (hdD h)),some (.leaf (.bl shelf)),none])=_
 rw [cG,kw hn hk,bD,cG,gK]
 generalize hP:prs rows (kps kp) h.x shelf=P at hm
 have hne:P.isEmpty=false:=by cases P with | nil=>cases hm | cons=>rfl
 have e:fOr (jk (toD (d2 aw (vB 3) (kD (.int 2))))) (tB2 (gEq false) (vB 5) (toD (cN ao))) [some (.leaf (dR rows)),some (.leaf (cD b kp)),some (.leaf (found s t)),some (.leaf (hdD h)),some (.leaf (.bl shelf)),some (.leaf (.lst (P.map prD)))]=some false:=by
  unfold hdD
  walk_at "k"
  rw [hb]
  walk_at "k"
  rw [iE _ (ku _)]
  simp only [List.isEmpty_map,hne]
  rfl
 rw [e,dm]
 have g:fOr (o4 (jk (toD (k9 "list" (vB 2))))) (fOr (tB2 (gEq false) (vB 2) (toD (cN ao))) (o4 (jk (toD (au (um fun bs=>bs.all id) (ae (toD (br [none] (fIt (vB 2)) (aG 0) bU y27)) ao)))))) [some (.leaf (dR rows)),some (.leaf (cD b kp)),some (.leaf (found s t)),some (.leaf (hdD h)),some (.leaf (.bl shelf)),some (.leaf (.lst (P.map prD)))]=some false:=by
  unfold found
  walk_at "k"
  rw [iE _ (by rw [eS];decide)]
  simp only [List.isEmpty_map]
  rw [show (List.range' s (t+1-s)).isEmpty=false from by rw [show t+1-s=(t-s)+1 by omega];rfl]
  simp only [Bool.false_eq_true,if_false]
  walk_at "k"
  rw [sV,Option.bind_some,cS (by simp;omega)]
  walk_at "k"
  rw [allB]
  walk_at "k"
 rw [el,bD,cG,gK,g,dm,el,bD]
 walk_at "k"
 rw [rG hst]
 walk_at "k"
 rw [oI hst]
 walk_at "k"
 rw [show uY false (Dt.tup [dI s,dI t]) (.lst (P.map prD))=some (.leaf (.bl true)) from BY hm]
 walk_at "k"
 rw [rG hst]
 walk_at "k"
 rw [oI hst]
 walk_at "k"
 have ga:bG (dI t) (.int 1)=some (.leaf (.int ((t+1:Nat):Int))):=by
  rw [show ((t+1:Nat):Int)=(t:Int)+1 by omega]
  rfl
 rw [ga]
 walk_at "k"
 have gr:iz [dI s,.int ((t+1:Nat):Int)]=some (.lst ((List.range' s (t+1-s)).map dI)):=by
  show (if gz (s:Int)&&gz ((t+1:Nat):Int)&&decide ((((t+1:Nat):Int)-(s:Int)).toNat<=sizeLine) then some (T.lst (ce (s:Int) (((t+1:Nat):Int)-(s:Int)).toNat)) else none)=_
  rw [show (((t+1:Nat):Int)-(s:Int)).toNat=t+1-s by omega,c8 (by omega) (by omega),c8 (by omega) (by omega),decide_eq_true (small (by omega))]
  simp only [Bool.and_self,if_true]
  congr 2
  unfold ce
  rw [List.range'_eq_map_range,List.map_map]
  refine List.map_congr_left fun i _=>?_
  simp [dI]
 rw [gr]
 walk_at "k"
 unfold found
 rw [eq_self]
 rfl
end
def vD (l:List Str) (lo hi:Option Int):∃ m:List Str,gSl (.lst (l.map .str)) lo hi=some (.lst (m.map .str))/\m.length<=l.length:=by
 refine ⟨(l.drop (HT.sIx (l.map Dt.str).length 0 lo)).take (HT.sIx (l.map Dt.str).length (l.map Dt.str).length hi-HT.sIx (l.map Dt.str).length 0 lo),?_,by simp;omega⟩
 show some (T.lst (kE (l.map Dt.str) lo hi))=_
 unfold kE
 rw [List.map_take,List.map_drop]
def tup2 {f g:De->Option Dt} {δ:De} {a b:Dt} (h1:f δ=some a) (h2:g δ=some b):toD (bB (ae f (ae g ao))) δ=some (.tup [a,b]):=by
 unfold toD bB ae
 rw [h1]
 simp only [Option.bind_some]
 rw [h2]
 rfl
def tS (l:List Str):Dt:=.tup (l.map .str)
def rH {B:List Str} (hB:B.length<64) {f:De->Option Dt} {δ:De} {k:Int} (h2:δ[2]?=some (some (.leaf (.lst (B.map .str))))) (hf:f δ=some (.int k)) :
  ∃ m:List Str,toD (au dZ (ae (toD (au dj (ae (toD (vSl (vB 2) jd (dA f))) ao))) ao)) δ=some (tS m):=by
 obtain ⟨m,e,hm⟩:=vD B none (some k)
 refine ⟨dg m,?_⟩
 walk_at "k"
 rw [h2,hf]
 walk_at "k"
 rw [e]
 walk_at "k"
 rw [pT (by omega)]
 rfl
def kq (l:List (Nat×List Str)):List (Nat×Dt):=l.map fun p=>(p.1,tS p.2)
def keD (p:Nat×List Str):Dt:=.tup [dI p.1,tS p.2]
def vE (c:Int):∃ s:Int,0<s/\atI [Dt.int 2,.int 3,.int 5,.int 9] (c%4)=some (.int s):=by
 have m0:=Int.emod_nonneg c (show (4:Int)≠0 by decide)
 have m1:=Int.emod_lt_of_pos c (show (0:Int)<4 by decide)
 generalize c%4=z at m0 m1
 have:z=0∨z=1∨z=2∨z=3:=by omega
 rcases this with rfl | rfl | rfl | rfl
 · exact ⟨2,by decide,rfl⟩
 · exact ⟨3,by decide,rfl⟩
 · exact ⟨5,by decide,rfl⟩
 · exact ⟨9,by decide,rfl⟩
def vF {ns:List Int} {P:Dt} {B:List Str} (hB:B.length<64) {sh:Int} (hs:0<sh) (done:List (Nat×List Str)) (t:Nat) (ht:t<=1000) (hd:done.length<=1000) (x6 x7:Option T) :
  ∃ (e:List (Nat×List Str)) (y6:Option T),(∀ p∈e,p.1=t)/\e.length<=1/\z19 [some (.leaf (.lst (ns.map .int))),some (.leaf P),some (.leaf (.lst (B.map .str))),some (.leaf (.int sh)),some (.lst (done.map keD)),some (.leaf (dI t)),x6,x7]=some (.nx [some (.leaf (.lst (ns.map .int))),some (.leaf P),some (.leaf (.lst (B.map .str))),some (.leaf (.int sh)),some (.lst ((done++e).map keD)),some (.leaf (dI t)),y6,x7]):=by
 unfold z19
 have ca:=dQ ns 5
 generalize ns.getD 5 0=c at ca
 have e1:toD (d2 bM (toD (d2 iq (toD (d2 bG (toD (d2 da (toD (au y1 (ae (vL 0) (ae (kD (.int 5)) ao)))) (kD (.int 4)))) (toD (d2 iq (kD (.int 7919)) (vB 5))))) (kD (.int 69621)))) (kD (.int 2147483629))) [some (.leaf (.lst (ns.map .int))),some (.leaf P),some (.leaf (.lst (B.map .str))),some (.leaf (.int sh)),some (.lst (done.map keD)),some (.leaf (dI t)),x6,x7]=some (.int ((c/4+7919*(t:Int))*69621%2147483629)):=by
  unfold dI
  walk_at "k"
  rw [show y1 [.lst (ns.map .int),.int 5]=_ from ca]
  walk_at "k"
 generalize (c/4+7919*(t:Int))*69621%2147483629=num at e1
 rw [cG]
 have e2:bC 6 (toT (toD (d2 bM (toD (d2 iq (toD (d2 bG (toD (d2 da (toD (au y1 (ae (vL 0) (ae (kD (.int 5)) ao)))) (kD (.int 4)))) (toD (d2 iq (kD (.int 7919)) (vB 5))))) (kD (.int 69621)))) (kD (.int 2147483629))))) [some (.leaf (.lst (ns.map .int))),some (.leaf P),some (.leaf (.lst (B.map .str))),some (.leaf (.int sh)),some (.lst (done.map keD)),some (.leaf (dI t)),x6,x7]=some (.nx [some (.leaf (.lst (ns.map .int))),some (.leaf P),some (.leaf (.lst (B.map .str))),some (.leaf (.int sh)),some (.lst (done.map keD)),some (.leaf (dI t)),some (.leaf (.int num)),x7]):=by
  unfold bC toT
  rw [e1]
  rfl
 rw [e2,bD,gK]
 have e3:tB2 (gEq false) (toD (d2 bM (toD (d2 da (vB 6) (kD (.int 5)))) (vB 3))) (kD (.int 0)) [some (.leaf (.lst (ns.map .int))),some (.leaf P),some (.leaf (.lst (B.map .str))),some (.leaf (.int sh)),some (.lst (done.map keD)),some (.leaf (dI t)),some (.leaf (.int num)),x7]=some (decide (num/5%sh=0)):=by
  walk_at "k"
  rw [kf hs]
  walk_at "k"
 rw [e3]
 by_cases q:num/5%sh=0
 · rw [decide_eq_true q,dl,u6 (l:=done.map keD) rfl]
   obtain ⟨m,em⟩:=rH (f:=toD (d2 bM (toD (d2 da (vB 6) (kD (.int 45)))) (toD (d2 bG (toD (au db (ae (vB 2) ao))) (kD (.int 1)))))) (k:=num/45%((B.length:Int)+1)) hB (δ:=[some (.leaf (.lst (ns.map .int))),some (.leaf P),some (.leaf (.lst (B.map .str))),some (.leaf (.int sh)),some (.lst (done.map keD)),some (.leaf (dI t)),some (.leaf (.int num)),x7]) rfl (by
    walk_at "k"
    rw [List.length_map,kf (by omega)]
    rfl)
   refine ⟨[(t,m)],some (.leaf (.int num)),by simp,by simp,?_⟩
   have e4:toD (bB (ae (vL 5) (ae (toD (au dZ (ae (toD (au dj (ae (toD (vSl (vB 2) jd (dA (toD (d2 bM (toD (d2 da (vB 6) (kD (.int 45)))) (toD (d2 bG (toD (au db (ae (vB 2) ao))) (kD (.int 1))))))))) ao))) ao))) ao))) [some (.leaf (.lst (ns.map .int))),some (.leaf P),some (.leaf (.lst (B.map .str))),some (.leaf (.int sh)),some (.lst (done.map keD)),some (.leaf (dI t)),some (.leaf (.int num)),x7]=some (keD (t,m)):=by
    exact tup2 rfl em
   rw [e4,Option.bind_some]
   unfold xc
   rw [if_pos (by rw [List.length_map];exact eR (by omega)),List.map_append]
   rfl
 · rw [decide_eq_false q,dm]
   exact ⟨[],some (.leaf (.int num)),by simp,by simp,by rw [List.append_nil];rfl⟩
def oJ {ns:List Int} {P:Dt} {B:List Str} (hB:B.length<64) {sh:Int} (hs:0<sh):∀ (d t:Nat) (done:List (Nat×List Str)) (x5 x6 x7:Option T),t+d<=1000->done.length+d<=1000->(∀ p∈done,p.1<t)→
  ∃ (all:List (Nat×List Str)) (y5 y6:Option T),(∀ p∈all,p.1<t+d)/\all.length<=done.length+d/\fQ (aG 5) z19 ((List.range' t d).map dI) [some (.leaf (.lst (ns.map .int))),some (.leaf P),some (.leaf (.lst (B.map .str))),some (.leaf (.int sh)),some (.lst (done.map keD)),x5,x6,x7]=some (.nx [some (.leaf (.lst (ns.map .int))),some (.leaf P),some (.leaf (.lst (B.map .str))),some (.leaf (.int sh)),some (.lst (all.map keD)),y5,y6,x7])
 | 0,t,done,x5,x6,x7,_,_,h=>⟨done,x5,x6,h,by omega,rfl⟩
 | d+1,t,done,x5,x6,x7,h1,h2,h=>by
  obtain ⟨e,y6,he,hel,hb⟩:=vF (ns:=ns) (P:=P) hB hs done t (by omega) (by omega) x6 x7
  obtain ⟨all,z5,z6,g1,g2,g3⟩:=oJ hB hs d (t+1) (done++e) (some (.leaf (dI t))) y6 x7 (by omega) (by rw [List.length_append];omega) (fun p hp=>by
   rcases List.mem_append.mp hp with z | z
   · have:=h p z;omega
   · have:=he p z;omega)
  refine ⟨all,z5,z6,fun p hp=>by have:=g1 p hp;omega,by rw [List.length_append] at g2;omega,?_⟩
  rw [List.range'_succ,List.map_cons,i4 rfl hb,g3]
def p8 {ns:List Int} {cs ss:List Hd} {rows:List Rw} {B:List Str} {h0:Hd} {cs':List Hd} (hcs:cs=h0::cs') (hB:B.length<=20) (hr:rows.length<=1000):∃ (bs:List Str) (kl:List (Nat×List Str)),q12 [.lst (ns.map .int),pD cs ss rows,.lst (B.map .str)]=some (.leaf (cD (tS bs) (kq kl)))/\(∀ p∈kl,p.1<rows.length)/\kl.length<=rows.length:=by
 have ca:=dQ ns 5
 generalize ns.getD 5 0=c at ca
 obtain ⟨sh,hsh,es⟩:=vE c
 have hB2:(dg (dE (B++[h0.x,"zz"]))).length<64:=by
  have:=eQ (nZ (B++[h0.x,"zz"])) (m:=B++[h0.x,"zz"]) fun x hx=>onces_mem.mp hx
  rw [(dD _).length_eq]
  simp at this
  omega
 generalize hB2e:dg (dE (B++[h0.x,"zz"]))=B2 at hB2
 obtain ⟨all,y5,y6,g1,g2,g3⟩:=oJ (ns:=ns) (P:=pD cs ss rows) (B:=B2) hB2 hsh rows.length 0 [] none none none (by omega) (by simp;omega) (by simp)
 have hgB:eM [.lst (B.map Dt.str++[.str h0.x,.str "zz"])]=some (.lst (B2.map .str)):=by
  have:=n9 (l:=B++[h0.x,"zz"]) (by simp;omega)
  rw [List.map_append] at this
  rw [<- hB2e]
  exact this
 obtain ⟨m,em⟩:=rH (f:=toD (d2 bM (toD (d2 da (toD (au y1 (ae (vL 0) (ae (kD (.int 5)) ao)))) (kD (.int 4)))) (toD (d2 bG (toD (au db (ae (vB 2) ao))) (kD (.int 1)))))) (k:=c/4%((B2.length:Int)+1)) hB2 (δ:=[some (.leaf (.lst (ns.map .int))),some (.leaf (pD cs ss rows)),some (.leaf (.lst (B2.map .str))),some (.leaf (.int sh)),some (.lst (all.map keD)),y5,y6,none]) rfl (by
     walk_at "k"
     rw [show y1 [.lst (ns.map .int),.int 5]=_ from ca]
     walk_at "k"
     rw [List.length_map,kf (by omega)]
     rfl)
 refine ⟨m,all,?_,fun p hp=>by have:=g1 p hp;omega,by simp at g2;omega⟩
 unfold q12
 walk_at "k"
 rw [show y1 [.lst (ns.map .int),.int 5]=_ from ca]
 walk_at "k"
 rw [es]
 walk_at "k"
 rw [show aw (pD cs ss rows) (.int 0)=some (.leaf (.tup (cs.map hdD))) from by unfold pD;walk_at "k",hcs]
 walk_at "k"
 rw [show aw (hdD h0) (.int 0)=some (.leaf (.str h0.x)) from by unfold hdD;walk_at "k"]
 walk_at "k"
 rw [mt (small (by simp;omega))]
 walk_at "k"
 rw [hgB]
 walk_at "k"
 rw [show aw (pD (h0::cs') ss rows) (.int 2)=some (.leaf (dR rows)) from by unfold pD;walk_at "k"]
 walk_at "k"
 rw [show db [dR rows]=some (.leaf (.int (rows.length:Int))) from by
  show some (T.leaf (.int ((rows.map Rw.d).length:Int)))=_
  rw [List.length_map]]
 walk_at "k"
 rw [iZ (c8 (by omega) (by omega)),Option.bind_some,Int.toNat_natCast,gt,List.range_eq_range']
 rw [hcs] at g3 em
 have g3:fQ (aG 5) z19 ((List.range' 0 rows.length).map dI) [some (.leaf (.lst (ns.map .int))),some (.leaf (pD (h0::cs') ss rows)),some (.leaf (.lst (B2.map .str))),some (.leaf (.int sh)),some (.lst []),none,none,none]=_:=g3
 rw [g3,bD,cG]
 have e7:bC 7 (toT (toD (au dZ (ae (toD (au dj (ae (toD (vSl (vB 2) jd (dA (toD (d2 bM (toD (d2 da (toD (au y1 (ae (vL 0) (ae (kD (.int 5)) ao)))) (kD (.int 4)))) (toD (d2 bG (toD (au db (ae (vB 2) ao))) (kD (.int 1))))))))) ao))) ao)))) [some (.leaf (.lst (ns.map .int))),some (.leaf (pD (h0::cs') ss rows)),some (.leaf (.lst (B2.map .str))),some (.leaf (.int sh)),some (.lst (all.map keD)),y5,y6,none]=some (.nx [some (.leaf (.lst (ns.map .int))),some (.leaf (pD (h0::cs') ss rows)),some (.leaf (.lst (B2.map .str))),some (.leaf (.int sh)),some (.lst (all.map keD)),y5,y6,some (.leaf (tS m))]):=by
  unfold bC toT
  rw [em]
  rfl
 rw [e7,bD]
 walk_at "k"
 unfold cD kpD kq
 rw [List.map_map]
 rfl
def mE {l:List Str} {i:Int} (h0:0<=i) (h1:i<l.length):atI (l.map Dt.str) i=some (.str (l.getD i.toNat "")):=by
 obtain ⟨k,rfl⟩:∃ k:Nat,i=k:=⟨i.toNat,by omega⟩
 rw [Int.toNat_natCast]
 exact oj Dt.str l k (by omega) ""
def RwOk (th:List Str):Rw->Prop
 | .load _ _=>True
 | .store c _=>c=th.getD 0 ""∨c=th.getD 1 ""
 | .take _ _ _=>True
 | .lay f _ _=>f=th.getD 2 ""∨f=th.getD 3 ""
 | .copy _ _=>True
 | .say _=>True
 | _=>False
def rw6 (x nm sh:Str) (n m:Int):List Rw:=[.load x nm,.store nm (.nm x),.take x sh (.vl m),.lay sh (.nm x) (.vl 5),.copy x (.vl n),.say (.nm x)]
def pick (c:Int):∃ k:Nat,k<6/\atI [Dt.int 0,.int 0,.int 1,.int 1,.int 2,.int 3,.int 4,.int 5] (c%8)=some (dI k):=by
 have m0:=Int.emod_nonneg c (show (8:Int)≠0 by decide)
 have m1:=Int.emod_lt_of_pos c (show (0:Int)<8 by decide)
 generalize c%8=z at m0 m1
 have:z=0∨z=1∨z=2∨z=3∨z=4∨z=5∨z=6∨z=7:=by omega
 rcases this with rfl | rfl | rfl | rfl | rfl | rfl | rfl | rfl
 · exact ⟨0,by decide,rfl⟩
 · exact ⟨0,by decide,rfl⟩
 · exact ⟨1,by decide,rfl⟩
 · exact ⟨1,by decide,rfl⟩
 · exact ⟨2,by decide,rfl⟩
 · exact ⟨3,by decide,rfl⟩
 · exact ⟨4,by decide,rfl⟩
 · exact ⟨5,by decide,rfl⟩
def s12 (x0 x2 x3 x4:Option T) (th B:List Str) (rows:List Rw) (x7 x8 x9 x10 x11:Option T):De:=[x0,some (.leaf (.lst (th.map .str))),x2,x3,x4,some (.leaf (.lst (B.map .str))),some (.lst (rows.map Rw.d)),x7,x8,x9,x10,x11]
def sW {th B:List Str} (ht:th.length=4) (hB:0<B.length) (x0 x2 x3 x4:Option T) (rows:List Rw) (c:Int) (hr:rows.length<=1000) (x8 x9 x10 x11:Option T) :
  ∃ (r:Rw) (y8 y9 y10 y11:Option T),RwOk th r/\z20 (s12 x0 x2 x3 x4 th B rows (some (.leaf (.int c))) x8 x9 x10 x11)=some (.nx (s12 x0 x2 x3 x4 th B (rows++[r]) (some (.leaf (.int c))) y8 y9 y10 y11)):=by
 unfold z20 s12
 walk_at "k"
 have n0:0<=c*48271%2147483647/3:=Int.ediv_nonneg (Int.emod_nonneg _ (by decide)) (by decide)
 generalize c*48271%2147483647/3=num at n0
 rw [List.length_map,kf (by omega)]
 walk_at "k"
 have b0:=Int.emod_nonneg num (show (B.length:Int)≠0 by omega)
 have b1:=Int.emod_lt_of_pos num (show (0:Int)<B.length by omega)
 rw [mE b0 b1]
 generalize B.getD (num%(B.length:Int)).toNat ""=x
 walk_at "k"
 have c0:=Int.emod_nonneg (num/11) (show (2:Int)≠0 by decide)
 have c1:=Int.emod_lt_of_pos (num/11) (show (0:Int)<2 by decide)
 rw [mE c0 (by rw [ht];omega)]
 walk_at "k"
 rw [mE (l:=th) (i:=2+num/11%2) (by omega) (by rw [ht];omega)]
 walk_at "k"
 rw [mE (l:=th) (i:=2+num/11%2) (by omega) (by rw [ht];omega)]
 walk_at "k"
 have cb:num/11%2=0∨num/11%2=1:=by omega
 generalize hn:th.getD (num/11%2).toNat ""=nm
 generalize hs:th.getD (2+num/11%2).toNat ""=sh
 have hnm:nm=th.getD 0 ""∨nm=th.getD 1 "":=by
  rcases cb with z | z
  · left;rw [<- hn,z];rfl
  · right;rw [<- hn,z];rfl
 have hsh:sh=th.getD 2 ""∨sh=th.getD 3 "":=by
  rcases cb with z | z
  · left;rw [<- hs,z];rfl
  · right;rw [<- hs,z];rfl
 obtain ⟨k,hk,ek⟩:=pick c
 have hl:(rw6 x nm sh num (num/22%9)).length=6:=rfl
 have hr6:(rw6 x nm sh num (num/22%9))[k]?=some (rw6 x nm sh num (num/22%9))[k]:=gQ (by rw [hl];exact hk)
 have hok:∀ r∈rw6 x nm sh num (num/22%9),RwOk th r:=fun r hr=>by
  simp only [rw6,List.mem_cons,List.not_mem_nil,or_false] at hr
  rcases hr with rfl | rfl | rfl | rfl | rfl | rfl
  · trivial
  · exact hnm
  · trivial
  · exact hsh
  · trivial
  · trivial
 refine ⟨(rw6 x nm sh num (num/22%9))[k],some (.leaf (.int num)),some (.leaf (.str x)),some (.leaf (.str nm)),some (.leaf (.lst ((rw6 x nm sh num (num/22%9)).map Rw.d))),hok _ (List.getElem_mem _),?_⟩
 rw [u6 (l:=rows.map Rw.d) rfl]
 walk_at "k"
 rw [ek]
 walk_at "k"
 have eg:aw (.lst ((rw6 x nm sh num (num/22%9)).map Rw.d)) (dI k)=some (.leaf (rw6 x nm sh num (num/22%9))[k].d):=by
  unfold dI
  rw [rn,cq,List.getElem?_map,hr6]
  rfl
 have eg:aw (Dt.lst [Dt.tup [Dt.str "load",Dt.str x,Dt.str nm],Dt.tup [Dt.str "store",Dt.str nm,Dt.str x],Dt.tup [Dt.str "take",Dt.str x,Dt.str sh,Dt.int (num/22%9)],Dt.tup [Dt.str "lay",Dt.str sh,Dt.str x,Dt.int 5],Dt.tup [Dt.str "copy",Dt.str x,Dt.int num],Dt.tup [Dt.str "say",Dt.str x]]) (dI k)=_:=eg
 rw [eg]
 simp only [Option.map_some,T.d,Option.bind_some]
 unfold xc
 rw [if_pos (by rw [List.length_map];exact eR (by omega)),List.map_append]
 rfl
def lN {th B:List Str} (ht:th.length=4) (hB:0<B.length) (x0 x2 x3 x4:Option T):∀ (cs:List Int) (rows:List Rw) (x7 x8 x9 x10 x11:Option T),rows.length+cs.length<=1000->(∀ r∈rows,RwOk th r)→
  ∃ (all:List Rw) (y7 y8 y9 y10 y11:Option T),(∀ r∈all,RwOk th r)/\all.length=rows.length+cs.length/\fQ (aG 7) z20 (cs.map .int) (s12 x0 x2 x3 x4 th B rows x7 x8 x9 x10 x11)=some (.nx (s12 x0 x2 x3 x4 th B all y7 y8 y9 y10 y11))
 | [],rows,x7,x8,x9,x10,x11,_,h=>⟨rows,x7,x8,x9,x10,x11,h,rfl,rfl⟩
 | c::cs,rows,x7,x8,x9,x10,x11,hl,h=>by
  have hl':rows.length+(cs.length+1)<=1000:=hl
  obtain ⟨r,y8,y9,y10,y11,h1,h2⟩:=sW ht hB x0 x2 x3 x4 rows c (by omega) x8 x9 x10 x11
  obtain ⟨all,z7,z8,z9,z10,z11,g1,g2,g3⟩:=lN ht hB x0 x2 x3 x4 cs (rows++[r]) (some (.leaf (.int c))) y8 y9 y10 y11 (by rw [List.length_append];simp;omega) (fun q hq=>by
   rcases List.mem_append.mp hq with z | z
   · exact h q z
   · rw [List.mem_singleton.mp z];exact h1)
  refine ⟨all,z7,z8,z9,z10,z11,g1,by rw [g2,List.length_append];simp;omega,?_⟩
  rw [List.map_cons,i4 rfl h2,g3]
def dJ (th:List Str) (b:Int):List Hd:=[⟨th.getD 0 "",7,decide (b%3=0)⟩,⟨th.getD 1 "",0,decide (b%3=1)⟩]
def dL (th:List Str) (b:Int):List Hd:=[⟨th.getD 2 "",1+b/3%8,decide (b/24%3=0)⟩,⟨th.getD 3 "",2,decide (b/24%3=1)⟩]
def p9 (ns:List Int) (hns:ns.length<=63):∃ (th B:List Str) (b:Int) (rows:List Rw),z4 [.lst (ns.map .int)]=some (.leaf (.tup [pD (dJ th b) (dL th b) (rows++[.fin (.vl 0)]),.lst (B.map .str)]))/\th.length=4/\th.Nodup/\B.length<=12/\(∀ r∈rows,RwOk th r)/\rows.length<=63:=by
 have c1:=dQ ns 1
 have c3:=dQ ns 3
 have c0:=dQ ns 0
 have c2:=dQ ns 2
 have gi:∃ k:Nat,(if decide (0<ns.getD 1 0%3)=true then (1:Int) else 0)=(k:Int):=by
  cases decide (0<ns.getD 1 0%3)
  · exact ⟨0,rfl⟩
  · exact ⟨1,rfl⟩
 obtain ⟨k,gi⟩:=gi
 have ck:=dQ ns k
 obtain ⟨th,e1,e2,e3⟩:=oo (ns.getD k 0) 4 (by decide)
 obtain ⟨t0,t1,t2,t3,rfl⟩:∃ a b c d,th=[a,b,c,d]:=by
  match th,e2 with
  | [a,b,c,d],_=>exact ⟨a,b,c,d,rfl⟩
 have m0:=Int.emod_nonneg (ns.getD 2 0) (show (11:Int)≠0 by decide)
 have m1:=Int.emod_lt_of_pos (ns.getD 2 0) (show (0:Int)<11 by decide)
 obtain ⟨mm,hmm⟩:∃ mm:Nat,2+ns.getD 2 0%11=(mm:Int):=⟨(2+ns.getD 2 0%11).toNat,by omega⟩
 obtain ⟨B,f1,f2,f3⟩:=oo (ns.getD 0 0) mm (by omega)
 refine ⟨[t0,t1,t2,t3],B,ns.getD 3 0,?_⟩
 generalize ns.getD 3 0=b at c3
 generalize ns.getD 0 0=n0 at c0 f1
 generalize ns.getD 2 0=n2 at c2 hmm m0 m1
 generalize ns.getD k 0=nk at ck e1
 generalize ns.getD 1 0=n1 at c1 gi
 obtain ⟨ls,hls,hll⟩:∃ ls:List Int,gSl (.lst (ns.map .int)) (some 6) (some 63)=some (.lst (ls.map .int))/\ls.length<=63:=by
  refine ⟨(ns.drop (HT.sIx (ns.map Dt.int).length 0 (some 6))).take (HT.sIx (ns.map Dt.int).length (ns.map Dt.int).length (some 63)-HT.sIx (ns.map Dt.int).length 0 (some 6)),?_,by simp;omega⟩
  show some (T.lst (kE (ns.map Dt.int) (some 6) (some 63)))=_
  unfold kE
  rw [List.map_take,List.map_drop]
 obtain ⟨all,y7,y8,y9,y10,y11,g1,g2,g3⟩:=lN (th:=[t0,t1,t2,t3]) (B:=B) e2 (by omega) (some (.leaf (.lst (ns.map .int)))) (some (.leaf (.int b))) (some (.leaf (.tup ((dJ [t0,t1,t2,t3] b).map hdD)))) (some (.leaf (.tup ((dL [t0,t1,t2,t3] b).map hdD)))) ls [] none none none none none (by simp;omega) (by simp)
 refine ⟨all,?_,e2,e3,by omega,g1,by simp at g2;omega⟩
 unfold z4
 walk_at "k"
 rw [show y1 [.lst (ns.map .int),.int 1]=_ from c1]
 walk_at "k"
 rw [gi,ck]
 walk_at "k"
 rw [show q19 [.int nk,.int 4]=_ from e1]
 walk_at "k"
 rw [show y1 [.lst (ns.map .int),.int 3]=_ from c3]
 walk_at "k"
 rw [show y1 [.lst (ns.map .int),.int 0]=_ from c0]
 walk_at "k"
 rw [show y1 [.lst (ns.map .int),.int 2]=_ from c2]
 walk_at "k"
 rw [hmm,f1]
 walk_at "k"
 rw [hls]
 walk_at "k"
 have g3:fQ (aG 7) z20 (ls.map .int) [some (.leaf (.lst (ns.map .int))),some (.leaf (.lst [.str t0,.str t1,.str t2,.str t3])),some (.leaf (.int b)),some (.leaf (.tup [.tup [.str t0,.int 7,.bl (decide (b%3=0))],.tup [.str t1,.int 0,.bl (decide (b%3=1))]])),some (.leaf (.tup [.tup [.str t2,.int (1+b/3%8),.bl (decide (b/24%3=0))],.tup [.str t3,.int 2,.bl (decide (b/24%3=1))]])),some (.leaf (.lst (B.map .str))),some (.lst []),none,none,none,none,none]=_:=g3
 rw [g3]
 unfold s12
 walk_at "k"
 rw [mt (small (by simp;simp at g2;omega))]
 walk_at "k"
 unfold pD dR
 rw [List.map_append]
 rfl
structure Wd (th:List Str) (b:Int) (rows:List Rw) (kl:List (Nat×List Str)):Prop where
 len:th.length=4
 nd:th.Nodup
 ok:∀ r∈rows,RwOk th r
 rl:rows.length<=63
 kr:∀ p∈kl,p.1<rows.length+1
 kl:kl.length<=rows.length+1
section
variable {th:List Str} {b:Int} {rows:List Rw} {kl:List (Nat×List Str)}
def rws (rows:List Rw):List Rw:=rows++[.fin (.vl 0)]
def cZ:(rws rows).length=rows.length+1:=by simp [rws]
def AR:kps (kq kl)=kl.map (·.1):=by unfold kps kq;rw [List.map_map];rfl
def vG:(kq kl).length=kl.length:=by simp [kq]
def Wd.kept (W:Wd th b rows kl):∀ k∈kps (kq kl),k<(rws rows).length:=fun k hk=>by
 rw [AR] at hk
 obtain ⟨p,hp,rfl⟩:=List.mem_map.mp hk
 rw [cZ]
 exact W.kr p hp
def Wd.at (W:Wd th b rows kl) {k:Nat} {r:Rw} (h:(rws rows)[k]?=some r):(k<rows.length/\RwOk th r)∨(k=rows.length/\r=.fin (.vl 0)):=by
 unfold rws at h
 by_cases hk:k<rows.length
 · rw [List.getElem?_append_left hk] at h
   exact .inl ⟨hk,W.ok r (List.mem_of_getElem? h)⟩
 · rw [gR (by omega)] at h
   cases e:k-rows.length with
   | zero =>
    rw [e] at h
    simp at h
    exact .inr ⟨by omega,h.symm⟩
   | succ n=>rw [e] at h;simp at h
def RwOk.outs {r:Rw} (h:RwOk th r) (k:Nat):r.outs k=[k+1]:=by
 cases r<;>first | rfl | cases h
def Wd.strt (W:Wd th b rows kl):ve (rws rows):=fun k r h=>by
 rw [cZ]
 rcases W.at h with ⟨h1,h2⟩ | ⟨h1,rfl⟩
 · rw [h2.outs,if_pos (by omega)]
 · rw [if_neg (by omega)]
   rfl
def Wd.ne (W:Wd th b rows kl) {i j:Nat} (hi:i<4) (hj:j<4) (h:th.getD i ""=th.getD j ""):i=j:=by
 have hl:=W.len
 have e1:th.getD i ""=th[i]:=by rw [List.getD_eq_getElem?_getD,gQ (by omega)];rfl
 have e2:th.getD j ""=th[j]:=by rw [List.getD_eq_getElem?_getD,gQ (by omega)];rfl
 rw [e1,e2] at h
 have P:=List.pairwise_iff_getElem.mp (List.nodup_iff_pairwise_ne.mp W.nd)
 by_cases z:i<j
 · exact absurd h (P i j (by omega) (by omega) z)
 · by_cases y:j<i
   · exact absurd h.symm (P j i (by omega) (by omega) y)
   · omega
def Wd.cell (W:Wd th b rows kl) {i:Nat} (hi:i<2):Kd (rws rows) (th.getD i "") false:=⟨fun _ k=>by
 unfold pA sA
 split
 · rename_i r h
   rcases W.at h with ⟨_,h2⟩ | ⟨_,rfl⟩
   · cases r with
     | lay f a c =>
      show decide (f=th.getD i "")=false
      refine decide_eq_false fun z=>?_
      rcases h2 with y | y
      · have:=W.ne (i:=2) (j:=i) (by omega) (by omega) (y.symm.trans z);omega
      · have:=W.ne (i:=3) (j:=i) (by omega) (by omega) (y.symm.trans z);omega
     | _=>rfl
   · rfl
 · rfl,fun z=>(by cases z)⟩
def Wd.shelf (W:Wd th b rows kl) {i:Nat} (h0:2<=i) (hi:i<4):Kd (rws rows) (th.getD i "") true:=⟨fun z=>(by cases z),fun _ k=>by
 unfold sA
 split
 · rename_i r h
   rcases W.at h with ⟨_,h2⟩ | ⟨_,rfl⟩
   · cases r with
     | store c a =>
      show decide (c=th.getD i "")=false
      refine decide_eq_false fun z=>?_
      rcases h2 with y | y
      · have:=W.ne (i:=0) (j:=i) (by omega) (by omega) (y.symm.trans z);omega
      · have:=W.ne (i:=1) (j:=i) (by omega) (by omega) (y.symm.trans z);omega
     | _=>rfl
   · rfl
 · rfl⟩
structure Tg (th:List Str) (b:Int) (rows:List Rw) (h:Hd) (shelf:Bool):Prop where
 k:Kd (rws rows) h.x shelf
 p:h.b=false->h.x∈plain (dJ th b) (dL th b)
 t:h.b=true->h.x∉plain (dJ th b) (dL th b)
def Wd.tg (W:Wd th b rows kl):∀ q∈(dJ th b).map (fun h=>(h,false))++(dL th b).map (fun h=>(h,true)),Tg th b rows q.1 q.2:=by
 have inj:∀ h∈dJ th b++dL th b,∀ g∈dJ th b++dL th b,h.x=g.x->h=g:=fun h hh g hg e=>by
  simp only [dJ,dL,List.cons_append,List.nil_append,List.mem_cons,List.not_mem_nil,or_false] at hh hg
  rcases hh with rfl | rfl | rfl | rfl<;>rcases hg with rfl | rfl | rfl | rfl<;>first
   | rfl
   | (exfalso;have:=W.ne (i:=0) (j:=1) (by omega) (by omega) e;omega)
   | (exfalso;have:=W.ne (i:=0) (j:=2) (by omega) (by omega) e;omega)
   | (exfalso;have:=W.ne (i:=0) (j:=3) (by omega) (by omega) e;omega)
   | (exfalso;have:=W.ne (i:=1) (j:=0) (by omega) (by omega) e;omega)
   | (exfalso;have:=W.ne (i:=1) (j:=2) (by omega) (by omega) e;omega)
   | (exfalso;have:=W.ne (i:=1) (j:=3) (by omega) (by omega) e;omega)
   | (exfalso;have:=W.ne (i:=2) (j:=0) (by omega) (by omega) e;omega)
   | (exfalso;have:=W.ne (i:=2) (j:=1) (by omega) (by omega) e;omega)
   | (exfalso;have:=W.ne (i:=2) (j:=3) (by omega) (by omega) e;omega)
   | (exfalso;have:=W.ne (i:=3) (j:=0) (by omega) (by omega) e;omega)
   | (exfalso;have:=W.ne (i:=3) (j:=1) (by omega) (by omega) e;omega)
   | (exfalso;have:=W.ne (i:=3) (j:=2) (by omega) (by omega) e;omega)
 have pl:∀ h∈dJ th b++dL th b,(h.b=false->h.x∈plain (dJ th b) (dL th b))/\(h.b=true->h.x∉plain (dJ th b) (dL th b)):=fun h hh=>by
  refine ⟨fun z=>List.mem_map.mpr ⟨h,List.mem_filter.mpr ⟨hh,by simp [z]⟩,rfl⟩,fun z hm=>?_⟩
  obtain ⟨g,hg,e⟩:=List.mem_map.mp hm
  obtain ⟨g1,g2⟩:=List.mem_filter.mp hg
  have:=inj h hh g g1 e.symm
  subst this
  simp [z] at g2
 intro q hq
 rcases List.mem_append.mp hq with z | z
 · obtain ⟨h,hh,rfl⟩:=List.mem_map.mp z
   obtain ⟨a,c⟩:=pl h (List.mem_append_left _ hh)
   refine ⟨?_,a,c⟩
   simp only [dJ,List.mem_cons,List.not_mem_nil,or_false] at hh
   rcases hh with rfl | rfl
   · exact W.cell (i:=0) (by omega)
   · exact W.cell (i:=1) (by omega)
 · obtain ⟨h,hh,rfl⟩:=List.mem_map.mp z
   obtain ⟨a,c⟩:=pl h (List.mem_append_right _ hh)
   refine ⟨?_,a,c⟩
   simp only [dL,List.mem_cons,List.not_mem_nil,or_false] at hh
   rcases hh with rfl | rfl
   · exact W.shelf (i:=2) (by omega) (by omega)
   · exact W.shelf (i:=3) (by omega) (by omega)
def PD (th:List Str) (b:Int) (rows:List Rw):Dt:=pD (dJ th b) (dL th b) (rws rows)
def lO (W:Wd th b rows kl) {bs:List Str} {h:Hd} {shelf:Bool} (t:Tg th b rows h shelf) (ch:CH):∃ (c:CV) (ext:CH),y19 [.dat (PD th b rows),.dat (cD (tS bs) (kq kl)),.dat (.str h.x)] ch=some (c,ch++ext)∧
  ((c=.dat .non/\(h.b=true∨prs (rws rows) (kps (kq kl)) h.x shelf=[]))∨
   ∃ s e i,c=.ref i/\(ch++ext)[i]?=some (rIs (List.range' s (e+1-s)))/\ch.length<=i/\h.b=false/\s<=e/\e<(rws rows).length/\(s,e)∈prs (rws rows) (kps (kq kl)) h.x shelf):=by
 have rl:=W.rl
 have hlen:(rws rows).length<=1000:=by rw [cZ];omega
 have hkl:(kq kl).length<=1000:=by rw [vG];have:=W.kl;omega
 cases hb:h.b with
 | true=>exact ⟨.dat .non,[],by rw [List.append_nil];exact sT (by simp [dJ]) (by simp [dL]) (by simp [dJ,dL]) (t.t hb),.inl ⟨rfl,.inl rfl⟩⟩
 | false =>
  obtain ⟨cf,J,r,e1,e2,e3⟩:=pY (cs:=dJ th b) (ss:=dL th b) (rows:=rws rows) (b:=tS bs) (kp:=kq kl) (nm:=h.x) (ch0:=ch) (by simp [dJ]) (by simp [dL]) (by simp [dJ,dL]) (t.p hb) hlen (by rw [cZ];omega) hkl W.kept (fun k r w hr hw=>by
   obtain ⟨a,c⟩:=oD W.strt hr hw
   omega)
  cases r with
  | none=>exact ⟨.dat .non,.dT (cfD ky cf)::lsC ky (ks cf)::J.map (lsC ky),e1,.inl ⟨rfl,.inr (none_str W.strt t.k (e2 rfl))⟩⟩
  | some ws =>
   obtain ⟨u,wy,hf⟩:=e3 ws rfl
   obtain ⟨s,g1,g2,g3,g4⟩:=sM W.strt (by rw [cZ];omega) W.kept t.k wy hf
   refine ⟨.ref (ch.length+2+J.length+2),(.dT (cfD ky cf)::lsC ky (ks cf)::J.map (lsC ky))++[lsC ky ws,lsC ky ws.reverse]++[rIs (ws.reverse.map (·.1))],?_,.inr ⟨s,u.1,_,rfl,?_,by omega,rfl,g1,g2,g3⟩⟩
   · rw [show y19 [.dat (PD th b rows),.dat (cD (tS bs) (kq kl)),.dat (.str h.x)] ch=_ from e1]
     unfold endS hpR
     simp only [List.append_assoc]
   · rw [List.getElem?_append_right (by omega),List.getElem?_append_right (by simp;omega),g4]
     simp only [List.length_append,List.length_cons,List.length_map,List.length_nil]
     rw [show ch.length+2+J.length+2-ch.length-(J.length+1+1+(0+1+1))=0 by omega]
     rfl
end
section
variable {th:List Str} {b:Int} {rows:List Rw} {kl:List (Nat×List Str)} {bs:List Str} {scr bx:Dt}
noncomputable def sl (scr bx:Dt) (th:List Str) (b:Int) (rows:List Rw) (bs:List Str) (kl:List (Nat×List Str)) (i:Nat) (x5 x6 x7:Option CV):Sl:=[some (.dat scr),some (.dat (PD th b rows)),some (.dat bx),some (.dat (cD (tS bs) (kq kl))),some (.ref i),x5,x6,x7]
def xM (l:List Nat):dats (l.map fun j=>CV.dat (dI j))=some (l.map dI):=by
 induction l with
 | nil=>rfl
 | cons a l ih=>simp only [List.map_cons,dats,ih,Option.map_some]
def yJ {ch:CH} {i:Nat} {l:List Nat} (h:ch[i]?=some (rIs l)):vw ch (.ref i)=some (.lst (l.map dI)):=by
 show (ch[i]?).bind vwO=_
 rw [h]
 show (dats (l.map fun j=>CV.dat (dI j))).map Dt.lst=_
 rw [xM]
 rfl
def oK (W:Wd th b rows kl) {h:Hd} {shelf:Bool} {c:CV} {ch2:CH} {n:Nat} (hc:(c=.dat .non/\(h.b=true∨prs (rws rows) (kps (kq kl)) h.x shelf=[]))∨
      ∃ s e i,c=.ref i/\ch2[i]?=some (rIs (List.range' s (e+1-s)))/\n<=i/\h.b=false/\s<=e/\e<(rws rows).length/\(s,e)∈prs (rws rows) (kps (kq kl)) h.x shelf) :
  ∃ fd,vw ch2 c=some fd/\z14 [dR (rws rows),cD (tS bs) (kq kl),fd,hdD h,.bl shelf]=some (.leaf (.bl true)):=by
 have rl:=W.rl
 have hlen:(rws rows).length<=1000:=by rw [cZ];omega
 have hkl:(kq kl).length<=1000:=by rw [vG];have:=W.kl;omega
 rcases hc with ⟨rfl,hh⟩ | ⟨s,e,i,rfl,h1,_,h2,h3,h4,h5⟩
 · exact ⟨.non,rfl,p0 hlen hkl hh⟩
 · exact ⟨found s e,yJ h1,p7 hlen hkl h2 h3 h4 h5⟩
def xN (W:Wd th b rows kl) {h:Hd} {shelf:Bool} (t:Tg th b rows h shelf) (i:Nat) (x7:Option CV) (ch:CH):∃ (y7:Option CV) (ext:CH),
  q37 (sl scr bx th b rows bs kl i (some (.dat (hdD h))) (some (.dat (.bl shelf))) x7) ch=some (.nx (sl scr bx th b rows bs kl i (some (.dat (hdD h))) (some (.dat (.bl shelf))) y7) (ch++ext)):=by
 let S:Option CV->Sl:=sl scr bx th b rows bs kl i (some (.dat (hdD h))) (some (.dat (.bl shelf)))
 obtain ⟨c,ext,e1,hc⟩:=lO W (bs:=bs) t ch
 -- the arguments of spoilt
 have sa:∀ (x:Option CV) (g:CH),ay (eD (vL 1)) (ay (eD (vL 3)) (ay (eD (toD (d2 aw (vB 5) (kD (.int 0))))) bV)) (S x) g=some ([.dat (PD th b rows),.dat (cD (tS bs) (kq kl)),.dat (.str h.x)],g):=fun x g=>by
  have a1:eD (vL 1) (S x) g=some (.dat (PD th b rows),g):=iD rfl
  have a2:eD (vL 3) (S x) g=some (.dat (cD (tS bs) (kq kl)),g):=iD rfl
  have a3:eD (toD (d2 aw (vB 5) (kD (.int 0)))) (S x) g=some (.dat (.str h.x),g):=iB (by
   unfold toD d2
   rw [lI (d:=hdD h) rfl]
   unfold hdD
   rfl)
  unfold ay
  rw [a1]
  simp only [Option.bind_some]
  rw [a2]
  simp only [Option.bind_some]
  rw [a3]
  rfl
 have a4:∀ (x:Option CV) (g:CH),eD (toD (d2 aw (vB 1) (kD (.int 2)))) (S x) g=some (.dat (dR (rws rows)),g):=fun x g=>iB (by
  unfold toD d2
  rw [lI (d:=PD th b rows) rfl]
  unfold PD pD
  rfl)
 have s1:aT 7 (eC y19 (ay (eD (vL 1)) (ay (eD (vL 3)) (ay (eD (toD (d2 aw (vB 5) (kD (.int 0))))) bV)))) (S x7) ch=some (.nx (S (some c)) (ch++ext)):=by
  have:eC y19 (ay (eD (vL 1)) (ay (eD (vL 3)) (ay (eD (toD (d2 aw (vB 5) (kD (.int 0))))) bV))) (S x7) ch=some (c,ch++ext):=by
   rw [u9 (sa x7 ch)]
   exact e1
  rw [bO this]
  rfl
 -- right,of a value found by fx
 have rt:∀ (fx:Fg) (x:Option CV) (g g2:CH) (c:CV),fx (S x) g=some (c,g2)->(∃ fd,vw g2 c=some fd/\z14 [dR (rws rows),cD (tS bs) (kq kl),fd,hdD h,.bl shelf]=some (.leaf (.bl true)))→
     ln (gE (eCV z14 (ay (eD (toD (d2 aw (vB 1) (kD (.int 2))))) (ay (eD (vL 3)) (ay fx (ay (eD (vL 5)) (ay (eD (vL 6)) bV))))))) (S x) g=some (false,g2):=fun fx x g g2 c hx ⟨fd,hv,hr⟩=>by
  have a2:∀ g,eD (vL 3) (S x) g=some (.dat (cD (tS bs) (kq kl)),g):=fun g=>iD rfl
  have a5:∀ g,eD (vL 5) (S x) g=some (.dat (hdD h),g):=fun g=>iD rfl
  have a6:∀ g,eD (vL 6) (S x) g=some (.dat (.bl shelf),g):=fun g=>iD rfl
  have ar:ay (eD (toD (d2 aw (vB 1) (kD (.int 2))))) (ay (eD (vL 3)) (ay fx (ay (eD (vL 5)) (ay (eD (vL 6)) bV)))) (S x) g=some ([.dat (dR (rws rows)),.dat (cD (tS bs) (kq kl)),c,.dat (hdD h),.dat (.bl shelf)],g2):=by
   unfold ay
   rw [a4]
   simp only [Option.bind_some]
   rw [a2]
   simp only [Option.bind_some]
   rw [hx]
   simp only [Option.bind_some]
   rw [a5]
   simp only [Option.bind_some]
   rw [a6]
   rfl
  have hvs:vws g2 [.dat (dR (rws rows)),.dat (cD (tS bs) (kq kl)),c,.dat (hdD h),.dat (.bl shelf)]=some [dR (rws rows),cD (tS bs) (kq kl),fd,hdD h,.bl shelf]:=by
   simp only [vws,hv]
   rfl
  unfold ln
  rw [n6 (AD ar hvs hr)]
  rfl
 have r1:=rt (eV 7) (some c) (ch++ext) (ch++ext) c (dP rfl) (oK (bs:=bs) W hc)
 -- found is changed
 obtain ⟨ext2,s3⟩:∃ ext2,fT (iR (e2 (gIs true) (eV 7) (eD (kD .non)))) (fB (eV 7) (eD (kD (.int 0)))) fA (S (some c)) (ch++ext)=some (.nx (S (some c)) (ch++ext2)):=by
  rcases hc with ⟨rfl,_⟩ | ⟨s,e,j,rfl,g1,g2,_,g3,g4,_⟩
  · exact ⟨ext,rfl⟩
  · have ct:iR (e2 (gIs true) (eV 7) (eD (kD .non))) (S (some (.ref j))) (ch++ext)=some (true,ch++ext):=by
     unfold iR
     rw [vc (dP (v:=.ref j) rfl) (show eD (kD .non) _ (ch++ext)=some (.dat .non,ch++ext) from rfl) (yJ g1) rfl (t:=.leaf (.bl true)) rfl]
     rfl
    rw [kh ct]
    refine ⟨ext.set (j-ch.length) (.lst ((List.range' s (e+1-s)).map (fun j=>CV.dat (dI j))++[.dat (.int 0)])),?_⟩
    unfold fB
    rw [dP (v:=.ref j) rfl]
    simp only [Option.bind_some]
    rw [show eD (kD (.int 0)) (S (some (.ref j))) (ch++ext)=some (.dat (.int 0),ch++ext) from rfl]
    simp only [Option.bind_some]
    rw [g1]
    unfold rIs
    dsimp only
    rw [if_pos (by rw [List.length_map,List.length_range'];rw [cZ] at g4;have:=W.rl;exact eR (by omega)),List.set_append_right _ _ g2]
 obtain ⟨c',ext',e1',hc'⟩:=lO W (bs:=bs) t (ch++ext2)
 have r2:=rt (eC y19 (ay (eD (vL 1)) (ay (eD (vL 3)) (ay (eD (toD (d2 aw (vB 5) (kD (.int 0))))) bV)))) (some c) (ch++ext2) (ch++ext2++ext') c' (by rw [u9 (sa _ _)];exact e1') (oK (bs:=bs) W hc')
 refine ⟨some c,ext2++ext',?_⟩
 show q37 (S x7) ch=some (.nx (S (some c)) _)
 unfold q37
 rw [aI s1,aI (by rw [i6 r1];rfl),aI s3,i6 r2,List.append_assoc]
 rfl
end
def thD (q:Hd×Bool):Dt:=.tup [hdD q.1,.bl q.2]
section
variable {th:List Str} {b:Int} {rows:List Rw} {kl:List (Nat×List Str)} {bs:List Str} {scr bx:Dt}
def oM (W:Wd th b rows kl) {L:List (Hd×Bool)} (hL:∀ q∈L,Tg th b rows q.1 q.2) {i:Nat}:∀ (d k n:Nat) (x5 x6 x7:Option CV) (ch:CH),k+d=L.length->d<n->ch[i]?=some (.lst (L.map fun q=>.dat (thD q)))→
  ∃ (y5 y6 y7:Option CV) (ext:CH),iX i (ggT 2 (d6 (ggN 5) (d6 (ggN 6) lx))) q37 n k (sl scr bx th b rows bs kl i x5 x6 x7) ch=some (.nx (sl scr bx th b rows bs kl i y5 y6 y7) (ch++ext))
 | 0,k,n,x5,x6,x7,ch,hk,hn,hi=>by
  obtain ⟨n,rfl⟩:∃ m,n=m+1:=⟨n-1,by omega⟩
  refine ⟨x5,x6,x7,[],?_⟩
  unfold iX
  rw [hi]
  dsimp only
  rw [List.getElem?_eq_none (by rw [List.length_map];omega),List.append_nil]
 | d+1,k,n,x5,x6,x7,ch,hk,hn,hi=>by
  obtain ⟨n,rfl⟩:∃ m,n=m+1:=⟨n-1,by omega⟩
  have hkl:k<L.length:=by omega
  obtain ⟨y7,ext,e1⟩:=xN (scr:=scr) (bx:=bx) (bs:=bs) W (hL L[k] (List.getElem_mem hkl)) i x7 ch
  obtain ⟨z5,z6,z7,ext2,ih⟩:=oM W hL d (k+1) n (some (.dat (hdD L[k].1))) (some (.dat (.bl L[k].2))) y7 (ch++ext) (by omega) (by omega) (xy hi)
  refine ⟨z5,z6,z7,ext++ext2,?_⟩
  unfold iX
  rw [hi]
  dsimp only
  rw [List.getElem?_map,gQ hkl]
  simp only [Option.map_some]
  have hb:ggT 2 (d6 (ggN 5) (d6 (ggN 6) lx)) (.dat (thD L[k])) ch (sl scr bx th b rows bs kl i x5 x6 x7)=some (sl scr bx th b rows bs kl i (some (.dat (hdD L[k].1))) (some (.dat (.bl L[k].2))) x7):=rfl
  rw [hb,Option.bind_some,e1,Option.bind_some]
  dsimp only
  rw [ih,List.append_assoc]
end
def cU {α:Type} {f:α->Dt} (h:∀ a,b8 (f a) (f a)=true):∀ l:List α,cmpbs (l.map f) (l.map f)=true
 | []=>rfl
 | a::l=>by
  rw [List.map_cons]
  unfold cmpbs
  rw [h a,cU h l]
  rfl
def dH {α:Type} {f:α->Dt} {n:Nat} (h:∀ a,cM (f a)<=n):∀ l:List α,deeps (l.map f)<=n
 | []=>Nat.zero_le _
 | a::l=>by
  have h1:=h a
  have h2:=dH h l
  rw [List.map_cons]
  unfold deeps
  omega
def xO (a:Atm):b8 a.d a.d=true:=by cases a<;>rfl
def iF (a:Atm):cM a.d<=1:=by cases a<;>simp [Atm.d,cM]
def AS (r:Rw):b8 r.d r.d=true:=by
 cases r<;>simp [Rw.d,b8,cmpbs,bL,xO]
def xP (r:Rw):cM r.d<=5:=by
 cases r<;>(simp only [Rw.d,cM,deeps];first | omega | (rename_i a;have:=iF a;omega) | (rename_i a _;have:=iF a;omega) | (rename_i a b;have:=iF a;have:=iF b;omega))
def AT (h:Hd):b8 (hdD h) (hdD h)=true:=by simp [hdD,b8,cmpbs,bL]
def rJ (h:Hd):cM (hdD h)<=5:=by simp [hdD,cM,deeps]
def rK (x:Str):b8 (.str x) (.str x)=true:=rfl
def oN (x:Str):cM (.str x)<=0:=by simp [cM]
def AU (p:Nat×List Str):b8 (keD p) (keD p)=true:=by
 unfold keD tS
 simp only [b8,cmpbs,cU rK,Bool.and_true]
 rfl
def xQ (p:Nat×List Str):cM (keD p)<=5:=by
 have:=dH oN p.2
 simp only [keD,tS,cM,deeps,dI]
 omega
def sX (cs ss:List Hd) (rows:List Rw):gEq false (pD cs ss rows) (pD cs ss rows)=some (.leaf (.bl true)):=by
 unfold pD
 have h1:=dH rJ cs
 have h2:=dH rJ ss
 have h3:=dH xP rows
 rw [mw (b:=true) ((yj ?_).trans (by rw [peqs_self]))]
 · rfl
 · rw [Bool.and_eq_true]
   refine ⟨?_,decide_eq_true ?_⟩
   · simp only [cmpbs,dR,b8,cU AT,cU AS,Bool.and_self]
   · simp only [deeps,cM,dR]
     omega
def sY (bs:List Str) (kl:List (Nat×List Str)):gEq false (cD (tS bs) (kq kl)) (cD (tS bs) (kq kl))=some (.leaf (.bl true)):=by
 have e:kpD (kq kl)=.tup (kl.map keD):=by
  unfold kpD kq
  rw [List.map_map]
  rfl
 unfold cD
 rw [e]
 have h1:=dH oN bs
 have h2:=dH xQ kl
 rw [mw (b:=true) ((yj ?_).trans (by rw [peqs_self]))]
 · rfl
 · rw [Bool.and_eq_true]
   refine ⟨?_,decide_eq_true ?_⟩
   · simp only [cmpbs,tS,b8,cU rK,cU AU,Bool.and_self]
   · simp only [deeps,cM,tS]
     omega
def main (ns:List Int) (hns:ns.length<=63):∃ ch',uZ [.dat (.lst (ns.map .int))] []=some (.dat (.bl true),ch'):=by
 obtain ⟨th,B,b,rows,p1,p2,p3,p4,p5,p6⟩:=p9 ns hns
 obtain ⟨bs,kl,c1,c2,c3⟩:=p8 (ns:=ns) (cs:=dJ th b) (ss:=dL th b) (rows:=rws rows) (B:=B) rfl (by omega) (by rw [cZ];omega)
 have W:Wd th b rows kl:=⟨p2,p3,p5,p6,fun p hp=>by have:=c2 p hp;rw [cZ] at this;exact this,by rw [cZ] at c3;exact c3⟩
 generalize hscr:(Dt.lst (ns.map .int))=scr at p1 c1
 have p1:z4 [scr]=some (.leaf (.tup [PD th b rows,.lst (B.map .str)])):=p1
 have c1:q12 [scr,PD th b rows,.lst (B.map .str)]=some (.leaf (cD (tS bs) (kq kl))):=c1
 generalize hbx:(Dt.lst (B.map .str))=bx at p1 c1
 let L:List (Hd×Bool):=(dJ th b).map (fun h=>(h,false))++(dL th b).map (fun h=>(h,true))
 have s1:nF (toD (au z4 (ae (vL 0) ao))) [1,2] (m9 2 (dM (aG 1) (dM (aG 2) m8))) [some (.dat scr),none,none,none,none,none,none,none] []=some (.nx [some (.dat scr),some (.dat (PD th b rows)),some (.dat bx),none,none,none,none,none] []):=by
  unfold nF
  rw [show toD (au z4 (ae (vL 0) ao)) (lo [some (.dat scr),none,none,none,none,none,none,none] [])=some (.tup [PD th b rows,bx]) from by
   show toD (au z4 (ae (vL 0) ao)) [some (.leaf scr),none,none,none,none,none,none,none]=_
   walk_at "k"
   rw [p1]
   rfl]
  rfl
 have s2:aT 3 (eD (toD (au q12 (ae (vL 0) (ae (vL 1) (ae (vL 2) ao)))))) [some (.dat scr),some (.dat (PD th b rows)),some (.dat bx),none,none,none,none,none] []=some (.nx [some (.dat scr),some (.dat (PD th b rows)),some (.dat bx),some (.dat (cD (tS bs) (kq kl))),none,none,none,none] []):=by
  rw [bO (iB (d:=cD (tS bs) (kq kl)) (by
   show toD (au q12 (ae (vL 0) (ae (vL 1) (ae (vL 2) ao)))) [some (.leaf scr),some (.leaf (PD th b rows)),some (.leaf bx),none,none,none,none,none]=_
   walk_at "k"
   rw [c1]
   rfl))]
  rfl
 have s3:aT 4 (eN (d2 bG (toD (br [none] (fIt (toD (d2 aw (vB 1) (kD (.int 0))))) (aG 0) bU q52)) (toD (br [none] (fIt (toD (d2 aw (vB 1) (kD (.int 1))))) (aG 0) bU y51)))) [some (.dat scr),some (.dat (PD th b rows)),some (.dat bx),some (.dat (cD (tS bs) (kq kl))),none,none,none,none] []=some (.nx (sl scr bx th b rows bs kl 0 none none none) [.lst (L.map fun q=>.dat (thD q))]):=by
  have:d2 bG (toD (br [none] (fIt (toD (d2 aw (vB 1) (kD (.int 0))))) (aG 0) bU q52)) (toD (br [none] (fIt (toD (d2 aw (vB 1) (kD (.int 1))))) (aG 0) bU y51)) [some (.leaf scr),some (.leaf (PD th b rows)),some (.leaf bx),some (.leaf (cD (tS bs) (kq kl))),none,none,none,none]=some (.lst (L.map thD)):=by
   unfold PD pD
   walk_at "k"
   rw [bJ (h:=fun h:Hd=>thD (h,false)) fun h _=>⟨_,rfl,rfl,by unfold q52 thD;walk_at "k"⟩]
   walk_at "k"
   rw [bJ (h:=fun h:Hd=>thD (h,true)) fun h _=>⟨_,rfl,rfl,by unfold y51 thD;walk_at "k"⟩]
   walk_at "k"
   rfl
  rw [bO (v:=.ref 0) (ch1:=[.lst (L.map fun q=>.dat (thD q))]) (by
   show (d2 bG _ _ [some (.leaf scr),some (.leaf (PD th b rows)),some (.leaf bx),some (.leaf (cD (tS bs) (kq kl))),none,none,none,none]).bind (al [])=_
   rw [this]
   show some (CV.ref 0,[CO.lst ((L.map thD).map .dat)])=_
   rw [List.map_map]
   rfl)]
  rfl
 have hL:=W.tg
 -- in one order or the other
 obtain ⟨i,L2,ch1,hL2,hch,s4⟩:∃ (i:Nat) (L2:List (Hd×Bool)) (ch1:CH),(∀ q∈L2,Tg th b rows q.1 q.2)/\ch1[i]?=some (.lst (L2.map fun q=>.dat (thD q)))/\L2.length<1000/\fT (tD (tB2 (gEq false) (toD (d2 bM (toD (au y1 (ae (vL 0) (ae (kD (.int 4)) ao)))) (kD (.int 2)))) (kD (.int 1)))) (aT 4 (eLR (eV 4))) fA (sl scr bx th b rows bs kl 0 none none none) [.lst (L.map fun q=>.dat (thD q))]=some (.nx (sl scr bx th b rows bs kl i none none none) ch1):=by
  have ca:=dQ ns 4
  rw [hscr] at ca
  have t:tD (tB2 (gEq false) (toD (d2 bM (toD (au y1 (ae (vL 0) (ae (kD (.int 4)) ao)))) (kD (.int 2)))) (kD (.int 1))) (sl scr bx th b rows bs kl 0 none none none) [.lst (L.map fun q=>.dat (thD q))]=some (decide (ns.getD 4 0%2=1),[.lst (L.map fun q=>.dat (thD q))]):=n5 (by
   generalize hlo:lo (sl scr bx th b rows bs kl 0 none none none) [CO.lst (L.map fun q=>.dat (thD q))]=δ
   have h0:vL 0 δ=some scr:=by rw [<- hlo];exact lH rfl
   have hcell:toD (au y1 (ae (vL 0) (ae (kD (.int 4)) ao))) δ=some (.int (ns.getD 4 0)):=by
    show Option.map T.d (((vL 0 δ).bind fun d=>((some (Dt.int 4)).bind fun d=>(some []).bind fun ds=>some (d::ds)).bind fun ds=>some (d::ds)).bind y1)=_
    rw [h0]
    simp only [Option.bind_some]
    rw [show y1 [scr,.int 4]=_ from ca]
    rfl
   show ((((toD (au y1 (ae (vL 0) (ae (kD (.int 4)) ao))) δ).bind fun x=>(some (Dt.int 2)).bind fun y=>bM x y).map T.d).bind fun x=>(some (Dt.int 1)).bind fun y=>gEq false x y).bind asB=_
   rw [hcell]
   rfl)
  by_cases q:ns.getD 4 0%2=1
  · rw [decide_eq_true q] at t
    refine ⟨1,L.reverse,[.lst (L.map fun q=>.dat (thD q)),.lst (L.reverse.map fun q=>.dat (thD q))],fun q hq=>hL q (List.mem_reverse.mp hq),rfl,by simp [L,dJ,dL],?_⟩
    rw [kh t]
    have:eLR (eV 4) (sl scr bx th b rows bs kl 0 none none none) [.lst (L.map fun q=>.dat (thD q))]=some (.ref 1,[.lst (L.map fun q=>.dat (thD q)),.lst (L.reverse.map fun q=>.dat (thD q))]):=by
     show some (CV.ref 1,[CO.lst (L.map fun q=>.dat (thD q)),CO.lst (L.map fun q=>CV.dat (thD q)).reverse])=_
     rw [List.map_reverse]
    rw [bO this]
    rfl
  · rw [decide_eq_false q] at t
    exact ⟨0,L,_,hL,rfl,by simp [L,dJ,dL],by rw [i6 t];rfl⟩
 obtain ⟨y5,y6,y7,ext,s5⟩:=oM (scr:=scr) (bx:=bx) (bs:=bs) W hL2 (i:=i) L2.length 0 100000 none none none ch1 (by omega) (by omega) hch
 refine ⟨ch1++ext,jz ?_⟩
 show aJ _ _ [some (.dat scr),none,none,none,none,none,none,none] []=_
 rw [aI s1,aI s2,aI s3,aI s4.2,aI (show g5 (eV 4) (ggT 2 (d6 (ggN 5) (d6 (ggN 6) lx))) q37 100000 (sl scr bx th b rows bs kl i none none none) ch1=_ from s5)]
 refine fY (iB ?_)
 generalize hlo:lo (sl scr bx th b rows bs kl i y5 y6 y7) (ch1++ext)=δ
 have h0:vL 0 δ=some scr:=by rw [<- hlo];exact lH rfl
 have h1:vL 1 δ=some (PD th b rows):=by rw [<- hlo];exact lH rfl
 have h2:vL 2 δ=some bx:=by rw [<- hlo];exact lH rfl
 have b1:vB 1 δ=some (PD th b rows):=by rw [<- hlo];exact lI rfl
 have b3:vB 3 δ=some (cD (tS bs) (kq kl)):=by rw [<- hlo];exact lI rfl
 have k1:toD (au z4 (ae (vL 0) ao)) δ=some (.tup [PD th b rows,bx]):=by
  show Option.map T.d (((vL 0 δ).bind fun d=>(some []).bind fun ds=>some (d::ds)).bind z4)=_
  rw [h0]
  simp only [Option.bind_some]
  rw [p1]
  rfl
 have k2:toD (au q12 (ae (vL 0) (ae (vL 1) (ae (vL 2) ao)))) δ=some (cD (tS bs) (kq kl)):=by
  show Option.map T.d (((vL 0 δ).bind fun d=>((vL 1 δ).bind fun d=>((vL 2 δ).bind fun d=>(some []).bind fun ds=>some (d::ds)).bind fun ds=>some (d::ds)).bind fun ds=>some (d::ds)).bind q12)=_
  rw [h0,h1,h2]
  simp only [Option.bind_some]
  rw [c1]
  rfl
 have k3:toD (d2 (gEq false) (vB 1) (toD (d2 aw (toD (au z4 (ae (vL 0) ao))) (kD (.int 0))))) δ=some (.bl true):=by
  show Option.map T.d ((vB 1 δ).bind fun x=>(Option.map T.d ((toD (au z4 (ae (vL 0) ao)) δ).bind fun x=>(some (Dt.int 0)).bind fun y=>aw x y)).bind fun y=>gEq false x y)=_
  rw [b1,k1]
  show Option.map T.d (gEq false (PD th b rows) (PD th b rows))=_
  unfold PD
  rw [sX]
  rfl
 have k4:d2 (gEq false) (vB 3) (toD (au q12 (ae (vL 0) (ae (vL 1) (ae (vL 2) ao))))) δ=some (.leaf (.bl true)):=by
  show ((vB 3 δ).bind fun x=>(toD (au q12 (ae (vL 0) (ae (vL 1) (ae (vL 2) ao)))) δ).bind fun y=>gEq false x y)=_
  rw [b3,k2]
  exact sY bs kl
 show Option.map T.d (m7 _ _ δ)=_
 rw [An,k3]
 simp only [Option.bind_some,m6,dl]
 rw [k4]
 rfl
def mF (K:PySem.W.Frag):Sp:=fun vs H Q _=>∃ (a:Addr) (ns:List Int),vs=[.ref a]/\SqL K H a (ns.map V.int)/\ns.length<=63/\rg H/\∀ H',Q (.bl true) H'
def AV {K:PySem.W.Frag} {vs:List V} {H:Hp} {Q:VK} {E:XK} (h:mF K vs H Q E):spG K 1 uZ vs H Q E:=by
 obtain ⟨a,ns,rfl,hS,hl,hO,q⟩:=h
 obtain ⟨ch',hm⟩:=main ns hl
 refine ⟨H,fun _=>a,[.dat (.lst (ns.map .int))],[],.dat (.bl true),ch',⟨Same.refl H,fun i j hi=>absurd hi (Nat.not_lt_zero _),fun i hi=>absurd hi (Nat.not_lt_zero _),fun i o h=>by simp at h⟩,rfl,⟨_,[],rfl,?_,rfl⟩,hm,fun v F' H' ρ' _ o=>?_⟩
 · show Rep K H (.lst (ns.map .int)) (.ref a)
   simp only [Rep]
   exact ⟨a,_,rfl,hS,Reps.map (fun _=>f9) ns⟩
 · have o:Rep K F' (.bl true) v:=o
   simp only [Rep] at o
   subst o
   exact q H'
def all_mk {l:PySem.W.OpenLaw} {w:World} {K:PySem.W.Frag} {h:Heap} {mg:Str->Option Value} {fa:Addr} (X:K.In h) (G:h.Ns mainGlobals mg) (hfa:mg "law"=some (.ref fa))
  (a0:AtF K "_law_cell_at" y18)
  (a1:AtF K "_law_names" z17)
  (a2:AtF K "_law_program" q14)
  (a3:AtF K "_law_cutting" y12)
  (a4:AtF K "kept_rows" z24)
  (a5:AtF K "ways_of" y34)
  (a6:AtF K "ways" fm)
  (a7:AtF K "inner_ways" y15)
  (a8:AtF K "traced" y29)
  (a9:AtF K "route" z30)
  (a10:AtF K "plain_names" y20)
  (a11:AtF K "mark_behind" q15)
  {cc12 Pt12:Addr} (a12:AtC K "spoilt" q13 cc12 Pt12) (hd12:PySem.W.codeHdIn K cc12 Pt12=true) (to12:oO K "spoilt"=some (Pt12,qa "spoilt" (aM q13)))
  (a13:AtF K "_law_pairs" q16)
  (a14:AtF K "_law_whole" y17)
  (a15:AtF K "_law_right" z12)
  (a16:AtF K "law" c7)
  (z_all:PySem.W.nsIn K mainGlobals "all"=some none)
  (z_bool:PySem.W.nsIn K mainGlobals "bool"=some none)
  (z_enumerate:PySem.W.nsIn K mainGlobals "enumerate"=some none)
  (z_int:PySem.W.nsIn K mainGlobals "int"=some none)
  (z_isinstance:PySem.W.nsIn K mainGlobals "isinstance"=some none)
  (z_len:PySem.W.nsIn K mainGlobals "len"=some none)
  (z_list:PySem.W.nsIn K mainGlobals "list"=some none)
  (z_range:PySem.W.nsIn K mainGlobals "range"=some none)
  (z_reversed:PySem.W.nsIn K mainGlobals "reversed"=some none)
  (z_set:PySem.W.nsIn K mainGlobals "set"=some none)
  (z_sorted:PySem.W.nsIn K mainGlobals "sorted"=some none)
  (z_tuple:PySem.W.nsIn K mainGlobals "tuple"=some none)
  {u_FRESH:Value} (b_FRESH:PySem.W.nsIn K mainGlobals "FRESH"=some (some u_FRESH)) (r_FRESH:RelV (.str "fresh") u_FRESH)
  {u_SAFE:Value} (b_SAFE:PySem.W.nsIn K mainGlobals "SAFE"=some (some u_SAFE)) (r_SAFE:RelV (.str "safe") u_SAFE)
  {u_SEEN:Value} (b_SEEN:PySem.W.nsIn K mainGlobals "SEEN"=some (some u_SEEN)) (r_SEEN:RelV (.str "seen") u_SEEN)
  {u_SPOILT:Value} (b_SPOILT:PySem.W.nsIn K mainGlobals "SPOILT"=some (some u_SPOILT)) (r_SPOILT:RelV (.str "spoilt") u_SPOILT)
  (zIS:pN K=true)
  (kd_bool:gW K "bool")
  (kd_int:gW K "int")
  (kd_list:gW K "list")
  : ∃ fd:FuncData,(∀ (s:Shared) (v:Value),BindsTo s fd ⟨[v],[]⟩ [("_law_script",v)])/\∀ base:Heap,K.In base->base.Ns mainGlobals mg->pK mg base->FnOk l.prog w K mg base CX0 5 fa fd ["_law_script"] (mF K):=by
 obtain ⟨f16,oc16,od16,an16,sl16,kV16,dc16,pm16,cd16,ct16,a16,l16,c16,k16⟩:=a16
 have e:=hfa.symm.trans (PySem.W.mg_of X G a16)
 cases e
 have T:Txt l.prog w K mg:={n_all:=PySem.W.mg_none_of X G z_all,n_bool:=PySem.W.mg_none_of X G z_bool,n_enumerate:=PySem.W.mg_none_of X G z_enumerate,n_int:=PySem.W.mg_none_of X G z_int,n_isinstance:=PySem.W.mg_none_of X G z_isinstance,n_len:=PySem.W.mg_none_of X G z_len,n_list:=PySem.W.mg_none_of X G z_list,n_range:=PySem.W.mg_none_of X G z_range,n_reversed:=PySem.W.mg_none_of X G z_reversed,n_set:=PySem.W.mg_none_of X G z_set,n_sorted:=PySem.W.mg_none_of X G z_sorted,n_tuple:=PySem.W.mg_none_of X G z_tuple,g_FRESH:=iu ⟨_,PySem.W.mg_of X G b_FRESH,r_FRESH⟩,g_SAFE:=iu ⟨_,PySem.W.mg_of X G b_SAFE,r_SAFE⟩,g_SEEN:=iu ⟨_,PySem.W.mg_of X G b_SEEN,r_SEEN⟩,g_SPOILT:=iu ⟨_,PySem.W.mg_of X G b_SPOILT,r_SPOILT⟩,is:=zIS,k_bool:=kd_bool,k_int:=kd_int,k_list:=kd_list}
 have D0:DefF K mg "_law_cell_at" y18 ["_law_script","_law_k"]:=a0.df X G fun _ _ _ _ _ _ us hl=>match us,hl with | [_,_],_=>rfl
 have D1:DefF K mg "_law_names" z17 ["_law_cell","_law_many"]:=a1.df X G fun _ _ _ _ _ _ us hl=>match us,hl with | [_,_],_=>rfl
 have D2:DefF K mg "_law_program" q14 ["_law_script"]:=a2.df X G fun _ _ _ _ _ _ us hl=>match us,hl with | [_],_=>rfl
 have D3:DefF K mg "_law_cutting" y12 ["_law_script","_law_program_here","_law_boxes"]:=a3.df X G fun _ _ _ _ _ _ us hl=>match us,hl with | [_,_,_],_=>rfl
 have D4:DefF K mg "kept_rows" z24 ["code"]:=a4.df X G fun _ _ _ _ _ _ us hl=>match us,hl with | [_],_=>rfl
 have D5:DefF K mg "ways_of" y34 ["number","row"]:=a5.df X G fun _ _ _ _ _ _ us hl=>match us,hl with | [_,_],_=>rfl
 have D6:DefF K mg "ways" fm ["program"]:=a6.df X G fun _ _ _ _ _ _ us hl=>match us,hl with | [_],_=>rfl
 have D7:DefF K mg "inner_ways" y15 ["program","code"]:=a7.df X G fun _ _ _ _ _ _ us hl=>match us,hl with | [_,_],_=>rfl
 have D8:DefF K mg "traced" y29 ["came_from","last"]:=a8.df X G fun _ _ _ _ _ _ us hl=>match us,hl with | [_,_],_=>rfl
 have D9:DefF K mg "route" z30 ["starts","behind","fits"]:=a9.df X G fun _ _ _ _ _ _ us hl=>match us,hl with | [_,_,_],_=>rfl
 have D10:DefF K mg "plain_names" y20 ["program"]:=a10.df X G fun _ _ _ _ _ _ us hl=>match us,hl with | [_],_=>rfl
 have D11:DefF K mg "mark_behind" q15 ["mark","row","name"]:=a11.df X G fun _ _ _ _ _ _ us hl=>match us,hl with | [_,_,_],_=>rfl
 have D12:DefC K mg "spoilt" q13 ["program","code","name"] cc12:=a12.df X G fun _ _ _ _ _ _ us hl=>match us,hl with | [_,_,_],_=>rfl
 have D13:DefF K mg "_law_pairs" q16 ["_law_rows","_law_keeps","_law_name","_law_shelf"]:=a13.df X G fun _ _ _ _ _ _ us hl=>match us,hl with | [_,_,_,_],_=>rfl
 have D14:DefF K mg "_law_whole" y17 ["_law_found"]:=a14.df X G fun _ _ _ _ _ _ us hl=>match us,hl with | [_],_=>rfl
 have D15:DefF K mg "_law_right" z12 ["_law_rows","_law_code","_law_found","_law_told","_law_shelf"]:=a15.df X G fun _ _ _ _ _ _ us hl=>match us,hl with | [_,_,_,_,_],_=>rfl
 refine ⟨PySem.W.fnOf "law" "law" (bA c7) (aM c7) (ab c7) .none kV16 dc16 pm16 an16 cd16 ct16,fun s v=>.of_eq rfl,fun base kb _ bm=>?_⟩
 have y2:=z55 (P:=l.prog) (w:=w) (base:=base) T D0 
 have z31:=q59 (P:=l.prog) (w:=w) (base:=base) T D1 
 have q28:=q54 (P:=l.prog) (w:=w) (base:=base) T D2 y2 z31
 have z27:=z54 (P:=l.prog) (w:=w) (base:=base) T D3 y2
 have y24:=y61 (P:=l.prog) (w:=w) (base:=base) T D4 
 have y48:=q64 (P:=l.prog) (w:=w) (base:=base) T D5 
 have h_ways:=y67 (P:=l.prog) (w:=w) (base:=base) T D6 y48
 have z37:=z60 (P:=l.prog) (w:=w) (base:=base) T D7 y24 h_ways
 have z53:=y65 (P:=l.prog) (w:=w) (base:=base) T D8 
 have q58:=z66 (P:=l.prog) (w:=w) (base:=base) T D9 z53
 have q36:=y57 (P:=l.prog) (w:=w) (base:=base) T D10 
 have q29:=y58 (P:=l.prog) (w:=w) (base:=base) T D11 
 have y43:=z65 (P:=l.prog) (w:=w) (base:=base) T D12 (TabB.mk' kb hd12 bm) (w8 rfl to12) z37 q58 q36 q29 y24
 have z38:=y59 (P:=l.prog) (w:=w) (base:=base) T D13 
 have q38:=y60 (P:=l.prog) (w:=w) (base:=base) T D14 
 have q31:=z59 (P:=l.prog) (w:=w) (base:=base) T D15 z38 q38
 exact (Ak T (lW (st:=c7) l16 c16 k16) q28 z27 y43 y2 q31).imp fun vs H Q E z=>AV z
def B7 {K:PySem.W.Frag} {h:Heap} {ts:List Addr} (X:K.In h) (Y:∀ P∈ts,h.get? P=some (PySem.W.tabObj #[])) {cc0 Pt0:Addr} (a0:AtC K "spoilt" q13 cc0 Pt0) (hd0:PySem.W.codeHdIn K cc0 Pt0=true) (n0:K.lookup Pt0=none) (m0:Pt0∈ts) (e:cI K=[(Pt0,qa "spoilt" (aM q13))]):TabsIn K h:=
 TabsIn.one X e n0 hd0 (Y _ m0)
def walk {l:PySem.W.OpenLaw} {q:Program} {loose:List Str} {XP:(Str->Option Value)->Heap->Prop} {YP:World->Heap->Prop} {d:DefRec} {K:Params->PySem.W.Frag} (hn:l.most=some 63) (hdf:d.params.defaults=[])
  (hY:∀ (w:World) (h:Heap),YP w h->(K w.params).In h) (hT:∀ (w:World) (h:Heap),YP w h->TabsIn (K w.params) h)
  (F:∀ (w:World) (mg:Str->Option Value) (fa:Addr) (h:Heap),(K w.params).In h->h.Ns mainGlobals mg->mg d.name=some (.ref fa)→
   ∃ fd:FuncData,(∀ (s:Shared) (u:Value),BindsTo s fd ⟨[u],[]⟩ [("_law_script",u)])/\∀ base:Heap,(K w.params).In base->base.Ns mainGlobals mg->pK mg base->FnOk l.prog w (K w.params) mg base CX0 5 fa fd ["_law_script"] (mF (K w.params))) :
  PySem.W.WalkO q loose XP YP l.row.toRowW d [] (fun f vs=>PySem.call f vs):=
 L2.BG (n:=63) (k:=5) (x:="_law_script") (CX:=fun _=>CX0) (sp:=fun w=>mF (K w.params)) hn (by decide) hdf ⟨rfl,by decide,by decide⟩ hY hT F (fun _ _ a ns hl hO hS=>⟨a,ns,rfl,hS,hl,hO,fun _=>rfl⟩) fun _ _ _ _ _ z=>z
end P33
open PySem PySem.W PyProof.Rows
local macro_rules | `(tactic| walk_at "f") => `(tactic| (refine' L2.AtF.mk ?za ?zl ?zc ?zk; (case za => k_is); (case zl => k_is); (case zc => k_is); (case zk => k_is)))
local macro_rules | `(tactic| walk_at "c") => `(tactic| (refine' L2.AtC.mk ?za ?zl ?zc ?zk ?zx ?zp; (case za => k_is); (case zl => k_is); (case zc => k_is); (case zk => k_is); (case zx => k_is); (case zp => exact rfl)))
set_option maxRecDepth 100000 in
set_option maxHeartbeats 0 in
theorem PySem.Challenge.cw_dimhouse_k33_spoilt_in_straight_rows_holds : PySem.Challenge.rw_dimhouse_k33_spoilt_in_straight_rows.Holds := by
 w_on;o_law
 refine holds_open (q:=P33.seen) (loose:=[]) (Xt:=fun s=>xlAt P33.seen [] s&&recOk (RowW.records (OpenRow.toRowW PySem.Challenge.rw_dimhouse_k33_spoilt_in_straight_rows.row)) s) (XP:=XL P33.seen []) (Yf:=Hook.obs P33.hook) (Ya:=Hook.val P33.hook) (YP:=Hook.says P33.hook) (N:=1250) ?hl (Hook.of P33.hook) (Hook.keeps P33.hook) (fun s e=>xl_of s (Bool.and_eq_true_iff.mp e).1) XL.keeps (by rfl) (by rfl) (by rfl) (fun s e=>recFacts_of (Bool.and_eq_true_iff.mp e).2) (by rfl) (by first | assumption | decide +kernel) (by decide +kernel) ⟨rfl,rfl,rfl,rfl,rfl,by decide +kernel⟩ ?hw ?hc
 case hl=>exact LeftO.of_split "special-get-raises" fun w=>P33.map_two (P33.run_false w) (P33.run_true w)
 case hw=>w_witness2
 delta P33.hook
 k_fill
 refine P33.walk (l:=PySem.Challenge.rw_dimhouse_k33_spoilt_in_straight_rows) rfl rfl (fun w h Y=>PySem.W.km_in_of Y) ?T ?F
 case T =>
  intro w h Y
  refine' P33.B7 (PySem.W.km_in_of Y) (PySem.W.km_tabs_of Y) ?a0 ?hd0 ?n0 ?m0 ?e
  (case a0=>walk_at "c")
  (case hd0=>kernel_rfl)
  (case n0=>kernel_rfl)
  (case m0=>simp)
  (case e=>kernel_rfl)
 case F =>
  intro w mg fa h KX G hmg
  refine' P33.all_mk KX G hmg ?a0 ?a1 ?a2 ?a3 ?a4 ?a5 ?a6 ?a7 ?a8 ?a9 ?a10 ?a11 ?a12 ?hd12 ?to12 ?a13 ?a14 ?a15 ?a16 ?z_all ?z_bool ?z_enumerate ?z_int ?z_isinstance ?z_len ?z_list ?z_range ?z_reversed ?z_set ?z_sorted ?z_tuple ?b_FRESH ?r_FRESH ?b_SAFE ?r_SAFE ?b_SEEN ?r_SEEN ?b_SPOILT ?r_SPOILT ?zIS ?kd_bool ?kd_int ?kd_list
  (case a0=>walk_at "f")
  (case a1=>walk_at "f")
  (case a2=>walk_at "f")
  (case a3=>walk_at "f")
  (case a4=>walk_at "f")
  (case a5=>walk_at "f")
  (case a6=>walk_at "f")
  (case a7=>walk_at "f")
  (case a8=>walk_at "f")
  (case a9=>walk_at "f")
  (case a10=>walk_at "f")
  (case a11=>walk_at "f")
  (case a12=>walk_at "c")
  (case hd12=>kernel_rfl)
  (case to12=>kernel_rfl)
  (case a13=>walk_at "f")
  (case a14=>walk_at "f")
  (case a15=>walk_at "f")
  (case a16=>walk_at "f")
  (case z_all | z_bool | z_enumerate | z_int | z_isinstance | z_len | z_list | z_range | z_reversed | z_set | z_sorted | z_tuple | b_FRESH=>k_is)
  (case r_FRESH=>exact ⟨_,rfl⟩)
  (case b_SAFE=>k_is)
  (case r_SAFE=>exact ⟨_,rfl⟩)
  (case b_SEEN=>k_is)
  (case r_SEEN=>exact ⟨_,rfl⟩)
  (case b_SPOILT=>k_is)
  (case r_SPOILT=>exact ⟨_,rfl⟩)
  (case zIS=>kernel_rfl)
  (case kd_bool=>exact fun d hd=>by cases d<;>first | (cases hd;done) | k_is | rfl)
  (case kd_int=>exact fun d hd=>by cases d<;>first | (cases hd;done) | k_is | rfl)
  (case kd_list=>exact fun d hd=>by cases d<;>first | (cases hd;done) | k_is | rfl)
