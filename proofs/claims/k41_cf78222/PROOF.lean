import PyProof.Rows.All
import KE.KNest
import Wide.All
import OpenK.AllK
import Wide.FinOn
import Lean
import PyProof.EqAt
import PyProof.EqKinds
import PyProof.TupleCall
import PySem.Challenge.RW_dimhouse_k41_ends_and_rings
open Array renaming length_toList→qd5,getElem?_eq_getElem→qi3,getElem?_eq_none→qq5,getElem?_toList→qr5,toList_push→qw8
open Bool renaming and_eq_true→qb4,false_ne_true→qb9,or_eq_true→qj4,eq_iff_iff→ql6,not_eq_true'→qm0,true_and→qp9,and_eq_false_imp→qr6,and_eq_true_iff→qs4,or_eq_false_iff→qs5,and_true→qs6,false_eq_true→qu7,and_false→qv1,and_self→qx6,or_false→zd0,false_or→zd1
open False renaming elim→ql3
open ForInStep renaming yield→qn3
open Int renaming emod_lt_of_pos→qd4,toNat_natCast→qe3,emod_nonneg→qe8
open Lean renaming maxHeartbeats→qn6,maxRecDepth→qo4
open List renaming length_map→qa2,map_cons→qa3,getElem?_append_left→qa8,mem_singleton→qa9,getElem?_map→qb1,mem_cons→qb2,size_toArray→qb5,range→qb6,length_append→qb8,map_map→qc0,getD_eq_getElem?_getD→qc1,mem_append_right→qc3,length_cons→qc8,mem_of_getElem?→qc9,mem_range→qd0,getElem?_set_self→qd1,mem_cons_of_mem→qd3,getElem?_append_right→qd6,mem_map→qd8,mem_append→qe0,mem_append_left→qe1,mem_cons_self→qe4,append_nil→qf4,map_append→qf5,replicate→qf8,length_nil→qg2,length_filter_le→qg3,not_mem_nil→qg5,pairwise_cons→qg8,mem_filter→qh0,length_range→qh3,append_assoc→qh4,any_cons→qi2,length→qi6,getElem?_set_ne→qi7,foldl_cons→qj3,nodup_iff_pairwise_ne→qj7,lookup_cons→qk0,all_cons→qk4,nodup_cons→ql7,map_nil→qm3,getElem?_replicate→qm4,getElem?_cons_zero→qm5,all_eq_true→qm7,length_singleton→qn1,find?_cons→qn2,nodup_append→qn8,nodup_nil→qo1,mem_map_of_mem→qo5,map_congr_left→qo6,filter_sublist→qo7,sum_cons→qq2,filter_eq_nil_iff→qq6,pairwise_map→qr3,ext_getElem→qr9,drop_length→qs0,eq_nil_of_length_eq_zero→qs1,getElem_mem→qs2,getElem?_mapIdx→qs3,filterMap_cons→qt0,getElem?_range→qt4,length_pos_iff→qt8,length_eraseIdx_of_lt→qu1,getElem?_zip_eq_some→qv2,pairwise_iff_getElem→qv4,mem_of_find?_eq_some→qv8,mem_or_eq_of_mem_set→qv9,getElem?_set→qw6,idxOf_lt_length_iff→qx1,pairwise_mergeSort→qx7,length_eq_zero_iff→qy0,length_take→qy4,length_drop→qy5,any_eq_true→qy7,range_succ_eq_map→qz3,take_of_length_le→qz4,pairwise_lt_range→qz5,drop_of_length_le→qz6,of_mem_zip→za0,length_set→za1,getElem?_toArray→za4,singleton_append→za6,dropLast_eq_take→za9,range'→zc3,map_drop→zd5,Perm→zf2
open List.Pairwise renaming nil→qr1,imp→qw9
open List.Perm renaming refl→qv5
open List.cons renaming injEq→qq0
open Nat renaming lt_of_lt_of_le→qb7,ne_of_lt→qc2,le_trans→qc7,lt_succ_of_lt→qg7,not_lt_zero→qh5,le_of_lt→qh8,zero_le→qj2,lt_succ_self→qk1,lt_irrefl→qk2,ne_of_gt→qk3,le_succ→qk9,not_lt→qm1,le_refl→qx3,lt_trans→za3,sub_self→zb0
open Ne renaming symm→ql2
open Option renaming bind_some→qa0,map_some→qg0,join_some→qo3,bind_eq_some_iff→qp3,map_eq_some_iff→qq3,isSome_iff_exists→qw1,isSome_map→qw2,map→qx2
open Option.some renaming inj→qe9,injEq→qi0
open PyProof.Rows renaming callWith_type1→qj0,slot_tuple_getitem→ql8,IntsAre→qv0,envOfC→qy3,subscriptTail_builtinR→qz0,AllBare→qz7,subscriptTail→zc9,seqObj→ze4
open PyProof.Rows.F renaming plain_set_update_loop→qq1,entry_set_update_loop→qx9
open PySem renaming Shared→qa4,wpAny_pure→qa5,starEach→qa6,sizeLine→qb0,Program→qc4,mainGlobals→qc5,wpAny_newObj_type→qd2,bootBuiltins→qd7,Around→qd9,wpAny_setState_of→qe5,compareOp→qe6,SetTable→qf1,foldedSetIterable→qf7,behindInMarks→qf9,rawInt→qg1,wpAny_call_entry→qg4,wpAny_callSpecial?_slot→qg6,wpAny_bind→qh6,backTo→qh9,wpAny_truthy_bool→qi1,sysModules→qi5,wpAny_holding→qi8,Builtin→qj1,codeAny_builtin→qj5,wpAny_mono→qj9,attributeBase→qk5,wpAny_setField→qk8,binaryOp→ql1,assignEach→ql4,wpAny_passesOwn→ql5,scanBound→qm2,swapsWith→qm6,wpAny_askSetting→qm8,firstArgMember→qo0,FuncData→qo2,Keyword→qp6,Arguments→qp7,tupleKind_room_in1→qp8,wpAny_pyIter_list→qq7,wpAny_field→qq8,sliceBounds→qq9,keywordEach→qr0,fits_of_scanBound→qr4,builtinLookup_eq_fast→qr7,noFill_tuple_add→qr8,plainId_quiet→qs8,wpAny_execs_nil→qt1,letOwnedTupleGo→qt2,codeAny→qt3,wpAny_pyIter_tuple→qu2,codeAny_mono→qu3,wpAny_Call_Name_kw→qu4,NameKind→qu5,concat_meets→qu6,wpAny_seqItems→qv3,wpAny_fieldsOf→qv6,PassesOwn→qw0,wpAny_comprehension_free→qw3,holding→qx4,seq_tuple_add→qx5,relayAll→qx8,wpAny_attempt→qy1,setNext→qy2,wpAny_isInstance→qy6,wpAny_pyNext_range_end→qy8,wpAny_pyIter_rangeiter→qy9,codeAny_compStart_list→qz2,wpAny_isTrue_Compare1→qz8,assign→qz9,typeLookup_type→za7,pickOrder→za8,builtinsNs→zb1,backToKw→zb2,compPost→zb3,setEntries→zb4,pyNext→zb6,wpAny_runValue→zb7,IsRangeIter→zb8,getItem→zb9,subscripted→zc0,valueAt→zc1,wpAny_of_eq→zc2,tupleKind→zc5,wpAny_standAt→zc6,swapsWithSole→zc7,swappedStores→zc8,wpAny_handled→zd2,setField→zd4,call_meets→zd6,callerA→zd7,wpAny_rule→zd8,setsByText→zd9,IsPart→ze1,wpAny_typeOf→ze2,raiseNew→ze5,treeTable→ze6,pyIter→ze9,BindsTo→zf0,newExc→zf1
open PySem.Around renaming under_plainId→qh7
open PySem.AutoSeq1 renaming wpAny_loadPart'→qp2
open PySem.Builtin.List renaming listExtendWith→qn5,listTooLong→qp1,listLengthHint→qt7,listSameRef→qx0
open PySem.Builtin.Range renaming rangeSize→qc6,rangeFitsLong→qt6
open PySem.Builtin.Slice renaming slicePlaces→qk6,sliceAdjust→qn9,sliceApplied→qu0
open PySem.Builtin.SmallTypes renaming nextOf→qk7
open PySem.Builtin.Str renaming occurrences→qp5
open PySem.Builtin.Tuple renaming tupleExact→ql9
open PySem.Calls renaming Name_function_global→qt9,call_function_entry→qv7,callWith_builtin→qz1
open PySem.F renaming slot_tuple_iterator_next→qj6,called_set→qn4,args_tuple_iterator_next_1→qs7,entry_tuple_iterator_next→qt5
open PySem.Heap renaming lt_size→qa7,get?_push_size→qb3,get?_update_self→qf2,size_push→qh1,get?_update_other→qm9,SameBut→qn0,get?_push_of_some→qq4
open PySem.Heap.SameBut renaming update→qf3
open PySem.NameKind renaming free→qh2
open PySem.Obj renaming data_mapFields→qe7,isFreed_of_fields→qi4,mapSeq→qp0,cls_mapFields→qr2,mapFields→qs9
open PySem.PassesOwn renaming never→qe2
open PySem.PyData renaming keyHash→qi9
open PySem.SeqAt renaming EqAt→qf6,RcAt→qw4,RcNeAt→za5
open PySem.SeqAt.EqAt renaming of_refs→qu8,same→za2
open PySem.SeqAt.RcAt renaming lists_lengths→qw5
open PySem.SetTable renaming below→qf0,grown→ql0,insertAt→qw7
open PySem.Shared renaming TypeIs→zd3
open PySem.Str renaming ofString→qa1
open PySem.Value renaming ref→qg9,none→qj8,type→qn7,bool→qo8,isStrOf→zc4,int→ze7,str→ze8
open PySem.W.OpenRow renaming toRowW→zb5
open PySem.W.RowW renaming records→ze0
open PySem.pickOrder renaming go→ze3
open Sum renaming inl→qp4,inr→qu9
open True renaming intro→qo9
set_option Elab.async false
set_option linter.all false
namespace P41
open PySem PySem.W PyProof.Rows
section
local macro_rules | `(tactic| o_head $_) => `(tactic| exact (by assumption : ∀ p : Prop, p) _)
set_option maxRecDepth 100000 in
set_option maxHeartbeats 0 in
theorem pre (q:∀ p:Prop,p):PySem.Challenge.rw_dimhouse_k41_ends_and_rings.row.Holds:=by k_head
end
def seen:qc4:={PySem.Challenge.pw_dimhouse_k41_ends_and_rings with main:={PySem.Challenge.pw_dimhouse_k41_ends_and_rings.main with body:=[1,2,3,4,6,7,8,9,10,11,12,14,15,16,17,18,19,20,21,22,24,25,26,27,28,29,30,31,33,34,35,36,37,38,39,40,41,42,43,44,45].filterMap fun i=>PySem.Challenge.pw_dimhouse_k41_ends_and_rings.main.body[i]?}}
noncomputable abbrev hook:Hook:=kmHook P41.pre.heap_1 [2,3,15,17,18,20,21,22,25,26,27,29,30,32,33,34,36,37,39,40,41,42,43,44,45,46,47,48,49,50,51,53,54,56,57,58,60,61,63,64,65,67,68,70,71,72,75,76,77,80,81,82,85,86,87,90,91,92,95,96,97,99,100,102,103,104,107,108,109,111,112,114,115,116,119,120,121,124,125,126,128,129,131,132,133,135,136,138,139,140,143,144,145,147,148,150,151,152,154,155,157,158,159,161,162,164,165,166,169,170,171,173,174,176,177,178,180,181,183,184,185,188,189,190,192,193,195,196,197,199,200,202,203,204,206,207,209,210,211,213,214,216,217,218,221,222,223,226,227,228,230,231,233,234,235,238,239] (fun _=>by kernel_rfl) [134,105]
theorem map_two {α β γ:Type} {x:Option α} {f:α→β} {g:α→γ} {a:β} {b:γ} (h:x.map f=some a) (h':x.map g=some b):x.map (fun s=>(f s,g s))=some (a,b):=by
  cases x with
  | none=>cases h
  | some s=>simp only [qg0,qi0] at h h' ⊢;rw [h,h']
set_option maxRecDepth 100000 in
set_option maxHeartbeats 0 in
theorem run_false (w:World):(fencedOpening ze6 PySem.Challenge.rw_dimhouse_k41_ends_and_rings.row.prog w 2688).map (fun s₀=>(topFrom ze6 PySem.Challenge.rw_dimhouse_k41_ends_and_rings.row.prog (w.withFollow "special-get-raises" false) 2688 s₀).map (fun s=>(openSeen seen [PySem.Str.ofString "ATOM_PLACES"] (importedModules PySem.Challenge.rw_dimhouse_k41_ends_and_rings.row.prog.main.body) (fun s=>xlAt seen [] s&&recOk (ze0 (zb5 PySem.Challenge.rw_dimhouse_k41_ends_and_rings.row)) s) true s,Hook.obs hook s)))=some (some (openGood seen [PySem.Str.ofString "ATOM_PLACES"],Hook.val hook (w.withFollow "special-get-raises" false))):=by kernel_rfl
set_option maxRecDepth 100000 in
set_option maxHeartbeats 0 in
theorem run_true (w:World):(fencedOpening ze6 PySem.Challenge.rw_dimhouse_k41_ends_and_rings.row.prog w 2688).map (fun s₀=>(topFrom ze6 PySem.Challenge.rw_dimhouse_k41_ends_and_rings.row.prog (w.withFollow "special-get-raises" true) 2688 s₀).map (fun s=>(openSeen seen [PySem.Str.ofString "ATOM_PLACES"] (importedModules PySem.Challenge.rw_dimhouse_k41_ends_and_rings.row.prog.main.body) (fun s=>xlAt seen [] s&&recOk (ze0 (zb5 PySem.Challenge.rw_dimhouse_k41_ends_and_rings.row)) s) true s,Hook.obs hook s)))=some (some (openGood seen [PySem.Str.ofString "ATOM_PLACES"],Hook.val hook (w.withFollow "special-get-raises" true))):=by kernel_rfl
end P41
set_option maxRecDepth 100000
set_option maxHeartbeats 4000000
set_option compiler.extract_closed false
noncomputable section
theorem bS {α β:Type _} {o:Option α} {f:α->Option β} {b:β} (h:o.bind f=some b):∃ a,o=some a/\f a=some b:=qp3.mp h
theorem mS {α β:Type _} {o:Option α} {f:α->β} {b:β} (h:o.map f=some b):∃ a,o=some a/\f a=b:=qq3.mp h
theorem gX {α:Type _} {l:List α} {i:Nat} {a:α} (h:l[i]?=some a):∃ z:i<l.length,l[i]=a:=List.getElem?_eq_some_iff.mp h
open PySem PySem.Spec PyProof.Rows in abbrev gN := @List.getElem?_set_ne
open PySem PySem.Spec PyProof.Rows in abbrev gP := @Heap.get?_push_of_some
open PySem PySem.Spec PyProof.Rows in abbrev wB := @wpAny_bind
open PySem PySem.Spec PyProof.Rows in abbrev gR := @List.getElem?_append_right
open PySem PySem.Spec PyProof.Rows in abbrev gQ := @List.getElem?_eq_getElem
open PySem PySem.Spec PyProof.Rows in abbrev nL := @Nat.le_refl
set_option maxRecDepth 100000
namespace L2
open PySem PySem.Spec PyProof.Rows
abbrev Key:=Sum Int Str
noncomputable def jU:Key->Value->Bool
 | .inl k,v=>Value.isInt k v
 | .inr x,v=>zc4 x v
noncomputable def keyH (w:World):Key->Int
 | .inl k=>hashInt k
 | .inr x=>hashStr w x
theorem cb:∀ {k:Key} {v:Value},jU k v=true->(∃ i t,k=qp4 i/\v=ze7 i t)∨(∃ x t,k=qu9 x/\v=ze8 x t)
 | .inl i,v,h=>by obtain ⟨t,e⟩:=Value.isInt_shape (k:=i) (v:=v) h;exact .inl ⟨i,t,rfl,e⟩
 | .inr x,v,h=>by obtain ⟨t,e⟩:=Value.isStrOf_shape (x:=x) (v:=v) h;exact .inr ⟨x,t,rfl,e⟩
theorem sN (i:Int) (t:Tok):jU (.inl i) (.int i t)=true:=by simp [jU,Value.isInt]
theorem sO (x:Str) (t:Tok):jU (.inr x) (.str x t)=true:=by simp [jU,zc4]
theorem z0 (a b:Int):decide ((qp4 a:Key)=qp4 b)=(a==b):=by
 by_cases e:a=b
 . subst e;simp
 . have h:¬ (qp4 a:Key)=qp4 b:=fun q=>e (qp4.inj q)
   rw [decide_eq_false h];exact (beq_eq_false_iff_ne.mpr e).symm
theorem Aa (a b:Str):decide ((qu9 a:Key)=qu9 b)=decide (a=b):=by
 by_cases e:a=b
 . subst e;simp
 . have h:¬ (qu9 a:Key)=qu9 b:=fun q=>e (qu9.inj q)
   rw [decide_eq_false h,decide_eq_false e]
theorem Ab (a:Int) (b:Str):decide ((qp4 a:Key)=qu9 b)=false:=decide_eq_false (fun q=>nomatch q)
theorem Ac (a:Str) (b:Int):decide ((qu9 a:Key)=qp4 b)=false:=decide_eq_false (fun q=>nomatch q)
noncomputable def bZ (prog:qc4) (w:World):PySem.KeyKind prog w Key where
 is:=jU
 hash:=keyH w
 inj:=fun v a b W O=>by
  rcases cb W with ⟨i,t,rfl,rfl⟩ | ⟨x,t,rfl,rfl⟩
  . rcases cb O with ⟨j,u,rfl,e⟩ | ⟨y,u,rfl,e⟩
    . injection e with q _;rw [q]
    . exact nomatch e
  . rcases cb O with ⟨j,u,rfl,e⟩ | ⟨y,u,rfl,e⟩
    . exact nomatch e
    . injection e with q _;rw [q]
 byValue:=fun k v h=>by rcases cb h with ⟨i,t,rfl,rfl⟩ | ⟨x,t,rfl,rfl⟩<;>rfl
 pyHash:=fun L h=>by
  rcases cb L with ⟨i,t,rfl,rfl⟩ | ⟨x,t,rfl,rfl⟩
  . exact wpAny_pyHash_int h
  . exact wpAny_pyHash_str h
 eqBool:=fun U L h=>by
  rcases cb U with ⟨i,t,rfl,rfl⟩ | ⟨x,t,rfl,rfl⟩
  . rcases cb L with ⟨j,u,rfl,rfl⟩ | ⟨y,u,rfl,rfl⟩
    . rw [z0] at h;exact wpAny_eqBool_int h
    . rw [Ab] at h;exact qf6.int_str i t y u _ _ _ _ h
  . rcases cb L with ⟨j,u,rfl,rfl⟩ | ⟨y,u,rfl,rfl⟩
    . rw [Ac] at h;exact qf6.str_int x t j u _ _ _ _ h
    . rw [Aa] at h;exact wpAny_eqBool_str h
 «strs»:=fun k x t v h=>by
  rcases cb h with ⟨i,u,rfl,e⟩ | ⟨y,u,rfl,e⟩
  . exact nomatch e
  . injection e with q _;subst q;cases v<;>rfl
theorem nQ (prog:qc4) (w:World) (i:Int) (t:Tok):(bZ prog w).is (.inl i) (.int i t)=true:=sN i t
theorem gr (prog:qc4) (w:World) (x:Str) (t:Tok):(bZ prog w).is (.inr x) (.str x t)=true:=sO x t
inductive V where
 | non | bl (b:Bool) | int (i:Int) | str (x:Str) | byt (b:Array UInt8) | flt (b:UInt64) | ref (a:Addr) | ty (n:String)
 deriving DecidableEq
noncomputable def RelV:V->Value->Prop
 | .non,u=>u=qj8
 | .bl b,u=>u=qo8 b
 | .int i,u=>∃ t,u=ze7 i t
 | .str x,u=>∃ t,u=ze8 x t
 | .byt b,u=>∃ t,u=Value.bytes b t
 | .flt b,u=>∃ t,u=Value.float b t
 | .ref a,u=>u=qg9 a
 | .ty n,u=>u=qn7 n
abbrev Vals:List V->List Value->Prop:=Paired RelV
variable {xs:List V} {us:List Value}
theorem Vals.length (r:Vals xs us):xs.length=us.length:=Paired.length r
theorem Vals.get:∀ {xs:List V} {us:List Value} {i:Nat} {x:V},Vals xs us->xs[i]?=some x->∃ u,us[i]?=some u/\RelV x u
 | _,_,_,_,.nil,e=>by simp at e
 | _,_,0,_,.cons r _,e=>by simp at e;subst e;exact ⟨_,rfl,r⟩
 | _,_,i+1,x,.cons _ t,e=>by obtain ⟨u,h1,h2⟩:=Vals.get (i:=i) (x:=x) t (by simpa using e);exact ⟨u,by simpa using h1,h2⟩
variable {u:Value}
theorem Vals.set {x:V} (r:RelV x u):∀ {xs:List V} {us:List Value} (i:Nat),Vals xs us->Vals (xs.set i x) (us.set i u)
 | _,_,_,.nil=>.nil
 | _,_,0,.cons _ t=>.cons r t
 | _,_,i+1,.cons q t=>.cons q (Vals.set r i t)
theorem Vals.append:∀ {xs ys:List V} {us q:List Value},Vals xs us->Vals ys q->Vals (xs++ys) (us++q)
 | _,_,_,_,.nil,s=>s
 | _,_,_,_,.cons r t,s=>.cons r (Vals.append t s)
theorem Vals.take:∀ {xs:List V} {us:List Value} (n:Nat),Vals xs us->Vals (xs.take n) (us.take n)
 | _,_,0,_=>.nil
 | _,_,_+1,.nil=>.nil
 | _,_,n+1,.cons r t=>.cons r (Vals.take n t)
theorem Vals.drop:∀ {xs:List V} {us:List Value} (n:Nat),Vals xs us->Vals (xs.drop n) (us.drop n)
 | _,_,0,r=>r
 | _,_,_+1,.nil=>.nil
 | _,_,n+1,.cons _ t=>Vals.drop n t
noncomputable def RelO:Option V->Option Value->Prop
 | some v,some u=>RelV v u
 | none,none=>True
 | _,_=>False
noncomputable def KV {κ:Type}:List (κ×V)->List (κ×Value)->Prop:=Paired fun (p:κ×V) (q:κ×Value)=>p.1=q.1/\RelV p.2 q.2
noncomputable def kV:Key->V
 | .inl i=>.int i
 | .inr x=>.str x
inductive HO where
 | lst (xs:List V)
 | tup (xs:List V)
 | dK (kvs:List (Key×V)) | dT (kvs:List (List Key×V))
 | set (S:Int->Bool) (n:Nat)
 | ins (C dx:Addr) (fs:List (Str×V))
 | own (x:Addr)
 | xd (fs:List (Str×V))
 | met (f x:Addr)
 | rng (lo hi:Int)
 | frz (o:Obj) (u:HO)
 | tbl (ps:Array Value)
 | code (q:Str)
 | ctab (qs:List ((Nat×Nat)×Str))
 | ext (φ:Heap->Prop)
abbrev Hp:=Addr->Option HO
noncomputable def upd (H:Hp) (a:Addr) (o:HO):Hp:=fun b=>if b=a then some o else H b
variable {H:Hp} {a:Addr} {o:HO}
theorem bi:upd H a o a=some o:=by unfold upd;rw [if_pos rfl]
variable {b:Addr}
theorem aS (h:b≠a):upd H a o b=H b:=by unfold upd;rw [if_neg h]
theorem B9 {u:HO} (h:H a=some o) (h':H b=some u) (d:o≠u):a≠b:=by intro e;subst e;rw [h] at h';exact d (qe9 h')
theorem cg (h:H a=some o) (h':H b=none):a≠b:=by intro e;subst e;rw [h] at h';cases h'
section
variable (P:qc4) (w:World)
noncomputable def ObjOk (H:Hp) (h:Heap) (a:Addr):HO->Prop
 | .lst xs=>xs.length<=qb0/\∃ (its:List Value) (n:Nat),Vals xs its/\h.get? a=some {cls:=.type "list",data:=.seq its.toArray n}
 | .tup xs=>xs.length<=qb0/\∃ its:List Value,Vals xs its/\IsTup h a its.toArray
 | .dK kvs=>kvs.length<=qb0/\(a==qi5)=false/\∃ vs,KV kvs vs/\h.DictOf (bZ P w) a vs
 | .dT kvs=>kvs.length<=qb0/\(a==qi5)=false/\∃ xs:List (List Key×Addr×Value),
     Paired (fun (p:List Key×V) (q:List Key×Addr×Value)=>p.1=q.1/\H q.2.1=some (.tup (p.1.map kV))/\RelV p.2 q.2.2) kvs xs∧
     ∃ o es ep,h.get? a=some o/\o.ExactDict/\o.data=.dict es ep/\es.toList=xs.map (entryOfKey (zc5 (bZ P w)))/\(xs.map (·.1)).Nodup
 | .set S n=>h.SetOf (intKind P w) a S n
 | .ins C dx fs=>H dx=some (.own a)/\fs.length<=1000/\dx≠a/\h.get? a=some (PySem.W.instObj C dx)∧∃ mA,h.Ns1 dx mA/\(∀ f,RelO (fs.lookup f) (mA f))/\PySem.Within mA (fs.map (·.1))
 | .own _=>∃ o,h.get? a=some o
 | .xd fs=>∃ mA,h.Ns1 a mA/\∀ f,RelO (fs.lookup f) (mA f)
 | .rng lo hi=>∃ t u v,h.get? a=some {cls:=.type "range",data:=.fields #[.int lo t,.int hi u,.int 1 v]}
 | .frz o u=>h.get? a=some o/\ObjOk H h a u
 | .tbl ps=>h.get? a=some {cls:=.none,data:=.fields ps}
 | .code q=>h.CodeRec (.ref a) q
 | .ctab qs=>∃ ps:Array Value,h.get? a=some {cls:=.none,data:=.fields ps}/\TriplesOk ps.toList/\∀ (pos:Pos) (q:Str) (v:Value),((pos.line,pos.col),q)∈qs->codeAmong pos ps.toList=some v->∃ c o,v=.ref c/\H c=some (.frz o (.code q))
 | .met f x=>h.get? a=some (PySem.W.methodObj (.ref f) (.ref x))
 | .ext φ=>φ h/\(∃ o,h.get? a=some o)/\∀ h1 h2:Heap,φ h1->(∀ o,h1.get? a=some o->h2.get? a=some o)->φ h2
noncomputable def HOk (H:Hp) (h:Heap):Prop:=∀ a o,H a=some o->ObjOk P w H h a o
end
section
variable {P:qc4} {w:World} {H H':Hp} {h h':Heap} {a:Addr} {o:HO}
theorem ObjOk.lt (x:ObjOk P w H h a o):a<h.objs.size:=by
 cases o with
 | lst xs=>obtain ⟨_,_,_,_,e⟩:=x;exact qa7 e
 | tup xs=>obtain ⟨_,_,_,p⟩:=x;exact p.lt
 | dK kvs=>obtain ⟨_,_,_,_,o,_,_,e,_⟩:=x;exact qa7 e
 | dT kvs=>obtain ⟨_,_,_,_,o,_,_,e,_⟩:=x;exact qa7 e
 | set S n=>obtain ⟨o,_,_,_,e,_⟩:=x;exact qa7 e
 | ins C dx fs=>obtain ⟨_,_,_,e,_⟩:=x;exact qa7 e
 | own y=>obtain ⟨_,e⟩:=x;exact qa7 e
 | xd fs=>obtain ⟨_,⟨_,_,_,e,_⟩,_⟩:=x;exact qa7 e
 | rng lo hi=>obtain ⟨_,_,_,e⟩:=x;exact qa7 e
 | frz ob u=>obtain ⟨e,_⟩:=x;exact qa7 e
 | tbl ps=>exact qa7 (show h.get? a=some _ from x)
 | code q=>obtain ⟨c,o,vs,t,e,g,_⟩:=x;cases e;exact qa7 g
 | ctab qs=>obtain ⟨ps,g,_⟩:=x;exact qa7 g
 | met f y=>exact qa7 (show h.get? a=some _ from x)
 | ext φ=>obtain ⟨_,⟨_,e⟩,_⟩:=x;exact qa7 e
theorem Paired.mapP {α β:Type} {F G:α->β->Prop}:∀ {q:List α} {L:List β},Paired F q L->(∀ a b,F a b->G a b)->Paired G q L
 | _,_,.nil,_=>.nil
 | _,_,.cons r t,f=>.cons (f _ _ r) (Paired.mapP t f)
theorem ObjOk.stay (x:ObjOk P w H h a o) (k:∀ b u,(b=a∨H b=some (.own a))->h.get? b=some u->h'.get? b=some u)
  (U:∀ b,H b=some (.own a)->H' b=some (.own a)) (Z:∀ b xs,H b=some (.tup xs)->H' b=some (.tup xs)) (L:∀ b ob q,H b=some (.frz ob (.code q))->H' b=some (.frz ob (.code q))):ObjOk P w H' h' a o:=by
 induction o with
 | lst xs=>obtain ⟨z,its,n,r,e⟩:=x;exact ⟨z,its,n,r,k _ _ (.inl rfl) e⟩
 | tup xs=>obtain ⟨z,its,r,ob,e,c⟩:=x;exact ⟨z,its,r,ob,k _ _ (.inl rfl) e,c⟩
 | dK kvs=>obtain ⟨z,y,vs,r,ob,es,ep,e,c⟩:=x;exact ⟨z,y,vs,r,ob,es,ep,k _ _ (.inl rfl) e,c⟩
 | dT kvs =>obtain ⟨z,y,xs,r,ob,es,ep,e,c⟩:=x;exact ⟨z,y,xs,Paired.mapP r fun p q z=>⟨z.1,Z _ _ z.2.1,z.2.2⟩,ob,es,ep,k _ _ (.inl rfl) e,c⟩
 | set S n=>obtain ⟨ob,es,ep,t,e,c⟩:=x;exact ⟨ob,es,ep,t,k _ _ (.inl rfl) e,c⟩
 | ins C dx fs =>obtain ⟨d,z,Y,e,mA,⟨od,es,ep,e2,c⟩,r⟩:=x;exact ⟨U _ d,z,Y,k _ _ (.inl rfl) e,mA,⟨od,es,ep,k _ _ (.inr d) e2,c⟩,r⟩
 | own y=>obtain ⟨ob,e⟩:=x;exact ⟨ob,k _ _ (.inl rfl) e⟩
 | xd fs=>obtain ⟨mA,⟨od,es,ep,e,c⟩,r⟩:=x;exact ⟨mA,⟨od,es,ep,k _ _ (.inl rfl) e,c⟩,r⟩
 | rng lo hi=>obtain ⟨t,u,v,e⟩:=x;exact ⟨t,u,v,k _ _ (.inl rfl) e⟩
 | frz ob u ih=>obtain ⟨e,q⟩:=x;exact ⟨k _ _ (.inl rfl) e,ih q⟩
 | tbl ps =>have e:h.get? a=some {cls:=.none,data:=.fields ps}:=x;show h'.get? a=some {cls:=.none,data:=.fields ps};exact k a _ (.inl rfl) e
 | code q=>obtain ⟨c,o,vs,t,e,g,r⟩:=x;cases e;exact ⟨a,o,vs,t,rfl,k a _ (.inl rfl) g,r⟩
 | ctab qs=>obtain ⟨ps,g,r1,O⟩:=x;exact ⟨ps,k a _ (.inl rfl) g,r1,fun pos q v h1 h2=>let ⟨c,ob,e,g⟩:=O pos q v h1 h2;⟨c,ob,e,L c ob q g⟩⟩
 | met f y =>have e:h.get? a=some (PySem.W.methodObj (.ref f) (.ref y)):=x;show h'.get? a=some (PySem.W.methodObj (.ref f) (.ref y));exact k a _ (.inl rfl) e
 | ext φ=>obtain ⟨p,⟨o,e⟩,st⟩:=x;exact ⟨st _ _ p fun o q=>k _ _ (.inl rfl) q,⟨o,k _ _ (.inl rfl) e⟩,st⟩
theorem HOk.lt (x:HOk P w H h) (e:H a=some o):a<h.objs.size:=(x a o e).lt
theorem HOk.fresh (x:HOk P w H h) (e:h.objs.size<=a):H a=none:=by
 cases q:H a with
 | none=>rfl
 | some u=>exact absurd (qb7 (x.lt q) e) (qk2 _)
theorem HOk.kept (x:HOk P w H h) (k:∀ b u,h.get? b=some u->h'.get? b=some u):HOk P w H h':=fun a o e =>(x a o e).stay (fun b u _ q=>k b u q) (fun _ q=>q) (fun _ _ q=>q) fun _ _ _ q=>q
theorem HOk.laid (x:HOk P w H h) (k:∀ b u,h.get? b=some u->h'.get? b=some u) (hp:h.objs.size<=a) (new:ObjOk P w (upd H a o) h' a o):HOk P w (upd H a o) h':=fun b u e=>by
 have L:=x.fresh hp;by_cases O:b=a
 . subst O;rw [bi] at e;cases e;exact new
 . rw [aS O] at e;exact (x b u e).stay (fun c v _ q=>k c v q) (fun c q=>by rw [aS (cg q L)];exact q) (fun c xs q=>by rw [aS (cg q L)];exact q) fun c ob xs q=>by rw [aS (cg q L)];exact q
end
noncomputable def Rd (H:Hp) (a:Addr) (u:HO):Prop:=H a=some u∨∃ o,H a=some (.frz o u)
theorem Rd.of {u:HO} (h:H a=some u):Rd H a u:=.inl h
variable {P:qc4} {w:World} {h:Heap}
theorem Rd.ok {u:HO} (r:Rd H a u) (x:HOk P w H h):ObjOk P w H h a u:=by
 rcases r with r | ⟨o,r⟩
 . exact x a u r
 . obtain ⟨_,q⟩:=x a _ r;exact q
noncomputable def Mut:Option HO->Prop
 | some (.lst _)=>True
 | some (.dK _)=>True
 | some (.dT _)=>True
 | some (.set _ _)=>True
 | some (.ins _ _ _)=>True
 | some (.ext _)=>True
 | _=>False
section
variable {P:qc4} {w:World} {H:Hp} {h h':Heap} {x e:Addr} {o':HO}
theorem HOk.write (ok:HOk P w H h) (U:Mut (H x)) (he:e=x∨H e=some (.own x)) (k:∀ b u,b≠e->h.get? b=some u->h'.get? b=some u) (heo:∃ u,h'.get? e=some u)
  (new:ObjOk P w (upd H x o') h' x o'):HOk P w (upd H x o') h':=fun b u q=>by
 have O:∀ c y,H c=some (.own y)->c≠x:=fun c y r z=>by subst z;rw [r] at U;exact U
 have Y:∀ c xs,H c=some (.tup xs)->c≠x:=fun c xs r z=>by subst z;rw [r] at U;exact U
 have W:∀ c ob xs,H c=some (.frz ob (.code xs))->c≠x:=fun c ob xs r z=>by subst z;rw [r] at U;exact U
 by_cases Z:b=x
 . subst Z;rw [bi] at q;cases q;exact new
 . rw [aS Z] at q;by_cases L:b=e
   . have q':H b=some (.own x):=by
      rcases he with z | z
      . exact absurd (L.trans z) Z
      . rw [L];exact z
     rw [q] at q';cases q'
     obtain ⟨v,hv⟩:=heo;exact ⟨v,by rw [L];exact hv⟩
   . refine (ok b u q).stay (fun c v hc r=>k c v ?_ r) (fun c r=>by rw [aS (O c b r)];exact r) (fun c xs r=>by rw [aS (Y c xs r)];exact r) fun c ob xs r=>by rw [aS (W c ob xs r)];exact r
     rcases hc with rfl | hc
     . exact L
     . rintro rfl;rcases he with z | z
       . exact O c b hc z
       . rw [hc] at z;cases z;exact Z rfl
end
structure Un (fs ex:List Addr) (H H':Hp) (h h':Heap):Prop where
 keep:∀ b o,h.get? b=some o->H b=none->b∉fs->b∉ex->h'.get? b=some o
 slot:∀ b o,h.get? b=some o->H b=none->b∈fs->b∉ex->∃ sl,h'.get? b=some {o with slots:=sl}
 free:∀ b o,h.get? b=some o->H b=none->b∉ex->H' b=none
 there:∀ b o,h.get? b=some o->b∉ex->∃ o',h'.get? b=some o'
 tups:∀ b xs,H b=some (.tup xs)->H' b=some (.tup xs)
 frzs:∀ b o u,H b=some (.frz o u)->H' b=some (.frz o u)
 tbls:∀ b ps,H b=some (.tbl ps)->∃ more,H' b=some (.tbl (ps++more))
 cts:∀ b qs,H b=some (.ctab qs)->H' b=some (.ctab qs)
section
variable {fs fs' ex ex':List Addr} {H H1 H2:Hp} {h h1 h2 h':Heap} {a x e:Addr} {o:HO}
theorem Un.any (u:Un fs ex H H1 h h1) {ob:Obj} (q:h.get? b=some ob) (n:H b=none) (L:b∉ex):∃ sl,h1.get? b=some {ob with slots:=sl}:=by
 by_cases O:b∈fs
 . exact u.slot b ob q n O L
 . exact ⟨ob.slots,u.keep b ob q n O L⟩
theorem Un.kept (k:∀ b u,h.get? b=some u->h'.get? b=some u):Un fs ex H H h h':=⟨fun b ob q _ _ _=>k b ob q,fun b ob q _ _ _=>⟨ob.slots,k b ob q⟩,fun _ _ _ n _=>n,fun b ob q _=>⟨ob,k b ob q⟩,fun _ _ q=>q,fun _ _ _ q=>q,fun _ ps q=>⟨#[],by rw [q];simp⟩,fun _ _ q=>q⟩
theorem Un.refl:Un fs ex H H h h:=Un.kept fun _ _ q=>q
theorem Un.laid (k:∀ b u,h.get? b=some u->h'.get? b=some u) (hp:h.objs.size<=a) (L:H a=none):Un fs ex H (upd H a o) h h' where
 keep:=fun b u q _ _ _=>k b u q
 slot:=fun b u q _ _ _=>⟨u.slots,k b u q⟩
 free:=fun b u q n _=>by rw [aS (qc2 (qb7 (qa7 q) hp))];exact n
 there:=fun b u q _=>⟨u,k b u q⟩
 tups:=fun b xs q=>by rw [aS (cg q L)];exact q
 frzs:=fun b u xs q=>by rw [aS (cg q L)];exact q
 tbls:=fun b ps q=>⟨#[],by rw [aS (cg q L),q];simp⟩
 cts:=fun b qs q=>by rw [aS (cg q L)];exact q
theorem Un.write (U:Mut (H x)) (he:e=x∨H e=some (.own x)) (k:∀ b u,b≠e->h.get? b=some u->h'.get? b=some u) (W:∃ u,h'.get? e=some u):Un fs ex H (upd H x o) h h':=by
 have Y:∀ b,H b=none->b≠x:=fun b n z=>by subst z;rw [n] at U;exact U
 have Z:∀ b,H b=none->b≠e:=fun b n z=>by
  subst z;rcases he with r | r
  . exact Y b n r
  . rw [n] at r;cases r
 have O:∀ b u,H b=some u->¬ Mut (some u)->b≠x:=fun b u q nm z=>by subst z;rw [q] at U;exact nm U
 refine ⟨fun b u q n _ _=>k b u (Z b n) q,fun b u q n _ _=>⟨u.slots,k b u (Z b n) q⟩,fun b u q n _=>by rw [aS (Y b n)];exact n,fun b u q _=>?_,fun b xs q=>by rw [aS (O b _ q fun z=>z)];exact q,fun b u xs q=>by rw [aS (O b _ q fun z=>z)];exact q,fun b ps q=>⟨#[],by rw [aS (O b _ q fun z=>z),q];simp⟩,fun b xs q=>by rw [aS (O b _ q fun z=>z)];exact q⟩
 by_cases L:b=e
 . subst L;exact W
 . exact ⟨u,k b u L q⟩
end
noncomputable def trk (h:Heap) (H:Hp):List Addr:=(qb6 h.objs.size).filter fun a=>(H a).isSome
noncomputable def lh (h:Heap) (H:Hp):Heap:=PySem.W.hideAll h (trk h H)
theorem sP (h:Heap) (H:Hp):(lh h H).objs.size=h.objs.size:=PySem.W.hideAll_size _ _
theorem uz {o:Obj} (e:h.get? b=some o) (n:H b=none):(lh h H).get? b=some o:=PySem.W.hideAll_get _ e fun L=>by have q:(H b).isSome=true:=(qh0.mp L).2;rw [n] at q;simp at q
theorem xm {o:Obj} (e:(lh h H).get? b=some o):h.get? b=some o/\H b=none:=by
 have L:h.get? b=some o:=PySem.W.of_hideAll (trk h H) e;refine ⟨L,?_⟩;cases q:H b with
 | none=>rfl
 | some x =>have O:b∈trk h H:=qh0.mpr ⟨qd0.mpr (qa7 L),by simp [q]⟩;have z:(lh h H).get? b=none:=PySem.W.hideAll_none (trk h H) O;rw [z] at e;cases e
noncomputable def xn (g h:Heap) (L:Addr):List (Addr×Obj):=(qb6 h.objs.size).filterMap fun a=>if a=L∨(g.get? a).isSome=true then none else (h.get? a).map fun o=>(a,o)
noncomputable def rest (g h:Heap) (L d:Addr):List (Addr×Obj):=(xn g h L).filter fun p=>decide (p.1≠d)
noncomputable def nestNames:List Str:=["way_to_reading","spoilt"]
noncomputable def uA (x:Str) (ss:List Stmt):List ((Nat×Nat)×Str):=ss.filterMap fun st=>match st with
 | .FunctionDef name _ _ _ _ _ _ _ _ pos=>some ((pos.line,pos.col),x++".<locals>."++name)
 | _=>none
noncomputable def Ad (K:PySem.W.Frag) (x:Str):Option (Addr×List ((Nat×Nat)×Str)):=match PySem.W.tabIn K x with
 | some (_,P)=>(match PySem.W.nsIn K qc5 x with
  | some (some (.ref f))=>(match K.lookup f with
   | some o=>(match o.data with
    | .func fd=>(match fd.body with
     | .stmts b=>some (P,uA x b)
     | _=>none)
    | _=>none)
   | none=>none)
  | _=>none)
 | none=>none
noncomputable def fL (K:PySem.W.Frag):List (Addr×List ((Nat×Nat)×Str)):=nestNames.filterMap (Ad K)
structure Mod (K:PySem.W.Frag) (mg:Str->Option Value) (base:Heap):Prop where
 kin:K.In base
 glob:base.Ns qc5 mg
 blt:∃ mb,base.Ns zb1 mb/\∀ x:Str,x≠"__name__"->mb x=qd7 x
 nolimit:base.NoLimit
structure Cx where
 prog:qc4
 w:World
 K:PySem.W.Frag
 mg:Str->Option Value
 base:Heap
 A:qd9
 N:List Str
 s₀:qa4
 H₀:Hp
 env:Env
 outer:List Env
 stack:List Env
 ex:List Addr
 fn:Str->Bool
 calm:Bool
 pn:List (Addr×Obj)
 xe:Value->qa4->Prop
noncomputable def frs (l:List Env):List Addr:=l.filterMap (·.frame)
abbrev Cx.fs (X:Cx):List Addr:=frs X.outer
noncomputable def Vis (sc:Scope) (x:Str):Prop:=sc.names.lookup x=some .local∨sc.names.lookup x=some .cell∨sc.names.lookup x=some .free
noncomputable def Loc (sc:Scope) (x:Str):Prop:=sc.names.lookup x=some .local∨sc.names.lookup x=some .cell
noncomputable def Look (env:Env) (h:Heap) (m:Str->Option Value) (x:Str) (u:Value):Prop:=(env.kindOf x=some .local/\m x=some u)∨((env.kindOf x=some .cell∨env.kindOf x=some .free)/\∃ c,env.cells.lookup x=some c/\h.IsCell c (some u))
structure Cx.Ok (X:Cx):Prop where
 mod:Mod X.K X.mg X.base
 kind:X.env.scope.kind=.function
 glob:X.env.globals=qc5
 blt:X.env.builtins=zb1
 above:X.s₀.heap.objs.size<=X.env.locals
 inj:∀ x y c,X.env.cells.lookup x=some c->X.env.cells.lookup y=some c->x=y
 has:∀ x,(X.env.kindOf x=some .cell∨X.env.kindOf x=some .free)->∃ c,X.env.cells.lookup x=some c
 cab:∀ x c,X.fn x=true->X.env.cells.lookup x=some c->X.s₀.heap.objs.size<=c
 hd:X.calm=true->X.A.handled=none
 frames:X.A.frames=some X.stack
 stk:X.stack=X.outer∨(X.stack=X.env::X.outer/\X.env.frame=some X.env.locals)
 exf:∀ b∈X.ex,b≠X.env.locals/\∀ x c,X.env.cells.lookup x=some c->c≠b
 bs:∀ b o,X.base.get? b=some o->X.s₀.heap.get? b=some o/\X.H₀ b=none
 bsz:X.base.objs.size<=X.s₀.heap.objs.size
 noex:∀ b o,X.base.get? b=some o->b∉X.ex
 exfs:∀ b∈X.ex,b∉X.fs
 funs:X.s₀.heap.FunFrames X.base X.outer
 frf:∀ b∈X.fs,X.H₀ b=none
 tb:∀ p∈fL X.K,X.H₀ p.1=some (.ctab p.2)
structure Inv (X:Cx) (pins:List (Addr×Obj)) (σ:List (Option V)) (H:Hp) (s:qa4):Prop where
 ok:X.Ok
 os:s.os=X.s₀.os
 bare:qz7 s.gens
 base:Un X.fs X.ex X.H₀ H X.s₀.heap s.heap
 loc:∃ m,s.heap.Ns X.env.locals m/\∀ (i:Nat) (x:Str) (v:V),X.N[i]?=some x->σ[i]?=some (some v)->Vis X.env.scope x->∃ u,RelV v u/\Look X.env s.heap m x u
 cell:∀ x c,X.env.cells.lookup x=some c->∃ v,s.heap.IsCell c v
 free:H X.env.locals=none
 freeC:∀ x c,X.env.cells.lookup x=some c->H c=none
 pin:∀ p∈X.pn++pins,s.heap.get? p.1=some p.2/\H p.1=none/\p.1≠X.env.locals/\p.1∉X.fs/\∀ v,p.2.data≠.cell v
 hok:HOk X.prog X.w H s.heap
 len:σ.length=X.N.length
variable {g':Array GenState} {t' i j:Nat} {d':Drawn} {ch:List Addr} {it:Addr} {N:List Str} {x:Str} {M:Model} {A:qd9} {E:Value->qa4->Prop} {v:V} {Q:Unit->qa4->Prop} {s':qa4}
section
variable {X:Cx} {pins:List (Addr×Obj)} {σ:List (Option V)} {H H':Hp} {s:qa4} {h':Heap}
theorem Cx.Ok.nofr (ok:X.Ok) {o:Obj} (e:X.base.get? b=some o):b∉X.fs:=fun q=>by have:=(ok.funs.mem q).1;rw [e] at this;cases this
theorem Inv.bs (I:Inv X pins σ H s):∀ b o,X.base.get? b=some o->s.heap.get? b=some o/\H b=none:=fun b o e =>⟨I.base.keep b o (I.ok.bs b o e).1 (I.ok.bs b o e).2 (I.ok.nofr e) (I.ok.noex b o e),I.base.free b o (I.ok.bs b o e).1 (I.ok.bs b o e).2 (I.ok.noex b o e)⟩
theorem Inv.bk (I:Inv X pins σ H s):∀ b o,X.base.get? b=some o->s.heap.get? b=some o:=fun b o e=>(I.bs b o e).1
theorem Inv.mod (I:Inv X pins σ H s):Mod X.K X.mg X.base:=I.ok.mod
theorem Inv.kIn (I:Inv X pins σ H s):X.K.In s.heap:=I.ok.mod.kin.keeps I.bk
theorem Inv.fr (I:Inv X pins σ H s):∃ m,Fr X.base X.env.locals s.heap m:=
 let ⟨m,hn,_⟩:=I.loc
 ⟨m,hn,I.bk,qc7 I.ok.bsz I.ok.above⟩
theorem Inv.lt (I:Inv X pins σ H s):X.env.locals<s.heap.objs.size:=let ⟨_,hn,_⟩:=I.loc;hn.lt
theorem Inv.sz (I:Inv X pins σ H s):X.s₀.heap.objs.size<=s.heap.objs.size:=qc7 I.ok.above (qh8 I.lt)
theorem Inv.nofs (I:Inv X pins σ H s) (h:s.heap.objs.size<=a):a∉X.fs:=fun q=>by obtain ⟨_,o,L,_⟩:=I.ok.funs.mem q;exact absurd (qb7 (qa7 L) (qc7 I.sz h)) (qk2 _)
theorem Inv.cne (I:Inv X pins σ H s):∀ x c,X.env.cells.lookup x=some c->c≠X.env.locals:=fun x c e z=>by obtain ⟨v,o,O,U⟩:=I.cell x c e;obtain ⟨m,⟨o',es,ep,q,L,_⟩,_⟩:=I.loc;rw [z,q] at O;cases O;rw [L] at U;cases U
theorem Inv.funs (I:Inv X pins σ H s):s.heap.FunFrames X.base X.outer:=by
 have all:∀ (l:List Env),(∀ b∈frs l,b∈X.fs)->X.s₀.heap.FunFrames X.base l->s.heap.FunFrames X.base l:=by
  intro l;induction l with
  | nil=>intro _ _;trivial
  | cons env r ih =>
   intro W hl;obtain ⟨Y,⟨L,o,U,hn,ho,hd⟩,Z⟩:=hl;have O:L∈X.fs:=W L (by unfold frs;rw [qt0,U];exact qe4);obtain ⟨sl,e⟩:=I.base.slot L o ho (I.ok.frf L O) O fun z=>I.ok.exfs L z O
   exact ⟨Y,⟨L,_,U,hn,e,hd⟩,ih (fun b q=>W b (by unfold frs;rw [qt0,U];exact qd3 _ q)) Z⟩
 exact all X.outer (fun _ q=>q) I.ok.funs
theorem Inv.stack (I:Inv X pins σ H s):s.heap.FunFrames X.base X.stack:=by
 rcases I.ok.stk with e | ⟨e,q⟩
 . rw [e];exact I.funs
 . rw [e];obtain ⟨m,L,_⟩:=I.loc;refine .cons (by rw [I.ok.kind];decide) q L ?_ I.funs;exact Heap.get?_none_of_le (qc7 I.ok.bsz I.ok.above)
theorem Inv.stkSub (I:Inv X pins σ H s):∀ b∈frs X.stack,b∈X.env.locals::X.fs:=fun b q=>by
 rcases I.ok.stk with e | ⟨e,L⟩
 . rw [e] at q;exact qd3 _ q
 . rw [e] at q;unfold frs at q;rw [qt0,L] at q;exact q
theorem Inv.stkFree (I:Inv X pins σ H s):∀ b∈frs X.stack,H b=none:=fun b q=>by
 rcases qb2.mp (I.stkSub b q) with e | q
 . rw [e];exact I.free
 . obtain ⟨_,o,L,_⟩:=I.ok.funs.mem q;exact I.base.free b o L (I.ok.frf b q) fun z=>I.ok.exfs b z q
theorem Inv.step (I:Inv X pins σ H s)
 (O:∀ b∈ch,(b∈X.ex∨X.s₀.heap.objs.size<=b)/\b≠X.env.locals/\(∀ x c,X.env.cells.lookup x=some c->c≠b)/\∀ p∈X.pn++pins,p.1≠b)
 (keep:∀ b o,b≠X.env.locals->b∉X.fs->b∉ch->s.heap.get? b=some o->H b=none->h'.get? b=some o)
 (slot:∀ b o,b≠X.env.locals->b∈X.fs->b∉ch->s.heap.get? b=some o->H b=none->∃ sl,h'.get? b=some {o with slots:=sl}) (free:∀ b o,b∉ch->s.heap.get? b=some o->H b=none->H' b=none)
 (there:∀ b o,b∉ch->s.heap.get? b=some o->∃ o',h'.get? b=some o')
 (tups:∀ b xs,H b=some (.tup xs)->H' b=some (.tup xs)) (frzs:∀ b o u,H b=some (.frz o u)->H' b=some (.frz o u)) (tbls:∀ b ps,H b=some (.tbl ps)->∃ more,H' b=some (.tbl (ps++more))) (cts:∀ b qs,H b=some (.ctab qs)->H' b=some (.ctab qs))
 (ns:∀ m,s.heap.Ns X.env.locals m->h'.Ns X.env.locals m) (hok:HOk X.prog X.w H' h') (hg:qz7 g') :
  Inv X pins σ H' {s with heap:=h',gens:=g',drawn:=d',toks:=t'}:=by
 have neL:∀ b o,X.s₀.heap.get? b=some o->b≠X.env.locals:=fun b o e=>qc2 (qb7 (qa7 e) I.ok.above)
 have Y:∀ b o,X.s₀.heap.get? b=some o->b∉X.ex->b∉ch:=fun b o e L hb=>by
  rcases (O b hb).1 with z | z
  . exact L z
  . exact absurd (qb7 (qa7 e) z) (qk2 _)
 have U:∀ x c,X.env.cells.lookup x=some c->∀ v,s.heap.IsCell c v->h'.IsCell c v:=fun x c e v ⟨o,ho,hd⟩=>by
  have W:c∉ch:=fun z=>(O c z).2.2.1 x c e rfl
  by_cases hc:c∈X.fs
  . obtain ⟨sl,q⟩:=slot c o (I.cne x c e) hc W ho (I.freeC x c e);exact ⟨_,q,hd⟩
  . exact ⟨o,keep c o (I.cne x c e) hc W ho (I.freeC x c e),hd⟩
 refine ⟨I.ok,I.os,hg,⟨fun b o e n hb L=>?_,fun b o e n hb L=>?_,fun b o e n L=>?_,fun b o e L=>?_,fun b xs e=>tups b xs (I.base.tups b xs e),fun b o xs e=>frzs b o xs (I.base.frzs b o xs e),fun b ps e=>?_,fun b qs e=>cts b qs (I.base.cts b qs e)⟩,?_,fun x c e=>?_,?_,fun x c e=>?_,fun p hp=>?_,hok,I.len⟩
 . exact keep b o (neL b o e) hb (Y b o e L) (I.base.keep b o e n hb L) (I.base.free b o e n L)
 . obtain ⟨sl,Z⟩:=I.base.slot b o e n hb L;obtain ⟨sl',e2⟩:=slot b _ (neL b o e) hb (Y b o e L) Z (I.base.free b o e n L);exact ⟨sl',e2⟩
 . obtain ⟨o',Z⟩:=I.base.there b o e L;exact free b o' (Y b o e L) Z (I.base.free b o e n L)
 . obtain ⟨o',Z⟩:=I.base.there b o e L;exact there b o' (Y b o e L) Z
 . obtain ⟨m1,Z⟩:=I.base.tbls b ps e;obtain ⟨m2,e2⟩:=tbls b _ Z;exact ⟨m1++m2,by rw [e2,Array.append_assoc]⟩
 . obtain ⟨m,hn,hl⟩:=I.loc;refine ⟨m,ns m hn,fun i x v Z e2 e3=>?_⟩;obtain ⟨u,r,l⟩:=hl i x v Z e2 e3;refine ⟨u,r,?_⟩;rcases l with l | ⟨k,c,e,z⟩
   . exact .inl l
   . exact .inr ⟨k,c,e,U x c e _ z⟩
 . obtain ⟨v,z⟩:=I.cell x c e;exact ⟨v,U x c e v z⟩
 . obtain ⟨m,⟨o,_,_,ho,_⟩,_⟩:=I.loc;exact free _ o (fun z=>(O _ z).2.1 rfl) ho I.free
 . obtain ⟨v,o,ho,hd⟩:=I.cell x c e;exact free c o (fun z=>(O c z).2.2.1 x c e rfl) ho (I.freeC x c e)
 . obtain ⟨e,n,ne,nf,d⟩:=I.pin p hp;have W:p.1∉ch:=fun z=>(O p.1 z).2.2.2 p hp rfl
   exact ⟨keep p.1 p.2 ne nf W e n,free p.1 p.2 W e n,ne,nf,d⟩
theorem Inv.un (I:Inv X pins σ H s) (u:Un X.fs [] H H' s.heap h') (L:HOk X.prog X.w H' h'):Inv X pins σ H' {s with heap:=h',toks:=t'}:=by
 obtain ⟨m,⟨o,es,ep,Y,r⟩,_⟩:=id I.loc;obtain ⟨sl,hL⟩:=u.any Y I.free (by simp)
 exact I.step (g':=s.gens) (d':=s.drawn) (ch:=[]) (fun _ z=>nomatch z) (fun b o _ U _ e n=>u.keep b o e n U (by simp)) (fun b o _ U _ e n=>u.slot b o e n U (by simp)) (fun b o _ e n=>u.free b o e n (by simp)) (fun b o _ e=>u.there b o e (by simp)) u.tups u.frzs u.tbls u.cts (fun m' Z=>by
  obtain ⟨o',O,W,q,r'⟩:=Z;rw [Y] at q;cases q
  exact ⟨_,O,W,hL,r'⟩) L I.bare
theorem Inv.call {ch:List Addr} (I:Inv X pins σ H s) (u:Un (frs X.stack) ch H H' s.heap h') (U:HOk X.prog X.w H' h') (hg:qz7 g')
 (O:∀ b∈ch,(b∈X.ex∨X.s₀.heap.objs.size<=b)/\b≠X.env.locals/\(∀ x c,X.env.cells.lookup x=some c->c≠b)/\∀ p∈X.pn++pins,p.1≠b) :
  Inv X pins σ H' {s with heap:=h',gens:=g',drawn:=d',toks:=t'}:=by
 obtain ⟨m,⟨o,es,ep,ho,r⟩,_⟩:=id I.loc;obtain ⟨sl,Y⟩:=u.any ho I.free fun z=>(O _ z).2.1 rfl
 exact I.step (ch:=ch) O (fun b o Y hb q e n=>u.keep b o e n (fun z=>(qb2.mp (I.stkSub b z)).elim Y hb) q) (fun b o _ _ q e n=>u.any e n q) (fun b o q e n=>u.free b o e n q) (fun b o q e=>u.there b o e q) u.tups u.frzs u.tbls u.cts (fun m' hm=>by
  obtain ⟨o',W,Z,L,r'⟩:=hm;rw [ho] at L;cases L
  exact ⟨_,W,Z,Y,r'⟩) U hg
theorem Inv.turned (I:Inv X pins σ H s) (k:∀ b o,b≠it->s.heap.get? b=some o->h'.get? b=some o) (hn:H it=none) (U:it≠X.env.locals)
 (h1:it∈X.ex∨X.s₀.heap.objs.size<=it) (h2:∀ x c,X.env.cells.lookup x=some c->c≠it) (h3:∀ p∈X.pn++pins,p.1≠it):Inv X pins σ H {s with heap:=h',toks:=t'}:=by
 have O:∀ b u,H b=some u->b≠it:=fun b u e z=>by rw [z,hn] at e;cases e
 refine I.step (g':=s.gens) (d':=s.drawn) (ch:=[it]) (fun b W=>?_) (fun b o _ _ L e _=>k b o (fun z=>L (by simp [z])) e) (fun b o _ _ L e _=>⟨o.slots,k b o (fun z=>L (by simp [z])) e⟩) (fun _ _ _ _ n=>n)
  (fun b o L e=>⟨o,k b o (fun z=>L (by simp [z])) e⟩) (fun _ _ e=>e) (fun _ _ _ e=>e) (fun b ps e=>⟨#[],by rw [e];simp⟩) (fun _ _ e=>e) (fun m Y=>?_) (fun b u e=>?_) I.bare
 . have e:b=it:=by simpa using W
   subst e;exact ⟨h1,U,h2,h3⟩
 . obtain ⟨o,es,ep,Z,r⟩:=Y;exact ⟨o,es,ep,k _ o (ql2 U) Z,r⟩
 . refine (I.hok b u e).stay (fun c v L q=>k c v ?_ q) (fun _ q=>q) (fun _ _ q=>q) fun _ _ _ q=>q
   rcases L with z | z
   . rw [z];exact O b u e
   . exact O c _ z
theorem Inv.tok (I:Inv X pins σ H s) (t:Nat):Inv X pins σ H {s with toks:=t}:=I.un (h':=s.heap) (t':=t) Un.refl I.hok
theorem Inv.kept (I:Inv X pins σ H s) (k:∀ b u,s.heap.get? b=some u->h'.get? b=some u):Inv X pins σ H {s with heap:=h',toks:=t'}:=I.un (Un.kept k) (I.hok.kept k)
theorem Inv.laid (I:Inv X pins σ H s) (k:∀ b u,s.heap.get? b=some u->h'.get? b=some u) (hp:s.heap.objs.size<=a) (new:ObjOk X.prog X.w (upd H a o) h' a o) :
  Inv X pins σ (upd H a o) {s with heap:=h',toks:=t'}:=I.un (Un.laid k hp (I.hok.fresh hp)) (I.hok.laid k hp new)
theorem Inv.write {x e:Addr} (I:Inv X pins σ H s) (L:Mut (H x)) (O:e=x∨H e=some (.own x)) (k:∀ b u,b≠e->s.heap.get? b=some u->h'.get? b=some u) (q:∃ u,h'.get? e=some u) (new:ObjOk X.prog X.w (upd H x o) h' x o):Inv X pins σ (upd H x o) {s with heap:=h',toks:=t'}:=I.un (Un.write L O k q) (I.hok.write L O k q new)
theorem Inv.weak {σ':List (Option V)} (I:Inv X pins σ H s) (L:σ'.length=σ.length) (w:∀ (i:Nat) v,σ'[i]?=some (some v)->σ[i]?=some (some v)):Inv X pins σ' H s:=⟨I.ok,I.os,I.bare,I.base,let ⟨m,hn,hl'⟩:=I.loc;⟨m,hn,fun i x v O e2 q=>hl' i x v O (w i v e2) q⟩,I.cell,I.free,I.freeC,I.pin,I.hok,L.trans I.len⟩
theorem Inv.pins_of {q:List (Addr×Obj)} (I:Inv X pins σ H s) (h:∀ p∈q,s.heap.get? p.1=some p.2/\H p.1=none/\p.1≠X.env.locals/\p.1∉X.fs/\∀ v,p.2.data≠.cell v):Inv X q σ H s:=⟨I.ok,I.os,I.bare,I.base,I.loc,I.cell,I.free,I.freeC,fun p hp=>(qe0.mp hp).elim (fun z=>I.pin p (qe1 _ z)) (h p),I.hok,I.len⟩
theorem nR (q:N.Nodup) (a:N[i]?=some x) (b:N[j]?=some x):i=j:=by obtain ⟨h1,L⟩:=gX a;obtain ⟨h2,e2⟩:=gX b;exact (List.getElem_inj q).mp (L.trans e2.symm)
theorem ly (I:Inv X pins σ H s) (hN:X.N.Nodup) (hi:X.N[i]?=some x) (Y:Loc X.env.scope x) (r:RelV v u)
 (h:∀ s',Inv X pins (σ.set i (some v)) H s'->(∃ a,qn0 a s.heap s'.heap/\(a=X.env.locals∨X.env.cells.lookup x=some a))->Q () s') (hf:X.fn x=true∨X.env.scope.names.lookup x=some .local:=by first | exact .inl rfl | exact .inr rfl | assumption):wpAny M A (storeName X.env x u) Q E s:=by
 obtain ⟨m,hn,hl⟩:=id I.loc;have hcls:(X.env.scope.kind==.class||(X.env.scope.kind==.module&&X.env.locals != X.env.globals))=false:=by rw [I.ok.kind];rfl
 have hiσ:i<σ.length:=by rw [I.len];exact (gX hi).1
 have cne:=I.cne
 have O:∀ {a:Addr} {h':Heap},(∃ o,s.heap.get? a=some o/\H a=none)->qn0 a s.heap h'->HOk X.prog X.w H h':=fun {a h'} ha L b ob e=>by
  obtain ⟨_,_,Z⟩:=ha;refine (I.hok b ob e).stay (fun c w' W q=>(L.2 c ?_).trans q) (fun _ q=>q) (fun _ _ q=>q) fun _ _ _ q=>q
  rintro rfl;rcases W with rfl | W
  . rw [Z] at e;cases e
  . rw [Z] at W;cases W
 rcases Y with hk | hk
 . refine wpAny_storeName_local hk hn (fun h' hn' L=>?_) hcls;obtain ⟨oL,_,_,hoL,_⟩:=id hn;refine h _ ⟨I.ok,I.os,I.bare,⟨fun b o e n hb Y=>?_,fun b o e n hb Y=>?_,I.base.free,fun b o e Y=>?_,I.base.tups,I.base.frzs,I.base.tbls,I.base.cts⟩,⟨_,hn',fun j y v' U e2 e3=>?_⟩,fun y c e=>?_,I.free,I.freeC,fun p hp=>?_,O ⟨oL,hoL,I.free⟩ L,by simpa using I.len⟩ ⟨_,L,.inl rfl⟩
   . exact (L.2 b (qc2 (qb7 (qa7 e) I.ok.above))).trans (I.base.keep b o e n hb Y)
   . obtain ⟨sl,U⟩:=I.base.slot b o e n hb Y;exact ⟨sl,(L.2 b (qc2 (qb7 (qa7 e) I.ok.above))).trans U⟩
   . obtain ⟨o',U⟩:=I.base.there b o e Y;exact ⟨o',(L.2 b (qc2 (qb7 (qa7 e) I.ok.above))).trans U⟩
   . by_cases hj:j=i
     . subst hj;rw [hi] at U;cases U
       rw [qd1 hiσ] at e2;cases e2;exact ⟨u,r,.inl ⟨hk,by simp⟩⟩
     . rw [gN (ql2 hj)] at e2;obtain ⟨u',r',q⟩:=hl j y v' U e2 e3;refine ⟨u',r',?_⟩;rcases q with ⟨k,e⟩ | ⟨k,c,e,z⟩
       . refine .inl ⟨k,?_⟩;have:y≠x:=fun e=>hj (nR hN U (e▸hi))
         simp [this,e]
       . exact .inr ⟨k,c,e,z.sameBut L (cne y c e)⟩
   . obtain ⟨w',z⟩:=I.cell y c e;exact ⟨w',z.sameBut L (cne y c e)⟩
   . obtain ⟨e,n,ne,nf,d⟩:=I.pin p hp;exact ⟨(L.2 p.1 ne).trans e,n,ne,nf,d⟩
 . have hfn:X.fn x=true:=by
    rcases hf with z | z
    . exact z
    . rw [z] at hk;cases hk
   obtain ⟨c,W⟩:=I.ok.has x (.inl hk);obtain ⟨w',z⟩:=I.cell x c W;refine wpAny_storeName_cell I.ok.kind hk W z (fun h' hc' L=>?_);obtain ⟨oc,hoc,hocd⟩:=id z;refine h {s with heap:=h'} ⟨I.ok,I.os,I.bare,⟨fun b o e n hb Y=>?_,fun b o e n hb Y=>?_,I.base.free,fun b o e Y=>?_,I.base.tups,I.base.frzs,I.base.tbls,I.base.cts⟩,⟨m,hn.sameBut L (ql2 (cne x c W)),fun j y v' U e2 e3=>?_⟩,fun y c' e=>?_,I.free,I.freeC,fun p hp=>?_,O ⟨oc,hoc,I.freeC x c W⟩ L,by simpa using I.len⟩ ⟨c,L,.inr W⟩
   . exact (L.2 b (qc2 (qb7 (qa7 e) (I.ok.cab x c hfn W)))).trans (I.base.keep b o e n hb Y)
   . obtain ⟨sl,U⟩:=I.base.slot b o e n hb Y;exact ⟨sl,(L.2 b (qc2 (qb7 (qa7 e) (I.ok.cab x c hfn W)))).trans U⟩
   . obtain ⟨o',U⟩:=I.base.there b o e Y;exact ⟨o',(L.2 b (qc2 (qb7 (qa7 e) (I.ok.cab x c hfn W)))).trans U⟩
   . by_cases hj:j=i
     . subst hj;rw [hi] at U;cases U
       rw [qd1 hiσ] at e2;cases e2;exact ⟨u,r,.inr ⟨.inl hk,c,W,hc'⟩⟩
     . rw [gN (ql2 hj)] at e2;obtain ⟨u',r',q⟩:=hl j y v' U e2 e3;refine ⟨u',r',?_⟩;rcases q with q | ⟨k,c',e,z'⟩
       . exact .inl q
       . refine .inr ⟨k,c',e,z'.sameBut L ?_⟩;rintro rfl;exact hj (nR hN U (I.ok.inj _ _ _ e W▸hi))
   . by_cases hcc:c'=c
     . subst hcc;exact ⟨_,hc'⟩
     . obtain ⟨w2,z2⟩:=I.cell y c' e;exact ⟨w2,z2.sameBut L hcc⟩
   . obtain ⟨e,n,ne,nf,d⟩:=I.pin p hp;refine ⟨(L.2 p.1 ?_).trans e,n,ne,nf,d⟩;intro q;rw [q,hoc] at e;have q':oc=p.2:=qe9 e;exact d w' (by rw [<- q'];exact hocd)
theorem nS (I:Inv X pins σ H s) (U:X.N.Nodup) (hi:X.N[i]?=some x) (q:Loc X.env.scope x) (r:RelV v u)
 (h:∀ s',Inv X pins (σ.set i (some v)) H s'->Q () s') (O:X.fn x=true∨X.env.scope.names.lookup x=some .local:=by first | exact .inl rfl | exact .inr rfl | assumption):wpAny M A (storeName X.env x u) Q E s:=
 ly I U hi q r (fun s' L _=>h s' L) O
theorem Inv.call' (I:Inv X pins σ H s) (U:s'.os=s.os) (u:Un (frs X.stack) ch H H' s.heap s'.heap) (L:HOk X.prog X.w H' s'.heap) (O:qz7 s'.gens)
 (q:∀ b∈ch,(b∈X.ex∨X.s₀.heap.objs.size<=b)/\b≠X.env.locals/\(∀ x c,X.env.cells.lookup x=some c->c≠b)/\∀ p∈X.pn++pins,p.1≠b):Inv X pins σ H' s':=by
 obtain ⟨h',g',d',t',o'⟩:=s';have e:o'=s.os:=U;subst e;exact I.call (g':=g') (t':=t') (d':=d') u L O q
end
abbrev XK:=Value->Option Addr->Hp->Prop
abbrev St:=List (Option V)
abbrev VK:=V->Hp->Prop
abbrev TE:=St->Hp->VK->Prop
abbrev TT:=St->Hp->(Bool->Hp->Prop)->Prop
abbrev TA:=St->Hp->(List V->Hp->Prop)->Prop
structure Ends where
 nx:St->Hp->Prop
 rt:VK
 bk:St->Hp->Prop:=fun _ _=>False
 ct:St->Hp->Prop:=fun _ _=>False
abbrev TS:=Ends->St->Hp->Prop
noncomputable def EP (X:Cx) (pins:List (Addr×Obj)) (σ:St) (Q:VK) (u:Value) (s':qa4):Prop:=∃ v H',Inv X pins σ H' s'/\RelV v u/\Q v H'
noncomputable def TP (X:Cx) (pins:List (Addr×Obj)) (σ:St) (Q:Bool->Hp->Prop) (b:Bool) (s':qa4):Prop:=∃ H',Inv X pins σ H' s'/\Q b H'
noncomputable def AP (X:Cx) (pins:List (Addr×Obj)) (σ:St) (Q:List V->Hp->Prop) (us:List Value) (s':qa4):Prop:=∃ vs H',Inv X pins σ H' s'/\Vals vs us/\Q vs H'
noncomputable def SP (X:Cx) (pins:List (Addr×Obj)) (D:Ends) (f:Flow) (s':qa4):Prop:=
 match f with
 | .next=>∃ σ' H',Inv X pins σ' H' s'/\D.nx σ' H'
 | .brk=>∃ σ' H',Inv X pins σ' H' s'/\D.bk σ' H'
 | .cont=>∃ σ' H',Inv X pins σ' H' s'/\D.ct σ' H'
 | .ret u=>∃ v σ' H',Inv X pins σ' H' s'/\RelV v u/\D.rt v H'
noncomputable def PE (X:Cx) (e:Expr) (t:TE):Prop:=∀ (pins:List (Addr×Obj)) (s:qa4) (σ:St) (H:Hp) (Q:VK),Inv X pins σ H s->t σ H Q->wpAny (model X.prog X.w) X.A (eval e X.env) (EP X pins σ Q) X.xe s
noncomputable def PT (X:Cx) (e:Expr) (t:TT):Prop:=∀ (pins:List (Addr×Obj)) (s:qa4) (σ:St) (H:Hp) (Q:Bool->Hp->Prop),Inv X pins σ H s->t σ H Q->wpAny (model X.prog X.w) X.A (isTrue e X.env (eval e X.env)) (TP X pins σ Q) X.xe s
noncomputable def PW (X:Cx) (e:Expr) (t:TT):Prop:=∀ (q:Sem Value) (pins:List (Addr×Obj)) (s:qa4) (σ:St) (H:Hp) (Q:Bool->Hp->Prop),Inv X pins σ H s->t σ H Q->wpAny (model X.prog X.w) X.A (isTrue e X.env q) (TP X pins σ Q) X.xe s
variable {X:Cx} {e:Expr}
theorem PW.pt {t:TT} (h:PW X e t):PT X e t:=h _
noncomputable def PA (X:Cx) (es:List Expr) (t:TA):Prop:=∀ (pos:Pos) (pins:List (Addr×Obj)) (s:qa4) (σ:St) (H:Hp) (Q:List V->Hp->Prop),Inv X pins σ H s->t σ H Q->wpAny (model X.prog X.w) X.A (spliced (qh9 pos (qa6 es X.env))) (AP X pins σ Q) X.xe s
noncomputable def PS (X:Cx) (st:Stmt) (t:TS):Prop:=∀ (pins:List (Addr×Obj)) (s:qa4) (σ:St) (H:Hp) (D:Ends),Inv X pins σ H s->t D σ H->wpAny (model X.prog X.w) X.A (exec st X.env) (SP X pins D) X.xe s
noncomputable def PSs (X:Cx) (st:List Stmt) (t:TS):Prop:=∀ (pins:List (Addr×Obj)) (s:qa4) (σ:St) (H:Hp) (D:Ends),Inv X pins σ H s->t D σ H->wpAny (model X.prog X.w) X.A (execs st X.env) (SP X pins D) X.xe s
variable {s:qa4}
theorem thn {α:Type} {t:Sem α} {Q q:α->qa4->Prop} (h:wpAny M A t Q E s) (L:∀ a s,Q a s->q a s):wpAny M A t q E s:=qj9 h L fun _ _ x=>x
variable {pins:List (Addr×Obj)} {σ:St} {R:V->V->Hp->Prop} {pos:Pos} {c:Expr}
section
variable {X:Cx}
theorem bin {a b:Expr} {ta tb:TE} (ha:PE X a ta) (Y:PE X b tb) (I:Inv X pins σ H s) (h:ta σ H fun x H1=>tb σ H1 fun y H2=>R x y H2)
 {α:Type} {Q:α->qa4->Prop} {f:Value->Value->Sem α}
 (hf:∀ v u O x y H2,Inv X pins σ H2 O->RelV x v->RelV y u->R x y H2->wpAny (model X.prog X.w) X.A (f v u) Q X.xe O) :
  wpAny (model X.prog X.w) X.A (eval a X.env) (fun v L=>wpAny (model X.prog X.w) X.A (eval b X.env) (fun u q=>wpAny (model X.prog X.w) X.A (f v u) Q X.xe q) X.xe L) X.xe s:=by
 refine thn (ha pins s σ H _ I h) fun v s1 ⟨x,H1,I1,Z,q1⟩=>?_
 refine thn (Y pins s1 σ H1 _ I1 q1) fun u O ⟨y,H2,U,W,q2⟩=>?_
 exact hf v u O x y H2 U Z W q2
noncomputable def li (i:Nat):TE:=fun σ H Q=>∃ v,σ[i]?=some (some v)/\Q v H
noncomputable def tC (v:V):TE:=fun _ H Q=>Q v H
theorem Ae (Z:X.N[i]?=some x) (Y:Vis X.env.scope x) (U:(x==("__debug__":Str))=false:=by decide) (O:(x==("__classdict__":Str))=false:=by decide):PE X (.Name x pos) (li i):=by
 intro pins s σ H Q I h;obtain ⟨v,e,h⟩:=h;obtain ⟨m,hn,hl⟩:=I.loc;obtain ⟨u,r,l⟩:=hl i x v Z e Y;have fin:EP X pins σ Q u s:=⟨v,H,I,r,h⟩;rcases l with ⟨L,hm⟩ | ⟨L,c,W,q⟩
 . exact wpAny_Name (wpAny_loadName_local I.ok.kind L hn hm fin) U
 . rcases L with L | L
   . exact wpAny_Name (wpAny_loadName_cell I.ok.kind L W q fin) U
   . exact wpAny_Name (wpAny_loadName_free I.ok.kind L W q fin O) U
theorem Af {i j pos}:PE X (.Constant (.int i) j pos) (tC (.int i)):=fun _ _ _ H _ I h=>wpAny_Constant_int ⟨.int i,H,I.tok _,⟨_,rfl⟩,h⟩
theorem Ca {b j pos}:PE X (.Constant (.bool b) j pos) (tC (.bl b)):=fun _ _ _ H _ I h=>Constant_bool ⟨.bl b,H,I,rfl,h⟩
theorem Ah {j pos}:PE X (.Constant .none j pos) (tC .non):=fun _ _ _ H _ I h=>Constant_none ⟨.non,H,I,rfl,h⟩
theorem Ai {x j pos}:PE X (.Constant (.str x) j pos) (tC (.str x)):=fun _ _ _ H _ I h=>Calls.Constant_str ⟨.str x,H,I.tok _,⟨_,rfl⟩,h⟩
noncomputable def Gl (X:Cx) (x:Str):Prop:=X.env.kindOf x=some .globalImplicit
theorem qS {Q:Value->qa4->Prop} (I:Inv X pins σ H s) (q:Gl X x) (O:X.mg x=some u) (h:Q u s)
 (L:(x==("__debug__":Str))=false:=by decide):wpAny (model X.prog X.w) X.A (eval (.Name x pos) X.env) Q E s:=
 qt9 I.ok.kind q (Calls.loadGlobal_global (by rw [I.ok.glob];exact I.mod.glob.keeps I.bk) O h) L
theorem i9 {Q:Value->qa4->Prop} (I:Inv X pins σ H s) (q:Gl X x) (W:X.mg x=none) (L:qd7 x=some u) (h:Q u s)
 (U:x≠"__name__":=by decide) (O:(x==("__debug__":Str))=false:=by decide):wpAny (model X.prog X.w) X.A (eval (.Name x pos) X.env) Q E s:=by
 obtain ⟨Y,h1,h2⟩:=I.mod.blt;exact qt9 I.ok.kind q (Calls.loadGlobal_builtin (by rw [I.ok.glob];exact I.mod.glob.keeps I.bk) W (by rw [I.ok.blt];exact h1.keeps I.bk) ((h2 x U).trans L) h) O
theorem xp (q:Gl X x) (O:X.mg x=some u) (r:RelV v u) (L:(x==("__debug__":Str))=false:=by decide):PE X (.Name x pos) (tC v):=fun _ _ _ H _ I h=>qS I q O ⟨v,H,I,r,h⟩ L
theorem xq (q:Gl X x) (W:X.mg x=none) (L:qd7 x=some u) (r:RelV v u) (U:x≠"__name__":=by decide) (O:(x==("__debug__":Str))=false:=by decide):PE X (.Name x pos) (tC v):=fun _ _ _ H _ I h=>i9 I q W L ⟨v,H,I,r,h⟩ U O
variable {a b:Expr} {ta tb:TE} {pos:Pos}
noncomputable def PC (X:Cx) (O:CmpOp) (a b:Expr) (t:TE):Prop:=
 ∀ (pins:List (Addr×Obj)) (s:qa4) (σ:St) (H:Hp) (Q:VK),Inv X pins σ H s->t σ H Q→
  wpAny (model X.prog X.w) X.A (eval a X.env) (fun v L=>wpAny (model X.prog X.w) X.A (eval b X.env) (fun u q=>wpAny (model X.prog X.w) X.A (qe6 O v u) (EP X pins σ Q) X.xe q) X.xe L) X.xe s
noncomputable def tB (t:TE):TT:=fun σ H Q=>t σ H fun x H1=>∃ c,x=.bl c/\Q c H1
theorem uB {q:CmpOp} {t:TE} (h:PC X q a b t) (h1:qf9 q b=false:=by first | exact nobehind _ (by decide) (by decide) | rfl):PE X (.Compare a [q] [b] pos) t:=fun pins s σ H Q I L=>wpAny_Compare1 (h pins s σ H Q I L) h1
theorem pR {L:CmpOp} {t:TE} (h:PC X L a b t) (h1:qf9 L b=false:=by first | exact nobehind _ (by decide) (by decide) | rfl):PT X (.Compare a [L] [b] pos) (tB t):=by intro pins s σ H Q I U;refine qz8 (thn (h pins s σ H _ I U) fun v s1 h1=>thn h1 fun u Z h2=>thn h2 fun c Y ⟨x,H1,W,O,q1⟩=>?_) h1;obtain ⟨d,rfl,q⟩:=q1;cases O;exact qi1 ⟨H1,W,q⟩
variable {tA tB':TT} {rest:List Expr}
noncomputable def tAnd (t u:TT):TT:=fun σ H Q=>t σ H fun c H1=>if c=true then u σ H1 Q else Q false H1
noncomputable def tOr (t u:TT):TT:=fun σ H Q=>t σ H fun c H1=>if c=true then Q true H1 else u σ H1 Q
noncomputable def tNot (t:TT):TT:=fun σ H Q=>t σ H fun c H1=>Q (!c) H1
theorem xr (q:PT X a tA):PW X (.BoolOp .And [a] pos) tA:=by
 intro L pins s σ H Q I h;refine isTrue_and (thn (q pins s σ H Q I h) fun c s1 e=>?_);cases c with
 | true=>exact isTrue_and_nil e
 | false=>exact e
theorem uC (q:PT X a tA):PW X (.BoolOp .Or [a] pos) tA:=by
 intro L pins s σ H Q I h;refine isTrue_or (thn (q pins s σ H Q I h) fun c s1 e=>?_);cases c with
 | false=>exact isTrue_or_nil e
 | true=>exact e
theorem Aj (O:PT X a tA) (L:PW X (.BoolOp .And (b::rest) pos) tB'):PW X (.BoolOp .And (a::b::rest) pos) (tAnd tA tB'):=by
 intro U pins s σ H Q I h;refine isTrue_and (thn (O pins s σ H _ I h) fun c s1 ⟨H1,q,q1⟩=>?_);cases c with
 | true=>exact L U pins s1 σ H1 Q q q1
 | false=>exact ⟨H1,q,q1⟩
theorem ze (O:PT X a tA) (L:PW X (.BoolOp .Or (b::rest) pos) tB'):PW X (.BoolOp .Or (a::b::rest) pos) (tOr tA tB'):=by
 intro U pins s σ H Q I h;refine isTrue_or (thn (O pins s σ H _ I h) fun c s1 ⟨H1,q,q1⟩=>?_);cases c with
 | true=>exact ⟨H1,q,q1⟩
 | false=>exact L U pins s1 σ H1 Q q q1
theorem uD (q:PT X a tA):PT X (.UnaryOp .Not a pos) (tNot tA):=by intro pins s σ H Q I h;exact isTrue_not (q pins s σ H (fun c H1=>Q (!c) H1) I h)
noncomputable def Cb (ta tb:TE):TE:=fun σ H Q=>ta σ H fun x H1=>∃ c,x=.bl c/\if c=true then tb σ H1 Q else Q (.bl false) H1
noncomputable def Cc (ta:TE):TE:=fun σ H Q=>ta σ H fun x H1=>∃ c,x=.bl c/\Q (.bl (!c)) H1
theorem Ak {op} {t:TE} (h:PE X a t):PE X (.BoolOp op [a] pos) t:=fun pins s σ H Q I q=>BoolOp_one (h pins s σ H Q I q)
theorem Al (U:PE X a ta) (L:PE X (.BoolOp .And (b::rest) pos) tb):PE X (.BoolOp .And (a::b::rest) pos) (Cb ta tb):=by
 intro pins s σ H Q I h;refine BoolOp_and (thn (U pins s σ H _ I h) fun v s1 ⟨x,H1,q,O,q1⟩=>?_);obtain ⟨c,rfl,q1⟩:=q1;cases O;refine qi1 ?_;cases c with
 | true=>exact L pins s1 σ H1 Q q q1
 | false=>exact ⟨.bl false,H1,q,rfl,q1⟩
theorem Am (L:PE X a ta):PE X (.UnaryOp .Not a pos) (Cc ta):=by intro pins s σ H Q I h;refine UnaryOp_ (thn (L pins s σ H _ I h) fun v s1 ⟨x,H1,O,q,q1⟩=>?_);obtain ⟨c,rfl,q1⟩:=q1;cases q;exact not_of (qi1 ⟨.bl (!c),H1,O,rfl,q1⟩)
noncomputable def tIf (t:TT) (ta tb:TE):TE:=fun σ H Q=>t σ H fun c H1=>if c=true then ta σ H1 Q else tb σ H1 Q
theorem uE (O:PT X c tA) (U:PE X a ta) (L:PE X b tb):PE X (.IfExp c a b pos) (tIf tA ta tb):=by
 intro pins s σ H Q I h;refine wpAny_IfExp (thn (O pins s σ H _ I h) fun d s1 ⟨H1,q,q1⟩=>?_);cases d with
 | true=>exact U pins s1 σ H1 Q q q1
 | false=>exact L pins s1 σ H1 Q q q1
end
noncomputable def SqL (K:PySem.W.Frag) (H:Hp) (a:Addr) (xs:List V):Prop:=Rd H a (.lst xs)∨∃ (o:Obj) (its:Array Value) (n:Nat),K.lookup a=some o/\o.cls=.type "list"/\o.dict=none/\o.data=.seq its n/\its.size<=qb0/\Vals xs its.toList
noncomputable def SqT (K:PySem.W.Frag) (H:Hp) (a:Addr) (xs:List V):Prop:=H a=some (.tup xs)∨∃ (o:Obj) (its:Array Value) (n:Nat),K.lookup a=some o/\o.cls=.type "tuple"/\o.data=.seq its n/\its.size<=qb0/\Vals xs its.toList
noncomputable def absV:Value->Option V
 | .none=>some .non
 | .bool b=>some (.bl b)
 | .int i _=>some (.int i)
 | .str x _=>some (.str x)
 | .bytes b _=>some (.byt b)
 | .float b _=>some (.flt b)
 | .ref a=>some (.ref a)
 | .type n=>some (.ty n)
 | _=>none
theorem RelV.abs {x:V} (r:RelV x u):absV u=some x:=by
 cases x with
 | non=>cases r;rfl
 | bl _=>cases r;rfl
 | int _=>obtain ⟨t,rfl⟩:=r;rfl
 | str _=>obtain ⟨t,rfl⟩:=r;rfl
 | byt _=>obtain ⟨t,rfl⟩:=r;rfl
 | flt _=>obtain ⟨t,rfl⟩:=r;rfl
 | ref _=>cases r;rfl
 | ty _=>cases r;rfl
variable {y:V}
theorem RelV.inj {x:V} (r:RelV x u) (q:RelV y u):x=y:=qe9 (r.abs.symm.trans q.abs)
theorem Vals.inj:∀ {xs ys:List V} {us:List Value},Vals xs us->Vals ys us->xs=ys
 | _,_,_,.nil,.nil=>rfl
 | _,_,_,.cons r t,.cons r' t'=>by rw [r.inj r',Vals.inj t t']
variable {K:PySem.W.Frag}
section
variable {X:Cx} {pins:List (Addr×Obj)} {σ:St} {H:Hp} {s:qa4} {a:Addr} {xs ys:List V}
theorem SqL.of (h:H a=some (.lst xs)):SqL K H a xs:=.inl (.inl h)
theorem SqT.of (h:H a=some (.tup xs)):SqT K H a xs:=.inl h
theorem Inv.list (I:Inv X pins σ H s) (h:SqL X.K H a xs):∃ its:List Value,Vals xs its/\PlainL s.heap a its.toArray/\xs.length<=qb0:=by
 rcases h with h | ⟨o,its,n,q,L,U,O,W,r⟩
 . obtain ⟨z,its,n,r,e⟩:=h.ok I.hok;exact ⟨its,r,⟨_,n,e,rfl,rfl,rfl⟩,z⟩
 . refine ⟨its.toList,r,⟨o,n,I.kIn a o q,L,U,by simpa using O⟩,?_⟩;have e:=r.length;simp only [qd5] at e;lia
theorem Inv.tuple (I:Inv X pins σ H s) (h:SqT X.K H a xs):∃ its:List Value,Vals xs its/\IsTup s.heap a its.toArray/\xs.length<=qb0:=by
 rcases h with h | ⟨o,its,n,q,L,O,U,r⟩
 . obtain ⟨z,its,r,p⟩:=(Rd.of h).ok I.hok;exact ⟨its,r,p,z⟩
 . refine ⟨its.toList,r,⟨o,I.kIn a o q,L,n,by simpa using O⟩,?_⟩;have e:=r.length;simp only [qd5] at e;lia
theorem Inv.list_inj (I:Inv X pins σ H s) (h:SqL X.K H a xs) (h':SqL X.K H a ys):xs=ys:=by
 obtain ⟨its,r,⟨o,n,e,_,_,d⟩,_⟩:=I.list h;obtain ⟨its',r',⟨o',n',q,_,_,d'⟩,_⟩:=I.list h';rw [e] at q;cases q
 rw [d] at d';injection d' with L _;have:its=its':=by simpa using congrArg Array.toList L
 subst this;exact r.inj r'
theorem Inv.tuple_inj (I:Inv X pins σ H s) (h:SqT X.K H a xs) (h':SqT X.K H a ys):xs=ys:=by
 obtain ⟨its,r,⟨o,e,_,n,d⟩,_⟩:=I.tuple h;obtain ⟨its',r',⟨o',q,_,n',d'⟩,_⟩:=I.tuple h';rw [e] at q;cases q
 rw [d] at d';injection d' with L _;have:its=its':=by simpa using congrArg Array.toList L
 subst this;exact r.inj r'
end
abbrev Cx.wish (X:Cx) (E:Value->qa4->Prop):Cx:={X with xe:=E}
abbrev Cx.nox (X:Cx):Cx:=X.wish fun _ _=>False
theorem Cx.Ok.wish (ok:X.Ok) (E:Value->qa4->Prop):(X.wish E).Ok:=⟨ok.mod,ok.kind,ok.glob,ok.blt,ok.above,ok.inj,ok.has,ok.cab,ok.hd,ok.frames,ok.stk,ok.exf,ok.bs,ok.bsz,ok.noex,ok.exfs,ok.funs,ok.frf,ok.tb⟩
theorem Cx.Ok.unwish (ok:(X.wish E).Ok):X.Ok:=⟨ok.mod,ok.kind,ok.glob,ok.blt,ok.above,ok.inj,ok.has,ok.cab,ok.hd,ok.frames,ok.stk,ok.exf,ok.bs,ok.bsz,ok.noex,ok.exfs,ok.funs,ok.frf,ok.tb⟩
section
variable {X:Cx} {pins:List (Addr×Obj)} {σ:St} {H:Hp} {s:qa4} {E:Value->qa4->Prop}
theorem Inv.wish (I:Inv X pins σ H s) (E:Value->qa4->Prop):Inv (X.wish E) pins σ H s:=⟨I.ok.wish E,I.os,I.bare,I.base,I.loc,I.cell,I.free,I.freeC,I.pin,I.hok,I.len⟩
theorem Inv.unwish (I:Inv (X.wish E) pins σ H s):Inv X pins σ H s:=⟨I.ok.unwish,I.os,I.bare,I.base,I.loc,I.cell,I.free,I.freeC,I.pin,I.hok,I.len⟩
theorem SP.unwish {D:Ends} {f:Flow} (h:SP (X.wish E) pins D f s'):SP X pins D f s':=by
 cases f with
 | next=>obtain ⟨σ',H',I,q⟩:=h;exact ⟨σ',H',I.unwish,q⟩
 | brk=>obtain ⟨σ',H',I,q⟩:=h;exact ⟨σ',H',I.unwish,q⟩
 | cont=>obtain ⟨σ',H',I,q⟩:=h;exact ⟨σ',H',I.unwish,q⟩
 | ret u=>obtain ⟨v,σ',H',I,r,q⟩:=h;exact ⟨v,σ',H',I.unwish,r,q⟩
theorem PSs.nox {st:List Stmt} {t:TS} (h:PSs X.nox st t):PSs X st t:=fun pins s σ H D I L =>qj9 (h pins s σ H D (I.wish _) L) (fun _ _ q=>q.unwish) fun _ _ z=>ql3 z
end
variable {tc:TT}
section
variable {X:Cx} {st:Stmt} {rest:List Stmt} {t u:TS} {e:Expr} {te:TE} {pos:Pos}
noncomputable def Cd:TS:=fun D σ H=>D.nx σ H
noncomputable def tSeq (t u:TS):TS:=fun D σ H=>t {D with nx:=u D} σ H
theorem qT:PSs X [] Cd:=fun _ _ σ H _ I h=>qt1 ⟨σ,H,I,h⟩
theorem nT (h1:PS X st t) (h2:PSs X rest u):PSs X (st::rest) (tSeq t u):=by
 intro pins s σ H D I h;refine wpAny_execs_cons (thn (h1 pins s σ H {D with nx:=u D} I h) fun f s1 q=>?_);cases f with
 | next =>obtain ⟨σ',H',L,q⟩:=q;exact h2 pins s1 σ' H' D L q
 | ret v=>exact q
 | brk=>exact q
 | cont=>exact q
theorem qU (h1:PS X st t):PSs X [st] t:=by
 intro pins s σ H D I h;refine wpAny_execs_cons (thn (h1 pins s σ H D I h) fun f s1 q=>?_);cases f with
 | next=>exact qt1 q
 | ret v=>exact q
 | brk=>exact q
 | cont=>exact q
theorem Inv.quiet (I:Inv X pins σ H s):interactive X.env=false:=by simp [interactive,I.ok.kind]
noncomputable def Ce (te:TE):TS:=fun D σ H=>te σ H fun _ H1=>D.nx σ H1
theorem mL (O:PE X e te) (q:qm6 e none pos.line X.env=pure false:=by rfl):PS X (.Expr e pos) (Ce te):=by intro pins s σ H D I h;exact wpAny_Expr_any (thn (O pins s σ H _ I h) fun v s1 ⟨x,H1,L,U,q1⟩=>⟨σ,H1,L,q1⟩) I.quiet q
noncomputable def tRet (te:TE):TS:=fun D σ H=>te σ H D.rt
theorem pS (L:PE X e te):PS X (.Return (some e) pos) (tRet te):=by intro pins s σ H D I h;exact wpAny_Return_some (thn (L pins s σ H _ I h) fun v s1 ⟨x,H1,q,O,q1⟩=>⟨x,σ,H1,q,O,q1⟩)
noncomputable def tIfS (c:TT) (t u:TS):TS:=fun D σ H=>c σ H fun b H1=>if b=true then t D σ H1 else u D σ H1
theorem zf {a b:List Stmt} (O:PT X c tc) (U:PSs X a t) (L:PSs X b u):PS X (.If c a b pos) (tIfS tc t u):=by
 intro pins s σ H D I h;refine wpAny_If (thn (O pins s σ H _ I h) fun d s1 ⟨H1,q,q1⟩=>?_);cases d with
 | true=>exact U pins s1 σ H1 D q q1
 | false=>exact L pins s1 σ H1 D q q1
end
abbrev TG:=V->St->Hp->(St->Hp->Prop)->Prop
abbrev TGs:=List V->St->Hp->(St->Hp->Prop)->Prop
noncomputable def PG (X:Cx) (q:Expr) (t:TG):Prop:=
 ∀ (pins:List (Addr×Obj)) (s:qa4) (σ:St) (H:Hp) (v:V) (u:Value) (Q:St->Hp->Prop),Inv X pins σ H s->RelV v u->t v σ H Q→
  wpAny (model X.prog X.w) X.A (qz9 q X.env u) (fun _ s'=>∃ σ' H',Inv X pins σ' H' s'/\Q σ' H') X.xe s
noncomputable def PGs (X:Cx) (ts:List Expr) (t:TGs):Prop:=
 ∀ (pins:List (Addr×Obj)) (s:qa4) (σ:St) (H:Hp) (vs:List V) (us:List Value) (Q:St->Hp->Prop),Inv X pins σ H s->Vals vs us->t vs σ H Q→
  wpAny (model X.prog X.w) X.A (assignInOrder ((ql4 ts X.env).map (·.2)) us) (fun _ s'=>∃ σ' H',Inv X pins σ' H' s'/\Q σ' H') X.xe s
abbrev An:=V->V->V->Hp->(Hp->Prop)->Prop
noncomputable def PSet (X:Cx) (t:An):Prop:=
 ∀ (pins:List (Addr×Obj)) (s:qa4) (σ:St) (H:Hp) (o i v:V) (q L u:Value) (Q:Hp->Prop),Inv X pins σ H s->RelV o q->RelV i L->RelV v u->t o i v H Q→
  wpAny (model X.prog X.w) X.A (setItem q L u) (fun _ s'=>∃ H',Inv X pins σ H' s'/\Q H') X.xe s
variable {es:List Expr} {n:Nat} {tg:Expr} {te:TE} {g:TG}
section
variable {X:Cx} {pos:Pos}
noncomputable def jq (i:Nat):TG:=fun v σ H Q=>Q (σ.set i (some v)) H
theorem qV (O:X.N.Nodup) (hi:X.N[i]?=some x) (q:Loc X.env.scope x) (U:X.fn x=true∨X.env.scope.names.lookup x=some .local:=by first | exact .inl rfl | exact .inr rfl | assumption):PG X (.Name x pos) (jq i):=by intro pins s σ H v u Q I r h;exact wpAny_assign_Name (nS I O hi q r (fun s' L=>⟨_,H,L,h⟩) U)
noncomputable def gNil:TGs:=fun vs σ H Q=>vs=[]/\Q σ H
noncomputable def Cf (t:TG) (u:TGs):TGs:=fun vs σ H Q=>∃ v r,vs=v::r/\t v σ H fun σ' H'=>u r σ' H' Q
theorem xt:PGs X [] gNil:=by intro pins s σ H vs us Q I r h;obtain ⟨e,h⟩:=h;subst e;cases r;exact assignInOrder_nil ⟨σ,H,I,h⟩
theorem uF {t:TG} {u:TGs} (h1:PG X e t) (h2:PGs X es u)
 (L:(ql4 (e::es) X.env).map (·.2)=qz9 e X.env::(ql4 es X.env).map (·.2):=by rfl):PGs X (e::es) (Cf t u):=by
 intro pins s σ H vs us Q I r h;obtain ⟨v,Y,U,h⟩:=h;subst U;cases r with
 | cons r O =>rw [L];refine assignInOrder_cons (thn (h1 pins s σ H _ _ _ I r h) fun _ s1 ⟨q,H1,W,q1⟩=>?_);exact h2 pins s1 q H1 _ _ Q W O q1
noncomputable def gTup (K:PySem.W.Frag) (n:Nat) (t:TGs):TG:=fun v σ H Q=>∃ a xs,v=.ref a/\SqT K H a xs/\xs.length=n/\t xs σ H Q
theorem Ao {k:Nat} {t:TGs} (Y:X.calm=true) (h:PGs X es t)
 (hn:(ql4 es X.env).length=n:=by rfl) (q:(ql4 es X.env).findIdx? (·.1)=none:=by rfl):PG X (.Tuple es k pos) (gTup X.K n t):=by
 intro pins s σ H v u Q I r L;obtain ⟨a,xs,Z,hq,hl,L⟩:=L;subst Z;cases r;obtain ⟨its,O,W,hz⟩:=I.tuple hq;refine assign_Tuple_tuple (I.ok.hd Y) W (by simp [hn,<- hl,O.length]) q fun h' U=>?_
 have I1:Inv X pins σ H {s with heap:=h'}:=I.kept (t':=s.toks) fun b o e=>U b o (qc2 (qa7 e)) e
 exact h pins _ σ H xs _ Q I1 (by simpa using O) L
noncomputable def gSub (to ti:TE) (t:An):TG:=fun v σ H Q=>to σ H fun o H1=>ti σ H1 fun i H2=>t o i v H2 fun q=>Q σ q
theorem Ap {o i:Expr} {to ti:TE} {t:An} (Y:PE X o to) (hi:PE X i ti) (hs:PSet X t)
  (ha:∀ v,qz9 (.Subscript o i pos) X.env v=(do
   let q <- qx4 [v] (eval o X.env);let L <- qx4 [v,q] (eval i X.env)
   standAt pos
   qx4 [v,q,L] (setItem q L v)
   release [v,q,L] []):=by intro _;rfl):PG X (.Subscript o i pos) (gSub to ti t):=by
 intro pins s σ H v u Q I r h;rw [ha];refine wB (qi8 (thn (Y pins s σ H _ I h) fun q s1 ⟨x,H1,Z,r1,q1⟩=>?_));refine wB (qi8 (thn (hi pins s1 σ H1 _ Z q1) fun L s2 ⟨y,H2,O,U,q2⟩=>?_));refine wB (zc6 (wB (qi8 (thn (hs pins s2 σ H2 x y v q L u _ O r1 U r q2) fun _ s3 ⟨W,I3,q3⟩=>?_))));exact wpAny_release ⟨σ,W,I3,q3⟩
noncomputable def xu (te:TE) (g:TG):TS:=fun D σ H=>te σ H fun x H1=>g x σ H1 D.nx
theorem uG (Z:PE X e te) (O:PG X tg g) (L:zc7 [tg] e pos.line X.env=pure false:=by rfl) (W:zc8 [tg] e X.env=pure none:=by rfl)
 (h1:(ql4 [tg] X.env).map (·.2)=[qz9 tg X.env]:=by rfl):PS X (.Assign [tg] e pos) (xu te g):=by
 intro pins s σ H D I h;refine wpAny_Assign_stores (thn (Z pins s σ H _ I h) fun v s1 ⟨x,H1,Y,U,q1⟩=>?_) L W;rw [h1];exact thn (O pins s1 σ H1 x v _ Y U q1) fun _ s2 q=>q
theorem Aq {pos':Pos} (W:X.N.Nodup) (hi:X.N[i]?=some x) (L:Loc X.env.scope x) (he:PE X e te) (O:qm6 e (some (.Name x pos')) pos.line X.env=pure false:=by rfl) (Z:X.fn x=true∨X.env.scope.names.lookup x=some .local:=by first | exact .inl rfl | exact .inr rfl | assumption) :
  PS X (.Assign [.Name x pos'] e pos) (xu te (jq i)):=by
 intro pins s σ H D I h;refine wpAny_Assign_Name (thn (he pins s σ H _ I h) fun v s1 ⟨y,H1,Y,U,q1⟩=>?_) O;exact nS Y W hi L U (fun s2 q=>⟨_,H1,q,q1⟩) Z
end
variable {body:List Stmt} {tb:TS}
section
variable {X:Cx} {pos:Pos}
noncomputable def Ar (c:TT) (tb:TS):TS:=fun D σ H=>∃ W:Nat->St->Hp->Prop,(∃ m,W m σ H)/\∀ m σ H,W m σ H→
 c σ H fun b H1=>if b=true then ∃ N:St->Hp->Prop,(∀ σ' H',N σ' H'->∃ q,q<m/\W q σ' H')/\tb {D with nx:=N,ct:=N,bk:=D.nx} σ H1 else D.nx σ H1
theorem nU (hp:qw0 (model X.prog X.w) X.A X.env X.xe) (hc:PT X c tc) (hb:PSs X body tb):PS X (.While c body [] pos) (Ar tc tb):=by
 intro pins s σ H D I h;obtain ⟨W,⟨m0,w0⟩,U⟩:=h;refine wpAny_While (codeAny_whileLoop (fun n s'=>∃ σ' H',Inv X pins σ' H' s'/\W n σ' H') ?_ m0 ⟨σ,H,I,w0⟩);rintro n s1 ⟨L,H1,I1,w1⟩;refine ql5 hp (thn (hc pins s1 L H1 _ I1 (U n L H1 w1)) fun b s2 ⟨H2,I2,q2⟩=>?_);cases b with
 | true =>
  obtain ⟨N,hN,q2⟩:=q2;rw [if_pos rfl];refine ql5 hp (thn (hb pins s2 L H2 _ I2 q2) fun f s3 Y=>?_);cases f with
  | next =>obtain ⟨q,O,I3,n3⟩:=Y;obtain ⟨m',hm,Z⟩:=hN q O n3;exact ⟨m',hm,q,O,I3,Z⟩
  | cont =>obtain ⟨q,O,I3,n3⟩:=Y;obtain ⟨m',hm,Z⟩:=hN q O n3;exact ⟨m',hm,q,O,I3,Z⟩
  | brk=>exact Y
  | ret v=>exact Y
 | false =>rw [if_neg qb9];exact qt1 ⟨L,H2,I2,q2⟩
end
structure It where
 go:Nat->Hp->Prop
 yld:Nat->Hp->V->Hp->Prop
 stop:Nat->Hp->Prop
noncomputable def ir (X:Cx) (pins:List (Addr×Obj)) (H:Hp) (b:Addr):Prop:=H b=none/\b≠X.env.locals/\b∉X.fs/\(b∈X.ex∨X.s₀.heap.objs.size<=b)/\(∀ x c,X.env.cells.lookup x=some c->c≠b)/\∀ p∈X.pn++pins,p.1≠b
theorem Inv.fpOk {H':Hp} (I:Inv X pins σ H s) (L:s.heap.objs.size<=b) (O:H' b=none):ir X pins H' b:=by
 refine ⟨O,qk3 (qb7 I.lt L),I.nofs L,.inr (qc7 I.sz L),fun x c e z=>?_,fun p hp z=>?_⟩
 . obtain ⟨v,q⟩:=I.cell x c e;exact absurd (qb7 q.lt (by rw [z];exact L)) (qk2 _)
 . exact absurd (qb7 (qa7 (I.pin p hp).1) (by rw [z];exact L)) (qk2 _)
structure Turn (P:qc4) (w:World) (K:PySem.W.Frag) (tg:Expr) (J:It) (fp:List Addr) (it:Addr) (tn:Nat->Heap->Prop):Prop where
 mem:it∈fp
 obj:∀ i h,tn i h->∀ b∈fp,∃ o,h.get? b=some o/\∀ v,o.data≠.cell v
 keep:∀ i h h',tn i h->(∀ b∈fp,∀ o,h.get? b=some o->h'.get? b=some o)->tn i h'
 item:∀ (X:Cx),X.prog=P->X.w=w->X.K=K->X.calm=true->∀ (i:Nat) (pins:List (Addr×Obj)) (s:qa4) (σ:St) (H:Hp) (E:Value->qa4->Prop),Inv X pins σ H s->(∀ b∈fp,ir X pins H b)->tn i s.heap->J.go i H→
  wpAny (model P w) X.A (zb6 (.ref it)) (fun r s1=>∃ u,r=some u∧wpAny (model P w) X.A (qt2 tg (.ref it) u) (fun _ s2=>∃ x H',Inv X pins σ H' s2/\RelV x u/\J.yld i H x H'/\tn (i+1) s2.heap/\∀ b∈fp,H' b=none) E s1) E s
 done:∀ (X:Cx),X.prog=P->X.w=w->X.K=K->X.calm=true->∀ (i:Nat) (pins:List (Addr×Obj)) (s:qa4) (σ:St) (H:Hp) (E:Value->qa4->Prop),Inv X pins σ H s->(∀ b∈fp,ir X pins H b)->tn i s.heap->J.stop i H→
  wpAny (model P w) X.A (zb6 (.ref it)) (fun r s1=>r=none/\Inv X pins σ H s1) E s
 self:∀ (A:qd9) (i:Nat) (s:qa4) (Q:Value->qa4->Prop) (E:Value->qa4->Prop),tn i s.heap->Q (.ref it) s->wpAny (model P w) A (ze9 (.ref it)) Q E s
abbrev TI:=St->Hp->(It->Hp->Prop)->Prop
noncomputable def PIE (X:Cx) (pins:List (Addr×Obj)) (σ:St) (tg:Expr) (R:It->Hp->Prop) (q:Value) (O:qa4):Prop:=∃ (it:Addr) (fp:List Addr) (L:Nat->Heap->Prop) (J:It) (H':Hp),q=.ref it/\Inv X pins σ H' O/\Turn X.prog X.w X.K tg J fp it L/\L 0 O.heap/\(∀ b∈fp,ir X pins H' b)/\R J H'
noncomputable def PI (X:Cx) (tg iter:Expr) (wi:TI):Prop:=
 ∀ (pins:List (Addr×Obj)) (s:qa4) (σ:St) (H:Hp) (R:It->Hp->Prop),Inv X pins σ H s->wi σ H R→
  wpAny (model X.prog X.w) X.A (eval iter X.env) (fun v s1=>wpAny (model X.prog X.w) X.A (ze9 v) (PIE X pins σ tg R) X.xe s1) X.xe s
theorem lA {o:Obj} {n:String} {vs:Array Value} (W:s.heap.get? it=some o) (L:o.cls=.type n) (O:o.data=.fields vs)
 (U:["enumerate","zip","dict_itemiterator","dict_reverseitemiterator","odict_iterator","itertools.zip_longest","itertools.pairwise"].contains n=false) (q:Q () s):wpAny M A (qt2 tg (.ref it) u) Q E s:=by
 unfold qt2
 cases tg<;>first
  | exact qa5 q
  | (cases u<;>first
      | exact qa5 q
      | (refine wB (wpAny_load W ?_)
         rw [L,O];show wpAny M A (if (["enumerate","zip","dict_itemiterator","dict_reverseitemiterator","odict_iterator","itertools.zip_longest","itertools.pairwise"].contains n&&vs[0]?==some (qg1 _))=true then _ else _) Q E s;rw [if_neg (by intro h;rw [U,Bool.false_and] at h;cases h)];exact qa5 q))
noncomputable def Itl (K:PySem.W.Frag) (a:Addr):It:=⟨fun i H=>∃ xs x,SqL K H a xs/\xs[i]?=some x,fun i H x H'=>H'=H/\∀ xs,SqL K H a xs->xs[i]?=some x,fun i H=>∃ xs,SqL K H a xs/\xs.length<=i⟩
noncomputable def Itt (K:PySem.W.Frag) (a:Addr):It:=⟨fun i H=>∃ xs x,SqT K H a xs/\xs[i]?=some x,fun i H x H'=>H'=H/\∀ xs,SqT K H a xs->xs[i]?=some x,fun i H=>∃ xs,SqT K H a xs/\xs.length<=i⟩
noncomputable def Itr (lo:Int) (n:Nat):It:=⟨fun i _=>i<n,fun i H x H'=>H'=H/\x=.int (lo+i),fun i _=>n<=i⟩
theorem sQ (a it:Addr):Turn P w K tg (Itl K a) [it] it (fun i h=>h.IsListIter it a i) where
 mem:=by simp
 obj:=fun i h st b q=>by
  have e:b=it:=by simpa using q
  subst e;obtain ⟨o,e,c,d⟩:=st;exact ⟨o,e,fun v z=>by rw [d] at z;cases z⟩
 keep:=fun i h h' st k=>st.at fun o e=>k it (by simp) o e
 item:=by
  intro X hP hw hK hc i pins s σ H E I U st hg;subst hP hw hK;obtain ⟨xs,x,O,Y⟩:=hg;obtain ⟨its,rv,p,hz⟩:=I.list O;obtain ⟨u,hu,ru⟩:=rv.get Y;obtain ⟨f0,f1,f2,f3,W,Z⟩:=U it (by simp);refine wpAny_pyNext_list_item st p.isList (x:=u) (by simpa using hu) fun h' L sb=>?_
  have I1:Inv X pins σ H {s with heap:=h'}:=I.turned (t':=s.toks) (fun b o q e=>(sb.2 b q).trans e) f0 f1 f3 W Z;obtain ⟨o,e,c,d⟩:=id L;exact ⟨u,rfl,lA (s:={s with heap:=h'}) e c d (by decide) ⟨x,H,I1,ru,⟨rfl,fun ys hy=>by rw [I.list_inj hy O];exact Y⟩,L,fun b q=>(U b q).1⟩⟩
 done:=by intro X hP hw hK hc i pins s σ H E I U st hg;subst hP hw hK;obtain ⟨xs,O,Y⟩:=hg;obtain ⟨its,rv,p,hz⟩:=I.list O;obtain ⟨f0,f1,f2,f3,W,Z⟩:=U it (by simp);have hl:=rv.length;exact wpAny_pyNext_list_end (I.ok.hd hc) st p.isList (by simp;lia) fun h' eb=>⟨rfl,I.turned (t':=s.toks) (fun b o q e=>eb b o q e) f0 f1 f3 W Z⟩
 self:=fun _ _ _ _ _ st h=>wpAny_pyIter_listiter st h
theorem pT (a it:Addr):Turn P w K tg (Itt K a) [it] it (fun i h=>h.IsTupleIter it a i) where
 mem:=by simp
 obj:=fun i h st b q=>by
  have e:b=it:=by simpa using q
  subst e;obtain ⟨o,e,c,d⟩:=st;exact ⟨o,e,fun v z=>by rw [d] at z;cases z⟩
 keep:=fun i h h' st k=>st.at fun o e=>k it (by simp) o e
 item:=by
  intro X hP hw hK hc i pins s σ H E I U st hg;subst hP hw hK;obtain ⟨xs,x,O,Y⟩:=hg;obtain ⟨its,rv,p,hz⟩:=I.tuple O;obtain ⟨u,hu,ru⟩:=rv.get Y;obtain ⟨f0,f1,f2,f3,W,Z⟩:=U it (by simp);refine wpAny_pyNext_tuple_item st (show s.heap.IsTuple a its.toArray from p) (x:=u) (by simpa using hu) fun h' L sb=>?_
  have I1:Inv X pins σ H {s with heap:=h'}:=I.turned (t':=s.toks) (fun b o q e=>(sb.2 b q).trans e) f0 f1 f3 W Z;obtain ⟨o,e,c,d⟩:=id L;exact ⟨u,rfl,lA (s:={s with heap:=h'}) e c d (by decide) ⟨x,H,I1,ru,⟨rfl,fun ys hy=>by rw [I.tuple_inj hy O];exact Y⟩,L,fun b q=>(U b q).1⟩⟩
 done:=by intro X hP hw hK hc i pins s σ H E I U st hg;subst hP hw hK;obtain ⟨xs,O,Y⟩:=hg;obtain ⟨its,rv,p,hz⟩:=I.tuple O;obtain ⟨f0,f1,f2,f3,W,Z⟩:=U it (by simp);have hl:=rv.length;exact wpAny_pyNext_tuple_end (I.ok.hd hc) st (show s.heap.IsTuple a its.toArray from p) (by simp;lia) fun h' eb=>⟨rfl,I.turned (t':=s.toks) (fun b o q e=>eb b o q e) f0 f1 f3 W Z⟩
 self:=fun _ _ _ _ _ st h=>wpAny_pyIter_tupleiter st h
theorem pU {w:World} (it:Addr) (lo:Int) (n:Nat):Turn P w K tg (Itr lo n) [it] it (fun i h=>zb8 h it (lo+(i:Nat)*1) ((n:Int)-(i:Nat)) 1) where
 mem:=by simp
 obj:=fun i h st b q=>by
  have e:b=it:=by simpa using q
  subst e
  exact ⟨_,st,fun v z=>by have z':Data.fields _=Data.cell v:=z;cases z'⟩
 keep:=fun i h h' st k=>k it (by simp) _ st
 item:=by
  intro X Z hw hK hc i pins s σ H E I O st hg;subst Z hw hK;obtain ⟨f0,f1,f2,f3,U,Y⟩:=O it (by simp);have W:=Walks.range (prog:=X.prog) (w:=X.w) (I.ok.hd hc) it lo 1 n;refine W.item i s _ _ hg st fun v h' tk hv L kk=>?_
  obtain ⟨t,rfl⟩:=hv;have I1:Inv X pins σ H {s with heap:=h',toks:=tk}:=I.turned (fun b o q e=>kk b o (by simpa using q) e) f0 f1 f3 U Y;refine ⟨_,rfl,lA (s:={s with heap:=h',toks:=tk}) (n:="range_iterator") L rfl rfl (by decide) ⟨.int (lo+i),H,I1,⟨t,?_⟩,⟨rfl,rfl⟩,L,fun b q=>(O b q).1⟩⟩;rw [Int.mul_one]
 done:=by intro X Z hw hK hc i pins s σ H E I O st hg;subst Z hw hK;obtain ⟨f0,f1,f2,f3,U,Y⟩:=O it (by simp);exact qy8 (I.ok.hd hc) st (by have:n<=i:=hg;lia) fun h' eb=>⟨rfl,I.turned (t':=s.toks) (fun b o q e=>eb b o q e) f0 f1 f3 U Y⟩
 self:=fun _ _ _ _ _ st h=>qy9 st h
variable {l:Expr} {tl:TE} {fp:List Addr}
section
variable {X:Cx} {tg:Expr}
noncomputable def Cg (K:PySem.W.Frag) (tl:TE):TI:=fun σ H R=>tl σ H fun x H1=>∃ a,x=.ref a/\(∃ xs,SqL K H1 a xs)/\R (Itl K a) H1
noncomputable def iTup (K:PySem.W.Frag) (tl:TE):TI:=fun σ H R=>tl σ H fun x H1=>∃ a,x=.ref a/\(∃ xs,SqT K H1 a xs)/\R (Itt K a) H1
theorem mM (Y:PE X l tl):PI X tg l (Cg X.K tl):=by
 intro pins s σ H R I h;refine thn (Y pins s σ H _ I h) fun v s1 ⟨x,H1,L,U,q1⟩=>?_
 obtain ⟨a,e,⟨xs,W⟩,q⟩:=q1;subst e;cases U;obtain ⟨its,Z,p,hz⟩:=L.list W;refine qq7 p.isList ?_;refine ⟨s1.heap.objs.size,[s1.heap.objs.size],_,_,H1,rfl,L.kept (t':=s1.toks) fun b o e=>gP _ e,sQ a _,⟨_,qb3 _ rfl,rfl,rfl⟩,fun b O=>?_,q⟩;have e:b=s1.heap.objs.size:=by simpa using O
 subst e;exact L.fpOk (nL _) (L.hok.fresh (nL _))
theorem uH (Y:PE X l tl):PI X tg l (iTup X.K tl):=by
 intro pins s σ H R I h;refine thn (Y pins s σ H _ I h) fun v s1 ⟨x,H1,L,U,q1⟩=>?_
 obtain ⟨a,e,⟨xs,W⟩,q⟩:=q1;subst e;cases U;obtain ⟨its,Z,p,hz⟩:=L.tuple W;refine qu2 (show s1.heap.IsTuple a its.toArray from p) ?_;refine ⟨s1.heap.objs.size,[s1.heap.objs.size],_,_,H1,rfl,L.kept (t':=s1.toks) fun b o e=>gP _ e,pT a _,⟨_,qb3 _ rfl,rfl,rfl⟩,fun b O=>?_,q⟩;have e:b=s1.heap.objs.size:=by simpa using O
 subst e;exact L.fpOk (nL _) (L.hok.fresh (nL _))
theorem uI {R:It->Hp->Prop} {lo hi:Int} {t u v:Tok} {tk:Nat} (I:Inv X pins σ H s) (h1:-(2^62)<=lo) (h2:lo<2^62) (h3:-(2^62)<=hi) (U:hi<2^62)
 (q:R (Itr lo (hi-lo).toNat) H):wpAny (model X.prog X.w) X.A (ze9 (.ref s.heap.objs.size)) (PIE X pins σ tg R) E {s with heap:=s.heap.push {cls:=.type "range",data:=.fields #[.int lo t,.int hi u,.int 1 v]},toks:=tk}:=by
 refine wpAny_pyIter_range (IsRange.new ..) (small_one h1 h2 h3 U) ?_;have L:Inv X pins σ H {s with heap:=s.heap.push {cls:=.type "range",data:=.fields #[.int lo t,.int hi u,.int 1 v]},toks:=tk}:=I.kept fun b o e=>gP _ e
 refine ⟨(s.heap.push {cls:=.type "range",data:=.fields #[.int lo t,.int hi u,.int 1 v]}).objs.size,[(s.heap.push {cls:=.type "range",data:=.fields #[.int lo t,.int hi u,.int 1 v]}).objs.size],_,_,H,rfl,L.kept (t':=tk) fun b o e=>gP _ e,pU _ lo (hi-lo).toNat,?_,fun b O=>?_,q⟩
 . have W:lo+((0:Nat):Int)*1=lo:=by simp
   have e2:(((hi-lo).toNat:Nat):Int)-((0:Nat):Int)=qc6 lo hi 1:=by rw [rangeSize_one];split<;>lia
   show zb8 _ _ (lo+((0:Nat):Int)*1) ((((hi-lo).toNat:Nat):Int)-((0:Nat):Int)) 1;rw [W,e2];exact qb3 _ rfl
 . have e:b=(s.heap.push {cls:=.type "range",data:=.fields #[.int lo t,.int hi u,.int 1 v]}).objs.size:=by simpa using O
   subst e;exact L.fpOk (nL _) (L.hok.fresh (nL _))
noncomputable def zg (ta:TA):TI:=fun σ H R=>ta σ H fun vs H1=>∃ j:Int,vs=[.int j]/\-(2^62)<=j/\j<2^62/\R (Itr 0 j.toNat) H1
theorem sR {a:Expr} {ta:TA} {p:Pos} (U:Gl X "range") (Y:X.mg "range"=none) (Z:PA X [a] ta) (L:qa6 [a] X.env=[(false,eval a X.env)]:=by rfl):PI X tg (.Call (.Name "range" p) [a] [] pos) (zg ta):=by
 intro pins s σ H R I h;refine Call_ (i9 I U Y boot_range (qj0 (thn (Z pos pins s σ H _ I h) fun us s1 ⟨vs,H1,I1,W,q1⟩=>?_) L rfl));obtain ⟨j,e,q1,q2,q⟩:=q1;subst e;cases W with
 | cons r O =>cases O;obtain ⟨t,rfl⟩:=r;exact call_range_1 (uI I1 (by lia) (by lia) q1 q2 (by simpa using q))
noncomputable def tFor (wi:TI) (g:TG) (tb:TS):TS:=fun D σ H=>wi σ H fun J H1=>∃ W:Nat->Nat->St->Hp->Prop,(∃ m,W 0 m σ H1)/\∀ i m σ H,W i m σ H→ (J.stop i H/\D.nx σ H)∨(J.go i H/\∃ N:St->Hp->Prop,(∀ σ' H',N σ' H'->∃ L,L<m/\W (i+1) L σ' H')/\∀ x H',J.yld i H x H'->g x σ H' fun q H2=>tb {D with nx:=N,ct:=N,bk:=D.nx} q H2)
noncomputable def ja (fp:List Addr) (h:Heap):List (Addr×Obj):=fp.filterMap fun b=>(h.get? b).map fun o=>(b,o)
theorem dU {o:Obj} (q:b∈fp) (e:h.get? b=some o):(b,o)∈ja fp h:=List.mem_filterMap.mpr ⟨b,q,by rw [e];rfl⟩
theorem sS {p:Addr×Obj} (hp:p∈ja fp h):p.1∈fp/\h.get? p.1=some p.2:=by
 obtain ⟨b,L,e⟩:=List.mem_filterMap.mp hp;cases q:h.get? b with
 | none=>rw [q] at e;cases e
 | some o =>rw [q] at e;have O:(b,o)=p:=qe9 e;subst O;exact ⟨L,q⟩
theorem Inv.pinned (I:Inv X pins σ H s) (Y:∀ b∈fp,ir X pins H b) (O:∀ b∈fp,∃ o,s.heap.get? b=some o/\∀ v,o.data≠.cell v):Inv X (pins++ja fp s.heap) σ H s:=
 I.pins_of fun p hp=>(qe0.mp hp).elim (fun z=>I.pin p (qc3 _ z)) fun z=>by
  obtain ⟨q,e⟩:=sS z;obtain ⟨f0,W,U,_⟩:=Y p.1 q;obtain ⟨o,L,d⟩:=O p.1 q;rw [e] at L;cases L
  exact ⟨e,f0,W,U,d⟩
theorem Inv.unpinned {q:List (Addr×Obj)} (I:Inv X (pins++q) σ H s):Inv X pins σ H s:=I.pins_of fun p hp=>I.pin p (qc3 _ (qe1 _ hp))
theorem pV {iter:Expr} {wi:TI} (hp:qw0 (model X.prog X.w) X.A X.env X.xe) (hc:X.calm=true) (hi:PI X tg iter wi) (hg:PG X tg g) (O:PSs X body tb)
 (hs:∀ x,qf7 iter X.env x=pure x:=by intro _;rfl):PS X (.For tg iter body [] pos) (tFor wi g tb):=by
 intro pins s σ H D I h;refine wpAny_For (thn (hi pins s σ H _ I h) fun v s1 h1=>thn h1 fun itv s2 h2=>?_) hs;obtain ⟨it,fp,tn,J,H2,e,I2,T,st2,f2,W,⟨m0,w0⟩,turn⟩:=h2;subst e
 -- what stays true of the iterator's objects through the loop
 have Y:∀ {H':Hp},(∀ b∈fp,H' b=none)->∀ b∈fp,ir X pins H' b:=fun hn b O=>⟨hn b O,(f2 b O).2⟩
 refine codeAny_forLoop_any (fun n s'=>∃ i σ' H',Inv X pins σ' H' s'/\tn i s'.heap/\(∀ b∈fp,H' b=none)/\W i n σ' H') ?_ m0 ⟨0,σ,H2,I2,st2,fun b O=>(f2 b O).1,w0⟩;rintro n s3 ⟨i,L,H3,I3,st3,fr3,w3⟩;rcases turn i n L H3 w3 with ⟨stop,qn⟩ | ⟨go,N,hN,step⟩
 . refine ql5 hp (thn (T.done X rfl rfl rfl hc i pins s3 L H3 X.xe I3 (Y fr3) st3 stop) fun r s4 ⟨hr,I4⟩=>?_);subst hr;exact qt1 ⟨L,H3,I4,qn⟩
 . refine ql5 hp (thn (T.item X rfl rfl rfl hc i pins s3 L H3 X.xe I3 (Y fr3) st3 go) fun r s4 ⟨u,hr,h4⟩=>?_);subst hr;refine ql5 hp (thn h4 fun _ s5 ⟨x,H5,I5,r5,y5,st5,fr5⟩=>?_);have I5':=I5.pinned (Y fr5) (T.obj _ _ st5);refine ql5 hp (thn (hg _ s5 L H5 x u _ I5' r5 (step x H5 y5)) fun _ s6 ⟨σ6,H6,I6,q6⟩=>?_);refine ql5 hp (thn (O _ s6 σ6 H6 _ I6 q6) fun f s7 q7=>?_)
   have again:∀ {q:St} {U:Hp},Inv X (pins++ja fp s5.heap) q U s7->N q U->∃ m,m<n/\∃ i σ' H',Inv X pins σ' H' s7/\tn i s7.heap/\(∀ b∈fp,H' b=none)/\W i m σ' H':=fun {q U} Z n7=>by obtain ⟨m',hm,w7⟩:=hN q U n7;refine ⟨m',hm,i+1,q,U,Z.unpinned,T.keep _ _ _ st5 fun b O o e=>(Z.pin (b,o) (qc3 _ (qc3 _ (dU O e)))).1,fun b O=>?_,w7⟩;obtain ⟨o,e,d⟩:=T.obj _ _ st5 b O;exact (Z.pin (b,o) (qc3 _ (qc3 _ (dU O e)))).2.1
   cases f with
   | next=>obtain ⟨q,U,Z,n7⟩:=q7;exact again Z n7
   | cont=>obtain ⟨q,U,Z,n7⟩:=q7;exact again Z n7
   | brk=>obtain ⟨q,U,Z,q7⟩:=q7;exact ⟨q,U,Z.unpinned,q7⟩
   | ret v=>obtain ⟨x7,q,U,Z,r7,q7⟩:=q7;exact ⟨x7,q,U,Z.unpinned,r7,q7⟩
end
abbrev R2:=V->V->Hp->VK->Prop
noncomputable def OpR (X:Cx) (f:Value->Value->Sem Value) (r:R2):Prop:=
 ∀ (pins:List (Addr×Obj)) (s:qa4) (σ:St) (H:Hp) (x y:V) (v u:Value) (Q:VK),Inv X pins σ H s->RelV x v->RelV y u->r x y H Q→
  wpAny (model X.prog X.w) X.A (f v u) (EP X pins σ Q) X.xe s
noncomputable def UnR (X:Cx) (f:Value->Sem Value) (r:V->Hp->VK->Prop):Prop:=
 ∀ (pins:List (Addr×Obj)) (s:qa4) (σ:St) (H:Hp) (x:V) (v:Value) (Q:VK),Inv X pins σ H s->RelV x v->r x H Q→
  wpAny (model X.prog X.w) X.A (f v) (EP X pins σ Q) X.xe s
noncomputable def CallR (X:Cx) (f:Value) (r:List V->Hp->VK->Prop):Prop:=
 ∀ (pins:List (Addr×Obj)) (s:qa4) (σ:St) (H:Hp) (xs:List V) (us:List Value) (Q:VK),Inv X pins σ H s->Vals xs us->r xs H Q→
  wpAny (model X.prog X.w) X.A (call f us) (EP X pins σ Q) X.xe s
noncomputable def TruR (X:Cx) (r:V->Hp->(Bool->Hp->Prop)->Prop):Prop:=
 ∀ (pins:List (Addr×Obj)) (s:qa4) (σ:St) (H:Hp) (x:V) (v:Value) (Q:Bool->Hp->Prop),Inv X pins σ H s->RelV x v->r x H Q→
  wpAny (model X.prog X.w) X.A (truthy v) (TP X pins σ Q) X.xe s
noncomputable def tOp (r:R2) (ta tb:TE):TE:=fun σ H Q=>ta σ H fun x H1=>tb σ H1 fun y H2=>r x y H2 Q
noncomputable def tUn (r:V->Hp->VK->Prop) (ta:TE):TE:=fun σ H Q=>ta σ H fun x H1=>r x H1 Q
noncomputable def rI (C:Int->Int->Prop) (g:Int->Int->V):R2:=fun x y H Q=>∃ i j,x=.int i/\y=.int j/\C i j/\Q (g i j) H
noncomputable def rI0 (g:Int->Int->V):R2:=fun x y H Q=>∃ i j,x=.int i/\y=.int j/\Q (g i j) H
noncomputable def rU (g:Int->V):V->Hp->VK->Prop:=fun x H Q=>∃ i,x=.int i/\Q (g i) H
variable {f:Value->Value->Sem Value} {r:R2}
section
variable {X:Cx} {a b c:Expr} {ta tb tc:TE} {pos:Pos}
theorem As (ha:PE X a ta) (Y:PE X b tb) (I:Inv X pins σ H s)
 (h:ta σ H fun x H1=>tb σ H1 fun y H2=>R x y H2) {Q:Value->qa4->Prop} 
 (hf:∀ v u O x y H2,Inv X pins σ H2 O->RelV x v->RelV y u->R x y H2->wpAny (model X.prog X.w) X.A (f v u) Q X.xe O) :
  wpAny (model X.prog X.w) X.A (eval a X.env) (fun v L=>wpAny (model X.prog X.w) X.A (eval b X.env) (fun u q=>wpAny (model X.prog X.w) X.A (f v u) Q X.xe q) X.xe L) X.xe s:=by
 refine thn (ha pins s σ H _ I h) fun v s1 ⟨x,H1,I1,Z,q1⟩=>?_
 refine thn (Y pins s1 σ H1 _ I1 q1) fun u O ⟨y,H2,U,W,q2⟩=>?_
 exact hf v u O x y H2 U Z W q2
theorem Ch {L:Operator} (Y:OpR X (ql1 L) r) (Z:PE X a ta) (W:PE X b tb):PE X (.BinOp a L b pos) (tOp r ta tb):=by intro pins s σ H Q I h;exact wpAny_BinOp (As Z W I h fun v u s2 x y H2 U O ry q=>Y pins s2 σ H2 x y v u Q U O ry q)
theorem Ci {q:UnaryOp} {r:V->Hp->VK->Prop} (O:UnR X (unaryOp q) r) (U:PE X a ta):PE X (.UnaryOp q a pos) (tUn r ta):=by intro pins s σ H Q I h;exact UnaryOp_ (thn (U pins s σ H _ I h) fun v s1 ⟨x,H1,W,L,q1⟩=>O pins s1 σ H1 x v Q W L q1)
theorem opI {C:Int->Int->Prop} {g:Int->Int->Int}
 (L:∀ (i j:Int) (t u:Tok) (s:qa4) (Q:Value->qa4->Prop) (E:Value->qa4->Prop),C i j->Q (.int (g i j) s.toks) {s with toks:=s.toks+1}->wpAny (model X.prog X.w) X.A (f (.int i t) (.int j u)) Q E s) :
  OpR X f (rI C fun i j=>.int (g i j)):=by
 intro pins s σ H x y v u Q I O W h;obtain ⟨i,j,rfl,rfl,U,q⟩:=h;obtain ⟨t,rfl⟩:=O;obtain ⟨t',rfl⟩:=W;exact L i j t t' s _ _ U ⟨.int (g i j),H,I.tok _,⟨_,rfl⟩,q⟩
theorem opI0 {g:Int->Int->Int}
 (L:∀ (i j:Int) (t u:Tok) (s:qa4) (Q:Value->qa4->Prop) (E:Value->qa4->Prop),Q (.int (g i j) s.toks) {s with toks:=s.toks+1}->wpAny (model X.prog X.w) X.A (f (.int i t) (.int j u)) Q E s) :
  OpR X f (rI0 fun i j=>.int (g i j)):=by
 intro pins s σ H x y v u Q I O U h;obtain ⟨i,j,rfl,rfl,q⟩:=h;obtain ⟨t,rfl⟩:=O;obtain ⟨t',rfl⟩:=U;exact L i j t t' s _ _ ⟨.int (g i j),H,I.tok _,⟨_,rfl⟩,q⟩
theorem At {g:Int->Int->Bool}
 (L:∀ (i j:Int) (t u:Tok) (s:qa4) (Q:Value->qa4->Prop) (E:Value->qa4->Prop),Q (.bool (g i j)) s->wpAny (model X.prog X.w) X.A (f (.int i t) (.int j u)) Q E s) :
  OpR X f (rI0 fun i j=>.bl (g i j)):=by
 intro pins s σ H x y v u Q I O U h;obtain ⟨i,j,rfl,rfl,q⟩:=h;obtain ⟨t,rfl⟩:=O;obtain ⟨t',rfl⟩:=U;exact L i j t t' s _ _ ⟨.bl (g i j),H,I,rfl,q⟩
noncomputable def Au (i j:Int):Prop:=0<=j/\j<=1000000/\i.natAbs<2^64
noncomputable def CMul (i j:Int):Prop:=(-(2^64)<i/\i<2^64)∨(-(2^64)<j/\j<2^64)
theorem CMul.ok {i j:Int} (h:CMul i j):IntMulOk i j:=by
 rcases h with ⟨h1,h2⟩ | ⟨h1,h2⟩
 . exact .of_left (intBits_le_64 h1 h2)
 . exact .of_right (intBits_le_64 h1 h2)
theorem Av:OpR X (ql1 .Add) (rI0 fun i j=>.int (i+j)):=opI0 fun _ _ _ _ _ _ _ q=>add_int q
theorem uJ:OpR X (ql1 .Sub) (rI0 fun i j=>.int (i-j)):=opI0 fun _ _ _ _ _ _ _ q=>sub_int q
theorem iu:OpR X (ql1 .Mult) (rI CMul fun i j=>.int (i*j)):=opI fun _ _ _ _ _ _ _ L q=>mul_int q L.ok
theorem be:OpR X (ql1 .Mod) (rI (fun _ j=>0<j) fun i j=>.int (i%j)):=opI fun i j _ _ _ _ _ L q=>by have h1:(0:Int)<j:=L;exact mod_int' (by lia) (by rw [Int.fmod_eq_emod_of_nonneg i (by lia)];exact q)
theorem Aw:OpR X (ql1 .Pow) (rI Au fun i j=>.int (i^j.toNat)):=opI fun _ _ _ _ _ _ _ L q=>pow_int_small L.1 L.2.1 L.2.2 q
theorem unI {f:Value->Sem Value} {g:Int->Int}
  (L:∀ (i:Int) (t:Tok) (s:qa4) (Q:Value->qa4->Prop) (E:Value->qa4->Prop),Q (.int (g i) s.toks) {s with toks:=s.toks+1}->wpAny (model X.prog X.w) X.A (f (.int i t)) Q E s) :
  UnR X f (rU fun i=>.int (g i)):=by
 intro pins s σ H x v Q I O h;obtain ⟨i,rfl,q⟩:=h;obtain ⟨t,rfl⟩:=O;exact L i t s _ _ ⟨.int (g i),H,I.tok _,⟨_,rfl⟩,q⟩
theorem Ax:UnR X (unaryOp .USub) (rU fun i=>.int (-i)):=unI fun _ _ _ _ _ q=>neg_int q
end
noncomputable def Ay:V->V->Bool
 | .non,.non=>true | .non,.int _=>true | .int _,.non=>true | .non,.bl _=>true | .bl _,.non=>true | .non,.str _=>true | .str _,.non=>true
 | .int _,.int _=>true | .bl _,.bl _=>true | .str _,.str _=>true | .byt _,.byt _=>true
 | .int _,.str _=>true | .str _,.int _=>true | .bl _,.str _=>true | .str _,.bl _=>true
 | _,_=>false
noncomputable def rEq:R2:=fun x y H Q=>Ay x y=true/\Q (.bl (decide (x=y))) H
noncomputable def rNe:R2:=fun x y H Q=>Ay x y=true/\Q (.bl (!decide (x=y))) H
theorem qW {i j:Int}:decide (V.int i=V.int j)=(i==j):=by rw [ql6];simp
theorem uK {i j:Bool}:decide (V.bl i=V.bl j)=(i==j):=by rw [ql6];simp
theorem qX {i j:Str}:decide (V.str i=V.str j)=(i==j):=by rw [ql6];simp
theorem qY {i j:Array UInt8}:decide (V.byt i=V.byt j)=(i.toList==j.toList):=by rw [ql6];cases i;cases j;simp
variable {r':R2}
section
variable {X:Cx} {a b c:Expr} {ta tb tc:TE} {pos:Pos}
theorem bv {Q:VK} {k k':Bool} (I:Inv X pins σ H s) (q:Q (.bl k) H) (e:k=k'):EP X pins σ Q (.bool k') s:=by subst e;exact ⟨.bl k,H,I,rfl,q⟩
theorem Cj:OpR X (qe6 .Eq) rEq:=by
 intro pins s σ H x y v u Q I U L h;obtain ⟨O,q⟩:=h;cases x with
 | non =>
  cases U;cases y with
  | non=>cases L;exact PySem.EqNone.eq_none_none (bv I q (by simp))
  | bl j=>cases L;exact PySem.EqNone.eq_none_bool (bv I q (by simp))
  | int j=>obtain ⟨t',rfl⟩:=L;exact PySem.EqNone.eq_none_int (bv I q (by simp))
  | str j=>obtain ⟨t',rfl⟩:=L;exact PySem.EqNone.eq_none_str (bv I q (by simp))
  | _=>exact absurd (show false=true from O) qb9
 | bl i =>
  cases U;cases y with
  | non=>cases L;exact PySem.EqNone.eq_bool_none (bv I q (by simp))
  | bl j=>cases L;exact eq_bool (bv I q uK)
  | str j=>obtain ⟨t',rfl⟩:=L;exact PySem.EqMixed.eq_bool_str (bv I q (by simp))
  | _=>exact absurd (show false=true from O) qb9
 | int i =>
  obtain ⟨t,rfl⟩:=U;cases y with
  | non=>cases L;exact PySem.EqNone.eq_int_none (bv I q (by simp))
  | int j=>obtain ⟨t',rfl⟩:=L;exact eq_int (bv I q qW)
  | str j=>obtain ⟨t',rfl⟩:=L;exact PySem.EqMixed.eq_int_str (bv I q (by simp))
  | _=>exact absurd (show false=true from O) qb9
 | str i =>
  obtain ⟨t,rfl⟩:=U;cases y with
  | non=>cases L;exact PySem.EqNone.eq_str_none (bv I q (by simp))
  | bl j=>cases L;exact PySem.EqMixed.eq_str_bool (bv I q (by simp))
  | int j=>obtain ⟨t',rfl⟩:=L;exact PySem.EqMixed.eq_str_int (bv I q (by simp))
  | str j=>obtain ⟨t',rfl⟩:=L;exact eq_str (bv I q qX)
  | _=>exact absurd (show false=true from O) qb9
 | byt i =>
  obtain ⟨t,rfl⟩:=U;cases y with
  | byt j=>obtain ⟨t',rfl⟩:=L;exact PySem.W.eq_bytes (bv I q qY)
  | _=>exact absurd (show false=true from O) qb9
 | _=>cases y<;>exact absurd (show false=true from O) qb9
theorem Ck:OpR X (qe6 .NotEq) rNe:=by
 intro pins s σ H x y v u Q I U L h;obtain ⟨O,q⟩:=h;cases x with
 | non =>
  cases U;cases y with
  | non=>cases L;exact PySem.EqNone.ne_none_none (bv I q (by simp))
  | bl j=>cases L;exact PySem.EqNone.ne_none_bool (bv I q (by simp))
  | int j=>obtain ⟨t',rfl⟩:=L;exact PySem.EqNone.ne_none_int (bv I q (by simp))
  | str j=>obtain ⟨t',rfl⟩:=L;exact PySem.EqNone.ne_none_str (bv I q (by simp))
  | _=>exact absurd (show false=true from O) qb9
 | bl i =>
  cases U;cases y with
  | non=>cases L;exact PySem.EqNone.ne_bool_none (bv I q (by simp))
  | bl j=>cases L;exact ne_bool (bv I q (congrArg not uK))
  | str j=>obtain ⟨t',rfl⟩:=L;exact PySem.EqMixed.ne_bool_str (bv I q (by simp))
  | _=>exact absurd (show false=true from O) qb9
 | int i =>
  obtain ⟨t,rfl⟩:=U;cases y with
  | non=>cases L;exact PySem.EqNone.ne_int_none (bv I q (by simp))
  | int j=>obtain ⟨t',rfl⟩:=L;exact ne_int (bv I q (congrArg not qW))
  | str j=>obtain ⟨t',rfl⟩:=L;exact PySem.EqMixed.ne_int_str (bv I q (by simp))
  | _=>exact absurd (show false=true from O) qb9
 | str i =>
  obtain ⟨t,rfl⟩:=U;cases y with
  | non=>cases L;exact PySem.EqNone.ne_str_none (bv I q (by simp))
  | bl j=>cases L;exact PySem.EqMixed.ne_str_bool (bv I q (by simp))
  | int j=>obtain ⟨t',rfl⟩:=L;exact PySem.EqMixed.ne_str_int (bv I q (by simp))
  | str j=>obtain ⟨t',rfl⟩:=L;exact ne_str (bv I q (congrArg not qX))
  | _=>exact absurd (show false=true from O) qb9
 | byt i =>
  obtain ⟨t,rfl⟩:=U;cases y with
  | byt j=>obtain ⟨t',rfl⟩:=L;exact PySem.W.ne_bytes (bv I q (congrArg not qY))
  | _=>exact absurd (show false=true from O) qb9
 | _=>cases y<;>exact absurd (show false=true from O) qb9
theorem jV:OpR X (qe6 .Lt) (rI0 fun i j=>.bl (decide (i<j))):=At fun _ _ _ _ _ _ _ q=>lt_int q
theorem Cl:OpR X (qe6 .LtE) (rI0 fun i j=>.bl (decide (i<=j))):=At fun _ _ _ _ _ _ _ q=>le_int q
theorem zh:OpR X (qe6 .Gt) (rI0 fun i j=>.bl (decide (j<i))):=At fun _ _ _ _ _ _ _ q=>gt_int q
theorem sT:OpR X (qe6 .In) (fun x y H Q=>∃ i j,x=.str i/\y=.str j/\Q (.bl (!(qp5 j i 0 j.length 1).isEmpty)) H):=by intro pins s σ H x y v u Q I L O h;obtain ⟨i,j,rfl,rfl,q⟩:=h;obtain ⟨t,rfl⟩:=L;obtain ⟨t',rfl⟩:=O;exact in_str (bv I q rfl)
theorem jW:OpR X (qe6 .Is) (fun x y H Q=>y=.non/\Q (.bl (decide (x=.non))) H):=by
 intro pins s σ H x y v u Q I L O h;obtain ⟨rfl,q⟩:=h;cases O;refine is_none_gen (bv I q ?_)
 cases x<;>first
  | (cases L;rfl)
  | (obtain ⟨t,rfl⟩:=L;rfl)
theorem xw:OpR X (qe6 .IsNot) (fun x y H Q=>y=.non/\Q (.bl (!decide (x=.non))) H):=by
 intro pins s σ H x y v u Q I L O h;obtain ⟨rfl,q⟩:=h;cases O;refine isnot_none_gen (bv I q ?_)
 cases x<;>first
  | (cases L;rfl)
  | (obtain ⟨t,rfl⟩:=L;rfl)
theorem OpR.or (h:OpR X f r) (h':OpR X f r'):OpR X f (fun x y H Q=>r x y H Q∨r' x y H Q):=by
 intro pins s σ H x y v u Q I L O q;rcases q with q | q
 . exact h pins s σ H x y v u Q I L O q
 . exact h' pins s σ H x y v u Q I L O q
theorem aN (b:Expr) {q:CmpOp} (h:q≠.In:=by decide) (h2:q≠.NotIn:=by decide):qf9 q b=false:=by
 have L:(q==CmpOp.In)=false:=by cases q<;>first | rfl | exact absurd rfl h
 have e2:(q==CmpOp.NotIn)=false:=by cases q<;>first | rfl | exact absurd rfl h2
 cases b<;>simp [qf9,L,e2]
theorem jL {L:CmpOp} (Z:OpR X (qe6 L) r) (ha:PE X a ta) (W:PE X b tb) (Y:qf9 L b=false):PE X (.Compare a [L] [b] pos) (tOp r ta tb):=by intro pins s σ H Q I h;exact wpAny_Compare1 (As ha W I h fun v u s2 x y H2 U O ry q=>Z pins s2 σ H2 x y v u Q U O ry q) Y
noncomputable def Cm (t:TE):TT:=fun σ H Q=>t σ H fun x H'=>∃ k,x=.bl k/\Q k H'
theorem jM {q:CmpOp} (W:OpR X (qe6 q) r) (ha:PE X a ta) (Z:PE X b tb) (hm:qf9 q b=false):PT X (.Compare a [q] [b] pos) (Cm (tOp r ta tb)):=by
 intro pins s σ H Q I h
 refine qz8 (thn (ha pins s σ H _ I h) fun v s1 ⟨x,H1,Y,r1,q1⟩=>thn (Z pins s1 σ H1 _ Y q1) fun u s2 ⟨y,H2,L,O,q2⟩ =>thn (W pins s2 σ H2 x y v u _ L r1 O q2) fun c s3 ⟨z,U,I3,r3,k,e,q3⟩=>?_) hm
 subst e;cases r3;exact qi1 ⟨U,I3,q3⟩
noncomputable def uL (r r':R2) (ta tb tc:TE):TE:=fun σ H Q=>ta σ H fun x H1=>tb σ H1 fun y H2=>r x y H2 fun z q=>∃ k,z=.bl k∧(if k=true then tc σ q fun L O=>r' y L O Q else Q (.bl false) q)
theorem uM {L q:CmpOp} (ho:OpR X (qe6 L) r) (O:OpR X (qe6 q) r') (ha:PE X a ta) (hb:PE X b tb) (hc:PE X c tc)
 (hm:lastMarks [L,q] [b,c]=false:=by with_unfolding_all rfl):PE X (.Compare a [L,q] [b,c] pos) (uL r r' ta tb tc):=by
 intro pins s σ H Q I h
 refine Compare_chain (thn (ha pins s σ H _ I h) fun v s1 ⟨x,H1,I1,r1,q1⟩=>chain_link (thn (hb pins s1 σ H1 _ I1 q1) fun u s2 ⟨y,H2,I2,U,q2⟩ =>thn (ho pins s2 σ H2 x y v u _ I2 r1 U q2) fun d s3 ⟨z,W,Z,r3,k,e,Y⟩=>?_)) hm
 subst e;cases r3;refine qi1 ?_;cases k with
 | false=>exact ite_ff ⟨.bl false,W,Z,rfl,Y⟩
 | true=>exact ite_tt (chain_last (thn (hc pins s3 σ W _ Z Y) fun w' s4 ⟨z',H4,I4,r4,q4⟩=>O pins s4 σ H4 y z' u w' Q I4 U r4 q4))
noncomputable def Az (K:PySem.W.Frag) (x:V) (H:Hp) (k:Bool):Prop:=
 match x with
 | .non=>k=false
 | .bl b=>k=b
 | .int i=>k=(i != 0)
 | .str y=>y.length<=qb0/\k=((y.length:Int) != 0)
 | .byt y=>y.size<=qb0/\k=((y.size:Int) != 0)
 | .ref p=>(∃ xs,SqL K H p xs/\k=!xs.isEmpty)∨(∃ xs,SqT K H p xs/\k=!xs.isEmpty)∨∃ kvs,H p=some (.dK kvs)/\k=!kvs.isEmpty
 | _=>False
theorem pW {κ:Type} {kvs:List (κ×V)} {vs:List (κ×Value)} (r:KV kvs vs):(!vs.isEmpty)=!kvs.isEmpty:=by cases r<;>rfl
theorem jX {its:List Value} (r:Vals xs its):(!its.toArray.isEmpty)=!xs.isEmpty:=by cases r<;>simp
theorem jb:(qb0:Nat)<2^63:=by rw [sizeLine_eq];decide
theorem AA:TruR X (fun x H Q=>∃ k,Az X.K x H k/\Q k H):=by
 intro pins s σ H x v Q I rx h;obtain ⟨k,e,q⟩:=h;have hl:=jb;have hs:qb0=16777216:=sizeLine_eq;cases x with
 | non =>cases rx;have e':k=false:=e;subst e';exact truthy_none ⟨H,I,q⟩
 | bl b =>cases rx;have e':k=b:=e;subst e';exact qi1 ⟨H,I,q⟩
 | int i =>obtain ⟨t,rfl⟩:=rx;have e':k=(i != 0):=e;subst e';exact PySem.P.truthy_int ⟨H,I,q⟩
 | str y =>obtain ⟨t,rfl⟩:=rx;obtain ⟨hy,e'⟩:y.length<=qb0/\k=((y.length:Int) != 0):=e;subst e';exact PySem.P.truthy_str (by lia) ⟨H,I.tok _,q⟩
 | byt y =>obtain ⟨t,rfl⟩:=rx;obtain ⟨hy,e'⟩:y.size<=qb0/\k=((y.size:Int) != 0):=e;subst e';exact PySem.W.truthy_bytes (by lia) ⟨H,I.tok _,q⟩
 | ref p =>
  cases rx;have e':(∃ xs,SqL X.K H p xs/\k=!xs.isEmpty)∨(∃ xs,SqT X.K H p xs/\k=!xs.isEmpty)∨∃ kvs,H p=some (.dK kvs)/\k=!kvs.isEmpty:=e;rcases e' with ⟨xs,hx,e'⟩ | ⟨xs,hx,e'⟩ | ⟨kvs,hx,e'⟩
  . subst e';obtain ⟨its,r,pl,hz⟩:=I.list hx;have hlen:=r.length;exact wpAny_truthy_list pl.isList (by simp only [qb5];lia) ⟨H,I.tok _,by rw [jX r];exact q⟩
  . subst e';obtain ⟨its,r,pl,hz⟩:=I.tuple hx;have hlen:=r.length;exact truthy_tuple pl (by simp only [qb5];lia) ⟨H,I.tok _,by rw [jX r];exact q⟩
  . subst e';obtain ⟨hz,hS,vs,r,m⟩:kvs.length<=qb0/\(p==qi5)=false/\∃ vs,KV kvs vs/\s.heap.DictOf (bZ X.prog X.w) p vs:=I.hok p _ hx;have hlen:kvs.length=vs.length:=Paired.length r;exact wpAny_truthy_dict hS m (by lia) ⟨H,I.tok _,by rw [pW r];exact q⟩
 | _=>exact (show False from e).elim
theorem nV (O:PE X a ta) (W:∀ q,isTrue a X.env q=(do let v <- q;standAt a.pos;qx4 [v] (truthy v))) :
  PT X a (fun σ H Q=>ta σ H fun x H'=>∃ k,Az X.K x H' k/\Q k H'):=by
 intro pins s σ H Q I h;exact isTrue_plain (thn (O pins s σ H _ I h) fun v s1 ⟨x,H1,U,L,q1⟩=>AA pins s1 σ H1 x v Q U L q1) (W _)
theorem pX:OpR X (ql1 .Add) (fun x y H Q=>∃ i j,x=.str i/\y=.str j/\i.length+j.length<=qb0/\Q (.str (i++j)) H):=by intro pins s σ H x y v u Q I L U h;obtain ⟨i,j,rfl,rfl,O,q⟩:=h;obtain ⟨t,rfl⟩:=L;obtain ⟨t',rfl⟩:=U;exact add_str (fun t' tk=>⟨.str (i++j),H,I.tok _,⟨_,rfl⟩,q⟩) O
theorem fM {x:V} (r:Vals [x] us):∃ u,us=[u]/\RelV x u:=by
 cases r with
 | cons L q=>cases q;exact ⟨_,rfl,L⟩
theorem Cn {x:V} (r:Vals [x,y] us):∃ u w',us=[u,w']/\RelV x u/\RelV y w':=by
 cases r with
 | cons O q =>
  cases q with
  | cons U L=>cases L;exact ⟨_,_,rfl,O,U⟩
theorem sU:CallR X (.type "int") (fun xs H Q=>(∃ i,xs=[.int i]/\Q (.int i) H)∨∃ k,xs=[.bl k]/\Q (.int (if k then 1 else 0)) H):=by
 intro pins s σ H xs us Q I r h;rcases h with ⟨i,rfl,q⟩ | ⟨k,rfl,q⟩
 . obtain ⟨u,rfl,t,rfl⟩:=fM r;exact call_int_int ⟨.int i,H,I,⟨_,rfl⟩,q⟩
 . obtain ⟨u,rfl,L⟩:=fM r;cases L;exact call_int_bool ⟨.int (if k then 1 else 0),H,I.tok _,⟨_,rfl⟩,q⟩
noncomputable def LenV (K:PySem.W.Frag) (x:V) (H:Hp) (n:Nat):Prop:=
 match x with
 | .str y=>y.length<=qb0/\n=y.length
 | .byt y=>y.size<=qb0/\n=y.size
 | .ref p=>(∃ xs,SqL K H p xs/\n=xs.length)∨∃ xs,SqT K H p xs/\n=xs.length
 | _=>False
theorem bp:CallR X (.builtin "len") (fun xs H Q=>∃ x n,xs=[x]/\LenV X.K x H n/\Q (.int n) H):=by
 intro pins s σ H xs us Q I r h;obtain ⟨x,n,rfl,e,q⟩:=h;obtain ⟨u,rfl,rx⟩:=fM r;have hl:=jb;have hs:qb0=16777216:=sizeLine_eq;cases x with
 | str y =>obtain ⟨t,rfl⟩:=rx;obtain ⟨hy,e'⟩:y.length<=qb0/\n=y.length:=e;subst e';exact len_str (by lia) ⟨.int _,H,I.tok _,⟨_,rfl⟩,q⟩
 | byt y =>obtain ⟨t,rfl⟩:=rx;obtain ⟨hy,e'⟩:y.size<=qb0/\n=y.size:=e;subst e';exact PySem.W.len_bytes (by lia) ⟨.int _,H,I.tok _,⟨_,rfl⟩,q⟩
 | ref p =>
  cases rx;have e':(∃ xs,SqL X.K H p xs/\n=xs.length)∨∃ xs,SqT X.K H p xs/\n=xs.length:=e;rcases e' with ⟨xs,hx,e'⟩ | ⟨xs,hx,e'⟩
  . subst e';obtain ⟨its,r',pl,hz⟩:=I.list hx;have hlen:=r'.length;exact Calls.call_len_list pl.isList (by simp only [qb5];lia) ⟨.int xs.length,H,I.tok _,⟨_,by simp only [qb5];rw [hlen]⟩,q⟩
  . subst e';obtain ⟨its,r',pl,hz⟩:=I.tuple hx;have hlen:=r'.length;exact len_tuple pl (by simp only [qb5];lia) ⟨.int xs.length,H,I.tok _,⟨_,by simp only [qb5];rw [hlen]⟩,q⟩
 | _=>exact (show False from e).elim
end
structure ObjM (h:Heap) (x dx C:Addr) (mA:Str->Option Value):Prop where
 obj:h.get? x=some (PySem.W.instObj C dx)
 ns:h.Ns1 dx mA
 ne:dx≠x
variable {dx:Addr} {mA:Str->Option Value}
theorem sV (n:h.Ns1 dx mA):∃ od,h.get? dx=some od/\∀ name,PySem.W.lookIn name od=some (mA name):=by
 obtain ⟨o,es,ep,Y,hd,O,_,Z⟩:=n;refine ⟨o,Y,fun name=>?_⟩;have e:=Z name;unfold nsFind findBy at e;rw [<- Array.find?_toList] at e;unfold PySem.W.lookIn;rw [hd];dsimp only;split
 . rename_i y q;rw [q] at e;exact congrArg some e
 . rename_i q;rw [q] at e
   have a:es.toList.any (·.refKey)=false:=by rw [List.any_eq_false];intro y hy;obtain ⟨z,t,L⟩:=O y (Array.mem_toList_iff.mp hy);simp [DictEntry.refKey,L]
   have U:¬ es.toList.any (·.refKey)=true:=by rw [a];exact qb9
   rw [if_neg U];exact congrArg some e
variable {C:Addr}
theorem ObjM.look {x:Addr} (I:ObjM h x dx C mA):∃ od,PySem.W.InstAt h x (PySem.W.instObj C dx) C (some od)/\∀ name,PySem.W.lookIn name od=some (mA name):=
 let ⟨od,ho,hl⟩:=sV I.ns
 ⟨od,⟨I.obj,rfl,rfl,ho⟩,hl⟩
section
variable {prog:qc4} {w:World} {A:qd9} {E:Value->qa4->Prop} {s:qa4} {K:PySem.W.Frag} {x dx C f:Addr} {mA:Str->Option Value} {name:Str} {v:Value}
end
theorem RelO.some_of {o:Option Value} (r:RelO (some v) o):∃ u,o=some u/\RelV v u:=by
 cases o with
 | none=>exact (show False from r).elim
 | some u=>exact ⟨u,rfl,r⟩
section
variable {P:qc4} {w:World} {H H':Hp} {h h':Heap} {a C dx:Addr} {fs fs':List (Str×V)}
theorem xx (L:HOk P w H h) (e:H a=some (.ins C dx fs)):∃ mA,ObjM h a dx C mA/\(∀ f,RelO (fs.lookup f) (mA f))/\PySem.Within mA (fs.map (·.1))/\fs.length<=1000/\H dx=some (.own a):=by obtain ⟨d,z,O,ob,mA,n,r,q⟩:=(show ObjOk P w H h a (.ins C dx fs) from L a _ e);exact ⟨mA,⟨ob,n,O⟩,r,q,z,d⟩
end
structure Cls (K:PySem.W.Frag) (C:Addr):Prop where
 pg:PySem.W.plainGet K C Str.empty=true
 hd:PySem.W.hasDictIn K C=true
 po:PySem.W.plainOver K C=true
 sa:PySem.W.findIn K (.ref C) "__setattr__"=some (some (.builtin "object.__setattr__"))
theorem Cls.get (c:Cls K C) (f:Str):PySem.W.plainGet K C f=true:=c.pg
section
variable {X:Cx} {pins:List (Addr×Obj)} {σ:St} {H:Hp} {s:qa4} {a C dx:Addr} {fs:List (Str×V)} {f:Str} {v:V} {A:qd9} {E:Value->qa4->Prop}
end
section
variable {X:Cx} {o e value:Expr} {f:Str} {pos pos' tpos:Pos} {ta tv:TE}
end
section
variable {X:Cx} {pins:List (Addr×Obj)} {σ:St} {H:Hp} {s:qa4} {A:qd9} {E:Value->qa4->Prop} {Q:Value->qa4->Prop} {c:Value} {b:Bool}
inductive TyOf (K:PySem.W.Frag) (H:Hp):V->Value->Prop where
 | non:TyOf K H .non (.type "NoneType")
 | bl (x:Bool):TyOf K H (.bl x) (.type "bool")
 | int (i:Int):TyOf K H (.int i) (.type "int")
 | str (x:Str):TyOf K H (.str x) (.type "str")
 | flt (x:UInt64):TyOf K H (.flt x) (.type "float")
 | lst {a:Addr} {xs:List V} (e:H a=some (.lst xs)):TyOf K H (.ref a) (.type "list")
 | frz {a:Addr} {o:Obj} {xs:List V} (e:H a=some (.frz o (.lst xs))):TyOf K H (.ref a) (.type "list")
 | tup {a:Addr} {xs:List V} (e:H a=some (.tup xs)):TyOf K H (.ref a) (.type "tuple")
 | dK {a:Addr} {kvs:List (Key×V)} (e:H a=some (.dK kvs)):TyOf K H (.ref a) (.type "dict")
 | dT {a:Addr} {kvs:List (List Key×V)} (e:H a=some (.dT kvs)):TyOf K H (.ref a) (.type "dict")
 | ins {a C dx:Addr} {fs:List (Str×V)} (e:H a=some (.ins C dx fs)) (cl:Cls K C) (ha:PySem.W.findIn K (.ref C) "__class__"=some (some (.builtin "object.__class__")))
     (hn:PySem.W.specialIn K (.builtin "object.__class__") "__get__"=some (some (.builtin "getset_descriptor.__get__"))) (htk:PySem.W.takesIn K (.builtin "object.__class__")=some true)
     (hm:PySem.W.mroIn K C (.type "object")=some true):TyOf K H (.ref a) (.ref C)
theorem gZ {x:V} {t:Value} (I:Inv X pins σ H s) (L:RelV x u) (ty:TyOf X.K H x t) (e:PySem.W.kitOne X.K t c=some b) (h:∀ tk,Q (.bool b) {s with toks:=tk}) :
  wpAny (model X.prog X.w) A (call (.builtin "isinstance") [u,c]) Q E s:=by
 cases ty with
 | non=>cases (show u=qj8 from L);exact PySem.W.kia_one PySem.W.kitx_none I.kIn qo9 e (fun z=>nomatch z) h
 | bl y=>cases (show u=qo8 y from L);exact PySem.W.kia_one PySem.W.kitx_bool I.kIn qo9 e (fun z=>nomatch z) h
 | int i=>obtain ⟨t,q⟩:=(show ∃ t,u=ze7 i t from L);cases q;exact PySem.W.kia_one PySem.W.kitx_int I.kIn qo9 e (fun z=>nomatch z) h
 | str y=>obtain ⟨t,q⟩:=(show ∃ t,u=ze8 y t from L);cases q;exact PySem.W.kia_one PySem.W.kitx_str I.kIn qo9 e (fun z=>nomatch z) h
 | flt y=>obtain ⟨t,q⟩:=(show ∃ t,u=Value.float y t from L);cases q;exact PySem.W.kia_one PySem.W.kitx_float I.kIn qo9 e (fun z=>nomatch z) h
 | @lst a xs U =>cases (show u=qg9 a from L);obtain ⟨_,_,n,_,h1⟩:=(show ObjOk X.prog X.w H s.heap a (.lst xs) from I.hok a _ U);exact PySem.W.kia_one PySem.W.kitx_list I.kIn ⟨_,h1,rfl⟩ e (fun z=>nomatch z) h
 | @frz a ob xs U =>cases (show u=qg9 a from L);obtain ⟨_,_,_,n,_,h1⟩:=(show ObjOk X.prog X.w H s.heap a (.frz ob (.lst xs)) from I.hok a _ U);exact PySem.W.kia_one PySem.W.kitx_list I.kIn ⟨_,h1,rfl⟩ e (fun z=>nomatch z) h
 | @tup a xs U =>cases (show u=qg9 a from L);obtain ⟨_,_,_,p⟩:=(show ObjOk X.prog X.w H s.heap a (.tup xs) from I.hok a _ U);obtain ⟨o,h1,h2,_⟩:=p;exact PySem.W.kia_one PySem.W.kitx_tuple I.kIn ⟨o,h1,h2⟩ e (fun z=>nomatch z) h
 | @dK a kvs U =>cases (show u=qg9 a from L);obtain ⟨_,_,vs,_,p⟩:=(show ObjOk X.prog X.w H s.heap a (.dK kvs) from I.hok a _ U);obtain ⟨o,es,ep,h1,h2,_⟩:=p;exact PySem.W.kia_one PySem.W.kitx_dict I.kIn ⟨o,h1,h2.1⟩ e (fun z=>nomatch z) h
 | @dT a kvs U =>cases (show u=qg9 a from L);obtain ⟨_,_,xs,_,o,es,ep,h1,h2,_⟩:=(show ObjOk X.prog X.w H s.heap a (.dT kvs) from I.hok a _ U);exact PySem.W.kia_one PySem.W.kitx_dict I.kIn ⟨o,h1,h2.1⟩ e (fun z=>nomatch z) h
 | @ins a C dx fs U cl ha hn Y Z =>cases (show u=qg9 a from L);obtain ⟨mA,O,_⟩:=xx I.hok U;obtain ⟨od,J,_⟩:=O.look;exact PySem.W.kia_one (PySem.W.kitx_own (cl.get _) cl.hd ha hn Y Z) I.kIn J e (fun z=>nomatch z) h
end
structure Room (k:Nat) (A:qd9):Prop where
 hd:A.handled=none
 dp:A.depth+3*k+5<recursionLimit
 un:A.units+16*k+200<cLine
theorem Room.mono {k:Nat} (r:Room k A) (h:j<=k):Room j A:=⟨r.hd,by have:=r.dp;lia,by have:=r.un;lia⟩
theorem Room.deeper {k:Nat} (r:Room (k+1) A) (env:Env):Room k (A.deeper env):=⟨r.hd,by have:=r.dp;show A.depth+1+3*k+5<_;lia,by have:=r.un;show A.units+3+16*k+200<_;lia⟩
theorem Room.depth {k:Nat} (r:Room k A):A.depth<recursionLimit:=by have:=r.dp;lia
theorem Room.units {k:Nat} (r:Room k A):A.units+64<cLine:=by have:=r.un;lia
noncomputable def tNil:TA:=fun _ H Q=>Q [] H
noncomputable def Co (ta:TE) (q:TA):TA:=fun σ H Q=>ta σ H fun x H1=>q σ H1 fun xs H2=>Q (x::xs) H2
section
variable {X:Cx} {e:Expr} {es:List Expr} {te:TE} {t:TA} {pos:Pos}
theorem fY:PA X [] tNil:=fun _ _ _ _ H Q I h=>Calls.spliced_nil ⟨[],H,I,.nil,h⟩
theorem d7 (Y:PE X e te) (U:PA X es t) (O:qa6 (e::es) X.env=(false,eval e X.env)::qa6 es X.env:=by rfl):PA X (e::es) (Co te t):=by intro pos pins s σ H Q I h;rw [O];show wpAny _ _ (spliced ((false,eval e X.env)::qh9 pos (qa6 es X.env))) _ _ s;refine Calls.spliced_cons (thn (Y pins s σ H _ I h) fun u s1 ⟨x,H1,Z,W,q1⟩=>?_);exact thn (U pos pins s1 σ H1 _ Z q1) fun us s2 ⟨xs,H2,q,L,q2⟩=>⟨x::xs,H2,q,.cons W L,q2⟩
noncomputable def tTup (t:TA):TE:=fun σ H Q=>t σ H fun xs H1=>xs.length<=qb0/\∀ p,H1 p=none->Q (.ref p) (upd H1 p (.tup xs))
noncomputable def tLst (t:TA):TE:=fun σ H Q=>t σ H fun xs H1=>xs.length<=qb0/\∀ p,H1 p=none->Q (.ref p) (upd H1 p (.lst xs))
theorem uN {x1} (h:PA X es t):PE X (.Tuple es x1 pos) (tTup t):=by intro pins s σ H Q I O;refine wpAny_Tuple_spliced (thn (h pos pins s σ H _ I O) fun us s1 ⟨xs,H1,L,r,z,q⟩=>⟨by rw [<- r.length];exact z,?_⟩);have U:H1 s1.heap.objs.size=none:=L.hok.fresh (nL _);refine ⟨.ref s1.heap.objs.size,upd H1 s1.heap.objs.size (.tup xs),L.laid (t':=s1.toks) (fun b u e=>gP _ e) (nL _) ?_,rfl,q _ U⟩;exact ⟨z,us,r,⟨_,qb3 _ rfl,rfl,_,rfl⟩⟩
theorem AB (h:PA X es t):PE X (.List es pos) (tLst t):=by intro pins s σ H Q I O;refine wpAny_List_spliced (thn (h pos pins s σ H _ I O) fun us s1 ⟨xs,H1,L,r,z,q⟩=>⟨by rw [<- r.length];exact z,?_⟩);have U:H1 s1.heap.objs.size=none:=L.hok.fresh (nL _);refine ⟨.ref s1.heap.objs.size,upd H1 s1.heap.objs.size (.lst xs),L.laid (t':=s1.toks) (fun b u e=>gP _ e) (nL _) ?_,rfl,q _ U⟩;exact ⟨z,us,0,r,qb3 _ rfl⟩
end
abbrev Sp:=List V->Hp->VK->XK->Prop
abbrev CXT:=List Env->Hp->qa4->XK->Value->qa4->Prop
structure Env0 (P:qc4) (w:World) (K:PySem.W.Frag) (mg:Str->Option Value) (base:Heap) (A:qd9) (outer:List Env) (s:qa4) (H:Hp):Prop where
 frames:A.frames=some outer
 mod:Mod K mg base
 bs:∀ b o,base.get? b=some o->s.heap.get? b=some o/\H b=none
 bsz:base.objs.size<=s.heap.objs.size
 funs:s.heap.FunFrames base outer
 frf:∀ b∈frs outer,H b=none
 hok:HOk P w H s.heap
 bare:qz7 s.gens
 tb:∀ p∈fL K,H p.1=some (.ctab p.2)
noncomputable def CE (outer:List Env) (P:qc4) (w:World) (H:Hp) (s:qa4) (Q:VK) (u:Value) (s':qa4):Prop:=∃ v H',s'.os=s.os/\qz7 s'.gens/\Un (frs outer) [] H H' s.heap s'.heap/\HOk P w H' s'.heap/\RelV v u/\Q v H'
noncomputable def CR (CX:CXT) (outer:List Env) (P:qc4) (w:World) (H:Hp) (s:qa4) (Q:VK) (E:XK) (r:Result) (s':qa4):Prop:=
 match r with
 | .ok (.ret u)=>CE outer P w H s Q u s'
 | .ok _=>False
 | .error e=>CX outer H s E e s'
structure FnOk (P:qc4) (w:World) (K:PySem.W.Frag) (mg:Str->Option Value) (base:Heap) (CX:CXT) (k:Nat) (f:Addr) (fd:qo2) (ps:List Str) (sp:Sp):Prop where
 len:∀ vs H Q E,sp vs H Q E->vs.length=ps.length
 run:∀ (A:qd9) (outer:List Env) (s:qa4) (H:Hp) (args:Args) (us:List Value) (vs:List V) (Q:VK) (E:XK),Room k A->Env0 P w K mg base A outer s H->zf0 s fd args (ps.zip us)->Vals vs us->sp vs H Q E→
  qt3 (model P w) A (.call (.ref f) args) (CR CX outer P w H s Q E) s
variable {base:Heap} {CX:CXT} {fd:qo2} {ps:List Str} {sp:Sp}
theorem FnOk.imp {mg:Str->Option Value} {k:Nat} {f:Addr} {O:Sp} (F:FnOk P w K mg base CX k f fd ps sp)
 (h:∀ vs H Q E,O vs H Q E->sp vs H Q E):FnOk P w K mg base CX k f fd ps O:=
 ⟨fun vs H Q E q=>F.len vs H Q E (h _ _ _ _ q),fun A outer s H L us vs Q E U he Z Y W=>F.run A outer s H L us vs Q E U he Z Y (h _ _ _ _ W)⟩
section
variable {X:Cx} {pins:List (Addr×Obj)} {σ:St} {H:Hp} {s s':qa4}
theorem Inv.env0 (I:Inv X pins σ H s):Env0 X.prog X.w X.K X.mg X.base X.A X.stack s H:=⟨I.ok.frames,I.ok.mod,I.bs,qc7 I.ok.bsz I.sz,I.stack,I.stkFree,I.hok,I.bare,fun p hp=>I.base.cts _ _ (I.ok.tb p hp)⟩
theorem Inv.after {Q:VK} (I:Inv X pins σ H s) (h:CE X.stack X.prog X.w H s Q u s'):EP X pins σ Q u s':=by obtain ⟨v,H',os,L,un,O,r,q⟩:=h;obtain ⟨W,g,d,t,U⟩:=s';obtain rfl:U=s.os:=os;exact ⟨v,H',I.call (h':=W) (g':=g) (d':=d) (t':=t) (ch:=[]) un O L (fun b z=>absurd z (by simp)),r,q⟩
end
noncomputable def uO (sp:Sp) (dvs:List V) (E:XK) (t:TA):TE:=fun σ H Q=>t σ H fun vs H1=>sp (vs++dvs) H1 Q E
noncomputable def Binds (K:PySem.W.Frag) (fd:qo2) (ps:List Str) (ds:List Value):Prop:=∀ (s:qa4) (us:List Value),K.In s.heap->(us++ds).length=ps.length->zf0 s fd ⟨us,[]⟩ (ps.zip (us++ds))
theorem Binds.all (h:∀ us:List Value,us.length=ps.length->bindArgs fd ⟨us,[]⟩=pure (ps.zip us)):Binds K fd ps []:=fun s us _ q=>by rw [qf4] at q ⊢;exact .of_eq (h us q)
noncomputable def pY (CX:CXT) (X:Cx) (E:XK):Prop:=∀ (pins:List (Addr×Obj)) (σ:St) (H:Hp) (s:qa4) (e:Value) (s':qa4),Inv X pins σ H s->CX X.stack H s E e s'->X.xe e s'
variable {vs:List V}
section
variable {X:Cx} {CX:CXT} {k:Nat} {f C:Addr} {fd:qo2} {ps:List Str} {sp:Sp} {dvs:List V} {ds:List Value} {E:XK} {x m:Str} {p pos apos:Pos} {e o:Expr} {es:List Expr} {ta:TE} {t:TA}
theorem AC {Q:VK} (F:FnOk X.prog X.w X.K X.mg X.base CX k f fd ps sp) (U:Room k X.A) (W:Binds X.K fd ps ds) (hd:Vals dvs ds) (O:pY CX X E)
 (I:Inv X pins σ H s) (r:Vals vs us) (h:sp (vs++dvs) H Q E):wpAny (model X.prog X.w) X.A (call (.ref f) us) (EP X pins σ Q) X.xe s:=by
 have L:Vals (vs++dvs) (us++ds):=r.append hd;have Z:(us++ds).length=ps.length:=by rw [<- L.length];exact F.len _ _ _ _ h
 refine wpAny_call (qu3 (F.run X.A X.stack s H ⟨us,[]⟩ (us++ds) (vs++dvs) Q E U I.env0 (W s us I.kIn Z) L h) fun r s' q=>?_);cases r with
 | error e=>exact O pins σ H s e s' I q
 | ok Y =>
  cases Y with
  | ret u=>exact I.after q
  | next=>exact ql3 q
  | brk=>exact ql3 q
  | cont=>exact ql3 q
theorem xy (F:FnOk X.prog X.w X.K X.mg X.base CX k f fd ps sp) (hr:Room k X.A) (hg:Gl X x) (hm:X.mg x=some (.ref f)) (Y:PySem.W.keepIn X.K (.ref f)=true) (hb:Binds X.K fd ps ds) (hd:Vals dvs ds) (Z:pY CX X E)
  (ha:PA X (e::es) t) (L:(x==("__debug__":Str))=false:=by decide) (he:qa6 (e::es) X.env=(false,eval e X.env)::qa6 es X.env:=by rfl) (O:(qh9 pos (qa6 es X.env)).any (·.1)=false:=by rfl) :
  PE X (.Call (.Name x p) (e::es) [] pos) (uO sp dvs E t):=by
 intro pins s σ H Q I h;refine qu4 (qS I hg hm ?_ L);refine PySem.W.callWith_K (h₀:=X.base) I.ok.mod.kin Y (thn (ha pos pins s σ H _ I h) fun us s1 ⟨vs,H1,U,r,q⟩=>⟨U.kIn,?_⟩) he O;exact AC F hr hb hd Z U r q
end
section
variable {X:Cx} {CX:CXT} {k:Nat} {f C:Addr} {fd:qo2} {ps ks:List Str} {sp:Sp} {E:XK} {x m:Str} {p pos apos kpos:Pos} {e o:Expr} {es:List Expr} {kws:List qp6} {te ta:TE} {t tk:TA} {nm:Option Str}
variable {g:List Value->List Value->List Value} {gV:List V->List V->List V}
end
structure FnScope (N P:List Str) (sc:Scope):Prop where
 kind:sc.kind=.function
 co:sc.isCoroutine=false
 gen:sc.isGenerator=false
 nd:N.Nodup
 pre:N.take P.length=P
 par:∀ x∈P,sc.names.lookup x=some .local∨sc.names.lookup x=some .cell
 nofree:∀ y∈sc.names,y.2≠.free
variable {kindOf:Str->Option qu5}
theorem lB:∀ {binds:List (Str×Value)} {m:Str->Option Value},(∀ v,(x,v)∉binds)->bindL kindOf binds m x=m x
 | [],_,_=>rfl
 | (n,v)::r,m,h=>by
  unfold bindL;rw [lB fun w hw=>h w (qd3 _ hw)];split
  . have:x≠n:=by rintro rfl;exact h v qe4
    simp [this]
  . rfl
theorem lC:∀ {binds:List (Str×Value)} {m:Str->Option Value},(∀ v,(x,v)∉binds)->bindC kindOf binds m x=m x
 | [],_,_=>rfl
 | (n,v)::r,m,h=>by
  unfold bindC;rw [lC fun w hw=>h w (qd3 _ hw)];split
  . rfl
  . have:x≠n:=by rintro rfl;exact h v qe4
    simp [this]
theorem lD {v:Value}:∀ {P:List Str} {vs:List Value} {i:Nat} {m:Str->Option Value},P.Nodup->P[i]?=some x->vs[i]?=some v->kindOf x=some .local→
  bindL kindOf (P.zip vs) m x=some v
 | [],_,_,_,_,h,_,_=>by simp at h
 | _::_,[],_,_,_,_,h,_=>by simp at h
 | p::P,w::vs,0,m,nd,h1,h2,hk=>by
  simp at h1 h2;subst h1;subst h2
  show bindL kindOf ((p,w)::P.zip vs) m p=_;unfold bindL;rw [lB fun v hv=>(ql7.mp nd).1 (za0 hv).1,if_pos hk];simp
 | p::P,w::vs,i+1,m,nd,h1,h2,hk=>by show bindL kindOf ((p,w)::P.zip vs) m x=_;unfold bindL;exact lD (i:=i) (ql7.mp nd).2 (by simpa using h1) (by simpa using h2) hk
theorem lF {v:Value}:∀ {P:List Str} {vs:List Value} {i:Nat} {m:Str->Option Value},P.Nodup->P[i]?=some x->vs[i]?=some v->kindOf x≠some .local→
  bindC kindOf (P.zip vs) m x=some v
 | [],_,_,_,_,h,_,_=>by simp at h
 | _::_,[],_,_,_,_,h,_=>by simp at h
 | p::P,w::vs,0,m,nd,h1,h2,hk=>by
  simp at h1 h2;subst h1;subst h2
  show bindC kindOf ((p,w)::P.zip vs) m p=_;unfold bindC;rw [lC fun v hv=>(ql7.mp nd).1 (za0 hv).1,if_neg hk];simp
 | p::P,w::vs,i+1,m,nd,h1,h2,hk=>by show bindC kindOf ((p,w)::P.zip vs) m x=_;unfold bindC;exact lF (i:=i) (ql7.mp nd).2 (by simpa using h1) (by simpa using h2) hk
noncomputable def start (N:List Str) (vs:List V):St:=vs.map some++qf8 (N.length-vs.length) none
noncomputable def lj (CX:CXT) (P:qc4) (w:World) (K:PySem.W.Frag) (mg:Str->Option Value) (base:Heap) (N:List Str) (qual:Str) (scope:Scope) (f:Addr) (L:Value) (A:qd9) (outer:List Env) (s:qa4) (H:Hp) (E:XK):Cx where
 prog:=P
 w:=w
 K:=K
 mg:=mg
 base:=base
 A:=A.deeper (qy3 qual scope s.heap.objs.size f L)
 N:=N
 s₀:=s
 H₀:=H
 env:=qy3 qual scope s.heap.objs.size f L
 outer:=outer
 stack:=qy3 qual scope s.heap.objs.size f L::outer
 ex:=[]
 calm:=true
 fn:=fun _=>true
 pn:=[]
 xe:=fun e s'=>wpAny (model P w) (A.deeper (qy3 qual scope s.heap.objs.size f L)) (leaving (qy3 qual scope s.heap.objs.size f L) e) (fun _ q=>CX outer H s E e q) (fun O q=>CX outer H s E O q) s'
theorem nW {sc:Scope} (h:sc.names.lookup x=some .cell):∃ c,(cellsFrom n sc.names []).lookup x=some c:=by have q:=PySem.W.cellsFrom_some sc.names n [] (.inl h);exact qw1.mp q
variable {qual:Str} {scope:Scope}
theorem sW {mg:Str->Option Value} {f:Addr} {W:Value} {outer:List Env} {s1:qa4} {E:XK} 
 (S:FnScope N ps scope) (hd:A.handled=none) (e0:Env0 P w K mg base A outer s H) (hl:vs.length=ps.length) (r:Vals vs us)
 (x:InCallC s s.heap.objs.size (bindL (qy3 qual scope s.heap.objs.size f W).kindOf (ps.zip us) fun _=>none) (cellsFrom (s.heap.objs.size+1) scope.names []) (bindC (qy3 qual scope s.heap.objs.size f W).kindOf (ps.zip us) fun _=>none) s1) :
  Inv (lj CX P w K mg base N qual scope f W A outer s H E) [] (start N vs) H s1:=by
 have hpl:ps.length<=N.length:=by have:=congrArg qi6 S.pre;rw [qy4] at this;lia
 obtain ⟨h1,tk,rfl,Z⟩:=x.done;have L:∀ b:Addr,b∉(lj CX P w K mg base N qual scope f W A outer s H E).ex:=fun b z=>absurd (show b∈([]:List Addr) from z) (by simp)
 refine ⟨⟨e0.mod,S.kind,rfl,rfl,nL _,fun y z c h1 h2=>?_,fun y O=>?_,fun y c _ h=>?_,fun _=>hd,qd9.frames_deeper e0.frames,.inr ⟨rfl,rfl⟩,fun b z=>absurd z (L b),e0.bs,e0.bsz,fun b _ _=>L b,fun b z=>absurd z (L b),e0.funs,e0.frf,e0.tb⟩,rfl,e0.bare,Un.kept Z,⟨_,x.toInCall.ns,fun i y v h1 h2 h3=>?_⟩,fun y c h=>⟨_,x.cell y c h⟩,e0.hok.fresh (qx3 _),fun y c h=>?_,fun p hp=>absurd (show p∈([]:List (Addr×Obj)) from hp) (by simp),e0.hok.kept Z,?_⟩
 . exact name_of_addr x.apart (PySem.mem_of_lookup h1) (PySem.mem_of_lookup h2)
 . have O:scope.names.lookup y=some .cell∨scope.names.lookup y=some .free:=O;rcases O with O | O
   . exact nW O
   . exact absurd rfl (S.nofree _ (PySem.mem_of_lookup O))
 . exact qh8 (x.above y c (PySem.mem_of_lookup h))
 . have hi:i<vs.length:=by
    unfold start at h2;by_cases hi:i<vs.length
    . exact hi
    . rw [qd6 (by simpa using hi)] at h2;rw [qm4] at h2;split at h2<;>cases h2
   have ha:vs[i]?=some v:=by
    unfold start at h2;rw [qa8 (by simpa using hi),qb1] at h2;cases e:vs[i]? with
    | none=>rw [e] at h2;cases h2
    | some a=>rw [e] at h2;cases h2;rfl
   obtain ⟨u,Y,rv⟩:=r.get ha
   have hp:ps[i]?=some y:=by rw [<- S.pre,List.getElem?_take_of_lt (by lia)];exact h1
   have U:ps.Nodup:=by rw [<- S.pre];exact S.nd.sublist (List.take_sublist _ _)
   refine ⟨u,rv,?_⟩;rcases S.par y (qc9 hp) with k | k
   . exact .inl ⟨k,lD U hp Y k⟩
   . obtain ⟨c,e⟩:=nW (n:=s.heap.objs.size+1) k;refine .inr ⟨.inl k,c,e,?_⟩;have q:=x.cell y c e;rw [lF U hp Y (by show scope.names.lookup y≠_;rw [k];decide)] at q;exact q
 . exact e0.hok.fresh (qh8 (x.above y c (PySem.mem_of_lookup h)))
 . unfold start;show _=N.length;rw [qb8,qa2,List.length_replicate];lia
theorem Cp {mg:Str->Option Value} {k:Nat} {f:Addr} {name:Str} {params:qp7} {dV kV doc pm cdv ct oc:Value} {an od:Option Addr}
 {osl:Array (Option Value)} (lk:K.lookup f=some ⟨oc,od,.func (PySem.W.fnOf name qual params body scope dV kV doc pm an cdv ct),osl⟩) (hcd:PySem.W.codeIn K cdv qual=true) (S:FnScope N ps scope)
 (len:∀ vs H Q E,sp vs H Q E->vs.length=ps.length)
 (O:∀ (A:qd9) (outer:List Env) (s:qa4) (H:Hp) (vs:List V) (Q:VK) (E:XK),Room k (A.deeper (qy3 qual scope s.heap.objs.size f cdv))->sp vs H Q E→
 ∃ t,PSs (lj CX P w K mg base N qual scope f cdv A outer s H E) body t/\t {nx:=fun _ H'=>Q .non H',rt:=Q} (start N vs) H) :
  FnOk P w K mg base CX (k+1) f (PySem.W.fnOf name qual params body scope dV kV doc pm an cdv ct) ps sp:=by
 refine ⟨len,fun A outer s H args us vs Q E Z e0 hb r Y=>?_⟩;have hl:=len _ _ _ _ Y;have KX:K.In s.heap:=e0.mod.kin.keeps fun b o e=>(e0.bs b o e).1
 have lim:s.heap.NoLimit:=e0.mod.nolimit.keeps fun b o e=>(e0.bs b o e).1
 have L:∀ y∈ps.zip us,scope.names.lookup y.1=some .local∨(scope.names.lookup y.1=some .cell/\((cellsFrom (s.heap.objs.size+1) scope.names []).lookup y.1).isSome=true):=fun ⟨n,v⟩ hy=>by
  rcases S.par n (za0 hy).1 with q | q
  . exact .inl q
  . exact .inr ⟨q,PySem.W.cellsFrom_some _ _ _ (.inl q)⟩
 refine codeAny_call_function Z.depth (KX _ _ lk) rfl S.co S.gen rfl (PySem.W.codeRec_of KX hcd) (hb _ _ _ _ ?_);refine wpAny_newFunctionEnv_cells S.kind L fun env he s1 x=>?_
 subst he;refine ⟨lim.keeps x.toInCall.keep,codeAny_func ?_⟩;obtain ⟨t,ht,hq⟩:=O A outer s H vs Q E (Z.deeper _) Y;have I:Inv (lj CX P w K mg base N qual scope f cdv A outer s H E) [] (start N vs) H s1:=sW S Z.hd e0 hl r x;refine qj9 (ht [] s1 (start N vs) H _ I hq) (fun fl s' U=>?_) fun e s' U=>U
 have fin:∀ {σ':St} {H':Hp} {v:V} {u:Value},Inv (lj CX P w K mg base N qual scope f cdv A outer s H E) [] σ' H' s'->RelV v u->Q v H'->CE outer P w H s Q u s':=fun {σ' H' v u} J rv q=>⟨v,H',J.os,J.bare,J.base,J.hok,rv,q⟩
 cases fl with
 | ret u =>obtain ⟨v,σ',H',J,rv,q⟩:=U;exact fin J rv q
 | next =>obtain ⟨σ',H',J,q⟩:=U;exact fin (v:=V.non) (u:=qj8) J rfl q
 | brk =>obtain ⟨_,_,_,q⟩:=U;exact ql3 q
 | cont =>obtain ⟨_,_,_,q⟩:=U;exact ql3 q
section
variable {X:Cx} {x:Str} {p pos:Pos} {e:Expr} {es:List Expr} {t:TA} {id T:String} {r:List V->Hp->VK->Prop}
noncomputable def tCB (r:List V->Hp->VK->Prop) (t:TA):TE:=fun σ H Q=>t σ H fun vs H1=>r vs H1 Q
theorem uP (Z:CallR X (.builtin id) r) (O:Gl X x) (Y:X.mg x=none) (U:qd7 x=some (.builtin id)) (ha:PA X (e::es) t) (hn:x≠"__name__":=by decide) (q:(x==("__debug__":Str))=false:=by decide)
  (he:qa6 (e::es) X.env=(false,eval e X.env)::qa6 es X.env:=by rfl) (L:(qh9 pos (qa6 es X.env)).any (·.1)=false:=by rfl):PE X (.Call (.Name x p) (e::es) [] pos) (tCB r t):=by
 intro pins s σ H Q I h;refine qu4 (i9 I O Y U ?_ hn q);exact PyProof.Rows.callWith_builtin1 (thn (ha pos pins s σ H _ I h) fun us s1 ⟨vs,H1,I1,W,q1⟩=>Z pins s1 σ H1 vs us Q I1 W q1) he L
theorem sX (Z:CallR X (.type T) r) (O:Gl X x) (Y:X.mg x=none) (U:qd7 x=some (.type T)) (ha:PA X (e::es) t) (hn:x≠"__name__":=by decide) (q:(x==("__debug__":Str))=false:=by decide)
  (he:qa6 (e::es) X.env=(false,eval e X.env)::qa6 es X.env:=by rfl) (L:(qh9 pos (qa6 es X.env)).any (·.1)=false:=by rfl):PE X (.Call (.Name x p) (e::es) [] pos) (tCB r t):=by
 intro pins s σ H Q I h;refine qu4 (i9 I O Y U ?_ hn q);exact qj0 (thn (ha pos pins s σ H _ I h) fun us s1 ⟨vs,H1,I1,W,q1⟩=>Z pins s1 σ H1 vs us Q I1 W q1) he L
end
end L2
namespace HT
open PySem PyProof.Rows
section
open PySem.SeqAt
open PySem.AutoSeq1 (wpAny_loadPart')
open PySem.MeetsSeq PySem.MeetsSeq2 PySem.MeetsSeq3
end
variable {Q:Value->qa4->Prop} {vu:Value} {hi:Option Int}
section
variable {prog:qc4} {w:World} {A:qd9} {E:Value->qa4->Prop} {s:qa4}
theorem Dj {t b:Addr} {vs q:List Value} (ht:IsTup s.heap t vs.toArray) (hb:IsTup s.heap b q.toArray) (hv:vs≠[])
 (h1:q=[]->Q (.ref t) s) (h2:q≠[]->Q (.ref s.heap.objs.size) {s with heap:=s.heap.push {cls:=.type "tuple",data:=.seq (vs++q).toArray}})
 (hsz:vs.length+q.length<=qb0):wpAny (model prog w) A (ql1 .Add (.ref t) (.ref b)) Q E s:=by
 obtain ⟨⟨cls,dd,data,sl⟩,Z,hc,n,hd⟩:=id ht;obtain ⟨⟨cls2,Y,data2,U⟩,L,W,n2,O⟩:=id hb;simp only at hc hd W O;subst hc hd W O;have e:vs.toArray++q.toArray=(vs++q).toArray:=by simp
 by_cases hw:q=[]
 . exact qu6 ⟨_,Z,rfl⟩ ⟨_,L,rfl⟩ qr8 qx5 PySem.F.slot_tuple_add PySem.F.entry_tuple_add (PySem.F.args_tuple_add_2 _ _)
    (tuple_addW1 t b vs.toArray q.toArray n n2 dd Y sl U (by simpa using hv) (by simp [hw])) ⟨Z,L,h1 hw⟩
 . refine qu6 ⟨_,Z,rfl⟩ ⟨_,L,rfl⟩ qr8 qx5 PySem.F.slot_tuple_add PySem.F.entry_tuple_add (PySem.F.args_tuple_add_2 _ _)
    (tuple_addW2 t b vs.toArray q.toArray n n2 dd Y sl U (by simpa using hv) (by simpa using hw) (by rw [qb5,qb5];exact hsz)) ⟨Z,L,?_⟩
   rw [e];exact h2 hw
noncomputable def sIx (n d:Nat):Option Int->Nat
 | none=>d
 | some v=>if v<0 then (v+(n:Int)).toNat else min v.toNat n
theorem Cq (n d:Nat):sIx n d none=d:=rfl
theorem Dk (n d k:Nat):sIx n d (some (k:Int))=min k n:=by show (if (k:Int)<0 then ((k:Int)+(n:Int)).toNat else min (k:Int).toNat n)=min k n;rw [if_neg (by lia),qe3]
theorem AD (n d:Nat) (L:d<=n) (o:Option Int):sIx n d o<=n:=by
 cases o with
 | none=>exact L
 | some v =>
  show (if v<0 then (v+(n:Int)).toNat else min v.toNat n)<=n;by_cases q:v<0
  . rw [if_pos q];lia
  . rw [if_neg q];exact Nat.min_le_right _ _
theorem qZ (v:Int) (n d:Nat):(if v<0 then max (v+(n:Int)) 0 else min v (n:Int))=((sIx n d (some v):Nat):Int):=by
 show (if v<0 then max (v+(n:Int)) 0 else min v (n:Int))=(((if v<0 then (v+(n:Int)).toNat else min v.toNat n):Nat):Int);by_cases q:v<0
 . simp only [if_pos q];lia
 . simp only [if_neg q];lia
theorem pZ (lo hi:Option Int) (n:Nat):qn9 lo hi 1 (n:Int)=(((sIx n 0 lo:Nat):Int),((sIx n n hi:Nat):Int)):=by
 have h1:¬ ((1:Int)<0):=by lia
 unfold qn9;simp only [h1,if_false];refine Prod.ext ?_ ?_
 . cases lo with
   | none=>rfl
   | some v=>exact qZ v n 0
 . cases hi with
   | none=>rfl
   | some v=>exact qZ v n n
theorem p0 (i j:Nat):qk6 (i:Int) (j:Int) 1=j-i:=by
 unfold qk6;have h1:(1:Int) > 0:=by lia
 simp only [h1,if_true,Int.ediv_one];split<;>lia
theorem jY {v:Value} {o:Option Int} {Q:Option Int->qa4->Prop} (p:ze1 v o) (h:Q o s):wpAny (model prog w) A (qj1.Slice.slicePartIndex v) Q E s:=by
 cases p with
 | none=>exact slicePart_none h
 | int i t=>exact slicePart_int h
theorem jc {sl:Addr} {vl:Value} {lo:Option Int} {n:Nat} {Q:Int×Int×Nat->qa4->Prop} (U:s.heap.IsSliceOf sl vl vu .none) (Y:ze1 vl lo) (W:ze1 vu hi)
 (h:Q (((sIx n 0 lo:Nat):Int),1,sIx n n hi-sIx n 0 lo) s):wpAny (model prog w) A (qu0 (.ref sl) (pure (n:Int))) Q E s:=by
 obtain ⟨Z,q,O,L⟩:=id U;unfold qu0 qj1.Slice.sliceFields;refine wB (wB (qq8 q L (x:=vl) rfl (wB (qq8 q L (x:=vu) rfl (wB (qq8 q L (x:=.none) rfl (qa5 ?_)))))));refine wB (slicePart_none ?_);show wpAny _ _ (if ((1:Int)==0)=true then _ else _) _ _ s;rw [if_neg (by decide)];refine wB (jY Y (wB (jY W (wB (qa5 ?_)))));show wpAny _ _ (match qn9 lo hi 1 (n:Int) with | (lo,hi)=>pure (lo,(1:Int),qk6 lo hi 1)) _ _ s;rw [pZ lo hi n];show wpAny _ _ (pure (((sIx n 0 lo:Nat):Int),(1:Int),qk6 ((sIx n 0 lo:Nat):Int) ((sIx n n hi:Nat):Int) 1)) _ _ s;rw [p0];exact qa5 h
theorem uQ (xs:Array Value) (i k:Nat):((qb6 k).filterMap fun (m:Nat)=>xs[((i:Int)+(m:Int)*1).toNat]?).toArray=((xs.toList.drop i).take k).toArray:=by
 have e:(fun (m:Nat)=>xs[((i:Int)+(m:Int)*1).toNat]?)=fun m=>xs[i+m]?:=by
  funext m;have:((i:Int)+(m:Int)*1).toNat=i+m:=by lia
  rw [this]
 rw [e];have:=pick_run xs i k;rw [List.filterMap_map] at this;have e2:((fun x=>xs[x]?) ∘ fun x=>i+x)=fun m=>xs[i+m]?:=rfl
 rw [e2] at this;rw [this]
theorem ra {t sl:Addr} {L:Array Value} {vl:Value} {lo:Option Int} (U:IsTup s.heap t L) (hs:s.heap.IsSliceOf sl vl vu .none) (pl:ze1 vl lo) (pu:ze1 vu hi)
 (hw:¬ (sIx L.size 0 lo=0/\sIx L.size L.size hi=L.size))
 (h:Q (.ref s.heap.objs.size) {s with heap:=s.heap.push {cls:=.type "tuple",data:=.seq ((L.toList.drop (sIx L.size 0 lo)).take (sIx L.size L.size hi-sIx L.size 0 lo)).toArray}})
 (hsz:L.size<=qb0):wpAny (model prog w) A (zb9 (.ref t) (.ref sl)) Q E s:=by
 have O:sizeOk (.seq ((L.toList.drop (sIx L.size 0 lo)).take (sIx L.size L.size hi-sIx L.size 0 lo)).toArray):=by show ((L.toList.drop (sIx L.size 0 lo)).take (sIx L.size L.size hi-sIx L.size 0 lo)).toArray.size<=qb0;rw [qb5,qy4,qy5,qd5];lia
 have hj:sIx L.size L.size hi<=L.size:=AD _ _ (nL _) hi;obtain ⟨os,Z,Y,hds⟩:=id hs;have hTs:s.TypeIs (.ref sl) "slice":=⟨os,Z,Y⟩;unfold zb9
 try with_reducible refine qi8 ?_
 first | refine wB (qa5 ?_) | skip
 refine wB (wpAny_sequenceKey U.typeIs (by decide) ?_)
 refine wB (qg6 (name:=qa1 "__getitem__") U.typeIs ql8
  (qg4 ql8 U.typeIs entry_tuple_getitem ?_ (args_tuple_getitem _ _)))
 show wpAny _ _ (qj1.Tuple.tupleItemsOf (.ref t) >>= _) _ _ s;refine wB (tupleItemsOf_ U ?_);refine wB (ze2 hTs ?_);rw [if_pos (by decide)];refine wB (jc hs pl pu ?_)
 have W:¬ ((((sIx L.size 0 lo:Nat):Int)==0&&(1:Int)==1&&(sIx L.size L.size hi-sIx L.size 0 lo)==L.size)=true):=by intro q;rw [qb4,qb4] at q;have q1:((sIx L.size 0 lo:Nat):Int)=0:=eq_of_beq q.1.1;have q2:sIx L.size L.size hi-sIx L.size 0 lo=L.size:=eq_of_beq q.2;exact hw ⟨by lia,by lia⟩
 show wpAny _ _ (if (((sIx L.size 0 lo:Nat):Int)==0&&(1:Int)==1&&(sIx L.size L.size hi-sIx L.size 0 lo)==L.size)=true then _ else _) _ _ s;rw [if_neg W,uQ]
 first
  | exact wB (m:=ql9 _) (qd2 (qa5 ⟨_,rfl,qa5 h⟩) O)
  | exact wB (m:=ql9 _) (qd2 (wB (qa5 (qa5 ⟨_,rfl,qa5 h⟩))) O)
  | exact wB (wB (m:=ql9 _) (qd2 (qa5 (qa5 ⟨_,rfl,qa5 h⟩)) O))
  | exact wB (wB (m:=ql9 _) (qd2 (qa5 ⟨_,rfl,qa5 h⟩) O))
end
end HT
namespace L2
open PySem PySem.Spec PyProof.Rows
abbrev TO:=St->Hp->(Option Int->Hp->Prop)->Prop
noncomputable def PO (X:Cx) (e:Option Expr) (t:TO):Prop:=
 ∀ (pins:List (Addr×Obj)) (s:qa4) (σ:St) (H:Hp) (Q:Option Int->Hp->Prop),Inv X pins σ H s->t σ H Q→
  wpAny (model X.prog X.w) X.A (evalPart e X.env) (fun u s'=>∃ o H',Inv X pins σ H' s'/\ze1 u o/\Q o H') X.xe s
noncomputable def xz:TO:=fun _ H Q=>Q none H
noncomputable def Cr (t:TE):TO:=fun σ H Q=>t σ H fun x H1=>∃ i,x=.int i/\Q (some i) H1
theorem p5 {ns:List Int}:∀ {us:List Value},Vals (ns.map V.int) us->qv0 us ns:=by
 induction ns with
 | nil=>intro us r;rw [qm3] at r;cases r;exact .nil
 | cons n ns O =>
  intro us r;rw [qa3] at r;cases r with
  | cons L q =>obtain ⟨t,e⟩:=L;subst e;exact .cons n t (O q)
variable {r:V->Option Int->Option Int->Hp->VK->Prop} {xs:List V} {us:List Value}
section
variable {X:Cx} {e:Expr} {te:TE} {lo hi:Option Expr} {tl th:TO} {pos p2:Pos}
theorem xA:PO X none xz:=by intro pins s σ H Q I h;rw [evalPart_none];exact qa5 ⟨none,H,I,.none,h⟩
theorem xB (h:PE X e te):PO X (some e) (Cr te):=by
 intro pins s σ H Q I O;rw [evalPart_some];refine thn (h pins s σ H _ I O) fun u s1 ⟨x,H1,U,L,q1⟩=>?_
 obtain ⟨i,rfl,q⟩:=q1;obtain ⟨t,rfl⟩:=L;exact ⟨some i,H1,U,.int i t,q⟩
noncomputable def SlR (X:Cx) (r:V->Option Int->Option Int->Hp->VK->Prop):Prop:=
 ∀ (pins:List (Addr×Obj)) (s:qa4) (σ:St) (H:Hp) (x:V) (v vl vu:Value) (lo hi:Option Int) (sl:Addr) (Q:VK),Inv X pins σ H s->RelV x v->s.heap.IsSliceOf sl vl vu .none->ze1 vl lo->ze1 vu hi->r x lo hi H Q→
  ∃ T id,typeLookup (.type T) "__getitem__"=pure (some (.builtin id))/\s.TypeIs v T/\wpAny (model X.prog X.w) X.A (zb9 v (.ref sl)) (EP X pins σ Q) X.xe s
theorem SlR.or {r':V->Option Int->Option Int->Hp->VK->Prop} (h:SlR X r) (h':SlR X r'):SlR X (fun x lo hi H Q=>r x lo hi H Q∨r' x lo hi H Q):=by
 intro pins s σ H x v vl vu lo hi sl Q I L O W U q;rcases q with q | q
 . exact h pins s σ H x v vl vu lo hi sl Q I L O W U q
 . exact h' pins s σ H x v vl vu lo hi sl Q I L O W U q
noncomputable def tSl (r:V->Option Int->Option Int->Hp->VK->Prop) (te:TE) (tl th:TO):TE:=fun σ H Q=>te σ H fun x H1=>tl σ H1 fun l H2=>th σ H2 fun u q=>r x l u q Q
theorem uR (W:SlR X r) (he:PE X e te) (hl:PO X lo tl) (Y:PO X hi th):PE X (.Subscript e (.Slice lo hi none p2) pos) (tSl r te tl th):=by
 intro pins s σ H Q I h;refine Subscript_ (thn (he pins s σ H _ I h) fun v s1 ⟨x,H1,I1,r1,q1⟩=>?_);refine wpAny_Slice (thn (hl pins s1 σ H1 _ I1 q1) fun vl s2 ⟨l,H2,U,pl,q2⟩=>thn (Y pins s2 σ H2 _ U q2) fun vu L ⟨u,O,I3,pu,q3⟩=>?_);rw [evalPart_none];refine qa5 ?_;have Z:Inv X pins σ O {L with heap:=L.heap.push {cls:=.type "slice",data:=.fields #[vl,vu,.none]}}:=I3.kept (t':=L.toks) fun b ob q=>gP _ q
 obtain ⟨T,id,hT,ht,hg⟩:=W pins {L with heap:=L.heap.push {cls:=.type "slice",data:=.fields #[vl,vu,.none]}} σ O x v vl vu l u L.heap.objs.size Q Z r1 (Heap.IsSliceOf.new ..) pl pu q3;show wpAny (model X.prog X.w) X.A (zc9 e (.Slice lo hi none p2) v (.ref L.heap.objs.size)) (EP X pins σ Q) X.xe {L with heap:=L.heap.push {cls:=.type "slice",data:=.fields #[vl,vu,.none]}};exact tail_any (ops:=[.ref L.heap.objs.size,v]) ht hT hg (by with_unfolding_all rfl)
noncomputable def nX (xs:List V) (lo hi:Option Int):List V:=(xs.drop (HT.sIx xs.length 0 lo)).take (HT.sIx xs.length xs.length hi-HT.sIx xs.length 0 lo)
theorem jr (xs:List V) (lo hi:Option Int):(nX xs lo hi).length<=xs.length:=by unfold nX;rw [qy4,qy5];lia
noncomputable def rSlT (K:PySem.W.Frag):V->Option Int->Option Int->Hp->VK->Prop:=fun x lo hi H Q=>∃ a xs,x=.ref a/\SqT K H a xs∧¬ (HT.sIx xs.length 0 lo=0/\HT.sIx xs.length xs.length hi=xs.length)/\∀ p,H p=none->Q (.ref p) (upd H p (.tup (nX xs lo hi)))
theorem AE:SlR X (rSlT X.K):=by
 intro pins s σ H x v vl vu lo hi sl Q I W Z pl pu h;obtain ⟨a,xs,rfl,Y,hw,q⟩:=h;cases W;obtain ⟨its,r,O,U⟩:=I.tuple Y;have L:its.toArray.size=xs.length:=by rw [qb5];exact r.length.symm
 refine ⟨"tuple",_,ql8.lookup,O.typeIs,?_⟩;refine HT.ra O Z pl pu (by rw [L];exact hw) ?_ (by rw [L];exact U);rw [L];refine ⟨.ref s.heap.objs.size,_,I.laid (t':=s.toks) (o:=.tup (nX xs lo hi)) (fun b ob q=>gP _ q) (nL _) ?_,rfl,q _ (I.hok.fresh (nL _))⟩;exact ⟨qc7 (jr xs lo hi) U,_,(r.drop (HT.sIx xs.length 0 lo)).take (HT.sIx xs.length xs.length hi-HT.sIx xs.length 0 lo),IsTup.new _ _⟩
noncomputable def zi (K:PySem.W.Frag):R2:=fun x y H Q=>∃ a b xs ys,x=.ref a/\y=.ref b/\SqT K H a xs/\SqT K H b ys/\xs≠[]/\xs.length+ys.length<=qb0∧(ys=[]->Q (.ref a) H)/\(ys≠[]->∀ p,H p=none->Q (.ref p) (upd H p (.tup (xs++ys))))
theorem Vals.nil_iff (r:Vals xs us):us=[]↔xs=[]:=by
 cases r with
 | nil=>simp
 | cons _ _=>simp
theorem xC:OpR X (ql1 .Add) (zi X.K):=by intro pins s σ H x y v u Q I Y ry h;obtain ⟨a,b,xs,ys,rfl,rfl,ha,hb,Z,W,q1,q2⟩:=h;cases Y;cases ry;obtain ⟨its,O,p1,_⟩:=I.tuple ha;obtain ⟨U,L,p2,_⟩:=I.tuple hb;refine HT.Dj p1 p2 (fun z=>Z (O.nil_iff.mp z)) (fun z=>⟨.ref a,H,I,rfl,q1 (L.nil_iff.mp z)⟩) (fun z=>?_) (by rw [<- O.length,<- L.length];exact W);refine ⟨.ref s.heap.objs.size,_,I.laid (t':=s.toks) (o:=.tup (xs++ys)) (fun b ob q=>gP _ q) (nL _) ?_,rfl,q2 (fun w=>z (L.nil_iff.mpr w)) _ (I.hok.fresh (nL _))⟩;exact ⟨by rw [qb8];exact W,_,O.append L,IsTup.new _ _⟩
end
noncomputable def ixN (n:Nat) (i:Int):Option Nat:=if 0<=i then (if i<n then some i.toNat else none) else if -(n:Int)<=i then some (i+n).toNat else none
noncomputable def atI {α:Type} (xs:List α) (i:Int):Option α:=(ixN xs.length i).bind fun j=>xs[j]?
variable {n j:Nat} {i:Int}
theorem rb (h:ixN n i=some j):seqIndex? i n=some j/\j<n/\-(n:Int)<=i/\i<n:=by
 unfold ixN at h;by_cases q:0<=i
 . rw [if_pos q] at h;by_cases h1:i<n
   . rw [if_pos h1] at h;have e:i.toNat=j:=qe9 h;exact ⟨by rw [seqIndex_of q h1,e],by lia,by lia,h1⟩
   . rw [if_neg h1] at h;cases h
 . rw [if_neg q] at h;by_cases h1:-(n:Int)<=i
   . rw [if_pos h1] at h;have e:(i+n).toNat=j:=qe9 h;exact ⟨by rw [seqIndex_neg (by lia) h1,e],by lia,h1,by lia⟩
   . rw [if_neg h1] at h;cases h
theorem mN {α:Type} {xs:List α} {v:α} (h:atI xs i=some v):∃ j,seqIndex? i xs.length=some j/\xs[j]?=some v/\j<xs.length/\-(xs.length:Int)<=i/\i<xs.length:=by
 unfold atI at h;cases e:ixN xs.length i with
 | none=>rw [e] at h;cases h
 | some j =>rw [e] at h;obtain ⟨h1,h2,h3,q⟩:=rb e;exact ⟨j,h1,h,h2,h3,q⟩
theorem xD {α:Type} {xs:List α} {v:α} (h:xs[j]?=some v):atI xs (j:Int)=some v:=by
 have q:j<xs.length:=(gX h).1
 have e:ixN xs.length (j:Int)=some j:=by unfold ixN;rw [if_pos (by lia),if_pos (by lia)];simp
 unfold atI;rw [e];exact h
noncomputable def mO (b:Expr):Prop:=∀ o i,zc0 b false o i=operate [o,i] (zb9 o i)
noncomputable def IxR (X:Cx) (r:R2):Prop:=
 ∀ (value q:Expr) (pins:List (Addr×Obj)) (s:qa4) (σ:St) (H:Hp) (x y:V) (v u:Value) (Q:VK),Inv X pins σ H s->RelV x v->RelV y u->r x y H Q→
  zc0 q false v u=operate [v,u] (zb9 v u)->wpAny (model X.prog X.w) X.A (zc9 value q v u) (EP X pins σ Q) X.xe s
noncomputable def MtR (X:Cx) (id:String) (r:V->List V->Hp->VK->Prop):Prop:=
 ∀ (pins:List (Addr×Obj)) (s:qa4) (σ:St) (H:Hp) (x:V) (xs:List V) (v:Value) (us:List Value) (Q:VK),Inv X pins σ H s->RelV x v->Vals xs us->r x xs H Q→
  wpAny (model X.prog X.w) X.A (call (.builtin id) (v::us)) (EP X pins σ Q) X.xe s
variable {pins:List (Addr×Obj)} {σ:St} {H:Hp} {s:qa4} {p:Addr} {its its':List Value} {A:qd9} {y x:V} {u v:Value}
section
variable {X:Cx} {a b:Expr} {ta tb:TE} {pos:Pos}
theorem IxR.or {r r':R2} (h:IxR X r) (h':IxR X r'):IxR X (fun x y H Q=>r x y H Q∨r' x y H Q):=by
 intro value L pins s σ H x y v u Q I O W q U;rcases q with q | q
 . exact h value L pins s σ H x y v u Q I O W q U
 . exact h' value L pins s σ H x y v u Q I O W q U
theorem zj {r:R2} (W:IxR X r) (Z:PE X a ta) (Y:PE X b tb) (U:mO b):PE X (.Subscript a b pos) (tOp r ta tb):=by intro pins s σ H Q I h;exact Subscript_ (As Z Y I h fun v u s2 x y H2 O L ry q=>W a b pins s2 σ H2 x y v u Q O L ry q (U _ _))
noncomputable def rIxL (K:PySem.W.Frag):R2:=fun x y H Q=>∃ p xs i v,x=.ref p/\y=.int i/\SqL K H p xs/\atI xs i=some v/\Q v H
noncomputable def rIxT (K:PySem.W.Frag):R2:=fun x y H Q=>∃ p xs i v,x=.ref p/\y=.int i/\SqT K H p xs/\atI xs i=some v/\Q v H
noncomputable def rIxS:R2:=fun x y H Q=>∃ z i c,x=.str z/\y=.int i/\z.length<=qb0/\atI z.cps.toList i=some c/\Q (.str ⟨#[c]⟩) H
theorem ix_list:IxR X (rIxL X.K):=by
 intro value slice pins s σ H x y v u Q I rx ry h hs;obtain ⟨p,xs,i,z,rfl,rfl,hq,he,q⟩:=h;cases rx;obtain ⟨t,rfl⟩:=ry;obtain ⟨its,r,pl,hz⟩:=I.list hq;obtain ⟨j,h1,h2,h3,h4,h5⟩:=mN he;obtain ⟨w,ew,rw'⟩:=r.get h2;have hl:=r.length;have hn:=jb;have fin:EP X pins σ Q w s:=⟨z,H,I,rw',q⟩;by_cases h0:0<=i
 . have hj:i.toNat=j:=by rw [seqIndex_of h0 h5] at h1;exact qe9 h1
   exact item_listR pl.isList h0 (by lia) (by rw [hj];simpa using ew) fin hs
 . have hj:(i+(its.toArray.size:Int)).toNat=j:=by rw [seqIndex_neg (by lia) h4] at h1;rw [qb5,<- hl];exact qe9 h1
   exact qz0 (x:=w) pl.isList.typeIs slot_list_getitem.lookup
    (wpAny_getItem_list_neg (Q:=fun r s'=>r=w/\EP X pins σ Q r s') pl.isList (by lia) (by rw [qb5]<;>lia) (by lia) (by rw [hj];simpa using ew) ⟨rfl,fin⟩) hs
theorem ix_tup:IxR X (rIxT X.K):=by
 intro value slice pins s σ H x y v u Q I rx ry h hs;obtain ⟨p,xs,i,z,rfl,rfl,hq,he,q⟩:=h;cases rx;obtain ⟨t,rfl⟩:=ry;obtain ⟨its,r,pl,hz⟩:=I.tuple hq;obtain ⟨j,h1,h2,h3,h4,h5⟩:=mN he;obtain ⟨w,ew,rw'⟩:=r.get h2;have hl:=r.length;have hn:=jb;have fin:EP X pins σ Q w s:=⟨z,H,I,rw',q⟩
 exact qz0 (x:=w) pl.typeIs slot_tuple_getitem.lookup
  (getItem_tuple (j:=j) (Q:=fun r s'=>r=w/\EP X pins σ Q r s') pl (by lia) (by lia) (by rw [qb5,<- hl];exact h1) (by simpa using ew) ⟨rfl,fin⟩) hs
theorem AF:IxR X rIxS:=by
 intro value slice pins s σ H x y v u Q I rx ry h hs;obtain ⟨z,i,c,rfl,rfl,hz,he,q⟩:=h;obtain ⟨t,rfl⟩:=rx;obtain ⟨t',rfl⟩:=ry;obtain ⟨j,h1,h2,h3,h4,h5⟩:=mN he;have hl:z.cps.toList.length=z.length:=by simp [Str.length]
 rw [hl] at h1 h4 h5;have hn:=jb
 exact tail_any (typeIs_str s z t) slot_str_getitem.lookup (getItem_str (c:=c) (by have e1:decide (i < -(2^63:Int))=false:=decide_eq_false (by lia);have e2:decide (i ≥ 2^63)=false:=decide_eq_false (by lia);rw [e1,e2,zd0]) (by rw [h1];simpa using h2) ⟨.str ⟨#[c]⟩,H,I.tok _,⟨_,rfl⟩,q⟩) hs
noncomputable def rIx (K:PySem.W.Frag):R2:=fun x y H Q=>rIxL K x y H Q∨rIxT K x y H Q∨rIxS x y H Q
theorem uS:IxR X (rIx X.K):=ix_list.or (ix_tup.or AF)
theorem p6 (its:List Value) (n j:Nat) (u:Value):qp0 (·.setIfInBounds j u) {cls:=.type "list",data:=.seq its.toArray n}={cls:=.type "list",data:=.seq (its.set j u).toArray n}:=by simp [qp0]
theorem Inv.lst (I:Inv X pins σ H s) (h:H p=some (.lst xs)) :
  ∃ (its:List Value) (n:Nat),Vals xs its/\s.heap.get? p=some {cls:=.type "list",data:=.seq its.toArray n}/\xs.length<=qb0:=by
 obtain ⟨z,its,n,r,e⟩:=I.hok p _ h;exact ⟨its,n,r,e,z⟩
theorem Inv.lstUpd {ys:List V} {n':Nat} {f:Obj->Obj} (I:Inv X pins σ H s) (h:H p=some (.lst xs))
 (W:s.heap.get? p=some {cls:=.type "list",data:=.seq its.toArray n}) (L:f {cls:=.type "list",data:=.seq its.toArray n}={cls:=.type "list",data:=.seq its'.toArray n'}) (r:Vals ys its') (O:ys.length<=qb0) (t:Nat) :
  Inv X pins σ (upd H p (.lst ys)) {s with heap:=s.heap.update p f,toks:=t}:=by
 have e:(s.heap.update p f).get? p=some {cls:=.type "list",data:=.seq its'.toArray n'}:=by rw [qf2 f W (by rw [L]<;>rfl),L]
 refine I.write (x:=p) (e:=p) (by rw [h];trivial) (.inl rfl) (fun b u U q=>(qm9 _ _ (ql2 U)).trans q) ⟨_,e⟩ ?_;exact ⟨O,its',n',r,e⟩
noncomputable def Cs:V->V->V->Hp->(Hp->Prop)->Prop:=fun o i v H Q=>∃ p xs k j,o=.ref p/\i=.int k/\H p=some (.lst xs)/\ixN xs.length k=some j/\Q (upd H p (.lst (xs.set j v)))
theorem uT:PSet X Cs:=by
 intro pins s σ H o i v ov iv u Q I ro ri rv h;obtain ⟨p,xs,k,j,rfl,rfl,hp,hj,q⟩:=h;cases ro;obtain ⟨t,rfl⟩:=ri;obtain ⟨its,n,r,ho,hz⟩:=I.lst hp;obtain ⟨h1,h2,h3,h4⟩:=rb hj;have hl:=r.length;have hn:=jb
 have I':Inv X pins σ (upd H p (.lst (xs.set j v))) {s with heap:=s.heap.update p (qp0 (·.setIfInBounds j u))}:=I.lstUpd hp ho (p6 its n j u) (r.set rv j) (by rw [za1];exact hz) s.toks
 by_cases h0:0<=k
 . have hk:k.toNat=j:=by rw [seqIndex_of h0 h4] at h1;exact qe9 h1
   exact PySem.W.ki_setAt ho h0 (by lia) (by rw [qb5,<- hl];exact h4) (by rw [hk];exact ⟨_,I',q⟩)
 . have hk:(k+(its.toArray.size:Int)).toNat=j:=by rw [seqIndex_neg (by lia) h3] at h1;rw [qb5,<- hl];exact qe9 h1
   exact PySem.W.ki_setBack ho (by lia) (by rw [qb5,<- hl];exact h3) (by lia) (by rw [hk];exact ⟨_,I',q⟩)
theorem mP (lo hi:Option Int) (n:Nat):(qq9 lo hi none n).1=((HT.sIx n 0 lo:Nat):Int)/\(qq9 lo hi none n).2.1=((HT.sIx n n hi:Nat):Int)/\(qq9 lo hi none n).2.2=1:=by
 refine ⟨?_,?_,rfl⟩
 . cases lo with
   | none=>simp [qq9,HT.sIx]
   | some i =>
    simp only [qq9,HT.sIx,Option.getD_none,show (1:Int) > 0 by decide,if_true];by_cases h:i<0
    . simp only [h,if_true]<;>lia
    . simp only [h,if_false]<;>lia
 . cases hi with
   | none=>simp [qq9,HT.sIx]
   | some i =>
    simp only [qq9,HT.sIx,Option.getD_none,show (1:Int) > 0 by decide,if_true];by_cases h:i<0
    . simp only [h,if_true]<;>lia
    . simp only [h,if_false]<;>lia
theorem lm (its:List Value) (lo hi:Option Int):slicePick its.toArray lo hi none=((its.drop (HT.sIx its.length 0 lo)).take (HT.sIx its.length its.length hi-HT.sIx its.length 0 lo)).toArray:=by obtain ⟨h1,h2,h3⟩:=mP lo hi its.toArray.size;unfold slicePick;rw [h1,h2,h3];simp only [sliceRange_one,pick_run,qb5]<;>rfl
noncomputable def rSlL (K:PySem.W.Frag):V->Option Int->Option Int->Hp->VK->Prop:=fun x lo hi H Q=>∃ a xs,x=.ref a/\SqL K H a xs/\∀ p,H p=none->Q (.ref p) (upd H p (.lst (nX xs lo hi)))
theorem xE:SlR X (rSlL X.K):=by intro pins s σ H x v vl vu lo hi sl Q I U Y pl pu h;obtain ⟨a,xs,rfl,W,q⟩:=h;cases U;obtain ⟨its,r,O,Z⟩:=I.list W;have L:=r.length;refine ⟨"list",_,slot_list_getitem.lookup,O.isList.typeIs,?_⟩;refine wpAny_getItem_list_slice O.isList Y pl pu .none (by simp) ?_ (by rw [qb5]<;>lia);rw [lm,<- L];refine ⟨.ref s.heap.objs.size,_,I.laid (t':=s.toks) (o:=.lst (nX xs lo hi)) (fun b ob q=>gP _ q) (nL _) ?_,rfl,q _ (I.hok.fresh (nL _))⟩;exact ⟨qc7 (jr xs lo hi) Z,_,0,(r.drop (HT.sIx xs.length 0 lo)).take (HT.sIx xs.length xs.length hi-HT.sIx xs.length 0 lo),qb3 _ rfl⟩
noncomputable def ig:V->Bool
 | .non=>true
 | .bl _=>true
 | .int _=>true
 | .str _=>true
 | _=>false
noncomputable def eqV:V->V->Bool
 | .non,.non=>true
 | .bl a,.bl b=>a==b
 | .bl a,.int b=>(if a then 1 else 0)==b
 | .int a,.bl b=>a==(if b then 1 else 0)
 | .int a,.int b=>a==b
 | .str a,.str b=>a==b
 | _,_=>false
theorem jd (L:RelV y u) (q:RelV x v) (O:ig y=true) (fx:ig x=true):qf6 A s u v (eqV y x):=by
 cases y with
 | non =>
  cases L;cases x with
  | non=>cases q;exact za2 _
  | bl b=>cases q;exact qf6.none_bool b
  | int b=>obtain ⟨t,rfl⟩:=q;exact qf6.none_int b t
  | str b=>obtain ⟨t,rfl⟩:=q;exact qf6.none_str b t
  | _=>exact absurd (show false=true from fx) qb9
 | bl a =>
  cases L;cases x with
  | non=>cases q;exact qf6.bool_none a
  | bl b=>cases q;exact qf6.bool_bool a b
  | int b=>obtain ⟨t,rfl⟩:=q;exact qf6.bool_int a b t
  | str b=>obtain ⟨t,rfl⟩:=q;exact qf6.bool_str a b t
  | _=>exact absurd (show false=true from fx) qb9
 | int a =>
  obtain ⟨t',rfl⟩:=L;cases x with
  | non=>cases q;exact qf6.int_none a t'
  | bl b=>cases q;exact qf6.int_bool a t' b
  | int b=>obtain ⟨t,rfl⟩:=q;exact qf6.int_int a t' b t
  | str b=>obtain ⟨t,rfl⟩:=q;exact qf6.int_str a t' b t
  | _=>exact absurd (show false=true from fx) qb9
 | str a =>
  obtain ⟨t',rfl⟩:=L;cases x with
  | non=>cases q;exact qf6.str_none a t'
  | bl b=>cases q;exact qf6.str_bool a t' b
  | int b=>obtain ⟨t,rfl⟩:=q;exact qf6.str_int a t' b t
  | str b=>obtain ⟨t,rfl⟩:=q;exact qf6.str_str a t' b t
  | _=>exact absurd (show false=true from fx) qb9
 | _=>exact absurd (show false=true from O) qb9
noncomputable def eqU (x:V) (u:Value):Bool:=match u with
 | .none=>eqV .non x
 | .bool b=>eqV (.bl b) x
 | .int i _=>eqV (.int i) x
 | .str z _=>eqV (.str z) x
 | _=>false
theorem uU (r:RelV y u) (f:ig y=true):eqU x u=eqV y x:=by
 cases y with
 | non=>cases r;rfl
 | bl b=>cases r;rfl
 | int i=>obtain ⟨t,rfl⟩:=r;rfl
 | str z=>obtain ⟨t,rfl⟩:=r;rfl
 | _=>exact absurd (show false=true from f) qb9
theorem iD:∀ {xs:List V} {us:List Value},Vals xs us->xs.all ig=true->us.any (eqU x)=xs.any fun y=>eqV y x
 | _,_,.nil,_=>rfl
 | y::xs,u::us,.cons r t,f=>by rw [qk4,qb4] at f;rw [qi2,qi2,uU r f.1,iD t f.2]
theorem gt (L:RelV x v) (fx:ig x=true):∀ {xs:List V} {us:List Value},Vals xs us->xs.all ig=true->∀ u∈us,qf6 A s u v (eqU x u)
 | _,_,.nil,_=>fun u q=>by cases q
 | y::xs,u::us,.cons r t,f=>fun O q=>by
  rw [qk4,qb4] at f;rcases qb2.mp q with rfl | q
  . rw [uU r f.1];exact jd r L f.1 fx
  . exact gt L fx t f.2 O q
noncomputable def inV (x:V) (xs:List V):Bool:=xs.any fun y=>eqV y x
noncomputable def rIn (K:PySem.W.Frag) (neg:Bool):R2:=fun x y H Q=>∃ p xs,y=.ref p/\(SqL K H p xs∨SqT K H p xs)/\ig x=true/\xs.all ig=true/\Q (.bl (if neg then !inV x xs else inV x xs)) H
theorem sY:OpR X (qe6 .In) (rIn X.K false):=by
 intro pins s σ H x y v u Q I W Z h;obtain ⟨p,xs,rfl,L,fx,fs,q⟩:=h;cases Z;rcases L with L | L
 . obtain ⟨its,r,U,Y⟩:=I.list L;refine SeqAt.in_listAt (eqU x) U.isList (fun w O=>gt W fx r fs w (by simpa using O)) ⟨.bl _,H,I,rfl,?_⟩;rw [show its.toArray.any (eqU x)=its.any (eqU x) by simp,iD r fs];exact q
 . obtain ⟨its,r,U,Y⟩:=I.tuple L;refine SeqAt.in_tupleAt (eqU x) U (fun w O=>gt W fx r fs w (by simpa using O)) ⟨.bl _,H,I,rfl,?_⟩;rw [show its.toArray.any (eqU x)=its.any (eqU x) by simp,iD r fs];exact q
theorem mQ:OpR X (qe6 .NotIn) (rIn X.K true):=by
 intro pins s σ H x y v u Q I W Z h;obtain ⟨p,xs,rfl,L,fx,fs,q⟩:=h;cases Z;rcases L with L | L
 . obtain ⟨its,r,U,Y⟩:=I.list L;refine SeqAt.notIn_listAt (eqU x) U.isList (fun w O=>gt W fx r fs w (by simpa using O)) ⟨.bl _,H,I,rfl,?_⟩;rw [show its.toArray.any (eqU x)=its.any (eqU x) by simp,iD r fs];exact q
 . obtain ⟨its,r,U,Y⟩:=I.tuple L;refine SeqAt.notIn_tupleAt (eqU x) U (fun w O=>gt W fx r fs w (by simpa using O)) ⟨.bl _,H,I,rfl,?_⟩;rw [show its.toArray.any (eqU x)=its.any (eqU x) by simp,iD r fs];exact q
theorem mR:OpR X (qe6 .NotIn) (fun x y H Q=>∃ i j,x=.str i/\y=.str j/\Q (.bl (!(!(qp5 j i 0 j.length 1).isEmpty))) H):=by intro pins s σ H x y v u Q I L O h;obtain ⟨i,j,rfl,rfl,q⟩:=h;obtain ⟨t,rfl⟩:=L;obtain ⟨t',rfl⟩:=O;exact notIn_str ⟨.bl _,H,I,rfl,q⟩
theorem CallR.or {f:Value} {r r':List V->Hp->VK->Prop} (h:CallR X f r) (h':CallR X f r'):CallR X f (fun xs H Q=>r xs H Q∨r' xs H Q):=by
 intro pins s σ H xs us Q I L q;rcases q with q | q
 . exact h pins s σ H xs us Q I L q
 . exact h' pins s σ H xs us Q I L q
theorem bI:CallR X (.type "tuple") (fun xs H Q=>∃ p ys,xs=[.ref p]/\((SqL X.K H p ys/\∀ l,H l=none->Q (.ref l) (upd H l (.tup ys)))∨(SqT X.K H p ys/\Q (.ref p) H))):=by
 intro pins s σ H xs us Q I r h;obtain ⟨p,ys,rfl,h⟩:=h;obtain ⟨u,rfl,rx⟩:=fM r;cases rx;rcases h with ⟨L,q⟩ | ⟨L,q⟩
 . obtain ⟨its,r',O,Y⟩:=I.list L;have W:=r'.length;refine call_tuple_list O.isList (fun h' kp=>?_) (by simp only [qb5]<;>lia);have U:Inv X pins σ H {s with heap:=h'}:=I.kept (t':=s.toks) kp
   have Z:Inv X pins σ (upd H h'.objs.size (.tup ys)) {s with heap:=h'.push {cls:=.type "tuple",data:=.seq its.toArray}}:=U.laid (t':=s.toks) (fun b o e=>gP _ e) (nL _) (show ObjOk X.prog X.w _ _ _ (.tup ys) from ⟨Y,its,r',IsTup.new _ _⟩)
   exact ⟨.ref h'.objs.size,_,Z,rfl,q _ (U.hok.fresh (nL _))⟩
 . obtain ⟨its,r',O,Y⟩:=I.tuple L;exact call_tuple_same O ⟨.ref p,H,I,rfl,q⟩
noncomputable def tyV (K:PySem.W.Frag) (T:String) (x:V) (H:Hp):Prop:=match x with
 | .str _=>T="str"
 | .int _=>T="int"
 | .ref p=>(T="list"/\∃ xs,SqL K H p xs)∨(T="tuple"/\∃ o,K.lookup p=some o/\o.cls=.type "tuple"/\o.dict=none)∨(T="dict"/\((∃ kvs,H p=some (.dK kvs))∨∃ kvs,H p=some (.dT kvs)))∨(T="set"/\∃ S n,H p=some (.set S n))
 | _=>False
theorem uV {T:String} (I:Inv X pins σ H s) (r:RelV x v) (ty:tyV X.K T x H) :
  s.TypeIs v T/\∀ a,v=.ref a->∃ ob,s.heap.get? a=some ob/\ob.dict=none:=by
 cases x with
 | str z =>obtain ⟨t,rfl⟩:=r;cases (show T="str" from ty);exact ⟨typeIs_str s z t,fun _ e=>nomatch e⟩
 | int i =>obtain ⟨t,rfl⟩:=r;cases (show T="int" from ty);exact ⟨typeIs_int s i t,fun _ e=>nomatch e⟩
 | ref p =>
  cases r;rcases ty with ⟨rfl,xs,W⟩ | ⟨rfl,o,q,U,L⟩ | ⟨rfl,q⟩ | ⟨rfl,S,n,q⟩
  . obtain ⟨its,_,O,_⟩:=I.list W;refine ⟨O.isList.typeIs,fun a e=>?_⟩;cases e;obtain ⟨o,n,e,c,L,_⟩:=O;exact ⟨o,e,L⟩
  . refine ⟨⟨o,I.kIn p o q,U⟩,fun a e=>?_⟩;cases e;exact ⟨o,I.kIn _ o q,L⟩
  . have z:∃ o,s.heap.get? p=some o/\o.ExactDict:=by
     rcases q with ⟨kvs,q⟩ | ⟨kvs,q⟩
     . obtain ⟨_,_,_,_,o,_,_,e,ex,_⟩:=I.hok p _ q;exact ⟨o,e,ex⟩
     . obtain ⟨_,_,_,_,o,_,_,e,ex,_⟩:=I.hok p _ q;exact ⟨o,e,ex⟩
    obtain ⟨o,e,ex⟩:=z;refine ⟨⟨o,e,ex.1⟩,fun a e2=>?_⟩;cases e2;exact ⟨o,e,ex.2.1⟩
  . obtain ⟨o,_,_,_,e,ex,_⟩:=I.hok p _ q;refine ⟨⟨o,e,ex.1⟩,fun a e2=>?_⟩;cases e2;exact ⟨o,e,ex.2.1⟩
 | _=>exact ql3 ty
noncomputable def tBM0 (K:PySem.W.Frag) (T:String) (r:V->List V->Hp->VK->Prop) (to:TE):TE:=fun σ H Q=>to σ H fun x H1=>tyV K T x H1/\r x [] H1 Q
noncomputable def tBM (K:PySem.W.Frag) (T:String) (r:V->List V->Hp->VK->Prop) (to:TE) (t:TA):TE:=fun σ H Q=>to σ H fun x H1=>tyV K T x H1/\t σ H1 fun xs H2=>r x xs H2 Q
variable {o e:Expr} {es:List Expr} {to:TE} {t:TA} {name:Str} {apos cpos:Pos} {T id:String} {r:V->List V->Hp->VK->Prop}
theorem AG (Y:PlainAttrs T) (slot:Slot T name id) (O:typeOf (.builtin id)=pure (.type "method_descriptor")) (hm:MtR X id r) (Z:PE X o to)
  (L:qk5 o name X.env (eval o X.env)=eval o X.env:=by rfl) (q:(apos.endLine==cpos.line)=true:=by rfl):PE X (.Call (.Attribute o name apos) [] [] cpos) (tBM0 X.K T r to):=by
 intro pins s σ H Q I h;refine wpAny_Call_method0_late L q (thn (Z pins s σ H _ I h) fun v s1 ⟨x,H1,W,U,ty,q1⟩=>?_);obtain ⟨h1,h2⟩:=uV W U ty;exact ⟨T,id,Y,slot,O,h1,h2,qz1 rfl (PySem.evalArgs_none (hm pins s1 σ H1 x [] v [] Q W U .nil q1))⟩
theorem nY (pa:PlainAttrs T) (slot:Slot T name id) (W:typeOf (.builtin id)=pure (.type "method_descriptor")) (hm:MtR X id r) (ho:PE X o to) (ha:PA X (e::es) t)
  (O:qk5 o name X.env (eval o X.env)=eval o X.env:=by rfl)
  (U:((qh9 cpos (qa6 (e::es) X.env)).all (fun x=>!x.1)&&(zb2 cpos (qr0 [] X.env)).all (fun x=>x.1.isSome)
   && decide ((e::es).length+([]:List qp6).length+(if ([]:List qp6).isEmpty then 0 else 1)<30))=true:=by rfl)
  (L:(apos.endLine==cpos.line)=true:=by rfl) (hs:qa6 (e::es) X.env=(false,eval e X.env)::qa6 es X.env:=by rfl) (q:(qh9 cpos (qa6 es X.env)).any (·.1)=false:=by rfl) :
  PE X (.Call (.Attribute o name apos) (e::es) [] cpos) (tBM X.K T r to t):=by
 intro pins s σ H Q I h;refine wpAny_Call_method_late O U L rfl (thn (ho pins s σ H _ I h) fun v s1 ⟨x,H1,Y,r1,ty,q1⟩=>?_);obtain ⟨h1,h2⟩:=uV Y r1 ty;refine ⟨T,id,pa,slot,W,h1,h2,?_⟩;have Z:=ha cpos pins s1 σ H1 _ Y q1;rw [hs] at Z ⊢;refine qz1 (by show (false||(qh9 cpos (qa6 es X.env)).any (·.1))=false;rw [q]<;>rfl) (Calls.evalArgs_plain ?_);exact thn Z fun us s2 ⟨vs,H2,I2,r2,q2⟩=>hm pins s2 σ H2 x vs v us Q I2 r1 r2 q2
/- xs.append(e),list.index on a module's tuple .. are MtR facts of 06m -/
end
noncomputable def MtM (X:Cx) (id:String) (r:V->List V->Hp->VK->Prop):Prop:=
 ∀ (pins:List (Addr×Obj)) (s:qa4) (σ:St) (H:Hp) (x:V) (xs:List V) (v:Value) (us:List Value) (Q:VK),Inv X pins σ H s->RelV x v->Vals xs us->r x xs H Q→
  wpAny (model X.prog X.w) X.A (call (.builtin id) (v::us)) (EP X pins σ Q) X.xe s
theorem Vals.one:∀ {x:V} {us:List Value},Vals [x] us->∃ u,us=[u]/\RelV x u
 | _,_,.cons r .nil=>⟨_,rfl,r⟩
theorem Vals.zero:∀ {us:List Value},Vals [] us->us=[]
 | _,.nil=>rfl
theorem Vals.dropLast (h:Vals xs us):Vals xs.dropLast us.dropLast:=by
 induction h with
 | nil=>exact .nil
 | cons r t L =>
  cases t with
  | nil=>exact .nil
  | cons q t'=>exact .cons r L
theorem p7 {α:Type} (l:List α):l.eraseIdx (l.length-1)=l.dropLast:=by
 induction l with
 | nil=>rfl
 | cons a r q =>
  cases r with
  | nil=>rfl
  | cons b r =>
   have e:(a::b::r).length-1=((b::r).length-1)+1:=by have h1:(a::b::r).length=r.length+2:=rfl;have h2:(b::r).length=r.length+1:=rfl;lia
   rw [e,List.eraseIdx_cons_succ,q]
   all_goals rfl
variable {t':Nat}
section
variable {X:Cx} {pins:List (Addr×Obj)} {σ:St} {H:Hp} {s:qa4} {l b:Addr} {xs ys zs:List V}
theorem Inv.lset {f:Array Value->Array Value} (I:Inv X pins σ H s) (U:H l=some (.lst xs))
 (e:s.heap.get? l=some {cls:=.type "list",data:=.seq its.toArray n}) (Y:f its.toArray=its'.toArray) (W:Vals ys its') (O:ys.length<=qb0) :
  Inv X pins σ (upd H l (.lst ys)) {s with heap:=s.heap.update l (qp0 f),toks:=t'}:=by
 have q:=PySem.IsL.update e f;rw [Y] at q;refine I.write (x:=l) (e:=l) (by rw [U];exact trivial) (.inl rfl) (fun b' u Z L=>(qm9 s.heap (qp0 f) (ql2 Z)).trans L) ⟨_,q⟩ ?_;exact ⟨O,its',_,W,q⟩
theorem Inv.lnew (I:Inv X pins σ H s) (L:Vals ys its) (O:ys.length<=qb0) :
  Inv X pins σ (upd H s.heap.objs.size (.lst ys)) {s with heap:=s.heap.push {cls:=.type "list",data:=.seq its.toArray},toks:=t'}:=
 I.laid (fun _ _ q=>gP _ q) (nL _) ⟨O,its,0,L,qb3 _ rfl⟩
theorem Inv.fresh (I:Inv X pins σ H s):H s.heap.objs.size=none:=I.hok.fresh (nL _)
theorem Inv.lstM (I:Inv X pins σ H s) (q:H l=some (.lst xs)):xs.length<=qb0/\∃ (its:List Value) (n:Nat),Vals xs its/\xs.length=its.length/\s.heap.get? l=some {cls:=.type "list",data:=.seq its.toArray n}:=by obtain ⟨z,its,n,r,e⟩:=I.hok l _ q;exact ⟨z,its,n,r,r.length,e⟩
theorem uW (h:n<=qb0):qp1 n=false:=by unfold qp1;exact decide_eq_false (by lia)
end
section
variable {X:Cx}
noncomputable def xF:V->List V->Hp->VK->Prop:=fun x vs H Q=>∃ l xs y,x=.ref l/\vs=[y]/\H l=some (.lst xs)/\xs.length<qb0/\Q .non (upd H l (.lst (xs++[y])))
theorem g5:MtM X "list.append" xF:=by intro pins s σ H x vs v us Q I O U h;obtain ⟨l,xs,y,rfl,rfl,L,Y,q⟩:=h;cases O;obtain ⟨u,rfl,W⟩:=U.one;obtain ⟨z,its,n,r,Z,e⟩:=I.lstM L;refine zd6 F.slot_list_append ⟨_,e,rfl⟩ F.entry_list_append (F.args_list_append_2 _ _) (PySem.list_append l its.toArray n u (by rw [qb5];lia)) ⟨e,?_⟩;refine ⟨.non,_,I.lset (its':=its++[u]) L e (by simp) (r.append (.cons W .nil)) ?_,rfl,q⟩;rw [qb8,qn1];lia
noncomputable def xG:V->List V->Hp->VK->Prop:=fun x vs H Q=>∃ l b xs zs,x=.ref l/\vs=[.ref b]/\H l=some (.lst xs)/\H b=some (.lst zs)/\xs.length+zs.length<=qb0/\Q .non (upd H l (.lst (xs++zs)))
theorem sZ:MtM X "list.extend" xG:=by
 intro pins s σ H x vs v us Q I Y rv h;obtain ⟨l,b,xs,zs,rfl,rfl,W,hB,hz,q⟩:=h;cases Y;obtain ⟨u,rfl,ru⟩:=rv.one;cases ru;obtain ⟨z,its,n,r,hl,e⟩:=I.lstM W;obtain ⟨z2,L,n2,Z,hl2,e2⟩:=I.lstM hB;have U:its.toArray.size+L.toArray.size<=qb0:=by rw [qb5,qb5];lia
 have O:¬ (!its.toArray.isEmpty&&qp1 (its.toArray.size+L.toArray.size))=true:=by rw [uW U,qv1];exact qb9
 refine zd6 F.slot_list_extend ⟨_,e,rfl⟩ F.entry_list_extend (F.args_list_extend_2 _ _)
  (AutoSeq1.list_extend_list_list_0 l its.toArray n b L.toArray n2 O (by rw [qb5];lia) (by lia)) ⟨e,e2,?_⟩
 refine ⟨.non,_,I.lset (its':=its++L) W e (by simp) (r.append Z) ?_,rfl,q⟩;rw [qb8];lia
noncomputable def rPop:V->List V->Hp->VK->Prop:=fun x vs H Q=>∃ l xs y,x=.ref l/\vs=[]/\H l=some (.lst xs)/\xs[xs.length-1]?=some y/\Q y (upd H l (.lst xs.dropLast))
theorem AH:MtM X "list.pop" rPop:=by
 intro pins s σ H x vs v us Q I W Y h;obtain ⟨l,xs,y,rfl,rfl,U,hy,q⟩:=h;cases W;have L:=Y.zero;subst L;obtain ⟨z,its,n,r,hl,e⟩:=I.lstM U;obtain ⟨u,Z,ru⟩:=r.get hy
 have O:its.toArray[its.toArray.size-1]?=some u:=by show its.toArray[its.length-1]?=some u;rw [<- qr5,<- hl];exact Z
 refine zd6 F.slot_list_pop ⟨_,e,rfl⟩ F.entry_list_pop (F.args_list_pop_1 _) (MeetsSeq.list_pop_last l its.toArray n u O (by rw [qb5];lia)) ⟨e,?_⟩;refine ⟨y,_,I.lset (its':=its.dropLast) U e ?_ r.dropLast ?_,ru,q⟩
 . show its.toArray.eraseIdxIfInBounds (its.toArray.size-1)=its.dropLast.toArray;rw [qb5,List.eraseIdxIfInBounds_toArray,p7]
 . rw [List.length_dropLast];lia
end
section
variable {prog:qc4} {w:World} {A:qd9} {E:Value->qa4->Prop} {s:qa4}
end
section
variable {X:Cx}
end
variable {o:Option V}
section
variable {κ:Type} [DecidableEq κ]
noncomputable def fG (kvs:List (κ×V)) (k:κ):Option V:=(kvs.find? fun kv=>decide (kv.1=k)).map (·.2)
noncomputable def fu (kvs:List (κ×V)) (k:κ) (v:V):List (κ×V):=if (kvs.any fun kv=>decide (kv.1=k))=true then kvs.map (fun kv=>if kv.1=k then (kv.1,v) else kv) else kvs++[(k,v)]
theorem gu {p:κ×V} {r:List (κ×V)} {k:κ} (e:p.1=k):fG (p::r) k=some p.2:=by simp [fG,qn2,e]
theorem fN {p:κ×V} {r:List (κ×V)} {k:κ} (e:¬ p.1=k):fG (p::r) k=fG r k:=by simp [fG,qn2,e]
theorem nZ (k:κ):∀ kvs:List (κ×V),(kvs.any fun kv=>decide (kv.1=k))=(fG kvs k).isSome
 | []=>rfl
 | p::r=>by
  rw [qi2];by_cases e:p.1=k
  . simp only [gu e,decide_eq_true e,Bool.true_or,Option.isSome_some]
  . rw [fN e,decide_eq_false e,zd1];exact nZ k r
theorem jt (kvs:List (κ×V)) (k:κ) (v:V):(fu kvs k v).length<=kvs.length+1:=by
 unfold fu;split
 . rw [qa2];lia
 . rw [qb8,qc8,qg2];lia
theorem RelO.isSome_eq {u:Option Value} (r:RelO o u):o.isSome=u.isSome:=by
 cases o with
 | none=>cases u with
  | none=>rfl
  | some _=>exact (show False from r).elim
 | some _=>cases u with
  | none=>exact (show False from r).elim
  | some _=>rfl
theorem RelO.getD {u:Option Value} {d:V} {d':Value} (r:RelO o u) (rd:RelV d d'):RelV (o.getD d) (u.getD d'):=by
 cases o with
 | none=>cases u with
  | none=>exact rd
  | some _=>exact (show False from r).elim
 | some _=>cases u with
  | none=>exact (show False from r).elim
  | some _=>exact r
theorem KV.val {kvs:List (κ×V)} {vs:List (κ×Value)} (r:KV kvs vs) (k:κ):RelO (fG kvs k) (zc1 vs k):=by
 unfold KV at r;induction r with
 | nil=>exact qo9
 | @cons p q ps qs h t O =>
  obtain ⟨h1,h2⟩:=h;by_cases e:p.1=k
  . have L:q.1=k:=h1.symm.trans e;have b:zc1 (q::qs) k=some q.2:=by simp [zc1,qn2,L]
    rw [gu e,b];exact h2
  . have L:¬ q.1=k:=fun z=>e (h1.trans z)
    have b:zc1 (q::qs) k=zc1 qs k:=by simp [zc1,qn2,L]
    rw [fN e,b];exact O
theorem KV.any {kvs:List (κ×V)} {vs:List (κ×Value)} (r:KV kvs vs) (k:κ):(kvs.any fun kv=>decide (kv.1=k))=vs.any fun kv=>decide (kv.1=k):=by
 unfold KV at r;induction r with
 | nil=>rfl
 | cons h t q=>rw [qi2,qi2,q,h.1]
theorem KV.repl {kvs:List (κ×V)} {vs:List (κ×Value)} (r:KV kvs vs) (k:κ) (O:RelV y u) :
  KV (kvs.map fun kv=>if kv.1=k then (kv.1,y) else kv) (vs.map fun kv=>if kv.1=k then (kv.1,u) else kv):=by
 unfold KV at r ⊢;induction r with
 | nil=>exact .nil
 | @cons p q ps qs h t L =>
  rw [qa3,qa3];refine .cons ?_ L;obtain ⟨h1,h2⟩:=h;by_cases e:p.1=k
  . rw [if_pos e,if_pos (h1.symm.trans e)];exact ⟨h1,O⟩
  . rw [if_neg e,if_neg (fun z=>e (h1.trans z))];exact ⟨h1,h2⟩
theorem KV.put {kvs:List (κ×V)} {vs:List (κ×Value)} (r:KV kvs vs) (k:κ) (q:RelV y u):KV (fu kvs k y) (stored vs k u):=by
 unfold fu stored;rw [r.any k];by_cases e:(vs.any fun kv=>decide (kv.1=k))=true
 . rw [if_pos e,if_pos e];exact r.repl k q
 . rw [if_neg e,if_neg e];exact Paired.snoc r ⟨rfl,q⟩
theorem KV.keys {kvs:List (κ×V)} {vs:List (κ×Value)} (r:KV kvs vs):kvs.map (·.1)=vs.map (·.1):=by
 unfold KV at r;induction r with
 | nil=>rfl
 | cons h t q=>rw [qa3,qa3,q,h.1]
theorem KV.length {kvs:List (κ×V)} {vs:List (κ×Value)} (r:KV kvs vs):kvs.length=vs.length:=Paired.length r
end
variable {P:qc4} {w:World}
theorem jZ {k:Key} (r:RelV (kV k) u):(bZ P w).is k u=true:=by
 cases k with
 | inl i=>obtain ⟨t,e⟩:=(show ∃ t,u=ze7 i t from r);subst e;exact nQ P w i t
 | inr x=>obtain ⟨t,e⟩:=(show ∃ t,u=ze8 x t from r);subst e;exact gr P w x t
theorem lG:∀ {ks:List Key} {us:List Value},Vals (ks.map kV) us->ItemsAre (bZ P w) ks us
 | [],_,r=>by rw [qm3] at r;cases r;exact .nil
 | k::ks,_,r=>by
  rw [qa3] at r;cases r with
  | cons h t=>exact .cons (jZ h) (lG t)
abbrev KT (H:Hp):List (List Key×V)->List (List Key×Addr×Value)->Prop:=Paired fun p q=>p.1=q.1/\H q.2.1=some (.tup (p.1.map kV))/\RelV p.2 q.2.2
variable {kvs:List (List Key×V)}
theorem KT.val {xs:List (List Key×Addr×Value)} (r:KT H kvs xs) (k:List Key):RelO (fG kvs k) ((atKey xs k).map (·.2)):=by
 induction r with
 | nil=>exact qo9
 | @cons p q ps qs h t O =>
  obtain ⟨h1,_,h2⟩:=h;by_cases e:p.1=k
  . have L:q.1=k:=h1.symm.trans e;have b:atKey (q::qs) k=some q.2:=by simp [atKey,qn2,L]
    rw [gu e,b];exact h2
  . have L:¬ q.1=k:=fun z=>e (h1.trans z)
    have b:atKey (q::qs) k=atKey qs k:=by simp [atKey,qn2,L]
    rw [fN e,b];exact O
theorem KT.repl {xs:List (List Key×Addr×Value)} (r:KT H kvs xs) (k:List Key) (O:RelV y u) :
  KT H (kvs.map fun kv=>if kv.1=k then (kv.1,y) else kv) (xs.map (putAt k u)):=by
 induction r with
 | nil=>exact .nil
 | @cons p q ps qs h t L =>
  rw [qa3,qa3];refine .cons ?_ L;obtain ⟨h1,h2,h3⟩:=h;unfold putAt;by_cases e:p.1=k
  . rw [if_pos e,if_pos (h1.symm.trans e)];exact ⟨h1,h2,O⟩
  . rw [if_neg e,if_neg (fun z=>e (h1.trans z))];exact ⟨h1,h2,h3⟩
theorem KT.put {xs:List (List Key×Addr×Value)} (r:KT H kvs xs) (k:List Key) {b:Addr} (O:H b=some (.tup (k.map kV))) (L:RelV y u) :
  KT H (fu kvs k y) (storedH xs k b u):=by
 have e:(kvs.any fun kv=>decide (kv.1=k))=(atKey xs k).isSome:=by rw [nZ,(r.val k).isSome_eq,qw2]
 unfold fu storedH;rw [e];by_cases q:(atKey xs k).isSome=true
 . rw [if_pos q,if_pos q];exact r.repl k L
 . rw [if_neg q,if_neg q];exact Paired.snoc r ⟨rfl,O,L⟩
variable {H':Hp}
theorem KT.keeps {xs:List (List Key×Addr×Value)} (r:KT H kvs xs) (q:∀ b ys,H b=some (.tup ys)->H' b=some (.tup ys)):KT H' kvs xs:=Paired.mapP r fun _ _ z=>⟨z.1,q _ _ z.2.1,z.2.2⟩
section
variable {P:qc4} {w:World} {H:Hp} {h:Heap} {a:Addr}
theorem zm {u:HO} (ok:HOk P w H h) (e:Rd H a u):ObjOk P w H h a u:=e.ok ok
theorem j4 {kvs:List (Key×V)} (ok:HOk P w H h) (e:Rd H a (.dK kvs)):kvs.length<=qb0/\(a==qi5)=false/\∃ vs,KV kvs vs/\h.DictOf (bZ P w) a vs:=show ObjOk P w H h a (.dK kvs) from zm ok e
theorem Ct {kvs:List (Key×V)} (ok:HOk P w H h) (e:H a=some (.dK kvs)):kvs.length<=qb0/\(a==qi5)=false/\∃ vs,KV kvs vs/\h.DictOf (bZ P w) a vs:=j4 ok (.inl e)
theorem j5 {ks:List Key} (ok:HOk P w H h) (e:H a=some (.tup (ks.map kV))):(zc5 (bZ P w)).is h ks a:=by obtain ⟨_,its,r,o,h1,h2,n,h3⟩:=(show ObjOk P w H h a (.tup (ks.map kV)) from ok a _ e);exact ⟨o,its.toArray,n,h1,h2,h3,by simpa using lG r⟩
theorem n4 (ok:HOk P w H h) (e:Rd H a (.dT kvs)):kvs.length<=qb0/\(a==qi5)=false∧
  ∃ xs,KT H kvs xs/\h.DictOfH (zc5 (bZ P w)) a xs:=by
 obtain ⟨z,y,xs,r,o,es,ep,h1,h2,h3,U,W⟩:=(show ObjOk P w H h a (.dT kvs) from zm ok e);refine ⟨z,y,xs,r,o,es,ep,h1,h2,h3,U,fun x L=>?_,W⟩
 have all:∀ {l:List (List Key×V)} {m:List (List Key×Addr×Value)},KT H l m->∀ x∈m,(zc5 (bZ P w)).is h x.1 x.2.1:=by
  intro l m q;induction q with
  | nil=>intro x L;exact nomatch L
  | @cons p q ps qs O t Y =>
   intro x L;rcases qb2.mp L with e | L
   . subst e;exact j5 ok (by rw [<- O.1];exact O.2.1)
   . exact Y x L
 exact all r x L
theorem Cu (ok:HOk P w H h) (e:H a=some (.dT kvs)):kvs.length<=qb0/\(a==qi5)=false∧∃ xs,KT H kvs xs/\h.DictOfH (zc5 (bZ P w)) a xs:=n4 ok (.inl e)
end
noncomputable def DGet (H:Hp) (a:Addr) (y:V) (r:Option V):Prop:=(∃ kvs k,Rd H a (.dK kvs)/\y=kV k/\r=fG kvs k)∨∃ kvs k b,Rd H a (.dT kvs)/\y=.ref b/\H b=some (.tup (k.map kV))/\r=fG kvs k
noncomputable def DPut (H:Hp) (a:Addr) (y v:V) (H':Hp):Prop:=
 (∃ kvs k,H a=some (.dK kvs)/\y=kV k/\kvs.length<qb0/\H'=upd H a (.dK (fu kvs k v)))∨
 ∃ kvs k b,H a=some (.dT kvs)/\y=.ref b/\H b=some (.tup (k.map kV))/\kvs.length<qb0/\H'=upd H a (.dT (fu kvs k v))
variable {a:Addr}
theorem DGet.k {kvs:List (Key×V)} {k:Key} (e:H a=some (.dK kvs)):DGet H a (kV k) (fG kvs k):=.inl ⟨kvs,k,.inl e,rfl,rfl⟩
theorem DPut.k {kvs:List (Key×V)} {k:Key} {v:V} (e:H a=some (.dK kvs)) (q:kvs.length<qb0):DPut H a (kV k) v (upd H a (.dK (fu kvs k v))):=.inl ⟨kvs,k,e,rfl,q,rfl⟩
variable {Q:Value->qa4->Prop} {h':Heap}
section
variable {X:Cx} {pins:List (Addr×Obj)} {σ:St} {H:Hp} {s:qa4} {a:Addr} {y v:V} {u r:Value} {o:Option V} {A:qd9} {E:Value->qa4->Prop}
theorem Inv.big (I:Inv X pins σ H s):qi5<s.heap.objs.size:=by have h:qc5<s.heap.objs.size:=(I.mod.glob.keeps I.bk).lt;exact za3 (by decide) h
theorem tf (hu:A.units+1<cLine) (I:Inv X pins σ H s) (g:DGet H a y (some v)) (ry:RelV y u) (h:∀ O s',Inv X pins σ H s'->RelV v O->Q O s') :
  wpAny (model X.prog X.w) A (zb9 (.ref a) u) Q E s:=by
 rcases g with ⟨kvs,k,e,W,l⟩ | ⟨kvs,k,b,e,W,eb,l⟩
 . subst W;obtain ⟨z,hd,vs,q,U⟩:=j4 I.hok e;obtain ⟨O,Z,L⟩:=RelO.some_of (v:=v) (o:=zc1 vs k) (by rw [l];exact q.val k);exact wpAny_getItem_of (jZ ry) U.mapOf Z (h O _ (I.tok _) L)
 . subst W;cases (show u=qg9 b from ry);obtain ⟨z,hd,xs,q,U⟩:=n4 I.hok e;obtain ⟨O,Z,L⟩:=RelO.some_of (v:=v) (o:=(atKey xs k).map (·.2)) (by rw [l];exact q.val k);obtain ⟨p,hp,Y⟩:=mS Z;refine wpAny_getItem_heap (qp8 hu) (j5 I.hok eb) U hp ?_;rw [Y];exact h O _ (I.tok _) L
theorem d_in (hu:A.units+1<cLine) (I:Inv X pins σ H s) (g:DGet H a y o) (Y:RelV y u) (h:∀ s',Inv X pins σ H s'->Q (.bool o.isSome) s') :
  wpAny (model X.prog X.w) A (qe6 .In u (.ref a)) Q E s:=by
 rcases g with ⟨kvs,k,e,U,l⟩ | ⟨kvs,k,b,e,U,Z,l⟩
 . subst U;obtain ⟨z,W,vs,L,O⟩:=j4 I.hok e;refine wpAny_in_of (jZ Y) W O.mapOf ?_;rw [<- (L.val k).isSome_eq,<- l];exact h _ (I.tok _)
 . subst U;cases (show u=qg9 b from Y);obtain ⟨z,W,xs,L,O⟩:=n4 I.hok e;refine wpAny_in_heap (qp8 hu) (j5 I.hok Z) W O ?_;have q:=(L.val k).isSome_eq;rw [qw2] at q;rw [<- q,<- l];exact h _ (I.tok _)
theorem xH (hu:A.units+1<cLine) (I:Inv X pins σ H s) (g:DGet H a y o) (Y:RelV y u) (h:∀ s',Inv X pins σ H s'->Q (.bool (!o.isSome)) s') :
  wpAny (model X.prog X.w) A (qe6 .NotIn u (.ref a)) Q E s:=by
 rcases g with ⟨kvs,k,e,U,l⟩ | ⟨kvs,k,b,e,U,Z,l⟩
 . subst U;obtain ⟨z,W,vs,L,O⟩:=j4 I.hok e;refine wpAny_notIn_of (jZ Y) W O.mapOf ?_;rw [<- (L.val k).isSome_eq,<- l];exact h _ (I.tok _)
 . subst U;cases (show u=qg9 b from Y);obtain ⟨z,W,xs,L,O⟩:=n4 I.hok e;refine wpAny_notIn_heap (qp8 hu) (j5 I.hok Z) W O ?_;have q:=(L.val k).isSome_eq;rw [qw2] at q;rw [<- q,<- l];exact h _ (I.tok _)
theorem rc {ob:HO} (I:Inv X pins σ H s) (O:Mut (H a)) (L:qn0 a s.heap h') (W:∃ q,h'.get? a=some q) (new:ObjOk X.prog X.w (upd H a ob) h' a ob) :
  Inv X pins σ (upd H a ob) {s with heap:=h',toks:=t'}:=
 I.write (x:=a) (e:=a) O (.inl rfl) (fun b q U z=>(L.2 b U).trans z) W new
theorem AI {kvs:List (Key×V)} {vs:List (Key×Value)} (z:kvs.length<=qb0) (L:(a==qi5)=false) (q:KV kvs vs) (O:h'.DictOf (bZ P w) a vs) :
  ObjOk P w H' h' a (.dK kvs):=⟨z,L,vs,q,O⟩
theorem tj {Q:Unit->qa4->Prop} (hu:A.units+1<cLine) (I:Inv X pins σ H s) (g:DPut H a y v H') (ry:RelV y u) (rv:RelV v r) (h:∀ s',Inv X pins σ H' s'->Q () s') :
  wpAny (model X.prog X.w) A (setItem (.ref a) u r) Q E s:=by
 rcases g with ⟨kvs,k,e,Z,l,eH⟩ | ⟨kvs,k,b,e,Z,eb,l,eH⟩
 . subst Z eH;obtain ⟨z,W,vs,L,Y⟩:=Ct I.hok e;have hz:vs.length<=qb0:=by rw [<- L.length];exact z
   have hl:(fu kvs k v).length<=qb0:=by have:=jt kvs k v;lia
   refine wpAny_setItem_pairs (hsz:=hz) (jZ ry) Y fun h' O hs=>h _ ?_
   have he:∃ q,h'.get? a=some q:=let ⟨q,_,_,U,_⟩:=O;⟨q,U⟩;exact rc I (by rw [e];exact qo9) hs he (AI hl W (L.put k rv) O)
 . subst Z eH;cases (show u=qg9 b from ry);obtain ⟨z,W,xs,L,Y⟩:=Cu I.hok e;have hz:xs.length<=qb0:=by rw [<- Paired.length L];exact z
   have hl:(fu kvs k v).length<=qb0:=by have:=jt kvs k v;lia
   refine wpAny_setItem_heap (hsz:=hz) (qp8 hu) (j5 I.hok eb) Y fun h' O hs=>h _ ?_
   obtain ⟨q,es,ep,U,h2,h3,h4,_,h5⟩:=O;refine rc I (by rw [e];exact qo9) hs ⟨q,U⟩ ⟨hl,W,_,(L.put k eb rv).keeps fun c ys ec=>?_,q,es,ep,U,h2,h3,h4,h5⟩;rw [aS (B9 ec e (fun z=>nomatch z))];exact ec
end
section
variable {X:Cx} {pins:List (Addr×Obj)} {σ:St} {H:Hp} {s:qa4} {a:Addr} {kvs:List (Key×V)} {k:Key} {u:Value} {A:qd9} {E:Value->qa4->Prop}
end
noncomputable def tm (i:Expr):Prop:=∀ L q,zc0 i false L q=operate [L,q] (zb9 L q)
theorem rf {prog:qc4} {E:Value->qa4->Prop} {env:Env} {value q:Expr} {pos:Pos} {T id:String} 
 (Z:typeLookup (.type T) "__getitem__"=pure (some (.builtin id))) (Y:tm q)
 (h:wpAny (model prog w) A (eval value env) (fun o O=>wpAny (model prog w) A (eval q env) (fun i s₂=>s₂.TypeIs o T/\wpAny (model prog w) A (zb9 o i) Q E s₂) E O) E s) :
  wpAny (model prog w) A (eval (.Subscript value q pos) env) Q E s:=by
 refine Subscript_ (qj9 h (fun o O U=>qj9 U (fun i s₂ L=>?_) fun _ _ x=>x) fun _ _ x=>x);obtain ⟨W,L⟩:=L;unfold zc9;refine wB ?_;rw [getitemInPython_of_ne W.not_modules];refine wB (wpAny_specialOf W Z ?_)
 have fin:wpAny (model prog w) A (zc0 q false o i) (fun r s₃=>wpAny (model prog w) A (letTemporaryGo value o r >>= fun _=>pure r) Q E s₃) E s₂:=by rw [Y o i];exact wpAny_operating (qj9 L (fun r s₃ h₃=>wB (wpAny_letTemporaryGo (qa5 h₃))) fun _ _ x=>x)
 first
  | exact qa5 (wB fin)
  | exact wB (qa5 (wB fin))
  | exact wB fin
theorem n5 {X:Cx} (I:Inv X pins σ H s) (g:DGet H a y o):s.TypeIs (.ref a) "dict":=by
 rcases g with ⟨kvs,k,e,_,_⟩ | ⟨kvs,k,b,e,_,_,_⟩
 . obtain ⟨_,_,vs,_,q⟩:=j4 I.hok e;exact q.typeIs
 . obtain ⟨_,_,xs,_,q⟩:=n4 I.hok e;exact q.typeIs
noncomputable def Cv (td ty:TE):TE:=fun σ H Q=>td σ H fun x H1=>ty σ H1 fun y H2=>∃ a v,x=.ref a/\DGet H2 a y (some v)/\Q v H2
noncomputable def tDIn (ty td:TE):TE:=fun σ H Q=>ty σ H fun y H1=>td σ H1 fun x H2=>∃ a o,x=.ref a/\DGet H2 a y o/\Q (.bl o.isSome) H2
noncomputable def rg (ty td:TE):TE:=fun σ H Q=>ty σ H fun y H1=>td σ H1 fun x H2=>∃ a o,x=.ref a/\DGet H2 a y o/\Q (.bl (!o.isSome)) H2
noncomputable def Cw (td ty tv:TE):TS:=fun D σ H=>tv σ H fun v H1=>td σ H1 fun x H2=>ty σ H2 fun y L=>∃ a q,x=.ref a/\DPut L a y v q/\D.nx σ q
section
variable {X:Cx} {o i e value:Expr} {pos pos' tpos:Pos} {td ty tv:TE}
theorem rh (W:X.A.units+1<cLine) (U:PE X o td) (hi:PE X i ty) (Z:tm i):PE X (.Subscript o i pos) (Cv td ty):=by intro pins s σ H Q I h;refine rf PySem.F.slot_dict_getitem.lookup Z (thn (U pins s σ H _ I h) fun u s1 ⟨x,H1,Y,O,q1⟩=>thn (hi pins s1 σ H1 _ Y q1) fun iv s2 ⟨y,H2,L,ry,a,v,ex,g,q2⟩=>?_);subst ex;obtain rfl:u=qg9 a:=O;exact ⟨n5 L g,tf W L g ry fun w' s3 I3 q=>⟨v,H2,I3,q,q2⟩⟩
theorem uX (W:X.A.units+1<cLine) (hi:PE X i ty) (U:PE X o td):PC X .In i o (tDIn ty td):=by
 intro pins s σ H Q I h;refine thn (hi pins s σ H _ I h) fun iv s1 ⟨y,H1,Y,ry,q1⟩=>thn (U pins s1 σ H1 _ Y q1) fun u s2 ⟨x,H2,L,q,a,O,ex,g,q2⟩=>?_
 subst ex;obtain rfl:u=qg9 a:=q;exact d_in W L g ry fun s3 Z=>⟨.bl O.isSome,H2,Z,rfl,q2⟩
theorem lH (W:X.A.units+1<cLine) (hi:PE X i ty) (U:PE X o td):PC X .NotIn i o (rg ty td):=by
 intro pins s σ H Q I h;refine thn (hi pins s σ H _ I h) fun iv s1 ⟨y,H1,Y,ry,q1⟩=>thn (U pins s1 σ H1 _ Y q1) fun u s2 ⟨x,H2,L,q,a,O,ex,g,q2⟩=>?_
 subst ex;obtain rfl:u=qg9 a:=q;exact xH W L g ry fun s3 Z=>⟨.bl (!O.isSome),H2,Z,rfl,q2⟩
theorem xI (U:X.A.units+1<cLine) (O:PE X o td) (hi:PE X i ty) (hv:PE X value tv) (hs:qm6 value (some (.Subscript o i pos')) pos.line X.env=pure false) :
  PS X (.Assign [.Subscript o i pos'] value pos) (Cw td ty tv):=by
 intro pins s σ H D I h;refine wpAny_Assign_Subscript (thn (hv pins s σ H _ I h) fun r s1 ⟨v,H1,Y,Z,q1⟩=>thn (O pins s1 σ H1 _ Y q1) fun u s2 ⟨x,H2,L,q,q2⟩=>thn (hi pins s2 σ H2 _ L q2) fun iv s3 ⟨y,H3,I3,ry,a,H4,ex,g,q3⟩=>?_) hs;subst ex;obtain rfl:u=qg9 a:=q;exact tj U I3 g ry Z fun s4 W=>⟨σ,H4,W,q3⟩
end
theorem uY (h:Heap) (q:qi5<h.objs.size):ObjOk P w H (h.push {cls:=.type "dict",data:=.dict #[]}) h.objs.size (.dK []):=⟨qj2 _,beq_eq_false_iff_ne.mpr (ql2 (qc2 q)),[],.nil,Heap.DictOf.new h⟩
noncomputable def AJ:TE:=fun _ H Q=>∀ p,H p=none->Q (.ref p) (upd H p (.dK []))
section
variable {X:Cx} {pos:Pos}
theorem uZ:PE X (.Dict [] [] pos) AJ:=fun pins s σ H Q I h =>wpAny_Dict_empty ⟨.ref s.heap.objs.size,_,I.laid (a:=s.heap.objs.size) (o:=.dK []) (t':=s.toks) (fun _ _ q=>gP _ q) (nL _) (uY s.heap I.big),rfl,h _ (I.hok.fresh (nL _))⟩
end
section
variable {X:Cx} {pins:List (Addr×Obj)} {σ:St} {H:Hp} {s:qa4} {a:Addr} {y d:V} {u r:Value} {o:Option V} {A:qd9} {E:Value->qa4->Prop}
end
section
variable {X:Cx} {o e f:Expr} {apos cpos:Pos} {td ty tx:TE}
end
section
variable {X:Cx} {pins:List (Addr×Obj)} {σ:St} {H:Hp} {s:qa4} {a:Addr} {kvs:List (Key×V)} {A:qd9} {E:Value->qa4->Prop}
end
section
variable {X:Cx} {pins:List (Addr×Obj)} {σ:St} {H:Hp} {s:qa4} {a:Addr} {y:V} {u:Value} {A:qd9} {E:Value->qa4->Prop}
end
end L2
namespace Att
open PySem PySem.W PySem.Calls PyProof.Rows
variable {P:Params} {h:Heap}
theorem jC:∀ (ns:List Int) (vs:List Value),WellAll P h vs (ns.map WData.int)->qv0 vs ns:=by
 intro ns;induction ns with
 | nil =>intro vs w;rw [qm3] at w;cases w;exact .nil
 | cons n ns q =>
  intro vs w;rw [qa3] at w;cases w with
  | cons a b =>cases a;exact .cons _ _ (q _ b)
variable {l:OpenLaw} {n:Nat}
theorem tp (hn:l.most=some n) {args:List WData} {O:List Value}
 (L:l.row.toRowW.claim.pre args=true) (hwl:WellAll P h O args) :
  ∃ a vs ns,O=[qg9 a]/\args=[WData.list (ns.map WData.int)]/\h.get? a=some {cls:=.type "list",data:=.seq vs.toArray}/\qv0 vs ns/\ns.length<=n:=by
 have hsh:WShape.hasAll [] args [.list .int]=true:=(pre_splitW L).1;have hc:l.pre.holds [] {args:=args}=true:=(pre_splitW L).2;obtain ⟨d,r,rfl,h1,h2⟩:=hasAllW_cons hsh;obtain rfl:=hasAllW_nil h2;obtain ⟨xs,rfl,h3⟩:=hasW_list h1;obtain ⟨ns,rfl⟩:=items_int h3
 have U:ns.length<=n:=by
  unfold OpenLaw.pre at hc
  have Y:(WTm.not (.lt (.lit (.int (n:Int))) (.len (.arg 0)))).holds [] {args:=[.list (ns.map .int)]}=true:=by have Y:=(holds_andW hc).1;rw [hn] at Y;exact Y
  have Z:=condW_of Y (w_not (w_lt w_lit (w_len_list (w_arg rfl))));rw [qa2] at Z;refine Nat.le_of_not_lt fun q=>?_
  have q':(n:Int)<((ns.length:Nat):Int):=by lia
  first
   | (rw [decide_eq_true q'] at Z;exact absurd Z (by decide))
   | (simp at Z;lia)
 cases hwl with
 | cons w1 w2 =>
  cases w2;cases w1 with
  | list ho W=>exact ⟨_,_,ns,rfl,rfl,ho,jC ns _ W,U⟩
theorem tq (l:OpenLaw) (args:List WData):l.row.toRowW.claim.post args (.bool true) args=true:=
 postW_of (r:=l.row.toRowW) (X:=(true==true))
  (show WShape.has [] (.bool true) .bool=true by first | rfl | decide | simp [WShape.has,WShape.arms,WShape.armsAll])
  (show (WTm.eq .res (.lit (.bool true))).value [] {args:=args,res:=some (.bool true),after:=args}=some (.bool (true==true)) from w_eq_bool (w_res rfl) w_lit) rfl
theorem zn {q:qc4} {loose:List Str} {XP:(Str->Option Value)->Heap->Prop} {YP:World->Heap->Prop} {d:DefRec}
 (hn:l.most=some n) (hdf:d.params.defaults=[])
 (call:∀ (w:World) (s₀ L:qa4) (mg mb:Str->Option Value) (fa:Addr) (o:Obj) (pm cd doc:Value) (a:Addr) (vs:List Value) (ns:List Int),
 Ground q loose [] XP w s₀ mg mb L.heap->YP w L.heap→
 L.heap.get? fa=some o->o.data=.func (docDef d.name d.params d.body d.scope pm cd doc)->L.heap.CodeRec cd d.name->mg d.name=some (.ref fa)→
 L.heap.get? a=some {cls:=.type "list",data:=.seq vs.toArray}->qv0 vs ns->ns.length<=n->L.gens=#[]→
 qt3 (model l.prog w) zd7 (.call (.ref fa) ⟨[.ref a],[]⟩) (fun r s'=>r=.ok (.ret (.bool true))/\OldK L.heap s'.heap/\s'.os=L.os/\qz7 s'.gens) L) :
  WalkO q loose XP YP l.row.toRowW d [] (fun f vs=>PySem.call f vs):=by
 intro w s₀ L mg mb G Y fa o pm cd doc dV kV ho hd hcd hD hmg hg args vals as Z hlay hrd hwl hlo;obtain rfl:dV=.none:=Dflts.none hD hdf;obtain rfl:kV=.none:=Dflts.noKw hD;obtain ⟨a,vs,ns,rfl,rfl,W,O,U⟩:=tp hn Z hwl;refine enter_call (qu3 (call w s₀ L mg mb fa o pm cd doc a vs ns G Y ho (fd_plain hd) hcd hmg W O U hg) fun r s' hq=>?_);obtain ⟨rfl,h2,h3,h4⟩:=hq;exact ⟨.inl ⟨.bool true,.bool true,[],rfl,fun _=>rfl,.bool true,tq l _,fun _=>⟨qr1,fun _ hm=>(nomatch hm)⟩⟩,h2,h3,h4⟩
section
variable {prog:qc4} {w:World} {A:qd9} {E:Value->qa4->Prop} {s:qa4} {K:Frag}
end
end Att
namespace L2
open PySem PySem.Spec PyProof.Rows
theorem je:∀ {vs:List Value} {ns:List Int},qv0 vs ns->Vals (ns.map V.int) vs
 | _,_,.nil=>.nil
 | _,_,.cons n t h=>.cons ⟨t,rfl⟩ (je h)
end L2
/- THE LAST THEOREM (shape;LID,My.* are yours):
   My.Adr: a structure of the addresses that your layer names (classes,functions);My.Txt K t: a structure (Prop) of the equations over K;
   My.txt_mk:{K} {implicit addresses ..} (e1:nsIn K qc5 "law"=some (some (.ref f))) (e2:K.lookup f=some ⟨oc,od,.func (fnOf "law" "law" params body scope dV kV doc pm an cdv ct),sl⟩) (e3:codeIn K cdv "law"=true) ..:∃ t,My.Txt K t
(the tactic k_is has no namespace: write k_is) -/
namespace L2
open PySem PySem.Spec PyProof.Rows
noncomputable def dm (s:Stmt):qp7:=match s with
 | .FunctionDef _ a _ _ _ _ _ _ _ _=>a
 | _=>{posonlyargs:=[],args:=[],vararg:=none,kwonlyargs:=[],kw_defaults:=[],kwarg:=none,defaults:=[]}
noncomputable def b7 (s:Stmt):List Stmt:=match s with
 | .FunctionDef _ _ b _ _ _ _ _ _ _=>b
 | _=>[]
noncomputable def ab (s:Stmt):Scope:=match s with
 | .FunctionDef _ _ _ _ _ _ sc _ _ _=>sc
 | _=>{kind:=.function,names:=[],isGenerator:=false,isCoroutine:=false}
abbrev CX0:CXT:=fun _ _ _ _ _ _=>False
abbrev E0:XK:=fun _ _ _=>False
variable {X:Cx}
theorem Cy:pY CX0 X E0:=fun _ _ _ _ _ _ _ h=>h.elim
structure Fun (K:PySem.W.Frag) (x qual:Str) (st:Stmt) (f:Addr) (fd:qo2):Prop where
 ex:∃ (oc:Value) (od:Option Addr) (kV doc pm:Value) (an:Option Addr) (cdv ct:Value) (osl:Array (Option Value)),fd=PySem.W.fnOf x qual (dm st) (b7 st) (ab st) .none kV doc pm an cdv ct/\K.lookup f=some ⟨oc,od,.func fd,osl⟩/\PySem.W.codeIn K cdv qual=true
 kp:PySem.W.keepIn K (.ref f)=true
variable {x qual:Str} {st:Stmt} {f:Addr} {fd:qo2} {N ps:List Str} {sp:Sp} {oc doc pm cdv:Value} {od an:Option Addr} {osl:Array (Option Value)}
section
variable {P:qc4} {w:World} {K:PySem.W.Frag} {mg:Str->Option Value} {base:Heap}
theorem Fun.ok {k:Nat} (F:Fun K x qual st f fd) (S:FnScope N ps (ab st)) (len:∀ vs H Q E,sp vs H Q E->vs.length=ps.length)
 (L:∀ (cdv:Value) (A:qd9) (outer:List Env) (s:qa4) (H:Hp) (vs:List V) (Q:VK) (E:XK),Room k (A.deeper (qy3 qual (ab st) s.heap.objs.size f cdv))->sp vs H Q E→
 ∃ t,PSs (lj CX0 P w K mg base N qual (ab st) f cdv A outer s H E).nox (b7 st) t/\t {nx:=fun _ H'=>Q .non H',rt:=Q} (start N vs) H):FnOk P w K mg base CX0 (k+1) f fd ps sp:=by
 obtain ⟨oc,od,kV,doc,pm,an,cdv,ct,osl,rfl,Y,U⟩:=F.ex;refine Cp Y U S len fun A outer s H vs Q E W O=>?_
 obtain ⟨t,h,q⟩:=L cdv A outer s H vs Q E W O;exact ⟨t,h.nox,q⟩
theorem Fun.binds (F:Fun K x qual st f fd)
 (h:∀ (kV doc pm:Value) (an:Option Addr) (cdv ct:Value) (us:List Value),us.length=ps.length->bindArgs (PySem.W.fnOf x qual (dm st) (b7 st) (ab st) .none kV doc pm an cdv ct) ⟨us,[]⟩=pure (ps.zip us)):Binds K fd ps []:=by
 obtain ⟨oc,od,kV,doc,pm,an,cdv,ct,osl,rfl,L,q⟩:=F.ex;exact .all (h kV doc pm an cdv ct)
theorem p8 {kV ct:Value} (l:K.lookup f=some ⟨oc,od,.func (PySem.W.fnOf x qual (dm st) (b7 st) (ab st) .none kV doc pm an cdv ct),osl⟩) (c:PySem.W.codeIn K cdv qual=true) (k:PySem.W.keepIn K (.ref f)=true):Fun K x qual st f (PySem.W.fnOf x qual (dm st) (b7 st) (ab st) .none kV doc pm an cdv ct):=⟨⟨oc,od,kV,doc,pm,an,cdv,ct,osl,rfl,l,c⟩,k⟩
end
variable {A:qd9}
theorem j6 {k:Nat} (q:Room k A):A.units+1<cLine:=Nat.lt_of_le_of_lt (Nat.add_le_add_left (by decide:1<=64) _) q.units
section
variable {X:Cx}
end
noncomputable def Same (H H':Hp):Prop:=∀ b o,H b=some o->H' b=some o
theorem Same.refl (H:Hp):Same H H:=fun _ _ h=>h
variable {H:Hp}
theorem Same.trans {H1 H2:Hp} (a:Same H H1) (b:Same H1 H2):Same H H2:=fun c o h=>b c o (a c o h)
variable {H':Hp}
theorem Same.free (e:Same H H') {l:Addr} (h:H' l=Option.none):H l=Option.none:=by
 cases q:H l with
 | none=>rfl
 | some o =>rw [e l o q] at h;cases h
variable {K:PySem.W.Frag} {a:Addr} {xs:List V}
theorem Same.seq (e:Same H H') (h:SqL K H a xs):SqL K H' a xs:=by
 rcases h with (h | ⟨o,h⟩) | h
 . exact .inl (.inl (e _ _ h))
 . exact .inl (.inr ⟨o,e _ _ h⟩)
 . exact .inr h
section
variable {κ:Type} [DecidableEq κ]
end
set_option maxRecDepth 100000
set_option maxHeartbeats 4000000
section
variable {M:Model} {A:qd9} {E:Value->qa4->Prop} {s₀ s:qa4} {m cm:Str->Option Value} {env:Env} {cs:List (Str×Addr)}
end
noncomputable def n6 (names:List (Str×qu5)) (cells:List (Str×Addr)):List (Str×Addr):=names.foldl (fun cs q=>if q.2==qh2 then (q.1,(cells.lookup q.1).getD 0)::cs else cs) []
variable {cells:List (Str×Addr)} {env:Env}
theorem rj (W:env.cells=cells):∀ (names:List (Str×qu5)) (acc:List (Str×Addr)),(∀ x∈names,x.2=.free->∃ c,cells.lookup x.1=some c)→
  (forIn names acc (fun (x:Str×qu5) (r:List (Str×Addr))=>if (x.2==qh2)=true then (do let c <- cellOf env x.1;pure (qn3 ((x.1,c)::r))) else (pure (qn3 r):Sem _)))
   = (pure (names.foldl (fun cs O=>if O.2==qh2 then (O.1,(cells.lookup O.1).getD 0)::cs else cs) acc):Sem (List (Str×Addr)))
 | [],acc,_=>rfl
 | x::r,acc,h=>by
  have U:=fun acc=>rj W r acc fun y Y=>h y (qd3 _ Y)
  simp only [List.forIn_cons,qj3];cases e:(x.2==qh2) with
  | false =>simp only [qu7,if_false];exact U acc
  | true =>
   obtain ⟨c,L⟩:=h x qe4 (by simpa using e);have q:cellOf env x.1=pure c:=by unfold cellOf;rw [W,L]
   simp only [if_true,q,L,Option.getD_some];exact U _
variable {scope:Scope}
theorem j7 {env:Env} (h:∀ x∈scope.names,x.2=.free->∃ c,env.cells.lookup x.1=some c):closureFor scope env=pure (n6 scope.names env.cells):=by have:=rj (env:=env) rfl scope.names [] h;unfold closureFor n6;rw [<- this];simp only [bind_pure]
theorem lI:∀ {names:List (Str×qu5)} {acc:List (Str×Addr)} {x:Str} {c:Addr},(∀ y∈names,y.2=.free->∃ c,cells.lookup y.1=some c)→
  (names.foldl (fun cs O=>if O.2==qh2 then (O.1,(cells.lookup O.1).getD 0)::cs else cs) acc).lookup x=some c->(∀ c,acc.lookup x=some c->cells.lookup x=some c)->cells.lookup x=some c
 | [],acc,x,c,_,h,q=>q c h
 | y::r,acc,x,c,U,h,q=>by
  simp only [qj3] at h;refine lI (fun z Y=>U z (qd3 _ Y)) h ?_;intro c' h';split at h'
  . rename_i Z;obtain ⟨c0,e0⟩:=U y qe4 (by simpa using Z);rw [qk0] at h';split at h'
    . rename_i W;have L:x=y.1:=by simpa using W
      rw [e0] at h';subst L;rw [e0];simpa using h'
    . exact q c' h'
  . exact q c' h'
variable {names:List (Str×qu5)}
theorem gv {c:Addr} (q:∀ y∈names,y.2=.free->∃ c,cells.lookup y.1=some c) (h:(n6 names cells).lookup x=some c):cells.lookup x=some c:=lI q h fun c h=>by simp at h
theorem lJ:∀ {names:List (Str×qu5)} {acc:List (Str×Addr)} {x:Str},((x,qh2)∈names∨(acc.lookup x).isSome)→
  ((names.foldl (fun cs q=>if q.2==qh2 then (q.1,(cells.lookup q.1).getD 0)::cs else cs) acc).lookup x).isSome
 | [],acc,x,h=>by simpa using h
 | y::r,acc,x,h=>by
  simp only [qj3];refine lJ ?_;rcases h with h | h
  . rcases qb2.mp h with e | h
    . subst e;right;simp [qk0]
    . exact .inl h
  . right;split
    . rw [qk0];split
      . rfl
      . exact h
    . exact h
theorem n8 (h:(x,qh2)∈names):∃ c,(n6 names cells).lookup x=some c:=qw1.mp (lJ (.inl h))
structure CmpScope (N:List Str) (outer scope:Scope) (M:List Str) (src:List (Option Nat)):Prop where
 kind:scope.kind=.function
 nocell:∀ y∈scope.names,y.2≠.cell
 free:∀ y∈scope.names,y.2=.free->outer.names.lookup y.1=some .cell∨outer.names.lookup y.1=some .free
 names:∀ y∈scope.names,y.2=.local->scope.names.lookup y.1=some .local
 lf:∀ y∈scope.names,y.2=.free->scope.names.lookup y.1=some .free
 len:M.length=src.length
 nd:M.Nodup
 src:∀ p∈M.zip src,∀ j∈p.2,N[j]?=some p.1/\(p.1,qh2)∈scope.names
noncomputable def stC (src:List (Option Nat)) (σ:St):St:=src.map fun o=>o.bind fun j=>(σ[j]?).join
noncomputable def cxC (X:Cx) (M:List Str) (scope:Scope) (C:Addr) (s:qa4) (H:Hp) (ex:List Addr):Cx:={X with N:=M,s₀:=s,H₀:=H,env:=compEnvC scope (n6 scope.names X.env.cells) C X.env,outer:=X.stack,ex:=ex,fn:=fun _=>false,pn:=[],xe:=fun _ _=>False}
noncomputable def PTs (X:Cx) (ifs:List Expr) (t:TT):Prop:=
 ∀ (pins:List (Addr×Obj)) (s:qa4) (σ:St) (H:Hp) (Q:Bool->Hp->Prop),Inv X pins σ H s->t σ H Q→
  wpAny (model X.prog X.w) X.A (forIn ifs true fun c r=>if r=true then do let ok <- isTrue c X.env (eval c X.env);pure (qn3 ok) else pure (qn3 r)) (TP X pins σ Q) X.xe s
noncomputable def tYes:TT:=fun _ H Q=>Q true H
theorem xJ:PTs X [] tYes:=fun pins s σ H Q I h=>wpAny_tests_nil ⟨H,I,h⟩
theorem xK {c:Expr} {t:TT} (h:PT X c t):PTs X [c] t:=fun pins s σ H Q I q=>wpAny_tests_one (h pins s σ H Q I q)
noncomputable def Wk (a b:St):Prop:=a.length=b.length/\∀ (i:Nat) v,a[i]?=some (some v)->b[i]?=some (some v)
noncomputable def lK (src:List (Option Nat)) (wi:TI) (g:TG) (tt:TT) (te:TE):TE:=fun σ H Q=>wi σ H fun J H1=>∀ D,H1 D=none->∃ W:Nat->Nat->Hp->Prop,(∃ m,W 0 m (upd H1 D (.lst [])))/\∀ i m H,W i m H→
 (J.stop i H/\Q (.ref D) H)∨(J.go i H/\∃ N:Hp->Prop,(∀ H',N H'->∃ O,O<m/\W (i+1) O H')/\∀ x H',J.yld i H x H'→
  g x (stC src σ) H' fun q H2=>Wk (stC src σ) q/\tt q H2 fun b L=>if b=true then te q L fun v U=>∃ ys,U D=some (.lst ys)/\ys.length<qb0/\N (upd U D (.lst (ys++[v]))) else N L)
variable {w:World} {s:qa4} {pos:Pos}
theorem iE {prog:qc4} {R:Result->qa4->Prop} {elt q iter:Expr} {ifs:List Expr} {it acc:Value} (I:Nat->qa4->Prop)
 (turn:∀ n s,I n s->wpAny (model prog w) A (zb6 it) (fun r O=>match r with
 | none=>R (.ok .next) O
 | some v=>wpAny (model prog w) A (qt2 q it v) (fun _ L=>wpAny (model prog w) A (qz9 q env v) (fun _ U =>
 wpAny (model prog w) A (forIn ifs true fun c r=>if r=true then do let ok <- isTrue c env (eval c env);pure (qn3 ok) else pure (qn3 r)) (fun ok s₃ =>
 if ok=true then wpAny (model prog w) A (eval elt env) (fun x s₄ =>
 wpAny (model prog w) A (call (.builtin "list.append") [acc,x]) (fun _ s₅=>∃ m,m<n/\I m s₅) (fun _ _=>False) s₄) (fun _ _=>False) s₃
 else ∃ m,m<n/\I m s₃) (fun _ _=>False) U) (fun _ _=>False) L) (fun _ _=>False) O) (fun _ _=>False) s)
 (n:Nat) (h:I n s) :
  qt3 (model prog w) A (.compLoop (.ListComp elt [⟨q,iter,ifs,0⟩] scope pos) 0 it acc env) R s:=by
 refine codeAny_loop rfl I (fun n s hI=>?_) n h;show wpAny _ A ((compTurn (.ListComp elt [⟨q,iter,ifs,0⟩] scope pos) 0 it acc env).onRaise (fun x=>do noteFrame x env;theTreesLotGoes x)) _ _ s;refine wpAny_noted ?_;rw [compTurn_list];refine wB (zc6 (wB (qj9 (turn n s hI) (fun r O W=>?_) fun _ _ h'=>h'.elim)));cases r with
 | none=>exact qa5 W
 | some v =>
  refine wB (qj9 W (fun _ L Y=>?_) fun _ _ h'=>h'.elim);refine wB (qj9 Y (fun _ U Z=>wB (qj9 Z (fun ok s₃ h₃=>?_) fun _ _ h'=>h'.elim)) fun _ _ h'=>h'.elim);cases ok with
  | false=>exact qa5 ⟨rfl,h₃⟩
  | true =>exact wB (wB (qj9 h₃ (fun x s₄ h₄=>wB (qj9 h₄ (fun _ s₅ h₅=>qa5 (qa5 ⟨rfl,h₅⟩)) fun _ _ h'=>h'.elim)) fun _ _ h'=>h'.elim))
variable {σ:St}
section
variable {X:Cx} {elt tg iter:Expr} {ifs:List Expr} {scope:Scope} {pos:Pos} {M:List Str} {src:List (Option Nat)} {wi:TI} {g:TG} {tt:TT} {te:TE}
theorem mT (hn:∀ y∈scope.names,y.2≠.cell) (h:(relabel scope env).names.lookup x=some .cell∨(relabel scope env).names.lookup x=some .free):(x,qh2)∈scope.names:=by
 have q:∀ k,(relabel scope env).names.lookup x=some k->(k=.cell∨k=.free)->(x,qh2)∈scope.names:=by
  intro k Y L;have W:=PySem.mem_of_lookup Y;unfold relabel at W;obtain ⟨⟨n,Z⟩,O,e⟩:=qd8.mp W;dsimp only at e;split at e
  . rename_i U;simp only [qb4] at U;have:Z=.free:=by simpa using U.1.1
    subst this;cases e;exact O
  . cases e;rcases L with z | z
    . subst z;exact absurd rfl (hn _ O)
    . subst z;exact O
 rcases h with h | h
 . exact q _ h (.inl rfl)
 . exact q _ h (.inr rfl)
theorem n9 {pins:List (Addr×Obj)} {s1:qa4} {fp:List Addr} {m1:Str->Option Value} (S:CmpScope X.N X.env.scope scope M src) (I:Inv X pins σ H s) (hf:∀ b∈fp,ir X pins H b)
 (hfl:∀ b∈fp,b<s.heap.objs.size) (hn:s1.heap.Ns s.heap.objs.size m1) (hk:∀ b o,s.heap.get? b=some o->s1.heap.get? b=some o) (hos:s1.os=s.os) (hg:s1.gens=s.gens) :
  Inv (cxC X M scope s.heap.objs.size s H fp) [] (stC src σ) H s1:=by
 have Z:∀ x∈scope.names,x.2=.free->∃ c,X.env.cells.lookup x.1=some c:=fun x hx O=>I.ok.has x.1 (S.free x hx O)
 have L:∀ x c,(n6 scope.names X.env.cells).lookup x=some c->X.env.cells.lookup x=some c:=fun x c h=>gv Z h
 have W:∀ c v,s.heap.IsCell c v->s1.heap.IsCell c v:=fun c v ⟨o,ho,hd⟩=>⟨o,hk c o ho,hd⟩
 refine ⟨⟨I.ok.mod,S.kind,I.ok.glob,I.ok.blt,nL _,fun y z c h1 h2=>I.ok.inj y z c (L _ _ h1) (L _ _ h2),fun x hx=>n8 (mT S.nocell hx),fun x c h=>(nomatch h),I.ok.hd,I.ok.frames,.inl rfl,
  fun b Y=>⟨qc2 (hfl b Y),fun x c h=>(hf b Y).2.2.2.2.1 x c (L _ _ h)⟩,I.bs,qc7 I.ok.bsz I.sz,fun b o e Y=>?_,fun b Y z=>?_,I.stack,I.stkFree,fun p hp=>I.base.cts _ _ (I.ok.tb p hp)⟩,
  hos,(by rw [hg];exact I.bare),Un.kept hk,⟨m1,hn,fun i x v h1 h2 h3=>?_⟩,fun x c h=>?_,I.hok.fresh (qx3 _),fun x c h=>I.freeC x c (L _ _ h),fun p hp=>absurd hp (by simp [cxC]),I.hok.kept hk,?_⟩
 . rcases (hf b Y).2.2.2.1 with z | z
   . exact I.ok.noex b o e z
   . exact absurd (qb7 (qa7 e) (qc7 I.ok.bsz z)) (qk2 _)
 . rcases qb2.mp (I.stkSub b z) with q | q
   . exact (hf b Y).2.1 q
   . exact (hf b Y).2.2.1 q
 . -- a name taken over
   have h1:M[i]?=some x:=h1;unfold stC at h2;rw [qb1] at h2;cases hs:src[i]? with
   | none=>rw [hs] at h2;cases h2
   | some o =>
    rw [hs] at h2;simp only [qg0,qi0] at h2;cases o with
    | none=>cases h2
    | some j =>
     simp only [qa0] at h2
     have hmem:(x,some j)∈M.zip src:=by
      have:(M.zip src)[i]?=some (x,some j):=by rw [qv2];exact ⟨h1,hs⟩
      exact qc9 this
     obtain ⟨hN,O⟩:=S.src _ hmem j rfl
     have hσ:σ[j]?=some (some v):=by
      cases e:σ[j]? with
      | none=>rw [e] at h2;cases h2
      | some o=>rw [e] at h2;simp only [qo3] at h2;rw [h2]
     have U:=S.free _ O rfl;obtain ⟨m,hm,hl⟩:=I.loc;obtain ⟨u,r,l⟩:=hl j x v hN hσ (.inr U);refine ⟨u,r,?_⟩
     have hloc:X.env.kindOf x≠some .local:=by show X.env.scope.names.lookup x≠_;rcases U with q | q<;>rw [q]<;>decide
     rcases l with l | ⟨_,c,e,z⟩
     . exact absurd l.1 hloc
     . obtain ⟨c',e'⟩:=n8 (cells:=X.env.cells) O;have:=L _ _ e';rw [e] at this;cases this;refine .inr ⟨?_,c,e',W _ _ z⟩;rcases h3 with q | q
       . exact absurd q (by
          -- a name that is free in the block is not local there
          exact (by
           intro q
           have:scope.names.lookup x=some .local:=by
            have Y:∀ (names:List (Str×qu5)),(names.map fun (n,k)=>if (k==qh2&&X.env.scope.kind==.function&&X.env.kindOf n==some .cell) then (n,qu5.cell) else (n,k)).lookup x=some .local->names.lookup x=some .local:=by
             intro names;induction names with
             | nil=>intro h;simp at h
             | cons y r ih =>
              obtain ⟨n,k⟩:=y;intro h;simp only [qa3] at h;by_cases hx:x=n
              . subst hx;split at h
                . simp [qk0] at h
                . simpa [qk0] using h
              . have hx':(x==n)=false:=by simpa using hx
                split at h
                . simp only [qk0,hx'] at h ⊢;exact ih h
                . simp only [qk0,hx'] at h ⊢;exact ih h
            exact Y _ q
           rw [S.lf _ O rfl] at this;cases this))
       . exact q
 . obtain ⟨v,z⟩:=I.cell x c (L _ _ h);exact ⟨v,W _ _ z⟩
 . show (stC src σ).length=M.length;unfold stC;rw [qa2,S.len]
theorem oe (S:CmpScope X.N X.env.scope scope M src) (hc:X.calm=true) (hi:PI X tg iter wi) (hg:M.Nodup->∀ C s H ex,PG (cxC X M scope C s H ex) tg g) (ht:∀ C s H ex,PTs (cxC X M scope C s H ex) ifs tt)
  (he:∀ C s H ex,PE (cxC X M scope C s H ex) elt te) (hs:∀ x,qf7 iter X.env x=pure x:=by intro _;rfl) :
  PE X (.ListComp elt [⟨tg,iter,ifs,0⟩] scope pos) (lK src wi g tt te):=by
 intro pins s σ H Q I h;rw [eval_ListComp];have Z:∀ x∈scope.names,x.2=.free->∃ c,X.env.cells.lookup x.1=some c:=fun x hx hfr=>I.ok.has x.1 (S.free x hx hfr)
 refine qw3 (use:=none) rfl hs (j7 Z) S.kind S.names (thn (hi pins s σ H _ I h) fun v s1 h1=>thn h1 fun itv s2 h2=>?_);obtain ⟨it,fp,tn,J,H2,rfl,I2,T,st2,f2,hq⟩:=h2;refine qd2 ?_;have I3:Inv X pins σ (upd H2 s2.heap.objs.size (.lst [])) {s2 with heap:=s2.heap.push {cls:=.type "list",dict:=none,data:=.seq ([]:List Value).toArray},toks:=s2.toks}:=I2.lnew (its:=[]) (ys:=[]) (t':=s2.toks) .nil (by simp);have hD:H2 s2.heap.objs.size=none:=I2.fresh;obtain ⟨W,⟨m0,w0⟩,turn⟩:=hq _ hD;generalize hDn:s2.heap.objs.size=D at*
 generalize hs3:({s2 with heap:=s2.heap.push {cls:=.type "list",dict:=none,data:=.seq ([]:List Value).toArray},toks:=s2.toks}:qa4)=U at*
 have f3:∀ b∈fp,ir X pins (upd H2 D (.lst [])) b:=fun b L=>⟨by obtain ⟨o,e,_⟩:=T.obj _ _ st2 b L;rw [aS (by rw [<- hDn];exact qc2 (qa7 e))];exact (f2 b L).1,(f2 b L).2⟩
 have k23:∀ b o,s2.heap.get? b=some o->U.heap.get? b=some o:=fun b o e=>by rw [<- hs3];exact gP _ e
 have st3:tn 0 U.heap:=T.keep _ _ _ st2 fun b _ o e=>k23 b o e
 have fl3:∀ b∈fp,b<U.heap.objs.size:=fun b L=>by obtain ⟨o,e,_⟩:=T.obj _ _ st3 b L;exact qa7 e
 refine wpAny_newFunctionEnv S.nocell (by intro y hy;simp at hy) (fun h₁ hns₁ hsb₁=>?_) S.kind;have k34:∀ b o,U.heap.get? b=some o->h₁.get? b=some o:=fun b o e=>hsb₁.extBut b o (qc2 (qa7 e)) (gP _ e)
 generalize hs4:({U with heap:=h₁,toks:=U.toks+([]:List (Str×Value)).length}:qa4)=s4
 have I4:Inv (cxC X M scope U.heap.objs.size U (upd H2 D (.lst [])) fp) [] (stC src σ) (upd H2 D (.lst [])) s4:=by rw [<- hs4];exact n9 S I3 f3 fl3 hns₁ k34 rfl rfl
 have st4:tn 0 s4.heap:=T.keep _ _ _ st3 fun b _ o e=>by rw [<- hs4];exact k34 b o e
 generalize O:cxC X M scope U.heap.objs.size U (upd H2 D (.lst [])) fp=Y at*
 have hg':PG Y tg g:=by rw [<- O];exact hg S.nd _ _ _ _
 have ht':PTs Y ifs tt:=by rw [<- O];exact ht _ _ _ _
 have he':PE Y elt te:=by rw [<- O];exact he _ _ _ _
 have eP:Y.prog=X.prog:=by rw [<- O];rfl
 have eW:Y.w=X.w:=by rw [<- O];rfl
 have eK:Y.K=X.K:=by rw [<- O];rfl
 have eA:Y.A=X.A:=by rw [<- O];rfl
 have ex':Y.xe=fun _ _=>False:=by rw [<- O];rfl
 have ec:Y.calm=true:=by rw [<- O];exact hc
 have eE:Y.env=compEnvC scope (n6 scope.names X.env.cells) U.heap.objs.size X.env:=by rw [<- O];rfl
 have stat:∀ {H':Hp},(∀ b∈fp,H' b=none)->∀ b∈fp,ir Y [] H' b:=fun hn b L=>by
  rw [<- O];refine ⟨hn b L,qc2 (fl3 b L),fun z=>?_,.inl L,fun x c h=>(f3 b L).2.2.2.2.1 x c (gv Z h),fun p hp=>absurd hp (by simp [cxC])⟩;rcases qb2.mp (I3.stkSub b z) with q | q
  . exact (f3 b L).2.1 q
  . exact (f3 b L).2.2.1 q
 -- behind the block
 have fin:∀ (H':Hp) (s':qa4),Inv Y [] (stC src σ) H' s'->Q (.ref D) H'->zb3 (model X.prog X.w) X.A X.xe none (EP X pins σ Q) (.ref D) U.heap.objs.size (.ok .next) s':=by
  intro H' s' J' q;rw [<- O] at J';obtain ⟨m,hn,_⟩:=id J'.loc;refine ⟨m,hn,fun h' sb=>⟨.ref D,H',?_,rfl,q⟩⟩;have hC:H' U.heap.objs.size=none:=J'.free;have un:Un (frs X.stack) fp (upd H2 D (.lst [])) H' U.heap s'.heap:=J'.base;have kC:∀ b o,b≠U.heap.objs.size->s'.heap.get? b=some o->h'.get? b=some o:=fun b o L e=>sb.extBut b o L e
  have un':Un (frs X.stack) fp (upd H2 D (.lst [])) H' U.heap h':=
   ⟨fun b o e n L hx=>kC b o (qc2 (qa7 e)) (un.keep b o e n L hx),
    fun b o e n L hx=>by obtain ⟨sl,e'⟩:=un.slot b o e n L hx;exact ⟨sl,kC b _ (qc2 (qa7 e)) e'⟩,
    un.free,
    fun b o e hx=>by obtain ⟨o',e'⟩:=un.there b o e hx;exact ⟨o',kC b _ (qc2 (qa7 e)) e'⟩,un.tups,un.frzs,un.tbls,un.cts⟩
  have hok':HOk X.prog X.w H' h':=fun b u e=>by
   have nb:b≠U.heap.objs.size:=fun z=>by rw [z,hC] at e;cases e
   refine (J'.hok b u e).stay (fun c v hc' q=>kC c v ?_ q) (fun _ q=>q) (fun _ _ q=>q) fun _ _ _ q=>q
   rcases hc' with z | z
   . rw [z];exact nb
   . intro w;rw [w,hC] at z;cases z
  exact I3.call' (s':={s' with heap:=h'}) (show s'.os=U.os from J'.os) un' hok' J'.bare fun b L=>⟨(f3 b L).2.2.2.1,(f3 b L).2.1,(f3 b L).2.2.2.2.1,(f3 b L).2.2.2.2.2⟩
 have loop:∀ s4':qa4,s4'=s4->qt3 (model X.prog X.w) X.A (.compLoop (.ListComp elt [⟨tg,iter,ifs,0⟩] scope pos) 0 (.ref it) (.ref D) Y.env) (zb3 (model X.prog X.w) X.A X.xe none (EP X pins σ Q) (.ref D) U.heap.objs.size) s4':=by
  rintro _ rfl;refine iE (fun n s'=>∃ i H',Inv Y [] (stC src σ) H' s'/\tn i s'.heap/\(∀ b∈fp,H' b=none)/\W i n H') ?_ m0 ⟨0,_,I4,st4,fun b L=>(f3 b L).1,w0⟩;rintro n s5 ⟨i,H5,I5,st5,fr5,w5⟩;rcases turn i n H5 w5 with ⟨stop,qn⟩ | ⟨go,N,hN,step⟩
  . have:=T.done Y eP eW eK ec i [] s5 (stC src σ) H5 (fun _ _=>False) I5 (stat fr5) st5 stop;rw [eA] at this;refine thn this fun r s6 ⟨hr,I6⟩=>?_
    subst hr;exact fin H5 s6 I6 qn
  . have:=T.item Y eP eW eK ec i [] s5 (stC src σ) H5 (fun _ _=>False) I5 (stat fr5) st5 go;rw [eA] at this;refine thn this fun r s6 ⟨u,hr,h6⟩=>?_
    subst hr;refine thn h6 fun _ s7 ⟨x,H7,I7,r7,y7,st7,fr7⟩=>?_
    have I7':=I7.pinned (stat fr7) (T.obj _ _ st7);have a1:=hg' _ s7 (stC src σ) H7 x u _ I7' r7 (step x H7 y7);rw [ex',eP,eW,eA] at a1;refine thn a1 fun _ s8 ⟨σ8,H8,I8,wk8,q8⟩=>?_
    have a2:=ht' _ s8 σ8 H8 _ I8 q8;rw [ex',eP,eW,eA] at a2;refine thn a2 fun ok s9 ⟨H9,I9,q9⟩=>?_
    have again:∀ {H7':Hp} {s':qa4},Inv Y ([]++ja fp s7.heap) σ8 H7' s'->N H7'->∃ m,m<n/\∃ i H',Inv Y [] (stC src σ) H' s'/\tn i s'.heap/\(∀ b∈fp,H' b=none)/\W i m H':=fun {H7' s'} J7 n7=>by obtain ⟨m',hm,w7⟩:=hN H7' n7;refine ⟨m',hm,i+1,H7',J7.unpinned.weak wk8.1 wk8.2,T.keep _ _ _ st7 fun b L o e=>(J7.pin (b,o) (qc3 _ (qc3 _ (dU L e)))).1,fun b L=>?_,w7⟩;obtain ⟨o,e,d⟩:=T.obj _ _ st7 b L;exact (J7.pin (b,o) (qc3 _ (qc3 _ (dU L e)))).2.1
    cases ok with
    | false=>exact again I9 q9
    | true =>
     have a3:=he' _ s9 σ8 H9 _ I9 q9;rw [ex',eP,eW,eA] at a3;refine thn a3 fun v s10 ⟨y,H10,I10,r10,ys,hl,hz,q10⟩=>?_
     have a4:=g5 (X:=Y) _ s10 σ8 H10 (.ref D) [y] (.ref D) [v] (fun _ H'=>N H') I10 rfl (.cons r10 .nil) ⟨D,ys,y,rfl,rfl,hl,hz,q10⟩;rw [ex',eP,eW,eA] at a4;refine thn a4 fun _ s11 ⟨_,H11,I11,_,q11⟩=>?_
     exact again I11 q11
 have e4:∀ c:Env,c=Y.env->qt3 (model X.prog X.w) X.A (.compStart (.ListComp elt [⟨tg,iter,ifs,0⟩] scope pos) 0 (.ref it) (.ref D) c) (zb3 (model X.prog X.w) X.A X.xe none (EP X pins σ Q) (.ref D) U.heap.objs.size) s4:=by rintro _ rfl;exact qz2 (loop _ rfl) (T.self _ _ _ _ _ st4 (loop _ rfl))
 exact e4 _ (by rw [eE];rfl)
end
noncomputable def Its (x:Str):It:=⟨fun i _=>i<x.cps.size,fun i H v H'=>H'=H/\∃ c,x.cps[i]?=some c/\v=.str ⟨#[c]⟩,fun i _=>i=x.cps.size⟩
variable {P:qc4} {tg:Expr}
theorem tu (x:Str) (t:Tok) (it:Addr):Turn P w K tg (Its x) [it] it (fun i h=>h.IsStrIter it "str_ascii_iterator" x t i) where
 mem:=by simp
 obj:=fun i h st b L=>by
  have e:b=it:=by simpa using L
  subst e;obtain ⟨o,e,c,d⟩:=st;exact ⟨o,e,fun v z=>by rw [d] at z;cases z⟩
 keep:=fun i h h' st k=>let ⟨o,ho,r⟩:=st;⟨o,k it (by simp) o ho,r⟩
 item:=by
  intro X Z hw hK hc i pins s σ H E I U st q;subst Z hw hK;obtain ⟨f0,f1,f2,f3,W,Y⟩:=U it (by simp);have q:i<x.cps.size:=q;refine wpAny_pyNext_ascii_item st (c:=x.cps[i]) (by simp [q]) fun h' O sb=>?_
  have I1:Inv X pins σ H {s with heap:=h',toks:=s.toks+1}:=I.turned (t':=s.toks+1) (fun b o L e=>(sb.2 b L).trans e) f0 f1 f3 W Y;obtain ⟨o,e,c,d⟩:=id O;exact ⟨_,rfl,lA (s:={s with heap:=h',toks:=s.toks+1}) e c d (by decide) ⟨.str ⟨#[x.cps[i]]⟩,H,I1,⟨_,rfl⟩,⟨rfl,x.cps[i],by simp [q],rfl⟩,O,fun b L=>(U b L).1⟩⟩
 done:=by intro X Z hw hK hc i pins s σ H E I U st q;subst Z hw hK;have q:i=x.cps.size:=q;obtain ⟨f0,f1,f2,f3,W,Y⟩:=U it (by simp);exact wpAny_pyNext_ascii_end (I.ok.hd hc) st (by simp [q]) fun h' eb=>⟨rfl,I.turned (t':=s.toks) (fun b o L e=>eb b o L e) f0 f1 f3 W Y⟩
 self:=fun _ _ _ _ _ st h=>wpAny_pyIter_striter_ascii st h
theorem tw (x:Str) (t:Tok) (it:Addr):Turn P w K tg (Its x) [it] it (fun i h=>h.IsStrIter it "str_iterator" x t i) where
 mem:=by simp
 obj:=fun i h st b L=>by
  have e:b=it:=by simpa using L
  subst e;obtain ⟨o,e,c,d⟩:=st;exact ⟨o,e,fun v z=>by rw [d] at z;cases z⟩
 keep:=fun i h h' st k=>let ⟨o,ho,r⟩:=st;⟨o,k it (by simp) o ho,r⟩
 item:=by
  intro X Z hw hK hc i pins s σ H E I U st q;subst Z hw hK;obtain ⟨f0,f1,f2,f3,W,Y⟩:=U it (by simp);have q:i<x.cps.size:=q;refine wpAny_pyNext_wide_item st (c:=x.cps[i]) (by simp [q]) fun h' O sb=>?_
  have I1:Inv X pins σ H {s with heap:=h',toks:=s.toks+1}:=I.turned (t':=s.toks+1) (fun b o L e=>(sb.2 b L).trans e) f0 f1 f3 W Y;obtain ⟨o,e,c,d⟩:=id O;exact ⟨_,rfl,lA (s:={s with heap:=h',toks:=s.toks+1}) e c d (by decide) ⟨.str ⟨#[x.cps[i]]⟩,H,I1,⟨_,rfl⟩,⟨rfl,x.cps[i],by simp [q],rfl⟩,O,fun b L=>(U b L).1⟩⟩
 done:=by intro X Z hw hK hc i pins s σ H E I U st q;subst Z hw hK;have q:i=x.cps.size:=q;obtain ⟨f0,f1,f2,f3,W,Y⟩:=U it (by simp);exact wpAny_pyNext_wide_end (I.ok.hd hc) st (by simp [q]) fun h' eb=>⟨rfl,I.turned (t':=s.toks) (fun b o L e=>eb b o L e) f0 f1 f3 W Y⟩
 self:=fun _ _ _ _ _ st h=>wpAny_pyIter_striter_wide st h
section
variable {X:Cx} {tg:Expr}
noncomputable def iStr (tl:TE):TI:=fun σ H R=>tl σ H fun v H1=>∃ x,v=.str x/\R (Its x) H1
theorem u0 {l:Expr} {tl:TE} (Y:PE X l tl):PI X tg l (iStr tl):=by
 intro pins s σ H R I h;refine thn (Y pins s σ H _ I h) fun v s1 ⟨y,H1,L,W,q1⟩=>?_
 obtain ⟨x,e,q⟩:=q1;subst e;obtain ⟨t,rfl⟩:=W
 have fin:∀ b∈[s1.heap.objs.size],ir X pins H1 b:=fun b U=>by
  have e:b=s1.heap.objs.size:=by simpa using U
  subst e;exact L.fpOk (nL _) (L.hok.fresh (nL _))
 cases O:x.cps.all (· < 128)
 . refine wpAny_pyIter_wide O ?_;exact ⟨s1.heap.objs.size,[s1.heap.objs.size],_,_,H1,rfl,L.kept (t':=s1.toks) fun b o e=>gP _ e,tw x t _,⟨_,qb3 _ rfl,rfl,rfl⟩,fin,q⟩
 . refine wpAny_pyIter_ascii O ?_;exact ⟨s1.heap.objs.size,[s1.heap.objs.size],_,_,H1,rfl,L.kept (t':=s1.toks) fun b o e=>gP _ e,tu x t _,⟨_,qb3 _ rfl,rfl,rfl⟩,fin,q⟩
theorem iw:∀ {bs:List Bool} {us:List Value},Vals (bs.map V.bl) us->us=bs.map qo8
 | [],_,.nil=>rfl
 | b::r,_,.cons h t=>by have h:_=qo8 b:=h;rw [h,iw t];rfl
theorem lL {bs:List Bool}:(qb6 bs.length).map (fun i=>bs.getD i false)=bs:=by
 apply qr9
 . simp
 . intro i h1 h2;simp at h1;simp [h1]
theorem oh (Z:X.calm=true):CallR X (.builtin "all") (fun xs H Q=>∃ (a:Addr) (bs:List Bool),xs=[.ref a]/\SqL X.K H a (bs.map V.bl)/\Q (.bl (bs.all id)) H):=by
 intro pins s σ H xs us Q I r h;obtain ⟨a,bs,rfl,hq,q⟩:=h;obtain ⟨u,rfl,ru⟩:=fM r;cases ru;obtain ⟨its,rv,p,hz⟩:=I.list hq;have eu:=iw rv;subst eu
 have U:a≠s.heap.objs.size:=by obtain ⟨o,n,e,_⟩:=p;exact qc2 (qa7 e)
 refine call_all_walk (qq7 p.isList ⟨s.heap.objs.size,_,_,_,_,_,fun i=>bs.getD i false,rfl,Walks.list (A:=X.A.in1) (I.ok.hd Z) _ a U (bs.map qo8).toArray,⟨⟨_,qb3 _ rfl,rfl,rfl⟩,?_⟩,?_,?_⟩)
 . obtain ⟨o,Y,W⟩:=p.isList;exact ⟨o,gP _ Y,W⟩
 . intro i v s' Q' E' L O;rw [za4,qb1] at L;cases e:bs[i]? with
   | none=>rw [e] at L;cases L
   | some b =>rw [e] at L;cases L;refine qi1 ?_;dsimp only at O;rw [qc1,e] at O;exact O
 . intro h' tk hk;refine ⟨.bl _,H,I.kept (h':=h') (t':=tk) fun b o e=>hk b o (fun z=>?_) (gP _ e),rfl,?_⟩
   . have z:b=s.heap.objs.size:=by simpa using z
     subst z;exact absurd (qa7 e) (qk2 _)
   . have e:(qb6 (bs.map qo8).toArray.size).all (fun i=>bs.getD i false)=bs.all id:=by
      conv=>rhs;rw [<- lL (bs:=bs)]
      rw [List.all_map];simp
     rw [e];exact q
theorem u1 (Z:X.calm=true):CallR X (.builtin "any") (fun xs H Q=>∃ (a:Addr) (bs:List Bool),xs=[.ref a]/\SqL X.K H a (bs.map V.bl)/\Q (.bl (bs.any id)) H):=by
 intro pins s σ H xs us Q I r h;obtain ⟨a,bs,rfl,hq,q⟩:=h;obtain ⟨u,rfl,ru⟩:=fM r;cases ru;obtain ⟨its,rv,p,hz⟩:=I.list hq;have eu:=iw rv;subst eu
 have U:a≠s.heap.objs.size:=by obtain ⟨o,n,e,_⟩:=p;exact qc2 (qa7 e)
 refine call_any_walk (qq7 p.isList ⟨s.heap.objs.size,_,_,_,_,_,fun i=>bs.getD i false,rfl,Walks.list (A:=X.A.in1) (I.ok.hd Z) _ a U (bs.map qo8).toArray,⟨⟨_,qb3 _ rfl,rfl,rfl⟩,?_⟩,?_,?_⟩)
 . obtain ⟨o,Y,W⟩:=p.isList;exact ⟨o,gP _ Y,W⟩
 . intro i v s' Q' E' L O;rw [za4,qb1] at L;cases e:bs[i]? with
   | none=>rw [e] at L;cases L
   | some b =>rw [e] at L;cases L;refine qi1 ?_;dsimp only at O;rw [qc1,e] at O;exact O
 . intro h' tk hk;refine ⟨.bl _,H,I.kept (h':=h') (t':=tk) fun b o e=>hk b o (fun z=>?_) (gP _ e),rfl,?_⟩
   . have z:b=s.heap.objs.size:=by simpa using z
     subst z;exact absurd (qa7 e) (qk2 _)
   . have e:(qb6 (bs.map qo8).toArray.size).any (fun i=>bs.getD i false)=bs.any id:=by
      conv=>rhs;rw [<- lL (bs:=bs)]
      rw [List.any_map];simp
     rw [e];exact q
theorem lM:∀ {ts:List Str} {us:List Value},Vals (ts.map V.str) us->∃ l,us=strValues l/\l.map (·.1)=ts
 | [],_,.nil=>⟨[],rfl,rfl⟩
 | x::r,_,.cons h t=>by obtain ⟨tk,rfl⟩:=h;obtain ⟨l,q,e2⟩:=lM t;exact ⟨(x,tk)::l,by rw [q];rfl,by rw [<- e2];rfl⟩
theorem xL:MtR X "str.join" (fun x vs H Q=>∃ (a:Str) (l:Addr) (ts:List Str),x=.str a/\vs=[.ref l]/\SqL X.K H l (ts.map V.str)/\JoinOk a ts=true/\Q (.str (Txt.join a ts)) H):=by intro pins s σ H x vs v us Q I L W h;obtain ⟨a,l,ts,rfl,rfl,U,Y,q⟩:=h;obtain ⟨t,rfl⟩:=L;obtain ⟨u,rfl,O⟩:=W.one;cases O;obtain ⟨its,r,p,Z⟩:=I.list U;obtain ⟨ls,rfl,e2⟩:=lM r;exact SC.join p.isList e2 Y fun t' k=>⟨.str _,H,I.tok _,⟨_,rfl⟩,q⟩
theorem mU:CallR X (.type "int") (fun xs H Q=>∃ x n,xs=[.str x]/\PySem.intText? x=some n/\x.length<=640/\Q (.int n) H):=by intro pins s σ H xs us Q I r h;obtain ⟨x,n,rfl,U,O,q⟩:=h;obtain ⟨u,rfl,L⟩:=fM r;obtain ⟨t,rfl⟩:=L;exact PySem.W.KIN.call_text U O ⟨.int n,H,I.tok _,⟨_,rfl⟩,q⟩
theorem rk {v:Value} {o:Option Int} (h:ze1 v o):∃ p:Option (Int×Tok),v=partValue p/\o=p.map (·.1):=by
 cases o with
 | none=>exact ⟨none,by cases h<;>rfl,rfl⟩
 | some i =>cases h;exact ⟨some (i,_),rfl,rfl⟩
noncomputable def rSlS:V->Option Int->Option Int->Hp->VK->Prop:=fun x lo hi H Q=>∃ z,x=.str z/\z.length<=qb0/\Q (.str (Txt.slice z lo hi)) H
theorem AK:SlR X rSlS:=by intro pins s σ H x v vl vu lo hi sl Q I L O Y W h;obtain ⟨z,rfl,U,q⟩:=h;obtain ⟨t,rfl⟩:=L;obtain ⟨l,rfl,rfl⟩:=rk Y;obtain ⟨u,rfl,rfl⟩:=rk W;refine ⟨"str",_,F.slot_str_getitem.lookup,typeIs_str _ _ _,?_⟩;exact wpAny_getItem_str_slice (l:=l) (u:=u) (st:=none) O rfl (post_val_or_str ⟨qc7 (Txt.slice_le z _ _) U,fun t' k=>⟨.str _,H,I.tok _,⟨_,rfl⟩,q⟩⟩)
end
theorem b8:qd7 "len"=some (.builtin "len"):=by first | exact PySem.boot_len | exact PyProof.Rows.boot_len | decide +kernel
theorem u2:qd7 "all"=some (.builtin "all"):=by first | exact PySem.boot_all | exact PyProof.Rows.boot_all | decide +kernel
theorem AL:qd7 "any"=some (.builtin "any"):=by first | exact PySem.boot_any | exact PyProof.Rows.boot_any | decide +kernel
theorem ln:qd7 "isinstance"=some (.builtin "isinstance"):=by first | exact PySem.boot_isinstance | exact PyProof.Rows.boot_isinstance | decide +kernel
theorem g6:qd7 "sorted"=some (.builtin "sorted"):=by first | exact PySem.boot_sorted | exact PyProof.Rows.boot_sorted | decide +kernel
theorem p9:qd7 "int"=some (.type "int"):=by first | exact PySem.boot_int | exact PyProof.Rows.boot_int | decide +kernel
theorem AM:qd7 "str"=some (.type "str"):=by first | exact PySem.boot_str | exact PyProof.Rows.boot_str | decide +kernel
theorem rl:qd7 "bool"=some (.type "bool"):=by first | exact PySem.boot_bool | exact PyProof.Rows.boot_bool | decide +kernel
theorem cW:qd7 "tuple"=some (.type "tuple"):=by first | exact PySem.boot_tuple | exact PyProof.Rows.boot_tuple | decide +kernel
theorem xM:qd7 "list"=some (.type "list"):=by first | exact PySem.boot_list | exact PyProof.Rows.boot_list | decide +kernel
theorem mV:qd7 "enumerate"=some (.type "enumerate"):=by first | exact PySem.boot_enumerate | exact PyProof.Rows.boot_enumerate | decide +kernel
structure OkF (P:qc4) (w:World) (K:PySem.W.Frag) (mg:Str->Option Value) (base:Heap) (x:Str) (k:Nat) (ps:List Str) (sp:Sp):Prop where
 ex:∃ f fd,mg x=some (.ref f)/\PySem.W.keepIn K (.ref f)=true/\Binds K fd ps []/\FnOk P w K mg base CX0 k f fd ps sp
structure DefF (K:PySem.W.Frag) (mg:Str->Option Value) (x:Str) (st:Stmt) (ps:List Str):Prop where
 ex:∃ f fd,mg x=some (.ref f)/\PySem.W.keepIn K (.ref f)=true/\Binds K fd ps []/\Fun K x x st f fd
section
variable {P:qc4} {w:World} {K:PySem.W.Frag} {mg:Str->Option Value} {base:Heap}
theorem DefF.ok {k:Nat} (F:DefF K mg x st ps) (S:FnScope N ps (ab st)) (len:∀ vs H Q E,sp vs H Q E->vs.length=ps.length)
 (q:∀ (f:Addr) (cdv:Value) (A:qd9) (outer:List Env) (s:qa4) (H:Hp) (vs:List V) (Q:VK) (E:XK),Room k (A.deeper (qy3 x (ab st) s.heap.objs.size f cdv))->sp vs H Q E→
 ∃ t,PSs (lj CX0 P w K mg base N x (ab st) f cdv A outer s H E).nox (b7 st) t/\t {nx:=fun _ H'=>Q .non H',rt:=Q} (start N vs) H):OkF P w K mg base x (k+1) ps sp:=by
 obtain ⟨f,fd,h1,h2,h3,L⟩:=F.ex;exact ⟨f,fd,h1,h2,h3,L.ok S len (q f)⟩
theorem DefF.mk' {kV ct:Value} {h:Heap} (X:K.In h) (G:h.Ns qc5 mg)
 (a:PySem.W.nsIn K qc5 x=some (some (.ref f)))
 (l:K.lookup f=some ⟨oc,od,.func (PySem.W.fnOf x x (dm st) (b7 st) (ab st) .none kV doc pm an cdv ct),osl⟩) (c:PySem.W.codeIn K cdv x=true) (k:PySem.W.keepIn K (.ref f)=true)
 (q:∀ (kV doc pm:Value) (an:Option Addr) (cdv ct:Value) (us:List Value),us.length=ps.length->bindArgs (PySem.W.fnOf x x (dm st) (b7 st) (ab st) .none kV doc pm an cdv ct) ⟨us,[]⟩=pure (ps.zip us)):DefF K mg x st ps:=
 ⟨f,_,PySem.W.mg_of X G a,k,(p8 l c k).binds q,p8 l c k⟩
end
section
variable {X:Cx} {k:Nat} {ps:List Str} {sp:Sp} {x:Str} {p pos:Pos} {e:Expr} {es:List Expr} {t:TA}
theorem u3 (F:OkF X.prog X.w X.K X.mg X.base x k ps sp) (O:Room k X.A) (W:Gl X x) (U:PA X (e::es) t) (q:(x==("__debug__":Str))=false:=by decide)
  (Y:qa6 (e::es) X.env=(false,eval e X.env)::qa6 es X.env:=by rfl) (L:(qh9 pos (qa6 es X.env)).any (·.1)=false:=by rfl):PE X (.Call (.Name x p) (e::es) [] pos) (uO sp [] E0 t):=by
 obtain ⟨f,fd,h1,h2,h3,Z⟩:=F.ex;exact xy Z O W h1 h2 h3 .nil Cy U q Y L
end
noncomputable def zo (N:List Str) (outer scope:Scope) (M:List Str) (src:List (Option Nat)):Bool:=
 (match scope.kind with | .function=>true | _=>false)&&
 scope.names.all (fun y=>decide (y.2≠.cell))&&
 scope.names.all (fun y=>!decide (y.2=.free)||(decide (outer.names.lookup y.1=some .cell)||decide (outer.names.lookup y.1=some .free)))&&
 scope.names.all (fun y=>!decide (y.2=.local)||decide (scope.names.lookup y.1=some .local))&&
 scope.names.all (fun y=>!decide (y.2=.free)||decide (scope.names.lookup y.1=some .free))&&
 decide (M.length=src.length)&&decide M.Nodup&&
 (M.zip src).all (fun p=>match p.2 with | none=>true | some j=>decide (N[j]?=some p.1)&&decide ((p.1,qh2)∈scope.names))
variable {src:List (Option Nat)}
theorem CmpScope.of {outer:Scope} {M:List Str} (h:zo N outer scope M src=true):CmpScope N outer scope M src:=by
 unfold zo at h;simp only [qb4,qm7,qj4,qm0,decide_eq_true_eq,decide_eq_false_iff_not] at h;obtain ⟨⟨⟨⟨⟨⟨⟨h1,h2⟩,h3⟩,U⟩,W⟩,Y⟩,Z⟩,O⟩:=h;refine ⟨?_,h2,fun y q e=>(h3 y q).resolve_left fun z=>z e,fun y q e=>(U y q).resolve_left fun z=>z e,fun y q e=>(W y q).resolve_left fun z=>z e,Y,Z,fun p hp j L=>?_⟩
 . revert h1;cases scope.kind<;>simp
 . have:=O p hp;cases e:p.2 with
   | none=>rw [e] at L;cases L
   | some j' =>rw [e] at L this;cases L;simpa using this
noncomputable def Plain (J:It) (xs:List V) (ok:Hp->Prop):Prop:=∀ i H,ok H->(i<xs.length->J.go i H)/\(i=xs.length->J.stop i H)/\∀ x H',i<xs.length->J.yld i H x H'->H'=H/\xs[i]?=some x
theorem plain_list:Plain (Itl K a) xs (fun H=>SqL K H a xs):=fun i H h =>⟨fun hi=>⟨xs,xs[i],h,by simp [hi]⟩,fun e=>⟨xs,h,by lia⟩,fun x H' _ y=>⟨y.1,y.2 xs h⟩⟩
theorem plain_tup:Plain (Itt K a) xs (fun H=>SqT K H a xs):=fun i H h =>⟨fun hi=>⟨xs,xs[i],h,by simp [hi]⟩,fun e=>⟨xs,h,by lia⟩,fun x H' _ y=>⟨y.1,y.2 xs h⟩⟩
noncomputable def j8 (lo:Int) (n:Nat):List V:=(qb6 n).map fun (i:Nat)=>V.int (lo+i)
theorem plain_range {lo:Int} {n:Nat}:Plain (Itr lo n) (j8 lo n) (fun _=>True):=fun i H h=>by
 refine ⟨fun hi=>?_,fun e=>?_,fun x H' hi y=>?_⟩
 . show i<n;simpa [j8] using hi
 . show n<=i;simp [j8] at e;lia
 . obtain ⟨e,rfl⟩:=y;refine ⟨e,?_⟩;unfold j8 at hi ⊢;rw [qa2,qh3] at hi;rw [qb1,qt4 hi];rfl
noncomputable def rm (x:Str):List V:=x.cps.toList.map fun c=>V.str ⟨#[c]⟩
theorem plain_str:Plain (Its x) (rm x) (fun _=>True):=fun i H h=>by
 refine ⟨fun hi=>?_,fun e=>?_,fun v H' hi y=>?_⟩
 . show i<x.cps.size;simpa [rm] using hi
 . show i=x.cps.size;simpa [rm] using e
 . obtain ⟨e,c,q,rfl⟩:=y;refine ⟨e,?_⟩;unfold rm;rw [qb1,qr5,q];rfl
noncomputable def zq (src:List (Option Nat)) (g:TG) (tt:TT) (te:TE) (σ:St) (J:It) (H1:Hp) (Q:VK) (D:Addr):Prop:=∃ W:Nat->Nat->Hp->Prop,(∃ m,W 0 m (upd H1 D (.lst [])))/\∀ i m H,W i m H→
 (J.stop i H/\Q (.ref D) H)∨(J.go i H/\∃ N:Hp->Prop,(∀ H',N H'->∃ O,O<m/\W (i+1) O H')/\∀ x H',J.yld i H x H'→
  g x (stC src σ) H' fun q H2=>Wk (stC src σ) q/\tt q H2 fun b L=>if b=true then te q L fun v U=>∃ ys,U D=some (.lst ys)/\ys.length<qb0/\N (upd U D (.lst (ys++[v]))) else N L)
variable {wi:TI} {g:TG} {te:TE}
theorem oj {tt:TT} {Q:VK}:lK src wi g tt te σ H Q=wi σ H fun J H1=>∀ D,H1 D=none->zq src g tt te σ J H1 Q D:=rfl
noncomputable def ForW (g:TG) (tb:TS) (D:Ends) (J:It) (σ:St) (H1:Hp):Prop:=∃ W:Nat->Nat->St->Hp->Prop,(∃ m,W 0 m σ H1)/\∀ i m σ H,W i m σ H→ (J.stop i H/\D.nx σ H)∨(J.go i H/\∃ N:St->Hp->Prop,(∀ σ' H',N σ' H'->∃ L,L<m/\W (i+1) L σ' H')/\∀ x H',J.yld i H x H'->g x σ H' fun q H2=>tb {D with nx:=N,ct:=N,bk:=D.nx} q H2)
theorem mW {tb:TS} {D:Ends}:tFor wi g tb D σ H=wi σ H fun J H1=>ForW g tb D J σ H1:=rfl
variable {v:V}
theorem u4 (q:Gl X x) (O:∃ u,X.mg x=some u/\RelV v u) (L:(x==("__debug__":Str))=false:=by decide):PE X (.Name x pos) (tC v):=by obtain ⟨u,h1,h2⟩:=O;exact xp q h1 h2 L
section
variable {P:qc4} {w:World} {H:Hp} {h:Heap} {cl:List (Str×Addr)}
end
section
variable {CX:CXT} {P:qc4} {w:World} {K:PySem.W.Frag} {mg:Str->Option Value} {base:Heap} {N ps fr:List Str} {name qual:Str} {params:qp7} {body:List Stmt} {scope:Scope} {f c':Addr} {cl:List (Str×Addr)} {A:qd9} {outer:List Env} {s s1:qa4} {H:Hp} {E:XK} {us:List Value} {vs fs:List V} {doc pm ctv:Value} {fo:Obj} {uf:HO} {xe:Value->qa4->Prop}
end
section
variable {X:Cx} {pins:List (Addr×Obj)} {σ:St} {H:Hp} {s:qa4} {c P:Addr} {qs:List ((Nat×Nat)×Str)} {name:Str} {params:qp7} {body:List Stmt} {scope:Scope} {clos:List (Str×Addr)} {pos:Pos}
end
section
variable {X:Cx} {K:PySem.W.Frag} {tg:Expr}
end
noncomputable def u5 (scope outer:Scope):Scope:={scope with names:=scope.names.map fun (n,k)=>if (k==.free&&outer.kind==.function&&outer.names.lookup n==some .cell) then (n,.cell) else (n,k)}
noncomputable def fO (sc:Scope) (N:List Str) (i:Nat) (x:Str):Bool:=decide (N[i]?=some x)&&(decide (sc.names.lookup x=some .local)||(decide (sc.names.lookup x=some .cell)||decide (sc.names.lookup x=some .free)))&&!(x==("__debug__":Str))&&!(x==("__classdict__":Str))
noncomputable def j9 (sc:Scope) (x:Str):Bool:=decide (sc.names.lookup x=some .local)||decide (sc.names.lookup x=some .cell)
noncomputable def aH (sc:Scope) (x:Str):Bool:=decide (sc.names.lookup x=some .globalImplicit)&&!(x==("__debug__":Str))&&!decide (x=("__name__":Str))
section
variable {sc:Scope} {N:List Str} {i:Nat} {x:Str}
theorem jf (h:fO sc N i x=true):N[i]?=some x:=by unfold fO at h;simp only [qb4,decide_eq_true_eq] at h;exact h.1.1.1
theorem AN (h:fO sc N i x=true):Vis sc x:=by unfold fO at h;simp only [qb4,qj4,decide_eq_true_eq] at h;exact h.1.1.2
theorem AO (h:fO sc N i x=true):(x==("__debug__":Str))=false:=by unfold fO at h;simp only [qb4,qm0] at h;exact h.1.2
theorem Cz (h:fO sc N i x=true):(x==("__classdict__":Str))=false:=by unfold fO at h;simp only [qb4,qm0] at h;exact h.2
theorem mX (h:j9 sc x=true):Loc sc x:=by unfold j9 at h;simp only [qj4,decide_eq_true_eq] at h;exact h
theorem q100 (h:aH sc x=true):sc.names.lookup x=some .globalImplicit:=by unfold aH at h;simp only [qb4,decide_eq_true_eq] at h;exact h.1.1
theorem ka (h:aH sc x=true):(x==("__debug__":Str))=false:=by unfold aH at h;simp only [qb4,qm0] at h;exact h.1.2
theorem y84 (h:aH sc x=true):x≠("__name__":Str):=by unfold aH at h;simp only [qb4,qm0,decide_eq_false_iff_not] at h;exact h.2
end
noncomputable def cP (X:Cx) (sc:Scope):Prop:=X.env.scope=sc
variable {i:Nat}
section
variable {X:Cx} {sc:Scope} {N:List Str} {x:Str} {pos p:Pos}
theorem pvD (i:Nat) (h:fO sc N i x=true) (e1:cP X sc:=by rfl) (e2:X.N=N:=by rfl):PE X (.Name x pos) (li i):=by have e1:X.env.scope=sc:=e1;subst e1 e2;exact Ae (jf h) (AN h) (AO h) (Cz h)
theorem glD (h:aH sc x=true) (e1:cP X sc:=by rfl):Gl X x:=by have e1:X.env.scope=sc:=e1;subst e1;exact q100 h
theorem rn {e:Expr} {pos':Pos} (h:fO sc N i x=true) (O:j9 sc x=true) (L:N.Nodup) (W:PE X e te) (e1:cP X sc:=by rfl) (e2:X.N=N:=by rfl) (U:X.fn x=true∨X.env.scope.names.lookup x=some .local:=by exact .inl rfl)
 (q:qm6 e (some (.Name x pos')) pos.line X.env=pure false:=by rfl):PS X (.Assign [.Name x pos'] e pos) (xu te (jq i)):=by
 have e1:X.env.scope=sc:=e1;subst e1 e2;exact Aq L (jf h) (mX O) W q U
theorem bJ (h:fO sc N i x=true) (L:j9 sc x=true) (q:N.Nodup) (e1:cP X sc:=by rfl) (e2:X.N=N:=by rfl) (O:X.fn x=true∨X.env.scope.names.lookup x=some .local:=by exact .inl rfl):PG X (.Name x pos) (jq i):=by have e1:X.env.scope=sc:=e1;subst e1 e2;exact qV q (jf h) (mX L) O
noncomputable def loOk (sc:Scope) (x:Str):Bool:=decide (sc.names.lookup x=some .local)
theorem aX (h:fO sc N i x=true) (q:loOk sc x=true) (L:X.N.Nodup) (e1:cP X sc) (e2:X.N=N:=by rfl):PG X (.Name x pos) (jq i):=by have e1:X.env.scope=sc:=e1;subst e1 e2;have q:X.env.scope.names.lookup x=some .local:=of_decide_eq_true q;exact qV L (jf h) (.inl q) (.inr q)
theorem kc (h:aH sc x=true) (q:∃ u,X.mg x=some u/\RelV v u) (e1:cP X sc:=by rfl):PE X (.Name x pos) (tC v):=u4 (glD h e1) q (ka h)
theorem u6 {u:Value} (h:aH sc x=true) (L:X.mg x=none) (q:qd7 x=some u) (r:RelV v u) (e1:cP X sc:=by rfl):PE X (.Name x pos) (tC v):=xq (glD h e1) L q r (y84 h) (ka h)
variable {e:Expr} {es:List Expr} {t:TA} {id T:String} {r:List V->Hp->VK->Prop} {k:Nat} {ps:List Str} {sp:Sp}
theorem g7 (h:aH sc x=true) (L:CallR X (.builtin id) r) (Y:X.mg x=none) (U:qd7 x=some (.builtin id)) (O:PA X (e::es) t) (e1:cP X sc:=by rfl)
  (W:qa6 (e::es) X.env=(false,eval e X.env)::qa6 es X.env:=by rfl) (q:(qh9 pos (qa6 es X.env)).any (·.1)=false:=by rfl):PE X (.Call (.Name x p) (e::es) [] pos) (tCB r t):=
 uP L (glD h e1) Y U O (y84 h) (ka h) W q
theorem ix (h:aH sc x=true) (L:CallR X (.type T) r) (Y:X.mg x=none) (U:qd7 x=some (.type T)) (O:PA X (e::es) t) (e1:cP X sc:=by rfl)
  (W:qa6 (e::es) X.env=(false,eval e X.env)::qa6 es X.env:=by rfl) (q:(qh9 pos (qa6 es X.env)).any (·.1)=false:=by rfl):PE X (.Call (.Name x p) (e::es) [] pos) (tCB r t):=
 sX L (glD h e1) Y U O (y84 h) (ka h) W q
theorem g8 (h:aH sc x=true) (F:OkF X.prog X.w X.K X.mg X.base x k ps sp) (L:Room k X.A) (U:PA X (e::es) t) (e1:cP X sc:=by rfl)
  (O:qa6 (e::es) X.env=(false,eval e X.env)::qa6 es X.env:=by rfl) (q:(qh9 pos (qa6 es X.env)).any (·.1)=false:=by rfl):PE X (.Call (.Name x p) (e::es) [] pos) (uO sp [] E0 t):=
 u3 F L (glD h e1) U (ka h) O q
variable {tg a b:Expr} {ta:TA}
theorem qa (h:aH sc "range"=true) (O:X.mg "range"=none) (L:PA X [a] ta) (e1:cP X sc:=by rfl) (q:qa6 [a] X.env=[(false,eval a X.env)]:=by rfl):PI X tg (.Call (.Name "range" p) [a] [] pos) (zg ta):=sR (glD h e1) O L q
end
section
variable {X:Cx} {M:List Str} {scope outer:Scope} {C:Addr} {s:qa4} {H:Hp} {ex:List Addr} {x:Str} {pos p:Pos}
theorem scC (q:cP X outer):cP (cxC X M scope C s H ex) (u5 scope outer):=by have q:X.env.scope=outer:=q;subst q;rfl
end
inductive Dt where
 | non | bl (b:Bool) | int (i:Int) | str (x:Str) | tup (l:List Dt) | lst (l:List Dt) | dct (ks:List Key) (l:List Dt) | dcT (ks:List (List Key)) (l:List Dt)
 | ins (c:Str) (ns:List Str) (l:List Dt)
mutual
noncomputable def peq:Dt->Dt->Bool
 | .non,.non=>true
 | .bl a,.bl b=>a==b
 | .bl a,.int j=>(if a then (1:Int) else 0)==j
 | .int i,.bl b=>i==(if b then (1:Int) else 0)
 | .int i,.int j=>i==j
 | .str x,.str y=>x==y
 | .tup l,.tup m=>peqs l m
 | .lst l,.lst m=>peqs l m
 | .dct ks l,.dct js m=>decide (ks=js)&&peqs l m
 | .dcT ks l,.dcT js m=>decide (ks=js)&&peqs l m
 | .ins _ _ _,.ins _ _ _=>true
 | _,_=>false
noncomputable def peqs:List Dt->List Dt->Bool
 | [],[]=>true
 | d::l,e::m=>peq d e&&peqs l m
 | _,_=>false
end
mutual
theorem iF:∀ d:Dt,peq d d=true
 | .non=>by simp [peq]
 | .bl b=>by simp [peq]
 | .int i=>by simp [peq]
 | .str x=>by simp [peq]
 | .tup l=>by simp only [peq];exact peqs_self l
 | .lst l=>by simp only [peq];exact peqs_self l
 | .dct ks l=>by simp only [peq,decide_true,qp9];exact peqs_self l
 | .dcT ks l=>by simp only [peq,decide_true,qp9];exact peqs_self l
 | .ins c ns l=>by simp only [peq]
theorem peqs_self:∀ l:List Dt,peqs l l=true
 | []=>by simp [peqs]
 | d::l=>by simp only [peqs,iF d,peqs_self l,qx6]
end
mutual
noncomputable def fZ:Dt->Nat
 | .tup l=>deeps l+1
 | .lst l=>deeps l+1
 | _=>0
noncomputable def deeps:List Dt->Nat
 | []=>0
 | d::l=>max (fZ d) (deeps l)
end
noncomputable def u7 (K:PySem.W.Frag) (c:Str) (C:Addr):Prop:=PySem.W.nsIn K qc5 c=some (some (.ref C))
mutual
noncomputable def Rep (K:PySem.W.Frag) (H:Hp):Dt->V->Prop
 | .non,v=>v=.non
 | .bl b,v=>v=.bl b
 | .int i,v=>v=.int i
 | .str x,v=>v=.str x
 | .tup l,v=>∃ a vs,v=.ref a/\SqT K H a vs/\Reps K H l vs
 | .lst l,v=>∃ a vs,v=.ref a/\SqL K H a vs/\Reps K H l vs
 | .dct ks l,v=>∃ a kvs,v=.ref a/\Rd H a (.dK kvs)/\kvs.map (·.1)=ks/\Reps K H l (kvs.map (·.2))
 | .dcT ks l,v=>∃ a kvs,v=.ref a/\Rd H a (.dT kvs)/\kvs.map (·.1)=ks/\Reps K H l (kvs.map (·.2))
 | .ins c ns l,v=>∃ a C dx fs,v=.ref a/\u7 K c C/\H a=some (.ins C dx fs)/\fs.map (·.1)=ns/\Reps K H l (fs.map (·.2))
noncomputable def Reps (K:PySem.W.Frag) (H:Hp):List Dt->List V->Prop
 | [],vs=>vs=[]
 | d::l,vs=>∃ v ws,vs=v::ws/\Rep K H d v/\Reps K H l ws
end
theorem Same.tup (e:Same H H') (h:SqT K H a xs):SqT K H' a xs:=by
 rcases h with h | h
 . exact .inl (e _ _ h)
 . exact .inr h
theorem Same.rd {u:HO} (e:Same H H') (h:Rd H a u):Rd H' a u:=by
 rcases h with h | ⟨o,h⟩
 . exact .inl (e _ _ h)
 . exact .inr ⟨o,e _ _ h⟩
mutual
theorem Rep.same {K:PySem.W.Frag} {H H':Hp} (e:Same H H'):∀ {d:Dt} {v:V},Rep K H d v->Rep K H' d v
 | .non,v,h=>h
 | .bl _,v,h=>h
 | .int _,v,h=>h
 | .str _,v,h=>h
 | .tup l,v,h=>by unfold Rep at h ⊢;obtain ⟨a,vs,h1,h2,h3⟩:=h;exact ⟨a,vs,h1,e.tup h2,Reps.same e h3⟩
 | .lst l,v,h=>by unfold Rep at h ⊢;obtain ⟨a,vs,h1,h2,h3⟩:=h;exact ⟨a,vs,h1,e.seq h2,Reps.same e h3⟩
 | .dct ks l,v,h=>by unfold Rep at h ⊢;obtain ⟨a,vs,h1,h2,h3,h4⟩:=h;exact ⟨a,vs,h1,e.rd h2,h3,Reps.same e h4⟩
 | .dcT ks l,v,h=>by unfold Rep at h ⊢;obtain ⟨a,vs,h1,h2,h3,h4⟩:=h;exact ⟨a,vs,h1,e.rd h2,h3,Reps.same e h4⟩
 | .ins c ns l,v,h=>by unfold Rep at h ⊢;obtain ⟨a,C,dx,fs,h1,h2,h3,h4,h5⟩:=h;exact ⟨a,C,dx,fs,h1,h2,e _ _ h3,h4,Reps.same e h5⟩
theorem Reps.same {K:PySem.W.Frag} {H H':Hp} (e:Same H H'):∀ {l:List Dt} {vs:List V},Reps K H l vs->Reps K H' l vs
 | [],vs,h=>h
 | d::l,vs,h=>by unfold Reps at h ⊢;obtain ⟨v,ws,h1,h2,h3⟩:=h;exact ⟨v,ws,h1,Rep.same e h2,Reps.same e h3⟩
end
theorem Reps.length:∀ {l:List Dt} {vs:List V},Reps K H l vs->vs.length=l.length
 | [],vs,h=>by unfold Reps at h;rw [h];rfl
 | d::l,vs,h=>by unfold Reps at h;obtain ⟨v,q,rfl,_,h3⟩:=h;simp [Reps.length h3]
theorem Reps.get:∀ {l:List Dt} {vs:List V} {i:Nat} {d:Dt},Reps K H l vs->l[i]?=some d->∃ v,vs[i]?=some v/\Rep K H d v
 | [],vs,i,d,h,e=>by simp at e
 | d0::l,vs,0,d,h,e=>by unfold Reps at h;obtain ⟨v,q,rfl,h2,_⟩:=h;simp at e;subst e;exact ⟨v,rfl,h2⟩
 | d0::l,vs,i+1,d,h,e=>by unfold Reps at h;obtain ⟨v,q,rfl,_,h3⟩:=h;obtain ⟨u,L,e2⟩:=Reps.get (i:=i) h3 (by simpa using e);exact ⟨u,by simpa using L,e2⟩
theorem Reps.append:∀ {l m:List Dt} {vs q:List V},Reps K H l vs->Reps K H m q->Reps K H (l++m) (vs++q)
 | [],m,vs,q,h,h'=>by unfold Reps at h;rw [h];exact h'
 | d::l,m,vs,q,h,h'=>by unfold Reps at h;obtain ⟨v,us,rfl,h2,h3⟩:=h;show Reps K H (d::(l++m)) (v::(us++q));unfold Reps;exact ⟨v,_,rfl,h2,Reps.append h3 h'⟩
theorem Reps.one {d:Dt} (h:Rep K H d v):Reps K H [d] [v]:=by unfold Reps;exact ⟨v,[],rfl,h,by unfold Reps;rfl⟩
theorem Reps.take:∀ {l:List Dt} {vs:List V} (n:Nat),Reps K H l vs->Reps K H (l.take n) (vs.take n)
 | _,_,0,_=>by simp [Reps]
 | [],vs,n+1,h=>by unfold Reps at h;rw [h];simp [Reps]
 | d::l,vs,n+1,h=>by unfold Reps at h;obtain ⟨v,us,rfl,h2,h3⟩:=h;show Reps K H (d::l.take n) (v::us.take n);unfold Reps;exact ⟨v,_,rfl,h2,Reps.take n h3⟩
theorem Reps.drop:∀ {l:List Dt} {vs:List V} (n:Nat),Reps K H l vs->Reps K H (l.drop n) (vs.drop n)
 | _,_,0,h=>h
 | [],vs,n+1,h=>by unfold Reps at h;rw [h];simp [Reps]
 | d::l,vs,n+1,h=>by unfold Reps at h;obtain ⟨v,us,rfl,h2,h3⟩:=h;exact Reps.drop n h3
variable {u:List (Key×V)} {C dx:Addr} {vs:List V}
section
variable {X:Cx} {pins:List (Addr×Obj)} {σ:St} {H:Hp} {s:qa4} {K:PySem.W.Frag}
theorem Inv.notBoth {ys:List V} (I:Inv X pins σ H s) (h:SqL X.K H a xs) (h':SqT X.K H a ys):False:=by obtain ⟨its,r,U,_⟩:=I.list h;obtain ⟨its',r',pt,_⟩:=I.tuple h';obtain ⟨o,n,e,O,_⟩:=U;obtain ⟨o',L,q,_⟩:=pt;rw [e] at L;cases L;rw [O] at q;injection q with z;exact absurd z (by decide)
theorem CA {w:List (Key×V)} (h:Rd H a (.dK u)) (h':Rd H a (.dK w)):u=w:=by rcases h with h | ⟨o,h⟩<;>rcases h' with h' | ⟨o',h'⟩<;>rw [h] at h'<;>cases h'<;>rfl
theorem CB {u w:List (List Key×V)} (h:Rd H a (.dT u)) (h':Rd H a (.dT w)):u=w:=by rcases h with h | ⟨o,h⟩<;>rcases h' with h' | ⟨o',h'⟩<;>rw [h] at h'<;>cases h'<;>rfl
theorem jN {u:HO} (h:Rd H a u):∃ o,H a=some o:=by
 rcases h with h | ⟨o,h⟩
 . exact ⟨_,h⟩
 . exact ⟨_,h⟩
theorem Inv.kNone (I:Inv X pins σ H s) {o:Obj} (h:X.K.lookup a=some o):H a=none:=(I.bs a o (I.ok.mod.kin a o h)).2
theorem Inv.sqT_dK (I:Inv X pins σ H s) (h:SqT X.K H a xs) (h':Rd H a (.dK u)):False:=by
 rcases h with h | ⟨o,_,_,h,_⟩
 . rcases h' with h' | ⟨o',h'⟩<;>rw [h] at h'<;>cases h'
 . obtain ⟨o',e⟩:=jN h';rw [I.kNone h] at e;cases e
theorem Inv.sqT_dT (I:Inv X pins σ H s) {u:List (List Key×V)} (h:SqT X.K H a xs) (h':Rd H a (.dT u)):False:=by
 rcases h with h | ⟨o,_,_,h,_⟩
 . rcases h' with h' | ⟨o',h'⟩<;>rw [h] at h'<;>cases h'
 . obtain ⟨o',e⟩:=jN h';rw [I.kNone h] at e;cases e
theorem Inv.sqL_dK (I:Inv X pins σ H s) (h:SqL X.K H a xs) (h':Rd H a (.dK u)):False:=by
 rcases h with h | ⟨o,_,_,h,_⟩
 . rcases h with h | ⟨o,h⟩<;>rcases h' with h' | ⟨o',h'⟩<;>rw [h] at h'<;>cases h'
 . obtain ⟨o',e⟩:=jN h';rw [I.kNone h] at e;cases e
theorem Inv.sqL_dT (I:Inv X pins σ H s) {u:List (List Key×V)} (h:SqL X.K H a xs) (h':Rd H a (.dT u)):False:=by
 rcases h with h | ⟨o,_,_,h,_⟩
 . rcases h with h | ⟨o,h⟩<;>rcases h' with h' | ⟨o',h'⟩<;>rw [h] at h'<;>cases h'
 . obtain ⟨o',e⟩:=jN h';rw [I.kNone h] at e;cases e
theorem u8 {w:List (List Key×V)} (h:Rd H a (.dK u)) (h':Rd H a (.dT w)):False:=by rcases h with h | ⟨o,h⟩<;>rcases h' with h' | ⟨o',h'⟩<;>rw [h] at h'<;>cases h'
noncomputable def cX:Dt->Nat
 | .non=>0
 | .bl _=>1
 | .int _=>2
 | .str _=>3
 | .tup _=>4
 | .lst _=>5
 | .dct _ _=>6
 | .dcT _ _=>7
 | .ins _ _ _=>8
theorem rq (I:Inv X pins σ H s) {fs:List (Str×V)} (h:SqT X.K H a vs) (h':H a=some (.ins C dx fs)):False:=by
 rcases h with h | ⟨o,its,n,h,_⟩
 . rw [h'] at h;cases h
 . rw [I.kNone h] at h';cases h'
theorem rz (I:Inv X pins σ H s) {fs:List (Str×V)} (h:SqL X.K H a vs) (h':H a=some (.ins C dx fs)):False:=by
 rcases h with (h | ⟨o,h⟩) | ⟨o,its,n,h,_⟩
 . rw [h'] at h;cases h
 . rw [h'] at h;cases h
 . rw [I.kNone h] at h';cases h'
theorem rA {fs:List (Str×V)} (h:Rd H a (.dK u)) (h':H a=some (.ins C dx fs)):False:=by rcases h with h | ⟨o,h⟩<;>rw [h] at h'<;>cases h'
theorem rB {fs:List (Str×V)} {u:List (List Key×V)} (h:Rd H a (.dT u)) (h':H a=some (.ins C dx fs)):False:=by rcases h with h | ⟨o,h⟩<;>rw [h] at h'<;>cases h'
theorem dJ (I:Inv X pins σ H s) {d e:Dt} (h:Rep X.K H d v) (h':Rep X.K H e v):cX d=cX e:=by
 cases d<;>cases e<;>first
  | rfl
  | (simp only [Rep] at h h';subst h;cases h';done)
  | (simp only [Rep] at h h';obtain ⟨_,_,e,_⟩:=h';rw [h] at e;cases e;done)
  | (simp only [Rep] at h h';obtain ⟨_,_,e,_⟩:=h;rw [h'] at e;cases e;done)
  | (simp only [Rep] at h h';obtain ⟨_,_,rfl,h2,_⟩:=h;obtain ⟨_,_,e,q,_⟩:=h';cases e
     first
      | exact (I.sqT_dK h2 q).elim
      | exact (I.sqT_dK q h2).elim
      | exact (I.sqT_dT h2 q).elim
      | exact (I.sqT_dT q h2).elim
      | exact (I.notBoth h2 q).elim
      | exact (I.notBoth q h2).elim
      | exact (I.sqL_dK h2 q).elim
      | exact (I.sqL_dK q h2).elim
      | exact (I.sqL_dT h2 q).elim
      | exact (I.sqL_dT q h2).elim
      | exact (u8 h2 q).elim
      | exact (u8 q h2).elim)
  | (simp only [Rep] at h h';obtain ⟨_,_,_,_,e,_⟩:=h';rw [h] at e;cases e;done)
  | (simp only [Rep] at h h';obtain ⟨_,_,_,_,e,_⟩:=h;rw [h'] at e;cases e;done)
  | (simp only [Rep] at h h';obtain ⟨_,_,_,_,rfl,_,h2,_⟩:=h;obtain ⟨_,_,e,q,_⟩:=h';cases e
     first
      | exact (rq I q h2).elim
      | exact (rz I q h2).elim
      | exact (rA q h2).elim
      | exact (rB q h2).elim)
  | (simp only [Rep] at h h';obtain ⟨_,_,_,_,rfl,_,h2,_⟩:=h';obtain ⟨_,_,e,q,_⟩:=h;cases e
     first
      | exact (rq I q h2).elim
      | exact (rz I q h2).elim
      | exact (rA q h2).elim
      | exact (rB q h2).elim)
mutual
theorem mY (I:Inv X pins σ H s):∀ (d e:Dt) (v:V),Rep X.K H d v->Rep X.K H e v->peq d e=true:=fun d=>by
 match d with
 | .tup l =>
  intro e v h h';have hk:=dJ I h h';cases e<;>first | (simp [cX] at hk;done) | skip
  simp only [Rep] at h h';obtain ⟨a,vs,rfl,h2,h3⟩:=h;obtain ⟨b,ws,e,h2',h3'⟩:=h';cases e;have:=I.tuple_inj h2 h2';subst this;simp only [peq];exact reps_inj I l _ _ h3 h3'
 | .lst l =>
  intro e v h h';have hk:=dJ I h h';cases e<;>first | (simp [cX] at hk;done) | skip
  simp only [Rep] at h h';obtain ⟨a,vs,rfl,h2,h3⟩:=h;obtain ⟨b,ws,e,h2',h3'⟩:=h';cases e;have:=I.list_inj h2 h2';subst this;simp only [peq];exact reps_inj I l _ _ h3 h3'
 | .dct ks l =>
  intro e v h h';have hk:=dJ I h h';cases e<;>first | (simp [cX] at hk;done) | skip
  simp only [Rep] at h h';obtain ⟨a,vs,rfl,h2,h3,h4⟩:=h;obtain ⟨b,ws,e,h2',h3',h4'⟩:=h';cases e;have:=CA h2 h2';subst this;subst h3 h3';simp only [peq,decide_true,qp9];exact reps_inj I l _ _ h4 h4'
 | .dcT ks l =>
  intro e v h h';have hk:=dJ I h h';cases e<;>first | (simp [cX] at hk;done) | skip
  simp only [Rep] at h h';obtain ⟨a,vs,rfl,h2,h3,h4⟩:=h;obtain ⟨b,ws,e,h2',h3',h4'⟩:=h';cases e;have:=CB h2 h2';subst this;subst h3 h3';simp only [peq,decide_true,qp9];exact reps_inj I l _ _ h4 h4'
 | .ins c ns l =>
  intro e v h h';have hk:=dJ I h h';cases e<;>first | (simp [cX] at hk;done) | skip
  simp only [peq]
 | .non =>intro e v h h';have hk:=dJ I h h';cases e<;>first | (simp [cX] at hk;done) | simp only [peq]
 | .bl b =>intro e v h h';have hk:=dJ I h h';cases e<;>first | (simp [cX] at hk;done) | (simp only [Rep] at h h';rw [h] at h';cases h';exact iF _)
 | .int b =>intro e v h h';have hk:=dJ I h h';cases e<;>first | (simp [cX] at hk;done) | (simp only [Rep] at h h';rw [h] at h';cases h';exact iF _)
 | .str b =>intro e v h h';have hk:=dJ I h h';cases e<;>first | (simp [cX] at hk;done) | (simp only [Rep] at h h';rw [h] at h';cases h';exact iF _)
theorem reps_inj (I:Inv X pins σ H s):∀ (l m:List Dt) (vs:List V),Reps X.K H l vs->Reps X.K H m vs->peqs l m=true:=fun l=>by
 match l with
 | [] =>
  intro m vs h h';cases m with
  | nil=>simp only [peqs]
  | cons e m=>unfold Reps at h h';obtain ⟨v,ws,e,_⟩:=h';rw [h] at e;cases e
 | d::l =>
  intro m vs h h';cases m with
  | nil=>unfold Reps at h h';obtain ⟨v,ws,e,_⟩:=h;rw [h'] at e;cases e
  | cons e m =>unfold Reps at h h';obtain ⟨v,ws,rfl,h2,h3⟩:=h;obtain ⟨v',ws',e',h2',h3'⟩:=h';cases e';simp only [peqs,mY I d _ _ h2 h2',reps_inj I l _ _ h3 h3',qx6]
end
end
end L2
namespace L2
open PySem PySem.Spec PyProof.Rows
mutual
noncomputable def dX:Dt->Dt->Bool
 | .tup l,.tup m=>cmpbs l m
 | .lst l,.lst m=>cmpbs l m
 | d,e=>decide (cX d<4)&&decide (cX e<4)
noncomputable def cmpbs:List Dt->List Dt->Bool
 | d::l,e::m=>dX d e&&cmpbs l m
 | _,_=>true
end
theorem fP:∀ {l m:List Dt} {j:Nat} {d e:Dt},cmpbs l m=true->l[j]?=some d->m[j]?=some e->dX d e=true
 | [],_,j,d,e,_,h,_=>by simp at h
 | _::_,[],j,d,e,_,_,h=>by simp at h
 | d0::l,e0::m,0,d,e,h,h1,h2=>by simp only [cmpbs,qb4] at h;simp at h1 h2;subst h1 h2;exact h.1
 | d0::l,e0::m,j+1,d,e,h,h1,h2=>by simp only [cmpbs,qb4] at h;exact fP (j:=j) h.2 (by simpa using h1) (by simpa using h2)
theorem gx:∀ {l:List Dt} {j:Nat} {d:Dt},l[j]?=some d->fZ d<=deeps l
 | [],j,d,h=>by simp at h
 | d0::l,0,d,h=>by simp at h;subst h;simp only [deeps];exact Nat.le_max_left ..
 | d0::l,j+1,d,h=>by simp only [deeps];exact qc7 (gx (j:=j) (by simpa using h)) (Nat.le_max_right ..)
noncomputable def dj (l m:List Dt) (j:Nat):Bool:=peq (l.getD j .non) (m.getD j .non)
theorem eU:∀ (l m:List Dt),peqs l m=((qb6 (min l.length m.length)).all (dj l m)&&l.length==m.length)
 | [],[]=>by simp [peqs]
 | [],_::_=>by simp [peqs]
 | _::_,[]=>by simp [peqs]
 | d::l,e::m=>by
  have O:=eU l m;simp only [peqs,O,qc8];rw [show min (l.length+1) (m.length+1)=min l.length m.length+1 by lia,qz3,qk4,List.all_map];have L:dj (d::l) (e::m) 0=peq d e:=rfl
  have e2:(dj (d::l) (e::m) ∘ Nat.succ)=dj l m:=by funext j;rfl
  have q:(l.length+1==m.length+1)=(l.length==m.length):=by rw [ql6];simp
  rw [L,e2,q,Bool.and_assoc]
variable {K:PySem.W.Frag}
section
variable {X:Cx} {pins:List (Addr×Obj)} {σ:St} {H:Hp} {s:qa4}
theorem dA {l:List Dt} {vs:List V} {its:List Value} (h:Reps X.K H l vs) (r:Vals vs its) {j:Nat} (L:j<its.length):∃ d v,l[j]?=some d/\Rep X.K H d v/\RelV v its[j]:=by
 have O:j<l.length:=by rw [<- h.length,r.length];exact L
 obtain ⟨v,U,e2⟩:=h.get (i:=j) (d:=l[j]) (by simp [O]);obtain ⟨u,q,W⟩:=r.get U
 have:its[j]=u:=by have:=gQ L;rw [this] at q;exact qe9 q
 exact ⟨l[j],v,by simp [O],e2,by rw [this];exact W⟩
theorem zr (I:Inv X pins σ H s):∀ (n:Nat) {A:qd9} {d e:Dt} {v w:V} {u u':Value},fZ d<=n->A.units+n<cLine->dX d e=true->Rep X.K H d v->Rep X.K H e w->RelV v u->RelV w u'->qf6 A s u u' (peq d e):=by
 intro n;induction n with
 | zero =>
  intro A d e v w u u' hd hu q h h' r r'
  cases d<;>cases e<;>first
   | (simp only [Rep] at h h';subst h h';exact jd r r' rfl rfl)
   | (simp only [fZ] at hd;lia)
   | (simp [dX,cX] at q)
 | succ n ih =>
  intro A d e v w u u' hd hu q h h' r r';cases d with
  | tup l =>
   cases e with
   | tup m =>
    have h0:=h;have h0':=h';simp only [Rep] at h h';obtain ⟨a,vs,rfl,h2,h3⟩:=h;obtain ⟨b,ws,rfl,L,W⟩:=h';cases r;cases r';by_cases U:a=b
    . subst U;have:=mY I _ _ _ h0 h0';rw [this];exact za2 _
    obtain ⟨its,rv,pt,_⟩:=I.tuple h2;obtain ⟨its',Y,pt',_⟩:=I.tuple L;have n1:its.length=l.length:=by rw [<- h3.length,rv.length]
    have n2:its'.length=m.length:=by rw [<- W.length,Y.length]
    simp only [peq];rw [eU,<- n1,<- n2];simp only [fZ] at hd;simp only [dX] at q
    have key:=qw4.tuples (A:=A) (e:=dj l m) pt pt' (by lia) (fun j h1 h2=>by
     have h1':j<its.length:=by simpa using h1
     have L:j<its'.length:=by simpa using h2
     obtain ⟨d,v,g1,g2,g3⟩:=dA h3 rv h1';obtain ⟨e,w,Z,g2',g3'⟩:=dA W Y L;have:dj l m j=peq d e:=by unfold dj;rw [qc1,qc1,g1,Z];rfl
     rw [this];have:=ih (A:=A.in1) (qc7 (gx g1) (by lia)) (show A.units+1+n<cLine by lia) (fP q g1 Z) g2 g2' g3 g3';simpa using this)
    have key':qw4 A s (.ref a) (.ref b) ((qb6 (min its.length its'.length)).all (dj l m)&&its.length==its'.length):=by simpa using key
    exact qu8 U key'
   | _=>exact absurd q (by simp [dX,cX])
  | lst l =>
   cases e with
   | lst m =>
    have h0:=h;have h0':=h';simp only [Rep] at h h';obtain ⟨a,vs,rfl,h2,h3⟩:=h;obtain ⟨b,ws,rfl,L,W⟩:=h';cases r;cases r';by_cases U:a=b
    . subst U;have:=mY I _ _ _ h0 h0';rw [this];exact za2 _
    obtain ⟨its,rv,pt,_⟩:=I.list h2;obtain ⟨its',Y,pt',_⟩:=I.list L;have n1:its.length=l.length:=by rw [<- h3.length,rv.length]
    have n2:its'.length=m.length:=by rw [<- W.length,Y.length]
    simp only [peq];rw [eU,<- n1,<- n2];simp only [fZ] at hd;simp only [dX] at q;by_cases O:its.length=its'.length
    . have key:=qw4.lists (A:=A) (e:=dj l m) pt.isList pt'.isList (by simpa using O) (by lia) (fun j h1 h2=>by
       have h1':j<its.length:=by simpa using h1
       have L:j<its'.length:=by simpa using h2
       obtain ⟨d,v,g1,g2,g3⟩:=dA h3 rv h1';obtain ⟨e,w,Z,g2',g3'⟩:=dA W Y L;have:dj l m j=peq d e:=by unfold dj;rw [qc1,qc1,g1,Z];rfl
       rw [this];have:=ih (A:=A.in1) (qc7 (gx g1) (by lia)) (show A.units+1+n<cLine by lia) (fP q g1 Z) g2 g2' g3 g3';simpa using this)
      have e1:(its.length==its'.length)=true:=by simpa using O
      rw [e1,qs6,show min its.length its'.length=its.length by lia];exact qu8 U (by simpa using key)
    . have e1:(its.length==its'.length)=false:=by simpa using O
      rw [e1,qv1];exact qu8 U (qw5 pt.isList pt'.isList (by simpa using O) (by lia))
   | _=>exact absurd q (by simp [dX,cX])
  | non=>cases e<;>first | (simp only [Rep] at h h';subst h h';exact jd r r' rfl rfl) | (simp [dX,cX] at q)
  | bl b=>cases e<;>first | (simp only [Rep] at h h';subst h h';exact jd r r' rfl rfl) | (simp [dX,cX] at q)
  | int b=>cases e<;>first | (simp only [Rep] at h h';subst h h';exact jd r r' rfl rfl) | (simp [dX,cX] at q)
  | str b=>cases e<;>first | (simp only [Rep] at h h';subst h h';exact jd r r' rfl rfl) | (simp [dX,cX] at q)
  | dct ks l=>cases e<;>(simp [dX,cX] at q)
  | dcT ks l=>cases e<;>(simp [dX,cX] at q)
  | ins c ns l=>cases e<;>(simp [dX,cX] at q)
theorem zt (I:Inv X pins σ H s) {A:qd9} {d e:Dt} {v w:V} {u u':Value} (hq:(∃ l m,d=.tup l/\e=.tup m)∨∃ l m,d=.lst l/\e=.lst m) (hu:A.units+fZ d<cLine) (hc:dX d e=true) (h:Rep X.K H d v) (h':Rep X.K H e w) (r:RelV v u) (r':RelV w u') :
  qw4 A s u u' (peq d e)/\za5 A s u u' (!peq d e):=by
 rcases hq with ⟨l,m,rfl,rfl⟩ | ⟨l,m,rfl,rfl⟩
 . simp only [Rep] at h h';obtain ⟨a,vs,rfl,h2,h3⟩:=h;obtain ⟨b,ws,rfl,O,W⟩:=h';cases r;cases r';obtain ⟨its,rv,pt,_⟩:=I.tuple h2;obtain ⟨its',Y,L,_⟩:=I.tuple O;have n1:its.length=l.length:=by rw [<- h3.length,rv.length]
   have n2:its'.length=m.length:=by rw [<- W.length,Y.length]
   simp only [peq];rw [eU,<- n1,<- n2];simp only [fZ] at hu;simp only [dX] at hc
   have he:∀ j (h1:j<its.toArray.size) (h2:j<its'.toArray.size),qf6 A.in1 s its.toArray[j] its'.toArray[j] (dj l m j):=fun j h1 h2=>by
    have Z:j<its.length:=by simpa using h1
    have O:j<its'.length:=by simpa using h2
    obtain ⟨d,v,g1,g2,g3⟩:=dA h3 rv Z;obtain ⟨e,w,U,g2',g3'⟩:=dA W Y O;have:dj l m j=peq d e:=by unfold dj;rw [qc1,qc1,g1,U];rfl
    rw [this];have:=zr I (deeps l) (A:=A.in1) (gx g1) (show A.units+1+deeps l<cLine by lia) (fP hc g1 U) g2 g2' g3 g3';simpa using this
   exact ⟨by simpa using qw4.tuples (A:=A) (e:=dj l m) pt L (by lia) he,by simpa using za5.tuples (A:=A) (e:=dj l m) pt L (by lia) he⟩
 . simp only [Rep] at h h';obtain ⟨a,vs,rfl,h2,h3⟩:=h;obtain ⟨b,ws,rfl,O,W⟩:=h';cases r;cases r';obtain ⟨its,rv,pt,_⟩:=I.list h2;obtain ⟨its',Y,L,_⟩:=I.list O;have n1:its.length=l.length:=by rw [<- h3.length,rv.length]
   have n2:its'.length=m.length:=by rw [<- W.length,Y.length]
   simp only [peq];rw [eU,<- n1,<- n2];simp only [fZ] at hu;simp only [dX] at hc;by_cases q:its.length=its'.length
   . have he:∀ j (h1:j<its.toArray.size) (h2:j<its'.toArray.size),qf6 A.in1 s its.toArray[j] its'.toArray[j] (dj l m j):=fun j h1 h2=>by
      have Z:j<its.length:=by simpa using h1
      have O:j<its'.length:=by simpa using h2
      obtain ⟨d,v,g1,g2,g3⟩:=dA h3 rv Z;obtain ⟨e,w,U,g2',g3'⟩:=dA W Y O;have:dj l m j=peq d e:=by unfold dj;rw [qc1,qc1,g1,U];rfl
      rw [this];have:=zr I (deeps l) (A:=A.in1) (gx g1) (show A.units+1+deeps l<cLine by lia) (fP hc g1 U) g2 g2' g3 g3';simpa using this
     have e1:(its.length==its'.length)=true:=by simpa using q
     rw [e1,qs6,show min its.length its'.length=its.length by lia];exact ⟨by simpa using qw4.lists (A:=A) (e:=dj l m) pt.isList L.isList (by simpa using q) (by lia) he,by simpa using za5.lists (A:=A) (e:=dj l m) pt.isList L.isList (by simpa using q) (by lia) he⟩
   . have e1:(its.length==its'.length)=false:=by simpa using q
     rw [e1,qv1];exact ⟨qw5 pt.isList L.isList (by simpa using q) (by lia),za5.lists_lengths pt.isList L.isList (by simpa using q) (by lia)⟩
noncomputable def xN (K:PySem.W.Frag) (neg:Bool):R2:=fun x y H Q=>∃ d e,((∃ l m,d=.tup l/\e=.tup m)∨∃ l m,d=.lst l/\e=.lst m)/\Rep K H d x/\Rep K H e y/\dX d e=true/\fZ d<=60/\Q (.bl (if neg then !peq d e else peq d e)) H
theorem AQ {k:Nat} (O:Room k X.A) (Y:X.K=K):OpR X (qe6 .Eq) (xN K false):=by subst Y;intro pins s σ H x y v u Q I L ry h;obtain ⟨d,e,Z,hd,he,W,U,q⟩:=h;have hu:=O.units;exact (zt I Z (by lia) W hd he L ry).1 _ _ _ _ ⟨.bl (peq d e),H,I,rfl,q⟩
theorem AR {k:Nat} (O:Room k X.A) (Y:X.K=K):OpR X (qe6 .NotEq) (xN K true):=by subst Y;intro pins s σ H x y v u Q I L ry h;obtain ⟨d,e,Z,hd,he,W,U,q⟩:=h;have hu:=O.units;exact (zt I Z (by lia) W hd he L ry).2 _ _ _ _ ⟨.bl (!peq d e),H,I,rfl,q⟩
end
end L2
namespace L2
open PySem PySem.Spec PyProof.Rows
structure Step (F H F' H':Hp):Prop where
 hh:Same H H'
 ff:Same F F'
 fh:Same F' H'
 nw:∀ b o,F' b=some o->F b=some o∨H b=none
section
variable {F H F' H' F1 H1:Hp} {p:Addr} {o:HO}
theorem Step.refl (h:Same F H):Step F H F H:=⟨Same.refl _,Same.refl _,h,fun _ _ e=>.inl e⟩
theorem Step.trans (a:Step F H F1 H1) (b:Step F1 H1 F' H'):Step F H F' H':=⟨a.hh.trans b.hh,a.ff.trans b.ff,b.fh,fun c o e=>(b.nw c o e).elim (a.nw c o) fun z=>.inr (a.hh.free z)⟩
theorem Same.upd (hp:H p=none):Same H (upd H p o):=fun b u e=>by rw [aS (cg e hp)];exact e
theorem Step.new (h:Same F H) (hp:H p=none):Step F H (upd F p o) (upd H p o) where
 hh:=Same.upd hp
 ff:=Same.upd (h.free hp)
 fh:=fun b u e=>by
  by_cases q:b=p
  . subst q;rw [bi] at e ⊢;exact e
  . rw [aS q] at e ⊢;exact h _ _ e
 nw:=fun b u e=>by
  by_cases q:b=p
  . subst q;exact .inr hp
  . rw [aS q] at e;exact .inl e
theorem Step.made (h:Same F H) (hp:H p=none):Step F H F (upd H p o) where
 hh:=Same.upd hp
 ff:=Same.refl _
 fh:=h.trans (Same.upd hp)
 nw:=fun b u e=>.inl e
end
inductive Fl where
 | leaf (d:Dt) | lst (l:List Dt) | dct (l:List (Key×Dt)) | dcT (l:List (List Key×Dt))
noncomputable def Fl.d:Fl->Dt
 | .leaf d=>d
 | .lst l=>.lst l
 | .dct l=>.dct (l.map (·.1)) (l.map (·.2))
 | .dcT l=>.dcT (l.map (·.1)) (l.map (·.2))
inductive T where
 | leaf (d:Dt) | lst (l:List Dt) | dct (l:List (Key×Dt)) | dcT (l:List (List Key×Dt)) | obj (c:Str) (ns:List Str) (l:List Fl) | pin (a:Addr) (t:T)
noncomputable def T.d:T->Dt
 | .leaf d=>d
 | .lst l=>.lst l
 | .dct l=>.dct (l.map (·.1)) (l.map (·.2))
 | .dcT l=>.dcT (l.map (·.1)) (l.map (·.2))
 | .obj c ns l=>.ins c ns (l.map Fl.d)
 | .pin _ t=>t.d
noncomputable def OwnF (K:PySem.W.Frag) (F H:Hp):Fl->V->(Addr->Prop)->Prop
 | .leaf d,v,_=>Rep K F d v
 | .lst l,v,S=>∃ a vs,v=.ref a/\S a/\H a=some (.lst vs)/\Reps K F l vs
 | .dct l,v,S=>∃ a kvs,v=.ref a/\S a/\H a=some (.dK kvs)/\kvs.map (·.1)=l.map (·.1)/\Reps K F (l.map (·.2)) (kvs.map (·.2))
 | .dcT l,v,S=>∃ a kvs,v=.ref a/\S a/\H a=some (.dT kvs)/\kvs.map (·.1)=l.map (·.1)/\Reps K F (l.map (·.2)) (kvs.map (·.2))
structure OwnFs (K:PySem.W.Frag) (F H:Hp) (l:List Fl) (vs:List V) (a:Addr) (S:Addr->Prop) (Z:Nat->Addr->Prop):Prop where
 len:l.length=vs.length
 own:∀ i f v,l[i]?=some f->vs[i]?=some v->OwnF K F H f v (Z i)
 sub:∀ i b,Z i b->S b/\b≠a
 dis:∀ i j b,Z i b->Z j b->i=j
noncomputable def Own (K:PySem.W.Frag) (F H:Hp):T->V->(Addr->Prop)->Prop
 | .leaf d,v,_=>Rep K F d v
 | .lst l,v,S=>∃ a vs,v=.ref a/\S a/\H a=some (.lst vs)/\Reps K F l vs
 | .dct l,v,S=>∃ a kvs,v=.ref a/\S a/\H a=some (.dK kvs)/\kvs.map (·.1)=l.map (·.1)/\Reps K F (l.map (·.2)) (kvs.map (·.2))
 | .dcT l,v,S=>∃ a kvs,v=.ref a/\S a/\H a=some (.dT kvs)/\kvs.map (·.1)=l.map (·.1)/\Reps K F (l.map (·.2)) (kvs.map (·.2))
 | .obj c ns l,v,S=>∃ a C dx fs Z,v=.ref a/\S a/\u7 K c C/\H a=some (.ins C dx fs)/\fs.map (·.1)=ns/\OwnFs K F H l (fs.map (·.2)) a S Z
 | .pin a t,v,S=>v=.ref a/\(∀ d,t≠.leaf d)/\Own K F H t v S
noncomputable def RepB (K:PySem.W.Frag) (F H:Hp):Dt->V->Prop
 | .lst l,v=>∃ a vs,v=.ref a/\SqL K H a vs/\Reps K F l vs
 | .dct ks l,v=>∃ a kvs,v=.ref a/\Rd H a (.dK kvs)/\kvs.map (·.1)=ks/\Reps K F l (kvs.map (·.2))
 | .dcT ks l,v=>∃ a kvs,v=.ref a/\Rd H a (.dT kvs)/\kvs.map (·.1)=ks/\Reps K F l (kvs.map (·.2))
 | .ins c ns l,v=>Rep K H (.ins c ns l) v
 | .non,v=>v=.non
 | .bl b,v=>v=.bl b
 | .int i,v=>v=.int i
 | .str x,v=>v=.str x
 | .tup l,v=>∃ a vs,v=.ref a/\SqT K F a vs/\Reps K F l vs
variable {K:PySem.W.Frag} {H F' H':Hp} {v:V}
theorem OwnF.step {F:Hp} {t:Fl} {S:Addr->Prop} (ff:Same F F') (L:∀ b o,S b->H b=some o->H' b=some o) (h:OwnF K F H t v S):OwnF K F' H' t v S:=by
 cases t with
 | leaf d=>exact Rep.same ff h
 | lst l =>obtain ⟨a,vs,e,q,h1,h2⟩:=h;exact ⟨a,vs,e,q,L _ _ q h1,h2.same ff⟩
 | dct l =>obtain ⟨a,vs,e,q,h1,h2,h3⟩:=h;exact ⟨a,vs,e,q,L _ _ q h1,h2,h3.same ff⟩
 | dcT l =>obtain ⟨a,vs,e,q,h1,h2,h3⟩:=h;exact ⟨a,vs,e,q,L _ _ q h1,h2,h3.same ff⟩
variable {G:Hp}
theorem OwnF.rep {F:Hp} {t:Fl} {S:Addr->Prop} (ff:Same F G) (L:∀ b o,S b->H b=some o->G b=some o) (h:OwnF K F H t v S):Rep K G t.d v:=by
 cases t with
 | leaf d=>exact Rep.same ff h
 | lst l =>obtain ⟨a,vs,e,q,h1,h2⟩:=h;simp only [Fl.d,Rep];exact ⟨a,vs,e,SqL.of (L _ _ q h1),h2.same ff⟩
 | dct l =>obtain ⟨a,vs,e,q,h1,h2,h3⟩:=h;simp only [Fl.d,Rep];exact ⟨a,vs,e,.inl (L _ _ q h1),h2,h3.same ff⟩
 | dcT l =>obtain ⟨a,vs,e,q,h1,h2,h3⟩:=h;simp only [Fl.d,Rep];exact ⟨a,vs,e,.inl (L _ _ q h1),h2,h3.same ff⟩
theorem om:∀ {l:List Fl} {vs:List V},l.length=vs.length->(∀ (i:Nat) (f:Fl) (v:V),l[i]?=some f->vs[i]?=some v->Rep K G f.d v)->Reps K G (l.map Fl.d) vs
 | [],[],_,_=>by simp [Reps]
 | [],_::_,h,_=>by cases h
 | _::_,[],h,_=>by cases h
 | f::l,v::vs,h,k=>by simp only [qa3,Reps];exact ⟨v,vs,rfl,k 0 f v rfl rfl,om (by simpa using h) fun i f v h1 h2=>k (i+1) f v (by simpa using h1) (by simpa using h2)⟩
theorem rC {F:Hp} {c:Str} {ns:List Str} {l:List Fl} {S:Addr->Prop} (ff:Same F G) (q:∀ b o,S b->H b=some o->G b=some o) (h:Own K F H (.obj c ns l) v S):Rep K G (.ins c ns (l.map Fl.d)) v:=by obtain ⟨a,C,dx,fs,Z,e,L,O,h1,h2,h3⟩:=h;simp only [Rep];exact ⟨a,C,dx,fs,e,O,q _ _ L h1,h2,om h3.len fun i f v U e2=>(h3.own i f v U e2).rep ff fun b o z=>q b o (h3.sub i b z).1⟩
variable {S':Addr->Prop}
section
variable {K:PySem.W.Frag} {F H F' H':Hp} {t:T} {v:V} {d:Dt} {S:Addr->Prop}
theorem Own.step (ff:Same F F') (L:∀ b o,S b->H b=some o->H' b=some o) (h:Own K F H t v S):Own K F' H' t v S:=by
 induction t with
 | leaf d=>exact Rep.same ff h
 | lst l =>obtain ⟨a,vs,e,q,h1,h2⟩:=h;exact ⟨a,vs,e,q,L _ _ q h1,h2.same ff⟩
 | dct l =>obtain ⟨a,vs,e,q,h1,h2,h3⟩:=h;exact ⟨a,vs,e,q,L _ _ q h1,h2,h3.same ff⟩
 | dcT l =>obtain ⟨a,vs,e,q,h1,h2,h3⟩:=h;exact ⟨a,vs,e,q,L _ _ q h1,h2,h3.same ff⟩
 | obj c ns l =>obtain ⟨a,C,dx,fs,Z,e,q,O,h1,h2,h3⟩:=h;exact ⟨a,C,dx,fs,Z,e,q,O,L _ _ q h1,h2,h3.len,fun i f v W e2=>(h3.own i f v W e2).step ff fun b o z=>L b o (h3.sub i b z).1,h3.sub,h3.dis⟩
 | pin a t U=>exact ⟨h.1,h.2.1,U h.2.2⟩
theorem Own.grow (L:∀ b,S b->S' b) (h:Own K F H t v S):Own K F H t v S':=by
 induction t with
 | leaf d=>exact h
 | lst l =>obtain ⟨a,vs,e,q,h1⟩:=h;exact ⟨a,vs,e,L _ q,h1⟩
 | dct l =>obtain ⟨a,vs,e,q,h1⟩:=h;exact ⟨a,vs,e,L _ q,h1⟩
 | dcT l =>obtain ⟨a,vs,e,q,h1⟩:=h;exact ⟨a,vs,e,L _ q,h1⟩
 | obj c ns l =>obtain ⟨a,C,dx,fs,Z,e,q,O,h1,h2,h3⟩:=h;exact ⟨a,C,dx,fs,Z,e,L _ q,O,h1,h2,h3.len,h3.own,fun i b z=>⟨L _ (h3.sub i b z).1,(h3.sub i b z).2⟩,h3.dis⟩
 | pin a t U=>exact ⟨h.1,h.2.1,U h.2.2⟩
theorem RepB.of (q:Same F H) (h:Rep K F d v):RepB K F H d v:=by
 cases d with
 | lst l =>simp only [Rep] at h;obtain ⟨a,vs,e,h1,h2⟩:=h;exact ⟨a,vs,e,q.seq h1,h2⟩
 | dct ks l =>simp only [Rep] at h;obtain ⟨a,vs,e,h1,h2⟩:=h;exact ⟨a,vs,e,q.rd h1,h2⟩
 | dcT ks l =>simp only [Rep] at h;obtain ⟨a,vs,e,h1,h2⟩:=h;exact ⟨a,vs,e,q.rd h1,h2⟩
 | tup l =>simp only [Rep] at h;exact h
 | ins c ns l=>exact Rep.same q h
 | _ =>simp only [Rep] at h;exact h
theorem RepB.rep (q:Same F H) (h:RepB K F H d v):Rep K H d v:=by
 cases d with
 | lst l =>obtain ⟨a,vs,e,h1,h2⟩:=h;simp only [Rep];exact ⟨a,vs,e,h1,h2.same q⟩
 | dct ks l =>obtain ⟨a,vs,e,h1,h2,h3⟩:=h;simp only [Rep];exact ⟨a,vs,e,h1,h2,h3.same q⟩
 | dcT ks l =>obtain ⟨a,vs,e,h1,h2,h3⟩:=h;simp only [Rep];exact ⟨a,vs,e,h1,h2,h3.same q⟩
 | tup l =>obtain ⟨a,vs,e,h1,h2⟩:=h;simp only [Rep];exact ⟨a,vs,e,q.tup h1,h2.same q⟩
 | ins c ns l=>exact h
 | _ =>simp only [Rep];exact h
theorem RepB.step (ff:Same F F') (q:Same H H') (h:RepB K F H d v):RepB K F' H' d v:=by
 cases d with
 | lst l =>obtain ⟨a,vs,e,h1,h2⟩:=h;exact ⟨a,vs,e,q.seq h1,h2.same ff⟩
 | dct ks l =>obtain ⟨a,vs,e,h1,h2,h3⟩:=h;exact ⟨a,vs,e,q.rd h1,h2,h3.same ff⟩
 | dcT ks l =>obtain ⟨a,vs,e,h1,h2,h3⟩:=h;exact ⟨a,vs,e,q.rd h1,h2,h3.same ff⟩
 | tup l =>obtain ⟨a,vs,e,h1,h2⟩:=h;exact ⟨a,vs,e,ff.tup h1,h2.same ff⟩
 | ins c ns l=>exact Rep.same q h
 | _=>exact h
theorem Own.repB (q:Same F H) (h:Own K F H t v S):RepB K F H t.d v:=by
 induction t with
 | leaf d=>exact RepB.of q h
 | lst l =>obtain ⟨a,vs,e,_,h1,h2⟩:=h;exact ⟨a,vs,e,SqL.of h1,h2⟩
 | dct l =>obtain ⟨a,vs,e,_,h1,h2⟩:=h;exact ⟨a,vs,e,.inl h1,h2⟩
 | dcT l =>obtain ⟨a,vs,e,_,h1,h2⟩:=h;exact ⟨a,vs,e,.inl h1,h2⟩
 | obj c ns l=>exact rC q (fun _ _ _ e=>e) h
 | pin a t L=>exact L h.2.2
open Classical in
noncomputable def qb (F H:Hp) (S:Addr->Prop):Hp:=fun b=>if S b then H b else F b
theorem iG {b:Addr} (h:S b):qb F H S b=H b:=if_pos h
theorem gy {b:Addr} (h:¬ S b):qb F H S b=F b:=if_neg h
theorem mZ (q:∀ b,S b->F b=none):Same F (qb F H S):=fun b o e=>by
 have:¬ S b:=fun z=>by rw [q b z] at e;cases e
 rw [gy this];exact e
theorem rD (q:Same F H):Same (qb F H S) H:=fun b o e=>by
 by_cases h:S b
 . rw [iG h] at e;exact e
 . rw [gy h] at e;exact q _ _ e
theorem Own.freeze (L:∀ b,S b->F b=none) (h:Own K F H t v S):Rep K (qb F H S) t.d v:=by
 have ff:=mZ (H:=H) L;induction t with
 | leaf d=>exact Rep.same ff h
 | lst l =>obtain ⟨a,vs,e,q,h1,h2⟩:=h;simp only [T.d,Rep];exact ⟨a,vs,e,SqL.of (by rw [iG q];exact h1),h2.same ff⟩
 | dct l =>obtain ⟨a,vs,e,q,h1,h2,h3⟩:=h;simp only [T.d,Rep];exact ⟨a,vs,e,.inl (by rw [iG q];exact h1),h2,h3.same ff⟩
 | dcT l =>obtain ⟨a,vs,e,q,h1,h2,h3⟩:=h;simp only [T.d,Rep];exact ⟨a,vs,e,.inl (by rw [iG q];exact h1),h2,h3.same ff⟩
 | obj c ns l=>exact rC ff (fun b o z e=>by rw [iG z];exact e) h
 | pin a t O=>exact O h.2.2
end
abbrev Ix:=Nat
abbrev De:=List (Option T)
structure Sep (K:PySem.W.Frag) (F H:Hp) (B:Addr->Prop) (L:Ix->Option (T×V)) (S:Ix->Addr->Prop):Prop where
 own:∀ i t v,L i=some (t,v)->Own K F H t v (S i)
 out:∀ i b,S i b->F b=none/\(∃ o,H b=some o)/\B b
 dis:∀ i j b,S i b->S j b->i=j
noncomputable def lN (δ:De) (σ:St) (i:Nat):Option (T×V):=match δ[i]?,σ[i]? with
 | some (some t),some (some v)=>some (t,v)
 | _,_=>none
structure Fm where
 K:PySem.W.Frag
 F0:Hp
 H0:Hp
 S0:Addr->Prop
noncomputable def Fm.B (Φ:Fm) (b:Addr):Prop:=Φ.H0 b=none∨Φ.S0 b
structure En (Φ:Fm) (δ:De) (σ:St) (F H:Hp):Prop where
 fh:Same F H
 prot:∀ b o,Φ.H0 b=some o->¬ Φ.S0 b->H b=some o
 old:Same Φ.F0 F
 nw:∀ b o,F b=some o->Φ.F0 b=some o∨Φ.B b
 len:δ.length=σ.length
 has:∀ (i:Nat) (t:T),δ[i]?=some (some t)->∃ v,σ[i]?=some (some v)
 sep:∃ S,Sep Φ.K F H Φ.B (lN δ σ) S
variable {i j:Nat} {p a:Addr}
section
variable {Φ:Fm} {δ:De} {σ:St} {F H F' H':Hp}
theorem dk {t:T} (h1:δ[i]?=some (some t)) (h2:σ[i]?=some (some v)):lN δ σ i=some (t,v):=by unfold lN;rw [h1,h2]
theorem eX {t:T} (h:lN δ σ i=some (t,v)):δ[i]?=some (some t)/\σ[i]?=some (some v):=by
 unfold lN at h;split at h
 . rename_i q e2;cases h;exact ⟨q,e2⟩
 . cases h
theorem En.fresh (e:En Φ δ σ F H) (hp:H p=none):Φ.B p:=by
 by_cases h:Φ.S0 p
 . exact .inr h
 . left;cases q:Φ.H0 p with
   | none=>rfl
   | some o=>rw [e.prot p o q h] at hp;cases hp
theorem Sep.step {B:Addr->Prop} {L:Ix->Option (T×V)} {S:Ix->Addr->Prop} (s:Sep K F H B L S) (st:Step F H F' H'):Sep K F' H' B L S where
 own:=fun i t v h=>(s.own i t v h).step st.ff fun b o _ e=>st.hh b o e
 out:=fun i b h=>by
  obtain ⟨h1,⟨o,h2⟩,h3⟩:=s.out i b h;refine ⟨?_,⟨o,st.hh _ _ h2⟩,h3⟩;cases q:F' b with
  | none=>rfl
  | some o' =>
   rcases st.nw b o' q with z | z
   . rw [h1] at z;cases z
   . rw [h2] at z;cases z
 dis:=s.dis
theorem En.step (e:En Φ δ σ F H) (st:Step F H F' H'):En Φ δ σ F' H' where
 fh:=st.fh
 prot:=fun b o h1 h2=>st.hh _ _ (e.prot b o h1 h2)
 old:=e.old.trans st.ff
 nw:=fun b o h=>by
  rcases st.nw b o h with z | z
  . exact e.nw b o z
  . exact .inr (e.fresh z)
 len:=e.len
 has:=e.has
 sep:=let ⟨S,s⟩:=e.sep;⟨S,s.step st⟩
theorem En.slot (e:En Φ δ σ F H) {t:T} (h:δ[i]?=some (some t)):∃ v,σ[i]?=some (some v)/\RepB Φ.K F H t.d v:=by obtain ⟨v,q⟩:=e.has i t h;obtain ⟨S,s⟩:=e.sep;exact ⟨v,q,(s.own i t v (dk h q)).repB e.fh⟩
theorem En.leaf (e:En Φ δ σ F H) {d:Dt} (h:δ[i]?=some (some (.leaf d))):∃ v,σ[i]?=some (some v)/\Rep Φ.K F d v:=by obtain ⟨v,q⟩:=e.has i _ h;obtain ⟨S,s⟩:=e.sep;exact ⟨v,q,s.own i _ v (dk h q)⟩
theorem eM {α:Type} {l:List (Option α)} {x y:Option α} (h:(l.set i x)[j]?=some y):(i=j/\y=x)∨(i≠j/\l[j]?=some y):=by
 by_cases q:i=j
 . subst q;left;rw [qw6] at h;simp only [if_true] at h;split at h
   . cases h;exact ⟨rfl,rfl⟩
   . cases h
 . right;rw [gN q] at h;exact ⟨q,h⟩
theorem En.put (e:En Φ δ σ F H) {t:T} (st:Step F H F' H') (ho:Own Φ.K F' H' t v S') (hs:∀ b,S' b->F' b=none/\H b=none/\∃ o,H' b=some o) (i:Nat):En Φ (δ.set i (some t)) (σ.set i (some v)) F' H':=by
 have U:=e.step st;obtain ⟨S,s⟩:=e.sep;have s':=s.step st;refine ⟨U.fh,U.prot,U.old,U.nw,by simp [e.len],fun j u h=>?_,fun j b=>if j=i then S' b else S j b,?_,?_,?_⟩
 . rcases eM h with ⟨rfl,z⟩ | ⟨Z,z⟩
   . have hi:i<σ.length:=by rw [<- e.len];have:=(gX h).1;simpa using this
     exact ⟨v,by simp [hi]⟩
   . obtain ⟨w,hw⟩:=e.has j u z;exact ⟨w,by rw [gN Z];exact hw⟩
 . intro j u w h;obtain ⟨h1,h2⟩:=eX h;rcases eM h1 with ⟨rfl,z⟩ | ⟨Z,z⟩
   . rcases eM h2 with ⟨_,O⟩ | ⟨hn2,_⟩
     . cases z;cases O;show Own _ _ _ _ _ (fun b=>if i=i then S' b else S i b);simp only [if_true];exact ho
     . exact absurd rfl hn2
   . rcases eM h2 with ⟨O,_⟩ | ⟨_,O⟩
     . exact absurd O Z
     . have:¬ j=i:=fun q=>Z q.symm
       show Own _ _ _ _ _ (fun b=>if j=i then S' b else S j b);simp only [if_neg this];exact s'.own j u w (dk z O)
 . intro j b h;split at h
   . obtain ⟨h1,h2,h3⟩:=hs b h;exact ⟨h1,h3,e.fresh h2⟩
   . exact s'.out _ b h
 . have L:∀ j b,S j b->¬ S' b:=fun j b h z=>by obtain ⟨_,⟨o,h2⟩,_⟩:=s.out j b h;rw [(hs b z).2.1] at h2;cases h2
   intro j k b Y W;split at Y<;>split at W
   . rename_i q1 q2;rw [q1,q2]
   . exact absurd Y (L _ b W)
   . exact absurd W (L _ b Y)
   . exact s.dis _ _ b Y W
theorem tz {t:T} {S:Addr->Prop} (L:∀ d,t≠.leaf d) (h:Own K F H t (.ref a) S):S a:=by
 induction t with
 | leaf d=>exact absurd rfl (L d)
 | lst l=>obtain ⟨b,_,e,q,_⟩:=h;cases e;exact q
 | dct l=>obtain ⟨b,_,e,q,_⟩:=h;cases e;exact q
 | dcT l=>obtain ⟨b,_,e,q,_⟩:=h;cases e;exact q
 | obj c ns l=>obtain ⟨b,_,_,_,_,e,q,_⟩:=h;cases e;exact q
 | pin b t O=>exact O h.2.1 h.2.2
theorem En.poke (e:En Φ δ σ F H) {t t':T} {o:HO} (h:δ[i]?=some (some t)) (O:σ[i]?=some (some (.ref a))) (ht:∀ d,t≠.leaf d) (Z:∀ S:Addr->Prop,S a->Own Φ.K F (upd H a o) t' (.ref a) S) :
  En Φ (δ.set i (some t')) σ F (upd H a o):=by
 obtain ⟨S,s⟩:=e.sep;have U:S i a:=tz ht (s.own i t _ (dk h O));obtain ⟨fa,⟨oa,ha⟩,Y⟩:=s.out _ a U;have hi:i<δ.length:=(gX h).1;refine ⟨fun b u z=>?_,fun b u h1 h2=>?_,e.old,e.nw,by simp [e.len],fun j u z=>?_,S,fun j u w z=>?_,fun j b z=>?_,s.dis⟩
 . have:b≠a:=fun q=>by rw [q,fa] at z;cases z
   rw [aS this];exact e.fh _ _ z
 . have:b≠a:=fun q=>by
    subst q;rcases Y with z | z
    . rw [z] at h1;cases h1
    . exact h2 z
   rw [aS this];exact e.prot b u h1 h2
 . rcases eM z with ⟨rfl,_⟩ | ⟨W,z⟩
   . exact ⟨_,O⟩
   . exact e.has j u z
 . obtain ⟨h1,h2⟩:=eX z;rcases eM h1 with ⟨rfl,L⟩ | ⟨W,L⟩
   . cases L;rw [O] at h2;cases h2;exact Z _ U
   . refine (s.own j u w (dk L h2)).step (Same.refl _) fun b q hb hq=>?_
     have:b≠a:=fun y=>by subst y;exact W (s.dis _ _ _ hb U).symm
     rw [aS this];exact hq
 . obtain ⟨h1,⟨q,h2⟩,h3⟩:=s.out j b z;refine ⟨h1,?_,h3⟩;by_cases y:b=a
   . subst y;exact ⟨o,bi⟩
   . exact ⟨q,by rw [aS y];exact h2⟩
theorem En.freeze (e:En Φ δ σ F H) {t:T} (h:δ[i]?=some (some t)):∃ F',En Φ (δ.set i (some (.leaf t.d))) σ F' H:=by
 obtain ⟨S,s⟩:=e.sep;obtain ⟨v,L⟩:=e.has i t h;have Z:=s.own i t v (dk h L);have U:∀ b,S i b->F b=none:=fun b z=>(s.out _ b z).1
 have ff:=mZ (H:=H) U;refine ⟨qb F H (S i),rD e.fh,e.prot,e.old.trans ff,fun b o z=>?_,by simp [e.len],fun j u z=>?_,fun j b=>S j b/\j≠i,fun j u w z=>?_,fun j b z=>?_,fun j k b h1 h2=>s.dis _ _ b h1.1 h2.1⟩
 . by_cases W:S i b
   . exact .inr (s.out _ b W).2.2
   . rw [gy W] at z;exact e.nw b o z
 . rcases eM z with ⟨rfl,_⟩ | ⟨Y,z⟩
   . exact ⟨_,L⟩
   . exact e.has j u z
 . obtain ⟨h1,h2⟩:=eX z;rcases eM h1 with ⟨rfl,O⟩ | ⟨Y,O⟩
   . cases O;rw [L] at h2;cases h2;exact Z.freeze U
   . refine ((s.own j u w (dk O h2)).step ff fun _ _ _ q=>q).grow fun b q=>⟨q,fun y=>Y y.symm⟩
 . obtain ⟨h1,h2,h3⟩:=s.out j b z.1;refine ⟨?_,h2,h3⟩;rw [gy fun y=>z.2 (s.dis _ _ b z.1 y)];exact h1
end
noncomputable def KO (K:PySem.W.Frag) (F H:Hp) (t:T) (Q:VK):Prop:=∀ v H' F' S,Step F H F' H'->Own K F' H' t v S->(∀ b,S b->F' b=none/\H b=none/\∃ o,H' b=some o)->Q v H'
noncomputable def KL (K:PySem.W.Frag) (F H:Hp) (d:Dt) (Q:VK):Prop:=∀ v H' F',Step F H F' H'->Rep K F' d v->Q v H'
noncomputable def KB (K:PySem.W.Frag) (F H:Hp) (d:Dt) (Q:VK):Prop:=∀ v H' F',Step F H F' H'->RepB K F' H' d v->Q v H'
section
variable {K:PySem.W.Frag} {F H F1 H1:Hp} {t:T} {d:Dt} {Q:VK}
theorem KO.step (k:KO K F H t Q) (st:Step F H F1 H1):KO K F1 H1 t Q:=fun v H' F' S s o q=>k v H' F' S (st.trans s) o fun b z=>⟨(q b z).1,st.hh.free (q b z).2.1,(q b z).2.2⟩
theorem KO.leaf (k:KO K F H (.leaf d) Q):KL K F H d Q:=fun v H' F' st r=>k v H' F' (fun _=>False) st r fun _ z=>z.elim
theorem KL.here (k:KL K F H d Q) (q:Same F H) (r:Rep K F d v):Q v H:=k v H F (Step.refl q) r
theorem KB.to (k:KB K F H d Q):KL K F H d Q:=fun v H' F' st r=>k v H' F' st (RepB.of st.fh r)
theorem KL.to (k:KL K F H t.d Q):KO K F H t Q:=fun v H' F' S st o q=>by
 refine k v H' (qb F' H' S) ⟨st.hh,st.ff.trans (mZ fun b z=>(q b z).1),rD st.fh,fun b u z=>?_⟩ (o.freeze fun b z=>(q b z).1);by_cases L:S b
 . exact .inr (q b L).2.1
 . rw [gy L] at z;exact st.nw b u z
theorem KB.toO (k:KB K F H t.d Q):KO K F H t Q:=fun v H' F' S st o q=>k v H' F' st (o.repB st.fh)
end
noncomputable def tO (K:PySem.W.Frag) (f:De->Option T):TE:=fun σ H Q=>∃ Φ δ F t,Fm.K Φ=K/\En Φ δ σ F H/\f δ=some t/\KO K F H t Q
noncomputable def tL (K:PySem.W.Frag) (f:De->Option Dt):TE:=fun σ H Q=>∃ Φ δ F d,Fm.K Φ=K/\En Φ δ σ F H/\f δ=some d/\KL K F H d Q
noncomputable def tBd (K:PySem.W.Frag) (f:De->Option Dt):TE:=fun σ H Q=>∃ Φ δ F d,Fm.K Φ=K/\En Φ δ σ F H/\f δ=some d/\KB K F H d Q
noncomputable def tTr (K:PySem.W.Frag) (f:De->Option Bool):TT:=fun σ H Q=>∃ Φ δ F b,Fm.K Φ=K/\En Φ δ σ F H/\f δ=some b/\∀ H' F',Step F H F' H'->Q b H'
noncomputable def DO (X:Cx) (e:Expr) (f:De->Option T):Prop:=PE X e (tO X.K f)
noncomputable def DL (X:Cx) (e:Expr) (f:De->Option Dt):Prop:=PE X e (tL X.K f)
noncomputable def DB (X:Cx) (e:Expr) (f:De->Option Dt):Prop:=PE X e (tBd X.K f)
noncomputable def DT (X:Cx) (e:Expr) (f:De->Option Bool):Prop:=PT X e (tTr X.K f)
noncomputable def DW (X:Cx) (e:Expr) (f:De->Option Bool):Prop:=PW X e (tTr X.K f)
variable {X:Cx} {e:Expr}
theorem PE.mono {t t':TE} (h:PE X e t) (m:∀ σ H Q,t' σ H Q->t σ H Q):PE X e t':=fun pins s σ H Q I q=>h pins s σ H Q I (m _ _ _ q)
variable {t':TT}
theorem PT.mono {t:TT} (h:PT X e t) (m:∀ σ H Q,t' σ H Q->t σ H Q):PT X e t':=fun pins s σ H Q I q=>h pins s σ H Q I (m _ _ _ q)
theorem PW.mono {t:TT} (h:PW X e t) (m:∀ σ H Q,t' σ H Q->t σ H Q):PW X e t':=fun L pins s σ H Q I q=>h L pins s σ H Q I (m _ _ _ q)
theorem PA.mono {e:List Expr} {t t':TA} (h:PA X e t) (m:∀ σ H Q,t' σ H Q->t σ H Q):PA X e t':=fun pos pins s σ H Q I q=>h pos pins s σ H Q I (m _ _ _ q)
variable {tg:Expr}
theorem PI.mono {t t':TI} (h:PI X tg e t) (m:∀ σ H Q,t' σ H Q->t σ H Q):PI X tg e t':=fun pins s σ H Q I q=>h pins s σ H Q I (m _ _ _ q)
theorem PG.mono {t t':TG} (h:PG X e t) (m:∀ v σ H Q,t' v σ H Q->t v σ H Q):PG X e t':=fun pins s σ H v u Q I r q=>h pins s σ H v u Q I r (m _ _ _ _ q)
theorem PS.mono {e:Stmt} {t t':TS} (h:PS X e t) (m:∀ D σ H,t' D σ H->t D σ H):PS X e t':=fun pins s σ H Q I q=>h pins s σ H Q I (m _ _ _ q)
theorem PSs.mono {e:List Stmt} {t t':TS} (h:PSs X e t) (m:∀ D σ H,t' D σ H->t D σ H):PSs X e t':=fun pins s σ H Q I q=>h pins s σ H Q I (m _ _ _ q)
theorem PE.or {t t':TE} (h:PE X e t) (h':PE X e t'):PE X e (fun σ H Q=>t σ H Q∨t' σ H Q):=fun pins s σ H Q I q=>q.elim (h pins s σ H Q I) (h' pins s σ H Q I)
theorem PI.or {t t':TI} (h:PI X tg e t) (h':PI X tg e t'):PI X tg e (fun σ H Q=>t σ H Q∨t' σ H Q):=fun pins s σ H Q I q=>q.elim (h pins s σ H Q I) (h' pins s σ H Q I)
variable {x:Str} {r:R2} {σ:St} {Q:VK} {l ds:List Dt} {vs:List V} {n:Nat} {ps:List Str} {ff:List Dt->Option T}
section
variable {X:Cx} {e a b c:Expr} {f:De->Option T} {g fa fb fc:De->Option Dt} {pos:Pos}
noncomputable def toD (f:De->Option T):De->Option Dt:=fun δ=>(f δ).map T.d
noncomputable def toT (f:De->Option Dt):De->Option T:=fun δ=>(f δ).map T.leaf
theorem DO.toL (h:DO X e f):DL X e (toD f):=PE.mono h fun σ H Q ⟨Φ,δ,F,d,O,en,q,k⟩=>by
 unfold toD at q;cases L:f δ with
 | none=>rw [L] at q;cases q
 | some t =>rw [L] at q;cases q;exact ⟨Φ,δ,F,t,O,en,L,k.to⟩
theorem DO.toB (h:DO X e f):DB X e (toD f):=PE.mono h fun σ H Q ⟨Φ,δ,F,d,O,en,q,k⟩=>by
 unfold toD at q;cases L:f δ with
 | none=>rw [L] at q;cases q
 | some t =>rw [L] at q;cases q;exact ⟨Φ,δ,F,t,O,en,L,k.toO⟩
theorem DL.toB (h:DL X e g):DB X e g:=PE.mono h fun σ H Q ⟨Φ,δ,F,d,q,en,L,k⟩=>⟨Φ,δ,F,d,q,en,L,k.to⟩
theorem DL.toO (h:DL X e g):DO X e (toT g):=PE.mono h fun σ H Q ⟨Φ,δ,F,t,O,en,q,k⟩=>by
 unfold toT at q;cases L:g δ with
 | none=>rw [L] at q;cases q
 | some d =>rw [L] at q;cases q;exact ⟨Φ,δ,F,d,O,en,L,k.leaf⟩
noncomputable def vL (i:Nat):De->Option Dt:=fun δ=>match δ[i]? with
 | some (some (.leaf d))=>some d
 | _=>none
noncomputable def vB (i:Nat):De->Option Dt:=fun δ=>match δ[i]? with
 | some (some t)=>some t.d
 | _=>none
theorem ak (h:PE X e (li i)):DL X e (vL i):=PE.mono h fun σ H Q ⟨Φ,δ,F,d,O,en,L,k⟩=>by
 unfold vL at L;split at L
 . rename_i q;cases L;obtain ⟨v,h1,h2⟩:=en.leaf q;exact ⟨v,h1,k.here en.fh (O▸h2)⟩
 . cases L
theorem ae (h:PE X e (li i)):DB X e (vB i):=PE.mono h fun σ H Q ⟨Φ,δ,F,d,O,en,L,k⟩=>by
 unfold vB at L;split at L
 . rename_i q;cases L;obtain ⟨v,h1,h2⟩:=en.slot q;exact ⟨v,h1,k v H F (Step.refl en.fh) (O▸h2)⟩
 . cases L
noncomputable def kD (d:Dt):De->Option Dt:=fun _=>some d
theorem u9 {d:Dt} (h:PE X e (tC v)) (r:∀ F,Rep X.K F d v):DL X e (kD d):=PE.mono h fun σ H Q ⟨Φ,δ,F,d',L,en,q,k⟩=>by cases q;exact k.here en.fh (r F)
theorem ag {i:Int} {j}:DL X (.Constant (.int i) j pos) (kD (.int i)):=u9 Af fun F=>by simp only [Rep]
theorem eG {i:Bool} {j}:DL X (.Constant (.bool i) j pos) (kD (.bl i)):=u9 Ca fun F=>by simp only [Rep]
theorem eY {j}:DL X (.Constant .none j pos) (kD .non):=u9 Ah fun F=>by simp only [Rep]
theorem bn {j}:DL X (.Constant (.str x) j pos) (kD (.str x)):=u9 Ai fun F=>by simp only [Rep]
noncomputable def R2D (K:PySem.W.Frag) (r:R2) (g:Dt->Dt->Option T):Prop:=∀ F H x y vx vy (Q:VK) t,Same F H->RepB K F H x vx->RepB K F H y vy->g x y=some t->KO K F H t Q->r vx vy H Q
noncomputable def d2 (g:Dt->Dt->Option T) (fa fb:De->Option Dt):De->Option T:=fun δ=>(fa δ).bind fun x=>(fb δ).bind fun y=>g x y
theorem lO {g:Dt->Dt->Option T} (Z:R2D K r g) (h:tO K (d2 g fa fb) σ H Q):tOp r (tBd K fa) (tBd K fb) σ H Q:=by obtain ⟨Φ,δ,F,t,U,en,L,k⟩:=h;unfold d2 at L;obtain ⟨x,Y,L⟩:=bS L;obtain ⟨y,hy,L⟩:=bS L;exact ⟨Φ,δ,F,x,U,en,Y,fun v H1 F1 st W=>⟨Φ,δ,F1,y,U,en.step st,hy,fun v2 H2 F2 q O=>Z F2 H2 x y v v2 Q t q.fh (W.step q.ff q.hh) O L (k.step (st.trans q))⟩⟩
theorem ao {q:Operator} {g:Dt->Dt->Option T} (W:OpR X (ql1 q) r) (O:R2D X.K r g) (L:DB X a fa) (U:DB X b fb):DO X (.BinOp a q b pos) (d2 g fa fb):=PE.mono (Ch W L U) fun σ H Q h=>lO O h
theorem f6 {q:CmpOp} {g:Dt->Dt->Option T} (L:OpR X (qe6 q) r) (U:R2D X.K r g) (O:DB X a fa) (W:DB X b fb) (Y:qf9 q b=false):DO X (.Compare a [q] [b] pos) (d2 g fa fb):=PE.mono (jL L O W Y) fun σ H Q h=>lO U h
noncomputable def asB:T->Option Bool
 | .leaf (.bl b)=>some b
 | _=>none
noncomputable def tB2 (g:Dt->Dt->Option T) (fa fb:De->Option Dt):De->Option Bool:=fun δ=>(d2 g fa fb δ).bind asB
theorem m6 {F:Hp} {t:T} {S:Addr->Prop} {b:Bool} (h:asB t=some b) (o:Own K F H t v S):v=.bl b:=by
 unfold asB at h;split at h
 . cases h;have o:Rep K F (.bl b) v:=o;simp only [Rep] at o;exact o
 . cases h
theorem bf {L:CmpOp} {g:Dt->Dt->Option T} (Y:OpR X (qe6 L) r) (O:R2D X.K r g) (Z:DB X a fa) (U:DB X b fb) (W:qf9 L b=false):DT X (.Compare a [L] [b] pos) (tB2 g fa fb):=PT.mono (jM Y Z U W) fun σ H Q ⟨Φ,δ,F,t,hK,en,q,k⟩=>by unfold tB2 at q;obtain ⟨z,hz,q⟩:=bS q;refine lO O ⟨Φ,δ,F,z,hK,en,hz,fun v H' F' S st o hs=>?_⟩;exact ⟨t,m6 q o,k H' F' st⟩
noncomputable def vc:Dt->Option Bool
 | .non=>some false
 | .bl b=>some b
 | .int i=>some (i != 0)
 | .str x=>if x.length<=qb0 then some ((x.length:Int) != 0) else none
 | .tup l=>some (!l.isEmpty)
 | .lst l=>some (!l.isEmpty)
 | _=>none
noncomputable def fw (f:De->Option Dt):De->Option Bool:=fun δ=>(f δ).bind vc
theorem iH {F:Hp} (h:Reps K F l vs):l.isEmpty=vs.isEmpty:=by
 cases l with
 | nil=>unfold Reps at h;rw [h];rfl
 | cons d l=>unfold Reps at h;obtain ⟨v,q,rfl,_⟩:=h;rfl
theorem rE {F:Hp} {d:Dt} {b:Bool} (L:Same F H) (h:RepB K F H d v) (q:vc d=some b):Az K v H b:=by
 cases d with
 | non=>cases h;cases q;rfl
 | bl x=>cases h;cases q;rfl
 | int x=>cases h;cases q;rfl
 | str x =>
  cases h;simp only [vc] at q;split at q
  . cases q;exact ⟨by assumption,rfl⟩
  . cases q
 | tup l =>obtain ⟨a,vs,rfl,h1,h2⟩:=h;cases q;exact .inr (.inl ⟨vs,L.tup h1,by rw [iH h2]⟩)
 | lst l =>obtain ⟨a,vs,rfl,h1,h2⟩:=h;cases q;exact .inl ⟨vs,h1,by rw [iH h2]⟩
 | dct ks l=>cases q
 | dcT ks l=>cases q
 | ins c ns l=>cases q
theorem dl (O:DB X a fa) (Y:∀ q,isTrue a X.env q=(do let v <- q;standAt a.pos;qx4 [v] (truthy v))):DT X a (fw fa):=PT.mono (nV O Y) fun σ H Q ⟨Φ,δ,F,b,U,en,L,k⟩=>by unfold fw at L;obtain ⟨d,W,L⟩:=bS L;exact ⟨Φ,δ,F,d,U,en,W,fun v H' F' st r=>⟨b,rE st.fh r L,k H' F' st⟩⟩
noncomputable def iy (f:De->Option Bool):De->Option Bool:=fun δ=>(f δ).map (!·)
noncomputable def m7 (f g:De->Option Bool):De->Option Bool:=fun δ=>(f δ).bind fun b=>if b then g δ else some false
noncomputable def fOr (f g:De->Option Bool):De->Option Bool:=fun δ=>(f δ).bind fun b=>if b then some true else g δ
variable {ta tb tc:De->Option Bool} {rest:List Expr}
theorem ke (h:DT X a ta):DT X (.UnaryOp .Not a pos) (iy ta):=PT.mono (uD h) fun σ H Q ⟨Φ,δ,F,b,O,en,L,k⟩=>by
 unfold iy at L;cases q:ta δ with
 | none=>rw [q] at L;cases L
 | some c =>rw [q] at L;cases L;exact ⟨Φ,δ,F,c,O,en,q,fun H' F' st=>k H' F' st⟩
theorem iI (h:DT X a ta):DW X (.BoolOp .And [a] pos) ta:=xr h
theorem qc (h:DT X a ta):DW X (.BoolOp .Or [a] pos) ta:=uC h
theorem kf (h:DT X a ta) (h':DW X (.BoolOp .And (b::rest) pos) tb):DW X (.BoolOp .And (a::b::rest) pos) (m7 ta tb):=PW.mono (Aj h h') fun σ H Q ⟨Φ,δ,F,t,O,en,L,k⟩=>by
 unfold m7 at L;obtain ⟨c,W,L⟩:=bS L;refine ⟨Φ,δ,F,c,O,en,W,fun H' F' st=>?_⟩;split at L
 . rename_i q;rw [if_pos q];exact ⟨Φ,δ,F',t,O,en.step st,L,fun H2 U Y=>k H2 U (st.trans Y)⟩
 . rename_i q;rw [if_neg q];cases L;exact k H' F' st
theorem oo (h:DT X a ta) (h':DW X (.BoolOp .Or (b::rest) pos) tb):DW X (.BoolOp .Or (a::b::rest) pos) (fOr ta tb):=PW.mono (ze h h') fun σ H Q ⟨Φ,δ,F,t,O,en,L,k⟩=>by
 unfold fOr at L;obtain ⟨c,W,L⟩:=bS L;refine ⟨Φ,δ,F,c,O,en,W,fun H' F' st=>?_⟩;split at L
 . rename_i q;rw [if_pos q];cases L;exact k H' F' st
 . rename_i q;rw [if_neg q];exact ⟨Φ,δ,F',t,O,en.step st,L,fun H2 U Y=>k H2 U (st.trans Y)⟩
theorem DW.t (h:DW X a ta):DT X a ta:=h.pt
noncomputable def vd:Dt->Option Bool
 | .bl b=>some b
 | _=>none
noncomputable def AS (f:De->Option Dt):De->Option T:=fun δ=>(f δ).bind fun x=>(vd x).map fun b=>.leaf (.bl (!b))
noncomputable def oq (f:De->Option Dt) (g:De->Option T):De->Option T:=fun δ=>(f δ).bind fun x=>(vd x).bind fun b=>if b then g δ else some (.leaf (.bl false))
noncomputable def vIf (c:De->Option Bool) (f g:De->Option T):De->Option T:=fun δ=>(c δ).bind fun b=>if b then f δ else g δ
theorem rF {F:Hp} {x:Dt} {b:Bool} (h:vd x=some b) (r:RepB K F H x v):v=.bl b:=by
 unfold vd at h;split at h
 . cases h;exact r
 . cases h
theorem qd {F:Hp} {b:Bool}:Rep K F (.bl b) (.bl b):=by simp only [Rep]
theorem iJ {F:Hp} {b:Int}:Rep K F (.int b) (.int b):=by simp only [Rep]
theorem m8 {F:Hp} {b:Str}:Rep K F (.str b) (.str b):=by simp only [Rep]
theorem rG {F:Hp}:Rep K F .non .non:=by simp only [Rep]
variable {oa ob:De->Option T}
theorem AT (h:DB X a fa):DO X (.UnaryOp .Not a pos) (AS fa):=PE.mono (Am h) fun σ H Q ⟨Φ,δ,F,t,U,en,L,k⟩=>by
 unfold AS at L;obtain ⟨x,O,L⟩:=bS L;cases q:vd x with
 | none=>rw [q] at L;cases L
 | some b =>rw [q] at L;cases L;exact ⟨Φ,δ,F,x,U,en,O,fun v H' F' st r=>⟨b,rF q r,(k.step st).leaf.here st.fh qd⟩⟩
theorem ve {op} (h:DO X a oa):DO X (.BoolOp op [a] pos) oa:=Ak h
theorem m9 (h:DB X a fa) (h':DO X (.BoolOp .And (b::rest) pos) ob):DO X (.BoolOp .And (a::b::rest) pos) (oq fa ob):=PE.mono (Al h h') fun σ H Q ⟨Φ,δ,F,t,O,en,L,k⟩=>by
 unfold oq at L;obtain ⟨x,U,L⟩:=bS L;obtain ⟨b,W,L⟩:=bS L;refine ⟨Φ,δ,F,x,O,en,U,fun v H' F' st r=>⟨b,rF W r,?_⟩⟩;split at L
 . rename_i q;rw [if_pos q];exact ⟨Φ,δ,F',t,O,en.step st,L,k.step st⟩
 . rename_i q;rw [if_neg q];cases L;exact (k.step st).leaf.here st.fh qd
theorem CC (W:DT X c tc) (h:DO X a oa) (h':DO X b ob):DO X (.IfExp c a b pos) (vIf tc oa ob):=PE.mono (uE W h h') fun σ H Q ⟨Φ,δ,F,t,O,en,L,k⟩=>by
 unfold vIf at L;obtain ⟨x,U,L⟩:=bS L;refine ⟨Φ,δ,F,x,O,en,U,fun H' F' st=>?_⟩;split at L
 . rename_i q;rw [if_pos q];exact ⟨Φ,δ,F',t,O,en.step st,L,k.step st⟩
 . rename_i q;rw [if_neg q];exact ⟨Φ,δ,F',t,O,en.step st,L,k.step st⟩
noncomputable def RepBs (K:PySem.W.Frag) (F H:Hp):List Dt->List V->Prop
 | [],vs=>vs=[]
 | d::l,vs=>∃ v q,vs=v::q/\RepB K F H d v/\RepBs K F H l q
noncomputable def tAL (K:PySem.W.Frag) (f:De->Option (List Dt)):TA:=fun σ H Q=>∃ Φ δ F ds,Fm.K Φ=K/\En Φ δ σ F H/\f δ=some ds/\∀ vs H' F',Step F H F' H'->Reps K F' ds vs->Q vs H'
noncomputable def tAB (K:PySem.W.Frag) (f:De->Option (List Dt)):TA:=fun σ H Q=>∃ Φ δ F ds,Fm.K Φ=K/\En Φ δ σ F H/\f δ=some ds/\∀ vs H' F',Step F H F' H'->RepBs K F' H' ds vs->Q vs H'
structure DA (X:Cx) (es:List Expr) (f:De->Option (List Dt)):Prop where
 len:∀ δ ds,f δ=some ds->ds.length=es.length
 pa:PA X es (tAL X.K f)
structure DAB (X:Cx) (es:List Expr) (f:De->Option (List Dt)):Prop where
 len:∀ δ ds,f δ=some ds->ds.length=es.length
 pa:PA X es (tAB X.K f)
noncomputable def ai:De->Option (List Dt):=fun _=>some []
noncomputable def aa (f:De->Option Dt) (g:De->Option (List Dt)):De->Option (List Dt):=fun δ=>(f δ).bind fun d=>(g δ).bind fun ds=>some (d::ds)
variable {es:List Expr} {fs:De->Option (List Dt)}
theorem lP {f:De->Option Dt} (h:∀ δ ds,fs δ=some ds->ds.length=n):∀ δ ds,aa f fs δ=some ds->ds.length=n+1:=fun δ ds q=>by unfold aa at q;obtain ⟨x,O,q⟩:=bS q;obtain ⟨y,L,q⟩:=bS q;cases q;simp [h δ y L]
theorem am:DA X [] ai:=⟨fun _ _ h=>by cases h;rfl,PA.mono fY fun σ H Q ⟨Φ,δ,F,ds,L,en,q,k⟩=>by cases q;exact k [] H F (Step.refl en.fh) (by simp only [Reps])⟩
theorem aG:DAB X [] ai:=⟨fun _ _ h=>by cases h;rfl,PA.mono fY fun σ H Q ⟨Φ,δ,F,ds,L,en,q,k⟩=>by cases q;exact k [] H F (Step.refl en.fh) rfl⟩
theorem ac (h:DL X e g) (h':DA X es fs) (Y:qa6 (e::es) X.env=(false,eval e X.env)::qa6 es X.env:=by rfl):DA X (e::es) (aa g fs):=⟨lP h'.len,PA.mono (d7 h h'.pa Y) fun σ H Q ⟨Φ,δ,F,ds,O,en,q,k⟩=>by unfold aa at q;obtain ⟨x,W,q⟩:=bS q;obtain ⟨y,hy,q⟩:=bS q;cases q;exact ⟨Φ,δ,F,x,O,en,W,fun v H1 F1 st r=>⟨Φ,δ,F1,y,O,en.step st,hy,fun vs H2 Z L U=>k (v::vs) H2 Z (st.trans L) (by simp only [Reps];exact ⟨v,vs,rfl,r.same L.ff,U⟩)⟩⟩⟩
theorem ay (h:DB X e g) (h':DAB X es fs) (Y:qa6 (e::es) X.env=(false,eval e X.env)::qa6 es X.env:=by rfl):DAB X (e::es) (aa g fs):=⟨lP h'.len,PA.mono (d7 h h'.pa Y) fun σ H Q ⟨Φ,δ,F,ds,O,en,q,k⟩=>by unfold aa at q;obtain ⟨x,W,q⟩:=bS q;obtain ⟨y,hy,q⟩:=bS q;cases q;exact ⟨Φ,δ,F,x,O,en,W,fun v H1 F1 st r=>⟨Φ,δ,F1,y,O,en.step st,hy,fun vs H2 Z L U=>k (v::vs) H2 Z (st.trans L) ⟨v,vs,rfl,r.step L.ff L.hh,U⟩⟩⟩⟩
noncomputable def bT (f:De->Option (List Dt)):De->Option T:=fun δ=>(f δ).bind fun ds=>if ds.length<=qb0 then some (.leaf (.tup ds)) else none
noncomputable def dE (f:De->Option (List Dt)):De->Option T:=fun δ=>(f δ).bind fun ds=>if ds.length<=qb0 then some (.lst ds) else none
theorem bt {x1} (h:DA X es fs):DO X (.Tuple es x1 pos) (bT fs):=PE.mono (uN h.pa) fun σ H Q ⟨Φ,δ,F,t,L,en,q,k⟩=>by
 unfold bT at q;obtain ⟨ds,U,q⟩:=bS q;split at q
 . rename_i O;cases q;refine ⟨Φ,δ,F,ds,L,en,U,fun vs H1 F1 st r=>⟨by rw [r.length];exact O,fun p hp=>?_⟩⟩;refine (k.step st).leaf _ _ _ (Step.new st.fh hp) ?_;simp only [Rep];exact ⟨p,vs,rfl,SqT.of bi,r.same (Same.upd (st.fh.free hp))⟩
 . cases q
theorem g9 {F:Hp} (k:KO K F H (.lst ds) Q) (q:Same F H) (r:Reps K F ds vs) (hp:H p=none):Q (.ref p) (upd H p (.lst vs)):=by
 refine k _ _ F (fun b=>b=p) (Step.made q hp) ⟨p,vs,rfl,rfl,bi,r⟩ fun b z=>?_
 subst z;exact ⟨q.free hp,hp,_,bi⟩
theorem cG (h:DA X es fs):DO X (.List es pos) (dE fs):=PE.mono (AB h.pa) fun σ H Q ⟨Φ,δ,F,t,L,en,q,k⟩=>by
 unfold dE at q;obtain ⟨ds,U,q⟩:=bS q;split at q
 . rename_i O;cases q;exact ⟨Φ,δ,F,ds,L,en,U,fun vs H1 F1 st r=>⟨by rw [r.length];exact O,fun p hp=>g9 (k.step st) st.fh r hp⟩⟩
 . cases q
noncomputable def CRD (K:PySem.W.Frag) (r:List V->Hp->VK->Prop) (g:List Dt->Option T):Prop:=∀ F H ds vs (Q:VK) t,Same F H->RepBs K F H ds vs->g ds=some t->KO K F H t Q->r vs H Q
noncomputable def ah (g:List Dt->Option T) (f:De->Option (List Dt)):De->Option T:=fun δ=>(f δ).bind g
theorem vf {r:List V->Hp->VK->Prop} {g:List Dt->Option T} (L:CRD K r g) (h:tO K (ah g fs) σ H Q):tCB r (tAB K fs) σ H Q:=by obtain ⟨Φ,δ,F,t,O,en,q,k⟩:=h;unfold ah at q;obtain ⟨ds,U,q⟩:=bS q;exact ⟨Φ,δ,F,ds,O,en,U,fun vs H1 F1 st r=>L F1 H1 ds vs Q t st.fh r q (k.step st)⟩
variable {x:Str} {p:Pos} {id Ty:String} {sc:Scope} {r:List V->Hp->VK->Prop} {gg:List Dt->Option T}
theorem aT (h:aH sc x=true) (O:CallR X (.builtin id) r) (W:CRD X.K r gg) (hm:X.mg x=none) (Y:qd7 x=some (.builtin id)) (U:DAB X (e::es) fs) (e1:cP X sc:=by rfl)
  (Z:qa6 (e::es) X.env=(false,eval e X.env)::qa6 es X.env:=by rfl) (L:(qh9 pos (qa6 es X.env)).any (·.1)=false:=by rfl):DO X (.Call (.Name x p) (e::es) [] pos) (ah gg fs):=
 PE.mono (g7 h O hm Y U.pa e1 Z L) fun σ H Q q=>vf W q
theorem cQ (h:aH sc x=true) (O:CallR X (.type Ty) r) (W:CRD X.K r gg) (hm:X.mg x=none) (Y:qd7 x=some (.type Ty)) (U:DAB X (e::es) fs) (e1:cP X sc:=by rfl)
  (Z:qa6 (e::es) X.env=(false,eval e X.env)::qa6 es X.env:=by rfl) (L:(qh9 pos (qa6 es X.env)).any (·.1)=false:=by rfl):DO X (.Call (.Name x p) (e::es) [] pos) (ah gg fs):=
 PE.mono (ix h O hm Y U.pa e1 Z L) fun σ H Q q=>vf W q
noncomputable def spD (K:PySem.W.Frag) (n:Nat) (f:List Dt->Option T):Sp:=fun vs H Q _=>∃ F ds t,Same F H/\ds.length=n/\Reps K F ds vs/\f ds=some t/\KO K F H t Q
theorem aD {k:Nat} (h:aH sc x=true) (F:OkF X.prog X.w X.K X.mg X.base x k ps (spD X.K n ff)) (W:Room k X.A) (O:DA X (e::es) fs) (hn:(e::es).length=n:=by rfl) (e1:cP X sc:=by rfl)
 (he:qa6 (e::es) X.env=(false,eval e X.env)::qa6 es X.env:=by rfl) (L:(qh9 pos (qa6 es X.env)).any (·.1)=false:=by rfl):DO X (.Call (.Name x p) (e::es) [] pos) (ah ff fs):=
 PE.mono (g8 h F W O.pa e1 he L) fun σ H Q ⟨Φ,δ,Y,t,Z,en,q,k⟩=>by unfold ah at q;obtain ⟨ds,U,q⟩:=bS q;refine ⟨Φ,δ,Y,ds,Z,en,U,fun vs H1 F1 st r=>?_⟩;show spD X.K n ff (vs++[]) H1 Q E0;rw [qf4];exact ⟨F1,ds,t,st.fh,(O.len δ ds U).trans hn,r,q,k.step st⟩
end
inductive Out where
 | nx (δ:De) | rt (t:T) | bk (δ:De) | ct (δ:De) | re (t:T) (δ:De)
structure Rt (Φ:Fm) (t:T) (v:V) (F H:Hp):Prop where
 fh:Same F H
 prot:∀ b o,Φ.H0 b=some o->¬ Φ.S0 b->H b=some o
 old:Same Φ.F0 F
 nw:∀ b o,F b=some o->Φ.F0 b=some o∨Φ.B b
 own:∃ S,Own Φ.K F H t v S/\∀ b,S b->F b=none/\(∃ o,H b=some o)/\Φ.B b
structure Re (Φ:Fm) (t:T) (v:V) (δ:De) (σ:St) (F H:Hp):Prop where
 en:En Φ δ σ F H
 own:∃ S R,Sep Φ.K F H Φ.B (lN δ σ) S/\Own Φ.K F H t v R/\∀ b,R b->F b=none/\(∃ o,H b=some o)/\Φ.B b/\∀ i,¬ S i b
noncomputable def Post (Φ:Fm) (D:Ends):Out->Prop
 | .nx δ=>∀ σ F H,En Φ δ σ F H->D.nx σ H
 | .rt t=>∀ v F H,Rt Φ t v F H->D.rt v H
 | .bk δ=>∀ σ F H,En Φ δ σ F H->D.bk σ H
 | .ct δ=>∀ σ F H,En Φ δ σ F H->D.ct σ H
 | .re t δ=>∀ v σ F H,Re Φ t v δ σ F H->D.rt v H
noncomputable def tS (K:PySem.W.Frag) (g:De->Option Out):TS:=fun D σ H=>∃ Φ δ F o,Fm.K Φ=K/\En Φ δ σ F H/\g δ=some o/\Post Φ D o
noncomputable def DS1 (X:Cx) (st:Stmt) (g:De->Option Out):Prop:=PS X st (tS X.K g)
noncomputable def DS (X:Cx) (ss:List Stmt) (g:De->Option Out):Prop:=PSs X ss (tS X.K g)
variable {Φ:Fm} {δ:De} {sc:Scope} {N:List Str} {pos':Pos} {D:Ends} {es:List Expr} {ts:List Nat} {bb:Dt->De->Option De} {J:It} {fi:De->Option (List Dt)}
section
variable {X:Cx} {st:Stmt} {rest a b body:List Stmt} {g g1 g2:De->Option Out} {e c tg iter:Expr} {pos:Pos} {f:De->Option T} {fd:De->Option Dt} {tc:De->Option Bool} {i:Nat}
noncomputable def cY:De->Option Out:=fun δ=>some (.nx δ)
noncomputable def bc (g1 g2:De->Option Out):De->Option Out:=fun δ=>(g1 δ).bind fun o=>match o with
 | .nx δ'=>g2 δ'
 | o=>some o
theorem bC:DS X [] cY:=PSs.mono qT fun D σ H ⟨Φ,δ,F,o,L,en,q,k⟩=>by cases q;exact k σ F H en
theorem aE (h:DS1 X st g):DS X [st] g:=qU h
theorem au (h1:DS1 X st g1) (h2:DS X rest g2):DS X (st::rest) (bc g1 g2):=PSs.mono (nT h1 h2) fun D σ H ⟨Φ,δ,F,o,U,en,q,k⟩=>by
 unfold bc at q;obtain ⟨O,h1,q⟩:=bS q;refine ⟨Φ,δ,F,O,U,en,h1,?_⟩;cases O with
 | nx δ'=>exact fun σ' F' H' L=>⟨Φ,δ',F',o,U,L,q,k⟩
 | rt t=>cases q;exact k
 | bk δ'=>cases q;exact k
 | ct δ'=>cases q;exact k
 | re t δ'=>cases q;exact k
noncomputable def bO (f:De->Option T):De->Option Out:=fun δ=>(f δ).map .rt
theorem En.rt {F:Hp} {t:T} {S:Addr->Prop} (en:En Φ δ σ F H) (st:Step F H F' H') (o:Own Φ.K F' H' t v S) (L:∀ b,S b->F' b=none/\H b=none/\∃ o,H' b=some o):Rt Φ t v F' H':=by have q:=en.step st;exact ⟨q.fh,q.prot,q.old,q.nw,S,o,fun b z=>⟨(L b z).1,(L b z).2.2,en.fresh (L b z).2.1⟩⟩
theorem aQ (h:DO X e f):DS1 X (.Return (some e) pos) (bO f):=PS.mono (pS h) fun D σ H ⟨Φ,δ,F,o,L,en,q,k⟩=>by unfold bO at q;obtain ⟨t,U,q⟩:=mS q;cases q;exact ⟨Φ,δ,F,t,L,en,U,fun v H' F' S st o O=>k v F' H' (en.rt st (L▸o) O)⟩
noncomputable def rH (i:Nat):De->Option Out:=fun δ=>match δ[i]? with
 | some (some t)=>some (.rt t)
 | _=>none
theorem rJ (h:PE X e (li i)):DS1 X (.Return (some e) pos) (rH i):=PS.mono (pS h) fun D σ H ⟨Φ,δ,F,o,U,en,L,k⟩=>by
 unfold rH at L;split at L
 . rename_i t q;cases L;obtain ⟨v,O⟩:=en.has i t q;obtain ⟨S,s⟩:=en.sep;exact ⟨v,O,k v F H ⟨en.fh,en.prot,en.old,en.nw,S i,s.own i t v (dk q O),fun b z=>s.out i b z⟩⟩
 . cases L
noncomputable def sIf (c:De->Option Bool) (g1 g2:De->Option Out):De->Option Out:=fun δ=>(c δ).bind fun b=>if b then g1 δ else g2 δ
theorem ci (W:DT X c tc) (h1:DS X a g1) (h2:DS X b g2):DS1 X (.If c a b pos) (sIf tc g1 g2):=PS.mono (zf W h1 h2) fun D σ H ⟨Φ,δ,F,o,O,en,L,k⟩=>by
 unfold sIf at L;obtain ⟨x,U,L⟩:=bS L;refine ⟨Φ,δ,F,x,O,en,U,fun H' F' st=>?_⟩;split at L
 . rename_i q;rw [if_pos q];exact ⟨Φ,δ,F',o,O,en.step st,L,k⟩
 . rename_i q;rw [if_neg q];exact ⟨Φ,δ,F',o,O,en.step st,L,k⟩
noncomputable def bX (i:Nat) (f:De->Option T):De->Option Out:=fun δ=>(f δ).map fun t=>.nx (δ.set i (some t))
theorem br (h:fO sc N i x=true) (Y:j9 sc x=true) (W:N.Nodup) (he:DO X e f) (e1:cP X sc:=by rfl) (e2:X.N=N:=by rfl) (Z:X.fn x=true∨X.env.scope.names.lookup x=some .local:=by exact .inl rfl)
 (L:qm6 e (some (.Name x pos')) pos.line X.env=pure false:=by rfl):DS1 X (.Assign [.Name x pos'] e pos) (bX i f):=PS.mono (rn h Y W he e1 e2 Z L) fun D σ H ⟨Φ,δ,F,o,O,en,q,k⟩=>by
 unfold bX at q;obtain ⟨t,U,q⟩:=mS q;cases q;exact ⟨Φ,δ,F,t,O,en,U,fun v H' F' S st o L=>k _ F' H' (en.put st (O▸o) L i)⟩
noncomputable def xO (i:Nat) (g:De->Option Out):De->Option Out:=fun δ=>match δ[i]? with
 | some (some t)=>g (δ.set i (some (.leaf t.d)))
 | _=>none
theorem AU (h:tS K (xO i g) D σ H):tS K g D σ H:=by
 obtain ⟨Φ,δ,F,o,U,en,L,k⟩:=h;unfold xO at L;split at L
 . rename_i t q;obtain ⟨F',O⟩:=en.freeze q;exact ⟨Φ,_,F',o,U,O,L,k⟩
 . cases L
theorem xP (h:DS1 X st g):DS1 X st (xO i g):=PS.mono h fun D σ H q=>AU q
noncomputable def gD (K:PySem.W.Frag) (ts:List Nat) (st:Dt->De->Option De):TG:=fun v σ H Q=>∃ Φ δ F d δ',Fm.K Φ=K/\En Φ δ σ F H/\Rep K F d v/\st d δ=some δ'/\∀ σ',σ'.length=σ.length->(∀ j,j∉ts->σ'[j]?=σ[j]?)->En Φ δ' σ' F H->Q σ' H
noncomputable def gsD (K:PySem.W.Frag) (ts:List Nat) (st:List Dt->De->Option De):TGs:=fun vs σ H Q=>∃ Φ δ F ds δ',Fm.K Φ=K/\En Φ δ σ F H/\Reps K F ds vs/\st ds δ=some δ'/\∀ σ',σ'.length=σ.length->(∀ j,j∉ts->σ'[j]?=σ[j]?)->En Φ δ' σ' F H->Q σ' H
noncomputable def DG (X:Cx) (tg:Expr) (ts:List Nat) (bb:Dt->De->Option De):Prop:=PG X tg (gD X.K ts bb)
noncomputable def DGs (X:Cx) (tg:List Expr) (ts:List Nat) (bb:List Dt->De->Option De):Prop:=PGs X tg (gsD X.K ts bb)
noncomputable def ap (i:Nat):Dt->De->Option De:=fun d δ=>some (δ.set i (some (.leaf d)))
theorem En.name {F:Hp} (en:En Φ δ σ F H) {d:Dt} (r:Rep Φ.K F d v) (i:Nat):En Φ (δ.set i (some (.leaf d))) (σ.set i (some v)) F H:=en.put (Step.refl en.fh) (S':=fun _=>False) (t:=.leaf d) r (fun _ z=>z.elim) i
theorem aJ (h:PG X tg (jq i)):DG X tg [i] (ap i):=PG.mono h fun v σ H Q ⟨Φ,δ,F,d,δ',q,en,r,O,k⟩=>by cases O;refine k _ (by simp) (fun j L=>?_) (en.name (q▸r) i);rw [qi7 fun z=>L (by simp [z])]
noncomputable def iK:List Dt->De->Option De:=fun ds δ=>if ds.isEmpty then some δ else none
noncomputable def cj (b:Dt->De->Option De) (bs:List Dt->De->Option De):List Dt->De->Option De:=fun ds δ=>match ds with
 | d::r=>(b d δ).bind fun δ1=>bs r δ1
 | []=>none
noncomputable def iL (n:Nat) (bs:List Dt->De->Option De):Dt->De->Option De:=fun d δ=>match d with
 | .tup ds=>if ds.length=n then bs ds δ else none
 | _=>none
theorem iM:DGs X [] [] iK:=fun pins s σ H vs us Q I r q=>xt pins s σ H vs us Q I r (by
 obtain ⟨Φ,δ,F,ds,δ',U,en,O,L,k⟩:=q;unfold iK at L;cases ds with
 | nil=>cases L;simp only [Reps] at O;exact ⟨O,k σ rfl (fun _ _=>rfl) en⟩
 | cons d l=>cases L)
theorem cR {O:List Nat} {bs:List Dt->De->Option De} (h1:DG X e ts bb) (h2:DGs X es O bs)
 (hs:(ql4 (e::es) X.env).map (·.2)=qz9 e X.env::(ql4 es X.env).map (·.2):=by rfl):DGs X (e::es) (ts++O) (cj bb bs):=fun pins s σ H vs us Q I r q=>uF h1 h2 hs pins s σ H vs us Q I r (by
 obtain ⟨Φ,δ,F,ds,δ',hK,en,Z,L,k⟩:=q;unfold cj at L;cases ds with
 | nil=>cases L
 | cons d l =>simp only [Reps] at Z;obtain ⟨v,ws,e,r1,r2⟩:=Z;dsimp only at L;obtain ⟨δ1,hb,L⟩:=bS L;refine ⟨v,ws,e,Φ,δ,F,d,δ1,hK,en,r1,hb,fun σ1 l1 k1 U=>⟨Φ,δ1,F,l,δ',hK,U,r2,L,fun Y l2 k2 W=>k Y (l2.trans l1) (fun j hj=>?_) W⟩⟩;rw [k2 j fun z=>hj (qc3 _ z),k1 j fun z=>hj (qe1 _ z)])
theorem kg {k:Nat} {bs:List Dt->De->Option De} (U:X.calm=true) (h:DGs X es ts bs)
 (Z:(ql4 es X.env).length=n:=by rfl) (O:(ql4 es X.env).findIdx? (·.1)=none:=by rfl):DG X (.Tuple es k pos) ts (iL n bs):=PG.mono (Ao U h Z O) fun v σ H Q ⟨Φ,δ,F,d,δ',W,en,r,L,q⟩=>by
 unfold iL at L;split at L
 . rename_i ds;split at L
   . rename_i Y;simp only [Rep] at r;obtain ⟨a,vs,e,h1,h2⟩:=r;exact ⟨a,vs,e,en.fh.tup h1,by rw [h2.length];exact Y,Φ,δ,F,ds,δ',W,en,h2,L,q⟩
   . cases L
 . cases L
noncomputable def rK (K:PySem.W.Frag) (F':Hp) (J:It) (ds:List Dt) (ok:Hp->Prop):Prop:=∀ (i:Nat) (H F:Hp),ok H->Same F H->Same F' F->(i<ds.length->J.go i H)/\(i=ds.length->J.stop i H)/\∀ x H',i<ds.length->J.yld i H x H'->∃ d q,ds[i]?=some d/\Step F H q H'/\Rep K q d x
theorem Plain.walk {xs:List V} {ok:Hp->Prop} (Z:Plain J xs ok) (r:Reps K F' ds xs):rK K F' J ds ok:=fun i H F q Y ff=>by
 obtain ⟨p1,p2,W⟩:=Z i H q;have hl:=r.length;refine ⟨fun h=>p1 (by lia),fun h=>p2 (by lia),fun x H' hi hy=>?_⟩;obtain ⟨rfl,O⟩:=W x H' (by lia) hy;have L:ds[i]?=some ds[i]:=by simp [hi]
 obtain ⟨v,e,U⟩:=r.get L;rw [O] at e;cases e;exact ⟨_,F,L,Step.refl Y,U.same ff⟩
noncomputable def tIF (K:PySem.W.Frag) (f:De->Option (List Dt)):TI:=fun σ H R=>∃ Φ δ F ds,Fm.K Φ=K/\En Φ δ σ F H/\f δ=some ds/\∀ J ok H' F',Step F H F' H'->rK K F' J ds ok->(∀ H2,Same F' H2->ok H2)->R J H'
noncomputable def tIB (K:PySem.W.Frag) (f:De->Option (List Dt)):TI:=fun σ H R=>∃ Φ δ F ds,Fm.K Φ=K/\En Φ δ σ F H/\f δ=some ds/\∀ J ok H' F',Step F H F' H'->rK K F' J ds ok->(∀ H2,Same H' H2->ok H2)->R J H'
noncomputable def DIF (X:Cx) (tg iter:Expr) (f:De->Option (List Dt)):Prop:=PI X tg iter (tIF X.K f)
noncomputable def DIB (X:Cx) (tg iter:Expr) (f:De->Option (List Dt)):Prop:=PI X tg iter (tIB X.K f)
theorem DIF.toB (h:DIF X tg iter fi):DIB X tg iter fi:=PI.mono h fun σ H R ⟨Φ,δ,F,ds,L,en,O,k⟩=>⟨Φ,δ,F,ds,L,en,O,fun J ok H' F' st U q=>k J ok H' F' st U fun H2 s=>q H2 (st.fh.trans s)⟩
end
variable {δ':De} {σ':St} {F1 H1:Hp}
section
variable {X:Cx} {st:Stmt} {rest a b body:List Stmt} {g g1 g2:De->Option Out} {e c tg iter l:Expr} {pos:Pos} {f:De->Option T} {fd:De->Option Dt} {tc:De->Option Bool} {i:Nat} {fi:De->Option (List Dt)}
noncomputable def fA (bb:Dt->De->Option De) (g:De->Option Out):List Dt->De->Option Out
 | [],δ=>some (.nx δ)
 | d::r,δ=>(bb d δ).bind fun δ1=>(g δ1).bind fun o=>match o with
  | .nx q=>fA bb g r q
  | .ct q=>fA bb g r q
  | .bk q=>some (.nx q)
  | .rt t=>some (.rt t)
  | .re t q=>some (.re t q)
noncomputable def jD (fi:De->Option (List Dt)) (bb:Dt->De->Option De) (g:De->Option Out):De->Option Out:=fun δ=>(fi δ).bind fun ds=>fA bb g ds δ
theorem Reps.same_get {F:Hp} {xs:List V} (r:Reps K F ds xs) {x:V} (h:xs[i]?=some x):∃ d,ds[i]?=some d/\Rep K F d x:=by
 have O:=r.length;have hi:i<xs.length:=(gX h).1;have q:ds[i]?=some ds[i]:=by simp [show i<ds.length by lia]
 obtain ⟨v,e,L⟩:=r.get q;rw [h] at e;cases e;exact ⟨_,q,L⟩
theorem jO {α:Type} {l:List α} {d:α} (h:l[i]?=some d):l.drop i=d::l.drop (i+1):=by have hi:i<l.length:=(gX h).1;rw [List.drop_eq_getElem_cons hi];congr 1;have:=(gX h).2;exact this
noncomputable def Fm.at (Φ:Fm) (F1:Hp):Fm:={Φ with F0:=F1}
theorem En.back {F:Hp} (en:En Φ δ σ F1 H1) (e:En (Φ.at F1) δ' σ' F H):En Φ δ' σ' F H:=⟨e.fh,e.prot,en.old.trans e.old,fun b o h=>(e.nw b o h).elim (fun z=>en.nw b o z) .inr,e.len,e.has,e.sep⟩
theorem Rt.back {F:Hp} {t:T} (en:En Φ δ σ F1 H1) (e:Rt (Φ.at F1) t v F H):Rt Φ t v F H:=⟨e.fh,e.prot,en.old.trans e.old,fun b o h=>(e.nw b o h).elim (fun z=>en.nw b o z) .inr,e.own⟩
theorem Re.back {F:Hp} {t:T} (en:En Φ δ σ F1 H1) (e:Re (Φ.at F1) t v δ' σ' F H):Re Φ t v δ' σ' F H:=⟨en.back e.en,e.own⟩
theorem En.at (en:En Φ δ σ F1 H1):En (Φ.at F1) δ σ F1 H1:=⟨en.fh,en.prot,Same.refl _,fun b o h=>.inl h,en.len,en.has,en.sep⟩
theorem Post.at {o:Out} (en:En Φ δ σ F1 H1) (k:Post Φ D o):Post (Φ.at F1) D o:=by
 cases o with
 | nx δ'=>exact fun σ' F H e=>k σ' F H (en.back e)
 | bk δ'=>exact fun σ' F H e=>k σ' F H (en.back e)
 | ct δ'=>exact fun σ' F H e=>k σ' F H (en.back e)
 | rt t=>exact fun v F H e=>k v F H (Rt.back en e)
 | re t δ'=>exact fun v σ' F H e=>k v σ' F H (Re.back en e)
theorem ou {g:TG} {tb:TS} (Pv:Nat->St->Hp->Prop) (W:Pv 0 σ H1) (L:∀ i σ H,Pv i σ H->(i<n->J.go i H)/\(i=n->J.stop i H))
 (U:∀ i x σ H H',i<n->Pv i σ H->J.yld i H x H'->g x σ H' fun O H2=>tb {D with nx:=Pv (i+1),ct:=Pv (i+1),bk:=D.nx} O H2) (Z:∀ σ H,Pv n σ H->D.nx σ H):ForW g tb D J σ H1:=by
 refine ⟨fun i m σ H=>m=n-i/\i<=n/\Pv i σ H,⟨n,by simp,qj2 _,W⟩,?_⟩;rintro i m σ H ⟨rfl,hi,p⟩;obtain ⟨p1,p2⟩:=L i σ H p;by_cases q:i<n
 . exact .inr ⟨p1 q,Pv (i+1),fun σ' H' Y=>⟨n-(i+1),by lia,rfl,q,Y⟩,fun x H' y=>U i x σ H H' q p y⟩
 . have e:i=n:=by lia
   subst e;exact .inl ⟨p2 rfl,Z σ H p⟩
theorem f7 (hp:qw0 (model X.prog X.w) X.A X.env X.xe) (hc:X.calm=true) (hi:DIF X tg iter fi) (hg:DG X tg ts bb) (hb:DS X body g)
 (hs:∀ x,qf7 iter X.env x=pure x:=by intro _;rfl):DS1 X (.For tg iter body [] pos) (jD fi bb g):=PS.mono (pV hp hc hi hg hb hs) fun D σ H ⟨Φ,δ,F,o,hK,en,hg,k⟩=>by
 unfold jD at hg;obtain ⟨ds,hd,hg⟩:=bS hg;rw [mW];refine ⟨Φ,δ,F,ds,hK,en,hd,fun J ok H1 F1 st1 wd ho=>?_⟩;have en1:=en.step st1;have k1:=Post.at en1 k;refine ou (n:=ds.length) (fun i σ' H'=>∃ δ' F',En (Φ.at F1) δ' σ' F' H'/\fA bb g (ds.drop i) δ'=some o) ⟨δ,F1,en1.at,by simpa using hg⟩ (fun i σ' H' ⟨δ',F',O,_⟩=>?_) ?_ ?_
 . obtain ⟨p1,p2,_⟩:=wd i H' F' (ho H' (O.old.trans O.fh)) O.fh O.old;exact ⟨p1,p2⟩
 . rintro i x σ' H' H'' hi ⟨δ',F',O,L⟩ hy;obtain ⟨_,_,p3⟩:=wd i H' F' (ho H' (O.old.trans O.fh)) O.fh O.old;obtain ⟨d,U,hd',st2,rd⟩:=p3 x H'' hi hy;rw [jO hd'] at L;unfold fA at L;obtain ⟨δ1,h1,L⟩:=bS L;obtain ⟨o1,h2,L⟩:=bS L;refine ⟨Φ.at F1,δ',U,d,δ1,hK,O.step st2,rd,h1,fun σ1 _ _ en1=>⟨Φ.at F1,δ1,U,o1,hK,en1,h2,?_⟩⟩;cases o1 with
   | nx W=>exact fun Z U H2 Y=>⟨W,U,Y,L⟩
   | ct W=>exact fun Z U H2 Y=>⟨W,U,Y,L⟩
   | bk W=>cases L;exact fun Z U H2 Y=>k1 Z U H2 Y
   | rt t=>cases L;exact fun v U H2 q=>k1 v U H2 q
   | re t W=>cases L;exact fun v Z U H2 q=>k1 v Z U H2 q
 . rintro σ' H' ⟨δ',F',O,L⟩;rw [qs0] at L;cases L;exact k1 σ' F' H' O
noncomputable def dY (c:De->Option Bool) (g:De->Option Out):Nat->De->Option Out
 | 0,_=>none
 | n+1,δ=>(c δ).bind fun b=>if b then (g δ).bind fun o=>match o with
  | .nx q=>dY c g n q
  | .ct q=>dY c g n q
  | .bk q=>some (.nx q)
  | .rt t=>some (.rt t)
  | .re t q=>some (.re t q) else some (.nx δ)
theorem vg (n:Nat) (hp:qw0 (model X.prog X.w) X.A X.env X.xe) (hc:DT X c tc) (hb:DS X body g):DS1 X (.While c body [] pos) (dY tc g n):=PS.mono (nU hp hc hb) fun D σ H ⟨Φ,δ,F,o,hK,en,hg,k⟩=>by
 refine ⟨fun m σ' H'=>∃ δ' F',En Φ δ' σ' F' H'/\dY tc g m δ'=some o,⟨n,δ,F,en,hg⟩,?_⟩;rintro m σ' H' ⟨δ',F',Z,L⟩;cases m with
 | zero=>cases L
 | succ m =>
  unfold dY at L;obtain ⟨x,hx,L⟩:=bS L;refine ⟨Φ,δ',F',x,hK,Z,hx,fun H1 F1 st=>?_⟩;split at L
  . rename_i q;rw [if_pos q];obtain ⟨o1,h2,L⟩:=bS L;refine ⟨fun U H2=>∃ O W,En Φ O U W H2/\dY tc g m O=some o,fun U H2 z=>⟨m,qk1 m,z⟩,Φ,δ',F1,o1,hK,Z.step st,h2,?_⟩;cases o1 with
    | nx O=>exact fun U W H2 Y=>⟨O,W,Y,L⟩
    | ct O=>exact fun U W H2 Y=>⟨O,W,Y,L⟩
    | bk O=>cases L;exact fun U W H2 Y=>k U W H2 Y
    | rt t=>cases L;exact fun v W H2 q=>k v W H2 q
    | re t O=>cases L;exact fun v U W H2 q=>k v U W H2 q
  . rename_i q;rw [if_neg q];cases L;exact k σ' F1 H1 (Z.step st)
noncomputable def CD (x:Str):List Dt:=x.cps.toList.map fun c=>.str ⟨#[c]⟩
noncomputable def dZ (lo:Int) (n:Nat):List Dt:=(qb6 n).map fun (i:Nat)=>.int (lo+i)
theorem Reps.map {F:Hp} {α:Type} {f:α->Dt} {g:α->V} (h:∀ x,Rep K F (f x) (g x)):∀ l:List α,Reps K F (l.map f) (l.map g)
 | []=>by simp [Reps]
 | x::l=>by simp only [qa3,Reps];exact ⟨_,_,rfl,h x,Reps.map h l⟩
noncomputable def itD:Dt->Option (List Dt)
 | .lst l=>some l
 | .tup l=>some l
 | .str x=>some (CD x)
 | _=>none
noncomputable def fIt (f:De->Option Dt):De->Option (List Dt):=fun δ=>(f δ).bind itD
theorem gz (h:DL X l fd):DIF X tg l (fIt fd):=PI.mono (PI.or (mM h) (PI.or (uH h) (u0 h))) fun σ H R ⟨Φ,δ,F,ds,L,en,q,k⟩=>by
 unfold fIt at q;obtain ⟨d,O,q⟩:=bS q;cases d with
 | lst l =>cases q;refine .inl ⟨Φ,δ,F,_,L,en,O,fun v H' F' st r=>?_⟩;simp only [Rep] at r;obtain ⟨a,vs,rfl,h1,h2⟩:=r;exact ⟨a,rfl,⟨vs,st.fh.seq h1⟩,k _ _ H' F' st (plain_list.walk h2) fun H2 s=>s.seq h1⟩
 | tup l =>cases q;refine .inr (.inl ⟨Φ,δ,F,_,L,en,O,fun v H' F' st r=>?_⟩);simp only [Rep] at r;obtain ⟨a,vs,rfl,h1,h2⟩:=r;exact ⟨a,rfl,⟨vs,st.fh.tup h1⟩,k _ _ H' F' st (plain_tup.walk h2) fun H2 s=>s.tup h1⟩
 | str x =>cases q;refine .inr (.inr ⟨Φ,δ,F,_,L,en,O,fun v H' F' st r=>?_⟩);simp only [Rep] at r;exact ⟨x,r,k _ _ H' F' st (plain_str.walk (Reps.map (fun c=>m8) _)) fun _ _=>trivial⟩
 | _=>cases q
theorem cv (h:DB X l fd):DIB X tg l (fIt fd):=PI.mono (PI.or (mM h) (PI.or (uH h) (u0 h))) fun σ H R ⟨Φ,δ,F,ds,L,en,q,k⟩=>by
 unfold fIt at q;obtain ⟨d,O,q⟩:=bS q;cases d with
 | lst l =>cases q;refine .inl ⟨Φ,δ,F,_,L,en,O,fun v H' F' st r=>?_⟩;obtain ⟨a,vs,rfl,h1,h2⟩:=r;exact ⟨a,rfl,⟨vs,h1⟩,k _ _ H' F' st (plain_list.walk h2) fun H2 s=>s.seq h1⟩
 | tup l =>cases q;refine .inr (.inl ⟨Φ,δ,F,_,L,en,O,fun v H' F' st r=>?_⟩);obtain ⟨a,vs,rfl,h1,h2⟩:=r;exact ⟨a,rfl,⟨vs,st.fh.tup h1⟩,k _ _ H' F' st (plain_tup.walk h2) fun H2 s=>s.tup (st.fh.tup h1)⟩
 | str x =>cases q;refine .inr (.inr ⟨Φ,δ,F,_,L,en,O,fun v H' F' st r=>?_⟩);exact ⟨x,r,k _ _ H' F' st (plain_str.walk (Reps.map (fun c=>m8) _)) fun _ _=>trivial⟩
 | _=>cases q
noncomputable def lQ (j:Int):Bool:=decide (-(2^62)<=j)&&decide (j<2^62)
noncomputable def dv:List Dt->Option (List Dt)
 | [.int j]=>if lQ j then some (dZ 0 j.toNat) else none
 | _=>none
noncomputable def cZ (r:List Dt->Option (List Dt)) (f:De->Option (List Dt)):De->Option (List Dt):=fun δ=>(f δ).bind r
variable {p:Pos} {sc:Scope} {x y:Expr} {fs:De->Option (List Dt)}
theorem lR {j:Int} (h:lQ j=true):-(2^62)<=j/\j<2^62:=by unfold lQ at h;simpa using h
theorem qe {F:Hp} (lo:Int) (n:Nat):Reps K F (dZ lo n) (j8 lo n):=Reps.map (fun _=>iJ) _
theorem cT (h:aH sc "range"=true) (U:X.mg "range"=none) (W:DA X [x] fs) (e1:cP X sc:=by rfl) (O:qa6 [x] X.env=[(false,eval x X.env)]:=by rfl):DIF X tg (.Call (.Name "range" p) [x] [] pos) (cZ dv fs):=
 PI.mono (qa h U W.pa e1 O) fun σ H R ⟨Φ,δ,F,ds,Y,en,q,k⟩=>by
  unfold cZ at q;obtain ⟨Z,hd,q⟩:=bS q;refine ⟨Φ,δ,F,Z,Y,en,hd,fun vs H' F' st r=>?_⟩;unfold dv at q;split at q
  . rename_i j;split at q
    . rename_i L;cases q;simp only [Reps,Rep] at r;obtain ⟨v,ws,rfl,rfl,rfl⟩:=r;exact ⟨j,rfl,(lR L).1,(lR L).2,k _ _ H' F' st (plain_range.walk (qe _ _)) fun _ _=>trivial⟩
    . cases q
  . cases q
end
noncomputable def dC (src:List (Option Nat)) (δ:De):De:=src.map fun o=>o.bind fun j=>(δ[j]?).join
noncomputable def bL (bb:Dt->De->Option De) (ft:De->Option Bool) (fe:De->Option Dt) (δ:De):List Dt->Option (List Dt)
 | []=>some []
 | d::r=>(bb d δ).bind fun δ1=>(ft δ1).bind fun b=>if b then (fe δ1).bind fun y=>(bL bb ft fe δ r).bind fun ys=>some (y::ys) else bL bb ft fe δ r
noncomputable def aW (src:List (Option Nat)) (fi:De->Option (List Dt)) (bb:Dt->De->Option De) (ft:De->Option Bool) (fe:De->Option Dt):De->Option T:=fun δ =>(fi δ).bind fun ds=>(bL bb ft fe (dC src δ) ds).bind fun ys=>if ys.length<=qb0 then some (.lst ys) else none
noncomputable def bd:De->Option Bool:=fun _=>some true
noncomputable def DTs (X:Cx) (ifs:List Expr) (f:De->Option Bool):Prop:=PTs X ifs (tTr X.K f)
theorem cr:DTs X [] bd:=fun pins s σ H Q I h=>xJ pins s σ H Q I (by obtain ⟨Φ,δ,F,b,L,en,q,k⟩:=h;cases q;exact k H F (Step.refl en.fh))
theorem fB {c:Expr} {f:De->Option Bool} (h:DT X c f):DTs X [c] f:=xK h
section
variable {X:Cx} {elt tg iter:Expr} {ifs:List Expr} {scope:Scope} {pos:Pos} {M:List Str} {src:List (Option Nat)} {fi:De->Option (List Dt)} {ft:De->Option Bool} {fe:De->Option Dt}
theorem xQ (S:CmpScope X.N X.env.scope scope M src) {k l:Nat} (U:src[k]?=some (some j)) (Y:src[l]?=some (some j)):k=l:=by
 have nm:∀ k,src[k]?=some (some j)->∃ x,M[k]?=some x/\X.N[j]?=some x:=fun k h=>by
  have q:k<M.length:=by rw [S.len];exact (gX h).1
  have O:M[k]?=some M[k]:=by simp [q]
  have W:(M.zip src)[k]?=some (M[k],some j):=by rw [qv2];exact ⟨O,h⟩
  exact ⟨_,O,(S.src _ (qc9 W) j rfl).1⟩
 obtain ⟨x,h1,h2⟩:=nm k U;obtain ⟨y,h3,L⟩:=nm l Y;rw [h2] at L;cases L;exact (List.getElem?_inj (gX h1).1 S.nd).mp (h1.trans h3.symm)
theorem vh {k:Nat} {t:T} (h:(dC src δ)[k]?=some (some t)):∃ j,src[k]?=some (some j)/\δ[j]?=some (some t):=by
 unfold dC at h;rw [qb1] at h;cases e:src[k]? with
 | none=>rw [e] at h;cases h
 | some o =>
  rw [e] at h;cases o with
  | none=>cases h
  | some j =>
   simp only [qg0,qa0,qi0] at h;refine ⟨j,rfl,?_⟩;cases q:δ[j]? with
   | none=>rw [q] at h;cases h
   | some u=>rw [q] at h;simp only [qo3] at h;rw [h]
theorem rL {k:Nat} (h1:src[k]?=some (some j)) (h2:σ[j]?=some (some v)):(stC src σ)[k]?=some (some v):=by unfold stC;rw [qb1,h1];simp [h2]
theorem qf {k:Nat} (h:(stC src σ)[k]?=some (some v)):∃ j,src[k]?=some (some j)/\σ[j]?=some (some v):=by
 unfold stC at h;rw [qb1] at h;cases e:src[k]? with
 | none=>rw [e] at h;cases h
 | some o =>
  rw [e] at h;cases o with
  | none=>cases h
  | some j =>
   simp only [qg0,qa0,qi0] at h;refine ⟨j,rfl,?_⟩;cases q:σ[j]? with
   | none=>rw [q] at h;cases h
   | some u=>rw [q] at h;simp only [qo3] at h;rw [h]
theorem En.comp {F:Hp} (S:CmpScope X.N X.env.scope scope M src) (en:En Φ δ σ F H):En Φ (dC src δ) (stC src σ) F H:=by
 refine ⟨en.fh,en.prot,en.old,en.nw,by simp [dC,stC],fun k t h=>?_,?_⟩
 . obtain ⟨j,h1,h2⟩:=vh h;obtain ⟨v,O⟩:=en.has j t h2;exact ⟨v,rL h1 O⟩
 . obtain ⟨Z,s⟩:=en.sep;refine ⟨fun k b=>∃ j,src[k]?=some (some j)/\Z j b,fun k t v h=>?_,fun k b ⟨j,_,z⟩=>s.out j b z,fun k l b ⟨j,h1,z⟩ ⟨W,h2,Y⟩=>?_⟩
   . obtain ⟨h1,h2⟩:=eX h;obtain ⟨j,L,e2⟩:=vh h1;obtain ⟨W,q,U⟩:=qf h2;rw [L] at q;cases q;exact (s.own j t v (dk e2 U)).grow fun b z=>⟨j,L,z⟩
   . have:=s.dis _ _ b z Y;subst this;exact xQ S h1 h2
theorem lS {g:TG} {tt:TT} {te:TE} {D:Addr} (Pv:Nat->Hp->Prop) (Z:Pv 0 (upd H1 D (.lst []))) (O:∀ i H,Pv i H->(i<n->J.go i H)/\(i=n->J.stop i H))
 (Y:∀ i x H H',i<n->Pv i H->J.yld i H x H'->g x (stC src σ) H' fun L H2=>Wk (stC src σ) L/\tt L H2 fun b U=>if b=true then te L U fun v W=>∃ ys,W D=some (.lst ys)/\ys.length<qb0/\Pv (i+1) (upd W D (.lst (ys++[v]))) else Pv (i+1) U)
 (hd:∀ H,Pv n H->Q (.ref D) H):zq src g tt te σ J H1 Q D:=by
 refine ⟨fun i m H=>m=n-i/\i<=n/\Pv i H,⟨n,by simp,qj2 _,Z⟩,?_⟩;rintro i m H ⟨rfl,hi,p⟩;obtain ⟨p1,p2⟩:=O i H p;by_cases q:i<n
 . exact .inr ⟨p1 q,Pv (i+1),fun H' p'=>⟨n-(i+1),by lia,rfl,q,p'⟩,fun x H' y=>Y i x H H' q p y⟩
 . have e:i=n:=by lia
   subst e;exact .inl ⟨p2 rfl,hd H p⟩
theorem na (S:CmpScope X.N X.env.scope scope M src) (hts:(ts.all fun k=>decide (src[k]?=some none))=true):∀ (σ:St) (H:Hp) (Q:VK),tO X.K (aW src fi bb ft fe) σ H Q->lK src (tIB X.K fi) (gD X.K ts bb) (tTr X.K ft) (tL X.K fe) σ H Q:=fun σ H Q ⟨Φ,δ,F,t,hK,en,hf,k⟩=>by
 unfold aW at hf;obtain ⟨ds,hd,hf⟩:=bS hf;obtain ⟨all,ha,hf⟩:=bS hf;split at hf
 case isFalse=>cases hf
 rename_i hz;cases hf;rw [oj];refine ⟨Φ,δ,F,ds,hK,en,hd,fun J ok H1 F1 st1 wd ho D hD=>?_⟩;have en1:=en.step st1;have k1:=k.step st1
 have wk:∀ {σ2:St},σ2.length=(stC src σ).length->(∀ j,j∉ts->σ2[j]?=(stC src σ)[j]?)->Wk (stC src σ) σ2:=fun {σ2} h1 h2=>by
  refine ⟨h1.symm,fun j v hj=>?_⟩;by_cases hm:j∈ts
  . have:=qm7.mp hts j hm;have hn:src[j]?=some none:=of_decide_eq_true this;obtain ⟨i,e,_⟩:=qf hj;rw [hn] at e;cases e
  . rw [h2 j hm];exact hj
 have ok':∀ {F H:Hp},Step F1 H1 F H->ok H:=fun st=>ho _ st.hh
 refine lS (n:=ds.length) (fun i H=>∃ F ys done O,Step F1 H1 F H/\H D=some (.lst ys)/\F D=none/\Reps X.K F done ys/\bL bb ft fe (dC src δ) (ds.drop i)=some O/\done++O=all) ?_ ?_ ?_ ?_
 . exact ⟨F1,[],[],all,Step.made st1.fh hD,bi,st1.fh.free hD,by simp [Reps],by simpa using ha,rfl⟩
 . rintro i H' ⟨F',ys,done,O,st,_⟩;obtain ⟨p1,p2,_⟩:=wd i H' F' (ok' st) st.fh st.ff;exact ⟨p1,p2⟩
 . rintro i x H0' H' hi ⟨F0',ys,done,O,st0,hD0,hFD0,rys0,L,U⟩ hy0;obtain ⟨_,_,p3⟩:=wd i H0' F0' (ok' st0) st0.fh st0.ff;obtain ⟨d,F',hd',stw,rd⟩:=p3 x H' hi hy0;have st:=st0.trans stw;have Z:H' D=some (.lst ys):=stw.hh _ _ hD0
   have hFD:F' D=none:=by
    cases q:F' D with
    | none=>rfl
    | some o =>
     rcases stw.nw D o q with z | z
     . rw [hFD0] at z;cases z
     . rw [hD0] at z;cases z
   have Y:=rys0.same stw.ff;rw [jO hd'] at L;unfold bL at L;obtain ⟨δ1,h1,L⟩:=bS L;obtain ⟨b,h2,L⟩:=bS L;refine ⟨Φ,dC src δ,F',d,δ1,hK,(en1.step st).comp S,rd,h1,fun σ2 l2 k2 en2=>⟨wk l2 k2,Φ,δ1,F',b,hK,en2,h2,fun H3 F3 W=>?_⟩⟩;have hD3:H3 D=some (.lst ys):=W.hh _ _ Z
   have hF3:F3 D=none:=by
    cases q:F3 D with
    | none=>rfl
    | some o =>
     rcases W.nw D o q with z | z
     . rw [hFD] at z;cases z
     . rw [Z] at z;cases z
   dsimp only;split at L
   . rename_i q;rw [if_pos q];obtain ⟨y,hy,L⟩:=bS L;obtain ⟨zs,hzs,L⟩:=bS L;cases L;refine ⟨Φ,δ1,F3,y,hK,en2.step W,hy,fun v H4 F4 st4 rv=>?_⟩;have hD4:H4 D=some (.lst ys):=st4.hh _ _ hD3
     have hF4:F4 D=none:=by
      cases q:F4 D with
      | none=>rfl
      | some o =>
       rcases st4.nw D o q with z | z
       . rw [hF3] at z;cases z
       . rw [hD3] at z;cases z
     have s14:=(st.trans W).trans st4;refine ⟨ys,hD4,?_,F4,ys++[v],done++[y],zs,?_,bi,hF4,(Y.same (W.ff.trans st4.ff)).append (Reps.one rv),hzs,by rw [<- U];simp⟩
     . have e1:=Y.length;have e2:all.length=done.length+(zs.length+1):=by rw [<- U];simp
       lia
     . refine ⟨fun c o e=>?_,s14.ff,fun c o e=>?_,s14.nw⟩
       . rw [aS (cg e hD)];exact s14.hh _ _ e
       . rw [aS (cg e hF4)];exact s14.fh _ _ e
   . rename_i q;rw [if_neg q];exact ⟨F3,ys,done,O,st.trans W,hD3,hF3,Y.same W.ff,L,U⟩
 . rintro H' ⟨F',ys,done,O,st,Z,hFD,Y,L,U⟩;rw [qs0] at L;cases L;rw [qf4] at U;subst U
   exact k1 (.ref D) H' F' (fun b=>b=D) st ⟨D,ys,rfl,rfl,Z,Y⟩ fun b z=>by subst z;exact ⟨hFD,hD,_,Z⟩
theorem bN (S:CmpScope X.N X.env.scope scope M src) (W:X.calm=true) (hi:DIB X tg iter fi) (O:M.Nodup->∀ C s H ex,DG (cxC X M scope C s H ex) tg ts bb)
 (U:∀ C s H ex,DTs (cxC X M scope C s H ex) ifs ft) (Z:∀ C s H ex,DL (cxC X M scope C s H ex) elt fe) (q:(ts.all fun k=>decide (src[k]?=some none))=true) (L:∀ x,qf7 iter X.env x=pure x:=by intro _;rfl) :
  DO X (.ListComp elt [⟨tg,iter,ifs,0⟩] scope pos) (aW src fi bb ft fe):=PE.mono (oe (g:=gD X.K ts bb) (tt:=tTr X.K ft) (te:=tL X.K fe) S W hi (fun Y C s H ex=>O Y C s H ex) (fun C s H ex=>U C s H ex) (fun C s H ex=>Z C s H ex) L) (na S q)
end
noncomputable def dQ (m:Nat) (g:De->Option Out):List Dt->Option T:=fun ds=>match g (ds.map (fun d=>some (T.leaf d))++qf8 (m-ds.length) none) with
 | some (.rt t)=>some t
 | some (.nx _)=>some (.leaf .non)
 | _=>none
theorem ow {F:Hp} (Y:Same F H) (r:Reps K F ds vs) :
  En ⟨K,F,H,fun _=>False⟩ (ds.map (fun d=>some (T.leaf d))++qf8 (N.length-ds.length) none) (start N vs) F H:=by
 have W:=r.length
 have q:∀ (i:Nat) (t:T),(ds.map (fun d=>some (T.leaf d))++qf8 (N.length-ds.length) none)[i]?=some (some t)->∃ d v,t=T.leaf d/\vs[i]?=some v/\Rep K F d v/\(start N vs)[i]?=some (some v):=fun i t h=>by
  by_cases hi:i<ds.length
  . rw [qa8 (by simpa using hi),qb1] at h;have U:ds[i]?=some ds[i]:=by simp [hi]
    rw [U] at h;cases h;obtain ⟨v,O,L⟩:=r.get U;refine ⟨_,v,rfl,O,L,?_⟩;unfold start;rw [qa8 (by simp;lia),qb1,O];rfl
  . rw [qd6 (by simpa using hi)] at h;rw [qm4] at h;split at h<;>cases h
 refine ⟨Y,fun b o h _=>h,Same.refl _,fun b o h=>.inl h,by simp [start,W],fun i t h=>?_,fun _ _=>False,fun i t v h=>?_,fun _ _ z=>z.elim,fun _ _ _ z=>z.elim⟩
 . obtain ⟨d,v,_,_,_,e⟩:=q i t h;exact ⟨v,e⟩
 . obtain ⟨h1,h2⟩:=eX h;obtain ⟨d,w,rfl,_,L,e⟩:=q i t h1;rw [h2] at e;cases e;exact L
variable {st:Stmt}
section
variable {P:qc4} {w:World} {K:PySem.W.Frag} {mg:Str->Option Value} {base:Heap}
theorem Rt.step {F:Hp} {t:T} (h:Rt ⟨K,F,H,fun _=>False⟩ t v F' H') (k:KO K F H t Q):Q v H':=by
 obtain ⟨U,q,L,nw,S,o,O⟩:=h;refine k v H' F' S ⟨fun b u e=>q b u e id,L,U,fun b u e=>(nw b u e).elim .inl fun z=>z.elim .inr ql3⟩ o fun b z=>?_
 obtain ⟨h1,h2,h3⟩:=O b z;exact ⟨h1,h3.elim id ql3,h2⟩
theorem c8 {k:Nat} {g:De->Option Out} (D:DefF K mg x st ps) (S:FnScope N ps (ab st)) (Z:ps.length=n)
 (L:∀ (f:Addr) (cdv:Value) (A:qd9) (outer:List Env) (s:qa4) (H:Hp) (E:XK),Room k (A.deeper (qy3 x (ab st) s.heap.objs.size f cdv))->DS (lj CX0 P w K mg base N x (ab st) f cdv A outer s H E).nox (b7 st) g) :
  OkF P w K mg base x (k+1) ps (spD K n (dQ N.length g)):=by
 refine D.ok S (fun vs H Q E h=>?_) (fun f cdv A outer s H vs Q E Y h=>?_)
 . obtain ⟨F,ds,t,_,W,r,_⟩:=h;rw [r.length,W,Z]
 . obtain ⟨F,ds,t,U,W,r,O,kq⟩:=h;refine ⟨_,L f cdv A outer s H E Y,?_⟩;unfold dQ at O;split at O
   . rename_i t' q;cases O;exact ⟨⟨K,F,H,fun _=>False⟩,_,F,_,rfl,ow U r,q,fun v F' H' z=>z.step kq⟩
   . rename_i δ' q;cases O;exact ⟨⟨K,F,H,fun _=>False⟩,_,F,_,rfl,ow U r,q,fun σ' F' H' z=>(z.rt (Step.refl z.fh) (t:=.leaf .non) (S:=fun _=>False) (rG (K:=K) (F:=F')) fun _ y=>y.elim).step kq⟩
   . cases O
end
section
variable {K:PySem.W.Frag} {F H:Hp} {Q:VK}
theorem KO.int {i:Int} (k:KO K F H (.leaf (.int i)) Q) (q:Same F H):Q (.int i) H:=k.leaf.here q iJ
theorem KO.bl {i:Bool} (k:KO K F H (.leaf (.bl i)) Q) (q:Same F H):Q (.bl i) H:=k.leaf.here q qd
theorem KO.str {i:Str} (k:KO K F H (.leaf (.str i)) Q) (q:Same F H):Q (.str i) H:=k.leaf.here q m8
theorem KO.tup (k:KO K F H (.leaf (.tup l)) Q) (q:Same F H) (r:Reps K F l vs) (hp:H p=none):Q (.ref p) (upd H p (.tup vs)):=by refine k.leaf _ _ _ (Step.new q hp) ?_;simp only [Rep];exact ⟨p,vs,rfl,SqT.of bi,r.same (Same.upd (q.free hp))⟩
end
noncomputable def ju (i j:Int):Bool:=(decide (-(2^64)<i)&&decide (i<2^64))||(decide (-(2^64)<j)&&decide (j<2^64))
theorem xR {i j:Int} (h:ju i j=true):CMul i j:=by unfold ju at h;simp only [qj4,qb4,decide_eq_true_eq] at h;exact h
theorem xS {i j:Int} (h1:-1000000000000000000<i) (h2:i<1000000000000000000):ju i j=true:=by unfold ju;simp only [qj4,qb4,decide_eq_true_eq];left;lia
theorem xT {i j:Int} (h1:-1000000000000000000<j) (h2:j<1000000000000000000):ju i j=true:=by unfold ju;simp only [qj4,qb4,decide_eq_true_eq];right;lia
noncomputable def ox (i j:Int):Bool:=decide (0<=j)&&decide (j<=1000000)&&decide (i.natAbs<2^64)
theorem xU {i j:Int} (h:ox i j=true):Au i j:=by unfold ox at h;simp only [qb4,decide_eq_true_eq] at h;exact ⟨h.1.1,h.1.2,h.2⟩
noncomputable def cy:Dt->Dt->Option T
 | .int i,.int j=>some (.leaf (.int (i+j)))
 | .str a,.str b=>if a.length+b.length<=qb0 then some (.leaf (.str (a++b))) else none
 | .lst l,.lst m=>if l.length+m.length<=qb0 then some (.lst (l++m)) else none
 | .tup l,.tup m=>if l.length+m.length<=qb0/\l≠[]/\m≠[] then some (.leaf (.tup (l++m))) else none
 | _,_=>none
noncomputable def oy:Dt->Dt->Option T
 | .int i,.int j=>some (.leaf (.int (i-j)))
 | _,_=>none
noncomputable def gA:Dt->Dt->Option T
 | .int i,.int j=>if ju i j then some (.leaf (.int (i*j))) else none
 | _,_=>none
noncomputable def bz:Dt->Dt->Option T
 | .int i,.int j=>if 0<j then some (.leaf (.int (i%j))) else none
 | _,_=>none
noncomputable def vi:Dt->Dt->Option T
 | .int i,.int j=>if ox i j then some (.leaf (.int (i^j.toNat))) else none
 | _,_=>none
noncomputable def gq (f:Int->Int->Bool):Dt->Dt->Option T
 | .int i,.int j=>some (.leaf (.bl (f i j)))
 | _,_=>none
variable {b:Bool} {r':R2} {g g':Dt->Dt->Option T} {f:De->Option Dt} {p2:Pos}
section
variable {X:Cx}
theorem xV:OpR X (ql1 .Add) (fun x y H Q=>∃ l b xs zs,x=.ref l/\y=.ref b/\SqL X.K H l xs/\SqL X.K H b zs/\xs.length+zs.length<=qb0/\∀ p,H p=none->Q (.ref p) (upd H p (.lst (xs++zs)))):=by
 intro pins s σ H x y v u Q I rx ry h;obtain ⟨l,b,xs,zs,rfl,rfl,hH,hB,hz,q⟩:=h;cases rx;cases ry;obtain ⟨its,r,pl,_⟩:=I.list hH;obtain ⟨L,r2,Y,_⟩:=I.list hB;obtain ⟨⟨cls,dd,data,sl⟩,n,ho,hc,hd0,hd⟩:=pl;obtain ⟨⟨cls2,Z,data2,sl2⟩,n2,O,W,hd02,U⟩:=Y;simp only at hc hd W U;subst hc hd W U;have e:its.toArray++L.toArray=(its++L).toArray:=by simp
 refine qu6 ⟨_,ho,rfl⟩ ⟨_,O,rfl⟩ noFill_list_add seq_list_add PySem.F.slot_list_add PySem.F.entry_list_add (PySem.F.args_list_add_2 _ _) (list_addW l b its.toArray L.toArray n n2 dd Z sl sl2 (by rw [qb5,qb5,<- r.length,<- r2.length];exact hz)) ⟨ho,O,?_⟩;rw [e];exact ⟨.ref _,_,I.lnew (t':=s.toks) (r.append r2) (by rw [qb8];exact hz),rfl,q _ I.fresh⟩
noncomputable abbrev lT (K:PySem.W.Frag):R2:=fun x y H Q=>(rI0 (fun i j=>.int (i+j)) x y H Q)∨(∃ i j,x=.str i/\y=.str j/\i.length+j.length<=qb0/\Q (.str (i++j)) H)∨(∃ l b xs zs,x=.ref l/\y=.ref b/\SqL K H l xs/\SqL K H b zs/\xs.length+zs.length<=qb0/\∀ p,H p=none->Q (.ref p) (upd H p (.lst (xs++zs))))∨zi K x y H Q
theorem bw:OpR X (ql1 .Add) (lT X.K):=OpR.or Av (OpR.or pX (OpR.or xV xC))
theorem cJ:R2D K (lT K) cy:=by
 intro F H x y vx vy Q t O W Y q k;unfold cy at q;split at q<;>first | (cases q;done) | skip
 . cases q;cases W;cases Y;exact .inl ⟨_,_,rfl,rfl,k.int O⟩
 . split at q
   . cases q;cases W;cases Y;exact .inr (.inl ⟨_,_,rfl,rfl,by assumption,k.str O⟩)
   . cases q
 . split at q
   . rename_i U;cases q;obtain ⟨a,vs,rfl,h1,h2⟩:=W;obtain ⟨b,Z,rfl,h3,L⟩:=Y;exact .inr (.inr (.inl ⟨a,b,vs,Z,rfl,rfl,h1,h3,by rw [h2.length,L.length];exact U,fun p hp=>g9 k O (h2.append L) hp⟩))
   . cases q
 . split at q
   . rename_i U;cases q;obtain ⟨a,vs,rfl,h1,h2⟩:=W;obtain ⟨b,Z,rfl,h3,L⟩:=Y;obtain ⟨U,n1,n2⟩:=U;refine .inr (.inr (.inr ⟨a,b,vs,Z,rfl,rfl,O.tup h1,O.tup h3,fun z=>?_,by rw [h2.length,L.length];exact U,fun z=>?_,fun _ p hp=>k.tup O (h2.append L) hp⟩))
     . subst z;have:=h2.length;exact n1 (qs1 this.symm)
     . subst z;have:=L.length;exact absurd (qs1 this.symm) n2
   . cases q
theorem zu:R2D K (rI0 fun i j=>.int (i-j)) oy:=by
 intro F H x y Y W Q t O L U q k;unfold oy at q;split at q<;>first | (cases q;done) | skip
 cases q;cases L;cases U;exact ⟨_,_,rfl,rfl,k.int O⟩
theorem kh:R2D K (rI CMul fun i j=>.int (i*j)) gA:=by
 intro F H x y Y W Q t O L U q k;unfold gA at q;split at q<;>first | (cases q;done) | skip
 split at q
 . cases q;cases L;cases U;exact ⟨_,_,rfl,rfl,xR (by assumption),k.int O⟩
 . cases q
theorem bK:R2D K (rI (fun _ j=>0<j) fun i j=>.int (i%j)) bz:=by
 intro F H x y W Y Q t O L U q k;unfold bz at q;split at q<;>first | (cases q;done) | skip
 split at q
 . cases q;cases L;cases U;exact ⟨_,_,rfl,rfl,by assumption,k.int O⟩
 . cases q
theorem CF:R2D K (rI Au fun i j=>.int (i^j.toNat)) vi:=by
 intro F H x y Y W Q t O L U q k;unfold vi at q;split at q<;>first | (cases q;done) | skip
 split at q
 . cases q;cases L;cases U;exact ⟨_,_,rfl,rfl,xU (by assumption),k.int O⟩
 . cases q
theorem ii {f:Int->Int->Bool}:R2D K (rI0 fun i j=>.bl (f i j)) (gq f):=by
 intro F H x y W Y Q t O L U q k;unfold gq at q;split at q<;>first | (cases q;done) | skip
 cases q;cases L;cases U;exact ⟨_,_,rfl,rfl,k.bl O⟩
noncomputable def eqD:Dt->Dt->Option Bool
 | .non,.non=>some true
 | .non,.int _=>some false
 | .non,.bl _=>some false
 | .non,.str _=>some false
 | .int _,.non=>some false
 | .bl _,.non=>some false
 | .str _,.non=>some false
 | .int i,.int j=>some (decide (i=j))
 | .bl i,.bl j=>some (decide (i=j))
 | .str i,.str j=>some (decide (i=j))
 | .int _,.str _=>some false
 | .str _,.int _=>some false
 | .bl _,.str _=>some false
 | .str _,.bl _=>some false
 | .tup l,.tup m=>if cmpbs l m&&decide (deeps l<=59) then some (peqs l m) else none
 | .lst l,.lst m=>if cmpbs l m&&decide (deeps l<=59) then some (peqs l m) else none
 | _,_=>none
noncomputable def gEq (neg:Bool) (x y:Dt):Option T:=(eqD x y).map fun b=>.leaf (.bl (if neg then !b else b))
abbrev rEqA (K:PySem.W.Frag):R2:=fun x y H Q=>rEq x y H Q∨xN K false x y H Q
abbrev rNeA (K:PySem.W.Frag):R2:=fun x y H Q=>rNe x y H Q∨xN K true x y H Q
theorem bG {k:Nat} (q:Room k X.A):OpR X (qe6 .Eq) (rEqA X.K):=OpR.or Cj (AQ q rfl)
theorem gB {k:Nat} (q:Room k X.A):OpR X (qe6 .NotEq) (rNeA X.K):=OpR.or Ck (AR q rfl)
theorem vj {F:Hp} {x y:Dt} {O L:V} (Y:Same F H) (U:RepB K F H x O) (W:RepB K F H y L) (h:eqD x y=some b) :
  (Ay O L=true/\b=decide (O=L))∨(((∃ l m,x=.tup l/\y=.tup m)∨∃ l m,x=.lst l/\y=.lst m)/\dX x y=true/\fZ x<=60/\b=peq x y):=by
 unfold eqD at h
 split at h<;>first
  | (cases h;done)
  | (cases h;cases U;cases W;left;refine ⟨rfl,?_⟩;simp;done)
  | skip
 . right;split at h
   . rename_i q;simp only [qb4,decide_eq_true_eq] at q;cases h;exact ⟨.inl ⟨_,_,rfl,rfl⟩,by simp only [dX];exact q.1,by simp only [fZ];lia,by simp only [peq]⟩
   . cases h
 . right;split at h
   . rename_i q;simp only [qb4,decide_eq_true_eq] at q;cases h;exact ⟨.inr ⟨_,_,rfl,rfl⟩,by simp only [dX];exact q.1,by simp only [fZ];lia,by simp only [peq]⟩
   . cases h
theorem dG:R2D K (rEqA K) (gEq false):=by
 intro F H x y Y Z Q t L O U q k;unfold gEq at q;obtain ⟨b,W,q⟩:=mS q;cases q;have kk:Q (.bl b) H:=k.bl L;rcases vj L O U W with ⟨h1,rfl⟩ | ⟨h1,h2,h3,rfl⟩
 . exact .inl ⟨h1,kk⟩
 . exact .inr ⟨x,y,h1,O.rep L,U.rep L,h2,h3,kk⟩
theorem oz:R2D K (rNeA K) (gEq true):=by
 intro F H x y Y Z Q t L O U q k;unfold gEq at q;obtain ⟨b,W,q⟩:=mS q;cases q;have kk:Q (.bl (!b)) H:=k.bl L;rcases vj L O U W with ⟨h1,rfl⟩ | ⟨h1,h2,h3,rfl⟩
 . exact .inl ⟨h1,kk⟩
 . exact .inr ⟨x,y,h1,O.rep L,U.rep L,h2,h3,kk⟩
noncomputable def ij:Dt->Bool
 | .non=>true
 | _=>false
noncomputable def gIs (neg:Bool) (x y:Dt):Option T:=match y with
 | .non=>some (.leaf (.bl (if neg then !ij x else ij x)))
 | _=>none
theorem oA {F:Hp} {x:Dt} (r:RepB K F H x v):ij x=decide (v=.non):=by
 cases x<;>first
  | (cases r;rfl)
  | (obtain ⟨a,vs,rfl,_⟩:=r;rfl)
  | (simp only [RepB,Rep] at r;obtain ⟨a,C,dx,fs,rfl,_⟩:=r;rfl)
theorem vk:R2D K (fun x y H Q=>y=.non/\Q (.bl (decide (x=.non))) H) (gIs false):=by
 intro F H x y W Y Q t O L U q k;cases y<;>first | cases q;done | skip
 cases q;cases U;refine ⟨rfl,?_⟩;rw [<- oA L];exact k.bl O
theorem xW:R2D K (fun x y H Q=>y=.non/\Q (.bl (!decide (x=.non))) H) (gIs true):=by
 intro F H x y W Y Q t O L U q k;cases y<;>first | cases q;done | skip
 cases q;cases U;refine ⟨rfl,?_⟩;rw [<- oA L];exact k.bl O
noncomputable def cC:Dt->Bool
 | .non=>true
 | .bl _=>true
 | .int _=>true
 | .str _=>true
 | _=>false
noncomputable def eqF:Dt->Dt->Bool
 | .non,.non=>true
 | .bl a,.bl b=>a==b
 | .bl a,.int b=>(if a then 1 else 0)==b
 | .int a,.bl b=>a==(if b then 1 else 0)
 | .int a,.int b=>a==b
 | .str a,.str b=>a==b
 | _,_=>false
noncomputable def inS (j i:Str):Bool:=!(qp5 j i 0 j.length 1).isEmpty
noncomputable def inD:Dt->Dt->Option Bool
 | .str i,.str j=>some (inS j i)
 | x,.lst l=>if cC x&&l.all cC then some (l.any fun y=>eqF y x) else none
 | x,.tup l=>if cC x&&l.all cC then some (l.any fun y=>eqF y x) else none
 | _,_=>none
noncomputable def gIn (neg:Bool) (x y:Dt):Option T:=(inD x y).map fun b=>.leaf (.bl (if neg then !b else b))
theorem nc {F:Hp} {d:Dt} (r:Rep K F d v) (h:cC d=true):ig v=true:=by
 cases d<;>simp only [Rep] at r<;>first
  | (subst r;rfl)
  | cases h
theorem AV {F:Hp} {d e:Dt} {w:V} (r:Rep K F d v) (r':Rep K F' e w) (h:cC d=true) (h':cC e=true):eqF d e=eqV v w:=by
 cases d<;>first | cases h;done | skip
 all_goals cases e<;>first | cases h';done | skip
 all_goals simp only [Rep] at r r';subst r r';rfl
theorem ki {F:Hp}:∀ {l:List Dt} {vs:List V},Reps K F l vs->l.all cC=true->vs.all ig=true
 | [],vs,r,_=>by simp only [Reps] at r;subst r;rfl
 | d::l,vs,r,h=>by simp only [Reps] at r;obtain ⟨v,q,rfl,h1,h2⟩:=r;rw [qk4,qb4] at h ⊢;exact ⟨nc h1 h.1,ki h2 h.2⟩
theorem qg {F:Hp} {x:Dt} {w:V} (r':Rep K F' x w) (q:cC x=true):∀ {l:List Dt} {vs:List V},Reps K F l vs->l.all cC=true->(l.any fun y=>eqF y x)=inV w vs
 | [],vs,r,_=>by simp only [Reps] at r;subst r;rfl
 | d::l,vs,r,h=>by simp only [Reps] at r;obtain ⟨v,L,rfl,h1,h2⟩:=r;rw [qk4,qb4] at h;unfold inV;rw [qi2,qi2,AV h1 r' h.1 q,qg r' q h2 h.2];rfl
abbrev vm (K:PySem.W.Frag) (neg:Bool):R2:=fun x y H Q=>(∃ i j,x=.str i/\y=.str j/\Q (.bl (if neg then !inS j i else inS j i)) H)∨rIn K neg x y H Q
theorem vn:OpR X (qe6 .In) (vm X.K false):=OpR.or sT sY
theorem lU:OpR X (qe6 .NotIn) (vm X.K true):=OpR.or mR mQ
theorem r_in (neg:Bool):R2D K (vm K neg) (gIn neg):=by
 intro F H x y vx vy Q t W Y Z U k;unfold gIn at U;obtain ⟨b,O,U⟩:=mS U;cases U;have kk:=k.bl W;unfold inD at O;split at O<;>first | (cases O;done) | skip
 . cases O;cases Y;cases Z;exact .inl ⟨_,_,rfl,rfl,kk⟩
 . split at O
   . rename_i q;rw [qb4] at q;cases O;obtain ⟨a,vs,rfl,h1,h2⟩:=Z;have L:=Y.rep W;rw [qg L q.1 h2 q.2] at kk;exact .inr ⟨a,vs,rfl,.inl h1,nc L q.1,ki h2 q.2,kk⟩
   . cases O
 . split at O
   . rename_i q;rw [qb4] at q;cases O;obtain ⟨a,vs,rfl,h1,h2⟩:=Z;have L:=Y.rep W;rw [qg L q.1 h2 q.2] at kk;exact .inr ⟨a,vs,rfl,.inr (W.tup h1),nc L q.1,ki h2 q.2,kk⟩
   . cases O
theorem oB {F:Hp} {i:Int} {d:Dt} (r:Reps K F l vs) (h:atI l i=some d):∃ v,atI vs i=some v/\Rep K F d v:=by unfold atI at h ⊢;rw [r.length];obtain ⟨j,L,h⟩:=bS h;obtain ⟨v,e,q⟩:=r.get h;exact ⟨v,by rw [L];exact e,q⟩
noncomputable def gIx:Dt->Dt->Option T
 | .lst l,.int i=>(atI l i).map .leaf
 | .tup l,.int i=>(atI l i).map .leaf
 | .str x,.int i=>if x.length<=qb0 then (atI x.cps.toList i).map fun c=>.leaf (.str ⟨#[c]⟩) else none
 | _,_=>none
theorem r_ix:R2D K (rIx K) gIx:=by
 intro F H x y vx vy Q t L O Y q k;unfold gIx at q;split at q<;>first | (cases q;done) | skip
 . obtain ⟨d,W,q⟩:=mS q;cases q;cases Y;obtain ⟨a,vs,rfl,h1,h2⟩:=O;obtain ⟨v,e,U⟩:=oB h2 W;exact .inl ⟨a,vs,_,v,rfl,rfl,h1,e,k.leaf.here L U⟩
 . obtain ⟨d,W,q⟩:=mS q;cases q;cases Y;obtain ⟨a,vs,rfl,h1,h2⟩:=O;obtain ⟨v,e,U⟩:=oB h2 W;exact .inr (.inl ⟨a,vs,_,v,rfl,rfl,L.tup h1,e,k.leaf.here L U⟩)
 . split at q
   . rename_i hl;obtain ⟨c,Z,q⟩:=mS q;cases q;cases O;cases Y;exact .inr (.inr ⟨_,_,c,rfl,rfl,hl,Z,k.str L⟩)
   . cases q
variable {a b c:Expr} {fa fb fc:De->Option Dt} {pos:Pos}
noncomputable def iz (g g':Dt->Dt->Option T) (fa fb fc:De->Option Dt):De->Option T:=fun δ=>(fa δ).bind fun x=>(fb δ).bind fun y=>(g x y).bind fun z=>(asB z).bind fun k=>if k then (fc δ).bind fun w=>g' y w else some (.leaf (.bl false))
theorem vo (hr:R2D K r g) (Z:R2D K r' g') (h:tO K (iz g g' fa fb fc) σ H Q):uL r r' (tBd K fa) (tBd K fb) (tBd K fc) σ H Q:=by
 obtain ⟨Φ,δ,F,t,hK,en,L,k⟩:=h;unfold iz at L;obtain ⟨x,hx,L⟩:=bS L;obtain ⟨y,hy,L⟩:=bS L;obtain ⟨z,hz,L⟩:=bS L;obtain ⟨b,hb,L⟩:=bS L;refine ⟨Φ,δ,F,x,hK,en,hx,fun v H1 F1 st rv=>⟨Φ,δ,F1,y,hK,en.step st,hy,fun v2 H2 F2 U Y=>hr F2 H2 x y v v2 _ z U.fh (rv.step U.ff U.hh) Y hz fun v3 H3 F3 S O o hs=>⟨b,m6 hb o,?_⟩⟩⟩;have s3:=(st.trans U).trans O;split at L
 . rename_i q;rw [if_pos q];obtain ⟨w,hw,L⟩:=bS L;exact ⟨Φ,δ,F3,w,hK,en.step s3,hw,fun v4 H4 F4 W rv4=>Z F4 H4 y w v2 v4 Q t W.fh (Y.step (O.ff.trans W.ff) (O.hh.trans W.hh)) rv4 L (k.step (s3.trans W))⟩
 . rename_i q;rw [if_neg q];cases L;exact (k.step s3).bl O.fh
theorem vp {O q:CmpOp} (ho:OpR X (qe6 O) r) (Y:R2D X.K r g) (U:OpR X (qe6 q) r') (L:R2D X.K r' g') (W:DB X a fa) (hb:DB X b fb) (Z:DB X c fc) (hm:lastMarks [O,q] [b,c]=false:=by with_unfolding_all rfl):DO X (.Compare a [O,q] [b,c] pos) (iz g g' fa fb fc):=PE.mono (uM ho U W hb Z hm) fun σ H Q h=>vo Y L h
noncomputable def kj (l:List Dt) (lo hi:Option Int):List Dt:=(l.drop (HT.sIx l.length 0 lo)).take (HT.sIx l.length l.length hi-HT.sIx l.length 0 lo)
noncomputable def gSl:Dt->Option Int->Option Int->Option T
 | .str x,lo,hi=>if x.length<=qb0 then some (.leaf (.str (Txt.slice x lo hi))) else none
 | .lst l,lo,hi=>some (.lst (kj l lo hi))
 | .tup l,lo,hi=>if HT.sIx l.length 0 lo=0/\HT.sIx l.length l.length hi=l.length then none else some (.leaf (.tup (kj l lo hi)))
 | _,_,_=>none
abbrev rSlA (K:PySem.W.Frag):V->Option Int->Option Int->Hp->VK->Prop:=fun x lo hi H Q=>rSlS x lo hi H Q∨rSlL K x lo hi H Q∨rSlT K x lo hi H Q
theorem AW:SlR X (rSlA X.K):=SlR.or AK (SlR.or xE AE)
theorem oC {F:Hp} (r:Reps K F l vs) (lo hi:Option Int):Reps K F (kj l lo hi) (nX vs lo hi):=by unfold kj nX;rw [r.length];exact (r.drop _).take _
theorem r_sl {F:Hp} {x:Dt} {lo hi:Option Int} {t:T} (L:Same F H) (O:RepB K F H x v) (q:gSl x lo hi=some t) (k:KO K F H t Q):rSlA K v lo hi H Q:=by
 unfold gSl at q;split at q<;>first | (cases q;done) | skip
 . split at q
   . cases q;cases O;exact .inl ⟨_,rfl,by assumption,k.str L⟩
   . cases q
 . obtain ⟨a,vs,rfl,h1,h2⟩:=O;cases q;exact .inr (.inl ⟨a,vs,rfl,h1,fun p hp=>g9 k L (oC h2 _ _) hp⟩)
 . obtain ⟨a,vs,rfl,h1,h2⟩:=O;split at q
   . cases q
   . rename_i U;cases q;rw [<- h2.length] at U;exact .inr (.inr ⟨a,vs,rfl,L.tup h1,U,fun p hp=>k.tup L (oC h2 _ _) hp⟩)
noncomputable def tOD (K:PySem.W.Frag) (f:De->Option (Option Int)):TO:=fun σ H Q=>∃ Φ δ F d,Fm.K Φ=K/\En Φ δ σ F H/\f δ=some d/\∀ H' F',Step F H F' H'->Q d H'
noncomputable def fC:De->Option (Option Int):=fun _=>some none
noncomputable def asI:Dt->Option Int
 | .int i=>some i
 | _=>none
noncomputable def dL (f:De->Option Dt):De->Option (Option Int):=fun δ=>(f δ).bind fun d=>(asI d).map some
theorem oD {F:Hp} {x:Dt} {b:Int} (h:asI x=some b) (r:RepB K F H x v):v=.int b:=by
 cases x<;>first | cases h;done | skip
 cases h;exact r
noncomputable def DP (X:Cx) (e:Option Expr) (f:De->Option (Option Int)):Prop:=PO X e (tOD X.K f)
theorem iN:DP X none fC:=fun pins s σ H Q I h=>xA pins s σ H Q I (by obtain ⟨Φ,δ,F,d,L,en,q,k⟩:=h;cases q;exact k H F (Step.refl en.fh))
theorem eO (h:DB X e f):DP X (some e) (dL f):=fun pins s σ H Q I q=>xB h pins s σ H Q I (by obtain ⟨Φ,δ,F,d,U,en,L,k⟩:=q;unfold dL at L;obtain ⟨x,O,L⟩:=bS L;obtain ⟨i,hi,L⟩:=mS L;cases L;exact ⟨Φ,δ,F,x,U,en,O,fun v H' F' st r=>⟨i,oD hi r,k H' F' st⟩⟩)
noncomputable def vSl (fa:De->Option Dt) (L q:De->Option (Option Int)):De->Option T:=fun δ=>(fa δ).bind fun x=>(L δ).bind fun l=>(q δ).bind fun h=>gSl x l h
theorem eZ {lo hi:Option Expr} {fl Z:De->Option (Option Int)} (he:DB X e f) (Y:DP X lo fl) (U:DP X hi Z):DO X (.Subscript e (.Slice lo hi none p2) pos) (vSl f fl Z):=PE.mono (uR AW he Y U) fun σ H Q ⟨Φ,δ,F,t,W,en,q,k⟩=>by unfold vSl at q;obtain ⟨x,hx,q⟩:=bS q;obtain ⟨l,Y,q⟩:=bS q;obtain ⟨h,U,q⟩:=bS q;exact ⟨Φ,δ,F,x,W,en,hx,fun v H1 F1 s1 r1=>⟨Φ,δ,F1,l,W,en.step s1,Y,fun H2 F2 O=>⟨Φ,δ,F2,h,W,en.step (s1.trans O),U,fun H3 F3 L=>r_sl L.fh (r1.step (O.ff.trans L.ff) (O.hh.trans L.hh)) q (k.step ((s1.trans O).trans L))⟩⟩⟩
noncomputable def xX (f:De->Option Dt):De->Option T:=fun δ=>(f δ).bind fun d=>(asI d).map fun i=>.leaf (.int (-i))
theorem vq (h:DB X a fa):DO X (.UnaryOp .USub a pos) (xX fa):=PE.mono (Ci Ax h) fun σ H Q ⟨Φ,δ,F,t,O,en,q,k⟩=>by unfold xX at q;obtain ⟨x,L,q⟩:=bS q;obtain ⟨i,hi,q⟩:=mS q;cases q;exact ⟨Φ,δ,F,x,O,en,L,fun v H' F' st r=>⟨i,oD hi r,(k.step st).int st.fh⟩⟩
noncomputable def bD:List Dt->Option T
 | [.str x]=>if x.length<=qb0 then some (.leaf (.int x.length)) else none
 | [.tup l]=>some (.leaf (.int l.length))
 | [.lst l]=>some (.leaf (.int l.length))
 | _=>none
theorem dw {F:Hp} {d:Dt} (r:RepBs K F H [d] vs):∃ v,vs=[v]/\RepB K F H d v:=by obtain ⟨v,q,rfl,h1,h2⟩:=r;cases h2;exact ⟨v,rfl,h1⟩
theorem cV:CRD K (fun xs H Q=>∃ x n,xs=[x]/\LenV K x H n/\Q (.int n) H) bD:=by
 intro F H ds vs Q t O r q k;unfold bD at q;split at q<;>first | (cases q;done) | skip
 . split at q
   . rename_i U;cases q;obtain ⟨v,rfl,L⟩:=dw r;cases L;exact ⟨_,_,rfl,⟨U,rfl⟩,k.int O⟩
   . cases q
 . cases q;obtain ⟨v,rfl,L⟩:=dw r;obtain ⟨a,vs,rfl,h1,h2⟩:=L;rw [<- h2.length] at k;exact ⟨_,_,rfl,.inr ⟨vs,O.tup h1,rfl⟩,k.int O⟩
 . cases q;obtain ⟨v,rfl,L⟩:=dw r;obtain ⟨a,vs,rfl,h1,h2⟩:=L;rw [<- h2.length] at k;exact ⟨_,_,rfl,.inl ⟨vs,h1,rfl⟩,k.int O⟩
noncomputable def lV:List Dt->Option (List Bool)
 | []=>some []
 | .bl b::r=>(lV r).map (b::·)
 | _=>none
theorem oE {F:Hp}:∀ {l:List Dt} {vs:List V} {bs:List Bool},Reps K F l vs->lV l=some bs->vs=bs.map V.bl
 | [],vs,bs,r,h=>by cases h;simp only [Reps] at r;exact r
 | d::l,vs,bs,r,h=>by
  cases d<;>first | cases h;done | skip
  simp only [lV] at h;obtain ⟨cs,L,h⟩:=mS h;cases h;simp only [Reps,Rep] at r;obtain ⟨v,O,rfl,rfl,q⟩:=r;rw [oE q L];rfl
noncomputable def lp (f:List Bool->Bool):List Dt->Option T
 | [.lst l]=>(lV l).map fun bs=>.leaf (.bl (f bs))
 | _=>none
theorem vt {f:List Bool->Bool}:CRD K (fun xs H Q=>∃ (a:Addr) (bs:List Bool),xs=[.ref a]/\SqL K H a (bs.map V.bl)/\Q (.bl (f bs)) H) (lp f):=by
 intro F H ds vs Q t U r q k;unfold lp at q;split at q<;>first | (cases q;done) | skip
 obtain ⟨bs,O,q⟩:=mS q;cases q;obtain ⟨v,rfl,L⟩:=dw r;obtain ⟨a,vs,rfl,h1,h2⟩:=L;have:=oE h2 O;subst this;exact ⟨a,bs,rfl,h1,k.bl U⟩
noncomputable def vv:List Dt->Option T
 | [.int i]=>some (.leaf (.int i))
 | [.bl b]=>some (.leaf (.int (if b then 1 else 0)))
 | [.str x]=>(PySem.intText? x).bind fun n=>if x.length<=640 then some (.leaf (.int n)) else none
 | _=>none
abbrev zv:List V->Hp->VK->Prop:=fun xs H Q=>((∃ i,xs=[.int i]/\Q (.int i) H)∨∃ k,xs=[.bl k]/\Q (.int (if k then 1 else 0)) H)∨∃ x n,xs=[.str x]/\PySem.intText? x=some n/\x.length<=640/\Q (.int n) H
theorem lW:CallR X (.type "int") zv:=CallR.or sU mU
theorem zw:CRD K zv vv:=by
 intro F H ds vs Q t O r q k;unfold vv at q;split at q<;>first | (cases q;done) | skip
 . cases q;obtain ⟨v,rfl,L⟩:=dw r;cases L;exact .inl (.inl ⟨_,rfl,k.int O⟩)
 . cases q;obtain ⟨v,rfl,L⟩:=dw r;cases L;exact .inl (.inr ⟨_,rfl,k.int O⟩)
 . obtain ⟨n,U,q⟩:=bS q;split at q
   . cases q;obtain ⟨v,rfl,L⟩:=dw r;cases L;exact .inr ⟨_,n,rfl,U,by assumption,k.int O⟩
   . cases q
noncomputable def cu:List Dt->Option T
 | [.lst l]=>some (.leaf (.tup l))
 | [.tup l]=>some (.leaf (.tup l))
 | _=>none
theorem d8:CRD K (fun xs H Q=>∃ p ys,xs=[.ref p]/\((SqL K H p ys/\∀ l,H l=none->Q (.ref l) (upd H l (.tup ys)))∨(SqT K H p ys/\Q (.ref p) H))) cu:=by
 intro F H ds vs Q t U r q k;unfold cu at q;split at q<;>first | (cases q;done) | skip
 . cases q;obtain ⟨v,rfl,L⟩:=dw r;obtain ⟨a,vs,rfl,h1,h2⟩:=L;exact ⟨a,vs,rfl,.inl ⟨h1,fun p hp=>k.tup U h2 hp⟩⟩
 . cases q;obtain ⟨v,rfl,L⟩:=dw r;rename_i l;have O:Rep K F (.tup l) v:=by simp only [Rep];exact L
   obtain ⟨a,vs,rfl,h1,h2⟩:=L;exact ⟨a,vs,rfl,.inr ⟨U.tup h1,k.leaf.here U O⟩⟩
end
variable {pins:List (Addr×Obj)} {s:qa4} {A:qd9} {E:Value->qa4->Prop}
section
variable {X:Cx} {o a b e c:Expr} {es:List Expr} {fa fb fo fe:De->Option Dt} {fs:De->Option (List Dt)} {pos apos cpos p:Pos} {x:Str} {sc:Scope} {i:Nat}
noncomputable def vz (K:PySem.W.Frag) (mg:Str->Option Value) (x:Str) (d:Dt):Prop:=∃ v,(∃ u,mg x=some u/\RelV v u)/\∀ F,Rep K F d v
theorem xY {d:Dt} (h:aH sc x=true) (q:vz X.K X.mg x d) (e1:cP X sc:=by rfl):DL X (.Name x pos) (kD d):=by obtain ⟨v,h1,h2⟩:=q;exact u9 (kc h h1 e1) h2
noncomputable def oF:Dt->Bool
 | .ins _ _ _=>true
 | _=>false
noncomputable def tyD:Dt->String
 | .ins _ _ _=>"object"
 | .non=>"NoneType"
 | .bl _=>"bool"
 | .int _=>"int"
 | .str _=>"str"
 | .tup _=>"tuple"
 | .lst _=>"list"
 | .dct _ _=>"dict"
 | .dcT _ _=>"dict"
noncomputable def zy (c:String):Dt->Bool
 | .ins _ _ _=>false
 | .non=>c=="NoneType"
 | .bl _=>c=="bool"||c=="int"
 | .int _=>c=="int"
 | .str _=>c=="str"
 | .tup _=>c=="tuple"
 | .lst _=>c=="list"
 | .dct _ _=>c=="dict"
 | .dcT _ _=>c=="dict"
theorem qh {Q:Value->qa4->Prop} {c:Value} {b:Bool} {u:Value} {d:Dt} (I:Inv X pins σ H s) (q:RelV v u) (r:Rep X.K H d v) (hi:oF d=false) (e:PySem.W.kitOne X.K (.type (tyD d)) c=some b) (h:∀ tk,Q (.bool b) {s with toks:=tk}) :
  wpAny (model X.prog X.w) A (call (.builtin "isinstance") [u,c]) Q E s:=by
 cases d with
 | non=>simp only [Rep] at r;subst r;exact gZ I q .non e h
 | bl y=>simp only [Rep] at r;subst r;exact gZ I q (.bl y) e h
 | int y=>simp only [Rep] at r;subst r;exact gZ I q (.int y) e h
 | str y=>simp only [Rep] at r;subst r;exact gZ I q (.str y) e h
 | tup l =>simp only [Rep] at r;obtain ⟨a,vs,rfl,h1,h2⟩:=r;cases q;obtain ⟨its,_,O,_⟩:=I.tuple h1;obtain ⟨o,L,e2,_⟩:=O;exact PySem.W.kia_one PySem.W.kitx_tuple I.kIn ⟨o,L,e2⟩ e (fun z=>nomatch z) h
 | lst l =>simp only [Rep] at r;obtain ⟨a,vs,rfl,h1,h2⟩:=r;cases q;obtain ⟨its,_,O,_⟩:=I.list h1;obtain ⟨o,n,L,e2,_⟩:=O;exact PySem.W.kia_one PySem.W.kitx_list I.kIn ⟨o,L,e2⟩ e (fun z=>nomatch z) h
 | dct ks l =>simp only [Rep] at r;obtain ⟨a,kvs,rfl,h1,_⟩:=r;cases q;obtain ⟨_,_,vs,_,p⟩:=j4 I.hok h1;obtain ⟨o,es,ep,L,e2,_⟩:=p;exact PySem.W.kia_one PySem.W.kitx_dict I.kIn ⟨o,L,e2.1⟩ e (fun z=>nomatch z) h
 | dcT ks l =>simp only [Rep] at r;obtain ⟨a,kvs,rfl,h1,_⟩:=r;cases q;obtain ⟨_,_,xs,_,o,es,ep,L,e2,_⟩:=(show ObjOk X.prog X.w H s.heap a (.dT kvs) from h1.ok I.hok);exact PySem.W.kia_one PySem.W.kitx_dict I.kIn ⟨o,L,e2.1⟩ e (fun z=>nomatch z) h
 | ins c ns l=>cases hi
noncomputable def e6 (K:PySem.W.Frag) (c:String):Prop:=∀ d:Dt,oF d=false->PySem.W.kitOne K (.type (tyD d)) (.type c)=some (zy c d)
theorem qi:CallR X (.builtin "isinstance") (fun xs H Q=>∃ v c d b,xs=[v,.ty c]/\Rep X.K H d v/\oF d=false/\PySem.W.kitOne X.K (.type (tyD d)) (.type c)=some b/\Q (.bl b) H):=by intro pins s σ H xs us Q I r h;obtain ⟨v,c,d,b,rfl,rd,hi,e,q⟩:=h;obtain ⟨u,U,rfl,O,L⟩:=Cn r;cases L;exact qh I O rd hi e fun tk=>⟨.bl b,H,I.tok _,rfl,q⟩
noncomputable def fF (c:String) (f:De->Option Dt):De->Option T:=fun δ=>(f δ).bind fun d=>if oF d then none else some (.leaf (.bl (zy c d)))
theorem eR {q:Str} {cs:String} {p1:Pos} (h:aH sc "isinstance"=true) (W:aH sc q=true) (hm:X.mg "isinstance"=none) (O:X.mg q=none) (hv:qd7 q=some (.type cs)) (hk:e6 X.K cs) (ha:DB X a fa) (e1:cP X sc:=by rfl)
 (Z:qa6 [a,.Name q p2] X.env=(false,eval a X.env)::qa6 [.Name q p2] X.env:=by rfl) (Y:qa6 [.Name q p2] X.env=(false,eval (.Name q p2) X.env)::qa6 [] X.env:=by rfl) (U:(qh9 pos (qa6 [.Name q p2] X.env)).any (·.1)=false:=by rfl) :
  DO X (.Call (.Name "isinstance" p1) [a,.Name q p2] [] pos) (fF cs fa):=
 PE.mono (g7 h qi hm ln (d7 ha (d7 (u6 (v:=.ty cs) W O hv rfl e1) fY Y) Z) e1 Z U) fun σ H Q ⟨Φ,δ,F,t,hK,en,L,k⟩=>by
  unfold fF at L;obtain ⟨d,hd,L⟩:=bS L;cases hi:oF d with
  | true=>rw [hi] at L;cases L
  | false =>rw [hi] at L;cases L;exact ⟨Φ,δ,F,d,hK,en,hd,fun v H' F' st r=>⟨v,cs,d,_,rfl,r.rep st.fh,hi,hk d hi,(k.step st).bl st.fh⟩⟩
noncomputable def MRD (K:PySem.W.Frag) (r:V->List V->Hp->VK->Prop) (g:Dt->List Dt->Option T):Prop:=∀ F H d v ds vs (Q:VK) t,Same F H->RepB K F H d v->RepBs K F H ds vs->g d ds=some t->KO K F H t Q->r v vs H Q
noncomputable def fQ (g:Dt->List Dt->Option T) (fo:De->Option Dt) (fs:De->Option (List Dt)):De->Option T:=fun δ=>(fo δ).bind fun d=>(fs δ).bind fun ds=>g d ds
theorem AX {name:Str} {id:String} {r:V->List V->Hp->VK->Prop} {g:Dt->List Dt->Option T} (slot:Slot "str" name id) (hty:typeOf (.builtin id)=pure (.type "method_descriptor")) (hm:MtR X id r) (hr:MRD X.K r g) (hg:∀ d ds t,g d ds=some t->∃ z,d=.str z)
  (ho:DB X o fo) (ha:DAB X (e::es) fs)
  (W:qk5 o name X.env (eval o X.env)=eval o X.env:=by rfl)
  (Y:((qh9 cpos (qa6 (e::es) X.env)).all (fun x=>!x.1)&&(zb2 cpos (qr0 [] X.env)).all (fun x=>x.1.isSome)
   && decide ((e::es).length+([]:List qp6).length+(if ([]:List qp6).isEmpty then 0 else 1)<30))=true:=by rfl)
  (O:(apos.endLine==cpos.line)=true:=by rfl) (hs:qa6 (e::es) X.env=(false,eval e X.env)::qa6 es X.env:=by rfl) (L:(qh9 cpos (qa6 es X.env)).any (·.1)=false:=by rfl) :
  DO X (.Call (.Attribute o name apos) (e::es) [] cpos) (fQ g fo fs):=PE.mono (nY PySem.F.plainAttrs_str slot hty hm ho ha.pa W Y O hs L) fun σ H Q ⟨Φ,δ,F,t,hK,en,U,k⟩=>by
 unfold fQ at U;obtain ⟨d,hd,U⟩:=bS U;obtain ⟨ds,hds,U⟩:=bS U;refine ⟨Φ,δ,F,d,hK,en,hd,fun v H1 F1 st rv=>⟨?_,Φ,δ,F1,ds,hK,en.step st,hds,fun vs H2 F2 q Z=>hr F2 H2 d v ds vs Q t q.fh (rv.step q.ff q.hh) Z U (k.step (st.trans q))⟩⟩;obtain ⟨z,rfl⟩:=hg d ds t U;cases rv;rfl
noncomputable def f8:List Dt->Option (List Str)
 | []=>some []
 | .str b::r=>(f8 r).map (b::·)
 | _=>none
theorem hJ {F:Hp}:∀ {l:List Dt} {vs:List V} {bs:List Str},Reps K F l vs->f8 l=some bs->vs=bs.map V.str
 | [],vs,bs,r,h=>by cases h;simp only [Reps] at r;exact r
 | d::l,vs,bs,r,h=>by
  cases d<;>first | cases h;done | skip
  simp only [f8] at h;obtain ⟨cs,L,h⟩:=mS h;cases h;simp only [Reps,Rep] at r;obtain ⟨v,O,rfl,rfl,q⟩:=r;rw [hJ q L];rfl
noncomputable def iA:Dt->List Dt->Option T
 | .str a,[.lst l]=>(f8 l).bind fun ts=>if JoinOk a ts then some (.leaf (.str (Txt.join a ts))) else none
 | _,_=>none
theorem xZ:MRD K (fun x vs H Q=>∃ (a:Str) (l:Addr) (ts:List Str),x=.str a/\vs=[.ref l]/\SqL K H l (ts.map V.str)/\JoinOk a ts=true/\Q (.str (Txt.join a ts)) H) iA:=by
 intro F H d v ds vs Q t U rd Y q k;unfold iA at q;split at q<;>first | cases q;done | skip
 obtain ⟨ts,O,q⟩:=bS q;split at q
 . rename_i W;cases q;cases rd;obtain ⟨v,rfl,L⟩:=dw Y;obtain ⟨a,vs,rfl,h1,h2⟩:=L;have:=hJ h2 O;subst this;exact ⟨_,a,ts,rfl,rfl,h1,W,k.str U⟩
 . cases q
theorem qj:∀ d ds t,iA d ds=some t->∃ z,d=.str z:=fun d ds t h=>by
 unfold iA at h;split at h
 . exact ⟨_,rfl⟩
 . cases h
theorem ya (Z:DB X o fo) (Y:DAB X (e::es) fs)
  (O:qk5 o "join" X.env (eval o X.env)=eval o X.env:=by rfl)
  (U:((qh9 cpos (qa6 (e::es) X.env)).all (fun x=>!x.1)&&(zb2 cpos (qr0 [] X.env)).all (fun x=>x.1.isSome)
   && decide ((e::es).length+([]:List qp6).length+(if ([]:List qp6).isEmpty then 0 else 1)<30))=true:=by rfl)
  (L:(apos.endLine==cpos.line)=true:=by rfl) (W:qa6 (e::es) X.env=(false,eval e X.env)::qa6 es X.env:=by rfl) (q:(qh9 cpos (qa6 es X.env)).any (·.1)=false:=by rfl) :
  DO X (.Call (.Attribute o "join" apos) (e::es) [] cpos) (fQ iA fo fs):=AX PySem.F.slot_str_join PySem.F.type_str_join xL xZ qj Z Y O U L W q
noncomputable def z29 (i:Nat) (f:De->Option Dt):De->Option Out:=fun δ=>match δ[i]? with
 | some (some (.lst l))=>(f δ).bind fun d=>if l.length<qb0 then some (.nx (δ.set i (some (.lst (l++[d]))))) else none
 | _=>none
theorem En.ownL {F:Hp} (en:En Φ δ σ F H) (h:δ[i]?=some (some (.lst l))):∃ a vs,σ[i]?=some (some (.ref a))/\H a=some (.lst vs)/\Reps Φ.K F l vs:=by obtain ⟨v,q⟩:=en.has i _ h;obtain ⟨S,s⟩:=en.sep;obtain ⟨a,vs,rfl,_,h1,h2⟩:=s.own i _ v (dk h q);exact ⟨a,vs,q,h1,h2⟩
theorem fR (hx:PE X o (li i)) (he:DL X e fe)
  (U:qk5 o "append" X.env (eval o X.env)=eval o X.env:=by rfl)
  (W:((qh9 cpos (qa6 [e] X.env)).all (fun x=>!x.1)&&(zb2 cpos (qr0 [] X.env)).all (fun x=>x.1.isSome)
   && decide ([e].length+([]:List qp6).length+(if ([]:List qp6).isEmpty then 0 else 1)<30))=true:=by rfl)
  (O:(apos.endLine==cpos.line)=true:=by rfl) (hs:qa6 [e] X.env=(false,eval e X.env)::qa6 [] X.env:=by rfl) (q:(qh9 cpos (qa6 [] X.env)).any (·.1)=false:=by rfl)
  (Y:qm6 (.Call (.Attribute o "append" apos) [e] [] cpos) none pos.line X.env=pure false:=by rfl) :
  DS1 X (.Expr (.Call (.Attribute o "append" apos) [e] [] cpos) pos) (z29 i fe):=
 PS.mono (mL (nY PySem.F.plainAttrs_list PySem.F.slot_list_append PySem.F.type_list_append g5 hx (d7 he fY hs) U W O hs q) Y) fun D σ H ⟨Φ,δ,F,ot,hK,en,L,k⟩=>by
  unfold z29 at L;split at L<;>first | cases L;done | skip
  rename_i l hl;obtain ⟨d,hd,L⟩:=bS L;split at L<;>first | cases L;done | skip
  rename_i hz;cases L;obtain ⟨a,vs,hv,h1,h2⟩:=en.ownL hl;refine ⟨.ref a,hv,.inl ⟨rfl,vs,.inl (.inl h1)⟩,Φ,δ,F,d,hK,en,hd,fun v H1 F1 st rv=>?_⟩;have en1:=en.step st;have Z:=st.hh _ _ h1;refine ⟨a,vs,v,rfl,rfl,Z,by rw [h2.length];exact hz,?_⟩;refine k σ F1 _ (en1.poke hl hv (fun d z=>nomatch z) fun S sa=>⟨a,vs++[v],rfl,sa,bi,(h2.same st.ff).append (Reps.one (hK▸rv))⟩)
end
noncomputable def dM {κ:Type} [DecidableEq κ]:List κ->List Dt->κ->Option Dt
 | k'::ks,d::l,k=>if k'=k then some d else dM ks l k
 | _,_,_=>none
theorem hV {κ:Type} [DecidableEq κ] {F:Hp} {k:κ}:∀ {kvs:List (κ×V)} {l:List Dt} {d:Dt},Reps K F l (kvs.map (·.2))->dM (kvs.map (·.1)) l k=some d->∃ v,fG kvs k=some v/\Rep K F d v
 | [],l,d,r,h=>by cases l<;>cases h
 | p::kvs,[],d,r,h=>by cases h
 | p::kvs,e::l,d,r,h=>by
  simp only [qa3,Reps] at r;obtain ⟨v,W,O,U,L⟩:=r;cases O;simp only [qa3,dM] at h;by_cases q:p.1=k
  . rw [if_pos q] at h;cases h;exact ⟨p.2,gu q,U⟩
  . rw [if_neg q] at h;rw [fN q];exact hV L h
theorem lX {κ:Type} [DecidableEq κ] {F:Hp} {k:κ}:∀ {kvs:List (κ×V)} {l:List Dt},Reps K F l (kvs.map (·.2))->dM (kvs.map (·.1)) l k=none->fG kvs k=none
 | [],l,r,h=>rfl
 | p::kvs,[],r,h=>by simp only [qa3,Reps] at r;cases r
 | p::kvs,e::l,r,h=>by
  simp only [qa3,Reps] at r;obtain ⟨v,W,O,U,L⟩:=r;cases O;simp only [qa3,dM] at h;by_cases q:p.1=k
  . rw [if_pos q] at h;cases h
  . rw [if_neg q] at h;rw [fN q];exact lX L h
noncomputable def jE:Dt->Option Key
 | .int i=>some (.inl i)
 | .str x=>some (.inr x)
 | _=>none
theorem iO {F:Hp} {d:Dt} {k:Key} (r:RepB K F H d v) (h:jE d=some k):v=kV k:=by
 unfold jE at h;split at h<;>first | (cases h;done) | skip
 . cases h;exact r
 . cases h;exact r
noncomputable def aB:Dt->Dt->Option T
 | .dct ks l,k=>(jE k).bind fun k=>(dM ks l k).map .leaf
 | x,y=>gIx x y
section
variable {X:Cx} {o a b e c:Expr} {es:List Expr} {fa fb fo fe fk:De->Option Dt} {fs:De->Option (List Dt)} {pos apos cpos p:Pos} {x:Str} {sc:Scope} {i:Nat}
theorem av {k:Nat} (hr:Room k X.A) (ha:DB X a fa) (Z:DB X b fb) (hs:mO b:=by exact fun _ _=>rfl) (hn:tm b:=by exact fun _ _=>rfl):DO X (.Subscript a b pos) (d2 aB fa fb):=
 PE.mono (PE.or (zj uS ha Z hs) (rh (j6 hr) ha Z hn)) fun σ H Q ⟨Φ,δ,F,t,U,en,q,k⟩=>by
  unfold d2 at q;obtain ⟨x,Y,q⟩:=bS q;obtain ⟨y,hy,q⟩:=bS q;unfold aB at q;split at q
  . rename_i ks l _;obtain ⟨kk,hk,q⟩:=bS q;obtain ⟨d,hd,q⟩:=mS q;cases q;refine .inr ⟨Φ,δ,F,_,U,en,Y,fun v H1 F1 st rv=>⟨Φ,δ,F1,y,U,en.step st,hy,fun v2 H2 F2 L W=>?_⟩⟩;obtain ⟨ad,kvs,rfl,h1,h2,h3⟩:=rv;subst h2;obtain ⟨w,hw,O⟩:=hV h3 hd;have:=iO W hk;subst this;exact ⟨ad,w,rfl,.inl ⟨kvs,kk,L.hh.rd h1,rfl,hw.symm⟩,(k.step (st.trans L)).leaf.here L.fh (O.same L.ff)⟩
  . exact .inl (lO r_ix ⟨Φ,δ,F,t,U,en,by unfold d2;rw [Y,hy];exact q,k⟩)
noncomputable def cf (neg:Bool):Dt->Dt->Option T
 | k,.dct ks l=>(jE k).map fun k=>.leaf (.bl (if neg then !(dM ks l k).isSome else (dM ks l k).isSome))
 | x,y=>gIn neg x y
theorem ng {κ:Type} [DecidableEq κ] {F:Hp} {k:κ} {kvs:List (κ×V)} (r:Reps K F l (kvs.map (·.2))):(dM (kvs.map (·.1)) l k).isSome=(fG kvs k).isSome:=by
 cases h:dM (kvs.map (·.1)) l k with
 | none=>rw [lX r h];rfl
 | some d =>obtain ⟨v,e,_⟩:=hV r h;rw [e];rfl
theorem zA (h:tO K (d2 (cf false) fa fb) σ H Q):tOp (vm K false) (tBd K fa) (tBd K fb) σ H Q∨tDIn (tBd K fa) (tBd K fb) σ H Q:=by
 obtain ⟨Φ,δ,F,t,O,en,q,k⟩:=h;unfold d2 at q;obtain ⟨x,W,q⟩:=bS q;obtain ⟨y,Y,q⟩:=bS q;unfold cf at q;split at q
 . rename_i ks l;obtain ⟨kk,Z,q⟩:=mS q;cases q;refine .inr ⟨Φ,δ,F,x,O,en,W,fun v H1 F1 st rv=>⟨Φ,δ,F1,_,O,en.step st,Y,fun v2 H2 F2 L U=>?_⟩⟩;obtain ⟨ad,kvs,rfl,h1,h2,h3⟩:=U;subst h2;have:=iO rv Z;subst this;refine ⟨ad,_,rfl,.inl ⟨kvs,kk,h1,rfl,rfl⟩,?_⟩;rw [<- ng h3];exact (k.step (st.trans L)).bl L.fh
 . exact .inl (lO (r_in false) ⟨Φ,δ,F,t,O,en,by unfold d2;rw [W,Y];exact q,k⟩)
theorem oG (h:tO K (d2 (cf true) fa fb) σ H Q):tOp (vm K true) (tBd K fa) (tBd K fb) σ H Q∨rg (tBd K fa) (tBd K fb) σ H Q:=by
 obtain ⟨Φ,δ,F,t,O,en,q,k⟩:=h;unfold d2 at q;obtain ⟨x,W,q⟩:=bS q;obtain ⟨y,Y,q⟩:=bS q;unfold cf at q;split at q
 . rename_i ks l;obtain ⟨kk,Z,q⟩:=mS q;cases q;refine .inr ⟨Φ,δ,F,x,O,en,W,fun v H1 F1 st rv=>⟨Φ,δ,F1,_,O,en.step st,Y,fun v2 H2 F2 L U=>?_⟩⟩;obtain ⟨ad,kvs,rfl,h1,h2,h3⟩:=U;subst h2;have:=iO rv Z;subst this;refine ⟨ad,_,rfl,.inl ⟨kvs,kk,h1,rfl,rfl⟩,?_⟩;rw [<- ng h3];exact (k.step (st.trans L)).bl L.fh
 . exact .inl (lO (r_in true) ⟨Φ,δ,F,t,O,en,by unfold d2;rw [W,Y];exact q,k⟩)
theorem zB {k:Nat} (U:Room k X.A) (q:DB X a fa) (L:DB X b fb) (O:qf9 .In b=false:=by with_unfolding_all rfl):DO X (.Compare a [.In] [b] pos) (d2 (cf false) fa fb):=PE.mono (PE.or (jL vn q L O) (uB (uX (j6 U) q L) O)) fun σ H Q h=>zA h
theorem vA {k:Nat} (U:Room k X.A) (q:DB X a fa) (L:DB X b fb) (O:qf9 .NotIn b=false:=by with_unfolding_all rfl):DO X (.Compare a [.NotIn] [b] pos) (d2 (cf true) fa fb):=PE.mono (PE.or (jL lU q L O) (uB (lH (j6 U) q L) O)) fun σ H Q h=>oG h
theorem PT.or {t:TT} (h:PT X e t) (h':PT X e t'):PT X e (fun σ H Q=>t σ H Q∨t' σ H Q):=fun pins s σ H Q I q=>q.elim (h pins s σ H Q I) (h' pins s σ H Q I)
theorem zC {Q:Bool->Hp->Prop} (h:tTr K (tB2 g fa fb) σ H Q):tO K (d2 g fa fb) σ H (fun v H'=>∃ c,v=.bl c/\Q c H'):=by obtain ⟨Φ,δ,F,t,O,en,q,k⟩:=h;unfold tB2 at q;obtain ⟨z,L,q⟩:=bS q;exact ⟨Φ,δ,F,z,O,en,L,fun v H' F' S st o U=>⟨t,m6 q o,k H' F' st⟩⟩
theorem vC {k:Nat} (U:Room k X.A) (q:DB X a fa) (L:DB X b fb) (O:qf9 .In b=false:=by with_unfolding_all rfl):DT X (.Compare a [.In] [b] pos) (tB2 (cf false) fa fb):=PT.mono (PT.or (jM vn q L O) (pR (uX (j6 U) q L) O)) fun σ H Q h=>zA (zC h)
theorem dN {k:Nat} (U:Room k X.A) (q:DB X a fa) (L:DB X b fb) (O:qf9 .NotIn b=false:=by with_unfolding_all rfl):DT X (.Compare a [.NotIn] [b] pos) (tB2 (cf true) fa fb):=PT.mono (PT.or (jM lU q L O) (pR (lH (j6 U) q L) O)) fun σ H Q h=>oG (zC h)
noncomputable def km:De->Option T:=fun _=>some (.dct [])
theorem rM:DO X (.Dict [] [] pos) km:=PE.mono uZ fun σ H Q ⟨Φ,δ,F,t,L,en,q,k⟩=>by
 cases q;intro p hp;refine k _ _ F (fun b=>b=p) (Step.made en.fh hp) ⟨p,[],rfl,rfl,bi,rfl,by simp [Reps]⟩ fun b z=>?_
 subst z;exact ⟨en.fh.free hp,hp,_,bi⟩
theorem PS.or {e:Stmt} {t t':TS} (h:PS X e t) (h':PS X e t'):PS X e (fun σ H Q=>t σ H Q∨t' σ H Q):=fun pins s σ H Q I q=>q.elim (h pins s σ H Q I) (h' pins s σ H Q I)
end
section
variable {prog:qc4} {w:World} {A:qd9} {E:Value->qa4->Prop} {s:qa4} {I t:Addr} {j:Nat} {vs:Array Value}
theorem qk {y:Value} {Q:Value->qa4->Prop} (U:s.heap.IsTupleIter I t j) (hv:s.heap.IsTuple t vs) (hy:vs[j]?=some y)
  (q:∀ h',h'.IsTupleIter I t (j+1)->qn0 I s.heap h'->Q y {s with heap:=h'}):wpAny (model prog w) A (qk7 (.ref I)) Q E s:=by
 obtain ⟨oi,O,Y,L⟩:=id U;obtain ⟨ot,W,_,nt,Z⟩:=hv;unfold qk7;refine wB (qg6 (name:=qa1 "__next__") U.typeIs qj6 (qg4 qj6 U.typeIs qt5 ?_ (qs7 _)));show wpAny _ _ (field (.ref I) 0 >>= _) _ _ s;refine wB (qq8 O L (x:=.ref t) rfl ?_);show wpAny _ _ (if (qg9 t==qj8)=true then _ else _) _ _ s;rw [if_neg (show ¬ (qg9 t==qj8)=true by exact qb9)];show wpAny _ _ (field (.ref I) 1 >>= _) _ _ s;refine wB (qq8 O L (x:=.int j 0) rfl ?_);show wpAny _ _ (seqItems? (.ref t) >>= _) _ _ s;refine wB (qv3 W Z ?_);simp only [qe3,hy];refine qh6 (qk8 O L (by simp) (qa5 ⟨y,rfl,qa5 (q _ ?_ (qf3 ..))⟩));exact ⟨_,qf2 _ O (qi4 (qe7 L _)),(qr2 ..).trans Y,by rw [qe7 L];simp [qg1]⟩
theorem tE {Q:Value->qa4->Prop} (Z:A.handled=none) (U:s.heap.IsTupleIter I t j) (hv:s.heap.IsTuple t vs) (hy:vs[j]?=none)
  (q:∀ h' e,Heap.ExtBut I s.heap h'->(∃ o,h'.get? e=some o/\o.cls=.type "StopIteration")->E (.ref e) {s with heap:=h'}):wpAny (model prog w) A (qk7 (.ref I)) Q E s:=by
 obtain ⟨oi,O,hci,L⟩:=id U;obtain ⟨ot,W,_,nt,Y⟩:=hv;unfold qk7;refine wB (qg6 (name:=qa1 "__next__") U.typeIs qj6 (qg4 qj6 U.typeIs qt5 ?_ (qs7 _)));show wpAny _ _ (field (.ref I) 0 >>= _) _ _ s;refine wB (qq8 O L (x:=.ref t) rfl ?_);show wpAny _ _ (if (qg9 t==qj8)=true then _ else _) _ _ s;rw [if_neg (show ¬ (qg9 t==qj8)=true by exact qb9)];show wpAny _ _ (field (.ref I) 1 >>= _) _ _ s;refine wB (qq8 O L (x:=.int j 0) rfl ?_);show wpAny _ _ (seqItems? (.ref t) >>= _) _ _ s;refine wB (qv3 W Y ?_);simp only [qe3,hy];refine qh6 (zd8 (qh6 (qk8 O L (by simp) ?_)));show wpAny _ _ (zf1 (.type "StopIteration") [] >>= _) _ _ _;refine wB ?_;simp only [zf1,newTuple];refine wB (qd2 ?_ (by first | size_fits | decide));refine qh6 (m:=qo0 _ _) (zc2 (a:=qj8) (by first | rfl | (simp only [qo0]<;>rfl)) ?_);refine qd2 ?_ (by first | size_fits | decide);simp only [ze5];refine wB (zd2 ?_)
 first | rw [Z] | rw [show A.in1.handled=none by exact Z]
 refine wB (qa5 (wpAny_throw ?_));exact q _ _ (((qf3 ..).extBut.push _).push _) ⟨_,qb3 _ rfl,rfl⟩
end
variable {prog:qc4} {w:World}
theorem oH (U:A.handled=none) (I t:Addr) (q:t≠I) (vs:Array Value):Draws prog w A I [I,t] vs.size (fun i v=>vs[i]?=some v) (fun i h=>h.IsTupleIter I t i/\h.IsTuple t vs) where
 live:=fun _ _ st=>let ⟨o,ho,_⟩:=st.1;⟨o,ho⟩
 frame:=fun _ _ _ st L=>⟨let ⟨o,ho,r⟩:=st.1;⟨o,L I (by simp) o ho,r⟩,let ⟨o,ho,r⟩:=st.2;⟨o,L t (by simp) o ho,r⟩⟩
 item:=fun i s Q E hi st W=>qk st.1 st.2 (y:=vs[i]) (by simp [hi]) fun h' a b=>W _ h' s.toks (by simp [hi]) ⟨a,let ⟨o,ho,r⟩:=st.2;⟨o,b.extBut _ _ q ho,r⟩⟩ b
 done:=fun s Q E st O=>tE U st.1 st.2 (by simp) O
noncomputable def SqB (b:Bool) (K:PySem.W.Frag) (H:Hp) (a:Addr) (xs:List V):Prop:=match b with
 | true=>SqL K H a xs
 | false=>SqT K H a xs
noncomputable def ItB (b:Bool) (h:Heap) (I a:Addr) (i:Nat):Prop:=match b with
 | true=>h.IsListIter I a i
 | false=>h.IsTupleIter I a i
noncomputable def CoB (b:Bool) (h:Heap) (a:Addr) (vs:Array Value):Prop:=match b with
 | true=>h.IsList a vs
 | false=>h.IsTuple a vs
variable {h:Heap} {I:Addr}
theorem ItB.obj (x:ItB b h I a i):∃ o,h.get? I=some o/\(o.cls=.type "list_iterator"∨o.cls=.type "tuple_iterator")/\∀ v,o.data≠.cell v:=by
 cases b with
 | true=>obtain ⟨o,e,c,d⟩:=x;exact ⟨o,e,.inl c,fun v z=>by rw [d] at z;cases z⟩
 | false=>obtain ⟨o,e,c,d⟩:=x;exact ⟨o,e,.inr c,fun v z=>by rw [d] at z;cases z⟩
variable {h':Heap}
theorem ItB.at (x:ItB b h I a i) (k:∀ o,h.get? I=some o->h'.get? I=some o):ItB b h' I a i:=by
 cases b with
 | true=>obtain ⟨o,e,r⟩:=x;exact ⟨o,k o e,r⟩
 | false=>obtain ⟨o,e,r⟩:=x;exact ⟨o,k o e,r⟩
theorem CoB.obj {vs:Array Value} (x:CoB b h a vs):∃ o,h.get? a=some o/\(o.cls=.type "list"∨o.cls=.type "tuple"):=by
 cases b with
 | true=>obtain ⟨o,e,c,_⟩:=x;exact ⟨o,e,.inl c⟩
 | false=>obtain ⟨o,e,c,_⟩:=x;exact ⟨o,e,.inr c⟩
theorem zD {x y:String} (h:x≠y):qn7 x≠qn7 y:=fun z=>h (by cases z;rfl)
theorem vD {c:Bool} {l:Addr} {vs:Array Value} (x:ItB b h I a i) (y:CoB c h l vs):l≠I:=by obtain ⟨o,O,L,_⟩:=x.obj;obtain ⟨o',e2,q⟩:=y.obj;rintro rfl;rw [O] at e2;cases e2;rcases L with L | L<;>rcases q with q | q<;>rw [L] at q<;>exact absurd q (zD (by decide))
variable {fp:List Addr}
section
variable {X:Cx} {pins:List (Addr×Obj)} {σ:St} {H:Hp} {s:qa4} {a I:Addr} {xs:List V} {b:Bool}
theorem Inv.seqB (J:Inv X pins σ H s) (h:SqB b X.K H a xs):∃ its:List Value,Vals xs its/\CoB b s.heap a its.toArray:=by
 cases b with
 | true=>obtain ⟨its,r,p,_⟩:=J.list h;exact ⟨its,r,p.isList⟩
 | false=>obtain ⟨its,r,p,_⟩:=J.tuple h;exact ⟨its,r,p⟩
theorem Inv.seqB_inj {ys:List V} (J:Inv X pins σ H s) (h:SqB b X.K H a xs) (h':SqB b X.K H a ys):xs=ys:=by
 cases b with
 | true=>exact J.list_inj h h'
 | false=>exact J.tuple_inj h h'
theorem vE (L:A.handled=none) (q:a≠I) (vs:Array Value):Draws prog w A I [I,a] vs.size (fun i v=>vs[i]?=some v) (fun i h=>ItB b h I a i/\CoB b h a vs):=by
 cases b with
 | true=>exact Draws.list L I a q vs
 | false=>exact oH L I a q vs
theorem Inv.turnedL {t':Nat} (J:Inv X pins σ H s) (k:∀ b o,b∉fp->s.heap.get? b=some o->h'.get? b=some o) (O:∀ b∈fp,ir X pins H b):Inv X pins σ H {s with heap:=h',toks:=t'}:=by
 have U:∀ b u,H b=some u->b∉fp:=fun b u e z=>by rw [(O b z).1] at e;cases e
 refine J.step (g':=s.gens) (d':=s.drawn) (ch:=fp) (fun b W=>?_) (fun b o _ _ L e _=>k b o L e) (fun b o _ _ L e _=>⟨o.slots,k b o L e⟩) (fun _ _ _ _ n=>n)
  (fun b o L e=>⟨o,k b o L e⟩) (fun _ _ e=>e) (fun _ _ _ e=>e) (fun b ps e=>⟨#[],by rw [e];simp⟩) (fun _ _ e=>e) (fun m Y=>?_) (fun b u e=>?_) J.bare
 . exact ⟨(O b W).2.2.2.1,(O b W).2.1,(O b W).2.2.2.2.1,(O b W).2.2.2.2.2⟩
 . obtain ⟨o,es,ep,Z,r⟩:=Y;exact ⟨o,es,ep,k _ o (fun z=>(O _ z).2.1 rfl) Z,r⟩
 . refine (J.hok b u e).stay (fun c v L q=>k c v ?_ q) (fun _ q=>q) (fun _ _ q=>q) fun _ _ _ q=>q
   rcases L with z | z
   . rw [z];exact U b u e
   . exact U c _ z
end
variable {u:HO}
section
variable {X:Cx} {pins:List (Addr×Obj)} {σ:St} {H:Hp} {s:qa4}
theorem Inv.turnedT {t':Nat} {t:Addr} (J:Inv X pins σ H s) (k:∀ b o,b∉fp->s.heap.get? b=some o->h'.get? b=some o) (W:∀ b∈fp,ir X pins H b) (ht:s.heap.objs.size<=t) (new:ObjOk X.prog X.w (upd H t u) h' t u) :
  Inv X pins σ (upd H t u) {s with heap:=h',toks:=t'}:=by
 have Y:∀ b u,H b=some u->b∉fp:=fun b u e z=>by rw [(W b z).1] at e;cases e
 have hn:H t=none:=J.hok.fresh ht;have L:∀ b v,H b=some v->b≠t:=fun b v e=>cg e hn
 have Z:∀ b o,s.heap.get? b=some o->b≠t:=fun b o e z=>by subst z;exact absurd (qa7 e) (qm1.mpr ht)
 refine J.step (g':=s.gens) (d':=s.drawn) (ch:=fp) (fun b U=>?_) (fun b o _ _ O e _=>k b o O e) (fun b o _ _ O e _=>⟨o.slots,k b o O e⟩) (fun b o _ e n=>by rw [aS (Z b o e)];exact n)
  (fun b o O e=>⟨o,k b o O e⟩) (fun b xs e=>by rw [aS (L b _ e)];exact e) (fun b o v e=>by rw [aS (L b _ e)];exact e) (fun b ps e=>⟨#[],by rw [aS (L b _ e),e];simp⟩) (fun b xs e=>by rw [aS (L b _ e)];exact e) (fun m hm=>?_) (fun b v e=>?_) J.bare
 . exact ⟨(W b U).2.2.2.1,(W b U).2.1,(W b U).2.2.2.2.1,(W b U).2.2.2.2.2⟩
 . obtain ⟨o,es,ep,ho,r⟩:=hm;exact ⟨o,es,ep,k _ o (fun z=>(W _ z).2.1 rfl) ho,r⟩
 . by_cases U:b=t
   . subst U;rw [bi] at e;cases e;exact new
   . rw [aS U] at e;refine (J.hok b v e).stay (fun c ob O q=>k c ob ?_ q) (fun c q=>by rw [aS (L c _ q)];exact q) (fun c ys q=>by rw [aS (L c _ q)];exact q) fun c ob ys q=>by rw [aS (L c _ q)];exact q
     rcases O with z | z
     . rw [z];exact Y b v e
     . exact Y c _ z
end
noncomputable def Ite (b:Bool) (K:PySem.W.Frag) (a:Addr):It:=⟨fun i H=>∃ xs x,SqB b K H a xs/\xs[i]?=some x,fun i H x H'=>∃ t v,H t=none/\x=.ref t/\H'=upd H t (.tup [.int i,v])/\∀ xs,SqB b K H a xs->xs[i]?=some v,fun i H=>∃ xs,SqB b K H a xs/\xs.length=i⟩
variable {P:qc4} {pos:Pos}
theorem tF {elts:List Expr} (b:Bool) (a e I:Addr) (Z:e≠I) :
  Turn P w K (.Tuple elts n pos) (Ite b K a) [e,I] e (fun i h=>(∃ W,IsEnum h e I i W)/\ItB b h I a i) where
 mem:=by simp
 obj:=fun i h st c hc=>by
  obtain ⟨⟨W,U⟩,O⟩:=st;simp only [qb2,qg5,or_false] at hc;rcases hc with rfl | rfl
  . exact ⟨_,U,fun v z=>nomatch z⟩
  . obtain ⟨o,q,_,d⟩:=O.obj;exact ⟨o,q,d⟩
 keep:=fun i h h' st k=>by obtain ⟨⟨W,U⟩,O⟩:=st;exact ⟨⟨W,k e (by simp) _ U⟩,O.at fun o q=>k I (by simp) o q⟩
 item:=by
  intro X hP hw hK hc i pins s σ H E J hf st hg;subst hP hw hK;obtain ⟨⟨W,U⟩,O⟩:=st;obtain ⟨xs,x,hq,hx⟩:=hg;obtain ⟨its,rv,co⟩:=J.seqB hq;obtain ⟨u,hu,ru⟩:=rv.get hx;have hi:i<its.toArray.size:=by simpa using (gX hu).1
  have hae:e∉[I,a]:=by simp only [qb2,qg5,or_false,not_or];refine ⟨Z,fun z=>?_⟩;obtain ⟨o,q,c⟩:=co.obj;rw [<- z,U] at q;cases q;rcases c with c | c<;>exact absurd c (zD (by decide))
  refine wpAny_pyNext_enum_itemD (vE (A:=X.A.in1) (b:=b) (I:=I) (a:=a) (show X.A.in1.handled=none from J.ok.hd hc) (vD O co) its.toArray) U ⟨O,co⟩ hi Z hae fun y h1 tk hy ho hs1 hT hsz hk=>⟨_,rfl,?_⟩
  have ey:y=u:=by rw [show its.toArray[i]?=its[i]? by simp,hu] at hy;exact (qe9 hy).symm
  subst ey;refine wpAny_letOwnedTupleGo_enum ho fun h2 he2 Y=>?_
  have kk:∀ c o,c∉[e,I]->s.heap.get? c=some o->h2.get? c=some o:=fun c o L q=>by simp only [qb2,qg5,or_false,not_or] at L;exact (Y.2 c L.1).trans (hk c o L.1 L.2 q)
  have lt:∀ c∈[e,I],c<s.heap.objs.size:=fun c L=>by
   simp only [qb2,qg5,or_false] at L;rcases L with rfl | rfl
   . exact qa7 U
   . obtain ⟨o,q,_⟩:=O.obj;exact qa7 q
  -- first the records,then the pair
  have hT2:h2.get? s.heap.objs.size=some {cls:=.type "tuple",data:=.seq #[.int i tk,y]}:=(Y.2 _ (fun z=>qk2 _ (z▸lt e (by simp)))).trans hT
  have J2:Inv X pins σ (upd H s.heap.objs.size (.tup [.int i,x])) {s with heap:=h2,toks:=tk+1}:=by refine J.turnedT kk hf (nL _) ⟨by show 2<=qb0;decide,[.int i tk,y],.cons ⟨_,rfl⟩ (.cons ru .nil),?_⟩;exact ⟨_,hT2,rfl,_,rfl⟩
  refine ⟨.ref s.heap.objs.size,_,J2,rfl,⟨_,x,J.hok.fresh (qx3 _),rfl,rfl,fun ys hy=>by rw [J.seqB_inj hy hq];exact hx⟩,⟨⟨_,by simpa using he2⟩,hs1.1.at fun o q=>(Y.2 I (ql2 Z)).trans q⟩,fun c L=>?_⟩;rw [aS (qc2 (lt c L))];exact (hf c L).1
 done:=by
  intro X hP hw hK hc i pins s σ H E J hf st hg;subst hP hw hK;obtain ⟨⟨W,U⟩,O⟩:=st;obtain ⟨xs,hq,hx⟩:=hg;obtain ⟨its,rv,co⟩:=J.seqB hq;have hi:i=its.toArray.size:=by rw [<- hx];simpa using rv.length
  refine wpAny_pyNext_enum_endD (vE (A:=X.A.in1) (b:=b) (I:=I) (a:=a) (show X.A.in1.handled=none from J.ok.hd hc) (vD O co) its.toArray) U (show ItB b s.heap I a its.toArray.size/\CoB b s.heap a its.toArray from ⟨hi▸O,co⟩) fun h' eb=>⟨rfl,?_⟩
  exact J.turnedL (t':=s.toks) (fun c o L q=>eb c o (fun z=>L (by simp [z])) q) hf
 self:=fun A i s Q E st h=>by obtain ⟨⟨W,U⟩,O⟩:=st;exact wpAny_pyIter_enum U h
theorem oI (t:Addr) (vs:Array Value) (n:Nat) (U:Option Addr) (sl:Array (Option Value)) :
  Meets (qj1.«enumerate.__new__» ⟨[.type "enumerate",.ref t],[]⟩) (fun _ R s=>s.heap.get? t=some {cls:=.type "tuple",dict:=U,data:=.seq vs n,slots:=sl}∧
   R (.ok (.ret (.ref (s.heap.push {cls:=.type "tuple_iterator",data:=.fields #[.ref t,.int 0 0]}).objs.size)))
    {s with heap:=(s.heap.push {cls:=.type "tuple_iterator",data:=.fields #[.ref t,.int 0 0]}).push {cls:=.type "enumerate",data:=.fields #[.none,.bool false,.ref s.heap.objs.size,qg1 0,.none,.none]}}):=
 .of_wp fun prog w A R s h=>by
  obtain ⟨hp,g,d,tk,W⟩:=s;obtain ⟨q,h⟩:=h;have O:=sub_enumerate;have L:Heap.IsTuple (qa4.heap ⟨hp,g,d,tk,W⟩) t vs:=⟨_,q,rfl,n,rfl⟩;wp_walk using qp2 q;refine wpAny_stack_any fun st=>qa5 ?_
  split
  . rename_i c _ _ _ _ _;cases (c==qn7 "enumerate")<;>(wp_walk using qp2 q,qu2 L)<;>exact ⟨_,rfl,h⟩
  . (wp_walk using qp2 q,qu2 L)<;>exact ⟨_,rfl,h⟩
section
variable {prog:qc4} {w:World} {A:qd9} {E:Value->qa4->Prop} {s:qa4}
theorem ql {t:Addr} {vs:Array Value} {Q:Value->qa4->Prop} (hT:s.heap.IsTuple t vs)
  (h:∀ h',IsEnum h' (s.heap.objs.size+1) s.heap.objs.size 0 .none->h'.IsTupleIter s.heap.objs.size t 0->h'.objs.size=s.heap.objs.size+2→
   (∀ c u,s.heap.get? c=some u->h'.get? c=some u)->Q (.ref (s.heap.objs.size+1)) {s with heap:=h'}) :
  wpAny (model prog w) A (call (.type "enumerate") [.ref t]) Q E s:=by
 obtain ⟨⟨c,dct,Y,sl⟩,Z,U,n,L⟩:=hT;have U:c=.type "tuple":=U;have L:Y=.seq vs n:=L;subst U L;refine callType_new F.called_enumerate (by decide) (F.typeCall_enumerate_1 _) (F.newCall_enumerate_1 _) (fun obj=>F.args_object_init_2 obj _) F.entry_enumerate_new (oI t vs n dct sl) ⟨Z,?_⟩;have W:(s.heap.push {cls:=.type "tuple_iterator",data:=.fields #[.ref t,.int 0 0]}).objs.size=s.heap.objs.size+1:=qh1 ..;have O:((s.heap.push {cls:=.type "tuple_iterator",data:=.fields #[.ref t,.int 0 0]}).push {cls:=.type "enumerate",data:=.fields #[.none,.bool false,.ref s.heap.objs.size,qg1 0,.none,.none]}).objs.size=s.heap.objs.size+2:=by rw [qh1,W]
 rw [W];have q:=qb3 (s.heap.push {cls:=.type "tuple_iterator",data:=.fields #[.ref t,.int 0 0]}) (o:={cls:=.type "enumerate",data:=.fields #[.none,.bool false,.ref s.heap.objs.size,qg1 0,.none,.none]}) rfl;rw [W] at q;exact ⟨⟨_,q,rfl⟩,h _ q ⟨_,gP _ (qb3 _ rfl),rfl,rfl⟩ O fun c u z=>gP _ (gP _ z)⟩
theorem qm {t:Addr} {vs:Array Value} {Q:Value->qa4->Prop} (q:CoB b s.heap t vs)
 (h:∀ h',IsEnum h' (s.heap.objs.size+1) s.heap.objs.size 0 .none->ItB b h' s.heap.objs.size t 0->h'.objs.size=s.heap.objs.size+2→
 (∀ c u,s.heap.get? c=some u->h'.get? c=some u)->Q (.ref (s.heap.objs.size+1)) {s with heap:=h'}) :
  wpAny (model prog w) A (call (.type "enumerate") [.ref t]) Q E s:=by
 cases b with
 | true=>exact call_enumerate_list q h
 | false=>exact ql q h
end
variable {ta:TA}
section
variable {X:Cx} {x:Expr} {p pos tpos:Pos} {sc:Scope} {fs:De->Option (List Dt)} {elts:List Expr} {n:Nat}
noncomputable def CG (K:PySem.W.Frag) (ta:TA):TI:=fun σ H R=>ta σ H fun vs H1=>∃ b a xs,vs=[.ref a]/\SqB b K H1 a xs/\R (Ite b K a) H1
theorem yb (h:aH sc "enumerate"=true) (hm:X.mg "enumerate"=none) (ha:PA X [x] ta) (e1:cP X sc:=by rfl) (hs:qa6 [x] X.env=[(false,eval x X.env)]:=by rfl) :
  PI X (.Tuple elts n tpos) (.Call (.Name "enumerate" p) [x] [] pos) (CG X.K ta):=by
 intro pins s σ H R I h';refine Call_ (i9 I (glD h e1) hm mV (qj0 (thn (ha pos pins s σ H _ I h') fun us s1 ⟨vs,H1,O,r1,q1⟩=>?_) hs rfl));obtain ⟨b,a,xs,rfl,hq,q⟩:=q1;obtain ⟨u,rfl,ru⟩:=fM r1;cases ru;obtain ⟨its,rv,Z⟩:=O.seqB hq;refine qm Z fun h2 W hi hz hk=>wpAny_pyIter_enum W ?_
 have Y:Inv X pins σ H1 {s1 with heap:=h2}:=O.kept (t':=s1.toks) hk;refine ⟨s1.heap.objs.size+1,[s1.heap.objs.size+1,s1.heap.objs.size],_,_,H1,rfl,Y,tF b a _ _ (qk3 (qk1 _)),⟨⟨_,W⟩,hi⟩,fun c U=>?_,q⟩
 have L:s1.heap.objs.size<=c:=by
  simp only [qb2,qg5,or_false] at U;rcases U with rfl | rfl
  . exact qk9 _
  . exact nL _
 exact O.fpOk L (O.hok.fresh L)
noncomputable def e8 (i:Nat):List Dt->List Dt
 | []=>[]
 | d::r=>.tup [.int i,d]::e8 (i+1) r
theorem lY:∀ (l:List Dt) (i:Nat),(e8 i l).length=l.length
 | [],_=>rfl
 | _::r,i=>by simp [e8,lY r]
theorem lZ:∀ (l:List Dt) (i k:Nat),(e8 i l)[k]?=l[k]?.map fun d=>.tup [.int ((i+k:Nat):Int),d]
 | [],i,k=>by simp [e8]
 | d::r,i,0=>by simp [e8]
 | d::r,i,k+1=>by simp [e8,lZ r,Nat.add_assoc,Nat.add_comm 1]
noncomputable def l3:List Dt->Option (List Dt)
 | [.lst l]=>some (e8 0 l)
 | [.tup l]=>some (e8 0 l)
 | _=>none
theorem vF {F:Hp} {d e:Dt} {w:V} {t:Addr} (h:F t=some (.tup [v,w])) (r:Rep K F d v) (r':Rep K F e w):Rep K F (.tup [d,e]) (.ref t):=by simp only [Rep,Reps];exact ⟨t,_,rfl,SqT.of h,v,[w],rfl,r,w,[],rfl,r',rfl⟩
theorem l4 {F:Hp} {xs:List V} (r:Reps K F l xs):rK K F (Ite b K a) (e8 0 l) (fun H=>SqB b K H a xs):=fun i H W q O ff=>by have hl:=r.length;rw [lY];refine ⟨fun h=>⟨xs,xs[i],q,by simp [show i<xs.length by lia]⟩,fun h=>⟨xs,q,by lia⟩,fun x H' hi hy=>?_⟩;obtain ⟨t,v,L,rfl,rfl,Y⟩:=hy;have U:=Y xs q;obtain ⟨d,Z,rd⟩:=r.same_get U;refine ⟨_,upd W t (.tup [.int i,v]),?_,Step.new O L,vF bi iJ ((rd.same ff).same (Same.upd (O.free L)))⟩;rw [lZ,Z];simp
theorem iP (h:aH sc "enumerate"=true) (U:X.mg "enumerate"=none) (W:DA X [x] fs) (e1:cP X sc:=by rfl) (O:qa6 [x] X.env=[(false,eval x X.env)]:=by rfl) :
  DIF X (.Tuple elts n tpos) (.Call (.Name "enumerate" p) [x] [] pos) (cZ l3 fs):=PI.mono (yb h U W.pa e1 O) fun σ H R ⟨Φ,δ,F,ds,Y,en,q,k⟩=>by
 unfold cZ at q;obtain ⟨as,L,q⟩:=bS q;refine ⟨Φ,δ,F,as,Y,en,L,fun vs H' F' st r=>?_⟩;unfold l3 at q;split at q<;>first | (cases q;done) | skip
 . cases q;simp only [Reps,Rep] at r;obtain ⟨v,Z,rfl,⟨a,xs,rfl,h1,h2⟩,rfl⟩:=r;exact ⟨true,a,xs,rfl,st.fh.seq h1,k _ _ H' F' st (l4 (b:=true) h2) fun H2 s=>s.seq h1⟩
 . cases q;simp only [Reps,Rep] at r;obtain ⟨v,Z,rfl,⟨a,xs,rfl,h1,h2⟩,rfl⟩:=r;exact ⟨false,a,xs,rfl,st.fh.tup h1,k _ _ H' F' st (l4 (b:=false) h2) fun H2 s=>s.tup h1⟩
end
section
variable {prog:qc4} {w:World} {A:qd9} {E:Value->qa4->Prop} {s:qa4} {z ti tO i1 i2:Addr} {fp1 fp2:List Addr} {n1 n2 k:Nat} {P1 P2:Nat->Value->Prop} {S1 S2:Nat->Heap->Prop} {va vb:Value}
end
section
variable {prog:qc4} {w:World} {A:qd9} {E:Value->qa4->Prop} {s:qa4}
end
section
variable {X:Cx} {pins:List (Addr×Obj)} {σ:St} {H:Hp} {s:qa4} {a:Addr} {xs ys:List V} {b c:Bool}
end
section
variable {X:Cx} {x y:Expr} {p pos tpos:Pos} {sc:Scope} {fs:De->Option (List Dt)} {elts:List Expr} {n:Nat}
end
section
variable {X:Cx} {o a b e c:Expr} {es:List Expr} {fa fb fo fe:De->Option Dt} {fs:De->Option (List Dt)} {pos apos cpos p:Pos} {i:Nat}
end
theorem RepBs.reps {F:Hp} (q:Same F H):∀ {l:List Dt} {vs:List V},RepBs K F H l vs->Reps K H l vs
 | [],vs,h=>by simp only [Reps];exact h
 | d::l,vs,h=>by obtain ⟨v,L,e,h1,h2⟩:=h;simp only [Reps];exact ⟨v,L,e,h1.rep q,h2.reps q⟩
theorem oJ {F:Hp} {d:Dt} (r:Rep K F d v) (h:cC d=true):Rep K F' d v:=by cases d<;>first | (cases h;done) | (simp only [Rep] at r ⊢;exact r)
section
variable {X:Cx} {e:Expr} {es:List Expr} {fs:De->Option (List Dt)} {pos p:Pos} {x:Str} {sc:Scope}
end
noncomputable def yc (P:qc4) (w:World) (K:PySem.W.Frag) (mg:Str->Option Value) (x:Str) (ks:List Key) (l:List Dt):Prop:=∃ (a:Addr) (kvs:List (Key×V)) (vs:List (Key×Value)),mg x=some (.ref a)/\(a==qi5)=false/\kvs.map (·.1)=ks/\(∀ F,Reps K F l (kvs.map (·.2)))/\KV kvs vs/\∀ h:Heap,K.In h->h.DictOf (bZ P w) a vs
noncomputable def gSg (ks:List Key) (l:List Dt):Dt->Option T:=fun k=>(jE k).bind fun k=>(dM ks l k).map .leaf
noncomputable def vSg (ks:List Key) (l:List Dt) (f:De->Option Dt):De->Option T:=fun δ=>(f δ).bind (gSg ks l)
noncomputable def gSi (neg:Bool) (ks:List Key) (l:List Dt):Dt->Option Bool:=fun k=>(jE k).map fun k=>if neg then !(dM ks l k).isSome else (dM ks l k).isSome
noncomputable def fSi (neg:Bool) (ks:List Key) (l:List Dt) (f:De->Option Dt):De->Option Bool:=fun δ=>(f δ).bind (gSi neg ks l)
variable {kvs:List (Key×V)}
section
variable {X:Cx} {b:Expr} {fb:De->Option Dt} {pos p:Pos} {x:Str} {sc:Scope} {ks:List Key} {l:List Dt}
noncomputable def tSg (kvs:List (Key×V)) (ty:TE):TE:=fun σ H Q=>ty σ H fun y H1=>∃ k v,y=kV k/\fG kvs k=some v/\Q v H1
noncomputable def tSi (neg:Bool) (kvs:List (Key×V)) (ty:TE):TE:=fun σ H Q=>ty σ H fun y H1=>∃ k,y=kV k/\Q (.bl (if neg then !(fG kvs k).isSome else (fG kvs k).isSome)) H1
theorem CI {vs:List (Key×Value)} {ty:TE} (h:aH sc x=true) (hg:X.mg x=some (.ref a)) (L:KV kvs vs) (Z:∀ h:Heap,X.K.In h->h.DictOf (bZ X.prog X.w) a vs) (hb:PE X b ty) (hn:tm b) (e1:cP X sc:=by rfl) :
  PE X (.Subscript (.Name x p) b pos) (tSg kvs ty):=by
 intro pins s σ H Q I q;have hx:PE X (.Name x p) (tC (.ref a)):=kc h ⟨_,hg,rfl⟩ e1;refine rf PySem.F.slot_dict_getitem.lookup hn (thn (hx pins s σ H (fun y H1=>y=.ref a/\tSg kvs ty σ H1 Q) I ⟨rfl,q⟩) fun u s1 ⟨y0,H1,I1,Y,e0,q1⟩=>thn (hb pins s1 σ H1 _ I1 q1) fun iv s2 ⟨y,H2,U,ry,k,v,ey,hv,q2⟩=>?_);subst e0 ey;obtain rfl:u=qg9 a:=Y;have W:=Z _ U.kIn;obtain ⟨w',hw,O⟩:=RelO.some_of (v:=v) (o:=zc1 vs k) (by rw [<- hv];exact L.val k);exact ⟨W.typeIs,wpAny_getItem_of (jZ ry) W.mapOf hw ⟨v,H2,U.tok _,O,q2⟩⟩
theorem AY {vs:List (Key×Value)} {ty:TE} (h:aH sc x=true) (hg:X.mg x=some (.ref a)) (hs:(a==qi5)=false) (L:KV kvs vs) (W:∀ h:Heap,X.K.In h->h.DictOf (bZ X.prog X.w) a vs) (hb:PE X b ty) (e1:cP X sc:=by rfl) :
  PC X .NotIn b (.Name x p) (tSi true kvs ty):=by
 intro pins s σ H Q I q;have Y:PE X (.Name x p) (tC (.ref a)):=kc h ⟨_,hg,rfl⟩ e1;refine thn (hb pins s σ H _ I q) fun iv s1 ⟨y,H1,Z,ry,k,ey,q1⟩=>thn (Y pins s1 σ H1 (fun y H2=>y=.ref a/\Q (.bl (!(fG kvs k).isSome)) H2) Z ⟨rfl,q1⟩) fun u s2 ⟨y0,H2,O,U,e0,q2⟩=>?_
 subst e0 ey;obtain rfl:u=qg9 a:=U;have dd:=W _ O.kIn;refine wpAny_notIn_of (jZ ry) hs dd.mapOf ?_;rw [<- (L.val k).isSome_eq];exact ⟨.bl (!(fG kvs k).isSome),H2,O.tok _,rfl,q2⟩
theorem CJ (h:aH sc x=true) (hm:yc X.prog X.w X.K X.mg x ks l) (hb:DB X b fb) (e1:cP X sc:=by rfl) (hn:tm b:=by exact fun _ _=>rfl):DO X (.Subscript (.Name x p) b pos) (vSg ks l fb):=by
 obtain ⟨a,kvs,vs,hg,hs,rfl,hR,L,U⟩:=hm;refine PE.mono (CI h hg L U hb hn e1) fun σ H Q ⟨Φ,δ,F,t,hK,en,q,k⟩=>?_
 unfold vSg at q;obtain ⟨y,hy,q⟩:=bS q;obtain ⟨kk,Y,q⟩:=bS q;obtain ⟨d,W,q⟩:=mS q;cases q;refine ⟨Φ,δ,F,y,hK,en,hy,fun v H1 F1 st Z=>?_⟩;obtain ⟨w,hw,O⟩:=hV (hR F1) W;exact ⟨kk,w,iO Z Y,hw,(k.step st).leaf.here st.fh O⟩
theorem CK {neg:Bool} (U:∀ F,Reps K F l (kvs.map (·.2))) {Q:Bool->Hp->Prop} (h:tTr K (fSi neg (kvs.map (·.1)) l fb) σ H Q):tSi neg kvs (tBd K fb) σ H (fun v H'=>∃ c,v=.bl c/\Q c H'):=by obtain ⟨Φ,δ,F,t,W,en,q,k⟩:=h;unfold fSi at q;obtain ⟨y,Y,q⟩:=bS q;obtain ⟨kk,L,q⟩:=mS q;subst q;refine ⟨Φ,δ,F,y,W,en,Y,fun v H1 F1 st O=>⟨kk,iO O L,_,rfl,?_⟩⟩;rw [<- ng (U F1)];exact k H1 F1 st
theorem AZ (h:aH sc x=true) (hm:yc X.prog X.w X.K X.mg x ks l) (Z:DB X b fb) (e1:cP X sc:=by rfl) (O:qf9 .NotIn (.Name x p)=false:=by with_unfolding_all rfl):DT X (.Compare b [.NotIn] [.Name x p] pos) (fSi true ks l fb):=by obtain ⟨a,kvs,vs,Y,W,rfl,hR,L,U⟩:=hm;exact PT.mono (pR (AY h Y W L U Z e1) O) fun σ H Q q=>CK hR q
end
noncomputable def sEnt (p:Params) (q:Str×Tok×V×Value):DictEntry:=⟨qi9 p q.1,.str q.1 q.2.1,q.2.2.2⟩
variable {ep:Nat}
theorem yd {mg:Str->Option Value} {o:Obj} (L:List (Str×Tok×V×Value)) (hm:mg x=some (.ref a)) (hl:K.lookup a=some o) (hc:o.ExactDict) (W:o.data=.dict (L.map (sEnt w.params)).toArray ep)
 (hs:(a==qi5)=false) (Y:(L.map (·.1)).Nodup) (O:∀ r∈L,RelV r.2.2.1 r.2.2.2) (U:∀ F,Reps K F l (L.map (·.2.2.1))):yc P w K mg x (L.map fun r=>.inr r.1) l:=by
 refine ⟨a,L.map fun r=>(.inr r.1,r.2.2.1),L.map fun r=>(.inr r.1,r.2.2.2),hm,hs,by rw [qc0];rfl,fun F=>by rw [qc0];exact U F,?_,fun h X=>⟨o,_,ep,X a o hl,hc,W,?_,?_,?_⟩⟩
 . clear W Y U;induction L with
   | nil=>exact .nil
   | cons r L Z=>exact .cons ⟨rfl,O r qe4⟩ (Z fun r hr=>O r (qd3 _ hr))
 . intro e he;obtain ⟨r,_,rfl⟩:=qd8.mp (List.mem_toArray.mp he);exact ⟨.inr r.1,gr P w r.1 r.2.1,rfl⟩
 . show Pairs (bZ P w) (L.map (sEnt w.params)) _;clear W Y U O;induction L with
   | nil=>exact .nil
   | cons r L Z=>exact .cons (gr P w r.1 r.2.1) rfl Z
 . rw [qc0];have:(L.map ((fun x:Key×Value=>x.1) ∘ fun r=>((qu9 r.1:Key),r.2.2.2)))=(L.map (·.1)).map qu9:=by rw [qc0];rfl
   rw [this];exact List.Pairwise.map _ (fun a b h q=>h (qu9.inj q)) Y
variable {its:Array Value}
theorem dO {o:Obj} {xs:List V} (W:K.lookup a=some o) (L:o.cls=.type "tuple") (Y:o.data=.seq its n) (q:Vals xs its.toList) (U:xs.length<=qb0) {F:Hp} (O:Reps K F ds xs):Rep K F (.tup ds) (.ref a):=by simp only [Rep];exact ⟨a,xs,rfl,.inr ⟨o,its,n,W,L,Y,by rw [<- qd5,<- q.length];exact U,q⟩,O⟩
theorem vG {mg:Str->Option Value} {o:Obj} {xs:List V} (Z:mg x=some (.ref a)) (W:K.lookup a=some o) (L:o.cls=.type "tuple") (Y:o.data=.seq its n) (O:Vals xs its.toList) (U:xs.length<=qb0) (q:∀ F,Reps K F ds xs):vz K mg x (.tup ds):=⟨.ref a,⟨_,Z,rfl⟩,fun F=>dO W L Y O U (q F)⟩
inductive RepsI (K:PySem.W.Frag) (F:Hp):List Dt->List V->Prop
 | nil:RepsI K F [] []
 | cons {d:Dt} {v:V} {l:List Dt} {vs:List V}:Rep K F d v->RepsI K F l vs->RepsI K F (d::l) (v::vs)
theorem ye {F:Hp} (h:RepsI K F l vs):Reps K F l vs:=by
 induction h with
 | nil=>simp [Reps]
 | cons h _ q=>simp only [Reps];exact ⟨_,_,rfl,h,q⟩
variable {y:Str} {py spos:Pos}
section
variable {X:Cx} {elt tg iter:Expr} {ifs:List Expr} {scope:Scope} {pos:Pos} {M:List Str} {src:List (Option Nat)} {wi:TI} {g:TG} {tt:TT} {te:TE}
theorem tH {cpos:Pos} {use:Option (Value->Sem Unit)} {QQ:Value->qa4->Prop} (S:CmpScope X.N X.env.scope scope M src) (hc:X.calm=true) (hi:PI X tg iter wi) (hg:M.Nodup->∀ C s H ex,PG (cxC X M scope C s H ex) tg g) (ht:∀ C s H ex,PTs (cxC X M scope C s H ex) ifs tt)
 (he:∀ C s H ex,PE (cxC X M scope C s H ex) elt te) (hs:∀ x,qf7 iter X.env x=pure x) (I:Inv X pins σ H s) (h:lK src wi g tt te σ H Q)
 (hfin:∀ (D C:Addr) (H':Hp) (s':qa4) (m:Str->Option Value),Inv X pins σ H' s'->ir X pins H' C->s'.heap.Ns C m->Q (.ref D) H'->zb3 (model X.prog X.w) X.A X.xe use QQ (.ref D) C (.ok .next) s') :
  wpAny (model X.prog X.w) X.A (comprehension (.ListComp elt [⟨tg,iter,ifs,0⟩] scope pos) scope X.env cpos (newList []) false (eval iter X.env) use) QQ X.xe s:=by
 have Z:∀ x∈scope.names,x.2=.free->∃ c,X.env.cells.lookup x.1=some c:=fun x hx hfr=>I.ok.has x.1 (S.free x hx hfr)
 refine qw3 (use:=use) rfl hs (j7 Z) S.kind S.names (thn (hi pins s σ H _ I h) fun v s1 h1=>thn h1 fun itv s2 h2=>?_);obtain ⟨it,fp,tn,J,H2,rfl,I2,T,st2,f2,hq⟩:=h2;refine qd2 ?_;have I3:Inv X pins σ (upd H2 s2.heap.objs.size (.lst [])) {s2 with heap:=s2.heap.push {cls:=.type "list",dict:=none,data:=.seq ([]:List Value).toArray},toks:=s2.toks}:=I2.lnew (its:=[]) (ys:=[]) (t':=s2.toks) .nil (by simp);have hD:H2 s2.heap.objs.size=none:=I2.fresh;obtain ⟨W,⟨m0,w0⟩,turn⟩:=hq _ hD;generalize hDn:s2.heap.objs.size=D at*
 generalize hs3:({s2 with heap:=s2.heap.push {cls:=.type "list",dict:=none,data:=.seq ([]:List Value).toArray},toks:=s2.toks}:qa4)=Y at*
 have f3:∀ b∈fp,ir X pins (upd H2 D (.lst [])) b:=fun b O=>⟨by obtain ⟨o,e,_⟩:=T.obj _ _ st2 b O;rw [aS (by rw [<- hDn];exact qc2 (qa7 e))];exact (f2 b O).1,(f2 b O).2⟩
 have k23:∀ b o,s2.heap.get? b=some o->Y.heap.get? b=some o:=fun b o e=>by rw [<- hs3];exact gP _ e
 have st3:tn 0 Y.heap:=T.keep _ _ _ st2 fun b _ o e=>k23 b o e
 have fl3:∀ b∈fp,b<Y.heap.objs.size:=fun b O=>by obtain ⟨o,e,_⟩:=T.obj _ _ st3 b O;exact qa7 e
 refine wpAny_newFunctionEnv S.nocell (by intro y hy;simp at hy) (fun h₁ hns₁ hsb₁=>?_) S.kind;have k34:∀ b o,Y.heap.get? b=some o->h₁.get? b=some o:=fun b o e=>hsb₁.extBut b o (qc2 (qa7 e)) (gP _ e)
 generalize hs4:({Y with heap:=h₁,toks:=Y.toks+([]:List (Str×Value)).length}:qa4)=s4
 have I4:Inv (cxC X M scope Y.heap.objs.size Y (upd H2 D (.lst [])) fp) [] (stC src σ) (upd H2 D (.lst [])) s4:=by rw [<- hs4];exact n9 S I3 f3 fl3 hns₁ k34 rfl rfl
 have st4:tn 0 s4.heap:=T.keep _ _ _ st3 fun b _ o e=>by rw [<- hs4];exact k34 b o e
 generalize L:cxC X M scope Y.heap.objs.size Y (upd H2 D (.lst [])) fp=U at*
 have hg':PG U tg g:=by rw [<- L];exact hg S.nd _ _ _ _
 have ht':PTs U ifs tt:=by rw [<- L];exact ht _ _ _ _
 have he':PE U elt te:=by rw [<- L];exact he _ _ _ _
 have eP:U.prog=X.prog:=by rw [<- L];rfl
 have eW:U.w=X.w:=by rw [<- L];rfl
 have eK:U.K=X.K:=by rw [<- L];rfl
 have eA:U.A=X.A:=by rw [<- L];rfl
 have ex':U.xe=fun _ _=>False:=by rw [<- L];rfl
 have ec:U.calm=true:=by rw [<- L];exact hc
 have eE:U.env=compEnvC scope (n6 scope.names X.env.cells) Y.heap.objs.size X.env:=by rw [<- L];rfl
 have stat:∀ {H':Hp},(∀ b∈fp,H' b=none)->∀ b∈fp,ir U [] H' b:=fun hn b O=>by
  rw [<- L];refine ⟨hn b O,qc2 (fl3 b O),fun z=>?_,.inl O,fun x c h=>(f3 b O).2.2.2.2.1 x c (gv Z h),fun p hp=>absurd hp (by simp [cxC])⟩;rcases qb2.mp (I3.stkSub b z) with q | q
  . exact (f3 b O).2.1 q
  . exact (f3 b O).2.2.1 q
 -- behind the block
 have fin:∀ (H':Hp) (s':qa4),Inv U [] (stC src σ) H' s'->Q (.ref D) H'->zb3 (model X.prog X.w) X.A X.xe use QQ (.ref D) Y.heap.objs.size (.ok .next) s':=by
  intro H' s' J' q;rw [<- L] at J';obtain ⟨m,hn,_⟩:=id J'.loc;have hC:H' Y.heap.objs.size=none:=J'.free;have un:Un (frs X.stack) fp (upd H2 D (.lst [])) H' Y.heap s'.heap:=J'.base;have IA:Inv X pins σ H' s':=I3.call' (s':=s') (show s'.os=Y.os from J'.os) un J'.hok J'.bare fun b O=>⟨(f3 b O).2.2.2.1,(f3 b O).2.1,(f3 b O).2.2.2.2.1,(f3 b O).2.2.2.2.2⟩
  exact hfin D _ H' s' m IA (I3.fpOk (nL _) hC) hn q
 have loop:∀ s4':qa4,s4'=s4->qt3 (model X.prog X.w) X.A (.compLoop (.ListComp elt [⟨tg,iter,ifs,0⟩] scope pos) 0 (.ref it) (.ref D) U.env) (zb3 (model X.prog X.w) X.A X.xe use QQ (.ref D) Y.heap.objs.size) s4':=by
  rintro _ rfl;refine iE (fun n s'=>∃ i H',Inv U [] (stC src σ) H' s'/\tn i s'.heap/\(∀ b∈fp,H' b=none)/\W i n H') ?_ m0 ⟨0,_,I4,st4,fun b O=>(f3 b O).1,w0⟩;rintro n s5 ⟨i,H5,I5,st5,fr5,w5⟩;rcases turn i n H5 w5 with ⟨stop,qn⟩ | ⟨go,N,hN,step⟩
  . have:=T.done U eP eW eK ec i [] s5 (stC src σ) H5 (fun _ _=>False) I5 (stat fr5) st5 stop;rw [eA] at this;refine thn this fun r s6 ⟨hr,I6⟩=>?_
    subst hr;exact fin H5 s6 I6 qn
  . have:=T.item U eP eW eK ec i [] s5 (stC src σ) H5 (fun _ _=>False) I5 (stat fr5) st5 go;rw [eA] at this;refine thn this fun r s6 ⟨u,hr,h6⟩=>?_
    subst hr;refine thn h6 fun _ s7 ⟨x,H7,I7,r7,y7,st7,fr7⟩=>?_
    have I7':=I7.pinned (stat fr7) (T.obj _ _ st7);have a1:=hg' _ s7 (stC src σ) H7 x u _ I7' r7 (step x H7 y7);rw [ex',eP,eW,eA] at a1;refine thn a1 fun _ s8 ⟨σ8,H8,I8,wk8,q8⟩=>?_
    have a2:=ht' _ s8 σ8 H8 _ I8 q8;rw [ex',eP,eW,eA] at a2;refine thn a2 fun ok s9 ⟨H9,I9,q9⟩=>?_
    have again:∀ {H7':Hp} {s':qa4},Inv U ([]++ja fp s7.heap) σ8 H7' s'->N H7'->∃ m,m<n/\∃ i H',Inv U [] (stC src σ) H' s'/\tn i s'.heap/\(∀ b∈fp,H' b=none)/\W i m H':=fun {H7' s'} J7 n7=>by obtain ⟨m',hm,w7⟩:=hN H7' n7;refine ⟨m',hm,i+1,H7',J7.unpinned.weak wk8.1 wk8.2,T.keep _ _ _ st7 fun b O o e=>(J7.pin (b,o) (qc3 _ (qc3 _ (dU O e)))).1,fun b O=>?_,w7⟩;obtain ⟨o,e,d⟩:=T.obj _ _ st7 b O;exact (J7.pin (b,o) (qc3 _ (qc3 _ (dU O e)))).2.1
    cases ok with
    | false=>exact again I9 q9
    | true =>
     have a3:=he' _ s9 σ8 H9 _ I9 q9;rw [ex',eP,eW,eA] at a3;refine thn a3 fun v s10 ⟨y,H10,I10,r10,ys,hl,hz,q10⟩=>?_
     have a4:=g5 (X:=U) _ s10 σ8 H10 (.ref D) [y] (.ref D) [v] (fun _ H'=>N H') I10 rfl (.cons r10 .nil) ⟨D,ys,y,rfl,rfl,hl,hz,q10⟩;rw [ex',eP,eW,eA] at a4;refine thn a4 fun _ s11 ⟨_,H11,I11,_,q11⟩=>?_
     exact again I11 q11
 have e4:∀ c:Env,c=U.env->qt3 (model X.prog X.w) X.A (.compStart (.ListComp elt [⟨tg,iter,ifs,0⟩] scope pos) 0 (.ref it) (.ref D) c) (zb3 (model X.prog X.w) X.A X.xe use QQ (.ref D) Y.heap.objs.size) s4:=by rintro _ rfl;exact qz2 (loop _ rfl) (T.self _ _ _ _ _ st4 (loop _ rfl))
 exact e4 _ (by rw [eE];rfl)
theorem rN (hN:X.N.Nodup) (hi':X.N[i]?=some y) (L:Loc X.env.scope y) (hf:X.fn y=true∨X.env.scope.names.lookup y=some .local)
 (S:CmpScope X.N X.env.scope scope M src) (hc:X.calm=true) (hi:PI X tg iter wi) (hg:M.Nodup->∀ C s H ex,PG (cxC X M scope C s H ex) tg g) (ht:∀ C s H ex,PTs (cxC X M scope C s H ex) ifs tt)
 (he:∀ C s H ex,PE (cxC X M scope C s H ex) elt te) (hs:∀ x,qf7 iter X.env x=pure x)
 (Y:qm6 (.ListComp elt [⟨tg,iter,ifs,0⟩] scope pos) (some (.Name y py)) spos.line X.env=pure true) :
  PS X (.Assign [.Name y py] (.ListComp elt [⟨tg,iter,ifs,0⟩] scope pos) spos) (xu (lK src wi g tt te) (jq i)):=by
 intro pins s σ H D I h;rw [exec_Assign_Name_used _ _ _ _ Y];refine wB (zc6 (wB ?_));show wpAny _ X.A (do let _ <- comprehension (.ListComp elt [⟨tg,iter,ifs,0⟩] scope pos) scope X.env _ (newList []) false (eval iter X.env) (some (qz9 (.Name y py) X.env))) _ _ s;refine wB (qj9 (tH (use:=some (qz9 (.Name y py) X.env)) (QQ:=fun _ s'=>∃ σ' H',Inv X pins σ' H' s'/\D.nx σ' H') S hc hi hg ht he hs I h ?_) (fun _ s' hq=>qa5 (qa5 hq)) fun _ _ e=>e);intro Dd C H' s' m IA O hn q;show wpAny _ X.A (qz9 (.Name y py) X.env (.ref Dd)) _ _ s';refine wpAny_assign_Name (ly IA hN hi' L (v:=.ref Dd) rfl (fun s2 I2 Z=>?_) hf);obtain ⟨a,sb,ha⟩:=Z
 have ne:C≠a:=by
  rcases ha with rfl | ha
  . exact O.2.1
  . exact ql2 (O.2.2.2.2.1 y a ha)
 refine ⟨m,hn.sameBut sb ne,fun h3 sb3=>⟨_,H',?_,q⟩⟩;have W:∀ b o,b≠C->s2.heap.get? b=some o->h3.get? b=some o:=fun b o U e=>sb3.extBut b o U e
 have nm:∀ {b:Addr},b∉[C]->b≠C:=fun U z=>U (by rw [z];exact qe4)
 refine I2.call' (s':={s2 with heap:=h3}) (ch:=[C]) rfl ⟨fun b o e n U L=>W b o (nm L) e,fun b o e n U L=>⟨o.slots,W b o (nm L) e⟩,fun b o e n L=>n,fun b o e L=>⟨o,W b o (nm L) e⟩,fun b xs e=>e,fun b o u e=>e,fun b ps e=>⟨#[],by rw [Array.append_empty];exact e⟩,fun b qs e=>e⟩ ?_ I2.bare fun b U=>?_
 . intro b u e;have nb:b≠C:=fun z=>by rw [z,O.1] at e;cases e
   refine (I2.hok b u e).stay (fun c v hc' q=>W c v ?_ q) (fun _ q=>q) (fun _ _ q=>q) fun _ _ _ q=>q
   rcases hc' with z | z
   . rw [z];exact nb
   . intro w;rw [w,O.1] at z;cases z
 . cases qa9.mp U;exact ⟨O.2.2.2.1,O.2.1,O.2.2.2.2.1,O.2.2.2.2.2⟩
end
section
variable {X:Cx} {elt tg iter:Expr} {ifs:List Expr} {scope:Scope} {pos:Pos} {M:List Str} {src:List (Option Nat)} {fi:De->Option (List Dt)} {ft:De->Option Bool} {fe:De->Option Dt} {i:Nat}
theorem vH {f:De->Option T} (h:tO K (toT (toD f)) σ H Q):tO K f σ H Q:=by
 obtain ⟨Φ,δ,F,t,O,en,q,k⟩:=h;unfold toT toD at q;cases L:f δ with
 | none=>rw [L] at q;cases q
 | some u =>rw [L] at q;cases q;exact ⟨Φ,δ,F,u,O,en,L,k.leaf.to⟩
theorem vI (h:fO sc N i y=true) (hl:j9 sc y=true) (W:N.Nodup) (S:CmpScope X.N X.env.scope scope M src) (hc:X.calm=true) (hi:DIB X tg iter fi) (hg:M.Nodup->∀ C s H ex,DG (cxC X M scope C s H ex) tg ts bb)
 (ht:∀ C s H ex,DTs (cxC X M scope C s H ex) ifs ft) (he:∀ C s H ex,DL (cxC X M scope C s H ex) elt fe) (O:(ts.all fun k=>decide (src[k]?=some none))=true) (Y:∀ x,qf7 iter X.env x=pure x:=by intro _;rfl)
 (e1:cP X sc:=by rfl) (e2:X.N=N:=by rfl) (hf:X.fn y=true∨X.env.scope.names.lookup y=some .local:=by exact .inl rfl) (L:qm6 (.ListComp elt [⟨tg,iter,ifs,0⟩] scope pos) (some (.Name y py)) spos.line X.env=pure true:=by rfl) :
  DS1 X (.Assign [.Name y py] (.ListComp elt [⟨tg,iter,ifs,0⟩] scope pos) spos) (bX i (toT (toD (aW src fi bb ft fe)))):=by
 have e1:X.env.scope=sc:=e1;subst e1 e2;refine PS.mono (rN (g:=gD X.K ts bb) (tt:=tTr X.K ft) (te:=tL X.K fe) W (jf h) (mX hl) hf S hc hi (fun W C s H ex=>hg W C s H ex) (fun C s H ex=>ht C s H ex) (fun C s H ex=>he C s H ex) Y L) fun D σ H ⟨Φ,δ,F,o,Z,en,q,k⟩=>?_
 unfold bX at q;obtain ⟨t,U,q⟩:=mS q;cases q;exact na S O σ H _ (vH ⟨Φ,δ,F,t,Z,en,U,fun v H' F' S st o Y=>k _ F' H' (en.put st (Z▸o) Y i)⟩)
end
section
variable {X:Cx} {e o:Expr} {f:Str} {pos pos' apos cpos:Pos} {i j:Nat} {c:Str} {NS:List Str} {fe:De->Option T} {fd:De->Option Dt}
end
section
variable {X:Cx} {e o ik:Expr} {f:Str} {pos pos' apos cpos spos:Pos} {i j:Nat} {c:Str} {NS:List Str} {fe:De->Option T} {fd fk:De->Option Dt}
end
noncomputable def iQ:T->Option T
 | .leaf d=>if cC d then some (.leaf d) else none
 | .lst l=>if l.all cC then some (.lst l) else none
 | _=>none
theorem l5 {F:Hp}:∀ {l:List Dt} {vs:List V},Reps K F l vs->l.all cC=true->Reps K F' l vs
 | [],vs,h,_=>by simp only [Reps] at h ⊢;exact h
 | d::l,vs,h,q=>by simp only [qk4,qb4] at q;simp only [Reps] at h ⊢;obtain ⟨v,L,e,h1,h2⟩:=h;exact ⟨v,L,e,oJ h1 q.1,l5 h2 q.2⟩
theorem iR {u t:T} (U:Same F1 H1) (L:iQ u=some t) (k:KO K F1 H1 t Q):KO K H1 H1 u Q:=fun v H' F' S st o O=>by
 unfold iQ at L;split at L<;>first | (cases L;done) | skip
 . split at L<;>first | (cases L;done) | skip
   rename_i d Z;cases L;exact k.leaf v H' F1 ⟨st.hh,Same.refl _,U.trans st.hh,fun b o e=>.inl e⟩ (oJ o Z)
 . split at L<;>first | (cases L;done) | skip
   rename_i l Y;cases L;obtain ⟨a,vs,e,W,h1,h2⟩:=o;refine k v H' F1 S ⟨st.hh,Same.refl _,U.trans st.hh,fun b o e=>.inl e⟩ ⟨a,vs,e,W,h1,l5 h2 Y⟩ fun b z=>⟨?_,(O b z).2.1,(O b z).2.2⟩
   cases q:F1 b with
   | none=>rfl
   | some o=>have y:=(O b z).2.1;rw [U _ _ q] at y;cases y
section
variable {X:Cx} {e o:Expr} {es:List Expr} {m c:Str} {pos apos cpos p:Pos} {i j:Nat} {NS ps:List Str} {fo:De->Option Dt} {fs:De->Option (List Dt)} {ff:List Dt->Option T} {k n:Nat}
end
section
variable {K:PySem.W.Frag} {F H:Hp} {ts:List T} {vs:List V} {S:Nat->Addr->Prop} {N:List Str}
end
section
variable {P:qc4} {w:World} {K:PySem.W.Frag} {mg:Str->Option Value} {base:Heap}
end
section
variable {X:Cx} {e:Expr} {pos:Pos} {fd:De->Option Dt}
end
section
variable {X:Cx} {e:Expr} {es:List Expr} {i:Nat} {ags:List Ag} {f:De->Option Dt}
end
section
variable {X:Cx} {e o:Expr} {es:List Expr} {x m c:Str} {pos apos cpos p:Pos} {i j:Nat} {NS ps:List Str} {sc:Scope} {k n:Nat} {f:List T->Option (T×List T)} {ags:List Ag} {fs:De->Option (List Dt)} {fe fk:De->Option Dt}
end
noncomputable def vJ:De->Option T:=fun _=>none
theorem rO:DO X e vJ:=fun pins s σ H Q I h=>by obtain ⟨Φ,δ,F,t,L,en,q,k⟩:=h;cases q
section
variable {X:Cx}
noncomputable def oK (K:PySem.W.Frag):R2:=fun x y H Q=>∃ a b ys,x=.ref a/\y=.ref b/\SqT K H a []/\SqT K H b ys/\Q (.ref b) H
theorem yf:OpR X (ql1 .Add) (oK X.K):=by
 intro pins s σ H x y v u Q I rx ry h;obtain ⟨a,b,ys,rfl,rfl,ha,hb,q⟩:=h;cases rx;cases ry;obtain ⟨its,r1,p1,_⟩:=I.tuple ha;obtain ⟨U,r2,p2,_⟩:=I.tuple hb;cases r1;obtain ⟨⟨cls,dd,data,sl⟩,ho,hc,n,hd⟩:=id p1;obtain ⟨⟨cls2,Y,Z,sl2⟩,L,W,n2,O⟩:=id p2;simp only at hc hd W O;subst hc hd W O
 exact qu6 ⟨_,ho,rfl⟩ ⟨_,L,rfl⟩ qr8 qx5 PySem.F.slot_tuple_add PySem.F.entry_tuple_add (PySem.F.args_tuple_add_2 _ _)
  (tuple_addW0 a b #[] U.toArray n n2 dd Y sl sl2 rfl) ⟨ho,L,⟨.ref b,H,I,rfl,q⟩⟩
noncomputable def vK:Dt->Dt->Option T
 | .tup [],.tup m=>some (.leaf (.tup m))
 | .tup (d::l),.tup (e::m)=>cy (.tup (d::l)) (.tup (e::m))
 | _,_=>none
theorem yg:OpR X (ql1 .Add) (fun x y H Q=>oK X.K x y H Q∨lT X.K x y H Q):=OpR.or yf bw
theorem A0:R2D K (fun x y H Q=>oK K x y H Q∨lT K x y H Q) vK:=by
 intro F H x y vx Z Q t L O U q k;unfold vK at q;split at q<;>first | (cases q;done) | skip
 . rename_i m;cases q;obtain ⟨a,vs,rfl,h1,h2⟩:=O;obtain ⟨b,W,rfl,h3,Y⟩:=U;simp only [Reps] at h2;subst h2;refine .inl ⟨a,b,W,rfl,rfl,L.tup h1,L.tup h3,k.leaf.here L ?_⟩;simp only [Rep];exact ⟨b,W,rfl,h3,Y⟩
 . exact .inr (cJ F H _ _ vx Z Q t L O U q k)
end
section
variable {X:Cx} {pos:Pos} {k v:Expr} {ks:List (Option Expr)} {vs:List Expr} {fk fv:De->Option Dt} {g:De->Option (List (Key×Dt))}
end
section
variable {X:Cx} {pins:List (Addr×Obj)} {σ:St} {H:Hp} {s:qa4} {a:Addr} {u:HO} {ob:Obj}
end
section
variable {X:Cx} {tg:Expr}
end
inductive CV where
 | dat (d:Dt) | ref (i:Nat)
 | fn (a:Addr) (F0:Hp)
inductive CO where
 | lst (l:List CV) | tup (l:List CV) | dK (l:List (Key×CV)) | ins (c:Str) (ns:List Str) (l:List CV) | wk (l:List (Key×CV)) | dT (l:List (List Key×CV)) | wt (l:List (List Key×CV))
abbrev CH:=List CO
abbrev Sl:=List (Option CV)
section
variable (K:PySem.W.Frag) (F H:Hp) (ρ:Nat->Addr) (n:Nat)
noncomputable def RelC:CV->V->Prop
 | .dat d,v=>Rep K F d v
 | .ref i,v=>i<n/\v=.ref (ρ i)
 | .fn a F0,v=>v=.ref a/\Same F0 F
noncomputable def RelCs:List CV->List V->Prop
 | [],vs=>vs=[]
 | c::l,vs=>∃ v q,vs=v::q/\RelC K F ρ n c v/\RelCs l q
noncomputable def CoOk (a:Addr):CO->Prop
 | .lst l=>∃ vs,H a=some (.lst vs)/\RelCs K F ρ n l vs
 | .tup l=>∃ vs,H a=some (.tup vs)/\RelCs K F ρ n l vs
 | .dK l=>∃ kvs,H a=some (.dK kvs)/\kvs.map (·.1)=l.map (·.1)/\RelCs K F ρ n (l.map (·.2)) (kvs.map (·.2))
 | .ins c ns l=>∃ C dx fs,u7 K c C/\H a=some (.ins C dx fs)/\fs.map (·.1)=ns/\RelCs K F ρ n l (fs.map (·.2))
 | .wk l=>∃ o kvs,H a=some (.frz o (.dK kvs))/\kvs.map (·.1)=l.map (·.1)/\RelCs K F ρ n (l.map (·.2)) (kvs.map (·.2))
 | .dT l=>∃ kvs,H a=some (.dT kvs)/\kvs.map (·.1)=l.map (·.1)/\RelCs K F ρ n (l.map (·.2)) (kvs.map (·.2))
 | .wt l=>∃ o kvs,H a=some (.frz o (.dT kvs))/\kvs.map (·.1)=l.map (·.1)/\RelCs K F ρ n (l.map (·.2)) (kvs.map (·.2))
end
variable {o:CO}
section
variable {K:PySem.W.Frag} {F H F' H' F1 H1:Hp} {ρ ρ' ρ1:Nat->Addr} {n n':Nat} {c:CV} {v:V}
theorem RelC.mono (ff:Same F F') (q:∀ i,i<n->ρ' i=ρ i) (L:n<=n') (h:RelC K F ρ n c v):RelC K F' ρ' n' c v:=by
 cases c with
 | dat d=>exact Rep.same ff h
 | ref i=>exact ⟨qb7 h.1 L,by rw [q i h.1];exact h.2⟩
 | fn a F0=>exact ⟨h.1,h.2.trans ff⟩
theorem RelCs.mono (ff:Same F F') (q:∀ i,i<n->ρ' i=ρ i) (L:n<=n'):∀ {l:List CV} {vs:List V},RelCs K F ρ n l vs->RelCs K F' ρ' n' l vs
 | [],_,h=>h
 | c::l,vs,h=>by obtain ⟨v,O,e,h1,h2⟩:=h;exact ⟨v,O,e,h1.mono ff q L,RelCs.mono ff q L h2⟩
theorem RelCs.length:∀ {l:List CV} {vs:List V},RelCs K F ρ n l vs->vs.length=l.length
 | [],_,h=>by rw [show _=[] from h];rfl
 | c::l,vs,h=>by obtain ⟨v,q,rfl,h1,h2⟩:=h;simp [RelCs.length h2]
theorem RelCs.get:∀ {l:List CV} {vs:List V} {i:Nat} {c:CV},RelCs K F ρ n l vs->l[i]?=some c->∃ v,vs[i]?=some v/\RelC K F ρ n c v
 | [],_,_,_,_,e=>by simp at e
 | c::l,vs,0,c',h,e=>by obtain ⟨v,q,rfl,h1,h2⟩:=h;simp at e;subst e;exact ⟨v,rfl,h1⟩
 | c::l,vs,i+1,c',h,e=>by obtain ⟨v,q,rfl,h1,h2⟩:=h;obtain ⟨u,q1,q2⟩:=RelCs.get (i:=i) h2 (by simpa using e);exact ⟨u,by simpa using q1,q2⟩
theorem RelCs.set (r:RelC K F ρ n c v):∀ {l:List CV} {vs:List V} (i:Nat),RelCs K F ρ n l vs->RelCs K F ρ n (l.set i c) (vs.set i v)
 | [],vs,i,h=>by rw [show vs=[] from h];rfl
 | x::l,vs,0,h=>by obtain ⟨u,q,rfl,h1,h2⟩:=h;exact ⟨v,q,rfl,r,h2⟩
 | x::l,vs,i+1,h=>by obtain ⟨u,q,rfl,h1,h2⟩:=h;exact ⟨u,q.set i v,rfl,h1,RelCs.set r i h2⟩
theorem RelCs.append:∀ {l m:List CV} {vs q:List V},RelCs K F ρ n l vs->RelCs K F ρ n m q->RelCs K F ρ n (l++m) (vs++q)
 | [],m,vs,q,h,h'=>by rw [show vs=[] from h];exact h'
 | x::l,m,vs,q,h,h'=>by obtain ⟨u,us,rfl,h1,h2⟩:=h;exact ⟨u,us++q,rfl,h1,RelCs.append h2 h'⟩
theorem RelCs.one (r:RelC K F ρ n c v):RelCs K F ρ n [c] [v]:=⟨v,[],rfl,r,rfl⟩
theorem RelCs.dats:∀ {l:List Dt} {vs:List V},Reps K F l vs->RelCs K F ρ n (l.map .dat) vs
 | [],vs,h=>by simp only [Reps] at h;exact h
 | d::l,vs,h=>by simp only [Reps] at h;obtain ⟨v,q,e,h1,h2⟩:=h;exact ⟨v,q,e,h1,RelCs.dats h2⟩
theorem CoOk.mono (ff:Same F F') (L:∀ i,i<n->ρ' i=ρ i) (O:n<=n') (q:∀ u,H a=some u->H' a=some u) (h:CoOk K F H ρ n a o):CoOk K F' H' ρ' n' a o:=by
 cases o with
 | lst l=>obtain ⟨vs,h1,h2⟩:=h;exact ⟨vs,q _ h1,h2.mono ff L O⟩
 | tup l=>obtain ⟨vs,h1,h2⟩:=h;exact ⟨vs,q _ h1,h2.mono ff L O⟩
 | dK l=>obtain ⟨vs,h1,h2,h3⟩:=h;exact ⟨vs,q _ h1,h2,h3.mono ff L O⟩
 | ins c ns l=>obtain ⟨C,dx,fs,U,h1,h2,h3⟩:=h;exact ⟨C,dx,fs,U,q _ h1,h2,h3.mono ff L O⟩
 | wk l=>obtain ⟨o,vs,h1,h2,h3⟩:=h;exact ⟨o,vs,q _ h1,h2,h3.mono ff L O⟩
 | dT l=>obtain ⟨vs,h1,h2,h3⟩:=h;exact ⟨vs,q _ h1,h2,h3.mono ff L O⟩
 | wt l=>obtain ⟨o,vs,h1,h2,h3⟩:=h;exact ⟨o,vs,q _ h1,h2,h3.mono ff L O⟩
theorem CoOk.there (h:CoOk K F H ρ n a o):∃ u,H a=some u:=by
 cases o with
 | lst l=>obtain ⟨vs,h1,h2⟩:=h;exact ⟨_,h1⟩
 | tup l=>obtain ⟨vs,h1,h2⟩:=h;exact ⟨_,h1⟩
 | dK l=>obtain ⟨vs,h1,h2⟩:=h;exact ⟨_,h1⟩
 | ins c ns l=>obtain ⟨C,dx,fs,q,h1,h2⟩:=h;exact ⟨_,h1⟩
 | wk l=>obtain ⟨o,vs,h1,h2⟩:=h;exact ⟨_,h1⟩
 | dT l=>obtain ⟨vs,h1,h2⟩:=h;exact ⟨_,h1⟩
 | wt l=>obtain ⟨o,vs,h1,h2⟩:=h;exact ⟨_,h1⟩
end
structure Gh (K:PySem.W.Frag) (F H:Hp) (ρ:Nat->Addr) (ch:CH):Prop where
 fh:Same F H
 inj:∀ i j,i<ch.length->j<ch.length->ρ i=ρ j->i=j
 out:∀ i,i<ch.length->F (ρ i)=none∨∃ xs,F (ρ i)=some (.tup xs)
 ok:∀ i o,ch[i]?=some o->CoOk K F H ρ ch.length (ρ i) o
structure Adv (K:PySem.W.Frag) (F H:Hp) (ρ:Nat->Addr) (ch:CH) (F' H':Hp) (ρ':Nat->Addr) (ch':CH):Prop where
 gh:Gh K F' H' ρ' ch'
 len:ch.length<=ch'.length
 ext:∀ i,i<ch.length->ρ' i=ρ i
 fr:∀ i,ch.length<=i->i<ch'.length->H (ρ' i)=none
 prot:∀ b o,H b=some o->(∀ i,i<ch.length->ρ i≠b)->H' b=some o
 old:Same F F'
 nw:∀ b o,F' b=some o->F b=some o∨H b=none∨∃ xs,o=.tup xs
 fz:∀ b o u,H b=some (.frz o u)->H' b=some (.frz o u)
section
variable {K:PySem.W.Frag} {F H F' H' F1 H1:Hp} {ρ ρ' ρ1:Nat->Addr} {ch ch' ch1:CH} {c:CV} {v:V}
theorem Gh.at (g:Gh K F H ρ ch) (hi:i<ch.length):∃ u,H (ρ i)=some u:=(g.ok i ch[i] (by simp [hi])).there
theorem Adv.refl (g:Gh K F H ρ ch):Adv K F H ρ ch F H ρ ch:=⟨g,nL _,fun _ _=>rfl,fun i h1 h2=>absurd h2 (qm1.mpr h1),fun _ _ h _=>h,Same.refl _,fun _ _ h=>.inl h,fun _ _ _ h=>h⟩
theorem Adv.back (g:Gh K F H ρ ch) (a:Adv K F H ρ ch F1 H1 ρ1 ch1) {b:Addr} (h:H1 b=none):H b=none:=by
 cases q:H b with
 | none=>rfl
 | some o =>
  by_cases z:∃ i,i<ch.length/\ρ i=b
  . obtain ⟨i,hi,rfl⟩:=z;obtain ⟨u,L⟩:=a.gh.at (qb7 hi a.len)
    rw [a.ext i hi,h] at L;cases L
  . rw [a.prot b o q fun i hi e=>z ⟨i,hi,e⟩] at h;cases h
theorem Adv.trans (g:Gh K F H ρ ch) (a:Adv K F H ρ ch F1 H1 ρ1 ch1) (b:Adv K F1 H1 ρ1 ch1 F' H' ρ' ch'):Adv K F H ρ ch F' H' ρ' ch' where
 gh:=b.gh
 len:=qc7 a.len b.len
 ext:=fun i hi=>(b.ext i (qb7 hi a.len)).trans (a.ext i hi)
 fr:=fun i h1 h2=>by
  by_cases hi:i<ch1.length
  . rw [b.ext i hi];exact a.fr i h1 hi
  . exact a.back g (b.fr i (qm1.mp hi) h2)
 prot:=fun x o h1 h2=>b.prot x o (a.prot x o h1 h2) fun i hi e=>by
  by_cases q:i<ch.length
  . rw [a.ext i q] at e;exact h2 i q e
  . have:=a.fr i (qm1.mp q) hi;rw [e,h1] at this;cases this
 old:=a.old.trans b.old
 nw:=fun x o h=>(b.nw x o h).elim (a.nw x o) fun z=>.inr (z.imp_left fun z=>a.back g z)
 fz:=fun x o u h=>b.fz x o u (a.fz x o u h)
theorem Gh.of (g:Gh K F H ρ ch) (st:Step F H F' H'):Gh K F' H' ρ ch:=by
 refine ⟨st.fh,g.inj,fun i hi=>?_,fun i o h=>(g.ok i o h).mono st.ff (fun _ _=>rfl) (nL _) fun u L=>st.hh _ _ L⟩;cases q:F' (ρ i) with
 | none=>exact .inl rfl
 | some o =>
  rcases st.nw _ _ q with z | z
  . rcases g.out i hi with y | ⟨xs,y⟩
    . rw [y] at z;cases z
    . rw [y] at z;cases z;exact .inr ⟨xs,rfl⟩
  . obtain ⟨u,L⟩:=g.at hi;rw [L] at z;cases z
theorem Adv.of (g:Gh K F H ρ ch) (st:Step F H F' H'):Adv K F H ρ ch F' H' ρ ch:=⟨g.of st,nL _,fun _ _=>rfl,fun i h1 h2=>absurd h2 (qm1.mpr h1),fun b o h _=>st.hh b o h,st.ff,fun b o h=>(st.nw b o h).imp_right .inl,fun b o u h=>st.hh b _ h⟩
theorem Adv.upd (g:Gh K F H ρ ch) {w:HO} (hi:i<ch.length) (W:H (ρ i)=some w) (hz:∀ x y,w≠.frz x y) (U:CoOk K F (upd H (ρ i) u) ρ ch.length (ρ i) o) (Z:∀ xs,w≠.tup xs:=by intro _ z;cases z):Adv K F H ρ ch F (upd H (ρ i) u) ρ (ch.set i o) where
 gh:=⟨fun b x e=>by
     have:b≠ρ i:=fun q=>by
      rw [q] at e;rcases g.out i hi with y | ⟨xs,y⟩
      . rw [y] at e;cases e
      . have:=g.fh _ _ y;rw [W] at this;exact Z xs (qe9 this)
     rw [aS this];exact g.fh b x e,fun j k O Y=>g.inj j k (by simpa using O) (by simpa using Y),fun j O=>g.out j (by simpa using O),fun j x L=>by
     rw [za1];rw [qw6] at L;split at L
     . rename_i q;subst q
       first
        | (split at L<;>first | (cases L;exact U) | cases L)
        | (cases L;exact U)
     . rename_i q;refine (g.ok j x L).mono (Same.refl _) (fun _ _=>rfl) (nL _) fun y hy=>?_
       have O:j<ch.length:=(gX L).1;rw [aS fun e=>q (g.inj j i O hi e).symm];exact hy⟩
 len:=by simp
 ext:=fun _ _=>rfl
 fr:=fun j h1 h2=>absurd h2 (by simpa using h1)
 prot:=fun b x h1 h2=>by rw [aS fun e=>h2 i hi e.symm];exact h1
 old:=Same.refl _
 nw:=fun b x h=>.inl h
 fz:=fun b x y h=>by rw [aS fun e=>by rw [e,W] at h;exact hz x y (qe9 h)];exact h
theorem Adv.new (g:Gh K F H ρ ch) (st:Step F H F' H') (W:H a=none) (Z:F' a=none) (Y:CoOk K F' H' (fun i=>if i=ch.length then a else ρ i) (ch.length+1) a o) :
  Adv K F H ρ ch F' H' (fun i=>if i=ch.length then a else ρ i) (ch++[o]):=by
 have g':=(Adv.of g st).gh;have lt:∀ {i:Nat},i<ch.length->(if i=ch.length then a else ρ i)=ρ i:=fun {i} hi=>if_neg (qc2 hi)
 have U:∀ {i:Nat},i<ch.length->ρ i≠a:=fun {i} hi e=>by obtain ⟨u,L⟩:=g.at hi;rw [e,W] at L;cases L
 refine ⟨⟨st.fh,fun i j hi O e=>?_,fun i hi=>?_,fun i x q=>?_⟩,by simp,fun i hi=>lt hi,fun i h1 h2=>?_,fun b x h1 _=>st.hh b x h1,st.ff,fun b o h=>(st.nw b o h).imp_right .inl,fun b o u h=>st.hh b _ h⟩
 . simp only [qb8,qc8,qg2] at hi O;by_cases h1:i=ch.length<;>by_cases h2:j=ch.length
   . rw [h1,h2]
   . rw [if_pos h1,if_neg h2] at e;exact absurd e.symm (U (by lia))
   . rw [if_neg h1,if_pos h2] at e;exact absurd e (U (by lia))
   . rw [if_neg h1,if_neg h2] at e;exact g.inj i j (by lia) (by lia) e
 . simp only [qb8,qc8,qg2] at hi
   (try dsimp only)
   by_cases h1:i=ch.length
   . rw [if_pos h1];exact .inl Z
   . rw [if_neg h1];exact g'.out i (by lia)
 . simp only [qb8,qc8,qg2];by_cases h1:i<ch.length
   . rw [qa8 h1] at q
     (try dsimp only)
     rw [lt h1];exact (g'.ok i x q).mono (Same.refl _) (fun j O=>lt O) (qk9 _) fun u L=>L
   . rw [gR (qm1.mp h1)] at q
     have h2:i=ch.length:=by have:=(gX q).1;simp at this;lia
     subst h2;simp at q;subst q
     (try dsimp only)
     rw [if_pos rfl];exact Y
 . simp only [qb8,qc8,qg2] at h2;have h3:i=ch.length:=by lia
   (try dsimp only)
   rw [if_pos h3];exact W
end
structure Ge (K:PySem.W.Frag) (δ:Sl) (ch:CH) (σ:St) (F H:Hp) (ρ:Nat->Addr):Prop where
 gh:Gh K F H ρ ch
 len:δ.length=σ.length
 has:∀ (i:Nat) (c:CV),δ[i]?=some (some c)->∃ v,σ[i]?=some (some v)/\RelC K F ρ ch.length c v
noncomputable def KG (K:PySem.W.Frag) (F H:Hp) (ρ:Nat->Addr) (ch:CH) (c:CV) (ch':CH) (Q:VK):Prop:=∀ v F' H' ρ',Adv K F H ρ ch F' H' ρ' ch'->RelC K F' ρ' ch'.length c v->Q v H'
abbrev Fg:=Sl->CH->Option (CV×CH)
noncomputable def tG (K:PySem.W.Frag) (f:Fg):TE:=fun σ H Q=>∃ δ ch F ρ c ch',Ge K δ ch σ F H ρ/\f δ ch=some (c,ch')/\KG K F H ρ ch c ch' Q
noncomputable def GE (X:Cx) (e:Expr) (f:Fg):Prop:=PE X e (tG X.K f)
noncomputable def dats:List CV->Option (List Dt)
 | []=>some []
 | .dat d::l=>(dats l).map (d::·)
 | _=>none
variable {ρ:Nat->Addr}
theorem eS {F:Hp}:∀ {l:List CV} {ds:List Dt} {vs:List V},dats l=some ds->RelCs K F ρ n l vs->Reps K F ds vs
 | [],ds,vs,h,r=>by cases h;simp only [Reps];exact r
 | .dat d::l,ds,vs,h,r=>by simp only [dats] at h;obtain ⟨es,L,rfl⟩:=mS h;obtain ⟨v,q,e,h1,h2⟩:=r;simp only [Reps];exact ⟨v,q,e,h1,eS L h2⟩
 | .ref i::l,ds,vs,h,r=>by cases h
 | .fn a F0::l,ds,vs,h,r=>by cases h
noncomputable def tvO:CO->Option T
 | .lst l=>(dats l).map .lst
 | .dK l=>(dats (l.map (·.2))).map fun ds=>.dct ((l.map (·.1)).zip ds)
 | _=>none
noncomputable def loA (ch:CH):List Nat->Sl->De
 | _,[]=>[]
 | u,none::r=>none::loA ch u r
 | u,some (.dat d)::r=>some (.leaf d)::loA ch u r
 | u,some (.ref i)::r=>(if i∈u then none else (ch[i]?).bind tvO)::loA ch (i::u) r
 | u,some (.fn _ _)::r=>none::loA ch u r
noncomputable def lo (δ:Sl) (ch:CH):De:=loA ch [] δ
section
variable {K:PySem.W.Frag} {F H F' H' F1 H1:Hp} {ρ ρ' ρ1:Nat->Addr} {δ:Sl} {σ:St} {ch ch' ch1 ch2:CH} {c:CV} {v:V} {Q:VK}
theorem Ge.adv (e:Ge K δ ch σ F H ρ) (a:Adv K F H ρ ch F' H' ρ' ch'):Ge K δ ch' σ F' H' ρ':=⟨a.gh,e.len,fun i c h=>by obtain ⟨v,h1,h2⟩:=e.has i c h;exact ⟨v,h1,h2.mono a.old a.ext a.len⟩⟩
theorem KG.adv (k:KG K F H ρ ch c ch' Q) (g:Gh K F H ρ ch) (a:Adv K F H ρ ch F1 H1 ρ1 ch1):KG K F1 H1 ρ1 ch1 c ch' Q:=fun v F' H' ρ' b r=>k v F' H' ρ' (a.trans g b) r
theorem hW (ch:CH):∀ (u:List Nat) (δ:Sl),(loA ch u δ).length=δ.length
 | _,[]=>rfl
 | u,none::r=>by simp [loA,hW ch u r]
 | u,some (.dat d)::r=>by simp [loA,hW ch u r]
 | u,some (.ref i)::r=>by simp [loA,hW ch (i::u) r]
 | u,some (.fn _ _)::r=>by simp [loA,hW ch u r]
theorem hZ:∀ {u:List Nat} {δ:Sl} {j:Nat} {t:T},(loA ch u δ)[j]?=some (some t)->(∃ d,t=.leaf d/\δ[j]?=some (some (.dat d)))∨∃ i o,δ[j]?=some (some (.ref i))/\ch[i]?=some o/\tvO o=some t/\i∉u/\∀ m,m<j->δ[m]?≠some (some (.ref i))
 | _,[],j,t,h=>by simp [loA] at h
 | u,none::r,0,t,h=>by simp [loA] at h
 | u,none::r,j+1,t,h=>by
  rcases hZ (u:=u) (δ:=r) (j:=j) (t:=t) (by simpa [loA] using h) with ⟨d,e,q⟩ | ⟨i,o,q1,q2,U,L,O⟩
  . exact .inl ⟨d,e,by simpa using q⟩
  . refine .inr ⟨i,o,by simpa using q1,q2,U,L,fun m W=>?_⟩;cases m with
    | zero=>simp
    | succ m=>simpa using O m (by lia)
 | u,some (.dat d)::r,0,t,h=>by simp [loA] at h;exact .inl ⟨d,h.symm,rfl⟩
 | u,some (.dat d)::r,j+1,t,h=>by
  rcases hZ (u:=u) (δ:=r) (j:=j) (t:=t) (by simpa [loA] using h) with ⟨d',e,q⟩ | ⟨i,o,q1,q2,U,L,O⟩
  . exact .inl ⟨d',e,by simpa using q⟩
  . refine .inr ⟨i,o,by simpa using q1,q2,U,L,fun m W=>?_⟩;cases m with
    | zero=>simp
    | succ m=>simpa using O m (by lia)
 | u,some (.fn _ _)::r,0,t,h=>by simp [loA] at h
 | u,some (.fn _ _)::r,j+1,t,h=>by
  rcases hZ (u:=u) (δ:=r) (j:=j) (t:=t) (by simpa [loA] using h) with ⟨d',e,q⟩ | ⟨i,o,q1,q2,U,L,O⟩
  . exact .inl ⟨d',e,by simpa using q⟩
  . refine .inr ⟨i,o,by simpa using q1,q2,U,L,fun m W=>?_⟩;cases m with
    | zero=>simp
    | succ m=>simpa using O m (by lia)
 | u,some (.ref i)::r,0,t,h=>by
  simp only [loA,qm5,qi0] at h;split at h
  . cases h
  . rename_i hi;obtain ⟨o,Y,h⟩:=bS h;exact .inr ⟨i,o,rfl,Y,h,hi,fun m W=>absurd W (qh5 _)⟩
 | u,some (.ref i)::r,j+1,t,h=>by
  rcases hZ (u:=i::u) (δ:=r) (j:=j) (t:=t) (by simpa [loA] using h) with ⟨d,e,q⟩ | ⟨Z,o,q1,q2,U,L,O⟩
  . exact .inl ⟨d,e,by simpa using q⟩
  . simp only [qb2,not_or] at L;refine .inr ⟨Z,o,by simpa using q1,q2,U,L.2,fun m W=>?_⟩;cases m with
    | zero =>simp only [qm5,ne_eq,qi0,CV.ref.injEq];exact fun z=>L.1 z.symm
    | succ m=>simpa using O m (by lia)
theorem rP {α β:Type}:∀ {l:List α} {m:List β},l.length=m.length->(l.zip m).map (·.1)=l/\(l.zip m).map (·.2)=m
 | [],[],_=>⟨rfl,rfl⟩
 | [],_::_,h=>by cases h
 | _::_,[],h=>by cases h
 | a::l,b::m,h=>by obtain ⟨h1,h2⟩:=rP (l:=l) (m:=m) (by simpa using h);simp [h1,h2]
theorem yh {t:T} {S:Addr->Prop} (h:tvO o=some t) (ok:CoOk K F H ρ n a o) (L:S a):Own K F H t (.ref a) S:=by
 cases o with
 | lst l =>obtain ⟨ds,q,rfl⟩:=mS h;obtain ⟨vs,h1,h2⟩:=ok;exact ⟨a,vs,rfl,L,h1,eS q h2⟩
 | dK l =>
  obtain ⟨ds,q,rfl⟩:=mS h;obtain ⟨vs,h1,h2,h3⟩:=ok;have r:=eS q h3
  have e:(l.map (·.1)).length=ds.length:=by have W:=congrArg qi6 h2;have e2:=r.length;simp only [qa2] at W e2 ⊢;lia
  obtain ⟨U,O⟩:=rP e;exact ⟨a,vs,rfl,L,h1,by rw [U];exact h2,by rw [O];exact r⟩
 | tup l=>cases h
 | ins c ns l=>cases h
 | wk l=>cases h
 | dT l=>cases h
 | wt l=>cases h
theorem Gh.outO (g:Gh K F H ρ ch) (h:ch[i]?=some o) (q:tvO o≠none):F (ρ i)=none:=by
 rcases g.out i (gX h).1 with y | ⟨xs,y⟩
 . exact y
 . have z:=g.fh _ _ y;cases o with
   | lst l=>obtain ⟨vs,h1,_⟩:=g.ok i _ h;rw [h1] at z;cases z
   | dK l=>obtain ⟨vs,h1,_⟩:=g.ok i _ h;rw [h1] at z;cases z
   | tup l=>exact absurd rfl q
   | ins c ns l=>exact absurd rfl q
   | wk l=>exact absurd rfl q
   | dT l=>exact absurd rfl q
   | wt l=>exact absurd rfl q
theorem Ge.en (e:Ge K δ ch σ F H ρ):En ⟨K,F,H,fun b=>∃ i,i<ch.length/\ρ i=b⟩ (lo δ ch) σ F H:=by
 refine ⟨e.gh.fh,fun b o h _=>h,Same.refl _,fun b o h=>.inl h,by simp [lo,hW,e.len],fun j t h=>?_,fun j b=>∃ i o,δ[j]?=some (some (.ref i))/\ch[i]?=some o/\ρ i=b/\tvO o≠none/\∀ m,m<j->δ[m]?≠some (some (.ref i)),fun j t v h=>?_,fun j b z=>?_,fun j k b z1 z2=>?_⟩
 . rcases hZ h with ⟨d,_,q⟩ | ⟨i,o,q,_⟩
   . obtain ⟨v,Y,_⟩:=e.has j _ q;exact ⟨v,Y⟩
   . obtain ⟨v,Y,_⟩:=e.has j _ q;exact ⟨v,Y⟩
 . obtain ⟨h1,h2⟩:=eX h;rcases hZ h1 with ⟨d,rfl,q⟩ | ⟨i,o,q1,q2,O,q4,q5⟩
   . obtain ⟨w,L,r⟩:=e.has j _ q;rw [h2] at L;cases L;exact r
   . obtain ⟨w,L,r⟩:=e.has j _ q1;rw [h2] at L;cases L;obtain ⟨hi,rfl⟩:=r;exact yh O (e.gh.ok i o q2) ⟨i,o,q1,q2,rfl,by rw [O];simp,q5⟩
 . obtain ⟨i,o,q1,q2,rfl,qt,O⟩:=z;have hi:i<ch.length:=(gX q2).1;exact ⟨e.gh.outO q2 qt,e.gh.at hi,.inr ⟨i,hi,rfl⟩⟩
 . obtain ⟨i,o,q1,q2,e1,qt,O⟩:=z1;obtain ⟨i',o',U,W,e2,qt',q3'⟩:=z2;have hi:i<ch.length:=(gX q2).1;have Z:i'<ch.length:=(gX W).1;have:=e.gh.inj i i' hi Z (e1.trans e2.symm);subst this;by_cases h1:j<k
   . exact absurd q1 (q3' j h1)
   . by_cases h2:k<j
     . exact absurd U (O k h2)
     . exact Nat.le_antisymm (qm1.mp h2) (qm1.mp h1)
end
variable {ch:CH} {c:CV}
section
variable {X:Cx} {e a b o:Expr} {f fa fb:Fg} {fd:De->Option Dt} {ft:De->Option T} {pos:Pos} {i:Nat}
noncomputable def eD (fd:De->Option Dt):Fg:=fun δ ch=>(fd (lo δ ch)).map fun d=>(.dat d,ch)
theorem aP (h:DL X e fd):GE X e (eD fd):=PE.mono h fun σ H Q ⟨δ,ch,F,ρ,c,ch',en,q,k⟩=>by unfold eD at q;obtain ⟨d,L,q⟩:=mS q;cases q;exact ⟨_,_,F,d,rfl,en.en,L,fun v H' F' st r=>k v F' H' ρ (Adv.of en.gh st) r⟩
noncomputable def al (ch:CH):T->Option (CV×CH)
 | .leaf d=>some (.dat d,ch)
 | .lst l=>some (.ref ch.length,ch++[.lst (l.map .dat)])
 | .dct l=>some (.ref ch.length,ch++[.dK (l.map fun p=>(p.1,.dat p.2))])
 | _=>none
theorem l6 {F:Hp} {ρ:Nat->Addr} {ch':CH} {t:T} (g:Gh K F H ρ ch) (h:al ch t=some (c,ch')) (k:KG K F H ρ ch c ch' Q):KO K F H t Q:=fun v H' F' S st o L=>by
 cases t with
 | leaf d =>cases h;exact k v F' H' ρ (Adv.of g st) o
 | lst l =>cases h;obtain ⟨x,vs,rfl,q,h1,h2⟩:=o;obtain ⟨q1,q2,_⟩:=L x q;refine k _ F' H' _ (Adv.new g st q2 q1 ⟨vs,h1,RelCs.dats h2⟩) ⟨by simp,?_⟩;dsimp only;rw [if_pos rfl]
 | dct l =>
  cases h;obtain ⟨x,vs,rfl,q,h1,h2,h3⟩:=o;obtain ⟨q1,q2,_⟩:=L x q;refine k _ F' H' _ (Adv.new g st q2 q1 ⟨vs,h1,by rw [h2];simp,?_⟩) ⟨by simp,?_⟩
  . have:=RelCs.dats (ρ:=fun i=>if i=ch.length then x else ρ i) (n:=ch.length+1) h3;rw [qc0] at this;rw [qc0];exact this
  . dsimp only;rw [if_pos rfl]
 | dcT l=>cases h
 | obj c ns l=>cases h
 | pin a t=>cases h
noncomputable def eN (ft:De->Option T):Fg:=fun δ ch=>(ft (lo δ ch)).bind (al ch)
theorem f9 (h:DO X e ft):GE X e (eN ft):=PE.mono h fun σ H Q ⟨δ,ch,F,ρ,c,ch',en,q,k⟩=>by unfold eN at q;obtain ⟨t,L,q⟩:=bS q;exact ⟨_,_,F,t,rfl,en.en,L,l6 en.gh q k⟩
noncomputable def eV (i:Nat):Fg:=fun δ ch=>match δ[i]? with
 | some (some c)=>some (c,ch)
 | _=>none
theorem c9 (h:PE X e (li i)):GE X e (eV i):=PE.mono h fun σ H Q ⟨δ,ch,F,ρ,c,ch',en,L,k⟩=>by
 unfold eV at L;split at L<;>cases L
 rename_i c q;obtain ⟨v,h1,h2⟩:=en.has i _ q;exact ⟨v,h1,k v F H ρ (Adv.refl en.gh) h2⟩
end
noncomputable def vwO:CO->Option Dt
 | .lst l=>(dats l).map .lst
 | .dK l=>(dats (l.map (·.2))).map (.dct (l.map (·.1)))
 | .wk l=>(dats (l.map (·.2))).map (.dct (l.map (·.1)))
 | _=>none
noncomputable def vw (ch:CH):CV->Option Dt
 | .dat d=>some d
 | .ref i=>(ch[i]?).bind vwO
 | .fn _ _=>none
section
variable {K:PySem.W.Frag} {F H F' H' F1 H1:Hp} {ρ ρ' ρ1:Nat->Addr} {n:Nat} {δ:Sl} {σ:St} {ch ch' ch1 ch2:CH} {c:CV} {v:V} {Q:VK} {d:Dt}
theorem jP (g:Gh K F H ρ ch) (r:RelC K F ρ ch.length c v) (h:vw ch c=some d):RepB K F H d v:=by
 cases c with
 | dat e=>cases h;exact RepB.of g.fh r
 | fn a F0=>cases h
 | ref i =>
  obtain ⟨hi,rfl⟩:=r;simp only [vw] at h;obtain ⟨o,L,h⟩:=bS h;have ok:=g.ok i o L;cases o with
  | lst l =>obtain ⟨ds,q,rfl⟩:=mS h;obtain ⟨vs,h1,h2⟩:=ok;exact ⟨_,vs,rfl,SqL.of h1,eS q h2⟩
  | dK l =>obtain ⟨ds,q,rfl⟩:=mS h;obtain ⟨vs,h1,h2,h3⟩:=ok;exact ⟨_,vs,rfl,.inl h1,h2,eS q h3⟩
  | wk l =>obtain ⟨ds,q,rfl⟩:=mS h;obtain ⟨o,vs,h1,h2,h3⟩:=ok;exact ⟨_,vs,rfl,.inr ⟨o,h1⟩,h2,eS q h3⟩
  | tup l=>cases h
  | ins c ns l=>cases h
  | dT l=>cases h
  | wt l=>cases h
end
section
variable {X:Cx} {e a b o:Expr} {es:List Expr} {f fa fb fc:Fg} {fd:De->Option Dt} {ft:De->Option T} {pos apos cpos p:Pos} {i:Nat} {σ:St} {H:Hp} {Q:VK} {K:PySem.W.Frag}
noncomputable def e2 (g:Dt->Dt->Option T) (fa fb:Fg):Fg:=fun δ ch=>(fa δ ch).bind fun p=>(fb δ p.2).bind fun q=>(vw q.2 p.1).bind fun x=>(vw q.2 q.1).bind fun y=>(g x y).bind (al q.2)
abbrev Ft:=Sl->CH->Option (Bool×CH)
noncomputable def tGT (K:PySem.W.Frag) (f:Ft):TT:=fun σ H Q=>∃ δ ch F ρ b ch',Ge K δ ch σ F H ρ/\f δ ch=some (b,ch')/\∀ F' H' ρ',Adv K F H ρ ch F' H' ρ' ch'->Q b H'
noncomputable def GT (X:Cx) (e:Expr) (f:Ft):Prop:=PT X e (tGT X.K f)
noncomputable def tD (ft:De->Option Bool):Ft:=fun δ ch=>(ft (lo δ ch)).map fun b=>(b,ch)
theorem fH {ft:De->Option Bool} (h:DT X e ft):GT X e (tD ft):=PT.mono h fun σ H Q ⟨δ,ch,F,ρ,b,ch',en,q,k⟩=>by unfold tD at q;obtain ⟨x,L,q⟩:=mS q;cases q;exact ⟨_,_,F,_,rfl,en.en,L,fun H' F' st=>k F' H' ρ (Adv.of en.gh st)⟩
noncomputable def jg (f:Fg):Ft:=fun δ ch=>(f δ ch).bind fun p=>match p.1 with
 | .dat (.bl b)=>some (b,p.2)
 | _=>none
theorem yi {f:Fg} {Q:Bool->Hp->Prop} (h:tGT K (jg f) σ H Q):tG K f σ H fun x H'=>∃ k,x=.bl k/\Q k H':=by
 obtain ⟨δ,ch,F,ρ,b,ch',en,q,k⟩:=h;unfold jg at q;obtain ⟨p,hp,q⟩:=bS q;obtain ⟨c,ch1⟩:=p;dsimp only at q;split at q<;>cases q
 refine ⟨δ,ch,F,ρ,_,_,en,hp,fun v F' H' ρ' a r=>⟨b,?_,k F' H' ρ' a⟩⟩;have r:Rep K F' (.bl b) v:=r;simp only [Rep] at r;exact r
noncomputable def lkC {κ:Type} [DecidableEq κ] (l:List (κ×CV)) (k:κ):Option CV:=(l.find? fun p=>decide (p.1=k)).map (·.2)
theorem nh {κ:Type} [DecidableEq κ] {F:Hp} {k:κ}:∀ {l:List (κ×CV)} {kvs:List (κ×V)},kvs.map (·.1)=l.map (·.1)->RelCs K F ρ n (l.map (·.2)) (kvs.map (·.2))→
  match lkC l k with | some c=>∃ v,fG kvs k=some v/\RelC K F ρ n c v | none=>fG kvs k=none
 | [],[],_,_=>rfl
 | [],p::kvs,h,_=>by cases h
 | p::l,[],h,_=>by cases h
 | p::l,q::kvs,h,r=>by
  simp only [qa3,qq0] at h;obtain ⟨v,Z,e,W,U⟩:=r;simp only [qa3,qq0] at e;obtain ⟨rfl,rfl⟩:=e;have Y:=nh (k:=k) h.2 U;by_cases L:p.1=k
  . have O:lkC (p::l) k=some p.2:=by simp [lkC,L]
    rw [O];exact ⟨q.2,gu (h.1.trans L),W⟩
  . have O:lkC (p::l) k=lkC l k:=by simp [lkC,L]
    rw [O,fN (by rw [h.1];exact L)];exact Y
noncomputable def ixO (o:CO) (d:Dt):Option CV:=match o with
 | .lst l=>(asI d).bind (atI l)
 | .tup l=>(asI d).bind (atI l)
 | .dK l=>(jE d).bind (lkC l)
 | .wk l=>(jE d).bind (lkC l)
 | _=>none
theorem ni {F:Hp} {d:Dt} {j:Int} (h:asI d=some j) (r:Rep K F d v):v=.int j:=by
 unfold asI at h;split at h<;>cases h
 simp only [Rep] at r;exact r
theorem kn {F:Hp} {d:Dt} {j:Key} (h:jE d=some j) (r:Rep K F d v):v=kV j:=by unfold jE at h;split at h<;>cases h<;>(simp only [Rep] at r;exact r)
theorem rQ {F:Hp} {l:List CV} {j:Int} (r:RelCs K F ρ n l vs) (h:atI l j=some c):∃ v,atI vs j=some v/\RelC K F ρ n c v:=by unfold atI at h ⊢;obtain ⟨m,q,h⟩:=bS h;obtain ⟨v,h1,h2⟩:=r.get h;exact ⟨v,by rw [r.length,q];exact h1,h2⟩
noncomputable def eIx (fa fb:Fg):Fg:=fun δ ch=>(fa δ ch).bind fun p=>(fb δ p.2).bind fun q=>match p.1,q.1 with
 | .ref i,.dat d=>((q.2[i]?).bind fun o=>ixO o d).map fun c=>(c,q.2)
 | .dat x,.dat d=>(gIx x d).bind (al q.2)
 | _,_=>none
theorem CL {k:Nat} (hr:Room k X.A) (ha:GE X a fa) (hb:GE X b fb) (hs:mO b:=by exact fun _ _=>rfl) (hn:tm b:=by exact fun _ _=>rfl):GE X (.Subscript a b pos) (eIx fa fb):=
 PE.mono (PE.or (zj uS ha hb hs) (rh (j6 hr) ha hb hn)) fun σ H Q ⟨δ,ch,F,ρ,c,ch',en,W,kk⟩=>by
  unfold eIx at W;obtain ⟨⟨c1,ch1⟩,hp,W⟩:=bS W;obtain ⟨⟨c2,ch2⟩,hq,W⟩:=bS W;dsimp only at hq W;split at W<;>first | (cases W;done) | skip
  rotate_left
  . rename_i x d hz;obtain ⟨t,ht,W⟩:=bS W;left;refine ⟨δ,ch,F,ρ,_,ch1,en,hp,fun v F1 H1 ρ1 U r1=>⟨δ,ch1,F1,ρ1,_,_,en.adv U,hq,fun w Z H2 O q Y=>?_⟩⟩;exact r_ix Z H2 x d v w Q t q.gh.fh (jP (c:=.dat x) q.gh (r1.mono q.old q.ext q.len) rfl) (jP (c:=.dat d) q.gh Y rfl) ht (l6 q.gh W (kk.adv en.gh (U.trans en.gh q)))
  rename_i i d hz;obtain ⟨c',L,W⟩:=mS W;cases W;obtain ⟨o,ho,L⟩:=bS L;cases o with
  | lst l =>obtain ⟨j,hj,L⟩:=bS L;left;refine ⟨δ,ch,F,ρ,_,ch1,en,hp,fun v F1 H1 ρ1 U r1=>⟨δ,ch1,F1,ρ1,_,_,en.adv U,hq,fun w Z H2 O q Y=>?_⟩⟩;obtain ⟨vs,h1,h2⟩:=q.gh.ok i _ ho;obtain ⟨u,hu,ru⟩:=rQ h2 L;exact .inl ⟨_,vs,j,u,(r1.mono q.old q.ext q.len).2,ni hj Y,SqL.of h1,hu,kk u Z H2 O (U.trans en.gh q) ru⟩
  | tup l =>obtain ⟨j,hj,L⟩:=bS L;left;refine ⟨δ,ch,F,ρ,_,ch1,en,hp,fun v F1 H1 ρ1 U r1=>⟨δ,ch1,F1,ρ1,_,_,en.adv U,hq,fun w Z H2 O q Y=>?_⟩⟩;obtain ⟨vs,h1,h2⟩:=q.gh.ok i _ ho;obtain ⟨u,hu,ru⟩:=rQ h2 L;exact .inr (.inl ⟨_,vs,j,u,(r1.mono q.old q.ext q.len).2,ni hj Y,SqT.of h1,hu,kk u Z H2 O (U.trans en.gh q) ru⟩)
  | dK l =>obtain ⟨j,hj,L⟩:=bS L;right;refine ⟨δ,ch,F,ρ,_,ch1,en,hp,fun v F1 H1 ρ1 U r1=>⟨δ,ch1,F1,ρ1,_,_,en.adv U,hq,fun w Z H2 O q Y=>?_⟩⟩;obtain ⟨kvs,h1,h2,h3⟩:=q.gh.ok i _ ho;have lk:=nh (k:=j) h2 h3;rw [L] at lk;obtain ⟨u,hu,ru⟩:=lk;refine ⟨_,u,(r1.mono q.old q.ext q.len).2,?_,kk u Z H2 O (U.trans en.gh q) ru⟩;rw [kn hj Y,<- hu];exact DGet.k h1
  | wk l =>obtain ⟨j,hj,L⟩:=bS L;right;refine ⟨δ,ch,F,ρ,_,ch1,en,hp,fun v F1 H1 ρ1 U r1=>⟨δ,ch1,F1,ρ1,_,_,en.adv U,hq,fun w Z H2 O q Y=>?_⟩⟩;obtain ⟨o,kvs,h1,h2,h3⟩:=q.gh.ok i _ ho;have lk:=nh (k:=j) h2 h3;rw [L] at lk;obtain ⟨u,hu,ru⟩:=lk;refine ⟨_,u,(r1.mono q.old q.ext q.len).2,?_,kk u Z H2 O (U.trans en.gh q) ru⟩;rw [kn hj Y,<- hu];exact .inl ⟨kvs,j,.inr ⟨o,h1⟩,rfl,rfl⟩
  | ins c ns l=>cases L
  | dT l=>cases L
  | wt l=>cases L
abbrev Fgs:=Sl->CH->Option (List CV×CH)
noncomputable def tGs (K:PySem.W.Frag) (f:Fgs):TA:=fun σ H Q=>∃ δ ch F ρ cs ch',Ge K δ ch σ F H ρ/\f δ ch=some (cs,ch')/\∀ vs F' H' ρ',Adv K F H ρ ch F' H' ρ' ch'->RelCs K F' ρ' ch'.length cs vs->Q vs H'
noncomputable def GA (X:Cx) (es:List Expr) (f:Fgs):Prop:=PA X es (tGs X.K f)
noncomputable def bQ:Fgs:=fun _ ch=>some ([],ch)
noncomputable def aw (f:Fg) (fs:Fgs):Fgs:=fun δ ch=>(f δ ch).bind fun p=>(fs δ p.2).map fun q=>(p.1::q.1,q.2)
theorem fI:GA X [] bQ:=PA.mono fY fun σ H Q ⟨δ,ch,F,ρ,cs,ch',en,q,k⟩=>by cases q;exact k [] F H ρ (Adv.refl en.gh) rfl
theorem bF {fs:Fgs} (h:GE X e f) (hr:GA X es fs) (hs:qa6 (e::es) X.env=(false,eval e X.env)::qa6 es X.env:=by rfl):GA X (e::es) (aw f fs):=PA.mono (d7 h hr hs) fun σ H Q ⟨δ,ch,F,ρ,cs,ch',en,L,k⟩=>by unfold aw at L;obtain ⟨p,hp,L⟩:=bS L;obtain ⟨q,hq,L⟩:=mS L;cases L;exact ⟨δ,ch,F,ρ,p.1,p.2,en,hp,fun v F1 H1 ρ1 W r1=>⟨δ,p.2,F1,ρ1,q.1,q.2,en.adv W,hq,fun Y F2 H2 U O Z=>k (v::Y) F2 H2 U (W.trans en.gh O) ⟨v,Y,rfl,r1.mono O.old O.ext O.len,Z⟩⟩⟩
noncomputable def eT (fs:Fgs):Fg:=fun δ ch=>(fs δ ch).bind fun p=>if p.1.length<=qb0 then some (.ref p.2.length,p.2++[.tup p.1]) else none
theorem A1 {F:Hp} {o:CO} {a:Addr} (g:Gh K F H ρ ch) (q:H a=none) (L:CoOk K F (upd H a u) ρ ch.length a o):Adv K F H ρ ch F (upd H a u) (fun i=>if i=ch.length then a else ρ i) (ch++[o]):=Adv.new g (Step.made g.fh q) q (g.fh.free q) (L.mono (Same.refl _) (fun i hi=>if_neg (qc2 hi)) (qk9 _) fun _ h=>h)
theorem A2 {fs:Fgs} {x1} (h:GA X es fs):GE X (.Tuple es x1 pos) (eT fs):=PE.mono (uN h) fun σ H Q ⟨δ,ch,F,ρ,c,ch',en,L,k⟩=>by
 unfold eT at L;obtain ⟨p,hp,L⟩:=bS L;split at L<;>cases L
 rename_i W;refine ⟨δ,ch,F,ρ,p.1,p.2,en,hp,fun vs F1 H1 ρ1 O U=>⟨by rw [U.length];exact W,fun q Y=>?_⟩⟩;refine k (.ref q) F1 _ _ (O.trans en.gh (A1 (o:=.tup p.1) O.gh Y ⟨vs,bi,U⟩)) ⟨by simp,?_⟩;dsimp only;rw [if_pos rfl]
abbrev Fd:=List CV->CH->Option (CV×CH)
noncomputable def spG (K:PySem.W.Frag) (n:Nat) (f:Fd):Sp:=fun vs H Q _=>∃ F ρ cs ch c ch',Gh K F H ρ ch/\cs.length=n/\RelCs K F ρ ch.length cs vs/\f cs ch=some (c,ch')/\KG K F H ρ ch c ch' Q
noncomputable def eC (g:Fd) (fs:Fgs):Fg:=fun δ ch=>(fs δ ch).bind fun p=>g p.1 p.2
theorem iS {k:Nat} {g:Fd} {fs:Fgs} (h:aH sc x=true) (F:OkF X.prog X.w X.K X.mg X.base x k ps (spG X.K n g)) (U:Room k X.A) (Z:GA X (e::es) fs) (hn:∀ δ ch p,fs δ ch=some p->p.1.length=n) (e1:cP X sc:=by rfl)
 (W:qa6 (e::es) X.env=(false,eval e X.env)::qa6 es X.env:=by rfl) (L:(qh9 cpos (qa6 es X.env)).any (·.1)=false:=by rfl):GE X (.Call (.Name x p) (e::es) [] cpos) (eC g fs):=
 PE.mono (g8 h F U Z e1 W L) fun σ H Q ⟨δ,ch,F,ρ,c,ch',en,q,k⟩=>by unfold eC at q;obtain ⟨p,hp,q⟩:=bS q;refine ⟨δ,ch,F,ρ,p.1,p.2,en,hp,fun vs F1 H1 ρ1 O Y=>?_⟩;show spG X.K n g (vs++[]) H1 Q E0;rw [qf4];exact ⟨F1,ρ1,p.1,p.2,c,ch',O.gh,hn δ ch p hp,Y,q,k.adv en.gh O⟩
end
inductive Og where
 | nx (δ:Sl) (ch:CH) | rt (c:CV) (ch:CH) | bk (δ:Sl) (ch:CH) | ct (δ:Sl) (ch:CH)
noncomputable def PostG (K:PySem.W.Frag) (F H:Hp) (ρ:Nat->Addr) (ch:CH) (D:Ends):Og->Prop
 | .nx δ' ch'=>∀ σ' F' H' ρ',Adv K F H ρ ch F' H' ρ' ch'->Ge K δ' ch' σ' F' H' ρ'->D.nx σ' H'
 | .rt c ch'=>∀ v F' H' ρ',Adv K F H ρ ch F' H' ρ' ch'->RelC K F' ρ' ch'.length c v->D.rt v H'
 | .bk δ' ch'=>∀ σ' F' H' ρ',Adv K F H ρ ch F' H' ρ' ch'->Ge K δ' ch' σ' F' H' ρ'->D.bk σ' H'
 | .ct δ' ch'=>∀ σ' F' H' ρ',Adv K F H ρ ch F' H' ρ' ch'->Ge K δ' ch' σ' F' H' ρ'->D.ct σ' H'
abbrev Fs:=Sl->CH->Option Og
noncomputable def tGS (K:PySem.W.Frag) (g:Fs):TS:=fun D σ H=>∃ δ ch F ρ o,Ge K δ ch σ F H ρ/\g δ ch=some o/\PostG K F H ρ ch D o
noncomputable def GS1 (X:Cx) (st:Stmt) (g:Fs):Prop:=PS X st (tGS X.K g)
noncomputable def GS (X:Cx) (ss:List Stmt) (g:Fs):Prop:=PSs X ss (tGS X.K g)
section
variable {K:PySem.W.Frag} {F H F' H' F1 H1:Hp} {ρ ρ' ρ1:Nat->Addr} {ch ch' ch1:CH} {D:Ends} {o:Og}
theorem PostG.adv (k:PostG K F H ρ ch D o) (g:Gh K F H ρ ch) (a:Adv K F H ρ ch F1 H1 ρ1 ch1):PostG K F1 H1 ρ1 ch1 D o:=by
 cases o with
 | nx δ' c'=>exact fun σ' F' H' ρ' b e=>k σ' F' H' ρ' (a.trans g b) e
 | rt c c'=>exact fun v F' H' ρ' b e=>k v F' H' ρ' (a.trans g b) e
 | bk δ' c'=>exact fun σ' F' H' ρ' b e=>k σ' F' H' ρ' (a.trans g b) e
 | ct δ' c'=>exact fun σ' F' H' ρ' b e=>k σ' F' H' ρ' (a.trans g b) e
end
section
variable {X:Cx} {st:Stmt} {rest a b body:List Stmt} {g g1 g2:Fs} {e c o tg iter:Expr} {es:List Expr} {pos apos cpos:Pos} {f fa fe fk:Fg} {tc:Ft} {i:Nat} {K:PySem.W.Frag}
noncomputable def cD:Fs:=fun δ ch=>some (.nx δ ch)
noncomputable def aL (g1 g2:Fs):Fs:=fun δ ch=>(g1 δ ch).bind fun o=>match o with
 | .nx δ' ch'=>g2 δ' ch'
 | o=>some o
theorem e9:GS X [] cD:=PSs.mono qT fun D σ H ⟨δ,ch,F,ρ,o,en,q,k⟩=>by cases q;exact k σ F H ρ (Adv.refl en.gh) en
theorem b9 (h:GS1 X st g):GS X [st] g:=qU h
theorem aO (h1:GS1 X st g1) (h2:GS X rest g2):GS X (st::rest) (aL g1 g2):=PSs.mono (nT h1 h2) fun D σ H ⟨δ,ch,F,ρ,o,en,q,k⟩=>by
 unfold aL at q;obtain ⟨O,h1,q⟩:=bS q;refine ⟨δ,ch,F,ρ,O,en,h1,?_⟩;cases O with
 | nx δ' ch'=>exact fun σ' F' H' ρ' a L=>⟨δ',ch',F',ρ',o,L,q,k.adv en.gh a⟩
 | rt c ch'=>cases q;exact k
 | bk δ' ch'=>cases q;exact k
 | ct δ' ch'=>cases q;exact k
noncomputable def cH (f:Fg):Fs:=fun δ ch=>(f δ ch).map fun p=>.rt p.1 p.2
theorem fJ (h:GE X e f):GS1 X (.Return (some e) pos) (cH f):=PS.mono (pS h) fun D σ H ⟨δ,ch,F,ρ,o,en,q,k⟩=>by unfold cH at q;obtain ⟨p,hp,q⟩:=mS q;cases q;exact ⟨δ,ch,F,ρ,p.1,p.2,en,hp,k⟩
noncomputable def dh (c:Ft) (g1 g2:Fs):Fs:=fun δ ch=>(c δ ch).bind fun p=>if p.1 then g1 δ p.2 else g2 δ p.2
theorem gE (O:GT X c tc) (h1:GS X a g1) (h2:GS X b g2):GS1 X (.If c a b pos) (dh tc g1 g2):=PS.mono (zf O h1 h2) fun D σ H ⟨δ,ch,F,ρ,o,en,L,k⟩=>by
 unfold dh at L;obtain ⟨p,hp,L⟩:=bS L;refine ⟨δ,ch,F,ρ,p.1,p.2,en,hp,fun F' H' ρ' a=>?_⟩;split at L
 . rename_i q;rw [if_pos q];exact ⟨δ,p.2,F',ρ',o,en.adv a,L,k.adv en.gh a⟩
 . rename_i q;rw [if_neg q];exact ⟨δ,p.2,F',ρ',o,en.adv a,L,k.adv en.gh a⟩
theorem Ge.put {δ:Sl} {F:Hp} {x:CV} (en:Ge K δ ch σ F H ρ) (r:RelC K F ρ ch.length x v) (i:Nat):Ge K (δ.set i (some x)) ch (σ.set i (some v)) F H ρ:=⟨en.gh,by simp [en.len],fun j y h=>by
 rcases eM h with ⟨rfl,z⟩ | ⟨q,z⟩
 . cases z
   have hi:i<σ.length:=by rw [<- en.len];have:=(gX h).1;simpa using this
   exact ⟨v,by simp [hi],r⟩
 . obtain ⟨w,h1,h2⟩:=en.has j y z;exact ⟨w,by rw [gN q];exact h1,h2⟩⟩
noncomputable def aI (i:Nat) (f:Fg):Fs:=fun δ ch=>(f δ ch).map fun p=>.nx (δ.set i (some p.1)) p.2
theorem bM (h:fO sc N i x=true) (U:j9 sc x=true) (O:N.Nodup) (Y:GE X e f) (e1:cP X sc:=by rfl) (e2:X.N=N:=by rfl) (W:X.fn x=true∨X.env.scope.names.lookup x=some .local:=by exact .inl rfl)
 (L:qm6 e (some (.Name x pos')) pos.line X.env=pure false:=by rfl):GS1 X (.Assign [.Name x pos'] e pos) (aI i f):=PS.mono (rn h U O Y e1 e2 W L) fun D σ H ⟨δ,ch,F,ρ,o,en,q,k⟩=>by
 unfold aI at q;obtain ⟨p,hp,q⟩:=mS q;cases q;exact ⟨δ,ch,F,ρ,p.1,p.2,en,hp,fun v F' H' ρ' a r=>k _ F' H' ρ' a ((en.adv a).put r i)⟩
noncomputable def mgS (ts:List Nat) (δ:Sl) (δ1:De):Sl:=δ.mapIdx fun j x=>if j∈ts then (match δ1[j]? with | some (some (.leaf d))=>some (.dat d) | _=>none) else x
theorem Ge.mg {δ:Sl} {F:Hp} {δ1:De} (en:Ge K δ ch σ F H ρ) (U:Φ.K=K) (W:σ'.length=σ.length) (O:∀ j,j∉ts->σ'[j]?=σ[j]?) (e:En Φ δ1 σ' F H):Ge K (mgS ts δ δ1) ch σ' F H ρ:=⟨en.gh,by simp [mgS,en.len,W],fun j x h=>by
 unfold mgS at h;rw [qs3] at h;obtain ⟨y,Y,h⟩:=mS h;by_cases L:j∈ts
 . rw [if_pos L] at h;split at h<;>cases h
   rename_i d q;obtain ⟨v,h1,h2⟩:=e.leaf q;exact ⟨v,h1,(U▸h2:Rep K F d v)⟩
 . rw [if_neg L] at h;subst h;obtain ⟨v,h1,h2⟩:=en.has j x Y;exact ⟨v,by rw [O j L];exact h1,h2⟩⟩
noncomputable def l7 (fd:De->Option Dt) (ts:List Nat) (bb:Dt->De->Option De):Fs:=fun δ ch=>(fd (lo δ ch)).bind fun d=>(bb d (lo δ ch)).map fun δ1=>.nx (mgS ts δ δ1) ch
theorem A3 {fd:De->Option Dt} (he:DL X e fd) (q:DG X tg ts bb) (L:zc7 [tg] e pos.line X.env=pure false:=by rfl) (W:zc8 [tg] e X.env=pure none:=by rfl)
 (h1:(ql4 [tg] X.env).map (·.2)=[qz9 tg X.env]:=by rfl):GS1 X (.Assign [tg] e pos) (l7 fd ts bb):=PS.mono (uG he q L W h1) fun D σ H ⟨δ,ch,F,ρ,o,en,q,k⟩=>by
 unfold l7 at q;obtain ⟨d,Z,q⟩:=bS q;obtain ⟨δ1,U,q⟩:=mS q;cases q;refine ⟨_,_,F,d,rfl,en.en,Z,fun v H' F' st r=>?_⟩;have a:=Adv.of en.gh st;exact ⟨_,_,F',d,δ1,rfl,(en.adv a).en,r,U,fun σ' l1 O Y=>k σ' F' H' ρ a ((en.adv a).mg rfl l1 O Y)⟩
noncomputable def ko (ts:List Nat) (bb:Dt->De->Option De) (g:Fs):List Dt->Sl->CH->Option Og
 | [],δ,ch=>some (.nx δ ch)
 | d::r,δ,ch=>(bb d (lo δ ch)).bind fun δ1=>(g (mgS ts δ δ1) ch).bind fun o=>match o with
  | .nx q ch2=>ko ts bb g r q ch2
  | .ct q ch2=>ko ts bb g r q ch2
  | .bk q ch2=>some (.nx q ch2)
  | .rt c ch2=>some (.rt c ch2)
noncomputable def gl (fi:De->Option (List Dt)) (ts:List Nat) (bb:Dt->De->Option De) (g:Fs):Fs:=fun δ ch=>(fi (lo δ ch)).bind fun ds=>ko ts bb g ds δ ch
theorem qo (hp:qw0 (model X.prog X.w) X.A X.env X.xe) (hc:X.calm=true) (hi:DIF X tg iter fi) (hg:DG X tg ts bb) (hb:GS X body g)
 (hs:∀ x,qf7 iter X.env x=pure x:=by intro _;rfl):GS1 X (.For tg iter body [] pos) (gl fi ts bb g):=PS.mono (pV hp hc hi hg hb hs) fun D σ H ⟨δ,ch,F,ρ,o,en,hg,k⟩=>by
 unfold gl at hg;obtain ⟨ds,hd,hg⟩:=bS hg;rw [mW];refine ⟨_,_,F,ds,rfl,en.en,hd,fun J ok H1 F1 st1 wd ho=>?_⟩;have a1:=Adv.of en.gh st1;have O:=en.adv a1;have k1:=k.adv en.gh a1;refine ou (n:=ds.length) (fun i σ' H'=>∃ δ' ch' F' ρ',Adv X.K F1 H1 ρ ch F' H' ρ' ch'/\Ge X.K δ' ch' σ' F' H' ρ'/\ko ts bb g (ds.drop i) δ' ch'=some o) ⟨δ,ch,F1,ρ,Adv.refl O.gh,O,by simpa using hg⟩ (fun i σ' H' ⟨δ',ch',F',ρ',Z,L,_⟩=>?_) ?_ ?_
 . obtain ⟨p1,p2,_⟩:=wd i H' F' (ho H' (Z.old.trans L.gh.fh)) L.gh.fh Z.old;exact ⟨p1,p2⟩
 . rintro i x σ' H' H'' hi ⟨δ',ch',F',ρ',Z,L,q⟩ hy;obtain ⟨_,_,p3⟩:=wd i H' F' (ho H' (Z.old.trans L.gh.fh)) L.gh.fh Z.old;obtain ⟨d,F2,hd',st2,rd⟩:=p3 x H'' hi hy;rw [jO hd'] at q;unfold ko at q;obtain ⟨δ1,h1,q⟩:=bS q;obtain ⟨o1,h2,q⟩:=bS q;have a2:=Adv.of L.gh st2;have a3:=Z.trans O.gh a2;have en2:=L.adv a2;refine ⟨_,_,F2,d,δ1,rfl,en2.en,rd,h1,fun σ1 l1 q1 e1=>⟨_,ch',F2,ρ',o1,en2.mg rfl l1 q1 e1,h2,?_⟩⟩;cases o1 with
   | nx Y c2=>exact fun σ2 F3 H3 U a4 W=>⟨Y,c2,F3,U,a3.trans O.gh a4,W,q⟩
   | ct Y c2=>exact fun σ2 F3 H3 U a4 W=>⟨Y,c2,F3,U,a3.trans O.gh a4,W,q⟩
   | bk Y c2=>cases q;exact fun σ2 F3 H3 U a4 W=>k1 σ2 F3 H3 U (a3.trans O.gh a4) W
   | rt c c2=>cases q;exact fun v F3 H3 U a4 r=>k1 v F3 H3 U (a3.trans O.gh a4) r
 . rintro σ' H' ⟨δ',ch',F',ρ',Z,L,q⟩;rw [qs0] at q;cases q;exact k1 σ' F' H' ρ' Z L
noncomputable def cU (c:Ft) (g:Fs):Nat->Fs
 | 0,_,_=>none
 | n+1,δ,ch=>(c δ ch).bind fun p=>if p.1 then (g δ p.2).bind fun o=>match o with
  | .nx q ch2=>cU c g n q ch2
  | .ct q ch2=>cU c g n q ch2
  | .bk q ch2=>some (.nx q ch2)
  | .rt c ch2=>some (.rt c ch2) else some (.nx δ p.2)
noncomputable def gF (fa fe:Fg):Fs:=fun δ ch=>(fa δ ch).bind fun p=>(fe δ p.2).bind fun q=>match p.1 with
 | .ref i=>match p.2[i]?,q.2[i]? with
  | some (.lst _),some (.lst l)=>if l.length<qb0 then some (.nx δ (q.2.set i (.lst (l++[q.1])))) else none
  | _,_=>none
 | _=>none
theorem jh (hx:GE X o fa) (he:GE X e fe)
  (U:qk5 o "append" X.env (eval o X.env)=eval o X.env:=by rfl)
  (Z:((qh9 cpos (qa6 [e] X.env)).all (fun x=>!x.1)&&(zb2 cpos (qr0 [] X.env)).all (fun x=>x.1.isSome)
   && decide ([e].length+([]:List qp6).length+(if ([]:List qp6).isEmpty then 0 else 1)<30))=true:=by rfl)
  (O:(apos.endLine==cpos.line)=true:=by rfl) (hs:qa6 [e] X.env=(false,eval e X.env)::qa6 [] X.env:=by rfl) (L:(qh9 cpos (qa6 [] X.env)).any (·.1)=false:=by rfl)
  (hsw:qm6 (.Call (.Attribute o "append" apos) [e] [] cpos) none pos.line X.env=pure false:=by rfl) :
  GS1 X (.Expr (.Call (.Attribute o "append" apos) [e] [] cpos) pos) (gF fa fe):=
 PS.mono (mL (nY PySem.F.plainAttrs_list PySem.F.slot_list_append PySem.F.type_list_append g5 hx (d7 he fY hs) U Z O hs L) hsw) fun D σ H ⟨δ,ch,F,ρ,og,en,q,k⟩=>by
  unfold gF at q;obtain ⟨⟨c1,ch1⟩,hp,Y⟩:=bS q;clear q;obtain ⟨⟨c2,ch2⟩,hq,q⟩:=bS Y;clear Y;dsimp only at hq q;split at q<;>first | (cases q;done) | skip
  rename_i i;split at q<;>first | (cases q;done) | skip
  rename_i l0 l h0 h1;split at q<;>cases q
  rename_i hz;refine ⟨δ,ch,F,ρ,_,ch1,en,hp,fun v F1 H1 ρ1 a1 r1=>?_⟩;obtain ⟨vs0,q0,_⟩:=a1.gh.ok i _ h0;obtain ⟨hi,rfl⟩:=r1;refine ⟨.inl ⟨rfl,vs0,.inl (.inl q0)⟩,δ,ch1,F1,ρ1,c2,ch2,en.adv a1,hq,fun w F2 H2 ρ2 W r2=>?_⟩;obtain ⟨vs,q1,q2⟩:=W.gh.ok i _ h1;rw [W.ext i hi] at q1;refine ⟨_,vs,w,rfl,rfl,q1,by rw [q2.length];exact hz,?_⟩;have hi2:i<ch2.length:=(gX h1).1;have a3:=Adv.upd (o:=.lst (l++[c2])) (u:=.lst (vs++[w])) (w:=.lst vs) W.gh hi2 (by rw [W.ext i hi];exact q1) (fun _ _ z=>nomatch z) ⟨_,bi,q2.append (RelCs.one r2)⟩;rw [W.ext i hi] at a3;have a:=(a1.trans en.gh W).trans en.gh a3;exact k σ F2 _ ρ2 a (en.adv a)
noncomputable def iT {κ:Type} [DecidableEq κ]:List (κ×CV)->κ->CV->List (κ×CV)
 | [],k,c=>[(k,c)]
 | p::l,k,c=>if p.1=k then (p.1,c)::l else p::iT l k c
noncomputable def tI (o:CO) (d:Dt) (c:CV):Option CO:=match o with
 | .lst l=>(asI d).bind fun j=>(ixN l.length j).map fun m=>.lst (l.set m c)
 | .dK l=>(jE d).bind fun k=>if l.length<qb0/\(l.map (·.1)).Nodup then some (.dK (iT l k c)) else none
 | _=>none
theorem oM {κ:Type} [DecidableEq κ] {F:Hp} {k:κ} {c:CV} (r:RelC K F ρ n c v):∀ {l:List (κ×CV)} {kvs:List (κ×V)},(l.map (·.1)).Nodup->kvs.map (·.1)=l.map (·.1)->RelCs K F ρ n (l.map (·.2)) (kvs.map (·.2))→
  (fu kvs k v).map (·.1)=(iT l k c).map (·.1)/\RelCs K F ρ n ((iT l k c).map (·.2)) ((fu kvs k v).map (·.2))
 | [],[],_,_,_=>⟨rfl,⟨v,[],rfl,r,rfl⟩⟩
 | [],q::kvs,_,h,_=>by cases h
 | p::l,[],_,h,_=>by cases h
 | p::l,q::kvs,nd,h,rs=>by
  simp only [qa3,qq0] at h;obtain ⟨h1,h2⟩:=h;obtain ⟨w,ws,e,r1,r2⟩:=rs;simp only [qa3,qq0] at e;obtain ⟨rfl,rfl⟩:=e;have W:=ql7.mp nd;by_cases U:p.1=k
  . have O:q.1=k:=h1.trans U
    have L:∀ x∈kvs,¬ x.1=k:=fun x Z e=>W.1 (by have:x.1∈kvs.map (·.1):=qo5 Z;rw [h2] at this;rw [e,<- U] at this;exact this)
    have e2:fu (q::kvs) k v=(q.1,v)::kvs:=by
     unfold fu;rw [if_pos (by simp [O])];simp only [qa3,if_pos O,qq0,true_and];have:∀ x∈kvs,(if x.1=k then (x.1,v) else x)=id x:=fun x Z=>if_neg (L x Z)
     rw [qo6 this,List.map_id]
    have e1:iT (p::l) k c=(p.1,c)::l:=by simp only [iT,if_pos U]
    rw [e1,e2];exact ⟨by simp [h1,h2],⟨v,_,rfl,r,r2⟩⟩
  . have O:¬ q.1=k:=fun z=>U (h1.symm.trans z)
    have e2:fu (q::kvs) k v=q::fu kvs k v:=by
     unfold fu;by_cases Y:(kvs.any fun kv=>decide (kv.1=k))=true
     . rw [if_pos Y,if_pos (by simp only [qi2,Y,Bool.or_true])];simp only [qa3,if_neg O]
     . rw [if_neg Y,if_neg (by simp only [qi2,decide_eq_false O,zd1];exact Y)];rfl
    have e1:iT (p::l) k c=p::iT l k c:=by simp only [iT,if_neg U]
    obtain ⟨i1,i2⟩:=oM (k:=k) r W.2 h2 r2;rw [e1,e2];exact ⟨by simp [h1,i1],⟨q.2,_,rfl,r1,i2⟩⟩
noncomputable def iU (fa fk fe:Fg):Fs:=fun δ ch=>(fe δ ch).bind fun p=>(fa δ p.2).bind fun q=>(fk δ q.2).bind fun r=>match q.1,r.1 with
 | .ref i,.dat d=>((r.2[i]?).bind fun o=>tI o d p.1).map fun o'=>.nx δ (r.2.set i o')
 | _,_=>none
theorem qp {k:Nat} {ik:Expr} (hr:Room k X.A) (hx:GE X o fa) (hk:GE X ik fk) (he:GE X e fe) (hs:qm6 e (some (.Subscript o ik pos')) pos.line X.env=pure false:=by rfl)
 (hs2:zc7 [.Subscript o ik pos'] e pos.line X.env=pure false:=by rfl) (hw:zc8 [.Subscript o ik pos'] e X.env=pure none:=by rfl)
 (h1:(ql4 [.Subscript o ik pos'] X.env).map (·.2)=[qz9 (.Subscript o ik pos') X.env]:=by rfl)
 (ha:∀ v,qz9 (.Subscript o ik pos') X.env v=(do
 let ov <- qx4 [v] (eval o X.env);let iv <- qx4 [v,ov] (eval ik X.env)
 standAt pos'
 qx4 [v,ov,iv] (setItem ov iv v)
 release [v,ov,iv] []):=by intro _;rfl):GS1 X (.Assign [.Subscript o ik pos'] e pos) (iU fa fk fe):=
 PS.mono (PS.or (uG he (Ap hx hk uT ha) hs2 hw h1) (xI (j6 hr) hx hk he hs)) fun D σ H ⟨δ,ch,F,ρ,og,en,U,kk⟩=>by
  unfold iU at U;obtain ⟨⟨c1,ch1⟩,hp,hg1⟩:=bS U;clear U;obtain ⟨⟨c2,ch2⟩,hq,hg2⟩:=bS hg1;clear hg1;obtain ⟨⟨c3,ch3⟩,hw,U⟩:=bS hg2;clear hg2;dsimp only at hq hw U;split at U<;>first | (cases U;done) | skip
  rename_i i d;obtain ⟨o',q,U⟩:=mS U;cases U;obtain ⟨o0,ho,q⟩:=bS q;cases o0 with
  | lst l =>obtain ⟨j,hj,q⟩:=bS q;obtain ⟨m,hm,rfl⟩:=mS q;left;refine ⟨δ,ch,F,ρ,_,ch1,en,hp,fun v F1 H1 ρ1 Y r1=>⟨δ,ch1,F1,ρ1,_,ch2,en.adv Y,hq,fun x F2 H2 ρ2 O r2=>⟨δ,ch2,F2,ρ2,_,ch3,(en.adv Y).adv O,hw,fun y F3 H3 W L r3=>?_⟩⟩⟩;obtain ⟨vs,q1,q2⟩:=L.gh.ok i _ ho;have hi3:i<ch3.length:=(gX ho).1;have a12:=Y.trans en.gh O;have a13:=a12.trans en.gh L;have Z:=(r1.mono O.old O.ext O.len).mono L.old L.ext L.len;refine ⟨_,vs,j,m,(r2.mono L.old L.ext L.len).2,ni hj r3,q1,by rw [q2.length];exact hm,?_⟩;have a4:=Adv.upd (o:=.lst (l.set m c1)) (u:=.lst (vs.set m v)) L.gh hi3 q1 (fun _ _ z=>nomatch z) ⟨_,bi,q2.set Z m⟩;have a:=a13.trans en.gh a4;exact kk σ F3 _ W a (en.adv a)
  | dK l =>
   obtain ⟨j,hj,q⟩:=bS q;split at q<;>first | (cases q;done) | skip
   rename_i hz;cases q;right;refine ⟨δ,ch,F,ρ,_,ch1,en,hp,fun v F1 H1 ρ1 Y r1=>⟨δ,ch1,F1,ρ1,_,ch2,en.adv Y,hq,fun x F2 H2 ρ2 O r2=>⟨δ,ch2,F2,ρ2,_,ch3,(en.adv Y).adv O,hw,fun y F3 H3 W L r3=>?_⟩⟩⟩;obtain ⟨kvs,q1,q2,q3⟩:=L.gh.ok i _ ho;have hi3:i<ch3.length:=(gX ho).1;have a12:=Y.trans en.gh O;have a13:=a12.trans en.gh L;have Z:=(r1.mono O.old O.ext O.len).mono L.old L.ext L.len;obtain ⟨z1,z2⟩:=oM (k:=j) Z hz.2 q2 q3
   have hlen:kvs.length=l.length:=by have:=congrArg qi6 q2;simpa using this
   refine ⟨_,upd H3 (W i) (.dK (fu kvs j v)),(r2.mono L.old L.ext L.len).2,?_,?_⟩
   . rw [kn hj r3];exact DPut.k q1 (by rw [hlen];exact hz.1)
   . have a4:=Adv.upd (o:=.dK (iT l j c1)) (u:=.dK (fu kvs j v)) L.gh hi3 q1 (fun _ _ z=>nomatch z) ⟨_,bi,z1,z2⟩;have a:=a13.trans en.gh a4;exact kk σ F3 _ W a (en.adv a)
  | tup l=>cases q
  | ins c ns l=>cases q
  | wk l=>cases q
  | dT l=>cases q
  | wt l=>cases q
end
noncomputable def jF (m:Nat) (g:Fs):Fd:=fun cs ch=>match g (cs.map some++qf8 (m-cs.length) none) ch with
 | some (.rt c ch')=>some (c,ch')
 | some (.nx _ ch')=>some (.dat .non,ch')
 | _=>none
theorem oN {F:Hp} {cs:List CV} (g:Gh K F H ρ ch) (r:RelCs K F ρ ch.length cs vs):Ge K (cs.map some++qf8 (N.length-cs.length) none) ch (start N vs) F H ρ:=by
 have U:=r.length;refine ⟨g,by simp [start,U],fun i c h=>?_⟩;by_cases hi:i<cs.length
 . rw [qa8 (by simpa using hi),qb1] at h;have q:cs[i]?=some cs[i]:=by simp [hi]
   rw [q] at h;cases h;obtain ⟨v,O,L⟩:=r.get q;refine ⟨v,?_,L⟩;unfold start;rw [qa8 (by simp;lia),qb1,O];rfl
 . rw [qd6 (by simpa using hi)] at h;rw [qm4] at h;split at h<;>cases h
variable {fd:qo2}
section
variable {P:qc4} {w:World} {K:PySem.W.Frag} {mg:Str->Option Value} {base:Heap}
theorem vM {q:Str} {k:Nat} {g:Fs} {f:Addr} (D:Fun K x q st f fd) (S:FnScope N ps (ab st)) (Z:ps.length=n)
 (L:∀ (cdv:Value) (A:qd9) (outer:List Env) (s:qa4) (H:Hp) (E:XK),Room k (A.deeper (qy3 q (ab st) s.heap.objs.size f cdv))->GS (lj CX0 P w K mg base N q (ab st) f cdv A outer s H E).nox (b7 st) g) :
  FnOk P w K mg base CX0 (k+1) f fd ps (spG K n (jF N.length g)):=by
 refine D.ok S (fun vs H Q E h=>?_) (fun cdv A outer s H vs Q E Y h=>?_)
 . obtain ⟨F,ρ,cs,ch,c,ch',_,W,r,_⟩:=h;rw [r.length,W,Z]
 . obtain ⟨F,ρ,cs,ch,c,ch',U,W,r,O,kq⟩:=h;refine ⟨_,L cdv A outer s H E Y,?_⟩;unfold jF at O;split at O
   . rename_i c1 ch1 q;cases O;exact ⟨_,ch,F,ρ,_,oN U r,q,fun v F' H' ρ' a z=>kq v F' H' ρ' a z⟩
   . rename_i δ1 ch1 q;cases O;exact ⟨_,ch,F,ρ,_,oN U r,q,fun σ' F' H' ρ' a z=>kq .non F' H' ρ' a (rG (K:=K) (F:=F'))⟩
   . cases O
end
section
variable {X:Cx} {e a b o:Expr} {es rest:List Expr} {f fa fb fe:Fg} {fs:Fgs} {ta tb:Ft} {pos apos cpos p:Pos} {sc:Scope} {x:Str} {K:PySem.W.Frag}
noncomputable def GW (X:Cx) (e:Expr) (f:Ft):Prop:=PW X e (tGT X.K f)
noncomputable def gG (f:Ft):Ft:=fun δ ch=>(f δ ch).map fun p=>(!p.1,p.2)
noncomputable def nj (f g:Ft):Ft:=fun δ ch=>(f δ ch).bind fun p=>if p.1 then some (true,p.2) else g δ p.2
noncomputable def gH (f:Fg):Ft:=fun δ ch=>(f δ ch).bind fun p=>(vw p.2 p.1).bind fun d=>(vc d).map fun b=>(b,p.2)
theorem oO (U:GE X a fa) (Y:∀ q,isTrue a X.env q=(do let v <- q;standAt a.pos;qx4 [v] (truthy v))):GT X a (gH fa):=PT.mono (nV U Y) fun σ H Q ⟨δ,ch,F,ρ,b,ch',en,L,k⟩=>by unfold gH at L;obtain ⟨p,hp,L⟩:=bS L;obtain ⟨d,W,L⟩:=bS L;obtain ⟨c,O,L⟩:=mS L;cases L;exact ⟨δ,ch,F,ρ,p.1,_,en,hp,fun v F' H' ρ' a r=>⟨_,rE a.gh.fh (jP a.gh r W) O,k F' H' ρ' a⟩⟩
theorem vN (h:GT X a ta):GT X (.UnaryOp .Not a pos) (gG ta):=PT.mono (uD h) fun σ H Q ⟨δ,ch,F,ρ,b,ch',en,q,k⟩=>by unfold gG at q;obtain ⟨p,hp,q⟩:=mS q;cases q;exact ⟨δ,ch,F,ρ,p.1,p.2,en,hp,fun F' H' ρ' a=>k F' H' ρ' a⟩
theorem A4 (h:GT X a ta):GW X (.BoolOp .Or [a] pos) ta:=uC h
theorem zE (h:GT X a ta) (h':GW X (.BoolOp .Or (b::rest) pos) tb):GW X (.BoolOp .Or (a::b::rest) pos) (nj ta tb):=PW.mono (ze h h') fun σ H Q ⟨δ,ch,F,ρ,t,ch',en,L,k⟩=>by
 unfold nj at L;obtain ⟨p,hp,L⟩:=bS L;refine ⟨δ,ch,F,ρ,p.1,p.2,en,hp,fun F' H' ρ' a=>?_⟩;split at L
 . rename_i q;rw [if_pos q];cases L;exact k F' H' ρ' a
 . rename_i q;rw [if_neg q];exact ⟨δ,p.2,F',ρ',t,ch',en.adv a,L,fun U H2 O W=>k U H2 O (a.trans en.gh W)⟩
theorem GW.t (h:GW X a ta):GT X a ta:=h.pt
noncomputable def vws (ch:CH):List CV->Option (List Dt)
 | []=>some []
 | c::l=>(vw ch c).bind fun d=>(vws ch l).map (d::·)
theorem l8 {F:Hp} (g:Gh K F H ρ ch):∀ {l:List CV} {ds:List Dt} {vs:List V},RelCs K F ρ ch.length l vs->vws ch l=some ds->RepBs K F H ds vs
 | [],ds,vs,r,h=>by cases h;exact r
 | c::l,ds,vs,r,h=>by simp only [vws] at h;obtain ⟨d,U,h⟩:=bS h;obtain ⟨es,W,rfl⟩:=mS h;obtain ⟨v,O,e,L,q⟩:=r;exact ⟨v,O,e,jP g L U,l8 g q W⟩
noncomputable def eB (g:List Dt->Option T) (fs:Fgs):Fg:=fun δ ch=>(fs δ ch).bind fun p=>(vws p.2 p.1).bind fun ds=>(g ds).bind (al p.2)
noncomputable def eCV (ff:List Dt->Option T) (fs:Fgs):Fg:=fun δ ch=>(fs δ ch).bind fun p=>(vws p.2 p.1).bind fun ds=>(ff ds).bind fun u=>(iQ u).bind (al p.2)
theorem rR:∀ {l:List CV} {ds:List Dt},vws ch l=some ds->ds.length=l.length
 | [],ds,h=>by cases h;rfl
 | c::l,ds,h=>by simp only [vws] at h;obtain ⟨d,L,h⟩:=bS h;obtain ⟨es,q,rfl⟩:=mS h;simp [rR q]
theorem oP {k:Nat} (h:aH sc x=true) (F:OkF X.prog X.w X.K X.mg X.base x k ps (spD X.K n ff)) (W:Room k X.A) (ha:GA X (e::es) fs) (hn:∀ δ ch p,fs δ ch=some p->p.1.length=n) (e1:cP X sc:=by rfl)
 (he:qa6 (e::es) X.env=(false,eval e X.env)::qa6 es X.env:=by rfl) (O:(qh9 pos (qa6 es X.env)).any (·.1)=false:=by rfl):GE X (.Call (.Name x p) (e::es) [] pos) (eCV ff fs):=
 PE.mono (g8 h F W ha e1 he O) fun σ H Q ⟨δ,ch,Y,ρ,c,ch',en,q,k⟩=>by unfold eCV at q;obtain ⟨p,hp,q⟩:=bS q;obtain ⟨ds,U,q⟩:=bS q;obtain ⟨u,Z,q⟩:=bS q;obtain ⟨t,ht,q⟩:=bS q;refine ⟨δ,ch,Y,ρ,p.1,p.2,en,hp,fun vs F1 H1 ρ1 L r1=>?_⟩;show spD X.K n ff (vs++[]) H1 Q E0;rw [qf4];exact ⟨H1,ds,u,Same.refl _,(rR U).trans (hn δ ch p hp),(l8 L.gh r1 U).reps L.gh.fh,Z,iR L.gh.fh ht (l6 L.gh q (k.adv en.gh L))⟩
theorem ga:∀ δ ch p,bQ δ ch=some p->p.1.length=0:=fun δ ch p h=>by cases h;rfl
theorem q14 {f:Fg} {fs:Fgs} (h:∀ δ ch p,fs δ ch=some p->p.1.length=n):∀ δ ch p,aw f fs δ ch=some p->p.1.length=n+1:=fun δ ch p hp=>by unfold aw at hp;obtain ⟨a,L,hp⟩:=bS hp;obtain ⟨b,q,hp⟩:=mS hp;cases hp;simp [h _ _ _ q]
end
section
variable {P:qc4} {w:World} {K:PySem.W.Frag} {mg:Str->Option Value} {base:Heap}
theorem iV {k:Nat} {g:Fs} (D:DefF K mg x st ps) (S:FnScope N ps (ab st)) (O:ps.length=n)
 (q:∀ (f:Addr) (cdv:Value) (A:qd9) (outer:List Env) (s:qa4) (H:Hp) (E:XK),Room k (A.deeper (qy3 x (ab st) s.heap.objs.size f cdv))->GS (lj CX0 P w K mg base N x (ab st) f cdv A outer s H E).nox (b7 st) g) :
  OkF P w K mg base x (k+1) ps (spG K n (jF N.length g)):=by
 obtain ⟨f,fd,h1,h2,h3,L⟩:=D.ex;exact ⟨f,fd,h1,h2,h3,vM L S O (q f)⟩
end
section
variable {X:Cx} {e a b c o:Expr} {es rest:List Expr} {f fa fb fe:Fg} {fs:Fgs} {ta tb tc:Ft} {pos apos cpos p:Pos} {sc:Scope} {x:Str} {K:PySem.W.Frag} {g:Fs} {body:List Stmt}
theorem kr (n:Nat) (hp:qw0 (model X.prog X.w) X.A X.env X.xe) (hc:GT X c tc) (hb:GS X body g):GS1 X (.While c body [] pos) (cU tc g n):=PS.mono (nU hp hc hb) fun D σ H ⟨δ,ch,F,ρ,o,en,hg,k⟩=>by
 refine ⟨fun m σ' H'=>∃ δ' ch' F' ρ',Adv X.K F H ρ ch F' H' ρ' ch'/\Ge X.K δ' ch' σ' F' H' ρ'/\cU tc g m δ' ch'=some o,⟨n,δ,ch,F,ρ,Adv.refl en.gh,en,hg⟩,?_⟩;rintro m σ' H' ⟨δ',ch',F',ρ',a',en',L⟩;cases m with
 | zero=>cases L
 | succ m =>
  unfold cU at L;obtain ⟨p,hp',U⟩:=bS L;clear L;refine ⟨δ',ch',F',ρ',p.1,p.2,en',hp',fun F1 H1 ρ1 a1=>?_⟩;have a2:=a'.trans en.gh a1;have en1:=en'.adv a1;dsimp only;split at U
  . rename_i q;rw [if_pos q];obtain ⟨o1,h2,L⟩:=bS U;refine ⟨fun σ' H'=>∃ δ' ch' F' ρ',Adv X.K F H ρ ch F' H' ρ' ch'/\Ge X.K δ' ch' σ' F' H' ρ'/\cU tc g m δ' ch'=some o,fun Z H2 z=>⟨m,qk1 m,z⟩,δ',p.2,F1,ρ1,o1,en1,h2,?_⟩;cases o1 with
    | nx Y c2=>exact fun Z F3 H3 O a4 W=>⟨Y,c2,F3,O,a2.trans en.gh a4,W,L⟩
    | ct Y c2=>exact fun Z F3 H3 O a4 W=>⟨Y,c2,F3,O,a2.trans en.gh a4,W,L⟩
    | bk Y c2=>cases L;exact fun Z F3 H3 O a4 W=>k Z F3 H3 O (a2.trans en.gh a4) W
    | rt c c2=>cases L;exact fun v F3 H3 O a4 r=>k v F3 H3 O (a2.trans en.gh a4) r
  . rename_i q;rw [if_neg q];cases U;exact k σ' F1 H1 ρ1 a2 en1
end
section
variable {prog:qc4} {w:World} {A:qd9} {E:Value->qa4->Prop} {s:qa4} {a:Addr} {its:Array Value} {c:Nat} {sl:Array (Option Value)}
end
section
variable {prog:qc4} {w:World} {A:qd9} {E:Value->qa4->Prop} {s:qa4} {a:Addr} {its:Array Value} {c:Nat} {sl:Array (Option Value)}
end
section
variable {X:Cx} {e o:Expr} {sc:Scope} {p pos:Pos} {fs:De->Option (List Dt)}
end
section
variable {prog:qc4} {w:World} {A:qd9}
noncomputable def kt (kvs:List (Key×Value)):List (Key×Value)->List (Key×Value)
 | []=>kvs
 | p::ps=>kt (stored kvs p.1 p.2) ps
variable {E:Value->qa4->Prop} {s:qa4} {a:Addr} {its:Array Value} {c:Nat} {sl:Array (Option Value)}
end
noncomputable def qq (kvs:List (Key×V)):List (Key×V)->List (Key×V)
 | []=>kvs
 | p::ps=>qq (fu kvs p.1 p.2) ps
theorem KV.all:∀ {ps:List (Key×V)} {qs:List (Key×Value)} {kvs:List (Key×V)} {vs:List (Key×Value)},KV ps qs->KV kvs vs->KV (qq kvs ps) (kt vs qs)
 | [],[],_,_,_,r=>r
 | [],_::_,_,_,h,_=>by cases h
 | _::_,[],_,_,h,_=>by cases h
 | p::ps,q::qs,kvs,vs,h,r=>by
  cases h with
  | cons hp O =>obtain ⟨e,L⟩:=hp;have:=KV.all O (r.put p.1 L);show KV (qq (fu kvs p.1 p.2) ps) (kt (stored vs q.1 q.2) qs);rw [<- e];exact this
section
variable {X:Cx}
end
section
variable {K:PySem.W.Frag} {F H:Hp} {ρ:Nat->Addr} {ch:CH}
end
section
variable {X:Cx} {e a b o:Expr} {es:List Expr} {f fa fb fc fe:Fg} {fs:Fgs} {pos apos cpos p:Pos} {sc:Scope} {x:Str} {K:PySem.W.Frag}
end
section
variable {X:Cx} {e a b o value:Expr} {es:List Expr} {f fa fb fc fe fk:Fg} {fs:Fgs} {pos apos cpos tpos p:Pos} {sc:Scope} {x:Str} {K:PySem.W.Frag}
end
noncomputable def gC (src:List (Option Nat)) (δ:Sl):Sl:=src.map fun o=>o.bind fun j=>(δ[j]?).join
noncomputable def il (ts:List Nat) (bb:Dt->De->Option De) (ft:De->Option Bool) (fe:Fg) (δ:Sl):List Dt->CH->Option (List CV×CH)
 | [],ch=>some ([],ch)
 | d::r,ch=>(bb d (lo δ ch)).bind fun δ1=>(ft (lo (mgS ts δ δ1) ch)).bind fun b=>if b then (fe (mgS ts δ δ1) ch).bind fun p=>(il ts bb ft fe δ r p.2).map fun q=>(p.1::q.1,q.2) else il ts bb ft fe δ r ch
noncomputable def oQ (src:List (Option Nat)) (fi:De->Option (List Dt)) (ts:List Nat) (bb:Dt->De->Option De) (ft:De->Option Bool) (fe:Fg):Fg:=fun δ ch =>(fi (lo δ ch)).bind fun ds=>(il ts bb ft fe (gC src δ) ds ch).bind fun p=>if p.1.length<=qb0 then some (.ref p.2.length,p.2++[.lst p.1]) else none
section
variable {K:PySem.W.Frag} {F H F' H' F1 H1:Hp} {ρ ρ' ρ1:Nat->Addr} {ch ch' ch1:CH} {src:List (Option Nat)} {δ:Sl} {σ:St}
theorem A5 {k:Nat} (h:(gC src δ)[k]?=some (some c)):∃ j,src[k]?=some (some j)/\δ[j]?=some (some c):=by
 unfold gC at h;rw [qb1] at h;cases e:src[k]? with
 | none=>rw [e] at h;cases h
 | some o =>
  rw [e] at h;cases o with
  | none=>cases h
  | some j =>
   simp only [qg0,qa0,qi0] at h;refine ⟨j,rfl,?_⟩;cases q:δ[j]? with
   | none=>rw [q] at h;cases h
   | some u=>rw [q] at h;simp only [qo3] at h;rw [h]
theorem Ge.comp (en:Ge K δ ch σ F H ρ):Ge K (gC src δ) ch (stC src σ) F H ρ:=⟨en.gh,by simp [gC,stC],fun k c h=>by obtain ⟨j,h1,h2⟩:=A5 h;obtain ⟨v,h3,q⟩:=en.has j c h2;exact ⟨v,rL h1 h3,q⟩⟩
structure Bd (K:PySem.W.Frag) (F1 H1:Hp) (ρ1:Nat->Addr) (ch1:CH) (D:Addr) (F H:Hp) (ρ:Nat->Addr) (ch:CH) (done:List CV) (ys:List V):Prop where
 adv:Adv K F1 H1 ρ1 ch1 F H ρ ch
 hD:H D=some (.lst ys)
 fD:F D=none
 nD:∀ i,i<ch.length->ρ i≠D
 rel:RelCs K F ρ ch.length done ys
variable {D:Addr} {done:List CV} {ys:List V}
theorem Bd.step (g1:Gh K F1 H1 ρ1 ch1) (b:Bd K F1 H1 ρ1 ch1 D F H ρ ch done ys) (a:Adv K F H ρ ch F' H' ρ' ch'):Bd K F1 H1 ρ1 ch1 D F' H' ρ' ch' done ys where
 adv:=b.adv.trans g1 a
 hD:=a.prot D _ b.hD fun i hi=>b.nD i hi
 fD:=by
  cases q:F' D with
  | none=>rfl
  | some o =>
   rcases a.nw D o q with z | z | ⟨xs,z⟩
   . rw [b.fD] at z;cases z
   . rw [b.hD] at z;cases z
   . subst z;have L:=a.gh.fh _ _ q;rw [a.prot D _ b.hD fun i hi=>b.nD i hi] at L;cases L
 nD:=fun i hi e=>by
  by_cases h:i<ch.length
  . rw [a.ext i h] at e;exact b.nD i h e
  . have:=a.fr i (qm1.mp h) hi;rw [e,b.hD] at this;cases this
 rel:=b.rel.mono a.old a.ext a.len
theorem Bd.more (q:H1 D=none) (b:Bd K F1 H1 ρ1 ch1 D F H ρ ch done ys) (r:RelC K F ρ ch.length c v):Bd K F1 H1 ρ1 ch1 D F (upd H D (.lst (ys++[v]))) ρ ch (done++[c]) (ys++[v]) where
 adv:=⟨⟨fun x o e=>by
     have:x≠D:=fun z=>by rw [z,b.fD] at e;cases e
     rw [aS this];exact b.adv.gh.fh x o e,b.adv.gh.inj,b.adv.gh.out,fun i o h=>(b.adv.gh.ok i o h).mono (Same.refl _) (fun _ _=>rfl) (nL _) fun u L=>by
     rw [aS (b.nD i (gX h).1)];exact L⟩,b.adv.len,b.adv.ext,b.adv.fr,fun x o h1 h2=>by
     have:x≠D:=fun z=>by rw [z,q] at h1;cases h1
     rw [aS this];exact b.adv.prot x o h1 h2,b.adv.old,b.adv.nw,fun x o u h=>by
     have:x≠D:=fun z=>by rw [z,q] at h;cases h
     rw [aS this];exact b.adv.fz x o u h⟩
 hD:=bi
 fD:=b.fD
 nD:=b.nD
 rel:=b.rel.append (RelCs.one r)
theorem Bd.fin (O:H1 D=none) (b:Bd K F1 H1 ρ1 ch1 D F H ρ ch done ys):Adv K F1 H1 ρ1 ch1 F H (fun i=>if i=ch.length then D else ρ i) (ch++[.lst done]):=by
 have lt:∀ {i:Nat},i<ch.length->(if i=ch.length then D else ρ i)=ρ i:=fun {i} hi=>if_neg (qc2 hi)
 have g:=b.adv.gh;refine ⟨⟨g.fh,fun i j hi L e=>?_,fun i hi=>?_,fun i x q=>?_⟩,by have:=b.adv.len;simp;lia,fun i hi=>?_,fun i h1 h2=>?_,b.adv.prot,b.adv.old,b.adv.nw,b.adv.fz⟩
 . simp only [qb8,qc8,qg2] at hi L;by_cases h1:i=ch.length<;>by_cases h2:j=ch.length
   . rw [h1,h2]
   . rw [if_pos h1,if_neg h2] at e;exact absurd e.symm (b.nD j (by lia))
   . rw [if_neg h1,if_pos h2] at e;exact absurd e (b.nD i (by lia))
   . rw [if_neg h1,if_neg h2] at e;exact g.inj i j (by lia) (by lia) e
 . simp only [qb8,qc8,qg2] at hi;by_cases h1:i=ch.length
   . rw [if_pos h1];exact .inl b.fD
   . rw [if_neg h1];exact g.out i (by lia)
 . simp only [qb8,qc8,qg2];by_cases h1:i<ch.length
   . rw [qa8 h1] at q;rw [lt h1];exact (g.ok i x q).mono (Same.refl _) (fun j L=>lt L) (qk9 _) fun u U=>U
   . rw [gR (qm1.mp h1)] at q
     have h2:i=ch.length:=by have:=(gX q).1;simp at this;lia
     subst h2;simp at q;subst q;rw [if_pos rfl];exact ⟨ys,b.hD,b.rel.mono (Same.refl _) (fun j L=>lt L) (qk9 _)⟩
 . rw [lt (qb7 hi b.adv.len)];exact b.adv.ext i hi
 . simp only [qb8,qc8,qg2] at h2;by_cases h3:i=ch.length
   . rw [if_pos h3];exact O
   . rw [if_neg h3];exact b.adv.fr i h1 (by lia)
end
section
variable {X:Cx} {elt tg iter:Expr} {ifs:List Expr} {scope:Scope} {pos:Pos} {M:List Str} {src:List (Option Nat)} {fi:De->Option (List Dt)} {ft:De->Option Bool} {fe:Fg}
theorem vO (hts:(ts.all fun k=>decide (src[k]?=some none))=true):∀ (σ:St) (H:Hp) (Q:VK),tG X.K (oQ src fi ts bb ft fe) σ H Q->lK src (tIF X.K fi) (gD X.K ts bb) (tTr X.K ft) (tG X.K fe) σ H Q:=fun σ H Q ⟨δ,ch,F,ρ,c,ch',en,hf,k⟩=>by
 unfold oQ at hf;obtain ⟨ds,hd,hf1⟩:=bS hf;obtain ⟨⟨all,ch2⟩,ha,hf2⟩:=bS hf1;clear hf hf1;split at hf2<;>first | (cases hf2;done) | skip
 rename_i hz;cases hf2;have hz:all.length<=qb0:=hz;rw [oj];refine ⟨_,_,F,ds,rfl,en.en,hd,fun J ok H1 F1 st1 wd ho D hD=>?_⟩;have a1:=Adv.of en.gh st1;have U:=en.adv a1;have k1:=k.adv en.gh a1
 have wk:∀ {σ2:St},σ2.length=(stC src σ).length->(∀ j,j∉ts->σ2[j]?=(stC src σ)[j]?)->Wk (stC src σ) σ2:=fun {σ2} h1 h2=>by
  refine ⟨h1.symm,fun j v hj=>?_⟩;by_cases hm:j∈ts
  . have:=qm7.mp hts j hm;have hn:src[j]?=some none:=of_decide_eq_true this;obtain ⟨i,e,_⟩:=qf hj;rw [hn] at e;cases e
  . rw [h2 j hm];exact hj
 refine lS (n:=ds.length) (fun i H=>∃ F ρ' c' ys done L,Bd X.K F1 H1 ρ ch D F H ρ' c' done ys/\il ts bb ft fe (gC src δ) (ds.drop i) c'=some (L,ch2)/\done++L=all) ?_ ?_ ?_ ?_
 . refine ⟨F1,ρ,ch,[],[],all,⟨Adv.of U.gh (Step.made U.gh.fh hD),bi,U.gh.fh.free hD,fun i hi e=>?_,rfl⟩,by simpa using ha,rfl⟩;obtain ⟨u,hu⟩:=U.gh.at hi;rw [e,hD] at hu;cases hu
 . rintro i H' ⟨F',ρ',c',ys,done,L,b,_⟩;obtain ⟨p1,p2,_⟩:=wd i H' F' (ho H' (b.adv.old.trans b.adv.gh.fh)) b.adv.gh.fh b.adv.old;exact ⟨p1,p2⟩
 . rintro i x H0' H' hi ⟨F0',ρ0,c0,ys,done,L,b0,W,O⟩ hy0;obtain ⟨_,_,p3⟩:=wd i H0' F0' (ho H0' (b0.adv.old.trans b0.adv.gh.fh)) b0.adv.gh.fh b0.adv.old;obtain ⟨d,F',hd',stw,rd⟩:=p3 x H' hi hy0;have b1:=b0.step U.gh (Adv.of b0.adv.gh stw);have en2:=(U.adv b1.adv).comp (src:=src);rw [jO hd'] at W;unfold il at W;obtain ⟨δ1,h1,Z⟩:=bS W;obtain ⟨bo,h2,Y⟩:=bS Z;clear W Z;refine ⟨_,_,F',d,δ1,rfl,en2.en,rd,h1,fun σ2 l2 k2 e2=>⟨wk l2 k2,?_⟩⟩;have en3:=en2.mg rfl l2 k2 e2;refine ⟨_,_,F',bo,rfl,en3.en,h2,fun H3 F3 st3=>?_⟩;have b3:=b1.step U.gh (Adv.of b1.adv.gh st3);have en4:=en3.adv (Adv.of b1.adv.gh st3);dsimp only;split at Y
   . rename_i q;rw [if_pos q];obtain ⟨⟨y,c4⟩,hy,hgo3⟩:=bS Y;obtain ⟨⟨zs,c5⟩,hzs,hgo4⟩:=mS hgo3;cases hgo4;refine ⟨_,_,F3,ρ0,y,c4,en4,hy,fun v F4 H4 ρ4 a4 rv=>?_⟩;have b4:=b3.step U.gh a4;refine ⟨ys,b4.hD,?_,F4,ρ4,c4,ys++[v],done++[y],zs,b4.more hD rv,hzs,by rw [<- O];simp⟩;have e1:=b4.rel.length;have e2:all.length=done.length+(zs.length+1):=by rw [<- O];simp
     lia
   . rename_i q;rw [if_neg q];exact ⟨F3,ρ0,c0,ys,done,L,b3,Y,O⟩
 . rintro H' ⟨F',ρ',c',ys,done,L,b,W,O⟩;rw [qs0] at W;cases W;rw [qf4] at O;subst O;refine k1 (.ref D) F' H' _ (b.fin hD) ⟨by simp,?_⟩;dsimp only;rw [if_pos rfl]
theorem yj (S:CmpScope X.N X.env.scope scope M src) (W:X.calm=true) (hi:DIF X tg iter fi) (O:M.Nodup->∀ C s H ex,DG (cxC X M scope C s H ex) tg ts bb)
 (U:∀ C s H ex,DTs (cxC X M scope C s H ex) ifs ft) (Z:∀ C s H ex,GE (cxC X M scope C s H ex) elt fe) (q:(ts.all fun k=>decide (src[k]?=some none))=true) (L:∀ x,qf7 iter X.env x=pure x:=by intro _;rfl) :
  GE X (.ListComp elt [⟨tg,iter,ifs,0⟩] scope pos) (oQ src fi ts bb ft fe):=PE.mono (oe (g:=gD X.K ts bb) (tt:=tTr X.K ft) (te:=tG X.K fe) S W hi (fun Y C s H ex=>O Y C s H ex) (fun C s H ex=>U C s H ex) (fun C s H ex=>Z C s H ex) L) (vO q)
end
section
variable {K:PySem.W.Frag} {F H F' H' F1 H1:Hp} {ρ ρ' ρ1:Nat->Addr} {ch ch' ch1:CH} {i:Nat} {l:List (Key×CV)} {kvs:List (Key×V)} {ob:Obj}
end
section
variable {X:Cx} {tg d:Expr} {body:List Stmt} {fd:Fg} {g:Fs} {pos:Pos}
end
section
variable {X:Cx} {pos:Pos} {σ:St} {δ:Sl}
end
section
variable {X:Cx} {o:Expr} {fa:Fg} {pos apos cpos:Pos}
end
section
variable {X:Cx} {elt tg iter:Expr} {ifs:List Expr} {scope:Scope} {pos:Pos} {M:List Str} {src:List (Option Nat)} {fi:De->Option (List Dt)} {ft:De->Option Bool} {fe:De->Option Dt} {fg:Fg} {i:Nat}
theorem oR (h:fO sc N i y=true) (hl:j9 sc y=true) (W:N.Nodup) (S:CmpScope X.N X.env.scope scope M src) (hc:X.calm=true) (hi:DIB X tg iter fi) (hg:M.Nodup->∀ C s H ex,DG (cxC X M scope C s H ex) tg ts bb)
 (ht:∀ C s H ex,DTs (cxC X M scope C s H ex) ifs ft) (he:∀ C s H ex,DL (cxC X M scope C s H ex) elt fe) (O:(ts.all fun k=>decide (src[k]?=some none))=true) (hs:∀ x,qf7 iter X.env x=pure x:=by intro _;rfl)
 (e1:cP X sc:=by rfl) (e2:X.N=N:=by rfl) (hf:X.fn y=true∨X.env.scope.names.lookup y=some .local:=by exact .inl rfl) (L:qm6 (.ListComp elt [⟨tg,iter,ifs,0⟩] scope pos) (some (.Name y py)) spos.line X.env=pure true:=by rfl) :
  GS1 X (.Assign [.Name y py] (.ListComp elt [⟨tg,iter,ifs,0⟩] scope pos) spos) (aI i (eD (toD (aW src fi bb ft fe)))):=by
 have e1:X.env.scope=sc:=e1;subst e1 e2;refine PS.mono (rN (g:=gD X.K ts bb) (tt:=tTr X.K ft) (te:=tL X.K fe) W (jf h) (mX hl) hf S hc hi (fun W C s H ex=>hg W C s H ex) (fun C s H ex=>ht C s H ex) (fun C s H ex=>he C s H ex) hs L) fun D σ H ⟨δ,ch,F,ρ,o,en,q,k⟩=>?_
 unfold aI eD at q;obtain ⟨p,hp,Y⟩:=mS q;cases Y;obtain ⟨d,hd,U⟩:=mS hp;cases U;refine na S O σ H _ (vH ⟨_,_,F,.leaf d,rfl,en.en,by unfold toT;rw [hd];rfl,fun v H' F' Z st o hs=>?_⟩);have r:RelC X.K F' ρ ch.length (.dat d) v:=o;exact k _ F' H' ρ (Adv.of en.gh st) ((en.adv (Adv.of en.gh st)).put r i)
end
section
variable {X:Cx}
end
noncomputable def di (sc:Scope) (N:List Str):Bool:=(qb6 N.length).all fun i=>match N[i]? with
 | some x=>fO sc N i x&&j9 sc x
 | none=>false
theorem nsB (h:di sc N=true) (e:N[i]?=some x):fO sc N i x=true/\j9 sc x=true:=by have h1:=qm7.mp h i (qd0.mpr (gX e).1);rw [e] at h1;exact qs4.mp h1
theorem nsN (h:di sc N=true) (i:Nat) (e:N[i]?=some x:=by rfl):fO sc N i x=true:=(nsB h e).1
theorem nsL (h:di sc N=true) (i:Nat) (e:N[i]?=some x:=by rfl):j9 sc x=true:=(nsB h e).2
theorem pvN (i:Nat) (h:di sc N=true) (e:N[i]?=some x:=by rfl) (e1:cP X sc:=by rfl) (e2:X.N=N:=by rfl):PE X (.Name x pos) (li i):=pvD i (nsN h i e) e1 e2
theorem rS:∀ a b:List Nat,ltCps a b=false->ltCps b a=false->a=b
 | [],[],_,_=>rfl
 | [],_::_,h,_=>by simp [ltCps] at h
 | _::_,[],_,h=>by simp [ltCps] at h
 | x::r,y::t,h,h'=>by
  simp only [ltCps,qs5,decide_eq_false_iff_not,qr6,beq_iff_eq] at h h';have e:x=y:=by lia
  subst e;rw [rS r t (h.2 rfl) (h'.2 rfl)]
theorem rT:∀ a b:List Nat,ltCps a b=true->ltCps b a=false
 | [],[],h=>by simp [ltCps] at h
 | [],_::_,_=>rfl
 | _::_,[],h=>by simp [ltCps] at h
 | x::r,y::t,h=>by
  simp only [ltCps,qj4,decide_eq_true_eq,qb4,beq_iff_eq] at h;simp only [ltCps,qs5,decide_eq_false_iff_not,qr6,beq_iff_eq];rcases h with h | ⟨rfl,h⟩
  . exact ⟨by lia,fun e=>by lia⟩
  . exact ⟨by lia,fun _=>rT r t h⟩
theorem l9:∀ a b c:List Nat,ltCps b a=false->ltCps c b=false->ltCps c a=false
 | [],b,c,h1,h2=>by
  cases b with
  | nil=>exact h2
  | cons y t =>
   cases c with
   | nil=>simp [ltCps] at h2
   | cons z u=>rfl
 | x::r,[],c,h1,h2=>by simp [ltCps] at h1
 | x::r,y::t,[],h1,h2=>by simp [ltCps] at h2
 | x::r,y::t,z::u,h1,h2=>by
  simp only [ltCps,qs5,decide_eq_false_iff_not,qr6,beq_iff_eq] at h1 h2 ⊢;refine ⟨by lia,fun e=>?_⟩;subst e;have e:y=z:=by lia
  subst e;exact l9 r t u (h1.2 rfl) (h2.2 rfl)
noncomputable def leS (a b:Str):Bool:=!ltCps b.cps.toList a.cps.toList
theorem leS_iff {a b:Str}:leS a b=true↔ltCps b.cps.toList a.cps.toList=false:=by simp [leS]
theorem md (a b c:Str) (h:leS a b=true) (h':leS b c=true):leS a c=true:=leS_iff.mpr (l9 _ _ _ (leS_iff.mp h) (leS_iff.mp h'))
theorem tJ (a b:Str):(leS a b||leS b a)=true:=by
 cases h:leS a b with
 | true=>rfl
 | false =>
  have h1:ltCps b.cps.toList a.cps.toList=true:=by simpa [leS] using h
  simp [leS_iff.mpr (rT _ _ h1)]
theorem oS {a b:Str} (h:leS a b=true) (h':leS b a=true):a=b:=by
 have e:=rS _ _ (leS_iff.mp h') (leS_iff.mp h);cases a with
 | mk a=>cases b with
  | mk b=>simp only at e;rw [Array.toList_inj.mp e]
noncomputable def aZ (ss:List Str):List Str:=ss.mergeSort leS
theorem cA (ss:List Str):(aZ ss).Perm ss:=List.mergeSort_perm ss leS
theorem gI (ss:List Str):(aZ ss).Pairwise fun a b=>leS a b=true:=qx7 md tJ ss
theorem me:∀ (p:Str) (l:List Str),risingS p l=true->(p::l).Pairwise fun a b=>leS a b=true
 | p,[],_=>by simp
 | p,x::r,h=>by
  simp only [risingS,qb4] at h;have L:=me x r h.2;have h1:leS p x=true:=h.1;refine qg8.mpr ⟨fun y q=>?_,L⟩;rcases qb2.mp q with rfl | q
  . exact h1
  . exact md _ _ _ h1 ((qg8.mp L).1 y q)
theorem mf:∀ l:List Str,sortedS l=true->l.Pairwise fun a b=>leS a b=true
 | [],_=>qr1
 | x::r,h=>me x r h
theorem h9:∀ {a b:List Str},a.Perm b->(a.Pairwise fun a b=>leS a b=true)->(b.Pairwise fun a b=>leS a b=true)->a=b
 | [],_,p,_,_=>p.nil_eq
 | x::r,b,p,L,q=>by
  cases b with
  | nil=>exact absurd p.length_eq (by simp)
  | cons y t =>
   have O:x∈y::t:=p.mem_iff.mp (.head _);have U:y∈x::r:=p.mem_iff.mpr (.head _)
   have e:x=y:=by
    rcases qb2.mp O with h | h
    . exact h
    . rcases qb2.mp U with h' | h'
      . exact h'.symm
      . exact oS ((qg8.mp L).1 y h') ((qg8.mp q).1 x h)
   subst e;rw [h9 (zf2.cons_inv p) (qg8.mp L).2 (qg8.mp q).2]
theorem ku:∀ {ss:List Str} {its:List Value},Vals (ss.map V.str) its->StrsAre its ss
 | [],_,h=>by cases h;exact .nil
 | x::ss,_,h=>by
  cases h with
  | cons h1 h2 =>obtain ⟨t,rfl⟩:=h1;exact .cons x t (ku h2)
theorem mh:∀ {its:List Value} {ss:List Str},StrsAre its ss->Vals (ss.map V.str) its
 | _,_,.nil=>.nil
 | _,_,.cons x t h=>.cons ⟨t,rfl⟩ (mh h)
section
variable {X:Cx}
theorem gb:CallR X (.builtin "sorted") (fun xs H Q=>∃ p ss,xs=[.ref p]/\SqL X.K H p (ss.map V.str)/\ss.length<64/\∀ l,H l=none->Q (.ref l) (upd H l (.lst ((aZ ss).map V.str)))):=by
 intro pins s σ H xs us Q I r h;obtain ⟨p,ss,rfl,hq,hz,q⟩:=h;obtain ⟨u,rfl,Y⟩:=fM r;cases Y;obtain ⟨its,r',pl,hz'⟩:=I.list hq;have hS:=ku r';have U:its.length=ss.length:=by have:=r'.length;simpa using this.symm
 refine sorted_strs pl.isList hS (by lia) fun O L W a2 a3=>?_
 have e:L=aZ ss:=h9 (a2.trans (cA ss).symm) (mf L a3) (gI ss);subst e;obtain ⟨c,Z⟩:=sortedAll_at s.heap its O;refine ⟨.ref (s.heap.objs.size+1),_,I.laid (t':=s.toks) (fun _ _=>sortedAll_old) (qk9 _) (show ObjOk X.prog X.w _ _ _ (.lst ((aZ ss).map V.str)) from ⟨?_,O.toList,c,mh W,Z⟩),rfl,q _ (I.hok.fresh (qk9 _))⟩;rw [qa2,(cA ss).length_eq];exact qc7 (qh8 hz) (by decide)
noncomputable def dn:List Dt->Option T
 | [.lst ds]=>(f8 ds).bind fun ss=>if ss.length<64 then some (.lst ((aZ ss).map .str)) else none
 | _=>none
theorem ji {F:Hp}:∀ ss:List Str,Reps K F (ss.map .str) (ss.map V.str)
 | []=>by simp only [qm3,Reps]
 | x::ss=>by simp only [qa3,Reps];exact ⟨_,_,rfl,by simp only [Rep],ji ss⟩
theorem kw:CRD K (fun xs H Q=>∃ p ss,xs=[.ref p]/\SqL K H p (ss.map V.str)/\ss.length<64/\∀ l,H l=none->Q (.ref l) (upd H l (.lst ((aZ ss).map V.str)))) dn:=by
 intro F H ds vs Q t W r q k;unfold dn at q;split at q<;>first | (cases q;done) | skip
 obtain ⟨ss,O,q⟩:=bS q;split at q<;>cases q
 rename_i U;obtain ⟨v,rfl,L⟩:=dw r;obtain ⟨a,vs,rfl,h1,h2⟩:=L;have:=hJ h2 O;subst this;exact ⟨a,ss,rfl,h1,U,fun p hp=>g9 k W (ji _) hp⟩
end
section
variable {prog:qc4} {w:World} {A:qd9} {E:Value->qa4->Prop} {s:qa4} {d it:Addr} {ks:List Value} {i ep:Nat}
end
section
variable {K:PySem.W.Frag} {F H:Hp} {ρ:Nat->Addr} {ch:CH}
end
section
variable {X:Cx} {tg:Expr}
end
section
variable {K:PySem.W.Frag} {F H F' H' F1 H1:Hp} {ρ ρ' ρ1:Nat->Addr} {ch ch' ch1:CH} {i:Nat} {l:List (List Key×CV)} {kvs:List (List Key×V)} {ob:Obj}
end
section
variable {X:Cx} {tg d:Expr} {body:List Stmt} {fd:Fg} {g:Fs} {pos:Pos}
end
section
variable {X:Cx} {e a b o value:Expr} {es:List Expr} {f fa fb fc fe fk:Fg} {fs:Fgs} {pos apos cpos tpos p:Pos} {sc:Scope} {x:Str} {K:PySem.W.Frag}
end
noncomputable def tupC (ch:CH):CV->Option (List CV)
 | .dat (.tup ds)=>some (ds.map .dat)
 | .ref i=>match ch[i]? with
  | some (.tup l)=>some l
  | _=>none
 | _=>none
section
variable {K:PySem.W.Frag} {F H:Hp} {ρ:Nat->Addr} {ch:CH} {c:CV} {v:V}
end
variable {m:Nat}
section
variable {X:Cx} {e a b o iter tg:Expr} {es:List Expr} {body:List Stmt} {g:Fs} {f fa fb fc fe fk:Fg} {fs:Fgs} {pos apos cpos tpos p:Pos} {sc:Scope} {x:Str} {K:PySem.W.Frag}
abbrev Fb:=CV->CH->Sl->Option Sl
noncomputable def tGG (K:PySem.W.Frag) (b:Fb):TG:=fun v σ H Q=>∃ δ ch F ρ c δ',Ge K δ ch σ F H ρ/\RelC K F ρ ch.length c v/\b c ch δ=some δ'/\∀ σ',Ge K δ' ch σ' F H ρ->Q σ' H
noncomputable def GG (X:Cx) (tg:Expr) (b:Fb):Prop:=PG X tg (tGG X.K b)
noncomputable def ggN (i:Nat):Fb:=fun c _ δ=>some (δ.set i (some c))
theorem yk (h:PG X tg (jq i)):GG X tg (ggN i):=PG.mono h fun v σ H Q ⟨δ,ch,F,ρ,c,δ',en,r,q,k⟩=>by cases q;exact k _ (en.put r i)
noncomputable def lstC (ch:CH):CV->Option (List CV)
 | .dat (.lst ds)=>some (ds.map .dat)
 | .ref i=>match ch[i]? with
  | some (.lst l)=>some l
  | _=>none
 | _=>none
noncomputable def gJ (i:Nat) (b:Fb) (g:Fs):Nat->Nat->Sl->CH->Option Og
 | 0,_,_,_=>none
 | n+1,k,δ,ch=>match ch[i]? with
  | some (.lst l)=>match l[k]? with
   | none=>some (.nx δ ch)
   | some c=>(b c ch δ).bind fun δ1=>(g δ1 ch).bind fun o=>match o with
    | .nx q ch2=>gJ i b g n (k+1) q ch2
    | .ct q ch2=>gJ i b g n (k+1) q ch2
    | .bk q ch2=>some (.nx q ch2)
    | .rt c ch2=>some (.rt c ch2)
  | _=>none
noncomputable def nn (fd:Fg) (b:Fb) (g:Fs) (n:Nat):Fs:=fun δ ch=>(fd δ ch).bind fun p=>match p.1 with
 | .ref i=>gJ i b g n 0 δ p.2
 | _=>none
theorem yl {b:Fb} (n:Nat) (hp:qw0 (model X.prog X.w) X.A X.env X.xe) (hc:X.calm=true) (hd:GE X iter fa) (hg:GG X tg b) (hb:GS X body g)
  (hs:∀ x,qf7 iter X.env x=pure x:=by intro _;rfl):GS1 X (.For tg iter body [] pos) (nn fa b g n):=PS.mono (pV hp hc (mM hd) hg hb hs) fun D σ H ⟨δ,ch,F,ρ,og,en,hgg,k⟩=>by
 unfold nn at hgg;obtain ⟨⟨c1,ch1⟩,hpp,L⟩:=bS hgg;clear hgg;dsimp only at L;split at L<;>first | (cases L;done) | skip
 rename_i i;rw [mW];refine ⟨δ,ch,F,ρ,_,ch1,en,hpp,fun v F1 H1 ρ1 a1 r1=>?_⟩;obtain ⟨hi,rfl⟩:=r1;have en1:=en.adv a1;have k1:=k.adv en.gh a1;refine ⟨ρ1 i,rfl,?_,?_⟩
 . cases n with
   | zero=>cases L
   | succ n =>
    unfold gJ at L;split at L<;>first | (cases L;done) | skip
    rename_i l hl;obtain ⟨vs,q1,_⟩:=a1.gh.ok i _ hl;exact ⟨vs,SqL.of q1⟩
 refine ⟨fun j m σ' H'=>∃ δ' ch' F' ρ',Adv X.K F1 H1 ρ1 ch1 F' H' ρ' ch'/\Ge X.K δ' ch' σ' F' H' ρ'/\gJ i b g m j δ' ch'=some og,⟨n,δ,ch1,F1,ρ1,Adv.refl a1.gh,en1,L⟩,?_⟩;rintro j m σ' H' ⟨δ',ch',F',ρ',a',en',q⟩;cases m with
 | zero=>cases q
 | succ m =>
  unfold gJ at q;split at q<;>first | (cases q;done) | skip
  rename_i l hl;obtain ⟨vs,q1,q2⟩:=a'.gh.ok i _ hl;rw [a'.ext i hi] at q1;split at q
  . rename_i hj;cases q;refine .inl ⟨⟨vs,SqL.of q1,?_⟩,k1 σ' F' H' ρ' a' en'⟩;rw [q2.length];exact List.getElem?_eq_none_iff.mp hj
  . rename_i c hj;obtain ⟨δ1,z1,hgo1⟩:=bS q;obtain ⟨o1,z2,U⟩:=bS hgo1;clear q hgo1;obtain ⟨v,hv,rv⟩:=q2.get hj;refine .inr ⟨⟨vs,v,SqL.of q1,hv⟩,fun W H2=>∃ δ' ch' F' ρ',Adv X.K F1 H1 ρ1 ch1 F' H2 ρ' ch'/\Ge X.K δ' ch' W F' H2 ρ'/\gJ i b g m (j+1) δ' ch'=some og,fun W H2 z=>⟨m,by lia,z⟩,fun x H'' hy=>?_⟩;obtain ⟨rfl,hy⟩:=hy;have hx:=hy vs (SqL.of q1);rw [hv] at hx;cases hx;refine ⟨δ',ch',F',ρ',c,δ1,en',rv,z1,fun σ1 en2=>⟨δ1,ch',F',ρ',o1,en2,z2,?_⟩⟩;cases o1 with
    | nx Z c2=>exact fun W F3 H3 O a4 Y=>⟨Z,c2,F3,O,a'.trans a1.gh a4,Y,U⟩
    | ct Z c2=>exact fun W F3 H3 O a4 Y=>⟨Z,c2,F3,O,a'.trans a1.gh a4,Y,U⟩
    | bk Z c2=>cases U;exact fun W F3 H3 O a4 Y=>k1 W F3 H3 O (a'.trans a1.gh a4) Y
    | rt c c2=>cases U;exact fun v F3 H3 O a4 r=>k1 v F3 H3 O (a'.trans a1.gh a4) r
noncomputable def cI {α β:Type} (f:α->Option β):List α->Option (List β)
 | []=>some []
 | a::l=>(f a).bind fun b=>(cI f l).map (b::·)
noncomputable def vwD (ch:CH):Nat->CV->Option Dt
 | _,.dat d=>some d
 | _,.fn _ _=>none
 | 0,.ref _=>none
 | n+1,.ref i=>match ch[i]? with
  | some (.lst l)=>(cI (vwD ch n) l).map .lst
  | some (.tup l)=>(cI (vwD ch n) l).map .tup
  | some (.dK l)=>(cI (vwD ch n) (l.map (·.2))).map (.dct (l.map (·.1)))
  | some (.dT l)=>(cI (vwD ch n) (l.map (·.2))).map (.dcT (l.map (·.1)))
  | _=>none
theorem dB {F:Hp} {f:CV->Option Dt} (q:∀ c v d,RelC K F ρ m c v->f c=some d->Rep K H d v):∀ {l:List CV} {ds:List Dt} {vs:List V},RelCs K F ρ m l vs->cI f l=some ds->Reps K H ds vs
 | [],ds,vs,r,h=>by cases h;simp only [Reps];exact r
 | c::l,ds,vs,r,h=>by simp only [cI] at h;obtain ⟨d,W,h⟩:=bS h;obtain ⟨es,Y,rfl⟩:=mS h;obtain ⟨v,U,rfl,O,L⟩:=r;simp only [Reps];exact ⟨v,U,rfl,q c v d O W,dB q L Y⟩
theorem iW {F:Hp} (q:Gh K F H ρ ch):∀ (n:Nat) (c:CV) (v:V) (d:Dt),RelC K F ρ ch.length c v->vwD ch n c=some d->Rep K H d v
 | 0,.dat d',v,d,r,h=>by simp only [vwD] at h;cases h;exact Rep.same q.fh r
 | n+1,.dat d',v,d,r,h=>by simp only [vwD] at h;cases h;exact Rep.same q.fh r
 | 0,.fn _ _,v,d,r,h=>by simp only [vwD] at h;cases h
 | n+1,.fn _ _,v,d,r,h=>by simp only [vwD] at h;cases h
 | 0,.ref i,v,d,r,h=>by simp only [vwD] at h;cases h
 | n+1,.ref i,v,d,r,h=>by
  obtain ⟨hi,rfl⟩:=r;simp only [vwD] at h;have U:=iW q n;split at h
  . rename_i l L;obtain ⟨ds,O,rfl⟩:=mS h;obtain ⟨vs,h1,h2⟩:=q.ok i _ L;simp only [Rep];exact ⟨_,vs,rfl,SqL.of h1,dB U h2 O⟩
  . rename_i l L;obtain ⟨ds,O,rfl⟩:=mS h;obtain ⟨vs,h1,h2⟩:=q.ok i _ L;simp only [Rep];exact ⟨_,vs,rfl,SqT.of h1,dB U h2 O⟩
  . rename_i l L;obtain ⟨ds,O,rfl⟩:=mS h;obtain ⟨vs,h1,h2,h3⟩:=q.ok i _ L;simp only [Rep];exact ⟨_,vs,rfl,.inl h1,h2,dB U h3 O⟩
  . rename_i l L;obtain ⟨ds,O,rfl⟩:=mS h;obtain ⟨vs,h1,h2,h3⟩:=q.ok i _ L;simp only [Rep];exact ⟨_,vs,rfl,.inl h1,h2,dB U h3 O⟩
  . cases h
theorem oT {α β:Type} {f:α->Option β}:∀ {l:List α} {m:List β},cI f l=some m->m.length=l.length
 | [],m,h=>by cases h;rfl
 | a::l,m,h=>by simp only [cI] at h;obtain ⟨d,L,h⟩:=bS h;obtain ⟨es,q,rfl⟩:=mS h;simp [oT q]
noncomputable def jG (m:Nat) (ff:List Dt->Option T) (fs:Fgs):Fg:=fun δ ch=>(fs δ ch).bind fun p=>(cI (vwD p.2 m) p.1).bind fun ds=>(ff ds).bind fun u=>(iQ u).bind (al p.2)
theorem mi (m:Nat) {k:Nat} (h:aH sc x=true) (F:OkF X.prog X.w X.K X.mg X.base x k ps (spD X.K n ff)) (W:Room k X.A) (ha:GA X (e::es) fs) (hn:∀ δ ch p,fs δ ch=some p->p.1.length=n) (e1:cP X sc:=by rfl)
 (he:qa6 (e::es) X.env=(false,eval e X.env)::qa6 es X.env:=by rfl) (O:(qh9 pos (qa6 es X.env)).any (·.1)=false:=by rfl):GE X (.Call (.Name x p) (e::es) [] pos) (jG m ff fs):=
 PE.mono (g8 h F W ha e1 he O) fun σ H Q ⟨δ,ch,Y,ρ,c,ch',en,q,k⟩=>by unfold jG at q;obtain ⟨p,hp,q⟩:=bS q;obtain ⟨ds,U,q⟩:=bS q;obtain ⟨u,Z,q⟩:=bS q;obtain ⟨t,ht,q⟩:=bS q;refine ⟨δ,ch,Y,ρ,p.1,p.2,en,hp,fun vs F1 H1 ρ1 L r1=>?_⟩;show spD X.K n ff (vs++[]) H1 Q E0;rw [qf4];exact ⟨H1,ds,u,Same.refl _,(oT U).trans (hn δ ch p hp),dB (iW L.gh m) r1 U,Z,iR L.gh.fh ht (l6 L.gh q (k.adv en.gh L))⟩
noncomputable def e2D (m:Nat) (g:Dt->Dt->Option T) (fa fb:Fg):Fg:=fun δ ch=>(fa δ ch).bind fun p=>(fb δ p.2).bind fun q=>(vwD q.2 m p.1).bind fun x=>(vwD q.2 m q.1).bind fun y=>(g x y).bind fun u=>(iQ u).bind (al q.2)
theorem vP {g:Dt->Dt->Option T} (Z:R2D K r g) (h:tG K (e2D m g fa fb) σ H Q):tOp r (tG K fa) (tG K fb) σ H Q:=by obtain ⟨δ,ch,F,ρ,c,ch',en,L,k⟩:=h;unfold e2D at L;obtain ⟨p,hp,L⟩:=bS L;obtain ⟨q,hq,L⟩:=bS L;obtain ⟨x,Y,L⟩:=bS L;obtain ⟨y,hy,L⟩:=bS L;obtain ⟨u,hu,L⟩:=bS L;obtain ⟨t,ht,L⟩:=bS L;refine ⟨δ,ch,F,ρ,p.1,p.2,en,hp,fun v F1 H1 ρ1 U r1=>⟨δ,p.2,F1,ρ1,q.1,q.2,en.adv U,hq,fun w F2 H2 ρ2 O W=>?_⟩⟩;exact Z H2 H2 x y v w Q u (Same.refl _) (RepB.of (Same.refl _) (iW O.gh m _ _ _ (r1.mono O.old O.ext O.len) Y)) (RepB.of (Same.refl _) (iW O.gh m _ _ _ W hy)) hu (iR O.gh.fh ht (l6 O.gh L (k.adv en.gh (U.trans en.gh O))))
theorem np (m:Nat) {q:CmpOp} {g:Dt->Dt->Option T} (L:OpR X (qe6 q) r) (U:R2D X.K r g) (O:GE X a fa) (W:GE X b fb) (Y:qf9 q b=false):GT X (.Compare a [q] [b] pos) (jg (e2D m g fa fb)):=PT.mono (jM L O W Y) fun _ _ _ h=>vP U (yi h)
theorem ym (m:Nat) {q:CmpOp} {g:Dt->Dt->Option T} (L:OpR X (qe6 q) r) (U:R2D X.K r g) (O:GE X a fa) (W:GE X b fb) (Y:qf9 q b=false):GE X (.Compare a [q] [b] pos) (e2D m g fa fb):=PE.mono (jL L O W Y) fun _ _ _ h=>vP U h
end
set_option maxRecDepth 20000
noncomputable def zF (i j:Int):Prop:=0<j/\j<18446744073709551616
theorem aU:OpR X (ql1 .FloorDiv) (rI zF fun i j=>.int (i/j)):=opI fun i j _ _ _ _ _ L q=>by
 have h1:(0:Int)<j:=L.1;have h2:j<18446744073709551616:=L.2;refine floordiv_int (by lia) (by rw [Int.fdiv_eq_ediv_of_nonneg i (by lia)];exact q) (.inl (PyProof.noPylong_of_log2 ?_));have h3:j.natAbs≠0:=by lia
 exact za3 ((Nat.log2_lt h3).mpr (show j.natAbs<2^64 by lia)) (by decide)
noncomputable def bh:Dt->Dt->Option T
 | .int i,.int j=>if 0<j/\j<18446744073709551616 then some (.leaf (.int (i/j))) else none
 | _,_=>none
theorem bH:R2D K (rI zF fun i j=>.int (i/j)) bh:=by
 intro F H x y Y Z Q t U L W q k;unfold bh at q;split at q<;>first | (cases q;done) | skip
 split at q
 . rename_i O;cases q;cases L;cases W;exact ⟨_,_,rfl,rfl,O,k.int U⟩
 . cases q
section
variable {K:PySem.W.Frag} {F:Hp} {ρ:Nat->Addr} {n:Nat}
theorem RelCs.drop:∀ {l:List CV} {vs:List V} (i:Nat),RelCs K F ρ n l vs->RelCs K F ρ n (l.drop i) (vs.drop i)
 | l,vs,0,h=>h
 | [],vs,i+1,h=>by cases (show vs=[] from h);exact rfl
 | c::l,vs,i+1,h=>by obtain ⟨v,q,rfl,_,r⟩:=h;exact RelCs.drop i r
theorem RelCs.take:∀ {l:List CV} {vs:List V} (i:Nat),RelCs K F ρ n l vs->RelCs K F ρ n (l.take i) (vs.take i)
 | l,vs,0,h=>by rw [List.take_zero,List.take_zero];exact rfl
 | [],vs,i+1,h=>by cases (show vs=[] from h);exact rfl
 | c::l,vs,i+1,h=>by obtain ⟨v,q,rfl,L,r⟩:=h;exact ⟨v,q.take i,rfl,L,RelCs.take i r⟩
end
section
variable {X:Cx} {e a b o iter tg:Expr} {es:List Expr} {body:List Stmt} {g:Fs} {f fa fb fc fe fk:Fg} {fs:Fgs} {pos apos cpos tpos p:Pos} {sc:Scope} {x:Str} {K:PySem.W.Frag}
end
noncomputable def yn (lo st:Int) (n:Nat):It:=⟨fun i _=>i<n,fun i H x H'=>H'=H/\x=.int (lo+i*st),fun i _=>n<=i⟩
theorem oU {w:World} (it:Addr) (lo st:Int) (n:Nat):Turn P w K tg (yn lo st n) [it] it (fun i h=>zb8 h it (lo+(i:Nat)*st) ((n:Int)-(i:Nat)) st) where
 mem:=by simp
 obj:=fun i h q b L=>by
  have e:b=it:=by simpa using L
  subst e
  exact ⟨_,q,fun v z=>by have z':Data.fields _=Data.cell v:=z;cases z'⟩
 keep:=fun i h h' q k=>k it (by simp) _ q
 item:=by
  intro X Z hw hK hc i pins s σ H E I O q hg;subst Z hw hK;obtain ⟨f0,f1,f2,f3,U,Y⟩:=O it (by simp);have W:=Walks.range (prog:=X.prog) (w:=X.w) (I.ok.hd hc) it lo st n;refine W.item i s _ _ hg q fun v h' tk hv q' kk=>?_
  obtain ⟨t,rfl⟩:=hv;have I1:Inv X pins σ H {s with heap:=h',toks:=tk}:=I.turned (fun b o L e=>kk b o (by simpa using L) e) f0 f1 f3 U Y;exact ⟨_,rfl,lA (s:={s with heap:=h',toks:=tk}) (n:="range_iterator") q' rfl rfl (by decide) ⟨.int (lo+i*st),H,I1,⟨t,rfl⟩,⟨rfl,rfl⟩,q',fun b L=>(O b L).1⟩⟩
 done:=by intro X Z hw hK hc i pins s σ H E I O q hg;subst Z hw hK;obtain ⟨f0,f1,f2,f3,U,Y⟩:=O it (by simp);exact qy8 (I.ok.hd hc) q (by have:n<=i:=hg;lia) fun h' eb=>⟨rfl,I.turned (t':=s.toks) (fun b o L e=>eb b o L e) f0 f1 f3 U Y⟩
 self:=fun _ _ _ _ _ q h=>qy9 q h
noncomputable def vQ (a b c:Int):Bool:=decide (-1000000<=a)&&decide (a<=1000000)&&decide (-1000000<=b)&&decide (b<=1000000)&&decide (-1000000<=c)&&decide (c<=1000000)&&decide (c≠0)
structure R3 (a b c:Int):Prop where
 a0:-1000000<=a
 a1:a<=1000000
 b0:-1000000<=b
 b1:b<=1000000
 c0:-1000000<=c
 c1:c<=1000000
 c:c≠0
theorem CM {a b c:Int} (h:vQ a b c=true):R3 a b c:=by unfold vQ at h;simp only [qb4,decide_eq_true_eq] at h;obtain ⟨⟨⟨⟨⟨⟨h1,h2⟩,h3⟩,L⟩,O⟩,q⟩,U⟩:=h;exact ⟨h1,h2,h3,L,O,q,U⟩
theorem R3.size {a b c:Int} (h:R3 a b c):0<=qc6 a b c/\qc6 a b c<=2000001:=by
 obtain ⟨h1,h2,h3,U,W,O,Y⟩:=h;unfold qc6;split
 . rename_i L;split
   . have q:0<=(b-a-1)/c:=Int.ediv_nonneg (by lia) (by lia);have e2:(b-a-1)/c<=b-a-1:=Int.ediv_le_self _ (by lia);lia
   . lia
 . split
   . have q:0<=(a-b-1) / -c:=Int.ediv_nonneg (by lia) (by lia);have e2:(a-b-1) / -c<=a-b-1:=Int.ediv_le_self _ (by lia);lia
   . lia
theorem fits {a:Int} (q:-9000000<=a) (h1:a<=9000000):qt6 a=true:=by unfold qt6;simp;lia
theorem R3.small {a b c:Int} (h:R3 a b c):qj1.Range.small a b c=true:=by
 have q:=h.size;obtain ⟨h1,h2,h3,O,U,L,W⟩:=h;unfold qj1.Range.small;rw [fits (a:=a) (by lia) (by lia),fits (a:=b) (by lia) (by lia),fits (a:=c) (by lia) (by lia),fits (a:=qc6 a b c) (by lia) (by lia)];simp only [qx6,qp9,qj4];right;split
 . exact fits (by lia) (by lia)
 . exact fits (by lia) (by lia)
section
variable {X:Cx} {tg:Expr}
theorem tK {R:It->Hp->Prop} {a b c:Int} {t u v:Tok} {tk:Nat} (I:Inv X pins σ H s) (h:R3 a b c)
 (q:R (yn a c (qc6 a b c).toNat) H):wpAny (model X.prog X.w) X.A (ze9 (.ref s.heap.objs.size)) (PIE X pins σ tg R) E {s with heap:=s.heap.push {cls:=.type "range",data:=.fields #[.int a t,.int b u,.int c v]},toks:=tk}:=by
 refine wpAny_pyIter_range (IsRange.new ..) h.small ?_;have L:Inv X pins σ H {s with heap:=s.heap.push {cls:=.type "range",data:=.fields #[.int a t,.int b u,.int c v]},toks:=tk}:=I.kept fun b o e=>gP _ e
 refine ⟨(s.heap.push {cls:=.type "range",data:=.fields #[.int a t,.int b u,.int c v]}).objs.size,[(s.heap.push {cls:=.type "range",data:=.fields #[.int a t,.int b u,.int c v]}).objs.size],_,_,H,rfl,L.kept (t':=tk) fun b o e=>gP _ e,oU _ a c (qc6 a b c).toNat,?_,fun bb O=>?_,q⟩
 . have U:a+((0:Nat):Int)*c=a:=by simp
   have e2:(((qc6 a b c).toNat:Nat):Int)-((0:Nat):Int)=qc6 a b c:=by have:=h.size;lia
   show zb8 _ _ (a+((0:Nat):Int)*c) ((((qc6 a b c).toNat:Nat):Int)-((0:Nat):Int)) c;rw [U,e2];exact qb3 _ rfl
 . have e:bb=(s.heap.push {cls:=.type "range",data:=.fields #[.int a t,.int b u,.int c v]}).objs.size:=by simpa using O
   subst e;exact L.fpOk (nL _) (L.hok.fresh (nL _))
noncomputable def CN (ta:TA):TI:=fun σ H R=>ta σ H fun vs H1=>∃ a b c:Int,vs=[.int a,.int b,.int c]/\R3 a b c/\R (yn a c (qc6 a b c).toNat) H1
theorem tM {a b c:Expr} {p:Pos} (hg:Gl X "range") (hm:X.mg "range"=none) (ha:PA X [a,b,c] ta) (Z:qa6 [a,b,c] X.env=[(false,eval a X.env),(false,eval b X.env),(false,eval c X.env)]:=by rfl) (O:qa6 [b,c] X.env=[(false,eval b X.env),(false,eval c X.env)]:=by rfl) :
  PI X tg (.Call (.Name "range" p) [a,b,c] [] pos) (CN ta):=by
 intro pins s σ H R I h;refine Call_ (i9 I hg hm boot_range (qj0 (thn (ha pos pins s σ H _ I h) fun us s1 ⟨vs,H1,Y,r1,q1⟩=>?_) (by rw [Z,O]) (by rw [O];rfl)));obtain ⟨i,j,k,e,U,q⟩:=q1;subst e;cases r1 with
 | cons r L =>
  cases L with
  | cons r' L =>
   cases L with
   | cons W L =>cases L;obtain ⟨t,rfl⟩:=r;obtain ⟨t',rfl⟩:=r';obtain ⟨t'',rfl⟩:=W;refine call_range_3 U.c (tK Y U q) (.inl (PyProof.noPylong_small ?_));have:=U.c0;have:=U.c1;lia
noncomputable def iX (lo st:Int) (n:Nat):List V:=(qb6 n).map fun (i:Nat)=>V.int (lo+i*st)
theorem plain_rangeS {lo st:Int}:Plain (yn lo st n) (iX lo st n) (fun _=>True):=fun i H h=>by
 refine ⟨fun hi=>?_,fun e=>?_,fun x H' hi y=>?_⟩
 . show i<n;simpa [iX] using hi
 . show n<=i;simp [iX] at e;lia
 . obtain ⟨e,rfl⟩:=y;refine ⟨e,?_⟩;unfold iX at hi ⊢;rw [qa2,qh3] at hi;rw [qb1,qt4 hi];rfl
noncomputable def qr (lo st:Int) (n:Nat):List Dt:=(qb6 n).map fun (i:Nat)=>.int (lo+i*st)
theorem oV {F:Hp} (lo st:Int) (n:Nat):Reps K F (qr lo st n) (iX lo st n):=Reps.map (fun _=>iJ) _
noncomputable def tN:List Dt->Option (List Dt)
 | [.int a,.int b,.int c]=>if vQ a b c then some (qr a c (qc6 a b c).toNat) else none
 | _=>none
variable {p pos:Pos} {sc:Scope} {x y z:Expr} {fs:De->Option (List Dt)}
theorem tP (h:aH sc "range"=true) (Y:X.mg "range"=none) (Z:DA X [x,y,z] fs) (e1:cP X sc:=by rfl) (U:qa6 [x,y,z] X.env=[(false,eval x X.env),(false,eval y X.env),(false,eval z X.env)]:=by rfl) (L:qa6 [y,z] X.env=[(false,eval y X.env),(false,eval z X.env)]:=by rfl) :
  DIF X tg (.Call (.Name "range" p) [x,y,z] [] pos) (cZ tN fs):=
 PI.mono (tM (glD h e1) Y Z.pa U L) fun σ H R ⟨Φ,δ,F,ds,hK,en,q,k⟩=>by
  unfold cZ at q;obtain ⟨as,O,q⟩:=bS q;refine ⟨Φ,δ,F,as,hK,en,O,fun vs H' F' st r=>?_⟩;unfold tN at q;split at q
  . rename_i i j l;split at q
    . rename_i hj;cases q;simp only [Reps,Rep] at r;obtain ⟨v,ws,rfl,rfl,w,us,rfl,rfl,w',W,rfl,rfl,rfl⟩:=r;exact ⟨i,j,l,rfl,CM hj,k _ _ H' F' st (plain_rangeS.walk (oV _ _ _)) fun _ _=>trivial⟩
    . cases q
  . cases q
end
section
variable {X:Cx} {pins:List (Addr×Obj)} {σ:St} {H:Hp} {s:qa4} {a b:Addr} {v:V} {r:Value} {A:qd9} {E:Value->qa4->Prop}
end
section
variable {X:Cx} {o i e value:Expr} {pos pos' tpos:Pos} {td ty tv:TE} {fa fk fe:Fg}
end
section
variable {X:Cx} {es:List Expr} {pos:Pos}
end
section
variable {X:Cx} {e a b o iter tg:Expr} {es:List Expr} {body:List Stmt} {g:Fs} {f fa fb fc fe fk:Fg} {fs:Fgs} {pos apos cpos tpos p:Pos} {sc:Scope} {x:Str} {K:PySem.W.Frag}
end
noncomputable def Rs (xs:Array Nat):Prop:=xs.toList.Pairwise (· < ·)
variable {xs:Array Nat}
theorem Rs.lt (h:Rs xs) {k:Nat} (hi:i<k) (q:k<xs.size):xs[i]<xs[k]:=by have:=qv4.mp h i k (by simp;lia) (by simpa using q) hi;simpa using this
noncomputable def Cut (xs:Array Nat) (j p:Nat):Prop:=p<=xs.size/\(∀ i (q:i<xs.size),i<p->xs[i]<j)/\∀ i (q:i<xs.size),p<=i->j<=xs[i]
theorem qu (h:Rs xs):∀ n lo hi,hi<=xs.size->lo<=hi->hi-lo<=n->(∀ i (q:i<xs.size),i<lo->xs[i]<j)->(∀ i (q:i<xs.size),hi<=i->j<=xs[i])->Cut xs j (qf0.go xs j n lo hi)
 | 0,lo,hi,h1,h2,h3,L,O=>by
  have e:lo=hi:=by lia
  subst e;exact ⟨h1,L,O⟩
 | n+1,lo,hi,h1,h2,h3,L,O=>by
  rw [qf0.go];by_cases c:lo<hi
  . rw [if_pos c];have W:(lo+hi)/2<xs.size:=by lia
    dsimp only;rw [Array.getD_eq_getD_getElem?,qi3 W,Option.getD_some];by_cases d:xs[(lo+hi)/2]<j
    . rw [if_pos d];refine qu h n _ hi h1 (by lia) (by lia) (fun i q U=>?_) O;by_cases e:i=(lo+hi)/2
      . subst e;exact d
      . exact za3 (h.lt (by lia:i<(lo+hi)/2) W) d
    . rw [if_neg d];refine qu h n lo _ (by lia) (by lia) (by lia) L fun i q U=>?_
      by_cases e:i=(lo+hi)/2
      . subst e;lia
      . have:=h.lt (by lia:(lo+hi)/2<i) q;lia
  . rw [if_neg c];have e:lo=hi:=by lia
    subst e;exact ⟨h1,L,O⟩
theorem jj (h:Rs xs) (j:Nat):Cut xs j (qf0 xs j):=qu h _ _ _ (nL _) (qj2 _) (nL _) (fun i _ z=>absurd z (qh5 _)) fun i q z=>absurd q (qm1.mpr z)
theorem Cut.uniq {p q:Nat} (a:Cut xs j p) (b:Cut xs j q):p=q:=by
 obtain ⟨Y,O,U⟩:=a;obtain ⟨Z,W,L⟩:=b;rcases Nat.lt_trichotomy p q with h | h | h
 . have x:=W p (by lia) h;have y:=U p (by lia) (nL _);lia
 . exact h
 . have x:=O q (by lia) h;have y:=L q (by lia) (nL _);lia
theorem oW (h:Rs xs):qf0 xs 0=0:=(jj h 0).uniq ⟨qj2 _,fun i _ z=>absurd z (qh5 _),fun _ _ _=>qj2 _⟩
theorem qv (h:Rs xs) (hi:i<xs.size):qf0 xs (xs[i]+1)=i+1:=(jj h _).uniq ⟨hi,fun k q L=>by
 by_cases e:k=i
 . subst e;lia
 . exact qg7 (h.lt (by lia:k<i) hi),fun k q L=>h.lt L q⟩
theorem vR {α:Type} (xs:Array α) (p:Nat) (x:α):(qw7 xs p x).toList=xs.toList.take p++x::xs.toList.drop p:=by simp only [qw7,Array.toList_append,qw8,Array.toList_extract,qh4,za6];simp;rw [qz4 (by simp)]
theorem A6 (h:Rs xs) (hj:xs[qf0 xs j]?≠some j):Rs (qw7 xs (qf0 xs j) j):=by
 obtain ⟨c1,Z,W⟩:=jj h j;generalize qf0 xs j=p at*
 have Y:∀ a∈xs.toList.take p,a<j:=fun a L=>by
  obtain ⟨i,hi,rfl⟩:=List.mem_iff_getElem.mp L;have q:i<p/\i<xs.size:=by simp at hi;lia
  simpa using Z i q.2 q.1
 have U:∀ a∈xs.toList.drop p,j<a:=fun a L=>by
  obtain ⟨i,hi,rfl⟩:=List.mem_iff_getElem.mp L;have q:p+i<xs.size:=by simp at hi;lia
  have:=W (p+i) q (by lia)
  have hne:xs[p+i]≠j:=fun e=>by
   by_cases z:i=0
   . subst z;exact hj (by rw [qi3 (by simpa using q)];simpa using e)
   . have y:=W p (by lia) (nL _);have w:=h.lt (by lia:p<p+i) q;lia
  simp;lia
 unfold Rs;rw [vR,List.pairwise_append];refine ⟨h.sublist (List.take_sublist _ _),qg8.mpr ⟨U,h.sublist (List.drop_sublist _ _)⟩,fun a L b O=>?_⟩;rcases qb2.mp O with rfl | O
 . exact Y a L
 . exact za3 (Y a L) (U b O)
noncomputable def Fre (t:qf1) (j:Nat):Prop:=t.place[qf0 t.place j]?≠some j
theorem oX {t:qf1} (h:∀ i,t.slot j≠.live i):Fre t j:=fun z=>by refine h (qf0 t.place j) ?_;unfold qf1.slot;dsimp only;rw [if_pos (by rw [z];simp)]
theorem mj (t:qf1) (p:qf1.Probe):(t.advance p).dummy=p.dummy:=by unfold qf1.advance;split<;>rfl
theorem jk {t:qf1} {g:Nat->Int} {h:Int}:∀ n p,(∀ d,p.dummy=some d->Fre t d)->∀ j d,qf1.probe.go t g h n p=some (.empty j d)->Fre t j/\∀ k,d=some k->Fre t k
 | 0,p,hp,j,d,e=>by cases e
 | n+1,p,hp,j,d,e=>by
  rw [qf1.probe.go] at e;split at e
  . rename_i L;cases e;exact ⟨oX fun i z=>(by rw [L] at z;cases z),hp⟩
  . rename_i L;refine jk n _ (fun k q=>?_) j d e;rw [mj] at q;cases q;exact oX fun i z=>by rw [L] at z;cases z
  . split at e
    . cases e
    . exact jk n _ (fun k q=>hp k (by rw [mj] at q;exact q)) j d e
theorem vS {t:qf1} {h:Int} (e:t.freeSlot h=some (j,b)):Fre t j:=by
 unfold qf1.freeSlot at e;split at e
 . rename_i k d q;obtain ⟨h1,h2⟩:=jk _ _ (fun d z=>by cases z) k d q;cases e;cases d with
   | none=>exact h1
   | some x=>exact h2 x rfl
 . cases e
theorem iY (n:Nat):Rs (Array.range n):=by unfold Rs;rw [Array.toList_range];exact qz5
theorem qw {t:qf1} (n:Nat) (h:Rs t.place):Rs (t.orStandIn n).place:=by
 unfold qf1.orStandIn;split
 . exact h
 . exact iY n
theorem tQ {t:qf1} (h:Rs t.place) (es:Array (Int×Value)) (k:Int) (x:Value):Rs (layNew t es k x).2.1.place:=by
 unfold layNew;split
 . rename_i j b e;exact qw _ (A6 h (vS e))
 . exact iY _
theorem vT (t:qf1) (es:Array (Int×Value)) (n:Nat):Rs (qx8 t es n).2.1.place:=by
 unfold qx8;split
 . rename_i t' L e;dsimp only;split
   . unfold qf1.relaid qf1.laid at e;simp only [Option.bind_eq_bind,qp3,qq3] at e;obtain ⟨_,_,e⟩:=e;cases e;unfold Rs;dsimp only;rw [qr3,List.pairwise_filterMap];refine qw9 (fun {a b} q x O y U=>?_) qz5;obtain ⟨_,_,rfl⟩:=mS O;obtain ⟨_,_,rfl⟩:=mS U;exact q
   . exact iY _
 . exact iY _
theorem qx (t:qf1) (es:Array (Int×Value)) (h:Int) (x:Value):(layNew t es h x).2.1.led=t.led:=by
 unfold layNew;split
 . dsimp only;unfold qf1.orStandIn;split<;>rfl
 . rfl
theorem tR (t:qf1) (es:Array (Int×Value)) (n:Nat):(qx8 t es n).2.1.led=t.led:=by
 unfold qx8;split
 . rename_i t' q e;dsimp only;split
   . unfold qf1.relaid qf1.laid at e;simp only [Option.bind_eq_bind,qp3,qq3] at e;obtain ⟨_,_,e⟩:=e;cases e;rfl
   . rfl
 . rfl
structure SK (P:qc4) (u:World) (K:Type) [DecidableEq K] where
 knd:PySem.KeyKind P u K
 put:K->Tok->Value
 of:Value->K
 is:∀ k t,knd.is k (put k t)=true
 ofmk:∀ k t,of (put k t)=k
 shape:∀ {k v},knd.is k v=true->∃ t,v=put k t
 scan:∀ k t,(put k t).scannable=true
noncomputable def tT (P:qc4) (u:World):SK P u Str where
 knd:=PySem.strKind P u
 put:=.str
 of v:=match v with | .str k _=>k | _=>""
 is:=strKind_is P u
 ofmk _ _:=rfl
 shape {k v} h:=by
  cases v<;>simp [PySem.strKind,zc4] at h
  subst h;exact ⟨_,rfl⟩
 scan _ _:=rfl
noncomputable def oY (P:qc4) (u:World):SK P u Int where
 knd:=PySem.intKind P u
 put:=.int
 of v:=match v with | .int k _=>k | _=>0
 is k t:=by simp [PySem.intKind,Value.isInt]
 ofmk _ _:=rfl
 shape {k v} h:=Value.isInt_shape h
 scan _ _:=rfl
section
variable {P:qc4} {u:World} {K:Type} [DecidableEq K] {κ:SK P u K}
structure Tx (κ:SK P u K) (l:List (Int×Value)) (ss:List K):Prop where
 all:∀ e∈l,∃ k t,e.2=κ.put k t/\e.1=κ.knd.hash k
 per:(l.map fun e=>κ.of e.2).Perm ss
 nd:ss.Nodup
theorem Tx.elems {l:List (Int×Value)} {ss:List K} (x:Tx κ l ss):ElemsOf κ.knd l:=fun e q=>by obtain ⟨k,t,h1,h2⟩:=x.all e q;rw [h1];exact ⟨⟨k,κ.is k t,h2⟩,κ.scan k t⟩
theorem Tx.perm {l m:List (Int×Value)} {ss:List K} (x:Tx κ l ss) (p:m.Perm l):Tx κ m ss:=⟨fun e q=>x.all e (p.mem_iff.mp q),(p.map _).trans x.per,x.nd⟩
theorem Tx.mem {l:List (Int×Value)} {ss:List K} (x:Tx κ l ss) (k:K):k∈ss↔∃ e∈l,κ.knd.is k e.2=true:=by
 rw [<- x.per.mem_iff];constructor
 . intro h;obtain ⟨e,q,L⟩:=qd8.mp h;obtain ⟨k',t,h1,_⟩:=x.all e q;rw [h1,κ.ofmk] at L;refine ⟨e,q,?_⟩;rw [h1,<- L];exact κ.is k' t
 . rintro ⟨e,q,h⟩;obtain ⟨t,h1⟩:=κ.shape h;exact qd8.mpr ⟨e,q,by rw [h1,κ.ofmk]⟩
theorem Tx.push {l:List (Int×Value)} {ss:List K} (x:Tx κ l ss) {k:K} {t:Tok} (L:k∉ss):Tx κ (l++[(κ.knd.hash k,κ.put k t)]) (ss++[k]):=⟨fun e q=>by
 rcases qe0.mp q with q | q
 . exact x.all e q
 . rw [qa9.mp q];exact ⟨k,t,rfl,rfl⟩,by
 rw [qf5];have:List.map (fun e=>κ.of e.2) [(κ.knd.hash k,κ.put k t)]=[k]:=by simp [κ.ofmk]
 rw [this];exact x.per.append_right _,by
 refine qn8.mpr ⟨x.nd,by simp,fun a O b U e=>?_⟩;rw [qa9.mp U] at e;exact L (e▸O)⟩
structure TxS (κ:SK P u K) (h:Heap) (a:Addr) (ss:List K) (led:Bool):Prop where
 ex:∃ o es ep t,h.get? a=some o/\o.ExactSet/\o.data=.set es ep t/\Tx κ es.toList ss/\es.size<qm2/\t.fits es.size=true/\t.led=led/\Rs t.place
end
variable {hp:Heap}
section
variable {P:qc4} {u:World} {K:Type} [DecidableEq K] {κ:SK P u K} {A:qd9} {E:Value->qa4->Prop} {s:qa4} {a:Addr} {ss:List K} {led:Bool}
theorem ml {o:Obj} {es fs:Array (Int×Value)} {tb tc:qf1} (g1:hp.get? a=some o) (g2:o.ExactSet) (O:o.data=.set es ep tb) (x:Tx κ fs.toList ss) (L:fs.size<qm2) (q:tc.fits fs.size=true) (W:tc.led=led) (U:Rs tc.place) :
  (hp.update a (Obj.putSet fs tc)).get? a=some {o with data:=.set fs (ep+1) tc}/\TxS κ (hp.update a (Obj.putSet fs tc)) a ss led:=by
 have e:=(SetOf_store (knd:=κ.knd) (S':=fun k=>decide (k∈ss)) g1 g2 O x.elems (fun k=>by rw [decide_eq_true_eq];exact x.mem k) L q).1;exact ⟨e,⟨_,fs,ep+1,tc,e,g2,rfl,x,L,q,W,U⟩⟩
theorem yo {k:K} {t:Tok} {Q:Bool->qa4->Prop} (hS:TxS κ s.heap a ss led) (room:ss.length+1<qm2)
  (q:∀ hp,qn0 a s.heap hp->TxS κ hp a (if k∈ss then ss else ss++[k]) led->∀ b,Q b {s with heap:=hp}):wpAny (model P u) A (setAddHashed a (κ.put k t) (κ.knd.hash k)) Q E s:=by
 obtain ⟨o,es,ep,tb,g1,g2,g3,x,hb,hf,hl,hpl⟩:=hS.ex;have hn:es.size=ss.length:=by rw [<- x.per.length_eq,qa2,qd5]
 have big:es.size+1<qm2:=by rw [hn];exact room
 unfold setAddHashed setAddHashedIn;refine qi8 (wB (qe5 g1 g3 hf ?_));dsimp only;rw [byScan_of (knd:=κ.knd) (κ.scan k t) hb x.elems];simp only [↓reduceIte];unfold setAddByScan;refine wB (wB (zd8 (wB (wpAny_setScan_of (κ.is k t) g1 g3 hf x.elems ?_))));cases hr:List.findIdx? (fun e=>κ.knd.is k e.2) es.toList with
 | some j =>dsimp only;obtain ⟨hj,hpj,_⟩:=List.findIdx?_eq_some_iff_getElem.mp hr;have hm:k∈ss:=(x.mem k).mpr ⟨es.toList[j],qs2 hj,hpj⟩;refine qa5 (qa5 ?_);have:=q s.heap (qn0.refl a s.heap) (by rw [if_pos hm];exact hS) false;rw [show s={s with heap:=s.heap} by cases s;rfl];exact this
 | none =>
  dsimp only
  have hm:k∉ss:=fun z=>by obtain ⟨e,he,hp⟩:=(x.mem k).mp z;have:=List.findIdx?_eq_none_iff.mp hr e he;rw [hp] at this;exact Bool.noConfusion this
  rw [if_neg hm] at q;have perm:=layNew_perm tb es (κ.knd.hash k) (κ.put k t);have fits:=layNew_fits tb es (κ.knd.hash k) (κ.put k t);have ledd:=And.intro (qx tb es (κ.knd.hash k) (κ.put k t)) (tQ hpl es (κ.knd.hash k) (κ.put k t));generalize layNew tb es (κ.knd.hash k) (κ.put k t)=L at perm fits ledd ⊢;obtain ⟨fs,tc,wasD,gave⟩:=L;dsimp only at perm fits ledd ⊢;rw [qw8] at perm;have y:Tx κ fs.toList (ss++[k]):=(x.push hm).perm perm;have hb2:fs.size<qm2:=by rw [<- qd5,perm.length_eq,qb8,qd5];simpa using big
  have gw:∀ (b:Bool) {s1:qa4} {Q1:Unit->qa4->Prop},Q1 () s1->wpAny (model P u) A (match b with | true=>rule "set.scan.the-table-gave-way" | false=>pure ()) Q1 E s1:=fun b s1 Q1 z=>by
   cases b
   . exact qa5 z
   . exact zd8 z
  refine wB (gw _ ?_)
  have tail:∀ tc2:qf1,tc2.fits fs.size=true->tc2.led=led->Rs tc2.place->wpAny (model P u) A (do
      storeSet a fs tc2
      if (!wasD&&tc2.tooFull)=true then do
          (match (qx8 tc2 fs (ql0 fs.size)).2.2 with | true=>rule "set.scan.the-table-gave-way" | false=>pure ())
          storeSet a (qx8 tc2 fs (ql0 fs.size)).1 (qx8 tc2 fs (ql0 fs.size)).2.1
          pure (some true)
       else pure (some true)) (fun r s1=>wpAny (model P u) A (match r with | some added=>pure added | none=>setAddHashedIn a (κ.put k t) (κ.knd.hash k) 99999) Q E s1) E s:=fun tc2 h1 h2 h3=>by
   refine wB (wpAny_storeSet_of g1 g3 ?_ (qr4 hb2));obtain ⟨e1,T1⟩:=ml g1 g2 g3 y hb2 h1 h2 h3;have sb:=qf3 s.heap a (Obj.putSet fs tc2);split
   . have p2:=relayAll_perm tc2 fs (ql0 fs.size);have f2:=relayAll_fits tc2 fs (ql0 fs.size);have l2:=And.intro (tR tc2 fs (ql0 fs.size)) (vT tc2 fs (ql0 fs.size));generalize qx8 tc2 fs (ql0 fs.size)=M at p2 f2 l2 ⊢;obtain ⟨gs,td,gave2⟩:=M;dsimp only at p2 f2 l2 ⊢;have sz:gs.size=fs.size:=by rw [<- qd5,p2.length_eq,qd5]
     have hb3:gs.size<qm2:=by rw [sz];exact hb2
     refine wB (gw _ (wB (wpAny_storeSet_of e1 rfl ?_ (qr4 hb3))));obtain ⟨_,T2⟩:=ml e1 g2 rfl (y.perm p2) hb3 f2 (l2.1.trans h2) l2.2;exact qa5 (qa5 (q _ (sb.trans (qf3 _ a _)) T2 true))
   . exact qa5 (qa5 (q _ sb T1 true))
  split
  . refine wB ?_;rw [hashByValue_scannable 8 (κ.scan k t)];refine qa5 ?_;split
    . exact tail tc fits (ledd.1.trans hl) ledd.2
    . exact tail {tc with plain:=false} (qf1.fits_plain_off fits) (ledd.1.trans hl) ledd.2
  . refine wB (qa5 ?_);exact tail tc fits (ledd.1.trans hl) ledd.2
end
noncomputable def de {K:Type} [DecidableEq K] (acc:List K) (k:K):List K:=if k∈acc then acc else acc++[k]
noncomputable def met {K:Type} [DecidableEq K] (val:Nat->K) (i:Nat):List K:=((qb6 i).map val).foldl de []
theorem oZ {K:Type} [DecidableEq K] (val:Nat->K) (i:Nat):met val (i+1)=de (met val i) (val i):=by unfold met;rw [List.range_succ,qf5,List.foldl_append];rfl
theorem nq {K:Type} [DecidableEq K] (val:Nat->K):∀ i,(met val i).length<=i
 | 0=>nL _
 | i+1=>by
  rw [oZ];have:=nq val i;unfold de;split
  . lia
  . rw [qb8,qn1];lia
section
variable {P:qc4} {u:World} {K:Type} [DecidableEq K] {κ:SK P u K} {A:qd9} {R:Result->qa4->Prop} {I:Addr} {fp wr:List Addr} {G:Array GenState->Array GenState->Prop} {n:Nat} {Pv:Nat->Value->Prop} {St:Nat->qa4->Prop} {led:Bool}
theorem TxS.moved {ss:List K} (x:TxS κ h a ss led) (e:∀ o,h.get? a=some o->h'.get? a=some o):TxS κ h' a ss led:=by obtain ⟨o,es,ep,t,g,r⟩:=x.ex;exact ⟨o,es,ep,t,e o g,r⟩
theorem vU (W:WalksS P u A.in1 I fp wr G n Pv St) (S:Addr) (Y:S∉fp) (val:Nat->K) (hval:∀ i v,Pv i v->∃ t,v=κ.put (val i) t) (L:n+1<qm2) :
  ∀ (m i:Nat) (s:qa4),n-i=m->i<=n->St i s->TxS κ s.heap S (met val i) led->(∀ s',Moved (S::wr) G s s'->TxS κ s'.heap S (met val n) led->R (.ok (.ret .none)) s')→
   qt3 (model P u) A (.builtin "set.update.loop" ⟨[.ref S,.ref I],[]⟩) R s:=by
 have nw:S∉wr:=fun h=>Y (W.sub _ h)
 have Z:∀ b∈wr,b∈S::wr:=fun b L=>qd3 _ L
 intro m;induction m with
 | zero =>
  intro i s hm hi q hS hR;obtain rfl:i=n:=by lia
  refine qj5 qx9 ?_;rw [qh7 qq1 _];refine wB (W.done s _ _ q fun s1 O=>?_);exact qa5 (hR s1 (O.mono Z) (hS.moved fun o e=>O.heap S _ nw e))
 | succ m ih =>
  intro i s hm hi q hS hR;have lt:i<n:=by lia
  refine qj5 qx9 ?_;rw [qh7 qq1 _];refine wB (W.item i s _ _ lt q fun v s1 hP U O=>?_);obtain ⟨t,rfl⟩:=hval i v hP;have hS1:TxS κ s1.heap S (met val i) led:=hS.moved fun o e=>O.heap S _ nw e
  show wpAny _ A.in1 (qx4 [κ.put (val i) t] (setAdd S (κ.put (val i) t)) >>= _) _ _ s1;refine wB (qi8 ?_);unfold setAdd;refine qi8 (wB (κ.knd.pyHash (k:=val i) (κ.is _ _) ?_));have room:(met val i).length+1<qm2:=by have:=nq val i;lia
  refine yo (s:={s1 with toks:=s1.toks+1}) hS1 room fun h2 sb hS2 b=>?_
  have hS3:TxS κ h2 S (met val (i+1)) led:=by rw [oZ];exact hS2
  refine qa5 ⟨qs8 qq1 _,ih (i+1) _ (by lia) lt (W.frame _ s1 _ _ U (qk9 _) fun b L o e=>?_) hS3 fun s2 mv2 hS4=>?_⟩
  . rw [sb.2 b (fun h:b=S=>Y (by rw [<- h];exact L))];exact e
  . refine hR s2 (Moved.trans W.gtrans ((O.mono Z).then_heap (qk9 _) fun b o L e=>?_) mv2) hS4;rw [sb.2 b (fun h:b=S=>L (by rw [h];exact qe4))];exact e
end
noncomputable def dH (u:World):Bool:=!(u.params.followText "set-order")
section
variable {P:qc4} {u:World} {K:Type} [DecidableEq K] {κ:SK P u K} {A:qd9} {E:Value->qa4->Prop} {s:qa4}
theorem yp (v:Value) {Q1:Value->qa4->Prop} (q:Q1 (.ref s.heap.objs.size) {s with heap:=s.heap.push {cls:=.type "set",dict:=none,data:=.set #[] 0 (.fresh 0 0 (dH u))}}) :
  qt3 (model P u) A (.call (.builtin "set.__new__") ⟨[.type "set",v],[]⟩) (wants Q1 E) s:=by
 refine codeAny_of_tree ?_;show wpAny _ A.in1 (do checkBuiltinCall "set.__new__" ⟨[.type "set",v],[]⟩;again (.builtin "set.__new__" ⟨[.type "set",v],[]⟩)) _ _ s;refine wB (zc2 (F.newCall_set_1 v) (qa5 ⟨qs8 F.plain_set_new _,qj5 F.entry_set_new ?_⟩));rw [qh7 F.plain_set_new _];unfold qj1.«set.__new__» qj1.Frozenset.newClass;have z:=sub_set_self;obtain ⟨hp,g,d,tk,L⟩:=s;dsimp only;wp_walk;refine qm8 (qa5 ?_);dsimp only;simp only [newObj];refine wB (wpAny_alloc (qa5 ?_));exact qa5 q
end
variable {led:Bool}
section
variable {P:qc4} {u:World} {K:Type} [DecidableEq K] {κ:SK P u K} {A:qd9} {E:Value->qa4->Prop} {s:qa4}
theorem tU (e:hp.get? a=some {cls:=.type "set",dict:=none,data:=.set #[] 0 (.fresh 0 0 led)}):TxS κ hp a [] led:=⟨_,#[],0,.fresh 0 0 led,e,⟨rfl,rfl,rfl⟩,rfl,⟨(fun e q=>by cases q),qv5 _,qo1⟩,(by unfold qm2;decide),(by cases led<;>rfl),rfl,.nil⟩
theorem vV {l:Addr} {vs:Array Value} {val:Nat->K} {Q:Value->qa4->Prop} (calm:A.handled=none) (hl:s.heap.IsList l vs) (hi:∀ (i:Nat) (v:Value),vs[i]?=some v->∃ t,v=κ.put (val i) t) (hb:vs.size+1<qm2)
  (q:∀ (hp:Heap) (tk:Nat),TxS κ hp s.heap.objs.size (met val vs.size) (dH u)->(∀ b o,b<s.heap.objs.size->s.heap.get? b=some o->hp.get? b=some o)->Q (.ref s.heap.objs.size) {s with heap:=hp,toks:=tk}) :
  wpAny (model P u) A (call (.type "set") [.ref l]) Q E s:=by
 obtain ⟨c0,tl0,m0⟩:=qn4.mro;have m1:=qn4.made;have m2:=qn4.sub;refine wpAny_call (codeAny_of_tree ?_);show wpAny _ _ (callAny (.type "set") _) _ _ _;refine qa5 ⟨Code.quiet_builtin _ (by decide +kernel),qj5 F.entry_type_call ?_⟩;rw [qd9.under_plain (weight_type_call_type "set" [.ref l] []) rfl];have m3:=qn4.notType;have m4:=qn4.canCreate;have m5:=F.typeCall_set_1 (.ref l)
 repeat (any_goals (first | assumption | wp_step))
 refine qu3 (yp (.ref l) (E:=E) (Q1:=fun x s1=>x=.ref s.heap.objs.size/\s1={s with heap:=s.heap.push {cls:=.type "set",dict:=none,data:=.set #[] 0 (.fresh 0 0 (dH u))}}) ⟨rfl,rfl⟩) fun r s1 hr=>?_
 cases r with
 | error e=>exact hr
 | ok fl =>
  cases fl with
  | ret x =>
   obtain ⟨rfl,rfl⟩:=hr;have gS:(s.heap.push {cls:=.type "set",dict:=none,data:=.set #[] 0 (.fresh 0 0 (dH u))}).get? s.heap.objs.size=some {cls:=.type "set",dict:=none,data:=.set #[] 0 (.fresh 0 0 (dH u))}:=qb3 _ rfl;have tS:zd3 {s with heap:=s.heap.push {cls:=.type "set",dict:=none,data:=.set #[] 0 (.fresh 0 0 (dH u))}} (.ref s.heap.objs.size) "set":=⟨_,gS,rfl⟩;have n1:=qn4.init.lookup;have n2:=qn4.init.bind (.ref s.heap.objs.size)
   repeat (any_goals (first | assumption | wp_step))
   refine qu3 (codeAny_call_builtin (R:=wants (fun r s2=>r=.none/\∃ hp tk,s2={s with heap:=hp,toks:=tk}/\TxS κ hp s.heap.objs.size (met val vs.size) (dH u)/\(∀ b o,b<s.heap.objs.size->s.heap.get? b=some o->hp.get? b=some o)) E) qn4.init.plain F.entry_set_init (check_set_init_1 tS ?_)) fun r2 s2 O=>?_
   . obtain ⟨ol,U,W,nl,Z⟩:=hl;obtain ⟨oc,od,oda,osl⟩:=ol;simp only at W Z;subst W Z;have Y:(s.heap.push {cls:=.type "set",dict:=none,data:=.set #[] 0 (.fresh 0 0 (dH u))}).get? l=some {cls:=.type "list",dict:=od,data:=.seq vs nl,slots:=osl}:=gP _ U;have k1:=F.sub_list_set;have k2:=F.sub_list_frozenset;have k3:(qn7 "list"==qn7 "dict")=false:=by decide
     have hl1:(s.heap.push {cls:=.type "set",dict:=none,data:=.set #[] 0 (.fresh 0 0 (dH u))}).IsList l vs:=⟨_,Y,rfl,nl,rfl⟩;unfold qj1.«set.__init__» noKeywords qj1.Frozenset.updateFrom;generalize hPI:ze9=PI;wp_walk;subst hPI;refine qq7 hl1 (wB (zb7 ?_));have ls:l<s.heap.objs.size:=qa7 U;have c3:A.in1.in1.in1.handled=none:=by simp [calm]
     have ne1:l≠(s.heap.push {cls:=.type "set",dict:=none,data:=.set #[] 0 (.fresh 0 0 (dH u))}).objs.size:=by rw [qh1];exact qc2 (qg7 ls)
     have ne2:s.heap.objs.size∉[(s.heap.push {cls:=.type "set",dict:=none,data:=.set #[] 0 (.fresh 0 0 (dH u))}).objs.size,l]:=by rw [qh1];simp only [qb2,qa9,qg5,or_false,not_or];exact ⟨qc2 (qk1 _),qk3 ls⟩
     refine vU ((Walks.list c3 _ l ne1 vs).toS) s.heap.objs.size ne2 val hi hb (vs.size-0) 0 _ (by lia) (qj2 _) ⟨⟨_,qb3 _ rfl,rfl,rfl⟩,(hl1.push _)⟩ (tU (gP _ gS)) fun s3 mv L=>?_
     obtain ⟨hp,g3,d3,tk3,o3⟩:=s3;have eg:g3=s.gens:=mv.gens;have ed:d3=s.drawn:=mv.drawn;have eo:o3=s.os:=mv.os;subst eg ed eo;show wpAny _ _ _ _ _ _;refine qa5 ?_;show wpAny _ _ (ret qj8) _ _ _;refine qa5 ⟨rfl,hp,tk3,rfl,L,fun b o hb e=>?_⟩;have b1:b≠s.heap.objs.size:=qc2 hb
     have b2:b≠(s.heap.push {cls:=.type "set",dict:=none,data:=.set #[] 0 (.fresh 0 0 (dH u))}).objs.size:=by rw [qh1];exact qc2 (qg7 hb)
     exact mv.heap b o (by simp only [qb2,qa9,qg5,or_false,not_or];exact ⟨b1,b2⟩) (qq4 _ (qq4 _ e))
   . cases r2 with
     | error e=>exact O
     | ok f2 =>
      cases f2 with
      | ret r =>
       obtain ⟨rfl,hp,tk,rfl,L,kept⟩:=O
       repeat (any_goals (first | assumption | wp_step))
       exact q _ _ L kept
      | _=>exact O.elim
  | _=>exact hr.elim
end
theorem jl {α:Type}:∀ {l:List α} {i:Nat} (h:i<l.length),(l[i]::l.eraseIdx i).Perm l
 | x::l,0,h=>qv5 _
 | x::l,i+1,h=>by have:=jl (l:=l) (i:=i) (by simpa using h);exact (zf2.swap _ _ _).trans (this.cons x)
section
variable {M:Model} {A:qd9} {E:Value->qa4->Prop}
theorem qy {src:Source} {Q:Nat->qa4->Prop} (L:n≠0) (q:∀ i d,i<n->Q i {s with drawn:=d}):wpAny M A (choose src n) Q E s:=fun G p O=>by show Sem.wp M G (.choose src n .pure) _ _ p s;rw [Sem.wp_choose];refine ⟨L,?_⟩;rw [Sem.wp_pure];exact q _ _ (Nat.mod_lt _ (Nat.pos_of_ne_zero L))
theorem im {α:Type}:∀ (n:Nat) (xs:List α) {Q:List α->qa4->Prop} {s:qa4},xs.length=n->(∀ ys d,ys.Perm xs->Q ys {s with drawn:=d})->wpAny M A (drawOrder n xs) Q E s
 | 0,xs,Q,s,L,q=>by have e:xs=[]:=qy0.mp L;subst e;show wpAny M A (pure []) Q E s;refine qa5 ?_;have:=q [] s.drawn (qv5 _);cases s;exact this
 | n+1,[],Q,s,L,q=>by cases L
 | n+1,x::xs,Q,s,L,q=>by show wpAny M A (choose .order (x::xs).length >>= fun i=>match (x::xs)[i]? with | some y=>(drawOrder n ((x::xs).eraseIdx i)) >>= fun ys=>pure (y::ys) | none=>unsupported "internal:drawOrder") Q E s;refine qh6 (qy (by simp) fun i d hi=>?_);rw [gQ hi];dsimp only;refine wB (im n ((x::xs).eraseIdx i) (by rw [qu1 hi];lia) fun ys d2 p=>qa5 (q _ d2 ?_));exact (p.cons _).trans (jl hi)
end
theorem nr:entryFor table "set.__iter__"=some qj1.«frozenset.__iter__»:=entryFor_alias (id':="frozenset.__iter__") (by kernel_rfl) rfl (by decide +kernel) (by kernel_rfl)
theorem jv:typeLookup (.type "set_iterator") "__next__"=pure (some (.builtin "set_iterator.__next__")):=by rw [za7,qr7];kernel_rfl
section
variable {P:qc4} {u:World} {A:qd9} {E:Value->qa4->Prop} {s:qa4} {a:Addr} {o:Obj} {es:Array (Int×Value)} {ep:Nat} {t:qf1}
noncomputable def kx (first:Value) (i:Int) (a:Addr) (n ep:Nat):Obj:={cls:=.type "set_iterator",data:=.fields #[first,qg1 i,.ref a,qg1 n,qg1 ep]}
theorem o2 {Q:Value->qa4->Prop} (g1:s.heap.get? a=some o) (g2:o.ExactSet) (O:o.data=.set es ep t) (U:t.fits es.size=true) (Y:es.size<qm2)
  (q1:∀ (ys:List Nat) d,dH u=true->(t.plain=false/\1<es.size)->ys.Perm (qb6 es.size)->Q (.ref (s.heap.objs.size+1)) {s with drawn:=d,heap:=(s.heap.push {cls:=.type "tuple",data:=.seq (ys.map fun (i:Nat)=>qg1 i).toArray}).push (kx (.ref s.heap.objs.size) 0 a es.size ep)})
  (q2:(dH u=false∨¬ (t.plain=false/\1<es.size))->Q (.ref s.heap.objs.size) {s with heap:=s.heap.push (kx (qg1 0) 0 a es.size ep)}):wpAny (model P u) A (ze9 (.ref a)) Q E s:=by
 have W:s.TypeIs (.ref a) "set":=⟨o,g1,g2.1⟩;refine wpAny_pyIter_slot W F.slot_set_iter (qg4 F.slot_set_iter W nr ?_ (F.args_set_iter_1 _));unfold qj1.«frozenset.__iter__»;refine wB (wB (qa5 (qa5 ?_)));unfold qj1.Frozenset.sizeOf zb4;refine wB (wB (wB (qe5 g1 O U (qa5 (qa5 ?_)))));unfold setDrawn zd9;refine wB (wB (qe5 g1 O U (wB (wB (qm8 (qa5 (qa5 ?_)))))));have Z:(!(u.params.followText "set-order"))=dH u:=rfl;show wpAny (model P u) A.in1 (if (!(u.params.followText "set-order")&&(!t.plain&&decide (es.size > 1)))=true then (drawOrder es.size (qb6 es.size) >>= fun ys=>newTuple (ys.map fun (i:Nat)=>qg1 i) >>= fun first=>setEpoch a >>= fun e=>newFields "set_iterator" [first,qg1 0,.ref a,qg1 es.size,qg1 e] >>= fun v=>ret v) else (pure (qg1 0) >>= fun first=>setEpoch a >>= fun e=>newFields "set_iterator" [first,qg1 0,.ref a,qg1 es.size,qg1 e] >>= fun v=>ret v)) _ _ s;rw [Z];by_cases q:(dH u&&(!t.plain&&decide (es.size > 1)))=true
 . rw [if_pos q];simp only [qb4,qm0,decide_eq_true_eq] at q;refine qh6 (im _ _ (by simp) fun ys d p=>?_);have L:ys.length=es.size:=by rw [p.length_eq,qh3]
   refine wB ?_;refine wpAny_newTuple ?_ (by rw [qa2,L];exact qr4 Y);unfold setEpoch;refine wB (wB (qe5 (s:={s with drawn:=d,heap:=s.heap.push {cls:=.type "tuple",data:=.seq (ys.map fun (i:Nat)=>qg1 i).toArray}}) (gP _ g1) O U (qa5 ?_)));refine wB (qd2 (qa5 ⟨_,rfl,"set_iterator",_,⟨_,qb3 _ rfl,rfl⟩,jv,?_⟩));have:=q1 ys d q.1 q.2 p;rw [qh1];exact this
 . rw [if_neg q];refine wB (qa5 ?_);unfold setEpoch;refine wB (wB (qe5 g1 O U (qa5 ?_)));refine wB (qd2 (qa5 ⟨_,rfl,"set_iterator",_,⟨_,qb3 _ rfl,rfl⟩,jv,?_⟩));refine q2 ?_;by_cases h1:dH u=true
   . right;intro z;exact q (by rw [h1,z.1];simp;exact z.2)
   . left;simpa using h1
end
theorem mn:Manifest.owners.lookup (String.ofList ['r','o','t','a','r','e','t','i','_','t','e','s'].reverse)=some Manifest.sig_set_iterator:=by kernel_rfl
theorem slot_setit:Slot "set_iterator" "__next__" "set_iterator.__next__":=.of (owner:="set_iterator") (n:="__next__") (by rw [za7,qr7];kernel_rfl) (by decide +kernel) (by decide +kernel) (by decide +kernel) (by first | exact .inl (by decide +kernel) | exact .inr (by decide +kernel)) (by rw [isSubtype_type];kernel_rfl)
theorem ia:entryFor table "set_iterator.__next__"=some qj1.«set_iterator.__next__»:=entryFor_of_tree (by kernel_rfl)
theorem gd (v:Value):argsOk "set_iterator.__next__" ⟨[v],[]⟩:=by unfold argsOk;rw [signature?_of (id:="set_iterator.__next__") (n:=['_','_','t','x','e','n','_','_']) (o:=['r','o','t','a','r','e','t','i','_','t','e','s']) (by kernel_rfl) mn];kernel_rfl
variable {first:Value} {ot:Obj}
section
variable {P:qc4} {u:World} {A:qd9} {E:Value->qa4->Prop} {s:qa4} {a I:Addr} {o:Obj} {es:Array (Int×Value)} {ep n:Nat} {t:qf1}
noncomputable def ItAt (h:Heap) (I:Addr) (first:Value) (i:Nat) (a:Addr) (n ep:Nat):Prop:=∃ q,h.get? I=some q/\q.cls=.type "set_iterator"/\q.data=.fields #[first,qg1 i,.ref a,qg1 n,qg1 ep]
theorem ItAt.ty (x:ItAt s.heap I first i a n ep):s.TypeIs (.ref I) "set_iterator":=let ⟨q,h,c,_⟩:=x;⟨q,h,c⟩
theorem ky {T:Addr} {ps:Array Value} {p:Nat} {W:Int} {x:Value} {Q:Option Value->qa4->Prop} (L:ItAt s.heap I (.ref T) i a es.size ep) (g1:s.heap.get? a=some o) (Y:o.data=.set es ep t) (Z:t.fits es.size=true) (k1:s.heap.get? T=some ot) (k2:ot.data=.seq ps m) (hp:ps[i]?=some (qg1 p)) (W:es[p]?=some (W,x))
 (q:∀ h',ItAt h' I (.ref T) (i+1) a es.size ep->qn0 I s.heap h'->Q (some x) {s with heap:=h'}):wpAny (model P u) A (zb6 (.ref I)) Q E s:=by
 obtain ⟨oi,hi,hc,U⟩:=id L;unfold zb6;refine wB (qy1 (qg6 (name:=qa1 "__next__") L.ty slot_setit (qg4 slot_setit L.ty ia ?_ (gd _))));unfold qj1.«set_iterator.__next__»;refine wB (qa5 (wB (qv6 hi U ?_)));unfold zb4;refine wB (wB (qe5 g1 Y Z (qa5 ?_)));rw [if_neg (by simp)];refine wB (qv3 k1 k2 ?_);dsimp only;rw [qe3,hp];show wpAny _ _ (setNextDrawn a ((p:Int)).toNat ((ep:Int)).toNat >>= fun x=>zd4 (.ref I) 1 (qg1 ((i:Int)+1)) >>= fun _=>ret x) _ _ s;rw [qe3,qe3];unfold setNextDrawn;refine wB (wB (qe5 g1 Y Z ?_));dsimp only;rw [if_neg (by simp),W];refine qa5 ?_;refine qh6 (qk8 hi U (by simp) ?_)
 have O:ItAt (s.heap.update I (qs9 (·.setIfInBounds 1 (qg1 ((i:Int)+1))))) I (.ref T) (i+1) a es.size ep:=⟨_,qf2 _ hi (qi4 (qe7 U _)),(qr2 ..).trans hc,by rw [qe7 U];simp [qg1]⟩
 exact qa5 ⟨_,rfl,qa5 (q _ O (qf3 ..))⟩
end
set_option maxHeartbeats 400000
section
variable {P:qc4} {u:World} {A:qd9} {E:Value->qa4->Prop} {s:qa4} {a I:Addr} {o:Obj} {es:Array (Int×Value)} {ep n:Nat} {t:qf1}
theorem lq {T:Addr} {ps:Array Value} {m:Nat} {Q:Option Value->qa4->Prop} (O:A.handled=none) (L:ItAt s.heap I (.ref T) es.size a es.size ep) (g1:s.heap.get? a=some o) (Z:o.data=.set es ep t) (hf:t.fits es.size=true) (Y:s.heap.get? T=some ot) (W:ot.data=.seq ps m) (hp:ps.size=es.size)
 (q:∀ h',Heap.ExtBut I s.heap h'->Q none {s with heap:=h'}):wpAny (model P u) A (zb6 (.ref I)) Q E s:=by
 obtain ⟨oi,hi,hc,U⟩:=id L;unfold zb6;refine wB (qy1 (qg6 (name:=qa1 "__next__") L.ty slot_setit (qg4 slot_setit L.ty ia ?_ (gd _))));unfold qj1.«set_iterator.__next__»;refine wB (qa5 (wB (qv6 hi U ?_)));unfold zb4;refine wB (wB (qe5 g1 Z hf (qa5 ?_)));rw [if_neg (by simp)];refine wB (qv3 Y W ?_);dsimp only;rw [qe3,qq5 (by lia)];show wpAny _ _ (zd4 (.ref I) 0 (qg1 0) >>= fun _=>zd4 (.ref I) 2 .none >>= fun _=>zf1 (.type "StopIteration") [] >>= fun e=>ze5 e) _ _ s;refine qh6 (qk8 hi U (by simp) ?_);refine qh6 (qk8 (qf2 _ hi (qi4 (qe7 U _))) (qe7 U _) (by simp) ?_);show wpAny _ _ (zf1 (.type "StopIteration") [] >>= _) _ _ _;refine wB ?_;simp only [zf1,newTuple];refine wB (qd2 ?_ (by size_fits));refine qh6 (m:=qo0 _ _) (zc2 (a:=qj8) (by first | rfl | (simp only [qo0];rfl)) ?_);refine qd2 ?_ (by size_fits);simp only [ze5];refine wB (zd2 ?_);rw [show A.in1.handled=none from O];refine wB (qa5 (wpAny_throw ?_));refine wB (qy6 (T:="StopIteration") (b:=true) ⟨_,qb3 _ rfl,rfl⟩ isSubtype_stop ?_);exact qa5 (q _ (((qf3 ..).trans (qf3 ..)).extBut.push _ |>.push _))
end
theorem rV {α:Type} (f:Nat->Nat):∀ (n k:Nat) (l:List α) (q:Array α),l.length=n->(ze3 f n k l q).toList.Perm (q.toList++l)
 | 0,k,l,q,O=>by have e:l=[]:=qy0.mp O;subst e;rw [ze3,qf4]
 | n+1,k,l,q,O=>by have L:f k%l.length<l.length:=Nat.mod_lt _ (by lia);rw [ze3,gQ L];dsimp only;refine (rV f n (k+1) (l.eraseIdx (f k%l.length)) (q.push l[f k%l.length]) (by rw [qu1 L];lia)).trans ?_;rw [qw8,qh4];exact zf2.append_left _ (jl L)
theorem rW {α:Type} (f:Nat->Nat) (xs:Array α):(za8 f xs).toList.Perm xs.toList:=by have:=rV f xs.size 0 xs.toList #[] (by simp);simpa [za8] using this
section
variable {P:qc4} {u:World} {A:qd9} {E:Value->qa4->Prop} {s:qa4} {a I:Addr} {o:Obj} {es:Array (Int×Value)} {ep n:Nat} {t:qf1}
theorem fS {Q:Option (Value×Nat)->qa4->Prop} (L:dH u=false) (g1:s.heap.get? a=some o) (W:o.data=.set es ep t) (O:t.fits es.size=true)
 (q:Q (((za8 (u.params.setOrder a ep) es)[i]?).map fun e=>(e.2,j)) s):wpAny (model P u) A (qy2 a j i ep) Q E s:=by
 have U:u.params.followText "set-order"=true:=by unfold dH at L;simpa using L
 unfold qy2 zd9;refine wB (qe5 g1 W O (wB (wB (qm8 (qa5 ?_)))));show wpAny (model P u) A (if u.params.followText "set-order"=true then _ else _) Q E s;rw [if_pos U,if_neg (by simp)];unfold setWalk zd9;refine wB (wB (qe5 g1 W O (wB (wB (qm8 (qa5 ?_))))));show wpAny (model P u) A (if u.params.followText "set-order"=true then _ else _) _ E s;rw [if_pos U];refine wB (qm8 (qa5 ?_));exact qa5 q
end
section
variable {P:qc4} {u:World} {A:qd9} {E:Value->qa4->Prop} {s:qa4} {a I:Addr} {o:Obj} {es:Array (Int×Value)} {ep n:Nat} {t:qf1}
theorem gm {Q:Option (Value×Nat)->qa4->Prop} (L:dH u=true) (O:t.led=true) (one:¬ (t.plain=false/\1<es.size)) (g1:s.heap.get? a=some o) (U:o.data=.set es ep t) (W:t.fits es.size=true)
 (q:Q (match es[qf0 t.place j]?,t.place[qf0 t.place j]? with | some (_,x),some k=>some (x,k+1) | _,_=>none) s):wpAny (model P u) A (qy2 a j i ep) Q E s:=by
 have Y:u.params.followText "set-order"=false:=by unfold dH at L;simpa using L
 unfold qy2 zd9;refine wB (qe5 g1 U W (wB (wB (qm8 (qa5 ?_)))));show wpAny (model P u) A (if u.params.followText "set-order"=true then _ else if (!t.plain&&decide (es.size > 1))=true then _ else (if (!t.led&&!es.isEmpty)=true then unsupported "set:maker-not-led" else pure ()) >>= fun _=>pure (match es[qf0 t.place j]?,t.place[qf0 t.place j]? with | some (_,x),some k=>some (x,k+1) | _,_=>none)) Q E s;rw [Y,if_neg (by decide),if_neg (by simpa using one),if_neg (by simp [O])];exact wB (qa5 (qa5 q))
theorem kz {next:Nat} {x:Value} {Q:Option Value->qa4->Prop} (L:ItAt s.heap I (qg1 j) i a es.size ep) (g1:s.heap.get? a=some o) (g3:o.data=.set es ep t) (hf:t.fits es.size=true) (hn:∀ {A':qd9} {W:Option (Value×Nat)->qa4->Prop} {Z:Value->qa4->Prop},W (some (x,next)) s->wpAny (model P u) A' (qy2 a j i ep) W Z s)
 (q:∀ h',ItAt h' I (qg1 next) (i+1) a es.size ep->qn0 I s.heap h'->Q (some x) {s with heap:=h'}):wpAny (model P u) A (zb6 (.ref I)) Q E s:=by
 obtain ⟨oi,hi,hc,O⟩:=id L;unfold zb6;refine wB (qy1 (qg6 (name:=qa1 "__next__") L.ty slot_setit (qg4 slot_setit L.ty ia ?_ (gd _))));unfold qj1.«set_iterator.__next__»;refine wB (qa5 (wB (qv6 hi O ?_)));unfold zb4;refine wB (wB (qe5 g1 g3 hf (qa5 ?_)));rw [if_neg (by simp)];show wpAny _ _ (qy2 a ((j:Int)).toNat ((i:Int)).toNat ((ep:Int)).toNat >>= _) _ _ s;rw [qe3,qe3,qe3];refine wB (hn ?_);show wpAny _ _ (zd4 (.ref I) 0 (qg1 next) >>= fun _=>zd4 (.ref I) 1 (qg1 ((i:Int)+1)) >>= fun _=>ret x) _ _ s;refine qh6 (qk8 hi O (by simp) ?_);refine qh6 (qk8 (qf2 _ hi (qi4 (qe7 O _))) (qe7 O _) (by simp) ?_);have e1:(s.heap.update I (qs9 (·.setIfInBounds 0 (qg1 next)))).get? I=some (qs9 (·.setIfInBounds 0 (qg1 next)) oi):=qf2 _ hi (qi4 (qe7 O _));have Y:=qe7 O (·.setIfInBounds 0 (qg1 next))
 have U:ItAt ((s.heap.update I (qs9 (·.setIfInBounds 0 (qg1 next)))).update I (qs9 (·.setIfInBounds 1 (qg1 ((i:Int)+1))))) I (qg1 next) (i+1) a es.size ep:=⟨_,qf2 _ e1 (qi4 (qe7 Y _)),(qr2 ..).trans ((qr2 ..).trans hc),by rw [qe7 Y];simp [qg1]⟩
 exact qa5 ⟨_,rfl,qa5 (q _ U ((qf3 ..).trans (qf3 ..)))⟩
theorem lu {Q:Option Value->qa4->Prop} (O:A.handled=none) (L:ItAt s.heap I (qg1 j) i a es.size ep) (g1:s.heap.get? a=some o) (g3:o.data=.set es ep t) (hf:t.fits es.size=true) (hn:∀ {Z:qd9} {U:Option (Value×Nat)->qa4->Prop} {Y:Value->qa4->Prop},U none s->wpAny (model P u) Z (qy2 a j i ep) U Y s)
 (q:∀ h',Heap.ExtBut I s.heap h'->Q none {s with heap:=h'}):wpAny (model P u) A (zb6 (.ref I)) Q E s:=by
 obtain ⟨oi,hi,hc,W⟩:=id L;unfold zb6;refine wB (qy1 (qg6 (name:=qa1 "__next__") L.ty slot_setit (qg4 slot_setit L.ty ia ?_ (gd _))));unfold qj1.«set_iterator.__next__»;refine wB (qa5 (wB (qv6 hi W ?_)));unfold zb4;refine wB (wB (qe5 g1 g3 hf (qa5 ?_)));rw [if_neg (by simp)];show wpAny _ _ (qy2 a ((j:Int)).toNat ((i:Int)).toNat ((ep:Int)).toNat >>= _) _ _ s;rw [qe3,qe3,qe3];refine wB (hn ?_);show wpAny _ _ (zd4 (.ref I) 2 .none >>= fun _=>zf1 (.type "StopIteration") [] >>= fun e=>ze5 e) _ _ s;refine qh6 (qk8 hi W (by simp) ?_);show wpAny _ _ (zf1 (.type "StopIteration") [] >>= _) _ _ _;refine wB ?_;simp only [zf1,newTuple];refine wB (qd2 ?_ (by size_fits));refine qh6 (m:=qo0 _ _) (zc2 (a:=qj8) (by first | rfl | (simp only [qo0];rfl)) ?_);refine qd2 ?_ (by size_fits);simp only [ze5];refine wB (zd2 ?_);rw [show A.in1.handled=none from O];refine wB (qa5 (wpAny_throw ?_));refine wB (qy6 (T:="StopIteration") (b:=true) ⟨_,qb3 _ rfl,rfl⟩ isSubtype_stop ?_);exact qa5 (q _ ((qf3 ..).extBut.push _ |>.push _))
end
theorem gn:Slot "set_iterator" "__iter__" "set_iterator.__iter__":=.of (owner:="set_iterator") (n:="__iter__") (by rw [za7,qr7];kernel_rfl) (by decide +kernel) (by decide +kernel) (by decide +kernel) (by first | exact .inl (by decide +kernel) | exact .inr (by decide +kernel)) (by rw [isSubtype_type];kernel_rfl)
theorem kA:entryFor table "set_iterator.__iter__"=some qj1.«dict_keyiterator.__iter__»:=entryFor_alias (id':="dict_keyiterator.__iter__") (by kernel_rfl) rfl (by decide +kernel) (by kernel_rfl)
theorem jH (v:Value):argsOk "set_iterator.__iter__" ⟨[v],[]⟩:=by unfold argsOk;rw [signature?_of (id:="set_iterator.__iter__") (n:=['_','_','r','e','t','i','_','_']) (o:=['r','o','t','a','r','e','t','i','_','t','e','s']) (by kernel_rfl) mn];kernel_rfl
variable {ord:Nat->Value}
section
variable {P:qc4} {u:World} {A:qd9} {E:Value->qa4->Prop} {s:qa4} {a I:Addr} {o:Obj} {es:Array (Int×Value)} {ep n:Nat} {t:qf1}
theorem gK {Q:Value->qa4->Prop} (L:ItAt s.heap I first i a n ep) (q:Q (.ref I) s):wpAny (model P u) A (ze9 (.ref I)) Q E s:=by refine wpAny_pyIter_slot L.ty gn (qg4 gn L.ty kA ?_ (jH _));show wpAny _ _ (ret (.ref I)) _ _ s;exact qa5 ⟨_,rfl,"set_iterator",_,L.ty,slot_setit.lookup,q⟩
theorem nu {Q:Bool->qa4->Prop} (U:s.TypeIs (.ref a) "set") (q:Q false s):wpAny (model P u) A (qt7 (.ref a)) Q E s:=by
 unfold qt7;refine wB (wpAny_specialOf U PySem.F.slot_set_len.lookup ?_);generalize L:("set.__len__":String)=O
 wp_delta
 rw [show splitId O=some ("set","__len__") from by subst L;decide +kernel];subst L;refine wB (qy6 (T:="set") (b:=true) U sub_set_self ?_);refine wpAny_ite_split (fun z=>absurd z (by decide)) (fun _=>?_);refine wpAny_ite_split (fun _=>wB (ze2 U (qa5 q))) (fun z=>absurd (by decide +kernel) z)
theorem ItAt.keep (x:ItAt h I first i a n ep) (e:∀ q,h.get? I=some q->h'.get? I=some q):ItAt h' I first i a n ep:=let ⟨q,g,r⟩:=x;⟨q,e q g,r⟩
theorem qz {T:Addr} {ps:Array Value} (U:A.handled=none) (g3:o.data=.set es ep t) (hf:t.fits es.size=true) (k2:ot.data=.seq ps m) (Y:ps.size=es.size) (hI:I≠a) (Z:I≠T) (L:∀ i,i<es.size->∃ p hx,ps[i]?=some (qg1 (p:Nat))/\es[p]?=some (hx,ord i)) :
  WalksS P u A I [I,a,T] [I] (fun x y=>y=x) es.size (fun i v=>v=ord i) (fun i s=>ItAt s.heap I (.ref T) i a es.size ep/\s.heap.get? a=some o/\s.heap.get? T=some ot) where
 sub:=fun b O=>by rw [qa9.mp O];exact .head _
 grefl:=fun _=>rfl
 gtrans:=fun _ _ _ h1 h2=>h2.trans h1
 frame:=fun i s h' tk ⟨x,y,z⟩ _ e=>⟨x.keep fun q g=>e I (.head _) q g,e a (.tail _ (.head _)) _ y,e T (.tail _ (.tail _ (.head _))) _ z⟩
 item:=fun i s Q E hi ⟨x,y,z⟩ q=>by
  obtain ⟨p,hx,h1,h2⟩:=L i hi;refine ky x y g3 hf z k2 h1 h2 fun h' it W=>q _ _ rfl ⟨it,(W.2 a (ql2 hI)).trans y,(W.2 T (ql2 Z)).trans z⟩ ⟨fun b ob O e=>?_,rfl,rfl,rfl,nL _⟩
  exact (W.2 b (fun w=>O (by rw [w];exact .head _))).trans e
 done:=fun s Q E ⟨x,y,z⟩ q=>lq U x y g3 hf z k2 Y fun h' eb=>q _ ⟨fun b ob O e=>eb b ob (fun w=>O (by rw [w];exact .head _)) e,rfl,rfl,rfl,nL _⟩
 self:=fun i s Q E ⟨x,_⟩ q=>gK x q
end
section
variable {P:qc4} {u:World} {K:Type} [DecidableEq K] {κ:SK P u K} {A:qd9} {E:Value->qa4->Prop} {s:qa4} {a I:Addr} {o:Obj} {es:Array (Int×Value)} {ep n:Nat} {t:qf1}
theorem kE {sl:Nat->Nat} (U:A.handled=none) (g3:o.data=.set es ep t) (hf:t.fits es.size=true) (hI:I≠a)
 (hn:∀ i,i<es.size->∀ (s:qa4),s.heap.get? a=some o->∀ {Y:qd9} {O:Option (Value×Nat)->qa4->Prop} {W:Value->qa4->Prop},O (some (ord i,sl (i+1))) s->wpAny (model P u) Y (qy2 a (sl i) i ep) O W s)
 (he:∀ (s:qa4),s.heap.get? a=some o->∀ {Y:qd9} {O:Option (Value×Nat)->qa4->Prop} {W:Value->qa4->Prop},O none s->wpAny (model P u) Y (qy2 a (sl es.size) es.size ep) O W s) :
  WalksS P u A I [I,a] [I] (fun x y=>y=x) es.size (fun i v=>v=ord i) (fun i s=>ItAt s.heap I (qg1 (sl i)) i a es.size ep/\s.heap.get? a=some o) where
 sub:=fun b L=>by rw [qa9.mp L];exact .head _
 grefl:=fun _=>rfl
 gtrans:=fun _ _ _ h1 h2=>h2.trans h1
 frame:=fun i s h' tk ⟨x,y⟩ _ e=>⟨x.keep fun q g=>e I (.head _) q g,e a (.tail _ (.head _)) _ y⟩
 item:=fun i s Q E hi ⟨x,y⟩ q=>kz x y g3 hf (hn i hi s y) fun h' it Z=>q _ _ rfl ⟨it,(Z.2 a (ql2 hI)).trans y⟩ ⟨fun b ob L e=>(Z.2 b (fun w=>L (by rw [w];exact .head _))).trans e,rfl,rfl,rfl,nL _⟩
 done:=fun s Q E ⟨x,y⟩ q=>lu U x y g3 hf (he s y) fun h' eb=>q _ ⟨fun b ob L e=>eb b ob (fun w=>L (by rw [w];exact .head _)) e,rfl,rfl,rfl,nL _⟩
 self:=fun i s Q E ⟨x,_⟩ q=>gK x q
inductive AreK (κ:SK P u K):List Value->List K->Prop
 | nil:AreK κ [] []
 | cons (k:K) (t:Tok) {vs:List Value} {ks:List K}:AreK κ vs ks->AreK κ (κ.put k t::vs) (k::ks)
theorem AreK.len {vs:List Value} {ks:List K} (h:AreK κ vs ks):vs.length=ks.length:=by
 induction h with
 | nil=>rfl
 | cons y tk _ q=>simp [q]
theorem o4 {ss:List K} {l m:List (Int×Value)} (x:Tx κ l ss) (p:m.Perm l):∃ ks,AreK κ (m.map (·.2)) ks/\ks.Perm ss:=by
 have y:=x.perm p;refine ⟨m.map fun e=>κ.of e.2,?_,y.per⟩
 have q:∀ m:List (Int×Value),(∀ e∈m,∃ k t,e.2=κ.put k t/\e.1=κ.knd.hash k)->AreK κ (m.map (·.2)) (m.map fun e=>κ.of e.2):=fun m=>by
  induction m with
  | nil=>intro _;exact .nil
  | cons e m O =>intro h;obtain ⟨k,tk,h1,_⟩:=h e (by simp);rw [qa3,qa3,h1,κ.ofmk];exact .cons k tk (O fun z L=>h z (by simp [L]))
 exact q m y.all
theorem ny {ss:List K} {Q:Value->qa4->Prop} (hS:TxS κ s.heap a ss (dH u))
  (q:∀ (I:Addr) (fp:List Addr) (vs:List Value) (ks:List K) (St:Nat->qa4->Prop) (d:Drawn) (h':Heap),(∀ U:qd9,U.handled=none->WalksS P u U I fp [I] (fun x y=>y=x) vs.length (fun i v=>v=vs.getD i .none) St)->St 0 {s with drawn:=d,heap:=h'}->(∀ b∈fp,b<h'.objs.size/\(b=a∨s.heap.objs.size<=b))->(∀ b ob,s.heap.get? b=some ob->h'.get? b=some ob)->s.heap.objs.size<=I->AreK κ vs ks->ks.Perm ss->Q (.ref I) {s with drawn:=d,heap:=h'}) :
  wpAny (model P u) A (ze9 (.ref a)) Q E s:=by
 obtain ⟨o,es,ep,t,g1,g2,g3,x,Z,hf,hl,hp⟩:=hS.ex;have la:a<s.heap.objs.size:=qa7 g1;refine o2 g1 g2 g3 hf Z (fun ys d Y hd p=>?_) (fun hm=>?_)
 . -- drawn
   have hyl:ys.length=es.size:=by rw [p.length_eq,qh3]
   have perm:(ys.map fun i=>es.toList.getD i (0,.none)).Perm es.toList:=by
    refine (p.map _).trans ?_
    have e:(qb6 es.size).map (fun i=>es.toList.getD i (0,.none))=es.toList:=by
     apply qr9
     . simp
     . intro i h1 h2;simp at h1 h2;simp [h2]
    rw [e]
   obtain ⟨ks,k1,k2⟩:=o4 x perm;have hlen:((ys.map fun i=>es.toList.getD i (0,.none)).map (·.2)).length=es.size:=by rw [qa2,qa2,hyl]
   refine q (s.heap.objs.size+1) [s.heap.objs.size+1,a,s.heap.objs.size] ((ys.map fun i=>es.toList.getD i (0,.none)).map (·.2)) ks (fun i s'=>ItAt s'.heap (s.heap.objs.size+1) (.ref s.heap.objs.size) i a es.size ep/\s'.heap.get? a=some o/\s'.heap.get? s.heap.objs.size=some {cls:=.type "tuple",data:=.seq (ys.map fun (i:Nat)=>qg1 i).toArray}) d _ (fun U L=>?_) ⟨⟨kx (.ref s.heap.objs.size) 0 a es.size ep,?_,rfl,rfl⟩,?_,?_⟩ ?_ ?_ (qk9 _) k1 k2
   . rw [hlen];refine qz L g3 hf rfl (by simp [hyl]) (qk3 (qg7 la)) (Nat.succ_ne_self _) fun i hi=>?_
     have O:i<ys.length:=by lia
     have hy:ys[i]<es.size:=qd0.mp (p.mem_iff.mp (qs2 O));refine ⟨ys[i],es[ys[i]].1,by simp [O],?_⟩;simp [O,hy]
   . have:=qb3 (s.heap.push {cls:=.type "tuple",data:=.seq (ys.map fun (i:Nat)=>qg1 i).toArray}) (o:=kx (.ref s.heap.objs.size) 0 a es.size ep) rfl;rw [qh1] at this;exact this
   . exact gP _ (gP _ g1)
   . exact gP _ (qb3 _ rfl)
   . intro b Z;rw [qh1,qh1];rcases qb2.mp Z with rfl | Z
     . exact ⟨qk1 _,.inr (qk9 _)⟩
     . rcases qb2.mp Z with rfl | Z
       . exact ⟨qg7 (qg7 la),.inl rfl⟩
       . rw [qa9.mp Z];exact ⟨qg7 (qk1 _),.inr (nL _)⟩
   . exact fun b ob e=>gP _ (gP _ e)
 . -- by the world's text,or one at most
   have fin:∀ (m:List (Int×Value)) (sl:Nat->Nat),m.Perm es.toList->sl 0=0->(∀ U:qd9,U.handled=none->WalksS P u U s.heap.objs.size [s.heap.objs.size,a] [s.heap.objs.size] (fun x y=>y=x) es.size (fun i v=>v=(m.map (·.2)).getD i .none) (fun i s'=>ItAt s'.heap s.heap.objs.size (qg1 (sl i)) i a es.size ep/\s'.heap.get? a=some o))->Q (.ref s.heap.objs.size) {s with heap:=s.heap.push (kx (qg1 0) 0 a es.size ep)}:=fun m sl p h0 W=>by
    obtain ⟨ks,k1,k2⟩:=o4 x p;have hlen:(m.map (·.2)).length=es.size:=by rw [qa2,p.length_eq,qd5]
    have:=q s.heap.objs.size [s.heap.objs.size,a] (m.map (·.2)) ks (fun i s'=>ItAt s'.heap s.heap.objs.size (qg1 (sl i)) i a es.size ep/\s'.heap.get? a=some o) s.drawn (s.heap.push (kx (qg1 0) 0 a es.size ep)) (by rw [hlen];exact W) ⟨⟨kx (qg1 0) 0 a es.size ep,qb3 _ rfl,rfl,by rw [h0];rfl⟩,gP _ g1⟩ (fun b Z=>by
     rw [qh1];rcases qb2.mp Z with rfl | Z
     . exact ⟨qk1 _,.inr (nL _)⟩
     . rw [qa9.mp Z];exact ⟨qg7 la,.inl rfl⟩) (fun b ob e=>gP _ e) (nL _) k1 k2
    exact this
   have ne:s.heap.objs.size≠a:=qk3 la;by_cases byT:dH u=false
   . refine fin (za8 (u.params.setOrder a ep) es).toList (fun _=>0) (rW _ _) rfl fun U L=>?_
     have hsz:(za8 (u.params.setOrder a ep) es).size=es.size:=by have:=(rW (u.params.setOrder a ep) es).length_eq;simpa using this
     refine kE L g3 hf ne (fun i hi s' gs U Q' E' q'=>fS byT gs g3 hf ?_) (fun s' gs U Q' E' q'=>fS byT gs g3 hf ?_)
     . have O:i<(za8 (u.params.setOrder a ep) es).size:=by lia
       rw [qi3 O];simpa [O] using q'
     . rw [qq5 (by lia)];exact q'
   . have Y:dH u=true:=by simpa using byT
     have one:¬ (t.plain=false/\1<es.size):=by
      rcases hm with h1 | h1
      . exact absurd h1 byT
      . exact h1
     have hpl:t.place.size=es.size:=by unfold qf1.fits at hf;simp at hf;exact hf.1
     refine fin es.toList (fun i=>if h:0<i/\i<=t.place.size then t.place[i-1]+1 else 0) (qv5 _) (by simp) fun U L=>?_
     have low:∀ i,i<=es.size->qf0 t.place (if h:0<i/\i<=t.place.size then t.place[i-1]+1 else 0)=i:=fun i hi=>by
      by_cases h0:i=0
      . subst h0;simp [oW hp]
      . rw [dif_pos ⟨by lia,by lia⟩,qv hp (by lia)];lia
     refine kE L g3 hf ne (fun i hi s' gs U Q' E' q'=>gm Y (hl.trans Y) one gs g3 hf ?_) (fun s' gs U Q' E' q'=>gm Y (hl.trans Y) one gs g3 hf ?_)
     . rw [low i (qh8 hi),qi3 hi,qi3 (by lia)];rw [dif_pos ⟨by lia,by lia⟩] at q';simpa [hi] using q'
     . rw [low _ (nL _),qq5 (by lia)];exact q'
end
section
variable {P:qc4} {u:World} {K:Type} [DecidableEq K] {κ:SK P u K} {A:qd9} {E:Value->qa4->Prop} {s:qa4} {a:Addr}
theorem TxS.small {ss:List K} (x:TxS κ h a ss led):ss.length<qm2/\∃ o,h.get? a=some o/\o.cls=.type "set":=by obtain ⟨o,es,ep,t,g1,g2,L,y,q,_⟩:=x.ex;refine ⟨?_,o,g1,g2.1⟩;rw [<- y.per.length_eq,qa2,qd5];exact q
theorem jI {ss:List K} {Q:List Value->qa4->Prop} (calm:A.handled=none) (hS:TxS κ s.heap a ss (dH u))
  (q:∀ (vs:List Value) (ks:List K) (d:Drawn) (h':Heap) (tk:Nat),AreK κ vs ks->ks.Perm ss->s.heap.objs.size<=h'.objs.size->(∀ b ob,s.heap.get? b=some ob->h'.get? b=some ob)->Q vs {s with drawn:=d,heap:=h',toks:=tk}):wpAny (model P u) A (collect (.ref a)) Q E s:=by
 obtain ⟨hsz,o,g1,gc⟩:=hS.small;have la:a<s.heap.objs.size:=qa7 g1;unfold collect;refine wB (zb7 (qj5 PySem.F.entry_proto_collect ?_));rw [qh7 PySem.F.plain_proto_collect _];show wpAny _ A.in1 (newList [] >>= fun l=>again (.builtin "list.__iadd__" ⟨[l,.ref a],[]⟩)) _ _ s;refine wB (qd2 ?_);refine qa5 ⟨qs8 PySem.F.plain_list_iadd _,qj5 PySem.F.entry_list_iadd ?_⟩;rw [qh7 PySem.F.plain_list_iadd _];show wpAny _ A.in1 (qn5 (.ref s.heap.objs.size) (.ref a) (.ref s.heap.objs.size)) _ _ _;have hS1:TxS κ (s.heap.push {cls:=.type "list",data:=.seq ([]:List Value).toArray}) a ss (dH u):=hS.moved fun ob e=>gP _ e
 have hT1:zd3 {s with heap:=s.heap.push {cls:=.type "list",data:=.seq ([]:List Value).toArray}} (.ref a) "set":=⟨o,gP _ g1,gc⟩;have gL:(s.heap.push {cls:=.type "list",data:=.seq ([]:List Value).toArray}).get? s.heap.objs.size=some {cls:=.type "list",data:=.seq ([]:List Value).toArray}:=qb3 _ rfl;unfold qn5;refine wB (ze2 hT1 ?_);have h1:qx0 (.ref s.heap.objs.size) (.ref a)=false:=by simp [qx0,qk3 la]
 have h2:(qn7 "set"==qn7 "list")=false:=by decide
 have h3:(qn7 "set"==qn7 "tuple")=false:=by decide
 simp only [h1,h2,h3,zd0,qu7,if_false];refine wB (ny (s:={s with heap:=s.heap.push {cls:=.type "list",data:=.seq ([]:List Value).toArray}}) hS1 fun I fp vs ks St d h' W st hfp keep hI k1 k2=>?_);have hTI:zd3 {s with drawn:=d,heap:=h'} (.ref a) "set":=⟨o,keep a o (gP _ g1),gc⟩;refine wB (qi8 (nu hTI ?_));show wpAny _ A.in1 (rule "list.extend.makes-room" >>= fun _=>qj1.List.listTouch (.ref s.heap.objs.size) >>= fun _=>again (.builtin "list.extend.loop" ⟨[.ref s.heap.objs.size,.ref I,.ref s.heap.objs.size],[]⟩)) _ _ _;refine wB (zd8 (wB ?_));have gL1:=keep _ _ gL;show wpAny _ A.in1 (updateSeq s.heap.objs.size (·.push .none) >>= fun _=>updateSeq s.heap.objs.size (·.pop)) _ _ _;refine wB (wpAny_updateSeq gL1 rfl ?_);have Z:=qf2 (qp0 (·.push qj8)) gL1 rfl;refine wpAny_updateSeq Z rfl ?_;have gL3:=qf2 (qp0 (·.pop)) Z rfl;have U:∀ b ob,b≠s.heap.objs.size->h'.get? b=some ob->((h'.update s.heap.objs.size (qp0 (·.push qj8))).update s.heap.objs.size (qp0 (·.pop))).get? b=some ob:=fun b ob hb e=>(qm9 _ _ (ql2 hb)).trans ((qm9 _ _ (ql2 hb)).trans e)
 have O:s.heap.objs.size∉fp:=fun hm=>by
  rcases (hfp _ hm).2 with z | z
  . exact qk3 la z
  . have z:(s.heap.push {cls:=.type "list",data:=.seq ([]:List Value).toArray}).objs.size<=s.heap.objs.size:=z;rw [qh1] at z;exact Nat.not_succ_le_self _ z
 have W1:=W A.in1 (by simp [calm])
 have hvl:vs.length<=qb0:=by
  have e:vs.length=ss.length:=by rw [<- k2.length_eq];exact k1.len
  rw [e];exact qr4 hsz
 refine qa5 ⟨qs8 PySem.F.plain_extend_loop _,codeAny_extend_loopS W1 hvl _ O _ vs.length 0 _ _ _ rfl (qj2 _) (W1.frame 0 ({s with drawn:=d,heap:=h'}:qa4) _ s.toks st (nL _) fun b hb ob e=>U b ob (fun h=>O (h▸hb)) e) gL3 (ItemsOf.nil _) fun s2 acc c2 mv Y L=>?_⟩;show wpAny _ A (load s.heap.objs.size >>= _) _ _ s2;refine wB (wpAny_load Y ?_)
 have hav:acc.toList=vs:=by
  apply qr9
  . simpa using L.1
  . intro i h1 h2;have:=L.2 i acc.toList[i] (by simp);rw [this];simp [h2]
 rw [<- hav] at k1;obtain ⟨h2',g2',d2',tk2',o2'⟩:=s2;have eg:g2'=s.gens:=mv.gens;have ed:d2'=d:=mv.drawn;have eo:o2'=s.os:=mv.os;subst eg ed eo;refine qa5 (q acc.toList ks d2' h2' tk2' k1 k2 (qh8 (qa7 Y)) fun b ob e=>?_);have nb:b≠s.heap.objs.size:=qc2 (qa7 e);refine mv.heap b ob (fun hm=>?_) (U b ob nb (keep b ob (gP _ e)));rcases qb2.mp hm with z | z
 . exact nb z
 . rw [qa9.mp z] at e;have z2:(s.heap.push {cls:=.type "list",data:=.seq ([]:List Value).toArray}).objs.size<=I:=hI;rw [qh1] at z2;exact absurd (qa7 e) (qm1.mpr (Nat.le_of_succ_le z2))
end
section
variable {P:qc4} {u:World} {K:Type} [DecidableEq K] {κ:SK P u K} {A:qd9} {E:Value->qa4->Prop} {s:qa4} {a:Addr}
noncomputable def iZ (κ:SK P u K) (srt:List K->List K):Prop:=∀ {A:qd9} {E:Value->qa4->Prop} {s:qa4} {a:Addr} {vs:List Value} {ks:List K} {n:Nat} {Q:Fin->qa4->Prop},s.heap.get? a=some (ze4 "list" vs.toArray n)->AreK κ vs ks->vs.length<64→ (∀ q:Array Value,AreK κ q.toList (srt ks)->Q (.done (.ret .none)) {s with heap:=sortedHeap s.heap a vs q})->wpAny (model P u) A (qj1.«list.sort» ⟨[.ref a],[]⟩) Q E s
theorem kF {ss:List K} {srt:List K->List K} {Q:Value->qa4->Prop} (hs:iZ κ srt) (pm:∀ {ks},ks.Perm ss->srt ks=srt ss) (U:A.handled=none) (hS:TxS κ s.heap a ss (dH u)) (Y:ss.length<64)
  (q:∀ (l:Addr) (O:Array Value) (d:Drawn) (h':Heap) (tk:Nat),AreK κ O.toList (srt ss)->(∃ e,h'.get? l=some (ze4 "list" O e))->s.heap.objs.size<=l->(∀ b ob,s.heap.get? b=some ob->h'.get? b=some ob)->Q (.ref l) {s with drawn:=d,heap:=h',toks:=tk}):wpAny (model P u) A (call (.builtin "sorted") [.ref a]) Q E s:=by
 refine qv7 kind_sorted plain_sorted entry_sorted (args_sorted1 _) ?_;unfold qj1.«sorted»;refine wB (m:=checkCount "sorted" 1 1 _) (qa5 ?_);refine qh6 (jI (by simp [U]) hS fun vs ks d h' tk k1 Z le keep=>?_);have L:vs.length<64:=by rw [k1.len,Z.length_eq];exact Y
 refine wB (wpAny_newList ?_ (qc7 (qh8 L) (by decide)));have W:(h'.push (ze4 "list" vs.toArray 0)).get? h'.objs.size=some (ze4 "list" vs.toArray 0):=qb3 _ rfl;show wpAny _ _ _ _ _ {s with drawn:=d,toks:=tk,heap:=h'.push (ze4 "list" vs.toArray 0)};refine wB (qi8 (qg4 slot_list_sort ⟨_,W,rfl⟩ entry_list_sort (hs W k1 L fun O a1=>⟨_,rfl,?_⟩) (args_list_sort _)));refine qa5 ⟨_,rfl,?_⟩;refine q _ _ d _ tk (pm Z▸a1) (sortedHeap_at W) le fun b ob e=>?_
 have lt:b<h'.objs.size:=qa7 (keep b ob e);rw [sortedHeap_old (qc2 lt) (by rw [size_push'];exact qg7 lt)];exact gP _ (keep b ob e)
end
variable {ks:List Str}
section
variable {P:qc4} {u:World}
theorem vW {vs:List Value} (h:AreK (tT P u) vs ks):StrsAre vs ks:=by
 induction h with
 | nil=>exact .nil
 | cons k t _ q=>exact .cons k t q
theorem vX {vs:List Value} (h:StrsAre vs ks):AreK (tT P u) vs ks:=by
 induction h with
 | nil=>exact .nil
 | cons k t _ q=>exact AreK.cons (κ:=tT P u) k t q
theorem o5 {vs:List Value} {ks:List Int} (h:AreK (oY P u) vs ks):qv0 vs ks:=by
 induction h with
 | nil=>exact .nil
 | cons k t _ q=>exact .cons k t q
theorem o6 {vs:List Value} {ks:List Int} (h:qv0 vs ks):AreK (oY P u) vs ks:=by
 induction h with
 | nil=>exact .nil
 | cons k t _ q=>exact AreK.cons (κ:=oY P u) k t q
theorem vY:iZ (tT P u) aZ:=fun {A E s a vs ks n Q} g k L q=>by
 have U:=vW k;refine list_sort_treeK strKind_oneLt g U.keysOf (fun v1 v2 r e=>keyKind_strs (by rw [<- e];exact U)) L fun st W Z=>?_
 obtain ⟨O,e1,e2,Y⟩:=sorted_out_str U W Z;have e:O=aZ ks:=h9 (e2.trans (cA ks).symm) (mf O Y) (gI ks);exact q _ (vX (e▸e1))
theorem vZ {ss:List Str} (p:ks.Perm ss):aZ ks=aZ ss:=h9 ((cA ks).trans (p.trans (cA ss).symm)) (gI ks) (gI ss)
noncomputable def eI (ns:List Int):List Int:=ns.mergeSort fun a b=>decide (a<=b)
theorem dy (ns:List Int):(eI ns).Perm ns:=List.mergeSort_perm ns _
theorem kG (ns:List Int):(eI ns).Pairwise (· <= ·):=by have:=qx7 (le:=fun a b:Int=>decide (a<=b)) (fun a b c h1 h2=>by simp at *;lia) (fun a b=>by simp;lia) ns;exact this.imp fun {a b} h=>by simpa using h
theorem kH {a b:List Int} (p:a.Perm b) (h1:a.Pairwise (· <= ·)) (h2:b.Pairwise (· <= ·)):a=b:=zf2.eq_of_pairwise (fun a b _ _ x y=>Int.le_antisymm x y) h1 h2 p
theorem o7:iZ (oY P u) eI:=fun {A E s a vs ks n Q} g k L q=>by
 refine list_sort_tree g (o5 k) L fun U ns O Y W=>?_
 have e:ns=eI ks:=kH (Y.trans (dy ks).symm) W (kG ks);exact q _ (o6 (e▸O))
theorem v0 {ss ks:List Int} (p:ks.Perm ss):eI ks=eI ss:=kH ((dy ks).trans (p.trans (dy ss).symm)) (kG ks) (kG ss)
end
section
variable {K:Type} [DecidableEq K]
noncomputable def bq (ss:List K):List K:=ss.foldl de []
theorem mo [Inhabited K] (ss:List K):met (fun i=>ss.getD i default) ss.length=bq ss:=by
 unfold met bq;congr 1;apply qr9
 . simp
 . intro i h1 h2;simp at h1;simp [h1]
theorem mq [Inhabited K] (ss:List K):(bq ss).length<=ss.length:=by rw [<- mo];exact nq _ _
end
theorem Inv.dr (I:Inv X pins σ H s) (d:Drawn):Inv X pins σ H {s with drawn:=d}:=⟨I.ok,I.os,I.bare,I.base,I.loc,I.cell,I.free,I.freeC,I.pin,I.hok,I.len⟩
section
variable {X:Cx} {K:Type} [DecidableEq K] [Inhabited K] {κ:SK X.prog X.w K} {kv:K->V}
theorem v5:∀ {vs:List Value} {ss:List K},AreK κ vs ss->∀ (i:Nat) (v:Value),vs[i]?=some v->∃ t,v=κ.put (ss.getD i default) t
 | _,_,.nil,i,v,h=>by simp at h
 | _,_,.cons y t r,0,v,h=>by simp at h;exact ⟨t,by rw [<- h];rfl⟩
 | _,_,.cons y t r,i+1,v,h=>v5 r i v (by simpa using h)
abbrev o8 (κ:SK X.prog X.w K) (l:Addr) (ss:List K):HO:=.ext fun h=>TxS κ h l ss (dH X.w)
noncomputable def qA (κ:SK X.prog X.w K) (kv:K->V):Prop:=∀ k v,RelV (kv k) v↔∃ t,v=κ.put k t
theorem o9 (q:qA κ kv):∀ {ss:List K} {its:List Value},Vals (ss.map kv) its->AreK κ its ss
 | [],_,h=>by cases h;exact .nil
 | x::ss,_,h=>by
  cases h with
  | cons h1 h2 =>obtain ⟨t,rfl⟩:=(q x _).mp h1;exact .cons x t (o9 q h2)
theorem pb (q:qA κ kv):∀ {its:List Value} {ss:List K},AreK κ its ss->Vals (ss.map kv) its
 | _,_,.nil=>.nil
 | _,_,.cons x t h=>.cons ((q x _).mpr ⟨t,rfl⟩) (pb q h)
theorem mr (hk:qA κ kv) (O:X.calm=true):CallR X (.type "set") (fun xs H Q=>∃ p ss,xs=[.ref p]/\SqL X.K H p (ss.map kv)/\ss.length<4000/\∀ l,H l=none->Q (.ref l) (upd H l (o8 κ l (bq ss)))):=by
 intro pins s σ H xs us Q I r h;obtain ⟨p,ss,rfl,Z,hz,q⟩:=h;obtain ⟨u,rfl,W⟩:=fM r;cases W;obtain ⟨its,r',pl,hz'⟩:=I.list Z;have Y:=o9 hk r';have L:its.length=ss.length:=by have:=r'.length;simpa using this.symm
 have hi:∀ (i:Nat) (v:Value),its.toArray[i]?=some v->∃ t,v=κ.put (ss.getD i default) t:=fun i v hv=>v5 Y i v (by simpa using hv)
 have hb:its.toArray.size+1<qm2:=by
  have:its.toArray.size=ss.length:=by simpa using L
  rw [this];unfold qm2;lia
 refine vV (I.ok.hd O) pl.isList hi hb fun hp tk U kept=>?_
 have e:met (fun i=>ss.getD i default) its.toArray.size=bq ss:=by rw [show its.toArray.size=ss.length by simpa using L];exact mo ss
 rw [e] at U;refine ⟨.ref s.heap.objs.size,_,I.laid (t':=tk) (fun b o g=>kept b o (qa7 g) g) (nL _) (show ObjOk X.prog X.w _ _ _ (o8 κ s.heap.objs.size (bq ss)) from ⟨U,?_,fun h1 h2 x g=>x.moved g⟩),rfl,q _ (I.hok.fresh (nL _))⟩;obtain ⟨_,o,g,_⟩:=U.small;exact ⟨o,g⟩
theorem nz {srt:List K->List K} (hk:qA κ kv) (hs:iZ κ srt) (pm:∀ {ss ks},ks.Perm ss->srt ks=srt ss) (pl:∀ ss,(srt ss).length=ss.length) (L:X.calm=true):CallR X (.builtin "sorted") (fun xs H Q=>∃ p ss,xs=[.ref p]/\H p=some (o8 κ p ss)/\ss.length<64/\∀ l,H l=none->Q (.ref l) (upd H l (.lst ((srt ss).map kv)))):=by
 intro pins s σ H xs us Q I r h;obtain ⟨p,ss,rfl,hq,Y,q⟩:=h;obtain ⟨u,rfl,rx⟩:=fM r;cases rx;have hT:TxS κ s.heap p ss (dH X.w):=(show ObjOk X.prog X.w H s.heap p (o8 κ p ss) from I.hok p _ hq).1;refine kF hs pm (I.ok.hd L) hT Y fun l O d h' tk Z U W kept=>?_
 obtain ⟨c,U⟩:=U;refine ⟨.ref l,_,(I.laid (t':=tk) kept W (show ObjOk X.prog X.w _ _ _ (.lst ((srt ss).map kv)) from ⟨?_,O.toList,c,pb hk Z,U⟩)).dr d,rfl,q _ (I.hok.fresh W)⟩;rw [qa2,pl];exact qc7 (qh8 Y) (by decide)
end
theorem kvS {X:Cx}:qA (X:=X) (tT X.prog X.w) V.str:=fun _ _=>Iff.rfl
theorem kvI {X:Cx}:qA (X:=X) (oY X.prog X.w) V.int:=fun _ _=>Iff.rfl
noncomputable def tV {K:Type} [DecidableEq K] (rd:List Dt->Option (List K)) (srt:List K->List K) (wr:K->Dt):List Dt->Option T
 | [.lst ds]=>(rd ds).bind fun ss=>if ss.length<4000/\(bq ss).length<64 then some (.lst ((srt (bq ss)).map wr)) else none
 | _=>none
noncomputable def lv:List Dt->Option (List Int)
 | []=>some []
 | .int k::r=>(lv r).map (k::·)
 | _=>none
theorem jQ {F:Hp}:∀ {l:List Dt} {vs:List V} {bs:List Int},Reps K F l vs->lv l=some bs->vs=bs.map V.int
 | [],vs,bs,r,h=>by cases h;simp only [Reps] at r;exact r
 | d::l,vs,bs,r,h=>by
  cases d<;>first | cases h;done | skip
  simp only [lv] at h;obtain ⟨cs,L,h⟩:=mS h;cases h;simp only [Reps,Rep] at r;obtain ⟨v,O,rfl,rfl,q⟩:=r;rw [jQ q L];rfl
noncomputable def fT:List Dt->Option T:=tV f8 aZ .str
noncomputable def dg:List Dt->Option T:=tV lv eI .int
theorem jm {F:Hp}:∀ ns:List Int,Reps K F (ns.map .int) (ns.map V.int)
 | []=>by simp only [qm3,Reps]
 | x::ss=>by simp only [qa3,Reps];exact ⟨_,_,rfl,by simp only [Rep],jm ss⟩
section
variable {X:Cx} {e:Expr} {pos pos2 p p2:Pos} {sc:Scope} {fs:De->Option (List Dt)}
theorem v6 {K:Type} [DecidableEq K] [Inhabited K] {rd:List Dt->Option (List K)} {srt:List K->List K} {wr:K->Dt} (κ:SK X.prog X.w K) {kv:K->V} (Z:qA κ kv) (U:iZ κ srt) (pm:∀ {ss ks},ks.Perm ss->srt ks=srt ss) (pl:∀ ss,(srt ss).length=ss.length)
  (hr:∀ {F:Hp} {l:List Dt} {vs:List V} {bs:List K},Reps X.K F l vs->rd l=some bs->vs=bs.map kv) (hw:∀ {F:Hp} (ns:List K),Reps X.K F (ns.map wr) (ns.map kv))
  (h1:aH sc "sorted"=true) (h2:aH sc "set"=true) (W:X.calm=true) (m1:X.mg "sorted"=none) (m2:X.mg "set"=none) (ha:DAB X [e] fs) (e1:cP X sc)
  (s1:qa6 [.Call (.Name "set" p2) [e] [] pos2] X.env=(false,eval (.Call (.Name "set" p2) [e] [] pos2) X.env)::qa6 [] X.env) (n1:(qh9 pos (qa6 [] X.env)).any (·.1)=false)
  (s2:qa6 [e] X.env=(false,eval e X.env)::qa6 [] X.env) (n2:(qh9 pos2 (qa6 [] X.env)).any (·.1)=false):DO X (.Call (.Name "sorted" p) [.Call (.Name "set" p2) [e] [] pos2] [] pos) (ah (tV rd srt wr) fs):=
 PE.mono (g7 h1 (nz Z U pm pl W) m1 (by rfl) (d7 (ix h2 (mr Z W) m2 (by rfl) ha.pa e1 s2 n2) fY s1) e1 s1 n1) fun σ H Q ⟨Φ,δ,F,t,hK,en,Y,k⟩=>by
  unfold ah at Y;obtain ⟨ds,hd,q⟩:=bS Y;refine ⟨Φ,δ,F,ds,hK,en,hd,fun vs H1 F1 st r=>?_⟩;unfold tV at q;split at q<;>first | (cases q;done) | skip
  obtain ⟨ss,U,q⟩:=bS q;split at q<;>cases q
  rename_i hz;obtain ⟨v,rfl,rv⟩:=dw r;obtain ⟨b,ws,rfl,g1,g2⟩:=rv;have:=hr g2 U;subst this;refine ⟨b,ss,rfl,g1,hz.1,fun l hl=>?_⟩;have L:Step F1 H1 F1 (upd H1 l (o8 κ l (bq ss))):=Step.made st.fh hl;refine ⟨l,bq ss,rfl,bi,hz.2,fun l2 O=>?_⟩;exact g9 (k.step (st.trans L)) L.fh (hw _) O
theorem kJ (h1:aH sc "sorted"=true) (h2:aH sc "set"=true) (O:X.calm=true) (L:X.mg "sorted"=none) (q:X.mg "set"=none) (U:DAB X [e] fs) (e1:cP X sc:=by rfl)
  (s1:qa6 [.Call (.Name "set" p2) [e] [] pos2] X.env=(false,eval (.Call (.Name "set" p2) [e] [] pos2) X.env)::qa6 [] X.env:=by rfl) (n1:(qh9 pos (qa6 [] X.env)).any (·.1)=false:=by rfl)
  (W:qa6 [e] X.env=(false,eval e X.env)::qa6 [] X.env:=by rfl) (n2:(qh9 pos2 (qa6 [] X.env)).any (·.1)=false:=by rfl):DO X (.Call (.Name "sorted" p) [.Call (.Name "set" p2) [e] [] pos2] [] pos) (ah fT fs):=
 v6 (tT X.prog X.w) kvS vY vZ (fun ss=>(cA ss).length_eq) (fun g h=>hJ g h) (fun ss=>ji ss) h1 h2 O L q U e1 s1 n1 W n2
theorem pc (h1:aH sc "sorted"=true) (h2:aH sc "set"=true) (O:X.calm=true) (L:X.mg "sorted"=none) (q:X.mg "set"=none) (U:DAB X [e] fs) (e1:cP X sc:=by rfl)
  (s1:qa6 [.Call (.Name "set" p2) [e] [] pos2] X.env=(false,eval (.Call (.Name "set" p2) [e] [] pos2) X.env)::qa6 [] X.env:=by rfl) (n1:(qh9 pos (qa6 [] X.env)).any (·.1)=false:=by rfl)
  (W:qa6 [e] X.env=(false,eval e X.env)::qa6 [] X.env:=by rfl) (n2:(qh9 pos2 (qa6 [] X.env)).any (·.1)=false:=by rfl):DO X (.Call (.Name "sorted" p) [.Call (.Name "set" p2) [e] [] pos2] [] pos) (ah dg fs):=
 v6 (oY X.prog X.w) kvI o7 v0 (fun ss=>(dy ss).length_eq) (fun g h=>jQ g h) (fun ss=>jm ss) h1 h2 O L q U e1 s1 n1 W n2
end
section
variable {X:Cx} {e o:Expr} {fa fe:Fg} {pos apos cpos:Pos}
noncomputable def kK (fa:Fg):Fg:=fun δ ch=>(fa δ ch).bind fun p=>match p.1 with
 | .ref i=>match p.2[i]? with
  | some (.lst l)=>(l.getLast?).map fun c=>(c,p.2.set i (.lst l.dropLast))
  | _=>none
 | _=>none
theorem RelCs.dropLast {F:Hp} {l:List CV} (h:RelCs K F ρ n l vs):RelCs K F ρ n l.dropLast vs.dropLast:=by rw [za9,za9,h.length];exact h.take _
theorem yq (hx:GE X o fa) (L:qk5 o "pop" X.env (eval o X.env)=eval o X.env:=by rfl) (q:(apos.endLine==cpos.line)=true:=by rfl):GE X (.Call (.Attribute o "pop" apos) [] [] cpos) (kK fa):=
 PE.mono (AG PySem.F.plainAttrs_list PySem.F.slot_list_pop PySem.F.type_list_pop AH hx L q) fun σ H Q ⟨δ,ch,F,ρ,c,ch',en,hf,kk⟩=>by
  unfold kK at hf;obtain ⟨⟨c1,ch1⟩,hp,O⟩:=bS hf;clear hf;dsimp only at O;split at O<;>first | (cases O;done) | skip
  rename_i i;split at O<;>first | (cases O;done) | skip
  rename_i l h0;obtain ⟨c0,U,Z⟩:=mS O;cases Z;refine ⟨δ,ch,F,ρ,_,ch1,en,hp,fun v F1 H1 ρ1 Y r1=>?_⟩;obtain ⟨vs,q1,q2⟩:=Y.gh.ok i _ h0;obtain ⟨hi,rfl⟩:=r1;have hl:=q2.length;rw [List.getLast?_eq_getElem?] at U;obtain ⟨y,hy,ry⟩:=q2.get U;rw [<- hl] at hy;have hi2:i<ch1.length:=(gX h0).1;have W:=Adv.upd (o:=.lst l.dropLast) (u:=.lst vs.dropLast) (w:=.lst vs) Y.gh hi2 q1 (fun _ _ z=>nomatch z) ⟨_,bi,q2.dropLast⟩;refine ⟨.inl ⟨rfl,vs,.inl (.inl q1)⟩,_,vs,y,rfl,rfl,q1,hy,?_⟩;exact kk y F1 _ ρ1 (Y.trans en.gh W) (ry.mono W.old W.ext W.len)
end
section
variable {P:qc4} {u:World} {A:qd9} {E:Value->qa4->Prop} {s:qa4} {Ty:String} {r d:Addr} {n:Nat} {Pr:Nat->Value->Prop} {OK:Heap->Prop}
theorem v7 {R:Result->qa4->Prop} (K:PySem.W.KdlSrc P u Ty r d n Pr OK) (Y:A.handled=none) (L:OK s.heap) (hn:n<=qb0)
  (q:∀ (h':Heap) (tk:Nat) (acc:Array Value) (c:Nat),(∀ b o,s.heap.get? b=some o->h'.get? b=some o)->h'.get? s.heap.objs.size=some {cls:=.type "list",dict:=none,data:=.seq acc c,slots:=#[]}->ItemsOf Pr acc n->R (.ok (.ret (.ref s.heap.objs.size))) {s with heap:=h',toks:=tk}):qt3 (model P u) A (.builtin "proto.collect" ⟨[.ref r],[]⟩) R s:=by
 have O:=K.there _ L;refine qj5 PySem.F.entry_proto_collect ?_;rw [qh7 PySem.F.plain_proto_collect _];show wpAny _ A.in1 (newList [] >>= fun l=>again (.builtin "list.__iadd__" ⟨[l,.ref r],[]⟩)) _ _ s;refine wB (qd2 ?_);refine qa5 ⟨qs8 PySem.F.plain_list_iadd _,qj5 PySem.F.entry_list_iadd ?_⟩;rw [qh7 PySem.F.plain_list_iadd _];show wpAny _ A.in1 (qn5 (.ref s.heap.objs.size) (.ref r) (.ref s.heap.objs.size)) _ _ _;have Z:(s.heap.push {cls:=.type "list",data:=.seq ([]:List Value).toArray}).get? s.heap.objs.size=some {cls:=.type "list",data:=.seq ([]:List Value).toArray}:=qb3 _ rfl;exact PySem.W.kdl_extend (R:=R) (s:={s with heap:=s.heap.push {cls:=.type "list",data:=.seq ([]:List Value).toArray}}) K Y (K.keep _ _ L fun b _ o e=>gP _ e) _ (qk3 O.1) (qk3 O.2) _ 0 Z (fun h' tk acc c kp hS U=>q h' tk acc c (fun b o e=>kp b o (qc2 (qa7 e)) (gP _ e)) hS U) hn
theorem pd {Q:List Value->qa4->Prop} (K:PySem.W.KdlSrc P u Ty r d n Pr OK) (O:A.handled=none) (U:OK s.heap) (Z:n<=qb0)
  (q:∀ (h':Heap) (tk:Nat) (acc:Array Value),(∀ b o,s.heap.get? b=some o->h'.get? b=some o)->s.heap.objs.size<=h'.objs.size->ItemsOf Pr acc n->Q acc.toList {s with heap:=h',toks:=tk}):wpAny (model P u) A (collect (.ref r)) Q E s:=by
 unfold collect;refine wB (zb7 (v7 K O U Z fun h' tk acc c kp Y L=>?_));show wpAny _ A (load s.heap.objs.size >>= _) _ _ _;refine wB (wpAny_load Y ?_);exact qa5 (q h' tk acc kp (qh8 (qa7 Y)) L)
end
section
variable {X:Cx}
variable {e o:Expr} {es:List Expr} {fo:De->Option Dt} {fs:De->Option (List Dt)} {apos cpos pos:Pos}
noncomputable def y58 (i:Nat) (f:De->Option T):De->Option Out:=fun δ=>match δ[i]? with
 | some (some (.lst l))=>(f δ).bind fun t=>match t with
  | .lst m=>if l.length+m.length<=qb0 then some (.nx (δ.set i (some (.lst (l++m))))) else none
  | _=>none
 | _=>none
theorem tW {fe:De->Option T} (hx:PE X o (li i)) (he:DO X e fe)
 (U:qk5 o "extend" X.env (eval o X.env)=eval o X.env:=by rfl)
 (W:((qh9 cpos (qa6 [e] X.env)).all (fun x=>!x.1)&&(zb2 cpos (qr0 [] X.env)).all (fun x=>x.1.isSome)
 && decide ([e].length+([]:List qp6).length+(if ([]:List qp6).isEmpty then 0 else 1)<30))=true:=by rfl)
 (O:(apos.endLine==cpos.line)=true:=by rfl) (hs:qa6 [e] X.env=(false,eval e X.env)::qa6 [] X.env:=by rfl) (L:(qh9 cpos (qa6 [] X.env)).any (·.1)=false:=by rfl)
 (Y:qm6 (.Call (.Attribute o "extend" apos) [e] [] cpos) none pos.line X.env=pure false:=by rfl) :
  DS1 X (.Expr (.Call (.Attribute o "extend" apos) [e] [] cpos) pos) (y58 i fe):=
 PS.mono (mL (nY PySem.F.plainAttrs_list PySem.F.slot_list_extend PySem.F.type_list_extend sZ hx (d7 he fY hs) U W O hs L) Y) fun D σ H ⟨Φ,δ,F,ot,hK,en,q,k⟩=>by
  unfold y58 at q;split at q<;>first | cases q;done | skip
  rename_i l hl;obtain ⟨t,hd,q⟩:=bS q;split at q<;>first | cases q;done | skip
  rename_i m;split at q<;>first | cases q;done | skip
  rename_i hz;cases q;obtain ⟨a,vs,hv,h1,h2⟩:=en.ownL hl;refine ⟨.ref a,hv,.inl ⟨rfl,vs,.inl (.inl h1)⟩,Φ,δ,F,.lst m,hK,en,hd,fun v H1 F1 S st ov hS=>?_⟩;have en1:=en.step st;have Z:=st.hh _ _ h1;obtain ⟨b,ws,rfl,sb,g1,g2⟩:=ov;refine ⟨a,b,vs,ws,rfl,rfl,Z,g1,by rw [h2.length,g2.length];exact hz,?_⟩;refine k σ F1 _ (en1.poke hl hv (fun d z=>nomatch z) fun S sa=>⟨a,vs++ws,rfl,sa,bi,(h2.same st.ff).append (hK▸g2)⟩)
end
section
variable {X:Cx} {elt tg iter:Expr} {ifs:List Expr} {scope:Scope} {pos:Pos} {M:List Str} {src:List (Option Nat)} {fd fe:Fg} {ft:Ft} {i t:Nat}
end
noncomputable def loD (m:Nat) (δ:Sl) (ch:CH):De:=δ.map fun o=>o.bind fun c=>(vwD ch m c).map T.leaf
section
variable {K:PySem.W.Frag} {F H:Hp} {ρ:Nat->Addr} {δ:Sl} {σ:St} {ch:CH}
theorem rX {t:T} (h:(loD m δ ch)[j]?=some (some t)):∃ c d,δ[j]?=some (some c)/\vwD ch m c=some d/\t=.leaf d:=by unfold loD at h;rw [qb1] at h;obtain ⟨o,O,h1⟩:=mS h;obtain ⟨c,q,h2⟩:=bS h1;obtain ⟨d,L,h3⟩:=mS h2;exact ⟨c,d,by rw [O,q],L,h3.symm⟩
theorem Ge.enD (m:Nat) (e:Ge K δ ch σ F H ρ):En ⟨K,H,H,fun _=>False⟩ (loD m δ ch) σ H H:=by
 refine ⟨Same.refl _,fun b o h _=>h,Same.refl _,fun b o h=>.inl h,by simp [loD,e.len],fun j t h=>?_,fun _ _=>False,fun j t v h=>?_,fun j b z=>z.elim,fun j k b z _=>z.elim⟩
 . obtain ⟨c,d,q,_⟩:=rX h;obtain ⟨v,O,_⟩:=e.has j _ q;exact ⟨v,O⟩
 . obtain ⟨h1,h2⟩:=eX h;obtain ⟨c,d,q,U,rfl⟩:=rX h1;obtain ⟨w,L,r⟩:=e.has j _ q;rw [h2] at L;cases L;exact iW e.gh m c v d r U
end
noncomputable def eDV (m:Nat) (f:De->Option T):Fg:=fun δ ch=>(f (loD m δ ch)).bind fun u=>(iQ u).bind (al ch)
noncomputable def tDV (m:Nat) (f:De->Option Bool):Ft:=fun δ ch=>(f (loD m δ ch)).map fun b=>(b,ch)
section
variable {X:Cx} {e:Expr}
theorem CP (m:Nat) {f:De->Option T} (h:DO X e f):GE X e (eDV m f):=PE.mono h fun σ H Q ⟨δ,ch,F,ρ,c,ch',en,q,k⟩=>by unfold eDV at q;obtain ⟨u,L,q⟩:=bS q;obtain ⟨t,O,q⟩:=bS q;exact ⟨_,loD m δ ch,H,u,rfl,en.enD m,L,iR en.gh.fh O (l6 en.gh q k)⟩
theorem CQ (m:Nat) {f:De->Option Bool} (h:DT X e f):GT X e (tDV m f):=PT.mono h fun σ H Q ⟨δ,ch,F,ρ,b,ch',en,q,k⟩=>by unfold tDV at q;obtain ⟨O,L,q⟩:=mS q;cases q;exact ⟨_,loD m δ ch,H,b,rfl,en.enD m,L,fun H' F' st=>k F H' ρ (Adv.of en.gh ⟨st.hh,Same.refl _,en.gh.fh.trans st.hh,fun _ _ z=>.inl z⟩)⟩
end
noncomputable def v8:Dt->Bool
 | .non=>true | .bl _=>true | .int _=>true | .str _=>true
 | _=>false
theorem pe {F:Hp} {d:Dt} (h:v8 d=true) (r:Rep K F d v):Rep K F' d v:=by cases d<;>first | (simp [v8] at h;done) | (simp only [Rep] at r ⊢;exact r)
noncomputable def svD (ch:CH):Nat->CV->Option Dt
 | _,.dat d=>if v8 d then some d else none
 | _,.fn _ _=>none
 | 0,.ref _=>none
 | n+1,.ref i=>match ch[i]? with
  | some (.lst l)=>(cI (svD ch n) l).map .lst
  | some (.tup l)=>(cI (svD ch n) l).map .tup
  | _=>none
theorem rY {F:Hp} (L:Gh K F H ρ ch) (O:∀ i u,i<ch.length->H (ρ i)=some u->G (ρ i)=some u):∀ (n:Nat) (c:CV) (v:V) (d:Dt),RelC K F ρ ch.length c v->svD ch n c=some d->Rep K G d v
 | 0,.dat d',v,d,r,h=>by
  simp only [svD] at h;split at h<;>cases h
  rename_i q;exact pe q r
 | n+1,.dat d',v,d,r,h=>by
  simp only [svD] at h;split at h<;>cases h
  rename_i q;exact pe q r
 | 0,.fn _ _,v,d,r,h=>by simp only [svD] at h;cases h
 | n+1,.fn _ _,v,d,r,h=>by simp only [svD] at h;cases h
 | 0,.ref i,v,d,r,h=>by simp only [svD] at h;cases h
 | n+1,.ref i,v,d,r,h=>by
  obtain ⟨hi,rfl⟩:=r;simp only [svD] at h;have Y:=rY L O n;split at h
  . rename_i l U;obtain ⟨ds,W,rfl⟩:=mS h;obtain ⟨vs,h1,h2⟩:=L.ok i _ U;simp only [Rep];exact ⟨_,vs,rfl,SqL.of (O i _ hi h1),dB Y h2 W⟩
  . rename_i l U;obtain ⟨ds,W,rfl⟩:=mS h;obtain ⟨vs,h1,h2⟩:=L.ok i _ U;simp only [Rep];exact ⟨_,vs,rfl,SqT.of (O i _ hi h1),dB Y h2 W⟩
  . cases h
noncomputable def jJ (g:Fd):List Dt->Option T:=fun ds=>(g (ds.map .dat) []).bind fun p=>(svD p.2 4 p.1).map .leaf
theorem CS {g:Fd} {E:XK} (h:spD K n (jJ g) vs H Q E):spG K n g vs H Q E:=by
 obtain ⟨F,ds,t,O,hl,r,Y,k⟩:=h;unfold jJ at Y;obtain ⟨⟨c,ch'⟩,hp,U⟩:=bS Y;obtain ⟨d,hd,rfl⟩:=mS U;refine ⟨F,fun _=>0,ds.map .dat,[],c,ch',⟨O,fun i j hi=>absurd hi (qh5 _),fun i hi=>absurd hi (qh5 _),fun i o h=>by simp at h⟩,by simpa using hl,RelCs.dats r,hp,fun v F' H' ρ' a rv=>?_⟩;have W:Same H H':=fun b o e=>a.prot b o e fun i hi=>absurd hi (qh5 _)
 have fr:∀ i,i<ch'.length->H (ρ' i)=none:=fun i hi=>a.fr i (qj2 _) hi
 classical
 let G:Hp:=fun b=>if (∃ i,i<ch'.length/\ρ' i=b) then H' b else F b
 have L:∀ i,i<ch'.length->G (ρ' i)=H' (ρ' i):=fun i hi=>if_pos ⟨i,hi,rfl⟩
 have q:∀ b,(¬ ∃ i,i<ch'.length/\ρ' i=b)->G b=F b:=fun b h=>if_neg h
 have st:Step F H G H':=by
  refine ⟨W,fun b o e=>?_,fun b o e=>?_,fun b o e=>?_⟩
  . rw [q b]
    . exact e
    . rintro ⟨i,hi,rfl⟩;have:=O _ _ e;rw [fr i hi] at this;cases this
  . by_cases z:∃ i,i<ch'.length/\ρ' i=b
    . obtain ⟨i,hi,rfl⟩:=z;rw [L i hi] at e;exact e
    . rw [q b z] at e;exact W _ _ (O _ _ e)
  . by_cases z:∃ i,i<ch'.length/\ρ' i=b
    . obtain ⟨i,hi,rfl⟩:=z;exact .inr (fr i hi)
    . rw [q b z] at e;exact .inl e
 exact k.leaf v H' G st (rY a.gh (fun i u hi Z=>(L i hi).trans Z) 4 c v d rv hd)
theorem okD {mg:Str->Option Value} {base:Heap} {k:Nat} {g:Fd} (h:OkF P w K mg base x k ps (spG K n g)):OkF P w K mg base x k ps (spD K n (jJ g)):=by obtain ⟨f,fd,h1,h2,h3,q⟩:=h.ex;exact ⟨f,fd,h1,h2,h3,q.imp fun vs H Q E z=>CS z⟩
abbrev Orc:=Addr->Hp->List Dt->Option T
section
variable {X:Cx} {e:Expr} {es:List Expr} {fs:Fgs} {p pos:Pos} {x:Str} {i kk:Nat} {G:Orc}
end
section
variable {K:PySem.W.Frag} {F F':Hp}
end
section
variable {P:qc4} {w:World} {K:PySem.W.Frag} {mg:Str->Option Value} {base:Heap} {N ps fr:List Str} {name qual:Str} {params:qp7} {body:List Stmt} {scope:Scope} {f c':Addr} {cl:List (Str×Addr)} {H:Hp} {fs:List V} {doc pm ctv:Value} {fo:Obj} {uf:HO} {k:Nat} {g:De->Option Out} {caps ds:List Dt} {F0:Hp} {t:T}
end
section
variable {X:Cx} {c P:Addr} {qs:List ((Nat×Nat)×Str)} {name qual:Str} {params:qp7} {body:List Stmt} {scope:Scope} {clos:List (Str×Addr)} {pos:Pos} {i:Nat}
end
section
variable {X:Cx} {pins:List (Addr×Obj)} {σ:St} {H:Hp} {s:qa4}
end
section
variable {X:Cx} {x:Str} {p pos:Pos} {e:Expr} {es:List Expr} {t:TA} {f:Addr} {fd:qo2} {ps:List Str} {sp:Sp} {k:Nat}
end
section
variable {P:qc4} {w:World} {K:PySem.W.Frag} {mg:Str->Option Value} {base:Heap}
end
section
variable {X:Cx}
end
section
variable {X:Cx} {K:PySem.W.Frag}
end
section
variable {X:Cx} {e0:Expr} {p p1 p2 pos:Pos} {x n1 n2 q1 q2:Str} {par1 par2:qp7} {bod1 bod2:List Stmt} {sc1 sc2:Scope} {N1 ps1 fr1 N2 ps2 fr2:List Str} {js1 js2:List Nat} {g1 g2:De->Option Out} {k kk i1 i2:Nat} {ps:List Str} {FR:Orc->Fd} {f0:Fg}
end
section
variable {X:Cx} {c P:Addr} {qs:List ((Nat×Nat)×Str)} {name qual:Str} {params:qp7} {body:List Stmt} {scope:Scope} {clos:List (Str×Addr)} {pos:Pos} {i:Nat}
end
section
variable {X:Cx} {e0:Expr} {pos:Pos} {n1 n2 q1 q2:Str} {par1 par2:qp7} {bod1 bod2:List Stmt} {sc1 sc2:Scope} {N1 N2:List Str} {js1 js2:List Nat} {g1 g2:De->Option Out} {i1 i2:Nat} {FR:Orc->Fd} {f0:Fg} {K:PySem.W.Frag}
end
noncomputable def tX (mg:Str->Option Value) (base:Heap):Prop:=∃ q ob,mg "__builtins__"=some (.ref q)/\q≠zb1/\base.get? q=some ob/\ob.cls=.type "module"/\ob.dict=some zb1/\ob.data=.plain
noncomputable def rZ (H:Hp):Prop:=∀ b,H b=none∨(∃ o xs,H b=some (.frz o (.lst xs)))∨∃ qs,H b=some (.ctab qs)
noncomputable def io (K:PySem.W.Frag):Hp:=fun b=>((fL K).find? fun p=>p.1==b).map fun p=>.ctab p.2
theorem ge {b:Addr} (h:io K b=some u):∃ p∈fL K,p.1=b/\u=.ctab p.2:=by obtain ⟨p,hp,rfl⟩:=mS h;exact ⟨p,qv8 hp,by simpa using List.find?_some hp,rfl⟩
theorem v9 (L:∀ p∈fL K,∀ q∈fL K,p.1=q.1->p=q) {p:Addr×List ((Nat×Nat)×Str)} (hp:p∈fL K):io K p.1=some (.ctab p.2):=by
 unfold io;cases q:(fL K).find? fun x=>x.1==p.1 with
 | none =>have:=List.find?_eq_none.mp q p hp;simp at this
 | some r =>
  have h1:r.1=p.1:=by simpa using List.find?_some q
  rw [L r (qv8 q) p hp h1];rfl
noncomputable def TabsIn (K:PySem.W.Frag) (h:Heap):Prop:=(∀ p∈fL K,K.lookup p.1=none/\(∃ c,PySem.W.CodeHd h c p.1)/\h.get? p.1=some (PySem.W.tabObj #[]))/\∀ p∈fL K,∀ q∈fL K,p.1=q.1->p=q
theorem tY {mg mb:Str->Option Value} {CX:CXT} {k:Nat} {fa:Addr} {sp:Sp} {s₁:qa4} {vs:List Value} {ns:List Int}
 (KX:K.In s₁.heap) (hns:s₁.heap.Ns qc5 mg) (U:s₁.heap.Ns zb1 mb) (hbb:∀ x:Str,x≠"__name__"->mb x=qd7 x) (hlim:s₁.heap.NoLimit) (hg:s₁.gens=#[]) (hbm:tX mg s₁.heap) (hT:TabsIn K s₁.heap)
 (ha:s₁.heap.get? a=some {cls:=.type "list",data:=.seq vs.toArray}) (hi:qv0 vs ns) (hl:ns.length<=qb0) (hr:Room k zd7)
 (F:∀ base:Heap,K.In base->base.Ns qc5 mg->tX mg base->FnOk P w K mg base CX k fa fd [x] sp) (hbind:∀ (s:qa4) (u:Value),zf0 s fd ⟨[u],[]⟩ [(x,u)])
 (hsp:∀ H:Hp,rZ H->SqL K H a (ns.map V.int)->sp [.ref a] H (fun v _=>v=.bl true) fun _ _ _=>False)
 (hCX:∀ H e s',CX [] H s₁ (fun _ _ _=>False) e s'->False) :
  qt3 (model P w) zd7 (.call (.ref fa) ⟨[.ref a],[]⟩) (fun r s'=>r=.ok (.ret (.bool true))/\OldK s₁.heap s'.heap/\s'.os=s₁.os/\qz7 s'.gens) s₁:=by
 have rv:=je hi;have lenV:=hi.length;obtain ⟨hT,hnd⟩:=hT
 have tb:∀ {b:Addr} {u:HO},io K b=some u->s₁.heap.get? b=some (PySem.W.tabObj #[])/\K.lookup b=none/\∃ c,PySem.W.CodeHd s₁.heap c b:=fun {b u} e=>by obtain ⟨p,hp,rfl,_⟩:=ge e;obtain ⟨h1,h2,h3⟩:=hT p hp;exact ⟨h3,h1,h2⟩
 have taN:io K a=none:=by
  cases q:io K a with
  | none=>rfl
  | some u =>have:=(tb q).1;rw [ha] at this;cases this
 -- H: the script,if it is none of the module's own,and the tables
 have core:∀ H:Hp,SqL K H a (ns.map V.int)->(∀ b,b≠a->H b=io K b)->(H a=none∨(K.lookup a=none/\H a=some (.frz {cls:=.type "list",data:=.seq vs.toArray} (.lst (ns.map V.int)))))→
     qt3 (model P w) zd7 (.call (.ref fa) ⟨[.ref a],[]⟩) (fun r s'=>r=.ok (.ret (.bool true))/\OldK s₁.heap s'.heap/\s'.os=s₁.os/\qz7 s'.gens) s₁:=by
  intro H hS hH hA
  have O:∀ {b:Addr} {u:HO},H b=some u->(b=a/\K.lookup a=none/\u=.frz {cls:=.type "list",data:=.seq vs.toArray} (.lst (ns.map V.int)))∨(b≠a/\io K b=some u):=fun {b u} e=>by
   by_cases U:b=a
   . subst U;rcases hA with z | ⟨z1,z2⟩
     . rw [z] at e;cases e
     . rw [z2] at e;cases e;exact .inl ⟨rfl,z1,rfl⟩
   . rw [hH b U] at e;exact .inr ⟨U,e⟩
  have hO:rZ H:=fun b=>by
   cases q:H b with
   | none=>exact .inl rfl
   | some u =>
    rcases O q with ⟨_,_,rfl⟩ | ⟨_,z⟩
    . exact .inr (.inl ⟨_,_,rfl⟩)
    . obtain ⟨p,_,_,rfl⟩:=ge z;exact .inr (.inr ⟨_,rfl⟩)
  have hok:HOk P w H s₁.heap:=fun b u e=>by
   rcases O e with ⟨rfl,_,rfl⟩ | ⟨_,z⟩
   . exact ⟨ha,by rw [qa2];exact hl,vs,_,rv,ha⟩
   . obtain ⟨p,_,_,rfl⟩:=ge z;refine ⟨#[],(tb z).1,trivial,fun pos q v _ h=>?_⟩;cases h
  have L:∀ {b:Addr} {o:Obj},s₁.heap.get? b=some o->H b=none->(lh s₁.heap H).get? b=some o:=fun e n=>uz e n
  have noH:∀ {b:Addr} {o:Obj},s₁.heap.get? b=some o->o.data≠.seq vs.toArray->o≠PySem.W.tabObj #[]->H b=none:=fun {b o} e d1 d2=>by
   cases q:H b with
   | none=>rfl
   | some u =>
    rcases O q with ⟨rfl,_,rfl⟩ | ⟨_,z⟩
    . rw [ha] at e;cases e;exact absurd rfl d1
    . have:=(tb z).1;rw [e] at this;cases this;exact absurd rfl d2
  have Y:∀ {b:Addr} {m:Str->Option Value},s₁.heap.Ns b m->(lh s₁.heap H).Ns b m:=fun {b m} ⟨o,es,ep,e,d,r⟩=>⟨o,es,ep,L e (noH e (by rw [d];intro z;cases z) (fun z=>by rw [z] at d;cases d)),d,r⟩
  have hKb:K.In (lh s₁.heap H):=fun b o e=>L (KX b o e) (by
   cases q:H b with
   | none=>rfl
   | some u =>
    rcases O q with ⟨rfl,z,_⟩ | ⟨_,z⟩
    . rw [z] at e;cases e
    . rw [(tb z).2.1] at e;cases e)
  have hbmB:tX mg (lh s₁.heap H):=by obtain ⟨bm,ob,b1,b2,b3,b4,b5,b6⟩:=hbm;exact ⟨bm,ob,b1,b2,L b3 (noH b3 (by rw [b6];intro z;cases z) fun z=>by rw [z] at b4;cases b4),b4,b5,b6⟩
  have hM:Mod K mg (lh s₁.heap H):=⟨hKb,Y hns,⟨mb,Y U,hbb⟩,let ⟨mc,h1,h2⟩:=hlim;⟨mc,Y h1,h2⟩⟩
  have e0:Env0 P w K mg (lh s₁.heap H) zd7 [] s₁ H:=⟨rfl,hM,fun b o e=>xm e,Nat.le_of_eq (sP _ _),trivial,fun b U=>absurd (show b∈([]:List Addr) from U) (by simp),hok,.of_eq hg,fun p hp=>by have h:=v9 hnd hp;rw [hH p.1 fun z=>by rw [z,taN] at h;cases h];exact h⟩
  refine qu3 ((F _ hKb (Y hns) hbmB).run zd7 [] s₁ H ⟨[.ref a],[]⟩ [.ref a] [.ref a] _ _ hr e0 (hbind s₁ (.ref a)) (.cons rfl .nil) (hsp H hO hS)) fun r s' h=>?_
  cases r with
  | error e=>exact (hCX H e s' h).elim
  | ok fl =>
   cases fl with
   | next=>exact ql3 h
   | brk=>exact ql3 h
   | cont=>exact ql3 h
   | ret u =>
    obtain ⟨v,H',os,bare,un,Z,r',q⟩:=h;have q':v=.bl true:=q;subst q';obtain rfl:u=qo8 true:=r';refine ⟨rfl,⟨fun b o e=>?_,fun b o e=>un.there b o e (by simp)⟩,os,bare⟩;cases q:H b with
    | none=>exact .inl (un.keep b o e q (by intro z;exact absurd (show b∈([]:List Addr) from z) (by simp)) (by simp))
    | some u =>
     rcases O q with ⟨rfl,_,rfl⟩ | ⟨_,z⟩
     . have z2:=un.frzs b _ _ q;obtain ⟨e1,_⟩:=hok b _ q;obtain ⟨e2,_⟩:=Z b _ z2;rw [e] at e1;cases e1
       exact .inl e2
     . obtain ⟨g1,_,c,g2⟩:=tb z;obtain ⟨p,_,_,rfl⟩:=ge z;obtain ⟨ps,g3,_⟩:=Z b _ (un.cts b _ q);rw [e] at g1;cases g1;refine .inr (.inl ⟨(g2.tab e).isCodeTable,rfl,#[],ps,rfl,?_⟩);rw [g3];simp [PySem.W.tabObj]
 cases hk:K.lookup a with
 | some o =>have e:=KX a o hk;rw [ha] at e;cases e;exact core (io K) (.inr ⟨_,vs.toArray,_,hk,rfl,rfl,rfl,by rw [qb5,lenV];exact hl,by simpa using rv⟩) (fun _ _=>rfl) (.inl taN)
 | none =>exact core (fun b=>if b=a then some (.frz {cls:=.type "list",data:=.seq vs.toArray} (.lst (ns.map V.int))) else io K b) (.inl (.inr ⟨{cls:=.type "list",data:=.seq vs.toArray},if_pos rfl⟩)) (fun b U=>if_neg U) (.inr ⟨hk,if_pos rfl⟩)
theorem CT {l:PySem.W.OpenLaw} {k:Nat} {q:qc4} {loose:List Str} {XP:(Str->Option Value)->Heap->Prop} {YP:World->Heap->Prop} {d:DefRec} {K:Params->PySem.W.Frag} {CX:World->CXT} {sp:World->Sp} 
 (hn:l.most=some n) (hn2:n<=qb0) (hdf:d.params.defaults=[]) (hr:Room k zd7)
 (hY:∀ (w:World) (h:Heap),YP w h->(K w.params).In h) (hT:∀ (w:World) (h:Heap),YP w h->TabsIn (K w.params) h)
 (F:∀ (w:World) (mg:Str->Option Value) (fa:Addr) (h:Heap),(K w.params).In h->h.Ns qc5 mg->mg d.name=some (.ref fa)→
 ∃ fd:qo2,(∀ (s:qa4) (u:Value),zf0 s fd ⟨[u],[]⟩ [(x,u)])∧
 ∀ base:Heap,(K w.params).In base->base.Ns qc5 mg->tX mg base->FnOk l.prog w (K w.params) mg base (CX w) k fa fd [x] (sp w))
 (hsp:∀ (w:World) (H:Hp) (a:Addr) (ns:List Int),ns.length<=n->rZ H->SqL (K w.params) H a (ns.map V.int)->sp w [.ref a] H (fun v _=>v=.bl true) fun _ _ _=>False)
 (hCX:∀ (w:World) (H:Hp) (s:qa4) (e:Value) (s':qa4),CX w [] H s (fun _ _ _=>False) e s'->False) :
  PySem.W.WalkO q loose XP YP l.row.toRowW d [] (fun f vs=>PySem.call f vs):=by
 refine Att.zn hn hdf fun w s₀ Z mg mb fa o pm cd doc a vs ns G Y ho hd hcd hmg U O L hg=>?_
 have KX:=hY w _ Y;obtain ⟨fd,hb,hF⟩:=F w mg fa _ KX G.T.g hmg;exact tY KX G.T.g G.T.b G.T.builtins G.T.nolimit hg G.T.bmain (hT w _ Y) U O (qc7 L hn2) hr hF hb (fun H hO hS=>hsp w H a ns L hO hS) fun H e s'=>hCX w H Z e s'
section
variable {P:qc4} {u:World} {B:qd9} {Ex:Value->qa4->Prop} {s:qa4} {it l:Addr} {xs:Array Value}
end
section
variable {X:Cx} {e:Expr} {ta:TA} {p1 p2 pos1 pos2:Pos} {sc:Scope}
end
section
variable {X:Cx} {a:Expr} {fa:Fg} {p1 p2 pos1 pos2:Pos} {sc:Scope} {K:PySem.W.Frag}
end
section
variable {X:Cx} {o i e value:Expr} {pos pos' tpos:Pos} {fa fk fe:Fg} {K:PySem.W.Frag}
end
section
variable {X:Cx} {name qual:Str} {params:qp7} {body:List Stmt} {scope outer:Scope} {NX N ps fr:List Str} {js:List Nat} {g:De->Option Out} {kk i:Nat} {pos:Pos}
end
section
variable {P:qc4} {w:World} {K:PySem.W.Frag} {mg:Str->Option Value} {base:Heap} {x:Str} {st:Stmt} {N ps:List Str} {c:Addr}
end
section
variable {X:Cx} {a b:Expr} {ta:TA} {p1 p2 pos1 pos2:Pos} {sc:Scope} {fs:De->Option (List Dt)}
end
section
variable {X:Cx} {pins:List (Addr×Obj)} {s:qa4} {σ:St} {H:Hp}
end
theorem TabsIn.two {c P c' P':Addr} {qs qs':List ((Nat×Nat)×Str)} (kb:K.In h) (e:fL K=[(P,qs),(P',qs')]) (hne:P≠P') (n:K.lookup P=none) (n':K.lookup P'=none) (hc:PySem.W.codeHdIn K c P=true) (hc':PySem.W.codeHdIn K c' P'=true) (t:h.get? P=some (PySem.W.tabObj #[])) (t':h.get? P'=some (PySem.W.tabObj #[])):TabsIn K h:=by
 unfold TabsIn;rw [e];refine ⟨fun p hp=>?_,fun p hp q hq z=>?_⟩
 . rcases qb2.mp hp with rfl | hp
   . exact ⟨n,⟨c,PySem.W.codeHd_of_K kb hc⟩,t⟩
   . cases qa9.mp hp;exact ⟨n',⟨c',PySem.W.codeHd_of_K kb hc'⟩,t'⟩
 . rcases qb2.mp hp with rfl | hp<;>rcases qb2.mp hq with rfl | hq
   . rfl
   . cases qa9.mp hq;exact absurd z hne
   . cases qa9.mp hp;exact absurd z.symm hne
   . cases qa9.mp hp;cases qa9.mp hq;rfl
noncomputable def AtF (K:PySem.W.Frag) (x:Str) (st:Stmt):Prop:=∃ (f:Addr) (oc:Value) (od an:Option Addr) (sl:Array (Option Value)) (kV dc pm q ct:Value),PySem.W.nsIn K qc5 x=some (some (.ref f))/\K.lookup f=some ⟨oc,od,.func (PySem.W.fnOf x x (dm st) (b7 st) (ab st) .none kV dc pm an q ct),sl⟩/\PySem.W.codeIn K q x=true/\PySem.W.keepIn K (.ref f)=true
noncomputable def AtC (K:PySem.W.Frag) (x:Str) (st:Stmt) (c P:Addr):Prop:=∃ (f:Addr) (oc:Value) (od an:Option Addr) (sl:Array (Option Value)) (kV dc pm ct:Value) (L:Value) (xd:Option Addr) (q:Array Value) (xs:Array (Option Value)),
 PySem.W.nsIn K qc5 x=some (some (.ref f))/\K.lookup f=some ⟨oc,od,.func (PySem.W.fnOf x x (dm st) (b7 st) (ab st) .none kV dc pm an (.ref c) ct),sl⟩/\PySem.W.codeIn K (.ref c) x=true/\PySem.W.keepIn K (.ref f)=true∧
 K.lookup c=some ⟨L,xd,.fields q,xs⟩/\q[11]?=some (.ref P)
variable {oc dc pm:Value} {od an:Option Addr}
section
variable {K:PySem.W.Frag} {mg:Str->Option Value} {h:Heap} {x:Str} {st:Stmt} {ps:List Str} {c P:Addr}
theorem AtF.mk {f:Addr} {sl:Array (Option Value)} {kV q ct:Value} (a:PySem.W.nsIn K qc5 x=some (some (.ref f))) (l:K.lookup f=some ⟨oc,od,.func (PySem.W.fnOf x x (dm st) (b7 st) (ab st) .none kV dc pm an q ct),sl⟩) (c:PySem.W.codeIn K q x=true) (k:PySem.W.keepIn K (.ref f)=true):AtF K x st:=⟨f,oc,od,an,sl,kV,dc,pm,q,ct,a,l,c,k⟩
theorem AtC.mk {f:Addr} {sl:Array (Option Value)} {kV ct L:Value} {xd:Option Addr} {q:Array Value} {xs:Array (Option Value)} (a:PySem.W.nsIn K qc5 x=some (some (.ref f))) (l:K.lookup f=some ⟨oc,od,.func (PySem.W.fnOf x x (dm st) (b7 st) (ab st) .none kV dc pm an (.ref c) ct),sl⟩) (O:PySem.W.codeIn K (.ref c) x=true) (k:PySem.W.keepIn K (.ref f)=true) (cl:K.lookup c=some ⟨L,xd,.fields q,xs⟩) (U:q[11]?=some (.ref P)):AtC K x st c P:=⟨f,oc,od,an,sl,kV,dc,pm,ct,L,xd,q,xs,a,l,O,k,cl,U⟩
theorem AtF.df (A:AtF K x st) (X:K.In h) (G:h.Ns qc5 mg) (q:∀ (kV doc pm:Value) (an:Option Addr) (cdv ct:Value) (us:List Value),us.length=ps.length->bindArgs (PySem.W.fnOf x x (dm st) (b7 st) (ab st) .none kV doc pm an cdv ct) ⟨us,[]⟩=pure (ps.zip us)):DefF K mg x st ps:=by obtain ⟨f,oc,od,an,sl,kV,dc,pm,L,ct,a,l,c,k⟩:=A;exact DefF.mk' X G a l c k q
end
section
variable {X:Cx} {e:Expr} {es:List Expr} {x:Str} {p pos:Pos} {fs:De->Option (List Dt)} {i:Nat}
theorem pvX (h:fO X.env.scope X.N i x=true):PE X (.Name x pos) (li i):=pvD i h rfl rfl
end
section
variable {X:Cx} {o e:Expr} {fa fe:Fg} {apos cpos pos:Pos}
end
end L2
namespace HT
open PySem PySem.Spec PyProof.Rows
end HT
namespace L2
open PySem PySem.Spec PyProof.Rows
variable {K:PySem.W.Frag}
section
variable {X:Cx}
noncomputable def gSlW:Dt->Option Int->Option Int->Option T
 | .tup l,lo,hi=>if HT.sIx l.length 0 lo=0/\HT.sIx l.length l.length hi=l.length then some (.leaf (.tup l)) else some (.leaf (.tup (kj l lo hi)))
 | x,lo,hi=>gSl x lo hi
noncomputable def wa (K:PySem.W.Frag):R2:=fun x y H Q=>∃ a b z xs,x=.ref a/\y=.ref b/\SqT K H a (z::xs)/\SqT K H b []/\Q (.ref a) H
theorem yr:OpR X (ql1 .Add) (wa X.K):=by
 intro pins s σ H x y v u Q I rx ry h;obtain ⟨a,b,z,xs,rfl,rfl,ha,hb,q⟩:=h;cases rx;cases ry;obtain ⟨its,r1,p1,_⟩:=I.tuple ha;obtain ⟨its2,r2,p2,_⟩:=I.tuple hb;cases r2;obtain ⟨⟨cls,dd,data,sl⟩,ho,hc,n,hd⟩:=id p1;obtain ⟨⟨cls2,W,Y,Z⟩,L,U,n2,O⟩:=id p2;simp only at hc hd U O;subst hc hd U O
 exact qu6 ⟨_,ho,rfl⟩ ⟨_,L,rfl⟩ qr8 qx5 PySem.F.slot_tuple_add PySem.F.entry_tuple_add (PySem.F.args_tuple_add_2 _ _)
  (tuple_addW1 a b its.toArray #[] n n2 dd W sl Z (by cases r1;simp) rfl) ⟨ho,L,⟨.ref a,H,I,rfl,q⟩⟩
noncomputable def r6:Dt->Dt->Option T
 | .tup (d::l),.tup []=>some (.leaf (.tup (d::l)))
 | x,y=>vK x y
theorem yt:OpR X (ql1 .Add) (fun x y H Q=>(oK X.K x y H Q∨lT X.K x y H Q)∨wa X.K x y H Q):=OpR.or yg yr
theorem A7:R2D K (fun x y H Q=>(oK K x y H Q∨lT K x y H Q)∨wa K x y H Q) r6:=by
 intro F H x y vx Z Q t L U Y O k;unfold r6 at O;split at O
 . rename_i d l;cases O;obtain ⟨a,vs,rfl,h1,h2⟩:=U;obtain ⟨b,ws,rfl,h3,W⟩:=Y;simp only [Reps] at W;subst W;have q:=h2;simp only [Reps] at q;obtain ⟨v,us,rfl,_,_⟩:=q;refine .inr ⟨a,b,v,us,rfl,rfl,L.tup h1,L.tup h3,k.leaf.here L ?_⟩;simp only [Rep];exact ⟨a,_,rfl,h1,h2⟩
 . exact .inl (A0 F H _ _ vx Z Q t L U Y O k)
end
abbrev Hk3:=Str×Int×Bool
noncomputable def h3 (k:Hk3):Dt:=.tup [.str k.1,.int k.2.1,.bl k.2.2]
section
variable {X:Cx} {pins:List (Addr×Obj)} {s:qa4} {σ:St} {H:Hp}
end
section
variable {X:Cx} {a:Expr} {fa:Fg} {p pos:Pos} {sc:Scope}
end
section
variable {X:Cx}
end
section
variable {P:qc4} {u:World} {A:qd9} {R:Result->qa4->Prop} {I:Addr} {fp wr:List Addr} {n:Nat} {Pv:Nat->Value->Prop} {St:Nat->Heap->Prop}
end
section
variable {P:qc4} {u:World} {A:qd9} {E:Value->qa4->Prop} {s:qa4} {l:Addr} {xs:Array (Int×Tok)} {d:Value}
end
section
variable {X:Cx} {e:Expr} {pos p kp kq:Pos} {sc:Scope} {fs:De->Option (List Dt)} {d:Int} {t:TA} {i:Nat}
end
open PySem
section
variable {K:Type} [DecidableEq K]
theorem tZ {acc:List K} {k x:K}:x∈de acc k↔x∈acc∨x=k:=by
 unfold de;split
 . exact ⟨.inl,fun h=>h.elim id fun e=>e▸by assumption⟩
 . simp
theorem ms {x:K}:∀ {ss acc:List K},x∈ss.foldl de acc↔x∈acc∨x∈ss
 | [],acc=>by simp
 | k::ss,acc=>by rw [qj3,ms,tZ,qb2,or_assoc]
theorem oncesK_mem {ss:List K} {x:K}:x∈bq ss↔x∈ss:=by unfold bq;rw [ms];simp
theorem jw {acc:List K} {k:K} (h:acc.Nodup):(de acc k).Nodup:=by
 unfold de;split
 . exact h
 . rename_i q;rw [qn8];exact ⟨h,by simp,fun a L b O e=>q (by rw [qa9.mp O] at e;exact e▸L)⟩
theorem jx:∀ {ss acc:List K},acc.Nodup->(ss.foldl de acc).Nodup
 | [],_,h=>h
 | k::ss,acc,h=>jx (ss:=ss) (jw h)
theorem i0 (ss:List K):(bq ss).Nodup:=jx qo1
end
theorem kL:∀ ns:List Int,lv (ns.map .int)=some ns
 | []=>rfl
 | k::ns=>by rw [qa3];unfold lv;rw [kL ns];rfl
variable {ns:List Int}
theorem sortI_mem {x:Int}:x∈eI ns↔x∈ns:=(dy ns).mem_iff
theorem pf (h1:ns.length<4000) (h2:(bq ns).length<64):dg [.lst (ns.map .int)]=some (.lst ((eI (bq ns)).map .int)):=by unfold dg tV;dsimp only;rw [kL,qa0,if_pos ⟨h1,h2⟩]
section
variable {X:Cx} {K:Type} [DecidableEq K] [Inhabited K] {κ:SK X.prog X.w K}
theorem ph:CallR X (.builtin "len") (fun xs H Q=>∃ p ss,xs=[.ref p]/\H p=some (o8 κ p ss)/\Q (.int (ss.length:Nat)) H):=by
 intro pins s σ H xs us Q I r h;obtain ⟨p,ss,rfl,W,q⟩:=h;obtain ⟨u,rfl,L⟩:=fM r;cases L;have Z:TxS κ s.heap p ss (dH X.w):=(show ObjOk X.prog X.w H s.heap p (o8 κ p ss) from I.hok p _ W).1;obtain ⟨o,es,ep,t,g1,g2,U,x,hb,Y,_⟩:=Z.ex;have e:es.size=ss.length:=by rw [<- x.per.length_eq,qa2,qd5]
 have O:es.size<4096:=hb;refine call_len_set g1 g2 U Y (by lia) ⟨.int (ss.length:Nat),H,I.tok _,⟨_,by rw [e]⟩,q⟩
end
noncomputable def fj:List Dt->Option T
 | [.lst ds]=>(lv ds).bind fun ss=>if ss.length<4000 then some (.leaf (.int ((bq ss).length:Nat))) else none
 | _=>none
section
variable {X:Cx} {e:Expr} {pos pos2 p p2:Pos} {sc:Scope} {fs:De->Option (List Dt)}
theorem qB (h1:aH sc "len"=true) (h2:aH sc "set"=true) (W:X.calm=true) (m1:X.mg "len"=none) (U:X.mg "set"=none) (ha:DAB X [e] fs) (e1:cP X sc:=by rfl)
  (s1:qa6 [.Call (.Name "set" p2) [e] [] pos2] X.env=(false,eval (.Call (.Name "set" p2) [e] [] pos2) X.env)::qa6 [] X.env:=by rfl) (n1:(qh9 pos (qa6 [] X.env)).any (·.1)=false:=by rfl)
  (s2:qa6 [e] X.env=(false,eval e X.env)::qa6 [] X.env:=by rfl) (n2:(qh9 pos2 (qa6 [] X.env)).any (·.1)=false:=by rfl):DO X (.Call (.Name "len" p) [.Call (.Name "set" p2) [e] [] pos2] [] pos) (ah fj fs):=
 PE.mono (g7 h1 (ph (κ:=oY X.prog X.w)) m1 (by rfl) (d7 (ix h2 (mr (kvI (X:=X)) W) U (by rfl) ha.pa e1 s2 n2) fY s1) e1 s1 n1) fun σ H Q ⟨Φ,δ,F,t,hK,en,O,k⟩=>by
  unfold ah at O;obtain ⟨ds,Y,q⟩:=bS O;refine ⟨Φ,δ,F,ds,hK,en,Y,fun vs H1 F1 st r=>?_⟩;unfold fj at q;split at q<;>first | (cases q;done) | skip
  obtain ⟨ss,hs,q⟩:=bS q;split at q<;>cases q
  rename_i hz;obtain ⟨v,rfl,Z⟩:=dw r;obtain ⟨b,ws,rfl,g1,g2⟩:=Z;have:=jQ g2 hs;subst this;refine ⟨b,ss,rfl,g1,hz,fun l hl=>?_⟩;have L:Step F1 H1 F1 (upd H1 l (o8 (oY X.prog X.w) l (bq ss))):=Step.made st.fh hl;exact ⟨l,bq ss,rfl,bi,(k.step (st.trans L)).int L.fh⟩
end
theorem t0 {X:Cx}:MtR X "list.index" (fun x vs H Q=>∃ (p:Addr) (ns:List Int) (k:Int),x=.ref p/\vs=[.int k]/\SqL X.K H p (ns.map V.int)/\k∈ns/\ns.length<=100000/\Q (.int (ns.idxOf k:Nat)) H):=by
 intro pins s σ H x vs v us Q I r rv h;obtain ⟨p,ns,k,rfl,rfl,hq,hk,hz,q⟩:=h;cases r;obtain ⟨u,rfl,ru⟩:=rv.one;obtain ⟨t,rfl⟩:=ru;obtain ⟨its,r',pl,hz'⟩:=I.list hq;have hi:=p5 r';have L:=hi.length;obtain ⟨⟨cls,dd,data,sl⟩,Y,Z,n,hd⟩:=pl.isList;simp only at Z hd;subst Z hd;have U:ns.idxOf k<ns.length:=qx1.mpr hk;refine zd6 PySem.F.slot_list_index ⟨_,Y,rfl⟩ PySem.F.entry_list_index (PySem.F.args_list_index_2 _ _) (PySem.SeqAt.list_indexAt p its.toArray n dd sl (.int k t) (isInt k) (ns.idxOf k) (by simpa [L] using U) (by lia) ?_ ?_) ⟨Y,fun y hy=>(eq_isInt k t hi y (by simpa using hy)).at _ _,⟨.int (ns.idxOf k:Nat),H,I.tok _,⟨_,rfl⟩,q⟩⟩
 . show isInt k its[ns.idxOf k]=true;rw [isInt_at k hi _ (by lia) U];simpa using List.getElem_idxOf U
 . intro j W O;show isInt k its[j]=false;rw [isInt_at k hi j (by simpa using W) (by lia)];exact ne_of_lt_idxOf O _
noncomputable def da:Dt->List Dt->Option T
 | .lst ds,[.int k]=>(lv ds).bind fun ns=>if k∈ns/\ns.length<=100000 then some (.leaf (.int (ns.idxOf k:Nat))) else none
 | _,_=>none
theorem wb:MRD K (fun x vs H Q=>∃ (p:Addr) (ns:List Int) (k:Int),x=.ref p/\vs=[.int k]/\SqL K H p (ns.map V.int)/\k∈ns/\ns.length<=100000/\Q (.int (ns.idxOf k:Nat)) H) da:=by
 intro F H d v ds vs Q t W rd Y q k;unfold da at q;split at q<;>first | cases q;done | skip
 obtain ⟨ns,U,q⟩:=bS q;split at q<;>cases q
 rename_i L;obtain ⟨a,Z,rfl,h1,h2⟩:=rd;have:=jQ h2 U;subst this;obtain ⟨v,rfl,O⟩:=dw Y;cases O;exact ⟨a,ns,_,rfl,rfl,h1,L.1,L.2,k.int W⟩
section
variable {X:Cx} {e o:Expr} {es:List Expr} {fo:De->Option Dt} {fs:De->Option (List Dt)} {apos cpos pos:Pos}
theorem ua (ho:DB X o fo) (ha:DAB X (e::es) fs)
  (W:qk5 o "index" X.env (eval o X.env)=eval o X.env:=by rfl)
  (Y:((qh9 cpos (qa6 (e::es) X.env)).all (fun x=>!x.1)&&(zb2 cpos (qr0 [] X.env)).all (fun x=>x.1.isSome)
   && decide ((e::es).length+([]:List qp6).length+(if ([]:List qp6).isEmpty then 0 else 1)<30))=true:=by rfl)
  (U:(apos.endLine==cpos.line)=true:=by rfl) (hs:qa6 (e::es) X.env=(false,eval e X.env)::qa6 es X.env:=by rfl) (O:(qh9 cpos (qa6 es X.env)).any (·.1)=false:=by rfl) :
  DO X (.Call (.Attribute o "index" apos) (e::es) [] cpos) (fQ da fo fs):=PE.mono (nY PySem.F.plainAttrs_list PySem.F.slot_list_index PySem.F.type_list_index t0 ho ha.pa W Y U hs O) fun σ H Q ⟨Φ,δ,F,t,hK,en,q,k⟩=>by
 unfold fQ at q;obtain ⟨d,hd,q⟩:=bS q;obtain ⟨ds,hds,q⟩:=bS q;refine ⟨Φ,δ,F,d,hK,en,hd,fun v H1 F1 st rv=>⟨?_,Φ,δ,F1,ds,hK,en.step st,hds,fun vs H2 F2 L Z=>wb F2 H2 d v ds vs Q t L.fh (rv.step L.ff L.hh) Z q (k.step (st.trans L))⟩⟩;unfold da at q;split at q<;>first | cases q;done | skip
 obtain ⟨a,ws,rfl,h1,h2⟩:=rv;exact .inl ⟨rfl,ws,h1⟩
end
theorem jK {P:qc4} {u:World} {A:qd9} {E:Value->qa4->Prop} {s:qa4} {Ty:String} {r d:Addr} {n:Nat} {Pr:Nat->Value->Prop} {OK:Heap->Prop} {ss:List Int} {Q:Value->qa4->Prop} (K:PySem.W.KdlSrc P u Ty r d n Pr OK) (Y:A.handled=none) (Z:OK s.heap) (hP:∀ acc,ItemsOf Pr acc n->qv0 acc.toList ss) (few:ss.length<64) (hn:n<=qb0)
  (q:∀ (l:Addr) (O:Array Value) (h':Heap) (tk:Nat),qv0 O.toList (eI ss)->(∃ e,h'.get? l=some (ze4 "list" O e))->s.heap.objs.size<=l->(∀ b ob,s.heap.get? b=some ob->h'.get? b=some ob)->Q (.ref l) {s with heap:=h',toks:=tk}):wpAny (model P u) A (call (.builtin "sorted") [.ref r]) Q E s:=by
 refine qv7 kind_sorted plain_sorted entry_sorted (args_sorted1 _) ?_;unfold qj1.«sorted»;refine wB (m:=checkCount "sorted" 1 1 _) (qa5 ?_);refine qh6 (pd K (by simp [Y]) Z hn fun h' tk acc keep le U=>?_);have k1:=hP acc U;have L:acc.toList.length<64:=by rw [k1.length];exact few
 refine wB (wpAny_newList ?_ (qc7 (qh8 L) (by decide)));have gL:(h'.push (ze4 "list" acc.toList.toArray 0)).get? h'.objs.size=some (ze4 "list" acc.toList.toArray 0):=qb3 _ rfl;show wpAny _ _ _ _ _ {s with toks:=tk,heap:=h'.push (ze4 "list" acc.toList.toArray 0)};refine wB (qi8 (qg4 slot_list_sort ⟨_,gL,rfl⟩ entry_list_sort (o7 (P:=P) (u:=u) gL (o6 k1) L fun O a1=>⟨_,rfl,?_⟩) (args_list_sort _)));refine qa5 ⟨_,rfl,?_⟩;refine q _ _ _ tk (o5 a1) (sortedHeap_at gL) le fun b ob e=>?_
 have lt:b<h'.objs.size:=qa7 (keep b ob e);rw [sortedHeap_old (qc2 lt) (by rw [size_push'];exact qg7 lt)];exact gP _ (keep b ob e)
theorem pi:∀ {l:List Value} {ss:List Int},l.length=ss.length->(∀ (i:Nat) (v:Value) (x:Int),l[i]?=some v->ss[i]?=some x->∃ t,v=.int x t)->qv0 l ss
 | [],[],_,_=>.nil
 | [],_::_,h,_=>by cases h
 | _::_,[],h,_=>by cases h
 | v::l,x::ss,h,q=>by obtain ⟨t,rfl⟩:=q 0 v x rfl rfl;exact .cons x t (pi (by simpa using h) fun i v x h1 h2=>q (i+1) v x (by simpa using h1) (by simpa using h2))
section
variable {X:Cx}
noncomputable def r8:List V->Hp->VK->Prop:=fun xs H Q=>∃ (a:Addr) (kvs:List (Key×V)) (ss:List Int),xs=[.ref a]/\Rd H a (.dK kvs)/\kvs.map (·.1)=ss.map qp4/\ss.length<64/\∀ l,H l=none->Q (.ref l) (upd H l (.lst ((eI ss).map V.int)))
theorem lw (Y:X.calm=true):CallR X (.builtin "sorted") r8:=by
 intro pins s σ H xs us Q I r h;obtain ⟨p,kvs,ss,rfl,hq,hk,hz,q⟩:=h;obtain ⟨u,rfl,rx⟩:=fM r;cases rx
 obtain ⟨z,y,vs,U,ep,hat⟩:kvs.length<=qb0/\(p==qi5)=false/\∃ vs,KV kvs vs/\∃ ep,s.heap.DictAt (bZ X.prog X.w) p vs ep:=by obtain ⟨z,y,vs,U,o,es,ep,e1,e2,e3,e4⟩:=j4 I.hok hq;exact ⟨z,y,vs,U,ep,o,es,e1,e2,e3,e4⟩
 have L:vs.map (·.1)=ss.map qp4:=U.keys.symm.trans hk;have hl:vs.length=ss.length:=by have:=congrArg qi6 L;simpa using this
 refine jK (PySem.W.kdl_dict y) (I.ok.hd Y) hat (ss:=ss) (fun acc O=>?_) hz (by rw [hl];exact qc7 (qh8 hz) (by decide)) fun l Z h' tk a1 hc le kept=>?_
 . refine pi (by rw [qd5,O.1,hl]) fun i v x h1 h2=>?_
   obtain ⟨k,w,hw,hv⟩:=O.2 i v (by rw [<- qr5];exact h1);have e:(vs.map (·.1))[i]?=some k:=by rw [qb1,hw];rfl
   rw [L,qb1,h2] at e;cases e;rcases cb (show jU (.inl x) v=true from hv) with ⟨i,t,e,rfl⟩ | ⟨x,t,e,rfl⟩
   . cases e;exact ⟨t,rfl⟩
   . cases e
 . obtain ⟨c,hc⟩:=hc;refine ⟨.ref l,_,I.laid (t':=tk) kept le (show ObjOk X.prog X.w _ _ _ (.lst ((eI ss).map V.int)) from ⟨?_,Z.toList,c,je a1,hc⟩),rfl,q _ (I.hok.fresh le)⟩;rw [qa2,(dy ss).length_eq];exact qc7 (qh8 hz) (by decide)
noncomputable def ib:List Key->Option (List Int)
 | []=>some []
 | .inl x::r=>(ib r).map (x::·)
 | _=>none
theorem kM:∀ {ks:List Key} {ss:List Int},ib ks=some ss->ks=ss.map qp4
 | [],ss,h=>by cases h;rfl
 | .inl x::r,ss,h=>by simp only [ib] at h;obtain ⟨ts,q,rfl⟩:=mS h;rw [kM q];rfl
 | .inr x::r,ss,h=>by cases h
noncomputable def eQ:List Dt->Option T
 | [.dct ks _]=>(ib ks).bind fun ss=>if ss.length<64 then some (.lst ((eI ss).map .int)) else none
 | _=>none
theorem wc:CRD K r8 eQ:=by
 intro F H ds vs Q t W r q k;unfold eQ at q;split at q<;>first | (cases q;done) | skip
 obtain ⟨ss,O,q⟩:=bS q;split at q<;>cases q
 rename_i U;obtain ⟨v,rfl,L⟩:=dw r;obtain ⟨a,kvs,rfl,h1,h2,h3⟩:=L;exact ⟨a,kvs,ss,rfl,h1,h2.trans (kM O),U,fun p hp=>g9 k W (jm _) hp⟩
end
seal L2.PE L2.PS L2.PSs L2.PT L2.PW L2.PA L2.PI L2.PG L2.PTs L2.PO L2.PGs L2.CallR L2.OpR L2.IxR L2.SlR L2.MtR L2.UnR L2.DO L2.DL L2.DB L2.DT L2.DW L2.DS L2.DS1 L2.R2D L2.CRD L2.MRD L2.DG L2.DGs L2.DIF L2.DIB L2.DTs L2.DP L2.GE L2.GT L2.GW L2.GA L2.GS L2.GS1
theorem el1 {α:Type} {p:List α->Prop} (h:∀ a,p [a]):∀ us:List α,us.length=1->p us
 | [a],_=>h a
theorem el2 {α:Type} {p:List α->Prop} (h:∀ a b,p [a,b]):∀ us:List α,us.length=2->p us
 | [a,b],_=>h a b
theorem el3 {α:Type} {p:List α->Prop} (h:∀ a b c,p [a,b,c]):∀ us:List α,us.length=3->p us
 | [a,b,c],_=>h a b c
theorem el4 {α:Type} {p:List α->Prop} (h:∀ a b c d,p [a,b,c,d]):∀ us:List α,us.length=4->p us
 | [a,b,c,d],_=>h a b c d
theorem el5 {α:Type} {p:List α->Prop} (h:∀ a b c d e,p [a,b,c,d,e]):∀ us:List α,us.length=5->p us
 | [a,b,c,d,e],_=>h a b c d e
end L2
namespace P41
open PySem L2
noncomputable def top (i:Nat):Stmt:=PySem.Challenge.pw_dimhouse_k41_ends_and_rings.main.body.getD i (.Pass ⟨0,0,0,0⟩)
noncomputable def k_ATOM_PLACES:List Key:=[.inr "copy",.inr "op",.inr "store",.inr "take",.inr "lay",.inr "say",.inr "if",.inr "end"]
noncomputable def fK:List Dt:=[(.tup [(.int 2),(.int 3)]),(.tup [(.int 3),(.int 5)]),(.tup [(.int 2),(.int 3)]),(.tup [(.int 3),(.int 4)]),(.tup [(.int 2),(.int 4)]),(.tup [(.int 1),(.int 2)]),(.tup [(.int 1),(.int 2)]),(.tup [(.int 1),(.int 2)])]
noncomputable def mt:Dt:=(.tup [(.str "copy"),(.str "op"),(.str "load"),(.str "take"),(.str "hear")])
noncomputable def y18:List Dt->Option T:=dQ 2 ((bc (sIf (tB2 (gEq false) (toD (d2 bz (vB 0) (kD (.int 4)))) (kD (.int 0))) (bO (d2 aB (toD (dE (aa (toD (d2 bz (toD (d2 bh (vB 0) (kD (.int 8)))) (toD (d2 vi (kD (.int 2)) (kD (.int 40)))))) (aa (toD (d2 bz (toD (d2 bh (vB 0) (kD (.int 8)))) (kD (.int 3)))) ai)))) (toD (d2 bz (toD (d2 bh (vB 0) (kD (.int 4)))) (kD (.int 2)))))) cY) (bO (d2 aB (vB 1) (toD (d2 bz (toD (d2 bh (vB 0) (kD (.int 4)))) (toD (ah bD (aa (vB 1) ai)))))))))
noncomputable def y1:List Dt->Option T:=dQ 2 ((bc (sIf (tB2 (gq fun i j=>decide (i<j)) (vB 1) (toD (ah bD (aa (vB 0) ai)))) (bO (d2 aB (vB 0) (vB 1))) cY) (bO (toT (kD (.int 0))))))
noncomputable def y39:De->Option Dt:=(toD (d2 aB (vB 2) (toD (d2 bz (toD (d2 bh (toD (d2 bz (toD (d2 gA (vB 1) (toD (d2 cy (kD (.int 48271)) (toD (d2 gA (kD (.int 2)) (vB 0))))))) (kD (.int 2147483647)))) (kD (.int 9)))) (kD (.int 26))))))
noncomputable def q39:De->Option Dt:=(toD (d2 cy (toD (d2 cy (toD (vSl (vB 3) fC (dL (vB 4)))) (toD (d2 aB (vB 2) (toD (d2 bz (toD (d2 cy (toD (d2 bh (vB 1) (kD (.int 36)))) (vB 0))) (kD (.int 26)))))))) (toD (vSl (vB 3) (dL (vB 4)) fC))))
noncomputable def y14:List Dt->Option T:=dQ 6 ((bc (bX 2 (toT (kD (.str "abcdefghijklmnopqrstuvwxyz"))))
  (bc (bX 3 (toT (toD (d2 bz (vB 0) (kD (.int 6))))))
  (bc (bX 4 (toT (toD (fQ iA (kD (.str "")) (aa (toD (aW [none,some 0,some 2] (cZ dv (aa (vL 3) ai)) (ap 0) bd y39)) ai)))))
  (bc (bX 5 (toT (toD (d2 bz (toD (d2 bh (vB 0) (kD (.int 6)))) (toD (d2 cy (vB 3) (kD (.int 1))))))))
  (bO (aW [none,some 0,some 2,some 4,some 5] (cZ dv (aa (vL 1) ai)) (ap 0) bd q39)))))))
noncomputable def q45:List Dt->Option T:=dQ 10 ((bc (bX 5 (toT (toD (d2 bh (toD (d2 bz (toD (d2 gA (vB 0) (kD (.int 48271)))) (kD (.int 2147483647)))) (kD (.int 3))))))
  (bc (bX 6 (toT (toD (d2 aB (vB 1) (toD (d2 bz (vB 5) (toD (ah bD (aa (vB 1) ai)))))))))
  (bc (bX 7 (toT (toD (ah y18 (aa (toD (d2 bh (vB 0) (kD (.int 14)))) (aa (vL 1) ai))))))
  (bc (bX 8 (toT (toD (ah y18 (aa (toD (d2 bh (vB 5) (kD (.int 11)))) (aa (vL 1) ai))))))
  (bc (bX 9 (toT (toD (d2 bz (vB 0) (kD (.int 14))))))
  (bc (sIf (tB2 (gEq false) (toD (d2 bz (toD (d2 bh (vB 5) (kD (.int 7)))) (kD (.int 24)))) (kD (.int 0))) (bO (bT (aa (kD (.str "end")) (aa (vL 7) ai)))) cY)
  (bc (sIf (tB2 (gEq false) (vB 9) (kD (.int 0))) (bO (bT (aa (kD (.str "copy")) (aa (vL 6) (aa (vL 7) ai))))) cY)
  (bc (sIf (tB2 (gq fun i j=>decide (i<j)) (vB 9) (kD (.int 3))) (bO (bT (aa (kD (.str "op")) (aa (vL 6) (aa (toD (d2 aB (kD (.str "+-*<=&|^")) (toD (d2 bz (toD (d2 bh (vB 5) (kD (.int 24)))) (kD (.int 8)))))) (aa (vL 7) (aa (vL 8) ai))))))) cY)
  (bc (sIf (tB2 (gq fun i j=>decide (i<j)) (vB 9) (kD (.int 5))) (bO (bT (aa (kD (.str "load")) (aa (vL 6) (aa (toD (d2 aB (vB 2) (toD (d2 bz (toD (d2 bh (vB 5) (kD (.int 8)))) (toD (ah bD (aa (vB 2) ai))))))) ai))))) cY)
  (bc (sIf (tB2 (gq fun i j=>decide (i<j)) (vB 9) (kD (.int 7))) (bO (bT (aa (kD (.str "store")) (aa (toD (d2 aB (vB 2) (toD (d2 bz (toD (d2 bh (vB 5) (kD (.int 8)))) (toD (ah bD (aa (vB 2) ai))))))) (aa (vL 7) ai))))) cY)
  (bc (sIf (tB2 (gEq false) (vB 9) (kD (.int 7))) (bO (bT (aa (kD (.str "take")) (aa (vL 6) (aa (toD (d2 aB (vB 3) (toD (d2 bz (toD (d2 bh (vB 5) (kD (.int 8)))) (toD (ah bD (aa (vB 3) ai))))))) (aa (vL 7) ai)))))) cY)
  (bc (sIf (tB2 (gEq false) (vB 9) (kD (.int 8))) (bO (bT (aa (kD (.str "lay")) (aa (toD (d2 aB (vB 3) (toD (d2 bz (toD (d2 bh (vB 5) (kD (.int 8)))) (toD (ah bD (aa (vB 3) ai))))))) (aa (vL 7) (aa (vL 8) ai)))))) cY)
  (bc (sIf (tB2 (gEq false) (vB 9) (kD (.int 9))) (bO (bT (aa (kD (.str "hear")) (aa (vL 6) ai)))) cY)
  (bc (sIf (tB2 (gEq false) (vB 9) (kD (.int 10))) (bO (bT (aa (kD (.str "say")) (aa (vL 7) ai)))) cY)
  (bc (sIf (tB2 (gq fun i j=>decide (i<j)) (vB 9) (kD (.int 13))) (bO (bT (aa (kD (.str "if")) (aa (vL 7) (aa (toD (d2 bz (toD (d2 bh (vB 5) (kD (.int 13)))) (vB 4))) ai))))) cY)
  (bO (bT (aa (kD (.str "go")) (aa (toD (d2 bz (toD (d2 bh (vB 5) (kD (.int 13)))) (vB 4))) ai))))))))))))))))))))
noncomputable def q34:De->Option Dt:=(toD (bT (aa (toD (d2 aB (vB 1) (vB 0))) (aa (toD (d2 cy (toD (d2 bz (toD (d2 bh (vB 2) (kD (.int 64)))) (kD (.int 5)))) (vB 0))) (aa (toD (d2 (gEq false) (toD (d2 bz (toD (d2 bh (vB 2) (toD (d2 aB (toD (dE (aa (kD (.int 1)) (aa (kD (.int 2)) (aa (kD (.int 4)) (aa (kD (.int 8)) ai)))))) (toD (d2 bz (vB 0) (kD (.int 4)))))))) (kD (.int 3)))) (kD (.int 0)))) ai)))))
noncomputable def z26:De->Option Out:=(z29 7 (toD (bT (aa (toD (d2 aB (vB 2) (toD (d2 cy (kD (.int 8)) (vB 8))))) (aa (toD (d2 cy (kD (.int 1)) (toD (d2 bz (toD (d2 bh (vB 5) (kD (.int 5)))) (kD (.int 8)))))) (aa (toD (d2 (gEq false) (toD (d2 bz (toD (d2 bh (vB 5) (toD (d2 aB (toD (dE (aa (kD (.int 16)) (aa (kD (.int 32)) ai)))) (toD (d2 bz (vB 8) (kD (.int 2)))))))) (kD (.int 3)))) (kD (.int 0)))) ai))))))
noncomputable def y41:De->Option Dt:=(toD (d2 aB (vB 0) (kD (.int 0))))
noncomputable def z42:De->Option Dt:=(toD (d2 aB (vB 0) (kD (.int 0))))
noncomputable def y24:De->Option Out:=(bc (bX 13 (toT (toD (bT (aa (toD (aW [none] (fIt (vB 6)) (ap 0) bd z42)) (aa (toD (aW [none] (fIt (vB 7)) (ap 0) bd y41)) ai)))))) (z29 11 (toD (ah q45 (aa (vL 12) (aa (vL 9) (aa (toD (d2 aB (vB 13) (kD (.int 0)))) (aa (toD (d2 aB (vB 13) (kD (.int 1)))) (aa (toD (d2 cy (toD (ah bD (aa (vB 10) ai))) (kD (.int 1)))) ai)))))))))
noncomputable def q18:List Dt->Option T:=dQ 14 ((bc (bX 2 (toT (toD (ah y14 (aa (toD (ah y1 (aa (vL 0) (aa (toD (ah vv (aa (toD (d2 (gq fun i j=>decide (j<i)) (toD (d2 bz (toD (ah y1 (aa (vL 0) (aa (kD (.int 1)) ai)))) (kD (.int 3)))) (kD (.int 0)))) ai))) ai)))) (aa (kD (.int 12)) ai))))))
  (bc (bX 3 (toT (toD (d2 cy (kD (.int 1)) (toD (ah vv (aa (toD (d2 (gEq false) (toD (d2 bz (toD (d2 bh (toD (ah y1 (aa (vL 0) (aa (kD (.int 2)) ai)))) (kD (.int 44)))) (kD (.int 6)))) (kD (.int 1)))) ai)))))))
  (bc (bX 4 (toT (toD (d2 cy (kD (.int 1)) (toD (d2 bz (toD (ah y1 (aa (vL 0) (aa (kD (.int 2)) ai)))) (toD (d2 gA (kD (.int 4)) (vB 3)))))))))
  (bc (bX 5 (toT (toD (ah y1 (aa (vL 0) (aa (kD (.int 3)) ai))))))
  (bc (bX 6 (toT (toD (ah cu (aa (toD (aW [none,some 2,some 5] (cZ dv (aa (vL 4) ai)) (ap 0) bd q34)) ai)))))
  (bc (bX 7 (dE ai))
  (bc (jD (cZ dv (aa (toD (d2 cy (kD (.int 1)) (toD (d2 bz (vB 5) (toD (d2 gA (kD (.int 2)) (vB 3))))))) ai)) (ap 8) z26)
  (bc (bX 7 (ah cu (aa (vB 7) ai)))
  (bc (bX 9 (toT (toD (ah y14 (aa (toD (ah y1 (aa (vL 0) (aa (kD (.int 0)) ai)))) (aa (toD (d2 cy (kD (.int 2)) (toD (d2 bz (toD (d2 bh (toD (ah y1 (aa (vL 0) (aa (kD (.int 2)) ai)))) (kD (.int 4)))) (kD (.int 11)))))) ai))))))
  (bc (bX 10 (toT (toD (vSl (vB 0) (dL (kD (.int 6))) (dL (toD (d2 cy (kD (.int 6)) (vB 1))))))))
  (bc (bX 11 (dE ai))
  (bc (jD (fIt (vL 10)) (ap 12) y24)
  (bc (z29 11 (toD (bT (aa (kD (.str "end")) (aa (toD (ah y18 (aa (toD (ah y1 (aa (vL 0) (aa (kD (.int 4)) ai)))) (aa (vL 9) ai)))) ai)))))
  (xO 7 (bO (bT (aa (vL 6) (aa (vL 7) (aa (toD (ah cu (aa (vB 11) ai))) ai))))))))))))))))))))
noncomputable def y16:List Dt->Option T:=dQ 2 ((bc (sIf (tB2 (gEq false) (toD (d2 aB (toD (d2 aB (vB 0) (vB 1))) (kD (.int 0)))) (kD (.str "end"))) (bO (dE ai)) cY)
  (bc (sIf (tB2 (gEq false) (toD (d2 aB (toD (d2 aB (vB 0) (vB 1))) (kD (.int 0)))) (kD (.str "go"))) (bO (dE (aa (toD (d2 aB (toD (d2 aB (vB 0) (vB 1))) (kD (.int 1)))) ai))) cY)
  (bc (sIf (tB2 (gEq false) (toD (d2 aB (toD (d2 aB (vB 0) (vB 1))) (kD (.int 0)))) (kD (.str "if"))) (bO (dE (aa (toD (d2 aB (toD (d2 aB (vB 0) (vB 1))) (kD (.int 2)))) (aa (toD (d2 cy (vB 1) (kD (.int 1)))) ai)))) cY)
  (bO (dE (aa (toD (d2 cy (vB 1) (kD (.int 1)))) ai)))))))
noncomputable def y2:Fs:=(aL (dh (tD (tB2 (gEq false) (vB 5) (vB 2))) (cH (eD (kD (.bl true)))) cD)
  (dh (tD (m7 (tB2 (cf true) (vB 5) (vB 1)) (tB2 (cf true) (vB 5) (vB 3)))) (aL (iU (eV 3) (eD (vL 5)) (eD (kD (.bl true))))
  (gF (eV 4) (eD (vL 5)))) cD))
noncomputable def q12:Fs:=(nn (eCV y16 (aw (eD (vL 0)) (aw (kK (eV 4)) bQ))) (ggN 5) y2 100000)
noncomputable def y11:Ft:=(tD (m7 (tB2 (gq fun i j=>decide (j<i)) (toD (ah bD (aa (vB 4) ai))) (kD (.int 0))) (tB2 (cf true) (vB 2) (vB 1))))
noncomputable def z10:Fs:=(aL (aI 3 (eN km))
  (aL (aI 4 (eN (dE (aa (vL 2) ai))))
  (cU y11 q12 100000)))
noncomputable def z12:Fd:=jF 6 ((aL (gl (cZ dv (aa (toD (ah bD (aa (vB 0) ai))) ai)) [2] (ap 2) z10) (cH (eD (kD (.bl false))))))
noncomputable def y37:De->Option Bool:=(m7 (tB2 (gEq false) (toD (d2 aB (toD (d2 aB (vB 1) (vB 0))) (kD (.int 0)))) (kD (.str "end"))) (tB2 (cf true) (vB 0) (vB 2)))
noncomputable def y32:List Dt->Option T:=dQ 2 ((bc (sIf (tB2 (gEq true) (toD (aW [none,some 0,some 1] (cZ dv (aa (toD (ah bD (aa (vB 0) ai))) ai)) (ap 0) y37 (vL 0))) (toD (dE ai))) (bO (toT (kD (.str "end")))) cY)
  (bc (sIf (fw (toD (ah (jJ z12) (aa (vL 0) (aa (vL 1) ai))))) (bO (toT (kD (.str "ring")))) cY)
  (bO (toT (kD (.str "")))))))
noncomputable def q69:De->Option Dt:=(toD (d2 aB (vB 0) (kD (.int 0))))
noncomputable def q16:List Dt->Option T:=dQ 1 ((bO (aW [none] (fIt (toD (d2 aB (vB 0) (kD (.int 1))))) (ap 0) bd q69)))
noncomputable def y27:De->Option Out:=(sIf (m7 (tB2 (gEq false) (toD (d2 aB (vB 4) (kD (.int 0)))) (kD (.str "end"))) (tB2 (cf true) (vB 3) (vB 2))) (bO (bT (aa (kD (.str "end")) (aa (vL 3) ai)))) cY)
noncomputable def z21:List Dt->Option T:=dQ 5 ((bc (bX 2 (toT (toD (ah q16 (aa (vL 1) ai)))))
  (bc (jD (cZ l3 (aa (toD (d2 aB (vB 0) (kD (.int 2)))) ai)) (iL 2 (cj (ap 3) (cj (ap 4) iK))) y27)
  (bO (toT (kD .non))))))
noncomputable def y61:List Dt->Option T:=dQ 2 ((bc (sIf (tB2 (gEq false) (toD (d2 aB (vB 1) (kD (.int 0)))) (kD (.str "go"))) (bO (bT (aa (toD (d2 aB (vB 1) (kD (.int 1)))) ai))) cY)
  (bc (sIf (tB2 (gEq false) (toD (d2 aB (vB 1) (kD (.int 0)))) (kD (.str "if"))) (bO (bT (aa (toD (d2 aB (vB 1) (kD (.int 2)))) (aa (toD (d2 cy (vB 0) (kD (.int 1)))) ai)))) cY)
  (bc (sIf (tB2 (gEq false) (toD (d2 aB (vB 1) (kD (.int 0)))) (kD (.str "end"))) (bO (bT ai)) cY)
  (bO (bT (aa (toD (d2 cy (vB 0) (kD (.int 1)))) ai)))))))
noncomputable def y91:De->Option Dt:=(toD (ah y61 (aa (vL 0) (aa (vL 1) ai))))
noncomputable def eF:List Dt->Option T:=dQ 1 ((bO (aW [none,none] (cZ l3 (aa (toD (d2 aB (vB 0) (kD (.int 2)))) ai)) (iL 2 (cj (ap 0) (cj (ap 1) iK))) bd y91)))
noncomputable def y33:De->Option Dt:=(toD (d2 (cf false) (vB 0) (vB 1)))
noncomputable def y17:De->Option Bool:=(fw (toD (ah (lp fun bs=>bs.any id) (aa (toD (aW [none,some 2] (fIt (toD (d2 aB (vB 1) (vB 0)))) (ap 0) bd y33)) ai))))
noncomputable def q33:De->Option Out:=(bc (bX 4 (toT (toD (aW [none,some 0,some 2] (fIt (vB 2)) (ap 0) y17 (vL 0)))))
  (bc (bX 3 (toT (toD (d2 (gq fun i j=>decide (i<j)) (toD (ah bD (aa (vB 4) ai))) (toD (ah bD (aa (vB 2) ai)))))))
  (bX 2 (toT (vL 4)))))
noncomputable def q42:De->Option Bool:=(fw (vB 3))
noncomputable def q21:List Dt->Option T:=dQ 5 ((bc (bX 2 (toT (vL 1)))
  (bc (bX 3 (toT (kD (.bl true))))
  (bc (dY q42 q33 100000)
  (rH 2)))))
noncomputable def z24:De->Option Bool:=(tB2 (cf true) (vB 0) (vB 1))
noncomputable def q20:De->Option Bool:=(tB2 (cf false) (vB 0) (vB 1))
noncomputable def y31:Fs:=(aL (gF (eV 5) (eD (vL 6))) (aI 6 (eD (toD (d2 aB (toD (aW [none,some 4] (fIt (toD (d2 aB (vB 3) (vB 6)))) (ap 0) q20 (vL 0))) (kD (.int 0)))))))
noncomputable def q32:Ft:=(tD (tB2 (cf true) (vB 6) (vB 5)))
noncomputable def z16:Fd:=jF 7 ((aL (aI 2 (eD (toD (ah q16 (aa (vL 1) ai)))))
  (aL (aI 3 (eD (toD (ah eF (aa (vL 0) ai)))))
  (aL (aI 4 (eD (toD (ah q21 (aa (vL 3) (aa (toD (aW [none,some 2] (cZ dv (aa (toD (ah bD (aa (vB 3) ai))) ai)) (ap 0) z24 (vL 0))) ai))))))
  (aL (dh (tD (tB2 (gEq false) (toD (ah bD (aa (vB 4) ai))) (kD (.int 0)))) (cH (eD (kD .non))) cD)
  (aL (aI 5 (eN (dE ai)))
  (aL (aI 6 (eD (toD (d2 aB (vB 4) (kD (.int 0))))))
  (aL (cU q32 y31 100000)
  (cH (eT (aw (eD (kD (.str "ring"))) (aw (eN (vSl (vB 5) (dL (toD (fQ da (vB 5) (aa (vB 6) ai)))) fC)) bQ))))))))))))
noncomputable def z62:De->Option Bool:=(iy (fw (toD (d2 aB (vB 0) (kD (.int 2))))))
noncomputable def y62:De->Option Dt:=(toD (d2 aB (vB 0) (kD (.int 0))))
noncomputable def z34:List Dt->Option T:=dQ 1 ((bO (aW [none] (fIt (toD (d2 r6 (toD (d2 aB (vB 0) (kD (.int 0)))) (toD (d2 aB (vB 0) (kD (.int 1))))))) (ap 0) z62 y62)))
noncomputable def y79:De->Option Out:=(bc (bX 3 (toT (toD vJ))) (sIf (tB2 (gIs true) (vB 3) (kD .non)) (bO (bT (aa (kD (.str "spoil")) (aa (vL 2) (aa (vL 3) ai))))) cY))
noncomputable def z17:List Dt->Option T:=dQ 4 ((bc (jD (fIt (toD (ah z34 (aa (vL 0) ai)))) (ap 2) y79) (bO (toT (kD .non)))))
noncomputable def y75:List Dt->Option T:=dQ 1 ((bO (vIf (tB2 (cf false) (toD (d2 aB (vB 0) (kD (.int 0)))) (kD mt)) (d2 aB (vB 0) (kD (.int 1))) (toT (kD .non)))))
noncomputable def z75:List Dt->Option T:=dQ 2 ((bc (sIf (fSi true k_ATOM_PLACES fK (toD (d2 aB (vB 0) (kD (.int 0))))) (bO (bT ai)) cY)
  (bc (bX 1 (toT (toD (vSg k_ATOM_PLACES fK (toD (d2 aB (vB 0) (kD (.int 0))))))))
  (bO (vSl (vB 0) (dL (toD (d2 aB (vB 1) (kD (.int 0))))) (dL (toD (d2 aB (vB 1) (kD (.int 1))))))))))
noncomputable def q62:De->Option Out:=(sIf (m7 (fw (toD (fF "str" (vB 2)))) (tB2 (cf true) (vB 2) (vB 1))) (z29 1 (vL 2)) cY)
noncomputable def q66:List Dt->Option T:=dQ 3 ((bc (bX 1 (dE ai))
  (bc (jD (fIt (toD (ah z75 (aa (vL 0) ai)))) (ap 2) q62)
  (rH 1))))
noncomputable def q41:De->Option Bool:=(tB2 (gEq true) (vB 0) (toD (ah y75 (aa (vL 1) ai))))
noncomputable def y42:De->Option Out:=(y58 2 (aW [none,some 0] (fIt (vB 3)) (ap 0) q41 (vL 0)))
noncomputable def y20:List Dt->Option T:=dQ 4 ((bc (bX 2 (ah q66 (aa (vL 0) ai)))
  (bc (jD (fIt (vL 1)) (ap 3) y42)
  (bO (ah fT (aa (vB 2) ai))))))
noncomputable def q28:Fg:=(eN (dE ai))
noncomputable def q56:De->Option Dt:=(toD (d2 aB (vB 1) (vB 0)))
noncomputable def y55:Fs:=(aL (aI 6 (eDV 2 (ah y20 (aa (toD (d2 aB (vB 1) (vB 5))) (aa (toD (aW [none,some 3] (fIt (toD (d2 aB (vB 2) (vB 5)))) (ap 0) bd q56)) ai)))))
  (dh (tDV 2 (tB2 (gEq true) (vB 6) (toD (d2 aB (vB 3) (vB 5))))) (aL (iU (eV 3) (eD (vL 5)) (eV 6))
  (aI 4 (eD (kD (.bl true))))) cD))
noncomputable def z55:Fs:=(aL (aI 4 (eD (kD (.bl false)))) (gl (cZ tN (aa (toD (d2 oy (toD (ah bD (aa (vB 1) ai))) (kD (.int 1)))) (aa (toD (xX (kD (.int 1)))) (aa (toD (xX (kD (.int 1)))) ai)))) [5] (ap 5) y55))
noncomputable def z79:Ft:=(tD (fw (vB 4)))
noncomputable def y40:Fd:=jF 7 ((aL (aI 1 (eD (toD (d2 aB (vB 0) (kD (.int 2))))))
  (aL (aI 2 (eD (toD (ah eF (aa (vL 0) ai)))))
  (aL (aI 3 (oQ [none] (fIt (vL 1)) [0] (ap 0) bd q28))
  (aL (aI 4 (eD (kD (.bl true))))
  (aL (cU z79 z55 100000)
  (cH (eV 3))))))))
noncomputable def q65:De->Option Dt:=(toD (bT (aa (toD (d2 aB (vB 0) (kD (.int 0)))) (aa (toD (d2 aB (vB 0) (kD (.int 1)))) (aa (kD (.bl false)) ai)))))
noncomputable def q48:De->Option Out:=(sIf (tB2 (cf true) (vB 7) (vB 5)) (bO (bT (aa (kD (.str "lost")) (aa (vL 7) (aa (toD vJ) (aa (vL 6) ai)))))) cY)
noncomputable def z49:De->Option Out:=(jD (fIt (toD (d2 aB (vB 2) (vB 4)))) (ap 7) q48)
noncomputable def q19:List Dt->Option T:=dQ 8 ((bc (bX 2 (toT (toD (ah (jJ y40) (aa (vL 0) ai)))))
  (bc (bX 3 (toT (toD (d2 cy (toD (dE (aa (toD (bT (aa (kD (.int 0)) (aa (toD (d2 aB (vB 1) (kD (.int 0)))) (aa (kD (.bl true)) ai))))) ai))) (toD (aW [none] (fIt (toD (d2 aB (vB 1) (kD (.int 1))))) (ap 0) bd q65))))))
  (bc (jD (fIt (vL 3)) (iL 3 (cj (ap 4) (cj (ap 5) (cj (ap 6) iK)))) z49)
  (bO (toT (kD .non)))))))
noncomputable def y19:Fd:=jF 3 ((aL (aI 2 (eN (ah z21 (aa (vL 0) (aa (vL 1) ai)))))
  (aL (dh (jg (e2D 2 (gIs false) (eV 2) (eD (kD .non)))) (aI 2 (eC z16 (aw (eD (vL 0)) (aw (eD (vL 1)) bQ)))) cD)
  (aL (dh (jg (e2D 2 (gIs false) (eV 2) (eD (kD .non)))) (aI 2 (eN (ah z17 (aa (vL 0) (aa (vL 1) ai))))) cD)
  (aL (dh (jg (e2D 2 (gIs false) (eV 2) (eD (kD .non)))) (aI 2 (eN (ah q19 (aa (vL 0) (aa (vL 1) ai))))) cD)
  (cH (eV 2)))))))
noncomputable def y48:Fd:=jF 2 ((cH (e2D 2 (gIs false) (eC y19 (aw (eD (vL 0)) (aw (eD (vL 1)) bQ))) (eD (kD .non)))))
noncomputable def y38:List Dt->Option T:=dQ 1 ((bO (oq (toD (fF "int" (vB 0))) (AS (toD (fF "bool" (vB 0)))))))
noncomputable def z41:De->Option Dt:=(toD (ah y38 (aa (vL 0) ai)))
noncomputable def q43:De->Option Bool:=(tB2 (cf false) (vB 0) (vB 1))
noncomputable def y26:De->Option Dt:=(toD (d2 (cf false) (toD (d2 aB (vB 2) (vB 0))) (toD (ah y16 (aa (vL 1) (aa (toD (d2 aB (vB 2) (toD (d2 oy (vB 0) (kD (.int 1)))))) ai))))))
noncomputable def z30:List Dt->Option T:=dQ 3 ((bc (sIf (fOr (iy (fw (toD (fF "list" (vB 2))))) (fOr (tB2 (gEq false) (vB 2) (toD (dE ai))) (iy (fw (toD (ah (lp fun bs=>bs.all id) (aa (toD (aW [none] (fIt (vB 2)) (ap 0) bd z41)) ai))))))) (bO (toT (kD (.bl false)))) cY)
  (bc (sIf (fOr (tB2 (gEq true) (toD (ah fj (aa (vB 2) ai))) (toD (ah bD (aa (vB 2) ai)))) (tB2 (gEq true) (toD (aW [none,some 1] (fIt (vB 2)) (ap 0) q43 (vL 0))) (toD (dE ai)))) (bO (toT (kD (.bl false)))) cY)
  (bO (ah (lp fun bs=>bs.all id) (aa (toD (aW [none,some 0,some 2] (cZ dv (aa (toD (ah bD (aa (vB 2) ai))) ai)) (ap 0) bd y26)) ai))))))
noncomputable def z11:List Dt->Option T:=dQ 4 ((bc (sIf (tB2 (gEq false) (vB 2) (kD (.str ""))) (bO (d2 (gIs false) (vB 3) (kD .non))) cY)
  (bc (sIf (fOr (iy (fw (toD (fF "tuple" (vB 3))))) (fOr (tB2 (gEq true) (toD (ah bD (aa (vB 3) ai))) (kD (.int 2))) (tB2 (gEq true) (toD (d2 aB (vB 3) (kD (.int 0)))) (vB 2)))) (bO (toT (kD (.bl false)))) cY)
  (bc (sIf (tB2 (gEq false) (vB 2) (kD (.str "ring"))) (bO (ah z30 (aa (vL 0) (aa (vL 1) (aa (toD (d2 aB (vB 3) (kD (.int 1)))) ai))))) cY)
  (bO (oq (toD (ah y38 (aa (toD (d2 aB (vB 3) (kD (.int 1)))) ai))) (oq (toD (iz (gq fun i j=>decide (i<=j)) (gq fun i j=>decide (i<j)) (kD (.int 0)) (toD (d2 aB (vB 3) (kD (.int 1)))) (toD (ah bD (aa (vB 0) ai))))) (oq (toD (d2 (gEq false) (toD (d2 aB (toD (d2 aB (vB 0) (toD (d2 aB (vB 3) (kD (.int 1)))))) (kD (.int 0)))) (kD (.str "end")))) (d2 (cf true) (toD (d2 aB (vB 3) (kD (.int 1)))) (vB 1))))))))))
noncomputable def q26:De->Option Out:=(bc (bX 6 (toT (toD (d2 bz (toD (d2 gA (toD (d2 cy (toD (d2 bh (toD (ah y1 (aa (vL 0) (aa (kD (.int 5)) ai)))) (kD (.int 4)))) (toD (d2 gA (kD (.int 7919)) (vB 5))))) (kD (.int 69621)))) (kD (.int 2147483629)))))) (sIf (tB2 (gEq false) (toD (d2 bz (toD (d2 bh (vB 6) (kD (.int 5)))) (vB 3))) (kD (.int 0))) (z29 4 (toD (bT (aa (vL 5) (aa (toD (ah cu (aa (toD (ah dn (aa (toD (vSl (vB 2) fC (dL (toD (d2 bz (toD (d2 bh (vB 6) (kD (.int 45)))) (toD (d2 cy (toD (ah bD (aa (vB 2) ai))) (kD (.int 1))))))))) ai))) ai))) ai))))) cY))
noncomputable def z18:List Dt->Option T:=dQ 8 ((bc (bX 3 (toT (toD (d2 aB (toD (dE (aa (kD (.int 2)) (aa (kD (.int 3)) (aa (kD (.int 5)) (aa (kD (.int 9)) ai)))))) (toD (d2 bz (toD (ah y1 (aa (vL 0) (aa (kD (.int 5)) ai)))) (kD (.int 4))))))))
  (bc (bX 2 (toT (toD (ah fT (aa (toD (d2 cy (vB 2) (toD (dE (aa (toD (d2 aB (toD (d2 aB (toD (d2 aB (vB 1) (kD (.int 0)))) (kD (.int 0)))) (kD (.int 0)))) (aa (kD (.str "zz")) ai)))))) ai)))))
  (bc (bX 4 (dE ai))
  (bc (jD (cZ dv (aa (toD (ah bD (aa (toD (d2 aB (vB 1) (kD (.int 2)))) ai))) ai)) (ap 5) q26)
  (bc (bX 7 (toT (toD (ah cu (aa (toD (ah dn (aa (toD (vSl (vB 2) fC (dL (toD (d2 bz (toD (d2 bh (toD (ah y1 (aa (vL 0) (aa (kD (.int 5)) ai)))) (kD (.int 4)))) (toD (d2 cy (toD (ah bD (aa (vB 2) ai))) (kD (.int 1))))))))) ai))) ai)))))
  (bO (bT (aa (vL 7) (aa (toD (ah cu (aa (vB 4) ai))) ai))))))))))
noncomputable def z95:De->Option Dt:=(toD (bT (aa (toD (d2 aB (vB 0) (kD (.int 0)))) (aa (toD (d2 aB (vB 0) (kD (.int 1)))) (aa (kD (.bl true)) ai)))))
noncomputable def q57:De->Option Dt:=(toD (ah cu (aa (toD (aW [none] (fIt (vB 0)) (ap 0) bd z95)) ai)))
noncomputable def z65:De->Option Bool:=(tB2 (gEq false) (toD (d2 aB (toD (d2 aB (vB 1) (vB 0))) (kD (.int 0)))) (kD (.str "end")))
noncomputable def y64:De->Option Dt:=(toD (bT (aa (vL 0) (aa (vL 1) ai))))
noncomputable def y57:Fs:=(iU (eV 10) (eD (vL 11)) (eD (kD (.bl true))))
noncomputable def y66:De->Option Dt:=(toD (bT (aa (vL 0) (aa (vL 1) ai))))
noncomputable def r9:Fd:=jF 15 ((aL (l7 (toD (ah q18 (aa (vL 0) (aa (kD (.int 57)) ai)))) [1,2,3] (iL 3 (cj (ap 1) (cj (ap 2) (cj (ap 3) iK)))))
  (aL (aI 4 (eD (toD (aW [none] (fIt (toD (bT (aa (vL 1) (aa (vL 2) ai))))) (ap 0) bd q57))))
  (aL (aI 5 (eD (toD (bT (aa (toD (d2 aB (vB 4) (kD (.int 0)))) (aa (toD (d2 aB (vB 4) (kD (.int 1)))) (aa (vL 3) ai)))))))
  (aL (aI 6 (eD (toD (ah y14 (aa (toD (ah y1 (aa (vL 0) (aa (kD (.int 0)) ai)))) (aa (toD (d2 cy (kD (.int 2)) (toD (d2 bz (toD (d2 bh (toD (ah y1 (aa (vL 0) (aa (kD (.int 2)) ai)))) (kD (.int 4)))) (kD (.int 11)))))) ai))))))
  (aL (aI 7 (eD (toD (aW [none,none] (fIt (toD (d2 aB (toD (ah z18 (aa (vL 0) (aa (vL 5) (aa (vL 6) ai))))) (kD (.int 1))))) (iL 2 (cj (ap 0) (cj (ap 1) iK))) bd (vL 0)))))
  (aL (dh (tD (tB2 (gEq false) (toD (d2 bz (toD (d2 bh (toD (ah y1 (aa (vL 0) (aa (kD (.int 4)) ai)))) (kD (.int 3)))) (kD (.int 2)))) (kD (.int 0)))) (aI 7 (eD (toD (d2 cy (vB 7) (toD (aW [none,some 3] (cZ dv (aa (toD (ah bD (aa (vB 3) ai))) ai)) (ap 0) z65 (vL 0))))))) cD)
  (aL (aI 8 (eD (toD (ah cu (aa (toD (ah dn (aa (vB 6) ai))) ai)))))
  (aL (aI 9 (eD (toD (bT (aa (vL 8) (aa (toD (ah cu (aa (toD (aW [none,some 8] (fIt (toD (ah dg (aa (vB 7) ai)))) (ap 0) bd y64)) ai))) ai))))))
  (aL (aI 10 (eN km))
  (aL (gl (fIt (vL 7)) [11] (ap 11) y57)
  (aL (aI 12 (eCV y32 (aw (eD (vL 3)) (aw (eV 10) bQ))))
  (aL (aI 13 (eC y19 (aw (eD (vL 5)) (aw (eD (vL 9)) bQ))))
  (aL (dh (gG (gH (jG 2 z11 (aw (eD (vL 3)) (aw (eV 10) (aw (eD (vL 12)) (aw (eV 13) bQ))))))) (cH (eD (kD (.bl false)))) cD)
  (aL (dh (tD (tB2 (gEq false) (vB 12) (kD (.str "ring")))) (gF (eIx (eV 13) (eD (kD (.int 1)))) (eD (kD (.int 0)))) cD)
  (aL (aI 14 (eC y48 (aw (eD (vL 5)) (aw (eD (vL 9)) bQ))))
  (aL (dh (nj (tD (iy (fw (toD (fF "bool" (vB 14)))))) (nj (tD (tB2 (gEq true) (vB 14) (toD (d2 (gEq false) (vB 12) (kD (.str "")))))) (gG (gH (jG 2 z11 (aw (eD (vL 3)) (aw (eV 10) (aw (eD (vL 12)) (aw (eC y19 (aw (eD (vL 5)) (aw (eD (vL 9)) bQ))) bQ))))))))) (cH (eD (kD (.bl false)))) cD)
  (cH (eD (toD (d2 (gEq false) (vB 9) (toD (bT (aa (vL 8) (aa (toD (ah cu (aa (toD (aW [none,some 8] (fIt (toD (ah eQ (aa (vB 10) ai)))) (ap 0) bd y66)) ai))) ai)))))))))))))))))))))))))
structure Txt (P:qc4) (w:World) (K:PySem.W.Frag) (mg:Str->Option Value):Prop where
 n_all:mg "all"=none
 n_any:mg "any"=none
 n_bool:mg "bool"=none
 n_enumerate:mg "enumerate"=none
 n_int:mg "int"=none
 n_isinstance:mg "isinstance"=none
 n_len:mg "len"=none
 n_list:mg "list"=none
 n_range:mg "range"=none
 n_set:mg "set"=none
 n_sorted:mg "sorted"=none
 n_str:mg "str"=none
 n_tuple:mg "tuple"=none
 g_ATOM_PLACES:yc P w K mg "ATOM_PLACES" k_ATOM_PLACES fK
 g_SETTING:vz K mg "SETTING" mt
 k_str:e6 K "str"
 k_bool:e6 K "bool"
 k_int:e6 K "int"
 k_list:e6 K "list"
 k_tuple:e6 K "tuple"
section
variable {P:qc4} {w:World} {K:PySem.W.Frag} {mg:Str->Option Value} {base:Heap}
abbrev z36:Stmt:=top 35
theorem z92:FnScope ["_law_cell","_law_boxes"] ["_law_cell","_law_boxes"] (ab z36):=⟨rfl,rfl,rfl,by decide +kernel,rfl,by decide +kernel,by decide +kernel⟩
theorem cN:di (ab z36) ["_law_cell","_law_boxes"]=true:=by decide +kernel
theorem q78:aH (ab z36) "len"=true:=by decide +kernel
theorem q91 (T:Txt P w K mg) (D:DefF K mg "_law_atom" z36 ["_law_cell","_law_boxes"]):OkF P w K mg base "_law_atom" 1 ["_law_cell","_law_boxes"] (spD K 2 y18):=
 c8 D z92 rfl fun f cdv A outer s H E q=>(au (ci (bf (bG q) dG (DO.toB (ao be bK (ae (pvN 0 cN)) (DL.toB ag))) (DL.toB ag) (aN _)) (aE (aQ (av q (DO.toB (cG (ac (DO.toL (ao be bK (DO.toB (ao aU bH (ae (pvN 0 cN)) (DL.toB ag))) (DO.toB (ao Aw CF (DL.toB ag) (DL.toB ag))))) (ac (DO.toL (ao be bK (DO.toB (ao aU bH (ae (pvN 0 cN)) (DL.toB ag))) (DL.toB ag))) am)))) (DO.toB (ao be bK (DO.toB (ao aU bH (ae (pvN 0 cN)) (DL.toB ag))) (DL.toB ag)))))) bC)
     (aE (aQ (av q (ae (pvN 1 cN)) (DO.toB (ao be bK (DO.toB (ao aU bH (ae (pvN 0 cN)) (DL.toB ag))) (DO.toB (aT q78 bp cV T.n_len b8 (ay (ae (pvN 1 cN)) aG)))))))))
abbrev q24:Stmt:=top 33
theorem z80:FnScope ["_law_script","_law_k"] ["_law_script","_law_k"] (ab q24):=⟨rfl,rfl,rfl,by decide +kernel,rfl,by decide +kernel,by decide +kernel⟩
theorem dq:di (ab q24) ["_law_script","_law_k"]=true:=by decide +kernel
theorem q73:aH (ab q24) "len"=true:=by decide +kernel
theorem y80 (T:Txt P w K mg) (D:DefF K mg "_law_cell_at" q24 ["_law_script","_law_k"]):OkF P w K mg base "_law_cell_at" 1 ["_law_script","_law_k"] (spD K 2 y1):=
 c8 D z80 rfl fun f cdv A outer s H E q=>(au (ci (bf jV ii (ae (pvN 1 dq)) (DO.toB (aT q73 bp cV T.n_len b8 (ay (ae (pvN 0 dq)) aG))) (aN _)) (aE (aQ (av q (ae (pvN 0 dq)) (ae (pvN 1 dq))))) bC)
     (aE (aQ (DL.toO ag))))
abbrev q22:Stmt:=top 34
theorem q35:FnScope ["_law_cell","_law_many","_law_letters","_law_size","_law_word","_law_at"] ["_law_cell","_law_many"] (ab q22):=⟨rfl,rfl,rfl,by decide +kernel,rfl,by decide +kernel,by decide +kernel⟩
theorem bj:di (ab q22) ["_law_cell","_law_many","_law_letters","_law_size","_law_word","_law_at"]=true:=by decide +kernel
theorem z46:aH (ab q22) "range"=true:=by decide +kernel
theorem z88 (T:Txt P w K mg) (D:DefF K mg "_law_names" q22 ["_law_cell","_law_many"]):OkF P w K mg base "_law_names" 1 ["_law_cell","_law_many"] (spD K 2 y14):=
 c8 D q35 rfl fun f cdv A outer s H E L=>(au (br (nsN bj 2) (nsL bj 2) q35.nd (DL.toO bn))
     (au (br (nsN bj 3) (nsL bj 3) q35.nd (DL.toO (DO.toL (ao be bK (ae (pvN 0 bj)) (DL.toB ag)))))
     (au (br (nsN bj 4) (nsL bj 4) q35.nd (DL.toO (DO.toL (ya (DL.toB bn) (ay (DO.toB (bN (M:=["_law_k","_law_cell","_law_letters"]) (src:=[none,some 0,some 2]) (ts:=[0]) (CmpScope.of (by kernel_rfl)) rfl (DIF.toB (cT z46 T.n_range (ac (ak (pvN 3 bj)) am))) (fun q _ _ _ _=>(aJ (aX (N:=["_law_k","_law_cell","_law_letters"]) (i:=0) (by decide +kernel) (by decide +kernel) q (scC (outer:=ab q22) (by exact rfl))))) (fun _ _ _ _=>cr) (fun _ _ _ _=>(DO.toL (av L (ae (pvX (by kernel_rfl))) (DO.toB (ao be bK (DO.toB (ao aU bH (DO.toB (ao be bK (DO.toB (ao iu kh (ae (pvX (by kernel_rfl))) (DO.toB (ao bw cJ (DL.toB ag) (DO.toB (ao iu kh (DL.toB ag) (ae (pvX (by kernel_rfl))))))))) (DL.toB ag))) (DL.toB ag))) (DL.toB ag)))))) (by decide +kernel))) aG)))))
     (au (br (nsN bj 5) (nsL bj 5) q35.nd (DL.toO (DO.toL (ao be bK (DO.toB (ao aU bH (ae (pvN 0 bj)) (DL.toB ag))) (DO.toB (ao bw cJ (ae (pvN 3 bj)) (DL.toB ag)))))))
     (aE (aQ (bN (M:=["_law_k","_law_cell","_law_letters","_law_word","_law_at"]) (src:=[none,some 0,some 2,some 4,some 5]) (ts:=[0]) (CmpScope.of (by kernel_rfl)) rfl (DIF.toB (cT z46 T.n_range (ac (ak (pvN 1 bj)) am))) (fun q _ _ _ _=>(aJ (aX (N:=["_law_k","_law_cell","_law_letters","_law_word","_law_at"]) (i:=0) (by decide +kernel) (by decide +kernel) q (scC (outer:=ab q22) (by exact rfl))))) (fun _ _ _ _=>cr) (fun _ _ _ _=>(DO.toL (ao bw cJ (DO.toB (ao bw cJ (DO.toB (eZ (ae (pvX (by kernel_rfl))) iN (eO (ae (pvX (by kernel_rfl)))))) (DO.toB (av L (ae (pvX (by kernel_rfl))) (DO.toB (ao be bK (DO.toB (ao bw cJ (DO.toB (ao aU bH (ae (pvX (by kernel_rfl))) (DL.toB ag))) (ae (pvX (by kernel_rfl))))) (DL.toB ag))))))) (DO.toB (eZ (ae (pvX (by kernel_rfl))) (eO (ae (pvX (by kernel_rfl)))) iN))))) (by decide +kernel))))))))
abbrev z33:Stmt:=top 36
theorem q36:FnScope ["_law_cell","_law_boxes","_law_cells","_law_shelves","_law_many","_law_number","_law_x","_law_one","_law_other","_law_kind"] ["_law_cell","_law_boxes","_law_cells","_law_shelves","_law_many"] (ab z33):=⟨rfl,rfl,rfl,by decide +kernel,rfl,by decide +kernel,by decide +kernel⟩
theorem aj:di (ab z33) ["_law_cell","_law_boxes","_law_cells","_law_shelves","_law_many","_law_number","_law_x","_law_one","_law_other","_law_kind"]=true:=by decide +kernel
theorem y28:aH (ab z33) "len"=true:=by decide +kernel
theorem y43:aH (ab z33) "_law_atom"=true:=by decide +kernel
theorem y94 (T:Txt P w K mg) (D:DefF K mg "_law_row" z33 ["_law_cell","_law_boxes","_law_cells","_law_shelves","_law_many"]) (L:OkF P w K mg base "_law_atom" 1 ["_law_cell","_law_boxes"] (spD K 2 (y18))):OkF P w K mg base "_law_row" 2 ["_law_cell","_law_boxes","_law_cells","_law_shelves","_law_many"] (spD K 5 q45):=
 c8 D q36 rfl fun f cdv A outer s H E q=>(au (br (nsN aj 5) (nsL aj 5) q36.nd (DL.toO (DO.toL (ao aU bH (DO.toB (ao be bK (DO.toB (ao iu kh (ae (pvN 0 aj)) (DL.toB ag))) (DL.toB ag))) (DL.toB ag)))))
     (au (br (nsN aj 6) (nsL aj 6) q36.nd (DL.toO (DO.toL (av q (ae (pvN 1 aj)) (DO.toB (ao be bK (ae (pvN 5 aj)) (DO.toB (aT y28 bp cV T.n_len b8 (ay (ae (pvN 1 aj)) aG)))))))))
     (au (br (nsN aj 7) (nsL aj 7) q36.nd (DL.toO (DO.toL (aD y43 L (q.mono (by decide)) (ac (DO.toL (ao aU bH (ae (pvN 0 aj)) (DL.toB ag))) (ac (ak (pvN 1 aj)) am))))))
     (au (br (nsN aj 8) (nsL aj 8) q36.nd (DL.toO (DO.toL (aD y43 L (q.mono (by decide)) (ac (DO.toL (ao aU bH (ae (pvN 5 aj)) (DL.toB ag))) (ac (ak (pvN 1 aj)) am))))))
     (au (br (nsN aj 9) (nsL aj 9) q36.nd (DL.toO (DO.toL (ao be bK (ae (pvN 0 aj)) (DL.toB ag)))))
     (au (ci (bf (bG q) dG (DO.toB (ao be bK (DO.toB (ao aU bH (ae (pvN 5 aj)) (DL.toB ag))) (DL.toB ag))) (DL.toB ag) (aN _)) (aE (aQ (bt (ac bn (ac (ak (pvN 7 aj)) am))))) bC)
     (au (ci (bf (bG q) dG (ae (pvN 9 aj)) (DL.toB ag) (aN _)) (aE (aQ (bt (ac bn (ac (ak (pvN 6 aj)) (ac (ak (pvN 7 aj)) am)))))) bC)
     (au (ci (bf jV ii (ae (pvN 9 aj)) (DL.toB ag) (aN _)) (aE (aQ (bt (ac bn (ac (ak (pvN 6 aj)) (ac (DO.toL (av q (DL.toB bn) (DO.toB (ao be bK (DO.toB (ao aU bH (ae (pvN 5 aj)) (DL.toB ag))) (DL.toB ag))))) (ac (ak (pvN 7 aj)) (ac (ak (pvN 8 aj)) am)))))))) bC)
     (au (ci (bf jV ii (ae (pvN 9 aj)) (DL.toB ag) (aN _)) (aE (aQ (bt (ac bn (ac (ak (pvN 6 aj)) (ac (DO.toL (av q (ae (pvN 2 aj)) (DO.toB (ao be bK (DO.toB (ao aU bH (ae (pvN 5 aj)) (DL.toB ag))) (DO.toB (aT y28 bp cV T.n_len b8 (ay (ae (pvN 2 aj)) aG))))))) am)))))) bC)
     (au (ci (bf jV ii (ae (pvN 9 aj)) (DL.toB ag) (aN _)) (aE (aQ (bt (ac bn (ac (DO.toL (av q (ae (pvN 2 aj)) (DO.toB (ao be bK (DO.toB (ao aU bH (ae (pvN 5 aj)) (DL.toB ag))) (DO.toB (aT y28 bp cV T.n_len b8 (ay (ae (pvN 2 aj)) aG))))))) (ac (ak (pvN 7 aj)) am)))))) bC)
     (au (ci (bf (bG q) dG (ae (pvN 9 aj)) (DL.toB ag) (aN _)) (aE (aQ (bt (ac bn (ac (ak (pvN 6 aj)) (ac (DO.toL (av q (ae (pvN 3 aj)) (DO.toB (ao be bK (DO.toB (ao aU bH (ae (pvN 5 aj)) (DL.toB ag))) (DO.toB (aT y28 bp cV T.n_len b8 (ay (ae (pvN 3 aj)) aG))))))) (ac (ak (pvN 7 aj)) am))))))) bC)
     (au (ci (bf (bG q) dG (ae (pvN 9 aj)) (DL.toB ag) (aN _)) (aE (aQ (bt (ac bn (ac (DO.toL (av q (ae (pvN 3 aj)) (DO.toB (ao be bK (DO.toB (ao aU bH (ae (pvN 5 aj)) (DL.toB ag))) (DO.toB (aT y28 bp cV T.n_len b8 (ay (ae (pvN 3 aj)) aG))))))) (ac (ak (pvN 7 aj)) (ac (ak (pvN 8 aj)) am))))))) bC)
     (au (ci (bf (bG q) dG (ae (pvN 9 aj)) (DL.toB ag) (aN _)) (aE (aQ (bt (ac bn (ac (ak (pvN 6 aj)) am))))) bC)
     (au (ci (bf (bG q) dG (ae (pvN 9 aj)) (DL.toB ag) (aN _)) (aE (aQ (bt (ac bn (ac (ak (pvN 7 aj)) am))))) bC)
     (au (ci (bf jV ii (ae (pvN 9 aj)) (DL.toB ag) (aN _)) (aE (aQ (bt (ac bn (ac (ak (pvN 7 aj)) (ac (DO.toL (ao be bK (DO.toB (ao aU bH (ae (pvN 5 aj)) (DL.toB ag))) (ae (pvN 4 aj)))) am)))))) bC)
     (aE (aQ (bt (ac bn (ac (DO.toL (ao be bK (DO.toB (ao aU bH (ae (pvN 5 aj)) (DL.toB ag))) (ae (pvN 4 aj)))) am))))))))))))))))))))
abbrev y9:Stmt:=top 37
theorem y10:FnScope ["_law_script","_law_most","_law_things","_law_wide","_law_many","_law_bits","_law_cells","_law_shelves","_law_k","_law_boxes","_law_told","_law_rows","_law_cell","_law_names_here"] ["_law_script","_law_most"] (ab y9):=⟨rfl,rfl,rfl,by decide +kernel,rfl,by decide +kernel,by decide +kernel⟩
theorem af:di (ab y9) ["_law_script","_law_most","_law_things","_law_wide","_law_many","_law_bits","_law_cells","_law_shelves","_law_k","_law_boxes","_law_told","_law_rows","_law_cell","_law_names_here"]=true:=by decide +kernel
theorem z8:aH (ab y9) "_law_cell_at"=true:=by decide +kernel
theorem y46:aH (ab y9) "int"=true:=by decide +kernel
theorem y34:aH (ab y9) "_law_names"=true:=by decide +kernel
theorem q44:aH (ab y9) "range"=true:=by decide +kernel
theorem y30:aH (ab y9) "tuple"=true:=by decide +kernel
theorem z69:aH (ab y9) "len"=true:=by decide +kernel
theorem z58:aH (ab y9) "_law_row"=true:=by decide +kernel
theorem q55:aH (ab y9) "_law_atom"=true:=by decide +kernel
theorem q83 (T:Txt P w K mg) (D:DefF K mg "_law_program" y9 ["_law_script","_law_most"]) (Y:OkF P w K mg base "_law_atom" 1 ["_law_cell","_law_boxes"] (spD K 2 (y18))) (L:OkF P w K mg base "_law_cell_at" 1 ["_law_script","_law_k"] (spD K 2 (y1))) (O:OkF P w K mg base "_law_names" 1 ["_law_cell","_law_many"] (spD K 2 (y14))) (W:OkF P w K mg base "_law_row" 2 ["_law_cell","_law_boxes","_law_cells","_law_shelves","_law_many"] (spD K 5 (q45))):OkF P w K mg base "_law_program" 3 ["_law_script","_law_most"] (spD K 2 q18):=
 c8 D y10 rfl fun f cdv A outer s H E q=>(au (br (nsN af 2) (nsL af 2) y10.nd (DL.toO (DO.toL (aD y34 O (q.mono (by decide)) (ac (DO.toL (aD z8 L (q.mono (by decide)) (ac (ak (pvN 0 af)) (ac (DO.toL (cQ y46 lW zw T.n_int p9 (ay (DO.toB (f6 zh ii (DO.toB (ao be bK (DO.toB (aD z8 L (q.mono (by decide)) (ac (ak (pvN 0 af)) (ac ag am)))) (DL.toB ag))) (DL.toB ag) (aN _))) aG))) am)))) (ac ag am))))))
     (au (br (nsN af 3) (nsL af 3) y10.nd (DL.toO (DO.toL (ao bw cJ (DL.toB ag) (DO.toB (cQ y46 lW zw T.n_int p9 (ay (DO.toB (f6 (bG q) dG (DO.toB (ao be bK (DO.toB (ao aU bH (DO.toB (aD z8 L (q.mono (by decide)) (ac (ak (pvN 0 af)) (ac ag am)))) (DL.toB ag))) (DL.toB ag))) (DL.toB ag) (aN _))) aG)))))))
     (au (br (nsN af 4) (nsL af 4) y10.nd (DL.toO (DO.toL (ao bw cJ (DL.toB ag) (DO.toB (ao be bK (DO.toB (aD z8 L (q.mono (by decide)) (ac (ak (pvN 0 af)) (ac ag am)))) (DO.toB (ao iu kh (DL.toB ag) (ae (pvN 3 af))))))))))
     (au (br (nsN af 5) (nsL af 5) y10.nd (DL.toO (DO.toL (aD z8 L (q.mono (by decide)) (ac (ak (pvN 0 af)) (ac ag am))))))
     (au (br (nsN af 6) (nsL af 6) y10.nd (DL.toO (DO.toL (cQ y30 bI d8 T.n_tuple cW (ay (DO.toB (bN (M:=["_law_k","_law_things","_law_bits"]) (src:=[none,some 2,some 5]) (ts:=[0]) (CmpScope.of (by kernel_rfl)) rfl (DIF.toB (cT q44 T.n_range (ac (ak (pvN 4 af)) am))) (fun U _ _ _ _=>(aJ (aX (N:=["_law_k","_law_things","_law_bits"]) (i:=0) (by decide +kernel) (by decide +kernel) U (scC (outer:=ab y9) (by exact rfl))))) (fun _ _ _ _=>cr) (fun _ _ _ _=>(DO.toL (bt (ac (DO.toL (av q (ae (pvX (by kernel_rfl))) (ae (pvX (by kernel_rfl))))) (ac (DO.toL (ao bw cJ (DO.toB (ao be bK (DO.toB (ao aU bH (ae (pvX (by kernel_rfl))) (DL.toB ag))) (DL.toB ag))) (ae (pvX (by kernel_rfl))))) (ac (DO.toL (f6 (bG q) dG (DO.toB (ao be bK (DO.toB (ao aU bH (ae (pvX (by kernel_rfl))) (DO.toB (av q (DO.toB (cG (ac ag (ac ag (ac ag (ac ag am)))))) (DO.toB (ao be bK (ae (pvX (by kernel_rfl))) (DL.toB ag))))))) (DL.toB ag))) (DL.toB ag) (aN _))) am)))))) (by decide +kernel))) aG)))))
     (au (br (nsN af 7) (nsL af 7) y10.nd (cG am))
     (au (f7 qe2 rfl (cT q44 T.n_range (ac (DO.toL (ao bw cJ (DL.toB ag) (DO.toB (ao be bK (ae (pvN 5 af)) (DO.toB (ao iu kh (DL.toB ag) (ae (pvN 3 af)))))))) am)) (aJ (bJ (nsN af 8) (nsL af 8) y10.nd)) (aE (fR (pvN 7 af) (DO.toL (bt (ac (DO.toL (av q (ae (pvN 2 af)) (DO.toB (ao bw cJ (DL.toB ag) (ae (pvN 8 af)))))) (ac (DO.toL (ao bw cJ (DL.toB ag) (DO.toB (ao be bK (DO.toB (ao aU bH (ae (pvN 5 af)) (DL.toB ag))) (DL.toB ag))))) (ac (DO.toL (f6 (bG q) dG (DO.toB (ao be bK (DO.toB (ao aU bH (ae (pvN 5 af)) (DO.toB (av q (DO.toB (cG (ac ag (ac ag am)))) (DO.toB (ao be bK (ae (pvN 8 af)) (DL.toB ag))))))) (DL.toB ag))) (DL.toB ag) (aN _))) am))))))))
     (au (br (nsN af 7) (nsL af 7) y10.nd (cQ y30 bI d8 T.n_tuple cW (ay (ae (pvN 7 af)) aG)))
     (au (br (nsN af 9) (nsL af 9) y10.nd (DL.toO (DO.toL (aD y34 O (q.mono (by decide)) (ac (DO.toL (aD z8 L (q.mono (by decide)) (ac (ak (pvN 0 af)) (ac ag am)))) (ac (DO.toL (ao bw cJ (DL.toB ag) (DO.toB (ao be bK (DO.toB (ao aU bH (DO.toB (aD z8 L (q.mono (by decide)) (ac (ak (pvN 0 af)) (ac ag am)))) (DL.toB ag))) (DL.toB ag))))) am))))))
     (au (br (nsN af 10) (nsL af 10) y10.nd (DL.toO (DO.toL (eZ (ae (pvN 0 af)) (eO (DL.toB ag)) (eO (DO.toB (ao bw cJ (DL.toB ag) (ae (pvN 1 af)))))))))
     (au (br (nsN af 11) (nsL af 11) y10.nd (cG am))
     (au (f7 qe2 rfl (gz (ak (pvN 10 af))) (aJ (bJ (nsN af 12) (nsL af 12) y10.nd)) (au (br (nsN af 13) (nsL af 13) y10.nd (DL.toO (DO.toL (bt (ac (DO.toL (bN (M:=["_law_one"]) (src:=[none]) (ts:=[0]) (CmpScope.of (by kernel_rfl)) rfl (cv (ae (pvN 6 af))) (fun U _ _ _ _=>(aJ (aX (N:=["_law_one"]) (i:=0) (by decide +kernel) (by decide +kernel) U (scC (outer:=ab y9) (by exact rfl))))) (fun _ _ _ _=>cr) (fun _ _ _ _=>(DO.toL (av q (ae (pvX (by kernel_rfl))) (DL.toB ag)))) (by decide +kernel))) (ac (DO.toL (bN (M:=["_law_one"]) (src:=[none]) (ts:=[0]) (CmpScope.of (by kernel_rfl)) rfl (cv (ae (pvN 7 af))) (fun U _ _ _ _=>(aJ (aX (N:=["_law_one"]) (i:=0) (by decide +kernel) (by decide +kernel) U (scC (outer:=ab y9) (by exact rfl))))) (fun _ _ _ _=>cr) (fun _ _ _ _=>(DO.toL (av q (ae (pvX (by kernel_rfl))) (DL.toB ag)))) (by decide +kernel))) am))))))
     (aE (fR (pvN 11 af) (DO.toL (aD z58 W (q.mono (by decide)) (ac (ak (pvN 12 af)) (ac (ak (pvN 9 af)) (ac (DO.toL (av q (ae (pvN 13 af)) (DL.toB ag))) (ac (DO.toL (av q (ae (pvN 13 af)) (DL.toB ag))) (ac (DO.toL (ao bw cJ (DO.toB (aT z69 bp cV T.n_len b8 (ay (ae (pvN 10 af)) aG))) (DL.toB ag))) am)))))))))))
     (au (fR (pvN 11 af) (DO.toL (bt (ac bn (ac (DO.toL (aD q55 Y (q.mono (by decide)) (ac (DO.toL (aD z8 L (q.mono (by decide)) (ac (ak (pvN 0 af)) (ac ag am)))) (ac (ak (pvN 9 af)) am)))) am)))))
     (aE (xP (i:=7) (aQ (bt (ac (ak (pvN 6 af)) (ac (ak (pvN 7 af)) (ac (DO.toL (cQ y30 bI d8 T.n_tuple cW (ay (ae (pvN 11 af)) aG))) am))))))))))))))))))))
abbrev q38:Stmt:=top 38
theorem z87:FnScope ["_law_rows","_law_at"] ["_law_rows","_law_at"] (ab q38):=⟨rfl,rfl,rfl,by decide +kernel,rfl,by decide +kernel,by decide +kernel⟩
theorem bu:di (ab q38) ["_law_rows","_law_at"]=true:=by decide +kernel
theorem q88 (T:Txt P w K mg) (D:DefF K mg "_law_exits" q38 ["_law_rows","_law_at"]):OkF P w K mg base "_law_exits" 1 ["_law_rows","_law_at"] (spD K 2 y16):=
 c8 D z87 rfl fun f cdv A outer s H E q=>(au (ci (bf (bG q) dG (DO.toB (av q (DO.toB (av q (ae (pvN 0 bu)) (ae (pvN 1 bu)))) (DL.toB ag))) (DL.toB bn) (aN _)) (aE (aQ (cG am))) bC)
     (au (ci (bf (bG q) dG (DO.toB (av q (DO.toB (av q (ae (pvN 0 bu)) (ae (pvN 1 bu)))) (DL.toB ag))) (DL.toB bn) (aN _)) (aE (aQ (cG (ac (DO.toL (av q (DO.toB (av q (ae (pvN 0 bu)) (ae (pvN 1 bu)))) (DL.toB ag))) am)))) bC)
     (au (ci (bf (bG q) dG (DO.toB (av q (DO.toB (av q (ae (pvN 0 bu)) (ae (pvN 1 bu)))) (DL.toB ag))) (DL.toB bn) (aN _)) (aE (aQ (cG (ac (DO.toL (av q (DO.toB (av q (ae (pvN 0 bu)) (ae (pvN 1 bu)))) (DL.toB ag))) (ac (DO.toL (ao bw cJ (ae (pvN 1 bu)) (DL.toB ag))) am))))) bC)
     (aE (aQ (cG (ac (DO.toL (ao bw cJ (ae (pvN 1 bu)) (DL.toB ag))) am)))))))
abbrev z15:Stmt:=top 41
theorem z22:FnScope ["_law_rows","_law_keeps","_law_start","_law_seen","_law_left","_law_to"] ["_law_rows","_law_keeps"] (ab z15):=⟨rfl,rfl,rfl,by decide +kernel,rfl,by decide +kernel,by decide +kernel⟩
theorem aq:di (ab z15) ["_law_rows","_law_keeps","_law_start","_law_seen","_law_left","_law_to"]=true:=by decide +kernel
theorem z40:aH (ab z15) "len"=true:=by decide +kernel
theorem q60:aH (ab z15) "range"=true:=by decide +kernel
theorem q46:aH (ab z15) "_law_exits"=true:=by decide +kernel
theorem z74 (T:Txt P w K mg) (D:DefF K mg "_law_goes_round" z15 ["_law_rows","_law_keeps"]) (L:OkF P w K mg base "_law_exits" 1 ["_law_rows","_law_at"] (spD K 2 (y16))):OkF P w K mg base "_law_goes_round" 2 ["_law_rows","_law_keeps"] (spG K 2 (z12)):=
 iV D z22 rfl fun f cdv A outer s H E q=>(aO (qo qe2 rfl (cT q60 T.n_range (ac (DO.toL (aT z40 bp cV T.n_len b8 (ay (ae (pvN 0 aq)) aG))) am)) (aJ (bJ (nsN aq 2) (nsL aq 2) z22.nd)) (aO (bM (nsN aq 3) (nsL aq 3) z22.nd (f9 rM))
     (aO (bM (nsN aq 4) (nsL aq 4) z22.nd (f9 (cG (ac (ak (pvN 2 aq)) am))))
     (b9 (kr 100000 qe2 (fH (DW.t (kf (bf zh ii (DO.toB (aT z40 bp cV T.n_len b8 (ay (ae (pvN 4 aq)) aG))) (DL.toB ag) (aN _)) (iI (dN q (ae (pvN 2 aq)) (ae (pvN 1 aq))))))) (b9 (yl 100000 qe2 rfl (oP q46 L (q.mono (by decide)) (bF (aP (ak (pvN 0 aq))) (bF (yq (c9 (pvN 4 aq))) fI)) (q14 (q14 ga))) (yk (bJ (nsN aq 5) (nsL aq 5) z22.nd)) (aO (gE (fH (bf (bG q) dG (ae (pvN 5 aq)) (ae (pvN 2 aq)) (aN _))) (b9 (fJ (aP eG))) e9)
     (b9 (gE (fH (DW.t (kf (dN q (ae (pvN 5 aq)) (ae (pvN 1 aq))) (iI (dN q (ae (pvN 5 aq)) (ae (pvN 3 aq))))))) (aO (qp q (c9 (pvN 3 aq)) (aP (ak (pvN 5 aq))) (aP eG))
     (b9 (jh (c9 (pvN 4 aq)) (aP (ak (pvN 5 aq)))))) e9))))))))))
     (b9 (fJ (aP eG))))
abbrev y23:Stmt:=top 43
theorem q95:FnScope ["_law_rows","_law_keeps"] ["_law_rows","_law_keeps"] (ab y23):=⟨rfl,rfl,rfl,by decide +kernel,rfl,by decide +kernel,by decide +kernel⟩
theorem gM:di (ab y23) ["_law_rows","_law_keeps"]=true:=by decide +kernel
theorem q82:aH (ab y23) "len"=true:=by decide +kernel
theorem y76:aH (ab y23) "range"=true:=by decide +kernel
theorem q51:aH (ab y23) "_law_goes_round"=true:=by decide +kernel
theorem z94 (T:Txt P w K mg) (D:DefF K mg "_law_due" y23 ["_law_rows","_law_keeps"]) (L:OkF P w K mg base "_law_goes_round" 2 ["_law_rows","_law_keeps"] (spG K 2 (z12))):OkF P w K mg base "_law_due" 3 ["_law_rows","_law_keeps"] (spD K 2 y32):=
 c8 D q95 rfl fun f cdv A outer s H E q=>(au (ci (bf (gB q) oz (DO.toB (bN (M:=["_law_at","_law_rows","_law_keeps"]) (src:=[none,some 0,some 1]) (ts:=[0]) (CmpScope.of (by kernel_rfl)) rfl (DIF.toB (cT y76 T.n_range (ac (DO.toL (aT q82 bp cV T.n_len b8 (ay (ae (pvN 0 gM)) aG))) am))) (fun O _ _ _ _=>(aJ (aX (N:=["_law_at","_law_rows","_law_keeps"]) (i:=0) (by decide +kernel) (by decide +kernel) O (scC (outer:=ab y23) (by exact rfl))))) (fun _ _ _ _=>fB (DW.t (kf (bf (bG q) dG (DO.toB (av q (DO.toB (av q (ae (pvX (by kernel_rfl))) (ae (pvX (by kernel_rfl))))) (DL.toB ag))) (DL.toB bn) (aN _)) (iI (dN q (ae (pvX (by kernel_rfl))) (ae (pvX (by kernel_rfl)))))))) (fun _ _ _ _=>(ak (pvX (by kernel_rfl)))) (by decide +kernel))) (DO.toB (cG am)) (aN _)) (aE (aQ (DL.toO bn))) bC)
     (au (ci (dl (DO.toB (aD q51 (okD L) (q.mono (by decide)) (ac (ak (pvN 0 gM)) (ac (ak (pvN 1 gM)) am)))) (fun _=>rfl)) (aE (aQ (DL.toO bn))) bC)
     (aE (aQ (DL.toO bn)))))
abbrev z35:Stmt:=top 19
theorem q93:FnScope ["code"] ["code"] (ab z35):=⟨rfl,rfl,rfl,by decide +kernel,rfl,by decide +kernel,by decide +kernel⟩
theorem nA:di (ab z35) ["code"]=true:=by decide +kernel
theorem y90 (T:Txt P w K mg) (D:DefF K mg "kept_rows" z35 ["code"]):OkF P w K mg base "kept_rows" 1 ["code"] (spD K 1 q16):=c8 D q93 rfl fun f cdv A outer s H E q=>(aE (aQ (bN (M:=["keep"]) (src:=[none]) (ts:=[0]) (CmpScope.of (by kernel_rfl)) rfl (cv (DO.toB (av q (ae (pvN 0 nA)) (DL.toB ag)))) (fun L _ _ _ _=>(aJ (aX (N:=["keep"]) (i:=0) (by decide +kernel) (by decide +kernel) L (scC (outer:=ab z35) (by exact rfl))))) (fun _ _ _ _=>cr) (fun _ _ _ _=>(DO.toL (av q (ae (pvX (by kernel_rfl))) (DL.toB ag)))) (by decide +kernel))))
abbrev q29:Stmt:=top 24
theorem z45:FnScope ["program","code","kept","number","row"] ["program","code"] (ab q29):=⟨rfl,rfl,rfl,by decide +kernel,rfl,by decide +kernel,by decide +kernel⟩
theorem bA:di (ab q29) ["program","code","kept","number","row"]=true:=by decide +kernel
theorem q63:aH (ab q29) "kept_rows"=true:=by decide +kernel
theorem z63:aH (ab q29) "enumerate"=true:=by decide +kernel
theorem q92 (T:Txt P w K mg) (D:DefF K mg "end_fault" q29 ["program","code"]) (L:OkF P w K mg base "kept_rows" 1 ["code"] (spD K 1 (q16))):OkF P w K mg base "end_fault" 2 ["program","code"] (spD K 2 z21):=
 c8 D z45 rfl fun f cdv A outer s H E q=>(au (br (nsN bA 2) (nsL bA 2) z45.nd (DL.toO (DO.toL (aD q63 L (q.mono (by decide)) (ac (ak (pvN 1 bA)) am)))))
     (au (f7 qe2 rfl (iP z63 T.n_enumerate (ac (DO.toL (av q (ae (pvN 0 bA)) (DL.toB ag))) am)) (kg rfl (cR (aJ (bJ (nsN bA 3) (nsL bA 3) z45.nd)) (cR (aJ (bJ (nsN bA 4) (nsL bA 4) z45.nd)) iM))) (aE (ci (DW.t (kf (bf (bG q) dG (DO.toB (av q (ae (pvN 4 bA)) (DL.toB ag))) (DL.toB bn) (aN _)) (iI (dN q (ae (pvN 3 bA)) (ae (pvN 2 bA)))))) (aE (aQ (bt (ac bn (ac (ak (pvN 3 bA)) am))))) bC)))
     (aE (aQ (DL.toO eY)))))
abbrev z51:Stmt:=top 1
theorem y95:FnScope ["number","row"] ["number","row"] (ab z51):=⟨rfl,rfl,rfl,by decide +kernel,rfl,by decide +kernel,by decide +kernel⟩
theorem dz:di (ab z51) ["number","row"]=true:=by decide +kernel
theorem z96 (T:Txt P w K mg) (D:DefF K mg "ways_of" z51 ["number","row"]):OkF P w K mg base "ways_of" 1 ["number","row"] (spD K 2 y61):=
 c8 D y95 rfl fun f cdv A outer s H E q=>(au (ci (bf (bG q) dG (DO.toB (av q (ae (pvN 1 dz)) (DL.toB ag))) (DL.toB bn) (aN _)) (aE (aQ (bt (ac (DO.toL (av q (ae (pvN 1 dz)) (DL.toB ag))) am)))) bC)
     (au (ci (bf (bG q) dG (DO.toB (av q (ae (pvN 1 dz)) (DL.toB ag))) (DL.toB bn) (aN _)) (aE (aQ (bt (ac (DO.toL (av q (ae (pvN 1 dz)) (DL.toB ag))) (ac (DO.toL (ao bw cJ (ae (pvN 0 dz)) (DL.toB ag))) am))))) bC)
     (au (ci (bf (bG q) dG (DO.toB (av q (ae (pvN 1 dz)) (DL.toB ag))) (DL.toB bn) (aN _)) (aE (aQ (bt am))) bC)
     (aE (aQ (bt (ac (DO.toL (ao bw cJ (ae (pvN 0 dz)) (DL.toB ag))) am)))))))
abbrev gf:Stmt:=top 2
theorem z100:FnScope ["program"] ["program"] (ab gf):=⟨rfl,rfl,rfl,by decide +kernel,rfl,by decide +kernel,by decide +kernel⟩
theorem yu:di (ab gf) ["program"]=true:=by decide +kernel
theorem z77:aH (ab gf) "enumerate"=true:=by decide +kernel
theorem y99 (T:Txt P w K mg) (D:DefF K mg "ways" gf ["program"]) (q:OkF P w K mg base "ways_of" 1 ["number","row"] (spD K 2 (y61))):OkF P w K mg base "ways" 2 ["program"] (spD K 1 eF):=c8 D z100 rfl fun f cdv A outer s H E L=>(aE (aQ (bN (M:=["number","row"]) (src:=[none,none]) (ts:=[0,1]) (CmpScope.of (by kernel_rfl)) rfl (DIF.toB (iP z77 T.n_enumerate (ac (DO.toL (av L (ae (pvN 0 yu)) (DL.toB ag))) am))) (fun O _ _ _ _=>(kg rfl (cR (aJ (aX (N:=["number","row"]) (i:=0) (by decide +kernel) (by decide +kernel) O (scC (outer:=ab gf) (by exact rfl)))) (cR (aJ (aX (N:=["number","row"]) (i:=1) (by decide +kernel) (by decide +kernel) O (scC (outer:=ab gf) (by exact rfl)))) iM)))) (fun _ _ _ _=>cr) (fun _ _ _ _=>(DO.toL (aD (by decide +kernel) q (L.mono (by decide)) (ac (ak (pvX (by kernel_rfl))) (ac (ak (pvX (by kernel_rfl))) am)) (e1:=(scC (outer:=ab gf) rfl))))) (by decide +kernel))))
abbrev y15:Stmt:=top 25
theorem y22:FnScope ["onward","rows","left","fewer","staying"] ["onward","rows"] (ab y15):=⟨rfl,rfl,rfl,by decide +kernel,rfl,by decide +kernel,by decide +kernel⟩
theorem aK:di (ab y15) ["onward","rows","left","fewer","staying"]=true:=by decide +kernel
theorem z47:aH (ab y15) "len"=true:=by decide +kernel
theorem z81 (T:Txt P w K mg) (D:DefF K mg "endless_rows" y15 ["onward","rows"]):OkF P w K mg base "endless_rows" 1 ["onward","rows"] (spD K 2 q21):=
 c8 D y22 rfl fun f cdv A outer s H E L=>(au (br (nsN aK 2) (nsL aK 2) y22.nd (DL.toO (ak (pvN 1 aK))))
     (au (br (nsN aK 3) (nsL aK 3) y22.nd (DL.toO eG))
     (au (vg 100000 qe2 (dl (ae (pvN 3 aK)) (fun _=>rfl)) (au (vI (nsN aK 4) (nsL aK 4) y22.nd (M:=["row","onward","left"]) (src:=[none,some 0,some 2]) (ts:=[0]) (CmpScope.of (by kernel_rfl)) rfl (cv (ae (pvN 2 aK))) (fun q _ _ _ _=>(aJ (aX (N:=["row","onward","left"]) (i:=0) (by decide +kernel) (by decide +kernel) q (scC (outer:=ab y15) (by exact rfl))))) (fun _ _ _ _=>fB (dl (DO.toB (aT (by decide +kernel) (u1 rfl) (vt (f:=fun bs=>bs.any id)) T.n_any AL (ay (DO.toB (bN (M:=["way","left"]) (src:=[none,some 2]) (ts:=[0]) (CmpScope.of (by kernel_rfl)) rfl (cv (DO.toB (av L (ae (pvX (by kernel_rfl))) (ae (pvX (by kernel_rfl)))))) (fun q _ _ _ _=>(aJ (aX (N:=["way","left"]) (i:=0) (by decide +kernel) (by decide +kernel) q (scC (scC (outer:=ab y15) (by exact rfl)))))) (fun _ _ _ _=>cr) (fun _ _ _ _=>(DO.toL (zB L (ae (pvX (by kernel_rfl))) (ae (pvX (by kernel_rfl)))))) (by decide +kernel))) aG) (e1:=(scC (outer:=ab y15) rfl)))) (fun _=>rfl))) (fun _ _ _ _=>(ak (pvX (by kernel_rfl)))) (by decide +kernel))
     (au (br (nsN aK 3) (nsL aK 3) y22.nd (DL.toO (DO.toL (f6 jV ii (DO.toB (aT z47 bp cV T.n_len b8 (ay (ae (pvN 4 aK)) aG))) (DO.toB (aT z47 bp cV T.n_len b8 (ay (ae (pvN 2 aK)) aG))) (aN _)))))
     (aE (br (nsN aK 2) (nsL aK 2) y22.nd (DL.toO (ak (pvN 4 aK))))))))
     (aE (rJ (pvN 2 aK))))))
abbrev z14:Stmt:=top 26
theorem q23:FnScope ["program","code","kept","onward","endless","walked","here"] ["program","code"] (ab z14):=⟨rfl,rfl,rfl,by decide +kernel,rfl,by decide +kernel,by decide +kernel⟩
theorem ax:di (ab z14) ["program","code","kept","onward","endless","walked","here"]=true:=by decide +kernel
theorem z61:aH (ab z14) "kept_rows"=true:=by decide +kernel
theorem q74:aH (ab z14) "ways"=true:=by decide +kernel
theorem y54:aH (ab z14) "len"=true:=by decide +kernel
theorem z71:aH (ab z14) "range"=true:=by decide +kernel
theorem q53:aH (ab z14) "endless_rows"=true:=by decide +kernel
theorem y88 (T:Txt P w K mg) (D:DefF K mg "ring_fault" z14 ["program","code"]) (O:OkF P w K mg base "kept_rows" 1 ["code"] (spD K 1 (q16))) (L:OkF P w K mg base "ways" 2 ["program"] (spD K 1 (eF))) (W:OkF P w K mg base "endless_rows" 1 ["onward","rows"] (spD K 2 (q21))):OkF P w K mg base "ring_fault" 3 ["program","code"] (spG K 2 (z16)):=
 iV D q23 rfl fun f cdv A outer s H E q=>(aO (bM (nsN ax 2) (nsL ax 2) q23.nd (aP (DO.toL (aD z61 O (q.mono (by decide)) (ac (ak (pvN 1 ax)) am)))))
     (aO (bM (nsN ax 3) (nsL ax 3) q23.nd (aP (DO.toL (aD q74 L (q.mono (by decide)) (ac (ak (pvN 0 ax)) am)))))
     (aO (bM (nsN ax 4) (nsL ax 4) q23.nd (aP (DO.toL (aD q53 W (q.mono (by decide)) (ac (ak (pvN 3 ax)) (ac (DO.toL (bN (M:=["row","kept"]) (src:=[none,some 2]) (ts:=[0]) (CmpScope.of (by kernel_rfl)) rfl (DIF.toB (cT z71 T.n_range (ac (DO.toL (aT y54 bp cV T.n_len b8 (ay (ae (pvN 3 ax)) aG))) am))) (fun U _ _ _ _=>(aJ (aX (N:=["row","kept"]) (i:=0) (by decide +kernel) (by decide +kernel) U (scC (outer:=ab z14) (by exact rfl))))) (fun _ _ _ _=>fB (dN q (ae (pvX (by kernel_rfl))) (ae (pvX (by kernel_rfl))))) (fun _ _ _ _=>(ak (pvX (by kernel_rfl)))) (by decide +kernel))) am))))))
     (aO (gE (fH (bf (bG q) dG (DO.toB (aT y54 bp cV T.n_len b8 (ay (ae (pvN 4 ax)) aG))) (DL.toB ag) (aN _))) (b9 (fJ (aP eY))) e9)
     (aO (bM (nsN ax 5) (nsL ax 5) q23.nd (f9 (cG am)))
     (aO (bM (nsN ax 6) (nsL ax 6) q23.nd (aP (DO.toL (av q (ae (pvN 4 ax)) (DL.toB ag)))))
     (aO (kr 100000 qe2 (fH (dN q (ae (pvN 6 ax)) (ae (pvN 5 ax)))) (aO (jh (c9 (pvN 5 ax)) (aP (ak (pvN 6 ax))))
     (b9 (bM (nsN ax 6) (nsL ax 6) q23.nd (aP (DO.toL (av q (DO.toB (bN (M:=["way","endless"]) (src:=[none,some 4]) (ts:=[0]) (CmpScope.of (by kernel_rfl)) rfl (cv (DO.toB (av q (ae (pvN 3 ax)) (ae (pvN 6 ax))))) (fun U _ _ _ _=>(aJ (aX (N:=["way","endless"]) (i:=0) (by decide +kernel) (by decide +kernel) U (scC (outer:=ab z14) (by exact rfl))))) (fun _ _ _ _=>fB (vC q (ae (pvX (by kernel_rfl))) (ae (pvX (by kernel_rfl))))) (fun _ _ _ _=>(ak (pvX (by kernel_rfl)))) (by decide +kernel))) (DL.toB ag))))))))
     (b9 (fJ (A2 (bF (aP bn) (bF (f9 (eZ (ae (pvN 5 ax)) (eO (DO.toB (ua (ae (pvN 5 ax)) (ay (ae (pvN 6 ax)) aG)))) iN)) fI))))))))))))
abbrev z27:Stmt:=top 18
theorem q84:FnScope ["program"] ["program"] (ab z27):=⟨rfl,rfl,rfl,by decide +kernel,rfl,by decide +kernel,by decide +kernel⟩
theorem gO:di (ab z27) ["program"]=true:=by decide +kernel
theorem y86 (T:Txt P w K mg) (D:DefF K mg "plain_names" z27 ["program"]):OkF P w K mg base "plain_names" 1 ["program"] (spD K 1 z34):=c8 D q84 rfl fun f cdv A outer s H E q=>(aE (aQ (bN (M:=["head"]) (src:=[none]) (ts:=[0]) (CmpScope.of (by kernel_rfl)) rfl (cv (DO.toB (ao yt A7 (DO.toB (av q (ae (pvN 0 gO)) (DL.toB ag))) (DO.toB (av q (ae (pvN 0 gO)) (DL.toB ag)))))) (fun L _ _ _ _=>(aJ (aX (N:=["head"]) (i:=0) (by decide +kernel) (by decide +kernel) L (scC (outer:=ab z27) (by exact rfl))))) (fun _ _ _ _=>fB (ke (dl (DO.toB (av q (ae (pvX (by kernel_rfl))) (DL.toB ag))) (fun _=>rfl)))) (fun _ _ _ _=>(DO.toL (av q (ae (pvX (by kernel_rfl))) (DL.toB ag)))) (by decide +kernel))))
abbrev q27:Stmt:=top 27
theorem q49:FnScope ["program","code","name","rows"] ["program","code"] (ab q27):=⟨rfl,rfl,rfl,by decide +kernel,rfl,by decide +kernel,by decide +kernel⟩
theorem bR:di (ab q27) ["program","code","name","rows"]=true:=by decide +kernel
theorem y53:aH (ab q27) "plain_names"=true:=by decide +kernel
theorem z84 (T:Txt P w K mg) (D:DefF K mg "spoil_fault" q27 ["program","code"]) (q:OkF P w K mg base "plain_names" 1 ["program"] (spD K 1 (z34))):OkF P w K mg base "spoil_fault" 2 ["program","code"] (spD K 2 z17):=
 c8 D q49 rfl fun f cdv A outer s H E L=>(au (f7 qe2 rfl (gz (DO.toL (aD y53 q (L.mono (by decide)) (ac (ak (pvN 0 bR)) am)))) (aJ (bJ (nsN bR 2) (nsL bR 2) q49.nd)) (au (br (nsN bR 3) (nsL bR 3) q49.nd (DL.toO (DO.toL rO)))
     (aE (ci (bf xw xW (ae (pvN 3 bR)) (DL.toB eY) (aN _)) (aE (aQ (bt (ac bn (ac (ak (pvN 2 bR)) (ac (ak (pvN 3 bR)) am)))))) bC))))
     (aE (aQ (DL.toO eY))))
abbrev z56:Stmt:=top 10
theorem z97:FnScope ["row"] ["row"] (ab z56):=⟨rfl,rfl,rfl,by decide +kernel,rfl,by decide +kernel,by decide +kernel⟩
theorem pk:di (ab z56) ["row"]=true:=by decide +kernel
theorem y77:aH (ab z56) "SETTING"=true:=by decide +kernel
theorem y97 (T:Txt P w K mg) (D:DefF K mg "gives" z56 ["row"]):OkF P w K mg base "gives" 1 ["row"] (spD K 1 y75):=c8 D z97 rfl fun f cdv A outer s H E q=>(aE (aQ (CC (vC q (DO.toB (av q (ae (pvN 0 pk)) (DL.toB ag))) (DL.toB (xY y77 T.g_SETTING))) (av q (ae (pvN 0 pk)) (DL.toB ag)) (DL.toO eY))))
abbrev z57:Stmt:=top 8
theorem z90:FnScope ["row","bounds"] ["row"] (ab z57):=⟨rfl,rfl,rfl,by decide +kernel,rfl,by decide +kernel,by decide +kernel⟩
theorem fm:di (ab z57) ["row","bounds"]=true:=by decide +kernel
theorem y45:aH (ab z57) "ATOM_PLACES"=true:=by decide +kernel
theorem z99 (T:Txt P w K mg) (D:DefF K mg "atoms" z57 ["row"]):OkF P w K mg base "atoms" 1 ["row"] (spD K 1 z75):=
 c8 D z90 rfl fun f cdv A outer s H E q=>(au (ci (AZ y45 T.g_ATOM_PLACES (DO.toB (av q (ae (pvN 0 fm)) (DL.toB ag)))) (aE (aQ (bt am))) bC)
     (au (br (nsN fm 1) (nsL fm 1) z90.nd (DL.toO (DO.toL (CJ y45 T.g_ATOM_PLACES (DO.toB (av q (ae (pvN 0 fm)) (DL.toB ag)))))))
     (aE (aQ (eZ (ae (pvN 0 fm)) (eO (DO.toB (av q (ae (pvN 1 fm)) (DL.toB ag)))) (eO (DO.toB (av q (ae (pvN 1 fm)) (DL.toB ag)))))))))
abbrev z43:Stmt:=top 9
theorem z78:FnScope ["row","boxes","atom"] ["row"] (ab z43):=⟨rfl,rfl,rfl,by decide +kernel,rfl,by decide +kernel,by decide +kernel⟩
theorem db:di (ab z43) ["row","boxes","atom"]=true:=by decide +kernel
theorem z83:aH (ab z43) "atoms"=true:=by decide +kernel
theorem y70:aH (ab z43) "isinstance"=true:=by decide +kernel
theorem y92:aH (ab z43) "str"=true:=by decide +kernel
theorem q98 (T:Txt P w K mg) (D:DefF K mg "reads" z43 ["row"]) (q:OkF P w K mg base "atoms" 1 ["row"] (spD K 1 (z75))):OkF P w K mg base "reads" 2 ["row"] (spD K 1 q66):=
 c8 D z78 rfl fun f cdv A outer s H E L=>(au (br (nsN db 1) (nsL db 1) z78.nd (cG am))
     (au (f7 qe2 rfl (gz (DO.toL (aD z83 q (L.mono (by decide)) (ac (ak (pvN 0 db)) am)))) (aJ (bJ (nsN db 2) (nsL db 2) z78.nd)) (aE (ci (DW.t (kf (dl (DO.toB (eR y70 y92 T.n_isinstance T.n_str AM T.k_str (ae (pvN 2 db)))) (fun _=>rfl)) (iI (dN L (ae (pvN 2 db)) (ae (pvN 1 db)))))) (aE (fR (pvN 1 db) (ak (pvN 2 db)))) bC)))
     (aE (rJ (pvN 1 db)))))
abbrev q15:Stmt:=top 11
theorem z44:FnScope ["row","behind","boxes","later"] ["row","behind"] (ab q15):=⟨rfl,rfl,rfl,by decide +kernel,rfl,by decide +kernel,by decide +kernel⟩
theorem bB:di (ab q15) ["row","behind","boxes","later"]=true:=by decide +kernel
theorem q67:aH (ab q15) "reads"=true:=by decide +kernel
theorem y63:aH (ab q15) "sorted"=true:=by decide +kernel
theorem q72:aH (ab q15) "set"=true:=by decide +kernel
theorem y82 (T:Txt P w K mg) (D:DefF K mg "needed_ahead" q15 ["row","behind"]) (O:OkF P w K mg base "gives" 1 ["row"] (spD K 1 (y75))) (q:OkF P w K mg base "reads" 2 ["row"] (spD K 1 (q66))):OkF P w K mg base "needed_ahead" 3 ["row","behind"] (spD K 2 y20):=
 c8 D z44 rfl fun f cdv A outer s H E L=>(au (br (nsN bB 2) (nsL bB 2) z44.nd (aD q67 q (L.mono (by decide)) (ac (ak (pvN 0 bB)) am)))
     (au (f7 qe2 rfl (gz (ak (pvN 1 bB))) (aJ (bJ (nsN bB 3) (nsL bB 3) z44.nd)) (aE (tW (pvN 2 bB) (bN (M:=["box","row"]) (src:=[none,some 0]) (ts:=[0]) (CmpScope.of (by kernel_rfl)) rfl (cv (ae (pvN 3 bB))) (fun U _ _ _ _=>(aJ (aX (N:=["box","row"]) (i:=0) (by decide +kernel) (by decide +kernel) U (scC (outer:=ab q15) (by exact rfl))))) (fun _ _ _ _=>fB (bf (gB L) oz (ae (pvX (by kernel_rfl))) (DO.toB (aD (by decide +kernel) O (L.mono (by decide)) (ac (ak (pvX (by kernel_rfl))) am) (e1:=(scC (outer:=ab q15) rfl)))) (aN _))) (fun _ _ _ _=>(ak (pvX (by kernel_rfl)))) (by decide +kernel)))))
     (aE (aQ (kJ y63 q72 rfl T.n_sorted T.n_set (ay (ae (pvN 2 bB)) aG))))))
abbrev z25:Stmt:=top 12
theorem z28:FnScope ["program","rows","onward","found","changed","number","boxes"] ["program"] (ab z25):=⟨rfl,rfl,rfl,by decide +kernel,rfl,by decide +kernel,by decide +kernel⟩
theorem aM:di (ab z25) ["program","rows","onward","found","changed","number","boxes"]=true:=by decide +kernel
theorem z85:aH (ab z25) "ways"=true:=by decide +kernel
theorem q89:aH (ab z25) "len"=true:=by decide +kernel
theorem y81:aH (ab z25) "range"=true:=by decide +kernel
theorem q64:aH (ab z25) "needed_ahead"=true:=by decide +kernel
theorem q97 (T:Txt P w K mg) (D:DefF K mg "needed" z25 ["program"]) (q:OkF P w K mg base "ways" 2 ["program"] (spD K 1 (eF))) (O:OkF P w K mg base "needed_ahead" 3 ["row","behind"] (spD K 2 (y20))):OkF P w K mg base "needed" 4 ["program"] (spG K 1 (y40)):=
 iV D z28 rfl fun f cdv A outer s H E L=>(aO (bM (nsN aM 1) (nsL aM 1) z28.nd (aP (DO.toL (av L (ae (pvN 0 aM)) (DL.toB ag)))))
     (aO (bM (nsN aM 2) (nsL aM 2) z28.nd (aP (DO.toL (aD z85 q (L.mono (by decide)) (ac (ak (pvN 0 aM)) am)))))
     (aO (bM (nsN aM 3) (nsL aM 3) z28.nd (yj (M:=["row"]) (src:=[none]) (ts:=[0]) (CmpScope.of (by kernel_rfl)) rfl (gz (ak (pvN 1 aM))) (fun U _ _ _ _=>(aJ (aX (N:=["row"]) (i:=0) (by decide +kernel) (by decide +kernel) U (scC (outer:=ab z25) (by exact rfl))))) (fun _ _ _ _=>cr) (fun _ _ _ _=>(f9 (cG am))) (by decide +kernel)))
     (aO (bM (nsN aM 4) (nsL aM 4) z28.nd (aP eG))
     (aO (kr 100000 qe2 (fH (dl (ae (pvN 4 aM)) (fun _=>rfl))) (aO (bM (nsN aM 4) (nsL aM 4) z28.nd (aP eG))
     (b9 (qo qe2 rfl (tP y81 T.n_range (ac (DO.toL (ao uJ zu (DO.toB (aT q89 bp cV T.n_len b8 (ay (ae (pvN 1 aM)) aG))) (DL.toB ag))) (ac (DO.toL (vq (DL.toB ag))) (ac (DO.toL (vq (DL.toB ag))) am)))) (aJ (bJ (nsN aM 5) (nsL aM 5) z28.nd)) (aO (bM (nsN aM 6) (nsL aM 6) z28.nd (CP 2 (aD q64 O (L.mono (by decide)) (ac (DO.toL (av L (ae (pvN 1 aM)) (ae (pvN 5 aM)))) (ac (DO.toL (bN (M:=["way","found"]) (src:=[none,some 3]) (ts:=[0]) (CmpScope.of (by kernel_rfl)) rfl (cv (DO.toB (av L (ae (pvN 2 aM)) (ae (pvN 5 aM))))) (fun U _ _ _ _=>(aJ (aX (N:=["way","found"]) (i:=0) (by decide +kernel) (by decide +kernel) U (scC (outer:=ab z25) (by exact rfl))))) (fun _ _ _ _=>cr) (fun _ _ _ _=>(DO.toL (av L (ae (pvX (by kernel_rfl))) (ae (pvX (by kernel_rfl)))))) (by decide +kernel))) am)))))
     (b9 (gE (CQ 2 (bf (gB L) oz (ae (pvN 6 aM)) (DO.toB (av L (ae (pvN 3 aM)) (ae (pvN 5 aM)))) (aN _))) (aO (qp L (c9 (pvN 3 aM)) (aP (ak (pvN 5 aM))) (c9 (pvN 6 aM)))
     (b9 (bM (nsN aM 4) (nsL aM 4) z28.nd (aP eG)))) e9)))))))
     (b9 (fJ (c9 (pvN 3 aM)))))))))
abbrev y25:Stmt:=top 29
theorem z23:FnScope ["program","code","wanted","places","start","boxes","begin","box"] ["program","code"] (ab y25):=⟨rfl,rfl,rfl,by decide +kernel,rfl,by decide +kernel,by decide +kernel⟩
theorem aF:di (ab y25) ["program","code","wanted","places","start","boxes","begin","box"]=true:=by decide +kernel
theorem y68:aH (ab y25) "needed"=true:=by decide +kernel
theorem q87 (T:Txt P w K mg) (D:DefF K mg "lost_fault" y25 ["program","code"]) (L:OkF P w K mg base "needed" 4 ["program"] (spG K 1 (y40))):OkF P w K mg base "lost_fault" 5 ["program","code"] (spD K 2 q19):=
 c8 D z23 rfl fun f cdv A outer s H E q=>(au (br (nsN aF 2) (nsL aF 2) z23.nd (DL.toO (DO.toL (aD y68 (okD L) (q.mono (by decide)) (ac (ak (pvN 0 aF)) am)))))
     (au (br (nsN aF 3) (nsL aF 3) z23.nd (DL.toO (DO.toL (ao bw cJ (DO.toB (cG (ac (DO.toL (bt (ac ag (ac (DO.toL (av q (ae (pvN 1 aF)) (DL.toB ag))) (ac eG am))))) am))) (DO.toB (bN (M:=["keep"]) (src:=[none]) (ts:=[0]) (CmpScope.of (by kernel_rfl)) rfl (cv (DO.toB (av q (ae (pvN 1 aF)) (DL.toB ag)))) (fun O _ _ _ _=>(aJ (aX (N:=["keep"]) (i:=0) (by decide +kernel) (by decide +kernel) O (scC (outer:=ab y25) (by exact rfl))))) (fun _ _ _ _=>cr) (fun _ _ _ _=>(DO.toL (bt (ac (DO.toL (av q (ae (pvX (by kernel_rfl))) (DL.toB ag))) (ac (DO.toL (av q (ae (pvX (by kernel_rfl))) (DL.toB ag))) (ac eG am)))))) (by decide +kernel)))))))
     (au (f7 qe2 rfl (gz (ak (pvN 3 aF))) (kg rfl (cR (aJ (bJ (nsN aF 4) (nsL aF 4) z23.nd)) (cR (aJ (bJ (nsN aF 5) (nsL aF 5) z23.nd)) (cR (aJ (bJ (nsN aF 6) (nsL aF 6) z23.nd)) iM)))) (aE (f7 qe2 rfl (gz (DO.toL (av q (ae (pvN 2 aF)) (ae (pvN 4 aF))))) (aJ (bJ (nsN aF 7) (nsL aF 7) z23.nd)) (aE (ci (dN q (ae (pvN 7 aF)) (ae (pvN 5 aF))) (aE (aQ (bt (ac bn (ac (ak (pvN 7 aF)) (ac (DO.toL rO) (ac (ak (pvN 6 aF)) am))))))) bC)))))
     (aE (aQ (DL.toO eY))))))
abbrev z39:Stmt:=top 30
theorem q61:FnScope ["program","code","found"] ["program","code"] (ab z39):=⟨rfl,rfl,rfl,by decide +kernel,rfl,by decide +kernel,by decide +kernel⟩
theorem bE:di (ab z39) ["program","code","found"]=true:=by decide +kernel
theorem y74:aH (ab z39) "end_fault"=true:=by decide +kernel
theorem q70:aH (ab z39) "ring_fault"=true:=by decide +kernel
theorem z67:aH (ab z39) "spoil_fault"=true:=by decide +kernel
theorem y71:aH (ab z39) "lost_fault"=true:=by decide +kernel
theorem z98 (T:Txt P w K mg) (D:DefF K mg "fault" z39 ["program","code"]) (U:OkF P w K mg base "end_fault" 2 ["program","code"] (spD K 2 (z21))) (L:OkF P w K mg base "ring_fault" 3 ["program","code"] (spG K 2 (z16))) (W:OkF P w K mg base "spoil_fault" 2 ["program","code"] (spD K 2 (z17))) (O:OkF P w K mg base "lost_fault" 5 ["program","code"] (spD K 2 (q19))):OkF P w K mg base "fault" 6 ["program","code"] (spG K 2 (y19)):=
 iV D q61 rfl fun f cdv A outer s H E q=>(aO (bM (nsN bE 2) (nsL bE 2) q61.nd (f9 (aD y74 U (q.mono (by decide)) (ac (ak (pvN 0 bE)) (ac (ak (pvN 1 bE)) am)))))
     (aO (gE (np 2 jW vk (c9 (pvN 2 bE)) (aP eY) (aN _)) (b9 (bM (nsN bE 2) (nsL bE 2) q61.nd (iS q70 L (q.mono (by decide)) (bF (aP (ak (pvN 0 bE))) (bF (aP (ak (pvN 1 bE))) fI)) (q14 (q14 ga))))) e9)
     (aO (gE (np 2 jW vk (c9 (pvN 2 bE)) (aP eY) (aN _)) (b9 (bM (nsN bE 2) (nsL bE 2) q61.nd (f9 (aD z67 W (q.mono (by decide)) (ac (ak (pvN 0 bE)) (ac (ak (pvN 1 bE)) am)))))) e9)
     (aO (gE (np 2 jW vk (c9 (pvN 2 bE)) (aP eY) (aN _)) (b9 (bM (nsN bE 2) (nsL bE 2) q61.nd (f9 (aD y71 O (q.mono (by decide)) (ac (ak (pvN 0 bE)) (ac (ak (pvN 1 bE)) am)))))) e9)
     (b9 (fJ (c9 (pvN 2 bE))))))))
abbrev y56:Stmt:=top 31
theorem q99:FnScope ["program","code"] ["program","code"] (ab y56):=⟨rfl,rfl,rfl,by decide +kernel,rfl,by decide +kernel,by decide +kernel⟩
theorem ns_holds:di (ab y56) ["program","code"]=true:=by decide +kernel
theorem z86:aH (ab y56) "fault"=true:=by decide +kernel
theorem y98 (T:Txt P w K mg) (D:DefF K mg "holds" y56 ["program","code"]) (q:OkF P w K mg base "fault" 6 ["program","code"] (spG K 2 (y19))):OkF P w K mg base "holds" 7 ["program","code"] (spG K 2 (y48)):=iV D q99 rfl fun f cdv A outer s H E L=>(b9 (fJ (ym 2 jW vk (iS z86 q (L.mono (by decide)) (bF (aP (ak (pvN 0 ns_holds))) (bF (aP (ak (pvN 1 ns_holds))) fI)) (q14 (q14 ga))) (aP eY) (aN _))))
abbrev y21:Stmt:=top 39
theorem z89:FnScope ["_law_found"] ["_law_found"] (ab y21):=⟨rfl,rfl,rfl,by decide +kernel,rfl,by decide +kernel,by decide +kernel⟩
theorem ip:di (ab y21) ["_law_found"]=true:=by decide +kernel
theorem z38:aH (ab y21) "isinstance"=true:=by decide +kernel
theorem z73:aH (ab y21) "bool"=true:=by decide +kernel
theorem q77:aH (ab y21) "int"=true:=by decide +kernel
theorem q90 (T:Txt P w K mg) (D:DefF K mg "_law_whole" y21 ["_law_found"]):OkF P w K mg base "_law_whole" 1 ["_law_found"] (spD K 1 y38):=c8 D z89 rfl fun f cdv A outer s H E q=>(aE (aQ (m9 (DO.toB (eR z38 q77 T.n_isinstance T.n_int p9 T.k_int (ae (pvN 0 ip)))) (ve (AT (DO.toB (eR z38 z73 T.n_isinstance T.n_bool rl T.k_bool (ae (pvN 0 ip)))))))))
abbrev z9:Stmt:=top 42
theorem q79:FnScope ["_law_rows","_law_keeps","_law_way"] ["_law_rows","_law_keeps","_law_way"] (ab z9):=⟨rfl,rfl,rfl,by decide +kernel,rfl,by decide +kernel,by decide +kernel⟩
theorem bW:di (ab z9) ["_law_rows","_law_keeps","_law_way"]=true:=by decide +kernel
theorem q47:aH (ab z9) "all"=true:=by decide +kernel
theorem y51:aH (ab z9) "isinstance"=true:=by decide +kernel
theorem z68:aH (ab z9) "list"=true:=by decide +kernel
theorem y36:aH (ab z9) "len"=true:=by decide +kernel
theorem z72:aH (ab z9) "set"=true:=by decide +kernel
theorem y65:aH (ab z9) "range"=true:=by decide +kernel
theorem q80 (T:Txt P w K mg) (D:DefF K mg "_law_is_ring" z9 ["_law_rows","_law_keeps","_law_way"]) (U:OkF P w K mg base "_law_exits" 1 ["_law_rows","_law_at"] (spD K 2 (y16))) (O:OkF P w K mg base "_law_whole" 1 ["_law_found"] (spD K 1 (y38))):OkF P w K mg base "_law_is_ring" 2 ["_law_rows","_law_keeps","_law_way"] (spD K 3 z30):=
 c8 D q79 rfl fun f cdv A outer s H E q=>(au (ci (DW.t (oo (ke (dl (DO.toB (eR y51 z68 T.n_isinstance T.n_list xM T.k_list (ae (pvN 2 bW)))) (fun _=>rfl))) (oo (bf (bG q) dG (ae (pvN 2 bW)) (DO.toB (cG am)) (aN _)) (qc (ke (dl (DO.toB (aT q47 (oh rfl) (vt (f:=fun bs=>bs.all id)) T.n_all u2 (ay (DO.toB (bN (M:=["_law_at"]) (src:=[none]) (ts:=[0]) (CmpScope.of (by kernel_rfl)) rfl (cv (ae (pvN 2 bW))) (fun L _ _ _ _=>(aJ (aX (N:=["_law_at"]) (i:=0) (by decide +kernel) (by decide +kernel) L (scC (outer:=ab z9) (by exact rfl))))) (fun _ _ _ _=>cr) (fun _ _ _ _=>(DO.toL (aD (by decide +kernel) O (q.mono (by decide)) (ac (ak (pvX (by kernel_rfl))) am) (e1:=(scC (outer:=ab z9) rfl))))) (by decide +kernel))) aG))) (fun _=>rfl))))))) (aE (aQ (DL.toO eG))) bC)
     (au (ci (DW.t (oo (bf (gB q) oz (DO.toB (qB y36 z72 rfl T.n_len T.n_set (ay (ae (pvN 2 bW)) aG))) (DO.toB (aT y36 bp cV T.n_len b8 (ay (ae (pvN 2 bW)) aG))) (aN _)) (qc (bf (gB q) oz (DO.toB (bN (M:=["_law_at","_law_keeps"]) (src:=[none,some 1]) (ts:=[0]) (CmpScope.of (by kernel_rfl)) rfl (cv (ae (pvN 2 bW))) (fun L _ _ _ _=>(aJ (aX (N:=["_law_at","_law_keeps"]) (i:=0) (by decide +kernel) (by decide +kernel) L (scC (outer:=ab z9) (by exact rfl))))) (fun _ _ _ _=>fB (vC q (ae (pvX (by kernel_rfl))) (ae (pvX (by kernel_rfl))))) (fun _ _ _ _=>(ak (pvX (by kernel_rfl)))) (by decide +kernel))) (DO.toB (cG am)) (aN _))))) (aE (aQ (DL.toO eG))) bC)
     (aE (aQ (aT q47 (oh rfl) (vt (f:=fun bs=>bs.all id)) T.n_all u2 (ay (DO.toB (bN (M:=["_law_k","_law_rows","_law_way"]) (src:=[none,some 0,some 2]) (ts:=[0]) (CmpScope.of (by kernel_rfl)) rfl (DIF.toB (cT y65 T.n_range (ac (DO.toL (aT y36 bp cV T.n_len b8 (ay (ae (pvN 2 bW)) aG))) am))) (fun L _ _ _ _=>(aJ (aX (N:=["_law_k","_law_rows","_law_way"]) (i:=0) (by decide +kernel) (by decide +kernel) L (scC (outer:=ab z9) (by exact rfl))))) (fun _ _ _ _=>cr) (fun _ _ _ _=>(DO.toL (zB q (DO.toB (av q (ae (pvX (by kernel_rfl))) (ae (pvX (by kernel_rfl))))) (DO.toB (aD (by decide +kernel) U (q.mono (by decide)) (ac (ak (pvX (by kernel_rfl))) (ac (DO.toL (av q (ae (pvX (by kernel_rfl))) (DO.toB (ao uJ zu (ae (pvX (by kernel_rfl))) (DL.toB ag))))) am)) (e1:=(scC (outer:=ab z9) rfl))))))) (by decide +kernel))) aG))))))
abbrev q17:Stmt:=top 44
theorem y89:FnScope ["_law_rows","_law_keeps","_law_due_here","_law_found"] ["_law_rows","_law_keeps","_law_due_here","_law_found"] (ab q17):=⟨rfl,rfl,rfl,by decide +kernel,rfl,by decide +kernel,by decide +kernel⟩
theorem aR:di (ab q17) ["_law_rows","_law_keeps","_law_due_here","_law_found"]=true:=by decide +kernel
theorem q54:aH (ab q17) "len"=true:=by decide +kernel
theorem q58:aH (ab q17) "isinstance"=true:=by decide +kernel
theorem z70:aH (ab q17) "tuple"=true:=by decide +kernel
theorem z53:aH (ab q17) "_law_is_ring"=true:=by decide +kernel
theorem q59:aH (ab q17) "_law_whole"=true:=by decide +kernel
theorem y87 (T:Txt P w K mg) (D:DefF K mg "_law_right" q17 ["_law_rows","_law_keeps","_law_due_here","_law_found"]) (L:OkF P w K mg base "_law_is_ring" 2 ["_law_rows","_law_keeps","_law_way"] (spD K 3 (z30))) (O:OkF P w K mg base "_law_whole" 1 ["_law_found"] (spD K 1 (y38))):OkF P w K mg base "_law_right" 3 ["_law_rows","_law_keeps","_law_due_here","_law_found"] (spD K 4 z11):=
 c8 D y89 rfl fun f cdv A outer s H E q=>(au (ci (bf (bG q) dG (ae (pvN 2 aR)) (DL.toB bn) (aN _)) (aE (aQ (f6 jW vk (ae (pvN 3 aR)) (DL.toB eY) (aN _)))) bC)
     (au (ci (DW.t (oo (ke (dl (DO.toB (eR q58 z70 T.n_isinstance T.n_tuple cW T.k_tuple (ae (pvN 3 aR)))) (fun _=>rfl))) (oo (bf (gB q) oz (DO.toB (aT q54 bp cV T.n_len b8 (ay (ae (pvN 3 aR)) aG))) (DL.toB ag) (aN _)) (qc (bf (gB q) oz (DO.toB (av q (ae (pvN 3 aR)) (DL.toB ag))) (ae (pvN 2 aR)) (aN _)))))) (aE (aQ (DL.toO eG))) bC)
     (au (ci (bf (bG q) dG (ae (pvN 2 aR)) (DL.toB bn) (aN _)) (aE (aQ (aD z53 L (q.mono (by decide)) (ac (ak (pvN 0 aR)) (ac (ak (pvN 1 aR)) (ac (DO.toL (av q (ae (pvN 3 aR)) (DL.toB ag))) am)))))) bC)
     (aE (aQ (m9 (DO.toB (aD q59 O (q.mono (by decide)) (ac (DO.toL (av q (ae (pvN 3 aR)) (DL.toB ag))) am))) (m9 (DO.toB (vp Cl ii jV ii (DL.toB ag) (DO.toB (av q (ae (pvN 3 aR)) (DL.toB ag))) (DO.toB (aT q54 bp cV T.n_len b8 (ay (ae (pvN 0 aR)) aG))))) (m9 (DO.toB (f6 (bG q) dG (DO.toB (av q (DO.toB (av q (ae (pvN 0 aR)) (DO.toB (av q (ae (pvN 3 aR)) (DL.toB ag))))) (DL.toB ag))) (DL.toB bn) (aN _))) (ve (vA q (DO.toB (av q (ae (pvN 3 aR)) (DL.toB ag))) (ae (pvN 1 aR))))))))))))
abbrev q13:Stmt:=top 40
theorem z19:FnScope ["_law_script","_law_program_here","_law_boxes","_law_share","_law_keeps","_law_at","_law_number","_law_begin"] ["_law_script","_law_program_here","_law_boxes"] (ab q13):=⟨rfl,rfl,rfl,by decide +kernel,rfl,by decide +kernel,by decide +kernel⟩
theorem ar:di (ab q13) ["_law_script","_law_program_here","_law_boxes","_law_share","_law_keeps","_law_at","_law_number","_law_begin"]=true:=by decide +kernel
theorem z20:aH (ab q13) "_law_cell_at"=true:=by decide +kernel
theorem q30:aH (ab q13) "sorted"=true:=by decide +kernel
theorem y69:aH (ab q13) "set"=true:=by decide +kernel
theorem q37:aH (ab q13) "len"=true:=by decide +kernel
theorem z66:aH (ab q13) "range"=true:=by decide +kernel
theorem q31:aH (ab q13) "tuple"=true:=by decide +kernel
theorem q81 (T:Txt P w K mg) (D:DefF K mg "_law_cutting" q13 ["_law_script","_law_program_here","_law_boxes"]) (L:OkF P w K mg base "_law_cell_at" 1 ["_law_script","_law_k"] (spD K 2 (y1))):OkF P w K mg base "_law_cutting" 2 ["_law_script","_law_program_here","_law_boxes"] (spD K 3 z18):=
 c8 D z19 rfl fun f cdv A outer s H E q=>(au (br (nsN ar 3) (nsL ar 3) z19.nd (DL.toO (DO.toL (av q (DO.toB (cG (ac ag (ac ag (ac ag (ac ag am)))))) (DO.toB (ao be bK (DO.toB (aD z20 L (q.mono (by decide)) (ac (ak (pvN 0 ar)) (ac ag am)))) (DL.toB ag)))))))
     (au (br (nsN ar 2) (nsL ar 2) z19.nd (DL.toO (DO.toL (kJ q30 y69 rfl T.n_sorted T.n_set (ay (DO.toB (ao bw cJ (ae (pvN 2 ar)) (DO.toB (cG (ac (DO.toL (av q (DO.toB (av q (DO.toB (av q (ae (pvN 1 ar)) (DL.toB ag))) (DL.toB ag))) (DL.toB ag))) (ac bn am)))))) aG)))))
     (au (br (nsN ar 4) (nsL ar 4) z19.nd (cG am))
     (au (f7 qe2 rfl (cT z66 T.n_range (ac (DO.toL (aT q37 bp cV T.n_len b8 (ay (DO.toB (av q (ae (pvN 1 ar)) (DL.toB ag))) aG))) am)) (aJ (bJ (nsN ar 5) (nsL ar 5) z19.nd)) (au (br (nsN ar 6) (nsL ar 6) z19.nd (DL.toO (DO.toL (ao be bK (DO.toB (ao iu kh (DO.toB (ao bw cJ (DO.toB (ao aU bH (DO.toB (aD z20 L (q.mono (by decide)) (ac (ak (pvN 0 ar)) (ac ag am)))) (DL.toB ag))) (DO.toB (ao iu kh (DL.toB ag) (ae (pvN 5 ar)))))) (DL.toB ag))) (DL.toB ag)))))
     (aE (ci (bf (bG q) dG (DO.toB (ao be bK (DO.toB (ao aU bH (ae (pvN 6 ar)) (DL.toB ag))) (ae (pvN 3 ar)))) (DL.toB ag) (aN _)) (aE (fR (pvN 4 ar) (DO.toL (bt (ac (ak (pvN 5 ar)) (ac (DO.toL (cQ q31 bI d8 T.n_tuple cW (ay (DO.toB (aT q30 gb kw T.n_sorted g6 (ay (DO.toB (eZ (ae (pvN 2 ar)) iN (eO (DO.toB (ao be bK (DO.toB (ao aU bH (ae (pvN 6 ar)) (DL.toB ag))) (DO.toB (ao bw cJ (DO.toB (aT q37 bp cV T.n_len b8 (ay (ae (pvN 2 ar)) aG))) (DL.toB ag)))))))) aG))) aG))) am)))))) bC))))
     (au (br (nsN ar 7) (nsL ar 7) z19.nd (DL.toO (DO.toL (cQ q31 bI d8 T.n_tuple cW (ay (DO.toB (aT q30 gb kw T.n_sorted g6 (ay (DO.toB (eZ (ae (pvN 2 ar)) iN (eO (DO.toB (ao be bK (DO.toB (ao aU bH (DO.toB (aD z20 L (q.mono (by decide)) (ac (ak (pvN 0 ar)) (ac ag am)))) (DL.toB ag))) (DO.toB (ao bw cJ (DO.toB (aT q37 bp cV T.n_len b8 (ay (ae (pvN 2 ar)) aG))) (DL.toB ag)))))))) aG))) aG)))))
     (aE (aQ (bt (ac (ak (pvN 7 ar)) (ac (DO.toL (cQ q31 bI d8 T.n_tuple cW (ay (ae (pvN 4 ar)) aG))) am))))))))))
abbrev ck:Stmt:=top 45
theorem sc_law:FnScope ["_law_script","_law_cells","_law_shelves","_law_rows","_law_things","_law_program_here","_law_boxes","_law_places","_law_every","_law_code","_law_keeps","_law_at","_law_due_here","_law_found","_law_whole_here"] ["_law_script"] (ab ck):=⟨rfl,rfl,rfl,by decide +kernel,rfl,by decide +kernel,by decide +kernel⟩
theorem az:di (ab ck) ["_law_script","_law_cells","_law_shelves","_law_rows","_law_things","_law_program_here","_law_boxes","_law_places","_law_every","_law_code","_law_keeps","_law_at","_law_due_here","_law_found","_law_whole_here"]=true:=by decide +kernel
theorem q71:aH (ab ck) "_law_program"=true:=by decide +kernel
theorem z37:aH (ab ck) "_law_cell_at"=true:=by decide +kernel
theorem q76:aH (ab ck) "_law_names"=true:=by decide +kernel
theorem y72:aH (ab ck) "_law_cutting"=true:=by decide +kernel
theorem y96:aH (ab ck) "len"=true:=by decide +kernel
theorem y93:aH (ab ck) "range"=true:=by decide +kernel
theorem q52:aH (ab ck) "sorted"=true:=by decide +kernel
theorem y59:aH (ab ck) "tuple"=true:=by decide +kernel
theorem q96:aH (ab ck) "set"=true:=by decide +kernel
theorem z82:aH (ab ck) "_law_due"=true:=by decide +kernel
theorem q75:aH (ab ck) "fault"=true:=by decide +kernel
theorem z54:aH (ab ck) "_law_right"=true:=by decide +kernel
theorem z91:aH (ab ck) "holds"=true:=by decide +kernel
theorem z76:aH (ab ck) "isinstance"=true:=by decide +kernel
theorem q94:aH (ab ck) "bool"=true:=by decide +kernel
theorem A8 {f:Addr} {fd:qo2} (T:Txt P w K mg) (D:Fun K "law" "law" ck f fd) (z50:OkF P w K mg base "_law_program" 3 ["_law_script","_law_most"] (spD K 2 (q18))) (Y:OkF P w K mg base "_law_names" 1 ["_law_cell","_law_many"] (spD K 2 (y14))) (Z:OkF P w K mg base "_law_due" 3 ["_law_rows","_law_keeps"] (spD K 2 (y32))) (U:OkF P w K mg base "fault" 6 ["program","code"] (spG K 2 (y19))) (y85:OkF P w K mg base "holds" 7 ["program","code"] (spG K 2 (y48))) (z7:OkF P w K mg base "_law_cell_at" 1 ["_law_script","_law_k"] (spD K 2 (y1))) (O:OkF P w K mg base "_law_right" 3 ["_law_rows","_law_keeps","_law_due_here","_law_found"] (spD K 4 (z11))) (W:OkF P w K mg base "_law_cutting" 2 ["_law_script","_law_program_here","_law_boxes"] (spD K 3 (z18))):FnOk P w K mg base CX0 8 f fd ["_law_script"] (spG K 1 r9):=
 vM D sc_law rfl fun cdv A outer s H E q=>(aO (A3 (DO.toL (aD q71 z50 (q.mono (by decide)) (ac (ak (pvN 0 az)) (ac ag am)))) (kg rfl (cR (aJ (bJ (nsN az 1) (nsL az 1) sc_law.nd)) (cR (aJ (bJ (nsN az 2) (nsL az 2) sc_law.nd)) (cR (aJ (bJ (nsN az 3) (nsL az 3) sc_law.nd)) iM)))))
     (aO (oR (nsN az 4) (nsL az 4) sc_law.nd (M:=["_law_some"]) (src:=[none]) (ts:=[0]) (CmpScope.of (by kernel_rfl)) rfl (cv (DO.toB (bt (ac (ak (pvN 1 az)) (ac (ak (pvN 2 az)) am))))) (fun L _ _ _ _=>(aJ (aX (N:=["_law_some"]) (i:=0) (by decide +kernel) (by decide +kernel) L (scC (outer:=ab ck) (by exact rfl))))) (fun _ _ _ _=>cr) (fun _ _ _ _=>(DO.toL (cQ (by decide +kernel) bI d8 T.n_tuple cW (ay (DO.toB (bN (M:=["_law_one"]) (src:=[none]) (ts:=[0]) (CmpScope.of (by kernel_rfl)) rfl (cv (ae (pvX (by kernel_rfl)))) (fun L _ _ _ _=>(aJ (aX (N:=["_law_one"]) (i:=0) (by decide +kernel) (by decide +kernel) L (scC (scC (outer:=ab ck) (by exact rfl)))))) (fun _ _ _ _=>cr) (fun _ _ _ _=>(DO.toL (bt (ac (DO.toL (av q (ae (pvX (by kernel_rfl))) (DL.toB ag))) (ac (DO.toL (av q (ae (pvX (by kernel_rfl))) (DL.toB ag))) (ac eG am)))))) (by decide +kernel))) aG) (e1:=(scC (outer:=ab ck) rfl))))) (by decide +kernel))
     (aO (bM (nsN az 5) (nsL az 5) sc_law.nd (aP (DO.toL (bt (ac (DO.toL (av q (ae (pvN 4 az)) (DL.toB ag))) (ac (DO.toL (av q (ae (pvN 4 az)) (DL.toB ag))) (ac (ak (pvN 3 az)) am)))))))
     (aO (bM (nsN az 6) (nsL az 6) sc_law.nd (aP (DO.toL (aD q76 Y (q.mono (by decide)) (ac (DO.toL (aD z37 z7 (q.mono (by decide)) (ac (ak (pvN 0 az)) (ac ag am)))) (ac (DO.toL (ao bw cJ (DL.toB ag) (DO.toB (ao be bK (DO.toB (ao aU bH (DO.toB (aD z37 z7 (q.mono (by decide)) (ac (ak (pvN 0 az)) (ac ag am)))) (DL.toB ag))) (DL.toB ag))))) am))))))
     (aO (oR (nsN az 7) (nsL az 7) sc_law.nd (M:=["_law_at","_law_told"]) (src:=[none,none]) (ts:=[0,1]) (CmpScope.of (by kernel_rfl)) rfl (cv (DO.toB (av q (DO.toB (aD y72 W (q.mono (by decide)) (ac (ak (pvN 0 az)) (ac (ak (pvN 5 az)) (ac (ak (pvN 6 az)) am))))) (DL.toB ag)))) (fun L _ _ _ _=>(kg rfl (cR (aJ (aX (N:=["_law_at","_law_told"]) (i:=0) (by decide +kernel) (by decide +kernel) L (scC (outer:=ab ck) (by exact rfl)))) (cR (aJ (aX (N:=["_law_at","_law_told"]) (i:=1) (by decide +kernel) (by decide +kernel) L (scC (outer:=ab ck) (by exact rfl)))) iM)))) (fun _ _ _ _=>cr) (fun _ _ _ _=>(ak (pvX (by kernel_rfl)))) (by decide +kernel))
     (aO (gE (fH (bf (bG q) dG (DO.toB (ao be bK (DO.toB (ao aU bH (DO.toB (aD z37 z7 (q.mono (by decide)) (ac (ak (pvN 0 az)) (ac ag am)))) (DL.toB ag))) (DL.toB ag))) (DL.toB ag) (aN _))) (b9 (bM (nsN az 7) (nsL az 7) sc_law.nd (aP (DO.toL (ao bw cJ (ae (pvN 7 az)) (DO.toB (bN (M:=["_law_at","_law_rows"]) (src:=[none,some 3]) (ts:=[0]) (CmpScope.of (by kernel_rfl)) rfl (DIF.toB (cT y93 T.n_range (ac (DO.toL (aT y96 bp cV T.n_len b8 (ay (ae (pvN 3 az)) aG))) am))) (fun L _ _ _ _=>(aJ (aX (N:=["_law_at","_law_rows"]) (i:=0) (by decide +kernel) (by decide +kernel) L (scC (outer:=ab ck) (by exact rfl))))) (fun _ _ _ _=>fB (bf (bG q) dG (DO.toB (av q (DO.toB (av q (ae (pvX (by kernel_rfl))) (ae (pvX (by kernel_rfl))))) (DL.toB ag))) (DL.toB bn) (aN _))) (fun _ _ _ _=>(ak (pvX (by kernel_rfl)))) (by decide +kernel)))))))) e9)
     (aO (bM (nsN az 8) (nsL az 8) sc_law.nd (aP (DO.toL (cQ y59 bI d8 T.n_tuple cW (ay (DO.toB (aT q52 gb kw T.n_sorted g6 (ay (ae (pvN 6 az)) aG))) aG)))))
     (aO (bM (nsN az 9) (nsL az 9) sc_law.nd (aP (DO.toL (bt (ac (ak (pvN 8 az)) (ac (DO.toL (cQ y59 bI d8 T.n_tuple cW (ay (DO.toB (bN (M:=["_law_at","_law_every"]) (src:=[none,some 8]) (ts:=[0]) (CmpScope.of (by kernel_rfl)) rfl (cv (DO.toB (pc q52 q96 rfl T.n_sorted T.n_set (ay (ae (pvN 7 az)) aG)))) (fun L _ _ _ _=>(aJ (aX (N:=["_law_at","_law_every"]) (i:=0) (by decide +kernel) (by decide +kernel) L (scC (outer:=ab ck) (by exact rfl))))) (fun _ _ _ _=>cr) (fun _ _ _ _=>(DO.toL (bt (ac (ak (pvX (by kernel_rfl))) (ac (ak (pvX (by kernel_rfl))) am))))) (by decide +kernel))) aG))) am))))))
     (aO (bM (nsN az 10) (nsL az 10) sc_law.nd (f9 rM))
     (aO (qo qe2 rfl (gz (ak (pvN 7 az))) (aJ (bJ (nsN az 11) (nsL az 11) sc_law.nd)) (b9 (qp q (c9 (pvN 10 az)) (aP (ak (pvN 11 az))) (aP eG))))
     (aO (bM (nsN az 12) (nsL az 12) sc_law.nd (oP z82 Z (q.mono (by decide)) (bF (aP (ak (pvN 3 az))) (bF (c9 (pvN 10 az)) fI)) (q14 (q14 ga))))
     (aO (bM (nsN az 13) (nsL az 13) sc_law.nd (iS q75 U (q.mono (by decide)) (bF (aP (ak (pvN 5 az))) (bF (aP (ak (pvN 9 az))) fI)) (q14 (q14 ga))))
     (aO (gE (vN (oO (mi 2 z54 O (q.mono (by decide)) (bF (aP (ak (pvN 3 az))) (bF (c9 (pvN 10 az)) (bF (aP (ak (pvN 12 az))) (bF (c9 (pvN 13 az)) fI)))) (q14 (q14 (q14 (q14 ga))))) (fun _=>rfl))) (b9 (fJ (aP eG))) e9)
     (aO (gE (fH (bf (bG q) dG (ae (pvN 12 az)) (DL.toB bn) (aN _))) (b9 (jh (CL q (c9 (pvN 13 az)) (aP ag)) (aP ag))) e9)
     (aO (bM (nsN az 14) (nsL az 14) sc_law.nd (iS z91 y85 (q.mono (by decide)) (bF (aP (ak (pvN 5 az))) (bF (aP (ak (pvN 9 az))) fI)) (q14 (q14 ga))))
     (aO (gE (GW.t (zE (fH (ke (dl (DO.toB (eR z76 q94 T.n_isinstance T.n_bool rl T.k_bool (ae (pvN 14 az)))) (fun _=>rfl)))) (zE (fH (bf (gB q) oz (ae (pvN 14 az)) (DO.toB (f6 (bG q) dG (ae (pvN 12 az)) (DL.toB bn) (aN _))) (aN _))) (A4 (vN (oO (mi 2 z54 O (q.mono (by decide)) (bF (aP (ak (pvN 3 az))) (bF (c9 (pvN 10 az)) (bF (aP (ak (pvN 12 az))) (bF (iS q75 U (q.mono (by decide)) (bF (aP (ak (pvN 5 az))) (bF (aP (ak (pvN 9 az))) fI)) (q14 (q14 ga))) fI)))) (q14 (q14 (q14 (q14 ga))))) (fun _=>rfl))))))) (b9 (fJ (aP eG))) e9)
     (b9 (fJ (aP (DO.toL (f6 (bG q) dG (ae (pvN 9 az)) (DO.toB (bt (ac (ak (pvN 8 az)) (ac (DO.toL (cQ y59 bI d8 T.n_tuple cW (ay (DO.toB (bN (M:=["_law_at","_law_every"]) (src:=[none,some 8]) (ts:=[0]) (CmpScope.of (by kernel_rfl)) rfl (cv (DO.toB (aT q52 (lw rfl) wc T.n_sorted g6 (ay (ae (pvN 10 az)) aG)))) (fun L _ _ _ _=>(aJ (aX (N:=["_law_at","_law_every"]) (i:=0) (by decide +kernel) (by decide +kernel) L (scC (outer:=ab ck) (by exact rfl))))) (fun _ _ _ _=>cr) (fun _ _ _ _=>(DO.toL (bt (ac (ak (pvX (by kernel_rfl))) (ac (ak (pvX (by kernel_rfl))) am))))) (by decide +kernel))) aG))) am)))) (aN _))))))))))))))))))))))
end
end P41
namespace L2
open PySem PySem.Spec PyProof.Rows
variable {acc:List Str} {x:Str}
theorem we {k:Str}:x∈de acc k↔x∈acc∨x=k:=by
 unfold de;split
 . rename_i h;exact ⟨.inl,fun z=>z.elim id fun e=>e▸h⟩
 . simp
theorem gT:∀ {ss acc:List Str},x∈ss.foldl de acc↔x∈acc∨x∈ss
 | [],acc=>by simp
 | s::ss,acc=>by rw [qj3,gT,we,qb2,or_assoc]
variable {ss:List Str}
theorem onces_mem:x∈bq ss↔x∈ss:=by unfold bq;rw [gT];simp
theorem qC {k:Str} (h:acc.Nodup):(de acc k).Nodup:=by
 unfold de;split
 . exact h
 . rename_i q;rw [qn8];exact ⟨h,by simp,fun a L b O e=>q (by rw [qa9.mp O] at e;exact e▸L)⟩
theorem fU:∀ {ss acc:List Str},acc.Nodup->(ss.foldl de acc).Nodup
 | [],acc,h=>h
 | s::ss,acc,h=>by rw [qj3];exact fU (qC h)
theorem jy (ss:List Str):(bq ss).Nodup:=fU qo1
noncomputable def Sd (l:List Str):Prop:=l.Pairwise fun a b=>leS a b=true/\a≠b
theorem yv (q:ss.Nodup):Sd (aZ ss):=by
 have h1:=gI ss;have h2:(aZ ss).Pairwise fun a b=>a≠b:=(cA ss).nodup_iff.mpr q
 exact h1.and h2
theorem Sd.nodup {l:List Str} (h:Sd l):l.Nodup:=qw9 (fun z=>z.2) h
theorem wf:∀ {l m:List Str},Sd l->Sd m->(∀ x,x∈l↔x∈m)->l=m
 | [],[],_,_,_=>rfl
 | [],b::m,_,_,h=>by simpa using (h b).mpr (.head _)
 | a::l,[],_,_,h=>by simpa using (h a).mp (.head _)
 | a::l,b::m,W,U,h=>by
  have L:=qg8.mp W;have q:=qg8.mp U
  have e:a=b:=by
   rcases qb2.mp ((h a).mp (.head _)) with z | z
   . exact z
   . rcases qb2.mp ((h b).mpr (.head _)) with y | y
     . exact y.symm
     . exact oS (L.1 b y).1 (q.1 a z).1
  subst e;congr 1;refine wf L.2 q.2 fun x=>⟨fun O=>?_,fun O=>?_⟩
  . rcases qb2.mp ((h x).mp (.tail _ O)) with z | z
    . exact absurd z.symm (L.1 x O).2
    . exact z
  . rcases qb2.mp ((h x).mpr (.tail _ O)) with z | z
    . exact absurd z.symm (q.1 x O).2
    . exact z
theorem bU {α:Type} [DecidableEq α]:∀ {l m:List α},l.Nodup->(∀ x∈l,x∈m)->l.length<=m.length
 | [],m,_,_=>qj2 _
 | a::l,m,h,L=>by
  obtain ⟨h1,h2⟩:=ql7.mp h;have O:a∈m:=L a (.head _);have:=bU (m:=m.erase a) h2 fun x q=>(List.mem_erase_of_ne (show x≠a from fun e=>h1 (by rw [<- e];exact q))).mpr (L x (.tail _ q))
  rw [List.length_erase_of_mem O] at this;have hp:=List.length_pos_of_mem O;rw [qc8];lia
theorem CU {l m:List Str} (O:Sd l) (Y:Sd m) (h:∀ x∈l,x∈m) (U:l≠m):l.length<m.length:=by
 by_cases z:∃ x,x∈m/\x∉l
 . obtain ⟨x,h1,h2⟩:=z
   have:=bU (l:=x::l) (m:=m) (ql7.mpr ⟨h2,O.nodup⟩) fun y L=>by
    rcases qb2.mp L with rfl | L
    . exact h1
    . exact h y L
   rw [qc8] at this;lia
 . exact absurd (wf O Y fun x=>⟨h x,fun W=>Classical.byContradiction fun q=>z ⟨x,W,q⟩⟩) U
inductive Atm where
 | nm (x:Str) | vl (i:Int)
inductive Rw where
 | copy (x:Str) (a:Atm) | op (x s:Str) (a b:Atm) | load (x c:Str) | store (c:Str) (a:Atm) | take (x f:Str) (a:Atm) | lay (f:Str) (a b:Atm) | hear (x:Str) | say (a:Atm) | iff (a:Atm) (g:Nat) | go (g:Nat) | fin (a:Atm)
noncomputable def Rw.atoms:Rw->List Atm
 | .copy _ a=>[a] | .op _ _ a b=>[a,b] | .load _ _=>[] | .store _ a=>[a] | .take _ _ a=>[a] | .lay _ a b=>[a,b] | .hear _=>[] | .say a=>[a] | .iff a _=>[a] | .go _=>[] | .fin a=>[a]
noncomputable def nms:List Atm->List Str
 | []=>[]
 | .nm x::r=>x::nms r
 | .vl _::r=>nms r
noncomputable def Rw.reads (r:Rw):List Str:=bq (nms r.atoms)
noncomputable def Rw.sets:Rw->Option Str
 | .copy x _=>some x | .op x _ _ _=>some x | .load x _=>some x | .take x _ _=>some x | .hear x=>some x
 | _=>none
noncomputable def Rw.outs (n:Nat):Rw->List Nat
 | .go g=>[g] | .iff _ g=>[g,n+1] | .fin _=>[]
 | _=>[n+1]
theorem nB:∀ l:List Atm,(nms l).length<=l.length
 | []=>nL _
 | .nm x::r=>Nat.succ_le_succ (nB r)
 | .vl _::r=>Nat.le_succ_of_le (nB r)
theorem Rw.reads_len (r:Rw):r.reads.length<=2:=by
 have h1:=mq (nms r.atoms);have h2:=nB r.atoms;have h3:r.atoms.length<=2:=by cases r<;>simp [Rw.atoms]
 unfold Rw.reads;lia
theorem Rw.outs_len (r:Rw) (n:Nat):(r.outs n).length<=2:=by cases r<;>simp [Rw.outs]
noncomputable def jz (r:Rw) (ls:List (List Str)):List Str:=ls.flatMap fun l=>l.filter fun b=>decide (r.sets≠some b)
noncomputable def NA (r:Rw) (ls:List (List Str)):List Str:=aZ (bq (r.reads++jz r ls))
theorem ub:x∈aZ ss↔x∈ss:=(cA ss).mem_iff
variable {r:Rw}
theorem A9 {ls:List (List Str)} {b:Str}:b∈NA r ls↔b∈r.reads∨(r.sets≠some b/\∃ l∈ls,b∈l):=by
 unfold NA jz;rw [ub,onces_mem,qe0,List.mem_flatMap];constructor
 . rintro (h | ⟨l,L,q⟩)
   . exact .inl h
   . rw [qh0,decide_eq_true_eq] at q;exact .inr ⟨q.2,l,L,q.1⟩
 . rintro (h | ⟨h,l,L,q⟩)
   . exact .inl h
   . exact .inr ⟨l,L,qh0.mpr ⟨q,decide_eq_true_eq.mpr h⟩⟩
theorem CW (r:Rw) (ls:List (List Str)):Sd (NA r ls):=yv (jy _)
inductive Needs (rows:List Rw):Nat->Str->Prop
 | here {i:Nat} {r:Rw} {b:Str}:rows[i]?=some r->b∈r.reads->Needs rows i b
 | on {i j:Nat} {r:Rw} {b:Str}:rows[i]?=some r->r.sets≠some b->j∈r.outs i->Needs rows j b->Needs rows i b
noncomputable def nw (rows:List Rw) (found:List (List Str)) (i:Nat):List Str:=match rows[i]? with
 | some r=>NA r ((r.outs i).map fun j=>found.getD j [])
 | none=>[]
variable {rows:List Rw} {i:Nat}
theorem kN {found:List (List Str)} {b:Str} (h:rows[i]?=some r):b∈nw rows found i↔b∈r.reads∨(r.sets≠some b/\∃ j∈r.outs i,b∈found.getD j []):=by
 unfold nw;rw [h];show b∈NA r _↔_;rw [A9];simp only [qd8];constructor
 . rintro (h | ⟨h,l,⟨j,q,rfl⟩,L⟩)
   . exact .inl h
   . exact .inr ⟨h,j,q,L⟩
 . rintro (h | ⟨h,j,q,L⟩)
   . exact .inl h
   . exact .inr ⟨h,_,⟨j,q,rfl⟩,L⟩
theorem zG (rows:List Rw) (found:List (List Str)) (i:Nat):Sd (nw rows found i):=by
 unfold nw;split
 . exact CW _ _
 . exact qr1
theorem nC {α:Type} {l:List (List α)} {j:Nat} {b:α} (h:b∈l.getD j []):∃ m,l[j]?=some m/\b∈m:=by
 rw [qc1] at h;cases q:l[j]? with
 | none=>rw [q] at h;simp at h
 | some m=>rw [q] at h;exact ⟨m,rfl,h⟩
theorem jR {α:Type} {l:List (List α)} {j:Nat} {m:List α} (h:l[j]?=some m):l.getD j []=m:=by rw [qc1,h];rfl
structure Fnd (rows:List Rw) (B:List Str) (found:List (List Str)):Prop where
 len:found.length=rows.length
 sd:∀ (i:Nat) (l:List Str),found[i]?=some l->Sd l
 sub:∀ (i:Nat) (l:List Str) (b:Str),found[i]?=some l->b∈l->b∈B
 nd:∀ (i:Nat) (l:List Str) (b:Str),found[i]?=some l->b∈l->Needs rows i b
 inc:∀ (i:Nat) (l:List Str) (b:Str),found[i]?=some l->b∈l->b∈nw rows found i
noncomputable def tot (found:List (List Str)):Nat:=(found.map qi6).sum
theorem Fnd.start {B:List Str}:Fnd rows B (rows.map fun _=>[]):=by
 have L:∀ (i:Nat) (l:List Str),(rows.map fun _=>([]:List Str))[i]?=some l->l=[]:=fun i l h=>by rw [qb1] at h;obtain ⟨r,_,e⟩:=mS h;exact e.symm
 refine ⟨by simp,fun i l h=>?_,fun i l b h q=>?_,fun i l b h q=>?_,fun i l b h q=>?_⟩
 . rw [L i l h];exact qr1
 all_goals (rw [L i l h] at q;cases q)
variable {n:Nat}
section
variable {rows:List Rw} {B:List Str} {found:List (List Str)}
theorem se {f g:List (List Str)} (h:∀ j b,b∈f.getD j []->b∈g.getD j []) {b:Str} (L:b∈nw rows f i):b∈nw rows g i:=by
 cases q:rows[i]? with
 | none=>unfold nw at L;rw [q] at L;cases L
 | some r =>rw [kN q] at L ⊢;exact L.imp id fun ⟨h1,j,O,L⟩=>⟨h1,j,O,h j b L⟩
theorem Fnd.step (F:Fnd rows B found) (Y:∀ (i:Nat) (r:Rw) (b:Str),rows[i]?=some r->b∈r.reads->b∈B) (hi:i<rows.length):Fnd rows B (found.set i (nw rows found i)):=by
 have W:i<found.length:=by rw [F.len];exact hi
 obtain ⟨r,O⟩:∃ r,rows[i]?=some r:=⟨rows[i],by simp [hi]⟩
 have mono:∀ j b,b∈found.getD j []->b∈(found.set i (nw rows found i)).getD j []:=fun j b q=>by
  obtain ⟨m,L,U⟩:=nC q;by_cases e:i=j
  . subst e;rw [jR (qd1 W)];exact F.inc i m b L U
  . rw [jR (l:=found.set i (nw rows found i)) (m:=m) (by rw [gN e];exact L)];exact U
 refine ⟨by simp [F.len],fun j l h=>?_,fun j l b h q=>?_,fun j l b h q=>?_,fun j l b h q=>?_⟩
 . by_cases e:i=j
   . subst e;rw [qd1 W] at h;cases h;exact zG _ _ _
   . rw [gN e] at h;exact F.sd j l h
 . by_cases e:i=j
   . subst e;rw [qd1 W] at h;cases h;rcases (kN O).mp q with z | ⟨_,j,_,z⟩
     . exact Y i r b O z
     . obtain ⟨m,L,q⟩:=nC z;exact F.sub j m b L q
   . rw [gN e] at h;exact F.sub j l b h q
 . by_cases e:i=j
   . subst e;rw [qd1 W] at h;cases h;rcases (kN O).mp q with z | ⟨h1,j,Z,z⟩
     . exact .here O z
     . obtain ⟨m,L,q⟩:=nC z;exact .on O h1 Z (F.nd j m b L q)
   . rw [gN e] at h;exact F.nd j l b h q
 . by_cases e:i=j
   . subst e;rw [qd1 W] at h;cases h;exact se mono q
   . rw [gN e] at h;exact se mono (F.inc j l b h q)
theorem sf:∀ {found:List (List Str)} {i:Nat} {l m:List Str},found[i]?=some l->tot (found.set i m)+l.length=tot found+m.length
 | [],i,l,m,h=>by simp at h
 | x::f,0,l,m,h=>by simp at h;subst h;simp only [tot,List.set_cons_zero,qa3,qq2];lia
 | x::f,i+1,l,m,h=>by have:=sf (found:=f) (i:=i) (l:=l) (m:=m) (by simpa using h);simp only [tot,List.set_cons_succ,qa3,qq2] at this ⊢;lia
theorem tot_le:∀ {found:List (List Str)},(∀ l∈found,l.length<=n)->tot found<=found.length*n
 | [],_=>by simp [tot]
 | x::f,h=>by
  have:=tot_le (found:=f) fun l q=>h l (.tail _ q)
  have h1:=h x (.head _);simp only [tot,qa3,qq2,qc8,Nat.succ_mul] at this ⊢;lia
theorem Fnd.short (F:Fnd rows B found) {l:List Str} (h:found[i]?=some l):l.length<=B.length:=bU (F.sd i l h).nodup fun b q=>F.sub i l b h q
theorem Fnd.tot_le (F:Fnd rows B found):tot found<=rows.length*B.length:=by
 rw [<- F.len];refine L2.tot_le fun l q=>?_
 obtain ⟨i,h⟩:=List.getElem?_of_mem q;exact F.short h
theorem Fnd.more (F:Fnd rows B found) {l:List Str} (h:found[i]?=some l) (q:nw rows found i≠l):tot found<tot (found.set i (nw rows found i)):=by have h1:=sf (m:=nw rows found i) h;have h2:=CU (F.sd i l h) (zG rows found i) (fun x L=>F.inc i l x h L) (ql2 q);lia
noncomputable def Fix (rows:List Rw) (found:List (List Str)):Prop:=∀ (i:Nat) (l:List Str),found[i]?=some l->nw rows found i=l
theorem Fix.all (F:Fnd rows B found) (x:Fix rows found) (Y:∀ (i:Nat) (r:Rw) (j:Nat),rows[i]?=some r->j∈r.outs i->j<rows.length) {b:Str} (h:Needs rows i b):∀ l,found[i]?=some l->b∈l:=by
 induction h with
 | here q W=>exact fun l O=>by rw [<- x _ l O,kN q];exact .inl W
 | @on i j r b q h1 U _ Z =>
  intro l O;rw [<- x _ l O,kN q];have L:j<found.length:=by rw [F.len];exact Y i r j q U
  have e:found[j]?=some found[j]:=by simp [L]
  exact .inr ⟨h1,j,U,by rw [jR e];exact Z _ e⟩
end
variable {j:Int}
theorem Ba {i:Int}:cy (.int i) (.int j)=some (.leaf (.int (i+j))):=rfl
variable {y:Str}
theorem Bb (h:x.length+y.length<=qb0):cy (.str x) (.str y)=some (.leaf (.str (x++y))):=if_pos h
variable {l m:List Dt}
theorem wg (h:l.length+m.length<=qb0):cy (.lst l) (.lst m)=some (.lst (l++m)):=if_pos h
theorem wj {i:Int} (h:ju i j=true):gA (.int i) (.int j)=some (.leaf (.int (i*j))):=if_pos h
theorem d5 {i:Int} (h:0<j):bz (.int i) (.int j)=some (.leaf (.int (i%j))):=if_pos h
theorem Bc {i:Int} (h:ox i j=true):vi (.int i) (.int j)=some (.leaf (.int (i^j.toNat))):=if_pos h
theorem wm:ox 2 40=true:=by decide
@[irreducible] def wide:Int:=1099511627776
theorem si:wide=1099511627776:=by unfold wide;rfl
theorem Dl:vi (.int 2) (.int 40)=some (.leaf (.int wide)):=by rw [Bc wm,si];rfl
theorem wn:(0:Int)<wide:=by rw [si];decide
theorem gMod_w {i:Int}:bz (.int i) (.int wide)=some (.leaf (.int (i%wide))):=d5 wn
theorem gCmp_i {f:Int->Int->Bool} {i:Int}:gq f (.int i) (.int j)=some (.leaf (.bl (f i j))):=rfl
theorem CY (h:(cmpbs l m&&decide (deeps l<=59))=true):eqD (.tup l) (.tup m)=some (peqs l m):=if_pos h
theorem CZ (h:(cmpbs l m&&decide (deeps l<=59))=true):eqD (.lst l) (.lst m)=some (peqs l m):=if_pos h
variable {neg b:Bool}
theorem qD {x y:Dt} (h:eqD x y=some b):gEq neg x y=some (.leaf (.bl (if neg then !b else b))):=by unfold gEq;rw [h];rfl
theorem Be {i:Int}:gEq false (.int i) (.int j)=some (.leaf (.bl (decide (i=j)))):=rfl
theorem gEq_ss {i j:Str}:gEq false (.str i) (.str j)=some (.leaf (.bl (decide (i=j)))):=rfl
theorem gNe_ss {i j:Str}:gEq true (.str i) (.str j)=some (.leaf (.bl (!decide (i=j)))):=rfl
theorem gIs_n {x:Dt}:gIs neg x .non=some (.leaf (.bl (if neg then !ij x else ij x))):=rfl
theorem jA {i:Int}:aB (.lst l) (.int i)=(atI l i).map .leaf:=rfl
theorem pp {i:Int}:aB (.tup l) (.int i)=(atI l i).map .leaf:=rfl
theorem zH {i:Int} (h:x.length<=qb0):aB (.str x) (.int i)=(atI x.cps.toList i).map fun c=>.leaf (.str ⟨#[c]⟩):=if_pos h
theorem C0 {ks:List Key} {k:Dt}:cf neg k (.dct ks l)=(jE k).map fun k=>.leaf (.bl (if neg then !(dM ks l k).isSome else (dM ks l k).isSome)):=rfl
theorem C1 {x:Dt} (h:(cC x&&l.all cC)=true):cf neg x (.lst l)=some (.leaf (.bl (if neg then !(l.any fun y=>eqF y x) else l.any fun y=>eqF y x))):=by cases x<;>simp only [cf,gIn,inD]<;>first | rw [if_pos h];rfl | cases h
theorem C2 {x:Dt} (h:(cC x&&l.all cC)=true):cf neg x (.tup l)=some (.leaf (.bl (if neg then !(l.any fun y=>eqF y x) else l.any fun y=>eqF y x))):=by cases x<;>simp only [cf,gIn,inD]<;>first | rw [if_pos h];rfl | cases h
theorem gLen_l:bD [.lst l]=some (.leaf (.int l.length)):=rfl
theorem gLen_t:bD [.tup l]=some (.leaf (.int l.length)):=rfl
theorem gInt_b {i:Bool}:vv [.bl i]=some (.leaf (.int (if i then 1 else 0))):=rfl
theorem C3:cu [.lst l]=some (.leaf (.tup l)):=rfl
theorem qE (h:lQ j=true):dv [.int j]=some (dZ 0 j.toNat):=if_pos h
theorem kO (q:-1000000000<=j) (h1:j<=1000000000):lQ j=true:=by unfold lQ;simp only [qb4,decide_eq_true_eq];lia
theorem Bf (h:n<=1000000000):dv [.int n]=some (dZ 0 n):=by rw [qE (kO (by lia) (by lia))];rfl
theorem itD_l:itD (.lst l)=some l:=rfl
theorem itD_t:itD (.tup l)=some l:=rfl
theorem truD_b:vc (.bl b)=some b:=rfl
theorem asB_b:asB (.leaf (.bl b))=some b:=rfl
theorem C4 {b:Int}:asI (.int b)=some b:=rfl
theorem small (h:n<=1000000):n<=qb0:=qc7 h (by decide)
theorem fq (h:n<1000000):n<qb0:=qb7 h (by decide)
variable {bb:Dt->De->Option De} {ft:De->Option Bool} {fe:De->Option Dt} {δ:De}
theorem mw {f:Dt->Dt}:∀ {ds:List Dt},(∀ d∈ds,∃ δ1,bb d δ=some δ1/\ft δ1=some true/\fe δ1=some (f d))->bL bb ft fe δ ds=some (ds.map f)
 | [],_=>rfl
 | d::r,h=>by obtain ⟨δ1,h1,h2,h3⟩:=h d qe4;unfold bL;rw [h1,qa0,h2,qa0,if_pos rfl,h3,qa0,mw fun e q=>h e (qd3 _ q)];rfl
theorem pq {P:Dt->Dt->Prop}:∀ {ds:List Dt},(∀ d∈ds,∃ δ1 y,bb d δ=some δ1/\ft δ1=some true/\fe δ1=some y/\P d y)->∃ ys,bL bb ft fe δ ds=some ys/\Paired P ds ys
 | [],_=>⟨[],rfl,.nil⟩
 | d::r,h=>by
  obtain ⟨δ1,y,h1,h2,h3,q⟩:=h d qe4;obtain ⟨ys,L,U⟩:=pq fun e O=>h e (qd3 _ O)
  refine ⟨y::ys,?_,.cons q U⟩;unfold bL;rw [h1,qa0,h2,qa0,if_pos rfl,h3,qa0,L];rfl
theorem mem_range {lo:Int} {d:Dt} (h:d∈dZ lo n):∃ i:Nat,i<n/\d=.int (lo+i):=by unfold dZ at h;obtain ⟨i,hi,rfl⟩:=qd8.mp h;exact ⟨i,qd0.mp hi,rfl⟩
theorem uc {lo:Int}:(dZ lo n).length=n:=by simp [dZ]
variable {src:List (Option Nat)} {fi:De->Option (List Dt)} {ds:List Dt}
theorem wo {ys:List Dt} (h1:fi δ=some ds) (h2:bL bb ft fe (dC src δ) ds=some ys) (h3:ys.length<=1000000):aW src fi bb ft fe δ=some (.lst ys):=by unfold aW;rw [h1,qa0,h2,qa0];exact if_pos (small h3)
variable {g:De->Option Out}
theorem dD {d:Dt} {r:List Dt} {δ1 δ2:De} (h1:bb d δ=some δ1) (h2:g δ1=some (.nx δ2)):fA bb g (d::r) δ=fA bb g r δ2:=by show ((bb d δ).bind fun δ1=>(g δ1).bind fun o=>match o with | .nx δ2=>fA bb g r δ2 | .ct δ2=>fA bb g r δ2 | .bk δ2=>some (.nx δ2) | .rt t=>some (.rt t) | .re t δ2=>some (.re t δ2))=_;rw [h1,qa0,h2];rfl
theorem bY {α:Type} {l:List α} {k:Nat}:atI l (k:Int)=l[k]?:=by
 unfold atI ixN;rw [if_pos (by lia)];by_cases h:k<l.length
 . rw [if_pos (by lia)];simp
 . rw [if_neg (by lia)];simp;lia
theorem gMul_l {i:Int} (h1:-1000000000000000000<i) (h2:i<1000000000000000000):gA (.int i) (.int j)=some (.leaf (.int (i*j))):=wj (xS h1 h2)
theorem Bg {i:Int} (h1:-1000000000000000000<j) (h2:j<1000000000000000000):gA (.int i) (.int j)=some (.leaf (.int (i*j))):=wj (xT h1 h2)
noncomputable def wq (o:Option Out) (g:De->Option Out):Option Out:=o.bind fun o=>match o with
 | .nx δ'=>g δ'
 | o=>some o
theorem kP {g1 g2:De->Option Out}:bc g1 g2 δ=wq (g1 δ) g2:=rfl
theorem fV:wq (some (.nx δ)) g=g δ:=rfl
theorem C5 {t:T}:wq (some (.rt t)) g=some (.rt t):=rfl
noncomputable def finO:Option Out->Option T
 | some (.rt t)=>some t
 | some (.nx _)=>some (.leaf .non)
 | _=>none
theorem Bh {m:Nat}:dQ m g ds=finO (g (ds.map (fun d=>some (.leaf d))++qf8 (m-ds.length) none)):=rfl
theorem Dm {t:T}:finO (some (.rt t))=some t:=rfl
noncomputable def kQ {α:Type} (b:Option Bool) (f g:De->Option α) (δ:De):Option α:=b.bind fun b=>if b then f δ else g δ
theorem sj {α:Type} {f g:De->Option α}:kQ (some true) f g δ=f δ:=rfl
theorem sk {α:Type} {f g:De->Option α}:kQ (some false) f g δ=g δ:=rfl
theorem sq {α:Type} {f g:De->Option α} (h:b=true):kQ (some b) f g δ=f δ:=by subst h;rfl
theorem nE {α:Type} {f g:De->Option α} (h:b=false):kQ (some b) f g δ=g δ:=by subst h;rfl
theorem wu {c:De->Option Bool} {g1 g2:De->Option Out}:sIf c g1 g2 δ=kQ (c δ) g1 g2 δ:=rfl
theorem vIf_d {c:De->Option Bool} {g1 g2:De->Option T}:vIf c g1 g2 δ=kQ (c δ) g1 g2 δ:=rfl
noncomputable def kB (b:Bool):De->Option Bool:=fun _=>some b
theorem kB_d:kB b δ=some b:=rfl
variable {f:De->Option Bool}
theorem wv {g:De->Option Bool}:m7 f g δ=kQ (f δ) g (kB false) δ:=rfl
noncomputable def mkL (ds:List Dt):Option T:=if ds.length<=qb0 then some (.lst ds) else none
noncomputable def mkTp (ds:List Dt):Option T:=if ds.length<=qb0 then some (.leaf (.tup ds)) else none
theorem d6 (h:ds.length<=1000000):mkL ds=some (.lst ds):=if_pos (small h)
theorem Dn (h:ds.length<=1000000):mkTp ds=some (.leaf (.tup ds)):=if_pos (small h)
theorem qF {f:De->Option (List Dt)}:dE f δ=(f δ).bind mkL:=rfl
theorem vTup_d {f:De->Option (List Dt)}:bT f δ=(f δ).bind mkTp:=rfl
theorem Do:aW src fi bb ft fe δ=(fi δ).bind fun ds=>(bL bb ft fe (dC src δ) ds).bind mkL:=rfl
noncomputable def Bi (l:List Dt) (i:Nat) (δ:De) (d:Dt):Option Out:=if l.length<qb0 then some (.nx (δ.set i (some (.lst (l++[d]))))) else none
theorem jS {d:Dt} (h:l.length<1000000):Bi l i δ d=some (.nx (δ.set i (some (.lst (l++[d]))))):=if_pos (fq h)
theorem pr {f:De->Option Dt} (h:δ[i]?=some (some (.lst l))):z29 i f δ=(f δ).bind (Bi l i δ):=by unfold z29;rw [h];rfl
theorem qG (cs:List Nat):Txt.join "" (cs.map fun c=>(⟨#[c]⟩:Str))=⟨cs.toArray⟩:=by
 have e0:("":Str).cps=#[]:=by decide +kernel
 have q:∀ (l:List Nat) (acc:Array Nat),(l.map fun c=>(⟨#[c]⟩:Str)).foldl (fun acc p=>acc++("":Str).cps++p.cps) acc=acc++l.toArray:=by
  intro l;induction l with
  | nil=>intro acc;simp
  | cons c l L =>intro acc;rw [qa3,qj3,L,e0];simp
 unfold Txt.join qj1.Str.glued;cases cs with
 | nil=>rfl
 | cons c r =>show (⟨(r.map fun c=>(⟨#[c]⟩:Str)).foldl (fun acc p=>acc++("":Str).cps++p.cps) (#[c]:Array Nat)⟩:Str)=_;rw [q];simp
theorem nF (cs:List Nat) (h:cs.length<=1000):JoinOk "" (cs.map fun c=>(⟨#[c]⟩:Str))=true:=by
 unfold JoinOk
 have h1:∀ y∈cs.map (fun c=>(⟨#[c]⟩:Str)),y.length<=1:=fun y q=>by obtain ⟨c,_,rfl⟩:=qd8.mp q;exact nL _
 rw [StrLaws.joinFits h1 (by rw [qa2,show ("":Str).length=0 by decide +kernel];lia)];rfl
theorem gi:∀ ts:List Str,f8 (ts.map .str)=some ts
 | []=>rfl
 | t::r=>by show (f8 (r.map .str)).map (t::·)=_;rw [gi r];rfl
noncomputable def sgD (cs:List Nat):List Dt:=cs.map fun c=>.str ⟨#[c]⟩
theorem ww {cs:List Nat} (h:cs.length<=1000):iA (.str "") [.lst (sgD cs)]=some (.leaf (.str ⟨cs.toArray⟩)):=by
 have e:sgD cs=(cs.map fun c=>(⟨#[c]⟩:Str)).map .str:=by unfold sgD;rw [qc0];rfl
 show (f8 (sgD cs)).bind _=_;rw [e,gi,qa0,if_pos (nF cs h),qG]
theorem mx:∀ {ds ys:List Dt},Paired (fun _ y=>∃ c:Nat,y=.str ⟨#[c]⟩) ds ys->∃ cs:List Nat,ys=sgD cs/\cs.length=ds.length
 | _,_,.nil=>⟨[],rfl,rfl⟩
 | _,_,.cons ⟨c,e⟩ t=>by obtain ⟨cs,q,e2⟩:=mx t;exact ⟨c::cs,by rw [e,q];rfl,by simp [e2]⟩
theorem Bj {α:Type} {xs:List α} {i:Int} (L:0<=i) (h1:i<xs.length):∃ v,atI xs i=some v/\v∈xs:=by
 obtain ⟨n,rfl⟩:=Int.eq_ofNat_of_zero_le L;have q:n<xs.length:=by lia
 exact ⟨xs[n],xD (by simp [q]),qs2 q⟩
theorem yw (x:Str):x.length=x.cps.toList.length:=by show x.cps.size=_;simp
theorem sr {i:Int} (q:x.length<=1000000) (L:0<=i) (h1:i<x.length):∃ c,aB (.str x) (.int i)=some (.leaf (.str ⟨#[c]⟩))/\c∈x.cps.toList:=by obtain ⟨c,e,O⟩:=Bj (xs:=x.cps.toList) L (by rw [<- yw];exact h1);refine ⟨c,?_,O⟩;rw [zH (small q),e];rfl
theorem su (h:l.length+m.length<=1000000):cy (.lst l) (.lst m)=some (.lst (l++m)):=wg (small h)
theorem Dp:cC (.str x)=true:=rfl
theorem eqF_s:eqF (.str x) (.str y)=decide (x=y):=by show (x==y)=_;rw [ql6];simp
theorem kR:∀ {l m:List Dt},l.all cC=true->m.all cC=true->cmpbs l m=true
 | [],m,_,_=>by cases m<;>simp [cmpbs]
 | _::_,[],_,_=>by simp [cmpbs]
 | d::l,e::m,h,h'=>by
  simp only [qk4,qb4] at h h';simp only [cmpbs,kR h.2 h'.2,qs6];cases d<;>first | (cases h.1;done) | skip
  all_goals cases e<;>first | (cases h'.1;done) | rfl
theorem kS:∀ {l:List Dt},l.all cC=true->deeps l=0
 | [],_=>by simp [deeps]
 | d::l,h=>by simp only [qk4,qb4] at h;simp only [deeps,kS h.2];cases d<;>first | (cases h.1;done) | rfl
theorem pv (q:l.all cC=true) (L:m.all cC=true):gEq neg (.lst l) (.lst m)=some (.leaf (.bl (if neg then !peqs l m else peqs l m))):=qD (CZ (by rw [kR q L,kS q];rfl))
theorem sFor_d:jD fi bb g δ=(fi δ).bind fun ds=>fA bb g ds δ:=rfl
theorem atI_0 {α:Type} {l:List α}:atI l 0=l[0]?:=bY (k:=0)
theorem atI_1 {α:Type} {l:List α}:atI l 1=l[1]?:=bY (k:=1)
theorem atI_2 {α:Type} {l:List α}:atI l 2=l[2]?:=bY (k:=2)
theorem Bl {α:Type} {x:α} {l:List α}:atI (x::l) (-1)=(x::l)[l.length]?:=by unfold atI ixN;rw [if_neg (by decide),if_pos (by simp only [qc8];lia)];simp only [qa0];congr 1;simp only [qc8];lia
variable {ch:CH}
theorem wx {δ:Sl} {d:Dt} (h:δ[i]?=some (some (.dat d))):(lo δ ch)[i]?=some (some (.leaf d)):=by
 have L:∀ (δ:Sl) (u:List Nat) (i:Nat),δ[i]?=some (some (.dat d))->(loA ch u δ)[i]?=some (some (.leaf d)):=fun δ=>by
  induction δ with
  | nil=>intro u i h;simp at h
  | cons x r q =>
   intro u i h;cases i with
   | zero =>simp only [qm5,qi0] at h;subst h;rfl
   | succ i =>
    have h':r[i]?=some (some (.dat d)):=by simpa using h
    cases x with
    | none=>simpa [loA] using q u i h'
    | some c=>cases c with
     | dat e=>simpa [loA] using q u i h'
     | ref j=>simpa [loA] using q (j::u) i h'
     | fn a F0=>simpa [loA] using q u i h'
 exact L δ [] i h
open PySem
theorem Bm:(qa1 "copy"=qa1 "op")=False:=eq_false (by decide +kernel)
theorem yx:(qa1 "copy"=qa1 "load")=False:=eq_false (by decide +kernel)
theorem xi:(qa1 "copy"=qa1 "store")=False:=eq_false (by decide +kernel)
theorem yy:(qa1 "copy"=qa1 "take")=False:=eq_false (by decide +kernel)
theorem zI:(qa1 "copy"=qa1 "lay")=False:=eq_false (by decide +kernel)
theorem yz:(qa1 "copy"=qa1 "hear")=False:=eq_false (by decide +kernel)
theorem zJ:(qa1 "copy"=qa1 "say")=False:=eq_false (by decide +kernel)
theorem Bn:(qa1 "copy"=qa1 "if")=False:=eq_false (by decide +kernel)
theorem Bo:(qa1 "copy"=qa1 "go")=False:=eq_false (by decide +kernel)
theorem zK:(qa1 "copy"=qa1 "end")=False:=eq_false (by decide +kernel)
theorem Bp:(qa1 "op"=qa1 "copy")=False:=eq_false (by decide +kernel)
theorem Bq:(qa1 "op"=qa1 "load")=False:=eq_false (by decide +kernel)
theorem zL:(qa1 "op"=qa1 "store")=False:=eq_false (by decide +kernel)
theorem Br:(qa1 "op"=qa1 "take")=False:=eq_false (by decide +kernel)
theorem BX:(qa1 "op"=qa1 "lay")=False:=eq_false (by decide +kernel)
theorem Bs:(qa1 "op"=qa1 "hear")=False:=eq_false (by decide +kernel)
theorem BY:(qa1 "op"=qa1 "say")=False:=eq_false (by decide +kernel)
theorem C6:(qa1 "op"=qa1 "if")=False:=eq_false (by decide +kernel)
theorem C7:(qa1 "op"=qa1 "go")=False:=eq_false (by decide +kernel)
theorem BZ:(qa1 "op"=qa1 "end")=False:=eq_false (by decide +kernel)
theorem yA:(qa1 "load"=qa1 "copy")=False:=eq_false (by decide +kernel)
theorem Bt:(qa1 "load"=qa1 "op")=False:=eq_false (by decide +kernel)
theorem xj:(qa1 "load"=qa1 "store")=False:=eq_false (by decide +kernel)
theorem yB:(qa1 "load"=qa1 "take")=False:=eq_false (by decide +kernel)
theorem zM:(qa1 "load"=qa1 "lay")=False:=eq_false (by decide +kernel)
theorem yC:(qa1 "load"=qa1 "hear")=False:=eq_false (by decide +kernel)
theorem zN:(qa1 "load"=qa1 "say")=False:=eq_false (by decide +kernel)
theorem Bu:(qa1 "load"=qa1 "if")=False:=eq_false (by decide +kernel)
theorem Bv:(qa1 "load"=qa1 "go")=False:=eq_false (by decide +kernel)
theorem zO:(qa1 "load"=qa1 "end")=False:=eq_false (by decide +kernel)
theorem zP:(qa1 "store"=qa1 "if")=False:=eq_false (by decide +kernel)
theorem zQ:(qa1 "store"=qa1 "go")=False:=eq_false (by decide +kernel)
theorem yD:(qa1 "store"=qa1 "end")=False:=eq_false (by decide +kernel)
theorem yE:(qa1 "take"=qa1 "copy")=False:=eq_false (by decide +kernel)
theorem Bw:(qa1 "take"=qa1 "op")=False:=eq_false (by decide +kernel)
theorem yF:(qa1 "take"=qa1 "load")=False:=eq_false (by decide +kernel)
theorem xk:(qa1 "take"=qa1 "store")=False:=eq_false (by decide +kernel)
theorem zR:(qa1 "take"=qa1 "lay")=False:=eq_false (by decide +kernel)
theorem yG:(qa1 "take"=qa1 "hear")=False:=eq_false (by decide +kernel)
theorem zS:(qa1 "take"=qa1 "say")=False:=eq_false (by decide +kernel)
theorem Bx:(qa1 "take"=qa1 "if")=False:=eq_false (by decide +kernel)
theorem By:(qa1 "take"=qa1 "go")=False:=eq_false (by decide +kernel)
theorem zT:(qa1 "take"=qa1 "end")=False:=eq_false (by decide +kernel)
theorem B0:(qa1 "lay"=qa1 "if")=False:=eq_false (by decide +kernel)
theorem B1:(qa1 "lay"=qa1 "go")=False:=eq_false (by decide +kernel)
theorem Bz:(qa1 "lay"=qa1 "end")=False:=eq_false (by decide +kernel)
theorem yH:(qa1 "hear"=qa1 "copy")=False:=eq_false (by decide +kernel)
theorem BA:(qa1 "hear"=qa1 "op")=False:=eq_false (by decide +kernel)
theorem yI:(qa1 "hear"=qa1 "load")=False:=eq_false (by decide +kernel)
theorem xl:(qa1 "hear"=qa1 "store")=False:=eq_false (by decide +kernel)
theorem yJ:(qa1 "hear"=qa1 "take")=False:=eq_false (by decide +kernel)
theorem zU:(qa1 "hear"=qa1 "lay")=False:=eq_false (by decide +kernel)
theorem zV:(qa1 "hear"=qa1 "say")=False:=eq_false (by decide +kernel)
theorem BB:(qa1 "hear"=qa1 "if")=False:=eq_false (by decide +kernel)
theorem BC:(qa1 "hear"=qa1 "go")=False:=eq_false (by decide +kernel)
theorem zW:(qa1 "hear"=qa1 "end")=False:=eq_false (by decide +kernel)
theorem B3:(qa1 "say"=qa1 "if")=False:=eq_false (by decide +kernel)
theorem B4:(qa1 "say"=qa1 "go")=False:=eq_false (by decide +kernel)
theorem BD:(qa1 "say"=qa1 "end")=False:=eq_false (by decide +kernel)
theorem C8:(qa1 "if"=qa1 "go")=False:=eq_false (by decide +kernel)
theorem B5:(qa1 "if"=qa1 "end")=False:=eq_false (by decide +kernel)
theorem B6:(qa1 "go"=qa1 "end")=False:=eq_false (by decide +kernel)
theorem B7:(qa1 "end"=qa1 "if")=False:=eq_false (by decide +kernel)
theorem B8:(qa1 "end"=qa1 "go")=False:=eq_false (by decide +kernel)
section
variable {c f m:Str} {fa fb fe fk fo fx:Fg} {fs:Fgs} {g:Fd} {δ:Sl} {ch ch1 ch2 ch3:CH} {i:Nat} {ns:List Str} {l cs:List CV} {x v w:CV} {d:Dt} {o o':CO}
theorem my (q:fs δ ch=some (cs,ch2)):eC g fs δ ch=g cs ch2:=by unfold eC;rw [q,qa0]
theorem kT (L:fe δ ch=some (v,ch1)) (O:fa δ ch1=some (.ref i,ch2)) (q:fk δ ch2=some (.dat d,ch3)) (U:ch3[i]?=some o) (hp:tI o d v=some o'):iU fa fk fe δ ch=some (.nx δ (ch3.set i o')):=by unfold iU;rw [L,qa0];dsimp only;rw [O,qa0];dsimp only;rw [q,qa0];simp only [U,qa0,hp,qg0]
theorem BE {g:List Dt->Option T} {e:Dt} (h1:fs δ ch=some (cs,ch1)) (h2:vws ch1 cs=some ds) (h3:g ds=some (.leaf e)) (q:iQ (.leaf e)=some (.leaf e):=by rfl):eCV g fs δ ch=some (.dat e,ch1):=by unfold eCV;rw [h1,qa0];dsimp only;rw [h2,qa0,h3,qa0,q];rfl
theorem bV {fd:De->Option Dt} (h:fd (lo δ ch)=some d):eD fd δ ch=some (.dat d,ch):=by unfold eD;rw [h];rfl
theorem i3 (h:ft (lo δ ch)=some b):tD ft δ ch=some (b,ch):=by unfold tD;rw [h];rfl
theorem iq (h:δ[i]?=some (some v)):eV i δ ch=some (v,ch):=by unfold eV;rw [h]
theorem aV (h:fa δ ch=some (v,ch1)):aI i fa δ ch=some (.nx (δ.set i (some v)) ch1):=by unfold aI;rw [h];rfl
theorem pw (h:fa δ ch=some (v,ch1)):cH fa δ ch=some (.rt v ch1):=by unfold cH;rw [h];rfl
theorem pz (q:i<δ.length):mgS [i] δ ((lo δ ch).set i (some (.leaf d)))=δ.set i (some (.dat d)):=by
 have h2:(lo δ ch).length=δ.length:=hW ch [] δ;apply List.ext_getElem?;intro j;unfold mgS;rw [qs3];by_cases e:i=j
 . subst e;rw [qd1 q,gQ q,qd1 (by rw [h2];exact q)];simp
 . rw [gN e,gN e];have L:¬ j=i:=fun z=>e z.symm
   cases h:δ[j]? with
   | none=>rfl
   | some x=>simp [L]
theorem jT {g:Fs} {r:List Dt} {δ2:Sl} (q:i<δ.length) (h:g (δ.set i (some (.dat d))) ch=some (.nx δ2 ch2)):ko [i] (ap i) g (d::r) δ ch=ko [i] (ap i) g r δ2 ch2:=by show ((ap i d (lo δ ch)).bind fun δ1=>(g (mgS [i] δ δ1) ch).bind fun o=>_)=_;unfold ap;rw [qa0,pz q,h];rfl
end
noncomputable def Atm.d:Atm->Dt
 | .nm x=>.str x
 | .vl i=>.int i
noncomputable def Rw.d:Rw->Dt
 | .copy x a=>.tup [.str "copy",.str x,a.d]
 | .op x s a b=>.tup [.str "op",.str x,.str s,a.d,b.d]
 | .load x c=>.tup [.str "load",.str x,.str c]
 | .store c a=>.tup [.str "store",.str c,a.d]
 | .take x f a=>.tup [.str "take",.str x,.str f,a.d]
 | .lay f a b=>.tup [.str "lay",.str f,a.d,b.d]
 | .hear x=>.tup [.str "hear",.str x]
 | .say a=>.tup [.str "say",a.d]
 | .iff a g=>.tup [.str "if",a.d,.int g]
 | .go g=>.tup [.str "go",.int g]
 | .fin a=>.tup [.str "end",a.d]
noncomputable def dI (j:Nat):Dt:=.int (j:Int)
noncomputable def dS (l:List Str):Dt:=.lst (l.map .str)
noncomputable def dF (f:List (List Str)):Dt:=.lst (f.map dS)
noncomputable def dR (rows:List Rw):Dt:=.tup (rows.map Rw.d)
theorem bP {α:Type} {f h:α->Dt}:∀ {l:List α},(∀ a∈l,∃ δ1,bb (f a) δ=some δ1/\ft δ1=some true/\fe δ1=some (h a))->bL bb ft fe δ (l.map f)=some (l.map h)
 | [],_=>rfl
 | a::l,q=>by obtain ⟨δ1,h1,h2,h3⟩:=q a qe4;rw [qa3];unfold bL;rw [h1,qa0,h2,qa0,if_pos rfl,h3,qa0,bP fun e L=>q e (qd3 _ L)];rfl
theorem cO {α:Type} {f h:α->Dt} {p:α->Bool}:∀ {l:List α},(∀ a∈l,∃ δ1,bb (f a) δ=some δ1/\ft δ1=some (p a)/\(p a=true->fe δ1=some (h a)))->bL bb ft fe δ (l.map f)=some ((l.filter p).map h)
 | [],_=>rfl
 | a::l,q=>by
  obtain ⟨δ1,h1,h2,h3⟩:=q a qe4;have L:=cO (l:=l) fun e O=>q e (qd3 _ O)
  rw [qa3];unfold bL;rw [h1,qa0,h2,qa0];cases hp:p a with
  | true =>rw [if_pos rfl,h3 hp,qa0,L,List.filter_cons_of_pos hp];rfl
  | false =>rw [if_neg (by simp),L,List.filter_cons_of_neg (by simp [hp])]
theorem ud {α:Type} {f:α->Dt}:∀ (l:List α) (i:Nat),e8 i (l.map f)=(l.mapIdx fun k a=>Dt.tup [.int ((i+k:Nat):Int),f a])
 | [],_=>rfl
 | a::l,i=>by rw [qa3,e8,ud l (i+1),List.mapIdx_cons];congr 1;congr 1;funext k a;rw [show i+1+k=i+(k+1) by lia]
theorem kU {α:Type} {f:α->Dt} {h:Nat->α->Dt}:∀ {l:List α} (i:Nat),(∀ k a,∃ δ1,bb (.tup [.int ((k:Nat):Int),f a]) δ=some δ1/\fe δ1=some (h k a))->bL bb bd fe δ (e8 i (l.map f))=some (l.mapIdx fun k a=>h (i+k) a)
 | [],_,_=>rfl
 | a::l,i,q=>by obtain ⟨δ1,h1,h3⟩:=q i a;rw [qa3,e8];unfold bL;rw [h1,qa0];show ((fe δ1).bind fun y=>_)=_;rw [h3,qa0,kU (i+1) q,List.mapIdx_cons];show some _=some _;congr 1;congr 1;congr 1;funext k a;rw [show i+1+k=i+(k+1) by lia]
theorem dP (l:List Str):(l.map Dt.str).all cC=true:=by rw [qm7];intro x q;obtain ⟨y,_,rfl⟩:=qd8.mp q;rfl
theorem sv (l:List Str) (x:Str):((l.map Dt.str).any fun y=>eqF y (.str x))=decide (x∈l):=by
 induction l with
 | nil=>rfl
 | cons a l q =>
  rw [qa3,qi2,q,show eqF (.str a) (.str x)=decide (a=x) from rfl];by_cases h:a=x
  . simp [h]
  . have:¬ x=a:=fun z=>h z.symm
    simp [h,this]
theorem wy {l:List Str}:cf neg (.str x) (.lst (l.map .str))=some (.leaf (.bl (if neg then !decide (x∈l) else decide (x∈l)))):=by rw [C1 (by rw [dP];rfl),sv]
theorem jB {l:List Str} (h:l.length<64):fT [.lst (l.map .str)]=some (.lst ((aZ (bq l)).map .str)):=by unfold fT tV;dsimp only;rw [gi,qa0,if_pos ⟨by lia,Nat.lt_of_le_of_lt (mq l) h⟩]
theorem kW {l:List Str} (h:l.length<64):dn [.lst (l.map .str)]=some (.lst ((aZ l).map .str)):=by unfold dn;dsimp only;rw [gi,qa0,if_pos h]
noncomputable def extL (l m:List Dt) (i:Nat) (δ:De):Option Out:=if l.length+m.length<=qb0 then some (.nx (δ.set i (some (.lst (l++m))))) else none
theorem yK (h:l.length+m.length<=1000000):extL l m i δ=some (.nx (δ.set i (some (.lst (l++m))))):=if_pos (small h)
theorem C9 {f:De->Option T} (h:δ[i]?=some (some (.lst l))) (q:f δ=some (.lst m)):y58 i f δ=extL l m i δ:=by unfold y58;rw [h];dsimp only;rw [q];rfl
theorem mz:∀ {l m:List Str},peqs (l.map .str) (m.map .str)=decide (l=m)
 | [],[]=>rfl
 | [],_::_=>rfl
 | _::_,[]=>rfl
 | a::l,b::m=>by rw [qa3,qa3];show (decide (a=b)&&peqs (l.map .str) (m.map .str))=_;rw [mz];by_cases h1:a=b<;>by_cases h2:l=m<;>simp [h1,h2]
theorem wz {l m:List Str}:gEq neg (.lst (l.map .str)) (.lst (m.map .str))=some (.leaf (.bl (if neg then !decide (l=m) else decide (l=m)))):=by rw [pv (dP l) (dP m),mz]
noncomputable def cS (l:List Str):CO:=.lst (l.map fun x=>.dat (.str x))
structure Pl (ch:CH) (fi:Nat) (refs:List Nat) (found:List (List Str)):Prop where
 top:ch[fi]?=some (.lst (refs.map CV.ref))
 len:refs.length=found.length
 out:fi∉refs
 has:∀ (k r:Nat) (l:List Str),refs[k]?=some r->found[k]?=some l->ch[r]?=some (cS l)
theorem nG {d:Dt}:∀ n:Nat,vwD ch n (.dat d)=some d
 | 0=>by simp only [vwD]
 | n+1=>by simp only [vwD]
theorem mB:∀ l:List Str,cI (vwD ch n) (l.map fun x=>CV.dat (.str x))=some (l.map .str)
 | []=>rfl
 | x::l=>by rw [qa3];unfold cI;rw [nG,qa0,mB l];rfl
theorem pA {r:Nat} {l:List Str} (h:ch[r]?=some (cS l)):vwD ch (n+1) (.ref r)=some (dS l):=by unfold vwD;rw [h];show (cI (vwD ch n) _).map _=_;rw [mB];rfl
theorem mC:∀ {refs:List Nat} {found:List (List Str)},refs.length=found.length->(∀ (k r:Nat) (l:List Str),refs[k]?=some r->found[k]?=some l->ch[r]?=some (cS l))->cI (vwD ch (n+1)) (refs.map CV.ref)=some (found.map dS)
 | [],[],_,_=>rfl
 | [],_::_,h,_=>by cases h
 | _::_,[],h,_=>by cases h
 | r::refs,l::found,h,q=>by rw [qa3];unfold cI;rw [pA (q 0 r l rfl rfl),qa0,mC (by simpa using h) fun k r l h1 h2=>q (k+1) r l (by simpa using h1) (by simpa using h2)];rfl
section
variable {ch:CH} {fi:Nat} {refs:List Nat} {found:List (List Str)}
theorem Pl.view (h:Pl ch fi refs found):vwD ch 2 (.ref fi)=some (dF found):=by unfold vwD;rw [h.top];show (cI (vwD ch 1) _).map _=_;rw [mC h.len h.has];rfl
theorem Pl.lt (h:Pl ch fi refs found):fi<ch.length:=(gX h.top).1
theorem sw {g:CH} {o:CO} (h:ch[i]?=some o):(ch++g)[i]?=some o:=by rw [qa8 (gX h).1];exact h
theorem Pl.app (h:Pl ch fi refs found) (g:CH):Pl (ch++g) fi refs found:=⟨sw h.top,h.len,h.out,fun k r l h1 h2=>sw (h.has k r l h1 h2)⟩
theorem Pl.put (h:Pl ch fi refs found) {new:Nat} {m:List Str} (U:ch[new]?=some (cS m)) (L:new≠fi):Pl (ch.set fi (.lst ((refs.map CV.ref).set i (.ref new)))) fi (refs.set i new) (found.set i m):=by
 have q:=h.lt;refine ⟨by rw [qd1 q,List.map_set],by simp [h.len],fun z=>?_,fun k r l h1 h2=>?_⟩
 . rcases qv9 z with z | z
   . exact h.out z
   . exact L z.symm
 . have O:r≠fi:=fun e=>by
    rw [e] at h1;rcases qv9 (qc9 h1) with z | z
    . exact h.out z
    . exact L z.symm
   rw [gN (ql2 O)];rw [qw6] at h1 h2;split at h1
   . rename_i e;subst e;rw [if_pos rfl] at h2;split at h1<;>cases h1
     split at h2<;>cases h2
     exact U
   . rename_i e;rw [if_neg e] at h2;exact h.has k r l h1 h2
end
theorem BF {m:Nat} {f:De->Option T} {δ:Sl} {l:List Str} (h:f (loD m δ ch)=some (.lst (l.map .str))):eDV m f δ ch=some (.ref ch.length,ch++[cS l]):=by unfold eDV;rw [h,qa0];unfold iQ;dsimp only;rw [if_pos (dP l),qa0];unfold al cS;simp
theorem BG {m:Nat} {δ:Sl} (h:f (loD m δ ch)=some b):tDV m f δ ch=some (b,ch):=by unfold tDV;rw [h];rfl
variable {g1 g2:Fs} {δ1:Sl} {ch1:CH}
theorem aA {δ:Sl} (h:g1 δ ch=some (.nx δ1 ch1)):aL g1 g2 δ ch=g2 δ1 ch1:=by unfold aL;rw [h];rfl
variable {c:Ft}
theorem sx {δ:Sl} (h:c δ ch=some (b,ch1)):dh c g1 g2 δ ch=if b then g1 δ ch1 else g2 δ ch1:=by unfold dh;rw [h];rfl
theorem iB {δ:Sl} (h:c δ ch=some (true,ch1)):dh c g1 g2 δ ch=g1 δ ch1:=by rw [sx h,if_pos rfl]
theorem gj {δ:Sl} (h:c δ ch=some (false,ch1)):dh c g1 g2 δ ch=g2 δ ch1:=by rw [sx h,if_neg (by simp)]
theorem kX {g:Fs} {δ:Sl} {ch2:CH} (h:c δ ch=some (true,ch1)) (q:g δ ch1=some (.nx δ1 ch2)):cU c g (n+1) δ ch=cU c g n δ1 ch2:=by show ((c δ ch).bind fun p=>_)=_;rw [h,qa0];dsimp only;rw [if_pos rfl,q];rfl
theorem i4 {g:Fs} {δ:Sl} (h:c δ ch=some (false,ch1)):cU c g (n+1) δ ch=some (.nx δ ch1):=by show ((c δ ch).bind fun p=>_)=_;rw [h,qa0];rfl
theorem ic {m:Nat} {g:Fs} {cs:List CV} {ch':CH} {c:CV} (h:g (cs.map some++qf8 (m-cs.length) none) ch=some (.rt c ch')):jF m g cs ch=some (c,ch'):=by unfold jF;rw [h]
theorem BH {k:Nat} (h:k<n):ixN n (k:Int)=some k:=by unfold ixN;rw [if_pos (by lia),if_pos (by lia)];simp
theorem BI {l:List CV} {k:Nat} {c:CV} (h:k<l.length):tI (.lst l) (dI k) c=some (.lst (l.set k c)):=by unfold tI dI;simp only [C4,qa0,BH h,qg0]
theorem ue (h:n<=1000):tN [.int ((n:Int)-1),.int (-1),.int (-1)]=some (((qb6 n).map fun i=>n-1-i).map dI):=by
 unfold tN
 have e:(qc6 ((n:Int)-1) (-1) (-1)).toNat=n:=by
  unfold qc6;rw [if_neg (by decide)];by_cases q:(n:Int)-1 > -1
  . rw [if_pos q];have:((n:Int)-1 - -1-1)/(- -1)=(n:Int)-1:=by rw [show (- -1:Int)=1 by decide,Int.ediv_one];lia
    rw [this];lia
  . rw [if_neg q];lia
 dsimp only;rw [if_pos (show vQ ((n:Int)-1) (-1) (-1)=true by unfold vQ;simp;lia),e];congr 1;unfold qr;rw [qc0];refine qo6 fun i hi=>?_
 have:=qd0.mp hi;show Dt.int _=Dt.int ((n-1-i:Nat):Int);congr 1;lia
end L2
local macro_rules | `(tactic| walk_at "k") => `(tactic| simp -implicitDefEqProofs only [L2.Bh, L2.Dm, L2.kP, L2.fV, L2.C5, L2.cY, L2.bX, L2.bO, L2.rH, L2.wu, L2.sj, L2.sk, L2.kB_d, L2.sFor_d, L2.xO, L2.toT, L2.toD, L2.T.d, L2.kD, L2.vL, L2.vB, L2.d2, L2.tB2, L2.fw, L2.iy, L2.wv, L2.AS, L2.vIf_d, L2.ai, L2.aa, L2.vTup_d, L2.qF, L2.d6, L2.Dn, L2.jS, L2.ah, L2.fQ, L2.Do, L2.vSl, L2.fC, L2.dL, L2.fF, L2.zy, L2.oF, L2.iz, L2.xX, L2.fIt, L2.cZ, L2.ap, L2.dC, L2.bd, L2.Ba, L2.atI_0, L2.atI_1, L2.atI_2, L2.Bl, L2.su, L2.C1, L2.C2, L2.Dp, L2.eqF_s, qk4, List.all_nil, qi2, List.any_nil, L2.gMul_l, L2.Bg, L2.d5, L2.Dl, L2.gMod_w, L2.gCmp_i, L2.Be, L2.gEq_ss, L2.gNe_ss, L2.gIs_n, L2.ij, L2.jA, L2.pp, L2.C0, L2.gLen_l, L2.gLen_t, L2.gInt_b, L2.C3, L2.itD_l, L2.itD_t, L2.truD_b, L2.asB_b, L2.C4, qa3, qm3, qc8, qg2, List.cons_append, List.nil_append, qf8, qm5, List.getElem?_cons_succ, List.set_cons_zero, List.set_cons_succ, qa0, Option.bind_none, qg0, Option.map_none, qo3, Option.join_none, Nat.reduceAdd, Nat.reduceSub, Nat.reduceLeDiff, Int.reduceLT, Int.reduceEq, eq_self, Int.reduceNeg, Int.reduceLE, if_true, if_false, ite_true, ite_false, qu7, decide_true, decide_false, Bool.not_true, Bool.not_false, qs6, qp9, Bool.or_true, Bool.true_or, zd0, zd1, qv1, Bool.false_and, String.reduceBEq, reduceCtorEq, L2.Bm, L2.yx, L2.xi, L2.yy, L2.zI, L2.yz, L2.zJ, L2.Bn, L2.Bo, L2.zK, L2.Bp, L2.Bq, L2.zL, L2.Br, L2.BX, L2.Bs, L2.BY, L2.C6, L2.C7, L2.BZ, L2.yA, L2.Bt, L2.xj, L2.yB, L2.zM, L2.yC, L2.zN, L2.Bu, L2.Bv, L2.zO, L2.zP, L2.zQ, L2.yD, L2.yE, L2.Bw, L2.yF, L2.xk, L2.zR, L2.yG, L2.zS, L2.Bx, L2.By, L2.zT, L2.B0, L2.B1, L2.Bz, L2.yH, L2.BA, L2.yI, L2.xl, L2.yJ, L2.zU, L2.zV, L2.BB, L2.BC, L2.zW, L2.B3, L2.B4, L2.BD, L2.C8, L2.B5, L2.B6, L2.B7, L2.B8])
namespace P41
open PySem L2
theorem qH (n:Nat) (r:Rw):y61 [.int n,r.d]=some (.leaf (.tup ((r.outs n).map dI))):=by cases r<;>kernel_rfl
noncomputable def dW (rows:List Rw):Dt:=.lst (rows.mapIdx fun k r=>.tup ((r.outs k).map dI))
theorem sy (c s:Dt) (rows:List Rw) (h:rows.length<=1000):eF [.tup [c,s,dR rows]]=some (.lst (rows.mapIdx fun k r=>.tup ((r.outs k).map dI))):=by
 unfold eF;walk_at "k";unfold l3 dR;walk_at "k"
 rw [kU (h:=fun k r=>.tup ((r.outs k).map dI)) 0 fun k a=>⟨_,rfl,by unfold y91;walk_at "k";rw [qH];walk_at "k"⟩]
 walk_at "k";rw [d6 (by rw [List.length_mapIdx];lia)];walk_at "k";simp
theorem wA (r:Rw):y75 [r.d]=some (.leaf (match r.sets with | some x=>.str x | none=>.non)):=by cases r<;>kernel_rfl
theorem wC (r:Rw):z75 [r.d]=some (.leaf (.tup (r.atoms.map Atm.d))):=by cases r<;>kernel_rfl
theorem iC (x0:Option T):∀ (q:List Atm) (acc:List Str) (x2:Option T),acc.length+q.length<=10->∃ y,fA (ap 2) q62 (q.map Atm.d) [x0,some (.lst (acc.map .str)),x2]=some (.nx [x0,some (.lst (((nms q).foldl de acc).map .str)),y])
 | [],acc,x2,_=>⟨x2,rfl⟩
 | .vl i::q,acc,x2,h=>by obtain ⟨y,e⟩:=iC x0 q acc (some (.leaf (.int i))) (by simp at h ⊢;lia);refine ⟨y,?_⟩;rw [qa3,dD (δ1:=[x0,some (.lst (acc.map .str)),some (.leaf (.int i))]) (δ2:=[x0,some (.lst (acc.map .str)),some (.leaf (.int i))]) rfl (by unfold q62;walk_at "k"<;>rfl)];exact e
 | .nm x::q,acc,x2,h=>by
  have O:acc.length<10:=by simp at h;lia
  obtain ⟨y,e⟩:=iC x0 q (de acc x) (some (.leaf (.str x))) (by
   have:(de acc x).length<=acc.length+1:=by unfold de;split<;>simp
   simp at h ⊢;lia)
  refine ⟨y,?_⟩;rw [qa3,dD (δ1:=[x0,some (.lst (acc.map .str)),some (.leaf (.str x))]) (δ2:=[x0,some (.lst ((de acc x).map .str)),some (.leaf (.str x))]) rfl ?_]
  . exact e
  . unfold q62 de;walk_at "k";rw [wy];walk_at "k";by_cases L:x∈acc
    . rw [nE (by simp [L]),if_pos L];rfl
    . rw [sq (by simp [L]),if_neg L,pr rfl];walk_at "k";rw [jS (by rw [qa2];lia)];simp
theorem wD (r:Rw):q66 [r.d]=some (.lst (r.reads.map .str)):=by
 have q:r.atoms.length<=2:=by cases r<;>simp [Rw.atoms]
 obtain ⟨y,e⟩:=iC (some (.leaf r.d)) r.atoms [] none (by simp;lia);unfold q66;walk_at "k";rw [wC];walk_at "k";rw [show ([]:List Dt)=([]:List Str).map .str from rfl,e];walk_at "k";rfl
theorem ug (r:Rw) (l:List Str):bL (ap 0) q41 (vL 0) [none,some (.leaf r.d)] (l.map .str)=some ((l.filter fun b=>decide (r.sets≠some b)).map .str):=
 cO fun b _=>⟨[some (.leaf (.str b)),some (.leaf r.d)],rfl,by
  unfold q41;walk_at "k";rw [wA];walk_at "k";cases q:r.sets with
  | none =>walk_at "k";rw [show gEq true (Dt.str b) Dt.non=some (.leaf (.bl true)) from rfl];simp [asB]
  | some x =>
   walk_at "k";by_cases h:b=x
   . simp [h]
   . have:¬ x=b:=fun z=>h z.symm
     simp [h,this],fun _=>rfl⟩
theorem kY (r:Rw) (x1:Option T):∀ (ls:List (List Str)) (acc:List Str) (x3:Option T),acc.length+(ls.map qi6).sum<=1000->∃ y,fA (ap 3) y42 (ls.map dS) [some (.leaf r.d),x1,some (.lst (acc.map .str)),x3]=some (.nx [some (.leaf r.d),x1,some (.lst ((acc++jz r ls).map .str)),y])
 | [],acc,x3,_=>⟨x3,by unfold jz;simp [fA]⟩
 | l::ls,acc,x3,h=>by
  simp only [qa3,qq2] at h;have q:=qg3 (fun b=>decide (r.sets≠some b)) l;obtain ⟨y,e⟩:=kY r x1 ls (acc++l.filter fun b=>decide (r.sets≠some b)) (some (.leaf (dS l))) (by rw [qb8];lia);refine ⟨y,?_⟩;rw [qa3,dD (δ1:=[some (.leaf r.d),x1,some (.lst (acc.map .str)),some (.leaf (dS l))]) (δ2:=[some (.leaf r.d),x1,some (.lst ((acc++l.filter fun b=>decide (r.sets≠some b)).map .str)),some (.leaf (dS l))]) rfl ?_]
  . rw [e];unfold jz;simp
  . unfold y42;rw [C9 (l:=acc.map .str) (m:=(l.filter fun b=>decide (r.sets≠some b)).map .str) rfl (wo (ds:=l.map .str) rfl (ug r l) (by rw [qa2];lia)),yK (by rw [qa2,qa2];lia)];simp
theorem wE (r:Rw) (ls:List (List Str)) (h:(ls.map qi6).sum<=60):y20 [r.d,.lst (ls.map dS)]=some (.lst ((NA r ls).map .str)):=by
 have q:=r.reads_len
 have O:(jz r ls).length<=(ls.map qi6).sum:=by
  clear h q;induction ls with
  | nil=>simp [jz]
  | cons l ls L =>have U:=qg3 (fun b=>decide (r.sets≠some b)) l;unfold jz at L ⊢;simp only [List.flatMap_cons,qb8,qa3,qq2];lia
 obtain ⟨y,e⟩:=kY r (some (.leaf (.lst (ls.map dS)))) ls r.reads none (by lia);unfold y20;walk_at "k";rw [wD];walk_at "k";rw [e];walk_at "k";rw [jB (by rw [qb8];lia)];rfl
variable {found:List (List Str)}
theorem wF (q:∀ l∈found,l.length<=12):∀ js:List Nat,((js.map fun j=>found.getD j []).map qi6).sum<=12*js.length
 | []=>qj2 _
 | j::js=>by
  have L:=wF q js
  have:(found.getD j []).length<=12:=by
   rw [qc1];cases h:found[j]? with
   | none=>simp
   | some l=>exact q l (qc9 h)
  simp only [qa3,qq2,qc8];lia
variable {i:Nat} {r:Rw}
section
variable {P:Dt} {rows:List Rw} {B:List Str} {found:List (List Str)} {fi:Nat} {refs:List Nat} {ch:CH}
theorem nH (h:rows[i]?=some r):aB (dW rows) (.int i)=some (.leaf (.tup ((r.outs i).map dI))):=by unfold dW;rw [jA,bY,qs3,h];rfl
theorem BJ (h:rows[i]?=some r):aB (dR rows) (.int i)=some (.leaf r.d):=by unfold dR;rw [pp,bY,qb1,h];rfl
theorem wG {l:List Str} (h:found[i]?=some l):aB (dF found) (.int i)=some (.leaf (dS l)):=by unfold dF;rw [jA,bY,qb1,h];rfl
theorem uh (L:rows[i]?=some r) (U:∀ l∈found,l.length<=12) (Y:∀ j∈r.outs i,j<found.length) (Z W:Option T) :
  ah y20 (aa (toD (d2 aB (vB 1) (vB 5))) (aa (toD (aW [none,some 3] (fIt (toD (d2 aB (vB 2) (vB 5)))) (ap 0) bd q56)) ai)) [some (.leaf P),some (.leaf (dR rows)),some (.leaf (dW rows)),some (.leaf (dF found)),Z,some (.leaf (.int i)),W]=some (.lst ((nw rows found i).map .str)):=by
 walk_at "k";rw [BJ L,nH L];walk_at "k"
 rw [bP (h:=fun j=>dS (found.getD j [])) fun j O=>⟨[some (.leaf (dI j)),some (.leaf (dF found))],rfl,rfl,by have q:=Y j O;unfold q56 dI;walk_at "k";rw [wG (l:=found[j]) (by simp [q])];walk_at "k";rw [jR (m:=found[j]) (by simp [q])]⟩]
 walk_at "k";have ho:=r.outs_len i;rw [d6 (by rw [qa2];lia)];walk_at "k";have e:(r.outs i).map (fun j=>dS (found.getD j []))=((r.outs i).map fun j=>found.getD j []).map dS:=by rw [qc0];rfl
 rw [e,wE r _ (qc7 (wF U _) (by lia))];unfold nw;rw [L]
noncomputable def sl (P:Dt) (rows:List Rw) (fi:Nat) (c:Bool) (x5 x6:Option CV):Sl:=[some (.dat P),some (.dat (dR rows)),some (.dat (dW rows)),some (.ref fi),some (.dat (.bl c)),x5,x6]
theorem yL (Y:Pl ch fi refs found) {i:Nat} {l:List Str} (hr:rows[i]?=some r) (hl:found[i]?=some l) (hs:∀ l∈found,l.length<=12) (hj:∀ j∈r.outs i,j<found.length) (c:Bool) (x6:Option CV) :
  ∃ U q c' ch',y55 (sl P rows fi c (some (.dat (dI i))) x6) ch=some (.nx (sl P rows fi c' (some (.dat (dI i))) (some (.ref ch.length))) ch')/\Pl ch' fi U q/\ch.length<=ch'.length/\(∀ k,k<ch.length->k≠fi->ch'[k]?=ch[k]?)∧((nw rows found i=l/\q=found/\c'=c)∨(nw rows found i≠l/\q=found.set i (nw rows found i)/\c'=true)):=by
 have hfi:=Y.lt;have L:=Y.app [cS (nw rows found i)];have O:(ch++[cS (nw rows found i)])[ch.length]?=some (cS (nw rows found i)):=by simp
 have h1:aI 6 (eDV 2 (ah y20 (aa (toD (d2 aB (vB 1) (vB 5))) (aa (toD (aW [none,some 3] (fIt (toD (d2 aB (vB 2) (vB 5)))) (ap 0) bd q56)) ai)))) (sl P rows fi c (some (.dat (dI i))) x6) ch=some (.nx (sl P rows fi c (some (.dat (dI i))) (some (.ref ch.length))) (ch++[cS (nw rows found i)])):=by refine aV (BF ?_);have:=uh (P:=P) hr hs hj (some (.leaf (.bl c))) (x6.bind fun c=>(vwD ch 2 c).map T.leaf);rw [<- this];congr 1;unfold loD sl;simp only [qa3,qm3,qa0,nG,qg0,Y.view];rfl
 have h2:tDV 2 (tB2 (gEq true) (vB 6) (toD (d2 aB (vB 3) (vB 5)))) (sl P rows fi c (some (.dat (dI i))) (some (.ref ch.length))) (ch++[cS (nw rows found i)])=some (!decide (nw rows found i=l),ch++[cS (nw rows found i)]):=by refine BG ?_;unfold loD sl;simp only [qa3,qm3,qa0,nG,qg0,L.view,pA O];walk_at "k";unfold dI;rw [wG hl];walk_at "k";unfold dS;rw [wz];rfl
 unfold y55;rw [aA h1];by_cases W:nw rows found i=l
 . refine ⟨refs,found,c,_,?_,L,by simp,fun k Z _=>qa8 Z,.inl ⟨W,rfl,rfl⟩⟩;rw [decide_eq_true W] at h2;rw [gj h2];rfl
 . have hi:i<refs.length:=by rw [Y.len];exact (gX hl).1
   have h3:iU (eV 3) (eD (vL 5)) (eV 6) (sl P rows fi c (some (.dat (dI i))) (some (.ref ch.length))) (ch++[cS (nw rows found i)])=some (.nx (sl P rows fi c (some (.dat (dI i))) (some (.ref ch.length))) ((ch++[cS (nw rows found i)]).set fi (.lst ((refs.map CV.ref).set i (.ref ch.length))))):=kT (iq rfl) (iq rfl) (bV rfl) L.top (BI (by rw [qa2];exact hi))
   refine ⟨refs.set i ch.length,found.set i (nw rows found i),true,_,?_,L.put (i:=i) O (qk3 hfi),?_,?_,.inr ⟨W,rfl,rfl⟩⟩
   . rw [decide_eq_false W] at h2;rw [iB h2,aA h3];exact aV rfl
   . simp
   . intro k Z hf;rw [gN (ql2 hf)];exact qa8 Z
theorem pass (hB:∀ (i:Nat) (r:Rw) (b:Str),rows[i]?=some r->b∈r.reads->b∈B) (hO:∀ (i:Nat) (r:Rw) (j:Nat),rows[i]?=some r->j∈r.outs i->j<rows.length) (hb:B.length<=12) :
  ∀ (js:List Nat) (refs:List Nat) (found:List (List Str)) (c:Bool) (x5 x6:Option CV) (ch:CH),Pl ch fi refs found->Fnd rows B found->(∀ j∈js,j<rows.length)→
  ∃ W L c' y5 y6 ch',ko [5] (ap 5) y55 (js.map dI) (sl P rows fi c x5 x6) ch=some (.nx (sl P rows fi c' y5 y6) ch')/\Pl ch' fi W L/\Fnd rows B L/\ch.length<=ch'.length/\(∀ k,k<ch.length->k≠fi->ch'[k]?=ch[k]?)∧tot found<=tot L/\(c'=true->c=true∨tot found<tot L)/\(c'=false->c=false/\L=found/\∀ j∈js,∀ l,found[j]?=some l->nw rows found j=l)
 | [],refs,found,c,x5,x6,ch,pl,F,_=>⟨refs,found,c,x5,x6,ch,rfl,pl,F,nL _,fun _ _ _=>rfl,nL _,.inl,fun h=>⟨h,rfl,fun j hj=>by cases hj⟩⟩
 | j::js,refs,found,c,x5,x6,ch,pl,F,hj=>by
  have hjl:=hj j (.head _);have hr:rows[j]?=some rows[j]:=by simp [hjl]
  have hlt:j<found.length:=by rw [F.len];exact hjl
  have hl:found[j]?=some found[j]:=by simp [hlt]
  have hs:∀ l∈found,l.length<=12:=fun l hl=>by obtain ⟨i,h⟩:=List.getElem?_of_mem hl;exact qc7 (F.short h) hb
  obtain ⟨Z,found1,c1,ch1,e1,pl1,le1,kp1,q1⟩:=yL (P:=P) pl hr hl hs (fun k O=>by rw [F.len];exact hO j _ k hr O) c x6
  have F1:Fnd rows B found1:=by
   rcases q1 with ⟨_,rfl,_⟩ | ⟨_,rfl,_⟩
   . exact F
   . exact F.step hB hjl
  obtain ⟨refs2,U,c2,y5,y6,ch2,e2,pl2,F2,le2,kp2,t2,q2,q3⟩:=pass hB hO hb js Z found1 c1 (some (.dat (dI j))) (some (.ref ch.length)) ch1 pl1 F1 fun k O=>hj k (.tail _ O)
  refine ⟨refs2,U,c2,y5,y6,ch2,?_,pl2,F2,qc7 le1 le2,fun k O hf=>(kp2 k (qb7 O le1) hf).trans (kp1 k O hf),?_,?_,?_⟩
  . rw [qa3,jT (δ2:=sl P rows fi c1 (some (.dat (dI j))) (some (.ref ch.length))) (show 5<7 by decide) e1];exact e2
  . rcases q1 with ⟨_,rfl,_⟩ | ⟨ne,rfl,_⟩
    . exact t2
    . exact qc7 (qh8 (F.more hl ne)) t2
  . intro h;rcases q1 with ⟨_,rfl,rfl⟩ | ⟨ne,rfl,_⟩
    . exact q2 h
    . exact .inr (qb7 (F.more hl ne) t2)
  . intro h;obtain ⟨h1,h2,h3⟩:=q3 h;rcases q1 with ⟨q,rfl,rfl⟩ | ⟨ne,rfl,rfl⟩
    . refine ⟨h1,h2,fun k O l Y=>?_⟩;rcases qb2.mp O with rfl | O
      . rw [hl] at Y;cases Y;exact q
      . exact h3 k O l Y
    . cases h1
theorem loop (hB:∀ (i:Nat) (r:Rw) (b:Str),rows[i]?=some r->b∈r.reads->b∈B) (hO:∀ (i:Nat) (r:Rw) (j:Nat),rows[i]?=some r->j∈r.outs i->j<rows.length) (hb:B.length<=12) (hn:rows.length<=1000) :
  ∀ (m:Nat) (refs:List Nat) (found:List (List Str)) (x5 x6:Option CV) (ch:CH),Pl ch fi refs found->Fnd rows B found->rows.length*B.length+2<=m+tot found→
  ∃ W q y5 y6 ch',cU z79 z55 m (sl P rows fi true x5 x6) ch=some (.nx (sl P rows fi false y5 y6) ch')/\Pl ch' fi W q/\Fnd rows B q/\Fix rows q/\ch.length<=ch'.length/\(∀ k,k<ch.length->k≠fi->ch'[k]?=ch[k]?)
 | 0,refs,found,x5,x6,ch,pl,F,hm=>by have:=F.tot_le;lia
 | m+1,refs,found,x5,x6,ch,pl,F,hm=>by
  obtain ⟨O,L,c1,y5,y6,ch1,e1,pl1,F1,Y,kp1,t1,q1,q2⟩:=pass (P:=P) hB hO hb ((qb6 rows.length).map fun i=>rows.length-1-i) refs found false x5 x6 ch pl F fun j hj=>by obtain ⟨i,hi,rfl⟩:=qd8.mp hj;have:=qd0.mp hi;lia
  have hb1:z55 (sl P rows fi true x5 x6) ch=some (.nx (sl P rows fi c1 y5 y6) ch1):=by unfold z55;rw [aA (δ1:=sl P rows fi false x5 x6) (ch1:=ch) (aV rfl)];show (tN [.int (((rows.map Rw.d).length:Int)-1),.int (-1),.int (-1)]).bind _=_;rw [qa2,ue hn,qa0];exact e1
  rw [kX (ch1:=ch) rfl hb1];cases c1 with
  | true =>
   rcases q1 rfl with h | h
   . cases h
   . obtain ⟨Z,U,z5,z6,ch2,e2,pl2,F2,x2,le2,kp2⟩:=loop hB hO hb hn m O L y5 y6 ch1 pl1 F1 (by lia);exact ⟨Z,U,z5,z6,ch2,e2,pl2,F2,x2,qc7 Y le2,fun k hk hf=>(kp2 k (qb7 hk Y) hf).trans (kp1 k hk hf)⟩
  | false =>
   obtain ⟨_,rfl,q3⟩:=q2 rfl
   have hm2:∃ m',m=m'+1:=by have:=F1.tot_le;exact ⟨m-1,by lia⟩
   obtain ⟨m',rfl⟩:=hm2;refine ⟨O,L,y5,y6,ch1,i4 rfl,pl1,F1,fun i l hl=>?_,Y,kp1⟩;have hi:i<rows.length:=by rw [<- F1.len];exact (gX hl).1
   exact q3 i (qd8.mpr ⟨rows.length-1-i,qd0.mpr (by lia),by lia⟩) l hl
end
theorem Db (δ:Sl) (ch:CH):q28 δ ch=some (.ref ch.length,ch++[.lst []]):=by unfold q28 eN;rw [qF];show (((some []).bind mkL).bind _)=_;rw [qa0,d6 (by simp)];rfl
theorem pB:∀ (ds:List Dt) (ch:CH),il [0] (ap 0) bd q28 [none] ds ch=some (((qb6 ds.length).map fun k=>ch.length+k).map CV.ref,ch++qf8 ds.length (.lst []))
 | [],ch=>by simp [il]
 | d::ds,ch=>by
  unfold il ap;rw [qa0];show ((q28 (mgS [0] [none] ((lo [none] ch).set 0 (some (.leaf d)))) ch).bind fun p=>(il [0] (ap 0) bd q28 [none] ds p.2).map fun q=>(p.1::q.1,q.2))=_;rw [Db,qa0];dsimp only;rw [pB ds (ch++[CO.lst []]),qg0];simp only [qc8,qz3,qa3,qc0,Nat.add_zero,qb8,qg2,List.replicate_succ,qh4,za6];congr 3;refine qo6 fun k _=>?_
  simp only [Function.comp_apply];congr 1;lia
variable {c s:Dt} {rows:List Rw}
theorem ui {B:List Str} (hB:∀ (i:Nat) (r:Rw) (b:Str),rows[i]?=some r->b∈r.reads->b∈B) (hO:∀ (i:Nat) (r:Rw) (j:Nat),rows[i]?=some r->j∈r.outs i->j<rows.length) (Y:B.length<=12) (W:rows.length<=1000) (ch:CH) :
  ∃ fi refs found ch',y40 [.dat (.tup [c,s,dR rows])] ch=some (.ref fi,ch')/\Pl ch' fi refs found/\Fnd rows B found/\Fix rows found/\ch.length<=fi/\(∀ k,k<ch.length->ch'[k]?=ch[k]?):=by
 have Z:((qb6 rows.length).map fun k=>ch.length+k).length=rows.length:=by simp
 have U:Pl (ch++qf8 rows.length (.lst [])++[.lst (((qb6 rows.length).map fun k=>ch.length+k).map CV.ref)]) (ch.length+rows.length) ((qb6 rows.length).map fun k=>ch.length+k) (rows.map fun _=>[]):=by
  refine ⟨?_,by simp,fun h=>?_,fun k r l h1 h2=>?_⟩
  . rw [qd6 (by simp)];simp
  . obtain ⟨k,O,e⟩:=qd8.mp h;have:=qd0.mp O;lia
  . rw [qb1] at h1 h2;obtain ⟨k',L,rfl⟩:=mS h1;obtain ⟨w,_,rfl⟩:=mS h2;have q:=(gX L).1;rw [qh3] at q;rw [qt4 q] at L;cases L;rw [qh4,qd6 (by lia),Nat.add_sub_cancel_left,qa8 (by simp;exact q),qm4,if_pos q];rfl
 have hB12:rows.length*B.length<=1000*12:=Nat.mul_le_mul W Y;obtain ⟨refs,found,y5,y6,ch',e,pl,F,x,le,kp⟩:=loop (P:=.tup [c,s,dR rows]) hB hO Y W 100000 _ _ none none _ U Fnd.start (by lia);refine ⟨_,refs,found,ch',?_,pl,F,x,by lia,fun k O=>?_⟩
 . unfold y40;refine ic ?_;have s1:aI 1 (eD (toD (d2 aB (vB 0) (kD (.int 2))))) [some (.dat (.tup [c,s,dR rows])),none,none,none,none,none,none] ch=some (.nx [some (.dat (.tup [c,s,dR rows])),some (.dat (dR rows)),none,none,none,none,none] ch):=aV (bV rfl)
   have s2:aI 2 (eD (toD (ah eF (aa (vL 0) ai)))) [some (.dat (.tup [c,s,dR rows])),some (.dat (dR rows)),none,none,none,none,none] ch=some (.nx [some (.dat (.tup [c,s,dR rows])),some (.dat (dR rows)),some (.dat (dW rows)),none,none,none,none] ch):=by refine aV (bV ?_);show ((eF [.tup [c,s,dR rows]]).map T.d)=_;rw [sy c s rows W];rfl
   have s3:aI 3 (oQ [none] (fIt (vL 1)) [0] (ap 0) bd q28) [some (.dat (.tup [c,s,dR rows])),some (.dat (dR rows)),some (.dat (dW rows)),none,none,none,none] ch=some (.nx [some (.dat (.tup [c,s,dR rows])),some (.dat (dR rows)),some (.dat (dW rows)),some (.ref (ch.length+rows.length)),none,none,none] (ch++qf8 rows.length (.lst [])++[.lst (((qb6 rows.length).map fun k=>ch.length+k).map CV.ref)])):=by refine aV ?_;show ((il [0] (ap 0) bd q28 [none] (rows.map Rw.d) ch).bind fun p=>if p.1.length<=qb0 then some (CV.ref p.2.length,p.2++[.lst p.1]) else none)=_;rw [pB,qa0,qa2,if_pos (small (by simp;lia))];simp
   show aL _ _ [some (.dat (.tup [c,s,dR rows])),none,none,none,none,none,none] ch=_;rw [aA s1,aA s2,aA s3,aA (δ1:=sl (.tup [c,s,dR rows]) rows (ch.length+rows.length) true none none) (aV rfl),aA e];exact pw rfl
 . rw [kp k (by simp;lia) (by lia),qh4,qa8 O]
variable {ch:CH} {n:Nat}
theorem pC:∀ l:List Str,cI (svD ch n) (l.map fun x=>CV.dat (.str x))=some (l.map .str)
 | []=>rfl
 | x::l=>by rw [qa3];unfold cI;rw [show svD ch n (.dat (.str x))=some (.str x) by cases n<;>(unfold svD;rfl),qa0,pC l];rfl
theorem pD:∀ {refs:List Nat} {found:List (List Str)},refs.length=found.length->(∀ (k r:Nat) (l:List Str),refs[k]?=some r->found[k]?=some l->ch[r]?=some (cS l))->cI (svD ch 3) (refs.map CV.ref)=some (found.map dS)
 | [],[],_,_=>rfl
 | [],_::_,h,_=>by cases h
 | _::_,[],h,_=>by cases h
 | r::refs,l::found,h,q=>by
  have e:svD ch 3 (.ref r)=some (dS l):=by unfold svD;rw [q 0 r l rfl rfl];show (cI (svD ch 2) _).map _=_;rw [pC];rfl
  rw [qa3];unfold cI;rw [e,qa0,pD (by simpa using h) fun k r l h1 h2=>q (k+1) r l (by simpa using h1) (by simpa using h2)];rfl
theorem qI {c s:Dt} {B:List Str} (U:∀ (i:Nat) (r:Rw) (b:Str),rows[i]?=some r->b∈r.reads->b∈B) (O:∀ (i:Nat) (r:Rw) (j:Nat),rows[i]?=some r->j∈r.outs i->j<rows.length) (L:B.length<=12) (W:rows.length<=1000) :
  ∃ found,jJ y40 [.tup [c,s,dR rows]]=some (.leaf (dF found))/\Fnd rows B found:=by
 obtain ⟨fi,refs,found,ch',e,q,F,_⟩:=ui (c:=c) (s:=s) U O L W [];refine ⟨found,?_,F⟩;unfold jJ;rw [qa3,qm3,e,qa0];show (svD ch' 4 (.ref fi)).map T.leaf=_;unfold svD;rw [q.top];show ((cI (svD ch' 3) _).map Dt.lst).map T.leaf=_;rw [pD q.len q.has];rfl
theorem yM (l:List Nat) (x:Nat):((l.map dI).any fun y=>eqF y (dI x))=decide (x∈l):=by
 rw [ql6,qy7];constructor
 . rintro ⟨y,L,e⟩;obtain ⟨z,q,rfl⟩:=qd8.mp L;have:(z:Int)=x:=by simpa [dI,eqF] using e
   have:z=x:=by lia
   subst this;exact decide_eq_true q
 . intro h;exact ⟨dI x,qd8.mpr ⟨x,of_decide_eq_true h,rfl⟩,by simp [dI,eqF]⟩
theorem kZ (l:List Nat):(l.map dI).all cC=true:=by rw [qm7];intro y q;obtain ⟨z,L,rfl⟩:=qd8.mp q;rfl
variable {neg:Bool}
theorem fW {l:List Nat} {x:Nat}:cf neg (dI x) (.lst (l.map dI))=some (.leaf (.bl (if neg then !decide (x∈l) else decide (x∈l)))):=by
 show gIn neg (dI x) (.lst (l.map dI))=_;unfold gIn
 have:inD (dI x) (.lst (l.map dI))=some (decide (x∈l)):=by show (if cC (dI x)&&(l.map dI).all cC then some ((l.map dI).any fun y=>eqF y (dI x)) else none)=_;rw [kZ,yM];rfl
 rw [this];rfl
noncomputable def kpD (k:Nat×List Str):Dt:=.tup [dI k.1,.tup (k.2.map .str)]
noncomputable def cdD (bg:List Str) (ks:List (Nat×List Str)):Dt:=.tup [.tup (bg.map .str),.tup (ks.map kpD)]
theorem sA (b:Dt) (ks:List (Nat×List Str)) (h:ks.length<=1000):q16 [.tup [b,.tup (ks.map kpD)]]=some (.lst ((ks.map (·.1)).map dI)):=by unfold q16;walk_at "k";rw [bP (h:=fun p:Nat×List Str=>dI p.1) fun p hp=>⟨_,rfl,rfl,by unfold q69 kpD;walk_at "k"⟩];walk_at "k";rw [d6 (by rw [qa2];lia),qc0];walk_at "k";rfl
noncomputable def cB (rows:List Rw) (i:Nat):List Nat:=match rows[i]? with
 | some r=>r.outs i
 | none=>[]
theorem ie (h:rows[i]?=some r):cB rows i=r.outs i:=by unfold cB;rw [h]
noncomputable def stay (rows:List Rw) (l:List Nat):List Nat:=l.filter fun i=>(cB rows i).any fun j=>decide (j∈l)
theorem jn:∀ bs:List Bool,lV (bs.map .bl)=some bs
 | []=>rfl
 | b::bs=>by rw [qa3];unfold lV;rw [jn bs];rfl
theorem wH (l js:List Nat):bL (ap 0) bd y33 [none,some (.leaf (.lst (l.map dI)))] (js.map dI)=some ((js.map fun j=>decide (j∈l)).map .bl):=by
 have:=bP (f:=dI) (h:=fun j=>Dt.bl (decide (j∈l))) (bb:=ap 0) (ft:=bd) (fe:=y33) (δ:=[none,some (.leaf (.lst (l.map dI)))]) (l:=js) fun j _=>⟨[some (.leaf (dI j)),some (.leaf (.lst (l.map dI)))],rfl,rfl,by unfold y33;show (cf false (dI j) (.lst (l.map dI))).map T.d=_;rw [fW];rfl⟩
 rw [this,qc0];rfl
theorem uj (rows:List Rw) (l:List Nat) (i:Nat) (hi:i<rows.length):y17 [some (.leaf (dI i)),some (.leaf (dW rows)),some (.leaf (.lst (l.map dI)))]=some ((cB rows i).any fun j=>decide (j∈l)):=by
 have q:rows[i]?=some rows[i]:=by simp [hi]
 have e:=nH q;have L:((rows[i]).outs i).length<=2:=Rw.outs_len _ _;unfold y17;rw [show dI i=Dt.int (i:Nat) from rfl];walk_at "k";rw [e];walk_at "k";rw [wH,qa0,d6 (by simp;lia)];walk_at "k";unfold lp;dsimp only;rw [jn,ie q];walk_at "k";simp [List.any_map,Function.comp_def]
theorem uk (rows:List Rw) (l:List Nat) (q:∀ i∈l,i<rows.length):bL (ap 0) y17 (vL 0) [none,some (.leaf (dW rows)),some (.leaf (.lst (l.map dI)))] (l.map dI)=some ((stay rows l).map dI):=cO fun i hi=>⟨_,rfl,uj rows l i (q i hi),fun _=>rfl⟩
variable {g:De->Option Out} {δ:De}
theorem Dc {c:De->Option Bool} {δ2:De} (h:c δ=some true) (q:g δ=some (.nx δ2)):dY c g (n+1) δ=dY c g n δ2:=by rw [dY,h,qa0,if_pos rfl,q];rfl
theorem Dg {c:De->Option Bool} (h:c δ=some false):dY c g (n+1) δ=some (.nx δ):=by rw [dY,h,qa0,if_neg (by decide)]
theorem k5 {l:List Nat} (h:i∈stay rows l):i∈l:=(qh0.mp h).1
theorem k6 (rows:List Rw) (l:List Nat):(stay rows l).length<=l.length:=qg3 _ _
theorem wI {l:List Nat} (h:¬ (stay rows l).length<l.length):stay rows l=l:=by have:=k6 rows l;exact (qo7 (p:=fun i=>(cB rows i).any fun j=>decide (j∈l))).eq_of_length (by unfold stay at *;lia)
theorem wJ (rows:List Rw) (l:List Nat) (L:∀ i∈l,i<rows.length) (W:l.length<=1000) (x1 x3 x4:Option T) :
  q33 [some (.leaf (dW rows)),x1,some (.leaf (.lst (l.map dI))),x3,x4]=some (.nx [some (.leaf (dW rows)),x1,some (.leaf (.lst ((stay rows l).map dI))),some (.leaf (.bl (decide ((stay rows l).length<l.length)))),some (.leaf (.lst ((stay rows l).map dI)))]):=by
 have O:=uk rows l L;have U:=k6 rows l
 have q:toD (aW [none,some 0,some 2] (fIt (vB 2)) (ap 0) y17 (vL 0)) [some (.leaf (dW rows)),x1,some (.leaf (.lst (l.map dI))),x3,x4]=some (.lst ((stay rows l).map dI)):=by show qx2 T.d ((bL (ap 0) y17 (vL 0) [none,some (.leaf (dW rows)),some (.leaf (.lst (l.map dI)))] (l.map dI)).bind mkL)=_;rw [O,qa0,d6 (by rw [qa2];lia)];rfl
 have s1:bX 4 (toT (toD (aW [none,some 0,some 2] (fIt (vB 2)) (ap 0) y17 (vL 0)))) [some (.leaf (dW rows)),x1,some (.leaf (.lst (l.map dI))),x3,x4]=some (.nx [some (.leaf (dW rows)),x1,some (.leaf (.lst (l.map dI))),x3,some (.leaf (.lst ((stay rows l).map dI)))]):=by unfold bX toT;rw [q];rfl
 unfold q33;rw [kP,s1,fV];walk_at "k";simp
theorem k7 (rows:List Rw) (hn:rows.length<=500) (x1:Option T):∀ (f:Nat) (l:List Nat) (x4:Option T),l.length<f->(∀ i∈l,i<rows.length)->l.Nodup->l.length<=1000→
  ∃ (E:List Nat) (O:Option T),dY q42 q33 (f+1) [some (.leaf (dW rows)),x1,some (.leaf (.lst (l.map dI))),some (.leaf (.bl true)),x4]=some (.nx [some (.leaf (dW rows)),x1,some (.leaf (.lst (E.map dI))),some (.leaf (.bl false)),O])/\stay rows E=E/\E.Nodup/\(∀ i∈E,i∈l)/\∀ C:Nat->Prop,(∀ i,C i->i∈l)->(∀ i,C i->∃ j∈cB rows i,C j)->∀ i,C i->i∈E
 | 0,l,x4,h,_,_,_=>absurd h (qh5 _)
 | f+1,l,x4,h,Z,W,h1=>by
  have hb:=wJ rows l Z h1 x1 (some (.leaf (.bl true))) x4;have hc:q42 [some (.leaf (dW rows)),x1,some (.leaf (.lst (l.map dI))),some (.leaf (.bl true)),x4]=some true:=rfl;have hs:=k6 rows l
  have keep:∀ C:Nat->Prop,(∀ i,C i->i∈l)->(∀ i,C i->∃ j∈cB rows i,C j)->∀ i,C i->i∈stay rows l:=fun C L q i hi=>by obtain ⟨j,hj,U⟩:=q i hi;refine qh0.mpr ⟨L i hi,?_⟩;rw [qy7];exact ⟨j,hj,decide_eq_true (L j U)⟩
  rw [Dc hc hb];by_cases z:(stay rows l).length<l.length
  . rw [decide_eq_true z];obtain ⟨E,O,e,g1,g2,g3,g4⟩:=k7 rows hn x1 f (stay rows l) (some (.leaf (.lst ((stay rows l).map dI)))) (by lia) (fun i hi=>Z i (k5 hi)) (W.sublist qo7) (by lia);exact ⟨E,O,e,g1,g2,fun i hi=>k5 (g3 i hi),fun C L q=>g4 C (keep C L q) q⟩
  . rw [decide_eq_false z];have Y:=wI z;refine ⟨stay rows l,_,Dg rfl,by rw [Y];exact Y,W.sublist qo7,fun i hi=>k5 hi,keep⟩
theorem qJ (rows:List Rw) (l:List Nat) (U:rows.length<=500) (L:∀ i∈l,i<rows.length) (q:l.Nodup) :
  ∃ E:List Nat,q21 [dW rows,.lst (l.map dI)]=some (.leaf (.lst (E.map dI)))/\stay rows E=E/\E.Nodup/\(∀ i∈E,i∈l)/\∀ C:Nat->Prop,(∀ i,C i->i∈l)->(∀ i,C i->∃ j∈cB rows i,C j)->∀ i,C i->i∈E:=by
 have h1:l.length<=rows.length:=by
  have:=bU q (m:=qb6 rows.length) fun x O=>qd0.mpr (L x O)
  simpa using this
 obtain ⟨E,W,e,g⟩:=k7 rows U (some (.leaf (.lst (l.map dI)))) 99999 l none (by lia) L q (by lia);refine ⟨E,?_,g⟩;unfold q21;walk_at "k";rw [show (100000:Nat)=99999+1 from rfl,e];walk_at "k"
noncomputable def kI (j:Nat):Key:=.inl (j:Int)
variable {a j:Nat}
theorem qK (z:kI a=kI j):a=j:=by unfold kI at z;have:=qp4.inj z;lia
noncomputable def cK (seen:List Nat):CO:=.dK (seen.map fun j=>(kI j,.dat (.bl true)))
noncomputable def cL (left:List Nat):CO:=.lst (left.map fun j=>.dat (dI j))
theorem nI:∀ l:List Nat,dats ((l.map fun j=>(kI j,CV.dat (.bl true))).map (·.2))=some (l.map fun _=>Dt.bl true)
 | []=>rfl
 | j::l=>by have:=nI l;simp only [qa3,dats] at this ⊢;rw [this];rfl
theorem sB:∀ l:List Nat,dats (l.map fun j=>CV.dat (dI j))=some (l.map dI)
 | []=>rfl
 | j::l=>by have:=sB l;simp only [qa3,dats] at this ⊢;rw [this];rfl
theorem wK:∀ l:List Nat,(l.map fun j=>kI j).zip (l.map fun _=>Dt.bl true)=l.map fun j=>(kI j,.bl true)
 | []=>rfl
 | j::l=>by simp only [qa3,List.zip_cons_cons,wK l]
theorem tv_K (seen:List Nat):tvO (cK seen)=some (.dct (seen.map fun j=>(kI j,.bl true))):=by unfold tvO cK;dsimp only;rw [nI,qg0,qc0];congr 2;exact wK seen
theorem tv_L (left:List Nat):tvO (cL left)=some (.lst (left.map dI)):=by unfold tvO cL;dsimp only;rw [sB];rfl
noncomputable def sG (ch0:CH) (P C:Dt) (kept:List Nat) (rows:List Rw) (E:List Nat) (h:Nat):Sl:=[some (.dat P),some (.dat C),some (.dat (.lst (kept.map dI))),some (.dat (dW rows)),some (.dat (.lst (E.map dI))),some (.ref ch0.length),some (.dat (dI h))]
theorem eJ {δ:Sl} {d:Dt} (h:δ[i]?=some (some (.dat d))):vB i (lo δ ch)=some d:=by unfold vB;rw [wx h];rfl
theorem eh {δ:Sl} {d:Dt} (h:δ[i]?=some (some (.dat d))):vL i (lo δ ch)=some d:=by unfold vL;rw [wx h]
variable {ch0:CH} {P C:Dt} {E w:List Nat} {h:Nat}
theorem sG5 {kept:List Nat}:vB 5 (lo (sG ch0 P C kept rows E h) (ch0++[cL w]))=some (.lst (w.map dI)):=by
 have h1:((ch0++[cL w])[ch0.length]?).bind tvO=some (.lst (w.map dI)):=by rw [gR (nL _),zb0];exact tv_L w
 have e:(lo (sG ch0 P C kept rows E h) (ch0++[cL w]))[5]?=some (some (.lst (w.map dI))):=by unfold lo sG;rw [loA,loA,loA,loA,loA,loA,if_neg qg5,h1];rfl
 unfold vB;rw [e];rfl
theorem ul {kept:List Nat}:q32 (sG ch0 P C kept rows E h) (ch0++[cL w])=some (!decide (h∈w),(ch0++[cL w])):=by unfold q32;refine i3 ?_;unfold tB2 d2;rw [sG5,eJ (d:=dI h) rfl];show ((cf true (dI h) (.lst (w.map dI))).bind asB)=_;rw [fW];rfl
variable {fa fb:De->Option Dt} {x y:Dt}
theorem cM {g:Dt->Dt->Option T} (h1:fa δ=some x) (h2:fb δ=some y):d2 g fa fb δ=g x y:=by unfold d2;rw [h1,h2];rfl
theorem aC {f:De->Option T} {t:T} (h:f δ=some t):toD f δ=some t.d:=by unfold toD;rw [h];rfl
variable {bb:Dt->De->Option De} {fe:De->Option Dt} {ds:List Dt}
theorem cz {src:List (Option Nat)} {fi:De->Option (List Dt)} {ft:De->Option Bool} {ys:List Dt} (h1:fi δ=some ds) (h2:bL bb ft fe (dC src δ) ds=some ys) (h3:ys.length<=1000000):aW src fi bb ft fe δ=some (.lst ys):=by unfold aW;rw [h1,qa0,h2,qa0,if_pos (small h3)]
variable {f:De->Option Dt}
theorem k8 (h:f δ=some x) (h2:itD x=some ds):fIt f δ=some ds:=by unfold fIt;rw [h];exact h2
theorem yN (hE:stay rows E=E) (hl:∀ i∈E,i<rows.length) (L:h∈E):∃ j,j∈cB rows h/\j∈E/\∀ (ch0:CH) (P C:Dt) (kept:List Nat) (ch:CH),toD (d2 aB (toD (aW [none,some 4] (fIt (toD (d2 aB (vB 3) (vB 6)))) (ap 0) q20 (vL 0))) (kD (.int 0))) (lo (sG ch0 P C kept rows E h) ch)=some (dI j):=by
 obtain ⟨r0,O⟩:∃ r0,rows[h]?=some r0:=⟨rows[h]'(hl h L),by simp [hl h L]⟩;rw [<- hE] at L;obtain ⟨_,q⟩:=qh0.mp L;obtain ⟨j0,Z,W⟩:=qy7.mp q
 have Y:(r0.outs h).filter (fun j=>decide (j∈E))≠[]:=fun z=>by have:j0∈(r0.outs h).filter (fun j=>decide (j∈E)):=qh0.mpr ⟨by rw [<- ie O];exact Z,W⟩;rw [z] at this;cases this
 have hc:bL (ap 0) q20 (vL 0) [none,some (.leaf (.lst (E.map dI)))] ((r0.outs h).map dI)=some (((r0.outs h).filter fun j=>decide (j∈E)).map dI):=cO fun j _=>⟨[some (.leaf (dI j)),some (.leaf (.lst (E.map dI)))],rfl,by unfold q20;show ((cf false (dI j) (.lst (E.map dI))).bind asB)=_;rw [fW];rfl,fun _=>rfl⟩
 have hl2:((r0.outs h).filter fun j=>decide (j∈E)).length<=2:=qc7 (qg3 _ _) (Rw.outs_len _ _);cases U:(r0.outs h).filter (fun j=>decide (j∈E)) with
 | nil=>exact absurd U Y
 | cons j r =>
  have hj:j∈(r0.outs h).filter (fun j=>decide (j∈E)):=by rw [U];exact .head _
  obtain ⟨k1,k2⟩:=qh0.mp hj;refine ⟨j,by rw [ie O];exact k1,of_decide_eq_true k2,fun ch0 P C kept ch=>?_⟩;have a1:toD (d2 aB (vB 3) (vB 6)) (lo (sG ch0 P C kept rows E h) ch)=some (.tup ((r0.outs h).map dI)):=aC (t:=.leaf (.tup ((r0.outs h).map dI))) ((cM (eJ (d:=dW rows) rfl) (eJ (d:=dI h) rfl)).trans (nH O));have a2:=aC (cz (src:=[none,some 4]) (bb:=ap 0) (ft:=q20) (fe:=vL 0) (k8 a1 rfl) (show bL (ap 0) q20 (vL 0) (dC [none,some 4] (lo (sG ch0 P C kept rows E h) ch)) ((r0.outs h).map dI)=some (((r0.outs h).filter fun j=>decide (j∈E)).map dI) from hc) (by rw [qa2];lia));rw [U] at a2
  exact aC (t:=.leaf (dI j)) ((cM a2 (show kD (.int 0) (lo (sG ch0 P C kept rows E h) ch)=some (.int ((0:Nat):Int)) from rfl)).trans (by show aB (.lst ((j::r).map dI)) (.int ((0:Nat):Int))=_;rw [jA,bY];rfl))
structure Chn (rows:List Rw) (E w:List Nat) (h:Nat):Prop where
 nd:w.Nodup
 all:∀ i∈w++[h],i∈E
 ed:∀ (k a b:Nat),(w++[h])[k]?=some a->(w++[h])[k+1]?=some b->b∈cB rows a
theorem Chn.step (c:Chn rows E w h) (Y:h∉w) (Z:j∈cB rows h) (O:j∈E):Chn rows E (w++[h]) j:=by
 refine ⟨qn8.mpr ⟨c.nd,by simp,fun a W b U e=>Y (by rw [qa9.mp U] at e;exact e▸W)⟩,fun i hi=>?_,fun k a b h1 h2=>?_⟩
 . rcases qe0.mp hi with hi | hi
   . exact c.all i hi
   . rw [qa9.mp hi];exact O
 . have L:k+1<(w++[h]++[j]).length:=(gX h2).1;simp at L;have q:k<(w++[h]).length:=by simp;lia
   rw [qa8 q] at h1;by_cases z:k+1<(w++[h]).length
   . rw [qa8 z] at h2;exact c.ed k a b h1 h2
   . have e:k=w.length:=by simp at z;lia
     subst e;rw [gR (nL _),zb0] at h1;rw [qd6 (by simp)] at h2;simp at h1 h2;subst h1 h2;exact Z
theorem um {kept:List Nat} (O:w.length<1000) (L:∀ (ch0:CH) (P C:Dt) (kept:List Nat) (ch:CH),toD (d2 aB (toD (aW [none,some 4] (fIt (toD (d2 aB (vB 3) (vB 6)))) (ap 0) q20 (vL 0))) (kD (.int 0))) (lo (sG ch0 P C kept rows E h) ch)=some (dI j)) :
  y31 (sG ch0 P C kept rows E h) (ch0++[cL w])=some (.nx (sG ch0 P C kept rows E j) (ch0++[cL (w++[h])])):=by
 have s1:gF (eV 5) (eD (vL 6)) (sG ch0 P C kept rows E h) (ch0++[cL w])=some (.nx (sG ch0 P C kept rows E h) (ch0++[cL (w++[h])])):=by have q:eV 5 (sG ch0 P C kept rows E h) (ch0++[cL w])=some (.ref ch0.length,(ch0++[cL w])):=rfl;have e2:eD (vL 6) (sG ch0 P C kept rows E h) (ch0++[cL w])=some (.dat (dI h),(ch0++[cL w])):=bV (eh rfl);unfold gF;rw [q,qa0];dsimp only;rw [e2,qa0,show (ch0++[cL w])[ch0.length]?=some (cL w) by simp];show (if _ then _ else none)=_;rw [if_pos (fq (by rw [qa2];lia))];unfold cL;rw [qf5];simp
 unfold y31;rw [aA s1];exact aV (v:=.dat (dI j)) (bV (L ch0 P C kept _))
theorem mD {ch0:CH} {P C:Dt} {kept E:List Nat} {rows:List Rw} (O:stay rows E=E) (U:∀ i∈E,i<rows.length) (hn:E.length<=500):∀ (f:Nat) (w:List Nat) (h:Nat),Chn rows E w h->E.length<f+w.length->∃ q h',cU q32 y31 f (sG ch0 P C kept rows E h) (ch0++[cL w])=some (.nx (sG ch0 P C kept rows E h') (ch0++[cL q]))/\Chn rows E q h'/\h'∈q
 | 0,w,h,c,Z=>by
  have:=bU c.nd fun i hi=>c.all i (qe1 _ hi)
  lia
 | f+1,w,h,c,Z=>by
  have L:=ul (ch0:=ch0) (P:=P) (C:=C) (kept:=kept) (E:=E) (w:=w) (rows:=rows) (h:=h);have hwl:=bU c.nd fun i hi=>c.all i (qe1 _ hi)
  by_cases z:h∈w
  . rw [decide_eq_true z] at L;exact ⟨w,h,i4 L,c,z⟩
  . rw [decide_eq_false z] at L;obtain ⟨j,W,j2,Y⟩:=yN O U (c.all h (by simp));obtain ⟨q,h',e,c',z'⟩:=mD (ch0:=ch0) (P:=P) (C:=C) (kept:=kept) O U hn f (w++[h]) j (c.step z W j2) (by simp;lia);exact ⟨q,h',by rw [kX L (um (by lia) Y),e],c',z'⟩
theorem cq {F:List Dt->Option T} (h:f δ=some x):ah F (aa f ai) δ=F [x]:=by unfold ah aa ai;rw [h];rfl
theorem ej {F:List Dt->Option T} {g:De->Option Dt} (h:f δ=some x) (h2:g δ=some y):ah F (aa f (aa g ai)) δ=F [x,y]:=by unfold ah aa ai;rw [h,h2];rfl
theorem wL {g:Dt->List Dt->Option T} {fo:De->Option Dt} {o:Dt} (h:fo δ=some o) (h2:f δ=some x):fQ g fo (aa f ai) δ=g o [x]:=by unfold fQ aa ai;rw [h,h2];rfl
structure Ring (rows:List Rw) (U:Nat->Prop) (R:List Nat):Prop where
 ne:R≠[]
 nd:R.Nodup
 all:∀ i∈R,U i
 ed:∀ (k a b:Nat),R[k]?=some a->R[k+1]?=some b->b∈cB rows a
 turn:∀ a b:Nat,R[R.length-1]?=some a->R[0]?=some b->b∈cB rows a
theorem Chn.ring (c:Chn rows E w h) (hi:w[i]?=some h):Ring rows (· ∈ E) (w.drop i):=by
 have O:i<w.length:=(gX hi).1;refine ⟨fun z=>?_,c.nd.sublist (List.drop_sublist _ _),fun j L=>c.all j (qe1 _ (List.mem_of_mem_drop L)),fun k a b h1 h2=>?_,fun a b h1 h2=>?_⟩
 . have:=congrArg qi6 z;simp at this;lia
 . rw [List.getElem?_drop] at h1 h2;have q:=(gX h2).1;exact c.ed (i+k) a b (by rw [qa8 (by lia)];exact h1) (by rw [show i+k+1=i+(k+1) by lia,qa8 q];exact h2)
 . rw [List.getElem?_drop] at h1 h2;rw [Nat.add_zero,hi] at h2;cases h2;rw [qy5,show i+(w.length-i-1)=w.length-1 by lia] at h1;refine c.ed (w.length-1) a h (by rw [qa8 (by lia)];exact h1) ?_;rw [show w.length-1+1=w.length by lia,gR (nL _),zb0];rfl
theorem sC (w:List Nat):lv (w.map dI)=some (w.map fun j:Nat=>(j:Int)):=by have:=kL (w.map fun j:Nat=>(j:Int));rw [qc0] at this;exact this
theorem wM (O:h∈w) (U:w.length<=1000):∃ i:Nat,w[i]?=some h/\da (.lst (w.map dI)) [dI h]=some (.leaf (.int (i:Nat))):=by
 have L:(h:Int)∈w.map fun j:Nat=>(j:Int):=qd8.mpr ⟨h,O,rfl⟩
 have q:=qx1.mpr L;refine ⟨(w.map fun j:Nat=>(j:Int)).idxOf (h:Int),?_,?_⟩
 . have e:=List.getElem_idxOf q;rw [qa2] at q;rw [List.getElem_map] at e;rw [gQ q];congr 1;lia
 . show ((lv (w.map dI)).bind fun ns=>if (h:Int)∈ns/\ns.length<=100000 then some (T.leaf (.int (ns.idxOf (h:Int):Nat))) else none)=_;rw [sC,qa0,if_pos ⟨L,by simp;lia⟩]
theorem wN {l:List Dt} {k:Nat}:gSl (.lst l) (some ((k:Nat):Int)) none=some (.lst (l.drop k)):=by
 have e:=HT.Dk l.length 0 k;show some (T.lst (kj l (some ((k:Nat):Int)) none))=_;unfold kj;rw [e,HT.Cq];by_cases z:k<=l.length
 . rw [Nat.min_eq_left z,qz4 (by simp)]
 . rw [Nat.min_eq_right (by lia),qz6 (nL _),qz6 (by lia)];simp
abbrev pcD (c s:Dt) (rows:List Rw):Dt:=.tup [c,s,dR rows]
abbrev kcD (b:Dt) (ks:List (Nat×List Str)):Dt:=.tup [b,.tup (ks.map kpD)]
theorem uo (kept:List Nat) (n:Nat):bL (ap 0) z24 (vL 0) [none,some (.leaf (.lst (kept.map dI)))] ((qb6 n).map dI)=some (((qb6 n).filter fun i=>!decide (i∈kept)).map dI):=cO fun j _=>⟨[some (.leaf (dI j)),some (.leaf (.lst (kept.map dI)))],rfl,by unfold z24;show ((cf true (dI j) (.lst (kept.map dI))).bind asB)=_;rw [fW];rfl,fun _=>rfl⟩
theorem gU (n:Nat) (h:n<=1000000):dv [.int n]=some ((qb6 n).map dI):=by rw [Bf (by lia)];unfold dZ dI;simp
variable {b:Dt} {ks:List (Nat×List Str)}
theorem yO {c:Dt} {rows:List Rw} (hn:rows.length<=500) (hkl:ks.length<=1000) (ch0:CH) :
  (z16 [.dat (pcD c s rows),.dat (kcD b ks)] ch0=some (.dat .non,ch0)/\∀ C:Nat->Prop,(∀ i,C i->i<rows.length/\i∉ks.map (·.1))->(∀ i,C i->∃ j∈cB rows i,C j)->∀ i,¬ C i)∨
  ∃ (R w:List Nat),Ring rows (fun i=>i<rows.length/\i∉ks.map (·.1)) R/\R.length<=rows.length/\z16 [.dat (pcD c s rows),.dat (kcD b ks)] ch0=some (.ref (ch0.length+2),ch0++[cL w,cL R,.tup [.dat (.str "ring"),.ref (ch0.length+1)]]):=by
 have ek:=sA b ks hkl;have ew:=sy c s rows (by lia);generalize ks.map (·.1)=kept at ek ⊢;have nd0:((qb6 rows.length).filter fun i=>!decide (i∈kept)).Nodup:=List.nodup_range.sublist qo7
 have q:∀ i,i∈(qb6 rows.length).filter (fun i=>!decide (i∈kept))↔i<rows.length/\i∉kept:=fun i=>by rw [qh0,qd0];simp
 obtain ⟨E,ee,hE,ndE,L,Y⟩:=qJ rows ((qb6 rows.length).filter fun i=>!decide (i∈kept)) hn (fun i hi=>((q i).mp hi).1) nd0
 have lE:E.length<=rows.length:=by
  have:=bU ndE (m:=qb6 rows.length) fun x hx=>qd0.mpr ((q x).mp (L x hx)).1
  simpa using this
 have s1:aI 2 (eD (toD (ah q16 (aa (vL 1) ai)))) [some (.dat (pcD c s rows)),some (.dat (kcD b ks)),none,none,none,none,none] ch0=some (.nx [some (.dat (pcD c s rows)),some (.dat (kcD b ks)),some (.dat (.lst (kept.map dI))),none,none,none,none] ch0):=by refine aV (v:=.dat (.lst (kept.map dI))) (bV ?_);show (q16 [kcD b ks]).map T.d=_;rw [show q16 [kcD b ks]=_ from ek];rfl
 have s2:aI 3 (eD (toD (ah eF (aa (vL 0) ai)))) [some (.dat (pcD c s rows)),some (.dat (kcD b ks)),some (.dat (.lst (kept.map dI))),none,none,none,none] ch0=some (.nx [some (.dat (pcD c s rows)),some (.dat (kcD b ks)),some (.dat (.lst (kept.map dI))),some (.dat (dW rows)),none,none,none] ch0):=by refine aV (v:=.dat (dW rows)) (bV ?_);show (eF [pcD c s rows]).map T.d=_;rw [show eF [pcD c s rows]=_ from ew];rfl
 have s3:aI 4 (eD (toD (ah q21 (aa (vL 3) (aa (toD (aW [none,some 2] (cZ dv (aa (toD (ah bD (aa (vB 3) ai))) ai)) (ap 0) z24 (vL 0))) ai))))) [some (.dat (pcD c s rows)),some (.dat (kcD b ks)),some (.dat (.lst (kept.map dI))),some (.dat (dW rows)),none,none,none] ch0=some (.nx [some (.dat (pcD c s rows)),some (.dat (kcD b ks)),some (.dat (.lst (kept.map dI))),some (.dat (dW rows)),some (.dat (.lst (E.map dI))),none,none] ch0):=by
  refine aV (v:=.dat (.lst (E.map dI))) (bV ?_);show toD (ah q21 (aa (vL 3) (aa (toD (aW [none,some 2] (cZ dv (aa (toD (ah bD (aa (vB 3) ai))) ai)) (ap 0) z24 (vL 0))) ai))) [some (.leaf (pcD c s rows)),some (.leaf (kcD b ks)),some (.leaf (.lst (kept.map dI))),some (.leaf (dW rows)),none,none,none]=_
  have e1:cZ dv (aa (toD (ah bD (aa (vB 3) ai))) ai) [some (.leaf (pcD c s rows)),some (.leaf (kcD b ks)),some (.leaf (.lst (kept.map dI))),some (.leaf (dW rows)),none,none,none]=some ((qb6 rows.length).map dI):=by unfold dW;walk_at "k";rw [List.length_mapIdx,gU _ (by lia)]
  have a2:=aC (cz (src:=[none,some 2]) (bb:=ap 0) (ft:=z24) (fe:=vL 0) e1 (uo kept rows.length) (by rw [qa2];exact qc7 (qg3 _ _) (by simp;lia)))
  exact aC (t:=.leaf (.lst (E.map dI))) ((ej (x:=dW rows) rfl a2).trans ee)
 have hF:∀ r,aL (dh (tD (tB2 (gEq false) (toD (ah bD (aa (vB 4) ai))) (kD (.int 0)))) (cH (eD (kD .non))) cD)
  (aL (aI 5 (eN (dE ai)))
  (aL (aI 6 (eD (toD (d2 aB (vB 4) (kD (.int 0))))))
  (aL (cU q32 y31 100000)
  (cH (eT (aw (eD (kD (.str "ring"))) (aw (eN (vSl (vB 5) (dL (toD (fQ da (vB 5) (aa (vB 6) ai)))) fC)) bQ))))))) [some (.dat (pcD c s rows)),some (.dat (kcD b ks)),some (.dat (.lst (kept.map dI))),some (.dat (dW rows)),some (.dat (.lst (E.map dI))),none,none] ch0=some (.rt r.1 r.2)->z16 [.dat (pcD c s rows),.dat (kcD b ks)] ch0=some r:=fun r h=>by
  unfold z16;refine ic (c:=r.1) (ch':=r.2) ?_;show aL _ _ [some (.dat (pcD c s rows)),some (.dat (kcD b ks)),none,none,none,none,none] ch0=_;rw [aA s1,aA s2,aA s3];exact h
 have ht:tD (tB2 (gEq false) (toD (ah bD (aa (vB 4) ai))) (kD (.int 0))) [some (.dat (pcD c s rows)),some (.dat (kcD b ks)),some (.dat (.lst (kept.map dI))),some (.dat (dW rows)),some (.dat (.lst (E.map dI))),none,none] ch0=some (decide (((E.map dI).length:Int)=0),ch0):=i3 rfl;rw [qa2] at ht;by_cases O:E=[]
 . left;have U:tD (tB2 (gEq false) (toD (ah bD (aa (vB 4) ai))) (kD (.int 0))) [some (.dat (pcD c s rows)),some (.dat (kcD b ks)),some (.dat (.lst (kept.map dI))),some (.dat (dW rows)),some (.dat (.lst (E.map dI))),none,none] ch0=some (true,ch0):=by rw [ht];simp [O]
   refine ⟨hF (.dat .non,ch0) ?_,fun C c1 c2 i hi=>?_⟩
   . unfold aL;rw [iB U];rfl
   . have:=Y C (fun i hi=>(q i).mpr (c1 i hi)) c2 i hi;rw [O] at this;cases this
 . right;have U:tD (tB2 (gEq false) (toD (ah bD (aa (vB 4) ai))) (kD (.int 0))) [some (.dat (pcD c s rows)),some (.dat (kcD b ks)),some (.dat (.lst (kept.map dI))),some (.dat (dW rows)),some (.dat (.lst (E.map dI))),none,none] ch0=some (false,ch0):=by rw [ht];simp [O]
   obtain ⟨e0,W⟩:∃ e0,E[0]?=some e0:=⟨E[0]'(qt8.mpr O),by simp [qt8.mpr O]⟩;have me0:e0∈E:=qc9 W;have lE2:∀ i∈E,i<rows.length:=fun i hi=>((q i).mp (L i hi)).1
   have c0:Chn rows E [] e0:=⟨qo1,fun i hi=>by rw [qa9.mp hi];exact me0,fun k a b h1 h2=>by simp at h2⟩;obtain ⟨w,h,ew2,Z,hw⟩:=mD (ch0:=ch0) (P:=pcD c s rows) (C:=kcD b ks) (kept:=kept) hE lE2 (by lia) 100000 [] e0 c0 (by simp;lia);have wl:w.length<=E.length:=bU Z.nd fun i hi=>Z.all i (qe1 _ hi)
   obtain ⟨i,hi,ei⟩:=wM hw (by lia);have R:=Z.ring hi;refine ⟨w.drop i,w,⟨R.ne,R.nd,fun j hj=>(q j).mp (L j (R.all j hj)),R.ed,R.turn⟩,by simp;lia,hF (_,_) ?_⟩
   have t1:dh (tD (tB2 (gEq false) (toD (ah bD (aa (vB 4) ai))) (kD (.int 0)))) (cH (eD (kD .non))) cD [some (.dat (pcD c s rows)),some (.dat (kcD b ks)),some (.dat (.lst (kept.map dI))),some (.dat (dW rows)),some (.dat (.lst (E.map dI))),none,none] ch0=some (.nx [some (.dat (pcD c s rows)),some (.dat (kcD b ks)),some (.dat (.lst (kept.map dI))),some (.dat (dW rows)),some (.dat (.lst (E.map dI))),none,none] ch0):=by rw [gj U];rfl
   have t2:aI 5 (eN (dE ai)) [some (.dat (pcD c s rows)),some (.dat (kcD b ks)),some (.dat (.lst (kept.map dI))),some (.dat (dW rows)),some (.dat (.lst (E.map dI))),none,none] ch0=some (.nx [some (.dat (pcD c s rows)),some (.dat (kcD b ks)),some (.dat (.lst (kept.map dI))),some (.dat (dW rows)),some (.dat (.lst (E.map dI))),some (.ref ch0.length),none] (ch0++[cL []])):=by refine aV (v:=.ref ch0.length) ?_;unfold eN;rw [qF];show (((some []).bind mkL).bind _)=_;rw [qa0,d6 (by simp)];rfl
   have t3:aI 6 (eD (toD (d2 aB (vB 4) (kD (.int 0))))) [some (.dat (pcD c s rows)),some (.dat (kcD b ks)),some (.dat (.lst (kept.map dI))),some (.dat (dW rows)),some (.dat (.lst (E.map dI))),some (.ref ch0.length),none] (ch0++[cL []])=some (.nx (sG ch0 (pcD c s rows) (kcD b ks) kept rows E e0) (ch0++[cL []])):=by refine aV (v:=.dat (dI e0)) (bV (aC (t:=.leaf (dI e0)) ((cM (x:=.lst (E.map dI)) (y:=.int ((0:Nat):Int)) (eJ rfl) rfl).trans ?_)));rw [jA,bY,qb1,W];rfl
   rw [aA t1,aA t2,aA t3,aA ew2];refine pw ?_
   have v1:vSl (vB 5) (dL (toD (fQ da (vB 5) (aa (vB 6) ai)))) fC (lo (sG ch0 (pcD c s rows) (kcD b ks) kept rows E h) (ch0++[cL w]))=some (.lst ((w.drop i).map dI)):=by have m1:=aC ((wL (g:=da) (sG5 (ch0:=ch0) (P:=pcD c s rows) (C:=kcD b ks) (kept:=kept) (E:=E) (w:=w) (rows:=rows) (h:=h)) (eJ (i:=6) (d:=dI h) rfl)).trans ei);unfold vSl dL fC;rw [sG5,m1];show gSl (.lst (w.map dI)) (some ((i:Nat):Int)) none=_;rw [wN,zd5]
   have v2:eN (vSl (vB 5) (dL (toD (fQ da (vB 5) (aa (vB 6) ai)))) fC) (sG ch0 (pcD c s rows) (kcD b ks) kept rows E h) (ch0++[cL w])=some (.ref (ch0.length+1),ch0++[cL w,cL (w.drop i)]):=by unfold eN;rw [v1,qa0];show some (CV.ref (ch0++[cL w]).length,ch0++[cL w]++[CO.lst (((w.drop i).map dI).map CV.dat)])=_;unfold cL;simp [qc0,Function.comp_def]
   have v3:aw (eD (kD (.str "ring"))) (aw (eN (vSl (vB 5) (dL (toD (fQ da (vB 5) (aa (vB 6) ai)))) fC)) bQ) (sG ch0 (pcD c s rows) (kcD b ks) kept rows E h) (ch0++[cL w])=some ([.dat (.str "ring"),.ref (ch0.length+1)],ch0++[cL w,cL (w.drop i)]):=by unfold aw bQ;rw [show eD (kD (.str "ring")) (sG ch0 (pcD c s rows) (kcD b ks) kept rows E h) (ch0++[cL w])=some (.dat (.str "ring"),ch0++[cL w]) from rfl,qa0];dsimp only;rw [v2];rfl
   unfold eT;rw [v3,qa0];dsimp only;rw [if_pos (small (by simp))];simp
theorem jo (j:Nat):∀ seen:List Nat,(dM (seen.map fun j=>kI j) (seen.map fun _=>Dt.bl true) (kI j)).isSome=decide (j∈seen)
 | []=>rfl
 | a::seen=>by
  simp only [qa3,dM];by_cases h:a=j
  . subst h;rw [if_pos rfl];simp
  . have h':¬ j=a:=fun z=>h z.symm
    rw [if_neg (fun z=>h (qK z)),jo j seen];simp [h']
theorem jp (j:Nat):∀ seen:List Nat,j∉seen->iT (seen.map fun j=>(kI j,CV.dat (.bl true))) (kI j) (.dat (.bl true))=(seen++[j]).map fun j=>(kI j,.dat (.bl true))
 | [],_=>rfl
 | a::seen,h=>by
  have h1:¬ a=j:=fun z=>h (z▸.head _)
  simp only [qa3,List.cons_append];unfold iT;rw [if_neg (fun z=>h1 (qK z)),jp j seen fun z=>h (.tail _ z)]
theorem sE {seen:List Nat} (h:seen.Nodup):((seen.map fun j=>(kI j,CV.dat (.bl true))).map (·.1)).Nodup:=by rw [qc0,qj7,qr3];exact qw9 (fun {a b} (z:a≠b) e=>z (qK e)) h
noncomputable def kdD (K:List Nat):Dt:=.dct (K.map kI) (K.map fun _=>.bl true)
theorem pE (j:Nat) (K:List Nat):cf true (dI j) (kdD K)=some (.leaf (.bl (!decide (j∈K)))):=by unfold kdD;rw [C0];show some (T.leaf (.bl (!(dM (K.map kI) (K.map fun _=>Dt.bl true) (kI j)).isSome)))=_;rw [show (K.map kI)=K.map fun j=>kI j from rfl,jo]
noncomputable def sD (rows:List Rw) (K:List Nat) (st z l:Nat) (x5:Option Dt):Sl:=[some (.dat (dR rows)),some (.dat (kdD K)),some (.dat (dI st)),some (.ref z),some (.ref l),x5.map .dat]
variable {K:List Nat} {st z l:Nat} {x5:Option Dt}
theorem sD3 {seen:List Nat} (h:ch[z]?=some (cK seen)):vB 3 (lo (sD rows K st z l x5) ch)=some (kdD seen):=by
 have h1:(ch[z]?).bind tvO=some (.dct (seen.map fun j=>(kI j,.bl true))):=by rw [h];exact tv_K seen
 have e:(lo (sD rows K st z l x5) ch)[3]?=some (some (.dct (seen.map fun j=>(kI j,.bl true)))):=by unfold lo sD;rw [loA,loA,loA,loA,if_neg qg5,h1];rfl
 unfold vB;rw [e];show some (Dt.dct ((seen.map fun j=>(kI j,Dt.bl true)).map (·.1)) ((seen.map fun j=>(kI j,Dt.bl true)).map (·.2)))=_;unfold kdD;rw [qc0,qc0];rfl
variable {left:List Nat}
theorem sD4 (L:z≠l) (h:ch[l]?=some (cL left)):vB 4 (lo (sD rows K st z l x5) ch)=some (.lst (left.map dI)):=by
 have h1:(ch[l]?).bind tvO=some (.lst (left.map dI)):=by rw [h];exact tv_L left
 have e:(lo (sD rows K st z l x5) ch)[4]?=some (some (.lst (left.map dI))):=by unfold lo sD;rw [loA,loA,loA,loA,loA,if_neg qg5,if_neg (by simp;exact fun q=>L q.symm),h1];rfl
 unfold vB;rw [e];rfl
noncomputable def uq (K acc:List Nat) (j:Nat):List Nat:=if j∈K∨j∈acc then acc else acc++[j]
structure Hs (ch:CH) (z l:Nat) (seen left:List Nat):Prop where
 hs:ch[z]?=some (cK seen)
 hl:ch[l]?=some (cL left)
 ne:z≠l
theorem wO {seen:List Nat} (H:Hs ch z l seen left) (Y:seen.Nodup) (hs:seen.length<1000) (hl:left.length<1000) :
  (j=st->y2 (sD rows K st z l (some (dI j))) ch=some (.rt (.dat (.bl true)) ch))∧
  (j≠st->∃ ch',y2 (sD rows K st z l (some (dI j))) ch=some (.nx (sD rows K st z l (some (dI j))) ch')/\Hs ch' z l (uq K seen j) (if j∈K∨j∈seen then left else left++[j])/\ch'.length=ch.length/\∀ m,m≠z->m≠l->ch'[m]?=ch[m]?):=by
 have L:tD (tB2 (gEq false) (vB 5) (vB 2)) (sD rows K st z l (some (dI j))) ch=some (decide (((j:Nat):Int)=(st:Nat)),ch):=by refine i3 ?_;unfold tB2 d2;rw [eJ (i:=5) (d:=dI j) rfl,eJ (i:=2) (d:=dI st) rfl];rfl
 constructor
 . rintro rfl;rw [decide_eq_true rfl] at L;unfold y2 aL;rw [iB L];rfl
 . intro hj;rw [decide_eq_false (by lia)] at L
   have O:tD (m7 (tB2 (cf true) (vB 5) (vB 1)) (tB2 (cf true) (vB 5) (vB 3))) (sD rows K st z l (some (dI j))) ch=some (!decide (j∈K)&&!decide (j∈seen),ch):=by
    refine i3 ?_;rw [wv]
    have U:tB2 (cf true) (vB 5) (vB 1) (lo (sD rows K st z l (some (dI j))) ch)=some (!decide (j∈K)):=by unfold tB2 d2;rw [eJ (i:=5) (d:=dI j) rfl,eJ (i:=1) (d:=kdD K) rfl];show ((cf true (dI j) (kdD K)).bind asB)=_;rw [pE];rfl
    have a2:tB2 (cf true) (vB 5) (vB 3) (lo (sD rows K st z l (some (dI j))) ch)=some (!decide (j∈seen)):=by unfold tB2 d2;rw [eJ (i:=5) (d:=dI j) rfl,sD3 H.hs];show ((cf true (dI j) (kdD seen)).bind asB)=_;rw [pE];rfl
    rw [U];cases decide (j∈K)
    . show tB2 (cf true) (vB 5) (vB 3) (lo (sD rows K st z l (some (dI j))) ch)=_;rw [a2];rfl
    . rfl
   have e1:dh (tD (tB2 (gEq false) (vB 5) (vB 2))) (cH (eD (kD (.bl true)))) cD (sD rows K st z l (some (dI j))) ch=some (.nx (sD rows K st z l (some (dI j))) ch):=by rw [gj L];rfl
   have Z:z<ch.length:=(gX H.hs).1;have ll:l<ch.length:=(gX H.hl).1;unfold y2;rw [aA e1];by_cases q:j∈K∨j∈seen
   . have:(!decide (j∈K)&&!decide (j∈seen))=false:=by rcases q with q | q<;>simp [q]
     rw [this] at O;refine ⟨ch,by rw [gj O];rfl,?_,rfl,fun _ _ _=>rfl⟩;unfold uq;rw [if_pos q,if_pos q];exact H
   . have q1:j∉K:=fun z=>q (.inl z)
     have q2:j∉seen:=fun z=>q (.inr z)
     have:(!decide (j∈K)&&!decide (j∈seen))=true:=by simp [q1,q2]
     rw [this] at O
     have p1:iU (eV 3) (eD (vL 5)) (eD (kD (.bl true))) (sD rows K st z l (some (dI j))) ch=some (.nx (sD rows K st z l (some (dI j))) (ch.set z (cK (seen++[j])))):=by refine kT (v:=.dat (.bl true)) (ch1:=ch) (ch2:=ch) (ch3:=ch) (i:=z) (d:=dI j) (o:=cK seen) (bV rfl) (iq rfl) (bV (eh rfl)) H.hs ?_;unfold tI cK dI;show (if _ then _ else none)=_;rw [if_pos ⟨fq (by rw [qa2];lia),sE Y⟩,show (qp4 ((j:Nat):Int):Key)=kI j from rfl,jp j seen q2]
     have p2:gF (eV 4) (eD (vL 5)) (sD rows K st z l (some (dI j))) (ch.set z (cK (seen++[j])))=some (.nx (sD rows K st z l (some (dI j))) ((ch.set z (cK (seen++[j]))).set l (cL (left++[j])))):=by
      have h4:(ch.set z (cK (seen++[j])))[l]?=some (cL left):=by rw [gN H.ne];exact H.hl
      have f1:eV 4 (sD rows K st z l (some (dI j))) (ch.set z (cK (seen++[j])))=some (.ref l,ch.set z (cK (seen++[j]))):=iq rfl;have W:eD (vL 5) (sD rows K st z l (some (dI j))) (ch.set z (cK (seen++[j])))=some (.dat (dI j),ch.set z (cK (seen++[j]))):=bV (eh rfl);unfold gF;rw [f1,qa0];dsimp only;rw [W,qa0,h4];show (if _ then _ else none)=_;rw [if_pos (fq (by rw [qa2];lia))];unfold cL;rw [qf5];rfl
     refine ⟨(ch.set z (cK (seen++[j]))).set l (cL (left++[j])),by rw [iB O,aA p1];exact p2,?_,by simp,fun m h1 h2=>by rw [qi7 (ql2 h2),qi7 (ql2 h1)]⟩;unfold uq;rw [if_neg q,if_neg q];exact ⟨by rw [qi7 (ql2 H.ne),qd1 Z],by rw [qd1 (by simpa using ll)],H.ne⟩
theorem mE {rows:List Rw} {K js:List Nat} {st y N:Nat} (hN:N<=400) (hy:y≠z) (hy2:y≠l) (hj:∀ j∈js,j<N):∀ (rest done seen left:List Nat) (n:Nat) (x5:Option Dt) (ch:CH),js=done++rest->rest.length<n->ch[y]?=some (cL js)->Hs ch z l seen left->seen.Nodup->(∀ j∈seen,j<N)->left.length+rest.length<900→
  (st∈rest/\∃ ch',gJ y (ggN 5) y2 n done.length (sD rows K st z l x5) ch=some (.rt (.dat (.bl true)) ch'))∨
  (st∉rest/\∃ (X:List Nat) (y5:Option Dt) (ch':CH),gJ y (ggN 5) y2 n done.length (sD rows K st z l x5) ch=some (.nx (sD rows K st z l y5) ch')/\Hs ch' z l (seen++X) (left++X)/\ch'.length=ch.length/\(seen++X).Nodup/\(∀ j∈X,j∈rest/\j∉K)/\∀ j∈rest,j∈K∨j∈seen++X)
 | [],done,seen,left,n,x5,ch,he,hn,h1,H,Y,_,_=>by obtain ⟨n,rfl⟩:∃ m,n=m+1:=⟨n-1,by simp at hn;lia⟩;refine .inr ⟨by simp,[],x5,ch,?_,by rw [qf4,qf4];exact H,rfl,by rw [qf4];exact Y,(by simp),(by simp)⟩;rw [gJ,h1];unfold cL;dsimp only;rw [List.getElem?_eq_none (by rw [qa2,he];simp)]
 | j::rest,done,seen,left,n,x5,ch,he,hn,h1,H,Y,hs,hl=>by
  obtain ⟨n,rfl⟩:∃ m,n=m+1:=⟨n-1,by simp at hn;lia⟩;have hjN:j<N:=hj j (by rw [he];simp)
  have lseen:seen.length<=N:=by
   have:=bU Y (m:=qb6 N) fun x hx=>qd0.mpr (hs x hx)
   simpa using this
  rw [qc8] at hl hn
  have hd:∀ R,(y2 (sD rows K st z l (some (dI j))) ch=some R)->gJ y (ggN 5) y2 (n+1) done.length (sD rows K st z l x5) ch=(match R with
      | .nx L ch2=>gJ y (ggN 5) y2 n (done.length+1) L ch2
      | .ct L ch2=>gJ y (ggN 5) y2 n (done.length+1) L ch2
      | .bk L ch2=>some (.nx L ch2)
      | .rt c ch2=>some (.rt c ch2)):=fun R hR=>by
   rw [gJ,h1];unfold cL;dsimp only;rw [qb1,he,gR (nL _),zb0];show ((y2 (sD rows K st z l (some (dI j))) ch).bind _)=_;rw [hR,qa0]
   all_goals (cases R<;>rfl)
  obtain ⟨a1,a2⟩:=wO (rows:=rows) (K:=K) (st:=st) (j:=j) H Y (by lia) (by lia);by_cases q:j=st
  . left;refine ⟨by rw [q];exact .head _,ch,?_⟩;rw [hd _ (a1 q)]
  . obtain ⟨ch1,e1,H1,Z,k1⟩:=a2 q;have h1':ch1[y]?=some (cL js):=by rw [k1 y hy hy2];exact h1
    have key:∀ (s1 Z:List Nat),uq K seen j=s1->(if j∈K∨j∈seen then left else left++[j])=Z->s1.Nodup->(∀ i∈s1,i<N)->Z.length<=left.length+1->Hs ch1 z l s1 Z->_:=fun s1 Z _ _ W hs1 ll1 H1=>mE (rows:=rows) (K:=K) (st:=st) hN hy hy2 hj rest (done++[j]) s1 Z n (some (dI j)) ch1 (by rw [he];simp) (by lia) h1' H1 W hs1 (by lia)
    have step:∀ R,gJ y (ggN 5) y2 n (done++[j]).length (sD rows K st z l (some (dI j))) ch1=R->gJ y (ggN 5) y2 (n+1) done.length (sD rows K st z l x5) ch=R:=fun R hR=>by rw [hd _ e1];rw [qb8,qn1] at hR;exact hR
    by_cases p:j∈K∨j∈seen
    . have b1:uq K seen j=seen:=if_pos p;rw [b1,if_pos p] at H1;rcases key seen left b1 (if_pos p) Y hs (by lia) H1 with ⟨O,ch',U⟩ | ⟨O,X,y5,ch',U,c3,c4,c5,c6,c7⟩
      . exact .inl ⟨.tail _ O,ch',step _ U⟩
      . refine .inr ⟨fun w=>?_,X,y5,ch',step _ U,c3,by lia,c5,fun i hi=>⟨.tail _ (c6 i hi).1,(c6 i hi).2⟩,fun i hi=>?_⟩
        . rcases qb2.mp w with w | w
          . exact q w.symm
          . exact O w
        . rcases qb2.mp hi with rfl | hi
          . rcases p with p | p
            . exact .inl p
            . exact .inr (qe1 _ p)
          . exact c7 i hi
    . have b1:uq K seen j=seen++[j]:=if_neg p;have pj:j∉seen:=fun w=>p (.inr w)
      rw [b1,if_neg p] at H1;have W:(seen++[j]).Nodup:=qn8.mpr ⟨Y,by simp,fun a ha b hb e=>pj (by rw [qa9.mp hb] at e;exact e▸ha)⟩
      rcases key (seen++[j]) (left++[j]) b1 (if_neg p) W (fun i hi=>by
       rcases qe0.mp hi with hi | hi
       . exact hs i hi
       . rw [qa9.mp hi];exact hjN) (by simp) H1 with ⟨O,ch',U⟩ | ⟨O,X,y5,ch',U,c3,c4,c5,c6,c7⟩
      . exact .inl ⟨.tail _ O,ch',step _ U⟩
      . rw [qh4,qh4] at c3;rw [qh4] at c5;refine .inr ⟨fun w=>?_,[j]++X,y5,ch',step _ U,c3,by lia,c5,fun i hi=>?_,fun i hi=>?_⟩
        . rcases qb2.mp w with w | w
          . exact q w.symm
          . exact O w
        . rcases qe0.mp hi with hi | hi
          . rw [qa9.mp hi];exact ⟨.head _,fun w=>p (.inl w)⟩
          . exact ⟨.tail _ (c6 i hi).1,(c6 i hi).2⟩
        . rcases qb2.mp hi with rfl | hi
          . exact .inr (by simp)
          . have:=c7 i hi;rw [qh4] at this;exact this
theorem pF (rows:List Rw) (n:Nat) (r:Rw) (h:rows[n]?=some r):y16 [dR rows,.int n]=some (.lst ((r.outs n).map dI)):=by
 have e:aB (dR rows) (.int n)=some (.leaf r.d):=by unfold dR;rw [pp,bY,qb1,h];rfl
 cases r<;>(unfold y16;simp only [Rw.d] at e;walk_at "k";repeat (rw [e];walk_at "k"))<;>rfl
inductive Pth (rows:List Rw) (K:List Nat) (st:Nat):Nat->Prop
 | here:Pth rows K st st
 | on {x j:Nat}:Pth rows K st x->j∈cB rows x->j<rows.length->j∉K->Pth rows K st j
structure Df (rows:List Rw) (K:List Nat) (st:Nat) (seen left:List Nat):Prop where
 nd:seen.Nodup
 lt:∀ j∈seen,j<rows.length
 un:∀ j∈seen,j∉K
 sub:∀ x∈left,x=st∨x∈seen
 len:left.length<=seen.length+1
 cl:∀ x,(x=st∨x∈seen)->x∉left->∀ j∈cB rows x,j≠st/\(j∈K∨j∈seen)
 pt:∀ x∈seen,Pth rows K st x
theorem Df.small {seen:List Nat} (D:Df rows K st seen left):seen.length<=rows.length:=by
 have:=bU D.nd (m:=qb6 rows.length) fun x q=>qd0.mpr (D.lt x q)
 simpa using this
theorem Df.at {x:Nat} {seen:List Nat} (D:Df rows K st seen left) (q:x∈left):Pth rows K st x:=by
 rcases D.sub x q with rfl | h
 . exact .here
 . exact D.pt x h
theorem Df.step {x:Nat} {seen pre X:List Nat} (Z:∀ (i j:Nat),j∈cB rows i->j<rows.length) (D:Df rows K st seen (pre++[x])) (O:st∉cB rows x) (nd:(seen++X).Nodup) (L:∀ j∈X,j∈cB rows x/\j∉K) (hj:∀ j∈cB rows x,j∈K∨j∈seen++X):Df rows K st (seen++X) (pre++X):=by
 have px:Pth rows K st x:=D.at (by simp)
 refine ⟨nd,fun j h=>?_,fun j h=>?_,fun y h=>?_,?_,fun y q hn j h=>?_,fun y h=>?_⟩
 . rcases qe0.mp h with h | h
   . exact D.lt j h
   . exact Z x j (L j h).1
 . rcases qe0.mp h with h | h
   . exact D.un j h
   . exact (L j h).2
 . rcases qe0.mp h with h | h
   . rcases D.sub y (qe1 _ h) with e | e
     . exact .inl e
     . exact .inr (qe1 _ e)
   . exact .inr (qc3 _ h)
 . have:=D.len;simp at this ⊢;lia
 . have W:y∉pre:=fun w=>hn (qe1 _ w)
   have Y:y∉X:=fun w=>hn (qc3 _ w)
   by_cases e:y=x
   . subst e;exact ⟨fun w=>O (w▸h),hj j h⟩
   . have U:y=st∨y∈seen:=by
      rcases q with q | q
      . exact .inl q
      . rcases qe0.mp q with q | q
        . exact .inr q
        . exact absurd q Y
     obtain ⟨a,b⟩:=D.cl y U (fun w=>by
      rcases qe0.mp w with w | w
      . exact W w
      . exact e (qa9.mp w)) j h
     exact ⟨a,b.imp id fun w=>qe1 _ w⟩
 . rcases qe0.mp h with h | h
   . exact D.pt y h
   . exact .on px (L y h).1 (Z x y (L y h).1) (L y h).2
theorem ur {rows:List Rw} {K seen pre:List Nat} {st z l x:Nat} (hn:rows.length<=400) (U:∀ (i j:Nat),j∈cB rows i->j<rows.length) (Z:x<rows.length) (H:Hs ch z l seen (pre++[x])) (D:Df rows K st seen (pre++[x])) :
  (st∈cB rows x/\∃ ch',q12 (sD rows K st z l x5) ch=some (.rt (.dat (.bl true)) ch'))∨
  (st∉cB rows x/\∃ (X:List Nat) (O:Option Dt) (ch':CH),q12 (sD rows K st z l x5) ch=some (.nx (sD rows K st z l O) ch')/\Hs ch' z l (seen++X) (pre++X)/\Df rows K st (seen++X) (pre++X)):=by
 obtain ⟨r,q⟩:∃ r,rows[x]?=some r:=⟨rows[x],by simp [Z]⟩;have lz:z<ch.length:=(gX H.hs).1;have Y:l<ch.length:=(gX H.hl).1
 have p1:kK (eV 4) (sD rows K st z l x5) ch=some (.dat (dI x),ch.set l (cL pre)):=by unfold kK;rw [show eV 4 (sD rows K st z l x5) ch=some (.ref l,ch) from iq rfl,qa0];dsimp only;rw [H.hl];unfold cL;dsimp only;rw [qf5];simp
 have p2:eCV y16 (aw (eD (vL 0)) (aw (kK (eV 4)) bQ)) (sD rows K st z l x5) ch=some (.ref ch.length,ch.set l (cL pre)++[cL (cB rows x)]):=by
  unfold eCV
  have a:aw (eD (vL 0)) (aw (kK (eV 4)) bQ) (sD rows K st z l x5) ch=some ([.dat (dR rows),.dat (dI x)],ch.set l (cL pre)):=by unfold aw bQ;rw [show eD (vL 0) (sD rows K st z l x5) ch=some (.dat (dR rows),ch) from bV (eh rfl),qa0];dsimp only;rw [p1];rfl
  rw [a,qa0];dsimp only;rw [show vws (ch.set l (cL pre)) [.dat (dR rows),.dat (dI x)]=some [dR rows,dI x] from rfl,qa0,show y16 [dR rows,dI x]=_ from pF rows x r q,qa0,show iQ (.lst ((r.outs x).map dI))=some (.lst ((r.outs x).map dI)) from if_pos (kZ _),qa0,ie q];show some (CV.ref (ch.set l (cL pre)).length,ch.set l (cL pre)++[CO.lst (((r.outs x).map dI).map CV.dat)])=_;unfold cL;rw [za1,qc0];rfl
 have H1:Hs (ch.set l (cL pre)++[cL (cB rows x)]) z l seen pre:=⟨by rw [qa8 (by simpa using lz),qi7 (ql2 H.ne)];exact H.hs,by rw [qa8 (by simpa using Y),qd1 Y],H.ne⟩;have hs:=D.small;have hl:=D.len;simp at hl;have lo:(cB rows x).length<=2:=by rw [ie q];exact Rw.outs_len _ _
 have L:=mE (rows:=rows) (K:=K) (st:=st) (z:=z) (l:=l) (y:=ch.length) hn (by lia) (by lia) (fun j hj=>U x j hj) (cB rows x) [] seen pre 100000 x5 (ch.set l (cL pre)++[cL (cB rows x)]) rfl (by lia) (by rw [qd6 (by simp)];simp) H1 D.nd D.lt (by lia)
 have fin:∀ R,gJ ch.length (ggN 5) y2 100000 ([]:List Nat).length (sD rows K st z l x5) (ch.set l (cL pre)++[cL (cB rows x)])=R->q12 (sD rows K st z l x5) ch=R:=fun R W=>by unfold q12 nn;rw [p2,qa0];dsimp only;rw [qg2] at W;exact W
 rcases L with ⟨a,ch',e⟩ | ⟨a,X,O,ch',e,c3,c4,c5,c6,c7⟩
 . exact .inl ⟨a,ch',fin _ e⟩
 . exact .inr ⟨a,X,O,ch',fin _ e,c3,D.step U a c5 c6 c7⟩
theorem k9 {seen:List Nat} (H:Hs ch z l seen left):y11 (sD rows K st z l x5) ch=some (decide (0<left.length)&&!decide (st∈K),ch):=by
 unfold y11;refine i3 ?_;rw [wv]
 have q:tB2 (gq fun i j=>decide (j<i)) (toD (ah bD (aa (vB 4) ai))) (kD (.int 0)) (lo (sD rows K st z l x5) ch)=some (decide (0<left.length)):=by unfold tB2;rw [cM (aC ((cq (F:=bD) (sD4 H.ne H.hl)).trans rfl)) rfl];show some (decide ((0:Int)<((left.map dI).length:Nat)))=_;rw [qa2];congr 1;rw [decide_eq_decide];lia
 have L:tB2 (cf true) (vB 2) (vB 1) (lo (sD rows K st z l x5) ch)=some (!decide (st∈K)):=by unfold tB2;rw [cM (eJ (i:=2) (d:=dI st) rfl) (eJ (i:=1) (d:=kdD K) rfl),pE];rfl
 rw [q];cases decide (0<left.length)
 . rfl
 . show tB2 (cf true) (vB 2) (vB 1) (lo (sD rows K st z l x5) ch)=_;rw [L];rfl
noncomputable def qL (rows:List Rw) (K:List Nat) (st:Nat):Prop:=∃ S:Nat->Prop,S st/\∀ x,S x->∀ j∈cB rows x,j≠st/\(j∈K∨S j)
noncomputable def Goes (rows:List Rw) (K:List Nat):Prop:=∃ st x,st<rows.length/\st∉K/\Pth rows K st x/\st∈cB rows x
theorem pG {rows:List Rw} {K:List Nat} {st:Nat} (hn:rows.length<=400) (hO:∀ (i j:Nat),j∈cB rows i->j<rows.length) (L:st<rows.length) (Y:st∉K):∀ (f:Nat) (seen left:List Nat) (x5:Option Dt) (ch:CH),Hs ch z l seen left->Df rows K st seen left->2*(rows.length-seen.length)+left.length<f→
  (Goes rows K/\∃ ch',cU y11 q12 f (sD rows K st z l x5) ch=some (.rt (.dat (.bl true)) ch'))∨(qL rows K st/\∃ Z ch',cU y11 q12 f (sD rows K st z l x5) ch=some (.nx (sD rows K st z l Z) ch'))
 | 0,_,_,_,_,_,_,h=>absurd h (qh5 _)
 | f+1,seen,left,x5,ch,H,D,hf=>by
  have W:=k9 (rows:=rows) (K:=K) (st:=st) (x5:=x5) H;rw [decide_eq_false Y] at W;by_cases U:left=[]
  . subst U;have q:y11 (sD rows K st z l x5) ch=some (false,ch):=by rw [W];rfl
    exact .inr ⟨⟨fun x=>x=st∨x∈seen,.inl rfl,fun x O j hj=>by obtain ⟨a,b⟩:=D.cl x O (by simp) j hj;exact ⟨a,b.imp id .inr⟩⟩,x5,ch,i4 q⟩
  . obtain ⟨pre,x,rfl⟩:∃ pre x,left=pre++[x]:=⟨left.dropLast,left.getLast U,(List.dropLast_concat_getLast U).symm⟩;have q:y11 (sD rows K st z l x5) ch=some (true,ch):=by rw [W];simp
    have O:x<rows.length:=by
     rcases D.sub x (by simp) with rfl | h
     . exact L
     . exact D.lt x h
    rcases ur (x5:=x5) hn hO O H D with ⟨a,ch',e⟩ | ⟨a,X,Z,ch',e,H',D'⟩
    . refine .inl ⟨⟨st,x,L,Y,D.at (by simp),a⟩,ch',?_⟩;show ((y11 (sD rows K st z l x5) ch).bind _)=_;rw [q,qa0];show ((q12 (sD rows K st z l x5) ch).bind _)=_;rw [e];rfl
    . have hs:=D'.small;simp at hs hf;rw [kX q e];exact pG hn hO L Y f (seen++X) (pre++X) Z ch' H' D' (by simp;lia)
theorem pH {rows:List Rw} {K:List Nat} {st:Nat} (W:rows.length<=400) (hO:∀ (i j:Nat),j∈cB rows i->j<rows.length) (O:st<rows.length) (x3 x4 x5:Option CV) (ch:CH) (h5:x5=none∨∃ d,x5=some (.dat d)) :
  (Goes rows K/\∃ ch',z10 [some (.dat (dR rows)),some (.dat (kdD K)),some (.dat (dI st)),x3,x4,x5] ch=some (.rt (.dat (.bl true)) ch'))∨((st∉K->qL rows K st)/\∃ z l Y ch',z10 [some (.dat (dR rows)),some (.dat (kdD K)),some (.dat (dI st)),x3,x4,x5] ch=some (.nx (sD rows K st z l Y) ch')):=by
 obtain ⟨w,rfl⟩:∃ w:Option Dt,x5=w.map CV.dat:=by
  rcases h5 with rfl | ⟨d,rfl⟩
  . exact ⟨none,rfl⟩
  . exact ⟨some d,rfl⟩
 have t1:aI 3 (eN km) [some (.dat (dR rows)),some (.dat (kdD K)),some (.dat (dI st)),x3,x4,w.map CV.dat] ch=some (.nx [some (.dat (dR rows)),some (.dat (kdD K)),some (.dat (dI st)),some (.ref ch.length),x4,w.map CV.dat] (ch++[cK []])):=aV (v:=.ref ch.length) (by unfold eN km;rfl)
 have t2:aI 4 (eN (dE (aa (vL 2) ai))) [some (.dat (dR rows)),some (.dat (kdD K)),some (.dat (dI st)),some (.ref ch.length),x4,w.map CV.dat] (ch++[cK []])=some (.nx (sD rows K st ch.length (ch.length+1) w) (ch++[cK []]++[cL [st]])):=by
  refine aV (v:=.ref (ch.length+1)) ?_;unfold eN;rw [qF]
  have a:aa (vL 2) ai (lo [some (.dat (dR rows)),some (.dat (kdD K)),some (.dat (dI st)),some (.ref ch.length),x4,w.map CV.dat] (ch++[cK []]))=some [dI st]:=by unfold aa ai;rw [eh (i:=2) (d:=dI st) rfl];rfl
  rw [a,qa0,d6 (by simp)];show some (CV.ref (ch++[cK []]).length,_)=_;simp [cL]
 have H:Hs (ch++[cK []]++[cL [st]]) ch.length (ch.length+1) [] [st]:=⟨by simp,by rw [qd6 (by simp)];simp,by lia⟩
 have q:∀ R,cU y11 q12 100000 (sD rows K st ch.length (ch.length+1) w) (ch++[cK []]++[cL [st]])=R->z10 [some (.dat (dR rows)),some (.dat (kdD K)),some (.dat (dI st)),x3,x4,w.map CV.dat] ch=R:=fun R hR=>by unfold z10;rw [aA t1,aA t2];exact hR
 by_cases U:st∈K
 . have Z:=k9 (rows:=rows) (K:=K) (st:=st) (x5:=w) H;rw [decide_eq_true U] at Z;exact .inr ⟨fun z=>absurd U z,ch.length,ch.length+1,w,_,q _ (i4 (n:=99999) (ch1:=ch++[cK []]++[cL [st]]) (by rw [Z];rfl))⟩
 . have D:Df rows K st [] [st]:=⟨qo1,(by simp),(by simp),fun x L=>.inl (qa9.mp L),(by simp),fun x L W=>(by
    rcases L with rfl | L
    . exact absurd (qa9.mpr rfl) W
    . cases L),(by simp)⟩
   rcases pG W hO O U 100000 [] [st] w _ H D (by simp;lia) with ⟨a,ch',e⟩ | ⟨a,Y,ch',e⟩
   . exact .inl ⟨a,ch',q _ e⟩
   . exact .inr ⟨fun _=>a,_,_,Y,ch',q _ e⟩
theorem mF {K:List Nat} (W:rows.length<=400) (L:∀ (i j:Nat),j∈cB rows i->j<rows.length):∀ (ss:List Nat) (x2 x3 x4 x5:Option CV) (ch:CH),(x5=none∨∃ d,x5=some (.dat d))->(∀ s∈ss,s<rows.length)→
  (Goes rows K/\∃ ch',ko [2] (ap 2) z10 (ss.map dI) [some (.dat (dR rows)),some (.dat (kdD K)),x2,x3,x4,x5] ch=some (.rt (.dat (.bl true)) ch'))∨((∀ s∈ss,s∉K->qL rows K s)/\∃ δ ch',ko [2] (ap 2) z10 (ss.map dI) [some (.dat (dR rows)),some (.dat (kdD K)),x2,x3,x4,x5] ch=some (.nx δ ch'))
 | [],x2,x3,x4,x5,ch,_,_=>.inr ⟨(by simp),_,_,rfl⟩
 | s::ss,x2,x3,x4,x5,ch,Y,U=>by
  rcases pH (K:=K) W L (U s (.head _)) x3 x4 x5 ch Y with ⟨a,ch',e⟩ | ⟨a,z,l,q,ch',e⟩
  . refine .inl ⟨a,ch',?_⟩;rw [qa3];show ((ap 2 (dI s) (lo [some (.dat (dR rows)),some (.dat (kdD K)),x2,x3,x4,x5] ch)).bind fun δ1=>(z10 (mgS [2] [some (.dat (dR rows)),some (.dat (kdD K)),x2,x3,x4,x5] δ1) ch).bind _)=_;unfold ap;rw [qa0,pz (by simp)];show ((z10 [some (.dat (dR rows)),some (.dat (kdD K)),some (.dat (dI s)),x3,x4,x5] ch).bind _)=_;rw [e];rfl
  . rcases mF W L ss (some (.dat (dI s))) (some (.ref z)) (some (.ref l)) (q.map .dat) ch' (by cases q<;>simp) (fun i hi=>U i (.tail _ hi)) with ⟨b,ch2,e2⟩ | ⟨b,δ,ch2,e2⟩
    . refine .inl ⟨b,ch2,?_⟩;rw [qa3,jT (δ2:=sD rows K s z l q) (by simp) e];exact e2
    . refine .inr ⟨fun i hi O=>?_,δ,ch2,?_⟩
      . rcases qb2.mp hi with rfl | hi
        . exact a O
        . exact b i hi O
      . rw [qa3,jT (δ2:=sD rows K s z l q) (by simp) e];exact e2
theorem yP {K:List Nat} (Z:rows.length<=400) (Y:∀ (i j:Nat),j∈cB rows i->j<rows.length) :
  ∃ O:Bool,jJ z12 [dR rows,kdD K]=some (.leaf (.bl O))/\(O=true->Goes rows K)/\(O=false->∀ s,s<rows.length->s∉K->qL rows K s):=by
 have U:cZ dv (aa (toD (ah bD (aa (vB 0) ai))) ai) (lo [some (.dat (dR rows)),some (.dat (kdD K)),none,none,none,none] [])=some ((qb6 rows.length).map dI):=by show cZ dv (aa (toD (ah bD (aa (vB 0) ai))) ai) [some (.leaf (dR rows)),some (.leaf (kdD K)),none,none,none,none]=_;unfold dR;walk_at "k";rw [qa2,gU _ (by lia)]
 have q:∀ R:Bool×CH,(aL (gl (cZ dv (aa (toD (ah bD (aa (vB 0) ai))) ai)) [2] (ap 2) z10) (cH (eD (kD (.bl false))))) [some (.dat (dR rows)),some (.dat (kdD K)),none,none,none,none] []=some (.rt (.dat (.bl R.1)) R.2)->jJ z12 [dR rows,kdD K]=some (.leaf (.bl R.1)):=fun R h=>by
  have:z12 [.dat (dR rows),.dat (kdD K)] []=some (.dat (.bl R.1),R.2):=by unfold z12;exact ic h
  unfold jJ;show ((z12 [.dat (dR rows),.dat (kdD K)] []).bind _)=_;rw [this];rfl
 rcases mF (K:=K) Z Y (qb6 rows.length) none none none none [] (.inl rfl) (fun s L=>qd0.mp L) with ⟨a,ch',e⟩ | ⟨a,δ,ch',e⟩
 . refine ⟨true,q (true,ch') ?_,fun _=>a,fun h=>by cases h⟩;unfold aL gl;rw [U,qa0,e];rfl
 . refine ⟨false,q (false,ch') ?_,(fun h=>by cases h),fun _ s L W=>a s (qd0.mpr L) W⟩
   have:gl (cZ dv (aa (toD (ah bD (aa (vB 0) ai))) ai)) [2] (ap 2) z10 [some (.dat (dR rows)),some (.dat (kdD K)),none,none,none,none] []=some (.nx δ ch'):=by unfold gl;rw [U,qa0,e]
   rw [aA this];rfl
inductive Bk (rows:List Rw) (K:List Nat) (st:Nat):Nat->Prop
 | last {i:Nat}:i<rows.length->i∉K->st∈cB rows i->Bk rows K st i
 | on {i j:Nat}:i<rows.length->i∉K->j∈cB rows i->Bk rows K st j->Bk rows K st i
theorem Bk.un (b:Bk rows K st i):i<rows.length/\i∉K:=by
 cases b with
 | last a b _=>exact ⟨a,b⟩
 | on a b _ _=>exact ⟨a,b⟩
theorem Pth.un (h:st<rows.length) (q:st∉K) (p:Pth rows K st i):i<rows.length/\i∉K:=by
 cases p with
 | here=>exact ⟨h,q⟩
 | on _ _ a b=>exact ⟨a,b⟩
theorem Pth.bk (h:st<rows.length) (q:st∉K) (p:Pth rows K st i):Bk rows K st i->Bk rows K st st:=by
 induction p with
 | here=>exact id
 | on p L _ _ O=>exact fun b=>O (.on (p.un h q).1 (p.un h q).2 L b)
theorem Goes.no (g:Goes rows K) (no:∀ C:Nat->Prop,(∀ i,C i->i<rows.length/\i∉K)->(∀ i,C i->∃ j∈cB rows i,C j)->∀ i,¬ C i):False:=by
 obtain ⟨st,x,h,q,p,e⟩:=g;have bs:=p.bk h q (.last (p.un h q).1 (p.un h q).2 e);refine no (Bk rows K st) (fun i b=>b.un) (fun i b=>?_) st bs;cases b with
 | last _ _ e=>exact ⟨st,e,bs⟩
 | on _ _ e b=>exact ⟨_,e,b⟩
variable {R:List Nat}
theorem Ring.shut (r:Ring rows (fun i=>i<rows.length/\i∉K) R) (sh:∀ s,s<rows.length->s∉K->qL rows K s):False:=by
 have hp:=qt8.mpr r.ne;obtain ⟨st,q⟩:∃ st,R[0]?=some st:=⟨R[0],by simp [hp]⟩;obtain ⟨S,O,cl⟩:=sh st (r.all st (qc9 q)).1 (r.all st (qc9 q)).2
 have all:∀ (k a:Nat),R[k]?=some a->S a:=by
  intro k;induction k with
  | zero=>intro a h;rw [q] at h;cases h;exact O
  | succ k U =>
   intro a h;have W:=(gX h).1;have h1:R[k]?=some R[k]:=by simp
   rcases (cl _ (U _ h1) a (r.ed k _ a h1 h)).2 with L | L
   . exact absurd L (r.all a (qc9 h)).2
   . exact L
 have h1:R[R.length-1]?=some R[R.length-1]:=by simp
 exact (cl _ (all _ _ h1) st (r.turn _ _ h1 q)).1 rfl
noncomputable def Rw.isFin:Rw->Bool
 | .fin _=>true
 | _=>false
noncomputable def fE (kept:List Nat):Nat->List Rw->Option Nat
 | _,[]=>none
 | k,r::q=>if Rw.isFin r&&!decide (k∈kept) then some k else fE kept (k+1) q
theorem sF {kept:List Nat}:∀ {k:Nat} {L:List Rw},fE kept k L=none->∀ (i:Nat) (r:Rw),L[i]?=some r->Rw.isFin r=true->k+i∈kept
 | k,[],_,i,r,h,_=>by simp at h
 | k,q::L,e,i,r,h,O=>by
  unfold fE at e;split at e
  . cases e
  . rename_i U;cases i with
    | zero =>cases h;rw [O] at U;simpa using U
    | succ i =>
     have:=sF e i r h O
     rwa [show k+(i+1)=k+1+i by lia]
theorem nJ {kept:List Nat}:∀ {k:Nat} {O:List Rw},fE kept k O=some n->n∉kept/\k<=n/\∃ r,O[n-k]?=some r/\Rw.isFin r=true
 | k,[],h=>by cases h
 | k,q::O,e=>by
  unfold fE at e;split at e
  . rename_i L;cases e;simp at L;exact ⟨L.2,qx3 _,q,by simp,L.1⟩
  . obtain ⟨a,b,r,c,d⟩:=nJ e;refine ⟨a,by lia,r,?_,d⟩;rw [show n-k=(n-(k+1))+1 by lia];exact c
theorem wP (P C:Option T) (kept:List Nat) (k:Nat) (r:Rw):y27 [P,C,some (.leaf (.lst (kept.map dI))),some (.leaf (dI k)),some (.leaf r.d)]=if Rw.isFin r&&!decide (k∈kept) then some (.rt (.leaf (.tup [.str "end",dI k]))) else some (.nx [P,C,some (.leaf (.lst (kept.map dI))),some (.leaf (dI k)),some (.leaf r.d)]):=by
 unfold y27;cases r<;>(simp only [Rw.d,Rw.isFin];walk_at "k")<;>try rfl
 rw [fW];walk_at "k";by_cases h:k∈kept<;>simp [h]<;>rfl
theorem pI (P C:Option T) (kept:List Nat):∀ (L:List Rw) (k:Nat) (x3 x4:Option T),∃ U O,fA (iL 2 (cj (ap 3) (cj (ap 4) iK))) y27 (e8 k (L.map Rw.d)) [P,C,some (.leaf (.lst (kept.map dI))),x3,x4]=match fE kept k L with
  | some n=>some (.rt (.leaf (.tup [.str "end",dI n])))
  | none=>some (.nx [P,C,some (.leaf (.lst (kept.map dI))),U,O])
 | [],k,x3,x4=>⟨x3,x4,rfl⟩
 | r::L,k,x3,x4=>by
  obtain ⟨U,O,e⟩:=pI P C kept L (k+1) (some (.leaf (dI k))) (some (.leaf r.d));refine ⟨U,O,?_⟩;have q:=wP P C kept k r;unfold fE;cases W:Rw.isFin r&&!decide (k∈kept) with
  | true =>rw [W] at q;show ((y27 [P,C,some (.leaf (.lst (kept.map dI))),some (.leaf (dI k)),some (.leaf r.d)]).bind _)=_;rw [q];rfl
  | false =>rw [W] at q;show ((y27 [P,C,some (.leaf (.lst (kept.map dI))),some (.leaf (dI k)),some (.leaf r.d)]).bind _)=_;rw [q];exact e
theorem BK (O:rows.length<=500) (q:ks.length<=1000) :
  z21 [pcD c s rows,kcD b ks]=some (.leaf (match fE (ks.map (·.1)) 0 rows with
   | some n=>.tup [.str "end",dI n]
   | none=>.non)):=by
 unfold z21;walk_at "k";rw [show q16 [kcD b ks]=_ from sA b ks q];walk_at "k";unfold l3 dR;walk_at "k";obtain ⟨L,U,e⟩:=pI (some (.leaf (pcD c s rows))) (some (.leaf (kcD b ks))) (ks.map (·.1)) rows 0 none none;rw [e];cases fE (ks.map (·.1)) 0 rows<;>rfl
theorem wQ {l:List Str} {x:Str}:cf neg (.str x) (.tup (l.map .str))=some (.leaf (.bl (if neg then !decide (x∈l) else decide (x∈l)))):=by rw [C2 (by rw [dP];rfl),sv]
theorem sH (x0 x1 x2 x3 x4 x6:Option T) (bs:List Str):∀ (l:List Str) (q:Option T),(∀ b∈l,b∈bs)->∃ y,fA (ap 7) q48 (l.map .str) [x0,x1,x2,x3,x4,some (.leaf (.tup (bs.map .str))),x6,q]=some (.nx [x0,x1,x2,x3,x4,some (.leaf (.tup (bs.map .str))),x6,y])
 | [],q,_=>⟨q,rfl⟩
 | b::l,q,h=>by
  obtain ⟨y,e⟩:=sH x0 x1 x2 x3 x4 x6 bs l (some (.leaf (.str b))) (fun c L=>h c (.tail _ L));refine ⟨y,?_⟩;rw [qa3,dD (δ1:=[x0,x1,x2,x3,x4,some (.leaf (.tup (bs.map .str))),x6,some (.leaf (.str b))]) (δ2:=[x0,x1,x2,x3,x4,some (.leaf (.tup (bs.map .str))),x6,some (.leaf (.str b))]) rfl ?_]
  . exact e
  . unfold q48;walk_at "k";rw [wQ];walk_at "k";rw [nE (by simp [h b (.head _)])];rfl
noncomputable def plD (p:Nat×List Str×Bool):Dt:=.tup [dI p.1,.tup (p.2.1.map .str),.bl p.2.2]
theorem pJ (x0 x1 x3:Option T) {B:List Str} (F:Fnd rows B found):∀ (ps:List (Nat×List Str×Bool)) (x4 x5 x6 L:Option T),(∀ p∈ps,p.1<rows.length/\∀ b∈B,b∈p.2.1)->∃ W Y U O,fA (iL 3 (cj (ap 4) (cj (ap 5) (cj (ap 6) iK)))) z49 (ps.map plD) [x0,x1,some (.leaf (dF found)),x3,x4,x5,x6,L]=some (.nx [x0,x1,some (.leaf (dF found)),x3,W,Y,U,O])
 | [],x4,x5,x6,L,_=>⟨x4,x5,x6,L,rfl⟩
 | p::ps,x4,x5,x6,L,h=>by
  obtain ⟨hp,hB⟩:=h p (.head _);obtain ⟨l,Z⟩:∃ l,found[p.1]?=some l:=⟨found[p.1]'(by rw [F.len];exact hp),by simp⟩;obtain ⟨y,e1⟩:=sH x0 x1 (some (.leaf (dF found))) x3 (some (.leaf (dI p.1))) (some (.leaf (.bl p.2.2))) p.2.1 l L (fun b hb=>hB b (F.sub p.1 l b Z hb));obtain ⟨W,Y,U,O,e⟩:=pJ x0 x1 x3 F ps (some (.leaf (dI p.1))) (some (.leaf (.tup (p.2.1.map .str)))) (some (.leaf (.bl p.2.2))) y (fun q hq=>h q (.tail _ hq));refine ⟨W,Y,U,O,?_⟩;rw [qa3,dD (δ1:=[x0,x1,some (.leaf (dF found)),x3,some (.leaf (dI p.1)),some (.leaf (.tup (p.2.1.map .str))),some (.leaf (.bl p.2.2)),L]) rfl (δ2:=[x0,x1,some (.leaf (dF found)),x3,some (.leaf (dI p.1)),some (.leaf (.tup (p.2.1.map .str))),some (.leaf (.bl p.2.2)),y]) ?_]
  . exact e
  . unfold z49
    have e2:aB (dF found) (dI p.1)=some (.leaf (dS l)):=by unfold dF dI;rw [jA,bY,qb1,Z];rfl
    walk_at "k";rw [e2];walk_at "k";exact e1
variable {bg:List Str}
theorem yQ {c s:Dt} {B:List Str} (hB:∀ (i:Nat) (r:Rw) (b:Str),rows[i]?=some r->b∈r.reads->b∈B) (Y:∀ (i:Nat) (r:Rw) (j:Nat),rows[i]?=some r->j∈r.outs i->j<rows.length) (W:B.length<=12) (hn:rows.length<=500) (hp:0<rows.length) (L:∀ b∈B,b∈bg) (U:∀ k∈ks,k.1<rows.length/\∀ b∈B,b∈k.2) (Z:ks.length<=900) :
  q19 [pcD c s rows,kcD (.tup (bg.map .str)) ks]=some (.leaf .non):=by
 obtain ⟨found,e,F⟩:=qI (c:=c) (s:=s) hB Y W (by lia);unfold q19;walk_at "k";rw [show jJ y40 [pcD c s rows]=_ from e];walk_at "k";rw [bP (h:=fun k:Nat×List Str=>plD (k.1,k.2,false)) fun k _=>⟨_,rfl,rfl,by unfold q65 kpD;walk_at "k";rfl⟩];walk_at "k";rw [d6 (by rw [qa2];lia)];walk_at "k"
 have ps:=pJ (some (.leaf (pcD c s rows))) (some (.leaf (kcD (.tup (bg.map .str)) ks))) (some (.leaf (.lst (((0,bg,true)::ks.map fun k=>(k.1,k.2,false)).map plD)))) F ((0,bg,true)::ks.map fun k=>(k.1,k.2,false)) none none none none (fun p q=>by
  rcases qb2.mp q with rfl | q
  . exact ⟨hp,L⟩
  . obtain ⟨k,O,rfl⟩:=qd8.mp q;exact U k O)
 obtain ⟨y4,y5,y6,y7,ps⟩:=ps;rw [su (by simp;lia)];walk_at "k";rw [show Dt.tup [Dt.int 0,Dt.tup (List.map Dt.str bg),Dt.bl true]=plD (0,bg,true) from rfl,show List.map (fun k:Nat×List Str=>plD (k.1,k.2,false)) ks=(ks.map fun k=>(k.1,k.2,false)).map plD by rw [qc0];rfl,<- qa3,ps];rfl
structure Hd where
 x:Str
 n:Int
 b:Bool
noncomputable def hdD (h:Hd):Dt:=.tup [.str h.x,.int h.n,.bl h.b]
theorem yR {α:Type} (f:α->Dt) (cs ss:List α) (q:cs.length+ss.length<=1000):r6 (.tup (cs.map f)) (.tup (ss.map f))=some (.leaf (.tup ((cs++ss).map f))):=by
 cases cs with
 | nil=>rfl
 | cons a cs =>
  cases ss with
  | nil=>rw [qf4];rfl
  | cons b ss =>show (if ((a::cs).map f).length+((b::ss).map f).length<=qb0/\(a::cs).map f≠[]/\(b::ss).map f≠[] then _ else none)=_;rw [if_pos ⟨by rw [qa2,qa2];exact small (by lia),by simp,by simp⟩,qf5];rfl
theorem wR (cs ss:List Hd) (R:Dt) (q:cs.length+ss.length<=1000):z34 [.tup [.tup (cs.map hdD),.tup (ss.map hdD),R]]=some (.lst ((((cs++ss).filter fun h=>!h.b).map (·.x)).map .str)):=by
 unfold z34;walk_at "k";rw [yR hdD cs ss q];walk_at "k"
 rw [cO (h:=fun h:Hd=>Dt.str h.x) (p:=fun h=>!h.b) fun h _=>⟨_,rfl,by
  unfold z62 hdD;walk_at "k"
  try rfl,fun _=>by unfold y62 hdD;walk_at "k"⟩]
 walk_at "k";rw [d6 (by rw [qa2];exact qc7 (qg3 _ _) (by rw [qb8];lia)),qc0];walk_at "k";rfl
variable {cs ss:List Hd}
theorem wS {R:Dt} (q:cs.length+ss.length<=1000) (L:∀ h∈cs++ss,h.b=true):z17 [.tup [.tup (cs.map hdD),.tup (ss.map hdD),R],c]=some (.leaf .non):=by
 have e:(cs++ss).filter (fun h=>!h.b)=[]:=qq6.mpr fun h O=>by simp [L h O]
 unfold z17;walk_at "k";rw [wR cs ss R q,e];rfl
variable {v:CV}
theorem isN {x0 x1:Option CV} {d:Dt} (h:vwD ch 2 v=some d):jg (e2D 2 (gIs false) (eV 2) (eD (kD .non))) [x0,x1,some v] ch=some (ij d,ch):=by
 have:e2D 2 (gIs false) (eV 2) (eD (kD .non)) [x0,x1,some v] ch=some (.dat (.bl (ij d)),ch):=by unfold e2D;show ((vwD ch 2 v).bind _)=_;rw [h];rfl
 unfold jg;rw [this];rfl
theorem nK:vwD (ch0++[cL w,cL R,.tup [.dat (.str "ring"),.ref (ch0.length+1)]]) 2 (.ref (ch0.length+2))=some (.tup [.str "ring",.lst (R.map dI)]):=by
 have h2:(ch0++[cL w,cL R,.tup [.dat (.str "ring"),.ref (ch0.length+1)]])[ch0.length+2]?=some (.tup [.dat (.str "ring"),.ref (ch0.length+1)]):=by rw [gR (by lia),show ch0.length+2-ch0.length=2 by lia];rfl
 have h1:(ch0++[cL w,cL R,.tup [.dat (.str "ring"),.ref (ch0.length+1)]])[ch0.length+1]?=some (cL R):=by rw [gR (by lia),show ch0.length+1-ch0.length=1 by lia];rfl
 have q:∀ (ch:CH) (l:List Nat),cI (vwD ch 0) (l.map fun j=>CV.dat (dI j))=some (l.map dI):=fun ch l=>by
  induction l with
  | nil=>rfl
  | cons a l O=>rw [qa3,cI,O];rfl
 generalize ch0++[cL w,cL R,.tup [.dat (.str "ring"),.ref (ch0.length+1)]]=ch at h1 h2 ⊢;unfold vwD;rw [h2];show (qx2 Dt.tup (cI (vwD ch 1) [.dat (.str "ring"),.ref (ch0.length+1)]))=_
 have L:vwD ch 1 (.ref (ch0.length+1))=some (.lst (R.map dI)):=by unfold vwD;rw [h1];show (qx2 Dt.lst (cI (vwD ch 0) _))=_;rw [q];rfl
 unfold cI cI cI;rw [L];rfl
inductive Flt (rows:List Rw) (K:List Nat) (ch0:CH):CV->CH->Prop
 | fin (n:Nat) (h:fE K 0 rows=some n):Flt rows K ch0 (.dat (.tup [.str "end",dI n])) ch0
 | ring (w R:List Nat) (h:fE K 0 rows=none) (r:Ring rows (fun i=>i<rows.length/\i∉K) R) (hl:R.length<=rows.length):Flt rows K ch0 (.ref (ch0.length+2)) (ch0++[cL w,cL R,.tup [.dat (.str "ring"),.ref (ch0.length+1)]])
 | non (h:fE K 0 rows=none) (no:∀ C:Nat->Prop,(∀ i,C i->i<rows.length/\i∉K)->(∀ i,C i->∃ j∈cB rows i,C j)->∀ i,¬ C i):Flt rows K ch0 (.dat .non) ch0
abbrev pgD (cs ss:List Hd) (rows:List Rw):Dt:=.tup [.tup (cs.map hdD),.tup (ss.map hdD),dR rows]
structure Inp (cs ss:List Hd) (rows:List Rw) (B bg:List Str) (ks:List (Nat×List Str)):Prop where
 hB:∀ (i:Nat) (r:Rw) (b:Str),rows[i]?=some r->b∈r.reads->b∈B
 hO:∀ (i:Nat) (r:Rw) (j:Nat),rows[i]?=some r->j∈r.outs i->j<rows.length
 hb:B.length<=12
 hn:rows.length<=400
 hp:0<rows.length
 hbg:∀ b∈B,b∈bg
 hk:∀ k∈ks,k.1<rows.length/\∀ b∈B,b∈k.2
 hkl:ks.length<=900
 hh:cs.length+ss.length<=1000
 ht:∀ h∈cs++ss,h.b=true
theorem lb {cs ss:List Hd} {rows:List Rw} {B bg:List Str} {ks:List (Nat×List Str)} (I:Inp cs ss rows B bg ks) (ch0:CH) :
  ∃ v ch',y19 [.dat (pgD cs ss rows),.dat (kcD (.tup (bg.map .str)) ks)] ch0=some (v,ch')/\Flt rows (ks.map (·.1)) ch0 v ch':=by
 have U:=BK (c:=.tup (cs.map hdD)) (s:=.tup (ss.map hdD)) (b:=.tup (bg.map .str)) (rows:=rows) (ks:=ks) (by have:=I.hn;lia) (by have:=I.hkl;lia);have O:=yO (c:=.tup (cs.map hdD)) (s:=.tup (ss.map hdD)) (b:=.tup (bg.map .str)) (rows:=rows) (ks:=ks) (by have:=I.hn;lia) (by have:=I.hkl;lia) ch0;have es:=wS (cs:=cs) (ss:=ss) (R:=dR rows) (c:=kcD (.tup (bg.map .str)) ks) I.hh I.ht;have el:=yQ (c:=.tup (cs.map hdD)) (s:=.tup (ss.map hdD)) (bg:=bg) (ks:=ks) I.hB I.hO I.hb (by have:=I.hn;lia) I.hp I.hbg I.hk I.hkl
 have s1:∀ d,z21 [pgD cs ss rows,kcD (.tup (bg.map .str)) ks]=some (.leaf d)->aI 2 (eN (ah z21 (aa (vL 0) (aa (vL 1) ai)))) [some (.dat (pgD cs ss rows)),some (.dat (kcD (.tup (bg.map .str)) ks)),none] ch0=some (.nx [some (.dat (pgD cs ss rows)),some (.dat (kcD (.tup (bg.map .str)) ks)),some (.dat d)] ch0):=fun d h=>by refine aV (v:=.dat d) ?_;unfold eN;show ((z21 [pgD cs ss rows,kcD (.tup (bg.map .str)) ks]).bind _)=_;rw [h];rfl
 have q:∀ d v ch',z21 [pgD cs ss rows,kcD (.tup (bg.map .str)) ks]=some (.leaf d)->(aL (dh (jg (e2D 2 (gIs false) (eV 2) (eD (kD .non)))) (aI 2 (eC z16 (aw (eD (vL 0)) (aw (eD (vL 1)) bQ)))) cD)
  (aL (dh (jg (e2D 2 (gIs false) (eV 2) (eD (kD .non)))) (aI 2 (eN (ah z17 (aa (vL 0) (aa (vL 1) ai))))) cD)
  (aL (dh (jg (e2D 2 (gIs false) (eV 2) (eD (kD .non)))) (aI 2 (eN (ah q19 (aa (vL 0) (aa (vL 1) ai))))) cD)
  (cH (eV 2))))) [some (.dat (pgD cs ss rows)),some (.dat (kcD (.tup (bg.map .str)) ks)),some (.dat d)] ch0=some (.rt v ch')->y19 [.dat (pgD cs ss rows),.dat (kcD (.tup (bg.map .str)) ks)] ch0=some (v,ch'):=fun d v ch' h h2=>by
  unfold y19;refine ic ?_;show aL _ _ [some (.dat (pgD cs ss rows)),some (.dat (kcD (.tup (bg.map .str)) ks)),none] ch0=_;rw [aA (s1 d h)];exact h2
 have skip:∀ (g:Fs) (v:CV) (d:Dt) (ch:CH),vwD ch 2 v=some d->ij d=false->dh (jg (e2D 2 (gIs false) (eV 2) (eD (kD .non)))) g cD [some (.dat (pgD cs ss rows)),some (.dat (kcD (.tup (bg.map .str)) ks)),some v] ch=some (.nx [some (.dat (pgD cs ss rows)),some (.dat (kcD (.tup (bg.map .str)) ks)),some v] ch):=fun g v d ch h Y=>by rw [gj (by rw [isN h,Y])];rfl
 have take:∀ (g:Fs) (ch:CH),dh (jg (e2D 2 (gIs false) (eV 2) (eD (kD .non)))) g cD [some (.dat (pgD cs ss rows)),some (.dat (kcD (.tup (bg.map .str)) ks)),some (.dat .non)] ch=g [some (.dat (pgD cs ss rows)),some (.dat (kcD (.tup (bg.map .str)) ks)),some (.dat .non)] ch:=fun g ch=>by rw [iB (isN (d:=.non) rfl)]
 cases L:fE (ks.map (·.1)) 0 rows with
 | some n =>rw [L] at U;refine ⟨_,_,q _ _ _ U ?_,.fin n L⟩;rw [aA (skip _ _ (.tup [.str "end",dI n]) _ rfl rfl),aA (skip _ _ (.tup [.str "end",dI n]) _ rfl rfl),aA (skip _ _ (.tup [.str "end",dI n]) _ rfl rfl)];rfl
 | none =>
  rw [L] at U;rcases O with ⟨O,no⟩ | ⟨R,w,r,hl,O⟩
  . refine ⟨_,_,q _ (.dat .non) ch0 U ?_,.non L no⟩;have W:aI 2 (eC z16 (aw (eD (vL 0)) (aw (eD (vL 1)) bQ))) [some (.dat (pgD cs ss rows)),some (.dat (kcD (.tup (bg.map .str)) ks)),some (.dat .non)] ch0=some (.nx [some (.dat (pgD cs ss rows)),some (.dat (kcD (.tup (bg.map .str)) ks)),some (.dat .non)] ch0):=aV (v:=.dat .non) ((my rfl).trans O)
    have Z:aI 2 (eN (ah z17 (aa (vL 0) (aa (vL 1) ai)))) [some (.dat (pgD cs ss rows)),some (.dat (kcD (.tup (bg.map .str)) ks)),some (.dat .non)] ch0=some (.nx [some (.dat (pgD cs ss rows)),some (.dat (kcD (.tup (bg.map .str)) ks)),some (.dat .non)] ch0):=by refine aV (v:=.dat .non) ?_;unfold eN;show ((z17 [pgD cs ss rows,kcD (.tup (bg.map .str)) ks]).bind _)=_;rw [show z17 [pgD cs ss rows,kcD (.tup (bg.map .str)) ks]=_ from es];rfl
    have t3:aI 2 (eN (ah q19 (aa (vL 0) (aa (vL 1) ai)))) [some (.dat (pgD cs ss rows)),some (.dat (kcD (.tup (bg.map .str)) ks)),some (.dat .non)] ch0=some (.nx [some (.dat (pgD cs ss rows)),some (.dat (kcD (.tup (bg.map .str)) ks)),some (.dat .non)] ch0):=by refine aV (v:=.dat .non) ?_;unfold eN;show ((q19 [pgD cs ss rows,kcD (.tup (bg.map .str)) ks]).bind _)=_;rw [show q19 [pgD cs ss rows,kcD (.tup (bg.map .str)) ks]=_ from el];rfl
    rw [aA ((take _ _).trans W),aA ((take _ _).trans Z),aA ((take _ _).trans t3)];rfl
  . refine ⟨_,_,q _ (.ref (ch0.length+2)) _ U ?_,.ring w R L r hl⟩;have W:aI 2 (eC z16 (aw (eD (vL 0)) (aw (eD (vL 1)) bQ))) [some (.dat (pgD cs ss rows)),some (.dat (kcD (.tup (bg.map .str)) ks)),some (.dat .non)] ch0=some (.nx [some (.dat (pgD cs ss rows)),some (.dat (kcD (.tup (bg.map .str)) ks)),some (.ref (ch0.length+2))] (ch0++[cL w,cL R,.tup [.dat (.str "ring"),.ref (ch0.length+1)]])):=aV (v:=.ref (ch0.length+2)) ((my rfl).trans O);rw [aA ((take _ _).trans W),aA (skip _ _ _ _ nK rfl),aA (skip _ _ _ _ nK rfl)];rfl
variable {K0:List Nat}
theorem i5 (h:∀ i,i∈K↔i∈K0):∀ (k:Nat) (q:List Rw),fE K k q=fE K0 k q
 | _,[]=>rfl
 | k,r::q=>by unfold fE;rw [i5 h (k+1) q,show decide (k∈K)=decide (k∈K0) from decide_eq_decide.mpr (h k)]
theorem Flt.congr (h:∀ i,i∈K↔i∈K0) (f:Flt rows K ch0 v ch):Flt rows K0 ch0 v ch:=by
 cases f with
 | fin n e=>exact .fin n (by rw [<- i5 h];exact e)
 | ring w R e r O=>exact .ring w R (by rw [<- i5 h];exact e) ⟨r.ne,r.nd,fun i hi=>⟨(r.all i hi).1,fun z=>(r.all i hi).2 ((h i).mpr z)⟩,r.ed,r.turn⟩ O
 | non e no=>exact .non (by rw [<- i5 h];exact e) fun C q L=>no C (fun i hi=>⟨(q i hi).1,fun z=>(q i hi).2 ((h i).mp z)⟩) L
theorem wT {ch':CH} {d:Dt} (h:y19 [.dat P,.dat C] ch0=some (v,ch')) (q:vwD ch' 2 v=some d):y48 [.dat P,.dat C] ch0=some (.dat (.bl (ij d)),ch'):=by unfold y48;refine ic ?_;unfold cH e2D;show ((((eC y19 (aw (eD (vL 0)) (aw (eD (vL 1)) bQ)) [some (.dat P),some (.dat C)] ch0).bind _)).map _)=_;rw [my (cs:=[.dat P,.dat C]) (ch2:=ch0) rfl,h];show (((vwD ch' 2 v).bind _).map _)=_;rw [q];rfl
variable {m:Nat}
theorem dRt {t:T} (h:g (ds.map (fun d=>some (T.leaf d))++qf8 (m-ds.length) none)=some (.rt t)):dQ m g ds=some t:=by rw [Bh,h];rfl
variable {g1:De->Option Out}
theorem mG {c:De->Option Bool} {r:De->Option Out} {t:T} (h:c δ=some true) (h1:g1 δ=some (.rt t)):bc (sIf c g1 cY) r δ=some (.rt t):=by rw [kP,wu,h,sj,h1];rfl
theorem gp {c:De->Option Bool} {r:De->Option Out} (h:c δ=some false):bc (sIf c g1 cY) r δ=r δ:=by rw [kP,wu,h,sk];rfl
theorem gW {g:Dt->Dt->Option T} {b:Bool} (h1:fa δ=some x) (h2:fb δ=some y) (h:g x y=some (.leaf (.bl b))):tB2 g fa fb δ=some b:=by unfold tB2;rw [cM h1 h2,h];rfl
theorem BL (j:Nat) (K:List Nat):cf false (dI j) (kdD K)=some (.leaf (.bl (decide (j∈K)))):=by unfold kdD dI;show some (T.leaf (.bl ((dM (K.map kI) (K.map fun _=>Dt.bl true) (kI j)).isSome)))=_;rw [jo]
theorem wU (rows:List Rw) (K:List Nat):bL (ap 0) y37 (vL 0) [none,some (.leaf (dR rows)),some (.leaf (kdD K))] ((qb6 rows.length).map dI)=some (((qb6 rows.length).filter fun i=>(match rows[i]? with | some r=>Rw.isFin r | none=>false)&&!decide (i∈K)).map dI):=cO fun j O=>⟨[some (.leaf (dI j)),some (.leaf (dR rows)),some (.leaf (kdD K))],rfl,by
  have L:=qd0.mp O;obtain ⟨r,q⟩:∃ r,rows[j]?=some r:=⟨rows[j],by simp [L]⟩
  have e:aB (dR rows) (dI j)=some (.leaf r.d):=by unfold dR dI;rw [pp,bY,qb1,q];rfl
  unfold y37;walk_at "k";rw [e,q];cases r<;>(simp only [Rw.d,Rw.isFin];walk_at "k")<;>try rfl
  rw [pE];rfl,fun _=>rfl⟩
theorem pK {l:List Nat}:gEq neg (.lst (l.map dI)) (.lst [])=some (.leaf (.bl (if neg then !decide (l=[]) else decide (l=[])))):=by rw [pv (kZ l) rfl];cases l<;>rfl
theorem BM {K:List Nat} (hn:rows.length<=400) (hO:∀ (i j:Nat),j∈cB rows i->j<rows.length) :
  ∃ s:Str,y32 [dR rows,kdD K]=some (.leaf (.str s))/\((s="end"/\∃ n,fE K 0 rows=some n)∨(s="ring"/\fE K 0 rows=none/\Goes rows K)∨(s=""/\fE K 0 rows=none/\∀ s,s<rows.length->s∉K->qL rows K s)):=by
 obtain ⟨bo,eg,g1,g2⟩:=yP (K:=K) hn hO;have ec:=wU rows K;have hl:=qg3 (fun i=>(match rows[i]? with | some r=>Rw.isFin r | none=>false)&&!decide (i∈K)) (qb6 rows.length)
 have q:(qb6 rows.length).filter (fun i=>(match rows[i]? with | some r=>Rw.isFin r | none=>false)&&!decide (i∈K))=[]↔fE K 0 rows=none:=by
  rw [qq6];constructor
  . intro h;cases L:fE K 0 rows with
    | none=>rfl
    | some n =>obtain ⟨a,b,r,c,d⟩:=nJ L;refine absurd ?_ (h n (qd0.mpr (gX c).1));rw [show rows[n]?=some r from c];simp [a,d]
  . intro h i hi;have hi:=qd0.mp hi;obtain ⟨r,Y⟩:∃ r,rows[i]?=some r:=⟨rows[i],by simp [hi]⟩;have:=sF h i r Y;rw [Y];intro z;simp at z;rw [Nat.zero_add] at this;exact z.2 (this z.1)
 generalize (qb6 rows.length).filter (fun i=>(match rows[i]? with | some r=>Rw.isFin r | none=>false)&&!decide (i∈K))=W at ec hl q
 have c1:aW [none,some 0,some 1] (cZ dv (aa (toD (ah bD (aa (vB 0) ai))) ai)) (ap 0) y37 (vL 0) [some (.leaf (dR rows)),some (.leaf (kdD K))]=some (.lst (W.map dI)):=by refine cz (ds:=(qb6 rows.length).map dI) ?_ ec (by simp at hl ⊢;lia);unfold dR;walk_at "k";rw [qa2,gU _ (by lia)]
 have O:tB2 (gEq true) (toD (aW [none,some 0,some 1] (cZ dv (aa (toD (ah bD (aa (vB 0) ai))) ai)) (ap 0) y37 (vL 0))) (toD (dE ai)) [some (.leaf (dR rows)),some (.leaf (kdD K))]=some (!decide (W=[])):=by exact gW (aC c1) (y:=.lst []) rfl pK
 have Z:fw (toD (ah (jJ z12) (aa (vL 0) (aa (vL 1) ai)))) [some (.leaf (dR rows)),some (.leaf (kdD K))]=some bo:=by unfold fw;rw [aC ((ej (x:=dR rows) (y:=kdD K) rfl rfl).trans eg)];rfl
 unfold y32;by_cases U:W=[]
 . have L:=q.mp U;rw [U] at O;cases bo with
   | true =>refine ⟨"ring",?_,.inr (.inl ⟨rfl,L,g1 rfl⟩)⟩;exact dRt ((gp O).trans (mG Z rfl))
   | false =>refine ⟨"",?_,.inr (.inr ⟨rfl,L,g2 rfl⟩)⟩;exact dRt ((gp O).trans ((gp Z).trans rfl))
 . refine ⟨"end",?_,.inl ⟨rfl,?_⟩⟩
   . exact dRt (mG (O.trans (by simp [U])) rfl)
   . cases L:fE K 0 rows with
     | none=>exact absurd (q.mpr L) U
     | some n=>exact ⟨n,rfl⟩
theorem wV {l:List Nat} {k:Nat} (h:l[k]?=some a):aB (.lst (l.map dI)) (.int k)=some (.leaf (dI a)):=by rw [jA,bY,qb1,h];rfl
theorem wW {U:Nat->Prop} (hU:∀ i,U i->i<rows.length) (r:Ring rows U R) (k:Nat) (Y:k<R.length):y26 [some (.leaf (dI k)),some (.leaf (dR rows)),some (.leaf (.lst (R.map dI)))]=some (.bl true):=by
 obtain ⟨b,W⟩:∃ b,R[k]?=some b:=⟨R[k],by simp⟩
 obtain ⟨a,L,O⟩:∃ a,aB (.lst (R.map dI)) (.int ((k:Int)-1))=some (.leaf (dI a))/\a∈R/\b∈cB rows a:=by
  cases k with
  | zero =>
   obtain ⟨a,L⟩:∃ a,R[R.length-1]?=some a:=⟨R[R.length-1],by simp⟩;refine ⟨a,?_,qc9 L,r.turn a b L W⟩;cases Z:R with
   | nil=>rw [Z] at Y;simp at Y
   | cons x l =>rw [Z] at L;show aB (.lst (dI x::l.map dI)) (.int (-1))=_;rw [jA,Bl,qa2,show (dI x::l.map dI)=(x::l).map dI from rfl,qb1];simp only [qc8,Nat.add_sub_cancel] at L;rw [L];rfl
  | succ k =>obtain ⟨a,L⟩:∃ a,R[k]?=some a:=⟨R[k],by simp⟩;refine ⟨a,?_,qc9 L,r.ed k a b L W⟩;rw [show ((k+1:Nat):Int)-1=(k:Int) by lia];exact wV L
 obtain ⟨ma,O⟩:=O;obtain ⟨q,hq⟩:∃ q,rows[a]?=some q:=⟨rows[a]'(hU a (r.all a ma)),by simp⟩;rw [ie hq] at O;unfold y26;have e1:toD (d2 aB (vB 2) (vB 0)) [some (.leaf (dI k)),some (.leaf (dR rows)),some (.leaf (.lst (R.map dI)))]=some (dI b):=aC ((cM (x:=.lst (R.map dI)) (y:=dI k) rfl rfl).trans (wV W))
 have e2:toD (ah y16 (aa (vL 1) (aa (toD (d2 aB (vB 2) (toD (d2 oy (vB 0) (kD (.int 1)))))) ai))) [some (.leaf (dI k)),some (.leaf (dR rows)),some (.leaf (.lst (R.map dI)))]=some (.lst ((q.outs a).map dI)):=aC (t:=.lst ((q.outs a).map dI)) ((ej (x:=dR rows) (y:=dI a) rfl (aC ((cM (x:=.lst (R.map dI)) (y:=.int ((k:Int)-1)) rfl rfl).trans L))).trans (pF rows a q hq))
 refine (aC ((cM e1 e2).trans fW)).trans ?_;simp [O,T.d]
theorem pL {α:Type} (l:List α):lp (fun bs=>bs.all id) [.lst (l.map fun _=>Dt.bl true)]=some (.leaf (.bl true)):=by have e:=jn (l.map fun _=>true);rw [qc0] at e;unfold lp;dsimp only;rw [show (l.map fun _=>Dt.bl true)=l.map (Dt.bl ∘ fun _=>true) from rfl,e];simp
theorem ut (O:R.Nodup) (Y:R.length<=1000):fj [.lst (R.map dI)]=some (.leaf (.int R.length)):=by
 have e:=sC R
 have L:(R.map fun j:Nat=>(j:Int)).Nodup:=by rw [qj7,qr3];exact (qj7.mp O).imp fun h z=>h (by lia)
 have W:=bU (i0 (R.map fun j:Nat=>(j:Int))) fun x q=>oncesK_mem.mp q
 have U:=bU L fun x q=>oncesK_mem.mpr q
 unfold fj;dsimp only;rw [e,qa0,if_pos (by rw [qa2];lia),Nat.le_antisymm W U,qa2]
theorem qM (r:Ring rows (fun i=>i<rows.length/\i∉K) R) (hl:R.length<=500):z30 [dR rows,kdD K,.lst (R.map dI)]=some (.leaf (.bl true)):=by
 have Z:fOr (iy (fw (toD (fF "list" (vB 2))))) (fOr (tB2 (gEq false) (vB 2) (toD (dE ai))) (iy (fw (toD (ah (lp fun bs=>bs.all id) (aa (toD (aW [none] (fIt (vB 2)) (ap 0) bd z41)) ai)))))) [some (.leaf (dR rows)),some (.leaf (kdD K)),some (.leaf (.lst (R.map dI)))]=some false:=by
  have q:tB2 (gEq false) (vB 2) (toD (dE ai)) [some (.leaf (dR rows)),some (.leaf (kdD K)),some (.leaf (.lst (R.map dI)))]=some false:=(gW (x:=.lst (R.map dI)) (y:=.lst []) rfl rfl pK).trans (by simp [r.ne]);have L:bL (ap 0) bd z41 [none] (R.map dI)=some (R.map fun _=>.bl true):=bP fun j _=>⟨[some (.leaf (dI j))],rfl,rfl,rfl⟩
  have O:=aC (cz (src:=[none]) (fi:=fIt (vB 2)) (δ:=[some (.leaf (dR rows)),some (.leaf (kdD K)),some (.leaf (.lst (R.map dI)))]) rfl L (by rw [qa2];lia));have U:=aC ((cq O).trans (pL R));unfold fOr;rw [show iy (fw (toD (fF "list" (vB 2)))) [some (.leaf (dR rows)),some (.leaf (kdD K)),some (.leaf (.lst (R.map dI)))]=some false from rfl,qa0,if_neg (by simp),q,qa0,if_neg (by simp)];unfold iy fw;rw [U];rfl
 have W:fOr (tB2 (gEq true) (toD (ah fj (aa (vB 2) ai))) (toD (ah bD (aa (vB 2) ai)))) (tB2 (gEq true) (toD (aW [none,some 1] (fIt (vB 2)) (ap 0) q43 (vL 0))) (toD (dE ai))) [some (.leaf (dR rows)),some (.leaf (kdD K)),some (.leaf (.lst (R.map dI)))]=some false:=by
  have q:toD (ah fj (aa (vB 2) ai)) [some (.leaf (dR rows)),some (.leaf (kdD K)),some (.leaf (.lst (R.map dI)))]=some (.int R.length):=aC ((cq (x:=.lst (R.map dI)) rfl).trans (ut r.nd (by lia)))
  have L:toD (ah bD (aa (vB 2) ai)) [some (.leaf (dR rows)),some (.leaf (kdD K)),some (.leaf (.lst (R.map dI)))]=some (.int R.length):=by refine aC (t:=.leaf (.int R.length)) ((cq (x:=.lst (R.map dI)) rfl).trans ?_);show some (T.leaf (.int (R.map dI).length))=_;rw [qa2]
  have O:bL (ap 0) q43 (vL 0) [none,some (.leaf (kdD K))] (R.map dI)=some ((R.filter fun i=>decide (i∈K)).map dI):=cO fun j _=>⟨[some (.leaf (dI j)),some (.leaf (kdD K))],rfl,gW (x:=dI j) (y:=kdD K) rfl rfl (BL j K),fun _=>rfl⟩
  have U:R.filter (fun i=>decide (i∈K))=[]:=qq6.mpr fun i hi=>by simp [(r.all i hi).2]
  rw [U] at O;have a5:=aC (cz (src:=[none,some 1]) (fi:=fIt (vB 2)) (δ:=[some (.leaf (dR rows)),some (.leaf (kdD K)),some (.leaf (.lst (R.map dI)))]) rfl O (by simp));unfold fOr;rw [gW (b:=false) q L (by rw [qD (b:=true) (by simp [eqD])];rfl),qa0,if_neg (by simp)];exact gW (y:=.lst []) a5 rfl rfl
 have Y:ah (lp fun bs=>bs.all id) (aa (toD (aW [none,some 0,some 2] (cZ dv (aa (toD (ah bD (aa (vB 2) ai))) ai)) (ap 0) bd y26)) ai) [some (.leaf (dR rows)),some (.leaf (kdD K)),some (.leaf (.lst (R.map dI)))]=some (.leaf (.bl true)):=by
  have q:cZ dv (aa (toD (ah bD (aa (vB 2) ai))) ai) [some (.leaf (dR rows)),some (.leaf (kdD K)),some (.leaf (.lst (R.map dI)))]=some ((qb6 R.length).map dI):=by walk_at "k";rw [qa2,gU _ (by lia)]
  have L:bL (ap 0) bd y26 [none,some (.leaf (dR rows)),some (.leaf (.lst (R.map dI)))] ((qb6 R.length).map dI)=some ((qb6 R.length).map fun _=>.bl true):=bP fun j hj=>⟨[some (.leaf (dI j)),some (.leaf (dR rows)),some (.leaf (.lst (R.map dI)))],rfl,rfl,wW (fun i h=>h.1) r j (qd0.mp hj)⟩
  exact (cq (aC (cz (src:=[none,some 0,some 2]) q L (by simp;lia)))).trans (pL _)
 unfold z30;refine dRt ((gp Z).trans ((gp W).trans ?_));unfold bO;exact congrArg (qx2 Out.rt) Y
theorem nM {g:De->Option T} (h:f δ=some (.bl true)):oq f g δ=g δ:=by unfold oq;rw [h];rfl
theorem cE {f:De->Option T} {t:T} (h:f δ=some t):bO f δ=some (.rt t):=by unfold bO;rw [h];rfl
theorem wX {g g':Dt->Dt->Option T} {fc:De->Option Dt} {w:Dt} {t:T} (h1:fa δ=some x) (h2:fb δ=some y) (h3:g x y=some (.leaf (.bl true))) (L:fc δ=some w) (q:g' y w=some t):iz g g' fa fb fc δ=some t:=by unfold iz;rw [h1,qa0,h2,qa0,h3,qa0];show (fc δ).bind _=_;rw [L];exact q
theorem uu (h:fE K 0 rows=some n):z11 [dR rows,kdD K,.str "end",.tup [.str "end",dI n]]=some (.leaf (.bl true)):=by
 obtain ⟨a,_,r,c,d⟩:=nJ h;rw [Nat.sub_zero] at c;have hl:=(gX c).1
 have e:aB (dR rows) (.int n)=some (.leaf r.d):=by unfold dR;rw [pp,bY,qb1,c];rfl
 have W:∃ q,r=.fin q:=by cases r<;>first | exact ⟨_,rfl⟩ | cases d
 obtain ⟨q,rfl⟩:=W
 have L:cf true (.int n) (kdD K)=some (.leaf (.bl true)):=by rw [show (Dt.int n)=dI n from rfl,pE];simp [a]
 have Y:bD [dR rows]=some (.leaf (.int rows.length)):=by unfold dR;show some (T.leaf (.int (rows.map Rw.d).length))=_;rw [qa2]
 have p2:iz (gq fun i j=>decide (i<=j)) (gq fun i j=>decide (i<j)) (kD (.int 0)) (toD (d2 aB (vB 3) (kD (.int 1)))) (toD (ah bD (aa (vB 0) ai))) [some (.leaf (dR rows)),some (.leaf (kdD K)),some (.leaf (.str "end")),some (.leaf (.tup [.str "end",dI n]))]=some (.leaf (.bl true)):=by
  have g1:gq (fun i j=>decide (i<=j)) (.int 0) (dI n)=some (.leaf (.bl true)):=by show some (T.leaf (.bl (decide ((0:Int)<=(n:Int)))))=_;rw [decide_eq_true (by lia)]
  have g2:gq (fun i j=>decide (i<j)) (dI n) (.int rows.length)=some (.leaf (.bl true)):=by show some (T.leaf (.bl (decide ((n:Int)<(rows.length:Int)))))=_;rw [decide_eq_true (by lia)]
  have Z:toD (ah bD (aa (vB 0) ai)) [some (.leaf (dR rows)),some (.leaf (kdD K)),some (.leaf (.str "end")),some (.leaf (.tup [.str "end",dI n]))]=some (.int rows.length):=aC ((cq (x:=dR rows) rfl).trans Y);exact wX (x:=.int 0) (y:=dI n) rfl rfl g1 Z g2
 have U:d2 (gEq false) (toD (d2 aB (toD (d2 aB (vB 0) (toD (d2 aB (vB 3) (kD (.int 1)))))) (kD (.int 0)))) (kD (.str "end")) [some (.leaf (dR rows)),some (.leaf (kdD K)),some (.leaf (.str "end")),some (.leaf (.tup [.str "end",dI n]))]=some (.leaf (.bl true)):=by have g1:toD (d2 aB (vB 0) (toD (d2 aB (vB 3) (kD (.int 1))))) [some (.leaf (dR rows)),some (.leaf (kdD K)),some (.leaf (.str "end")),some (.leaf (.tup [.str "end",dI n]))]=some (Rw.d (.fin q)):=aC ((cM (x:=dR rows) (y:=.int n) rfl rfl).trans e);exact (cM (x:=.str "end") (y:=.str "end") (aC (t:=.leaf (.str "end")) ((cM (y:=.int 0) g1 rfl).trans rfl)) rfl).trans rfl
 have O:d2 (cf true) (toD (d2 aB (vB 3) (kD (.int 1)))) (vB 1) [some (.leaf (dR rows)),some (.leaf (kdD K)),some (.leaf (.str "end")),some (.leaf (.tup [.str "end",dI n]))]=some (.leaf (.bl true)):=(cM (x:=.int n) (y:=kdD K) rfl rfl).trans L;unfold z11;refine dRt ((gp rfl).trans ((gp rfl).trans ((gp rfl).trans ?_)));refine cE ?_;exact (nM rfl).trans ((nM (aC p2)).trans ((nM (aC U)).trans O))
theorem qN (r:Ring rows (fun i=>i<rows.length/\i∉K) R) (q:R.length<=500):z11 [dR rows,kdD K,.str "ring",.tup [.str "ring",.lst (R.map dI)]]=some (.leaf (.bl true)):=by have e:=qM r q;unfold z11;refine dRt ((gp rfl).trans ((gp rfl).trans (mG rfl ?_)));exact cE e
theorem uv:z11 [x,y,.str "",.non]=some (.leaf (.bl true)):=by unfold z11;walk_at "k"
theorem lc {s:Str} (O:rows.length<=400) (f:Flt rows K ch0 v ch) (q:(s="end"/\∃ n,fE K 0 rows=some n)∨(s="ring"/\fE K 0 rows=none/\Goes rows K)∨(s=""/\fE K 0 rows=none/\∀ s,s<rows.length->s∉K->qL rows K s)) :
  ∃ d,vwD ch 2 v=some d/\z11 [dR rows,kdD K,.str s,d]=some (.leaf (.bl true))/\ij d=decide (s="")∧(s="ring"->∃ w R:List Nat,R.length<=400/\v=.ref (ch0.length+2)/\ch=ch0++[cL w,cL R,.tup [.dat (.str "ring"),.ref (ch0.length+1)]]):=by
 cases f with
 | fin n e =>
  rcases q with ⟨rfl,_⟩ | ⟨_,z,_⟩ | ⟨_,z,_⟩
  . exact ⟨_,rfl,uu e,rfl,fun z=>absurd z (by decide)⟩
  . rw [e] at z;cases z
  . rw [e] at z;cases z
 | ring w R e r L =>
  rcases q with ⟨_,n,z⟩ | ⟨rfl,_,_⟩ | ⟨_,_,z⟩
  . rw [e] at z;cases z
  . exact ⟨_,nK,qN r (by lia),rfl,fun _=>⟨w,R,by lia,rfl,rfl⟩⟩
  . exact (r.shut z).elim
 | non e no =>
  rcases q with ⟨_,n,z⟩ | ⟨_,_,z⟩ | ⟨rfl,_,_⟩
  . rw [e] at z;cases z
  . exact (z.no no).elim
  . exact ⟨_,rfl,uv,rfl,fun z=>absurd z (by decide)⟩
theorem i6 {i j:Int} (q:0<j) (h1:j<10000000000000):bh (.int i) (.int j)=some (.leaf (.int (i/j))):=if_pos ⟨q,by lia⟩
local macro_rules | `(tactic| walk_at "w") => `(tactic| (walk_at "k"; repeat (rw [P41.i6 (by decide) (by decide)]; walk_at "k")))
theorem wY {α β:Type} (f:α->β) (l:List α) (k:Nat) (h:k<l.length) (d:α):atI (l.map f) (k:Int)=some (f (l.getD k d)):=by unfold atI ixN;rw [if_pos (by lia),qa2,if_pos (by lia)];simp [h]
theorem d9 (ns:List Int) (k:Nat):y1 [.lst (ns.map .int),.int k]=some (.leaf (.int (ns.getD k 0))):=by
 unfold y1;walk_at "k";by_cases h:k<ns.length
 . rw [sq (by simpa using h)];walk_at "k";rw [wY Dt.int ns k h 0];rfl
 . rw [nE (by simpa using h)];walk_at "k";simp [List.getD,show ns.length<=k by lia]
noncomputable def letters:Str:="abcdefghijklmnopqrstuvwxyz"
theorem gY:letters.length=26:=by decide +kernel
theorem yS (c:Int) (i:Nat) (hi:i<10):∃ g:Nat,y39 [some (.leaf (.int (0+(i:Int)))),some (.leaf (.int c)),some (.leaf (.str letters))]=some (.str ⟨#[g]⟩):=by unfold y39;walk_at "w";rw [Bg (i:=c) (j:=48271+2*(0+(i:Int))) (by lia) (by lia)];walk_at "w";obtain ⟨g,e,_⟩:=sr (x:=letters) (i:=c*(48271+2*(0+(i:Int)))%2147483647/9%26) (by rw [gY];decide) (qe8 _ (by decide)) (by rw [gY];exact qd4 _ (by decide));rw [e];exact ⟨g,rfl⟩
theorem pM {x:Str} {lo hi:Option Int} (h:x.length<=1000):∃ y,gSl (.str x) lo hi=some (.leaf (.str y))/\y.length<=x.length:=⟨_,if_pos (small (by lia)),Txt.slice_le x lo hi⟩
theorem sI {x y:Str} (h:x.length+y.length<=1000000):cy (.str x) (.str y)=some (.leaf (.str (x++y))):=Bb (small h)
theorem yT (x y:Str):(x++y).length=x.length+y.length:=by show (x.cps++y.cps).size=_;rw [Array.size_append];rfl
noncomputable def sgn (i:Int):Nat:=letters.cps.toList.getD i.toNat 0
theorem BN (i:Int) (q:0<=i) (h1:i<26):aB (.str letters) (.int i)=some (.leaf (.str ⟨#[sgn i]⟩)):=by
 have L:letters.cps.toList.length=26:=by decide +kernel
 rw [zH (by rw [gY];exact small (by decide))];unfold atI ixN;rw [if_pos q,L,if_pos (by lia)];simp only [qa0];unfold sgn;rw [qc1,gQ (by lia)];rfl
theorem yU:∀ i<26,∀ j<26,letters.cps.toList.getD i 0=letters.cps.toList.getD j 0->i=j:=by decide +kernel
theorem yV (c p:Int) (m:Str) (U:m.length<=6):∃ y z:Str,∀ i:Nat,q39 [some (.leaf (.int (0+(i:Int)))),some (.leaf (.int c)),some (.leaf (.str letters)),some (.leaf (.str m)),some (.leaf (.int p))]=some (.str (y++⟨#[sgn ((c/36+(0+(i:Int)))%26)]⟩++z)):=by obtain ⟨y,q,Y⟩:=pM (x:=m) (lo:=none) (hi:=some p) (by lia);obtain ⟨z,L,W⟩:=pM (x:=m) (lo:=some p) (hi:=none) (by lia);refine ⟨y,z,fun i=>?_⟩;unfold q39;walk_at "w";have e:=BN ((c/36+(0+(i:Int)))%26) (qe8 _ (by decide)) (qd4 _ (by decide));have O:(⟨#[sgn ((c/36+(0+(i:Int)))%26)]⟩:Str).length=1:=rfl;rw [q];walk_at "w";rw [e];walk_at "w";rw [sI (by lia)];walk_at "w";rw [L];walk_at "w";rw [sI (by rw [yT];lia)];rfl
theorem yW (x y:Str):(x++y).cps.toList=x.cps.toList++y.cps.toList:=by show (x.cps++y.cps).toList=_;simp
theorem BO {c:Int} {y z:Str} (hi:i<26) (q:j<26) (h:y++⟨#[sgn ((c/36+(0+(i:Int)))%26)]⟩++z=y++⟨#[sgn ((c/36+(0+(j:Int)))%26)]⟩++z):i=j:=by
 have e:=congrArg (fun s:Str=>s.cps.toList) h;simp only [yW] at e;have e:=List.append_cancel_left (List.append_cancel_right e);have e:sgn ((c/36+(0+(i:Int)))%26)=sgn ((c/36+(0+(j:Int)))%26):=by simpa using e
 have:=yU _ (by lia) _ (by lia) e;lia
theorem pN (c:Int) (q:Nat) (W:q<=20):∃ xs:List Str,y14 [.int c,.int q]=some (.lst (xs.map .str))/\xs.length=q/\xs.Nodup:=by
 have b0:=qe8 c (show (6:Int)≠0 by decide);have b1:=qd4 c (show (0:Int)<6 by decide);unfold y14;walk_at "w"
 obtain ⟨ys,e,hp⟩:=pq (bb:=ap 0) (ft:=bd) (fe:=y39) (ds:=dZ 0 (c%6).toNat) (δ:=[none,some (.leaf (.int c)),some (.leaf (.str letters))]) (P:=fun _ y=>∃ c:Nat,y=.str ⟨#[c]⟩) fun d O=>by obtain ⟨i,hi,rfl⟩:=mem_range O;obtain ⟨g,e⟩:=yS c i (by lia);exact ⟨_,_,rfl,rfl,e,g,rfl⟩
 obtain ⟨cs,rfl,hl⟩:=mx hp;rw [uc] at hl;rw [qE (kO (by lia) (by lia)),qa0,show qa1 "abcdefghijklmnopqrstuvwxyz"=letters from rfl,e,qa0,d6 (by unfold sgD;rw [qa2];lia)];walk_at "w";rw [show qa1 ""=("":Str) from rfl,ww (by lia)];walk_at "w";rw [d5 (by lia)];walk_at "w"
 have hm:(⟨cs.toArray⟩:Str).length<=6:=by show cs.toArray.size<=6;simp;lia
 obtain ⟨y,z,L⟩:=yV c (c/6%(c%6+1)) ⟨cs.toArray⟩ hm
 have e:=mw (bb:=ap 0) (ft:=bd) (fe:=q39) (ds:=dZ 0 ((q:Nat):Int).toNat) (δ:=[none,some (.leaf (.int c)),some (.leaf (.str letters)),some (.leaf (.str ⟨cs.toArray⟩)),some (.leaf (.int (c/6%(c%6+1))))]) (f:=fun d=>match d with
  | .int k=>.str (y++⟨#[sgn ((c/36+k)%26)]⟩++z)
  | d=>d) fun d O=>by
  obtain ⟨i,hi,rfl⟩:=mem_range O;exact ⟨_,rfl,rfl,L i⟩
 have Y:(dZ 0 ((q:Nat):Int).toNat).map (fun d=>match d with
  | Dt.int k=>Dt.str (y++⟨#[sgn ((c/36+k)%26)]⟩++z)
  | d=>d)=((qb6 q).map fun i:Nat=>y++⟨#[sgn ((c/36+(0+(i:Int)))%26)]⟩++z).map Dt.str:=by
  unfold dZ;rw [qe3,qc0,qc0];rfl
 rw [Y] at e;refine ⟨(qb6 q).map fun i:Nat=>y++⟨#[sgn ((c/36+(0+(i:Int)))%26)]⟩++z,?_,by simp,?_⟩
 . rw [qE (kO (by lia) (by lia)),qa0,e,qa0,d6 (by rw [qa2,qa2,qh3];lia)];walk_at "w"
 . rw [qj7,qr3];refine qv4.mpr fun i j hi U Z h=>?_
   simp only [qh3] at hi U;simp only [List.getElem_range] at h;have:=BO (qb7 hi (by lia)) (qb7 U (by lia)) h;lia
local macro_rules | `(tactic| walk_at "w") => `(tactic| (walk_at "k"; repeat (rw [P41.i6 (by decide) (by decide)]; walk_at "k")))
theorem wZ (l:List Str) (lo hi:Option Int):∃ m:List Str,gSl (.lst (l.map .str)) lo hi=some (.lst (m.map .str))/\m.length<=l.length:=by refine ⟨(l.drop (HT.sIx (l.map Dt.str).length 0 lo)).take (HT.sIx (l.map Dt.str).length (l.map Dt.str).length hi-HT.sIx (l.map Dt.str).length 0 lo),?_,by simp;lia⟩;show some (T.lst (kj (l.map Dt.str) lo hi))=_;unfold kj;rw [List.map_take,zd5]
theorem tup2 {g:De->Option Dt} {a:Dt} (h1:f δ=some a) (h2:g δ=some b):toD (bT (aa f (aa g ai))) δ=some (.tup [a,b]):=by unfold toD bT aa;rw [h1];simp only [qa0];rw [h2];rfl
noncomputable def tS (l:List Str):Dt:=.tup (l.map .str)
theorem sJ {B:List Str} (L:B.length<64) {k:Int} (h2:δ[2]?=some (some (.leaf (.lst (B.map .str))))) (q:f δ=some (.int k)) :
  ∃ m:List Str,toD (ah cu (aa (toD (ah dn (aa (toD (vSl (vB 2) fC (dL f))) ai))) ai)) δ=some (tS m):=by
 obtain ⟨m,e,O⟩:=wZ B none (some k);refine ⟨aZ m,?_⟩;walk_at "k";rw [h2,q];walk_at "k";rw [e];walk_at "k";rw [kW (by lia)];rfl
theorem w4 (c:Int):∃ s:Int,0<s/\atI [Dt.int 2,.int 3,.int 5,.int 9] (c%4)=some (.int s):=by
 have q:=qe8 c (show (4:Int)≠0 by decide);have L:=qd4 c (show (0:Int)<4 by decide);generalize c%4=z at q L;have:z=0∨z=1∨z=2∨z=3:=by lia
 rcases this with rfl | rfl | rfl | rfl
 . exact ⟨2,by decide,rfl⟩
 . exact ⟨3,by decide,rfl⟩
 . exact ⟨5,by decide,rfl⟩
 . exact ⟨9,by decide,rfl⟩
variable {ns:List Int} {sh:Int}
theorem w6 {B:List Str} (hB:B.length<64) (Z:0<sh) (done:List (Nat×List Str)) (t:Nat) (ht:t<=1000) (hd:done.length<=1000) (x6 O:Option T) :
  ∃ (e:List (Nat×List Str)) (y6:Option T),(∀ p∈e,p.1=t)/\e.length<=1/\q26 [some (.leaf (.lst (ns.map .int))),some (.leaf P),some (.leaf (.lst (B.map .str))),some (.leaf (.int sh)),some (.lst (done.map kpD)),some (.leaf (dI t)),x6,O]=some (.nx [some (.leaf (.lst (ns.map .int))),some (.leaf P),some (.leaf (.lst (B.map .str))),some (.leaf (.int sh)),some (.lst ((done++e).map kpD)),some (.leaf (dI t)),y6,O]):=by
 unfold q26;have U:=d9 ns 5;generalize ns.getD 5 0=c at U
 have W:toD (d2 bz (toD (d2 gA (toD (d2 cy (toD (d2 bh (toD (ah y1 (aa (vL 0) (aa (kD (.int 5)) ai)))) (kD (.int 4)))) (toD (d2 gA (kD (.int 7919)) (vB 5))))) (kD (.int 69621)))) (kD (.int 2147483629))) [some (.leaf (.lst (ns.map .int))),some (.leaf P),some (.leaf (.lst (B.map .str))),some (.leaf (.int sh)),some (.lst (done.map kpD)),some (.leaf (dI t)),x6,O]=some (.int ((c/4+7919*(t:Int))*69621%2147483629)):=by unfold dI;walk_at "w";rw [show y1 [.lst (ns.map .int),.int 5]=_ from U];walk_at "w"
 generalize (c/4+7919*(t:Int))*69621%2147483629=L at W;rw [kP]
 have e2:bX 6 (toT (toD (d2 bz (toD (d2 gA (toD (d2 cy (toD (d2 bh (toD (ah y1 (aa (vL 0) (aa (kD (.int 5)) ai)))) (kD (.int 4)))) (toD (d2 gA (kD (.int 7919)) (vB 5))))) (kD (.int 69621)))) (kD (.int 2147483629))))) [some (.leaf (.lst (ns.map .int))),some (.leaf P),some (.leaf (.lst (B.map .str))),some (.leaf (.int sh)),some (.lst (done.map kpD)),some (.leaf (dI t)),x6,O]=some (.nx [some (.leaf (.lst (ns.map .int))),some (.leaf P),some (.leaf (.lst (B.map .str))),some (.leaf (.int sh)),some (.lst (done.map kpD)),some (.leaf (dI t)),some (.leaf (.int L)),O]):=by unfold bX toT;rw [W];rfl
 rw [e2,fV,wu]
 have Y:tB2 (gEq false) (toD (d2 bz (toD (d2 bh (vB 6) (kD (.int 5)))) (vB 3))) (kD (.int 0)) [some (.leaf (.lst (ns.map .int))),some (.leaf P),some (.leaf (.lst (B.map .str))),some (.leaf (.int sh)),some (.lst (done.map kpD)),some (.leaf (dI t)),some (.leaf (.int L)),O]=some (decide (L/5%sh=0)):=by walk_at "w";rw [d5 Z];walk_at "w"
 rw [Y];by_cases q:L/5%sh=0
 . rw [decide_eq_true q,sj,pr (l:=done.map kpD) rfl]
   obtain ⟨m,em⟩:=sJ (f:=toD (d2 bz (toD (d2 bh (vB 6) (kD (.int 45)))) (toD (d2 cy (toD (ah bD (aa (vB 2) ai))) (kD (.int 1)))))) (k:=L/45%((B.length:Int)+1)) hB (δ:=[some (.leaf (.lst (ns.map .int))),some (.leaf P),some (.leaf (.lst (B.map .str))),some (.leaf (.int sh)),some (.lst (done.map kpD)),some (.leaf (dI t)),some (.leaf (.int L)),O]) rfl (by walk_at "w";rw [qa2,d5 (by lia)];rfl)
   refine ⟨[(t,m)],some (.leaf (.int L)),by simp,by simp,?_⟩
   have e4:toD (bT (aa (vL 5) (aa (toD (ah cu (aa (toD (ah dn (aa (toD (vSl (vB 2) fC (dL (toD (d2 bz (toD (d2 bh (vB 6) (kD (.int 45)))) (toD (d2 cy (toD (ah bD (aa (vB 2) ai))) (kD (.int 1))))))))) ai))) ai))) ai))) [some (.leaf (.lst (ns.map .int))),some (.leaf P),some (.leaf (.lst (B.map .str))),some (.leaf (.int sh)),some (.lst (done.map kpD)),some (.leaf (dI t)),some (.leaf (.int L)),O]=some (kpD (t,m)):=by exact tup2 rfl em
   rw [e4,qa0];unfold Bi;rw [if_pos (by rw [qa2];exact fq (by lia)),qf5];rfl
 . rw [decide_eq_false q,sk];exact ⟨[],some (.leaf (.int L)),by simp,by simp,by rw [qf4];rfl⟩
theorem pO {ns:List Int} {P:Dt} {B:List Str} (O:B.length<64) (U:0<sh):∀ (d t:Nat) (done:List (Nat×List Str)) (x5 x6 q:Option T),t+d<=1000->done.length+d<=1000->(∀ p∈done,p.1<t)→
  ∃ (all:List (Nat×List Str)) (y5 L:Option T),(∀ p∈all,p.1<t+d)/\all.length<=done.length+d/\fA (ap 5) q26 ((zc3 t d).map dI) [some (.leaf (.lst (ns.map .int))),some (.leaf P),some (.leaf (.lst (B.map .str))),some (.leaf (.int sh)),some (.lst (done.map kpD)),x5,x6,q]=some (.nx [some (.leaf (.lst (ns.map .int))),some (.leaf P),some (.leaf (.lst (B.map .str))),some (.leaf (.int sh)),some (.lst (all.map kpD)),y5,L,q])
 | 0,t,done,x5,x6,q,_,_,h=>⟨done,x5,x6,h,by lia,rfl⟩
 | d+1,t,done,x5,x6,q,h1,h2,h=>by
  obtain ⟨e,L,Y,hel,hb⟩:=w6 (ns:=ns) (P:=P) O U done t (by lia) (by lia) x6 q
  obtain ⟨all,Z,z6,g1,g2,W⟩:=pO O U d (t+1) (done++e) (some (.leaf (dI t))) L q (by lia) (by rw [qb8];lia) (fun p hp=>by
   rcases qe0.mp hp with z | z
   . have:=h p z;lia
   . have:=Y p z;lia)
  refine ⟨all,Z,z6,fun p hp=>by have:=g1 p hp;lia,by rw [qb8] at g2;lia,?_⟩;rw [List.range'_succ,qa3,dD rfl hb,W]
theorem qO {ns:List Int} {B:List Str} {q:Hd} {L:List Hd} (hcs:cs=q::L) (hB:B.length<=20) (hr:rows.length<=1000):∃ (bs:List Str) (kl:List (Nat×List Str)),z18 [.lst (ns.map .int),pgD cs ss rows,.lst (B.map .str)]=some (.leaf (cdD bs kl))/\(∀ p∈kl,p.1<rows.length)/\kl.length<=rows.length:=by
 subst hcs;have ca:=d9 ns 5;generalize ns.getD 5 0=c at ca;obtain ⟨sh,hsh,es⟩:=w4 c
 have U:(aZ (bq (B++[q.x,"zz"]))).length<64:=by
  have:=bU (jy (B++[q.x,"zz"])) (m:=B++[q.x,"zz"]) fun x hx=>onces_mem.mp hx
  rw [(cA _).length_eq];simp at this;lia
 generalize W:aZ (bq (B++[q.x,"zz"]))=O at U;obtain ⟨all,y5,Y,g1,g2,g3⟩:=pO (ns:=ns) (P:=pgD (q::L) ss rows) (B:=O) U hsh rows.length 0 [] none none none (by lia) (by simp;lia) (by simp)
 have Z:fT [.lst (B.map Dt.str++[.str q.x,.str "zz"])]=some (.lst (O.map .str)):=by have:=jB (l:=B++[q.x,"zz"]) (by simp;lia);rw [qf5] at this;rw [<- W];exact this
 obtain ⟨m,em⟩:=sJ (f:=toD (d2 bz (toD (d2 bh (toD (ah y1 (aa (vL 0) (aa (kD (.int 5)) ai)))) (kD (.int 4)))) (toD (d2 cy (toD (ah bD (aa (vB 2) ai))) (kD (.int 1)))))) (k:=c/4%((O.length:Int)+1)) U (δ:=[some (.leaf (.lst (ns.map .int))),some (.leaf (pgD (q::L) ss rows)),some (.leaf (.lst (O.map .str))),some (.leaf (.int sh)),some (.lst (all.map kpD)),y5,Y,none]) rfl (by walk_at "w";rw [show y1 [.lst (ns.map .int),.int 5]=_ from ca];walk_at "w";rw [qa2,d5 (by lia)];rfl)
 refine ⟨m,all,?_,fun p hp=>by have:=g1 p hp;lia,by simp at g2;lia⟩;unfold z18;walk_at "w";rw [show y1 [.lst (ns.map .int),.int 5]=_ from ca];walk_at "w";rw [es];walk_at "w";rw [show aB (hdD q) (.int 0)=some (.leaf (.str q.x)) from rfl];walk_at "w";rw [wg (small (by simp;lia))];walk_at "w";rw [Z];walk_at "w"
 rw [show bD [dR rows]=some (.leaf (.int (rows.length:Int))) from by show some (T.leaf (.int ((rows.map Rw.d).length:Int)))=_;rw [qa2]]
 walk_at "w";rw [gU _ (by lia),qa0,List.range_eq_range'];have g3:fA (ap 5) q26 ((zc3 0 rows.length).map dI) [some (.leaf (.lst (ns.map .int))),some (.leaf (pgD (q::L) ss rows)),some (.leaf (.lst (O.map .str))),some (.leaf (.int sh)),some (.lst []),none,none,none]=_:=g3;rw [g3,fV,kP]
 have e7:bX 7 (toT (toD (ah cu (aa (toD (ah dn (aa (toD (vSl (vB 2) fC (dL (toD (d2 bz (toD (d2 bh (toD (ah y1 (aa (vL 0) (aa (kD (.int 5)) ai)))) (kD (.int 4)))) (toD (d2 cy (toD (ah bD (aa (vB 2) ai))) (kD (.int 1))))))))) ai))) ai)))) [some (.leaf (.lst (ns.map .int))),some (.leaf (pgD (q::L) ss rows)),some (.leaf (.lst (O.map .str))),some (.leaf (.int sh)),some (.lst (all.map kpD)),y5,Y,none]=some (.nx [some (.leaf (.lst (ns.map .int))),some (.leaf (pgD (q::L) ss rows)),some (.leaf (.lst (O.map .str))),some (.leaf (.int sh)),some (.lst (all.map kpD)),y5,Y,some (.leaf (tS m))]):=by unfold bX toT;rw [em];rfl
 rw [e7,fV];walk_at "w";rfl
local macro_rules | `(tactic| walk_at "w") => `(tactic| (walk_at "k"; repeat (rw [P41.i6 (by decide) (by decide)]; walk_at "k")))
theorem aY {fs:De->Option (List Dt)} {d:Dt} (h1:f δ=some d) (h2:fs δ=some ds):aa f fs δ=some (d::ds):=by unfold aa;rw [h1,qa0,h2];rfl
theorem cF {fs:De->Option (List Dt)} (h:fs δ=some ds) (q:ds.length<=1000):bT fs δ=some (.leaf (.tup ds)):=by unfold bT;rw [h];exact if_pos (small (by lia))
theorem BP {l:List Str} (h:0<l.length) (m:Int):∃ x∈l,atI (l.map Dt.str) (m%(l.length:Int))=some (.str x):=by
 have L:=qe8 m (show (l.length:Int)≠0 by lia);have h1:=qd4 m (show (0:Int)<l.length by lia);obtain ⟨k,q⟩:∃ k:Nat,m%(l.length:Int)=k:=⟨(m%(l.length:Int)).toNat,by lia⟩;rw [q] at L h1 ⊢;have O:k<l.length:=by lia
 refine ⟨l[k],qs2 _,?_⟩;rw [bY,qb1,gQ O];rfl
theorem zX {num:Int} {l:List Str} (h:0<l.length) (L:vB 5 δ=some (.int num)) (hi:vB i δ=some (.lst (l.map .str))):∃ x∈l,toD (d2 aB (vB i) (toD (d2 bz (toD (d2 bh (vB 5) (kD (.int 8)))) (toD (ah bD (aa (vB i) ai)))))) δ=some (.str x):=by
 obtain ⟨x,q,e⟩:=BP h (num/8);refine ⟨x,q,aC (t:=.leaf (.str x)) ((cM hi (y:=.int (num/8%(l.length:Int))) (aC (t:=.leaf (.int (num/8%(l.length:Int)))) ((cM (x:=.int (num/8)) (y:=.int l.length) (aC ((cM L rfl).trans (i6 (by decide) (by decide)))) (aC (t:=.leaf (.int l.length)) ((cq hi).trans ?_))).trans (d5 (by lia))))).trans ?_)⟩
 . show some (T.leaf (.int (l.map Dt.str).length))=_;rw [qa2]
 . rw [jA,e];rfl
noncomputable def AtB (B:List Str) (a:Atm):Prop:=∀ x,a=.nm x->x∈B
theorem nN {B:List Str} (U:0<B.length) (c:Int):∃ a:Atm,y18 [.int c,.lst (B.map .str)]=some (.leaf a.d)/\AtB B a:=by
 unfold y18;by_cases h:c%4=0
 . have Y:=qe8 (c/4) (show (2:Int)≠0 by decide);have W:=qd4 (c/4) (show (0:Int)<2 by decide)
   have L:tB2 (gEq false) (toD (d2 bz (vB 0) (kD (.int 4)))) (kD (.int 0)) [some (.leaf (.int c)),some (.leaf (.lst (B.map .str)))]=some true:=by walk_at "w";simp [h]
   have:c/4%2=0∨c/4%2=1:=by lia
   rcases this with z | z
   . refine ⟨.vl (c/8%wide),dRt (mG L (cE ?_)),fun x q=>by cases q⟩;walk_at "w";rw [z];rfl
   . refine ⟨.vl (c/8%3),dRt (mG L (cE ?_)),fun x q=>by cases q⟩;walk_at "w";rw [z];rfl
 . have L:tB2 (gEq false) (toD (d2 bz (vB 0) (kD (.int 4)))) (kD (.int 0)) [some (.leaf (.int c)),some (.leaf (.lst (B.map .str)))]=some false:=by walk_at "w";simp [h]
   obtain ⟨x,O,e⟩:=BP U (c/4);refine ⟨.nm x,dRt ((gp L).trans (cE ?_)),fun y q=>by cases q;exact O⟩;walk_at "w";rw [qa2,d5 (by lia)];walk_at "w";rw [e];rfl
noncomputable def RwB (B:List Str) (q:Nat) (r:Rw):Prop:=(∀ a∈r.atoms,AtB B a)/\∀ g,(∃ a,r=.iff a g)∨r=.go g->g<q
theorem lx {c:De->Option Bool} {r:De->Option Out} {b:Bool} {P:Rw->Prop} (L:c δ=some b) (h1:b=true->∃ q:Rw,g1 δ=some (.rt (.leaf q.d))/\P q) (h2:b=false->∃ q:Rw,r δ=some (.rt (.leaf q.d))/\P q):∃ q:Rw,bc (sIf c g1 cY) r δ=some (.rt (.leaf q.d))/\P q:=by
 cases b with
 | true =>obtain ⟨q,e,p⟩:=h1 rfl;exact ⟨q,mG L e,p⟩
 | false =>obtain ⟨q,e,p⟩:=h2 rfl;exact ⟨q,(gp L).trans e,p⟩
theorem sK {d:Dt} (h:f δ=some d):bc (bX i (toT f)) g δ=g (δ.set i (some (.leaf d))):=by unfold bc bX toT;rw [h];rfl
theorem w8 {d:Dt} {P:Rw->Prop} (h:f δ=some d) (h2:∃ q:Rw,g (δ.set i (some (.leaf d)))=some (.rt (.leaf q.d))/\P q):∃ q:Rw,bc (bX i (toT f)) g δ=some (.rt (.leaf q.d))/\P q:=by rw [sK h];exact h2
theorem runE {P:Rw->Prop} (h:∃ q:Rw,g (ds.map (fun d=>some (T.leaf d))++qf8 (m-ds.length) none)=some (.rt (.leaf q.d))/\P q):∃ q:Rw,dQ m g ds=some (.leaf q.d)/\P q:=by obtain ⟨q,e,p⟩:=h;exact ⟨q,dRt e,p⟩
theorem BQ {B cs ss:List Str} (hB:0<B.length) (hc:0<cs.length) (hs:0<ss.length) (c:Int) (many:Nat) (hm:0<many):∃ r:Rw,q45 [.int c,.lst (B.map .str),.lst (cs.map .str),.lst (ss.map .str),.int many]=some (.leaf r.d)/\RwB B many r:=by
 have e1:toD (d2 bh (toD (d2 bz (toD (d2 gA (vB 0) (kD (.int 48271)))) (kD (.int 2147483647)))) (kD (.int 3))) [some (.leaf (.int c)),some (.leaf (.lst (B.map .str))),some (.leaf (.lst (cs.map .str))),some (.leaf (.lst (ss.map .str))),some (.leaf (.int many)),none,none,none,none,none]=some (.int (c*48271%2147483647/3)):=by walk_at "w"
 have n0:0<=c*48271%2147483647/3:=by have:=qe8 (c*48271) (show (2147483647:Int)≠0 by decide);lia
 generalize c*48271%2147483647/3=num at e1 n0;obtain ⟨x,hx,ex⟩:=BP hB num
 have e2:toD (d2 aB (vB 1) (toD (d2 bz (vB 5) (toD (ah bD (aa (vB 1) ai)))))) [some (.leaf (.int c)),some (.leaf (.lst (B.map .str))),some (.leaf (.lst (cs.map .str))),some (.leaf (.lst (ss.map .str))),some (.leaf (.int many)),some (.leaf (.int num)),none,none,none,none]=some (.str x):=by walk_at "w";rw [qa2,d5 (by lia)];walk_at "w";rw [ex];rfl
 obtain ⟨one,eo,ho⟩:=nN hB (c/14);obtain ⟨q,et,ht⟩:=nN hB (num/11)
 have e3:toD (ah y18 (aa (toD (d2 bh (vB 0) (kD (.int 14)))) (aa (vL 1) ai))) [some (.leaf (.int c)),some (.leaf (.lst (B.map .str))),some (.leaf (.lst (cs.map .str))),some (.leaf (.lst (ss.map .str))),some (.leaf (.int many)),some (.leaf (.int num)),some (.leaf (.str x)),none,none,none]=some one.d:=by walk_at "w";rw [eo];rfl
 have e4:toD (ah y18 (aa (toD (d2 bh (vB 5) (kD (.int 11)))) (aa (vL 1) ai))) [some (.leaf (.int c)),some (.leaf (.lst (B.map .str))),some (.leaf (.lst (cs.map .str))),some (.leaf (.lst (ss.map .str))),some (.leaf (.int many)),some (.leaf (.int num)),some (.leaf (.str x)),some (.leaf one.d),none,none]=some q.d:=by walk_at "w";rw [et];rfl
 have e5:toD (d2 bz (vB 0) (kD (.int 14))) [some (.leaf (.int c)),some (.leaf (.lst (B.map .str))),some (.leaf (.lst (cs.map .str))),some (.leaf (.lst (ss.map .str))),some (.leaf (.int many)),some (.leaf (.int num)),some (.leaf (.str x)),some (.leaf one.d),some (.leaf q.d),none]=some (.int (c%14)):=by walk_at "w"
 have k0:=qe8 c (show (14:Int)≠0 by decide);have k1:=qd4 c (show (0:Int)<14 by decide);generalize c%14=O at e5 k0 k1;have L:∀ r:Rw,r.atoms=[one]->∀ a∈r.atoms,AtB B a:=fun r e a W=>by rw [e] at W;rw [qa9.mp W];exact ho
 have Y:∀ r:Rw,r.atoms=[one,q]->∀ a∈r.atoms,AtB B a:=fun r e a W=>by
  rw [e] at W;rcases qb2.mp W with rfl | W
  . exact ho
  . rw [qa9.mp W];exact ht
 have U:∀ r:Rw,r.atoms=[]->∀ a∈r.atoms,AtB B a:=fun r e a W=>by rw [e] at W;cases W
 have fin:∀ r:Rw,(∀ g,¬ ((∃ a,r=.iff a g)∨r=.go g))->∀ g,(∃ a,r=.iff a g)∨r=.go g->g<many:=fun r h g z=>absurd z (h g)
 obtain ⟨cx,_,Z⟩:=zX (i:=2) (δ:=[some (.leaf (.int c)),some (.leaf (.lst (B.map .str))),some (.leaf (.lst (cs.map .str))),some (.leaf (.lst (ss.map .str))),some (.leaf (.int many)),some (.leaf (.int num)),some (.leaf (.str x)),some (.leaf one.d),some (.leaf q.d),some (.leaf (.int O))]) hc (num:=num) rfl rfl;obtain ⟨fx,_,efx⟩:=zX (i:=3) (δ:=[some (.leaf (.int c)),some (.leaf (.lst (B.map .str))),some (.leaf (.lst (cs.map .str))),some (.leaf (.lst (ss.map .str))),some (.leaf (.int many)),some (.leaf (.int num)),some (.leaf (.str x)),some (.leaf one.d),some (.leaf q.d),some (.leaf (.int O))]) hs (num:=num) rfl rfl
 obtain ⟨sg,esg,_⟩:=sr (x:=qa1 "+-*<=&|^") (i:=num/24%8) (by decide +kernel) (qe8 _ (by decide)) (by
  have:(qa1 "+-*<=&|^").length=8:=by decide +kernel
  rw [this];exact qd4 _ (by decide))
 have esg2:toD (d2 aB (kD (.str "+-*<=&|^")) (toD (d2 bz (toD (d2 bh (vB 5) (kD (.int 24)))) (kD (.int 8))))) [some (.leaf (.int c)),some (.leaf (.lst (B.map .str))),some (.leaf (.lst (cs.map .str))),some (.leaf (.lst (ss.map .str))),some (.leaf (.int many)),some (.leaf (.int num)),some (.leaf (.str x)),some (.leaf one.d),some (.leaf q.d),some (.leaf (.int O))]=some (.str ⟨#[sg]⟩):=aC ((cM (y:=.int (num/24%8)) rfl (by walk_at "w")).trans esg);have g0:=qe8 (num/13) (show (many:Int)≠0 by lia);have g1:=qd4 (num/13) (show (0:Int)<many by lia);obtain ⟨g,hg⟩:∃ g:Nat,num/13%(many:Int)=g:=⟨(num/13%(many:Int)).toNat,by lia⟩
 have eg:toD (d2 bz (toD (d2 bh (vB 5) (kD (.int 13)))) (vB 4)) [some (.leaf (.int c)),some (.leaf (.lst (B.map .str))),some (.leaf (.lst (cs.map .str))),some (.leaf (.lst (ss.map .str))),some (.leaf (.int many)),some (.leaf (.int num)),some (.leaf (.str x)),some (.leaf one.d),some (.leaf q.d),some (.leaf (.int O))]=some (dI g):=by walk_at "w";rw [d5 (by lia),hg];rfl
 have hgm:g<many:=by lia
 unfold q45;refine runE (w8 e1 (w8 e2 (w8 e3 (w8 e4 (w8 e5 ?_)))));refine lx (δ:=[some (.leaf (.int c)),some (.leaf (.lst (B.map .str))),some (.leaf (.lst (cs.map .str))),some (.leaf (.lst (ss.map .str))),some (.leaf (.int many)),some (.leaf (.int num)),some (.leaf (.str x)),some (.leaf one.d),some (.leaf q.d),some (.leaf (.int O))]) (b:=decide (num/7%24=0)) (by walk_at "w") (fun _=>⟨.fin one,cE (cF rfl (by simp)),L _ rfl,fin _ (by simp)⟩) (fun _=>?_);refine lx (b:=decide (O=0)) rfl (fun _=>⟨.copy x one,cE (cF rfl (by simp)),L _ rfl,fin _ (by simp)⟩) (fun _=>?_);refine lx (b:=decide (O<3)) rfl (fun _=>⟨.op x ⟨#[sg]⟩ one q,cE (cF (aY rfl (aY rfl (aY esg2 rfl))) (by simp)),Y _ rfl,fin _ (by simp)⟩) (fun _=>?_);refine lx (b:=decide (O<5)) rfl (fun _=>⟨.load x cx,cE (cF (aY rfl (aY rfl (aY Z rfl))) (by simp)),U _ rfl,fin _ (by simp)⟩) (fun _=>?_);refine lx (b:=decide (O<7)) rfl (fun _=>⟨.store cx one,cE (cF (aY rfl (aY Z rfl)) (by simp)),L _ rfl,fin _ (by simp)⟩) (fun _=>?_);refine lx (b:=decide (O=7)) rfl (fun _=>⟨.take x fx one,cE (cF (aY rfl (aY rfl (aY efx rfl))) (by simp)),L _ rfl,fin _ (by simp)⟩) (fun _=>?_);refine lx (b:=decide (O=8)) rfl (fun _=>⟨.lay fx one q,cE (cF (aY rfl (aY efx rfl)) (by simp)),Y _ rfl,fin _ (by simp)⟩) (fun _=>?_);refine lx (b:=decide (O=9)) rfl (fun _=>⟨.hear x,cE (cF rfl (by simp)),U _ rfl,fin _ (by simp)⟩) (fun _=>?_);refine lx (b:=decide (O=10)) rfl (fun _=>⟨.say one,cE (cF rfl (by simp)),L _ rfl,fin _ (by simp)⟩) (fun _=>?_);refine lx (b:=decide (O<13)) rfl (fun _=>⟨.iff one g,cE (cF (aY rfl (aY rfl (aY eg rfl))) (by simp)),L _ rfl,fun g' h=>by rcases h with ⟨a,h⟩ | h<;>cases h;exact hgm⟩) (fun _=>?_);exact ⟨.go g,cE (cF (aY rfl (aY eg rfl)) (by simp)),U _ rfl,fun g' h=>by rcases h with ⟨a,h⟩ | h<;>cases h;exact hgm⟩
local macro_rules | `(tactic| walk_at "w") => `(tactic| (walk_at "k"; repeat (rw [P41.i6 (by decide) (by decide)]; walk_at "k")))
theorem mH {α β:Type} {f:α->Dt} {h:β->Dt} {P:β->Prop}:∀ {l:List α},(∀ a∈l,∃ δ1 y,bb (f a) δ=some δ1/\fe δ1=some (h y)/\P y)->∃ ys:List β,bL bb bd fe δ (l.map f)=some (ys.map h)/\ys.length=l.length/\∀ y∈ys,P y
 | [],_=>⟨[],rfl,rfl,fun y W=>by cases W⟩
 | a::l,q=>by
  obtain ⟨δ1,y,h1,h2,h3⟩:=q a qe4;obtain ⟨ys,e,O,hp⟩:=mH (l:=l) fun e U=>q e (qd3 _ U)
  refine ⟨y::ys,?_,by simp [O],fun z L=>?_⟩
  . rw [qa3];unfold bL;rw [h1,qa0];show ((fe δ1).bind fun y=>_)=_;rw [h2,qa0,e];rfl
  . rcases qb2.mp L with rfl | L
    . exact h3
    . exact hp z L
theorem RwB.outs {B:List Str} (h:RwB B m r) (hi:i+1<m) (q:j∈r.outs i):j<m:=by
 cases r<;>simp [Rw.outs] at q<;>first | lia | skip
 . rcases q with rfl | rfl
   . exact h.2 _ (.inl ⟨_,rfl⟩)
   . exact hi
 . subst q;exact h.2 _ (.inr rfl)
theorem RwB.reads {B:List Str} (h:RwB B m r) {b:Str} (L:b∈r.reads):b∈B:=by
 have L:=onces_mem.mp L
 have O:∀ l:List Atm,(∀ a∈l,AtB B a)->b∈nms l->b∈B:=fun l=>by
  induction l with
  | nil=>intro _ z;cases z
  | cons a l W =>
   intro q z;cases a with
   | nm x =>
    rcases qb2.mp z with rfl | z
    . exact q _ (.head _) _ rfl
    . exact W (fun a U=>q a (.tail _ U)) z
   | vl i=>exact W (fun a U=>q a (.tail _ U)) z
 exact O _ h.1 L
structure Prg (B:List Str) (rows:List Rw):Prop where
 l0:0<rows.length
 l1:rows.length<=58
 hB:∀ (i:Nat) (r:Rw) (b:Str),rows[i]?=some r->b∈r.reads->b∈B
 hO:∀ (i:Nat) (r:Rw) (j:Nat),rows[i]?=some r->j∈r.outs i->j<rows.length
theorem yX (ns:List Int):∃ ls:List Int,gSl (.lst (ns.map .int)) (some 6) (some 63)=some (.lst (ls.map .int))/\ls.length<=57:=by
 refine ⟨(ns.drop (HT.sIx (ns.map Dt.int).length 0 (some 6))).take (HT.sIx (ns.map Dt.int).length (ns.map Dt.int).length (some 63)-HT.sIx (ns.map Dt.int).length 0 (some 6)),?_,?_⟩
 . show some (T.lst (kj (ns.map Dt.int) (some 6) (some 63)))=_;unfold kj;rw [List.map_take,zd5]
 . have q:=HT.Dk (ns.map Dt.int).length 0 6;have e2:=HT.Dk (ns.map Dt.int).length (ns.map Dt.int).length 63;rw [show (some (6:Int))=some (((6:Nat):Int)) from rfl,show (some (63:Int))=some (((63:Nat):Int)) from rfl,q,e2];simp;lia
theorem w9 {l:List Str} {k:Nat} (h:k<l.length):atI (l.map Dt.str) (k:Int)=some (.str l[k]):=by rw [bY,qb1,gQ h];rfl
variable {th:List Str}
theorem xa (ht:th.length=12) (L:Int) (k:Nat) (Z:k<8):∃ h:Hd,q34 [some (.leaf (dI k)),some (.leaf (.lst (th.map .str))),some (.leaf (.int L))]=some (hdD h)/\True:=by
 have e:=w9 (l:=th) (k:=k) (by lia);have Y:=qe8 (k:Int) (show (4:Int)≠0 by decide);have U:=qd4 (k:Int) (show (0:Int)<4 by decide)
 obtain ⟨q,W,O⟩:∃ q:Int,0<q/\q<10000000000000/\atI [Dt.int 1,.int 2,.int 4,.int 8] ((k:Int)%4)=some (.int q):=by
  generalize (k:Int)%4=z at Y U;have:z=0∨z=1∨z=2∨z=3:=by lia
  rcases this with rfl | rfl | rfl | rfl
  . exact ⟨1,by decide,by decide,rfl⟩
  . exact ⟨2,by decide,by decide,rfl⟩
  . exact ⟨4,by decide,by decide,rfl⟩
  . exact ⟨8,by decide,by decide,rfl⟩
 refine ⟨⟨th[k],L/64%5+k,decide (L/q%3=0)⟩,?_,trivial⟩;unfold q34 dI;walk_at "w";rw [e];walk_at "w";rw [O.2];walk_at "w";rw [i6 W O.1];walk_at "w";rfl
variable {x0 x1 x3 x4 x6 x9 x10 x11 x12 x13:Option T}
theorem qP (ht:th.length=12) (L:Int) (done:List Hd) (hd:done.length<=100) (k:Nat) (Z:k<4):∃ h:Hd,z26 [x0,x1,some (.leaf (.lst (th.map .str))),x3,x4,some (.leaf (.int L)),x6,some (.lst (done.map hdD)),some (.leaf (dI k)),x9,x10,x11,x12,x13]=some (.nx [x0,x1,some (.leaf (.lst (th.map .str))),x3,x4,some (.leaf (.int L)),x6,some (.lst ((done++[h]).map hdD)),some (.leaf (dI k)),x9,x10,x11,x12,x13]):=by
 have e:=w9 (l:=th) (k:=8+k) (by lia);have W:=qe8 (k:Int) (show (2:Int)≠0 by decide);have U:=qd4 (k:Int) (show (0:Int)<2 by decide)
 obtain ⟨q,Y,O⟩:∃ q:Int,0<q/\q<10000000000000/\atI [Dt.int 16,.int 32] ((k:Int)%2)=some (.int q):=by
  generalize (k:Int)%2=z at W U;have:z=0∨z=1:=by lia
  rcases this with rfl | rfl
  . exact ⟨16,by decide,by decide,rfl⟩
  . exact ⟨32,by decide,by decide,rfl⟩
 refine ⟨⟨th[8+k],1+L/5%8,decide (L/q%3=0)⟩,?_⟩;unfold z26 dI;rw [pr rfl];walk_at "w";rw [show (8:Int)+(k:Int)=((8+k:Nat):Int) by lia,e];walk_at "w";rw [O.2];walk_at "w";rw [i6 Y O.1];walk_at "w";rw [jS (by rw [qa2];lia),qf5];rfl
theorem ld {x0 x1 x3 x4 x6 x9 x10 x11 x12 x13:Option T} (O:th.length=12) (q:Int):∀ (d t:Nat) (done:List Hd) (x8:Option T),t+d<=4->done.length=t->∃ (all:List Hd) (L:Option T),all.length=t+d/\fA (ap 8) z26 ((zc3 t d).map dI) [x0,x1,some (.leaf (.lst (th.map .str))),x3,x4,some (.leaf (.int q)),x6,some (.lst (done.map hdD)),x8,x9,x10,x11,x12,x13]=some (.nx [x0,x1,some (.leaf (.lst (th.map .str))),x3,x4,some (.leaf (.int q)),x6,some (.lst (all.map hdD)),L,x9,x10,x11,x12,x13])
 | 0,t,done,x8,_,h=>⟨done,x8,h,rfl⟩
 | d+1,t,done,x8,h1,h2=>by obtain ⟨h,e⟩:=qP (x0:=x0) (x1:=x1) (x3:=x3) (x4:=x4) (x6:=x6) (x9:=x9) (x10:=x10) (x11:=x11) (x12:=x12) (x13:=x13) O q done (by lia) t (by lia);obtain ⟨all,L,g1,g2⟩:=ld (x0:=x0) (x1:=x1) (x3:=x3) (x4:=x4) (x6:=x6) (x9:=x9) (x10:=x10) (x11:=x11) (x12:=x12) (x13:=x13) O q d (t+1) (done++[h]) (some (.leaf (dI t))) (by lia) (by simp;lia);refine ⟨all,L,by lia,?_⟩;rw [List.range'_succ,qa3,dD rfl e,g2]
local macro_rules | `(tactic| walk_at "w") => `(tactic| (walk_at "k"; repeat (rw [P41.i6 (by decide) (by decide)]; walk_at "k")))
variable {x2 x8:Option T} {ls:List Int}
theorem xb {x5:Option T} {B:List Str} {cs ss:List Hd} (hB:0<B.length) (hc:0<cs.length) (Z:cs.length<=100) (O:0<ss.length) (hs2:ss.length<=100) (hl:ls.length<=57) (done:List Rw) (hd:done.length<=100) (c:Int):∃ (r:Rw) (q:Option T),RwB B (ls.length+1) r/\y24 [x0,x1,x2,x3,x4,x5,some (.leaf (.tup (cs.map hdD))),some (.leaf (.tup (ss.map hdD))),x8,some (.leaf (.lst (B.map .str))),some (.leaf (.lst (ls.map .int))),some (.lst (done.map Rw.d)),some (.leaf (.int c)),x13]=some (.nx [x0,x1,x2,x3,x4,x5,some (.leaf (.tup (cs.map hdD))),some (.leaf (.tup (ss.map hdD))),x8,some (.leaf (.lst (B.map .str))),some (.leaf (.lst (ls.map .int))),some (.lst ((done++[r]).map Rw.d)),some (.leaf (.int c)),q]):=by
 obtain ⟨r,W,U⟩:=BQ (B:=B) (cs:=cs.map (·.x)) (ss:=ss.map (·.x)) hB (by simpa using hc) (by simpa using O) c (ls.length+1) (by lia)
 have n2:bL (ap 0) bd z42 [none] (cs.map hdD)=some ((cs.map (·.x)).map .str):=by rw [bP (h:=fun h:Hd=>Dt.str h.x) fun h _=>⟨[some (.leaf (hdD h))],rfl,rfl,rfl⟩,qc0];rfl
 have n1:bL (ap 0) bd y41 [none] (ss.map hdD)=some ((ss.map (·.x)).map .str):=by rw [bP (h:=fun h:Hd=>Dt.str h.x) fun h _=>⟨[some (.leaf (hdD h))],rfl,rfl,rfl⟩,qc0];rfl
 have Y:toD (aW [none] (fIt (vB 6)) (ap 0) bd z42) [x0,x1,x2,x3,x4,x5,some (.leaf (.tup (cs.map hdD))),some (.leaf (.tup (ss.map hdD))),x8,some (.leaf (.lst (B.map .str))),some (.leaf (.lst (ls.map .int))),some (.lst (done.map Rw.d)),some (.leaf (.int c)),x13]=some (.lst ((cs.map (·.x)).map .str)):=aC (cz rfl n2 (by simp;lia));have L:toD (aW [none] (fIt (vB 7)) (ap 0) bd y41) [x0,x1,x2,x3,x4,x5,some (.leaf (.tup (cs.map hdD))),some (.leaf (.tup (ss.map hdD))),x8,some (.leaf (.lst (B.map .str))),some (.leaf (.lst (ls.map .int))),some (.lst (done.map Rw.d)),some (.leaf (.int c)),x13]=some (.lst ((ss.map (·.x)).map .str)):=aC (cz rfl n1 (by simp;lia));refine ⟨r,some (.leaf (.tup [.lst ((cs.map (·.x)).map .str),.lst ((ss.map (·.x)).map .str)])),U,?_⟩;unfold y24;rw [sK (aC (cF (aY Y (aY L rfl)) (by simp)))];show z29 11 _ [x0,x1,x2,x3,x4,x5,some (.leaf (.tup (cs.map hdD))),some (.leaf (.tup (ss.map hdD))),x8,some (.leaf (.lst (B.map .str))),some (.leaf (.lst (ls.map .int))),some (.lst (done.map Rw.d)),some (.leaf (.int c)),some (.leaf (.tup [.lst ((cs.map (·.x)).map .str),.lst ((ss.map (·.x)).map .str)]))]=_;rw [pr rfl];walk_at "w";rw [qa2,show ((ls.length:Int)+1)=((ls.length+1:Nat):Int) by lia,W];walk_at "w";rw [jS (by rw [qa2];lia),qf5];rfl
theorem mI {x0 x1 x2 x3 x4 x5 x8:Option T} {B:List Str} (hB:0<B.length) (Z:0<cs.length) (U:cs.length<=100) (hs:0<ss.length) (W:ss.length<=100) (hl:ls.length<=57):∀ (rest:List Int) (done:List Rw) (x12 x13:Option T),done.length+rest.length<=57->(∀ r∈done,RwB B (ls.length+1) r)->∃ (all:List Rw) (L O:Option T),all.length=done.length+rest.length/\(∀ r∈all,RwB B (ls.length+1) r)/\fA (ap 12) y24 (rest.map .int) [x0,x1,x2,x3,x4,x5,some (.leaf (.tup (cs.map hdD))),some (.leaf (.tup (ss.map hdD))),x8,some (.leaf (.lst (B.map .str))),some (.leaf (.lst (ls.map .int))),some (.lst (done.map Rw.d)),x12,x13]=some (.nx [x0,x1,x2,x3,x4,x5,some (.leaf (.tup (cs.map hdD))),some (.leaf (.tup (ss.map hdD))),x8,some (.leaf (.lst (B.map .str))),some (.leaf (.lst (ls.map .int))),some (.lst (all.map Rw.d)),L,O])
 | [],done,x12,x13,_,h=>⟨done,x12,x13,rfl,h,rfl⟩
 | c::rest,done,x12,x13,h1,h=>by
  obtain ⟨r,Y,hr,e⟩:=xb (x0:=x0) (x1:=x1) (x2:=x2) (x3:=x3) (x4:=x4) (x5:=x5) (x8:=x8) (x13:=x13) hB Z U hs W hl done (by simp at h1;lia) c
  obtain ⟨all,L,O,g1,g2,g3⟩:=mI (x0:=x0) (x1:=x1) (x2:=x2) (x3:=x3) (x4:=x4) (x5:=x5) (x8:=x8) hB Z U hs W hl rest (done++[r]) (some (.leaf (.int c))) Y (by simp at h1 ⊢;lia) (fun q hq=>by
   rcases qe0.mp hq with z | z
   . exact h q z
   . rw [qa9.mp z];exact hr)
  refine ⟨all,L,O,by simp at g1 ⊢;lia,g2,?_⟩;rw [qa3,dD rfl e,g3]
noncomputable def cnt (ns:List Int):Nat:=(2+ns.getD 2 0/4%11).toNat
theorem zY (ns:List Int):(2+ns.getD 2 0/4%11)=((cnt ns:Nat):Int)/\2<=cnt ns/\cnt ns<=12:=by have q:=qe8 (ns.getD 2 0/4) (show (11:Int)≠0 by decide);have h1:=qd4 (ns.getD 2 0/4) (show (0:Int)<11 by decide);unfold cnt;lia
theorem yY (ns:List Int) {B:List Str} (eB:y14 [.int (ns.getD 0 0),.int (cnt ns)]=some (.lst (B.map .str))) (hB:B.length=cnt ns) :
  ∃ (cs ss:List Hd) (rows:List Rw),q18 [.lst (ns.map .int),.int 57]=some (.leaf (pgD cs ss rows))/\0<cs.length/\cs.length<=8/\ss.length<=4/\Prg B rows:=by
 obtain ⟨ce,c0,c1⟩:=zY ns;have k0:y1 [.lst (ns.map .int),.int 0]=some (.leaf (.int (ns.getD 0 0))):=d9 ns 0;have k1:y1 [.lst (ns.map .int),.int 1]=some (.leaf (.int (ns.getD 1 0))):=d9 ns 1;have k2:y1 [.lst (ns.map .int),.int 2]=some (.leaf (.int (ns.getD 2 0))):=d9 ns 2;have k3:y1 [.lst (ns.map .int),.int 3]=some (.leaf (.int (ns.getD 3 0))):=d9 ns 3;have k4:y1 [.lst (ns.map .int),.int 4]=some (.leaf (.int (ns.getD 4 0))):=d9 ns 4;obtain ⟨ls,els,hls⟩:=yX ns
 -- the first names
 obtain ⟨nv,env⟩:∃ nv,∀ b:Bool,b=decide (0<ns.getD 1 0%3)->y1 [.lst (ns.map .int),.int (if b then 1 else 0)]=some (.leaf (.int nv)):=by
  by_cases h:0<ns.getD 1 0%3
  . exact ⟨_,fun b L=>by rw [L,decide_eq_true h];exact k1⟩
  . exact ⟨_,fun b L=>by rw [L,decide_eq_false h];exact k0⟩
 obtain ⟨th,U,Z,_⟩:=pN nv 12 (by decide);have U:y14 [.int nv,.int 12]=some (.lst (th.map .str)):=U
 -- how wide,and how q
 obtain ⟨w,hw1,hw2,ew⟩:∃ w:Int,1<=w/\w<=2/\∀ b:Bool,b=decide (ns.getD 2 0/44%6=1)->1+(if b then (1:Int) else 0)=w:=by
  by_cases h:ns.getD 2 0/44%6=1
  . exact ⟨2,by decide,by decide,fun b L=>by rw [L,decide_eq_true h];rfl⟩
  . exact ⟨1,by decide,by decide,fun b L=>by rw [L,decide_eq_false h];rfl⟩
 have m0:=qe8 (ns.getD 2 0) (show 4*w≠0 by lia);have m1:=qd4 (ns.getD 2 0) (show 0<4*w by lia);obtain ⟨q,hm,hm0,hm1⟩:∃ q:Nat,1+ns.getD 2 0%(4*w)=q/\1<=q/\q<=8:=⟨(1+ns.getD 2 0%(4*w)).toNat,by lia,by lia,by lia⟩;have s0:=qe8 (ns.getD 3 0) (show 2*w≠0 by lia);have s1:=qd4 (ns.getD 3 0) (show 0<2*w by lia);obtain ⟨W,hs,hs0,hs1⟩:∃ W:Nat,1+ns.getD 3 0%(2*w)=W/\1<=W/\W<=4:=⟨(1+ns.getD 3 0%(2*w)).toNat,by lia,by lia,by lia⟩
 obtain ⟨cs,ecs,lcs,_⟩:=mH (bb:=ap 0) (fe:=q34) (δ:=[none,some (.leaf (.lst (th.map .str))),some (.leaf (.int (ns.getD 3 0)))]) (f:=dI) (h:=hdD) (P:=fun _=>True) (l:=qb6 q) fun k hk=>by have hk:=qd0.mp hk;obtain ⟨h,e,_⟩:=xa Z (ns.getD 3 0) k (by lia);exact ⟨_,h,rfl,e,trivial⟩
 rw [qh3] at lcs;obtain ⟨ss,y8,lss,O⟩:=ld (x0:=some (.leaf (.lst (ns.map .int)))) (x1:=some (.leaf (.int 57))) (x3:=some (.leaf (.int w))) (x4:=some (.leaf (.int q))) (x6:=some (.leaf (.tup (cs.map hdD)))) (x9:=none) (x10:=none) (x11:=none) (x12:=none) (x13:=none) Z (ns.getD 3 0) W 0 [] none (by lia) rfl;obtain ⟨rows,y12,y13,lr,hr,er⟩:=mI (x0:=some (.leaf (.lst (ns.map .int)))) (x1:=some (.leaf (.int 57))) (x2:=some (.leaf (.lst (th.map .str)))) (x3:=some (.leaf (.int w))) (x4:=some (.leaf (.int q))) (x5:=some (.leaf (.int (ns.getD 3 0)))) (x8:=y8) (B:=B) (cs:=cs) (ss:=ss) (by lia) (by lia) (by lia) (by lia) (by lia) hls ls [] none none (by simp;lia) (by simp);have lr:rows.length=ls.length:=by simpa using lr
 obtain ⟨Y,ea,ha⟩:=nN (B:=B) (by lia) (ns.getD 4 0);have hlb:RwB B (ls.length+1) (.fin Y):=⟨fun b L=>by rw [qa9.mp L];exact ha,fun g z=>by simp at z⟩;refine ⟨cs,ss,rows++[.fin Y],?_,by lia,by lia,by lia,⟨by simp,by simp;lia,fun i r b h L=>?_,fun i r j h hj=>?_⟩⟩
 . unfold q18;walk_at "w";rw [k1];walk_at "w";rw [env _ rfl];walk_at "w";rw [U];walk_at "w";rw [k2];walk_at "w";rw [ew _ rfl]
   try walk_at "w"
   try rw [k2]
   walk_at "w";rw [d5 (by lia)];walk_at "w";rw [hm,k3];walk_at "w";rw [gU _ (by lia),qa0,ecs,qa0,d6 (by rw [qa2];lia)];walk_at "w";rw [d5 (by lia)];walk_at "w";rw [hs,gU _ (by lia),qa0,List.range_eq_range'];have O:fA (ap 8) z26 ((zc3 0 W).map dI) [some (.leaf (.lst (ns.map .int))),some (.leaf (.int 57)),some (.leaf (.lst (th.map .str))),some (.leaf (.int w)),some (.leaf (.int q)),some (.leaf (.int (ns.getD 3 0))),some (.leaf (.tup (cs.map hdD))),some (.lst []),none,none,none,none,none,none]=_:=O;rw [O,fV];walk_at "w";rw [k0,k2];walk_at "w";rw [ce,eB];walk_at "w";rw [show gSl (Dt.lst (ns.map Dt.int)) (some 6) (some (6+57))=_ from els];walk_at "w";have er:fA (ap 12) y24 (ls.map .int) [some (.leaf (.lst (ns.map .int))),some (.leaf (.int 57)),some (.leaf (.lst (th.map .str))),some (.leaf (.int w)),some (.leaf (.int q)),some (.leaf (.int (ns.getD 3 0))),some (.leaf (.tup (cs.map hdD))),some (.leaf (.tup (ss.map hdD))),y8,some (.leaf (.lst (B.map .str))),some (.leaf (.lst (ls.map .int))),some (.lst []),none,none]=_:=er;rw [er,fV];walk_at "w";rw [pr rfl];walk_at "w";rw [k4];walk_at "w";rw [ea];walk_at "w";rw [jS (by rw [qa2];lia)];walk_at "w";unfold pgD dR;rw [qf5];rfl
 . by_cases hi:i<rows.length
   . rw [qa8 hi] at h;exact (hr r (qc9 h)).reads L
   . rw [gR (by lia)] at h;have:=qc9 h;rw [qa9.mp this] at L;exact hlb.reads L
 . rw [qb8,qn1];by_cases hi:i<rows.length
   . rw [qa8 hi] at h;have:=(hr r (qc9 h)).outs (i:=i) (j:=j) (by lia) hj;lia
   . rw [gR (by lia)] at h;have:=qc9 h;rw [qa9.mp this] at hj;cases hj
theorem gk {α:Type} {f:α->Dt} (h:∀ a,dX (f a) (f a)=true):∀ l:List α,cmpbs (l.map f) (l.map f)=true
 | []=>rfl
 | a::l=>by rw [qa3];unfold cmpbs;rw [h a,gk h l];rfl
theorem i7 {α:Type} {f:α->Dt} (h:∀ a,fZ (f a)<=n):∀ l:List α,deeps (l.map f)<=n
 | []=>qj2 _
 | a::l=>by have h1:=h a;have h2:=i7 h l;rw [qa3];unfold deeps;lia
theorem sL (x:Str):dX (.str x) (.str x)=true:=rfl
theorem pP (x:Str):fZ (.str x)<=0:=by simp [fZ]
theorem BR (p:Nat×List Str):dX (kpD p) (kpD p)=true:=by unfold kpD;simp only [dX,cmpbs,gk sL,qs6];rfl
theorem yZ (p:Nat×List Str):fZ (kpD p)<=5:=by have:=i7 pP p.2;simp only [kpD,fZ,deeps,dI];lia
theorem uw (bs:List Str) (q:List (Nat×List Str)):gEq false (cdD bs q) (cdD bs q)=some (.leaf (.bl true)):=by
 unfold cdD;have h1:=i7 pP bs;have h2:=i7 yZ q;rw [qD (b:=true) ((CY ?_).trans (by rw [peqs_self]))]
 . rfl
 . rw [qb4];refine ⟨?_,decide_eq_true ?_⟩
   . simp only [cmpbs,dX,gk sL,gk BR,qx6]
   . simp only [deeps,fZ];lia
theorem pQ (j:Nat):∀ seen:List Nat,j∈seen->iT (seen.map fun j=>(kI j,CV.dat (.bl true))) (kI j) (.dat (.bl true))=seen.map fun j=>(kI j,.dat (.bl true))
 | [],h=>by cases h
 | a::l,h=>by
  rw [qa3,iT];by_cases e:kI a=kI j
  . rw [if_pos e]
  . rw [if_neg e];rcases qb2.mp h with rfl | h
    . exact absurd rfl e
    . rw [pQ j l h]
theorem ux {δ:Sl} {seen:List Nat} (q:δ[10]?=some (some (.ref 0))) (L:δ[11]?=some (some (.dat (dI j)))) (O:seen.Nodup) (U:seen.length<1000):y57 δ [cK seen]=some (.nx δ [cK (de seen j)]):=by
 unfold y57;refine (kT (v:=.dat (.bl true)) (ch1:=[cK seen]) (ch2:=[cK seen]) (ch3:=[cK seen]) (i:=0) (d:=dI j) (o:=cK seen) (o':=cK (de seen j)) (bV rfl) (iq q) (bV (eh L)) rfl ?_).trans rfl;unfold tI cK dI;show (if _ then _ else none)=_;rw [if_pos ⟨fq (by rw [qa2];lia),sE O⟩,show (qp4 ((j:Nat):Int):Key)=kI j from rfl];unfold de;by_cases h:j∈seen
 . rw [if_pos h,pQ j seen h]
 . rw [if_neg h,jp j seen h]
theorem xc:∀ (ps seen:List Nat) (δ:Sl),δ.length=15->δ[10]?=some (some (.ref 0))->seen.Nodup->seen.length+ps.length<1000->∃ x,ko [11] (ap 11) y57 (ps.map dI) δ [cK seen]=some (.nx (δ.set 11 x) [cK (ps.foldl de seen)]):=by
 intro ps;induction ps with
 | nil =>intro seen δ L _ _ _;refine ⟨δ[11]'(by lia),?_⟩;show some (Og.nx δ [cK seen])=_;simp
 | cons j ps W =>
  intro seen δ L q O U;have Y:(de seen j).length<=seen.length+1:=by unfold de;split<;>simp
  obtain ⟨x,e⟩:=W (de seen j) (δ.set 11 (some (.dat (dI j)))) (by simp [L]) (by simp [q]) (jw O) (by simp at U;lia);refine ⟨x,?_⟩;rw [qa3,jT (by lia) (ux (δ:=δ.set 11 (some (.dat (dI j)))) (j:=j) (by simp [q]) (by simp [L]) O (by lia)),e,List.set_set];rfl
theorem vw_K (h:ch[0]?=some (cK K)):vwD ch 2 (.ref 0)=some (kdD K):=by
 have q:∀ l:List Nat,cI (vwD ch 1) ((l.map fun j=>(kI j,CV.dat (.bl true))).map (·.2))=some (l.map fun _=>.bl true):=fun l=>by
  induction l with
  | nil=>rfl
  | cons a l L=>rw [qa3,qa3,cI,L];rfl
 unfold vwD;rw [h];show qx2 (Dt.dct ((K.map fun j=>(kI j,CV.dat (.bl true))).map (·.1))) _=_;rw [q,qc0];rfl
theorem Dh (h:ch[0]?=some (cK K)):vw ch (.ref 0)=some (kdD K):=by show (ch[0]?).bind vwO=_;rw [h];show qx2 (Dt.dct ((K.map fun j=>(kI j,CV.dat (.bl true))).map (·.1))) (dats _)=_;rw [nI,qc0];rfl
noncomputable def up (h:Hd):Hd:=⟨h.x,h.n,true⟩
theorem zb (cs:List Hd):bL (ap 0) bd z95 [none] (cs.map hdD)=some ((cs.map up).map hdD):=by rw [bP (h:=fun h:Hd=>hdD (up h)) fun h _=>⟨[some (.leaf (hdD h))],rfl,rfl,rfl⟩,qc0];rfl
theorem BS (cs:List Hd) (h:cs.length<=100):q57 [some (.leaf (.tup (cs.map hdD)))]=some (.tup ((cs.map up).map hdD)):=by unfold q57;have e:=aC (cz (src:=[none]) (fi:=fIt (vB 0)) (δ:=[some (.leaf (.tup (cs.map hdD)))]) rfl (zb cs) (by simp;lia));exact aC (t:=.leaf (.tup ((cs.map up).map hdD))) ((cq e).trans rfl)
theorem xf {a:List Nat} {k:Nat}:(de a k).map (fun j:Nat=>(j:Int))=de (a.map fun j:Nat=>(j:Int)) (k:Int):=by
 unfold de;by_cases h:k∈a
 . rw [if_pos h,if_pos (qo5 (f:=fun j:Nat=>(j:Int)) h)]
 . rw [if_neg h,if_neg (fun z=>by obtain ⟨j,q,e⟩:=qd8.mp z;exact h (by rw [show k=j by lia];exact q)),qf5]
   rfl
theorem i8:∀ (ps acc:List Nat),(ps.foldl de acc).map (fun j:Nat=>(j:Int))=(ps.map fun j:Nat=>(j:Int)).foldl de (acc.map fun j:Nat=>(j:Int))
 | [],_=>rfl
 | p::ps,acc=>by rw [qj3,i8 ps,xf];rfl
noncomputable def srt (P:List Nat):List Nat:=(eI (bq (P.map fun j:Nat=>(j:Int)))).map Int.toNat
theorem sM (P:List Nat):(srt P).map (fun j:Nat=>(j:Int))=eI (bq (P.map fun j:Nat=>(j:Int))):=by
 unfold srt;rw [qc0]
 conv=>rhs;rw [<- List.map_id (eI (bq (P.map fun j:Nat=>(j:Int))))]
 refine qo6 fun x q=>?_
 obtain ⟨j,_,rfl⟩:=qd8.mp (oncesK_mem.mp (sortI_mem.mp q));simp
theorem srt_mem {P:List Nat} {x:Nat}:x∈srt P↔x∈P:=by
 have e:x∈srt P↔(x:Int)∈(srt P).map fun j:Nat=>(j:Int):=by
  constructor
  . exact fun h=>qo5 (f:=fun j:Nat=>(j:Int)) h
  . intro h;obtain ⟨j,q,z⟩:=qd8.mp h
    rwa [show x=j by lia]
 rw [e,sM,sortI_mem,oncesK_mem];constructor
 . intro h;obtain ⟨j,q,z⟩:=qd8.mp h
   rwa [show x=j by lia]
 . exact fun h=>qo5 (f:=fun j:Nat=>(j:Int)) h
theorem qQ (l:List Nat):l.map dI=(l.map fun j:Nat=>(j:Int)).map .int:=by rw [qc0];rfl
theorem fX {P:List Nat} (h:∀ p∈P,p<n):(bq P).length<=n:=by
 have:=bU (i0 P) (m:=qb6 n) fun x q=>qd0.mpr (h x (oncesK_mem.mp q))
 simpa using this
theorem nO (P:List Nat):(srt P).length=(bq P).length:=by have:=congrArg qi6 (sM P);rw [qa2,(dy _).length_eq] at this;have e:=i8 P [];have:=congrArg qi6 e;rw [qa2] at this;unfold bq;rw [this];assumption
theorem qR {P:List Nat} (h:∀ p∈P,p<n) (L:n<=58) (q:P.length<=1000):dg [.lst (P.map dI)]=some (.lst ((srt P).map dI)):=by have f:=fX h;have e:=congrArg qi6 (i8 P []);rw [qa2] at e;rw [qQ,pf (by rw [qa2];lia) (by unfold bq at f ⊢;rw [show ([]:List Int)=([]:List Nat).map (fun j:Nat=>(j:Int)) from rfl,<- e];lia),qQ,sM]
theorem lg:∀ l:List Nat,ib (l.map kI)=some (l.map fun j:Nat=>(j:Int))
 | []=>rfl
 | a::l=>by rw [qa3,show kI a=qp4 (a:Int) from rfl,ib,lg l];rfl
theorem xg {P:List Nat} (h:∀ p∈P,p<n) (q:n<=58):eQ [kdD (bq P)]=some (.lst ((srt P).map dI)):=by have f:=fX h;unfold eQ kdD;dsimp only;rw [lg,qa0,if_pos (by rw [qa2];lia),qQ (srt P),sM];unfold bq;rw [i8];rfl
theorem mJ (S:List Nat) (q:List Str) {E:De->Option Dt} (L:∀ j,E [some (.leaf (dI j)),some (.leaf (.tup (q.map .str)))]=some (kpD (j,q))):bL (ap 0) bd E [none,some (.leaf (.tup (q.map .str)))] (S.map dI)=some ((S.map fun j=>(j,q)).map kpD):=by rw [bP (h:=fun j:Nat=>kpD (j,q)) fun j _=>⟨[some (.leaf (dI j)),some (.leaf (.tup (q.map .str)))],rfl,rfl,L j⟩,qc0];rfl
noncomputable def xh (rows:List Rw):List Nat:=(qb6 rows.length).filter fun i=>match rows[i]? with | some r=>Rw.isFin r | none=>false
theorem uy (rows:List Rw):bL (ap 0) z65 (vL 0) [none,some (.leaf (dR rows))] ((qb6 rows.length).map dI)=some ((xh rows).map dI):=cO fun j O=>⟨[some (.leaf (dI j)),some (.leaf (dR rows))],rfl,by
  have L:=qd0.mp O;obtain ⟨r,q⟩:∃ r,rows[j]?=some r:=⟨rows[j],by simp [L]⟩
  have e:aB (dR rows) (dI j)=some (.leaf r.d):=by unfold dR dI;rw [pp,bY,qb1,q];rfl
  unfold z65;walk_at "k";rw [e,q];cases r<;>(simp only [Rw.d,Rw.isFin];walk_at "k")<;>rfl,fun _=>rfl⟩
theorem lo10 {x0 x1 x2 x3 x4 x5 x6 q x8 x9:Dt} {r:Sl} (h:ch[0]?=some (cK K)):vB 10 (lo (some (.dat x0)::some (.dat x1)::some (.dat x2)::some (.dat x3)::some (.dat x4)::some (.dat x5)::some (.dat x6)::some (.dat q)::some (.dat x8)::some (.dat x9)::some (.ref 0)::r) ch)=some (kdD K):=by
 have h1:(ch[0]?).bind tvO=some (.dct (K.map fun j=>(kI j,.bl true))):=by rw [h];exact tv_K K
 have e:(lo (some (.dat x0)::some (.dat x1)::some (.dat x2)::some (.dat x3)::some (.dat x4)::some (.dat x5)::some (.dat x6)::some (.dat q)::some (.dat x8)::some (.dat x9)::some (.ref 0)::r) ch)[10]?=some (some (.dct (K.map fun j=>(kI j,.bl true)))):=by unfold lo;rw [loA,loA,loA,loA,loA,loA,loA,loA,loA,loA,loA,if_neg qg5,h1];rfl
 unfold vB;rw [e];show some (Dt.dct ((K.map fun j=>(kI j,Dt.bl true)).map (·.1)) ((K.map fun j=>(kI j,Dt.bl true)).map (·.2)))=_;unfold kdD;rw [qc0,qc0];rfl
noncomputable def BT:Fs:=(aL (aI 12 (eCV y32 (aw (eD (vL 3)) (aw (eV 10) bQ))))
  (aL (aI 13 (eC y19 (aw (eD (vL 5)) (aw (eD (vL 9)) bQ))))
  (aL (dh (gG (gH (jG 2 z11 (aw (eD (vL 3)) (aw (eV 10) (aw (eD (vL 12)) (aw (eV 13) bQ))))))) (cH (eD (kD (.bl false)))) cD)
  (aL (dh (tD (tB2 (gEq false) (vB 12) (kD (.str "ring")))) (gF (eIx (eV 13) (eD (kD (.int 1)))) (eD (kD (.int 0)))) cD)
  (aL (aI 14 (eC y48 (aw (eD (vL 5)) (aw (eD (vL 9)) bQ))))
  (aL (dh (nj (tD (iy (fw (toD (fF "bool" (vB 14)))))) (nj (tD (tB2 (gEq true) (vB 14) (toD (d2 (gEq false) (vB 12) (kD (.str "")))))) (gG (gH (jG 2 z11 (aw (eD (vL 3)) (aw (eV 10) (aw (eD (vL 12)) (aw (eC y19 (aw (eD (vL 5)) (aw (eD (vL 9)) bQ))) bQ))))))))) (cH (eD (kD (.bl false)))) cD)
  (cH (eD (toD (d2 (gEq false) (vB 9) (toD (bT (aa (vL 8) (aa (toD (ah cu (aa (toD (aW [none,some 8] (fIt (toD (ah eQ (aa (vB 10) ai)))) (ap 0) bd y66)) ai))) ai))))))))))))))
theorem BU:r9=jF 15 (aL (l7 (toD (ah q18 (aa (vL 0) (aa (kD (.int 57)) ai)))) [1,2,3] (iL 3 (cj (ap 1) (cj (ap 2) (cj (ap 3) iK)))))
  (aL (aI 4 (eD (toD (aW [none] (fIt (toD (bT (aa (vL 1) (aa (vL 2) ai))))) (ap 0) bd q57))))
  (aL (aI 5 (eD (toD (bT (aa (toD (d2 aB (vB 4) (kD (.int 0)))) (aa (toD (d2 aB (vB 4) (kD (.int 1)))) (aa (vL 3) ai)))))))
  (aL (aI 6 (eD (toD (ah y14 (aa (toD (ah y1 (aa (vL 0) (aa (kD (.int 0)) ai)))) (aa (toD (d2 cy (kD (.int 2)) (toD (d2 bz (toD (d2 bh (toD (ah y1 (aa (vL 0) (aa (kD (.int 2)) ai)))) (kD (.int 4)))) (kD (.int 11)))))) ai))))))
  (aL (aI 7 (eD (toD (aW [none,none] (fIt (toD (d2 aB (toD (ah z18 (aa (vL 0) (aa (vL 5) (aa (vL 6) ai))))) (kD (.int 1))))) (iL 2 (cj (ap 0) (cj (ap 1) iK))) bd (vL 0)))))
  (aL (dh (tD (tB2 (gEq false) (toD (d2 bz (toD (d2 bh (toD (ah y1 (aa (vL 0) (aa (kD (.int 4)) ai)))) (kD (.int 3)))) (kD (.int 2)))) (kD (.int 0)))) (aI 7 (eD (toD (d2 cy (vB 7) (toD (aW [none,some 3] (cZ dv (aa (toD (ah bD (aa (vB 3) ai))) ai)) (ap 0) z65 (vL 0))))))) cD)
  (aL (aI 8 (eD (toD (ah cu (aa (toD (ah dn (aa (vB 6) ai))) ai)))))
  (aL (aI 9 (eD (toD (bT (aa (vL 8) (aa (toD (ah cu (aa (toD (aW [none,some 8] (fIt (toD (ah dg (aa (vB 7) ai)))) (ap 0) bd y64)) ai))) ai))))))
  (aL (aI 10 (eN km))
  (aL (gl (fIt (vL 7)) [11] (ap 11) y57)
  BT)))))))))):=rfl
variable {ch1:CH} {vs:List CV}
theorem eL {f:Fg} {fs:Fgs} {δ:Sl} {ch2:CH} (h1:f δ ch=some (v,ch1)) (h2:fs δ ch1=some (vs,ch2)):aw f fs δ ch=some (v::vs,ch2):=by unfold aw;rw [h1,qa0];dsimp only;rw [h2];rfl
theorem Flt.keep {o:CO} (f:Flt rows K ch0 v ch) (h:ch0[0]?=some o):ch[0]?=some o:=by
 cases f with
 | fin n e=>exact h
 | ring w R e r q=>rw [qa8 (gX h).1];exact h
 | non e no=>exact h
theorem zZ {r d:Dt} (q:ch[0]?=some (cK K)) (L:vwD ch 2 v=some d):cI (vwD ch 2) [.dat r,.ref 0,.dat s,v]=some [r,kdD K,s,d]:=by unfold cI cI cI cI cI;rw [vw_K q,L];rfl
theorem mK {F:List Dt->Option T} {fs:Fgs} {δ:Sl} (h1:fs δ ch=some (vs,ch1)) (h2:cI (vwD ch1 2) vs=some ds) (h3:F ds=some (.leaf (.bl true))):gG (gH (jG 2 F fs)) δ ch=some (false,ch1):=by
 have e:jG 2 F fs δ ch=some (.dat (.bl true),ch1):=by unfold jG;rw [h1,qa0];dsimp only;rw [h2,qa0,h3];rfl
 unfold gG gH;rw [e];rfl
theorem zd {scr th bx:Dt} {P:List Nat} {cs:List Hd} {B q:List Str} (x11:Option CV)
 (hP:∀ p∈P,p<rows.length) (hr:rows.length<=58) (I:Inp cs ss rows B q ((srt P).map fun j=>(j,q))) :
  ∃ ch',BT [some (.dat scr),some (.dat c),some (.dat s),some (.dat (dR rows)),some (.dat th),some (.dat (pgD cs ss rows)),some (.dat bx),some (.dat (.lst (P.map dI))),some (.dat (.tup (q.map .str))),some (.dat (cdD q ((srt P).map fun j=>(j,q)))),some (.ref 0),x11,none,none,none] [cK (bq P)]=some (.rt (.dat (.bl true)) ch'):=by
 have U:∀ i,i∈((srt P).map fun j=>(j,q)).map (·.1)↔i∈bq P:=fun i=>by rw [qc0,oncesK_mem,<- srt_mem (P:=P)];simp
 have hO:∀ (i j:Nat),j∈cB rows i->j<rows.length:=fun i j h=>by
  unfold cB at h;cases hr:rows[i]? with
  | none=>rw [hr] at h;cases h
  | some r=>rw [hr] at h;exact I.hO i r j hr h
 obtain ⟨L,ed,hd⟩:=BM (K:=bq P) I.hn hO
 have s12:aI 12 (eCV y32 (aw (eD (vL 3)) (aw (eV 10) bQ))) [some (.dat scr),some (.dat c),some (.dat s),some (.dat (dR rows)),some (.dat th),some (.dat (pgD cs ss rows)),some (.dat bx),some (.dat (.lst (P.map dI))),some (.dat (.tup (q.map .str))),some (.dat (cdD q ((srt P).map fun j=>(j,q)))),some (.ref 0),x11,none,none,none] [cK (bq P)]=some (.nx [some (.dat scr),some (.dat c),some (.dat s),some (.dat (dR rows)),some (.dat th),some (.dat (pgD cs ss rows)),some (.dat bx),some (.dat (.lst (P.map dI))),some (.dat (.tup (q.map .str))),some (.dat (cdD q ((srt P).map fun j=>(j,q)))),some (.ref 0),x11,some (.dat (.str L)),none,none] [cK (bq P)]):=by refine aV (v:=.dat (.str L)) (BE (cs:=[.dat (dR rows),.ref 0]) (ds:=[dR rows,kdD (bq P)]) (eL (bV (eh rfl)) (eL (iq rfl) rfl)) ?_ ed);show ((vw [cK (bq P)] (.ref 0)).bind fun d=>(some []).map (d::·)).map (dR rows::·)=_;rw [Dh (K:=bq P) rfl];rfl
 obtain ⟨v,ch1,ef,fl⟩:=lb I [cK (bq P)];have fl:=fl.congr U;have z1:=fl.keep (o:=cK (bq P)) rfl;obtain ⟨d,hv,er,hnn,Z⟩:=lc I.hn fl hd
 have s13:aI 13 (eC y19 (aw (eD (vL 5)) (aw (eD (vL 9)) bQ))) [some (.dat scr),some (.dat c),some (.dat s),some (.dat (dR rows)),some (.dat th),some (.dat (pgD cs ss rows)),some (.dat bx),some (.dat (.lst (P.map dI))),some (.dat (.tup (q.map .str))),some (.dat (cdD q ((srt P).map fun j=>(j,q)))),some (.ref 0),x11,some (.dat (.str L)),none,none] [cK (bq P)]=some (.nx [some (.dat scr),some (.dat c),some (.dat s),some (.dat (dR rows)),some (.dat th),some (.dat (pgD cs ss rows)),some (.dat bx),some (.dat (.lst (P.map dI))),some (.dat (.tup (q.map .str))),some (.dat (cdD q ((srt P).map fun j=>(j,q)))),some (.ref 0),x11,some (.dat (.str L)),some v,none] ch1):=aV (v:=v) ((my (eL (bV (eh rfl)) (eL (bV (eh rfl)) rfl))).trans ef)
 have s14:dh (gG (gH (jG 2 z11 (aw (eD (vL 3)) (aw (eV 10) (aw (eD (vL 12)) (aw (eV 13) bQ))))))) (cH (eD (kD (.bl false)))) cD [some (.dat scr),some (.dat c),some (.dat s),some (.dat (dR rows)),some (.dat th),some (.dat (pgD cs ss rows)),some (.dat bx),some (.dat (.lst (P.map dI))),some (.dat (.tup (q.map .str))),some (.dat (cdD q ((srt P).map fun j=>(j,q)))),some (.ref 0),x11,some (.dat (.str L)),some v,none] ch1=some (.nx [some (.dat scr),some (.dat c),some (.dat s),some (.dat (dR rows)),some (.dat th),some (.dat (pgD cs ss rows)),some (.dat bx),some (.dat (.lst (P.map dI))),some (.dat (.tup (q.map .str))),some (.dat (cdD q ((srt P).map fun j=>(j,q)))),some (.ref 0),x11,some (.dat (.str L)),some v,none] ch1):=by rw [gj (mK (eL (bV (eh rfl)) (eL (iq rfl) (eL (bV (eh rfl)) (eL (iq rfl) rfl)))) (zZ z1 hv) er)];rfl
 obtain ⟨ch2,s15,z2⟩:∃ ch2,dh (tD (tB2 (gEq false) (vB 12) (kD (.str "ring")))) (gF (eIx (eV 13) (eD (kD (.int 1)))) (eD (kD (.int 0)))) cD [some (.dat scr),some (.dat c),some (.dat s),some (.dat (dR rows)),some (.dat th),some (.dat (pgD cs ss rows)),some (.dat bx),some (.dat (.lst (P.map dI))),some (.dat (.tup (q.map .str))),some (.dat (cdD q ((srt P).map fun j=>(j,q)))),some (.ref 0),x11,some (.dat (.str L)),some v,none] ch1=some (.nx [some (.dat scr),some (.dat c),some (.dat s),some (.dat (dR rows)),some (.dat th),some (.dat (pgD cs ss rows)),some (.dat bx),some (.dat (.lst (P.map dI))),some (.dat (.tup (q.map .str))),some (.dat (cdD q ((srt P).map fun j=>(j,q)))),some (.ref 0),x11,some (.dat (.str L)),some v,none] ch2)/\ch2[0]?=some (cK (bq P)):=by
  have ht:tD (tB2 (gEq false) (vB 12) (kD (.str "ring"))) [some (.dat scr),some (.dat c),some (.dat s),some (.dat (dR rows)),some (.dat th),some (.dat (pgD cs ss rows)),some (.dat bx),some (.dat (.lst (P.map dI))),some (.dat (.tup (q.map .str))),some (.dat (cdD q ((srt P).map fun j=>(j,q)))),some (.ref 0),x11,some (.dat (.str L)),some v,none] ch1=some (decide (L="ring"),ch1):=i3 (gW (x:=.str L) (y:=.str "ring") (eJ rfl) rfl rfl);by_cases h:L="ring"
  . rw [decide_eq_true h] at ht;obtain ⟨w,R,hR,rfl,rfl⟩:=Z h;refine ⟨[cK (bq P),cL w,.lst ((R.map fun j=>CV.dat (dI j))++[.dat (.int 0)]),.tup [.dat (.str "ring"),.ref 2]],(iB ht).trans ?_,rfl⟩
    . show (if (R.map fun j=>CV.dat (dI j)).length<qb0 then _ else none)=_;rw [if_pos (fq (by rw [qa2];lia))];rfl
  . rw [decide_eq_false h] at ht;exact ⟨ch1,(gj ht).trans rfl,z1⟩
 obtain ⟨v3,ch3,ef3,Y⟩:=lb I ch2;have Y:=Y.congr U;have z3:=Y.keep z2;obtain ⟨d3,hv3,er3,hnn3,_⟩:=lc I.hn Y hd
 have s16:aI 14 (eC y48 (aw (eD (vL 5)) (aw (eD (vL 9)) bQ))) [some (.dat scr),some (.dat c),some (.dat s),some (.dat (dR rows)),some (.dat th),some (.dat (pgD cs ss rows)),some (.dat bx),some (.dat (.lst (P.map dI))),some (.dat (.tup (q.map .str))),some (.dat (cdD q ((srt P).map fun j=>(j,q)))),some (.ref 0),x11,some (.dat (.str L)),some v,none] ch2=some (.nx [some (.dat scr),some (.dat c),some (.dat s),some (.dat (dR rows)),some (.dat th),some (.dat (pgD cs ss rows)),some (.dat bx),some (.dat (.lst (P.map dI))),some (.dat (.tup (q.map .str))),some (.dat (cdD q ((srt P).map fun j=>(j,q)))),some (.ref 0),x11,some (.dat (.str L)),some v,some (.dat (.bl (decide (L=""))))] ch3):=by have hh:=wT ef3 hv3;rw [hnn3] at hh;exact aV (v:=.dat (.bl (decide (L="")))) ((my (eL (bV (eh rfl)) (eL (bV (eh rfl)) rfl))).trans hh)
 obtain ⟨v4,O,ef4,W⟩:=lb I ch3;have W:=W.congr U;have z4:=W.keep z3;obtain ⟨d4,hv4,er4,hnn4,_⟩:=lc I.hn W hd
 have s17:dh (nj (tD (iy (fw (toD (fF "bool" (vB 14)))))) (nj (tD (tB2 (gEq true) (vB 14) (toD (d2 (gEq false) (vB 12) (kD (.str "")))))) (gG (gH (jG 2 z11 (aw (eD (vL 3)) (aw (eV 10) (aw (eD (vL 12)) (aw (eC y19 (aw (eD (vL 5)) (aw (eD (vL 9)) bQ))) bQ))))))))) (cH (eD (kD (.bl false)))) cD [some (.dat scr),some (.dat c),some (.dat s),some (.dat (dR rows)),some (.dat th),some (.dat (pgD cs ss rows)),some (.dat bx),some (.dat (.lst (P.map dI))),some (.dat (.tup (q.map .str))),some (.dat (cdD q ((srt P).map fun j=>(j,q)))),some (.ref 0),x11,some (.dat (.str L)),some v,some (.dat (.bl (decide (L=""))))] ch3=some (.nx [some (.dat scr),some (.dat c),some (.dat s),some (.dat (dR rows)),some (.dat th),some (.dat (pgD cs ss rows)),some (.dat bx),some (.dat (.lst (P.map dI))),some (.dat (.tup (q.map .str))),some (.dat (cdD q ((srt P).map fun j=>(j,q)))),some (.ref 0),x11,some (.dat (.str L)),some v,some (.dat (.bl (decide (L=""))))] O):=by
  have t1:tD (iy (fw (toD (fF "bool" (vB 14))))) [some (.dat scr),some (.dat c),some (.dat s),some (.dat (dR rows)),some (.dat th),some (.dat (pgD cs ss rows)),some (.dat bx),some (.dat (.lst (P.map dI))),some (.dat (.tup (q.map .str))),some (.dat (cdD q ((srt P).map fun j=>(j,q)))),some (.ref 0),x11,some (.dat (.str L)),some v,some (.dat (.bl (decide (L=""))))] ch3=some (false,ch3):=by refine i3 ?_;unfold iy fw toD fF;rw [eJ (i:=14) (d:=.bl (decide (L=""))) rfl];rfl
  have t2:tD (tB2 (gEq true) (vB 14) (toD (d2 (gEq false) (vB 12) (kD (.str ""))))) [some (.dat scr),some (.dat c),some (.dat s),some (.dat (dR rows)),some (.dat th),some (.dat (pgD cs ss rows)),some (.dat bx),some (.dat (.lst (P.map dI))),some (.dat (.tup (q.map .str))),some (.dat (cdD q ((srt P).map fun j=>(j,q)))),some (.ref 0),x11,some (.dat (.str L)),some v,some (.dat (.bl (decide (L=""))))] ch3=some (false,ch3):=i3 (gW (x:=.bl (decide (L=""))) (y:=.bl (decide (L=""))) (eJ rfl) (aC (t:=.leaf (.bl (decide (L="")))) ((cM (x:=.str L) (y:=.str "") (eJ rfl) rfl).trans rfl)) (by cases decide (L="")<;>rfl))
  have t3:gG (gH (jG 2 z11 (aw (eD (vL 3)) (aw (eV 10) (aw (eD (vL 12)) (aw (eC y19 (aw (eD (vL 5)) (aw (eD (vL 9)) bQ))) bQ)))))) [some (.dat scr),some (.dat c),some (.dat s),some (.dat (dR rows)),some (.dat th),some (.dat (pgD cs ss rows)),some (.dat bx),some (.dat (.lst (P.map dI))),some (.dat (.tup (q.map .str))),some (.dat (cdD q ((srt P).map fun j=>(j,q)))),some (.ref 0),x11,some (.dat (.str L)),some v,some (.dat (.bl (decide (L=""))))] ch3=some (false,O):=mK (eL (bV (eh rfl)) (eL (iq rfl) (eL (bV (eh rfl)) (eL ((my (eL (bV (eh rfl)) (eL (bV (eh rfl)) rfl))).trans ef4) rfl)))) (zZ z4 hv4) er4
  refine (gj (ch1:=O) ?_).trans rfl;unfold nj;rw [t1];dsimp only [qa0];rw [if_neg (by simp),t2];dsimp only [qa0];rw [if_neg (by simp)];exact t3
 refine ⟨O,?_⟩;unfold BT;rw [aA s12,aA s13,aA s14,aA s15,aA s16,aA s17];have hl:=nO P;have hf:=fX hP;have e1:toD (ah eQ (aa (vB 10) ai)) (lo [some (.dat scr),some (.dat c),some (.dat s),some (.dat (dR rows)),some (.dat th),some (.dat (pgD cs ss rows)),some (.dat bx),some (.dat (.lst (P.map dI))),some (.dat (.tup (q.map .str))),some (.dat (cdD q ((srt P).map fun j=>(j,q)))),some (.ref 0),x11,some (.dat (.str L)),some v,some (.dat (.bl (decide (L=""))))] O)=some (.lst ((srt P).map dI)):=aC ((cq (lo10 z4)).trans (xg hP hr));have e2:=aC (cz (src:=[none,some 8]) (fi:=fIt (toD (ah eQ (aa (vB 10) ai)))) (bb:=ap 0) (ft:=bd) (fe:=y66) (k8 e1 rfl) (mJ (srt P) q (E:=y66) (fun j=>rfl)) (by simp;lia))
 have e3:eD (toD (d2 (gEq false) (vB 9) (toD (bT (aa (vL 8) (aa (toD (ah cu (aa (toD (aW [none,some 8] (fIt (toD (ah eQ (aa (vB 10) ai)))) (ap 0) bd y66)) ai))) ai)))))) [some (.dat scr),some (.dat c),some (.dat s),some (.dat (dR rows)),some (.dat th),some (.dat (pgD cs ss rows)),some (.dat bx),some (.dat (.lst (P.map dI))),some (.dat (.tup (q.map .str))),some (.dat (cdD q ((srt P).map fun j=>(j,q)))),some (.ref 0),x11,some (.dat (.str L)),some v,some (.dat (.bl (decide (L=""))))] O=some (.dat (.bl true),O):=bV (aC ((cM (x:=cdD q ((srt P).map fun j=>(j,q))) (y:=cdD q ((srt P).map fun j=>(j,q))) rfl (aC (t:=.leaf (cdD q ((srt P).map fun j=>(j,q)))) (cF (ds:=[.tup (q.map .str),.tup (((srt P).map fun j=>(j,q)).map kpD)]) (aY rfl (aY (aC (t:=.leaf (.tup (((srt P).map fun j=>(j,q)).map kpD))) ((cq e2).trans rfl)) rfl)) (by simp)))).trans (uw _ _)))
 unfold cH;rw [e3];rfl
theorem BV {fs:De->Option (List Dt)} {l:List Dt} (h:fs δ=some ds) (h2:dv ds=some l):cZ dv fs δ=some l:=by unfold cZ;rw [h];exact h2
theorem Di (rows:List Rw):bD [dR rows]=some (.leaf (.int rows.length)):=by unfold dR;show some (T.leaf (.int (rows.map Rw.d).length))=_;rw [qa2]
theorem main (ns:List Int) (hns:ns.length<=63):∃ ch',r9 [.dat (.lst (ns.map .int))] []=some (.dat (.bl true),ch'):=by
 obtain ⟨ce,cc0,cc1⟩:=zY ns;obtain ⟨B,eB,hB,_⟩:=pN (ns.getD 0 0) (cnt ns) (by lia);obtain ⟨cs,ss,rows,ep,c0,c1,s1,G⟩:=yY ns eB hB
 obtain ⟨h0,cs',hcs⟩:∃ h0 cs',cs.map up=h0::cs':=by
  cases cs with
  | nil=>cases c0
  | cons a l=>exact ⟨_,_,rfl⟩
 have g0:=G.l0;have g1:=G.l1;obtain ⟨bs,L,ec,hk,hkl⟩:=qO (ns:=ns) (cs:=cs.map up) (ss:=ss.map up) (rows:=rows) (B:=B) hcs (by lia) (by lia);have k0:y1 [.lst (ns.map .int),.int 0]=some (.leaf (.int (ns.getD 0 0))):=d9 ns 0;have k2:y1 [.lst (ns.map .int),.int 2]=some (.leaf (.int (ns.getD 2 0))):=d9 ns 2;have k4:y1 [.lst (ns.map .int),.int 4]=some (.leaf (.int (ns.getD 4 0))):=d9 ns 4
 have t1:l7 (toD (ah q18 (aa (vL 0) (aa (kD (.int 57)) ai)))) [1,2,3] (iL 3 (cj (ap 1) (cj (ap 2) (cj (ap 3) iK)))) [some (.dat (.lst (ns.map .int))),none,none,none,none,none,none,none,none,none,none,none,none,none,none] []=some (.nx [some (.dat (.lst (ns.map .int))),some (.dat (.tup (cs.map hdD))),some (.dat (.tup (ss.map hdD))),some (.dat (dR rows)),none,none,none,none,none,none,none,none,none,none,none] []):=by have e:toD (ah q18 (aa (vL 0) (aa (kD (.int 57)) ai))) (lo [some (.dat (.lst (ns.map .int))),none,none,none,none,none,none,none,none,none,none,none,none,none,none] [])=some (pgD cs ss rows):=aC (t:=.leaf (pgD cs ss rows)) ((ej (x:=.lst (ns.map .int)) (y:=.int 57) rfl rfl).trans ep);unfold l7;rw [e];rfl
 have t2:aI 4 (eD (toD (aW [none] (fIt (toD (bT (aa (vL 1) (aa (vL 2) ai))))) (ap 0) bd q57))) [some (.dat (.lst (ns.map .int))),some (.dat (.tup (cs.map hdD))),some (.dat (.tup (ss.map hdD))),some (.dat (dR rows)),none,none,none,none,none,none,none,none,none,none,none] []=some (.nx [some (.dat (.lst (ns.map .int))),some (.dat (.tup (cs.map hdD))),some (.dat (.tup (ss.map hdD))),some (.dat (dR rows)),some (.dat (.lst [.tup ((cs.map up).map hdD),.tup ((ss.map up).map hdD)])),none,none,none,none,none,none,none,none,none,none] []):=by
  have e0:toD (bT (aa (vL 1) (aa (vL 2) ai))) (lo [some (.dat (.lst (ns.map .int))),some (.dat (.tup (cs.map hdD))),some (.dat (.tup (ss.map hdD))),some (.dat (dR rows)),none,none,none,none,none,none,none,none,none,none,none] [])=some (.tup [.tup (cs.map hdD),.tup (ss.map hdD)]):=aC (cF rfl (by simp))
  have e1:bL (ap 0) bd q57 [none] ([cs,ss].map fun l=>.tup (l.map hdD))=some ([cs,ss].map fun l=>.tup ((l.map up).map hdD)):=bP fun l hl=>⟨[some (.leaf (.tup (l.map hdD)))],rfl,rfl,BS l (by simp at hl;rcases hl with rfl | rfl<;>lia)⟩
  exact aV (bV (aC (cz (src:=[none]) (k8 e0 rfl) e1 (by simp))))
 have t3:aI 5 (eD (toD (bT (aa (toD (d2 aB (vB 4) (kD (.int 0)))) (aa (toD (d2 aB (vB 4) (kD (.int 1)))) (aa (vL 3) ai)))))) [some (.dat (.lst (ns.map .int))),some (.dat (.tup (cs.map hdD))),some (.dat (.tup (ss.map hdD))),some (.dat (dR rows)),some (.dat (.lst [.tup ((cs.map up).map hdD),.tup ((ss.map up).map hdD)])),none,none,none,none,none,none,none,none,none,none] []=some (.nx [some (.dat (.lst (ns.map .int))),some (.dat (.tup (cs.map hdD))),some (.dat (.tup (ss.map hdD))),some (.dat (dR rows)),some (.dat (.lst [.tup ((cs.map up).map hdD),.tup ((ss.map up).map hdD)])),some (.dat (pgD (cs.map up) (ss.map up) rows)),none,none,none,none,none,none,none,none,none] []):=aV (bV (aC (cF (ds:=[.tup ((cs.map up).map hdD),.tup ((ss.map up).map hdD),dR rows]) rfl (by simp))))
 have t4:aI 6 (eD (toD (ah y14 (aa (toD (ah y1 (aa (vL 0) (aa (kD (.int 0)) ai)))) (aa (toD (d2 cy (kD (.int 2)) (toD (d2 bz (toD (d2 bh (toD (ah y1 (aa (vL 0) (aa (kD (.int 2)) ai)))) (kD (.int 4)))) (kD (.int 11)))))) ai))))) [some (.dat (.lst (ns.map .int))),some (.dat (.tup (cs.map hdD))),some (.dat (.tup (ss.map hdD))),some (.dat (dR rows)),some (.dat (.lst [.tup ((cs.map up).map hdD),.tup ((ss.map up).map hdD)])),some (.dat (pgD (cs.map up) (ss.map up) rows)),none,none,none,none,none,none,none,none,none] []=some (.nx [some (.dat (.lst (ns.map .int))),some (.dat (.tup (cs.map hdD))),some (.dat (.tup (ss.map hdD))),some (.dat (dR rows)),some (.dat (.lst [.tup ((cs.map up).map hdD),.tup ((ss.map up).map hdD)])),some (.dat (pgD (cs.map up) (ss.map up) rows)),some (.dat (.lst (B.map .str))),none,none,none,none,none,none,none,none] []):=by
  have U:toD (ah y1 (aa (vL 0) (aa (kD (.int 0)) ai))) (lo [some (.dat (.lst (ns.map .int))),some (.dat (.tup (cs.map hdD))),some (.dat (.tup (ss.map hdD))),some (.dat (dR rows)),some (.dat (.lst [.tup ((cs.map up).map hdD),.tup ((ss.map up).map hdD)])),some (.dat (pgD (cs.map up) (ss.map up) rows)),none,none,none,none,none,none,none,none,none] [])=some (.int (ns.getD 0 0)):=aC ((ej (x:=.lst (ns.map .int)) (y:=.int 0) rfl rfl).trans k0);have Y:toD (ah y1 (aa (vL 0) (aa (kD (.int 2)) ai))) (lo [some (.dat (.lst (ns.map .int))),some (.dat (.tup (cs.map hdD))),some (.dat (.tup (ss.map hdD))),some (.dat (dR rows)),some (.dat (.lst [.tup ((cs.map up).map hdD),.tup ((ss.map up).map hdD)])),some (.dat (pgD (cs.map up) (ss.map up) rows)),none,none,none,none,none,none,none,none,none] [])=some (.int (ns.getD 2 0)):=aC ((ej (x:=.lst (ns.map .int)) (y:=.int 2) rfl rfl).trans k2)
  have a3:toD (d2 cy (kD (.int 2)) (toD (d2 bz (toD (d2 bh (toD (ah y1 (aa (vL 0) (aa (kD (.int 2)) ai)))) (kD (.int 4)))) (kD (.int 11))))) (lo [some (.dat (.lst (ns.map .int))),some (.dat (.tup (cs.map hdD))),some (.dat (.tup (ss.map hdD))),some (.dat (dR rows)),some (.dat (.lst [.tup ((cs.map up).map hdD),.tup ((ss.map up).map hdD)])),some (.dat (pgD (cs.map up) (ss.map up) rows)),none,none,none,none,none,none,none,none,none] [])=some (.int (cnt ns)):=by rw [<- ce];exact aC ((cM (x:=.int 2) rfl (aC ((cM (aC ((cM Y rfl).trans (i6 (by decide) (by decide)))) rfl).trans (d5 (by decide))))).trans Ba)
  exact aV (bV (aC (t:=.lst (B.map .str)) ((ej U a3).trans eB)))
 have t5:aI 7 (eD (toD (aW [none,none] (fIt (toD (d2 aB (toD (ah z18 (aa (vL 0) (aa (vL 5) (aa (vL 6) ai))))) (kD (.int 1))))) (iL 2 (cj (ap 0) (cj (ap 1) iK))) bd (vL 0)))) [some (.dat (.lst (ns.map .int))),some (.dat (.tup (cs.map hdD))),some (.dat (.tup (ss.map hdD))),some (.dat (dR rows)),some (.dat (.lst [.tup ((cs.map up).map hdD),.tup ((ss.map up).map hdD)])),some (.dat (pgD (cs.map up) (ss.map up) rows)),some (.dat (.lst (B.map .str))),none,none,none,none,none,none,none,none] []=some (.nx [some (.dat (.lst (ns.map .int))),some (.dat (.tup (cs.map hdD))),some (.dat (.tup (ss.map hdD))),some (.dat (dR rows)),some (.dat (.lst [.tup ((cs.map up).map hdD),.tup ((ss.map up).map hdD)])),some (.dat (pgD (cs.map up) (ss.map up) rows)),some (.dat (.lst (B.map .str))),some (.dat (.lst ((L.map (·.1)).map dI))),none,none,none,none,none,none,none] []):=by
  have U:toD (ah z18 (aa (vL 0) (aa (vL 5) (aa (vL 6) ai)))) (lo [some (.dat (.lst (ns.map .int))),some (.dat (.tup (cs.map hdD))),some (.dat (.tup (ss.map hdD))),some (.dat (dR rows)),some (.dat (.lst [.tup ((cs.map up).map hdD),.tup ((ss.map up).map hdD)])),some (.dat (pgD (cs.map up) (ss.map up) rows)),some (.dat (.lst (B.map .str))),none,none,none,none,none,none,none,none] [])=some (cdD bs L):=by refine aC (t:=.leaf (cdD bs L)) ?_;unfold ah;rw [aY (d:=.lst (ns.map .int)) rfl (aY (d:=pgD (cs.map up) (ss.map up) rows) rfl (aY (d:=.lst (B.map .str)) (ds:=[]) rfl rfl))];exact ec
  have Y:bL (iL 2 (cj (ap 0) (cj (ap 1) iK))) bd (vL 0) [none,none] (L.map kpD)=some ((L.map (·.1)).map dI):=by rw [bP (h:=fun p:Nat×List Str=>dI p.1) fun p _=>⟨[some (.leaf (dI p.1)),some (.leaf (.tup (p.2.map .str)))],rfl,rfl,rfl⟩,qc0];rfl
  exact aV (bV (aC (cz (src:=[none,none]) (k8 (aC (t:=.leaf (.tup (L.map kpD))) ((cM U rfl).trans rfl)) rfl) Y (by simp;lia))))
 obtain ⟨P,t6,hP,hPl⟩:∃ P:List Nat,dh (tD (tB2 (gEq false) (toD (d2 bz (toD (d2 bh (toD (ah y1 (aa (vL 0) (aa (kD (.int 4)) ai)))) (kD (.int 3)))) (kD (.int 2)))) (kD (.int 0)))) (aI 7 (eD (toD (d2 cy (vB 7) (toD (aW [none,some 3] (cZ dv (aa (toD (ah bD (aa (vB 3) ai))) ai)) (ap 0) z65 (vL 0))))))) cD [some (.dat (.lst (ns.map .int))),some (.dat (.tup (cs.map hdD))),some (.dat (.tup (ss.map hdD))),some (.dat (dR rows)),some (.dat (.lst [.tup ((cs.map up).map hdD),.tup ((ss.map up).map hdD)])),some (.dat (pgD (cs.map up) (ss.map up) rows)),some (.dat (.lst (B.map .str))),some (.dat (.lst ((L.map (·.1)).map dI))),none,none,none,none,none,none,none] []=some (.nx [some (.dat (.lst (ns.map .int))),some (.dat (.tup (cs.map hdD))),some (.dat (.tup (ss.map hdD))),some (.dat (dR rows)),some (.dat (.lst [.tup ((cs.map up).map hdD),.tup ((ss.map up).map hdD)])),some (.dat (pgD (cs.map up) (ss.map up) rows)),some (.dat (.lst (B.map .str))),some (.dat (.lst (P.map dI))),none,none,none,none,none,none,none] [])/\(∀ p∈P,p<rows.length)/\P.length<=200:=by
  have U:toD (ah y1 (aa (vL 0) (aa (kD (.int 4)) ai))) (lo [some (.dat (.lst (ns.map .int))),some (.dat (.tup (cs.map hdD))),some (.dat (.tup (ss.map hdD))),some (.dat (dR rows)),some (.dat (.lst [.tup ((cs.map up).map hdD),.tup ((ss.map up).map hdD)])),some (.dat (pgD (cs.map up) (ss.map up) rows)),some (.dat (.lst (B.map .str))),some (.dat (.lst ((L.map (·.1)).map dI))),none,none,none,none,none,none,none] [])=some (.int (ns.getD 4 0)):=aC ((ej (x:=.lst (ns.map .int)) (y:=.int 4) rfl rfl).trans k4);have ht:tD (tB2 (gEq false) (toD (d2 bz (toD (d2 bh (toD (ah y1 (aa (vL 0) (aa (kD (.int 4)) ai)))) (kD (.int 3)))) (kD (.int 2)))) (kD (.int 0))) [some (.dat (.lst (ns.map .int))),some (.dat (.tup (cs.map hdD))),some (.dat (.tup (ss.map hdD))),some (.dat (dR rows)),some (.dat (.lst [.tup ((cs.map up).map hdD),.tup ((ss.map up).map hdD)])),some (.dat (pgD (cs.map up) (ss.map up) rows)),some (.dat (.lst (B.map .str))),some (.dat (.lst ((L.map (·.1)).map dI))),none,none,none,none,none,none,none] []=some (decide (ns.getD 4 0/3%2=0),[]):=i3 (gW (x:=.int (ns.getD 4 0/3%2)) (y:=.int 0) (aC (t:=.leaf (.int (ns.getD 4 0/3%2))) ((cM (aC ((cM U rfl).trans (i6 (by decide) (by decide)))) rfl).trans (d5 (by decide)))) rfl Be)
  have Z:∀ p∈L.map (·.1),p<rows.length:=fun p hp=>by obtain ⟨q,hq,rfl⟩:=qd8.mp hp;exact hk q hq
  have he:(xh rows).length<=rows.length:=by have:=qg3 (fun i=>match rows[i]? with | some r=>Rw.isFin r | none=>false) (qb6 rows.length);rw [qh3] at this;exact this
  by_cases h:ns.getD 4 0/3%2=0
  . rw [decide_eq_true h] at ht;refine ⟨L.map (·.1)++xh rows,(iB ht).trans ?_,fun p hp=>?_,by simp;lia⟩
    . have Y:cZ dv (aa (toD (ah bD (aa (vB 3) ai))) ai) (lo [some (.dat (.lst (ns.map .int))),some (.dat (.tup (cs.map hdD))),some (.dat (.tup (ss.map hdD))),some (.dat (dR rows)),some (.dat (.lst [.tup ((cs.map up).map hdD),.tup ((ss.map up).map hdD)])),some (.dat (pgD (cs.map up) (ss.map up) rows)),some (.dat (.lst (B.map .str))),some (.dat (.lst ((L.map (·.1)).map dI))),none,none,none,none,none,none,none] [])=some ((qb6 rows.length).map dI):=by exact BV (aY (aC (t:=.leaf (.int rows.length)) ((cq (x:=dR rows) rfl).trans (Di rows))) rfl) (gU _ (by lia))
      refine aV (bV (aC (t:=.lst ((L.map (·.1)++xh rows).map dI)) ((cM (x:=.lst ((L.map (·.1)).map dI)) (y:=.lst ((xh rows).map dI)) rfl (aC (cz (src:=[none,some 3]) Y (uy rows) (by simp;lia)))).trans ?_)));rw [su (by simp;lia),qf5]
    . rcases qe0.mp hp with hp | hp
      . exact Z p hp
      . exact qd0.mp (qh0.mp hp).1
  . rw [decide_eq_false h] at ht;exact ⟨L.map (·.1),(gj ht).trans rfl,Z,by simp;lia⟩
 have t7:aI 8 (eD (toD (ah cu (aa (toD (ah dn (aa (vB 6) ai))) ai)))) [some (.dat (.lst (ns.map .int))),some (.dat (.tup (cs.map hdD))),some (.dat (.tup (ss.map hdD))),some (.dat (dR rows)),some (.dat (.lst [.tup ((cs.map up).map hdD),.tup ((ss.map up).map hdD)])),some (.dat (pgD (cs.map up) (ss.map up) rows)),some (.dat (.lst (B.map .str))),some (.dat (.lst (P.map dI))),none,none,none,none,none,none,none] []=some (.nx [some (.dat (.lst (ns.map .int))),some (.dat (.tup (cs.map hdD))),some (.dat (.tup (ss.map hdD))),some (.dat (dR rows)),some (.dat (.lst [.tup ((cs.map up).map hdD),.tup ((ss.map up).map hdD)])),some (.dat (pgD (cs.map up) (ss.map up) rows)),some (.dat (.lst (B.map .str))),some (.dat (.lst (P.map dI))),some (.dat (.tup ((aZ B).map .str))),none,none,none,none,none,none] []):=aV (bV (aC (t:=.leaf (.tup ((aZ B).map .str))) ((cq (aC ((cq (x:=.lst (B.map .str)) rfl).trans (kW (by lia))))).trans rfl)))
 have t8:aI 9 (eD (toD (bT (aa (vL 8) (aa (toD (ah cu (aa (toD (aW [none,some 8] (fIt (toD (ah dg (aa (vB 7) ai)))) (ap 0) bd y64)) ai))) ai))))) [some (.dat (.lst (ns.map .int))),some (.dat (.tup (cs.map hdD))),some (.dat (.tup (ss.map hdD))),some (.dat (dR rows)),some (.dat (.lst [.tup ((cs.map up).map hdD),.tup ((ss.map up).map hdD)])),some (.dat (pgD (cs.map up) (ss.map up) rows)),some (.dat (.lst (B.map .str))),some (.dat (.lst (P.map dI))),some (.dat (.tup ((aZ B).map .str))),none,none,none,none,none,none] []=some (.nx [some (.dat (.lst (ns.map .int))),some (.dat (.tup (cs.map hdD))),some (.dat (.tup (ss.map hdD))),some (.dat (dR rows)),some (.dat (.lst [.tup ((cs.map up).map hdD),.tup ((ss.map up).map hdD)])),some (.dat (pgD (cs.map up) (ss.map up) rows)),some (.dat (.lst (B.map .str))),some (.dat (.lst (P.map dI))),some (.dat (.tup ((aZ B).map .str))),some (.dat (cdD (aZ B) ((srt P).map fun j=>(j,aZ B)))),none,none,none,none,none] []):=by have hl:=nO P;have hf:=fX hP;have U:toD (ah dg (aa (vB 7) ai)) (lo [some (.dat (.lst (ns.map .int))),some (.dat (.tup (cs.map hdD))),some (.dat (.tup (ss.map hdD))),some (.dat (dR rows)),some (.dat (.lst [.tup ((cs.map up).map hdD),.tup ((ss.map up).map hdD)])),some (.dat (pgD (cs.map up) (ss.map up) rows)),some (.dat (.lst (B.map .str))),some (.dat (.lst (P.map dI))),some (.dat (.tup ((aZ B).map .str))),none,none,none,none,none,none] [])=some (.lst ((srt P).map dI)):=aC ((cq (x:=.lst (P.map dI)) rfl).trans (qR hP g1 (by lia)));have Y:=aC (cz (src:=[none,some 8]) (fi:=fIt (toD (ah dg (aa (vB 7) ai)))) (bb:=ap 0) (ft:=bd) (fe:=y64) (k8 U rfl) (mJ (srt P) (aZ B) (E:=y64) (fun j=>rfl)) (by simp;lia));exact aV (bV (aC (t:=.leaf (cdD (aZ B) ((srt P).map fun j=>(j,aZ B)))) (cF (ds:=[.tup ((aZ B).map .str),.tup (((srt P).map fun j=>(j,aZ B)).map kpD)]) (aY rfl (aY (aC (t:=.leaf (.tup (((srt P).map fun j=>(j,aZ B)).map kpD))) ((cq Y).trans rfl)) rfl)) (by simp))))
 have t9:aI 10 (eN km) [some (.dat (.lst (ns.map .int))),some (.dat (.tup (cs.map hdD))),some (.dat (.tup (ss.map hdD))),some (.dat (dR rows)),some (.dat (.lst [.tup ((cs.map up).map hdD),.tup ((ss.map up).map hdD)])),some (.dat (pgD (cs.map up) (ss.map up) rows)),some (.dat (.lst (B.map .str))),some (.dat (.lst (P.map dI))),some (.dat (.tup ((aZ B).map .str))),some (.dat (cdD (aZ B) ((srt P).map fun j=>(j,aZ B)))),none,none,none,none,none] []=some (.nx [some (.dat (.lst (ns.map .int))),some (.dat (.tup (cs.map hdD))),some (.dat (.tup (ss.map hdD))),some (.dat (dR rows)),some (.dat (.lst [.tup ((cs.map up).map hdD),.tup ((ss.map up).map hdD)])),some (.dat (pgD (cs.map up) (ss.map up) rows)),some (.dat (.lst (B.map .str))),some (.dat (.lst (P.map dI))),some (.dat (.tup ((aZ B).map .str))),some (.dat (cdD (aZ B) ((srt P).map fun j=>(j,aZ B)))),some (.ref 0),none,none,none,none] [cK []]):=rfl;obtain ⟨x,W⟩:=xc P [] [some (.dat (.lst (ns.map .int))),some (.dat (.tup (cs.map hdD))),some (.dat (.tup (ss.map hdD))),some (.dat (dR rows)),some (.dat (.lst [.tup ((cs.map up).map hdD),.tup ((ss.map up).map hdD)])),some (.dat (pgD (cs.map up) (ss.map up) rows)),some (.dat (.lst (B.map .str))),some (.dat (.lst (P.map dI))),some (.dat (.tup ((aZ B).map .str))),some (.dat (cdD (aZ B) ((srt P).map fun j=>(j,aZ B)))),some (.ref 0),none,none,none,none] rfl rfl qo1 (by simp;lia)
 have W:gl (fIt (vL 7)) [11] (ap 11) y57 [some (.dat (.lst (ns.map .int))),some (.dat (.tup (cs.map hdD))),some (.dat (.tup (ss.map hdD))),some (.dat (dR rows)),some (.dat (.lst [.tup ((cs.map up).map hdD),.tup ((ss.map up).map hdD)])),some (.dat (pgD (cs.map up) (ss.map up) rows)),some (.dat (.lst (B.map .str))),some (.dat (.lst (P.map dI))),some (.dat (.tup ((aZ B).map .str))),some (.dat (cdD (aZ B) ((srt P).map fun j=>(j,aZ B)))),some (.ref 0),none,none,none,none] [cK []]=some (.nx [some (.dat (.lst (ns.map .int))),some (.dat (.tup (cs.map hdD))),some (.dat (.tup (ss.map hdD))),some (.dat (dR rows)),some (.dat (.lst [.tup ((cs.map up).map hdD),.tup ((ss.map up).map hdD)])),some (.dat (pgD (cs.map up) (ss.map up) rows)),some (.dat (.lst (B.map .str))),some (.dat (.lst (P.map dI))),some (.dat (.tup ((aZ B).map .str))),some (.dat (cdD (aZ B) ((srt P).map fun j=>(j,aZ B)))),some (.ref 0),x,none,none,none] [cK (bq P)]):=by unfold gl;rw [show fIt (vL 7) (lo [some (.dat (.lst (ns.map .int))),some (.dat (.tup (cs.map hdD))),some (.dat (.tup (ss.map hdD))),some (.dat (dR rows)),some (.dat (.lst [.tup ((cs.map up).map hdD),.tup ((ss.map up).map hdD)])),some (.dat (pgD (cs.map up) (ss.map up) rows)),some (.dat (.lst (B.map .str))),some (.dat (.lst (P.map dI))),some (.dat (.tup ((aZ B).map .str))),some (.dat (cdD (aZ B) ((srt P).map fun j=>(j,aZ B)))),some (.ref 0),none,none,none,none] [cK []])=some (P.map dI) from rfl,qa0,W];rfl
 have O:∀ b∈B,b∈aZ B:=fun b hb=>(cA B).mem_iff.mpr hb
 have I:Inp (cs.map up) (ss.map up) rows B (aZ B) ((srt P).map fun j=>(j,aZ B)):=⟨G.hB,G.hO,by lia,by lia,g0,O,fun k hk=>by
  obtain ⟨j,hj,rfl⟩:=qd8.mp hk;exact ⟨hP j (srt_mem.mp hj),O⟩,by
  have hl:=nO P;have hf:=fX hP;simp;lia,by simp;lia,fun h hh=>by
  rcases qe0.mp hh with hh | hh<;>(obtain ⟨q,_,rfl⟩:=qd8.mp hh;rfl)⟩
 obtain ⟨ch',t11⟩:=zd (scr:=.lst (ns.map .int)) (c:=.tup (cs.map hdD)) (s:=.tup (ss.map hdD)) (th:=.lst [.tup ((cs.map up).map hdD),.tup ((ss.map up).map hdD)]) (bx:=.lst (B.map .str)) (P:=P) x hP g1 I;refine ⟨ch',?_⟩;rw [BU];refine ic ?_;show aL _ _ [some (.dat (.lst (ns.map .int))),none,none,none,none,none,none,none,none,none,none,none,none,none,none] []=_;rw [aA t1,aA t2,aA t3,aA t4,aA t5,aA t6,aA t7,aA t8,aA t9,aA W];exact t11
noncomputable def nP (K:PySem.W.Frag):Sp:=fun vs H Q _=>∃ (a:Addr) (ns:List Int),vs=[.ref a]/\SqL K H a (ns.map V.int)/\ns.length<=63/\rZ H/\∀ H',Q (.bl true) H'
theorem BW {K:PySem.W.Frag} {vs:List V} {H:Hp} {Q:VK} {E:XK} (h:nP K vs H Q E):spG K 1 r9 vs H Q E:=by
 obtain ⟨a,ns,rfl,O,U,Y,q⟩:=h;obtain ⟨ch',L⟩:=main ns U;refine ⟨H,fun _=>a,[.dat (.lst (ns.map .int))],[],.dat (.bl true),ch',⟨Same.refl H,fun i j hi=>absurd hi (qh5 _),fun i hi=>absurd hi (qh5 _),fun i o h=>by simp at h⟩,rfl,⟨_,[],rfl,?_,rfl⟩,L,fun v F' H' ρ' _ o=>?_⟩
 . show Rep K H (.lst (ns.map .int)) (.ref a);simp only [Rep];exact ⟨a,_,rfl,O,Reps.map (fun _=>iJ) ns⟩
 . have o:Rep K F' (.bl true) v:=o;simp only [Rep] at o;subst o;exact q H'
theorem all_mk {l:PySem.W.OpenLaw} {w:World} {K:PySem.W.Frag} {h:Heap} {mg:Str->Option Value} {fa:Addr} (X:K.In h) (G:h.Ns qc5 mg) (hfa:mg "law"=some (.ref fa))
  (a0:AtF K "_law_atom" z36)
  (a1:AtF K "_law_cell_at" q24)
  (a2:AtF K "_law_names" q22)
  (a3:AtF K "_law_row" z33)
  (a4:AtF K "_law_program" y9)
  (a5:AtF K "_law_exits" q38)
  (a6:AtF K "_law_goes_round" z15)
  (a7:AtF K "_law_due" y23)
  (a8:AtF K "kept_rows" z35)
  (a9:AtF K "end_fault" q29)
  (a10:AtF K "ways_of" z51)
  (a11:AtF K "ways" gf)
  (a12:AtF K "endless_rows" y15)
  (a13:AtF K "ring_fault" z14)
  (a14:AtF K "plain_names" z27)
  (a15:AtF K "spoil_fault" q27)
  (a16:AtF K "gives" z56)
  (a17:AtF K "atoms" z57)
  (a18:AtF K "reads" z43)
  (a19:AtF K "needed_ahead" q15)
  (a20:AtF K "needed" z25)
  (a21:AtF K "lost_fault" y25)
  (a22:AtF K "fault" z39)
  (a23:AtF K "holds" y56)
  (a24:AtF K "_law_whole" y21)
  (a25:AtF K "_law_is_ring" z9)
  (a26:AtF K "_law_right" q17)
  (a27:AtF K "_law_cutting" q13)
  (a28:AtF K "law" ck)
  (z_all:PySem.W.nsIn K qc5 "all"=some none)
  (z_any:PySem.W.nsIn K qc5 "any"=some none)
  (z_bool:PySem.W.nsIn K qc5 "bool"=some none)
  (z_enumerate:PySem.W.nsIn K qc5 "enumerate"=some none)
  (z_int:PySem.W.nsIn K qc5 "int"=some none)
  (z_isinstance:PySem.W.nsIn K qc5 "isinstance"=some none)
  (z_len:PySem.W.nsIn K qc5 "len"=some none)
  (z_list:PySem.W.nsIn K qc5 "list"=some none)
  (z_range:PySem.W.nsIn K qc5 "range"=some none)
  (z_set:PySem.W.nsIn K qc5 "set"=some none)
  (z_sorted:PySem.W.nsIn K qc5 "sorted"=some none)
  (z_str:PySem.W.nsIn K qc5 "str"=some none)
  (z_tuple:PySem.W.nsIn K qc5 "tuple"=some none)
  {d_ATOM_PLACES:Addr} {o_ATOM_PLACES:Obj} {m_ATOM_PLACES:Nat} {t0_ATOM_PLACES:Tok} {t1_ATOM_PLACES:Tok} {t2_ATOM_PLACES:Tok} {t3_ATOM_PLACES:Tok} {t4_ATOM_PLACES:Tok} {t5_ATOM_PLACES:Tok} {t6_ATOM_PLACES:Tok} {t7_ATOM_PLACES:Tok} {O:Addr} {Y:Addr} {a2_ATOM_PLACES:Addr} {Z:Addr} {L:Addr} {a5_ATOM_PLACES:Addr} {q:Addr} {U:Addr} (b_ATOM_PLACES:PySem.W.nsIn K qc5 "ATOM_PLACES"=some (some (.ref d_ATOM_PLACES))) (l_ATOM_PLACES:K.lookup d_ATOM_PLACES=some o_ATOM_PLACES) (e_ATOM_PLACES:o_ATOM_PLACES.ExactDict) (f_ATOM_PLACES:o_ATOM_PLACES.data=.dict #[⟨qi9 w.params "copy",.str "copy" t0_ATOM_PLACES,.ref O⟩,⟨qi9 w.params "op",.str "op" t1_ATOM_PLACES,.ref Y⟩,⟨qi9 w.params "store",.str "store" t2_ATOM_PLACES,.ref a2_ATOM_PLACES⟩,⟨qi9 w.params "take",.str "take" t3_ATOM_PLACES,.ref Z⟩,⟨qi9 w.params "lay",.str "lay" t4_ATOM_PLACES,.ref L⟩,⟨qi9 w.params "say",.str "say" t5_ATOM_PLACES,.ref a5_ATOM_PLACES⟩,⟨qi9 w.params "if",.str "if" t6_ATOM_PLACES,.ref q⟩,⟨qi9 w.params "end",.str "end" t7_ATOM_PLACES,.ref U⟩] m_ATOM_PLACES) (z_ATOM_PLACES:(d_ATOM_PLACES==qi5)=false)
  {o0_ATOM_PLACES:Obj} {i0_ATOM_PLACES:Array Value} {m0_ATOM_PLACES:Nat} (l0_ATOM_PLACES:K.lookup O=some o0_ATOM_PLACES) (e0_ATOM_PLACES:o0_ATOM_PLACES.cls=.type "tuple") (f0_ATOM_PLACES:o0_ATOM_PLACES.data=.seq i0_ATOM_PLACES m0_ATOM_PLACES) (r0_ATOM_PLACES:Vals [V.int 2,V.int 3] i0_ATOM_PLACES.toList)
  {o1_ATOM_PLACES:Obj} {i1_ATOM_PLACES:Array Value} {m1_ATOM_PLACES:Nat} (l1_ATOM_PLACES:K.lookup Y=some o1_ATOM_PLACES) (e1_ATOM_PLACES:o1_ATOM_PLACES.cls=.type "tuple") (f1_ATOM_PLACES:o1_ATOM_PLACES.data=.seq i1_ATOM_PLACES m1_ATOM_PLACES) (r1_ATOM_PLACES:Vals [V.int 3,V.int 5] i1_ATOM_PLACES.toList)
  {o2_ATOM_PLACES:Obj} {i2_ATOM_PLACES:Array Value} {m2_ATOM_PLACES:Nat} (l2_ATOM_PLACES:K.lookup a2_ATOM_PLACES=some o2_ATOM_PLACES) (e2_ATOM_PLACES:o2_ATOM_PLACES.cls=.type "tuple") (f2_ATOM_PLACES:o2_ATOM_PLACES.data=.seq i2_ATOM_PLACES m2_ATOM_PLACES) (r2_ATOM_PLACES:Vals [V.int 2,V.int 3] i2_ATOM_PLACES.toList)
  {o3_ATOM_PLACES:Obj} {i3_ATOM_PLACES:Array Value} {m3_ATOM_PLACES:Nat} (l3_ATOM_PLACES:K.lookup Z=some o3_ATOM_PLACES) (e3_ATOM_PLACES:o3_ATOM_PLACES.cls=.type "tuple") (f3_ATOM_PLACES:o3_ATOM_PLACES.data=.seq i3_ATOM_PLACES m3_ATOM_PLACES) (r3_ATOM_PLACES:Vals [V.int 3,V.int 4] i3_ATOM_PLACES.toList)
  {o4_ATOM_PLACES:Obj} {i4_ATOM_PLACES:Array Value} {m4_ATOM_PLACES:Nat} (l4_ATOM_PLACES:K.lookup L=some o4_ATOM_PLACES) (e4_ATOM_PLACES:o4_ATOM_PLACES.cls=.type "tuple") (f4_ATOM_PLACES:o4_ATOM_PLACES.data=.seq i4_ATOM_PLACES m4_ATOM_PLACES) (r4_ATOM_PLACES:Vals [V.int 2,V.int 4] i4_ATOM_PLACES.toList)
  {o5_ATOM_PLACES:Obj} {i5_ATOM_PLACES:Array Value} {m5_ATOM_PLACES:Nat} (l5_ATOM_PLACES:K.lookup a5_ATOM_PLACES=some o5_ATOM_PLACES) (e5_ATOM_PLACES:o5_ATOM_PLACES.cls=.type "tuple") (f5_ATOM_PLACES:o5_ATOM_PLACES.data=.seq i5_ATOM_PLACES m5_ATOM_PLACES) (r5_ATOM_PLACES:Vals [V.int 1,V.int 2] i5_ATOM_PLACES.toList)
  {o6_ATOM_PLACES:Obj} {i6_ATOM_PLACES:Array Value} {m6_ATOM_PLACES:Nat} (l6_ATOM_PLACES:K.lookup q=some o6_ATOM_PLACES) (e6_ATOM_PLACES:o6_ATOM_PLACES.cls=.type "tuple") (f6_ATOM_PLACES:o6_ATOM_PLACES.data=.seq i6_ATOM_PLACES m6_ATOM_PLACES) (r6_ATOM_PLACES:Vals [V.int 1,V.int 2] i6_ATOM_PLACES.toList)
  {o7_ATOM_PLACES:Obj} {i7_ATOM_PLACES:Array Value} {m7_ATOM_PLACES:Nat} (l7_ATOM_PLACES:K.lookup U=some o7_ATOM_PLACES) (e7_ATOM_PLACES:o7_ATOM_PLACES.cls=.type "tuple") (f7_ATOM_PLACES:o7_ATOM_PLACES.data=.seq i7_ATOM_PLACES m7_ATOM_PLACES) (r7_ATOM_PLACES:Vals [V.int 1,V.int 2] i7_ATOM_PLACES.toList)
  {d_SETTING:Addr} {o_SETTING:Obj} {i_SETTING:Array Value} {m_SETTING:Nat} (b_SETTING:PySem.W.nsIn K qc5 "SETTING"=some (some (.ref d_SETTING))) (l_SETTING:K.lookup d_SETTING=some o_SETTING) (e_SETTING:o_SETTING.cls=.type "tuple") (f_SETTING:o_SETTING.data=.seq i_SETTING m_SETTING) (r_SETTING:Vals [V.str "copy",V.str "op",V.str "load",V.str "take",V.str "hear"] i_SETTING.toList)
  (kd_str:e6 K "str")
  (kd_bool:e6 K "bool")
  (kd_int:e6 K "int")
  (kd_list:e6 K "list")
  (kd_tuple:e6 K "tuple")
  : ∃ fd:qo2,(∀ (s:qa4) (v:Value),zf0 s fd ⟨[v],[]⟩ [("_law_script",v)])/\∀ base:Heap,K.In base->base.Ns qc5 mg->tX mg base->FnOk l.prog w K mg base CX0 8 fa fd ["_law_script"] (nP K):=by
 obtain ⟨f28,oc28,od28,an28,sl28,kV28,dc28,pm28,cd28,ct28,a28,l28,c28,k28⟩:=a28;have e:=hfa.symm.trans (PySem.W.mg_of X G a28);cases e;have T:Txt l.prog w K mg:={n_all:=PySem.W.mg_none_of X G z_all,n_any:=PySem.W.mg_none_of X G z_any,n_bool:=PySem.W.mg_none_of X G z_bool,n_enumerate:=PySem.W.mg_none_of X G z_enumerate,n_int:=PySem.W.mg_none_of X G z_int,n_isinstance:=PySem.W.mg_none_of X G z_isinstance,n_len:=PySem.W.mg_none_of X G z_len,n_list:=PySem.W.mg_none_of X G z_list,n_range:=PySem.W.mg_none_of X G z_range,n_set:=PySem.W.mg_none_of X G z_set,n_sorted:=PySem.W.mg_none_of X G z_sorted,n_str:=PySem.W.mg_none_of X G z_str,n_tuple:=PySem.W.mg_none_of X G z_tuple,g_ATOM_PLACES:=yd [("copy",t0_ATOM_PLACES,.ref O,.ref O),("op",t1_ATOM_PLACES,.ref Y,.ref Y),("store",t2_ATOM_PLACES,.ref a2_ATOM_PLACES,.ref a2_ATOM_PLACES),("take",t3_ATOM_PLACES,.ref Z,.ref Z),("lay",t4_ATOM_PLACES,.ref L,.ref L),("say",t5_ATOM_PLACES,.ref a5_ATOM_PLACES,.ref a5_ATOM_PLACES),("if",t6_ATOM_PLACES,.ref q,.ref q),("end",t7_ATOM_PLACES,.ref U,.ref U)] (PySem.W.mg_of X G b_ATOM_PLACES) l_ATOM_PLACES e_ATOM_PLACES f_ATOM_PLACES z_ATOM_PLACES (show (["copy","op","store","take","lay","say","if","end"]:List Str).Nodup by decide +kernel) (by simp [RelV]) (fun F=>ye (.cons (dO l0_ATOM_PLACES e0_ATOM_PLACES f0_ATOM_PLACES r0_ATOM_PLACES (by decide) (by simp [Reps,Rep])) (.cons (dO l1_ATOM_PLACES e1_ATOM_PLACES f1_ATOM_PLACES r1_ATOM_PLACES (by decide) (by simp [Reps,Rep])) (.cons (dO l2_ATOM_PLACES e2_ATOM_PLACES f2_ATOM_PLACES r2_ATOM_PLACES (by decide) (by simp [Reps,Rep])) (.cons (dO l3_ATOM_PLACES e3_ATOM_PLACES f3_ATOM_PLACES r3_ATOM_PLACES (by decide) (by simp [Reps,Rep])) (.cons (dO l4_ATOM_PLACES e4_ATOM_PLACES f4_ATOM_PLACES r4_ATOM_PLACES (by decide) (by simp [Reps,Rep])) (.cons (dO l5_ATOM_PLACES e5_ATOM_PLACES f5_ATOM_PLACES r5_ATOM_PLACES (by decide) (by simp [Reps,Rep])) (.cons (dO l6_ATOM_PLACES e6_ATOM_PLACES f6_ATOM_PLACES r6_ATOM_PLACES (by decide) (by simp [Reps,Rep])) (.cons (dO l7_ATOM_PLACES e7_ATOM_PLACES f7_ATOM_PLACES r7_ATOM_PLACES (by decide) (by simp [Reps,Rep])) .nil))))))))),g_SETTING:=vG (PySem.W.mg_of X G b_SETTING) l_SETTING e_SETTING f_SETTING r_SETTING (by decide) (fun F=>by simp [Reps,Rep]),k_str:=kd_str,k_bool:=kd_bool,k_int:=kd_int,k_list:=kd_list,k_tuple:=kd_tuple};have D0:DefF K mg "_law_atom" z36 ["_law_cell","_law_boxes"]:=a0.df X G fun _ _ _ _ _ _=>el2 fun _ _=>rfl
 have D1:DefF K mg "_law_cell_at" q24 ["_law_script","_law_k"]:=a1.df X G fun _ _ _ _ _ _=>el2 fun _ _=>rfl
 have D2:DefF K mg "_law_names" q22 ["_law_cell","_law_many"]:=a2.df X G fun _ _ _ _ _ _=>el2 fun _ _=>rfl
 have D3:DefF K mg "_law_row" z33 ["_law_cell","_law_boxes","_law_cells","_law_shelves","_law_many"]:=a3.df X G fun _ _ _ _ _ _=>el5 fun _ _ _ _ _=>rfl
 have D4:DefF K mg "_law_program" y9 ["_law_script","_law_most"]:=a4.df X G fun _ _ _ _ _ _=>el2 fun _ _=>rfl
 have D5:DefF K mg "_law_exits" q38 ["_law_rows","_law_at"]:=a5.df X G fun _ _ _ _ _ _=>el2 fun _ _=>rfl
 have D6:DefF K mg "_law_goes_round" z15 ["_law_rows","_law_keeps"]:=a6.df X G fun _ _ _ _ _ _=>el2 fun _ _=>rfl
 have D7:DefF K mg "_law_due" y23 ["_law_rows","_law_keeps"]:=a7.df X G fun _ _ _ _ _ _=>el2 fun _ _=>rfl
 have D8:DefF K mg "kept_rows" z35 ["code"]:=a8.df X G fun _ _ _ _ _ _=>el1 fun _=>rfl
 have D9:DefF K mg "end_fault" q29 ["program","code"]:=a9.df X G fun _ _ _ _ _ _=>el2 fun _ _=>rfl
 have D10:DefF K mg "ways_of" z51 ["number","row"]:=a10.df X G fun _ _ _ _ _ _=>el2 fun _ _=>rfl
 have D11:DefF K mg "ways" gf ["program"]:=a11.df X G fun _ _ _ _ _ _=>el1 fun _=>rfl
 have D12:DefF K mg "endless_rows" y15 ["onward","rows"]:=a12.df X G fun _ _ _ _ _ _=>el2 fun _ _=>rfl
 have D13:DefF K mg "ring_fault" z14 ["program","code"]:=a13.df X G fun _ _ _ _ _ _=>el2 fun _ _=>rfl
 have D14:DefF K mg "plain_names" z27 ["program"]:=a14.df X G fun _ _ _ _ _ _=>el1 fun _=>rfl
 have D15:DefF K mg "spoil_fault" q27 ["program","code"]:=a15.df X G fun _ _ _ _ _ _=>el2 fun _ _=>rfl
 have D16:DefF K mg "gives" z56 ["row"]:=a16.df X G fun _ _ _ _ _ _=>el1 fun _=>rfl
 have D17:DefF K mg "atoms" z57 ["row"]:=a17.df X G fun _ _ _ _ _ _=>el1 fun _=>rfl
 have D18:DefF K mg "reads" z43 ["row"]:=a18.df X G fun _ _ _ _ _ _=>el1 fun _=>rfl
 have D19:DefF K mg "needed_ahead" q15 ["row","behind"]:=a19.df X G fun _ _ _ _ _ _=>el2 fun _ _=>rfl
 have D20:DefF K mg "needed" z25 ["program"]:=a20.df X G fun _ _ _ _ _ _=>el1 fun _=>rfl
 have D21:DefF K mg "lost_fault" y25 ["program","code"]:=a21.df X G fun _ _ _ _ _ _=>el2 fun _ _=>rfl
 have D22:DefF K mg "fault" z39 ["program","code"]:=a22.df X G fun _ _ _ _ _ _=>el2 fun _ _=>rfl
 have D23:DefF K mg "holds" y56 ["program","code"]:=a23.df X G fun _ _ _ _ _ _=>el2 fun _ _=>rfl
 have D24:DefF K mg "_law_whole" y21 ["_law_found"]:=a24.df X G fun _ _ _ _ _ _=>el1 fun _=>rfl
 have D25:DefF K mg "_law_is_ring" z9 ["_law_rows","_law_keeps","_law_way"]:=a25.df X G fun _ _ _ _ _ _=>el3 fun _ _ _=>rfl
 have D26:DefF K mg "_law_right" q17 ["_law_rows","_law_keeps","_law_due_here","_law_found"]:=a26.df X G fun _ _ _ _ _ _=>el4 fun _ _ _ _=>rfl
 have D27:DefF K mg "_law_cutting" q13 ["_law_script","_law_program_here","_law_boxes"]:=a27.df X G fun _ _ _ _ _ _=>el3 fun _ _ _=>rfl
 refine ⟨PySem.W.fnOf "law" "law" (dm ck) (b7 ck) (ab ck) .none kV28 dc28 pm28 an28 cd28 ct28,fun s v=>.of_eq rfl,fun base kb _ bm=>?_⟩;have y29:=q91 (P:=l.prog) (w:=w) (base:=base) T D0;have z7:=y80 (P:=l.prog) (w:=w) (base:=base) T D1;have q25:=z88 (P:=l.prog) (w:=w) (base:=base) T D2;have y67:=y94 (P:=l.prog) (w:=w) (base:=base) T D3 y29;have z50:=q83 (P:=l.prog) (w:=w) (base:=base) T D4 y29 z7 q25 y67;have z31:=q88 (P:=l.prog) (w:=w) (base:=base) T D5;have q40:=z74 (P:=l.prog) (w:=w) (base:=base) T D6 z31;have q68:=z94 (P:=l.prog) (w:=w) (base:=base) T D7 q40;have y35:=y90 (P:=l.prog) (w:=w) (base:=base) T D8;have z64:=q92 (P:=l.prog) (w:=w) (base:=base) T D9 y35;have y73:=z96 (P:=l.prog) (w:=w) (base:=base) T D10;have h_ways:=y99 (P:=l.prog) (w:=w) (base:=base) T D11 y73;have z48:=z81 (P:=l.prog) (w:=w) (base:=base) T D12;have z60:=y88 (P:=l.prog) (w:=w) (base:=base) T D13 y35 h_ways z48;have y52:=y86 (P:=l.prog) (w:=w) (base:=base) T D14;have z52:=z84 (P:=l.prog) (w:=w) (base:=base) T D15 y52;have q85:=y97 (P:=l.prog) (w:=w) (base:=base) T D16;have q86:=z99 (P:=l.prog) (w:=w) (base:=base) T D17;have y83:=q98 (P:=l.prog) (w:=w) (base:=base) T D18 q86;have y50:=y82 (P:=l.prog) (w:=w) (base:=base) T D19 q85 y83;have y78:=q97 (P:=l.prog) (w:=w) (base:=base) T D20 h_ways y50;have z59:=q87 (P:=l.prog) (w:=w) (base:=base) T D21 y78;have q50:=z98 (P:=l.prog) (w:=w) (base:=base) T D22 z64 z60 z52 z59;have y85:=y98 (P:=l.prog) (w:=w) (base:=base) T D23 q50;have z32:=q90 (P:=l.prog) (w:=w) (base:=base) T D24;have y49:=q80 (P:=l.prog) (w:=w) (base:=base) T D25 z31 z32;have y44:=y87 (P:=l.prog) (w:=w) (base:=base) T D26 y49 z32;have y47:=q81 (P:=l.prog) (w:=w) (base:=base) T D27 z7;exact (A8 T (p8 (st:=ck) l28 c28 k28) z50 q25 q68 q50 y85 z7 y44 y47).imp fun vs H Q E z=>BW z
abbrev y60:Stmt:=top 28
abbrev z93:Stmt:=top 22
theorem Dq {K:PySem.W.Frag} {h:Heap} {ts:List Addr} (X:K.In h) (Y:∀ P∈ts,h.get? P=some (PySem.W.tabObj #[])) {O q:Addr} (a0:AtC K "way_to_reading" y60 O q) (Z:PySem.W.codeHdIn K O q=true) (n0:K.lookup q=none) (m0:q∈ts) {U L:Addr} (a1:AtC K "spoilt" z93 U L) (hd1:PySem.W.codeHdIn K U L=true) (n1:K.lookup L=none) (m1:L∈ts) (e:fL K=[(q,uA "way_to_reading" (b7 y60)),(L,uA "spoilt" (b7 z93))]) (ne:q≠L):TabsIn K h:=TabsIn.two X e ne n0 n1 Z hd1 (Y _ m0) (Y _ m1)
theorem walk {l:PySem.W.OpenLaw} {q:qc4} {loose:List Str} {XP:(Str->Option Value)->Heap->Prop} {YP:World->Heap->Prop} {d:DefRec} {K:Params->PySem.W.Frag} (hn:l.most=some 63) (L:d.params.defaults=[])
  (O:∀ (w:World) (h:Heap),YP w h->(K w.params).In h) (Y:∀ (w:World) (h:Heap),YP w h->TabsIn (K w.params) h)
  (F:∀ (w:World) (mg:Str->Option Value) (fa:Addr) (h:Heap),(K w.params).In h->h.Ns qc5 mg->mg d.name=some (.ref fa)→
   ∃ fd:qo2,(∀ (s:qa4) (u:Value),zf0 s fd ⟨[u],[]⟩ [("_law_script",u)])/\∀ base:Heap,(K w.params).In base->base.Ns qc5 mg->tX mg base->FnOk l.prog w (K w.params) mg base CX0 8 fa fd ["_law_script"] (nP (K w.params))) :
  PySem.W.WalkO q loose XP YP l.row.toRowW d [] (fun f vs=>PySem.call f vs):=
 L2.CT (n:=63) (k:=8) (x:="_law_script") (CX:=fun _=>CX0) (sp:=fun w=>nP (K w.params)) hn (by decide) L ⟨rfl,by decide,by decide⟩ O Y F (fun _ _ a ns hl U Z=>⟨a,ns,rfl,Z,hl,U,fun _=>rfl⟩) fun _ _ _ _ _ z=>z
end P41
open PySem PySem.W PyProof.Rows
local macro_rules | `(tactic| walk_at "f") => `(tactic| (refine' L2.AtF.mk ?za ?zl ?zc ?zk; (case za => k_is); (case zl => k_is); (case zc => k_is); (case zk => k_is)))
local macro_rules | `(tactic| walk_at "c") => `(tactic| (refine' L2.AtC.mk ?za ?zl ?zc ?zk ?zx ?zp; (case za => k_is); (case zl => k_is); (case zc => k_is); (case zk => k_is); (case zx => k_is); (case zp => exact rfl)))
set_option maxRecDepth 100000 in
set_option maxHeartbeats 0 in
theorem PySem.Challenge.cw_dimhouse_k41_ends_and_rings_holds : PySem.Challenge.rw_dimhouse_k41_ends_and_rings.Holds := by
 w_on;o_law
 refine holds_open (q:=P41.seen) (loose:=[PySem.Str.ofString "ATOM_PLACES"]) (Xt:=fun s=>xlAt P41.seen [] s&&recOk (ze0 (zb5 PySem.Challenge.rw_dimhouse_k41_ends_and_rings.row)) s) (XP:=XL P41.seen []) (Yf:=Hook.obs P41.hook) (Ya:=Hook.val P41.hook) (YP:=Hook.says P41.hook) (N:=2688) ?hl (Hook.of P41.hook) (Hook.keeps P41.hook) (fun s e=>xl_of s (qs4.mp e).1) XL.keeps (by rfl) (by rfl) (by rfl) (fun s e=>recFacts_of (qs4.mp e).2) (by rfl) (by first | assumption | decide +kernel) (by decide +kernel) ⟨rfl,rfl,rfl,rfl,rfl,by decide +kernel⟩ ?hw ?hc
 case hl=>exact LeftO.of_split "special-get-raises" fun w=>P41.map_two (P41.run_false w) (P41.run_true w)
 case hw=>w_witness2
 delta P41.hook
 k_fill
 refine P41.walk (l:=PySem.Challenge.rw_dimhouse_k41_ends_and_rings) rfl rfl (fun w h Y=>PySem.W.km_in_of Y) ?T ?F
 case T =>
  intro w h Y;refine' P41.Dq (PySem.W.km_in_of Y) (PySem.W.km_tabs_of Y) ?a0 ?hd0 ?n0 ?m0 ?a1 ?hd1 ?n1 ?m1 ?e ?ne
  (case a0=>walk_at "c")
  (case hd0=>kernel_rfl)
  (case n0=>kernel_rfl)
  (case m0=>simp)
  (case a1=>walk_at "c")
  (case hd1=>kernel_rfl)
  (case n1=>kernel_rfl)
  (case m1=>simp)
  (case e=>kernel_rfl)
  (case ne=>decide)
 case F =>
  intro w mg fa h U G O;refine' P41.all_mk U G O ?a0 ?a1 ?a2 ?a3 ?a4 ?a5 ?a6 ?a7 ?a8 ?a9 ?a10 ?a11 ?a12 ?a13 ?a14 ?a15 ?a16 ?a17 ?a18 ?a19 ?a20 ?a21 ?a22 ?a23 ?a24 ?a25 ?a26 ?a27 ?a28 ?z_all ?z_any ?z_bool ?z_enumerate ?z_int ?z_isinstance ?z_len ?z_list ?z_range ?z_set ?z_sorted ?z_str ?z_tuple ?b_ATOM_PLACES ?l_ATOM_PLACES ?e_ATOM_PLACES ?f_ATOM_PLACES ?z_ATOM_PLACES ?l0_ATOM_PLACES ?e0_ATOM_PLACES ?f0_ATOM_PLACES ?r0_ATOM_PLACES ?l1_ATOM_PLACES ?e1_ATOM_PLACES ?f1_ATOM_PLACES ?r1_ATOM_PLACES ?l2_ATOM_PLACES ?e2_ATOM_PLACES ?f2_ATOM_PLACES ?r2_ATOM_PLACES ?l3_ATOM_PLACES ?e3_ATOM_PLACES ?f3_ATOM_PLACES ?r3_ATOM_PLACES ?l4_ATOM_PLACES ?e4_ATOM_PLACES ?f4_ATOM_PLACES ?r4_ATOM_PLACES ?l5_ATOM_PLACES ?e5_ATOM_PLACES ?f5_ATOM_PLACES ?r5_ATOM_PLACES ?l6_ATOM_PLACES ?e6_ATOM_PLACES ?f6_ATOM_PLACES ?r6_ATOM_PLACES ?l7_ATOM_PLACES ?e7_ATOM_PLACES ?f7_ATOM_PLACES ?r7_ATOM_PLACES ?b_SETTING ?l_SETTING ?e_SETTING ?f_SETTING ?r_SETTING ?kd_str ?kd_bool ?kd_int ?kd_list ?kd_tuple
  (case a0=>walk_at "f")
  (case a1=>walk_at "f")
  (case a2=>walk_at "f")
  (case a3=>walk_at "f")
  (case a4=>walk_at "f")
  (case a5=>walk_at "f")
  (case a6=>walk_at "f")
  (case a7=>walk_at "f")
  (case a8=>walk_at "f")
  (case a9=>walk_at "f")
  (case a10=>walk_at "f")
  (case a11=>walk_at "f")
  (case a12=>walk_at "f")
  (case a13=>walk_at "f")
  (case a14=>walk_at "f")
  (case a15=>walk_at "f")
  (case a16=>walk_at "f")
  (case a17=>walk_at "f")
  (case a18=>walk_at "f")
  (case a19=>walk_at "f")
  (case a20=>walk_at "f")
  (case a21=>walk_at "f")
  (case a22=>walk_at "f")
  (case a23=>walk_at "f")
  (case a24=>walk_at "f")
  (case a25=>walk_at "f")
  (case a26=>walk_at "f")
  (case a27=>walk_at "f")
  (case a28=>walk_at "f")
  (case z_all | z_any | z_bool | z_enumerate | z_int | z_isinstance | z_len | z_list | z_range | z_set | z_sorted | z_str | z_tuple | b_ATOM_PLACES | l_ATOM_PLACES=>k_is)
  (case e_ATOM_PLACES=>exact ⟨rfl,rfl,rfl⟩)
  (case f_ATOM_PLACES=>rfl)
  (case z_ATOM_PLACES=>rfl)
  (case l0_ATOM_PLACES=>k_is)
  (case e0_ATOM_PLACES=>rfl)
  (case f0_ATOM_PLACES=>rfl)
  (case r0_ATOM_PLACES=>exact (.cons ⟨_,rfl⟩ (.cons ⟨_,rfl⟩ .nil)))
  (case l1_ATOM_PLACES=>k_is)
  (case e1_ATOM_PLACES=>rfl)
  (case f1_ATOM_PLACES=>rfl)
  (case r1_ATOM_PLACES=>exact (.cons ⟨_,rfl⟩ (.cons ⟨_,rfl⟩ .nil)))
  (case l2_ATOM_PLACES=>k_is)
  (case e2_ATOM_PLACES=>rfl)
  (case f2_ATOM_PLACES=>rfl)
  (case r2_ATOM_PLACES=>exact (.cons ⟨_,rfl⟩ (.cons ⟨_,rfl⟩ .nil)))
  (case l3_ATOM_PLACES=>k_is)
  (case e3_ATOM_PLACES=>rfl)
  (case f3_ATOM_PLACES=>rfl)
  (case r3_ATOM_PLACES=>exact (.cons ⟨_,rfl⟩ (.cons ⟨_,rfl⟩ .nil)))
  (case l4_ATOM_PLACES=>k_is)
  (case e4_ATOM_PLACES=>rfl)
  (case f4_ATOM_PLACES=>rfl)
  (case r4_ATOM_PLACES=>exact (.cons ⟨_,rfl⟩ (.cons ⟨_,rfl⟩ .nil)))
  (case l5_ATOM_PLACES=>k_is)
  (case e5_ATOM_PLACES=>rfl)
  (case f5_ATOM_PLACES=>rfl)
  (case r5_ATOM_PLACES=>exact (.cons ⟨_,rfl⟩ (.cons ⟨_,rfl⟩ .nil)))
  (case l6_ATOM_PLACES=>k_is)
  (case e6_ATOM_PLACES=>rfl)
  (case f6_ATOM_PLACES=>rfl)
  (case r6_ATOM_PLACES=>exact (.cons ⟨_,rfl⟩ (.cons ⟨_,rfl⟩ .nil)))
  (case l7_ATOM_PLACES=>k_is)
  (case e7_ATOM_PLACES=>rfl)
  (case f7_ATOM_PLACES=>rfl)
  (case r7_ATOM_PLACES=>exact (.cons ⟨_,rfl⟩ (.cons ⟨_,rfl⟩ .nil)))
  (case b_SETTING | l_SETTING=>k_is)
  (case e_SETTING=>rfl)
  (case f_SETTING=>rfl)
  (case r_SETTING=>exact (.cons ⟨_,rfl⟩ (.cons ⟨_,rfl⟩ (.cons ⟨_,rfl⟩ (.cons ⟨_,rfl⟩ (.cons ⟨_,rfl⟩ .nil))))))
  (case kd_str=>exact fun d L=>by cases d<;>first | (cases L;done) | k_is | rfl)
  (case kd_bool=>exact fun d L=>by cases d<;>first | (cases L;done) | k_is | rfl)
  (case kd_int=>exact fun d L=>by cases d<;>first | (cases L;done) | k_is | rfl)
  (case kd_list=>exact fun d L=>by cases d<;>first | (cases L;done) | k_is | rfl)
  (case kd_tuple=>exact fun d L=>by cases d<;>first | (cases L;done) | k_is | rfl)
