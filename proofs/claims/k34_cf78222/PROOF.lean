import PyProof.Rows.All
import KE.KNest
import Wide.All
import OpenK.AllK
import Wide.FinOn
import Lean
import PyProof.EqAt
import PyProof.EqKinds
import PyProof.TupleCall
import PySem.Challenge.RW_dimhouse_k34_whole_spoilt_by_a_way
open Array renaming length_toList→qe6,getElem?_eq_getElem→qk2,getElem?_eq_none→qm3,getElem?_toList→qn1,toArray_toList→qw3
open Bool renaming and_eq_true→qb4,false_ne_true→qb8,false_eq_true→qf1,eq_iff_iff→qi8,not_eq_true'→qj6,or_eq_true→qk5,true_and→qn2,or_false→qt3,and_false→qu9,and_eq_false_imp→qv3,and_eq_true_iff→qw1,or_eq_false_iff→qw2,false_or→qw4,and_true→qw5,and_self→zb7,true_or→ze4,or_true→ze8,false_and→zg4,not_false→zg8,not_true→zi2
open False renaming elim→qg6
open ForInStep renaming yield→qq3
open Int renaming toNat_natCast→qe4,emod_lt_of_pos→ql0,emod_nonneg→qo9,reduceLT→zj2,reduceEq→zj3
open Lean renaming maxHeartbeats→qq7,maxRecDepth→qs3
open List renaming length_map→qa2,getElem?_append_left→qa5,map_cons→qa7,length_append→qa8,getElem?_map→qb0,getD_eq_getElem?_getD→qb3,size_toArray→qb5,mem_cons→qb6,mem_singleton→qb9,range→qc1,map_map→qc4,getElem?_append_right→qc5,replicate→qc6,map_append→qc7,mem_append_right→qc8,mem_cons_of_mem→qd0,mem_map→qd1,mem_of_getElem?→qd3,getElem?_cons_zero→qd4,mem_range→qd5,getElem?_set_self→qd8,mem_cons_self→qe1,length_cons→qe7,append_assoc→qf0,nodup_append→qf4,getElem?_eq_none_iff→qf6,mem_append→qg2,length_nil→qg3,lookup_cons→qg4,getElem_mem→qg5,mem_append_left→qg8,append_nil→qh2,length_singleton→qh3,length_filter_le→qh5,nodup_iff_pairwise_ne→qh8,foldl_cons→qi1,any_cons→qi9,all_eq_true→qj2,not_mem_nil→qj3,replicate_succ→qj5,mem_map_of_mem→qj7,nodup_cons→qk4,nil_append→qk6,getElem?_eq_none→qk7,getElem?_eq_getElem→qk8,getElem?_replicate→ql2,getElem?_cons_succ→ql3,mem_filter→ql8,cons_append→qm5,length_replicate→qm9,pairwise_cons→qn3,set_append_right→qn6,flatten_cons→qo4,all_cons→qp2,find?_cons_of_neg→qp8,find?_cons→qq2,ext_getElem?→qr1,reverse_cons→qr2,pairwise_map→qr3,getElem?_mapIdx→qr5,getElem?_zip_eq_some→qr8,drop_eq_getElem_cons→qr9,isEmpty_nil→qs2,filterMap_cons→qs4,map_nil→qs9,set_cons_zero→qt8,set_cons_succ→qt9,range_succ_eq_map→qu0,find?_cons_of_pos→qu1,length_range→qu7,nodup_nil→qv0,ext_getElem→qv7,eq_nil_of_length_eq_zero→qv8,of_mem_zip→qx7,length→qx8,range_succ→qy3,getElem_of_mem→qy4,length_eraseIdx_of_lt→qy9,mem_filterMap→qz2,mem_of_find?_eq_some→qz8,mapIdx_eq_zipIdx_map→qz9,getElem?_take_of_lt→za2,length_eq_zero_iff→zc2,getElem?_set_self'→zc4,filter_cons_of_pos→zc5,length_take→zc6,drop_length→zc7,filter_eq_nil_iff→zd3,drop_eq_nil_of_le→zd4,dropLast_eq_take→zf5,foldl→zi4,Perm→zk0
open List.Pairwise renaming nil→za3,imp→zb0
open List.Perm renaming refl→qz7
open List.cons renaming injEq→qq4
open Nat renaming lt_of_lt_of_le→qb7,ne_of_lt→qc0,le_trans→qc3,sub_self→qh9,not_lt→qj1,lt_succ_of_lt→qj8,le_of_lt→ql4,lt_succ_self→qm6,ne_of_gt→qm8,zero_le→qn8,lt_irrefl→qp1,le_succ→qp3,le_refl→qu2,mod_lt→qx3,lt_trans→ze5,not_lt_zero→ze7
open Ne renaming symm→qq1
open Option renaming bind_some→qa0,map_some→qd2,join_some→qp4,isSome_iff_exists→qs7,bind_eq_some_iff→qt1,isSome_map→qu6,map_none→qy5,map_eq_some_iff→zc8
open Option.some renaming inj→qd9,injEq→qi3
open PyProof.Rows renaming slot_tuple_getitem→qf9,callWith_type1→qh1,envOfC→qz3,subscriptTail_builtinR→zc9,AllBare→zd6,StrsAre→ze9,subscriptTail→zh8
open PyProof.Rows.F renaming plain_set_update_loop→qt6,entry_set_update_loop→zc1
open PyProof.Rows.IsTup renaming new→zj9
open PySem renaming wpAny_pure→qa3,Shared→qa4,starEach→qa6,sizeLine→qb2,mainGlobals→qc2,Program→qc9,bootBuiltins→qd6,wpAny_newObj_type→qd7,Around→qe0,wpAny_callSpecial?_slot→qe8,wpAny_call_entry→qf3,wpAny_setState_of→qf5,rawInt→qf8,foldedSetIterable→qg7,compareOp→qg9,cellsFrom→qh0,wpAny_bind→qh6,wpAny_holding→qi2,backTo→qi4,Builtin→qi7,assignEach→qj0,Arguments→qj4,behindInMarks→qj9,binaryOp→qk0,wpAny_setField→qk1,wpAny_typeNameOfWhole_keyiter→ql1,sysModules→ql5,wpAny_mono→ql6,wpAny_truthy_bool→ql7,wpAny_ite_split→qm0,swapsWith→qm7,attributeBase→qn0,SetTable→qn4,builtinLookup_eq_fast→qn5,firstArgMember→qo0,wpAny_passesOwn→qo2,wpAny_typeNameOf_keyiter→qo5,wpAny_ite_false→qo6,scanBound→qo7,wpAny_askSetting→qp5,wpAny_Call_Name_kw→qp9,NameKind→qq0,codeAny_builtin→qq5,FuncData→qq8,codeAny→qr4,codeAmong→qr6,wpAny_fieldsOf→qs0,wpAny_isInstance→qs1,codeAny_mono→qs6,Keyword→qt2,tupleKind_room_in1→qt4,wpAny_attempt→qt5,typeLookup_type→qt7,wpAny_field→qu3,sliceBounds→qu4,keywordEach→qu5,fits_of_scanBound→qu8,wpAny_seqItems→qv1,wpAny_typeOf→qv2,noFill_tuple_add→qv6,plainId_quiet→qw8,builtinsNs→qx0,call_meets→qx1,wpAny_rule→qx2,wpAny_execs_nil→qx4,letOwnedTupleGo→qx5,sizeLine_eq→qx6,wpAny_specialOf→qx9,pyNext→qz0,wpAny_pyIter_tuple→qz1,concat_meets→qz4,wpAny_binaryOp_repeat_ref→qz6,PassesOwn→za0,wpAny_pyIter_list→za1,wpAny_comprehension_free→za4,wpAny_pyIter_slot→za7,wpAny_dictEntries→za8,holding→zb2,wpAny_standAt→zb3,BindsTo→zb4,seq_tuple_add→zb5,getItem→zb6,wpAny_of_eq→zb8,wpAny_handled→zb9,setField→zc0,setNext→zc3,codeAny_compStart_list→zd1,TriplesOk→zd5,storeName→zd7,wpAny_storeName_local→zd8,wpAny_isTrue_Compare1→zd9,assign→ze0,InCallC→ze1,codeAny_call_function→ze2,wpAny_dictEpoch→zf1,wpAny_isOneOf_keyiter→zf2,pickOrder→zf3,wpAny_updateSeq→zf4,typeLookup→zf6,typeIs_int→zf7,backToKw→zf8,closureFor→zf9,compPost→zg0,relayAll→zg1,setEntries→zg2,IsPart→zg5,isSubtype_stop→zg6,isSubtype_type→zg7,subscripted→zg9,wpAny_throw→zh1,tupleKind→zh4,swapsWithSole→zh5,swappedStores→zh6,bindArgs→zh7,newExc→zh9,raiseNew→zi0,wpAny_call→zi3,valueAt→zi5,callerA→zi6,strKind_is→zi7,setsByText→zi8,name_of_addr→zj0,Operator→zj4,newTuple→zj5,treeTable→zj6,pyIter→zj8
open PySem.Around renaming under_plainId→qo1
open PySem.AutoSeq1 renaming wpAny_loadPart'→qt0
open PySem.Builtin.Dict renaming showsAll→zf0
open PySem.Builtin.Dict_items renaming ownsTuple→qw7
open PySem.Builtin.List renaming listExtendWith→qh4,listLengthHint→ql9,listSameRef→qo8,listTooLong→qs8,listItems→zd2
open PySem.Builtin.Range renaming rangeFitsLong→qy2
open PySem.Builtin.Slice renaming slicePlaces→qn7,sliceAdjust→qr7,sliceApplied→qy7
open PySem.Builtin.SmallTypes renaming nextOf→qn9
open PySem.Builtin.Str renaming occurrences→qh7
open PySem.Builtin.Tuple renaming tupleExact→qo3,tupleItemsOf→qy8
open PySem.Calls renaming Name_function_global→qy6,callWith_builtin→zd0
open PySem.F renaming slot_dict_keyiterator_next→qi6,slot_tuple_iterator_next→qm4,called_set→qq6,args_dict_keyiterator_next_1→qv4,entry_dict_keyiterator_next→qv9,slot_tuple_mul→qw0,args_tuple_iterator_next_1→qw6,entry_tuple_iterator_next→qy0,slot_int_rmul→qy1
open PySem.Heap renaming lt_size→qa9,get?_push_size→qb1,get?_update_self→qe9,size_push→qg0,get?_push_of_some→qm1,get?_update_other→qm2,SameBut→qp0,ExtBut→zh0
open PySem.Heap.SameBut renaming update→qf2
open PySem.NameKind renaming free→qe3
open PySem.Obj renaming data_mapFields→qe5,isFreed_of_fields→qi5,mapSeq→qp6,cls_mapFields→qq9,mapFields→qr0
open PySem.PassesOwn renaming never→qe2
open PySem.SeqAt renaming EqAt→qg1,RcAt→za5,RcNeAt→ze6
open PySem.SeqAt.EqAt renaming of_refs→qz5,same→ze3
open PySem.SeqAt.RcAt renaming lists_lengths→za6
open PySem.SetTable renaming below→qk3,grown→qp7
open PySem.SetTable.below renaming go→za9
open PySem.Shared renaming TypeIs→zi1
open PySem.Str renaming ofString→qa1
open PySem.Value renaming ref→qf7,none→qi0,type→qk9,bool→qw9,isStrOf→zh2,str→zh3,int→zj7
open PySem.W.OpenRow renaming toRowW→zg3
open PySem.W.RowW renaming records→zi9
open PySem.pickOrder renaming go→zj1
open Sum renaming inl→qv5,inr→zb1
open True renaming intro→qs5
set_option Elab.async false
set_option linter.all false
namespace P34
open PySem PySem.W PyProof.Rows
section
local macro_rules | `(tactic| o_head $_) => `(tactic| exact (by assumption : ∀ p : Prop, p) _)
set_option maxRecDepth 100000 in
set_option maxHeartbeats 0 in
theorem pre (q:∀ p:Prop,p):PySem.Challenge.rw_dimhouse_k34_whole_spoilt_by_a_way.row.Holds:=by k_head
end
def seen:qc9:={PySem.Challenge.pw_dimhouse_k34_whole_spoilt_by_a_way with main:={PySem.Challenge.pw_dimhouse_k34_whole_spoilt_by_a_way.main with body:=[1,2,3,4,6,7,8,9,10,11,12,13,14,16,17,18,19,20,21,22,23,24,25,26,27,28,29,30,31,32,33].filterMap fun i=>PySem.Challenge.pw_dimhouse_k34_whole_spoilt_by_a_way.main.body[i]?}}
noncomputable abbrev hook:Hook:=kmHook P34.pre.heap_1 [2,3,15,17,18,20,21,22,25,26,27,29,30,32,33,34,36,37,39,40,41,44,45,46,49,50,51,54,55,56,58,59,61,62,63,66,67,68,70,71,73,74,75,77,78,80,81,82,84,85,87,88,89,91,92,94,95,96,99,100,101,103,104,106,107,108,110,111,113,114,115,118,119,120,123,124,125,127,128,130,131,132,135,136,137,139,140,142,143,144,146,147,149,150,151,154,155,156,159,160,161,164,165,166,169,170,171,173,174,176,177] (fun _=>by kernel_rfl) [64]
theorem map_two {α β γ:Type} {x:Option α} {f:α→β} {g:α→γ} {a:β} {b:γ} (h:x.map f=some a) (h':x.map g=some b):x.map (fun s=>(f s,g s))=some (a,b):=by
  cases x with
  | none=>cases h
  | some s=>simp only [qd2,qi3] at h h' ⊢;rw [h,h']
set_option maxRecDepth 100000 in
set_option maxHeartbeats 0 in
theorem run_false (w:World):(fencedOpening zj6 PySem.Challenge.rw_dimhouse_k34_whole_spoilt_by_a_way.row.prog w 1868).map (fun s₀=>(topFrom zj6 PySem.Challenge.rw_dimhouse_k34_whole_spoilt_by_a_way.row.prog (w.withFollow "special-get-raises" false) 1868 s₀).map (fun s=>(openSeen seen [] (importedModules PySem.Challenge.rw_dimhouse_k34_whole_spoilt_by_a_way.row.prog.main.body) (fun s=>xlAt seen [] s&&recOk (zi9 (zg3 PySem.Challenge.rw_dimhouse_k34_whole_spoilt_by_a_way.row)) s) true s,Hook.obs hook s)))=some (some (openGood seen [],Hook.val hook (w.withFollow "special-get-raises" false))):=by kernel_rfl
set_option maxRecDepth 100000 in
set_option maxHeartbeats 0 in
theorem run_true (w:World):(fencedOpening zj6 PySem.Challenge.rw_dimhouse_k34_whole_spoilt_by_a_way.row.prog w 1868).map (fun s₀=>(topFrom zj6 PySem.Challenge.rw_dimhouse_k34_whole_spoilt_by_a_way.row.prog (w.withFollow "special-get-raises" true) 1868 s₀).map (fun s=>(openSeen seen [] (importedModules PySem.Challenge.rw_dimhouse_k34_whole_spoilt_by_a_way.row.prog.main.body) (fun s=>xlAt seen [] s&&recOk (zi9 (zg3 PySem.Challenge.rw_dimhouse_k34_whole_spoilt_by_a_way.row)) s) true s,Hook.obs hook s)))=some (some (openGood seen [],Hook.val hook (w.withFollow "special-get-raises" true))):=by kernel_rfl
end P34
set_option maxRecDepth 100000
set_option maxHeartbeats 4000000
set_option compiler.extract_closed false
noncomputable section
macro"oo":tactic=>`(tactic|first|lia|omega)
open Lean Parser Command in
macro"df "i:declId s:optDeclSig v:declVal:command=>`(noncomputable def $i $s:optDeclSig $v:declVal)
theorem bS {α β:Type _} {o:Option α} {f:α->Option β} {b:β} (h:o.bind f=some b):∃ a,o=some a/\f a=some b:=qt1.mp h
theorem mS {α β:Type _} {o:Option α} {f:α->β} {b:β} (h:o.map f=some b):∃ a,o=some a/\f a=b:=zc8.mp h
theorem gX {α:Type _} {l:List α} {i:Nat} {a:α} (h:l[i]?=some a):∃ z:i<l.length,l[i]=a:=List.getElem?_eq_some_iff.mp h
open PySem PySem.Spec PyProof.Rows in abbrev gN := @List.getElem?_set_ne
open PySem PySem.Spec PyProof.Rows in abbrev gP := @Heap.get?_push_of_some
open PySem PySem.Spec PyProof.Rows in abbrev wB := @wpAny_bind
open PySem PySem.Spec PyProof.Rows in abbrev gR := @List.getElem?_append_right
open PySem PySem.Spec PyProof.Rows in abbrev gQ := @List.getElem?_eq_getElem
open PySem PySem.Spec PyProof.Rows in abbrev nL := @Nat.le_refl
set_option maxRecDepth 100000
set_option hygiene false
notation"\\Y"=>(by walk_at "x")
notation"\\2"=>(by decide +kernel)
notation"\\3"=>(by oo)
notation"\\4"=>(model X.prog X.w)
notation"\\5"=>(by simp)
notation"\\6"=>(kD (.int 0))
notation"\\7"=>(by decide)
notation"\\8"=>(kD (.int 1))
notation"\\9"=>(.ListComp elt [⟨tg,iter,ifs,0⟩] scope pos)
notation"#a"=>(false,eval e X.env)
notation"#b"=>(.Call (.Name x p) (e::es) [] pos)
notation"#f"=>(gEq false)
notation"#h"=>(cxC X M scope C s H ex)
notation"#j"=>(kD (.int 2))
notation"#k"=>(CmpScope.of (by kernel_rfl))
set_option hygiene true
namespace L2
open PySem PySem.Spec PyProof.Rows
abbrev Key:=Sum Int Str
df jP:Key->Value->Bool
 | .inl k,v=>Value.isInt k v
 | .inr x,v=>zh2 x v
df keyH (w:World):Key->Int
 | .inl k=>hashInt k
 | .inr x=>hashStr w x
theorem bi:∀ {k:Key} {v:Value},jP k v=true->(∃ i t,k=qv5 i/\v=zj7 i t)∨(∃ x t,k=zb1 x/\v=zh3 x t)
 | .inl i,v,h=>by obtain ⟨t,e⟩:=Value.isInt_shape (k:=i) (v:=v) h;exact .inl ⟨i,t,rfl,e⟩
 | .inr x,v,h=>by obtain ⟨t,e⟩:=Value.isStrOf_shape (x:=x) (v:=v) h;exact .inr ⟨x,t,rfl,e⟩
theorem tp (i:Int) (t:Tok):jP (.inl i) (.int i t)=true:=by simp [jP,Value.isInt]
theorem tq (x:Str) (t:Tok):jP (.inr x) (.str x t)=true:=by simp [jP,zh2]
theorem AZ (a b:Int):decide ((qv5 a:Key)=qv5 b)=(a==b):=by
 by_cases e:a=b
 . subst e;simp
 . have h:¬ (qv5 a:Key)=qv5 b:=fun q=>e (qv5.inj q)
   rw [decide_eq_false h];exact (beq_eq_false_iff_ne.mpr e).symm
theorem A0 (a b:Str):decide ((zb1 a:Key)=zb1 b)=decide (a=b):=by
 by_cases e:a=b
 . subst e;simp
 . have h:¬ (zb1 a:Key)=zb1 b:=fun q=>e (zb1.inj q)
   rw [decide_eq_false h,decide_eq_false e]
theorem A1 (a:Int) (b:Str):decide ((qv5 a:Key)=zb1 b)=false:=decide_eq_false (fun q=>nomatch q)
theorem A2 (a:Str) (b:Int):decide ((zb1 a:Key)=qv5 b)=false:=decide_eq_false (fun q=>nomatch q)
df bC (prog:qc9) (w:World):PySem.KeyKind prog w Key where
 is:=jP
 hash:=keyH w
 inj:=fun v a b Y U=>by
  rcases bi Y with ⟨i,t,rfl,rfl⟩ | ⟨x,t,rfl,rfl⟩
  . rcases bi U with ⟨j,u,rfl,e⟩ | ⟨y,u,rfl,e⟩
    . injection e with q _;rw [q]
    . exact nomatch e
  . rcases bi U with ⟨j,u,rfl,e⟩ | ⟨y,u,rfl,e⟩
    . exact nomatch e
    . injection e with q _;rw [q]
 byValue:=fun k v h=>by rcases bi h with ⟨i,t,rfl,rfl⟩ | ⟨x,t,rfl,rfl⟩<;>rfl
 pyHash:=fun O h=>by
  rcases bi O with ⟨i,t,rfl,rfl⟩ | ⟨x,t,rfl,rfl⟩
  . exact wpAny_pyHash_int h
  . exact wpAny_pyHash_str h
 eqBool:=fun W O h=>by
  rcases bi W with ⟨i,t,rfl,rfl⟩ | ⟨x,t,rfl,rfl⟩
  . rcases bi O with ⟨j,u,rfl,rfl⟩ | ⟨y,u,rfl,rfl⟩
    . rw [AZ] at h;exact wpAny_eqBool_int h
    . rw [A1] at h;exact qg1.int_str i t y u _ _ _ _ h
  . rcases bi O with ⟨j,u,rfl,rfl⟩ | ⟨y,u,rfl,rfl⟩
    . rw [A2] at h;exact qg1.str_int x t j u _ _ _ _ h
    . rw [A0] at h;exact wpAny_eqBool_str h
 «strs»:=fun k x t v h=>by
  rcases bi h with ⟨i,u,rfl,e⟩ | ⟨y,u,rfl,e⟩
  . exact nomatch e
  . injection e with q _;subst q;cases v<;>rfl
theorem nU (prog:qc9) (w:World) (i:Int) (t:Tok):(bC prog w).is (.inl i) (.int i t)=true:=tp i t
theorem nV (prog:qc9) (w:World) (x:Str) (t:Tok):(bC prog w).is (.inr x) (.str x t)=true:=tq x t
inductive V where
 | non | bl (b:Bool) | int (i:Int) | str (x:Str) | byt (b:Array UInt8) | flt (b:UInt64) | ref (a:Addr) | ty (n:String)
 deriving DecidableEq
df RelV:V->Value->Prop
 | .non,u=>u=qi0
 | .bl b,u=>u=qw9 b
 | .int i,u=>∃ t,u=zj7 i t
 | .str x,u=>∃ t,u=zh3 x t
 | .byt b,u=>∃ t,u=Value.bytes b t
 | .flt b,u=>∃ t,u=Value.float b t
 | .ref a,u=>u=qf7 a
 | .ty n,u=>u=qk9 n
abbrev Vals:List V->List Value->Prop:=Paired RelV
variable {xs:List V} {us:List Value}
theorem Vals.length (r:Vals xs us):xs.length=us.length:=Paired.length r
theorem Vals.get:∀ {xs:List V} {us:List Value} {i:Nat} {x:V},Vals xs us->xs[i]?=some x->∃ u,us[i]?=some u/\RelV x u
 | _,_,_,_,.nil,e=>by simp at e
 | _,_,0,_,.cons r _,e=>by simp at e;subst e;exact ⟨_,rfl,r⟩
 | _,_,i+1,x,.cons _ t,e=>by obtain ⟨u,h1,h2⟩:=Vals.get (i:=i) (x:=x) t (by simpa using e);exact ⟨u,by simpa using h1,h2⟩
variable {u:Value}
theorem Vals.set {x:V} (r:RelV x u):∀ {xs:List V} {us:List Value} (i:Nat),Vals xs us->Vals (xs.set i x) (us.set i u)
 | _,_,_,.nil=>.nil
 | _,_,0,.cons _ t=>.cons r t
 | _,_,i+1,.cons q t=>.cons q (Vals.set r i t)
theorem Vals.append:∀ {xs ys:List V} {us q:List Value},Vals xs us->Vals ys q->Vals (xs++ys) (us++q)
 | _,_,_,_,.nil,s=>s
 | _,_,_,_,.cons r t,s=>.cons r (Vals.append t s)
theorem Vals.take:∀ {xs:List V} {us:List Value} (n:Nat),Vals xs us->Vals (xs.take n) (us.take n)
 | _,_,0,_=>.nil
 | _,_,_+1,.nil=>.nil
 | _,_,n+1,.cons r t=>.cons r (Vals.take n t)
theorem Vals.drop:∀ {xs:List V} {us:List Value} (n:Nat),Vals xs us->Vals (xs.drop n) (us.drop n)
 | _,_,0,r=>r
 | _,_,_+1,.nil=>.nil
 | _,_,n+1,.cons _ t=>Vals.drop n t
df RelO:Option V->Option Value->Prop
 | some v,some u=>RelV v u
 | none,none=>True
 | _,_=>False
df KV {κ:Type}:List (κ×V)->List (κ×Value)->Prop:=Paired fun (p:κ×V) (q:κ×Value)=>p.1=q.1/\RelV p.2 q.2
df kV:Key->V
 | .inl i=>.int i
 | .inr x=>.str x
inductive HO where
 | lst (xs:List V)
 | tup (xs:List V)
 | dK (kvs:List (Key×V)) | dT (kvs:List (List Key×V))
 | set (S:Int->Bool) (n:Nat)
 | ins (C dx:Addr) (fs:List (Str×V))
 | own (x:Addr)
 | xd (fs:List (Str×V))
 | met (f x:Addr)
 | rng (lo hi:Int)
 | frz (o:Obj) (u:HO)
 | tbl (ps:Array Value)
 | code (q:Str)
 | ctab (qs:List ((Nat×Nat)×Str))
 | ext (φ:Heap->Prop)
abbrev Hp:=Addr->Option HO
df upd (H:Hp) (a:Addr) (o:HO):Hp:=fun b=>if b=a then some o else H b
variable {H:Hp} {a:Addr} {o:HO}
theorem ar:upd H a o a=some o:=by unfold upd;rw [if_pos rfl]
variable {b:Addr}
theorem ap (h:b≠a):upd H a o b=H b:=by unfold upd;rw [if_neg h]
theorem Do {u:HO} (h:H a=some o) (h':H b=some u) (d:o≠u):a≠b:=by intro e;subst e;rw [h] at h';exact d (qd9 h')
theorem bn (h:H a=some o) (h':H b=none):a≠b:=by intro e;subst e;rw [h] at h';cases h'
section
variable (P:qc9) (w:World)
df ObjOk (H:Hp) (h:Heap) (a:Addr):HO->Prop
 | .lst xs=>xs.length<=qb2/\∃ (its:List Value) (n:Nat),Vals xs its/\h.get? a=some {cls:=.type "list",data:=.seq its.toArray n}
 | .tup xs=>xs.length<=qb2/\∃ its:List Value,Vals xs its/\IsTup h a its.toArray
 | .dK kvs=>kvs.length<=qb2/\(a==ql5)=false/\∃ vs,KV kvs vs/\h.DictOf (bC P w) a vs
 | .dT kvs=>kvs.length<=qb2/\(a==ql5)=false/\∃ xs:List (List Key×Addr×Value),
     Paired (fun (p:List Key×V) (q:List Key×Addr×Value)=>p.1=q.1/\H q.2.1=some (.tup (p.1.map kV))/\RelV p.2 q.2.2) kvs xs∧
     ∃ o es ep,h.get? a=some o/\o.ExactDict/\o.data=.dict es ep/\es.toList=xs.map (entryOfKey (zh4 (bC P w)))/\(xs.map (·.1)).Nodup
 | .set S n=>h.SetOf (intKind P w) a S n
 | .ins C dx fs=>H dx=some (.own a)/\fs.length<=1000/\dx≠a/\h.get? a=some (PySem.W.instObj C dx)∧∃ mA,h.Ns1 dx mA/\(∀ f,RelO (fs.lookup f) (mA f))/\PySem.Within mA (fs.map (·.1))
 | .own _=>∃ o,h.get? a=some o
 | .xd fs=>∃ mA,h.Ns1 a mA/\∀ f,RelO (fs.lookup f) (mA f)
 | .rng lo hi=>∃ t u v,h.get? a=some {cls:=.type "range",data:=.fields #[.int lo t,.int hi u,.int 1 v]}
 | .frz o u=>h.get? a=some o/\ObjOk H h a u
 | .tbl ps=>h.get? a=some {cls:=.none,data:=.fields ps}
 | .code q=>h.CodeRec (.ref a) q
 | .ctab qs=>∃ ps:Array Value,h.get? a=some {cls:=.none,data:=.fields ps}/\zd5 ps.toList/\∀ (pos:Pos) (q:Str) (v:Value),((pos.line,pos.col),q)∈qs->qr6 pos ps.toList=some v->∃ c o,v=.ref c/\H c=some (.frz o (.code q))
 | .met f x=>h.get? a=some (PySem.W.methodObj (.ref f) (.ref x))
 | .ext φ=>φ h/\(∃ o,h.get? a=some o)/\∀ h1 h2:Heap,φ h1->(∀ o,h1.get? a=some o->h2.get? a=some o)->φ h2
df HOk (H:Hp) (h:Heap):Prop:=∀ a o,H a=some o->ObjOk P w H h a o
end
section
variable {P:qc9} {w:World} {H H':Hp} {h h':Heap} {a:Addr} {o:HO}
theorem ObjOk.lt (x:ObjOk P w H h a o):a<h.objs.size:=by
 cases o with
 | lst xs=>obtain ⟨_,_,_,_,e⟩:=x;exact qa9 e
 | tup xs=>obtain ⟨_,_,_,p⟩:=x;exact p.lt
 | dK kvs=>obtain ⟨_,_,_,_,o,_,_,e,_⟩:=x;exact qa9 e
 | dT kvs=>obtain ⟨_,_,_,_,o,_,_,e,_⟩:=x;exact qa9 e
 | set S n=>obtain ⟨o,_,_,_,e,_⟩:=x;exact qa9 e
 | ins C dx fs=>obtain ⟨_,_,_,e,_⟩:=x;exact qa9 e
 | own y=>obtain ⟨_,e⟩:=x;exact qa9 e
 | xd fs=>obtain ⟨_,⟨_,_,_,e,_⟩,_⟩:=x;exact qa9 e
 | rng lo hi=>obtain ⟨_,_,_,e⟩:=x;exact qa9 e
 | frz ob u=>obtain ⟨e,_⟩:=x;exact qa9 e
 | tbl ps=>exact qa9 (show h.get? a=some _ from x)
 | code q=>obtain ⟨c,o,vs,t,e,g,_⟩:=x;cases e;exact qa9 g
 | ctab qs=>obtain ⟨ps,g,_⟩:=x;exact qa9 g
 | met f y=>exact qa9 (show h.get? a=some _ from x)
 | ext φ=>obtain ⟨_,⟨_,e⟩,_⟩:=x;exact qa9 e
theorem Paired.mapP {α β:Type} {F G:α->β->Prop}:∀ {O:List α} {q:List β},Paired F O q->(∀ a b,F a b->G a b)->Paired G O q
 | _,_,.nil,_=>.nil
 | _,_,.cons r t,f=>.cons (f _ _ r) (Paired.mapP t f)
theorem ObjOk.stay (x:ObjOk P w H h a o) (k:∀ b u,(b=a∨H b=some (.own a))->h.get? b=some u->h'.get? b=some u)
  (Y:∀ b,H b=some (.own a)->H' b=some (.own a)) (ht:∀ b xs,H b=some (.tup xs)->H' b=some (.tup xs)) (O:∀ b ob q,H b=some (.frz ob (.code q))->H' b=some (.frz ob (.code q))):ObjOk P w H' h' a o:=by
 induction o with
 | lst xs=>obtain ⟨z,its,n,r,e⟩:=x;exact ⟨z,its,n,r,k _ _ (.inl rfl) e⟩
 | tup xs=>obtain ⟨z,its,r,ob,e,c⟩:=x;exact ⟨z,its,r,ob,k _ _ (.inl rfl) e,c⟩
 | dK kvs=>obtain ⟨z,y,vs,r,ob,es,ep,e,c⟩:=x;exact ⟨z,y,vs,r,ob,es,ep,k _ _ (.inl rfl) e,c⟩
 | dT kvs =>obtain ⟨z,y,xs,r,ob,es,ep,e,c⟩:=x;exact ⟨z,y,xs,Paired.mapP r fun p q z=>⟨z.1,ht _ _ z.2.1,z.2.2⟩,ob,es,ep,k _ _ (.inl rfl) e,c⟩
 | set S n=>obtain ⟨ob,es,ep,t,e,c⟩:=x;exact ⟨ob,es,ep,t,k _ _ (.inl rfl) e,c⟩
 | ins C dx fs =>obtain ⟨d,z,ne,e,mA,⟨od,es,ep,e2,c⟩,r⟩:=x;exact ⟨Y _ d,z,ne,k _ _ (.inl rfl) e,mA,⟨od,es,ep,k _ _ (.inr d) e2,c⟩,r⟩
 | own y=>obtain ⟨ob,e⟩:=x;exact ⟨ob,k _ _ (.inl rfl) e⟩
 | xd fs=>obtain ⟨mA,⟨od,es,ep,e,c⟩,r⟩:=x;exact ⟨mA,⟨od,es,ep,k _ _ (.inl rfl) e,c⟩,r⟩
 | rng lo hi=>obtain ⟨t,u,v,e⟩:=x;exact ⟨t,u,v,k _ _ (.inl rfl) e⟩
 | frz ob u ih=>obtain ⟨e,q⟩:=x;exact ⟨k _ _ (.inl rfl) e,ih q⟩
 | tbl ps =>have e:h.get? a=some {cls:=.none,data:=.fields ps}:=x;show h'.get? a=some {cls:=.none,data:=.fields ps};exact k a _ (.inl rfl) e
 | code q=>obtain ⟨c,o,vs,t,e,g,r⟩:=x;cases e;exact ⟨a,o,vs,t,rfl,k a _ (.inl rfl) g,r⟩
 | ctab qs=>obtain ⟨ps,g,U,Z⟩:=x;exact ⟨ps,k a _ (.inl rfl) g,U,fun pos q v h1 h2=>let ⟨c,ob,e,g⟩:=Z pos q v h1 h2;⟨c,ob,e,O c ob q g⟩⟩
 | met f y =>have e:h.get? a=some (PySem.W.methodObj (.ref f) (.ref y)):=x;show h'.get? a=some (PySem.W.methodObj (.ref f) (.ref y));exact k a _ (.inl rfl) e
 | ext φ=>obtain ⟨p,⟨o,e⟩,st⟩:=x;exact ⟨st _ _ p fun o q=>k _ _ (.inl rfl) q,⟨o,k _ _ (.inl rfl) e⟩,st⟩
theorem HOk.lt (x:HOk P w H h) (e:H a=some o):a<h.objs.size:=(x a o e).lt
theorem HOk.fresh (x:HOk P w H h) (e:h.objs.size<=a):H a=none:=by
 cases q:H a with
 | none=>rfl
 | some u=>exact absurd (qb7 (x.lt q) e) (qp1 _)
theorem HOk.kept (x:HOk P w H h) (k:∀ b u,h.get? b=some u->h'.get? b=some u):HOk P w H h':=fun a o e =>(x a o e).stay (fun b u _ q=>k b u q) (fun _ q=>q) (fun _ _ q=>q) fun _ _ _ q=>q
theorem HOk.laid (x:HOk P w H h) (k:∀ b u,h.get? b=some u->h'.get? b=some u) (hp:h.objs.size<=a) (new:ObjOk P w (upd H a o) h' a o):HOk P w (upd H a o) h':=fun b u e=>by
 have O:=x.fresh hp;by_cases U:b=a
 . subst U;rw [ar] at e;cases e;exact new
 . rw [ap U] at e;exact (x b u e).stay (fun c v _ q=>k c v q) (fun c q=>by rw [ap (bn q O)];exact q) (fun c xs q=>by rw [ap (bn q O)];exact q) fun c ob xs q=>by rw [ap (bn q O)];exact q
end
df Rd (H:Hp) (a:Addr) (u:HO):Prop:=H a=some u∨∃ o,H a=some (.frz o u)
theorem Rd.of {u:HO} (h:H a=some u):Rd H a u:=.inl h
variable {P:qc9} {w:World} {h:Heap}
theorem Rd.ok {u:HO} (r:Rd H a u) (x:HOk P w H h):ObjOk P w H h a u:=by
 rcases r with r | ⟨o,r⟩
 . exact x a u r
 . obtain ⟨_,q⟩:=x a _ r;exact q
df Mut:Option HO->Prop
 | some (.lst _)=>True
 | some (.dK _)=>True
 | some (.dT _)=>True
 | some (.set _ _)=>True
 | some (.ins _ _ _)=>True
 | some (.ext _)=>True
 | _=>False
section
variable {P:qc9} {w:World} {H:Hp} {h h':Heap} {x e:Addr} {o':HO}
theorem HOk.write (ok:HOk P w H h) (W:Mut (H x)) (he:e=x∨H e=some (.own x)) (k:∀ b u,b≠e->h.get? b=some u->h'.get? b=some u) (heo:∃ u,h'.get? e=some u)
  (new:ObjOk P w (upd H x o') h' x o'):HOk P w (upd H x o') h':=fun b u q=>by
 have U:∀ c y,H c=some (.own y)->c≠x:=fun c y r z=>by subst z;rw [r] at W;exact W
 have Y:∀ c xs,H c=some (.tup xs)->c≠x:=fun c xs r z=>by subst z;rw [r] at W;exact W
 have Z:∀ c ob xs,H c=some (.frz ob (.code xs))->c≠x:=fun c ob xs r z=>by subst z;rw [r] at W;exact W
 by_cases hb:b=x
 . subst hb;rw [ar] at q;cases q;exact new
 . rw [ap hb] at q;by_cases O:b=e
   . have q':H b=some (.own x):=by
      rcases he with z | z
      . exact absurd (O.trans z) hb
      . rw [O];exact z
     rw [q] at q';cases q'
     obtain ⟨v,hv⟩:=heo;exact ⟨v,by rw [O];exact hv⟩
   . refine (ok b u q).stay (fun c v hc r=>k c v ?_ r) (fun c r=>by rw [ap (U c b r)];exact r) (fun c xs r=>by rw [ap (Y c xs r)];exact r) fun c ob xs r=>by rw [ap (Z c ob xs r)];exact r
     rcases hc with rfl | hc
     . exact O
     . rintro rfl;rcases he with z | z
       . exact U c b hc z
       . rw [hc] at z;cases z;exact hb rfl
end
structure Un (fs ex:List Addr) (H H':Hp) (h h':Heap):Prop where
 keep:∀ b o,h.get? b=some o->H b=none->b∉fs->b∉ex->h'.get? b=some o
 slot:∀ b o,h.get? b=some o->H b=none->b∈fs->b∉ex->∃ sl,h'.get? b=some {o with slots:=sl}
 free:∀ b o,h.get? b=some o->H b=none->b∉ex->H' b=none
 there:∀ b o,h.get? b=some o->b∉ex->∃ o',h'.get? b=some o'
 tups:∀ b xs,H b=some (.tup xs)->H' b=some (.tup xs)
 frzs:∀ b o u,H b=some (.frz o u)->H' b=some (.frz o u)
 tbls:∀ b ps,H b=some (.tbl ps)->∃ more,H' b=some (.tbl (ps++more))
 cts:∀ b qs,H b=some (.ctab qs)->H' b=some (.ctab qs)
section
variable {fs fs' ex ex':List Addr} {H H1 H2:Hp} {h h1 h2 h':Heap} {a x e:Addr} {o:HO}
theorem Un.any (u:Un fs ex H H1 h h1) {ob:Obj} (q:h.get? b=some ob) (n:H b=none) (U:b∉ex):∃ sl,h1.get? b=some {ob with slots:=sl}:=by
 by_cases O:b∈fs
 . exact u.slot b ob q n O U
 . exact ⟨ob.slots,u.keep b ob q n O U⟩
theorem Un.kept (k:∀ b u,h.get? b=some u->h'.get? b=some u):Un fs ex H H h h':=⟨fun b ob q _ _ _=>k b ob q,fun b ob q _ _ _=>⟨ob.slots,k b ob q⟩,fun _ _ _ n _=>n,fun b ob q _=>⟨ob,k b ob q⟩,fun _ _ q=>q,fun _ _ _ q=>q,fun _ ps q=>⟨#[],by rw [q];simp⟩,fun _ _ q=>q⟩
theorem Un.refl:Un fs ex H H h h:=Un.kept fun _ _ q=>q
theorem Un.laid (k:∀ b u,h.get? b=some u->h'.get? b=some u) (hp:h.objs.size<=a) (O:H a=none):Un fs ex H (upd H a o) h h' where
 keep:=fun b u q _ _ _=>k b u q
 slot:=fun b u q _ _ _=>⟨u.slots,k b u q⟩
 free:=fun b u q n _=>by rw [ap (qc0 (qb7 (qa9 q) hp))];exact n
 there:=fun b u q _=>⟨u,k b u q⟩
 tups:=fun b xs q=>by rw [ap (bn q O)];exact q
 frzs:=fun b u xs q=>by rw [ap (bn q O)];exact q
 tbls:=fun b ps q=>⟨#[],by rw [ap (bn q O),q];simp⟩
 cts:=fun b qs q=>by rw [ap (bn q O)];exact q
theorem Un.write (U:Mut (H x)) (he:e=x∨H e=some (.own x)) (k:∀ b u,b≠e->h.get? b=some u->h'.get? b=some u) (Y:∃ u,h'.get? e=some u):Un fs ex H (upd H x o) h h':=by
 have Z:∀ b,H b=none->b≠x:=fun b n z=>by subst z;rw [n] at U;exact U
 have hb:∀ b,H b=none->b≠e:=fun b n z=>by
  subst z;rcases he with r | r
  . exact Z b n r
  . rw [n] at r;cases r
 have W:∀ b u,H b=some u->¬ Mut (some u)->b≠x:=fun b u q nm z=>by subst z;rw [q] at U;exact nm U
 refine ⟨fun b u q n _ _=>k b u (hb b n) q,fun b u q n _ _=>⟨u.slots,k b u (hb b n) q⟩,fun b u q n _=>by rw [ap (Z b n)];exact n,fun b u q _=>?_,fun b xs q=>by rw [ap (W b _ q fun z=>z)];exact q,fun b u xs q=>by rw [ap (W b _ q fun z=>z)];exact q,fun b ps q=>⟨#[],by rw [ap (W b _ q fun z=>z),q];simp⟩,fun b xs q=>by rw [ap (W b _ q fun z=>z)];exact q⟩
 by_cases O:b=e
 . subst O;exact Y
 . exact ⟨u,k b u O q⟩
end
df trk (h:Heap) (H:Hp):List Addr:=(qc1 h.objs.size).filter fun a=>(H a).isSome
df lb (h:Heap) (H:Hp):Heap:=PySem.W.hideAll h (trk h H)
theorem tu (h:Heap) (H:Hp):(lb h H).objs.size=h.objs.size:=PySem.W.hideAll_size _ _
theorem uL {o:Obj} (e:h.get? b=some o) (n:H b=none):(lb h H).get? b=some o:=PySem.W.hideAll_get _ e fun O=>by have q:(H b).isSome=true:=(ql8.mp O).2;rw [n] at q;simp at q
theorem xO {o:Obj} (e:(lb h H).get? b=some o):h.get? b=some o/\H b=none:=by
 have O:h.get? b=some o:=PySem.W.of_hideAll (trk h H) e;refine ⟨O,?_⟩;cases q:H b with
 | none=>rfl
 | some x =>have U:b∈trk h H:=ql8.mpr ⟨qd5.mpr (qa9 O),by simp [q]⟩;have z:(lb h H).get? b=none:=PySem.W.hideAll_none (trk h H) U;rw [z] at e;cases e
df xP (g h:Heap) (L:Addr):List (Addr×Obj):=(qc1 h.objs.size).filterMap fun a=>if a=L∨(g.get? a).isSome=true then none else (h.get? a).map fun o=>(a,o)
df rest (g h:Heap) (L d:Addr):List (Addr×Obj):=(xP g h L).filter fun p=>decide (p.1≠d)
df nestNames:List Str:=["way_to_reading","spoilt"]
df qW (x:Str) (ss:List Stmt):List ((Nat×Nat)×Str):=ss.filterMap fun st=>match st with
 | .FunctionDef name _ _ _ _ _ _ _ _ pos=>some ((pos.line,pos.col),x++".<locals>."++name)
 | _=>none
df pO (K:PySem.W.Frag) (x:Str):Option (Addr×List ((Nat×Nat)×Str)):=match PySem.W.tabIn K x with
 | some (_,P)=>(match PySem.W.nsIn K qc2 x with
  | some (some (.ref f))=>(match K.lookup f with
   | some o=>(match o.data with
    | .func fd=>(match fd.body with
     | .stmts b=>some (P,qW x b)
     | _=>none)
    | _=>none)
   | none=>none)
  | _=>none)
 | none=>none
df cA (K:PySem.W.Frag):List (Addr×List ((Nat×Nat)×Str)):=nestNames.filterMap (pO K)
structure Mod (K:PySem.W.Frag) (mg:Str->Option Value) (base:Heap):Prop where
 kin:K.In base
 glob:base.Ns qc2 mg
 blt:∃ mb,base.Ns qx0 mb/\∀ x:Str,x≠"__name__"->mb x=qd6 x
 nolimit:base.NoLimit
structure Cx where
 prog:qc9
 w:World
 K:PySem.W.Frag
 mg:Str->Option Value
 base:Heap
 A:qe0
 N:List Str
 s₀:qa4
 H₀:Hp
 env:Env
 outer:List Env
 stack:List Env
 ex:List Addr
 fn:Str->Bool
 calm:Bool
 pn:List (Addr×Obj)
 xe:Value->qa4->Prop
df frs (l:List Env):List Addr:=l.filterMap (·.frame)
abbrev Cx.fs (X:Cx):List Addr:=frs X.outer
df Vis (sc:Scope) (x:Str):Prop:=sc.names.lookup x=some .local∨sc.names.lookup x=some .cell∨sc.names.lookup x=some .free
df Loc (sc:Scope) (x:Str):Prop:=sc.names.lookup x=some .local∨sc.names.lookup x=some .cell
df Look (env:Env) (h:Heap) (m:Str->Option Value) (x:Str) (u:Value):Prop:=(env.kindOf x=some .local/\m x=some u)∨((env.kindOf x=some .cell∨env.kindOf x=some .free)/\∃ c,env.cells.lookup x=some c/\h.IsCell c (some u))
structure Cx.Ok (X:Cx):Prop where
 mod:Mod X.K X.mg X.base
 kind:X.env.scope.kind=.function
 glob:X.env.globals=qc2
 blt:X.env.builtins=qx0
 above:X.s₀.heap.objs.size<=X.env.locals
 inj:∀ x y c,X.env.cells.lookup x=some c->X.env.cells.lookup y=some c->x=y
 has:∀ x,(X.env.kindOf x=some .cell∨X.env.kindOf x=some .free)->∃ c,X.env.cells.lookup x=some c
 cab:∀ x c,X.fn x=true->X.env.cells.lookup x=some c->X.s₀.heap.objs.size<=c
 hd:X.calm=true->X.A.handled=none
 frames:X.A.frames=some X.stack
 stk:X.stack=X.outer∨(X.stack=X.env::X.outer/\X.env.frame=some X.env.locals)
 exf:∀ b∈X.ex,b≠X.env.locals/\∀ x c,X.env.cells.lookup x=some c->c≠b
 bs:∀ b o,X.base.get? b=some o->X.s₀.heap.get? b=some o/\X.H₀ b=none
 bsz:X.base.objs.size<=X.s₀.heap.objs.size
 noex:∀ b o,X.base.get? b=some o->b∉X.ex
 exfs:∀ b∈X.ex,b∉X.fs
 funs:X.s₀.heap.FunFrames X.base X.outer
 frf:∀ b∈X.fs,X.H₀ b=none
 tb:∀ p∈cA X.K,X.H₀ p.1=some (.ctab p.2)
structure Inv (X:Cx) (pins:List (Addr×Obj)) (σ:List (Option V)) (H:Hp) (s:qa4):Prop where
 ok:X.Ok
 os:s.os=X.s₀.os
 bare:zd6 s.gens
 base:Un X.fs X.ex X.H₀ H X.s₀.heap s.heap
 loc:∃ m,s.heap.Ns X.env.locals m/\∀ (i:Nat) (x:Str) (v:V),X.N[i]?=some x->σ[i]?=some (some v)->Vis X.env.scope x->∃ u,RelV v u/\Look X.env s.heap m x u
 cell:∀ x c,X.env.cells.lookup x=some c->∃ v,s.heap.IsCell c v
 free:H X.env.locals=none
 freeC:∀ x c,X.env.cells.lookup x=some c->H c=none
 pin:∀ p∈X.pn++pins,s.heap.get? p.1=some p.2/\H p.1=none/\p.1≠X.env.locals/\p.1∉X.fs/\∀ v,p.2.data≠.cell v
 hok:HOk X.prog X.w H s.heap
 len:σ.length=X.N.length
variable {g':Array GenState} {t' i j:Nat} {d':Drawn} {ch:List Addr} {it:Addr} {N:List Str} {x:Str} {M:Model} {A:qe0} {E:Value->qa4->Prop} {v:V} {Q:Unit->qa4->Prop} {s':qa4}
section
variable {X:Cx} {pins:List (Addr×Obj)} {σ:List (Option V)} {H H':Hp} {s:qa4} {h':Heap}
theorem Cx.Ok.nofr (ok:X.Ok) {o:Obj} (e:X.base.get? b=some o):b∉X.fs:=fun q=>by have:=(ok.funs.mem q).1;rw [e] at this;cases this
theorem Inv.bs (I:Inv X pins σ H s):∀ b o,X.base.get? b=some o->s.heap.get? b=some o/\H b=none:=fun b o e =>⟨I.base.keep b o (I.ok.bs b o e).1 (I.ok.bs b o e).2 (I.ok.nofr e) (I.ok.noex b o e),I.base.free b o (I.ok.bs b o e).1 (I.ok.bs b o e).2 (I.ok.noex b o e)⟩
theorem Inv.bk (I:Inv X pins σ H s):∀ b o,X.base.get? b=some o->s.heap.get? b=some o:=fun b o e=>(I.bs b o e).1
theorem Inv.mod (I:Inv X pins σ H s):Mod X.K X.mg X.base:=I.ok.mod
theorem Inv.kIn (I:Inv X pins σ H s):X.K.In s.heap:=I.ok.mod.kin.keeps I.bk
theorem Inv.fr (I:Inv X pins σ H s):∃ m,Fr X.base X.env.locals s.heap m:=
 let ⟨m,hn,_⟩:=I.loc
 ⟨m,hn,I.bk,qc3 I.ok.bsz I.ok.above⟩
theorem Inv.lt (I:Inv X pins σ H s):X.env.locals<s.heap.objs.size:=let ⟨_,hn,_⟩:=I.loc;hn.lt
theorem Inv.sz (I:Inv X pins σ H s):X.s₀.heap.objs.size<=s.heap.objs.size:=qc3 I.ok.above (ql4 I.lt)
theorem Inv.nofs (I:Inv X pins σ H s) (h:s.heap.objs.size<=a):a∉X.fs:=fun q=>by obtain ⟨_,o,O,_⟩:=I.ok.funs.mem q;exact absurd (qb7 (qa9 O) (qc3 I.sz h)) (qp1 _)
theorem Inv.cne (I:Inv X pins σ H s):∀ x c,X.env.cells.lookup x=some c->c≠X.env.locals:=fun x c e z=>by obtain ⟨v,o,W,U⟩:=I.cell x c e;obtain ⟨m,⟨o',es,ep,O,q,_⟩,_⟩:=I.loc;rw [z,O] at W;cases W;rw [q] at U;cases U
theorem Inv.funs (I:Inv X pins σ H s):s.heap.FunFrames X.base X.outer:=by
 have all:∀ (l:List Env),(∀ b∈frs l,b∈X.fs)->X.s₀.heap.FunFrames X.base l->s.heap.FunFrames X.base l:=by
  intro l;induction l with
  | nil=>intro _ _;trivial
  | cons env r ih =>
   intro W hl;obtain ⟨hk,⟨L,o,q,Y,ho,Z⟩,hr⟩:=hl;have O:L∈X.fs:=W L (by unfold frs;rw [qs4,q];exact qe1);obtain ⟨sl,e⟩:=I.base.slot L o ho (I.ok.frf L O) O fun z=>I.ok.exfs L z O
   exact ⟨hk,⟨L,_,q,Y,e,Z⟩,ih (fun b U=>W b (by unfold frs;rw [qs4,q];exact qd0 _ U)) hr⟩
 exact all X.outer (fun _ U=>U) I.ok.funs
theorem Inv.stack (I:Inv X pins σ H s):s.heap.FunFrames X.base X.stack:=by
 rcases I.ok.stk with e | ⟨e,q⟩
 . rw [e];exact I.funs
 . rw [e];obtain ⟨m,O,_⟩:=I.loc;refine .cons (by rw [I.ok.kind];decide) q O ?_ I.funs;exact Heap.get?_none_of_le (qc3 I.ok.bsz I.ok.above)
theorem Inv.stkSub (I:Inv X pins σ H s):∀ b∈frs X.stack,b∈X.env.locals::X.fs:=fun b q=>by
 rcases I.ok.stk with e | ⟨e,O⟩
 . rw [e] at q;exact qd0 _ q
 . rw [e] at q;unfold frs at q;rw [qs4,O] at q;exact q
theorem Inv.stkFree (I:Inv X pins σ H s):∀ b∈frs X.stack,H b=none:=fun b q=>by
 rcases qb6.mp (I.stkSub b q) with e | q
 . rw [e];exact I.free
 . obtain ⟨_,o,O,_⟩:=I.ok.funs.mem q;exact I.base.free b o O (I.ok.frf b q) fun z=>I.ok.exfs b z q
theorem Inv.step (I:Inv X pins σ H s)
 (Y:∀ b∈ch,(b∈X.ex∨X.s₀.heap.objs.size<=b)/\b≠X.env.locals/\(∀ x c,X.env.cells.lookup x=some c->c≠b)/\∀ p∈X.pn++pins,p.1≠b)
 (keep:∀ b o,b≠X.env.locals->b∉X.fs->b∉ch->s.heap.get? b=some o->H b=none->h'.get? b=some o)
 (slot:∀ b o,b≠X.env.locals->b∈X.fs->b∉ch->s.heap.get? b=some o->H b=none->∃ sl,h'.get? b=some {o with slots:=sl}) (free:∀ b o,b∉ch->s.heap.get? b=some o->H b=none->H' b=none)
 (there:∀ b o,b∉ch->s.heap.get? b=some o->∃ o',h'.get? b=some o')
 (tups:∀ b xs,H b=some (.tup xs)->H' b=some (.tup xs)) (frzs:∀ b o u,H b=some (.frz o u)->H' b=some (.frz o u)) (tbls:∀ b ps,H b=some (.tbl ps)->∃ more,H' b=some (.tbl (ps++more))) (cts:∀ b qs,H b=some (.ctab qs)->H' b=some (.ctab qs))
 (ns:∀ m,s.heap.Ns X.env.locals m->h'.Ns X.env.locals m) (hok:HOk X.prog X.w H' h') (hg:zd6 g') :
  Inv X pins σ H' {s with heap:=h',gens:=g',drawn:=d',toks:=t'}:=by
 have neL:∀ b o,X.s₀.heap.get? b=some o->b≠X.env.locals:=fun b o e=>qc0 (qb7 (qa9 e) I.ok.above)
 have Z:∀ b o,X.s₀.heap.get? b=some o->b∉X.ex->b∉ch:=fun b o e O hb=>by
  rcases (Y b hb).1 with z | z
  . exact O z
  . exact absurd (qb7 (qa9 e) z) (qp1 _)
 have W:∀ x c,X.env.cells.lookup x=some c->∀ v,s.heap.IsCell c v->h'.IsCell c v:=fun x c e v ⟨o,ho,hd⟩=>by
  have U:c∉ch:=fun z=>(Y c z).2.2.1 x c e rfl
  by_cases hc:c∈X.fs
  . obtain ⟨sl,q⟩:=slot c o (I.cne x c e) hc U ho (I.freeC x c e);exact ⟨_,q,hd⟩
  . exact ⟨o,keep c o (I.cne x c e) hc U ho (I.freeC x c e),hd⟩
 refine ⟨I.ok,I.os,hg,⟨fun b o e n hb O=>?_,fun b o e n hb O=>?_,fun b o e n O=>?_,fun b o e O=>?_,fun b xs e=>tups b xs (I.base.tups b xs e),fun b o xs e=>frzs b o xs (I.base.frzs b o xs e),fun b ps e=>?_,fun b qs e=>cts b qs (I.base.cts b qs e)⟩,?_,fun x c e=>?_,?_,fun x c e=>?_,fun p hp=>?_,hok,I.len⟩
 . exact keep b o (neL b o e) hb (Z b o e O) (I.base.keep b o e n hb O) (I.base.free b o e n O)
 . obtain ⟨sl,e1⟩:=I.base.slot b o e n hb O;obtain ⟨sl',e2⟩:=slot b _ (neL b o e) hb (Z b o e O) e1 (I.base.free b o e n O);exact ⟨sl',e2⟩
 . obtain ⟨o',e1⟩:=I.base.there b o e O;exact free b o' (Z b o e O) e1 (I.base.free b o e n O)
 . obtain ⟨o',e1⟩:=I.base.there b o e O;exact there b o' (Z b o e O) e1
 . obtain ⟨m1,e1⟩:=I.base.tbls b ps e;obtain ⟨m2,e2⟩:=tbls b _ e1;exact ⟨m1++m2,by rw [e2,Array.append_assoc]⟩
 . obtain ⟨m,hn,hl⟩:=I.loc;refine ⟨m,ns m hn,fun i x v e1 e2 e3=>?_⟩;obtain ⟨u,r,l⟩:=hl i x v e1 e2 e3;refine ⟨u,r,?_⟩;rcases l with l | ⟨k,c,e,z⟩
   . exact .inl l
   . exact .inr ⟨k,c,e,W x c e _ z⟩
 . obtain ⟨v,z⟩:=I.cell x c e;exact ⟨v,W x c e v z⟩
 . obtain ⟨m,⟨o,_,_,ho,_⟩,_⟩:=I.loc;exact free _ o (fun z=>(Y _ z).2.1 rfl) ho I.free
 . obtain ⟨v,o,ho,hd⟩:=I.cell x c e;exact free c o (fun z=>(Y c z).2.2.1 x c e rfl) ho (I.freeC x c e)
 . obtain ⟨e,n,ne,nf,d⟩:=I.pin p hp;have U:p.1∉ch:=fun z=>(Y p.1 z).2.2.2 p hp rfl
   exact ⟨keep p.1 p.2 ne nf U e n,free p.1 p.2 U e n,ne,nf,d⟩
theorem Inv.un (I:Inv X pins σ H s) (u:Un X.fs [] H H' s.heap h') (O:HOk X.prog X.w H' h'):Inv X pins σ H' {s with heap:=h',toks:=t'}:=by
 obtain ⟨m,⟨o,es,ep,Z,r⟩,_⟩:=id I.loc;obtain ⟨sl,hL⟩:=u.any Z I.free \5
 exact I.step (g':=s.gens) (d':=s.drawn) (ch:=[]) (fun _ z=>nomatch z) (fun b o _ Y _ e n=>u.keep b o e n Y \5) (fun b o _ Y _ e n=>u.slot b o e n Y \5) (fun b o _ e n=>u.free b o e n \5) (fun b o _ e=>u.there b o e \5) u.tups u.frzs u.tbls u.cts (fun m' hm=>by
  obtain ⟨o',U,W,q,r'⟩:=hm;rw [Z] at q;cases q
  exact ⟨_,U,W,hL,r'⟩) O I.bare
theorem Inv.call {ch:List Addr} (I:Inv X pins σ H s) (u:Un (frs X.stack) ch H H' s.heap h') (W:HOk X.prog X.w H' h') (hg:zd6 g')
 (U:∀ b∈ch,(b∈X.ex∨X.s₀.heap.objs.size<=b)/\b≠X.env.locals/\(∀ x c,X.env.cells.lookup x=some c->c≠b)/\∀ p∈X.pn++pins,p.1≠b) :
  Inv X pins σ H' {s with heap:=h',gens:=g',drawn:=d',toks:=t'}:=by
 obtain ⟨m,⟨o,es,ep,ho,r⟩,_⟩:=id I.loc;obtain ⟨sl,hL⟩:=u.any ho I.free fun z=>(U _ z).2.1 rfl
 exact I.step (ch:=ch) U (fun b o hL hb q e n=>u.keep b o e n (fun z=>(qb6.mp (I.stkSub b z)).elim hL hb) q) (fun b o _ _ q e n=>u.any e n q) (fun b o q e n=>u.free b o e n q) (fun b o q e=>u.there b o e q) u.tups u.frzs u.tbls u.cts (fun m' hm=>by
  obtain ⟨o',Y,Z,O,r'⟩:=hm;rw [ho] at O;cases O
  exact ⟨_,Y,Z,hL,r'⟩) W hg
theorem Inv.turned (I:Inv X pins σ H s) (k:∀ b o,b≠it->s.heap.get? b=some o->h'.get? b=some o) (Y:H it=none) (W:it≠X.env.locals)
 (h1:it∈X.ex∨X.s₀.heap.objs.size<=it) (h2:∀ x c,X.env.cells.lookup x=some c->c≠it) (h3:∀ p∈X.pn++pins,p.1≠it):Inv X pins σ H {s with heap:=h',toks:=t'}:=by
 have U:∀ b u,H b=some u->b≠it:=fun b u e z=>by rw [z,Y] at e;cases e
 refine I.step (g':=s.gens) (d':=s.drawn) (ch:=[it]) (fun b hb=>?_) (fun b o _ _ O e _=>k b o (fun z=>O (by simp [z])) e) (fun b o _ _ O e _=>⟨o.slots,k b o (fun z=>O (by simp [z])) e⟩) (fun _ _ _ _ n=>n)
  (fun b o O e=>⟨o,k b o (fun z=>O (by simp [z])) e⟩) (fun _ _ e=>e) (fun _ _ _ e=>e) (fun b ps e=>⟨#[],by rw [e];simp⟩) (fun _ _ e=>e) (fun m Z=>?_) (fun b u e=>?_) I.bare
 . have e:b=it:=by simpa using hb
   subst e;exact ⟨h1,W,h2,h3⟩
 . obtain ⟨o,es,ep,ho,r⟩:=Z;exact ⟨o,es,ep,k _ o (qq1 W) ho,r⟩
 . refine (I.hok b u e).stay (fun c v O q=>k c v ?_ q) (fun _ q=>q) (fun _ _ q=>q) fun _ _ _ q=>q
   rcases O with z | z
   . rw [z];exact U b u e
   . exact U c _ z
theorem Inv.tok (I:Inv X pins σ H s) (t:Nat):Inv X pins σ H {s with toks:=t}:=I.un (h':=s.heap) (t':=t) Un.refl I.hok
theorem Inv.kept (I:Inv X pins σ H s) (k:∀ b u,s.heap.get? b=some u->h'.get? b=some u):Inv X pins σ H {s with heap:=h',toks:=t'}:=I.un (Un.kept k) (I.hok.kept k)
theorem Inv.laid (I:Inv X pins σ H s) (k:∀ b u,s.heap.get? b=some u->h'.get? b=some u) (hp:s.heap.objs.size<=a) (new:ObjOk X.prog X.w (upd H a o) h' a o) :
  Inv X pins σ (upd H a o) {s with heap:=h',toks:=t'}:=I.un (Un.laid k hp (I.hok.fresh hp)) (I.hok.laid k hp new)
theorem Inv.write {x e:Addr} (I:Inv X pins σ H s) (U:Mut (H x)) (O:e=x∨H e=some (.own x)) (k:∀ b u,b≠e->s.heap.get? b=some u->h'.get? b=some u) (q:∃ u,h'.get? e=some u) (new:ObjOk X.prog X.w (upd H x o) h' x o):Inv X pins σ (upd H x o) {s with heap:=h',toks:=t'}:=I.un (Un.write U O k q) (I.hok.write U O k q new)
theorem Inv.weak {σ':List (Option V)} (I:Inv X pins σ H s) (U:σ'.length=σ.length) (w:∀ (i:Nat) v,σ'[i]?=some (some v)->σ[i]?=some (some v)):Inv X pins σ' H s:=⟨I.ok,I.os,I.bare,I.base,let ⟨m,hn,hl'⟩:=I.loc;⟨m,hn,fun i x v q e2 O=>hl' i x v q (w i v e2) O⟩,I.cell,I.free,I.freeC,I.pin,I.hok,U.trans I.len⟩
theorem Inv.pins_of {q:List (Addr×Obj)} (I:Inv X pins σ H s) (h:∀ p∈q,s.heap.get? p.1=some p.2/\H p.1=none/\p.1≠X.env.locals/\p.1∉X.fs/\∀ v,p.2.data≠.cell v):Inv X q σ H s:=⟨I.ok,I.os,I.bare,I.base,I.loc,I.cell,I.free,I.freeC,fun p hp=>(qg2.mp hp).elim (fun z=>I.pin p (qg8 _ z)) (h p),I.hok,I.len⟩
theorem nW (q:N.Nodup) (a:N[i]?=some x) (b:N[j]?=some x):i=j:=by obtain ⟨h1,O⟩:=gX a;obtain ⟨h2,e2⟩:=gX b;exact (List.getElem_inj q).mp (O.trans e2.symm)
theorem lq (I:Inv X pins σ H s) (hN:X.N.Nodup) (hi:X.N[i]?=some x) (Z:Loc X.env.scope x) (r:RelV v u)
 (h:∀ s',Inv X pins (σ.set i (some v)) H s'->(∃ a,qp0 a s.heap s'.heap/\(a=X.env.locals∨X.env.cells.lookup x=some a))->Q () s') (hf:X.fn x=true∨X.env.scope.names.lookup x=some .local:=by first | exact .inl rfl | exact .inr rfl | assumption):wpAny M A (zd7 X.env x u) Q E s:=by
 obtain ⟨m,hn,hl⟩:=id I.loc;have hcls:(X.env.scope.kind==.class||(X.env.scope.kind==.module&&X.env.locals != X.env.globals))=false:=by rw [I.ok.kind];rfl
 have hiσ:i<σ.length:=by rw [I.len];exact (gX hi).1
 have cne:=I.cne
 have W:∀ {a:Addr} {h':Heap},(∃ o,s.heap.get? a=some o/\H a=none)->qp0 a s.heap h'->HOk X.prog X.w H h':=fun {a h'} ha O b ob e=>by
  obtain ⟨_,_,hfree⟩:=ha;refine (I.hok b ob e).stay (fun c w' Y q=>(O.2 c ?_).trans q) (fun _ q=>q) (fun _ _ q=>q) fun _ _ _ q=>q
  rintro rfl;rcases Y with rfl | Y
  . rw [hfree] at e;cases e
  . rw [hfree] at Y;cases Y
 rcases Z with hk | hk
 . refine zd8 hk hn (fun h' hn' O=>?_) hcls;obtain ⟨oL,_,_,hoL,_⟩:=id hn;refine h _ ⟨I.ok,I.os,I.bare,⟨fun b o e n hb Z=>?_,fun b o e n hb Z=>?_,I.base.free,fun b o e Z=>?_,I.base.tups,I.base.frzs,I.base.tbls,I.base.cts⟩,⟨_,hn',fun j y v' U e2 e3=>?_⟩,fun y c e=>?_,I.free,I.freeC,fun p hp=>?_,W ⟨oL,hoL,I.free⟩ O,by simpa using I.len⟩ ⟨_,O,.inl rfl⟩
   . exact (O.2 b (qc0 (qb7 (qa9 e) I.ok.above))).trans (I.base.keep b o e n hb Z)
   . obtain ⟨sl,U⟩:=I.base.slot b o e n hb Z;exact ⟨sl,(O.2 b (qc0 (qb7 (qa9 e) I.ok.above))).trans U⟩
   . obtain ⟨o',U⟩:=I.base.there b o e Z;exact ⟨o',(O.2 b (qc0 (qb7 (qa9 e) I.ok.above))).trans U⟩
   . by_cases hj:j=i
     . subst hj;rw [hi] at U;cases U
       rw [qd8 hiσ] at e2;cases e2;exact ⟨u,r,.inl ⟨hk,by simp⟩⟩
     . rw [gN (qq1 hj)] at e2;obtain ⟨u',r',q⟩:=hl j y v' U e2 e3;refine ⟨u',r',?_⟩;rcases q with ⟨k,e⟩ | ⟨k,c,e,z⟩
       . refine .inl ⟨k,?_⟩;have:y≠x:=fun e=>hj (nW hN U (e▸hi))
         simp [this,e]
       . exact .inr ⟨k,c,e,z.sameBut O (cne y c e)⟩
   . obtain ⟨w',z⟩:=I.cell y c e;exact ⟨w',z.sameBut O (cne y c e)⟩
   . obtain ⟨e,n,ne,nf,d⟩:=I.pin p hp;exact ⟨(O.2 p.1 ne).trans e,n,ne,nf,d⟩
 . have hfn:X.fn x=true:=by
    rcases hf with z | z
    . exact z
    . rw [z] at hk;cases hk
   obtain ⟨c,Y⟩:=I.ok.has x (.inl hk);obtain ⟨w',z⟩:=I.cell x c Y;refine wpAny_storeName_cell I.ok.kind hk Y z (fun h' hc' O=>?_);obtain ⟨oc,hoc,hocd⟩:=id z;refine h {s with heap:=h'} ⟨I.ok,I.os,I.bare,⟨fun b o e n hb Z=>?_,fun b o e n hb Z=>?_,I.base.free,fun b o e Z=>?_,I.base.tups,I.base.frzs,I.base.tbls,I.base.cts⟩,⟨m,hn.sameBut O (qq1 (cne x c Y)),fun j y v' U e2 e3=>?_⟩,fun y c' e=>?_,I.free,I.freeC,fun p hp=>?_,W ⟨oc,hoc,I.freeC x c Y⟩ O,by simpa using I.len⟩ ⟨c,O,.inr Y⟩
   . exact (O.2 b (qc0 (qb7 (qa9 e) (I.ok.cab x c hfn Y)))).trans (I.base.keep b o e n hb Z)
   . obtain ⟨sl,U⟩:=I.base.slot b o e n hb Z;exact ⟨sl,(O.2 b (qc0 (qb7 (qa9 e) (I.ok.cab x c hfn Y)))).trans U⟩
   . obtain ⟨o',U⟩:=I.base.there b o e Z;exact ⟨o',(O.2 b (qc0 (qb7 (qa9 e) (I.ok.cab x c hfn Y)))).trans U⟩
   . by_cases hj:j=i
     . subst hj;rw [hi] at U;cases U
       rw [qd8 hiσ] at e2;cases e2;exact ⟨u,r,.inr ⟨.inl hk,c,Y,hc'⟩⟩
     . rw [gN (qq1 hj)] at e2;obtain ⟨u',r',q⟩:=hl j y v' U e2 e3;refine ⟨u',r',?_⟩;rcases q with q | ⟨k,c',e,z'⟩
       . exact .inl q
       . refine .inr ⟨k,c',e,z'.sameBut O ?_⟩;rintro rfl;exact hj (nW hN U (I.ok.inj _ _ _ e Y▸hi))
   . by_cases hcc:c'=c
     . subst hcc;exact ⟨_,hc'⟩
     . obtain ⟨w2,z2⟩:=I.cell y c' e;exact ⟨w2,z2.sameBut O hcc⟩
   . obtain ⟨e,n,ne,nf,d⟩:=I.pin p hp;refine ⟨(O.2 p.1 ?_).trans e,n,ne,nf,d⟩;intro q;rw [q,hoc] at e;have q':oc=p.2:=qd9 e;exact d w' (by rw [<- q'];exact hocd)
theorem ij (I:Inv X pins σ H s) (O:X.N.Nodup) (hi:X.N[i]?=some x) (U:Loc X.env.scope x) (r:RelV v u)
 (h:∀ s',Inv X pins (σ.set i (some v)) H s'->Q () s') (W:X.fn x=true∨X.env.scope.names.lookup x=some .local:=by first | exact .inl rfl | exact .inr rfl | assumption):wpAny M A (zd7 X.env x u) Q E s:=
 lq I O hi U r (fun s' q _=>h s' q) W
theorem Inv.call' (I:Inv X pins σ H s) (W:s'.os=s.os) (u:Un (frs X.stack) ch H H' s.heap s'.heap) (O:HOk X.prog X.w H' s'.heap) (U:zd6 s'.gens)
 (q:∀ b∈ch,(b∈X.ex∨X.s₀.heap.objs.size<=b)/\b≠X.env.locals/\(∀ x c,X.env.cells.lookup x=some c->c≠b)/\∀ p∈X.pn++pins,p.1≠b):Inv X pins σ H' s':=by
 obtain ⟨h',g',d',t',o'⟩:=s';have e:o'=s.os:=W;subst e;exact I.call (g':=g') (t':=t') (d':=d') u O U q
end
abbrev XK:=Value->Option Addr->Hp->Prop
abbrev St:=List (Option V)
abbrev VK:=V->Hp->Prop
abbrev TE:=St->Hp->VK->Prop
abbrev TT:=St->Hp->(Bool->Hp->Prop)->Prop
abbrev TA:=St->Hp->(List V->Hp->Prop)->Prop
structure Ends where
 nx:St->Hp->Prop
 rt:VK
 bk:St->Hp->Prop:=fun _ _=>False
 ct:St->Hp->Prop:=fun _ _=>False
abbrev TS:=Ends->St->Hp->Prop
df EP (X:Cx) (pins:List (Addr×Obj)) (σ:St) (Q:VK) (u:Value) (s':qa4):Prop:=∃ v H',Inv X pins σ H' s'/\RelV v u/\Q v H'
df TP (X:Cx) (pins:List (Addr×Obj)) (σ:St) (Q:Bool->Hp->Prop) (b:Bool) (s':qa4):Prop:=∃ H',Inv X pins σ H' s'/\Q b H'
df AP (X:Cx) (pins:List (Addr×Obj)) (σ:St) (Q:List V->Hp->Prop) (us:List Value) (s':qa4):Prop:=∃ vs H',Inv X pins σ H' s'/\Vals vs us/\Q vs H'
df SP (X:Cx) (pins:List (Addr×Obj)) (D:Ends) (f:Flow) (s':qa4):Prop:=
 match f with
 | .next=>∃ σ' H',Inv X pins σ' H' s'/\D.nx σ' H'
 | .brk=>∃ σ' H',Inv X pins σ' H' s'/\D.bk σ' H'
 | .cont=>∃ σ' H',Inv X pins σ' H' s'/\D.ct σ' H'
 | .ret u=>∃ v σ' H',Inv X pins σ' H' s'/\RelV v u/\D.rt v H'
df PE (X:Cx) (e:Expr) (t:TE):Prop:=∀ (pins:List (Addr×Obj)) (s:qa4) (σ:St) (H:Hp) (Q:VK),Inv X pins σ H s->t σ H Q->wpAny \4 X.A (eval e X.env) (EP X pins σ Q) X.xe s
df PT (X:Cx) (e:Expr) (t:TT):Prop:=∀ (pins:List (Addr×Obj)) (s:qa4) (σ:St) (H:Hp) (Q:Bool->Hp->Prop),Inv X pins σ H s->t σ H Q->wpAny \4 X.A (isTrue e X.env (eval e X.env)) (TP X pins σ Q) X.xe s
df PW (X:Cx) (e:Expr) (t:TT):Prop:=∀ (q:Sem Value) (pins:List (Addr×Obj)) (s:qa4) (σ:St) (H:Hp) (Q:Bool->Hp->Prop),Inv X pins σ H s->t σ H Q->wpAny \4 X.A (isTrue e X.env q) (TP X pins σ Q) X.xe s
variable {X:Cx} {e:Expr}
theorem PW.pt {t:TT} (h:PW X e t):PT X e t:=h _
df PA (X:Cx) (es:List Expr) (t:TA):Prop:=∀ (pos:Pos) (pins:List (Addr×Obj)) (s:qa4) (σ:St) (H:Hp) (Q:List V->Hp->Prop),Inv X pins σ H s->t σ H Q->wpAny \4 X.A (spliced (qi4 pos (qa6 es X.env))) (AP X pins σ Q) X.xe s
df PS (X:Cx) (st:Stmt) (t:TS):Prop:=∀ (pins:List (Addr×Obj)) (s:qa4) (σ:St) (H:Hp) (D:Ends),Inv X pins σ H s->t D σ H->wpAny \4 X.A (exec st X.env) (SP X pins D) X.xe s
df PSs (X:Cx) (st:List Stmt) (t:TS):Prop:=∀ (pins:List (Addr×Obj)) (s:qa4) (σ:St) (H:Hp) (D:Ends),Inv X pins σ H s->t D σ H->wpAny \4 X.A (execs st X.env) (SP X pins D) X.xe s
variable {s:qa4}
theorem thn {α:Type} {t:Sem α} {Q q:α->qa4->Prop} (h:wpAny M A t Q E s) (O:∀ a s,Q a s->q a s):wpAny M A t q E s:=ql6 h O fun _ _ x=>x
variable {pins:List (Addr×Obj)} {σ:St} {R:V->V->Hp->Prop} {pos:Pos} {c:Expr}
section
variable {X:Cx}
theorem bin {a b:Expr} {ta tb:TE} (Y:PE X a ta) (hb:PE X b tb) (I:Inv X pins σ H s) (h:ta σ H fun x H1=>tb σ H1 fun y H2=>R x y H2)
 {α:Type} {Q:α->qa4->Prop} {f:Value->Value->Sem α}
 (hf:∀ v u U x y H2,Inv X pins σ H2 U->RelV x v->RelV y u->R x y H2->wpAny \4 X.A (f v u) Q X.xe U) :
  wpAny \4 X.A (eval a X.env) (fun v O=>wpAny \4 X.A (eval b X.env) (fun u q=>wpAny \4 X.A (f v u) Q X.xe q) X.xe O) X.xe s:=by
 refine thn (Y pins s σ H _ I h) fun v s1 ⟨x,H1,I1,Z,q1⟩=>?_
 refine thn (hb pins s1 σ H1 _ I1 q1) fun u U ⟨y,H2,I2,W,q2⟩=>?_
 exact hf v u U x y H2 I2 Z W q2
df jx (i:Nat):TE:=fun σ H Q=>∃ v,σ[i]?=some (some v)/\Q v H
df tC (v:V):TE:=fun _ H Q=>Q v H
theorem A3 (hN:X.N[i]?=some x) (Z:Vis X.env.scope x) (O:(x==("__debug__":Str))=false:=by decide) (U:(x==("__classdict__":Str))=false:=by decide):PE X (.Name x pos) (jx i):=by
 intro pins s σ H Q I h;obtain ⟨v,e,h⟩:=h;obtain ⟨m,Y,hl⟩:=I.loc;obtain ⟨u,r,l⟩:=hl i x v hN e Z;have fin:EP X pins σ Q u s:=⟨v,H,I,r,h⟩;rcases l with ⟨hk,hm⟩ | ⟨hk,c,W,q⟩
 . exact wpAny_Name (wpAny_loadName_local I.ok.kind hk Y hm fin) O
 . rcases hk with hk | hk
   . exact wpAny_Name (wpAny_loadName_cell I.ok.kind hk W q fin) O
   . exact wpAny_Name (wpAny_loadName_free I.ok.kind hk W q fin U) O
theorem A4 {i j pos}:PE X (.Constant (.int i) j pos) (tC (.int i)):=fun _ _ _ H _ I h=>wpAny_Constant_int ⟨.int i,H,I.tok _,⟨_,rfl⟩,h⟩
theorem Dp {b j pos}:PE X (.Constant (.bool b) j pos) (tC (.bl b)):=fun _ _ _ H _ I h=>Constant_bool ⟨.bl b,H,I,rfl,h⟩
theorem A5 {j pos}:PE X (.Constant .none j pos) (tC .non):=fun _ _ _ H _ I h=>Constant_none ⟨.non,H,I,rfl,h⟩
theorem A6 {x j pos}:PE X (.Constant (.str x) j pos) (tC (.str x)):=fun _ _ _ H _ I h=>Calls.Constant_str ⟨.str x,H,I.tok _,⟨_,rfl⟩,h⟩
df Gl (X:Cx) (x:Str):Prop:=X.env.kindOf x=some .globalImplicit
theorem mB {Q:Value->qa4->Prop} (I:Inv X pins σ H s) (U:Gl X x) (q:X.mg x=some u) (h:Q u s)
 (O:(x==("__debug__":Str))=false:=by decide):wpAny \4 X.A (eval (.Name x pos) X.env) Q E s:=
 qy6 I.ok.kind U (Calls.loadGlobal_global (by rw [I.ok.glob];exact I.mod.glob.keeps I.bk) q h) O
theorem fE {Q:Value->qa4->Prop} (I:Inv X pins σ H s) (U:Gl X x) (W:X.mg x=none) (Y:qd6 x=some u) (h:Q u s)
 (q:x≠"__name__":=by decide) (O:(x==("__debug__":Str))=false:=by decide):wpAny \4 X.A (eval (.Name x pos) X.env) Q E s:=by
 obtain ⟨mb,h1,h2⟩:=I.mod.blt;exact qy6 I.ok.kind U (Calls.loadGlobal_builtin (by rw [I.ok.glob];exact I.mod.glob.keeps I.bk) W (by rw [I.ok.blt];exact h1.keeps I.bk) ((h2 x q).trans Y) h) O
theorem xQ (O:Gl X x) (U:X.mg x=some u) (r:RelV v u) (q:(x==("__debug__":Str))=false:=by decide):PE X (.Name x pos) (tC v):=fun _ _ _ H _ I h=>mB I O U ⟨v,H,I,r,h⟩ q
theorem xR (U:Gl X x) (W:X.mg x=none) (Y:qd6 x=some u) (r:RelV v u) (q:x≠"__name__":=by decide) (O:(x==("__debug__":Str))=false:=by decide):PE X (.Name x pos) (tC v):=fun _ _ _ H _ I h=>fE I U W Y ⟨v,H,I,r,h⟩ q O
variable {a b:Expr} {ta tb:TE} {pos:Pos}
df PC (X:Cx) (U:CmpOp) (a b:Expr) (t:TE):Prop:=
 ∀ (pins:List (Addr×Obj)) (s:qa4) (σ:St) (H:Hp) (Q:VK),Inv X pins σ H s->t σ H Q→
  wpAny \4 X.A (eval a X.env) (fun v O=>wpAny \4 X.A (eval b X.env) (fun u q=>wpAny \4 X.A (qg9 U v u) (EP X pins σ Q) X.xe q) X.xe O) X.xe s
df tB (t:TE):TT:=fun σ H Q=>t σ H fun x H1=>∃ c,x=.bl c/\Q c H1
theorem pP {O:CmpOp} {t:TE} (h:PC X O a b t) (h1:qj9 O b=false:=by first | exact nobehind _ \7 \7 | rfl):PT X (.Compare a [O] [b] pos) (tB t):=by intro pins s σ H Q I W;refine zd9 (thn (h pins s σ H _ I W) fun v s1 h1=>thn h1 fun u Z h2=>thn h2 fun c s3 ⟨x,H1,Y,U,q1⟩=>?_) h1;obtain ⟨d,rfl,q⟩:=q1;cases U;exact ql7 ⟨H1,Y,q⟩
variable {tA tB':TT} {rest:List Expr}
df tAnd (t u:TT):TT:=fun σ H Q=>t σ H fun c H1=>if c=true then u σ H1 Q else Q false H1
df tOr (t u:TT):TT:=fun σ H Q=>t σ H fun c H1=>if c=true then Q true H1 else u σ H1 Q
df tNot (t:TT):TT:=fun σ H Q=>t σ H fun c H1=>Q (!c) H1
theorem qX (q:PT X a tA):PW X (.BoolOp .And [a] pos) tA:=by
 intro O pins s σ H Q I h;refine isTrue_and (thn (q pins s σ H Q I h) fun c s1 e=>?_);cases c with
 | true=>exact isTrue_and_nil e
 | false=>exact e
theorem uM (q:PT X a tA):PW X (.BoolOp .Or [a] pos) tA:=by
 intro O pins s σ H Q I h;refine isTrue_or (thn (q pins s σ H Q I h) fun c s1 e=>?_);cases c with
 | false=>exact isTrue_or_nil e
 | true=>exact e
theorem uN (O:PT X a tA) (W:PW X (.BoolOp .And (b::rest) pos) tB'):PW X (.BoolOp .And (a::b::rest) pos) (tAnd tA tB'):=by
 intro U pins s σ H Q I h;refine isTrue_and (thn (O pins s σ H _ I h) fun c s1 ⟨H1,q,q1⟩=>?_);cases c with
 | true=>exact W U pins s1 σ H1 Q q q1
 | false=>exact ⟨H1,q,q1⟩
theorem z0 (O:PT X a tA) (W:PW X (.BoolOp .Or (b::rest) pos) tB'):PW X (.BoolOp .Or (a::b::rest) pos) (tOr tA tB'):=by
 intro U pins s σ H Q I h;refine isTrue_or (thn (O pins s σ H _ I h) fun c s1 ⟨H1,q,q1⟩=>?_);cases c with
 | true=>exact ⟨H1,q,q1⟩
 | false=>exact W U pins s1 σ H1 Q q q1
theorem uO (q:PT X a tA):PT X (.UnaryOp .Not a pos) (tNot tA):=by intro pins s σ H Q I h;exact isTrue_not (q pins s σ H (fun c H1=>Q (!c) H1) I h)
df Dq (ta tb:TE):TE:=fun σ H Q=>ta σ H fun x H1=>∃ c,x=.bl c/\if c=true then tb σ H1 Q else Q (.bl false) H1
df tOrV (ta tb:TE):TE:=fun σ H Q=>ta σ H fun x H1=>∃ c,x=.bl c/\if c=true then Q (.bl true) H1 else tb σ H1 Q
df Dr (ta:TE):TE:=fun σ H Q=>ta σ H fun x H1=>∃ c,x=.bl c/\Q (.bl (!c)) H1
theorem A7 {op} {t:TE} (h:PE X a t):PE X (.BoolOp op [a] pos) t:=fun pins s σ H Q I q=>BoolOp_one (h pins s σ H Q I q)
theorem A8 (O:PE X a ta) (W:PE X (.BoolOp .And (b::rest) pos) tb):PE X (.BoolOp .And (a::b::rest) pos) (Dq ta tb):=by
 intro pins s σ H Q I h;refine BoolOp_and (thn (O pins s σ H _ I h) fun v s1 ⟨x,H1,q,U,q1⟩=>?_);obtain ⟨c,rfl,q1⟩:=q1;cases U;refine ql7 ?_;cases c with
 | true=>exact W pins s1 σ H1 Q q q1
 | false=>exact ⟨.bl false,H1,q,rfl,q1⟩
theorem Ds (O:PE X a ta) (W:PE X (.BoolOp .Or (b::rest) pos) tb):PE X (.BoolOp .Or (a::b::rest) pos) (tOrV ta tb):=by
 intro pins s σ H Q I h;refine BoolOp_or (thn (O pins s σ H _ I h) fun v s1 ⟨x,H1,q,U,q1⟩=>?_);obtain ⟨c,rfl,q1⟩:=q1;cases U;refine ql7 ?_;cases c with
 | false=>exact W pins s1 σ H1 Q q q1
 | true=>exact ⟨.bl true,H1,q,rfl,q1⟩
theorem A9 (q:PE X a ta):PE X (.UnaryOp .Not a pos) (Dr ta):=by intro pins s σ H Q I h;refine UnaryOp_ (thn (q pins s σ H _ I h) fun v s1 ⟨x,H1,U,O,q1⟩=>?_);obtain ⟨c,rfl,q1⟩:=q1;cases O;exact not_of (ql7 ⟨.bl (!c),H1,U,rfl,q1⟩)
df tIf (t:TT) (ta tb:TE):TE:=fun σ H Q=>t σ H fun c H1=>if c=true then ta σ H1 Q else tb σ H1 Q
theorem nX (U:PT X c tA) (O:PE X a ta) (W:PE X b tb):PE X (.IfExp c a b pos) (tIf tA ta tb):=by
 intro pins s σ H Q I h;refine wpAny_IfExp (thn (U pins s σ H _ I h) fun d s1 ⟨H1,q,q1⟩=>?_);cases d with
 | true=>exact O pins s1 σ H1 Q q q1
 | false=>exact W pins s1 σ H1 Q q q1
end
df SqL (K:PySem.W.Frag) (H:Hp) (a:Addr) (xs:List V):Prop:=Rd H a (.lst xs)∨∃ (o:Obj) (its:Array Value) (n:Nat),K.lookup a=some o/\o.cls=.type "list"/\o.dict=none/\o.data=.seq its n/\its.size<=qb2/\Vals xs its.toList
df SqT (K:PySem.W.Frag) (H:Hp) (a:Addr) (xs:List V):Prop:=H a=some (.tup xs)∨∃ (o:Obj) (its:Array Value) (n:Nat),K.lookup a=some o/\o.cls=.type "tuple"/\o.data=.seq its n/\its.size<=qb2/\Vals xs its.toList
df absV:Value->Option V
 | .none=>some .non
 | .bool b=>some (.bl b)
 | .int i _=>some (.int i)
 | .str x _=>some (.str x)
 | .bytes b _=>some (.byt b)
 | .float b _=>some (.flt b)
 | .ref a=>some (.ref a)
 | .type n=>some (.ty n)
 | _=>none
theorem RelV.abs {x:V} (r:RelV x u):absV u=some x:=by
 cases x with
 | non=>cases r;rfl
 | bl _=>cases r;rfl
 | int _=>obtain ⟨t,rfl⟩:=r;rfl
 | str _=>obtain ⟨t,rfl⟩:=r;rfl
 | byt _=>obtain ⟨t,rfl⟩:=r;rfl
 | flt _=>obtain ⟨t,rfl⟩:=r;rfl
 | ref _=>cases r;rfl
 | ty _=>cases r;rfl
variable {y:V}
theorem RelV.inj {x:V} (r:RelV x u) (q:RelV y u):x=y:=qd9 (r.abs.symm.trans q.abs)
theorem Vals.inj:∀ {xs ys:List V} {us:List Value},Vals xs us->Vals ys us->xs=ys
 | _,_,_,.nil,.nil=>rfl
 | _,_,_,.cons r t,.cons q t'=>by rw [r.inj q,Vals.inj t t']
variable {K:PySem.W.Frag}
section
variable {X:Cx} {pins:List (Addr×Obj)} {σ:St} {H:Hp} {s:qa4} {a:Addr} {xs ys:List V}
theorem SqL.of (h:H a=some (.lst xs)):SqL K H a xs:=.inl (.inl h)
theorem SqT.of (h:H a=some (.tup xs)):SqT K H a xs:=.inl h
theorem Inv.list (I:Inv X pins σ H s) (h:SqL X.K H a xs):∃ its:List Value,Vals xs its/\PlainL s.heap a its.toArray/\xs.length<=qb2:=by
 rcases h with h | ⟨o,its,n,hk,O,q,U,W,r⟩
 . obtain ⟨z,its,n,r,e⟩:=h.ok I.hok;exact ⟨its,r,⟨_,n,e,rfl,rfl,rfl⟩,z⟩
 . refine ⟨its.toList,r,⟨o,n,I.kIn a o hk,O,q,by simpa using U⟩,?_⟩;have e:=r.length;simp only [qe6] at e;oo
theorem Inv.tuple (I:Inv X pins σ H s) (h:SqT X.K H a xs):∃ its:List Value,Vals xs its/\IsTup s.heap a its.toArray/\xs.length<=qb2:=by
 rcases h with h | ⟨o,its,n,hk,q,O,U,r⟩
 . obtain ⟨z,its,r,p⟩:=(Rd.of h).ok I.hok;exact ⟨its,r,p,z⟩
 . refine ⟨its.toList,r,⟨o,I.kIn a o hk,q,n,by simpa using O⟩,?_⟩;have e:=r.length;simp only [qe6] at e;oo
theorem Inv.list_inj (I:Inv X pins σ H s) (h:SqL X.K H a xs) (h':SqL X.K H a ys):xs=ys:=by
 obtain ⟨its,r,⟨o,n,e,_,_,d⟩,_⟩:=I.list h;obtain ⟨its',U,⟨o',n',q,_,_,d'⟩,_⟩:=I.list h';rw [e] at q;cases q
 rw [d] at d';injection d' with O _;have:its=its':=by simpa using congrArg Array.toList O
 subst this;exact r.inj U
theorem Inv.tuple_inj (I:Inv X pins σ H s) (h:SqT X.K H a xs) (h':SqT X.K H a ys):xs=ys:=by
 obtain ⟨its,r,⟨o,e,_,n,d⟩,_⟩:=I.tuple h;obtain ⟨its',U,⟨o',q,_,n',d'⟩,_⟩:=I.tuple h';rw [e] at q;cases q
 rw [d] at d';injection d' with O _;have:its=its':=by simpa using congrArg Array.toList O
 subst this;exact r.inj U
end
abbrev Cx.wish (X:Cx) (E:Value->qa4->Prop):Cx:={X with xe:=E}
abbrev Cx.nox (X:Cx):Cx:=X.wish fun _ _=>False
theorem Cx.Ok.wish (ok:X.Ok) (E:Value->qa4->Prop):(X.wish E).Ok:=⟨ok.mod,ok.kind,ok.glob,ok.blt,ok.above,ok.inj,ok.has,ok.cab,ok.hd,ok.frames,ok.stk,ok.exf,ok.bs,ok.bsz,ok.noex,ok.exfs,ok.funs,ok.frf,ok.tb⟩
theorem Cx.Ok.unwish (ok:(X.wish E).Ok):X.Ok:=⟨ok.mod,ok.kind,ok.glob,ok.blt,ok.above,ok.inj,ok.has,ok.cab,ok.hd,ok.frames,ok.stk,ok.exf,ok.bs,ok.bsz,ok.noex,ok.exfs,ok.funs,ok.frf,ok.tb⟩
section
variable {X:Cx} {pins:List (Addr×Obj)} {σ:St} {H:Hp} {s:qa4} {E:Value->qa4->Prop}
theorem Inv.wish (I:Inv X pins σ H s) (E:Value->qa4->Prop):Inv (X.wish E) pins σ H s:=⟨I.ok.wish E,I.os,I.bare,I.base,I.loc,I.cell,I.free,I.freeC,I.pin,I.hok,I.len⟩
theorem Inv.unwish (I:Inv (X.wish E) pins σ H s):Inv X pins σ H s:=⟨I.ok.unwish,I.os,I.bare,I.base,I.loc,I.cell,I.free,I.freeC,I.pin,I.hok,I.len⟩
theorem SP.unwish {D:Ends} {f:Flow} (h:SP (X.wish E) pins D f s'):SP X pins D f s':=by
 cases f with
 | next=>obtain ⟨σ',H',I,q⟩:=h;exact ⟨σ',H',I.unwish,q⟩
 | brk=>obtain ⟨σ',H',I,q⟩:=h;exact ⟨σ',H',I.unwish,q⟩
 | cont=>obtain ⟨σ',H',I,q⟩:=h;exact ⟨σ',H',I.unwish,q⟩
 | ret u=>obtain ⟨v,σ',H',I,r,q⟩:=h;exact ⟨v,σ',H',I.unwish,r,q⟩
theorem PSs.nox {st:List Stmt} {t:TS} (h:PSs X.nox st t):PSs X st t:=fun pins s σ H D I O =>ql6 (h pins s σ H D (I.wish _) O) (fun _ _ q=>q.unwish) fun _ _ z=>qg6 z
end
variable {tc:TT}
section
variable {X:Cx} {st:Stmt} {rest:List Stmt} {t u:TS} {e:Expr} {te:TE} {pos:Pos}
df Du:TS:=fun D σ H=>D.nx σ H
df tSeq (t u:TS):TS:=fun D σ H=>t {D with nx:=u D} σ H
theorem qY:PSs X [] Du:=fun _ _ σ H _ I h=>qx4 ⟨σ,H,I,h⟩
theorem fF (h1:PS X st t) (h2:PSs X rest u):PSs X (st::rest) (tSeq t u):=by
 intro pins s σ H D I h;refine wpAny_execs_cons (thn (h1 pins s σ H {D with nx:=u D} I h) fun f s1 q=>?_);cases f with
 | next =>obtain ⟨σ',H',O,q⟩:=q;exact h2 pins s1 σ' H' D O q
 | ret v=>exact q
 | brk=>exact q
 | cont=>exact q
theorem qZ (h1:PS X st t):PSs X [st] t:=by
 intro pins s σ H D I h;refine wpAny_execs_cons (thn (h1 pins s σ H D I h) fun f s1 q=>?_);cases f with
 | next=>exact qx4 q
 | ret v=>exact q
 | brk=>exact q
 | cont=>exact q
theorem Inv.quiet (I:Inv X pins σ H s):interactive X.env=false:=by simp [interactive,I.ok.kind]
df Dv (te:TE):TS:=fun D σ H=>te σ H fun _ H1=>D.nx σ H1
theorem mC (O:PE X e te) (q:qm7 e none pos.line X.env=pure false:=by rfl):PS X (.Expr e pos) (Dv te):=by intro pins s σ H D I h;exact wpAny_Expr_any (thn (O pins s σ H _ I h) fun v s1 ⟨x,H1,U,W,q1⟩=>⟨σ,H1,U,q1⟩) I.quiet q
df tRet (te:TE):TS:=fun D σ H=>te σ H D.rt
theorem pQ (q:PE X e te):PS X (.Return (some e) pos) (tRet te):=by intro pins s σ H D I h;exact wpAny_Return_some (thn (q pins s σ H _ I h) fun v s1 ⟨x,H1,O,U,q1⟩=>⟨x,σ,H1,O,U,q1⟩)
df tIfS (c:TT) (t u:TS):TS:=fun D σ H=>c σ H fun b H1=>if b=true then t D σ H1 else u D σ H1
theorem Aa {a b:List Stmt} (U:PT X c tc) (O:PSs X a t) (W:PSs X b u):PS X (.If c a b pos) (tIfS tc t u):=by
 intro pins s σ H D I h;refine wpAny_If (thn (U pins s σ H _ I h) fun d s1 ⟨H1,q,q1⟩=>?_);cases d with
 | true=>exact O pins s1 σ H1 D q q1
 | false=>exact W pins s1 σ H1 D q q1
end
abbrev TG:=V->St->Hp->(St->Hp->Prop)->Prop
abbrev TGs:=List V->St->Hp->(St->Hp->Prop)->Prop
df PG (X:Cx) (q:Expr) (t:TG):Prop:=
 ∀ (pins:List (Addr×Obj)) (s:qa4) (σ:St) (H:Hp) (v:V) (u:Value) (Q:St->Hp->Prop),Inv X pins σ H s->RelV v u->t v σ H Q→
  wpAny \4 X.A (ze0 q X.env u) (fun _ s'=>∃ σ' H',Inv X pins σ' H' s'/\Q σ' H') X.xe s
df PGs (X:Cx) (ts:List Expr) (t:TGs):Prop:=
 ∀ (pins:List (Addr×Obj)) (s:qa4) (σ:St) (H:Hp) (vs:List V) (us:List Value) (Q:St->Hp->Prop),Inv X pins σ H s->Vals vs us->t vs σ H Q→
  wpAny \4 X.A (assignInOrder ((qj0 ts X.env).map (·.2)) us) (fun _ s'=>∃ σ' H',Inv X pins σ' H' s'/\Q σ' H') X.xe s
abbrev Ba:=V->V->V->Hp->(Hp->Prop)->Prop
df PSet (X:Cx) (t:Ba):Prop:=
 ∀ (pins:List (Addr×Obj)) (s:qa4) (σ:St) (H:Hp) (o i v:V) (q O u:Value) (Q:Hp->Prop),Inv X pins σ H s->RelV o q->RelV i O->RelV v u->t o i v H Q→
  wpAny \4 X.A (setItem q O u) (fun _ s'=>∃ H',Inv X pins σ H' s'/\Q H') X.xe s
abbrev TIp:=V->V->Hp->VK->Prop
df PIp (X:Cx) (q:zj4) (t:TIp):Prop:=
 ∀ (pins:List (Addr×Obj)) (s:qa4) (σ:St) (H:Hp) (x y:V) (v u:Value) (Q:VK),Inv X pins σ H s->RelV x v->RelV y u->t x y H Q→
  wpAny \4 X.A (inplaceOp q v u) (EP X pins σ Q) X.xe s
variable {es:List Expr} {n:Nat} {tg:Expr} {te:TE} {g:TG} {pos':Pos}
section
variable {X:Cx} {pos:Pos}
df fG (i:Nat):TG:=fun v σ H Q=>Q (σ.set i (some v)) H
theorem ra (U:X.N.Nodup) (hi:X.N[i]?=some x) (q:Loc X.env.scope x) (W:X.fn x=true∨X.env.scope.names.lookup x=some .local:=by first | exact .inl rfl | exact .inr rfl | assumption):PG X (.Name x pos) (fG i):=by intro pins s σ H v u Q I r h;exact wpAny_assign_Name (ij I U hi q r (fun s' O=>⟨_,H,O,h⟩) W)
df gNil:TGs:=fun vs σ H Q=>vs=[]/\Q σ H
df Dw (t:TG) (u:TGs):TGs:=fun vs σ H Q=>∃ v r,vs=v::r/\t v σ H fun σ' H'=>u r σ' H' Q
theorem xS:PGs X [] gNil:=by intro pins s σ H vs us Q I r h;obtain ⟨e,h⟩:=h;subst e;cases r;exact assignInOrder_nil ⟨σ,H,I,h⟩
theorem uP {t:TG} {u:TGs} (h1:PG X e t) (h2:PGs X es u)
 (U:(qj0 (e::es) X.env).map (·.2)=ze0 e X.env::(qj0 es X.env).map (·.2):=by rfl):PGs X (e::es) (Dw t u):=by
 intro pins s σ H vs us Q I r h;obtain ⟨v,Z,O,h⟩:=h;subst O;cases r with
 | cons r W =>rw [U];refine assignInOrder_cons (thn (h1 pins s σ H _ _ _ I r h) fun _ s1 ⟨q,H1,Y,q1⟩=>?_);exact h2 pins s1 q H1 _ _ Q Y W q1
df gTup (K:PySem.W.Frag) (n:Nat) (t:TGs):TG:=fun v σ H Q=>∃ a xs,v=.ref a/\SqT K H a xs/\xs.length=n/\t xs σ H Q
theorem Bb {k:Nat} {t:TGs} (hc:X.calm=true) (h:PGs X es t)
 (W:(qj0 es X.env).length=n:=by rfl) (O:(qj0 es X.env).findIdx? (·.1)=none:=by rfl):PG X (.Tuple es k pos) (gTup X.K n t):=by
 intro pins s σ H v u Q I r q;obtain ⟨a,xs,Z,hq,hl,q⟩:=q;subst Z;cases r;obtain ⟨its,U,ht,hz⟩:=I.tuple hq;refine assign_Tuple_tuple (I.ok.hd hc) ht (by simp [W,<- hl,U.length]) O fun h' Y=>?_
 have I1:Inv X pins σ H {s with heap:=h'}:=I.kept (t':=s.toks) fun b o e=>Y b o (qc0 (qa9 e)) e
 exact h pins _ σ H xs _ Q I1 (by simpa using U) q
df gSub (to ti:TE) (t:Ba):TG:=fun v σ H Q=>to σ H fun o H1=>ti σ H1 fun i H2=>t o i v H2 fun q=>Q σ q
theorem Bc {o i:Expr} {to ti:TE} {t:Ba} (Y:PE X o to) (hi:PE X i ti) (hs:PSet X t)
  (ha:∀ v,ze0 (.Subscript o i pos) X.env v=(do
   let q <- zb2 [v] (eval o X.env);let O <- zb2 [v,q] (eval i X.env)
   standAt pos
   zb2 [v,q,O] (setItem q O v)
   release [v,q,O] []):=by intro _;rfl):PG X (.Subscript o i pos) (gSub to ti t):=by
 intro pins s σ H v u Q I r h;rw [ha];refine wB (qi2 (thn (Y pins s σ H _ I h) fun q s1 ⟨x,H1,I1,W,q1⟩=>?_));refine wB (qi2 (thn (hi pins s1 σ H1 _ I1 q1) fun O U ⟨y,H2,Z,r2,q2⟩=>?_));refine wB (zb3 (wB (qi2 (thn (hs pins U σ H2 x y v q O u _ Z W r2 r q2) fun _ s3 ⟨H3,I3,q3⟩=>?_))));exact wpAny_release ⟨σ,H3,I3,q3⟩
df xT (te:TE) (g:TG):TS:=fun D σ H=>te σ H fun x H1=>g x σ H1 D.nx
theorem uQ (Z:PE X e te) (O:PG X tg g) (U:zh5 [tg] e pos.line X.env=pure false:=by rfl) (Y:zh6 [tg] e X.env=pure none:=by rfl)
 (h1:(qj0 [tg] X.env).map (·.2)=[ze0 tg X.env]:=by rfl):PS X (.Assign [tg] e pos) (xT te g):=by
 intro pins s σ H D I h;refine wpAny_Assign_stores (thn (Z pins s σ H _ I h) fun v s1 ⟨x,H1,I1,W,q1⟩=>?_) U Y;rw [h1];exact thn (O pins s1 σ H1 x v _ I1 W q1) fun _ s2 q=>q
theorem Be (W:X.N.Nodup) (hi:X.N[i]?=some x) (q:Loc X.env.scope x) (Y:PE X e te) (O:qm7 e (some (.Name x pos')) pos.line X.env=pure false:=by rfl) (Z:X.fn x=true∨X.env.scope.names.lookup x=some .local:=by first | exact .inl rfl | exact .inr rfl | assumption) :
  PS X (.Assign [.Name x pos'] e pos) (xT te (fG i)):=by
 intro pins s σ H D I h;refine wpAny_Assign_Name (thn (Y pins s σ H _ I h) fun v s1 ⟨y,H1,I1,U,q1⟩=>?_) O;exact ij I1 W hi q U (fun s2 I2=>⟨_,H1,I2,q1⟩) Z
df tAug (i:Nat) (te:TE) (ti:TIp):TS:=fun D σ H=>∃ x,σ[i]?=some (some x)/\te σ H fun y H1=>ti x y H1 fun z H2=>D.nx (σ.set i (some z)) H2
theorem Bf {U:zj4} {ti:TIp} (hN:X.N.Nodup) (hi:X.N[i]?=some x) (W:Loc X.env.scope x) (he:PE X e te) (ho:PIp X U ti) (hf:X.fn x=true∨X.env.scope.names.lookup x=some .local:=by first | exact .inl rfl | exact .inr rfl | assumption) :
  PS X (.AugAssign (.Name x pos') U e pos) (tAug i te ti):=by
 intro pins s σ H D I h;obtain ⟨v,e1,h⟩:=h;obtain ⟨m,hn,hl⟩:=I.loc;have Y:Vis X.env.scope x:=by rcases W with k | k;exact .inl k;exact .inr (.inl k)
 obtain ⟨u,r,l⟩:=hl i x v hi e1 Y;refine wpAny_AugAssign_Name ?_
 have Z:wpAny \4 X.A (eval e X.env) (fun w O=>wpAny \4 X.A (inplaceOp U u w) (fun r s₃=>wpAny \4 X.A (zd7 X.env x r) (fun _=>SP X pins D .next) X.xe s₃) X.xe O) X.xe s:=by
  refine thn (he pins s σ H _ I h) fun w s1 ⟨y,H1,I1,r1,q1⟩=>?_
  refine thn (ho pins s1 σ H1 v y u w _ I1 r r1 q1) fun z s2 ⟨zv,H2,I2,r2,q2⟩=>?_
  exact ij I2 hN hi W r2 (fun s3 I3=>⟨_,H2,I3,q2⟩) hf
 rcases l with ⟨hk,hm⟩ | ⟨hk,c,hc,q⟩
 . exact wpAny_loadName_local I.ok.kind hk hn hm Z
 . rcases hk with hk | hk
   . exact wpAny_loadName_cell I.ok.kind hk hc q Z
   . rcases W with k | k
     . have:X.env.scope.names.lookup x=some .free:=hk;rw [k] at this;cases this
     . have:X.env.scope.names.lookup x=some .free:=hk;rw [k] at this;cases this
df ipI (f:Int->Int->Int):TIp:=fun x y H Q=>∃ i j,x=.int i/\y=.int j/\Q (.int (f i j)) H
theorem Bg:PIp X .Add (ipI fun i j=>i+j):=by intro pins s σ H x y v u Q I W O h;obtain ⟨i,j,U,e2,q⟩:=h;subst U;subst e2;obtain ⟨t,rfl⟩:=W;obtain ⟨t',rfl⟩:=O;exact iadd_int ⟨.int _,H,I.tok _,⟨_,rfl⟩,q⟩
end
variable {body:List Stmt} {tb:TS}
section
variable {X:Cx} {pos:Pos}
df Bh (c:TT) (tb:TS):TS:=fun D σ H=>∃ W:Nat->St->Hp->Prop,(∃ m,W m σ H)/\∀ m σ H,W m σ H→
 c σ H fun b H1=>if b=true then ∃ N:St->Hp->Prop,(∀ σ' H',N σ' H'->∃ q,q<m/\W q σ' H')/\tb {D with nx:=N,ct:=N,bk:=D.nx} σ H1 else D.nx σ H1
theorem nY (hp:za0 \4 X.A X.env X.xe) (hc:PT X c tc) (hb:PSs X body tb):PS X (.While c body [] pos) (Bh tc tb):=by
 intro pins s σ H D I h;obtain ⟨W,⟨m0,w0⟩,U⟩:=h;refine wpAny_While (codeAny_whileLoop (fun n s'=>∃ σ' H',Inv X pins σ' H' s'/\W n σ' H') ?_ m0 ⟨σ,H,I,w0⟩);rintro n s1 ⟨O,H1,I1,w1⟩;refine qo2 hp (thn (hc pins s1 O H1 _ I1 (U n O H1 w1)) fun b s2 ⟨H2,I2,q2⟩=>?_);cases b with
 | true =>
  obtain ⟨N,hN,q2⟩:=q2;rw [if_pos rfl];refine qo2 hp (thn (hb pins s2 O H2 _ I2 q2) fun f s3 Z=>?_);cases f with
  | next =>obtain ⟨q,Y,I3,n3⟩:=Z;obtain ⟨m',hm,w3⟩:=hN q Y n3;exact ⟨m',hm,q,Y,I3,w3⟩
  | cont =>obtain ⟨q,Y,I3,n3⟩:=Z;obtain ⟨m',hm,w3⟩:=hN q Y n3;exact ⟨m',hm,q,Y,I3,w3⟩
  | brk=>exact Z
  | ret v=>exact Z
 | false =>rw [if_neg qb8];exact qx4 ⟨O,H2,I2,q2⟩
end
structure It where
 go:Nat->Hp->Prop
 yld:Nat->Hp->V->Hp->Prop
 stop:Nat->Hp->Prop
df gB (X:Cx) (pins:List (Addr×Obj)) (H:Hp) (b:Addr):Prop:=H b=none/\b≠X.env.locals/\b∉X.fs/\(b∈X.ex∨X.s₀.heap.objs.size<=b)/\(∀ x c,X.env.cells.lookup x=some c->c≠b)/\∀ p∈X.pn++pins,p.1≠b
theorem Inv.fpOk {H':Hp} (I:Inv X pins σ H s) (O:s.heap.objs.size<=b) (U:H' b=none):gB X pins H' b:=by
 refine ⟨U,qm8 (qb7 I.lt O),I.nofs O,.inr (qc3 I.sz O),fun x c e z=>?_,fun p hp z=>?_⟩
 . obtain ⟨v,q⟩:=I.cell x c e;exact absurd (qb7 q.lt (by rw [z];exact O)) (qp1 _)
 . exact absurd (qb7 (qa9 (I.pin p hp).1) (by rw [z];exact O)) (qp1 _)
structure Turn (P:qc9) (w:World) (K:PySem.W.Frag) (tg:Expr) (J:It) (fp:List Addr) (it:Addr) (tn:Nat->Heap->Prop):Prop where
 mem:it∈fp
 obj:∀ i h,tn i h->∀ b∈fp,∃ o,h.get? b=some o/\∀ v,o.data≠.cell v
 keep:∀ i h h',tn i h->(∀ b∈fp,∀ o,h.get? b=some o->h'.get? b=some o)->tn i h'
 item:∀ (X:Cx),X.prog=P->X.w=w->X.K=K->X.calm=true->∀ (i:Nat) (pins:List (Addr×Obj)) (s:qa4) (σ:St) (H:Hp) (E:Value->qa4->Prop),Inv X pins σ H s->(∀ b∈fp,gB X pins H b)->tn i s.heap->J.go i H→
  wpAny (model P w) X.A (qz0 (.ref it)) (fun r s1=>∃ u,r=some u∧wpAny (model P w) X.A (qx5 tg (.ref it) u) (fun _ s2=>∃ x H',Inv X pins σ H' s2/\RelV x u/\J.yld i H x H'/\tn (i+1) s2.heap/\∀ b∈fp,H' b=none) E s1) E s
 done:∀ (X:Cx),X.prog=P->X.w=w->X.K=K->X.calm=true->∀ (i:Nat) (pins:List (Addr×Obj)) (s:qa4) (σ:St) (H:Hp) (E:Value->qa4->Prop),Inv X pins σ H s->(∀ b∈fp,gB X pins H b)->tn i s.heap->J.stop i H→
  wpAny (model P w) X.A (qz0 (.ref it)) (fun r s1=>r=none/\Inv X pins σ H s1) E s
 self:∀ (A:qe0) (i:Nat) (s:qa4) (Q:Value->qa4->Prop) (E:Value->qa4->Prop),tn i s.heap->Q (.ref it) s->wpAny (model P w) A (zj8 (.ref it)) Q E s
abbrev TI:=St->Hp->(It->Hp->Prop)->Prop
df PIE (X:Cx) (pins:List (Addr×Obj)) (σ:St) (tg:Expr) (R:It->Hp->Prop) (q:Value) (U:qa4):Prop:=∃ (it:Addr) (fp:List Addr) (O:Nat->Heap->Prop) (J:It) (H':Hp),q=.ref it/\Inv X pins σ H' U/\Turn X.prog X.w X.K tg J fp it O/\O 0 U.heap/\(∀ b∈fp,gB X pins H' b)/\R J H'
df PI (X:Cx) (tg iter:Expr) (wi:TI):Prop:=
 ∀ (pins:List (Addr×Obj)) (s:qa4) (σ:St) (H:Hp) (R:It->Hp->Prop),Inv X pins σ H s->wi σ H R→
  wpAny \4 X.A (eval iter X.env) (fun v s1=>wpAny \4 X.A (zj8 v) (PIE X pins σ tg R) X.xe s1) X.xe s
theorem nZ {o:Obj} {n:String} {vs:Array Value} (Y:s.heap.get? it=some o) (W:o.cls=.type n) (O:o.data=.fields vs)
 (U:["enumerate","zip","dict_itemiterator","dict_reverseitemiterator","odict_iterator","itertools.zip_longest","itertools.pairwise"].contains n=false) (q:Q () s):wpAny M A (qx5 tg (.ref it) u) Q E s:=by
 unfold qx5
 cases tg<;>first
  | exact qa3 q
  | (cases u<;>first
      | exact qa3 q
      | (refine wB (wpAny_load Y ?_)
         rw [W,O];show wpAny M A (if (["enumerate","zip","dict_itemiterator","dict_reverseitemiterator","odict_iterator","itertools.zip_longest","itertools.pairwise"].contains n&&vs[0]?==some (qf8 _))=true then _ else _) Q E s;rw [if_neg (by intro h;rw [U,zg4] at h;cases h)];exact qa3 q))
df Itl (K:PySem.W.Frag) (a:Addr):It:=⟨fun i H=>∃ xs x,SqL K H a xs/\xs[i]?=some x,fun i H x H'=>H'=H/\∀ xs,SqL K H a xs->xs[i]?=some x,fun i H=>∃ xs,SqL K H a xs/\xs.length<=i⟩
df Itt (K:PySem.W.Frag) (a:Addr):It:=⟨fun i H=>∃ xs x,SqT K H a xs/\xs[i]?=some x,fun i H x H'=>H'=H/\∀ xs,SqT K H a xs->xs[i]?=some x,fun i H=>∃ xs,SqT K H a xs/\xs.length<=i⟩
df Itr (lo:Int) (n:Nat):It:=⟨fun i _=>i<n,fun i H x H'=>H'=H/\x=.int (lo+i),fun i _=>n<=i⟩
theorem tw (a it:Addr):Turn P w K tg (Itl K a) [it] it (fun i h=>h.IsListIter it a i) where
 mem:=by simp
 obj:=fun i h st b q=>by
  have e:b=it:=by simpa using q
  subst e;obtain ⟨o,e,c,d⟩:=st;exact ⟨o,e,fun v z=>by rw [d] at z;cases z⟩
 keep:=fun i h h' st k=>st.at fun o e=>k it \5 o e
 item:=by
  intro X hP hw hK hc i pins s σ H E I U st hg;subst hP hw hK;obtain ⟨xs,x,W,hx⟩:=hg;obtain ⟨its,Z,p,hz⟩:=I.list W;obtain ⟨u,hu,ru⟩:=Z.get hx;obtain ⟨f0,f1,f2,f3,Y,f5⟩:=U it \5;refine wpAny_pyNext_list_item st p.isList (x:=u) (by simpa using hu) fun h' O sb=>?_
  have I1:Inv X pins σ H {s with heap:=h'}:=I.turned (t':=s.toks) (fun b o q e=>(sb.2 b q).trans e) f0 f1 f3 Y f5;obtain ⟨o,e,c,d⟩:=id O;exact ⟨u,rfl,nZ (s:={s with heap:=h'}) e c d \7 ⟨x,H,I1,ru,⟨rfl,fun ys hy=>by rw [I.list_inj hy W];exact hx⟩,O,fun b q=>(U b q).1⟩⟩
 done:=by intro X hP hw hK hc i pins s σ H E I U st hg;subst hP hw hK;obtain ⟨xs,W,hx⟩:=hg;obtain ⟨its,Z,p,hz⟩:=I.list W;obtain ⟨f0,f1,f2,f3,Y,f5⟩:=U it \5;have hl:=Z.length;exact wpAny_pyNext_list_end (I.ok.hd hc) st p.isList (by simp;oo) fun h' eb=>⟨rfl,I.turned (t':=s.toks) (fun b o q e=>eb b o q e) f0 f1 f3 Y f5⟩
 self:=fun _ _ _ _ _ st h=>wpAny_pyIter_listiter st h
theorem pR (a it:Addr):Turn P w K tg (Itt K a) [it] it (fun i h=>h.IsTupleIter it a i) where
 mem:=by simp
 obj:=fun i h st b q=>by
  have e:b=it:=by simpa using q
  subst e;obtain ⟨o,e,c,d⟩:=st;exact ⟨o,e,fun v z=>by rw [d] at z;cases z⟩
 keep:=fun i h h' st k=>st.at fun o e=>k it \5 o e
 item:=by
  intro X hP hw hK hc i pins s σ H E I U st hg;subst hP hw hK;obtain ⟨xs,x,W,hx⟩:=hg;obtain ⟨its,Z,p,hz⟩:=I.tuple W;obtain ⟨u,hu,ru⟩:=Z.get hx;obtain ⟨f0,f1,f2,f3,Y,f5⟩:=U it \5;refine wpAny_pyNext_tuple_item st (show s.heap.IsTuple a its.toArray from p) (x:=u) (by simpa using hu) fun h' O sb=>?_
  have I1:Inv X pins σ H {s with heap:=h'}:=I.turned (t':=s.toks) (fun b o q e=>(sb.2 b q).trans e) f0 f1 f3 Y f5;obtain ⟨o,e,c,d⟩:=id O;exact ⟨u,rfl,nZ (s:={s with heap:=h'}) e c d \7 ⟨x,H,I1,ru,⟨rfl,fun ys hy=>by rw [I.tuple_inj hy W];exact hx⟩,O,fun b q=>(U b q).1⟩⟩
 done:=by intro X hP hw hK hc i pins s σ H E I U st hg;subst hP hw hK;obtain ⟨xs,W,hx⟩:=hg;obtain ⟨its,Z,p,hz⟩:=I.tuple W;obtain ⟨f0,f1,f2,f3,Y,f5⟩:=U it \5;have hl:=Z.length;exact wpAny_pyNext_tuple_end (I.ok.hd hc) st (show s.heap.IsTuple a its.toArray from p) (by simp;oo) fun h' eb=>⟨rfl,I.turned (t':=s.toks) (fun b o q e=>eb b o q e) f0 f1 f3 Y f5⟩
 self:=fun _ _ _ _ _ st h=>wpAny_pyIter_tupleiter st h
theorem pS {w:World} (it:Addr) (lo:Int) (n:Nat):Turn P w K tg (Itr lo n) [it] it (fun i h=>IsRangeIter h it (lo+(i:Nat)*1) ((n:Int)-(i:Nat)) 1) where
 mem:=by simp
 obj:=fun i h st b q=>by
  have e:b=it:=by simpa using q
  subst e
  exact ⟨_,st,fun v z=>by have z':Data.fields _=Data.cell v:=z;cases z'⟩
 keep:=fun i h h' st k=>k it \5 _ st
 item:=by
  intro X hP hw hK Z i pins s σ H E I U st hg;subst hP hw hK;obtain ⟨f0,f1,f2,f3,Y,f5⟩:=U it \5;have W:=Walks.range (prog:=X.prog) (w:=X.w) (I.ok.hd Z) it lo 1 n;refine W.item i s _ _ hg st fun v h' tk hv O kk=>?_
  obtain ⟨t,rfl⟩:=hv;have I1:Inv X pins σ H {s with heap:=h',toks:=tk}:=I.turned (fun b o q e=>kk b o (by simpa using q) e) f0 f1 f3 Y f5;refine ⟨_,rfl,nZ (s:={s with heap:=h',toks:=tk}) (n:="range_iterator") O rfl rfl \7 ⟨.int (lo+i),H,I1,⟨t,?_⟩,⟨rfl,rfl⟩,O,fun b q=>(U b q).1⟩⟩;rw [Int.mul_one]
 done:=by intro X hP hw hK Z i pins s σ H E I U st hg;subst hP hw hK;obtain ⟨f0,f1,f2,f3,Y,f5⟩:=U it \5;exact wpAny_pyNext_range_end (I.ok.hd Z) st (by have:n<=i:=hg;oo) fun h' eb=>⟨rfl,I.turned (t':=s.toks) (fun b o q e=>eb b o q e) f0 f1 f3 Y f5⟩
 self:=fun _ _ _ _ _ st h=>wpAny_pyIter_rangeiter st h
variable {l:Expr} {tl:TE} {ta:TA} {p:Pos} {fp:List Addr}
section
variable {X:Cx} {tg:Expr}
df Ab (K:PySem.W.Frag) (tl:TE):TI:=fun σ H R=>tl σ H fun x H1=>∃ a,x=.ref a/\(∃ xs,SqL K H1 a xs)/\R (Itl K a) H1
df iTup (K:PySem.W.Frag) (tl:TE):TI:=fun σ H R=>tl σ H fun x H1=>∃ a,x=.ref a/\(∃ xs,SqT K H1 a xs)/\R (Itt K a) H1
theorem jI (W:PE X l tl):PI X tg l (Ab X.K tl):=by
 intro pins s σ H R I h;refine thn (W pins s σ H _ I h) fun v s1 ⟨x,H1,O,Y,q1⟩=>?_
 obtain ⟨a,e,⟨xs,U⟩,q⟩:=q1;subst e;cases Y;obtain ⟨its,rv,p,hz⟩:=O.list U;refine za1 p.isList ?_;refine ⟨s1.heap.objs.size,[s1.heap.objs.size],_,_,H1,rfl,O.kept (t':=s1.toks) fun b o e=>gP _ e,tw a _,⟨_,qb1 _ rfl,rfl,rfl⟩,fun b Z=>?_,q⟩;have e:b=s1.heap.objs.size:=by simpa using Z
 subst e;exact O.fpOk (nL _) (O.hok.fresh (nL _))
theorem uR (W:PE X l tl):PI X tg l (iTup X.K tl):=by
 intro pins s σ H R I h;refine thn (W pins s σ H _ I h) fun v s1 ⟨x,H1,O,Y,q1⟩=>?_
 obtain ⟨a,e,⟨xs,U⟩,q⟩:=q1;subst e;cases Y;obtain ⟨its,rv,p,hz⟩:=O.tuple U;refine qz1 (show s1.heap.IsTuple a its.toArray from p) ?_;refine ⟨s1.heap.objs.size,[s1.heap.objs.size],_,_,H1,rfl,O.kept (t':=s1.toks) fun b o e=>gP _ e,pR a _,⟨_,qb1 _ rfl,rfl,rfl⟩,fun b Z=>?_,q⟩;have e:b=s1.heap.objs.size:=by simpa using Z
 subst e;exact O.fpOk (nL _) (O.hok.fresh (nL _))
theorem n4 {R:It->Hp->Prop} {lo hi:Int} {t u v:Tok} {tk:Nat} (I:Inv X pins σ H s) (h1:-(2^62)<=lo) (h2:lo<2^62) (h3:-(2^62)<=hi) (U:hi<2^62)
 (q:R (Itr lo (hi-lo).toNat) H):wpAny \4 X.A (zj8 (.ref s.heap.objs.size)) (PIE X pins σ tg R) E {s with heap:=s.heap.push {cls:=.type "range",data:=.fields #[.int lo t,.int hi u,.int 1 v]},toks:=tk}:=by
 refine wpAny_pyIter_range (IsRange.new ..) (small_one h1 h2 h3 U) ?_;have O:Inv X pins σ H {s with heap:=s.heap.push {cls:=.type "range",data:=.fields #[.int lo t,.int hi u,.int 1 v]},toks:=tk}:=I.kept fun b o e=>gP _ e
 refine ⟨(s.heap.push {cls:=.type "range",data:=.fields #[.int lo t,.int hi u,.int 1 v]}).objs.size,[(s.heap.push {cls:=.type "range",data:=.fields #[.int lo t,.int hi u,.int 1 v]}).objs.size],_,_,H,rfl,O.kept (t':=tk) fun b o e=>gP _ e,pS _ lo (hi-lo).toNat,?_,fun b Y=>?_,q⟩
 . have W:lo+((0:Nat):Int)*1=lo:=by simp
   have e2:(((hi-lo).toNat:Nat):Int)-((0:Nat):Int)=qi7.Range.rangeSize lo hi 1:=by rw [rangeSize_one];split<;>oo
   show IsRangeIter _ _ (lo+((0:Nat):Int)*1) ((((hi-lo).toNat:Nat):Int)-((0:Nat):Int)) 1;rw [W,e2];exact qb1 _ rfl
 . have e:b=(s.heap.push {cls:=.type "range",data:=.fields #[.int lo t,.int hi u,.int 1 v]}).objs.size:=by simpa using Y
   subst e;exact O.fpOk (nL _) (O.hok.fresh (nL _))
df Ac (ta:TA):TI:=fun σ H R=>ta σ H fun vs H1=>∃ j:Int,vs=[.int j]/\-(2^62)<=j/\j<2^62/\R (Itr 0 j.toNat) H1
df Ad (ta:TA):TI:=fun σ H R=>ta σ H fun vs H1=>∃ i j:Int,vs=[.int i,.int j]/\(-(2^62)<=i/\i<2^62/\-(2^62)<=j/\j<2^62)/\R (Itr i (j-i).toNat) H1
theorem tz {a:Expr} (O:Gl X "range") (hm:X.mg "range"=none) (W:PA X [a] ta) (U:qa6 [a] X.env=[(false,eval a X.env)]:=by rfl):PI X tg (.Call (.Name "range" p) [a] [] pos) (Ac ta):=by
 intro pins s σ H R I h;refine Call_ (fE I O hm boot_range (qh1 (thn (W pos pins s σ H _ I h) fun us s1 ⟨vs,H1,I1,Y,q1⟩=>?_) U rfl));obtain ⟨j,e,q1,q2,q⟩:=q1;subst e;cases Y with
 | cons r Z =>cases Z;obtain ⟨t,rfl⟩:=r;exact call_range_1 (n4 I1 \3 \3 q1 q2 (by simpa using q))
theorem tE {a b:Expr} (hg:Gl X "range") (Y:X.mg "range"=none) (ha:PA X [a,b] ta) (hs:qa6 [a,b] X.env=[(false,eval a X.env),(false,eval b X.env)]:=by rfl) (O:qa6 [b] X.env=[(false,eval b X.env)]:=by rfl) :
  PI X tg (.Call (.Name "range" p) [a,b] [] pos) (Ad ta):=by
 intro pins s σ H R I h;refine Call_ (fE I hg Y boot_range (qh1 (thn (ha pos pins s σ H _ I h) fun us s1 ⟨vs,H1,Z,W,q1⟩=>?_) (by rw [hs,O]) (by rw [O];rfl)));obtain ⟨i,j,e,⟨q1,q2,q3,q4⟩,q⟩:=q1;subst e;cases W with
 | cons r U =>
  cases U with
  | cons r' U =>cases U;obtain ⟨t,rfl⟩:=r;obtain ⟨t',rfl⟩:=r';exact call_range_2 (n4 Z q1 q2 q3 q4 q)
df tFor (wi:TI) (g:TG) (tb:TS):TS:=fun D σ H=>wi σ H fun J H1=>∃ W:Nat->Nat->St->Hp->Prop,(∃ m,W 0 m σ H1)/\∀ i m σ H,W i m σ H→ (J.stop i H/\D.nx σ H)∨(J.go i H/\∃ N:St->Hp->Prop,(∀ σ' H',N σ' H'->∃ O,O<m/\W (i+1) O σ' H')/\∀ x H',J.yld i H x H'->g x σ H' fun q H2=>tb {D with nx:=N,ct:=N,bk:=D.nx} q H2)
df iR (fp:List Addr) (h:Heap):List (Addr×Obj):=fp.filterMap fun b=>(h.get? b).map fun o=>(b,o)
theorem cC {o:Obj} (q:b∈fp) (e:h.get? b=some o):(b,o)∈iR fp h:=qz2.mpr ⟨b,q,by rw [e];rfl⟩
theorem tF {p:Addr×Obj} (hp:p∈iR fp h):p.1∈fp/\h.get? p.1=some p.2:=by
 obtain ⟨b,U,e⟩:=qz2.mp hp;cases q:h.get? b with
 | none=>rw [q] at e;cases e
 | some o =>rw [q] at e;have O:(b,o)=p:=qd9 e;subst O;exact ⟨U,q⟩
theorem Inv.pinned (I:Inv X pins σ H s) (W:∀ b∈fp,gB X pins H b) (U:∀ b∈fp,∃ o,s.heap.get? b=some o/\∀ v,o.data≠.cell v):Inv X (pins++iR fp s.heap) σ H s:=
 I.pins_of fun p hp=>(qg2.mp hp).elim (fun z=>I.pin p (qc8 _ z)) fun z=>by
  obtain ⟨O,e⟩:=tF z;obtain ⟨f0,f1,f2,_⟩:=W p.1 O;obtain ⟨o,q,d⟩:=U p.1 O;rw [e] at q;cases q
  exact ⟨e,f0,f1,f2,d⟩
theorem Inv.unpinned {q:List (Addr×Obj)} (I:Inv X (pins++q) σ H s):Inv X pins σ H s:=I.pins_of fun p hp=>I.pin p (qc8 _ (qg8 _ hp))
theorem pT {iter:Expr} {wi:TI} (hp:za0 \4 X.A X.env X.xe) (hc:X.calm=true) (hi:PI X tg iter wi) (hg:PG X tg g) (hb:PSs X body tb)
 (hs:∀ x,qg7 iter X.env x=pure x:=by intro _;rfl):PS X (.For tg iter body [] pos) (tFor wi g tb):=by
 intro pins s σ H D I h;refine wpAny_For (thn (hi pins s σ H _ I h) fun v s1 h1=>thn h1 fun itv s2 h2=>?_) hs;obtain ⟨it,fp,tn,J,H2,e,I2,T,st2,f2,W,⟨m0,w0⟩,turn⟩:=h2;subst e
 -- what stays true of the iterator's objects through the loop
 have U:∀ {H':Hp},(∀ b∈fp,H' b=none)->∀ b∈fp,gB X pins H' b:=fun hn b hb=>⟨hn b hb,(f2 b hb).2⟩
 refine codeAny_forLoop_any (fun n s'=>∃ i σ' H',Inv X pins σ' H' s'/\tn i s'.heap/\(∀ b∈fp,H' b=none)/\W i n σ' H') ?_ m0 ⟨0,σ,H2,I2,st2,fun b hb=>(f2 b hb).1,w0⟩;rintro n s3 ⟨i,σ3,H3,I3,st3,fr3,w3⟩;rcases turn i n σ3 H3 w3 with ⟨stop,qn⟩ | ⟨go,N,hN,step⟩
 . refine qo2 hp (thn (T.done X rfl rfl rfl hc i pins s3 σ3 H3 X.xe I3 (U fr3) st3 stop) fun r s4 ⟨hr,I4⟩=>?_);subst hr;exact qx4 ⟨σ3,H3,I4,qn⟩
 . refine qo2 hp (thn (T.item X rfl rfl rfl hc i pins s3 σ3 H3 X.xe I3 (U fr3) st3 go) fun r s4 ⟨u,hr,h4⟩=>?_);subst hr;refine qo2 hp (thn h4 fun _ s5 ⟨x,H5,I5,r5,y5,st5,fr5⟩=>?_);have I5':=I5.pinned (U fr5) (T.obj _ _ st5);refine qo2 hp (thn (hg _ s5 σ3 H5 x u _ I5' r5 (step x H5 y5)) fun _ s6 ⟨σ6,H6,I6,q6⟩=>?_);refine qo2 hp (thn (hb _ s6 σ6 H6 _ I6 q6) fun f s7 q7=>?_)
   have O:∀ {q:St} {Z:Hp},Inv X (pins++iR fp s5.heap) q Z s7->N q Z->∃ m,m<n/\∃ i σ' H',Inv X pins σ' H' s7/\tn i s7.heap/\(∀ b∈fp,H' b=none)/\W i m σ' H':=fun {q Z} Y n7=>by obtain ⟨m',hm,w7⟩:=hN q Z n7;refine ⟨m',hm,i+1,q,Z,Y.unpinned,T.keep _ _ _ st5 fun b hb o e=>(Y.pin (b,o) (qc8 _ (qc8 _ (cC hb e)))).1,fun b hb=>?_,w7⟩;obtain ⟨o,e,d⟩:=T.obj _ _ st5 b hb;exact (Y.pin (b,o) (qc8 _ (qc8 _ (cC hb e)))).2.1
   cases f with
   | next=>obtain ⟨q,Z,Y,n7⟩:=q7;exact O Y n7
   | cont=>obtain ⟨q,Z,Y,n7⟩:=q7;exact O Y n7
   | brk=>obtain ⟨q,Z,Y,q7⟩:=q7;exact ⟨q,Z,Y.unpinned,q7⟩
   | ret v=>obtain ⟨x7,q,Z,Y,r7,q7⟩:=q7;exact ⟨x7,q,Z,Y.unpinned,r7,q7⟩
end
abbrev R2:=V->V->Hp->VK->Prop
df OpR (X:Cx) (f:Value->Value->Sem Value) (r:R2):Prop:=
 ∀ (pins:List (Addr×Obj)) (s:qa4) (σ:St) (H:Hp) (x y:V) (v u:Value) (Q:VK),Inv X pins σ H s->RelV x v->RelV y u->r x y H Q→
  wpAny \4 X.A (f v u) (EP X pins σ Q) X.xe s
df UnR (X:Cx) (f:Value->Sem Value) (r:V->Hp->VK->Prop):Prop:=
 ∀ (pins:List (Addr×Obj)) (s:qa4) (σ:St) (H:Hp) (x:V) (v:Value) (Q:VK),Inv X pins σ H s->RelV x v->r x H Q→
  wpAny \4 X.A (f v) (EP X pins σ Q) X.xe s
df bX (X:Cx) (f:Value) (r:List V->Hp->VK->Prop):Prop:=
 ∀ (pins:List (Addr×Obj)) (s:qa4) (σ:St) (H:Hp) (xs:List V) (us:List Value) (Q:VK),Inv X pins σ H s->Vals xs us->r xs H Q→
  wpAny \4 X.A (call f us) (EP X pins σ Q) X.xe s
df TruR (X:Cx) (r:V->Hp->(Bool->Hp->Prop)->Prop):Prop:=
 ∀ (pins:List (Addr×Obj)) (s:qa4) (σ:St) (H:Hp) (x:V) (v:Value) (Q:Bool->Hp->Prop),Inv X pins σ H s->RelV x v->r x H Q→
  wpAny \4 X.A (truthy v) (TP X pins σ Q) X.xe s
df tOp (r:R2) (ta tb:TE):TE:=fun σ H Q=>ta σ H fun x H1=>tb σ H1 fun y H2=>r x y H2 Q
df tUn (r:V->Hp->VK->Prop) (ta:TE):TE:=fun σ H Q=>ta σ H fun x H1=>r x H1 Q
df rI (C:Int->Int->Prop) (g:Int->Int->V):R2:=fun x y H Q=>∃ i j,x=.int i/\y=.int j/\C i j/\Q (g i j) H
df rI0 (g:Int->Int->V):R2:=fun x y H Q=>∃ i j,x=.int i/\y=.int j/\Q (g i j) H
df rU (g:Int->V):V->Hp->VK->Prop:=fun x H Q=>∃ i,x=.int i/\Q (g i) H
variable {f:Value->Value->Sem Value} {r:R2}
section
variable {X:Cx} {a b c:Expr} {ta tb tc:TE} {pos:Pos}
theorem Bi (Y:PE X a ta) (hb:PE X b tb) (I:Inv X pins σ H s)
 (h:ta σ H fun x H1=>tb σ H1 fun y H2=>R x y H2) {Q:Value->qa4->Prop} 
 (hf:∀ v u U x y H2,Inv X pins σ H2 U->RelV x v->RelV y u->R x y H2->wpAny \4 X.A (f v u) Q X.xe U) :
  wpAny \4 X.A (eval a X.env) (fun v O=>wpAny \4 X.A (eval b X.env) (fun u q=>wpAny \4 X.A (f v u) Q X.xe q) X.xe O) X.xe s:=by
 refine thn (Y pins s σ H _ I h) fun v s1 ⟨x,H1,I1,Z,q1⟩=>?_
 refine thn (hb pins s1 σ H1 _ I1 q1) fun u U ⟨y,H2,I2,W,q2⟩=>?_
 exact hf v u U x y H2 I2 Z W q2
theorem Ae {O:zj4} (Z:OpR X (qk0 O) r) (Y:PE X a ta) (hb:PE X b tb):PE X (.BinOp a O b pos) (tOp r ta tb):=by intro pins s σ H Q I h;exact wpAny_BinOp (Bi Y hb I h fun v u W x y H2 I2 rx U q=>Z pins W σ H2 x y v u Q I2 rx U q)
theorem Dx {q:UnaryOp} {r:V->Hp->VK->Prop} (W:UnR X (unaryOp q) r) (O:PE X a ta):PE X (.UnaryOp q a pos) (tUn r ta):=by intro pins s σ H Q I h;exact UnaryOp_ (thn (O pins s σ H _ I h) fun v s1 ⟨x,H1,Y,U,q1⟩=>W pins s1 σ H1 x v Q Y U q1)
theorem opI {C:Int->Int->Prop} {g:Int->Int->Int}
 (O:∀ (i j:Int) (t u:Tok) (s:qa4) (Q:Value->qa4->Prop) (E:Value->qa4->Prop),C i j->Q (.int (g i j) s.toks) {s with toks:=s.toks+1}->wpAny \4 X.A (f (.int i t) (.int j u)) Q E s) :
  OpR X f (rI C fun i j=>.int (g i j)):=by
 intro pins s σ H x y v u Q I Y U h;obtain ⟨i,j,rfl,rfl,W,q⟩:=h;obtain ⟨t,rfl⟩:=Y;obtain ⟨t',rfl⟩:=U;exact O i j t t' s _ _ W ⟨.int (g i j),H,I.tok _,⟨_,rfl⟩,q⟩
theorem opI0 {g:Int->Int->Int}
 (O:∀ (i j:Int) (t u:Tok) (s:qa4) (Q:Value->qa4->Prop) (E:Value->qa4->Prop),Q (.int (g i j) s.toks) {s with toks:=s.toks+1}->wpAny \4 X.A (f (.int i t) (.int j u)) Q E s) :
  OpR X f (rI0 fun i j=>.int (g i j)):=by
 intro pins s σ H x y v u Q I W U h;obtain ⟨i,j,rfl,rfl,q⟩:=h;obtain ⟨t,rfl⟩:=W;obtain ⟨t',rfl⟩:=U;exact O i j t t' s _ _ ⟨.int (g i j),H,I.tok _,⟨_,rfl⟩,q⟩
theorem opB0 {g:Int->Int->Bool}
 (O:∀ (i j:Int) (t u:Tok) (s:qa4) (Q:Value->qa4->Prop) (E:Value->qa4->Prop),Q (.bool (g i j)) s->wpAny \4 X.A (f (.int i t) (.int j u)) Q E s) :
  OpR X f (rI0 fun i j=>.bl (g i j)):=by
 intro pins s σ H x y v u Q I W U h;obtain ⟨i,j,rfl,rfl,q⟩:=h;obtain ⟨t,rfl⟩:=W;obtain ⟨t',rfl⟩:=U;exact O i j t t' s _ _ ⟨.bl (g i j),H,I,rfl,q⟩
df Bj (i j:Int):Prop:=0<=j/\j<=1000000/\i.natAbs<2^64
df CMul (i j:Int):Prop:=(-(2^64)<i/\i<2^64)∨(-(2^64)<j/\j<2^64)
theorem CMul.ok {i j:Int} (h:CMul i j):IntMulOk i j:=by
 rcases h with ⟨h1,h2⟩ | ⟨h1,h2⟩
 . exact .of_left (intBits_le_64 h1 h2)
 . exact .of_right (intBits_le_64 h1 h2)
theorem Bk:OpR X (qk0 .Add) (rI0 fun i j=>.int (i+j)):=opI0 fun _ _ _ _ _ _ _ q=>add_int q
theorem Bl:OpR X (qk0 .Sub) (rI0 fun i j=>.int (i-j)):=opI0 fun _ _ _ _ _ _ _ q=>sub_int q
theorem uS:OpR X (qk0 .Mult) (rI CMul fun i j=>.int (i*j)):=opI fun _ _ _ _ _ _ _ O q=>mul_int q O.ok
theorem jQ:OpR X (qk0 .Mod) (rI (fun _ j=>0<j) fun i j=>.int (i%j)):=opI fun i j _ _ _ _ _ O q=>by have h1:(0:Int)<j:=O;exact mod_int' \3 (by rw [Int.fmod_eq_emod_of_nonneg i \3];exact q)
theorem gT:OpR X (qk0 .Pow) (rI Bj fun i j=>.int (i^j.toNat)):=opI fun _ _ _ _ _ _ _ O q=>pow_int_small O.1 O.2.1 O.2.2 q
theorem unI {f:Value->Sem Value} {g:Int->Int}
  (O:∀ (i:Int) (t:Tok) (s:qa4) (Q:Value->qa4->Prop) (E:Value->qa4->Prop),Q (.int (g i) s.toks) {s with toks:=s.toks+1}->wpAny \4 X.A (f (.int i t)) Q E s) :
  UnR X f (rU fun i=>.int (g i)):=by
 intro pins s σ H x v Q I U h;obtain ⟨i,rfl,q⟩:=h;obtain ⟨t,rfl⟩:=U;exact O i t s _ _ ⟨.int (g i),H,I.tok _,⟨_,rfl⟩,q⟩
theorem Bm:UnR X (unaryOp .USub) (rU fun i=>.int (-i)):=unI fun _ _ _ _ _ q=>neg_int q
end
df Bn:V->V->Bool
 | .non,.non=>true | .non,.int _=>true | .int _,.non=>true | .non,.bl _=>true | .bl _,.non=>true | .non,.str _=>true | .str _,.non=>true
 | .int _,.int _=>true | .bl _,.bl _=>true | .str _,.str _=>true | .byt _,.byt _=>true
 | .int _,.str _=>true | .str _,.int _=>true | .bl _,.str _=>true | .str _,.bl _=>true
 | _,_=>false
df rEq:R2:=fun x y H Q=>Bn x y=true/\Q (.bl (decide (x=y))) H
df rNe:R2:=fun x y H Q=>Bn x y=true/\Q (.bl (!decide (x=y))) H
theorem rb {i j:Int}:decide (V.int i=V.int j)=(i==j):=by rw [qi8];simp
theorem uT {i j:Bool}:decide (V.bl i=V.bl j)=(i==j):=by rw [qi8];simp
theorem rf {i j:Str}:decide (V.str i=V.str j)=(i==j):=by rw [qi8];simp
theorem rg {i j:Array UInt8}:decide (V.byt i=V.byt j)=(i.toList==j.toList):=by rw [qi8];cases i;cases j;simp
section
variable {X:Cx} {a b c:Expr} {ta tb tc:TE} {pos:Pos}
theorem aN {Q:VK} {k k':Bool} (I:Inv X pins σ H s) (q:Q (.bl k) H) (e:k=k'):EP X pins σ Q (.bool k') s:=by subst e;exact ⟨.bl k,H,I,rfl,q⟩
theorem Dy:OpR X (qg9 .Eq) rEq:=by
 intro pins s σ H x y v u Q I Y O h;obtain ⟨U,q⟩:=h;cases x with
 | non =>
  cases Y;cases y with
  | non=>cases O;exact PySem.EqNone.eq_none_none (aN I q \5)
  | bl j=>cases O;exact PySem.EqNone.eq_none_bool (aN I q \5)
  | int j=>obtain ⟨t',rfl⟩:=O;exact PySem.EqNone.eq_none_int (aN I q \5)
  | str j=>obtain ⟨t',rfl⟩:=O;exact PySem.EqNone.eq_none_str (aN I q \5)
  | _=>exact absurd (show false=true from U) qb8
 | bl i =>
  cases Y;cases y with
  | non=>cases O;exact PySem.EqNone.eq_bool_none (aN I q \5)
  | bl j=>cases O;exact eq_bool (aN I q uT)
  | str j=>obtain ⟨t',rfl⟩:=O;exact PySem.EqMixed.eq_bool_str (aN I q \5)
  | _=>exact absurd (show false=true from U) qb8
 | int i =>
  obtain ⟨t,rfl⟩:=Y;cases y with
  | non=>cases O;exact PySem.EqNone.eq_int_none (aN I q \5)
  | int j=>obtain ⟨t',rfl⟩:=O;exact eq_int (aN I q rb)
  | str j=>obtain ⟨t',rfl⟩:=O;exact PySem.EqMixed.eq_int_str (aN I q \5)
  | _=>exact absurd (show false=true from U) qb8
 | str i =>
  obtain ⟨t,rfl⟩:=Y;cases y with
  | non=>cases O;exact PySem.EqNone.eq_str_none (aN I q \5)
  | bl j=>cases O;exact PySem.EqMixed.eq_str_bool (aN I q \5)
  | int j=>obtain ⟨t',rfl⟩:=O;exact PySem.EqMixed.eq_str_int (aN I q \5)
  | str j=>obtain ⟨t',rfl⟩:=O;exact eq_str (aN I q rf)
  | _=>exact absurd (show false=true from U) qb8
 | byt i =>
  obtain ⟨t,rfl⟩:=Y;cases y with
  | byt j=>obtain ⟨t',rfl⟩:=O;exact PySem.W.eq_bytes (aN I q rg)
  | _=>exact absurd (show false=true from U) qb8
 | _=>cases y<;>exact absurd (show false=true from U) qb8
theorem Dz:OpR X (qg9 .NotEq) rNe:=by
 intro pins s σ H x y v u Q I Y O h;obtain ⟨U,q⟩:=h;cases x with
 | non =>
  cases Y;cases y with
  | non=>cases O;exact PySem.EqNone.ne_none_none (aN I q \5)
  | bl j=>cases O;exact PySem.EqNone.ne_none_bool (aN I q \5)
  | int j=>obtain ⟨t',rfl⟩:=O;exact PySem.EqNone.ne_none_int (aN I q \5)
  | str j=>obtain ⟨t',rfl⟩:=O;exact PySem.EqNone.ne_none_str (aN I q \5)
  | _=>exact absurd (show false=true from U) qb8
 | bl i =>
  cases Y;cases y with
  | non=>cases O;exact PySem.EqNone.ne_bool_none (aN I q \5)
  | bl j=>cases O;exact ne_bool (aN I q (congrArg not uT))
  | str j=>obtain ⟨t',rfl⟩:=O;exact PySem.EqMixed.ne_bool_str (aN I q \5)
  | _=>exact absurd (show false=true from U) qb8
 | int i =>
  obtain ⟨t,rfl⟩:=Y;cases y with
  | non=>cases O;exact PySem.EqNone.ne_int_none (aN I q \5)
  | int j=>obtain ⟨t',rfl⟩:=O;exact ne_int (aN I q (congrArg not rb))
  | str j=>obtain ⟨t',rfl⟩:=O;exact PySem.EqMixed.ne_int_str (aN I q \5)
  | _=>exact absurd (show false=true from U) qb8
 | str i =>
  obtain ⟨t,rfl⟩:=Y;cases y with
  | non=>cases O;exact PySem.EqNone.ne_str_none (aN I q \5)
  | bl j=>cases O;exact PySem.EqMixed.ne_str_bool (aN I q \5)
  | int j=>obtain ⟨t',rfl⟩:=O;exact PySem.EqMixed.ne_str_int (aN I q \5)
  | str j=>obtain ⟨t',rfl⟩:=O;exact ne_str (aN I q (congrArg not rf))
  | _=>exact absurd (show false=true from U) qb8
 | byt i =>
  obtain ⟨t,rfl⟩:=Y;cases y with
  | byt j=>obtain ⟨t',rfl⟩:=O;exact PySem.W.ne_bytes (aN I q (congrArg not rg))
  | _=>exact absurd (show false=true from U) qb8
 | _=>cases y<;>exact absurd (show false=true from U) qb8
theorem uU:OpR X (qg9 .Lt) (rI0 fun i j=>.bl (decide (i<j))):=opB0 fun _ _ _ _ _ _ _ q=>lt_int q
theorem Af:OpR X (qg9 .Gt) (rI0 fun i j=>.bl (decide (j<i))):=opB0 fun _ _ _ _ _ _ _ q=>gt_int q
theorem tH:OpR X (qg9 .In) (fun x y H Q=>∃ i j,x=.str i/\y=.str j/\Q (.bl (!(qh7 j i 0 j.length 1).isEmpty)) H):=by intro pins s σ H x y v u Q I U O h;obtain ⟨i,j,rfl,rfl,q⟩:=h;obtain ⟨t,rfl⟩:=U;obtain ⟨t',rfl⟩:=O;exact in_str (aN I q rfl)
theorem mD:OpR X (qg9 .Is) (fun x y H Q=>y=.non/\Q (.bl (decide (x=.non))) H):=by
 intro pins s σ H x y v u Q I O U h;obtain ⟨rfl,q⟩:=h;cases U;refine is_none_gen (aN I q ?_)
 cases x<;>first
  | (cases O;rfl)
  | (obtain ⟨t,rfl⟩:=O;rfl)
theorem rh:OpR X (qg9 .IsNot) (fun x y H Q=>y=.non/\Q (.bl (!decide (x=.non))) H):=by
 intro pins s σ H x y v u Q I O U h;obtain ⟨rfl,q⟩:=h;cases U;refine isnot_none_gen (aN I q ?_)
 cases x<;>first
  | (cases O;rfl)
  | (obtain ⟨t,rfl⟩:=O;rfl)
theorem OpR.or {O:R2} (h:OpR X f r) (h':OpR X f O):OpR X f (fun x y H Q=>r x y H Q∨O x y H Q):=by
 intro pins s σ H x y v u Q I W U q;rcases q with q | q
 . exact h pins s σ H x y v u Q I W U q
 . exact h' pins s σ H x y v u Q I W U q
theorem bq (b:Expr) {q:CmpOp} (h:q≠.In:=by decide) (h2:q≠.NotIn:=by decide):qj9 q b=false:=by
 have O:(q==CmpOp.In)=false:=by cases q<;>first | rfl | exact absurd rfl h
 have e2:(q==CmpOp.NotIn)=false:=by cases q<;>first | rfl | exact absurd rfl h2
 cases b<;>simp [qj9,O,e2]
theorem xU {O:CmpOp} (ho:OpR X (qg9 O) r) (Y:PE X a ta) (hb:PE X b tb) (Z:qj9 O b=false):PE X (.Compare a [O] [b] pos) (tOp r ta tb):=by intro pins s σ H Q I h;exact wpAny_Compare1 (Bi Y hb I h fun v u W x y H2 I2 rx U q=>ho pins W σ H2 x y v u Q I2 rx U q) Z
df DC (t:TE):TT:=fun σ H Q=>t σ H fun x H'=>∃ k,x=.bl k/\Q k H'
theorem jJ {q:CmpOp} (Z:OpR X (qg9 q) r) (ha:PE X a ta) (hb:PE X b tb) (Y:qj9 q b=false):PT X (.Compare a [q] [b] pos) (DC (tOp r ta tb)):=by
 intro pins s σ H Q I h
 refine zd9 (thn (ha pins s σ H _ I h) fun v s1 ⟨x,H1,I1,W,q1⟩=>thn (hb pins s1 σ H1 _ I1 q1) fun u U ⟨y,H2,I2,r2,q2⟩ =>thn (Z pins U σ H2 x y v u _ I2 W r2 q2) fun c s3 ⟨z,H3,I3,O,k,e,q3⟩=>?_) Y
 subst e;cases O;exact ql7 ⟨H3,I3,q3⟩
df Bo (K:PySem.W.Frag) (x:V) (H:Hp) (k:Bool):Prop:=
 match x with
 | .non=>k=false
 | .bl b=>k=b
 | .int i=>k=(i != 0)
 | .str y=>y.length<=qb2/\k=((y.length:Int) != 0)
 | .byt y=>y.size<=qb2/\k=((y.size:Int) != 0)
 | .ref p=>(∃ xs,SqL K H p xs/\k=!xs.isEmpty)∨(∃ xs,SqT K H p xs/\k=!xs.isEmpty)∨∃ kvs,H p=some (.dK kvs)/\k=!kvs.isEmpty
 | _=>False
theorem pU {κ:Type} {kvs:List (κ×V)} {vs:List (κ×Value)} (r:KV kvs vs):(!vs.isEmpty)=!kvs.isEmpty:=by cases r<;>rfl
theorem jR {its:List Value} (r:Vals xs its):(!its.toArray.isEmpty)=!xs.isEmpty:=by cases r<;>simp
theorem iS:(qb2:Nat)<2^63:=by rw [qx6];decide
theorem Bp:TruR X (fun x H Q=>∃ k,Bo X.K x H k/\Q k H):=by
 intro pins s σ H x v Q I rx h;obtain ⟨k,e,q⟩:=h;have hl:=iS;have hs:qb2=16777216:=qx6;cases x with
 | non =>cases rx;have e':k=false:=e;subst e';exact truthy_none ⟨H,I,q⟩
 | bl b =>cases rx;have e':k=b:=e;subst e';exact ql7 ⟨H,I,q⟩
 | int i =>obtain ⟨t,rfl⟩:=rx;have e':k=(i != 0):=e;subst e';exact PySem.P.truthy_int ⟨H,I,q⟩
 | str y =>obtain ⟨t,rfl⟩:=rx;obtain ⟨hy,e'⟩:y.length<=qb2/\k=((y.length:Int) != 0):=e;subst e';exact PySem.P.truthy_str \3 ⟨H,I.tok _,q⟩
 | byt y =>obtain ⟨t,rfl⟩:=rx;obtain ⟨hy,e'⟩:y.size<=qb2/\k=((y.size:Int) != 0):=e;subst e';exact PySem.W.truthy_bytes \3 ⟨H,I.tok _,q⟩
 | ref p =>
  cases rx;have e':(∃ xs,SqL X.K H p xs/\k=!xs.isEmpty)∨(∃ xs,SqT X.K H p xs/\k=!xs.isEmpty)∨∃ kvs,H p=some (.dK kvs)/\k=!kvs.isEmpty:=e;rcases e' with ⟨xs,hx,e'⟩ | ⟨xs,hx,e'⟩ | ⟨kvs,hx,e'⟩
  . subst e';obtain ⟨its,r,pl,hz⟩:=I.list hx;have hlen:=r.length;exact wpAny_truthy_list pl.isList (by simp only [qb5];oo) ⟨H,I.tok _,by rw [jR r];exact q⟩
  . subst e';obtain ⟨its,r,pl,hz⟩:=I.tuple hx;have hlen:=r.length;exact truthy_tuple pl (by simp only [qb5];oo) ⟨H,I.tok _,by rw [jR r];exact q⟩
  . subst e';obtain ⟨hz,hS,vs,r,m⟩:kvs.length<=qb2/\(p==ql5)=false/\∃ vs,KV kvs vs/\s.heap.DictOf (bC X.prog X.w) p vs:=I.hok p _ hx;have hlen:kvs.length=vs.length:=Paired.length r;exact wpAny_truthy_dict hS m \3 ⟨H,I.tok _,by rw [pU r];exact q⟩
 | _=>exact (show False from e).elim
theorem n5 (O:PE X a ta) (W:∀ q,isTrue a X.env q=(do let v <- q;standAt a.pos;zb2 [v] (truthy v))) :
  PT X a (fun σ H Q=>ta σ H fun x H'=>∃ k,Bo X.K x H' k/\Q k H'):=by
 intro pins s σ H Q I h;exact isTrue_plain (thn (O pins s σ H _ I h) fun v s1 ⟨x,H1,Y,U,q1⟩=>Bp pins s1 σ H1 x v Q Y U q1) (W _)
theorem pV:OpR X (qk0 .Add) (fun x y H Q=>∃ i j,x=.str i/\y=.str j/\i.length+j.length<=qb2/\Q (.str (i++j)) H):=by intro pins s σ H x y v u Q I W O h;obtain ⟨i,j,rfl,rfl,U,q⟩:=h;obtain ⟨t,rfl⟩:=W;obtain ⟨t',rfl⟩:=O;exact add_str (fun t' tk=>⟨.str (i++j),H,I.tok _,⟨_,rfl⟩,q⟩) U
theorem gF {x:V} (r:Vals [x] us):∃ u,us=[u]/\RelV x u:=by
 cases r with
 | cons O q=>cases q;exact ⟨_,rfl,O⟩
theorem uV {x:V} (r:Vals [x,y] us):∃ u w',us=[u,w']/\RelV x u/\RelV y w':=by
 cases r with
 | cons W O =>
  cases O with
  | cons U q=>cases q;exact ⟨_,_,rfl,W,U⟩
theorem tI (U:X.calm=true):bX X (.builtin "max") (fun xs H Q=>∃ i j,xs=[.int i,.int j]/\Q (.int (if j > i then j else i)) H):=by
 intro pins s σ H xs us Q I r h;obtain ⟨i,j,rfl,q⟩:=h;obtain ⟨u,W,rfl,⟨t,rfl⟩,⟨t',rfl⟩⟩:=uV r;refine max_two_ints (I.ok.hd U) fun h' tk k=>⟨_,H,I.kept k,?_,q⟩
 by_cases O:j > i
 . rw [if_pos O,if_pos O];exact ⟨_,rfl⟩
 . rw [if_neg O,if_neg O];exact ⟨_,rfl⟩
theorem tJ (U:X.calm=true):bX X (.builtin "min") (fun xs H Q=>∃ i j,xs=[.int i,.int j]/\Q (.int (if j<i then j else i)) H):=by
 intro pins s σ H xs us Q I r h;obtain ⟨i,j,rfl,q⟩:=h;obtain ⟨u,W,rfl,⟨t,rfl⟩,⟨t',rfl⟩⟩:=uV r;refine min_two_ints (I.ok.hd U) fun h' tk k=>⟨_,H,I.kept k,?_,q⟩
 by_cases O:j<i
 . rw [if_pos O,if_pos O];exact ⟨_,rfl⟩
 . rw [if_neg O,if_neg O];exact ⟨_,rfl⟩
df LenV (K:PySem.W.Frag) (x:V) (H:Hp) (n:Nat):Prop:=
 match x with
 | .str y=>y.length<=qb2/\n=y.length
 | .byt y=>y.size<=qb2/\n=y.size
 | .ref p=>(∃ xs,SqL K H p xs/\n=xs.length)∨∃ xs,SqT K H p xs/\n=xs.length
 | _=>False
theorem n6:bX X (.builtin "len") (fun xs H Q=>∃ x n,xs=[x]/\LenV X.K x H n/\Q (.int n) H):=by
 intro pins s σ H xs us Q I r h;obtain ⟨x,n,rfl,e,q⟩:=h;obtain ⟨u,rfl,rx⟩:=gF r;have hl:=iS;have hs:qb2=16777216:=qx6;cases x with
 | str y =>obtain ⟨t,rfl⟩:=rx;obtain ⟨hy,e'⟩:y.length<=qb2/\n=y.length:=e;subst e';exact len_str \3 ⟨.int _,H,I.tok _,⟨_,rfl⟩,q⟩
 | byt y =>obtain ⟨t,rfl⟩:=rx;obtain ⟨hy,e'⟩:y.size<=qb2/\n=y.size:=e;subst e';exact PySem.W.len_bytes \3 ⟨.int _,H,I.tok _,⟨_,rfl⟩,q⟩
 | ref p =>
  cases rx;have e':(∃ xs,SqL X.K H p xs/\n=xs.length)∨∃ xs,SqT X.K H p xs/\n=xs.length:=e;rcases e' with ⟨xs,hx,e'⟩ | ⟨xs,hx,e'⟩
  . subst e';obtain ⟨its,r',pl,hz⟩:=I.list hx;have hlen:=r'.length;exact Calls.call_len_list pl.isList (by simp only [qb5];oo) ⟨.int xs.length,H,I.tok _,⟨_,by simp only [qb5];rw [hlen]⟩,q⟩
  . subst e';obtain ⟨its,r',pl,hz⟩:=I.tuple hx;have hlen:=r'.length;exact len_tuple pl (by simp only [qb5];oo) ⟨.int xs.length,H,I.tok _,⟨_,by simp only [qb5];rw [hlen]⟩,q⟩
 | _=>exact (show False from e).elim
end
structure ObjM (h:Heap) (x dx C:Addr) (mA:Str->Option Value):Prop where
 obj:h.get? x=some (PySem.W.instObj C dx)
 ns:h.Ns1 dx mA
 ne:dx≠x
variable {dx:Addr} {mA:Str->Option Value}
theorem tM (n:h.Ns1 dx mA):∃ od,h.get? dx=some od/\∀ name,PySem.W.lookIn name od=some (mA name):=by
 obtain ⟨o,es,ep,ho,U,hk,_,Z⟩:=n;refine ⟨o,ho,fun name=>?_⟩;have e:=Z name;unfold nsFind findBy at e;rw [<- Array.find?_toList] at e;unfold PySem.W.lookIn;rw [U];dsimp only;split
 . rename_i y q;rw [q] at e;exact congrArg some e
 . rename_i q;rw [q] at e
   have a:es.toList.any (·.refKey)=false:=by rw [List.any_eq_false];intro y hy;obtain ⟨z,t,O⟩:=hk y (Array.mem_toList_iff.mp hy);simp [DictEntry.refKey,O]
   have Y:¬ es.toList.any (·.refKey)=true:=by rw [a];exact qb8
   rw [if_neg Y];exact congrArg some e
variable {C:Addr}
theorem ObjM.look {x:Addr} (I:ObjM h x dx C mA):∃ od,PySem.W.InstAt h x (PySem.W.instObj C dx) C (some od)/\∀ name,PySem.W.lookIn name od=some (mA name):=
 let ⟨od,ho,hl⟩:=tM I.ns
 ⟨od,⟨I.obj,rfl,rfl,ho⟩,hl⟩
section
variable {prog:qc9} {w:World} {A:qe0} {E:Value->qa4->Prop} {s:qa4} {K:PySem.W.Frag} {x dx C f:Addr} {mA:Str->Option Value} {name:Str} {v:Value}
end
theorem RelO.some_of {o:Option Value} (r:RelO (some v) o):∃ u,o=some u/\RelV v u:=by
 cases o with
 | none=>exact (show False from r).elim
 | some u=>exact ⟨u,rfl,r⟩
section
variable {P:qc9} {w:World} {H H':Hp} {h h':Heap} {a C dx:Addr} {fs fs':List (Str×V)}
theorem xV (O:HOk P w H h) (e:H a=some (.ins C dx fs)):∃ mA,ObjM h a dx C mA/\(∀ f,RelO (fs.lookup f) (mA f))/\PySem.Within mA (fs.map (·.1))/\fs.length<=1000/\H dx=some (.own a):=by obtain ⟨d,z,ne,ob,mA,n,r,q⟩:=(show ObjOk P w H h a (.ins C dx fs) from O a _ e);exact ⟨mA,⟨ob,n,ne⟩,r,q,z,d⟩
end
structure Cls (K:PySem.W.Frag) (C:Addr):Prop where
 pg:PySem.W.plainGet K C Str.empty=true
 hd:PySem.W.hasDictIn K C=true
 po:PySem.W.plainOver K C=true
 sa:PySem.W.findIn K (.ref C) "__setattr__"=some (some (.builtin "object.__setattr__"))
theorem Cls.get (c:Cls K C) (f:Str):PySem.W.plainGet K C f=true:=c.pg
section
variable {X:Cx} {pins:List (Addr×Obj)} {σ:St} {H:Hp} {s:qa4} {a C dx:Addr} {fs:List (Str×V)} {f:Str} {v:V} {A:qe0} {E:Value->qa4->Prop}
end
section
variable {X:Cx} {o e value:Expr} {f:Str} {pos pos' tpos:Pos} {ta tv:TE}
end
section
variable {X:Cx} {pins:List (Addr×Obj)} {σ:St} {H:Hp} {s:qa4} {A:qe0} {E:Value->qa4->Prop} {Q:Value->qa4->Prop} {c:Value} {b:Bool}
inductive TyOf (K:PySem.W.Frag) (H:Hp):V->Value->Prop where
 | non:TyOf K H .non (.type "NoneType")
 | bl (x:Bool):TyOf K H (.bl x) (.type "bool")
 | int (i:Int):TyOf K H (.int i) (.type "int")
 | str (x:Str):TyOf K H (.str x) (.type "str")
 | flt (x:UInt64):TyOf K H (.flt x) (.type "float")
 | lst {a:Addr} {xs:List V} (e:H a=some (.lst xs)):TyOf K H (.ref a) (.type "list")
 | frz {a:Addr} {o:Obj} {xs:List V} (e:H a=some (.frz o (.lst xs))):TyOf K H (.ref a) (.type "list")
 | tup {a:Addr} {xs:List V} (e:H a=some (.tup xs)):TyOf K H (.ref a) (.type "tuple")
 | dK {a:Addr} {kvs:List (Key×V)} (e:H a=some (.dK kvs)):TyOf K H (.ref a) (.type "dict")
 | dT {a:Addr} {kvs:List (List Key×V)} (e:H a=some (.dT kvs)):TyOf K H (.ref a) (.type "dict")
 | ins {a C dx:Addr} {fs:List (Str×V)} (e:H a=some (.ins C dx fs)) (cl:Cls K C) (ha:PySem.W.findIn K (.ref C) "__class__"=some (some (.builtin "object.__class__")))
     (hn:PySem.W.specialIn K (.builtin "object.__class__") "__get__"=some (some (.builtin "getset_descriptor.__get__"))) (htk:PySem.W.takesIn K (.builtin "object.__class__")=some true)
     (hm:PySem.W.mroIn K C (.type "object")=some true):TyOf K H (.ref a) (.ref C)
theorem gj {x:V} {t:Value} (I:Inv X pins σ H s) (U:RelV x u) (ty:TyOf X.K H x t) (e:PySem.W.kitOne X.K t c=some b) (h:∀ tk,Q (.bool b) {s with toks:=tk}) :
  wpAny \4 A (call (.builtin "isinstance") [u,c]) Q E s:=by
 cases ty with
 | non=>cases (show u=qi0 from U);exact PySem.W.kia_one PySem.W.kitx_none I.kIn qs5 e (fun z=>nomatch z) h
 | bl y=>cases (show u=qw9 y from U);exact PySem.W.kia_one PySem.W.kitx_bool I.kIn qs5 e (fun z=>nomatch z) h
 | int i=>obtain ⟨t,q⟩:=(show ∃ t,u=zj7 i t from U);cases q;exact PySem.W.kia_one PySem.W.kitx_int I.kIn qs5 e (fun z=>nomatch z) h
 | str y=>obtain ⟨t,q⟩:=(show ∃ t,u=zh3 y t from U);cases q;exact PySem.W.kia_one PySem.W.kitx_str I.kIn qs5 e (fun z=>nomatch z) h
 | flt y=>obtain ⟨t,q⟩:=(show ∃ t,u=Value.float y t from U);cases q;exact PySem.W.kia_one PySem.W.kitx_float I.kIn qs5 e (fun z=>nomatch z) h
 | @lst a xs Y =>cases (show u=qf7 a from U);obtain ⟨_,_,n,_,h1⟩:=(show ObjOk X.prog X.w H s.heap a (.lst xs) from I.hok a _ Y);exact PySem.W.kia_one PySem.W.kitx_list I.kIn ⟨_,h1,rfl⟩ e (fun z=>nomatch z) h
 | @frz a ob xs Y =>cases (show u=qf7 a from U);obtain ⟨_,_,_,n,_,h1⟩:=(show ObjOk X.prog X.w H s.heap a (.frz ob (.lst xs)) from I.hok a _ Y);exact PySem.W.kia_one PySem.W.kitx_list I.kIn ⟨_,h1,rfl⟩ e (fun z=>nomatch z) h
 | @tup a xs Y =>cases (show u=qf7 a from U);obtain ⟨_,_,_,p⟩:=(show ObjOk X.prog X.w H s.heap a (.tup xs) from I.hok a _ Y);obtain ⟨o,h1,h2,_⟩:=p;exact PySem.W.kia_one PySem.W.kitx_tuple I.kIn ⟨o,h1,h2⟩ e (fun z=>nomatch z) h
 | @dK a kvs Y =>cases (show u=qf7 a from U);obtain ⟨_,_,vs,_,p⟩:=(show ObjOk X.prog X.w H s.heap a (.dK kvs) from I.hok a _ Y);obtain ⟨o,es,ep,h1,h2,_⟩:=p;exact PySem.W.kia_one PySem.W.kitx_dict I.kIn ⟨o,h1,h2.1⟩ e (fun z=>nomatch z) h
 | @dT a kvs Y =>cases (show u=qf7 a from U);obtain ⟨_,_,xs,_,o,es,ep,h1,h2,_⟩:=(show ObjOk X.prog X.w H s.heap a (.dT kvs) from I.hok a _ Y);exact PySem.W.kia_one PySem.W.kitx_dict I.kIn ⟨o,h1,h2.1⟩ e (fun z=>nomatch z) h
 | @ins a C dx fs Y cl ha hn Z hm =>cases (show u=qf7 a from U);obtain ⟨mA,O,_⟩:=xV I.hok Y;obtain ⟨od,J,_⟩:=O.look;exact PySem.W.kia_one (PySem.W.kitx_own (cl.get _) cl.hd ha hn Z hm) I.kIn J e (fun z=>nomatch z) h
end
structure Room (k:Nat) (A:qe0):Prop where
 hd:A.handled=none
 dp:A.depth+3*k+5<recursionLimit
 un:A.units+16*k+200<cLine
theorem Room.mono {k:Nat} (r:Room k A) (h:j<=k):Room j A:=⟨r.hd,by have:=r.dp;oo,by have:=r.un;oo⟩
theorem Room.deeper {k:Nat} (r:Room (k+1) A) (env:Env):Room k (A.deeper env):=⟨r.hd,by have:=r.dp;show A.depth+1+3*k+5<_;oo,by have:=r.un;show A.units+3+16*k+200<_;oo⟩
theorem Room.depth {k:Nat} (r:Room k A):A.depth<recursionLimit:=by have:=r.dp;oo
theorem Room.units {k:Nat} (r:Room k A):A.units+64<cLine:=by have:=r.un;oo
df tNil:TA:=fun _ H Q=>Q [] H
df DD (ta:TE) (q:TA):TA:=fun σ H Q=>ta σ H fun x H1=>q σ H1 fun xs H2=>Q (x::xs) H2
section
variable {X:Cx} {e:Expr} {es:List Expr} {te:TE} {t:TA} {pos:Pos}
theorem cW:PA X [] tNil:=fun _ _ _ _ H Q I h=>Calls.spliced_nil ⟨[],H,I,.nil,h⟩
theorem bJ (U:PE X e te) (Y:PA X es t) (O:qa6 (e::es) X.env=#a::qa6 es X.env:=by rfl):PA X (e::es) (DD te t):=by intro pos pins s σ H Q I h;rw [O];show wpAny _ _ (spliced (#a::qi4 pos (qa6 es X.env))) _ _ s;refine Calls.spliced_cons (thn (U pins s σ H _ I h) fun u s1 ⟨x,H1,I1,W,q1⟩=>?_);exact thn (Y pos pins s1 σ H1 _ I1 q1) fun us s2 ⟨xs,H2,Z,q,q2⟩=>⟨x::xs,H2,Z,.cons W q,q2⟩
df tTup (t:TA):TE:=fun σ H Q=>t σ H fun xs H1=>xs.length<=qb2/\∀ p,H1 p=none->Q (.ref p) (upd H1 p (.tup xs))
df tLst (t:TA):TE:=fun σ H Q=>t σ H fun xs H1=>xs.length<=qb2/\∀ p,H1 p=none->Q (.ref p) (upd H1 p (.lst xs))
theorem Bq {x1} (h:PA X es t):PE X (.Tuple es x1 pos) (tTup t):=by intro pins s σ H Q I U;refine wpAny_Tuple_spliced (thn (h pos pins s σ H _ I U) fun us s1 ⟨xs,H1,O,r,z,q⟩=>⟨by rw [<- r.length];exact z,?_⟩);have W:H1 s1.heap.objs.size=none:=O.hok.fresh (nL _);refine ⟨.ref s1.heap.objs.size,upd H1 s1.heap.objs.size (.tup xs),O.laid (t':=s1.toks) (fun b u e=>gP _ e) (nL _) ?_,rfl,q _ W⟩;exact ⟨z,us,r,⟨_,qb1 _ rfl,rfl,_,rfl⟩⟩
theorem Br (h:PA X es t):PE X (.List es pos) (tLst t):=by intro pins s σ H Q I U;refine wpAny_List_spliced (thn (h pos pins s σ H _ I U) fun us s1 ⟨xs,H1,O,r,z,q⟩=>⟨by rw [<- r.length];exact z,?_⟩);have W:H1 s1.heap.objs.size=none:=O.hok.fresh (nL _);refine ⟨.ref s1.heap.objs.size,upd H1 s1.heap.objs.size (.lst xs),O.laid (t':=s1.toks) (fun b u e=>gP _ e) (nL _) ?_,rfl,q _ W⟩;exact ⟨z,us,0,r,qb1 _ rfl⟩
end
abbrev Sp:=List V->Hp->VK->XK->Prop
abbrev CXT:=List Env->Hp->qa4->XK->Value->qa4->Prop
structure Env0 (P:qc9) (w:World) (K:PySem.W.Frag) (mg:Str->Option Value) (base:Heap) (A:qe0) (outer:List Env) (s:qa4) (H:Hp):Prop where
 frames:A.frames=some outer
 mod:Mod K mg base
 bs:∀ b o,base.get? b=some o->s.heap.get? b=some o/\H b=none
 bsz:base.objs.size<=s.heap.objs.size
 funs:s.heap.FunFrames base outer
 frf:∀ b∈frs outer,H b=none
 hok:HOk P w H s.heap
 bare:zd6 s.gens
 tb:∀ p∈cA K,H p.1=some (.ctab p.2)
df CE (outer:List Env) (P:qc9) (w:World) (H:Hp) (s:qa4) (Q:VK) (u:Value) (s':qa4):Prop:=∃ v H',s'.os=s.os/\zd6 s'.gens/\Un (frs outer) [] H H' s.heap s'.heap/\HOk P w H' s'.heap/\RelV v u/\Q v H'
df CR (CX:CXT) (outer:List Env) (P:qc9) (w:World) (H:Hp) (s:qa4) (Q:VK) (E:XK) (r:Result) (s':qa4):Prop:=
 match r with
 | .ok (.ret u)=>CE outer P w H s Q u s'
 | .ok _=>False
 | .error e=>CX outer H s E e s'
structure FnOk (P:qc9) (w:World) (K:PySem.W.Frag) (mg:Str->Option Value) (base:Heap) (CX:CXT) (k:Nat) (f:Addr) (fd:qq8) (ps:List Str) (sp:Sp):Prop where
 len:∀ vs H Q E,sp vs H Q E->vs.length=ps.length
 run:∀ (A:qe0) (outer:List Env) (s:qa4) (H:Hp) (args:Args) (us:List Value) (vs:List V) (Q:VK) (E:XK),Room k A->Env0 P w K mg base A outer s H->zb4 s fd args (ps.zip us)->Vals vs us->sp vs H Q E→
  qr4 (model P w) A (.call (.ref f) args) (CR CX outer P w H s Q E) s
variable {base:Heap} {CX:CXT} {fd:qq8} {ps:List Str} {sp:Sp}
theorem FnOk.imp {mg:Str->Option Value} {k:Nat} {f:Addr} {U:Sp} (F:FnOk P w K mg base CX k f fd ps sp)
 (h:∀ vs H Q E,U vs H Q E->sp vs H Q E):FnOk P w K mg base CX k f fd ps U:=
 ⟨fun vs H Q E q=>F.len vs H Q E (h _ _ _ _ q),fun A outer s H O us vs Q E hr Z hb Y W=>F.run A outer s H O us vs Q E hr Z hb Y (h _ _ _ _ W)⟩
section
variable {X:Cx} {pins:List (Addr×Obj)} {σ:St} {H:Hp} {s s':qa4}
theorem Inv.env0 (I:Inv X pins σ H s):Env0 X.prog X.w X.K X.mg X.base X.A X.stack s H:=⟨I.ok.frames,I.ok.mod,I.bs,qc3 I.ok.bsz I.sz,I.stack,I.stkFree,I.hok,I.bare,fun p hp=>I.base.cts _ _ (I.ok.tb p hp)⟩
theorem Inv.after {Q:VK} (I:Inv X pins σ H s) (h:CE X.stack X.prog X.w H s Q u s'):EP X pins σ Q u s':=by obtain ⟨v,H',os,O,un,U,r,q⟩:=h;obtain ⟨Y,g,d,t,W⟩:=s';obtain rfl:W=s.os:=os;exact ⟨v,H',I.call (h':=Y) (g':=g) (d':=d) (t':=t) (ch:=[]) un U O (fun b z=>absurd z \5),r,q⟩
end
df uW (sp:Sp) (dvs:List V) (E:XK) (t:TA):TE:=fun σ H Q=>t σ H fun vs H1=>sp (vs++dvs) H1 Q E
df Binds (K:PySem.W.Frag) (fd:qq8) (ps:List Str) (ds:List Value):Prop:=∀ (s:qa4) (us:List Value),K.In s.heap->(us++ds).length=ps.length->zb4 s fd ⟨us,[]⟩ (ps.zip (us++ds))
theorem Binds.all (h:∀ us:List Value,us.length=ps.length->zh7 fd ⟨us,[]⟩=pure (ps.zip us)):Binds K fd ps []:=fun s us _ q=>by rw [qh2] at q ⊢;exact .of_eq (h us q)
df pW (CX:CXT) (X:Cx) (E:XK):Prop:=∀ (pins:List (Addr×Obj)) (σ:St) (H:Hp) (s:qa4) (e:Value) (s':qa4),Inv X pins σ H s->CX X.stack H s E e s'->X.xe e s'
variable {vs:List V}
section
variable {X:Cx} {CX:CXT} {k:Nat} {f C:Addr} {fd:qq8} {ps:List Str} {sp:Sp} {dvs:List V} {ds:List Value} {E:XK} {x m:Str} {p pos apos:Pos} {e o:Expr} {es:List Expr} {ta:TE} {t:TA}
theorem Bs {Q:VK} (F:FnOk X.prog X.w X.K X.mg X.base CX k f fd ps sp) (Z:Room k X.A) (hb:Binds X.K fd ps ds) (U:Vals dvs ds) (W:pW CX X E)
 (I:Inv X pins σ H s) (r:Vals vs us) (h:sp (vs++dvs) H Q E):wpAny \4 X.A (call (.ref f) us) (EP X pins σ Q) X.xe s:=by
 have O:Vals (vs++dvs) (us++ds):=r.append U;have Y:(us++ds).length=ps.length:=by rw [<- O.length];exact F.len _ _ _ _ h
 refine zi3 (qs6 (F.run X.A X.stack s H ⟨us,[]⟩ (us++ds) (vs++dvs) Q E Z I.env0 (hb s us I.kIn Y) O h) fun r s' q=>?_);cases r with
 | error e=>exact W pins σ H s e s' I q
 | ok fl =>
  cases fl with
  | ret u=>exact I.after q
  | next=>exact qg6 q
  | brk=>exact qg6 q
  | cont=>exact qg6 q
theorem xW (F:FnOk X.prog X.w X.K X.mg X.base CX k f fd ps sp) (hr:Room k X.A) (hg:Gl X x) (hm:X.mg x=some (.ref f)) (hk:PySem.W.keepIn X.K (.ref f)=true) (hb:Binds X.K fd ps ds) (Z:Vals dvs ds) (hx:pW CX X E)
  (ha:PA X (e::es) t) (U:(x==("__debug__":Str))=false:=by decide) (he:qa6 (e::es) X.env=#a::qa6 es X.env:=by rfl) (O:(qi4 pos (qa6 es X.env)).any (·.1)=false:=by rfl) :
  PE X #b (uW sp dvs E t):=by
 intro pins s σ H Q I h;refine qp9 (mB I hg hm ?_ U);refine PySem.W.callWith_K (h₀:=X.base) I.ok.mod.kin hk (thn (ha pos pins s σ H _ I h) fun us s1 ⟨vs,H1,Y,r,q⟩=>⟨Y.kIn,?_⟩) he O;exact Bs F hr hb Z hx Y r q
end
section
variable {X:Cx} {CX:CXT} {k:Nat} {f C:Addr} {fd:qq8} {ps ks:List Str} {sp:Sp} {E:XK} {x m:Str} {p pos apos kpos:Pos} {e o:Expr} {es:List Expr} {kws:List qt2} {te ta:TE} {t tk:TA} {nm:Option Str}
variable {g:List Value->List Value->List Value} {gV:List V->List V->List V}
end
structure FnScope (N P:List Str) (sc:Scope):Prop where
 kind:sc.kind=.function
 co:sc.isCoroutine=false
 gen:sc.isGenerator=false
 nd:N.Nodup
 pre:N.take P.length=P
 par:∀ x∈P,sc.names.lookup x=some .local∨sc.names.lookup x=some .cell
 nofree:∀ y∈sc.names,y.2≠.free
variable {kindOf:Str->Option qq0}
theorem lr:∀ {binds:List (Str×Value)} {m:Str->Option Value},(∀ v,(x,v)∉binds)->bindL kindOf binds m x=m x
 | [],_,_=>rfl
 | (n,v)::r,m,h=>by
  unfold bindL;rw [lr fun w hw=>h w (qd0 _ hw)];split
  . have:x≠n:=by rintro rfl;exact h v qe1
    simp [this]
  . rfl
theorem lu:∀ {binds:List (Str×Value)} {m:Str->Option Value},(∀ v,(x,v)∉binds)->bindC kindOf binds m x=m x
 | [],_,_=>rfl
 | (n,v)::r,m,h=>by
  unfold bindC;rw [lu fun w hw=>h w (qd0 _ hw)];split
  . rfl
  . have:x≠n:=by rintro rfl;exact h v qe1
    simp [this]
theorem iT {v:Value}:∀ {P:List Str} {vs:List Value} {i:Nat} {m:Str->Option Value},P.Nodup->P[i]?=some x->vs[i]?=some v->kindOf x=some .local→
  bindL kindOf (P.zip vs) m x=some v
 | [],_,_,_,_,h,_,_=>by simp at h
 | _::_,[],_,_,_,_,h,_=>by simp at h
 | p::P,w::vs,0,m,nd,h1,h2,hk=>by
  simp at h1 h2;subst h1;subst h2
  show bindL kindOf ((p,w)::P.zip vs) m p=_;unfold bindL;rw [lr fun v hv=>(qk4.mp nd).1 (qx7 hv).1,if_pos hk];simp
 | p::P,w::vs,i+1,m,nd,h1,h2,hk=>by show bindL kindOf ((p,w)::P.zip vs) m x=_;unfold bindL;exact iT (i:=i) (qk4.mp nd).2 (by simpa using h1) (by simpa using h2) hk
theorem iU {v:Value}:∀ {P:List Str} {vs:List Value} {i:Nat} {m:Str->Option Value},P.Nodup->P[i]?=some x->vs[i]?=some v->kindOf x≠some .local→
  bindC kindOf (P.zip vs) m x=some v
 | [],_,_,_,_,h,_,_=>by simp at h
 | _::_,[],_,_,_,_,h,_=>by simp at h
 | p::P,w::vs,0,m,nd,h1,h2,hk=>by
  simp at h1 h2;subst h1;subst h2
  show bindC kindOf ((p,w)::P.zip vs) m p=_;unfold bindC;rw [lu fun v hv=>(qk4.mp nd).1 (qx7 hv).1,if_neg hk];simp
 | p::P,w::vs,i+1,m,nd,h1,h2,hk=>by show bindC kindOf ((p,w)::P.zip vs) m x=_;unfold bindC;exact iU (i:=i) (qk4.mp nd).2 (by simpa using h1) (by simpa using h2) hk
df start (N:List Str) (vs:List V):St:=vs.map some++qc6 (N.length-vs.length) none
df jy (CX:CXT) (P:qc9) (w:World) (K:PySem.W.Frag) (mg:Str->Option Value) (base:Heap) (N:List Str) (qual:Str) (scope:Scope) (f:Addr) (O:Value) (A:qe0) (outer:List Env) (s:qa4) (H:Hp) (E:XK):Cx where
 prog:=P
 w:=w
 K:=K
 mg:=mg
 base:=base
 A:=A.deeper (qz3 qual scope s.heap.objs.size f O)
 N:=N
 s₀:=s
 H₀:=H
 env:=qz3 qual scope s.heap.objs.size f O
 outer:=outer
 stack:=qz3 qual scope s.heap.objs.size f O::outer
 ex:=[]
 calm:=true
 fn:=fun _=>true
 pn:=[]
 xe:=fun e s'=>wpAny (model P w) (A.deeper (qz3 qual scope s.heap.objs.size f O)) (leaving (qz3 qual scope s.heap.objs.size f O) e) (fun _ q=>CX outer H s E e q) (fun U q=>CX outer H s E U q) s'
theorem il {sc:Scope} (h:sc.names.lookup x=some .cell):∃ c,(qh0 n sc.names []).lookup x=some c:=by have q:=PySem.W.cellsFrom_some sc.names n [] (.inl h);exact qs7.mp q
variable {qual:Str} {scope:Scope}
theorem tN {mg:Str->Option Value} {f:Addr} {Y:Value} {outer:List Env} {s1:qa4} {E:XK} 
 (S:FnScope N ps scope) (hd:A.handled=none) (e0:Env0 P w K mg base A outer s H) (hl:vs.length=ps.length) (r:Vals vs us)
 (x:ze1 s s.heap.objs.size (bindL (qz3 qual scope s.heap.objs.size f Y).kindOf (ps.zip us) fun _=>none) (qh0 (s.heap.objs.size+1) scope.names []) (bindC (qz3 qual scope s.heap.objs.size f Y).kindOf (ps.zip us) fun _=>none) s1) :
  Inv (jy CX P w K mg base N qual scope f Y A outer s H E) [] (start N vs) H s1:=by
 have hpl:ps.length<=N.length:=by have:=congrArg qx8 S.pre;rw [zc6] at this;oo
 obtain ⟨h1,tk,rfl,hk⟩:=x.done;have O:∀ b:Addr,b∉(jy CX P w K mg base N qual scope f Y A outer s H E).ex:=fun b z=>absurd (show b∈([]:List Addr) from z) \5
 refine ⟨⟨e0.mod,S.kind,rfl,rfl,nL _,fun y z c h1 h2=>?_,fun y U=>?_,fun y c _ h=>?_,fun _=>hd,qe0.frames_deeper e0.frames,.inr ⟨rfl,rfl⟩,fun b z=>absurd z (O b),e0.bs,e0.bsz,fun b _ _=>O b,fun b z=>absurd z (O b),e0.funs,e0.frf,e0.tb⟩,rfl,e0.bare,Un.kept hk,⟨_,x.toInCall.ns,fun i y v h1 h2 h3=>?_⟩,fun y c h=>⟨_,x.cell y c h⟩,e0.hok.fresh (qu2 _),fun y c h=>?_,fun p hp=>absurd (show p∈([]:List (Addr×Obj)) from hp) \5,e0.hok.kept hk,?_⟩
 . exact zj0 x.apart (PySem.mem_of_lookup h1) (PySem.mem_of_lookup h2)
 . have U:scope.names.lookup y=some .cell∨scope.names.lookup y=some .free:=U;rcases U with U | U
   . exact il U
   . exact absurd rfl (S.nofree _ (PySem.mem_of_lookup U))
 . exact ql4 (x.above y c (PySem.mem_of_lookup h))
 . have hi:i<vs.length:=by
    unfold start at h2;by_cases hi:i<vs.length
    . exact hi
    . rw [qc5 (by simpa using hi)] at h2;rw [ql2] at h2;split at h2<;>cases h2
   have ha:vs[i]?=some v:=by
    unfold start at h2;rw [qa5 (by simpa using hi),qb0] at h2;cases e:vs[i]? with
    | none=>rw [e] at h2;cases h2
    | some a=>rw [e] at h2;cases h2;rfl
   obtain ⟨u,Z,rv⟩:=r.get ha
   have hp:ps[i]?=some y:=by rw [<- S.pre,za2 \3];exact h1
   have W:ps.Nodup:=by rw [<- S.pre];exact S.nd.sublist (List.take_sublist _ _)
   refine ⟨u,rv,?_⟩;rcases S.par y (qd3 hp) with k | k
   . exact .inl ⟨k,iT W hp Z k⟩
   . obtain ⟨c,e⟩:=il (n:=s.heap.objs.size+1) k;refine .inr ⟨.inl k,c,e,?_⟩;have q:=x.cell y c e;rw [iU W hp Z (by show scope.names.lookup y≠_;rw [k];decide)] at q;exact q
 . exact e0.hok.fresh (ql4 (x.above y c (PySem.mem_of_lookup h)))
 . unfold start;show _=N.length;rw [qa8,qa2,qm9];oo
theorem Ah {mg:Str->Option Value} {k:Nat} {f:Addr} {name:Str} {params:qj4} {dV kV doc pm cdv ct oc:Value} {an od:Option Addr}
 {osl:Array (Option Value)} (lk:K.lookup f=some ⟨oc,od,.func (PySem.W.fnOf name qual params body scope dV kV doc pm an cdv ct),osl⟩) (hcd:PySem.W.codeIn K cdv qual=true) (S:FnScope N ps scope)
 (len:∀ vs H Q E,sp vs H Q E->vs.length=ps.length)
 (U:∀ (A:qe0) (outer:List Env) (s:qa4) (H:Hp) (vs:List V) (Q:VK) (E:XK),Room k (A.deeper (qz3 qual scope s.heap.objs.size f cdv))->sp vs H Q E→
 ∃ t,PSs (jy CX P w K mg base N qual scope f cdv A outer s H E) body t/\t {nx:=fun _ H'=>Q .non H',rt:=Q} (start N vs) H) :
  FnOk P w K mg base CX (k+1) f (PySem.W.fnOf name qual params body scope dV kV doc pm an cdv ct) ps sp:=by
 refine ⟨len,fun A outer s H args us vs Q E hr e0 hb r Z=>?_⟩;have hl:=len _ _ _ _ Z;have KX:K.In s.heap:=e0.mod.kin.keeps fun b o e=>(e0.bs b o e).1
 have lim:s.heap.NoLimit:=e0.mod.nolimit.keeps fun b o e=>(e0.bs b o e).1
 have O:∀ y∈ps.zip us,scope.names.lookup y.1=some .local∨(scope.names.lookup y.1=some .cell/\((qh0 (s.heap.objs.size+1) scope.names []).lookup y.1).isSome=true):=fun ⟨n,v⟩ hy=>by
  rcases S.par n (qx7 hy).1 with q | q
  . exact .inl q
  . exact .inr ⟨q,PySem.W.cellsFrom_some _ _ _ (.inl q)⟩
 refine ze2 hr.depth (KX _ _ lk) rfl S.co S.gen rfl (PySem.W.codeRec_of KX hcd) (hb _ _ _ _ ?_);refine wpAny_newFunctionEnv_cells S.kind O fun env he s1 x=>?_
 subst he;refine ⟨lim.keeps x.toInCall.keep,codeAny_func ?_⟩;obtain ⟨t,ht,hq⟩:=U A outer s H vs Q E (hr.deeper _) Z;have I:Inv (jy CX P w K mg base N qual scope f cdv A outer s H E) [] (start N vs) H s1:=tN S hr.hd e0 hl r x;refine ql6 (ht [] s1 (start N vs) H _ I hq) (fun fl s' Y=>?_) fun e s' Y=>Y
 have fin:∀ {σ':St} {H':Hp} {v:V} {u:Value},Inv (jy CX P w K mg base N qual scope f cdv A outer s H E) [] σ' H' s'->RelV v u->Q v H'->CE outer P w H s Q u s':=fun {σ' H' v u} J rv q=>⟨v,H',J.os,J.bare,J.base,J.hok,rv,q⟩
 cases fl with
 | ret u =>obtain ⟨v,σ',H',J,rv,q⟩:=Y;exact fin J rv q
 | next =>obtain ⟨σ',H',J,q⟩:=Y;exact fin (v:=V.non) (u:=qi0) J rfl q
 | brk =>obtain ⟨_,_,_,q⟩:=Y;exact qg6 q
 | cont =>obtain ⟨_,_,_,q⟩:=Y;exact qg6 q
section
variable {X:Cx} {x:Str} {p pos:Pos} {e:Expr} {es:List Expr} {t:TA} {id T:String} {r:List V->Hp->VK->Prop}
df tCB (r:List V->Hp->VK->Prop) (t:TA):TE:=fun σ H Q=>t σ H fun vs H1=>r vs H1 Q
theorem uX (hc:bX X (.builtin id) r) (W:Gl X x) (hm:X.mg x=none) (Y:qd6 x=some (.builtin id)) (Z:PA X (e::es) t) (U:x≠"__name__":=by decide) (O:(x==("__debug__":Str))=false:=by decide)
  (he:qa6 (e::es) X.env=#a::qa6 es X.env:=by rfl) (q:(qi4 pos (qa6 es X.env)).any (·.1)=false:=by rfl):PE X #b (tCB r t):=by
 intro pins s σ H Q I h;refine qp9 (fE I W hm Y ?_ U O);exact PyProof.Rows.callWith_builtin1 (thn (Z pos pins s σ H _ I h) fun us s1 ⟨vs,H1,I1,r1,q1⟩=>hc pins s1 σ H1 vs us Q I1 r1 q1) he q
theorem tP (hc:bX X (.type T) r) (W:Gl X x) (hm:X.mg x=none) (Y:qd6 x=some (.type T)) (Z:PA X (e::es) t) (U:x≠"__name__":=by decide) (O:(x==("__debug__":Str))=false:=by decide)
  (he:qa6 (e::es) X.env=#a::qa6 es X.env:=by rfl) (q:(qi4 pos (qa6 es X.env)).any (·.1)=false:=by rfl):PE X #b (tCB r t):=by
 intro pins s σ H Q I h;refine qp9 (fE I W hm Y ?_ U O);exact qh1 (thn (Z pos pins s σ H _ I h) fun us s1 ⟨vs,H1,I1,r1,q1⟩=>hc pins s1 σ H1 vs us Q I1 r1 q1) he q
end
end L2
namespace HT
open PySem PyProof.Rows
section
open PySem.SeqAt
open PySem.AutoSeq1 (wpAny_loadPart')
open PySem.MeetsSeq PySem.MeetsSeq2 PySem.MeetsSeq3
end
variable {Q:Value->qa4->Prop} {vu:Value} {hi:Option Int}
section
variable {prog:qc9} {w:World} {A:qe0} {E:Value->qa4->Prop} {s:qa4}
theorem EM {t b:Addr} {vs q:List Value} (ht:IsTup s.heap t vs.toArray) (hb:IsTup s.heap b q.toArray) (hv:vs≠[])
 (h1:q=[]->Q (.ref t) s) (h2:q≠[]->Q (.ref s.heap.objs.size) {s with heap:=s.heap.push {cls:=.type "tuple",data:=.seq (vs++q).toArray}})
 (hsz:vs.length+q.length<=qb2):wpAny (model prog w) A (qk0 .Add (.ref t) (.ref b)) Q E s:=by
 obtain ⟨⟨cls,dd,data,sl⟩,ho,hc,n,hd⟩:=id ht;obtain ⟨⟨cls2,U,data2,Z⟩,O,Y,n2,W⟩:=id hb;simp only at hc hd Y W;subst hc hd Y W;have e:vs.toArray++q.toArray=(vs++q).toArray:=by simp
 by_cases hw:q=[]
 . exact qz4 ⟨_,ho,rfl⟩ ⟨_,O,rfl⟩ qv6 zb5 PySem.F.slot_tuple_add PySem.F.entry_tuple_add (PySem.F.args_tuple_add_2 _ _)
    (tuple_addW1 t b vs.toArray q.toArray n n2 dd U sl Z (by simpa using hv) (by simp [hw])) ⟨ho,O,h1 hw⟩
 . refine qz4 ⟨_,ho,rfl⟩ ⟨_,O,rfl⟩ qv6 zb5 PySem.F.slot_tuple_add PySem.F.entry_tuple_add (PySem.F.args_tuple_add_2 _ _)
    (tuple_addW2 t b vs.toArray q.toArray n n2 dd U sl Z (by simpa using hv) (by simpa using hw) (by rw [qb5,qb5];exact hsz)) ⟨ho,O,?_⟩
   rw [e];exact h2 hw
df sIx (n d:Nat):Option Int->Nat
 | none=>d
 | some v=>if v<0 then (v+(n:Int)).toNat else min v.toNat n
theorem Bt (n d:Nat) (O:d<=n) (o:Option Int):sIx n d o<=n:=by
 cases o with
 | none=>exact O
 | some v =>
  show (if v<0 then (v+(n:Int)).toNat else min v.toNat n)<=n;by_cases q:v<0
  . rw [if_pos q];oo
  . rw [if_neg q];exact Nat.min_le_right _ _
theorem rj (v:Int) (n d:Nat):(if v<0 then max (v+(n:Int)) 0 else min v (n:Int))=((sIx n d (some v):Nat):Int):=by
 show (if v<0 then max (v+(n:Int)) 0 else min v (n:Int))=(((if v<0 then (v+(n:Int)).toNat else min v.toNat n):Nat):Int);by_cases q:v<0
 . simp only [if_pos q];oo
 . simp only [if_neg q];oo
theorem pX (lo hi:Option Int) (n:Nat):qr7 lo hi 1 (n:Int)=(((sIx n 0 lo:Nat):Int),((sIx n n hi:Nat):Int)):=by
 have h1:¬ ((1:Int)<0):=by oo
 unfold qr7;simp only [h1,if_false];refine Prod.ext ?_ ?_
 . cases lo with
   | none=>rfl
   | some v=>exact rj v n 0
 . cases hi with
   | none=>rfl
   | some v=>exact rj v n n
theorem pY (i j:Nat):qn7 (i:Int) (j:Int) 1=j-i:=by
 unfold qn7;have h1:(1:Int) > 0:=by oo
 simp only [h1,if_true,Int.ediv_one];split<;>oo
theorem jS {v:Value} {o:Option Int} {Q:Option Int->qa4->Prop} (p:zg5 v o) (h:Q o s):wpAny (model prog w) A (qi7.Slice.slicePartIndex v) Q E s:=by
 cases p with
 | none=>exact slicePart_none h
 | int i t=>exact slicePart_int h
theorem dQ {sl:Addr} {U:Value} {lo:Option Int} {n:Nat} {Q:Int×Int×Nat->qa4->Prop} (Z:s.heap.IsSliceOf sl U vu .none) (W:zg5 U lo) (pu:zg5 vu hi)
 (h:Q (((sIx n 0 lo:Nat):Int),1,sIx n n hi-sIx n 0 lo) s):wpAny (model prog w) A (qy7 (.ref sl) (pure (n:Int))) Q E s:=by
 obtain ⟨os,O,Y,q⟩:=id Z;unfold qy7 qi7.Slice.sliceFields;refine wB (wB (qu3 O q (x:=U) rfl (wB (qu3 O q (x:=vu) rfl (wB (qu3 O q (x:=.none) rfl (qa3 ?_)))))));refine wB (slicePart_none ?_);show wpAny _ _ (if ((1:Int)==0)=true then _ else _) _ _ s;rw [if_neg \7];refine wB (jS W (wB (jS pu (wB (qa3 ?_)))));show wpAny _ _ (match qr7 lo hi 1 (n:Int) with | (lo,hi)=>pure (lo,(1:Int),qn7 lo hi 1)) _ _ s;rw [pX lo hi n];show wpAny _ _ (pure (((sIx n 0 lo:Nat):Int),(1:Int),qn7 ((sIx n 0 lo:Nat):Int) ((sIx n n hi:Nat):Int) 1)) _ _ s;rw [pY];exact qa3 h
theorem uY (xs:Array Value) (i k:Nat):((qc1 k).filterMap fun (m:Nat)=>xs[((i:Int)+(m:Int)*1).toNat]?).toArray=((xs.toList.drop i).take k).toArray:=by
 have e:(fun (m:Nat)=>xs[((i:Int)+(m:Int)*1).toNat]?)=fun m=>xs[i+m]?:=by
  funext m;have:((i:Int)+(m:Int)*1).toNat=i+m:=by oo
  rw [this]
 rw [e];have:=pick_run xs i k;rw [List.filterMap_map] at this;have e2:((fun x=>xs[x]?) ∘ fun x=>i+x)=fun m=>xs[i+m]?:=rfl
 rw [e2] at this;rw [this]
theorem rk {t sl:Addr} {O:Array Value} {vl:Value} {lo:Option Int} (W:IsTup s.heap t O) (hs:s.heap.IsSliceOf sl vl vu .none) (pl:zg5 vl lo) (pu:zg5 vu hi)
 (hw:¬ (sIx O.size 0 lo=0/\sIx O.size O.size hi=O.size))
 (h:Q (.ref s.heap.objs.size) {s with heap:=s.heap.push {cls:=.type "tuple",data:=.seq ((O.toList.drop (sIx O.size 0 lo)).take (sIx O.size O.size hi-sIx O.size 0 lo)).toArray}})
 (hsz:O.size<=qb2):wpAny (model prog w) A (zb6 (.ref t) (.ref sl)) Q E s:=by
 have U:sizeOk (.seq ((O.toList.drop (sIx O.size 0 lo)).take (sIx O.size O.size hi-sIx O.size 0 lo)).toArray):=by show ((O.toList.drop (sIx O.size 0 lo)).take (sIx O.size O.size hi-sIx O.size 0 lo)).toArray.size<=qb2;rw [qb5,zc6,List.length_drop,qe6];oo
 have hj:sIx O.size O.size hi<=O.size:=Bt _ _ (nL _) hi;obtain ⟨os,hos,hcs,hds⟩:=id hs;have Z:s.TypeIs (.ref sl) "slice":=⟨os,hos,hcs⟩;unfold zb6
 try with_reducible refine qi2 ?_
 first | refine wB (qa3 ?_) | skip
 refine wB (wpAny_sequenceKey W.typeIs \7 ?_)
 refine wB (qe8 (name:=qa1 "__getitem__") W.typeIs qf9
  (qf3 qf9 W.typeIs entry_tuple_getitem ?_ (args_tuple_getitem _ _)))
 show wpAny _ _ (qy8 (.ref t) >>= _) _ _ s;refine wB (tupleItemsOf_ W ?_);refine wB (qv2 Z ?_);rw [if_pos \7];refine wB (dQ hs pl pu ?_)
 have Y:¬ ((((sIx O.size 0 lo:Nat):Int)==0&&(1:Int)==1&&(sIx O.size O.size hi-sIx O.size 0 lo)==O.size)=true):=by intro q;rw [qb4,qb4] at q;have q1:((sIx O.size 0 lo:Nat):Int)=0:=eq_of_beq q.1.1;have q2:sIx O.size O.size hi-sIx O.size 0 lo=O.size:=eq_of_beq q.2;exact hw ⟨by oo,by oo⟩
 show wpAny _ _ (if (((sIx O.size 0 lo:Nat):Int)==0&&(1:Int)==1&&(sIx O.size O.size hi-sIx O.size 0 lo)==O.size)=true then _ else _) _ _ s;rw [if_neg Y,uY]
 first
  | exact wB (m:=qo3 _) (qd7 (qa3 ⟨_,rfl,qa3 h⟩) U)
  | exact wB (m:=qo3 _) (qd7 (wB (qa3 (qa3 ⟨_,rfl,qa3 h⟩))) U)
  | exact wB (wB (m:=qo3 _) (qd7 (qa3 (qa3 ⟨_,rfl,qa3 h⟩)) U))
  | exact wB (wB (m:=qo3 _) (qd7 (qa3 ⟨_,rfl,qa3 h⟩) U))
end
end HT
namespace L2
open PySem PySem.Spec PyProof.Rows
abbrev TO:=St->Hp->(Option Int->Hp->Prop)->Prop
df PO (X:Cx) (e:Option Expr) (t:TO):Prop:=
 ∀ (pins:List (Addr×Obj)) (s:qa4) (σ:St) (H:Hp) (Q:Option Int->Hp->Prop),Inv X pins σ H s->t σ H Q→
  wpAny \4 X.A (evalPart e X.env) (fun u s'=>∃ o H',Inv X pins σ H' s'/\zg5 u o/\Q o H') X.xe s
df xX:TO:=fun _ H Q=>Q none H
df DE (t:TE):TO:=fun σ H Q=>t σ H fun x H1=>∃ i,x=.int i/\Q (some i) H1
variable {r:V->Option Int->Option Int->Hp->VK->Prop} {xs:List V} {us:List Value}
section
variable {X:Cx} {e:Expr} {te:TE} {lo hi:Option Expr} {tl th:TO} {pos p2:Pos}
theorem xY:PO X none xX:=by intro pins s σ H Q I h;rw [evalPart_none];exact qa3 ⟨none,H,I,.none,h⟩
theorem xZ (h:PE X e te):PO X (some e) (DE te):=by
 intro pins s σ H Q I U;rw [evalPart_some];refine thn (h pins s σ H _ I U) fun u s1 ⟨x,H1,W,O,q1⟩=>?_
 obtain ⟨i,rfl,q⟩:=q1;obtain ⟨t,rfl⟩:=O;exact ⟨some i,H1,W,.int i t,q⟩
df SlR (X:Cx) (r:V->Option Int->Option Int->Hp->VK->Prop):Prop:=
 ∀ (pins:List (Addr×Obj)) (s:qa4) (σ:St) (H:Hp) (x:V) (v q vu:Value) (lo hi:Option Int) (sl:Addr) (Q:VK),Inv X pins σ H s->RelV x v->s.heap.IsSliceOf sl q vu .none->zg5 q lo->zg5 vu hi->r x lo hi H Q→
  ∃ T id,zf6 (.type T) "__getitem__"=pure (some (.builtin id))/\s.TypeIs v T/\wpAny \4 X.A (zb6 v (.ref sl)) (EP X pins σ Q) X.xe s
theorem SlR.or {W:V->Option Int->Option Int->Hp->VK->Prop} (h:SlR X r) (h':SlR X W):SlR X (fun x lo hi H Q=>r x lo hi H Q∨W x lo hi H Q):=by
 intro pins s σ H x v O vu lo hi sl Q I rx Y U Z q;rcases q with q | q
 . exact h pins s σ H x v O vu lo hi sl Q I rx Y U Z q
 . exact h' pins s σ H x v O vu lo hi sl Q I rx Y U Z q
df tSl (r:V->Option Int->Option Int->Hp->VK->Prop) (te:TE) (tl th:TO):TE:=fun σ H Q=>te σ H fun x H1=>tl σ H1 fun l H2=>th σ H2 fun u q=>r x l u q Q
theorem n8 (hr:SlR X r) (he:PE X e te) (hl:PO X lo tl) (Z:PO X hi th):PE X (.Subscript e (.Slice lo hi none p2) pos) (tSl r te tl th):=by
 intro pins s σ H Q I h;refine Subscript_ (thn (he pins s σ H _ I h) fun v s1 ⟨x,H1,I1,r1,q1⟩=>?_);refine wpAny_Slice (thn (hl pins s1 σ H1 _ I1 q1) fun U s2 ⟨l,H2,I2,pl,q2⟩=>thn (Z pins s2 σ H2 _ I2 q2) fun vu O ⟨u,W,I3,Y,q3⟩=>?_);rw [evalPart_none];refine qa3 ?_;have I4:Inv X pins σ W {O with heap:=O.heap.push {cls:=.type "slice",data:=.fields #[U,vu,.none]}}:=I3.kept (t':=O.toks) fun b ob q=>gP _ q
 obtain ⟨T,id,hT,ht,hg⟩:=hr pins {O with heap:=O.heap.push {cls:=.type "slice",data:=.fields #[U,vu,.none]}} σ W x v U vu l u O.heap.objs.size Q I4 r1 (Heap.IsSliceOf.new ..) pl Y q3;show wpAny \4 X.A (zh8 e (.Slice lo hi none p2) v (.ref O.heap.objs.size)) (EP X pins σ Q) X.xe {O with heap:=O.heap.push {cls:=.type "slice",data:=.fields #[U,vu,.none]}};exact tail_any (ops:=[.ref O.heap.objs.size,v]) ht hT hg (by with_unfolding_all rfl)
df n9 (xs:List V) (lo hi:Option Int):List V:=(xs.drop (HT.sIx xs.length 0 lo)).take (HT.sIx xs.length xs.length hi-HT.sIx xs.length 0 lo)
theorem jh (xs:List V) (lo hi:Option Int):(n9 xs lo hi).length<=xs.length:=by unfold n9;rw [zc6,List.length_drop];oo
df rSlT (K:PySem.W.Frag):V->Option Int->Option Int->Hp->VK->Prop:=fun x lo hi H Q=>∃ a xs,x=.ref a/\SqT K H a xs∧¬ (HT.sIx xs.length 0 lo=0/\HT.sIx xs.length xs.length hi=xs.length)/\∀ p,H p=none->Q (.ref p) (upd H p (.tup (n9 xs lo hi)))
theorem Bu:SlR X (rSlT X.K):=by
 intro pins s σ H x v vl vu lo hi sl Q I rx hs Y pu h;obtain ⟨a,xs,rfl,Z,hw,q⟩:=h;cases rx;obtain ⟨its,r,W,U⟩:=I.tuple Z;have O:its.toArray.size=xs.length:=by rw [qb5];exact r.length.symm
 refine ⟨"tuple",_,qf9.lookup,W.typeIs,?_⟩;refine HT.rk W hs Y pu (by rw [O];exact hw) ?_ (by rw [O];exact U);rw [O];refine ⟨.ref s.heap.objs.size,_,I.laid (t':=s.toks) (o:=.tup (n9 xs lo hi)) (fun b ob q=>gP _ q) (nL _) ?_,rfl,q _ (I.hok.fresh (nL _))⟩;exact ⟨qc3 (jh xs lo hi) U,_,(r.drop (HT.sIx xs.length 0 lo)).take (HT.sIx xs.length xs.length hi-HT.sIx xs.length 0 lo),zj9 _ _⟩
df Ai (K:PySem.W.Frag):R2:=fun x y H Q=>∃ a b xs ys,x=.ref a/\y=.ref b/\SqT K H a xs/\SqT K H b ys/\xs≠[]/\xs.length+ys.length<=qb2∧(ys=[]->Q (.ref a) H)/\(ys≠[]->∀ p,H p=none->Q (.ref p) (upd H p (.tup (xs++ys))))
theorem Vals.nil_iff (r:Vals xs us):us=[]↔xs=[]:=by
 cases r with
 | nil=>simp
 | cons _ _=>simp
theorem x9:OpR X (qk0 .Add) (Ai X.K):=by intro pins s σ H x y v u Q I Z ry h;obtain ⟨a,b,xs,ys,rfl,rfl,ha,hb,hx,Y,q1,q2⟩:=h;cases Z;cases ry;obtain ⟨its,U,p1,_⟩:=I.tuple ha;obtain ⟨W,O,p2,_⟩:=I.tuple hb;refine HT.EM p1 p2 (fun z=>hx (U.nil_iff.mp z)) (fun z=>⟨.ref a,H,I,rfl,q1 (O.nil_iff.mp z)⟩) (fun z=>?_) (by rw [<- U.length,<- O.length];exact Y);refine ⟨.ref s.heap.objs.size,_,I.laid (t':=s.toks) (o:=.tup (xs++ys)) (fun b ob q=>gP _ q) (nL _) ?_,rfl,q2 (fun w=>z (O.nil_iff.mpr w)) _ (I.hok.fresh (nL _))⟩;exact ⟨by rw [qa8];exact Y,_,U.append O,zj9 _ _⟩
end
df ixN (n:Nat) (i:Int):Option Nat:=if 0<=i then (if i<n then some i.toNat else none) else if -(n:Int)<=i then some (i+n).toNat else none
df atI {α:Type} (xs:List α) (i:Int):Option α:=(ixN xs.length i).bind fun j=>xs[j]?
variable {n j:Nat} {i:Int}
theorem rl (h:ixN n i=some j):seqIndex? i n=some j/\j<n/\-(n:Int)<=i/\i<n:=by
 unfold ixN at h;by_cases q:0<=i
 . rw [if_pos q] at h;by_cases h1:i<n
   . rw [if_pos h1] at h;have e:i.toNat=j:=qd9 h;exact ⟨by rw [seqIndex_of q h1,e],by oo,by oo,h1⟩
   . rw [if_neg h1] at h;cases h
 . rw [if_neg q] at h;by_cases h1:-(n:Int)<=i
   . rw [if_pos h1] at h;have e:(i+n).toNat=j:=qd9 h;exact ⟨by rw [seqIndex_neg \3 h1,e],by oo,h1,by oo⟩
   . rw [if_neg h1] at h;cases h
theorem mE {α:Type} {xs:List α} {v:α} (h:atI xs i=some v):∃ j,seqIndex? i xs.length=some j/\xs[j]?=some v/\j<xs.length/\-(xs.length:Int)<=i/\i<xs.length:=by
 unfold atI at h;cases e:ixN xs.length i with
 | none=>rw [e] at h;cases h
 | some j =>rw [e] at h;obtain ⟨h1,h2,h3,q⟩:=rl e;exact ⟨j,h1,h,h2,h3,q⟩
theorem ya {α:Type} {xs:List α} {v:α} (h:xs[j]?=some v):atI xs (j:Int)=some v:=by
 have q:j<xs.length:=(gX h).1
 have e:ixN xs.length (j:Int)=some j:=by unfold ixN;rw [if_pos \3,if_pos \3];simp
 unfold atI;rw [e];exact h
df mF (b:Expr):Prop:=∀ o i,zg9 b false o i=operate [o,i] (zb6 o i)
df IxR (X:Cx) (r:R2):Prop:=
 ∀ (value q:Expr) (pins:List (Addr×Obj)) (s:qa4) (σ:St) (H:Hp) (x y:V) (v u:Value) (Q:VK),Inv X pins σ H s->RelV x v->RelV y u->r x y H Q→
  zg9 q false v u=operate [v,u] (zb6 v u)->wpAny \4 X.A (zh8 value q v u) (EP X pins σ Q) X.xe s
df MtR (X:Cx) (id:String) (r:V->List V->Hp->VK->Prop):Prop:=
 ∀ (pins:List (Addr×Obj)) (s:qa4) (σ:St) (H:Hp) (x:V) (xs:List V) (v:Value) (us:List Value) (Q:VK),Inv X pins σ H s->RelV x v->Vals xs us->r x xs H Q→
  wpAny \4 X.A (call (.builtin id) (v::us)) (EP X pins σ Q) X.xe s
variable {pins:List (Addr×Obj)} {σ:St} {H:Hp} {s:qa4} {p:Addr} {its its':List Value} {A:qe0} {y x:V} {u v:Value}
section
variable {X:Cx} {a b:Expr} {ta tb:TE} {pos:Pos}
theorem IxR.or {r U:R2} (h:IxR X r) (h':IxR X U):IxR X (fun x y H Q=>r x y H Q∨U x y H Q):=by
 intro value O pins s σ H x y v u Q I Z W q Y;rcases q with q | q
 . exact h value O pins s σ H x y v u Q I Z W q Y
 . exact h' value O pins s σ H x y v u Q I Z W q Y
theorem Aj {r:R2} (Z:IxR X r) (Y:PE X a ta) (hb:PE X b tb) (O:mF b):PE X (.Subscript a b pos) (tOp r ta tb):=by intro pins s σ H Q I h;exact Subscript_ (Bi Y hb I h fun v u W x y H2 I2 rx U q=>Z a b pins W σ H2 x y v u Q I2 rx U q (O _ _))
df rIxL (K:PySem.W.Frag):R2:=fun x y H Q=>∃ p xs i v,x=.ref p/\y=.int i/\SqL K H p xs/\atI xs i=some v/\Q v H
df rIxT (K:PySem.W.Frag):R2:=fun x y H Q=>∃ p xs i v,x=.ref p/\y=.int i/\SqT K H p xs/\atI xs i=some v/\Q v H
df rIxS:R2:=fun x y H Q=>∃ z i c,x=.str z/\y=.int i/\z.length<=qb2/\atI z.cps.toList i=some c/\Q (.str ⟨#[c]⟩) H
theorem ix_list:IxR X (rIxL X.K):=by
 intro value slice pins s σ H x y v u Q I rx ry h hs;obtain ⟨p,xs,i,z,rfl,rfl,hq,he,q⟩:=h;cases rx;obtain ⟨t,rfl⟩:=ry;obtain ⟨its,r,pl,hz⟩:=I.list hq;obtain ⟨j,h1,h2,h3,h4,h5⟩:=mE he;obtain ⟨w,ew,rw'⟩:=r.get h2;have hl:=r.length;have hn:=iS;have fin:EP X pins σ Q w s:=⟨z,H,I,rw',q⟩;by_cases h0:0<=i
 . have hj:i.toNat=j:=by rw [seqIndex_of h0 h5] at h1;exact qd9 h1
   exact item_listR pl.isList h0 \3 (by rw [hj];simpa using ew) fin hs
 . have hj:(i+(its.toArray.size:Int)).toNat=j:=by rw [seqIndex_neg \3 h4] at h1;rw [qb5,<- hl];exact qd9 h1
   exact zc9 (x:=w) pl.isList.typeIs slot_list_getitem.lookup
    (wpAny_getItem_list_neg (Q:=fun r s'=>r=w/\EP X pins σ Q r s') pl.isList \3 (by rw [qb5]<;>oo) \3 (by rw [hj];simpa using ew) ⟨rfl,fin⟩) hs
theorem ix_tup:IxR X (rIxT X.K):=by
 intro value slice pins s σ H x y v u Q I rx ry h hs;obtain ⟨p,xs,i,z,rfl,rfl,hq,he,q⟩:=h;cases rx;obtain ⟨t,rfl⟩:=ry;obtain ⟨its,r,pl,hz⟩:=I.tuple hq;obtain ⟨j,h1,h2,h3,h4,h5⟩:=mE he;obtain ⟨w,ew,rw'⟩:=r.get h2;have hl:=r.length;have hn:=iS;have fin:EP X pins σ Q w s:=⟨z,H,I,rw',q⟩
 exact zc9 (x:=w) pl.typeIs slot_tuple_getitem.lookup
  (getItem_tuple (j:=j) (Q:=fun r s'=>r=w/\EP X pins σ Q r s') pl \3 \3 (by rw [qb5,<- hl];exact h1) (by simpa using ew) ⟨rfl,fin⟩) hs
theorem Bv:IxR X rIxS:=by
 intro value slice pins s σ H x y v u Q I rx ry h hs;obtain ⟨z,i,c,rfl,rfl,hz,he,q⟩:=h;obtain ⟨t,rfl⟩:=rx;obtain ⟨t',rfl⟩:=ry;obtain ⟨j,h1,h2,h3,h4,h5⟩:=mE he;have hl:z.cps.toList.length=z.length:=by simp [Str.length]
 rw [hl] at h1 h4 h5;have hn:=iS
 exact tail_any (typeIs_str s z t) slot_str_getitem.lookup (getItem_str (c:=c) (by have e1:decide (i < -(2^63:Int))=false:=decide_eq_false \3;have e2:decide (i ≥ 2^63)=false:=decide_eq_false \3;rw [e1,e2,qt3]) (by rw [h1];simpa using h2) ⟨.str ⟨#[c]⟩,H,I.tok _,⟨_,rfl⟩,q⟩) hs
df rIx (K:PySem.W.Frag):R2:=fun x y H Q=>rIxL K x y H Q∨rIxT K x y H Q∨rIxS x y H Q
theorem uZ:IxR X (rIx X.K):=ix_list.or (ix_tup.or Bv)
theorem pZ (its:List Value) (n j:Nat) (u:Value):qp6 (·.setIfInBounds j u) {cls:=.type "list",data:=.seq its.toArray n}={cls:=.type "list",data:=.seq (its.set j u).toArray n}:=by simp [qp6]
theorem Inv.lst (I:Inv X pins σ H s) (h:H p=some (.lst xs)) :
  ∃ (its:List Value) (n:Nat),Vals xs its/\s.heap.get? p=some {cls:=.type "list",data:=.seq its.toArray n}/\xs.length<=qb2:=by
 obtain ⟨z,its,n,r,e⟩:=I.hok p _ h;exact ⟨its,n,r,e,z⟩
theorem Inv.lstUpd {ys:List V} {n':Nat} {f:Obj->Obj} (I:Inv X pins σ H s) (h:H p=some (.lst xs))
 (W:s.heap.get? p=some {cls:=.type "list",data:=.seq its.toArray n}) (O:f {cls:=.type "list",data:=.seq its.toArray n}={cls:=.type "list",data:=.seq its'.toArray n'}) (r:Vals ys its') (U:ys.length<=qb2) (t:Nat) :
  Inv X pins σ (upd H p (.lst ys)) {s with heap:=s.heap.update p f,toks:=t}:=by
 have e:(s.heap.update p f).get? p=some {cls:=.type "list",data:=.seq its'.toArray n'}:=by rw [qe9 f W (by rw [O]<;>rfl),O]
 refine I.write (x:=p) (e:=p) (by rw [h];trivial) (.inl rfl) (fun b u Y q=>(qm2 _ _ (qq1 Y)).trans q) ⟨_,e⟩ ?_;exact ⟨U,its',n',r,e⟩
df DF:V->V->V->Hp->(Hp->Prop)->Prop:=fun o i v H Q=>∃ p xs k j,o=.ref p/\i=.int k/\H p=some (.lst xs)/\ixN xs.length k=some j/\Q (upd H p (.lst (xs.set j v)))
theorem u0:PSet X DF:=by
 intro pins s σ H o i v ov iv u Q I ro ri rv h;obtain ⟨p,xs,k,j,rfl,rfl,hp,hj,q⟩:=h;cases ro;obtain ⟨t,rfl⟩:=ri;obtain ⟨its,n,r,ho,hz⟩:=I.lst hp;obtain ⟨h1,h2,h3,h4⟩:=rl hj;have hl:=r.length;have hn:=iS
 have I':Inv X pins σ (upd H p (.lst (xs.set j v))) {s with heap:=s.heap.update p (qp6 (·.setIfInBounds j u))}:=I.lstUpd hp ho (pZ its n j u) (r.set rv j) (by rw [List.length_set];exact hz) s.toks
 by_cases h0:0<=k
 . have hk:k.toNat=j:=by rw [seqIndex_of h0 h4] at h1;exact qd9 h1
   exact PySem.W.ki_setAt ho h0 \3 (by rw [qb5,<- hl];exact h4) (by rw [hk];exact ⟨_,I',q⟩)
 . have hk:(k+(its.toArray.size:Int)).toNat=j:=by rw [seqIndex_neg \3 h3] at h1;rw [qb5,<- hl];exact qd9 h1
   exact PySem.W.ki_setBack ho \3 (by rw [qb5,<- hl];exact h3) \3 (by rw [hk];exact ⟨_,I',q⟩)
theorem mG (lo hi:Option Int) (n:Nat):(qu4 lo hi none n).1=((HT.sIx n 0 lo:Nat):Int)/\(qu4 lo hi none n).2.1=((HT.sIx n n hi:Nat):Int)/\(qu4 lo hi none n).2.2=1:=by
 refine ⟨?_,?_,rfl⟩
 . cases lo with
   | none=>simp [qu4,HT.sIx]
   | some i =>
    simp only [qu4,HT.sIx,Option.getD_none,show (1:Int) > 0 by decide,if_true];by_cases h:i<0
    . simp only [h,if_true]<;>oo
    . simp only [h,if_false]<;>oo
 . cases hi with
   | none=>simp [qu4,HT.sIx]
   | some i =>
    simp only [qu4,HT.sIx,Option.getD_none,show (1:Int) > 0 by decide,if_true];by_cases h:i<0
    . simp only [h,if_true]<;>oo
    . simp only [h,if_false]<;>oo
theorem ld (its:List Value) (lo hi:Option Int):slicePick its.toArray lo hi none=((its.drop (HT.sIx its.length 0 lo)).take (HT.sIx its.length its.length hi-HT.sIx its.length 0 lo)).toArray:=by obtain ⟨h1,h2,h3⟩:=mG lo hi its.toArray.size;unfold slicePick;rw [h1,h2,h3];simp only [sliceRange_one,pick_run,qb5]<;>rfl
df rSlL (K:PySem.W.Frag):V->Option Int->Option Int->Hp->VK->Prop:=fun x lo hi H Q=>∃ a xs,x=.ref a/\SqL K H a xs/\∀ p,H p=none->Q (.ref p) (upd H p (.lst (n9 xs lo hi)))
theorem yb:SlR X (rSlL X.K):=by intro pins s σ H x v vl vu lo hi sl Q I rx Z W pu h;obtain ⟨a,xs,rfl,Y,q⟩:=h;cases rx;obtain ⟨its,r,U,hz⟩:=I.list Y;have O:=r.length;refine ⟨"list",_,slot_list_getitem.lookup,U.isList.typeIs,?_⟩;refine wpAny_getItem_list_slice U.isList Z W pu .none \5 ?_ (by rw [qb5]<;>oo);rw [ld,<- O];refine ⟨.ref s.heap.objs.size,_,I.laid (t':=s.toks) (o:=.lst (n9 xs lo hi)) (fun b ob q=>gP _ q) (nL _) ?_,rfl,q _ (I.hok.fresh (nL _))⟩;exact ⟨qc3 (jh xs lo hi) hz,_,0,(r.drop (HT.sIx xs.length 0 lo)).take (HT.sIx xs.length xs.length hi-HT.sIx xs.length 0 lo),qb1 _ rfl⟩
df gG:V->Bool
 | .non=>true
 | .bl _=>true
 | .int _=>true
 | .str _=>true
 | _=>false
df eqV:V->V->Bool
 | .non,.non=>true
 | .bl a,.bl b=>a==b
 | .bl a,.int b=>(if a then 1 else 0)==b
 | .int a,.bl b=>a==(if b then 1 else 0)
 | .int a,.int b=>a==b
 | .str a,.str b=>a==b
 | _,_=>false
theorem iV (O:RelV y u) (q:RelV x v) (U:gG y=true) (fx:gG x=true):qg1 A s u v (eqV y x):=by
 cases y with
 | non =>
  cases O;cases x with
  | non=>cases q;exact ze3 _
  | bl b=>cases q;exact qg1.none_bool b
  | int b=>obtain ⟨t,rfl⟩:=q;exact qg1.none_int b t
  | str b=>obtain ⟨t,rfl⟩:=q;exact qg1.none_str b t
  | _=>exact absurd (show false=true from fx) qb8
 | bl a =>
  cases O;cases x with
  | non=>cases q;exact qg1.bool_none a
  | bl b=>cases q;exact qg1.bool_bool a b
  | int b=>obtain ⟨t,rfl⟩:=q;exact qg1.bool_int a b t
  | str b=>obtain ⟨t,rfl⟩:=q;exact qg1.bool_str a b t
  | _=>exact absurd (show false=true from fx) qb8
 | int a =>
  obtain ⟨t',rfl⟩:=O;cases x with
  | non=>cases q;exact qg1.int_none a t'
  | bl b=>cases q;exact qg1.int_bool a t' b
  | int b=>obtain ⟨t,rfl⟩:=q;exact qg1.int_int a t' b t
  | str b=>obtain ⟨t,rfl⟩:=q;exact qg1.int_str a t' b t
  | _=>exact absurd (show false=true from fx) qb8
 | str a =>
  obtain ⟨t',rfl⟩:=O;cases x with
  | non=>cases q;exact qg1.str_none a t'
  | bl b=>cases q;exact qg1.str_bool a t' b
  | int b=>obtain ⟨t,rfl⟩:=q;exact qg1.str_int a t' b t
  | str b=>obtain ⟨t,rfl⟩:=q;exact qg1.str_str a t' b t
  | _=>exact absurd (show false=true from fx) qb8
 | _=>exact absurd (show false=true from U) qb8
df eqU (x:V) (u:Value):Bool:=match u with
 | .none=>eqV .non x
 | .bool b=>eqV (.bl b) x
 | .int i _=>eqV (.int i) x
 | .str z _=>eqV (.str z) x
 | _=>false
theorem u1 (r:RelV y u) (f:gG y=true):eqU x u=eqV y x:=by
 cases y with
 | non=>cases r;rfl
 | bl b=>cases r;rfl
 | int i=>obtain ⟨t,rfl⟩:=r;rfl
 | str z=>obtain ⟨t,rfl⟩:=r;rfl
 | _=>exact absurd (show false=true from f) qb8
theorem im:∀ {xs:List V} {us:List Value},Vals xs us->xs.all gG=true->us.any (eqU x)=xs.any fun y=>eqV y x
 | _,_,.nil,_=>rfl
 | y::xs,u::us,.cons r t,f=>by rw [qp2,qb4] at f;rw [qi9,qi9,u1 r f.1,im t f.2]
theorem fH (O:RelV x v) (fx:gG x=true):∀ {xs:List V} {us:List Value},Vals xs us->xs.all gG=true->∀ u∈us,qg1 A s u v (eqU x u)
 | _,_,.nil,_=>fun u q=>by cases q
 | y::xs,u::us,.cons r t,f=>fun U q=>by
  rw [qp2,qb4] at f;rcases qb6.mp q with rfl | q
  . rw [u1 r f.1];exact iV r O f.1 fx
  . exact fH O fx t f.2 U q
df inV (x:V) (xs:List V):Bool:=xs.any fun y=>eqV y x
df rIn (K:PySem.W.Frag) (neg:Bool):R2:=fun x y H Q=>∃ p xs,y=.ref p/\(SqL K H p xs∨SqT K H p xs)/\gG x=true/\xs.all gG=true/\Q (.bl (if neg then !inV x xs else inV x xs)) H
theorem tQ:OpR X (qg9 .In) (rIn X.K false):=by
 intro pins s σ H x y v u Q I Y Z h;obtain ⟨p,xs,rfl,O,fx,fs,q⟩:=h;cases Z;rcases O with O | O
 . obtain ⟨its,r,U,hz⟩:=I.list O;refine SeqAt.in_listAt (eqU x) U.isList (fun w W=>fH Y fx r fs w (by simpa using W)) ⟨.bl _,H,I,rfl,?_⟩;rw [show its.toArray.any (eqU x)=its.any (eqU x) by simp,im r fs];exact q
 . obtain ⟨its,r,U,hz⟩:=I.tuple O;refine SeqAt.in_tupleAt (eqU x) U (fun w W=>fH Y fx r fs w (by simpa using W)) ⟨.bl _,H,I,rfl,?_⟩;rw [show its.toArray.any (eqU x)=its.any (eqU x) by simp,im r fs];exact q
theorem mH:OpR X (qg9 .NotIn) (rIn X.K true):=by
 intro pins s σ H x y v u Q I Y Z h;obtain ⟨p,xs,rfl,O,fx,fs,q⟩:=h;cases Z;rcases O with O | O
 . obtain ⟨its,r,U,hz⟩:=I.list O;refine SeqAt.notIn_listAt (eqU x) U.isList (fun w W=>fH Y fx r fs w (by simpa using W)) ⟨.bl _,H,I,rfl,?_⟩;rw [show its.toArray.any (eqU x)=its.any (eqU x) by simp,im r fs];exact q
 . obtain ⟨its,r,U,hz⟩:=I.tuple O;refine SeqAt.notIn_tupleAt (eqU x) U (fun w W=>fH Y fx r fs w (by simpa using W)) ⟨.bl _,H,I,rfl,?_⟩;rw [show its.toArray.any (eqU x)=its.any (eqU x) by simp,im r fs];exact q
theorem mI:OpR X (qg9 .NotIn) (fun x y H Q=>∃ i j,x=.str i/\y=.str j/\Q (.bl (!(!(qh7 j i 0 j.length 1).isEmpty))) H):=by intro pins s σ H x y v u Q I U O h;obtain ⟨i,j,rfl,rfl,q⟩:=h;obtain ⟨t,rfl⟩:=U;obtain ⟨t',rfl⟩:=O;exact notIn_str ⟨.bl _,H,I,rfl,q⟩
theorem mJ:bX X (.type "list") (fun xs H Q=>∃ p ys,xs=[.ref p]/\(SqL X.K H p ys∨SqT X.K H p ys)/\∀ l,H l=none->Q (.ref l) (upd H l (.lst ys))):=by
 intro pins s σ H xs us Q I r h;obtain ⟨p,ys,rfl,W,q⟩:=h;obtain ⟨u,rfl,rx⟩:=gF r;cases rx
 have fin:∀ (its:List Value),Vals ys its->ys.length<=qb2->∀ (h':Heap) (c':Nat),(∀ b o',s.heap.get? b=some o'->h'.get? b=some o')→
     h'.get? s.heap.objs.size=some {cls:=.type "list",dict:=none,data:=.seq its.toArray c',slots:=#[]}->EP X pins σ Q (.ref s.heap.objs.size) {s with heap:=h'}:=fun its O Y h' c' kp e =>
  ⟨.ref s.heap.objs.size,_,I.laid (t':=s.toks) kp (nL _) (show ObjOk X.prog X.w _ h' _ (.lst ys) from ⟨Y,its,c',O,e⟩),rfl,q _ (I.hok.fresh (nL _))⟩
 rcases W with W | W
 . obtain ⟨its,O,pl,Y⟩:=I.list W;have U:=O.length;obtain ⟨o,ho,Z,n,hd⟩:=pl.isList;exact call_list_seq p (.inl rfl) ho Z hd (fun h' c' kp e=>fin its O Y h' c' kp e) (by simp only [qb5]<;>oo)
 . obtain ⟨its,O,pl,Y⟩:=I.tuple W;have U:=O.length;obtain ⟨o,ho,Z,n,hd⟩:=pl;exact call_list_seq p (.inr rfl) ho Z hd (fun h' c' kp e=>fin its O Y h' c' kp e) (by simp only [qb5]<;>oo)
theorem gH:bX X (.type "tuple") (fun xs H Q=>∃ p ys,xs=[.ref p]/\((SqL X.K H p ys/\∀ l,H l=none->Q (.ref l) (upd H l (.tup ys)))∨(SqT X.K H p ys/\Q (.ref p) H))):=by
 intro pins s σ H xs us Q I r h;obtain ⟨p,ys,rfl,h⟩:=h;obtain ⟨u,rfl,rx⟩:=gF r;cases rx;rcases h with ⟨W,q⟩ | ⟨W,q⟩
 . obtain ⟨its,U,O,hz⟩:=I.list W;have Y:=U.length;refine call_tuple_list O.isList (fun h' kp=>?_) (by simp only [qb5]<;>oo);have Z:Inv X pins σ H {s with heap:=h'}:=I.kept (t':=s.toks) kp
   have I2:Inv X pins σ (upd H h'.objs.size (.tup ys)) {s with heap:=h'.push {cls:=.type "tuple",data:=.seq its.toArray}}:=Z.laid (t':=s.toks) (fun b o e=>gP _ e) (nL _) (show ObjOk X.prog X.w _ _ _ (.tup ys) from ⟨hz,its,U,zj9 _ _⟩)
   exact ⟨.ref h'.objs.size,_,I2,rfl,q _ (Z.hok.fresh (nL _))⟩
 . obtain ⟨its,U,O,hz⟩:=I.tuple W;exact call_tuple_same O ⟨.ref p,H,I,rfl,q⟩
df tyV (K:PySem.W.Frag) (T:String) (x:V) (H:Hp):Prop:=match x with
 | .str _=>T="str"
 | .int _=>T="int"
 | .ref p=>(T="list"/\∃ xs,SqL K H p xs)∨(T="tuple"/\∃ o,K.lookup p=some o/\o.cls=.type "tuple"/\o.dict=none)∨(T="dict"/\((∃ kvs,H p=some (.dK kvs))∨∃ kvs,H p=some (.dT kvs)))∨(T="set"/\∃ S n,H p=some (.set S n))
 | _=>False
theorem u2 {T:String} (I:Inv X pins σ H s) (r:RelV x v) (ty:tyV X.K T x H) :
  s.TypeIs v T/\∀ a,v=.ref a->∃ ob,s.heap.get? a=some ob/\ob.dict=none:=by
 cases x with
 | str z =>obtain ⟨t,rfl⟩:=r;cases (show T="str" from ty);exact ⟨typeIs_str s z t,fun _ e=>nomatch e⟩
 | int i =>obtain ⟨t,rfl⟩:=r;cases (show T="int" from ty);exact ⟨zf7 s i t,fun _ e=>nomatch e⟩
 | ref p =>
  cases r;rcases ty with ⟨rfl,xs,U⟩ | ⟨rfl,o,hk,W,q⟩ | ⟨rfl,hk⟩ | ⟨rfl,S,n,hk⟩
  . obtain ⟨its,_,O,_⟩:=I.list U;refine ⟨O.isList.typeIs,fun a e=>?_⟩;cases e;obtain ⟨o,n,e,c,q,_⟩:=O;exact ⟨o,e,q⟩
  . refine ⟨⟨o,I.kIn p o hk,W⟩,fun a e=>?_⟩;cases e;exact ⟨o,I.kIn _ o hk,q⟩
  . have z:∃ o,s.heap.get? p=some o/\o.ExactDict:=by
     rcases hk with ⟨kvs,hk⟩ | ⟨kvs,hk⟩
     . obtain ⟨_,_,_,_,o,_,_,e,ex,_⟩:=I.hok p _ hk;exact ⟨o,e,ex⟩
     . obtain ⟨_,_,_,_,o,_,_,e,ex,_⟩:=I.hok p _ hk;exact ⟨o,e,ex⟩
    obtain ⟨o,e,ex⟩:=z;refine ⟨⟨o,e,ex.1⟩,fun a e2=>?_⟩;cases e2;exact ⟨o,e,ex.2.1⟩
  . obtain ⟨o,_,_,_,e,ex,_⟩:=I.hok p _ hk;refine ⟨⟨o,e,ex.1⟩,fun a e2=>?_⟩;cases e2;exact ⟨o,e,ex.2.1⟩
 | _=>exact qg6 ty
df tBM0 (K:PySem.W.Frag) (T:String) (r:V->List V->Hp->VK->Prop) (to:TE):TE:=fun σ H Q=>to σ H fun x H1=>tyV K T x H1/\r x [] H1 Q
df tBM (K:PySem.W.Frag) (T:String) (r:V->List V->Hp->VK->Prop) (to:TE) (t:TA):TE:=fun σ H Q=>to σ H fun x H1=>tyV K T x H1/\t σ H1 fun xs H2=>r x xs H2 Q
variable {o e:Expr} {es:List Expr} {to:TE} {t:TA} {name:Str} {apos cpos:Pos} {T id:String} {r:V->List V->Hp->VK->Prop}
theorem Bw (Z:PlainAttrs T) (slot:Slot T name id) (U:typeOf (.builtin id)=pure (.type "method_descriptor")) (hm:MtR X id r) (ho:PE X o to)
  (q:qn0 o name X.env (eval o X.env)=eval o X.env:=by rfl) (O:(apos.endLine==cpos.line)=true:=by rfl):PE X (.Call (.Attribute o name apos) [] [] cpos) (tBM0 X.K T r to):=by
 intro pins s σ H Q I h;refine wpAny_Call_method0_late q O (thn (ho pins s σ H _ I h) fun v s1 ⟨x,H1,Y,W,ty,q1⟩=>?_);obtain ⟨h1,h2⟩:=u2 Y W ty;exact ⟨T,id,Z,slot,U,h1,h2,zd0 rfl (PySem.evalArgs_none (hm pins s1 σ H1 x [] v [] Q Y W .nil q1))⟩
theorem rm (pa:PlainAttrs T) (slot:Slot T name id) (Y:typeOf (.builtin id)=pure (.type "method_descriptor")) (hm:MtR X id r) (ho:PE X o to) (ha:PA X (e::es) t)
  (O:qn0 o name X.env (eval o X.env)=eval o X.env:=by rfl)
  (W:((qi4 cpos (qa6 (e::es) X.env)).all (fun x=>!x.1)&&(zf8 cpos (qu5 [] X.env)).all (fun x=>x.1.isSome)
   && decide ((e::es).length+([]:List qt2).length+(if ([]:List qt2).isEmpty then 0 else 1)<30))=true:=by rfl)
  (U:(apos.endLine==cpos.line)=true:=by rfl) (hs:qa6 (e::es) X.env=#a::qa6 es X.env:=by rfl) (q:(qi4 cpos (qa6 es X.env)).any (·.1)=false:=by rfl) :
  PE X (.Call (.Attribute o name apos) (e::es) [] cpos) (tBM X.K T r to t):=by
 intro pins s σ H Q I h;refine wpAny_Call_method_late O W U rfl (thn (ho pins s σ H _ I h) fun v s1 ⟨x,H1,I1,r1,ty,q1⟩=>?_);obtain ⟨h1,h2⟩:=u2 I1 r1 ty;refine ⟨T,id,pa,slot,Y,h1,h2,?_⟩;have Z:=ha cpos pins s1 σ H1 _ I1 q1;rw [hs] at Z ⊢;refine zd0 (by show (false||(qi4 cpos (qa6 es X.env)).any (·.1))=false;rw [q]<;>rfl) (Calls.evalArgs_plain ?_);exact thn Z fun us s2 ⟨vs,H2,I2,r2,q2⟩=>hm pins s2 σ H2 x vs v us Q I2 r1 r2 q2
/- xs.append(e),list.index on a module's tuple .. are MtR facts of 06m -/
end
df MtM (X:Cx) (id:String) (r:V->List V->Hp->VK->Prop):Prop:=
 ∀ (pins:List (Addr×Obj)) (s:qa4) (σ:St) (H:Hp) (x:V) (xs:List V) (v:Value) (us:List Value) (Q:VK),Inv X pins σ H s->RelV x v->Vals xs us->r x xs H Q→
  wpAny \4 X.A (call (.builtin id) (v::us)) (EP X pins σ Q) X.xe s
theorem Vals.one:∀ {x:V} {us:List Value},Vals [x] us->∃ u,us=[u]/\RelV x u
 | _,_,.cons r .nil=>⟨_,rfl,r⟩
theorem Vals.zero:∀ {us:List Value},Vals [] us->us=[]
 | _,.nil=>rfl
theorem Vals.dropLast (h:Vals xs us):Vals xs.dropLast us.dropLast:=by
 induction h with
 | nil=>exact .nil
 | cons r t O =>
  cases t with
  | nil=>exact .nil
  | cons q t'=>exact .cons r O
theorem Vals.rep (h:Vals xs us):∀ k:Nat,Vals (qc6 k xs).flatten (qc6 k us).flatten
 | 0=>.nil
 | k+1=>by rw [qj5,qj5,qo4,qo4];exact Vals.append h (Vals.rep h k)
theorem p0 {α:Type} (l:List α):l.eraseIdx (l.length-1)=l.dropLast:=by
 induction l with
 | nil=>rfl
 | cons a r q =>
  cases r with
  | nil=>rfl
  | cons b r =>
   have e:(a::b::r).length-1=((b::r).length-1)+1:=by have h1:(a::b::r).length=r.length+2:=rfl;have h2:(b::r).length=r.length+1:=rfl;oo
   rw [e,List.eraseIdx_cons_succ,q]
   all_goals rfl
theorem iW (its:List Value):∀ (k:Nat) (acc:List Value),
  zi4 (fun O q=>O++q) acc.toArray (qc6 k its.toArray)=(acc++(qc6 k its).flatten).toArray
 | 0,acc=>by simp
 | k+1,acc=>by
  have e:acc.toArray++its.toArray=(acc++its).toArray:=by simp
  have e2:(acc++its)++(qc6 k its).flatten=acc++(qc6 (k+1) its).flatten:=by rw [qj5,qo4,qf0]
  rw [<- e2,<- iW its k (acc++its),<- e,qj5,qi1]
variable {t':Nat}
section
variable {X:Cx} {pins:List (Addr×Obj)} {σ:St} {H:Hp} {s:qa4} {l b:Addr} {xs ys zs:List V}
theorem Inv.lset {f:Array Value->Array Value} (I:Inv X pins σ H s) (W:H l=some (.lst xs))
 (e:s.heap.get? l=some {cls:=.type "list",data:=.seq its.toArray n}) (U:f its.toArray=its'.toArray) (Y:Vals ys its') (O:ys.length<=qb2) :
  Inv X pins σ (upd H l (.lst ys)) {s with heap:=s.heap.update l (qp6 f),toks:=t'}:=by
 have q:=PySem.IsL.update e f;rw [U] at q;refine I.write (x:=l) (e:=l) (by rw [W];exact trivial) (.inl rfl) (fun b' u hb Z=>(qm2 s.heap (qp6 f) (qq1 hb)).trans Z) ⟨_,q⟩ ?_;exact ⟨O,its',_,Y,q⟩
theorem Inv.lnew (I:Inv X pins σ H s) (O:Vals ys its) (U:ys.length<=qb2) :
  Inv X pins σ (upd H s.heap.objs.size (.lst ys)) {s with heap:=s.heap.push {cls:=.type "list",data:=.seq its.toArray},toks:=t'}:=
 I.laid (fun _ _ q=>gP _ q) (nL _) ⟨U,its,0,O,qb1 _ rfl⟩
theorem Inv.fresh (I:Inv X pins σ H s):H s.heap.objs.size=none:=I.hok.fresh (nL _)
theorem Inv.lstM (I:Inv X pins σ H s) (q:H l=some (.lst xs)):xs.length<=qb2/\∃ (its:List Value) (n:Nat),Vals xs its/\xs.length=its.length/\s.heap.get? l=some {cls:=.type "list",data:=.seq its.toArray n}:=by obtain ⟨z,its,n,r,e⟩:=I.hok l _ q;exact ⟨z,its,n,r,r.length,e⟩
theorem u3 (h:n<=qb2):qs8 n=false:=by unfold qs8;exact decide_eq_false \3
end
section
variable {X:Cx}
df yc:V->List V->Hp->VK->Prop:=fun x vs H Q=>∃ l xs y,x=.ref l/\vs=[y]/\H l=some (.lst xs)/\xs.length<qb2/\Q .non (upd H l (.lst (xs++[y])))
theorem gk:MtM X "list.append" yc:=by intro pins s σ H x vs v us Q I Y W h;obtain ⟨l,xs,y,rfl,rfl,O,hz,q⟩:=h;cases Y;obtain ⟨u,rfl,U⟩:=W.one;obtain ⟨z,its,n,r,Z,e⟩:=I.lstM O;refine qx1 F.slot_list_append ⟨_,e,rfl⟩ F.entry_list_append (F.args_list_append_2 _ _) (PySem.list_append l its.toArray n u (by rw [qb5];oo)) ⟨e,?_⟩;refine ⟨.non,_,I.lset (its':=its++[u]) O e \5 (r.append (.cons U .nil)) ?_,rfl,q⟩;rw [qa8,qh3];oo
df yd:V->List V->Hp->VK->Prop:=fun x vs H Q=>∃ l b xs zs,x=.ref l/\vs=[.ref b]/\H l=some (.lst xs)/\H b=some (.lst zs)/\xs.length+zs.length<=qb2/\Q .non (upd H l (.lst (xs++zs)))
theorem tR:MtM X "list.extend" yd:=by
 intro pins s σ H x vs v us Q I rx rv h;obtain ⟨l,b,xs,zs,rfl,rfl,Y,hB,hz,q⟩:=h;cases rx;obtain ⟨u,rfl,ru⟩:=rv.one;cases ru;obtain ⟨z,its,n,r,hl,e⟩:=I.lstM Y;obtain ⟨z2,O,n2,r2,Z,e2⟩:=I.lstM hB;have W:its.toArray.size+O.toArray.size<=qb2:=by rw [qb5,qb5];oo
 have U:¬ (!its.toArray.isEmpty&&qs8 (its.toArray.size+O.toArray.size))=true:=by rw [u3 W,qu9];exact qb8
 refine qx1 F.slot_list_extend ⟨_,e,rfl⟩ F.entry_list_extend (F.args_list_extend_2 _ _)
  (AutoSeq1.list_extend_list_list_0 l its.toArray n b O.toArray n2 U (by rw [qb5];oo) \3) ⟨e,e2,?_⟩
 refine ⟨.non,_,I.lset (its':=its++O) Y e \5 (r.append r2) ?_,rfl,q⟩;rw [qa8];oo
df rPop:V->List V->Hp->VK->Prop:=fun x vs H Q=>∃ l xs y,x=.ref l/\vs=[]/\H l=some (.lst xs)/\xs[xs.length-1]?=some y/\Q y (upd H l (.lst xs.dropLast))
theorem Bx:MtM X "list.pop" rPop:=by
 intro pins s σ H x vs v us Q I rx rv h;obtain ⟨l,xs,y,rfl,rfl,W,hy,q⟩:=h;cases rx;have U:=rv.zero;subst U;obtain ⟨z,its,n,r,hl,e⟩:=I.lstM W;obtain ⟨u,Z,Y⟩:=r.get hy
 have O:its.toArray[its.toArray.size-1]?=some u:=by show its.toArray[its.length-1]?=some u;rw [<- qn1,<- hl];exact Z
 refine qx1 F.slot_list_pop ⟨_,e,rfl⟩ F.entry_list_pop (F.args_list_pop_1 _) (MeetsSeq.list_pop_last l its.toArray n u O (by rw [qb5];oo)) ⟨e,?_⟩;refine ⟨y,_,I.lset (its':=its.dropLast) W e ?_ r.dropLast ?_,Y,q⟩
 . show its.toArray.eraseIdxIfInBounds (its.toArray.size-1)=its.dropLast.toArray;rw [qb5,List.eraseIdxIfInBounds_toArray,p0]
 . rw [List.length_dropLast];oo
theorem rn {α:Type} (xs:List α) (k:Nat):(qc6 k xs).flatten.length=k*xs.length:=by
 induction k with
 | zero=>simp
 | succ k q=>rw [qj5,qo4,qa8,q,Nat.succ_mul,Nat.add_comm]
end
section
variable {prog:qc9} {w:World} {A:qe0} {E:Value->qa4->Prop} {s:qa4}
end
section
variable {X:Cx}
end
variable {o:Option V}
section
variable {κ:Type} [DecidableEq κ]
df eJ (kvs:List (κ×V)) (k:κ):Option V:=(kvs.find? fun q=>decide (q.1=k)).map (·.2)
df dj (kvs:List (κ×V)) (k:κ) (v:V):List (κ×V):=if (kvs.any fun q=>decide (q.1=k))=true then kvs.map (fun q=>if q.1=k then (q.1,v) else q) else kvs++[(k,v)]
theorem fI {p:κ×V} {r:List (κ×V)} {k:κ} (e:p.1=k):eJ (p::r) k=some p.2:=by simp [eJ,qq2,e]
theorem dU {p:κ×V} {r:List (κ×V)} {k:κ} (e:¬ p.1=k):eJ (p::r) k=eJ r k:=by simp [eJ,qq2,e]
theorem oe (k:κ):∀ kvs:List (κ×V),(kvs.any fun q=>decide (q.1=k))=(eJ kvs k).isSome
 | []=>rfl
 | p::r=>by
  rw [qi9];by_cases e:p.1=k
  . simp only [fI e,decide_eq_true e,ze4,Option.isSome_some]
  . rw [dU e,decide_eq_false e,qw4];exact oe k r
theorem ji (kvs:List (κ×V)) (k:κ) (v:V):(dj kvs k v).length<=kvs.length+1:=by
 unfold dj;split
 . rw [qa2];oo
 . rw [qa8,qe7,qg3];oo
theorem RelO.isSome_eq {u:Option Value} (r:RelO o u):o.isSome=u.isSome:=by
 cases o with
 | none=>cases u with
  | none=>rfl
  | some _=>exact (show False from r).elim
 | some _=>cases u with
  | none=>exact (show False from r).elim
  | some _=>rfl
theorem RelO.getD {u:Option Value} {d:V} {d':Value} (r:RelO o u) (rd:RelV d d'):RelV (o.getD d) (u.getD d'):=by
 cases o with
 | none=>cases u with
  | none=>exact rd
  | some _=>exact (show False from r).elim
 | some _=>cases u with
  | none=>exact (show False from r).elim
  | some _=>exact r
theorem KV.val {kvs:List (κ×V)} {vs:List (κ×Value)} (r:KV kvs vs) (k:κ):RelO (eJ kvs k) (zi5 vs k):=by
 unfold KV at r;induction r with
 | nil=>exact qs5
 | @cons p q ps qs h t U =>
  obtain ⟨h1,h2⟩:=h;by_cases e:p.1=k
  . have O:q.1=k:=h1.symm.trans e;have b:zi5 (q::qs) k=some q.2:=by simp [zi5,qq2,O]
    rw [fI e,b];exact h2
  . have O:¬ q.1=k:=fun z=>e (h1.trans z)
    have b:zi5 (q::qs) k=zi5 qs k:=by simp [zi5,qq2,O]
    rw [dU e,b];exact U
theorem KV.any {kvs:List (κ×V)} {vs:List (κ×Value)} (r:KV kvs vs) (k:κ):(kvs.any fun q=>decide (q.1=k))=vs.any fun q=>decide (q.1=k):=by
 unfold KV at r;induction r with
 | nil=>rfl
 | cons h t O=>rw [qi9,qi9,O,h.1]
theorem KV.repl {kvs:List (κ×V)} {vs:List (κ×Value)} (r:KV kvs vs) (k:κ) (U:RelV y u) :
  KV (kvs.map fun O=>if O.1=k then (O.1,y) else O) (vs.map fun O=>if O.1=k then (O.1,u) else O):=by
 unfold KV at r ⊢;induction r with
 | nil=>exact .nil
 | @cons p q ps qs h t W =>
  rw [qa7,qa7];refine .cons ?_ W;obtain ⟨h1,h2⟩:=h;by_cases e:p.1=k
  . rw [if_pos e,if_pos (h1.symm.trans e)];exact ⟨h1,U⟩
  . rw [if_neg e,if_neg (fun z=>e (h1.trans z))];exact ⟨h1,h2⟩
theorem KV.put {kvs:List (κ×V)} {vs:List (κ×Value)} (r:KV kvs vs) (k:κ) (q:RelV y u):KV (dj kvs k y) (stored vs k u):=by
 unfold dj stored;rw [r.any k];by_cases e:(vs.any fun O=>decide (O.1=k))=true
 . rw [if_pos e,if_pos e];exact r.repl k q
 . rw [if_neg e,if_neg e];exact Paired.snoc r ⟨rfl,q⟩
theorem KV.length {kvs:List (κ×V)} {vs:List (κ×Value)} (r:KV kvs vs):kvs.length=vs.length:=Paired.length r
end
variable {P:qc9} {w:World}
theorem oh {k:Key} (r:RelV (kV k) u):(bC P w).is k u=true:=by
 cases k with
 | inl i=>obtain ⟨t,e⟩:=(show ∃ t,u=zj7 i t from r);subst e;exact nU P w i t
 | inr x=>obtain ⟨t,e⟩:=(show ∃ t,u=zh3 x t from r);subst e;exact nV P w x t
theorem lv:∀ {ks:List Key} {us:List Value},Vals (ks.map kV) us->ItemsAre (bC P w) ks us
 | [],_,r=>by rw [qs9] at r;cases r;exact .nil
 | k::ks,_,r=>by
  rw [qa7] at r;cases r with
  | cons h t=>exact .cons (oh h) (lv t)
abbrev KT (H:Hp):List (List Key×V)->List (List Key×Addr×Value)->Prop:=Paired fun p q=>p.1=q.1/\H q.2.1=some (.tup (p.1.map kV))/\RelV p.2 q.2.2
variable {kvs:List (List Key×V)}
theorem KT.val {xs:List (List Key×Addr×Value)} (r:KT H kvs xs) (k:List Key):RelO (eJ kvs k) ((atKey xs k).map (·.2)):=by
 induction r with
 | nil=>exact qs5
 | @cons p q ps qs h t U =>
  obtain ⟨h1,_,h2⟩:=h;by_cases e:p.1=k
  . have O:q.1=k:=h1.symm.trans e;have b:atKey (q::qs) k=some q.2:=by simp [atKey,qq2,O]
    rw [fI e,b];exact h2
  . have O:¬ q.1=k:=fun z=>e (h1.trans z)
    have b:atKey (q::qs) k=atKey qs k:=by simp [atKey,qq2,O]
    rw [dU e,b];exact U
theorem KT.repl {xs:List (List Key×Addr×Value)} (r:KT H kvs xs) (k:List Key) (U:RelV y u) :
  KT H (kvs.map fun O=>if O.1=k then (O.1,y) else O) (xs.map (putAt k u)):=by
 induction r with
 | nil=>exact .nil
 | @cons p q ps qs h t W =>
  rw [qa7,qa7];refine .cons ?_ W;obtain ⟨h1,h2,h3⟩:=h;unfold putAt;by_cases e:p.1=k
  . rw [if_pos e,if_pos (h1.symm.trans e)];exact ⟨h1,h2,U⟩
  . rw [if_neg e,if_neg (fun z=>e (h1.trans z))];exact ⟨h1,h2,h3⟩
variable {b:Addr}
theorem KT.put {xs:List (List Key×Addr×Value)} (r:KT H kvs xs) (k:List Key) (W:H b=some (.tup (k.map kV))) (O:RelV y u) :
  KT H (dj kvs k y) (storedH xs k b u):=by
 have e:(kvs.any fun U=>decide (U.1=k))=(atKey xs k).isSome:=by rw [oe,(r.val k).isSome_eq,qu6]
 unfold dj storedH;rw [e];by_cases q:(atKey xs k).isSome=true
 . rw [if_pos q,if_pos q];exact r.repl k O
 . rw [if_neg q,if_neg q];exact Paired.snoc r ⟨rfl,W,O⟩
variable {H':Hp}
theorem KT.keeps {xs:List (List Key×Addr×Value)} (r:KT H kvs xs) (q:∀ b ys,H b=some (.tup ys)->H' b=some (.tup ys)):KT H' kvs xs:=Paired.mapP r fun _ _ z=>⟨z.1,q _ _ z.2.1,z.2.2⟩
section
variable {P:qc9} {w:World} {H:Hp} {h:Heap} {a:Addr}
theorem Ak {u:HO} (ok:HOk P w H h) (e:Rd H a u):ObjOk P w H h a u:=e.ok ok
theorem lw {kvs:List (Key×V)} (ok:HOk P w H h) (e:Rd H a (.dK kvs)):kvs.length<=qb2/\(a==ql5)=false/\∃ vs,KV kvs vs/\h.DictOf (bC P w) a vs:=show ObjOk P w H h a (.dK kvs) from Ak ok e
theorem DH {kvs:List (Key×V)} (ok:HOk P w H h) (e:H a=some (.dK kvs)):kvs.length<=qb2/\(a==ql5)=false/\∃ vs,KV kvs vs/\h.DictOf (bC P w) a vs:=lw ok (.inl e)
theorem jT {ks:List Key} (ok:HOk P w H h) (e:H a=some (.tup (ks.map kV))):(zh4 (bC P w)).is h ks a:=by obtain ⟨_,its,r,o,h1,h2,n,h3⟩:=(show ObjOk P w H h a (.tup (ks.map kV)) from ok a _ e);exact ⟨o,its.toArray,n,h1,h2,h3,by simpa using lv r⟩
theorem oj (ok:HOk P w H h) (e:Rd H a (.dT kvs)):kvs.length<=qb2/\(a==ql5)=false∧
  ∃ xs,KT H kvs xs/\h.DictOfH (zh4 (bC P w)) a xs:=by
 obtain ⟨z,y,xs,r,o,es,ep,h1,h2,h3,W,Y⟩:=(show ObjOk P w H h a (.dT kvs) from Ak ok e);refine ⟨z,y,xs,r,o,es,ep,h1,h2,h3,W,fun x O=>?_,Y⟩
 have all:∀ {l:List (List Key×V)} {m:List (List Key×Addr×Value)},KT H l m->∀ x∈m,(zh4 (bC P w)).is h x.1 x.2.1:=by
  intro l m q;induction q with
  | nil=>intro x O;exact nomatch O
  | @cons p q ps qs U t Z =>
   intro x O;rcases qb6.mp O with e | O
   . subst e;exact jT ok (by rw [<- U.1];exact U.2.1)
   . exact Z x O
 exact all r x O
theorem DI (ok:HOk P w H h) (e:H a=some (.dT kvs)):kvs.length<=qb2/\(a==ql5)=false∧∃ xs,KT H kvs xs/\h.DictOfH (zh4 (bC P w)) a xs:=oj ok (.inl e)
end
df DGet (H:Hp) (a:Addr) (y:V) (r:Option V):Prop:=(∃ kvs k,Rd H a (.dK kvs)/\y=kV k/\r=eJ kvs k)∨∃ kvs k b,Rd H a (.dT kvs)/\y=.ref b/\H b=some (.tup (k.map kV))/\r=eJ kvs k
df DPut (H:Hp) (a:Addr) (y v:V) (H':Hp):Prop:=
 (∃ kvs k,H a=some (.dK kvs)/\y=kV k/\kvs.length<qb2/\H'=upd H a (.dK (dj kvs k v)))∨
 ∃ kvs k b,H a=some (.dT kvs)/\y=.ref b/\H b=some (.tup (k.map kV))/\kvs.length<qb2/\H'=upd H a (.dT (dj kvs k v))
variable {a:Addr}
theorem DGet.k {kvs:List (Key×V)} {k:Key} (e:H a=some (.dK kvs)):DGet H a (kV k) (eJ kvs k):=.inl ⟨kvs,k,.inl e,rfl,rfl⟩
theorem DGet.t {k:List Key} (e:H a=some (.dT kvs)) (q:H b=some (.tup (k.map kV))):DGet H a (.ref b) (eJ kvs k):=.inr ⟨kvs,k,b,.inl e,rfl,q,rfl⟩
theorem DPut.k {kvs:List (Key×V)} {k:Key} {v:V} (e:H a=some (.dK kvs)) (q:kvs.length<qb2):DPut H a (kV k) v (upd H a (.dK (dj kvs k v))):=.inl ⟨kvs,k,e,rfl,q,rfl⟩
theorem DPut.t {k:List Key} {v:V} (e:H a=some (.dT kvs)) (q:H b=some (.tup (k.map kV))) (O:kvs.length<qb2) :
  DPut H a (.ref b) v (upd H a (.dT (dj kvs k v))):=.inr ⟨kvs,k,b,e,rfl,q,O,rfl⟩
variable {Q:Value->qa4->Prop} {h':Heap}
section
variable {X:Cx} {pins:List (Addr×Obj)} {σ:St} {H:Hp} {s:qa4} {a:Addr} {y v:V} {u r:Value} {o:Option V} {A:qe0} {E:Value->qa4->Prop}
theorem Inv.big (I:Inv X pins σ H s):ql5<s.heap.objs.size:=by have h:qc2<s.heap.objs.size:=(I.mod.glob.keeps I.bk).lt;exact ze5 \7 h
theorem tT (hu:A.units+1<cLine) (I:Inv X pins σ H s) (g:DGet H a y (some v)) (ry:RelV y u) (h:∀ U s',Inv X pins σ H s'->RelV v U->Q U s') :
  wpAny \4 A (zb6 (.ref a) u) Q E s:=by
 rcases g with ⟨kvs,k,e,ey,l⟩ | ⟨kvs,k,b,e,ey,eb,l⟩
 . subst ey;obtain ⟨z,hd,vs,q,Z⟩:=lw I.hok e;obtain ⟨U,Y,O⟩:=RelO.some_of (v:=v) (o:=zi5 vs k) (by rw [l];exact q.val k);exact wpAny_getItem_of (oh ry) Z.mapOf Y (h U _ (I.tok _) O)
 . subst ey;cases (show u=qf7 b from ry);obtain ⟨z,hd,xs,q,Z⟩:=oj I.hok e;obtain ⟨U,Y,O⟩:=RelO.some_of (v:=v) (o:=(atKey xs k).map (·.2)) (by rw [l];exact q.val k);obtain ⟨p,hp,W⟩:=mS Y;refine wpAny_getItem_heap (qt4 hu) (jT I.hok eb) Z hp ?_;rw [W];exact h U _ (I.tok _) O
theorem d_in (hu:A.units+1<cLine) (I:Inv X pins σ H s) (g:DGet H a y o) (Z:RelV y u) (h:∀ s',Inv X pins σ H s'->Q (.bool o.isSome) s') :
  wpAny \4 A (qg9 .In u (.ref a)) Q E s:=by
 rcases g with ⟨kvs,k,e,Y,l⟩ | ⟨kvs,k,b,e,Y,eb,l⟩
 . subst Y;obtain ⟨z,U,vs,O,W⟩:=lw I.hok e;refine wpAny_in_of (oh Z) U W.mapOf ?_;rw [<- (O.val k).isSome_eq,<- l];exact h _ (I.tok _)
 . subst Y;cases (show u=qf7 b from Z);obtain ⟨z,U,xs,O,W⟩:=oj I.hok e;refine wpAny_in_heap (qt4 hu) (jT I.hok eb) U W ?_;have q:=(O.val k).isSome_eq;rw [qu6] at q;rw [<- q,<- l];exact h _ (I.tok _)
theorem ye (hu:A.units+1<cLine) (I:Inv X pins σ H s) (g:DGet H a y o) (Z:RelV y u) (h:∀ s',Inv X pins σ H s'->Q (.bool (!o.isSome)) s') :
  wpAny \4 A (qg9 .NotIn u (.ref a)) Q E s:=by
 rcases g with ⟨kvs,k,e,Y,l⟩ | ⟨kvs,k,b,e,Y,eb,l⟩
 . subst Y;obtain ⟨z,U,vs,O,W⟩:=lw I.hok e;refine wpAny_notIn_of (oh Z) U W.mapOf ?_;rw [<- (O.val k).isSome_eq,<- l];exact h _ (I.tok _)
 . subst Y;cases (show u=qf7 b from Z);obtain ⟨z,U,xs,O,W⟩:=oj I.hok e;refine wpAny_notIn_heap (qt4 hu) (jT I.hok eb) U W ?_;have q:=(O.val k).isSome_eq;rw [qu6] at q;rw [<- q,<- l];exact h _ (I.tok _)
theorem rp {ob:HO} (I:Inv X pins σ H s) (Y:Mut (H a)) (U:qp0 a s.heap h') (O:∃ q,h'.get? a=some q) (new:ObjOk X.prog X.w (upd H a ob) h' a ob) :
  Inv X pins σ (upd H a ob) {s with heap:=h',toks:=t'}:=
 I.write (x:=a) (e:=a) Y (.inl rfl) (fun b q W z=>(U.2 b W).trans z) O new
theorem By {kvs:List (Key×V)} {vs:List (Key×Value)} (z:kvs.length<=qb2) (O:(a==ql5)=false) (q:KV kvs vs) (U:h'.DictOf (bC P w) a vs) :
  ObjOk P w H' h' a (.dK kvs):=⟨z,O,vs,q,U⟩
theorem tU {Q:Unit->qa4->Prop} (hu:A.units+1<cLine) (I:Inv X pins σ H s) (g:DPut H a y v H') (ry:RelV y u) (rv:RelV v r) (h:∀ s',Inv X pins σ H' s'->Q () s') :
  wpAny \4 A (setItem (.ref a) u r) Q E s:=by
 rcases g with ⟨kvs,k,e,ey,l,eH⟩ | ⟨kvs,k,b,e,ey,eb,l,eH⟩
 . subst ey eH;obtain ⟨z,hd,vs,O,Z⟩:=DH I.hok e;have hz:vs.length<=qb2:=by rw [<- O.length];exact z
   have Y:(dj kvs k v).length<=qb2:=by have:=ji kvs k v;oo
   refine wpAny_setItem_pairs (hsz:=hz) (oh ry) Z fun h' U hs=>h _ ?_
   have he:∃ q,h'.get? a=some q:=let ⟨q,_,_,W,_⟩:=U;⟨q,W⟩;exact rp I (by rw [e];exact qs5) hs he (By Y hd (O.put k rv) U)
 . subst ey eH;cases (show u=qf7 b from ry);obtain ⟨z,hd,xs,O,Z⟩:=DI I.hok e;have hz:xs.length<=qb2:=by rw [<- Paired.length O];exact z
   have Y:(dj kvs k v).length<=qb2:=by have:=ji kvs k v;oo
   refine wpAny_setItem_heap (hsz:=hz) (qt4 hu) (jT I.hok eb) Z fun h' U hs=>h _ ?_
   obtain ⟨q,es,ep,W,h2,h3,h4,_,h5⟩:=U;refine rp I (by rw [e];exact qs5) hs ⟨q,W⟩ ⟨Y,hd,_,(O.put k eb rv).keeps fun c ys ec=>?_,q,es,ep,W,h2,h3,h4,h5⟩;rw [ap (Do ec e (fun z=>nomatch z))];exact ec
end
section
variable {X:Cx} {pins:List (Addr×Obj)} {σ:St} {H:Hp} {s:qa4} {a:Addr} {kvs:List (Key×V)} {k:Key} {u:Value} {A:qe0} {E:Value->qa4->Prop}
end
df u4 (i:Expr):Prop:=∀ q O,zg9 i false q O=operate [q,O] (zb6 q O)
theorem yf {prog:qc9} {E:Value->qa4->Prop} {env:Env} {value q:Expr} {pos:Pos} {T id:String} 
 (hl:zf6 (.type T) "__getitem__"=pure (some (.builtin id))) (Z:u4 q)
 (h:wpAny (model prog w) A (eval value env) (fun o U=>wpAny (model prog w) A (eval q env) (fun i s₂=>s₂.TypeIs o T/\wpAny (model prog w) A (zb6 o i) Q E s₂) E U) E s) :
  wpAny (model prog w) A (eval (.Subscript value q pos) env) Q E s:=by
 refine Subscript_ (ql6 h (fun o U W=>ql6 W (fun i s₂ O=>?_) fun _ _ x=>x) fun _ _ x=>x);obtain ⟨Y,O⟩:=O;unfold zh8;refine wB ?_;rw [getitemInPython_of_ne Y.not_modules];refine wB (qx9 Y hl ?_)
 have fin:wpAny (model prog w) A (zg9 q false o i) (fun r s₃=>wpAny (model prog w) A (letTemporaryGo value o r >>= fun _=>pure r) Q E s₃) E s₂:=by rw [Z o i];exact wpAny_operating (ql6 O (fun r s₃ h₃=>wB (wpAny_letTemporaryGo (qa3 h₃))) fun _ _ x=>x)
 first
  | exact qa3 (wB fin)
  | exact wB (qa3 (wB fin))
  | exact wB fin
theorem om {X:Cx} (I:Inv X pins σ H s) (g:DGet H a y o):s.TypeIs (.ref a) "dict":=by
 rcases g with ⟨kvs,k,e,_,_⟩ | ⟨kvs,k,b,e,_,_,_⟩
 . obtain ⟨_,_,vs,_,q⟩:=lw I.hok e;exact q.typeIs
 . obtain ⟨_,_,xs,_,q⟩:=oj I.hok e;exact q.typeIs
df DJ (td ty:TE):TE:=fun σ H Q=>td σ H fun x H1=>ty σ H1 fun y H2=>∃ a v,x=.ref a/\DGet H2 a y (some v)/\Q v H2
df tDIn (ty td:TE):TE:=fun σ H Q=>ty σ H fun y H1=>td σ H1 fun x H2=>∃ a o,x=.ref a/\DGet H2 a y o/\Q (.bl o.isSome) H2
df rq (ty td:TE):TE:=fun σ H Q=>ty σ H fun y H1=>td σ H1 fun x H2=>∃ a o,x=.ref a/\DGet H2 a y o/\Q (.bl (!o.isSome)) H2
df DK (td ty tv:TE):TS:=fun D σ H=>tv σ H fun v H1=>td σ H1 fun x H2=>ty σ H2 fun y O=>∃ a q,x=.ref a/\DPut O a y v q/\D.nx σ q
section
variable {X:Cx} {o i e value:Expr} {pos pos' tpos:Pos} {td ty tv:TE}
theorem mK (U:X.A.units+1<cLine) (W:PE X o td) (hi:PE X i ty) (hs:u4 i):PE X (.Subscript o i pos) (DJ td ty):=by intro pins s σ H Q I h;refine yf PySem.F.slot_dict_getitem.lookup hs (thn (W pins s σ H _ I h) fun u s1 ⟨x,H1,Y,Z,q1⟩=>thn (hi pins s1 σ H1 _ Y q1) fun iv s2 ⟨y,H2,O,ry,a,v,ex,g,q2⟩=>?_);subst ex;obtain rfl:u=qf7 a:=Z;exact ⟨om O g,tT U O g ry fun w' s3 I3 q=>⟨v,H2,I3,q,q2⟩⟩
theorem Bz (U:X.A.units+1<cLine) (hi:PE X i ty) (Y:PE X o td):PC X .In i o (tDIn ty td):=by
 intro pins s σ H Q I h;refine thn (hi pins s σ H _ I h) fun iv s1 ⟨y,H1,I1,q,q1⟩=>thn (Y pins s1 σ H1 _ I1 q1) fun u s2 ⟨x,H2,Z,rx,a,O,ex,g,q2⟩=>?_
 subst ex;obtain rfl:u=qf7 a:=rx;exact d_in U Z g q fun s3 W=>⟨.bl O.isSome,H2,W,rfl,q2⟩
theorem lx (U:X.A.units+1<cLine) (hi:PE X i ty) (Y:PE X o td):PC X .NotIn i o (rq ty td):=by
 intro pins s σ H Q I h;refine thn (hi pins s σ H _ I h) fun iv s1 ⟨y,H1,I1,q,q1⟩=>thn (Y pins s1 σ H1 _ I1 q1) fun u s2 ⟨x,H2,Z,rx,a,O,ex,g,q2⟩=>?_
 subst ex;obtain rfl:u=qf7 a:=rx;exact ye U Z g q fun s3 W=>⟨.bl (!O.isSome),H2,W,rfl,q2⟩
theorem rz (q:X.A.units+1<cLine) (U:PE X o td) (hi:PE X i ty) (hv:PE X value tv) (hs:qm7 value (some (.Subscript o i pos')) pos.line X.env=pure false) :
  PS X (.Assign [.Subscript o i pos'] value pos) (DK td ty tv):=by
 intro pins s σ H D I h;refine wpAny_Assign_Subscript (thn (hv pins s σ H _ I h) fun r s1 ⟨v,H1,Z,W,q1⟩=>thn (U pins s1 σ H1 _ Z q1) fun u O ⟨x,H2,Y,rx,q2⟩=>thn (hi pins O σ H2 _ Y q2) fun iv s3 ⟨y,H3,I3,ry,a,H4,ex,g,q3⟩=>?_) hs;subst ex;obtain rfl:u=qf7 a:=rx;exact tU q I3 g ry W fun s4 I4=>⟨σ,H4,I4,q3⟩
end
theorem u5 (h:Heap) (q:ql5<h.objs.size):ObjOk P w H (h.push {cls:=.type "dict",data:=.dict #[]}) h.objs.size (.dK []):=⟨qn8 _,beq_eq_false_iff_ne.mpr (qq1 (qc0 q)),[],.nil,Heap.DictOf.new h⟩
theorem u6 (h:Heap) (q:ql5<h.objs.size):ObjOk P w H (h.push {cls:=.type "dict",data:=.dict #[]}) h.objs.size (.dT []):=⟨qn8 _,beq_eq_false_iff_ne.mpr (qq1 (qc0 q)),[],.nil,_,#[],0,qb1 _ rfl,⟨rfl,rfl,rfl⟩,rfl,rfl,qv0⟩
df BA:TE:=fun _ H Q=>∀ p,H p=none->Q (.ref p) (upd H p (.dK []))
df BB:TE:=fun _ H Q=>∀ p,H p=none->Q (.ref p) (upd H p (.dT []))
section
variable {X:Cx} {pos:Pos}
theorem u7:PE X (.Dict [] [] pos) BA:=fun pins s σ H Q I h =>wpAny_Dict_empty ⟨.ref s.heap.objs.size,_,I.laid (a:=s.heap.objs.size) (o:=.dK []) (t':=s.toks) (fun _ _ q=>gP _ q) (nL _) (u5 s.heap I.big),rfl,h _ (I.hok.fresh (nL _))⟩
theorem u8:PE X (.Dict [] [] pos) BB:=fun pins s σ H Q I h =>wpAny_Dict_empty ⟨.ref s.heap.objs.size,_,I.laid (a:=s.heap.objs.size) (o:=.dT []) (t':=s.toks) (fun _ _ q=>gP _ q) (nL _) (u6 s.heap I.big),rfl,h _ (I.hok.fresh (nL _))⟩
end
section
variable {X:Cx} {pins:List (Addr×Obj)} {σ:St} {H:Hp} {s:qa4} {a:Addr} {y d:V} {u r:Value} {o:Option V} {A:qe0} {E:Value->qa4->Prop}
end
section
variable {X:Cx} {o e f:Expr} {apos cpos:Pos} {td ty tx:TE}
end
section
variable {X:Cx} {pins:List (Addr×Obj)} {σ:St} {H:Hp} {s:qa4} {a:Addr} {kvs:List (Key×V)} {A:qe0} {E:Value->qa4->Prop}
end
section
variable {X:Cx} {pins:List (Addr×Obj)} {σ:St} {H:Hp} {s:qa4} {a:Addr} {y:V} {u:Value} {A:qe0} {E:Value->qa4->Prop}
end
end L2
namespace Att
open PySem PySem.W PySem.Calls PyProof.Rows
variable {P:Params} {h:Heap}
theorem jz:∀ (ns:List Int) (vs:List Value),WellAll P h vs (ns.map WData.int)->IntsAre vs ns:=by
 intro ns;induction ns with
 | nil =>intro vs w;rw [qs9] at w;cases w;exact .nil
 | cons n ns q =>
  intro vs w;rw [qa7] at w;cases w with
  | cons a b =>cases a;exact .cons _ _ (q _ b)
variable {l:OpenLaw} {n:Nat}
theorem tV (hn:l.most=some n) {args:List WData} {O:List Value}
 (U:l.row.toRowW.claim.pre args=true) (hwl:WellAll P h O args) :
  ∃ a vs ns,O=[qf7 a]/\args=[WData.list (ns.map WData.int)]/\h.get? a=some {cls:=.type "list",data:=.seq vs.toArray}/\IntsAre vs ns/\ns.length<=n:=by
 have hsh:WShape.hasAll [] args [.list .int]=true:=(pre_splitW U).1;have hc:l.pre.holds [] {args:=args}=true:=(pre_splitW U).2;obtain ⟨d,r,rfl,h1,h2⟩:=hasAllW_cons hsh;obtain rfl:=hasAllW_nil h2;obtain ⟨xs,rfl,h3⟩:=hasW_list h1;obtain ⟨ns,rfl⟩:=items_int h3
 have Y:ns.length<=n:=by
  unfold OpenLaw.pre at hc
  have Z:(WTm.not (.lt (.lit (.int (n:Int))) (.len (.arg 0)))).holds [] {args:=[.list (ns.map .int)]}=true:=by have Z:=(holds_andW hc).1;rw [hn] at Z;exact Z
  have h5:=condW_of Z (w_not (w_lt w_lit (w_len_list (w_arg rfl))));rw [qa2] at h5;refine Nat.le_of_not_lt fun q=>?_
  have q':(n:Int)<((ns.length:Nat):Int):=by oo
  first
   | (rw [decide_eq_true q'] at h5;exact absurd h5 \7)
   | (simp at h5;oo)
 cases hwl with
 | cons w1 w2 =>
  cases w2;cases w1 with
  | list ho W=>exact ⟨_,_,ns,rfl,rfl,ho,jz ns _ W,Y⟩
theorem tW (l:OpenLaw) (args:List WData):l.row.toRowW.claim.post args (.bool true) args=true:=
 postW_of (r:=l.row.toRowW) (X:=(true==true))
  (show WShape.has [] (.bool true) .bool=true by first | rfl | decide | simp [WShape.has,WShape.arms,WShape.armsAll])
  (show (WTm.eq .res (.lit (.bool true))).value [] {args:=args,res:=some (.bool true),after:=args}=some (.bool (true==true)) from w_eq_bool (w_res rfl) w_lit) rfl
theorem Al {q:qc9} {loose:List Str} {XP:(Str->Option Value)->Heap->Prop} {YP:World->Heap->Prop} {d:DefRec}
 (hn:l.most=some n) (hdf:d.params.defaults=[])
 (call:∀ (w:World) (s₀ O:qa4) (mg mb:Str->Option Value) (fa:Addr) (o:Obj) (pm cd doc:Value) (a:Addr) (vs:List Value) (ns:List Int),
 Ground q loose [] XP w s₀ mg mb O.heap->YP w O.heap→
 O.heap.get? fa=some o->o.data=.func (docDef d.name d.params d.body d.scope pm cd doc)->O.heap.CodeRec cd d.name->mg d.name=some (.ref fa)→
 O.heap.get? a=some {cls:=.type "list",data:=.seq vs.toArray}->IntsAre vs ns->ns.length<=n->O.gens=#[]→
 qr4 (model l.prog w) zi6 (.call (.ref fa) ⟨[.ref a],[]⟩) (fun r s'=>r=.ok (.ret (.bool true))/\OldK O.heap s'.heap/\s'.os=O.os/\zd6 s'.gens) O) :
  WalkO q loose XP YP l.row.toRowW d [] (fun f vs=>PySem.call f vs):=by
 intro w s₀ O mg mb G Y fa o pm cd doc dV kV ho hd hcd hD hmg hg args vals as hpre hlay hrd hwl hlo;obtain rfl:dV=.none:=Dflts.none hD hdf;obtain rfl:kV=.none:=Dflts.noKw hD;obtain ⟨a,vs,ns,rfl,rfl,Z,U,W⟩:=tV hn hpre hwl;refine enter_call (qs6 (call w s₀ O mg mb fa o pm cd doc a vs ns G Y ho (fd_plain hd) hcd hmg Z U W hg) fun r s' hq=>?_);obtain ⟨rfl,h2,h3,h4⟩:=hq;exact ⟨.inl ⟨.bool true,.bool true,[],rfl,fun _=>rfl,.bool true,tW l _,fun _=>⟨za3,fun _ hm=>(nomatch hm)⟩⟩,h2,h3,h4⟩
section
variable {prog:qc9} {w:World} {A:qe0} {E:Value->qa4->Prop} {s:qa4} {K:Frag}
end
end Att
namespace L2
open PySem PySem.Spec PyProof.Rows
theorem ly:∀ {vs:List Value} {ns:List Int},IntsAre vs ns->Vals (ns.map V.int) vs
 | _,_,.nil=>.nil
 | _,_,.cons n t h=>.cons ⟨t,rfl⟩ (ly h)
end L2
/- THE LAST THEOREM (shape;LID,My.* are yours):
   My.Adr: a structure of the addresses that your layer names (classes,functions);My.Txt K t: a structure (Prop) of the equations over K;
   My.txt_mk:{K} {implicit addresses ..} (e1:nsIn K qc2 "law"=some (some (.ref f))) (e2:K.lookup f=some ⟨oc,od,.func (fnOf "law" "law" params body scope dV kV doc pm an cdv ct),sl⟩) (e3:codeIn K cdv "law"=true) ..:∃ t,My.Txt K t
(the tactic k_is has no namespace: write k_is) -/
namespace L2
open PySem PySem.Spec PyProof.Rows
df bu (s:Stmt):qj4:=match s with
 | .FunctionDef _ a _ _ _ _ _ _ _ _=>a
 | _=>{posonlyargs:=[],args:=[],vararg:=none,kwonlyargs:=[],kw_defaults:=[],kwarg:=none,defaults:=[]}
df aI (s:Stmt):List Stmt:=match s with
 | .FunctionDef _ _ b _ _ _ _ _ _ _=>b
 | _=>[]
df ac (s:Stmt):Scope:=match s with
 | .FunctionDef _ _ _ _ _ _ sc _ _ _=>sc
 | _=>{kind:=.function,names:=[],isGenerator:=false,isCoroutine:=false}
abbrev CX0:CXT:=fun _ _ _ _ _ _=>False
abbrev E0:XK:=fun _ _ _=>False
variable {X:Cx}
theorem DM:pW CX0 X E0:=fun _ _ _ _ _ _ _ h=>h.elim
structure Fun (K:PySem.W.Frag) (x qual:Str) (st:Stmt) (f:Addr) (fd:qq8):Prop where
 ex:∃ (oc:Value) (od:Option Addr) (kV doc pm:Value) (an:Option Addr) (cdv ct:Value) (osl:Array (Option Value)),fd=PySem.W.fnOf x qual (bu st) (aI st) (ac st) .none kV doc pm an cdv ct/\K.lookup f=some ⟨oc,od,.func fd,osl⟩/\PySem.W.codeIn K cdv qual=true
 kp:PySem.W.keepIn K (.ref f)=true
variable {x qual:Str} {st:Stmt} {f:Addr} {fd:qq8} {N ps:List Str} {sp:Sp} {oc doc pm cdv:Value} {od an:Option Addr} {osl:Array (Option Value)}
section
variable {P:qc9} {w:World} {K:PySem.W.Frag} {mg:Str->Option Value} {base:Heap}
theorem Fun.ok {k:Nat} (F:Fun K x qual st f fd) (S:FnScope N ps (ac st)) (U:∀ vs H Q E,sp vs H Q E->vs.length=ps.length)
 (O:∀ (cdv:Value) (A:qe0) (outer:List Env) (s:qa4) (H:Hp) (vs:List V) (Q:VK) (E:XK),Room k (A.deeper (qz3 qual (ac st) s.heap.objs.size f cdv))->sp vs H Q E→
 ∃ t,PSs (jy CX0 P w K mg base N qual (ac st) f cdv A outer s H E).nox (aI st) t/\t {nx:=fun _ H'=>Q .non H',rt:=Q} (start N vs) H):FnOk P w K mg base CX0 (k+1) f fd ps sp:=by
 obtain ⟨oc,od,kV,doc,pm,an,cdv,ct,osl,rfl,lk,W⟩:=F.ex;refine Ah lk W S U fun A outer s H vs Q E Z Y=>?_
 obtain ⟨t,h,q⟩:=O cdv A outer s H vs Q E Z Y;exact ⟨t,h.nox,q⟩
theorem Fun.binds (F:Fun K x qual st f fd)
 (h:∀ (kV doc pm:Value) (an:Option Addr) (cdv ct:Value) (us:List Value),us.length=ps.length->zh7 (PySem.W.fnOf x qual (bu st) (aI st) (ac st) .none kV doc pm an cdv ct) ⟨us,[]⟩=pure (ps.zip us)):Binds K fd ps []:=by
 obtain ⟨oc,od,kV,doc,pm,an,cdv,ct,osl,rfl,O,q⟩:=F.ex;exact .all (h kV doc pm an cdv ct)
theorem mL {kV ct:Value} (l:K.lookup f=some ⟨oc,od,.func (PySem.W.fnOf x qual (bu st) (aI st) (ac st) .none kV doc pm an cdv ct),osl⟩) (c:PySem.W.codeIn K cdv qual=true) (k:PySem.W.keepIn K (.ref f)=true):Fun K x qual st f (PySem.W.fnOf x qual (bu st) (aI st) (ac st) .none kV doc pm an cdv ct):=⟨⟨oc,od,kV,doc,pm,an,cdv,ct,osl,rfl,l,c⟩,k⟩
end
variable {A:qe0}
theorem jj {k:Nat} (q:Room k A):A.units+1<cLine:=Nat.lt_of_le_of_lt (Nat.add_le_add_left (by decide:1<=64) _) q.units
section
variable {X:Cx}
end
df Same (H H':Hp):Prop:=∀ b o,H b=some o->H' b=some o
theorem Same.refl (H:Hp):Same H H:=fun _ _ h=>h
variable {H:Hp}
theorem Same.trans {H1 H2:Hp} (a:Same H H1) (b:Same H1 H2):Same H H2:=fun c o h=>b c o (a c o h)
variable {H':Hp}
theorem Same.free (e:Same H H') {l:Addr} (h:H' l=Option.none):H l=Option.none:=by
 cases q:H l with
 | none=>rfl
 | some o =>rw [e l o q] at h;cases h
variable {K:PySem.W.Frag} {a:Addr} {xs:List V}
theorem Same.seq (e:Same H H') (h:SqL K H a xs):SqL K H' a xs:=by
 rcases h with (h | ⟨o,h⟩) | h
 . exact .inl (.inl (e _ _ h))
 . exact .inl (.inr ⟨o,e _ _ h⟩)
 . exact .inr h
section
variable {κ:Type} [DecidableEq κ]
end
set_option maxRecDepth 100000
set_option maxHeartbeats 4000000
theorem cR:∀ (names:List (Str×qq0)) (n:Nat) (acc:List (Str×Addr)),qh0 n names acc=qh0 n names []++acc
 | [],_,_=>rfl
 | (x,k)::r,n,acc=>by
  unfold qh0;split
  . rw [cR r (n+1) ((x,n)::acc),cR r (n+1) [(x,n)],qf0];rfl
  . exact cR r n acc
theorem cE {α:Type}:∀ {l m:List (Str×α)},(l++m).lookup x=(l.lookup x).or (m.lookup x)
 | [],m=>by simp
 | (k,v)::l,m=>by
  rw [qm5,qg4,qg4];cases x==k with
  | true=>rfl
  | false=>exact cE
variable {n:Str} {Q:Unit->qa4->Prop} {c:Addr}
section
variable {M:Model} {A:qe0} {E:Value->qa4->Prop} {s₀ s:qa4} {m cm:Str->Option Value} {env:Env} {cs:List (Str×Addr)}
theorem stLX {v:Value} (x:ze1 s₀ env.locals m cs cm s) (hk:env.scope.kind=.function) (Y:env.kindOf n=some .local)
 (h:∀ s',ze1 s₀ env.locals (fun y=>if y=n then some v else m y) cs cm s'->Q () s'):wpAny M A (zd7 env n v) Q E s:=by
 refine zd8 Y x.toInCall.ns (fun h' O q=>h _ ⟨⟨?_,O,fun b o e=>?_,x.toInCall.fresh⟩,fun k c U=>?_,x.apart,x.above⟩) (by rw [hk];rfl)
 . obtain ⟨W,tk,rfl⟩:=x.toInCall.same;exact ⟨h',_,rfl⟩
 . exact q.extBut b o (qc0 (qb7 (qa9 e) x.toInCall.fresh)) (x.toInCall.keep b o e)
 . exact (x.cell k c U).sameBut q (qm8 (x.above k c (PySem.mem_of_lookup U)))
theorem stCX {v:Value} (x:ze1 s₀ env.locals m cs cm s) (hk:env.scope.kind=.function) (hl:env.kindOf n=some .cell)
 (Y:cs.lookup n=some c) (Z:env.cells.lookup n=some c)
 (h:∀ s',ze1 s₀ env.locals m cs (fun y=>if y=n then some v else cm y) s'->Q () s'):wpAny M A (zd7 env n v) Q E s:=by
 have W:=x.above n c (PySem.mem_of_lookup Y);refine wpAny_storeName_cell hk hl Z (x.cell n c Y) fun h' hc' O=>h _ ⟨⟨?_,x.toInCall.ns.sameBut O (qc0 W),fun b o e=>?_,x.toInCall.fresh⟩,fun k c' q=>?_,x.apart,x.above⟩
 . obtain ⟨h₁,tk,rfl⟩:=x.toInCall.same;exact ⟨h',_,rfl⟩
 . exact O.extBut b o (qc0 (ze5 (qb7 (qa9 e) x.toInCall.fresh) W)) (x.toInCall.keep b o e)
 . by_cases U:k=n
   . subst U;rw [Y] at q;cases q
     simpa using hc'
   . rw [if_neg U];exact (x.cell k c' q).sameBut O fun e=>U (zj0 x.apart (PySem.mem_of_lookup q) (e▸PySem.mem_of_lookup Y))
theorem fJ (f:Str×Value->PUnit->Sem (ForInStep PUnit)) (hf:∀ n v u,f (n,v) u=(do zd7 env n v;pure (.yield ⟨⟩))) (hk:env.scope.kind=.function) (U:∀ n c,cs.lookup n=some c->env.cells.lookup n=some c) :
  ∀ (binds:List (Str×Value)) (m cm:Str->Option Value) (s:qa4) (Q:PUnit->qa4->Prop),ze1 s₀ env.locals m cs cm s→
   (∀ x∈binds,env.kindOf x.1=some .local∨(env.kindOf x.1=some .cell/\(cs.lookup x.1).isSome=true))→
   (∀ s',ze1 s₀ env.locals (bindL env.kindOf binds m) cs (bindC env.kindOf binds cm) s'->Q ⟨⟩ s')->wpAny M A (forIn binds ⟨⟩ f) Q E s
 | [],m,cm,s,Q,x,_,h=>by rw [List.forIn_nil];exact qa3 (h s x)
 | (n,v)::r,m,cm,s,Q,x,q,h=>by
  rw [List.forIn_cons,hf];have hr:∀ y∈r,env.kindOf y.1=some .local∨(env.kindOf y.1=some .cell/\(cs.lookup y.1).isSome=true):=fun y hy=>q y (qd0 _ hy)
  rcases q (n,v) qe1 with Y | ⟨Y,hc⟩
  . refine wB (wB (stLX x hk Y fun s' x'=>qa3 (fJ f hf hk U r _ _ s' Q x' hr fun O W=>h O ?_)));unfold bindL bindC;rw [if_pos Y,if_pos Y];exact W
  . obtain ⟨c,hc⟩:=qs7.mp hc;have Z:¬ env.kindOf n=some .local:=by rw [Y];decide
    refine wB (wB (stCX x hk Y hc (U n c hc) fun s' x'=>qa3 (fJ f hf hk U r _ _ s' Q x' hr fun O W=>h O ?_)));unfold bindL bindC;rw [if_neg Z,if_neg Z];exact W
end
variable {E:Value->qa4->Prop} {s:qa4} {scope:Scope}
theorem yg {M:Model} {O:Addr} {cl:List (Str×Addr)} {binds:List (Str×Value)} {U:Option Addr} {code:Value} {q:Addr} {Q:Env->qa4->Prop}
 (hk:scope.kind=.function)
 (W:∀ x∈binds,scope.names.lookup x.1=some .local∨(scope.names.lookup x.1=some .cell/\((qh0 (s.heap.objs.size+1) scope.names []).lookup x.1).isSome=true))
 (hQ:∀ env,env=newEnv scope s.heap.objs.size O (qh0 (s.heap.objs.size+1) scope.names []++cl) qual U code none q→
 ∀ s',ze1 s env.locals (bindL env.kindOf binds fun _=>none) (qh0 (s.heap.objs.size+1) scope.names []) (bindC env.kindOf binds fun _=>none) s'->Q env s') :
  wpAny M A (newFunctionEnv scope O cl binds qual U code none q) Q E s:=by
 simp only [newFunctionEnv,Option.isSome_none,qf1,if_false];refine wB (wpAny_alloc ?_);refine qh6 (wpAny_layCells _ (fun name Y cells=>by cases Z:Y==qq0.cell<;>simp [Z]) _ _ _ _ ?_);have ok:=cellsFrom_ok scope.names (s.heap.push {cls:=.type "frame",data:=.dict #[]}) (s.heap.objs.size+1) [] ⟨fun _ _ hm=>(nomatch hm),za3⟩ (by rw [qg0];exact nL _);rw [qg0] at ok;rw [show ({s with heap:=s.heap.push {cls:=.type "frame",data:=.dict #[]}}:qa4).heap.objs.size=s.heap.objs.size+1 from qg0 ..,cR]
 refine wB (fJ (s₀:=s) (cs:=qh0 (s.heap.objs.size+1) scope.names []) (env:=newEnv scope s.heap.objs.size O (qh0 (s.heap.objs.size+1) scope.names []++cl) qual U code none q)
  _ (fun _ _ _=>rfl) hk (fun n c h=>by show (qh0 (s.heap.objs.size+1) scope.names []++cl).lookup n=some c;rw [cE,h];rfl) binds (fun _=>none) (fun _=>none) _ _
  ⟨⟨⟨_,_,rfl⟩,(Heap.Ns.new s.heap (.type "frame")).keeps (pushCells_keeps _ _),fun b o e=>pushCells_keeps _ _ b o (gP _ e),nL _⟩,fun n c hc=>(ok.empty n c (PySem.mem_of_lookup hc)).1,ok.apart,fun n c hm=>(ok.empty n c hm).2⟩
  W fun s' x=>qa3 (hQ _ rfl s' x))
df dJ (names:List (Str×qq0)) (cells:List (Str×Addr)):List (Str×Addr):=names.foldl (fun cs q=>if q.2==qe3 then (q.1,(cells.lookup q.1).getD 0)::cs else cs) []
variable {cells:List (Str×Addr)} {env:Env}
theorem rA (W:env.cells=cells):∀ (names:List (Str×qq0)) (acc:List (Str×Addr)),(∀ x∈names,x.2=.free->∃ c,cells.lookup x.1=some c)→
  (forIn names acc (fun (x:Str×qq0) (r:List (Str×Addr))=>if (x.2==qe3)=true then (do let c <- cellOf env x.1;pure (qq3 ((x.1,c)::r))) else (pure (qq3 r):Sem _)))
   = (pure (names.foldl (fun cs U=>if U.2==qe3 then (U.1,(cells.lookup U.1).getD 0)::cs else cs) acc):Sem (List (Str×Addr)))
 | [],acc,_=>rfl
 | x::r,acc,h=>by
  have Y:=fun acc=>rA W r acc fun y Z=>h y (qd0 _ Z)
  simp only [List.forIn_cons,qi1];cases e:(x.2==qe3) with
  | false =>simp only [qf1,if_false];exact Y acc
  | true =>
   obtain ⟨c,O⟩:=h x qe1 (by simpa using e);have q:cellOf env x.1=pure c:=by unfold cellOf;rw [W,O]
   simp only [if_true,q,O,Option.getD_some];exact Y _
theorem gU {env:Env} (h:∀ x∈scope.names,x.2=.free->∃ c,env.cells.lookup x.1=some c):zf9 scope env=pure (dJ scope.names env.cells):=by have:=rA (env:=env) rfl scope.names [] h;unfold zf9 dJ;rw [<- this];simp only [bind_pure]
theorem lz:∀ {names:List (Str×qq0)} {acc:List (Str×Addr)} {x:Str} {c:Addr},(∀ y∈names,y.2=.free->∃ c,cells.lookup y.1=some c)→
  (names.foldl (fun cs O=>if O.2==qe3 then (O.1,(cells.lookup O.1).getD 0)::cs else cs) acc).lookup x=some c->(∀ c,acc.lookup x=some c->cells.lookup x=some c)->cells.lookup x=some c
 | [],acc,x,c,_,h,q=>q c h
 | y::r,acc,x,c,W,h,q=>by
  simp only [qi1] at h;refine lz (fun z Z=>W z (qd0 _ Z)) h ?_;intro c' h';split at h'
  . rename_i hf;obtain ⟨c0,e0⟩:=W y qe1 (by simpa using hf);rw [qg4] at h';split at h'
    . rename_i Y;have U:x=y.1:=by simpa using Y
      rw [e0] at h';subst U;rw [e0];simpa using h'
    . exact q c' h'
  . exact q c' h'
variable {names:List (Str×qq0)}
theorem fK (q:∀ y∈names,y.2=.free->∃ c,cells.lookup y.1=some c) (h:(dJ names cells).lookup x=some c):cells.lookup x=some c:=lz q h fun c h=>by simp at h
theorem lB:∀ {names:List (Str×qq0)} {acc:List (Str×Addr)} {x:Str},((x,qe3)∈names∨(acc.lookup x).isSome)→
  ((names.foldl (fun cs q=>if q.2==qe3 then (q.1,(cells.lookup q.1).getD 0)::cs else cs) acc).lookup x).isSome
 | [],acc,x,h=>by simpa using h
 | y::r,acc,x,h=>by
  simp only [qi1];refine lB ?_;rcases h with h | h
  . rcases qb6.mp h with e | h
    . subst e;right;simp [qg4]
    . exact .inl h
  . right;split
    . rw [qg4];split
      . rfl
      . exact h
    . exact h
theorem oo (h:(x,qe3)∈names):∃ c,(dJ names cells).lookup x=some c:=qs7.mp (lB (.inl h))
structure CmpScope (N:List Str) (outer scope:Scope) (M:List Str) (src:List (Option Nat)):Prop where
 kind:scope.kind=.function
 nocell:∀ y∈scope.names,y.2≠.cell
 free:∀ y∈scope.names,y.2=.free->outer.names.lookup y.1=some .cell∨outer.names.lookup y.1=some .free
 names:∀ y∈scope.names,y.2=.local->scope.names.lookup y.1=some .local
 lf:∀ y∈scope.names,y.2=.free->scope.names.lookup y.1=some .free
 len:M.length=src.length
 nd:M.Nodup
 src:∀ p∈M.zip src,∀ j∈p.2,N[j]?=some p.1/\(p.1,qe3)∈scope.names
df stC (src:List (Option Nat)) (σ:St):St:=src.map fun o=>o.bind fun j=>(σ[j]?).join
df cxC (X:Cx) (M:List Str) (scope:Scope) (C:Addr) (s:qa4) (H:Hp) (ex:List Addr):Cx:={X with N:=M,s₀:=s,H₀:=H,env:=compEnvC scope (dJ scope.names X.env.cells) C X.env,outer:=X.stack,ex:=ex,fn:=fun _=>false,pn:=[],xe:=fun _ _=>False}
df PTs (X:Cx) (ifs:List Expr) (t:TT):Prop:=
 ∀ (pins:List (Addr×Obj)) (s:qa4) (σ:St) (H:Hp) (Q:Bool->Hp->Prop),Inv X pins σ H s->t σ H Q→
  wpAny \4 X.A (forIn ifs true fun c r=>if r=true then do let ok <- isTrue c X.env (eval c X.env);pure (qq3 ok) else pure (qq3 r)) (TP X pins σ Q) X.xe s
df tYes:TT:=fun _ H Q=>Q true H
theorem rB:PTs X [] tYes:=fun pins s σ H Q I h=>wpAny_tests_nil ⟨H,I,h⟩
theorem yh {c:Expr} {t:TT} (h:PT X c t):PTs X [c] t:=fun pins s σ H Q I q=>wpAny_tests_one (h pins s σ H Q I q)
df Wk (a b:St):Prop:=a.length=b.length/\∀ (i:Nat) v,a[i]?=some (some v)->b[i]?=some (some v)
df lC (src:List (Option Nat)) (wi:TI) (g:TG) (tt:TT) (te:TE):TE:=fun σ H Q=>wi σ H fun J H1=>∀ D,H1 D=none->∃ W:Nat->Nat->Hp->Prop,(∃ m,W 0 m (upd H1 D (.lst [])))/\∀ i m H,W i m H→
 (J.stop i H/\Q (.ref D) H)∨(J.go i H/\∃ N:Hp->Prop,(∀ H',N H'->∃ U,U<m/\W (i+1) U H')/\∀ x H',J.yld i H x H'→
  g x (stC src σ) H' fun q H2=>Wk (stC src σ) q/\tt q H2 fun b Y=>if b=true then te q Y fun v O=>∃ ys,O D=some (.lst ys)/\ys.length<qb2/\N (upd O D (.lst (ys++[v]))) else N Y)
variable {w:World} {pos:Pos}
theorem io {prog:qc9} {R:Result->qa4->Prop} {elt q iter:Expr} {ifs:List Expr} {it acc:Value} (I:Nat->qa4->Prop)
 (turn:∀ n s,I n s->wpAny (model prog w) A (qz0 it) (fun r O=>match r with
 | none=>R (.ok .next) O
 | some v=>wpAny (model prog w) A (qx5 q it v) (fun _ U=>wpAny (model prog w) A (ze0 q env v) (fun _ Y =>
 wpAny (model prog w) A (forIn ifs true fun c r=>if r=true then do let ok <- isTrue c env (eval c env);pure (qq3 ok) else pure (qq3 r)) (fun ok s₃ =>
 if ok=true then wpAny (model prog w) A (eval elt env) (fun x s₄ =>
 wpAny (model prog w) A (call (.builtin "list.append") [acc,x]) (fun _ s₅=>∃ m,m<n/\I m s₅) (fun _ _=>False) s₄) (fun _ _=>False) s₃
 else ∃ m,m<n/\I m s₃) (fun _ _=>False) Y) (fun _ _=>False) U) (fun _ _=>False) O) (fun _ _=>False) s)
 (n:Nat) (h:I n s) :
  qr4 (model prog w) A (.compLoop (.ListComp elt [⟨q,iter,ifs,0⟩] scope pos) 0 it acc env) R s:=by
 refine codeAny_loop rfl I (fun n s hI=>?_) n h;show wpAny _ A ((compTurn (.ListComp elt [⟨q,iter,ifs,0⟩] scope pos) 0 it acc env).onRaise (fun x=>do noteFrame x env;theTreesLotGoes x)) _ _ s;refine wpAny_noted ?_;rw [compTurn_list];refine wB (zb3 (wB (ql6 (turn n s hI) (fun r O W=>?_) fun _ _ h'=>h'.elim)));cases r with
 | none=>exact qa3 W
 | some v =>
  refine wB (ql6 W (fun _ U Z=>?_) fun _ _ h'=>h'.elim);refine wB (ql6 Z (fun _ Y h₂=>wB (ql6 h₂ (fun ok s₃ h₃=>?_) fun _ _ h'=>h'.elim)) fun _ _ h'=>h'.elim);cases ok with
  | false=>exact qa3 ⟨rfl,h₃⟩
  | true =>exact wB (wB (ql6 h₃ (fun x s₄ h₄=>wB (ql6 h₄ (fun _ s₅ h₅=>qa3 (qa3 ⟨rfl,h₅⟩)) fun _ _ h'=>h'.elim)) fun _ _ h'=>h'.elim))
variable {σ:St}
section
variable {X:Cx} {elt tg iter:Expr} {ifs:List Expr} {scope:Scope} {pos:Pos} {M:List Str} {src:List (Option Nat)} {wi:TI} {g:TG} {tt:TT} {te:TE}
theorem mM (Z:∀ y∈scope.names,y.2≠.cell) (h:(relabel scope env).names.lookup x=some .cell∨(relabel scope env).names.lookup x=some .free):(x,qe3)∈scope.names:=by
 have q:∀ k,(relabel scope env).names.lookup x=some k->(k=.cell∨k=.free)->(x,qe3)∈scope.names:=by
  intro k hk O;have Y:=PySem.mem_of_lookup hk;unfold relabel at Y;obtain ⟨⟨n,k0⟩,U,e⟩:=qd1.mp Y;dsimp only at e;split at e
  . rename_i W;simp only [qb4] at W;have:k0=.free:=by simpa using W.1.1
    subst this;cases e;exact U
  . cases e;rcases O with z | z
    . subst z;exact absurd rfl (Z _ U)
    . subst z;exact U
 rcases h with h | h
 . exact q _ h (.inl rfl)
 . exact q _ h (.inr rfl)
theorem oq {pins:List (Addr×Obj)} {s1:qa4} {fp:List Addr} {m1:Str->Option Value} (S:CmpScope X.N X.env.scope scope M src) (I:Inv X pins σ H s) (hf:∀ b∈fp,gB X pins H b)
 (hfl:∀ b∈fp,b<s.heap.objs.size) (hn:s1.heap.Ns s.heap.objs.size m1) (hk:∀ b o,s.heap.get? b=some o->s1.heap.get? b=some o) (hos:s1.os=s.os) (hg:s1.gens=s.gens) :
  Inv (cxC X M scope s.heap.objs.size s H fp) [] (stC src σ) H s1:=by
 have Z:∀ x∈scope.names,x.2=.free->∃ c,X.env.cells.lookup x.1=some c:=fun x hx W=>I.ok.has x.1 (S.free x hx W)
 have O:∀ x c,(dJ scope.names X.env.cells).lookup x=some c->X.env.cells.lookup x=some c:=fun x c h=>fK Z h
 have Y:∀ c v,s.heap.IsCell c v->s1.heap.IsCell c v:=fun c v ⟨o,ho,hd⟩=>⟨o,hk c o ho,hd⟩
 refine ⟨⟨I.ok.mod,S.kind,I.ok.glob,I.ok.blt,nL _,fun y z c h1 h2=>I.ok.inj y z c (O _ _ h1) (O _ _ h2),fun x hx=>oo (mM S.nocell hx),fun x c h=>(nomatch h),I.ok.hd,I.ok.frames,.inl rfl,
  fun b hb=>⟨qc0 (hfl b hb),fun x c h=>(hf b hb).2.2.2.2.1 x c (O _ _ h)⟩,I.bs,qc3 I.ok.bsz I.sz,fun b o e hb=>?_,fun b hb z=>?_,I.stack,I.stkFree,fun p hp=>I.base.cts _ _ (I.ok.tb p hp)⟩,
  hos,(by rw [hg];exact I.bare),Un.kept hk,⟨m1,hn,fun i x v h1 h2 h3=>?_⟩,fun x c h=>?_,I.hok.fresh (qu2 _),fun x c h=>I.freeC x c (O _ _ h),fun p hp=>absurd hp (by simp [cxC]),I.hok.kept hk,?_⟩
 . rcases (hf b hb).2.2.2.1 with z | z
   . exact I.ok.noex b o e z
   . exact absurd (qb7 (qa9 e) (qc3 I.ok.bsz z)) (qp1 _)
 . rcases qb6.mp (I.stkSub b z) with q | q
   . exact (hf b hb).2.1 q
   . exact (hf b hb).2.2.1 q
 . -- a name taken over
   have h1:M[i]?=some x:=h1;unfold stC at h2;rw [qb0] at h2;cases hs:src[i]? with
   | none=>rw [hs] at h2;cases h2
   | some o =>
    rw [hs] at h2;simp only [qd2,qi3] at h2;cases o with
    | none=>cases h2
    | some j =>
     simp only [qa0] at h2
     have hmem:(x,some j)∈M.zip src:=by
      have:(M.zip src)[i]?=some (x,some j):=by rw [qr8];exact ⟨h1,hs⟩
      exact qd3 this
     obtain ⟨hN,W⟩:=S.src _ hmem j rfl
     have hσ:σ[j]?=some (some v):=by
      cases e:σ[j]? with
      | none=>rw [e] at h2;cases h2
      | some o=>rw [e] at h2;simp only [qp4] at h2;rw [h2]
     have U:=S.free _ W rfl;obtain ⟨m,hm,hl⟩:=I.loc;obtain ⟨u,r,l⟩:=hl j x v hN hσ (.inr U);refine ⟨u,r,?_⟩
     have hloc:X.env.kindOf x≠some .local:=by show X.env.scope.names.lookup x≠_;rcases U with q | q<;>rw [q]<;>decide
     rcases l with l | ⟨_,c,e,z⟩
     . exact absurd l.1 hloc
     . obtain ⟨c',e'⟩:=oo (cells:=X.env.cells) W;have:=O _ _ e';rw [e] at this;cases this;refine .inr ⟨?_,c,e',Y _ _ z⟩;rcases h3 with q | q
       . exact absurd q (by
          -- a name that is free in the block is not local there
          exact (by
           intro q
           have:scope.names.lookup x=some .local:=by
            have hb:∀ (names:List (Str×qq0)),(names.map fun (n,k)=>if (k==qe3&&X.env.scope.kind==.function&&X.env.kindOf n==some .cell) then (n,qq0.cell) else (n,k)).lookup x=some .local->names.lookup x=some .local:=by
             intro names;induction names with
             | nil=>intro h;simp at h
             | cons y r ih =>
              obtain ⟨n,k⟩:=y;intro h;simp only [qa7] at h;by_cases hx:x=n
              . subst hx;split at h
                . simp [qg4] at h
                . simpa [qg4] using h
              . have hx':(x==n)=false:=by simpa using hx
                split at h
                . simp only [qg4,hx'] at h ⊢;exact ih h
                . simp only [qg4,hx'] at h ⊢;exact ih h
            exact hb _ q
           rw [S.lf _ W rfl] at this;cases this))
       . exact q
 . obtain ⟨v,z⟩:=I.cell x c (O _ _ h);exact ⟨v,Y _ _ z⟩
 . show (stC src σ).length=M.length;unfold stC;rw [qa2,S.len]
theorem ou (S:CmpScope X.N X.env.scope scope M src) (hc:X.calm=true) (hi:PI X tg iter wi) (hg:M.Nodup->∀ C s H ex,PG #h tg g) (ht:∀ C s H ex,PTs #h ifs tt)
  (he:∀ C s H ex,PE #h elt te) (hs:∀ x,qg7 iter X.env x=pure x:=by intro _;rfl) :
  PE X \9 (lC src wi g tt te):=by
 intro pins s σ H Q I h;rw [eval_ListComp];have hcells:∀ x∈scope.names,x.2=.free->∃ c,X.env.cells.lookup x.1=some c:=fun x hx hfr=>I.ok.has x.1 (S.free x hx hfr)
 refine za4 (use:=none) rfl hs (gU hcells) S.kind S.names (thn (hi pins s σ H _ I h) fun v s1 h1=>thn h1 fun itv s2 h2=>?_);obtain ⟨it,fp,tn,J,H2,rfl,I2,T,st2,f2,hq⟩:=h2;refine qd7 ?_;have I3:Inv X pins σ (upd H2 s2.heap.objs.size (.lst [])) {s2 with heap:=s2.heap.push {cls:=.type "list",dict:=none,data:=.seq ([]:List Value).toArray},toks:=s2.toks}:=I2.lnew (its:=[]) (ys:=[]) (t':=s2.toks) .nil \5;have hD:H2 s2.heap.objs.size=none:=I2.fresh;obtain ⟨W,⟨m0,w0⟩,turn⟩:=hq _ hD;generalize hDn:s2.heap.objs.size=D at*
 generalize hs3:({s2 with heap:=s2.heap.push {cls:=.type "list",dict:=none,data:=.seq ([]:List Value).toArray},toks:=s2.toks}:qa4)=Z at*
 have f3:∀ b∈fp,gB X pins (upd H2 D (.lst [])) b:=fun b O=>⟨by obtain ⟨o,e,_⟩:=T.obj _ _ st2 b O;rw [ap (by rw [<- hDn];exact qc0 (qa9 e))];exact (f2 b O).1,(f2 b O).2⟩
 have k23:∀ b o,s2.heap.get? b=some o->Z.heap.get? b=some o:=fun b o e=>by rw [<- hs3];exact gP _ e
 have st3:tn 0 Z.heap:=T.keep _ _ _ st2 fun b _ o e=>k23 b o e
 have fl3:∀ b∈fp,b<Z.heap.objs.size:=fun b O=>by obtain ⟨o,e,_⟩:=T.obj _ _ st3 b O;exact qa9 e
 refine wpAny_newFunctionEnv S.nocell (by intro y hy;simp at hy) (fun h₁ hns₁ hsb₁=>?_) S.kind;have k34:∀ b o,Z.heap.get? b=some o->h₁.get? b=some o:=fun b o e=>hsb₁.extBut b o (qc0 (qa9 e)) (gP _ e)
 generalize hs4:({Z with heap:=h₁,toks:=Z.toks+([]:List (Str×Value)).length}:qa4)=s4
 have I4:Inv (cxC X M scope Z.heap.objs.size Z (upd H2 D (.lst [])) fp) [] (stC src σ) (upd H2 D (.lst [])) s4:=by rw [<- hs4];exact oq S I3 f3 fl3 hns₁ k34 rfl rfl
 have st4:tn 0 s4.heap:=T.keep _ _ _ st3 fun b _ o e=>by rw [<- hs4];exact k34 b o e
 generalize U:cxC X M scope Z.heap.objs.size Z (upd H2 D (.lst [])) fp=Y at*
 have hg':PG Y tg g:=by rw [<- U];exact hg S.nd _ _ _ _
 have ht':PTs Y ifs tt:=by rw [<- U];exact ht _ _ _ _
 have he':PE Y elt te:=by rw [<- U];exact he _ _ _ _
 have eP:Y.prog=X.prog:=by rw [<- U];rfl
 have eW:Y.w=X.w:=by rw [<- U];rfl
 have eK:Y.K=X.K:=by rw [<- U];rfl
 have eA:Y.A=X.A:=by rw [<- U];rfl
 have ex':Y.xe=fun _ _=>False:=by rw [<- U];rfl
 have ec:Y.calm=true:=by rw [<- U];exact hc
 have eE:Y.env=compEnvC scope (dJ scope.names X.env.cells) Z.heap.objs.size X.env:=by rw [<- U];rfl
 have stat:∀ {H':Hp},(∀ b∈fp,H' b=none)->∀ b∈fp,gB Y [] H' b:=fun hn b O=>by
  rw [<- U];refine ⟨hn b O,qc0 (fl3 b O),fun z=>?_,.inl O,fun x c h=>(f3 b O).2.2.2.2.1 x c (fK hcells h),fun p hp=>absurd hp (by simp [cxC])⟩;rcases qb6.mp (I3.stkSub b z) with q | q
  . exact (f3 b O).2.1 q
  . exact (f3 b O).2.2.1 q
 -- behind the block
 have fin:∀ (H':Hp) (s':qa4),Inv Y [] (stC src σ) H' s'->Q (.ref D) H'->zg0 \4 X.A X.xe none (EP X pins σ Q) (.ref D) Z.heap.objs.size (.ok .next) s':=by
  intro H' s' J' q;rw [<- U] at J';obtain ⟨m,hn,_⟩:=id J'.loc;refine ⟨m,hn,fun h' sb=>⟨.ref D,H',?_,rfl,q⟩⟩;have hC:H' Z.heap.objs.size=none:=J'.free;have un:Un (frs X.stack) fp (upd H2 D (.lst [])) H' Z.heap s'.heap:=J'.base;have kC:∀ b o,b≠Z.heap.objs.size->s'.heap.get? b=some o->h'.get? b=some o:=fun b o O e=>sb.extBut b o O e
  have un':Un (frs X.stack) fp (upd H2 D (.lst [])) H' Z.heap h':=
   ⟨fun b o e n O hx=>kC b o (qc0 (qa9 e)) (un.keep b o e n O hx),
    fun b o e n O hx=>by obtain ⟨sl,e'⟩:=un.slot b o e n O hx;exact ⟨sl,kC b _ (qc0 (qa9 e)) e'⟩,
    un.free,
    fun b o e hx=>by obtain ⟨o',e'⟩:=un.there b o e hx;exact ⟨o',kC b _ (qc0 (qa9 e)) e'⟩,un.tups,un.frzs,un.tbls,un.cts⟩
  have hok':HOk X.prog X.w H' h':=fun b u e=>by
   have nb:b≠Z.heap.objs.size:=fun z=>by rw [z,hC] at e;cases e
   refine (J'.hok b u e).stay (fun c v hc' q=>kC c v ?_ q) (fun _ q=>q) (fun _ _ q=>q) fun _ _ _ q=>q
   rcases hc' with z | z
   . rw [z];exact nb
   . intro w;rw [w,hC] at z;cases z
  exact I3.call' (s':={s' with heap:=h'}) (show s'.os=Z.os from J'.os) un' hok' J'.bare fun b O=>⟨(f3 b O).2.2.2.1,(f3 b O).2.1,(f3 b O).2.2.2.2.1,(f3 b O).2.2.2.2.2⟩
 have loop:∀ s4':qa4,s4'=s4->qr4 \4 X.A (.compLoop \9 0 (.ref it) (.ref D) Y.env) (zg0 \4 X.A X.xe none (EP X pins σ Q) (.ref D) Z.heap.objs.size) s4':=by
  rintro _ rfl;refine io (fun n s'=>∃ i H',Inv Y [] (stC src σ) H' s'/\tn i s'.heap/\(∀ b∈fp,H' b=none)/\W i n H') ?_ m0 ⟨0,_,I4,st4,fun b O=>(f3 b O).1,w0⟩;rintro n s5 ⟨i,H5,I5,st5,fr5,w5⟩;rcases turn i n H5 w5 with ⟨stop,qn⟩ | ⟨go,N,hN,step⟩
  . have:=T.done Y eP eW eK ec i [] s5 (stC src σ) H5 (fun _ _=>False) I5 (stat fr5) st5 stop;rw [eA] at this;refine thn this fun r s6 ⟨hr,I6⟩=>?_
    subst hr;exact fin H5 s6 I6 qn
  . have:=T.item Y eP eW eK ec i [] s5 (stC src σ) H5 (fun _ _=>False) I5 (stat fr5) st5 go;rw [eA] at this;refine thn this fun r s6 ⟨u,hr,h6⟩=>?_
    subst hr;refine thn h6 fun _ s7 ⟨x,H7,I7,r7,y7,st7,fr7⟩=>?_
    have I7':=I7.pinned (stat fr7) (T.obj _ _ st7);have a1:=hg' _ s7 (stC src σ) H7 x u _ I7' r7 (step x H7 y7);rw [ex',eP,eW,eA] at a1;refine thn a1 fun _ s8 ⟨σ8,H8,I8,wk8,q8⟩=>?_
    have a2:=ht' _ s8 σ8 H8 _ I8 q8;rw [ex',eP,eW,eA] at a2;refine thn a2 fun ok s9 ⟨H9,I9,q9⟩=>?_
    have again:∀ {H7':Hp} {s':qa4},Inv Y ([]++iR fp s7.heap) σ8 H7' s'->N H7'->∃ m,m<n/\∃ i H',Inv Y [] (stC src σ) H' s'/\tn i s'.heap/\(∀ b∈fp,H' b=none)/\W i m H':=fun {H7' s'} J7 n7=>by obtain ⟨m',hm,w7⟩:=hN H7' n7;refine ⟨m',hm,i+1,H7',J7.unpinned.weak wk8.1 wk8.2,T.keep _ _ _ st7 fun b O o e=>(J7.pin (b,o) (qc8 _ (qc8 _ (cC O e)))).1,fun b O=>?_,w7⟩;obtain ⟨o,e,d⟩:=T.obj _ _ st7 b O;exact (J7.pin (b,o) (qc8 _ (qc8 _ (cC O e)))).2.1
    cases ok with
    | false=>exact again I9 q9
    | true =>
     have a3:=he' _ s9 σ8 H9 _ I9 q9;rw [ex',eP,eW,eA] at a3;refine thn a3 fun v s10 ⟨y,H10,I10,r10,ys,hl,hz,q10⟩=>?_
     have a4:=gk (X:=Y) _ s10 σ8 H10 (.ref D) [y] (.ref D) [v] (fun _ H'=>N H') I10 rfl (.cons r10 .nil) ⟨D,ys,y,rfl,rfl,hl,hz,q10⟩;rw [ex',eP,eW,eA] at a4;refine thn a4 fun _ s11 ⟨_,H11,I11,_,q11⟩=>?_
     exact again I11 q11
 have e4:∀ c:Env,c=Y.env->qr4 \4 X.A (.compStart \9 0 (.ref it) (.ref D) c) (zg0 \4 X.A X.xe none (EP X pins σ Q) (.ref D) Z.heap.objs.size) s4:=by rintro _ rfl;exact zd1 (loop _ rfl) (T.self _ _ _ _ _ st4 (loop _ rfl))
 exact e4 _ (by rw [eE];rfl)
end
df Its (x:Str):It:=⟨fun i _=>i<x.cps.size,fun i H v H'=>H'=H/\∃ c,x.cps[i]?=some c/\v=.str ⟨#[c]⟩,fun i _=>i=x.cps.size⟩
variable {P:qc9} {tg:Expr}
theorem tX (x:Str) (t:Tok) (it:Addr):Turn P w K tg (Its x) [it] it (fun i h=>h.IsStrIter it "str_ascii_iterator" x t i) where
 mem:=by simp
 obj:=fun i h st b O=>by
  have e:b=it:=by simpa using O
  subst e;obtain ⟨o,e,c,d⟩:=st;exact ⟨o,e,fun v z=>by rw [d] at z;cases z⟩
 keep:=fun i h h' st k=>let ⟨o,ho,r⟩:=st;⟨o,k it \5 o ho,r⟩
 item:=by
  intro X hP hw hK hc i pins s σ H E I W st q;subst hP hw hK;obtain ⟨f0,f1,f2,f3,Y,Z⟩:=W it \5;have q:i<x.cps.size:=q;refine wpAny_pyNext_ascii_item st (c:=x.cps[i]) (by simp [q]) fun h' U sb=>?_
  have I1:Inv X pins σ H {s with heap:=h',toks:=s.toks+1}:=I.turned (t':=s.toks+1) (fun b o O e=>(sb.2 b O).trans e) f0 f1 f3 Y Z;obtain ⟨o,e,c,d⟩:=id U;exact ⟨_,rfl,nZ (s:={s with heap:=h',toks:=s.toks+1}) e c d \7 ⟨.str ⟨#[x.cps[i]]⟩,H,I1,⟨_,rfl⟩,⟨rfl,x.cps[i],by simp [q],rfl⟩,U,fun b O=>(W b O).1⟩⟩
 done:=by intro X hP hw hK hc i pins s σ H E I W st q;subst hP hw hK;have q:i=x.cps.size:=q;obtain ⟨f0,f1,f2,f3,Y,Z⟩:=W it \5;exact wpAny_pyNext_ascii_end (I.ok.hd hc) st (by simp [q]) fun h' eb=>⟨rfl,I.turned (t':=s.toks) (fun b o O e=>eb b o O e) f0 f1 f3 Y Z⟩
 self:=fun _ _ _ _ _ st h=>wpAny_pyIter_striter_ascii st h
theorem tY (x:Str) (t:Tok) (it:Addr):Turn P w K tg (Its x) [it] it (fun i h=>h.IsStrIter it "str_iterator" x t i) where
 mem:=by simp
 obj:=fun i h st b O=>by
  have e:b=it:=by simpa using O
  subst e;obtain ⟨o,e,c,d⟩:=st;exact ⟨o,e,fun v z=>by rw [d] at z;cases z⟩
 keep:=fun i h h' st k=>let ⟨o,ho,r⟩:=st;⟨o,k it \5 o ho,r⟩
 item:=by
  intro X hP hw hK hc i pins s σ H E I W st q;subst hP hw hK;obtain ⟨f0,f1,f2,f3,Y,Z⟩:=W it \5;have q:i<x.cps.size:=q;refine wpAny_pyNext_wide_item st (c:=x.cps[i]) (by simp [q]) fun h' U sb=>?_
  have I1:Inv X pins σ H {s with heap:=h',toks:=s.toks+1}:=I.turned (t':=s.toks+1) (fun b o O e=>(sb.2 b O).trans e) f0 f1 f3 Y Z;obtain ⟨o,e,c,d⟩:=id U;exact ⟨_,rfl,nZ (s:={s with heap:=h',toks:=s.toks+1}) e c d \7 ⟨.str ⟨#[x.cps[i]]⟩,H,I1,⟨_,rfl⟩,⟨rfl,x.cps[i],by simp [q],rfl⟩,U,fun b O=>(W b O).1⟩⟩
 done:=by intro X hP hw hK hc i pins s σ H E I W st q;subst hP hw hK;have q:i=x.cps.size:=q;obtain ⟨f0,f1,f2,f3,Y,Z⟩:=W it \5;exact wpAny_pyNext_wide_end (I.ok.hd hc) st (by simp [q]) fun h' eb=>⟨rfl,I.turned (t':=s.toks) (fun b o O e=>eb b o O e) f0 f1 f3 Y Z⟩
 self:=fun _ _ _ _ _ st h=>wpAny_pyIter_striter_wide st h
section
variable {X:Cx} {tg:Expr}
df iStr (tl:TE):TI:=fun σ H R=>tl σ H fun v H1=>∃ x,v=.str x/\R (Its x) H1
theorem u9 {l:Expr} {tl:TE} (W:PE X l tl):PI X tg l (iStr tl):=by
 intro pins s σ H R I h;refine thn (W pins s σ H _ I h) fun v s1 ⟨y,H1,O,Y,q1⟩=>?_
 obtain ⟨x,e,q⟩:=q1;subst e;obtain ⟨t,rfl⟩:=Y
 have fin:∀ b∈[s1.heap.objs.size],gB X pins H1 b:=fun b Z=>by
  have e:b=s1.heap.objs.size:=by simpa using Z
  subst e;exact O.fpOk (nL _) (O.hok.fresh (nL _))
 cases U:x.cps.all (· < 128)
 . refine wpAny_pyIter_wide U ?_;exact ⟨s1.heap.objs.size,[s1.heap.objs.size],_,_,H1,rfl,O.kept (t':=s1.toks) fun b o e=>gP _ e,tY x t _,⟨_,qb1 _ rfl,rfl,rfl⟩,fin,q⟩
 . refine wpAny_pyIter_ascii U ?_;exact ⟨s1.heap.objs.size,[s1.heap.objs.size],_,_,H1,rfl,O.kept (t':=s1.toks) fun b o e=>gP _ e,tX x t _,⟨_,qb1 _ rfl,rfl,rfl⟩,fin,q⟩
theorem jU:∀ {bs:List Bool} {us:List Value},Vals (bs.map V.bl) us->us=bs.map qw9
 | [],_,.nil=>rfl
 | b::r,_,.cons h t=>by have h:_=qw9 b:=h;rw [h,jU t];rfl
theorem tZ {bs:List Bool}:(qc1 bs.length).map (fun i=>bs.getD i false)=bs:=by
 apply qv7
 . simp
 . intro i h1 h2;simp at h1;simp [h1]
theorem ox (Y:X.calm=true):bX X (.builtin "all") (fun xs H Q=>∃ (a:Addr) (bs:List Bool),xs=[.ref a]/\SqL X.K H a (bs.map V.bl)/\Q (.bl (bs.all id)) H):=by
 intro pins s σ H xs us Q I r h;obtain ⟨a,bs,rfl,hq,q⟩:=h;obtain ⟨u,rfl,ru⟩:=gF r;cases ru;obtain ⟨its,rv,p,hz⟩:=I.list hq;have eu:=jU rv;subst eu
 have W:a≠s.heap.objs.size:=by obtain ⟨o,n,e,_⟩:=p;exact qc0 (qa9 e)
 refine call_all_walk (za1 p.isList ⟨s.heap.objs.size,_,_,_,_,_,fun i=>bs.getD i false,rfl,Walks.list (A:=X.A.in1) (I.ok.hd Y) _ a W (bs.map qw9).toArray,⟨⟨_,qb1 _ rfl,rfl,rfl⟩,?_⟩,?_,?_⟩)
 . obtain ⟨o,Z,hr⟩:=p.isList;exact ⟨o,gP _ Z,hr⟩
 . intro i v s' Q' E' O U;rw [List.getElem?_toArray,qb0] at O;cases e:bs[i]? with
   | none=>rw [e] at O;cases O
   | some b =>rw [e] at O;cases O;refine ql7 ?_;dsimp only at U;rw [qb3,e] at U;exact U
 . intro h' tk hk;refine ⟨.bl _,H,I.kept (h':=h') (t':=tk) fun b o e=>hk b o (fun z=>?_) (gP _ e),rfl,?_⟩
   . have z:b=s.heap.objs.size:=by simpa using z
     subst z;exact absurd (qa9 e) (qp1 _)
   . have e:(qc1 (bs.map qw9).toArray.size).all (fun i=>bs.getD i false)=bs.all id:=by
      conv=>rhs;rw [<- tZ (bs:=bs)]
      rw [List.all_map];simp
     rw [e];exact q
theorem lD:∀ {ts:List Str} {us:List Value},Vals (ts.map V.str) us->∃ l,us=strValues l/\l.map (·.1)=ts
 | [],_,.nil=>⟨[],rfl,rfl⟩
 | x::r,_,.cons h t=>by obtain ⟨tk,rfl⟩:=h;obtain ⟨l,q,e2⟩:=lD t;exact ⟨(x,tk)::l,by rw [q];rfl,by rw [<- e2];rfl⟩
theorem yi:MtR X "str.join" (fun x vs H Q=>∃ (a:Str) (l:Addr) (ts:List Str),x=.str a/\vs=[.ref l]/\SqL X.K H l (ts.map V.str)/\JoinOk a ts=true/\Q (.str (Txt.join a ts)) H):=by intro pins s σ H x vs v us Q I W U h;obtain ⟨a,l,ts,rfl,rfl,Z,O,q⟩:=h;obtain ⟨t,rfl⟩:=W;obtain ⟨u,rfl,Y⟩:=U.one;cases Y;obtain ⟨its,r,p,hz⟩:=I.list Z;obtain ⟨ls,rfl,e2⟩:=lD r;exact SC.join p.isList e2 O fun t' k=>⟨.str _,H,I.tok _,⟨_,rfl⟩,q⟩
theorem rC {v:Value} {o:Option Int} (h:zg5 v o):∃ p:Option (Int×Tok),v=partValue p/\o=p.map (·.1):=by
 cases o with
 | none=>exact ⟨none,by cases h<;>rfl,rfl⟩
 | some i =>cases h;exact ⟨some (i,_),rfl,rfl⟩
df rSlS:V->Option Int->Option Int->Hp->VK->Prop:=fun x lo hi H Q=>∃ z,x=.str z/\z.length<=qb2/\Q (.str (Txt.slice z lo hi)) H
theorem BC:SlR X rSlS:=by intro pins s σ H x v vl vu lo hi sl Q I Z U O W h;obtain ⟨z,rfl,Y,q⟩:=h;obtain ⟨t,rfl⟩:=Z;obtain ⟨l,rfl,rfl⟩:=rC O;obtain ⟨u,rfl,rfl⟩:=rC W;refine ⟨"str",_,F.slot_str_getitem.lookup,typeIs_str _ _ _,?_⟩;exact wpAny_getItem_str_slice (l:=l) (u:=u) (st:=none) U rfl (post_val_or_str ⟨qc3 (Txt.slice_le z _ _) Y,fun t' k=>⟨.str _,H,I.tok _,⟨_,rfl⟩,q⟩⟩)
end
theorem vc:qd6 "len"=some (.builtin "len"):=by first | exact PySem.boot_len | exact PyProof.Rows.boot_len | decide +kernel
theorem vd:qd6 "all"=some (.builtin "all"):=by first | exact PySem.boot_all | exact PyProof.Rows.boot_all | decide +kernel
theorem lg:qd6 "isinstance"=some (.builtin "isinstance"):=by first | exact PySem.boot_isinstance | exact PyProof.Rows.boot_isinstance | decide +kernel
theorem p5:qd6 "max"=some (.builtin "max"):=by first | exact PySem.boot_max | exact PyProof.Rows.boot_max | decide +kernel
theorem BD:qd6 "min"=some (.builtin "min"):=by first | exact PySem.boot_min | exact PyProof.Rows.boot_min | decide +kernel
theorem ve:qd6 "int"=some (.type "int"):=by first | exact PySem.boot_int | exact PyProof.Rows.boot_int | decide +kernel
theorem yj:qd6 "bool"=some (.type "bool"):=by first | exact PySem.boot_bool | exact PyProof.Rows.boot_bool | decide +kernel
theorem oy:qd6 "tuple"=some (.type "tuple"):=by first | exact PySem.boot_tuple | exact PyProof.Rows.boot_tuple | decide +kernel
theorem gl:qd6 "list"=some (.type "list"):=by first | exact PySem.boot_list | exact PyProof.Rows.boot_list | decide +kernel
theorem mN:qd6 "enumerate"=some (.type "enumerate"):=by first | exact PySem.boot_enumerate | exact PyProof.Rows.boot_enumerate | decide +kernel
structure OkF (P:qc9) (w:World) (K:PySem.W.Frag) (mg:Str->Option Value) (base:Heap) (x:Str) (k:Nat) (ps:List Str) (sp:Sp):Prop where
 ex:∃ f fd,mg x=some (.ref f)/\PySem.W.keepIn K (.ref f)=true/\Binds K fd ps []/\FnOk P w K mg base CX0 k f fd ps sp
structure DefF (K:PySem.W.Frag) (mg:Str->Option Value) (x:Str) (st:Stmt) (ps:List Str):Prop where
 ex:∃ f fd,mg x=some (.ref f)/\PySem.W.keepIn K (.ref f)=true/\Binds K fd ps []/\Fun K x x st f fd
section
variable {P:qc9} {w:World} {K:PySem.W.Frag} {mg:Str->Option Value} {base:Heap}
theorem DefF.ok {k:Nat} (F:DefF K mg x st ps) (S:FnScope N ps (ac st)) (O:∀ vs H Q E,sp vs H Q E->vs.length=ps.length)
 (q:∀ (f:Addr) (cdv:Value) (A:qe0) (outer:List Env) (s:qa4) (H:Hp) (vs:List V) (Q:VK) (E:XK),Room k (A.deeper (qz3 x (ac st) s.heap.objs.size f cdv))->sp vs H Q E→
 ∃ t,PSs (jy CX0 P w K mg base N x (ac st) f cdv A outer s H E).nox (aI st) t/\t {nx:=fun _ H'=>Q .non H',rt:=Q} (start N vs) H):OkF P w K mg base x (k+1) ps sp:=by
 obtain ⟨f,fd,h1,h2,h3,U⟩:=F.ex;exact ⟨f,fd,h1,h2,h3,U.ok S O (q f)⟩
theorem DefF.mk' {kV ct:Value} {h:Heap} (X:K.In h) (G:h.Ns qc2 mg)
 (a:PySem.W.nsIn K qc2 x=some (some (.ref f)))
 (l:K.lookup f=some ⟨oc,od,.func (PySem.W.fnOf x x (bu st) (aI st) (ac st) .none kV doc pm an cdv ct),osl⟩) (c:PySem.W.codeIn K cdv x=true) (k:PySem.W.keepIn K (.ref f)=true)
 (q:∀ (kV doc pm:Value) (an:Option Addr) (cdv ct:Value) (us:List Value),us.length=ps.length->zh7 (PySem.W.fnOf x x (bu st) (aI st) (ac st) .none kV doc pm an cdv ct) ⟨us,[]⟩=pure (ps.zip us)):DefF K mg x st ps:=
 ⟨f,_,PySem.W.mg_of X G a,k,(mL l c k).binds q,mL l c k⟩
end
section
variable {X:Cx} {k:Nat} {ps:List Str} {sp:Sp} {x:Str} {p pos:Pos} {e:Expr} {es:List Expr} {t:TA}
theorem vf (F:OkF X.prog X.w X.K X.mg X.base x k ps sp) (Z:Room k X.A) (U:Gl X x) (ha:PA X (e::es) t) (O:(x==("__debug__":Str))=false:=by decide)
  (W:qa6 (e::es) X.env=#a::qa6 es X.env:=by rfl) (q:(qi4 pos (qa6 es X.env)).any (·.1)=false:=by rfl):PE X #b (uW sp [] E0 t):=by
 obtain ⟨f,fd,h1,h2,h3,Y⟩:=F.ex;exact xW Y Z U h1 h2 h3 .nil DM ha O W q
end
df Am (N:List Str) (outer scope:Scope) (M:List Str) (src:List (Option Nat)):Bool:=
 (match scope.kind with | .function=>true | _=>false)&&
 scope.names.all (fun y=>decide (y.2≠.cell))&&
 scope.names.all (fun y=>!decide (y.2=.free)||(decide (outer.names.lookup y.1=some .cell)||decide (outer.names.lookup y.1=some .free)))&&
 scope.names.all (fun y=>!decide (y.2=.local)||decide (scope.names.lookup y.1=some .local))&&
 scope.names.all (fun y=>!decide (y.2=.free)||decide (scope.names.lookup y.1=some .free))&&
 decide (M.length=src.length)&&decide M.Nodup&&
 (M.zip src).all (fun p=>match p.2 with | none=>true | some j=>decide (N[j]?=some p.1)&&decide ((p.1,qe3)∈scope.names))
variable {src:List (Option Nat)}
theorem CmpScope.of {outer:Scope} {M:List Str} (h:Am N outer scope M src=true):CmpScope N outer scope M src:=by
 unfold Am at h;simp only [qb4,qj2,qk5,qj6,decide_eq_true_eq,decide_eq_false_iff_not] at h;obtain ⟨⟨⟨⟨⟨⟨⟨h1,h2⟩,h3⟩,U⟩,Z⟩,Y⟩,W⟩,h8⟩:=h;refine ⟨?_,h2,fun y q e=>(h3 y q).resolve_left fun z=>z e,fun y q e=>(U y q).resolve_left fun z=>z e,fun y q e=>(Z y q).resolve_left fun z=>z e,Y,W,fun p hp j O=>?_⟩
 . revert h1;cases scope.kind<;>simp
 . have:=h8 p hp;cases e:p.2 with
   | none=>rw [e] at O;cases O
   | some j' =>rw [e] at O this;cases O;simpa using this
df Plain (J:It) (xs:List V) (ok:Hp->Prop):Prop:=∀ i H,ok H->(i<xs.length->J.go i H)/\(i=xs.length->J.stop i H)/\∀ x H',i<xs.length->J.yld i H x H'->H'=H/\xs[i]?=some x
theorem plain_list:Plain (Itl K a) xs (fun H=>SqL K H a xs):=fun i H h =>⟨fun hi=>⟨xs,xs[i],h,by simp [hi]⟩,fun e=>⟨xs,h,by oo⟩,fun x H' _ y=>⟨y.1,y.2 xs h⟩⟩
theorem plain_tup:Plain (Itt K a) xs (fun H=>SqT K H a xs):=fun i H h =>⟨fun hi=>⟨xs,xs[i],h,by simp [hi]⟩,fun e=>⟨xs,h,by oo⟩,fun x H' _ y=>⟨y.1,y.2 xs h⟩⟩
df jV (lo:Int) (n:Nat):List V:=(qc1 n).map fun (i:Nat)=>V.int (lo+i)
theorem plain_range {lo:Int} {n:Nat}:Plain (Itr lo n) (jV lo n) (fun _=>True):=fun i H h=>by
 refine ⟨fun hi=>?_,fun e=>?_,fun x H' hi y=>?_⟩
 . show i<n;simpa [jV] using hi
 . show n<=i;simp [jV] at e;oo
 . obtain ⟨e,rfl⟩:=y;refine ⟨e,?_⟩;unfold jV at hi ⊢;rw [qa2,qu7] at hi;rw [qb0,List.getElem?_range hi];rfl
df rD (x:Str):List V:=x.cps.toList.map fun c=>V.str ⟨#[c]⟩
theorem plain_str:Plain (Its x) (rD x) (fun _=>True):=fun i H h=>by
 refine ⟨fun hi=>?_,fun e=>?_,fun v H' hi y=>?_⟩
 . show i<x.cps.size;simpa [rD] using hi
 . show i=x.cps.size;simpa [rD] using e
 . obtain ⟨e,c,q,rfl⟩:=y;refine ⟨e,?_⟩;unfold rD;rw [qb0,qn1,q];rfl
df An (src:List (Option Nat)) (g:TG) (tt:TT) (te:TE) (σ:St) (J:It) (H1:Hp) (Q:VK) (D:Addr):Prop:=∃ W:Nat->Nat->Hp->Prop,(∃ m,W 0 m (upd H1 D (.lst [])))/\∀ i m H,W i m H→
 (J.stop i H/\Q (.ref D) H)∨(J.go i H/\∃ N:Hp->Prop,(∀ H',N H'->∃ U,U<m/\W (i+1) U H')/\∀ x H',J.yld i H x H'→
  g x (stC src σ) H' fun q H2=>Wk (stC src σ) q/\tt q H2 fun b Y=>if b=true then te q Y fun v O=>∃ ys,O D=some (.lst ys)/\ys.length<qb2/\N (upd O D (.lst (ys++[v]))) else N Y)
variable {wi:TI} {g:TG} {te:TE}
theorem vg {tt:TT} {Q:VK}:lC src wi g tt te σ H Q=wi σ H fun J H1=>∀ D,H1 D=none->An src g tt te σ J H1 Q D:=rfl
df ForW (g:TG) (tb:TS) (D:Ends) (J:It) (σ:St) (H1:Hp):Prop:=∃ W:Nat->Nat->St->Hp->Prop,(∃ m,W 0 m σ H1)/\∀ i m σ H,W i m σ H→ (J.stop i H/\D.nx σ H)∨(J.go i H/\∃ N:St->Hp->Prop,(∀ σ' H',N σ' H'->∃ O,O<m/\W (i+1) O σ' H')/\∀ x H',J.yld i H x H'->g x σ H' fun q H2=>tb {D with nx:=N,ct:=N,bk:=D.nx} q H2)
theorem mO {tb:TS} {D:Ends}:tFor wi g tb D σ H=wi σ H fun J H1=>ForW g tb D J σ H1:=rfl
variable {v:V}
theorem vh (O:Gl X x) (U:∃ u,X.mg x=some u/\RelV v u) (q:(x==("__debug__":Str))=false:=by decide):PE X (.Name x pos) (tC v):=by obtain ⟨u,h1,h2⟩:=U;exact xQ O h1 h2 q
abbrev ip (qual:Str) (scope:Scope) (L f:Addr) (cd:Value) (cl:List (Str×Addr)):Env:=PySem.W.envX qual scope L f cd (qh0 (L+1) scope.names []++cl)
df oz (CX:CXT) (P:qc9) (w:World) (K:PySem.W.Frag) (mg:Str->Option Value) (base:Heap) (N:List Str) (qual:Str) (scope:Scope) (f:Addr) (q:Value) (cl:List (Str×Addr)) (A:qe0) (outer:List Env) (s:qa4) (H:Hp) (E:XK) (xe:Value->qa4->Prop):Cx where
 prog:=P
 w:=w
 K:=K
 mg:=mg
 base:=base
 A:=A.deeper (ip qual scope s.heap.objs.size f q cl)
 N:=N
 s₀:=s
 H₀:=H
 env:=ip qual scope s.heap.objs.size f q cl
 outer:=outer
 stack:=ip qual scope s.heap.objs.size f q cl::outer
 ex:=[]
 calm:=true
 fn:=fun x=>(scope.names.lookup x != some .free)
 pn:=[]
 xe:=xe
structure ClScope (N ps fr:List Str) (sc:Scope):Prop where
 kind:sc.kind=.function
 co:sc.isCoroutine=false
 gen:sc.isGenerator=false
 nd:N.Nodup
 pre:N.take ps.length=ps
 post:N.drop (N.length-fr.length)=fr
 room:ps.length+fr.length<=N.length
 par:∀ x∈ps,sc.names.lookup x=some .local∨sc.names.lookup x=some .cell
 frk:∀ x∈fr,sc.names.lookup x=some .free
 all:∀ x,sc.names.lookup x=some .free->x∈fr
df dk (N:List Str) (vs fs:List V):St:=vs.map some++(qc6 (N.length-vs.length-fs.length) none++fs.map some)
df fj (c:Addr) (o:Obj):HO:=.frz o (.ext fun h=>h.get? c=some o)
df bY (H:Hp) (cl:List (Str×Addr)):Hp:=fun b=>if b∈cl.map (·.2) then none else H b
df dW (H:Hp) (cl:List (Str×Addr)) (H':Hp):Hp:=fun b=>if b∈cl.map (·.2) then H b else H' b
theorem iX {n:Nat} {sc:Scope} (h:sc.names.lookup x≠some .cell) (Z:∀ y∈sc.names,y.1=x->sc.names.lookup x=some y.2):(qh0 n sc.names []).lookup x=none:=by
 have U:∀ (names:List (Str×qq0)) (n:Nat) (acc:List (Str×Addr)),(∀ y∈names,y.1=x->y.2≠.cell)->acc.lookup x=none->(qh0 n names acc).lookup x=none:=fun names=>by
  induction names with
  | nil=>intro n acc _ h;exact h
  | cons y r Y =>
   intro n acc q W;obtain ⟨a,k⟩:=y;unfold qh0;split
   . rename_i hk;refine Y _ _ (fun z O=>q z (.tail _ O)) ?_;rw [qg4];cases hb:x==a with
     | false=>exact W
     | true=>exact absurd (by simpa using hk) (q (a,k) (.head _) (beq_iff_eq.mp hb).symm)
   . exact Y _ _ (fun z O=>q z (.tail _ O)) W
 exact U sc.names n [] (fun y q e hk=>h (by rw [Z y q e,hk])) rfl
structure ClAt (H:Hp) (f:Addr) (name qual:Str) (params:qj4) (body:List Stmt) (scope:Scope) (cl:List (Str×Addr)) (fr:List Str) (fs:List V) (c':Addr) (doc pm ctv:Value) (fo:Obj) (uf:HO):Prop where
 fn:H f=some (.frz fo uf)
 dat:fo.data=.func (PySem.W.fnX name qual params body scope cl .none .none doc pm none (.ref c') ctv)
 cod:∃ oc,H c'=some (.frz oc (.code qual))
 cel:∀ x c,(x,c)∈cl->∃ o u,H c=some (fj c o)/\o.data=.cell (some u)
 inj:∀ x y c,cl.lookup x=some c->cl.lookup y=some c->x=y
 len:fs.length=fr.length
 val:∀ (i:Nat) (x:Str) (v:V),fr[i]?=some x->fs[i]?=some v->∃ c o u,cl.lookup x=some c/\H c=some (fj c o)/\o.data=.cell (some u)/\RelV v u
 nms:∀ x c,cl.lookup x=some c->scope.names.lookup x=some .free
variable {b:Addr}
section
variable {P:qc9} {w:World} {H:Hp} {h:Heap} {cl:List (Str×Addr)}
theorem iq (q:b∈cl.map (·.2)):bY H cl b=none:=if_pos q
theorem aW (q:b∉cl.map (·.2)):bY H cl b=H b:=if_neg q
theorem lE {o:HO} (h:bY H cl b=some o):b∉cl.map (·.2)/\H b=some o:=by
 by_cases q:b∈cl.map (·.2)
 . rw [iq q] at h;cases h
 . rw [aW q] at h;exact ⟨q,h⟩
theorem ir (O:b∈cl.map (·.2)):∃ x,(x,b)∈cl:=by obtain ⟨⟨x,c⟩,q,rfl⟩:=qd1.mp O;exact ⟨x,q⟩
theorem HOk.hide (ok:HOk P w H h) (U:∀ x c,(x,c)∈cl->∃ o u,H c=some (fj c o)/\o.data=.cell (some u)):HOk P w (bY H cl) h:=fun b u e=>by
 obtain ⟨Z,e⟩:=lE e
 have O:∀ c o,H c=some o->(∀ ob φ,o≠.frz ob (.ext φ))->bY H cl c=some o:=fun c o q W=>by
  rw [aW fun z=>?_]
  . exact q
  . obtain ⟨x,Y⟩:=ir z;obtain ⟨ob,u,g,_⟩:=U x c Y;rw [q] at g;exact W _ _ (qd9 g)
 exact (ok b u e).stay (fun _ _ _ q=>q) (fun c q=>O c _ q fun _ _ z=>nomatch z) (fun c xs q=>O c _ q fun _ _ z=>nomatch z) fun c ob xs q=>O c _ q fun _ _ z=>nomatch z
end
section
variable {CX:CXT} {P:qc9} {w:World} {K:PySem.W.Frag} {mg:Str->Option Value} {base:Heap} {N ps fr:List Str} {name qual:Str} {params:qj4} {body:List Stmt} {scope:Scope} {f c':Addr} {cl:List (Str×Addr)} {A:qe0} {outer:List Env} {s s1:qa4} {H:Hp} {E:XK} {us:List Value} {vs fs:List V} {doc pm ctv:Value} {fo:Obj} {uf:HO} {xe:Value->qa4->Prop}
theorem p6 (S:ClScope N ps fr scope) (C:ClAt H f name qual params body scope cl fr fs c' doc pm ctv fo uf) (Y:∀ x,∀ y∈scope.names,y.1=x->scope.names.lookup x=some y.2) (hd:A.handled=none) (e0:Env0 P w K mg base A outer s H) (hl:vs.length=ps.length) (r:Vals vs us)
  (x:ze1 s s.heap.objs.size (bindL (ip qual scope s.heap.objs.size f (.ref c') cl).kindOf (ps.zip us) fun _=>none) (qh0 (s.heap.objs.size+1) scope.names []) (bindC (ip qual scope s.heap.objs.size f (.ref c') cl).kindOf (ps.zip us) fun _=>none) s1) :
  Inv (oz CX P w K mg base N qual scope f (.ref c') cl A outer s (bY H cl) E xe) [] (dk N vs fs) (bY H cl) s1:=by
 obtain ⟨h1,tk,rfl,hk⟩:=x.done;have hplen:ps.length<=N.length:=qc3 (Nat.le_add_right _ _) S.room
 have own:∀ y c,(qh0 (s.heap.objs.size+1) scope.names []).lookup y=some c->scope.names.lookup y=some .cell:=fun y c h=>by apply Classical.byContradiction;intro hn;rw [iX hn (Y y)] at h;cases h
 have O:∀ y c,cl.lookup y=some c->∃ o u,s.heap.get? c=some o/\o.data=.cell (some u)/\c<s.heap.objs.size:=fun y c h=>by obtain ⟨o,u,g,d⟩:=C.cel y c (PySem.mem_of_lookup h);have q:=(e0.hok c _ g).1;exact ⟨o,u,q,d,qa9 q⟩
 have split:∀ y c,(qh0 (s.heap.objs.size+1) scope.names []++cl).lookup y=some c->((qh0 (s.heap.objs.size+1) scope.names []).lookup y=some c/\s.heap.objs.size<c)∨(cl.lookup y=some c/\c<s.heap.objs.size):=fun y c h=>by
  rw [cE] at h;cases q:(qh0 (s.heap.objs.size+1) scope.names []).lookup y with
  | some d =>rw [q] at h;cases h;exact .inl ⟨rfl,x.above y _ (PySem.mem_of_lookup q)⟩
  | none =>rw [q] at h;have h:cl.lookup y=some c:=h;exact .inr ⟨h,let ⟨_,_,_,_,z⟩:=O y c h;z⟩
 have Z:∀ b:Addr,b∉(oz CX P w K mg base N qual scope f (.ref c') cl A outer s (bY H cl) E xe).ex:=fun b z=>absurd (show b∈([]:List Addr) from z) \5
 have hn:∀ b,H b=none->bY H cl b=none:=fun b h=>by
  by_cases hb:b∈cl.map (·.2)
  . exact iq hb
  . rw [aW hb];exact h
 have htb:∀ p∈cA K,bY H cl p.1=some (.ctab p.2):=fun p hp=>by
  rw [aW fun z=>?_]
  . exact e0.tb p hp
  . obtain ⟨x,hx⟩:=ir z;obtain ⟨o,u,g,_⟩:=C.cel x _ hx;rw [e0.tb p hp] at g;cases g
 refine ⟨⟨e0.mod,S.kind,rfl,rfl,nL _,fun y z c h1 h2=>?_,fun y U=>?_,fun y c hf h=>?_,fun _=>hd,qe0.frames_deeper e0.frames,.inr ⟨rfl,rfl⟩,fun b z=>absurd z (Z b),fun b o e=>⟨(e0.bs b o e).1,hn b (e0.bs b o e).2⟩,e0.bsz,fun b _ _=>Z b,fun b z=>absurd z (Z b),e0.funs,fun b hb=>hn b (e0.frf b hb),htb⟩,rfl,e0.bare,Un.kept hk,⟨_,x.toInCall.ns,fun i y v h1 h2 h3=>?_⟩,fun y c h=>?_,hn _ (e0.hok.fresh (qu2 _)),fun y c h=>?_,fun p hp=>absurd (show p∈([]:List (Addr×Obj)) from hp) \5,(e0.hok.hide C.cel).kept hk,?_⟩
 . rcases split y c h1 with ⟨g1,W⟩ | ⟨g1,W⟩<;>rcases split z c h2 with ⟨g2,l2⟩ | ⟨g2,l2⟩
   . exact zj0 x.apart (PySem.mem_of_lookup g1) (PySem.mem_of_lookup g2)
   . exact absurd l2 (Nat.lt_asymm W)
   . exact absurd W (Nat.lt_asymm l2)
   . exact C.inj y z c g1 g2
 . have U:scope.names.lookup y=some .cell∨scope.names.lookup y=some .free:=U;show ∃ c,(qh0 (s.heap.objs.size+1) scope.names []++cl).lookup y=some c;rw [cE];rcases U with U | U
   . obtain ⟨c,e⟩:=il (n:=s.heap.objs.size+1) U;exact ⟨c,by rw [e];rfl⟩
   . rw [iX (by rw [U];decide) (Y y)];obtain ⟨i,hi⟩:=List.getElem?_of_mem (S.all y U);have hlt:i<fs.length:=by rw [C.len];exact (gX hi).1
     obtain ⟨c,_,_,e,_⟩:=C.val i y fs[i] hi (by simp [hlt]);exact ⟨c,e⟩
 . have hf:(scope.names.lookup y != some .free)=true:=hf;rcases split y c h with ⟨_,W⟩ | ⟨g1,_⟩
   . exact ql4 W
   . rw [C.nms y c g1] at hf;simp at hf
 . by_cases hi:i<vs.length
   . have ha:vs[i]?=some v:=by
      unfold dk at h2;rw [qa5 (by simpa using hi),qb0] at h2;cases e:vs[i]? with
      | none=>rw [e] at h2;cases h2
      | some a=>rw [e] at h2;cases h2;rfl
     obtain ⟨u,hu,rv⟩:=r.get ha
     have hp:ps[i]?=some y:=by rw [<- S.pre,za2 \3];exact h1
     have ndP:ps.Nodup:=by rw [<- S.pre];exact S.nd.sublist (List.take_sublist _ _)
     refine ⟨u,rv,?_⟩;rcases S.par y (qd3 hp) with k | k
     . exact .inl ⟨k,iT ndP hp hu k⟩
     . obtain ⟨c,e⟩:=il (n:=s.heap.objs.size+1) k;refine .inr ⟨.inl k,c,?_,?_⟩
       . show (qh0 (s.heap.objs.size+1) scope.names []++cl).lookup y=some c;rw [cE,e];rfl
       . have q:=x.cell y c e;rw [iU ndP hp hu (by show scope.names.lookup y≠_;rw [k];decide)] at q;exact q
   . unfold dk at h2;rw [qc5 (by simpa using hi)] at h2;rw [qa2] at h2;by_cases hj:i-vs.length<N.length-vs.length-fs.length
     . rw [qa5 (by simpa using hj),ql2] at h2;split at h2<;>cases h2
     . rw [qc5 (by simpa using hj),qm9,qb0] at h2;obtain ⟨v',hv,e⟩:=mS h2;cases e;have hroom:=S.room;have hfl:=C.len
       have hfr:fr[i-vs.length-(N.length-vs.length-fs.length)]?=some y:=by rw [<- S.post,List.getElem?_drop];rw [show N.length-fr.length+(i-vs.length-(N.length-vs.length-fs.length))=i by oo];exact h1
       obtain ⟨c,o,u,e1,e2,e3,e4⟩:=C.val _ y v hfr hv;refine ⟨u,e4,.inr ⟨.inr (C.nms y c e1),c,?_,?_⟩⟩
       . show (qh0 (s.heap.objs.size+1) scope.names []++cl).lookup y=some c;rw [cE,iX (by rw [C.nms y c e1];decide) (Y y),e1];rfl
       . exact ⟨o,hk c o (e0.hok c _ e2).1,e3⟩
 . rcases split y c h with ⟨g1,_⟩ | ⟨g1,_⟩
   . exact ⟨_,x.cell y c g1⟩
   . obtain ⟨o,u,q,d,_⟩:=O y c g1;exact ⟨_,o,hk c o q,d⟩
 . rcases split y c h with ⟨_,W⟩ | ⟨g1,_⟩
   . exact hn _ (e0.hok.fresh (ql4 W))
   . exact iq (qd1.mpr ⟨(y,c),PySem.mem_of_lookup g1,rfl⟩)
 . unfold dk;show _=N.length;rw [qa8,qa8,qa2,qm9,qa2];have:=S.room;have:=C.len;oo
theorem vi {k:Nat} {args:Args} {Q:VK} (S:ClScope N ps fr scope) (C:ClAt H f name qual params body scope cl fr fs c' doc pm ctv fo uf) (ndn:∀ x,∀ y∈scope.names,y.1=x->scope.names.lookup x=some y.2) (hr:Room (k+1) A) (e0:Env0 P w K mg base A outer s H)
  (Y:zb4 s (PySem.W.fnX name qual params body scope cl .none .none doc pm none (.ref c') ctv) args (ps.zip us)) (hl:vs.length=ps.length) (r:Vals vs us)
  (hbody:Room k (A.deeper (ip qual scope s.heap.objs.size f (.ref c') cl))->∃ t,PSs (oz CX P w K mg base N qual scope f (.ref c') cl A outer s (bY H cl) E fun _ _=>False) body t/\t {nx:=fun _ H'=>(∀ b∈cl.map (·.2),H' b=none)->Q .non (dW H cl H'),rt:=fun v H'=>(∀ b∈cl.map (·.2),H' b=none)->Q v (dW H cl H')} (dk N vs fs) (bY H cl)) :
  qr4 (model P w) A (.call (.ref f) args) (CR CX outer P w H s Q E) s:=by
 have KX:K.In s.heap:=e0.mod.kin.keeps fun b o e=>(e0.bs b o e).1
 have lim:s.heap.NoLimit:=e0.mod.nolimit.keeps fun b o e=>(e0.bs b o e).1
 have hkind:∀ y∈ps.zip us,scope.names.lookup y.1=some .local∨(scope.names.lookup y.1=some .cell/\((qh0 (s.heap.objs.size+1) scope.names []).lookup y.1).isSome=true):=fun ⟨n,v⟩ hy=>by
  rcases S.par n (qx7 hy).1 with q | q
  . exact .inl q
  . exact .inr ⟨q,PySem.W.cellsFrom_some _ _ _ (.inl q)⟩
 refine ze2 hr.depth (e0.hok f _ C.fn).1 C.dat S.co S.gen rfl (let ⟨_,z⟩:=C.cod;(e0.hok c' _ z).2) (Y _ _ _ _ ?_);refine yg S.kind hkind fun env he s1 x=>?_
 subst he;refine ⟨lim.keeps x.toInCall.keep,codeAny_func ?_⟩;obtain ⟨t,ht,hq⟩:=hbody (hr.deeper _);have I:Inv (oz CX P w K mg base N qual scope f (.ref c') cl A outer s (bY H cl) E fun _ _=>False) [] (dk N vs fs) (bY H cl) s1:=p6 S C ndn hr.hd e0 hl r x;refine ql6 (ht [] s1 (dk N vs fs) (bY H cl) _ I hq) (fun fl s' hs=>?_) fun e s' hs=>hs.elim
 have fin:∀ {σ':St} {H':Hp} {v:V} {u:Value},Inv (oz CX P w K mg base N qual scope f (.ref c') cl A outer s (bY H cl) E fun _ _=>False) [] σ' H' s'->RelV v u->((∀ b∈cl.map (·.2),H' b=none)->Q v (dW H cl H'))->CE outer P w H s Q u s':=fun {σ' H' v u} J rv q=>by
  have cn:∀ b,b∈cl.map (·.2)->∃ o u,H b=some (fj b o)/\o.data=.cell (some u):=fun b Y=>by obtain ⟨x,hx⟩:=ir Y;exact C.cel x b hx
  have kc:∀ b o,b∈cl.map (·.2)->s.heap.get? b=some o->s'.heap.get? b=some o/\H' b=none:=fun b o Y q=>by
   obtain ⟨o',u,g,d⟩:=cn b Y;have hfs:b∉frs outer:=fun z=>by have:=e0.frf b z;rw [g] at this;cases this
   exact ⟨J.base.keep b o q (iq Y) hfs (fun z=>absurd (show b∈([]:List Addr) from z) \5),J.base.free b o q (iq Y) (fun z=>absurd (show b∈([]:List Addr) from z) \5)⟩
  have sin:∀ {b:Addr},b∈cl.map (·.2)->dW H cl H' b=H b:=fun Y=>if_pos Y
  have U:∀ {b:Addr},b∉cl.map (·.2)->dW H cl H' b=H' b:=fun Y=>if_neg Y
  have Z:∀ (b:Addr) (o:HO),H b=some o->(∀ ob φ,o≠.frz ob (.ext φ))->b∉cl.map (·.2):=fun b o q hno z=>by obtain ⟨ob,u,g,_⟩:=cn b z;rw [q] at g;exact hno _ _ (qd9 g)
  have q:=q fun b Y=>by obtain ⟨o',u',g,d⟩:=cn b Y;exact (kc b o' Y (e0.hok b _ g).1).2
  refine ⟨v,dW H cl H',J.os,J.bare,⟨fun b o q n Y hx=>?_,fun b o q n Y hx=>?_,fun b o q n hx=>?_,fun b o q hx=>?_,fun b xs q=>?_,fun b o u q=>?_,fun b ps q=>?_,fun b qs q=>?_⟩,fun b o q=>?_,rv,q⟩
  . have O:b∉cl.map (·.2):=fun z=>by obtain ⟨_,_,g,_⟩:=cn b z;rw [n] at g;cases g
    exact J.base.keep b o q ((aW O).trans n) Y (fun z=>absurd (show b∈([]:List Addr) from z) \5)
  . have O:b∉cl.map (·.2):=fun z=>by obtain ⟨_,_,g,_⟩:=cn b z;rw [n] at g;cases g
    exact J.base.slot b o q ((aW O).trans n) Y (fun z=>absurd (show b∈([]:List Addr) from z) \5)
  . have O:b∉cl.map (·.2):=fun z=>by obtain ⟨_,_,g,_⟩:=cn b z;rw [n] at g;cases g
    rw [U O];exact J.base.free b o q ((aW O).trans n) (fun z=>absurd (show b∈([]:List Addr) from z) \5)
  . exact J.base.there b o q (fun z=>absurd (show b∈([]:List Addr) from z) \5)
  . have O:=Z b _ q fun _ _ z=>nomatch z
    rw [U O];exact J.base.tups b xs ((aW O).trans q)
  . by_cases O:b∈cl.map (·.2)
    . rw [sin O];exact q
    . rw [U O];exact J.base.frzs b o u ((aW O).trans q)
  . have O:=Z b _ q fun _ _ z=>nomatch z
    rw [U O];exact J.base.tbls b ps ((aW O).trans q)
  . have O:=Z b _ q fun _ _ z=>nomatch z
    rw [U O];exact J.base.cts b qs ((aW O).trans q)
  . by_cases O:b∈cl.map (·.2)
    . rw [sin O] at q;obtain ⟨ob,u,g,d⟩:=cn b O;rw [q] at g;cases g;have e1:=(e0.hok b _ q).1;have e2:=(kc b ob O e1).1;exact ⟨e2,e2,⟨ob,e2⟩,fun h1 h2 z1 z2=>z2 ob z1⟩
    . rw [U O] at q
      have up:∀ c o,H' c=some o->dW H cl H' c=some o:=fun c o z=>by
       by_cases hcc:c∈cl.map (·.2)
       . obtain ⟨ob,u,g,d⟩:=cn c hcc;have e1:=(e0.hok c _ g).1;rw [(kc c ob hcc e1).2] at z;cases z
       . rw [U hcc];exact z
      exact (J.hok b o q).stay (fun _ _ _ z=>z) (fun c z=>up c _ z) (fun c xs z=>up c _ z) fun c ob xs z=>up c _ z
 cases fl with
 | ret u =>obtain ⟨v,σ',H',J,rv,q⟩:=hs;exact fin J rv q
 | next =>obtain ⟨σ',H',J,q⟩:=hs;exact fin (v:=V.non) (u:=qi0) J rfl q
 | brk =>obtain ⟨_,_,_,q⟩:=hs;exact qg6 q
 | cont =>obtain ⟨_,_,_,q⟩:=hs;exact qg6 q
end
structure TabB (mg:Str->Option Value) (base:Heap) (c P:Addr):Prop where
 code:PySem.W.CodeHd base c P
 bm:∃ bm ob,mg "__builtins__"=some (.ref bm)/\bm≠qx0/\base.get? bm=some ob/\ob.cls=.type "module"/\ob.dict=some qx0/\ob.data=.plain
theorem jk:∀ {l:List Value} {m:List Value},zd5 l->zd5 m->zd5 (l++m)
 | [],m,_,h=>h
 | .int _ _::.int _ _::_::r,m,h,h'=>jk (l:=r) h h'
theorem lF:∀ {l:List Value} {m:List Value},zd5 l->qr6 pos (l++m)=(qr6 pos l).or (qr6 pos m)
 | [],m,_=>by simp [qr6]
 | .int a t::.int b u::c::r,m,h=>by
  have h:zd5 r:=h;show (if _ then _ else qr6 pos (r++m))=Option.or (if _ then _ else qr6 pos r) _;split
  . rfl
  . exact lF h
structure Made (H H':Hp) (lo:Nat) (f c':Addr) (qual:Str) (fo:Obj):Prop where
 fn:H' f=some (.frz fo (.ext fun h=>h.get? f=some fo))
 cod:∃ oc,H' c'=some (.frz oc (.code qual))
 old:∀ b o,H b=some o->H' b=some o
 new:∀ b o,H' b=some o->H b=some o∨(lo<=b/\H b=none)
 lof:lo<=f
section
variable {X:Cx} {pins:List (Addr×Obj)} {σ:St} {H:Hp} {s:qa4} {c P:Addr} {qs:List ((Nat×Nat)×Str)} {name:Str} {params:qj4} {body:List Stmt} {scope:Scope} {clos:List (Str×Addr)} {pos:Pos}
theorem yk {Q:Value->qa4->Prop} (I:Inv X pins σ H s) (B:TabB X.mg X.base c P) (Y:X.env.code=.ref c) (hP:H P=some (.ctab qs)) (hq:((pos.line,pos.col),qual)∈qs) (hun:∀ q,((pos.line,pos.col),q)∈qs->q=qual) (hcl:zf9 scope X.env=pure clos)
 (q:∀ (f c':Addr) (doc pm ctv:Value) (H':Hp) (s':qa4),Made H H' s.heap.objs.size f c' qual {cls:=.type "function",data:=.func (PySem.W.fnX name qual params body scope clos .none .none doc pm none (.ref c') ctv)}->Inv X pins σ H' s'->Q (.ref f) s') :
  wpAny \4 A (makeFunction name qual params (.stmts body) scope X.env [] [] [] pos pos.line) Q E s:=by
 obtain ⟨ps,hp,ht,hent⟩:=I.hok P _ hP
 have inB:∀ {b:Addr} {o:Obj},X.base.get? b=some o->b≠P:=fun {b o} e z=>by have:=(I.bs b o e).2;rw [z,hP] at this;cases this
 have hg:s.heap.Ns qc2 X.mg:=I.mod.glob.keeps I.bk;obtain ⟨bm,ob,b1,b2,b3,b4,b5,b6⟩:=B.bm
 have hgP:qc2≠P:=by obtain ⟨o,es,ep,e,_⟩:=I.mod.glob;exact inB e
 have hbG:bm≠qc2:=fun z=>by obtain ⟨o,es,ep,e,hd,_⟩:=I.mod.glob;rw [z,e] at b3;cases b3;rw [hd] at b6;cases b6
 have hB:s.heap.BuiltinsAt X.mg P:=⟨bm,ob,b1,b2,hbG,inB b3,I.bk _ _ b3,b4,b5,b6⟩;have C:PySem.W.CodeHd s.heap c P:=B.code.keeps I.bk;have lt:∀ {b:Addr} {o:HO},H b=some o->b<s.heap.objs.size:=fun h=>I.hok.lt h
 cases hf:qr6 pos ps.toList with
 | some cv =>
  obtain ⟨c',oc,rfl,hc'⟩:=hent pos qual cv hq hf;refine PySem.W.makeFunction_hit hcl I.ok.glob hg Y C hp ht hf hB fun ctv doc h' tk hk U=>?_
  have hfr:H h'.objs.size=none:=I.hok.fresh U
  have I2:=I.laid (a:=h'.objs.size) (o:=.frz {cls:=.type "function",data:=.func (PySem.W.fnX name qual params body scope clos .none .none doc ((X.mg "__name__").getD .none) none (.ref c') ctv)} (.ext fun h=>h.get? h'.objs.size=some {cls:=.type "function",data:=.func (PySem.W.fnX name qual params body scope clos .none .none doc ((X.mg "__name__").getD .none) none (.ref c') ctv)})) (t':=tk) (h':=h'.push {cls:=.type "function",data:=.func (PySem.W.fnX name qual params body scope clos .none .none doc ((X.mg "__name__").getD .none) none (.ref c') ctv)}) (fun b o e=>gP _ (hk b o e)) U
   ⟨qb1 _ rfl,qb1 _ rfl,⟨_,qb1 _ rfl⟩,fun h1 h2 z1 z2=>z2 _ z1⟩
  refine q _ c' doc _ ctv _ _ ⟨ar,?_,fun b o e=>?_,fun b o e=>?_,U⟩ I2
  . refine ⟨oc,?_⟩;rw [ap (qc0 (qb7 (lt hc') U))];exact hc'
  . rw [ap (qc0 (qb7 (lt e) U))];exact e
  . by_cases hb:b=h'.objs.size
    . exact .inr ⟨by rw [hb];exact U,by rw [hb];exact hfr⟩
    . rw [ap hb] at e;exact .inl e
 | none =>
  refine PySem.W.makeFunction_K hcl I.ok.glob hg Y C hp ht hf hgP hB fun c' ctv doc h' tk hx hge hlt hrec htb=>?_
  obtain ⟨c2,oc,vs,t,e2,hoc,hrec2⟩:=hrec;cases e2;have hfr:H h'.objs.size=none:=I.hok.fresh (qc3 hge (ql4 hlt));have hcr:H c'=none:=I.hok.fresh hge;have hne:c'≠h'.objs.size:=qc0 hlt;generalize hfo:({cls:=.type "function",data:=.func (PySem.W.fnX name qual params body scope clos .none .none doc ((X.mg "__name__").getD .none) none (.ref c') ctv)}:Obj)=fo;have hfo':(PySem.W.fnMade name qual params body scope clos doc ((X.mg "__name__").getD .none) c' ctv)=fo:=hfo;rw [hfo'];have hfree:fo.isFreed=false:=by rw [<- hfo];rfl
  have gf:(h'.push fo).get? h'.objs.size=some fo:=qb1 _ hfree;let H':Hp:=upd (upd H c' (.frz oc (.code qual))) h'.objs.size (.frz fo (.ext fun h=>h.get? h'.objs.size=some fo))
  have O:∀ b o,H b=some o->H' b=some o:=fun b o e=>by show upd (upd H c' (.frz oc (.code qual))) h'.objs.size _ b=some o;rw [ap (fun z=>by rw [z,hfr] at e;cases e),ap (fun z=>by rw [z,hcr] at e;cases e)];exact e
  have hnew:∀ b o,H' b=some o->H b=some o∨(s.heap.objs.size<=b/\H b=none):=fun b o e=>by
   by_cases h1:b=h'.objs.size
   . exact .inr ⟨by rw [h1];exact qc3 hge (ql4 hlt),by rw [h1];exact hfr⟩
   . by_cases h2:b=c'
     . exact .inr ⟨by rw [h2];exact hge,by rw [h2];exact hcr⟩
     . have e:upd (upd H c' (.frz oc (.code qual))) h'.objs.size _ b=some o:=e;rw [ap h1,ap h2] at e;exact .inl e
  have kp:∀ b o,b≠P->s.heap.get? b=some o->(h'.push fo).get? b=some o:=fun b o hb e=>gP _ (hx b o hb e)
  have Z:H' c'=some (.frz oc (.code qual)):=by show upd (upd H c' (.frz oc (.code qual))) h'.objs.size _ c'=_;rw [ap hne,ar]
  have un:Un X.fs [] H H' s.heap (h'.push fo):=by
   have nP:∀ {b:Addr},H b=none->b≠P:=fun {b} n z=>by rw [z,hP] at n;cases n
   refine ⟨fun b o e n _ _=>kp b o (nP n) e,fun b o e n _ _=>⟨o.slots,by rw [kp b o (nP n) e]⟩,fun b o e n _=>?_,fun b o e _=>?_,fun b xs e=>O b _ e,fun b o u e=>O b _ e,fun b ps e=>⟨#[],by rw [O b _ e];simp⟩,fun b qs e=>O b _ e⟩
   . cases z:H' b with
     | none=>rfl
     | some w =>
      rcases hnew b w z with y | ⟨y,_⟩
      . rw [n] at y;cases y
      . exact absurd (qa9 e) (qj1.mpr y)
   . by_cases hb:b=P
     . rw [hb];exact ⟨_,gP _ htb⟩
     . exact ⟨o,kp b o hb e⟩
  have hok:HOk X.prog X.w H' (h'.push fo):=fun b o e=>by
   by_cases h1:b=h'.objs.size
   . subst h1;have e:upd (upd H c' (.frz oc (.code qual))) h'.objs.size _ h'.objs.size=some o:=e;rw [ar] at e;cases e;exact ⟨gf,gf,⟨_,gf⟩,fun h1 h2 z1 z2=>z2 _ z1⟩
   . by_cases h2:b=c'
     . subst h2;rw [Z] at e;cases e;exact ⟨gP _ hoc,b,oc,vs,t,rfl,gP _ hoc,hrec2⟩
     . have eH:H b=some o:=by have e:upd (upd H c' (.frz oc (.code qual))) h'.objs.size _ b=some o:=e;rw [ap h1,ap h2] at e;exact e
       by_cases h3:b=P
       . subst h3;rw [hP] at eH;cases eH;refine ⟨_,gP _ htb,?_,fun pos' q' v h4 h5=>?_⟩
         . rw [Array.toList_append];exact jk ht trivial
         . rw [Array.toList_append,lF ht] at h5;cases h6:qr6 pos' ps.toList with
           | some v' =>rw [h6] at h5;cases h5;obtain ⟨c2,o2,e1,e2⟩:=hent pos' q' _ h4 h6;exact ⟨c2,o2,e1,O _ _ e2⟩
           | none =>
            rw [h6] at h5;have h5:qr6 pos' [qf8 pos.line,qf8 pos.col,.ref c']=some v:=h5;simp only [qf8,qr6] at h5;split at h5
            . rename_i hh;cases h5;refine ⟨c',oc,rfl,?_⟩
              have e1:pos'.line=pos.line/\pos'.col=pos.col:=by simp only [qb4,beq_iff_eq] at hh;oo
              rw [e1.1,e1.2] at h4;rw [hun q' h4];exact Z
            . cases h5
       . refine (I.hok b o eH).stay (fun d u hd z=>kp d u ?_ z) (fun d z=>O d _ z) (fun d xs z=>O d _ z) fun d ob xs z=>O d _ z
         rcases hd with rfl | hd
         . exact h3
         . intro z;rw [z,hP] at hd;cases hd
  exact q _ c' doc _ ctv H' _ ⟨by show upd _ _ _ _=_;rw [ar,<- hfo],⟨oc,Z⟩,O,hnew,qc3 hge (ql4 hlt)⟩ (I.un (t':=tk) un hok)
end
section
variable {X:Cx} {K:PySem.W.Frag} {tg:Expr}
end
df vj (scope outer:Scope):Scope:={scope with names:=scope.names.map fun (n,k)=>if (k==.free&&outer.kind==.function&&outer.names.lookup n==some .cell) then (n,.cell) else (n,k)}
df cT (sc:Scope) (N:List Str) (i:Nat) (x:Str):Bool:=decide (N[i]?=some x)&&(decide (sc.names.lookup x=some .local)||(decide (sc.names.lookup x=some .cell)||decide (sc.names.lookup x=some .free)))&&!(x==("__debug__":Str))&&!(x==("__classdict__":Str))
df gW (sc:Scope) (x:Str):Bool:=decide (sc.names.lookup x=some .local)||decide (sc.names.lookup x=some .cell)
df aH (sc:Scope) (x:Str):Bool:=decide (sc.names.lookup x=some .globalImplicit)&&!(x==("__debug__":Str))&&!decide (x=("__name__":Str))
section
variable {sc:Scope} {N:List Str} {i:Nat} {x:Str}
theorem fL (h:cT sc N i x=true):N[i]?=some x:=by unfold cT at h;simp only [qb4,decide_eq_true_eq] at h;exact h.1.1.1
theorem BE (h:cT sc N i x=true):Vis sc x:=by unfold cT at h;simp only [qb4,qk5,decide_eq_true_eq] at h;exact h.1.1.2
theorem BF (h:cT sc N i x=true):(x==("__debug__":Str))=false:=by unfold cT at h;simp only [qb4,qj6] at h;exact h.1.2
theorem DN (h:cT sc N i x=true):(x==("__classdict__":Str))=false:=by unfold cT at h;simp only [qb4,qj6] at h;exact h.2
theorem iY (h:gW sc x=true):Loc sc x:=by unfold gW at h;simp only [qk5,decide_eq_true_eq] at h;exact h
theorem y80 (h:aH sc x=true):sc.names.lookup x=some .globalImplicit:=by unfold aH at h;simp only [qb4,decide_eq_true_eq] at h;exact h.1.1
theorem jW (h:aH sc x=true):(x==("__debug__":Str))=false:=by unfold aH at h;simp only [qb4,qj6] at h;exact h.1.2
theorem y67 (h:aH sc x=true):x≠("__name__":Str):=by unfold aH at h;simp only [qb4,qj6,decide_eq_false_iff_not] at h;exact h.2
end
df bH (X:Cx) (sc:Scope):Prop:=X.env.scope=sc
variable {i:Nat}
section
variable {X:Cx} {sc:Scope} {N:List Str} {x:Str} {pos p:Pos}
theorem pvD (i:Nat) (h:cT sc N i x=true) (q:bH X sc:=by rfl) (e2:X.N=N:=by rfl):PE X (.Name x pos) (jx i):=by have q:X.env.scope=sc:=q;subst q e2;exact A3 (fL h) (BE h) (BF h) (DN h)
theorem glD (h:aH sc x=true) (q:bH X sc:=by rfl):Gl X x:=by have q:X.env.scope=sc:=q;subst q;exact y80 h
theorem mP {e:Expr} {pos':Pos} (h:cT sc N i x=true) (Z:gW sc x=true) (W:N.Nodup) (O:PE X e te) (q:bH X sc:=by rfl) (e2:X.N=N:=by rfl) (Y:X.fn x=true∨X.env.scope.names.lookup x=some .local:=by exact .inl rfl)
 (U:qm7 e (some (.Name x pos')) pos.line X.env=pure false:=by rfl):PS X (.Assign [.Name x pos'] e pos) (xT te (fG i)):=by
 have q:X.env.scope=sc:=q;subst q e2;exact Be W (fL h) (iY Z) O U Y
theorem au (h:cT sc N i x=true) (W:gW sc x=true) (U:N.Nodup) (q:bH X sc:=by rfl) (e2:X.N=N:=by rfl) (O:X.fn x=true∨X.env.scope.names.lookup x=some .local:=by exact .inl rfl):PG X (.Name x pos) (fG i):=by have q:X.env.scope=sc:=q;subst q e2;exact ra U (fL h) (iY W) O
df loOk (sc:Scope) (x:Str):Bool:=decide (sc.names.lookup x=some .local)
theorem aX (h:cT sc N i x=true) (q:loOk sc x=true) (U:X.N.Nodup) (O:bH X sc) (e2:X.N=N:=by rfl):PG X (.Name x pos) (fG i):=by have O:X.env.scope=sc:=O;subst O e2;have q:X.env.scope.names.lookup x=some .local:=of_decide_eq_true q;exact ra U (fL h) (.inl q) (.inr q)
theorem vk (h:aH sc x=true) (q:∃ u,X.mg x=some u/\RelV v u) (O:bH X sc:=by rfl):PE X (.Name x pos) (tC v):=vh (glD h O) q (jW h)
theorem vm {u:Value} (h:aH sc x=true) (O:X.mg x=none) (q:qd6 x=some u) (r:RelV v u) (U:bH X sc:=by rfl):PE X (.Name x pos) (tC v):=xR (glD h U) O q r (y67 h) (jW h)
variable {e:Expr} {es:List Expr} {t:TA} {id T:String} {r:List V->Hp->VK->Prop} {k:Nat} {ps:List Str} {sp:Sp}
theorem gm (h:aH sc x=true) (O:bX X (.builtin id) r) (W:X.mg x=none) (Z:qd6 x=some (.builtin id)) (ha:PA X (e::es) t) (Y:bH X sc:=by rfl)
  (U:qa6 (e::es) X.env=#a::qa6 es X.env:=by rfl) (q:(qi4 pos (qa6 es X.env)).any (·.1)=false:=by rfl):PE X #b (tCB r t):=
 uX O (glD h Y) W Z ha (y67 h) (jW h) U q
theorem eM (h:aH sc x=true) (O:bX X (.type T) r) (W:X.mg x=none) (Z:qd6 x=some (.type T)) (ha:PA X (e::es) t) (Y:bH X sc:=by rfl)
  (U:qa6 (e::es) X.env=#a::qa6 es X.env:=by rfl) (q:(qi4 pos (qa6 es X.env)).any (·.1)=false:=by rfl):PE X #b (tCB r t):=
 tP O (glD h Y) W Z ha (y67 h) (jW h) U q
theorem iZ (h:aH sc x=true) (F:OkF X.prog X.w X.K X.mg X.base x k ps sp) (Y:Room k X.A) (U:PA X (e::es) t) (W:bH X sc:=by rfl)
  (O:qa6 (e::es) X.env=#a::qa6 es X.env:=by rfl) (q:(qi4 pos (qa6 es X.env)).any (·.1)=false:=by rfl):PE X #b (uW sp [] E0 t):=
 vf F Y (glD h W) U (jW h) O q
variable {tg a b:Expr} {ta:TA}
theorem p7 (h:aH sc "range"=true) (q:X.mg "range"=none) (O:PA X [a] ta) (U:bH X sc:=by rfl) (W:qa6 [a] X.env=[(false,eval a X.env)]:=by rfl):PI X tg (.Call (.Name "range" p) [a] [] pos) (Ac ta):=tz (glD h U) q O W
theorem p8 (h:aH sc "range"=true) (O:X.mg "range"=none) (U:PA X [a,b] ta) (W:bH X sc:=by rfl) (Y:qa6 [a,b] X.env=[(false,eval a X.env),(false,eval b X.env)]:=by rfl) (q:qa6 [b] X.env=[(false,eval b X.env)]:=by rfl) :
  PI X tg (.Call (.Name "range" p) [a,b] [] pos) (Ad ta):=tE (glD h W) O U Y q
end
section
variable {X:Cx} {M:List Str} {scope outer:Scope} {C:Addr} {s:qa4} {H:Hp} {ex:List Addr} {x:Str} {pos p:Pos}
theorem scC (q:bH X outer):bH #h (vj scope outer):=by have q:X.env.scope=outer:=q;subst q;rfl
end
inductive Dt where
 | non | bl (b:Bool) | int (i:Int) | str (x:Str) | tup (l:List Dt) | lst (l:List Dt) | dct (ks:List Key) (l:List Dt) | dcT (ks:List (List Key)) (l:List Dt)
 | ins (c:Str) (ns:List Str) (l:List Dt)
mutual
df peq:Dt->Dt->Bool
 | .non,.non=>true
 | .bl a,.bl b=>a==b
 | .bl a,.int j=>(if a then (1:Int) else 0)==j
 | .int i,.bl b=>i==(if b then (1:Int) else 0)
 | .int i,.int j=>i==j
 | .str x,.str y=>x==y
 | .tup l,.tup m=>peqs l m
 | .lst l,.lst m=>peqs l m
 | .dct ks l,.dct js m=>decide (ks=js)&&peqs l m
 | .dcT ks l,.dcT js m=>decide (ks=js)&&peqs l m
 | .ins _ _ _,.ins _ _ _=>true
 | _,_=>false
df peqs:List Dt->List Dt->Bool
 | [],[]=>true
 | d::l,e::m=>peq d e&&peqs l m
 | _,_=>false
end
theorem pqn:peq .non .non=true:=rfl
theorem pqb {a b:Bool}:peq (.bl a) (.bl b)=(a==b):=rfl
theorem pqj {i j:Int}:peq (.int i) (.int j)=(i==j):=rfl
theorem pqs {y:Str}:peq (.str x) (.str y)=(x==y):=rfl
variable {l m:List Dt}
theorem pqt:peq (.tup l) (.tup m)=peqs l m:=rfl
theorem pql:peq (.lst l) (.lst m)=peqs l m:=rfl
theorem pqd {k j:List Key}:peq (.dct k l) (.dct j m)=(decide (k=j)&&peqs l m):=rfl
theorem pqD {k j}:peq (.dcT k l) (.dcT j m)=(decide (k=j)&&peqs l m):=rfl
theorem pqi {c n} {d o}:peq (.ins c n l) (.ins d o m)=true:=rfl
mutual
theorem iu:∀ d:Dt,peq d d=true
 | .non=>by simp [pqn,pqb,pqj,pqs]
 | .bl b=>by simp [pqn,pqb,pqj,pqs]
 | .int i=>by simp [pqn,pqb,pqj,pqs]
 | .str x=>by simp [pqn,pqb,pqj,pqs]
 | .tup l=>by simp only [pqn,pqt,pql,pqd,pqD,pqi];exact peqs_self l
 | .lst l=>by simp only [pqn,pqt,pql,pqd,pqD,pqi];exact peqs_self l
 | .dct ks l=>by simp only [pqn,pqt,pql,pqd,pqD,pqi,decide_true,qn2];exact peqs_self l
 | .dcT ks l=>by simp only [pqn,pqt,pql,pqd,pqD,pqi,decide_true,qn2];exact peqs_self l
 | .ins c ns l=>by simp only [pqn,pqt,pql,pqd,pqD,pqi]
theorem peqs_self:∀ l:List Dt,peqs l l=true
 | []=>by simp [peqs]
 | d::l=>by simp only [peqs,iu d,peqs_self l,zb7]
end
mutual
df cF:Dt->Nat
 | .tup l=>deeps l+1
 | .lst l=>deeps l+1
 | _=>0
df deeps:List Dt->Nat
 | []=>0
 | d::l=>max (cF d) (deeps l)
end
df vn (K:PySem.W.Frag) (c:Str) (C:Addr):Prop:=PySem.W.nsIn K qc2 c=some (some (.ref C))
mutual
df Rep (K:PySem.W.Frag) (H:Hp):Dt->V->Prop
 | .non,v=>v=.non
 | .bl b,v=>v=.bl b
 | .int i,v=>v=.int i
 | .str x,v=>v=.str x
 | .tup l,v=>∃ a vs,v=.ref a/\SqT K H a vs/\Reps K H l vs
 | .lst l,v=>∃ a vs,v=.ref a/\SqL K H a vs/\Reps K H l vs
 | .dct ks l,v=>∃ a kvs,v=.ref a/\Rd H a (.dK kvs)/\kvs.map (·.1)=ks/\Reps K H l (kvs.map (·.2))
 | .dcT ks l,v=>∃ a kvs,v=.ref a/\Rd H a (.dT kvs)/\kvs.map (·.1)=ks/\Reps K H l (kvs.map (·.2))
 | .ins c ns l,v=>∃ a C dx fs,v=.ref a/\vn K c C/\H a=some (.ins C dx fs)/\fs.map (·.1)=ns/\Reps K H l (fs.map (·.2))
df Reps (K:PySem.W.Frag) (H:Hp):List Dt->List V->Prop
 | [],vs=>vs=[]
 | d::l,vs=>∃ v ws,vs=v::ws/\Rep K H d v/\Reps K H l ws
end
theorem Same.tup (e:Same H H') (h:SqT K H a xs):SqT K H' a xs:=by
 rcases h with h | h
 . exact .inl (e _ _ h)
 . exact .inr h
theorem Same.rd {u:HO} (e:Same H H') (h:Rd H a u):Rd H' a u:=by
 rcases h with h | ⟨o,h⟩
 . exact .inl (e _ _ h)
 . exact .inr ⟨o,e _ _ h⟩
mutual
theorem Rep.same {K:PySem.W.Frag} {H H':Hp} (e:Same H H'):∀ {d:Dt} {v:V},Rep K H d v->Rep K H' d v
 | .non,v,h=>h
 | .bl _,v,h=>h
 | .int _,v,h=>h
 | .str _,v,h=>h
 | .tup l,v,h=>by unfold Rep at h ⊢;obtain ⟨a,vs,h1,h2,h3⟩:=h;exact ⟨a,vs,h1,e.tup h2,Reps.same e h3⟩
 | .lst l,v,h=>by unfold Rep at h ⊢;obtain ⟨a,vs,h1,h2,h3⟩:=h;exact ⟨a,vs,h1,e.seq h2,Reps.same e h3⟩
 | .dct ks l,v,h=>by unfold Rep at h ⊢;obtain ⟨a,vs,h1,h2,h3,h4⟩:=h;exact ⟨a,vs,h1,e.rd h2,h3,Reps.same e h4⟩
 | .dcT ks l,v,h=>by unfold Rep at h ⊢;obtain ⟨a,vs,h1,h2,h3,h4⟩:=h;exact ⟨a,vs,h1,e.rd h2,h3,Reps.same e h4⟩
 | .ins c ns l,v,h=>by unfold Rep at h ⊢;obtain ⟨a,C,dx,fs,h1,h2,h3,h4,h5⟩:=h;exact ⟨a,C,dx,fs,h1,h2,e _ _ h3,h4,Reps.same e h5⟩
theorem Reps.same {K:PySem.W.Frag} {H H':Hp} (e:Same H H'):∀ {l:List Dt} {vs:List V},Reps K H l vs->Reps K H' l vs
 | [],vs,h=>h
 | d::l,vs,h=>by unfold Reps at h ⊢;obtain ⟨v,ws,h1,h2,h3⟩:=h;exact ⟨v,ws,h1,Rep.same e h2,Reps.same e h3⟩
end
theorem Reps.length:∀ {l:List Dt} {vs:List V},Reps K H l vs->vs.length=l.length
 | [],vs,h=>by unfold Reps at h;rw [h];rfl
 | d::l,vs,h=>by unfold Reps at h;obtain ⟨v,q,rfl,_,h3⟩:=h;simp [Reps.length h3]
theorem Reps.get:∀ {l:List Dt} {vs:List V} {i:Nat} {d:Dt},Reps K H l vs->l[i]?=some d->∃ v,vs[i]?=some v/\Rep K H d v
 | [],vs,i,d,h,e=>by simp at e
 | d0::l,vs,0,d,h,e=>by unfold Reps at h;obtain ⟨v,O,rfl,h2,_⟩:=h;simp at e;subst e;exact ⟨v,rfl,h2⟩
 | d0::l,vs,i+1,d,h,e=>by unfold Reps at h;obtain ⟨v,O,rfl,_,h3⟩:=h;obtain ⟨u,q,e2⟩:=Reps.get (i:=i) h3 (by simpa using e);exact ⟨u,by simpa using q,e2⟩
theorem Reps.append:∀ {l m:List Dt} {vs q:List V},Reps K H l vs->Reps K H m q->Reps K H (l++m) (vs++q)
 | [],m,vs,q,h,h'=>by unfold Reps at h;rw [h];exact h'
 | d::l,m,vs,q,h,h'=>by unfold Reps at h;obtain ⟨v,us,rfl,h2,h3⟩:=h;show Reps K H (d::(l++m)) (v::(us++q));unfold Reps;exact ⟨v,_,rfl,h2,Reps.append h3 h'⟩
theorem Reps.one {d:Dt} (h:Rep K H d v):Reps K H [d] [v]:=by unfold Reps;exact ⟨v,[],rfl,h,by unfold Reps;rfl⟩
theorem Reps.take:∀ {l:List Dt} {vs:List V} (n:Nat),Reps K H l vs->Reps K H (l.take n) (vs.take n)
 | _,_,0,_=>by simp [Reps]
 | [],vs,n+1,h=>by unfold Reps at h;rw [h];simp [Reps]
 | d::l,vs,n+1,h=>by unfold Reps at h;obtain ⟨v,us,rfl,h2,h3⟩:=h;show Reps K H (d::l.take n) (v::us.take n);unfold Reps;exact ⟨v,_,rfl,h2,Reps.take n h3⟩
theorem Reps.drop:∀ {l:List Dt} {vs:List V} (n:Nat),Reps K H l vs->Reps K H (l.drop n) (vs.drop n)
 | _,_,0,h=>h
 | [],vs,n+1,h=>by unfold Reps at h;rw [h];simp [Reps]
 | d::l,vs,n+1,h=>by unfold Reps at h;obtain ⟨v,us,rfl,h2,h3⟩:=h;exact Reps.drop n h3
variable {u:List (Key×V)} {C dx:Addr} {vs:List V}
section
variable {X:Cx} {pins:List (Addr×Obj)} {σ:St} {H:Hp} {s:qa4} {K:PySem.W.Frag}
theorem Inv.notBoth {ys:List V} (I:Inv X pins σ H s) (h:SqL X.K H a xs) (h':SqT X.K H a ys):False:=by obtain ⟨its,r,U,_⟩:=I.list h;obtain ⟨its',Y,pt,_⟩:=I.tuple h';obtain ⟨o,n,e,W,_⟩:=U;obtain ⟨o',O,q,_⟩:=pt;rw [e] at O;cases O;rw [W] at q;injection q with z;exact absurd z \7
theorem DQ {w:List (Key×V)} (h:Rd H a (.dK u)) (h':Rd H a (.dK w)):u=w:=by rcases h with h | ⟨o,h⟩<;>rcases h' with h' | ⟨o',h'⟩<;>rw [h] at h'<;>cases h'<;>rfl
theorem DR {u w:List (List Key×V)} (h:Rd H a (.dT u)) (h':Rd H a (.dT w)):u=w:=by rcases h with h | ⟨o,h⟩<;>rcases h' with h' | ⟨o',h'⟩<;>rw [h] at h'<;>cases h'<;>rfl
theorem jK {u:HO} (h:Rd H a u):∃ o,H a=some o:=by
 rcases h with h | ⟨o,h⟩
 . exact ⟨_,h⟩
 . exact ⟨_,h⟩
theorem Inv.kNone (I:Inv X pins σ H s) {o:Obj} (h:X.K.lookup a=some o):H a=none:=(I.bs a o (I.ok.mod.kin a o h)).2
theorem Inv.sqT_dK (I:Inv X pins σ H s) (h:SqT X.K H a xs) (h':Rd H a (.dK u)):False:=by
 rcases h with h | ⟨o,_,_,h,_⟩
 . rcases h' with h' | ⟨o',h'⟩<;>rw [h] at h'<;>cases h'
 . obtain ⟨o',e⟩:=jK h';rw [I.kNone h] at e;cases e
theorem Inv.sqT_dT (I:Inv X pins σ H s) {u:List (List Key×V)} (h:SqT X.K H a xs) (h':Rd H a (.dT u)):False:=by
 rcases h with h | ⟨o,_,_,h,_⟩
 . rcases h' with h' | ⟨o',h'⟩<;>rw [h] at h'<;>cases h'
 . obtain ⟨o',e⟩:=jK h';rw [I.kNone h] at e;cases e
theorem Inv.sqL_dK (I:Inv X pins σ H s) (h:SqL X.K H a xs) (h':Rd H a (.dK u)):False:=by
 rcases h with h | ⟨o,_,_,h,_⟩
 . rcases h with h | ⟨o,h⟩<;>rcases h' with h' | ⟨o',h'⟩<;>rw [h] at h'<;>cases h'
 . obtain ⟨o',e⟩:=jK h';rw [I.kNone h] at e;cases e
theorem Inv.sqL_dT (I:Inv X pins σ H s) {u:List (List Key×V)} (h:SqL X.K H a xs) (h':Rd H a (.dT u)):False:=by
 rcases h with h | ⟨o,_,_,h,_⟩
 . rcases h with h | ⟨o,h⟩<;>rcases h' with h' | ⟨o',h'⟩<;>rw [h] at h'<;>cases h'
 . obtain ⟨o',e⟩:=jK h';rw [I.kNone h] at e;cases e
theorem vo {w:List (List Key×V)} (h:Rd H a (.dK u)) (h':Rd H a (.dT w)):False:=by rcases h with h | ⟨o,h⟩<;>rcases h' with h' | ⟨o',h'⟩<;>rw [h] at h'<;>cases h'
df bL:Dt->Nat
 | .non=>0
 | .bl _=>1
 | .int _=>2
 | .str _=>3
 | .tup _=>4
 | .lst _=>5
 | .dct _ _=>6
 | .dcT _ _=>7
 | .ins _ _ _=>8
theorem rE (I:Inv X pins σ H s) {fs:List (Str×V)} (h:SqT X.K H a vs) (h':H a=some (.ins C dx fs)):False:=by
 rcases h with h | ⟨o,its,n,h,_⟩
 . rw [h'] at h;cases h
 . rw [I.kNone h] at h';cases h'
theorem rF (I:Inv X pins σ H s) {fs:List (Str×V)} (h:SqL X.K H a vs) (h':H a=some (.ins C dx fs)):False:=by
 rcases h with (h | ⟨o,h⟩) | ⟨o,its,n,h,_⟩
 . rw [h'] at h;cases h
 . rw [h'] at h;cases h
 . rw [I.kNone h] at h';cases h'
theorem rG {fs:List (Str×V)} (h:Rd H a (.dK u)) (h':H a=some (.ins C dx fs)):False:=by rcases h with h | ⟨o,h⟩<;>rw [h] at h'<;>cases h'
theorem rH {fs:List (Str×V)} {u:List (List Key×V)} (h:Rd H a (.dT u)) (h':H a=some (.ins C dx fs)):False:=by rcases h with h | ⟨o,h⟩<;>rw [h] at h'<;>cases h'
theorem cr (I:Inv X pins σ H s) {d e:Dt} (h:Rep X.K H d v) (h':Rep X.K H e v):bL d=bL e:=by
 cases d<;>cases e<;>first
  | rfl
  | (simp only [Rep] at h h';subst h;cases h';done)
  | (simp only [Rep] at h h';obtain ⟨_,_,e,_⟩:=h';rw [h] at e;cases e;done)
  | (simp only [Rep] at h h';obtain ⟨_,_,e,_⟩:=h;rw [h'] at e;cases e;done)
  | (simp only [Rep] at h h';obtain ⟨_,_,rfl,h2,_⟩:=h;obtain ⟨_,_,e,q,_⟩:=h';cases e
     first
      | exact (I.sqT_dK h2 q).elim
      | exact (I.sqT_dK q h2).elim
      | exact (I.sqT_dT h2 q).elim
      | exact (I.sqT_dT q h2).elim
      | exact (I.notBoth h2 q).elim
      | exact (I.notBoth q h2).elim
      | exact (I.sqL_dK h2 q).elim
      | exact (I.sqL_dK q h2).elim
      | exact (I.sqL_dT h2 q).elim
      | exact (I.sqL_dT q h2).elim
      | exact (vo h2 q).elim
      | exact (vo q h2).elim)
  | (simp only [Rep] at h h';obtain ⟨_,_,_,_,e,_⟩:=h';rw [h] at e;cases e;done)
  | (simp only [Rep] at h h';obtain ⟨_,_,_,_,e,_⟩:=h;rw [h'] at e;cases e;done)
  | (simp only [Rep] at h h';obtain ⟨_,_,_,_,rfl,_,h2,_⟩:=h;obtain ⟨_,_,e,q,_⟩:=h';cases e
     first
      | exact (rE I q h2).elim
      | exact (rF I q h2).elim
      | exact (rG q h2).elim
      | exact (rH q h2).elim)
  | (simp only [Rep] at h h';obtain ⟨_,_,_,_,rfl,_,h2,_⟩:=h';obtain ⟨_,_,e,q,_⟩:=h;cases e
     first
      | exact (rE I q h2).elim
      | exact (rF I q h2).elim
      | exact (rG q h2).elim
      | exact (rH q h2).elim)
mutual
theorem jL (I:Inv X pins σ H s):∀ (d e:Dt) (v:V),Rep X.K H d v->Rep X.K H e v->peq d e=true:=fun d=>by
 match d with
 | .tup l =>
  intro e v h h';have hk:=cr I h h';cases e<;>first | (simp [bL] at hk;done) | skip
  simp only [Rep] at h h';obtain ⟨a,vs,rfl,h2,h3⟩:=h;obtain ⟨b,ws,e,h2',h3'⟩:=h';cases e;have:=I.tuple_inj h2 h2';subst this;simp only [pqn,pqt,pql,pqd,pqD,pqi];exact reps_inj I l _ _ h3 h3'
 | .lst l =>
  intro e v h h';have hk:=cr I h h';cases e<;>first | (simp [bL] at hk;done) | skip
  simp only [Rep] at h h';obtain ⟨a,vs,rfl,h2,h3⟩:=h;obtain ⟨b,ws,e,h2',h3'⟩:=h';cases e;have:=I.list_inj h2 h2';subst this;simp only [pqn,pqt,pql,pqd,pqD,pqi];exact reps_inj I l _ _ h3 h3'
 | .dct ks l =>
  intro e v h h';have hk:=cr I h h';cases e<;>first | (simp [bL] at hk;done) | skip
  simp only [Rep] at h h';obtain ⟨a,vs,rfl,h2,h3,h4⟩:=h;obtain ⟨b,ws,e,h2',h3',h4'⟩:=h';cases e;have:=DQ h2 h2';subst this;subst h3 h3';simp only [pqn,pqt,pql,pqd,pqD,pqi,decide_true,qn2];exact reps_inj I l _ _ h4 h4'
 | .dcT ks l =>
  intro e v h h';have hk:=cr I h h';cases e<;>first | (simp [bL] at hk;done) | skip
  simp only [Rep] at h h';obtain ⟨a,vs,rfl,h2,h3,h4⟩:=h;obtain ⟨b,ws,e,h2',h3',h4'⟩:=h';cases e;have:=DR h2 h2';subst this;subst h3 h3';simp only [pqn,pqt,pql,pqd,pqD,pqi,decide_true,qn2];exact reps_inj I l _ _ h4 h4'
 | .ins c ns l =>
  intro e v h h';have hk:=cr I h h';cases e<;>first | (simp [bL] at hk;done) | skip
  simp only [pqn,pqt,pql,pqd,pqD,pqi]
 | .non =>intro e v h h';have hk:=cr I h h';cases e<;>first | (simp [bL] at hk;done) | simp only [pqn,pqt,pql,pqd,pqD,pqi]
 | .bl b =>intro e v h h';have hk:=cr I h h';cases e<;>first | (simp [bL] at hk;done) | (simp only [Rep] at h h';rw [h] at h';cases h';exact iu _)
 | .int b =>intro e v h h';have hk:=cr I h h';cases e<;>first | (simp [bL] at hk;done) | (simp only [Rep] at h h';rw [h] at h';cases h';exact iu _)
 | .str b =>intro e v h h';have hk:=cr I h h';cases e<;>first | (simp [bL] at hk;done) | (simp only [Rep] at h h';rw [h] at h';cases h';exact iu _)
theorem reps_inj (I:Inv X pins σ H s):∀ (l m:List Dt) (vs:List V),Reps X.K H l vs->Reps X.K H m vs->peqs l m=true:=fun l=>by
 match l with
 | [] =>
  intro m vs h h';cases m with
  | nil=>simp only [peqs]
  | cons e m=>unfold Reps at h h';obtain ⟨v,ws,e,_⟩:=h';rw [h] at e;cases e
 | d::l =>
  intro m vs h h';cases m with
  | nil=>unfold Reps at h h';obtain ⟨v,ws,e,_⟩:=h;rw [h'] at e;cases e
  | cons e m =>unfold Reps at h h';obtain ⟨v,ws,rfl,h2,h3⟩:=h;obtain ⟨v',ws',e',h2',h3'⟩:=h';cases e';simp only [peqs,jL I d _ _ h2 h2',reps_inj I l _ _ h3 h3',zb7]
end
end
end L2
namespace L2
open PySem PySem.Spec PyProof.Rows
mutual
df b7:Dt->Dt->Bool
 | .tup l,.tup m=>cmpbs l m
 | .lst l,.lst m=>cmpbs l m
 | d,e=>decide (bL d<4)&&decide (bL e<4)
df cmpbs:List Dt->List Dt->Bool
 | d::l,e::m=>b7 d e&&cmpbs l m
 | _,_=>true
end
theorem dX:∀ {l m:List Dt} {j:Nat} {d e:Dt},cmpbs l m=true->l[j]?=some d->m[j]?=some e->b7 d e=true
 | [],_,j,d,e,_,h,_=>by simp at h
 | _::_,[],j,d,e,_,_,h=>by simp at h
 | d0::l,e0::m,0,d,e,h,h1,h2=>by simp only [cmpbs,qb4] at h;simp at h1 h2;subst h1 h2;exact h.1
 | d0::l,e0::m,j+1,d,e,h,h1,h2=>by simp only [cmpbs,qb4] at h;exact dX (j:=j) h.2 (by simpa using h1) (by simpa using h2)
theorem fM:∀ {l:List Dt} {j:Nat} {d:Dt},l[j]?=some d->cF d<=deeps l
 | [],j,d,h=>by simp at h
 | d0::l,0,d,h=>by simp at h;subst h;simp only [deeps];exact Nat.le_max_left ..
 | d0::l,j+1,d,h=>by simp only [deeps];exact qc3 (fM (j:=j) (by simpa using h)) (Nat.le_max_right ..)
df b8 (l m:List Dt) (j:Nat):Bool:=peq (l.getD j .non) (m.getD j .non)
theorem dl:∀ (l m:List Dt),peqs l m=((qc1 (min l.length m.length)).all (b8 l m)&&l.length==m.length)
 | [],[]=>by simp [peqs]
 | [],_::_=>by simp [peqs]
 | _::_,[]=>by simp [peqs]
 | d::l,e::m=>by
  have U:=dl l m;simp only [peqs,U,qe7];rw [show min (l.length+1) (m.length+1)=min l.length m.length+1 by oo,qu0,qp2,List.all_map];have q:b8 (d::l) (e::m) 0=peq d e:=rfl
  have e2:(b8 (d::l) (e::m) ∘ Nat.succ)=b8 l m:=by funext j;rfl
  have O:(l.length+1==m.length+1)=(l.length==m.length):=by rw [qi8];simp
  rw [q,e2,O,Bool.and_assoc]
variable {K:PySem.W.Frag}
section
variable {X:Cx} {pins:List (Addr×Obj)} {σ:St} {H:Hp} {s:qa4}
theorem bN {l:List Dt} {vs:List V} {its:List Value} (h:Reps X.K H l vs) (r:Vals vs its) {j:Nat} (q:j<its.length):∃ d v,l[j]?=some d/\Rep X.K H d v/\RelV v its[j]:=by
 have U:j<l.length:=by rw [<- h.length,r.length];exact q
 obtain ⟨v,Y,e2⟩:=h.get (i:=j) (d:=l[j]) (by simp [U]);obtain ⟨u,O,W⟩:=r.get Y
 have:its[j]=u:=by have:=gQ q;rw [this] at O;exact qd9 O
 exact ⟨l[j],v,by simp [U],e2,by rw [this];exact W⟩
theorem vp (I:Inv X pins σ H s):∀ (n:Nat) {A:qe0} {d e:Dt} {v w:V} {u u':Value},cF d<=n->A.units+n<cLine->b7 d e=true->Rep X.K H d v->Rep X.K H e w->RelV v u->RelV w u'->qg1 A s u u' (peq d e):=by
 intro n;induction n with
 | zero =>
  intro A d e v w u u' hd hu q h h' r r'
  cases d<;>cases e<;>first
   | (simp only [Rep] at h h';subst h h';exact iV r r' rfl rfl)
   | (simp only [cF] at hd;oo)
   | (simp [b7,bL] at q)
 | succ n ih =>
  intro A d e v w u u' hd hu q h h' r r';cases d with
  | tup l =>
   cases e with
   | tup m =>
    have h0:=h;have h0':=h';simp only [Rep] at h h';obtain ⟨a,vs,rfl,h2,h3⟩:=h;obtain ⟨b,ws,rfl,O,h3'⟩:=h';cases r;cases r';by_cases W:a=b
    . subst W;have:=jL I _ _ _ h0 h0';rw [this];exact ze3 _
    obtain ⟨its,rv,pt,_⟩:=I.tuple h2;obtain ⟨its',Z,pt',_⟩:=I.tuple O;have n1:its.length=l.length:=by rw [<- h3.length,rv.length]
    have n2:its'.length=m.length:=by rw [<- h3'.length,Z.length]
    simp only [pqn,pqt,pql,pqd,pqD,pqi];rw [dl,<- n1,<- n2];simp only [cF] at hd;simp only [b7] at q
    have key:=za5.tuples (A:=A) (e:=b8 l m) pt pt' \3 (fun j h1 h2=>by
     have h1':j<its.length:=by simpa using h1
     have O:j<its'.length:=by simpa using h2
     obtain ⟨d,v,g1,g2,g3⟩:=bN h3 rv h1';obtain ⟨e,w,Y,g2',g3'⟩:=bN h3' Z O;have:b8 l m j=peq d e:=by unfold b8;rw [qb3,qb3,g1,Y];rfl
     rw [this];have:=ih (A:=A.in1) (qc3 (fM g1) \3) (show A.units+1+n<cLine by oo) (dX q g1 Y) g2 g2' g3 g3';simpa using this)
    have key':za5 A s (.ref a) (.ref b) ((qc1 (min its.length its'.length)).all (b8 l m)&&its.length==its'.length):=by simpa using key
    exact qz5 W key'
   | _=>exact absurd q (by simp [b7,bL])
  | lst l =>
   cases e with
   | lst m =>
    have h0:=h;have h0':=h';simp only [Rep] at h h';obtain ⟨a,vs,rfl,h2,h3⟩:=h;obtain ⟨b,ws,rfl,O,h3'⟩:=h';cases r;cases r';by_cases W:a=b
    . subst W;have:=jL I _ _ _ h0 h0';rw [this];exact ze3 _
    obtain ⟨its,rv,pt,_⟩:=I.list h2;obtain ⟨its',Z,pt',_⟩:=I.list O;have n1:its.length=l.length:=by rw [<- h3.length,rv.length]
    have n2:its'.length=m.length:=by rw [<- h3'.length,Z.length]
    simp only [pqn,pqt,pql,pqd,pqD,pqi];rw [dl,<- n1,<- n2];simp only [cF] at hd;simp only [b7] at q;by_cases U:its.length=its'.length
    . have key:=za5.lists (A:=A) (e:=b8 l m) pt.isList pt'.isList (by simpa using U) \3 (fun j h1 h2=>by
       have h1':j<its.length:=by simpa using h1
       have O:j<its'.length:=by simpa using h2
       obtain ⟨d,v,g1,g2,g3⟩:=bN h3 rv h1';obtain ⟨e,w,Y,g2',g3'⟩:=bN h3' Z O;have:b8 l m j=peq d e:=by unfold b8;rw [qb3,qb3,g1,Y];rfl
       rw [this];have:=ih (A:=A.in1) (qc3 (fM g1) \3) (show A.units+1+n<cLine by oo) (dX q g1 Y) g2 g2' g3 g3';simpa using this)
      have e1:(its.length==its'.length)=true:=by simpa using U
      rw [e1,qw5,show min its.length its'.length=its.length by oo];exact qz5 W (by simpa using key)
    . have e1:(its.length==its'.length)=false:=by simpa using U
      rw [e1,qu9];exact qz5 W (za6 pt.isList pt'.isList (by simpa using U) \3)
   | _=>exact absurd q (by simp [b7,bL])
  | non=>cases e<;>first | (simp only [Rep] at h h';subst h h';exact iV r r' rfl rfl) | (simp [b7,bL] at q)
  | bl b=>cases e<;>first | (simp only [Rep] at h h';subst h h';exact iV r r' rfl rfl) | (simp [b7,bL] at q)
  | int b=>cases e<;>first | (simp only [Rep] at h h';subst h h';exact iV r r' rfl rfl) | (simp [b7,bL] at q)
  | str b=>cases e<;>first | (simp only [Rep] at h h';subst h h';exact iV r r' rfl rfl) | (simp [b7,bL] at q)
  | dct ks l=>cases e<;>(simp [b7,bL] at q)
  | dcT ks l=>cases e<;>(simp [b7,bL] at q)
  | ins c ns l=>cases e<;>(simp [b7,bL] at q)
theorem Ao (I:Inv X pins σ H s) {A:qe0} {d e:Dt} {v w:V} {u u':Value} (hq:(∃ l m,d=.tup l/\e=.tup m)∨∃ l m,d=.lst l/\e=.lst m) (hu:A.units+cF d<cLine) (hc:b7 d e=true) (h:Rep X.K H d v) (h':Rep X.K H e w) (r:RelV v u) (r':RelV w u') :
  za5 A s u u' (peq d e)/\ze6 A s u u' (!peq d e):=by
 rcases hq with ⟨l,m,rfl,rfl⟩ | ⟨l,m,rfl,rfl⟩
 . simp only [Rep] at h h';obtain ⟨a,vs,rfl,h2,h3⟩:=h;obtain ⟨b,ws,rfl,O,Z⟩:=h';cases r;cases r';obtain ⟨its,rv,pt,_⟩:=I.tuple h2;obtain ⟨its',Y,U,_⟩:=I.tuple O;have n1:its.length=l.length:=by rw [<- h3.length,rv.length]
   have n2:its'.length=m.length:=by rw [<- Z.length,Y.length]
   simp only [pqn,pqt,pql,pqd,pqD,pqi];rw [dl,<- n1,<- n2];simp only [cF] at hu;simp only [b7] at hc
   have he:∀ j (h1:j<its.toArray.size) (h2:j<its'.toArray.size),qg1 A.in1 s its.toArray[j] its'.toArray[j] (b8 l m j):=fun j h1 h2=>by
    have h1':j<its.length:=by simpa using h1
    have O:j<its'.length:=by simpa using h2
    obtain ⟨d,v,g1,g2,g3⟩:=bN h3 rv h1';obtain ⟨e,w,W,g2',g3'⟩:=bN Z Y O;have:b8 l m j=peq d e:=by unfold b8;rw [qb3,qb3,g1,W];rfl
    rw [this];have:=vp I (deeps l) (A:=A.in1) (fM g1) (show A.units+1+deeps l<cLine by oo) (dX hc g1 W) g2 g2' g3 g3';simpa using this
   exact ⟨by simpa using za5.tuples (A:=A) (e:=b8 l m) pt U \3 he,by simpa using ze6.tuples (A:=A) (e:=b8 l m) pt U \3 he⟩
 . simp only [Rep] at h h';obtain ⟨a,vs,rfl,h2,h3⟩:=h;obtain ⟨b,ws,rfl,O,Z⟩:=h';cases r;cases r';obtain ⟨its,rv,pt,_⟩:=I.list h2;obtain ⟨its',Y,U,_⟩:=I.list O;have n1:its.length=l.length:=by rw [<- h3.length,rv.length]
   have n2:its'.length=m.length:=by rw [<- Z.length,Y.length]
   simp only [pqn,pqt,pql,pqd,pqD,pqi];rw [dl,<- n1,<- n2];simp only [cF] at hu;simp only [b7] at hc;by_cases q:its.length=its'.length
   . have he:∀ j (h1:j<its.toArray.size) (h2:j<its'.toArray.size),qg1 A.in1 s its.toArray[j] its'.toArray[j] (b8 l m j):=fun j h1 h2=>by
      have h1':j<its.length:=by simpa using h1
      have O:j<its'.length:=by simpa using h2
      obtain ⟨d,v,g1,g2,g3⟩:=bN h3 rv h1';obtain ⟨e,w,W,g2',g3'⟩:=bN Z Y O;have:b8 l m j=peq d e:=by unfold b8;rw [qb3,qb3,g1,W];rfl
      rw [this];have:=vp I (deeps l) (A:=A.in1) (fM g1) (show A.units+1+deeps l<cLine by oo) (dX hc g1 W) g2 g2' g3 g3';simpa using this
     have e1:(its.length==its'.length)=true:=by simpa using q
     rw [e1,qw5,show min its.length its'.length=its.length by oo];exact ⟨by simpa using za5.lists (A:=A) (e:=b8 l m) pt.isList U.isList (by simpa using q) \3 he,by simpa using ze6.lists (A:=A) (e:=b8 l m) pt.isList U.isList (by simpa using q) \3 he⟩
   . have e1:(its.length==its'.length)=false:=by simpa using q
     rw [e1,qu9];exact ⟨za6 pt.isList U.isList (by simpa using q) \3,ze6.lists_lengths pt.isList U.isList (by simpa using q) \3⟩
df yl (K:PySem.W.Frag) (neg:Bool):R2:=fun x y H Q=>∃ d e,((∃ l m,d=.tup l/\e=.tup m)∨∃ l m,d=.lst l/\e=.lst m)/\Rep K H d x/\Rep K H e y/\b7 d e=true/\cF d<=60/\Q (.bl (if neg then !peq d e else peq d e)) H
theorem BG {k:Nat} (hr:Room k X.A) (hK:X.K=K):OpR X (qg9 .Eq) (yl K false):=by subst hK;intro pins s σ H x y v u Q I rx W h;obtain ⟨d,e,Y,O,he,Z,U,q⟩:=h;have hu:=hr.units;exact (Ao I Y \3 Z O he rx W).1 _ _ _ _ ⟨.bl (peq d e),H,I,rfl,q⟩
theorem BH {k:Nat} (hr:Room k X.A) (hK:X.K=K):OpR X (qg9 .NotEq) (yl K true):=by subst hK;intro pins s σ H x y v u Q I rx W h;obtain ⟨d,e,Y,O,he,Z,U,q⟩:=h;have hu:=hr.units;exact (Ao I Y \3 Z O he rx W).2 _ _ _ _ ⟨.bl (!peq d e),H,I,rfl,q⟩
end
end L2
namespace L2
open PySem PySem.Spec PyProof.Rows
structure Step (F H F' H':Hp):Prop where
 hh:Same H H'
 ff:Same F F'
 fh:Same F' H'
 nw:∀ b o,F' b=some o->F b=some o∨H b=none
section
variable {F H F' H' F1 H1:Hp} {p:Addr} {o:HO}
theorem Step.refl (h:Same F H):Step F H F H:=⟨Same.refl _,Same.refl _,h,fun _ _ e=>.inl e⟩
theorem Step.trans (a:Step F H F1 H1) (b:Step F1 H1 F' H'):Step F H F' H':=⟨a.hh.trans b.hh,a.ff.trans b.ff,b.fh,fun c o e=>(b.nw c o e).elim (a.nw c o) fun z=>.inr (a.hh.free z)⟩
theorem Same.upd (hp:H p=none):Same H (upd H p o):=fun b u e=>by rw [ap (bn e hp)];exact e
theorem Step.new (h:Same F H) (hp:H p=none):Step F H (upd F p o) (upd H p o) where
 hh:=Same.upd hp
 ff:=Same.upd (h.free hp)
 fh:=fun b u e=>by
  by_cases q:b=p
  . subst q;rw [ar] at e ⊢;exact e
  . rw [ap q] at e ⊢;exact h _ _ e
 nw:=fun b u e=>by
  by_cases q:b=p
  . subst q;exact .inr hp
  . rw [ap q] at e;exact .inl e
theorem Step.made (h:Same F H) (hp:H p=none):Step F H F (upd H p o) where
 hh:=Same.upd hp
 ff:=Same.refl _
 fh:=h.trans (Same.upd hp)
 nw:=fun b u e=>.inl e
end
inductive Fl where
 | leaf (d:Dt) | lst (l:List Dt) | dct (l:List (Key×Dt)) | dcT (l:List (List Key×Dt))
df Fl.d:Fl->Dt
 | .leaf d=>d
 | .lst l=>.lst l
 | .dct l=>.dct (l.map (·.1)) (l.map (·.2))
 | .dcT l=>.dcT (l.map (·.1)) (l.map (·.2))
inductive T where
 | leaf (d:Dt) | lst (l:List Dt) | dct (l:List (Key×Dt)) | dcT (l:List (List Key×Dt)) | obj (c:Str) (ns:List Str) (l:List Fl) | pin (a:Addr) (t:T)
df T.d:T->Dt
 | .leaf d=>d
 | .lst l=>.lst l
 | .dct l=>.dct (l.map (·.1)) (l.map (·.2))
 | .dcT l=>.dcT (l.map (·.1)) (l.map (·.2))
 | .obj c ns l=>.ins c ns (l.map Fl.d)
 | .pin _ t=>t.d
df OwnF (K:PySem.W.Frag) (F H:Hp):Fl->V->(Addr->Prop)->Prop
 | .leaf d,v,_=>Rep K F d v
 | .lst l,v,S=>∃ a vs,v=.ref a/\S a/\H a=some (.lst vs)/\Reps K F l vs
 | .dct l,v,S=>∃ a kvs,v=.ref a/\S a/\H a=some (.dK kvs)/\kvs.map (·.1)=l.map (·.1)/\Reps K F (l.map (·.2)) (kvs.map (·.2))
 | .dcT l,v,S=>∃ a kvs,v=.ref a/\S a/\H a=some (.dT kvs)/\kvs.map (·.1)=l.map (·.1)/\Reps K F (l.map (·.2)) (kvs.map (·.2))
structure OwnFs (K:PySem.W.Frag) (F H:Hp) (l:List Fl) (vs:List V) (a:Addr) (S:Addr->Prop) (Z:Nat->Addr->Prop):Prop where
 len:l.length=vs.length
 own:∀ i f v,l[i]?=some f->vs[i]?=some v->OwnF K F H f v (Z i)
 sub:∀ i b,Z i b->S b/\b≠a
 dis:∀ i j b,Z i b->Z j b->i=j
df Own (K:PySem.W.Frag) (F H:Hp):T->V->(Addr->Prop)->Prop
 | .leaf d,v,_=>Rep K F d v
 | .lst l,v,S=>∃ a vs,v=.ref a/\S a/\H a=some (.lst vs)/\Reps K F l vs
 | .dct l,v,S=>∃ a kvs,v=.ref a/\S a/\H a=some (.dK kvs)/\kvs.map (·.1)=l.map (·.1)/\Reps K F (l.map (·.2)) (kvs.map (·.2))
 | .dcT l,v,S=>∃ a kvs,v=.ref a/\S a/\H a=some (.dT kvs)/\kvs.map (·.1)=l.map (·.1)/\Reps K F (l.map (·.2)) (kvs.map (·.2))
 | .obj c ns l,v,S=>∃ a C dx fs Z,v=.ref a/\S a/\vn K c C/\H a=some (.ins C dx fs)/\fs.map (·.1)=ns/\OwnFs K F H l (fs.map (·.2)) a S Z
 | .pin a t,v,S=>v=.ref a/\(∀ d,t≠.leaf d)/\Own K F H t v S
df RepB (K:PySem.W.Frag) (F H:Hp):Dt->V->Prop
 | .lst l,v=>∃ a vs,v=.ref a/\SqL K H a vs/\Reps K F l vs
 | .dct ks l,v=>∃ a kvs,v=.ref a/\Rd H a (.dK kvs)/\kvs.map (·.1)=ks/\Reps K F l (kvs.map (·.2))
 | .dcT ks l,v=>∃ a kvs,v=.ref a/\Rd H a (.dT kvs)/\kvs.map (·.1)=ks/\Reps K F l (kvs.map (·.2))
 | .ins c ns l,v=>Rep K H (.ins c ns l) v
 | .non,v=>v=.non
 | .bl b,v=>v=.bl b
 | .int i,v=>v=.int i
 | .str x,v=>v=.str x
 | .tup l,v=>∃ a vs,v=.ref a/\SqT K F a vs/\Reps K F l vs
variable {K:PySem.W.Frag} {H F' H':Hp} {v:V}
theorem OwnF.step {F:Hp} {t:Fl} {S:Addr->Prop} (ff:Same F F') (O:∀ b o,S b->H b=some o->H' b=some o) (h:OwnF K F H t v S):OwnF K F' H' t v S:=by
 cases t with
 | leaf d=>exact Rep.same ff h
 | lst l =>obtain ⟨a,vs,e,q,h1,h2⟩:=h;exact ⟨a,vs,e,q,O _ _ q h1,h2.same ff⟩
 | dct l =>obtain ⟨a,vs,e,q,h1,h2,h3⟩:=h;exact ⟨a,vs,e,q,O _ _ q h1,h2,h3.same ff⟩
 | dcT l =>obtain ⟨a,vs,e,q,h1,h2,h3⟩:=h;exact ⟨a,vs,e,q,O _ _ q h1,h2,h3.same ff⟩
variable {G:Hp}
theorem OwnF.rep {F:Hp} {t:Fl} {S:Addr->Prop} (ff:Same F G) (O:∀ b o,S b->H b=some o->G b=some o) (h:OwnF K F H t v S):Rep K G t.d v:=by
 cases t with
 | leaf d=>exact Rep.same ff h
 | lst l =>obtain ⟨a,vs,e,q,h1,h2⟩:=h;simp only [Fl.d,Rep];exact ⟨a,vs,e,SqL.of (O _ _ q h1),h2.same ff⟩
 | dct l =>obtain ⟨a,vs,e,q,h1,h2,h3⟩:=h;simp only [Fl.d,Rep];exact ⟨a,vs,e,.inl (O _ _ q h1),h2,h3.same ff⟩
 | dcT l =>obtain ⟨a,vs,e,q,h1,h2,h3⟩:=h;simp only [Fl.d,Rep];exact ⟨a,vs,e,.inl (O _ _ q h1),h2,h3.same ff⟩
theorem oA:∀ {l:List Fl} {vs:List V},l.length=vs.length->(∀ (i:Nat) (f:Fl) (v:V),l[i]?=some f->vs[i]?=some v->Rep K G f.d v)->Reps K G (l.map Fl.d) vs
 | [],[],_,_=>by simp [Reps]
 | [],_::_,h,_=>by cases h
 | _::_,[],h,_=>by cases h
 | f::l,v::vs,h,k=>by simp only [qa7,Reps];exact ⟨v,vs,rfl,k 0 f v rfl rfl,oA (by simpa using h) fun i f v h1 h2=>k (i+1) f v (by simpa using h1) (by simpa using h2)⟩
theorem rJ {F:Hp} {c:Str} {ns:List Str} {l:List Fl} {S:Addr->Prop} (ff:Same F G) (q:∀ b o,S b->H b=some o->G b=some o) (h:Own K F H (.obj c ns l) v S):Rep K G (.ins c ns (l.map Fl.d)) v:=by obtain ⟨a,C,dx,fs,Z,e,U,W,h1,h2,h3⟩:=h;simp only [Rep];exact ⟨a,C,dx,fs,e,W,q _ _ U h1,h2,oA h3.len fun i f v O e2=>(h3.own i f v O e2).rep ff fun b o z=>q b o (h3.sub i b z).1⟩
variable {S':Addr->Prop}
section
variable {K:PySem.W.Frag} {F H F' H':Hp} {t:T} {v:V} {d:Dt} {S:Addr->Prop}
theorem Own.step (ff:Same F F') (O:∀ b o,S b->H b=some o->H' b=some o) (h:Own K F H t v S):Own K F' H' t v S:=by
 induction t with
 | leaf d=>exact Rep.same ff h
 | lst l =>obtain ⟨a,vs,e,q,h1,h2⟩:=h;exact ⟨a,vs,e,q,O _ _ q h1,h2.same ff⟩
 | dct l =>obtain ⟨a,vs,e,q,h1,h2,h3⟩:=h;exact ⟨a,vs,e,q,O _ _ q h1,h2,h3.same ff⟩
 | dcT l =>obtain ⟨a,vs,e,q,h1,h2,h3⟩:=h;exact ⟨a,vs,e,q,O _ _ q h1,h2,h3.same ff⟩
 | obj c ns l =>obtain ⟨a,C,dx,fs,Z,e,q,W,h1,h2,h3⟩:=h;exact ⟨a,C,dx,fs,Z,e,q,W,O _ _ q h1,h2,h3.len,fun i f v U e2=>(h3.own i f v U e2).step ff fun b o z=>O b o (h3.sub i b z).1,h3.sub,h3.dis⟩
 | pin a t Y=>exact ⟨h.1,h.2.1,Y h.2.2⟩
theorem Own.grow (O:∀ b,S b->S' b) (h:Own K F H t v S):Own K F H t v S':=by
 induction t with
 | leaf d=>exact h
 | lst l =>obtain ⟨a,vs,e,q,h1⟩:=h;exact ⟨a,vs,e,O _ q,h1⟩
 | dct l =>obtain ⟨a,vs,e,q,h1⟩:=h;exact ⟨a,vs,e,O _ q,h1⟩
 | dcT l =>obtain ⟨a,vs,e,q,h1⟩:=h;exact ⟨a,vs,e,O _ q,h1⟩
 | obj c ns l =>obtain ⟨a,C,dx,fs,Z,e,q,U,h1,h2,h3⟩:=h;exact ⟨a,C,dx,fs,Z,e,O _ q,U,h1,h2,h3.len,h3.own,fun i b z=>⟨O _ (h3.sub i b z).1,(h3.sub i b z).2⟩,h3.dis⟩
 | pin a t W=>exact ⟨h.1,h.2.1,W h.2.2⟩
theorem RepB.of (q:Same F H) (h:Rep K F d v):RepB K F H d v:=by
 cases d with
 | lst l =>simp only [Rep] at h;obtain ⟨a,vs,e,h1,h2⟩:=h;exact ⟨a,vs,e,q.seq h1,h2⟩
 | dct ks l =>simp only [Rep] at h;obtain ⟨a,vs,e,h1,h2⟩:=h;exact ⟨a,vs,e,q.rd h1,h2⟩
 | dcT ks l =>simp only [Rep] at h;obtain ⟨a,vs,e,h1,h2⟩:=h;exact ⟨a,vs,e,q.rd h1,h2⟩
 | tup l =>simp only [Rep] at h;exact h
 | ins c ns l=>exact Rep.same q h
 | _ =>simp only [Rep] at h;exact h
theorem RepB.rep (q:Same F H) (h:RepB K F H d v):Rep K H d v:=by
 cases d with
 | lst l =>obtain ⟨a,vs,e,h1,h2⟩:=h;simp only [Rep];exact ⟨a,vs,e,h1,h2.same q⟩
 | dct ks l =>obtain ⟨a,vs,e,h1,h2,h3⟩:=h;simp only [Rep];exact ⟨a,vs,e,h1,h2,h3.same q⟩
 | dcT ks l =>obtain ⟨a,vs,e,h1,h2,h3⟩:=h;simp only [Rep];exact ⟨a,vs,e,h1,h2,h3.same q⟩
 | tup l =>obtain ⟨a,vs,e,h1,h2⟩:=h;simp only [Rep];exact ⟨a,vs,e,q.tup h1,h2.same q⟩
 | ins c ns l=>exact h
 | _ =>simp only [Rep];exact h
theorem RepB.step (ff:Same F F') (q:Same H H') (h:RepB K F H d v):RepB K F' H' d v:=by
 cases d with
 | lst l =>obtain ⟨a,vs,e,h1,h2⟩:=h;exact ⟨a,vs,e,q.seq h1,h2.same ff⟩
 | dct ks l =>obtain ⟨a,vs,e,h1,h2,h3⟩:=h;exact ⟨a,vs,e,q.rd h1,h2,h3.same ff⟩
 | dcT ks l =>obtain ⟨a,vs,e,h1,h2,h3⟩:=h;exact ⟨a,vs,e,q.rd h1,h2,h3.same ff⟩
 | tup l =>obtain ⟨a,vs,e,h1,h2⟩:=h;exact ⟨a,vs,e,ff.tup h1,h2.same ff⟩
 | ins c ns l=>exact Rep.same q h
 | _=>exact h
theorem Own.repB (q:Same F H) (h:Own K F H t v S):RepB K F H t.d v:=by
 induction t with
 | leaf d=>exact RepB.of q h
 | lst l =>obtain ⟨a,vs,e,_,h1,h2⟩:=h;exact ⟨a,vs,e,SqL.of h1,h2⟩
 | dct l =>obtain ⟨a,vs,e,_,h1,h2⟩:=h;exact ⟨a,vs,e,.inl h1,h2⟩
 | dcT l =>obtain ⟨a,vs,e,_,h1,h2⟩:=h;exact ⟨a,vs,e,.inl h1,h2⟩
 | obj c ns l=>exact rJ q (fun _ _ _ e=>e) h
 | pin a t O=>exact O h.2.2
open Classical in
df t0 (F H:Hp) (S:Addr->Prop):Hp:=fun b=>if S b then H b else F b
theorem iw {b:Addr} (h:S b):t0 F H S b=H b:=if_pos h
theorem jX {b:Addr} (h:¬ S b):t0 F H S b=F b:=if_neg h
theorem rK (q:∀ b,S b->F b=none):Same F (t0 F H S):=fun b o e=>by
 have:¬ S b:=fun z=>by rw [q b z] at e;cases e
 rw [jX this];exact e
theorem ym (q:Same F H):Same (t0 F H S) H:=fun b o e=>by
 by_cases h:S b
 . rw [iw h] at e;exact e
 . rw [jX h] at e;exact q _ _ e
theorem Own.freeze (O:∀ b,S b->F b=none) (h:Own K F H t v S):Rep K (t0 F H S) t.d v:=by
 have ff:=rK (H:=H) O;induction t with
 | leaf d=>exact Rep.same ff h
 | lst l =>obtain ⟨a,vs,e,q,h1,h2⟩:=h;simp only [T.d,Rep];exact ⟨a,vs,e,SqL.of (by rw [iw q];exact h1),h2.same ff⟩
 | dct l =>obtain ⟨a,vs,e,q,h1,h2,h3⟩:=h;simp only [T.d,Rep];exact ⟨a,vs,e,.inl (by rw [iw q];exact h1),h2,h3.same ff⟩
 | dcT l =>obtain ⟨a,vs,e,q,h1,h2,h3⟩:=h;simp only [T.d,Rep];exact ⟨a,vs,e,.inl (by rw [iw q];exact h1),h2,h3.same ff⟩
 | obj c ns l=>exact rJ ff (fun b o z e=>by rw [iw z];exact e) h
 | pin a t U=>exact U h.2.2
end
abbrev Ix:=Nat
abbrev De:=List (Option T)
structure Sep (K:PySem.W.Frag) (F H:Hp) (B:Addr->Prop) (L:Ix->Option (T×V)) (S:Ix->Addr->Prop):Prop where
 own:∀ i t v,L i=some (t,v)->Own K F H t v (S i)
 out:∀ i b,S i b->F b=none/\(∃ o,H b=some o)/\B b
 dis:∀ i j b,S i b->S j b->i=j
df lH (δ:De) (σ:St) (i:Nat):Option (T×V):=match δ[i]?,σ[i]? with
 | some (some t),some (some v)=>some (t,v)
 | _,_=>none
structure Fm where
 K:PySem.W.Frag
 F0:Hp
 H0:Hp
 S0:Addr->Prop
df Fm.B (Φ:Fm) (b:Addr):Prop:=Φ.H0 b=none∨Φ.S0 b
structure En (Φ:Fm) (δ:De) (σ:St) (F H:Hp):Prop where
 fh:Same F H
 prot:∀ b o,Φ.H0 b=some o->¬ Φ.S0 b->H b=some o
 old:Same Φ.F0 F
 nw:∀ b o,F b=some o->Φ.F0 b=some o∨Φ.B b
 len:δ.length=σ.length
 has:∀ (i:Nat) (t:T),δ[i]?=some (some t)->∃ v,σ[i]?=some (some v)
 sep:∃ S,Sep Φ.K F H Φ.B (lH δ σ) S
variable {i:Nat} {p a:Addr}
section
variable {Φ:Fm} {δ:De} {σ:St} {F H F' H':Hp}
theorem cU {t:T} (h1:δ[i]?=some (some t)) (h2:σ[i]?=some (some v)):lH δ σ i=some (t,v):=by unfold lH;rw [h1,h2]
theorem dY {t:T} (h:lH δ σ i=some (t,v)):δ[i]?=some (some t)/\σ[i]?=some (some v):=by
 unfold lH at h;split at h
 . rename_i q e2;cases h;exact ⟨q,e2⟩
 . cases h
theorem En.fresh (e:En Φ δ σ F H) (hp:H p=none):Φ.B p:=by
 by_cases h:Φ.S0 p
 . exact .inr h
 . left;cases q:Φ.H0 p with
   | none=>rfl
   | some o=>rw [e.prot p o q h] at hp;cases hp
theorem Sep.step {B:Addr->Prop} {L:Ix->Option (T×V)} {S:Ix->Addr->Prop} (s:Sep K F H B L S) (st:Step F H F' H'):Sep K F' H' B L S where
 own:=fun i t v h=>(s.own i t v h).step st.ff fun b o _ e=>st.hh b o e
 out:=fun i b h=>by
  obtain ⟨h1,⟨o,h2⟩,h3⟩:=s.out i b h;refine ⟨?_,⟨o,st.hh _ _ h2⟩,h3⟩;cases q:F' b with
  | none=>rfl
  | some o' =>
   rcases st.nw b o' q with z | z
   . rw [h1] at z;cases z
   . rw [h2] at z;cases z
 dis:=s.dis
theorem En.step (e:En Φ δ σ F H) (st:Step F H F' H'):En Φ δ σ F' H' where
 fh:=st.fh
 prot:=fun b o h1 h2=>st.hh _ _ (e.prot b o h1 h2)
 old:=e.old.trans st.ff
 nw:=fun b o h=>by
  rcases st.nw b o h with z | z
  . exact e.nw b o z
  . exact .inr (e.fresh z)
 len:=e.len
 has:=e.has
 sep:=let ⟨S,s⟩:=e.sep;⟨S,s.step st⟩
theorem En.slot (e:En Φ δ σ F H) {t:T} (h:δ[i]?=some (some t)):∃ v,σ[i]?=some (some v)/\RepB Φ.K F H t.d v:=by obtain ⟨v,q⟩:=e.has i t h;obtain ⟨S,s⟩:=e.sep;exact ⟨v,q,(s.own i t v (cU h q)).repB e.fh⟩
theorem En.leaf (e:En Φ δ σ F H) {d:Dt} (h:δ[i]?=some (some (.leaf d))):∃ v,σ[i]?=some (some v)/\Rep Φ.K F d v:=by obtain ⟨v,q⟩:=e.has i _ h;obtain ⟨S,s⟩:=e.sep;exact ⟨v,q,s.own i _ v (cU h q)⟩
theorem eO {α:Type} {l:List (Option α)} {j:Nat} {x y:Option α} (h:(l.set i x)[j]?=some y):(i=j/\y=x)∨(i≠j/\l[j]?=some y):=by
 by_cases q:i=j
 . subst q;left;rw [List.getElem?_set] at h;simp only [if_true] at h;split at h
   . cases h;exact ⟨rfl,rfl⟩
   . cases h
 . right;rw [gN q] at h;exact ⟨q,h⟩
theorem En.put (e:En Φ δ σ F H) {t:T} (st:Step F H F' H') (ho:Own Φ.K F' H' t v S') (hs:∀ b,S' b->F' b=none/\H b=none/\∃ o,H' b=some o) (i:Nat):En Φ (δ.set i (some t)) (σ.set i (some v)) F' H':=by
 have W:=e.step st;obtain ⟨S,s⟩:=e.sep;have s':=s.step st;refine ⟨W.fh,W.prot,W.old,W.nw,by simp [e.len],fun j u h=>?_,fun j b=>if j=i then S' b else S j b,?_,?_,?_⟩
 . rcases eO h with ⟨rfl,z⟩ | ⟨Z,z⟩
   . have hi:i<σ.length:=by rw [<- e.len];have:=(gX h).1;simpa using this
     exact ⟨v,by simp [hi]⟩
   . obtain ⟨w,hw⟩:=e.has j u z;exact ⟨w,by rw [gN Z];exact hw⟩
 . intro j u w h;obtain ⟨h1,h2⟩:=dY h;rcases eO h1 with ⟨rfl,z⟩ | ⟨Z,z⟩
   . rcases eO h2 with ⟨_,U⟩ | ⟨hn2,_⟩
     . cases z;cases U;show Own _ _ _ _ _ (fun b=>if i=i then S' b else S i b);simp only [if_true];exact ho
     . exact absurd rfl hn2
   . rcases eO h2 with ⟨U,_⟩ | ⟨_,U⟩
     . exact absurd U Z
     . have:¬ j=i:=fun q=>Z q.symm
       show Own _ _ _ _ _ (fun b=>if j=i then S' b else S j b);simp only [if_neg this];exact s'.own j u w (cU z U)
 . intro j b h;split at h
   . obtain ⟨h1,h2,h3⟩:=hs b h;exact ⟨h1,h3,e.fresh h2⟩
   . exact s'.out _ b h
 . have O:∀ j b,S j b->¬ S' b:=fun j b h z=>by obtain ⟨_,⟨o,h2⟩,_⟩:=s.out j b h;rw [(hs b z).2.1] at h2;cases h2
   intro j k b Y hk;split at Y<;>split at hk
   . rename_i q1 q2;rw [q1,q2]
   . exact absurd Y (O _ b hk)
   . exact absurd hk (O _ b Y)
   . exact s.dis _ _ b Y hk
theorem t4 {t:T} {S:Addr->Prop} (U:∀ d,t≠.leaf d) (h:Own K F H t (.ref a) S):S a:=by
 induction t with
 | leaf d=>exact absurd rfl (U d)
 | lst l=>obtain ⟨b,_,e,q,_⟩:=h;cases e;exact q
 | dct l=>obtain ⟨b,_,e,q,_⟩:=h;cases e;exact q
 | dcT l=>obtain ⟨b,_,e,q,_⟩:=h;cases e;exact q
 | obj c ns l=>obtain ⟨b,_,_,_,_,e,q,_⟩:=h;cases e;exact q
 | pin b t O=>exact O h.2.1 h.2.2
theorem En.poke (e:En Φ δ σ F H) {t t':T} {o:HO} (h:δ[i]?=some (some t)) (U:σ[i]?=some (some (.ref a))) (ht:∀ d,t≠.leaf d) (Z:∀ S:Addr->Prop,S a->Own Φ.K F (upd H a o) t' (.ref a) S) :
  En Φ (δ.set i (some t')) σ F (upd H a o):=by
 obtain ⟨S,s⟩:=e.sep;have O:S i a:=t4 ht (s.own i t _ (cU h U));obtain ⟨fa,⟨oa,ha⟩,ba⟩:=s.out _ a O;have hi:i<δ.length:=(gX h).1;refine ⟨fun b u z=>?_,fun b u h1 h2=>?_,e.old,e.nw,by simp [e.len],fun j u z=>?_,S,fun j u w z=>?_,fun j b z=>?_,s.dis⟩
 . have:b≠a:=fun q=>by rw [q,fa] at z;cases z
   rw [ap this];exact e.fh _ _ z
 . have:b≠a:=fun q=>by
    subst q;rcases ba with z | z
    . rw [z] at h1;cases h1
    . exact h2 z
   rw [ap this];exact e.prot b u h1 h2
 . rcases eO z with ⟨rfl,_⟩ | ⟨Y,z⟩
   . exact ⟨_,U⟩
   . exact e.has j u z
 . obtain ⟨h1,h2⟩:=dY z;rcases eO h1 with ⟨rfl,W⟩ | ⟨Y,W⟩
   . cases W;rw [U] at h2;cases h2;exact Z _ O
   . refine (s.own j u w (cU W h2)).step (Same.refl _) fun b q hb hq=>?_
     have:b≠a:=fun y=>by subst y;exact Y (s.dis _ _ _ hb O).symm
     rw [ap this];exact hq
 . obtain ⟨h1,⟨q,h2⟩,h3⟩:=s.out j b z;refine ⟨h1,?_,h3⟩;by_cases y:b=a
   . subst y;exact ⟨o,ar⟩
   . exact ⟨q,by rw [ap y];exact h2⟩
end
df KO (K:PySem.W.Frag) (F H:Hp) (t:T) (Q:VK):Prop:=∀ v H' F' S,Step F H F' H'->Own K F' H' t v S->(∀ b,S b->F' b=none/\H b=none/\∃ o,H' b=some o)->Q v H'
df KL (K:PySem.W.Frag) (F H:Hp) (d:Dt) (Q:VK):Prop:=∀ v H' F',Step F H F' H'->Rep K F' d v->Q v H'
df KB (K:PySem.W.Frag) (F H:Hp) (d:Dt) (Q:VK):Prop:=∀ v H' F',Step F H F' H'->RepB K F' H' d v->Q v H'
section
variable {K:PySem.W.Frag} {F H F1 H1:Hp} {t:T} {d:Dt} {Q:VK}
theorem KO.step (k:KO K F H t Q) (st:Step F H F1 H1):KO K F1 H1 t Q:=fun v H' F' S s o q=>k v H' F' S (st.trans s) o fun b z=>⟨(q b z).1,st.hh.free (q b z).2.1,(q b z).2.2⟩
theorem KO.leaf (k:KO K F H (.leaf d) Q):KL K F H d Q:=fun v H' F' st r=>k v H' F' (fun _=>False) st r fun _ z=>z.elim
theorem KL.here (k:KL K F H d Q) (q:Same F H) (r:Rep K F d v):Q v H:=k v H F (Step.refl q) r
theorem KB.to (k:KB K F H d Q):KL K F H d Q:=fun v H' F' st r=>k v H' F' st (RepB.of st.fh r)
theorem KL.to (k:KL K F H t.d Q):KO K F H t Q:=fun v H' F' S st o q=>by
 refine k v H' (t0 F' H' S) ⟨st.hh,st.ff.trans (rK fun b z=>(q b z).1),ym st.fh,fun b u z=>?_⟩ (o.freeze fun b z=>(q b z).1);by_cases O:S b
 . exact .inr (q b O).2.1
 . rw [jX O] at z;exact st.nw b u z
theorem KB.toO (k:KB K F H t.d Q):KO K F H t Q:=fun v H' F' S st o q=>k v H' F' st (o.repB st.fh)
end
df tO (K:PySem.W.Frag) (f:De->Option T):TE:=fun σ H Q=>∃ Φ δ F t,Fm.K Φ=K/\En Φ δ σ F H/\f δ=some t/\KO K F H t Q
df tL (K:PySem.W.Frag) (f:De->Option Dt):TE:=fun σ H Q=>∃ Φ δ F d,Fm.K Φ=K/\En Φ δ σ F H/\f δ=some d/\KL K F H d Q
df tBd (K:PySem.W.Frag) (f:De->Option Dt):TE:=fun σ H Q=>∃ Φ δ F d,Fm.K Φ=K/\En Φ δ σ F H/\f δ=some d/\KB K F H d Q
df tTr (K:PySem.W.Frag) (f:De->Option Bool):TT:=fun σ H Q=>∃ Φ δ F b,Fm.K Φ=K/\En Φ δ σ F H/\f δ=some b/\∀ H' F',Step F H F' H'->Q b H'
df DO (X:Cx) (e:Expr) (f:De->Option T):Prop:=PE X e (tO X.K f)
df DL (X:Cx) (e:Expr) (f:De->Option Dt):Prop:=PE X e (tL X.K f)
df DB (X:Cx) (e:Expr) (f:De->Option Dt):Prop:=PE X e (tBd X.K f)
df DT (X:Cx) (e:Expr) (f:De->Option Bool):Prop:=PT X e (tTr X.K f)
df DW (X:Cx) (e:Expr) (f:De->Option Bool):Prop:=PW X e (tTr X.K f)
variable {X:Cx} {e:Expr}
theorem PE.mono {t t':TE} (h:PE X e t) (m:∀ σ H Q,t' σ H Q->t σ H Q):PE X e t':=fun pins s σ H Q I q=>h pins s σ H Q I (m _ _ _ q)
variable {t':TT}
theorem PT.mono {t:TT} (h:PT X e t) (m:∀ σ H Q,t' σ H Q->t σ H Q):PT X e t':=fun pins s σ H Q I q=>h pins s σ H Q I (m _ _ _ q)
theorem PW.mono {t:TT} (h:PW X e t) (m:∀ σ H Q,t' σ H Q->t σ H Q):PW X e t':=fun O pins s σ H Q I q=>h O pins s σ H Q I (m _ _ _ q)
theorem PA.mono {e:List Expr} {t t':TA} (h:PA X e t) (m:∀ σ H Q,t' σ H Q->t σ H Q):PA X e t':=fun pos pins s σ H Q I q=>h pos pins s σ H Q I (m _ _ _ q)
variable {tg:Expr}
theorem PI.mono {t t':TI} (h:PI X tg e t) (m:∀ σ H Q,t' σ H Q->t σ H Q):PI X tg e t':=fun pins s σ H Q I q=>h pins s σ H Q I (m _ _ _ q)
theorem PG.mono {t t':TG} (h:PG X e t) (m:∀ v σ H Q,t' v σ H Q->t v σ H Q):PG X e t':=fun pins s σ H v u Q I r q=>h pins s σ H v u Q I r (m _ _ _ _ q)
theorem PS.mono {e:Stmt} {t t':TS} (h:PS X e t) (m:∀ D σ H,t' D σ H->t D σ H):PS X e t':=fun pins s σ H Q I q=>h pins s σ H Q I (m _ _ _ q)
theorem PSs.mono {e:List Stmt} {t t':TS} (h:PSs X e t) (m:∀ D σ H,t' D σ H->t D σ H):PSs X e t':=fun pins s σ H Q I q=>h pins s σ H Q I (m _ _ _ q)
theorem PE.or {t t':TE} (h:PE X e t) (h':PE X e t'):PE X e (fun σ H Q=>t σ H Q∨t' σ H Q):=fun pins s σ H Q I q=>q.elim (h pins s σ H Q I) (h' pins s σ H Q I)
theorem PI.or {t t':TI} (h:PI X tg e t) (h':PI X tg e t'):PI X tg e (fun σ H Q=>t σ H Q∨t' σ H Q):=fun pins s σ H Q I q=>q.elim (h pins s σ H Q I) (h' pins s σ H Q I)
variable {x:Str} {r:R2} {σ:St} {Q:VK} {l ds:List Dt} {vs:List V} {n:Nat} {ps:List Str} {ff:List Dt->Option T}
section
variable {X:Cx} {e a b c:Expr} {f:De->Option T} {g fa fb fc:De->Option Dt} {pos:Pos}
df toD (f:De->Option T):De->Option Dt:=fun δ=>(f δ).map T.d
df toT (f:De->Option Dt):De->Option T:=fun δ=>(f δ).map T.leaf
theorem DO.toL (h:DO X e f):DL X e (toD f):=PE.mono h fun σ H Q ⟨Φ,δ,F,d,U,en,q,k⟩=>by
 unfold toD at q;cases O:f δ with
 | none=>rw [O] at q;cases q
 | some t =>rw [O] at q;cases q;exact ⟨Φ,δ,F,t,U,en,O,k.to⟩
theorem DO.toB (h:DO X e f):DB X e (toD f):=PE.mono h fun σ H Q ⟨Φ,δ,F,d,U,en,q,k⟩=>by
 unfold toD at q;cases O:f δ with
 | none=>rw [O] at q;cases q
 | some t =>rw [O] at q;cases q;exact ⟨Φ,δ,F,t,U,en,O,k.toO⟩
theorem DL.toB (h:DL X e g):DB X e g:=PE.mono h fun σ H Q ⟨Φ,δ,F,d,q,en,O,k⟩=>⟨Φ,δ,F,d,q,en,O,k.to⟩
theorem DL.toO (h:DL X e g):DO X e (toT g):=PE.mono h fun σ H Q ⟨Φ,δ,F,t,U,en,q,k⟩=>by
 unfold toT at q;cases O:g δ with
 | none=>rw [O] at q;cases q
 | some d =>rw [O] at q;cases q;exact ⟨Φ,δ,F,d,U,en,O,k.leaf⟩
df vL (i:Nat):De->Option Dt:=fun δ=>match δ[i]? with
 | some (some (.leaf d))=>some d
 | _=>none
df vB (i:Nat):De->Option Dt:=fun δ=>match δ[i]? with
 | some (some t)=>some t.d
 | _=>none
theorem BJ (h:PE X e (jx i)):DL X e (vL i):=PE.mono h fun σ H Q ⟨Φ,δ,F,d,U,en,O,k⟩=>by
 unfold vL at O;split at O
 . rename_i q;cases O;obtain ⟨v,h1,h2⟩:=en.leaf q;exact ⟨v,h1,k.here en.fh (U▸h2)⟩
 . cases O
theorem BK (h:PE X e (jx i)):DB X e (vB i):=PE.mono h fun σ H Q ⟨Φ,δ,F,d,U,en,O,k⟩=>by
 unfold vB at O;split at O
 . rename_i q;cases O;obtain ⟨v,h1,h2⟩:=en.slot q;exact ⟨v,h1,k v H F (Step.refl en.fh) (U▸h2)⟩
 . cases O
df kD (d:Dt):De->Option Dt:=fun _=>some d
theorem vq {d:Dt} (h:PE X e (tC v)) (r:∀ F,Rep X.K F d v):DL X e (kD d):=PE.mono h fun σ H Q ⟨Φ,δ,F,d',O,en,q,k⟩=>by cases q;exact k.here en.fh (r F)
theorem aK {i:Int} {j}:DL X (.Constant (.int i) j pos) (kD (.int i)):=vq A4 fun F=>by simp only [Rep]
theorem dZ {i:Bool} {j}:DL X (.Constant (.bool i) j pos) (kD (.bl i)):=vq Dp fun F=>by simp only [Rep]
theorem gY {j}:DL X (.Constant .none j pos) (kD .non):=vq A5 fun F=>by simp only [Rep]
theorem mQ {j}:DL X (.Constant (.str x) j pos) (kD (.str x)):=vq A6 fun F=>by simp only [Rep]
df R2D (K:PySem.W.Frag) (r:R2) (g:Dt->Dt->Option T):Prop:=∀ F H x y vx vy (Q:VK) t,Same F H->RepB K F H x vx->RepB K F H y vy->g x y=some t->KO K F H t Q->r vx vy H Q
df d2 (g:Dt->Dt->Option T) (fa fb:De->Option Dt):De->Option T:=fun δ=>(fa δ).bind fun x=>(fb δ).bind fun y=>g x y
theorem lI {g:Dt->Dt->Option T} (hr:R2D K r g) (h:tO K (d2 g fa fb) σ H Q):tOp r (tBd K fa) (tBd K fb) σ H Q:=by obtain ⟨Φ,δ,F,t,W,en,O,k⟩:=h;unfold d2 at O;obtain ⟨x,Y,O⟩:=bS O;obtain ⟨y,hy,O⟩:=bS O;exact ⟨Φ,δ,F,x,W,en,Y,fun v H1 F1 st Z=>⟨Φ,δ,F1,y,W,en.step st,hy,fun v2 H2 F2 q U=>hr F2 H2 x y v v2 Q t q.fh (Z.step q.ff q.hh) U O (k.step (st.trans q))⟩⟩
theorem aO {q:zj4} {g:Dt->Dt->Option T} (O:OpR X (qk0 q) r) (U:R2D X.K r g) (Y:DB X a fa) (W:DB X b fb):DO X (.BinOp a q b pos) (d2 g fa fb):=PE.mono (Ae O Y W) fun σ H Q h=>lI U h
theorem dm {q:CmpOp} {g:Dt->Dt->Option T} (U:OpR X (qg9 q) r) (W:R2D X.K r g) (Z:DB X a fa) (Y:DB X b fb) (O:qj9 q b=false):DO X (.Compare a [q] [b] pos) (d2 g fa fb):=PE.mono (xU U Z Y O) fun σ H Q h=>lI W h
df asB:T->Option Bool
 | .leaf (.bl b)=>some b
 | _=>none
df tB2 (g:Dt->Dt->Option T) (fa fb:De->Option Dt):De->Option Bool:=fun δ=>(d2 g fa fb δ).bind asB
theorem rL {F:Hp} {t:T} {S:Addr->Prop} {b:Bool} (h:asB t=some b) (o:Own K F H t v S):v=.bl b:=by
 unfold asB at h;split at h
 . cases h;have o:Rep K F (.bl b) v:=o;simp only [Rep] at o;exact o
 . cases h
theorem eQ {O:CmpOp} {g:Dt->Dt->Option T} (ho:OpR X (qg9 O) r) (hr:R2D X.K r g) (U:DB X a fa) (hb:DB X b fb) (Z:qj9 O b=false):DT X (.Compare a [O] [b] pos) (tB2 g fa fb):=PT.mono (jJ ho U hb Z) fun σ H Q ⟨Φ,δ,F,t,W,en,q,k⟩=>by unfold tB2 at q;obtain ⟨z,Y,q⟩:=bS q;refine lI hr ⟨Φ,δ,F,z,W,en,Y,fun v H' F' S st o hs=>?_⟩;exact ⟨t,rL q o,k H' F' st⟩
df vv:Dt->Option Bool
 | .non=>some false
 | .bl b=>some b
 | .int i=>some (i != 0)
 | .str x=>if x.length<=qb2 then some ((x.length:Int) != 0) else none
 | .tup l=>some (!l.isEmpty)
 | .lst l=>some (!l.isEmpty)
 | _=>none
df jA (f:De->Option Dt):De->Option Bool:=fun δ=>(f δ).bind vv
theorem ix {F:Hp} (h:Reps K F l vs):l.isEmpty=vs.isEmpty:=by
 cases l with
 | nil=>unfold Reps at h;rw [h];rfl
 | cons d l=>unfold Reps at h;obtain ⟨v,q,rfl,_⟩:=h;rfl
theorem rM {F:Hp} {d:Dt} {b:Bool} (O:Same F H) (h:RepB K F H d v) (q:vv d=some b):Bo K v H b:=by
 cases d with
 | non=>cases h;cases q;rfl
 | bl x=>cases h;cases q;rfl
 | int x=>cases h;cases q;rfl
 | str x =>
  cases h;simp only [vv] at q;split at q
  . cases q;exact ⟨by assumption,rfl⟩
  . cases q
 | tup l =>obtain ⟨a,vs,rfl,h1,h2⟩:=h;cases q;exact .inr (.inl ⟨vs,O.tup h1,by rw [ix h2]⟩)
 | lst l =>obtain ⟨a,vs,rfl,h1,h2⟩:=h;cases q;exact .inl ⟨vs,h1,by rw [ix h2]⟩
 | dct ks l=>cases q
 | dcT ks l=>cases q
 | ins c ns l=>cases q
theorem jY (W:DB X a fa) (Z:∀ q,isTrue a X.env q=(do let v <- q;standAt a.pos;zb2 [v] (truthy v))):DT X a (jA fa):=PT.mono (n5 W Z) fun σ H Q ⟨Φ,δ,F,b,Y,en,O,k⟩=>by unfold jA at O;obtain ⟨d,U,O⟩:=bS O;exact ⟨Φ,δ,F,d,Y,en,U,fun v H' F' st r=>⟨b,rM st.fh r O,k H' F' st⟩⟩
df mR (f:De->Option Bool):De->Option Bool:=fun δ=>(f δ).map (!·)
df cH (f g:De->Option Bool):De->Option Bool:=fun δ=>(f δ).bind fun b=>if b then g δ else some false
df fOr (f g:De->Option Bool):De->Option Bool:=fun δ=>(f δ).bind fun b=>if b then some true else g δ
variable {ta tb tc:De->Option Bool} {rest:List Expr}
theorem p9 (h:DT X a ta):DT X (.UnaryOp .Not a pos) (mR ta):=PT.mono (uO h) fun σ H Q ⟨Φ,δ,F,b,U,en,O,k⟩=>by
 unfold mR at O;cases q:ta δ with
 | none=>rw [q] at O;cases O
 | some c =>rw [q] at O;cases O;exact ⟨Φ,δ,F,c,U,en,q,fun H' F' st=>k H' F' st⟩
theorem yn (h:DT X a ta):DW X (.BoolOp .And [a] pos) ta:=qX h
theorem vz (h:DT X a ta):DW X (.BoolOp .Or [a] pos) ta:=uM h
theorem vA (h:DT X a ta) (h':DW X (.BoolOp .And (b::rest) pos) tb):DW X (.BoolOp .And (a::b::rest) pos) (cH ta tb):=PW.mono (uN h h') fun σ H Q ⟨Φ,δ,F,t,U,en,O,k⟩=>by
 unfold cH at O;obtain ⟨c,Y,O⟩:=bS O;refine ⟨Φ,δ,F,c,U,en,Y,fun H' F' st=>?_⟩;split at O
 . rename_i q;rw [if_pos q];exact ⟨Φ,δ,F',t,U,en.step st,O,fun H2 Z W=>k H2 Z (st.trans W)⟩
 . rename_i q;rw [if_neg q];cases O;exact k H' F' st
theorem rN (h:DT X a ta) (h':DW X (.BoolOp .Or (b::rest) pos) tb):DW X (.BoolOp .Or (a::b::rest) pos) (fOr ta tb):=PW.mono (z0 h h') fun σ H Q ⟨Φ,δ,F,t,U,en,O,k⟩=>by
 unfold fOr at O;obtain ⟨c,Y,O⟩:=bS O;refine ⟨Φ,δ,F,c,U,en,Y,fun H' F' st=>?_⟩;split at O
 . rename_i q;rw [if_pos q];cases O;exact k H' F' st
 . rename_i q;rw [if_neg q];exact ⟨Φ,δ,F',t,U,en.step st,O,fun H2 Z W=>k H2 Z (st.trans W)⟩
theorem DW.t (h:DW X a ta):DT X a ta:=h.pt
df mT:Dt->Option Bool
 | .bl b=>some b
 | _=>none
df yo (f:De->Option Dt):De->Option T:=fun δ=>(f δ).bind fun x=>(mT x).map fun b=>.leaf (.bl (!b))
df lh (f:De->Option Dt) (g:De->Option T):De->Option T:=fun δ=>(f δ).bind fun x=>(mT x).bind fun b=>if b then g δ else some (.leaf (.bl false))
df vOr (f:De->Option Dt) (g:De->Option T):De->Option T:=fun δ=>(f δ).bind fun x=>(mT x).bind fun b=>if b then some (.leaf (.bl true)) else g δ
df vIf (c:De->Option Bool) (f g:De->Option T):De->Option T:=fun δ=>(c δ).bind fun b=>if b then f δ else g δ
theorem mU {F:Hp} {x:Dt} {b:Bool} (h:mT x=some b) (r:RepB K F H x v):v=.bl b:=by
 unfold mT at h;split at h
 . cases h;exact r
 . cases h
theorem mV {F:Hp} {b:Bool}:Rep K F (.bl b) (.bl b):=by simp only [Rep]
theorem gn {F:Hp} {b:Int}:Rep K F (.int b) (.int b):=by simp only [Rep]
theorem iy {F:Hp} {b:Str}:Rep K F (.str b) (.str b):=by simp only [Rep]
theorem iz {F:Hp}:Rep K F .non .non:=by simp only [Rep]
variable {oa ob:De->Option T}
theorem vC (h:DB X a fa):DO X (.UnaryOp .Not a pos) (yo fa):=PE.mono (A9 h) fun σ H Q ⟨Φ,δ,F,t,W,en,O,k⟩=>by
 unfold yo at O;obtain ⟨x,U,O⟩:=bS O;cases q:mT x with
 | none=>rw [q] at O;cases O
 | some b =>rw [q] at O;cases O;exact ⟨Φ,δ,F,x,W,en,U,fun v H' F' st r=>⟨b,mU q r,(k.step st).leaf.here st.fh mV⟩⟩
theorem vD {op} (h:DO X a oa):DO X (.BoolOp op [a] pos) oa:=A7 h
theorem vE (h:DB X a fa) (h':DO X (.BoolOp .And (b::rest) pos) ob):DO X (.BoolOp .And (a::b::rest) pos) (lh fa ob):=PE.mono (A8 h h') fun σ H Q ⟨Φ,δ,F,t,U,en,O,k⟩=>by
 unfold lh at O;obtain ⟨x,W,O⟩:=bS O;obtain ⟨b,Y,O⟩:=bS O;refine ⟨Φ,δ,F,x,U,en,W,fun v H' F' st r=>⟨b,mU Y r,?_⟩⟩;split at O
 . rename_i q;rw [if_pos q];exact ⟨Φ,δ,F',t,U,en.step st,O,k.step st⟩
 . rename_i q;rw [if_neg q];cases O;exact (k.step st).leaf.here st.fh mV
theorem DU (h:DB X a fa) (h':DO X (.BoolOp .Or (b::rest) pos) ob):DO X (.BoolOp .Or (a::b::rest) pos) (vOr fa ob):=PE.mono (Ds h h') fun σ H Q ⟨Φ,δ,F,t,U,en,O,k⟩=>by
 unfold vOr at O;obtain ⟨x,W,O⟩:=bS O;obtain ⟨b,Y,O⟩:=bS O;refine ⟨Φ,δ,F,x,U,en,W,fun v H' F' st r=>⟨b,mU Y r,?_⟩⟩;split at O
 . rename_i q;rw [if_pos q];cases O;exact (k.step st).leaf.here st.fh mV
 . rename_i q;rw [if_neg q];exact ⟨Φ,δ,F',t,U,en.step st,O,k.step st⟩
theorem Ap (Y:DT X c tc) (h:DO X a oa) (h':DO X b ob):DO X (.IfExp c a b pos) (vIf tc oa ob):=PE.mono (nX Y h h') fun σ H Q ⟨Φ,δ,F,t,U,en,O,k⟩=>by
 unfold vIf at O;obtain ⟨x,W,O⟩:=bS O;refine ⟨Φ,δ,F,x,U,en,W,fun H' F' st=>?_⟩;split at O
 . rename_i q;rw [if_pos q];exact ⟨Φ,δ,F',t,U,en.step st,O,k.step st⟩
 . rename_i q;rw [if_neg q];exact ⟨Φ,δ,F',t,U,en.step st,O,k.step st⟩
df RepBs (K:PySem.W.Frag) (F H:Hp):List Dt->List V->Prop
 | [],vs=>vs=[]
 | d::l,vs=>∃ v q,vs=v::q/\RepB K F H d v/\RepBs K F H l q
df tAL (K:PySem.W.Frag) (f:De->Option (List Dt)):TA:=fun σ H Q=>∃ Φ δ F ds,Fm.K Φ=K/\En Φ δ σ F H/\f δ=some ds/\∀ vs H' F',Step F H F' H'->Reps K F' ds vs->Q vs H'
df tAB (K:PySem.W.Frag) (f:De->Option (List Dt)):TA:=fun σ H Q=>∃ Φ δ F ds,Fm.K Φ=K/\En Φ δ σ F H/\f δ=some ds/\∀ vs H' F',Step F H F' H'->RepBs K F' H' ds vs->Q vs H'
structure DA (X:Cx) (es:List Expr) (f:De->Option (List Dt)):Prop where
 len:∀ δ ds,f δ=some ds->ds.length=es.length
 pa:PA X es (tAL X.K f)
structure DAB (X:Cx) (es:List Expr) (f:De->Option (List Dt)):Prop where
 len:∀ δ ds,f δ=some ds->ds.length=es.length
 pa:PA X es (tAB X.K f)
df ae:De->Option (List Dt):=fun _=>some []
df ab (f:De->Option Dt) (g:De->Option (List Dt)):De->Option (List Dt):=fun δ=>(f δ).bind fun d=>(g δ).bind fun ds=>some (d::ds)
variable {es:List Expr} {fs:De->Option (List Dt)}
theorem lJ {f:De->Option Dt} (h:∀ δ ds,fs δ=some ds->ds.length=n):∀ δ ds,ab f fs δ=some ds->ds.length=n+1:=fun δ ds q=>by unfold ab at q;obtain ⟨x,U,q⟩:=bS q;obtain ⟨y,O,q⟩:=bS q;cases q;simp [h δ y O]
theorem bR:DA X [] ae:=⟨fun _ _ h=>by cases h;rfl,PA.mono cW fun σ H Q ⟨Φ,δ,F,ds,O,en,q,k⟩=>by cases q;exact k [] H F (Step.refl en.fh) (by simp only [Reps])⟩
theorem gp:DAB X [] ae:=⟨fun _ _ h=>by cases h;rfl,PA.mono cW fun σ H Q ⟨Φ,δ,F,ds,O,en,q,k⟩=>by cases q;exact k [] H F (Step.refl en.fh) rfl⟩
theorem aV (h:DL X e g) (h':DA X es fs) (Z:qa6 (e::es) X.env=#a::qa6 es X.env:=by rfl):DA X (e::es) (ab g fs):=⟨lJ h'.len,PA.mono (bJ h h'.pa Z) fun σ H Q ⟨Φ,δ,F,ds,U,en,q,k⟩=>by unfold ab at q;obtain ⟨x,Y,q⟩:=bS q;obtain ⟨y,hy,q⟩:=bS q;cases q;exact ⟨Φ,δ,F,x,U,en,Y,fun v H1 F1 st r=>⟨Φ,δ,F1,y,U,en.step st,hy,fun vs H2 F2 O W=>k (v::vs) H2 F2 (st.trans O) (by simp only [Reps];exact ⟨v,vs,rfl,r.same O.ff,W⟩)⟩⟩⟩
theorem dn (h:DB X e g) (h':DAB X es fs) (Z:qa6 (e::es) X.env=#a::qa6 es X.env:=by rfl):DAB X (e::es) (ab g fs):=⟨lJ h'.len,PA.mono (bJ h h'.pa Z) fun σ H Q ⟨Φ,δ,F,ds,U,en,q,k⟩=>by unfold ab at q;obtain ⟨x,Y,q⟩:=bS q;obtain ⟨y,hy,q⟩:=bS q;cases q;exact ⟨Φ,δ,F,x,U,en,Y,fun v H1 F1 st r=>⟨Φ,δ,F1,y,U,en.step st,hy,fun vs H2 F2 O W=>k (v::vs) H2 F2 (st.trans O) ⟨v,vs,rfl,r.step O.ff O.hh,W⟩⟩⟩⟩
df bj (f:De->Option (List Dt)):De->Option T:=fun δ=>(f δ).bind fun ds=>if ds.length<=qb2 then some (.leaf (.tup ds)) else none
df bE (f:De->Option (List Dt)):De->Option T:=fun δ=>(f δ).bind fun ds=>if ds.length<=qb2 then some (.lst ds) else none
theorem qa {x1} (h:DA X es fs):DO X (.Tuple es x1 pos) (bj fs):=PE.mono (Bq h.pa) fun σ H Q ⟨Φ,δ,F,t,W,en,q,k⟩=>by
 unfold bj at q;obtain ⟨ds,O,q⟩:=bS q;split at q
 . rename_i U;cases q;refine ⟨Φ,δ,F,ds,W,en,O,fun vs H1 F1 st r=>⟨by rw [r.length];exact U,fun p hp=>?_⟩⟩;refine (k.step st).leaf _ _ _ (Step.new st.fh hp) ?_;simp only [Rep];exact ⟨p,vs,rfl,SqT.of ar,r.same (Same.upd (st.fh.free hp))⟩
 . cases q
theorem gq {F:Hp} (k:KO K F H (.lst ds) Q) (q:Same F H) (r:Reps K F ds vs) (hp:H p=none):Q (.ref p) (upd H p (.lst vs)):=by
 refine k _ _ F (fun b=>b=p) (Step.made q hp) ⟨p,vs,rfl,rfl,ar,r⟩ fun b z=>?_
 subst z;exact ⟨q.free hp,hp,_,ar⟩
theorem cI (h:DA X es fs):DO X (.List es pos) (bE fs):=PE.mono (Br h.pa) fun σ H Q ⟨Φ,δ,F,t,W,en,q,k⟩=>by
 unfold bE at q;obtain ⟨ds,O,q⟩:=bS q;split at q
 . rename_i U;cases q;exact ⟨Φ,δ,F,ds,W,en,O,fun vs H1 F1 st r=>⟨by rw [r.length];exact U,fun p hp=>gq (k.step st) st.fh r hp⟩⟩
 . cases q
df CRD (K:PySem.W.Frag) (r:List V->Hp->VK->Prop) (g:List Dt->Option T):Prop:=∀ F H ds vs (Q:VK) t,Same F H->RepBs K F H ds vs->g ds=some t->KO K F H t Q->r vs H Q
df ai (g:List Dt->Option T) (f:De->Option (List Dt)):De->Option T:=fun δ=>(f δ).bind g
theorem vF {r:List V->Hp->VK->Prop} {g:List Dt->Option T} (W:CRD K r g) (h:tO K (ai g fs) σ H Q):tCB r (tAB K fs) σ H Q:=by obtain ⟨Φ,δ,F,t,U,en,q,k⟩:=h;unfold ai at q;obtain ⟨ds,O,q⟩:=bS q;exact ⟨Φ,δ,F,ds,U,en,O,fun vs H1 F1 st r=>W F1 H1 ds vs Q t st.fh r q (k.step st)⟩
variable {x:Str} {p:Pos} {id Ty:String} {sc:Scope} {r:List V->Hp->VK->Prop} {gg:List Dt->Option T}
theorem d4 (h:aH sc x=true) (U:bX X (.builtin id) r) (hr:CRD X.K r gg) (Y:X.mg x=none) (hv:qd6 x=some (.builtin id)) (ha:DAB X (e::es) fs) (Z:bH X sc:=by rfl)
  (W:qa6 (e::es) X.env=#a::qa6 es X.env:=by rfl) (O:(qi4 pos (qa6 es X.env)).any (·.1)=false:=by rfl):DO X #b (ai gg fs):=
 PE.mono (gm h U Y hv ha.pa Z W O) fun σ H Q q=>vF hr q
theorem jZ (h:aH sc x=true) (U:bX X (.type Ty) r) (hr:CRD X.K r gg) (Y:X.mg x=none) (hv:qd6 x=some (.type Ty)) (ha:DAB X (e::es) fs) (Z:bH X sc:=by rfl)
  (W:qa6 (e::es) X.env=#a::qa6 es X.env:=by rfl) (O:(qi4 pos (qa6 es X.env)).any (·.1)=false:=by rfl):DO X #b (ai gg fs):=
 PE.mono (eM h U Y hv ha.pa Z W O) fun σ H Q q=>vF hr q
df spD (K:PySem.W.Frag) (n:Nat) (f:List Dt->Option T):Sp:=fun vs H Q _=>∃ F ds t,Same F H/\ds.length=n/\Reps K F ds vs/\f ds=some t/\KO K F H t Q
theorem j0 {k:Nat} (h:aH sc x=true) (F:OkF X.prog X.w X.K X.mg X.base x k ps (spD X.K n ff)) (hr:Room k X.A) (W:DA X (e::es) fs) (Y:(e::es).length=n:=by rfl) (Z:bH X sc:=by rfl)
 (he:qa6 (e::es) X.env=#a::qa6 es X.env:=by rfl) (O:(qi4 pos (qa6 es X.env)).any (·.1)=false:=by rfl):DO X #b (ai ff fs):=
 PE.mono (iZ h F hr W.pa Z he O) fun σ H Q ⟨Φ,δ,Fz,t,hK,en,q,k⟩=>by unfold ai at q;obtain ⟨ds,U,q⟩:=bS q;refine ⟨Φ,δ,Fz,ds,hK,en,U,fun vs H1 F1 st r=>?_⟩;show spD X.K n ff (vs++[]) H1 Q E0;rw [qh2];exact ⟨F1,ds,t,st.fh,(W.len δ ds U).trans Y,r,q,k.step st⟩
end
inductive Out where
 | nx (δ:De) | rt (t:T) | bk (δ:De) | ct (δ:De) | re (t:T) (δ:De)
structure Rt (Φ:Fm) (t:T) (v:V) (F H:Hp):Prop where
 fh:Same F H
 prot:∀ b o,Φ.H0 b=some o->¬ Φ.S0 b->H b=some o
 old:Same Φ.F0 F
 nw:∀ b o,F b=some o->Φ.F0 b=some o∨Φ.B b
 own:∃ S,Own Φ.K F H t v S/\∀ b,S b->F b=none/\(∃ o,H b=some o)/\Φ.B b
structure Re (Φ:Fm) (t:T) (v:V) (δ:De) (σ:St) (F H:Hp):Prop where
 en:En Φ δ σ F H
 own:∃ S R,Sep Φ.K F H Φ.B (lH δ σ) S/\Own Φ.K F H t v R/\∀ b,R b->F b=none/\(∃ o,H b=some o)/\Φ.B b/\∀ i,¬ S i b
df Post (Φ:Fm) (D:Ends):Out->Prop
 | .nx δ=>∀ σ F H,En Φ δ σ F H->D.nx σ H
 | .rt t=>∀ v F H,Rt Φ t v F H->D.rt v H
 | .bk δ=>∀ σ F H,En Φ δ σ F H->D.bk σ H
 | .ct δ=>∀ σ F H,En Φ δ σ F H->D.ct σ H
 | .re t δ=>∀ v σ F H,Re Φ t v δ σ F H->D.rt v H
df tS (K:PySem.W.Frag) (g:De->Option Out):TS:=fun D σ H=>∃ Φ δ F o,Fm.K Φ=K/\En Φ δ σ F H/\g δ=some o/\Post Φ D o
df DS1 (X:Cx) (st:Stmt) (g:De->Option Out):Prop:=PS X st (tS X.K g)
df DS (X:Cx) (ss:List Stmt) (g:De->Option Out):Prop:=PSs X ss (tS X.K g)
variable {Φ:Fm} {δ:De} {sc:Scope} {N:List Str} {pos':Pos} {es:List Expr} {ts:List Nat} {bb:Dt->De->Option De} {J:It} {xs:List V} {fi:De->Option (List Dt)}
section
variable {X:Cx} {st:Stmt} {rest a b body:List Stmt} {g g1 g2:De->Option Out} {e c tg iter:Expr} {pos:Pos} {f:De->Option T} {fd:De->Option Dt} {tc:De->Option Bool} {i:Nat}
df cJ:De->Option Out:=fun δ=>some (.nx δ)
df aG (g1 g2:De->Option Out):De->Option Out:=fun δ=>(g1 δ).bind fun o=>match o with
 | .nx δ'=>g2 δ'
 | o=>some o
theorem bz:DS X [] cJ:=PSs.mono qY fun D σ H ⟨Φ,δ,F,o,O,en,q,k⟩=>by cases q;exact k σ F H en
theorem av (h:DS1 X st g):DS X [st] g:=qZ h
theorem ah (h1:DS1 X st g1) (h2:DS X rest g2):DS X (st::rest) (aG g1 g2):=PSs.mono (fF h1 h2) fun D σ H ⟨Φ,δ,F,o,U,en,q,k⟩=>by
 unfold aG at q;obtain ⟨W,h1,q⟩:=bS q;refine ⟨Φ,δ,F,W,U,en,h1,?_⟩;cases W with
 | nx δ'=>exact fun σ' F' H' O=>⟨Φ,δ',F',o,U,O,q,k⟩
 | rt t=>cases q;exact k
 | bk δ'=>cases q;exact k
 | ct δ'=>cases q;exact k
 | re t δ'=>cases q;exact k
df bI (f:De->Option T):De->Option Out:=fun δ=>(f δ).map .rt
theorem En.rt {F:Hp} {t:T} {S:Addr->Prop} (en:En Φ δ σ F H) (st:Step F H F' H') (o:Own Φ.K F' H' t v S) (O:∀ b,S b->F' b=none/\H b=none/\∃ o,H' b=some o):Rt Φ t v F' H':=by have q:=en.step st;exact ⟨q.fh,q.prot,q.old,q.nw,S,o,fun b z=>⟨(O b z).1,(O b z).2.2,en.fresh (O b z).2.1⟩⟩
theorem aC (h:DO X e f):DS1 X (.Return (some e) pos) (bI f):=PS.mono (pQ h) fun D σ H ⟨Φ,δ,F,o,O,en,q,k⟩=>by unfold bI at q;obtain ⟨t,W,q⟩:=mS q;cases q;exact ⟨Φ,δ,F,t,O,en,W,fun v H' F' S st o U=>k v F' H' (en.rt st (O▸o) U)⟩
df lK (i:Nat):De->Option Out:=fun δ=>match δ[i]? with
 | some (some t)=>some (.rt t)
 | _=>none
theorem jM (h:PE X e (jx i)):DS1 X (.Return (some e) pos) (lK i):=PS.mono (pQ h) fun D σ H ⟨Φ,δ,F,o,W,en,O,k⟩=>by
 unfold lK at O;split at O
 . rename_i t q;cases O;obtain ⟨v,U⟩:=en.has i t q;obtain ⟨S,s⟩:=en.sep;exact ⟨v,U,k v F H ⟨en.fh,en.prot,en.old,en.nw,S i,s.own i t v (cU q U),fun b z=>s.out i b z⟩⟩
 . cases O
df sIf (c:De->Option Bool) (g1 g2:De->Option Out):De->Option Out:=fun δ=>(c δ).bind fun b=>if b then g1 δ else g2 δ
theorem b9 (Y:DT X c tc) (h1:DS X a g1) (h2:DS X b g2):DS1 X (.If c a b pos) (sIf tc g1 g2):=PS.mono (Aa Y h1 h2) fun D σ H ⟨Φ,δ,F,o,U,en,O,k⟩=>by
 unfold sIf at O;obtain ⟨x,W,O⟩:=bS O;refine ⟨Φ,δ,F,x,U,en,W,fun H' F' st=>?_⟩;split at O
 . rename_i q;rw [if_pos q];exact ⟨Φ,δ,F',o,U,en.step st,O,k⟩
 . rename_i q;rw [if_neg q];exact ⟨Φ,δ,F',o,U,en.step st,O,k⟩
df bf (i:Nat) (f:De->Option T):De->Option Out:=fun δ=>(f δ).map fun t=>.nx (δ.set i (some t))
theorem aD (h:cT sc N i x=true) (Z:gW sc x=true) (Y:N.Nodup) (he:DO X e f) (W:bH X sc:=by rfl) (e2:X.N=N:=by rfl) (hf:X.fn x=true∨X.env.scope.names.lookup x=some .local:=by exact .inl rfl)
 (O:qm7 e (some (.Name x pos')) pos.line X.env=pure false:=by rfl):DS1 X (.Assign [.Name x pos'] e pos) (bf i f):=PS.mono (mP h Z Y he W e2 hf O) fun D σ H ⟨Φ,δ,F,o,U,en,q,k⟩=>by
 unfold bf at q;obtain ⟨t,ht,q⟩:=mS q;cases q;exact ⟨Φ,δ,F,t,U,en,ht,fun v H' F' S st o O=>k _ F' H' (en.put st (U▸o) O i)⟩
df gD (K:PySem.W.Frag) (ts:List Nat) (st:Dt->De->Option De):TG:=fun v σ H Q=>∃ Φ δ F d δ',Fm.K Φ=K/\En Φ δ σ F H/\Rep K F d v/\st d δ=some δ'/\∀ σ',σ'.length=σ.length->(∀ j,j∉ts->σ'[j]?=σ[j]?)->En Φ δ' σ' F H->Q σ' H
df gsD (K:PySem.W.Frag) (ts:List Nat) (st:List Dt->De->Option De):TGs:=fun vs σ H Q=>∃ Φ δ F ds δ',Fm.K Φ=K/\En Φ δ σ F H/\Reps K F ds vs/\st ds δ=some δ'/\∀ σ',σ'.length=σ.length->(∀ j,j∉ts->σ'[j]?=σ[j]?)->En Φ δ' σ' F H->Q σ' H
df DG (X:Cx) (tg:Expr) (ts:List Nat) (bb:Dt->De->Option De):Prop:=PG X tg (gD X.K ts bb)
df DGs (X:Cx) (tg:List Expr) (ts:List Nat) (bb:List Dt->De->Option De):Prop:=PGs X tg (gsD X.K ts bb)
df am (i:Nat):Dt->De->Option De:=fun d δ=>some (δ.set i (some (.leaf d)))
theorem En.name {F:Hp} (en:En Φ δ σ F H) {d:Dt} (r:Rep Φ.K F d v) (i:Nat):En Φ (δ.set i (some (.leaf d))) (σ.set i (some v)) F H:=en.put (Step.refl en.fh) (S':=fun _=>False) (t:=.leaf d) r (fun _ z=>z.elim) i
theorem aq (h:PG X tg (fG i)):DG X tg [i] (am i):=PG.mono h fun v σ H Q ⟨Φ,δ,F,d,δ',O,en,r,q,k⟩=>by cases q;refine k _ \5 (fun j U=>?_) (en.name (O▸r) i);rw [List.getElem?_set_ne fun z=>U (by simp [z])]
df fB:List Dt->De->Option De:=fun ds δ=>if ds.isEmpty then some δ else none
df aR (b:Dt->De->Option De) (bs:List Dt->De->Option De):List Dt->De->Option De:=fun ds δ=>match ds with
 | d::r=>(b d δ).bind fun δ1=>bs r δ1
 | []=>none
df i4 (n:Nat) (bs:List Dt->De->Option De):Dt->De->Option De:=fun d δ=>match d with
 | .tup ds=>if ds.length=n then bs ds δ else none
 | _=>none
theorem eR:DGs X [] [] fB:=fun pins s σ H vs us Q I r q=>xS pins s σ H vs us Q I r (by
 obtain ⟨Φ,δ,F,ds,δ',W,en,U,O,k⟩:=q;unfold fB at O;cases ds with
 | nil=>cases O;simp only [Reps] at U;exact ⟨U,k σ rfl (fun _ _=>rfl) en⟩
 | cons d l=>cases O)
theorem aE {U:List Nat} {bs:List Dt->De->Option De} (h1:DG X e ts bb) (h2:DGs X es U bs)
 (hs:(qj0 (e::es) X.env).map (·.2)=ze0 e X.env::(qj0 es X.env).map (·.2):=by rfl):DGs X (e::es) (ts++U) (aR bb bs):=fun pins s σ H vs us Q I r q=>uP h1 h2 hs pins s σ H vs us Q I r (by
 obtain ⟨Φ,δ,F,ds,δ',hK,en,rs,O,k⟩:=q;unfold aR at O;cases ds with
 | nil=>cases O
 | cons d l =>simp only [Reps] at rs;obtain ⟨v,ws,e,r1,r2⟩:=rs;dsimp only at O;obtain ⟨δ1,hb,O⟩:=bS O;refine ⟨v,ws,e,Φ,δ,F,d,δ1,hK,en,r1,hb,fun σ1 l1 k1 W=>⟨Φ,δ1,F,l,δ',hK,W,r2,O,fun Z l2 k2 Y=>k Z (l2.trans l1) (fun j hj=>?_) Y⟩⟩;rw [k2 j fun z=>hj (qc8 _ z),k1 j fun z=>hj (qg8 _ z)])
theorem mW {k:Nat} {bs:List Dt->De->Option De} (Z:X.calm=true) (h:DGs X es ts bs)
 (W:(qj0 es X.env).length=n:=by rfl) (U:(qj0 es X.env).findIdx? (·.1)=none:=by rfl):DG X (.Tuple es k pos) ts (i4 n bs):=PG.mono (Bb Z h W U) fun v σ H Q ⟨Φ,δ,F,d,δ',hK,en,r,O,q⟩=>by
 unfold i4 at O;split at O
 . rename_i ds;split at O
   . rename_i Y;simp only [Rep] at r;obtain ⟨a,vs,e,h1,h2⟩:=r;exact ⟨a,vs,e,en.fh.tup h1,by rw [h2.length];exact Y,Φ,δ,F,ds,δ',hK,en,h2,O,q⟩
   . cases O
 . cases O
df qb (fd:De->Option Dt) (bb:Dt->De->Option De):De->Option Out:=fun δ=>(fd δ).bind fun d=>(bb d δ).map .nx
theorem j1 (he:DL X e fd) (q:DG X tg ts bb) (Y:zh5 [tg] e pos.line X.env=pure false:=by rfl) (Z:zh6 [tg] e X.env=pure none:=by rfl)
 (h1:(qj0 [tg] X.env).map (·.2)=[ze0 tg X.env]:=by rfl):DS1 X (.Assign [tg] e pos) (qb fd bb):=PS.mono (uQ he q Y Z h1) fun D σ H ⟨Φ,δ,F,o,U,en,q,k⟩=>by
 unfold qb at q;obtain ⟨d,W,q⟩:=bS q;obtain ⟨δ',hb,q⟩:=mS q;cases q;exact ⟨Φ,δ,F,d,U,en,W,fun v H' F' st r=>⟨Φ,δ,F',d,δ',U,en.step st,r,hb,fun σ' _ _ O=>k σ' F' H' O⟩⟩
df rO (K:PySem.W.Frag) (F':Hp) (J:It) (ds:List Dt) (ok:Hp->Prop):Prop:=∀ (i:Nat) (H F:Hp),ok H->Same F H->Same F' F->(i<ds.length->J.go i H)/\(i=ds.length->J.stop i H)/\∀ x H',i<ds.length->J.yld i H x H'->∃ d q,ds[i]?=some d/\Step F H q H'/\Rep K q d x
theorem Plain.walk {ok:Hp->Prop} (U:Plain J xs ok) (r:Reps K F' ds xs):rO K F' J ds ok:=fun i H F q W ff=>by
 obtain ⟨p1,p2,p3⟩:=U i H q;have hl:=r.length;refine ⟨fun h=>p1 \3,fun h=>p2 \3,fun x H' hi hy=>?_⟩;obtain ⟨rfl,Y⟩:=p3 x H' \3 hy;have O:ds[i]?=some ds[i]:=by simp [hi]
 obtain ⟨v,e,Z⟩:=r.get O;rw [Y] at e;cases e;exact ⟨_,F,O,Step.refl W,Z.same ff⟩
df tIF (K:PySem.W.Frag) (f:De->Option (List Dt)):TI:=fun σ H R=>∃ Φ δ F ds,Fm.K Φ=K/\En Φ δ σ F H/\f δ=some ds/\∀ J ok H' F',Step F H F' H'->rO K F' J ds ok->(∀ H2,Same F' H2->ok H2)->R J H'
df tIB (K:PySem.W.Frag) (f:De->Option (List Dt)):TI:=fun σ H R=>∃ Φ δ F ds,Fm.K Φ=K/\En Φ δ σ F H/\f δ=some ds/\∀ J ok H' F',Step F H F' H'->rO K F' J ds ok->(∀ H2,Same H' H2->ok H2)->R J H'
df DIF (X:Cx) (tg iter:Expr) (f:De->Option (List Dt)):Prop:=PI X tg iter (tIF X.K f)
df DIB (X:Cx) (tg iter:Expr) (f:De->Option (List Dt)):Prop:=PI X tg iter (tIB X.K f)
theorem DIF.toB (h:DIF X tg iter fi):DIB X tg iter fi:=PI.mono h fun σ H R ⟨Φ,δ,F,ds,q,en,U,k⟩=>⟨Φ,δ,F,ds,q,en,U,fun J ok H' F' st wd O=>k J ok H' F' st wd fun H2 s=>O H2 (st.fh.trans s)⟩
end
variable {δ':De} {σ':St} {F1 H1:Hp} {D:Ends} {j:Int}
section
variable {X:Cx} {st:Stmt} {rest a b body:List Stmt} {g g1 g2:De->Option Out} {e c tg iter l:Expr} {pos:Pos} {f:De->Option T} {fd:De->Option Dt} {tc:De->Option Bool} {i:Nat} {fi:De->Option (List Dt)}
df d6 (bb:Dt->De->Option De) (g:De->Option Out):List Dt->De->Option Out
 | [],δ=>some (.nx δ)
 | d::r,δ=>(bb d δ).bind fun δ1=>(g δ1).bind fun o=>match o with
  | .nx q=>d6 bb g r q
  | .ct q=>d6 bb g r q
  | .bk q=>some (.nx q)
  | .rt t=>some (.rt t)
  | .re t q=>some (.re t q)
df lj (fi:De->Option (List Dt)) (bb:Dt->De->Option De) (g:De->Option Out):De->Option Out:=fun δ=>(fi δ).bind fun ds=>d6 bb g ds δ
theorem Reps.same_get {F:Hp} (r:Reps K F ds xs) {x:V} (h:xs[i]?=some x):∃ d,ds[i]?=some d/\Rep K F d x:=by
 have U:=r.length;have hi:i<xs.length:=(gX h).1;have q:ds[i]?=some ds[i]:=by simp [show i<ds.length by oo]
 obtain ⟨v,e,O⟩:=r.get q;rw [h] at e;cases e;exact ⟨_,q,O⟩
theorem mX {α:Type} {l:List α} {d:α} (h:l[i]?=some d):l.drop i=d::l.drop (i+1):=by have hi:i<l.length:=(gX h).1;rw [qr9 hi];congr 1;have:=(gX h).2;exact this
df Fm.at (Φ:Fm) (F1:Hp):Fm:={Φ with F0:=F1}
theorem En.back {F:Hp} (en:En Φ δ σ F1 H1) (e:En (Φ.at F1) δ' σ' F H):En Φ δ' σ' F H:=⟨e.fh,e.prot,en.old.trans e.old,fun b o h=>(e.nw b o h).elim (fun z=>en.nw b o z) .inr,e.len,e.has,e.sep⟩
theorem Rt.back {F:Hp} {t:T} (en:En Φ δ σ F1 H1) (e:Rt (Φ.at F1) t v F H):Rt Φ t v F H:=⟨e.fh,e.prot,en.old.trans e.old,fun b o h=>(e.nw b o h).elim (fun z=>en.nw b o z) .inr,e.own⟩
theorem Re.back {F:Hp} {t:T} (en:En Φ δ σ F1 H1) (e:Re (Φ.at F1) t v δ' σ' F H):Re Φ t v δ' σ' F H:=⟨en.back e.en,e.own⟩
theorem En.at (en:En Φ δ σ F1 H1):En (Φ.at F1) δ σ F1 H1:=⟨en.fh,en.prot,Same.refl _,fun b o h=>.inl h,en.len,en.has,en.sep⟩
theorem Post.at {o:Out} (en:En Φ δ σ F1 H1) (k:Post Φ D o):Post (Φ.at F1) D o:=by
 cases o with
 | nx δ'=>exact fun σ' F H e=>k σ' F H (en.back e)
 | bk δ'=>exact fun σ' F H e=>k σ' F H (en.back e)
 | ct δ'=>exact fun σ' F H e=>k σ' F H (en.back e)
 | rt t=>exact fun v F H e=>k v F H (Rt.back en e)
 | re t δ'=>exact fun v σ' F H e=>k v σ' F H (Re.back en e)
theorem oB {g:TG} {tb:TS} (Pv:Nat->St->Hp->Prop) (h0:Pv 0 σ H1) (U:∀ i σ H,Pv i σ H->(i<n->J.go i H)/\(i=n->J.stop i H))
 (Y:∀ i x σ H H',i<n->Pv i σ H->J.yld i H x H'->g x σ H' fun O H2=>tb {D with nx:=Pv (i+1),ct:=Pv (i+1),bk:=D.nx} O H2) (W:∀ σ H,Pv n σ H->D.nx σ H):ForW g tb D J σ H1:=by
 refine ⟨fun i m σ H=>m=n-i/\i<=n/\Pv i σ H,⟨n,by simp,qn8 _,h0⟩,?_⟩;rintro i m σ H ⟨rfl,hi,p⟩;obtain ⟨p1,p2⟩:=U i σ H p;by_cases q:i<n
 . exact .inr ⟨p1 q,Pv (i+1),fun σ' H' Z=>⟨n-(i+1),by oo,rfl,q,Z⟩,fun x H' y=>Y i x σ H H' q p y⟩
 . have e:i=n:=by oo
   subst e;exact .inl ⟨p2 rfl,W σ H p⟩
theorem gZ (hp:za0 \4 X.A X.env X.xe) (hc:X.calm=true) (hi:DIF X tg iter fi) (hg:DG X tg ts bb) (hb:DS X body g)
 (hs:∀ x,qg7 iter X.env x=pure x:=by intro _;rfl):DS1 X (.For tg iter body [] pos) (lj fi bb g):=PS.mono (pT hp hc hi hg hb hs) fun D σ H ⟨Φ,δ,F,o,hK,en,hg,k⟩=>by
 unfold lj at hg;obtain ⟨ds,hd,hg⟩:=bS hg;rw [mO];refine ⟨Φ,δ,F,ds,hK,en,hd,fun J ok H1 F1 st1 wd ho=>?_⟩;have en1:=en.step st1;have k1:=Post.at en1 k;refine oB (n:=ds.length) (fun i σ' H'=>∃ δ' F',En (Φ.at F1) δ' σ' F' H'/\d6 bb g (ds.drop i) δ'=some o) ⟨δ,F1,en1.at,by simpa using hg⟩ (fun i σ' H' ⟨δ',F',U,_⟩=>?_) ?_ ?_
 . obtain ⟨p1,p2,_⟩:=wd i H' F' (ho H' (U.old.trans U.fh)) U.fh U.old;exact ⟨p1,p2⟩
 . rintro i x σ' H' H'' hi ⟨δ',F',U,O⟩ hy;obtain ⟨_,_,p3⟩:=wd i H' F' (ho H' (U.old.trans U.fh)) U.fh U.old;obtain ⟨d,W,hd',st2,rd⟩:=p3 x H'' hi hy;rw [mX hd'] at O;unfold d6 at O;obtain ⟨δ1,h1,O⟩:=bS O;obtain ⟨o1,h2,O⟩:=bS O;refine ⟨Φ.at F1,δ',W,d,δ1,hK,U.step st2,rd,h1,fun σ1 _ _ en1=>⟨Φ.at F1,δ1,W,o1,hK,en1,h2,?_⟩⟩;cases o1 with
   | nx δ2=>exact fun Z W H2 Y=>⟨δ2,W,Y,O⟩
   | ct δ2=>exact fun Z W H2 Y=>⟨δ2,W,Y,O⟩
   | bk δ2=>cases O;exact fun Z W H2 Y=>k1 Z W H2 Y
   | rt t=>cases O;exact fun v W H2 q=>k1 v W H2 q
   | re t δ2=>cases O;exact fun v Z W H2 q=>k1 v Z W H2 q
 . rintro σ' H' ⟨δ',F',U,O⟩;rw [zc7] at O;cases O;exact k1 σ' F' H' U
df dL (c:De->Option Bool) (g:De->Option Out):Nat->De->Option Out
 | 0,_=>none
 | n+1,δ=>(c δ).bind fun b=>if b then (g δ).bind fun o=>match o with
  | .nx q=>dL c g n q
  | .ct q=>dL c g n q
  | .bk q=>some (.nx q)
  | .rt t=>some (.rt t)
  | .re t q=>some (.re t q) else some (.nx δ)
theorem oC (n:Nat) (hp:za0 \4 X.A X.env X.xe) (hc:DT X c tc) (hb:DS X body g):DS1 X (.While c body [] pos) (dL tc g n):=PS.mono (nY hp hc hb) fun D σ H ⟨Φ,δ,F,o,hK,en,hg,k⟩=>by
 refine ⟨fun m σ' H'=>∃ δ' F',En Φ δ' σ' F' H'/\dL tc g m δ'=some o,⟨n,δ,F,en,hg⟩,?_⟩;rintro m σ' H' ⟨δ',F',en',O⟩;cases m with
 | zero=>cases O
 | succ m =>
  unfold dL at O;obtain ⟨x,hx,O⟩:=bS O;refine ⟨Φ,δ',F',x,hK,en',hx,fun H1 F1 st=>?_⟩;split at O
  . rename_i q;rw [if_pos q];obtain ⟨o1,h2,O⟩:=bS O;refine ⟨fun U H2=>∃ W Z,En Φ W U Z H2/\dL tc g m W=some o,fun U H2 z=>⟨m,qm6 m,z⟩,Φ,δ',F1,o1,hK,en'.step st,h2,?_⟩;cases o1 with
    | nx W=>exact fun U Z H2 Y=>⟨W,Z,Y,O⟩
    | ct W=>exact fun U Z H2 Y=>⟨W,Z,Y,O⟩
    | bk W=>cases O;exact fun U Z H2 Y=>k U Z H2 Y
    | rt t=>cases O;exact fun v Z H2 q=>k v Z H2 q
    | re t W=>cases O;exact fun v U Z H2 q=>k v U Z H2 q
  . rename_i q;rw [if_neg q];cases O;exact k σ' F1 H1 (en'.step st)
df DV (x:Str):List Dt:=x.cps.toList.map fun c=>.str ⟨#[c]⟩
df dq (lo:Int) (n:Nat):List Dt:=(qc1 n).map fun (i:Nat)=>.int (lo+i)
theorem Reps.map {F:Hp} {α:Type} {f:α->Dt} {g:α->V} (h:∀ x,Rep K F (f x) (g x)):∀ l:List α,Reps K F (l.map f) (l.map g)
 | []=>by simp [Reps]
 | x::l=>by simp only [qa7,Reps];exact ⟨_,_,rfl,h x,Reps.map h l⟩
df itD:Dt->Option (List Dt)
 | .lst l=>some l
 | .tup l=>some l
 | .str x=>some (DV x)
 | _=>none
df fIt (f:De->Option Dt):De->Option (List Dt):=fun δ=>(f δ).bind itD
theorem j2 (h:DL X l fd):DIF X tg l (fIt fd):=PI.mono (PI.or (jI h) (PI.or (uR h) (u9 h))) fun σ H R ⟨Φ,δ,F,ds,U,en,q,k⟩=>by
 unfold fIt at q;obtain ⟨d,O,q⟩:=bS q;cases d with
 | lst l =>cases q;refine .inl ⟨Φ,δ,F,_,U,en,O,fun v H' F' st r=>?_⟩;simp only [Rep] at r;obtain ⟨a,vs,rfl,h1,h2⟩:=r;exact ⟨a,rfl,⟨vs,st.fh.seq h1⟩,k _ _ H' F' st (plain_list.walk h2) fun H2 s=>s.seq h1⟩
 | tup l =>cases q;refine .inr (.inl ⟨Φ,δ,F,_,U,en,O,fun v H' F' st r=>?_⟩);simp only [Rep] at r;obtain ⟨a,vs,rfl,h1,h2⟩:=r;exact ⟨a,rfl,⟨vs,st.fh.tup h1⟩,k _ _ H' F' st (plain_tup.walk h2) fun H2 s=>s.tup h1⟩
 | str x =>cases q;refine .inr (.inr ⟨Φ,δ,F,_,U,en,O,fun v H' F' st r=>?_⟩);simp only [Rep] at r;exact ⟨x,r,k _ _ H' F' st (plain_str.walk (Reps.map (fun c=>iy) _)) fun _ _=>trivial⟩
 | _=>cases q
theorem cS (h:DB X l fd):DIB X tg l (fIt fd):=PI.mono (PI.or (jI h) (PI.or (uR h) (u9 h))) fun σ H R ⟨Φ,δ,F,ds,U,en,q,k⟩=>by
 unfold fIt at q;obtain ⟨d,O,q⟩:=bS q;cases d with
 | lst l =>cases q;refine .inl ⟨Φ,δ,F,_,U,en,O,fun v H' F' st r=>?_⟩;obtain ⟨a,vs,rfl,h1,h2⟩:=r;exact ⟨a,rfl,⟨vs,h1⟩,k _ _ H' F' st (plain_list.walk h2) fun H2 s=>s.seq h1⟩
 | tup l =>cases q;refine .inr (.inl ⟨Φ,δ,F,_,U,en,O,fun v H' F' st r=>?_⟩);obtain ⟨a,vs,rfl,h1,h2⟩:=r;exact ⟨a,rfl,⟨vs,st.fh.tup h1⟩,k _ _ H' F' st (plain_tup.walk h2) fun H2 s=>s.tup (st.fh.tup h1)⟩
 | str x =>cases q;refine .inr (.inr ⟨Φ,δ,F,_,U,en,O,fun v H' F' st r=>?_⟩);exact ⟨x,r,k _ _ H' F' st (plain_str.walk (Reps.map (fun c=>iy) _)) fun _ _=>trivial⟩
 | _=>cases q
df gI (j:Int):Bool:=decide (-(2^62)<=j)&&decide (j<2^62)
df i5:List Dt->Option (List Dt)
 | [.int j]=>if gI j then some (dq 0 j.toNat) else none
 | _=>none
df yp:List Dt->Option (List Dt)
 | [.int i,.int j]=>if gI i&&gI j then some (dq i (j-i).toNat) else none
 | _=>none
df fN (r:List Dt->Option (List Dt)) (f:De->Option (List Dt)):De->Option (List Dt):=fun δ=>(f δ).bind r
variable {p:Pos} {sc:Scope} {x y:Expr} {fs:De->Option (List Dt)}
theorem dh (h:gI j=true):-(2^62)<=j/\j<2^62:=by unfold gI at h;simpa using h
theorem j3 {F:Hp} (lo:Int) (n:Nat):Reps K F (dq lo n) (jV lo n):=Reps.map (fun _=>gn) _
theorem bU (h:aH sc "range"=true) (hm:X.mg "range"=none) (Z:DA X [x] fs) (W:bH X sc:=by rfl) (Y:qa6 [x] X.env=[(false,eval x X.env)]:=by rfl):DIF X tg (.Call (.Name "range" p) [x] [] pos) (fN i5 fs):=
 PI.mono (p7 h hm Z.pa W Y) fun σ H R ⟨Φ,δ,F,ds,hK,en,q,k⟩=>by
  unfold fN at q;obtain ⟨as,U,q⟩:=bS q;refine ⟨Φ,δ,F,as,hK,en,U,fun vs H' F' st r=>?_⟩;unfold i5 at q;split at q
  . rename_i j;split at q
    . rename_i O;cases q;simp only [Reps,Rep] at r;obtain ⟨v,ws,rfl,rfl,rfl⟩:=r;exact ⟨j,rfl,(dh O).1,(dh O).2,k _ _ H' F' st (plain_range.walk (j3 _ _)) fun _ _=>trivial⟩
    . cases q
  . cases q
theorem t5 (h:aH sc "range"=true) (Y:X.mg "range"=none) (ha:DA X [x,y] fs) (W:bH X sc:=by rfl) (hs:qa6 [x,y] X.env=[(false,eval x X.env),(false,eval y X.env)]:=by rfl) (U:qa6 [y] X.env=[(false,eval y X.env)]:=by rfl) :
  DIF X tg (.Call (.Name "range" p) [x,y] [] pos) (fN yp fs):=
 PI.mono (p8 h Y ha.pa W hs U) fun σ H R ⟨Φ,δ,F,ds,hK,en,q,k⟩=>by
  unfold fN at q;obtain ⟨as,Z,q⟩:=bS q;refine ⟨Φ,δ,F,as,hK,en,Z,fun vs H' F' st r=>?_⟩;unfold yp at q;split at q
  . rename_i i j;split at q
    . rename_i O;rw [qb4] at O;cases q;simp only [Reps,Rep] at r;obtain ⟨v,ws,rfl,rfl,w,us,rfl,rfl,rfl⟩:=r;exact ⟨i,j,rfl,⟨(dh O.1).1,(dh O.1).2,(dh O.2).1,(dh O.2).2⟩,k _ _ H' F' st (plain_range.walk (j3 _ _)) fun _ _=>trivial⟩
    . cases q
  . cases q
end
df dC (src:List (Option Nat)) (δ:De):De:=src.map fun o=>o.bind fun j=>(δ[j]?).join
df cg (bb:Dt->De->Option De) (ft:De->Option Bool) (fe:De->Option Dt) (δ:De):List Dt->Option (List Dt)
 | []=>some []
 | d::r=>(bb d δ).bind fun δ1=>(ft δ1).bind fun b=>if b then (fe δ1).bind fun y=>(cg bb ft fe δ r).bind fun ys=>some (y::ys) else cg bb ft fe δ r
df bF (src:List (Option Nat)) (fi:De->Option (List Dt)) (bb:Dt->De->Option De) (ft:De->Option Bool) (fe:De->Option Dt):De->Option T:=fun δ =>(fi δ).bind fun ds=>(cg bb ft fe (dC src δ) ds).bind fun ys=>if ys.length<=qb2 then some (.lst ys) else none
df c7:De->Option Bool:=fun _=>some true
df DTs (X:Cx) (ifs:List Expr) (f:De->Option Bool):Prop:=PTs X ifs (tTr X.K f)
theorem da:DTs X [] c7:=fun pins s σ H Q I h=>rB pins s σ H Q I (by obtain ⟨Φ,δ,F,b,O,en,q,k⟩:=h;cases q;exact k H F (Step.refl en.fh))
theorem eT {c:Expr} {f:De->Option Bool} (h:DT X c f):DTs X [c] f:=yh h
section
variable {X:Cx} {elt tg iter:Expr} {ifs:List Expr} {scope:Scope} {pos:Pos} {M:List Str} {src:List (Option Nat)} {fi:De->Option (List Dt)} {ft:De->Option Bool} {fe:De->Option Dt}
theorem yq (S:CmpScope X.N X.env.scope scope M src) {k l j:Nat} (hk:src[k]?=some (some j)) (W:src[l]?=some (some j)):k=l:=by
 have nm:∀ k,src[k]?=some (some j)->∃ x,M[k]?=some x/\X.N[j]?=some x:=fun k h=>by
  have q:k<M.length:=by rw [S.len];exact (gX h).1
  have U:M[k]?=some M[k]:=by simp [q]
  have Y:(M.zip src)[k]?=some (M[k],some j):=by rw [qr8];exact ⟨U,h⟩
  exact ⟨_,U,(S.src _ (qd3 Y) j rfl).1⟩
 obtain ⟨x,h1,h2⟩:=nm k hk;obtain ⟨y,h3,O⟩:=nm l W;rw [h2] at O;cases O;exact (List.getElem?_inj (gX h1).1 S.nd).mp (h1.trans h3.symm)
theorem vG {k:Nat} {t:T} (h:(dC src δ)[k]?=some (some t)):∃ j,src[k]?=some (some j)/\δ[j]?=some (some t):=by
 unfold dC at h;rw [qb0] at h;cases e:src[k]? with
 | none=>rw [e] at h;cases h
 | some o =>
  rw [e] at h;cases o with
  | none=>cases h
  | some j =>
   simp only [qd2,qa0,qi3] at h;refine ⟨j,rfl,?_⟩;cases q:δ[j]? with
   | none=>rw [q] at h;cases h
   | some u=>rw [q] at h;simp only [qp4] at h;rw [h]
theorem rP {k j:Nat} (h1:src[k]?=some (some j)) (h2:σ[j]?=some (some v)):(stC src σ)[k]?=some (some v):=by unfold stC;rw [qb0,h1];simp [h2]
theorem qc {k:Nat} (h:(stC src σ)[k]?=some (some v)):∃ j,src[k]?=some (some j)/\σ[j]?=some (some v):=by
 unfold stC at h;rw [qb0] at h;cases e:src[k]? with
 | none=>rw [e] at h;cases h
 | some o =>
  rw [e] at h;cases o with
  | none=>cases h
  | some j =>
   simp only [qd2,qa0,qi3] at h;refine ⟨j,rfl,?_⟩;cases q:σ[j]? with
   | none=>rw [q] at h;cases h
   | some u=>rw [q] at h;simp only [qp4] at h;rw [h]
theorem En.comp {F:Hp} (S:CmpScope X.N X.env.scope scope M src) (en:En Φ δ σ F H):En Φ (dC src δ) (stC src σ) F H:=by
 refine ⟨en.fh,en.prot,en.old,en.nw,by simp [dC,stC],fun k t h=>?_,?_⟩
 . obtain ⟨j,h1,h2⟩:=vG h;obtain ⟨v,Y⟩:=en.has j t h2;exact ⟨v,rP h1 Y⟩
 . obtain ⟨Z,s⟩:=en.sep;refine ⟨fun k b=>∃ j,src[k]?=some (some j)/\Z j b,fun k t v h=>?_,fun k b ⟨j,_,z⟩=>s.out j b z,fun k l b ⟨j,h1,z⟩ ⟨j',h2,W⟩=>?_⟩
   . obtain ⟨h1,h2⟩:=dY h;obtain ⟨j,q,e2⟩:=vG h1;obtain ⟨j',O,U⟩:=qc h2;rw [q] at O;cases O;exact (s.own j t v (cU e2 U)).grow fun b z=>⟨j,q,z⟩
   . have:=s.dis _ _ b z W;subst this;exact yq S h1 h2
theorem t6 {g:TG} {tt:TT} {te:TE} {D:Addr} (Pv:Nat->Hp->Prop) (h0:Pv 0 (upd H1 D (.lst []))) (U:∀ i H,Pv i H->(i<n->J.go i H)/\(i=n->J.stop i H))
 (hs:∀ i x H H',i<n->Pv i H->J.yld i H x H'->g x (stC src σ) H' fun O H2=>Wk (stC src σ) O/\tt O H2 fun b Y=>if b=true then te O Y fun v W=>∃ ys,W D=some (.lst ys)/\ys.length<qb2/\Pv (i+1) (upd W D (.lst (ys++[v]))) else Pv (i+1) Y)
 (Z:∀ H,Pv n H->Q (.ref D) H):An src g tt te σ J H1 Q D:=by
 refine ⟨fun i m H=>m=n-i/\i<=n/\Pv i H,⟨n,by simp,qn8 _,h0⟩,?_⟩;rintro i m H ⟨rfl,hi,p⟩;obtain ⟨p1,p2⟩:=U i H p;by_cases q:i<n
 . exact .inr ⟨p1 q,Pv (i+1),fun H' p'=>⟨n-(i+1),by oo,rfl,q,p'⟩,fun x H' y=>hs i x H H' q p y⟩
 . have e:i=n:=by oo
   subst e;exact .inl ⟨p2 rfl,Z H p⟩
theorem mY (S:CmpScope X.N X.env.scope scope M src) (hts:(ts.all fun k=>decide (src[k]?=some none))=true):∀ (σ:St) (H:Hp) (Q:VK),tO X.K (bF src fi bb ft fe) σ H Q->lC src (tIB X.K fi) (gD X.K ts bb) (tTr X.K ft) (tL X.K fe) σ H Q:=fun σ H Q ⟨Φ,δ,F,t,hK,en,hf,k⟩=>by
 unfold bF at hf;obtain ⟨ds,hd,hf⟩:=bS hf;obtain ⟨all,ha,hf⟩:=bS hf;split at hf
 case isFalse=>cases hf
 rename_i hz;cases hf;rw [vg];refine ⟨Φ,δ,F,ds,hK,en,hd,fun J ok H1 F1 st1 wd ho D hD=>?_⟩;have en1:=en.step st1;have k1:=k.step st1
 have wk:∀ {σ2:St},σ2.length=(stC src σ).length->(∀ j,j∉ts->σ2[j]?=(stC src σ)[j]?)->Wk (stC src σ) σ2:=fun {σ2} h1 h2=>by
  refine ⟨h1.symm,fun j v hj=>?_⟩;by_cases hm:j∈ts
  . have:=qj2.mp hts j hm;have hn:src[j]?=some none:=of_decide_eq_true this;obtain ⟨i,e,_⟩:=qc hj;rw [hn] at e;cases e
  . rw [h2 j hm];exact hj
 have ok':∀ {F H:Hp},Step F1 H1 F H->ok H:=fun st=>ho _ st.hh
 refine t6 (n:=ds.length) (fun i H=>∃ F ys done U,Step F1 H1 F H/\H D=some (.lst ys)/\F D=none/\Reps X.K F done ys/\cg bb ft fe (dC src δ) (ds.drop i)=some U/\done++U=all) ?_ ?_ ?_ ?_
 . exact ⟨F1,[],[],all,Step.made st1.fh hD,ar,st1.fh.free hD,by simp [Reps],by simpa using ha,rfl⟩
 . rintro i H' ⟨F',ys,done,U,st,_⟩;obtain ⟨p1,p2,_⟩:=wd i H' F' (ok' st) st.fh st.ff;exact ⟨p1,p2⟩
 . rintro i x H0' H' hi ⟨F0',ys,done,U,st0,hD0,hFD0,rys0,O,W⟩ hy0;obtain ⟨_,_,p3⟩:=wd i H0' F0' (ok' st0) st0.fh st0.ff;obtain ⟨d,F',hd',stw,rd⟩:=p3 x H' hi hy0;have st:=st0.trans stw;have Z:H' D=some (.lst ys):=stw.hh _ _ hD0
   have hFD:F' D=none:=by
    cases q:F' D with
    | none=>rfl
    | some o =>
     rcases stw.nw D o q with z | z
     . rw [hFD0] at z;cases z
     . rw [hD0] at z;cases z
   have rys:=rys0.same stw.ff;rw [mX hd'] at O;unfold cg at O;obtain ⟨δ1,h1,O⟩:=bS O;obtain ⟨b,h2,O⟩:=bS O;refine ⟨Φ,dC src δ,F',d,δ1,hK,(en1.step st).comp S,rd,h1,fun σ2 l2 k2 en2=>⟨wk l2 k2,Φ,δ1,F',b,hK,en2,h2,fun H3 F3 Y=>?_⟩⟩;have hD3:H3 D=some (.lst ys):=Y.hh _ _ Z
   have hF3:F3 D=none:=by
    cases q:F3 D with
    | none=>rfl
    | some o =>
     rcases Y.nw D o q with z | z
     . rw [hFD] at z;cases z
     . rw [Z] at z;cases z
   dsimp only;split at O
   . rename_i q;rw [if_pos q];obtain ⟨y,hy,O⟩:=bS O;obtain ⟨zs,hzs,O⟩:=bS O;cases O;refine ⟨Φ,δ1,F3,y,hK,en2.step Y,hy,fun v H4 F4 st4 rv=>?_⟩;have hD4:H4 D=some (.lst ys):=st4.hh _ _ hD3
     have hF4:F4 D=none:=by
      cases q:F4 D with
      | none=>rfl
      | some o =>
       rcases st4.nw D o q with z | z
       . rw [hF3] at z;cases z
       . rw [hD3] at z;cases z
     have s14:=(st.trans Y).trans st4;refine ⟨ys,hD4,?_,F4,ys++[v],done++[y],zs,?_,ar,hF4,(rys.same (Y.ff.trans st4.ff)).append (Reps.one rv),hzs,by rw [<- W];simp⟩
     . have e1:=rys.length;have e2:all.length=done.length+(zs.length+1):=by rw [<- W];simp
       oo
     . refine ⟨fun c o e=>?_,s14.ff,fun c o e=>?_,s14.nw⟩
       . rw [ap (bn e hD)];exact s14.hh _ _ e
       . rw [ap (bn e hF4)];exact s14.fh _ _ e
   . rename_i q;rw [if_neg q];exact ⟨F3,ys,done,U,st.trans Y,hD3,hF3,rys.same Y.ff,O,W⟩
 . rintro H' ⟨F',ys,done,U,st,Z,hFD,rys,O,W⟩;rw [zc7] at O;cases O;rw [qh2] at W;subst W
   exact k1 (.ref D) H' F' (fun b=>b=D) st ⟨D,ys,rfl,rfl,Z,rys⟩ fun b z=>by subst z;exact ⟨hFD,hD,_,Z⟩
theorem bV (S:CmpScope X.N X.env.scope scope M src) (Y:X.calm=true) (hi:DIB X tg iter fi) (O:M.Nodup->∀ C s H ex,DG #h tg ts bb)
 (ht:∀ C s H ex,DTs #h ifs ft) (Z:∀ C s H ex,DL #h elt fe) (q:(ts.all fun k=>decide (src[k]?=some none))=true) (U:∀ x,qg7 iter X.env x=pure x:=by intro _;rfl) :
  DO X \9 (bF src fi bb ft fe):=PE.mono (ou (g:=gD X.K ts bb) (tt:=tTr X.K ft) (te:=tL X.K fe) S Y hi (fun W C s H ex=>O W C s H ex) (fun C s H ex=>ht C s H ex) (fun C s H ex=>Z C s H ex) U) (mY S q)
end
df db (m:Nat) (g:De->Option Out):List Dt->Option T:=fun ds=>match g (ds.map (fun d=>some (T.leaf d))++qc6 (m-ds.length) none) with
 | some (.rt t)=>some t
 | some (.nx _)=>some (.leaf .non)
 | _=>none
theorem oD {F:Hp} (Y:Same F H) (r:Reps K F ds vs) :
  En ⟨K,F,H,fun _=>False⟩ (ds.map (fun d=>some (T.leaf d))++qc6 (N.length-ds.length) none) (start N vs) F H:=by
 have Z:=r.length
 have q:∀ (i:Nat) (t:T),(ds.map (fun d=>some (T.leaf d))++qc6 (N.length-ds.length) none)[i]?=some (some t)->∃ d v,t=T.leaf d/\vs[i]?=some v/\Rep K F d v/\(start N vs)[i]?=some (some v):=fun i t h=>by
  by_cases hi:i<ds.length
  . rw [qa5 (by simpa using hi),qb0] at h;have U:ds[i]?=some ds[i]:=by simp [hi]
    rw [U] at h;cases h;obtain ⟨v,W,O⟩:=r.get U;refine ⟨_,v,rfl,W,O,?_⟩;unfold start;rw [qa5 (by simp;oo),qb0,W];rfl
  . rw [qc5 (by simpa using hi)] at h;rw [ql2] at h;split at h<;>cases h
 refine ⟨Y,fun b o h _=>h,Same.refl _,fun b o h=>.inl h,by simp [start,Z],fun i t h=>?_,fun _ _=>False,fun i t v h=>?_,fun _ _ z=>z.elim,fun _ _ _ z=>z.elim⟩
 . obtain ⟨d,v,_,_,_,e⟩:=q i t h;exact ⟨v,e⟩
 . obtain ⟨h1,h2⟩:=dY h;obtain ⟨d,w,rfl,_,O,e⟩:=q i t h1;rw [h2] at e;cases e;exact O
variable {st:Stmt}
section
variable {P:qc9} {w:World} {K:PySem.W.Frag} {mg:Str->Option Value} {base:Heap}
theorem Rt.step {F:Hp} {t:T} (h:Rt ⟨K,F,H,fun _=>False⟩ t v F' H') (k:KO K F H t Q):Q v H':=by
 obtain ⟨U,q,O,Y,S,o,W⟩:=h;refine k v H' F' S ⟨fun b u e=>q b u e id,O,U,fun b u e=>(Y b u e).elim .inl fun z=>z.elim .inr qg6⟩ o fun b z=>?_
 obtain ⟨h1,h2,h3⟩:=W b z;exact ⟨h1,h3.elim id qg6,h2⟩
theorem cb {k:Nat} {g:De->Option Out} (D:DefF K mg x st ps) (S:FnScope N ps (ac st)) (hn:ps.length=n)
 (O:∀ (f:Addr) (cdv:Value) (A:qe0) (outer:List Env) (s:qa4) (H:Hp) (E:XK),Room k (A.deeper (qz3 x (ac st) s.heap.objs.size f cdv))->DS (jy CX0 P w K mg base N x (ac st) f cdv A outer s H E).nox (aI st) g) :
  OkF P w K mg base x (k+1) ps (spD K n (db N.length g)):=by
 refine D.ok S (fun vs H Q E h=>?_) (fun f cdv A outer s H vs Q E Z h=>?_)
 . obtain ⟨F,ds,t,_,W,r,_⟩:=h;rw [r.length,W,hn]
 . obtain ⟨F,ds,t,Y,W,r,U,kq⟩:=h;refine ⟨_,O f cdv A outer s H E Z,?_⟩;unfold db at U;split at U
   . rename_i t' q;cases U;exact ⟨⟨K,F,H,fun _=>False⟩,_,F,_,rfl,oD Y r,q,fun v F' H' z=>z.step kq⟩
   . rename_i δ' q;cases U;exact ⟨⟨K,F,H,fun _=>False⟩,_,F,_,rfl,oD Y r,q,fun σ' F' H' z=>(z.rt (Step.refl z.fh) (t:=.leaf .non) (S:=fun _=>False) (iz (K:=K) (F:=F')) fun _ y=>y.elim).step kq⟩
   . cases U
end
section
variable {K:PySem.W.Frag} {F H:Hp} {Q:VK}
theorem KO.int {i:Int} (k:KO K F H (.leaf (.int i)) Q) (q:Same F H):Q (.int i) H:=k.leaf.here q gn
theorem KO.bl {i:Bool} (k:KO K F H (.leaf (.bl i)) Q) (q:Same F H):Q (.bl i) H:=k.leaf.here q mV
theorem KO.str {i:Str} (k:KO K F H (.leaf (.str i)) Q) (q:Same F H):Q (.str i) H:=k.leaf.here q iy
theorem KO.tup (k:KO K F H (.leaf (.tup l)) Q) (q:Same F H) (r:Reps K F l vs) (hp:H p=none):Q (.ref p) (upd H p (.tup vs)):=by refine k.leaf _ _ _ (Step.new q hp) ?_;simp only [Rep];exact ⟨p,vs,rfl,SqT.of ar,r.same (Same.upd (q.free hp))⟩
end
df jm (i j:Int):Bool:=(decide (-(2^64)<i)&&decide (i<2^64))||(decide (-(2^64)<j)&&decide (j<2^64))
theorem yr {i:Int} (h:jm i j=true):CMul i j:=by unfold jm at h;simp only [qk5,qb4,decide_eq_true_eq] at h;exact h
theorem yt {i:Int} (h1:-1000000000000000000<i) (h2:i<1000000000000000000):jm i j=true:=by unfold jm;simp only [qk5,qb4,decide_eq_true_eq];left;oo
theorem yu {i:Int} (h1:-1000000000000000000<j) (h2:j<1000000000000000000):jm i j=true:=by unfold jm;simp only [qk5,qb4,decide_eq_true_eq];right;oo
df lL (i j:Int):Bool:=decide (0<=j)&&decide (j<=1000000)&&decide (i.natAbs<2^64)
theorem yv {i:Int} (h:lL i j=true):Bj i j:=by unfold lL at h;simp only [qb4,decide_eq_true_eq] at h;exact ⟨h.1.1,h.1.2,h.2⟩
df bB:Dt->Dt->Option T
 | .int i,.int j=>some (.leaf (.int (i+j)))
 | .str a,.str b=>if a.length+b.length<=qb2 then some (.leaf (.str (a++b))) else none
 | .lst l,.lst m=>if l.length+m.length<=qb2 then some (.lst (l++m)) else none
 | .tup l,.tup m=>if l.length+m.length<=qb2/\l≠[]/\m≠[] then some (.leaf (.tup (l++m))) else none
 | _,_=>none
df fO:Dt->Dt->Option T
 | .int i,.int j=>some (.leaf (.int (i-j)))
 | _,_=>none
df jB:Dt->Dt->Option T
 | .int i,.int j=>if jm i j then some (.leaf (.int (i*j))) else none
 | _,_=>none
df dB:Dt->Dt->Option T
 | .int i,.int j=>if 0<j then some (.leaf (.int (i%j))) else none
 | _,_=>none
df jC:Dt->Dt->Option T
 | .int i,.int j=>if lL i j then some (.leaf (.int (i^j.toNat))) else none
 | _,_=>none
df jD (f:Int->Int->Bool):Dt->Dt->Option T
 | .int i,.int j=>some (.leaf (.bl (f i j)))
 | _,_=>none
variable {b:Bool} {f:De->Option Dt} {p2:Pos}
section
variable {X:Cx}
theorem yw:OpR X (qk0 .Add) (fun x y H Q=>∃ l b xs zs,x=.ref l/\y=.ref b/\SqL X.K H l xs/\SqL X.K H b zs/\xs.length+zs.length<=qb2/\∀ p,H p=none->Q (.ref p) (upd H p (.lst (xs++zs)))):=by
 intro pins s σ H x y v u Q I rx ry h;obtain ⟨l,b,xs,zs,rfl,rfl,hH,hB,hz,q⟩:=h;cases rx;cases ry;obtain ⟨its,r,pl,_⟩:=I.list hH;obtain ⟨O,r2,pl2,_⟩:=I.list hB;obtain ⟨⟨cls,dd,data,sl⟩,n,ho,hc,hd0,hd⟩:=pl;obtain ⟨⟨cls2,dd2,Z,sl2⟩,n2,W,Y,hd02,U⟩:=pl2;simp only at hc hd Y U;subst hc hd Y U;have e:its.toArray++O.toArray=(its++O).toArray:=by simp
 refine qz4 ⟨_,ho,rfl⟩ ⟨_,W,rfl⟩ noFill_list_add seq_list_add PySem.F.slot_list_add PySem.F.entry_list_add (PySem.F.args_list_add_2 _ _) (list_addW l b its.toArray O.toArray n n2 dd dd2 sl sl2 (by rw [qb5,qb5,<- r.length,<- r2.length];exact hz)) ⟨ho,W,?_⟩;rw [e];exact ⟨.ref _,_,I.lnew (t':=s.toks) (r.append r2) (by rw [qa8];exact hz),rfl,q _ I.fresh⟩
noncomputable abbrev lM (K:PySem.W.Frag):R2:=fun x y H Q=>(rI0 (fun i j=>.int (i+j)) x y H Q)∨(∃ i j,x=.str i/\y=.str j/\i.length+j.length<=qb2/\Q (.str (i++j)) H)∨(∃ l b xs zs,x=.ref l/\y=.ref b/\SqL K H l xs/\SqL K H b zs/\xs.length+zs.length<=qb2/\∀ p,H p=none->Q (.ref p) (upd H p (.lst (xs++zs))))∨Ai K x y H Q
theorem dE:OpR X (qk0 .Add) (lM X.K):=OpR.or Bk (OpR.or pV (OpR.or yw x9))
theorem jn:R2D K (lM K) bB:=by
 intro F H x y vx vy Q t U Z Y q k;unfold bB at q;split at q<;>first | (cases q;done) | skip
 . cases q;cases Z;cases Y;exact .inl ⟨_,_,rfl,rfl,k.int U⟩
 . split at q
   . cases q;cases Z;cases Y;exact .inr (.inl ⟨_,_,rfl,rfl,by assumption,k.str U⟩)
   . cases q
 . split at q
   . rename_i W;cases q;obtain ⟨a,vs,rfl,h1,h2⟩:=Z;obtain ⟨b,ws,rfl,h3,O⟩:=Y;exact .inr (.inr (.inl ⟨a,b,vs,ws,rfl,rfl,h1,h3,by rw [h2.length,O.length];exact W,fun p hp=>gq k U (h2.append O) hp⟩))
   . cases q
 . split at q
   . rename_i W;cases q;obtain ⟨a,vs,rfl,h1,h2⟩:=Z;obtain ⟨b,ws,rfl,h3,O⟩:=Y;obtain ⟨W,n1,n2⟩:=W;refine .inr (.inr (.inr ⟨a,b,vs,ws,rfl,rfl,U.tup h1,U.tup h3,fun z=>?_,by rw [h2.length,O.length];exact W,fun z=>?_,fun _ p hp=>k.tup U (h2.append O) hp⟩))
     . subst z;have:=h2.length;exact n1 (qv8 this.symm)
     . subst z;have:=O.length;exact absurd (qv8 this.symm) n2
   . cases q
theorem DX:R2D K (rI0 fun i j=>.int (i-j)) fO:=by
 intro F H x y Y Z Q t O W U q k;unfold fO at q;split at q<;>first | (cases q;done) | skip
 cases q;cases W;cases U;exact ⟨_,_,rfl,rfl,k.int O⟩
theorem Aq:R2D K (rI CMul fun i j=>.int (i*j)) jB:=by
 intro F H x y Y Z Q t O W U q k;unfold jB at q;split at q<;>first | (cases q;done) | skip
 split at q
 . cases q;cases W;cases U;exact ⟨_,_,rfl,rfl,yr (by assumption),k.int O⟩
 . cases q
theorem oE:R2D K (rI (fun _ j=>0<j) fun i j=>.int (i%j)) dB:=by
 intro F H x y Y Z Q t O W U q k;unfold dB at q;split at q<;>first | (cases q;done) | skip
 split at q
 . cases q;cases W;cases U;exact ⟨_,_,rfl,rfl,by assumption,k.int O⟩
 . cases q
theorem j4:R2D K (rI Bj fun i j=>.int (i^j.toNat)) jC:=by
 intro F H x y Y Z Q t O W U q k;unfold jC at q;split at q<;>first | (cases q;done) | skip
 split at q
 . cases q;cases W;cases U;exact ⟨_,_,rfl,rfl,yv (by assumption),k.int O⟩
 . cases q
theorem iA {f:Int->Int->Bool}:R2D K (rI0 fun i j=>.bl (f i j)) (jD f):=by
 intro F H x y Y Z Q t O W U q k;unfold jD at q;split at q<;>first | (cases q;done) | skip
 cases q;cases W;cases U;exact ⟨_,_,rfl,rfl,k.bl O⟩
df eqD:Dt->Dt->Option Bool
 | .non,.non=>some true
 | .non,.int _=>some false
 | .non,.bl _=>some false
 | .non,.str _=>some false
 | .int _,.non=>some false
 | .bl _,.non=>some false
 | .str _,.non=>some false
 | .int i,.int j=>some (decide (i=j))
 | .bl i,.bl j=>some (decide (i=j))
 | .str i,.str j=>some (decide (i=j))
 | .int _,.str _=>some false
 | .str _,.int _=>some false
 | .bl _,.str _=>some false
 | .str _,.bl _=>some false
 | .tup l,.tup m=>if cmpbs l m&&decide (deeps l<=59) then some (peqs l m) else none
 | .lst l,.lst m=>if cmpbs l m&&decide (deeps l<=59) then some (peqs l m) else none
 | _,_=>none
df gEq (neg:Bool) (x y:Dt):Option T:=(eqD x y).map fun b=>.leaf (.bl (if neg then !b else b))
abbrev rEqA (K:PySem.W.Frag):R2:=fun x y H Q=>rEq x y H Q∨yl K false x y H Q
abbrev rNeA (K:PySem.W.Frag):R2:=fun x y H Q=>rNe x y H Q∨yl K true x y H Q
theorem mZ {k:Nat} (q:Room k X.A):OpR X (qg9 .Eq) (rEqA X.K):=OpR.or Dy (BG q rfl)
theorem vH {k:Nat} (q:Room k X.A):OpR X (qg9 .NotEq) (rNeA X.K):=OpR.or Dz (BH q rfl)
theorem vI {F:Hp} {x y:Dt} {O U:V} (Z:Same F H) (Y:RepB K F H x O) (W:RepB K F H y U) (h:eqD x y=some b) :
  (Bn O U=true/\b=decide (O=U))∨(((∃ l m,x=.tup l/\y=.tup m)∨∃ l m,x=.lst l/\y=.lst m)/\b7 x y=true/\cF x<=60/\b=peq x y):=by
 unfold eqD at h
 split at h<;>first
  | (cases h;done)
  | (cases h;cases Y;cases W;left;refine ⟨rfl,?_⟩;simp;done)
  | skip
 . right;split at h
   . rename_i q;simp only [qb4,decide_eq_true_eq] at q;cases h;exact ⟨.inl ⟨_,_,rfl,rfl⟩,by simp only [b7];exact q.1,by simp only [cF];oo,by simp only [pqn,pqt,pql,pqd,pqD,pqi]⟩
   . cases h
 . right;split at h
   . rename_i q;simp only [qb4,decide_eq_true_eq] at q;cases h;exact ⟨.inr ⟨_,_,rfl,rfl⟩,by simp only [b7];exact q.1,by simp only [cF];oo,by simp only [pqn,pqt,pql,pqd,pqD,pqi]⟩
   . cases h
theorem yx:R2D K (rEqA K) #f:=by
 intro F H x y Z vy Q t O W U q k;unfold gEq at q;obtain ⟨b,Y,q⟩:=mS q;cases q;have kk:Q (.bl b) H:=k.bl O;rcases vI O W U Y with ⟨h1,rfl⟩ | ⟨h1,h2,h3,rfl⟩
 . exact .inl ⟨h1,kk⟩
 . exact .inr ⟨x,y,h1,W.rep O,U.rep O,h2,h3,kk⟩
theorem r_ne:R2D K (rNeA K) (gEq true):=by
 intro F H x y Z vy Q t O W U q k;unfold gEq at q;obtain ⟨b,Y,q⟩:=mS q;cases q;have kk:Q (.bl (!b)) H:=k.bl O;rcases vI O W U Y with ⟨h1,rfl⟩ | ⟨h1,h2,h3,rfl⟩
 . exact .inl ⟨h1,kk⟩
 . exact .inr ⟨x,y,h1,W.rep O,U.rep O,h2,h3,kk⟩
df vJ:Dt->Bool
 | .non=>true
 | _=>false
df gIs (neg:Bool) (x y:Dt):Option T:=match y with
 | .non=>some (.leaf (.bl (if neg then !vJ x else vJ x)))
 | _=>none
theorem oF {F:Hp} {x:Dt} (r:RepB K F H x v):vJ x=decide (v=.non):=by
 cases x<;>first
  | (cases r;rfl)
  | (obtain ⟨a,vs,rfl,_⟩:=r;rfl)
  | (simp only [RepB,Rep] at r;obtain ⟨a,C,dx,fs,rfl,_⟩:=r;rfl)
theorem yy:R2D K (fun x y H Q=>y=.non/\Q (.bl (decide (x=.non))) H) (gIs false):=by
 intro F H x y Y Z Q t O W U q k;cases y<;>first | cases q;done | skip
 cases q;cases U;refine ⟨rfl,?_⟩;rw [<- oF W];exact k.bl O
theorem rQ:R2D K (fun x y H Q=>y=.non/\Q (.bl (!decide (x=.non))) H) (gIs true):=by
 intro F H x y Y Z Q t O W U q k;cases y<;>first | cases q;done | skip
 cases q;cases U;refine ⟨rfl,?_⟩;rw [<- oF W];exact k.bl O
df bQ:Dt->Bool
 | .non=>true
 | .bl _=>true
 | .int _=>true
 | .str _=>true
 | _=>false
df eqF:Dt->Dt->Bool
 | .non,.non=>true
 | .bl a,.bl b=>a==b
 | .bl a,.int b=>(if a then 1 else 0)==b
 | .int a,.bl b=>a==(if b then 1 else 0)
 | .int a,.int b=>a==b
 | .str a,.str b=>a==b
 | _,_=>false
df inS (j i:Str):Bool:=!(qh7 j i 0 j.length 1).isEmpty
df inD:Dt->Dt->Option Bool
 | .str i,.str j=>some (inS j i)
 | x,.lst l=>if bQ x&&l.all bQ then some (l.any fun y=>eqF y x) else none
 | x,.tup l=>if bQ x&&l.all bQ then some (l.any fun y=>eqF y x) else none
 | _,_=>none
df gIn (neg:Bool) (x y:Dt):Option T:=(inD x y).map fun b=>.leaf (.bl (if neg then !b else b))
theorem m6 {F:Hp} {d:Dt} (r:Rep K F d v) (h:bQ d=true):gG v=true:=by
 cases d<;>simp only [Rep] at r<;>first
  | (subst r;rfl)
  | cases h
theorem BL {F:Hp} {d e:Dt} {w:V} (r:Rep K F d v) (q:Rep K F' e w) (h:bQ d=true) (h':bQ e=true):eqF d e=eqV v w:=by
 cases d<;>first | cases h;done | skip
 all_goals cases e<;>first | cases h';done | skip
 all_goals simp only [Rep] at r q;subst r q;rfl
theorem j5 {F:Hp}:∀ {l:List Dt} {vs:List V},Reps K F l vs->l.all bQ=true->vs.all gG=true
 | [],vs,r,_=>by simp only [Reps] at r;subst r;rfl
 | d::l,vs,r,h=>by simp only [Reps] at r;obtain ⟨v,q,rfl,h1,h2⟩:=r;rw [qp2,qb4] at h ⊢;exact ⟨m6 h1 h.1,j5 h2 h.2⟩
theorem qd {F:Hp} {x:Dt} {w:V} (q:Rep K F' x w) (O:bQ x=true):∀ {l:List Dt} {vs:List V},Reps K F l vs->l.all bQ=true->(l.any fun y=>eqF y x)=inV w vs
 | [],vs,r,_=>by simp only [Reps] at r;subst r;rfl
 | d::l,vs,r,h=>by simp only [Reps] at r;obtain ⟨v,U,rfl,h1,h2⟩:=r;rw [qp2,qb4] at h;unfold inV;rw [qi9,qi9,BL h1 q h.1 O,qd q O h2 h.2];rfl
abbrev vK (K:PySem.W.Frag) (neg:Bool):R2:=fun x y H Q=>(∃ i j,x=.str i/\y=.str j/\Q (.bl (if neg then !inS j i else inS j i)) H)∨rIn K neg x y H Q
theorem BM:OpR X (qg9 .In) (vK X.K false):=OpR.or tH tQ
theorem t7:OpR X (qg9 .NotIn) (vK X.K true):=OpR.or mI mH
theorem r_in (neg:Bool):R2D K (vK K neg) (gIn neg):=by
 intro F H x y vx vy Q t Y rx Z W k;unfold gIn at W;obtain ⟨b,U,W⟩:=mS W;cases W;have kk:=k.bl Y;unfold inD at U;split at U<;>first | (cases U;done) | skip
 . cases U;cases rx;cases Z;exact .inl ⟨_,_,rfl,rfl,kk⟩
 . split at U
   . rename_i q;rw [qb4] at q;cases U;obtain ⟨a,vs,rfl,h1,h2⟩:=Z;have O:=rx.rep Y;rw [qd O q.1 h2 q.2] at kk;exact .inr ⟨a,vs,rfl,.inl h1,m6 O q.1,j5 h2 q.2,kk⟩
   . cases U
 . split at U
   . rename_i q;rw [qb4] at q;cases U;obtain ⟨a,vs,rfl,h1,h2⟩:=Z;have O:=rx.rep Y;rw [qd O q.1 h2 q.2] at kk;exact .inr ⟨a,vs,rfl,.inr (Y.tup h1),m6 O q.1,j5 h2 q.2,kk⟩
   . cases U
theorem oG {F:Hp} {i:Int} {d:Dt} (r:Reps K F l vs) (h:atI l i=some d):∃ v,atI vs i=some v/\Rep K F d v:=by unfold atI at h ⊢;rw [r.length];obtain ⟨j,q,h⟩:=bS h;obtain ⟨v,e,O⟩:=r.get h;exact ⟨v,by rw [q];exact e,O⟩
df gIx:Dt->Dt->Option T
 | .lst l,.int i=>(atI l i).map .leaf
 | .tup l,.int i=>(atI l i).map .leaf
 | .str x,.int i=>if x.length<=qb2 then (atI x.cps.toList i).map fun c=>.leaf (.str ⟨#[c]⟩) else none
 | _,_=>none
theorem r_ix:R2D K (rIx K) gIx:=by
 intro F H x y vx vy Q t O Z W q k;unfold gIx at q;split at q<;>first | (cases q;done) | skip
 . obtain ⟨d,U,q⟩:=mS q;cases q;cases W;obtain ⟨a,vs,rfl,h1,h2⟩:=Z;obtain ⟨v,e,Y⟩:=oG h2 U;exact .inl ⟨a,vs,_,v,rfl,rfl,h1,e,k.leaf.here O Y⟩
 . obtain ⟨d,U,q⟩:=mS q;cases q;cases W;obtain ⟨a,vs,rfl,h1,h2⟩:=Z;obtain ⟨v,e,Y⟩:=oG h2 U;exact .inr (.inl ⟨a,vs,_,v,rfl,rfl,O.tup h1,e,k.leaf.here O Y⟩)
 . split at q
   . rename_i hl;obtain ⟨c,hc,q⟩:=mS q;cases q;cases Z;cases W;exact .inr (.inr ⟨_,_,c,rfl,rfl,hl,hc,k.str O⟩)
   . cases q
variable {a b c:Expr} {fa fb fc:De->Option Dt} {pos:Pos}
df qe (l:List Dt) (lo hi:Option Int):List Dt:=(l.drop (HT.sIx l.length 0 lo)).take (HT.sIx l.length l.length hi-HT.sIx l.length 0 lo)
df gSl:Dt->Option Int->Option Int->Option T
 | .str x,lo,hi=>if x.length<=qb2 then some (.leaf (.str (Txt.slice x lo hi))) else none
 | .lst l,lo,hi=>some (.lst (qe l lo hi))
 | .tup l,lo,hi=>if HT.sIx l.length 0 lo=0/\HT.sIx l.length l.length hi=l.length then none else some (.leaf (.tup (qe l lo hi)))
 | _,_,_=>none
abbrev BN (K:PySem.W.Frag):V->Option Int->Option Int->Hp->VK->Prop:=fun x lo hi H Q=>rSlS x lo hi H Q∨rSlL K x lo hi H Q∨rSlT K x lo hi H Q
theorem vM:SlR X (BN X.K):=SlR.or BC (SlR.or yb Bu)
theorem oH {F:Hp} (r:Reps K F l vs) (lo hi:Option Int):Reps K F (qe l lo hi) (n9 vs lo hi):=by unfold qe n9;rw [r.length];exact (r.drop _).take _
theorem BO {F:Hp} {x:Dt} {lo hi:Option Int} {t:T} (O:Same F H) (U:RepB K F H x v) (q:gSl x lo hi=some t) (k:KO K F H t Q):BN K v lo hi H Q:=by
 unfold gSl at q;split at q<;>first | (cases q;done) | skip
 . split at q
   . cases q;cases U;exact .inl ⟨_,rfl,by assumption,k.str O⟩
   . cases q
 . obtain ⟨a,vs,rfl,h1,h2⟩:=U;cases q;exact .inr (.inl ⟨a,vs,rfl,h1,fun p hp=>gq k O (oH h2 _ _) hp⟩)
 . obtain ⟨a,vs,rfl,h1,h2⟩:=U;split at q
   . cases q
   . rename_i W;cases q;rw [<- h2.length] at W;exact .inr (.inr ⟨a,vs,rfl,O.tup h1,W,fun p hp=>k.tup O (oH h2 _ _) hp⟩)
df tOD (K:PySem.W.Frag) (f:De->Option (Option Int)):TO:=fun σ H Q=>∃ Φ δ F d,Fm.K Φ=K/\En Φ δ σ F H/\f δ=some d/\∀ H' F',Step F H F' H'->Q d H'
df oI:De->Option (Option Int):=fun _=>some none
df asI:Dt->Option Int
 | .int i=>some i
 | _=>none
df lN (f:De->Option Dt):De->Option (Option Int):=fun δ=>(f δ).bind fun d=>(asI d).map some
theorem oJ {F:Hp} {x:Dt} {b:Int} (h:asI x=some b) (r:RepB K F H x v):v=.int b:=by
 cases x<;>first | cases h;done | skip
 cases h;exact r
df DP (X:Cx) (e:Option Expr) (f:De->Option (Option Int)):Prop:=PO X e (tOD X.K f)
theorem yz:DP X none oI:=fun pins s σ H Q I h=>xY pins s σ H Q I (by obtain ⟨Φ,δ,F,d,O,en,q,k⟩:=h;cases q;exact k H F (Step.refl en.fh))
theorem yA (h:DB X e f):DP X (some e) (lN f):=fun pins s σ H Q I q=>xZ h pins s σ H Q I (by obtain ⟨Φ,δ,F,d,W,en,O,k⟩:=q;unfold lN at O;obtain ⟨x,U,O⟩:=bS O;obtain ⟨i,hi,O⟩:=mS O;cases O;exact ⟨Φ,δ,F,x,W,en,U,fun v H' F' st r=>⟨i,oJ hi r,k H' F' st⟩⟩)
df vSl (fa:De->Option Dt) (O q:De->Option (Option Int)):De->Option T:=fun δ=>(fa δ).bind fun x=>(O δ).bind fun l=>(q δ).bind fun h=>gSl x l h
theorem vN {lo hi:Option Expr} {fl fh:De->Option (Option Int)} (he:DB X e f) (W:DP X lo fl) (Y:DP X hi fh):DO X (.Subscript e (.Slice lo hi none p2) pos) (vSl f fl fh):=PE.mono (n8 vM he W Y) fun σ H Q ⟨Φ,δ,F,t,Z,en,q,k⟩=>by unfold vSl at q;obtain ⟨x,hx,q⟩:=bS q;obtain ⟨l,W,q⟩:=bS q;obtain ⟨h,Y,q⟩:=bS q;exact ⟨Φ,δ,F,x,Z,en,hx,fun v H1 F1 s1 r1=>⟨Φ,δ,F1,l,Z,en.step s1,W,fun H2 F2 O=>⟨Φ,δ,F2,h,Z,en.step (s1.trans O),Y,fun H3 F3 U=>BO U.fh (r1.step (O.ff.trans U.ff) (O.hh.trans U.hh)) q (k.step ((s1.trans O).trans U))⟩⟩⟩
df qf (f:De->Option Dt):De->Option T:=fun δ=>(f δ).bind fun d=>(asI d).map fun i=>.leaf (.int (-i))
theorem BP (h:DB X a fa):DO X (.UnaryOp .USub a pos) (qf fa):=PE.mono (Dx Bm h) fun σ H Q ⟨Φ,δ,F,t,U,en,q,k⟩=>by unfold qf at q;obtain ⟨x,O,q⟩:=bS q;obtain ⟨i,hi,q⟩:=mS q;cases q;exact ⟨Φ,δ,F,x,U,en,O,fun v H' F' st r=>⟨i,oJ hi r,(k.step st).int st.fh⟩⟩
df cX:List Dt->Option T
 | [.str x]=>if x.length<=qb2 then some (.leaf (.int x.length)) else none
 | [.tup l]=>some (.leaf (.int l.length))
 | [.lst l]=>some (.leaf (.int l.length))
 | _=>none
theorem du {F:Hp} {d:Dt} (r:RepBs K F H [d] vs):∃ v,vs=[v]/\RepB K F H d v:=by obtain ⟨v,q,rfl,h1,h2⟩:=r;cases h2;exact ⟨v,rfl,h1⟩
theorem Ar:CRD K (fun xs H Q=>∃ x n,xs=[x]/\LenV K x H n/\Q (.int n) H) cX:=by
 intro F H ds vs Q t U r q k;unfold cX at q;split at q<;>first | (cases q;done) | skip
 . split at q
   . rename_i W;cases q;obtain ⟨v,rfl,O⟩:=du r;cases O;exact ⟨_,_,rfl,⟨W,rfl⟩,k.int U⟩
   . cases q
 . cases q;obtain ⟨v,rfl,O⟩:=du r;obtain ⟨a,vs,rfl,h1,h2⟩:=O;rw [<- h2.length] at k;exact ⟨_,_,rfl,.inr ⟨vs,U.tup h1,rfl⟩,k.int U⟩
 . cases q;obtain ⟨v,rfl,O⟩:=du r;obtain ⟨a,vs,rfl,h1,h2⟩:=O;rw [<- h2.length] at k;exact ⟨_,_,rfl,.inl ⟨vs,h1,rfl⟩,k.int U⟩
df j6:List Dt->Option (List Bool)
 | []=>some []
 | .bl b::r=>(j6 r).map (b::·)
 | _=>none
theorem oK {F:Hp}:∀ {l:List Dt} {vs:List V} {bs:List Bool},Reps K F l vs->j6 l=some bs->vs=bs.map V.bl
 | [],vs,bs,r,h=>by cases h;simp only [Reps] at r;exact r
 | d::l,vs,bs,r,h=>by
  cases d<;>first | cases h;done | skip
  simp only [j6] at h;obtain ⟨cs,O,h⟩:=mS h;cases h;simp only [Reps,Rep] at r;obtain ⟨v,U,rfl,rfl,q⟩:=r;rw [oK q O];rfl
df yB (f:List Bool->Bool):List Dt->Option T
 | [.lst l]=>(j6 l).map fun bs=>.leaf (.bl (f bs))
 | _=>none
theorem As {f:List Bool->Bool}:CRD K (fun xs H Q=>∃ (a:Addr) (bs:List Bool),xs=[.ref a]/\SqL K H a (bs.map V.bl)/\Q (.bl (f bs)) H) (yB f):=by
 intro F H ds vs Q t O r q k;unfold yB at q;split at q<;>first | (cases q;done) | skip
 obtain ⟨bs,W,q⟩:=mS q;cases q;obtain ⟨v,rfl,U⟩:=du r;obtain ⟨a,vs,rfl,h1,h2⟩:=U;have:=oK h2 W;subst this;exact ⟨a,bs,rfl,h1,k.bl O⟩
df fP:List Dt->Option T
 | [.lst l]=>some (.leaf (.tup l))
 | [.tup l]=>some (.leaf (.tup l))
 | _=>none
theorem rR:CRD K (fun xs H Q=>∃ p ys,xs=[.ref p]/\((SqL K H p ys/\∀ l,H l=none->Q (.ref l) (upd H l (.tup ys)))∨(SqT K H p ys/\Q (.ref p) H))) fP:=by
 intro F H ds vs Q t U r q k;unfold fP at q;split at q<;>first | (cases q;done) | skip
 . cases q;obtain ⟨v,rfl,O⟩:=du r;obtain ⟨a,vs,rfl,h1,h2⟩:=O;exact ⟨a,vs,rfl,.inl ⟨h1,fun p hp=>k.tup U h2 hp⟩⟩
 . cases q;obtain ⟨v,rfl,O⟩:=du r;rename_i l;have W:Rep K F (.tup l) v:=by simp only [Rep];exact O
   obtain ⟨a,vs,rfl,h1,h2⟩:=O;exact ⟨a,vs,rfl,.inr ⟨U.tup h1,k.leaf.here U W⟩⟩
df rS:List Dt->Option T
 | [.lst l]=>some (.lst l)
 | [.tup l]=>some (.lst l)
 | _=>none
theorem BQ:CRD K (fun xs H Q=>∃ p ys,xs=[.ref p]/\(SqL K H p ys∨SqT K H p ys)/\∀ l,H l=none->Q (.ref l) (upd H l (.lst ys))) rS:=by
 intro F H ds vs Q t O r q k;unfold rS at q;split at q<;>first | (cases q;done) | skip
 . cases q;obtain ⟨v,rfl,U⟩:=du r;obtain ⟨a,vs,rfl,h1,h2⟩:=U;exact ⟨a,vs,rfl,.inl h1,fun p hp=>gq k O h2 hp⟩
 . cases q;obtain ⟨v,rfl,U⟩:=du r;obtain ⟨a,vs,rfl,h1,h2⟩:=U;exact ⟨a,vs,rfl,.inr (O.tup h1),fun p hp=>gq k O h2 hp⟩
end
variable {pins:List (Addr×Obj)} {s:qa4} {A:qe0}
section
variable {X:Cx} {o a b e c:Expr} {es:List Expr} {fa fb fo fe:De->Option Dt} {fs:De->Option (List Dt)} {pos apos cpos p:Pos} {x:Str} {sc:Scope} {i:Nat}
df j7 (K:PySem.W.Frag) (mg:Str->Option Value) (x:Str) (d:Dt):Prop:=∃ v,(∃ u,mg x=some u/\RelV v u)/\∀ F,Rep K F d v
theorem yC {d:Dt} (h:aH sc x=true) (q:j7 X.K X.mg x d) (O:bH X sc:=by rfl):DL X (.Name x pos) (kD d):=by obtain ⟨v,h1,h2⟩:=q;exact vq (vk h h1 O) h2
theorem iB {mg:Str->Option Value} {i:Str} (h:∃ u,mg x=some u/\RelV (.str i) u):j7 K mg x (.str i):=⟨_,h,fun _=>iy⟩
df oM:Dt->Bool
 | .ins _ _ _=>true
 | _=>false
df tyD:Dt->String
 | .ins _ _ _=>"object"
 | .non=>"NoneType"
 | .bl _=>"bool"
 | .int _=>"int"
 | .str _=>"str"
 | .tup _=>"tuple"
 | .lst _=>"list"
 | .dct _ _=>"dict"
 | .dcT _ _=>"dict"
df At (c:String):Dt->Bool
 | .ins _ _ _=>false
 | .non=>c=="NoneType"
 | .bl _=>c=="bool"||c=="int"
 | .int _=>c=="int"
 | .str _=>c=="str"
 | .tup _=>c=="tuple"
 | .lst _=>c=="list"
 | .dct _ _=>c=="dict"
 | .dcT _ _=>c=="dict"
theorem qg {E:Value->qa4->Prop} {Q:Value->qa4->Prop} {c:Value} {b:Bool} {u:Value} {d:Dt} (I:Inv X pins σ H s) (q:RelV v u) (r:Rep X.K H d v) (hi:oM d=false) (e:PySem.W.kitOne X.K (.type (tyD d)) c=some b) (h:∀ tk,Q (.bool b) {s with toks:=tk}) :
  wpAny \4 A (call (.builtin "isinstance") [u,c]) Q E s:=by
 cases d with
 | non=>simp only [Rep] at r;subst r;exact gj I q .non e h
 | bl y=>simp only [Rep] at r;subst r;exact gj I q (.bl y) e h
 | int y=>simp only [Rep] at r;subst r;exact gj I q (.int y) e h
 | str y=>simp only [Rep] at r;subst r;exact gj I q (.str y) e h
 | tup l =>simp only [Rep] at r;obtain ⟨a,vs,rfl,h1,h2⟩:=r;cases q;obtain ⟨its,_,U,_⟩:=I.tuple h1;obtain ⟨o,O,e2,_⟩:=U;exact PySem.W.kia_one PySem.W.kitx_tuple I.kIn ⟨o,O,e2⟩ e (fun z=>nomatch z) h
 | lst l =>simp only [Rep] at r;obtain ⟨a,vs,rfl,h1,h2⟩:=r;cases q;obtain ⟨its,_,U,_⟩:=I.list h1;obtain ⟨o,n,O,e2,_⟩:=U;exact PySem.W.kia_one PySem.W.kitx_list I.kIn ⟨o,O,e2⟩ e (fun z=>nomatch z) h
 | dct ks l =>simp only [Rep] at r;obtain ⟨a,kvs,rfl,h1,_⟩:=r;cases q;obtain ⟨_,_,vs,_,p⟩:=lw I.hok h1;obtain ⟨o,es,ep,O,e2,_⟩:=p;exact PySem.W.kia_one PySem.W.kitx_dict I.kIn ⟨o,O,e2.1⟩ e (fun z=>nomatch z) h
 | dcT ks l =>simp only [Rep] at r;obtain ⟨a,kvs,rfl,h1,_⟩:=r;cases q;obtain ⟨_,_,xs,_,o,es,ep,O,e2,_⟩:=(show ObjOk X.prog X.w H s.heap a (.dT kvs) from h1.ok I.hok);exact PySem.W.kia_one PySem.W.kitx_dict I.kIn ⟨o,O,e2.1⟩ e (fun z=>nomatch z) h
 | ins c ns l=>cases hi
df g5 (K:PySem.W.Frag) (c:String):Prop:=∀ d:Dt,oM d=false->PySem.W.kitOne K (.type (tyD d)) (.type c)=some (At c d)
theorem qh:bX X (.builtin "isinstance") (fun xs H Q=>∃ v c d b,xs=[v,.ty c]/\Rep X.K H d v/\oM d=false/\PySem.W.kitOne X.K (.type (tyD d)) (.type c)=some b/\Q (.bl b) H):=by intro pins s σ H xs us Q I r h;obtain ⟨v,c,d,b,rfl,rd,hi,e,q⟩:=h;obtain ⟨u,Y,rfl,U,O⟩:=uV r;cases O;exact qg I U rd hi e fun tk=>⟨.bl b,H,I.tok _,rfl,q⟩
df oN (c:String) (f:De->Option Dt):De->Option T:=fun δ=>(f δ).bind fun d=>if oM d then none else some (.leaf (.bl (At c d)))
theorem i6 {q:Str} {cs:String} {p1:Pos} (h:aH sc "isinstance"=true) (W:aH sc q=true) (hm:X.mg "isinstance"=none) (Z:X.mg q=none) (hv:qd6 q=some (.type cs)) (hk:g5 X.K cs) (ha:DB X a fa) (e1:bH X sc:=by rfl)
 (he:qa6 [a,.Name q p2] X.env=(false,eval a X.env)::qa6 [.Name q p2] X.env:=by rfl) (U:qa6 [.Name q p2] X.env=(false,eval (.Name q p2) X.env)::qa6 [] X.env:=by rfl) (Y:(qi4 pos (qa6 [.Name q p2] X.env)).any (·.1)=false:=by rfl) :
  DO X (.Call (.Name "isinstance" p1) [a,.Name q p2] [] pos) (oN cs fa):=
 PE.mono (gm h qh hm lg (bJ ha (bJ (vm (v:=.ty cs) W Z hv rfl e1) cW U) he) e1 he Y) fun σ H Q ⟨Φ,δ,F,t,hK,en,O,k⟩=>by
  unfold oN at O;obtain ⟨d,hd,O⟩:=bS O;cases hi:oM d with
  | true=>rw [hi] at O;cases O
  | false =>rw [hi] at O;cases O;exact ⟨Φ,δ,F,d,hK,en,hd,fun v H' F' st r=>⟨v,cs,d,_,rfl,r.rep st.fh,hi,hk d hi,(k.step st).bl st.fh⟩⟩
df MRD (K:PySem.W.Frag) (r:V->List V->Hp->VK->Prop) (g:Dt->List Dt->Option T):Prop:=∀ F H d v ds vs (Q:VK) t,Same F H->RepB K F H d v->RepBs K F H ds vs->g d ds=some t->KO K F H t Q->r v vs H Q
df lO (g:Dt->List Dt->Option T) (fo:De->Option Dt) (fs:De->Option (List Dt)):De->Option T:=fun δ=>(fo δ).bind fun d=>(fs δ).bind fun ds=>g d ds
theorem vO {name:Str} {id:String} {r:V->List V->Hp->VK->Prop} {g:Dt->List Dt->Option T} (slot:Slot "str" name id) (hty:typeOf (.builtin id)=pure (.type "method_descriptor")) (hm:MtR X id r) (hr:MRD X.K r g) (hg:∀ d ds t,g d ds=some t->∃ z,d=.str z)
  (ho:DB X o fo) (ha:DAB X (e::es) fs)
  (U:qn0 o name X.env (eval o X.env)=eval o X.env:=by rfl)
  (Z:((qi4 cpos (qa6 (e::es) X.env)).all (fun x=>!x.1)&&(zf8 cpos (qu5 [] X.env)).all (fun x=>x.1.isSome)
   && decide ((e::es).length+([]:List qt2).length+(if ([]:List qt2).isEmpty then 0 else 1)<30))=true:=by rfl)
  (Y:(apos.endLine==cpos.line)=true:=by rfl) (hs:qa6 (e::es) X.env=#a::qa6 es X.env:=by rfl) (q:(qi4 cpos (qa6 es X.env)).any (·.1)=false:=by rfl) :
  DO X (.Call (.Attribute o name apos) (e::es) [] cpos) (lO g fo fs):=PE.mono (rm PySem.F.plainAttrs_str slot hty hm ho ha.pa U Z Y hs q) fun σ H Q ⟨Φ,δ,F,t,hK,en,W,k⟩=>by
 unfold lO at W;obtain ⟨d,hd,W⟩:=bS W;obtain ⟨ds,hds,W⟩:=bS W;refine ⟨Φ,δ,F,d,hK,en,hd,fun v H1 F1 st rv=>⟨?_,Φ,δ,F1,ds,hK,en.step st,hds,fun vs H2 F2 O rvs=>hr F2 H2 d v ds vs Q t O.fh (rv.step O.ff O.hh) rvs W (k.step (st.trans O))⟩⟩;obtain ⟨z,rfl⟩:=hg d ds t W;cases rv;rfl
df fQ:List Dt->Option (List Str)
 | []=>some []
 | .str b::r=>(fQ r).map (b::·)
 | _=>none
theorem i7 {F:Hp}:∀ {l:List Dt} {vs:List V} {bs:List Str},Reps K F l vs->fQ l=some bs->vs=bs.map V.str
 | [],vs,bs,r,h=>by cases h;simp only [Reps] at r;exact r
 | d::l,vs,bs,r,h=>by
  cases d<;>first | cases h;done | skip
  simp only [fQ] at h;obtain ⟨cs,O,h⟩:=mS h;cases h;simp only [Reps,Rep] at r;obtain ⟨v,U,rfl,rfl,q⟩:=r;rw [i7 q O];rfl
df g6:Dt->List Dt->Option T
 | .str a,[.lst l]=>(fQ l).bind fun ts=>if JoinOk a ts then some (.leaf (.str (Txt.join a ts))) else none
 | _,_=>none
theorem yD:MRD K (fun x vs H Q=>∃ (a:Str) (l:Addr) (ts:List Str),x=.str a/\vs=[.ref l]/\SqL K H l (ts.map V.str)/\JoinOk a ts=true/\Q (.str (Txt.join a ts)) H) g6:=by
 intro F H d v ds vs Q t O rd U q k;unfold g6 at q;split at q<;>first | cases q;done | skip
 obtain ⟨ts,Z,q⟩:=bS q;split at q
 . rename_i W;cases q;cases rd;obtain ⟨v,rfl,Y⟩:=du U;obtain ⟨a,vs,rfl,h1,h2⟩:=Y;have:=i7 h2 Z;subst this;exact ⟨_,a,ts,rfl,rfl,h1,W,k.str O⟩
 . cases q
theorem qi:∀ d ds t,g6 d ds=some t->∃ z,d=.str z:=fun d ds t h=>by
 unfold g6 at h;split at h
 . exact ⟨_,rfl⟩
 . cases h
theorem yE (Y:DB X o fo) (ha:DAB X (e::es) fs)
  (O:qn0 o "join" X.env (eval o X.env)=eval o X.env:=by rfl)
  (W:((qi4 cpos (qa6 (e::es) X.env)).all (fun x=>!x.1)&&(zf8 cpos (qu5 [] X.env)).all (fun x=>x.1.isSome)
   && decide ((e::es).length+([]:List qt2).length+(if ([]:List qt2).isEmpty then 0 else 1)<30))=true:=by rfl)
  (U:(apos.endLine==cpos.line)=true:=by rfl) (Z:qa6 (e::es) X.env=#a::qa6 es X.env:=by rfl) (q:(qi4 cpos (qa6 es X.env)).any (·.1)=false:=by rfl) :
  DO X (.Call (.Attribute o "join" apos) (e::es) [] cpos) (lO g6 fo fs):=vO PySem.F.slot_str_join PySem.F.type_str_join yi yD qi Y ha O W U Z q
df q20 (i:Nat) (f:De->Option Dt):De->Option Out:=fun δ=>match δ[i]? with
 | some (some (.lst l))=>(f δ).bind fun d=>if l.length<qb2 then some (.nx (δ.set i (some (.lst (l++[d]))))) else none
 | _=>none
theorem En.ownL {F:Hp} (en:En Φ δ σ F H) (h:δ[i]?=some (some (.lst l))):∃ a vs,σ[i]?=some (some (.ref a))/\H a=some (.lst vs)/\Reps Φ.K F l vs:=by obtain ⟨v,q⟩:=en.has i _ h;obtain ⟨S,s⟩:=en.sep;obtain ⟨a,vs,rfl,_,h1,h2⟩:=s.own i _ v (cU h q);exact ⟨a,vs,q,h1,h2⟩
theorem di (hx:PE X o (jx i)) (he:DL X e fe)
  (U:qn0 o "append" X.env (eval o X.env)=eval o X.env:=by rfl)
  (Y:((qi4 cpos (qa6 [e] X.env)).all (fun x=>!x.1)&&(zf8 cpos (qu5 [] X.env)).all (fun x=>x.1.isSome)
   && decide ([e].length+([]:List qt2).length+(if ([]:List qt2).isEmpty then 0 else 1)<30))=true:=by rfl)
  (W:(apos.endLine==cpos.line)=true:=by rfl) (hs:qa6 [e] X.env=#a::qa6 [] X.env:=by rfl) (q:(qi4 cpos (qa6 [] X.env)).any (·.1)=false:=by rfl)
  (hsw:qm7 (.Call (.Attribute o "append" apos) [e] [] cpos) none pos.line X.env=pure false:=by rfl) :
  DS1 X (.Expr (.Call (.Attribute o "append" apos) [e] [] cpos) pos) (q20 i fe):=
 PS.mono (mC (rm PySem.F.plainAttrs_list PySem.F.slot_list_append PySem.F.type_list_append gk hx (bJ he cW hs) U Y W hs q) hsw) fun D σ H ⟨Φ,δ,F,ot,hK,en,O,k⟩=>by
  unfold q20 at O;split at O<;>first | cases O;done | skip
  rename_i l hl;obtain ⟨d,hd,O⟩:=bS O;split at O<;>first | cases O;done | skip
  rename_i hz;cases O;obtain ⟨a,vs,hv,h1,h2⟩:=en.ownL hl;refine ⟨.ref a,hv,.inl ⟨rfl,vs,.inl (.inl h1)⟩,Φ,δ,F,d,hK,en,hd,fun v H1 F1 st rv=>?_⟩;have en1:=en.step st;have Z:=st.hh _ _ h1;refine ⟨a,vs,v,rfl,rfl,Z,by rw [h2.length];exact hz,?_⟩;refine k σ F1 _ (en1.poke hl hv (fun d z=>nomatch z) fun S sa=>⟨a,vs++[v],rfl,sa,ar,(h2.same st.ff).append (Reps.one (hK▸rv))⟩)
end
df c8 {κ:Type} [DecidableEq κ]:List κ->List Dt->κ->Option Dt
 | k'::ks,d::l,k=>if k'=k then some d else c8 ks l k
 | _,_,_=>none
theorem i8 {κ:Type} [DecidableEq κ] {F:Hp} {k:κ}:∀ {kvs:List (κ×V)} {l:List Dt} {d:Dt},Reps K F l (kvs.map (·.2))->c8 (kvs.map (·.1)) l k=some d->∃ v,eJ kvs k=some v/\Rep K F d v
 | [],l,d,r,h=>by cases l<;>cases h
 | p::kvs,[],d,r,h=>by cases h
 | p::kvs,e::l,d,r,h=>by
  simp only [qa7,Reps] at r;obtain ⟨v,W,O,U,q⟩:=r;cases O;simp only [qa7,c8] at h;by_cases hk:p.1=k
  . rw [if_pos hk] at h;cases h;exact ⟨p.2,fI hk,U⟩
  . rw [if_neg hk] at h;rw [dU hk];exact i8 q h
theorem lP {κ:Type} [DecidableEq κ] {F:Hp} {k:κ}:∀ {kvs:List (κ×V)} {l:List Dt},Reps K F l (kvs.map (·.2))->c8 (kvs.map (·.1)) l k=none->eJ kvs k=none
 | [],l,r,h=>rfl
 | p::kvs,[],r,h=>by simp only [qa7,Reps] at r;cases r
 | p::kvs,e::l,r,h=>by
  simp only [qa7,Reps] at r;obtain ⟨v,U,O,W,q⟩:=r;cases O;simp only [qa7,c8] at h;by_cases hk:p.1=k
  . rw [if_pos hk] at h;cases h
  . rw [if_neg hk] at h;rw [dU hk];exact lP q h
df j8:Dt->Option Key
 | .int i=>some (.inl i)
 | .str x=>some (.inr x)
 | _=>none
theorem m7 {F:Hp} {d:Dt} {k:Key} (r:RepB K F H d v) (h:j8 d=some k):v=kV k:=by
 unfold j8 at h;split at h<;>first | (cases h;done) | skip
 . cases h;exact r
 . cases h;exact r
df ag:Dt->Dt->Option T
 | .dct ks l,k=>(j8 k).bind fun k=>(c8 ks l k).map .leaf
 | x,y=>gIx x y
variable {g:Dt->Dt->Option T}
section
variable {X:Cx} {o a b e c:Expr} {es:List Expr} {fa fb fo fe fk:De->Option Dt} {fs:De->Option (List Dt)} {pos apos cpos p:Pos} {x:Str} {sc:Scope} {i:Nat}
theorem vP {k:Nat} (hr:Room k X.A) (ha:DB X a fa) (hb:DB X b fb) (hs:mF b:=by exact fun _ _=>rfl) (hn:u4 b:=by exact fun _ _=>rfl):DO X (.Subscript a b pos) (d2 ag fa fb):=
 PE.mono (PE.or (Aj uZ ha hb hs) (mK (jj hr) ha hb hn)) fun σ H Q ⟨Φ,δ,F,t,Y,en,q,k⟩=>by
  unfold d2 at q;obtain ⟨x,Z,q⟩:=bS q;obtain ⟨y,hy,q⟩:=bS q;unfold ag at q;split at q
  . rename_i ks l _;obtain ⟨kk,hk,q⟩:=bS q;obtain ⟨d,hd,q⟩:=mS q;cases q;refine .inr ⟨Φ,δ,F,_,Y,en,Z,fun v H1 F1 st rv=>⟨Φ,δ,F1,y,Y,en.step st,hy,fun v2 H2 F2 O W=>?_⟩⟩;obtain ⟨ad,kvs,rfl,h1,h2,h3⟩:=rv;subst h2;obtain ⟨w,hw,U⟩:=i8 h3 hd;have:=m7 W hk;subst this;exact ⟨ad,w,rfl,.inl ⟨kvs,kk,O.hh.rd h1,rfl,hw.symm⟩,(k.step (st.trans O)).leaf.here O.fh (U.same O.ff)⟩
  . exact .inl (lI r_ix ⟨Φ,δ,F,t,Y,en,by unfold d2;rw [Z,hy];exact q,k⟩)
df aY (neg:Bool):Dt->Dt->Option T
 | k,.dct ks l=>(j8 k).map fun k=>.leaf (.bl (if neg then !(c8 ks l k).isSome else (c8 ks l k).isSome))
 | x,y=>gIn neg x y
theorem rT {κ:Type} [DecidableEq κ] {F:Hp} {k:κ} {kvs:List (κ×V)} (r:Reps K F l (kvs.map (·.2))):(c8 (kvs.map (·.1)) l k).isSome=(eJ kvs k).isSome:=by
 cases h:c8 (kvs.map (·.1)) l k with
 | none=>rw [lP r h];rfl
 | some d =>obtain ⟨v,e,_⟩:=i8 r h;rw [e];rfl
theorem DY (h:tO K (d2 (aY false) fa fb) σ H Q):tOp (vK K false) (tBd K fa) (tBd K fb) σ H Q∨tDIn (tBd K fa) (tBd K fb) σ H Q:=by
 obtain ⟨Φ,δ,F,t,W,en,q,k⟩:=h;unfold d2 at q;obtain ⟨x,Y,q⟩:=bS q;obtain ⟨y,Z,q⟩:=bS q;unfold aY at q;split at q
 . rename_i ks l;obtain ⟨kk,hk,q⟩:=mS q;cases q;refine .inr ⟨Φ,δ,F,x,W,en,Y,fun v H1 F1 st rv=>⟨Φ,δ,F1,_,W,en.step st,Z,fun v2 H2 F2 O U=>?_⟩⟩;obtain ⟨ad,kvs,rfl,h1,h2,h3⟩:=U;subst h2;have:=m7 rv hk;subst this;refine ⟨ad,_,rfl,.inl ⟨kvs,kk,h1,rfl,rfl⟩,?_⟩;rw [<- rT h3];exact (k.step (st.trans O)).bl O.fh
 . exact .inl (lI (r_in false) ⟨Φ,δ,F,t,W,en,by unfold d2;rw [Y,Z];exact q,k⟩)
theorem vQ (h:tO K (d2 (aY true) fa fb) σ H Q):tOp (vK K true) (tBd K fa) (tBd K fb) σ H Q∨rq (tBd K fa) (tBd K fb) σ H Q:=by
 obtain ⟨Φ,δ,F,t,W,en,q,k⟩:=h;unfold d2 at q;obtain ⟨x,Y,q⟩:=bS q;obtain ⟨y,Z,q⟩:=bS q;unfold aY at q;split at q
 . rename_i ks l;obtain ⟨kk,hk,q⟩:=mS q;cases q;refine .inr ⟨Φ,δ,F,x,W,en,Y,fun v H1 F1 st rv=>⟨Φ,δ,F1,_,W,en.step st,Z,fun v2 H2 F2 O U=>?_⟩⟩;obtain ⟨ad,kvs,rfl,h1,h2,h3⟩:=U;subst h2;have:=m7 rv hk;subst this;refine ⟨ad,_,rfl,.inl ⟨kvs,kk,h1,rfl,rfl⟩,?_⟩;rw [<- rT h3];exact (k.step (st.trans O)).bl O.fh
 . exact .inl (lI (r_in true) ⟨Φ,δ,F,t,W,en,by unfold d2;rw [Y,Z];exact q,k⟩)
theorem PT.or {t:TT} (h:PT X e t) (h':PT X e t'):PT X e (fun σ H Q=>t σ H Q∨t' σ H Q):=fun pins s σ H Q I q=>q.elim (h pins s σ H Q I) (h' pins s σ H Q I)
theorem Au {Q:Bool->Hp->Prop} (h:tTr K (tB2 g fa fb) σ H Q):tO K (d2 g fa fb) σ H (fun v H'=>∃ c,v=.bl c/\Q c H'):=by obtain ⟨Φ,δ,F,t,O,en,q,k⟩:=h;unfold tB2 at q;obtain ⟨z,U,q⟩:=bS q;exact ⟨Φ,δ,F,z,O,en,U,fun v H' F' S st o W=>⟨t,rL q o,k H' F' st⟩⟩
theorem DZ {k:Nat} (W:Room k X.A) (U:DB X a fa) (O:DB X b fb) (q:qj9 .In b=false:=by with_unfolding_all rfl):DT X (.Compare a [.In] [b] pos) (tB2 (aY false) fa fb):=PT.mono (PT.or (jJ BM U O q) (pP (Bz (jj W) U O) q)) fun σ H Q h=>DY (Au h)
theorem vR {k:Nat} (W:Room k X.A) (U:DB X a fa) (O:DB X b fb) (q:qj9 .NotIn b=false:=by with_unfolding_all rfl):DT X (.Compare a [.NotIn] [b] pos) (tB2 (aY true) fa fb):=PT.mono (PT.or (jJ t7 U O q) (pP (lx (jj W) U O) q)) fun σ H Q h=>vQ (Au h)
df rV:De->Option T:=fun _=>some (.dct [])
theorem rW:DO X (.Dict [] [] pos) rV:=PE.mono u7 fun σ H Q ⟨Φ,δ,F,t,O,en,q,k⟩=>by
 cases q;intro p hp;refine k _ _ F (fun b=>b=p) (Step.made en.fh hp) ⟨p,[],rfl,rfl,ar,rfl,by simp [Reps]⟩ fun b z=>?_
 subst z;exact ⟨en.fh.free hp,hp,_,ar⟩
theorem PS.or {e:Stmt} {t t':TS} (h:PS X e t) (h':PS X e t'):PS X e (fun σ H Q=>t σ H Q∨t' σ H Q):=fun pins s σ H Q I q=>q.elim (h pins s σ H Q I) (h' pins s σ H Q I)
end
section
variable {prog:qc9} {w:World} {A:qe0} {E:Value->qa4->Prop} {s:qa4} {I t:Addr} {j:Nat} {vs:Array Value}
theorem qj {y:Value} {Q:Value->qa4->Prop} (Z:s.heap.IsTupleIter I t j) (hv:s.heap.IsTuple t vs) (hy:vs[j]?=some y)
  (q:∀ h',h'.IsTupleIter I t (j+1)->qp0 I s.heap h'->Q y {s with heap:=h'}):wpAny (model prog w) A (qn9 (.ref I)) Q E s:=by
 obtain ⟨oi,U,W,O⟩:=id Z;obtain ⟨ot,hot,_,nt,Y⟩:=hv;unfold qn9;refine wB (qe8 (name:=qa1 "__next__") Z.typeIs qm4 (qf3 qm4 Z.typeIs qy0 ?_ (qw6 _)));show wpAny _ _ (field (.ref I) 0 >>= _) _ _ s;refine wB (qu3 U O (x:=.ref t) rfl ?_);show wpAny _ _ (if (qf7 t==qi0)=true then _ else _) _ _ s;rw [if_neg (show ¬ (qf7 t==qi0)=true by exact qb8)];show wpAny _ _ (field (.ref I) 1 >>= _) _ _ s;refine wB (qu3 U O (x:=.int j 0) rfl ?_);show wpAny _ _ (seqItems? (.ref t) >>= _) _ _ s;refine wB (qv1 hot Y ?_);simp only [qe4,hy];refine qh6 (qk1 U O \5 (qa3 ⟨y,rfl,qa3 (q _ ?_ (qf2 ..))⟩));exact ⟨_,qe9 _ U (qi5 (qe5 O _)),(qq9 ..).trans W,by rw [qe5 O];simp [qf8]⟩
theorem t8 {Q:Value->qa4->Prop} (hh:A.handled=none) (Y:s.heap.IsTupleIter I t j) (hv:s.heap.IsTuple t vs) (hy:vs[j]?=none)
  (q:∀ h' e,zh0 I s.heap h'->(∃ o,h'.get? e=some o/\o.cls=.type "StopIteration")->E (.ref e) {s with heap:=h'}):wpAny (model prog w) A (qn9 (.ref I)) Q E s:=by
 obtain ⟨oi,O,hci,U⟩:=id Y;obtain ⟨ot,Z,_,nt,W⟩:=hv;unfold qn9;refine wB (qe8 (name:=qa1 "__next__") Y.typeIs qm4 (qf3 qm4 Y.typeIs qy0 ?_ (qw6 _)));show wpAny _ _ (field (.ref I) 0 >>= _) _ _ s;refine wB (qu3 O U (x:=.ref t) rfl ?_);show wpAny _ _ (if (qf7 t==qi0)=true then _ else _) _ _ s;rw [if_neg (show ¬ (qf7 t==qi0)=true by exact qb8)];show wpAny _ _ (field (.ref I) 1 >>= _) _ _ s;refine wB (qu3 O U (x:=.int j 0) rfl ?_);show wpAny _ _ (seqItems? (.ref t) >>= _) _ _ s;refine wB (qv1 Z W ?_);simp only [qe4,hy];refine qh6 (qx2 (qh6 (qk1 O U \5 ?_)));show wpAny _ _ (zh9 (.type "StopIteration") [] >>= _) _ _ _;refine wB ?_;simp only [zh9,zj5];refine wB (qd7 ?_ (by first | size_fits | decide));refine qh6 (m:=qo0 _ _) (zb8 (a:=qi0) (by first | rfl | (simp only [qo0]<;>rfl)) ?_);refine qd7 ?_ (by first | size_fits | decide);simp only [zi0];refine wB (zb9 ?_)
 first | rw [hh] | rw [show A.in1.handled=none by exact hh]
 refine wB (qa3 (zh1 ?_));exact q _ _ (((qf2 ..).extBut.push _).push _) ⟨_,qb1 _ rfl,rfl⟩
end
variable {prog:qc9} {w:World}
theorem oO (O:A.handled=none) (I t:Addr) (q:t≠I) (vs:Array Value):Draws prog w A I [I,t] vs.size (fun i v=>vs[i]?=some v) (fun i h=>h.IsTupleIter I t i/\h.IsTuple t vs) where
 live:=fun _ _ st=>let ⟨o,ho,_⟩:=st.1;⟨o,ho⟩
 frame:=fun _ _ _ st hk=>⟨let ⟨o,ho,r⟩:=st.1;⟨o,hk I \5 o ho,r⟩,let ⟨o,ho,r⟩:=st.2;⟨o,hk t \5 o ho,r⟩⟩
 item:=fun i s Q E hi st U=>qj st.1 st.2 (y:=vs[i]) (by simp [hi]) fun h' a b=>U _ h' s.toks (by simp [hi]) ⟨a,let ⟨o,ho,r⟩:=st.2;⟨o,b.extBut _ _ q ho,r⟩⟩ b
 done:=fun s Q E st W=>t8 O st.1 st.2 \5 W
df SqB (b:Bool) (K:PySem.W.Frag) (H:Hp) (a:Addr) (xs:List V):Prop:=match b with
 | true=>SqL K H a xs
 | false=>SqT K H a xs
df ItB (b:Bool) (h:Heap) (I a:Addr) (i:Nat):Prop:=match b with
 | true=>h.IsListIter I a i
 | false=>h.IsTupleIter I a i
df CoB (b:Bool) (h:Heap) (a:Addr) (vs:Array Value):Prop:=match b with
 | true=>h.IsList a vs
 | false=>h.IsTuple a vs
variable {h:Heap} {I:Addr}
theorem ItB.obj (x:ItB b h I a i):∃ o,h.get? I=some o/\(o.cls=.type "list_iterator"∨o.cls=.type "tuple_iterator")/\∀ v,o.data≠.cell v:=by
 cases b with
 | true=>obtain ⟨o,e,c,d⟩:=x;exact ⟨o,e,.inl c,fun v z=>by rw [d] at z;cases z⟩
 | false=>obtain ⟨o,e,c,d⟩:=x;exact ⟨o,e,.inr c,fun v z=>by rw [d] at z;cases z⟩
variable {h':Heap}
theorem ItB.at (x:ItB b h I a i) (k:∀ o,h.get? I=some o->h'.get? I=some o):ItB b h' I a i:=by
 cases b with
 | true=>obtain ⟨o,e,r⟩:=x;exact ⟨o,k o e,r⟩
 | false=>obtain ⟨o,e,r⟩:=x;exact ⟨o,k o e,r⟩
theorem CoB.obj {vs:Array Value} (x:CoB b h a vs):∃ o,h.get? a=some o/\(o.cls=.type "list"∨o.cls=.type "tuple"):=by
 cases b with
 | true=>obtain ⟨o,e,c,_⟩:=x;exact ⟨o,e,.inl c⟩
 | false=>obtain ⟨o,e,c,_⟩:=x;exact ⟨o,e,.inr c⟩
theorem Av {x y:String} (h:x≠y):qk9 x≠qk9 y:=fun z=>h (by cases z;rfl)
theorem vS {c:Bool} {l:Addr} {vs:Array Value} (x:ItB b h I a i) (y:CoB c h l vs):l≠I:=by obtain ⟨o,U,O,_⟩:=x.obj;obtain ⟨o',e2,q⟩:=y.obj;rintro rfl;rw [U] at e2;cases e2;rcases O with O | O<;>rcases q with q | q<;>rw [O] at q<;>exact absurd q (Av \7)
variable {fp:List Addr}
section
variable {X:Cx} {pins:List (Addr×Obj)} {σ:St} {H:Hp} {s:qa4} {a I:Addr} {xs:List V} {b:Bool}
theorem Inv.seqB (J:Inv X pins σ H s) (h:SqB b X.K H a xs):∃ its:List Value,Vals xs its/\CoB b s.heap a its.toArray:=by
 cases b with
 | true=>obtain ⟨its,r,p,_⟩:=J.list h;exact ⟨its,r,p.isList⟩
 | false=>obtain ⟨its,r,p,_⟩:=J.tuple h;exact ⟨its,r,p⟩
theorem Inv.seqB_inj {ys:List V} (J:Inv X pins σ H s) (h:SqB b X.K H a xs) (h':SqB b X.K H a ys):xs=ys:=by
 cases b with
 | true=>exact J.list_inj h h'
 | false=>exact J.tuple_inj h h'
theorem vT (O:A.handled=none) (q:a≠I) (vs:Array Value):Draws prog w A I [I,a] vs.size (fun i v=>vs[i]?=some v) (fun i h=>ItB b h I a i/\CoB b h a vs):=by
 cases b with
 | true=>exact Draws.list O I a q vs
 | false=>exact oO O I a q vs
theorem Inv.turnedL {t':Nat} (J:Inv X pins σ H s) (k:∀ b o,b∉fp->s.heap.get? b=some o->h'.get? b=some o) (U:∀ b∈fp,gB X pins H b):Inv X pins σ H {s with heap:=h',toks:=t'}:=by
 have W:∀ b u,H b=some u->b∉fp:=fun b u e z=>by rw [(U b z).1] at e;cases e
 refine J.step (g':=s.gens) (d':=s.drawn) (ch:=fp) (fun b Y=>?_) (fun b o _ _ O e _=>k b o O e) (fun b o _ _ O e _=>⟨o.slots,k b o O e⟩) (fun _ _ _ _ n=>n)
  (fun b o O e=>⟨o,k b o O e⟩) (fun _ _ e=>e) (fun _ _ _ e=>e) (fun b ps e=>⟨#[],by rw [e];simp⟩) (fun _ _ e=>e) (fun m Z=>?_) (fun b u e=>?_) J.bare
 . exact ⟨(U b Y).2.2.2.1,(U b Y).2.1,(U b Y).2.2.2.2.1,(U b Y).2.2.2.2.2⟩
 . obtain ⟨o,es,ep,ho,r⟩:=Z;exact ⟨o,es,ep,k _ o (fun z=>(U _ z).2.1 rfl) ho,r⟩
 . refine (J.hok b u e).stay (fun c v O q=>k c v ?_ q) (fun _ q=>q) (fun _ _ q=>q) fun _ _ _ q=>q
   rcases O with z | z
   . rw [z];exact W b u e
   . exact W c _ z
end
variable {u:HO}
section
variable {X:Cx} {pins:List (Addr×Obj)} {σ:St} {H:Hp} {s:qa4}
theorem Inv.turnedT {t':Nat} {t:Addr} (J:Inv X pins σ H s) (k:∀ b o,b∉fp->s.heap.get? b=some o->h'.get? b=some o) (Y:∀ b∈fp,gB X pins H b) (ht:s.heap.objs.size<=t) (new:ObjOk X.prog X.w (upd H t u) h' t u) :
  Inv X pins σ (upd H t u) {s with heap:=h',toks:=t'}:=by
 have Z:∀ b u,H b=some u->b∉fp:=fun b u e z=>by rw [(Y b z).1] at e;cases e
 have hn:H t=none:=J.hok.fresh ht;have O:∀ b v,H b=some v->b≠t:=fun b v e=>bn e hn
 have nlt:∀ b o,s.heap.get? b=some o->b≠t:=fun b o e z=>by subst z;exact absurd (qa9 e) (qj1.mpr ht)
 refine J.step (g':=s.gens) (d':=s.drawn) (ch:=fp) (fun b W=>?_) (fun b o _ _ U e _=>k b o U e) (fun b o _ _ U e _=>⟨o.slots,k b o U e⟩) (fun b o _ e n=>by rw [ap (nlt b o e)];exact n)
  (fun b o U e=>⟨o,k b o U e⟩) (fun b xs e=>by rw [ap (O b _ e)];exact e) (fun b o v e=>by rw [ap (O b _ e)];exact e) (fun b ps e=>⟨#[],by rw [ap (O b _ e),e];simp⟩) (fun b xs e=>by rw [ap (O b _ e)];exact e) (fun m hm=>?_) (fun b v e=>?_) J.bare
 . exact ⟨(Y b W).2.2.2.1,(Y b W).2.1,(Y b W).2.2.2.2.1,(Y b W).2.2.2.2.2⟩
 . obtain ⟨o,es,ep,ho,r⟩:=hm;exact ⟨o,es,ep,k _ o (fun z=>(Y _ z).2.1 rfl) ho,r⟩
 . by_cases W:b=t
   . subst W;rw [ar] at e;cases e;exact new
   . rw [ap W] at e;refine (J.hok b v e).stay (fun c ob U q=>k c ob ?_ q) (fun c q=>by rw [ap (O c _ q)];exact q) (fun c ys q=>by rw [ap (O c _ q)];exact q) fun c ob ys q=>by rw [ap (O c _ q)];exact q
     rcases U with z | z
     . rw [z];exact Z b v e
     . exact Z c _ z
end
df Ite (b:Bool) (K:PySem.W.Frag) (a:Addr):It:=⟨fun i H=>∃ xs x,SqB b K H a xs/\xs[i]?=some x,fun i H x H'=>∃ t v,H t=none/\x=.ref t/\H'=upd H t (.tup [.int i,v])/\∀ xs,SqB b K H a xs->xs[i]?=some v,fun i H=>∃ xs,SqB b K H a xs/\xs.length=i⟩
variable {P:qc9} {pos:Pos}
theorem t9 {elts:List Expr} (b:Bool) (a e I:Addr) (Z:e≠I) :
  Turn P w K (.Tuple elts n pos) (Ite b K a) [e,I] e (fun i h=>(∃ Y,IsEnum h e I i Y)/\ItB b h I a i) where
 mem:=by simp
 obj:=fun i h st c hc=>by
  obtain ⟨⟨Y,U⟩,W⟩:=st;simp only [qb6,qj3,or_false] at hc;rcases hc with rfl | rfl
  . exact ⟨_,U,fun v z=>nomatch z⟩
  . obtain ⟨o,q,_,d⟩:=W.obj;exact ⟨o,q,d⟩
 keep:=fun i h h' st k=>by obtain ⟨⟨Y,U⟩,W⟩:=st;exact ⟨⟨Y,k e \5 _ U⟩,W.at fun o q=>k I \5 o q⟩
 item:=by
  intro X hP hw hK hc i pins s σ H E J hf st hg;subst hP hw hK;obtain ⟨⟨Y,U⟩,W⟩:=st;obtain ⟨xs,x,hq,hx⟩:=hg;obtain ⟨its,rv,co⟩:=J.seqB hq;obtain ⟨u,hu,ru⟩:=rv.get hx;have hi:i<its.toArray.size:=by simpa using (gX hu).1
  have hae:e∉[I,a]:=by simp only [qb6,qj3,or_false,not_or];refine ⟨Z,fun z=>?_⟩;obtain ⟨o,q,c⟩:=co.obj;rw [<- z,U] at q;cases q;rcases c with c | c<;>exact absurd c (Av \7)
  refine wpAny_pyNext_enum_itemD (vT (A:=X.A.in1) (b:=b) (I:=I) (a:=a) (show X.A.in1.handled=none from J.ok.hd hc) (vS W co) its.toArray) U ⟨W,co⟩ hi Z hae fun y h1 tk hy ho hs1 hT hsz hk=>⟨_,rfl,?_⟩
  have ey:y=u:=by rw [show its.toArray[i]?=its[i]? by simp,hu] at hy;exact (qd9 hy).symm
  subst ey;refine wpAny_letOwnedTupleGo_enum ho fun h2 he2 sb2=>?_
  have kk:∀ c o,c∉[e,I]->s.heap.get? c=some o->h2.get? c=some o:=fun c o O q=>by simp only [qb6,qj3,or_false,not_or] at O;exact (sb2.2 c O.1).trans (hk c o O.1 O.2 q)
  have lt:∀ c∈[e,I],c<s.heap.objs.size:=fun c O=>by
   simp only [qb6,qj3,or_false] at O;rcases O with rfl | rfl
   . exact qa9 U
   . obtain ⟨o,q,_⟩:=W.obj;exact qa9 q
  -- first the records,then the pair
  have hT2:h2.get? s.heap.objs.size=some {cls:=.type "tuple",data:=.seq #[.int i tk,y]}:=(sb2.2 _ (fun z=>qp1 _ (z▸lt e \5))).trans hT
  have J2:Inv X pins σ (upd H s.heap.objs.size (.tup [.int i,x])) {s with heap:=h2,toks:=tk+1}:=by refine J.turnedT kk hf (nL _) ⟨by show 2<=qb2;decide,[.int i tk,y],.cons ⟨_,rfl⟩ (.cons ru .nil),?_⟩;exact ⟨_,hT2,rfl,_,rfl⟩
  refine ⟨.ref s.heap.objs.size,_,J2,rfl,⟨_,x,J.hok.fresh (qu2 _),rfl,rfl,fun ys hy=>by rw [J.seqB_inj hy hq];exact hx⟩,⟨⟨_,by simpa using he2⟩,hs1.1.at fun o q=>(sb2.2 I (qq1 Z)).trans q⟩,fun c O=>?_⟩;rw [ap (qc0 (lt c O))];exact (hf c O).1
 done:=by
  intro X hP hw hK hc i pins s σ H E J hf st hg;subst hP hw hK;obtain ⟨⟨Y,U⟩,W⟩:=st;obtain ⟨xs,hq,hx⟩:=hg;obtain ⟨its,rv,co⟩:=J.seqB hq;have hi:i=its.toArray.size:=by rw [<- hx];simpa using rv.length
  refine wpAny_pyNext_enum_endD (vT (A:=X.A.in1) (b:=b) (I:=I) (a:=a) (show X.A.in1.handled=none from J.ok.hd hc) (vS W co) its.toArray) U (show ItB b s.heap I a its.toArray.size/\CoB b s.heap a its.toArray from ⟨hi▸W,co⟩) fun h' eb=>⟨rfl,?_⟩
  exact J.turnedL (t':=s.toks) (fun c o O q=>eb c o (fun z=>O (by simp [z])) q) hf
 self:=fun A i s Q E st h=>by obtain ⟨⟨Y,U⟩,W⟩:=st;exact wpAny_pyIter_enum U h
theorem oP (t:Addr) (vs:Array Value) (n:Nat) (Y:Option Addr) (sl:Array (Option Value)) :
  Meets (qi7.«enumerate.__new__» ⟨[.type "enumerate",.ref t],[]⟩) (fun _ R s=>s.heap.get? t=some {cls:=.type "tuple",dict:=Y,data:=.seq vs n,slots:=sl}∧
   R (.ok (.ret (.ref (s.heap.push {cls:=.type "tuple_iterator",data:=.fields #[.ref t,.int 0 0]}).objs.size)))
    {s with heap:=(s.heap.push {cls:=.type "tuple_iterator",data:=.fields #[.ref t,.int 0 0]}).push {cls:=.type "enumerate",data:=.fields #[.none,.bool false,.ref s.heap.objs.size,qf8 0,.none,.none]}}):=
 .of_wp fun prog w A R s h=>by
  obtain ⟨hp,g,d,tk,W⟩:=s;obtain ⟨q,h⟩:=h;have O:=sub_enumerate;have U:Heap.IsTuple (qa4.heap ⟨hp,g,d,tk,W⟩) t vs:=⟨_,q,rfl,n,rfl⟩;wp_walk using qt0 q;refine wpAny_stack_any fun st=>qa3 ?_
  split
  . rename_i c _ _ _ _ _;cases (c==qk9 "enumerate")<;>(wp_walk using qt0 q,qz1 U)<;>exact ⟨_,rfl,h⟩
  . (wp_walk using qt0 q,qz1 U)<;>exact ⟨_,rfl,h⟩
section
variable {prog:qc9} {w:World} {A:qe0} {E:Value->qa4->Prop} {s:qa4}
theorem qk {t:Addr} {vs:Array Value} {Q:Value->qa4->Prop} (hT:s.heap.IsTuple t vs)
  (h:∀ h',IsEnum h' (s.heap.objs.size+1) s.heap.objs.size 0 .none->h'.IsTupleIter s.heap.objs.size t 0->h'.objs.size=s.heap.objs.size+2→
   (∀ c u,s.heap.get? c=some u->h'.get? c=some u)->Q (.ref (s.heap.objs.size+1)) {s with heap:=h'}) :
  wpAny (model prog w) A (call (.type "enumerate") [.ref t]) Q E s:=by
 obtain ⟨⟨c,dct,Z,sl⟩,hl,U,n,O⟩:=hT;have U:c=.type "tuple":=U;have O:Z=.seq vs n:=O;subst U O;refine callType_new F.called_enumerate \7 (F.typeCall_enumerate_1 _) (F.newCall_enumerate_1 _) (fun obj=>F.args_object_init_2 obj _) F.entry_enumerate_new (oP t vs n dct sl) ⟨hl,?_⟩;have W:(s.heap.push {cls:=.type "tuple_iterator",data:=.fields #[.ref t,.int 0 0]}).objs.size=s.heap.objs.size+1:=qg0 ..;have Y:((s.heap.push {cls:=.type "tuple_iterator",data:=.fields #[.ref t,.int 0 0]}).push {cls:=.type "enumerate",data:=.fields #[.none,.bool false,.ref s.heap.objs.size,qf8 0,.none,.none]}).objs.size=s.heap.objs.size+2:=by rw [qg0,W]
 rw [W];have q:=qb1 (s.heap.push {cls:=.type "tuple_iterator",data:=.fields #[.ref t,.int 0 0]}) (o:={cls:=.type "enumerate",data:=.fields #[.none,.bool false,.ref s.heap.objs.size,qf8 0,.none,.none]}) rfl;rw [W] at q;exact ⟨⟨_,q,rfl⟩,h _ q ⟨_,gP _ (qb1 _ rfl),rfl,rfl⟩ Y fun c u z=>gP _ (gP _ z)⟩
theorem ql {t:Addr} {vs:Array Value} {Q:Value->qa4->Prop} (q:CoB b s.heap t vs)
 (h:∀ h',IsEnum h' (s.heap.objs.size+1) s.heap.objs.size 0 .none->ItB b h' s.heap.objs.size t 0->h'.objs.size=s.heap.objs.size+2→
 (∀ c u,s.heap.get? c=some u->h'.get? c=some u)->Q (.ref (s.heap.objs.size+1)) {s with heap:=h'}) :
  wpAny (model prog w) A (call (.type "enumerate") [.ref t]) Q E s:=by
 cases b with
 | true=>exact call_enumerate_list q h
 | false=>exact qk q h
end
section
variable {X:Cx} {x:Expr} {p pos tpos:Pos} {sc:Scope} {fs:De->Option (List Dt)} {elts:List Expr} {n:Nat}
df Ea (K:PySem.W.Frag) (ta:TA):TI:=fun σ H R=>ta σ H fun vs H1=>∃ b a xs,vs=[.ref a]/\SqB b K H1 a xs/\R (Ite b K a) H1
theorem yF {ta:TA} (h:aH sc "enumerate"=true) (hm:X.mg "enumerate"=none) (ha:PA X [x] ta) (e1:bH X sc:=by rfl) (hs:qa6 [x] X.env=[(false,eval x X.env)]:=by rfl) :
  PI X (.Tuple elts n tpos) (.Call (.Name "enumerate" p) [x] [] pos) (Ea X.K ta):=by
 intro pins s σ H R I h';refine Call_ (fE I (glD h e1) hm mN (qh1 (thn (ha pos pins s σ H _ I h') fun us s1 ⟨vs,H1,U,r1,q1⟩=>?_) hs rfl));obtain ⟨b,a,xs,rfl,hq,q⟩:=q1;obtain ⟨u,rfl,ru⟩:=gF r1;cases ru;obtain ⟨its,rv,Z⟩:=U.seqB hq;refine ql Z fun h2 Y hi hz hk=>wpAny_pyIter_enum Y ?_
 have I2:Inv X pins σ H1 {s1 with heap:=h2}:=U.kept (t':=s1.toks) hk;refine ⟨s1.heap.objs.size+1,[s1.heap.objs.size+1,s1.heap.objs.size],_,_,H1,rfl,I2,t9 b a _ _ (qm8 (qm6 _)),⟨⟨_,Y⟩,hi⟩,fun c W=>?_,q⟩
 have O:s1.heap.objs.size<=c:=by
  simp only [qb6,qj3,or_false] at W;rcases W with rfl | rfl
  . exact qp3 _
  . exact nL _
 exact U.fpOk O (U.hok.fresh O)
df dF (i:Nat):List Dt->List Dt
 | []=>[]
 | d::r=>.tup [.int i,d]::dF (i+1) r
theorem lQ:∀ (l:List Dt) (i:Nat),(dF i l).length=l.length
 | [],_=>rfl
 | _::r,i=>by simp [dF,lQ r]
theorem lR:∀ (l:List Dt) (i k:Nat),(dF i l)[k]?=l[k]?.map fun d=>.tup [.int ((i+k:Nat):Int),d]
 | [],i,k=>by simp [dF]
 | d::r,i,0=>by simp [dF]
 | d::r,i,k+1=>by simp [dF,lR r,Nat.add_assoc,Nat.add_comm 1]
df rX:List Dt->Option (List Dt)
 | [.lst l]=>some (dF 0 l)
 | [.tup l]=>some (dF 0 l)
 | _=>none
theorem vU {F:Hp} {d e:Dt} {w:V} {t:Addr} (h:F t=some (.tup [v,w])) (r:Rep K F d v) (q:Rep K F e w):Rep K F (.tup [d,e]) (.ref t):=by simp only [Rep,Reps];exact ⟨t,_,rfl,SqT.of h,v,[w],rfl,r,w,[],rfl,q,rfl⟩
theorem lS {F:Hp} (r:Reps K F l xs):rO K F (Ite b K a) (dF 0 l) (fun H=>SqB b K H a xs):=fun i H F2 q O ff=>by have hl:=r.length;rw [lQ];refine ⟨fun h=>⟨xs,xs[i],q,by simp [show i<xs.length by oo]⟩,fun h=>⟨xs,q,by oo⟩,fun x H' hi hy=>?_⟩;obtain ⟨t,v,U,rfl,rfl,Z⟩:=hy;have Y:=Z xs q;obtain ⟨d,W,rd⟩:=r.same_get Y;refine ⟨_,upd F2 t (.tup [.int i,v]),?_,Step.new O U,vU ar gn ((rd.same ff).same (Same.upd (O.free U)))⟩;rw [lR,W];simp
theorem m8 (h:aH sc "enumerate"=true) (W:X.mg "enumerate"=none) (ha:DA X [x] fs) (O:bH X sc:=by rfl) (Z:qa6 [x] X.env=[(false,eval x X.env)]:=by rfl) :
  DIF X (.Tuple elts n tpos) (.Call (.Name "enumerate" p) [x] [] pos) (fN rX fs):=PI.mono (yF h W ha.pa O Z) fun σ H R ⟨Φ,δ,F,ds,hK,en,q,k⟩=>by
 unfold fN at q;obtain ⟨as,Y,q⟩:=bS q;refine ⟨Φ,δ,F,as,hK,en,Y,fun vs H' F' st r=>?_⟩;unfold rX at q;split at q<;>first | (cases q;done) | skip
 . cases q;simp only [Reps,Rep] at r;obtain ⟨v,U,rfl,⟨a,xs,rfl,h1,h2⟩,rfl⟩:=r;exact ⟨true,a,xs,rfl,st.fh.seq h1,k _ _ H' F' st (lS (b:=true) h2) fun H2 s=>s.seq h1⟩
 . cases q;simp only [Reps,Rep] at r;obtain ⟨v,U,rfl,⟨a,xs,rfl,h1,h2⟩,rfl⟩:=r;exact ⟨false,a,xs,rfl,st.fh.tup h1,k _ _ H' F' st (lS (b:=false) h2) fun H2 s=>s.tup h1⟩
end
section
variable {prog:qc9} {w:World} {A:qe0} {E:Value->qa4->Prop} {s:qa4} {z ti tO i1 i2:Addr} {fp1 fp2:List Addr} {n1 n2 k:Nat} {P1 P2:Nat->Value->Prop} {S1 S2:Nat->Heap->Prop} {va vb:Value}
end
section
variable {prog:qc9} {w:World} {A:qe0} {E:Value->qa4->Prop} {s:qa4}
end
section
variable {X:Cx} {pins:List (Addr×Obj)} {σ:St} {H:Hp} {s:qa4} {a:Addr} {xs ys:List V} {b c:Bool}
end
section
variable {X:Cx} {x y:Expr} {p pos tpos:Pos} {sc:Scope} {fs:De->Option (List Dt)} {elts:List Expr} {n:Nat}
end
section
variable {X:Cx} {o a b e c:Expr} {es:List Expr} {fa fb fo fe:De->Option Dt} {fs:De->Option (List Dt)} {pos apos cpos p:Pos} {i:Nat}
end
theorem RepBs.reps {F:Hp} (q:Same F H):∀ {l:List Dt} {vs:List V},RepBs K F H l vs->Reps K H l vs
 | [],vs,h=>by simp only [Reps];exact h
 | d::l,vs,h=>by obtain ⟨v,O,e,h1,h2⟩:=h;simp only [Reps];exact ⟨v,O,e,h1.rep q,h2.reps q⟩
theorem oQ {F:Hp} {d:Dt} (r:Rep K F d v) (h:bQ d=true):Rep K F' d v:=by cases d<;>first | (cases h;done) | (simp only [Rep] at r ⊢;exact r)
section
variable {X:Cx} {e:Expr} {es:List Expr} {fs:De->Option (List Dt)} {pos p:Pos} {x:Str} {sc:Scope}
end
section
variable {X:Cx} {b:Expr} {fb:De->Option Dt} {pos p:Pos} {x:Str} {sc:Scope} {ks:List Key} {l:List Dt}
end
variable {y:Str} {py spos:Pos}
section
variable {X:Cx} {elt tg iter:Expr} {ifs:List Expr} {scope:Scope} {pos:Pos} {M:List Str} {src:List (Option Nat)} {wi:TI} {g:TG} {tt:TT} {te:TE}
theorem ua {cpos:Pos} {use:Option (Value->Sem Unit)} {QQ:Value->qa4->Prop} (S:CmpScope X.N X.env.scope scope M src) (hc:X.calm=true) (hi:PI X tg iter wi) (hg:M.Nodup->∀ C s H ex,PG #h tg g) (ht:∀ C s H ex,PTs #h ifs tt)
 (he:∀ C s H ex,PE #h elt te) (hs:∀ x,qg7 iter X.env x=pure x) (I:Inv X pins σ H s) (h:lC src wi g tt te σ H Q)
 (hfin:∀ (D C:Addr) (H':Hp) (s':qa4) (m:Str->Option Value),Inv X pins σ H' s'->gB X pins H' C->s'.heap.Ns C m->Q (.ref D) H'->zg0 \4 X.A X.xe use QQ (.ref D) C (.ok .next) s') :
  wpAny \4 X.A (comprehension \9 scope X.env cpos (newList []) false (eval iter X.env) use) QQ X.xe s:=by
 have hcells:∀ x∈scope.names,x.2=.free->∃ c,X.env.cells.lookup x.1=some c:=fun x hx hfr=>I.ok.has x.1 (S.free x hx hfr)
 refine za4 (use:=use) rfl hs (gU hcells) S.kind S.names (thn (hi pins s σ H _ I h) fun v s1 h1=>thn h1 fun itv s2 h2=>?_);obtain ⟨it,fp,tn,J,H2,rfl,I2,T,st2,f2,hq⟩:=h2;refine qd7 ?_;have I3:Inv X pins σ (upd H2 s2.heap.objs.size (.lst [])) {s2 with heap:=s2.heap.push {cls:=.type "list",dict:=none,data:=.seq ([]:List Value).toArray},toks:=s2.toks}:=I2.lnew (its:=[]) (ys:=[]) (t':=s2.toks) .nil \5;have hD:H2 s2.heap.objs.size=none:=I2.fresh;obtain ⟨W,⟨m0,w0⟩,turn⟩:=hq _ hD;generalize hDn:s2.heap.objs.size=D at*
 generalize hs3:({s2 with heap:=s2.heap.push {cls:=.type "list",dict:=none,data:=.seq ([]:List Value).toArray},toks:=s2.toks}:qa4)=Z at*
 have f3:∀ b∈fp,gB X pins (upd H2 D (.lst [])) b:=fun b U=>⟨by obtain ⟨o,e,_⟩:=T.obj _ _ st2 b U;rw [ap (by rw [<- hDn];exact qc0 (qa9 e))];exact (f2 b U).1,(f2 b U).2⟩
 have k23:∀ b o,s2.heap.get? b=some o->Z.heap.get? b=some o:=fun b o e=>by rw [<- hs3];exact gP _ e
 have st3:tn 0 Z.heap:=T.keep _ _ _ st2 fun b _ o e=>k23 b o e
 have fl3:∀ b∈fp,b<Z.heap.objs.size:=fun b U=>by obtain ⟨o,e,_⟩:=T.obj _ _ st3 b U;exact qa9 e
 refine wpAny_newFunctionEnv S.nocell (by intro y hy;simp at hy) (fun h₁ hns₁ hsb₁=>?_) S.kind;have k34:∀ b o,Z.heap.get? b=some o->h₁.get? b=some o:=fun b o e=>hsb₁.extBut b o (qc0 (qa9 e)) (gP _ e)
 generalize hs4:({Z with heap:=h₁,toks:=Z.toks+([]:List (Str×Value)).length}:qa4)=s4
 have I4:Inv (cxC X M scope Z.heap.objs.size Z (upd H2 D (.lst [])) fp) [] (stC src σ) (upd H2 D (.lst [])) s4:=by rw [<- hs4];exact oq S I3 f3 fl3 hns₁ k34 rfl rfl
 have st4:tn 0 s4.heap:=T.keep _ _ _ st3 fun b _ o e=>by rw [<- hs4];exact k34 b o e
 generalize O:cxC X M scope Z.heap.objs.size Z (upd H2 D (.lst [])) fp=Y at*
 have hg':PG Y tg g:=by rw [<- O];exact hg S.nd _ _ _ _
 have ht':PTs Y ifs tt:=by rw [<- O];exact ht _ _ _ _
 have he':PE Y elt te:=by rw [<- O];exact he _ _ _ _
 have eP:Y.prog=X.prog:=by rw [<- O];rfl
 have eW:Y.w=X.w:=by rw [<- O];rfl
 have eK:Y.K=X.K:=by rw [<- O];rfl
 have eA:Y.A=X.A:=by rw [<- O];rfl
 have ex':Y.xe=fun _ _=>False:=by rw [<- O];rfl
 have ec:Y.calm=true:=by rw [<- O];exact hc
 have eE:Y.env=compEnvC scope (dJ scope.names X.env.cells) Z.heap.objs.size X.env:=by rw [<- O];rfl
 have stat:∀ {H':Hp},(∀ b∈fp,H' b=none)->∀ b∈fp,gB Y [] H' b:=fun hn b U=>by
  rw [<- O];refine ⟨hn b U,qc0 (fl3 b U),fun z=>?_,.inl U,fun x c h=>(f3 b U).2.2.2.2.1 x c (fK hcells h),fun p hp=>absurd hp (by simp [cxC])⟩;rcases qb6.mp (I3.stkSub b z) with q | q
  . exact (f3 b U).2.1 q
  . exact (f3 b U).2.2.1 q
 -- behind the block
 have fin:∀ (H':Hp) (s':qa4),Inv Y [] (stC src σ) H' s'->Q (.ref D) H'->zg0 \4 X.A X.xe use QQ (.ref D) Z.heap.objs.size (.ok .next) s':=by
  intro H' s' J' q;rw [<- O] at J';obtain ⟨m,hn,_⟩:=id J'.loc;have hC:H' Z.heap.objs.size=none:=J'.free;have un:Un (frs X.stack) fp (upd H2 D (.lst [])) H' Z.heap s'.heap:=J'.base;have IA:Inv X pins σ H' s':=I3.call' (s':=s') (show s'.os=Z.os from J'.os) un J'.hok J'.bare fun b U=>⟨(f3 b U).2.2.2.1,(f3 b U).2.1,(f3 b U).2.2.2.2.1,(f3 b U).2.2.2.2.2⟩
  exact hfin D _ H' s' m IA (I3.fpOk (nL _) hC) hn q
 have loop:∀ s4':qa4,s4'=s4->qr4 \4 X.A (.compLoop \9 0 (.ref it) (.ref D) Y.env) (zg0 \4 X.A X.xe use QQ (.ref D) Z.heap.objs.size) s4':=by
  rintro _ rfl;refine io (fun n s'=>∃ i H',Inv Y [] (stC src σ) H' s'/\tn i s'.heap/\(∀ b∈fp,H' b=none)/\W i n H') ?_ m0 ⟨0,_,I4,st4,fun b U=>(f3 b U).1,w0⟩;rintro n s5 ⟨i,H5,I5,st5,fr5,w5⟩;rcases turn i n H5 w5 with ⟨stop,qn⟩ | ⟨go,N,hN,step⟩
  . have:=T.done Y eP eW eK ec i [] s5 (stC src σ) H5 (fun _ _=>False) I5 (stat fr5) st5 stop;rw [eA] at this;refine thn this fun r s6 ⟨hr,I6⟩=>?_
    subst hr;exact fin H5 s6 I6 qn
  . have:=T.item Y eP eW eK ec i [] s5 (stC src σ) H5 (fun _ _=>False) I5 (stat fr5) st5 go;rw [eA] at this;refine thn this fun r s6 ⟨u,hr,h6⟩=>?_
    subst hr;refine thn h6 fun _ s7 ⟨x,H7,I7,r7,y7,st7,fr7⟩=>?_
    have I7':=I7.pinned (stat fr7) (T.obj _ _ st7);have a1:=hg' _ s7 (stC src σ) H7 x u _ I7' r7 (step x H7 y7);rw [ex',eP,eW,eA] at a1;refine thn a1 fun _ s8 ⟨σ8,H8,I8,wk8,q8⟩=>?_
    have a2:=ht' _ s8 σ8 H8 _ I8 q8;rw [ex',eP,eW,eA] at a2;refine thn a2 fun ok s9 ⟨H9,I9,q9⟩=>?_
    have again:∀ {H7':Hp} {s':qa4},Inv Y ([]++iR fp s7.heap) σ8 H7' s'->N H7'->∃ m,m<n/\∃ i H',Inv Y [] (stC src σ) H' s'/\tn i s'.heap/\(∀ b∈fp,H' b=none)/\W i m H':=fun {H7' s'} J7 n7=>by obtain ⟨m',hm,w7⟩:=hN H7' n7;refine ⟨m',hm,i+1,H7',J7.unpinned.weak wk8.1 wk8.2,T.keep _ _ _ st7 fun b U o e=>(J7.pin (b,o) (qc8 _ (qc8 _ (cC U e)))).1,fun b U=>?_,w7⟩;obtain ⟨o,e,d⟩:=T.obj _ _ st7 b U;exact (J7.pin (b,o) (qc8 _ (qc8 _ (cC U e)))).2.1
    cases ok with
    | false=>exact again I9 q9
    | true =>
     have a3:=he' _ s9 σ8 H9 _ I9 q9;rw [ex',eP,eW,eA] at a3;refine thn a3 fun v s10 ⟨y,H10,I10,r10,ys,hl,hz,q10⟩=>?_
     have a4:=gk (X:=Y) _ s10 σ8 H10 (.ref D) [y] (.ref D) [v] (fun _ H'=>N H') I10 rfl (.cons r10 .nil) ⟨D,ys,y,rfl,rfl,hl,hz,q10⟩;rw [ex',eP,eW,eA] at a4;refine thn a4 fun _ s11 ⟨_,H11,I11,_,q11⟩=>?_
     exact again I11 q11
 have e4:∀ c:Env,c=Y.env->qr4 \4 X.A (.compStart \9 0 (.ref it) (.ref D) c) (zg0 \4 X.A X.xe use QQ (.ref D) Z.heap.objs.size) s4:=by rintro _ rfl;exact zd1 (loop _ rfl) (T.self _ _ _ _ _ st4 (loop _ rfl))
 exact e4 _ (by rw [eE];rfl)
theorem rY (hN:X.N.Nodup) (hi':X.N[i]?=some y) (O:Loc X.env.scope y) (hf:X.fn y=true∨X.env.scope.names.lookup y=some .local)
 (S:CmpScope X.N X.env.scope scope M src) (hc:X.calm=true) (hi:PI X tg iter wi) (hg:M.Nodup->∀ C s H ex,PG #h tg g) (ht:∀ C s H ex,PTs #h ifs tt)
 (he:∀ C s H ex,PE #h elt te) (hs:∀ x,qg7 iter X.env x=pure x)
 (hsw:qm7 \9 (some (.Name y py)) spos.line X.env=pure true) :
  PS X (.Assign [.Name y py] \9 spos) (xT (lC src wi g tt te) (fG i)):=by
 intro pins s σ H D I h;rw [exec_Assign_Name_used _ _ _ _ hsw];refine wB (zb3 (wB ?_));show wpAny _ X.A (do let _ <- comprehension \9 scope X.env _ (newList []) false (eval iter X.env) (some (ze0 (.Name y py) X.env))) _ _ s;refine wB (ql6 (ua (use:=some (ze0 (.Name y py) X.env)) (QQ:=fun _ s'=>∃ σ' H',Inv X pins σ' H' s'/\D.nx σ' H') S hc hi hg ht he hs I h ?_) (fun _ s' hq=>qa3 (qa3 hq)) fun _ _ e=>e);intro Dd C H' s' m IA U hn q;show wpAny _ X.A (ze0 (.Name y py) X.env (.ref Dd)) _ _ s';refine wpAny_assign_Name (lq IA hN hi' O (v:=.ref Dd) rfl (fun s2 I2 hsb=>?_) hf);obtain ⟨a,sb,ha⟩:=hsb
 have ne:C≠a:=by
  rcases ha with rfl | ha
  . exact U.2.1
  . exact qq1 (U.2.2.2.2.1 y a ha)
 refine ⟨m,hn.sameBut sb ne,fun h3 Z=>⟨_,H',?_,q⟩⟩;have Y:∀ b o,b≠C->s2.heap.get? b=some o->h3.get? b=some o:=fun b o W e=>Z.extBut b o W e
 have nm:∀ {b:Addr},b∉[C]->b≠C:=fun W z=>W (by rw [z];exact qe1)
 refine I2.call' (s':={s2 with heap:=h3}) (ch:=[C]) rfl ⟨fun b o e n W O=>Y b o (nm O) e,fun b o e n W O=>⟨o.slots,Y b o (nm O) e⟩,fun b o e n O=>n,fun b o e O=>⟨o,Y b o (nm O) e⟩,fun b xs e=>e,fun b o u e=>e,fun b ps e=>⟨#[],by rw [Array.append_empty];exact e⟩,fun b qs e=>e⟩ ?_ I2.bare fun b W=>?_
 . intro b u e;have nb:b≠C:=fun z=>by rw [z,U.1] at e;cases e
   refine (I2.hok b u e).stay (fun c v hc' q=>Y c v ?_ q) (fun _ q=>q) (fun _ _ q=>q) fun _ _ _ q=>q
   rcases hc' with z | z
   . rw [z];exact nb
   . intro w;rw [w,U.1] at z;cases z
 . cases qb9.mp W;exact ⟨U.2.2.2.1,U.2.1,U.2.2.2.2.1,U.2.2.2.2.2⟩
end
section
variable {X:Cx} {elt tg iter:Expr} {ifs:List Expr} {scope:Scope} {pos:Pos} {M:List Str} {src:List (Option Nat)} {fi:De->Option (List Dt)} {ft:De->Option Bool} {fe:De->Option Dt} {i:Nat}
theorem yG (h:cT sc N i y=true) (hl:gW sc y=true) (Y:N.Nodup) (S:CmpScope X.N X.env.scope scope M src) (hc:X.calm=true) (hi:DIB X tg iter fi) (hg:M.Nodup->∀ C s H ex,DG #h tg ts bb)
 (ht:∀ C s H ex,DTs #h ifs ft) (he:∀ C s H ex,DL #h elt fe) (hts:(ts.all fun k=>decide (src[k]?=some none))=true) (W:∀ x,qg7 iter X.env x=pure x:=by intro _;rfl)
 (O:bH X sc:=by rfl) (e2:X.N=N:=by rfl) (hf:X.fn y=true∨X.env.scope.names.lookup y=some .local:=by exact .inl rfl) (Z:qm7 \9 (some (.Name y py)) spos.line X.env=pure true:=by rfl) :
  DS1 X (.Assign [.Name y py] \9 spos) (bf i (bF src fi bb ft fe)):=by
 have O:X.env.scope=sc:=O;subst O e2;refine PS.mono (rY (g:=gD X.K ts bb) (tt:=tTr X.K ft) (te:=tL X.K fe) Y (fL h) (iY hl) hf S hc hi (fun Y C s H ex=>hg Y C s H ex) (fun C s H ex=>ht C s H ex) (fun C s H ex=>he C s H ex) W Z) fun D σ H ⟨Φ,δ,F,o,hK,en,q,k⟩=>?_
 unfold bf at q;obtain ⟨t,U,q⟩:=mS q;cases q;exact mY S hts σ H _ ⟨Φ,δ,F,t,hK,en,U,fun v H' F' S st o W=>k _ F' H' (en.put st (hK▸o) W i)⟩
theorem BR {f:De->Option T} (h:tO K (toT (toD f)) σ H Q):tO K f σ H Q:=by
 obtain ⟨Φ,δ,F,t,U,en,q,k⟩:=h;unfold toT toD at q;cases O:f δ with
 | none=>rw [O] at q;cases q
 | some u =>rw [O] at q;cases q;exact ⟨Φ,δ,F,u,U,en,O,k.leaf.to⟩
theorem oR (h:cT sc N i y=true) (hl:gW sc y=true) (Y:N.Nodup) (S:CmpScope X.N X.env.scope scope M src) (hc:X.calm=true) (hi:DIB X tg iter fi) (hg:M.Nodup->∀ C s H ex,DG #h tg ts bb)
 (ht:∀ C s H ex,DTs #h ifs ft) (he:∀ C s H ex,DL #h elt fe) (hts:(ts.all fun k=>decide (src[k]?=some none))=true) (W:∀ x,qg7 iter X.env x=pure x:=by intro _;rfl)
 (O:bH X sc:=by rfl) (e2:X.N=N:=by rfl) (hf:X.fn y=true∨X.env.scope.names.lookup y=some .local:=by exact .inl rfl) (Z:qm7 \9 (some (.Name y py)) spos.line X.env=pure true:=by rfl) :
  DS1 X (.Assign [.Name y py] \9 spos) (bf i (toT (toD (bF src fi bb ft fe)))):=by
 have O:X.env.scope=sc:=O;subst O e2;refine PS.mono (rY (g:=gD X.K ts bb) (tt:=tTr X.K ft) (te:=tL X.K fe) Y (fL h) (iY hl) hf S hc hi (fun Y C s H ex=>hg Y C s H ex) (fun C s H ex=>ht C s H ex) (fun C s H ex=>he C s H ex) W Z) fun D σ H ⟨Φ,δ,F,o,hK,en,q,k⟩=>?_
 unfold bf at q;obtain ⟨t,U,q⟩:=mS q;cases q;exact mY S hts σ H _ (BR ⟨Φ,δ,F,t,hK,en,U,fun v H' F' S st o W=>k _ F' H' (en.put st (hK▸o) W i)⟩)
end
section
variable {X:Cx} {e o:Expr} {f:Str} {pos pos' apos cpos:Pos} {i j:Nat} {c:Str} {NS:List Str} {fe:De->Option T} {fd:De->Option Dt}
end
section
variable {X:Cx} {e o ik:Expr} {f:Str} {pos pos' apos cpos spos:Pos} {i j:Nat} {c:Str} {NS:List Str} {fe:De->Option T} {fd fk:De->Option Dt}
end
df rZ:T->Option T
 | .leaf d=>if bQ d then some (.leaf d) else none
 | .lst l=>if l.all bQ then some (.lst l) else none
 | _=>none
theorem lT {F:Hp}:∀ {l:List Dt} {vs:List V},Reps K F l vs->l.all bQ=true->Reps K F' l vs
 | [],vs,h,_=>by simp only [Reps] at h ⊢;exact h
 | d::l,vs,h,q=>by simp only [qp2,qb4] at q;simp only [Reps] at h ⊢;obtain ⟨v,O,e,h1,h2⟩:=h;exact ⟨v,O,e,oQ h1 q.1,lT h2 q.2⟩
theorem vV {u t:T} (U:Same F1 H1) (O:rZ u=some t) (k:KO K F1 H1 t Q):KO K H1 H1 u Q:=fun v H' F' S st o W=>by
 unfold rZ at O;split at O<;>first | (cases O;done) | skip
 . split at O<;>first | (cases O;done) | skip
   rename_i d Y;cases O;exact k.leaf v H' F1 ⟨st.hh,Same.refl _,U.trans st.hh,fun b o e=>.inl e⟩ (oQ o Y)
 . split at O<;>first | (cases O;done) | skip
   rename_i l hl;cases O;obtain ⟨a,vs,e,Z,h1,h2⟩:=o;refine k v H' F1 S ⟨st.hh,Same.refl _,U.trans st.hh,fun b o e=>.inl e⟩ ⟨a,vs,e,Z,h1,lT h2 hl⟩ fun b z=>⟨?_,(W b z).2.1,(W b z).2.2⟩
   cases q:F1 b with
   | none=>rfl
   | some o=>have y:=(W b z).2.1;rw [U _ _ q] at y;cases y
section
variable {X:Cx} {e o:Expr} {es:List Expr} {m c:Str} {pos apos cpos p:Pos} {i j:Nat} {NS ps:List Str} {fo:De->Option Dt} {fs:De->Option (List Dt)} {ff:List Dt->Option T} {k n:Nat}
end
section
variable {K:PySem.W.Frag} {F H:Hp} {ts:List T} {vs:List V} {S:Nat->Addr->Prop} {N:List Str}
end
section
variable {P:qc9} {w:World} {K:PySem.W.Frag} {mg:Str->Option Value} {base:Heap}
end
section
variable {X:Cx} {e:Expr} {pos:Pos} {fd:De->Option Dt}
end
section
variable {X:Cx} {e:Expr} {es:List Expr} {i:Nat} {ags:List Ag} {f:De->Option Dt}
end
section
variable {X:Cx} {e o:Expr} {es:List Expr} {x m c:Str} {pos apos cpos p:Pos} {i j:Nat} {NS ps:List Str} {sc:Scope} {k n:Nat} {f:List T->Option (T×List T)} {ags:List Ag} {fs:De->Option (List Dt)} {fe fk:De->Option Dt}
end
section
variable {X:Cx}
df oS (K:PySem.W.Frag):R2:=fun x y H Q=>∃ a b ys,x=.ref a/\y=.ref b/\SqT K H a []/\SqT K H b ys/\Q (.ref b) H
theorem yH:OpR X (qk0 .Add) (oS X.K):=by
 intro pins s σ H x y v u Q I rx ry h;obtain ⟨a,b,ys,rfl,rfl,ha,hb,q⟩:=h;cases rx;cases ry;obtain ⟨its,r1,p1,_⟩:=I.tuple ha;obtain ⟨W,r2,p2,_⟩:=I.tuple hb;cases r1;obtain ⟨⟨cls,dd,data,sl⟩,ho,hc,n,hd⟩:=id p1;obtain ⟨⟨cls2,dd2,Z,sl2⟩,U,Y,n2,O⟩:=id p2;simp only at hc hd Y O;subst hc hd Y O
 exact qz4 ⟨_,ho,rfl⟩ ⟨_,U,rfl⟩ qv6 zb5 PySem.F.slot_tuple_add PySem.F.entry_tuple_add (PySem.F.args_tuple_add_2 _ _)
  (tuple_addW0 a b #[] W.toArray n n2 dd dd2 sl sl2 rfl) ⟨ho,U,⟨.ref b,H,I,rfl,q⟩⟩
df vW:Dt->Dt->Option T
 | .tup [],.tup m=>some (.leaf (.tup m))
 | .tup (d::l),.tup (e::m)=>bB (.tup (d::l)) (.tup (e::m))
 | _,_=>none
theorem yI:OpR X (qk0 .Add) (fun x y H Q=>oS X.K x y H Q∨lM X.K x y H Q):=OpR.or yH dE
theorem BS:R2D K (fun x y H Q=>oS K x y H Q∨lM K x y H Q) vW:=by
 intro F H x y Z vy Q t O Y U q k;unfold vW at q;split at q<;>first | (cases q;done) | skip
 . rename_i m;cases q;obtain ⟨a,vs,rfl,h1,h2⟩:=Y;obtain ⟨b,W,rfl,h3,h4⟩:=U;simp only [Reps] at h2;subst h2;refine .inl ⟨a,b,W,rfl,rfl,O.tup h1,O.tup h3,k.leaf.here O ?_⟩;simp only [Rep];exact ⟨b,W,rfl,h3,h4⟩
 . exact .inr (jn F H _ _ Z vy Q t O Y U q k)
end
section
variable {X:Cx} {pos:Pos} {k v:Expr} {ks:List (Option Expr)} {vs:List Expr} {fk fv:De->Option Dt} {g:De->Option (List (Key×Dt))}
end
section
variable {X:Cx} {pins:List (Addr×Obj)} {σ:St} {H:Hp} {s:qa4} {a:Addr} {u:HO} {ob:Obj}
end
theorem yJ {k:Key} {u:Value} (h:(bC P w).is k u=true):RelV (kV k) u:=by
 rcases bi (show jP k u=true from h) with ⟨i,t,rfl,rfl⟩ | ⟨x,t,rfl,rfl⟩
 . exact ⟨t,rfl⟩
 . exact ⟨t,rfl⟩
section
variable {X:Cx} {tg:Expr}
end
inductive CV where
 | dat (d:Dt) | ref (i:Nat)
 | fn (a:Addr) (F0:Hp)
inductive CO where
 | lst (l:List CV) | tup (l:List CV) | dK (l:List (Key×CV)) | ins (c:Str) (ns:List Str) (l:List CV) | wk (l:List (Key×CV)) | dT (l:List (List Key×CV)) | wt (l:List (List Key×CV))
abbrev CH:=List CO
abbrev Sl:=List (Option CV)
section
variable (K:PySem.W.Frag) (F H:Hp) (ρ:Nat->Addr) (n:Nat)
df RelC:CV->V->Prop
 | .dat d,v=>Rep K F d v
 | .ref i,v=>i<n/\v=.ref (ρ i)
 | .fn a F0,v=>v=.ref a/\Same F0 F
df RelCs:List CV->List V->Prop
 | [],vs=>vs=[]
 | c::l,vs=>∃ v q,vs=v::q/\RelC K F ρ n c v/\RelCs l q
df CoOk (a:Addr):CO->Prop
 | .lst l=>∃ vs,H a=some (.lst vs)/\RelCs K F ρ n l vs
 | .tup l=>∃ vs,H a=some (.tup vs)/\RelCs K F ρ n l vs
 | .dK l=>∃ kvs,H a=some (.dK kvs)/\kvs.map (·.1)=l.map (·.1)/\RelCs K F ρ n (l.map (·.2)) (kvs.map (·.2))
 | .ins c ns l=>∃ C dx fs,vn K c C/\H a=some (.ins C dx fs)/\fs.map (·.1)=ns/\RelCs K F ρ n l (fs.map (·.2))
 | .wk l=>∃ o kvs,H a=some (.frz o (.dK kvs))/\kvs.map (·.1)=l.map (·.1)/\RelCs K F ρ n (l.map (·.2)) (kvs.map (·.2))
 | .dT l=>∃ kvs,H a=some (.dT kvs)/\kvs.map (·.1)=l.map (·.1)/\RelCs K F ρ n (l.map (·.2)) (kvs.map (·.2))
 | .wt l=>∃ o kvs,H a=some (.frz o (.dT kvs))/\kvs.map (·.1)=l.map (·.1)/\RelCs K F ρ n (l.map (·.2)) (kvs.map (·.2))
end
variable {o:CO}
section
variable {K:PySem.W.Frag} {F H F' H' F1 H1:Hp} {ρ ρ' ρ1:Nat->Addr} {n n':Nat} {c:CV} {v:V}
theorem RelC.mono (ff:Same F F') (O:∀ i,i<n->ρ' i=ρ i) (q:n<=n') (h:RelC K F ρ n c v):RelC K F' ρ' n' c v:=by
 cases c with
 | dat d=>exact Rep.same ff h
 | ref i=>exact ⟨qb7 h.1 q,by rw [O i h.1];exact h.2⟩
 | fn a F0=>exact ⟨h.1,h.2.trans ff⟩
theorem RelCs.mono (ff:Same F F') (O:∀ i,i<n->ρ' i=ρ i) (q:n<=n'):∀ {l:List CV} {vs:List V},RelCs K F ρ n l vs->RelCs K F' ρ' n' l vs
 | [],_,h=>h
 | c::l,vs,h=>by obtain ⟨v,U,e,h1,h2⟩:=h;exact ⟨v,U,e,h1.mono ff O q,RelCs.mono ff O q h2⟩
theorem RelCs.length:∀ {l:List CV} {vs:List V},RelCs K F ρ n l vs->vs.length=l.length
 | [],_,h=>by rw [show _=[] from h];rfl
 | c::l,vs,h=>by obtain ⟨v,q,rfl,h1,h2⟩:=h;simp [RelCs.length h2]
theorem RelCs.get:∀ {l:List CV} {vs:List V} {i:Nat} {c:CV},RelCs K F ρ n l vs->l[i]?=some c->∃ v,vs[i]?=some v/\RelC K F ρ n c v
 | [],_,_,_,_,e=>by simp at e
 | c::l,vs,0,c',h,e=>by obtain ⟨v,q,rfl,h1,h2⟩:=h;simp at e;subst e;exact ⟨v,rfl,h1⟩
 | c::l,vs,i+1,c',h,e=>by obtain ⟨v,q,rfl,h1,h2⟩:=h;obtain ⟨u,q1,q2⟩:=RelCs.get (i:=i) h2 (by simpa using e);exact ⟨u,by simpa using q1,q2⟩
theorem RelCs.set (r:RelC K F ρ n c v):∀ {l:List CV} {vs:List V} (i:Nat),RelCs K F ρ n l vs->RelCs K F ρ n (l.set i c) (vs.set i v)
 | [],vs,i,h=>by rw [show vs=[] from h];rfl
 | x::l,vs,0,h=>by obtain ⟨u,q,rfl,h1,h2⟩:=h;exact ⟨v,q,rfl,r,h2⟩
 | x::l,vs,i+1,h=>by obtain ⟨u,q,rfl,h1,h2⟩:=h;exact ⟨u,q.set i v,rfl,h1,RelCs.set r i h2⟩
theorem RelCs.append:∀ {l m:List CV} {vs q:List V},RelCs K F ρ n l vs->RelCs K F ρ n m q->RelCs K F ρ n (l++m) (vs++q)
 | [],m,vs,q,h,h'=>by rw [show vs=[] from h];exact h'
 | x::l,m,vs,q,h,h'=>by obtain ⟨u,us,rfl,h1,h2⟩:=h;exact ⟨u,us++q,rfl,h1,RelCs.append h2 h'⟩
theorem RelCs.one (r:RelC K F ρ n c v):RelCs K F ρ n [c] [v]:=⟨v,[],rfl,r,rfl⟩
theorem RelCs.dats:∀ {l:List Dt} {vs:List V},Reps K F l vs->RelCs K F ρ n (l.map .dat) vs
 | [],vs,h=>by simp only [Reps] at h;exact h
 | d::l,vs,h=>by simp only [Reps] at h;obtain ⟨v,q,e,h1,h2⟩:=h;exact ⟨v,q,e,h1,RelCs.dats h2⟩
theorem CoOk.mono (ff:Same F F') (U:∀ i,i<n->ρ' i=ρ i) (q:n<=n') (O:∀ u,H a=some u->H' a=some u) (h:CoOk K F H ρ n a o):CoOk K F' H' ρ' n' a o:=by
 cases o with
 | lst l=>obtain ⟨vs,h1,h2⟩:=h;exact ⟨vs,O _ h1,h2.mono ff U q⟩
 | tup l=>obtain ⟨vs,h1,h2⟩:=h;exact ⟨vs,O _ h1,h2.mono ff U q⟩
 | dK l=>obtain ⟨vs,h1,h2,h3⟩:=h;exact ⟨vs,O _ h1,h2,h3.mono ff U q⟩
 | ins c ns l=>obtain ⟨C,dx,fs,W,h1,h2,h3⟩:=h;exact ⟨C,dx,fs,W,O _ h1,h2,h3.mono ff U q⟩
 | wk l=>obtain ⟨o,vs,h1,h2,h3⟩:=h;exact ⟨o,vs,O _ h1,h2,h3.mono ff U q⟩
 | dT l=>obtain ⟨vs,h1,h2,h3⟩:=h;exact ⟨vs,O _ h1,h2,h3.mono ff U q⟩
 | wt l=>obtain ⟨o,vs,h1,h2,h3⟩:=h;exact ⟨o,vs,O _ h1,h2,h3.mono ff U q⟩
theorem CoOk.there (h:CoOk K F H ρ n a o):∃ u,H a=some u:=by
 cases o with
 | lst l=>obtain ⟨vs,h1,h2⟩:=h;exact ⟨_,h1⟩
 | tup l=>obtain ⟨vs,h1,h2⟩:=h;exact ⟨_,h1⟩
 | dK l=>obtain ⟨vs,h1,h2⟩:=h;exact ⟨_,h1⟩
 | ins c ns l=>obtain ⟨C,dx,fs,q,h1,h2⟩:=h;exact ⟨_,h1⟩
 | wk l=>obtain ⟨o,vs,h1,h2⟩:=h;exact ⟨_,h1⟩
 | dT l=>obtain ⟨vs,h1,h2⟩:=h;exact ⟨_,h1⟩
 | wt l=>obtain ⟨o,vs,h1,h2⟩:=h;exact ⟨_,h1⟩
end
structure Gh (K:PySem.W.Frag) (F H:Hp) (ρ:Nat->Addr) (ch:CH):Prop where
 fh:Same F H
 inj:∀ i j,i<ch.length->j<ch.length->ρ i=ρ j->i=j
 out:∀ i,i<ch.length->F (ρ i)=none∨∃ xs,F (ρ i)=some (.tup xs)
 ok:∀ i o,ch[i]?=some o->CoOk K F H ρ ch.length (ρ i) o
structure Adv (K:PySem.W.Frag) (F H:Hp) (ρ:Nat->Addr) (ch:CH) (F' H':Hp) (ρ':Nat->Addr) (ch':CH):Prop where
 gh:Gh K F' H' ρ' ch'
 len:ch.length<=ch'.length
 ext:∀ i,i<ch.length->ρ' i=ρ i
 fr:∀ i,ch.length<=i->i<ch'.length->H (ρ' i)=none
 prot:∀ b o,H b=some o->(∀ i,i<ch.length->ρ i≠b)->H' b=some o
 old:Same F F'
 nw:∀ b o,F' b=some o->F b=some o∨H b=none∨∃ xs,o=.tup xs
 fz:∀ b o u,H b=some (.frz o u)->H' b=some (.frz o u)
section
variable {K:PySem.W.Frag} {F H F' H' F1 H1:Hp} {ρ ρ' ρ1:Nat->Addr} {ch ch' ch1:CH} {c:CV} {v:V}
theorem Gh.at (g:Gh K F H ρ ch) (hi:i<ch.length):∃ u,H (ρ i)=some u:=(g.ok i ch[i] (by simp [hi])).there
theorem Adv.refl (g:Gh K F H ρ ch):Adv K F H ρ ch F H ρ ch:=⟨g,nL _,fun _ _=>rfl,fun i h1 h2=>absurd h2 (qj1.mpr h1),fun _ _ h _=>h,Same.refl _,fun _ _ h=>.inl h,fun _ _ _ h=>h⟩
theorem Adv.back (g:Gh K F H ρ ch) (a:Adv K F H ρ ch F1 H1 ρ1 ch1) {b:Addr} (h:H1 b=none):H b=none:=by
 cases q:H b with
 | none=>rfl
 | some o =>
  by_cases z:∃ i,i<ch.length/\ρ i=b
  . obtain ⟨i,hi,rfl⟩:=z;obtain ⟨u,O⟩:=a.gh.at (qb7 hi a.len)
    rw [a.ext i hi,h] at O;cases O
  . rw [a.prot b o q fun i hi e=>z ⟨i,hi,e⟩] at h;cases h
theorem Adv.trans (g:Gh K F H ρ ch) (a:Adv K F H ρ ch F1 H1 ρ1 ch1) (b:Adv K F1 H1 ρ1 ch1 F' H' ρ' ch'):Adv K F H ρ ch F' H' ρ' ch' where
 gh:=b.gh
 len:=qc3 a.len b.len
 ext:=fun i hi=>(b.ext i (qb7 hi a.len)).trans (a.ext i hi)
 fr:=fun i h1 h2=>by
  by_cases hi:i<ch1.length
  . rw [b.ext i hi];exact a.fr i h1 hi
  . exact a.back g (b.fr i (qj1.mp hi) h2)
 prot:=fun x o h1 h2=>b.prot x o (a.prot x o h1 h2) fun i hi e=>by
  by_cases q:i<ch.length
  . rw [a.ext i q] at e;exact h2 i q e
  . have:=a.fr i (qj1.mp q) hi;rw [e,h1] at this;cases this
 old:=a.old.trans b.old
 nw:=fun x o h=>(b.nw x o h).elim (a.nw x o) fun z=>.inr (z.imp_left fun z=>a.back g z)
 fz:=fun x o u h=>b.fz x o u (a.fz x o u h)
theorem Gh.of (g:Gh K F H ρ ch) (st:Step F H F' H'):Gh K F' H' ρ ch:=by
 refine ⟨st.fh,g.inj,fun i hi=>?_,fun i o h=>(g.ok i o h).mono st.ff (fun _ _=>rfl) (nL _) fun u O=>st.hh _ _ O⟩;cases q:F' (ρ i) with
 | none=>exact .inl rfl
 | some o =>
  rcases st.nw _ _ q with z | z
  . rcases g.out i hi with y | ⟨xs,y⟩
    . rw [y] at z;cases z
    . rw [y] at z;cases z;exact .inr ⟨xs,rfl⟩
  . obtain ⟨u,O⟩:=g.at hi;rw [O] at z;cases z
theorem Adv.of (g:Gh K F H ρ ch) (st:Step F H F' H'):Adv K F H ρ ch F' H' ρ ch:=⟨g.of st,nL _,fun _ _=>rfl,fun i h1 h2=>absurd h2 (qj1.mpr h1),fun b o h _=>st.hh b o h,st.ff,fun b o h=>(st.nw b o h).imp_right .inl,fun b o u h=>st.hh b _ h⟩
theorem Adv.upd (g:Gh K F H ρ ch) {w:HO} (hi:i<ch.length) (W:H (ρ i)=some w) (Z:∀ x y,w≠.frz x y) (Y:CoOk K F (upd H (ρ i) u) ρ ch.length (ρ i) o) (ht:∀ xs,w≠.tup xs:=by intro _ z;cases z):Adv K F H ρ ch F (upd H (ρ i) u) ρ (ch.set i o) where
 gh:=⟨fun b x e=>by
     have:b≠ρ i:=fun q=>by
      rw [q] at e;rcases g.out i hi with y | ⟨xs,y⟩
      . rw [y] at e;cases e
      . have:=g.fh _ _ y;rw [W] at this;exact ht xs (qd9 this)
     rw [ap this];exact g.fh b x e,fun j k U hk=>g.inj j k (by simpa using U) (by simpa using hk),fun j U=>g.out j (by simpa using U),fun j x O=>by
     rw [List.length_set];rw [List.getElem?_set] at O;split at O
     . rename_i q;subst q
       first
        | (split at O<;>first | (cases O;exact Y) | cases O)
        | (cases O;exact Y)
     . rename_i q;refine (g.ok j x O).mono (Same.refl _) (fun _ _=>rfl) (nL _) fun y hy=>?_
       have U:j<ch.length:=(gX O).1;rw [ap fun e=>q (g.inj j i U hi e).symm];exact hy⟩
 len:=by simp
 ext:=fun _ _=>rfl
 fr:=fun j h1 h2=>absurd h2 (by simpa using h1)
 prot:=fun b x h1 h2=>by rw [ap fun e=>h2 i hi e.symm];exact h1
 old:=Same.refl _
 nw:=fun b x h=>.inl h
 fz:=fun b x y h=>by rw [ap fun e=>by rw [e,W] at h;exact Z x y (qd9 h)];exact h
theorem Adv.new (g:Gh K F H ρ ch) (st:Step F H F' H') (W:H a=none) (Z:F' a=none) (Y:CoOk K F' H' (fun i=>if i=ch.length then a else ρ i) (ch.length+1) a o) :
  Adv K F H ρ ch F' H' (fun i=>if i=ch.length then a else ρ i) (ch++[o]):=by
 have g':=(Adv.of g st).gh;have lt:∀ {i:Nat},i<ch.length->(if i=ch.length then a else ρ i)=ρ i:=fun {i} hi=>if_neg (qc0 hi)
 have ne:∀ {i:Nat},i<ch.length->ρ i≠a:=fun {i} hi e=>by obtain ⟨u,O⟩:=g.at hi;rw [e,W] at O;cases O
 refine ⟨⟨st.fh,fun i j hi U e=>?_,fun i hi=>?_,fun i x q=>?_⟩,by simp,fun i hi=>lt hi,fun i h1 h2=>?_,fun b x h1 _=>st.hh b x h1,st.ff,fun b o h=>(st.nw b o h).imp_right .inl,fun b o u h=>st.hh b _ h⟩
 . simp only [qa8,qe7,qg3] at hi U;by_cases h1:i=ch.length<;>by_cases h2:j=ch.length
   . rw [h1,h2]
   . rw [if_pos h1,if_neg h2] at e;exact absurd e.symm (ne \3)
   . rw [if_neg h1,if_pos h2] at e;exact absurd e (ne \3)
   . rw [if_neg h1,if_neg h2] at e;exact g.inj i j \3 \3 e
 . simp only [qa8,qe7,qg3] at hi
   (try dsimp only)
   by_cases h1:i=ch.length
   . rw [if_pos h1];exact .inl Z
   . rw [if_neg h1];exact g'.out i \3
 . simp only [qa8,qe7,qg3];by_cases h1:i<ch.length
   . rw [qa5 h1] at q
     (try dsimp only)
     rw [lt h1];exact (g'.ok i x q).mono (Same.refl _) (fun j U=>lt U) (qp3 _) fun u O=>O
   . rw [gR (qj1.mp h1)] at q
     have h2:i=ch.length:=by have:=(gX q).1;simp at this;oo
     subst h2;simp at q;subst q
     (try dsimp only)
     rw [if_pos rfl];exact Y
 . simp only [qa8,qe7,qg3] at h2;have h3:i=ch.length:=by oo
   (try dsimp only)
   rw [if_pos h3];exact W
end
structure Ge (K:PySem.W.Frag) (δ:Sl) (ch:CH) (σ:St) (F H:Hp) (ρ:Nat->Addr):Prop where
 gh:Gh K F H ρ ch
 len:δ.length=σ.length
 has:∀ (i:Nat) (c:CV),δ[i]?=some (some c)->∃ v,σ[i]?=some (some v)/\RelC K F ρ ch.length c v
df KG (K:PySem.W.Frag) (F H:Hp) (ρ:Nat->Addr) (ch:CH) (c:CV) (ch':CH) (Q:VK):Prop:=∀ v F' H' ρ',Adv K F H ρ ch F' H' ρ' ch'->RelC K F' ρ' ch'.length c v->Q v H'
abbrev Fg:=Sl->CH->Option (CV×CH)
df tG (K:PySem.W.Frag) (f:Fg):TE:=fun σ H Q=>∃ δ ch F ρ c ch',Ge K δ ch σ F H ρ/\f δ ch=some (c,ch')/\KG K F H ρ ch c ch' Q
df GE (X:Cx) (e:Expr) (f:Fg):Prop:=PE X e (tG X.K f)
df dats:List CV->Option (List Dt)
 | []=>some []
 | .dat d::l=>(dats l).map (d::·)
 | _=>none
variable {ρ:Nat->Addr}
theorem cM {F:Hp}:∀ {l:List CV} {ds:List Dt} {vs:List V},dats l=some ds->RelCs K F ρ n l vs->Reps K F ds vs
 | [],ds,vs,h,r=>by cases h;simp only [Reps];exact r
 | .dat d::l,ds,vs,h,r=>by simp only [dats] at h;obtain ⟨es,O,rfl⟩:=mS h;obtain ⟨v,q,e,h1,h2⟩:=r;simp only [Reps];exact ⟨v,q,e,h1,cM O h2⟩
 | .ref i::l,ds,vs,h,r=>by cases h
 | .fn a F0::l,ds,vs,h,r=>by cases h
df tvO:CO->Option T
 | .lst l=>(dats l).map .lst
 | .dK l=>(dats (l.map (·.2))).map fun ds=>.dct ((l.map (·.1)).zip ds)
 | _=>none
df loA (ch:CH):List Nat->Sl->De
 | _,[]=>[]
 | u,none::r=>none::loA ch u r
 | u,some (.dat d)::r=>some (.leaf d)::loA ch u r
 | u,some (.ref i)::r=>(if i∈u then none else (ch[i]?).bind tvO)::loA ch (i::u) r
 | u,some (.fn _ _)::r=>none::loA ch u r
df lo (δ:Sl) (ch:CH):De:=loA ch [] δ
section
variable {K:PySem.W.Frag} {F H F' H' F1 H1:Hp} {ρ ρ' ρ1:Nat->Addr} {δ:Sl} {σ:St} {ch ch' ch1 ch2:CH} {c:CV} {v:V} {Q:VK}
theorem Ge.adv (e:Ge K δ ch σ F H ρ) (a:Adv K F H ρ ch F' H' ρ' ch'):Ge K δ ch' σ F' H' ρ':=⟨a.gh,e.len,fun i c h=>by obtain ⟨v,h1,h2⟩:=e.has i c h;exact ⟨v,h1,h2.mono a.old a.ext a.len⟩⟩
theorem KG.adv (k:KG K F H ρ ch c ch' Q) (g:Gh K F H ρ ch) (a:Adv K F H ρ ch F1 H1 ρ1 ch1):KG K F1 H1 ρ1 ch1 c ch' Q:=fun v F' H' ρ' b r=>k v F' H' ρ' (a.trans g b) r
theorem eU (ch:CH):∀ (u:List Nat) (δ:Sl),(loA ch u δ).length=δ.length
 | _,[]=>rfl
 | u,none::r=>by simp [loA,eU ch u r]
 | u,some (.dat d)::r=>by simp [loA,eU ch u r]
 | u,some (.ref i)::r=>by simp [loA,eU ch (i::u) r]
 | u,some (.fn _ _)::r=>by simp [loA,eU ch u r]
theorem gr:∀ {u:List Nat} {δ:Sl} {j:Nat} {t:T},(loA ch u δ)[j]?=some (some t)->(∃ d,t=.leaf d/\δ[j]?=some (some (.dat d)))∨∃ i o,δ[j]?=some (some (.ref i))/\ch[i]?=some o/\tvO o=some t/\i∉u/\∀ m,m<j->δ[m]?≠some (some (.ref i))
 | _,[],j,t,h=>by simp [loA] at h
 | u,none::r,0,t,h=>by simp [loA] at h
 | u,none::r,j+1,t,h=>by
  rcases gr (u:=u) (δ:=r) (j:=j) (t:=t) (by simpa [loA] using h) with ⟨d,e,q⟩ | ⟨i,o,q1,q2,W,O,U⟩
  . exact .inl ⟨d,e,by simpa using q⟩
  . refine .inr ⟨i,o,by simpa using q1,q2,W,O,fun m Y=>?_⟩;cases m with
    | zero=>simp
    | succ m=>simpa using U m \3
 | u,some (.dat d)::r,0,t,h=>by simp [loA] at h;exact .inl ⟨d,h.symm,rfl⟩
 | u,some (.dat d)::r,j+1,t,h=>by
  rcases gr (u:=u) (δ:=r) (j:=j) (t:=t) (by simpa [loA] using h) with ⟨d',e,q⟩ | ⟨i,o,q1,q2,W,O,U⟩
  . exact .inl ⟨d',e,by simpa using q⟩
  . refine .inr ⟨i,o,by simpa using q1,q2,W,O,fun m Y=>?_⟩;cases m with
    | zero=>simp
    | succ m=>simpa using U m \3
 | u,some (.fn _ _)::r,0,t,h=>by simp [loA] at h
 | u,some (.fn _ _)::r,j+1,t,h=>by
  rcases gr (u:=u) (δ:=r) (j:=j) (t:=t) (by simpa [loA] using h) with ⟨d',e,q⟩ | ⟨i,o,q1,q2,W,O,U⟩
  . exact .inl ⟨d',e,by simpa using q⟩
  . refine .inr ⟨i,o,by simpa using q1,q2,W,O,fun m Y=>?_⟩;cases m with
    | zero=>simp
    | succ m=>simpa using U m \3
 | u,some (.ref i)::r,0,t,h=>by
  simp only [loA,qd4,qi3] at h;split at h
  . cases h
  . rename_i hi;obtain ⟨o,ho,h⟩:=bS h;exact .inr ⟨i,o,rfl,ho,h,hi,fun m Y=>absurd Y (ze7 _)⟩
 | u,some (.ref i)::r,j+1,t,h=>by
  rcases gr (u:=i::u) (δ:=r) (j:=j) (t:=t) (by simpa [loA] using h) with ⟨d,e,q⟩ | ⟨Z,o,q1,q2,W,O,U⟩
  . exact .inl ⟨d,e,by simpa using q⟩
  . simp only [qb6,not_or] at O;refine .inr ⟨Z,o,by simpa using q1,q2,W,O.2,fun m Y=>?_⟩;cases m with
    | zero =>simp only [qd4,ne_eq,qi3,CV.ref.injEq];exact fun z=>O.1 z.symm
    | succ m=>simpa using U m \3
theorem r0 {α β:Type}:∀ {l:List α} {m:List β},l.length=m.length->(l.zip m).map (·.1)=l/\(l.zip m).map (·.2)=m
 | [],[],_=>⟨rfl,rfl⟩
 | [],_::_,h=>by cases h
 | _::_,[],h=>by cases h
 | a::l,b::m,h=>by obtain ⟨h1,h2⟩:=r0 (l:=l) (m:=m) (by simpa using h);simp [h1,h2]
theorem yK {t:T} {S:Addr->Prop} (h:tvO o=some t) (ok:CoOk K F H ρ n a o) (O:S a):Own K F H t (.ref a) S:=by
 cases o with
 | lst l =>obtain ⟨ds,q,rfl⟩:=mS h;obtain ⟨vs,h1,h2⟩:=ok;exact ⟨a,vs,rfl,O,h1,cM q h2⟩
 | dK l =>
  obtain ⟨ds,q,rfl⟩:=mS h;obtain ⟨vs,h1,h2,h3⟩:=ok;have r:=cM q h3
  have e:(l.map (·.1)).length=ds.length:=by have W:=congrArg qx8 h2;have e2:=r.length;simp only [qa2] at W e2 ⊢;oo
  obtain ⟨Y,U⟩:=r0 e;exact ⟨a,vs,rfl,O,h1,by rw [Y];exact h2,by rw [U];exact r⟩
 | tup l=>cases h
 | ins c ns l=>cases h
 | wk l=>cases h
 | dT l=>cases h
 | wt l=>cases h
theorem Gh.outO (g:Gh K F H ρ ch) (h:ch[i]?=some o) (q:tvO o≠none):F (ρ i)=none:=by
 rcases g.out i (gX h).1 with y | ⟨xs,y⟩
 . exact y
 . have z:=g.fh _ _ y;cases o with
   | lst l=>obtain ⟨vs,h1,_⟩:=g.ok i _ h;rw [h1] at z;cases z
   | dK l=>obtain ⟨vs,h1,_⟩:=g.ok i _ h;rw [h1] at z;cases z
   | tup l=>exact absurd rfl q
   | ins c ns l=>exact absurd rfl q
   | wk l=>exact absurd rfl q
   | dT l=>exact absurd rfl q
   | wt l=>exact absurd rfl q
theorem Ge.en (e:Ge K δ ch σ F H ρ):En ⟨K,F,H,fun b=>∃ i,i<ch.length/\ρ i=b⟩ (lo δ ch) σ F H:=by
 refine ⟨e.gh.fh,fun b o h _=>h,Same.refl _,fun b o h=>.inl h,by simp [lo,eU,e.len],fun j t h=>?_,fun j b=>∃ i o,δ[j]?=some (some (.ref i))/\ch[i]?=some o/\ρ i=b/\tvO o≠none/\∀ m,m<j->δ[m]?≠some (some (.ref i)),fun j t v h=>?_,fun j b z=>?_,fun j k b z1 z2=>?_⟩
 . rcases gr h with ⟨d,_,q⟩ | ⟨i,o,q,_⟩
   . obtain ⟨v,Z,_⟩:=e.has j _ q;exact ⟨v,Z⟩
   . obtain ⟨v,Z,_⟩:=e.has j _ q;exact ⟨v,Z⟩
 . obtain ⟨h1,h2⟩:=dY h;rcases gr h1 with ⟨d,rfl,q⟩ | ⟨i,o,q1,q2,O,q4,q5⟩
   . obtain ⟨w,U,r⟩:=e.has j _ q;rw [h2] at U;cases U;exact r
   . obtain ⟨w,U,r⟩:=e.has j _ q1;rw [h2] at U;cases U;obtain ⟨hi,rfl⟩:=r;exact yK O (e.gh.ok i o q2) ⟨i,o,q1,q2,rfl,by rw [O];simp,q5⟩
 . obtain ⟨i,o,q1,q2,rfl,qt,O⟩:=z;have hi:i<ch.length:=(gX q2).1;exact ⟨e.gh.outO q2 qt,e.gh.at hi,.inr ⟨i,hi,rfl⟩⟩
 . obtain ⟨i,o,q1,q2,e1,qt,O⟩:=z1;obtain ⟨i',o',W,Y,e2,qt',q3'⟩:=z2;have hi:i<ch.length:=(gX q2).1;have hi':i'<ch.length:=(gX Y).1;have:=e.gh.inj i i' hi hi' (e1.trans e2.symm);subst this;by_cases h1:j<k
   . exact absurd q1 (q3' j h1)
   . by_cases h2:k<j
     . exact absurd W (O k h2)
     . exact Nat.le_antisymm (qj1.mp h2) (qj1.mp h1)
end
variable {ch:CH} {c:CV}
section
variable {X:Cx} {e a b o:Expr} {f fa fb:Fg} {fd:De->Option Dt} {ft:De->Option T} {pos:Pos} {i:Nat}
df eD (fd:De->Option Dt):Fg:=fun δ ch=>(fd (lo δ ch)).map fun d=>(.dat d,ch)
theorem aw (h:DL X e fd):GE X e (eD fd):=PE.mono h fun σ H Q ⟨δ,ch,F,ρ,c,ch',en,q,k⟩=>by unfold eD at q;obtain ⟨d,O,q⟩:=mS q;cases q;exact ⟨_,_,F,d,rfl,en.en,O,fun v H' F' st r=>k v F' H' ρ (Adv.of en.gh st) r⟩
df al (ch:CH):T->Option (CV×CH)
 | .leaf d=>some (.dat d,ch)
 | .lst l=>some (.ref ch.length,ch++[.lst (l.map .dat)])
 | .dct l=>some (.ref ch.length,ch++[.dK (l.map fun p=>(p.1,.dat p.2))])
 | _=>none
theorem lU {F:Hp} {ρ:Nat->Addr} {ch':CH} {t:T} (g:Gh K F H ρ ch) (h:al ch t=some (c,ch')) (k:KG K F H ρ ch c ch' Q):KO K F H t Q:=fun v H' F' S st o O=>by
 cases t with
 | leaf d =>cases h;exact k v F' H' ρ (Adv.of g st) o
 | lst l =>cases h;obtain ⟨x,vs,rfl,q,h1,h2⟩:=o;obtain ⟨q1,q2,_⟩:=O x q;refine k _ F' H' _ (Adv.new g st q2 q1 ⟨vs,h1,RelCs.dats h2⟩) ⟨by simp,?_⟩;dsimp only;rw [if_pos rfl]
 | dct l =>
  cases h;obtain ⟨x,vs,rfl,q,h1,h2,h3⟩:=o;obtain ⟨q1,q2,_⟩:=O x q;refine k _ F' H' _ (Adv.new g st q2 q1 ⟨vs,h1,by rw [h2];simp,?_⟩) ⟨by simp,?_⟩
  . have:=RelCs.dats (ρ:=fun i=>if i=ch.length then x else ρ i) (n:=ch.length+1) h3;rw [qc4] at this;rw [qc4];exact this
  . dsimp only;rw [if_pos rfl]
 | dcT l=>cases h
 | obj c ns l=>cases h
 | pin a t=>cases h
df eN (ft:De->Option T):Fg:=fun δ ch=>(ft (lo δ ch)).bind (al ch)
theorem g7 (h:DO X e ft):GE X e (eN ft):=PE.mono h fun σ H Q ⟨δ,ch,F,ρ,c,ch',en,q,k⟩=>by unfold eN at q;obtain ⟨t,O,q⟩:=bS q;exact ⟨_,_,F,t,rfl,en.en,O,lU en.gh q k⟩
df eV (i:Nat):Fg:=fun δ ch=>match δ[i]? with
 | some (some c)=>some (c,ch)
 | _=>none
theorem aS (h:PE X e (jx i)):GE X e (eV i):=PE.mono h fun σ H Q ⟨δ,ch,F,ρ,c,ch',en,O,k⟩=>by
 unfold eV at O;split at O<;>cases O
 rename_i c q;obtain ⟨v,h1,h2⟩:=en.has i _ q;exact ⟨v,h1,k v F H ρ (Adv.refl en.gh) h2⟩
end
df vwO:CO->Option Dt
 | .lst l=>(dats l).map .lst
 | .dK l=>(dats (l.map (·.2))).map (.dct (l.map (·.1)))
 | .wk l=>(dats (l.map (·.2))).map (.dct (l.map (·.1)))
 | _=>none
df vw (ch:CH):CV->Option Dt
 | .dat d=>some d
 | .ref i=>(ch[i]?).bind vwO
 | .fn _ _=>none
section
variable {K:PySem.W.Frag} {F H F' H' F1 H1:Hp} {ρ ρ' ρ1:Nat->Addr} {n:Nat} {δ:Sl} {σ:St} {ch ch' ch1 ch2:CH} {c:CV} {v:V} {Q:VK} {d:Dt}
theorem gt (g:Gh K F H ρ ch) (r:RelC K F ρ ch.length c v) (h:vw ch c=some d):RepB K F H d v:=by
 cases c with
 | dat e=>cases h;exact RepB.of g.fh r
 | fn a F0=>cases h
 | ref i =>
  obtain ⟨hi,rfl⟩:=r;simp only [vw] at h;obtain ⟨o,O,h⟩:=bS h;have ok:=g.ok i o O;cases o with
  | lst l =>obtain ⟨ds,q,rfl⟩:=mS h;obtain ⟨vs,h1,h2⟩:=ok;exact ⟨_,vs,rfl,SqL.of h1,cM q h2⟩
  | dK l =>obtain ⟨ds,q,rfl⟩:=mS h;obtain ⟨vs,h1,h2,h3⟩:=ok;exact ⟨_,vs,rfl,.inl h1,h2,cM q h3⟩
  | wk l =>obtain ⟨ds,q,rfl⟩:=mS h;obtain ⟨o,vs,h1,h2,h3⟩:=ok;exact ⟨_,vs,rfl,.inr ⟨o,h1⟩,h2,cM q h3⟩
  | tup l=>cases h
  | ins c ns l=>cases h
  | dT l=>cases h
  | wt l=>cases h
end
section
variable {X:Cx} {e a b o:Expr} {es:List Expr} {f fa fb fc:Fg} {fd:De->Option Dt} {ft:De->Option T} {pos apos cpos p:Pos} {i:Nat} {σ:St} {H:Hp} {Q:VK} {K:PySem.W.Frag}
df e2 (g:Dt->Dt->Option T) (fa fb:Fg):Fg:=fun δ ch=>(fa δ ch).bind fun p=>(fb δ p.2).bind fun q=>(vw q.2 p.1).bind fun x=>(vw q.2 q.1).bind fun y=>(g x y).bind (al q.2)
theorem Aw (Z:R2D K r g) (h:tG K (e2 g fa fb) σ H Q):tOp r (tG K fa) (tG K fb) σ H Q:=by obtain ⟨δ,ch,F,ρ,c,ch',en,O,k⟩:=h;unfold e2 at O;obtain ⟨p,hp,O⟩:=bS O;obtain ⟨q,hq,O⟩:=bS O;obtain ⟨x,hx,O⟩:=bS O;obtain ⟨y,hy,O⟩:=bS O;obtain ⟨t,ht,O⟩:=bS O;refine ⟨δ,ch,F,ρ,p.1,p.2,en,hp,fun v F1 H1 ρ1 W Y=>⟨δ,p.2,F1,ρ1,q.1,q.2,en.adv W,hq,fun w F2 H2 ρ2 U r2=>?_⟩⟩;exact Z F2 H2 x y v w Q t U.gh.fh (gt U.gh (Y.mono U.old U.ext U.len) hx) (gt U.gh r2 hy) ht (lU U.gh O (k.adv en.gh (W.trans en.gh U)))
theorem BT {q:zj4} (U:OpR X (qk0 q) r) (Y:R2D X.K r g) (W:GE X a fa) (O:GE X b fb):GE X (.BinOp a q b pos) (e2 g fa fb):=PE.mono (Ae U W O) fun _ _ _ h=>Aw Y h
abbrev Ft:=Sl->CH->Option (Bool×CH)
df tGT (K:PySem.W.Frag) (f:Ft):TT:=fun σ H Q=>∃ δ ch F ρ b ch',Ge K δ ch σ F H ρ/\f δ ch=some (b,ch')/\∀ F' H' ρ',Adv K F H ρ ch F' H' ρ' ch'->Q b H'
df GT (X:Cx) (e:Expr) (f:Ft):Prop:=PT X e (tGT X.K f)
df tD (ft:De->Option Bool):Ft:=fun δ ch=>(ft (lo δ ch)).map fun b=>(b,ch)
theorem eX {ft:De->Option Bool} (h:DT X e ft):GT X e (tD ft):=PT.mono h fun σ H Q ⟨δ,ch,F,ρ,b,ch',en,q,k⟩=>by unfold tD at q;obtain ⟨x,O,q⟩:=mS q;cases q;exact ⟨_,_,F,_,rfl,en.en,O,fun H' F' st=>k F' H' ρ (Adv.of en.gh st)⟩
df j9 (f:Fg):Ft:=fun δ ch=>(f δ ch).bind fun p=>match p.1 with
 | .dat (.bl b)=>some (b,p.2)
 | _=>none
theorem yL {f:Fg} {Q:Bool->Hp->Prop} (h:tGT K (j9 f) σ H Q):tG K f σ H fun x H'=>∃ k,x=.bl k/\Q k H':=by
 obtain ⟨δ,ch,F,ρ,b,ch',en,q,k⟩:=h;unfold j9 at q;obtain ⟨p,hp,q⟩:=bS q;obtain ⟨c,ch1⟩:=p;dsimp only at q;split at q<;>cases q
 refine ⟨δ,ch,F,ρ,_,_,en,hp,fun v F' H' ρ' a r=>⟨b,?_,k F' H' ρ' a⟩⟩;have r:Rep K F' (.bl b) v:=r;simp only [Rep] at r;exact r
theorem qm {q:CmpOp} (W:OpR X (qg9 q) r) (Z:R2D X.K r g) (Y:GE X a fa) (U:GE X b fb) (O:qj9 q b=false):GT X (.Compare a [q] [b] pos) (j9 (e2 g fa fb)):=PT.mono (jJ W Y U O) fun _ _ _ h=>Aw Z (yL h)
df lkC {κ:Type} [DecidableEq κ] (l:List (κ×CV)) (k:κ):Option CV:=(l.find? fun p=>decide (p.1=k)).map (·.2)
theorem iC {κ:Type} [DecidableEq κ] {F:Hp} {k:κ}:∀ {l:List (κ×CV)} {kvs:List (κ×V)},kvs.map (·.1)=l.map (·.1)->RelCs K F ρ n (l.map (·.2)) (kvs.map (·.2))→
  match lkC l k with | some c=>∃ v,eJ kvs k=some v/\RelC K F ρ n c v | none=>eJ kvs k=none
 | [],[],_,_=>rfl
 | [],p::kvs,h,_=>by cases h
 | p::l,[],h,_=>by cases h
 | p::l,q::kvs,h,r=>by
  simp only [qa7,qq4] at h;obtain ⟨v,Z,e,W,U⟩:=r;simp only [qa7,qq4] at e;obtain ⟨rfl,rfl⟩:=e;have Y:=iC (k:=k) h.2 U;by_cases hk:p.1=k
  . have O:lkC (p::l) k=some p.2:=by simp [lkC,hk]
    rw [O];exact ⟨q.2,fI (h.1.trans hk),W⟩
  . have O:lkC (p::l) k=lkC l k:=by simp [lkC,hk]
    rw [O,dU (by rw [h.1];exact hk)];exact Y
df ixO (o:CO) (d:Dt):Option CV:=match o with
 | .lst l=>(asI d).bind (atI l)
 | .tup l=>(asI d).bind (atI l)
 | .dK l=>(j8 d).bind (lkC l)
 | .wk l=>(j8 d).bind (lkC l)
 | _=>none
theorem m9 {F:Hp} {d:Dt} (h:asI d=some j) (r:Rep K F d v):v=.int j:=by
 unfold asI at h;split at h<;>cases h
 simp only [Rep] at r;exact r
theorem ka {F:Hp} {d:Dt} {j:Key} (h:j8 d=some j) (r:Rep K F d v):v=kV j:=by unfold j8 at h;split at h<;>cases h<;>(simp only [Rep] at r;exact r)
theorem r6 {F:Hp} {l:List CV} (r:RelCs K F ρ n l vs) (h:atI l j=some c):∃ v,atI vs j=some v/\RelC K F ρ n c v:=by unfold atI at h ⊢;obtain ⟨m,q,h⟩:=bS h;obtain ⟨v,h1,h2⟩:=r.get h;exact ⟨v,by rw [r.length,q];exact h1,h2⟩
df eIx (fa fb:Fg):Fg:=fun δ ch=>(fa δ ch).bind fun p=>(fb δ p.2).bind fun q=>match p.1,q.1 with
 | .ref i,.dat d=>((q.2[i]?).bind fun o=>ixO o d).map fun c=>(c,q.2)
 | .dat x,.dat d=>(gIx x d).bind (al q.2)
 | _,_=>none
theorem Eb {k:Nat} (hr:Room k X.A) (ha:GE X a fa) (hb:GE X b fb) (hs:mF b:=by exact fun _ _=>rfl) (hn:u4 b:=by exact fun _ _=>rfl):GE X (.Subscript a b pos) (eIx fa fb):=
 PE.mono (PE.or (Aj uZ ha hb hs) (mK (jj hr) ha hb hn)) fun σ H Q ⟨δ,ch,F,ρ,c,ch',en,Y,kk⟩=>by
  unfold eIx at Y;obtain ⟨⟨c1,ch1⟩,hp,Y⟩:=bS Y;obtain ⟨⟨c2,ch2⟩,hq,Y⟩:=bS Y;dsimp only at hq Y;split at Y<;>first | (cases Y;done) | skip
  rotate_left
  . rename_i x d hz;obtain ⟨t,ht,Y⟩:=bS Y;left;refine ⟨δ,ch,F,ρ,_,ch1,en,hp,fun v F1 H1 ρ1 W Z=>⟨δ,ch1,F1,ρ1,_,_,en.adv W,hq,fun w F2 H2 U q r2=>?_⟩⟩;exact r_ix F2 H2 x d v w Q t q.gh.fh (gt (c:=.dat x) q.gh (Z.mono q.old q.ext q.len) rfl) (gt (c:=.dat d) q.gh r2 rfl) ht (lU q.gh Y (kk.adv en.gh (W.trans en.gh q)))
  rename_i i d hz;obtain ⟨c',O,Y⟩:=mS Y;cases Y;obtain ⟨o,ho,O⟩:=bS O;cases o with
  | lst l =>obtain ⟨j,hj,O⟩:=bS O;left;refine ⟨δ,ch,F,ρ,_,ch1,en,hp,fun v F1 H1 ρ1 W Z=>⟨δ,ch1,F1,ρ1,_,_,en.adv W,hq,fun w F2 H2 U q r2=>?_⟩⟩;obtain ⟨vs,h1,h2⟩:=q.gh.ok i _ ho;obtain ⟨u,hu,ru⟩:=r6 h2 O;exact .inl ⟨_,vs,j,u,(Z.mono q.old q.ext q.len).2,m9 hj r2,SqL.of h1,hu,kk u F2 H2 U (W.trans en.gh q) ru⟩
  | tup l =>obtain ⟨j,hj,O⟩:=bS O;left;refine ⟨δ,ch,F,ρ,_,ch1,en,hp,fun v F1 H1 ρ1 W Z=>⟨δ,ch1,F1,ρ1,_,_,en.adv W,hq,fun w F2 H2 U q r2=>?_⟩⟩;obtain ⟨vs,h1,h2⟩:=q.gh.ok i _ ho;obtain ⟨u,hu,ru⟩:=r6 h2 O;exact .inr (.inl ⟨_,vs,j,u,(Z.mono q.old q.ext q.len).2,m9 hj r2,SqT.of h1,hu,kk u F2 H2 U (W.trans en.gh q) ru⟩)
  | dK l =>obtain ⟨j,hj,O⟩:=bS O;right;refine ⟨δ,ch,F,ρ,_,ch1,en,hp,fun v F1 H1 ρ1 W Z=>⟨δ,ch1,F1,ρ1,_,_,en.adv W,hq,fun w F2 H2 U q r2=>?_⟩⟩;obtain ⟨kvs,h1,h2,h3⟩:=q.gh.ok i _ ho;have lk:=iC (k:=j) h2 h3;rw [O] at lk;obtain ⟨u,hu,ru⟩:=lk;refine ⟨_,u,(Z.mono q.old q.ext q.len).2,?_,kk u F2 H2 U (W.trans en.gh q) ru⟩;rw [ka hj r2,<- hu];exact DGet.k h1
  | wk l =>obtain ⟨j,hj,O⟩:=bS O;right;refine ⟨δ,ch,F,ρ,_,ch1,en,hp,fun v F1 H1 ρ1 W Z=>⟨δ,ch1,F1,ρ1,_,_,en.adv W,hq,fun w F2 H2 U q r2=>?_⟩⟩;obtain ⟨o,kvs,h1,h2,h3⟩:=q.gh.ok i _ ho;have lk:=iC (k:=j) h2 h3;rw [O] at lk;obtain ⟨u,hu,ru⟩:=lk;refine ⟨_,u,(Z.mono q.old q.ext q.len).2,?_,kk u F2 H2 U (W.trans en.gh q) ru⟩;rw [ka hj r2,<- hu];exact .inl ⟨kvs,j,.inr ⟨o,h1⟩,rfl,rfl⟩
  | ins c ns l=>cases O
  | dT l=>cases O
  | wt l=>cases O
abbrev Fgs:=Sl->CH->Option (List CV×CH)
df tGs (K:PySem.W.Frag) (f:Fgs):TA:=fun σ H Q=>∃ δ ch F ρ cs ch',Ge K δ ch σ F H ρ/\f δ ch=some (cs,ch')/\∀ vs F' H' ρ',Adv K F H ρ ch F' H' ρ' ch'->RelCs K F' ρ' ch'.length cs vs->Q vs H'
df GA (X:Cx) (es:List Expr) (f:Fgs):Prop:=PA X es (tGs X.K f)
df bZ:Fgs:=fun _ ch=>some ([],ch)
df ay (f:Fg) (fs:Fgs):Fgs:=fun δ ch=>(f δ ch).bind fun p=>(fs δ p.2).map fun q=>(p.1::q.1,q.2)
theorem dM:GA X [] bZ:=PA.mono cW fun σ H Q ⟨δ,ch,F,ρ,cs,ch',en,q,k⟩=>by cases q;exact k [] F H ρ (Adv.refl en.gh) rfl
theorem aP {fs:Fgs} (h:GE X e f) (hr:GA X es fs) (hs:qa6 (e::es) X.env=#a::qa6 es X.env:=by rfl):GA X (e::es) (ay f fs):=PA.mono (bJ h hr hs) fun σ H Q ⟨δ,ch,F,ρ,cs,ch',en,O,k⟩=>by unfold ay at O;obtain ⟨p,hp,O⟩:=bS O;obtain ⟨q,hq,O⟩:=mS O;cases O;exact ⟨δ,ch,F,ρ,p.1,p.2,en,hp,fun v F1 H1 ρ1 Y r1=>⟨δ,p.2,F1,ρ1,q.1,q.2,en.adv Y,hq,fun Z F2 H2 W U r2=>k (v::Z) F2 H2 W (Y.trans en.gh U) ⟨v,Z,rfl,r1.mono U.old U.ext U.len,r2⟩⟩⟩
df eL (fs:Fgs):Fg:=fun δ ch=>(fs δ ch).bind fun p=>if p.1.length<=qb2 then some (.ref p.2.length,p.2++[.lst p.1]) else none
theorem na {F:Hp} {o:CO} {a:Addr} (g:Gh K F H ρ ch) (q:H a=none) (O:CoOk K F (upd H a u) ρ ch.length a o):Adv K F H ρ ch F (upd H a u) (fun i=>if i=ch.length then a else ρ i) (ch++[o]):=Adv.new g (Step.made g.fh q) q (g.fh.free q) (O.mono (Same.refl _) (fun i hi=>if_neg (qc0 hi)) (qp3 _) fun _ h=>h)
abbrev Fd:=List CV->CH->Option (CV×CH)
df spG (K:PySem.W.Frag) (n:Nat) (f:Fd):Sp:=fun vs H Q _=>∃ F ρ cs ch c ch',Gh K F H ρ ch/\cs.length=n/\RelCs K F ρ ch.length cs vs/\f cs ch=some (c,ch')/\KG K F H ρ ch c ch' Q
df eC (g:Fd) (fs:Fgs):Fg:=fun δ ch=>(fs δ ch).bind fun p=>g p.1 p.2
theorem iD {k:Nat} {g:Fd} {fs:Fgs} (h:aH sc x=true) (F:OkF X.prog X.w X.K X.mg X.base x k ps (spG X.K n g)) (hr:Room k X.A) (ha:GA X (e::es) fs) (hn:∀ δ ch p,fs δ ch=some p->p.1.length=n) (W:bH X sc:=by rfl)
 (Z:qa6 (e::es) X.env=#a::qa6 es X.env:=by rfl) (O:(qi4 cpos (qa6 es X.env)).any (·.1)=false:=by rfl):GE X (.Call (.Name x p) (e::es) [] cpos) (eC g fs):=
 PE.mono (iZ h F hr ha W Z O) fun σ H Q ⟨δ,ch,F,ρ,c,ch',en,q,k⟩=>by unfold eC at q;obtain ⟨p,hp,q⟩:=bS q;refine ⟨δ,ch,F,ρ,p.1,p.2,en,hp,fun vs F1 H1 ρ1 U Y=>?_⟩;show spG X.K n g (vs++[]) H1 Q E0;rw [qh2];exact ⟨F1,ρ1,p.1,p.2,c,ch',U.gh,hn δ ch p hp,Y,q,k.adv en.gh U⟩
end
inductive Og where
 | nx (δ:Sl) (ch:CH) | rt (c:CV) (ch:CH) | bk (δ:Sl) (ch:CH) | ct (δ:Sl) (ch:CH)
df PostG (K:PySem.W.Frag) (F H:Hp) (ρ:Nat->Addr) (ch:CH) (D:Ends):Og->Prop
 | .nx δ' ch'=>∀ σ' F' H' ρ',Adv K F H ρ ch F' H' ρ' ch'->Ge K δ' ch' σ' F' H' ρ'->D.nx σ' H'
 | .rt c ch'=>∀ v F' H' ρ',Adv K F H ρ ch F' H' ρ' ch'->RelC K F' ρ' ch'.length c v->D.rt v H'
 | .bk δ' ch'=>∀ σ' F' H' ρ',Adv K F H ρ ch F' H' ρ' ch'->Ge K δ' ch' σ' F' H' ρ'->D.bk σ' H'
 | .ct δ' ch'=>∀ σ' F' H' ρ',Adv K F H ρ ch F' H' ρ' ch'->Ge K δ' ch' σ' F' H' ρ'->D.ct σ' H'
abbrev Fs:=Sl->CH->Option Og
df tGS (K:PySem.W.Frag) (g:Fs):TS:=fun D σ H=>∃ δ ch F ρ o,Ge K δ ch σ F H ρ/\g δ ch=some o/\PostG K F H ρ ch D o
df GS1 (X:Cx) (st:Stmt) (g:Fs):Prop:=PS X st (tGS X.K g)
df GS (X:Cx) (ss:List Stmt) (g:Fs):Prop:=PSs X ss (tGS X.K g)
section
variable {K:PySem.W.Frag} {F H F' H' F1 H1:Hp} {ρ ρ' ρ1:Nat->Addr} {ch ch' ch1:CH} {D:Ends} {o:Og}
theorem PostG.adv (k:PostG K F H ρ ch D o) (g:Gh K F H ρ ch) (a:Adv K F H ρ ch F1 H1 ρ1 ch1):PostG K F1 H1 ρ1 ch1 D o:=by
 cases o with
 | nx δ' c'=>exact fun σ' F' H' ρ' b e=>k σ' F' H' ρ' (a.trans g b) e
 | rt c c'=>exact fun v F' H' ρ' b e=>k v F' H' ρ' (a.trans g b) e
 | bk δ' c'=>exact fun σ' F' H' ρ' b e=>k σ' F' H' ρ' (a.trans g b) e
 | ct δ' c'=>exact fun σ' F' H' ρ' b e=>k σ' F' H' ρ' (a.trans g b) e
end
section
variable {X:Cx} {st:Stmt} {rest a b body:List Stmt} {g g1 g2:Fs} {e c o tg iter:Expr} {es:List Expr} {pos apos cpos:Pos} {f fa fe fk:Fg} {tc:Ft} {i:Nat} {K:PySem.W.Frag}
df fR:Fs:=fun δ ch=>some (.nx δ ch)
df az (g1 g2:Fs):Fs:=fun δ ch=>(g1 δ ch).bind fun o=>match o with
 | .nx δ' ch'=>g2 δ' ch'
 | o=>some o
theorem fS:GS X [] fR:=PSs.mono qY fun D σ H ⟨δ,ch,F,ρ,o,en,q,k⟩=>by cases q;exact k σ F H ρ (Adv.refl en.gh) en
theorem aT (h:GS1 X st g):GS X [st] g:=qZ h
theorem aB (h1:GS1 X st g1) (h2:GS X rest g2):GS X (st::rest) (az g1 g2):=PSs.mono (fF h1 h2) fun D σ H ⟨δ,ch,F,ρ,o,en,q,k⟩=>by
 unfold az at q;obtain ⟨U,h1,q⟩:=bS q;refine ⟨δ,ch,F,ρ,U,en,h1,?_⟩;cases U with
 | nx δ' ch'=>exact fun σ' F' H' ρ' a O=>⟨δ',ch',F',ρ',o,O,q,k.adv en.gh a⟩
 | rt c ch'=>cases q;exact k
 | bk δ' ch'=>cases q;exact k
 | ct δ' ch'=>cases q;exact k
df cu (f:Fg):Fs:=fun δ ch=>(f δ ch).map fun p=>.rt p.1 p.2
theorem cY (h:GE X e f):GS1 X (.Return (some e) pos) (cu f):=PS.mono (pQ h) fun D σ H ⟨δ,ch,F,ρ,o,en,q,k⟩=>by unfold cu at q;obtain ⟨p,hp,q⟩:=mS q;cases q;exact ⟨δ,ch,F,ρ,p.1,p.2,en,hp,k⟩
df dN (c:Ft) (g1 g2:Fs):Fs:=fun δ ch=>(c δ ch).bind fun p=>if p.1 then g1 δ p.2 else g2 δ p.2
theorem fT (U:GT X c tc) (h1:GS X a g1) (h2:GS X b g2):GS1 X (.If c a b pos) (dN tc g1 g2):=PS.mono (Aa U h1 h2) fun D σ H ⟨δ,ch,F,ρ,o,en,O,k⟩=>by
 unfold dN at O;obtain ⟨p,hp,O⟩:=bS O;refine ⟨δ,ch,F,ρ,p.1,p.2,en,hp,fun F' H' ρ' a=>?_⟩;split at O
 . rename_i q;rw [if_pos q];exact ⟨δ,p.2,F',ρ',o,en.adv a,O,k.adv en.gh a⟩
 . rename_i q;rw [if_neg q];exact ⟨δ,p.2,F',ρ',o,en.adv a,O,k.adv en.gh a⟩
theorem Ge.put {δ:Sl} {F:Hp} {x:CV} (en:Ge K δ ch σ F H ρ) (r:RelC K F ρ ch.length x v) (i:Nat):Ge K (δ.set i (some x)) ch (σ.set i (some v)) F H ρ:=⟨en.gh,by simp [en.len],fun j y h=>by
 rcases eO h with ⟨rfl,z⟩ | ⟨q,z⟩
 . cases z
   have hi:i<σ.length:=by rw [<- en.len];have:=(gX h).1;simpa using this
   exact ⟨v,by simp [hi],r⟩
 . obtain ⟨w,h1,h2⟩:=en.has j y z;exact ⟨w,by rw [gN q];exact h1,h2⟩⟩
df aQ (i:Nat) (f:Fg):Fs:=fun δ ch=>(f δ ch).map fun p=>.nx (δ.set i (some p.1)) p.2
theorem bO (h:cT sc N i x=true) (Y:gW sc x=true) (W:N.Nodup) (Z:GE X e f) (O:bH X sc:=by rfl) (e2:X.N=N:=by rfl) (hf:X.fn x=true∨X.env.scope.names.lookup x=some .local:=by exact .inl rfl)
 (U:qm7 e (some (.Name x pos')) pos.line X.env=pure false:=by rfl):GS1 X (.Assign [.Name x pos'] e pos) (aQ i f):=PS.mono (mP h Y W Z O e2 hf U) fun D σ H ⟨δ,ch,F,ρ,o,en,q,k⟩=>by
 unfold aQ at q;obtain ⟨p,hp,q⟩:=mS q;cases q;exact ⟨δ,ch,F,ρ,p.1,p.2,en,hp,fun v F' H' ρ' a r=>k _ F' H' ρ' a ((en.adv a).put r i)⟩
df mgS (ts:List Nat) (δ:Sl) (δ1:De):Sl:=δ.mapIdx fun j x=>if j∈ts then (match δ1[j]? with | some (some (.leaf d))=>some (.dat d) | _=>none) else x
theorem Ge.mg {δ:Sl} {F:Hp} {δ1:De} (en:Ge K δ ch σ F H ρ) (Y:Φ.K=K) (W:σ'.length=σ.length) (U:∀ j,j∉ts->σ'[j]?=σ[j]?) (e:En Φ δ1 σ' F H):Ge K (mgS ts δ δ1) ch σ' F H ρ:=⟨en.gh,by simp [mgS,en.len,W],fun j x h=>by
 unfold mgS at h;rw [qr5] at h;obtain ⟨y,Z,h⟩:=mS h;by_cases O:j∈ts
 . rw [if_pos O] at h;split at h<;>cases h
   rename_i d q;obtain ⟨v,h1,h2⟩:=e.leaf q;exact ⟨v,h1,(Y▸h2:Rep K F d v)⟩
 . rw [if_neg O] at h;subst h;obtain ⟨v,h1,h2⟩:=en.has j x Z;exact ⟨v,by rw [U j O];exact h1,h2⟩⟩
df i9 (ts:List Nat) (bb:Dt->De->Option De) (g:Fs):List Dt->Sl->CH->Option Og
 | [],δ,ch=>some (.nx δ ch)
 | d::r,δ,ch=>(bb d (lo δ ch)).bind fun δ1=>(g (mgS ts δ δ1) ch).bind fun o=>match o with
  | .nx q ch2=>i9 ts bb g r q ch2
  | .ct q ch2=>i9 ts bb g r q ch2
  | .bk q ch2=>some (.nx q ch2)
  | .rt c ch2=>some (.rt c ch2)
df jo (fi:De->Option (List Dt)) (ts:List Nat) (bb:Dt->De->Option De) (g:Fs):Fs:=fun δ ch=>(fi (lo δ ch)).bind fun ds=>i9 ts bb g ds δ ch
theorem qo (hp:za0 \4 X.A X.env X.xe) (hc:X.calm=true) (hi:DIF X tg iter fi) (hg:DG X tg ts bb) (hb:GS X body g)
 (hs:∀ x,qg7 iter X.env x=pure x:=by intro _;rfl):GS1 X (.For tg iter body [] pos) (jo fi ts bb g):=PS.mono (pT hp hc hi hg hb hs) fun D σ H ⟨δ,ch,F,ρ,o,en,hg,k⟩=>by
 unfold jo at hg;obtain ⟨ds,hd,hg⟩:=bS hg;rw [mO];refine ⟨_,_,F,ds,rfl,en.en,hd,fun J ok H1 F1 st1 wd ho=>?_⟩;have a1:=Adv.of en.gh st1;have W:=en.adv a1;have k1:=k.adv en.gh a1;refine oB (n:=ds.length) (fun i σ' H'=>∃ δ' ch' F' ρ',Adv X.K F1 H1 ρ ch F' H' ρ' ch'/\Ge X.K δ' ch' σ' F' H' ρ'/\i9 ts bb g (ds.drop i) δ' ch'=some o) ⟨δ,ch,F1,ρ,Adv.refl W.gh,W,by simpa using hg⟩ (fun i σ' H' ⟨δ',ch',F',ρ',a',O,_⟩=>?_) ?_ ?_
 . obtain ⟨p1,p2,_⟩:=wd i H' F' (ho H' (a'.old.trans O.gh.fh)) O.gh.fh a'.old;exact ⟨p1,p2⟩
 . rintro i x σ' H' H'' hi ⟨δ',ch',F',ρ',a',O,q⟩ hy;obtain ⟨_,_,p3⟩:=wd i H' F' (ho H' (a'.old.trans O.gh.fh)) O.gh.fh a'.old;obtain ⟨d,F2,hd',st2,rd⟩:=p3 x H'' hi hy;rw [mX hd'] at q;unfold i9 at q;obtain ⟨δ1,h1,q⟩:=bS q;obtain ⟨o1,h2,q⟩:=bS q;have a2:=Adv.of O.gh st2;have a3:=a'.trans W.gh a2;have en2:=O.adv a2;refine ⟨_,_,F2,d,δ1,rfl,en2.en,rd,h1,fun σ1 l1 q1 e1=>⟨_,ch',F2,ρ',o1,en2.mg rfl l1 q1 e1,h2,?_⟩⟩;cases o1 with
   | nx Z c2=>exact fun σ2 F3 H3 U a4 Y=>⟨Z,c2,F3,U,a3.trans W.gh a4,Y,q⟩
   | ct Z c2=>exact fun σ2 F3 H3 U a4 Y=>⟨Z,c2,F3,U,a3.trans W.gh a4,Y,q⟩
   | bk Z c2=>cases q;exact fun σ2 F3 H3 U a4 Y=>k1 σ2 F3 H3 U (a3.trans W.gh a4) Y
   | rt c c2=>cases q;exact fun v F3 H3 U a4 r=>k1 v F3 H3 U (a3.trans W.gh a4) r
 . rintro σ' H' ⟨δ',ch',F',ρ',a',O,q⟩;rw [zc7] at q;cases q;exact k1 σ' F' H' ρ' a' O
df bA (c:Ft) (g:Fs):Nat->Fs
 | 0,_,_=>none
 | n+1,δ,ch=>(c δ ch).bind fun p=>if p.1 then (g δ p.2).bind fun o=>match o with
  | .nx q ch2=>bA c g n q ch2
  | .ct q ch2=>bA c g n q ch2
  | .bk q ch2=>some (.nx q ch2)
  | .rt c ch2=>some (.rt c ch2) else some (.nx δ p.2)
df fm (fa fe:Fg):Fs:=fun δ ch=>(fa δ ch).bind fun p=>(fe δ p.2).bind fun q=>match p.1 with
 | .ref i=>match p.2[i]?,q.2[i]? with
  | some (.lst _),some (.lst l)=>if l.length<qb2 then some (.nx δ (q.2.set i (.lst (l++[q.1])))) else none
  | _,_=>none
 | _=>none
theorem ja (hx:GE X o fa) (he:GE X e fe)
  (U:qn0 o "append" X.env (eval o X.env)=eval o X.env:=by rfl)
  (Z:((qi4 cpos (qa6 [e] X.env)).all (fun x=>!x.1)&&(zf8 cpos (qu5 [] X.env)).all (fun x=>x.1.isSome)
   && decide ([e].length+([]:List qt2).length+(if ([]:List qt2).isEmpty then 0 else 1)<30))=true:=by rfl)
  (W:(apos.endLine==cpos.line)=true:=by rfl) (hs:qa6 [e] X.env=#a::qa6 [] X.env:=by rfl) (O:(qi4 cpos (qa6 [] X.env)).any (·.1)=false:=by rfl)
  (hsw:qm7 (.Call (.Attribute o "append" apos) [e] [] cpos) none pos.line X.env=pure false:=by rfl) :
  GS1 X (.Expr (.Call (.Attribute o "append" apos) [e] [] cpos) pos) (fm fa fe):=
 PS.mono (mC (rm PySem.F.plainAttrs_list PySem.F.slot_list_append PySem.F.type_list_append gk hx (bJ he cW hs) U Z W hs O) hsw) fun D σ H ⟨δ,ch,F,ρ,og,en,q,k⟩=>by
  unfold fm at q;obtain ⟨⟨c1,ch1⟩,hp,hg1⟩:=bS q;clear q;obtain ⟨⟨c2,ch2⟩,hq,q⟩:=bS hg1;clear hg1;dsimp only at hq q;split at q<;>first | (cases q;done) | skip
  rename_i i;split at q<;>first | (cases q;done) | skip
  rename_i l0 l h0 h1;split at q<;>cases q
  rename_i hz;refine ⟨δ,ch,F,ρ,_,ch1,en,hp,fun v F1 H1 ρ1 a1 r1=>?_⟩;obtain ⟨vs0,q0,_⟩:=a1.gh.ok i _ h0;obtain ⟨hi,rfl⟩:=r1;refine ⟨.inl ⟨rfl,vs0,.inl (.inl q0)⟩,δ,ch1,F1,ρ1,c2,ch2,en.adv a1,hq,fun w F2 H2 ρ2 Y r2=>?_⟩;obtain ⟨vs,q1,q2⟩:=Y.gh.ok i _ h1;rw [Y.ext i hi] at q1;refine ⟨_,vs,w,rfl,rfl,q1,by rw [q2.length];exact hz,?_⟩;have hi2:i<ch2.length:=(gX h1).1;have a3:=Adv.upd (o:=.lst (l++[c2])) (u:=.lst (vs++[w])) (w:=.lst vs) Y.gh hi2 (by rw [Y.ext i hi];exact q1) (fun _ _ z=>nomatch z) ⟨_,ar,q2.append (RelCs.one r2)⟩;rw [Y.ext i hi] at a3;have a:=(a1.trans en.gh Y).trans en.gh a3;exact k σ F2 _ ρ2 a (en.adv a)
df dO {κ:Type} [DecidableEq κ]:List (κ×CV)->κ->CV->List (κ×CV)
 | [],k,c=>[(k,c)]
 | p::l,k,c=>if p.1=k then (p.1,c)::l else p::dO l k c
df yM (o:CO) (d:Dt) (c:CV):Option CO:=match o with
 | .lst l=>(asI d).bind fun j=>(ixN l.length j).map fun m=>.lst (l.set m c)
 | .dK l=>(j8 d).bind fun k=>if l.length<qb2/\(l.map (·.1)).Nodup then some (.dK (dO l k c)) else none
 | _=>none
theorem kd {κ:Type} [DecidableEq κ] {F:Hp} {k:κ} {c:CV} (r:RelC K F ρ n c v):∀ {l:List (κ×CV)} {kvs:List (κ×V)},(l.map (·.1)).Nodup->kvs.map (·.1)=l.map (·.1)->RelCs K F ρ n (l.map (·.2)) (kvs.map (·.2))→
  (dj kvs k v).map (·.1)=(dO l k c).map (·.1)/\RelCs K F ρ n ((dO l k c).map (·.2)) ((dj kvs k v).map (·.2))
 | [],[],_,_,_=>⟨rfl,⟨v,[],rfl,r,rfl⟩⟩
 | [],q::kvs,_,h,_=>by cases h
 | p::l,[],_,h,_=>by cases h
 | p::l,q::kvs,nd,h,rs=>by
  simp only [qa7,qq4] at h;obtain ⟨h1,h2⟩:=h;obtain ⟨w,ws,e,r1,r2⟩:=rs;simp only [qa7,qq4] at e;obtain ⟨rfl,rfl⟩:=e;have U:=qk4.mp nd;by_cases hk:p.1=k
  . have W:q.1=k:=h1.trans hk
    have O:∀ x∈kvs,¬ x.1=k:=fun x hx e=>U.1 (by have:x.1∈kvs.map (·.1):=qj7 hx;rw [h2] at this;rw [e,<- hk] at this;exact this)
    have e2:dj (q::kvs) k v=(q.1,v)::kvs:=by
     unfold dj;rw [if_pos (by simp [W])];simp only [qa7,if_pos W,qq4,true_and];have:∀ x∈kvs,(if x.1=k then (x.1,v) else x)=id x:=fun x hx=>if_neg (O x hx)
     rw [List.map_congr_left this,List.map_id]
    have Z:dO (p::l) k c=(p.1,c)::l:=by simp only [dO,if_pos hk]
    rw [Z,e2];exact ⟨by simp [h1,h2],⟨v,_,rfl,r,r2⟩⟩
  . have W:¬ q.1=k:=fun z=>hk (h1.symm.trans z)
    have e2:dj (q::kvs) k v=q::dj kvs k v:=by
     unfold dj;by_cases Y:(kvs.any fun kv=>decide (kv.1=k))=true
     . rw [if_pos Y,if_pos (by simp only [qi9,Y,ze8])];simp only [qa7,if_neg W]
     . rw [if_neg Y,if_neg (by simp only [qi9,decide_eq_false W,qw4];exact Y)];rfl
    have Z:dO (p::l) k c=p::dO l k c:=by simp only [dO,if_neg hk]
    obtain ⟨i1,i2⟩:=kd (k:=k) r U.2 h2 r2;rw [Z,e2];exact ⟨by simp [h1,i1],⟨q.2,_,rfl,r1,i2⟩⟩
df ke (fa fk fe:Fg):Fs:=fun δ ch=>(fe δ ch).bind fun p=>(fa δ p.2).bind fun q=>(fk δ q.2).bind fun r=>match q.1,r.1 with
 | .ref i,.dat d=>((r.2[i]?).bind fun o=>yM o d p.1).map fun o'=>.nx δ (r.2.set i o')
 | _,_=>none
theorem vX {k:Nat} {ik:Expr} (hr:Room k X.A) (hx:GE X o fa) (hk:GE X ik fk) (he:GE X e fe) (hs:qm7 e (some (.Subscript o ik pos')) pos.line X.env=pure false:=by rfl)
 (hs2:zh5 [.Subscript o ik pos'] e pos.line X.env=pure false:=by rfl) (hw:zh6 [.Subscript o ik pos'] e X.env=pure none:=by rfl)
 (h1:(qj0 [.Subscript o ik pos'] X.env).map (·.2)=[ze0 (.Subscript o ik pos') X.env]:=by rfl)
 (ha:∀ v,ze0 (.Subscript o ik pos') X.env v=(do
 let ov <- zb2 [v] (eval o X.env);let iv <- zb2 [v,ov] (eval ik X.env)
 standAt pos'
 zb2 [v,ov,iv] (setItem ov iv v)
 release [v,ov,iv] []):=by intro _;rfl):GS1 X (.Assign [.Subscript o ik pos'] e pos) (ke fa fk fe):=
 PS.mono (PS.or (uQ he (Bc hx hk u0 ha) hs2 hw h1) (rz (jj hr) hx hk he hs)) fun D σ H ⟨δ,ch,F,ρ,og,en,W,kk⟩=>by
  unfold ke at W;obtain ⟨⟨c1,ch1⟩,hp,hg1⟩:=bS W;clear W;obtain ⟨⟨c2,ch2⟩,hq,hg2⟩:=bS hg1;clear hg1;obtain ⟨⟨c3,ch3⟩,hw,W⟩:=bS hg2;clear hg2;dsimp only at hq hw W;split at W<;>first | (cases W;done) | skip
  rename_i i d;obtain ⟨o',q,W⟩:=mS W;cases W;obtain ⟨o0,ho,q⟩:=bS q;cases o0 with
  | lst l =>obtain ⟨j,hj,q⟩:=bS q;obtain ⟨m,hm,rfl⟩:=mS q;left;refine ⟨δ,ch,F,ρ,_,ch1,en,hp,fun v F1 H1 ρ1 a1 r1=>⟨δ,ch1,F1,ρ1,_,ch2,en.adv a1,hq,fun x F2 H2 ρ2 U r2=>⟨δ,ch2,F2,ρ2,_,ch3,(en.adv a1).adv U,hw,fun y F3 H3 Y O r3=>?_⟩⟩⟩;obtain ⟨vs,q1,q2⟩:=O.gh.ok i _ ho;have hi3:i<ch3.length:=(gX ho).1;have a12:=a1.trans en.gh U;have Z:=a12.trans en.gh O;have r1':=(r1.mono U.old U.ext U.len).mono O.old O.ext O.len;refine ⟨_,vs,j,m,(r2.mono O.old O.ext O.len).2,m9 hj r3,q1,by rw [q2.length];exact hm,?_⟩;have a4:=Adv.upd (o:=.lst (l.set m c1)) (u:=.lst (vs.set m v)) O.gh hi3 q1 (fun _ _ z=>nomatch z) ⟨_,ar,q2.set r1' m⟩;have a:=Z.trans en.gh a4;exact kk σ F3 _ Y a (en.adv a)
  | dK l =>
   obtain ⟨j,hj,q⟩:=bS q;split at q<;>first | (cases q;done) | skip
   rename_i hz;cases q;right;refine ⟨δ,ch,F,ρ,_,ch1,en,hp,fun v F1 H1 ρ1 a1 r1=>⟨δ,ch1,F1,ρ1,_,ch2,en.adv a1,hq,fun x F2 H2 ρ2 U r2=>⟨δ,ch2,F2,ρ2,_,ch3,(en.adv a1).adv U,hw,fun y F3 H3 Y O r3=>?_⟩⟩⟩;obtain ⟨kvs,q1,q2,q3⟩:=O.gh.ok i _ ho;have hi3:i<ch3.length:=(gX ho).1;have a12:=a1.trans en.gh U;have Z:=a12.trans en.gh O;have r1':=(r1.mono U.old U.ext U.len).mono O.old O.ext O.len;obtain ⟨z1,z2⟩:=kd (k:=j) r1' hz.2 q2 q3
   have hlen:kvs.length=l.length:=by have:=congrArg qx8 q2;simpa using this
   refine ⟨_,upd H3 (Y i) (.dK (dj kvs j v)),(r2.mono O.old O.ext O.len).2,?_,?_⟩
   . rw [ka hj r3];exact DPut.k q1 (by rw [hlen];exact hz.1)
   . have a4:=Adv.upd (o:=.dK (dO l j c1)) (u:=.dK (dj kvs j v)) O.gh hi3 q1 (fun _ _ z=>nomatch z) ⟨_,ar,z1,z2⟩;have a:=Z.trans en.gh a4;exact kk σ F3 _ Y a (en.adv a)
  | tup l=>cases q
  | ins c ns l=>cases q
  | wk l=>cases q
  | dT l=>cases q
  | wt l=>cases q
end
df fC (m:Nat) (g:Fs):Fd:=fun cs ch=>match g (cs.map some++qc6 (m-cs.length) none) ch with
 | some (.rt c ch')=>some (c,ch')
 | some (.nx _ ch')=>some (.dat .non,ch')
 | _=>none
theorem d9 {F:Hp} {cs:List CV} (g:Gh K F H ρ ch) (r:RelCs K F ρ ch.length cs vs):Ge K (cs.map some++qc6 (N.length-cs.length) none) ch (start N vs) F H ρ:=by
 have W:=r.length;refine ⟨g,by simp [start,W],fun i c h=>?_⟩;by_cases hi:i<cs.length
 . rw [qa5 (by simpa using hi),qb0] at h;have q:cs[i]?=some cs[i]:=by simp [hi]
   rw [q] at h;cases h;obtain ⟨v,U,O⟩:=r.get q;refine ⟨v,?_,O⟩;unfold start;rw [qa5 (by simp;oo),qb0,U];rfl
 . rw [qc5 (by simpa using hi)] at h;rw [ql2] at h;split at h<;>cases h
section
variable {P:qc9} {w:World} {K:PySem.W.Frag} {mg:Str->Option Value} {base:Heap}
theorem vY {q:Str} {k:Nat} {g:Fs} {f:Addr} {fd:qq8} (D:Fun K x q st f fd) (S:FnScope N ps (ac st)) (hn:ps.length=n)
 (O:∀ (cdv:Value) (A:qe0) (outer:List Env) (s:qa4) (H:Hp) (E:XK),Room k (A.deeper (qz3 q (ac st) s.heap.objs.size f cdv))->GS (jy CX0 P w K mg base N q (ac st) f cdv A outer s H E).nox (aI st) g) :
  FnOk P w K mg base CX0 (k+1) f fd ps (spG K n (fC N.length g)):=by
 refine D.ok S (fun vs H Q E h=>?_) (fun cdv A outer s H vs Q E Z h=>?_)
 . obtain ⟨F,ρ,cs,ch,c,ch',_,W,r,_⟩:=h;rw [r.length,W,hn]
 . obtain ⟨F,ρ,cs,ch,c,ch',Y,W,r,U,kq⟩:=h;refine ⟨_,O cdv A outer s H E Z,?_⟩;unfold fC at U;split at U
   . rename_i c1 ch1 q;cases U;exact ⟨_,ch,F,ρ,_,d9 Y r,q,fun v F' H' ρ' a z=>kq v F' H' ρ' a z⟩
   . rename_i δ1 ch1 q;cases U;exact ⟨_,ch,F,ρ,_,d9 Y r,q,fun σ' F' H' ρ' a z=>kq .non F' H' ρ' a (iz (K:=K) (F:=F'))⟩
   . cases U
end
section
variable {X:Cx} {e a b o:Expr} {es rest:List Expr} {f fa fb fe:Fg} {fs:Fgs} {ta tb:Ft} {pos apos cpos p:Pos} {sc:Scope} {x:Str} {K:PySem.W.Frag}
df GW (X:Cx) (e:Expr) (f:Ft):Prop:=PW X e (tGT X.K f)
df jp (f:Ft):Ft:=fun δ ch=>(f δ ch).map fun p=>(!p.1,p.2)
df kf (f g:Ft):Ft:=fun δ ch=>(f δ ch).bind fun p=>if p.1 then g δ p.2 else some (false,p.2)
df vZ (f g:Ft):Ft:=fun δ ch=>(f δ ch).bind fun p=>if p.1 then some (true,p.2) else g δ p.2
df fU (f:Fg):Ft:=fun δ ch=>(f δ ch).bind fun p=>(vw p.2 p.1).bind fun d=>(vv d).map fun b=>(b,p.2)
theorem iE (W:GE X a fa) (Z:∀ q,isTrue a X.env q=(do let v <- q;standAt a.pos;zb2 [v] (truthy v))):GT X a (fU fa):=PT.mono (n5 W Z) fun σ H Q ⟨δ,ch,F,ρ,b,ch',en,O,k⟩=>by unfold fU at O;obtain ⟨p,hp,O⟩:=bS O;obtain ⟨d,U,O⟩:=bS O;obtain ⟨c,Y,O⟩:=mS O;cases O;exact ⟨δ,ch,F,ρ,p.1,_,en,hp,fun v F' H' ρ' a r=>⟨_,rM a.gh.fh (gt a.gh r U) Y,k F' H' ρ' a⟩⟩
theorem v4 (h:GT X a ta):GT X (.UnaryOp .Not a pos) (jp ta):=PT.mono (uO h) fun σ H Q ⟨δ,ch,F,ρ,b,ch',en,q,k⟩=>by unfold jp at q;obtain ⟨p,hp,q⟩:=mS q;cases q;exact ⟨δ,ch,F,ρ,p.1,p.2,en,hp,fun F' H' ρ' a=>k F' H' ρ' a⟩
theorem yN (h:GT X a ta):GW X (.BoolOp .And [a] pos) ta:=qX h
theorem BU (h:GT X a ta):GW X (.BoolOp .Or [a] pos) ta:=uM h
theorem BV (h:GT X a ta) (h':GW X (.BoolOp .And (b::rest) pos) tb):GW X (.BoolOp .And (a::b::rest) pos) (kf ta tb):=PW.mono (uN h h') fun σ H Q ⟨δ,ch,F,ρ,t,ch',en,O,k⟩=>by
 unfold kf at O;obtain ⟨p,hp,O⟩:=bS O;refine ⟨δ,ch,F,ρ,p.1,p.2,en,hp,fun F' H' ρ' a=>?_⟩;split at O
 . rename_i q;rw [if_pos q];exact ⟨δ,p.2,F',ρ',t,ch',en.adv a,O,fun Y H2 U W=>k Y H2 U (a.trans en.gh W)⟩
 . rename_i q;rw [if_neg q];cases O;exact k F' H' ρ' a
theorem Ec (h:GT X a ta) (h':GW X (.BoolOp .Or (b::rest) pos) tb):GW X (.BoolOp .Or (a::b::rest) pos) (vZ ta tb):=PW.mono (z0 h h') fun σ H Q ⟨δ,ch,F,ρ,t,ch',en,O,k⟩=>by
 unfold vZ at O;obtain ⟨p,hp,O⟩:=bS O;refine ⟨δ,ch,F,ρ,p.1,p.2,en,hp,fun F' H' ρ' a=>?_⟩;split at O
 . rename_i q;rw [if_pos q];cases O;exact k F' H' ρ' a
 . rename_i q;rw [if_neg q];exact ⟨δ,p.2,F',ρ',t,ch',en.adv a,O,fun Y H2 U W=>k Y H2 U (a.trans en.gh W)⟩
theorem GW.t (h:GW X a ta):GT X a ta:=h.pt
df vws (ch:CH):List CV->Option (List Dt)
 | []=>some []
 | c::l=>(vw ch c).bind fun d=>(vws ch l).map (d::·)
theorem jb {F:Hp} (g:Gh K F H ρ ch):∀ {l:List CV} {ds:List Dt} {vs:List V},RelCs K F ρ ch.length l vs->vws ch l=some ds->RepBs K F H ds vs
 | [],ds,vs,r,h=>by cases h;exact r
 | c::l,ds,vs,r,h=>by simp only [vws] at h;obtain ⟨d,q,h⟩:=bS h;obtain ⟨es,Y,rfl⟩:=mS h;obtain ⟨v,U,e,W,O⟩:=r;exact ⟨v,U,e,gt g W q,jb g O Y⟩
df eB (g:List Dt->Option T) (fs:Fgs):Fg:=fun δ ch=>(fs δ ch).bind fun p=>(vws p.2 p.1).bind fun ds=>(g ds).bind (al p.2)
theorem Ed {r:List V->Hp->VK->Prop} {g:List Dt->Option T} (Y:CRD K r g) (h:tG K (eB g fs) σ H Q):tCB r (tGs K fs) σ H Q:=by obtain ⟨δ,ch,F,ρ,c,ch',en,q,k⟩:=h;unfold eB at q;obtain ⟨p,hp,q⟩:=bS q;obtain ⟨ds,U,q⟩:=bS q;obtain ⟨t,Z,q⟩:=bS q;exact ⟨δ,ch,F,ρ,p.1,p.2,en,hp,fun vs F1 H1 ρ1 O W=>Y F1 H1 ds vs Q t O.gh.fh (jb O.gh W U) Z (lU O.gh q (k.adv en.gh O))⟩
theorem v6 {id:String} {r:List V->Hp->VK->Prop} {gg:List Dt->Option T} (h:aH sc x=true) (U:bX X (.builtin id) r) (hr:CRD X.K r gg) (Y:X.mg x=none) (hv:qd6 x=some (.builtin id)) (ha:GA X (e::es) fs) (Z:bH X sc:=by rfl)
  (W:qa6 (e::es) X.env=#a::qa6 es X.env:=by rfl) (O:(qi4 pos (qa6 es X.env)).any (·.1)=false:=by rfl):GE X #b (eB gg fs):=
 PE.mono (gm h U Y hv ha Z W O) fun σ H Q q=>Ed hr q
df eCV (ff:List Dt->Option T) (fs:Fgs):Fg:=fun δ ch=>(fs δ ch).bind fun p=>(vws p.2 p.1).bind fun ds=>(ff ds).bind fun u=>(rZ u).bind (al p.2)
theorem r8:∀ {l:List CV} {ds:List Dt},vws ch l=some ds->ds.length=l.length
 | [],ds,h=>by cases h;rfl
 | c::l,ds,h=>by simp only [vws] at h;obtain ⟨d,O,h⟩:=bS h;obtain ⟨es,q,rfl⟩:=mS h;simp [r8 q]
theorem oT {k:Nat} (h:aH sc x=true) (F:OkF X.prog X.w X.K X.mg X.base x k ps (spD X.K n ff)) (hr:Room k X.A) (ha:GA X (e::es) fs) (hn:∀ δ ch p,fs δ ch=some p->p.1.length=n) (Y:bH X sc:=by rfl)
 (he:qa6 (e::es) X.env=#a::qa6 es X.env:=by rfl) (U:(qi4 pos (qa6 es X.env)).any (·.1)=false:=by rfl):GE X #b (eCV ff fs):=
 PE.mono (iZ h F hr ha Y he U) fun σ H Q ⟨δ,ch,Fz,ρ,c,ch',en,q,k⟩=>by unfold eCV at q;obtain ⟨p,hp,q⟩:=bS q;obtain ⟨ds,W,q⟩:=bS q;obtain ⟨u,Z,q⟩:=bS q;obtain ⟨t,ht,q⟩:=bS q;refine ⟨δ,ch,Fz,ρ,p.1,p.2,en,hp,fun vs F1 H1 ρ1 O r1=>?_⟩;show spD X.K n ff (vs++[]) H1 Q E0;rw [qh2];exact ⟨H1,ds,u,Same.refl _,(r8 W).trans (hn δ ch p hp),(jb O.gh r1 W).reps O.gh.fh,Z,vV O.gh.fh ht (lU O.gh q (k.adv en.gh O))⟩
df eIf (c:Ft) (f g:Fg):Fg:=fun δ ch=>(c δ ch).bind fun p=>if p.1 then f δ p.2 else g δ p.2
theorem Ee {c:Expr} {tc:Ft} (U:GT X c tc) (h:GE X a fa) (h':GE X b fb):GE X (.IfExp c a b pos) (eIf tc fa fb):=PE.mono (nX U h h') fun σ H Q ⟨δ,ch,F,ρ,x,ch',en,O,k⟩=>by
 unfold eIf at O;obtain ⟨p,hp,O⟩:=bS O;refine ⟨δ,ch,F,ρ,p.1,p.2,en,hp,fun F' H' ρ' a=>?_⟩;split at O
 . rename_i q;rw [if_pos q];exact ⟨δ,p.2,F',ρ',x,ch',en.adv a,O,k.adv en.gh a⟩
 . rename_i q;rw [if_neg q];exact ⟨δ,p.2,F',ρ',x,ch',en.adv a,O,k.adv en.gh a⟩
theorem g8:∀ δ ch p,bZ δ ch=some p->p.1.length=0:=fun δ ch p h=>by cases h;rfl
theorem y9 {f:Fg} {fs:Fgs} (h:∀ δ ch p,fs δ ch=some p->p.1.length=n):∀ δ ch p,ay f fs δ ch=some p->p.1.length=n+1:=fun δ ch p hp=>by unfold ay at hp;obtain ⟨a,O,hp⟩:=bS hp;obtain ⟨b,q,hp⟩:=mS hp;cases hp;simp [h _ _ _ q]
end
section
variable {P:qc9} {w:World} {K:PySem.W.Frag} {mg:Str->Option Value} {base:Heap}
theorem ng {k:Nat} {g:Fs} (D:DefF K mg x st ps) (S:FnScope N ps (ac st)) (O:ps.length=n)
 (q:∀ (f:Addr) (cdv:Value) (A:qe0) (outer:List Env) (s:qa4) (H:Hp) (E:XK),Room k (A.deeper (qz3 x (ac st) s.heap.objs.size f cdv))->GS (jy CX0 P w K mg base N x (ac st) f cdv A outer s H E).nox (aI st) g) :
  OkF P w K mg base x (k+1) ps (spG K n (fC N.length g)):=by
 obtain ⟨f,fd,h1,h2,h3,U⟩:=D.ex;exact ⟨f,fd,h1,h2,h3,vY U S O (q f)⟩
end
section
variable {X:Cx} {e a b c o:Expr} {es rest:List Expr} {f fa fb fe:Fg} {fs:Fgs} {ta tb tc:Ft} {pos apos cpos p:Pos} {sc:Scope} {x:Str} {K:PySem.W.Frag} {g:Fs} {body:List Stmt}
theorem kg (n:Nat) (hp:za0 \4 X.A X.env X.xe) (hc:GT X c tc) (hb:GS X body g):GS1 X (.While c body [] pos) (bA tc g n):=PS.mono (nY hp hc hb) fun D σ H ⟨δ,ch,F,ρ,o,en,hg,k⟩=>by
 refine ⟨fun m σ' H'=>∃ δ' ch' F' ρ',Adv X.K F H ρ ch F' H' ρ' ch'/\Ge X.K δ' ch' σ' F' H' ρ'/\bA tc g m δ' ch'=some o,⟨n,δ,ch,F,ρ,Adv.refl en.gh,en,hg⟩,?_⟩;rintro m σ' H' ⟨δ',ch',F',ρ',a',en',O⟩;cases m with
 | zero=>cases O
 | succ m =>
  unfold bA at O;obtain ⟨p,hp',Y⟩:=bS O;clear O;refine ⟨δ',ch',F',ρ',p.1,p.2,en',hp',fun F1 H1 ρ1 a1=>?_⟩;have a2:=a'.trans en.gh a1;have en1:=en'.adv a1;dsimp only;split at Y
  . rename_i q;rw [if_pos q];obtain ⟨o1,h2,O⟩:=bS Y;refine ⟨fun σ' H'=>∃ δ' ch' F' ρ',Adv X.K F H ρ ch F' H' ρ' ch'/\Ge X.K δ' ch' σ' F' H' ρ'/\bA tc g m δ' ch'=some o,fun Z H2 z=>⟨m,qm6 m,z⟩,δ',p.2,F1,ρ1,o1,en1,h2,?_⟩;cases o1 with
    | nx δ2 c2=>exact fun Z F3 H3 U a4 W=>⟨δ2,c2,F3,U,a2.trans en.gh a4,W,O⟩
    | ct δ2 c2=>exact fun Z F3 H3 U a4 W=>⟨δ2,c2,F3,U,a2.trans en.gh a4,W,O⟩
    | bk δ2 c2=>cases O;exact fun Z F3 H3 U a4 W=>k Z F3 H3 U (a2.trans en.gh a4) W
    | rt c c2=>cases O;exact fun v F3 H3 U a4 r=>k v F3 H3 U (a2.trans en.gh a4) r
  . rename_i q;rw [if_neg q];cases Y;exact k σ' F1 H1 ρ1 a2 en1
end
section
variable {prog:qc9} {w:World} {A:qe0} {E:Value->qa4->Prop} {s:qa4} {a:Addr} {its:Array Value} {c:Nat} {sl:Array (Option Value)}
end
section
variable {prog:qc9} {w:World} {A:qe0} {E:Value->qa4->Prop} {s:qa4} {a:Addr} {its:Array Value} {c:Nat} {sl:Array (Option Value)}
end
section
variable {X:Cx} {e o:Expr} {sc:Scope} {p pos:Pos} {fs:De->Option (List Dt)}
end
section
variable {prog:qc9} {w:World} {A:qe0}
variable {E:Value->qa4->Prop} {s:qa4} {a:Addr} {its:Array Value} {c:Nat} {sl:Array (Option Value)}
end
section
variable {X:Cx}
end
section
variable {K:PySem.W.Frag} {F H:Hp} {ρ:Nat->Addr} {ch:CH}
end
section
variable {X:Cx} {e a b o:Expr} {es:List Expr} {f fa fb fc fe:Fg} {fs:Fgs} {pos apos cpos p:Pos} {sc:Scope} {x:Str} {K:PySem.W.Frag}
end
section
variable {X:Cx} {e a b o value:Expr} {es:List Expr} {f fa fb fc fe fk:Fg} {fs:Fgs} {pos apos cpos tpos p:Pos} {sc:Scope} {x:Str} {K:PySem.W.Frag}
end
df gC (src:List (Option Nat)) (δ:Sl):Sl:=src.map fun o=>o.bind fun j=>(δ[j]?).join
section
variable {K:PySem.W.Frag} {F H F' H' F1 H1:Hp} {ρ ρ' ρ1:Nat->Addr} {ch ch' ch1:CH} {src:List (Option Nat)} {δ:Sl} {σ:St}
theorem BW {k:Nat} (h:(gC src δ)[k]?=some (some c)):∃ j,src[k]?=some (some j)/\δ[j]?=some (some c):=by
 unfold gC at h;rw [qb0] at h;cases e:src[k]? with
 | none=>rw [e] at h;cases h
 | some o =>
  rw [e] at h;cases o with
  | none=>cases h
  | some j =>
   simp only [qd2,qa0,qi3] at h;refine ⟨j,rfl,?_⟩;cases q:δ[j]? with
   | none=>rw [q] at h;cases h
   | some u=>rw [q] at h;simp only [qp4] at h;rw [h]
theorem Ge.comp (en:Ge K δ ch σ F H ρ):Ge K (gC src δ) ch (stC src σ) F H ρ:=⟨en.gh,by simp [gC,stC],fun k c h=>by obtain ⟨j,h1,h2⟩:=BW h;obtain ⟨v,h3,q⟩:=en.has j c h2;exact ⟨v,rP h1 h3,q⟩⟩
structure Bd (K:PySem.W.Frag) (F1 H1:Hp) (ρ1:Nat->Addr) (ch1:CH) (D:Addr) (F H:Hp) (ρ:Nat->Addr) (ch:CH) (done:List CV) (ys:List V):Prop where
 adv:Adv K F1 H1 ρ1 ch1 F H ρ ch
 hD:H D=some (.lst ys)
 fD:F D=none
 nD:∀ i,i<ch.length->ρ i≠D
 rel:RelCs K F ρ ch.length done ys
variable {D:Addr} {done:List CV} {ys:List V}
theorem Bd.step (g1:Gh K F1 H1 ρ1 ch1) (b:Bd K F1 H1 ρ1 ch1 D F H ρ ch done ys) (a:Adv K F H ρ ch F' H' ρ' ch'):Bd K F1 H1 ρ1 ch1 D F' H' ρ' ch' done ys where
 adv:=b.adv.trans g1 a
 hD:=a.prot D _ b.hD fun i hi=>b.nD i hi
 fD:=by
  cases q:F' D with
  | none=>rfl
  | some o =>
   rcases a.nw D o q with z | z | ⟨xs,z⟩
   . rw [b.fD] at z;cases z
   . rw [b.hD] at z;cases z
   . subst z;have O:=a.gh.fh _ _ q;rw [a.prot D _ b.hD fun i hi=>b.nD i hi] at O;cases O
 nD:=fun i hi e=>by
  by_cases h:i<ch.length
  . rw [a.ext i h] at e;exact b.nD i h e
  . have:=a.fr i (qj1.mp h) hi;rw [e,b.hD] at this;cases this
 rel:=b.rel.mono a.old a.ext a.len
theorem Bd.more (q:H1 D=none) (b:Bd K F1 H1 ρ1 ch1 D F H ρ ch done ys) (r:RelC K F ρ ch.length c v):Bd K F1 H1 ρ1 ch1 D F (upd H D (.lst (ys++[v]))) ρ ch (done++[c]) (ys++[v]) where
 adv:=⟨⟨fun x o e=>by
     have:x≠D:=fun z=>by rw [z,b.fD] at e;cases e
     rw [ap this];exact b.adv.gh.fh x o e,b.adv.gh.inj,b.adv.gh.out,fun i o h=>(b.adv.gh.ok i o h).mono (Same.refl _) (fun _ _=>rfl) (nL _) fun u O=>by
     rw [ap (b.nD i (gX h).1)];exact O⟩,b.adv.len,b.adv.ext,b.adv.fr,fun x o h1 h2=>by
     have:x≠D:=fun z=>by rw [z,q] at h1;cases h1
     rw [ap this];exact b.adv.prot x o h1 h2,b.adv.old,b.adv.nw,fun x o u h=>by
     have:x≠D:=fun z=>by rw [z,q] at h;cases h
     rw [ap this];exact b.adv.fz x o u h⟩
 hD:=ar
 fD:=b.fD
 nD:=b.nD
 rel:=b.rel.append (RelCs.one r)
theorem Bd.fin (U:H1 D=none) (b:Bd K F1 H1 ρ1 ch1 D F H ρ ch done ys):Adv K F1 H1 ρ1 ch1 F H (fun i=>if i=ch.length then D else ρ i) (ch++[.lst done]):=by
 have lt:∀ {i:Nat},i<ch.length->(if i=ch.length then D else ρ i)=ρ i:=fun {i} hi=>if_neg (qc0 hi)
 have g:=b.adv.gh;refine ⟨⟨g.fh,fun i j hi O e=>?_,fun i hi=>?_,fun i x q=>?_⟩,by have:=b.adv.len;simp;oo,fun i hi=>?_,fun i h1 h2=>?_,b.adv.prot,b.adv.old,b.adv.nw,b.adv.fz⟩
 . simp only [qa8,qe7,qg3] at hi O;by_cases h1:i=ch.length<;>by_cases h2:j=ch.length
   . rw [h1,h2]
   . rw [if_pos h1,if_neg h2] at e;exact absurd e.symm (b.nD j \3)
   . rw [if_neg h1,if_pos h2] at e;exact absurd e (b.nD i \3)
   . rw [if_neg h1,if_neg h2] at e;exact g.inj i j \3 \3 e
 . simp only [qa8,qe7,qg3] at hi;by_cases h1:i=ch.length
   . rw [if_pos h1];exact .inl b.fD
   . rw [if_neg h1];exact g.out i \3
 . simp only [qa8,qe7,qg3];by_cases h1:i<ch.length
   . rw [qa5 h1] at q;rw [lt h1];exact (g.ok i x q).mono (Same.refl _) (fun j O=>lt O) (qp3 _) fun u W=>W
   . rw [gR (qj1.mp h1)] at q
     have h2:i=ch.length:=by have:=(gX q).1;simp at this;oo
     subst h2;simp at q;subst q;rw [if_pos rfl];exact ⟨ys,b.hD,b.rel.mono (Same.refl _) (fun j O=>lt O) (qp3 _)⟩
 . rw [lt (qb7 hi b.adv.len)];exact b.adv.ext i hi
 . simp only [qa8,qe7,qg3] at h2;by_cases h3:i=ch.length
   . rw [if_pos h3];exact U
   . rw [if_neg h3];exact b.adv.fr i h1 \3
end
section
variable {X:Cx} {elt tg iter:Expr} {ifs:List Expr} {scope:Scope} {pos:Pos} {M:List Str} {src:List (Option Nat)} {fi:De->Option (List Dt)} {ft:De->Option Bool} {fe:Fg}
end
df kh:Key->Dt
 | .inl i=>.int i
 | .inr x=>.str x
theorem yO {F:Hp} (k:Key):Rep K F (kh k) (kV k):=by
 cases k with
 | inl i=>exact gn
 | inr x=>exact iy
section
variable {K:PySem.W.Frag} {F H F' H' F1 H1:Hp} {ρ ρ' ρ1:Nat->Addr} {ch ch' ch1:CH} {i:Nat} {l:List (Key×CV)} {kvs:List (Key×V)} {ob:Obj}
end
section
variable {X:Cx} {tg d:Expr} {body:List Stmt} {fd:Fg} {g:Fs} {pos:Pos}
end
section
variable {X:Cx} {pos:Pos} {σ:St} {δ:Sl}
end
section
variable {X:Cx} {o:Expr} {fa:Fg} {pos apos cpos:Pos}
end
df yP:List Dt->Option T
 | [.int i,.int j]=>some (.leaf (.int (if j<i then j else i)))
 | _=>none
df rMin:List V->Hp->VK->Prop:=fun xs H Q=>∃ i j,xs=[.int i,.int j]/\Q (.int (if j<i then j else i)) H
theorem ub (q:X.calm=true):bX X (.builtin "min") rMin:=tJ q
theorem Ef:CRD K rMin yP:=by
 intro F H ds vs Q t W r q k;unfold yP at q;split at q<;>first | (cases q;done) | skip
 cases q;obtain ⟨v,ws,rfl,Z,w,U,rfl,Y,O⟩:=r;cases Z;cases Y;have O:U=[]:=O;subst O;exact ⟨_,_,rfl,k.int W⟩
section
variable {X:Cx} {elt tg iter:Expr} {ifs:List Expr} {scope:Scope} {pos:Pos} {M:List Str} {src:List (Option Nat)} {fi:De->Option (List Dt)} {ft:De->Option Bool} {fe:De->Option Dt} {fg:Fg} {i:Nat}
end
section
variable {X:Cx}
df Eg (K:PySem.W.Frag) (n:Nat) (t:TGs):TG:=fun v σ H Q=>∃ a xs,v=.ref a/\SqL K H a xs/\xs.length=n/\t xs σ H Q
theorem BX {k:Nat} {t:TGs} (hc:X.calm=true) (h:PGs X es t)
 (Y:(qj0 es X.env).length=n:=by rfl) (O:(qj0 es X.env).findIdx? (·.1)=none:=by rfl):PG X (.Tuple es k pos) (Eg X.K n t):=by
 intro pins s σ H v u Q I r q;obtain ⟨a,xs,e1,hq,hl,q⟩:=q;subst e1;cases r;obtain ⟨its,U,ht,hz⟩:=I.list hq;rw [assign_Tuple];refine wB (zb3 ?_);unfold unpack;rw [show (qj0 es X.env).length=its.toArray.size by simp [Y,<- hl,U.length],O];refine wB (qi2 (PySem.W.kun_itemsOf (I.ok.hd hc) ht.isList fun h' Z=>?_));have I1:Inv X pins σ H {s with heap:=h'}:=I.kept (t':=s.toks) fun b o e=>Z b o (qc0 (qa9 e)) e
 exact h pins _ σ H xs _ Q I1 (by simpa using U) q
df oU (n:Nat) (bs:List Dt->De->Option De):Dt->De->Option De:=fun d δ=>match d with
 | .lst ds=>if ds.length=n then bs ds δ else none
 | _=>none
theorem qp {k:Nat} {bs:List Dt->De->Option De} (Z:X.calm=true) (h:DGs X es ts bs)
 (W:(qj0 es X.env).length=n:=by rfl) (U:(qj0 es X.env).findIdx? (·.1)=none:=by rfl):DG X (.Tuple es k pos) ts (oU n bs):=PG.mono (BX Z h W U) fun v σ H Q ⟨Φ,δ,F,d,δ',hK,en,r,O,q⟩=>by
 unfold oU at O;split at O
 . rename_i ds;split at O
   . rename_i Y;simp only [Rep] at r;obtain ⟨a,vs,e,h1,h2⟩:=r;exact ⟨a,vs,e,Same.seq en.fh h1,by rw [h2.length];exact Y,Φ,δ,F,ds,δ',hK,en,h2,O,q⟩
   . cases O
 . cases O
end
df dD (sc:Scope) (N:List Str):Bool:=(qc1 N.length).all fun i=>match N[i]? with
 | some x=>cT sc N i x&&gW sc x
 | none=>false
theorem nsB (h:dD sc N=true) (e:N[i]?=some x):cT sc N i x=true/\gW sc x=true:=by have h1:=qj2.mp h i (qd5.mpr (gX e).1);rw [e] at h1;exact qw1.mp h1
theorem nsN (h:dD sc N=true) (i:Nat) (e:N[i]?=some x:=by rfl):cT sc N i x=true:=(nsB h e).1
theorem nsL (h:dD sc N=true) (i:Nat) (e:N[i]?=some x:=by rfl):gW sc x=true:=(nsB h e).2
theorem pvN (i:Nat) (h:dD sc N=true) (e:N[i]?=some x:=by rfl) (q:bH X sc:=by rfl) (e2:X.N=N:=by rfl):PE X (.Name x pos) (jx i):=pvD i (nsN h i e) q e2
theorem r9:∀ a b:List Nat,ltCps a b=false->ltCps b a=false->a=b
 | [],[],_,_=>rfl
 | [],_::_,h,_=>by simp [ltCps] at h
 | _::_,[],_,h=>by simp [ltCps] at h
 | x::r,y::t,h,h'=>by
  simp only [ltCps,qw2,decide_eq_false_iff_not,qv3,beq_iff_eq] at h h';have e:x=y:=by oo
  subst e;rw [r9 r t (h.2 rfl) (h'.2 rfl)]
theorem sd:∀ a b:List Nat,ltCps a b=true->ltCps b a=false
 | [],[],h=>by simp [ltCps] at h
 | [],_::_,_=>rfl
 | _::_,[],h=>by simp [ltCps] at h
 | x::r,y::t,h=>by
  simp only [ltCps,qk5,decide_eq_true_eq,qb4,beq_iff_eq] at h;simp only [ltCps,qw2,decide_eq_false_iff_not,qv3,beq_iff_eq];rcases h with h | ⟨rfl,h⟩
  . exact ⟨by oo,fun e=>by oo⟩
  . exact ⟨by oo,fun _=>sd r t h⟩
theorem lV:∀ a b c:List Nat,ltCps b a=false->ltCps c b=false->ltCps c a=false
 | [],b,c,h1,h2=>by
  cases b with
  | nil=>exact h2
  | cons y t =>
   cases c with
   | nil=>simp [ltCps] at h2
   | cons z u=>rfl
 | x::r,[],c,h1,h2=>by simp [ltCps] at h1
 | x::r,y::t,[],h1,h2=>by simp [ltCps] at h2
 | x::r,y::t,z::u,h1,h2=>by
  simp only [ltCps,qw2,decide_eq_false_iff_not,qv3,beq_iff_eq] at h1 h2 ⊢;refine ⟨by oo,fun e=>?_⟩;subst e;have e:y=z:=by oo
  subst e;exact lV r t u (h1.2 rfl) (h2.2 rfl)
df leS (a b:Str):Bool:=!ltCps b.cps.toList a.cps.toList
theorem leS_iff {a b:Str}:leS a b=true↔ltCps b.cps.toList a.cps.toList=false:=by simp [leS]
theorem lW (a b c:Str) (h:leS a b=true) (h':leS b c=true):leS a c=true:=leS_iff.mpr (lV _ _ _ (leS_iff.mp h) (leS_iff.mp h'))
theorem uc (a b:Str):(leS a b||leS b a)=true:=by
 cases h:leS a b with
 | true=>rfl
 | false =>
  have h1:ltCps b.cps.toList a.cps.toList=true:=by simpa [leS] using h
  simp [leS_iff.mpr (sd _ _ h1)]
theorem v7 {a b:Str} (h:leS a b=true) (h':leS b a=true):a=b:=by
 have e:=r9 _ _ (leS_iff.mp h') (leS_iff.mp h);cases a with
 | mk a=>cases b with
  | mk b=>simp only at e;rw [Array.toList_inj.mp e]
df iF (ss:List Str):List Str:=ss.mergeSort leS
theorem g9 (ss:List Str):(iF ss).Perm ss:=List.mergeSort_perm ss leS
theorem v8 (ss:List Str):(iF ss).Pairwise fun a b=>leS a b=true:=List.pairwise_mergeSort lW uc ss
theorem lX:∀ (p:Str) (l:List Str),risingS p l=true->(p::l).Pairwise fun a b=>leS a b=true
 | p,[],_=>by simp
 | p,x::r,h=>by
  simp only [risingS,qb4] at h;have O:=lX x r h.2;have h1:leS p x=true:=h.1;refine qn3.mpr ⟨fun y q=>?_,O⟩;rcases qb6.mp q with rfl | q
  . exact h1
  . exact lW _ _ _ h1 ((qn3.mp O).1 y q)
theorem ud:∀ l:List Str,sortedS l=true->l.Pairwise fun a b=>leS a b=true
 | [],_=>za3
 | x::r,h=>lX x r h
theorem lY:∀ {a b:List Str},a.Perm b->(a.Pairwise fun a b=>leS a b=true)->(b.Pairwise fun a b=>leS a b=true)->a=b
 | [],_,p,_,_=>p.nil_eq
 | x::r,b,p,q,O=>by
  cases b with
  | nil=>exact absurd p.length_eq \5
  | cons y t =>
   have U:x∈y::t:=p.mem_iff.mp (.head _);have W:y∈x::r:=p.mem_iff.mpr (.head _)
   have e:x=y:=by
    rcases qb6.mp U with h | h
    . exact h
    . rcases qb6.mp W with h' | h'
      . exact h'.symm
      . exact v7 ((qn3.mp q).1 y h') ((qn3.mp O).1 x h)
   subst e;rw [lY (zk0.cons_inv p) (qn3.mp q).2 (qn3.mp O).2]
theorem ki:∀ {ss:List Str} {its:List Value},Vals (ss.map V.str) its->ze9 its ss
 | [],_,h=>by cases h;exact .nil
 | x::ss,_,h=>by
  cases h with
  | cons h1 h2 =>obtain ⟨t,rfl⟩:=h1;exact .cons x t (ki h2)
theorem lZ:∀ {its:List Value} {ss:List Str},ze9 its ss->Vals (ss.map V.str) its
 | _,_,.nil=>.nil
 | _,_,.cons x t h=>.cons ⟨t,rfl⟩ (lZ h)
section
variable {X:Cx}
theorem l3 {F:Hp}:∀ ss:List Str,Reps K F (ss.map .str) (ss.map V.str)
 | []=>by simp only [qs9,Reps]
 | x::ss=>by simp only [qa7,Reps];exact ⟨_,_,rfl,by simp only [Rep],l3 ss⟩
end
df EntA (h:Heap) (d:Addr) (ks:List Value) (ep:Nat):Prop:=∃ o es,h.get? d=some o/\o.ExactDict/\o.data=.dict es ep/\es.toList.map (·.key)=ks
variable {ep:Nat}
theorem EntA.upTo {d:Addr} {ks:List Value} (q:EntA h d ks ep) (k:∀ o,h.get? d=some o->h'.get? d=some o):EntA h' d ks ep:=let ⟨o,es,h1,r⟩:=q;⟨o,es,k o h1,r⟩
theorem EntA.ty {d:Addr} {ks:List Value} (q:EntA s.heap d ks ep):s.TypeIs (.ref d) "dict":=let ⟨o,_,h1,h2,_⟩:=q;⟨o,h1,h2.1⟩
theorem EntA.lt {d:Addr} {ks:List Value} (q:EntA h d ks ep):d<h.objs.size:=let ⟨_,_,h1,_⟩:=q;qa9 h1
section
variable {prog:qc9} {w:World} {A:qe0} {E:Value->qa4->Prop} {s:qa4} {d it:Addr} {ks:List Value} {i ep:Nat}
theorem v9 {Q:Value->qa4->Prop} (lo:(d==ql5)=false) (q:EntA s.heap d ks ep)
  (k:Q (.ref s.heap.objs.size) {s with heap:=s.heap.push {cls:=.type "dict_keyiterator",data:=.fields #[.ref d,.int 0 0,.int ks.length 0,.int ep 0]}}):wpAny (model prog w) A (zj8 (.ref d)) Q E s:=by
 obtain ⟨o,es,O,e2,U,W⟩:=id q;refine za7 q.ty F.slot_dict_iter (qf3 F.slot_dict_iter q.ty F.entry_dict_iter ?_ (F.args_dict_iter_1 _));unfold qi7.«dict.__iter__»;refine wB ?_;unfold qi7.Dict.dictSlotNone;refine wB (wpAny_notOrdered_dict q.ty ?_);show wpAny _ _ (pure (qf7 d)) _ _ s;refine qa3 ?_;show wpAny _ _ (zf0 d >>= _) _ _ s;unfold zf0;rw [if_neg (by rw [lo];exact qb8)];refine wB (qa3 ?_);refine wB (za8 O U (wB (zf1 O U ?_)));have Y:es.size=ks.length:=by rw [<- W];simp
 refine wB (qd7 (qa3 ⟨_,rfl,"dict_keyiterator",_,⟨_,qb1 _ rfl,rfl⟩,qi6.lookup,?_⟩));simpa [qf8,Y] using k
theorem wa {key:Value} {Q:Option Value->qa4->Prop} (st:s.heap.IsKeyIter it d i ks.length ep) (q:EntA s.heap d ks ep) (hk:ks[i]?=some key)
  (k:∀ h',h'.IsKeyIter it d (i+1) ks.length ep->qp0 it s.heap h'->Q (some key) {s with heap:=h'}):wpAny (model prog w) A (qz0 (.ref it)) Q E s:=by
 obtain ⟨oi,i1,i2,W⟩:=id st;obtain ⟨o,es,Z,e2,e3,Y⟩:=id q;unfold qz0;refine wB (qt5 (qe8 (name:=qa1 "__next__") st.typeIs qi6 (qf3 qi6 st.typeIs qv9 ?_ (qv4 _))));refine wB (qa3 (wB (wB ?_)))
 first | refine wB (ql1 st.typeIs (qa3 ?_)) | refine wB (qo5 st.typeIs (qa3 ?_))
 refine wB (qs0 i1 W ?_);have ow:qw7 "dict_keyiterator"=false:=by decide
 simp only [ow,qf1,if_false];show wpAny _ _ (if (qf7 d==qi0)=true then _ else _) _ _ s;rw [if_neg (show ¬ ((qf7 d==qi0)=true) from qb8)];refine wB (qa3 (wB (za8 Z e3 ?_)));have ez:es.size=ks.length:=by rw [<- Y];simp
 rw [if_neg (by rw [ez];simp)];refine wB (qa3 (wB (zf1 Z e3 ?_)));rw [if_neg \5];refine qa3 ?_;have li:i<es.size:=by rw [ez];exact (gX hk).1
 have O:es[i].key=key:=by rw [<- Y,qb0,qn1,qk2 li] at hk;exact qd9 hk
 simp only [show ¬ ((i:Int)<0) from by oo,if_false,qe4,qk2 li];refine wB ?_
 first | refine wB (ql1 st.typeIs (qa3 ?_)) | refine wB (qo5 st.typeIs (qa3 ?_))
 refine wB (zf2 st.typeIs ?_);show wpAny _ _ (zc0 (.ref it) 1 (qf8 ((i:Int)+1)) >>= _) _ _ s;refine qh6 (qk1 i1 W \5 ?_)
 have U:(s.heap.update it (qr0 (·.setIfInBounds 1 (qf8 ((i:Int)+1))))).IsKeyIter it d (i+1) ks.length ep:=⟨_,qe9 _ i1 (qi5 (qe5 W _)),(qq9 ..).trans i2,by rw [qe5 W];simp [qf8]⟩
 refine wB (qi2 (wB (zf2 (s:={s with heap:=s.heap.update it (qr0 (·.setIfInBounds 1 (qf8 ((i:Int)+1))))}) U.typeIs ?_)));show wpAny _ _ (pure es[i].key) _ _ _;rw [O];exact qa3 (qa3 ⟨_,rfl,qa3 (k _ U (qf2 ..))⟩)
theorem yQ {Q:Option Value->qa4->Prop} (nh:A.handled=none) (st:s.heap.IsKeyIter it d i ks.length ep) (q:EntA s.heap d ks ep) (hi:i=ks.length)
  (k:∀ h',zh0 it s.heap h'->Q none {s with heap:=h'}):wpAny (model prog w) A (qz0 (.ref it)) Q E s:=by
 obtain ⟨oi,i1,i2,O⟩:=id st;obtain ⟨o,es,U,e2,W,Z⟩:=id q;unfold qz0;refine wB (qt5 (qe8 (name:=qa1 "__next__") st.typeIs qi6 (qf3 qi6 st.typeIs qv9 ?_ (qv4 _))));refine wB (qa3 (wB (wB ?_)))
 first | refine wB (ql1 st.typeIs (qa3 ?_)) | refine wB (qo5 st.typeIs (qa3 ?_))
 refine wB (qs0 i1 O ?_);have ow:qw7 "dict_keyiterator"=false:=by decide
 simp only [ow,qf1,if_false];show wpAny _ _ (if (qf7 d==qi0)=true then _ else _) _ _ s;rw [if_neg (show ¬ ((qf7 d==qi0)=true) from qb8)];refine wB (qa3 (wB (za8 U W ?_)));have Y:es.size=ks.length:=by rw [<- Z];simp
 rw [if_neg (by rw [Y];simp)];refine wB (qa3 (wB (zf1 U W ?_)));rw [if_neg \5];refine qa3 ?_;have ge:es.size<=i:=by rw [Y];oo
 simp only [show ¬ ((i:Int)<0) from by oo,if_false,qe4,qm3 ge];refine wB ?_
 first | refine wB (ql1 st.typeIs (qa3 ?_)) | refine wB (qo5 st.typeIs (qa3 ?_))
 show wpAny _ _ (zc0 (.ref it) 0 .none >>= _) _ _ s;refine qh6 (qk1 i1 O \5 ?_);show wpAny _ _ (zh9 (.type "StopIteration") [] >>= _) _ _ _;refine wB ?_;simp only [zh9,zj5];refine wB (qd7 ?_ (by size_fits));refine qh6 (m:=qo0 _ _) (zb8 (a:=qi0) (by first | rfl | (simp only [qo0];rfl)) (qd7 ?_ (by size_fits)));simp only [zi0];refine wB (zb9 ?_);rw [show A.in1.handled=none from nh];refine wB (qa3 (zh1 ?_));refine wB (qs1 (b:=true) (T:="StopIteration") ⟨_,qb1 _ rfl,rfl⟩ zg6 ?_);exact qa3 (k _ (((qf2 ..).extBut.push _).push _))
theorem ue (Z:A.handled=none) (W:d≠it):Walks prog w A it [it,d] [it] ks.length (fun i v=>ks[i]?=some v) (fun i h=>h.IsKeyIter it d i ks.length ep/\EntA h d ks ep) where
 sub:=fun b q=>by simp at q;simp [q]
 frame:=fun _ _ _ st hk=>⟨let ⟨o,h1,r⟩:=st.1;⟨o,hk it \5 o h1,r⟩,st.2.upTo fun o e=>hk d \5 o e⟩
 item:=fun i s Q E hi st O=>wa st.1 st.2 (key:=ks[i]) (by simp [hi]) fun h' U Y=>O _ h' s.toks (by simp [hi]) ⟨U,st.2.upTo fun o e=>Y.extBut d o W e⟩ fun b o q e=>Y.extBut b o (fun z=>q (by simp [z])) e
 done:=fun s Q E st O=>yQ Z st.1 st.2 rfl fun h' eb=>O h' s.toks fun b o q e=>eb b o (fun z=>q (by simp [z])) e
 self:=fun _ _ _ _ st O=>wpAny_pyIter_keyiter st.1 O
theorem se (lo:(d==ql5)=false):PySem.W.KdlSrc prog w "dict" d d ks.length (fun i v=>ks[i]?=some v) (fun h=>EntA h d ks ep) where
 type:=fun _ q=>q.ty
 there:=fun _ q=>⟨q.lt,q.lt⟩
 keep:=fun _ _ q hk=>q.upTo fun o e=>hk d (.inl rfl) o e
 notList:=by decide
 notTuple:=by decide
 hint:=fun _ _ _ _ q O=>PySem.W.kdl_hint_dict q.ty O
 iter:=fun _ _ U q=>⟨_,_,(fun _ _ O=>v9 lo q O),ue U (qc0 q.lt),⟨⟨_,qb1 _ rfl,rfl,rfl⟩,q.upTo fun o e=>gP _ e⟩⟩
end
df jc (ks:List Key):Dt:=.tup (ks.map kh)
theorem l4 {F:Hp}:∀ ks:List Key,Reps K F (ks.map kh) (ks.map kV)
 | []=>by simp only [qs9,Reps]
 | k::ks=>by simp only [qa7,Reps];exact ⟨_,_,rfl,yO k,l4 ks⟩
theorem wb {F:Hp} {b:Addr} {ks:List Key} (h:F b=some (.tup (ks.map kV))):Rep K F (jc ks) (.ref b):=by unfold jc;simp only [Rep];exact ⟨b,_,rfl,SqT.of h,l4 ks⟩
section
variable {K:PySem.W.Frag} {F H:Hp} {ρ:Nat->Addr} {ch:CH}
theorem Gh.frzT (g:Gh K F H ρ ch) {b:Addr} (U:H b=some (.tup vs)):Adv K F H ρ ch (upd F b (.tup vs)) H ρ ch:=by
 have O:Same F (upd F b (.tup vs)):=fun x o e=>by
  by_cases q:x=b
  . subst q;have:=g.fh _ _ e;rw [U] at this;rw [ar,this]
  . rw [ap q];exact e
 refine ⟨⟨fun x o e=>?_,g.inj,fun i hi=>?_,fun i o h=>(g.ok i o h).mono O (fun _ _=>rfl) (nL _) fun u W=>W⟩,nL _,fun _ _=>rfl,fun i h1 h2=>absurd h2 (qj1.mpr h1),fun _ _ h _=>h,O,fun x o e=>?_,fun _ _ _ h=>h⟩
 . by_cases q:x=b
   . subst q;rw [ar] at e;cases e;exact U
   . rw [ap q] at e;exact g.fh x o e
 . by_cases q:ρ i=b
   . rw [q,ar];exact .inr ⟨vs,rfl⟩
   . rw [ap q];exact g.out i hi
 . by_cases q:x=b
   . subst q;rw [ar] at e;cases e;exact .inr (.inr ⟨vs,rfl⟩)
   . rw [ap q] at e;exact .inl e
theorem Gh.frzTs (g:Gh K F H ρ ch):∀ (bs:List Addr) (O:List (List V)),bs.length=O.length->(∀ (j:Nat) (b:Addr) (vs:List V),bs[j]?=some b->O[j]?=some vs->H b=some (.tup vs))→
  ∃ F',Adv K F H ρ ch F' H ρ ch/\∀ (j:Nat) (b:Addr) (vs:List V),bs[j]?=some b->O[j]?=some vs->F' b=some (.tup vs)
 | [],O,_,_=>⟨F,Adv.refl g,fun j b vs h=>by simp at h⟩
 | b::bs,[],h,_=>by cases h
 | b::bs,w::O,Y,h=>by
  obtain ⟨F',a,h1⟩:=Gh.frzTs g bs O (by simpa using Y) fun j b vs p q=>h (j+1) b vs (by simpa using p) (by simpa using q)
  have U:=h 0 b w rfl rfl;refine ⟨_,a.trans g (a.gh.frzT U),fun j W vs p q=>?_⟩;cases j with
  | zero =>simp at p q;subst p q;exact ar
  | succ j=>exact (a.gh.frzT U).old _ _ (h1 j W vs (by simpa using p) (by simpa using q))
end
theorem l5 {α β:Type} {R:α->β->Prop}:∀ {l:List α} {m:List β},Paired R l m->∀ {i:Nat} {a:α},l[i]?=some a->∃ b,m[i]?=some b/\R a b
 | _,_,.nil,i,a,h=>by simp at h
 | _,_,.cons r t,0,a,h=>by simp at h;subst h;exact ⟨_,rfl,r⟩
 | _,_,.cons r t,i+1,a,h=>by simpa using l5 t (by simpa using h)
theorem kj {α β:Type} {R:α->β->Prop}:∀ {l:List α} {m:List β},Paired R l m->l.length=m.length
 | _,_,.nil=>rfl
 | _,_,.cons r t=>by simp [kj t]
theorem BY {kvs:List (List Key×V)} (x:ObjOk P w H h a (.dT kvs)):kvs.length<=qb2/\(a==ql5)=false/\∃ (bs:List Addr) (ob:Obj) (es:Array DictEntry) (ep:Nat),h.get? a=some ob/\ob.data=.dict es ep/\EntA h a (bs.map .ref) ep/\bs.length=kvs.length∧
  ∀ (j:Nat) (p:List Key×V),kvs[j]?=some p->∃ b,bs[j]?=some b/\H b=some (.tup (p.1.map kV)):=by
 obtain ⟨z,y,xs,r,o,es,ep,h1,h2,h3,O,Y⟩:=x;refine ⟨z,y,xs.map (·.2.1),o,es,ep,h1,h3,⟨o,es,h1,h2,h3,?_⟩,by rw [qa2,<- kj r],fun j p hp=>?_⟩
 . rw [O,qc4,qc4];rfl
 . obtain ⟨q,U,_,W,_⟩:=l5 r hp;exact ⟨q.2.1,by rw [qb0,U];rfl,W⟩
section
variable {X:Cx} {tg:Expr}
theorem qq (hc:X.calm=true):bX X (.type "list") (fun xs H Q=>∃ a kvs,xs=[.ref a]/\H a=some (.dT kvs)/\∀ bs:List Addr,bs.length=kvs.length->(∀ (j:Nat) (b:Addr) (p:List Key×V),bs[j]?=some b->kvs[j]?=some p->H b=some (.tup (p.1.map kV)))->∀ l,H l=none->Q (.ref l) (upd H l (.lst (bs.map V.ref)))):=by
 intro pins s σ H xs us Q I r h;obtain ⟨a,kvs,rfl,hq,q⟩:=h;obtain ⟨u,rfl,rx⟩:=gF r;cases rx;obtain ⟨z,y,bs,ob,es,ep,e1,e2,en,Z,hk⟩:=BY (I.hok a _ hq);have hz:(bs.map qf7).length<=qb2:=by rw [qa2,Z];exact z
 refine PySem.W.kdl_call (se y) (I.ok.hd hc) en hz fun h' tk acc c kp hD O=>?_
 have U:acc.toList=bs.map qf7:=by
  apply qr1;intro j;cases hj:acc.toList[j]? with
  | none =>have h1:=qf6.mp hj;rw [qe6,O.1] at h1;rw [qf6.mpr h1]
  | some v=>exact (O.2 j v (by rw [<- qn1];exact hj)).symm
 have rv:Vals (bs.map V.ref) acc.toList:=by
  rw [U];clear U hk Z en hz q O;induction bs with
  | nil=>exact .nil
  | cons b bs ih=>exact .cons rfl ih
 refine ⟨.ref s.heap.objs.size,_,I.laid (t':=tk) kp (nL _) (show ObjOk X.prog X.w _ h' _ (.lst (bs.map V.ref)) from ⟨by rw [qa2,Z];exact z,acc.toList,c,rv,by rw [qw3];exact hD⟩),rfl,q bs Z (fun j b p h1 h2=>?_) _ (I.hok.fresh (nL _))⟩;obtain ⟨b',Y,hH⟩:=hk j p h2;rw [h1] at Y;cases Y;exact hH
end
section
variable {K:PySem.W.Frag} {F H F' H' F1 H1:Hp} {ρ ρ' ρ1:Nat->Addr} {ch ch' ch1:CH} {i:Nat} {l:List (List Key×CV)} {kvs:List (List Key×V)} {ob:Obj}
end
section
variable {X:Cx} {tg d:Expr} {body:List Stmt} {fd:Fg} {g:Fs} {pos:Pos}
end
df wc:List CV->Option (List Key)
 | []=>some []
 | .dat d::r=>(j8 d).bind fun k=>(wc r).map (k::·)
 | _=>none
section
variable {X:Cx} {e a b o value:Expr} {es:List Expr} {f fa fb fc fe fk:Fg} {fs:Fgs} {pos apos cpos tpos p:Pos} {sc:Scope} {x:Str} {K:PySem.W.Frag}
df eNT:Fg:=fun _ ch=>some (.ref ch.length,ch++[.dT []])
theorem yR:GE X (.Dict [] [] pos) eNT:=PE.mono u8 fun σ H Q ⟨δ,ch,F,ρ,c,ch',en,O,k⟩ q U=>by cases O;refine k (.ref q) F _ _ (na (o:=.dT []) en.gh U ⟨[],ar,rfl,rfl⟩) ⟨by simp,?_⟩;dsimp only;rw [if_pos rfl]
df asT:CO->Option (List (List Key×CV))
 | .dT l=>some l
 | .wt l=>some l
 | _=>none
theorem we {F:Hp} {q:Addr} {o:CO} {l:List (List Key×CV)} (h:asT o=some l) (ok:CoOk K F H ρ n q o):∃ kvs,Rd H q (.dT kvs)/\kvs.map (·.1)=l.map (·.1)/\RelCs K F ρ n (l.map (·.2)) (kvs.map (·.2)):=by
 cases o with
 | dT m=>cases h;obtain ⟨kvs,h1,h2,h3⟩:=ok;exact ⟨kvs,.inl h1,h2,h3⟩
 | wt m=>cases h;obtain ⟨ob,kvs,h1,h2,h3⟩:=ok;exact ⟨kvs,.inr ⟨ob,h1⟩,h2,h3⟩
 | _=>cases h
df eIxT (fo:Fg) (fs:Fgs):Fg:=fun δ ch=>(fo δ ch).bind fun p=>(fs δ p.2).bind fun q=>match p.1 with
 | .ref i=>((q.2[i]?).bind asT).bind fun l=>if q.1.length<=qb2 then (wc q.1).bind fun ks=>(lkC l ks).map fun c=>(c,q.2) else none
 | _=>none
df sgPutT (fo:Fg) (fs:Fgs) (fe:Fg):Fs:=fun δ ch=>(fe δ ch).bind fun p=>(fo δ p.2).bind fun q=>(fs δ q.2).bind fun r=>match q.1 with
 | .ref i=>match r.2[i]? with
  | some (.dT l)=>if r.1.length<=qb2/\l.length<qb2/\(l.map (·.1)).Nodup then (wc r.1).map fun ks=>.nx δ (r.2.set i (.dT (dO l ks p.1))) else none
  | _=>none
 | _=>none
df eLT (fa:Fg):Fg:=fun δ ch=>(fa δ ch).bind fun p=>match p.1 with
 | .ref i=>match p.2[i]? with
  | some (.dT l)=>some (.ref p.2.length,p.2++[.lst (l.map fun q=>.dat (jc q.1))])
  | _=>none
 | _=>none
theorem km {F:Hp}:∀ {l:List (List Key)} {bs:List Addr},bs.length=l.length->(∀ (j:Nat) (b:Addr) (ks:List Key),bs[j]?=some b->l[j]?=some ks->F b=some (.tup (ks.map kV)))->RelCs K F ρ n (l.map fun q=>.dat (jc q)) (bs.map V.ref)
 | [],[],_,_=>rfl
 | [],_::_,h,_=>by cases h
 | _::_,[],h,_=>by cases h
 | q::l,b::bs,h,O=>⟨.ref b,_,rfl,wb (O 0 b q rfl rfl),km (by simpa using h) fun j b ks p1 p2=>O (j+1) b ks (by simpa using p1) (by simpa using p2)⟩
theorem wf (h:aH sc "list"=true) (hc:X.calm=true) (hm:X.mg "list"=none) (hv:qd6 "list"=some (.type "list")) (ha:GE X a fa) (e1:bH X sc:=by rfl)
  (he:qa6 [a] X.env=(false,eval a X.env)::qa6 [] X.env:=by rfl) (Z:(qi4 pos (qa6 [] X.env)).any (·.1)=false:=by rfl):GE X (.Call (.Name "list" p) [a] [] pos) (eLT fa):=
 PE.mono (eM h (qq hc) hm hv (bJ ha cW he) e1 he Z) fun σ H Q ⟨δ,ch,F,ρ,c,ch',en,Y,k⟩=>by
  unfold eLT at Y;obtain ⟨⟨c1,ch1⟩,hp,O⟩:=bS Y;clear Y;dsimp only at O;split at O<;>first | (cases O;done) | skip
  rename_i i;split at O<;>first | (cases O;done) | skip
  rename_i l hl;cases O;refine ⟨δ,ch,F,ρ,_,ch1,en,hp,fun v F1 H1 ρ1 a1 r1=>?_⟩;obtain ⟨kvs,h1,h2,h3⟩:=a1.gh.ok i _ hl;refine ⟨_,kvs,by rw [r1.2],h1,fun bs U hb q hq=>?_⟩
  obtain ⟨F',af,hF⟩:=a1.gh.frzTs bs (kvs.map fun p=>p.1.map kV) (by simpa using U) fun j b vs p1 p2=>by rw [qb0] at p2;obtain ⟨pp,q1,rfl⟩:=mS p2;exact hb j b pp p1 q1
  have W:RelCs X.K F' ρ1 ch1.length (l.map fun q=>.dat (jc q.1)) (bs.map V.ref):=by
   have:=km (K:=X.K) (F:=F') (ρ:=ρ1) (n:=ch1.length) (l:=l.map (·.1)) (bs:=bs) (by rw [<- h2];simpa using U) fun j b ks p1 p2=>hF j b _ p1 (by rw [<- h2,qb0] at p2;obtain ⟨pp,q1,rfl⟩:=mS p2;rw [qb0,q1];rfl)
   rw [qc4] at this;exact this
  refine k (.ref q) F' _ _ ((a1.trans en.gh af).trans en.gh (na (o:=.lst (l.map fun q=>.dat (jc q.1))) af.gh hq ⟨_,ar,W⟩)) ⟨by simp,?_⟩
  first
   | rw [if_pos rfl]
   | (dsimp only;rw [if_pos rfl])
end
theorem fV:fillsNumberSlot (.type "tuple") "mul"=pure false:=PySem.fillsNumberSlot_seq (id:="tuple.__mul__") (r:=some (.builtin "tuple.__rmul__")) qw0.lookup \2 F.slot_tuple_rmul.lookup \2
theorem sf:seqRepeat? (.type "tuple")=pure (some (.builtin "tuple.__mul__")):=by unfold seqRepeat?;rw [PySem.seqSlot_of (T:="tuple") (name:="__mul__") (id:="tuple.__mul__") qw0.lookup \2,PySem.seqSlot_of (T:="tuple") (name:="__rmul__") (id:="tuple.__rmul__") F.slot_tuple_rmul.lookup \2];rfl
theorem oV (a:Int) (t:Tok) (l:Addr) (its:Array Value) (n:Nat) (q:Option Addr) (sl:Array (Option Value)) :
  Meets (qi7.«int.__rmul__» ⟨[.int a t,.ref l],[]⟩) (fun _ R s=>s.heap.get? l=some {cls:=.type "tuple",dict:=q,data:=.seq its n,slots:=sl}/\R (.ok (.ret Value.notImplemented)) s):=
 .of_wp fun prog w A R s h=>by obtain ⟨hp,g,d,tk,O⟩:=s;obtain ⟨U,h⟩:=h;wp_walk;exact ⟨_,rfl,h⟩
theorem yS (l:Addr) (its:Array Value) (n:Nat) (Z:Option Addr) (sl:Array (Option Value)) (x:Int) (u:Tok) (h1:1<x) (h2:x<=1000) (h3:its.isEmpty=false) (Y:its.size<=1000) :
  Meets (qi7.«tuple.__mul__» ⟨[.ref l,.int x u],[]⟩) (fun _ R s=>s.heap.get? l=some {cls:=.type "tuple",dict:=Z,data:=.seq its n,slots:=sl}/\R (.ok (.ret (qf7 s.heap.objs.size))) {s with heap:=s.heap.push {cls:=qk9 "tuple",data:=Data.seq (zi4 (fun U O=>U++O) #[] (qc6 x.toNat its))},toks:=s.toks}):=
 .of_wp fun prog w A R s h=>by
  obtain ⟨hp,g,d,tk,os⟩:=s;obtain ⟨hl,h⟩:=h;wp_walk;refine qo6 (by rw [decide_eq_false (by oo:¬ x < -2^63),decide_eq_false (by oo:¬ x ≥ 2^63)];rfl) ?_;wp_walk;refine qo6 (by rw [h3];simp;oo) ?_;wp_walk;refine qo6 (by rw [h3];simp;oo) ?_;wp_walk;have hm:(its.size:Int)*x<=1000*1000:=Int.le_trans (Int.mul_le_mul_of_nonneg_right \3 \3) (Int.mul_le_mul_of_nonneg_left h2 \3);refine qo6 (by simp;oo) ?_;wp_walk;have hL:(qb2:Int)=16777216:=by rw [qx6];rfl
  refine qo6 (by unfold qi7.Tuple.tupleTooMany;rw [hL,decide_eq_false_iff_not,decide_eq_true_eq];oo) ?_;wp_walk
  have q:(zi4 (fun U O=>U++O) #[] (qc6 x.toNat its)).size<=qb2:=by have W:=iW its.toList x.toNat [];rw [qk6,qw3] at W;rw [show (#[]:Array Value)=[].toArray from rfl,W,qb5,rn,qe6,qx6];exact qc3 (Nat.mul_le_mul (by oo:x.toNat<=1000) Y) \7
  refine qo6 (decide_eq_false (qj1.mpr q)) ?_;wp_walk;exact ⟨_,rfl,h⟩
df si (K:PySem.W.Frag):R2:=fun x y H Q=>∃ a k xs,x=.ref a/\y=.int k/\SqT K H a xs/\1<k/\k<=1000/\xs≠[]/\xs.length<=1000/\∀ p,H p=none->Q (.ref p) (upd H p (.tup (qc6 k.toNat xs).flatten))
theorem yT:OpR X (qk0 .Mult) (si X.K):=by
 intro pins s σ H x y v u Q I rx ry h;obtain ⟨a,k,xs,rfl,rfl,hT,h1,h2,hne,hl,q⟩:=h;cases rx;obtain ⟨t,rfl⟩:=ry;obtain ⟨its,r,pl,hz⟩:=I.tuple hT;obtain ⟨⟨cls,dd,data,sl⟩,O,hc,n,hd⟩:=id pl;simp only at hc hd;subst hc hd;have hlen:=r.length
 have W:its.toArray.isEmpty=false:=by
  cases its with
  | nil=>cases r;exact absurd rfl hne
  | cons i r=>rfl
 have Z:its.toArray.size<=1000:=by rw [qb5];oo
 refine qz6 (T:="tuple") (U:="int") \7 ⟨_,O,rfl⟩ (fun s'=>zf7 s' k t) fV F.fills_int_mul qy1 sf F.slot_int_index.lookup
  (qx1 qy1 (zf7 s k t) F.entry_int_rmul (F.args_int_rmul_2 _ _) (oV k t a its.toArray n dd sl)
   ⟨O,rfl,⟨_,O,rfl⟩,qx1 qw0 ⟨_,O,rfl⟩ F.entry_tuple_mul (F.args_tuple_mul_2 _ _) (yS a its.toArray n dd sl k t h1 h2 W Z) ⟨O,?_⟩⟩)
 have Y:zi4 (fun x1 x2=>x1++x2) #[] (qc6 k.toNat its.toArray)=(qc6 k.toNat its).flatten.toArray:=by have:=iW its k.toNat [];rw [qk6] at this;exact this
 rw [Y];refine ⟨.ref s.heap.objs.size,_,I.laid (t':=s.toks) (o:=.tup (qc6 k.toNat xs).flatten) (fun b ob q=>gP _ q) (nL _) ⟨?_,_,r.rep k.toNat,zj9 _ _⟩,rfl,q _ (I.hok.fresh (nL _))⟩;rw [rn,qx6];exact qc3 (Nat.mul_le_mul (by oo:k.toNat<=1000) hl) \7
theorem oW {F:Hp}:∀ {l m:List Dt} {vs q:List V},Reps K F l vs->Reps K F m q->Reps K F (l++m) (vs++q)
 | [],m,vs,q,h,h'=>by simp only [Reps] at h;subst h;exact h'
 | d::l,m,vs,q,h,h'=>by simp only [Reps] at h;obtain ⟨v,us,rfl,h1,h2⟩:=h;simp only [qm5,Reps];exact ⟨v,_,rfl,h1,oW h2 h'⟩
theorem oX {F:Hp} (h:Reps K F l vs):∀ k:Nat,Reps K F (qc6 k l).flatten (qc6 k vs).flatten
 | 0=>by simp only [List.replicate_zero,List.flatten_nil,Reps]
 | k+1=>by rw [qj5,qj5,qo4,qo4];exact oW h (oX h k)
df wg:Dt->Dt->Option T
 | .tup l,.int k=>if 1<k/\k<=1000/\l.isEmpty=false/\l.length<=1000 then some (.leaf (.tup (qc6 k.toNat l).flatten)) else none
 | _,_=>none
theorem BZ:R2D K (si K) wg:=by
 intro F H x y Z vy Q t U Y W q k;unfold wg at q;split at q<;>first | (cases q;done) | skip
 rename_i l j;split at q<;>cases q
 rename_i O;obtain ⟨a,vs,rfl,h1,h2⟩:=Y;cases W;refine ⟨a,j,vs,rfl,rfl,U.tup h1,O.1,O.2.1,fun e=>?_,by rw [h2.length];exact O.2.2.2,fun p hp=>k.tup U (oX h2 _) hp⟩;have:=h2.length;rw [e] at this;cases l with
 | nil=>exact absurd O.2.2.1 \5
 | cons _ _=>simp at this
df tupC (ch:CH):CV->Option (List CV)
 | .dat (.tup ds)=>some (ds.map .dat)
 | .ref i=>match ch[i]? with
  | some (.tup l)=>some l
  | _=>none
 | _=>none
section
variable {K:PySem.W.Frag} {F H:Hp} {ρ:Nat->Addr} {ch:CH} {c:CV} {v:V}
end
section
variable {X:Cx} {e a b o iter tg:Expr} {es:List Expr} {body:List Stmt} {g:Fs} {f fa fb fc fe fk:Fg} {fs:Fgs} {pos apos cpos tpos p:Pos} {sc:Scope} {x:Str} {K:PySem.W.Frag}
abbrev Fb:=CV->CH->Sl->Option Sl
df tGG (K:PySem.W.Frag) (b:Fb):TG:=fun v σ H Q=>∃ δ ch F ρ c δ',Ge K δ ch σ F H ρ/\RelC K F ρ ch.length c v/\b c ch δ=some δ'/\∀ σ',Ge K δ' ch σ' F H ρ->Q σ' H
df GG (X:Cx) (tg:Expr) (b:Fb):Prop:=PG X tg (tGG X.K b)
df ggN (i:Nat):Fb:=fun c _ δ=>some (δ.set i (some c))
theorem ni (h:PG X tg (fG i)):GG X tg (ggN i):=PG.mono h fun v σ H Q ⟨δ,ch,F,ρ,c,δ',en,r,q,k⟩=>by cases q;exact k _ (en.put r i)
df lstC (ch:CH):CV->Option (List CV)
 | .dat (.lst ds)=>some (ds.map .dat)
 | .ref i=>match ch[i]? with
  | some (.lst l)=>some l
  | _=>none
 | _=>none
df gE (i:Nat) (b:Fb) (g:Fs):Nat->Nat->Sl->CH->Option Og
 | 0,_,_,_=>none
 | n+1,k,δ,ch=>match ch[i]? with
  | some (.lst l)=>match l[k]? with
   | none=>some (.nx δ ch)
   | some c=>(b c ch δ).bind fun δ1=>(g δ1 ch).bind fun o=>match o with
    | .nx q ch2=>gE i b g n (k+1) q ch2
    | .ct q ch2=>gE i b g n (k+1) q ch2
    | .bk q ch2=>some (.nx q ch2)
    | .rt c ch2=>some (.rt c ch2)
  | _=>none
df eY (fd:Fg) (b:Fb) (g:Fs) (n:Nat):Fs:=fun δ ch=>(fd δ ch).bind fun p=>match p.1 with
 | .ref i=>gE i b g n 0 δ p.2
 | _=>none
theorem nj {b:Fb} (n:Nat) (hp:za0 \4 X.A X.env X.xe) (hc:X.calm=true) (hd:GE X iter fa) (hg:GG X tg b) (hb:GS X body g)
  (hs:∀ x,qg7 iter X.env x=pure x:=by intro _;rfl):GS1 X (.For tg iter body [] pos) (eY fa b g n):=PS.mono (pT hp hc (jI hd) hg hb hs) fun D σ H ⟨δ,ch,F,ρ,og,en,hgg,k⟩=>by
 unfold eY at hgg;obtain ⟨⟨c1,ch1⟩,hpp,q⟩:=bS hgg;clear hgg;dsimp only at q;split at q<;>first | (cases q;done) | skip
 rename_i i;rw [mO];refine ⟨δ,ch,F,ρ,_,ch1,en,hpp,fun v F1 H1 ρ1 a1 r1=>?_⟩;obtain ⟨hi,rfl⟩:=r1;have en1:=en.adv a1;have k1:=k.adv en.gh a1;refine ⟨ρ1 i,rfl,?_,?_⟩
 . cases n with
   | zero=>cases q
   | succ n =>
    unfold gE at q;split at q<;>first | (cases q;done) | skip
    rename_i l hl;obtain ⟨vs,q1,_⟩:=a1.gh.ok i _ hl;exact ⟨vs,SqL.of q1⟩
 refine ⟨fun j m σ' H'=>∃ δ' ch' F' ρ',Adv X.K F1 H1 ρ1 ch1 F' H' ρ' ch'/\Ge X.K δ' ch' σ' F' H' ρ'/\gE i b g m j δ' ch'=some og,⟨n,δ,ch1,F1,ρ1,Adv.refl a1.gh,en1,q⟩,?_⟩;rintro j m σ' H' ⟨δ',ch',F',ρ',a',en',O⟩;cases m with
 | zero=>cases O
 | succ m =>
  unfold gE at O;split at O<;>first | (cases O;done) | skip
  rename_i l hl;obtain ⟨vs,q1,q2⟩:=a'.gh.ok i _ hl;rw [a'.ext i hi] at q1;split at O
  . rename_i hj;cases O;refine .inl ⟨⟨vs,SqL.of q1,?_⟩,k1 σ' F' H' ρ' a' en'⟩;rw [q2.length];exact qf6.mp hj
  . rename_i c hj;obtain ⟨δ1,z1,hgo1⟩:=bS O;obtain ⟨o1,z2,W⟩:=bS hgo1;clear O hgo1;obtain ⟨v,hv,rv⟩:=q2.get hj;refine .inr ⟨⟨vs,v,SqL.of q1,hv⟩,fun Y H2=>∃ δ' ch' F' ρ',Adv X.K F1 H1 ρ1 ch1 F' H2 ρ' ch'/\Ge X.K δ' ch' Y F' H2 ρ'/\gE i b g m (j+1) δ' ch'=some og,fun Y H2 z=>⟨m,by oo,z⟩,fun x H'' hy=>?_⟩;obtain ⟨rfl,hy⟩:=hy;have hx:=hy vs (SqL.of q1);rw [hv] at hx;cases hx;refine ⟨δ',ch',F',ρ',c,δ1,en',rv,z1,fun σ1 en2=>⟨δ1,ch',F',ρ',o1,en2,z2,?_⟩⟩;cases o1 with
    | nx δ2 c2=>exact fun Y F3 H3 U a4 Z=>⟨δ2,c2,F3,U,a'.trans a1.gh a4,Z,W⟩
    | ct δ2 c2=>exact fun Y F3 H3 U a4 Z=>⟨δ2,c2,F3,U,a'.trans a1.gh a4,Z,W⟩
    | bk δ2 c2=>cases W;exact fun Y F3 H3 U a4 Z=>k1 Y F3 H3 U (a'.trans a1.gh a4) Z
    | rt c c2=>cases W;exact fun v F3 H3 U a4 r=>k1 v F3 H3 U (a'.trans a1.gh a4) r
end
set_option maxRecDepth 20000
df Ax (i j:Int):Prop:=0<j/\j<18446744073709551616
theorem dv:OpR X (qk0 .FloorDiv) (rI Ax fun i j=>.int (i/j)):=opI fun i j _ _ _ _ _ O q=>by
 have h1:(0:Int)<j:=O.1;have h2:j<18446744073709551616:=O.2;refine floordiv_int \3 (by rw [Int.fdiv_eq_ediv_of_nonneg i \3];exact q) (.inl (PyProof.noPylong_of_log2 ?_));have h3:j.natAbs≠0:=by oo
 exact ze5 ((Nat.log2_lt h3).mpr (show j.natAbs<2^64 by oo)) \7
df ci:Dt->Dt->Option T
 | .int i,.int j=>if 0<j/\j<18446744073709551616 then some (.leaf (.int (i/j))) else none
 | _,_=>none
theorem hV:R2D K (rI Ax fun i j=>.int (i/j)) ci:=by
 intro F H x y Z vy Q t O Y U q k;unfold ci at q;split at q<;>first | (cases q;done) | skip
 split at q
 . rename_i W;cases q;cases Y;cases U;exact ⟨_,_,rfl,rfl,W,k.int O⟩
 . cases q
section
variable {K:PySem.W.Frag} {F:Hp} {ρ:Nat->Addr} {n:Nat}
theorem RelCs.drop:∀ {l:List CV} {vs:List V} (i:Nat),RelCs K F ρ n l vs->RelCs K F ρ n (l.drop i) (vs.drop i)
 | l,vs,0,h=>h
 | [],vs,i+1,h=>by cases (show vs=[] from h);exact rfl
 | c::l,vs,i+1,h=>by obtain ⟨v,q,rfl,_,r⟩:=h;exact RelCs.drop i r
theorem RelCs.take:∀ {l:List CV} {vs:List V} (i:Nat),RelCs K F ρ n l vs->RelCs K F ρ n (l.take i) (vs.take i)
 | l,vs,0,h=>by rw [List.take_zero,List.take_zero];exact rfl
 | [],vs,i+1,h=>by cases (show vs=[] from h);exact rfl
 | c::l,vs,i+1,h=>by obtain ⟨v,q,rfl,O,r⟩:=h;exact ⟨v,q.take i,rfl,O,RelCs.take i r⟩
end
section
variable {X:Cx} {e a b o iter tg:Expr} {es:List Expr} {body:List Stmt} {g:Fs} {f fa fb fc fe fk:Fg} {fs:Fgs} {pos apos cpos tpos p:Pos} {sc:Scope} {x:Str} {K:PySem.W.Frag}
end
theorem fits {a:Int} (q:-9000000<=a) (h1:a<=9000000):qy2 a=true:=by unfold qy2;simp;oo
section
variable {X:Cx} {tg:Expr}
variable {p pos:Pos} {sc:Scope} {x y z:Expr} {fs:De->Option (List Dt)}
end
section
variable {X:Cx} {pins:List (Addr×Obj)} {σ:St} {H:Hp} {s:qa4} {a b:Addr} {v:V} {r:Value} {A:qe0} {E:Value->qa4->Prop}
end
section
variable {X:Cx} {o i e value:Expr} {pos pos' tpos:Pos} {td ty tv:TE} {fa fk fe:Fg}
end
section
variable {X:Cx} {es:List Expr} {pos:Pos}
end
section
variable {X:Cx} {e a b o iter tg:Expr} {es:List Expr} {body:List Stmt} {g:Fs} {f fa fb fc fe fk:Fg} {fs:Fgs} {pos apos cpos tpos p:Pos} {sc:Scope} {x:Str} {K:PySem.W.Frag}
end
df wj:Value->Str
 | .str k _=>k
 | _=>""
structure Tx (P:qc9) (u:World) (l:List (Int×Value)) (ss:List Str):Prop where
 all:∀ e∈l,∃ k t,e.2=.str k t/\e.1=(PySem.strKind P u).hash k
 per:(l.map fun e=>wj e.2).Perm ss
 nd:ss.Nodup
variable {P:qc9} {u:World}
variable {ss:List Str}
theorem Tx.elems {l:List (Int×Value)} (x:Tx P u l ss):ElemsOf (PySem.strKind P u) l:=fun e q=>by obtain ⟨k,t,h1,h2⟩:=x.all e q;rw [h1];exact ⟨⟨k,zi7 P u k t,h2⟩,rfl⟩
theorem Tx.perm {l m:List (Int×Value)} (x:Tx P u l ss) (p:m.Perm l):Tx P u m ss:=⟨fun e q=>x.all e (p.mem_iff.mp q),(p.map _).trans x.per,x.nd⟩
theorem B0 {k:Str} {v:Value} (h:(PySem.strKind P u).is k v=true):∃ t,v=.str k t:=by
 cases v<;>simp [PySem.strKind,zh2] at h
 subst h;exact ⟨_,rfl⟩
theorem Tx.mem {l:List (Int×Value)} (x:Tx P u l ss) (k:Str):k∈ss↔∃ e∈l,(PySem.strKind P u).is k e.2=true:=by
 rw [<- x.per.mem_iff];constructor
 . intro h;obtain ⟨e,q,O⟩:=qd1.mp h;obtain ⟨k',t,h1,_⟩:=x.all e q;rw [h1] at O;refine ⟨e,q,?_⟩;rw [h1,<- show k'=k from O];exact zi7 P u k' t
 . rintro ⟨e,q,h⟩;obtain ⟨t,h1⟩:=B0 h;exact qd1.mpr ⟨e,q,by rw [h1];rfl⟩
theorem Tx.push {l:List (Int×Value)} (x:Tx P u l ss) {k:Str} {t:Tok} (hk:k∉ss):Tx P u (l++[((PySem.strKind P u).hash k,.str k t)]) (ss++[k]):=⟨fun e q=>by
 rcases qg2.mp q with q | q
 . exact x.all e q
 . rw [qb9.mp q];exact ⟨k,t,rfl,rfl⟩,by
 rw [qc7];exact x.per.append_right _,by
 refine qf4.mpr ⟨x.nd,by simp,fun a U b O e=>?_⟩;rw [qb9.mp O] at e;exact hk (e▸U)⟩
structure TxS (P:qc9) (u:World) (h:Heap) (a:Addr) (ss:List Str) (led:Bool):Prop where
 ex:∃ o es ep t,h.get? a=some o/\o.ExactSet/\o.data=.set es ep t/\Tx P u es.toList ss/\es.size<qo7/\t.fits es.size=true/\t.led=led/\(es.size=0∨t.plain=false)
theorem oY (t:qn4) (n:Nat):(t.orStandIn n).led=t.led/\(t.plain=false->(t.orStandIn n).plain=false):=by
 unfold qn4.orStandIn;split
 . exact ⟨rfl,id⟩
 . exact ⟨rfl,fun _=>rfl⟩
theorem qr (t:qn4) (es:Array (Int×Value)) (h:Int) (x:Value):(layNew t es h x).2.1.led=t.led/\(t.plain=false->(layNew t es h x).2.1.plain=false):=by
 unfold layNew;split
 . exact oY _ _
 . exact ⟨rfl,fun _=>rfl⟩
theorem qu {t t':qn4} {O:Array Int} {q:Array Nat} (h:t.relaid O n=some (t',q)):t'.led=t.led/\t'.plain=t.plain:=by unfold qn4.relaid qn4.laid at h;simp only [Option.bind_eq_bind,qt1,zc8] at h;obtain ⟨_,_,h⟩:=h;cases h;exact ⟨rfl,rfl⟩
theorem ug (t:qn4) (es:Array (Int×Value)) (n:Nat):(zg1 t es n).2.1.led=t.led/\(t.plain=false->(zg1 t es n).2.1.plain=false):=by
 unfold zg1;split
 . rename_i t' q e;obtain ⟨h1,h2⟩:=qu e;dsimp only;split
   . exact ⟨h1,fun z=>h2.trans z⟩
   . exact ⟨rfl,fun _=>rfl⟩
 . exact ⟨rfl,fun _=>rfl⟩
end L2
namespace L2
open PySem PySem.Spec PyProof.Rows
variable {hp:Heap}
section
variable {P:qc9} {u:World} {A:qe0} {E:Value->qa4->Prop} {s:qa4} {a:Addr} {ss:List Str} {led:Bool}
theorem l7 {o:Obj} {es fs:Array (Int×Value)} {ep:Nat} {tb tc:qn4} (g1:hp.get? a=some o) (g2:o.ExactSet) (U:o.data=.set es ep tb) (x:Tx P u fs.toList ss) (O:fs.size<qo7) (q:tc.fits fs.size=true) (Y:tc.led=led) (W:tc.plain=false) :
  (hp.update a (Obj.putSet fs tc)).get? a=some {o with data:=.set fs (ep+1) tc}/\TxS P u (hp.update a (Obj.putSet fs tc)) a ss led:=by
 have e:=(SetOf_store (knd:=PySem.strKind P u) (S':=fun k=>decide (k∈ss)) g1 g2 U x.elems (fun k=>by rw [decide_eq_true_eq];exact x.mem k) O q).1;exact ⟨e,⟨_,fs,ep+1,tc,e,g2,rfl,x,O,q,Y,.inr W⟩⟩
theorem yU {k:Str} {t:Tok} {Q:Bool->qa4->Prop} (hS:TxS P u s.heap a ss led) (room:ss.length+1<qo7)
  (q:∀ hp,qp0 a s.heap hp->TxS P u hp a (if k∈ss then ss else ss++[k]) led->∀ b,Q b {s with heap:=hp}):wpAny (model P u) A (setAddHashed a (.str k t) ((PySem.strKind P u).hash k)) Q E s:=by
 obtain ⟨o,es,ep,tb,g1,g2,g3,x,hb,hf,hl,hpl⟩:=hS.ex;have hn:es.size=ss.length:=by rw [<- x.per.length_eq,qa2,qe6]
 have big:es.size+1<qo7:=by rw [hn];exact room
 unfold setAddHashed setAddHashedIn;refine qi2 (wB (qf5 g1 g3 hf ?_));dsimp only;rw [byScan_of (knd:=PySem.strKind P u) (show Value.scannable (.str k t)=true from rfl) hb x.elems];simp only [↓reduceIte];unfold setAddByScan;refine wB (wB (qx2 (wB (wpAny_setScan_of (zi7 P u k t) g1 g3 hf x.elems ?_))));cases hr:List.findIdx? (fun e=>(PySem.strKind P u).is k e.2) es.toList with
 | some j =>dsimp only;obtain ⟨hj,hpj,_⟩:=List.findIdx?_eq_some_iff_getElem.mp hr;have hm:k∈ss:=(x.mem k).mpr ⟨es.toList[j],qg5 hj,hpj⟩;refine qa3 (qa3 ?_);have:=q s.heap (qp0.refl a s.heap) (by rw [if_pos hm];exact hS) false;rw [show s={s with heap:=s.heap} by cases s;rfl];exact this
 | none =>
  dsimp only
  have hm:k∉ss:=fun z=>by obtain ⟨e,he,hp⟩:=(x.mem k).mp z;have:=List.findIdx?_eq_none_iff.mp hr e he;rw [hp] at this;exact Bool.noConfusion this
  rw [if_neg hm] at q;have perm:=layNew_perm tb es ((PySem.strKind P u).hash k) (.str k t);have fits:=layNew_fits tb es ((PySem.strKind P u).hash k) (.str k t);have U:=qr tb es ((PySem.strKind P u).hash k) (.str k t);generalize layNew tb es ((PySem.strKind P u).hash k) (.str k t)=L at perm fits U ⊢;obtain ⟨fs,tc,wasD,gave⟩:=L;dsimp only at perm fits U ⊢;rw [Array.toList_push] at perm;have y:Tx P u fs.toList (ss++[k]):=(x.push hm).perm perm;have Y:fs.size<qo7:=by rw [<- qe6,perm.length_eq,qa8,qe6];simpa using big
  have gw:∀ (b:Bool) {s1:qa4} {Q1:Unit->qa4->Prop},Q1 () s1->wpAny (model P u) A (match b with | true=>rule "set.scan.the-table-gave-way" | false=>pure ()) Q1 E s1:=fun b s1 Q1 z=>by
   cases b
   . exact qa3 z
   . exact qx2 z
  refine wB (gw _ ?_)
  have W:∀ O:qn4,O.fits fs.size=true->O.led=led->O.plain=false->wpAny (model P u) A (do
      storeSet a fs O
      if (!wasD&&O.tooFull)=true then do
          (match (zg1 O fs (qp7 fs.size)).2.2 with | true=>rule "set.scan.the-table-gave-way" | false=>pure ())
          storeSet a (zg1 O fs (qp7 fs.size)).1 (zg1 O fs (qp7 fs.size)).2.1
          pure (some true)
       else pure (some true)) (fun r s1=>wpAny (model P u) A (match r with | some Z=>pure Z | none=>setAddHashedIn a (.str k t) ((PySem.strKind P u).hash k) 99999) Q E s1) E s:=fun O h1 h2 h3=>by
   refine wB (wpAny_storeSet_of g1 g3 ?_ (qu8 Y));obtain ⟨e1,T1⟩:=l7 g1 g2 g3 y Y h1 h2 h3;have sb:=qf2 s.heap a (Obj.putSet fs O);split
   . have p2:=relayAll_perm O fs (qp7 fs.size);have f2:=relayAll_fits O fs (qp7 fs.size);have l2:=ug O fs (qp7 fs.size);generalize zg1 O fs (qp7 fs.size)=M at p2 f2 l2 ⊢;obtain ⟨gs,td,gave2⟩:=M;dsimp only at p2 f2 l2 ⊢;have sz:gs.size=fs.size:=by rw [<- qe6,p2.length_eq,qe6]
     have hb3:gs.size<qo7:=by rw [sz];exact Y
     refine wB (gw _ (wB (wpAny_storeSet_of e1 rfl ?_ (qu8 hb3))));obtain ⟨_,T2⟩:=l7 e1 g2 rfl (y.perm p2) hb3 f2 (l2.1.trans h2) (l2.2 h3);exact qa3 (qa3 (q _ (sb.trans (qf2 _ a _)) T2 true))
   . exact qa3 (qa3 (q _ sb T1 true))
  split
  . refine wB ?_;rw [hashByValue_scannable 8 (show Value.scannable (.str k t)=true from rfl)];refine qa3 ?_;exact W {tc with plain:=false} (qn4.fits_plain_off fits) (U.1.trans hl) rfl
  . rename_i hpl2;exact W tc fits (U.1.trans hl) (by simpa using hpl2)
end
df ll (acc:List Str) (k:Str):List Str:=if k∈acc then acc else acc++[k]
df met (val:Nat->Str) (i:Nat):List Str:=((qc1 i).map val).foldl ll []
theorem oZ (val:Nat->Str) (i:Nat):met val (i+1)=ll (met val i) (val i):=by unfold met;rw [qy3,qc7,List.foldl_append];rfl
theorem nn (val:Nat->Str):∀ i,(met val i).length<=i
 | 0=>nL _
 | i+1=>by
  rw [oZ];have:=nn val i;unfold ll;split
  . oo
  . rw [qa8,qh3];oo
variable {h h':Heap} {a:Addr} {ss:List Str}
section
variable {P:qc9} {u:World} {A:qe0} {R:Result->qa4->Prop} {I:Addr} {fp wr:List Addr} {G:Array GenState->Array GenState->Prop} {n:Nat} {Pv:Nat->Value->Prop} {St:Nat->qa4->Prop} {led:Bool}
theorem TxS.moved (x:TxS P u h a ss led) (e:∀ o,h.get? a=some o->h'.get? a=some o):TxS P u h' a ss led:=by obtain ⟨o,es,ep,t,g,r⟩:=x.ex;exact ⟨o,es,ep,t,e o g,r⟩
theorem wl (W:WalksS P u A.in1 I fp wr G n Pv St) (S:Addr) (U:S∉fp) (val:Nat->Str) (Y:∀ i v,Pv i v->∃ t,v=.str (val i) t) (O:n+1<qo7) :
  ∀ (m i:Nat) (s:qa4),n-i=m->i<=n->St i s->TxS P u s.heap S (met val i) led->(∀ s',Moved (S::wr) G s s'->TxS P u s'.heap S (met val n) led->R (.ok (.ret .none)) s')→
   qr4 (model P u) A (.builtin "set.update.loop" ⟨[.ref S,.ref I],[]⟩) R s:=by
 have nw:S∉wr:=fun h=>U (W.sub _ h)
 have sub:∀ b∈wr,b∈S::wr:=fun b O=>qd0 _ O
 intro m;induction m with
 | zero =>
  intro i s hm hi q hS hR;obtain rfl:i=n:=by oo
  refine qq5 zc1 ?_;rw [qo1 qt6 _];refine wB (W.done s _ _ q fun s1 mv=>?_);exact qa3 (hR s1 (mv.mono sub) (hS.moved fun o e=>mv.heap S _ nw e))
 | succ m ih =>
  intro i s hm hi q hS hR;have lt:i<n:=by oo
  refine qq5 zc1 ?_;rw [qo1 qt6 _];refine wB (W.item i s _ _ lt q fun v s1 hP hst1 mv=>?_);obtain ⟨t,rfl⟩:=Y i v hP;have hS1:TxS P u s1.heap S (met val i) led:=hS.moved fun o e=>mv.heap S _ nw e
  show wpAny _ A.in1 (zb2 [zh3 (val i) t] (setAdd S (.str (val i) t)) >>= _) _ _ s1;refine wB (qi2 ?_);unfold setAdd;refine qi2 (wB ((PySem.strKind P u).pyHash (k:=val i) (zi7 P u _ _) ?_));have Z:(met val i).length+1<qo7:=by have:=nn val i;oo
  refine yU (s:={s1 with toks:=s1.toks+1}) hS1 Z fun h2 sb hS2 b=>?_
  have hS3:TxS P u h2 S (met val (i+1)) led:=by rw [oZ];exact hS2
  refine qa3 ⟨qw8 qt6 _,ih (i+1) _ \3 lt (W.frame _ s1 _ _ hst1 (qp3 _) fun b O o e=>?_) hS3 fun s2 mv2 hS4=>?_⟩
  . rw [sb.2 b (fun h:b=S=>U (by rw [<- h];exact O))];exact e
  . refine hR s2 (Moved.trans W.gtrans ((mv.mono sub).then_heap (qp3 _) fun b o O e=>?_) mv2) hS4;rw [sb.2 b (fun h:b=S=>O (by rw [h];exact qe1))];exact e
end
df cw (u:World):Bool:=!(u.params.followText "set-order")
section
variable {P:qc9} {u:World} {A:qe0} {E:Value->qa4->Prop} {s:qa4}
theorem yV (v:Value) {Q1:Value->qa4->Prop} (q:Q1 (.ref s.heap.objs.size) {s with heap:=s.heap.push {cls:=.type "set",dict:=none,data:=.set #[] 0 (.fresh 0 0 (cw u))}}) :
  qr4 (model P u) A (.call (.builtin "set.__new__") ⟨[.type "set",v],[]⟩) (wants Q1 E) s:=by
 refine codeAny_of_tree ?_;show wpAny _ A.in1 (do checkBuiltinCall "set.__new__" ⟨[.type "set",v],[]⟩;again (.builtin "set.__new__" ⟨[.type "set",v],[]⟩)) _ _ s;refine wB (zb8 (F.newCall_set_1 v) (qa3 ⟨qw8 F.plain_set_new _,qq5 F.entry_set_new ?_⟩));rw [qo1 F.plain_set_new _];unfold qi7.«set.__new__» qi7.Frozenset.newClass;have z:=sub_set_self;obtain ⟨hp,g,d,tk,O⟩:=s;dsimp only;wp_walk;refine qp5 (qa3 ?_);dsimp only;simp only [newObj];refine wB (wpAny_alloc (qa3 ?_));exact qa3 q
end
variable {led:Bool} {Q:Value->qa4->Prop}
section
variable {P:qc9} {u:World} {A:qe0} {E:Value->qa4->Prop} {s:qa4}
theorem uh (e:hp.get? a=some {cls:=.type "set",dict:=none,data:=.set #[] 0 (.fresh 0 0 led)}):TxS P u hp a [] led:=⟨_,#[],0,.fresh 0 0 led,e,⟨rfl,rfl,rfl⟩,rfl,⟨(fun e q=>by cases q),qz7 _,qv0⟩,(by unfold qo7;decide),(by cases led<;>rfl),rfl,.inl rfl⟩
theorem wm {l:Addr} {vs:Array Value} {val:Nat->Str} (calm:A.handled=none) (hl:s.heap.IsList l vs) (hi:∀ (i:Nat) (v:Value),vs[i]?=some v->∃ t,v=.str (val i) t) (hb:vs.size+1<qo7)
 (q:∀ (hp:Heap) (tk:Nat),TxS P u hp s.heap.objs.size (met val vs.size) (cw u)->(∀ b o,b<s.heap.objs.size->s.heap.get? b=some o->hp.get? b=some o)->Q (.ref s.heap.objs.size) {s with heap:=hp,toks:=tk}) :
  wpAny (model P u) A (call (.type "set") [.ref l]) Q E s:=by
 obtain ⟨c0,tl0,m0⟩:=qq6.mro;have m1:=qq6.made;have m2:=qq6.sub;refine zi3 (codeAny_of_tree ?_);show wpAny _ _ (callAny (.type "set") _) _ _ _;refine qa3 ⟨Code.quiet_builtin _ \2,qq5 F.entry_type_call ?_⟩;rw [qe0.under_plain (weight_type_call_type "set" [.ref l] []) rfl];have m3:=qq6.notType;have m4:=qq6.canCreate;have m5:=F.typeCall_set_1 (.ref l)
 repeat (any_goals (first | assumption | wp_step))
 refine qs6 (yV (.ref l) (E:=E) (Q1:=fun x s1=>x=.ref s.heap.objs.size/\s1={s with heap:=s.heap.push {cls:=.type "set",dict:=none,data:=.set #[] 0 (.fresh 0 0 (cw u))}}) ⟨rfl,rfl⟩) fun r s1 hr=>?_
 cases r with
 | error e=>exact hr
 | ok fl =>
  cases fl with
  | ret x =>
   obtain ⟨rfl,rfl⟩:=hr;have gS:(s.heap.push {cls:=.type "set",dict:=none,data:=.set #[] 0 (.fresh 0 0 (cw u))}).get? s.heap.objs.size=some {cls:=.type "set",dict:=none,data:=.set #[] 0 (.fresh 0 0 (cw u))}:=qb1 _ rfl;have tS:zi1 {s with heap:=s.heap.push {cls:=.type "set",dict:=none,data:=.set #[] 0 (.fresh 0 0 (cw u))}} (.ref s.heap.objs.size) "set":=⟨_,gS,rfl⟩;have n1:=qq6.init.lookup;have n2:=qq6.init.bind (.ref s.heap.objs.size)
   repeat (any_goals (first | assumption | wp_step))
   refine qs6 (codeAny_call_builtin (R:=wants (fun r s2=>r=.none/\∃ hp tk,s2={s with heap:=hp,toks:=tk}/\TxS P u hp s.heap.objs.size (met val vs.size) (cw u)/\(∀ b o,b<s.heap.objs.size->s.heap.get? b=some o->hp.get? b=some o)) E) qq6.init.plain F.entry_set_init (check_set_init_1 tS ?_)) fun r2 s2 O=>?_
   . obtain ⟨ol,Y,hcl,nl,W⟩:=hl;obtain ⟨oc,od,oda,osl⟩:=ol;simp only at hcl W;subst hcl W;have Z:(s.heap.push {cls:=.type "set",dict:=none,data:=.set #[] 0 (.fresh 0 0 (cw u))}).get? l=some {cls:=.type "list",dict:=od,data:=.seq vs nl,slots:=osl}:=gP _ Y;have k1:=F.sub_list_set;have k2:=F.sub_list_frozenset;have k3:(qk9 "list"==qk9 "dict")=false:=by decide
     have hl1:(s.heap.push {cls:=.type "set",dict:=none,data:=.set #[] 0 (.fresh 0 0 (cw u))}).IsList l vs:=⟨_,Z,rfl,nl,rfl⟩;unfold qi7.«set.__init__» noKeywords qi7.Frozenset.updateFrom;generalize hPI:zj8=PI;wp_walk;subst hPI;refine za1 hl1 (wB (wpAny_runValue ?_));have ls:l<s.heap.objs.size:=qa9 Y;have c3:A.in1.in1.in1.handled=none:=by simp [calm]
     have ne1:l≠(s.heap.push {cls:=.type "set",dict:=none,data:=.set #[] 0 (.fresh 0 0 (cw u))}).objs.size:=by rw [qg0];exact qc0 (qj8 ls)
     have ne2:s.heap.objs.size∉[(s.heap.push {cls:=.type "set",dict:=none,data:=.set #[] 0 (.fresh 0 0 (cw u))}).objs.size,l]:=by rw [qg0];simp only [qb6,qb9,qj3,or_false,not_or];exact ⟨qc0 (qm6 _),qm8 ls⟩
     refine wl ((Walks.list c3 _ l ne1 vs).toS) s.heap.objs.size ne2 val hi hb (vs.size-0) 0 _ \3 (qn8 _) ⟨⟨_,qb1 _ rfl,rfl,rfl⟩,(hl1.push _)⟩ (uh (gP _ gS)) fun s3 mv U=>?_
     obtain ⟨hp,g3,d3,tk3,o3⟩:=s3;have eg:g3=s.gens:=mv.gens;have ed:d3=s.drawn:=mv.drawn;have eo:o3=s.os:=mv.os;subst eg ed eo;show wpAny _ _ _ _ _ _;refine qa3 ?_;show wpAny _ _ (ret qi0) _ _ _;refine qa3 ⟨rfl,hp,tk3,rfl,U,fun b o hb e=>?_⟩;have b1:b≠s.heap.objs.size:=qc0 hb
     have b2:b≠(s.heap.push {cls:=.type "set",dict:=none,data:=.set #[] 0 (.fresh 0 0 (cw u))}).objs.size:=by rw [qg0];exact qc0 (qj8 hb)
     exact mv.heap b o (by simp only [qb6,qb9,qj3,or_false,not_or];exact ⟨b1,b2⟩) (qm1 _ (qm1 _ e))
   . cases r2 with
     | error e=>exact O
     | ok f2 =>
      cases f2 with
      | ret r =>
       obtain ⟨rfl,hp,tk,rfl,U,kept⟩:=O
       repeat (any_goals (first | assumption | wp_step))
       exact q _ _ U kept
      | _=>exact O.elim
  | _=>exact hr.elim
end
theorem jd {α:Type}:∀ {l:List α} {i:Nat} (h:i<l.length),(l[i]::l.eraseIdx i).Perm l
 | x::l,0,h=>qz7 _
 | x::l,i+1,h=>by have:=jd (l:=l) (i:=i) (by simpa using h);exact (zk0.swap _ _ _).trans (this.cons x)
variable {n:Nat} {s:qa4}
section
variable {M:Model} {A:qe0} {E:Value->qa4->Prop}
theorem qv {src:Source} {Q:Nat->qa4->Prop} (O:n≠0) (q:∀ i d,i<n->Q i {s with drawn:=d}):wpAny M A (choose src n) Q E s:=fun G p U=>by show Sem.wp M G (.choose src n .pure) _ _ p s;rw [Sem.wp_choose];refine ⟨O,?_⟩;rw [Sem.wp_pure];exact q _ _ (qx3 _ (Nat.pos_of_ne_zero O))
theorem gJ {α:Type}:∀ (n:Nat) (xs:List α) {Q:List α->qa4->Prop} {s:qa4},xs.length=n->(∀ ys d,ys.Perm xs->Q ys {s with drawn:=d})->wpAny M A (drawOrder n xs) Q E s
 | 0,xs,Q,s,O,q=>by have e:xs=[]:=zc2.mp O;subst e;show wpAny M A (pure []) Q E s;refine qa3 ?_;have:=q [] s.drawn (qz7 _);cases s;exact this
 | n+1,[],Q,s,O,q=>by cases O
 | n+1,x::xs,Q,s,O,q=>by show wpAny M A (choose .order (x::xs).length >>= fun i=>match (x::xs)[i]? with | some y=>(drawOrder n ((x::xs).eraseIdx i)) >>= fun ys=>pure (y::ys) | none=>unsupported "internal:drawOrder") Q E s;refine qh6 (qv \5 fun i d hi=>?_);rw [gQ hi];dsimp only;refine wB (gJ n ((x::xs).eraseIdx i) (by rw [qy9 hi];oo) fun ys d2 p=>qa3 (q _ d2 ?_));exact (p.cons _).trans (jd hi)
end
theorem np:entryFor table "set.__iter__"=some qi7.«frozenset.__iter__»:=entryFor_alias (id':="frozenset.__iter__") (by kernel_rfl) rfl \2 (by kernel_rfl)
theorem jq:zf6 (.type "set_iterator") "__next__"=pure (some (.builtin "set_iterator.__next__")):=by rw [qt7,qn5];kernel_rfl
section
variable {P:qc9} {u:World} {A:qe0} {E:Value->qa4->Prop} {s:qa4} {a:Addr} {o:Obj} {es:Array (Int×Value)} {ep:Nat} {t:qn4}
df ko (first:Value) (i:Int) (a:Addr) (n ep:Nat):Obj:={cls:=.type "set_iterator",data:=.fields #[first,qf8 i,.ref a,qf8 n,qf8 ep]}
theorem o5 (g1:s.heap.get? a=some o) (g2:o.ExactSet) (U:o.data=.set es ep t) (W:t.fits es.size=true) (hb:es.size<qo7)
 (q1:∀ (ys:List Nat) d,cw u=true->(t.plain=false/\1<es.size)->ys.Perm (qc1 es.size)->Q (.ref (s.heap.objs.size+1)) {s with drawn:=d,heap:=(s.heap.push {cls:=.type "tuple",data:=.seq (ys.map fun (i:Nat)=>qf8 i).toArray}).push (ko (.ref s.heap.objs.size) 0 a es.size ep)})
 (q2:(cw u=false∨¬ (t.plain=false/\1<es.size))->Q (.ref s.heap.objs.size) {s with heap:=s.heap.push (ko (qf8 0) 0 a es.size ep)}):wpAny (model P u) A (zj8 (.ref a)) Q E s:=by
 have Y:s.TypeIs (.ref a) "set":=⟨o,g1,g2.1⟩;refine za7 Y F.slot_set_iter (qf3 F.slot_set_iter Y np ?_ (F.args_set_iter_1 _));unfold qi7.«frozenset.__iter__»;refine wB (wB (qa3 (qa3 ?_)));unfold qi7.Frozenset.sizeOf zg2;refine wB (wB (wB (qf5 g1 U W (qa3 (qa3 ?_)))));unfold setDrawn zi8;refine wB (wB (qf5 g1 U W (wB (wB (qp5 (qa3 (qa3 ?_)))))));have Z:(!(u.params.followText "set-order"))=cw u:=rfl;show wpAny (model P u) A.in1 (if (!(u.params.followText "set-order")&&(!t.plain&&decide (es.size > 1)))=true then (drawOrder es.size (qc1 es.size) >>= fun ys=>zj5 (ys.map fun (i:Nat)=>qf8 i) >>= fun first=>setEpoch a >>= fun e=>newFields "set_iterator" [first,qf8 0,.ref a,qf8 es.size,qf8 e] >>= fun v=>ret v) else (pure (qf8 0) >>= fun first=>setEpoch a >>= fun e=>newFields "set_iterator" [first,qf8 0,.ref a,qf8 es.size,qf8 e] >>= fun v=>ret v)) _ _ s;rw [Z];by_cases q:(cw u&&(!t.plain&&decide (es.size > 1)))=true
 . rw [if_pos q];simp only [qb4,qj6,decide_eq_true_eq] at q;refine qh6 (gJ _ _ \5 fun ys d p=>?_);have O:ys.length=es.size:=by rw [p.length_eq,qu7]
   refine wB ?_;refine wpAny_newTuple ?_ (by rw [qa2,O];exact qu8 hb);unfold setEpoch;refine wB (wB (qf5 (s:={s with drawn:=d,heap:=s.heap.push {cls:=.type "tuple",data:=.seq (ys.map fun (i:Nat)=>qf8 i).toArray}}) (gP _ g1) U W (qa3 ?_)));refine wB (qd7 (qa3 ⟨_,rfl,"set_iterator",_,⟨_,qb1 _ rfl,rfl⟩,jq,?_⟩));have:=q1 ys d q.1 q.2 p;rw [qg0];exact this
 . rw [if_neg q];refine wB (qa3 ?_);unfold setEpoch;refine wB (wB (qf5 g1 U W (qa3 ?_)));refine wB (qd7 (qa3 ⟨_,rfl,"set_iterator",_,⟨_,qb1 _ rfl,rfl⟩,jq,?_⟩));refine q2 ?_;by_cases h1:cw u=true
   . right;intro z;exact q (by rw [h1,z.1];simp;exact z.2)
   . left;simpa using h1
end
theorem l8:Manifest.owners.lookup (String.ofList ['r','o','t','a','r','e','t','i','_','t','e','s'].reverse)=some Manifest.sig_set_iterator:=by kernel_rfl
theorem slot_setit:Slot "set_iterator" "__next__" "set_iterator.__next__":=.of (owner:="set_iterator") (n:="__next__") (by rw [qt7,qn5];kernel_rfl) \2 \2 \2 (by first | exact .inl \2 | exact .inr \2) (by rw [zg7];kernel_rfl)
theorem gu:entryFor table "set_iterator.__next__"=some qi7.«set_iterator.__next__»:=entryFor_of_tree (by kernel_rfl)
theorem eZ (v:Value):argsOk "set_iterator.__next__" ⟨[v],[]⟩:=by unfold argsOk;rw [signature?_of (id:="set_iterator.__next__") (n:=['_','_','t','x','e','n','_','_']) (o:=['r','o','t','a','r','e','t','i','_','t','e','s']) (by kernel_rfl) l8];kernel_rfl
variable {first x:Value} {i m:Nat} {ot:Obj} {ps:Array Value}
section
variable {P:qc9} {u:World} {A:qe0} {E:Value->qa4->Prop} {s:qa4} {a I:Addr} {o:Obj} {es:Array (Int×Value)} {ep n:Nat} {t:qn4}
df ItAt (h:Heap) (I:Addr) (first:Value) (i:Nat) (a:Addr) (n ep:Nat):Prop:=∃ q,h.get? I=some q/\q.cls=.type "set_iterator"/\q.data=.fields #[first,qf8 i,.ref a,qf8 n,qf8 ep]
theorem ItAt.ty (x:ItAt s.heap I first i a n ep):s.TypeIs (.ref I) "set_iterator":=let ⟨q,h,c,_⟩:=x;⟨q,h,c⟩
theorem kt {T:Addr} {p:Nat} {Y:Int} {Q:Option Value->qa4->Prop} (O:ItAt s.heap I (.ref T) i a es.size ep) (g1:s.heap.get? a=some o) (Z:o.data=.set es ep t) (hf:t.fits es.size=true) (k1:s.heap.get? T=some ot) (k2:ot.data=.seq ps m) (hp:ps[i]?=some (qf8 p)) (Y:es[p]?=some (Y,x))
 (q:∀ h',ItAt h' I (.ref T) (i+1) a es.size ep->qp0 I s.heap h'->Q (some x) {s with heap:=h'}):wpAny (model P u) A (qz0 (.ref I)) Q E s:=by
 obtain ⟨oi,hi,hc,W⟩:=id O;unfold qz0;refine wB (qt5 (qe8 (name:=qa1 "__next__") O.ty slot_setit (qf3 slot_setit O.ty gu ?_ (eZ _))));unfold qi7.«set_iterator.__next__»;refine wB (qa3 (wB (qs0 hi W ?_)));unfold zg2;refine wB (wB (qf5 g1 Z hf (qa3 ?_)));rw [if_neg \5];refine wB (qv1 k1 k2 ?_);dsimp only;rw [qe4,hp];show wpAny _ _ (setNextDrawn a ((p:Int)).toNat ((ep:Int)).toNat >>= fun x=>zc0 (.ref I) 1 (qf8 ((i:Int)+1)) >>= fun _=>ret x) _ _ s;rw [qe4,qe4];unfold setNextDrawn;refine wB (wB (qf5 g1 Z hf ?_));dsimp only;rw [if_neg \5,Y];refine qa3 ?_;refine qh6 (qk1 hi W \5 ?_)
 have U:ItAt (s.heap.update I (qr0 (·.setIfInBounds 1 (qf8 ((i:Int)+1))))) I (.ref T) (i+1) a es.size ep:=⟨_,qe9 _ hi (qi5 (qe5 W _)),(qq9 ..).trans hc,by rw [qe5 W];simp [qf8]⟩
 exact qa3 ⟨_,rfl,qa3 (q _ U (qf2 ..))⟩
end
set_option maxHeartbeats 400000
section
variable {P:qc9} {u:World} {A:qe0} {E:Value->qa4->Prop} {s:qa4} {a I:Addr} {o:Obj} {es:Array (Int×Value)} {ep n:Nat} {t:qn4}
theorem lm {T:Addr} {m:Nat} {Q:Option Value->qa4->Prop} (U:A.handled=none) (O:ItAt s.heap I (.ref T) es.size a es.size ep) (g1:s.heap.get? a=some o) (Y:o.data=.set es ep t) (hf:t.fits es.size=true) (Z:s.heap.get? T=some ot) (k2:ot.data=.seq ps m) (hp:ps.size=es.size)
 (q:∀ h',zh0 I s.heap h'->Q none {s with heap:=h'}):wpAny (model P u) A (qz0 (.ref I)) Q E s:=by
 obtain ⟨oi,hi,hc,W⟩:=id O;unfold qz0;refine wB (qt5 (qe8 (name:=qa1 "__next__") O.ty slot_setit (qf3 slot_setit O.ty gu ?_ (eZ _))));unfold qi7.«set_iterator.__next__»;refine wB (qa3 (wB (qs0 hi W ?_)));unfold zg2;refine wB (wB (qf5 g1 Y hf (qa3 ?_)));rw [if_neg \5];refine wB (qv1 Z k2 ?_);dsimp only;rw [qe4,qm3 \3];show wpAny _ _ (zc0 (.ref I) 0 (qf8 0) >>= fun _=>zc0 (.ref I) 2 .none >>= fun _=>zh9 (.type "StopIteration") [] >>= fun e=>zi0 e) _ _ s;refine qh6 (qk1 hi W \5 ?_);refine qh6 (qk1 (qe9 _ hi (qi5 (qe5 W _))) (qe5 W _) \5 ?_);show wpAny _ _ (zh9 (.type "StopIteration") [] >>= _) _ _ _;refine wB ?_;simp only [zh9,zj5];refine wB (qd7 ?_ (by size_fits));refine qh6 (m:=qo0 _ _) (zb8 (a:=qi0) (by first | rfl | (simp only [qo0];rfl)) ?_);refine qd7 ?_ (by size_fits);simp only [zi0];refine wB (zb9 ?_);rw [show A.in1.handled=none from U];refine wB (qa3 (zh1 ?_));refine wB (qs1 (T:="StopIteration") (b:=true) ⟨_,qb1 _ rfl,rfl⟩ zg6 ?_);exact qa3 (q _ (((qf2 ..).trans (qf2 ..)).extBut.push _ |>.push _))
end
theorem sj {α:Type} (f:Nat->Nat):∀ (n k:Nat) (l:List α) (q:Array α),l.length=n->(zj1 f n k l q).toList.Perm (q.toList++l)
 | 0,k,l,q,U=>by have e:l=[]:=zc2.mp U;subst e;rw [zj1,qh2]
 | n+1,k,l,q,U=>by have O:f k%l.length<l.length:=qx3 _ \3;rw [zj1,gQ O];dsimp only;refine (sj f n (k+1) (l.eraseIdx (f k%l.length)) (q.push l[f k%l.length]) (by rw [qy9 O];oo)).trans ?_;rw [Array.toList_push,qf0];exact zk0.append_left _ (jd O)
theorem sk {α:Type} (f:Nat->Nat) (xs:Array α):(zf3 f xs).toList.Perm xs.toList:=by have:=sj f xs.size 0 xs.toList #[] \5;simpa [zf3] using this
variable {j:Nat}
section
variable {P:qc9} {u:World} {A:qe0} {E:Value->qa4->Prop} {s:qa4} {a I:Addr} {o:Obj} {es:Array (Int×Value)} {ep n:Nat} {t:qn4}
theorem ee {Q:Option (Value×Nat)->qa4->Prop} (O:cw u=false) (g1:s.heap.get? a=some o) (W:o.data=.set es ep t) (U:t.fits es.size=true)
 (q:Q (((zf3 (u.params.setOrder a ep) es)[i]?).map fun e=>(e.2,j)) s):wpAny (model P u) A (zc3 a j i ep) Q E s:=by
 have Y:u.params.followText "set-order"=true:=by unfold cw at O;simpa using O
 unfold zc3 zi8;refine wB (qf5 g1 W U (wB (wB (qp5 (qa3 ?_)))));show wpAny (model P u) A (if u.params.followText "set-order"=true then _ else _) Q E s;rw [if_pos Y,if_neg \5];unfold setWalk zi8;refine wB (wB (qf5 g1 W U (wB (wB (qp5 (qa3 ?_))))));show wpAny (model P u) A (if u.params.followText "set-order"=true then _ else _) _ E s;rw [if_pos Y];refine wB (qp5 (qa3 ?_));exact qa3 q
end
section
variable {P:qc9} {u:World} {A:qe0} {E:Value->qa4->Prop} {s:qa4} {a I:Addr} {o:Obj} {es:Array (Int×Value)} {ep n:Nat} {t:qn4}
theorem fq {Q:Option (Value×Nat)->qa4->Prop} (O:cw u=true) (U:t.led=true) (one:es.size<=1) (g1:s.heap.get? a=some o) (W:o.data=.set es ep t) (Y:t.fits es.size=true)
 (q:Q (match es[qk3 t.place j]?,t.place[qk3 t.place j]? with | some (_,x),some k=>some (x,k+1) | _,_=>none) s):wpAny (model P u) A (zc3 a j i ep) Q E s:=by
 have Z:u.params.followText "set-order"=false:=by unfold cw at O;simpa using O
 unfold zc3 zi8;refine wB (qf5 g1 W Y (wB (wB (qp5 (qa3 ?_)))));show wpAny (model P u) A (if u.params.followText "set-order"=true then _ else if (!t.plain&&decide (es.size > 1))=true then _ else (if (!t.led&&!es.isEmpty)=true then unsupported "set:maker-not-led" else pure ()) >>= fun _=>pure (match es[qk3 t.place j]?,t.place[qk3 t.place j]? with | some (_,x),some k=>some (x,k+1) | _,_=>none)) Q E s;rw [Z,if_neg \7,if_neg (by simp;oo),if_neg (by simp [U])];exact wB (qa3 (qa3 q))
theorem ku {next:Nat} {Q:Option Value->qa4->Prop} (O:ItAt s.heap I (qf8 j) i a es.size ep) (g1:s.heap.get? a=some o) (g3:o.data=.set es ep t) (hf:t.fits es.size=true) (hn:∀ {A':qe0} {Z:Option (Value×Nat)->qa4->Prop} {E':Value->qa4->Prop},Z (some (x,next)) s->wpAny (model P u) A' (zc3 a j i ep) Z E' s)
 (q:∀ h',ItAt h' I (qf8 next) (i+1) a es.size ep->qp0 I s.heap h'->Q (some x) {s with heap:=h'}):wpAny (model P u) A (qz0 (.ref I)) Q E s:=by
 obtain ⟨oi,hi,hc,U⟩:=id O;unfold qz0;refine wB (qt5 (qe8 (name:=qa1 "__next__") O.ty slot_setit (qf3 slot_setit O.ty gu ?_ (eZ _))));unfold qi7.«set_iterator.__next__»;refine wB (qa3 (wB (qs0 hi U ?_)));unfold zg2;refine wB (wB (qf5 g1 g3 hf (qa3 ?_)));rw [if_neg \5];show wpAny _ _ (zc3 a ((j:Int)).toNat ((i:Int)).toNat ((ep:Int)).toNat >>= _) _ _ s;rw [qe4,qe4,qe4];refine wB (hn ?_);show wpAny _ _ (zc0 (.ref I) 0 (qf8 next) >>= fun _=>zc0 (.ref I) 1 (qf8 ((i:Int)+1)) >>= fun _=>ret x) _ _ s;refine qh6 (qk1 hi U \5 ?_);refine qh6 (qk1 (qe9 _ hi (qi5 (qe5 U _))) (qe5 U _) \5 ?_);have e1:(s.heap.update I (qr0 (·.setIfInBounds 0 (qf8 next)))).get? I=some (qr0 (·.setIfInBounds 0 (qf8 next)) oi):=qe9 _ hi (qi5 (qe5 U _));have Y:=qe5 U (·.setIfInBounds 0 (qf8 next))
 have W:ItAt ((s.heap.update I (qr0 (·.setIfInBounds 0 (qf8 next)))).update I (qr0 (·.setIfInBounds 1 (qf8 ((i:Int)+1))))) I (qf8 next) (i+1) a es.size ep:=⟨_,qe9 _ e1 (qi5 (qe5 Y _)),(qq9 ..).trans ((qq9 ..).trans hc),by rw [qe5 Y];simp [qf8]⟩
 exact qa3 ⟨_,rfl,qa3 (q _ W ((qf2 ..).trans (qf2 ..)))⟩
theorem ln {Q:Option Value->qa4->Prop} (U:A.handled=none) (O:ItAt s.heap I (qf8 j) i a es.size ep) (g1:s.heap.get? a=some o) (g3:o.data=.set es ep t) (hf:t.fits es.size=true) (Z:∀ {A':qe0} {Y:Option (Value×Nat)->qa4->Prop} {E':Value->qa4->Prop},Y none s->wpAny (model P u) A' (zc3 a j i ep) Y E' s)
 (q:∀ h',zh0 I s.heap h'->Q none {s with heap:=h'}):wpAny (model P u) A (qz0 (.ref I)) Q E s:=by
 obtain ⟨oi,hi,hc,W⟩:=id O;unfold qz0;refine wB (qt5 (qe8 (name:=qa1 "__next__") O.ty slot_setit (qf3 slot_setit O.ty gu ?_ (eZ _))));unfold qi7.«set_iterator.__next__»;refine wB (qa3 (wB (qs0 hi W ?_)));unfold zg2;refine wB (wB (qf5 g1 g3 hf (qa3 ?_)));rw [if_neg \5];show wpAny _ _ (zc3 a ((j:Int)).toNat ((i:Int)).toNat ((ep:Int)).toNat >>= _) _ _ s;rw [qe4,qe4,qe4];refine wB (Z ?_);show wpAny _ _ (zc0 (.ref I) 2 .none >>= fun _=>zh9 (.type "StopIteration") [] >>= fun e=>zi0 e) _ _ s;refine qh6 (qk1 hi W \5 ?_);show wpAny _ _ (zh9 (.type "StopIteration") [] >>= _) _ _ _;refine wB ?_;simp only [zh9,zj5];refine wB (qd7 ?_ (by size_fits));refine qh6 (m:=qo0 _ _) (zb8 (a:=qi0) (by first | rfl | (simp only [qo0];rfl)) ?_);refine qd7 ?_ (by size_fits);simp only [zi0];refine wB (zb9 ?_);rw [show A.in1.handled=none from U];refine wB (qa3 (zh1 ?_));refine wB (qs1 (T:="StopIteration") (b:=true) ⟨_,qb1 _ rfl,rfl⟩ zg6 ?_);exact qa3 (q _ ((qf2 ..).extBut.push _ |>.push _))
end
theorem fu:Slot "set_iterator" "__iter__" "set_iterator.__iter__":=.of (owner:="set_iterator") (n:="__iter__") (by rw [qt7,qn5];kernel_rfl) \2 \2 \2 (by first | exact .inl \2 | exact .inr \2) (by rw [zg7];kernel_rfl)
theorem kw:entryFor table "set_iterator.__iter__"=some qi7.«dict_keyiterator.__iter__»:=entryFor_alias (id':="dict_keyiterator.__iter__") (by kernel_rfl) rfl \2 (by kernel_rfl)
theorem jE (v:Value):argsOk "set_iterator.__iter__" ⟨[v],[]⟩:=by unfold argsOk;rw [signature?_of (id:="set_iterator.__iter__") (n:=['_','_','r','e','t','i','_','_']) (o:=['r','o','t','a','r','e','t','i','_','t','e','s']) (by kernel_rfl) l8];kernel_rfl
variable {ord:Nat->Value}
section
variable {P:qc9} {u:World} {A:qe0} {E:Value->qa4->Prop} {s:qa4} {a I:Addr} {o:Obj} {es:Array (Int×Value)} {ep n:Nat} {t:qn4}
theorem fW (O:ItAt s.heap I first i a n ep) (q:Q (.ref I) s):wpAny (model P u) A (zj8 (.ref I)) Q E s:=by refine za7 O.ty fu (qf3 fu O.ty kw ?_ (jE _));show wpAny _ _ (ret (.ref I)) _ _ s;exact qa3 ⟨_,rfl,"set_iterator",_,O.ty,slot_setit.lookup,q⟩
theorem nq {Q:Bool->qa4->Prop} (W:s.TypeIs (.ref a) "set") (q:Q false s):wpAny (model P u) A (ql9 (.ref a)) Q E s:=by
 unfold ql9;refine wB (qx9 W PySem.F.slot_set_len.lookup ?_);generalize O:("set.__len__":String)=U
 wp_delta
 rw [show splitId U=some ("set","__len__") from by subst O;decide +kernel];subst O;refine wB (qs1 (T:="set") (b:=true) W sub_set_self ?_);refine qm0 (fun z=>absurd z \7) (fun _=>?_);refine qm0 (fun _=>wB (qv2 W (qa3 q))) (fun z=>absurd \2 z)
theorem ItAt.keep (x:ItAt h I first i a n ep) (e:∀ q,h.get? I=some q->h'.get? I=some q):ItAt h' I first i a n ep:=let ⟨q,g,r⟩:=x;⟨q,e q g,r⟩
theorem qw {T:Addr} (U:A.handled=none) (g3:o.data=.set es ep t) (hf:t.fits es.size=true) (k2:ot.data=.seq ps m) (hps:ps.size=es.size) (hI:I≠a) (Z:I≠T) (O:∀ i,i<es.size->∃ p hx,ps[i]?=some (qf8 (p:Nat))/\es[p]?=some (hx,ord i)) :
  WalksS P u A I [I,a,T] [I] (fun x y=>y=x) es.size (fun i v=>v=ord i) (fun i s=>ItAt s.heap I (.ref T) i a es.size ep/\s.heap.get? a=some o/\s.heap.get? T=some ot) where
 sub:=fun b W=>by rw [qb9.mp W];exact .head _
 grefl:=fun _=>rfl
 gtrans:=fun _ _ _ h1 h2=>h2.trans h1
 frame:=fun i s h' tk ⟨x,y,z⟩ _ e=>⟨x.keep fun q g=>e I (.head _) q g,e a (.tail _ (.head _)) _ y,e T (.tail _ (.tail _ (.head _))) _ z⟩
 item:=fun i s Q E hi ⟨x,y,z⟩ q=>by
  obtain ⟨p,hx,h1,h2⟩:=O i hi;refine kt x y g3 hf z k2 h1 h2 fun h' it Y=>q _ _ rfl ⟨it,(Y.2 a (qq1 hI)).trans y,(Y.2 T (qq1 Z)).trans z⟩ ⟨fun b ob W e=>?_,rfl,rfl,rfl,nL _⟩
  exact (Y.2 b (fun w=>W (by rw [w];exact .head _))).trans e
 done:=fun s Q E ⟨x,y,z⟩ q=>lm U x y g3 hf z k2 hps fun h' eb=>q _ ⟨fun b ob W e=>eb b ob (fun w=>W (by rw [w];exact .head _)) e,rfl,rfl,rfl,nL _⟩
 self:=fun i s Q E ⟨x,_⟩ q=>fW x q
end
section
variable {P:qc9} {u:World} {A:qe0} {E:Value->qa4->Prop} {s:qa4} {a I:Addr} {o:Obj} {es:Array (Int×Value)} {ep n:Nat} {t:qn4}
theorem kx {sl:Nat->Nat} (U:A.handled=none) (g3:o.data=.set es ep t) (hf:t.fits es.size=true) (hI:I≠a)
 (hn:∀ i,i<es.size->∀ (s:qa4),s.heap.get? a=some o->∀ {Y:qe0} {O:Option (Value×Nat)->qa4->Prop} {Z:Value->qa4->Prop},O (some (ord i,sl (i+1))) s->wpAny (model P u) Y (zc3 a (sl i) i ep) O Z s)
 (he:∀ (s:qa4),s.heap.get? a=some o->∀ {Y:qe0} {O:Option (Value×Nat)->qa4->Prop} {Z:Value->qa4->Prop},O none s->wpAny (model P u) Y (zc3 a (sl es.size) es.size ep) O Z s) :
  WalksS P u A I [I,a] [I] (fun x y=>y=x) es.size (fun i v=>v=ord i) (fun i s=>ItAt s.heap I (qf8 (sl i)) i a es.size ep/\s.heap.get? a=some o) where
 sub:=fun b W=>by rw [qb9.mp W];exact .head _
 grefl:=fun _=>rfl
 gtrans:=fun _ _ _ h1 h2=>h2.trans h1
 frame:=fun i s h' tk ⟨x,y⟩ _ e=>⟨x.keep fun q g=>e I (.head _) q g,e a (.tail _ (.head _)) _ y⟩
 item:=fun i s Q E hi ⟨x,y⟩ q=>ku x y g3 hf (hn i hi s y) fun h' it sb=>q _ _ rfl ⟨it,(sb.2 a (qq1 hI)).trans y⟩ ⟨fun b ob W e=>(sb.2 b (fun w=>W (by rw [w];exact .head _))).trans e,rfl,rfl,rfl,nL _⟩
 done:=fun s Q E ⟨x,y⟩ q=>ln U x y g3 hf (he s y) fun h' eb=>q _ ⟨fun b ob W e=>eb b ob (fun w=>W (by rw [w];exact .head _)) e,rfl,rfl,rfl,nL _⟩
 self:=fun i s Q E ⟨x,_⟩ q=>fW x q
theorem o7 {l m:List (Int×Value)} (x:Tx P u l ss) (p:m.Perm l):∃ ks,ze9 (m.map (·.2)) ks/\ks.Perm ss:=by
 have y:=x.perm p;refine ⟨m.map fun e=>wj e.2,?_,y.per⟩
 have q:∀ m:List (Int×Value),(∀ e∈m,∃ k t,e.2=.str k t/\e.1=(PySem.strKind P u).hash k)->ze9 (m.map (·.2)) (m.map fun e=>wj e.2):=fun m=>by
  induction m with
  | nil=>intro _;exact .nil
  | cons e m U =>intro h;obtain ⟨k,tk,h1,_⟩:=h e \5;rw [qa7,qa7,h1];exact .cons k tk (U fun z O=>h z (by simp [O]))
 exact q m y.all
theorem nr (hS:TxS P u s.heap a ss (cw u))
 (q:∀ (I:Addr) (fp:List Addr) (vs:List Value) (ks:List Str) (St:Nat->qa4->Prop) (d:Drawn) (h':Heap),(∀ Y:qe0,Y.handled=none->WalksS P u Y I fp [I] (fun x y=>y=x) vs.length (fun i v=>v=vs.getD i .none) St)->St 0 {s with drawn:=d,heap:=h'}->(∀ b∈fp,b<h'.objs.size/\(b=a∨s.heap.objs.size<=b))->(∀ b ob,s.heap.get? b=some ob->h'.get? b=some ob)->s.heap.objs.size<=I->ze9 vs ks->ks.Perm ss->Q (.ref I) {s with drawn:=d,heap:=h'}) :
  wpAny (model P u) A (zj8 (.ref a)) Q E s:=by
 obtain ⟨o,es,ep,t,g1,g2,g3,x,hb,hf,hl,hp⟩:=hS.ex;have la:a<s.heap.objs.size:=qa9 g1;refine o5 g1 g2 g3 hf hb (fun ys d byP hd p=>?_) (fun hm=>?_)
 . -- drawn
   have hyl:ys.length=es.size:=by rw [p.length_eq,qu7]
   have perm:(ys.map fun i=>es.toList.getD i (0,.none)).Perm es.toList:=by
    refine (p.map _).trans ?_
    have e:(qc1 es.size).map (fun i=>es.toList.getD i (0,.none))=es.toList:=by
     apply qv7
     . simp
     . intro i h1 h2;simp at h1 h2;simp [h2]
    rw [e]
   obtain ⟨ks,k1,k2⟩:=o7 x perm;have Z:((ys.map fun i=>es.toList.getD i (0,.none)).map (·.2)).length=es.size:=by rw [qa2,qa2,hyl]
   refine q (s.heap.objs.size+1) [s.heap.objs.size+1,a,s.heap.objs.size] ((ys.map fun i=>es.toList.getD i (0,.none)).map (·.2)) ks (fun i s'=>ItAt s'.heap (s.heap.objs.size+1) (.ref s.heap.objs.size) i a es.size ep/\s'.heap.get? a=some o/\s'.heap.get? s.heap.objs.size=some {cls:=.type "tuple",data:=.seq (ys.map fun (i:Nat)=>qf8 i).toArray}) d _ (fun Y O=>?_) ⟨⟨ko (.ref s.heap.objs.size) 0 a es.size ep,?_,rfl,rfl⟩,?_,?_⟩ ?_ ?_ (qp3 _) k1 k2
   . rw [Z];refine qw O g3 hf rfl (by simp [hyl]) (qm8 (qj8 la)) (Nat.succ_ne_self _) fun i hi=>?_
     have U:i<ys.length:=by oo
     have hy:ys[i]<es.size:=qd5.mp (p.mem_iff.mp (qg5 U));refine ⟨ys[i],es[ys[i]].1,by simp [U],?_⟩;simp [U,hy]
   . have:=qb1 (s.heap.push {cls:=.type "tuple",data:=.seq (ys.map fun (i:Nat)=>qf8 i).toArray}) (o:=ko (.ref s.heap.objs.size) 0 a es.size ep) rfl;rw [qg0] at this;exact this
   . exact gP _ (gP _ g1)
   . exact gP _ (qb1 _ rfl)
   . intro b hb;rw [qg0,qg0];rcases qb6.mp hb with rfl | hb
     . exact ⟨qm6 _,.inr (qp3 _)⟩
     . rcases qb6.mp hb with rfl | hb
       . exact ⟨qj8 (qj8 la),.inl rfl⟩
       . rw [qb9.mp hb];exact ⟨qj8 (qm6 _),.inr (nL _)⟩
   . exact fun b ob e=>gP _ (gP _ e)
 . -- by the world's text,or one at most
   have fin:∀ (m:List (Int×Value)) (sl:Nat->Nat),m.Perm es.toList->sl 0=0->(∀ Y:qe0,Y.handled=none->WalksS P u Y s.heap.objs.size [s.heap.objs.size,a] [s.heap.objs.size] (fun x y=>y=x) es.size (fun i v=>v=(m.map (·.2)).getD i .none) (fun i s'=>ItAt s'.heap s.heap.objs.size (qf8 (sl i)) i a es.size ep/\s'.heap.get? a=some o))->Q (.ref s.heap.objs.size) {s with heap:=s.heap.push (ko (qf8 0) 0 a es.size ep)}:=fun m sl p h0 W=>by
    obtain ⟨ks,k1,k2⟩:=o7 x p;have Z:(m.map (·.2)).length=es.size:=by rw [qa2,p.length_eq,qe6]
    have:=q s.heap.objs.size [s.heap.objs.size,a] (m.map (·.2)) ks (fun i s'=>ItAt s'.heap s.heap.objs.size (qf8 (sl i)) i a es.size ep/\s'.heap.get? a=some o) s.drawn (s.heap.push (ko (qf8 0) 0 a es.size ep)) (by rw [Z];exact W) ⟨⟨ko (qf8 0) 0 a es.size ep,qb1 _ rfl,rfl,by rw [h0];rfl⟩,gP _ g1⟩ (fun b hb=>by
     rw [qg0];rcases qb6.mp hb with rfl | hb
     . exact ⟨qm6 _,.inr (nL _)⟩
     . rw [qb9.mp hb];exact ⟨qj8 la,.inl rfl⟩) (fun b ob e=>gP _ e) (nL _) k1 k2
    exact this
   have ne:s.heap.objs.size≠a:=qm8 la;by_cases byT:cw u=false
   . refine fin (zf3 (u.params.setOrder a ep) es).toList (fun _=>0) (sk _ _) rfl fun Y O=>?_
     have hsz:(zf3 (u.params.setOrder a ep) es).size=es.size:=by have:=(sk (u.params.setOrder a ep) es).length_eq;simpa using this
     refine kx O g3 hf ne (fun i hi s' gs Y Q' E' q'=>ee byT gs g3 hf ?_) (fun s' gs Y Q' E' q'=>ee byT gs g3 hf ?_)
     . have U:i<(zf3 (u.params.setOrder a ep) es).size:=by oo
       rw [qk2 U];simpa [U] using q'
     . rw [qm3 \3];exact q'
   . have byP:cw u=true:=by simpa using byT
     have one:es.size<=1:=by
      rcases hm with h1 | h1
      . exact absurd h1 byT
      . rcases hp with h2 | h2
        . oo
        . exact Nat.le_of_not_lt fun z=>h1 ⟨h2,z⟩
     have hpl:t.place.size=es.size:=by unfold qn4.fits at hf;simp at hf;exact hf.1
     refine fin es.toList (fun i=>if i=0 then 0 else t.place.getD 0 0+1) (qz7 _) rfl fun Y O=>?_
     refine kx O g3 hf ne (fun i hi s' gs Y Q' E' q'=>fq byP (hl.trans byP) one gs g3 hf ?_) (fun s' gs Y Q' E' q'=>fq byP (hl.trans byP) one gs g3 hf ?_)
     . obtain rfl:i=0:=by oo
       have h1:es.size=1:=by oo
       have h2:t.place.size=1:=by oo
       have e0:qk3 t.place 0=0:=by unfold qk3;rw [h2];simp [za9]
       rw [if_pos rfl,e0,qk2 \3,qk2 \3];simpa [h1,h2] using q'
     . by_cases h0:es.size=0
       . have h2:t.place.size=0:=by oo
         have e0:qk3 t.place 0=0:=by unfold qk3;rw [h2];simp [za9]
         rw [if_pos h0,e0,qm3 \3];exact q'
       . have h2:t.place.size=1:=by oo
         have e0:qk3 t.place (t.place.getD 0 0+1)=1:=by unfold qk3;rw [h2];simp [za9,h2]
         rw [if_neg h0,e0,qm3 \3];exact q'
end
section
variable {P:qc9} {u:World} {A:qe0} {E:Value->qa4->Prop} {s:qa4} {a:Addr}
theorem TxS.small (x:TxS P u h a ss led):ss.length<qo7/\∃ o,h.get? a=some o/\o.cls=.type "set":=by obtain ⟨o,es,ep,t,g1,g2,O,y,q,_⟩:=x.ex;refine ⟨?_,o,g1,g2.1⟩;rw [<- y.per.length_eq,qa2,qe6];exact q
theorem jF {Q:List Value->qa4->Prop} (calm:A.handled=none) (hS:TxS P u s.heap a ss (cw u))
 (q:∀ (vs:List Value) (ks:List Str) (d:Drawn) (h':Heap) (tk:Nat),ze9 vs ks->ks.Perm ss->s.heap.objs.size<=h'.objs.size->(∀ b ob,s.heap.get? b=some ob->h'.get? b=some ob)->Q vs {s with drawn:=d,heap:=h',toks:=tk}):wpAny (model P u) A (collect (.ref a)) Q E s:=by
 obtain ⟨hsz,o,g1,gc⟩:=hS.small;have la:a<s.heap.objs.size:=qa9 g1;unfold collect;refine wB (wpAny_runValue (qq5 PySem.F.entry_proto_collect ?_));rw [qo1 PySem.F.plain_proto_collect _];show wpAny _ A.in1 (newList [] >>= fun l=>again (.builtin "list.__iadd__" ⟨[l,.ref a],[]⟩)) _ _ s;refine wB (qd7 ?_);refine qa3 ⟨qw8 PySem.F.plain_list_iadd _,qq5 PySem.F.entry_list_iadd ?_⟩;rw [qo1 PySem.F.plain_list_iadd _];show wpAny _ A.in1 (qh4 (.ref s.heap.objs.size) (.ref a) (.ref s.heap.objs.size)) _ _ _;have hS1:TxS P u (s.heap.push {cls:=.type "list",data:=.seq ([]:List Value).toArray}) a ss (cw u):=hS.moved fun ob e=>gP _ e
 have hT1:zi1 {s with heap:=s.heap.push {cls:=.type "list",data:=.seq ([]:List Value).toArray}} (.ref a) "set":=⟨o,gP _ g1,gc⟩;have gL:(s.heap.push {cls:=.type "list",data:=.seq ([]:List Value).toArray}).get? s.heap.objs.size=some {cls:=.type "list",data:=.seq ([]:List Value).toArray}:=qb1 _ rfl;unfold qh4;refine wB (qv2 hT1 ?_);have h1:qo8 (.ref s.heap.objs.size) (.ref a)=false:=by simp [qo8,qm8 la]
 have h2:(qk9 "set"==qk9 "list")=false:=by decide
 have h3:(qk9 "set"==qk9 "tuple")=false:=by decide
 simp only [h1,h2,h3,qt3,qf1,if_false];refine wB (nr (s:={s with heap:=s.heap.push {cls:=.type "list",data:=.seq ([]:List Value).toArray}}) hS1 fun I fp vs ks St d h' W st hfp keep hI k1 k2=>?_);have hTI:zi1 {s with drawn:=d,heap:=h'} (.ref a) "set":=⟨o,keep a o (gP _ g1),gc⟩;refine wB (qi2 (nq hTI ?_));show wpAny _ A.in1 (rule "list.extend.makes-room" >>= fun _=>qi7.List.listTouch (.ref s.heap.objs.size) >>= fun _=>again (.builtin "list.extend.loop" ⟨[.ref s.heap.objs.size,.ref I,.ref s.heap.objs.size],[]⟩)) _ _ _;refine wB (qx2 (wB ?_));have gL1:=keep _ _ gL;show wpAny _ A.in1 (updateSeq s.heap.objs.size (·.push .none) >>= fun _=>updateSeq s.heap.objs.size (·.pop)) _ _ _;refine wB (zf4 gL1 rfl ?_);have gL2:=qe9 (qp6 (·.push qi0)) gL1 rfl;refine zf4 gL2 rfl ?_;have gL3:=qe9 (qp6 (·.pop)) gL2 rfl;have oth:∀ b ob,b≠s.heap.objs.size->h'.get? b=some ob->((h'.update s.heap.objs.size (qp6 (·.push qi0))).update s.heap.objs.size (qp6 (·.pop))).get? b=some ob:=fun b ob hb e=>(qm2 _ _ (qq1 hb)).trans ((qm2 _ _ (qq1 hb)).trans e)
 have Z:s.heap.objs.size∉fp:=fun hm=>by
  rcases (hfp _ hm).2 with z | z
  . exact qm8 la z
  . have z:(s.heap.push {cls:=.type "list",data:=.seq ([]:List Value).toArray}).objs.size<=s.heap.objs.size:=z;rw [qg0] at z;exact Nat.not_succ_le_self _ z
 have W1:=W A.in1 (by simp [calm])
 have hvl:vs.length<=qb2:=by
  have e:vs.length=ss.length:=by
   rw [<- k2.length_eq];clear k2 W1 W;induction k1 with
   | nil=>rfl
   | cons y tk _ ih=>simp [ih]
  rw [e];exact qu8 hsz
 refine qa3 ⟨qw8 PySem.F.plain_extend_loop _,codeAny_extend_loopS W1 hvl _ Z _ vs.length 0 _ _ _ rfl (qn8 _) (W1.frame 0 ({s with drawn:=d,heap:=h'}:qa4) _ s.toks st (nL _) fun b hb ob e=>oth b ob (fun h=>Z (h▸hb)) e) gL3 (ItemsOf.nil _) fun s2 acc c2 mv U O=>?_⟩;show wpAny _ A (load s.heap.objs.size >>= _) _ _ s2;refine wB (wpAny_load U ?_)
 have hav:acc.toList=vs:=by
  apply qv7
  . simpa using O.1
  . intro i h1 h2;have:=O.2 i acc.toList[i] \5;rw [this];simp [h2]
 rw [<- hav] at k1;obtain ⟨h2',g2',d2',Y,o2'⟩:=s2;have eg:g2'=s.gens:=mv.gens;have ed:d2'=d:=mv.drawn;have eo:o2'=s.os:=mv.os;subst eg ed eo;refine qa3 (q acc.toList ks d2' h2' Y k1 k2 (ql4 (qa9 U)) fun b ob e=>?_);have nb:b≠s.heap.objs.size:=qc0 (qa9 e);refine mv.heap b ob (fun hm=>?_) (oth b ob nb (keep b ob (gP _ e)));rcases qb6.mp hm with z | z
 . exact nb z
 . rw [qb9.mp z] at e;have z2:(s.heap.push {cls:=.type "list",data:=.seq ([]:List Value).toArray}).objs.size<=I:=hI;rw [qg0] at z2;exact absurd (qa9 e) (qj1.mpr (Nat.le_of_succ_le z2))
end
section
variable {P:qc9} {u:World} {A:qe0} {E:Value->qa4->Prop} {s:qa4} {a:Addr}
theorem wn {vs:List Value} {ks:List Str} (h:ze9 vs ks):vs.length=ks.length:=by
 induction h with
 | nil=>rfl
 | cons y tk _ q=>simp [q]
theorem kz (W:A.handled=none) (hS:TxS P u s.heap a ss (cw u)) (Z:ss.length<64)
 (q:∀ (l:Addr) (U:Array Value) (ks:List Str) (d:Drawn) (h':Heap) (tk:Nat),ze9 U.toList ks->ks.Perm ss->sortedS ks=true->(∃ e,h'.get? l=some (seqObj "list" U e))->s.heap.objs.size<=l->(∀ b ob,s.heap.get? b=some ob->h'.get? b=some ob)->Q (.ref l) {s with drawn:=d,heap:=h',toks:=tk}):wpAny (model P u) A (call (.builtin "sorted") [.ref a]) Q E s:=by
 refine Calls.call_function_entry kind_sorted plain_sorted entry_sorted (args_sorted1 _) ?_;unfold qi7.«sorted»;refine wB (m:=checkCount "sorted" 1 1 _) (qa3 ?_);refine qh6 (jF (by simp [W]) hS fun vs ks d h' tk Y k2 le keep=>?_);have O:vs.length<64:=by rw [wn Y,k2.length_eq];exact Z
 refine wB (wpAny_newList ?_ (qc3 (ql4 O) \7));have gL:(h'.push (seqObj "list" vs.toArray 0)).get? h'.objs.size=some (seqObj "list" vs.toArray 0):=qb1 _ rfl;show wpAny _ _ _ _ _ {s with drawn:=d,toks:=tk,heap:=h'.push (seqObj "list" vs.toArray 0)};refine wB (qi2 (qf3 slot_list_sort ⟨_,gL,rfl⟩ entry_list_sort (list_sort_treeK strKind_oneLt gL Y.keysOf (fun v1 v2 r e=>keyKind_strs (by rw [<- e];exact Y)) O fun st a1 a2=>⟨_,rfl,?_⟩) (args_list_sort _)));obtain ⟨ks2,e1,e2,e3⟩:=sorted_out_str Y a1 a2;refine qa3 ⟨_,rfl,?_⟩;refine q _ _ ks2 d _ tk e1 (e2.trans k2) e3 (sortedHeap_at gL) le fun b ob e=>?_
 have lt:b<h'.objs.size:=qa9 (keep b ob e);rw [sortedHeap_old (qc0 lt) (by rw [size_push'];exact qj8 lt)];exact gP _ (keep b ob e)
end
df dG (ss:List Str):List Str:=ss.foldl ll []
theorem l9 (ss:List Str):met (fun i=>ss.getD i "") ss.length=dG ss:=by
 unfold met dG;congr 1;apply qv7
 . simp
 . intro i h1 h2;simp at h1;simp [h1]
theorem ui (ss:List Str):(dG ss).length<=ss.length:=by rw [<- l9];exact nn _ _
variable {X:Cx} {H:Hp}
theorem Inv.dr {pins:List (Addr×Obj)} {σ:St} (I:Inv X pins σ H s) (d:Drawn):Inv X pins σ H {s with drawn:=d}:=⟨I.ok,I.os,I.bare,I.base,I.loc,I.cell,I.free,I.freeC,I.pin,I.hok,I.len⟩
theorem so:∀ {vs:List Value} {ss:List Str},ze9 vs ss->∀ (i:Nat) (v:Value),vs[i]?=some v->∃ t,v=.str (ss.getD i "") t
 | _,_,.nil,i,v,h=>by simp at h
 | _,_,.cons y t r,0,v,h=>by simp at h;exact ⟨t,by rw [<- h];rfl⟩
 | _,_,.cons y t r,i+1,v,h=>so r i v (by simpa using h)
abbrev wo (X:Cx) (l:Addr) (ss:List Str):HO:=.ext fun h=>TxS X.prog X.w h l ss (cw X.w)
section
variable {X:Cx}
theorem uj (U:X.calm=true):bX X (.type "set") (fun xs H Q=>∃ p ss,xs=[.ref p]/\SqL X.K H p (ss.map V.str)/\ss.length<64/\∀ l,H l=none->Q (.ref l) (upd H l (wo X l (dG ss)))):=by
 intro pins s σ H xs us Q I r h;obtain ⟨p,ss,rfl,hq,hz,q⟩:=h;obtain ⟨u,rfl,rx⟩:=gF r;cases rx;obtain ⟨its,Y,pl,hz'⟩:=I.list hq;have Z:=ki Y;have O:its.length=ss.length:=by have:=Y.length;simpa using this.symm
 have hi:∀ (i:Nat) (v:Value),its.toArray[i]?=some v->∃ t,v=.str (ss.getD i "") t:=fun i v hv=>so Z i v (by simpa using hv)
 have hb:its.toArray.size+1<qo7:=by
  have:its.toArray.size=ss.length:=by simpa using O
  rw [this];unfold qo7;oo
 refine wm (I.ok.hd U) pl.isList hi hb fun hp tk W kept=>?_
 have e:met (fun i=>ss.getD i "") its.toArray.size=dG ss:=by rw [show its.toArray.size=ss.length by simpa using O];exact l9 ss
 rw [e] at W;refine ⟨.ref s.heap.objs.size,_,I.laid (t':=tk) (fun b o g=>kept b o (qa9 g) g) (nL _) (show ObjOk X.prog X.w _ _ _ (wo X s.heap.objs.size (dG ss)) from ⟨W,?_,fun h1 h2 x g=>x.moved g⟩),rfl,q _ (I.hok.fresh (nL _))⟩;obtain ⟨_,o,g,_⟩:=W.small;exact ⟨o,g⟩
theorem nu (O:X.calm=true):bX X (.builtin "sorted") (fun xs H Q=>∃ p ss,xs=[.ref p]/\H p=some (wo X p ss)/\ss.length<64/\∀ l,H l=none->Q (.ref l) (upd H l (.lst ((iF ss).map V.str)))):=by
 intro pins s σ H xs us Q I r h;obtain ⟨p,ss,rfl,hq,Z,q⟩:=h;obtain ⟨u,rfl,rx⟩:=gF r;cases rx;have hT:TxS X.prog X.w s.heap p ss (cw X.w):=(show ObjOk X.prog X.w H s.heap p (wo X p ss) from I.hok p _ hq).1;refine kz (I.ok.hd O) hT Z fun l W ks d h' tk a1 a2 a3 U Y kept=>?_
 have e:ks=iF ss:=lY (a2.trans (g9 ss).symm) (ud ks a3) (v8 ss);subst e;obtain ⟨c,U⟩:=U;refine ⟨.ref l,_,(I.laid (t':=tk) kept Y (show ObjOk X.prog X.w _ _ _ (.lst ((iF ss).map V.str)) from ⟨?_,W.toList,c,lZ a1,U⟩)).dr d,rfl,q _ (I.hok.fresh Y)⟩;rw [qa2,(g9 ss).length_eq];exact qc3 (ql4 Z) \7
end
df fX:List Dt->Option T
 | [.lst ds]=>(fQ ds).bind fun ss=>if ss.length<64 then some (.lst ((iF (dG ss)).map .str)) else none
 | _=>none
section
variable {X:Cx} {e:Expr} {pos pos2 p p2:Pos} {sc:Scope} {fs:De->Option (List Dt)}
theorem qx (h1:aH sc "sorted"=true) (h2:aH sc "set"=true) (Y:X.calm=true) (m1:X.mg "sorted"=none) (m2:X.mg "set"=none) (ha:DAB X [e] fs) (W:bH X sc:=by rfl)
  (s1:qa6 [.Call (.Name "set" p2) [e] [] pos2] X.env=(false,eval (.Call (.Name "set" p2) [e] [] pos2) X.env)::qa6 [] X.env:=by rfl) (n1:(qi4 pos (qa6 [] X.env)).any (·.1)=false:=by rfl)
  (s2:qa6 [e] X.env=#a::qa6 [] X.env:=by rfl) (n2:(qi4 pos2 (qa6 [] X.env)).any (·.1)=false:=by rfl):DO X (.Call (.Name "sorted" p) [.Call (.Name "set" p2) [e] [] pos2] [] pos) (ai fX fs):=
 PE.mono (gm h1 (nu Y) m1 (by rfl) (bJ (eM h2 (uj Y) m2 (by rfl) ha.pa W s2 n2) cW s1) W s1 n1) fun σ H Q ⟨Φ,δ,F,t,hK,en,Z,k⟩=>by
  unfold ai at Z;obtain ⟨ds,hd,q⟩:=bS Z;refine ⟨Φ,δ,F,ds,hK,en,hd,fun vs H1 F1 st r=>?_⟩;unfold fX at q;split at q<;>first | (cases q;done) | skip
  obtain ⟨ss,hs,q⟩:=bS q;split at q<;>cases q
  rename_i hz;obtain ⟨v,rfl,rv⟩:=du r;obtain ⟨b,ws,rfl,g1,g2⟩:=rv;have:=i7 g2 hs;subst this;refine ⟨b,ss,rfl,g1,hz,fun l hl=>?_⟩;have O:Step F1 H1 F1 (upd H1 l (wo X l (dG ss))):=Step.made st.fh hl;refine ⟨l,dG ss,rfl,ar,Nat.lt_of_le_of_lt (ui ss) hz,fun l2 U=>?_⟩;exact gq (k.step (st.trans O)) O.fh (l3 _) U
end
df qy:List Dt->Option T
 | [.int i,.int j]=>some (.leaf (.int (if i<j then j else i)))
 | _=>none
df rMax:List V->Hp->VK->Prop:=fun xs H Q=>∃ i j,xs=[.int i,.int j]/\Q (.int (if i<j then j else i)) H
theorem je (q:X.calm=true):bX X (.builtin "max") rMax:=tI q
variable {K:PySem.W.Frag}
theorem wq:CRD K rMax qy:=by
 intro F H ds vs Q t O r q k;unfold qy at q;split at q<;>first | (cases q;done) | skip
 cases q;rename_i i j;simp only [RepBs,RepB,Rep] at r;obtain ⟨v,U,rfl,rfl,w,us,rfl,rfl,rfl⟩:=r;exact ⟨i,j,rfl,k.int O⟩
variable {vs:List V}
section
variable {X:Cx} {e o:Expr} {fa fe:Fg} {pos apos cpos:Pos}
df o8 (fa:Fg):Fg:=fun δ ch=>(fa δ ch).bind fun p=>match p.1 with
 | .ref i=>match p.2[i]? with
  | some (.lst l)=>(l.getLast?).map fun c=>(c,p.2.set i (.lst l.dropLast))
  | _=>none
 | _=>none
theorem RelCs.dropLast {F:Hp} {ρ:Nat->Addr} {l:List CV} (h:RelCs K F ρ n l vs):RelCs K F ρ n l.dropLast vs.dropLast:=by rw [zf5,zf5,h.length];exact h.take _
theorem yW (hx:GE X o fa) (q:qn0 o "pop" X.env (eval o X.env)=eval o X.env:=by rfl) (O:(apos.endLine==cpos.line)=true:=by rfl):GE X (.Call (.Attribute o "pop" apos) [] [] cpos) (o8 fa):=
 PE.mono (Bw PySem.F.plainAttrs_list PySem.F.slot_list_pop PySem.F.type_list_pop Bx hx q O) fun σ H Q ⟨δ,ch,F,ρ,c,ch',en,Z,kk⟩=>by
  unfold o8 at Z;obtain ⟨⟨c1,ch1⟩,hp,U⟩:=bS Z;clear Z;dsimp only at U;split at U<;>first | (cases U;done) | skip
  rename_i i;split at U<;>first | (cases U;done) | skip
  rename_i l h0;obtain ⟨c0,W,hg2⟩:=mS U;cases hg2;refine ⟨δ,ch,F,ρ,_,ch1,en,hp,fun v F1 H1 ρ1 a1 r1=>?_⟩;obtain ⟨vs,q1,q2⟩:=a1.gh.ok i _ h0;obtain ⟨hi,rfl⟩:=r1;have hl:=q2.length;rw [List.getLast?_eq_getElem?] at W;obtain ⟨y,hy,ry⟩:=q2.get W;rw [<- hl] at hy;have hi2:i<ch1.length:=(gX h0).1;have Y:=Adv.upd (o:=.lst l.dropLast) (u:=.lst vs.dropLast) (w:=.lst vs) a1.gh hi2 q1 (fun _ _ z=>nomatch z) ⟨_,ar,q2.dropLast⟩;refine ⟨.inl ⟨rfl,vs,.inl (.inl q1)⟩,_,vs,y,rfl,rfl,q1,hy,?_⟩;exact kk y F1 _ ρ1 (a1.trans en.gh Y) (ry.mono Y.old Y.ext Y.len)
end
section
variable {P:qc9} {u:World} {A:qe0} {E:Value->qa4->Prop} {s:qa4} {Ty:String} {r d:Addr} {n:Nat} {Pr:Nat->Value->Prop} {OK:Heap->Prop}
end
section
variable {X:Cx}
df sq:List Key->Option (List Str)
 | []=>some []
 | .inr x::r=>(sq r).map (x::·)
 | _=>none
df gSortD:List Dt->Option T
 | [.dct ks _]=>(sq ks).bind fun ss=>if ss.length<64 then some (.lst ((iF ss).map .str)) else none
 | _=>none
theorem wu:MtR X "str.index" (fun x vs H Q=>∃ a b i rest,x=.str a/\vs=[.str b]/\qh7 a b 0 a.length 1=i::rest/\Q (.int i) H):=by intro pins s σ H x vs v us Q I W U h;obtain ⟨a,b,i,rest,rfl,rfl,O,q⟩:=h;obtain ⟨t,rfl⟩:=W;obtain ⟨u,rfl,Y⟩:=U.one;obtain ⟨t',rfl⟩:=Y;exact SC.index O ⟨.int _,H,I.tok _,⟨_,rfl⟩,q⟩
df dH:Dt->List Dt->Option T
 | .str a,[.str b]=>match qh7 a b 0 a.length 1 with
  | i::_=>some (.leaf (.int (Int.ofNat i)))
  | []=>none
 | _,_=>none
theorem wv:MRD K (fun x vs H Q=>∃ a b i rest,x=.str a/\vs=[.str b]/\qh7 a b 0 a.length 1=i::rest/\Q (.int i) H) dH:=by
 intro F H d v ds vs Q t O rd U q k;unfold dH at q;split at q<;>first | cases q;done | skip
 split at q<;>first | cases q;done | skip
 rename_i i rest W;cases q;cases rd;obtain ⟨v,rfl,Y⟩:=du U;cases Y;exact ⟨_,_,i,rest,rfl,rfl,W,k.int O⟩
theorem o9:∀ d ds t,dH d ds=some t->∃ z,d=.str z:=fun d ds t h=>by
 unfold dH at h;split at h
 . exact ⟨_,rfl⟩
 . cases h
variable {e o:Expr} {es:List Expr} {fo:De->Option Dt} {fs:De->Option (List Dt)} {apos cpos pos:Pos}
theorem ww (Y:DB X o fo) (ha:DAB X (e::es) fs)
  (O:qn0 o "index" X.env (eval o X.env)=eval o X.env:=by rfl)
  (W:((qi4 cpos (qa6 (e::es) X.env)).all (fun x=>!x.1)&&(zf8 cpos (qu5 [] X.env)).all (fun x=>x.1.isSome)
   && decide ((e::es).length+([]:List qt2).length+(if ([]:List qt2).isEmpty then 0 else 1)<30))=true:=by rfl)
  (U:(apos.endLine==cpos.line)=true:=by rfl) (Z:qa6 (e::es) X.env=#a::qa6 es X.env:=by rfl) (q:(qi4 cpos (qa6 es X.env)).any (·.1)=false:=by rfl) :
  DO X (.Call (.Attribute o "index" apos) (e::es) [] cpos) (lO dH fo fs):=vO PySem.F.slot_str_index PySem.F.type_str_index wu wv o9 Y ha O W U Z q
end
df gK (i t:Nat) (ft:Ft) (fe:Fg) (δ:Sl):Nat->Nat->CH->Option (List CV×CH)
 | 0,_,_=>none
 | n+1,k,ch=>match ch[i]? with
  | some (.lst l)=>match l[k]? with
   | none=>some ([],ch)
   | some c=>(ft (δ.set t (some c)) ch).bind fun p=>if p.1 then (fe (δ.set t (some c)) p.2).bind fun q=>(gK i t ft fe δ n (k+1) q.2).map fun r=>(q.1::r.1,r.2) else gK i t ft fe δ n (k+1) p.2
  | _=>none
df kA (src:List (Option Nat)) (fd:Fg) (t:Nat) (ft:Ft) (fe:Fg) (n:Nat):Fg:=fun δ ch=>(fd δ ch).bind fun p=>match p.1 with
 | .ref i=>(gK i t ft fe (gC src δ) n 0 p.2).bind fun q=>if q.1.length<=qb2 then some (.ref q.2.length,q.2++[.lst q.1]) else none
 | _=>none
df sr:Ft:=fun _ ch=>some (true,ch)
theorem yX:PTs X [] (tGT X.K sr):=fun pins s σ H Q I h=>rB pins s σ H Q I (by obtain ⟨δ,ch,F,ρ,b,ch',en,q,k⟩:=h;cases q;exact k F H ρ (Adv.refl en.gh))
section
variable {X:Cx} {elt tg iter:Expr} {ifs:List Expr} {scope:Scope} {pos:Pos} {M:List Str} {src:List (Option Nat)} {fd fe:Fg} {ft:Ft} {i t:Nat}
theorem uk (hts:decide (src[t]?=some none)=true):∀ (σ:St) (H:Hp) (Q:VK),tG X.K (kA src fd t ft fe n) σ H Q->lC src (Ab X.K (tG X.K fd)) (fG t) (tGT X.K ft) (tG X.K fe) σ H Q:=fun σ H Q ⟨δ,ch,F,ρ,c,ch',en,hf,k⟩=>by
 unfold kA at hf;obtain ⟨⟨c1,ch1⟩,hp,hf1⟩:=bS hf;clear hf;dsimp only at hf1;split at hf1<;>first | (cases hf1;done) | skip
 rename_i i;obtain ⟨⟨all,ch2⟩,ha,hf2⟩:=bS hf1;clear hf1;split at hf2<;>first | (cases hf2;done) | skip
 rename_i hz;cases hf2;have hz:all.length<=qb2:=hz;have hn:src[t]?=some none:=of_decide_eq_true hts;refine ⟨δ,ch,F,ρ,_,ch1,en,hp,fun v F1 H1 ρ1 a1 r1=>?_⟩;obtain ⟨hi,rfl⟩:=r1;have Y:=en.adv a1;have k1:=k.adv en.gh a1;refine ⟨ρ1 i,rfl,?_,fun D hD=>?_⟩
 . cases n with
   | zero=>cases ha
   | succ n =>
    unfold gK at ha;split at ha<;>first | (cases ha;done) | skip
    rename_i l hl;obtain ⟨vs,q1,_⟩:=a1.gh.ok i _ hl;exact ⟨vs,SqL.of q1⟩
 have wk:∀ v,Wk (stC src σ) ((stC src σ).set t (some v)):=fun v=>by
  refine ⟨by simp,fun j u hj=>?_⟩;by_cases hm:j=t
  . obtain ⟨i',e,_⟩:=qc hj;rw [hm,hn] at e;cases e
  . rw [gN (qq1 hm)];exact hj
 refine ⟨fun j m H=>∃ F ρ' c' ys done O,Bd X.K F1 H1 ρ1 ch1 D F H ρ' c' done ys/\gK i t ft fe (gC src δ) m j c'=some (O,ch2)/\done++O=all,⟨n,F1,ρ1,ch1,[],[],all,⟨Adv.of Y.gh (Step.made Y.gh.fh hD),ar,Y.gh.fh.free hD,fun i hi e=>?_,rfl⟩,ha,rfl⟩,?_⟩
 . obtain ⟨u,hu⟩:=Y.gh.at hi;rw [e,hD] at hu;cases hu
 rintro j m H' ⟨F',ρ',c',ys,done,O,b,W,U⟩;cases m with
 | zero=>cases W
 | succ m =>
  unfold gK at W;split at W<;>first | (cases W;done) | skip
  rename_i l hl;obtain ⟨vs,q1,q2⟩:=b.adv.gh.ok i _ hl;rw [b.adv.ext i hi] at q1;split at W
  . rename_i hj;cases W;rw [qh2] at U;subst U;refine .inl ⟨⟨vs,SqL.of q1,?_⟩,k1 (.ref D) F' H' _ (b.fin hD) ⟨by simp,?_⟩⟩
    . rw [q2.length];exact qf6.mp hj
    . dsimp only;rw [if_pos rfl]
  . rename_i c hj;obtain ⟨⟨bo,c3⟩,h2,Z⟩:=bS W;clear W;obtain ⟨v,hv,rv⟩:=q2.get hj;refine .inr ⟨⟨vs,v,SqL.of q1,hv⟩,fun H=>∃ F ρ' c' ys done O,Bd X.K F1 H1 ρ1 ch1 D F H ρ' c' done ys/\gK i t ft fe (gC src δ) m (j+1) c'=some (O,ch2)/\done++O=all,fun H2 z=>⟨m,by oo,z⟩,fun x H'' hy=>?_⟩;obtain ⟨rfl,hy⟩:=hy;have hx:=hy vs (SqL.of q1);rw [hv] at hx;cases hx;have en2:=((Y.adv b.adv).comp (src:=src)).put rv t;refine ⟨wk v,_,_,_,_,bo,c3,en2,h2,fun F3 H3 ρ3 a3=>?_⟩;have b3:=b.step Y.gh a3;have en4:=en2.adv a3;dsimp only at Z ⊢;split at Z
    . rename_i q;have q:bo=true:=q;rw [if_pos q];obtain ⟨⟨y,c4⟩,hy,hgo3⟩:=bS Z;obtain ⟨⟨zs,c5⟩,hzs,hgo4⟩:=mS hgo3;cases hgo4;refine ⟨_,_,F3,ρ3,y,c4,en4,hy,fun v F4 H4 ρ4 a4 rv=>?_⟩;have b4:=b3.step Y.gh a4;refine ⟨ys,b4.hD,?_,F4,ρ4,c4,ys++[v],done++[y],zs,b4.more hD rv,hzs,by rw [<- U];simp⟩;have e1:=b4.rel.length;have e2:all.length=done.length+(zs.length+1):=by rw [<- U];simp
      oo
    . rename_i q;rw [if_neg q];exact ⟨F3,ρ3,c3,ys,done,O,b3,Z,U⟩
theorem wx (n:Nat) (S:CmpScope X.N X.env.scope scope M src) (Y:X.calm=true) (hi:GE X iter fd) (O:M.Nodup->∀ C s H ex,PG #h tg (fG t))
  (ht:∀ C s H ex,PTs #h ifs (tGT X.K ft)) (Z:∀ C s H ex,GE #h elt fe) (q:decide (src[t]?=some none)=true) (U:∀ x,qg7 iter X.env x=pure x:=by intro _;rfl) :
  GE X \9 (kA src fd t ft fe n):=PE.mono (ou (g:=fG t) (tt:=tGT X.K ft) (te:=tG X.K fe) S Y (jI hi) (fun W C s H ex=>O W C s H ex) (fun C s H ex=>ht C s H ex) (fun C s H ex=>Z C s H ex) U) (uk q)
end
section
variable {K:PySem.W.Frag} {F H:Hp} {ρ:Nat->Addr} {δ:Sl} {σ:St} {ch:CH}
end
section
variable {X:Cx} {e:Expr}
end
abbrev Orc:=Addr->Hp->List Dt->Option T
df wz (P:qc9) (w:World) (K:PySem.W.Frag) (mg:Str->Option Value) (base:Heap) (kk:Nat) (H:Hp) (G:Orc):Prop:=∀ (f:Addr) (F0:Hp) (ds:List Dt) (t:T),G f F0 ds=some t→
 (∃ fo uf fd,H f=some (.frz fo uf)/\fo.data=.func fd)/\∀ (A:qe0) (outer:List Env) (s:qa4) (H' F:Hp) (us:List Value) (vs:List V) (Q:VK),Room kk A->(∀ b o u,H b=some (.frz o u)->H' b=some (.frz o u))->Env0 P w K mg base A outer s H'->Same F0 F->Same F H'->Vals vs us->Reps K F ds vs->KO K F H' t Q→
  qr4 (model P w) A (.call (.ref f) ⟨us,[]⟩) (CR CX0 outer P w H' s Q E0) s
df eCl (G:Orc) (i:Nat) (fs:Fgs):Fg:=fun δ ch=>match δ[i]? with
 | some (some (.fn a F0))=>(fs δ ch).bind fun p=>(dats p.1).bind fun ds=>(G a F0 ds).bind (al p.2)
 | _=>none
section
variable {X:Cx} {e:Expr} {es:List Expr} {fs:Fgs} {p pos:Pos} {x:Str} {i kk:Nat} {G:Orc}
theorem su (hx:PE X (.Name x p) (jx i)) (hG:wz X.prog X.w X.K X.mg X.base kk X.H₀ G) (hr:Room kk X.A) (ha:GA X (e::es) fs)
  (he:qa6 (e::es) X.env=#a::qa6 es X.env:=by rfl) (hpl:(qi4 pos (qa6 es X.env)).any (·.1)=false:=by rfl):GE X #b (eCl G i fs):=by
 intro pins s σ H Q I h;obtain ⟨δ,ch,F,ρ,c,ch',en,O,k⟩:=h;unfold eCl at O;split at O<;>first | (cases O;done) | skip
 rename_i a F0 hi;obtain ⟨q,hp,O⟩:=bS O;obtain ⟨ds,hd,O⟩:=bS O;obtain ⟨t,ht,O⟩:=bS O;obtain ⟨v,hv,rv,hF0⟩:=en.has i _ hi;subst rv;obtain ⟨⟨fo,uf,fd,g1,g2⟩,run⟩:=hG a F0 ds t ht
 have U:∀ {pins:List (Addr×Obj)} {σ:St} {H:Hp} {s:qa4},Inv X pins σ H s->PySem.W.FnAt a s.heap:=fun {pins σ H s} J=>by have e1:=(J.hok a _ (J.base.frzs a fo uf g1)).1;obtain ⟨oc,od,dt,sl⟩:=fo;cases (show dt=.func fd from g2);exact ⟨oc,od,fd,sl,e1⟩
 refine qp9 (thn (hx pins s σ H (fun v H'=>v=.ref a/\H'=H) I ⟨.ref a,hv,rfl,rfl⟩) fun u s1 h1=>?_);obtain ⟨v1,H1,I1,r1,rfl,rfl⟩:=h1;cases r1;refine PySem.W.callWith_F (U I1) (thn (ha pos pins s1 σ _ (fun vs H'=>∃ F' ρ',Adv X.K F _ ρ ch F' H' ρ' q.2/\RelCs X.K F' ρ' q.2.length q.1 vs) I1 ⟨δ,ch,F,ρ,q.1,q.2,en,hp,fun vs F' H' ρ' a r=>⟨F',ρ',a,r⟩⟩) fun us s2 h2=>?_) he hpl;obtain ⟨vs,H2,I2,r2,F2,ρ2,Z,rc⟩:=h2;refine ⟨U I2,zi3 (qs6 (run X.A X.stack s2 H2 F2 us vs Q hr (fun b o u z=>I2.base.frzs b o u z) I2.env0 (hF0.trans Z.old) Z.gh.fh r2 (cM hd rc) (lU Z.gh O (k.adv en.gh Z))) fun r s' Y=>?_)⟩;cases r with
 | error e=>exact Y.elim
 | ok fl =>
  cases fl with
  | ret u=>exact I2.after Y
  | next=>exact qg6 Y
  | brk=>exact qg6 Y
  | cont=>exact qg6 Y
end
df SameX (F F':Hp):Prop:=∀ b o,F b=some o->(∀ ob φ,o≠.frz ob (.ext φ))->F' b=some o
section
variable {K:PySem.W.Frag} {F F':Hp}
theorem SameX.rd {u:HO} (e:SameX F F') (h:Rd F a u) (h1:∀ ob φ,u≠.frz ob (.ext φ)) (h2:∀ φ,u≠.ext φ):Rd F' a u:=by
 rcases h with h | ⟨o,h⟩
 . exact .inl (e _ _ h h1)
 . exact .inr ⟨o,e _ _ h fun ob φ z=>h2 φ (by cases z;rfl)⟩
mutual
theorem Rep.sameX (e:SameX F F'):∀ {d:Dt} {v:V},Rep K F d v->Rep K F' d v
 | .non,v,h=>h
 | .bl _,v,h=>h
 | .int _,v,h=>h
 | .str _,v,h=>h
 | .tup l,v,h=>by unfold Rep at h ⊢;obtain ⟨a,vs,h1,h2,h3⟩:=h;exact ⟨a,vs,h1,h2.imp (fun z=>e _ _ z fun _ _ z=>nomatch z) id,Reps.sameX e h3⟩
 | .lst l,v,h=>by unfold Rep at h ⊢;obtain ⟨a,vs,h1,h2,h3⟩:=h;exact ⟨a,vs,h1,h2.imp (fun z=>e.rd z (fun _ _ z=>nomatch z) fun _ z=>nomatch z) id,Reps.sameX e h3⟩
 | .dct ks l,v,h=>by unfold Rep at h ⊢;obtain ⟨a,vs,h1,h2,h3,h4⟩:=h;exact ⟨a,vs,h1,(e.rd h2 (fun _ _ z=>nomatch z) (fun _ z=>nomatch z)),h3,Reps.sameX e h4⟩
 | .dcT ks l,v,h=>by unfold Rep at h ⊢;obtain ⟨a,vs,h1,h2,h3,h4⟩:=h;exact ⟨a,vs,h1,(e.rd h2 (fun _ _ z=>nomatch z) (fun _ z=>nomatch z)),h3,Reps.sameX e h4⟩
 | .ins c ns l,v,h=>by unfold Rep at h ⊢;obtain ⟨a,C,dx,fs,h1,h2,h3,h4,h5⟩:=h;exact ⟨a,C,dx,fs,h1,h2,(e _ _ h3 (fun _ _ z=>nomatch z)),h4,Reps.sameX e h5⟩
theorem Reps.sameX (e:SameX F F'):∀ {l:List Dt} {vs:List V},Reps K F l vs->Reps K F' l vs
 | [],vs,h=>h
 | d::l,vs,h=>by unfold Reps at h ⊢;obtain ⟨v,ws,h1,h2,h3⟩:=h;exact ⟨v,ws,h1,Rep.sameX e h2,Reps.sameX e h3⟩
end
end
df deC (m:Nat) (ds caps:List Dt):De:=ds.map (fun d=>some (T.leaf d))++(qc6 (m-ds.length-caps.length) none++caps.map (fun d=>some (T.leaf d)))
df jG (m:Nat) (g:De->Option Out) (caps:List Dt):List Dt->Option T:=fun ds=>match g (deC m ds caps) with
 | some (.rt t)=>some t
 | some (.nx _)=>some (.leaf .non)
 | _=>none
theorem ul {F:Hp} {ds caps:List Dt} {fs:List V} {N:List Str} (fh:Same F H) (r:Reps K F ds vs) (rc:Reps K F caps fs):En ⟨K,F,H,fun _=>False⟩ (deC N.length ds caps) (dk N vs fs) F H:=by
 have W:=r.length;have hc:=rc.length
 have O:∀ (i:Nat) (t:T),(deC N.length ds caps)[i]?=some (some t)->∃ d v,t=T.leaf d/\Rep K F d v/\(dk N vs fs)[i]?=some (some v):=fun i t h=>by
  unfold deC at h;unfold dk;rw [W,hc];by_cases hi:i<ds.length
  . rw [qa5 (by simpa using hi),qb0] at h;have U:ds[i]?=some ds[i]:=by simp [hi]
    rw [U] at h;cases h;obtain ⟨v,Z,q⟩:=r.get U;refine ⟨_,v,rfl,q,?_⟩;rw [qa5 (by simp;oo),qb0,Z];rfl
  . rw [qc5 (by simpa using hi),qa2] at h;rw [qc5 (by simp;oo),qa2,W];by_cases Y:i-ds.length<N.length-ds.length-caps.length
    . rw [qa5 (by simpa using Y),ql2] at h;split at h<;>cases h
    . rw [qc5 (by simpa using Y),qm9,qb0] at h;obtain ⟨d,U,e⟩:=mS h;cases e;obtain ⟨v,Z,q⟩:=rc.get U;refine ⟨d,v,rfl,q,?_⟩;rw [qc5 (by simpa using Y),qm9,qb0,Z];rfl
 refine ⟨fh,fun b o h _=>h,Same.refl _,fun b o h=>.inl h,?_,fun i t h=>?_,fun _ _=>False,fun i t v h=>?_,fun i b z=>z.elim,fun i j b z _=>z.elim⟩
 . unfold deC dk;simp [W,hc]
 . obtain ⟨d,v,_,_,e⟩:=O i t h;exact ⟨v,e⟩
 . obtain ⟨h1,h2⟩:=dY h;obtain ⟨d,v',rfl,q,e⟩:=O i t h1;rw [h2] at e;cases e;exact q
section
variable {P:qc9} {w:World} {K:PySem.W.Frag} {mg:Str->Option Value} {base:Heap} {N ps fr:List Str} {name qual:Str} {params:qj4} {body:List Stmt} {scope:Scope} {f c':Addr} {cl:List (Str×Addr)} {H:Hp} {fs:List V} {doc pm ctv:Value} {fo:Obj} {uf:HO} {k:Nat} {g:De->Option Out} {caps ds:List Dt} {F0:Hp} {t:T}
theorem ClAt.up {H':Hp} (C:ClAt H f name qual params body scope cl fr fs c' doc pm ctv fo uf) (h:∀ b o u,H b=some (.frz o u)->H' b=some (.frz o u)):ClAt H' f name qual params body scope cl fr fs c' doc pm ctv fo uf:=⟨h _ _ _ C.fn,C.dat,let ⟨oc,z⟩:=C.cod;⟨oc,h _ _ _ z⟩,fun x c q=>let ⟨o,u,g,d⟩:=C.cel x c q;⟨o,u,h _ _ _ g,d⟩,C.inj,C.len,fun i x v h1 h2=>let ⟨c,o,u,e1,e2,e3⟩:=C.val i x v h1 h2;⟨c,o,u,e1,h _ _ _ e2,e3⟩,C.nms⟩
theorem sv (S:ClScope N ps fr scope) (ndn:∀ x,∀ y∈scope.names,y.1=x->scope.names.lookup x=some y.2) (C:ClAt H f name qual params body scope cl fr fs c' doc pm ctv fo uf) (rc:Reps K F0 caps fs)
  (hbd:∀ (s:qa4) (us:List Value),us.length=ps.length->zb4 s (PySem.W.fnX name qual params body scope cl .none .none doc pm none (.ref c') ctv) ⟨us,[]⟩ (ps.zip us))
  (hbody:∀ (A:qe0) (outer:List Env) (s:qa4) (H:Hp),Room k (A.deeper (ip qual scope s.heap.objs.size f (.ref c') cl))->DS (oz CX0 P w K mg base N qual scope f (.ref c') cl A outer s H E0 fun _ _=>False) body g)
  (hl:ds.length=ps.length) (ht:jG N.length g caps ds=some t) (A:qe0) (outer:List Env) (s:qa4) (H' F:Hp) (us:List Value) (vs:List V) (Q:VK) (hr:Room (k+1) A) (hp:∀ b o u,H b=some (.frz o u)->H' b=some (.frz o u)) (e0:Env0 P w K mg base A outer s H') (h0:Same F0 F) (fh:Same F H') (r:Vals vs us) (rd:Reps K F ds vs) (kq:KO K F H' t Q) :
  qr4 (model P w) A (.call (.ref f) ⟨us,[]⟩) (CR CX0 outer P w H' s Q E0) s:=by
 have C':=C.up hp;have hvl:vs.length=ps.length:=by rw [rd.length,hl]
 have cn:∀ b,b∈cl.map (·.2)->∃ o u,H' b=some (fj b o)/\o.data=.cell (some u):=fun b O=>by obtain ⟨x,hx⟩:=ir O;exact C'.cel x b hx
 have hsx:SameX F (bY F cl):=fun b o e hn=>by
  rw [aW fun z=>?_]
  . exact e
  . obtain ⟨ob,u,g,_⟩:=cn b z;have:=fh b o e;rw [g] at this;exact hn _ _ (qd9 this).symm
 have fh':Same (bY F cl) (bY H' cl):=fun b o e=>by obtain ⟨O,e⟩:=lE e;rw [aW O];exact fh b o e
 have fin:∀ v Z H2,Rt ⟨K,bY F cl,bY H' cl,fun _=>False⟩ t v Z H2->(∀ b∈cl.map (·.2),H2 b=none)->Q v (dW H' cl H2):=fun v Z H2 R hn=>by
  obtain ⟨fh2,prot,old,nw,So,o,hs⟩:=R;have sin:∀ {b:Addr},b∈cl.map (·.2)->dW H' cl H2 b=H' b:=fun O=>if_pos O
  have Y:∀ {b:Addr},b∉cl.map (·.2)->dW H' cl H2 b=H2 b:=fun O=>if_neg O
  let F3:Hp:=dW F cl Z;have tin:∀ {b:Addr},b∈cl.map (·.2)->F3 b=F b:=fun O=>if_pos O
  have U:∀ {b:Addr},b∉cl.map (·.2)->F3 b=Z b:=fun O=>if_neg O
  have nF2:∀ b,b∈cl.map (·.2)->Z b=none:=fun b O=>by
   cases z:Z b with
   | none=>rfl
   | some u=>have:=fh2 b u z;rw [hn b O] at this;cases this
  have h23:Same Z F3:=fun b u e=>by
   by_cases O:b∈cl.map (·.2)
   . rw [nF2 b O] at e;cases e
   . rw [U O];exact e
  have hh23:Same H2 (dW H' cl H2):=fun b u e=>by
   by_cases O:b∈cl.map (·.2)
   . rw [hn b O] at e;cases e
   . rw [Y O];exact e
  refine kq v (dW H' cl H2) F3 So ⟨fun b u e=>?_,fun b u e=>?_,fun b u e=>?_,fun b u e=>?_⟩ (Own.step h23 (fun b u _ e=>hh23 b u e) o) fun b z=>?_
  . by_cases O:b∈cl.map (·.2)
    . rw [sin O];exact e
    . rw [Y O];exact prot b u ((aW O).trans e) id
  . by_cases O:b∈cl.map (·.2)
    . rw [tin O];exact e
    . rw [U O];exact old b u ((aW O).trans e)
  . by_cases O:b∈cl.map (·.2)
    . rw [tin O] at e;rw [sin O];exact fh b u e
    . rw [U O] at e;rw [Y O];exact fh2 b u e
  . by_cases O:b∈cl.map (·.2)
    . rw [tin O] at e;exact .inl e
    . rw [U O] at e;rcases nw b u e with y | y
      . exact .inl ((aW O).symm.trans y)
      . exact .inr ((aW O).symm.trans (y.elim id qg6))
  . obtain ⟨h1,⟨u,h2⟩,h3⟩:=hs b z;have O:b∉cl.map (·.2):=fun y=>by rw [hn b y] at h2;cases h2
    exact ⟨by rw [U O];exact h1,(aW O).symm.trans (h3.elim id qg6),u,by rw [Y O];exact h2⟩
 have hul:us.length=ps.length:=by rw [<- r.length];exact hvl
 refine vi (CX:=CX0) (E:=E0) S C' ndn hr e0 (hbd s us hul) hvl r fun hr2=>⟨_,hbody A outer s (bY H' cl) hr2,?_⟩
 have en:=ul (N:=N) fh' (rd.sameX hsx) ((rc.same h0).sameX hsx);unfold jG at ht;split at ht
 . rename_i t' q;cases ht;exact ⟨_,_,_,_,rfl,en,q,fun v Z H2 R=>fin v Z H2 R⟩
 . rename_i δ' q;cases ht;exact ⟨_,_,_,_,rfl,en,q,fun σ' Z H2 z=>fin .non Z H2 (z.rt (Step.refl z.fh) (t:=.leaf .non) (S:=fun _=>False) (iz (K:=K) (F:=Z)) fun _ y=>y.elim)⟩
 . cases ht
end
end L2
namespace L2
open PySem PySem.Spec PyProof.Rows
structure MadeH (H H':Hp) (f c':Addr) (qual:Str) (fo:Obj):Prop where
 fn:H' f=some (.frz fo (.ext fun h=>h.get? f=some fo))
 cod:∃ oc,H' c'=some (.frz oc (.code qual))
 old:Same H H'
 free:H f=none
df tDef (P:Addr) (qs:List ((Nat×Nat)×Str)) (i:Nat) (name qual:Str) (params:qj4) (body:List Stmt) (scope:Scope) (clos:List (Str×Addr)):TS:=fun D σ H=>H P=some (.ctab qs)/\∀ (f c':Addr) (doc pm ctv:Value) (H':Hp),MadeH H H' f c' qual {cls:=.type "function",data:=.func (PySem.W.fnX name qual params body scope clos .none .none doc pm none (.ref c') ctv)}->D.nx (σ.set i (some (.ref f))) H'
section
variable {X:Cx} {c P:Addr} {qs:List ((Nat×Nat)×Str)} {name qual:Str} {params:qj4} {body:List Stmt} {scope:Scope} {clos:List (Str×Addr)} {pos:Pos} {i:Nat}
theorem B1 (hN:X.N.Nodup) (hi:X.N[i]?=some name) (hx:Loc X.env.scope name) (U:X.fn name=true∨X.env.scope.names.lookup name=some .local) (B:TabB X.mg X.base c P) (O:X.env.code=.ref c) (hqn:qualnameIn X.env name name=qual) (hq:((pos.line,pos.col),qual)∈qs) (Y:∀ q,((pos.line,pos.col),q)∈qs->q=qual) (hcl:zf9 scope X.env=pure clos)
  (hd0:params.defaults=[]) (Z:params.kw_defaults=[]) (ha:annTrees params none X.env=[]):PS X (.FunctionDef name params body [] none [] scope none name pos) (tDef P qs i name qual params body scope clos):=by
 intro pins s σ H D I h;obtain ⟨hP,q⟩:=h;refine PySem.W.nestDef_K hd0 Z ha ?_;rw [hqn];refine yk I B O hP hq Y hcl fun f c' doc pm ctv H' s' M I'=>?_
 exact ij I' hN hi hx (v:=.ref f) rfl (fun s2 I2=>⟨_,H',I2,q f c' doc pm ctv H' ⟨M.fn,M.cod,fun b o e=>M.old b o e,I.hok.fresh M.lof⟩⟩) U
end
df aU (X:Cx) (b:Addr):Prop:=∃ x,X.env.cells.lookup x=some b
open Classical in
df jr (X:Cx) (H:Hp):Hp:=fun b=>if aU X b then none else H b
structure PlusC (X:Cx) (σ:St) (H H':Hp):Prop where
 out:∀ b,¬ aU X b->H' b=H b
 fre:∀ b,aU X b->H b=none
 cel:∀ x c,X.env.cells.lookup x=some c->∃ o v,H' c=some (fj c o)/\o.data=.cell v/\∀ (i:Nat) (val:V),X.N[i]?=some x->σ[i]?=some (some val)->(X.env.kindOf x=some .cell∨X.env.kindOf x=some .free)->∃ u,v=some u/\RelV val u
variable {b:Addr} {H':Hp} {Q:VK}
section
variable {X:Cx} {pins:List (Addr×Obj)} {σ:St} {H:Hp} {s:qa4}
theorem pb (h:aU X b):jr X H b=none:=if_pos h
theorem bG (h:¬ aU X b):jr X H b=H b:=if_neg h
open Classical in
theorem yY (I:Inv X pins σ H s) (O:∀ b,aU X b->b∉frs X.stack/\∀ o,X.base.get? b≠some o):∃ H',PlusC X σ H H'/\Env0 X.prog X.w X.K X.mg X.base X.A X.stack s H':=by
 let H':Hp:=fun b=>if aU X b then (s.heap.get? b).map (fj b) else H b
 have W:∀ {b:Addr},aU X b->H' b=(s.heap.get? b).map (fj b):=fun h=>if_pos h
 have q:∀ {b:Addr},¬ aU X b->H' b=H b:=fun h=>if_neg h
 have e0:=I.env0;refine ⟨H',⟨fun b h=>q h,fun b ⟨x,Y⟩=>I.freeC x b Y,fun x c e=>?_⟩,⟨e0.frames,e0.mod,fun b o e=>⟨(e0.bs b o e).1,?_⟩,e0.bsz,e0.funs,fun b Z=>?_,fun b u e=>?_,e0.bare,fun p hp=>by rw [q fun ⟨x,Y⟩=>by have:=I.freeC x _ Y;rw [e0.tb p hp] at this;cases this];exact e0.tb p hp⟩⟩
 . obtain ⟨v,o,U,hd⟩:=I.cell x c e;refine ⟨o,v,by rw [W ⟨x,e⟩,U];rfl,hd,fun i val h1 h2 h3=>?_⟩;obtain ⟨m,_,hl⟩:=I.loc;have hv:Vis X.env.scope x:=h3.elim (fun z=>.inr (.inl z)) fun z=>.inr (.inr z)
   obtain ⟨u,ru,lk⟩:=hl i x val h1 h2 hv;rcases lk with ⟨k1,_⟩ | ⟨_,c2,k2,o2,k3,k4⟩
   . rcases h3 with z | z<;>(rw [k1] at z;cases z)
   . rw [e] at k2;cases k2;rw [U] at k3;cases k3;rw [hd] at k4;cases k4;exact ⟨u,rfl,ru⟩
 . have:¬ aU X b:=fun z=>(O b z).2 o e
   rw [q this];exact (e0.bs b o e).2
 . have:¬ aU X b:=fun z=>(O b z).1 Z
   rw [q this];exact e0.frf b Z
 . have up:∀ c u,H c=some u->H' c=some u:=fun c u z=>by
    rw [q]
    . exact z
    . rintro ⟨x,Y⟩;rw [I.freeC x c Y] at z;cases z
   by_cases Z:aU X b
   . rw [W Z] at e;obtain ⟨o,U,rfl⟩:=mS e;exact ⟨U,U,⟨o,U⟩,fun h1 h2 z1 z2=>z2 o z1⟩
   . rw [q Z] at e;exact (I.hok b u e).stay (fun _ _ _ z=>z) (fun c z=>up c _ z) (fun c xs z=>up c _ z) fun c ob xs z=>up c _ z
theorem Inv.afterP {u:Value} {s':qa4} (I:Inv X pins σ H s) (Y:PlusC X σ H H') (ok':HOk X.prog X.w H' s.heap) (h:CE X.stack X.prog X.w H' s (fun v H2=>(∀ c,aU X c->H2 c=H' c)->Q v (jr X H2)) u s'):EP X pins σ Q u s':=by
 obtain ⟨v,H2,os,bare,un,hok,r,q⟩:=h;obtain ⟨hh,g,d,t,os'⟩:=s';obtain rfl:os'=s.os:=os
 have U:∀ {b:Addr},aU X b->∃ o,H' b=some (fj b o)/\s.heap.get? b=some o/\H2 b=some (fj b o)/\hh.get? b=some o:=fun {b} hb=>by obtain ⟨x,W⟩:=hb;obtain ⟨o,v,e,_⟩:=Y.cel x b W;have e2:=un.frzs b o _ e;exact ⟨o,e,(ok' b _ e).1,e2,(hok b _ e2).1⟩
 have Z:∀ {b:Addr} {w:HO},H b=some w->¬ aU X b:=fun {b w} z ⟨x,W⟩=>by rw [I.freeC x b W] at z;cases z
 refine ⟨v,jr X H2,I.call (h':=hh) (g':=g) (d':=d) (t':=t) (ch:=[]) ⟨fun b o e n hb W=>?_,fun b o e n hb W=>?_,fun b o e n W=>?_,un.there,fun b xs e=>?_,fun b o w e=>?_,fun b ps e=>?_,fun b qs e=>?_⟩ (fun b w e=>?_) bare (fun b z=>absurd z \5),r,q fun c O=>?_⟩
 . by_cases O:aU X b
   . obtain ⟨o',_,h1,_,h2⟩:=U O;rw [e] at h1;cases h1;exact h2
   . exact un.keep b o e (by rw [Y.out b O];exact n) hb W
 . by_cases O:aU X b
   . obtain ⟨o',_,h1,_,h2⟩:=U O;rw [e] at h1;cases h1;exact ⟨o.slots,h2⟩
   . exact un.slot b o e (by rw [Y.out b O];exact n) hb W
 . by_cases O:aU X b
   . exact pb O
   . rw [bG O];exact un.free b o e (by rw [Y.out b O];exact n) W
 . rw [bG (Z e)];exact un.tups b xs (by rw [Y.out b (Z e)];exact e)
 . rw [bG (Z e)];exact un.frzs b o w (by rw [Y.out b (Z e)];exact e)
 . rw [bG (Z e)];exact un.tbls b ps (by rw [Y.out b (Z e)];exact e)
 . rw [bG (Z e)];exact un.cts b qs (by rw [Y.out b (Z e)];exact e)
 . by_cases O:aU X b
   . rw [pb O] at e;cases e
   . rw [bG O] at e
     have up:∀ c u,H2 c=some u->(∀ ob φ,u≠.frz ob (.ext φ))->jr X H2 c=some u:=fun c u z hn=>by
      rw [bG]
      . exact z
      . intro hcc;obtain ⟨o',_,_,h1,_⟩:=U hcc;rw [z] at h1;exact hn _ _ (qd9 h1)
     exact (hok b w e).stay (fun _ _ _ z=>z) (fun c z=>up c _ z fun _ _ y=>nomatch y) (fun c xs z=>up c _ z fun _ _ y=>nomatch y) fun c ob xs z=>up c _ z fun _ _ y=>nomatch y
 . obtain ⟨o',h1,_,h2,_⟩:=U O;rw [h1,h2]
end
variable {σ:St} {H:Hp}
section
variable {X:Cx} {x:Str} {p pos:Pos} {e:Expr} {es:List Expr} {t:TA} {f:Addr} {fd:qq8} {ps:List Str} {sp:Sp} {k:Nat}
df B2 (X:Cx) (sp:Sp) (t:TA):TE:=fun σ H Q=>t σ H fun vs H1=>∀ H',PlusC X σ H1 H'->sp vs H' (fun v H2=>(∀ c,aU X c->H2 c=H' c)->Q v (jr X H2)) E0
theorem wA {pins:List (Addr×Obj)} {s:qa4} (I:Inv X pins σ H s) (O:∀ x,X.fn x=true):∀ b,aU X b->b∉frs X.stack/\∀ o,X.base.get? b≠some o:=fun b ⟨x,U⟩=>by
 have q:=I.ok.cab x b (O x) U;refine ⟨fun z=>?_,fun o e=>?_⟩
 . rcases qb6.mp (I.stkSub b z) with y | y
   . exact I.cne x b U y
   . obtain ⟨_,o,W,_⟩:=I.ok.funs.mem y;exact absurd (qa9 W) (qj1.mpr q)
 . exact absurd (qb7 (qa9 e) I.ok.bsz) (qj1.mpr q)
theorem wC (F:FnOk X.prog X.w X.K X.mg X.base CX0 k f fd ps sp) (hr:Room k X.A) (hg:Gl X x) (hm:X.mg x=some (.ref f)) (hk:PySem.W.keepIn X.K (.ref f)=true) (hb:Binds X.K fd ps []) (Y:∀ x,X.fn x=true)
  (ha:PA X (e::es) t) (hdb:(x==("__debug__":Str))=false:=by decide) (he:qa6 (e::es) X.env=#a::qa6 es X.env:=by rfl) (Z:(qi4 pos (qa6 es X.env)).any (·.1)=false:=by rfl) :
  PE X #b (B2 X sp t):=by
 intro pins s σ H Q I h;refine qp9 (mB I hg hm ?_ hdb);refine PySem.W.callWith_K (h₀:=X.base) I.ok.mod.kin hk (thn (ha pos pins s σ H _ I h) fun us s1 ⟨vs,H1,O,r,q⟩=>⟨O.kIn,?_⟩) he Z;obtain ⟨H',pc,e0⟩:=yY O (wA O Y);have hs:=q H' pc;have hl:(us++[]).length=ps.length:=by rw [qh2,<- r.length];exact F.len _ _ _ _ hs
 refine zi3 (qs6 (F.run X.A X.stack s1 H' ⟨us,[]⟩ (us++[]) vs _ E0 hr e0 (hb s1 us O.kIn hl) (by rw [qh2];exact r) hs) fun r s' U=>?_);cases r with
 | error e=>exact U.elim
 | ok fl =>
  cases fl with
  | ret u=>exact O.afterP pc e0.hok U
  | next=>exact qg6 U
  | brk=>exact qg6 U
  | cont=>exact qg6 U
end
df spR (P:qc9) (w:World) (K:PySem.W.Frag) (mg:Str->Option Value) (base:Heap) (kk n:Nat) (F:Orc->Fd):Sp:=fun vs H Q E=>∃ G,wz P w K mg base kk H G/\spG K n (F G) vs H Q E
variable {x:Str} {st:Stmt} {N ps:List Str} {kk n:Nat}
section
variable {P:qc9} {w:World} {K:PySem.W.Frag} {mg:Str->Option Value} {base:Heap}
theorem yZ {k:Nat} {g:Orc->Fs} (D:DefF K mg x st ps) (S:FnScope N ps (ac st)) (hn:ps.length=n)
 (O:∀ (f:Addr) (cdv:Value) (A:qe0) (outer:List Env) (s:qa4) (H:Hp) (E:XK),Room k (A.deeper (qz3 x (ac st) s.heap.objs.size f cdv))->∀ G:Orc,wz P w K mg base kk H G->GS (jy CX0 P w K mg base N x (ac st) f cdv A outer s H E).nox (aI st) (g G)) :
  OkF P w K mg base x (k+1) ps (spR P w K mg base kk n fun G=>fC N.length (g G)):=by
 obtain ⟨f,fd,h1,h2,h3,h4⟩:=D.ex;refine ⟨f,fd,h1,h2,h3,h4.ok S (fun vs H Q E h=>?_) (fun cdv A outer s H vs Q E hr h=>?_)⟩
 . obtain ⟨G,_,F,ρ,cs,ch,c,ch',_,W,r,_⟩:=h;rw [r.length,W,hn]
 . obtain ⟨G,Z,F,ρ,cs,ch,c,ch',Y,W,r,U,kq⟩:=h;refine ⟨_,O f cdv A outer s H E hr G Z,?_⟩;unfold fC at U;dsimp only at U;split at U
   . rename_i c1 ch1 q;cases U;exact ⟨_,ch,F,ρ,_,d9 Y r,q,fun v F' H' ρ' a z=>kq v F' H' ρ' a z⟩
   . rename_i δ1 ch1 q;cases U;exact ⟨_,ch,F,ρ,_,d9 Y r,q,fun σ' F' H' ρ' a z=>kq .non F' H' ρ' a (iz (K:=K) (F:=F'))⟩
   . cases U
end
open Classical in
df um (f1 f2:Addr) (F1:Hp) (g1 g2:List Dt->Option T):Orc:=fun a F0 ds=>if a=f1/\F0=F1/\ds.length=1 then g1 ds else if a=f2/\F0=F1/\ds.length=1 then g2 ds else none
variable {f1 f2:Addr} {F1:Hp} {g1 g2:List Dt->Option T}
theorem B3 {d:Dt}:um f1 f2 F1 g1 g2 f1 F1 [d]=g1 [d]:=if_pos ⟨rfl,rfl,rfl⟩
theorem B4 {d:Dt} (h:f1≠f2):um f1 f2 F1 g1 g2 f2 F1 [d]=g2 [d]:=(if_neg fun z=>h z.1.symm).trans (if_pos ⟨rfl,rfl,rfl⟩)
df FnIn (H:Hp) (f:Addr) (name qual:Str) (params:qj4) (body:List Stmt) (scope:Scope) (cl:List (Str×Addr)):Prop:=∃ fo uf c' doc pm ctv,H f=some (.frz fo uf)/\fo.data=.func (PySem.W.fnX name qual params body scope cl .none .none doc pm none (.ref c') ctv)/\∃ oc,H c'=some (.frz oc (.code qual))
variable {f:Addr} {qual:Str} {params:qj4} {body:List Stmt} {scope:Scope}
theorem FnIn.up {name:Str} {cl:List (Str×Addr)} (h:FnIn H f name qual params body scope cl) (s:∀ b o u,H b=some (.frz o u)->H' b=some (.frz o u)):FnIn H' f name qual params body scope cl:=by obtain ⟨fo,uf,c',doc,pm,ctv,h1,h2,oc,h3⟩:=h;exact ⟨fo,uf,c',doc,pm,ctv,s _ _ _ h1,h2,oc,s _ _ _ h3⟩
df dw (δ:Sl):List Nat->Option (List Dt)
 | []=>some []
 | j::js=>match δ[j]? with
  | some (some (.dat d))=>(dw δ js).map (d::·)
  | _=>none
structure NestD (X:Cx) (name qual:Str) (params:qj4) (body:List Stmt) (scope:Scope) (N ps fr:List Str) (js:List Nat) (g:De->Option Out) (kk:Nat):Prop where
 S:ClScope N ps fr scope
 ndn:∀ x,∀ y∈scope.names,y.1=x->scope.names.lookup x=some y.2
 one:ps.length=1
 fre:∀ x∈scope.names,x.2=.free->X.env.kindOf x.1=some .cell
 jl:js.length=fr.length
 nm:∀ (i j:Nat) (x:Str),fr[i]?=some x->js[i]?=some j->X.N[j]?=some x/\X.env.kindOf x=some .cell
 bd:∀ (s:qa4) (cl:List (Str×Addr)) (doc pm ctv cd:Value) (us:List Value),us.length=ps.length->zb4 s (PySem.W.fnX name qual params body scope cl .none .none doc pm none cd ctv) ⟨us,[]⟩ (ps.zip us)
 body:∀ (f c':Addr) (cl:List (Str×Addr)) (A:qe0) (outer:List Env) (s:qa4) (H:Hp),Room kk (A.deeper (ip qual scope s.heap.objs.size f (.ref c') cl))->DS (oz CX0 X.prog X.w X.K X.mg X.base N qual scope f (.ref c') cl A outer s H E0 fun _ _=>False) body g
variable {names:List (Str×qq0)} {cells:List (Str×Addr)} {c:Addr} {K:PySem.W.Frag} {δ:Sl} {ch:CH} {ρ:Nat->Addr} {js:List Nat}
section
variable {X:Cx}
theorem kE (h:(x,c)∈dJ names cells):(x,qe3)∈names/\c=(cells.lookup x).getD 0:=by
 have O:∀ (names:List (Str×qq0)) (acc:List (Str×Addr)),(x,c)∈names.foldl (fun cs q=>if q.2==qe3 then (q.1,(cells.lookup q.1).getD 0)::cs else cs) acc->(x,c)∈acc∨((x,qe3)∈names/\c=(cells.lookup x).getD 0):=fun names=>by
  induction names with
  | nil=>intro acc h;exact .inl h
  | cons y r U =>
   intro acc h;rw [qi1] at h;rcases U _ h with z | z
   . split at z
     . rename_i hk;rcases qb6.mp z with e | z
       . obtain ⟨a,k⟩:=y;cases e;have hk:k=qe3:=by simpa using hk
         subst hk;exact .inr ⟨.head _,rfl⟩
       . exact .inl z
     . exact .inl z
   . exact .inr ⟨.tail _ z.1,z.2⟩
 rcases O names [] h with z | z
 . cases z
 . exact z
theorem uo (h:(x,qe3)∈names):∃ c,(dJ names cells).lookup x=some c:=by
 have O:∀ (names:List (Str×qq0)) (acc:List (Str×Addr)),((x,qe3)∈names∨∃ c,acc.lookup x=some c)->∃ c,(names.foldl (fun cs q=>if q.2==qe3 then (q.1,(cells.lookup q.1).getD 0)::cs else cs) acc).lookup x=some c:=fun names=>by
  induction names with
  | nil =>
   intro acc h;rcases h with h | h
   . cases h
   . exact h
  | cons y r U =>
   intro acc h;rw [qi1];refine U _ ?_;rcases h with h | ⟨c,h⟩
   . rcases qb6.mp h with e | h
     . subst e;right;simp
     . exact .inl h
   . right;split
     . rw [qg4];cases x==y.1 with
       | true=>exact ⟨_,rfl⟩
       | false=>exact ⟨c,h⟩
     . exact ⟨c,h⟩
 exact O names [] (.inl h)
theorem kF {F:Hp} (en:Ge K δ ch σ F H ρ):∀ {js:List Nat} {caps:List Dt},dw δ js=some caps->∃ fs:List V,Reps K F caps fs/\fs.length=js.length/\∀ (i j:Nat) (v:V),js[i]?=some j->fs[i]?=some v->σ[j]?=some (some v)
 | [],caps,h=>by cases h;exact ⟨[],by simp only [Reps],rfl,fun i j v h=>by simp at h⟩
 | j::js,caps,h=>by
  simp only [dw] at h;split at h<;>first | (cases h;done) | skip
  rename_i d O;obtain ⟨cs,q,rfl⟩:=mS h;obtain ⟨v,U,Y⟩:=en.has j _ O;obtain ⟨fs,h1,h2,h3⟩:=kF en q;refine ⟨v::fs,by simp only [Reps];exact ⟨v,fs,rfl,Y,h1⟩,by simp [h2],fun i W Z q1 q2=>?_⟩;cases i with
  | zero =>simp at q1 q2;subst q1 q2;exact U
  | succ i=>exact h3 i W Z (by simpa using q1) (by simpa using q2)
theorem NestD.at {name:Str} {fr:List Str} {g:De->Option Out} (D:NestD X name qual params body scope N ps fr js g kk) (Y:∀ x y c,X.env.cells.lookup x=some c->X.env.cells.lookup y=some c->x=y) (Z:∀ x,X.env.kindOf x=some .cell->∃ c,X.env.cells.lookup x=some c)
 (pc:PlusC X σ H H') (fi:FnIn H' f name qual params body scope (dJ scope.names X.env.cells)) {fs:List V} (hl:fs.length=js.length) (hv:∀ (i j:Nat) (v:V),js[i]?=some j->fs[i]?=some v->σ[j]?=some (some v)) (O:∀ x∈scope.names,x.2=.free->x.1∈fr) :
  ∃ c' doc pm ctv fo uf,ClAt H' f name qual params body scope (dJ scope.names X.env.cells) fr fs c' doc pm ctv fo uf:=by
 obtain ⟨fo,uf,c',doc,pm,ctv,h1,h2,h3⟩:=fi;have cells:∀ x,(x,qe3)∈scope.names->∃ c,X.env.cells.lookup x=some c:=fun x hx=>Z x (D.fre (x,.free) hx rfl)
 have look:∀ x c,(x,c)∈dJ scope.names X.env.cells->X.env.cells.lookup x=some c:=fun x c h=>by obtain ⟨a,b⟩:=kE h;obtain ⟨c2,e⟩:=cells x a;rw [e] at b;rw [e,b];rfl
 have vals:∀ x c,(x,c)∈dJ scope.names X.env.cells->∃ (i:Nat) (o:Obj) (v:V) (u:Value),fr[i]?=some x/\fs[i]?=some v/\H' c=some (fj c o)/\o.data=.cell (some u)/\RelV v u:=fun x c h=>by obtain ⟨a,_⟩:=kE h;obtain ⟨i,hi⟩:=List.getElem?_of_mem (O _ a rfl);have hif:i<fr.length:=(gX hi).1;have hjl:=D.jl;have q:js[i]?=some js[i]:=gQ \3;have U:fs[i]?=some fs[i]:=gQ \3;obtain ⟨n1,n2⟩:=D.nm i _ x hi q;obtain ⟨o,v,g1,g2,g3⟩:=pc.cel x c (look x c h);obtain ⟨u,rfl,ru⟩:=g3 _ _ n1 (hv i _ _ q U) (.inl n2);exact ⟨i,o,_,u,hi,U,g1,g2,ru⟩
 refine ⟨c',doc,pm,ctv,fo,uf,⟨h1,h2,h3,fun x c h=>?_,fun x y c W e2=>?_,?_,fun i x v W e2=>?_,fun x c e=>?_⟩⟩
 . obtain ⟨_,o,_,u,_,_,g1,g2,_⟩:=vals x c h;exact ⟨o,u,g1,g2⟩
 . exact Y x y c (look x c (PySem.mem_of_lookup W)) (look y c (PySem.mem_of_lookup e2))
 . rw [hl,D.jl]
 . have hx:=D.S.frk x (qd3 W);obtain ⟨c,e⟩:=uo (cells:=X.env.cells) (PySem.mem_of_lookup hx);have hif:i<fr.length:=(gX W).1;have hjl:=D.jl;have q:js[i]?=some js[i]:=gQ \3;obtain ⟨n1,n2⟩:=D.nm i _ x W q;obtain ⟨o,w,g1,g2,g3⟩:=pc.cel x c (look x c (PySem.mem_of_lookup e));obtain ⟨u,rfl,ru⟩:=g3 _ _ n1 (hv i _ _ q e2) (.inl n2);exact ⟨c,o,u,e,g1,g2,ru⟩
 . obtain ⟨a,_⟩:=kE (PySem.mem_of_lookup e);exact D.ndn x _ a rfl
end
section
variable {X:Cx} {K:PySem.W.Frag}
theorem Adv.hide {F H1:Hp} {ρ1:Nat->Addr} {ch1:CH} {O:Hp} (g:Gh K F H ρ ch) (Y:PlusC X σ H O) (a:Adv K F O ρ ch F1 H1 ρ1 ch1) (hc:∀ c,aU X c->H1 c=O c):Adv K F H ρ ch F1 (jr X H1) ρ1 ch1:=by
 have q:=Y.fre
 have W:∀ {b:Addr},aU X b->∃ o,O b=some (fj b o):=fun {b} ⟨x,hx⟩=>by obtain ⟨o,v,e,_⟩:=Y.cel x b hx;exact ⟨o,e⟩
 have nF1:∀ {b:Addr} {o:HO},F1 b=some o->¬ aU X b:=fun {b o} e Z=>by
  obtain ⟨ob,g1⟩:=W Z;have g2:=a.gh.fh b o e;rw [hc b Z,g1] at g2;rcases a.nw b o e with z | z | ⟨xs,z⟩
  . have:=g.fh b o z;rw [q b Z] at this;cases this
  . rw [g1] at z;cases z
  . rw [z] at g2;cases g2
 have nP:∀ (i:Nat) (o:CO),ch1[i]?=some o->¬ aU X (ρ1 i):=fun i o e Z=>by
  obtain ⟨ob,g1⟩:=W Z;have g2:=hc _ Z;rw [g1] at g2;have ok:=a.gh.ok i o e;cases o with
  | lst l=>obtain ⟨vs,h1,_⟩:=ok;rw [h1] at g2;cases g2
  | tup l=>obtain ⟨vs,h1,_⟩:=ok;rw [h1] at g2;cases g2
  | dK l=>obtain ⟨vs,h1,_⟩:=ok;rw [h1] at g2;cases g2
  | ins c ns l=>obtain ⟨C,dx,fs,h0,h1,_⟩:=ok;rw [h1] at g2;cases g2
  | wk l=>obtain ⟨o,vs,h1,_⟩:=ok;rw [h1] at g2;cases g2
  | dT l=>obtain ⟨vs,h1,_⟩:=ok;rw [h1] at g2;cases g2
  | wt l=>obtain ⟨o,vs,h1,_⟩:=ok;rw [h1] at g2;cases g2
 refine ⟨⟨fun b o e=>?_,a.gh.inj,a.gh.out,fun i o e=>?_⟩,a.len,a.ext,fun i h1 h2=>?_,fun b o e h=>?_,a.old,fun b o e=>?_,fun b o u e=>?_⟩
 . rw [bG (nF1 e)];exact a.gh.fh b o e
 . have U:=nP i o e;exact (a.gh.ok i o e).mono (Same.refl _) (fun _ _=>rfl) (nL _) fun u hu=>by rw [bG U];exact hu
 . have:=a.fr i h1 h2
   have U:¬ aU X (ρ1 i):=fun z=>by obtain ⟨ob,g1⟩:=W z;rw [this] at g1;cases g1
   rw [<- Y.out _ U];exact this
 . have U:¬ aU X b:=fun z=>by rw [q b z] at e;cases e
   rw [bG U];exact a.prot b o (by rw [Y.out b U];exact e) h
 . rcases a.nw b o e with z | z | z
   . exact .inl z
   . exact .inr (.inl (by rw [<- Y.out b (nF1 e)];exact z))
   . exact .inr (.inr z)
 . have U:¬ aU X b:=fun z=>by rw [q b z] at e;cases e
   rw [bG U];exact a.fz b o u (by rw [Y.out b U];exact e)
end
section
variable {X:Cx} {e0:Expr} {p p1 p2 pos:Pos} {x n1 n2 q1 q2:Str} {par1 par2:qj4} {bod1 bod2:List Stmt} {sc1 sc2:Scope} {N1 ps1 fr1 N2 ps2 fr2:List Str} {js1 js2:List Nat} {g1 g2:De->Option Out} {k kk i1 i2:Nat} {ps:List Str} {FR:Orc->Fd} {f0:Fg}
df tRt (X:Cx) (i1 i2:Nat) (n1 n2 q1 q2:Str) (par1 par2:qj4) (bod1 bod2:List Stmt) (sc1 sc2:Scope) (N1 N2:List Str) (js1 js2:List Nat) (g1 g2:De->Option Out) (f0:Fg) (FR:Orc->Fd):TE:=fun σ H Q =>∃ δ ch F ρ f1 f2 U ch0 O q c ch',Ge X.K δ ch σ F H ρ/\σ[i1]?=some (some (.ref f1))/\σ[i2]?=some (some (.ref f2))/\f1≠f2/\FnIn H f1 n1 q1 par1 bod1 sc1 (dJ sc1.names X.env.cells)/\FnIn H f2 n2 q2 par2 bod2 sc2 (dJ sc2.names X.env.cells)∧f0 δ ch=some (U,ch0)/\dw δ js1=some O/\dw δ js2=some q/\(∀ F0,FR (um f1 f2 F0 (jG N1.length g1 O) (jG N2.length g2 q)) [U,.fn f1 F0,.fn f2 F0] ch0=some (c,ch'))/\KG X.K F H ρ ch c ch' Q
theorem Eh (F:OkF X.prog X.w X.K X.mg X.base x k ps (spR X.prog X.w X.K X.mg X.base (kk+1) 3 FR)) (hr:Room k X.A) (hg:Gl X x) (hfn:∀ x,X.fn x=true) (h0:GE X e0 f0) (hv1:PE X (.Name n1 p1) (jx i1)) (hv2:PE X (.Name n2 p2) (jx i2))
  (D1:NestD X n1 q1 par1 bod1 sc1 N1 ps1 fr1 js1 g1 kk) (D2:NestD X n2 q2 par2 bod2 sc2 N2 ps2 fr2 js2 g2 kk) (ha1:∀ x∈sc1.names,x.2=.free->x.1∈fr1) (ha2:∀ x∈sc2.names,x.2=.free->x.1∈fr2) (hdb:(x==("__debug__":Str))=false:=by decide)
  (s0:qa6 [e0,.Name n1 p1,.Name n2 p2] X.env=(false,eval e0 X.env)::qa6 [.Name n1 p1,.Name n2 p2] X.env:=by rfl) (s1:qa6 [.Name n1 p1,.Name n2 p2] X.env=(false,eval (.Name n1 p1) X.env)::qa6 [.Name n2 p2] X.env:=by rfl) (s2:qa6 [.Name n2 p2] X.env=(false,eval (.Name n2 p2) X.env)::qa6 [] X.env:=by rfl)
  (hpl:(qi4 pos (qa6 [.Name n1 p1,.Name n2 p2] X.env)).any (·.1)=false:=by rfl) :
  PE X (.Call (.Name x p) [e0,.Name n1 p1,.Name n2 p2] [] pos) (tRt X i1 i2 n1 n2 q1 q2 par1 par2 bod1 bod2 sc1 sc2 N1 N2 js1 js2 g1 g2 f0 FR):=by
 obtain ⟨f,fd,hm,hk,hb,FF⟩:=F.ex;intro pins s σ H Q I h;refine (wC FF hr hg hm hk hb hfn (bJ h0 (bJ hv1 (bJ hv2 cW s2) s1) s0) hdb s0 hpl) pins s σ H Q I ?_;obtain ⟨δ,ch,F,ρ,f1,f2,c0,ch0,Z,U,c,ch',en,v1,v2,hne,fi1,fi2,hf0,hc1,hc2,hrun,kq⟩:=h;refine ⟨δ,ch,F,ρ,c0,ch0,en,hf0,fun v F1 H1 ρ1 q r1=>⟨.ref f1,v1,.ref f2,v2,fun H' pc=>?_⟩⟩;have en1:=en.adv q
 have W:∀ b o,H1 b=some o->H' b=some o:=fun b o z=>by rw [pc.out b fun y=>by rw [pc.fre b y] at z;cases z];exact z
 have up:∀ b o u,H b=some (.frz o u)->H' b=some (.frz o u):=fun b o u z=>W _ _ (q.fz b o u z)
 obtain ⟨fs1,rc1,hl1,hs1⟩:=kF en hc1;obtain ⟨fs2,rc2,hl2,hs2⟩:=kF en hc2;have O:∀ x,X.env.kindOf x=some .cell->∃ c,X.env.cells.lookup x=some c:=fun x hx=>I.ok.has x (.inl hx)
 have fj1:=fi1.up up;have fj2:=fi2.up up;obtain ⟨c1',doc1,pm1,ctv1,fo1,uf1,C1⟩:=D1.at I.ok.inj O pc fj1 hl1 hs1 ha1
 obtain ⟨c2',doc2,pm2,ctv2,fo2,uf2,C2⟩:=D2.at I.ok.inj O pc fj2 hl2 hs2 ha2
 refine ⟨um f1 f2 F1 (jG N1.length g1 Z) (jG N2.length g2 U),fun f F0 ds t hG=>?_,F1,ρ1,[c0,.fn f1 F1,.fn f2 F1],ch0,c,ch',⟨fun b o z=>W b o (q.gh.fh b o z),q.gh.inj,q.gh.out,fun i o z=>?_⟩,rfl,⟨_,_,rfl,r1,_,_,rfl,⟨rfl,Same.refl _⟩,_,_,rfl,⟨rfl,Same.refl _⟩,rfl⟩,hrun F1,fun v' F2 H2 ρ2 a2 r2 hcs=>?_⟩
 . unfold um at hG;split at hG
   . rename_i hh;obtain ⟨rfl,rfl,hd⟩:=hh;refine ⟨⟨fo1,uf1,_,C1.fn,C1.dat⟩,fun A outer s H2 F2 us vs Q2 hr2 hp e0 h0 fh r rd Y=>?_⟩;exact sv D1.S D1.ndn C1 (rc1.same q.old) (fun s us hu=>D1.bd s _ _ _ _ _ us hu) (fun A outer s H hr=>D1.body _ _ _ A outer s H hr) (by rw [hd,D1.one]) hG A outer s H2 F2 us vs Q2 hr2 hp e0 h0 fh r rd Y
   . split at hG
     . rename_i hh;obtain ⟨rfl,rfl,hd⟩:=hh;refine ⟨⟨fo2,uf2,_,C2.fn,C2.dat⟩,fun A outer s H2 F2 us vs Q2 hr2 hp e0 h0 fh r rd Y=>?_⟩;exact sv D2.S D2.ndn C2 (rc2.same q.old) (fun s us hu=>D2.bd s _ _ _ _ _ us hu) (fun A outer s H hr=>D2.body _ _ _ A outer s H hr) (by rw [hd,D2.one]) hG A outer s H2 F2 us vs Q2 hr2 hp e0 h0 fh r rd Y
     . cases hG
 . exact (q.gh.ok i o z).mono (Same.refl _) (fun _ _=>rfl) (nL _) fun u hu=>W _ _ hu
 . exact kq.adv en.gh q v' F2 (jr X H2) ρ2 (Adv.hide q.gh pc a2 hcs) r2
end
df sw (i:Nat) (name qual:Str) (params:qj4) (body:List Stmt) (scope:Scope) (clos:List (Str×Addr)):TS:=fun D σ H=>∀ (f c':Addr) (doc pm ctv:Value) (H':Hp),MadeH H H' f c' qual {cls:=.type "function",data:=.func (PySem.W.fnX name qual params body scope clos .none .none doc pm none (.ref c') ctv)}->D.nx (σ.set i (some (.ref f))) H'
section
variable {X:Cx} {c P:Addr} {qs:List ((Nat×Nat)×Str)} {name qual:Str} {params:qj4} {body:List Stmt} {scope:Scope} {clos:List (Str×Addr)} {pos:Pos} {i:Nat}
theorem y0 (hN:X.N.Nodup) (hi:X.N[i]?=some name) (hx:Loc X.env.scope name) (Y:X.fn name=true∨X.env.scope.names.lookup name=some .local) (B:TabB X.mg X.base c P) (O:X.env.code=.ref c) (hT:(P,qs)∈cA X.K) (W:qualnameIn X.env name name=qual) (hq:((pos.line,pos.col),qual)∈qs) (Z:∀ q,((pos.line,pos.col),q)∈qs->q=qual) (hcl:zf9 scope X.env=pure clos)
  (U:params.defaults=[]) (hk0:params.kw_defaults=[]) (ha:annTrees params none X.env=[]):PS X (.FunctionDef name params body [] none [] scope none name pos) (sw i name qual params body scope clos):=fun pins s σ H D I h =>
 B1 hN hi hx Y B O W hq Z hcl U hk0 ha pins s σ H D I ⟨I.base.cts _ _ (I.ok.tb _ hT),h⟩
end
variable {g:Fs} {r:CV×CH} {sc:Scope}
section
variable {X:Cx} {e0:Expr} {pos:Pos} {n1 n2 q1 q2:Str} {par1 par2:qj4} {bod1 bod2:List Stmt} {sc1 sc2:Scope} {N1 N2:List Str} {js1 js2:List Nat} {g1 g2:De->Option Out} {i1 i2:Nat} {FR:Orc->Fd} {f0:Fg} {K:PySem.W.Frag}
df Ay (X:Cx) (i1 i2:Nat) (n1 n2 q1 q2:Str) (par1 par2:qj4) (bod1 bod2:List Stmt) (sc1 sc2:Scope) (σ:St) (H:Hp) (f1 f2:Addr):Prop:=σ[i1]?=some (some (.ref f1))/\σ[i2]?=some (some (.ref f2))/\f1≠f2/\FnIn H f1 n1 q1 par1 bod1 sc1 (dJ sc1.names X.env.cells)/\FnIn H f2 n2 q2 par2 bod2 sc2 (dJ sc2.names X.env.cells)
df tG2 (X:Cx) (i1 i2:Nat) (n1 n2 q1 q2:Str) (par1 par2:qj4) (bod1 bod2:List Stmt) (sc1 sc2:Scope) (g:Fs):TS:=fun D σ H =>∃ δ ch F ρ f1 f2 o,Ge X.K δ ch σ F H ρ/\Ay X i1 i2 n1 n2 q1 q2 par1 par2 bod1 bod2 sc1 sc2 σ H f1 f2/\g δ ch=some o/\PostG X.K F H ρ ch D o
theorem Adv.same {F:Hp} (g:Gh K F H ρ ch) (s:Same H H'):Adv K F H ρ ch F H' ρ ch:=⟨⟨fun b o e=>s b o (g.fh b o e),g.inj,g.out,fun i o e=>(g.ok i o e).mono (Same.refl _) (fun _ _=>rfl) (nL _) fun u q=>s _ _ q⟩,nL _,fun _ _=>rfl,fun i h1 h2=>absurd h2 (qj1.mpr h1),fun b o e _=>s b o e,Same.refl _,fun _ _ e=>.inl e,fun b o u e=>s b _ e⟩
df kG (i1 i2:Nat) (δ:Sl):Sl:=(δ.set i1 none).set i2 none
theorem wE {p1 p2:Pos} {ss:List Stmt} (hne:i1≠i2) (hl1:∀ σ:St,σ.length=X.N.length->i1<σ.length/\i2<σ.length)
 (h1:PS X (.FunctionDef n1 par1 bod1 [] none [] sc1 none n1 p1) (sw i1 n1 q1 par1 bod1 sc1 (dJ sc1.names X.env.cells))) (h2:PS X (.FunctionDef n2 par2 bod2 [] none [] sc2 none n2 p2) (sw i2 n2 q2 par2 bod2 sc2 (dJ sc2.names X.env.cells)))
 (hs:PSs X ss (tG2 X i1 i2 n1 n2 q1 q2 par1 par2 bod1 bod2 sc1 sc2 g)) :
  GS X (.FunctionDef n1 par1 bod1 [] none [] sc1 none n1 p1::.FunctionDef n2 par2 bod2 [] none [] sc2 none n2 p2::ss) fun δ ch=>g (kG i1 i2 δ) ch:=by
 intro pins s σ H D I h;refine fF h1 (fF h2 hs) pins s σ H D I ?_;obtain ⟨δ,ch,F,ρ,o,en,hg,k⟩:=h;obtain ⟨l1,l2⟩:=hl1 σ I.len;intro f1 c1 W pm1 Y H1 M1 f2 c2 doc2 pm2 Z H2 U
 have hf:f1≠f2:=fun z=>by have:=U.free;rw [<- z,M1.fn] at this;cases this
 have sm:Same H H2:=fun b o e=>U.old b o (M1.old b o e)
 have a:=Adv.same en.gh sm;refine ⟨kG i1 i2 δ,ch,F,ρ,f1,f2,o,⟨a.gh,by simp [kG,en.len],fun j x O=>?_⟩,⟨?_,?_,hf,?_,?_⟩,hg,k.adv en.gh a⟩
 . unfold kG at O;by_cases e2:i2=j
   . subst e2;rw [zc4 ] at O;cases q:(δ.set i1 none)[i2]? with
     | none=>rw [q] at O;cases O
     | some y=>rw [q] at O;cases O
   . rw [gN e2] at O;by_cases e1:i1=j
     . subst e1;rw [zc4] at O;cases q:δ[i1]? with
       | none=>rw [q] at O;cases O
       | some y=>rw [q] at O;cases O
     . rw [gN e1] at O;obtain ⟨v,hv,r⟩:=en.has j x O;exact ⟨v,by rw [gN e2,gN e1];exact hv,r⟩
 . rw [gN (qq1 hne)];exact qd8 l1
 . exact qd8 (by simpa using l2)
 . obtain ⟨oc,hc⟩:=M1.cod;exact ⟨_,_,c1,W,pm1,Y,U.old _ _ M1.fn,rfl,oc,U.old _ _ hc⟩
 . obtain ⟨oc,hc⟩:=U.cod;exact ⟨_,_,c2,doc2,pm2,Z,U.fn,rfl,oc,hc⟩
df zb (N1 N2:List Str) (g1 g2:De->Option Out) (FR:Orc->Fd) (c0:CV) (ch0:CH) (O q:List Dt) (r:CV×CH):Prop:=∀ f1 f2 F0,f1≠f2->FR (um f1 f2 F0 (jG N1.length g1 O) (jG N2.length g2 q)) [c0,.fn f1 F0,.fn f2 F0] ch0=some r
open Classical in
df fRt (js1 js2:List Nat) (N1 N2:List Str) (g1 g2:De->Option Out) (f0:Fg) (FR:Orc->Fd):Fg:=fun δ ch=>(f0 δ ch).bind fun p=>(dw δ js1).bind fun a=>(dw δ js2).bind fun b =>if h:∃ r,zb N1 N2 g1 g2 FR p.1 p.2 a b r then some h.choose else none
theorem B5 {ch0:CH} {c0:CV} {a b:List Dt} (W:f0 δ ch=some (c0,ch0)) (U:dw δ js1=some a) (O:dw δ js2=some b) (h:zb N1 N2 g1 g2 FR c0 ch0 a b r):fRt js1 js2 N1 N2 g1 g2 f0 FR δ ch=some r:=by
 have q:∃ r,zb N1 N2 g1 g2 FR c0 ch0 a b r:=⟨r,h⟩
 have e:q.choose=r:=by have h1:=q.choose_spec 0 1 (fun _=>none) \7;have h2:=h 0 1 (fun _=>none) \7;exact qd9 (h1.symm.trans h2)
 unfold fRt;rw [W,U,O];simp only [qa0];rw [dif_pos q,e]
theorem B6 (h:fRt js1 js2 N1 N2 g1 g2 f0 FR δ ch=some r):∃ c0 ch0 a b,f0 δ ch=some (c0,ch0)/\dw δ js1=some a/\dw δ js2=some b/\zb N1 N2 g1 g2 FR c0 ch0 a b r:=by
 unfold fRt at h;obtain ⟨p,q,h⟩:=bS h;obtain ⟨a,W,h⟩:=bS h;obtain ⟨b,U,h⟩:=bS h;split at h
 . rename_i O;cases h;exact ⟨p.1,p.2,a,b,q,W,U,O.choose_spec⟩
 . cases h
theorem B7 {e:Expr} {ch':CH} {F:Hp} {c:CV} (en:Ge X.K δ ch σ F H ρ) (fs:Ay X i1 i2 n1 n2 q1 q2 par1 par2 bod1 bod2 sc1 sc2 σ H f1 f2) (h:fRt js1 js2 N1 N2 g1 g2 f0 FR δ ch=some (c,ch')) (k:KG X.K F H ρ ch c ch' Q) :
  tRt X i1 i2 n1 n2 q1 q2 par1 par2 bod1 bod2 sc1 sc2 N1 N2 js1 js2 g1 g2 f0 FR σ H Q:=by
 obtain ⟨Z,ch0,a,b,h0,Y,hb,hr⟩:=B6 h;obtain ⟨W,v2,q,U,O⟩:=fs;exact ⟨δ,ch,F,ρ,f1,f2,Z,ch0,a,b,c,ch',en,W,v2,q,U,O,h0,Y,hb,fun F0=>hr f1 f2 F0 q,k⟩
theorem zd {e:Expr} {pos':Pos} {i:Nat} (h:cT sc N i x=true) (U:gW sc x=true) (nd:N.Nodup) (W:PE X e (tRt X i1 i2 n1 n2 q1 q2 par1 par2 bod1 bod2 sc1 sc2 N1 N2 js1 js2 g1 g2 f0 FR)) (O:bH X sc:=by rfl) (e2:X.N=N:=by rfl) (Y:X.fn x=true∨X.env.scope.names.lookup x=some .local:=by exact .inl rfl)
 (Z:qm7 e (some (.Name x pos')) pos.line X.env=pure false:=by rfl):PS X (.Assign [.Name x pos'] e pos) (tG2 X i1 i2 n1 n2 q1 q2 par1 par2 bod1 bod2 sc1 sc2 (aQ i (fRt js1 js2 N1 N2 g1 g2 f0 FR))):=PS.mono (mP h U nd W O e2 Y Z) fun D σ H ⟨δ,ch,F,ρ,f1,f2,o,en,fs,q,k⟩=>by
 unfold aQ at q;obtain ⟨p,hp,q⟩:=mS q;cases q;exact B7 (e:=e) en fs hp fun v F' H' ρ' a r=>k _ F' H' ρ' a ((en.adv a).put r i)
theorem wF {rest:List Stmt} {W U:Fs} (h1:PS X st (tG2 X i1 i2 n1 n2 q1 q2 par1 par2 bod1 bod2 sc1 sc2 W)) (h2:GS X rest U):PSs X (st::rest) (tG2 X i1 i2 n1 n2 q1 q2 par1 par2 bod1 bod2 sc1 sc2 (az W U)):=PSs.mono (fF h1 h2) fun D σ H ⟨δ,ch,F,ρ,f1,f2,o,en,fs,q,k⟩=>by
 unfold az at q;obtain ⟨Y,h1,q⟩:=bS q;refine ⟨δ,ch,F,ρ,f1,f2,Y,en,fs,h1,?_⟩;cases Y with
 | nx δ' ch'=>exact fun σ' F' H' ρ' a O=>⟨δ',ch',F',ρ',o,O,q,k.adv en.gh a⟩
 | rt c ch'=>cases q;exact k
 | bk δ' ch'=>cases q;exact k
 | ct δ' ch'=>cases q;exact k
end
df qz (mg:Str->Option Value) (base:Heap):Prop:=∃ q ob,mg "__builtins__"=some (.ref q)/\q≠qx0/\base.get? q=some ob/\ob.cls=.type "module"/\ob.dict=some qx0/\ob.data=.plain
variable {P:Addr}
theorem TabB.mk' {mg:Str->Option Value} {base:Heap} (q:K.In base) (h:PySem.W.codeHdIn K c P=true) (b:qz mg base):TabB mg base c P:=⟨PySem.W.codeHd_of_K q h,b⟩
df sx (H:Hp):Prop:=∀ b,H b=none∨(∃ o xs,H b=some (.frz o (.lst xs)))∨∃ qs,H b=some (.ctab qs)
df gM (K:PySem.W.Frag):Hp:=fun b=>((cA K).find? fun p=>p.1==b).map fun p=>.ctab p.2
theorem e8 {u:HO} (h:gM K b=some u):∃ p∈cA K,p.1=b/\u=.ctab p.2:=by obtain ⟨p,hp,rfl⟩:=mS h;exact ⟨p,qz8 hp,by simpa using List.find?_some hp,rfl⟩
theorem wG (O:∀ p∈cA K,∀ q∈cA K,p.1=q.1->p=q) {p:Addr×List ((Nat×Nat)×Str)} (hp:p∈cA K):gM K p.1=some (.ctab p.2):=by
 unfold gM;cases q:(cA K).find? fun x=>x.1==p.1 with
 | none =>have:=List.find?_eq_none.mp q p hp;simp at this
 | some r =>
  have h1:r.1=p.1:=by simpa using List.find?_some q
  rw [O r (qz8 q) p hp h1];rfl
df TabsIn (K:PySem.W.Frag) (h:Heap):Prop:=(∀ p∈cA K,K.lookup p.1=none/\(∃ c,PySem.W.CodeHd h c p.1)/\h.get? p.1=some (PySem.W.tabObj #[]))/\∀ p∈cA K,∀ q∈cA K,p.1=q.1->p=q
variable {a:Addr}
theorem uq {P:qc9} {w:World} {mg mb:Str->Option Value} {CX:CXT} {k:Nat} {fa:Addr} {fd:qq8} {sp:Sp} {s₁:qa4} {vs:List Value} {ns:List Int}
 (KX:K.In s₁.heap) (hns:s₁.heap.Ns qc2 mg) (Z:s₁.heap.Ns qx0 mb) (hbb:∀ x:Str,x≠"__name__"->mb x=qd6 x) (hlim:s₁.heap.NoLimit) (hg:s₁.gens=#[]) (hbm:qz mg s₁.heap) (hT:TabsIn K s₁.heap)
 (ha:s₁.heap.get? a=some {cls:=.type "list",data:=.seq vs.toArray}) (hi:IntsAre vs ns) (hl:ns.length<=qb2) (hr:Room k zi6)
 (F:∀ base:Heap,K.In base->base.Ns qc2 mg->qz mg base->FnOk P w K mg base CX k fa fd [x] sp) (hbind:∀ (s:qa4) (u:Value),zb4 s fd ⟨[u],[]⟩ [(x,u)])
 (hsp:∀ H:Hp,sx H->SqL K H a (ns.map V.int)->sp [.ref a] H (fun v _=>v=.bl true) fun _ _ _=>False)
 (hCX:∀ H e s',CX [] H s₁ (fun _ _ _=>False) e s'->False) :
  qr4 (model P w) zi6 (.call (.ref fa) ⟨[.ref a],[]⟩) (fun r s'=>r=.ok (.ret (.bool true))/\OldK s₁.heap s'.heap/\s'.os=s₁.os/\zd6 s'.gens) s₁:=by
 have rv:=ly hi;have lenV:=hi.length;obtain ⟨hT,hnd⟩:=hT
 have tb:∀ {b:Addr} {u:HO},gM K b=some u->s₁.heap.get? b=some (PySem.W.tabObj #[])/\K.lookup b=none/\∃ c,PySem.W.CodeHd s₁.heap c b:=fun {b u} e=>by obtain ⟨p,hp,rfl,_⟩:=e8 e;obtain ⟨h1,h2,h3⟩:=hT p hp;exact ⟨h3,h1,h2⟩
 have taN:gM K a=none:=by
  cases q:gM K a with
  | none=>rfl
  | some u =>have:=(tb q).1;rw [ha] at this;cases this
 -- H: the script,if it is none of the module's own,and the tables
 have core:∀ H:Hp,SqL K H a (ns.map V.int)->(∀ b,b≠a->H b=gM K b)->(H a=none∨(K.lookup a=none/\H a=some (.frz {cls:=.type "list",data:=.seq vs.toArray} (.lst (ns.map V.int)))))→
     qr4 (model P w) zi6 (.call (.ref fa) ⟨[.ref a],[]⟩) (fun r s'=>r=.ok (.ret (.bool true))/\OldK s₁.heap s'.heap/\s'.os=s₁.os/\zd6 s'.gens) s₁:=by
  intro H hS hH hA
  have U:∀ {b:Addr} {u:HO},H b=some u->(b=a/\K.lookup a=none/\u=.frz {cls:=.type "list",data:=.seq vs.toArray} (.lst (ns.map V.int)))∨(b≠a/\gM K b=some u):=fun {b u} e=>by
   by_cases Z:b=a
   . subst Z;rcases hA with z | ⟨z1,z2⟩
     . rw [z] at e;cases e
     . rw [z2] at e;cases e;exact .inl ⟨rfl,z1,rfl⟩
   . rw [hH b Z] at e;exact .inr ⟨Z,e⟩
  have hO:sx H:=fun b=>by
   cases q:H b with
   | none=>exact .inl rfl
   | some u =>
    rcases U q with ⟨_,_,rfl⟩ | ⟨_,z⟩
    . exact .inr (.inl ⟨_,_,rfl⟩)
    . obtain ⟨p,_,_,rfl⟩:=e8 z;exact .inr (.inr ⟨_,rfl⟩)
  have hok:HOk P w H s₁.heap:=fun b u e=>by
   rcases U e with ⟨rfl,_,rfl⟩ | ⟨_,z⟩
   . exact ⟨ha,by rw [qa2];exact hl,vs,_,rv,ha⟩
   . obtain ⟨p,_,_,rfl⟩:=e8 z;refine ⟨#[],(tb z).1,trivial,fun pos q v _ h=>?_⟩;cases h
  have O:∀ {b:Addr} {o:Obj},s₁.heap.get? b=some o->H b=none->(lb s₁.heap H).get? b=some o:=fun e n=>uL e n
  have noH:∀ {b:Addr} {o:Obj},s₁.heap.get? b=some o->o.data≠.seq vs.toArray->o≠PySem.W.tabObj #[]->H b=none:=fun {b o} e d1 d2=>by
   cases q:H b with
   | none=>rfl
   | some u =>
    rcases U q with ⟨rfl,_,rfl⟩ | ⟨_,z⟩
    . rw [ha] at e;cases e;exact absurd rfl d1
    . have:=(tb z).1;rw [e] at this;cases this;exact absurd rfl d2
  have Y:∀ {b:Addr} {m:Str->Option Value},s₁.heap.Ns b m->(lb s₁.heap H).Ns b m:=fun {b m} ⟨o,es,ep,e,d,r⟩=>⟨o,es,ep,O e (noH e (by rw [d];intro z;cases z) (fun z=>by rw [z] at d;cases d)),d,r⟩
  have hKb:K.In (lb s₁.heap H):=fun b o e=>O (KX b o e) (by
   cases q:H b with
   | none=>rfl
   | some u =>
    rcases U q with ⟨rfl,z,_⟩ | ⟨_,z⟩
    . rw [z] at e;cases e
    . rw [(tb z).2.1] at e;cases e)
  have hbmB:qz mg (lb s₁.heap H):=by obtain ⟨bm,ob,b1,b2,b3,b4,b5,b6⟩:=hbm;exact ⟨bm,ob,b1,b2,O b3 (noH b3 (by rw [b6];intro z;cases z) fun z=>by rw [z] at b4;cases b4),b4,b5,b6⟩
  have hM:Mod K mg (lb s₁.heap H):=⟨hKb,Y hns,⟨mb,Y Z,hbb⟩,let ⟨mc,h1,h2⟩:=hlim;⟨mc,Y h1,h2⟩⟩
  have e0:Env0 P w K mg (lb s₁.heap H) zi6 [] s₁ H:=⟨rfl,hM,fun b o e=>xO e,Nat.le_of_eq (tu _ _),trivial,fun b Z=>absurd (show b∈([]:List Addr) from Z) \5,hok,.of_eq hg,fun p hp=>by have h:=wG hnd hp;rw [hH p.1 fun z=>by rw [z,taN] at h;cases h];exact h⟩
  refine qs6 ((F _ hKb (Y hns) hbmB).run zi6 [] s₁ H ⟨[.ref a],[]⟩ [.ref a] [.ref a] _ _ hr e0 (hbind s₁ (.ref a)) (.cons rfl .nil) (hsp H hO hS)) fun r s' h=>?_
  cases r with
  | error e=>exact (hCX H e s' h).elim
  | ok fl =>
   cases fl with
   | next=>exact qg6 h
   | brk=>exact qg6 h
   | cont=>exact qg6 h
   | ret u =>
    obtain ⟨v,H',os,bare,un,hok',r',q⟩:=h;have q':v=.bl true:=q;subst q';obtain rfl:u=qw9 true:=r';refine ⟨rfl,⟨fun b o e=>?_,fun b o e=>un.there b o e \5⟩,os,bare⟩;cases q:H b with
    | none=>exact .inl (un.keep b o e q (by intro z;exact absurd (show b∈([]:List Addr) from z) \5) \5)
    | some u =>
     rcases U q with ⟨rfl,_,rfl⟩ | ⟨_,z⟩
     . have z2:=un.frzs b _ _ q;obtain ⟨e1,_⟩:=hok b _ q;obtain ⟨e2,_⟩:=hok' b _ z2;rw [e] at e1;cases e1
       exact .inl e2
     . obtain ⟨g1,_,c,g2⟩:=tb z;obtain ⟨p,_,_,rfl⟩:=e8 z;obtain ⟨ps,g3,_⟩:=hok' b _ (un.cts b _ q);rw [e] at g1;cases g1;refine .inr (.inl ⟨(g2.tab e).isCodeTable,rfl,#[],ps,rfl,?_⟩);rw [g3];simp [PySem.W.tabObj]
 cases hk:K.lookup a with
 | some o =>have e:=KX a o hk;rw [ha] at e;cases e;exact core (gM K) (.inr ⟨_,vs.toArray,_,hk,rfl,rfl,rfl,by rw [qb5,lenV];exact hl,by simpa using rv⟩) (fun _ _=>rfl) (.inl taN)
 | none =>exact core (fun b=>if b=a then some (.frz {cls:=.type "list",data:=.seq vs.toArray} (.lst (ns.map V.int))) else gM K b) (.inl (.inr ⟨{cls:=.type "list",data:=.seq vs.toArray},if_pos rfl⟩)) (fun b Z=>if_neg Z) (.inr ⟨hk,if_pos rfl⟩)
theorem Ei {l:PySem.W.OpenLaw} {k:Nat} {q:qc9} {loose:List Str} {XP:(Str->Option Value)->Heap->Prop} {YP:World->Heap->Prop} {d:DefRec} {K:Params->PySem.W.Frag} {CX:World->CXT} {sp:World->Sp} 
 (hn:l.most=some n) (hn2:n<=qb2) (hdf:d.params.defaults=[]) (hr:Room k zi6)
 (hY:∀ (w:World) (h:Heap),YP w h->(K w.params).In h) (hT:∀ (w:World) (h:Heap),YP w h->TabsIn (K w.params) h)
 (F:∀ (w:World) (mg:Str->Option Value) (fa:Addr) (h:Heap),(K w.params).In h->h.Ns qc2 mg->mg d.name=some (.ref fa)→
 ∃ fd:qq8,(∀ (s:qa4) (u:Value),zb4 s fd ⟨[u],[]⟩ [(x,u)])∧
 ∀ base:Heap,(K w.params).In base->base.Ns qc2 mg->qz mg base->FnOk l.prog w (K w.params) mg base (CX w) k fa fd [x] (sp w))
 (hsp:∀ (w:World) (H:Hp) (a:Addr) (ns:List Int),ns.length<=n->sx H->SqL (K w.params) H a (ns.map V.int)->sp w [.ref a] H (fun v _=>v=.bl true) fun _ _ _=>False)
 (hCX:∀ (w:World) (H:Hp) (s:qa4) (e:Value) (s':qa4),CX w [] H s (fun _ _ _=>False) e s'->False) :
  PySem.W.WalkO q loose XP YP l.row.toRowW d [] (fun f vs=>PySem.call f vs):=by
 refine Att.Al hn hdf fun w s₀ Z mg mb fa o pm cd doc a vs ns G Y ho hd hcd hmg hobj U O hg=>?_
 have KX:=hY w _ Y;obtain ⟨fd,hb,hF⟩:=F w mg fa _ KX G.T.g hmg;exact uq KX G.T.g G.T.b G.T.builtins G.T.nolimit hg G.T.bmain (hT w _ Y) hobj U (qc3 O hn2) hr hF hb (fun H hO hS=>hsp w H a ns O hO hS) fun H e s'=>hCX w H Z e s'
variable {R:Result->qa4->Prop}
section
variable {P:qc9} {u:World} {B:qe0} {Ex:Value->qa4->Prop} {s:qa4} {it l:Addr} {xs:Array Value}
theorem nv:zf6 (.type "list_reverseiterator") "__len__"=pure none:=by rw [qt7,qn5];kernel_rfl
theorem lp:zf6 (.type "list_reverseiterator") "__length_hint__"=pure (some (.builtin "list_reverseiterator.__length_hint__")):=by rw [qt7,qn5];kernel_rfl
theorem wH {W:Bool->qa4->Prop} (O:s.TypeIs (.ref it) "list_reverseiterator") (q:W false s):wpAny (model P u) B (ql9 (.ref it)) W Ex s:=by
 unfold ql9;refine wB (qx9 O nv ?_)
 wp_delta
 refine qm0 (fun z=>absurd z \7) fun _=>?_
 refine qm0 (fun z=>absurd z \7) fun _=>?_
 refine wB (qx9 O lp ?_);generalize hi:("list_reverseiterator.__length_hint__":String)=j
 wp_delta
 rw [show splitId j=some ("list_reverseiterator","__length_hint__") from by subst hi;decide +kernel];subst hi;refine wB (qs1 (T:="list_reverseiterator") (b:=true) O (by rw [zg7];kernel_rfl) ?_);refine qm0 (fun z=>absurd z \7) fun _=>?_
 refine qm0 (fun _=>?_) fun z=>absurd \2 z
 refine qm0 (fun z=>absurd z \2) fun _=>?_
 exact qa3 q
abbrev sy (xs:Array Value):Nat->Value->Prop:=fun i v=>xs[xs.size-1-i]?=some v
theorem qA (O:B.handled=none) (hi:s.heap.IsRevIter it l ((xs.size:Int)-1)) (hl:s.heap.IsList l xs) (W:l≠it) (t:Addr) (n1:t≠it) (n2:t≠l) (U:Value) (c0:Nat) (ht:s.heap.get? t=some {cls:=.type "list",data:=.seq #[] c0}) (fits:xs.size<=qb2)
 (q:∀ (h':Heap) (tk:Nat) (ys:Array Value) (c:Nat),(∀ b o,b≠t->b≠it->s.heap.get? b=some o->h'.get? b=some o)->h'.get? t=some {cls:=.type "list",dict:=none,data:=.seq ys c,slots:=#[]}->ItemsOf (sy xs) ys xs.size->R (.ok (.ret U)) {s with heap:=h',toks:=tk}) :
  wpAny (model P u) B.in1 (qh4 (.ref t) (.ref it) U) (fun fin s'=>match fin with | .done f=>R (.ok f) s' | .again c'=>c'.quiet=true/\qr4 (model P u) B c' R s') (fun e s'=>R (.error e) s') s:=by
 have tn:t∉[it,l]:=by
  intro z;rcases qb6.mp z with z | z
  . exact n1 z
  . exact n2 (qb9.mp z)
 have Wk:=Walks.listRev (prog:=P) (w:=u) (A:=B.in1) (by simpa using O) it l W xs
 have go:qr4 (model P u) B (.builtin "list.extend.loop" ⟨[.ref t,.ref it,U],[]⟩) R s:=by
  refine codeAny_extend_loopS Wk.toS fits t tn U xs.size 0 _ #[] c0 rfl (qn8 _) ⟨qn8 _,by simpa using hi,hl⟩ ht (ItemsOf.nil _) fun s' ys c Z Y its=>?_
  rw [Moved.eq_with Z];refine q s'.heap s'.toks ys c (fun b o b1 b2 e=>Z.heap b o (fun z=>?_) e) Y its;rcases qb6.mp z with z | z
  . exact b1 z
  . exact b2 (qb9.mp z)
 unfold qh4;refine wB (qv2 (T:="list_reverseiterator") hi.typeIs ?_);have e1:qo8 (.ref t) (.ref it)=false:=by simp [qo8,n1]
 have e2:(qk9 "list_reverseiterator"==qk9 "list")=false:=by decide +kernel
 have e3:(qk9 "list_reverseiterator"==qk9 "tuple")=false:=by decide +kernel
 simp only [e1,e2,e3,qt3,qf1,if_false];refine wB (wpAny_pyIter_revIter hi ?_);refine wB (qi2 (wH hi.typeIs ?_));refine qm0 (fun z=>absurd z \2) fun _=>?_
 exact qa3 ⟨qw8 PySem.F.plain_extend_loop _,go⟩
theorem wI (U:B.handled=none) (hi:s.heap.IsRevIter it l ((xs.size:Int)-1)) (hl:s.heap.IsList l xs) (W:l≠it) (t:Addr) (n1:t≠it) (n2:t≠l) (Y:s.heap.get? t=some {cls:=.type "list",data:=.seq #[]}) (fits:xs.size<=qb2)
 (q:∀ (h':Heap) (tk:Nat) (ys:Array Value) (c:Nat),(∀ b o,b≠t->b≠it->s.heap.get? b=some o->h'.get? b=some o)->h'.get? t=some {cls:=.type "list",dict:=none,data:=.seq ys c,slots:=#[]}->ItemsOf (sy xs) ys xs.size->R (.ok (.ret .none)) {s with heap:=h',toks:=tk}) :
  wpAny (model P u) B.in1 (qi7.«list.__init__» ⟨[.ref t,.ref it],[]⟩) (fun fin s'=>match fin with | .done f=>R (.ok f) s' | .again c'=>c'.quiet=true/\qr4 (model P u) B c' R s') (fun e s'=>R (.error e) s') s:=by
 show wpAny _ _ (do let Z <- zd2 (.ref t);qi7.List.listUpdate (.ref t) (fun _=>#[]);letGo Z.toList.reverse;qh4 (.ref t) (.ref it) .none) _ _ s;refine wB ?_;unfold zd2;refine wB (qv1 Y rfl (qa3 ?_));show wpAny _ _ (updateSeq t (fun _=>#[]) >>= fun _=>letGo (#[]:Array Value).toList.reverse >>= fun _=>qh4 (.ref t) (.ref it) .none) _ _ s;refine wB (zf4 Y rfl ?_);have ht2:=qe9 (qp6 (fun _=>(#[]:Array Value))) Y rfl;have O:∀ b o,b≠t->s.heap.get? b=some o->(s.heap.update t (qp6 (fun _=>(#[]:Array Value)))).get? b=some o:=fun b o hb e=>(qm2 _ _ (qq1 hb)).trans e
 refine wB (wpAny_letGo ?_);exact qA U (hi.at fun o e=>O _ o n1.symm e) (hl.at fun o e=>O _ o n2.symm e) W t n1 n2 .none _ ht2 fits fun h' tk ys c k k2 k3=>q h' tk ys c (fun b o b1 b2 e=>k b o b1 b2 (O b o b1 e)) k2 k3
theorem wJ {W:Value->qa4->Prop} (U:B.handled=none) (hi:s.heap.IsRevIter it l ((xs.size:Int)-1)) (hl:s.heap.IsList l xs) (Z:l≠it) (fits:xs.size<=qb2)
  (q:∀ (h':Heap) (tk:Nat) (ys:Array Value) (c:Nat),(∀ b o,b≠it->s.heap.get? b=some o->h'.get? b=some o)->h'.get? s.heap.objs.size=some {cls:=.type "list",dict:=none,data:=.seq ys c,slots:=#[]}->ItemsOf (sy xs) ys xs.size->W (.ref s.heap.objs.size) {s with heap:=h',toks:=tk}) :
  wpAny (model P u) B (call (.type "list") [.ref it]) W Ex s:=by
 refine callType_codes (Q₁:=fun z O=>z=.ref s.heap.objs.size/\O={s with heap:=s.heap.push {cls:=.type "list",data:=.seq #[]}}) PySem.F.called_list (PySem.F.typeCall_list_1 _) PySem.F.entry_list_init (code_list_new _ ⟨rfl,rfl⟩) fun z O Y=>?_
 obtain ⟨rfl,rfl⟩:=Y;have ht:(s.heap.push {cls:=.type "list",data:=.seq #[]}).get? s.heap.objs.size=some {cls:=.type "list",data:=.seq #[]}:=qb1 _ rfl;have l1:it<s.heap.objs.size:=let ⟨_,e,_⟩:=hi;qa9 e;have l2:l<s.heap.objs.size:=let ⟨_,e,_⟩:=hl;qa9 e;refine ⟨⟨_,ht,rfl⟩,PySem.F.args_list_init_2 _ _,wI (B:=B.in1) (by simpa using U) (hi.at fun o e=>qm1 _ e) (hl.at fun o e=>qm1 _ e) Z _ (qm8 l1) (qm8 l2) ht fits fun h' tk ys c k k2 k3=>?_⟩;exact ⟨rfl,q h' tk ys c (fun b o b1 e=>k b o (qc0 (qa9 e)) b1 (gP _ e)) k2 k3⟩
theorem wK {vs:List V} {its ys:List Value} (r:Vals vs its) (q:ys.length=its.length) (h:∀ (i:Nat) (v:Value),ys[i]?=some v->its[its.length-1-i]?=some v):ys=its.reverse:=by
 apply qr1;intro i;by_cases hi:i<ys.length
 . have e:=h i ys[i] (gQ hi);rw [List.getElem?_reverse \3,e,gQ hi]
 . rw [qk7 \3,qk7 (by simp;oo)]
end
df tLR (X:Cx) (ta:TA):TE:=fun σ H Q=>ta σ H fun xs H1=>∃ p vs,xs=[.ref p]/\SqL X.K H1 p vs/\∀ l,H1 l=none->Q (.ref l) (upd H1 l (.lst vs.reverse))
section
variable {X:Cx} {e:Expr} {ta:TA} {p1 p2 pos1 pos2:Pos} {sc:Scope}
theorem pd:qd6 "reversed"=some (.type "reversed"):=by decide +kernel
theorem iG:∀ {vs:List V} {us:List Value},Vals vs us->Vals vs.reverse us.reverse
 | _,_,.nil=>.nil
 | _,_,.cons h r=>by rw [qr2,qr2];exact (iG r).append (.cons h .nil)
theorem qB (h1:aH sc "list"=true) (h2:aH sc "reversed"=true) (hm1:X.mg "list"=none) (hm2:X.mg "reversed"=none) (hc:X.calm=true) (ha:PA X [e] ta) (e1:bH X sc:=by rfl) (hs:qa6 [e] X.env=[#a]:=by rfl)
  (hs2:qa6 [.Call (.Name "reversed" p2) [e] [] pos2] X.env=[(false,eval (.Call (.Name "reversed" p2) [e] [] pos2) X.env)]:=by rfl) :
  PE X (.Call (.Name "list" p1) [.Call (.Name "reversed" p2) [e] [] pos2] [] pos1) (tLR X ta):=by
 intro pins s σ H Q I h'
 have W:wpAny \4 X.A (eval (.Call (.Name "reversed" p2) [e] [] pos2) X.env) (fun u s2=>∃ it p vs H1,u=.ref it/\Inv X pins σ H1 s2/\gB X pins H1 it/\p≠it/\SqL X.K H1 p vs/\s2.heap.IsRevIter it p ((vs.length:Int)-1)/\(∀ l,H1 l=none->Q (.ref l) (upd H1 l (.lst vs.reverse)))) X.xe s:=by
  refine Call_ (fE I (glD h2 e1) hm2 pd (qh1 (thn (ha pos2 pins s σ H _ I h') fun us s1 ⟨vs,H1,I1,r1,q1⟩=>?_) hs rfl));obtain ⟨p,vs,rfl,hq,q⟩:=q1;obtain ⟨u,rfl,ru⟩:=gF r1;cases ru;obtain ⟨its,r',pl,U⟩:=I1.list hq;have O:its.toArray.size=vs.length:=by have:=r'.length;simpa using this.symm
  refine call_reversed_list pl.isList ?_;have Y:=I1.kept (t':=s1.toks) (h':=s1.heap.push (revObj p ((its.toArray.size:Int)-1))) fun b o g=>gP _ g
  have fp:=I1.fpOk (b:=s1.heap.objs.size) (nL _) (I1.hok.fresh (nL _));refine ⟨s1.heap.objs.size,p,vs,H1,rfl,Y,fp,?_,hq,⟨_,qb1 _ rfl,rfl,by rw [<- O];rfl⟩,q⟩;obtain ⟨_,g,_⟩:=pl.isList;exact qc0 (qa9 g)
 have key:wpAny \4 X.A (spliced (qi4 pos1 (qa6 [.Call (.Name "reversed" p2) [e] [] pos2] X.env))) (fun vs Z=>wpAny \4 X.A (call (.type "list") vs) (EP X pins σ Q) X.xe Z) X.xe s:=?key
 . exact Call_ (fE I (glD h1 e1) hm1 gl (qh1 key hs2 rfl))
 rw [hs2];show wpAny _ _ (spliced ((false,eval (.Call (.Name "reversed" p2) [e] [] pos2) X.env)::[])) _ _ s;refine Calls.spliced_cons (thn W fun u s2 w=>Calls.spliced_nil ?_);obtain ⟨it,p,vs,H1,rfl,Y,fp,hne,hq,hR,q⟩:=w;obtain ⟨its,r',pl,U⟩:=Y.list hq;have O:its.toArray.size=vs.length:=by have:=r'.length;simpa using this.symm
 have fits:its.toArray.size<=qb2:=by first | exact U | (rw [O];exact U) | simpa using U
 refine wJ (Y.ok.hd hc) (by rw [O];exact hR) pl.isList hne fits fun h3 tk ys c k k2 k3=>?_
 have ey:ys.toList=its.reverse:=wK r' (by have:=k3.1;simpa using this) fun i v hv=>by have:=k3.2 i v (by simpa using hv);simpa [sy] using this
 refine ⟨.ref s2.heap.objs.size,_,Y.turnedT (fp:=[it]) (t:=s2.heap.objs.size) (u:=.lst vs.reverse) (t':=tk) (fun b o hb g=>k b o (fun z=>hb (by simp [z])) g) (fun b hb=>?_) (qu2 _) ⟨?_,its.reverse,c,iG r',?_⟩,rfl,q _ (Y.hok.fresh (qu2 _))⟩
 . cases qb9.mp hb;exact fp
 . rw [List.length_reverse,<- O];exact fits
 . rw [k2,<- ey]
end
df eLR (fa:Fg):Fg:=fun δ ch=>(fa δ ch).bind fun p=>match p.1 with
 | .ref i=>match p.2[i]? with
  | some (.lst l)=>some (.ref p.2.length,p.2++[.lst l.reverse])
  | _=>none
 | _=>none
section
variable {X:Cx} {a:Expr} {fa:Fg} {p1 p2 pos1 pos2:Pos} {sc:Scope} {K:PySem.W.Frag}
theorem ma {F:Hp}:∀ {l m:List CV} {vs q:List V},RelCs K F ρ n l vs->RelCs K F ρ n m q->RelCs K F ρ n (l++m) (vs++q)
 | [],_,_,_,h,h'=>by cases h;exact h'
 | _::_,_,_,_,⟨v,r,e,h1,h2⟩,h'=>by subst e;exact ⟨v,_,rfl,h1,ma h2 h'⟩
theorem md {F:Hp}:∀ {l:List CV} {vs:List V},RelCs K F ρ n l vs->RelCs K F ρ n l.reverse vs.reverse
 | [],_,h=>by cases h;exact rfl
 | _::_,_,⟨v,r,e,h1,h2⟩=>by subst e;rw [qr2,qr2];exact ma (md h2) ⟨v,[],rfl,h1,rfl⟩
theorem qC (h1:aH sc "list"=true) (h2:aH sc "reversed"=true) (Z:X.mg "list"=none) (U:X.mg "reversed"=none) (hc:X.calm=true) (ha:GE X a fa) (e1:bH X sc:=by rfl) (he:qa6 [a] X.env=(false,eval a X.env)::qa6 [] X.env:=by rfl) (hs:qa6 [a] X.env=[(false,eval a X.env)]:=by rfl)
  (Y:qa6 [.Call (.Name "reversed" p2) [a] [] pos2] X.env=[(false,eval (.Call (.Name "reversed" p2) [a] [] pos2) X.env)]:=by rfl) :
  GE X (.Call (.Name "list" p1) [.Call (.Name "reversed" p2) [a] [] pos2] [] pos1) (eLR fa):=
 PE.mono (qB h1 h2 Z U hc (bJ ha cW he) e1 hs Y) fun σ H Q ⟨δ,ch,F,ρ,c,ch',en,W,k⟩=>by
  unfold eLR at W;obtain ⟨⟨c1,ch1⟩,hp,O⟩:=bS W;clear W;dsimp only at O;split at O<;>first | (cases O;done) | skip
  rename_i i;split at O<;>first | (cases O;done) | skip
  rename_i l hl;cases O;refine ⟨δ,ch,F,ρ,_,ch1,en,hp,fun v F1 H1 ρ1 a1 r1=>?_⟩;obtain ⟨vs,g1,g2⟩:=a1.gh.ok i _ hl;refine ⟨_,vs,by rw [r1.2],.inl (.inl g1),fun q hq=>?_⟩;refine k (.ref q) F1 _ _ (a1.trans en.gh (na (o:=.lst l.reverse) a1.gh hq ⟨_,ar,md g2⟩)) ⟨by simp,?_⟩
  first
   | rw [if_pos rfl]
   | (dsimp only;rw [if_pos rfl])
end
df qD (K:PySem.W.Frag):Bool:=K.all fun p=>match p.2.data with
 | .seq its _=>(match its.toList with
  | [.int _ _,.str _ _]=>false
  | _=>true)
 | _=>true
theorem pe {o:Obj}:∀ {K:List (Addr×Obj)},K.lookup a=some o->(a,o)∈K
 | [],h=>by cases h
 | (b,u)::K,h=>by
  rw [qg4] at h;cases q:a==b with
  | true=>rw [q] at h;cases h;rw [beq_iff_eq.mp q];exact .head _
  | false=>rw [q] at h;exact .tail _ (pe h)
theorem wL {n:Int} {s:Str} (Z:qD K=true) (h:SqT K H a [.int n,.str s]):H a=some (.tup ([qv5 n,zb1 s].map kV)):=by
 rcases h with h | ⟨o,its,m,hk,hc,U,hz,r⟩
 . exact h
 . have q:=qj2.mp Z (a,o) (pe hk);dsimp only at q;rw [U] at q;dsimp only at q;generalize its.toList=w at q r;cases r with
   | cons Y t =>
    cases t with
    | cons W O =>cases O;obtain ⟨t1,rfl⟩:=Y;obtain ⟨O,rfl⟩:=W;cases q
variable {m:Nat}
section
variable {X:Cx} {o i e value:Expr} {pos pos' tpos:Pos} {fa fk fe:Fg} {K:PySem.W.Frag}
df me:CV->Option (List Key)
 | .dat (.tup [.int n,.str s])=>some [.inl n,.inr s]
 | _=>none
theorem kH {F:Hp} {c:CV} {v:V} {ks:List Key} (q:qD K=true) (h:me c=some ks) (r:RelC K F ρ m c v):∃ b,v=.ref b/\F b=some (.tup (ks.map kV)):=by
 unfold me at h;split at h<;>cases h
 rename_i n s;have r:Rep K F (.tup [.int n,.str s]) v:=r;unfold Rep at r;obtain ⟨a,vs,rfl,h1,h2⟩:=r;unfold Reps at h2;obtain ⟨U,O,rfl,q1,h2⟩:=h2;unfold Reps at h2;obtain ⟨Y,W,rfl,q2,h2⟩:=h2;unfold Reps at h2;subst h2;simp only [Rep] at q1 q2;subst q1 q2;exact ⟨a,rfl,wL q h1⟩
df ur (fa fk:Fg):Fg:=fun δ ch=>(fa δ ch).bind fun p=>(fk δ p.2).bind fun q=>match p.1 with
 | .ref i=>((q.2[i]?).bind asT).bind fun l=>(me q.1).bind fun ks=>(lkC l ks).map fun c=>(c,q.2)
 | _=>none
theorem B8 (hK:qD X.K=true) (hr:Room m X.A) (ho:GE X o fa) (hk:GE X i fk) (hn:u4 i:=by exact fun _ _=>rfl):GE X (.Subscript o i pos) (ur fa fk):=
 PE.mono (mK (jj hr) ho hk hn) fun σ H Q ⟨δ,ch,F,ρ,c,ch',en,hf,kk⟩=>by
  unfold ur at hf;obtain ⟨⟨c1,ch1⟩,hp,W⟩:=bS hf;clear hf;obtain ⟨⟨c2,ch2⟩,hq,q⟩:=bS W;clear W;dsimp only at hq q;split at q<;>first | (cases q;done) | skip
  rename_i i;obtain ⟨l,Y,U⟩:=bS q;obtain ⟨ob,hl,has⟩:=bS Y;clear q Y;obtain ⟨ks,hks,Z⟩:=bS U;obtain ⟨c',hc,hf4⟩:=mS Z;cases hf4;refine ⟨δ,ch,F,ρ,_,ch1,en,hp,fun v F1 H1 ρ1 a1 r1=>⟨δ,ch1,F1,ρ1,_,_,en.adv a1,hq,fun v2 F2 H2 ρ2 O r2=>?_⟩⟩;obtain ⟨b,rfl,hb⟩:=kH hK hks r2;obtain ⟨kvs,h1,h2,h3⟩:=we has (O.gh.ok i _ hl);have lk:=iC (k:=ks) h2 h3;rw [hc] at lk;obtain ⟨u,hu,ru⟩:=lk;exact ⟨_,u,(r1.mono O.old O.ext O.len).2,by rw [<- hu];exact .inr ⟨kvs,ks,b,h1,rfl,O.gh.fh _ _ hb,rfl⟩,kk u F2 _ ρ2 (a1.trans en.gh O) ru⟩
df ut (fk fa:Fg):Ft:=fun δ ch=>(fk δ ch).bind fun p=>(fa δ p.2).bind fun q=>match q.1 with
 | .ref i=>((q.2[i]?).bind asT).bind fun l=>(me p.1).map fun ks=>(!(lkC l ks).isSome,q.2)
 | _=>none
theorem B9 {κ:Type} [DecidableEq κ] {F:Hp} {k:κ} {l:List (κ×CV)} {kvs:List (κ×V)} (h2:kvs.map (·.1)=l.map (·.1)) (h3:RelCs K F ρ n (l.map (·.2)) (kvs.map (·.2))):(eJ kvs k).isSome=(lkC l k).isSome:=by
 have O:=iC (k:=k) h2 h3;cases q:lkC l k with
 | none=>rw [q] at O;rw [O];rfl
 | some c=>rw [q] at O;obtain ⟨v,U,_⟩:=O;rw [U];rfl
theorem Ca (hK:qD X.K=true) (hr:Room m X.A) (hk:GE X i fk) (ho:GE X o fa) (hm:qj9 .NotIn o=false:=by with_unfolding_all rfl):GT X (.Compare i [.NotIn] [o] pos) (ut fk fa):=
 PT.mono (pP (lx (jj hr) hk ho) hm) fun σ H Q ⟨δ,ch,F,ρ,c,ch',en,Z,kk⟩=>by
  unfold ut at Z;obtain ⟨⟨c1,ch1⟩,hp,U⟩:=bS Z;clear Z;obtain ⟨⟨c2,ch2⟩,hq,q⟩:=bS U;clear U;dsimp only at hq q;split at q<;>first | (cases q;done) | skip
  rename_i i;obtain ⟨l,W,O⟩:=bS q;obtain ⟨ob,hl,has⟩:=bS W;clear q W;obtain ⟨ks,hks,hf4⟩:=mS O;cases hf4;refine ⟨δ,ch,F,ρ,_,ch1,en,hp,fun v F1 H1 ρ1 a1 r1=>⟨δ,ch1,F1,ρ1,_,_,en.adv a1,hq,fun v2 F2 H2 ρ2 Y r2=>?_⟩⟩;obtain ⟨b,rfl,hb⟩:=kH hK hks r1;obtain ⟨kvs,h1,h2,h3⟩:=we has (Y.gh.ok i _ hl);refine ⟨_,eJ kvs ks,r2.2,.inr ⟨kvs,ks,b,h1,rfl,Y.gh.fh _ _ (Y.old _ _ hb),rfl⟩,_,rfl,?_⟩;rw [B9 h2 h3];exact kk F2 _ ρ2 (a1.trans en.gh Y)
df e9 (fo fk fe:Fg):Fs:=fun δ ch=>(fe δ ch).bind fun p=>(fo δ p.2).bind fun q=>(fk δ q.2).bind fun r=>match q.1 with
 | .ref i=>match r.2[i]? with
  | some (.dT l)=>(me r.1).bind fun ks=>if l.length<qb2/\(l.map (·.1)).Nodup then some (.nx δ (r.2.set i (.dT (dO l ks p.1)))) else none
  | _=>none
 | _=>none
theorem sB (hK:qD X.K=true) (hr:Room m X.A) (ho:GE X o fa) (hk:GE X i fk) (he:GE X e fe) (hs:qm7 e (some (.Subscript o i tpos)) pos.line X.env=pure false:=by rfl) :
  GS1 X (.Assign [.Subscript o i tpos] e pos) (e9 fa fk fe):=
 PS.mono (rz (jj hr) ho hk he hs) fun D σ H ⟨δ,ch,F,ρ,og,en,hg,kk⟩=>by
  unfold e9 at hg;obtain ⟨⟨c1,ch1⟩,hp,Y⟩:=bS hg;clear hg;obtain ⟨⟨c2,ch2⟩,hq,Z⟩:=bS Y;clear Y;obtain ⟨⟨c3,ch3⟩,hw,q⟩:=bS Z;clear Z;dsimp only at hq hw q;split at q<;>first | (cases q;done) | skip
  rename_i i;split at q<;>first | (cases q;done) | skip
  rename_i l hl;obtain ⟨ks,hks,hg4⟩:=bS q;clear q;split at hg4<;>cases hg4
  rename_i hz;refine ⟨δ,ch,F,ρ,_,ch1,en,hp,fun v F1 H1 ρ1 a1 r1=>⟨δ,ch1,F1,ρ1,_,ch2,en.adv a1,hq,fun x F2 H2 ρ2 U r2=>⟨δ,ch2,F2,ρ2,_,ch3,(en.adv a1).adv U,hw,fun y F3 H3 W O r3=>?_⟩⟩⟩;obtain ⟨b,rfl,hb⟩:=kH hK hks r3;have hi:i<ch3.length:=(gX hl).1;have a13:=(a1.trans en.gh U).trans en.gh O;have r1':=(r1.mono U.old U.ext U.len).mono O.old O.ext O.len;obtain ⟨kvs,q1,q2,q3⟩:=O.gh.ok i _ hl;obtain ⟨z1,z2⟩:=kd (k:=ks) r1' hz.2 q2 q3
  have hlen:kvs.length=l.length:=by have:=congrArg qx8 q2;simpa using this
  refine ⟨_,upd H3 (W i) (.dT (dj kvs ks v)),(r2.mono O.old O.ext O.len).2,DPut.t q1 (O.gh.fh _ _ hb) (by rw [hlen];exact hz.1),?_⟩;have a5:=Adv.upd (o:=.dT (dO l ks c1)) (u:=.dT (dj kvs ks v)) O.gh hi q1 (fun _ _ z=>nomatch z) ⟨_,ar,z1,z2⟩;have aa:=a13.trans en.gh a5;exact kk σ F3 _ W aa (en.adv aa)
df kJ (q:Int->Int->Int) (i:Nat) (fe:Fg):Fs:=fun δ ch=>match δ[i]? with
 | some (some (.dat (.int n)))=>(fe δ ch).bind fun p=>match p.1 with
  | .dat (.int m)=>some (.nx (δ.set i (some (.dat (.int (q n m))))) p.2)
  | _=>none
 | _=>none
theorem ze {x:Str} {j:Nat} (h:cT sc N j x=true) (Z:gW sc x=true) (nd:N.Nodup) (he:GE X e fe) (W:bH X sc:=by rfl) (e2:X.N=N:=by rfl) (hf:X.fn x=true∨X.env.scope.names.lookup x=some .local:=by exact .inl rfl) :
  GS1 X (.AugAssign (.Name x pos') .Add e pos) (kJ (fun i j=>i+j) j fe):=by
 have W:X.env.scope=sc:=W;subst W e2;refine PS.mono (Bf nd (fL h) (iY Z) he Bg hf) fun D σ H ⟨δ,ch,F,ρ,og,en,q,kk⟩=>?_
 unfold kJ at q;split at q<;>first | (cases q;done) | skip
 rename_i n hn;obtain ⟨⟨c1,ch1⟩,hp,q⟩:=bS q;dsimp only at q;split at q<;>first | (cases q;done) | skip
 rename_i m;cases q;obtain ⟨v,hv,U⟩:=en.has j _ hn;have U:Rep X.K F (.int n) v:=U;simp only [Rep] at U;subst U;refine ⟨_,hv,δ,ch,F,ρ,_,ch1,en,hp,fun w F1 H1 ρ1 Y O=>?_⟩;have O:Rep X.K F1 (.int m) w:=O;simp only [Rep] at O;subst O;exact ⟨n,m,rfl,rfl,kk _ F1 H1 ρ1 Y ((en.adv Y).put (x:=.dat (.int (n+m))) (v:=.int (n+m)) (show Rep X.K F1 (.int (n+m)) (.int (n+m)) from gn) j)⟩
end
df Az (outer:Scope) (NX N ps fr:List Str) (js:List Nat) (sc:Scope):Bool:=
 (match sc.kind with | .function=>true | _=>false)&&!sc.isCoroutine&&!sc.isGenerator&&decide N.Nodup&&decide (N.take ps.length=ps)&&decide (N.drop (N.length-fr.length)=fr)&&decide (ps.length+fr.length<=N.length)&&
 ps.all (fun x=>decide (sc.names.lookup x=some .local)||decide (sc.names.lookup x=some .cell))&&
 fr.all (fun x=>decide (sc.names.lookup x=some .free))&&
 sc.names.all (fun y=>!decide (y.2=.free)||decide (y.1∈fr))&&
 sc.names.all (fun y=>decide (sc.names.lookup y.1=some y.2))&&
 decide (ps.length=1)&&
 sc.names.all (fun y=>!decide (y.2=.free)||decide (outer.names.lookup y.1=some .cell))&&
 decide (js.length=fr.length)&&
 (fr.zip js).all (fun p=>decide (NX[p.2]?=some p.1)&&decide (outer.names.lookup p.1=some .cell))
structure NsC (outer:Scope) (NX N ps fr:List Str) (js:List Nat) (sc:Scope):Prop where
 S:ClScope N ps fr sc
 nd:N.Nodup
 ndn:∀ x,∀ y∈sc.names,y.1=x->sc.names.lookup x=some y.2
 one:ps.length=1
 fre:∀ x∈sc.names,x.2=.free->outer.names.lookup x.1=some .cell
 jl:js.length=fr.length
 nm:∀ (i j:Nat) (x:Str),fr[i]?=some x->js[i]?=some j->NX[j]?=some x/\outer.names.lookup x=some .cell
 all:∀ x∈sc.names,x.2=.free->x.1∈fr
theorem NsC.of {outer:Scope} {NX fr:List Str} (h:Az outer NX N ps fr js sc=true):NsC outer NX N ps fr js sc:=by
 unfold Az at h;simp only [qb4,qj2,qk5,qj6,decide_eq_true_eq,decide_eq_false_iff_not] at h;obtain ⟨⟨⟨⟨⟨⟨⟨⟨⟨⟨⟨⟨⟨⟨h1,h2⟩,h3⟩,h4⟩,h5⟩,h6⟩,h7⟩,h8⟩,h9⟩,U⟩,O⟩,h12⟩,Z⟩,W⟩,Y⟩:=h;have q:∀ x∈sc.names,x.2=.free->x.1∈fr:=fun x hx e=>(U x hx).resolve_left fun z=>z e
 have hk:sc.kind=.function:=by revert h1;cases sc.kind<;>simp
 refine ⟨⟨hk,h2,h3,h4,h5,h6,h7,h8,h9,fun x e=>q _ (PySem.mem_of_lookup e) rfl⟩,h4,fun x y hy e=>by rw [<- e];exact O y hy,h12,fun x hx e=>(Z x hx).resolve_left fun z=>z e,W,fun i j x e1 e2=>?_,q⟩;have hm:(x,j)∈fr.zip js:=qd3 (i:=i) (by rw [qr8];exact ⟨e1,e2⟩);exact Y (x,j) hm
variable {qs:List ((Nat×Nat)×Str)}
section
variable {X:Cx} {name qual:Str} {params:qj4} {body:List Stmt} {scope outer:Scope} {NX N ps fr:List Str} {js:List Nat} {g:De->Option Out} {kk i:Nat} {pos:Pos}
theorem NestD.of (C:NsC outer NX N ps fr js scope) (O:∀ (s:qa4) (cl:List (Str×Addr)) (doc pm ctv Y:Value) (us:List Value),us.length=ps.length->zb4 s (PySem.W.fnX name qual params body scope cl .none .none doc pm none Y ctv) ⟨us,[]⟩ (ps.zip us))
  (U:∀ (f c':Addr) (cl:List (Str×Addr)) (A:qe0) (outer:List Env) (s:qa4) (H:Hp),Room kk (A.deeper (ip qual scope s.heap.objs.size f (.ref c') cl))->DS (oz CX0 X.prog X.w X.K X.mg X.base N qual scope f (.ref c') cl A outer s H E0 fun _ _=>False) body g)
  (q:bH X outer:=by rfl) (e2:X.N=NX:=by rfl):NestD X name qual params body scope N ps fr js g kk:=by
 have q:X.env.scope=outer:=q;subst q e2;exact ⟨C.S,C.ndn,C.one,C.fre,C.jl,C.nm,O,U⟩
df hasQ (qs:List ((Nat×Nat)×Str)) (pos:Pos) (qual:Str):Bool:=decide (((pos.line,pos.col),qual)∈qs)&&qs.all fun p=>!decide (p.1=(pos.line,pos.col))||decide (p.2=qual)
theorem sD (h:cT outer NX i name=true) (hl:gW outer name=true) (nd:NX.Nodup) (C:NsC outer NX N ps fr js scope) (B:TabB X.mg X.base c P) (hT:(P,qs)∈cA X.K) (U:hasQ qs pos qual=true)
 (O:X.env.code=.ref c:=by rfl) (Y:qualnameIn X.env name name=qual:=by rfl) (W:params.defaults=[]:=by rfl) (hk0:params.kw_defaults=[]:=by rfl) (ha:annTrees params none X.env=[]:=by rfl)
 (Z:bH X outer:=by rfl) (e2:X.N=NX:=by rfl) (hfn:X.fn name=true:=by rfl):PS X (.FunctionDef name params body [] none [] scope none name pos) (sw i name qual params body scope (dJ scope.names X.env.cells)):=fun pins s σ H D I hh=>by
 have Z:X.env.scope=outer:=Z;subst Z e2;unfold hasQ at U;simp only [qb4,qj2,qk5,qj6,decide_eq_true_eq,decide_eq_false_iff_not] at U;exact y0 nd (fL h) (iY hl) (.inl hfn) B O hT Y U.1 (fun q hm=>(U.2 _ hm).resolve_left fun z=>z rfl) (gU fun x hx e=>I.ok.has x.1 (.inl (C.fre x hx e))) W hk0 ha pins s σ H D I hh
theorem Cb {i1 i2:Nat} (h:decide (i1<NX.length/\i2<NX.length)=true) (e2:X.N=NX:=by rfl):∀ σ:St,σ.length=X.N.length->i1<σ.length/\i2<σ.length:=fun σ e=>by rw [e,e2];exact of_decide_eq_true h
end
structure DefC (K:PySem.W.Frag) (mg:Str->Option Value) (x:Str) (st:Stmt) (ps:List Str) (c:Addr):Prop where
 ex:∃ (f:Addr) (oc:Value) (od:Option Addr) (kV doc pm:Value) (an:Option Addr) (ct:Value) (osl:Array (Option Value)),mg x=some (.ref f)/\PySem.W.keepIn K (.ref f)=true/\Binds K (PySem.W.fnOf x x (bu st) (aI st) (ac st) .none kV doc pm an (.ref c) ct) ps []∧K.lookup f=some ⟨oc,od,.func (PySem.W.fnOf x x (bu st) (aI st) (ac st) .none kV doc pm an (.ref c) ct),osl⟩/\PySem.W.codeIn K (.ref c) x=true
variable {oc pm:Value} {od an:Option Addr} {h:Heap}
section
variable {P:qc9} {w:World} {K:PySem.W.Frag} {mg:Str->Option Value} {base:Heap} {x:Str} {st:Stmt} {N ps:List Str} {c:Addr}
theorem DefC.mk' {osl:Array (Option Value)} {kV doc ct:Value} (X:K.In h) (G:h.Ns qc2 mg)
 (a:PySem.W.nsIn K qc2 x=some (some (.ref f)))
 (l:K.lookup f=some ⟨oc,od,.func (PySem.W.fnOf x x (bu st) (aI st) (ac st) .none kV doc pm an (.ref c) ct),osl⟩) (q:PySem.W.codeIn K (.ref c) x=true) (k:PySem.W.keepIn K (.ref f)=true)
 (O:∀ (kV doc pm:Value) (an:Option Addr) (cdv ct:Value) (us:List Value),us.length=ps.length->zh7 (PySem.W.fnOf x x (bu st) (aI st) (ac st) .none kV doc pm an cdv ct) ⟨us,[]⟩=pure (ps.zip us)):DefC K mg x st ps c:=
 ⟨f,oc,od,kV,doc,pm,an,ct,osl,PySem.W.mg_of X G a,k,(mL l q k).binds O,l,q⟩
theorem zf {k:Nat} (D:DefC K mg x st ps c) (S:FnScope N ps (ac st)) (hn:ps.length=n)
 (O:∀ (f:Addr) (A:qe0) (outer:List Env) (s:qa4) (H:Hp) (E:XK),Room k (A.deeper (qz3 x (ac st) s.heap.objs.size f (.ref c)))->GS (jy CX0 P w K mg base N x (ac st) f (.ref c) A outer s H E).nox (aI st) g) :
  OkF P w K mg base x (k+1) ps (spG K n (fC N.length g)):=by
 obtain ⟨f,oc,od,kV,doc,pm,an,ct,osl,h1,h2,h3,lk,W⟩:=D.ex;refine ⟨f,_,h1,h2,h3,Ah lk W S (fun vs H Q E h=>?_) fun A outer s H vs Q E hr h=>?_⟩
 . obtain ⟨F,ρ,cs,ch,c,ch',_,Y,r,_⟩:=h;rw [r.length,Y,hn]
 . obtain ⟨F,ρ,cs,ch,c,ch',Z,Y,r,U,kq⟩:=h;refine ⟨_,PSs.nox (O f A outer s H E hr),?_⟩;unfold fC at U;split at U
   . rename_i c1 ch1 q;cases U;exact ⟨_,ch,F,ρ,_,d9 Z r,q,fun v F' H' ρ' a z=>kq v F' H' ρ' a z⟩
   . rename_i δ1 ch1 q;cases U;exact ⟨_,ch,F,ρ,_,d9 Z r,q,fun σ' F' H' ρ' a z=>kq .non F' H' ρ' a (iz (K:=K) (F:=F'))⟩
   . cases U
theorem zg {P:Addr} (q:decide (x∈nestNames)=true) (h:pO K x=some (P,qs)):(P,qs)∈cA K:=qz2.mpr ⟨x,of_decide_eq_true q,h⟩
end
section
variable {X:Cx} {a b:Expr} {ta:TA} {p1 p2 pos1 pos2:Pos} {sc:Scope} {fs:De->Option (List Dt)}
end
section
variable {X:Cx} {pins:List (Addr×Obj)} {s:qa4} {σ:St} {H:Hp}
end
theorem TabsIn.one (U:K.In h) (e:cA K=[(P,qs)]) (n:K.lookup P=none) (O:PySem.W.codeHdIn K c P=true) (t:h.get? P=some (PySem.W.tabObj #[])):TabsIn K h:=by
 unfold TabsIn;rw [e];refine ⟨fun p hp=>?_,fun p hp q Y _=>?_⟩
 . cases qb9.mp hp;exact ⟨n,⟨c,PySem.W.codeHd_of_K U O⟩,t⟩
 . cases qb9.mp hp;cases qb9.mp Y;rfl
df AtF (K:PySem.W.Frag) (x:Str) (st:Stmt):Prop:=∃ (f:Addr) (oc:Value) (od an:Option Addr) (sl:Array (Option Value)) (kV dc pm q ct:Value),PySem.W.nsIn K qc2 x=some (some (.ref f))/\K.lookup f=some ⟨oc,od,.func (PySem.W.fnOf x x (bu st) (aI st) (ac st) .none kV dc pm an q ct),sl⟩/\PySem.W.codeIn K q x=true/\PySem.W.keepIn K (.ref f)=true
df AtC (K:PySem.W.Frag) (x:Str) (st:Stmt) (c P:Addr):Prop:=∃ (f:Addr) (oc:Value) (od an:Option Addr) (sl:Array (Option Value)) (kV dc pm ct:Value) (O:Value) (xd:Option Addr) (q:Array Value) (xs:Array (Option Value)),
 PySem.W.nsIn K qc2 x=some (some (.ref f))/\K.lookup f=some ⟨oc,od,.func (PySem.W.fnOf x x (bu st) (aI st) (ac st) .none kV dc pm an (.ref c) ct),sl⟩/\PySem.W.codeIn K (.ref c) x=true/\PySem.W.keepIn K (.ref f)=true∧
 K.lookup c=some ⟨O,xd,.fields q,xs⟩/\q[11]?=some (.ref P)
variable {dc:Value}
section
variable {K:PySem.W.Frag} {mg:Str->Option Value} {h:Heap} {x:Str} {st:Stmt} {ps:List Str} {c P:Addr}
theorem AtF.mk {sl:Array (Option Value)} {kV q ct:Value} (a:PySem.W.nsIn K qc2 x=some (some (.ref f))) (l:K.lookup f=some ⟨oc,od,.func (PySem.W.fnOf x x (bu st) (aI st) (ac st) .none kV dc pm an q ct),sl⟩) (c:PySem.W.codeIn K q x=true) (k:PySem.W.keepIn K (.ref f)=true):AtF K x st:=⟨f,oc,od,an,sl,kV,dc,pm,q,ct,a,l,c,k⟩
theorem AtC.mk {sl:Array (Option Value)} {kV ct O:Value} {xd:Option Addr} {q:Array Value} {xs:Array (Option Value)} (a:PySem.W.nsIn K qc2 x=some (some (.ref f))) (l:K.lookup f=some ⟨oc,od,.func (PySem.W.fnOf x x (bu st) (aI st) (ac st) .none kV dc pm an (.ref c) ct),sl⟩) (U:PySem.W.codeIn K (.ref c) x=true) (k:PySem.W.keepIn K (.ref f)=true) (cl:K.lookup c=some ⟨O,xd,.fields q,xs⟩) (Y:q[11]?=some (.ref P)):AtC K x st c P:=⟨f,oc,od,an,sl,kV,dc,pm,ct,O,xd,q,xs,a,l,U,k,cl,Y⟩
theorem AtF.df (A:AtF K x st) (X:K.In h) (G:h.Ns qc2 mg) (q:∀ (kV doc pm:Value) (an:Option Addr) (cdv ct:Value) (us:List Value),us.length=ps.length->zh7 (PySem.W.fnOf x x (bu st) (aI st) (ac st) .none kV doc pm an cdv ct) ⟨us,[]⟩=pure (ps.zip us)):DefF K mg x st ps:=by obtain ⟨f,oc,od,an,sl,kV,dc,pm,O,ct,a,l,c,k⟩:=A;exact DefF.mk' X G a l c k q
theorem AtC.df (A:AtC K x st c P) (X:K.In h) (G:h.Ns qc2 mg) (q:∀ (kV doc pm:Value) (an:Option Addr) (cdv ct:Value) (us:List Value),us.length=ps.length->zh7 (PySem.W.fnOf x x (bu st) (aI st) (ac st) .none kV doc pm an cdv ct) ⟨us,[]⟩=pure (ps.zip us)):DefC K mg x st ps c:=by obtain ⟨f,oc,od,an,sl,kV,dc,pm,ct,O,xd,U,xs,a,l,c,k,_⟩:=A;exact DefC.mk' X G a l c k q
end
variable {gg:List Dt->Option T}
section
variable {X:Cx} {e:Expr} {es:List Expr} {x:Str} {p pos:Pos} {fs:De->Option (List Dt)} {i:Nat}
theorem pvX (h:cT X.env.scope X.N i x=true):PE X (.Name x pos) (jx i):=pvD i h rfl rfl
theorem dbX (h:cT X.env.scope X.N i x=true):DB X (.Name x pos) (vB i):=BK (pvX h)
theorem dlX (h:cT X.env.scope X.N i x=true):DL X (.Name x pos) (vL i):=BJ (pvX h)
theorem doF {k:Nat} {ff:List Dt->Option T} (h:aH X.env.scope x=true) (F:OkF X.prog X.w X.K X.mg X.base x k ps (spD X.K n ff)) (W:Room m X.A) (hk:k<=m) (Y:DA X (e::es) fs) (O:(e::es).length=n:=by rfl) (U:qa6 (e::es) X.env=#a::qa6 es X.env:=by rfl) (q:(qi4 pos (qa6 es X.env)).any (·.1)=false:=by rfl):DO X #b (ai ff fs):=j0 h F (W.mono hk) Y O rfl U q
theorem doB {id:String} {r:List V->Hp->VK->Prop} (h:aH X.env.scope x=true) (O:bX X (.builtin id) r) (Y:CRD X.K r gg) (W:X.mg x=none) (Z:qd6 x=some (.builtin id)) (ha:DAB X (e::es) fs) (U:qa6 (e::es) X.env=#a::qa6 es X.env:=by rfl) (q:(qi4 pos (qa6 es X.env)).any (·.1)=false:=by rfl):DO X #b (ai gg fs):=d4 h O Y W Z ha rfl U q
theorem doT {Ty:String} {r:List V->Hp->VK->Prop} (h:aH X.env.scope x=true) (O:bX X (.type Ty) r) (Y:CRD X.K r gg) (W:X.mg x=none) (Z:qd6 x=some (.type Ty)) (ha:DAB X (e::es) fs) (U:qa6 (e::es) X.env=#a::qa6 es X.env:=by rfl) (q:(qi4 pos (qa6 es X.env)).any (·.1)=false:=by rfl):DO X #b (ai gg fs):=jZ h O Y W Z ha rfl U q
theorem dlG {d:Dt} (h:aH X.env.scope x=true) (q:j7 X.K X.mg x d):DL X (.Name x pos) (kD d):=yC h q rfl
end
section
variable {X:Cx} {o e:Expr} {fa fe:Fg} {apos cpos pos:Pos}
df mf (fa fe:Fg):Fs:=fun δ ch=>(fa δ ch).bind fun p=>(fe δ p.2).bind fun q=>match p.1,q.1 with
 | .ref i,.ref j=>match p.2[i]?,q.2[i]?,q.2[j]? with
  | some (.lst _),some (.lst l),some (.lst m)=>if i≠j/\l.length+m.length<=qb2 then some (.nx δ (q.2.set i (.lst (l++m)))) else none
  | _,_,_=>none
 | _,_=>none
theorem wM (hx:GE X o fa) (he:GE X e fe)
  (W:qn0 o "extend" X.env (eval o X.env)=eval o X.env:=by rfl)
  (hfew:((qi4 cpos (qa6 [e] X.env)).all (fun x=>!x.1)&&(zf8 cpos (qu5 [] X.env)).all (fun x=>x.1.isSome)
   && decide ([e].length+([]:List qt2).length+(if ([]:List qt2).isEmpty then 0 else 1)<30))=true:=by rfl)
  (Y:(apos.endLine==cpos.line)=true:=by rfl) (hs:qa6 [e] X.env=#a::qa6 [] X.env:=by rfl) (O:(qi4 cpos (qa6 [] X.env)).any (·.1)=false:=by rfl)
  (hsw:qm7 (.Call (.Attribute o "extend" apos) [e] [] cpos) none pos.line X.env=pure false:=by rfl) :
  GS1 X (.Expr (.Call (.Attribute o "extend" apos) [e] [] cpos) pos) (mf fa fe):=
 PS.mono (mC (rm PySem.F.plainAttrs_list PySem.F.slot_list_extend PySem.F.type_list_extend tR hx (bJ he cW hs) W hfew Y hs O) hsw) fun D σ H ⟨δ,ch,F,ρ,og,en,q,k⟩=>by
  unfold mf at q;obtain ⟨⟨c1,ch1⟩,hp,Z⟩:=bS q;clear q;obtain ⟨⟨c2,ch2⟩,hq,q⟩:=bS Z;clear Z;dsimp only at hq q;split at q<;>first | (cases q;done) | skip
  rename_i i j;split at q<;>first | (cases q;done) | skip
  rename_i l0 l m h0 h1 h2;split at q<;>cases q
  rename_i hz;refine ⟨δ,ch,F,ρ,_,ch1,en,hp,fun v F1 H1 ρ1 a1 r1=>?_⟩;obtain ⟨vs0,q0,_⟩:=a1.gh.ok i _ h0;obtain ⟨hi,rfl⟩:=r1;refine ⟨.inl ⟨rfl,vs0,.inl (.inl q0)⟩,δ,ch1,F1,ρ1,_,ch2,en.adv a1,hq,fun w F2 H2 ρ2 U r2=>?_⟩;obtain ⟨vs,q1,q2⟩:=U.gh.ok i _ h1;rw [U.ext i hi] at q1;obtain ⟨hj,rfl⟩:=r2;obtain ⟨ws,g1,g2⟩:=U.gh.ok j _ h2;refine ⟨_,_,vs,ws,rfl,rfl,q1,g1,by rw [q2.length,g2.length];exact hz.2,?_⟩;have hi2:i<ch2.length:=(gX h1).1;have a3:=Adv.upd (o:=.lst (l++m)) (u:=.lst (vs++ws)) (w:=.lst vs) U.gh hi2 (by rw [U.ext i hi];exact q1) (fun _ _ z=>nomatch z) ⟨_,ar,q2.append g2⟩;rw [U.ext i hi] at a3;have a:=(a1.trans en.gh U).trans en.gh a3;exact k σ F2 _ ρ2 a (en.adv a)
end
df qE:Dt->Dt->Option T
 | .int i,.int j=>if i=1/\0<=j/\j<=1000000 then some (.leaf (.int (i*2^j.toNat))) else none
 | _,_=>none
theorem ny {X:Cx}:OpR X (qk0 .LShift) (rI (fun i j=>i=1/\0<=j/\j<=1000000) fun i j=>.int (i*2^j.toNat)):=opI fun i j _ _ _ _ _ O q=>by obtain ⟨rfl,h1,h2⟩:=O;exact lshift_int h1 (by rw [show qi7.Int.intBits 1=1 by decide +kernel];oo) q
theorem wN:R2D K (rI (fun i j=>i=1/\0<=j/\j<=1000000) fun i j=>.int (i*2^j.toNat)) qE:=by
 intro F H x y Y Z Q t O W U q k;unfold qE at q;split at q<;>first | (cases q;done) | skip
 split at q
 . cases q;cases W;cases U;exact ⟨_,_,rfl,rfl,by assumption,k.int O⟩
 . cases q
theorem Cc {j:Int} (q:0<=j) (h1:j<=1000000):qE (.int 1) (.int j)=some (.leaf (.int (1*2^j.toNat))):=if_pos ⟨rfl,q,h1⟩
end L2
namespace HT
open PySem PySem.Spec PyProof.Rows
theorem sE {prog:qc9} {w:World} {A:qe0} {E:Value->qa4->Prop} {s:qa4} {t sl:Addr} {q:Array Value} {Z vu:Value} {lo hi:Option Int} {Q:Value->qa4->Prop} (O:IsTup s.heap t q) (hs:s.heap.IsSliceOf sl Z vu .none) (pl:zg5 Z lo) (pu:zg5 vu hi)
  (hw:sIx q.size 0 lo=0/\sIx q.size q.size hi=q.size) (h:Q (.ref t) s):wpAny (model prog w) A (zb6 (.ref t) (.ref sl)) Q E s:=by
 obtain ⟨os,Y,W,hds⟩:=id hs;have U:s.TypeIs (.ref sl) "slice":=⟨os,Y,W⟩;unfold zb6
 try with_reducible refine qi2 ?_
 first | refine wB (qa3 ?_) | skip
 refine wB (wpAny_sequenceKey O.typeIs \7 ?_)
 refine wB (qe8 (name:=qa1 "__getitem__") O.typeIs qf9
  (qf3 qf9 O.typeIs entry_tuple_getitem ?_ (args_tuple_getitem _ _)))
 show wpAny _ _ (qy8 (.ref t) >>= _) _ _ s;refine wB (tupleItemsOf_ O ?_);refine wB (qv2 U ?_);rw [if_pos \7];refine wB (dQ hs pl pu ?_);show wpAny _ _ (if (((sIx q.size 0 lo:Nat):Int)==0&&(1:Int)==1&&(sIx q.size q.size hi-sIx q.size 0 lo)==q.size)=true then _ else _) _ _ s;rw [if_pos (by rw [hw.1,hw.2];simp)];refine wB (m:=qi7.Tuple.tupleIsExact _) (wB (qv2 O.typeIs (qa3 ?_)));rw [if_pos \7]
 first
  | exact wB (m:=rule _) (qx2 (qa3 ⟨_,rfl,qa3 h⟩))
  | exact wB (qx2 (qa3 ⟨_,rfl,qa3 h⟩))
  | exact qx2 (qa3 ⟨_,rfl,qa3 h⟩)
  | (wp_walk;exact ⟨_,rfl,qa3 h⟩)
end HT
namespace L2
open PySem PySem.Spec PyProof.Rows
variable {K:PySem.W.Frag}
section
variable {X:Cx}
df rSlW (K:PySem.W.Frag):V->Option Int->Option Int->Hp->VK->Prop:=fun x lo hi H Q=>∃ a xs,x=.ref a/\SqT K H a xs/\(HT.sIx xs.length 0 lo=0/\HT.sIx xs.length xs.length hi=xs.length)/\Q (.ref a) H
theorem zh:SlR X (rSlW X.K):=by
 intro pins s σ H x v vl vu lo hi sl Q I rx Z W pu h;obtain ⟨a,xs,rfl,Y,hw,q⟩:=h;cases rx;obtain ⟨its,r,U,hz⟩:=I.tuple Y;have O:its.toArray.size=xs.length:=by rw [qb5];exact r.length.symm
 refine ⟨"tuple",_,qf9.lookup,U.typeIs,?_⟩;exact HT.sE U Z W pu (by rw [O];exact hw) ⟨.ref a,H,I,rfl,q⟩
df wO:Dt->Option Int->Option Int->Option T
 | .tup l,lo,hi=>if HT.sIx l.length 0 lo=0/\HT.sIx l.length l.length hi=l.length then some (.leaf (.tup l)) else some (.leaf (.tup (qe l lo hi)))
 | x,lo,hi=>gSl x lo hi
df zi (fa:De->Option Dt) (O q:De->Option (Option Int)):De->Option T:=fun δ=>(fa δ).bind fun x=>(O δ).bind fun l=>(q δ).bind fun h=>wO x l h
theorem Ej {F H:Hp} {x:Dt} {v:V} {lo hi:Option Int} {Q:VK} {t:T} (O:Same F H) (W:RepB K F H x v) (q:wO x lo hi=some t) (k:KO K F H t Q):BN K v lo hi H Q∨rSlW K v lo hi H Q:=by
 unfold wO at q;split at q
 . rename_i l;split at q
   . rename_i U;cases q;obtain ⟨a,vs,rfl,h1,h2⟩:=W;refine .inr ⟨a,vs,rfl,O.tup h1,by rw [h2.length];exact U,k.leaf.here O ?_⟩;simp only [Rep];exact ⟨a,vs,rfl,h1,h2⟩
   . rename_i U;exact .inl (BO O W (by show (if _ then none else some _)=_;rw [if_neg U];exact q) k)
 . exact .inl (BO O W q k)
theorem uu {e:Expr} {lo hi:Option Expr} {p2 pos:Pos} {f:De->Option Dt} {fl fh:De->Option (Option Int)} (he:DB X e f) (W:DP X lo fl) (Y:DP X hi fh):DO X (.Subscript e (.Slice lo hi none p2) pos) (zi f fl fh):=PE.mono (n8 (SlR.or vM zh) he W Y) fun σ H Q ⟨Φ,δ,F,t,Z,en,q,k⟩=>by unfold zi at q;obtain ⟨x,hx,q⟩:=bS q;obtain ⟨l,W,q⟩:=bS q;obtain ⟨h,Y,q⟩:=bS q;exact ⟨Φ,δ,F,x,Z,en,hx,fun v H1 F1 s1 r1=>⟨Φ,δ,F1,l,Z,en.step s1,W,fun H2 F2 O=>⟨Φ,δ,F2,h,Z,en.step (s1.trans O),Y,fun H3 F3 U=>Ej U.fh (r1.step (O.ff.trans U.ff) (O.hh.trans U.hh)) q (k.step ((s1.trans O).trans U))⟩⟩⟩
df wP (K:PySem.W.Frag):R2:=fun x y H Q=>∃ a b z xs,x=.ref a/\y=.ref b/\SqT K H a (z::xs)/\SqT K H b []/\Q (.ref a) H
theorem zj:OpR X (qk0 .Add) (wP X.K):=by
 intro pins s σ H x y v u Q I rx ry h;obtain ⟨a,b,z,xs,rfl,rfl,ha,hb,q⟩:=h;cases rx;cases ry;obtain ⟨its,r1,p1,_⟩:=I.tuple ha;obtain ⟨its2,r2,p2,_⟩:=I.tuple hb;cases r2;obtain ⟨⟨cls,dd,data,sl⟩,ho,hc,n,hd⟩:=id p1;obtain ⟨⟨cls2,dd2,Y,Z⟩,U,W,n2,O⟩:=id p2;simp only at hc hd W O;subst hc hd W O
 exact qz4 ⟨_,ho,rfl⟩ ⟨_,U,rfl⟩ qv6 zb5 PySem.F.slot_tuple_add PySem.F.entry_tuple_add (PySem.F.args_tuple_add_2 _ _)
  (tuple_addW1 a b its.toArray #[] n n2 dd dd2 sl Z (by cases r1;simp) rfl) ⟨ho,U,⟨.ref a,H,I,rfl,q⟩⟩
df mh:Dt->Dt->Option T
 | .tup (d::l),.tup []=>some (.leaf (.tup (d::l)))
 | x,y=>vW x y
theorem zm:OpR X (qk0 .Add) (fun x y H Q=>(oS X.K x y H Q∨lM X.K x y H Q)∨wP X.K x y H Q):=OpR.or yI zj
theorem Cd:R2D K (fun x y H Q=>(oS K x y H Q∨lM K x y H Q)∨wP K x y H Q) mh:=by
 intro F H x y vx vy Q t U Y Z O k;unfold mh at O;split at O
 . rename_i d l;cases O;obtain ⟨a,vs,rfl,h1,h2⟩:=Y;obtain ⟨b,ws,rfl,h3,W⟩:=Z;simp only [Reps] at W;subst W;have q:=h2;simp only [Reps] at q;obtain ⟨v,us,rfl,_,_⟩:=q;refine .inr ⟨a,b,v,us,rfl,rfl,U.tup h1,U.tup h3,k.leaf.here U ?_⟩;simp only [Rep];exact ⟨a,_,rfl,h1,h2⟩
 . exact .inl (BS F H _ _ vx vy Q t U Y Z O k)
theorem wQ (l:Addr) (n:Nat) (q:Option Addr) (sl:Array (Option Value)) (x:Int) (u:Tok) (h1:1<x) (h2:x<=1000) :
  Meets (qi7.«tuple.__mul__» ⟨[.ref l,.int x u],[]⟩) (fun _ R s=>s.heap.get? l=some {cls:=.type "tuple",dict:=q,data:=.seq #[] n,slots:=sl}/\R (.ok (.ret (qf7 l))) s):=
 .of_wp fun prog w A R s h=>by obtain ⟨hp,g,d,tk,O⟩:=s;obtain ⟨U,h⟩:=h;wp_walk;refine qo6 (by rw [decide_eq_false (by oo:¬ x < -2^63),decide_eq_false (by oo:¬ x ≥ 2^63)];rfl) ?_;wp_walk;exact ⟨_,rfl,h⟩
df wR (K:PySem.W.Frag):R2:=fun x y H Q=>∃ a k,x=.ref a/\y=.int k/\SqT K H a []/\1<k/\k<=1000/\Q (.ref a) H
theorem zn:OpR X (qk0 .Mult) (wR X.K):=by
 intro pins s σ H x y v u Q I rx ry h;obtain ⟨a,k,rfl,rfl,hT,h1,h2,q⟩:=h;cases rx;obtain ⟨t,rfl⟩:=ry;obtain ⟨its,r,pl,hz⟩:=I.tuple hT;obtain ⟨⟨cls,Y,data,sl⟩,O,W,n,Z⟩:=id pl;simp only at W Z;subst W Z;cases r
 exact qz6 (T:="tuple") (U:="int") \7 ⟨_,O,rfl⟩ (fun s'=>zf7 s' k t) fV F.fills_int_mul qy1 sf F.slot_int_index.lookup
  (qx1 qy1 (zf7 s k t) F.entry_int_rmul (F.args_int_rmul_2 _ _) (oV k t a #[] n Y sl)
   ⟨O,rfl,⟨_,O,rfl⟩,qx1 qw0 ⟨_,O,rfl⟩ F.entry_tuple_mul (F.args_tuple_mul_2 _ _) (wQ a n Y sl k t h1 h2) ⟨O,⟨.ref a,H,I,rfl,q⟩⟩⟩)
df mi:Dt->Dt->Option T
 | .tup [],.int k=>if 1<k/\k<=1000 then some (.leaf (.tup [])) else none
 | x,y=>wg x y
theorem zo:OpR X (qk0 .Mult) (fun x y H Q=>wR X.K x y H Q∨si X.K x y H Q):=OpR.or zn yT
theorem Ce:R2D K (fun x y H Q=>wR K x y H Q∨si K x y H Q) mi:=by
 intro F H x y vx vy Q t U Z W q k;unfold mi at q;split at q
 . split at q<;>cases q
   rename_i Y;obtain ⟨a,vs,rfl,h1,h2⟩:=Z;have O:=h2;simp only [Reps] at O;subst O;cases W;refine .inl ⟨a,_,rfl,rfl,U.tup h1,Y.1,Y.2,k.leaf.here U ?_⟩;simp only [Rep];exact ⟨a,_,rfl,h1,h2⟩
 . exact .inr (BZ F H _ _ vx vy Q t U Z W q k)
end
abbrev Hk3:=Str×Int×Bool
df h3 (k:Hk3):Dt:=.tup [.str k.1,.int k.2.1,.bl k.2.2]
df nz:Dt->Option Hk3
 | .tup [.str a,.int b,.bl c]=>some (a,b,c)
 | _=>none
theorem sF {d:Dt} {k:Hk3} (h:nz d=some k):d=h3 k:=by
 unfold nz at h;split at h<;>cases h
 rfl
theorem pf:∀ {l:List Dt} {ks:List Hk3},l.mapM nz=some ks->l=ks.map h3
 | [],ks,h=>by simp at h;subst h;rfl
 | d::ds,ks,h=>by simp only [List.mapM_cons,Option.bind_eq_bind,qt1,Option.pure_def,qi3] at h;obtain ⟨k,hk,r,q,rfl⟩:=h;rw [sF hk,pf q];rfl
theorem wS (a b:Hk3):peq (h3 a) (h3 b)=decide (a=b):=by
 obtain ⟨Y,U,O⟩:=a;obtain ⟨W,Z,q⟩:=b;show peqs [.str Y,.int U,.bl O] [.str W,.int Z,.bl q]=_;simp only [peqs,pqn,pqb,pqj,pqs];rw [qi8];simp
 try (cases O<;>cases q<;>simp)
df rInS (K:PySem.W.Frag):R2:=fun x y H Q=>∃ (p:Addr) (vs:List V) (q:List Hk3) (ks:Hk3),y=.ref p/\SqT K H p vs/\Reps K H (q.map h3) vs/\Rep K H (h3 ks) x/\Q (.bl (decide (ks∈q))) H
section
variable {X:Cx} {pins:List (Addr×Obj)} {s:qa4} {σ:St} {H:Hp}
open Classical in
theorem Ek {A:qe0} {vs:List V} {its:List Value} {q:List Hk3} {ks:Hk3} {x:V} {u:Value} (I:Inv X pins σ H s) (hu:A.units+1<cLine) (r:Vals vs its) (Z:Reps X.K H (q.map h3) vs) (hx:Rep X.K H (h3 ks) x) (rx:RelV x u) :
  ∃ e:Value->Bool,(∀ y,y∈its.toArray->qg1 A s y u (e y))/\its.toArray.any e=decide (ks∈q):=by
 have at':∀ y∈its,∃ (k:Hk3) (v:V),k∈q/\Rep X.K H (h3 k) v/\RelV v y:=fun y O=>by obtain ⟨j,U,rfl⟩:=qy4 O;obtain ⟨d,v,h1,h2,h3⟩:=bN Z r U;rw [qb0] at h1;obtain ⟨k,hk,rfl⟩:=mS h1;exact ⟨k,v,qd3 hk,h2,h3⟩
 have one:∀ {y:Value} {k k':Hk3} {v W:V},Rep X.K H (h3 k) v->RelV v y->Rep X.K H (h3 k') W->RelV W y->k=k':=fun {y k k' v W} a1 a2 b1 b2=>by have:=a2.inj b2;subst this;have:=jL I _ _ _ a1 b1;rw [wS] at this;exact of_decide_eq_true this
 refine ⟨fun y=>decide (∃ v,Rep X.K H (h3 ks) v/\RelV v y/\ks∈q/\y∈its),fun y O=>?_,?_⟩
 . have O:y∈its:=by simpa using O
   obtain ⟨k,v,hk,h1,h2⟩:=at' y O
   have e:=vp I 1 (A:=A) (d:=h3 k) (e:=h3 ks) (by show deeps _+1<=1;exact nL _) hu (by rfl) h1 hx h2 rx;rw [wS] at e
   have:decide (k=ks)=decide (∃ v,Rep X.K H (h3 ks) v/\RelV v y/\ks∈q/\y∈its):=by
    rw [decide_eq_decide];constructor
    . intro z;subst z;exact ⟨v,h1,h2,hk,O⟩
    . rintro ⟨W,g1,g2,_,_⟩;exact one h1 h2 g1 g2
   rw [this] at e;exact e
 . rw [qi8];simp only [List.any_toArray,List.any_eq_true,decide_eq_true_eq];constructor
   . rintro ⟨y,_,v,_,_,h,_⟩;exact h
   . intro h;obtain ⟨j,U,e⟩:=qy4 h
     have Y:j<its.length:=by rw [<- r.length,Z.length,qa2];exact U
     obtain ⟨d,v,h1,h2,h3⟩:=bN Z r Y;rw [qb0,gQ U,e] at h1;cases h1;exact ⟨its[j],qg5 Y,v,h2,h3,h,qg5 Y⟩
theorem wT {k:Nat} (U:Room k X.A) (hK:X.K=K):OpR X (qg9 .In) (rInS K):=by subst hK;intro pins s σ H x y v u Q I W ry h;obtain ⟨p,vs,Y,ks,rfl,hq,h1,h2,q⟩:=h;cases ry;obtain ⟨its,r,Z,hz⟩:=I.tuple hq;have hu:=U.units;obtain ⟨e,h3,O⟩:=Ek (A:=X.A.in1) I (show X.A.in1.units+1<cLine by have:X.A.in1.units<=X.A.units+1:=(by first | exact nL _ | exact qp3 _);oo) r h1 h2 W;refine SeqAt.in_tupleAt e Z h3 ⟨.bl _,H,I,rfl,?_⟩;rw [O];exact q
end
df uv:Dt->Dt->Option T
 | x,.tup l=>(nz x).bind fun ks=>(l.mapM nz).map fun q=>.leaf (.bl (decide (ks∈q)))
 | _,_=>none
theorem AA:R2D K (rInS K) uv:=by
 intro F H x y vx vy Q t O rx Z q k;unfold uv at q;split at q<;>first | (cases q;done) | skip
 rename_i l;obtain ⟨ks,hk,q⟩:=bS q;obtain ⟨W,U,q⟩:=mS q;cases q;have Y:=sF hk;have e2:=pf U;subst Y e2;obtain ⟨a,vs,rfl,h1,h2⟩:=Z;exact ⟨a,vs,W,ks,rfl,O.tup h1,h2.same O,rx.rep O,k.bl O⟩
section
variable {X:Cx} {a:Expr} {fa:Fg} {p pos:Pos} {sc:Scope}
theorem mj {P:qc9} {w:World}:∀ {kvs:List (Key×V)} {vs:List (Key×Value)} {es:List DictEntry},KV kvs vs->Pairs (bC P w) es vs->Vals (kvs.map fun p=>kV p.1) (es.map (·.key))
 | [],_,_,.nil,.nil=>.nil
 | _::_,_,_,.cons r t,.cons h _ m=>.cons (by dsimp only;rw [r.1];exact yJ h) (mj t m)
theorem qF (hc:X.calm=true):bX X (.type "list") (fun xs H Q=>∃ a kvs,xs=[.ref a]/\H a=some (.dK kvs)/\∀ l,H l=none->Q (.ref l) (upd H l (.lst (kvs.map fun p=>kV p.1)))):=by
 intro pins s σ H xs us Q I r h;obtain ⟨a,kvs,rfl,hq,q⟩:=h;obtain ⟨u,rfl,rx⟩:=gF r;cases rx;obtain ⟨z,y,vs,Y,ob,es,ep,e1,e2,e3,e4,e5,e6⟩:=I.hok a _ hq;have en:EntA s.heap a (es.toList.map (·.key)) ep:=⟨ob,es,e1,e2,e3,rfl⟩;have Z:=mj Y e5;have hz:(es.toList.map (·.key)).length<=qb2:=by rw [<- Z.length,qa2];exact z
 refine PySem.W.kdl_call (se y) (I.ok.hd hc) en hz fun h' tk acc c kp hD O=>?_
 have U:acc.toList=es.toList.map (·.key):=by
  apply qr1;intro j;cases hj:acc.toList[j]? with
  | none =>have h1:=qf6.mp hj;rw [qe6,O.1] at h1;rw [qf6.mpr h1]
  | some v=>exact (O.2 j v (by rw [<- qn1];exact hj)).symm
 exact ⟨.ref s.heap.objs.size,_,I.laid (t':=tk) kp (nL _) (show ObjOk X.prog X.w _ h' _ (.lst (kvs.map fun p=>kV p.1)) from ⟨by rw [qa2];exact z,acc.toList,c,by rw [U];exact Z,by rw [qw3];exact hD⟩),rfl,q _ (I.hok.fresh (nL _))⟩
df eLK (fa:Fg):Fg:=fun δ ch=>(fa δ ch).bind fun p=>match p.1 with
 | .ref i=>match p.2[i]? with
  | some (.dK l)=>some (.ref p.2.length,p.2++[.lst (l.map fun q=>.dat (kh q.1))])
  | _=>none
 | _=>none
theorem kK {F:Hp} {ρ:Nat->Addr} {n:Nat}:∀ {l:List (Key×CV)} {kvs:List (Key×V)},kvs.map (·.1)=l.map (·.1)->RelCs K F ρ n (l.map fun q=>.dat (kh q.1)) (kvs.map fun p=>kV p.1)
 | [],[],_=>rfl
 | [],_::_,h=>by cases h
 | _::_,[],h=>by cases h
 | q::l,b::bs,h=>by injection h with h1 h2;refine ⟨kV b.1,_,rfl,?_,kK h2⟩;show Rep K F (kh q.1) (kV b.1);have h1:b.1=q.1:=h1;rw [h1];cases q.1<;>rfl
theorem ph (h:aH sc "list"=true) (hc:X.calm=true) (hm:X.mg "list"=none) (hv:qd6 "list"=some (.type "list")) (ha:GE X a fa) (e1:bH X sc:=by rfl)
  (Z:qa6 [a] X.env=(false,eval a X.env)::qa6 [] X.env:=by rfl) (W:(qi4 pos (qa6 [] X.env)).any (·.1)=false:=by rfl):GE X (.Call (.Name "list" p) [a] [] pos) (eLK fa):=
 PE.mono (eM h (qF hc) hm hv (bJ ha cW Z) e1 Z W) fun σ H Q ⟨δ,ch,F,ρ,c,ch',en,U,k⟩=>by
  unfold eLK at U;obtain ⟨⟨c1,ch1⟩,hp,O⟩:=bS U;clear U;dsimp only at O;split at O<;>first | (cases O;done) | skip
  rename_i i;split at O<;>first | (cases O;done) | skip
  rename_i l hl;cases O;refine ⟨δ,ch,F,ρ,_,ch1,en,hp,fun v F1 H1 ρ1 Y r1=>?_⟩;obtain ⟨kvs,h1,h2,h3⟩:=Y.gh.ok i _ hl;refine ⟨_,kvs,by rw [r1.2],h1,fun q hq=>?_⟩;refine k (.ref q) F1 _ _ (Y.trans en.gh (na (o:=.lst (l.map fun q=>.dat (kh q.1))) Y.gh hq ⟨_,ar,kK h2⟩)) ⟨by simp,?_⟩
  first
   | rw [if_pos rfl]
   | (dsimp only;rw [if_pos rfl])
end
seal L2.PE L2.PS L2.PSs L2.PT L2.PW L2.PA L2.PI L2.PG L2.PTs L2.PO L2.PGs L2.bX L2.OpR L2.IxR L2.SlR L2.MtR L2.UnR L2.DO L2.DL L2.DB L2.DT L2.DW L2.DS L2.DS1 L2.R2D L2.CRD L2.MRD L2.DG L2.DGs L2.DIF L2.DIB L2.DTs L2.DP L2.GE L2.GT L2.GW L2.GA L2.GS L2.GS1
theorem el1 {α:Type} {p:List α->Prop} (h:∀ a,p [a]):∀ us:List α,us.length=1->p us
 | [a],_=>h a
theorem el2 {α:Type} {p:List α->Prop} (h:∀ a b,p [a,b]):∀ us:List α,us.length=2->p us
 | [a,b],_=>h a b
theorem el3 {α:Type} {p:List α->Prop} (h:∀ a b c,p [a,b,c]):∀ us:List α,us.length=3->p us
 | [a,b,c],_=>h a b c
theorem el4 {α:Type} {p:List α->Prop} (h:∀ a b c d,p [a,b,c,d]):∀ us:List α,us.length=4->p us
 | [a,b,c,d],_=>h a b c d
end L2
namespace P34
open PySem L2
df top (i:Nat):Stmt:=PySem.Challenge.pw_dimhouse_k34_whole_spoilt_by_a_way.main.body.getD i (.Pass ⟨0,0,0,0⟩)
noncomputable section
df de:Dt:=(.str "fresh")
df nA:Dt:=(.str "safe")
df kL:Dt:=(.str "seen")
df iH:Dt:=(.str "spoilt")
df y1:List Dt->Option T:=db 2 ((aG (sIf (tB2 (jD fun i j=>decide (i<j)) (vB 1) (toD (ai cX (ab (vB 0) ae)))) (bI (d2 ag (vB 0) (vB 1))) cJ) (bI (toT \6))))
df y41:De->Option Out:=(aG (bf 3 (toT (toD (d2 dB (toD (d2 bB (toD (d2 bB (toD (d2 jB (vB 3) (vB 3))) (toD (d2 jB (kD (.int 69621)) (vB 3))))) (vB 4))) (kD (.int 2147483629))))))
  (aG (bf 3 (toT (toD (d2 dB (toD (d2 bB (toD (d2 bB (toD (d2 jB (vB 3) (kD (.int 16807)))) (toD (d2 jB (kD (.int 7919)) (vB 4))))) (vB 1))) (kD (.int 2147483587))))))
  (bf 2 (toT (toD (d2 bB (toD (d2 jB (vB 2) (kD (.int 2147483587)))) (vB 3)))))))
df z16:List Dt->Option T:=db 5 ((aG (bf 2 (toT \6))
  (aG (bf 3 (toT (toD (d2 bB (toD (d2 bB (toD (d2 dB (vB 0) (kD (.int 2147483629)))) (toD (d2 jB (kD (.int 48271)) (vB 1))))) (kD (.int 11))))))
  (aG (lj (fN i5 (ab (kD (.int 15)) ae)) (am 4) y41)
  (lK 2)))))
df z11:List Dt->Option T:=db 2 ((aG (sIf (tB2 #f (toD (d2 dB (toD (ai y1 (ab (vL 0) (ab \6 ae)))) #j)) \6) (bI (ai y1 (ab (vL 0) (ab (vL 1) ae)))) cJ) (bI (ai z16 (ab (toD (ai y1 (ab (vL 0) (ab (vL 1) ae)))) (ab (vL 1) ae))))))
df z36:De->Option Out:=(aG (q20 2 (toD (d2 dB (vB 0) (vB 3)))) (bf 0 (toT (toD (d2 ci (vB 0) (vB 3))))))
df y2:List Dt->Option T:=db 4 ((aG (bf 2 (bE ae))
  (aG (lj (fIt (vL 1)) (am 3) z36)
  (lK 2))))
df y44:De->Option Out:=(bf 0 (toT (toD (d2 ci (vB 0) (vB 14)))))
df q37:List Dt->Option T:=db 19 ((aG (qb (vL 1) (i4 4 (aR (am 3) (aR (am 4) (aR (am 5) (aR (am 6) fB))))))
  (aG (bf 7 (toT (toD (bE (ab (kD (.int 11)) (ab (toD (ai cX (ab (vB 3) ae))) (ab (toD (ai qy (ab \8 (ab (toD (ai cX (ab (vB 4) ae))) ae)))) (ab (toD (ai qy (ab \8 (ab (toD (ai cX (ab (vB 5) ae))) ae)))) (ab (kD (.int 8)) (ab (vL 2) ae))))))))))
  (aG (qb (toD (ai y2 (ab (vL 0) (ab (vL 7) ae)))) (oU 6 (aR (am 8) (aR (am 9) (aR (am 10) (aR (am 11) (aR (am 12) (aR (am 13) fB))))))))
  (aG (lj (fIt (vL 7)) (am 14) y44)
  (aG (bf 15 (toT (toD (ai y2 (ab (vL 0) (ab (toD (bE (ab (toD (d2 bB (toD (ai cX (ab (vB 3) ae))) \8)) (ab (toD (d2 jC #j (kD (.int 40)))) (ab (toD (d2 bB (toD (ai cX (ab (vB 3) ae))) \8)) (ab (toD (d2 jC #j (kD (.int 40)))) ae)))))) ae))))))
  (aG (bf 16 (toT (toD (d2 ag (toD (d2 bB (vB 3) (toD (bE (ab (toD (d2 ag (vB 15) \8)) ae))))) (toD (d2 ag (vB 15) \6))))))
  (aG (bf 17 (toT (toD (d2 ag (toD (d2 bB (vB 3) (toD (bE (ab (toD (d2 ag (vB 15) (kD (.int 3)))) ae))))) (toD (d2 ag (vB 15) #j))))))
  (aG (sIf (cH (tB2 (aY false) (vB 8) (toD (bj (ab #j (ab (kD (.int 3)) ae))))) (tB2 (gEq true) (vB 4) (toD (bj ae)))) (bI (d2 ag (toD (bE (ab (toD (bj (ab (kD (.str "load")) (ab (toD (d2 ag (vB 3) (vB 9))) (ab (toD (d2 ag (toD (d2 ag (vB 4) (vB 10))) \6)) ae))))) (ab (toD (bj (ab (kD (.str "store")) (ab (toD (d2 ag (toD (d2 ag (vB 4) (vB 10))) \6)) (ab (vL 16) ae))))) ae)))) (toD (d2 fO (vB 8) #j)))) cJ)
  (aG (sIf (cH (tB2 (aY false) (vB 8) (toD (bj (ab (kD (.int 4)) (ab (kD (.int 5)) ae))))) (tB2 (gEq true) (vB 5) (toD (bj ae)))) (bI (d2 ag (toD (bE (ab (toD (bj (ab (kD (.str "take")) (ab (toD (d2 ag (vB 3) (vB 9))) (ab (toD (d2 ag (toD (d2 ag (vB 5) (vB 11))) \6)) (ab (vL 16) ae)))))) (ab (toD (bj (ab (kD (.str "lay")) (ab (toD (d2 ag (toD (d2 ag (vB 5) (vB 11))) \6)) (ab (vL 16) (ab (vL 17) ae)))))) ae)))) (toD (d2 fO (vB 8) (kD (.int 4)))))) cJ)
  (aG (sIf (tB2 #f (vB 8) \8) (bI (bj (ab (kD (.str "op")) (ab (toD (d2 ag (vB 3) (vB 9))) (ab (toD (d2 ag (kD (.str "+-*<=&|^")) (vB 12))) (ab (vL 16) (ab (vL 17) ae))))))) cJ)
  (aG (bf 18 (toT (toD (bE (ab (toD (bj (ab (kD (.str "hear")) (ab (toD (d2 ag (vB 3) (vB 9))) ae)))) (ab (toD (bj (ab (kD (.str "say")) (ab (vL 16) ae)))) (ab (toD (bj (ab (kD (.str "if")) (ab (vL 16) (ab (vL 13) ae))))) (ab (toD (bj (ab (kD (.str "go")) (ab (vL 13) ae)))) (ab (toD (bj (ab (kD (.str "end")) (ab (vL 16) ae)))) ae)))))))))
  (aG (sIf (tB2 (jD fun i j=>decide (j<i)) (vB 8) (kD (.int 5))) (bI (d2 ag (vB 18) (toD (d2 fO (vB 8) (kD (.int 6)))))) cJ)
  (bI (bj (ab (kD (.str "copy")) (ab (toD (d2 ag (vB 3) (vB 9))) (ab (vL 16) ae))))))))))))))))))
df q31:De->Option Dt:=(toD (d2 ag (vB 1) (toD (d2 ag (vB 2) (toD (d2 bB \8 (vB 0)))))))
df q32:De->Option Out:=(bf 5 (toT (toD (d2 bB (toD (vSl (vB 5) oI (lN (toD (qf \8))))) (toD (d2 ag (vB 2) (toD (d2 dB (toD (d2 bB (toD (lO dH (vB 2) (ab (toD (d2 ag (vB 5) (toD (qf \8)))) ae))) \8)) (kD (.int 26))))))))))
df q18:De->Option Bool:=(tB2 (aY false) (vB 5) (vB 3))
df y31:De->Option Out:=(aG (bf 4 (toT (toD (ai y2 (ab (vL 0) (ab (toD (bE (ab (kD (.int 6)) (ab (kD (.int 26)) (ab (kD (.int 26)) (ab (kD (.int 26)) (ab (kD (.int 26)) (ab (kD (.int 26)) (ab (kD (.int 26)) ae))))))))) ae))))))
  (aG (bf 5 (toT (toD (lO g6 (kD (.str "")) (ab (toD (bF [none,some 2,some 4] (fN i5 (ab (toD (d2 bB \8 (toD (d2 ag (vB 4) \6)))) ae)) (am 0) c7 q31)) ae)))))
  (aG (bf 0 (toT (toD (d2 ci (vB 0) (toD (d2 jB (kD (.int 6)) (toD (d2 jC (kD (.int 26)) (kD (.int 6))))))))))
  (aG (dL q18 q32 100000)
  (q20 3 (vL 5))))))
df y17:De->Option Bool:=(tB2 (jD fun i j=>decide (i<j)) (toD (ai cX (ab (vB 3) ae))) (vB 1))
df z18:List Dt->Option T:=db 6 ((aG (bf 2 (toT (kD (.str "abcdefghijklmnopqrstuvwxyz"))))
  (aG (bf 3 (bE ae))
  (aG (dL y17 y31 100000)
  (lK 3)))))
df z39:De->Option Out:=(aG (q20 6 (toD (bj (ab (toD (d2 ag (vB 5) (vB 7))) (ab (toD (d2 dB (vB 1) (toD (d2 jC #j (kD (.int 40)))))) (ab (toD (d2 #f (toD (d2 dB (toD (d2 ci (vB 1) (toD (d2 jC #j (kD (.int 40)))))) #j)) \8)) ae)))))) (bf 1 (toT (toD (d2 ci (vB 1) (toD (d2 jC #j (kD (.int 41)))))))))
df q39:De->Option Out:=(aG (q20 8 (toD (bj (ab (toD (d2 ag (vB 5) (toD (d2 bB (kD (.int 8)) (vB 7))))) (ab (toD (d2 bB \8 (toD (d2 dB (vB 1) (kD (.int 8)))))) (ab (toD (d2 #f (toD (d2 dB (toD (d2 ci (vB 1) (kD (.int 8)))) #j)) \8)) ae)))))) (bf 1 (toT (toD (d2 ci (vB 1) (kD (.int 16)))))))
df q14:List Dt->Option T:=db 9 ((aG (bf 1 (toT (toD (ai z11 (ab (vL 0) (ab (kD (.int 3)) ae))))))
  (aG (qb (toD (ai y2 (ab (vL 1) (ab (toD (bE (ab (kD (.int 9)) (ab (kD (.int 5)) (ab (kD (.int 12)) ae))))) ae)))) (oU 3 (aR (am 2) (aR (am 3) (aR (am 4) fB)))))
  (aG (bf 1 (toT (toD (d2 ci (vB 1) (kD (.int 540))))))
  (aG (bf 5 (toT (toD (ai z18 (ab (toD (ai z11 (ab (vL 0) (ab (toD (d2 ag (toD (bE (ab \8 (ab \8 (ab #j ae))))) (toD (d2 dB (toD (d2 ci (toD (ai y1 (ab (vL 0) (ab \6 ae)))) #j)) (kD (.int 3)))))) ae)))) (ab (kD (.int 12)) ae))))))
  (aG (bf 6 (bE ae))
  (aG (lj (fN i5 (ab (vL 2) ae)) (am 7) z39)
  (aG (bf 8 (bE ae))
  (aG (lj (fN i5 (ab (vL 3) ae)) (am 7) q39)
  (bI (bj (ab (toD (ai z18 (ab (toD (ai z11 (ab (vL 0) (ab #j ae)))) (ab (toD (d2 bB \8 (vB 4))) ae)))) (ab (toD (ai fP (ab (vB 6) ae))) (ab (toD (ai fP (ab (vB 8) ae))) (ab (vL 1) ae)))))))))))))))
df y24:De->Option Dt:=(toD (ai q37 (ab (toD (ai z11 (ab (vL 1) (ab (toD (d2 bB (kD (.int 6)) (vB 0))) ae)))) (ab (vL 2) (ab (vL 3) ae)))))
df y12:List Dt->Option T:=db 9 ((aG (bf 2 (toT (toD (ai q14 (ab (vL 0) ae)))))
  (aG (bf 3 (toT (toD (ai qy (ab \8 (ab (toD (ai yP (ab (toD (d2 fO (toD (ai cX (ab (vB 0) ae))) (kD (.int 5)))) (ab (toD (d2 bB \8 (vB 1))) ae)))) ae))))))
  (aG (bf 4 (bF [none,some 0,some 2,some 3] (fN i5 (ab (toD (d2 fO (vB 3) \8)) ae)) (am 0) c7 y24))
  (aG (qb (toD (ai y2 (ab (toD (d2 ag (vB 2) (kD (.int 3)))) (ab (toD (bE (ab #j (ab (vL 3) (ab (toD (d2 bB (toD (ai cX (ab (toD (d2 ag (vB 2) \6)) ae))) \8)) (ab (toD (d2 jC #j (kD (.int 40)))) ae)))))) ae)))) (oU 4 (aR (am 5) (aR (am 6) (aR (am 7) (aR (am 8) fB))))))
  (aG (q20 4 (toD (d2 ag (toD (bE (ab (toD (bj (ab (kD (.str "end")) (ab (toD (d2 ag (toD (d2 bB (toD (d2 ag (vB 2) \6)) (toD (bE (ab (vL 8) ae))))) (vB 7))) ae)))) (ab (toD (bj (ab (kD (.str "go")) (ab (vL 6) ae)))) ae)))) (vB 5))))
  (bI (bj (ab (toD (d2 ag (vB 2) \8)) (ab (toD (d2 ag (vB 2) #j)) (ab (toD (ai fP (ab (vB 4) ae))) ae)))))))))))
df q42:De->Option Bool:=(tB2 #f (toD (d2 dB (toD (d2 ci (vB 2) (toD (d2 qE \8 (vB 0))))) #j)) \8)
df q43:De->Option Dt:=(toD (d2 ag (vB 1) (vB 0)))
df y21:List Dt->Option T:=db 2 ((bI (ai fP (ab (toD (bF [none,some 0,some 1] (fN i5 (ab (toD (ai cX (ab (vB 0) ae))) ae)) (am 0) q42 q43)) ae))))
df q25:De->Option Out:=(aG (sIf (tB2 #f (toD (d2 dB (toD (ai y1 (ab (vL 0) (ab \6 ae)))) #j)) \8) (aG (bf 3 (toT (toD (ai z16 (ab (vL 3) (ab (vL 7) ae))))))
  (bf 5 (toT (toD (d2 ag (toD (bE (ab #j (ab (kD (.int 4)) (ab (kD (.int 8)) ae))))) (toD (d2 dB (toD (d2 ci (toD (ai y1 (ab (vL 0) (ab \6 ae)))) (kD (.int 6)))) (kD (.int 3))))))))) cJ)
  (aG (sIf (tB2 #f (toD (d2 dB (vB 3) (vB 5))) \8) (q20 6 (toD (bj (ab (vL 7) (ab (toD (ai y21 (ab (vL 2) (ab (toD (d2 ci (vB 3) (vB 5))) ae)))) ae))))) cJ)
  (bf 3 (toT (toD (d2 ci (toD (d2 ci (vB 3) (vB 5))) (toD (d2 qE \8 (toD (ai cX (ab (vB 2) ae)))))))))))
df q12:List Dt->Option T:=db 8 ((aG (bf 3 (toT (toD (ai z11 (ab (vL 0) (ab (kD (.int 4)) ae))))))
  (aG (bf 4 (toT (toD (ai y21 (ab (vL 2) (ab (vL 3) ae))))))
  (aG (bf 3 (toT (toD (d2 ci (vB 3) (toD (d2 qE \8 (toD (ai cX (ab (vB 2) ae)))))))))
  (aG (bf 5 (toT #j))
  (aG (bf 6 (bE ae))
  (aG (lj (fN i5 (ab (toD (ai cX (ab (toD (d2 ag (vB 1) #j)) ae))) ae)) (am 7) q25)
  (bI (bj (ab (vL 4) (ab (toD (ai fP (ab (vB 6) ae))) ae)))))))))))
df z42:De->Option Dt:=(toD (d2 ag (vB 0) \6))
df z15:List Dt->Option T:=db 5 ((aG (qb (toD (ai q14 (ab (vL 0) ae))) (i4 4 (aR (am 1) (aR (am 2) (aR (am 3) (aR (am 4) fB)))))) (bI (ai fX (ab (toD (d2 bB (toD (d2 bB (vB 1) (toD (bF [none] (fIt (toD (zi (vB 2) oI (lN \8)))) (am 0) c7 z42)))) (toD (bE (ab (kD (.str "zz")) ae))))) ae)))))
df y52:De->Option Dt:=(toD (d2 ag (vB 0) \6))
df q16:List Dt->Option T:=db 1 ((bI (bF [none] (fIt (toD (d2 ag (vB 0) \8))) (am 0) c7 y52)))
df q47:List Dt->Option T:=db 2 ((aG (sIf (tB2 #f (toD (d2 ag (vB 1) \6)) (kD (.str "go"))) (bI (bj (ab (toD (d2 ag (vB 1) \8)) ae))) cJ)
  (aG (sIf (tB2 #f (toD (d2 ag (vB 1) \6)) (kD (.str "if"))) (bI (bj (ab (toD (d2 ag (vB 1) #j)) (ab (toD (d2 bB (vB 0) \8)) ae)))) cJ)
  (aG (sIf (tB2 #f (toD (d2 ag (vB 1) \6)) (kD (.str "end"))) (bI (bj ae)) cJ)
  (bI (bj (ab (toD (d2 bB (vB 0) \8)) ae)))))))
df z74:De->Option Dt:=(toD (ai q47 (ab (vL 0) (ab (vL 1) ae))))
df kM:List Dt->Option T:=db 1 ((bI (bF [none,none] (fN rX (ab (toD (d2 ag (vB 0) #j)) ae)) (i4 2 (aR (am 0) (aR (am 1) fB))) c7 z74)))
df q48:De->Option Bool:=(tB2 (aY true) (vB 0) (vB 1))
df y38:De->Option Dt:=(toD (bF [none,some 1] (fIt (vB 0)) (am 0) q48 (vL 0)))
df y18:List Dt->Option T:=db 3 ((aG (bf 2 (toT (toD (ai q16 (ab (vL 1) ae))))) (bI (bF [none,some 2] (fIt (toD (ai kM (ab (vL 0) ae)))) (am 0) c7 y38))))
df q77:Fs:=(az (fm (eV 2) (eD (vL 3))) (aQ 3 (ur (eV 0) (eD (vL 3)))))
df z77:Ft:=(tD (tB2 (gIs true) (vB 3) (kD .non)))
df q62:Fd:=fC 4 ((az (aQ 2 (eN (bE ae)))
  (az (aQ 3 (eD (vL 1)))
  (az (bA z77 q77 100000)
  (cu (eLR (eV 2)))))))
df q78 (G:Orc):Fs:=(e9 (eV 3) (eD (vL 4)) (eD (kD .non)))
df y77 (G:Orc):Fs:=(dN (ut (eD (vL 8)) (eV 3)) (az (e9 (eV 3) (eD (vL 8)) (eD (vL 7))) (fm (eV 5) (eD (vL 8)))) fR)
df z79 (G:Orc):Fs:=(az (aQ 7 (eIx (eV 5) (eD (vL 6))))
  (az (kJ (fun i j=>i+j) 6 (eD \8))
  (az (dN (fU (eCl G 2 (ay (eD (vL 7)) bZ))) (cu (eC q62 (ay (eV 3) (ay (eD (vL 7)) bZ)))) fR)
  (eY (eCl G 1 (ay (eD (vL 7)) bZ)) (ggN 8) (y77 G) 100000))))
df q79 (G:Orc):Ft:=(j9 (e2 (jD fun i j=>decide (i<j)) (eD (vL 6)) (eB cX (ay (eV 5) bZ))))
df z58 (G:Orc):Fd:=fC 9 ((az (aQ 3 eNT)
  (az (jo (fIt (vL 0)) [4] (am 4) (q78 G))
  (az (aQ 5 (eLT (eV 3)))
  (az (aQ 6 (eD \6))
  (az (bA (q79 G) (z79 G) 100000)
  (cu (eD (kD .non)))))))))
df y46:De->Option Bool:=(mR (jA (toD (d2 ag (vB 0) #j))))
df y45:De->Option Dt:=(toD (d2 ag (vB 0) \6))
df y13:List Dt->Option T:=db 1 ((bI (bF [none] (fIt (toD (d2 mh (toD (d2 ag (vB 0) \6)) (toD (d2 ag (vB 0) \8))))) (am 0) y46 y45)))
df y20:List Dt->Option T:=db 3 ((aG (sIf (cH (tB2 #f (vB 0) (kD de)) (cH (tB2 (aY false) (toD (d2 ag (vB 1) \6)) (toD (bj (ab (kD (.str "load")) (ab (kD (.str "take")) ae))))) (tB2 #f (toD (d2 ag (vB 1) #j)) (vB 2)))) (bI (toT (kD kL))) cJ)
  (aG (sIf (cH (tB2 #f (vB 0) (kD de)) (cH (tB2 #f (toD (d2 ag (vB 1) \6)) (kD (.str "store"))) (tB2 #f (toD (d2 ag (vB 1) \8)) (vB 2)))) (bI (toT (kD nA))) cJ)
  (aG (sIf (cH (tB2 #f (vB 0) (kD kL)) (cH (tB2 (aY false) (toD (d2 ag (vB 1) \6)) (toD (bj (ab (kD (.str "store")) (ab (kD (.str "lay")) ae))))) (tB2 #f (toD (d2 ag (vB 1) \8)) (vB 2)))) (bI (toT (kD iH))) cJ)
  (lK 0)))))
df z43:De->Option Dt:=(toD (bj (ab (vL 0) (ab (vL 1) ae))))
df br:De->Option Out:=(aG (bf 1 (toT (toD (ai y20 (ab (toD (d2 ag (vB 0) \8)) (ab (toD (d2 ag (vB 3) (toD (d2 ag (vB 0) \6)))) (ab (vL 2) ae))))))) (bI (vIf (tB2 #f (vB 1) (kD nA)) (bE ae) (bF [none,some 1] (fIt (toD (d2 ag (vB 4) (toD (d2 ag (vB 0) \6))))) (am 0) c7 z43))))
df bt:De->Option Out:=(bI (d2 #f (toD (ai y20 (ab (toD (d2 ag (vB 0) \8)) (ab (toD (d2 ag (vB 2) (toD (d2 ag (vB 0) \6)))) (ab (vL 1) ae))))) (kD iH)))
df y50:De->Option Dt:=(toD (bj (ab (vL 0) (ab (kD de) ae))))
df z51:Fg:=(eD (toD (bF [none] (fIt (toD (d2 bB (toD (bE (ab \6 ae))) (toD (ai q16 (ab (vL 1) ae)))))) (am 0) c7 y50)))
df q64:Fg:=(eD (toD (d2 ag (vB 0) \6)))
df z34:Fd:=fC 8 ((az (dN (tD (tB2 (aY true) (vB 2) (toD (ai y13 (ab (vL 0) ae))))) (cu (eD (kD .non))) fR)
  (az (aQ 3 (eD (toD (d2 ag (vB 0) #j))))
  (az (aQ 4 (eD (toD (ai y18 (ab (vL 0) (ab (vL 1) ae))))))
  (fun δ ch=>(az (aQ 7 (fRt [2,3,4] [2,3] ["place","mark","name","rows","inner"] ["place","name","rows"] br bt z51 z58))
  (cu (eIf (j9 (e2 (gIs false) (eV 7) (eD (kD .non)))) (eD (kD .non)) (kA [none] (eV 7) 0 sr q64 100000)))) (kG 5 6 δ) ch)))))
df z8:List Dt->Option T:=db 2 ((aG (sIf (tB2 #f (toD (d2 ag (toD (d2 ag (vB 0) (vB 1))) \6)) (kD (.str "end"))) (bI (bE ae)) cJ)
  (aG (sIf (tB2 #f (toD (d2 ag (toD (d2 ag (vB 0) (vB 1))) \6)) (kD (.str "go"))) (bI (bE (ab (toD (d2 ag (toD (d2 ag (vB 0) (vB 1))) \8)) ae))) cJ)
  (aG (sIf (tB2 #f (toD (d2 ag (toD (d2 ag (vB 0) (vB 1))) \6)) (kD (.str "if"))) (bI (bE (ab (toD (d2 ag (toD (d2 ag (vB 0) (vB 1))) #j)) (ab (toD (d2 bB (vB 1) \8)) ae)))) cJ)
  (bI (bE (ab (toD (d2 bB (vB 1) \8)) ae)))))))
df q34:De->Option Bool:=(tB2 (aY true) (vB 0) (vB 1))
df z25:Fs:=(az (aQ 6 (o8 (eV 5)))
  (dN (tD (tB2 (aY true) (vB 6) (vB 4))) (az (ke (eV 4) (eD (vL 6)) (eD (kD (.bl true))))
  (dN (tD (fOr (tB2 (gEq true) (toD (d2 ag (toD (d2 ag (vB 0) (vB 6))) \6)) (kD (.str "store"))) (tB2 (gEq true) (toD (d2 ag (toD (d2 ag (vB 0) (vB 6))) \8)) (vB 3)))) (mf (eV 5) (eN (bF [none,some 1] (fIt (toD (ai z8 (ab (vL 0) (ab (vL 6) ae))))) (am 0) q34 (vL 0)))) fR)) fR))
df q24:Ft:=(tD (tB2 (jD fun i j=>decide (j<i)) (toD (ai cX (ab (vB 5) ae))) \6))
df y22:Fd:=fC 7 ((az (aQ 4 (eN rV))
  (az (aQ 5 (eN (ai rS (ab (vB 2) ae))))
  (az (bA q24 z25 100000)
  (cu (eLK (eV 4)))))))
df z44:De->Option Bool:=(tB2 (aY true) (vB 0) (vB 1))
df z29:Fs:=(dN (tD (cH (tB2 (aY false) (toD (d2 ag (toD (d2 ag (vB 0) (vB 4))) \6)) (toD (bj (ab (kD (.str "load")) (ab (kD (.str "take")) ae))))) (tB2 #f (toD (d2 ag (toD (d2 ag (vB 0) (vB 4))) #j)) (vB 2)))) (mf (eV 3) (eN (bF [none,some 1] (fIt (toD (ai z8 (ab (vL 0) (ab (vL 4) ae))))) (am 0) z44 (vL 0)))) fR)
df z30:Fs:=(dN (tD (cH (tB2 (aY false) (toD (d2 ag (toD (d2 ag (vB 0) (vB 4))) \6)) (toD (bj (ab (kD (.str "store")) (ab (kD (.str "lay")) ae))))) (tB2 #f (toD (d2 ag (toD (d2 ag (vB 0) (vB 4))) \8)) (vB 2)))) (cu (eD (kD (.bl true)))) fR)
df q44:Fd:=fC 5 ((az (aQ 3 (eN (bE ae)))
  (az (eY (eC y22 (ay (eD (vL 0)) (ay (eV 1) (ay (e2 bB (eD (toD (bE (ab \6 ae)))) (eLK (eV 1))) (ay (eD (vL 2)) bZ))))) (ggN 4) z29 100000)
  (az (eY (eC y22 (ay (eD (vL 0)) (ay (eV 1) (ay (eV 3) (ay (eD (kD (.str ""))) bZ))))) (ggN 4) z30 100000)
  (cu (eD (kD (.bl false))))))))
df q29:List Dt->Option T:=db 1 ((bI (lh (toD (oN "int" (vB 0))) (yo (toD (oN "bool" (vB 0)))))))
df z33:De->Option Dt:=(toD (ai q29 (ab (vL 0) ae)))
df z22:De->Option Out:=(sIf (fOr (tB2 (aY false) (toD (d2 ag (vB 2) (vB 3))) (vB 1)) (tB2 (aY true) (toD (d2 ag (vB 2) (vB 3))) (toD (ai z8 (ab (vL 0) (ab (toD (d2 ag (vB 2) (toD (d2 fO (vB 3) \8)))) ae)))))) (bI (toT (kD (.bl false)))) cJ)
df z21:List Dt->Option T:=db 4 ((aG (sIf (fOr (mR (jA (toD (oN "list" (vB 2))))) (fOr (tB2 #f (vB 2) (toD (bE ae))) (mR (jA (toD (ai (yB fun bs=>bs.all id) (ab (toD (bF [none] (fIt (vB 2)) (am 0) c7 z33)) ae))))))) (bI (toT (kD (.bl false)))) cJ)
  (aG (sIf (cH (tB2 (gEq true) (toD (d2 ag (vB 2) \6)) \6) (tB2 (aY true) (toD (d2 ag (vB 2) \6)) (vB 1))) (bI (toT (kD (.bl false)))) cJ)
  (aG (lj (fN yp (ab \8 (ab (toD (ai cX (ab (vB 2) ae))) ae))) (am 3) z22)
  (bI (toT (kD (.bl true))))))))
df y27:De->Option Bool:=(cH (tB2 (aY false) (toD (d2 ag (toD (d2 ag (vB 1) (toD (d2 ag (vB 2) (vB 0))))) \6)) (toD (bj (ab (kD (.str "load")) (ab (kD (.str "take")) ae))))) (tB2 #f (toD (d2 ag (toD (d2 ag (vB 1) (toD (d2 ag (vB 2) (vB 0))))) #j)) (vB 3)))
df z27:De->Option Bool:=(cH (tB2 (aY false) (toD (d2 ag (toD (d2 ag (vB 1) (toD (d2 ag (vB 2) (vB 0))))) \6)) (toD (bj (ab (kD (.str "store")) (ab (kD (.str "lay")) ae))))) (tB2 #f (toD (d2 ag (toD (d2 ag (vB 1) (toD (d2 ag (vB 2) (vB 0))))) \8)) (vB 3)))
df q26:List Dt->Option T:=db 6 ((aG (bf 4 (toT (toD (bF [none,some 0,some 1,some 2] (fN i5 (ab (toD (ai cX (ab (vB 1) ae))) ae)) (am 0) y27 (vL 0)))))
  (aG (bf 5 (toT (toD (bF [none,some 0,some 1,some 2] (fN i5 (ab (toD (ai cX (ab (vB 1) ae))) ae)) (am 0) z27 (vL 0)))))
  (aG (sIf (fOr (tB2 #f (vB 5) (toD (bE ae))) (fOr (tB2 (gEq true) (toD (d2 ag (vB 5) (toD (qf \8)))) (toD (d2 fO (toD (ai cX (ab (vB 1) ae))) \8))) (tB2 #f (vB 4) (toD (bE ae))))) (bI (toT (kD (.bl false)))) cJ)
  (bI (lh (toD (d2 (jD fun i j=>decide (i<j)) (toD (d2 ag (vB 4) \6)) (toD (d2 ag (vB 5) (toD (qf \8)))))) (vOr (vB 3) (d2 (jD fun i j=>decide (i<j)) (toD (d2 ag (vB 4) \6)) (toD (d2 ag (vB 5) \6))))))))))
df y58:Fs:=(ke (eV 4) (eD (vL 5)) (eD (kD (.bl true))))
df q50:Fs:=(az (aQ 7 (eC z34 (ay (eD (vL 1)) (ay (eD (vL 3)) (ay (eD (toD (d2 ag (vB 6) \6))) bZ))))) (dN (j9 (e2 (gIs false) (eV 7) (eD (kD .non)))) (dN (kf (tD (mR (jA (toD (d2 ag (vB 6) #j))))) (fU (eC q44 (ay (eD (vL 2)) (ay (eV 4) (ay (eD (toD (d2 ag (vB 6) \6))) bZ)))))) (cu (eD (kD (.bl false)))) fR) (dN (vZ (tD (jA (toD (d2 ag (vB 6) #j)))) (jp (fU (eCV z21 (ay (eD (vL 2)) (ay (eV 4) (ay (eV 7) bZ))))))) (cu (eD (kD (.bl false)))) (dN (jp (fU (eCV q26 (ay (eD (vL 2)) (ay (eV 7) (ay (eD (toD (d2 ag (vB 6) \6))) (ay (eD (toD (d2 uv (vB 6) (toD (d2 ag (vB 1) \8))))) bZ))))))) (cu (eD (kD (.bl false)))) (fm (eV 7) (eD \6))))))
df wU:Fd:=fC 8 ((az (aQ 1 (eD (toD (ai y12 (ab (vL 0) (ab (kD (.int 57)) ae))))))
  (az (aQ 2 (eD (toD (d2 ag (vB 1) #j))))
  (az (aQ 3 (eD (toD (ai q12 (ab (vL 0) (ab (vL 1) (ab (toD (ai z15 (ab (vL 0) ae))) ae)))))))
  (az (aQ 4 (eN rV))
  (az (jo (fIt (toD (d2 ag (vB 3) \8))) [5,6] (i4 2 (aR (am 5) (aR (am 6) fB))) y58)
  (az (jo (fIt (toD (d2 mi (toD (d2 mh (toD (d2 ag (vB 1) \6)) (toD (d2 ag (vB 1) \8)))) #j))) [6] (am 6) q50)
  (cu (eD (toD (lh (toD (d2 #f (vB 1) (toD (ai y12 (ab (vL 0) (ab (kD (.int 57)) ae)))))) (d2 #f (vB 3) (toD (ai q12 (ab (vL 0) (ab (vL 1) (ab (toD (ai z15 (ab (vL 0) ae))) ae)))))))))))))))))
end
structure Txt (P:qc9) (w:World) (K:PySem.W.Frag) (mg:Str->Option Value):Prop where
 n_all:mg "all"=none
 n_bool:mg "bool"=none
 n_enumerate:mg "enumerate"=none
 n_int:mg "int"=none
 n_isinstance:mg "isinstance"=none
 n_len:mg "len"=none
 n_list:mg "list"=none
 n_max:mg "max"=none
 n_min:mg "min"=none
 n_range:mg "range"=none
 n_reversed:mg "reversed"=none
 n_set:mg "set"=none
 n_sorted:mg "sorted"=none
 n_tuple:mg "tuple"=none
 g_FRESH:j7 K mg "FRESH" de
 g_SAFE:j7 K mg "SAFE" nA
 g_SEEN:j7 K mg "SEEN" kL
 g_SPOILT:j7 K mg "SPOILT" iH
 is:qD K=true
 k_bool:g5 K "bool"
 k_int:g5 K "int"
 k_list:g5 K "list"
local macro_rules | `(tactic| walk_at "x") => `(tactic| (repeat' (first | ((with_reducible show DB _ _ _); first | refine DO.toB ?_ | exact dbX (by kernel_rfl) | refine DL.toB ?_) | ((with_reducible show DL _ _ _); first | refine DO.toL ?_ | exact dlX (by kernel_rfl) | exact aK | exact mQ | exact dZ | exact gY | exact dlG (by kernel_rfl) ‹Txt _ _ _ _›.g_FRESH | exact dlG (by kernel_rfl) ‹Txt _ _ _ _›.g_SAFE | exact dlG (by kernel_rfl) ‹Txt _ _ _ _›.g_SEEN | exact dlG (by kernel_rfl) ‹Txt _ _ _ _›.g_SPOILT) | ((with_reducible show DO _ _ _); first | refine vP ‹Room _ _› ?_ ?_ | refine DL.toO ?_ | refine qa ?_ | refine cI ?_ | refine doF (by kernel_rfl) ‹_› ‹Room _ _› (by decide) ?_ | refine aO dE jn ?_ ?_ | refine aO Bl DX ?_ ?_ | refine aO uS Aq ?_ ?_ | refine aO dv hV ?_ ?_ | refine aO jQ oE ?_ ?_ | refine doB (by kernel_rfl) (ox rfl) (As (f := fun bs => bs.all id)) ‹Txt _ _ _ _›.n_all vd ?_ | refine doT (by kernel_rfl) call_intA c_int ‹Txt _ _ _ _›.n_int ve ?_ | refine doB (by kernel_rfl) n6 Ar ‹Txt _ _ _ _›.n_len vc ?_ | refine doB (by kernel_rfl) call_sortedS c_sorted ‹Txt _ _ _ _›.n_sorted bt_sorted ?_ | refine doT (by kernel_rfl) gH rR ‹Txt _ _ _ _›.n_tuple oy ?_ | refine dm (mZ ‹Room _ _›) yx ?_ ?_ (bq _) | refine dm (vH ‹Room _ _›) r_ne ?_ ?_ (bq _) | refine dm uU iA ?_ ?_ (bq _) | refine dm op_le iA ?_ ?_ (bq _) | refine dm Af iA ?_ ?_ (bq _) | refine dm op_ge iA ?_ ?_ (bq _) | refine dm mD yy ?_ ?_ (bq _) | refine dm rh rQ ?_ ?_ (bq _) | refine do_in ‹Room _ _› ?_ ?_ | refine do_notin ‹Room _ _› ?_ ?_ | refine vN ?_ ?_ ?_ | refine Ap ?_ ?_ ?_ | refine vC ?_ | refine BP ?_ | refine vE ?_ ?_ | refine DU ?_ ?_ | refine vD ?_ | refine aO zm Cd ?_ ?_ | refine aO zo Ce ?_ ?_ | refine uu ?_ ?_ ?_ | refine dm (wT ‹Room _ _› rfl) AA ?_ ?_ (bq _)) | ((with_reducible show DT _ _ _); first | refine eQ (mZ ‹Room _ _›) yx ?_ ?_ (bq _) | refine eQ (vH ‹Room _ _›) r_ne ?_ ?_ (bq _) | refine eQ uU iA ?_ ?_ (bq _) | refine eQ op_le iA ?_ ?_ (bq _) | refine eQ Af iA ?_ ?_ (bq _) | refine eQ op_ge iA ?_ ?_ (bq _) | refine eQ mD yy ?_ ?_ (bq _) | refine eQ rh rQ ?_ ?_ (bq _) | refine DZ ‹Room _ _› ?_ ?_ | refine vR ‹Room _ _› ?_ ?_ | refine DW.t (vA ?_ ?_) | refine DW.t (rN ?_ ?_) | refine p9 ?_ | refine jY ?_ (fun _ => rfl)) | ((with_reducible show DA _ _ _); first | refine aV ?_ ?_ | exact bR) | ((with_reducible show DAB _ _ _); first | refine dn ?_ ?_ | exact gp) | refine vA ?_ ?_ | refine rN ?_ ?_ | refine yn ?_ | refine vz ?_ | exact yz | refine yA ?_)))
seal toD toT vB vL kD d2 bj bE ai ab ae tB2 cH fOr mR jA vSl lN oI vIf yo qf lh vOr
section
variable {P:qc9} {w:World} {K:PySem.W.Frag} {mg:Str->Option Value} {base:Heap}
abbrev q33:Stmt:=top 16
theorem q65:FnScope ["_law_script","_law_k"] ["_law_script","_law_k"] (ac q33):=⟨rfl,rfl,rfl,by decide +kernel,rfl,by decide +kernel,by decide +kernel⟩
theorem z65 (T:Txt P w K mg) (D:DefF K mg "_law_cell_at" q33 ["_law_script","_law_k"]):OkF P w K mg base "_law_cell_at" 1 ["_law_script","_law_k"] (spD K 2 y1):=
 cb D q65 rfl fun f cdv A outer s H E q=>(ah (b9 \Y (av (aC \Y)) bz)
     (av (aC (DL.toO aK))))
abbrev q27:Stmt:=top 17
theorem q19:FnScope ["_law_cell","_law_k","_law_found","_law_number","_law_j"] ["_law_cell","_law_k"] (ac q27):=⟨rfl,rfl,rfl,by decide +kernel,rfl,by decide +kernel,by decide +kernel⟩
theorem aM:dD (ac q27) ["_law_cell","_law_k","_law_found","_law_number","_law_j"]=true:=by decide +kernel
theorem z55:aH (ac q27) "range"=true:=by decide +kernel
theorem y73 (T:Txt P w K mg) (D:DefF K mg "_law_rich" q27 ["_law_cell","_law_k"]):OkF P w K mg base "_law_rich" 1 ["_law_cell","_law_k"] (spD K 2 z16):=
 cb D q19 rfl fun f cdv A outer s H E q=>(ah (aD (nsN aM 2) (nsL aM 2) q19.nd (DL.toO aK))
     (ah (aD (nsN aM 3) (nsL aM 3) q19.nd (DL.toO \Y))
     (ah (gZ qe2 rfl (bU z55 T.n_range \Y) (aq (au (nsN aM 4) (nsL aM 4) q19.nd)) (ah (aD (nsN aM 3) (nsL aM 3) q19.nd (DL.toO \Y))
     (ah (aD (nsN aM 3) (nsL aM 3) q19.nd (DL.toO \Y))
     (av (aD (nsN aM 2) (nsL aM 2) q19.nd (DL.toO \Y))))))
     (av (jM (pvN 2 aM))))))
abbrev y43:Stmt:=top 18
theorem y75:FnScope ["_law_script","_law_k"] ["_law_script","_law_k"] (ac y43):=⟨rfl,rfl,rfl,by decide +kernel,rfl,by decide +kernel,by decide +kernel⟩
theorem q75 (T:Txt P w K mg) (D:DefF K mg "_law_big" y43 ["_law_script","_law_k"]) (q:OkF P w K mg base "_law_cell_at" 1 ["_law_script","_law_k"] (spD K 2 (y1))) (O:OkF P w K mg base "_law_rich" 1 ["_law_cell","_law_k"] (spD K 2 (z16))):OkF P w K mg base "_law_big" 2 ["_law_script","_law_k"] (spD K 2 z11):=
 cb D y75 rfl fun f cdv A outer s H E U=>(ah (b9 \Y (av (aC \Y)) bz)
     (av (aC \Y)))
abbrev z26:Stmt:=top 19
theorem y32:FnScope ["_law_number","_law_sizes","_law_digits_here","_law_size"] ["_law_number","_law_sizes"] (ac z26):=⟨rfl,rfl,rfl,by decide +kernel,rfl,by decide +kernel,by decide +kernel⟩
theorem aZ:dD (ac z26) ["_law_number","_law_sizes","_law_digits_here","_law_size"]=true:=by decide +kernel
theorem y68 (T:Txt P w K mg) (D:DefF K mg "_law_digits" z26 ["_law_number","_law_sizes"]):OkF P w K mg base "_law_digits" 1 ["_law_number","_law_sizes"] (spD K 2 y2):=
 cb D y32 rfl fun f cdv A outer s H E q=>(ah (aD (nsN aZ 2) (nsL aZ 2) y32.nd (cI bR))
     (ah (gZ qe2 rfl (j2 \Y) (aq (au (nsN aZ 3) (nsL aZ 3) y32.nd)) (ah (di (pvN 2 aZ) \Y)
     (av (aD (nsN aZ 0) (nsL aZ 0) y32.nd (DL.toO \Y)))))
     (av (jM (pvN 2 aZ)))))
abbrev z24:Stmt:=top 22
theorem z6:FnScope ["_law_number","_law_world_here","_law_many","_law_boxes","_law_cells","_law_shelves","_law_rest","_law_sizes","_law_kind","_law_x","_law_c","_law_f","_law_sign","_law_goal","_law_size","_law_atoms","_law_one","_law_other","_law_some_here"] ["_law_number","_law_world_here","_law_many"] (ac z24):=⟨rfl,rfl,rfl,by decide +kernel,rfl,by decide +kernel,by decide +kernel⟩
theorem aj:dD (ac z24) ["_law_number","_law_world_here","_law_many","_law_boxes","_law_cells","_law_shelves","_law_rest","_law_sizes","_law_kind","_law_x","_law_c","_law_f","_law_sign","_law_goal","_law_size","_law_atoms","_law_one","_law_other","_law_some_here"]=true:=by decide +kernel
theorem q46:aH (ac z24) "max"=true:=by decide +kernel
theorem z45:aH (ac z24) "_law_digits"=true:=by decide +kernel
theorem z75 (T:Txt P w K mg) (D:DefF K mg "_law_row" z24 ["_law_number","_law_world_here","_law_many"]) (q:OkF P w K mg base "_law_digits" 1 ["_law_number","_law_sizes"] (spD K 2 (y2))):OkF P w K mg base "_law_row" 2 ["_law_number","_law_world_here","_law_many"] (spD K 3 q37):=
 cb D z6 rfl fun f cdv A outer s H E O=>(ah (j1 \Y (mW rfl (aE (aq (au (nsN aj 3) (nsL aj 3) z6.nd)) (aE (aq (au (nsN aj 4) (nsL aj 4) z6.nd)) (aE (aq (au (nsN aj 5) (nsL aj 5) z6.nd)) (aE (aq (au (nsN aj 6) (nsL aj 6) z6.nd)) eR))))))
     (ah (aD (nsN aj 7) (nsL aj 7) z6.nd (DL.toO (DO.toL (cI (aV aK (aV \Y (aV (DO.toL (d4 q46 (je rfl) wq T.n_max p5 \Y)) (aV (DO.toL (d4 q46 (je rfl) wq T.n_max p5 \Y)) (aV aK (aV \Y bR))))))))))
     (ah (j1 \Y (qp rfl (aE (aq (au (nsN aj 8) (nsL aj 8) z6.nd)) (aE (aq (au (nsN aj 9) (nsL aj 9) z6.nd)) (aE (aq (au (nsN aj 10) (nsL aj 10) z6.nd)) (aE (aq (au (nsN aj 11) (nsL aj 11) z6.nd)) (aE (aq (au (nsN aj 12) (nsL aj 12) z6.nd)) (aE (aq (au (nsN aj 13) (nsL aj 13) z6.nd)) eR))))))))
     (ah (gZ qe2 rfl (j2 \Y) (aq (au (nsN aj 14) (nsL aj 14) z6.nd)) (av (aD (nsN aj 0) (nsL aj 0) z6.nd (DL.toO \Y))))
     (ah (aD (nsN aj 15) (nsL aj 15) z6.nd (DL.toO (DO.toL (j0 z45 q (O.mono \7) (aV \Y (aV (DO.toL (cI (aV \Y (aV (DO.toL (aO gT j4 (DL.toB aK) (DL.toB aK))) (aV \Y (aV (DO.toL (aO gT j4 (DL.toB aK) (DL.toB aK))) bR)))))) bR))))))
     (ah (aD (nsN aj 16) (nsL aj 16) z6.nd (DL.toO \Y))
     (ah (aD (nsN aj 17) (nsL aj 17) z6.nd (DL.toO \Y))
     (ah (b9 \Y (av (aC \Y)) bz)
     (ah (b9 \Y (av (aC \Y)) bz)
     (ah (b9 \Y (av (aC \Y)) bz)
     (ah (aD (nsN aj 18) (nsL aj 18) z6.nd (DL.toO \Y))
     (ah (b9 \Y (av (aC \Y)) bz)
     (av (aC \Y))))))))))))))
abbrev z19:Stmt:=top 20
theorem y15:FnScope ["_law_number","_law_many","_law_letters","_law_found","_law_digits_here","_law_word"] ["_law_number","_law_many"] (ac z19):=⟨rfl,rfl,rfl,by decide +kernel,rfl,by decide +kernel,by decide +kernel⟩
theorem aA:dD (ac z19) ["_law_number","_law_many","_law_letters","_law_found","_law_digits_here","_law_word"]=true:=by decide +kernel
theorem y53:aH (ac z19) "range"=true:=by decide +kernel
theorem y70 (T:Txt P w K mg) (D:DefF K mg "_law_names" z19 ["_law_number","_law_many"]) (U:OkF P w K mg base "_law_digits" 1 ["_law_number","_law_sizes"] (spD K 2 (y2))):OkF P w K mg base "_law_names" 2 ["_law_number","_law_many"] (spD K 2 z18):=
 cb D y15 rfl fun f cdv A outer s H E q=>(ah (aD (nsN aA 2) (nsL aA 2) y15.nd (DL.toO mQ))
     (ah (aD (nsN aA 3) (nsL aA 3) y15.nd (cI bR))
     (ah (oC 100000 qe2 \Y (ah (aD (nsN aA 4) (nsL aA 4) y15.nd (DL.toO \Y))
     (ah (aD (nsN aA 5) (nsL aA 5) y15.nd (DL.toO (DO.toL (yE (DL.toB mQ) (dn (DO.toB (bV (M:=["_law_k","_law_letters","_law_digits_here"]) (src:=[none,some 2,some 4]) (ts:=[0]) #k rfl (DIF.toB (bU y53 T.n_range \Y)) (fun O _ _ _ _=>(aq (aX (N:=["_law_k","_law_letters","_law_digits_here"]) (i:=0) \2 \2 O (scC (outer:=ac z19) (by exact rfl))))) (fun _ _ _ _=>da) (fun _ _ _ _=>\Y) \2)) gp)))))
     (ah (aD (nsN aA 0) (nsL aA 0) y15.nd (DL.toO (DO.toL (aO dv hV \Y (DO.toB (aO uS Aq (DL.toB aK) (DO.toB (aO gT j4 (DL.toB aK) (DL.toB aK)))))))))
     (ah (oC 100000 qe2 \Y (av (aD (nsN aA 5) (nsL aA 5) y15.nd (DL.toO (DO.toL (aO dE jn \Y (DO.toB (vP q \Y (DO.toB (aO jQ oE (DO.toB (aO dE jn (DO.toB (ww \Y \Y)) (DL.toB aK))) (DL.toB aK)))))))))))
     (av (di (pvN 3 aA) \Y)))))))
     (av (jM (pvN 3 aA))))))
abbrev z23:Stmt:=top 21
theorem z9:FnScope ["_law_script","_law_number","_law_count","_law_more","_law_many","_law_things","_law_cells","_law_k","_law_shelves"] ["_law_script"] (ac z23):=⟨rfl,rfl,rfl,by decide +kernel,rfl,by decide +kernel,by decide +kernel⟩
theorem ak:dD (ac z23) ["_law_script","_law_number","_law_count","_law_more","_law_many","_law_things","_law_cells","_law_k","_law_shelves"]=true:=by decide +kernel
theorem z38:aH (ac z23) "range"=true:=by decide +kernel
theorem q71 (T:Txt P w K mg) (D:DefF K mg "_law_world" z23 ["_law_script"]) (Y:OkF P w K mg base "_law_big" 2 ["_law_script","_law_k"] (spD K 2 (z11))) (q:OkF P w K mg base "_law_cell_at" 1 ["_law_script","_law_k"] (spD K 2 (y1))) (W:OkF P w K mg base "_law_digits" 1 ["_law_number","_law_sizes"] (spD K 2 (y2))) (U:OkF P w K mg base "_law_names" 2 ["_law_number","_law_many"] (spD K 2 (z18))):OkF P w K mg base "_law_world" 3 ["_law_script"] (spD K 1 q14):=
 cb D z9 rfl fun f cdv A outer s H E O=>(ah (aD (nsN ak 1) (nsL ak 1) z9.nd (DL.toO \Y))
     (ah (j1 \Y (qp rfl (aE (aq (au (nsN ak 2) (nsL ak 2) z9.nd)) (aE (aq (au (nsN ak 3) (nsL ak 3) z9.nd)) (aE (aq (au (nsN ak 4) (nsL ak 4) z9.nd)) eR)))))
     (ah (aD (nsN ak 1) (nsL ak 1) z9.nd (DL.toO \Y))
     (ah (aD (nsN ak 5) (nsL ak 5) z9.nd (DL.toO \Y))
     (ah (aD (nsN ak 6) (nsL ak 6) z9.nd (cI bR))
     (ah (gZ qe2 rfl (bU z38 T.n_range \Y) (aq (au (nsN ak 7) (nsL ak 7) z9.nd)) (ah (di (pvN 6 ak) (DO.toL (qa (aV \Y (aV (DO.toL (aO jQ oE \Y (DO.toB (aO gT j4 (DL.toB aK) (DL.toB aK))))) (aV (DO.toL (dm (mZ O) yx (DO.toB (aO jQ oE (DO.toB (aO dv hV \Y (DO.toB (aO gT j4 (DL.toB aK) (DL.toB aK))))) (DL.toB aK))) (DL.toB aK) (bq _))) bR))))))
     (av (aD (nsN ak 1) (nsL ak 1) z9.nd (DL.toO (DO.toL (aO dv hV \Y (DO.toB (aO gT j4 (DL.toB aK) (DL.toB aK))))))))))
     (ah (aD (nsN ak 8) (nsL ak 8) z9.nd (cI bR))
     (ah (gZ qe2 rfl (bU z38 T.n_range \Y) (aq (au (nsN ak 7) (nsL ak 7) z9.nd)) (ah (di (pvN 8 ak) \Y)
     (av (aD (nsN ak 1) (nsL ak 1) z9.nd (DL.toO \Y)))))
     (av (aC \Y))))))))))
abbrev y11:Stmt:=top 23
theorem z13:FnScope ["_law_script","_law_most","_law_world_here","_law_many","_law_rows","_law_last","_law_goal","_law_box","_law_number"] ["_law_script","_law_most"] (ac y11):=⟨rfl,rfl,rfl,by decide +kernel,rfl,by decide +kernel,by decide +kernel⟩
theorem ax:dD (ac y11) ["_law_script","_law_most","_law_world_here","_law_many","_law_rows","_law_last","_law_goal","_law_box","_law_number"]=true:=by decide +kernel
theorem z54:aH (ac y11) "min"=true:=by decide +kernel
theorem z53:aH (ac y11) "max"=true:=by decide +kernel
theorem z48:aH (ac y11) "range"=true:=by decide +kernel
theorem z41:aH (ac y11) "_law_digits"=true:=by decide +kernel
theorem y62 (T:Txt P w K mg) (D:DefF K mg "_law_program" y11 ["_law_script","_law_most"]) (W:OkF P w K mg base "_law_big" 2 ["_law_script","_law_k"] (spD K 2 (z11))) (q:OkF P w K mg base "_law_digits" 1 ["_law_number","_law_sizes"] (spD K 2 (y2))) (Z:OkF P w K mg base "_law_row" 2 ["_law_number","_law_world_here","_law_many"] (spD K 3 (q37))) (O:OkF P w K mg base "_law_world" 3 ["_law_script"] (spD K 1 (q14))):OkF P w K mg base "_law_program" 4 ["_law_script","_law_most"] (spD K 2 y12):=
 cb D z13 rfl fun f cdv A outer s H E Y=>(ah (aD (nsN ax 2) (nsL ax 2) z13.nd (DL.toO \Y))
     (ah (aD (nsN ax 3) (nsL ax 3) z13.nd (DL.toO (DO.toL (d4 z53 (je rfl) wq T.n_max p5 (dn (DL.toB aK) (dn (DO.toB (d4 z54 (ub rfl) Ef T.n_min BD \Y)) gp))))))
     (ah (yG (nsN ax 4) (nsL ax 4) z13.nd (M:=["_law_k","_law_script","_law_world_here","_law_many"]) (src:=[none,some 0,some 2,some 3]) (ts:=[0]) #k rfl (DIF.toB (bU z48 T.n_range \Y)) (fun U _ _ _ _=>(aq (aX (N:=["_law_k","_law_script","_law_world_here","_law_many"]) (i:=0) \2 \2 U (scC (outer:=ac y11) (by exact rfl))))) (fun _ _ _ _=>da) (fun _ _ _ _=>\Y) \2)
     (ah (j1 (DO.toL (j0 z41 q (Y.mono \7) (aV \Y (aV (DO.toL (cI (aV aK (aV \Y (aV \Y (aV (DO.toL (aO gT j4 (DL.toB aK) (DL.toB aK))) bR)))))) bR)))) (qp rfl (aE (aq (au (nsN ax 5) (nsL ax 5) z13.nd)) (aE (aq (au (nsN ax 6) (nsL ax 6) z13.nd)) (aE (aq (au (nsN ax 7) (nsL ax 7) z13.nd)) (aE (aq (au (nsN ax 8) (nsL ax 8) z13.nd)) eR))))))
     (ah (di (pvN 4 ax) \Y)
     (av (aC \Y)))))))
abbrev q22:Stmt:=top 24
theorem y74:FnScope ["_law_pool_here","_law_number"] ["_law_pool_here","_law_number"] (ac q22):=⟨rfl,rfl,rfl,by decide +kernel,rfl,by decide +kernel,by decide +kernel⟩
theorem q57:aH (ac q22) "range"=true:=by decide +kernel
theorem y57:aH (ac q22) "tuple"=true:=by decide +kernel
theorem q73 (T:Txt P w K mg) (D:DefF K mg "_law_some" q22 ["_law_pool_here","_law_number"]):OkF P w K mg base "_law_some" 1 ["_law_pool_here","_law_number"] (spD K 2 y21):=cb D y74 rfl fun f cdv A outer s H E q=>(av (aC (jZ y57 gH rR T.n_tuple oy (dn (DO.toB (bV (M:=["_law_j","_law_pool_here","_law_number"]) (src:=[none,some 0,some 1]) (ts:=[0]) #k rfl (DIF.toB (bU q57 T.n_range \Y)) (fun O _ _ _ _=>(aq (aX (N:=["_law_j","_law_pool_here","_law_number"]) (i:=0) \2 \2 O (scC (outer:=ac q22) (by exact rfl))))) (fun _ _ _ _=>eT (eQ (mZ q) yx (DO.toB (aO jQ oE (DO.toB (aO dv hV \Y (DO.toB (aO ny wN (DL.toB aK) \Y)))) (DL.toB aK))) (DL.toB aK) (bq _))) (fun _ _ _ _=>\Y) \2)) gp))))
abbrev q17:Stmt:=top 25
theorem y10:FnScope ["_law_script","_law_program_here","_law_pool_here","_law_number","_law_begin","_law_share","_law_keeps","_law_at"] ["_law_script","_law_program_here","_law_pool_here"] (ac q17):=⟨rfl,rfl,rfl,by decide +kernel,rfl,by decide +kernel,by decide +kernel⟩
theorem ao:dD (ac q17) ["_law_script","_law_program_here","_law_pool_here","_law_number","_law_begin","_law_share","_law_keeps","_law_at"]=true:=by decide +kernel
theorem y48:aH (ac q17) "range"=true:=by decide +kernel
theorem z64 (T:Txt P w K mg) (D:DefF K mg "_law_cutting" q17 ["_law_script","_law_program_here","_law_pool_here"]) (U:OkF P w K mg base "_law_big" 2 ["_law_script","_law_k"] (spD K 2 (z11))) (q:OkF P w K mg base "_law_cell_at" 1 ["_law_script","_law_k"] (spD K 2 (y1))) (O:OkF P w K mg base "_law_rich" 1 ["_law_cell","_law_k"] (spD K 2 (z16))) (W:OkF P w K mg base "_law_some" 1 ["_law_pool_here","_law_number"] (spD K 2 (y21))):OkF P w K mg base "_law_cutting" 3 ["_law_script","_law_program_here","_law_pool_here"] (spD K 3 q12):=
 cb D y10 rfl fun f cdv A outer s H E Y=>(ah (aD (nsN ao 3) (nsL ao 3) y10.nd (DL.toO \Y))
     (ah (aD (nsN ao 4) (nsL ao 4) y10.nd (DL.toO \Y))
     (ah (aD (nsN ao 3) (nsL ao 3) y10.nd (DL.toO (DO.toL (aO dv hV \Y (DO.toB (aO ny wN (DL.toB aK) \Y))))))
     (ah (aD (nsN ao 5) (nsL ao 5) y10.nd (DL.toO aK))
     (ah (aD (nsN ao 6) (nsL ao 6) y10.nd (cI bR))
     (ah (gZ qe2 rfl (bU y48 T.n_range \Y) (aq (au (nsN ao 7) (nsL ao 7) y10.nd)) (ah (b9 \Y (ah (aD (nsN ao 3) (nsL ao 3) y10.nd (DL.toO \Y))
     (av (aD (nsN ao 5) (nsL ao 5) y10.nd (DL.toO \Y)))) bz)
     (ah (b9 \Y (av (di (pvN 6 ao) \Y)) bz)
     (av (aD (nsN ao 3) (nsL ao 3) y10.nd (DL.toO (DO.toL (aO dv hV \Y (DO.toB (aO ny wN (DL.toB aK) \Y))))))))))
     (av (aC \Y))))))))
abbrev y16:Stmt:=top 26
theorem y29:FnScope ["_law_script","_law_boxes","_law_cells","_law_shelves","_law_rest"] ["_law_script"] (ac y16):=⟨rfl,rfl,rfl,by decide +kernel,rfl,by decide +kernel,by decide +kernel⟩
theorem bv:dD (ac y16) ["_law_script","_law_boxes","_law_cells","_law_shelves","_law_rest"]=true:=by decide +kernel
theorem q54:aH (ac y16) "sorted"=true:=by decide +kernel
theorem z61:aH (ac y16) "set"=true:=by decide +kernel
theorem q74 (T:Txt P w K mg) (D:DefF K mg "_law_pool" y16 ["_law_script"]) (q:OkF P w K mg base "_law_world" 3 ["_law_script"] (spD K 1 (q14))):OkF P w K mg base "_law_pool" 4 ["_law_script"] (spD K 1 z15):=
 cb D y29 rfl fun f cdv A outer s H E U=>(ah (j1 \Y (mW rfl (aE (aq (au (nsN bv 1) (nsL bv 1) y29.nd)) (aE (aq (au (nsN bv 2) (nsL bv 2) y29.nd)) (aE (aq (au (nsN bv 3) (nsL bv 3) y29.nd)) (aE (aq (au (nsN bv 4) (nsL bv 4) y29.nd)) eR))))))
     (av (aC (qx q54 z61 rfl T.n_sorted T.n_set (dn (DO.toB (aO dE jn (DO.toB (aO dE jn \Y (DO.toB (bV (M:=["_law_one"]) (src:=[none]) (ts:=[0]) #k rfl (cS \Y) (fun O _ _ _ _=>(aq (aX (N:=["_law_one"]) (i:=0) \2 \2 O (scC (outer:=ac y16) (by exact rfl))))) (fun _ _ _ _=>da) (fun _ _ _ _=>\Y) \2)))) \Y)) gp)))))
abbrev y33:Stmt:=top 11
theorem z72:FnScope ["code"] ["code"] (ac y33):=⟨rfl,rfl,rfl,by decide +kernel,rfl,by decide +kernel,by decide +kernel⟩
theorem z73 (T:Txt P w K mg) (D:DefF K mg "kept_rows" y33 ["code"]):OkF P w K mg base "kept_rows" 1 ["code"] (spD K 1 q16):=cb D z72 rfl fun f cdv A outer s H E O=>(av (aC (bV (M:=["keep"]) (src:=[none]) (ts:=[0]) #k rfl (cS \Y) (fun q _ _ _ _=>(aq (aX (N:=["keep"]) (i:=0) \2 \2 q (scC (outer:=ac y33) (by exact rfl))))) (fun _ _ _ _=>da) (fun _ _ _ _=>\Y) \2)))
abbrev z46:Stmt:=top 1
theorem z76:FnScope ["number","row"] ["number","row"] (ac z46):=⟨rfl,rfl,rfl,by decide +kernel,rfl,by decide +kernel,by decide +kernel⟩
theorem y76 (T:Txt P w K mg) (D:DefF K mg "ways_of" z46 ["number","row"]):OkF P w K mg base "ways_of" 1 ["number","row"] (spD K 2 q47):=
 cb D z76 rfl fun f cdv A outer s H E q=>(ah (b9 \Y (av (aC \Y)) bz)
     (ah (b9 \Y (av (aC \Y)) bz)
     (ah (b9 \Y (av (aC (qa bR))) bz)
     (av (aC \Y)))))
abbrev hX:Stmt:=top 2
theorem q80:FnScope ["program"] ["program"] (ac hX):=⟨rfl,rfl,rfl,by decide +kernel,rfl,by decide +kernel,by decide +kernel⟩
theorem z59:aH (ac hX) "enumerate"=true:=by decide +kernel
theorem z80 (T:Txt P w K mg) (D:DefF K mg "ways" hX ["program"]) (O:OkF P w K mg base "ways_of" 1 ["number","row"] (spD K 2 (q47))):OkF P w K mg base "ways" 2 ["program"] (spD K 1 kM):=cb D q80 rfl fun f cdv A outer s H E U=>(av (aC (bV (M:=["number","row"]) (src:=[none,none]) (ts:=[0,1]) #k rfl (DIF.toB (m8 z59 T.n_enumerate \Y)) (fun q _ _ _ _=>(mW rfl (aE (aq (aX (N:=["number","row"]) (i:=0) \2 \2 q (scC (outer:=ac hX) (by exact rfl)))) (aE (aq (aX (N:=["number","row"]) (i:=1) \2 \2 q (scC (outer:=ac hX) (by exact rfl)))) eR)))) (fun _ _ _ _=>da) (fun _ _ _ _=>\Y) \2)))
abbrev y19:Stmt:=top 12
theorem q52:FnScope ["program","code","kept"] ["program","code"] (ac y19):=⟨rfl,rfl,rfl,by decide +kernel,rfl,by decide +kernel,by decide +kernel⟩
theorem gO:dD (ac y19) ["program","code","kept"]=true:=by decide +kernel
theorem q70 (T:Txt P w K mg) (D:DefF K mg "inner_ways" y19 ["program","code"]) (U:OkF P w K mg base "kept_rows" 1 ["code"] (spD K 1 (q16))) (q:OkF P w K mg base "ways" 2 ["program"] (spD K 1 (kM))):OkF P w K mg base "inner_ways" 3 ["program","code"] (spD K 2 y18):=
 cb D q52 rfl fun f cdv A outer s H E W=>(ah (aD (nsN gO 2) (nsL gO 2) q52.nd (DL.toO \Y))
     (av (aC (bV (M:=["onward","kept"]) (src:=[none,some 2]) (ts:=[0]) #k rfl (cS \Y) (fun O _ _ _ _=>(aq (aX (N:=["onward","kept"]) (i:=0) \2 \2 O (scC (outer:=ac y19) (by exact rfl))))) (fun _ _ _ _=>da) (fun _ _ _ _=>(DO.toL (bV (M:=["way","kept"]) (src:=[none,some 1]) (ts:=[0]) #k rfl (cS \Y) (fun O _ _ _ _=>(aq (aX (N:=["way","kept"]) (i:=0) \2 \2 O (scC (scC (outer:=ac y19) (by exact rfl)))))) (fun _ _ _ _=>eT \Y) (fun _ _ _ _=>\Y) \2))) \2))))
abbrev q35:Stmt:=top 3
theorem z47:FnScope ["came_from","last","places","here"] ["came_from","last"] (ac q35):=⟨rfl,rfl,rfl,by decide +kernel,rfl,by decide +kernel,by decide +kernel⟩
theorem bW:dD (ac q35) ["came_from","last","places","here"]=true:=by decide +kernel
theorem q66:aH (ac q35) "list"=true:=by decide +kernel
theorem q56:aH (ac q35) "reversed"=true:=by decide +kernel
theorem z78 (T:Txt P w K mg) (D:DefF K mg "traced" q35 ["came_from","last"]):OkF P w K mg base "traced" 1 ["came_from","last"] (spG K 2 (q62)):=
 ng D z47 rfl fun f cdv A outer s H E q=>(aB (bO (nsN bW 2) (nsL bW 2) z47.nd (g7 (cI bR)))
     (aB (bO (nsN bW 3) (nsL bW 3) z47.nd (aw \Y))
     (aB (kg 100000 qe2 (eX \Y) (aB (ja (aS (pvN 2 bW)) (aw \Y))
     (aT (bO (nsN bW 3) (nsL bW 3) z47.nd (B8 T.is q (aS (pvN 0 bW)) (aw \Y))))))
     (aT (cY (qC q66 q56 T.n_list T.n_reversed rfl (aS (pvN 2 bW))))))))
abbrev z35:Stmt:=top 4
theorem y30:FnScope ["starts","behind","fits","came_from","start","queue","looked","here","there"] ["starts","behind","fits"] (ac z35):=⟨rfl,rfl,rfl,by decide +kernel,rfl,by decide +kernel,by decide +kernel⟩
theorem aJ:dD (ac z35) ["starts","behind","fits","came_from","start","queue","looked","here","there"]=true:=by decide +kernel
theorem z71:aH (ac z35) "list"=true:=by decide +kernel
theorem y72:aH (ac z35) "len"=true:=by decide +kernel
theorem y64:aH (ac z35) "traced"=true:=by decide +kernel
theorem y79 (T:Txt P w K mg) (D:DefF K mg "route" z35 ["starts","behind","fits"]) (O:OkF P w K mg base "traced" 1 ["came_from","last"] (spG K 2 (q62))):OkF P w K mg base "route" 3 ["starts","behind","fits"] (spR P w K mg base 2 3 z58):=
 yZ D y30 rfl fun f cdv A outer s H E q G U=>(aB (bO (nsN aJ 3) (nsL aJ 3) y30.nd yR)
     (aB (qo qe2 rfl (j2 \Y) (aq (au (nsN aJ 4) (nsL aJ 4) y30.nd)) (aT (sB T.is q (aS (pvN 3 aJ)) (aw \Y) (aw gY))))
     (aB (bO (nsN aJ 5) (nsL aJ 5) y30.nd (wf z71 rfl T.n_list gl (aS (pvN 3 aJ))))
     (aB (bO (nsN aJ 6) (nsL aJ 6) y30.nd (aw aK))
     (aB (kg 100000 qe2 (qm uU iA (aw \Y) (v6 y72 n6 Ar T.n_len vc (aP (aS (pvN 5 aJ)) dM)) (bq _)) (aB (bO (nsN aJ 7) (nsL aJ 7) y30.nd (Eb q (aS (pvN 5 aJ)) (aw \Y)))
     (aB (ze (nsN aJ 6) (nsL aJ 6) y30.nd (aw aK))
     (aB (fT (iE (su (pvN 2 aJ) U (q.mono \7) (aP (aw \Y) dM)) (fun _=>rfl)) (aT (cY (iD y64 O (q.mono \7) (aP (aS (pvN 3 aJ)) (aP (aw \Y) dM)) (y9 (y9 g8))))) fS)
     (aT (nj 100000 qe2 rfl (su (pvN 1 aJ) U (q.mono \7) (aP (aw \Y) dM)) (ni (au (nsN aJ 8) (nsL aJ 8) y30.nd)) (aT (fT (Ca T.is q (aw \Y) (aS (pvN 3 aJ))) (aB (sB T.is q (aS (pvN 3 aJ)) (aw \Y) (aw \Y))
     (aT (ja (aS (pvN 5 aJ)) (aw \Y)))) fS))))))))
     (aT (cY (aw gY))))))))
abbrev y26:Stmt:=top 10
theorem q68:FnScope ["program"] ["program"] (ac y26):=⟨rfl,rfl,rfl,by decide +kernel,rfl,by decide +kernel,by decide +kernel⟩
theorem y66 (T:Txt P w K mg) (D:DefF K mg "plain_names" y26 ["program"]):OkF P w K mg base "plain_names" 1 ["program"] (spD K 1 y13):=cb D q68 rfl fun f cdv A outer s H E O=>(av (aC (bV (M:=["head"]) (src:=[none]) (ts:=[0]) #k rfl (cS \Y) (fun q _ _ _ _=>(aq (aX (N:=["head"]) (i:=0) \2 \2 q (scC (outer:=ac y26) (by exact rfl))))) (fun _ _ _ _=>eT \Y) (fun _ _ _ _=>\Y) \2)))
abbrev y25:Stmt:=top 13
theorem z66:FnScope ["mark","row","name"] ["mark","row","name"] (ac y25):=⟨rfl,rfl,rfl,by decide +kernel,rfl,by decide +kernel,by decide +kernel⟩
theorem kN:dD (ac y25) ["mark","row","name"]=true:=by decide +kernel
theorem z67 (T:Txt P w K mg) (D:DefF K mg "mark_behind" y25 ["mark","row","name"]):OkF P w K mg base "mark_behind" 1 ["mark","row","name"] (spD K 3 y20):=
 cb D z66 rfl fun f cdv A outer s H E q=>(ah (b9 \Y (av (aC \Y)) bz)
     (ah (b9 \Y (av (aC \Y)) bz)
     (ah (b9 \Y (av (aC \Y)) bz)
     (av (jM (pvN 0 kN))))))
abbrev q13:Stmt:=top 14
theorem y35:FnScope ["program","code","name","rows","inner","behind","spoils","found"] ["program","code","name"] (ac q13):=⟨rfl,rfl,rfl,by decide +kernel,rfl,by decide +kernel,by decide +kernel⟩
theorem be:dD (ac q13) ["program","code","name","rows","inner","behind","spoils","found"]=true:=by decide +kernel
theorem q63:aH (ac q13) "route"=true:=by decide +kernel
abbrev q28:Stmt:=(aI q13).getD 3 (.Pass ⟨0,0,0,0⟩)
theorem y23:NsC (ac q13) ["program","code","name","rows","inner","behind","spoils","found"] ["place","mark","name","rows","inner"] ["place"] ["name","rows","inner"] [2,3,4] (ac q28):=NsC.of \2
theorem z57:cT (ac q28) ["place","mark","name","rows","inner"] 1 "mark"=true:=by decide +kernel
theorem q58:gW (ac q28) "mark"=true:=by decide +kernel
abbrev y63:Stmt:=(aI q13).getD 4 (.Pass ⟨0,0,0,0⟩)
theorem y34:NsC (ac q13) ["program","code","name","rows","inner","behind","spoils","found"] ["place","name","rows"] ["place"] ["name","rows"] [2,3] (ac y63):=NsC.of \2
theorem y78 {c Y:Addr} (T:Txt P w K mg) (D:DefC K mg "spoilt" q13 ["program","code","name"] c) (B:TabB mg base c Y) (Z:(Y,qW "spoilt" (aI q13))∈cA K) (z56:OkF P w K mg base "inner_ways" 3 ["program","code"] (spD K 2 (y18))) (O:OkF P w K mg base "route" 3 ["starts","behind","fits"] (spR P w K mg base 2 3 z58)) (q53:OkF P w K mg base "plain_names" 1 ["program"] (spD K 1 (y13))) (z52:OkF P w K mg base "mark_behind" 1 ["mark","row","name"] (spD K 3 (y20))) (q40:OkF P w K mg base "kept_rows" 1 ["code"] (spD K 1 (q16))):OkF P w K mg base "spoilt" 4 ["program","code","name"] (spG K 3 (z34)):=
 zf D y35 rfl fun f A outer s H E W=>(aB (fT (eX \Y) (aT (cY (aw gY))) fS)
     (aB (bO (nsN be 3) (nsL be 3) y35.nd (aw \Y))
     (aB (bO (nsN be 4) (nsL be 4) y35.nd (aw \Y))
     (wE (i1:=5) (i2:=6) \7 (Cb (NX:=["program","code","name","rows","inner","behind","spoils","found"]) rfl) (sD (qual:="spoilt.<locals>.behind") (nsN be 5) (nsL be 5) y35.nd y23 B Z \2) (sD (qual:="spoilt.<locals>.spoils") (nsN be 6) (nsL be 6) y35.nd y34 B Z \2)
     (wF (zd (nsN be 7) (nsL be 7) y35.nd (Eh (i1:=5) (i2:=6) O (W.mono \7) (glD q63) (fun _=>rfl) (aw (DO.toL (bV (M:=["row"]) (src:=[none]) (ts:=[0]) #k rfl (cS (DO.toB (aO dE jn \Y \Y))) (fun q _ _ _ _=>(aq (aX (N:=["row"]) (i:=0) \2 \2 q (scC (outer:=ac q13) (by exact rfl))))) (fun _ _ _ _=>da) (fun _ _ _ _=>\Y) \2))) (pvN 5 be) (pvN 6 be) (NestD.of y23 (fun s cl doc pm ctv cd us U=>match us,U with | [_],_=>.of_eq rfl) fun f c' cl A outer s H W=>(ah (aD z57 q58 y23.nd (DL.toO \Y))
     (av (aC (Ap \Y (cI bR) (bV (M:=["way","mark"]) (src:=[none,some 1]) (ts:=[0]) #k rfl (cS \Y) (fun q _ _ _ _=>(aq (aX (N:=["way","mark"]) (i:=0) \2 \2 q (scC (outer:=ac q28) (by exact rfl))))) (fun _ _ _ _=>da) (fun _ _ _ _=>\Y) \2)))))) (NestD.of y34 (fun s cl doc pm ctv cd us U=>match us,U with | [_],_=>.of_eq rfl) fun f c' cl A outer s H W=>(av (aC \Y))) y23.all y34.all))
     (aT (cY (Ee (qm mD yy (aS (pvN 7 be)) (aw gY) (bq _)) (aw gY) (wx 100000 (M:=["place"]) (src:=[none]) (t:=0) #k rfl (aS (pvN 7 be)) (fun q _ _ _ _=>(aX (N:=["place"]) (i:=0) \2 \2 q (scC (outer:=ac q13) (by exact rfl)))) (fun _ _ _ _=>yX) (fun _ _ _ _=>(aw \Y)) \2)))))))))
abbrev q36:Stmt:=top 27
theorem z69:FnScope ["_law_rows","_law_at"] ["_law_rows","_law_at"] (ac q36):=⟨rfl,rfl,rfl,by decide +kernel,rfl,by decide +kernel,by decide +kernel⟩
theorem y69 (T:Txt P w K mg) (D:DefF K mg "_law_exits" q36 ["_law_rows","_law_at"]):OkF P w K mg base "_law_exits" 1 ["_law_rows","_law_at"] (spD K 2 z8):=
 cb D z69 rfl fun f cdv A outer s H E q=>(ah (b9 \Y (av (aC (cI bR))) bz)
     (ah (b9 \Y (av (aC \Y)) bz)
     (ah (b9 \Y (av (aC \Y)) bz)
     (av (aC \Y)))))
abbrev q15:Stmt:=top 31
theorem z28:FnScope ["_law_rows","_law_keeps","_law_starts","_law_name","_law_seen","_law_left","_law_at"] ["_law_rows","_law_keeps","_law_starts","_law_name"] (ac q15):=⟨rfl,rfl,rfl,by decide +kernel,rfl,by decide +kernel,by decide +kernel⟩
theorem aL:dD (ac q15) ["_law_rows","_law_keeps","_law_starts","_law_name","_law_seen","_law_left","_law_at"]=true:=by decide +kernel
theorem y36:aH (ac q15) "list"=true:=by decide +kernel
theorem z62 (T:Txt P w K mg) (D:DefF K mg "_law_reached" q15 ["_law_rows","_law_keeps","_law_starts","_law_name"]) (q:OkF P w K mg base "_law_exits" 1 ["_law_rows","_law_at"] (spD K 2 (z8))):OkF P w K mg base "_law_reached" 2 ["_law_rows","_law_keeps","_law_starts","_law_name"] (spG K 4 (y22)):=
 ng D z28 rfl fun f cdv A outer s H E O=>(aB (bO (nsN aL 4) (nsL aL 4) z28.nd (g7 rW))
     (aB (bO (nsN aL 5) (nsL aL 5) z28.nd (g7 (jZ y36 mJ BQ T.n_list gl \Y)))
     (aB (kg 100000 qe2 (eX \Y) (aB (bO (nsN aL 6) (nsL aL 6) z28.nd (yW (aS (pvN 5 aL))))
     (aT (fT (eX \Y) (aB (vX O (aS (pvN 4 aL)) (aw \Y) (aw dZ))
     (aT (fT (eX \Y) (aT (wM (aS (pvN 5 aL)) (g7 (bV (M:=["_law_to","_law_keeps"]) (src:=[none,some 1]) (ts:=[0]) #k rfl (cS \Y) (fun U _ _ _ _=>(aq (aX (N:=["_law_to","_law_keeps"]) (i:=0) \2 \2 U (scC (outer:=ac q15) (by exact rfl))))) (fun _ _ _ _=>eT \Y) (fun _ _ _ _=>\Y) \2)))) fS))) fS))))
     (aT (cY (ph y36 rfl T.n_list gl (aS (pvN 4 aL))))))))
abbrev q21:Stmt:=top 32
theorem y40:FnScope ["_law_rows","_law_keeps","_law_name","_law_starts","_law_at"] ["_law_rows","_law_keeps","_law_name"] (ac q21):=⟨rfl,rfl,rfl,by decide +kernel,rfl,by decide +kernel,by decide +kernel⟩
theorem bc:dD (ac q21) ["_law_rows","_law_keeps","_law_name","_law_starts","_law_at"]=true:=by decide +kernel
theorem q61:aH (ac q21) "list"=true:=by decide +kernel
theorem y28:aH (ac q21) "_law_reached"=true:=by decide +kernel
theorem q76 (T:Txt P w K mg) (D:DefF K mg "_law_may" q21 ["_law_rows","_law_keeps","_law_name"]) (q:OkF P w K mg base "_law_reached" 2 ["_law_rows","_law_keeps","_law_starts","_law_name"] (spG K 4 (y22))) (U:OkF P w K mg base "_law_exits" 1 ["_law_rows","_law_at"] (spD K 2 (z8))):OkF P w K mg base "_law_may" 3 ["_law_rows","_law_keeps","_law_name"] (spG K 3 (q44)):=
 ng D y40 rfl fun f cdv A outer s H E O=>(aB (bO (nsN bc 3) (nsL bc 3) y40.nd (g7 (cI bR)))
     (aB (nj 100000 qe2 rfl (iD y28 q (O.mono \7) (aP (aw \Y) (aP (aS (pvN 1 bc)) (aP (BT dE jn (aw \Y) (ph q61 rfl T.n_list gl (aS (pvN 1 bc)))) (aP (aw \Y) dM)))) (y9 (y9 (y9 (y9 g8))))) (ni (au (nsN bc 4) (nsL bc 4) y40.nd)) (aT (fT (eX \Y) (aT (wM (aS (pvN 3 bc)) (g7 (bV (M:=["_law_to","_law_keeps"]) (src:=[none,some 1]) (ts:=[0]) #k rfl (cS \Y) (fun W _ _ _ _=>(aq (aX (N:=["_law_to","_law_keeps"]) (i:=0) \2 \2 W (scC (outer:=ac q21) (by exact rfl))))) (fun _ _ _ _=>eT \Y) (fun _ _ _ _=>\Y) \2)))) fS)))
     (aB (nj 100000 qe2 rfl (iD y28 q (O.mono \7) (aP (aw \Y) (aP (aS (pvN 1 bc)) (aP (aS (pvN 3 bc)) (aP (aw mQ) dM)))) (y9 (y9 (y9 (y9 g8))))) (ni (au (nsN bc 4) (nsL bc 4) y40.nd)) (aT (fT (eX \Y) (aT (cY (aw dZ))) fS)))
     (aT (cY (aw dZ))))))
abbrev z20:Stmt:=top 28
theorem q72:FnScope ["_law_found"] ["_law_found"] (ac z20):=⟨rfl,rfl,rfl,by decide +kernel,rfl,by decide +kernel,by decide +kernel⟩
theorem q30:aH (ac z20) "isinstance"=true:=by decide +kernel
theorem y56:aH (ac z20) "bool"=true:=by decide +kernel
theorem q59:aH (ac z20) "int"=true:=by decide +kernel
theorem z70 (T:Txt P w K mg) (D:DefF K mg "_law_whole" z20 ["_law_found"]):OkF P w K mg base "_law_whole" 1 ["_law_found"] (spD K 1 q29):=cb D q72 rfl fun f cdv A outer s H E q=>(av (aC (vE (DO.toB (i6 q30 q59 T.n_isinstance T.n_int ve T.k_int \Y)) (vD (vC (DO.toB (i6 q30 y56 T.n_isinstance T.n_bool yj T.k_bool \Y)))))))
abbrev z10:Stmt:=top 29
theorem q45:FnScope ["_law_rows","_law_keeps","_law_way","_law_k"] ["_law_rows","_law_keeps","_law_way"] (ac z10):=⟨rfl,rfl,rfl,by decide +kernel,rfl,by decide +kernel,by decide +kernel⟩
theorem ef:dD (ac z10) ["_law_rows","_law_keeps","_law_way","_law_k"]=true:=by decide +kernel
theorem z50:aH (ac z10) "all"=true:=by decide +kernel
theorem q41:aH (ac z10) "isinstance"=true:=by decide +kernel
theorem z49:aH (ac z10) "list"=true:=by decide +kernel
theorem y47:aH (ac z10) "range"=true:=by decide +kernel
theorem z60 (T:Txt P w K mg) (D:DefF K mg "_law_is_piece" z10 ["_law_rows","_law_keeps","_law_way"]) (q:OkF P w K mg base "_law_exits" 1 ["_law_rows","_law_at"] (spD K 2 (z8))) (U:OkF P w K mg base "_law_whole" 1 ["_law_found"] (spD K 1 (q29))):OkF P w K mg base "_law_is_piece" 2 ["_law_rows","_law_keeps","_law_way"] (spD K 3 z21):=
 cb D q45 rfl fun f cdv A outer s H E W=>(ah (b9 (DW.t (rN (p9 (jY (DO.toB (i6 q41 z49 T.n_isinstance T.n_list gl T.k_list \Y)) (fun _=>rfl))) (rN \Y (vz (p9 (jY (DO.toB (d4 z50 (ox rfl) (As (f:=fun bs=>bs.all id)) T.n_all vd (dn (DO.toB (bV (M:=["_law_at"]) (src:=[none]) (ts:=[0]) #k rfl (cS \Y) (fun O _ _ _ _=>(aq (aX (N:=["_law_at"]) (i:=0) \2 \2 O (scC (outer:=ac z10) (by exact rfl))))) (fun _ _ _ _=>da) (fun _ _ _ _=>\Y) \2)) gp))) (fun _=>rfl))))))) (av (aC (DL.toO dZ))) bz)
     (ah (b9 \Y (av (aC (DL.toO dZ))) bz)
     (ah (gZ qe2 rfl (t5 y47 T.n_range \Y) (aq (au (nsN ef 3) (nsL ef 3) q45.nd)) (av (b9 \Y (av (aC (DL.toO dZ))) bz)))
     (av (aC (DL.toO dZ))))))
abbrev z14:Stmt:=top 30
theorem y39:FnScope ["_law_rows","_law_way","_law_name","_law_shelf","_law_taken","_law_put"] ["_law_rows","_law_way","_law_name","_law_shelf"] (ac z14):=⟨rfl,rfl,rfl,by decide +kernel,rfl,by decide +kernel,by decide +kernel⟩
theorem cy:dD (ac z14) ["_law_rows","_law_way","_law_name","_law_shelf","_law_taken","_law_put"]=true:=by decide +kernel
theorem y37:aH (ac z14) "range"=true:=by decide +kernel
theorem q67 (T:Txt P w K mg) (D:DefF K mg "_law_spoils" z14 ["_law_rows","_law_way","_law_name","_law_shelf"]):OkF P w K mg base "_law_spoils" 1 ["_law_rows","_law_way","_law_name","_law_shelf"] (spD K 4 q26):=
 cb D y39 rfl fun f cdv A outer s H E O=>(ah (oR (nsN cy 4) (nsL cy 4) y39.nd (M:=["_law_k","_law_rows","_law_way","_law_name"]) (src:=[none,some 0,some 1,some 2]) (ts:=[0]) #k rfl (DIF.toB (bU y37 T.n_range \Y)) (fun q _ _ _ _=>(aq (aX (N:=["_law_k","_law_rows","_law_way","_law_name"]) (i:=0) \2 \2 q (scC (outer:=ac z14) (by exact rfl))))) (fun _ _ _ _=>eT \Y) (fun _ _ _ _=>\Y) \2)
     (ah (oR (nsN cy 5) (nsL cy 5) y39.nd (M:=["_law_k","_law_rows","_law_way","_law_name"]) (src:=[none,some 0,some 1,some 2]) (ts:=[0]) #k rfl (DIF.toB (bU y37 T.n_range \Y)) (fun q _ _ _ _=>(aq (aX (N:=["_law_k","_law_rows","_law_way","_law_name"]) (i:=0) \2 \2 q (scC (outer:=ac z14) (by exact rfl))))) (fun _ _ _ _=>eT \Y) (fun _ _ _ _=>\Y) \2)
     (ah (b9 \Y (av (aC (DL.toO dZ))) bz)
     (av (aC \Y)))))
abbrev fw:Stmt:=top 33
theorem sc_law:FnScope ["_law_script","_law_program_here","_law_rows","_law_code","_law_keeps","_law_at","_law_told","_law_found"] ["_law_script"] (ac fw):=⟨rfl,rfl,rfl,by decide +kernel,rfl,by decide +kernel,by decide +kernel⟩
theorem bp:dD (ac fw) ["_law_script","_law_program_here","_law_rows","_law_code","_law_keeps","_law_at","_law_told","_law_found"]=true:=by decide +kernel
theorem y71:aH (ac fw) "spoilt"=true:=by decide +kernel
theorem y65:aH (ac fw) "_law_may"=true:=by decide +kernel
theorem y51:aH (ac fw) "_law_is_piece"=true:=by decide +kernel
theorem q55:aH (ac fw) "_law_spoils"=true:=by decide +kernel
theorem Cf {f:Addr} {fd:qq8} (T:Txt P w K mg) (D:Fun K "law" "law" fw f fd) (q49:OkF P w K mg base "_law_program" 4 ["_law_script","_law_most"] (spD K 2 (y12))) (y49:OkF P w K mg base "_law_cutting" 3 ["_law_script","_law_program_here","_law_pool_here"] (spD K 3 (q12))) (Z:OkF P w K mg base "_law_pool" 4 ["_law_script"] (spD K 1 (z15))) (W:OkF P w K mg base "spoilt" 4 ["program","code","name"] (spG K 3 (z34))) (O:OkF P w K mg base "_law_may" 3 ["_law_rows","_law_keeps","_law_name"] (spG K 3 (q44))) (U:OkF P w K mg base "_law_is_piece" 2 ["_law_rows","_law_keeps","_law_way"] (spD K 3 (z21))) (Y:OkF P w K mg base "_law_spoils" 1 ["_law_rows","_law_way","_law_name","_law_shelf"] (spD K 4 (q26))):FnOk P w K mg base CX0 5 f fd ["_law_script"] (spG K 1 wU):=
 vY D sc_law rfl fun cdv A outer s H E q=>(aB (bO (nsN bp 1) (nsL bp 1) sc_law.nd (aw \Y))
     (aB (bO (nsN bp 2) (nsL bp 2) sc_law.nd (aw \Y))
     (aB (bO (nsN bp 3) (nsL bp 3) sc_law.nd (aw \Y))
     (aB (bO (nsN bp 4) (nsL bp 4) sc_law.nd (g7 rW))
     (aB (qo qe2 rfl (j2 \Y) (mW rfl (aE (aq (au (nsN bp 5) (nsL bp 5) sc_law.nd)) (aE (aq (au (nsN bp 6) (nsL bp 6) sc_law.nd)) eR))) (aT (vX q (aS (pvN 4 bp)) (aw \Y) (aw dZ))))
     (aB (qo qe2 rfl (j2 \Y) (aq (au (nsN bp 6) (nsL bp 6) sc_law.nd)) (aB (bO (nsN bp 7) (nsL bp 7) sc_law.nd (iD y71 W (q.mono \7) (aP (aw \Y) (aP (aw \Y) (aP (aw \Y) dM))) (y9 (y9 (y9 g8)))))
     (aT (fT (qm mD yy (aS (pvN 7 bp)) (aw gY) (bq _)) (aT (fT (GW.t (BV (eX \Y) (yN (iE (iD y65 O (q.mono \7) (aP (aw \Y) (aP (aS (pvN 4 bp)) (aP (aw \Y) dM))) (y9 (y9 (y9 g8)))) (fun _=>rfl))))) (aT (cY (aw dZ))) fS)) (aT (fT (GW.t (Ec (eX \Y) (BU (v4 (iE (oT y51 U (q.mono \7) (aP (aw \Y) (aP (aS (pvN 4 bp)) (aP (aS (pvN 7 bp)) dM))) (y9 (y9 (y9 g8)))) (fun _=>rfl)))))) (aT (cY (aw dZ))) (aT (fT (v4 (iE (oT q55 Y (q.mono \7) (aP (aw \Y) (aP (aS (pvN 7 bp)) (aP (aw \Y) (aP (aw (DO.toL (dm (wT q rfl) AA \Y \Y (by with_unfolding_all rfl)))) dM)))) (y9 (y9 (y9 (y9 g8))))) (fun _=>rfl))) (aT (cY (aw dZ))) (aT (ja (aS (pvN 7 bp)) (aw aK)))))))))))
     (aT (cY (aw \Y)))))))))
end
end P34
namespace L2
open PySem PySem.Spec PyProof.Rows
variable {acc:List Str} {x:Str}
theorem wV {k:Str}:x∈ll acc k↔x∈acc∨x=k:=by
 unfold ll;split
 . rename_i h;exact ⟨.inl,fun z=>z.elim id fun e=>e▸h⟩
 . simp
theorem fY:∀ {ss acc:List Str},x∈ss.foldl ll acc↔x∈acc∨x∈ss
 | [],acc=>by simp
 | s::ss,acc=>by rw [qi1,fY,wV,qb6,or_assoc]
theorem onces_mem {ss:List Str}:x∈dG ss↔x∈ss:=by unfold dG;rw [fY];simp
theorem qG {k:Str} (h:acc.Nodup):(ll acc k).Nodup:=by
 unfold ll;split
 . exact h
 . rename_i hk;rw [qf4];exact ⟨h,by simp,fun a O b q e=>hk (by rw [qb9.mp q] at e;exact e▸O)⟩
theorem eh:∀ {ss acc:List Str},acc.Nodup->(ss.foldl ll acc).Nodup
 | [],acc,h=>h
 | s::ss,acc,h=>by rw [qi1];exact eh (qG h)
theorem pi (ss:List Str):(dG ss).Nodup:=eh qv0
theorem cj {α:Type} [DecidableEq α]:∀ {l m:List α},l.Nodup->(∀ x∈l,x∈m)->l.length<=m.length
 | [],m,_,_=>qn8 _
 | a::l,m,h,O=>by
  obtain ⟨h1,h2⟩:=qk4.mp h;have U:a∈m:=O a (.head _);have:=cj (m:=m.erase a) h2 fun x q=>(List.mem_erase_of_ne (show x≠a from fun e=>h1 (by rw [<- e];exact q))).mpr (O x (.tail _ q))
  rw [List.length_erase_of_mem U] at this;have hp:=List.length_pos_of_mem U;rw [qe7];oo
inductive Atm where
 | nm (x:Str) | vl (i:Int)
inductive Rw where
 | copy (x:Str) (a:Atm) | op (x s:Str) (a b:Atm) | load (x c:Str) | store (c:Str) (a:Atm) | take (x f:Str) (a:Atm) | lay (f:Str) (a b:Atm) | hear (x:Str) | say (a:Atm) | iff (a:Atm) (g:Nat) | go (g:Nat) | fin (a:Atm)
df nms:List Atm->List Str
 | []=>[]
 | .nm x::r=>x::nms r
 | .vl _::r=>nms r
df Rw.outs (n:Nat):Rw->List Nat
 | .go g=>[g] | .iff _ g=>[g,n+1] | .fin _=>[]
 | _=>[n+1]
theorem Rw.outs_len (r:Rw) (n:Nat):(r.outs n).length<=2:=by cases r<;>simp [Rw.outs]
section
variable {rows:List Rw} {B:List Str} {found:List (List Str)}
end
variable {i j:Int}
theorem gAdd_i:bB (.int i) (.int j)=some (.leaf (.int (i+j))):=rfl
variable {y:Str}
theorem Cg (h:x.length+y.length<=qb2):bB (.str x) (.str y)=some (.leaf (.str (x++y))):=if_pos h
variable {l m:List Dt}
theorem wW (h:l.length+m.length<=qb2):bB (.lst l) (.lst m)=some (.lst (l++m)):=if_pos h
theorem gSub_i:fO (.int i) (.int j)=some (.leaf (.int (i-j))):=rfl
theorem wX (h:jm i j=true):jB (.int i) (.int j)=some (.leaf (.int (i*j))):=if_pos h
theorem qH (h:0<j):dB (.int i) (.int j)=some (.leaf (.int (i%j))):=if_pos h
theorem qI (h:lL i j=true):jC (.int i) (.int j)=some (.leaf (.int (i^j.toNat))):=if_pos h
theorem wY:lL 2 40=true:=by decide
@[irreducible] def wide:Int:=1099511627776
theorem nB:wide=1099511627776:=by unfold wide;rfl
theorem EN:jC (.int 2) (.int 40)=some (.leaf (.int wide)):=by rw [qI wY,nB];rfl
theorem wZ:(0:Int)<wide:=by rw [nB];decide
theorem gMod_w:dB (.int i) (.int wide)=some (.leaf (.int (i%wide))):=qH wZ
theorem Ch {f:Int->Int->Bool}:jD f (.int i) (.int j)=some (.leaf (.bl (f i j))):=rfl
theorem w4 (h:(cmpbs l m&&decide (deeps l<=59))=true):eqD (.tup l) (.tup m)=some (peqs l m):=if_pos h
theorem El (h:(cmpbs l m&&decide (deeps l<=59))=true):eqD (.lst l) (.lst m)=some (peqs l m):=if_pos h
variable {neg b:Bool}
theorem nC {x y:Dt} (h:eqD x y=some b):gEq neg x y=some (.leaf (.bl (if neg then !b else b))):=by unfold gEq;rw [h];rfl
theorem gEq_ii:gEq false (.int i) (.int j)=some (.leaf (.bl (decide (i=j)))):=rfl
theorem gEq_ss {i j:Str}:gEq false (.str i) (.str j)=some (.leaf (.bl (decide (i=j)))):=rfl
theorem w6:gEq true (.int i) (.int j)=some (.leaf (.bl (!decide (i=j)))):=rfl
theorem gNe_ss {i j:Str}:gEq true (.str i) (.str j)=some (.leaf (.bl (!decide (i=j)))):=rfl
theorem w8:ag (.lst l) (.int i)=(atI l i).map .leaf:=rfl
theorem AB:ag (.tup l) (.int i)=(atI l i).map .leaf:=rfl
theorem w9 (h:x.length<=qb2):ag (.str x) (.int i)=(atI x.cps.toList i).map fun c=>.leaf (.str ⟨#[c]⟩):=if_pos h
theorem Em {ks:List Key} {k:Dt}:aY neg k (.dct ks l)=(j8 k).map fun k=>.leaf (.bl (if neg then !(c8 ks l k).isSome else (c8 ks l k).isSome)):=rfl
theorem Eo {x:Dt} (h:(bQ x&&l.all bQ)=true):aY neg x (.lst l)=some (.leaf (.bl (if neg then !(l.any fun y=>eqF y x) else l.any fun y=>eqF y x))):=by cases x<;>simp only [aY,gIn,inD]<;>first | rw [if_pos h];rfl | cases h
theorem gIn_t {x:Dt} (h:(bQ x&&l.all bQ)=true):aY neg x (.tup l)=some (.leaf (.bl (if neg then !(l.any fun y=>eqF y x) else l.any fun y=>eqF y x))):=by cases x<;>simp only [aY,gIn,inD]<;>first | rw [if_pos h];rfl | cases h
theorem gLen_l:cX [.lst l]=some (.leaf (.int l.length)):=rfl
theorem gLen_t:cX [.tup l]=some (.leaf (.int l.length)):=rfl
theorem Ep:fP [.lst l]=some (.leaf (.tup l)):=rfl
theorem xa (h:gI j=true):i5 [.int j]=some (dq 0 j.toNat):=if_pos h
theorem kO (q:-1000000000<=j) (h1:j<=1000000000):gI j=true:=by unfold gI;simp only [qb4,decide_eq_true_eq];oo
variable {n:Nat}
theorem fZ (h:n<=1000000000):i5 [.int n]=some (dq 0 n):=by rw [xa (kO \3 \3)];rfl
theorem itD_l:itD (.lst l)=some l:=rfl
theorem itD_t:itD (.tup l)=some l:=rfl
theorem truD_b:vv (.bl b)=some b:=rfl
theorem asB_b:asB (.leaf (.bl b))=some b:=rfl
theorem asBl_b:mT (.bl b)=some b:=rfl
theorem asI_i {b:Int}:asI (.int b)=some b:=rfl
theorem small (h:n<=1000000):n<=qb2:=qc3 h \7
theorem dy (h:n<1000000):n<qb2:=qb7 h \7
variable {bb:Dt->De->Option De} {g:De->Option Out} {δ:De}
theorem cN {d:Dt} {r:List Dt} {δ1 δ2:De} (h1:bb d δ=some δ1) (h2:g δ1=some (.nx δ2)):d6 bb g (d::r) δ=d6 bb g r δ2:=by show ((bb d δ).bind fun δ1=>(g δ1).bind fun o=>match o with | .nx δ2=>d6 bb g r δ2 | .ct δ2=>d6 bb g r δ2 | .bk δ2=>some (.nx δ2) | .rt t=>some (.rt t) | .re t δ2=>some (.re t δ2))=_;rw [h1,qa0,h2];rfl
theorem bM {α:Type} {l:List α} {k:Nat}:atI l (k:Int)=l[k]?:=by
 unfold atI ixN;rw [if_pos \3];by_cases h:k<l.length
 . rw [if_pos \3];simp
 . rw [if_neg \3];simp;oo
theorem Ci (h1:-1000000000000000000<i) (h2:i<1000000000000000000):jB (.int i) (.int j)=some (.leaf (.int (i*j))):=wX (yt h1 h2)
theorem gMul_r (h1:-1000000000000000000<j) (h2:j<1000000000000000000):jB (.int i) (.int j)=some (.leaf (.int (i*j))):=wX (yu h1 h2)
df xb (o:Option Out) (g:De->Option Out):Option Out:=o.bind fun o=>match o with
 | .nx δ'=>g δ'
 | o=>some o
theorem kP {g1 g2:De->Option Out}:aG g1 g2 δ=xb (g1 δ) g2:=rfl
theorem f6:xb (some (.nx δ)) g=g δ:=rfl
theorem Er {t:T}:xb (some (.rt t)) g=some (.rt t):=rfl
df Cj:Option Out->Option T
 | some (.rt t)=>some t
 | some (.nx _)=>some (.leaf .non)
 | _=>none
variable {ds:List Dt}
theorem Ck {m:Nat}:db m g ds=Cj (g (ds.map (fun d=>some (.leaf d))++qc6 (m-ds.length) none)):=rfl
theorem EO {t:T}:Cj (some (.rt t))=some t:=rfl
df c9 {α:Type} (b:Option Bool) (f g:De->Option α) (δ:De):Option α:=b.bind fun b=>if b then f δ else g δ
theorem jN {α:Type} {f g:De->Option α}:c9 (some true) f g δ=f δ:=rfl
theorem iI {α:Type} {f g:De->Option α}:c9 (some false) f g δ=g δ:=rfl
theorem iJ {α:Type} {f g:De->Option α} (h:b=true):c9 (some b) f g δ=f δ:=by subst h;rfl
theorem iK {α:Type} {f g:De->Option α} (h:b=false):c9 (some b) f g δ=g δ:=by subst h;rfl
theorem sG {c:De->Option Bool} {g1 g2:De->Option Out}:sIf c g1 g2 δ=c9 (c δ) g1 g2 δ:=rfl
theorem vIf_d {c:De->Option Bool} {g1 g2:De->Option T}:vIf c g1 g2 δ=c9 (c δ) g1 g2 δ:=rfl
df kB (b:Bool):De->Option Bool:=fun _=>some b
df kT (b:Bool):De->Option T:=fun _=>some (.leaf (.bl b))
theorem kB_d:kB b δ=some b:=rfl
theorem kT_d:kT b δ=some (.leaf (.bl b)):=rfl
theorem jf {f g:De->Option Bool}:cH f g δ=c9 (f δ) g (kB false) δ:=rfl
theorem fOr_d {f g:De->Option Bool}:fOr f g δ=c9 (f δ) (kB true) g δ:=rfl
variable {f:De->Option Dt}
theorem vAnd_d {g:De->Option T}:lh f g δ=c9 ((f δ).bind mT) g (kT false) δ:=by
 unfold lh c9 kT;cases f δ with
 | none=>rfl
 | some d=>rfl
theorem vOr_d {g:De->Option T}:vOr f g δ=c9 ((f δ).bind mT) (kT true) g δ:=by
 unfold vOr c9 kT;cases f δ with
 | none=>rfl
 | some d=>rfl
df mkL (ds:List Dt):Option T:=if ds.length<=qb2 then some (.lst ds) else none
df mkTp (ds:List Dt):Option T:=if ds.length<=qb2 then some (.leaf (.tup ds)) else none
theorem cz (h:ds.length<=1000000):mkL ds=some (.lst ds):=if_pos (small h)
theorem EQ (h:ds.length<=1000000):mkTp ds=some (.leaf (.tup ds)):=if_pos (small h)
theorem vLst_d {f:De->Option (List Dt)}:bE f δ=(f δ).bind mkL:=rfl
theorem vTup_d {f:De->Option (List Dt)}:bj f δ=(f δ).bind mkTp:=rfl
variable {fi:De->Option (List Dt)} {ft:De->Option Bool} {fe:De->Option Dt}
theorem ER {src:List (Option Nat)}:bF src fi bb ft fe δ=(fi δ).bind fun ds=>(cg bb ft fe (dC src δ) ds).bind mkL:=rfl
df Cl (l:List Dt) (i:Nat) (δ:De) (d:Dt):Option Out:=if l.length<qb2 then some (.nx (δ.set i (some (.lst (l++[d]))))) else none
theorem iL {i:Nat} {d:Dt} (h:l.length<1000000):Cl l i δ d=some (.nx (δ.set i (some (.lst (l++[d]))))):=if_pos (dy h)
theorem mm {i:Nat} (h:δ[i]?=some (some (.lst l))):q20 i f δ=(f δ).bind (Cl l i δ):=by unfold q20;rw [h];rfl
theorem qJ (cs:List Nat):Txt.join "" (cs.map fun c=>(⟨#[c]⟩:Str))=⟨cs.toArray⟩:=by
 have e0:("":Str).cps=#[]:=by decide +kernel
 have q:∀ (l:List Nat) (acc:Array Nat),(l.map fun c=>(⟨#[c]⟩:Str)).foldl (fun acc p=>acc++("":Str).cps++p.cps) acc=acc++l.toArray:=by
  intro l;induction l with
  | nil=>intro acc;simp
  | cons c l O =>intro acc;rw [qa7,qi1,O,e0];simp
 unfold Txt.join qi7.Str.glued;cases cs with
 | nil=>rfl
 | cons c r =>show (⟨(r.map fun c=>(⟨#[c]⟩:Str)).foldl (fun acc p=>acc++("":Str).cps++p.cps) (#[c]:Array Nat)⟩:Str)=_;rw [q];simp
theorem nE (cs:List Nat) (h:cs.length<=1000):JoinOk "" (cs.map fun c=>(⟨#[c]⟩:Str))=true:=by
 unfold JoinOk
 have h1:∀ y∈cs.map (fun c=>(⟨#[c]⟩:Str)),y.length<=1:=fun y q=>by obtain ⟨c,_,rfl⟩:=qd1.mp q;exact nL _
 rw [StrLaws.joinFits h1 (by rw [qa2,show ("":Str).length=0 by decide +kernel];oo)];rfl
theorem hZ:∀ ts:List Str,fQ (ts.map .str)=some ts
 | []=>rfl
 | t::r=>by show (fQ (r.map .str)).map (t::·)=_;rw [hZ r];rfl
df sgD (cs:List Nat):List Dt:=cs.map fun c=>.str ⟨#[c]⟩
theorem xc {cs:List Nat} (h:cs.length<=1000):g6 (.str "") [.lst (sgD cs)]=some (.leaf (.str ⟨cs.toArray⟩)):=by
 have e:sgD cs=(cs.map fun c=>(⟨#[c]⟩:Str)).map .str:=by unfold sgD;rw [qc4];rfl
 show (fQ (sgD cs)).bind _=_;rw [e,hZ,qa0,if_pos (nE cs h),qJ]
theorem Cm {α:Type} {xs:List α} (O:0<=i) (h1:i<xs.length):∃ v,atI xs i=some v/\v∈xs:=by
 obtain ⟨n,rfl⟩:=Int.eq_ofNat_of_zero_le O;have q:n<xs.length:=by oo
 exact ⟨xs[n],ya (by simp [q]),qg5 q⟩
theorem zq (x:Str):x.length=x.cps.toList.length:=by show x.cps.size=_;simp
theorem zr (U:x.length<=1000000) (O:0<=i) (h1:i<x.length):∃ c,ag (.str x) (.int i)=some (.leaf (.str ⟨#[c]⟩))/\c∈x.cps.toList:=by obtain ⟨c,e,q⟩:=Cm (xs:=x.cps.toList) O (by rw [<- zq];exact h1);refine ⟨c,?_,q⟩;rw [w9 (small U),e];rfl
theorem ES:bQ (.int i)=true:=rfl
theorem ET:bQ (.str x)=true:=rfl
theorem eqF_s:eqF (.str x) (.str y)=decide (x=y):=by show (x==y)=_;rw [qi8];simp
theorem eqF_i {x y:Int}:eqF (.int x) (.int y)=decide (x=y):=by show (x==y)=_;rw [qi8];simp
theorem sFor_d:lj fi bb g δ=(fi δ).bind fun ds=>d6 bb g ds δ:=rfl
theorem kQ (a:Int) (q:0<n):∃ k:Nat,k<n/\a%(n:Int)=(k:Int):=by have O:=qo9 a (show (n:Int)≠0 by oo);have h1:=ql0 a (show (0:Int)<n by oo);exact ⟨(a%(n:Int)).toNat,by oo,by oo⟩
theorem atI_0 {α:Type} {l:List α}:atI l 0=l[0]?:=bM (k:=0)
theorem atI_1 {α:Type} {l:List α}:atI l 1=l[1]?:=bM (k:=1)
theorem atI_2 {α:Type} {l:List α}:atI l 2=l[2]?:=bM (k:=2)
theorem atI_3 {α:Type} {l:List α}:atI l 3=l[3]?:=bM (k:=3)
theorem atI_4 {α:Type} {l:List α}:atI l 4=l[4]?:=bM (k:=4)
variable {ch:CH}
theorem xf {δ:Sl} {i:Nat} {d:Dt} (h:δ[i]?=some (some (.dat d))):(lo δ ch)[i]?=some (some (.leaf d)):=by
 have O:∀ (δ:Sl) (u:List Nat) (i:Nat),δ[i]?=some (some (.dat d))->(loA ch u δ)[i]?=some (some (.leaf d)):=fun δ=>by
  induction δ with
  | nil=>intro u i h;simp at h
  | cons x r q =>
   intro u i h;cases i with
   | zero =>simp only [qd4,qi3] at h;subst h;rfl
   | succ i =>
    have h':r[i]?=some (some (.dat d)):=by simpa using h
    cases x with
    | none=>simpa [loA] using q u i h'
    | some c=>cases c with
     | dat e=>simpa [loA] using q u i h'
     | ref j=>simpa [loA] using q (j::u) i h'
     | fn a F0=>simpa [loA] using q u i h'
 exact O δ [] i h
theorem kR {δ:Sl} {i:Nat} {d:Dt} (h:δ[i]?=some (some (.dat d))):vL i (lo δ ch)=some d:=by unfold vL;rw [xf h]
theorem fA {δ:Sl} {i:Nat} {d:Dt} (h:δ[i]?=some (some (.dat d))):vB i (lo δ ch)=some d:=by unfold vB;rw [xf h];rfl
open PySem
theorem xG:(qa1 "copy"=qa1 "store")=False:=eq_false \2
theorem Cn:(qa1 "copy"=qa1 "if")=False:=eq_false \2
theorem Co:(qa1 "copy"=qa1 "go")=False:=eq_false \2
theorem AC:(qa1 "copy"=qa1 "end")=False:=eq_false \2
theorem AD:(qa1 "op"=qa1 "store")=False:=eq_false \2
theorem Es:(qa1 "op"=qa1 "if")=False:=eq_false \2
theorem Et:(qa1 "op"=qa1 "go")=False:=eq_false \2
theorem Dc:(qa1 "op"=qa1 "end")=False:=eq_false \2
theorem zt:(qa1 "load"=qa1 "copy")=False:=eq_false \2
theorem Cp:(qa1 "load"=qa1 "op")=False:=eq_false \2
theorem xH:(qa1 "load"=qa1 "store")=False:=eq_false \2
theorem zu:(qa1 "load"=qa1 "take")=False:=eq_false \2
theorem AE:(qa1 "load"=qa1 "lay")=False:=eq_false \2
theorem zw:(qa1 "load"=qa1 "hear")=False:=eq_false \2
theorem AF:(qa1 "load"=qa1 "say")=False:=eq_false \2
theorem Cq:(qa1 "load"=qa1 "if")=False:=eq_false \2
theorem Cr:(qa1 "load"=qa1 "go")=False:=eq_false \2
theorem AG:(qa1 "load"=qa1 "end")=False:=eq_false \2
theorem xI:(qa1 "store"=qa1 "copy")=False:=eq_false \2
theorem AH:(qa1 "store"=qa1 "op")=False:=eq_false \2
theorem xJ:(qa1 "store"=qa1 "load")=False:=eq_false \2
theorem xK:(qa1 "store"=qa1 "take")=False:=eq_false \2
theorem zy:(qa1 "store"=qa1 "lay")=False:=eq_false \2
theorem xL:(qa1 "store"=qa1 "hear")=False:=eq_false \2
theorem zA:(qa1 "store"=qa1 "say")=False:=eq_false \2
theorem AI:(qa1 "store"=qa1 "if")=False:=eq_false \2
theorem AJ:(qa1 "store"=qa1 "go")=False:=eq_false \2
theorem zB:(qa1 "store"=qa1 "end")=False:=eq_false \2
theorem zC:(qa1 "take"=qa1 "copy")=False:=eq_false \2
theorem Cs:(qa1 "take"=qa1 "op")=False:=eq_false \2
theorem zD:(qa1 "take"=qa1 "load")=False:=eq_false \2
theorem xM:(qa1 "take"=qa1 "store")=False:=eq_false \2
theorem AK:(qa1 "take"=qa1 "lay")=False:=eq_false \2
theorem zE:(qa1 "take"=qa1 "hear")=False:=eq_false \2
theorem AL:(qa1 "take"=qa1 "say")=False:=eq_false \2
theorem Ct:(qa1 "take"=qa1 "if")=False:=eq_false \2
theorem Cu:(qa1 "take"=qa1 "go")=False:=eq_false \2
theorem AM:(qa1 "take"=qa1 "end")=False:=eq_false \2
theorem AN:(qa1 "lay"=qa1 "copy")=False:=eq_false \2
theorem Df:(qa1 "lay"=qa1 "op")=False:=eq_false \2
theorem AO:(qa1 "lay"=qa1 "load")=False:=eq_false \2
theorem zF:(qa1 "lay"=qa1 "store")=False:=eq_false \2
theorem AQ:(qa1 "lay"=qa1 "take")=False:=eq_false \2
theorem AR:(qa1 "lay"=qa1 "hear")=False:=eq_false \2
theorem Cv:(qa1 "lay"=qa1 "say")=False:=eq_false \2
theorem Dg:(qa1 "lay"=qa1 "if")=False:=eq_false \2
theorem Dh:(qa1 "lay"=qa1 "go")=False:=eq_false \2
theorem Cw:(qa1 "lay"=qa1 "end")=False:=eq_false \2
theorem xN:(qa1 "hear"=qa1 "store")=False:=eq_false \2
theorem Cy:(qa1 "hear"=qa1 "if")=False:=eq_false \2
theorem Cz:(qa1 "hear"=qa1 "go")=False:=eq_false \2
theorem AS:(qa1 "hear"=qa1 "end")=False:=eq_false \2
theorem zG:(qa1 "say"=qa1 "store")=False:=eq_false \2
theorem Di:(qa1 "say"=qa1 "if")=False:=eq_false \2
theorem Dj:(qa1 "say"=qa1 "go")=False:=eq_false \2
theorem CA:(qa1 "say"=qa1 "end")=False:=eq_false \2
theorem AT:(qa1 "if"=qa1 "store")=False:=eq_false \2
theorem Eu:(qa1 "if"=qa1 "go")=False:=eq_false \2
theorem Dk:(qa1 "if"=qa1 "end")=False:=eq_false \2
theorem AU:(qa1 "go"=qa1 "store")=False:=eq_false \2
theorem Dl:(qa1 "go"=qa1 "end")=False:=eq_false \2
theorem zH:(qa1 "end"=qa1 "store")=False:=eq_false \2
theorem Dm:(qa1 "end"=qa1 "if")=False:=eq_false \2
theorem Dn:(qa1 "end"=qa1 "go")=False:=eq_false \2
section
variable {c f m:Str} {fa fb fe fk fo fx:Fg} {fs:Fgs} {g:Fd} {δ:Sl} {ch ch1 ch2 ch3:CH} {i:Nat} {ns:List Str} {l cs:List CV} {x v w:CV} {d:Dt} {o o':CO}
theorem kS (q:fs δ ch=some (cs,ch2)):eC g fs δ ch=g cs ch2:=by unfold eC;rw [q,qa0]
theorem bw (h1:fa δ ch=some (x,ch1)) (h2:fs δ ch1=some (cs,ch2)):ay fa fs δ ch=some (x::cs,ch2):=by unfold ay;rw [h1,qa0];dsimp only;rw [h2,qd2]
theorem pj (q:fe δ ch=some (v,ch1)) (U:fa δ ch1=some (.ref i,ch2)) (hk:fk δ ch2=some (.dat d,ch3)) (O:ch3[i]?=some o) (hp:yM o d v=some o'):ke fa fk fe δ ch=some (.nx δ (ch3.set i o')):=by unfold ke;rw [q,qa0];dsimp only;rw [U,qa0];dsimp only;rw [hk,qa0];simp only [O,qa0,hp,qd2]
theorem CB (h1:fa δ ch=some (.ref i,ch1)) (h2:fb δ ch1=some (.dat d,ch2)) (q:ch2[i]?=some o) (O:ixO o d=some x):eIx fa fb δ ch=some (x,ch2):=by unfold eIx;rw [h1,qa0];dsimp only;rw [h2,qa0];simp only [q,qa0,O,qd2]
theorem sH {g:Dt->Dt->Option T} {y z:Dt} {t:T} (h1:fa δ ch=some (x,ch1)) (h2:fb δ ch1=some (v,ch2)) (O:vw ch2 x=some y) (U:vw ch2 v=some z) (q:g y z=some t):e2 g fa fb δ ch=al ch2 t:=by unfold e2;rw [h1,qa0];dsimp only;rw [h2,qa0];simp only [O,U,qa0,q]
theorem Ev {g:List Dt->Option T} {t:T} (h1:fs δ ch=some (cs,ch1)) (h2:vws ch1 cs=some ds) (h3:g ds=some t):eB g fs δ ch=al ch1 t:=by unfold eB;rw [h1,qa0];dsimp only;rw [h2,qa0,h3,qa0]
theorem xg {g:List Dt->Option T} {e:Dt} (h1:fs δ ch=some (cs,ch1)) (h2:vws ch1 cs=some ds) (h3:g ds=some (.leaf e)) (q:rZ (.leaf e)=some (.leaf e):=by rfl):eCV g fs δ ch=some (.dat e,ch1):=by unfold eCV;rw [h1,qa0];dsimp only;rw [h2,qa0,h3,qa0,q];rfl
theorem cB {fd:De->Option Dt} (h:fd (lo δ ch)=some d):eD fd δ ch=some (.dat d,ch):=by unfold eD;rw [h];rfl
theorem f7 (h:ft (lo δ ch)=some b):tD ft δ ch=some (b,ch):=by unfold tD;rw [h];rfl
theorem ck (h:δ[i]?=some (some v)):eV i δ ch=some (v,ch):=by unfold eV;rw [h]
theorem bg (h:fa δ ch=some (v,ch1)):aQ i fa δ ch=some (.nx (δ.set i (some v)) ch1):=by unfold aQ;rw [h];rfl
theorem dz (h:fa δ ch=some (v,ch1)):cu fa δ ch=some (.rt v ch1):=by unfold cu;rw [h];rfl
theorem iM (h:fa δ ch=some (.dat (.bl b),ch1)):fU fa δ ch=some (b,ch1):=by unfold fU;rw [h];rfl
theorem xh {i:Nat} (q:i<δ.length):mgS [i] δ ((lo δ ch).set i (some (.leaf d)))=δ.set i (some (.dat d)):=by
 have h2:(lo δ ch).length=δ.length:=eU ch [] δ;apply qr1;intro j;unfold mgS;rw [qr5];by_cases e:i=j
 . subst e;rw [qd8 q,gQ q,qd8 (by rw [h2];exact q)];simp
 . rw [gN e,gN e];have O:¬ j=i:=fun z=>e z.symm
   cases h:δ[j]? with
   | none=>rfl
   | some x=>simp [O]
theorem sI {i:Nat} {g:Fs} {r:List Dt} {q:Sl} (O:i<δ.length) (h:g (δ.set i (some (.dat d))) ch=some (.nx q ch2)):i9 [i] (am i) g (d::r) δ ch=i9 [i] (am i) g r q ch2:=by show ((am i d (lo δ ch)).bind fun δ1=>(g (mgS [i] δ δ1) ch).bind fun o=>_)=_;unfold am;rw [qa0,xh O,h];rfl
theorem jt {i:Nat} {g:Fs} {I:Sl->CH->Prop} (O:∀ δ ch,I δ ch->i<δ.length):∀ {ds:List Dt} {δ:Sl} {ch:CH},(∀ d∈ds,∀ δ ch,I δ ch->∃ q ch2,g (δ.set i (some (.dat d))) ch=some (.nx q ch2)/\I q ch2)->I δ ch->∃ q ch2,i9 [i] (am i) g ds δ ch=some (.nx q ch2)/\I q ch2
 | [],δ,ch,_,h=>⟨δ,ch,rfl,h⟩
 | d::ds,δ,ch,U,h=>by obtain ⟨δ1,ch1,e,h1⟩:=U d \5 δ ch h;rw [sI (O _ _ h) e];exact jt O (fun z W=>U z (by simp [W])) h1
end
df Atm.d:Atm->Dt
 | .nm x=>.str x
 | .vl i=>.int i
df Rw.d:Rw->Dt
 | .copy x a=>.tup [.str "copy",.str x,a.d]
 | .op x s a b=>.tup [.str "op",.str x,.str s,a.d,b.d]
 | .load x c=>.tup [.str "load",.str x,.str c]
 | .store c a=>.tup [.str "store",.str c,a.d]
 | .take x f a=>.tup [.str "take",.str x,.str f,a.d]
 | .lay f a b=>.tup [.str "lay",.str f,a.d,b.d]
 | .hear x=>.tup [.str "hear",.str x]
 | .say a=>.tup [.str "say",a.d]
 | .iff a g=>.tup [.str "if",a.d,.int g]
 | .go g=>.tup [.str "go",.int g]
 | .fin a=>.tup [.str "end",a.d]
df dI (j:Nat):Dt:=.int (j:Int)
df dS (l:List Str):Dt:=.lst (l.map .str)
df dR (rows:List Rw):Dt:=.tup (rows.map Rw.d)
theorem bT {α:Type} {f h:α->Dt}:∀ {l:List α},(∀ a∈l,∃ δ1,bb (f a) δ=some δ1/\ft δ1=some true/\fe δ1=some (h a))->cg bb ft fe δ (l.map f)=some (l.map h)
 | [],_=>rfl
 | a::l,q=>by obtain ⟨δ1,h1,h2,h3⟩:=q a qe1;rw [qa7];unfold cg;rw [h1,qa0,h2,qa0,if_pos rfl,h3,qa0,bT fun e O=>q e (qd0 _ O)];rfl
theorem ce {α:Type} {f h:α->Dt} {p:α->Bool}:∀ {l:List α},(∀ a∈l,∃ δ1,bb (f a) δ=some δ1/\ft δ1=some (p a)/\(p a=true->fe δ1=some (h a)))->cg bb ft fe δ (l.map f)=some ((l.filter p).map h)
 | [],_=>rfl
 | a::l,q=>by
  obtain ⟨δ1,h1,h2,h3⟩:=q a qe1;have O:=ce (l:=l) fun e U=>q e (qd0 _ U)
  rw [qa7];unfold cg;rw [h1,qa0,h2,qa0];cases hp:p a with
  | true =>rw [if_pos rfl,h3 hp,qa0,O,zc5 hp];rfl
  | false =>rw [if_neg \5,O,List.filter_cons_of_neg (by simp [hp])]
theorem uw {α:Type} {f:α->Dt}:∀ (l:List α) (i:Nat),dF i (l.map f)=(l.mapIdx fun k a=>Dt.tup [.int ((i+k:Nat):Int),f a])
 | [],_=>rfl
 | a::l,i=>by rw [qa7,dF,uw l (i+1),List.mapIdx_cons];congr 1;congr 1;funext k a;rw [show i+1+k=i+(k+1) by oo]
theorem kU {α:Type} {f:α->Dt} {h:Nat->α->Dt}:∀ {l:List α} (i:Nat),(∀ k a,∃ δ1,bb (.tup [.int ((k:Nat):Int),f a]) δ=some δ1/\fe δ1=some (h k a))->cg bb c7 fe δ (dF i (l.map f))=some (l.mapIdx fun k a=>h (i+k) a)
 | [],_,_=>rfl
 | a::l,i,q=>by obtain ⟨δ1,h1,h3⟩:=q i a;rw [qa7,dF];unfold cg;rw [h1,qa0];show ((fe δ1).bind fun y=>_)=_;rw [h3,qa0,kU (i+1) q,List.mapIdx_cons];show some _=some _;congr 1;congr 1;congr 1;funext k a;rw [show i+1+k=i+(k+1) by oo]
theorem nF (l:List Str):(l.map Dt.str).all bQ=true:=by rw [qj2];intro x q;obtain ⟨y,_,rfl⟩:=qd1.mp q;rfl
theorem zI (l:List Str) (x:Str):((l.map Dt.str).any fun y=>eqF y (.str x))=decide (x∈l):=by
 induction l with
 | nil=>rfl
 | cons a l q =>
  rw [qa7,qi9,q,show eqF (.str a) (.str x)=decide (a=x) from rfl];by_cases h:a=x
  . simp [h]
  . have:¬ x=a:=fun z=>h z.symm
    simp [h,this]
theorem kW {l:List Str}:aY neg (.str x) (.lst (l.map .str))=some (.leaf (.bl (if neg then !decide (x∈l) else decide (x∈l)))):=by rw [Eo (by rw [nF];rfl),zI]
theorem pk {l:List Str} (h:l.length<64):fX [.lst (l.map .str)]=some (.lst ((iF (dG l)).map .str)):=by unfold fX;dsimp only;rw [hZ,qa0,if_pos h]
section
variable {ch:CH} {fi:Nat} {refs:List Nat} {found:List (List Str)}
end
variable {g1 g2:Fs} {δ1:Sl} {ch1:CH}
theorem aF {δ:Sl} (h:g1 δ ch=some (.nx δ1 ch1)):az g1 g2 δ ch=g2 δ1 ch1:=by unfold az;rw [h];rfl
theorem pr {δ:Sl} {c:CV} (h:g1 δ ch=some (.rt c ch1)):az g1 g2 δ ch=some (.rt c ch1):=by unfold az;rw [h];rfl
variable {c:Ft}
theorem sJ {δ:Sl} (h:c δ ch=some (b,ch1)):dN c g1 g2 δ ch=if b then g1 δ ch1 else g2 δ ch1:=by unfold dN;rw [h];rfl
theorem ia {δ:Sl} (h:c δ ch=some (true,ch1)):dN c g1 g2 δ ch=g1 δ ch1:=by rw [sJ h,if_pos rfl]
theorem f8 {δ:Sl} (h:c δ ch=some (false,ch1)):dN c g1 g2 δ ch=g2 δ ch1:=by rw [sJ h,if_neg \5]
theorem iN {g:Fs} {δ:Sl} {ch2:CH} (h:c δ ch=some (true,ch1)) (q:g δ ch1=some (.nx δ1 ch2)):bA c g (n+1) δ ch=bA c g n δ1 ch2:=by show ((c δ ch).bind fun p=>_)=_;rw [h,qa0];dsimp only;rw [if_pos rfl,q];rfl
theorem kX {g:Fs} {δ:Sl} (h:c δ ch=some (false,ch1)):bA c g (n+1) δ ch=some (.nx δ ch1):=by show ((c δ ch).bind fun p=>_)=_;rw [h,qa0];rfl
theorem gv {m:Nat} {g:Fs} {cs:List CV} {ch':CH} {c:CV} (h:g (cs.map some++qc6 (m-cs.length) none) ch=some (.rt c ch')):fC m g cs ch=some (c,ch'):=by unfold fC;rw [h]
section
variable {α:Type} [DecidableEq α]
abbrev CF (α:Type):=List (α×Option α)
df ks (cf:CF α):List α:=cf.map (·.1)
df ib (h:α) (cf:CF α) (t:α):CF α:=if t∈ks cf then cf else cf++[(t,some h)]
df bP (h:α) (cf:CF α) (ts:List α):CF α:=ts.foldl (ib h) cf
df bfs (beh:α->List α) (fit:α->Bool):Nat->CF α->Nat->List (List α)->Option (Option α×CF α×List (List α))
 | 0,_,_,_=>none
 | n+1,cf,k,J=>match cf[k]? with
  | none=>some (none,cf,J)
  | some (h,_)=>if fit h then some (some h,cf,J) else bfs beh fit n (bP h cf (beh h)) (k+1) (J++[beh h])
df bh (cf:CF α) (s:α):CF α:=if s∈ks cf then cf else cf++[(s,none)]
structure BI (beh:α->List α) (fit:α->Bool) (starts:List α) (cf:CF α) (k:Nat):Prop where
 nd:(ks cf).Nodup
 sub:∀ s∈starts,s∈ks cf
 par:∀ (i:Nat) (t p:α),cf[i]?=some (t,some p)->∃ j q,j<i/\cf[j]?=some (p,q)/\t∈beh p/\fit p=false
 st:∀ (i:Nat) (t:α),cf[i]?=some (t,none)->t∈starts
 done:∀ (i:Nat) (t:α) (q:Option α),i<k->cf[i]?=some (t,q)->fit t=false/\∀ u∈beh t,u∈ks cf
variable {beh:α->List α} {fit:α->Bool} {starts:List α}
theorem dP (cf cf':CF α):ks (cf++cf')=ks cf++ks cf':=qc7
theorem gx {cf:CF α} {t:α} (h:t∈ks cf):∃ (i:Nat) (q:Option α),cf[i]?=some (t,q):=by obtain ⟨p,hp,rfl⟩:=qd1.mp h;obtain ⟨i,hi,e⟩:=qy4 hp;exact ⟨i,p.2,by rw [gQ hi,e]⟩
theorem gy {cf:CF α} {t:α} {i:Nat} {q:Option α} (h:cf[i]?=some (t,q)):t∈ks cf:=qd1.mpr ⟨(t,q),qd3 h,rfl⟩
theorem cO (h:α):∀ (ts:List α) (cf:CF α),∃ e,bP h cf ts=cf++e/\(∀ p∈e,p.2=some h/\p.1∈ts)/\((ks cf).Nodup->(ks (bP h cf ts)).Nodup)/\∀ t∈ts,t∈ks (bP h cf ts)
 | [],cf=>⟨[],by simp [bP],by simp,fun z=>z,by simp⟩
 | t::ts,cf=>by
  obtain ⟨e,h1,h2,h3,Z⟩:=cO h ts (ib h cf t);have e0:bP h cf (t::ts)=bP h (ib h cf t) ts:=rfl;rw [e0]
  have W:t∈ks (bP h (ib h cf t) ts):=by
   rw [h1,dP];refine qg8 _ ?_;unfold ib;split
   . assumption
   . rw [dP];exact qc8 _ (by simp [ks])
  have O:∀ u∈t::ts,u∈ks (bP h (ib h cf t) ts):=fun u U=>by
   rcases qb6.mp U with rfl | U
   . exact W
   . exact Z u U
  by_cases q:t∈ks cf
  . have:ib h cf t=cf:=if_pos q;rw [this] at h1 h3 ⊢;refine ⟨e,h1,fun p hp=>⟨(h2 p hp).1,qd0 _ (h2 p hp).2⟩,h3,?_⟩;rw [this] at O;exact O
  . have:ib h cf t=cf++[(t,some h)]:=if_neg q;rw [this] at h1 h3 ⊢;refine ⟨(t,some h)::e,by rw [h1,qf0];rfl,fun p hp=>?_,fun nd=>h3 ?_,?_⟩
    . rcases qb6.mp hp with rfl | hp
      . exact ⟨rfl,qe1⟩
      . exact ⟨(h2 p hp).1,qd0 _ (h2 p hp).2⟩
    . rw [dP];refine qf4.mpr ⟨nd,by simp [ks],fun a ha b Y=>?_⟩;simp [ks] at Y;subst Y;rintro rfl;exact q ha
    . rw [this] at O;exact O
theorem BI.step {cf:CF α} {k:Nat} {h:α} {q:Option α} (B:BI beh fit starts cf k) (hk:cf[k]?=some (h,q)) (hf:fit h=false):BI beh fit starts (bP h cf (beh h)) (k+1):=by
 obtain ⟨e,h1,h2,h3,h4⟩:=cO h (beh h) cf
 have keep:∀ {i:Nat} {x:α×Option α},cf[i]?=some x->(bP h cf (beh h))[i]?=some x:=fun {i x} z=>by rw [h1,qa5 (gX z).1];exact z
 have O:∀ {i:Nat} {x:α×Option α},(bP h cf (beh h))[i]?=some x->cf[i]?=some x∨(x.2=some h/\x.1∈beh h/\cf.length<=i):=fun {i x} z=>by
  rw [h1] at z;by_cases hi:i<cf.length
  . rw [qa5 hi] at z;exact .inl z
  . rw [gR \3] at z;have:=h2 _ (qd3 z);exact .inr ⟨this.1,this.2,by oo⟩
 have U:∀ {t:α},t∈ks cf->t∈ks (bP h cf (beh h)):=fun {t} z=>by rw [h1,dP];exact qg8 _ z
 refine ⟨h3 B.nd,fun s hs=>U (B.sub s hs),fun i t p z=>?_,fun i t z=>?_,fun i t Y hi z=>?_⟩
 . rcases O z with z | ⟨z1,z2,z3⟩
   . obtain ⟨j,Y,g1,g2,g3⟩:=B.par i t p z;exact ⟨j,Y,g1,keep g2,g3⟩
   . cases z1;exact ⟨k,q,qb7 (gX hk).1 z3,keep hk,z2,hf⟩
 . rcases O z with z | ⟨z1,_,_⟩
   . exact B.st i t z
   . cases z1
 . have hk':=(gX hk).1;rcases O z with z | ⟨_,_,z3⟩
   . by_cases Z:i=k
     . subst Z;rw [hk] at z;cases z;exact ⟨hf,fun u W=>h4 u W⟩
     . obtain ⟨g1,g2⟩:=B.done i t Y \3 z;exact ⟨g1,fun u W=>U (g2 u W)⟩
   . oo
theorem kY {U:List α} {h:α} {ts:List α} {cf:CF α} (q:∀ t∈ks cf,t∈U) (O:∀ t∈ts,t∈U):∀ t∈ks (bP h cf ts),t∈U:=fun t z=>by
 obtain ⟨e,h1,h2,_,_⟩:=cO h ts cf;rw [h1,dP] at z;rcases qg2.mp z with z | z
 . exact q t z
 . obtain ⟨p,hp,rfl⟩:=qd1.mp z;exact O _ (h2 p hp).2
theorem pv {U:List α} (W:∀ t∈U,∀ u∈beh t,u∈U):∀ (n:Nat) (cf:CF α) (k:Nat) (J:List (List α)),BI beh fit starts cf k->(∀ t∈ks cf,t∈U)->k<=cf.length->U.length<n+k→
  ∃ f cf' J' k',bfs beh fit n cf k J=some (f,cf',J')/\BI beh fit starts cf' k'/\(∀ t∈ks cf',t∈U)/\(f=none->k'=cf'.length)/\∀ h,f=some h->fit h=true/\h∈ks cf'
 | 0,cf,k,J,B,O,hk,Z=>by have:=cj B.nd O;rw [show (ks cf).length=cf.length from qa2 ..] at this;oo
 | n+1,cf,k,J,B,O,hk,Z=>by
  unfold bfs;cases q:cf[k]? with
  | none =>have:=qf6.mp q;exact ⟨none,cf,J,k,rfl,B,O,fun _=>by oo,fun h z=>nomatch z⟩
  | some x =>
   obtain ⟨h,p⟩:=x;dsimp only;cases Y:fit h with
   | true =>exact ⟨some h,cf,J,k,rfl,B,O,fun z=>(nomatch z),fun h' z=>by cases z;exact ⟨Y,gy q⟩⟩
   | false =>have hk':=(gX q).1;obtain ⟨e,h1,_⟩:=cO h (beh h) cf;exact pv W n _ (k+1) _ (B.step q Y) (kY O (W h (O h (gy q)))) (by rw [h1,qa8];oo) \3
theorem BI.start:BI beh fit starts (starts.foldl bh []) 0:=by
 have W:∀ (ss:List α) (cf:CF α),(ks cf).Nodup->(∀ p∈cf,p.2=none/\p.1∈starts)->(∀ s∈ss,s∈starts)->(ks (ss.foldl bh cf)).Nodup/\(∀ p∈ss.foldl bh cf,p.2=none/\p.1∈starts)/\∀ s,(s∈ss∨s∈ks cf)->s∈ks (ss.foldl bh cf):=fun ss=>by
  induction ss with
  | nil=>intro cf h1 h2 _;exact ⟨h1,h2,fun s U=>U.elim (fun z=>nomatch z) id⟩
  | cons s ss ih =>
   intro cf h1 h2 h3;rw [qi1]
   have U:s∈ks (bh cf s):=by
    unfold bh;split
    . assumption
    . rw [dP];exact qc8 _ (by simp [ks])
   have hm:∀ t∈ks cf,t∈ks (bh cf s):=fun t O=>by
    unfold bh;split
    . exact O
    . rw [dP];exact qg8 _ O
   obtain ⟨a,b,c⟩:=ih (bh cf s) (by
    unfold bh;split
    . exact h1
    . rename_i q;rw [dP];refine qf4.mpr ⟨h1,by simp [ks],fun a Z b Y=>?_⟩;simp [ks] at Y;subst Y;rintro rfl;exact q Z) (fun p hp=>by
    unfold bh at hp;split at hp
    . exact h2 p hp
    . rcases qg2.mp hp with hp | hp
      . exact h2 p hp
      . cases qb9.mp hp;exact ⟨rfl,h3 _ qe1⟩) fun t O=>h3 t (qd0 _ O)
   refine ⟨a,b,fun t O=>c t ?_⟩;rcases O with O | O
   . rcases qb6.mp O with rfl | O
     . exact .inr U
     . exact .inl O
   . exact .inr (hm t O)
 obtain ⟨a,b,c⟩:=W starts [] (by simp [ks]) \5 fun s U=>U
 exact ⟨a,fun s U=>c s (.inl U),fun i t p z=>(by have:=(b _ (qd3 z)).1;cases this),fun i t z=>(b _ (qd3 z)).2,fun i t q hi=>by oo⟩
df look (cf:CF α) (t:α):Option (Option α):=(cf.find? fun p=>decide (p.1=t)).map (·.2)
theorem nG:∀ {cf:CF α} {i:Nat} {t:α} {q:Option α},(ks cf).Nodup->cf[i]?=some (t,q)->look cf t=some q
 | [],i,t,q,_,h=>by simp at h
 | p::cf,0,t,q,O,h=>by simp at h;subst h;simp [look]
 | p::cf,i+1,t,q,O,h=>by
  have h:cf[i]?=some (t,q):=by simpa using h
  have O:(p.1::ks cf).Nodup:=O;have U:p.1≠t:=fun z=>(qk4.mp O).1 (z▸gy h)
  have:=nG (qk4.mp O).2 h;unfold look at this ⊢;rw [qp8 (by simpa using U)];exact this
inductive Tr (cf:CF α):α->List α->Prop
 | one {t:α} (h:look cf t=some none):Tr cf t [t]
 | more {t p:α} {r:List α} (h:look cf t=some (some p)) (r':Tr cf p r):Tr cf t (t::r)
inductive Wy (beh:α->List α) (fit:α->Bool) (starts:List α):α->List α->Prop
 | one {t:α} (h:t∈starts):Wy beh fit starts t [t]
 | more {t p:α} {r:List α} (h:t∈beh p) (hf:fit p=false) (w:Wy beh fit starts p r):Wy beh fit starts t (t::r)
theorem BI.trace {cf:CF α} {k:Nat} (B:BI beh fit starts cf k):∀ (i:Nat) (t:α) (q:Option α),cf[i]?=some (t,q)->∃ r,Tr cf t r/\Wy beh fit starts t r/\r.length<=i+1:=fun i=>by
 induction i using Nat.strongRecOn with
 | ind i W =>
  intro t q h;cases q with
  | none=>exact ⟨[t],.one (nG B.nd h),.one (B.st i t h),by simp⟩
  | some p =>obtain ⟨j,U,h1,h2,h3,O⟩:=B.par i t p h;obtain ⟨r,g1,g2,Y⟩:=W j h1 p U h2;exact ⟨t::r,.more (nG B.nd h) g1,.more h3 O g2,by simp;oo⟩
inductive Rch (beh:α->List α) (starts:List α):α->Prop
 | one {t:α} (h:t∈starts):Rch beh starts t
 | more {t p:α} (w:Rch beh starts p) (h:t∈beh p):Rch beh starts t
theorem BI.none {cf:CF α} (B:BI beh fit starts cf cf.length) {t:α} (h:Rch beh starts t):fit t=false:=by
 have O:t∈ks cf:=by
  induction h with
  | one h=>exact B.sub _ h
  | more w h U =>obtain ⟨i,q,e⟩:=gx U;exact (B.done i _ q (gX e).1 e).2 _ h
 obtain ⟨i,q,e⟩:=gx O;exact (B.done i t q (gX e).1 e).1
end
inductive Mrk where
 | fresh | seen | safe | spoilt
deriving DecidableEq
df Rw.gets:Rw->Str->Bool
 | .load _ c,nm=>decide (c=nm) | .take _ f _,nm=>decide (f=nm)
 | _,_=>false
df Rw.puts:Rw->Str->Bool
 | .store c _,nm=>decide (c=nm) | .lay f _ _,nm=>decide (f=nm)
 | _,_=>false
df Rw.stores:Rw->Str->Bool
 | .store c _,nm=>decide (c=nm)
 | _,_=>false
variable {r:Rw}
theorem Rw.excl {nm:Str} (h:r.gets nm=true):r.puts nm=false:=by cases r<;>first | cases h;done | rfl
df mb:Mrk->Rw->Str->Mrk
 | .fresh,r,nm=>if r.gets nm then .seen else if r.stores nm then .safe else .fresh
 | .seen,r,nm=>if r.puts nm then .spoilt else .seen
 | m,_,_=>m
section
variable (rows:List Rw) (kept:List Nat) (nm:Str)
df eF (t:Nat×Mrk):List (Nat×Mrk):=match rows[t.1]? with
 | none=>[]
 | some r=>if mb t.2 r nm=.safe then [] else ((r.outs t.1).filter fun w=>!decide (w∈kept)).map fun w=>(w,mb t.2 r nm)
df f9 (t:Nat×Mrk):Bool:=match rows[t.1]? with
 | none=>false
 | some r=>decide (mb t.2 r nm=.spoilt)
df bD:List (Nat×Mrk):=(0::kept).map fun k=>(k,.fresh)
df gA (k:Nat):Bool:=match rows[k]? with | some r=>r.gets nm | none=>false
df pA (k:Nat):Bool:=match rows[k]? with | some r=>r.puts nm | none=>false
df sA (k:Nat):Bool:=match rows[k]? with | some r=>r.stores nm | none=>false
end
section
variable {rows:List Rw} {kept:List Nat} {nm:Str}
theorem AV {k:Nat} (h:rows[k]?=some r):gA rows nm k=r.gets nm:=by unfold gA;rw [h]
theorem xi {k:Nat} (h:rows[k]?=some r):pA rows nm k=r.puts nm:=by unfold pA;rw [h]
theorem Ew {k:Nat} (h:rows[k]?=some r):sA rows nm k=r.stores nm:=by unfold sA;rw [h]
theorem zJ {k:Nat} (h:gA rows nm k=true):pA rows nm k=false:=by
 unfold gA at h;unfold pA;split at h
 . rename_i r e;exact Rw.excl h
 . cases h
theorem mn {m:Mrk} (h:mb m r nm=.spoilt):m=.spoilt∨(m=.seen/\r.puts nm=true):=by
 cases m with
 | fresh=>simp only [mb] at h;split at h<;>(try split at h)<;>cases h
 | seen =>
  simp only [mb] at h;cases h1:r.puts nm<;>simp [h1] at h
  exact .inr ⟨rfl,rfl⟩
 | safe=>cases h
 | spoilt=>exact .inl rfl
theorem xj {p:Nat->Bool}:∀ {n g:Nat},g<n->p g=true->(∀ j<g,p j=false)->∃ r,(qc1 n).filter p=g::r:=fun {n g} U hp q=>by
 obtain ⟨d,rfl⟩:∃ d,n=g+(d+1):=⟨n-g-1,by oo⟩;rw [List.range_add,List.filter_append]
 have e:(qc1 g).filter p=[]:=by rw [zd3];intro a O;rw [q a (qd5.mp O)];decide
 rw [e,qk6,qu0];simp [hp]
structure Kd (rows:List Rw) (nm:Str) (shelf:Bool):Prop where
 c:shelf=false->∀ k,pA rows nm k=sA rows nm k
 s:shelf=true->∀ k,sA rows nm k=false
end
section
variable {rows:List Rw} {kept:List Nat} {nm:Str}
theorem xk {t u:Nat×Mrk} (h:u∈eF rows kept nm t):∃ r,rows[t.1]?=some r/\mb t.2 r nm≠.safe/\u.1∈r.outs t.1/\u.1∉kept/\u.2=mb t.2 r nm:=by
 unfold eF at h;split at h
 . cases h
 . rename_i r e;split at h
   . cases h
   . rename_i O;obtain ⟨w,q,rfl⟩:=qd1.mp h;obtain ⟨h1,h2⟩:=ql8.mp q;exact ⟨r,e,O,h1,by simpa using h2,rfl⟩
theorem qK {k w:Nat} {m:Mrk} (e:rows[k]?=some r) (O:mb m r nm≠.safe) (q:w∈r.outs k) (hk:w∉kept):(w,mb m r nm)∈eF rows kept nm (k,m):=by unfold eF;simp only [e];rw [if_neg O];exact qd1.mpr ⟨w,ql8.mpr ⟨q,by simpa using hk⟩,rfl⟩
end
end L2
local macro_rules | `(tactic| walk_at "d") => `(tactic| simp -implicitDefEqProofs only [L2.Ck, L2.EO, L2.kP, L2.f6, L2.Er, L2.cJ, L2.bf, L2.bI, L2.lK, L2.sG, L2.jN, L2.iI, L2.kB_d, L2.kT_d, L2.sFor_d, L2.qb, L2.toT, L2.toD, L2.T.d, L2.kD, L2.vL, L2.vB, L2.d2, L2.tB2, L2.jA, L2.mR, L2.jf, L2.fOr_d, L2.yo, L2.vAnd_d, L2.vOr_d, L2.vIf_d, L2.ae, L2.ab, L2.vTup_d, L2.vLst_d, L2.cz, L2.EQ, L2.iL, L2.ai, L2.lO, L2.ER, L2.vSl, L2.oI, L2.lN, L2.oN, L2.At, L2.oM, L2.qf, L2.fIt, L2.fN, L2.am, L2.dC, L2.c7, L2.gAdd_i, L2.atI_0, L2.atI_1, L2.atI_2, L2.atI_3, L2.atI_4, L2.Eo, L2.gIn_t, L2.ES, L2.ET, L2.eqF_s, L2.eqF_i, qp2, List.all_nil, qi9, List.any_nil, L2.gSub_i, L2.Ci, L2.gMul_r, L2.qH, L2.EN, L2.gMod_w, L2.Ch, L2.gEq_ii, L2.gEq_ss, L2.w6, L2.gNe_ss, L2.vJ, L2.w8, L2.AB, L2.Em, L2.gLen_l, L2.gLen_t, L2.Ep, L2.itD_l, L2.itD_t, L2.truD_b, L2.asB_b, L2.asBl_b, L2.asI_i, qa7, qs9, qe7, qg3, qm5, qk6, qc6, qd4, ql3, qt8, qt9, qa0, Option.bind_none, qd2, qy5, qp4, Option.join_none, Nat.reduceAdd, Nat.reduceSub, Nat.reduceLeDiff, zj2, zj3, eq_self, Int.reduceNeg, Int.reduceLE, if_true, if_false, ite_true, ite_false, qf1, decide_true, decide_false, zi2, zg8, qw5, qn2, ze8, ze4, qt3, qw4, qu9, zg4, String.reduceBEq, reduceCtorEq])
local macro_rules | `(tactic| walk_at "k") => `(tactic| simp -implicitDefEqProofs only [L2.Ck, L2.EO, L2.kP, L2.f6, L2.Er, L2.cJ, L2.bf, L2.bI, L2.lK, L2.sG, L2.jN, L2.iI, L2.kB_d, L2.kT_d, L2.sFor_d, L2.qb, L2.toT, L2.toD, L2.T.d, L2.kD, L2.vL, L2.vB, L2.d2, L2.tB2, L2.jA, L2.mR, L2.jf, L2.fOr_d, L2.yo, L2.vAnd_d, L2.vOr_d, L2.vIf_d, L2.ae, L2.ab, L2.vTup_d, L2.vLst_d, L2.cz, L2.EQ, L2.iL, L2.ai, L2.lO, L2.ER, L2.vSl, L2.oI, L2.lN, L2.oN, L2.At, L2.oM, L2.qf, L2.fIt, L2.fN, L2.am, L2.dC, L2.c7, L2.gAdd_i, L2.atI_0, L2.atI_1, L2.atI_2, L2.atI_3, L2.atI_4, L2.Eo, L2.gIn_t, L2.ES, L2.ET, L2.eqF_s, L2.eqF_i, qp2, List.all_nil, qi9, List.any_nil, L2.gSub_i, L2.Ci, L2.gMul_r, L2.qH, L2.EN, L2.gMod_w, L2.Ch, L2.gEq_ii, L2.gEq_ss, L2.w6, L2.gNe_ss, L2.vJ, L2.w8, L2.AB, L2.Em, L2.gLen_l, L2.gLen_t, L2.Ep, L2.itD_l, L2.itD_t, L2.truD_b, L2.asB_b, L2.asBl_b, L2.asI_i, qa7, qs9, qe7, qg3, qm5, qk6, qc6, qd4, ql3, qt8, qt9, qa0, Option.bind_none, qd2, qy5, qp4, Option.join_none, Nat.reduceAdd, Nat.reduceSub, Nat.reduceLeDiff, zj2, zj3, eq_self, Int.reduceNeg, Int.reduceLE, if_true, if_false, ite_true, ite_false, qf1, decide_true, decide_false, zi2, zg8, qw5, qn2, ze8, ze4, qt3, qw4, qu9, zg4, String.reduceBEq, reduceCtorEq, L2.xG, L2.Cn, L2.Co, L2.AC, L2.AD, L2.Es, L2.Et, L2.Dc, L2.zt, L2.Cp, L2.xH, L2.zu, L2.AE, L2.zw, L2.AF, L2.Cq, L2.Cr, L2.AG, L2.xI, L2.AH, L2.xJ, L2.xK, L2.zy, L2.xL, L2.zA, L2.AI, L2.AJ, L2.zB, L2.zC, L2.Cs, L2.zD, L2.xM, L2.AK, L2.zE, L2.AL, L2.Ct, L2.Cu, L2.AM, L2.AN, L2.Df, L2.AO, L2.zF, L2.AQ, L2.AR, L2.Cv, L2.Dg, L2.Dh, L2.Cw, L2.xN, L2.Cy, L2.Cz, L2.AS, L2.zG, L2.Di, L2.Dj, L2.CA, L2.AT, L2.Eu, L2.Dk, L2.AU, L2.Dl, L2.zH, L2.Dm, L2.Dn])
namespace P34
open PySem L2
df ms:Mrk->Str
 | .fresh=>"fresh" | .seen=>"seen" | .safe=>"safe" | .spoilt=>"spoilt"
theorem nH:∀ {a b:Mrk},ms a=ms b->a=b:=fun {a b} h=>by cases a<;>cases b<;>first | rfl | (exfalso;revert h;unfold ms;decide +kernel)
theorem Ey (a b:Mrk):decide (ms a=ms b)=decide (a=b):=by rw [decide_eq_decide];exact ⟨nH,fun h=>by rw [h]⟩
theorem Ez (r:Rw) (nm:Str) (x:Option T):tB2 (aY false) (toD (d2 ag (vB 1) \6)) (toD (bj (ab (kD (.str "load")) (ab (kD (.str "take")) ae)))) [x,some (.leaf r.d),some (.leaf (.str nm))]=some (match r with | .load _ _=>true | .take _ _ _=>true | _=>false):=by cases r<;>kernel_rfl
theorem EA (r:Rw) (nm:Str) (x:Option T):tB2 (aY false) (toD (d2 ag (vB 1) \6)) (toD (bj (ab (kD (.str "store")) (ab (kD (.str "lay")) ae)))) [x,some (.leaf r.d),some (.leaf (.str nm))]=some (match r with | .store _ _=>true | .lay _ _ _=>true | _=>false):=by cases r<;>kernel_rfl
theorem EB (r:Rw) (nm:Str) (x:Option T):tB2 #f (toD (d2 ag (vB 1) \6)) (kD (.str "store")) [x,some (.leaf r.d),some (.leaf (.str nm))]=some (match r with | .store _ _=>true | _=>false):=by cases r<;>kernel_rfl
theorem nI (a b:Mrk) (x y:Option T):tB2 #f (vB 0) (kD (.str (ms b))) [some (.leaf (.str (ms a))),x,y]=some (decide (a=b)):=by rw [<- Ey];rfl
theorem sK (m:Mrk) (r:Rw) (nm:Str):y20 [.str (ms m),r.d,.str nm]=some (.leaf (.str (ms (mb m r nm)))):=by
 have q:cH (tB2 #f (vB 0) (kD de)) (cH (tB2 (aY false) (toD (d2 ag (vB 1) \6)) (toD (bj (ab (kD (.str "load")) (ab (kD (.str "take")) ae))))) (tB2 #f (toD (d2 ag (vB 1) #j)) (vB 2))) [some (.leaf (.str (ms m))),some (.leaf r.d),some (.leaf (.str nm))]=some (decide (m=.fresh)&&r.gets nm):=by
  rw [jf,show tB2 #f (vB 0) (kD de) [some (.leaf (.str (ms m))),some (.leaf r.d),some (.leaf (.str nm))]=_ from nI m .fresh _ _];cases decide (m=.fresh)
  . rfl
  . rw [jN,jf,Ez];cases r<;>rfl
 have e2:cH (tB2 #f (vB 0) (kD de)) (cH (tB2 #f (toD (d2 ag (vB 1) \6)) (kD (.str "store"))) (tB2 #f (toD (d2 ag (vB 1) \8)) (vB 2))) [some (.leaf (.str (ms m))),some (.leaf r.d),some (.leaf (.str nm))]=some (decide (m=.fresh)&&r.stores nm):=by
  rw [jf,show tB2 #f (vB 0) (kD de) [some (.leaf (.str (ms m))),some (.leaf r.d),some (.leaf (.str nm))]=_ from nI m .fresh _ _];cases decide (m=.fresh)
  . rfl
  . rw [jN,jf,EB];cases r<;>rfl
 have O:cH (tB2 #f (vB 0) (kD kL)) (cH (tB2 (aY false) (toD (d2 ag (vB 1) \6)) (toD (bj (ab (kD (.str "store")) (ab (kD (.str "lay")) ae))))) (tB2 #f (toD (d2 ag (vB 1) \8)) (vB 2))) [some (.leaf (.str (ms m))),some (.leaf r.d),some (.leaf (.str nm))]=some (decide (m=.seen)&&r.puts nm):=by
  rw [jf,show tB2 #f (vB 0) (kD kL) [some (.leaf (.str (ms m))),some (.leaf r.d),some (.leaf (.str nm))]=_ from nI m .seen _ _];cases decide (m=.seen)
  . rfl
  . rw [jN,jf,EA];cases r<;>rfl
 unfold y20;rw [Ck];show Cj (aG _ _ [some (.leaf (.str (ms m))),some (.leaf r.d),some (.leaf (.str nm))])=_;rw [kP,sG,q];cases h1:(decide (m=.fresh)&&r.gets nm) with
 | true =>
  have:m=.fresh/\r.gets nm=true:=by simpa using h1
  rw [this.1];simp only [mb,this.2,if_true];rfl
 | false =>
  rw [iI,cJ,f6,kP,sG,e2];cases h2:(decide (m=.fresh)&&r.stores nm) with
  | true =>
   have:m=.fresh/\r.stores nm=true:=by simpa using h2
   rw [this.1] at h1 ⊢;simp only [decide_true,qn2] at h1;simp only [mb,this.2,h1,if_true,qf1,if_false];rfl
  | false =>
   rw [iI,cJ,f6,kP,sG,O];cases h3:(decide (m=.seen)&&r.puts nm) with
   | true =>
    have:m=.seen/\r.puts nm=true:=by simpa using h3
    rw [this.1];simp only [mb,this.2,if_true];rfl
   | false =>
    rw [iI,cJ,f6];cases m with
    | fresh =>simp only [decide_true,qn2] at h1 h2;simp only [mb,h1,h2,qf1,if_false];rfl
    | seen =>simp only [decide_true,qn2] at h3;simp only [mb,h3,qf1,if_false];rfl
    | safe=>rfl
    | spoilt=>rfl
theorem qL (n:Nat) (r:Rw):q47 [.int n,r.d]=some (.leaf (.tup ((r.outs n).map dI))):=by cases r<;>kernel_rfl
theorem zK (c s:Dt) (rows:List Rw) (h:rows.length<=1000):kM [.tup [c,s,dR rows]]=some (.lst (rows.mapIdx fun k r=>.tup ((r.outs k).map dI))):=by
 unfold kM;walk_at "k";unfold rX dR;walk_at "k"
 rw [kU (h:=fun k r=>.tup ((r.outs k).map dI)) 0 fun k a=>⟨_,rfl,by unfold z74;walk_at "k";rw [qL];walk_at "k"⟩]
 walk_at "k";rw [cz (by rw [List.length_mapIdx];oo)];walk_at "k";simp
theorem zL (l:List Nat) (x:Nat):((l.map dI).any fun y=>eqF y (dI x))=decide (x∈l):=by
 rw [qi8,List.any_eq_true];constructor
 . rintro ⟨y,O,e⟩;obtain ⟨z,q,rfl⟩:=qd1.mp O;have:(z:Int)=x:=by simpa [dI,eqF] using e
   have:z=x:=by oo
   subst this;exact decide_eq_true q
 . intro h;exact ⟨dI x,qd1.mpr ⟨x,of_decide_eq_true h,rfl⟩,by simp [dI,eqF]⟩
theorem xl (l:List Nat):(l.map dI).all bQ=true:=by rw [qj2];intro y q;obtain ⟨z,O,rfl⟩:=qd1.mp q;rfl
theorem pw {neg:Bool} {l:List Nat} {x:Nat}:aY neg (dI x) (.lst (l.map dI))=some (.leaf (.bl (if neg then !decide (x∈l) else decide (x∈l)))):=by
 show gIn neg (dI x) (.lst (l.map dI))=_;unfold gIn
 have:inD (dI x) (.lst (l.map dI))=some (decide (x∈l)):=by show (if bQ (dI x)&&(l.map dI).all bQ then some ((l.map dI).any fun y=>eqF y (dI x)) else none)=_;rw [xl,zL];rfl
 rw [this];rfl
df kpD (ks:List (Nat×Dt)):Dt:=.tup (ks.map fun p=>.tup [dI p.1,p.2])
theorem sL (b:Dt) (ks:List (Nat×Dt)) (h:ks.length<=1000):q16 [.tup [b,kpD ks]]=some (.lst ((ks.map (·.1)).map dI)):=by unfold q16;walk_at "k";unfold kpD;walk_at "k";rw [bT (h:=fun p:Nat×Dt=>dI p.1) fun p hp=>⟨_,rfl,rfl,by unfold y52;walk_at "k"⟩];walk_at "k";rw [cz (by rw [qa2];oo),qc4];walk_at "k";rfl
df ic (kept:List Nat) (rows:List Rw):List Dt:=rows.mapIdx fun k r=>.lst (((r.outs k).filter fun w=>!decide (w∈kept)).map dI)
theorem q81 (kept outs:List Nat) (O:outs.length<=10):y38 [some (.leaf (.tup (outs.map dI))),some (.leaf (.lst (kept.map dI)))]=some (.lst ((outs.filter fun w=>!decide (w∈kept)).map dI)):=by
 unfold y38;walk_at "k"
 rw [ce (h:=dI) (p:=fun w=>!decide (w∈kept)) fun w q=>⟨_,rfl,by unfold q48;walk_at "k";rw [pw];rfl,fun _=>rfl⟩]
 walk_at "k";rw [cz (by rw [qa2];exact qc3 (qh5 _ _) \3)];walk_at "k"
theorem xm (c s b:Dt) (rows:List Rw) (ks:List (Nat×Dt)) (h:rows.length<=1000) (hk:ks.length<=1000):y18 [.tup [c,s,dR rows],.tup [b,kpD ks]]=some (.lst (ic (ks.map (·.1)) rows)):=by unfold y18;walk_at "k";rw [sL b ks hk];walk_at "k";rw [zK c s rows h];walk_at "k";unfold ic;rw [qz9,qz9,bT (h:=fun p:Rw×Nat=>Dt.lst (((p.1.outs p.2).filter fun w=>!decide (w∈ks.map (·.1))).map dI)) fun p hp=>⟨_,rfl,rfl,q81 _ _ (qc3 (Rw.outs_len _ _) \7)⟩];walk_at "k";rw [cz (by rw [qa2,List.length_zipIdx];oo)];walk_at "k"
structure Hd where
 x:Str
 n:Int
 b:Bool
df hdD (h:Hd):Dt:=.tup [.str h.x,.int h.n,.bl h.b]
theorem sM {α:Type} (f:α->Dt) (cs ss:List α) (q:cs.length+ss.length<=1000):mh (.tup (cs.map f)) (.tup (ss.map f))=some (.leaf (.tup ((cs++ss).map f))):=by
 cases cs with
 | nil=>rfl
 | cons a cs =>
  cases ss with
  | nil=>rw [qh2];rfl
  | cons b ss =>show (if ((a::cs).map f).length+((b::ss).map f).length<=qb2/\(a::cs).map f≠[]/\(b::ss).map f≠[] then _ else none)=_;rw [if_pos ⟨by rw [qa2,qa2];exact small \3,by simp,by simp⟩,qc7];rfl
theorem px (cs ss:List Hd) (R:Dt) (q:cs.length+ss.length<=1000):y13 [.tup [.tup (cs.map hdD),.tup (ss.map hdD),R]]=some (.lst ((((cs++ss).filter fun h=>!h.b).map (·.x)).map .str)):=by
 unfold y13;walk_at "k";rw [sM hdD cs ss q];walk_at "k"
 rw [ce (h:=fun h:Hd=>Dt.str h.x) (p:=fun h=>!h.b) fun h _=>⟨_,rfl,by
  unfold y46 hdD;walk_at "k"
  try rfl,fun _=>by unfold y45 hdD;walk_at "k"⟩]
 walk_at "k";rw [cz (by rw [qa2];exact qc3 (qh5 _ _) (by rw [qa8];oo)),qc4];walk_at "k";rfl
df cV (t:Nat×Mrk):Dt:=.tup [dI t.1,.str (ms t.2)]
variable {rows:List Rw} {i:Nat} {r:Rw}
theorem ie (h:rows[i]?=some r):ag (dR rows) (dI i)=some (.leaf r.d):=by unfold dR dI;rw [AB,bM,qb0,h];rfl
theorem CC {kept:List Nat} (h:rows[i]?=some r):ag (.lst (ic kept rows)) (dI i)=some (.leaf (.lst (((r.outs i).filter fun w=>!decide (w∈kept)).map dI))):=by unfold ic dI;rw [w8,bM,qr5,h];rfl
theorem sN (t:Nat×Mrk):ag (cV t) (.int 0)=some (.leaf (dI t.1)):=by unfold cV;walk_at "k"
theorem AW (t:Nat×Mrk):ag (cV t) (.int 1)=some (.leaf (.str (ms t.2))):=by unfold cV;walk_at "k"
theorem EC {a b:Mrk}:decide (ms a=ms b)=decide (a=b):=by rw [decide_eq_decide];exact ⟨nH,fun h=>by rw [h]⟩
theorem ux {nm:Str} {t:Nat×Mrk} (h:t.1<rows.length):jG 3 bt [.str nm,dR rows] [cV t]=some (.leaf (.bl (f9 rows nm t))):=by
 have q:rows[t.1]?=some rows[t.1]:=gQ h;unfold jG
 show (match bt [some (.leaf (cV t)),some (.leaf (.str nm)),some (.leaf (dR rows))] with
  | some (.rt t)=>some t | some (.nx _)=>some (.leaf .non) | _=>none)=_
 have e:bt [some (.leaf (cV t)),some (.leaf (.str nm)),some (.leaf (dR rows))]=some (.rt (.leaf (.bl (f9 rows nm t)))):=by unfold bt;walk_at "k";rw [AW,sN];walk_at "k";rw [ie q];walk_at "k";rw [sK];unfold iH;walk_at "k";unfold f9;simp only [q];rw [<- EC];rfl
 rw [e]
theorem uy {kept:List Nat} {nm:Str} {t:Nat×Mrk} (h:t.1<rows.length):jG 5 br [.str nm,dR rows,.lst (ic kept rows)] [cV t]=some (.lst ((eF rows kept nm t).map cV)):=by
 have q:rows[t.1]?=some rows[t.1]:=gQ h;unfold jG
 show (match br [some (.leaf (cV t)),none,some (.leaf (.str nm)),some (.leaf (dR rows)),some (.leaf (.lst (ic kept rows)))] with
  | some (.rt t)=>some t | some (.nx _)=>some (.leaf .non) | _=>none)=_
 have e:br [some (.leaf (cV t)),none,some (.leaf (.str nm)),some (.leaf (dR rows)),some (.leaf (.lst (ic kept rows)))]=some (.rt (.lst ((eF rows kept nm t).map cV))):=by
  unfold br;walk_at "k";rw [AW,sN];walk_at "k";rw [ie q];walk_at "k";rw [sK];unfold nA;walk_at "k";unfold eF;simp only [q];generalize O:mb t.2 rows[t.1] nm=m;by_cases e:m=.safe
  . rw [iJ (by simp [e,ms]),if_pos e];walk_at "k"
  . rw [iK (by simp only [decide_eq_false_iff_not];exact fun z=>e (nH (b:=.safe) z)),if_neg e];walk_at "k";rw [sN];walk_at "k";rw [CC q];walk_at "k";rw [bT (h:=fun w:Nat=>cV (w,m)) fun w _=>⟨_,rfl,rfl,by unfold z43 cV;walk_at "k"⟩];walk_at "k";rw [cz (by rw [qa2];exact qc3 (qh5 _ _) (qc3 (Rw.outs_len _ _) \7)),qc4];walk_at "k";rfl
 rw [e]
theorem gd {α β:Type} (f:α->β) (l:List α) (k:Nat) (h:k<l.length) (d:α):atI (l.map f) (k:Int)=some (f (l.getD k d)):=by unfold atI ixN;rw [if_pos \3,qa2,if_pos \3];simp [h]
theorem iO (ns:List Int) (k:Nat):y1 [.lst (ns.map .int),.int k]=some (.leaf (.int (ns.getD k 0))):=by
 unfold y1;walk_at "d";by_cases h:k<ns.length
 . rw [iJ (by simpa using h)];walk_at "d";rw [gd Dt.int ns k h 0];rfl
 . rw [iK (by simpa using h)];walk_at "d";simp [List.getD,show ns.length<=k by oo]
theorem mo (q:Option T) (k:Nat) (hk:k<=1000):∀ (ds:List Nat) (f n:Int) (x4:Option T),-1000000000<=n->n<=10000000000->(∀ j∈ds,j<=100)->∃ O n' y,d6 (am 4) y41 (ds.map dI) [q,some (.leaf (.int k)),some (.leaf (.int f)),some (.leaf (.int n)),x4]=some (.nx [q,some (.leaf (.int k)),some (.leaf (.int O)),some (.leaf (.int n')),y])
 | [],f,n,x4,_,_,_=>⟨f,n,x4,rfl⟩
 | j::ds,f,n,x4,h0,h1,U=>by
  have hj0:=U j (.head _);have Y:=qo9 (n*n+69621*n+(j:Int)) (show (2147483629:Int)≠0 by decide);have a1:=ql0 (n*n+69621*n+(j:Int)) (show (0:Int)<2147483629 by decide);generalize W:(n*n+69621*n+(j:Int))%2147483629=u at Y a1;have b0:=qo9 (u*16807+7919*(j:Int)+(k:Int)) (show (2147483587:Int)≠0 by decide);have Z:=ql0 (u*16807+7919*(j:Int)+(k:Int)) (show (0:Int)<2147483587 by decide);generalize hv:(u*16807+7919*(j:Int)+(k:Int))%2147483587=v at b0 Z;obtain ⟨O,n',y,e⟩:=mo q k hk ds (f*2147483587+v) v (some (.leaf (dI j))) \3 \3 fun i hi=>U i (.tail _ hi)
  refine ⟨O,n',y,?_⟩;rw [qa7,cN (δ1:=[q,some (.leaf (.int k)),some (.leaf (.int f)),some (.leaf (.int n)),some (.leaf (dI j))]) (δ2:=[q,some (.leaf (.int k)),some (.leaf (.int (f*2147483587+v))),some (.leaf (.int v)),some (.leaf (dI j))]) rfl ?_]
  . exact e
  . unfold y41 dI;walk_at "d";rw [Ci (i:=n) (j:=n) \3 \3];walk_at "d";rw [W,hv]
theorem bK {i j:Int} (q:0<j) (h1:j<10000000000000):ci (.int i) (.int j)=some (.leaf (.int (i/j))):=if_pos ⟨q,by oo⟩
theorem sO (c:Int) (k:Nat) (hk:k<=1000):∃ v:Int,z16 [.int c,.int k]=some (.leaf (.int v)):=by
 have Y:=qo9 c (show (2147483629:Int)≠0 by decide);have W:=ql0 c (show (0:Int)<2147483629 by decide);obtain ⟨U,n',y,e⟩:=mo (some (.leaf (.int c))) k hk (qc1 15) 0 (c%2147483629+48271*(k:Int)+11) none \3 \3 fun j q=>by have:=qd5.mp q;oo
 have O:dq 0 15=(qc1 15).map dI:=by unfold dq dI;simp
 refine ⟨U,?_⟩;unfold z16;walk_at "d";rw [xa \7,qa0,show (15:Int).toNat=15 from rfl,O,e];walk_at "d"
theorem kZ (ns:List Int) (k:Nat) (hk:k<=1000):∃ v:Int,z11 [.lst (ns.map .int),.int k]=some (.leaf (.int v)):=by
 unfold z11;walk_at "d";rw [show (Dt.int 0)=.int ((0:Nat):Int) from rfl,iO];walk_at "d";by_cases h:ns.getD 0 0%2=0
 . rw [iJ (by simpa using h)];walk_at "d";rw [iO];exact ⟨_,rfl⟩
 . rw [iK (by simpa using h)];walk_at "d";rw [iO];walk_at "d";obtain ⟨v,e⟩:=sO (ns.getD k 0) k hk;rw [e];exact ⟨_,rfl⟩
theorem ju (q:Option T):∀ (zs:List Nat) (n:Int) (done:List Nat) (O:Option T),(∀ z∈zs,0<z/\z<10000000000000)->done.length+zs.length<=100->∃ (n':Int) (ds:List Nat) (y:Option T),d6 (am 3) z36 (zs.map dI) [some (.leaf (.int n)),q,some (.lst (done.map dI)),O]=some (.nx [some (.leaf (.int n')),q,some (.lst ((done++ds).map dI)),y])/\ds.length=zs.length/\∀ (i d z:Nat),ds[i]?=some d->zs[i]?=some z->d<z
 | [],n,done,O,_,_=>⟨n,[],O,by simp [d6],rfl,fun i d z h=>by simp at h⟩
 | z::zs,n,done,O,W,U=>by
  obtain ⟨h0,h1⟩:=W z (.head _);have m0:=qo9 n (show (z:Int)≠0 by oo);have m1:=ql0 n (show (0:Int)<z by oo);obtain ⟨d,Z⟩:∃ d:Nat,n%(z:Int)=(d:Int):=⟨(n%(z:Int)).toNat,by oo⟩;obtain ⟨n',ds,y,e,el,Y⟩:=ju q zs (n/z) (done++[d]) (some (.leaf (dI z))) (fun w hw=>W w (.tail _ hw)) (by simp at U ⊢;oo);refine ⟨n',d::ds,y,?_,by simp [el],fun i d' z' h1 h2=>?_⟩
  . rw [qa7,cN (δ1:=[some (.leaf (.int n)),q,some (.lst (done.map dI)),some (.leaf (dI z))]) (δ2:=[some (.leaf (.int (n/z))),q,some (.lst ((done++[d]).map dI)),some (.leaf (dI z))]) rfl ?_]
    . rw [e];simp
    . unfold z36 dI;walk_at "d";rw [mm rfl];walk_at "d";rw [qH \3,Z];walk_at "d";rw [iL (by rw [qa2];simp at U;oo)];walk_at "d";rw [bK \3 \3];walk_at "d";simp [dI]
  . cases i with
    | zero =>simp at h1 h2;subst h1 h2;oo
    | succ i=>exact Y i d' z' (by simpa using h1) (by simpa using h2)
theorem eI (n:Int) (zs:List Nat) (q:∀ z∈zs,0<z/\z<10000000000000) (W:zs.length<=50):∃ ds:List Nat,y2 [.int n,.lst (zs.map dI)]=some (.lst (ds.map dI))/\ds.length=zs.length/\∀ (i d z:Nat),ds[i]?=some d->zs[i]?=some z->d<z:=by obtain ⟨n',ds,y,e,U,O⟩:=ju (some (.leaf (.lst (zs.map dI)))) zs n [] none q (by simp;oo);refine ⟨ds,?_,U,O⟩;unfold y2;walk_at "d";rw [show ([]:List Dt)=([]:List Nat).map dI from rfl,e];walk_at "d"
df letters:Str:="abcdefghijklmnopqrstuvwxyz"
theorem pz:letters.length=26:=by decide +kernel
df sgN (i:Nat):Nat:=letters.cps.toList.getD i 0
theorem xn (i:Nat) (h1:i<26):ag (.str letters) (.int i)=some (.leaf (.str ⟨#[sgN i]⟩)):=by
 have q:letters.cps.toList.length=26:=by decide +kernel
 rw [w9 (by rw [pz];exact small \7),bM,gQ \3];unfold sgN;rw [qb3,gQ \3];rfl
theorem zM:∀ i<26,∀ j<26,sgN i=sgN j->i=j:=by decide +kernel
theorem CD:∀ i<26,qh7 letters ⟨#[sgN i]⟩ 0 letters.length 1=[i]:=by decide +kernel
theorem uz (i:Nat) (h:i<26):dH (.str letters) [.str ⟨#[sgN i]⟩]=some (.leaf (.int i)):=by unfold dH;dsimp only;rw [CD i h];rfl
df wd (base:List Nat) (e:Nat):Str:=⟨(base++[sgN e]).toArray⟩
theorem xp (base:List Nat) (e:Nat):(wd base e).length=base.length+1:=by show ((base++[sgN e]).toArray).size=_;simp
variable {base:List Nat} {j:Nat}
theorem CG (hi:i<26) (q:j<26) (h:wd base i=wd base j):i=j:=by have e:=congrArg (fun s:Str=>s.cps.toList) h;simp only [wd] at e;have e:=List.append_cancel_left e;exact zM i hi j q (by simpa using e)
theorem pB:∀ (l m:List Nat),(qc1 l.length).filterMap (fun i=>(l++m)[i]?)=l
 | [],m=>rfl
 | a::l,m=>by rw [qe7,qu0,qs4];simp only [qm5,qd4,List.filterMap_map];congr 1;exact pB l m
theorem CI:∀ n<10,qi7.Str.strSliceIndices none (some (-1)) 1 (n+1)=qc1 n:=by decide +kernel
theorem CJ (base:List Nat) (e:Nat) (h:base.length<10):gSl (.str (wd base e)) none (some (-1))=some (.leaf (.str ⟨base.toArray⟩)):=by
 have O:=xp base e;unfold gSl;dsimp only;rw [if_pos (small \3)];unfold Txt.slice;rw [O,CI _ h,if_neg \5];have:=pB base [sgN e]
 have q:(qc1 base.length).filterMap (fun i=>(wd base e).cps[i]?)=base:=by refine Eq.trans ?_ this;congr 1;funext i;unfold wd;simp
 rw [q]
theorem zN (base:List Nat) (e:Nat) (h:base.length<10):ag (.str (wd base e)) (.int (-1))=some (.leaf (.str ⟨#[sgN e]⟩)):=by
 rw [w9 (by rw [xp];exact small \3)];have:(wd base e).cps.toList=base++[sgN e]:=by unfold wd;simp
 rw [this];unfold atI ixN;rw [if_neg \7,if_pos (by simp;oo)];simp only [qa0,qa8,qh3];rw [show ((-1:Int)+((base.length+1:Nat):Int)).toNat=base.length by oo];simp
theorem CK (base:List Nat) (e:Nat) (h:base.length<10):bB (.str ⟨base.toArray⟩) (.str ⟨#[sgN e]⟩)=some (.leaf (.str (wd base e))):=by rw [Cg (small (by show base.toArray.size+1<=_;simp;oo))];congr 3;show (⟨base.toArray++#[sgN e]⟩:Str)=_;unfold wd;simp
variable {n m:Dt} {fd:List Str} {x4:Option T}
theorem uA {e:Nat} (h:base.length<10) (q:e<26) :
  q32 [some (.leaf n),some (.leaf m),some (.leaf (.str letters)),some (.lst (fd.map .str)),x4,some (.leaf (.str (wd base e)))]=some (.nx [some (.leaf n),some (.leaf m),some (.leaf (.str letters)),some (.lst (fd.map .str)),x4,some (.leaf (.str (wd base ((e+1)%26))))]):=by
 unfold q32;walk_at "d";rw [show (-(1:Int))=-1 from rfl,zN base e h];walk_at "d";rw [CJ base e h,uz e q];walk_at "d";rw [show ((e:Int)+1)%26=(((e+1)%26:Nat):Int) by oo,xn _ (qx3 _ \7)];walk_at "d";rw [CK _ _ h];walk_at "d"
theorem uB {w:Str}:q18 [some (.leaf n),some (.leaf m),some (.leaf (.str letters)),some (.lst (fd.map .str)),x4,some (.leaf (.str w))]=some (decide (w∈fd)):=by unfold q18;walk_at "d";rw [kW];rfl
theorem AX {n m:Dt} {fd:List Str} {x4:Option T} {e0:Nat} (h:base.length<10) (hf:fd.length<=12):∀ (d s O:Nat),s+d=13->d<O->(∀ t,t<s->wd base ((e0+t)%26)∈fd)→
  ∃ e,e<26/\wd base e∉fd/\dL q18 q32 O [some (.leaf n),some (.leaf m),some (.leaf (.str letters)),some (.lst (fd.map .str)),x4,some (.leaf (.str (wd base ((e0+s)%26))))]=some (.nx [some (.leaf n),some (.leaf m),some (.leaf (.str letters)),some (.lst (fd.map .str)),x4,some (.leaf (.str (wd base e)))])
 | 0,s,O,hs,_,Y=>by
  exfalso
  have hl:((qc1 s).map fun t=>wd base ((e0+t)%26)).length<=fd.length:=cj (by
   rw [qh8,qr3];refine List.pairwise_iff_getElem.mpr fun i j hi hj hij q=>?_
   simp only [qu7] at hi hj;simp only [List.getElem_range] at q;have:=CG (qx3 _ \7) (qx3 _ \7) q;oo) fun x U=>by
   obtain ⟨t,ht,rfl⟩:=qd1.mp U;exact Y t (qd5.mp ht)
  simp at hl;oo
 | d+1,s,0,hs,Z,Y=>by oo
 | d+1,s,O+1,hs,Z,Y=>by
  have W:=uB (n:=n) (m:=m) (fd:=fd) (x4:=x4) (w:=wd base ((e0+s)%26));by_cases U:wd base ((e0+s)%26)∈fd
  . obtain ⟨e,h1,h2,h3⟩:=AX (n:=n) (m:=m) (x4:=x4) (e0:=e0) h hf d (s+1) O \3 \3 fun t ht=>by
     by_cases q:t=s
     . rw [q];exact U
     . exact Y t \3
    refine ⟨e,h1,h2,?_⟩;rw [decide_eq_true U] at W;show ((q18 _).bind fun b=>_)=_;rw [W,qa0,if_pos rfl,uA h (qx3 _ \7),qa0];dsimp only;rw [show ((e0+s)%26+1)%26=(e0+(s+1))%26 by oo];exact h3
  . refine ⟨_,qx3 _ \7,U,?_⟩;rw [decide_eq_false U] at W;show ((q18 _).bind fun b=>_)=_;rw [W];rfl
theorem cq (k:Nat):dq 0 k=(qc1 k).map dI:=by unfold dq dI;simp
theorem CL {ds:List Nat} (O:ds.length=7) (q:∀ i,0<i->i<7->ds.getD i 0<26) (i:Nat) (hi:i<6):q31 [some (.leaf (dI i)),some (.leaf (.str letters)),some (.leaf (.lst (ds.map dI)))]=some (.str ⟨#[sgN (ds.getD (1+i) 0)]⟩):=by unfold q31;walk_at "d";unfold dI;walk_at "d";rw [show (1:Int)+(i:Int)=((1+i:Nat):Int) by oo,gd (fun j:Nat=>Dt.int (j:Int)) ds (1+i) \3 0];walk_at "d";rw [xn _ (q (1+i) \3 \3)];walk_at "d"
theorem uC (n:Int) (m:Dt) (fd:List Str) (hf:fd.length<=12) (x4 x5:Option T):∃ (n':Int) (w:Str) (y4:Option T),w∉fd/\y31 [some (.leaf (.int n)),some (.leaf m),some (.leaf (.str letters)),some (.lst (fd.map .str)),x4,x5]=some (.nx [some (.leaf (.int n')),some (.leaf m),some (.leaf (.str letters)),some (.lst ((fd++[w]).map .str)),y4,some (.leaf (.str w))]):=by
 obtain ⟨ds,e,el,ed⟩:=eI n [6,26,26,26,26,26,26] (by intro z hz;simp at hz;oo) \5;have hl:ds.length=7:=el
 have Z:∀ i,i<7->ds[i]?=some (ds.getD i 0):=fun i hi=>by rw [qb3,gQ \3];rfl
 have h0:ds.getD 0 0<6:=ed 0 _ 6 (Z 0 \3) rfl
 have hd:∀ i,0<i->i<7->ds.getD i 0<26:=fun i hi W=>ed i _ 26 (Z i W) (by
  have q:i=1∨i=2∨i=3∨i=4∨i=5∨i=6:=by oo
  rcases q with rfl | rfl | rfl | rfl | rfl | rfl<;>rfl)
 generalize Y:ds.getD 0 0=d0 at h0;have he0:=hd (1+d0) \3 \3;generalize O:(qc1 d0).map (fun i=>sgN (ds.getD (1+i) 0))=base;have hbl:base.length=d0:=by rw [<- O];simp
 have hcs:((qc1 (d0+1)).map fun i=>sgN (ds.getD (1+i) 0))=base++[sgN (ds.getD (1+d0) 0)]:=by rw [qy3,qc7,O];rfl
 obtain ⟨e',h1,h2,h3⟩:=AX (n:=.int (n/1853494656)) (m:=m) (fd:=fd) (x4:=some (.leaf (.lst (ds.map dI)))) (base:=base) (e0:=ds.getD (1+d0) 0) \3 hf 13 0 100000 \3 \3 (fun t ht=>by oo);rw [Nat.add_zero,Nat.mod_eq_of_lt he0] at h3;refine ⟨n/1853494656,wd base e',some (.leaf (.lst (ds.map dI))),h2,?_⟩;have ec:=bT (bb:=am 0) (ft:=c7) (fe:=q31) (δ:=[none,some (.leaf (.str letters)),some (.leaf (.lst (ds.map dI)))]) (f:=dI) (h:=fun i=>.str ⟨#[sgN (ds.getD (1+i) 0)]⟩) (l:=qc1 (d0+1)) fun i hi=>⟨_,rfl,rfl,CL hl hd i (by have:=qd5.mp hi;oo)⟩
 have es:(qc1 (d0+1)).map (fun i=>Dt.str ⟨#[sgN (ds.getD (1+i) 0)]⟩)=sgD (base++[sgN (ds.getD (1+d0) 0)]):=by rw [<- hcs];unfold sgD;rw [qc4];rfl
 rw [es] at ec
 have U:(ds.map dI)[0]?=some (.int (d0:Int)):=by rw [qb0,Z 0 \3,Y];rfl
 unfold y31;walk_at "d";rw [show Dt.lst [.int 6,.int 26,.int 26,.int 26,.int 26,.int 26,.int 26]=.lst (([6,26,26,26,26,26,26]:List Nat).map dI) from rfl,e];walk_at "d";rw [U];walk_at "d";rw [show (1:Int)+(d0:Int)=((d0+1:Nat):Int) by oo,fZ \3,qa0,cq,ec,qa0,cz (by unfold sgD;simp;oo)];walk_at "d";rw [show qa1 ""=("":Str) from rfl,xc (by simp;oo)];walk_at "d";rw [qI (show lL 26 6=true by decide +kernel)];walk_at "d";rw [show (6:Int)*26^(6:Int).toNat=1853494656 from by decide +kernel,bK \7 \7];walk_at "d";rw [show (⟨(base++[sgN (ds.getD (1+d0) 0)]).toArray⟩:Str)=wd base (ds.getD (1+d0) 0) from rfl,h3];walk_at "d";rw [mm rfl];walk_at "d";rw [iL (by rw [qa2];oo)];walk_at "d";simp
theorem pE (m:Nat) (hm:m<=12):∀ (d O:Nat) (n:Int) (fd:List Str) (x4 U:Option T),fd.length+d=m->d<O->fd.Nodup->∃ (B:List Str) (n':Int) (y4 y5:Option T),B.Nodup/\B.length=m/\dL y17 y31 O [some (.leaf (.int n)),some (.leaf (.int m)),some (.leaf (.str letters)),some (.lst (fd.map .str)),x4,U]=some (.nx [some (.leaf (.int n')),some (.leaf (.int m)),some (.leaf (.str letters)),some (.lst (B.map .str)),y4,y5])
 | d,0,n,fd,x4,U,h1,h2,Z=>by oo
 | d,O+1,n,fd,x4,U,h1,h2,Z=>by
  have W:y17 [some (.leaf (.int n)),some (.leaf (.int m)),some (.leaf (.str letters)),some (.lst (fd.map .str)),x4,U]=some (decide (fd.length<m)):=by
   unfold y17;walk_at "d";rw [qa2];congr 1;by_cases q:fd.length<m
   . rw [decide_eq_true q,decide_eq_true \3]
   . rw [decide_eq_false q,decide_eq_false \3]
  cases d with
  | zero =>refine ⟨fd,n,x4,U,Z,by oo,?_⟩;rw [decide_eq_false \3] at W;show ((y17 _).bind fun b=>_)=_;rw [W];rfl
  | succ d =>
   obtain ⟨n',w,y4,hw,e⟩:=uC n (.int m) fd \3 x4 U
   obtain ⟨B,n2,z4,z5,Y,hB,e2⟩:=pE m hm d O n' (fd++[w]) y4 (some (.leaf (.str w))) (by simp;oo) \3 (by rw [qf4];exact ⟨Z,by simp,fun a ha c hc q=>hw (by rw [qb9.mp hc] at q;exact q▸ha)⟩)
   refine ⟨B,n2,z4,z5,Y,hB,?_⟩;rw [decide_eq_true \3] at W;show ((y17 _).bind fun b=>_)=_;rw [W,qa0,if_pos rfl,e,qa0];exact e2
theorem pF (n:Int) (m:Nat) (q:m<=12):∃ B:List Str,z18 [.int n,.int m]=some (.lst (B.map .str))/\B.length=m/\B.Nodup:=by obtain ⟨B,n',Y,W,O,U,e⟩:=pE m q m 100000 n [] none none \5 \3 qv0;refine ⟨B,?_,U,O⟩;unfold z18;walk_at "d";rw [show qa1 "abcdefghijklmnopqrstuvwxyz"=letters from rfl,show ([]:List Dt)=([]:List Str).map .str from rfl,e];walk_at "d"
theorem pw41:jC (.int 2) (.int 41)=some (.leaf (.int 2199023255552)):=by rw [qI \2];rfl
theorem qM:wide=1099511627776:=nB
theorem sP {th:List Str} {k:Nat} (h:k<th.length):atI (th.map Dt.str) (k:Int)=some (.str (th.getD k "")):=gd Dt.str th k h ""
df ceH (th:List Str) (q:Int) (k:Nat):Hd:=⟨th.getD k "",q%1099511627776,decide (q/1099511627776%2=1)⟩
df shH (th:List Str) (q:Int) (k:Nat):Hd:=⟨th.getD (8+k) "",1+q%8,decide (q/8%2=1)⟩
theorem k5 (W U Z x4 Y:Option T) (th:List Str) (hth:th.length=12):∀ (ks:List Nat) (done:List Hd) (q:Int) (x7:Option T),(∀ k∈ks,k<12)->done.length+ks.length<=100→
  ∃ (hs:List Hd) (O:Int) (y7:Option T),d6 (am 7) z39 (ks.map dI) [W,some (.leaf (.int q)),U,Z,x4,some (.leaf (dS th)),some (.lst (done.map hdD)),x7,Y]=some (.nx [W,some (.leaf (.int O)),U,Z,x4,some (.leaf (dS th)),some (.lst ((done++hs).map hdD)),y7,Y])/\hs.map (·.x)=ks.map (fun k=>th.getD k "")/\∀ h∈hs,0<=h.n/\h.n<1099511627776
 | [],done,q,x7,_,_=>⟨[],q,x7,by simp [d6],rfl,fun h hh=>by cases hh⟩
 | k::ks,done,q,x7,hk,hl=>by
  have hk0:=hk k (.head _);obtain ⟨hs,O,y7,e,e1,e2⟩:=k5 W U Z x4 Y th hth ks (done++[ceH th q k]) (q/2199023255552) (some (.leaf (dI k))) (fun j hj=>hk j (.tail _ hj)) (by simp at hl ⊢;oo);refine ⟨ceH th q k::hs,O,y7,?_,by simp only [qa7,e1];rfl,fun h hh=>?_⟩
  . rw [qa7,cN (δ1:=[W,some (.leaf (.int q)),U,Z,x4,some (.leaf (dS th)),some (.lst (done.map hdD)),some (.leaf (dI k)),Y]) (δ2:=[W,some (.leaf (.int (q/2199023255552))),U,Z,x4,some (.leaf (dS th)),some (.lst ((done++[ceH th q k]).map hdD)),some (.leaf (dI k)),Y]) rfl ?_]
    . rw [e,qf0];rfl
    . unfold z39 dI dS;walk_at "d";rw [mm rfl];walk_at "d";rw [sP \3];walk_at "d";rw [qM,bK \7 \7];walk_at "d";rw [iL (by rw [qa2];simp at hl;oo)];walk_at "d";rw [pw41];walk_at "d";rw [bK \7 \7];walk_at "d";rw [qc7];rfl
  . rcases qb6.mp hh with rfl | hh
    . exact ⟨qo9 _ \7,ql0 _ \7⟩
    . exact e2 h hh
theorem iP (W U Y x4 x6:Option T) (th:List Str) (hth:th.length=12):∀ (ks:List Nat) (done:List Hd) (q:Int) (x7:Option T),(∀ k∈ks,k<4)->done.length+ks.length<=100→
  ∃ (Z:List Hd) (O:Int) (y7:Option T),d6 (am 7) q39 (ks.map dI) [W,some (.leaf (.int q)),U,Y,x4,some (.leaf (dS th)),x6,x7,some (.lst (done.map hdD))]=some (.nx [W,some (.leaf (.int O)),U,Y,x4,some (.leaf (dS th)),x6,y7,some (.lst ((done++Z).map hdD))])/\Z.map (·.x)=ks.map (fun k=>th.getD (8+k) "")/\∀ h∈Z,1<=h.n/\h.n<=8
 | [],done,q,x7,_,_=>⟨[],q,x7,by simp [d6],rfl,fun h hh=>by cases hh⟩
 | k::ks,done,q,x7,hk,hl=>by
  have hk0:=hk k (.head _);have m0:=qo9 q (show (8:Int)≠0 by decide);have m1:=ql0 q (show (0:Int)<8 by decide);obtain ⟨Z,O,y7,e,e1,e2⟩:=iP W U Y x4 x6 th hth ks (done++[shH th q k]) (q/16) (some (.leaf (dI k))) (fun j hj=>hk j (.tail _ hj)) (by simp at hl ⊢;oo);refine ⟨shH th q k::Z,O,y7,?_,by simp only [qa7,e1];rfl,fun h hh=>?_⟩
  . rw [qa7,cN (δ1:=[W,some (.leaf (.int q)),U,Y,x4,some (.leaf (dS th)),x6,some (.leaf (dI k)),some (.lst (done.map hdD))]) (δ2:=[W,some (.leaf (.int (q/16))),U,Y,x4,some (.leaf (dS th)),x6,some (.leaf (dI k)),some (.lst ((done++[shH th q k]).map hdD))]) rfl ?_]
    . rw [e,qf0];rfl
    . unfold q39 dI dS;walk_at "d";rw [mm rfl];walk_at "d";rw [show (8:Int)+(k:Int)=((8+k:Nat):Int) by oo,sP \3];walk_at "d";rw [bK \7 \7];walk_at "d";rw [iL (by rw [qa2];simp at hl;oo)];walk_at "d";rw [bK \7 \7];walk_at "d";rw [qc7];rfl
  . rcases qb6.mp hh with rfl | hh
    . exact ⟨by show 1<=1+q%8;oo,by show 1+q%8<=8;oo⟩
    . exact e2 h hh
structure Wld (B:List Str) (cs ss:List Hd):Prop where
 b0:0<B.length
 b1:B.length<=12
 nd:B.Nodup
 c1:cs.length<=8
 s1:ss.length<=4
 hn:((cs++ss).map (·.x)).Nodup
 cn:∀ h∈cs,0<=h.n/\h.n<1099511627776
 sn:∀ h∈ss,1<=h.n/\h.n<=8
df wD (B:List Str) (cs ss:List Hd) (rest:Int):Dt:=.tup [dS B,.tup (cs.map hdD),.tup (ss.map hdD),.int rest]
theorem xq (ns:List Int):∃ (B:List Str) (cs ss:List Hd) (rest:Int),q14 [.lst (ns.map .int)]=some (.leaf (wD B cs ss rest))/\Wld B cs ss:=by
 obtain ⟨v3,e3⟩:=kZ ns 3 \3;obtain ⟨v2,e2⟩:=kZ ns 2 \3;obtain ⟨v1,e1⟩:=kZ ns 1 \3;obtain ⟨ds,ed,el,hd⟩:=eI v3 [9,5,12] (by intro z hz;simp at hz;oo) \5;have hl:ds.length=3:=el
 obtain ⟨a,b,c,rfl⟩:∃ a b c,ds=[a,b,c]:=by
  match ds,hl with
  | [a,b,c],_=>exact ⟨a,b,c,rfl⟩
 have ha:a<9:=hd 0 a 9 rfl rfl;have hb:b<5:=hd 1 b 5 rfl rfl;have hc:c<12:=hd 2 c 12 rfl rfl;obtain ⟨k,hk,ek⟩:=kQ (ns.getD 0 0/2) (n:=3) \7
 obtain ⟨Z,et⟩:∃ Z:Int,∃ j:Nat,z11 [.lst (ns.map .int),.int j]=some (.leaf (.int Z))/\atI [Dt.int 1,Dt.int 1,Dt.int 2] (k:Int)=some (.int j):=by
  have q:k=0∨k=1∨k=2:=by oo
  rcases q with rfl | rfl | rfl
  . exact ⟨v1,1,e1,rfl⟩
  . exact ⟨v1,1,e1,rfl⟩
  . exact ⟨v2,2,e2,rfl⟩
 obtain ⟨j,et,ej⟩:=et;obtain ⟨th,en,W,ndt⟩:=pF Z 12 \3;obtain ⟨B,eB,hB,ndB⟩:=pF v2 (1+c) \3;obtain ⟨cs,n1,y7,ec,U,hc2⟩:=k5 (some (.leaf (.lst (ns.map .int)))) (some (.leaf (.int a))) (some (.leaf (.int b))) (some (.leaf (.int c))) none th W (qc1 a) [] (v3/540) none (fun k hk=>by have:=qd5.mp hk;oo) (by simp;oo);obtain ⟨ss,n2,z7,es,O,hs2⟩:=iP (some (.leaf (.lst (ns.map .int)))) (some (.leaf (.int a))) (some (.leaf (.int b))) (some (.leaf (.int c))) (some (.lst (cs.map hdD))) th W (qc1 b) [] n1 y7 (fun k hk=>by have:=qd5.mp hk;oo) (by simp;oo);have lc:cs.length=a:=by have:=congrArg qx8 U;simpa using this
 have ls:ss.length=b:=by have:=congrArg qx8 O;simpa using this
 refine ⟨B,cs,ss,n2,?_,⟨by oo,by oo,ndB,by oo,by oo,?_,hc2,hs2⟩⟩
 . have e3':z11 [.lst (ns.map .int),.int 3]=some (.leaf (.int v3)):=e3;have e2':z11 [.lst (ns.map .int),.int 2]=some (.leaf (.int v2)):=e2;have c0':y1 [.lst (ns.map .int),.int 0]=some (.leaf (.int (ns.getD 0 0))):=iO ns 0;have en':z18 [.int Z,.int 12]=some (.lst (th.map .str)):=en;have ed':y2 [.int v3,.lst [.int 9,.int 5,.int 12]]=some (.lst [.int a,.int b,.int c]):=ed;have ek':ns.getD 0 0/2%3=(k:Int):=ek;unfold q14;walk_at "d";rw [e3'];walk_at "d";rw [ed'];walk_at "d";unfold oU aR fB;walk_at "d";simp only [qs2,if_true];walk_at "d";rw [bK \7 \7];walk_at "d";rw [c0'];walk_at "d";rw [bK \7 \7];walk_at "d";rw [ek',ej];walk_at "d";rw [et];walk_at "d";rw [en'];walk_at "d";rw [fZ \3,qa0,cq];rw [show (Dt.lst (th.map .str))=dS th from rfl,show (([]:List Dt))=([]:List Hd).map hdD from rfl,ec];walk_at "d";rw [fZ \3,qa0,cq];rw [show (([]:List Dt))=([]:List Hd).map hdD from rfl,es];walk_at "d";rw [e2'];walk_at "d";rw [show (1:Int)+(c:Int)=((1+c:Nat):Int) by oo,eB];walk_at "d";rfl
 . rw [qc7,U,O]
   have e:(qc1 a).map (fun k=>th.getD k "")++(qc1 b).map (fun k=>th.getD (8+k) "")=((qc1 a)++(qc1 b).map (8 + ·)).map (fun k=>th.getD k ""):=by rw [qc7,qc4];rfl
   rw [e,qh8,qr3]
   have nd2:((qc1 a)++(qc1 b).map (8 + ·)).Nodup:=by
    rw [qf4];refine ⟨List.nodup_range,?_,fun x Y y hy q=>?_⟩
    . rw [qh8,qr3];exact zb0 (fun {a b} (z:a≠b) q=>z (Nat.add_left_cancel q)) List.nodup_range
    . have:=qd5.mp Y;obtain ⟨w,_,rfl⟩:=qd1.mp hy;oo
   refine List.Pairwise.imp_of_mem (fun {x y} Y hy (z:x≠y) q=>z ?_) nd2
   have lt:∀ x,x∈(qc1 a)++(qc1 b).map (8 + ·)->x<12:=fun x Y=>by
    rcases qg2.mp Y with h | h
    . have:=qd5.mp h;oo
    . obtain ⟨w,hw,rfl⟩:=qd1.mp h;have:=qd5.mp hw;oo
   have hx2:=lt x Y;have hy2:=lt y hy;rw [qb3,qb3,gQ \3,gQ \3] at q;exact (List.getElem_inj ndt).mp (by simpa using q)
local macro_rules | `(tactic| walk_at "l") => `(tactic| simp only [zj3, zj2, Int.reduceSub, decide_true, decide_false, qt3, qw4, Bool.or_self, ze8, ze4, zi2, zg8, Int.reduceToNat, qd2, qa0])
df AtB (B:List Str) (a:Atm):Prop:=∀ x,a=.nm x->x∈B
theorem nJ {B:List Str} {v:Nat} (U:B.length<=100) (O:j<B.length+1):∃ a:Atm,AtB B a/\((bB (.lst (B.map .str)) (.lst [.int v])).map T.d).bind (fun x=>ag x (.int j))=some (.leaf a.d):=by
 rw [wW (small (by simp;oo))];show ∃ a:Atm,AtB B a/\ag (.lst (B.map .str++[.int v])) (.int j)=some (.leaf a.d);rw [w8,bM];by_cases h:j<B.length
 . refine ⟨.nm (B.getD j ""),fun x q=>?_,?_⟩
   . cases q;rw [qb3,gQ h];exact qg5 _
   . rw [qa5 (by simpa using h),qb0,qk8 h,qb3,qk8 h];rfl
 . refine ⟨.vl v,fun x q=>(by cases q),?_⟩;rw [qc5 (by simpa using h)];have:j-(B.map Dt.str).length=0:=by simp;oo
   rw [this];rfl
theorem pG (xs:List (Option T)):∀ (zs:List Nat) (n:Int) (O:Option T),(∀ z∈zs,0<z/\z<10000000000000)->xs.length=13->∀ r,∃ (n':Int) (y:Option T),d6 (am 14) y44 (zs.map dI) (some (.leaf (.int n))::(xs++O::r))=some (.nx (some (.leaf (.int n'))::(xs++y::r)))
 | [],n,O,_,_,r=>⟨n,O,rfl⟩
 | z::zs,n,O,U,W,r=>by
  obtain ⟨Z,h1⟩:=U z (.head _);obtain ⟨n',y,e⟩:=pG xs zs (n/z) (some (.leaf (dI z))) (fun w Y=>U w (.tail _ Y)) W r;refine ⟨n',y,?_⟩;rw [qa7,cN (δ1:=some (.leaf (.int n))::(xs++some (.leaf (dI z))::r)) (δ2:=some (.leaf (.int (n/z)))::(xs++some (.leaf (dI z))::r)) ?_ ?_]
  . exact e
  . unfold am;rw [qt9,qn6 _ _ \3];rw [show 13-xs.length=0 by oo];rfl
  . have q:(some (T.leaf (Dt.int n))::(xs++some (T.leaf (dI z))::r))[14]?=some (some (.leaf (dI z))):=by rw [ql3,gR \3,show 13-xs.length=0 by oo];rfl
    unfold y44 bf toT toD d2 vB;simp only [q,qd4,qa0,T.d];unfold dI;rw [bK \3 \3];rfl
df RwN (cs ss:List Hd):Rw->Prop
 | .load _ c=>c∈cs.map (·.x)
 | .store c _=>c∈cs.map (·.x)
 | .take _ f _=>f∈ss.map (·.x)
 | .lay f _ _=>f∈ss.map (·.x)
 | _=>True
df RwB (cs ss:List Hd) (many:Nat) (r:Rw):Prop:=RwN cs ss r/\∀ g,(∃ a,r=.iff a g)∨r=.go g->g<many
theorem CM (n:Nat):qy [.int 1,.int n]=some (.leaf (.int ((max 1 n:Nat):Int))):=by
 show some (T.leaf (Dt.int (if (1:Int)<n then (n:Int) else 1)))=_;by_cases h:1<n
 . rw [if_pos \3];congr 3;oo
 . rw [if_neg \3];congr 3;oo
theorem pH:∀ cs:List Hd,deeps (cs.map hdD)<=5
 | []=>by simp [deeps]
 | h::cs=>by have:=pH cs;simp only [qa7,deeps,hdD,cF] at this ⊢;oo
theorem jv (cs:List Hd):gEq true (.tup (cs.map hdD)) (.tup [])=some (.leaf (.bl (!cs.isEmpty))):=by
 rw [nC (b:=peqs (cs.map hdD) []) (w4 (by have:=pH cs;rw [decide_eq_true \3];cases cs<;>simp [cmpbs]))]
 cases cs<;>rfl
theorem sQ {cs:List Hd} {c:Nat} (h:c<cs.length):∃ (x:Str) (n:Int) (t:Bool),atI (cs.map hdD) (c:Int)=some (.tup [.str x,.int n,.bl t])/\x∈cs.map (·.x):=by rw [bM,qb0,gQ h];exact ⟨(cs[c]).x,(cs[c]).n,(cs[c]).b,rfl,qj7 (qg5 h)⟩
theorem CN (n rest:Int) (B:List Str) (cs ss:List Hd) (many:Nat) (W:Wld B cs ss) (hm:0<many) (hm2:many<=100):∃ r:Rw,q37 [.int n,wD B cs ss rest,.int many]=some (.leaf r.d)/\RwB cs ss many r:=by
 have b0:=W.b0;have b1:=W.b1;have c1:=W.c1;have s1:=W.s1;obtain ⟨ds,ed,el,hd⟩:=eI n [11,B.length,max 1 cs.length,max 1 ss.length,8,many] (by intro z hz;simp at hz;oo) \5;have hl:ds.length=6:=el
 obtain ⟨k,x,c,f,sg,g,rfl⟩:∃ k x c f sg g,ds=[k,x,c,f,sg,g]:=by
  match ds,hl with
  | [k,x,c,f,sg,g],_=>exact ⟨k,x,c,f,sg,g,rfl⟩
 have hk:k<11:=hd 0 _ _ rfl rfl;have hx:x<B.length:=hd 1 _ _ rfl rfl;have hc:c<max 1 cs.length:=hd 2 _ _ rfl rfl;have hf:f<max 1 ss.length:=hd 3 _ _ rfl rfl;have hs:sg<8:=hd 4 _ _ rfl rfl;have hg:g<many:=hd 5 _ _ rfl rfl;have ed':y2 [.int n,.lst [.int 11,.int B.length,.int ((max 1 cs.length:Nat):Int),.int ((max 1 ss.length:Nat):Int),.int 8,.int many]]=some (.lst [.int k,.int x,.int c,.int f,.int sg,.int g]):=ed
 obtain ⟨n1,y14,e1⟩:=pG [some (.leaf (.tup [.lst (B.map .str),.tup (cs.map hdD),.tup (ss.map hdD),.int rest])),some (.leaf (.int many)),some (.leaf (.lst (B.map .str))),some (.leaf (.tup (cs.map hdD))),some (.leaf (.tup (ss.map hdD))),some (.leaf (.int rest)),some (.leaf (.lst [.int 11,.int B.length,.int ((max 1 cs.length:Nat):Int),.int ((max 1 ss.length:Nat):Int),.int 8,.int many])),some (.leaf (.int k)),some (.leaf (.int x)),some (.leaf (.int c)),some (.leaf (.int f)),some (.leaf (.int sg)),some (.leaf (.int g))] [11,B.length,max 1 cs.length,max 1 ss.length,8,many] n none (by intro z hz;simp at hz;oo) rfl [none,none,none,none]
 simp only [dI,qa7,qs9,qm5,qk6,Int.cast_ofNat_Int] at e1;obtain ⟨ds2,ed2,el2,hd2⟩:=eI n1 [B.length+1,1099511627776,B.length+1,1099511627776] (by intro z hz;simp at hz;oo) \5;have hl2:ds2.length=4:=el2
 obtain ⟨p,q,u,v,rfl⟩:∃ p q u v,ds2=[p,q,u,v]:=by
  match ds2,hl2 with
  | [p,q,u,v],_=>exact ⟨p,q,u,v,rfl⟩
 have hp:p<B.length+1:=hd2 0 _ _ rfl rfl;have hu:u<B.length+1:=hd2 2 _ _ rfl rfl
 have ed2':y2 [.int n1,.lst [.int ((B.length:Int)+1),.int wide,.int ((B.length:Int)+1),.int wide]]=some (.lst [.int p,.int q,.int u,.int v]):=by rw [qM];exact ed2
 obtain ⟨one,ho,eo⟩:=nJ (B:=B) (v:=q) (j:=p) \3 hp;obtain ⟨oth,ht,et⟩:=nJ (B:=B) (v:=v) (j:=u) \3 hu;have U:=sP (th:=B) (k:=x) hx;clear ed el hd ed2 el2 hd2;unfold q37 wD;walk_at "k";unfold i4 oU aR fB;walk_at "k";simp only [qs2,if_true];walk_at "k";unfold dS;walk_at "k";simp only [qa2,CM];walk_at "k";rw [ed'];walk_at "k";simp only [qs2,if_true];walk_at "k";rw [e1];walk_at "k";simp only [qa2];rw [ed2'];walk_at "k";rw [eo];walk_at "k";rw [et];walk_at "k"
 obtain ⟨sgn,esg,_⟩:=zr (x:=qa1 "+-*<=&|^") (i:=(sg:Int)) \2 \3 (by
  have:(qa1 "+-*<=&|^").length=8:=by decide +kernel
  oo)
 have fin:∀ r:Rw,(∀ g,¬ ((∃ a,r=.iff a g)∨r=.go g))->∀ g,(∃ a,r=.iff a g)∨r=.go g->g<many:=fun r h g z=>absurd z (h g)
 have k11:k=0∨k=1∨k=2∨k=3∨k=4∨k=5∨k=6∨k=7∨k=8∨k=9∨k=10:=by oo
 rcases k11 with q0 | q0 | q0 | q0 | q0 | q0 | q0 | q0 | q0 | q0 | q0
 . have O:(k:Int)=0:=by oo
   rw [O]
   repeat (first | walk_at "l" | walk_at "k" | rw [U])
   exact ⟨.copy _ one,rfl,trivial,fin _ \5⟩
 . have O:(k:Int)=1:=by oo
   rw [O]
   repeat (first | walk_at "l" | walk_at "k" | rw [U] | rw [esg])
   exact ⟨.op _ _ one oth,rfl,trivial,fin _ \5⟩
 . have O:(k:Int)=2:=by oo
   rw [O];cases Z:cs.isEmpty with
   | true =>
    repeat (first | walk_at "l" | walk_at "k" | rw [U] | rw [jv,Z])
    exact ⟨.copy _ one,rfl,trivial,fin _ \5⟩
   | false =>
    obtain ⟨cx,_,_,ecx,hcx⟩:=sQ (cs:=cs) (c:=c) (by cases cs<;>simp at Z hc ⊢;oo)
    repeat (first | walk_at "l" | walk_at "k" | rw [U] | rw [jv,Z] | rw [ecx])
    exact ⟨.load _ cx,rfl,hcx,fin _ \5⟩
 . have O:(k:Int)=3:=by oo
   rw [O];cases Z:cs.isEmpty with
   | true =>
    repeat (first | walk_at "l" | walk_at "k" | rw [U] | rw [jv,Z])
    exact ⟨.copy _ one,rfl,trivial,fin _ \5⟩
   | false =>
    obtain ⟨cx,_,_,ecx,hcx⟩:=sQ (cs:=cs) (c:=c) (by cases cs<;>simp at Z hc ⊢;oo)
    repeat (first | walk_at "l" | walk_at "k" | rw [U] | rw [jv,Z] | rw [ecx])
    exact ⟨.store cx one,rfl,hcx,fin _ \5⟩
 . have O:(k:Int)=4:=by oo
   rw [O];cases Y:ss.isEmpty with
   | true =>
    repeat (first | walk_at "l" | walk_at "k" | rw [U] | rw [jv,Y])
    exact ⟨.copy _ one,rfl,trivial,fin _ \5⟩
   | false =>
    obtain ⟨fx,_,_,efx,hfx⟩:=sQ (cs:=ss) (c:=f) (by cases ss<;>simp at Y hf ⊢;oo)
    repeat (first | walk_at "l" | walk_at "k" | rw [U] | rw [jv,Y] | rw [efx])
    exact ⟨.take _ fx one,rfl,hfx,fin _ \5⟩
 . have O:(k:Int)=5:=by oo
   rw [O];cases Y:ss.isEmpty with
   | true =>
    repeat (first | walk_at "l" | walk_at "k" | rw [U] | rw [jv,Y])
    exact ⟨.copy _ one,rfl,trivial,fin _ \5⟩
   | false =>
    obtain ⟨fx,_,_,efx,hfx⟩:=sQ (cs:=ss) (c:=f) (by cases ss<;>simp at Y hf ⊢;oo)
    repeat (first | walk_at "l" | walk_at "k" | rw [U] | rw [jv,Y] | rw [efx])
    exact ⟨.lay fx one oth,rfl,hfx,fin _ \5⟩
 . have O:(k:Int)=6:=by oo
   rw [O]
   repeat (first | walk_at "l" | walk_at "k" | rw [U])
   exact ⟨.hear _,rfl,trivial,fin _ \5⟩
 . have O:(k:Int)=7:=by oo
   rw [O]
   repeat (first | walk_at "l" | walk_at "k" | rw [U])
   exact ⟨.say one,rfl,trivial,fin _ \5⟩
 . have O:(k:Int)=8:=by oo
   rw [O]
   repeat (first | walk_at "l" | walk_at "k" | rw [U])
   exact ⟨.iff one g,rfl,trivial,fun g' h=>by rcases h with ⟨a,h⟩ | h<;>cases h;exact hg⟩
 . have O:(k:Int)=9:=by oo
   rw [O]
   repeat (first | walk_at "l" | walk_at "k" | rw [U])
   exact ⟨.go g,rfl,trivial,fun g' h=>by rcases h with ⟨a,h⟩ | h<;>cases h;exact hg⟩
 . have O:(k:Int)=10:=by oo
   rw [O]
   repeat (first | walk_at "l" | walk_at "k" | rw [U])
   exact ⟨.fin one,rfl,trivial,fin _ \5⟩
end P34
namespace L2
open PySem
theorem ig {ch:CH} {d:Dt} {δ:Sl} {i:Nat} (h:δ[i]?=some (some (.dat d))):eD (vL i) δ ch=some (.dat d,ch):=cB (kR h)
section
variable {α:Type} [DecidableEq α] (ky:α->Int×Str)
df nD (t:α):Dt:=.tup [.int (ky t).1,.str (ky t).2]
df nK (t:α):List Key:=[.inl (ky t).1,.inr (ky t).2]
df pC:Option α->CV
 | none=>.dat .non
 | some p=>.dat (nD ky p)
df cfD (cf:CF α):List (List Key×CV):=cf.map fun p=>(nK ky p.1,pC ky p.2)
df lsC (l:List α):CO:=.lst (l.map fun t=>.dat (nD ky t))
df hpR (ch0:CH) (cf:CF α) (J:List (List α)):CH:=ch0++(.dT (cfD ky cf)::lsC ky (ks cf)::J.map (lsC ky))
df sR (st:Dt) (f1 f2:Addr) (F0:Hp) (i0:Nat) (x4 x6 O q:Option CV):Sl:=[some (.dat st),some (.fn f1 F0),some (.fn f2 F0),some (.ref i0),x4,some (.ref (i0+1)),x6,O,q]
variable {ky}
theorem nM (hk:∀ a b,ky a=ky b->a=b) {a b:α} (h:nK ky a=nK ky b):a=b:=by unfold nK at h;simp only [qq4,qv5.injEq,zb1.injEq,and_true] at h;exact hk a b (Prod.ext h.1 h.2)
theorem jO (t:α):me (.dat (nD ky t))=some (nK ky t):=rfl
theorem xr (hk:∀ a b,ky a=ky b->a=b) (t:α):∀ cf:CF α,lkC (cfD ky cf) (nK ky t)=(look cf t).map (pC ky)
 | []=>rfl
 | p::cf=>by
  have q:=xr hk t cf;unfold lkC cfD look at q ⊢;rw [qa7];by_cases e:p.1=t
  . rw [qu1 (by simp [e]),qu1 (by simp [e])];rfl
  . rw [qp8 (by simpa using fun z=>e (nM hk z)),qp8 (by simpa using e)];exact q
theorem ED {cf:CF α} {t:α}:(look cf t).isSome=decide (t∈ks cf):=by
 induction cf with
 | nil=>rfl
 | cons p cf q =>
  unfold look at q ⊢;by_cases e:p.1=t
  . rw [qu1 (by simp [e])];simp [ks,e]
  . rw [qp8 (by simpa using e),q];rw [decide_eq_decide];show t∈ks cf↔t∈p.1::ks cf;constructor
    . exact qd0 _
    . intro h;rcases qb6.mp h with z | z
      . exact absurd z.symm e
      . exact z
theorem qN (hk:∀ a b,ky a=ky b->a=b) {t:α} {c:Option α}:∀ {cf:CF α},t∉ks cf->dO (cfD ky cf) (nK ky t) (pC ky c)=cfD ky (cf++[(t,c)])
 | [],_=>rfl
 | p::cf,h=>by
  have h1:p.1≠t:=fun z=>h (z▸qe1)
  have h2:t∉ks cf:=fun z=>h (qd0 _ z)
  show dO ((nK ky p.1,pC ky p.2)::cfD ky cf) _ _=_;unfold dO;rw [if_neg fun z=>h1 (nM hk z),qN hk h2];rfl
theorem xt (hk:∀ a b,ky a=ky b->a=b) {cf:CF α} (h:(ks cf).Nodup):((cfD ky cf).map (·.1)).Nodup:=by
 have e:(cfD ky cf).map (·.1)=(ks cf).map (nK ky):=by unfold cfD ks;rw [qc4,qc4];rfl
 rw [e];rw [qh8,qr3];exact zb0 (fun h z=>h (nM hk z)) (qh8.mp h)
theorem sT (cf:CF α):(cfD ky cf).length=cf.length:=qa2 ..
section
variable {ch0:CH} {cf cf':CF α} {J:List (List α)}
theorem CP:(hpR ky ch0 cf J)[ch0.length]?=some (.dT (cfD ky cf)):=by unfold hpR;simp
theorem CQ:(hpR ky ch0 cf J)[ch0.length+1]?=some (lsC ky (ks cf)):=by unfold hpR;rw [gR \3,show ch0.length+1-ch0.length=1 by oo];rfl
theorem hp_J {l:List α}:(hpR ky ch0 cf (J++[l]))[ch0.length+2+J.length]?=some (lsC ky l):=by unfold hpR;rw [qc5 \3,show ch0.length+2+J.length-ch0.length=J.length+1+1 by oo,ql3,ql3,qc7,qc5 \5];simp
theorem k6:(hpR ky ch0 cf J).length=ch0.length+2+J.length:=by unfold hpR;simp;oo
theorem CS {t:α} {q:Option α}:((hpR ky ch0 cf J).set ch0.length (.dT (cfD ky (cf++[(t,q)])))).set (ch0.length+1) (.lst ((ks cf).map (fun t=>.dat (nD ky t))++[.dat (nD ky t)]))=hpR ky ch0 (cf++[(t,q)]) J:=by unfold hpR;rw [qn6 _ _ \3,qh9,qn6 _ _ \3,show ch0.length+1-ch0.length=1 by oo,qt8,qt9,qt8];unfold lsC;rw [dP,qc7];rfl
end
end
df RT0:Fs:=e9 (eV 3) (eD (vL 4)) (eD (kD .non))
df RT1:Fs:=dN (ut (eD (vL 8)) (eV 3)) (az (e9 (eV 3) (eD (vL 8)) (eD (vL 7))) (fm (eV 5) (eD (vL 8)))) fR
df TRb:Fs:=az (fm (eV 2) (eD (vL 3))) (aQ 3 (ur (eV 0) (eD (vL 3))))
df TRc:Ft:=tD (tB2 (gIs true) (vB 3) (kD .non))
df TRf:Fd:=fC 4 (az (aQ 2 (eN (bE ae))) (az (aQ 3 (eD (vL 1))) (az (bA TRc TRb 100000) (cu (eLR (eV 2))))))
df RT2 (G:Orc):Fs:=az (aQ 7 (eIx (eV 5) (eD (vL 6)))) (az (kJ (fun i j=>i+j) 6 (eD \8)) (az (dN (fU (eCl G 2 (ay (eD (vL 7)) bZ))) (cu (eC TRf (ay (eV 3) (ay (eD (vL 7)) bZ)))) fR) (eY (eCl G 1 (ay (eD (vL 7)) bZ)) (ggN 8) RT1 100000)))
df RTc:Ft:=j9 (e2 (jD fun i j=>decide (i<j)) (eD (vL 6)) (eB cX (ay (eV 5) bZ)))
df RTf (G:Orc):Fd:=fC 9 (az (aQ 3 eNT) (az (jo (fIt (vL 0)) [4] (am 4) RT0) (az (aQ 5 (eLT (eV 3))) (az (aQ 6 (eD \6)) (az (bA RTc (RT2 G) 100000) (cu (eD (kD .non))))))))
variable {x4 x6:Option CV}
section
variable {α:Type} [DecidableEq α] {ky:α->Int×Str} (hk:∀ a b,ky a=ky b->a=b) {st:Dt} {f1 f2:Addr} {F0:Hp} {ch0:CH} {cf:CF α} {J:List (List α)} {G:Orc}
include hk in
theorem zO {h t:α} (Z:(ks cf).Nodup) (hl:cf.length<100000) :
  RT1 (sR st f1 f2 F0 ch0.length x4 x6 (some (.dat (nD ky h))) (some (.dat (nD ky t)))) (hpR ky ch0 cf J)=some (.nx (sR st f1 f2 F0 ch0.length x4 x6 (some (.dat (nD ky h))) (some (.dat (nD ky t)))) (hpR ky ch0 (ib h cf t) J)):=by
 generalize hδ:sR st f1 f2 F0 ch0.length x4 x6 (some (.dat (nD ky h))) (some (.dat (nD ky t)))=δ;have U:eD (vL 8) δ=fun ch=>some (.dat (nD ky t),ch):=funext fun ch=>ig (by rw [<- hδ];rfl)
 have d7:eD (vL 7) δ=fun ch=>some (.dat (nD ky h),ch):=funext fun ch=>ig (by rw [<- hδ];rfl)
 have W:eV 3 δ=fun ch=>some (.ref ch0.length,ch):=funext fun ch=>ck (by rw [<- hδ];rfl)
 have v5:eV 5 δ=fun ch=>some (.ref (ch0.length+1),ch):=funext fun ch=>ck (by rw [<- hδ];rfl)
 have O:ut (eD (vL 8)) (eV 3) δ (hpR ky ch0 cf J)=some (!decide (t∈ks cf),hpR ky ch0 cf J):=by unfold ut;rw [U,W];simp only [qa0];rw [CP];simp only [qa0,asT,jO,qd2];rw [xr hk,qu6,ED]
 unfold RT1;by_cases q:t∈ks cf
 . rw [decide_eq_true q] at O;rw [f8 O,show ib h cf t=cf from if_pos q];rfl
 . rw [decide_eq_false q] at O;rw [ia O,show ib h cf t=cf++[(t,some h)] from if_neg q]
   have hp:e9 (eV 3) (eD (vL 8)) (eD (vL 7)) δ (hpR ky ch0 cf J)=some (.nx δ ((hpR ky ch0 cf J).set ch0.length (.dT (cfD ky (cf++[(t,some h)]))))):=by unfold e9;rw [d7,W,U];simp only [qa0];rw [CP];simp only [jO,qa0];rw [if_pos ⟨by rw [sT];exact small \3,xt hk Z⟩,<- qN hk (c:=some h) q];rfl
   rw [aF hp];unfold fm;rw [v5,U];simp only [qa0]
   have Y:((hpR ky ch0 cf J).set ch0.length (.dT (cfD ky (cf++[(t,some h)]))))[ch0.length+1]?=some (lsC ky (ks cf)):=by rw [gN \3];exact CQ
   rw [Y];unfold lsC;dsimp only;rw [if_pos (by rw [qa2,show (ks cf).length=cf.length from qa2 ..];exact small \3),CS]
include hk in
theorem mq {h:α} {l:List α} {m:Nat}:∀ (d i n:Nat) (cf:CF α) (q:Option CV),i+d=l.length->d<n->(ks cf).Nodup->cf.length+d<100000→
  ∃ U,gE (ch0.length+2+J.length) (ggN 8) RT1 n i (sR st f1 f2 F0 ch0.length x4 x6 (some (.dat (nD ky h))) q) (hpR ky ch0 cf (J++[l]))=some (.nx (sR st f1 f2 F0 ch0.length x4 x6 (some (.dat (nD ky h))) U) (hpR ky ch0 (bP h cf (l.drop i)) (J++[l])))
 | 0,i,n,cf,q,hi,Z,W,hl=>by obtain ⟨n,rfl⟩:∃ m,n=m+1:=⟨n-1,by oo⟩;refine ⟨q,?_⟩;unfold gE;rw [hp_J];unfold lsC;dsimp only;rw [qk7 (by rw [qa2];oo),zd4 \3];rfl
 | d+1,i,n,cf,q,hi,Z,W,hl=>by
  obtain ⟨n,rfl⟩:∃ m,n=m+1:=⟨n-1,by oo⟩;have O:i<l.length:=by oo
  obtain ⟨e,h1,h2,h3,h4⟩:=cO h [l[i]] cf;have e1:bP h cf [l[i]]=ib h cf l[i]:=rfl;rw [e1] at h1 h3;have Y:(ib h cf l[i]).length<=cf.length+1:=by unfold ib;split<;>simp
  obtain ⟨U,ih⟩:=mq (l:=l) (m:=m) d (i+1) n (ib h cf l[i]) (some (.dat (nD ky l[i]))) \3 \3 (h3 W) \3;refine ⟨U,?_⟩;unfold gE;rw [hp_J];unfold lsC;dsimp only;rw [qb0,gQ O];simp only [qd2];have hb:ggN 8 (.dat (nD ky l[i])) (hpR ky ch0 cf (J++[l])) (sR st f1 f2 F0 ch0.length x4 x6 (some (.dat (nD ky h))) q)=some (sR st f1 f2 F0 ch0.length x4 x6 (some (.dat (nD ky h))) (some (.dat (nD ky l[i])))):=rfl;rw [hb,qa0,zO hk W \3,qa0];dsimp only;rw [ih];have:l.drop i=l[i]::l.drop (i+1):=qr9 O;rw [this];rfl
end
variable {H:CH} {i0:Nat}
section
variable {α:Type} [DecidableEq α] {ky:α->Int×Str} (hk:∀ a b,ky a=ky b->a=b) {st:Dt} {f1 f2:Addr} {F0:Hp} {ch0:CH} {cf:CF α} {J:List (List α)} {G:Orc}
include hk in
theorem qO {O:Dt} (Z:H[i0]?=some (.dT (cfD ky cf))):∀ {t:α} {U:List α},Tr cf t U->∀ (n:Nat) (acc:List CV),U.length<n->acc.length+U.length<100000→
  bA TRc TRb n [some (.ref i0),some (.dat O),some (.ref H.length),some (.dat (nD ky t))] (H++[.lst acc])=some (.nx [some (.ref i0),some (.dat O),some (.ref H.length),some (.dat .non)] (H++[.lst (acc++U.map fun t=>.dat (nD ky t))])):=by
 intro t U tr;have hi:i0<H.length:=(gX Z).1
 have one:∀ (t:α) (acc:List CV) (q:Option α),look cf t=some q->acc.length<100000→
     TRc [some (.ref i0),some (.dat O),some (.ref H.length),some (.dat (nD ky t))] (H++[.lst acc])=some (true,H++[.lst acc])∧
     TRb [some (.ref i0),some (.dat O),some (.ref H.length),some (.dat (nD ky t))] (H++[.lst acc])=some (.nx [some (.ref i0),some (.dat O),some (.ref H.length),some (pC ky q)] (H++[.lst (acc++[.dat (nD ky t)])])):=by
  intro t acc q hq W;generalize hδ:([some (.ref i0),some (.dat O),some (.ref H.length),some (.dat (nD ky t))]:Sl)=δ;have d3:eD (vL 3) δ=fun ch=>some (.dat (nD ky t),ch):=funext fun ch=>ig (by rw [<- hδ];rfl)
  have v0:eV 0 δ=fun ch=>some (.ref i0,ch):=funext fun ch=>ck (by rw [<- hδ];rfl)
  have v2:eV 2 δ=fun ch=>some (.ref H.length,ch):=funext fun ch=>ck (by rw [<- hδ];rfl)
  refine ⟨f7 ?_,?_⟩
  . unfold tB2 d2;rw [fA (d:=nD ky t) (by rw [<- hδ];rfl)];rfl
  . unfold TRb
    have ha:fm (eV 2) (eD (vL 3)) δ (H++[.lst acc])=some (.nx δ (H++[.lst (acc++[.dat (nD ky t)])])):=by unfold fm;rw [v2,d3];simp only [qa0];rw [gR (nL _),qh9];simp only [qd4];rw [if_pos (dy \3),qn6 _ _ (nL _),qh9];rfl
    rw [aF ha]
    have hx:ur (eV 0) (eD (vL 3)) δ (H++[.lst (acc++[.dat (nD ky t)])])=some (pC ky q,H++[.lst (acc++[.dat (nD ky t)])]):=by unfold ur;rw [v0,d3];simp only [qa0];rw [qa5 hi,Z];simp only [qa0,asT,jO];rw [xr hk,hq];rfl
    rw [bg hx,<- hδ];rfl
 induction tr with
 | @one t h =>
  intro n acc Y W;obtain ⟨n,rfl⟩:∃ m,n=m+2:=⟨n-2,by simp at Y;oo⟩;obtain ⟨a,b⟩:=one t acc none h \3;rw [iN a b]
  have c:TRc [some (.ref i0),some (.dat O),some (.ref H.length),some (pC ky none)] (H++[.lst (acc++[.dat (nD ky t)])])=some (false,H++[.lst (acc++[.dat (nD ky t)])]):=f7 (by unfold tB2 d2;rw [fA (d:=.non) rfl];rfl)
  rw [kX c];rfl
 | @more t p r h r' ih =>intro n acc Y W;obtain ⟨n,rfl⟩:∃ m,n=m+1:=⟨n-1,by oo⟩;obtain ⟨a,b⟩:=one t acc (some p) h (by simp at W;oo);rw [iN a b];have:=ih n (acc++[.dat (nD ky t)]) (by simp at Y;oo) (by simp at W ⊢;oo);rw [show pC ky (some p)=.dat (nD ky p) from rfl,this,qf0];rfl
include hk in
theorem uD (W:H[i0]?=some (.dT (cfD ky cf))) {t:α} {q:List α} (U:Tr cf t q) (Y:q.length<10000) :
  TRf [.ref i0,.dat (nD ky t)] H=some (.ref (H.length+1),H++[lsC ky q,lsC ky q.reverse]):=by
 refine gv ?_;have O:aQ 2 (eN (bE ae)) [some (.ref i0),some (.dat (nD ky t)),none,none] H=some (.nx [some (.ref i0),some (.dat (nD ky t)),some (.ref H.length),none] (H++[.lst []])):=rfl;show az _ _ [some (.ref i0),some (.dat (nD ky t)),none,none] H=_;rw [aF O]
 have e2:aQ 3 (eD (vL 1)) [some (.ref i0),some (.dat (nD ky t)),some (.ref H.length),none] (H++[.lst []])=some (.nx [some (.ref i0),some (.dat (nD ky t)),some (.ref H.length),some (.dat (nD ky t))] (H++[.lst []])):=by rw [bg (ig (d:=nD ky t) rfl)];rfl
 rw [aF e2,aF (qO hk W U 100000 [] \3 (by simp;oo))];refine dz ?_;unfold eLR;rw [ck (v:=.ref H.length) rfl];simp only [qa0];rw [gR (nL _),qh9];simp only [qd4,qk6,qa8,qe7,qg3];rw [qf0];unfold lsC;rw [List.map_reverse];rfl
df fin0 (cf:CF α) (J:List (List α)) (ch0:CH):Option α->Option (CV×CH)
 | none=>some (.dat .non,hpR ky ch0 cf J)
 | some h=>TRf [.ref ch0.length,.dat (nD ky h)] (hpR ky ch0 cf J)
include hk in
theorem ii {U:List α} {beh:α->List α} {fit:α->Bool} (hU:∀ t∈U,∀ u∈beh t,u∈U) (hUl:U.length<=10000) (hbl:∀ t∈U,(beh t).length<=1000) (h1:∀ t∈U,G f1 F0 [nD ky t]=some (.lst ((beh t).map (nD ky)))) (h2:∀ t∈U,G f2 F0 [nD ky t]=some (.leaf (.bl (fit t)))) :
  ∀ (n:Nat) (cf:CF α) (k:Nat) (J:List (List α)) (x4 x7 W:Option CV) (f:Option α) (cf':CF α) (J':List (List α)),(ks cf).Nodup->(∀ t∈ks cf,t∈U)->bfs beh fit n cf k J=some (f,cf',J')→
   match f with
   | none=>∃ δ',bA RTc (RT2 G) n (sR st f1 f2 F0 ch0.length x4 (some (.dat (.int k))) x7 W) (hpR ky ch0 cf J)=some (.nx δ' (hpR ky ch0 cf' J'))
   | some h=>∀ c ch',TRf [.ref ch0.length,.dat (nD ky h)] (hpR ky ch0 cf' J')=some (c,ch')->bA RTc (RT2 G) n (sR st f1 f2 F0 ch0.length x4 (some (.dat (.int k))) x7 W) (hpR ky ch0 cf J)=some (.rt c ch')
 | 0,cf,k,J,x4,x7,W,f,cf',J',nd,hc,Y=>by cases Y
 | n+1,cf,k,J,x4,x7,W,f,cf',J',nd,hc,Y=>by
  have hcl:cf.length<=10000:=by have:=cj nd hc;rw [show (ks cf).length=cf.length from qa2 ..] at this;oo
  have hlen:vws (hpR ky ch0 cf J) [.ref (ch0.length+1)]=some [.lst ((ks cf).map (nD ky))]:=by
   have e:vw (hpR ky ch0 cf J) (.ref (ch0.length+1))=some (.lst ((ks cf).map (nD ky))):=by
    show ((hpR ky ch0 cf J)[ch0.length+1]?).bind vwO=_;rw [CQ];unfold lsC vwO;simp only [qa0]
    have:∀ l:List α,dats (l.map fun t=>CV.dat (nD ky t))=some (l.map (nD ky)):=fun l=>by
     induction l with
     | nil=>rfl
     | cons a l ih=>simp only [qa7,dats,ih,qd2]
    rw [this];rfl
   unfold vws;rw [e];rfl
  have O:RTc (sR st f1 f2 F0 ch0.length x4 (some (.dat (.int k))) x7 W) (hpR ky ch0 cf J)=some (decide ((k:Int)<cf.length),hpR ky ch0 cf J):=by
   unfold RTc j9
   have e:eB cX (ay (eV 5) bZ) (sR st f1 f2 F0 ch0.length x4 (some (.dat (.int k))) x7 W) (hpR ky ch0 cf J)=some (.dat (.int (cf.length:Int)),hpR ky ch0 cf J):=by
    rw [Ev (cs:=[.ref (ch0.length+1)]) (ch1:=hpR ky ch0 cf J) rfl hlen (t:=.leaf (.int (cf.length:Int))) (by show some (T.leaf (.int (((ks cf).map (nD ky)).length:Int)))=_;rw [qa2,show (ks cf).length=cf.length from qa2 ..])]
    rfl
   rw [sH (ig (d:=.int k) rfl) e rfl rfl (t:=.leaf (.bl (decide ((k:Int)<cf.length)))) rfl];rfl
  unfold bfs at Y;cases q:cf[k]? with
  | none =>rw [q] at Y;cases Y;have:=qf6.mp q;dsimp only;rw [decide_eq_false \3] at O;exact ⟨_,kX O⟩
  | some x =>
   obtain ⟨h,pq⟩:=x;rw [q] at Y;dsimp only at Y;have hkl:=(gX q).1;have Z:h∈U:=hc h (gy q);rw [decide_eq_true \3] at O
   -- here=queue[looked];looked += 1
   have s1:aQ 7 (eIx (eV 5) (eD (vL 6))) (sR st f1 f2 F0 ch0.length x4 (some (.dat (.int k))) x7 W) (hpR ky ch0 cf J)=some (.nx (sR st f1 f2 F0 ch0.length x4 (some (.dat (.int k))) (some (.dat (nD ky h))) W) (hpR ky ch0 cf J)):=by
    have hx:ixO (lsC ky (ks cf)) (.int (k:Int))=some (.dat (nD ky h)):=by
     show (some (k:Int)).bind (atI _)=_;rw [qa0,bM,qb0];have:(ks cf)[k]?=some h:=by unfold ks;rw [qb0,q];rfl
     rw [this];rfl
    rw [bg (CB (i:=ch0.length+1) (ck rfl) (ig (d:=.int k) rfl) CQ hx)];rfl
   have s2:kJ (fun i j=>i+j) 6 (eD \8) (sR st f1 f2 F0 ch0.length x4 (some (.dat (.int k))) (some (.dat (nD ky h))) W) (hpR ky ch0 cf J)=some (.nx (sR st f1 f2 F0 ch0.length x4 (some (.dat (.int ((k+1:Nat):Int)))) (some (.dat (nD ky h))) W) (hpR ky ch0 cf J)):=by show some (Og.nx _ _)=some (Og.nx _ _);rw [show ((k+1:Nat):Int)=(k:Int)+1 by oo];rfl
   have cl:∀ (i:Nat) (fa:Addr) (t:T),(sR st f1 f2 F0 ch0.length x4 (some (.dat (.int ((k+1:Nat):Int)))) (some (.dat (nD ky h))) W)[i]?=some (some (.fn fa F0))->G fa F0 [nD ky h]=some t→
       eCl G i (ay (eD (vL 7)) bZ) (sR st f1 f2 F0 ch0.length x4 (some (.dat (.int ((k+1:Nat):Int)))) (some (.dat (nD ky h))) W) (hpR ky ch0 cf J)=al (hpR ky ch0 cf J) t:=fun i fa t e1 e2=>by
    unfold eCl;rw [e1];dsimp only
    have:ay (eD (vL 7)) bZ (sR st f1 f2 F0 ch0.length x4 (some (.dat (.int ((k+1:Nat):Int)))) (some (.dat (nD ky h))) W) (hpR ky ch0 cf J)=some ([.dat (nD ky h)],hpR ky ch0 cf J):=by unfold ay;rw [ig (d:=nD ky h) rfl];rfl
    rw [this];simp only [qa0,dats,qd2];rw [e2];rfl
   have tf:fU (eCl G 2 (ay (eD (vL 7)) bZ)) (sR st f1 f2 F0 ch0.length x4 (some (.dat (.int ((k+1:Nat):Int)))) (some (.dat (nD ky h))) W) (hpR ky ch0 cf J)=some (fit h,hpR ky ch0 cf J):=iM (by rw [cl 2 f2 _ rfl (h2 h Z)];rfl)
   cases hf:fit h with
   | true =>
    rw [hf] at Y tf;cases Y;dsimp only;intro c ch' ht;unfold bA;rw [O];simp only [qa0,if_true];unfold RT2
    rw [aF s1,aF s2,pr (by
     rw [ia tf];refine dz (v:=c) (ch1:=ch') ?_
     rw [kS (cs:=[.ref ch0.length,.dat (nD ky h)]) (ch2:=hpR ky ch0 cf J) (by unfold ay;rw [ck (v:=.ref ch0.length) rfl];simp only [qa0];rw [ig (d:=nD ky h) rfl];rfl)]
     exact ht)]
    rfl
   | false =>
    rw [hf] at Y tf;simp only [qf1,if_false] at Y;obtain ⟨e,p1,p2,p3,p4⟩:=cO h (beh h) cf;obtain ⟨y8,hp⟩:=mq hk (st:=st) (f1:=f1) (f2:=f2) (F0:=F0) (ch0:=ch0) (J:=J) (x4:=x4) (x6:=some (.dat (.int ((k+1:Nat):Int)))) (h:=h) (l:=beh h) (m:=0) (beh h).length 0 100000 cf W \3 (by have:=hbl h Z;oo) nd (by have:=hbl h Z;oo)
    have body:RT2 G (sR st f1 f2 F0 ch0.length x4 (some (.dat (.int k))) x7 W) (hpR ky ch0 cf J)=some (.nx (sR st f1 f2 F0 ch0.length x4 (some (.dat (.int ((k+1:Nat):Int)))) (some (.dat (nD ky h))) y8) (hpR ky ch0 (bP h cf (beh h)) (J++[beh h]))):=by
     unfold RT2;rw [aF s1,aF s2,aF (by rw [f8 tf];rfl)];unfold eY
     have hJ:al (hpR ky ch0 cf J) (.lst ((beh h).map (nD ky)))=some (.ref (ch0.length+2+J.length),hpR ky ch0 cf (J++[beh h])):=by show some (CV.ref (hpR ky ch0 cf J).length,hpR ky ch0 cf J++[CO.lst (((beh h).map (nD ky)).map CV.dat)])=_;rw [k6];unfold hpR lsC;rw [qc7,qf0,qc4];rfl
     rw [cl 1 f1 _ rfl (h1 h Z),hJ];simp only [qa0];rw [hp,List.drop_zero]
    have:=ii hU hUl hbl h1 h2 n (bP h cf (beh h)) (k+1) (J++[beh h]) x4 (some (.dat (nD ky h))) y8 f cf' J' (p3 nd) (kY hc (hU h Z)) Y;have wt:=iN (n:=n) O body;cases f with
    | none =>obtain ⟨δ',hd⟩:=this;exact ⟨δ',by rw [wt];exact hd⟩
    | some h' =>dsimp only at this ⊢;intro c ch' ht;rw [wt];exact this c ch' ht
end
section
variable {α:Type} [DecidableEq α] {ky:α->Int×Str} (hk:∀ a b,ky a=ky b->a=b) {st:Dt} {f1 f2:Addr} {F0:Hp} {ch0:CH} {cf:CF α} {J:List (List α)} {G:Orc}
include hk in
theorem pI {t:α}:∀ {cf:CF α},t∈ks cf->(∀ p∈cf,p.2=none)->dO (cfD ky cf) (nK ky t) (.dat .non)=cfD ky cf
 | [],h,_=>by cases h
 | p::cf,h,O=>by
  show dO ((nK ky p.1,pC ky p.2)::cfD ky cf) _ _=(nK ky p.1,pC ky p.2)::cfD ky cf;unfold dO;by_cases e:p.1=t
  . rw [if_pos (by rw [e]),O p qe1];rfl
  . rw [if_neg fun z=>e (nM hk z),pI (by
     rcases qb6.mp h with z | z
     . exact absurd z.symm e
     . exact z) fun q U=>O q (qd0 _ U)]
df sS (st:Dt) (f1 f2:Addr) (F0:Hp) (i0:Nat) (x4:Option CV):Sl:=[some (.dat st),some (.fn f1 F0),some (.fn f2 F0),some (.ref i0),x4,none,none,none,none]
include hk in
theorem uE {x4:Option CV} {t:α} (U:(ks cf).Nodup) (O:∀ p∈cf,p.2=none) (W:cf.length<100000):RT0 (sS st f1 f2 F0 ch0.length (some (.dat (nD ky t)))) (ch0++[.dT (cfD ky cf)])=some (.nx (sS st f1 f2 F0 ch0.length (some (.dat (nD ky t)))) (ch0++[.dT (cfD ky (bh cf t))])):=by
 unfold RT0 e9;rw [show eD (kD .non) (sS st f1 f2 F0 ch0.length (some (.dat (nD ky t)))) (ch0++[.dT (cfD ky cf)])=some (.dat .non,ch0++[.dT (cfD ky cf)]) from rfl];simp only [qa0];rw [ck (v:=.ref ch0.length) rfl];simp only [qa0];rw [ig (d:=nD ky t) rfl];simp only [qa0];rw [gR (nL _),qh9];simp only [qd4,jO,qa0];rw [if_pos ⟨by rw [sT];exact dy \3,xt hk U⟩,qn6 _ _ (nL _),qh9];unfold bh;by_cases q:t∈ks cf
 . rw [if_pos q,pI hk q O];rfl
 . rw [if_neg q,<- qN hk (c:=none) q];rfl
theorem CT (cf:CF α) (t:α):(bh cf t).length<=cf.length+1:=by unfold bh;split<;>simp
theorem EE {cf:CF α} {t:α} (O:(ks cf).Nodup):(ks (bh cf t)).Nodup:=by
 unfold bh;split
 . exact O
 . rename_i q;rw [dP];refine qf4.mpr ⟨O,by simp [ks],fun a W b U=>?_⟩;simp [ks] at U;subst U;rintro rfl;exact q W
theorem sU {cf:CF α} {t:α} (q:∀ p∈cf,p.2=none):∀ p∈bh cf t,p.2=none:=fun p hp=>by
 unfold bh at hp;split at hp
 . exact q p hp
 . rcases qg2.mp hp with z | z
   . exact q p z
   . cases qb9.mp z;rfl
include hk in
theorem mr:∀ (ss:List α) (cf:CF α) (x4:Option CV),(ks cf).Nodup->(∀ p∈cf,p.2=none)->cf.length+ss.length<100000→
  ∃ q,i9 [4] (am 4) RT0 (ss.map (nD ky)) (sS st f1 f2 F0 ch0.length x4) (ch0++[.dT (cfD ky cf)])=some (.nx (sS st f1 f2 F0 ch0.length q) (ch0++[.dT (cfD ky (ss.foldl bh cf))]))
 | [],cf,x4,_,_,_=>⟨x4,rfl⟩
 | s::ss,cf,x4,U,O,Z=>by have W:cf.length+(ss.length+1)<100000:=Z;obtain ⟨q,Y⟩:=mr ss (bh cf s) (some (.dat (nD ky s))) (EE U) (sU O) (by have:=CT cf s;oo);refine ⟨q,?_⟩;rw [qa7,qi1,<- Y];exact sI (show 4<9 by decide) (uE hk (x4:=x4) U O \3)
include hk in
theorem jw {starts:List α} (Z:starts.length<=10000):∃ q,∀ o:Option Og,bA RTc (RT2 G) 100000 (sR (.lst (starts.map (nD ky))) f1 f2 F0 ch0.length q (some (.dat (.int ((0:Nat):Int)))) none none) (hpR ky ch0 (starts.foldl bh []) [])=o→
  RTf G [.dat (.lst (starts.map (nD ky))),.fn f1 F0,.fn f2 F0] ch0=match o with
   | some (.rt c ch')=>some (c,ch')
   | some (.nx _ ch')=>some (.dat .non,ch')
   | _=>none:=by
 obtain ⟨q,h1⟩:=mr hk (st:=.lst (starts.map (nD ky))) (f1:=f1) (f2:=f2) (F0:=F0) (ch0:=ch0) starts [] none (by simp [ks]) \5 (by simp;oo);refine ⟨q,fun o W=>?_⟩;unfold RTf fC
 show (match az (aQ 3 eNT) _ [some (.dat (.lst (starts.map (nD ky)))),some (.fn f1 F0),some (.fn f2 F0),none,none,none,none,none,none] ch0 with
  | some (.rt c ch')=>some (c,ch') | some (.nx _ ch')=>some (.dat .non,ch') | _=>none)=_
 have U:aQ 3 eNT [some (.dat (.lst (starts.map (nD ky)))),some (.fn f1 F0),some (.fn f2 F0),none,none,none,none,none,none] ch0=some (.nx (sS (.lst (starts.map (nD ky))) f1 f2 F0 ch0.length none) (ch0++[.dT (cfD ky [])])):=rfl
 have e2:jo (fIt (vL 0)) [4] (am 4) RT0 (sS (.lst (starts.map (nD ky))) f1 f2 F0 ch0.length none) (ch0++[.dT (cfD ky [])])=some (.nx (sS (.lst (starts.map (nD ky))) f1 f2 F0 ch0.length q) (ch0++[.dT (cfD ky (starts.foldl bh []))])):=by unfold jo fIt;rw [kR (d:=.lst (starts.map (nD ky))) rfl];exact h1
 have Y:aQ 5 (eLT (eV 3)) (sS (.lst (starts.map (nD ky))) f1 f2 F0 ch0.length q) (ch0++[.dT (cfD ky (starts.foldl bh []))])=some (.nx (sR (.lst (starts.map (nD ky))) f1 f2 F0 ch0.length q none none none) (hpR ky ch0 (starts.foldl bh []) [])):=by
  have:eLT (eV 3) (sS (.lst (starts.map (nD ky))) f1 f2 F0 ch0.length q) (ch0++[.dT (cfD ky (starts.foldl bh []))])=some (.ref (ch0.length+1),hpR ky ch0 (starts.foldl bh []) []):=by unfold eLT;rw [ck (v:=.ref ch0.length) rfl];simp only [qa0];rw [gR (nL _),qh9];simp only [qd4,qa8,qe7,qg3,qf0];unfold hpR lsC cfD ks;rw [qc4,qc4];rfl
  rw [bg this];rfl
 have O:aQ 6 (eD \6) (sR (.lst (starts.map (nD ky))) f1 f2 F0 ch0.length q none none none) (hpR ky ch0 (starts.foldl bh []) [])=some (.nx (sR (.lst (starts.map (nD ky))) f1 f2 F0 ch0.length q (some (.dat (.int ((0:Nat):Int)))) none none) (hpR ky ch0 (starts.foldl bh []) [])):=rfl;rw [aF U,aF e2,aF Y,aF O];subst W;unfold az;generalize bA RTc (RT2 G) 100000 (sR (.lst (starts.map (nD ky))) f1 f2 F0 ch0.length q (some (.dat (.int ((0:Nat):Int)))) none none) (hpR ky ch0 (starts.foldl bh []) [])=o;cases o with
 | none=>rfl
 | some o=>cases o<;>rfl
df CU (ch0:CH) (cf:CF α) (J:List (List α)):Option (List α)->CV×CH
 | none=>(.dat .non,hpR ky ch0 cf J)
 | some q=>(.ref (ch0.length+2+J.length+1),hpR ky ch0 cf J++[lsC ky q,lsC ky q.reverse])
include hk in
theorem xu {U starts:List α} {beh:α->List α} {fit:α->Bool} (hU:∀ t∈U,∀ u∈beh t,u∈U) (hUl:U.length<=9000) (Z:∀ t∈U,(beh t).length<=1000) (hs:∀ t∈starts,t∈U) (Y:starts.length<=10000) :
  ∃ (cf:CF α) (J:List (List α)) (r:Option (List α)),(∀ (ch0:CH) (G:Orc) (f1 f2:Addr) (F0:Hp),(∀ t∈U,G f1 F0 [nD ky t]=some (.lst ((beh t).map (nD ky))))->(∀ t∈U,G f2 F0 [nD ky t]=some (.leaf (.bl (fit t))))→
      RTf G [.dat (.lst (starts.map (nD ky))),.fn f1 F0,.fn f2 F0] ch0=some (CU (ky:=ky) ch0 cf J r))∧
   (r=none->∀ t,Rch beh starts t->fit t=false)/\∀ W,r=some W->W.length<=9001/\∃ t,Wy beh fit starts t W/\fit t=true:=by
 have O:∀ t∈ks (starts.foldl bh ([]:CF α)),t∈U:=fun t ht=>by
  obtain ⟨i,q,e⟩:=gx ht;have B:=BI.start (beh:=beh) (fit:=fit) (starts:=starts);cases q with
  | none=>exact hs t (B.st i t e)
  | some p =>
   exfalso
   have key:∀ (ss:List α) (cf:CF α),(∀ p∈cf,p.2=none)->∀ p∈ss.foldl bh cf,p.2=none:=fun ss=>by
    induction ss with
    | nil=>intro cf h;exact h
    | cons s ss ih=>intro cf h;exact ih _ (sU h)
   have:=key starts [] \5 _ (qd3 e);cases this
 obtain ⟨f,cf,J,k',h1,B,hc,hn,hf⟩:=pv (fit:=fit) (starts:=starts) hU 100000 (starts.foldl bh []) 0 [] BI.start O (qn8 _) \3;have nd:=(BI.start (beh:=beh) (fit:=fit) (starts:=starts)).nd;cases f with
 | none =>
  refine ⟨cf,J,none,fun ch0 G f1 f2 F0 g1 g2=>?_,fun _ t ht=>?_,fun W z=>(by cases z)⟩
  . obtain ⟨y4,hr⟩:=jw hk (G:=G) (f1:=f1) (f2:=f2) (F0:=F0) (ch0:=ch0) Y;obtain ⟨δ',hw⟩:=ii hk (st:=.lst (starts.map (nD ky))) (ch0:=ch0) hU \3 Z g1 g2 100000 _ 0 [] y4 none none none cf J nd O h1;rw [hr _ hw];rfl
  . have:=hn rfl;subst this;exact B.none ht
 | some h =>
  obtain ⟨g1,g2⟩:=hf h rfl;obtain ⟨i,q,e⟩:=gx g2;obtain ⟨W,tr,wy,hl⟩:=B.trace i h q e;have hi:=(gX e).1
  have hcl:cf.length<=9000:=by have:=cj B.nd hc;rw [show (ks cf).length=cf.length from qa2 ..] at this;oo
  refine ⟨cf,J,some W,fun ch0 G f1 f2 F0 q1 q2=>?_,fun z=>(by cases z),fun ws' z=>(by cases z;exact ⟨by oo,h,wy,g1⟩)⟩;obtain ⟨y4,hr⟩:=jw hk (G:=G) (f1:=f1) (f2:=f2) (F0:=F0) (ch0:=ch0) Y;have hw:=ii hk (st:=.lst (starts.map (nD ky))) (ch0:=ch0) hU \3 Z q1 q2 100000 _ 0 [] y4 none none (some h) cf J nd O h1;dsimp only at hw;rw [hr _ (hw _ _ (uD hk CP tr \3))];unfold CU;rw [k6]
end
end L2
namespace P34
open PySem L2
variable {i:Nat}
theorem mt {β:Type} {t:Nat} {fe:Fg} {δ:Sl} {ch:CH} {f g:β->CV} {xs:List β} (h:ch[i]?=some (.lst (xs.map f))) (q:∀ x∈xs,fe (δ.set t (some (f x))) ch=some (g x,ch)):∀ (d k n:Nat),k+d=xs.length->d<n->gK i t sr fe δ n k ch=some ((xs.drop k).map g,ch)
 | 0,k,n,hk,O=>by obtain ⟨n,rfl⟩:∃ m,n=m+1:=⟨n-1,by oo⟩;unfold gK;rw [h];dsimp only;rw [qk7 (by rw [qa2];oo),zd4 \3];rfl
 | d+1,k,n,hk,O=>by
  obtain ⟨n,rfl⟩:∃ m,n=m+1:=⟨n-1,by oo⟩;have hi:k<xs.length:=by oo
  unfold gK;rw [h];dsimp only;rw [qb0,gQ hi];simp only [qd2,sr,qa0,if_true];rw [q _ (qg5 hi),qa0];dsimp only;have:=mt h q d (k+1) n \3 \3;rw [this,qr9 hi];rfl
df ky (t:Nat×Mrk):Int×Str:=((t.1:Int),ms t.2)
theorem CW (a b:Nat×Mrk) (h:ky a=ky b):a=b:=by unfold ky at h;simp only [Prod.mk.injEq] at h;exact Prod.ext \3 (nH h.2)
df Un (n:Nat):List (Nat×Mrk):=(qc1 n).flatMap fun k=>[(k,.fresh),(k,.seen),(k,.safe),(k,.spoilt)]
theorem mem_Un {n:Nat} {t:Nat×Mrk}:t∈Un n↔t.1<n:=by
 unfold Un;rw [List.mem_flatMap];constructor
 . rintro ⟨k,hk,h⟩;have hk:=qd5.mp hk;simp at h;rcases h with rfl | rfl | rfl | rfl<;>exact hk
 . intro h;refine ⟨t.1,qd5.mpr h,?_⟩;obtain ⟨k,m⟩:=t;cases m<;>simp
theorem CY (n:Nat):(Un n).length=4*n:=by
 unfold Un;induction n with
 | zero=>rfl
 | succ n q=>rw [qy3,List.flatMap_append,qa8,q];simp;oo
df pD (cs ss:List Hd) (rows:List Rw):Dt:=.tup [.tup (cs.map hdD),.tup (ss.map hdD),dR rows]
df cD (b:Dt) (kp:List (Nat×Dt)):Dt:=.tup [b,kpD kp]
df kps (kp:List (Nat×Dt)):List Nat:=kp.map (·.1)
df plain (cs ss:List Hd):List Str:=((cs++ss).filter fun h=>!h.b).map (·.x)
df sl8 (P C:Dt) (nm:Str) (O x4 q:Option CV):Sl:=[some (.dat P),some (.dat C),some (.dat (.str nm)),O,x4,none,none,q]
df rIs (l:List Nat):CO:=.lst (l.map fun j=>.dat (dI j))
variable {cs ss:List Hd} {rows:List Rw} {b:Dt} {kp:List (Nat×Dt)} {ch0:CH}
theorem uF {nm:Str} (O:cs.length+ss.length<=1000) (h:nm∉plain cs ss) :
  z34 [.dat (pD cs ss rows),.dat (cD b kp),.dat (.str nm)] ch0=some (.dat .non,ch0):=by
 refine gv ?_;show az _ _ (sl8 (pD cs ss rows) (cD b kp) nm none none none) ch0=_
 have q:tD (tB2 (aY true) (vB 2) (toD (ai y13 (ab (vL 0) ae)))) (sl8 (pD cs ss rows) (cD b kp) nm none none none) ch0=some (true,ch0):=f7 (by show tB2 (aY true) (vB 2) (toD (ai y13 (ab (vL 0) ae))) [some (.leaf (pD cs ss rows)),some (.leaf (cD b kp)),some (.leaf (.str nm)),none,none,none,none,none]=_;walk_at "k";unfold pD;rw [px cs ss _ O];walk_at "k";rw [kW];simp only [if_true];rw [show (((cs++ss).filter fun h=>!h.b).map (·.x))=plain cs ss from rfl,decide_eq_false h];rfl)
 rw [pr (by rw [ia q];rfl)]
df endS (ch0:CH) (cf:CF (Nat×Mrk)) (J:List (List (Nat×Mrk))):Option (List (Nat×Mrk))->CV×CH
 | none=>(.dat .non,hpR ky ch0 cf J)
 | some q=>(.ref (ch0.length+2+J.length+2),hpR ky ch0 cf J++[lsC ky q,lsC ky q.reverse]++[rIs (q.reverse.map (·.1))])
theorem qP {b:Dt} {nm:Str} {ch0:CH} (hl:cs.length+ss.length<=1000) (h:nm∈plain cs ss) (hr:rows.length<=1000) (hr0:0<rows.length) (hk:kp.length<=1000) (hkr:∀ k∈kps kp,k<rows.length) (hO:∀ (k:Nat) (r:Rw) (w:Nat),rows[k]?=some r->w∈r.outs k->w<rows.length) :
  ∃ (cf:CF (Nat×Mrk)) (J:List (List (Nat×Mrk))) (r:Option (List (Nat×Mrk))),z34 [.dat (pD cs ss rows),.dat (cD b kp),.dat (.str nm)] ch0=some (endS ch0 cf J r)∧(r=none->∀ t,Rch (eF rows (kps kp) nm) (bD (kps kp)) t->f9 rows nm t=false)/\∀ q,r=some q->q.length<=10000/\∃ t,Wy (eF rows (kps kp) nm) (f9 rows nm) (bD (kps kp)) t q/\f9 rows nm t=true:=by
 obtain ⟨cf,J,r,h1,h2,h3⟩:=xu (ky:=ky) CW (U:=Un rows.length) (starts:=bD (kps kp)) (beh:=eF rows (kps kp) nm) (fit:=f9 rows nm)
  (fun t O u hu=>by obtain ⟨r,e,_,g,_⟩:=xk hu;exact mem_Un.mpr (hO _ r _ e g))
  (by rw [CY];oo)
  (fun t O=>by
   unfold eF;split
   . simp
   . split
     . simp
     . rw [qa2];exact qc3 (qh5 _ _) (qc3 (Rw.outs_len _ _) \7))
  (fun t O=>by
   obtain ⟨k,hk',rfl⟩:=qd1.mp O;refine mem_Un.mpr ?_;rcases qb6.mp hk' with rfl | z
   . exact hr0
   . exact hkr k z)
  (by unfold bD kps;simp;oo)
 refine ⟨cf,J,r,?_,h2,fun q z=>⟨qc3 (h3 q z).1 \7,(h3 q z).2⟩⟩;have hws:∀ q,r=some q->q.length<=10000:=fun q z=>qc3 (h3 q z).1 \7
 let Z:Option CV->Option CV->Option CV->Sl:=sl8 (pD cs ss rows) (cD b kp) nm;refine gv ?_;show az _ _ (Z none none none) ch0=_
 have t1:tD (tB2 (aY true) (vB 2) (toD (ai y13 (ab (vL 0) ae)))) (Z none none none) ch0=some (false,ch0):=f7 (by show tB2 (aY true) (vB 2) (toD (ai y13 (ab (vL 0) ae))) [some (.leaf (pD cs ss rows)),some (.leaf (cD b kp)),some (.leaf (.str nm)),none,none,none,none,none]=_;walk_at "k";unfold pD;rw [px cs ss _ hl];walk_at "k";rw [kW];simp only [if_true];rw [show (((cs++ss).filter fun h=>!h.b).map (·.x))=plain cs ss from rfl,decide_eq_true h];rfl)
 have t2:aQ 3 (eD (toD (d2 ag (vB 0) #j))) (Z none none none) ch0=some (.nx (Z (some (.dat (dR rows))) none none) ch0):=by
  rw [bg (cB (d:=dR rows) (by show toD (d2 ag (vB 0) #j) [some (.leaf (pD cs ss rows)),some (.leaf (cD b kp)),some (.leaf (.str nm)),none,none,none,none,none]=_;unfold pD;walk_at "k"))]
  rfl
 have t3:aQ 4 (eD (toD (ai y18 (ab (vL 0) (ab (vL 1) ae))))) (Z (some (.dat (dR rows))) none none) ch0=some (.nx (Z (some (.dat (dR rows))) (some (.dat (.lst (ic (kps kp) rows)))) none) ch0):=by
  rw [bg (cB (d:=.lst (ic (kps kp) rows)) (by show toD (ai y18 (ab (vL 0) (ab (vL 1) ae))) [some (.leaf (pD cs ss rows)),some (.leaf (cD b kp)),some (.leaf (.str nm)),some (.leaf (dR rows)),none,none,none,none]=_;walk_at "k";unfold pD cD;rw [xm _ _ _ rows kp hr hk];rfl))]
  rfl
 rw [aF (by rw [f8 t1];rfl),aF t2,aF t3];show az _ _ (Z (some (.dat (dR rows))) (some (.dat (.lst (ic (kps kp) rows)))) none) ch0=_;generalize hδ:Z (some (.dat (dR rows))) (some (.dat (.lst (ic (kps kp) rows)))) none=δ
 have f0:z51 δ ch0=some (.dat (.lst ((bD (kps kp)).map (nD ky))),ch0):=by rw [<- hδ];refine cB ?_;show toD (bF [none] (fIt (toD (d2 bB (toD (bE (ab \6 ae))) (toD (ai q16 (ab (vL 1) ae)))))) (am 0) c7 y50) [some (.leaf (pD cs ss rows)),some (.leaf (cD b kp)),some (.leaf (.str nm)),some (.leaf (dR rows)),some (.leaf (.lst (ic (kps kp) rows))),none,none,none]=_;walk_at "k";unfold cD;rw [sL b kp hk];walk_at "k";rw [wW (small (by simp;oo))];walk_at "k";rw [show (Dt.int 0::(kp.map (fun x=>x.1)).map dI)=(0::kps kp).map dI from rfl,bT (h:=fun k:Nat=>cV (k,.fresh)) fun k _=>⟨_,rfl,rfl,by unfold y50 cV de;walk_at "k";rfl⟩];walk_at "k";rw [cz (by unfold kps;simp;oo)];unfold bD;rw [qc4];rfl
 have fr:fRt [2,3,4] [2,3] ["place","mark","name","rows","inner"] ["place","name","rows"] br bt z51 z58 δ ch0=some (CU (ky:=ky) ch0 cf J r):=by
  refine B5 (c0:=.dat (.lst ((bD (kps kp)).map (nD ky)))) (ch0:=ch0) (a:=[.str nm,dR rows,.lst (ic (kps kp) rows)]) (b:=[.str nm,dR rows]) f0 (by rw [<- hδ];rfl) (by rw [<- hδ];rfl) fun f1 f2 F0 Y=>?_
  refine h1 ch0 _ f1 f2 F0 (fun t O=>?_) fun t O=>?_
  . rw [B3];exact uy (mem_Un.mp O)
  . rw [B4 Y];exact ux (mem_Un.mp O)
 cases r with
 | none =>rw [aF (bg fr),<- hδ];refine dz ?_;rfl
 | some q =>
  rw [aF (bg fr),<- hδ];have hwl:q.length<=10000:=hws q rfl;generalize hH:hpR ky ch0 cf J++[lsC ky q,lsC ky q.reverse]=H
  have hx:H[ch0.length+2+J.length+1]?=some (lsC ky q.reverse):=by rw [<- hH,gR (by rw [k6];oo),k6,show ch0.length+2+J.length+1-(ch0.length+2+J.length)=1 by oo];rfl
  have hHl:H.length=ch0.length+2+J.length+2:=by rw [<- hH,qa8,k6];rfl
  have W:∀ l:List (Nat×Mrk),dats (l.map fun t=>CV.dat (nD ky t))=some (l.map (nD ky)):=fun l=>by
   induction l with
   | nil=>rfl
   | cons a l ih=>simp only [qa7,dats,ih,qd2]
  have hv:vw H (.ref (ch0.length+2+J.length+1))=some (.lst (q.reverse.map (nD ky))):=by show (H[ch0.length+2+J.length+1]?).bind vwO=_;rw [hx];show (dats (q.reverse.map fun t=>CV.dat (nD ky t))).map Dt.lst=_;rw [W];rfl
  refine dz ?_;show eIf _ _ _ (Z (some (.dat (dR rows))) (some (.dat (.lst (ic (kps kp) rows)))) (some (.ref (ch0.length+2+J.length+1)))) H=_
  have ct:j9 (e2 (gIs false) (eV 7) (eD (kD .non))) (Z (some (.dat (dR rows))) (some (.dat (.lst (ic (kps kp) rows)))) (some (.ref (ch0.length+2+J.length+1)))) H=some (false,H):=by unfold j9;rw [sH (ck (v:=.ref (ch0.length+2+J.length+1)) rfl) (show eD (kD .non) _ H=some (.dat .non,H) from rfl) hv rfl (t:=.leaf (.bl false)) rfl];rfl
  unfold eIf;rw [ct];simp only [qa0,qf1,if_false];unfold kA;rw [ck (v:=.ref (ch0.length+2+J.length+1)) rfl];simp only [qa0]
  rw [mt (f:=fun t=>.dat (nD ky t)) (g:=fun t:Nat×Mrk=>.dat (dI t.1)) (xs:=q.reverse) hx (fun t _=>by unfold q64;refine cB ?_;show toD (d2 ag (vB 0) \6) [some (.leaf (cV t))]=_;walk_at "k";rw [sN];rfl) q.length 0 100000 \5 \3]
  simp only [qa0,List.drop_zero];rw [if_pos (by rw [qa2,List.length_reverse];exact small \3),hHl];unfold rIs;rw [hH,qc4];rfl
theorem mw {α β:Type} {bb:Dt->De->Option De} {fe:De->Option Dt} {δ:De} {f:α->Dt} {h:β->Dt} {P:β->Prop}:∀ {l:List α},(∀ a∈l,∃ δ1 y,bb (f a) δ=some δ1/\fe δ1=some (h y)/\P y)->∃ ys:List β,cg bb c7 fe δ (l.map f)=some (ys.map h)/\ys.length=l.length/\∀ y∈ys,P y
 | [],_=>⟨[],rfl,rfl,fun y Y=>by cases Y⟩
 | a::l,q=>by
  obtain ⟨δ1,y,h1,h2,h3⟩:=q a qe1;obtain ⟨ys,e,U,hp⟩:=mw (l:=l) fun e W=>q e (qd0 _ W)
  refine ⟨y::ys,?_,by simp [U],fun z O=>?_⟩
  . rw [qa7];unfold cg;rw [h1,qa0];show ((fe δ1).bind fun y=>_)=_;rw [h2,qa0,e];rfl
  . rcases qb6.mp O with rfl | O
    . exact h3
    . exact hp z O
df many (ns:List Int):Nat:=max 1 (min (ns.length-5) 58)
df xw (ns:List Int):Int:=if (58:Int)<(ns.length:Int)-5 then 58 else (ns.length:Int)-5
theorem CZ (ns:List Int):yP [.int ((ns.length:Int)-5),.int (1+57)]=some (.leaf (.int (xw ns))):=rfl
theorem zP (ns:List Int):qy [.int 1,.int (xw ns)]=some (.leaf (.int (many ns))):=by show some (T.leaf (Dt.int (if (1:Int)<xw ns then xw ns else 1)))=_;congr 3;unfold many xw;split<;>split<;>oo
variable {ns:List Int}
theorem EF {scr:Dt} (q:scr=.lst (ns.map .int)) {B:List Str} {rest:Int} (W:Wld B cs ss) (k:Nat) (hk:k<100) (m:Nat) (Y:0<m) (O:m<=100):∃ r:Rw,y24 [some (.leaf (dI k)),some (.leaf scr),some (.leaf (wD B cs ss rest)),some (.leaf (.int m))]=some r.d/\RwB cs ss m r:=by subst q;obtain ⟨v,U⟩:=kZ ns (6+k) \3;obtain ⟨r,er,Z⟩:=CN v rest B cs ss m W Y O;refine ⟨r,?_,Z⟩;unfold y24 dI;walk_at "d";rw [show (6:Int)+(k:Int)=((6+k:Nat):Int) by oo,U];walk_at "d";rw [er];rfl
variable {j:Nat}
theorem RwB.outs {m:Nat} {r:Rw} (h:RwB cs ss m r) (hi:i+1<m) (q:j∈r.outs i):j<m:=by
 cases r<;>simp [Rw.outs] at q<;>first | oo | skip
 . rcases q with rfl | rfl
   . exact h.2 _ (.inl ⟨_,rfl⟩)
   . exact hi
 . subst q;exact h.2 _ (.inr rfl)
structure Prg (cs ss:List Hd) (rows:List Rw):Prop where
 l0:0<rows.length
 l1:rows.length<=58
 hN:∀ (i:Nat) (r:Rw),rows[i]?=some r->RwN cs ss r
 hO:∀ (i:Nat) (r:Rw) (j:Nat),rows[i]?=some r->j∈r.outs i->j<rows.length
theorem zQ (ns:List Int):∃ (B:List Str) (cs ss:List Hd) (rest:Int) (rows:List Rw),q14 [.lst (ns.map .int)]=some (.leaf (wD B cs ss rest))/\y12 [.lst (ns.map .int),.int 57]=some (.leaf (pD cs ss rows))/\Wld B cs ss/\Prg cs ss rows:=by
 obtain ⟨B,cs,ss,rest,ew,W⟩:=xq ns;have hm:0<many ns:=by unfold many;oo
 have hm2:many ns<=58:=by unfold many;oo
 have b1:=W.b1
 obtain ⟨rows,er,el,hr⟩:=mw (bb:=am 0) (fe:=y24) (δ:=[none,some (.leaf (.lst (ns.map .int))),some (.leaf (wD B cs ss rest)),some (.leaf (.int (many ns)))]) (f:=dI) (h:=Rw.d) (P:=RwB cs ss (many ns)) (l:=qc1 (many ns-1)) fun k hk=>by have hk:=qd5.mp hk;obtain ⟨r,e,h⟩:=EF (ns:=ns) (rest:=rest) rfl W k \3 (many ns) hm \3;exact ⟨_,r,rfl,e,h⟩
 have el:rows.length=many ns-1:=by simpa using el
 obtain ⟨ds,ed,eld,hd⟩:=eI rest [2,many ns,B.length+1,1099511627776] (by intro z hz;simp at hz;oo) \5;have hl:ds.length=4:=eld
 obtain ⟨Y,g,bx,O,rfl⟩:∃ Y g bx O,ds=[Y,g,bx,O]:=by
  match ds,hl with
  | [Y,g,bx,O],_=>exact ⟨Y,g,bx,O,rfl⟩
 have hla:Y<2:=hd 0 _ _ rfl rfl;have hg:g<many ns:=hd 1 _ _ rfl rfl;have hbx:bx<B.length+1:=hd 2 _ _ rfl rfl
 have ed':y2 [.int rest,.lst [.int 2,.int (many ns),.int ((B.length:Int)+1),.int wide]]=some (.lst [.int Y,.int g,.int bx,.int O]):=by rw [qM];exact ed
 obtain ⟨at1,ha,ea⟩:=nJ (B:=B) (v:=O) (j:=bx) \3 hbx
 obtain ⟨last,Z,U⟩:∃ last:Rw,atI [Dt.tup [.str "end",at1.d],.tup [.str "go",.int g]] (Y:Int)=some last.d/\((∃ a,AtB B a/\last=.fin a)∨(∃ g,g<many ns/\last=.go g)):=by
  have q:Y=0∨Y=1:=by oo
  rcases q with rfl | rfl
  . exact ⟨.fin at1,rfl,.inl ⟨at1,ha,rfl⟩⟩
  . exact ⟨.go g,rfl,.inr ⟨g,hg,rfl⟩⟩
 have hlb:RwB cs ss (many ns) last:=by
  rcases U with ⟨a,h,rfl⟩ | ⟨g,h,rfl⟩
  . exact ⟨trivial,fun g z=>by simp at z⟩
  . exact ⟨trivial,fun g' z=>by simp at z;rw [<- z];exact h⟩
 have hlo:∀ i j,j∈last.outs i->j<many ns:=fun i j hj=>by
  rcases U with ⟨a,h,rfl⟩ | ⟨g,h,rfl⟩
  . cases hj
  . rw [qb9.mp hj];exact h
 refine ⟨B,cs,ss,rest,rows++[last],ew,?_,W,⟨by simp,by simp;oo,fun i r h=>?_,fun i r j h hj=>?_⟩⟩
 . unfold y12;walk_at "d";rw [ew];walk_at "d";simp only [qa2];rw [CZ];walk_at "d";rw [zP];walk_at "d";rw [show ((many ns:Nat):Int)-1=((many ns-1:Nat):Int) by oo,fZ \3,qa0,cq,er,qa0,cz (by rw [qa2];oo)];walk_at "d";unfold wD;walk_at "d";unfold dS;walk_at "d";simp only [qa2];rw [ed'];walk_at "d";unfold oU aR fB;walk_at "d";simp only [qs2,if_true];walk_at "d";rw [mm rfl];walk_at "d";rw [ea];walk_at "d";rw [Z];walk_at "d";rw [iL (by rw [qa2];oo)];walk_at "d";unfold pD dR;rw [qc7];rfl
 . by_cases hi:i<rows.length
   . rw [qa5 hi] at h;exact (hr r (qd3 h)).1
   . rw [gR \3] at h;have:=qd3 h;rw [qb9.mp this];exact hlb.1
 . rw [qa8,qh3];by_cases hi:i<rows.length
   . rw [qa5 hi] at h;have:=(hr r (qd3 h)).outs (i:=i) (j:=j) \3 hj;oo
   . rw [gR \3] at h;have:=qd3 h;rw [qb9.mp this] at hj;have:=hlo i j hj;oo
df tS (l:List Str):Dt:=.tup (l.map .str)
df kq (l:List (Nat×List Str)):List (Nat×Dt):=l.map fun p=>(p.1,tS p.2)
df keD (p:Nat×List Str):Dt:=.tup [dI p.1,tS p.2]
theorem uG (h:j<=20):(0:Int)<1*2^j/\(1:Int)*2^j<10000000000000:=by have:j∈qc1 21:=qd5.mpr \3;revert j;decide +kernel
theorem qQ (h:j<=20):qE (.int 1) (.int (j:Int))=some (.leaf (.int (1*2^j))):=by rw [Cc \3 \3,qe4]
theorem sV (B:List Str) (n:Int) (U:B.length<=20):∃ m:List Str,y21 [.lst (B.map .str),.int n]=some (.leaf (tS m)):=by
 have O:cg (am 0) q42 q43 [none,some (.leaf (.lst (B.map .str))),some (.leaf (.int n))] ((qc1 B.length).map dI)=some (((qc1 B.length).filter (fun j=>decide (n/(1*2^j)%2=1))).map fun j=>.str (B.getD j "")):=
  ce fun j q=>⟨_,rfl,by
   have q:=qd5.mp q;unfold q42 dI;walk_at "k";rw [qQ \3];walk_at "k";rw [bK (uG \3).1 (uG \3).2];walk_at "k",fun _=>by
   have q:=qd5.mp q;unfold q43 dI;walk_at "k";rw [sP q];rfl⟩
 refine ⟨((qc1 B.length).filter (fun j=>decide (n/(1*2^j)%2=1))).map fun j=>B.getD j "",?_⟩;unfold y21;walk_at "k";rw [qa2,fZ \3,qa0,cq,O,qa0,cz (by rw [qa2];exact qc3 (qh5 _ _) (by simp;oo))];walk_at "k";unfold tS;rw [qc4];rfl
df sC (ns:List Int) (P:Dt) (B:List Str) (q:Int) (x4:Option T) (O:Int) (done:List (Nat×List Str)) (U:Option T):De:=[some (.leaf (.lst (ns.map .int))),some (.leaf P),some (.leaf (.lst (B.map .str))),some (.leaf (.int q)),x4,some (.leaf (.int O)),some (.lst (done.map keD)),U]
df zR (q:Int):Prop:=q=2∨q=4∨q=8
variable {P:Dt}
theorem xx {B:List Str} (hB:B.length<=20) (U sh:Int) (hs:zR sh) (done:List (Nat×List Str)) (t:Nat) (ht:t<=1000) (hd:done.length<=1000) (x4:Option T) :
  ∃ (e:List (Nat×List Str)) (num' Y:Int),zR Y/\(∀ p∈e,p.1=t)/\e.length<=1/\q25 (sC ns P B U x4 sh done (some (.leaf (dI t))))=some (.nx (sC ns P B num' x4 Y (done++e) (some (.leaf (dI t))))):=by
 unfold q25;have ca:y1 [.lst (ns.map .int),.int 0]=some (.leaf (.int (ns.getD 0 0))):=iO ns 0;generalize ns.getD 0 0=c at ca;obtain ⟨v,ev⟩:=sO U t \3
 have first:∃ (n1 Z:Int),zR Z/\sIf (tB2 #f (toD (d2 dB (toD (ai y1 (ab (vL 0) (ab \6 ae)))) #j)) \8) (aG (bf 3 (toT (toD (ai z16 (ab (vL 3) (ab (vL 7) ae))))))
  (bf 5 (toT (toD (d2 ag (toD (bE (ab #j (ab (kD (.int 4)) (ab (kD (.int 8)) ae))))) (toD (d2 dB (toD (d2 ci (toD (ai y1 (ab (vL 0) (ab \6 ae)))) (kD (.int 6)))) (kD (.int 3))))))))) cJ (sC ns P B U x4 sh done (some (.leaf (dI t))))=some (.nx (sC ns P B n1 x4 Z done (some (.leaf (dI t))))):=by
  unfold sC dI;walk_at "k";rw [ca];walk_at "k";by_cases q:c%2=1
  . rw [iJ (by simpa using q)];walk_at "k";rw [ev];walk_at "k";rw [ca];walk_at "k";rw [bK \7 \7];walk_at "k";obtain ⟨k,hk,ek⟩:=kQ (c/6) (n:=3) \7;have ek':c/6%3=(k:Int):=ek;rw [ek'];have q:k=0∨k=1∨k=2:=by oo
    rcases q with rfl | rfl | rfl
    . exact ⟨v,2,.inl rfl,rfl⟩
    . exact ⟨v,4,.inr (.inl rfl),rfl⟩
    . exact ⟨v,8,.inr (.inr rfl),rfl⟩
  . rw [iK (by simpa using q)];exact ⟨U,sh,hs,rfl⟩
 obtain ⟨n1,s1,W,e1⟩:=first
 have p1:0<s1:=by rcases W with rfl | rfl | rfl<;>decide
 have p2:s1<10000000000000:=by rcases W with rfl | rfl | rfl<;>decide
 rw [kP,e1,f6,kP]
 have O:∃ (e:List (Nat×List Str)),(∀ p∈e,p.1=t)/\e.length<=1/\sIf (tB2 #f (toD (d2 dB (vB 3) (vB 5))) \8) (q20 6 (toD (bj (ab (vL 7) (ab (toD (ai y21 (ab (vL 2) (ab (toD (d2 ci (vB 3) (vB 5))) ae)))) ae))))) cJ (sC ns P B n1 x4 s1 done (some (.leaf (dI t))))=some (.nx (sC ns P B n1 x4 s1 (done++e) (some (.leaf (dI t))))):=by
  obtain ⟨m,em⟩:=sV B (n1/s1) hB;unfold sC dI;walk_at "k";rw [qH p1];walk_at "k";by_cases q:n1%s1=1
  . rw [iJ (by simpa using q),mm (l:=done.map keD) rfl];walk_at "k";rw [bK p1 p2];walk_at "k";rw [em];walk_at "k";refine ⟨[(t,m)],by simp,by simp,?_⟩;unfold Cl;rw [if_pos (by rw [qa2];exact dy \3),qc7];rfl
  . rw [iK (by simpa using q)];exact ⟨[],by simp,by simp,by rw [qh2];rfl⟩
 obtain ⟨e,h1,h2,e2⟩:=O;rw [e2,f6];refine ⟨e,n1/s1/(1*2^B.length),s1,W,h1,h2,?_⟩;unfold sC;walk_at "k";rw [bK p1 p2];walk_at "k";rw [qa2,qQ hB];walk_at "k";rw [bK (uG hB).1 (uG hB).2];rfl
theorem pJ {ns:List Int} {P:Dt} {B:List Str} (hB:B.length<=20) (x4:Option T):∀ (d t:Nat) (O U:Int) (done:List (Nat×List Str)) (Y:Option T),zR U->t+d<=1000->done.length+d<=1000->(∀ p∈done,p.1<t)->(done.map (·.1)).Nodup→
  ∃ (all:List (Nat×List Str)) (W Z:Int) (y7:Option T),(∀ p∈all,p.1<t+d)/\(all.map (·.1)).Nodup/\all.length<=done.length+d/\d6 (am 7) q25 ((List.range' t d).map dI) (sC ns P B O x4 U done Y)=some (.nx (sC ns P B W x4 Z all y7))
 | 0,t,O,U,done,Y,_,_,_,h,nd=>⟨done,O,U,Y,h,nd,by oo,rfl⟩
 | d+1,t,O,U,done,Y,hs,h1,h2,h,nd=>by
  obtain ⟨e,n1,s1,hs1,he,hel,hb⟩:=xx (ns:=ns) (P:=P) hB O U hs done t \3 \3 x4
  obtain ⟨all,n2,s2,y7,g1,g0,g2,g3⟩:=pJ hB x4 d (t+1) n1 s1 (done++e) (some (.leaf (dI t))) hs1 \3 (by rw [qa8];oo) (fun p hp=>by
   rcases qg2.mp hp with z | z
   . have:=h p z;oo
   . have:=he p z;oo) (by
   rw [qc7,qf4];refine ⟨nd,?_,fun a ha b hb=>?_⟩
   . match e,hel with
     | [],_=>exact qv0
     | [p],_=>simp
   . obtain ⟨p,hp,rfl⟩:=qd1.mp ha;obtain ⟨q,hq,rfl⟩:=qd1.mp hb;have:=h p hp;have:=he q hq;oo)
  refine ⟨all,n2,s2,y7,fun p hp=>by have:=g1 p hp;oo,g0,by rw [qa8] at g2;oo,?_⟩;rw [List.range'_succ,qa7,cN (δ1:=sC ns P B O x4 U done (some (.leaf (dI t)))) rfl hb,g3]
theorem qR {ns:List Int} {B:List Str} (q:B.length<=20) (hr:rows.length<=1000):∃ (bs:List Str) (kl:List (Nat×List Str)),q12 [.lst (ns.map .int),pD cs ss rows,.lst (B.map .str)]=some (.leaf (cD (tS bs) (kq kl)))/\(∀ p∈kl,p.1<rows.length)/\(kl.map (·.1)).Nodup/\kl.length<=rows.length:=by obtain ⟨v,Y⟩:=kZ ns 4 \3;have O:z11 [.lst (ns.map .int),.int 4]=some (.leaf (.int v)):=Y;obtain ⟨m,Z⟩:=sV B v q;obtain ⟨all,n2,s2,y7,g1,W,g2,U⟩:=pJ (ns:=ns) (P:=pD cs ss rows) (B:=B) q (some (.leaf (tS m))) rows.length 0 (v/(1*2^B.length)) 2 [] none (.inl rfl) \3 (by simp;oo) \5 \5;refine ⟨m,all,?_,fun p hp=>by have:=g1 p hp;oo,W,by simpa using g2⟩;unfold q12;walk_at "k";rw [O];walk_at "k";rw [Z];walk_at "k";rw [qa2,qQ q];walk_at "k";rw [bK (uG q).1 (uG q).2];walk_at "k";unfold pD dR;walk_at "k";rw [qa2,fZ \3,qa0,cq,List.range_eq_range'];unfold sC pD dR at U;rw [show (some (T.lst []):Option T)=some (.lst (([]:List (Nat×List Str)).map keD)) from rfl,U];walk_at "k";unfold cD kpD kq;rw [qc4];rfl
theorem zS {B:List Str} {rest:Int} (Z:q14 [.lst (ns.map .int)]=some (.leaf (wD B cs ss rest))) (W:Wld B cs ss):∃ b:List Str,z15 [.lst (ns.map .int)]=some (.lst (b.map .str))/\b.length<=20:=by
 have b1:=W.b1
 have sl:∃ c':List Hd,c'.length<=1/\wO (.tup (cs.map hdD)) none (some 1)=some (.leaf (.tup (c'.map hdD))):=by
     match cs with
     | []=>exact ⟨[],by simp,rfl⟩
     | [h]=>exact ⟨[h],by simp,rfl⟩
     | h::h'::r =>
      refine ⟨[h],by simp,?_⟩
      have Y:HT.sIx ((h::h'::r).map hdD).length ((h::h'::r).map hdD).length (some 1)=1:=by
       unfold HT.sIx;simp
       try oo
      have e0:HT.sIx ((h::h'::r).map hdD).length 0 none=0:=rfl;show (if HT.sIx ((h::h'::r).map hdD).length 0 none=0/\HT.sIx ((h::h'::r).map hdD).length ((h::h'::r).map hdD).length (some 1)=((h::h'::r).map hdD).length then some (T.leaf (.tup ((h::h'::r).map hdD))) else some (T.leaf (.tup (qe ((h::h'::r).map hdD) none (some 1)))))=_;rw [if_neg (by rw [Y];simp)];unfold qe;rw [Y,e0];rfl
 obtain ⟨c',q,es⟩:=sl
 have O:cg (am 0) c7 z42 [none] (c'.map hdD)=some (c'.map fun h=>.str h.x):=bT (h:=fun h:Hd=>Dt.str h.x) fun h _=>⟨_,rfl,rfl,by unfold z42 hdD;walk_at "k"⟩
 have hl:(c'.map (·.x)).length<=1:=by simpa using q
 rw [show (c'.map fun h=>Dt.str h.x)=(c'.map (·.x)).map Dt.str by rw [qc4];rfl] at O;generalize c'.map (·.x)=l at O hl;have hg:=pk (l:=B++l++[("zz":Str)]) (by simp;oo)
 have U:(iF (dG (B++l++[("zz":Str)]))).length<=20:=by
  have:=cj (pi (B++l++[("zz":Str)])) (m:=B++l++[("zz":Str)]) fun x hx=>onces_mem.mp hx
  rw [(g9 _).length_eq];rw [qa8,qa8,qh3] at this;oo
 refine ⟨_,?_,U⟩;unfold z15;walk_at "k";rw [Z];unfold wD i4 aR fB am;walk_at "k";simp only [qs2,if_true];walk_at "k";unfold dS;rw [show (fun (d:Dt) (δ:De)=>some (List.set δ 0 (some (T.leaf d))))=am 0 from rfl];rw [show zi (vB 2) oI (lN \8) [some (.leaf (.lst (ns.map .int))),some (.leaf (.lst (B.map .str))),some (.leaf (.tup (cs.map hdD))),some (.leaf (.tup (ss.map hdD))),some (.leaf (.int rest))]=wO (.tup (cs.map hdD)) none (some 1) from rfl,es];walk_at "k";rw [O];walk_at "k";rw [cz (by rw [qa2];oo)];walk_at "k"
 have g1:bB (.lst (B.map .str)) (.lst (l.map .str))=some (.lst ((B++l).map .str)):=by show (if _ then _ else none)=_;rw [if_pos (by rw [qa2,qa2];exact small \3),qc7]
 have g2:bB (.lst ((B++l).map .str)) (.lst [.str "zz"])=some (.lst ((B++l++[("zz":Str)]).map .str)):=by show (if _ then _ else none)=_;rw [if_pos (by rw [qa2,qa8];exact small (by simp;oo))];show some (T.lst ((B++l).map Dt.str++[("zz":Str)].map Dt.str))=_;rw [<- qc7]
 rw [g1];walk_at "k";rw [g2];walk_at "k";rw [hg];rfl
end P34
namespace L2
open PySem
variable {L:List Nat} {x j w:Nat} {r:Rw}
section
variable {rows:List Rw} {kept:List Nat} {nm:Str}
theorem nN (h:j<L.length):(L++[x]).getD j 0=L.getD j 0:=by rw [qb3,qb3,qa5 h]
theorem gd_r (h:j=L.length):(L++[x]).getD j 0=x:=by subst h;simp [qb3]
structure Pth (rows:List Rw) (kept:List Nat) (nm:Str) (W:List Nat) (m:Mrk) (z:Nat):Prop where
 last:∃ n,W.length=n+1/\W.getD n 0=z
 hd:W.getD 0 0=0∨W.getD 0 0∈kept
 lt:∀ k∈W,k<rows.length
 nx:∀ k,k+1<W.length->W.getD (k+1) 0∉kept/\∃ r,rows[W.getD k 0]?=some r/\W.getD (k+1) 0∈r.outs (W.getD k 0)
 mks:(m=.fresh/\∀ j,j+1<W.length->gA rows nm (W.getD j 0)=false/\sA rows nm (W.getD j 0)=false)∨(m=.seen/\∃ g,g+1<W.length/\gA rows nm (W.getD g 0)=true/\(∀ j,j<g->gA rows nm (W.getD j 0)=false/\sA rows nm (W.getD j 0)=false)/\∀ j,g<j->j+1<W.length->pA rows nm (W.getD j 0)=false)
theorem C0 (hn:0<rows.length) (hk:∀ k∈kept,k<rows.length) (hO:∀ (i:Nat) (r:Rw) (j:Nat),rows[i]?=some r->j∈r.outs i->j<rows.length) {t:Nat×Mrk} {r:List (Nat×Mrk)} (h:Wy (eF rows kept nm) (f9 rows nm) (bD kept) t r) :
  Pth rows kept nm (r.reverse.map (·.1)) t.2 t.1:=by
 induction h with
 | @one t h =>
  obtain ⟨k,hk1,rfl⟩:=qd1.mp h;refine ⟨⟨0,rfl,rfl⟩,?_,fun j U=>?_,fun j U=>absurd U \5,.inl ⟨rfl,fun j U=>absurd U \5⟩⟩
  . rcases qb6.mp hk1 with rfl | z
    . exact .inl rfl
    . exact .inr z
  . have:j=k:=by simpa using U
    subst this;rcases qb6.mp hk1 with rfl | z
    . exact hn
    . exact hk _ z
 | @more t p r h hf w ih =>
  obtain ⟨O,e,g1,g2,g3,g4⟩:=xk h
  have Y:mb p.2 O nm≠.spoilt:=fun z=>by unfold f9 at hf;rw [e] at hf;simp [z] at hf
  rw [qr2,qc7];show Pth rows kept nm (r.reverse.map (·.1)++[t.1]) t.2 t.1;obtain ⟨⟨n,e1,e2⟩,h2,h3,h4,h5⟩:=ih;generalize r.reverse.map (·.1)=L at*
  have hg:=AV (nm:=nm) e;have hp:=xi (nm:=nm) e;have hs:=Ew (nm:=nm) e;refine ⟨⟨n+1,by simp [e1],gd_r e1.symm⟩,by rw [nN \3];exact h2,fun k hk=>?_,fun k hk=>?_,?_⟩
  . rcases qg2.mp hk with z | z
    . exact h3 k z
    . rw [qb9.mp z];exact hO _ O _ e g2
  . rw [qa8] at hk;have hk:k+1<L.length+1:=hk;rw [nN (show k<L.length by oo)];by_cases z:k+1=L.length
    . rw [gd_r z];have:k=n:=by oo
      rw [this,e2];exact ⟨g3,O,e,g2⟩
    . rw [nN \3];exact h4 k \3
  . have Z:(L++[t.1]).length=n+2:=by simp [e1]
    rw [Z];rw [e1] at h5;rcases h5 with ⟨m0,q⟩ | ⟨m0,g,q1,q2,q3,q4⟩
    . rw [m0] at g1 g4 Y;cases W:O.gets nm with
      | true =>right;refine ⟨by rw [g4];simp [mb,W],n,by oo,by rw [nN \3,e2,hg];exact W,fun j U=>?_,fun j h1 h2=>by oo⟩;rw [nN \3];exact q j \3
      | false =>
       cases c2:O.stores nm with
       | true=>exact absurd (by simp [mb,W,c2]) g1
       | false =>
        left;refine ⟨by rw [g4];simp [mb,W,c2],fun j U=>?_⟩;rw [nN \3];by_cases z:j=n
        . rw [z,e2,hg,hs];exact ⟨W,c2⟩
        . exact q j \3
    . rw [m0] at g1 g4 Y;cases W:O.puts nm with
      | true=>exact absurd (by simp [mb,W]) Y
      | false =>
       right;refine ⟨by rw [g4];simp [mb,W],g,by oo,by rw [nN \3];exact q2,fun j U=>?_,fun j h1 h2=>?_⟩
       . rw [nN \3];exact q3 j U
       . rw [nN \3];by_cases z:j=n
         . rw [z,e2,hp];exact W
         . exact q4 j h1 \3
theorem zT {shelf:Bool} (K:Kd rows nm shelf) {W:List Nat} {m:Mrk} {z:Nat} (p:Pth rows kept nm W m z) (U:f9 rows nm (z,m)=true) :
  ∃ n g,W.length=n+1/\g<n/\gA rows nm (W.getD g 0)=true/\(∀ j,j<g->gA rows nm (W.getD j 0)=false)/\pA rows nm (W.getD n 0)=true/\(shelf=false->∀ j,j<n->pA rows nm (W.getD j 0)=false):=by
 obtain ⟨n,e1,e2⟩:=p.last
 have Y:∃ r,rows[z]?=some r/\mb m r nm=.spoilt:=by
  unfold f9 at U;split at U
  . cases U
  . rename_i r e;exact ⟨r,e,of_decide_eq_true U⟩
 obtain ⟨r,e,O⟩:=Y;rcases p.mks with ⟨Z,q⟩ | ⟨Z,g,q1,q2,q3,q4⟩
 . rw [Z] at O;rcases mn O with z | ⟨z,_⟩<;>cases z
 . rw [Z] at O;rcases mn O with z | ⟨_,hp⟩
   . cases z
   . refine ⟨n,g,e1,by oo,q2,fun j hj=>(q3 j hj).1,by rw [e2,xi e];exact hp,fun hs j hj=>?_⟩;rcases Nat.lt_trichotomy j g with h | h | h
     . rw [K.c hs];exact (q3 j h).2
     . subst h;exact zJ q2
     . exact q4 j h \3
df P1 (rows:List Rw) (kept:List Nat) (nm:Str) (k:Nat):Prop:=Rch (eF rows kept nm) (bD kept) (k,.fresh)∨Rch (eF rows kept nm) (bD kept) (k,.seen)
df P2 (rows:List Rw) (kept:List Nat) (nm:Str) (k:Nat):Prop:=Rch (eF rows kept nm) (bD kept) (k,.seen)
theorem P1.start {k:Nat} (h:k=0∨k∈kept):P1 rows kept nm k:=.inl (.one (qd1.mpr ⟨k,qb6.mpr h,rfl⟩))
theorem P2.put (q:∀ t,Rch (eF rows kept nm) (bD kept) t->f9 rows nm t=false) {k:Nat} (h:P2 rows kept nm k) (e:rows[k]?=some r):r.puts nm=false:=by
 have:=q _ h;unfold f9 at this;rw [e] at this;cases c:r.puts nm with
 | false=>rfl
 | true=>simp [mb,c] at this
theorem P2.step (q:∀ t,Rch (eF rows kept nm) (bD kept) t->f9 rows nm t=false) {k:Nat} (h:P2 rows kept nm k) (e:rows[k]?=some r) (O:w∈r.outs k) (hk:w∉kept):P2 rows kept nm w:=by
 have hp:=h.put q e;have m:mb .seen r nm=.seen:=by simp [mb,hp]
 have:=Rch.more h (qK (m:=.seen) e (by rw [m];exact fun z=>nomatch z) O hk);rw [m] at this;exact this
theorem P1.get (q:∀ t,Rch (eF rows kept nm) (bD kept) t->f9 rows nm t=false) {k:Nat} (h:P1 rows kept nm k) (e:rows[k]?=some r) (U:r.gets nm=true) (O:w∈r.outs k) (hk:w∉kept):P2 rows kept nm w:=by
 rcases h with h | h
 . have m:mb .fresh r nm=.seen:=by simp [mb,U]
   have:=Rch.more h (qK (m:=.fresh) e (by rw [m];exact fun z=>nomatch z) O hk);rw [m] at this;exact this
 . exact P2.step q h e O hk
theorem P1.step (q:∀ t,Rch (eF rows kept nm) (bD kept) t->f9 rows nm t=false) {k:Nat} (h:P1 rows kept nm k) (e:rows[k]?=some r) (W:r.stores nm=false) (O:w∈r.outs k) (hk:w∉kept):P1 rows kept nm w:=by
 cases U:r.gets nm with
 | true=>exact .inr (h.get q e U O hk)
 | false =>
  rcases h with h | h
  . have m:mb .fresh r nm=.fresh:=by simp [mb,U,W]
    have:=Rch.more h (qK (m:=.fresh) e (by rw [m];exact fun z=>nomatch z) O hk);rw [m] at this;exact .inl this
  . exact .inr (P2.step q h e O hk)
end
end L2
namespace P34
open PySem L2
variable {g:Fs} {δ:Sl} {ch ch1:CH} {o:Option Og}
theorem cZ {f:Fs} {δ1:Sl} (h:f δ ch=some (.nx δ1 ch1)) (h':g δ1 ch1=o):az f g δ ch=o:=(aF h).trans h'
variable {c:Ft} {a b:Fs}
theorem if_t (h:c δ ch=some (true,ch1)) (h':a δ ch1=o):dN c a b δ ch=o:=(ia h).trans h'
theorem xy (h:c δ ch=some (false,ch1)) (h':b δ ch1=o):dN c a b δ ch=o:=(f8 h).trans h'
df kI (j:Nat):Key:=.inl (j:Int)
variable {j:Nat}
theorem qS {a:Nat} (z:kI a=kI j):a=j:=by unfold kI at z;have:=qv5.inj z;oo
df cK (seen:List Nat):CO:=.dK (seen.map fun j=>(kI j,.dat (.bl true)))
df cL (left:List Nat):CO:=.lst (left.map fun j=>.dat (dI j))
theorem nO:∀ l:List Nat,dats ((l.map fun j=>(kI j,CV.dat (.bl true))).map (·.2))=some (l.map fun _=>Dt.bl true)
 | []=>rfl
 | j::l=>by have:=nO l;simp only [qa7,dats] at this ⊢;rw [this];rfl
theorem nQ:∀ l:List Nat,dats (l.map fun j=>CV.dat (dI j))=some (l.map dI)
 | []=>rfl
 | j::l=>by have:=nQ l;simp only [qa7,dats] at this ⊢;rw [this];rfl
theorem xz:∀ l:List Nat,(l.map fun j=>kI j).zip (l.map fun _=>Dt.bl true)=l.map fun j=>(kI j,.bl true)
 | []=>rfl
 | j::l=>by simp only [qa7,List.zip_cons_cons,xz l]
theorem C3 (seen:List Nat):tvO (cK seen)=some (.dct (seen.map fun j=>(kI j,.bl true))):=by unfold tvO cK;dsimp only;rw [nO,qd2,qc4];congr 2;exact xz seen
theorem zU (left:List Nat):tvO (cL left)=some (.lst (left.map dI)):=by unfold tvO cL;dsimp only;rw [nQ];rfl
theorem mx (j:Nat):∀ seen:List Nat,(c8 (seen.map fun j=>kI j) (seen.map fun _=>Dt.bl true) (kI j)).isSome=decide (j∈seen)
 | []=>rfl
 | a::seen=>by
  simp only [qa7,c8];by_cases h:a=j
  . subst h;rw [if_pos rfl];simp
  . have h':¬ j=a:=fun z=>h z.symm
    rw [if_neg (fun z=>h (qS z)),mx j seen];simp [h']
theorem jg (j:Nat):∀ seen:List Nat,j∉seen->dO (seen.map fun j=>(kI j,CV.dat (.bl true))) (kI j) (.dat (.bl true))=(seen++[j]).map fun j=>(kI j,.dat (.bl true))
 | [],_=>rfl
 | a::seen,h=>by
  have h1:¬ a=j:=fun z=>h (z▸.head _)
  simp only [qa7,qm5];unfold dO;rw [if_neg (fun z=>h1 (qS z)),jg j seen fun z=>h (.tail _ z)]
theorem sW {seen:List Nat} (h:seen.Nodup):((seen.map fun j=>(kI j,CV.dat (.bl true))).map (·.1)).Nodup:=by rw [qc4,qh8,qr3];exact zb0 (fun {a b} (z:a≠b) e=>z (qS e)) h
theorem pK (rows:List Rw) (n:Nat) (r:Rw) (h:rows[n]?=some r):z8 [dR rows,.int n]=some (.lst ((r.outs n).map dI)):=by
 have e:ag (dR rows) (.int n)=some (.leaf r.d):=by unfold dR;rw [AB,bM,qb0,h];rfl
 cases r<;>(unfold z8;simp only [Rw.d] at e;walk_at "k";repeat (rw [e];walk_at "k"))<;>rfl
df tK (l:List Nat):T:=.dct (l.map fun j=>(kI j,.bl true))
df jH (kept:List Nat) (r:Rw) (j:Nat):List Nat:=(r.outs j).filter fun w=>!decide (w∈kept)
theorem gi (kept:List Nat) (r:Rw) (j:Nat):(jH kept r j).length<=2:=qc3 (qh5 _ _) (by cases r<;>simp [Rw.outs])
variable {neg:Bool}
theorem xA (l:List Nat) (j:Nat):aY neg (dI j) (.dct ((l.map fun j=>(kI j,Dt.bl true)).map (·.1)) ((l.map fun j=>(kI j,Dt.bl true)).map (·.2)))=some (.leaf (.bl (if neg then !decide (j∈l) else decide (j∈l)))):=by rw [Em,qc4,qc4];unfold dI;show some (T.leaf (.bl (if neg then !(c8 (l.map fun j=>kI j) (l.map fun _=>Dt.bl true) (kI j)).isSome else (c8 (l.map fun j=>kI j) (l.map fun _=>Dt.bl true) (kI j)).isSome)))=_;rw [mx]
variable {ft:De->Option Bool}
theorem xB (q:ft=tB2 (aY true) (vB 0) (vB 1)) (kept:List Nat) (r:Rw) (j:Nat):cg (am 0) ft (vL 0) [none,some (tK kept)] ((r.outs j).map dI)=some ((jH kept r j).map dI):=by
 subst q
 exact ce (h:=dI) (p:=fun w=>!decide (w∈kept)) fun w O=>⟨_,rfl,by show ((aY true (dI w) (.dct ((kept.map fun j=>(kI j,Dt.bl true)).map (·.1)) ((kept.map fun j=>(kI j,Dt.bl true)).map (·.2)))).bind asB)=_;rw [xA];rfl,fun _=>rfl⟩
variable {rows:List Rw} {r:Rw}
theorem sX (q:ft=tB2 (aY true) (vB 0) (vB 1)) {kept:List Nat} (U:rows[j]?=some r) {δ:De} {k:Nat} (Y:δ[0]?=some (some (.leaf (dR rows)))) (h1:δ[1]?=some (some (tK kept))) (h2:δ[k]?=some (some (.leaf (dI j)))) :
  bF [none,some 1] (fIt (toD (ai z8 (ab (vL 0) (ab (vL k) ae))))) (am 0) ft (vL 0) δ=some (.lst ((jH kept r j).map dI)):=by
 have e0:vL 0 δ=some (dR rows):=by unfold vL;rw [Y]
 have e2:vL k δ=some (dI j):=by unfold vL;rw [h2]
 unfold bF
 have W:fIt (toD (ai z8 (ab (vL 0) (ab (vL k) ae)))) δ=some ((r.outs j).map dI):=by unfold fIt toD ai ab ae;simp only [e0,e2,qa0,qd2];rw [show z8 [dR rows,dI j]=_ from pK rows j r U];rfl
 have O:dC [none,some 1] δ=[none,some (tK kept)]:=by unfold dC;simp [h1]
 rw [W,qa0,O,xB q,qa0,if_pos (by rw [qa2];exact small (qc3 (gi _ _ _) \7))]
structure RH (ch0 ch:CH) (seen left:List Nat):Prop where
 old:∀ i,i<ch0.length->ch[i]?=ch0[i]?
 s:ch[ch0.length]?=some (cK seen)
 l:ch[ch0.length+1]?=some (cL left)
variable {P:Nat->Prop}
section
variable {rows:List Rw} {kept st seen left:List Nat} {nm:Str} {ch0 ch:CH} {ik is:Nat}
theorem RH.setL (R:RH ch0 ch seen left) (l:List Nat):RH ch0 (ch.set (ch0.length+1) (cL l)) seen l:=by
 have q:=(gX R.l).1;refine ⟨fun i hi=>?_,?_,?_⟩
 . rw [gN \3];exact R.old i hi
 . rw [gN \3];exact R.s
 . rw [qd8 q]
theorem RH.setS (R:RH ch0 ch seen left) (l:List Nat):RH ch0 (ch.set ch0.length (cK l)) l left:=by
 have q:=(gX R.s).1;refine ⟨fun i hi=>?_,?_,?_⟩
 . rw [gN \3];exact R.old i hi
 . rw [qd8 q]
 . rw [gN \3];exact R.l
theorem RH.app (R:RH ch0 ch seen left) (x:CH):RH ch0 (ch++x) seen left:=by
 have q:=(gX R.l).1;refine ⟨fun i hi=>?_,?_,?_⟩
 . rw [qa5 \3];exact R.old i hi
 . rw [qa5 \3];exact R.s
 . rw [qa5 \3];exact R.l
df s7 (rows:List Rw) (ik is:Nat) (nm:Str) (n:Nat) (x6:Option Dt):Sl:=[some (.dat (dR rows)),some (.ref ik),some (.ref is),some (.dat (.str nm)),some (.ref n),some (.ref (n+1)),x6.map .dat]
df d7 (rows:List Rw) (kept st:List Nat) (nm:Str) (seen left:List Nat) (x6:Option Dt):De:=[some (.leaf (dR rows)),some (tK kept),some (.lst (st.map dI)),some (.leaf (.str nm)),some (tK seen),some (.lst (left.map dI)),x6.map .leaf]
theorem pL (hk:ch0[ik]?=some (cK kept)) (q:ch0[is]?=some (cL st)) (Y:ik≠is) (R:RH ch0 ch seen left) (x6:Option Dt):lo (s7 rows ik is nm ch0.length x6) ch=d7 rows kept st nm seen left x6:=by
 have O:ik<ch0.length:=(gX hk).1;have Z:is<ch0.length:=(gX q).1;have h1:(ch[ik]?).bind tvO=some (tK kept):=by rw [R.old ik O,hk];exact C3 kept
 have h2:(ch[is]?).bind tvO=some (.lst (st.map dI)):=by rw [R.old is Z,q];exact zU st
 have h3:(ch[ch0.length]?).bind tvO=some (tK seen):=by rw [R.s];exact C3 seen
 have U:(ch[ch0.length+1]?).bind tvO=some (.lst (left.map dI)):=by rw [R.l];exact zU left
 have n1:¬ is∈[ik]:=by simp;oo
 have n2:¬ ch0.length∈[is,ik]:=by simp;oo
 have W:¬ ch0.length+1∈[ch0.length,is,ik]:=by simp;oo
 unfold lo s7 d7;cases x6<;>simp only [loA,qd2,qy5,qj3,if_false,n1,n2,W,h1,h2,h3,U]
theorem nR (hk:ch0[ik]?=some (cK kept)) (Y:ch0[is]?=some (cL st)) (q:ik≠is) (R:RH ch0 ch seen (left++[j])) (hr:rows[j]?=some r) (nd:seen.Nodup) (hsl:seen.length<1000) (hll:left.length<=1000) (x6:Option Dt) :
  ∃ ch',z25 (s7 rows ik is nm ch0.length x6) ch=some (.nx (s7 rows ik is nm ch0.length (some (dI j))) ch')/\RH ch0 ch' (if j∈seen then seen else seen++[j]) (if j∈seen∨r.stores nm=true then left else left++jH kept r j):=by
 unfold z25
 have e1:aQ 6 (o8 (eV 5)) (s7 rows ik is nm ch0.length x6) ch=some (.nx (s7 rows ik is nm ch0.length (some (dI j))) (ch.set (ch0.length+1) (cL left))):=by refine (bg (v:=.dat (dI j)) (ch1:=ch.set (ch0.length+1) (cL left)) ?_).trans rfl;unfold o8;show ((some (CV.ref (ch0.length+1),ch)).bind _)=_;rw [qa0];dsimp only;rw [R.l];unfold cL;rw [qc7];simp
 rw [aF e1];have O:=R.setL left;generalize ch.set (ch0.length+1) (cL left)=ch1 at O
 have Z:tD (tB2 (aY true) (vB 6) (vB 4)) (s7 rows ik is nm ch0.length (some (dI j))) ch1=some (!decide (j∈seen),ch1):=f7 (by rw [pL hk Y q O];show ((aY true (dI j) (.dct ((seen.map fun j=>(kI j,Dt.bl true)).map (·.1)) ((seen.map fun j=>(kI j,Dt.bl true)).map (·.2)))).bind asB)=_;rw [xA];rfl)
 by_cases h:j∈seen
 . rw [decide_eq_true h] at Z;refine ⟨ch1,by rw [f8 Z];rfl,?_⟩;rw [if_pos h,if_pos (.inl h)];exact O
 . rw [decide_eq_false h] at Z;rw [ia Z,if_neg h]
   have e2:ke (eV 4) (eD (vL 6)) (eD (kD (.bl true))) (s7 rows ik is nm ch0.length (some (dI j))) ch1=some (.nx (s7 rows ik is nm ch0.length (some (dI j))) (ch1.set ch0.length (cK (seen++[j])))):=by
    refine (pj (i:=ch0.length) (d:=dI j) (o:=cK seen) (o':=cK (seen++[j])) (cB rfl) (ck rfl) (cB ?_) O.s ?_).trans rfl
    . rw [pL hk Y q O];rfl
    . unfold yM cK dI;show (if _ then _ else none)=_;rw [if_pos ⟨dy (by rw [qa2];oo),sW nd⟩,show (qv5 ((j:Nat):Int):Key)=kI j from rfl,jg j seen h]
   rw [aF e2];have R2:=O.setS (seen++[j]);generalize ch1.set ch0.length (cK (seen++[j]))=ch2 at R2
   have W:tD (fOr (tB2 (gEq true) (toD (d2 ag (toD (d2 ag (vB 0) (vB 6))) \6)) (kD (.str "store"))) (tB2 (gEq true) (toD (d2 ag (toD (d2 ag (vB 0) (vB 6))) \8)) (vB 3))) (s7 rows ik is nm ch0.length (some (dI j))) ch2=some (!r.stores nm,ch2):=f7 (by rw [pL hk Y q R2];unfold d7;have e:ag (dR rows) (dI j)=some (.leaf r.d):=ie hr;unfold dI at e ⊢;walk_at "k";rw [e];walk_at "k";cases r<;>simp only [Rw.d,Rw.stores]<;>walk_at "k"<;>(try (rw [e];simp only [Rw.d];walk_at "k")))
   cases U:r.stores nm with
   | true =>rw [U] at W;refine ⟨ch2,by rw [f8 W];rfl,?_⟩;rw [if_pos (.inr rfl)];exact R2
   | false =>
    rw [U] at W;rw [ia W];have hl:=(gX R2.l).1;refine ⟨(ch2++[cL (jH kept r j)]).set (ch0.length+1) (cL (left++jH kept r j)),?_,?_⟩
    . have e5:eV 5 (s7 rows ik is nm ch0.length (some (dI j))) ch2=some (.ref (ch0.length+1),ch2):=rfl
      have e6:eN (bF [none,some 1] (fIt (toD (ai z8 (ab (vL 0) (ab (vL 6) ae))))) (am 0) q34 (vL 0)) (s7 rows ik is nm ch0.length (some (dI j))) ch2=some (.ref ch2.length,ch2++[cL (jH kept r j)]):=by unfold eN;rw [pL hk Y q R2,sX (ft:=q34) (δ:=d7 rows kept st nm (seen++[j]) left (some (dI j))) (k:=6) rfl hr rfl rfl rfl,qa0];unfold al cL;dsimp only;rw [qc4];rfl
      have ol:=gi kept r j;unfold mf;rw [e5,qa0];dsimp only;rw [e6,qa0];dsimp only;rw [R2.l,qa5 hl,R2.l,gR (nL _),qh9];unfold cL;dsimp only [qd4];rw [if_pos ⟨by oo,by rw [qa2,qa2];exact small \3⟩,qc7]
    . rw [if_neg (by simp [h])];exact (R2.app _).setL _
theorem dg (hk:ch0[ik]?=some (cK kept)) (hs:ch0[is]?=some (cL st)) (O:ik≠is) (hN:rows.length<=100) (hO:∀ (i:Nat) (r:Rw) (j:Nat),rows[i]?=some r->j∈r.outs i->j<rows.length) 
 (hP:∀ (k w:Nat) (r:Rw),P k->rows[k]?=some r->r.stores nm=false->w∈r.outs k->w∉kept->P w):∀ (m:Nat) (seen left:List Nat) (ch:CH) (x6:Option Dt),RH ch0 ch seen left->seen.Nodup->(∀ k∈seen,k<rows.length/\P k)->(∀ k∈left,k<rows.length/\P k)->3*rows.length+left.length<m+3*seen.length->left.length+3*rows.length<=1000+3*seen.length→
  ∃ (q:List Nat) (ch':CH) (y:Option Dt),bA q24 z25 m (s7 rows ik is nm ch0.length x6) ch=some (.nx (s7 rows ik is nm ch0.length y) ch')/\RH ch0 ch' q []/\q.Nodup/\∀ k∈q,k<rows.length/\P k
 | m,seen,left,ch,x6,R,nd,h1,h2,U,hb=>by
  have hlen:seen.length<=rows.length:=by
   have:=cj (m:=qc1 rows.length) nd fun x hx=>qd5.mpr (h1 x hx).1
   simpa using this
  have hC:∀ x6,q24 (s7 rows ik is nm ch0.length x6) ch=some (decide (0<left.length),ch):=fun x6=>by
   unfold q24;refine f7 ?_;rw [pL hk hs O R];unfold d7;walk_at "k";show some (decide ((0:Int)<((left.map dI).length:Int)))=_;rw [qa2];congr 1;by_cases h:0<left.length
   . rw [decide_eq_true h,decide_eq_true \3]
   . rw [decide_eq_false h,decide_eq_false \3]
  rcases List.eq_nil_or_concat left with rfl | ⟨l,j,rfl⟩
  . match m,U with
    | m+1,_=>exact ⟨seen,ch,x6,kX (hC x6),R,nd,h1⟩
    | 0,U=>simp at U;oo
  . rw [List.concat_eq_append] at*
    match m,U with
    | 0,U=>simp at U;oo
    | m+1,U =>
     have hC:=hC x6;rw [decide_eq_true \5] at hC;have hj:=h2 j \5;have hr:rows[j]?=some rows[j]:=by simp [hj.1]
     simp only [qa8,qh3] at U hb;obtain ⟨ch',e,Y⟩:=nR (nm:=nm) hk hs O R hr nd \3 \3 x6;rw [iN hC e];have ol:=gi kept rows[j] j;by_cases h:j∈seen
     . rw [if_pos h,if_pos (.inl h)] at Y;exact dg hk hs O hN hO hP m seen l ch' _ Y nd h1 (fun k hk=>h2 k (qg8 _ hk)) \3 \3
     . rw [if_neg h] at Y
       have nd':(seen++[j]).Nodup:=by rw [qf4];exact ⟨nd,by simp,fun a ha b hb e=>by rw [qb9.mp hb] at e;exact h (e▸ha)⟩
       have Z:∀ k∈seen++[j],k<rows.length/\P k:=fun k hk=>by
        rcases qg2.mp hk with z | z
        . exact h1 k z
        . rw [qb9.mp z];exact hj
       cases W:rows[j].stores nm with
       | true =>rw [if_pos (.inr W)] at Y;exact dg hk hs O hN hO hP m (seen++[j]) l ch' _ Y nd' Z (fun k hk=>h2 k (qg8 _ hk)) (by simp;oo) (by simp;oo)
       | false =>
        rw [if_neg (by simp [h,W])] at Y;refine dg hk hs O hN hO hP m (seen++[j]) (l++jH kept rows[j] j) ch' _ Y nd' Z (fun k hk=>?_) (by simp;oo) (by simp;oo);rcases qg2.mp hk with z | z
        . exact h2 k (qg8 _ z)
        . obtain ⟨z1,z2⟩:=ql8.mp z;exact ⟨hO j _ k hr z1,hP j k _ hj.2 hr W z1 (by simpa using z2)⟩
theorem k7 (hk:ch0[ik]?=some (cK kept)) (U:ch0[is]?=some (cL st)) (Y:ik≠is) (hN:rows.length<=100) (hst:st.length<=400) (hO:∀ (i:Nat) (r:Rw) (j:Nat),rows[i]?=some r->j∈r.outs i->j<rows.length) 
 (hP:∀ (k w:Nat) (r:Rw),P k->rows[k]?=some r->r.stores nm=false->w∈r.outs k->w∉kept->P w) (h0:∀ k∈st,k<rows.length/\P k) :
  ∃ (c:Nat) (ch':CH) (l:List Nat),y22 [.dat (dR rows),.ref ik,.ref is,.dat (.str nm)] ch0=some (.ref c,ch')/\ch0.length<=c/\(∀ i,i<ch0.length->ch'[i]?=ch0[i]?)/\ch'[c]?=some (cL l)/\l.length<=rows.length/\∀ k∈l,k<rows.length/\P k:=by
 have l1:ik<ch0.length:=(gX hk).1;have l2:is<ch0.length:=(gX U).1
 have Z:RH ch0 (ch0++[cK []]++[cL st]) [] st:=by
  refine ⟨fun i hi=>?_,?_,?_⟩
  . rw [qf0,qa5 hi]
  . rw [qf0,gR (nL _),qh9];rfl
  . rw [qf0,gR \3];simp
 obtain ⟨seen,ch',y,e,R,nd,q⟩:=dg (nm:=nm) hk U Y hN hO hP 100000 [] st _ none Z \5 \5 h0 (by simp;oo) (by simp;oo)
 have O:seen.length<=rows.length:=by
  have:=cj (m:=qc1 rows.length) nd fun x hx=>qd5.mpr (q x hx).1
  simpa using this
 have hl:=(gX R.l).1;refine ⟨ch'.length,ch'++[cL seen],seen,?_,by oo,fun i hi=>by rw [qa5 \3];exact R.old i hi,by rw [gR (nL _),qh9];rfl,O,q⟩;refine gv ?_;show az _ _ [some (.dat (dR rows)),some (.ref ik),some (.ref is),some (.dat (.str nm)),none,none,none] ch0=_;have s1:aQ 4 (eN rV) [some (.dat (dR rows)),some (.ref ik),some (.ref is),some (.dat (.str nm)),none,none,none] ch0=some (.nx [some (.dat (dR rows)),some (.ref ik),some (.ref is),some (.dat (.str nm)),some (.ref ch0.length),none,none] (ch0++[cK []])):=rfl;rw [aF s1]
 have s2:aQ 5 (eN (ai rS (ab (vB 2) ae))) [some (.dat (dR rows)),some (.ref ik),some (.ref is),some (.dat (.str nm)),some (.ref ch0.length),none,none] (ch0++[cK []])=some (.nx (s7 rows ik is nm ch0.length none) (ch0++[cK []]++[cL st])):=by
  refine (bg (v:=.ref (ch0.length+1)) (ch1:=ch0++[cK []]++[cL st]) ?_).trans rfl
  have W:(lo [some (.dat (dR rows)),some (.ref ik),some (.ref is),some (.dat (.str nm)),some (.ref ch0.length),none,none] (ch0++[cK []]))[2]?=some (some (.lst (st.map dI))):=by unfold lo;simp only [loA];show some (if is∈[ik] then none else ((ch0++[cK []])[is]?).bind tvO)=_;rw [if_neg (by simp;oo),qa5 l2,U];exact congrArg some (zU st)
  have hv:vB 2 (lo [some (.dat (dR rows)),some (.ref ik),some (.ref is),some (.dat (.str nm)),some (.ref ch0.length),none,none] (ch0++[cK []]))=some (.lst (st.map dI)):=by unfold vB;rw [W];rfl
  unfold eN ai ab ae;simp only [hv,qa0];show al _ (.lst (st.map dI))=_;unfold al cL;dsimp only;rw [qc4,qa8];rfl
 rw [aF s2,aF e];refine dz ?_;unfold eLK;show ((some (CV.ref ch0.length,ch')).bind _)=_;rw [qa0];dsimp only;rw [R.s];unfold cK cL;dsimp only;rw [qc4];rfl
end
theorem EG {nm:Str} (U:rows[j]?=some r) (q O:Option T):cH (tB2 (aY false) (toD (d2 ag (toD (d2 ag (vB 0) (vB 4))) \6)) (toD (bj (ab (kD (.str "load")) (ab (kD (.str "take")) ae))))) (tB2 #f (toD (d2 ag (toD (d2 ag (vB 0) (vB 4))) #j)) (vB 2)) [some (.leaf (dR rows)),q,some (.leaf (.str nm)),O,some (.leaf (dI j))]=some (r.gets nm):=by have e:=ie U;walk_at "k";rw [e];walk_at "k";cases r<;>simp only [Rw.d,Rw.gets]<;>(repeat walk_at "k")<;>(try (rw [e];simp only [Rw.d];walk_at "k"))
theorem EH {nm:Str} (U:rows[j]?=some r) (q O:Option T):cH (tB2 (aY false) (toD (d2 ag (toD (d2 ag (vB 0) (vB 4))) \6)) (toD (bj (ab (kD (.str "store")) (ab (kD (.str "lay")) ae))))) (tB2 #f (toD (d2 ag (toD (d2 ag (vB 0) (vB 4))) \8)) (vB 2)) [some (.leaf (dR rows)),q,some (.leaf (.str nm)),O,some (.leaf (dI j))]=some (r.puts nm):=by have e:=ie U;walk_at "k";rw [e];walk_at "k";cases r<;>simp only [Rw.d,Rw.puts]<;>(repeat walk_at "k")<;>(try (rw [e];simp only [Rw.d];walk_at "k"))
variable {i:Nat} {l:List Nat}
section
variable {rows:List Rw} {kept st:List Nat} {nm:Str} {ik:Nat} {ch0 ch:CH}
df s5 (rows:List Rw) (ik:Nat) (nm:Str) (n:Nat) (x4:Option CV):Sl:=[some (.dat (dR rows)),some (.ref ik),some (.dat (.str nm)),some (.ref n),x4]
df d5 (rows:List Rw) (kept:List Nat) (nm:Str) (st:List Nat) (x4:Option T):De:=[some (.leaf (dR rows)),some (tK kept),some (.leaf (.str nm)),some (.lst (st.map dI)),x4]
theorem zV (h:ch[i]?=some (cL l)):vw ch (.ref i)=some (.lst (l.map dI)):=by show (ch[i]?).bind vwO=_;rw [h];show (dats (l.map fun j=>CV.dat (dI j))).map Dt.lst=_;rw [nQ];rfl
structure MH (ch0 ch:CH) (st:List Nat):Prop where
 old:∀ i,i<ch0.length->ch[i]?=ch0[i]?
 s:ch[ch0.length]?=some (cL st)
theorem MH.lt (M:MH ch0 ch st):ch0.length<ch.length:=(gX M.s).1
theorem MH.up (M:MH ch0 ch st) {ch':CH} (h:∀ i,i<ch.length->ch'[i]?=ch[i]?):MH ch0 ch' st:=⟨fun i hi=>(h i (ze5 hi M.lt)).trans (M.old i hi),(h _ M.lt).trans M.s⟩
theorem pM (hk:ch0[ik]?=some (cK kept)) (M:MH ch0 ch st) (x4:Option Dt):lo (s5 rows ik nm ch0.length (x4.map .dat)) ch=d5 rows kept nm st (x4.map .leaf):=by
 have q:ik<ch0.length:=(gX hk).1;have h1:(ch[ik]?).bind tvO=some (tK kept):=by rw [M.old ik q,hk];exact C3 kept
 have h2:(ch[ch0.length]?).bind tvO=some (.lst (st.map dI)):=by rw [M.s];exact zU st
 have n1:¬ ch0.length∈[ik]:=by simp;oo
 unfold lo s5 d5;cases x4<;>simp only [loA,qd2,qy5,qj3,if_false,n1,h1,h2]
theorem EI (hk:ch0[ik]?=some (cK kept)) (M:MH ch0 ch st) (U:rows[j]?=some r) (hl:st.length<=1000) :
  ∃ ch',z29 (s5 rows ik nm ch0.length (some (.dat (dI j)))) ch=some (.nx (s5 rows ik nm ch0.length (some (.dat (dI j)))) ch')/\MH ch0 ch' (if r.gets nm=true then st++jH kept r j else st)/\∀ i,i<ch.length->i≠ch0.length->ch'[i]?=ch[i]?:=by
 unfold z29
 have q:tD (cH (tB2 (aY false) (toD (d2 ag (toD (d2 ag (vB 0) (vB 4))) \6)) (toD (bj (ab (kD (.str "load")) (ab (kD (.str "take")) ae))))) (tB2 #f (toD (d2 ag (toD (d2 ag (vB 0) (vB 4))) #j)) (vB 2))) (s5 rows ik nm ch0.length (some (.dat (dI j)))) ch=some (r.gets nm,ch):=f7 (by rw [show s5 rows ik nm ch0.length (some (.dat (dI j)))=s5 rows ik nm ch0.length ((some (dI j)).map .dat) from rfl,pM hk M (some (dI j))];exact EG U _ _)
 cases O:r.gets nm with
 | false =>rw [O] at q;exact ⟨ch,by rw [f8 q];rfl,by rw [if_neg \5];exact M,fun _ _ _=>rfl⟩
 | true =>
  rw [O] at q;rw [ia q,if_pos rfl];have Y:=M.lt;refine ⟨(ch++[cL (jH kept r j)]).set ch0.length (cL (st++jH kept r j)),?_,⟨fun i hi=>?_,?_⟩,fun i hi W=>?_⟩
  . have e5:eV 3 (s5 rows ik nm ch0.length (some (.dat (dI j)))) ch=some (.ref ch0.length,ch):=rfl
    have Z:eN (bF [none,some 1] (fIt (toD (ai z8 (ab (vL 0) (ab (vL 4) ae))))) (am 0) z44 (vL 0)) (s5 rows ik nm ch0.length (some (.dat (dI j)))) ch=some (.ref ch.length,ch++[cL (jH kept r j)]):=by unfold eN;rw [show s5 rows ik nm ch0.length (some (.dat (dI j)))=s5 rows ik nm ch0.length ((some (dI j)).map .dat) from rfl,pM hk M (some (dI j)),sX (ft:=z44) (δ:=d5 rows kept nm st ((some (dI j)).map .leaf)) (k:=4) rfl U rfl rfl rfl,qa0];unfold al cL;dsimp only;rw [qc4];rfl
    have ol:=gi kept r j;unfold mf;rw [e5,qa0];dsimp only;rw [Z,qa0];dsimp only;rw [M.s,qa5 Y,M.s,gR (nL _),qh9];unfold cL;dsimp only [qd4];rw [if_pos ⟨by oo,by rw [qa2,qa2];exact small \3⟩,qc7]
  . rw [gN \3,qa5 \3];exact M.old i hi
  . rw [qd8 (by simp;oo)]
  . rw [gN (fun z=>W z.symm),qa5 hi]
theorem my (hk:ch0[ik]?=some (cK kept)) {c:Nat} (hc:c≠ch0.length) (hl:l.length<=100) {Q:Nat->Prop} (hQ:∀ (j w:Nat) (r:Rw),j∈l->rows[j]?=some r->r.gets nm=true->w∈r.outs j->w∉kept->Q w) (hr:∀ j∈l,j<rows.length):∀ (d k n:Nat) (st:List Nat) (ch:CH) (x4:Option CV),k+d=l.length->d<n->MH ch0 ch st->ch[c]?=some (cL l)->st.length<=2*k->(∀ w∈st,Q w)→
  ∃ (O:List Nat) (ch':CH) (y4:Option CV),gE c (ggN 4) z29 n k (s5 rows ik nm ch0.length x4) ch=some (.nx (s5 rows ik nm ch0.length y4) ch')/\MH ch0 ch' O/\O.length<=200/\∀ w∈O,Q w
 | 0,k,n+1,st,ch,x4,hd,_,M,q,hs,Y=>by refine ⟨st,ch,x4,?_,M,by oo,Y⟩;unfold gE;rw [q];unfold cL;dsimp only;rw [qk7 (by rw [qa2];oo)]
 | d+1,k,n+1,st,ch,x4,hd,hn,M,q,hs,Y=>by
  have U:k<l.length:=by oo
  have hj:l[k]∈l:=qg5 U;have Z:=hr _ hj;have er:rows[l[k]]?=some rows[l[k]]:=by simp [Z]
  obtain ⟨ch1,e,M1,hch⟩:=EI (nm:=nm) hk M er \3;have W:c<ch.length:=(gX q).1;have ol:=gi kept rows[l[k]] l[k]
  obtain ⟨O,ch',y4,e',h1,h2,h3⟩:=my hk hc hl hQ hr d (k+1) n _ ch1 (some (.dat (dI l[k]))) \3 \3 M1 (by rw [hch c W hc];exact q) (by split<;>first | (rw [qa8];oo) | oo) (fun w hw=>by
   split at hw
   . rename_i hg;rcases qg2.mp hw with z | z
     . exact Y w z
     . obtain ⟨z1,z2⟩:=ql8.mp z;exact hQ _ w _ hj er hg z1 (by simpa using z2)
   . exact Y w hw)
  refine ⟨O,ch',y4,?_,h1,h2,h3⟩;unfold gE;rw [q];unfold cL;dsimp only;rw [qb0,gQ U];show ((z29 (s5 rows ik nm ch0.length (some (.dat (dI l[k])))) ch).bind _)=_;rw [e];exact e'
theorem EJ (hk:ch0[ik]?=some (cK kept)) (M:MH ch0 ch st) (O:rows[j]?=some r) (hp:r.puts nm=false):z30 (s5 rows ik nm ch0.length (some (.dat (dI j)))) ch=some (.nx (s5 rows ik nm ch0.length (some (.dat (dI j)))) ch):=by
 unfold z30
 have q:tD (cH (tB2 (aY false) (toD (d2 ag (toD (d2 ag (vB 0) (vB 4))) \6)) (toD (bj (ab (kD (.str "store")) (ab (kD (.str "lay")) ae))))) (tB2 #f (toD (d2 ag (toD (d2 ag (vB 0) (vB 4))) \8)) (vB 2))) (s5 rows ik nm ch0.length (some (.dat (dI j)))) ch=some (false,ch):=f7 (by rw [show s5 rows ik nm ch0.length (some (.dat (dI j)))=s5 rows ik nm ch0.length ((some (dI j)).map .dat) from rfl,pM hk M (some (dI j))];exact (EH O _ _).trans (congrArg some hp))
 rw [f8 q];rfl
theorem mz (hk:ch0[ik]?=some (cK kept)) {c:Nat} (M:MH ch0 ch st) (q:ch[c]?=some (cL l)) (hp:∀ j∈l,∃ r,rows[j]?=some r/\r.puts nm=false):∀ (d k n:Nat) (x4:Option CV),k+d=l.length->d<n→
  ∃ (U:Option CV),gE c (ggN 4) z30 n k (s5 rows ik nm ch0.length x4) ch=some (.nx (s5 rows ik nm ch0.length U) ch)
 | 0,k,n+1,x4,W,_=>by refine ⟨x4,?_⟩;unfold gE;rw [q];unfold cL;dsimp only;rw [qk7 (by rw [qa2];oo)]
 | d+1,k,n+1,x4,W,hn=>by
  have O:k<l.length:=by oo
  obtain ⟨r,Z,h⟩:=hp _ (qg5 O);obtain ⟨U,Y⟩:=mz hk M q hp d (k+1) n (some (.dat (dI l[k]))) \3 \3;refine ⟨U,?_⟩;unfold gE;rw [q];unfold cL;dsimp only;rw [qb0,gQ O];show ((z30 (s5 rows ik nm ch0.length (some (.dat (dI l[k])))) ch).bind _)=_;rw [EJ hk M Z h];exact Y
theorem C4 (hk:ch0[ik]?=some (cK kept)) (hN:rows.length<=60) (hn:0<rows.length) (hkl:kept.length<=100) (hkr:∀ k∈kept,k<rows.length) (hO:∀ (i:Nat) (r:Rw) (j:Nat),rows[i]?=some r->j∈r.outs i->j<rows.length) (O:∀ t,Rch (eF rows kept nm) (bD kept) t->f9 rows nm t=false) :
  ∃ ch',q44 [.dat (dR rows),.ref ik,.dat (.str nm)] ch0=some (.dat (.bl false),ch')/\∀ i,i<ch0.length->ch'[i]?=ch0[i]?:=by
 have l1:ik<ch0.length:=(gX hk).1;have M1:MH ch0 (ch0++[cL []]) []:=⟨fun i hi=>qa5 hi,by rw [gR (nL _),qh9];rfl⟩;have g1:∀ i,i<(ch0++[cL []]).length->(ch0++[cL []]++[cL kept]++[cL (0::kept)])[i]?=(ch0++[cL []])[i]?:=fun i hi=>by rw [qf0,qa5 hi]
 have hl3:(ch0++[cL []]++[cL kept]).length=ch0.length+2:=by simp
 have a1:ay (eD (vL 0)) (ay (eV 1) (ay (e2 bB (eD (toD (bE (ab \6 ae)))) (eLK (eV 1))) (ay (eD (vL 2)) bZ))) (s5 rows ik nm ch0.length none) (ch0++[cL []])=some ([.dat (dR rows),.ref ik,.ref (ch0.length+2),.dat (.str nm)],ch0++[cL []]++[cL kept]++[cL (0::kept)]):=by
  have hkk:(ch0++[cL []])[ik]?=some (cK kept):=by rw [qa5 l1];exact hk
  have eL:eLK (eV 1) (s5 rows ik nm ch0.length none) (ch0++[cL []])=some (.ref (ch0++[cL []]).length,ch0++[cL []]++[cL kept]):=by unfold eLK;show ((some (CV.ref ik,ch0++[cL []])).bind _)=_;rw [qa0];dsimp only;rw [hkk];unfold cK cL;dsimp only;rw [qc4];rfl
  refine bw (ch1:=ch0++[cL []]) (cB (by rw [show lo (s5 rows ik nm ch0.length none) (ch0++[cL []])=_ from pM hk M1 none];rfl)) (bw (ck rfl) (bw (ch1:=ch0++[cL []]++[cL kept]++[cL (0::kept)]) ?_ (bw (ch1:=ch0++[cL []]++[cL kept]++[cL (0::kept)]) (cB ?_) rfl)))
  . refine (sH (y:=.lst [.int 0]) (z:=.lst (kept.map dI)) (t:=.lst (dI 0::kept.map dI)) (cB rfl) eL rfl ?_ ?_).trans ?_
    . exact zV (by rw [gR (nL _),qh9];rfl)
    . show (if _ then _ else none)=_;rw [if_pos (by rw [qa2];exact small (by simp;oo))];rfl
    . unfold al;dsimp only;rw [hl3];unfold cL;rw [qa7,qc4];rfl
  . rw [show lo (s5 rows ik nm ch0.length none) (ch0++[cL []]++[cL kept]++[cL (0::kept)])=_ from pM hk (M1.up g1) none];rfl
 obtain ⟨c,Z,l,e4,hc4,o4,cl4,ll4,hl4⟩:=k7 (nm:=nm) (ch0:=ch0++[cL []]++[cL kept]++[cL (0::kept)]) (ik:=ik) (is:=ch0.length+2) (kept:=kept) (st:=0::kept) (rows:=rows) (P:=P1 rows kept nm)
  (by rw [g1 ik (by simp;oo),qa5 l1];exact hk) (by rw [qc5 \3,hl3,qh9];rfl) \3 \3 (by simp;oo) hO (fun k w r h e hs Y q=>h.step O e hs Y q) (fun k hk=>by
   rcases qb6.mp hk with rfl | z
   . exact ⟨hn,P1.start (.inl rfl)⟩
   . exact ⟨hkr k z,P1.start (.inr z)⟩)
 have M4:MH ch0 Z []:=(M1.up g1).up o4;have hl5:(ch0++[cL []]++[cL kept]++[cL (0::kept)]).length=ch0.length+3:=by simp
 rw [hl5] at hc4;obtain ⟨st,U,y4,e5,M5,ls5,hq5⟩:=my (nm:=nm) (rows:=rows) hk (c:=c) \3 (l:=l) \3 (Q:=fun w=>w<rows.length/\P2 rows kept nm w) (fun j w r hj e hg Y q=>⟨hO j r w e Y,(hl4 j hj).2.get O e hg Y q⟩) (fun j hj=>(hl4 j hj).1) l.length 0 100000 [] Z none \3 \3 M4 cl4 \5 \5
 obtain ⟨c6,W,l6,e6,hc6,o6,cl6,ll6,hl6⟩:=k7 (nm:="") (ch0:=U) (ik:=ik) (is:=ch0.length) (kept:=kept) (st:=st) (rows:=rows) (P:=P2 rows kept nm)
  (by rw [M5.old ik l1];exact hk) M5.s \3 \3 \3 hO (fun k w r h e hs Y q=>h.step O e Y q) hq5
 have M6:MH ch0 W st:=M5.up o6
 obtain ⟨z4,e7⟩:=mz (nm:=nm) (rows:=rows) (c:=c6) hk M6 cl6 (fun j hj=>by
  have hj6:=hl6 j hj;have er:rows[j]?=some rows[j]:=by simp [hj6.1]
  exact ⟨_,er,hj6.2.put O er⟩) l6.length 0 100000 y4 \3 \3
 refine ⟨W,gv (cZ (δ1:=s5 rows ik nm ch0.length none) (ch1:=ch0++[cL []]) rfl (cZ (δ1:=s5 rows ik nm ch0.length y4) (ch1:=U) ?_ (cZ (δ1:=s5 rows ik nm ch0.length z4) (ch1:=W) ?_ (dz (cB rfl))))),fun i hi=>M6.old i hi⟩
 . unfold eY;rw [kS a1,e4];exact e5
 . unfold eY;rw [kS (cs:=[.dat (dR rows),.ref ik,.ref ch0.length,.dat (.str "")]) (ch2:=U) rfl,e6];exact e7
end
theorem gz:∀ l:List Nat,deeps (l.map dI)=0
 | []=>rfl
 | a::l=>by simp only [qa7,deeps,gz l];rfl
theorem nS (ds:List Dt) (h:deeps ds<=50):gEq neg (.lst ds) (.lst [])=some (.leaf (.bl (if neg then !ds.isEmpty else ds.isEmpty))):=by
 rw [nC (b:=peqs ds []) (El (by rw [decide_eq_true \3];cases ds<;>simp [cmpbs]))]
 cases ds<;>rfl
theorem xC (k:Nat):q29 [dI k]=some (.leaf (.bl true)):=by
 unfold q29 dI;walk_at "k"
 try rfl
theorem uH (l:List Nat):cg (am 0) c7 z33 [none] (l.map dI)=some (l.map fun _=>.bl true):=bT (h:=fun _=>Dt.bl true) fun k _=>⟨_,rfl,rfl,by unfold z33;walk_at "k";rw [xC];rfl⟩
theorem allB (l:List Nat):yB (fun bs=>bs.all id) [.lst (l.map fun _=>.bl true)]=some (.leaf (.bl true)):=by
 have e:∀ l:List Nat,j6 (l.map fun _=>Dt.bl true)=some (l.map fun _=>true):=fun l=>by
  induction l with
  | nil=>rfl
  | cons a l O=>simp only [qa7,j6,O,qd2]
 show (j6 (l.map fun _=>Dt.bl true)).map (fun bs=>T.leaf (.bl (bs.all id)))=_;rw [e];show some (T.leaf (.bl ((l.map fun _=>true).all id)))=_;congr 3;rw [qj2];intro x q;obtain ⟨_,_,rfl⟩:=qd1.mp q;rfl
theorem sY {W:List Nat} {k:Nat} (h:k<W.length):ag (.lst (W.map dI)) (.int (k:Int))=some (.leaf (dI (W.getD k 0))):=by rw [w8,gd dI W k h 0];rfl
theorem sZ (A:List Nat) (n:Nat):atI ((A++[n]).map dI) (-1)=some (dI n):=by unfold atI ixN;rw [if_neg \7,qa2,qa8,qh3,if_pos \3];simp only [qa0];rw [qb0,show (-1+((A.length+1:Nat):Int)).toNat=A.length by oo];simp
section
variable {rows:List Rw} {kept:List Nat} {nm:Str}
df tKd (l:List Nat):Dt:=(tK l).d
theorem AY (l:List Nat) (j:Nat):aY neg (dI j) (tKd l)=some (.leaf (.bl (if neg then !decide (j∈l) else decide (j∈l)))):=xA l j
theorem qT {W:List Nat} {k:Nat} (h1:k+1<W.length) (Y:rows[W.getD k 0]?=some r) (O:W.getD (k+1) 0∉kept) (U:W.getD (k+1) 0∈r.outs (W.getD k 0)) :
  z22 [some (.leaf (dR rows)),some (.leaf (tKd kept)),some (.leaf (.lst (W.map dI))),some (.leaf (dI (k+1)))]=some (.nx [some (.leaf (dR rows)),some (.leaf (tKd kept)),some (.leaf (.lst (W.map dI))),some (.leaf (dI (k+1)))]):=by
 unfold z22;have q:ag (.lst (W.map dI)) (dI (k+1))=some (.leaf (dI (W.getD (k+1) 0))):=sY h1
 have e2:atI (W.map dI) (((k+1:Nat):Int)-1)=some (dI (W.getD k 0)):=by rw [show ((k+1:Nat):Int)-1=((k:Nat):Int) by oo];exact gd dI W k \3 0
 have Z:=pK rows (W.getD k 0) r Y;generalize W.getD (k+1) 0=y at*
 generalize W.getD k 0=x at*
 have t:fOr (tB2 (aY false) (toD (d2 ag (vB 2) (vB 3))) (vB 1)) (tB2 (aY true) (toD (d2 ag (vB 2) (vB 3))) (toD (ai z8 (ab (vL 0) (ab (toD (d2 ag (vB 2) (toD (d2 fO (vB 3) \8)))) ae))))) [some (.leaf (dR rows)),some (.leaf (tKd kept)),some (.leaf (.lst (W.map dI))),some (.leaf (dI (k+1)))]=some false:=by
  walk_at "k";rw [q];walk_at "k";rw [AY,decide_eq_false O];walk_at "k";rw [q];unfold dI at*
  walk_at "k";rw [e2];walk_at "k";rw [Z];walk_at "k";rw [show (Dt.int (y:Int))=L2.dI y from rfl,show (r.outs x).map (fun k:Nat=>Dt.int (k:Int))=(r.outs x).map L2.dI from rfl,pw,decide_eq_true U];rfl
 rw [sG,t];rfl
theorem k8 {W:List Nat} (nx:∀ k,k+1<W.length->W.getD (k+1) 0∉kept/\∃ r,rows[W.getD k 0]?=some r/\W.getD (k+1) 0∈r.outs (W.getD k 0)):∀ (d k:Nat) (q:Option T),k+1+d=W.length→
  ∃ O,d6 (am 3) z22 ((List.range' (k+1) d).map dI) [some (.leaf (dR rows)),some (.leaf (tKd kept)),some (.leaf (.lst (W.map dI))),q]=some (.nx [some (.leaf (dR rows)),some (.leaf (tKd kept)),some (.leaf (.lst (W.map dI))),O])
 | 0,k,q,_=>⟨q,rfl⟩
 | d+1,k,q,h=>by obtain ⟨h1,r,h2,h3⟩:=nx k \3;obtain ⟨O,e⟩:=k8 nx d (k+1) (some (.leaf (dI (k+1)))) \3;refine ⟨O,?_⟩;rw [List.range'_succ,qa7,cN rfl (qT \3 h2 h1 h3)];exact e
theorem xD {W:List Nat} {m:Mrk} {z:Nat} (p:Pth rows kept nm W m z) (hW:W.length<=10000):z21 [dR rows,tKd kept,.lst (W.map dI)]=some (.leaf (.bl true)):=by
 obtain ⟨n,e1,_⟩:=p.last;obtain ⟨y3,e⟩:=k8 p.nx n 0 none \3;have h0:ag (.lst (W.map dI)) (.int 0)=some (.leaf (dI (W.getD 0 0))):=sY (k:=0) \3
 have h1:(W.map dI)[0]?=some (dI (W.getD 0 0)):=by rw [qb0,qb3,gQ (show 0<W.length by oo)];rfl
 have Y:=p.hd;have U:W.isEmpty=false:=by cases W<;>simp at e1 ⊢
 generalize W.getD 0 0=O at*
 unfold z21;walk_at "k";rw [nS _ (by rw [gz];decide)];walk_at "k";rw [List.isEmpty_map,U];walk_at "k";rw [uH];walk_at "k";rw [cz (by rw [qa2];oo)];walk_at "k";rw [allB];walk_at "k"
 have t2:c9 (((Option.map T.d (Option.map T.leaf (W.map dI)[0]?)).bind fun x=>gEq true x (Dt.int 0)).bind asB) (tB2 (aY true) (toD (d2 ag (vB 2) (kD (Dt.int 0)))) (vB 1)) (kB false) [some (.leaf (dR rows)),some (.leaf (tKd kept)),some (.leaf (.lst (W.map dI))),none]=some false:=by
  rw [h1];show c9 ((gEq true (.int (O:Int)) (.int 0)).bind asB) _ _ _=_;rw [w6];by_cases q:O=0
  . subst q;show c9 (some (!decide (((0:Nat):Int)=0))) _ _ _=_;rw [show (!decide (((0:Nat):Int)=0))=false by decide,iI];rfl
  . rw [decide_eq_false \3];show c9 (some true) _ _ _=_;rw [jN];have hk:O∈kept:=Y.resolve_left q;show (((ag (.lst (W.map dI)) (.int 0)).map T.d).bind fun x=>aY true x (tKd kept)).bind asB=_;rw [h0];show (aY true (dI O) (tKd kept)).bind asB=_;rw [AY,decide_eq_true hk];rfl
 rw [t2,iI];walk_at "k"
 have Z:yp [.int 1,.int (W.length:Int)]=some ((List.range' (0+1) n).map dI):=by show (if gI 1&&gI (W.length:Int) then some (dq 1 ((W.length:Int)-1).toNat) else none)=_;rw [if_pos (by rw [kO \3 \3,kO \3 \3];rfl),show ((W.length:Int)-1).toNat=n by oo];unfold dq;rw [List.range'_eq_map_range,qc4];refine congrArg some (List.map_congr_left fun k _=>?_);show Dt.int (1+(k:Int))=Dt.int ((0+1+k:Nat):Int);rw [show ((0+1+k:Nat):Int)=1+(k:Int) by oo]
 rw [qa2,Z];walk_at "k";rw [e];rfl
theorem EK {W:List Nat} (Y:∀ k∈W,k<rows.length) {k:Nat} (hk:k<W.length):y27 [some (.leaf (dI k)),some (.leaf (dR rows)),some (.leaf (.lst (W.map dI))),some (.leaf (.str nm))]=some (gA rows nm (W.getD k 0)):=by
 have q:ag (.lst (W.map dI)) (dI k)=some (.leaf (dI (W.getD k 0))):=sY hk;have U:W.getD k 0<rows.length:=Y _ (by rw [qb3,gQ hk];exact qg5 hk);have O:rows[W.getD k 0]?=some rows[W.getD k 0]:=by simp [U]
 rw [AV O];have e2:=ie O;generalize rows[W.getD k 0]=r at*
 generalize W.getD k 0=y at*
 unfold y27;walk_at "k";rw [q];walk_at "k";rw [e2];walk_at "k";cases r<;>simp only [Rw.d,Rw.gets]<;>(repeat walk_at "k")<;>(try (rw [q];walk_at "k";rw [e2];simp only [Rw.d];walk_at "k"))
theorem EL {W:List Nat} (Y:∀ k∈W,k<rows.length) {k:Nat} (hk:k<W.length):z27 [some (.leaf (dI k)),some (.leaf (dR rows)),some (.leaf (.lst (W.map dI))),some (.leaf (.str nm))]=some (pA rows nm (W.getD k 0)):=by
 have q:ag (.lst (W.map dI)) (dI k)=some (.leaf (dI (W.getD k 0))):=sY hk;have U:W.getD k 0<rows.length:=Y _ (by rw [qb3,gQ hk];exact qg5 hk);have O:rows[W.getD k 0]?=some rows[W.getD k 0]:=by simp [U]
 rw [xi O];have e2:=ie O;generalize rows[W.getD k 0]=r at*
 generalize W.getD k 0=y at*
 unfold z27;walk_at "k";rw [q];walk_at "k";rw [e2];walk_at "k";cases r<;>simp only [Rw.d,Rw.puts]<;>(repeat walk_at "k")<;>(try (rw [q];walk_at "k";rw [e2];simp only [Rw.d];walk_at "k"))
theorem qU {W:List Nat} {shelf:Bool} {n g:Nat} (q:∀ k∈W,k<rows.length) (hW:W.length<=10000) (e1:W.length=n+1) (hg:g<n) (h1:gA rows nm (W.getD g 0)=true) (h2:∀ j,j<g->gA rows nm (W.getD j 0)=false) (h3:pA rows nm (W.getD n 0)=true) (Z:shelf=false->∀ j,j<n->pA rows nm (W.getD j 0)=false) :
  q26 [dR rows,.lst (W.map dI),.str nm,.bl shelf]=some (.leaf (.bl true)):=by
 obtain ⟨G,O⟩:=xj (p:=fun k=>gA rows nm (W.getD k 0)) (n:=W.length) (g:=g) \3 h1 h2
 have eP:(qc1 W.length).filter (fun k=>pA rows nm (W.getD k 0))=(qc1 n).filter (fun k=>pA rows nm (W.getD k 0))++[n]:=by rw [e1,qy3,List.filter_append,zc5 (p:=fun k=>pA rows nm (W.getD k 0)) h3,List.filter_nil]
 have cG:cg (am 0) y27 (vL 0) [none,some (.leaf (dR rows)),some (.leaf (.lst (W.map dI))),some (.leaf (.str nm))] ((qc1 W.length).map dI)=some ((g::G).map dI):=by rw [<- O];exact ce (h:=dI) fun k hk=>⟨_,rfl,EK q (qd5.mp hk),fun _=>rfl⟩
 have Y:cg (am 0) z27 (vL 0) [none,some (.leaf (dR rows)),some (.leaf (.lst (W.map dI))),some (.leaf (.str nm))] ((qc1 W.length).map dI)=some (((qc1 n).filter (fun k=>pA rows nm (W.getD k 0))++[n]).map dI):=by rw [<- eP];exact ce (h:=dI) fun k hk=>⟨_,rfl,EL q (qd5.mp hk),fun _=>rfl⟩
 have lG:(g::G).length<=10000:=by rw [<- O];exact qc3 (qh5 _ _) (by simpa using hW)
 have U:shelf=false->(qc1 n).filter (fun k=>pA rows nm (W.getD k 0))=[]:=fun z=>zd3.mpr fun j hj=>by rw [Z z j (qd5.mp hj)];simp
 have lA:((qc1 n).filter (fun k=>pA rows nm (W.getD k 0))).length<=n:=qc3 (qh5 _ _) \5;generalize (qc1 n).filter (fun k=>pA rows nm (W.getD k 0))=A at*
 unfold q26;walk_at "k";rw [qa2,fZ \3,qa0,cq,cG,qa0,cz (by rw [qa2];oo)];walk_at "k";rw [qa2,fZ \3,qa0,cq,Y,qa0,cz (by rw [qa2,qa8,qh3];oo)];walk_at "k";have ne:((A++[n]).map dI).isEmpty=false:=by simp
 rw [nS _ (by rw [gz];decide),ne];walk_at "k";rw [sZ];walk_at "k"
 have q1:gEq true (dI n) (.int ((W.length:Int)-1))=some (.leaf (.bl false)):=by unfold dI;rw [w6,decide_eq_true \3];rfl
 rw [qa2,q1];walk_at "k";rw [show dI g::G.map dI=(g::G).map dI from rfl,nS _ (by rw [gz];decide)];simp only [qa7,List.isEmpty_cons];walk_at "k";rw [sZ]
 have q2:jD (fun i j=>decide (i<j)) (dI g) (dI n)=some (.leaf (.bl true)):=by unfold dI;rw [Ch,decide_eq_true \3]
 walk_at "k";rw [q2];walk_at "k";cases shelf with
 | true =>walk_at "k"
 | false =>rw [U rfl];walk_at "k";rw [q2];rfl
end
theorem cQ {α:Type} {f:α->Dt} (h:∀ a,b7 (f a) (f a)=true):∀ l:List α,cmpbs (l.map f) (l.map f)=true
 | []=>rfl
 | a::l=>by rw [qa7];unfold cmpbs;rw [h a,cQ h l];rfl
variable {n:Nat}
theorem dA {α:Type} {f:α->Dt} (h:∀ a,cF (f a)<=n):∀ l:List α,deeps (l.map f)<=n
 | []=>qn8 _
 | a::l=>by have h1:=h a;have h2:=dA h l;rw [qa7];unfold deeps;oo
theorem zW (a:Atm):b7 a.d a.d=true:=by cases a<;>rfl
theorem iQ (a:Atm):cF a.d<=1:=by cases a<;>simp [Atm.d,cF]
theorem C5 (r:Rw):b7 r.d r.d=true:=by cases r<;>simp [Rw.d,b7,cmpbs,bL,zW]
theorem zX (r:Rw):cF r.d<=5:=by cases r<;>(simp only [Rw.d,cF,deeps];first | oo | (rename_i a;have:=iQ a;oo) | (rename_i a _;have:=iQ a;oo) | (rename_i a b;have:=iQ a;have:=iQ b;oo))
theorem C6 (h:Hd):b7 (hdD h) (hdD h)=true:=by simp [hdD,b7,cmpbs,bL]
theorem tj (h:Hd):cF (hdD h)<=5:=by simp [hdD,cF,deeps]
theorem tm (x:Str):b7 (.str x) (.str x)=true:=rfl
theorem pN (x:Str):cF (.str x)<=0:=by simp [cF]
theorem C7 (p:Nat×List Str):b7 (keD p) (keD p)=true:=by unfold keD tS;simp only [b7,cmpbs,cQ tm,qw5];rfl
theorem zY (p:Nat×List Str):cF (keD p)<=5:=by have:=dA pN p.2;simp only [keD,tS,cF,deeps,dI];oo
theorem uI (cs ss:List Hd) (rows:List Rw):gEq false (pD cs ss rows) (pD cs ss rows)=some (.leaf (.bl true)):=by
 unfold pD;have h1:=dA tj cs;have h2:=dA tj ss;have h3:=dA zX rows;rw [nC (b:=true) ((w4 ?_).trans (by rw [peqs_self]))]
 . rfl
 . rw [qb4];refine ⟨?_,decide_eq_true ?_⟩
   . simp only [cmpbs,dR,b7,cQ C6,cQ C5,zb7]
   . simp only [deeps,cF,dR];oo
theorem uJ (bs:List Str) (kl:List (Nat×List Str)):gEq false (cD (tS bs) (kq kl)) (cD (tS bs) (kq kl))=some (.leaf (.bl true)):=by
 have e:kpD (kq kl)=.tup (kl.map keD):=by unfold kpD kq;rw [qc4];rfl
 unfold cD;rw [e];have h1:=dA pN bs;have h2:=dA zY kl;rw [nC (b:=true) ((w4 ?_).trans (by rw [peqs_self]))]
 . rfl
 . rw [qb4];refine ⟨?_,decide_eq_true ?_⟩
   . simp only [cmpbs,tS,b7,cQ tm,cQ C7,zb7]
   . simp only [deeps,cF,tS];oo
theorem mgS2 {a b:Dt} (Y:i≠j) (hi:i<δ.length) (U:j<δ.length):mgS [i,j] δ (((lo δ ch).set i (some (.leaf a))).set j (some (.leaf b)))=(δ.set i (some (.dat a))).set j (some (.dat b)):=by
 have h2:(lo δ ch).length=δ.length:=eU ch [] δ;apply qr1;intro m;unfold mgS;rw [qr5];by_cases q:j=m
 . subst q;rw [qd8 (by simpa [h2] using U),qd8 (by simpa [h2] using U),qk8 U];simp
 . rw [gN q,gN q];by_cases O:i=m
   . subst O;rw [qd8 (by simpa [h2] using hi),qd8 (by simpa [h2] using hi),qk8 hi];simp
   . rw [gN O,gN O];have W:¬ m=i:=fun z=>O z.symm
     have e2:¬ m=j:=fun z=>q z.symm
     cases h:δ[m]? with
     | none=>rfl
     | some x=>simp [W,e2]
theorem uK {q:Sl} {ch2:CH} {a b:Dt} {r:List Dt} (O:i≠j) (hi:i<δ.length) (U:j<δ.length) (e:g ((δ.set i (some (.dat a))).set j (some (.dat b))) ch=some (.nx q ch2)) :
  i9 [i,j] (i4 2 (aR (am i) (aR (am j) fB))) g (.tup [a,b]::r) δ ch=i9 [i,j] (i4 2 (aR (am i) (aR (am j) fB))) g r q ch2:=by
 show ((i4 2 (aR (am i) (aR (am j) fB)) (.tup [a,b]) (lo δ ch)).bind fun δ1=>(g (mgS [i,j] δ δ1) ch).bind fun o=>_)=_;rw [show i4 2 (aR (am i) (aR (am j) fB)) (.tup [a,b]) (lo δ ch)=some (((lo δ ch).set i (some (.leaf a))).set j (some (.leaf b))) from rfl,qa0,mgS2 O hi U,e];rfl
theorem xE:∀ {l:List Hd},(l.map (·.x)).Nodup->∀ {a b:Hd},a∈l->b∈l->a.x=b.x->a=b
 | [],_,a,b,ha,_,_=>by cases ha
 | c::l,nd,a,b,ha,hb,e=>by
  rw [qa7,qk4] at nd;rcases qb6.mp ha with q | q<;>rcases qb6.mp hb with w | w
  . rw [q,w]
  . exact absurd (qd1.mpr ⟨b,w,by rw [<- e,q]⟩) nd.1
  . exact absurd (qd1.mpr ⟨a,q,by rw [e,w]⟩) nd.1
  . exact xE nd.2 q w e
variable {x:Str} {h:Hd}
section
variable {scr:Dt} {cs ss:List Hd} {rows:List Rw} {bs:List Str} {kl:List (Nat×List Str)}
df sl (scr:Dt) (cs ss:List Hd) (rows:List Rw) (bs:List Str) (kl:List (Nat×List Str)) (q x6 O:Option CV):Sl:=[some (.dat scr),some (.dat (pD cs ss rows)),some (.dat (dR rows)),some (.dat (cD (tS bs) (kq kl))),some (.ref 0),q,x6,O]
structure All (cs ss:List Hd) (rows:List Rw) (kl:List (Nat×List Str)):Prop where
 hn:((cs++ss).map (·.x)).Nodup
 lc:cs.length+ss.length<=100
 P:Prg cs ss rows
 kn:(kl.map (·.1)).Nodup
 kr:∀ p∈kl,p.1<rows.length
 kl1:kl.length<=rows.length
theorem qV:kps (kq kl)=kl.map (·.1):=by unfold kps kq;rw [qc4];rfl
theorem C8:(kq kl).length=kl.length:=by simp [kq]
theorem All.ne (A:All cs ss rows kl) (h1:x∈cs.map (·.x)) (h2:x∈ss.map (·.x)):False:=by have:=A.hn;rw [qc7,qf4] at this;exact this.2.2 x h1 x h2 rfl
theorem All.cell (A:All cs ss rows kl) (h:x∈cs.map (·.x)):Kd rows x false:=⟨fun _ k=>by
 unfold pA sA;cases e:rows[k]? with
 | none=>rfl
 | some r =>
  have q:=A.P.hN k r e;cases r<;>try rfl
  rename_i f _ _;have q:f∈ss.map (·.x):=q;show decide (f=x)=false;exact decide_eq_false fun z=>A.ne h (z▸q),fun z=>by cases z⟩
theorem All.shelf (A:All cs ss rows kl) (h:x∈ss.map (·.x)):Kd rows x true:=⟨fun z=>(by cases z),fun _ k=>by
 unfold sA;cases e:rows[k]? with
 | none=>rfl
 | some r =>
  have q:=A.P.hN k r e;cases r<;>try rfl
  rename_i c _;have q:c∈cs.map (·.x):=q;show decide (c=x)=false;exact decide_eq_false fun z=>A.ne (z▸q) h⟩
df hk3 (h:Hd):Hk3:=(h.x,h.n,h.b)
theorem xF:∀ l:List Hd,(l.map hdD).mapM nz=some (l.map hk3)
 | []=>rfl
 | h::l=>by simp only [qa7,List.mapM_cons,xF l];rfl
theorem All.told (A:All cs ss rows kl) (O:h∈cs++ss):∃ shelf,uv (hdD h) (.tup (ss.map hdD))=some (.leaf (.bl shelf))/\Kd rows h.x shelf:=by
 refine ⟨decide (hk3 h∈ss.map hk3),?_,?_⟩
 . show ((nz (hdD h)).bind fun ks=>((ss.map hdD).mapM nz).map fun q=>T.leaf (.bl (decide (ks∈q))))=_;rw [show nz (hdD h)=some (hk3 h) from rfl,qa0,xF];rfl
 . rcases qg2.mp O with z | z
   . rw [decide_eq_false fun w=>?_]
     . exact A.cell (qj7 z)
     . obtain ⟨h',h1,h2⟩:=qd1.mp w;have e:h'.x=h.x:=congrArg (·.1) h2;exact A.ne (qj7 z) (e▸qj7 h1)
   . rw [decide_eq_true (qj7 z)];exact A.shelf (qj7 z)
theorem All.plain (A:All cs ss rows kl) (hh:h∈cs++ss):h.b=false↔h.x∈plain cs ss:=by
 unfold P34.plain;constructor
 . intro z;exact qd1.mpr ⟨h,ql8.mpr ⟨hh,by simp [z]⟩,rfl⟩
 . intro z;obtain ⟨h',h1,h2⟩:=qd1.mp z;obtain ⟨h3,h4⟩:=ql8.mp h1;have:=xE A.hn h3 hh h2;subst this;simpa using h4
theorem k9:∀ (l done:List (Nat×List Str)) (U x6:Option CV),(done++l).length<=900->((done++l).map (·.1)).Nodup→
  ∃ Z y6,i9 [5,6] (i4 2 (aR (am 5) (aR (am 6) fB))) y58 (l.map keD) (sl scr cs ss rows bs kl U x6 none) [cK (done.map (·.1))]=some (.nx (sl scr cs ss rows bs kl Z y6 none) [cK ((done++l).map (·.1))])
 | [],done,U,x6,_,_=>⟨U,x6,by rw [qh2];rfl⟩
 | p::l,done,U,x6,Y,O=>by
  have e0:done++p::l=(done++[p])++l:=by simp
  rw [e0] at O Y ⊢
  have q:((done++[p]).map (·.1)).Nodup:=by rw [qc7] at O;exact (qf4.mp O).1
  have W:(done.map (·.1)).Nodup:=by rw [qc7] at q;exact (qf4.mp q).1
  have hx:p.1∉done.map (·.1):=fun z=>by rw [qc7] at q;exact (qf4.mp q).2.2 _ z _ \5 rfl
  obtain ⟨Z,y6,e⟩:=k9 l (done++[p]) (some (.dat (dI p.1))) (some (.dat (tS p.2))) Y O;refine ⟨Z,y6,?_⟩
  have st:y58 (sl scr cs ss rows bs kl (some (.dat (dI p.1))) (some (.dat (tS p.2))) none) [cK (done.map (·.1))]=some (.nx (sl scr cs ss rows bs kl (some (.dat (dI p.1))) (some (.dat (tS p.2))) none) [cK ((done++[p]).map (·.1))]):=by unfold y58;refine (pj (i:=0) (d:=dI p.1) (o:=cK (done.map (·.1))) (o':=cK ((done++[p]).map (·.1))) (cB rfl) (ck rfl) (ig rfl) rfl ?_).trans rfl;unfold yM cK dI;show (if _ then _ else none)=_;rw [if_pos ⟨dy (by simp at Y ⊢;oo),sW W⟩,show (qv5 ((p.1:Nat):Int):Key)=kI p.1 from rfl,jg p.1 _ hx,qc7 (l₁:=done)];rfl
  rw [qa7,<- e];exact uK (a:=dI p.1) (b:=tS p.2) \7 (by decide:5<8) (by decide:6<8) st
end
section
variable {scr:Dt} {cs ss:List Hd} {rows:List Rw} {bs:List Str} {kl:List (Nat×List Str)}
theorem vw_K (h:ch[i]?=some (cK l)):vw ch (.ref i)=some (tKd l):=by show (ch[i]?).bind vwO=_;rw [h];show (dats ((l.map fun j=>(kI j,CV.dat (.bl true))).map (·.2))).map (fun ds=>Dt.dct ((l.map fun j=>(kI j,CV.dat (.bl true))).map (·.1)) ds)=_;rw [nO];unfold tKd tK;show some (Dt.dct _ _)=some (Dt.dct _ _);rw [qc4,qc4,qc4];rfl
theorem zZ (A:All cs ss rows kl) (hh:h∈cs++ss) (x5 x7:Option CV) (ch:CH) (h0:ch[0]?=some (cK (kps (kq kl)))) :
  ∃ (y7:Option CV) (ch':CH),q50 (sl scr cs ss rows bs kl x5 (some (.dat (hdD h))) x7) ch=some (.nx (sl scr cs ss rows bs kl x5 (some (.dat (hdD h))) y7) ch')/\ch'[0]?=some (cK (kps (kq kl))):=by
 let S:Option CV->Sl:=sl scr cs ss rows bs kl x5 (some (.dat (hdD h)));have l0:=A.P.l0;have l1:=A.P.l1;have lc:=A.lc;have kl1:=A.kl1
 have Z:∀ k∈kps (kq kl),k<rows.length:=fun k hk=>by rw [qV] at hk;obtain ⟨p,hp,rfl⟩:=qd1.mp hk;exact A.kr p hp
 have Y:∀ (x:Option CV) (g:CH),eD (toD (d2 ag (vB 6) \6)) (S x) g=some (.dat (.str h.x),g):=fun x g=>cB (by unfold toD d2;rw [fA (d:=hdD h) rfl];unfold hdD;rfl)
 have sa:∀ (x:Option CV) (g:CH),ay (eD (vL 1)) (ay (eD (vL 3)) (ay (eD (toD (d2 ag (vB 6) \6))) bZ)) (S x) g=some ([.dat (pD cs ss rows),.dat (cD (tS bs) (kq kl)),.dat (.str h.x)],g):=fun x g =>bw (ig rfl) (bw (ig rfl) (bw (Y x g) rfl))
 have b2:∀ (x:Option CV) (g:CH),tD (jA (toD (d2 ag (vB 6) #j))) (S x) g=some (h.b,g):=fun x g=>f7 (by unfold jA toD d2;rw [fA (d:=hdD h) rfl];unfold hdD;rfl)
 have b3:∀ (x:Option CV) (g:CH),tD (mR (jA (toD (d2 ag (vB 6) #j)))) (S x) g=some (!h.b,g):=fun x g=>f7 (by unfold mR jA toD d2;rw [fA (d:=hdD h) rfl];unfold hdD;rfl)
 show ∃ (y7:Option CV) (ch':CH),q50 (S x7) ch=some (.nx (S y7) ch')/\_;unfold q50;cases hb:h.b with
 | true =>
  have hp:h.x∉plain cs ss:=fun z=>by have:=(A.plain hh).mpr z;rw [hb] at this;cases this
  refine ⟨some (.dat .non),ch,cZ (bg ((kS (sa x7 ch)).trans (uF \3 hp))) (if_t (ch1:=ch) rfl (xy (ch1:=ch) ?_ rfl)),h0⟩;show kf _ _ (S (some (.dat .non))) ch=_;unfold kf;rw [b3,hb];rfl
 | false =>
  have hp:h.x∈plain cs ss:=(A.plain hh).mp hb;obtain ⟨cf,J,r,e1,hn,hs⟩:=qP (rows:=rows) (b:=tS bs) (kp:=kq kl) (ch0:=ch) \3 hp \3 l0 (by rw [C8];oo) Z (fun k r w e hw=>A.P.hO k r w e hw);have U:0<ch.length:=(gX h0).1;cases r with
  | none =>
   have e1:z34 _ ch=some (.dat .non,hpR ky ch cf J):=e1
   have O:(hpR ky ch cf J)[0]?=some (cK (kps (kq kl))):=by unfold hpR;rw [qa5 U];exact h0
   have hl1:0<(hpR ky ch cf J).length:=(gX O).1;generalize hpR ky ch cf J=ch1 at*
   obtain ⟨ch2,em,hold⟩:=C4 (ch0:=ch1) (ik:=0) (rows:=rows) (nm:=h.x) O \3 l0 (by rw [qV,qa2];oo) Z A.P.hO (hn rfl);refine ⟨some (.dat .non),ch2,cZ (bg ((kS (sa x7 ch)).trans e1)) (if_t (ch1:=ch1) rfl (xy (ch1:=ch2) ?_ rfl)),by rw [hold 0 hl1];exact O⟩;show kf _ _ (S (some (.dat .non))) ch1=_;unfold kf;rw [b3,hb];show fU _ _ _=_;exact iM ((kS (bw (ig (d:=dR rows) rfl) (bw (ck (v:=.ref 0) rfl) (bw (Y _ _) rfl)))).trans em)
  | some q =>
   obtain ⟨hwl,t,hw,hf⟩:=hs q rfl;have p:=C0 l0 Z A.P.hO hw;obtain ⟨shelf,eS,K⟩:=A.told hh;obtain ⟨n,g,q1,q2,q3,q4,q5,q6⟩:=zT K p hf;have hWl:(q.reverse.map (·.1)).length<=10000:=by simpa using hwl
   have e1:z34 _ ch=some (.ref (ch.length+2+J.length+2),hpR ky ch cf J++[lsC ky q,lsC ky q.reverse]++[rIs (q.reverse.map (·.1))]):=e1;generalize q.reverse.map (·.1)=W at*
   have hj:(hpR ky ch cf J++[lsC ky q,lsC ky q.reverse]).length=ch.length+2+J.length+2:=by unfold hpR;simp;oo
   have g1:(hpR ky ch cf J++[lsC ky q,lsC ky q.reverse]++[rIs W])[ch.length+2+J.length+2]?=some (cL W):=by rw [gR \3,hj,qh9];rfl
   have O:(hpR ky ch cf J++[lsC ky q,lsC ky q.reverse]++[rIs W])[0]?=some (cK (kps (kq kl))):=by rw [qa5 \3,qa5 (by unfold hpR;simp;oo)];unfold hpR;rw [qa5 U];exact h0
   generalize hpR ky ch cf J++[lsC ky q,lsC ky q.reverse]++[rIs W]=ch1 at*
   generalize hjj:ch.length+2+J.length+2=j at*
   refine ⟨some (.ref j),ch1.set j (.lst (W.map (fun j=>CV.dat (dI j))++[.dat (.int 0)])),cZ (bg ((kS (sa x7 ch)).trans e1)) (xy (ch1:=ch1) ?_ (xy (ch1:=ch1) ?_ (xy (ch1:=ch1) ?_ ?_))),by rw [gN \3];exact O⟩
   . unfold j9;rw [sH (ck (v:=.ref j) rfl) (show eD (kD .non) _ ch1=some (.dat .non,ch1) from rfl) (zV g1) rfl (t:=.leaf (.bl false)) rfl];rfl
   . show vZ _ _ (S (some (.ref j))) ch1=_;unfold vZ;rw [b2,hb];show jp _ _ _=_;unfold jp
     rw [iM (xg (bw (ig (d:=dR rows) rfl) (bw (ck (v:=.ref 0) rfl) (bw (ck (v:=.ref j) rfl) rfl))) (show vws ch1 [.dat (dR rows),.ref 0,.ref j]=some [dR rows,tKd (kps (kq kl)),.lst (W.map dI)] by simp only [vws,vw_K O,zV g1];rfl) (xD p hWl))]
     rfl
   . have sh:eD (toD (d2 uv (vB 6) (toD (d2 ag (vB 1) \8)))) (S (some (.ref j))) ch1=some (.dat (.bl shelf),ch1):=cB (by unfold toD d2;rw [fA (d:=hdD h) rfl];dsimp only;rw [fA (d:=pD cs ss rows) rfl];show (uv (hdD h) (.tup (ss.map hdD))).map T.d=_;rw [eS];rfl)
     show jp _ (S (some (.ref j))) ch1=_;unfold jp
     rw [iM (xg (bw (ig (d:=dR rows) rfl) (bw (ck (v:=.ref j) rfl) (bw (Y _ _) (bw sh rfl)))) (show vws ch1 [.dat (dR rows),.ref j,.dat (.str h.x),.dat (.bl shelf)]=some [dR rows,.lst (W.map dI),.str h.x,.bl shelf] by simp only [vws,zV g1];rfl) (qU p.lt hWl q1 q2 q3 q4 q5 q6))]
     rfl
   . show fm _ _ (S (some (.ref j))) ch1=_;unfold fm;rw [ck (v:=.ref j) rfl];simp only [qa0];rw [show eD \6 (S (some (.ref j))) ch1=some (.dat (.int 0),ch1) from rfl];simp only [qa0];rw [g1];unfold cL;dsimp only;rw [if_pos (by rw [qa2];exact dy \3)]
end
theorem C9 (l:List Dt) (O:l.length<=1000):∃ m,mi (.tup l) (.int 2)=some (.leaf (.tup m))/\∀ d∈m,d∈l:=by
 cases l with
 | nil=>exact ⟨[],rfl,fun _ h=>h⟩
 | cons a l =>
  refine ⟨(qc6 2 (a::l)).flatten,?_,fun d q=>?_⟩
  . show (if _ then _ else none)=_;rw [if_pos ⟨by decide,by decide,rfl,O⟩];rfl
  . obtain ⟨x,h1,h2⟩:=List.mem_flatten.mp q;rw [(List.mem_replicate.mp h1).2] at h2;exact h2
theorem main (ns:List Int) (hns:ns.length<=63):∃ ch',wU [.dat (.lst (ns.map .int))] []=some (.dat (.bl true),ch'):=by
 obtain ⟨B,cs,ss,rest,rows,ew,ep,W,Pg⟩:=zQ ns;obtain ⟨b,eb,hb⟩:=zS ew W;have l1:=Pg.l1;obtain ⟨bs,kl,ec,k1,k2,k3⟩:=qR (ns:=ns) (cs:=cs) (ss:=ss) (rows:=rows) (B:=b) hb \3;have A:All cs ss rows kl:=⟨W.hn,by have:=W.c1;have:=W.s1;oo,Pg,k2,k1,k3⟩;generalize (Dt.lst (ns.map .int))=scr at ew ep eb ec
 have prE:∀ {δ:De},vL 0 δ=some scr->toD (ai y12 (ab (vL 0) (ab (kD (.int 57)) ae))) δ=some (pD cs ss rows):=fun {δ} O=>by unfold toD ai ab ae;simp only [O,qa0,kD];rw [ep];rfl
 have cuE:∀ {δ:De},vL 0 δ=some scr->vL 1 δ=some (pD cs ss rows)->toD (ai q12 (ab (vL 0) (ab (vL 1) (ab (toD (ai z15 (ab (vL 0) ae))) ae)))) δ=some (cD (tS bs) (kq kl)):=fun {δ} O h1=>by unfold toD ai ab ae;simp only [O,h1,qa0,eb,qd2];show (q12 [scr,pD cs ss rows,.lst (b.map .str)]).map T.d=_;rw [ec];rfl
 obtain ⟨y5,y6,e5⟩:=k9 (scr:=scr) (cs:=cs) (ss:=ss) (rows:=rows) (bs:=bs) (kl:=kl) kl [] none none (by rw [qk6];oo) (by rw [qk6];exact k2);obtain ⟨m,em,hm⟩:=C9 ((cs++ss).map hdD) (by rw [qa2,qa8];have:=A.lc;oo)
 obtain ⟨δ6,U,e6,Y,x6,Z,rfl,h06⟩:=jt (i:=6) (g:=q50) (I:=fun δ ch=>∃ Y x6 Z,δ=sl scr cs ss rows bs kl Y x6 Z/\ch[0]?=some (cK (kps (kq kl)))) (fun δ ch ⟨_,_,_,e,_⟩=>by subst e;exact (by decide:6<8)) (ds:=m) (δ:=sl scr cs ss rows bs kl y5 y6 none) (ch:=[cK (kps (kq kl))]) (fun d hd δ ch ⟨Y,x6,Z,e,O⟩=>by subst e;obtain ⟨h,hh,rfl⟩:=qd1.mp (hm d hd);obtain ⟨y7,ch',e1,e2⟩:=zZ (scr:=scr) (bs:=bs) A hh Y Z ch O;exact ⟨_,ch',e1,Y,_,y7,rfl,e2⟩) ⟨y5,y6,none,rfl,rfl⟩
 refine ⟨U,gv (cZ (bg (cB (prE (kR rfl)))) (cZ (bg (cB (d:=dR rows) ?_)) (cZ (bg (cB (cuE (kR rfl) (kR rfl)))) (cZ (δ1:=sl scr cs ss rows bs kl none none none) (ch1:=[cK []]) rfl (cZ (δ1:=sl scr cs ss rows bs kl y5 y6 none) (ch1:=[cK (kps (kq kl))]) ?_ (cZ (δ1:=sl scr cs ss rows bs kl Y x6 Z) (ch1:=U) ?_ (dz (cB ?_))))))))⟩
 . unfold toD d2;rw [fA (d:=pD cs ss rows) rfl];rfl
 . show (fIt _ (lo (sl scr cs ss rows bs kl none none none) [cK []])).bind _=_;unfold fIt toD d2;rw [fA (d:=cD (tS bs) (kq kl)) rfl];show i9 _ _ _ ((kq kl).map fun p=>Dt.tup [dI p.1,p.2]) _ _=_;rw [qV];unfold kq;rw [qc4];exact e5
 . show (fIt _ (lo (sl scr cs ss rows bs kl y5 y6 none) [cK (kps (kq kl))])).bind _=_;generalize q:lo (sl scr cs ss rows bs kl y5 y6 none) [cK (kps (kq kl))]=δ;have h1:vB 1 δ=some (pD cs ss rows):=by rw [<- q];exact fA rfl
   unfold fIt toD d2;simp only [h1,qa0,kD];show (((((mh (.tup (cs.map hdD)) (.tup (ss.map hdD))).map T.d).bind fun x=>mi x (.int 2)).map T.d).bind itD).bind _=_;rw [sM hdD cs ss (by have:=A.lc;oo)];show (((mi (.tup ((cs++ss).map hdD)) (.int 2)).map T.d).bind itD).bind _=_;rw [em];exact e6
 generalize q:lo (sl scr cs ss rows bs kl Y x6 Z) U=δ;have O:vL 0 δ=some scr:=by rw [<- q];exact kR rfl
 have h1:vL 1 δ=some (pD cs ss rows):=by rw [<- q];exact kR rfl
 have h2:vB 1 δ=some (pD cs ss rows):=by rw [<- q];exact fA rfl
 have h3:vB 3 δ=some (cD (tS bs) (kq kl)):=by rw [<- q];exact fA rfl
 have q1:toD (d2 #f (vB 1) (toD (ai y12 (ab (vL 0) (ab (kD (.int 57)) ae))))) δ=some (.bl true):=by show (((vB 1 δ).bind fun x=>(toD (ai y12 (ab (vL 0) (ab (kD (.int 57)) ae))) δ).bind fun y=>gEq false x y).map T.d)=_;rw [h2,prE O];show (gEq false (pD cs ss rows) (pD cs ss rows)).map T.d=_;rw [uI];rfl
 have q2:d2 #f (vB 3) (toD (ai q12 (ab (vL 0) (ab (vL 1) (ab (toD (ai z15 (ab (vL 0) ae))) ae))))) δ=some (.leaf (.bl true)):=by show ((vB 3 δ).bind fun x=>(toD (ai q12 (ab (vL 0) (ab (vL 1) (ab (toD (ai z15 (ab (vL 0) ae))) ae)))) δ).bind fun y=>gEq false x y)=_;rw [h3,cuE O h1];exact uJ bs kl
 show ((lh _ _ δ).map T.d)=_;unfold lh;rw [q1];show ((d2 #f (vB 3) _ δ).map T.d)=_;rw [q2];rfl
df nT (K:PySem.W.Frag):Sp:=fun vs H Q _=>∃ (a:Addr) (ns:List Int),vs=[.ref a]/\SqL K H a (ns.map V.int)/\ns.length<=63/\sx H/\∀ H',Q (.bl true) H'
variable {K:PySem.W.Frag}
theorem Db {vs:List V} {H:Hp} {Q:VK} {E:XK} (h:nT K vs H Q E):spG K 1 wU vs H Q E:=by
 obtain ⟨a,ns,rfl,O,U,Y,q⟩:=h;obtain ⟨ch',W⟩:=main ns U;refine ⟨H,fun _=>a,[.dat (.lst (ns.map .int))],[],.dat (.bl true),ch',⟨Same.refl H,fun i j hi=>absurd hi (ze7 _),fun i hi=>absurd hi (ze7 _),fun i o h=>by simp at h⟩,rfl,⟨_,[],rfl,?_,rfl⟩,W,fun v F' H' ρ' _ o=>?_⟩
 . show Rep K H (.lst (ns.map .int)) (.ref a);simp only [Rep];exact ⟨a,_,rfl,O,Reps.map (fun _=>gn) ns⟩
 . have o:Rep K F' (.bl true) v:=o;simp only [Rep] at o;subst o;exact q H'
theorem all_mk {l:PySem.W.OpenLaw} {w:World} {h:Heap} {mg:Str->Option Value} {fa:Addr} (X:K.In h) (G:h.Ns qc2 mg) (hfa:mg "law"=some (.ref fa))
 (a0:AtF K "_law_cell_at" q33)
 (a1:AtF K "_law_rich" q27)
 (a2:AtF K "_law_big" y43)
 (a3:AtF K "_law_digits" z26)
 (a4:AtF K "_law_row" z24)
 (a5:AtF K "_law_names" z19)
 (a6:AtF K "_law_world" z23)
 (a7:AtF K "_law_program" y11)
 (a8:AtF K "_law_some" q22)
 (a9:AtF K "_law_cutting" q17)
 (a10:AtF K "_law_pool" y16)
 (a11:AtF K "kept_rows" y33)
 (a12:AtF K "ways_of" z46)
 (a13:AtF K "ways" hX)
 (a14:AtF K "inner_ways" y19)
 (a15:AtF K "traced" q35)
 (a16:AtF K "route" z35)
 (a17:AtF K "plain_names" y26)
 (a18:AtF K "mark_behind" y25)
 {cc19 Pt19:Addr} (a19:AtC K "spoilt" q13 cc19 Pt19) (hd19:PySem.W.codeHdIn K cc19 Pt19=true) (to19:pO K "spoilt"=some (Pt19,qW "spoilt" (aI q13)))
 (a20:AtF K "_law_exits" q36)
 (a21:AtF K "_law_reached" q15)
 (a22:AtF K "_law_may" q21)
 (a23:AtF K "_law_whole" z20)
 (a24:AtF K "_law_is_piece" z10)
 (a25:AtF K "_law_spoils" z14)
 (a26:AtF K "law" fw)
 (z_all:PySem.W.nsIn K qc2 "all"=some none)
 (z_bool:PySem.W.nsIn K qc2 "bool"=some none)
 (U:PySem.W.nsIn K qc2 "enumerate"=some none)
 (z_int:PySem.W.nsIn K qc2 "int"=some none)
 (q:PySem.W.nsIn K qc2 "isinstance"=some none)
 (z_len:PySem.W.nsIn K qc2 "len"=some none)
 (z_list:PySem.W.nsIn K qc2 "list"=some none)
 (z_max:PySem.W.nsIn K qc2 "max"=some none)
 (z_min:PySem.W.nsIn K qc2 "min"=some none)
 (z_range:PySem.W.nsIn K qc2 "range"=some none)
 (Y:PySem.W.nsIn K qc2 "reversed"=some none)
 (z_set:PySem.W.nsIn K qc2 "set"=some none)
 (z_sorted:PySem.W.nsIn K qc2 "sorted"=some none)
 (z_tuple:PySem.W.nsIn K qc2 "tuple"=some none)
 {Z:Value} (b_FRESH:PySem.W.nsIn K qc2 "FRESH"=some (some Z)) (r_FRESH:RelV (.str "fresh") Z)
 {u_SAFE:Value} (b_SAFE:PySem.W.nsIn K qc2 "SAFE"=some (some u_SAFE)) (r_SAFE:RelV (.str "safe") u_SAFE)
 {u_SEEN:Value} (b_SEEN:PySem.W.nsIn K qc2 "SEEN"=some (some u_SEEN)) (r_SEEN:RelV (.str "seen") u_SEEN)
 {O:Value} (b_SPOILT:PySem.W.nsIn K qc2 "SPOILT"=some (some O)) (r_SPOILT:RelV (.str "spoilt") O)
 (zIS:qD K=true)
 (kd_bool:g5 K "bool")
 (kd_int:g5 K "int")
 (kd_list:g5 K "list")
 : ∃ fd:qq8,(∀ (s:qa4) (v:Value),zb4 s fd ⟨[v],[]⟩ [("_law_script",v)])/\∀ base:Heap,K.In base->base.Ns qc2 mg->qz mg base->FnOk l.prog w K mg base CX0 5 fa fd ["_law_script"] (nT K):=by
 obtain ⟨f26,oc26,od26,an26,sl26,kV26,dc26,pm26,cd26,ct26,a26,l26,c26,k26⟩:=a26;have e:=hfa.symm.trans (PySem.W.mg_of X G a26);cases e;have T:Txt l.prog w K mg:={n_all:=PySem.W.mg_none_of X G z_all,n_bool:=PySem.W.mg_none_of X G z_bool,n_enumerate:=PySem.W.mg_none_of X G U,n_int:=PySem.W.mg_none_of X G z_int,n_isinstance:=PySem.W.mg_none_of X G q,n_len:=PySem.W.mg_none_of X G z_len,n_list:=PySem.W.mg_none_of X G z_list,n_max:=PySem.W.mg_none_of X G z_max,n_min:=PySem.W.mg_none_of X G z_min,n_range:=PySem.W.mg_none_of X G z_range,n_reversed:=PySem.W.mg_none_of X G Y,n_set:=PySem.W.mg_none_of X G z_set,n_sorted:=PySem.W.mg_none_of X G z_sorted,n_tuple:=PySem.W.mg_none_of X G z_tuple,g_FRESH:=iB ⟨_,PySem.W.mg_of X G b_FRESH,r_FRESH⟩,g_SAFE:=iB ⟨_,PySem.W.mg_of X G b_SAFE,r_SAFE⟩,g_SEEN:=iB ⟨_,PySem.W.mg_of X G b_SEEN,r_SEEN⟩,g_SPOILT:=iB ⟨_,PySem.W.mg_of X G b_SPOILT,r_SPOILT⟩,is:=zIS,k_bool:=kd_bool,k_int:=kd_int,k_list:=kd_list};have D0:DefF K mg "_law_cell_at" q33 ["_law_script","_law_k"]:=a0.df X G fun _ _ _ _ _ _=>el2 fun _ _=>rfl
 have D1:DefF K mg "_law_rich" q27 ["_law_cell","_law_k"]:=a1.df X G fun _ _ _ _ _ _=>el2 fun _ _=>rfl
 have D2:DefF K mg "_law_big" y43 ["_law_script","_law_k"]:=a2.df X G fun _ _ _ _ _ _=>el2 fun _ _=>rfl
 have D3:DefF K mg "_law_digits" z26 ["_law_number","_law_sizes"]:=a3.df X G fun _ _ _ _ _ _=>el2 fun _ _=>rfl
 have D4:DefF K mg "_law_row" z24 ["_law_number","_law_world_here","_law_many"]:=a4.df X G fun _ _ _ _ _ _=>el3 fun _ _ _=>rfl
 have D5:DefF K mg "_law_names" z19 ["_law_number","_law_many"]:=a5.df X G fun _ _ _ _ _ _=>el2 fun _ _=>rfl
 have D6:DefF K mg "_law_world" z23 ["_law_script"]:=a6.df X G fun _ _ _ _ _ _=>el1 fun _=>rfl
 have D7:DefF K mg "_law_program" y11 ["_law_script","_law_most"]:=a7.df X G fun _ _ _ _ _ _=>el2 fun _ _=>rfl
 have D8:DefF K mg "_law_some" q22 ["_law_pool_here","_law_number"]:=a8.df X G fun _ _ _ _ _ _=>el2 fun _ _=>rfl
 have D9:DefF K mg "_law_cutting" q17 ["_law_script","_law_program_here","_law_pool_here"]:=a9.df X G fun _ _ _ _ _ _=>el3 fun _ _ _=>rfl
 have D10:DefF K mg "_law_pool" y16 ["_law_script"]:=a10.df X G fun _ _ _ _ _ _=>el1 fun _=>rfl
 have D11:DefF K mg "kept_rows" y33 ["code"]:=a11.df X G fun _ _ _ _ _ _=>el1 fun _=>rfl
 have D12:DefF K mg "ways_of" z46 ["number","row"]:=a12.df X G fun _ _ _ _ _ _=>el2 fun _ _=>rfl
 have D13:DefF K mg "ways" hX ["program"]:=a13.df X G fun _ _ _ _ _ _=>el1 fun _=>rfl
 have D14:DefF K mg "inner_ways" y19 ["program","code"]:=a14.df X G fun _ _ _ _ _ _=>el2 fun _ _=>rfl
 have D15:DefF K mg "traced" q35 ["came_from","last"]:=a15.df X G fun _ _ _ _ _ _=>el2 fun _ _=>rfl
 have D16:DefF K mg "route" z35 ["starts","behind","fits"]:=a16.df X G fun _ _ _ _ _ _=>el3 fun _ _ _=>rfl
 have D17:DefF K mg "plain_names" y26 ["program"]:=a17.df X G fun _ _ _ _ _ _=>el1 fun _=>rfl
 have D18:DefF K mg "mark_behind" y25 ["mark","row","name"]:=a18.df X G fun _ _ _ _ _ _=>el3 fun _ _ _=>rfl
 have D19:DefC K mg "spoilt" q13 ["program","code","name"] cc19:=a19.df X G fun _ _ _ _ _ _=>el3 fun _ _ _=>rfl
 have D20:DefF K mg "_law_exits" q36 ["_law_rows","_law_at"]:=a20.df X G fun _ _ _ _ _ _=>el2 fun _ _=>rfl
 have D21:DefF K mg "_law_reached" q15 ["_law_rows","_law_keeps","_law_starts","_law_name"]:=a21.df X G fun _ _ _ _ _ _=>el4 fun _ _ _ _=>rfl
 have D22:DefF K mg "_law_may" q21 ["_law_rows","_law_keeps","_law_name"]:=a22.df X G fun _ _ _ _ _ _=>el3 fun _ _ _=>rfl
 have D23:DefF K mg "_law_whole" z20 ["_law_found"]:=a23.df X G fun _ _ _ _ _ _=>el1 fun _=>rfl
 have D24:DefF K mg "_law_is_piece" z10 ["_law_rows","_law_keeps","_law_way"]:=a24.df X G fun _ _ _ _ _ _=>el3 fun _ _ _=>rfl
 have D25:DefF K mg "_law_spoils" z14 ["_law_rows","_law_way","_law_name","_law_shelf"]:=a25.df X G fun _ _ _ _ _ _=>el4 fun _ _ _ _=>rfl
 refine ⟨PySem.W.fnOf "law" "law" (bu fw) (aI fw) (ac fw) .none kV26 dc26 pm26 an26 cd26 ct26,fun s v=>.of_eq rfl,fun base kb _ bm=>?_⟩;have z17:=z65 (P:=l.prog) (w:=w) (base:=base) T D0;have z40:=y73 (P:=l.prog) (w:=w) (base:=base) T D1;have z31:=q75 (P:=l.prog) (w:=w) (base:=base) T D2 z17 z40;have z12:=y68 (P:=l.prog) (w:=w) (base:=base) T D3;have z63:=z75 (P:=l.prog) (w:=w) (base:=base) T D4 z12;have y55:=y70 (P:=l.prog) (w:=w) (base:=base) T D5 z12;have q38:=q71 (P:=l.prog) (w:=w) (base:=base) T D6 z31 z17 z12 y55;have q49:=y62 (P:=l.prog) (w:=w) (base:=base) T D7 z31 z12 z63 q38;have y59:=q73 (P:=l.prog) (w:=w) (base:=base) T D8;have y49:=z64 (P:=l.prog) (w:=w) (base:=base) T D9 z31 z17 z40 y59;have q60:=q74 (P:=l.prog) (w:=w) (base:=base) T D10 q38;have q40:=z73 (P:=l.prog) (w:=w) (base:=base) T D11;have q69:=y76 (P:=l.prog) (w:=w) (base:=base) T D12;have h_ways:=z80 (P:=l.prog) (w:=w) (base:=base) T D13 q69;have z56:=q70 (P:=l.prog) (w:=w) (base:=base) T D14 q40 h_ways;have y61:=z78 (P:=l.prog) (w:=w) (base:=base) T D15;have z68:=y79 (P:=l.prog) (w:=w) (base:=base) T D16 y61;have q53:=y66 (P:=l.prog) (w:=w) (base:=base) T D17;have z52:=z67 (P:=l.prog) (w:=w) (base:=base) T D18;have y60:=y78 (P:=l.prog) (w:=w) (base:=base) T D19 (TabB.mk' kb hd19 bm) (zg rfl to19) z56 z68 q53 z52 q40;have q23:=y69 (P:=l.prog) (w:=w) (base:=base) T D20;have z32:=z62 (P:=l.prog) (w:=w) (base:=base) T D21 q23;have q51:=q76 (P:=l.prog) (w:=w) (base:=base) T D22 z32 q23;have y54:=z70 (P:=l.prog) (w:=w) (base:=base) T D23;have z37:=z60 (P:=l.prog) (w:=w) (base:=base) T D24 q23 y54;have y42:=q67 (P:=l.prog) (w:=w) (base:=base) T D25;exact (Cf T (mL (st:=fw) l26 c26 k26) q49 y49 q60 y60 q51 z37 y42).imp fun vs H Q E z=>Db z
theorem EU {h:Heap} {ts:List Addr} (X:K.In h) (Y:∀ P∈ts,h.get? P=some (PySem.W.tabObj #[])) {O q:Addr} (a0:AtC K "spoilt" q13 O q) (U:PySem.W.codeHdIn K O q=true) (Z:K.lookup q=none) (m0:q∈ts) (e:cA K=[(q,qW "spoilt" (aI q13))]):TabsIn K h:=TabsIn.one X e Z U (Y _ m0)
theorem walk {l:PySem.W.OpenLaw} {q:qc9} {loose:List Str} {XP:(Str->Option Value)->Heap->Prop} {YP:World->Heap->Prop} {d:DefRec} {K:Params->PySem.W.Frag} (U:l.most=some 63) (O:d.params.defaults=[])
  (Z:∀ (w:World) (h:Heap),YP w h->(K w.params).In h) (hT:∀ (w:World) (h:Heap),YP w h->TabsIn (K w.params) h)
  (F:∀ (w:World) (mg:Str->Option Value) (fa:Addr) (h:Heap),(K w.params).In h->h.Ns qc2 mg->mg d.name=some (.ref fa)→
   ∃ fd:qq8,(∀ (s:qa4) (u:Value),zb4 s fd ⟨[u],[]⟩ [("_law_script",u)])/\∀ base:Heap,(K w.params).In base->base.Ns qc2 mg->qz mg base->FnOk l.prog w (K w.params) mg base CX0 5 fa fd ["_law_script"] (nT (K w.params))) :
  PySem.W.WalkO q loose XP YP l.row.toRowW d [] (fun f vs=>PySem.call f vs):=
 L2.Ei (n:=63) (k:=5) (x:="_law_script") (CX:=fun _=>CX0) (sp:=fun w=>nT (K w.params)) U \7 O ⟨rfl,by decide,by decide⟩ Z hT F (fun _ _ a ns hl hO Y=>⟨a,ns,rfl,Y,hl,hO,fun _=>rfl⟩) fun _ _ _ _ _ z=>z
end P34
open PySem PySem.W PyProof.Rows
local macro_rules | `(tactic| walk_at "f") => `(tactic| (refine' L2.AtF.mk ?za ?zl ?zc ?zk; (case za => k_is); (case zl => k_is); (case zc => k_is); (case zk => k_is)))
local macro_rules | `(tactic| walk_at "c") => `(tactic| (refine' L2.AtC.mk ?za ?zl ?zc ?zk ?zx ?zp; (case za => k_is); (case zl => k_is); (case zc => k_is); (case zk => k_is); (case zx => k_is); (case zp => exact rfl)))
set_option maxRecDepth 100000 in
set_option maxHeartbeats 0 in
theorem PySem.Challenge.cw_dimhouse_k34_whole_spoilt_by_a_way_holds : PySem.Challenge.rw_dimhouse_k34_whole_spoilt_by_a_way.Holds := by
 w_on;o_law
 refine holds_open (q:=P34.seen) (loose:=[]) (Xt:=fun s=>xlAt P34.seen [] s&&recOk (zi9 (zg3 PySem.Challenge.rw_dimhouse_k34_whole_spoilt_by_a_way.row)) s) (XP:=XL P34.seen []) (Yf:=Hook.obs P34.hook) (Ya:=Hook.val P34.hook) (YP:=Hook.says P34.hook) (N:=1868) ?hl (Hook.of P34.hook) (Hook.keeps P34.hook) (fun s e=>xl_of s (qw1.mp e).1) XL.keeps (by rfl) (by rfl) (by rfl) (fun s e=>recFacts_of (qw1.mp e).2) (by rfl) (by first | assumption | decide +kernel) \2 ⟨rfl,rfl,rfl,rfl,rfl,by decide +kernel⟩ ?hw ?hc
 case hl=>exact LeftO.of_split "special-get-raises" fun w=>P34.map_two (P34.run_false w) (P34.run_true w)
 case hw=>w_witness2
 delta P34.hook
 k_fill
 refine P34.walk (l:=PySem.Challenge.rw_dimhouse_k34_whole_spoilt_by_a_way) rfl rfl (fun w h Y=>PySem.W.km_in_of Y) ?T ?F
 case T =>
  intro w h Y;refine' P34.EU (PySem.W.km_in_of Y) (PySem.W.km_tabs_of Y) ?a0 ?hd0 ?n0 ?m0 ?e
  (case a0=>walk_at "c")
  (case hd0=>kernel_rfl)
  (case n0=>kernel_rfl)
  (case m0=>simp)
  (case e=>kernel_rfl)
 case F =>
  intro w mg fa h Z G U;refine' P34.all_mk Z G U ?a0 ?a1 ?a2 ?a3 ?a4 ?a5 ?a6 ?a7 ?a8 ?a9 ?a10 ?a11 ?a12 ?a13 ?a14 ?a15 ?a16 ?a17 ?a18 ?a19 ?hd19 ?to19 ?a20 ?a21 ?a22 ?a23 ?a24 ?a25 ?a26 ?z_all ?z_bool ?z_enumerate ?z_int ?z_isinstance ?z_len ?z_list ?z_max ?z_min ?z_range ?z_reversed ?z_set ?z_sorted ?z_tuple ?b_FRESH ?r_FRESH ?b_SAFE ?r_SAFE ?b_SEEN ?r_SEEN ?b_SPOILT ?r_SPOILT ?zIS ?kd_bool ?kd_int ?kd_list
  (case a0=>walk_at "f")
  (case a1=>walk_at "f")
  (case a2=>walk_at "f")
  (case a3=>walk_at "f")
  (case a4=>walk_at "f")
  (case a5=>walk_at "f")
  (case a6=>walk_at "f")
  (case a7=>walk_at "f")
  (case a8=>walk_at "f")
  (case a9=>walk_at "f")
  (case a10=>walk_at "f")
  (case a11=>walk_at "f")
  (case a12=>walk_at "f")
  (case a13=>walk_at "f")
  (case a14=>walk_at "f")
  (case a15=>walk_at "f")
  (case a16=>walk_at "f")
  (case a17=>walk_at "f")
  (case a18=>walk_at "f")
  (case a19=>walk_at "c")
  (case hd19=>kernel_rfl)
  (case to19=>kernel_rfl)
  (case a20=>walk_at "f")
  (case a21=>walk_at "f")
  (case a22=>walk_at "f")
  (case a23=>walk_at "f")
  (case a24=>walk_at "f")
  (case a25=>walk_at "f")
  (case a26=>walk_at "f")
  (case z_all | z_bool | z_enumerate | z_int | z_isinstance | z_len | z_list | z_max | z_min | z_range | z_reversed | z_set | z_sorted | z_tuple | b_FRESH=>k_is)
  (case r_FRESH=>exact ⟨_,rfl⟩)
  (case b_SAFE=>k_is)
  (case r_SAFE=>exact ⟨_,rfl⟩)
  (case b_SEEN=>k_is)
  (case r_SEEN=>exact ⟨_,rfl⟩)
  (case b_SPOILT=>k_is)
  (case r_SPOILT=>exact ⟨_,rfl⟩)
  (case zIS=>kernel_rfl)
  (case kd_bool=>exact fun d O=>by cases d<;>first | (cases O;done) | k_is | rfl)
  (case kd_int=>exact fun d O=>by cases d<;>first | (cases O;done) | k_is | rfl)
  (case kd_list=>exact fun d O=>by cases d<;>first | (cases O;done) | k_is | rfl)
